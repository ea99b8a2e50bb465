import PyProof.Rows.All
import Wide.All
import OpenK.AllK
import Wide.FinOn
import PySem.Challenge.RW_telltight_k35_whole_locks
set_option bootstrap.genMatcherCode false
set_option compiler.extract_closed false
noncomputable section
open Option (bind_some map_some)
open PySem.W (CodeHd Frag InitBack InstAt TabsAt any_some bind_fn callWith_K cellsFrom_some codeHdIn codeHd_of_K codeIn codeRec_of emptyDict findIn findObj_own fnOf get_value handedIn hasDictIn hideAll hideAll_get hideAll_none hideAll_size instObj isFn keepIn ki_setAt ki_setBack kla_callFunE kla_codeExpr kla_eval kla_fn kla_makeFunction kla_makeFunctionHit km_in_of km_tabs_of lookIn looks_clsIn looks_findIn make_core makesIn makes_of mem_of_lookupK methodCall_KW methodObj method_fn mg_none_of mg_of noTabs nsIn of_hideAll osa_open plainGet plainGet_of plainOver set_plain tabObj takerIn truthy_bytes typeIn)
theorem oM {p:Prop} (h:p:=by first | omega | (refine @id (@Ne Nat _ _) ?_;omega)):p:=h
theorem dC {p:Prop} (h:p:=by decide):p:=h
set_option Elab.async false
set_option linter.all false
set_option maxRecDepth 100000
theorem zA{α β}{o:Option α}{f:α->Option β}{b}:o.bind f=some b->∃a,o=some a∧f a=some b:=Option.bind_eq_some_iff.mp
theorem zB:type_of% @List.getElem?_eq_some_iff:=@List.getElem?_eq_some_iff
theorem zC:type_of% @Bool.and_eq_true:=@Bool.and_eq_true
theorem zD:type_of% @List.getD_eq_getElem?_getD:=@List.getD_eq_getElem?_getD
theorem zE:type_of% @Option.map_eq_some_iff:=@Option.map_eq_some_iff
theorem zF:type_of% @List.getElem?_eq_getElem:=@List.getElem?_eq_getElem
theorem zG:type_of% @PySem.Heap.get?_push_of_some:=@PySem.Heap.get?_push_of_some
theorem zH:type_of% @List.length_map:=@List.length_map
theorem zI:type_of% @List.size_toArray:=@List.size_toArray
theorem zJ:type_of% @Nat.lt_of_lt_of_le:=@Nat.lt_of_lt_of_le
theorem zK:type_of% @List.mem_append_right:=@List.mem_append_right
theorem zL:type_of% @List.mem_append_left:=@List.mem_append_left
theorem zM:type_of% @List.mem_singleton:=@List.mem_singleton
theorem zN:type_of% @List.getElem?_append_left:=@List.getElem?_append_left
theorem zO:type_of% @List.map_cons:=@List.map_cons
theorem zP:type_of% @Nat.le_refl:=@Nat.le_refl
theorem zQ:type_of% @List.mem_cons_of_mem:=@List.mem_cons_of_mem
theorem zR:type_of% @List.getElem?_map:=@List.getElem?_map
theorem zS:type_of% @Nat.le_of_ble_eq_true:=@Nat.le_of_ble_eq_true
theorem zT:type_of% @List.mem_cons:=@List.mem_cons
theorem zU:type_of% @Nat.ne_of_lt:=@Nat.ne_of_lt
theorem zV:type_of% @List.length_append:=@List.length_append
theorem zW:type_of% @List.mem_of_getElem?:=@List.mem_of_getElem?
theorem zX:type_of% @List.not_mem_nil:=@List.not_mem_nil
theorem zY:type_of% @PySem.Heap.get?_push_size:=@PySem.Heap.get?_push_size
theorem zZ:type_of% @List.mem_append:=@List.mem_append
theorem z5:type_of% @Nat.le_trans:=@Nat.le_trans
theorem z6:type_of% @List.getElem?_append_right:=@List.getElem?_append_right
theorem z7:type_of% @List.mem_cons_self:=@List.mem_cons_self
theorem z9:type_of% @List.getElem?_of_mem:=@List.getElem?_of_mem
theorem yA:type_of% @decide_eq_false:=@decide_eq_false
theorem yB:type_of% @Bool.false_eq_true:=@Bool.false_eq_true
theorem yC:type_of% @decide_eq_true_eq:=@decide_eq_true_eq
theorem yD:type_of% @List.mem_map:=@List.mem_map
theorem yE:type_of% @Option.some.inj:=@Option.some.inj
theorem yF:type_of% @PySem.wpAny_bind:=@PySem.wpAny_bind
theorem yG:type_of% @PySem.wpAny_pure:=@PySem.wpAny_pure
theorem yH:type_of% @if_neg:=@if_neg
theorem yI:type_of% @if_pos:=@if_pos
theorem yJ:type_of% @PySem.Heap.lt_size:=@PySem.Heap.lt_size
theorem yK:type_of% @eq_of_beq:=@eq_of_beq
theorem yL:type_of% @Nat.ble_eq_true_of_le:=@Nat.ble_eq_true_of_le
theorem yM:type_of% @Nat.lt_of_le_of_lt:=@Nat.lt_of_le_of_lt
theorem yN:type_of% @List.append_assoc:=@List.append_assoc
theorem yO:type_of% @List.lookup_cons:=@List.lookup_cons
theorem yP:type_of% @List.all_eq_true:=@List.all_eq_true
theorem yQ:type_of% @PySem.wpAny_holding:=@PySem.wpAny_holding
theorem yR:type_of% @PySem.wpAny_mono:=@PySem.wpAny_mono
theorem yS:type_of% @Nat.lt_or_ge:=@Nat.lt_or_ge
theorem yT:type_of% @decide_eq_true:=@decide_eq_true
theorem yU:type_of% @List.getElem?_set:=@List.getElem?_set
theorem yV:type_of% @List.length_cons:=@List.length_cons
theorem yW:type_of% @Nat.le_of_lt:=@Nat.le_of_lt
theorem yX:type_of% @Nat.lt_irrefl:=@Nat.lt_irrefl
namespace L2
open PySem PySem.Spec PyProof.Rows
abbrev aZ:=Sum Int Str
def gY:aZ->Value->Bool
 | .inl k,v=>Value.isInt k v
 | .inr x,v=>Value.isStrOf x v
def KR (w:World):aZ->Int
 | .inl k=>hashInt k
 | .inr x=>hashStr w x
theorem cx:∀ {k:aZ}{v:Value},gY k v=true->(∃ i t,k=Sum.inl i/\v=Value.int i t)\/(∃ x t,k=Sum.inr x/\v=Value.str x t)
 | .inl i,v,h=>by
  obtain ⟨t,e⟩:=Value.isInt_shape (k:=i) (v:=v) h;exact .inl ⟨i,t,rfl,e⟩
 | .inr x,v,h=>by
  obtain ⟨t,e⟩:=Value.isStrOf_shape (x:=x) (v:=v) h;exact .inr ⟨x,t,rfl,e⟩
theorem wI (i:Int) (t:Tok):gY (.inl i) (.int i t)=true:=by simp [gY,Value.isInt]
theorem wG (x:Str) (t:Tok):gY (.inr x) (.str x t)=true:=by simp [gY,Value.isStrOf]
theorem FY (a b:Int):decide ((Sum.inl a:aZ)=Sum.inl b)=(a == b):=by
 by_cases e:a=b
 ·subst e;simp
 ·have h:¬ (Sum.inl a:aZ)=Sum.inl b:=fun q=>e (Sum.inl.inj q)
  rw [yA h];exact (beq_eq_false_iff_ne.mpr e).symm
theorem FV (a b:Str):decide ((Sum.inr a:aZ)=Sum.inr b)=decide (a=b):=by
 by_cases e:a=b
 ·subst e;simp
 ·have h:¬ (Sum.inr a:aZ)=Sum.inr b:=fun q=>e (Sum.inr.inj q)
  rw [yA h,yA e]
theorem FX (a:Int) (b:Str):decide ((Sum.inl a:aZ)=Sum.inr b)=false:=yA (fun q=>nomatch q)
theorem FW (a:Str) (b:Int):decide ((Sum.inr a:aZ)=Sum.inl b)=false:=yA (fun q=>nomatch q)
def bO (prog:Program) (w:World):PySem.KeyKind prog w aZ where
 is:=gY
 hash:=KR w
 inj:=fun v a b ha hb=>by
  rcases cx ha with ⟨i,t,rfl,rfl⟩ | ⟨x,t,rfl,rfl⟩
  ·rcases cx hb with ⟨j,u,rfl,e⟩ | ⟨y,u,rfl,e⟩
   ·injection e with e1 _;rw [e1]
   ·exact nomatch e
  ·rcases cx hb with ⟨j,u,rfl,e⟩ | ⟨y,u,rfl,e⟩
   ·exact nomatch e
   ·injection e with e1 _;rw [e1]
 byValue:=fun k v h=>by
  rcases cx h with ⟨i,t,rfl,rfl⟩ | ⟨x,t,rfl,rfl⟩ <;> rfl
 pyHash:=fun hv h=>by
  rcases cx hv with ⟨i,t,rfl,rfl⟩ | ⟨x,t,rfl,rfl⟩
  ·exact wpAny_pyHash_int h
  ·exact wpAny_pyHash_str h
 eqBool:=fun hu hv h=>by
  rcases cx hu with ⟨i,t,rfl,rfl⟩ | ⟨x,t,rfl,rfl⟩
  ·rcases cx hv with ⟨j,u,rfl,rfl⟩ | ⟨y,u,rfl,rfl⟩
   ·rw [FY] at h;exact wpAny_eqBool_int h
   ·rw [FX] at h;exact SeqAt.EqAt.int_str i t y u _ _ _ _ h
  ·rcases cx hv with ⟨j,u,rfl,rfl⟩ | ⟨y,u,rfl,rfl⟩
   ·rw [FW] at h;exact SeqAt.EqAt.str_int x t j u _ _ _ _ h
   ·rw [FV] at h;exact wpAny_eqBool_str h
 «strs»:=fun k x t v h=>by
  rcases cx h with ⟨i,u,rfl,e⟩ | ⟨y,u,rfl,e⟩
  ·exact nomatch e
  ·injection e with e1 _
   subst e1;cases v <;> rfl
theorem sv (prog:Program) (w:World) (i:Int) (t:Tok):(bO prog w).is (.inl i) (.int i t)=true:=wI i t
theorem sr (prog:Program) (w:World) (x:Str) (t:Tok):(bO prog w).is (.inr x) (.str x t)=true:=wG x t
inductive V where
 | non | bl (b:Bool) | int (i:Int) | str (x:Str) | byt (b:Array UInt8) | flt (b:UInt64) | ref (a:Addr) | ty (n:String)
 deriving DecidableEq
def RelV:V->Value->Prop
 | .non,u=>u=Value.none
 | .bl b,u=>u=Value.bool b
 | .int i,u=>∃ t,u=Value.int i t
 | .str x,u=>∃ t,u=Value.str x t
 | .byt b,u=>∃ t,u=Value.bytes b t
 | .flt b,u=>∃ t,u=Value.float b t
 | .ref a,u=>u=Value.ref a
 | .ty n,u=>u=Value.type n
abbrev Vals:List V->List Value->Prop:=Paired RelV
theorem Vals.length {xs:List V}{us:List Value} (r:Vals xs us):xs.length=us.length:=Paired.length r
theorem Vals.get:∀ {xs:List V}{us:List Value}{i:Nat}{x:V},Vals xs us->xs[i]?=some x->∃ u,us[i]?=some u/\RelV x u
 | _,_,_,_,.nil,e=>by simp at e
 | _,_,0,_,.cons r _,e=>by simp at e;subst e;exact ⟨_,rfl,r⟩
 | _,_,i + 1,x,.cons _ t,e=>by
  obtain ⟨u,h1,h2⟩:=Vals.get (i:=i) (x:=x) t (by simpa using e);exact ⟨u,by simpa using h1,h2⟩
theorem Vals.set {x:V}{u:Value} (r:RelV x u):∀ {xs:List V}{us:List Value} (i:Nat),Vals xs us->Vals (xs.set i x) (us.set i u)
 | _,_,_,.nil=>.nil
 | _,_,0,.cons _ t=>.cons r t
 | _,_,i + 1,.cons q t=>.cons q (Vals.set r i t)
theorem Vals.append:∀ {xs ys:List V}{us ws:List Value},Vals xs us->Vals ys ws->Vals (xs++ys) (us++ws):=by
 intro xs ys us ws h s
 induction h with
 | nil=>exact s
 | cons r t ih=>exact .cons r ih
theorem Vals.take:∀ {xs:List V}{us:List Value} (n:Nat),Vals xs us->Vals (xs.take n) (us.take n):=by
 intro xs us n h
 induction h generalizing n with
 | nil=>cases n <;> exact .nil
 | cons r t ih=>cases n with
  | zero=>exact .nil
  | succ n=>exact .cons r (ih n)
theorem Vals.drop:∀ {xs:List V}{us:List Value} (n:Nat),Vals xs us->Vals (xs.drop n) (us.drop n):=by
 intro xs us n h
 induction h generalizing n with
 | nil=>cases n <;> exact .nil
 | cons r t ih=>cases n with
  | zero=>exact .cons r t
  | succ n=>exact ih n
def RelO:Option V->Option Value->Prop
 | some v,some u=>RelV v u
 | none,none=>True
 | _,_=>False
def KV {κ:Type}:List (κ × V)->List (κ × Value)->Prop:=Paired fun (p:κ × V) (q:κ × Value)=>p.1=q.1/\RelV p.2 q.2
def kV:aZ->V
 | .inl i=>.int i
 | .inr x=>.str x
inductive HO where
  | lst (xs:List V)
  | tup (xs:List V)
  | dK (Nr:List (aZ × V)) | dT (Nr:List (List aZ × V))
  | set (S:Int->Bool) (n:Nat)
  | ins (C dx:Addr) (fs:List (Str × V))
  | own (x:Addr)
  | xd (fs:List (Str × V))
  | met (f x:Addr)
  | rng (lo hi:Int)
  | frz (o:Obj) (u:HO)
  | tbl (ps:Array Value)
  | ext (φ:Heap->Prop)
abbrev Hp:=Addr->Option HO
def af (H:Hp) (a:Addr) (o:HO):Hp:=fun b=>if b=a then some o else H b
theorem aw {H:Hp}{a:Addr}{o:HO}:af H a o a=some o:=by unfold af;rw [yI rfl]
theorem ae {H:Hp}{a b:Addr}{o:HO} (h:b ≠ a):af H a o b=H b:=by unfold af;rw [yH h]
theorem uA {H:Hp}{a b:Addr}{o u:HO} (h:H a=some o) (h':H b=some u) (d:o ≠ u):a ≠ b:=by
 intro e;subst e;rw [h] at h';exact d (yE h')
theorem a0 {H:Hp}{a b:Addr}{o:HO} (h:H a=some o) (h':H b=none):a ≠ b:=by
 intro e;subst e;rw [h] at h';cases h'
section
variable (P:Program) (w:World)
def ObjOk (H:Hp) (h:Heap) (a:Addr):HO->Prop
 | .lst xs=>xs.length <= sizeLine/\∃ (Nu:List Value) (n:Nat),Vals xs Nu/\h.get? a=some { cls:=.type "list",data:=.seq Nu.toArray n }
 | .tup xs=>xs.length <= sizeLine/\∃ Nu:List Value,Vals xs Nu/\IsTup h a Nu.toArray
 | .dK Nr=>Nr.length <= sizeLine/\(a == sysModules)=false/\∃ vs,KV Nr vs/\h.DictOf (bO P w) a vs
 | .dT Nr=>Nr.length <= sizeLine/\(a == sysModules)=false/\∃ xs:List (List aZ × Addr × Value),
   Paired (fun (p:List aZ × V) (q:List aZ × Addr × Value)=>p.1=q.1/\H q.2.1=some (.tup (p.1.map kV))/\RelV p.2 q.2.2) Nr xs /\
   ∃ o es ep,h.get? a=some o/\o.ExactDict/\o.data=.dict es ep/\es.toList=xs.map (entryOfKey (tupleKind (bO P w)))/\(xs.map (·.1)).Nodup
 | .set S n=>h.SetOf (intKind P w) a S n
 | .ins C dx fs=>H dx=some (.own a)/\fs.length <= 1000/\dx ≠ a/\h.get? a=some (instObj C dx) /\
   ∃ mA,h.Ns1 dx mA/\(∀ f,RelO (fs.lookup f) (mA f))/\PySem.Within mA (fs.map (·.1))
 | .own _=>∃ o,h.get? a=some o
 | .xd fs=>∃ mA,h.Ns1 a mA/\∀ f,RelO (fs.lookup f) (mA f)
 | .rng lo hi=>∃ t u v,h.get? a=some { cls:=.type "range",data:=.fields #[.int lo t,.int hi u,.int 1 v] }
 | .frz o u=>h.get? a=some o/\ObjOk H h a u
 | .tbl ps=>h.get? a=some { cls:=.none,data:=.fields ps }
 | .met f x=>h.get? a=some (methodObj (.ref f) (.ref x))
 | .ext φ=>φ h/\(∃ o,h.get? a=some o)/\∀ h1 h2:Heap,φ h1->(∀ o,h1.get? a=some o->h2.get? a=some o)->φ h2
def HOk (H:Hp) (h:Heap):Prop:=∀ a o,H a=some o->ObjOk P w H h a o
end
section
variable {P:Program}{w:World}{H H':Hp}{h h':Heap}{a:Addr}{o:HO}
theorem ObjOk.lt (x:ObjOk P w H h a o):a < h.objs.size:=by
 cases o with
 | lst xs=>obtain ⟨_,_,_,_,e⟩:=x;exact yJ e
 | tup xs=>obtain ⟨_,_,_,p⟩:=x;exact p.lt
 | dK Nr=>obtain ⟨_,_,_,_,o,_,_,e,_⟩:=x;exact yJ e
 | dT Nr=>obtain ⟨_,_,_,_,o,_,_,e,_⟩:=x;exact yJ e
 | set S n=>obtain ⟨o,_,_,_,e,_⟩:=x;exact yJ e
 | ins C dx fs=>obtain ⟨_,_,_,e,_⟩:=x;exact yJ e
 | own y=>obtain ⟨_,e⟩:=x;exact yJ e
 | xd fs=>obtain ⟨_,⟨_,_,_,e,_⟩,_⟩:=x;exact yJ e
 | rng lo hi=>obtain ⟨_,_,_,e⟩:=x;exact yJ e
 | frz ob u=>obtain ⟨e,_⟩:=x;exact yJ e
 | tbl ps=>exact yJ (show h.get? a=some _ from x)
 | met f y=>exact yJ (show h.get? a=some _ from x)
 | ext φ=>obtain ⟨_,⟨_,e⟩,_⟩:=x;exact yJ e
theorem Paired.mapP {α β:Type}{F G:α->β->Prop}:∀ {l₁:List α}{l₂:List β},Paired F l₁ l₂->(∀ a b,F a b->G a b)->Paired G l₁ l₂:=by
 intro l₁ l₂ h f
 induction h with
 | nil=>exact .nil
 | cons r t ih=>exact .cons (f _ _ r) ih
theorem ObjOk.stay (x:ObjOk P w H h a o) (k:∀ b u,(b=a\/H b=some (.own a))->h.get? b=some u->h'.get? b=some u)
  (ho:∀ b,H b=some (.own a)->H' b=some (.own a)) (ht:∀ b xs,H b=some (.tup xs)->H' b=some (.tup xs)):ObjOk P w H' h' a o:=by
 induction o with
 | lst xs=>obtain ⟨z,Nu,n,r,e⟩:=x;exact ⟨z,Nu,n,r,k _ _ (.inl rfl) e⟩
 | tup xs=>obtain ⟨z,Nu,r,ob,e,c⟩:=x;exact ⟨z,Nu,r,ob,k _ _ (.inl rfl) e,c⟩
 | dK Nr=>obtain ⟨z,y,vs,r,ob,es,ep,e,c⟩:=x;exact ⟨z,y,vs,r,ob,es,ep,k _ _ (.inl rfl) e,c⟩
 | dT Nr =>
  obtain ⟨z,y,xs,r,ob,es,ep,e,c⟩:=x;exact ⟨z,y,xs,Paired.mapP r fun p q z=>⟨z.1,ht _ _ z.2.1,z.2.2⟩,ob,es,ep,k _ _ (.inl rfl) e,c⟩
 | set S n=>obtain ⟨ob,es,ep,t,e,c⟩:=x;exact ⟨ob,es,ep,t,k _ _ (.inl rfl) e,c⟩
 | ins C dx fs =>
  obtain ⟨d,z,ne,e,mA,⟨od,es,ep,e2,c⟩,r⟩:=x;exact ⟨ho _ d,z,ne,k _ _ (.inl rfl) e,mA,⟨od,es,ep,k _ _ (.inr d) e2,c⟩,r⟩
 | own y=>obtain ⟨ob,e⟩:=x;exact ⟨ob,k _ _ (.inl rfl) e⟩
 | xd fs=>obtain ⟨mA,⟨od,es,ep,e,c⟩,r⟩:=x;exact ⟨mA,⟨od,es,ep,k _ _ (.inl rfl) e,c⟩,r⟩
 | rng lo hi=>obtain ⟨t,u,v,e⟩:=x;exact ⟨t,u,v,k _ _ (.inl rfl) e⟩
 | frz ob u ih=>obtain ⟨e,q⟩:=x;exact ⟨k _ _ (.inl rfl) e,ih q⟩
 | tbl ps =>
  have e:h.get? a=some { cls:=.none,data:=.fields ps }:=x;show h'.get? a=some { cls:=.none,data:=.fields ps };exact k a _ (.inl rfl) e
 | met f y =>
  have e:h.get? a=some (methodObj (.ref f) (.ref y)):=x;show h'.get? a=some (methodObj (.ref f) (.ref y));exact k a _ (.inl rfl) e
 | ext φ=>obtain ⟨p,⟨o,e⟩,st⟩:=x;exact ⟨st _ _ p fun o q=>k _ _ (.inl rfl) q,⟨o,k _ _ (.inl rfl) e⟩,st⟩
theorem HOk.lt (x:HOk P w H h) (e:H a=some o):a < h.objs.size:=(x a o e).lt
theorem HOk.fresh (x:HOk P w H h) (e:h.objs.size <= a):H a=none:=by
 cases q:H a with
 | none=>rfl
 | some u=>exact absurd (zJ (x.lt q) e) (yX _)
theorem HOk.kept (x:HOk P w H h) (k:∀ b u,h.get? b=some u->h'.get? b=some u):HOk P w H h':=fun a o e =>
 (x a o e).stay (fun b u _ q=>k b u q) (fun _ q=>q) fun _ _ q=>q
theorem HOk.laid (x:HOk P w H h) (k:∀ b u,h.get? b=some u->h'.get? b=some u) (hp:h.objs.size <= a) (new:ObjOk P w (af H a o) h' a o):HOk P w (af H a o) h':=fun b u e=>by
 have hn:=x.fresh hp;by_cases hb:b=a
 ·subst hb;rw [aw] at e;cases e;exact new
 ·rw [ae hb] at e
  exact (x b u e).stay (fun c v _ q=>k c v q) (fun c q=>by rw [ae (a0 q hn)];exact q) fun c xs q=>by rw [ae (a0 q hn)];exact q
end
def Rd (H:Hp) (a:Addr) (u:HO):Prop:=H a=some u\/∃ o,H a=some (.frz o u)
theorem Rd.ok {P:Program}{w:World}{H:Hp}{h:Heap}{a:Addr}{u:HO} (r:Rd H a u) (x:HOk P w H h):ObjOk P w H h a u:=by
 rcases r with r | ⟨o,r⟩
 ·exact x a u r
 ·obtain ⟨_,q⟩:=x a _ r
  exact q
def xt:Option HO->Prop
 | some (.lst _)=>True
 | some (.dK _)=>True
 | some (.dT _)=>True
 | some (.set _ _)=>True
 | some (.ins _ _ _)=>True
 | some (.ext _)=>True
 | _=>False
section
variable {P:Program}{w:World}{H:Hp}{h h':Heap}{x e:Addr}{o':HO}
theorem HOk.write (ok:HOk P w H h) (mu:xt (H x)) (he:e=x\/H e=some (.own x)) (k:∀ b u,b ≠ e->h.get? b=some u->h'.get? b=some u) (heo:∃ u,h'.get? e=some u)
  (new:ObjOk P w (af H x o') h' x o'):HOk P w (af H x o') h':=fun b u q=>by
 have nown:∀ c y,H c=some (.own y)->c ≠ x:=fun c y r z=>by subst z;rw [r] at mu;exact mu
 have ntup:∀ c xs,H c=some (.tup xs)->c ≠ x:=fun c xs r z=>by subst z;rw [r] at mu;exact mu
 by_cases hb:b=x
 ·subst hb;rw [aw] at q;cases q;exact new
 ·rw [ae hb] at q
  by_cases hbe:b=e
  ·have q':H b=some (.own x):=by
    rcases he with z | z
    ·exact absurd (hbe.trans z) hb
    ·rw [hbe];exact z
   rw [q] at q';cases q';obtain ⟨v,hv⟩:=heo;exact ⟨v,by rw [hbe];exact hv⟩
  ·refine (ok b u q).stay (fun c v hc r=>k c v ?_ r) (fun c r=>by rw [ae (nown c b r)];exact r) fun c xs r=>by rw [ae (ntup c xs r)];exact r
   rcases hc with rfl | hc
   ·exact hbe
   ·rintro rfl
    rcases he with z | z
    ·exact nown c b hc z
    ·rw [hc] at z;cases z;exact hb rfl
end
structure Un (fs ex:List Addr) (H H':Hp) (h h':Heap):Prop where
 keep:∀ b o,h.get? b=some o->H b=none->b ∉ fs->b ∉ ex->h'.get? b=some o
 slot:∀ b o,h.get? b=some o->H b=none->b ∈ fs->b ∉ ex->∃ sl,h'.get? b=some { o with slots:=sl }
 free:∀ b o,h.get? b=some o->H b=none->b ∉ ex->H' b=none
 there:∀ b o,h.get? b=some o->b ∉ ex->∃ o',h'.get? b=some o'
 tups:∀ b xs,H b=some (.tup xs)->H' b=some (.tup xs)
 frzs:∀ b o u,H b=some (.frz o u)->H' b=some (.frz o u)
 tbls:∀ b ps,H b=some (.tbl ps)->∃ more,H' b=some (.tbl (ps++more))
section
variable {fs fs' ex ex':List Addr}{H H1 H2:Hp}{h h1 h2 h':Heap}{a x e:Addr}{o:HO}
theorem Un.any (u:Un fs ex H H1 h h1) {b:Addr}{ob:Obj} (q:h.get? b=some ob) (n:H b=none) (hx:b ∉ ex):∃ sl,h1.get? b=some { ob with slots:=sl }:=by
 by_cases hb:b ∈ fs
 ·exact u.slot b ob q n hb hx
 ·exact ⟨ob.slots,u.keep b ob q n hb hx⟩
theorem Un.kept (k:∀ b u,h.get? b=some u->h'.get? b=some u):Un fs ex H H h h' :=
 ⟨fun b ob q _ _ _=>k b ob q,fun b ob q _ _ _=>⟨ob.slots,k b ob q⟩,fun _ _ _ n _=>n,fun b ob q _=>⟨ob,k b ob q⟩,fun _ _ q=>q,fun _ _ _ q=>q,fun _ ps q=>⟨#[],by rw [q];simp⟩⟩
theorem Un.refl:Un fs ex H H h h:=Un.kept fun _ _ q=>q
theorem Un.laid (k:∀ b u,h.get? b=some u->h'.get? b=some u) (hp:h.objs.size <= a) (hn:H a=none):Un fs ex H (af H a o) h h' where
 keep:=fun b u q _ _ _=>k b u q
 slot:=fun b u q _ _ _=>⟨u.slots,k b u q⟩
 free:=fun b u q n _=>by rw [ae (zU (zJ (yJ q) hp))];exact n
 there:=fun b u q _=>⟨u,k b u q⟩
 tups:=fun b xs q=>by rw [ae (a0 q hn)];exact q
 frzs:=fun b u xs q=>by rw [ae (a0 q hn)];exact q
 tbls:=fun b ps q=>⟨#[],by rw [ae (a0 q hn),q];simp⟩
theorem Un.write (mu:xt (H x)) (he:e=x\/H e=some (.own x)) (k:∀ b u,b ≠ e->h.get? b=some u->h'.get? b=some u) (heo:∃ u,h'.get? e=some u):Un fs ex H (af H x o) h h':=by
 have hx:∀ b,H b=none->b ≠ x:=fun b n z=>by subst z;rw [n] at mu;exact mu
 have hb:∀ b,H b=none->b ≠ e:=fun b n z=>by
  subst z;rcases he with r | r
  ·exact hx b n r
  ·rw [n] at r;cases r
 have hm:∀ b u,H b=some u->¬ xt (some u)->b ≠ x:=fun b u q nm z=>by subst z;rw [q] at mu;exact nm mu
 refine ⟨fun b u q n _ _=>k b u (hb b n) q,fun b u q n _ _=>⟨u.slots,k b u (hb b n) q⟩,fun b u q n _=>by rw [ae (hx b n)];exact n,fun b u q _=>?_,
  fun b xs q=>by rw [ae (hm b _ q fun z=>z)];exact q,fun b u xs q=>by rw [ae (hm b _ q fun z=>z)];exact q,fun b ps q=>⟨#[],by rw [ae (hm b _ q fun z=>z),q];simp⟩⟩
 by_cases hbe:b=e
 ·subst hbe;exact heo
 ·exact ⟨u,k b u hbe q⟩
end
def Ax (h:Heap) (H:Hp):List Addr:=(List.range h.objs.size).filter fun a=>(H a).isSome
def iY (h:Heap) (H:Hp):Heap:=hideAll h (Ax h H)
theorem wO (h:Heap) (H:Hp):(iY h H).objs.size=h.objs.size:=hideAll_size _ _
theorem zw {h:Heap}{H:Hp}{b:Addr}{o:Obj} (e:h.get? b=some o) (n:H b=none):(iY h H).get? b=some o :=
 hideAll_get _ e fun hm=>by
  have q:(H b).isSome=true:=(List.mem_filter.mp hm).2;rw [n] at q;simp at q
theorem CN {h:Heap}{H:Hp}{b:Addr}{o:Obj} (e:(iY h H).get? b=some o):h.get? b=some o/\H b=none:=by
 have e':h.get? b=some o:=of_hideAll (Ax h H) e;refine ⟨e',?_⟩;cases q:H b with
 | none=>rfl
 | some x =>
  have hm:b ∈ Ax h H:=List.mem_filter.mpr ⟨List.mem_range.mpr (yJ e'),by simp [q]⟩;have z:(iY h H).get? b=none:=hideAll_none (Ax h H) hm;rw [z] at e;cases e
structure Mod (K:Frag) (mg:Str->Option Value) (base:Heap):Prop where
 kin:K.In base
 glob:base.Ns mainGlobals mg
 blt:∃ mb,base.Ns builtinsNs mb/\∀ x:Str,x ≠ "__name__"->mb x=bootBuiltins x
 nolimit:base.NoLimit
structure Cx where
 prog:Program
 w:World
 K:Frag
 mg:Str->Option Value
 base:Heap
 A:Around
 N:List Str
 s₀:Shared
 H₀:Hp
 env:Env
 outer:List Env
 stack:List Env
 ex:List Addr
 fn:Str->Bool
 calm:Bool
 pn:List (Addr × Obj)
 xe:Value->Shared->Prop
noncomputable def jp (l:List Env):List Addr:=l.filterMap (·.frame)
abbrev Cx.fs (X:Cx):List Addr:=jp X.outer
def xn (sc:Scope) (x:Str):Prop:=sc.names.lookup x=some .local\/sc.names.lookup x=some .cell\/sc.names.lookup x=some .free
def Loc (sc:Scope) (x:Str):Prop:=sc.names.lookup x=some .local\/sc.names.lookup x=some .cell
def Ls (env:Env) (h:Heap) (m:Str->Option Value) (x:Str) (u:Value):Prop :=
 (env.kindOf x=some .local/\m x=some u)\/((env.kindOf x=some .cell\/env.kindOf x=some .free)/\∃ c,env.cells.lookup x=some c/\h.IsCell c (some u))
structure Cx.Ok (X:Cx):Prop where
 mod:Mod X.K X.mg X.base
 kind:X.env.scope.kind=.function
 glob:X.env.globals=mainGlobals
 blt:X.env.builtins=builtinsNs
 above:X.s₀.heap.objs.size <= X.env.locals
 inj:∀ x y c,X.env.cells.lookup x=some c->X.env.cells.lookup y=some c->x=y
 has:∀ x,(X.env.kindOf x=some .cell\/X.env.kindOf x=some .free)->∃ c,X.env.cells.lookup x=some c
 cab:∀ x c,X.fn x=true->X.env.cells.lookup x=some c->X.s₀.heap.objs.size <= c
 hd:X.calm=true->X.A.handled=none
 frames:X.A.frames=some X.stack
 stk:X.stack=X.outer\/(X.stack=X.env::X.outer/\X.env.frame=some X.env.locals)
 exf:∀ b ∈ X.ex,b ≠ X.env.locals/\∀ x c,X.env.cells.lookup x=some c->c ≠ b
 bs:∀ b o,X.base.get? b=some o->X.s₀.heap.get? b=some o/\X.H₀ b=none
 bsz:X.base.objs.size <= X.s₀.heap.objs.size
 noex:∀ b o,X.base.get? b=some o->b ∉ X.ex
 exfs:∀ b ∈ X.ex,b ∉ X.fs
 funs:X.s₀.heap.FunFrames X.base X.outer
 frf:∀ b ∈ X.fs,X.H₀ b=none
structure Inv (X:Cx) (Np:List (Addr × Obj)) (σ:List (Option V)) (H:Hp) (s:Shared):Prop where
 ok:X.Ok
 os:s.os=X.s₀.os
 bare:AllBare s.gens
 base:Un X.fs X.ex X.H₀ H X.s₀.heap s.heap
 loc:∃ m,s.heap.Ns X.env.locals m/\∀ (i:Nat) (x:Str) (v:V),X.N[i]?=some x->σ[i]?=some (some v)->xn X.env.scope x->∃ u,RelV v u/\Ls X.env s.heap m x u
 cell:∀ x c,X.env.cells.lookup x=some c->∃ v,s.heap.IsCell c v
 free:H X.env.locals=none
 freeC:∀ x c,X.env.cells.lookup x=some c->H c=none
 pin:∀ p ∈ X.pn++Np,s.heap.get? p.1=some p.2/\H p.1=none/\p.1 ≠ X.env.locals/\p.1 ∉ X.fs/\∀ v,p.2.data ≠ .cell v
 Ny:HOk X.prog X.w H s.heap
 len:σ.length=X.N.length
section
variable {X:Cx}{Np:List (Addr × Obj)}{σ:List (Option V)}{H H':Hp}{s:Shared}{h':Heap}
theorem Cx.Ok.nofr (ok:X.Ok) {b:Addr}{o:Obj} (e:X.base.get? b=some o):b ∉ X.fs:=fun hb=>by
 have:=(ok.funs.mem hb).1
 rw [e] at this;cases this
theorem Inv.bs (I:Inv X Np σ H s):∀ b o,X.base.get? b=some o->s.heap.get? b=some o/\H b=none:=fun b o e =>
 ⟨I.base.keep b o (I.ok.bs b o e).1 (I.ok.bs b o e).2 (I.ok.nofr e) (I.ok.noex b o e),I.base.free b o (I.ok.bs b o e).1 (I.ok.bs b o e).2 (I.ok.noex b o e)⟩
theorem Inv.bk (I:Inv X Np σ H s):∀ b o,X.base.get? b=some o->s.heap.get? b=some o:=fun b o e=>(I.bs b o e).1
theorem Inv.mod (I:Inv X Np σ H s):Mod X.K X.mg X.base:=I.ok.mod
theorem Inv.kIn (I:Inv X Np σ H s):X.K.In s.heap:=I.ok.mod.kin.keeps I.bk
theorem Inv.nolimit (I:Inv X Np σ H s):s.heap.NoLimit:=I.ok.mod.nolimit.keeps I.bk
theorem Inv.lt (I:Inv X Np σ H s):X.env.locals < s.heap.objs.size:=let ⟨_,hn,_⟩:=I.loc;hn.lt
theorem Inv.sz (I:Inv X Np σ H s):X.s₀.heap.objs.size <= s.heap.objs.size:=z5 I.ok.above (yW I.lt)
theorem Inv.nofs (I:Inv X Np σ H s) {a:Addr} (h:s.heap.objs.size <= a):a ∉ X.fs:=fun hb=>by
 obtain ⟨_,o,ho,_⟩:=I.ok.funs.mem hb;exact absurd (zJ (yJ ho) (z5 I.sz h)) (yX _)
theorem Inv.cne (I:Inv X Np σ H s):∀ x c,X.env.cells.lookup x=some c->c ≠ X.env.locals:=fun x c e z=>by
 obtain ⟨v,o,ho,hd⟩:=I.cell x c e;obtain ⟨m,⟨o',es,ep,ho',hd',_⟩,_⟩:=I.loc;rw [z,ho'] at ho;cases ho;rw [hd'] at hd;cases hd
theorem Inv.funs (I:Inv X Np σ H s):s.heap.FunFrames X.base X.outer:=by
 have all:∀ (l:List Env),(∀ b ∈ jp l,b ∈ X.fs)->X.s₀.heap.FunFrames X.base l->s.heap.FunFrames X.base l:=by
  intro l
  induction l with
  | nil=>intro _ _;trivial
  | cons env r ih =>
   intro hs hl;obtain ⟨hk,⟨L,o,hf,hn,ho,hd⟩,hr⟩:=hl;have hL:L ∈ X.fs:=hs L (by unfold jp;rw [List.filterMap_cons,hf];exact z7);obtain ⟨sl,e⟩:=I.base.slot L o ho (I.ok.frf L hL) hL fun z=>I.ok.exfs L z hL
   exact ⟨hk,⟨L,_,hf,hn,e,hd⟩,ih (fun b hb=>hs b (by unfold jp;rw [List.filterMap_cons,hf];exact zQ _ hb)) hr⟩
 exact all X.outer (fun _ hb=>hb) I.ok.funs
theorem Inv.stack (I:Inv X Np σ H s):s.heap.FunFrames X.base X.stack:=by
 rcases I.ok.stk with e | ⟨e,hf⟩
 ·rw [e];exact I.funs
 ·rw [e]
  obtain ⟨m,hn,_⟩:=I.loc;refine .cons (by rw [I.ok.kind];decide) hf hn ?_ I.funs;exact Heap.get?_none_of_le (z5 I.ok.bsz I.ok.above)
theorem Inv.stkSub (I:Inv X Np σ H s):∀ b ∈ jp X.stack,b ∈ X.env.locals::X.fs:=fun b hb=>by
 rcases I.ok.stk with e | ⟨e,hf⟩
 ·rw [e] at hb;exact zQ _ hb
 ·rw [e] at hb
  unfold jp at hb;rw [List.filterMap_cons,hf] at hb;exact hb
theorem Inv.stkFree (I:Inv X Np σ H s):∀ b ∈ jp X.stack,H b=none:=fun b hb=>by
 rcases zT.mp (I.stkSub b hb) with e | hb
 ·rw [e];exact I.free
 ·obtain ⟨_,o,ho,_⟩:=I.ok.funs.mem hb
  exact I.base.free b o ho (I.ok.frf b hb) fun z=>I.ok.exfs b z hb
theorem Inv.step {g':Array GenState}{t':Nat}{d':Drawn}{ch:List Addr} (I:Inv X Np σ H s)
  (hch:∀ b ∈ ch,(b ∈ X.ex\/X.s₀.heap.objs.size <= b)/\b ≠ X.env.locals/\(∀ x c,X.env.cells.lookup x=some c->c ≠ b)/\∀ p ∈ X.pn++Np,p.1 ≠ b)
  (keep:∀ b o,b ≠ X.env.locals->b ∉ X.fs->b ∉ ch->s.heap.get? b=some o->H b=none->h'.get? b=some o)
  (slot:∀ b o,b ≠ X.env.locals->b ∈ X.fs->b ∉ ch->s.heap.get? b=some o->H b=none->∃ sl,h'.get? b=some { o with slots:=sl }) (free:∀ b o,b ∉ ch->s.heap.get? b=some o->H b=none->H' b=none)
  (there:∀ b o,b ∉ ch->s.heap.get? b=some o->∃ o',h'.get? b=some o')
  (tups:∀ b xs,H b=some (.tup xs)->H' b=some (.tup xs)) (frzs:∀ b o u,H b=some (.frz o u)->H' b=some (.frz o u)) (tbls:∀ b ps,H b=some (.tbl ps)->∃ more,H' b=some (.tbl (ps++more)))
  (ns:∀ m,s.heap.Ns X.env.locals m->h'.Ns X.env.locals m) (Ny:HOk X.prog X.w H' h') (hg:AllBare g') :
  Inv X Np σ H' { s with heap:=h',gens:=g',drawn:=d',toks:=t' }:=by
 have neL:∀ b o,X.s₀.heap.get? b=some o->b ≠ X.env.locals:=fun b o e=>zU (zJ (yJ e) I.ok.above)
 have neC:∀ b o,X.s₀.heap.get? b=some o->b ∉ X.ex->b ∉ ch:=fun b o e hx hb=>by
  rcases (hch b hb).1 with z | z
  ·exact hx z
  ·exact absurd (zJ (yJ e) z) (yX _)
 have cellK:∀ x c,X.env.cells.lookup x=some c->∀ v,s.heap.IsCell c v->h'.IsCell c v:=fun x c e v hq0=>by
  obtain ⟨o,ho,hd⟩:=hq0;have nch:c ∉ ch:=fun z=>(hch c z).2.2.1 x c e rfl
  by_cases hc:c ∈ X.fs
  ·obtain ⟨sl,q⟩:=slot c o (I.cne x c e) hc nch ho (I.freeC x c e)
   exact ⟨_,q,hd⟩
  ·exact ⟨o,keep c o (I.cne x c e) hc nch ho (I.freeC x c e),hd⟩
 refine ⟨I.ok,I.os,hg,⟨fun b o e n hb hx=>?_,fun b o e n hb hx=>?_,fun b o e n hx=>?_,fun b o e hx=>?_,fun b xs e=>tups b xs (I.base.tups b xs e),fun b o xs e=>frzs b o xs (I.base.frzs b o xs e),fun b ps e=>?_⟩,?_,fun x c e=>?_,?_,fun x c e=>?_,fun p hp=>?_,Ny,I.len⟩
 ·exact keep b o (neL b o e) hb (neC b o e hx) (I.base.keep b o e n hb hx) (I.base.free b o e n hx)
 ·obtain ⟨sl,e1⟩:=I.base.slot b o e n hb hx
  obtain ⟨sl',e2⟩:=slot b _ (neL b o e) hb (neC b o e hx) e1 (I.base.free b o e n hx);exact ⟨sl',e2⟩
 ·obtain ⟨o',e1⟩:=I.base.there b o e hx
  exact free b o' (neC b o e hx) e1 (I.base.free b o e n hx)
 ·obtain ⟨o',e1⟩:=I.base.there b o e hx
  exact there b o' (neC b o e hx) e1
 ·obtain ⟨m1,e1⟩:=I.base.tbls b ps e
  obtain ⟨m2,e2⟩:=tbls b _ e1;exact ⟨m1++m2,by rw [e2,Array.append_assoc]⟩
 ·obtain ⟨m,hn,hl⟩:=I.loc
  refine ⟨m,ns m hn,fun i x v e1 e2 e3=>?_⟩;obtain ⟨u,r,l⟩:=hl i x v e1 e2 e3;refine ⟨u,r,?_⟩;rcases l with l | ⟨k,c,e,z⟩
  ·exact .inl l
  ·exact .inr ⟨k,c,e,cellK x c e _ z⟩
 ·obtain ⟨v,z⟩:=I.cell x c e
  exact ⟨v,cellK x c e v z⟩
 ·obtain ⟨m,⟨o,_,_,ho,_⟩,_⟩:=I.loc
  exact free _ o (fun z=>(hch _ z).2.1 rfl) ho I.free
 ·obtain ⟨v,o,ho,hd⟩:=I.cell x c e
  exact free c o (fun z=>(hch c z).2.2.1 x c e rfl) ho (I.freeC x c e)
 ·obtain ⟨e,n,ne,nf,d⟩:=I.pin p hp
  have nch:p.1 ∉ ch:=fun z=>(hch p.1 z).2.2.2 p hp rfl
  exact ⟨keep p.1 p.2 ne nf nch e n,free p.1 p.2 nch e n,ne,nf,d⟩
theorem Inv.un {t':Nat} (I:Inv X Np σ H s) (u:Un X.fs [] H H' s.heap h') (Ny:HOk X.prog X.w H' h'):Inv X Np σ H' { s with heap:=h',toks:=t' }:=by
 obtain ⟨m,⟨o,es,ep,ho,r⟩,_⟩:=id I.loc;obtain ⟨sl,hL⟩:=u.any ho I.free (by simp);exact I.step (g':=s.gens) (d':=s.drawn) (ch:=[]) (fun _ z=>nomatch z) (fun b o _ hb _ e n=>u.keep b o e n hb (by simp)) (fun b o _ hb _ e n=>u.slot b o e n hb (by simp)) (fun b o _ e n=>u.free b o e n (by simp)) (fun b o _ e=>u.there b o e (by simp)) u.tups u.frzs u.tbls (fun m' hm=>by
  obtain ⟨o',es',ep',ho',r'⟩:=hm;rw [ho] at ho';cases ho';exact ⟨_,es',ep',hL,r'⟩) Ny I.bare
theorem Inv.call {g':Array GenState}{t':Nat}{d':Drawn}{ch:List Addr} (I:Inv X Np σ H s) (u:Un (jp X.stack) ch H H' s.heap h') (Ny:HOk X.prog X.w H' h') (hg:AllBare g')
  (hch:∀ b ∈ ch,(b ∈ X.ex\/X.s₀.heap.objs.size <= b)/\b ≠ X.env.locals/\(∀ x c,X.env.cells.lookup x=some c->c ≠ b)/\∀ p ∈ X.pn++Np,p.1 ≠ b) :
  Inv X Np σ H' { s with heap:=h',gens:=g',drawn:=d',toks:=t' }:=by
 obtain ⟨m,⟨o,es,ep,ho,r⟩,_⟩:=id I.loc;obtain ⟨sl,hL⟩:=u.any ho I.free fun z=>(hch _ z).2.1 rfl
 exact I.step (ch:=ch) hch (fun b o hL hb hc e n=>u.keep b o e n (fun z=>(zT.mp (I.stkSub b z)).elim hL hb) hc) (fun b o _ _ hc e n=>u.any e n hc) (fun b o hc e n=>u.free b o e n hc) (fun b o hc e=>u.there b o e hc) u.tups u.frzs u.tbls (fun m' hm=>by
  obtain ⟨o',es',ep',ho',r'⟩:=hm;rw [ho] at ho';cases ho';exact ⟨_,es',ep',hL,r'⟩) Ny hg
theorem Inv.turned {t':Nat}{it:Addr} (I:Inv X Np σ H s) (k:∀ b o,b ≠ it->s.heap.get? b=some o->h'.get? b=some o) (hn:H it=none) (hL:it ≠ X.env.locals)
  (h1:it ∈ X.ex\/X.s₀.heap.objs.size <= it) (h2:∀ x c,X.env.cells.lookup x=some c->c ≠ it) (h3:∀ p ∈ X.pn++Np,p.1 ≠ it):Inv X Np σ H { s with heap:=h',toks:=t' }:=by
 have nit:∀ b u,H b=some u->b ≠ it:=fun b u e z=>by rw [z,hn] at e;cases e
 refine I.step (g':=s.gens) (d':=s.drawn) (ch:=[it]) (fun b hb=>?_) (fun b o _ _ hc e _=>k b o (fun z=>hc (by simp [z])) e) (fun b o _ _ hc e _=>⟨o.slots,k b o (fun z=>hc (by simp [z])) e⟩) (fun _ _ _ _ n=>n)
  (fun b o hc e=>⟨o,k b o (fun z=>hc (by simp [z])) e⟩) (fun _ _ e=>e) (fun _ _ _ e=>e) (fun b ps e=>⟨#[],by rw [e];simp⟩) (fun m hm=>?_) (fun b u e=>?_) I.bare
 ·have e:b=it:=by simpa using hb
  subst e;exact ⟨h1,hL,h2,h3⟩
 ·obtain ⟨o,es,ep,ho,r⟩:=hm
  exact ⟨o,es,ep,k _ o (Ne.symm hL) ho,r⟩
 ·refine (I.Ny b u e).stay (fun c v hc q=>k c v ?_ q) (fun _ q=>q) fun _ _ q=>q
  rcases hc with z | z
  ·rw [z];exact nit b u e
  ·exact nit c _ z
theorem Inv.tok (I:Inv X Np σ H s) (t:Nat):Inv X Np σ H { s with toks:=t }:=I.un (h':=s.heap) (t':=t) Un.refl I.Ny
theorem Inv.kept {t':Nat} (I:Inv X Np σ H s) (k:∀ b u,s.heap.get? b=some u->h'.get? b=some u):Inv X Np σ H { s with heap:=h',toks:=t' }:=I.un (Un.kept k) (I.Ny.kept k)
theorem Inv.laid {a:Addr}{o:HO}{t':Nat} (I:Inv X Np σ H s) (k:∀ b u,s.heap.get? b=some u->h'.get? b=some u) (hp:s.heap.objs.size <= a) (new:ObjOk X.prog X.w (af H a o) h' a o) :
  Inv X Np σ (af H a o) { s with heap:=h',toks:=t' }:=I.un (Un.laid k hp (I.Ny.fresh hp)) (I.Ny.laid k hp new)
theorem Inv.write {x e:Addr}{o:HO}{t':Nat} (I:Inv X Np σ H s) (mu:xt (H x)) (he:e=x\/H e=some (.own x)) (k:∀ b u,b ≠ e->s.heap.get? b=some u->h'.get? b=some u) (heo:∃ u,h'.get? e=some u)
  (new:ObjOk X.prog X.w (af H x o) h' x o):Inv X Np σ (af H x o) { s with heap:=h',toks:=t' }:=I.un (Un.write mu he k heo) (I.Ny.write mu he k heo new)
theorem Inv.pins_of {pins':List (Addr × Obj)} (I:Inv X Np σ H s) (h:∀ p ∈ pins',s.heap.get? p.1=some p.2/\H p.1=none/\p.1 ≠ X.env.locals/\p.1 ∉ X.fs/\∀ v,p.2.data ≠ .cell v):Inv X pins' σ H s :=
 ⟨I.ok,I.os,I.bare,I.base,I.loc,I.cell,I.free,I.freeC,fun p hp=>(zZ.mp hp).elim (fun z=>I.pin p (zL _ z)) (h p),I.Ny,I.len⟩
theorem qH {N:List Str} (hN:N.Nodup) {i j:Nat}{x:Str} (a:N[i]?=some x) (b:N[j]?=some x):i=j:=by
 obtain ⟨h1,e1⟩:=zB.mp a;obtain ⟨h2,e2⟩:=zB.mp b;exact (List.getElem_inj hN).mp (e1.trans e2.symm)
theorem pb {M:Model}{A:Around}{E:Value->Shared->Prop}{i:Nat}{x:Str}{v:V}{u:Value}{Q:Unit->Shared->Prop} (I:Inv X Np σ H s) (hN:X.N.Nodup) (hi:X.N[i]?=some x) (hx:Loc X.env.scope x) (r:RelV v u)
  (h:∀ s',Inv X Np (σ.set i (some v)) H s'->(∃ a,Heap.SameBut a s.heap s'.heap/\(a=X.env.locals\/X.env.cells.lookup x=some a))->Q () s') (hf:X.fn x=true\/X.env.scope.names.lookup x=some .local:=by first | exact .inl rfl | exact .inr rfl | assumption):wpAny M A (storeName X.env x u) Q E s:=by
 obtain ⟨m,hn,hl⟩:=id I.loc;have hcls:(X.env.scope.kind == .class || (X.env.scope.kind == .module && X.env.locals != X.env.globals))=false:=by rw [I.ok.kind];rfl
 have hiσ:i < σ.length:=by rw [I.len];exact (zB.mp hi).1
 have cne:=I.cne;have tracked:∀ {a:Addr}{h':Heap},(∃ o,s.heap.get? a=some o/\H a=none)->Heap.SameBut a s.heap h'->HOk X.prog X.w H h':=fun {a h'} ha hs b ob e=>by
  obtain ⟨_,_,hfree⟩:=ha;refine (I.Ny b ob e).stay (fun c w' hc q=>(hs.2 c ?_).trans q) (fun _ q=>q) fun _ _ q=>q
  rintro rfl;rcases hc with rfl | hc
  ·rw [hfree] at e;cases e
  ·rw [hfree] at hc;cases hc
 rcases hx with hk | hk
 ·refine wpAny_storeName_local hk hn (fun h' hn' hs=>?_) hcls
  obtain ⟨oL,_,_,hoL,_⟩:=id hn;refine h _ ⟨I.ok,I.os,I.bare,⟨fun b o e n hb hx=>?_,fun b o e n hb hx=>?_,I.base.free,fun b o e hx=>?_,I.base.tups,I.base.frzs,I.base.tbls⟩,⟨_,hn',fun j y v' e1 e2 e3=>?_⟩,fun y c e=>?_,I.free,I.freeC,fun p hp=>?_,tracked ⟨oL,hoL,I.free⟩ hs,by simpa using I.len⟩ ⟨_,hs,.inl rfl⟩
  ·exact (hs.2 b (zU (zJ (yJ e) I.ok.above))).trans (I.base.keep b o e n hb hx)
  ·obtain ⟨sl,e1⟩:=I.base.slot b o e n hb hx
   exact ⟨sl,(hs.2 b (zU (zJ (yJ e) I.ok.above))).trans e1⟩
  ·obtain ⟨o',e1⟩:=I.base.there b o e hx
   exact ⟨o',(hs.2 b (zU (zJ (yJ e) I.ok.above))).trans e1⟩
  ·by_cases hj:j=i
   ·subst hj
    rw [hi] at e1;cases e1;rw [List.getElem?_set_self hiσ] at e2;cases e2;exact ⟨u,r,.inl ⟨hk,by simp⟩⟩
   ·rw [List.getElem?_set_ne (Ne.symm hj)] at e2
    obtain ⟨u',r',q⟩:=hl j y v' e1 e2 e3;refine ⟨u',r',?_⟩;rcases q with ⟨k,e⟩ | ⟨k,c,e,z⟩
    ·refine .inl ⟨k,?_⟩
     have:y ≠ x:=fun e=>hj (qH hN e1 (e ▸ hi))
     simp [this,e]
    ·exact .inr ⟨k,c,e,z.sameBut hs (cne y c e)⟩
  ·obtain ⟨w',z⟩:=I.cell y c e
   exact ⟨w',z.sameBut hs (cne y c e)⟩
  ·obtain ⟨e,n,ne,nf,d⟩:=I.pin p hp
   exact ⟨(hs.2 p.1 ne).trans e,n,ne,nf,d⟩
 ·have hfn:X.fn x=true:=by
   rcases hf with z | z
   ·exact z
   ·rw [z] at hk;cases hk
  obtain ⟨c,hc⟩:=I.ok.has x (.inl hk);obtain ⟨w',z⟩:=I.cell x c hc;refine wpAny_storeName_cell I.ok.kind hk hc z (fun h' hc' hs=>?_);obtain ⟨oc,hoc,hocd⟩:=id z;refine h { s with heap:=h' } ⟨I.ok,I.os,I.bare,⟨fun b o e n hb hx=>?_,fun b o e n hb hx=>?_,I.base.free,fun b o e hx=>?_,I.base.tups,I.base.frzs,I.base.tbls⟩,⟨m,hn.sameBut hs (Ne.symm (cne x c hc)),fun j y v' e1 e2 e3=>?_⟩,fun y c' e=>?_,I.free,I.freeC,fun p hp=>?_,tracked ⟨oc,hoc,I.freeC x c hc⟩ hs,by simpa using I.len⟩ ⟨c,hs,.inr hc⟩
  ·exact (hs.2 b (zU (zJ (yJ e) (I.ok.cab x c hfn hc)))).trans (I.base.keep b o e n hb hx)
  ·obtain ⟨sl,e1⟩:=I.base.slot b o e n hb hx
   exact ⟨sl,(hs.2 b (zU (zJ (yJ e) (I.ok.cab x c hfn hc)))).trans e1⟩
  ·obtain ⟨o',e1⟩:=I.base.there b o e hx
   exact ⟨o',(hs.2 b (zU (zJ (yJ e) (I.ok.cab x c hfn hc)))).trans e1⟩
  ·by_cases hj:j=i
   ·subst hj
    rw [hi] at e1;cases e1;rw [List.getElem?_set_self hiσ] at e2;cases e2;exact ⟨u,r,.inr ⟨.inl hk,c,hc,hc'⟩⟩
   ·rw [List.getElem?_set_ne (Ne.symm hj)] at e2
    obtain ⟨u',r',q⟩:=hl j y v' e1 e2 e3;refine ⟨u',r',?_⟩;rcases q with q | ⟨k,c',e,z'⟩
    ·exact .inl q
    ·refine .inr ⟨k,c',e,z'.sameBut hs ?_⟩
     rintro rfl;exact hj (qH hN e1 (I.ok.inj _ _ _ e hc ▸ hi))
  ·by_cases hcc:c'=c
   ·subst hcc;exact ⟨_,hc'⟩
   ·obtain ⟨w2,z2⟩:=I.cell y c' e
    exact ⟨w2,z2.sameBut hs hcc⟩
  ·obtain ⟨e,n,ne,nf,d⟩:=I.pin p hp
   refine ⟨(hs.2 p.1 ?_).trans e,n,ne,nf,d⟩;intro q;rw [q,hoc] at e;have q':oc=p.2:=yE e;exact d w' (by rw [<- q'];exact hocd)
theorem qh {M:Model}{A:Around}{E:Value->Shared->Prop}{i:Nat}{x:Str}{v:V}{u:Value}{Q:Unit->Shared->Prop} (I:Inv X Np σ H s) (hN:X.N.Nodup) (hi:X.N[i]?=some x) (hx:Loc X.env.scope x) (r:RelV v u)
  (h:∀ s',Inv X Np (σ.set i (some v)) H s'->Q () s') (hf:X.fn x=true\/X.env.scope.names.lookup x=some .local:=by first | exact .inl rfl | exact .inr rfl | assumption):wpAny M A (storeName X.env x u) Q E s :=
 pb I hN hi hx r (fun s' I' _=>h s' I') hf
theorem Inv.call' {s':Shared}{ch:List Addr} (I:Inv X Np σ H s) (ho:s'.os=s.os) (u:Un (jp X.stack) ch H H' s.heap s'.heap) (Ny:HOk X.prog X.w H' s'.heap) (hg:AllBare s'.gens)
  (hch:∀ b ∈ ch,(b ∈ X.ex\/X.s₀.heap.objs.size <= b)/\b ≠ X.env.locals/\(∀ x c,X.env.cells.lookup x=some c->c ≠ b)/\∀ p ∈ X.pn++Np,p.1 ≠ b):Inv X Np σ H' s':=by
 obtain ⟨h',g',d',t',o'⟩:=s';have e:o'=s.os:=ho;subst e;exact I.call (g':=g') (t':=t') (d':=d') u Ny hg hch
end
abbrev XK:=Value->Option Addr->Hp->Prop
abbrev St:=List (Option V)
abbrev VK:=V->Hp->Prop
abbrev TE:=St->Hp->VK->Prop
abbrev TT:=St->Hp->(Bool->Hp->Prop)->Prop
abbrev TA:=St->Hp->(List V->Hp->Prop)->Prop
structure je where
 nx:St->Hp->Prop
 rt:VK
 bk:St->Hp->Prop:=fun _ _=>False
 ct:St->Hp->Prop:=fun _ _=>False
abbrev TS:=je->St->Hp->Prop
def EP (X:Cx) (Np:List (Addr × Obj)) (σ:St) (Q:VK) (u:Value) (s':Shared):Prop:=∃ v H',Inv X Np σ H' s'/\RelV v u/\Q v H'
def TP (X:Cx) (Np:List (Addr × Obj)) (σ:St) (Q:Bool->Hp->Prop) (b:Bool) (s':Shared):Prop:=∃ H',Inv X Np σ H' s'/\Q b H'
def AP (X:Cx) (Np:List (Addr × Obj)) (σ:St) (Q:List V->Hp->Prop) (us:List Value) (s':Shared):Prop:=∃ vs H',Inv X Np σ H' s'/\Vals vs us/\Q vs H'
def SP (X:Cx) (Np:List (Addr × Obj)) (D:je) (f:Flow) (s':Shared):Prop :=
 match f with
 | .next=>∃ σ' H',Inv X Np σ' H' s'/\D.nx σ' H'
 | .brk=>∃ σ' H',Inv X Np σ' H' s'/\D.bk σ' H'
 | .cont=>∃ σ' H',Inv X Np σ' H' s'/\D.ct σ' H'
 | .ret u=>∃ v σ' H',Inv X Np σ' H' s'/\RelV v u/\D.rt v H'
def PE (X:Cx) (e:Expr) (t:TE):Prop :=
 ∀ (Np:List (Addr × Obj)) (s:Shared) (σ:St) (H:Hp) (Q:VK),Inv X Np σ H s->t σ H Q->wpAny (model X.prog X.w) X.A (eval e X.env) (EP X Np σ Q) X.xe s
def PT (X:Cx) (e:Expr) (t:TT):Prop :=
 ∀ (Np:List (Addr × Obj)) (s:Shared) (σ:St) (H:Hp) (Q:Bool->Hp->Prop),Inv X Np σ H s->t σ H Q->wpAny (model X.prog X.w) X.A (isTrue e X.env (eval e X.env)) (TP X Np σ Q) X.xe s
def PW (X:Cx) (e:Expr) (t:TT):Prop :=
 ∀ (whole:Sem Value) (Np:List (Addr × Obj)) (s:Shared) (σ:St) (H:Hp) (Q:Bool->Hp->Prop),Inv X Np σ H s->t σ H Q->wpAny (model X.prog X.w) X.A (isTrue e X.env whole) (TP X Np σ Q) X.xe s
theorem PW.pt {X:Cx}{e:Expr}{t:TT} (h:PW X e t):PT X e t:=h _
def PA (X:Cx) (es:List Expr) (t:TA):Prop :=
 ∀ (pos:Pos) (Np:List (Addr × Obj)) (s:Shared) (σ:St) (H:Hp) (Q:List V->Hp->Prop),Inv X Np σ H s->t σ H Q->wpAny (model X.prog X.w) X.A (spliced (backTo pos (starEach es X.env))) (AP X Np σ Q) X.xe s
def PS (X:Cx) (st:Stmt) (t:TS):Prop :=
 ∀ (Np:List (Addr × Obj)) (s:Shared) (σ:St) (H:Hp) (D:je),Inv X Np σ H s->t D σ H->wpAny (model X.prog X.w) X.A (exec st X.env) (SP X Np D) X.xe s
def PSs (X:Cx) (st:List Stmt) (t:TS):Prop :=
 ∀ (Np:List (Addr × Obj)) (s:Shared) (σ:St) (H:Hp) (D:je),Inv X Np σ H s->t D σ H->wpAny (model X.prog X.w) X.A (execs st X.env) (SP X Np D) X.xe s
theorem aE {α:Type}{t:Sem α}{Q Q':α->Shared->Prop}{M:Model}{A:Around}{E:Value->Shared->Prop}{s:Shared} (h:wpAny M A t Q E s) (hQ:∀ a s,Q a s->Q' a s):wpAny M A t Q' E s:=yR h hQ fun _ _ x=>x
section
variable {X:Cx}
theorem bin {a b:Expr}{ta tb:TE} (ha:PE X a ta) (hb:PE X b tb) {Np:List (Addr × Obj)}{s:Shared}{σ:St}{H:Hp}{R:V->V->Hp->Prop} (I:Inv X Np σ H s) (h:ta σ H fun x H1=>tb σ H1 fun y H2=>R x y H2)
  {α:Type}{Q:α->Shared->Prop}{f:Value->Value->Sem α}
  (hf:∀ v u s2 x y H2,Inv X Np σ H2 s2->RelV x v->RelV y u->R x y H2->wpAny (model X.prog X.w) X.A (f v u) Q X.xe s2) :
  wpAny (model X.prog X.w) X.A (eval a X.env) (fun v s₁=>wpAny (model X.prog X.w) X.A (eval b X.env) (fun u s₂=>wpAny (model X.prog X.w) X.A (f v u) Q X.xe s₂) X.xe s₁) X.xe s:=by
 refine aE (ha Np s σ H _ I h) fun v s1 hq0=>?_
 obtain ⟨x,H1,I1,r1,q1⟩:=hq0;refine aE (hb Np s1 σ H1 _ I1 q1) fun u s2 hq0=>?_
 obtain ⟨y,H2,I2,r2,q2⟩:=hq0;exact hf v u s2 x y H2 I2 r1 r2 q2
noncomputable def Ka (i:Nat):TE:=fun σ H Q=>∃ v,σ[i]?=some (some v)/\Q v H
noncomputable def tC (v:V):TE:=fun _ H Q=>Q v H
theorem EQ {i:Nat}{x:Str}{pos:Pos} (hN:X.N[i]?=some x) (hv:xn X.env.scope x) (hd:(x == ("__debug__":Str))=false:=by decide) (hcd:(x == ("__classdict__":Str))=false:=by decide):PE X (.Name x pos) (Ka i):=by
 intro Np s σ H Q I h;obtain ⟨v,e,h⟩:=h;obtain ⟨m,hn,hl⟩:=I.loc;obtain ⟨u,r,l⟩:=hl i x v hN e hv;have aH:EP X Np σ Q u s:=⟨v,H,I,r,h⟩;rcases l with ⟨hk,hm⟩ | ⟨hk,c,hc,hcell⟩
 ·exact wpAny_Name (wpAny_loadName_local I.ok.kind hk hn hm aH) hd
 ·rcases hk with hk | hk
  ·exact wpAny_Name (wpAny_loadName_cell I.ok.kind hk hc hcell aH) hd
  ·exact wpAny_Name (wpAny_loadName_free I.ok.kind hk hc hcell aH hcd) hd
theorem EV {i j pos}:PE X (.Constant (.int i) j pos) (tC (.int i)):=fun _ _ _ H _ I h=>wpAny_Constant_int ⟨.int i,H,I.tok _,⟨_,rfl⟩,h⟩
theorem Hz {b j pos}:PE X (.Constant (.bool b) j pos) (tC (.bl b)):=fun _ _ _ H _ I h=>Constant_bool ⟨.bl b,H,I,rfl,h⟩
theorem EU {j pos}:PE X (.Constant .none j pos) (tC .non):=fun _ _ _ H _ I h=>Constant_none ⟨.non,H,I,rfl,h⟩
theorem ES {x j pos}:PE X (.Constant (.str x) j pos) (tC (.str x)):=fun _ _ _ H _ I h=>Calls.Constant_str ⟨.str x,H,I.tok _,⟨_,rfl⟩,h⟩
def Gl (X:Cx) (x:Str):Prop:=X.env.kindOf x=some .globalImplicit
theorem lP {E:Value->Shared->Prop}{Np:List (Addr × Obj)}{s:Shared}{σ:St}{H:Hp}{x:Str}{u:Value}{pos:Pos}{Q:Value->Shared->Prop} (I:Inv X Np σ H s) (hg:Gl X x) (hm:X.mg x=some u) (h:Q u s)
  (hd:(x == ("__debug__":Str))=false:=by decide):wpAny (model X.prog X.w) X.A (eval (.Name x pos) X.env) Q E s :=
 Calls.Name_function_global I.ok.kind hg (Calls.loadGlobal_global (by rw [I.ok.glob];exact I.mod.glob.keeps I.bk) hm h) hd
theorem cF {E:Value->Shared->Prop}{Np:List (Addr × Obj)}{s:Shared}{σ:St}{H:Hp}{x:Str}{u:Value}{pos:Pos}{Q:Value->Shared->Prop} (I:Inv X Np σ H s) (hg:Gl X x) (hm:X.mg x=none) (hv:bootBuiltins x=some u) (h:Q u s)
  (hn:x ≠ "__name__":=by decide) (hd:(x == ("__debug__":Str))=false:=by decide):wpAny (model X.prog X.w) X.A (eval (.Name x pos) X.env) Q E s:=by
 obtain ⟨mb,h1,h2⟩:=I.mod.blt;exact Calls.Name_function_global I.ok.kind hg (Calls.loadGlobal_builtin (by rw [I.ok.glob];exact I.mod.glob.keeps I.bk) hm (by rw [I.ok.blt];exact h1.keeps I.bk) ((h2 x hn).trans hv) h) hd
theorem CC {x:Str}{v:V}{u:Value}{pos:Pos} (hg:Gl X x) (hm:X.mg x=some u) (r:RelV v u) (hd:(x == ("__debug__":Str))=false:=by decide):PE X (.Name x pos) (tC v) :=
 fun _ _ _ H _ I h=>lP I hg hm ⟨v,H,I,r,h⟩ hd
variable {a b:Expr}{ta tb:TE}{pos:Pos}
theorem RelV.none_iff {x:V}{v:Value} (r:RelV x v):(v == Value.none)=decide (x=.non):=by
 cases x with
 | non=>cases r;rfl
 | bl _=>cases r;rfl
 | int _=>obtain ⟨t,rfl⟩:=r;rfl
 | str _=>obtain ⟨t,rfl⟩:=r;rfl
 | byt _=>obtain ⟨t,rfl⟩:=r;rfl
 | flt _=>obtain ⟨t,rfl⟩:=r;rfl
 | ref _=>cases r;rfl
 | ty _=>cases r;rfl
variable {tA tB':TT}{rest:List Expr}
noncomputable def Km (t u:TT):TT:=fun σ H Q=>t σ H fun c H1=>if c=true then u σ H1 Q else Q false H1
noncomputable def LB (t u:TT):TT:=fun σ H Q=>t σ H fun c H1=>if c=true then Q true H1 else u σ H1 Q
noncomputable def Kg (t:TT):TT:=fun σ H Q=>t σ H fun c H1=>Q (!c) H1
theorem Ck (ha:PT X a tA):PW X (.BoolOp .And [a] pos) tA:=by
 intro wh Np s σ H Q I h;refine isTrue_and (aE (ha Np s σ H Q I h) fun c s1 e=>?_);cases c with
 | true=>exact isTrue_and_nil e
 | false=>exact e
theorem EB (ha:PT X a tA):PW X (.BoolOp .Or [a] pos) tA:=by
 intro wh Np s σ H Q I h;refine isTrue_or (aE (ha Np s σ H Q I h) fun c s1 e=>?_);cases c with
 | false=>exact isTrue_or_nil e
 | true=>exact e
theorem EC (ha:PT X a tA) (hb:PW X (.BoolOp .And (b::rest) pos) tB'):PW X (.BoolOp .And (a::b::rest) pos) (Km tA tB'):=by
 intro wh Np s σ H Q I h;refine isTrue_and (aE (ha Np s σ H _ I h) fun c s1 hq0=>?_);obtain ⟨H1,I1,q1⟩:=hq0;cases c with
 | true=>exact hb wh Np s1 σ H1 Q I1 q1
 | false=>exact ⟨H1,I1,q1⟩
theorem Hq (ha:PT X a tA) (hb:PW X (.BoolOp .Or (b::rest) pos) tB'):PW X (.BoolOp .Or (a::b::rest) pos) (LB tA tB'):=by
 intro wh Np s σ H Q I h;refine isTrue_or (aE (ha Np s σ H _ I h) fun c s1 hq0=>?_);obtain ⟨H1,I1,q1⟩:=hq0;cases c with
 | true=>exact ⟨H1,I1,q1⟩
 | false=>exact hb wh Np s1 σ H1 Q I1 q1
theorem ED (ha:PT X a tA):PT X (.UnaryOp .Not a pos) (Kg tA):=by
 intro Np s σ H Q I h;exact isTrue_not (ha Np s σ H (fun c H1=>Q (!c) H1) I h)
noncomputable def G3 (ta tb:TE):TE:=fun σ H Q=>ta σ H fun x H1=>∃ c,x=.bl c/\if c=true then tb σ H1 Q else Q (.bl false) H1
noncomputable def Kf (ta tb:TE):TE:=fun σ H Q=>ta σ H fun x H1=>∃ c,x=.bl c/\if c=true then Q (.bl true) H1 else tb σ H1 Q
noncomputable def GZ (ta:TE):TE:=fun σ H Q=>ta σ H fun x H1=>∃ c,x=.bl c/\Q (.bl (!c)) H1
theorem v7 {op}{t:TE} (h:PE X a t):PE X (.BoolOp op [a] pos) t:=fun Np s σ H Q I hw=>BoolOp_one (h Np s σ H Q I hw)
theorem EY (ha:PE X a ta) (hb:PE X (.BoolOp .And (b::rest) pos) tb):PE X (.BoolOp .And (a::b::rest) pos) (G3 ta tb):=by
 intro Np s σ H Q I h;refine BoolOp_and (aE (ha Np s σ H _ I h) fun v s1 hq0=>?_);obtain ⟨x,H1,I1,r1,q1⟩:=hq0;obtain ⟨c,rfl,q1⟩:=q1;cases r1;refine wpAny_truthy_bool ?_;cases c with
 | true=>exact hb Np s1 σ H1 Q I1 q1
 | false=>exact ⟨.bl false,H1,I1,rfl,q1⟩
theorem Hv (ha:PE X a ta) (hb:PE X (.BoolOp .Or (b::rest) pos) tb):PE X (.BoolOp .Or (a::b::rest) pos) (Kf ta tb):=by
 intro Np s σ H Q I h;refine BoolOp_or (aE (ha Np s σ H _ I h) fun v s1 hq0=>?_);obtain ⟨x,H1,I1,r1,q1⟩:=hq0;obtain ⟨c,rfl,q1⟩:=q1;cases r1;refine wpAny_truthy_bool ?_;cases c with
 | false=>exact hb Np s1 σ H1 Q I1 q1
 | true=>exact ⟨.bl true,H1,I1,rfl,q1⟩
theorem ET (ha:PE X a ta):PE X (.UnaryOp .Not a pos) (GZ ta):=by
 intro Np s σ H Q I h;refine UnaryOp_ (aE (ha Np s σ H _ I h) fun v s1 hq0=>?_);obtain ⟨x,H1,I1,r1,q1⟩:=hq0;obtain ⟨c,rfl,q1⟩:=q1;cases r1;exact not_of (wpAny_truthy_bool ⟨.bl (!c),H1,I1,rfl,q1⟩)
noncomputable def LC (t:TT) (ta tb:TE):TE:=fun σ H Q=>t σ H fun c H1=>if c=true then ta σ H1 Q else tb σ H1 Q
theorem yk {c:Expr} (hc:PT X c tA) (ha:PE X a ta) (hb:PE X b tb):PE X (.IfExp c a b pos) (LC tA ta tb):=by
 intro Np s σ H Q I h;refine wpAny_IfExp (aE (hc Np s σ H _ I h) fun d s1 hq0=>?_);obtain ⟨H1,I1,q1⟩:=hq0;cases d with
 | true=>exact ha Np s1 σ H1 Q I1 q1
 | false=>exact hb Np s1 σ H1 Q I1 q1
end
def bA (K:Frag) (H:Hp) (a:Addr) (xs:List V):Prop :=
 Rd H a (.lst xs) \/
  ∃ (o:Obj) (Nu:Array Value) (n:Nat),K.lookup a=some o/\o.cls=.type "list"/\o.dict=none/\o.data=.seq Nu n/\Nu.size <= sizeLine/\Vals xs Nu.toList
def fR (K:Frag) (H:Hp) (a:Addr) (xs:List V):Prop :=
 Rd H a (.tup xs) \/
  ∃ (o:Obj) (Nu:Array Value) (n:Nat),K.lookup a=some o/\o.cls=.type "tuple"/\o.data=.seq Nu n/\Nu.size <= sizeLine/\Vals xs Nu.toList
noncomputable def Lp:Value->Option V
 | .none=>some .non
 | .bool b=>some (.bl b)
 | .int i _=>some (.int i)
 | .str x _=>some (.str x)
 | .bytes b _=>some (.byt b)
 | .float b _=>some (.flt b)
 | .ref a=>some (.ref a)
 | .type n=>some (.ty n)
 | _=>none
theorem RelV.abs {x:V}{u:Value} (r:RelV x u):Lp u=some x:=by
 cases x with
 | non=>cases r;rfl
 | bl _=>cases r;rfl
 | int _=>obtain ⟨t,rfl⟩:=r;rfl
 | str _=>obtain ⟨t,rfl⟩:=r;rfl
 | byt _=>obtain ⟨t,rfl⟩:=r;rfl
 | flt _=>obtain ⟨t,rfl⟩:=r;rfl
 | ref _=>cases r;rfl
 | ty _=>cases r;rfl
theorem RelV.inj {x y:V}{u:Value} (r:RelV x u) (q:RelV y u):x=y:=yE (r.abs.symm.trans q.abs)
theorem Vals.inj {xs ys:List V}{us:List Value} (h:Vals xs us):Vals ys us->xs=ys:=by
 induction h generalizing ys with
 | nil=>intro h';cases h';rfl
 | cons r t ih =>
  intro h';cases h' with
  | cons r' t'=>rw [r.inj r',ih t']
section
variable {X:Cx}{Np:List (Addr × Obj)}{σ:St}{H:Hp}{s:Shared}{a:Addr}{xs ys:List V}
theorem Inv.list (I:Inv X Np σ H s) (h:bA X.K H a xs):∃ Nu:List Value,Vals xs Nu/\PlainL s.heap a Nu.toArray/\xs.length <= sizeLine:=by
 rcases h with h | ⟨o,Nu,n,hk,hc,hd,hs,hz,r⟩
 ·obtain ⟨z,Nu,n,r,e⟩:=h.ok I.Ny
  exact ⟨Nu,r,⟨_,n,e,rfl,rfl,rfl⟩,z⟩
 ·refine ⟨Nu.toList,r,⟨o,n,I.kIn a o hk,hc,hd,by simpa using hs⟩,?_⟩
  have e:=r.length;simp only [Array.length_toList] at e;omega
theorem Inv.tuple (I:Inv X Np σ H s) (h:fR X.K H a xs):∃ Nu:List Value,Vals xs Nu/\IsTup s.heap a Nu.toArray/\xs.length <= sizeLine:=by
 rcases h with h | ⟨o,Nu,n,hk,hc,hs,hz,r⟩
 ·obtain ⟨z,Nu,r,p⟩:=h.ok I.Ny
  exact ⟨Nu,r,p,z⟩
 ·refine ⟨Nu.toList,r,⟨o,I.kIn a o hk,hc,n,by simpa using hs⟩,?_⟩
  have e:=r.length;simp only [Array.length_toList] at e;omega
theorem Inv.list_inj (I:Inv X Np σ H s) (h:bA X.K H a xs) (h':bA X.K H a ys):xs=ys:=by
 obtain ⟨Nu,r,⟨o,n,e,_,_,d⟩,_⟩:=I.list h;obtain ⟨its',r',⟨o',n',e',_,_,d'⟩,_⟩:=I.list h';rw [e] at e';cases e';rw [d] at d';injection d' with d1 _;have:Nu=its':=by simpa using congrArg Array.toList d1
 subst this;exact r.inj r'
theorem Inv.tuple_inj (I:Inv X Np σ H s) (h:fR X.K H a xs) (h':fR X.K H a ys):xs=ys:=by
 obtain ⟨Nu,r,⟨o,e,_,n,d⟩,_⟩:=I.tuple h;obtain ⟨its',r',⟨o',e',_,n',d'⟩,_⟩:=I.tuple h';rw [e] at e';cases e';rw [d] at d';injection d' with d1 _;have:Nu=its':=by simpa using congrArg Array.toList d1
 subst this;exact r.inj r'
end
abbrev Cx.wish (X:Cx) (E:Value->Shared->Prop):Cx:={ X with xe:=E }
abbrev Cx.nox (X:Cx):Cx:=X.wish fun _ _=>False
theorem Cx.Ok.wish {X:Cx} (ok:X.Ok) (E:Value->Shared->Prop):(X.wish E).Ok :=
 ⟨ok.mod,ok.kind,ok.glob,ok.blt,ok.above,ok.inj,ok.has,ok.cab,ok.hd,ok.frames,ok.stk,ok.exf,ok.bs,ok.bsz,ok.noex,ok.exfs,ok.funs,ok.frf⟩
theorem Cx.Ok.unwish {X:Cx}{E:Value->Shared->Prop} (ok:(X.wish E).Ok):X.Ok :=
 ⟨ok.mod,ok.kind,ok.glob,ok.blt,ok.above,ok.inj,ok.has,ok.cab,ok.hd,ok.frames,ok.stk,ok.exf,ok.bs,ok.bsz,ok.noex,ok.exfs,ok.funs,ok.frf⟩
section
variable {X:Cx}{Np:List (Addr × Obj)}{σ:St}{H:Hp}{s:Shared}{E:Value->Shared->Prop}
theorem Inv.wish (I:Inv X Np σ H s) (E:Value->Shared->Prop):Inv (X.wish E) Np σ H s:=⟨I.ok.wish E,I.os,I.bare,I.base,I.loc,I.cell,I.free,I.freeC,I.pin,I.Ny,I.len⟩
theorem Inv.unwish (I:Inv (X.wish E) Np σ H s):Inv X Np σ H s:=⟨I.ok.unwish,I.os,I.bare,I.base,I.loc,I.cell,I.free,I.freeC,I.pin,I.Ny,I.len⟩
theorem SP.unwish {D:je}{f:Flow}{s':Shared} (h:SP (X.wish E) Np D f s'):SP X Np D f s':=by
 cases f with
 | next=>obtain ⟨σ',H',I,q⟩:=h;exact ⟨σ',H',I.unwish,q⟩
 | brk=>obtain ⟨σ',H',I,q⟩:=h;exact ⟨σ',H',I.unwish,q⟩
 | cont=>obtain ⟨σ',H',I,q⟩:=h;exact ⟨σ',H',I.unwish,q⟩
 | ret u=>obtain ⟨v,σ',H',I,r,q⟩:=h;exact ⟨v,σ',H',I.unwish,r,q⟩
theorem PSs.nox {st:List Stmt}{t:TS} (h:PSs X.nox st t):PSs X st t:=fun Np s σ H D I hw =>
 yR (h Np s σ H D (I.wish _) hw) (fun _ _ q=>q.unwish) fun _ _ z=>False.elim z
end
section
variable {X:Cx}{st:Stmt}{rest:List Stmt}{t u:TS}{e:Expr}{te:TE}{pos:Pos}
noncomputable def G0:TS:=fun D σ H=>D.nx σ H
noncomputable def Kc (t u:TS):TS:=fun D σ H=>t { D with nx:=u D } σ H
theorem Cm:PSs X [] G0:=fun _ _ σ H _ I h=>wpAny_execs_nil ⟨σ,H,I,h⟩
theorem xZ (h1:PS X st t) (h2:PSs X rest u):PSs X (st::rest) (Kc t u):=by
 intro Np s σ H D I h;refine wpAny_execs_cons (aE (h1 Np s σ H { D with nx:=u D } I h) fun f s1 q=>?_);cases f with
 | next =>
  obtain ⟨σ',H',I',q⟩:=q;exact h2 Np s1 σ' H' D I' q
 | ret v=>exact q
 | brk=>exact q
 | cont=>exact q
theorem Inv.quiet {Np:List (Addr × Obj)}{σ:St}{H:Hp}{s:Shared} (I:Inv X Np σ H s):interactive X.env=false:=by simp [interactive,I.ok.kind]
noncomputable def G1 (te:TE):TS:=fun D σ H=>te σ H fun _ H1=>D.nx σ H1
theorem Co (he:PE X e te) (hs:swapsWith e none pos.line X.env=pure false:=by rfl):PS X (.Expr e pos) (G1 te):=by
 intro Np s σ H D I h;exact wpAny_Expr_any (aE (he Np s σ H _ I h) fun v s1 ⟨x,H1,I1,r1,q1⟩=>⟨σ,H1,I1,q1⟩) I.quiet hs
noncomputable def Kd (te:TE):TS:=fun D σ H=>te σ H D.rt
theorem EG (he:PE X e te):PS X (.Return (some e) pos) (Kd te):=by
 intro Np s σ H D I h;exact wpAny_Return_some (aE (he Np s σ H _ I h) fun v s1 ⟨x,H1,I1,r1,q1⟩=>⟨x,σ,H1,I1,r1,q1⟩)
noncomputable def Ki (c:TT) (t u:TS):TS:=fun D σ H=>c σ H fun b H1=>if b=true then t D σ H1 else u D σ H1
theorem Hr {c:Expr}{a b:List Stmt}{tc:TT} (hc:PT X c tc) (ha:PSs X a t) (hb:PSs X b u):PS X (.If c a b pos) (Ki tc t u):=by
 intro Np s σ H D I h;refine wpAny_If (aE (hc Np s σ H _ I h) fun d s1 hq0=>?_);obtain ⟨H1,I1,q1⟩:=hq0;cases d with
 | true=>exact ha Np s1 σ H1 D I1 q1
 | false=>exact hb Np s1 σ H1 D I1 q1
noncomputable def vI:TS:=fun _ _ _=>False
theorem yb:PS X st vI:=fun _ _ _ _ _ _ h=>h.elim
theorem vX {sts:List Stmt}:PSs X sts vI:=fun _ _ _ _ _ _ h=>h.elim
end
abbrev TG:=V->St->Hp->(St->Hp->Prop)->Prop
abbrev mC:=List V->St->Hp->(St->Hp->Prop)->Prop
def PG (X:Cx) (target:Expr) (t:TG):Prop :=
 ∀ (Np:List (Addr × Obj)) (s:Shared) (σ:St) (H:Hp) (v:V) (u:Value) (Q:St->Hp->Prop),Inv X Np σ H s->RelV v u->t v σ H Q ->
  wpAny (model X.prog X.w) X.A (assign target X.env u) (fun _ s'=>∃ σ' H',Inv X Np σ' H' s'/\Q σ' H') X.xe s
def pM (X:Cx) (ts:List Expr) (t:mC):Prop :=
 ∀ (Np:List (Addr × Obj)) (s:Shared) (σ:St) (H:Hp) (vs:List V) (us:List Value) (Q:St->Hp->Prop),Inv X Np σ H s->Vals vs us->t vs σ H Q ->
  wpAny (model X.prog X.w) X.A (assignInOrder ((assignEach ts X.env).map (·.2)) us) (fun _ s'=>∃ σ' H',Inv X Np σ' H' s'/\Q σ' H') X.xe s
abbrev se:=V->V->V->Hp->(Hp->Prop)->Prop
def vt (X:Cx) (t:se):Prop :=
 ∀ (Np:List (Addr × Obj)) (s:Shared) (σ:St) (H:Hp) (o i v:V) (ov iv u:Value) (Q:Hp->Prop),Inv X Np σ H s->RelV o ov->RelV i iv->RelV v u->t o i v H Q ->
  wpAny (model X.prog X.w) X.A (setItem ov iv u) (fun _ s'=>∃ H',Inv X Np σ H' s'/\Q H') X.xe s
abbrev Bz:=V->V->Hp->VK->Prop
def BC (X:Cx) (op:Operator) (t:Bz):Prop :=
 ∀ (Np:List (Addr × Obj)) (s:Shared) (σ:St) (H:Hp) (x y:V) (v u:Value) (Q:VK),Inv X Np σ H s->RelV x v->RelV y u->t x y H Q ->
  wpAny (model X.prog X.w) X.A (inplaceOp op v u) (EP X Np σ Q) X.xe s
section
variable {X:Cx}{pos:Pos}
noncomputable def nY (i:Nat):TG:=fun v σ H Q=>Q (σ.set i (some v)) H
theorem Cz {i:Nat}{x:Str} (hN:X.N.Nodup) (hi:X.N[i]?=some x) (hx:Loc X.env.scope x) (hf:X.fn x=true\/X.env.scope.names.lookup x=some .local:=by first | exact .inl rfl | exact .inr rfl | assumption):PG X (.Name x pos) (nY i):=by
 intro Np s σ H v u Q I r h;exact wpAny_assign_Name (qh I hN hi hx r (fun s' I'=>⟨_,H,I',h⟩) hf)
noncomputable def K5:mC:=fun vs σ H Q=>vs=[]/\Q σ H
noncomputable def Ik (t:TG) (u:mC):mC:=fun vs σ H Q=>∃ v r,vs=v::r/\t v σ H fun σ' H'=>u r σ' H' Q
theorem Cw:pM X [] K5:=by
 intro Np s σ H vs us Q I r h;obtain ⟨e,h⟩:=h;subst e;cases r;exact assignInOrder_nil ⟨σ,H,I,h⟩
theorem ye {e:Expr}{es:List Expr}{t:TG}{u:mC} (h1:PG X e t) (h2:pM X es u)
  (hs:(assignEach (e::es) X.env).map (·.2)=assign e X.env::(assignEach es X.env).map (·.2):=by rfl):pM X (e::es) (Ik t u):=by
 intro Np s σ H vs us Q I r h;obtain ⟨v,vr,e1,h⟩:=h;subst e1;cases r with
 | cons r rr =>
  rw [hs];refine assignInOrder_cons (aE (h1 Np s σ H _ _ _ I r h) fun _ s1 hq0=>?_);obtain ⟨σ1,H1,I1,q1⟩:=hq0;exact h2 Np s1 σ1 H1 _ _ Q I1 rr q1
noncomputable def K3 (K:Frag) (n:Nat) (t:mC):TG:=fun v σ H Q=>∃ a xs,v=.ref a/\fR K H a xs/\xs.length=n/\t xs σ H Q
theorem EN {es:List Expr}{k:Nat}{t:mC}{n:Nat} (hc:X.calm=true) (h:pM X es t)
  (hn:(assignEach es X.env).length=n:=by rfl) (hst:(assignEach es X.env).findIdx? (·.1)=none:=by rfl):PG X (.Tuple es k pos) (K3 X.K n t):=by
 intro Np s σ H v u Q I r hw;obtain ⟨a,xs,e1,hq,hl,hw⟩:=hw;subst e1;cases r;obtain ⟨Nu,rv,ht,hz⟩:=I.tuple hq;refine assign_Tuple_tuple (I.ok.hd hc) ht (by simp [hn,<- hl,rv.length]) hst fun h' hx=>?_
 have I1:Inv X Np σ H { s with heap:=h' }:=I.kept (t':=s.toks) fun b o e=>hx b o (zU (yJ e)) e
 exact h Np _ σ H xs _ Q I1 (by simpa using rv) hw
noncomputable def K4 (to ti:TE) (t:se):TG:=fun v σ H Q=>to σ H fun o H1=>ti σ H1 fun i H2=>t o i v H2 fun H3=>Q σ H3
theorem EO {o i:Expr}{to ti:TE}{t:se} (ho:PE X o to) (hi:PE X i ti) (hs:vt X t)
  (ha:∀ v,assign (.Subscript o i pos) X.env v=(do
   let ov <- holding [v] (eval o X.env)
   let iv <- holding [v,ov] (eval i X.env)
   standAt pos
   holding [v,ov,iv] (setItem ov iv v)
   release [v,ov,iv] []):=by intro _;rfl):PG X (.Subscript o i pos) (K4 to ti t):=by
 intro Np s σ H v u Q I r h;rw [ha];refine yF (yQ (aE (ho Np s σ H _ I h) fun ov s1 hq0=>?_));obtain ⟨x,H1,I1,r1,q1⟩:=hq0;refine yF (yQ (aE (hi Np s1 σ H1 _ I1 q1) fun iv s2 hq0=>?_));obtain ⟨y,H2,I2,r2,q2⟩:=hq0;refine yF (wpAny_standAt (yF (yQ (aE (hs Np s2 σ H2 x y v ov iv u _ I2 r1 r2 r q2) fun _ s3 hq0=>?_))));obtain ⟨H3,I3,q3⟩:=hq0;exact wpAny_release ⟨σ,H3,I3,q3⟩
noncomputable def ui (te:TE) (g:TG):TS:=fun D σ H=>te σ H fun x H1=>g x σ H1 D.nx
theorem EI {tg e:Expr}{te:TE}{g:TG} (he:PE X e te) (hg:PG X tg g) (hs:swapsWithSole [tg] e pos.line X.env=pure false:=by rfl) (hw:swappedStores [tg] e X.env=pure none:=by rfl)
  (h1:(assignEach [tg] X.env).map (·.2)=[assign tg X.env]:=by rfl):PS X (.Assign [tg] e pos) (ui te g):=by
 intro Np s σ H D I h;refine wpAny_Assign_stores (aE (he Np s σ H _ I h) fun v s1 hq0=>?_) hs hw;obtain ⟨x,H1,I1,r1,q1⟩:=hq0;rw [h1];exact aE (hg Np s1 σ H1 x v _ I1 r1 q1) fun _ s2 q=>q
theorem EE {i:Nat}{x:Str}{e:Expr}{te:TE}{pos':Pos} (hN:X.N.Nodup) (hi:X.N[i]?=some x) (hx:Loc X.env.scope x) (he:PE X e te) (hs:swapsWith e (some (.Name x pos')) pos.line X.env=pure false:=by rfl) (hf:X.fn x=true\/X.env.scope.names.lookup x=some .local:=by first | exact .inl rfl | exact .inr rfl | assumption) :
  PS X (.Assign [.Name x pos'] e pos) (ui te (nY i)):=by
 intro Np s σ H D I h;refine wpAny_Assign_Name (aE (he Np s σ H _ I h) fun v s1 hq0=>?_) hs;obtain ⟨y,H1,I1,r1,q1⟩:=hq0;exact qh I1 hN hi hx r1 (fun s2 I2=>⟨_,H1,I2,q1⟩) hf
def G2 (to ti te:TE) (tget:V->V->Hp->VK->Prop) (tip:Bz) (tset:se):TS:=fun D σ H=>to σ H fun o H1=>ti σ H1 fun i H2=>tget o i H2 fun x H3=>te σ H3 fun y H4=>tip x y H4 fun z H5=>tset o i z H5 fun H6=>D.nx σ H6
def Aq (X:Cx) (t:V->V->Hp->VK->Prop):Prop :=
 ∀ (Np:List (Addr × Obj)) (s:Shared) (σ:St) (H:Hp) (o i:V) (ov iv:Value) (Q:VK),Inv X Np σ H s->RelV o ov->RelV i iv->t o i H Q ->
  wpAny (model X.prog X.w) X.A (getItem ov iv) (EP X Np σ Q) X.xe s
theorem Cp {o i e:Expr}{to ti te:TE}{tget:V->V->Hp->VK->Prop}{tip:Bz}{tset:se}{op:Operator}{tpos:Pos} (ho:PE X o to) (hi:PE X i ti) (hg:Aq X tget) (he:PE X e te) (hp:BC X op tip) (hs:vt X tset)
  (ha:∀ ov iv new,augStore i ov iv new=(do holding [new,ov,iv] (setItem ov iv new);release [new,ov,iv] [];pure .next):=by intros;rfl):PS X (.AugAssign (.Subscript o i tpos) op e pos) (G2 to ti te tget tip tset):=by
 intro Np s σ H D I h;refine wpAny_AugAssign_SubscriptAny (aE (ho Np s σ H _ I h) fun ov s1 hq0=>?_) ha;obtain ⟨x1,H1,I1,r1,q1⟩:=hq0;refine aE (hi Np s1 σ H1 _ I1 q1) fun iv s2 hq0=>?_
 obtain ⟨x2,H2,I2,r2,q2⟩:=hq0;refine aE (hg Np s2 σ H2 x1 x2 ov iv _ I2 r1 r2 q2) fun old s3 hq0=>?_
 obtain ⟨x3,H3,I3,r3,q3⟩:=hq0;refine aE (he Np s3 σ H3 _ I3 q3) fun v s4 hq0=>?_
 obtain ⟨x4,H4,I4,r4,q4⟩:=hq0;refine aE (hp Np s4 σ H4 x3 x4 old v _ I4 r3 r4 q4) fun new s5 hq0=>?_
 obtain ⟨x5,H5,I5,r5,q5⟩:=hq0;exact aE (hs Np s5 σ H5 x1 x2 x5 ov iv new _ I5 r1 r2 r5 q5) fun _ s6 ⟨H6,I6,q6⟩=>⟨σ,H6,I6,q6⟩
noncomputable def JK (f:Int->Int->Int):Bz:=fun x y H Q=>∃ i j,x=.int i/\y=.int j/\Q (.int (f i j)) H
theorem F4:BC X .Add (JK fun i j=>i + j):=by
 intro Np s σ H x y v u Q I r1 r2 h;obtain ⟨i,j,e1,e2,q⟩:=h;subst e1;subst e2;obtain ⟨t,rfl⟩:=r1;obtain ⟨t',rfl⟩:=r2;exact iadd_int ⟨.int _,H,I.tok _,⟨_,rfl⟩,q⟩
theorem F3:BC X .Sub (JK fun i j=>i - j):=by
 intro Np s σ H x y v u Q I r1 r2 h;obtain ⟨i,j,e1,e2,q⟩:=h;subst e1;subst e2;obtain ⟨t,rfl⟩:=r1;obtain ⟨t',rfl⟩:=r2;exact isub_int ⟨.int _,H,I.tok _,⟨_,rfl⟩,q⟩
end
section
variable {X:Cx}{pos:Pos}
def DA (c:TT) (tb:TS):TS:=fun D σ H=>∃ W:Nat->St->Hp->Prop,(∃ m,W m σ H)/\∀ m σ H,W m σ H ->
 c σ H fun b H1=>if b=true then ∃ N:St->Hp->Prop,(∀ σ' H',N σ' H'->∃ m',m' < m/\W m' σ' H')/\tb { D with nx:=N,ct:=N,bk:=D.nx } σ H1 else D.nx σ H1
theorem ya {c:Expr}{body:List Stmt}{tc:TT}{tb:TS} (hp:PassesOwn (model X.prog X.w) X.A X.env X.xe) (hc:PT X c tc) (hb:PSs X body tb):PS X (.While c body [] pos) (DA tc tb):=by
 intro Np s σ H D I h;obtain ⟨W,⟨m0,w0⟩,turn⟩:=h;refine wpAny_While (codeAny_whileLoop (fun n s'=>∃ σ' H',Inv X Np σ' H' s'/\W n σ' H') ?_ m0 ⟨σ,H,I,w0⟩);rintro n s1 ⟨σ1,H1,I1,w1⟩;refine wpAny_passesOwn hp (aE (hc Np s1 σ1 H1 _ I1 (turn n σ1 H1 w1)) fun b s2 hq0=>?_);obtain ⟨H2,I2,q2⟩:=hq0;cases b with
 | true =>
  obtain ⟨N,hN,q2⟩:=q2;rw [yI rfl];refine wpAny_passesOwn hp (aE (hb Np s2 σ1 H2 _ I2 q2) fun f s3 q3=>?_);cases f with
  | next =>
   obtain ⟨σ3,H3,I3,n3⟩:=q3;obtain ⟨m',hm,w3⟩:=hN σ3 H3 n3;exact ⟨m',hm,σ3,H3,I3,w3⟩
  | cont =>
   obtain ⟨σ3,H3,I3,n3⟩:=q3;obtain ⟨m',hm,w3⟩:=hN σ3 H3 n3;exact ⟨m',hm,σ3,H3,I3,w3⟩
  | brk=>exact q3
  | ret v=>exact q3
 | false =>
  rw [yH Bool.false_ne_true];exact wpAny_execs_nil ⟨σ1,H2,I2,q2⟩
end
structure It where
 go:Nat->Hp->Prop
 yld:Nat->Hp->V->Hp->Prop
 stop:Nat->Hp->Prop
def dw (X:Cx) (Np:List (Addr × Obj)) (H:Hp) (b:Addr):Prop :=
 H b=none/\b ≠ X.env.locals/\b ∉ X.fs/\(b ∈ X.ex\/X.s₀.heap.objs.size <= b)/\(∀ x c,X.env.cells.lookup x=some c->c ≠ b)/\∀ p ∈ X.pn++Np,p.1 ≠ b
theorem Inv.fpOk {X:Cx}{Np:List (Addr × Obj)}{σ:St}{H H':Hp}{s:Shared}{b:Addr} (I:Inv X Np σ H s) (hb:s.heap.objs.size <= b) (hn:H' b=none):dw X Np H' b:=by
 refine ⟨hn,Nat.ne_of_gt (zJ I.lt hb),I.nofs hb,.inr (z5 I.sz hb),fun x c e z=>?_,fun p hp z=>?_⟩
 ·obtain ⟨v,q⟩:=I.cell x c e
  exact absurd (zJ q.lt (by rw [z];exact hb)) (yX _)
 ·exact absurd (zJ (yJ (I.pin p hp).1) (by rw [z];exact hb)) (yX _)
structure jc (P:Program) (w:World) (K:Frag) (tg:Expr) (J:It) (fp:List Addr) (it:Addr) (tn:Nat->Heap->Prop):Prop where
 mem:it ∈ fp
 obj:∀ i h,tn i h->∀ b ∈ fp,∃ o,h.get? b=some o/\∀ v,o.data ≠ .cell v
 keep:∀ i h h',tn i h->(∀ b ∈ fp,∀ o,h.get? b=some o->h'.get? b=some o)->tn i h'
 item:∀ (X:Cx),X.prog=P->X.w=w->X.K=K->X.calm=true->∀ (i:Nat) (Np:List (Addr × Obj)) (s:Shared) (σ:St) (H:Hp) (E:Value->Shared->Prop),Inv X Np σ H s->(∀ b ∈ fp,dw X Np H b)->tn i s.heap->J.go i H ->
  wpAny (model P w) X.A (pyNext (.ref it)) (fun r s1=>∃ u,r=some u /\
   wpAny (model P w) X.A (letOwnedTupleGo tg (.ref it) u) (fun _ s2=>∃ x H',Inv X Np σ H' s2/\RelV x u/\J.yld i H x H'/\tn (i + 1) s2.heap/\∀ b ∈ fp,H' b=none) E s1) E s
 done:∀ (X:Cx),X.prog=P->X.w=w->X.K=K->X.calm=true->∀ (i:Nat) (Np:List (Addr × Obj)) (s:Shared) (σ:St) (H:Hp) (E:Value->Shared->Prop),Inv X Np σ H s->(∀ b ∈ fp,dw X Np H b)->tn i s.heap->J.stop i H ->
  wpAny (model P w) X.A (pyNext (.ref it)) (fun r s1=>r=none/\Inv X Np σ H s1) E s
 self:∀ (A:Around) (i:Nat) (s:Shared) (Q:Value->Shared->Prop) (E:Value->Shared->Prop),tn i s.heap->Q (.ref it) s->wpAny (model P w) A (pyIter (.ref it)) Q E s
abbrev TI:=St->Hp->(It->Hp->Prop)->Prop
def GI (X:Cx) (Np:List (Addr × Obj)) (σ:St) (tg:Expr) (R:It->Hp->Prop) (itv:Value) (s2:Shared):Prop :=
 ∃ (it:Addr) (fp:List Addr) (tn:Nat->Heap->Prop) (J:It) (H':Hp),itv=.ref it/\Inv X Np σ H' s2/\jc X.prog X.w X.K tg J fp it tn/\tn 0 s2.heap/\(∀ b ∈ fp,dw X Np H' b)/\R J H'
def PI (X:Cx) (tg iter:Expr) (wi:TI):Prop :=
 ∀ (Np:List (Addr × Obj)) (s:Shared) (σ:St) (H:Hp) (R:It->Hp->Prop),Inv X Np σ H s->wi σ H R ->
  wpAny (model X.prog X.w) X.A (eval iter X.env) (fun v s1=>wpAny (model X.prog X.w) X.A (pyIter v) (GI X Np σ tg R) X.xe s1) X.xe s
theorem lR {M:Model}{A:Around}{E:Value->Shared->Prop}{s:Shared}{tg:Expr}{it:Addr}{u:Value}{o:Obj}{n:String}{vs:Array Value}{Q:Unit->Shared->Prop} (ho:s.heap.get? it=some o) (hc:o.cls=.type n) (hd:o.data=.fields vs)
  (hn:["enumerate","zip","dict_itemiterator","dict_reverseitemiterator","odict_iterator","itertools.zip_longest","itertools.pairwise"].contains n=false) (hQ:Q () s):wpAny M A (letOwnedTupleGo tg (.ref it) u) Q E s:=by
 unfold letOwnedTupleGo;cases tg <;> first
  | exact yG hQ
  | (cases u <;> first
    | exact yG hQ
    | (refine yF (wpAny_load ho ?_)
       rw [hc,hd];show wpAny M A (if (["enumerate","zip","dict_itemiterator","dict_reverseitemiterator","odict_iterator","itertools.zip_longest","itertools.pairwise"].contains n && vs[0]? == some (rawInt _))=true then _ else _) Q E s;rw [yH (by intro h;rw [hn,Bool.false_and] at h;cases h)];exact yG hQ))
noncomputable def BI (K:Frag) (a:Addr):It :=
 ⟨fun i H=>∃ xs x,bA K H a xs/\xs[i]?=some x,fun i H x H'=>H'=H/\∀ xs,bA K H a xs->xs[i]?=some x,fun i H=>∃ xs,bA K H a xs/\xs.length <= i⟩
noncomputable def BG (K:Frag) (a:Addr):It :=
 ⟨fun i H=>∃ xs x,fR K H a xs/\xs[i]?=some x,fun i H x H'=>H'=H/\∀ xs,fR K H a xs->xs[i]?=some x,fun i H=>∃ xs,fR K H a xs/\xs.length <= i⟩
noncomputable def xu (lo:Int) (n:Nat):It:=⟨fun i _=>i < n,fun i H x H'=>H'=H/\x=.int (lo + i),fun i _=>n <= i⟩
theorem vC {P:Program}{w:World}{K:Frag}{tg:Expr} (a it:Addr):jc P w K tg (BI K a) [it] it (fun i h=>h.IsListIter it a i) where
 mem:=by simp
 obj:=fun i h st b hb=>by
  have e:b=it:=by simpa using hb
  subst e;obtain ⟨o,e,c,d⟩:=st;exact ⟨o,e,fun v z=>by rw [d] at z;cases z⟩
 keep:=fun i h h' st k=>st.at fun o e=>k it (by simp) o e
 item:=by
  intro X hP hw hK hc i Np s σ H E I hf st hg;subst hP hw hK;obtain ⟨xs,x,hq,hx⟩:=hg;obtain ⟨Nu,rv,p,hz⟩:=I.list hq;obtain ⟨u,hu,ru⟩:=rv.get hx;obtain ⟨f0,f1,f2,f3,f4,f5⟩:=hf it (by simp);refine wpAny_pyNext_list_item st p.isList (x:=u) (by simpa using hu) fun h' st' sb=>?_
  have I1:Inv X Np σ H { s with heap:=h' }:=I.turned (t':=s.toks) (fun b o hb e=>(sb.2 b hb).trans e) f0 f1 f3 f4 f5;obtain ⟨o,e,c,d⟩:=id st';exact ⟨u,rfl,lR (s:={ s with heap:=h' }) e c d dC ⟨x,H,I1,ru,⟨rfl,fun ys hy=>by rw [I.list_inj hy hq];exact hx⟩,st',fun b hb=>(hf b hb).1⟩⟩
 done:=by
  intro X hP hw hK hc i Np s σ H E I hf st hg;subst hP hw hK;obtain ⟨xs,hq,hx⟩:=hg;obtain ⟨Nu,rv,p,hz⟩:=I.list hq;obtain ⟨f0,f1,f2,f3,f4,f5⟩:=hf it (by simp);have hl:=rv.length;exact wpAny_pyNext_list_end (I.ok.hd hc) st p.isList (by simp;omega) fun h' eb=>⟨rfl,I.turned (t':=s.toks) (fun b o hb e=>eb b o hb e) f0 f1 f3 f4 f5⟩
 self:=fun _ _ _ _ _ st h=>wpAny_pyIter_listiter st h
theorem ud {P:Program}{w:World}{K:Frag}{tg:Expr} (a it:Addr):jc P w K tg (BG K a) [it] it (fun i h=>h.IsTupleIter it a i) where
 mem:=by simp
 obj:=fun i h st b hb=>by
  have e:b=it:=by simpa using hb
  subst e;obtain ⟨o,e,c,d⟩:=st;exact ⟨o,e,fun v z=>by rw [d] at z;cases z⟩
 keep:=fun i h h' st k=>st.at fun o e=>k it (by simp) o e
 item:=by
  intro X hP hw hK hc i Np s σ H E I hf st hg;subst hP hw hK;obtain ⟨xs,x,hq,hx⟩:=hg;obtain ⟨Nu,rv,p,hz⟩:=I.tuple hq;obtain ⟨u,hu,ru⟩:=rv.get hx;obtain ⟨f0,f1,f2,f3,f4,f5⟩:=hf it (by simp);refine wpAny_pyNext_tuple_item st (show s.heap.IsTuple a Nu.toArray from p) (x:=u) (by simpa using hu) fun h' st' sb=>?_
  have I1:Inv X Np σ H { s with heap:=h' }:=I.turned (t':=s.toks) (fun b o hb e=>(sb.2 b hb).trans e) f0 f1 f3 f4 f5;obtain ⟨o,e,c,d⟩:=id st';exact ⟨u,rfl,lR (s:={ s with heap:=h' }) e c d dC ⟨x,H,I1,ru,⟨rfl,fun ys hy=>by rw [I.tuple_inj hy hq];exact hx⟩,st',fun b hb=>(hf b hb).1⟩⟩
 done:=by
  intro X hP hw hK hc i Np s σ H E I hf st hg;subst hP hw hK;obtain ⟨xs,hq,hx⟩:=hg;obtain ⟨Nu,rv,p,hz⟩:=I.tuple hq;obtain ⟨f0,f1,f2,f3,f4,f5⟩:=hf it (by simp);have hl:=rv.length;exact wpAny_pyNext_tuple_end (I.ok.hd hc) st (show s.heap.IsTuple a Nu.toArray from p) (by simp;omega) fun h' eb=>⟨rfl,I.turned (t':=s.toks) (fun b o hb e=>eb b o hb e) f0 f1 f3 f4 f5⟩
 self:=fun _ _ _ _ _ st h=>wpAny_pyIter_tupleiter st h
theorem ue {P:Program}{w:World}{K:Frag}{tg:Expr} (it:Addr) (lo:Int) (n:Nat):jc P w K tg (xu lo n) [it] it (fun i h=>IsRangeIter h it (lo + (i:Nat) * 1) ((n:Int) - (i:Nat)) 1) where
 mem:=by simp
 obj:=fun i h st b hb=>by
  have e:b=it:=by simpa using hb
  subst e;exact ⟨_,st,fun v z=>by
   have z':Data.fields _=Data.cell v:=z;cases z'⟩
 keep:=fun i h h' st k=>k it (by simp) _ st
 item:=by
  intro X hP hw hK hc i Np s σ H E I hf st hg;subst hP hw hK;obtain ⟨f0,f1,f2,f3,f4,f5⟩:=hf it (by simp);have W:=Walks.range (prog:=X.prog) (w:=X.w) (I.ok.hd hc) it lo 1 n;refine W.item i s _ _ hg st fun v h' tk hv st' kk=>?_
  obtain ⟨t,rfl⟩:=hv;have I1:Inv X Np σ H { s with heap:=h',toks:=tk }:=I.turned (fun b o hb e=>kk b o (by simpa using hb) e) f0 f1 f3 f4 f5;refine ⟨_,rfl,lR (s:={ s with heap:=h',toks:=tk }) (n:="range_iterator") st' rfl rfl dC ⟨.int (lo + i),H,I1,⟨t,?_⟩,⟨rfl,rfl⟩,st',fun b hb=>(hf b hb).1⟩⟩;rw [Int.mul_one]
 done:=by
  intro X hP hw hK hc i Np s σ H E I hf st hg;subst hP hw hK;obtain ⟨f0,f1,f2,f3,f4,f5⟩:=hf it (by simp);exact wpAny_pyNext_range_end (I.ok.hd hc) st (by have:n <= i:=hg;omega) fun h' eb=>⟨rfl,I.turned (t':=s.toks) (fun b o hb e=>eb b o hb e) f0 f1 f3 f4 f5⟩
 self:=fun _ _ _ _ _ st h=>wpAny_pyIter_rangeiter st h
section
variable {X:Cx}{tg:Expr}
theorem qv {Np:List (Addr × Obj)}{σ:St}{H:Hp}{s:Shared}{R:It->Hp->Prop}{E:Value->Shared->Prop}{lo hi:Int}{t u v:Tok}{tk:Nat} (I:Inv X Np σ H s) (h1:-(2 ^ 62) <= lo) (h2:lo < 2 ^ 62) (h3:-(2 ^ 62) <= hi) (h4:hi < 2 ^ 62)
  (q:R (xu lo (hi - lo).toNat) H):wpAny (model X.prog X.w) X.A (pyIter (.ref s.heap.objs.size)) (GI X Np σ tg R) E { s with heap:=s.heap.push { cls:=.type "range",data:=.fields #[.int lo t,.int hi u,.int 1 v] },toks:=tk }:=by
 refine wpAny_pyIter_range (IsRange.new ..) (small_one h1 h2 h3 h4) ?_;have I1:Inv X Np σ H { s with heap:=s.heap.push { cls:=.type "range",data:=.fields #[.int lo t,.int hi u,.int 1 v] },toks:=tk }:=I.kept fun b o e=>zG _ e
 refine ⟨(s.heap.push { cls:=.type "range",data:=.fields #[.int lo t,.int hi u,.int 1 v] }).objs.size,[(s.heap.push { cls:=.type "range",data:=.fields #[.int lo t,.int hi u,.int 1 v] }).objs.size],_,_,H,rfl,
  I1.kept (t':=tk) fun b o e=>zG _ e,ue _ lo (hi - lo).toNat,?_,fun b hb=>?_,q⟩
 ·have e1:lo + ((0:Nat):Int) * 1=lo:=by simp
  have e2:(((hi - lo).toNat:Nat):Int) - ((0:Nat):Int)=Builtin.Range.rangeSize lo hi 1:=by rw [rangeSize_one];split <;> omega
  show IsRangeIter _ _ (lo + ((0:Nat):Int) * 1) ((((hi - lo).toNat:Nat):Int) - ((0:Nat):Int)) 1;rw [e1,e2];exact zY _ rfl
 ·have e:b=(s.heap.push { cls:=.type "range",data:=.fields #[.int lo t,.int hi u,.int 1 v] }).objs.size:=by simpa using hb
  subst e;exact I1.fpOk (zP _) (I1.Ny.fresh (zP _))
def Ib (ta:TA):TI:=fun σ H R=>ta σ H fun vs H1=>∃ j:Int,vs=[.int j]/\-(2 ^ 62) <= j/\j < 2 ^ 62/\R (xu 0 j.toNat) H1
def Ia (ta:TA):TI:=fun σ H R=>ta σ H fun vs H1=>∃ i j:Int,vs=[.int i,.int j]/\(-(2 ^ 62) <= i/\i < 2 ^ 62/\-(2 ^ 62) <= j/\j < 2 ^ 62)/\R (xu i (j - i).toNat) H1
theorem v6 {a:Expr}{ta:TA}{p pos:Pos} (hg:Gl X "range") (hm:X.mg "range"=none) (ha:PA X [a] ta) (hs:starEach [a] X.env=[(false,eval a X.env)]:=by rfl):PI X tg (.Call (.Name "range" p) [a] [] pos) (Ib ta):=by
 intro Np s σ H R I h;refine Call_ (cF I hg hm boot_range (PyProof.Rows.callWith_type1 (aE (ha pos Np s σ H _ I h) fun us s1 hq0=>?_) hs rfl));obtain ⟨vs,H1,I1,r1,q1⟩:=hq0;obtain ⟨j,e,q1,q2,q⟩:=q1;subst e;cases r1 with
 | cons r rr =>
  cases rr;obtain ⟨t,rfl⟩:=r;exact call_range_1 (qv I1 oM oM q1 q2 (by simpa using q))
theorem v4 {a b:Expr}{ta:TA}{p pos:Pos} (hg:Gl X "range") (hm:X.mg "range"=none) (ha:PA X [a,b] ta) (hs:starEach [a,b] X.env=[(false,eval a X.env),(false,eval b X.env)]:=by rfl) (hs2:starEach [b] X.env=[(false,eval b X.env)]:=by rfl) :
  PI X tg (.Call (.Name "range" p) [a,b] [] pos) (Ia ta):=by
 intro Np s σ H R I h;refine Call_ (cF I hg hm boot_range (PyProof.Rows.callWith_type1 (aE (ha pos Np s σ H _ I h) fun us s1 ⟨vs,H1,I1,r1,q1⟩=>?_) (by rw [hs,hs2]) (by rw [hs2];rfl)));obtain ⟨i,j,e,⟨q1,q2,q3,q4⟩,q⟩:=q1;subst e;cases r1 with
 | cons r rr =>
  cases rr with
  | cons r' rr =>
   cases rr;obtain ⟨t,rfl⟩:=r;obtain ⟨t',rfl⟩:=r';exact call_range_2 (qv I1 q1 q2 q3 q4 q)
def Kj (wi:TI) (g:TG) (tb:TS):TS:=fun D σ H=>wi σ H fun J H1=>∃ W:Nat->Nat->St->Hp->Prop,(∃ m,W 0 m σ H1)/\∀ i m σ H,W i m σ H ->
 (J.stop i H/\D.nx σ H)\/(J.go i H/\∃ N:St->Hp->Prop,(∀ σ' H',N σ' H'->∃ m',m' < m/\W (i + 1) m' σ' H')/\∀ x H',J.yld i H x H'->g x σ H' fun σ2 H2=>tb { D with nx:=N,ct:=N,bk:=D.nx } σ2 H2)
noncomputable def fA (fp:List Addr) (h:Heap):List (Addr × Obj):=fp.filterMap fun b=>(h.get? b).map fun o=>(b,o)
theorem cY {fp:List Addr}{h:Heap}{b:Addr}{o:Obj} (hb:b ∈ fp) (e:h.get? b=some o):(b,o) ∈ fA fp h:=List.mem_filterMap.mpr ⟨b,hb,by rw [e];rfl⟩
theorem wl {fp:List Addr}{h:Heap}{p:Addr × Obj} (hp:p ∈ fA fp h):p.1 ∈ fp/\h.get? p.1=some p.2:=by
 obtain ⟨b,hb,e⟩:=List.mem_filterMap.mp hp;cases q:h.get? b with
 | none=>rw [q] at e;cases e
 | some o =>
  rw [q] at e;have e':(b,o)=p:=yE e;subst e';exact ⟨hb,q⟩
theorem Inv.pinned {Np:List (Addr × Obj)}{σ:St}{H:Hp}{s:Shared}{fp:List Addr} (I:Inv X Np σ H s) (hf:∀ b ∈ fp,dw X Np H b) (ho:∀ b ∈ fp,∃ o,s.heap.get? b=some o/\∀ v,o.data ≠ .cell v):Inv X (Np++fA fp s.heap) σ H s :=
 I.pins_of fun p hp=>(zZ.mp hp).elim (fun z=>I.pin p (zK _ z)) fun z=>by
  obtain ⟨hb,e⟩:=wl z;obtain ⟨f0,f1,f2,_⟩:=hf p.1 hb;obtain ⟨o,e',d⟩:=ho p.1 hb;rw [e] at e';cases e';exact ⟨e,f0,f1,f2,d⟩
theorem Inv.unpinned {Np pl:List (Addr × Obj)}{σ:St}{H:Hp}{s:Shared} (I:Inv X (Np++pl) σ H s):Inv X Np σ H s:=I.pins_of fun p hp=>I.pin p (zK _ (zL _ hp))
theorem vZ {iter:Expr}{body:List Stmt}{wi:TI}{g:TG}{tb:TS}{pos:Pos} (hp:PassesOwn (model X.prog X.w) X.A X.env X.xe) (hc:X.calm=true) (hi:PI X tg iter wi) (hg:PG X tg g) (hb:PSs X body tb)
  (hs:∀ x,foldedSetIterable iter X.env x=pure x:=by intro _;rfl):PS X (.For tg iter body [] pos) (Kj wi g tb):=by
 intro Np s σ H D I h;refine wpAny_For (aE (hi Np s σ H _ I h) fun v s1 h1=>aE h1 fun itv s2 h2=>?_) hs;obtain ⟨it,fp,tn,J,H2,e,I2,T,st2,f2,W,⟨m0,w0⟩,turn⟩:=h2;subst e
 -- what stays true of the iterator's objects through the loop
 have stat:∀ {H':Hp},(∀ b ∈ fp,H' b=none)->∀ b ∈ fp,dw X Np H' b:=fun hn b hb=>⟨hn b hb,(f2 b hb).2⟩
 refine codeAny_forLoop_any (fun n s'=>∃ i σ' H',Inv X Np σ' H' s'/\tn i s'.heap/\(∀ b ∈ fp,H' b=none)/\W i n σ' H') ?_ m0 ⟨0,σ,H2,I2,st2,fun b hb=>(f2 b hb).1,w0⟩;rintro n s3 ⟨i,σ3,H3,I3,st3,fr3,w3⟩;rcases turn i n σ3 H3 w3 with ⟨stop,qn⟩ | ⟨go,N,hN,step⟩
 ·refine wpAny_passesOwn hp (aE (T.done X rfl rfl rfl hc i Np s3 σ3 H3 X.xe I3 (stat fr3) st3 stop) fun r s4 hq0=>?_)
  obtain ⟨hr,I4⟩:=hq0;subst hr;exact wpAny_execs_nil ⟨σ3,H3,I4,qn⟩
 ·refine wpAny_passesOwn hp (aE (T.item X rfl rfl rfl hc i Np s3 σ3 H3 X.xe I3 (stat fr3) st3 go) fun r s4 hq0=>?_)
  obtain ⟨u,hr,h4⟩:=hq0;subst hr;refine wpAny_passesOwn hp (aE h4 fun _ s5 hq0=>?_);obtain ⟨x,H5,I5,r5,y5,st5,fr5⟩:=hq0;have I5':=I5.pinned (stat fr5) (T.obj _ _ st5);refine wpAny_passesOwn hp (aE (hg _ s5 σ3 H5 x u _ I5' r5 (step x H5 y5)) fun _ s6 hq0=>?_);obtain ⟨σ6,H6,I6,q6⟩:=hq0;refine wpAny_passesOwn hp (aE (hb _ s6 σ6 H6 _ I6 q6) fun f s7 q7=>?_);have again:∀ {σ7:St}{H7:Hp},Inv X (Np++fA fp s5.heap) σ7 H7 s7->N σ7 H7->∃ m,m < n/\∃ i σ' H',Inv X Np σ' H' s7/\tn i s7.heap/\(∀ b ∈ fp,H' b=none)/\W i m σ' H':=fun {σ7 H7} I7 n7=>by
   obtain ⟨m',hm,w7⟩:=hN σ7 H7 n7;refine ⟨m',hm,i + 1,σ7,H7,I7.unpinned,T.keep _ _ _ st5 fun b hb o e=>(I7.pin (b,o) (zK _ (zK _ (cY hb e)))).1,fun b hb=>?_,w7⟩;obtain ⟨o,e,d⟩:=T.obj _ _ st5 b hb;exact (I7.pin (b,o) (zK _ (zK _ (cY hb e)))).2.1
  cases f with
  | next=>obtain ⟨σ7,H7,I7,n7⟩:=q7;exact again I7 n7
  | cont=>obtain ⟨σ7,H7,I7,n7⟩:=q7;exact again I7 n7
  | brk=>obtain ⟨σ7,H7,I7,q7⟩:=q7;exact ⟨σ7,H7,I7.unpinned,q7⟩
  | ret v=>obtain ⟨x7,σ7,H7,I7,r7,q7⟩:=q7;exact ⟨x7,σ7,H7,I7.unpinned,r7,q7⟩
end
abbrev R2:=V->V->Hp->VK->Prop
def lE (X:Cx) (f:Value->Value->Sem Value) (r:R2):Prop :=
 ∀ (Np:List (Addr × Obj)) (s:Shared) (σ:St) (H:Hp) (x y:V) (v u:Value) (Q:VK),Inv X Np σ H s->RelV x v->RelV y u->r x y H Q ->
  wpAny (model X.prog X.w) X.A (f v u) (EP X Np σ Q) X.xe s
def xo (X:Cx) (f:Value->Sem Value) (r:V->Hp->VK->Prop):Prop :=
 ∀ (Np:List (Addr × Obj)) (s:Shared) (σ:St) (H:Hp) (x:V) (v:Value) (Q:VK),Inv X Np σ H s->RelV x v->r x H Q ->
  wpAny (model X.prog X.w) X.A (f v) (EP X Np σ Q) X.xe s
def cg (X:Cx) (f:Value) (r:List V->Hp->VK->Prop):Prop :=
 ∀ (Np:List (Addr × Obj)) (s:Shared) (σ:St) (H:Hp) (xs:List V) (us:List Value) (Q:VK),Inv X Np σ H s->Vals xs us->r xs H Q ->
  wpAny (model X.prog X.w) X.A (call f us) (EP X Np σ Q) X.xe s
def Lr (X:Cx) (r:V->Hp->(Bool->Hp->Prop)->Prop):Prop :=
 ∀ (Np:List (Addr × Obj)) (s:Shared) (σ:St) (H:Hp) (x:V) (v:Value) (Q:Bool->Hp->Prop),Inv X Np σ H s->RelV x v->r x H Q ->
  wpAny (model X.prog X.w) X.A (truthy v) (TP X Np σ Q) X.xe s
noncomputable def vH (r:R2) (ta tb:TE):TE:=fun σ H Q=>ta σ H fun x H1=>tb σ H1 fun y H2=>r x y H2 Q
def Jh (r:V->Hp->VK->Prop) (ta:TE):TE:=fun σ H Q=>ta σ H fun x H1=>r x H1 Q
def rU (g:Int->V):V->Hp->VK->Prop:=fun x H Q=>∃ i,x=.int i/\Q (g i) H
section
variable {X:Cx}{a b c:Expr}{ta tb tc:TE}{pos:Pos}
theorem Ak (ha:PE X a ta) (hb:PE X b tb) {Np:List (Addr × Obj)}{s:Shared}{σ:St}{H:Hp}{R:V->V->Hp->Prop} (I:Inv X Np σ H s)
  (h:ta σ H fun x H1=>tb σ H1 fun y H2=>R x y H2) {Q:Value->Shared->Prop}{f:Value->Value->Sem Value}
  (hf:∀ v u s2 x y H2,Inv X Np σ H2 s2->RelV x v->RelV y u->R x y H2->wpAny (model X.prog X.w) X.A (f v u) Q X.xe s2) :
  wpAny (model X.prog X.w) X.A (eval a X.env) (fun v s₁=>wpAny (model X.prog X.w) X.A (eval b X.env) (fun u s₂=>wpAny (model X.prog X.w) X.A (f v u) Q X.xe s₂) X.xe s₁) X.xe s:=by
 refine aE (ha Np s σ H _ I h) fun v s1 hq0=>?_
 obtain ⟨x,H1,I1,r1,q1⟩:=hq0;refine aE (hb Np s1 σ H1 _ I1 q1) fun u s2 hq0=>?_
 obtain ⟨y,H2,I2,r2,q2⟩:=hq0;exact hf v u s2 x y H2 I2 r1 r2 q2
theorem uy {op:Operator}{r:R2} (ho:lE X (binaryOp op) r) (ha:PE X a ta) (hb:PE X b tb):PE X (.BinOp a op b pos) (vH r ta tb):=by
 intro Np s σ H Q I h;exact wpAny_BinOp (Ak ha hb I h fun v u s2 x y H2 I2 rx ry q=>ho Np s2 σ H2 x y v u Q I2 rx ry q)
theorem Hu {op:UnaryOp}{r:V->Hp->VK->Prop} (ho:xo X (unaryOp op) r) (ha:PE X a ta):PE X (.UnaryOp op a pos) (Jh r ta):=by
 intro Np s σ H Q I h;exact UnaryOp_ (aE (ha Np s σ H _ I h) fun v s1 ⟨x,H1,I1,r1,q1⟩=>ho Np s1 σ H1 x v Q I1 r1 q1)
def Lu (i j:Int):Prop:=0 <= j/\j <= 1000000/\i.natAbs < 2 ^ 64
theorem uc (k:Nat):(0:Int) <= 2 ^ k:=by
 rw [two_pow_cast];exact Int.natCast_nonneg _
theorem Jg {f:Value->Sem Value}{g:Int->Int}
  (rule:∀ (i:Int) (t:Tok) (s:Shared) (Q:Value->Shared->Prop) (E:Value->Shared->Prop),Q (.int (g i) s.toks) { s with toks:=s.toks + 1 }->wpAny (model X.prog X.w) X.A (f (.int i t)) Q E s) :
  xo X f (rU fun i=>.int (g i)):=by
 intro Np s σ H x v Q I rx h;obtain ⟨i,rfl,q⟩:=h;obtain ⟨t,rfl⟩:=rx;exact rule i t s _ _ ⟨.int (g i),H,I.tok _,⟨_,rfl⟩,q⟩
theorem Du:xo X (unaryOp .USub) (rU fun i=>.int (-i)):=Jg fun _ _ _ _ _ q=>neg_int q
theorem Dv:xo X (unaryOp .Invert) (rU fun i=>.int (Builtin.bitNot i)):=Jg fun _ _ _ _ _ q=>invert_int q
end
section
variable {X:Cx}{a b c:Expr}{ta tb tc:TE}{pos:Pos}
theorem CD {op:CmpOp}{r:R2} (ho:lE X (compareOp op) r) (ha:PE X a ta) (hb:PE X b tb) (hm:behindInMarks op b=false):PE X (.Compare a [op] [b] pos) (vH r ta tb):=by
 intro Np s σ H Q I h;exact wpAny_Compare1 (Ak ha hb I h fun v u s2 x y H2 I2 rx ry q=>ho Np s2 σ H2 x y v u Q I2 rx ry q) hm
noncomputable def GW (t:TE):TT:=fun σ H Q=>t σ H fun x H'=>∃ k,x=.bl k/\Q k H'
theorem Cl {op:CmpOp}{r:R2} (ho:lE X (compareOp op) r) (ha:PE X a ta) (hb:PE X b tb) (hm:behindInMarks op b=false):PT X (.Compare a [op] [b] pos) (GW (vH r ta tb)):=by
 intro Np s σ H Q I h;refine wpAny_isTrue_Compare1 (aE (ha Np s σ H _ I h) fun v s1 ⟨x,H1,I1,r1,q1⟩=>aE (hb Np s1 σ H1 _ I1 q1) fun u s2 ⟨y,H2,I2,r2,q2⟩ =>
  aE (ho Np s2 σ H2 x y v u _ I2 r1 r2 q2) fun c s3 ⟨z,H3,I3,r3,k,e,q3⟩=>?_) hm
 subst e;cases r3;exact wpAny_truthy_bool ⟨H3,I3,q3⟩
def Ap (K:Frag) (x:V) (H:Hp) (k:Bool):Prop :=
 match x with
 | .non=>k=false
 | .bl b=>k=b
 | .int i=>k=(i != 0)
 | .str y=>y.length <= sizeLine/\k=((y.length:Int) != 0)
 | .byt y=>y.size <= sizeLine/\k=((y.size:Int) != 0)
 | .ref p=>(∃ xs,bA K H p xs/\k=!xs.isEmpty)\/(∃ xs,fR K H p xs/\k=!xs.isEmpty)\/∃ Nr,H p=some (.dK Nr)/\k=!Nr.isEmpty
 | _=>False
theorem uZ {κ:Type}{Nr:List (κ × V)}{vs:List (κ × Value)} (r:KV Nr vs):(!vs.isEmpty)=!Nr.isEmpty:=by
 cases r <;> rfl
theorem nT {xs:List V}{Nu:List Value} (r:Vals xs Nu):(!Nu.toArray.isEmpty)=!xs.isEmpty:=by
 cases r <;> simp
theorem gp:(sizeLine:Nat) < 2 ^ 63:=by rw [sizeLine_eq];decide
theorem Dy:Lr X (fun x H Q=>∃ k,Ap X.K x H k/\Q k H):=by
 intro Np s σ H x v Q I rx h;obtain ⟨k,e,q⟩:=h;have hl:=gp;have hs:sizeLine=16777216:=sizeLine_eq;cases x with
 | non =>
  cases rx;have e':k=false:=e;subst e';exact truthy_none ⟨H,I,q⟩
 | bl b =>
  cases rx;have e':k=b:=e;subst e';exact wpAny_truthy_bool ⟨H,I,q⟩
 | int i =>
  obtain ⟨t,rfl⟩:=rx;have e':k=(i != 0):=e;subst e';exact PySem.P.truthy_int ⟨H,I,q⟩
 | str y =>
  obtain ⟨t,rfl⟩:=rx;obtain ⟨hy,e'⟩:y.length <= sizeLine/\k=((y.length:Int) != 0):=e;subst e';exact PySem.P.truthy_str oM ⟨H,I.tok _,q⟩
 | byt y =>
  obtain ⟨t,rfl⟩:=rx;obtain ⟨hy,e'⟩:y.size <= sizeLine/\k=((y.size:Int) != 0):=e;subst e';exact truthy_bytes oM ⟨H,I.tok _,q⟩
 | ref p =>
  cases rx;have e':(∃ xs,bA X.K H p xs/\k=!xs.isEmpty)\/(∃ xs,fR X.K H p xs/\k=!xs.isEmpty)\/∃ Nr,H p=some (.dK Nr)/\k=!Nr.isEmpty:=e;rcases e' with ⟨xs,hx,e'⟩ | ⟨xs,hx,e'⟩ | ⟨Nr,hx,e'⟩
  ·subst e'
   obtain ⟨Nu,r,pl,hz⟩:=I.list hx;have hlen:=r.length;exact wpAny_truthy_list pl.isList (by simp only [zI];omega) ⟨H,I.tok _,by rw [nT r];exact q⟩
  ·subst e'
   obtain ⟨Nu,r,pl,hz⟩:=I.tuple hx;have hlen:=r.length;exact truthy_tuple pl (by simp only [zI];omega) ⟨H,I.tok _,by rw [nT r];exact q⟩
  ·subst e'
   obtain ⟨hz,hS,vs,r,m⟩:Nr.length <= sizeLine/\(p == sysModules)=false/\∃ vs,KV Nr vs/\s.heap.DictOf (bO X.prog X.w) p vs:=I.Ny p _ hx;have hlen:Nr.length=vs.length:=Paired.length r;exact wpAny_truthy_dict hS m oM ⟨H,I.tok _,by rw [uZ r];exact q⟩
 | _=>exact (show False from e).elim
theorem xY (ha:PE X a ta) (he:∀ whole,isTrue a X.env whole=(do let v <- whole;standAt a.pos;holding [v] (truthy v))) :
  PT X a (fun σ H Q=>ta σ H fun x H'=>∃ k,Ap X.K x H' k/\Q k H'):=by
 intro Np s σ H Q I h;exact isTrue_plain (aE (ha Np s σ H _ I h) fun v s1 ⟨x,H1,I1,r1,q1⟩=>Dy Np s1 σ H1 x v Q I1 r1 q1) (he _)
theorem uz:lE X (binaryOp .Add) (fun x y H Q=>∃ i j,x=.str i/\y=.str j/\i.length + j.length <= sizeLine/\Q (.str (i++j)) H):=by
 intro Np s σ H x y v u Q I rx ry h;obtain ⟨i,j,rfl,rfl,hz,q⟩:=h;obtain ⟨t,rfl⟩:=rx;obtain ⟨t',rfl⟩:=ry;exact add_str (fun t' tk=>⟨.str (i++j),H,I.tok _,⟨_,rfl⟩,q⟩) hz
theorem dQ {x:V}{us:List Value} (r:Vals [x] us):∃ u,us=[u]/\RelV x u:=by
 cases r with
 | cons r1 r2=>cases r2;exact ⟨_,rfl,r1⟩
theorem At {x y:V}{us:List Value} (r:Vals [x,y] us):∃ u w',us=[u,w']/\RelV x u/\RelV y w':=by
 cases r with
 | cons r1 r2 =>
  cases r2 with
  | cons r3 r4=>cases r4;exact ⟨_,_,rfl,r1,r3⟩
theorem Aj:cg X (.builtin "abs") (fun xs H Q=>∃ i,xs=[.int i]/\Q (.int (if i < 0 then -i else i)) H):=by
 intro Np s σ H xs us Q I r h;obtain ⟨i,rfl,q⟩:=h;obtain ⟨u,rfl,t,rfl⟩:=dQ r;exact call_abs_int fun u tk=>⟨.int (if i < 0 then -i else i),H,I.tok _,⟨_,rfl⟩,q⟩
theorem xa (hc:X.calm=true):cg X (.builtin "max") (fun xs H Q=>∃ i j,xs=[.int i,.int j]/\Q (.int (if j > i then j else i)) H):=by
 intro Np s σ H xs us Q I r h;obtain ⟨i,j,rfl,q⟩:=h;obtain ⟨u,w',rfl,⟨t,rfl⟩,⟨t',rfl⟩⟩:=At r;refine max_two_ints (I.ok.hd hc) fun h' tk k=>⟨_,H,I.kept k,?_,q⟩
 by_cases hj:j > i
 ·rw [yI hj,yI hj];exact ⟨_,rfl⟩
 ·rw [yH hj,yH hj];exact ⟨_,rfl⟩
theorem w6 (hc:X.calm=true):cg X (.builtin "min") (fun xs H Q=>∃ i j,xs=[.int i,.int j]/\Q (.int (if j < i then j else i)) H):=by
 intro Np s σ H xs us Q I r h;obtain ⟨i,j,rfl,q⟩:=h;obtain ⟨u,w',rfl,⟨t,rfl⟩,⟨t',rfl⟩⟩:=At r;refine min_two_ints (I.ok.hd hc) fun h' tk k=>⟨_,H,I.kept k,?_,q⟩
 by_cases hj:j < i
 ·rw [yI hj,yI hj];exact ⟨_,rfl⟩
 ·rw [yH hj,yH hj];exact ⟨_,rfl⟩
end
structure ObjM (h:Heap) (x dx C:Addr) (mA:Str->Option Value):Prop where
 obj:h.get? x=some (instObj C dx)
 ns:h.Ns1 dx mA
 ne:dx ≠ x
theorem wy {h:Heap}{dx:Addr}{mA:Str->Option Value} (n:h.Ns1 dx mA):∃ od,h.get? dx=some od/\∀ name,lookIn name od=some (mA name):=by
 obtain ⟨o,es,ep,ho,hd,hk,_,hm⟩:=n;refine ⟨o,ho,fun name=>?_⟩;have e:=hm name;unfold nsFind findBy at e;rw [<- Array.find?_toList] at e;unfold lookIn;rw [hd];dsimp only;split
 ·rename_i y q
  rw [q] at e;exact congrArg some e
 ·rename_i q
  rw [q] at e;have a:es.toList.any (·.refKey)=false:=by
   rw [List.any_eq_false];intro y hy;obtain ⟨z,t,hkey⟩:=hk y (Array.mem_toList_iff.mp hy);simp [DictEntry.refKey,hkey]
  have a':¬ es.toList.any (·.refKey)=true:=by rw [a];exact Bool.false_ne_true
  rw [yH a'];exact congrArg some e
theorem ObjM.look {h:Heap}{x dx C:Addr}{mA:Str->Option Value} (I:ObjM h x dx C mA):∃ od,InstAt h x (instObj C dx) C (some od)/\∀ name,lookIn name od=some (mA name) :=
 let ⟨od,ho,hl⟩:=wy I.ns
 ⟨od,⟨I.obj,rfl,rfl,ho⟩,hl⟩
section
variable {prog:Program}{w:World}{A:Around}{E:Value->Shared->Prop}{s:Shared}{K:Frag}{x dx C f:Addr}{mA:Str->Option Value}{name:Str}{v:Value}
theorem Dc {expr:Bool}{Q:Value->Shared->Prop} (X:K.In s.heap) (I:ObjM s.heap x dx C mA) (hg:plainGet K C name=true) (hh:hasDictIn K C=true)
  (ha:findIn K (.ref C) name=some none) (hv:mA name=some v) (hv':handedIn v=true) (h:Q v { s with toks:=s.toks + 1 }) :
  wpAny (model prog w) A (getAttr (.ref x) name expr) Q E s:=by
 obtain ⟨od,J,hl⟩:=I.look;exact get_value X J (plainGet_of hg).1 (findObj_own hh ha rfl (by rw [hl,hv])) hv' h
theorem zy {pl:Sem Bool}{Q:Value × List Value->Shared->Prop} (X:K.In s.heap) (I:ObjM s.heap x dx C mA) (hg:plainGet K C name=true)
  (hf:findIn K (.ref C) name=some (some (.ref f))) (ht:isFn K (.ref f)=true) (hv:mA name=none) (h:Q (.ref f,[.ref x]) s) :
  wpAny (model prog w) A (getMethod (.ref x) name pl) Q E s:=by
 obtain ⟨od,J,hl⟩:=I.look;exact method_fn X J (plainGet_of hg).1 (plainGet_of hg).2 hf (beq_iff_eq.mp ht) (by show (lookIn name od).map (·.isSome)=some false;rw [hl,hv];rfl) h
theorem BY {ns:List Str}{Q:Unit->Shared->Prop} (X:K.In s.heap) (I:ObjM s.heap x dx C mA)
  (hs:findIn K (.ref C) "__setattr__"=some (some (.builtin "object.__setattr__"))) (hp:plainOver K C=true) (ht:takerIn K C name=some none) (hh:hasDictIn K C=true)
  (hw:PySem.Within mA ns) (hsz:ns.length <= sizeLine)
  (h:∀ h',ObjM h' x dx C (fun y=>if y=name then some v else mA y)->Heap.SameBut dx s.heap h'->Q () { s with heap:=h',toks:=s.toks + 2 }) :
  wpAny (model prog w) A (setAttr (.ref x) name v) Q E s:=by
 obtain ⟨od,J,hl⟩:=I.look;refine set_plain X J hs (osa_open (s:={ s with toks:=s.toks + 1 }) (r:=none) X J hp ht fun b=>?_);obtain ⟨cd,hc,hd'⟩:=any_some hh;have hx:s.heap.get? x=some ⟨.ref C,some dx,.plain,#[]⟩:=I.obj;refine yF (yG (yF (yF (wpAny_loadPart hx (yF (PySem.W.Looks.here (s:={ s with toks:=s.toks + 1 }) (looks_clsIn X hc) ?_))))));rw [hd'];refine yG (a:=some dx) (yF (yG (yF ?_)));refine wpAny_nsSet1 (s:={ s with toks:=s.toks + 1 }) I.ns fun h' hn2 hs2=>?_
 obtain ⟨oD,esD,epD,hoD,hdD,hcD⟩:=hn2.count (PySem.Within.cons name v hw);refine yF (wpAny_lookBehind hoD (by rw [hdD];exact pastItsLine_dict (z5 hcD (by rw [yV];omega))) ?_);exact yG (h _ ⟨(hs2.2 _ (Ne.symm I.ne)).trans I.obj,hn2,I.ne⟩ hs2)
theorem zf {R:Result->Shared->Prop}{vs:List Value}{kw:List (Str × Value)} (X:K.In s.heap) (hm:makesIn K C=true)
  (hi:findIn K (.ref C) "__init__"=some (some (.ref f))) (hf:typeIn K (.ref f)=some (.type "function"))
  (h:codeAny (model prog w) (A.under (.builtin "type.__call__" ⟨.ref C::vs,kw⟩)) (.call (.ref f) ⟨.ref (s.heap.objs.size + 1)::vs,kw⟩) (InitBack (s.heap.objs.size + 1) R)
   { s with heap:=(s.heap.push emptyDict).push (instObj C s.heap.objs.size) }) :
  codeAny (model prog w) A (.call (.ref C) ⟨vs,kw⟩) R s:=by
 obtain ⟨hh,g,d,t,os⟩:=s;exact make_core (makes_of X hm) (looks_findIn X hi) (fun self=>bind_fn X self hf) (.inl rfl) h
end
noncomputable def dB (f:Str) (v:V):List (Str × V)->List (Str × V)
 | []=>[(f,v)]
 | (g,x)::r=>if g=f then (g,v)::r else (g,x)::dB f v r
theorem l8 (f g:Str) (v:V):∀ fs:List (Str × V),(dB f v fs).lookup g=if g=f then some v else fs.lookup g
 | []=>by
  show List.lookup g [(f,v)]=_;by_cases h:g=f
  ·have hb:(g == f)=true:=beq_iff_eq.mpr h
   simp only [List.lookup,hb,yI h]
  ·have hb:(g == f)=false:=beq_eq_false_iff_ne.mpr h
   simp only [List.lookup,hb,yH h]
 | (k,x)::r=>by
  have ih:=l8 f g v r;rw [show dB f v ((k,x)::r)=(if k=f then (k,v)::r else (k,x)::dB f v r) from rfl];by_cases hk:k=f
  ·rw [yI hk]
   by_cases h:g=k
   ·have hb:(g == k)=true:=beq_iff_eq.mpr h
    simp only [List.lookup,hb,yI (h.trans hk)]
   ·have hb:(g == k)=false:=beq_eq_false_iff_ne.mpr h
    simp only [List.lookup,hb,yH (fun e:g=f=>h (e.trans hk.symm))]
  ·rw [yH hk]
   by_cases h:g=k
   ·have hb:(g == k)=true:=beq_iff_eq.mpr h
    simp only [List.lookup,hb,yH (fun e:g=f=>hk (h.symm.trans e))]
   ·have hb:(g == k)=false:=beq_eq_false_iff_ne.mpr h
    simp only [List.lookup,hb];exact ih
theorem kZ (f:Str) (v:V):∀ fs:List (Str × V),f ∈ (dB f v fs).map (·.1)/\∀ g,g ∈ fs.map (·.1)->g ∈ (dB f v fs).map (·.1)
 | []=>⟨by simp [dB],fun g h=>by simp at h⟩
 | (k,x)::r=>by
  obtain ⟨i1,i2⟩:=kZ f v r;rw [show dB f v ((k,x)::r)=(if k=f then (k,v)::r else (k,x)::dB f v r) from rfl];by_cases hk:k=f
  ·rw [yI hk]
   subst hk;exact ⟨by simp,fun g h=>by simpa using h⟩
  ·rw [yH hk]
   refine ⟨?_,fun g h=>?_⟩
   ·rw [zO]
    exact zQ _ i1
   ·rw [zO] at h ⊢
    rcases zT.mp h with e | e
    ·exact zT.mpr (.inl e)
    ·exact zQ _ (i2 g e)
theorem md (f:Str) (v:V):∀ fs:List (Str × V),(dB f v fs).length <= fs.length + 1
 | []=>by simp [dB]
 | (k,x)::r=>by
  have ih:=md f v r;rw [show dB f v ((k,x)::r)=(if k=f then (k,v)::r else (k,x)::dB f v r) from rfl];by_cases hk:k=f
  ·rw [yI hk,yV,yV];omega
  ·rw [yH hk,yV,yV];omega
theorem RelO.some_of {v:V}{o:Option Value} (r:RelO (some v) o):∃ u,o=some u/\RelV v u:=by
 cases o with
 | none=>exact (show False from r).elim
 | some u=>exact ⟨u,rfl,r⟩
theorem RelO.none_of {o:Option Value} (r:RelO none o):o=none:=by
 cases o with
 | none=>rfl
 | some u=>exact (show False from r).elim
theorem wP {v:V}{u:Value} (r:RelV v u):handedIn u=true:=by
 cases v with
 | non=>cases (show u=Value.none from r);rfl
 | bl b=>cases (show u=Value.bool b from r);rfl
 | int i=>obtain ⟨t,e⟩:=(show ∃ t,u=Value.int i t from r);cases e;rfl
 | str x=>obtain ⟨t,e⟩:=(show ∃ t,u=Value.str x t from r);cases e;rfl
 | byt b=>obtain ⟨t,e⟩:=(show ∃ t,u=Value.bytes b t from r);cases e;rfl
 | flt b=>obtain ⟨t,e⟩:=(show ∃ t,u=Value.float b t from r);cases e;rfl
 | ref a=>cases (show u=Value.ref a from r);rfl
 | ty n=>cases (show u=Value.type n from r);rfl
section
variable {P:Program}{w:World}{H H':Hp}{h h':Heap}{a C dx:Addr}{fs fs':List (Str × V)}
theorem oV (Ny:HOk P w H h) (e:H a=some (.ins C dx fs)):∃ mA,ObjM h a dx C mA/\(∀ f,RelO (fs.lookup f) (mA f))/\PySem.Within mA (fs.map (·.1))/\fs.length <= 1000/\H dx=some (.own a):=by
 obtain ⟨d,z,ne,ob,mA,n,r,q⟩:=(show ObjOk P w H h a (.ins C dx fs) from Ny a _ e);exact ⟨mA,⟨ob,n,ne⟩,r,q,z,d⟩
end
structure Cls (K:Frag) (C:Addr):Prop where
 pg:plainGet K C Str.empty=true
 hd:hasDictIn K C=true
 po:plainOver K C=true
 sa:findIn K (.ref C) "__setattr__"=some (some (.builtin "object.__setattr__"))
theorem Cls.get {K:Frag}{C:Addr} (c:Cls K C) (f:Str):plainGet K C f=true:=c.pg
def NoAttr (K:Frag) (C:Addr) (f:Str):Prop:=findIn K (.ref C) f=some none
theorem NoAttr.taker {K:Frag}{C:Addr}{f:Str} (n:NoAttr K C f):takerIn K C f=some none:=by
 unfold takerIn;rw [show findIn K (.ref C) f=some none from n];rfl
structure jR (K:Frag) (C:Addr) (m:Str) (f:Addr):Prop where
 at_:findIn K (.ref C) m=some (some (.ref f))
 fn:isFn K (.ref f)=true
 kp:keepIn K (.ref f)=true
section
variable {X:Cx}{Np:List (Addr × Obj)}{σ:St}{H:Hp}{s:Shared}{a C dx:Addr}{fs:List (Str × V)}{f:Str}{v:V}{A:Around}{E:Value->Shared->Prop}
theorem u8 {b:Bool}{Q:Value->Shared->Prop} (I:Inv X Np σ H s) (e:H a=some (.ins C dx fs)) (c:Cls X.K C) (n:NoAttr X.K C f) (l:fs.lookup f=some v)
  (h:∀ u s',Inv X Np σ H s'->RelV v u->Q u s'):wpAny (model X.prog X.w) A (getAttr (.ref a) f b) Q E s:=by
 obtain ⟨mA,O,r,_,_,_⟩:=oV I.Ny e;obtain ⟨u,hu,ru⟩:=RelO.some_of (v:=v) (o:=mA f) (by rw [<- l];exact r f);exact Dc I.kIn O (c.get f) c.hd n hu (wP ru) (h u _ (I.tok _) ru)
theorem jL {m:Str}{g:Addr}{pl:Sem Bool}{Q:Value × List Value->Shared->Prop} (I:Inv X Np σ H s) (e:H a=some (.ins C dx fs)) (c:Cls X.K C) (k:jR X.K C m g) (l:fs.lookup m=none)
  (h:Q (.ref g,[.ref a]) s):wpAny (model X.prog X.w) A (getMethod (.ref a) m pl) Q E s:=by
 obtain ⟨mA,O,r,_,_,_⟩:=oV I.Ny e;have hn:mA m=none:=RelO.none_of (by rw [<- l];exact r m);exact zy I.kIn O (c.get m) k.at_ k.fn hn h
theorem ul {y:V}{u:Value}{Q:Unit->Shared->Prop} (I:Inv X Np σ H s) (e:H a=some (.ins C dx fs)) (c:Cls X.K C) (n:NoAttr X.K C f) (hl:fs.length < 1000) (ry:RelV y u)
  (h:∀ s',Inv X Np σ (af H a (.ins C dx (dB f y fs))) s'->Q () s'):wpAny (model X.prog X.w) A (setAttr (.ref a) f u) Q E s:=by
 obtain ⟨mA,O,r,wi,_,ho⟩:=oV I.Ny e;have hz:(fs.map (·.1)).length <= sizeLine:=by rw [zH,sizeLine_eq];omega
 refine BY I.kIn O c.sa c.po n.taker c.hd wi hz fun h' O' sb=>h _ ?_
 have hd:∃ o,h'.get? dx=some o:=let ⟨o,_,_,e',_⟩:=O'.ns;⟨o,e'⟩;refine I.write (x:=a) (e:=dx) (by rw [e];exact True.intro) (.inr ho) (fun b q hb z=>(sb.2 b hb).trans z) hd ?_;refine ⟨by rw [ae O.ne];exact ho,?_,O.ne,O'.obj,_,O'.ns,fun g=>?_,fun g hg=>?_⟩
 ·have:=md f y fs;omega
 ·show RelO ((dB f y fs).lookup g) (if g=f then some u else mA g)
  rw [l8];by_cases q:g=f
  ·rw [yI q,yI q];exact ry
  ·rw [yH q,yH q];exact r g
 ·by_cases q:g=f
  ·rw [q];exact (kZ f y fs).1
  ·refine (kZ f y fs).2 g (wi g fun z=>hg ?_)
   show (if g=f then some u else mA g)=none;rw [yH q];exact z
theorem Inv.made (I:Inv X Np σ H s):Inv X Np σ (af (af H s.heap.objs.size (.own (s.heap.objs.size + 1))) (s.heap.objs.size + 1) (.ins C s.heap.objs.size []))
  { s with heap:=(s.heap.push emptyDict).push (instObj C s.heap.objs.size) }:=by
 have e1:(s.heap.push emptyDict).get? s.heap.objs.size=some emptyDict:=zY s.heap rfl;have e2:((s.heap.push emptyDict).push (instObj C s.heap.objs.size)).get? (s.heap.objs.size + 1)=some (instObj C s.heap.objs.size):=by
  have:=zY (s.heap.push emptyDict) (o:=instObj C s.heap.objs.size) rfl
  rwa [Heap.size_push] at this
 have e3:(s.heap.push emptyDict).Ns s.heap.objs.size (fun _=>none):=⟨emptyDict,#[],_,e1,rfl,(fun e he=>absurd he (by simp)),fun _=>rfl⟩;have I1:=I.laid (a:=s.heap.objs.size) (o:=.own (s.heap.objs.size + 1)) (h':=s.heap.push emptyDict) (t':=s.toks) (fun b u q=>zG _ q) (zP _) ⟨_,e1⟩;refine I1.laid (a:=s.heap.objs.size + 1) (o:=.ins C s.heap.objs.size []) (t':=s.toks) (fun b u q=>zG _ q) (Nat.le_of_eq (Heap.size_push _ _)) ?_;have ne:s.heap.objs.size ≠ s.heap.objs.size + 1:=zU (Nat.lt_succ_self _);refine ⟨by rw [ae ne,aw],Nat.zero_le _,ne,e2,fun _=>none,(Heap.Ns1.of_empty e3).at fun o q=>zG _ q,fun _=>True.intro,fun y hy=>absurd rfl hy⟩
theorem Dl {prog:Program}{w:World}{env:Env}{e:Expr}{f:Str}{pos:Pos}{s:Shared}{Q:Value->Shared->Prop} (hb:attributeBase e f env (eval e env)=eval e env)
  (h:wpAny (model prog w) A (eval e env) (fun o s₁=>wpAny (model prog w) A (getAttr o f true) Q E s₁) E s):wpAny (model prog w) A (eval (.Attribute e f pos) env) Q E s :=
 Attribute_any_ h (by rw [arm_eval_Attribute,hb])
end
def Kk (K:Frag) (ta:TE) (f:Str):TE:=fun σ H Q=>ta σ H fun x H1=>∃ a C dx fs v,x=.ref a/\H1 a=some (.ins C dx fs)/\Cls K C/\NoAttr K C f/\fs.lookup f=some v/\Q v H1
def Ko (K:Frag) (ta tv:TE) (f:Str):TS:=fun D σ H=>tv σ H fun y H1=>ta σ H1 fun x H2=>∃ a C dx fs,x=.ref a/\H2 a=some (.ins C dx fs)/\Cls K C/\NoAttr K C f/\fs.length < 1000 /\
 D.nx σ (af H2 a (.ins C dx (dB f y fs)))
section
variable {X:Cx}{o e value:Expr}{f:Str}{pos pos' tpos:Pos}{ta tv:TE}
theorem EW (he:PE X e ta) (hb:attributeBase e f X.env (eval e X.env)=eval e X.env):PE X (.Attribute e f pos) (Kk X.K ta f):=by
 intro Np s σ H Q I h;refine Dl hb (aE (he Np s σ H _ I h) fun u s1 hq0=>?_);obtain ⟨x,H1,I1,rx,a,C,dx,fs,v,ex,ea,c,n,l,q⟩:=hq0;subst ex;obtain rfl:u=Value.ref a:=rx;exact u8 I1 ea c n l fun u' s2 I2 ru=>⟨v,H1,I2,ru,q⟩
theorem EH (ha:PE X o ta) (hv:PE X value tv) (hs:swapsWith value (some (.Attribute o f pos')) pos.line X.env=pure false):PS X (.Assign [.Attribute o f pos'] value pos) (Ko X.K ta tv f):=by
 intro Np s σ H D I h;refine plainObj_wpAny_Assign_Attribute (aE (hv Np s σ H _ I h) fun u s1 ⟨y,H1,I1,ry,q⟩=>aE (ha Np s1 σ H1 _ I1 q) fun ov s2 hq0=>?_) hs;obtain ⟨x,H2,I2,rx,a,C,dx,fs,ex,ea,c,n,l,q2⟩:=hq0;subst ex;obtain rfl:ov=Value.ref a:=rx;exact ul I2 ea c n l ry fun s3 I3=>⟨σ,_,I3,q2⟩
theorem GO {pl:Sem Bool}{m:Str}{apos:Pos}{args:List Expr}{Np:List (Addr × Obj)}{s:Shared}{σ:St}{H:Hp}{Q:Value->Shared->Prop}{te:TE} (he:PE X e te) (I:Inv X Np σ H s)
  (h:te σ H fun x H1=>∃ a C dx fs g,x=.ref a/\H1 a=some (.ins C dx fs)/\Cls X.K C/\jR X.K C m g/\fs.lookup m=none /\
   ∀ s1,Inv X Np σ H1 s1->wpAny (model X.prog X.w) X.A (callWith pos (.ref g) [.ref a] (backTo pos (starEach args X.env)) (backToKw pos (keywordEach [] X.env))) Q X.xe s1)
  (ht:eval (.Call (.Attribute e m apos) args [] pos) X.env=(do
   let ov <- eval e X.env
   standAt apos.atName
   let (f,first) <- holding [ov] (getMethod ov m pl)
   callWith pos f first (backTo pos (starEach args X.env)) (backToKw pos (keywordEach [] X.env)))) :
  wpAny (model X.prog X.w) X.A (eval (.Call (.Attribute e m apos) args [] pos) X.env) Q X.xe s:=by
 refine methodCall_KW (pl:=pl) (aE (he Np s σ H _ I h) fun u s1 hq0=>?_) ht;obtain ⟨x,H1,I1,rx,a,C,dx,fs,g,ex,ea,c,k,l,q⟩:=hq0;subst ex;obtain rfl:u=Value.ref a:=rx;exact jL I1 ea c k l (q s1 I1)
end
structure Room (k:Nat) (A:Around):Prop where
 hd:A.handled=none
 dp:A.depth + 3 * k + 5 < recursionLimit
 un:A.units + 16 * k + 200 < cLine
 gd:A.guards=some []
theorem Room.mono {j k:Nat}{A:Around} (r:Room k A) (h:j <= k):Room j A:=⟨r.hd,by have:=r.dp;omega,by have:=r.un;omega,r.gd⟩
theorem Room.deeper {k:Nat}{A:Around} (r:Room (k + 1) A) (env:Env):Room k (A.deeper env) :=
 ⟨r.hd,by have:=r.dp;show A.depth + 1 + 3 * k + 5 < _;omega,by have:=r.un;show A.units + 3 + 16 * k + 200 < _;omega,r.gd⟩
theorem Room.in1 {k:Nat}{A:Around} (r:Room (k + 1) A):Room k A.in1 :=
 ⟨r.hd,by have:=r.dp;show A.depth + 3 * k + 5 < _;omega,by have:=r.un;show A.units + 1 + 16 * k + 200 < _;omega,r.gd⟩
theorem uM {A:Around}{C:Addr}{us:List Value}{kw:List (Str × Value)}:(A.under (.builtin "type.__call__" ⟨.ref C::us,kw⟩)).depth=A.depth + 1:=by
 first | rfl | simp [Around.under,Code.weight,Code.isCreation,Code.isGuard,Code.isCaller,Code.frames,Code.isFrame,guardIds]
theorem uL {A:Around}{C:Addr}{us:List Value}{kw:List (Str × Value)}:(A.under (.builtin "type.__call__" ⟨.ref C::us,kw⟩)).units=A.units + 1:=by
 first | rfl | simp [Around.under,Code.cUnits,Code.frames,Code.isFrame]
theorem sy {A:Around}{C:Addr}{us:List Value}{kw:List (Str × Value)}:(A.under (.builtin "type.__call__" ⟨.ref C::us,kw⟩)).guards=A.guards:=by
 first | rfl | simp [Around.under,Code.guards,Code.isGuard,guardIds,pushGuards]
theorem Room.make {k:Nat}{A:Around} (r:Room (k + 1) A) (C:Addr) (us:List Value) (kw:List (Str × Value)):Room k (A.under (.builtin "type.__call__" ⟨.ref C::us,kw⟩)) :=
 ⟨r.hd,by have:=r.dp;rw [uM];omega,by have:=r.un;rw [uL];omega,by rw [sy];exact r.gd⟩
theorem Room.depth {k:Nat}{A:Around} (r:Room k A):A.depth < recursionLimit:=by have:=r.dp;omega
theorem Room.units {k:Nat}{A:Around} (r:Room k A):A.units + 64 < cLine:=by have:=r.un;omega
noncomputable def uf:TA:=fun _ H Q=>Q [] H
noncomputable def AE (ta:TE) (tr:TA):TA:=fun σ H Q=>ta σ H fun x H1=>tr σ H1 fun xs H2=>Q (x::xs) H2
section
variable {X:Cx}{e:Expr}{es:List Expr}{te:TE}{t:TA}{pos:Pos}
theorem wc:PA X [] uf:=fun _ _ _ _ H Q I h=>Calls.spliced_nil ⟨[],H,I,.nil,h⟩
theorem sL (ha:PE X e te) (hr:PA X es t) (hs:starEach (e::es) X.env=(false,eval e X.env)::starEach es X.env:=by rfl):PA X (e::es) (AE te t):=by
 intro pos Np s σ H Q I h;rw [hs];show wpAny _ _ (spliced ((false,eval e X.env)::backTo pos (starEach es X.env))) _ _ s;refine Calls.spliced_cons (aE (ha Np s σ H _ I h) fun u s1 hq0=>?_);obtain ⟨x,H1,I1,r1,q1⟩:=hq0;exact aE (hr pos Np s1 σ H1 _ I1 q1) fun us s2 ⟨xs,H2,I2,r2,q2⟩=>⟨x::xs,H2,I2,.cons r1 r2,q2⟩
def Kb (t:TA):TE:=fun σ H Q=>t σ H fun xs H1=>xs.length <= sizeLine/\∀ p,H1 p=none->Q (.ref p) (af H1 p (.tup xs))
def Kh (t:TA):TE:=fun σ H Q=>t σ H fun xs H1=>xs.length <= sizeLine/\∀ p,H1 p=none->Q (.ref p) (af H1 p (.lst xs))
theorem ER {x1} (h:PA X es t):PE X (.Tuple es x1 pos) (Kb t):=by
 intro Np s σ H Q I hq;refine wpAny_Tuple_spliced (aE (h pos Np s σ H _ I hq) fun us s1 ⟨xs,H1,I1,r,z,q⟩=>⟨by rw [<- r.length];exact z,?_⟩);have hf:H1 s1.heap.objs.size=none:=I1.Ny.fresh (zP _);refine ⟨.ref s1.heap.objs.size,af H1 s1.heap.objs.size (.tup xs),I1.laid (t':=s1.toks) (fun b u e=>zG _ e) (zP _) ?_,rfl,q _ hf⟩;exact ⟨z,us,r,⟨_,zY _ rfl,rfl,_,rfl⟩⟩
theorem v8 (h:PA X es t):PE X (.List es pos) (Kh t):=by
 intro Np s σ H Q I hq;refine wpAny_List_spliced (aE (h pos Np s σ H _ I hq) fun us s1 ⟨xs,H1,I1,r,z,q⟩=>⟨by rw [<- r.length];exact z,?_⟩);have hf:H1 s1.heap.objs.size=none:=I1.Ny.fresh (zP _);refine ⟨.ref s1.heap.objs.size,af H1 s1.heap.objs.size (.lst xs),I1.laid (t':=s1.toks) (fun b u e=>zG _ e) (zP _) ?_,rfl,q _ hf⟩;exact ⟨z,us,0,r,zY _ rfl⟩
end
abbrev Sp:=List V->Hp->VK->XK->Prop
abbrev lH:=List Env->Hp->Shared->XK->Value->Shared->Prop
structure Env0 (P:Program) (w:World) (K:Frag) (mg:Str->Option Value) (base:Heap) (A:Around) (outer:List Env) (s:Shared) (H:Hp):Prop where
 frames:A.frames=some outer
 mod:Mod K mg base
 bs:∀ b o,base.get? b=some o->s.heap.get? b=some o/\H b=none
 bsz:base.objs.size <= s.heap.objs.size
 funs:s.heap.FunFrames base outer
 frf:∀ b ∈ jp outer,H b=none
 Ny:HOk P w H s.heap
 bare:AllBare s.gens
def CE (outer:List Env) (P:Program) (w:World) (H:Hp) (s:Shared) (Q:VK) (u:Value) (s':Shared):Prop :=
 ∃ v H',s'.os=s.os/\AllBare s'.gens/\Un (jp outer) [] H H' s.heap s'.heap/\HOk P w H' s'.heap/\RelV v u/\Q v H'
def CR (CX:lH) (outer:List Env) (P:Program) (w:World) (H:Hp) (s:Shared) (Q:VK) (E:XK) (r:Result) (s':Shared):Prop :=
 match r with
 | .ok (.ret u)=>CE outer P w H s Q u s'
 | .ok _=>False
 | .error e=>CX outer H s E e s'
structure FnOk (P:Program) (w:World) (K:Frag) (mg:Str->Option Value) (base:Heap) (CX:lH) (k:Nat) (f:Addr) (fd:FuncData) (ps:List Str) (sp:Sp):Prop where
 len:∀ vs H Q E,sp vs H Q E->vs.length=ps.length
 run:∀ (A:Around) (outer:List Env) (s:Shared) (H:Hp) (args:Args) (us:List Value) (vs:List V) (Q:VK) (E:XK),Room k A->Env0 P w K mg base A outer s H->BindsTo s fd args (ps.zip us)->Vals vs us->sp vs H Q E ->
  codeAny (model P w) A (.call (.ref f) args) (CR CX outer P w H s Q E) s
theorem FnOk.mono {P:Program}{w:World}{K:Frag}{mg:Str->Option Value}{base:Heap}{CX:lH}{j k:Nat}{f:Addr}{fd:FuncData}{ps:List Str}{sp:Sp} (F:FnOk P w K mg base CX j f fd ps sp) (h:j <= k) :
  FnOk P w K mg base CX k f fd ps sp:=⟨F.len,fun A outer s H args us vs Q E hr=>F.run A outer s H args us vs Q E (hr.mono h)⟩
theorem FnOk.imp {P:Program}{w:World}{K:Frag}{mg:Str->Option Value}{base:Heap}{CX:lH}{k:Nat}{f:Addr}{fd:FuncData}{ps:List Str}{sp sp':Sp} (F:FnOk P w K mg base CX k f fd ps sp)
  (h:∀ vs H Q E,sp' vs H Q E->sp vs H Q E):FnOk P w K mg base CX k f fd ps sp' :=
 ⟨fun vs H Q E q=>F.len vs H Q E (h _ _ _ _ q),fun A outer s H args us vs Q E hr he hb hv hs=>F.run A outer s H args us vs Q E hr he hb hv (h _ _ _ _ hs)⟩
theorem Env0.make {P:Program}{w:World}{K:Frag}{mg:Str->Option Value}{base:Heap}{A:Around}{outer:List Env}{s:Shared}{H:Hp} (e:Env0 P w K mg base A outer s H) (C:Addr) (us:List Value) (kw:List (Str × Value)) :
  Env0 P w K mg base (A.under (.builtin "type.__call__" ⟨.ref C::us,kw⟩)) outer s H:=⟨by first | exact e.frames | (simpa [Around.under,Code.envs,Code.isFrame,pushEnvs] using e.frames),e.mod,e.bs,e.bsz,e.funs,e.frf,e.Ny,e.bare⟩
section
variable {X:Cx}{Np:List (Addr × Obj)}{σ:St}{H:Hp}{s s':Shared}
theorem Inv.env0 (I:Inv X Np σ H s):Env0 X.prog X.w X.K X.mg X.base X.A X.stack s H :=
 ⟨I.ok.frames,I.ok.mod,I.bs,z5 I.ok.bsz I.sz,I.stack,I.stkFree,I.Ny,I.bare⟩
theorem Inv.after {Q:VK}{u:Value} (I:Inv X Np σ H s) (h:CE X.stack X.prog X.w H s Q u s'):EP X Np σ Q u s':=by
 obtain ⟨v,H',os,bare,un,Ny,r,q⟩:=h;obtain ⟨hh,g,d,t,os'⟩:=s';obtain rfl:os'=s.os:=os;exact ⟨v,H',I.call (h':=hh) (g':=g) (d':=d) (t':=t) (ch:=[]) un Ny bare (fun b z=>absurd z (by simp)),r,q⟩
end
noncomputable def uh (sp:Sp) (dvs:List V) (E:XK) (t:TA):TE:=fun σ H Q=>t σ H fun vs H1=>sp (vs++dvs) H1 Q E
def ug (C:Addr) (m:Str) (sp:Sp) (dvs:List V) (E:XK) (ta:TE) (t:TA):TE:=fun σ H Q=>ta σ H fun x H1=>∃ a dx fs,x=.ref a/\H1 a=some (.ins C dx fs)/\fs.lookup m=none /\
 t σ H1 fun vs H2=>sp (x::(vs++dvs)) H2 Q E
def AD (C:Addr) (sp:Sp) (dvs:List V) (E:XK) (t:TA):TE:=fun σ H Q=>t σ H fun vs H1=>∀ x dx,H1 x=none->H1 dx=none->dx ≠ x ->
 sp (.ref x::(vs++dvs)) (af (af H1 dx (.own x)) x (.ins C dx [])) (fun v H2=>v=.non/\Q (.ref x) H2) E
def Binds (K:Frag) (fd:FuncData) (ps:List Str) (ds:List Value):Prop :=
 ∀ (s:Shared) (us:List Value),K.In s.heap->(us++ds).length=ps.length->BindsTo s fd ⟨us,[]⟩ (ps.zip (us++ds))
theorem Binds.all {K:Frag}{fd:FuncData}{ps:List Str} (h:∀ us:List Value,us.length=ps.length->bindArgs fd ⟨us,[]⟩=pure (ps.zip us)):Binds K fd ps []:=fun s us _ hl=>by
 rw [List.append_nil] at hl ⊢;exact .of_eq (h us hl)
def gA (CX:lH) (X:Cx) (E:XK):Prop:=∀ (Np:List (Addr × Obj)) (σ:St) (H:Hp) (s:Shared) (e:Value) (s':Shared),Inv X Np σ H s->CX X.stack H s E e s'->X.xe e s'
section
variable {X:Cx}{CX:lH}{k:Nat}{f C:Addr}{fd:FuncData}{ps:List Str}{sp:Sp}{dvs:List V}{ds:List Value}{E:XK}{x m:Str}{p pos apos:Pos}{e o:Expr}{es:List Expr}{ta:TE}{t:TA}
theorem nk {Np:List (Addr × Obj)}{σ:St}{H:Hp}{s:Shared}{Q:VK}{us:List Value}{vs:List V} (F:FnOk X.prog X.w X.K X.mg X.base CX k f fd ps sp) (hr:Room k X.A) (hb:Binds X.K fd ps ds) (hd:Vals dvs ds) (hx:gA CX X E)
  (I:Inv X Np σ H s) (r:Vals vs us) (h:sp (vs++dvs) H Q E):wpAny (model X.prog X.w) X.A (call (.ref f) us) (EP X Np σ Q) X.xe s:=by
 have r2:Vals (vs++dvs) (us++ds):=r.append hd;have hl:(us++ds).length=ps.length:=by rw [<- r2.length];exact F.len _ _ _ _ h
 refine wpAny_call (codeAny_mono (F.run X.A X.stack s H ⟨us,[]⟩ (us++ds) (vs++dvs) Q E hr I.env0 (hb s us I.kIn hl) r2 h) fun r s' hq=>?_);cases r with
 | error e=>exact hx Np σ H s e s' I hq
 | ok fl =>
  cases fl with
  | ret u=>exact I.after hq
  | next=>exact False.elim hq
  | brk=>exact False.elim hq
  | cont=>exact False.elim hq
theorem CF (F:FnOk X.prog X.w X.K X.mg X.base CX k f fd ps sp) (hr:Room k X.A) (hg:Gl X x) (hm:X.mg x=some (.ref f)) (hk:keepIn X.K (.ref f)=true) (hb:Binds X.K fd ps ds) (hd:Vals dvs ds) (hx:gA CX X E)
  (ha:PA X (e::es) t) (hdb:(x == ("__debug__":Str))=false:=by decide) (he:starEach (e::es) X.env=(false,eval e X.env)::starEach es X.env:=by rfl) (hpl:(backTo pos (starEach es X.env)).any (·.1)=false:=by rfl) :
  PE X (.Call (.Name x p) (e::es) [] pos) (uh sp dvs E t):=by
 intro Np s σ H Q I h;refine wpAny_Call_Name_kw (lP I hg hm ?_ hdb);refine callWith_K (h₀:=X.base) I.ok.mod.kin hk (aE (ha pos Np s σ H _ I h) fun us s1 ⟨vs,H1,I1,r,q⟩=>⟨I1.kIn,?_⟩) he hpl;exact nk F hr hb hd hx I1 r q
theorem yo (F:FnOk X.prog X.w X.K X.mg X.base CX k f fd ps sp) (hr:Room k X.A) (hg:Gl X x) (hm:X.mg x=some (.ref f)) (hk:keepIn X.K (.ref f)=true) (hb:Binds X.K fd ps ds) (hd:Vals dvs ds) (hx:gA CX X E)
  (hdb:(x == ("__debug__":Str))=false:=by decide):PE X (.Call (.Name x p) [] [] pos) (uh sp dvs E uf):=by
 intro Np s σ H Q I h;refine wpAny_Call_Name_kw (lP I hg hm ?_ hdb);exact PySem.W.callWith_K0 I.kIn hk (nk (us:=[]) F hr hb hd hx I .nil h)
theorem CA {pl:Sem Bool} (he:PE X o ta) (c:Cls X.K C) (hm:jR X.K C m f) (F:FnOk X.prog X.w X.K X.mg X.base CX k f fd ps sp) (hr:Room k X.A) (hb:Binds X.K fd ps ds) (hd:Vals dvs ds) (hx:gA CX X E) (ha:PA X (e::es) t)
  (hst:starEach (e::es) X.env=(false,eval e X.env)::starEach es X.env:=by rfl) (hpl:(backTo pos (starEach es X.env)).any (·.1)=false:=by rfl)
  (ht:eval (.Call (.Attribute o m apos) (e::es) [] pos) X.env=(do
   let ov <- eval o X.env
   standAt apos.atName
   let (f,first) <- holding [ov] (getMethod ov m pl)
   callWith pos f first (backTo pos (starEach (e::es) X.env)) (backToKw pos (keywordEach [] X.env))):=by rfl) :
  PE X (.Call (.Attribute o m apos) (e::es) [] pos) (ug C m sp dvs E ta t):=by
 intro Np s σ H Q I h;refine methodCall_KW (pl:=pl) (aE (he Np s σ H _ I h) fun u s1 hq0=>?_) ht;obtain ⟨x,H1,I1,rx,a,dx,fs,ex,ea,l,q⟩:=hq0;subst ex;obtain rfl:u=Value.ref a:=rx;refine jL I1 ea c hm l ?_;refine callWith_K (first:=[.ref a]) (h₀:=X.base) I.ok.mod.kin hm.kp (aE (ha pos Np s1 σ H1 _ I1 q) fun us s2 ⟨vs,H2,I2,r,q2⟩=>⟨I2.kIn,?_⟩) hst hpl;exact nk (us:=.ref a::us) (vs:=.ref a::vs) F hr hb hd hx I2 (.cons rfl r) q2
theorem yh {pl:Sem Bool} (he:PE X o ta) (c:Cls X.K C) (hm:jR X.K C m f) (F:FnOk X.prog X.w X.K X.mg X.base CX k f fd ps sp) (hr:Room k X.A) (hb:Binds X.K fd ps ds) (hd:Vals dvs ds) (hx:gA CX X E)
  (ht:eval (.Call (.Attribute o m apos) [] [] pos) X.env=(do
   let ov <- eval o X.env
   standAt apos.atName
   let (f,first) <- holding [ov] (getMethod ov m pl)
   callWith pos f first (backTo pos (starEach [] X.env)) (backToKw pos (keywordEach [] X.env))):=by rfl) :
  PE X (.Call (.Attribute o m apos) [] [] pos) (ug C m sp dvs E ta uf):=by
 intro Np s σ H Q I h;refine methodCall_KW (pl:=pl) (aE (he Np s σ H _ I h) fun u s1 hq0=>?_) ht;obtain ⟨x,H1,I1,rx,a,dx,fs,ex,ea,l,q⟩:=hq0;subst ex;obtain rfl:u=Value.ref a:=rx;refine jL I1 ea c hm l ?_;exact PySem.W.callWith_K0 (first:=[.ref a]) I1.kIn hm.kp (nk (us:=[.ref a]) (vs:=[.ref a]) F hr hb hd hx I1 (.cons rfl .nil) q)
structure Mk (K:Frag) (C f:Addr):Prop where
 makes:makesIn K C=true
 init:findIn K (.ref C) "__init__"=some (some (.ref f))
 fn:isFn K (.ref f)=true
 kp:keepIn K (.ref C)=true
theorem xP {Np:List (Addr × Obj)}{σ:St}{H:Hp}{s:Shared}{Q:VK}{us:List Value}{vs:List V} (M:Mk X.K C f) (F:FnOk X.prog X.w X.K X.mg X.base CX k f fd ps sp) (hr:Room (k + 1) X.A) (hb:Binds X.K fd ps ds) (hd:Vals dvs ds)
  (hx:gA CX X E) (I:Inv X Np σ H s) (r:Vals vs us)
  (h:∀ x dx,H x=none->H dx=none->dx ≠ x->sp (.ref x::(vs++dvs)) (af (af H dx (.own x)) x (.ins C dx [])) (fun v H2=>v=.non/\Q (.ref x) H2) E) :
  wpAny (model X.prog X.w) X.A (call (.ref C) us) (EP X Np σ Q) X.xe s:=by
 have hq:=h (s.heap.objs.size + 1) s.heap.objs.size (I.Ny.fresh (Nat.le_succ _)) (I.Ny.fresh (zP _)) (zU (Nat.lt_succ_self _));have I2:=Inv.made (C:=C) I;have r2:Vals (V.ref (s.heap.objs.size + 1)::(vs++dvs)) (Value.ref (s.heap.objs.size + 1)::(us++ds)):=.cons rfl (r.append hd);have hl:(Value.ref (s.heap.objs.size + 1)::us++ds).length=ps.length:=by
  have e:=r2.length;rw [F.len _ _ _ _ hq] at e;exact e.symm
 refine wpAny_call (zf (f:=f) I.kIn M.makes M.init (beq_iff_eq.mp M.fn) (codeAny_mono (F.run _ X.stack _ _ ⟨Value.ref (s.heap.objs.size + 1)::us,[]⟩ (Value.ref (s.heap.objs.size + 1)::(us++ds)) _ _ E (hr.make C us [])
  (I2.env0.make C us []) (hb _ (Value.ref (s.heap.objs.size + 1)::us) I2.kIn hl) r2 hq) fun r s' hq'=>?_))
 cases r with
 | error e=>exact hx Np σ _ _ e s' I2 hq'
 | ok fl =>
  cases fl with
  | ret u =>
   obtain ⟨v,H',I3,rv,ev,q3⟩:=I2.after hq';subst ev;exact ⟨rv,⟨V.ref (s.heap.objs.size + 1),H',I3,rfl,q3⟩⟩
  | next=>exact False.elim hq'
  | brk=>exact False.elim hq'
  | cont=>exact False.elim hq'
theorem CB (M:Mk X.K C f) (F:FnOk X.prog X.w X.K X.mg X.base CX k f fd ps sp) (hr:Room (k + 1) X.A) (hg:Gl X x) (hm:X.mg x=some (.ref C)) (hb:Binds X.K fd ps ds) (hd:Vals dvs ds) (hx:gA CX X E)
  (ha:PA X (e::es) t) (hdb:(x == ("__debug__":Str))=false:=by decide) (he:starEach (e::es) X.env=(false,eval e X.env)::starEach es X.env:=by rfl) (hpl:(backTo pos (starEach es X.env)).any (·.1)=false:=by rfl) :
  PE X (.Call (.Name x p) (e::es) [] pos) (AD C sp dvs E t):=by
 intro Np s σ H Q I h;refine wpAny_Call_Name_kw (lP I hg hm ?_ hdb);refine callWith_K (h₀:=X.base) I.ok.mod.kin M.kp (aE (ha pos Np s σ H _ I h) fun us s1 ⟨vs,H1,I1,r,q⟩=>⟨I1.kIn,?_⟩) he hpl;exact xP M F hr hb hd hx I1 r q
end
structure lZ (N P:List Str) (sc:Scope):Prop where
 kind:sc.kind=.function
 co:sc.isCoroutine=false
 gen:sc.isGenerator=false
 nd:N.Nodup
 pre:N.take P.length=P
 par:∀ x ∈ P,sc.names.lookup x=some .local\/sc.names.lookup x=some .cell
 nofree:∀ y ∈ sc.names,y.2 ≠ .free
theorem pG {kindOf:Str->Option NameKind}{x:Str}:∀ {binds:List (Str × Value)}{m:Str->Option Value},(∀ v,(x,v) ∉ binds)->bindL kindOf binds m x=m x
 | [],_,_=>rfl
 | (n,v)::r,m,h=>by
  unfold bindL;rw [pG fun w hw=>h w (zQ _ hw)];split
  ·have:x ≠ n:=by rintro rfl;exact h v z7
   simp [this]
  ·rfl
theorem pJ {kindOf:Str->Option NameKind}{x:Str}:∀ {binds:List (Str × Value)}{m:Str->Option Value},(∀ v,(x,v) ∉ binds)->bindC kindOf binds m x=m x
 | [],_,_=>rfl
 | (n,v)::r,m,h=>by
  unfold bindC;rw [pJ fun w hw=>h w (zQ _ hw)];split
  ·rfl
  ·have:x ≠ n:=by rintro rfl;exact h v z7
   simp [this]
theorem pH {kindOf:Str->Option NameKind}{x:Str}{v:Value}:∀ {P:List Str}{vs:List Value}{i:Nat}{m:Str->Option Value},P.Nodup->P[i]?=some x->vs[i]?=some v->kindOf x=some .local ->
  bindL kindOf (P.zip vs) m x=some v
 | [],_,_,_,_,h,_,_=>by simp at h
 | _::_,[],_,_,_,_,h,_=>by simp at h
 | p::P,w::vs,0,m,nd,h1,h2,hk=>by
  simp at h1 h2;subst h1;subst h2;show bindL kindOf ((p,w)::P.zip vs) m p=_;unfold bindL;rw [pG fun v hv=>(List.nodup_cons.mp nd).1 (List.of_mem_zip hv).1,yI hk];simp
 | p::P,w::vs,i + 1,m,nd,h1,h2,hk=>by
  show bindL kindOf ((p,w)::P.zip vs) m x=_;unfold bindL;exact pH (i:=i) (List.nodup_cons.mp nd).2 (by simpa using h1) (by simpa using h2) hk
theorem pK {kindOf:Str->Option NameKind}{x:Str}{v:Value}:∀ {P:List Str}{vs:List Value}{i:Nat}{m:Str->Option Value},P.Nodup->P[i]?=some x->vs[i]?=some v->kindOf x ≠ some .local ->
  bindC kindOf (P.zip vs) m x=some v
 | [],_,_,_,_,h,_,_=>by simp at h
 | _::_,[],_,_,_,_,h,_=>by simp at h
 | p::P,w::vs,0,m,nd,h1,h2,hk=>by
  simp at h1 h2;subst h1;subst h2;show bindC kindOf ((p,w)::P.zip vs) m p=_;unfold bindC;rw [pJ fun v hv=>(List.nodup_cons.mp nd).1 (List.of_mem_zip hv).1,yH hk];simp
 | p::P,w::vs,i + 1,m,nd,h1,h2,hk=>by
  show bindC kindOf ((p,w)::P.zip vs) m x=_;unfold bindC;exact pK (i:=i) (List.nodup_cons.mp nd).2 (by simpa using h1) (by simpa using h2) hk
def start (N:List Str) (vs:List V):St:=vs.map some++List.replicate (N.length - vs.length) none
def oZ (CX:lH) (P:Program) (w:World) (K:Frag) (mg:Str->Option Value) (base:Heap) (N:List Str) (qual:Str) (scope:Scope) (f:Addr) (cd:Value) (A:Around) (outer:List Env) (s:Shared) (H:Hp) (E:XK):Cx where
 prog:=P
 w:=w
 K:=K
 mg:=mg
 base:=base
 A:=A.deeper (envOfC qual scope s.heap.objs.size f cd)
 N:=N
 s₀:=s
 H₀:=H
 env:=envOfC qual scope s.heap.objs.size f cd
 outer:=outer
 stack:=envOfC qual scope s.heap.objs.size f cd::outer
 ex:=[]
 calm:=true
 fn:=fun _=>true
 pn:=[]
 xe:=fun e s'=>wpAny (model P w) (A.deeper (envOfC qual scope s.heap.objs.size f cd)) (leaving (envOfC qual scope s.heap.objs.size f cd) e) (fun _ s''=>CX outer H s E e s'') (fun e' s''=>CX outer H s E e' s'') s'
theorem rH {sc:Scope}{n:Nat}{x:Str} (h:sc.names.lookup x=some .cell):∃ c,(cellsFrom n sc.names []).lookup x=some c:=by
 have q:=cellsFrom_some sc.names n [] (.inl h);exact Option.isSome_iff_exists.mp q
theorem wK {CX:lH}{P:Program}{w:World}{K:Frag}{mg:Str->Option Value}{base:Heap}{N ps:List Str}{qual:Str}{scope:Scope}{f:Addr}{cd:Value}{A:Around}{outer:List Env}{s s1:Shared}{H:Hp}{E:XK}{us:List Value}{vs:List V}
  (S:lZ N ps scope) (hd:A.handled=none) (e0:Env0 P w K mg base A outer s H) (hl:vs.length=ps.length) (r:Vals vs us)
  (x:InCallC s s.heap.objs.size (bindL (envOfC qual scope s.heap.objs.size f cd).kindOf (ps.zip us) fun _=>none) (cellsFrom (s.heap.objs.size + 1) scope.names []) (bindC (envOfC qual scope s.heap.objs.size f cd).kindOf (ps.zip us) fun _=>none) s1) :
  Inv (oZ CX P w K mg base N qual scope f cd A outer s H E) [] (start N vs) H s1:=by
 have hpl:ps.length <= N.length:=by have:=congrArg List.length S.pre;rw [List.length_take] at this;omega
 obtain ⟨h1,tk,rfl,hk⟩:=x.done;have noA:∀ b:Addr,b ∉ (oZ CX P w K mg base N qual scope f cd A outer s H E).ex:=fun b z=>absurd (show b ∈ ([]:List Addr) from z) (by simp)
 refine ⟨⟨e0.mod,S.kind,rfl,rfl,zP _,fun y z c h1 h2=>?_,fun y hy=>?_,fun y c _ h=>?_,fun _=>hd,Around.frames_deeper e0.frames,.inr ⟨rfl,rfl⟩,fun b z=>absurd z (noA b),e0.bs,e0.bsz,fun b _ _=>noA b,fun b z=>absurd z (noA b),e0.funs,e0.frf⟩,
  rfl,e0.bare,Un.kept hk,⟨_,x.toInCall.ns,fun i y v h1 h2 h3=>?_⟩,fun y c h=>⟨_,x.cell y c h⟩,e0.Ny.fresh (zP _),fun y c h=>?_,fun p hp=>absurd (show p ∈ ([]:List (Addr × Obj)) from hp) (by simp),e0.Ny.kept hk,?_⟩
 ·exact name_of_addr x.apart (PySem.mem_of_lookup h1) (PySem.mem_of_lookup h2)
 ·have hy:scope.names.lookup y=some .cell\/scope.names.lookup y=some .free:=hy
  rcases hy with hy | hy
  ·exact rH hy
  ·exact absurd rfl (S.nofree _ (PySem.mem_of_lookup hy))
 ·exact yW (x.above y c (PySem.mem_of_lookup h))
 ·have hi:i < vs.length:=by
   unfold start at h2;by_cases hi:i < vs.length
   ·exact hi
   ·rw [z6 (by simpa using hi)] at h2
    rw [List.getElem?_replicate] at h2;split at h2 <;> cases h2
  have ha:vs[i]?=some v:=by
   unfold start at h2;rw [zN (by simpa using hi),zR] at h2;cases e:vs[i]? with
   | none=>rw [e] at h2;cases h2
   | some a=>rw [e] at h2;cases h2;rfl
  obtain ⟨u,hu,rv⟩:=r.get ha;have hp:ps[i]?=some y:=by
   rw [<- S.pre,List.getElem?_take_of_lt oM];exact h1
  have ndP:ps.Nodup:=by rw [<- S.pre];exact S.nd.sublist (List.take_sublist _ _)
  refine ⟨u,rv,?_⟩;rcases S.par y (zW hp) with k | k
  ·exact .inl ⟨k,pH ndP hp hu k⟩
  ·obtain ⟨c,e⟩:=rH (n:=s.heap.objs.size + 1) k
   refine .inr ⟨.inl k,c,e,?_⟩;have q:=x.cell y c e;rw [pK ndP hp hu (by show scope.names.lookup y ≠ _;rw [k];decide)] at q;exact q
 ·exact e0.Ny.fresh (yW (x.above y c (PySem.mem_of_lookup h)))
 ·unfold start
  show _=N.length;rw [zV,zH,List.length_replicate];omega
theorem Im {CX:lH}{P:Program}{w:World}{K:Frag}{mg:Str->Option Value}{base:Heap}{k:Nat}{f:Addr}{name qual:Str}{params:Arguments}{body:List Stmt}{scope:Scope}{dV kV doc pm cdv ct oc:Value}{an od:Option Addr}
  {osl:Array (Option Value)}{N ps:List Str}{sp:Sp} (lk:K.lookup f=some ⟨oc,od,.func (fnOf name qual params body scope dV kV doc pm an cdv ct),osl⟩) (hcd:codeIn K cdv qual=true) (S:lZ N ps scope)
  (len:∀ vs H Q E,sp vs H Q E->vs.length=ps.length)
  (hbody:∀ (A:Around) (outer:List Env) (s:Shared) (H:Hp) (vs:List V) (Q:VK) (E:XK),Room k (A.deeper (envOfC qual scope s.heap.objs.size f cdv))->sp vs H Q E ->
   ∃ t,PSs (oZ CX P w K mg base N qual scope f cdv A outer s H E) body t/\t { nx:=fun _ H'=>Q .non H',rt:=Q } (start N vs) H) :
  FnOk P w K mg base CX (k + 1) f (fnOf name qual params body scope dV kV doc pm an cdv ct) ps sp:=by
 refine ⟨len,fun A outer s H args us vs Q E hr e0 hb r hsp=>?_⟩;have hl:=len _ _ _ _ hsp;have KX:K.In s.heap:=e0.mod.kin.keeps fun b o e=>(e0.bs b o e).1
 have lim:s.heap.NoLimit:=e0.mod.nolimit.keeps fun b o e=>(e0.bs b o e).1
 have hkind:∀ y ∈ ps.zip us,scope.names.lookup y.1=some .local\/(scope.names.lookup y.1=some .cell/\((cellsFrom (s.heap.objs.size + 1) scope.names []).lookup y.1).isSome=true):=fun hq0 hy=>by
  obtain ⟨n,v⟩:=hq0;rcases S.par n (List.of_mem_zip hy).1 with q | q
  ·exact .inl q
  ·exact .inr ⟨q,cellsFrom_some _ _ _ (.inl q)⟩
 refine codeAny_call_function hr.depth (KX _ _ lk) rfl S.co S.gen rfl (codeRec_of KX hcd) (hb _ _ _ _ ?_);refine wpAny_newFunctionEnv_cells S.kind hkind fun env he s1 x=>?_
 subst he;refine ⟨lim.keeps x.toInCall.keep,codeAny_func ?_⟩;obtain ⟨t,ht,hq⟩:=hbody A outer s H vs Q E (hr.deeper _) hsp;have I:Inv (oZ CX P w K mg base N qual scope f cdv A outer s H E) [] (start N vs) H s1:=wK S hr.hd e0 hl r x;refine yR (ht [] s1 (start N vs) H _ I hq) (fun fl s' hs=>?_) fun e s' hs=>hs
 have aH:∀ {σ':St}{H':Hp}{v:V}{u:Value},Inv (oZ CX P w K mg base N qual scope f cdv A outer s H E) [] σ' H' s'->RelV v u->Q v H'->CE outer P w H s Q u s' :=
  fun {σ' H' v u} J rv q=>⟨v,H',J.os,J.bare,J.base,J.Ny,rv,q⟩
 cases fl with
 | ret u =>
  obtain ⟨v,σ',H',J,rv,q⟩:=hs;exact aH J rv q
 | next =>
  obtain ⟨σ',H',J,q⟩:=hs;exact aH (v:=V.non) (u:=Value.none) J rfl q
 | brk =>
  obtain ⟨_,_,_,q⟩:=hs;exact False.elim q
 | cont =>
  obtain ⟨_,_,_,q⟩:=hs;exact False.elim q
section
variable {X:Cx}{x:Str}{p pos:Pos}{e:Expr}{es:List Expr}{t:TA}{id T:String}{r:List V->Hp->VK->Prop}
def DH (r:List V->Hp->VK->Prop) (t:TA):TE:=fun σ H Q=>t σ H fun vs H1=>r vs H1 Q
theorem yn (hc:cg X (.builtin id) r) (hg:Gl X x) (hm:X.mg x=none) (hv:bootBuiltins x=some (.builtin id)) (ha:PA X (e::es) t) (hn:x ≠ "__name__":=by decide) (hdb:(x == ("__debug__":Str))=false:=by decide)
  (he:starEach (e::es) X.env=(false,eval e X.env)::starEach es X.env:=by rfl) (hpl:(backTo pos (starEach es X.env)).any (·.1)=false:=by rfl):PE X (.Call (.Name x p) (e::es) [] pos) (DH r t):=by
 intro Np s σ H Q I h;refine wpAny_Call_Name_kw (cF I hg hm hv ?_ hn hdb);exact PyProof.Rows.callWith_builtin1 (aE (ha pos Np s σ H _ I h) fun us s1 ⟨vs,H1,I1,r1,q1⟩=>hc Np s1 σ H1 vs us Q I1 r1 q1) he hpl
theorem pf (hc:cg X (.type T) r) (hg:Gl X x) (hm:X.mg x=none) (hv:bootBuiltins x=some (.type T)) (ha:PA X (e::es) t) (hn:x ≠ "__name__":=by decide) (hdb:(x == ("__debug__":Str))=false:=by decide)
  (he:starEach (e::es) X.env=(false,eval e X.env)::starEach es X.env:=by rfl) (hpl:(backTo pos (starEach es X.env)).any (·.1)=false:=by rfl):PE X (.Call (.Name x p) (e::es) [] pos) (DH r t):=by
 intro Np s σ H Q I h;refine wpAny_Call_Name_kw (cF I hg hm hv ?_ hn hdb);exact PyProof.Rows.callWith_type1 (aE (ha pos Np s σ H _ I h) fun us s1 ⟨vs,H1,I1,r1,q1⟩=>hc Np s1 σ H1 vs us Q I1 r1 q1) he hpl
end
end L2
namespace HT
open PySem PyProof.Rows
theorem rcLt_int (A:Around) (s:Shared) (a:Int) (t:Tok) (c:Int) (u:Tok) (prog:Program) (w:World) (E:Value->Shared->Prop) (Q:Value->Shared->Prop) (h:Q (.bool (decide (a < c))) s) :
  wpAny (model prog w) A (richCompare .Lt (.int a t) (.int c u)) Q E s :=
 (PyProof.Rows.lt_int h:wpAny (model prog w) A (compareOp .Lt (.int a t) (.int c u)) Q E s)
section
variable {prog:Program}{w:World}{A:Around}{E:Value->Shared->Prop}{s:Shared}
noncomputable def NC (n d:Nat):Option Int->Nat
 | none=>d
 | some v=>if v < 0 then (v + (n:Int)).toNat else min v.toNat n
theorem sIx_none (n d:Nat):NC n d none=d:=rfl
theorem sIx_nat (n d k:Nat):NC n d (some (k:Int))=min k n:=by
 show (if (k:Int) < 0 then ((k:Int) + (n:Int)).toNat else min (k:Int).toNat n)=min k n;rw [yH oM,Int.toNat_natCast]
theorem DS (n d:Nat) (hd:d <= n) (o:Option Int):NC n d o <= n:=by
 cases o with
 | none=>exact hd
 | some v =>
  show (if v < 0 then (v + (n:Int)).toNat else min v.toNat n) <= n;by_cases hv:v < 0
  ·rw [yI hv];omega
  ·rw [yH hv];exact Nat.min_le_right _ _
theorem tT (v:Int) (n d:Nat):(if v < 0 then max (v + (n:Int)) 0 else min v (n:Int))=((NC n d (some v):Nat):Int):=by
 show (if v < 0 then max (v + (n:Int)) 0 else min v (n:Int))=(((if v < 0 then (v + (n:Int)).toNat else min v.toNat n):Nat):Int);by_cases hv:v < 0
 ·simp only [yI hv];omega
 ·simp only [yH hv];omega
theorem vo (lo hi:Option Int) (n:Nat):Builtin.Slice.sliceAdjust lo hi 1 (n:Int)=(((NC n 0 lo:Nat):Int),((NC n n hi:Nat):Int)):=by
 have h1:¬ ((1:Int) < 0):=by omega
 unfold Builtin.Slice.sliceAdjust;simp only [h1,if_false];refine Prod.ext ?_ ?_
 ·cases lo with
  | none=>rfl
  | some v=>exact tT v n 0
 ·cases hi with
  | none=>rfl
  | some v=>exact tT v n n
theorem ux (i j:Nat):Builtin.Slice.slicePlaces (i:Int) (j:Int) 1=j - i:=by
 unfold Builtin.Slice.slicePlaces;have h1:(1:Int) > 0:=by omega
 simp only [h1,if_true,Int.ediv_one];split <;> omega
theorem m8 {v:Value}{o:Option Int}{Q:Option Int->Shared->Prop} (p:IsPart v o) (h:Q o s):wpAny (model prog w) A (Builtin.Slice.slicePartIndex v) Q E s:=by
 cases p with
 | none=>exact slicePart_none h
 | int i t=>exact slicePart_int h
theorem mI {sl:Addr}{vl vu:Value}{lo hi:Option Int}{n:Nat}{Q:Int × Int × Nat->Shared->Prop} (hs:s.heap.IsSliceOf sl vl vu .none) (pl:IsPart vl lo) (pu:IsPart vu hi)
  (h:Q (((NC n 0 lo:Nat):Int),1,NC n n hi - NC n 0 lo) s):wpAny (model prog w) A (Builtin.Slice.sliceApplied (.ref sl) (pure (n:Int))) Q E s:=by
 obtain ⟨os,hos,hcs,hds⟩:=id hs;unfold Builtin.Slice.sliceApplied Builtin.Slice.sliceFields;refine yF (yF (wpAny_field hos hds (x:=vl) rfl (yF (wpAny_field hos hds (x:=vu) rfl (yF (wpAny_field hos hds (x:=.none) rfl (yG ?_)))))));refine yF (slicePart_none ?_);show wpAny _ _ (if ((1:Int) == 0)=true then _ else _) _ _ s;rw [yH dC];refine yF (m8 pl (yF (m8 pu (yF (yG ?_)))));show wpAny _ _ (match Builtin.Slice.sliceAdjust lo hi 1 (n:Int) with | (lo,hi)=>pure (lo,(1:Int),Builtin.Slice.slicePlaces lo hi 1)) _ _ s;rw [vo lo hi n];show wpAny _ _ (pure (((NC n 0 lo:Nat):Int),(1:Int),Builtin.Slice.slicePlaces ((NC n 0 lo:Nat):Int) ((NC n n hi:Nat):Int) 1)) _ _ s;rw [ux];exact yG h
theorem yc (xs:Array Value) (i k:Nat):((List.range k).filterMap fun (m:Nat)=>xs[((i:Int) + (m:Int) * 1).toNat]?).toArray=((xs.toList.drop i).take k).toArray:=by
 have e:(fun (m:Nat)=>xs[((i:Int) + (m:Int) * 1).toNat]?)=fun m=>xs[i + m]?:=by
  funext m;have:((i:Int) + (m:Int) * 1).toNat=i + m:=by omega
  rw [this]
 rw [e]
 have:=pick_run xs i k
 rw [List.filterMap_map] at this;have e2:((fun x=>xs[x]?) ∘ fun x=>i + x)=fun m=>xs[i + m]?:=rfl
 rw [e2] at this;rw [this]
theorem getItem_tuple_cut {t sl:Addr}{items:Array Value}{vl vu:Value}{lo hi:Option Int}{Q:Value->Shared->Prop} (ht:IsTup s.heap t items) (hs:s.heap.IsSliceOf sl vl vu .none) (pl:IsPart vl lo) (pu:IsPart vu hi)
  (hw:¬ (NC items.size 0 lo=0/\NC items.size items.size hi=items.size))
  (h:Q (.ref s.heap.objs.size) { s with heap:=s.heap.push { cls:=.type "tuple",data:=.seq ((items.toList.drop (NC items.size 0 lo)).take (NC items.size items.size hi - NC items.size 0 lo)).toArray } })
  (hsz:items.size <= sizeLine):wpAny (model prog w) A (getItem (.ref t) (.ref sl)) Q E s:=by
 have htake:sizeOk (.seq ((items.toList.drop (NC items.size 0 lo)).take (NC items.size items.size hi - NC items.size 0 lo)).toArray):=by
  show ((items.toList.drop (NC items.size 0 lo)).take (NC items.size items.size hi - NC items.size 0 lo)).toArray.size <= sizeLine;rw [zI,List.length_take,List.length_drop,Array.length_toList];omega
 have hj:NC items.size items.size hi <= items.size:=DS _ _ (zP _) hi;obtain ⟨os,hos,hcs,hds⟩:=id hs;have hTs:s.TypeIs (.ref sl) "slice":=⟨os,hos,hcs⟩;unfold getItem
 try with_reducible refine yQ ?_
 first | refine yF (yG ?_) | skip
 refine yF (wpAny_sequenceKey ht.typeIs dC ?_);refine yF (wpAny_callSpecial?_slot (name:=Str.ofString "__getitem__") ht.typeIs PyProof.Rows.slot_tuple_getitem
  (wpAny_call_entry PyProof.Rows.slot_tuple_getitem ht.typeIs entry_tuple_getitem ?_ (args_tuple_getitem _ _)))
 show wpAny _ _ (Builtin.Tuple.tupleItemsOf (.ref t) >>= _) _ _ s;refine yF (tupleItemsOf_ ht ?_);refine yF (wpAny_typeOf hTs ?_);rw [yI dC];refine yF (mI hs pl pu ?_);have hno:¬ ((((NC items.size 0 lo:Nat):Int) == 0 && (1:Int) == 1 && (NC items.size items.size hi - NC items.size 0 lo) == items.size)=true):=by
  intro q;rw [zC,zC] at q;have q1:((NC items.size 0 lo:Nat):Int)=0:=yK q.1.1;have q2:NC items.size items.size hi - NC items.size 0 lo=items.size:=yK q.2;exact hw ⟨by omega,by omega⟩
 show wpAny _ _ (if (((NC items.size 0 lo:Nat):Int) == 0 && (1:Int) == 1 && (NC items.size items.size hi - NC items.size 0 lo) == items.size)=true then _ else _) _ _ s;rw [yH hno,yc]
 first
  | exact yF (m:=Builtin.Tuple.tupleExact _) (wpAny_newObj_type (yG ⟨_,rfl,yG h⟩) htake)
  | exact yF (m:=Builtin.Tuple.tupleExact _) (wpAny_newObj_type (yF (yG (yG ⟨_,rfl,yG h⟩))) htake)
  | exact yF (yF (m:=Builtin.Tuple.tupleExact _) (wpAny_newObj_type (yG (yG ⟨_,rfl,yG h⟩)) htake))
  | exact yF (yF (m:=Builtin.Tuple.tupleExact _) (wpAny_newObj_type (yG ⟨_,rfl,yG h⟩) htake))
end
end HT
namespace L2
open PySem PySem.Spec PyProof.Rows
abbrev TO:=St->Hp->(Option Int->Hp->Prop)->Prop
def PO (X:Cx) (e:Option Expr) (t:TO):Prop :=
 ∀ (Np:List (Addr × Obj)) (s:Shared) (σ:St) (H:Hp) (Q:Option Int->Hp->Prop),Inv X Np σ H s->t σ H Q ->
  wpAny (model X.prog X.w) X.A (evalPart e X.env) (fun u s'=>∃ o H',Inv X Np σ H' s'/\IsPart u o/\Q o H') X.xe s
noncomputable def BU:TO:=fun _ H Q=>Q none H
noncomputable def GY (t:TE):TO:=fun σ H Q=>t σ H fun x H1=>∃ i,x=.int i/\Q (some i) H1
theorem jK {ns:List Int}:∀ {us:List Value},Vals (ns.map V.int) us->IntsAre us ns:=by
 induction ns with
 | nil=>intro us r;rw [List.map_nil] at r;cases r;exact .nil
 | cons n ns ih =>
  intro us r;rw [zO] at r;cases r with
  | cons r1 r2 =>
   obtain ⟨t,e⟩:=r1;subst e;exact .cons n t (ih r2)
section
variable {X:Cx}{e:Expr}{te:TE}{lo hi:Option Expr}{tl th:TO}{pos p2:Pos}
theorem Cr:PO X none BU:=by
 intro Np s σ H Q I h;rw [evalPart_none];exact yG ⟨none,H,I,.none,h⟩
theorem Cq (h:PE X e te):PO X (some e) (GY te):=by
 intro Np s σ H Q I hw;rw [evalPart_some];refine aE (h Np s σ H _ I hw) fun u s1 hq0=>?_
 obtain ⟨x,H1,I1,r1,q1⟩:=hq0;obtain ⟨i,rfl,q⟩:=q1;obtain ⟨t,rfl⟩:=r1;exact ⟨some i,H1,I1,.int i t,q⟩
def ND (X:Cx) (r:V->Option Int->Option Int->Hp->VK->Prop):Prop :=
 ∀ (Np:List (Addr × Obj)) (s:Shared) (σ:St) (H:Hp) (x:V) (v vl vu:Value) (lo hi:Option Int) (sl:Addr) (Q:VK),Inv X Np σ H s->RelV x v->s.heap.IsSliceOf sl vl vu .none->IsPart vl lo->IsPart vu hi->r x lo hi H Q ->
  ∃ T id,typeLookup (.type T) "__getitem__"=pure (some (.builtin id))/\s.TypeIs v T/\wpAny (model X.prog X.w) X.A (getItem v (.ref sl)) (EP X Np σ Q) X.xe s
def Jj (r:V->Option Int->Option Int->Hp->VK->Prop) (te:TE) (tl th:TO):TE:=fun σ H Q=>te σ H fun x H1=>tl σ H1 fun l H2=>th σ H2 fun u H3=>r x l u H3 Q
theorem qz {r:V->Option Int->Option Int->Hp->VK->Prop} (hr:ND X r) (he:PE X e te) (hl:PO X lo tl) (hu:PO X hi th):PE X (.Subscript e (.Slice lo hi none p2) pos) (Jj r te tl th):=by
 intro Np s σ H Q I h;refine Subscript_ (aE (he Np s σ H _ I h) fun v s1 hq0=>?_);obtain ⟨x,H1,I1,r1,q1⟩:=hq0;refine wpAny_Slice (aE (hl Np s1 σ H1 _ I1 q1) fun vl s2 ⟨l,H2,I2,pl,q2⟩=>aE (hu Np s2 σ H2 _ I2 q2) fun vu s3 hq0=>?_);obtain ⟨u,H3,I3,pu,q3⟩:=hq0;rw [evalPart_none];refine yG ?_;have I4:Inv X Np σ H3 { s3 with heap:=s3.heap.push { cls:=.type "slice",data:=.fields #[vl,vu,.none] } }:=I3.kept (t':=s3.toks) fun b ob q=>zG _ q
 obtain ⟨T,id,hT,ht,hg⟩:=hr Np { s3 with heap:=s3.heap.push { cls:=.type "slice",data:=.fields #[vl,vu,.none] } } σ H3 x v vl vu l u s3.heap.objs.size Q I4 r1 (Heap.IsSliceOf.new ..) pl pu q3;show wpAny (model X.prog X.w) X.A (subscriptTail e (.Slice lo hi none p2) v (.ref s3.heap.objs.size)) (EP X Np σ Q) X.xe { s3 with heap:=s3.heap.push { cls:=.type "slice",data:=.fields #[vl,vu,.none] } };exact tail_any (ops:=[.ref s3.heap.objs.size,v]) ht hT hg (by with_unfolding_all rfl)
def jM (xs:List V) (lo hi:Option Int):List V:=(xs.drop (HT.NC xs.length 0 lo)).take (HT.NC xs.length xs.length hi - HT.NC xs.length 0 lo)
theorem mv (xs:List V) (lo hi:Option Int):(jM xs lo hi).length <= xs.length:=by
 unfold jM;rw [List.length_take,List.length_drop];omega
def Kt (K:Frag):V->Option Int->Option Int->Hp->VK->Prop:=fun x lo hi H Q=>∃ a xs,x=.ref a/\fR K H a xs /\
 ¬ (HT.NC xs.length 0 lo=0/\HT.NC xs.length xs.length hi=xs.length)/\∀ p,H p=none->Q (.ref p) (af H p (.tup (jM xs lo hi)))
theorem DL:ND X (Kt X.K):=by
 intro Np s σ H x v vl vu lo hi sl Q I rx hs pl pu h;obtain ⟨a,xs,rfl,hx,hw,q⟩:=h;cases rx;obtain ⟨Nu,r,ht,hz⟩:=I.tuple hx;have hlen:Nu.toArray.size=xs.length:=by rw [zI];exact r.length.symm
 refine ⟨"tuple",_,PyProof.Rows.slot_tuple_getitem.lookup,ht.typeIs,?_⟩;refine HT.getItem_tuple_cut ht hs pl pu (by rw [hlen];exact hw) ?_ (by rw [hlen];exact hz);rw [hlen];refine ⟨.ref s.heap.objs.size,_,I.laid (t':=s.toks) (o:=.tup (jM xs lo hi)) (fun b ob q=>zG _ q) (zP _) ?_,rfl,q _ (I.Ny.fresh (zP _))⟩;exact ⟨z5 (mv xs lo hi) hz,_,(r.drop (HT.NC xs.length 0 lo)).take (HT.NC xs.length xs.length hi - HT.NC xs.length 0 lo),IsTup.new _ _⟩
end
noncomputable def mf (n:Nat) (i:Int):Option Nat:=if 0 <= i then (if i < n then some i.toNat else none) else if -(n:Int) <= i then some (i + n).toNat else none
def fM {α:Type} (xs:List α) (i:Int):Option α:=(mf xs.length i).bind fun j=>xs[j]?
theorem tw {n:Nat}{i:Int}{j:Nat} (h:mf n i=some j):seqIndex? i n=some j/\j < n/\-(n:Int) <= i/\i < n:=by
 unfold mf at h;by_cases h0:0 <= i
 ·rw [yI h0] at h
  by_cases h1:i < n
  ·rw [yI h1] at h
   have e:i.toNat=j:=yE h;exact ⟨by rw [seqIndex_of h0 h1,e],by omega,by omega,h1⟩
  ·rw [yH h1] at h;cases h
 ·rw [yH h0] at h
  by_cases h1:-(n:Int) <= i
  ·rw [yI h1] at h
   have e:(i + n).toNat=j:=yE h;exact ⟨by rw [seqIndex_neg oM h1,e],by omega,h1,by omega⟩
  ·rw [yH h1] at h;cases h
theorem lY {α:Type}{xs:List α}{i:Int}{v:α} (h:fM xs i=some v):∃ j,seqIndex? i xs.length=some j/\xs[j]?=some v/\j < xs.length/\-(xs.length:Int) <= i/\i < xs.length:=by
 unfold fM at h;cases e:mf xs.length i with
 | none=>rw [e] at h;cases h
 | some j =>
  rw [e] at h;obtain ⟨h1,h2,h3,h4⟩:=tw e;exact ⟨j,h1,h,h2,h3,h4⟩
def o9 (b:Expr):Prop:=∀ o i,subscripted b false o i=operate [o,i] (getItem o i)
def IxR (X:Cx) (r:R2):Prop :=
 ∀ (value slice:Expr) (Np:List (Addr × Obj)) (s:Shared) (σ:St) (H:Hp) (x y:V) (v u:Value) (Q:VK),Inv X Np σ H s->RelV x v->RelV y u->r x y H Q ->
  subscripted slice false v u=operate [v,u] (getItem v u)->wpAny (model X.prog X.w) X.A (subscriptTail value slice v u) (EP X Np σ Q) X.xe s
def lF (X:Cx) (id:String) (r:V->List V->Hp->VK->Prop):Prop :=
 ∀ (Np:List (Addr × Obj)) (s:Shared) (σ:St) (H:Hp) (x:V) (xs:List V) (v:Value) (us:List Value) (Q:VK),Inv X Np σ H s->RelV x v->Vals xs us->r x xs H Q ->
  wpAny (model X.prog X.w) X.A (call (.builtin id) (v::us)) (EP X Np σ Q) X.xe s
section
variable {X:Cx}{a b:Expr}{ta tb:TE}{pos:Pos}
theorem IxR.or {r r':R2} (h:IxR X r) (h':IxR X r'):IxR X (fun x y H Q=>r x y H Q\/r' x y H Q):=by
 intro value slice Np s σ H x y v u Q I rx ry q hs;rcases q with q | q
 ·exact h value slice Np s σ H x y v u Q I rx ry q hs
 ·exact h' value slice Np s σ H x y v u Q I rx ry q hs
theorem Hx {r:R2} (hr:IxR X r) (ha:PE X a ta) (hb:PE X b tb) (hs:o9 b):PE X (.Subscript a b pos) (vH r ta tb):=by
 intro Np s σ H Q I h;exact Subscript_ (Ak ha hb I h fun v u s2 x y H2 I2 rx ry q=>hr a b Np s2 σ H2 x y v u Q I2 rx ry q (hs _ _))
def DX (K:Frag):R2:=fun x y H Q=>∃ p xs i v,x=.ref p/\y=.int i/\bA K H p xs/\fM xs i=some v/\Q v H
def DV (K:Frag):R2:=fun x y H Q=>∃ p xs i v,x=.ref p/\y=.int i/\fR K H p xs/\fM xs i=some v/\Q v H
def DW:R2:=fun x y H Q=>∃ z i c,x=.str z/\y=.int i/\z.length <= sizeLine/\fM z.cps.toList i=some c/\Q (.str ⟨#[c]⟩) H
theorem ix_list:IxR X (DX X.K):=by
 intro value slice Np s σ H x y v u Q I rx ry h hs;obtain ⟨p,xs,i,z,rfl,rfl,hq,he,q⟩:=h;cases rx;obtain ⟨t,rfl⟩:=ry;obtain ⟨Nu,r,pl,hz⟩:=I.list hq;obtain ⟨j,h1,h2,h3,h4,h5⟩:=lY he;obtain ⟨w,ew,rw'⟩:=r.get h2;have hl:=r.length;have hn:=gp;have aH:EP X Np σ Q w s:=⟨z,H,I,rw',q⟩;by_cases h0:0 <= i
 ·have hj:i.toNat=j:=by
   rw [seqIndex_of h0 h5] at h1;exact yE h1
  exact item_listR pl.isList h0 oM (by rw [hj];simpa using ew) aH hs
 ·have hj:(i + (Nu.toArray.size:Int)).toNat=j:=by
   rw [seqIndex_neg oM h4] at h1;rw [zI,<- hl];exact yE h1
  exact subscriptTail_builtinR (x:=w) pl.isList.typeIs slot_list_getitem.lookup
   (wpAny_getItem_list_neg (Q:=fun r s'=>r=w/\EP X Np σ Q r s') pl.isList oM (by rw [zI] <;> omega) oM (by rw [hj];simpa using ew) ⟨rfl,aH⟩) hs
theorem ix_tup:IxR X (DV X.K):=by
 intro value slice Np s σ H x y v u Q I rx ry h hs;obtain ⟨p,xs,i,z,rfl,rfl,hq,he,q⟩:=h;cases rx;obtain ⟨t,rfl⟩:=ry;obtain ⟨Nu,r,pl,hz⟩:=I.tuple hq;obtain ⟨j,h1,h2,h3,h4,h5⟩:=lY he;obtain ⟨w,ew,rw'⟩:=r.get h2;have hl:=r.length;have hn:=gp;have aH:EP X Np σ Q w s:=⟨z,H,I,rw',q⟩;exact subscriptTail_builtinR (x:=w) pl.typeIs slot_tuple_getitem.lookup
  (getItem_tuple (j:=j) (Q:=fun r s'=>r=w/\EP X Np σ Q r s') pl oM oM (by rw [zI,<- hl];exact h1) (by simpa using ew) ⟨rfl,aH⟩) hs
theorem FZ:IxR X DW:=by
 intro value slice Np s σ H x y v u Q I rx ry h hs;obtain ⟨z,i,c,rfl,rfl,hz,he,q⟩:=h;obtain ⟨t,rfl⟩:=rx;obtain ⟨t',rfl⟩:=ry;obtain ⟨j,h1,h2,h3,h4,h5⟩:=lY he;have hl:z.cps.toList.length=z.length:=by simp [Str.length]
 rw [hl] at h1 h4 h5;have hn:=gp;exact tail_any (typeIs_str s z t) slot_str_getitem.lookup (getItem_str (c:=c) (by
  have e1:decide (i < -(2 ^ 63:Int))=false:=yA oM;have e2:decide (i ≥ 2 ^ 63)=false:=yA oM;rw [e1,e2,Bool.or_false]) (by rw [h1];simpa using h2) ⟨.str ⟨#[c]⟩,H,I.tok _,⟨_,rfl⟩,q⟩) hs
def LG (K:Frag):R2:=fun x y H Q=>DX K x y H Q\/DV K x y H Q\/DW x y H Q
theorem qV:IxR X (LG X.K):=ix_list.or (ix_tup.or FZ)
theorem uK (Nu:List Value) (n j:Nat) (u:Value):Obj.mapSeq (·.setIfInBounds j u) { cls:=.type "list",data:=.seq Nu.toArray n }={ cls:=.type "list",data:=.seq (Nu.set j u).toArray n }:=by
 simp [Obj.mapSeq]
theorem Inv.lst {Np:List (Addr × Obj)}{σ:St}{H:Hp}{s:Shared}{p:Addr}{xs:List V} (I:Inv X Np σ H s) (h:H p=some (.lst xs)) :
  ∃ (Nu:List Value) (n:Nat),Vals xs Nu/\s.heap.get? p=some { cls:=.type "list",data:=.seq Nu.toArray n }/\xs.length <= sizeLine:=by
 obtain ⟨z,Nu,n,r,e⟩:=I.Ny p _ h;exact ⟨Nu,n,r,e,z⟩
theorem Inv.lstUpd {Np:List (Addr × Obj)}{σ:St}{H:Hp}{s:Shared}{p:Addr}{xs ys:List V}{Nu its':List Value}{n n':Nat}{f:Obj->Obj} (I:Inv X Np σ H s) (h:H p=some (.lst xs))
  (ho:s.heap.get? p=some { cls:=.type "list",data:=.seq Nu.toArray n }) (hf:f { cls:=.type "list",data:=.seq Nu.toArray n }={ cls:=.type "list",data:=.seq its'.toArray n' }) (r:Vals ys its') (hz:ys.length <= sizeLine) (t:Nat) :
  Inv X Np σ (af H p (.lst ys)) { s with heap:=s.heap.update p f,toks:=t }:=by
 have e:(s.heap.update p f).get? p=some { cls:=.type "list",data:=.seq its'.toArray n' }:=by
  rw [Heap.get?_update_self f ho (by rw [hf] <;> rfl),hf]
 refine I.write (x:=p) (e:=p) (by rw [h];trivial) (.inl rfl) (fun b u hb q=>(Heap.get?_update_other _ _ (Ne.symm hb)).trans q) ⟨_,e⟩ ?_;exact ⟨hz,its',n',r,e⟩
def G9:V->V->V->Hp->(Hp->Prop)->Prop:=fun o i v H Q=>∃ p xs k j,o=.ref p/\i=.int k/\H p=some (.lst xs)/\mf xs.length k=some j/\Q (af H p (.lst (xs.set j v)))
theorem xO:vt X G9:=by
 intro Np s σ H o i v ov iv u Q I ro ri rv h;obtain ⟨p,xs,k,j,rfl,rfl,hp,hj,q⟩:=h;cases ro;obtain ⟨t,rfl⟩:=ri;obtain ⟨Nu,n,r,ho,hz⟩:=I.lst hp;obtain ⟨h1,h2,h3,h4⟩:=tw hj;have hl:=r.length;have hn:=gp;have I':Inv X Np σ (af H p (.lst (xs.set j v))) { s with heap:=s.heap.update p (Obj.mapSeq (·.setIfInBounds j u)) } :=
  I.lstUpd hp ho (uK Nu n j u) (r.set rv j) (by rw [List.length_set];exact hz) s.toks
 by_cases h0:0 <= k
 ·have hk:k.toNat=j:=by
   rw [seqIndex_of h0 h4] at h1;exact yE h1
  exact ki_setAt ho h0 oM (by rw [zI,<- hl];exact h4) (by rw [hk];exact ⟨_,I',q⟩)
 ·have hk:(k + (Nu.toArray.size:Int)).toNat=j:=by
   rw [seqIndex_neg oM h3] at h1;rw [zI,<- hl];exact yE h1
  exact ki_setBack ho oM (by rw [zI,<- hl];exact h3) oM (by rw [hk];exact ⟨_,I',q⟩)
theorem qj (lo hi:Option Int) (n:Nat):(sliceBounds lo hi none n).1=((HT.NC n 0 lo:Nat):Int)/\(sliceBounds lo hi none n).2.1=((HT.NC n n hi:Nat):Int)/\(sliceBounds lo hi none n).2.2=1:=by
 refine ⟨?_,?_,rfl⟩
 ·cases lo with
  | none=>simp [sliceBounds,HT.NC]
  | some i =>
   simp only [sliceBounds,HT.NC,Option.getD_none,show (1:Int) > 0 by decide,if_true];by_cases h:i < 0
   ·simp only [h,if_true] <;> omega
   ·simp only [h,if_false] <;> omega
 ·cases hi with
  | none=>simp [sliceBounds,HT.NC]
  | some i =>
   simp only [sliceBounds,HT.NC,Option.getD_none,show (1:Int) > 0 by decide,if_true];by_cases h:i < 0
   ·simp only [h,if_true] <;> omega
   ·simp only [h,if_false] <;> omega
theorem pN (Nu:List Value) (lo hi:Option Int):slicePick Nu.toArray lo hi none=((Nu.drop (HT.NC Nu.length 0 lo)).take (HT.NC Nu.length Nu.length hi - HT.NC Nu.length 0 lo)).toArray:=by
 obtain ⟨h1,h2,h3⟩:=qj lo hi Nu.toArray.size;unfold slicePick;rw [h1,h2,h3];simp only [sliceRange_one,pick_run,zI] <;> rfl
def Ku (K:Frag):V->Option Int->Option Int->Hp->VK->Prop:=fun x lo hi H Q=>∃ a xs,x=.ref a/\bA K H a xs/\∀ p,H p=none->Q (.ref p) (af H p (.lst (jM xs lo hi)))
theorem BX:ND X (Ku X.K):=by
 intro Np s σ H x v vl vu lo hi sl Q I rx hs pl pu h;obtain ⟨a,xs,rfl,hx,q⟩:=h;cases rx;obtain ⟨Nu,r,ht,hz⟩:=I.list hx;have hlen:=r.length;refine ⟨"list",_,slot_list_getitem.lookup,ht.isList.typeIs,?_⟩;refine wpAny_getItem_list_slice ht.isList hs pl pu .none (by simp) ?_ (by rw [zI] <;> omega);rw [pN,<- hlen];refine ⟨.ref s.heap.objs.size,_,I.laid (t':=s.toks) (o:=.lst (jM xs lo hi)) (fun b ob q=>zG _ q) (zP _) ?_,rfl,q _ (I.Ny.fresh (zP _))⟩;exact ⟨z5 (mv xs lo hi) hz,_,0,(r.drop (HT.NC xs.length 0 lo)).take (HT.NC xs.length xs.length hi - HT.NC xs.length 0 lo),zY _ rfl⟩
theorem lx:cg X (.builtin "len") (fun xs H Q=>∃ p ys,xs=[.ref p]/\(bA X.K H p ys\/fR X.K H p ys)/\Q (.int ys.length) H):=by
 intro Np s σ H xs us Q I r h;obtain ⟨p,ys,rfl,hq,q⟩:=h;obtain ⟨u,rfl,rx⟩:=dQ r;cases rx;have hn:=gp;rcases hq with hq | hq
 ·obtain ⟨Nu,r',pl,hz⟩:=I.list hq
  have hlen:=r'.length;exact Calls.call_len_list pl.isList (by simp only [zI] <;> omega) ⟨.int ys.length,H,I.tok _,⟨s.toks + 1,by rw [zI,hlen]⟩,q⟩
 ·obtain ⟨Nu,r',pl,hz⟩:=I.tuple hq
  have hlen:=r'.length;exact len_tuple pl (by simp only [zI] <;> omega) ⟨.int ys.length,H,I.tok _,⟨s.toks + 1,by rw [zI,hlen]⟩,q⟩
theorem rK:cg X (.builtin "len") (fun xs H Q=>∃ z,xs=[.str z]/\z.length <= sizeLine/\Q (.int z.length) H):=by
 intro Np s σ H xs us Q I r h;obtain ⟨z,rfl,hz,q⟩:=h;obtain ⟨u,rfl,t,rfl⟩:=dQ r;have hn:=gp;exact len_str oM ⟨.int z.length,H,I.tok _,⟨_,rfl⟩,q⟩
theorem rJ:cg X (.type "list") (fun xs H Q=>∃ p ys,xs=[.ref p]/\(bA X.K H p ys\/fR X.K H p ys)/\∀ l,H l=none->Q (.ref l) (af H l (.lst ys))):=by
 intro Np s σ H xs us Q I r h;obtain ⟨p,ys,rfl,hq,q⟩:=h;obtain ⟨u,rfl,rx⟩:=dQ r;cases rx;have aH:∀ (Nu:List Value),Vals ys Nu->ys.length <= sizeLine->∀ (h':Heap) (c':Nat),(∀ b o',s.heap.get? b=some o'->h'.get? b=some o') ->
   h'.get? s.heap.objs.size=some { cls:=.type "list",dict:=none,data:=.seq Nu.toArray c',slots:=#[] }->EP X Np σ Q (.ref s.heap.objs.size) { s with heap:=h' }:=fun Nu r' hz h' c' kp e =>
  ⟨.ref s.heap.objs.size,_,I.laid (t':=s.toks) kp (zP _) (show ObjOk X.prog X.w _ h' _ (.lst ys) from ⟨hz,Nu,c',r',e⟩),rfl,q _ (I.Ny.fresh (zP _))⟩
 rcases hq with hq | hq
 ·obtain ⟨Nu,r',pl,hz⟩:=I.list hq
  have hlen:=r'.length;obtain ⟨o,ho,hc,n,hd⟩:=pl.isList;exact call_list_seq p (.inl rfl) ho hc hd (fun h' c' kp e=>aH Nu r' hz h' c' kp e) (by simp only [zI] <;> omega)
 ·obtain ⟨Nu,r',pl,hz⟩:=I.tuple hq
  have hlen:=r'.length;obtain ⟨o,ho,hc,n,hd⟩:=pl;exact call_list_seq p (.inr rfl) ho hc hd (fun h' c' kp e=>aH Nu r' hz h' c' kp e) (by simp only [zI] <;> omega)
def vB (K:Frag) (T:String) (x:V) (H:Hp):Prop:=match x with
 | .str _=>T="str"
 | .int _=>T="int"
 | .ref p=>(T="list"/\∃ xs,bA K H p xs)\/(T="tuple"/\∃ o,K.lookup p=some o/\o.cls=.type "tuple"/\o.dict=none) \/
   (T="dict"/\((∃ Nr,H p=some (.dK Nr))\/∃ Nr,H p=some (.dT Nr)))\/(T="set"/\∃ S n,H p=some (.set S n))
 | _=>False
theorem vA {Np:List (Addr × Obj)}{σ:St}{H:Hp}{s:Shared}{T:String}{x:V}{v:Value} (I:Inv X Np σ H s) (r:RelV x v) (ty:vB X.K T x H) :
  s.TypeIs v T/\∀ a,v=.ref a->∃ ob,s.heap.get? a=some ob/\ob.dict=none:=by
 cases x with
 | str z =>
  obtain ⟨t,rfl⟩:=r;cases (show T="str" from ty);exact ⟨typeIs_str s z t,fun _ e=>nomatch e⟩
 | int i =>
  obtain ⟨t,rfl⟩:=r;cases (show T="int" from ty);exact ⟨typeIs_int s i t,fun _ e=>nomatch e⟩
 | ref p =>
  cases r;rcases ty with ⟨rfl,xs,hq⟩ | ⟨rfl,o,hk,hc,hd⟩ | ⟨rfl,hk⟩ | ⟨rfl,S,n,hk⟩
  ·obtain ⟨Nu,_,pl,_⟩:=I.list hq
   refine ⟨pl.isList.typeIs,fun a e=>?_⟩;cases e;obtain ⟨o,n,e,c,hd,_⟩:=pl;exact ⟨o,e,hd⟩
  ·refine ⟨⟨o,I.kIn p o hk,hc⟩,fun a e=>?_⟩
   cases e;exact ⟨o,I.kIn _ o hk,hd⟩
  ·have z:∃ o,s.heap.get? p=some o/\o.ExactDict:=by
    rcases hk with ⟨Nr,hk⟩ | ⟨Nr,hk⟩
    ·obtain ⟨_,_,_,_,o,_,_,e,ex,_⟩:=I.Ny p _ hk
     exact ⟨o,e,ex⟩
    ·obtain ⟨_,_,_,_,o,_,_,e,ex,_⟩:=I.Ny p _ hk
     exact ⟨o,e,ex⟩
   obtain ⟨o,e,ex⟩:=z;refine ⟨⟨o,e,ex.1⟩,fun a e2=>?_⟩;cases e2;exact ⟨o,e,ex.2.1⟩
  ·obtain ⟨o,_,_,_,e,ex,_⟩:=I.Ny p _ hk
   refine ⟨⟨o,e,ex.1⟩,fun a e2=>?_⟩;cases e2;exact ⟨o,e,ex.2.1⟩
 | _=>exact False.elim ty
def Kl (K:Frag) (T:String) (r:V->List V->Hp->VK->Prop) (to:TE):TE:=fun σ H Q=>to σ H fun x H1=>vB K T x H1/\r x [] H1 Q
def Jl (K:Frag) (T:String) (r:V->List V->Hp->VK->Prop) (to:TE) (t:TA):TE:=fun σ H Q=>to σ H fun x H1=>vB K T x H1/\t σ H1 fun xs H2=>r x xs H2 Q
variable {o e:Expr}{es:List Expr}{to:TE}{t:TA}{name:Str}{apos cpos:Pos}{T id:String}{r:V->List V->Hp->VK->Prop}
theorem EX (pa:PlainAttrs T) (slot:Slot T name id) (hty:typeOf (.builtin id)=pure (.type "method_descriptor")) (hm:lF X id r) (ho:PE X o to)
  (hbase:attributeBase o name X.env (eval o X.env)=eval o X.env:=by rfl) (hline:(apos.endLine == cpos.line)=true:=by rfl):PE X (.Call (.Attribute o name apos) [] [] cpos) (Kl X.K T r to):=by
 intro Np s σ H Q I h;refine wpAny_Call_method0_late hbase hline (aE (ho Np s σ H _ I h) fun v s1 hq0=>?_);obtain ⟨x,H1,I1,r1,ty,q1⟩:=hq0;obtain ⟨h1,h2⟩:=vA I1 r1 ty;exact ⟨T,id,pa,slot,hty,h1,h2,Calls.callWith_builtin rfl (PySem.evalArgs_none (hm Np s1 σ H1 x [] v [] Q I1 r1 .nil q1))⟩
theorem Hy (pa:PlainAttrs T) (slot:Slot T name id) (hty:typeOf (.builtin id)=pure (.type "method_descriptor")) (hm:lF X id r) (ho:PE X o to) (ha:PA X (e::es) t)
  (hbase:attributeBase o name X.env (eval o X.env)=eval o X.env:=by rfl)
  (hfew:((backTo cpos (starEach (e::es) X.env)).all (fun x=>!x.1) && (backToKw cpos (keywordEach [] X.env)).all (fun x=>x.1.isSome)
   && decide ((e::es).length + ([]:List Keyword).length + (if ([]:List Keyword).isEmpty then 0 else 1) < 30))=true:=by rfl)
  (hline:(apos.endLine == cpos.line)=true:=by rfl) (hs:starEach (e::es) X.env=(false,eval e X.env)::starEach es X.env:=by rfl) (hplain:(backTo cpos (starEach es X.env)).any (·.1)=false:=by rfl) :
  PE X (.Call (.Attribute o name apos) (e::es) [] cpos) (Jl X.K T r to t):=by
 intro Np s σ H Q I h;refine wpAny_Call_method_late hbase hfew hline rfl (aE (ho Np s σ H _ I h) fun v s1 hq0=>?_);obtain ⟨x,H1,I1,r1,ty,q1⟩:=hq0;obtain ⟨h1,h2⟩:=vA I1 r1 ty;refine ⟨T,id,pa,slot,hty,h1,h2,?_⟩;have hA:=ha cpos Np s1 σ H1 _ I1 q1;rw [hs] at hA ⊢;refine Calls.callWith_builtin (by show (false || (backTo cpos (starEach es X.env)).any (·.1))=false;rw [hplain] <;> rfl) (Calls.evalArgs_plain ?_);exact aE hA fun us s2 ⟨vs,H2,I2,r2,q2⟩=>hm Np s2 σ H2 x vs v us Q I2 r1 r2 q2
end
def BE (X:Cx) (id:String) (r:V->List V->Hp->VK->Prop):Prop :=
 ∀ (Np:List (Addr × Obj)) (s:Shared) (σ:St) (H:Hp) (x:V) (xs:List V) (v:Value) (us:List Value) (Q:VK),Inv X Np σ H s->RelV x v->Vals xs us->r x xs H Q ->
  wpAny (model X.prog X.w) X.A (call (.builtin id) (v::us)) (EP X Np σ Q) X.xe s
theorem Vals.one {x:V}{us:List Value} (h:Vals [x] us):∃ u,us=[u]/\RelV x u:=by
 cases h with
 | cons r h=>cases h;exact ⟨_,rfl,r⟩
theorem Vals.zero:∀ {us:List Value},Vals [] us->us=[]
 | _,.nil=>rfl
theorem Vals.dropLast {xs:List V}{us:List Value} (h:Vals xs us):Vals xs.dropLast us.dropLast:=by
 induction h with
 | nil=>exact .nil
 | cons r t ih =>
  cases t with
  | nil=>exact .nil
  | cons q t'=>exact .cons r ih
theorem Vals.rep {xs:List V}{us:List Value} (h:Vals xs us):∀ k:Nat,Vals (List.replicate k xs).flatten (List.replicate k us).flatten
 | 0=>.nil
 | k + 1=>by
  rw [List.replicate_succ,List.replicate_succ,List.flatten_cons,List.flatten_cons];exact Vals.append h (Vals.rep h k)
theorem vc {α:Type} (l:List α):l.eraseIdx (l.length - 1)=l.dropLast:=by
 induction l with
 | nil=>rfl
 | cons a r ih =>
  cases r with
  | nil=>rfl
  | cons b r =>
   have e:(a::b::r).length - 1=((b::r).length - 1) + 1:=by
    have h1:(a::b::r).length=r.length + 2:=rfl;have h2:(b::r).length=r.length + 1:=rfl;omega
   rw [e,List.eraseIdx_cons_succ,ih]
   all_goals rfl
theorem pw (Nu:List Value):∀ (k:Nat) (acc:List Value),
  List.foldl (fun x1 x2=>x1++x2) acc.toArray (List.replicate k Nu.toArray)=(acc++(List.replicate k Nu).flatten).toArray
 | 0,acc=>by simp
 | k + 1,acc=>by
  have e:acc.toArray++Nu.toArray=(acc++Nu).toArray:=by simp
  have e2:(acc++Nu)++(List.replicate k Nu).flatten=acc++(List.replicate (k + 1) Nu).flatten:=by
   rw [List.replicate_succ,List.flatten_cons,yN]
  rw [<- e2,<- pw Nu k (acc++Nu),<- e,List.replicate_succ,List.foldl_cons]
section
variable {X:Cx}{Np:List (Addr × Obj)}{σ:St}{H:Hp}{s:Shared}{l b:Addr}{xs ys zs:List V}
theorem Inv.lset {Nu its':List Value}{n:Nat}{f:Array Value->Array Value}{t':Nat} (I:Inv X Np σ H s) (hH:H l=some (.lst xs))
  (e:s.heap.get? l=some { cls:=.type "list",data:=.seq Nu.toArray n }) (hf:f Nu.toArray=its'.toArray) (hv:Vals ys its') (hz:ys.length <= sizeLine) :
  Inv X Np σ (af H l (.lst ys)) { s with heap:=s.heap.update l (Obj.mapSeq f),toks:=t' }:=by
 have q:=PySem.IsL.update e f;rw [hf] at q;refine I.write (x:=l) (e:=l) (by rw [hH];exact trivial) (.inl rfl) (fun b' u hb hu=>(Heap.get?_update_other s.heap (Obj.mapSeq f) (Ne.symm hb)).trans hu) ⟨_,q⟩ ?_;exact ⟨hz,its',_,hv,q⟩
theorem Inv.lnew {Nu:List Value}{t':Nat} (I:Inv X Np σ H s) (hv:Vals ys Nu) (hz:ys.length <= sizeLine) :
  Inv X Np σ (af H s.heap.objs.size (.lst ys)) { s with heap:=s.heap.push { cls:=.type "list",data:=.seq Nu.toArray },toks:=t' } :=
 I.laid (fun _ _ q=>zG _ q) (zP _) ⟨hz,Nu,0,hv,zY _ rfl⟩
theorem Inv.fresh (I:Inv X Np σ H s):H s.heap.objs.size=none:=I.Ny.fresh (zP _)
theorem Inv.lstM (I:Inv X Np σ H s) (hH:H l=some (.lst xs)):xs.length <= sizeLine/\∃ (Nu:List Value) (n:Nat),Vals xs Nu/\xs.length=Nu.length/\s.heap.get? l=some { cls:=.type "list",data:=.seq Nu.toArray n }:=by
 obtain ⟨z,Nu,n,r,e⟩:=I.Ny l _ hH;exact ⟨z,Nu,n,r,r.length,e⟩
theorem notLongL {n:Nat} (h:n <= sizeLine):Builtin.List.listTooLong n=false:=by
 unfold Builtin.List.listTooLong;exact yA oM
end
section
variable {X:Cx}
def BZ:V->List V->Hp->VK->Prop:=fun x vs H Q=>∃ l xs y,x=.ref l/\vs=[y]/\H l=some (.lst xs)/\xs.length < sizeLine/\Q .non (af H l (.lst (xs++[y])))
theorem pq:BE X "list.append" BZ:=by
 intro Np s σ H x vs v us Q I rx rv h;obtain ⟨l,xs,y,rfl,rfl,hH,hz,q⟩:=h;cases rx;obtain ⟨u,rfl,ru⟩:=rv.one;obtain ⟨z,Nu,n,r,hl,e⟩:=I.lstM hH;refine call_meets F.slot_list_append ⟨_,e,rfl⟩ F.entry_list_append (F.args_list_append_2 _ _) (PySem.list_append l Nu.toArray n u (by rw [zI];omega)) ⟨e,?_⟩;refine ⟨.non,_,I.lset (its':=Nu++[u]) hH e (by simp) (r.append (.cons ru .nil)) ?_,rfl,q⟩;rw [zV,List.length_singleton];omega
def Kw:V->List V->Hp->VK->Prop:=fun x vs H Q=>∃ l xs y,x=.ref l/\vs=[]/\H l=some (.lst xs)/\xs[xs.length - 1]?=some y/\Q y (af H l (.lst xs.dropLast))
theorem Ft:BE X "list.pop" Kw:=by
 intro Np s σ H x vs v us Q I rx rv h;obtain ⟨l,xs,y,rfl,rfl,hH,hy,q⟩:=h;cases rx;have hus:=rv.zero;subst hus;obtain ⟨z,Nu,n,r,hl,e⟩:=I.lstM hH;obtain ⟨u,hu,ru⟩:=r.get hy;have hy':Nu.toArray[Nu.toArray.size - 1]?=some u:=by
  show Nu.toArray[Nu.length - 1]?=some u;rw [<- Array.getElem?_toList,<- hl];exact hu
 refine call_meets F.slot_list_pop ⟨_,e,rfl⟩ F.entry_list_pop (F.args_list_pop_1 _) (MeetsSeq.list_pop_last l Nu.toArray n u hy' (by rw [zI];omega)) ⟨e,?_⟩;refine ⟨y,_,I.lset (its':=Nu.dropLast) hH e ?_ r.dropLast ?_,ru,q⟩
 ·show Nu.toArray.eraseIdxIfInBounds (Nu.toArray.size - 1)=Nu.dropLast.toArray
  rw [zI,List.eraseIdxIfInBounds_toArray,vc]
 ·rw [List.length_dropLast]
  omega
def DY:V->List V->Hp->VK->Prop:=fun x vs H Q=>∃ l xs,x=.ref l/\vs=[]/\H l=some (.lst xs)/\Q .non (af H l (.lst []))
theorem y0:BE X "list.clear" DY:=by
 intro Np s σ H x vs v us Q I rx rv h;obtain ⟨l,xs,rfl,rfl,hH,q⟩:=h;cases rx;have hus:=rv.zero;subst hus;obtain ⟨z,Nu,n,r,hl,e⟩:=I.lstM hH;refine call_meets F.slot_list_clear ⟨_,e,rfl⟩ F.entry_list_clear (F.args_list_clear_1 _) (AutoSeq1.list_clear_list_0 l Nu.toArray n (by rw [zI];omega)) ⟨e,?_⟩;exact ⟨.non,_,I.lset (its':=[]) (ys:=[]) hH e rfl .nil (Nat.zero_le _),rfl,q⟩
def Kv:R2:=fun x y H Q=>∃ l k xs,x=.ref l/\y=.int k/\H l=some (.lst xs)/\-(2 ^ 63) <= k/\k < 2 ^ 63/\xs.length * k.toNat <= sizeLine /\
 ∀ p,H p=none->Q (.ref p) (af H p (.lst (List.replicate k.toNat xs).flatten))
theorem C3 {α:Type} (xs:List α) (k:Nat):(List.replicate k xs).flatten.length=k * xs.length:=by
 induction k with
 | zero=>simp
 | succ k ih=>rw [List.replicate_succ,List.flatten_cons,zV,ih,Nat.succ_mul,Nat.add_comm]
theorem E6:lE X (binaryOp .Mult) Kv:=by
 intro Np s σ H x y v u Q I rx ry h;obtain ⟨l,k,xs,rfl,rfl,hH,h1,h2,hz,q⟩:=h;cases rx;obtain ⟨t,rfl⟩:=ry;obtain ⟨z,Nu,n,r,hl,e⟩:=I.lstM hH;have hlen:Nu.toArray.size * k.toNat <= sizeLine:=by rw [zI,<- hl];exact hz
 have hcap:¬ Nu.toArray.size * k.toNat > (2 ^ 63 - 1) / 8:=by
  have:(sizeLine:Nat) <= (2 ^ 63 - 1) / 8:=by decide
  omega
 have hfit:¬ (!Builtin.List.listFitsIndex k)=true:=by
  rw [fitsIndex_both h1 h2];exact Bool.false_ne_true
 have hlong:¬ Builtin.List.listTooLong (Nu.toArray.size * k.toNat)=true:=by
  rw [notLongL hlen];exact Bool.false_ne_true
 have hnew:List.foldl (fun x1 x2=>x1++x2) #[] (List.replicate (if Nu.toArray.isEmpty=true then 0 else k.toNat) Nu.toArray)=(List.replicate k.toNat Nu).flatten.toArray:=by
  have f0:∀ m:Nat,List.foldl (fun x1 x2=>x1++x2) #[] (List.replicate m Nu.toArray)=(List.replicate m Nu).flatten.toArray:=fun m=>by
   have:=pw Nu m []
   rw [List.nil_append] at this;exact this
  rw [f0];cases Nu with
  | nil=>simp
  | cons a r'=>rw [yH (by simp)]
 refine wpAny_binaryOp_repeat_ref (T:="list") (U:="int") dC ⟨_,e,rfl⟩ (fun s'=>typeIs_int s' k t) noFill_list_mul F.fills_int_mul F.slot_int_rmul repeat_list F.slot_int_index.lookup
  (call_meets F.slot_int_rmul (typeIs_int s k t) F.entry_int_rmul (F.args_int_rmul_2 _ _) (int___rmul___int_list k t l Nu.toArray n)
   ⟨e,rfl,⟨_,e,rfl⟩,call_meets F.slot_list_mul ⟨_,e,rfl⟩ F.entry_list_mul (F.args_list_mul_2 _ _) (AutoListH.list___mul___list_int_3 l Nu.toArray n k t hfit hcap hlong) ⟨e,?_⟩⟩)
 rw [hnew];exact ⟨.ref _,_,I.lnew (t':=s.toks) (r.rep k.toNat) (by rw [C3,Nat.mul_comm];exact hz),rfl,q _ I.fresh⟩
end
end L2
namespace Att
open PySem PySem.W PySem.Calls PyProof.Rows
theorem nU {P:Params}{h:Heap}:∀ (ns:List Int) (vs:List Value),WellAll P h vs (ns.map WData.int)->IntsAre vs ns:=by
 intro ns
 induction ns with
 | nil =>
  intro vs w;rw [List.map_nil] at w;cases w;exact .nil
 | cons n ns ih =>
  intro vs w;rw [zO] at w;cases w with
  | cons a b =>
   cases a;exact .cons _ _ (ih _ b)
theorem vN {l:OpenLaw}{n:Nat} (hn:l.most=some n) {P:Params}{h:Heap}{args:List WData}{vals:List Value}
  (hpre:l.row.toRowW.claim.pre args=true) (hwl:WellAll P h vals args) :
  ∃ a vs ns,vals=[Value.ref a]/\args=[WData.list (ns.map WData.int)]/\h.get? a=some { cls:=.type "list",data:=.seq vs.toArray }/\IntsAre vs ns/\ns.length <= n:=by
 have hsh:WShape.hasAll [] args [.list .int]=true:=(pre_splitW hpre).1;have hc:l.pre.holds [] { args:=args }=true:=(pre_splitW hpre).2;obtain ⟨d,r,rfl,h1,h2⟩:=hasAllW_cons hsh;obtain rfl:=hasAllW_nil h2;obtain ⟨xs,rfl,h3⟩:=hasW_list h1;obtain ⟨ns,rfl⟩:=items_int h3;have hlen:ns.length <= n:=by
  unfold OpenLaw.pre at hc;have h4:(WTm.not (.lt (.lit (.int (n:Int))) (.len (.arg 0)))).holds [] { args:=[.list (ns.map .int)] }=true:=by
   have h4:=(holds_andW hc).1;rw [hn] at h4;exact h4
  have h5:=condW_of h4 (w_not (w_lt w_lit (w_len_list (w_arg rfl))));rw [zH] at h5;refine Nat.le_of_not_lt fun q=>?_
  have q':(n:Int) < ((ns.length:Nat):Int):=by omega
  first
   | (rw [yT q'] at h5;exact absurd h5 dC)
   | (simp at h5;omega)
 cases hwl with
 | cons w1 w2 =>
  cases w2;cases w1 with
  | list ho hall=>exact ⟨_,_,ns,rfl,rfl,ho,nU ns _ hall,hlen⟩
theorem v0 (l:OpenLaw) (args:List WData):l.row.toRowW.claim.post args (.bool true) args=true :=
 postW_of (r:=l.row.toRowW) (X:=(true == true))
  (show WShape.has [] (.bool true) .bool=true by first | rfl | decide | simp [WShape.has,WShape.arms,WShape.armsAll])
  (show (WTm.eq .res (.lit (.bool true))).value [] { args:=args,res:=some (.bool true),after:=args }=some (.bool (true == true)) from w_eq_bool (w_res rfl) w_lit) rfl
theorem attach_call {l:OpenLaw}{n:Nat}{q:Program}{bM:List Str}{XP:(Str->Option Value)->Heap->Prop}{YP:World->Heap->Prop}{d:DefRec}
  (hn:l.most=some n) (hdf:d.params.defaults=[])
  (call:∀ (w:World) (s₀ s₁:Shared) (mg mb:Str->Option Value) (fa:Addr) (o:Obj) (pm cd doc:Value) (a:Addr) (vs:List Value) (ns:List Int),
   Ground q bM [] XP w s₀ mg mb s₁.heap->YP w s₁.heap ->
   s₁.heap.get? fa=some o->o.data=.func (docDef d.name d.params d.body d.scope pm cd doc)->s₁.heap.CodeRec cd d.name->mg d.name=some (.ref fa) ->
   s₁.heap.get? a=some { cls:=.type "list",data:=.seq vs.toArray }->IntsAre vs ns->ns.length <= n->s₁.gens=#[] ->
   codeAny (model l.prog w) callerA (.call (.ref fa) ⟨[.ref a],[]⟩) (fun r s'=>r=.ok (.ret (.bool true))/\OldK s₁.heap s'.heap/\s'.os=s₁.os/\AllBare s'.gens) s₁) :
  WalkO q bM XP YP l.row.toRowW d [] (fun f vs=>PySem.call f vs):=by
 intro w s₀ s₁ mg mb G Y fa o pm cd doc dV kV ho hd hcd hD hmg hg args vals as hpre hlay hrd hwl hlo;obtain rfl:dV=.none:=Dflts.none hD hdf;obtain rfl:kV=.none:=Dflts.noKw hD;obtain ⟨a,vs,ns,rfl,rfl,hobj,hints,hlen⟩:=vN hn hpre hwl;refine enter_call (codeAny_mono (call w s₀ s₁ mg mb fa o pm cd doc a vs ns G Y ho (fd_plain hd) hcd hmg hobj hints hlen hg) fun r s' hq=>?_);obtain ⟨rfl,h2,h3,h4⟩:=hq;exact ⟨.inl ⟨.bool true,.bool true,[],rfl,fun _=>rfl,.bool true,v0 l _,fun _=>⟨List.Pairwise.nil,fun _ hm=>(nomatch hm)⟩⟩,h2,h3,h4⟩
end Att
namespace L2
open PySem PySem.Spec PyProof.Rows
theorem vx:∀ {vs:List Value}{ns:List Int},IntsAre vs ns->Vals (ns.map V.int) vs:=by
 intro vs ns h
 induction h with
 | nil=>exact .nil
 | cons n t h ih=>exact .cons ⟨t,rfl⟩ ih
noncomputable def dk (s:Stmt):Arguments:=match s with
 | .FunctionDef _ a _ _ _ _ _ _ _ _=>a
 | _=>{ posonlyargs:=[],args:=[],vararg:=none,kwonlyargs:=[],kw_defaults:=[],kwarg:=none,defaults:=[] }
noncomputable def dN (s:Stmt):List Stmt:=match s with
 | .FunctionDef _ _ b _ _ _ _ _ _ _=>b
 | _=>[]
noncomputable def ci (s:Stmt):Scope:=match s with
 | .FunctionDef _ _ _ _ _ _ sc _ _ _=>sc
 | _=>{ kind:=.function,names:=[],isGenerator:=false,isCoroutine:=false }
abbrev eB:lH:=fun _ _ _ _ _ _=>False
abbrev E0:XK:=fun _ _ _=>False
theorem nD {X:Cx}:gA eB X E0:=fun _ _ _ _ _ _ _ h=>h.elim
structure Fun (K:Frag) (x qual:Str) (st:Stmt) (f:Addr) (fd:FuncData):Prop where
 ex:∃ (oc:Value) (od:Option Addr) (kV doc pm:Value) (an:Option Addr) (cdv ct:Value) (osl:Array (Option Value)),
  fd=fnOf x qual (dk st) (dN st) (ci st) .none kV doc pm an cdv ct/\K.lookup f=some ⟨oc,od,.func fd,osl⟩/\codeIn K cdv qual=true
 kp:keepIn K (.ref f)=true
section
variable {P:Program}{w:World}{K:Frag}{mg:Str->Option Value}{base:Heap}
theorem Fun.binds {x qual:Str}{st:Stmt}{f:Addr}{fd:FuncData}{ps:List Str} (F:Fun K x qual st f fd)
  (h:∀ (kV doc pm:Value) (an:Option Addr) (cdv ct:Value) (us:List Value),us.length=ps.length->bindArgs (fnOf x qual (dk st) (dN st) (ci st) .none kV doc pm an cdv ct) ⟨us,[]⟩=pure (ps.zip us)):Binds K fd ps []:=by
 obtain ⟨oc,od,kV,doc,pm,an,cdv,ct,osl,rfl,lk,hcd⟩:=F.ex;exact .all (h kV doc pm an cdv ct)
theorem n8 {x qual:Str}{st:Stmt}{f:Addr}{oc:Value}{od an:Option Addr}{osl:Array (Option Value)}{kV doc pm cdv ct:Value} (l:K.lookup f=some ⟨oc,od,.func (fnOf x qual (dk st) (dN st) (ci st) .none kV doc pm an cdv ct),osl⟩)
  (c:codeIn K cdv qual=true) (k:keepIn K (.ref f)=true):Fun K x qual st f (fnOf x qual (dk st) (dN st) (ci st) .none kV doc pm an cdv ct):=⟨⟨oc,od,kV,doc,pm,an,cdv,ct,osl,rfl,l,c⟩,k⟩
end
theorem kH {n:Nat} (h:n <= 1000):n < sizeLine:=yM h dC
end L2
set_option maxHeartbeats 4000000
namespace DD
open PySem PySem.Spec PyProof.Rows L2
abbrev St:=L2.St
section
variable {X:Cx}{e:Expr}{es:List Expr}{st:Stmt}{sts:List Stmt}
theorem PE_imp {t t':TE} (h:PE X e t) (i:∀ σ H Q,t' σ H Q->t σ H Q):PE X e t':=fun Np s σ H Q I h'=>h Np s σ H Q I (i σ H Q h')
theorem PT_imp {t t':TT} (h:PT X e t) (i:∀ σ H Q,t' σ H Q->t σ H Q):PT X e t':=fun Np s σ H Q I h'=>h Np s σ H Q I (i σ H Q h')
theorem PW_imp {t t':TT} (h:PW X e t) (i:∀ σ H Q,t' σ H Q->t σ H Q):PW X e t':=fun wh Np s σ H Q I h'=>h wh Np s σ H Q I (i σ H Q h')
theorem PA_imp {t t':TA} (h:PA X es t) (i:∀ σ H Q,t' σ H Q->t σ H Q):PA X es t':=fun p Np s σ H Q I h'=>h p Np s σ H Q I (i σ H Q h')
theorem PS_imp {t t':TS} (h:PS X st t) (i:∀ D σ H,t' D σ H->t D σ H):PS X st t':=fun Np s σ H D I h'=>h Np s σ H D I (i D σ H h')
theorem PSs_imp {t t':TS} (h:PSs X sts t) (i:∀ D σ H,t' D σ H->t D σ H):PSs X sts t':=fun Np s σ H D I h'=>h Np s σ H D I (i D σ H h')
theorem OpR_imp {f:Value->Value->Sem Value}{r r':R2} (h:lE X f r) (i:∀ x y H Q,r' x y H Q->r x y H Q):lE X f r':=fun Np s σ H x y v u Q I a b h'=>h Np s σ H x y v u Q I a b (i x y H Q h')
end
theorem PG_imp {X:Cx}{tg:Expr}{t t':TG} (h:PG X tg t) (i:∀ v σ H Q,t' v σ H Q->t v σ H Q):PG X tg t':=fun Np s σ H v u Q I rv h'=>h Np s σ H v u Q I rv (i v σ H Q h')
end DD
namespace L2
open PySem PySem.Spec PyProof.Rows
theorem ox:∀ (names:List (Str × NameKind)) (n:Nat) (acc:List (Str × Addr)),∃ own,cellsFrom n names acc=own++acc/\(∀ p ∈ own,n <= p.2/\(p.1,NameKind.cell) ∈ names) /\
  (∀ x,(x,NameKind.cell) ∈ names->∃ c,(x,c) ∈ own)/\own.Pairwise fun x y=>x.2 ≠ y.2
 | [],n,acc=>⟨[],rfl,(fun _ h=>by cases h),(fun _ h=>by cases h),List.Pairwise.nil⟩
 | (name,kind)::r,n,acc=>by
  unfold cellsFrom;by_cases hk:kind=.cell
  ·subst hk
   obtain ⟨own,e,h1,h2,h3⟩:=ox r (n + 1) ((name,n)::acc);refine ⟨own++[(name,n)],?_,?_,?_,?_⟩
   ·rw [yI dC,e,yN];rfl
   ·intro p hp
    rcases zZ.mp hp with hp | hp
    ·exact ⟨Nat.le_of_succ_le (h1 p hp).1,zQ _ (h1 p hp).2⟩
    ·rw [zM.mp hp];exact ⟨zP _,z7⟩
   ·intro x hx
    rcases zT.mp hx with hx | hx
    ·cases hx;exact ⟨n,zK _ z7⟩
    ·obtain ⟨c,hc⟩:=h2 x hx;exact ⟨c,zL _ hc⟩
   ·refine List.pairwise_append.mpr ⟨h3,List.pairwise_singleton _ _,fun a ha b hb e=>?_⟩
    rw [zM.mp hb] at e;have h5:=(h1 a ha).1;rw [show a.2=n from e] at h5;exact absurd h5 (Nat.not_succ_le_self n)
  ·obtain ⟨own,e,h1,h2,h3⟩:=ox r n acc
   have hk':(kind == NameKind.cell)=false:=by cases kind <;> first | rfl | exact absurd rfl hk
   refine ⟨own,by rw [hk'];exact e,fun p hp=>⟨(h1 p hp).1,zQ _ (h1 p hp).2⟩,fun x hx=>?_,h3⟩;rcases zT.mp hx with hx | hx
   ·cases hx;exact absurd rfl hk
   ·exact h2 x hx
theorem jN {scope:Scope}{env:Env} (h:∀ x,(x,NameKind.free) ∈ scope.names->∃ c,env.cells.lookup x=some c) :
  ∃ cl,closureFor scope env=pure cl/\(∀ p ∈ cl,env.cells.lookup p.1=some p.2)/\∀ x,(x,NameKind.free) ∈ scope.names->∃ c,(x,c) ∈ cl:=by
 have all:∀ (names:List (Str × NameKind)) (acc:List (Str × Addr)),(∀ x,(x,NameKind.free) ∈ names->∃ c,env.cells.lookup x=some c)->(∀ p ∈ acc,env.cells.lookup p.1=some p.2) ->
   ∃ cl,(forIn (m:=Sem) names acc fun (p:Str × NameKind) (cs:List (Str × Addr))=>if (p.2 == NameKind.free)=true then do let __do_lift <- cellOf env p.1;pure (ForInStep.yield ((p.1,__do_lift)::cs)) else pure (ForInStep.yield cs))=pure cl /\
    (∀ p ∈ cl,env.cells.lookup p.1=some p.2)/\(∀ p ∈ acc,p ∈ cl)/\∀ x,(x,NameKind.free) ∈ names->∃ c,(x,c) ∈ cl:=by
  intro names
  induction names with
  | nil=>intro acc _ ha;exact ⟨acc,by rw [List.forIn_nil],ha,fun _ h=>h,(fun _ h=>by cases h)⟩
  | cons p r ih =>
   obtain ⟨name,kind⟩:=p;intro acc hn ha;by_cases hk:kind=.free
   ·subst hk
    obtain ⟨c,hc⟩:=hn name z7;obtain ⟨cl,e,h1,h2,h3⟩:=ih ((name,c)::acc) (fun x hx=>hn x (zQ _ hx)) (fun p hp=>by
     rcases zT.mp hp with rfl | hp
     ·exact hc
     ·exact ha p hp)
    refine ⟨cl,?_,h1,fun p hp=>h2 p (zQ _ hp),fun x hx=>?_⟩
    ·rw [List.forIn_cons]
     have ec:cellOf env name=pure c:=by unfold cellOf;rw [hc]
     simp only [ec];exact e
    ·rcases zT.mp hx with hx | hx
     ·cases hx;exact ⟨c,h2 _ z7⟩
     ·exact h3 x hx
   ·obtain ⟨cl,e,h1,h2,h3⟩:=ih acc (fun x hx=>hn x (zQ _ hx)) ha
    have hk':(kind == NameKind.free)=false:=by cases kind <;> first | rfl | exact absurd rfl hk
    refine ⟨cl,?_,h1,h2,fun x hx=>?_⟩
    ·rw [List.forIn_cons];simp only [hk',yB,if_false];exact e
    ·rcases zT.mp hx with hx | hx
     ·cases hx;exact absurd rfl hk
     ·exact h3 x hx
 obtain ⟨cl,e,h1,_,h3⟩:=all scope.names [] h (fun _ h=>by cases h);refine ⟨cl,?_,h1,h3⟩;simp only [closureFor];rw [e];rfl
theorem yz {M:Model}{A:Around}{E:Value->Shared->Prop}{s:Shared}{scope:Scope}{env:Env}{cl:List (Str × Addr)}{Q:Env->Shared->Prop}
  (hQ:Q (newEnv scope s.heap.objs.size env.globals (cellsFrom (s.heap.objs.size + 1) scope.names cl) env.qual none .none (some env) builtinsNs) { s with heap:=pushCells (s.heap.push { cls:=.type "dict",data:=.dict #[] }) scope.names }) :
  wpAny M A (newFunctionEnv scope env.globals cl [] env.qual none .none (some env)) Q E s:=by
 simp only [newFunctionEnv,Option.isSome_some,if_true];refine yF (wpAny_alloc ?_);refine yF (wpAny_layCells _ (fun name kind cells=>by cases hkc:kind == NameKind.cell <;> simp [hkc]) _ _ _ _ ?_);rw [show ({ s with heap:=s.heap.push { cls:=.type "dict",data:=.dict #[] } }:Shared).heap.objs.size=s.heap.objs.size + 1 from Heap.size_push ..];refine yF ?_;rw [List.forIn_nil];exact yG (yG hQ)
def cj (X:Cx) (N':List Str) (scope:Scope) (cl:List (Str × Addr)) (s:Shared) (H:Hp) (fp:List Addr) (Np:List (Addr × Obj)):Cx :=
 { X with N:=N',s₀:=s,H₀:=H,env:=compEnvC scope (cellsFrom (s.heap.objs.size + 1) scope.names cl) s.heap.objs.size X.env,outer:=X.stack,stack:=X.stack,ex:=fp,
          fn:=fun x=>scope.names.lookup x == some .cell,pn:=X.pn++Np,xe:=fun _ _=>False }
structure jT (X:Cx) (N':List Str) (scope:Scope):Prop where
 kind:scope.kind=.function
 nd:(scope.names.map (·.1)).Nodup
 len:X.N.length <= N'.length
 free:∀ x,(x,NameKind.free) ∈ scope.names->X.env.kindOf x=some .cell\/X.env.kindOf x=some .free
 same:∀ i x,i < X.N.length->N'[i]?=some x->(x,NameKind.free) ∈ scope.names->X.N[i]?=some x
 hid:∀ i x,i < X.N.length->N'[i]?=some x->(∃ k,(x,k) ∈ scope.names)->(x,NameKind.free) ∈ scope.names
theorem cK {α:Type}:∀ {l:List (Str × α)}{x:Str}{k:α},(l.map (·.1)).Nodup->(x,k) ∈ l->l.lookup x=some k
 | (y,j)::r,x,k,nd,h=>by
  rw [zO,List.nodup_cons] at nd;rcases zT.mp h with h | h
  ·cases h;rw [yO];simp
  ·have ne:x ≠ y:=fun e=>nd.1 (e ▸ List.mem_map_of_mem (f:=(·.1)) h)
   rw [yO];have:(x == y)=false:=by simpa using ne
   rw [this];exact cK nd.2 h
theorem fg {α:Type}:∀ {l:List (Str × α)}{x:Str}{k:α},(x,k) ∈ l->∃ k',l.lookup x=some k'
 | (y,j)::r,x,k,h=>by
  rw [yO];cases hb:x == y with
  | true=>exact ⟨j,rfl⟩
  | false =>
   rcases zT.mp h with h | h
   ·cases h;simp at hb
   ·exact fg h
theorem gg {scope:Scope}{env:Env}{x:Str}{k:NameKind} (h:(relabel scope env).names.lookup x=some k):(x,k) ∈ scope.names\/((x,NameKind.free) ∈ scope.names/\k=.cell):=by
 have h1:=mem_of_lookup h;unfold relabel at h1;obtain ⟨⟨n,j⟩,hm,e⟩:=yD.mp h1;dsimp only at e;split at e
 ·rename_i hc
  cases e;refine .inr ⟨?_,rfl⟩;have:j=.free:=by
   cases j <;> simp at hc <;> rfl
  subst this;exact hm
 ·cases e;exact .inl hm
theorem pP {α:Type}{a b:List (Str × α)}{x:Str} (h:∀ p ∈ a,p.1 ≠ x):(a++b).lookup x=b.lookup x:=by
 induction a with
 | nil=>rfl
 | cons p r ih =>
  obtain ⟨y,j⟩:=p;rw [List.cons_append,yO];have:(x == y)=false:=by
   have:=h (y,j) z7
   simpa using fun e:x=y=>this e.symm
  rw [this];exact ih fun p hp=>h p (zQ _ hp)
section
variable {X:Cx}{N':List Str}{scope:Scope}{cl:List (Str × Addr)}{s:Shared}{H:Hp}{fp:List Addr}{Np:List (Addr × Obj)}{σ:St}
theorem Ai (T:jT X N' scope) (I:Inv X Np σ H s) (hcl:∀ p ∈ cl,X.env.cells.lookup p.1=some p.2) (hfr:∀ x,(x,NameKind.free) ∈ scope.names->∃ c,(x,c) ∈ cl)
  (hf:∀ b ∈ fp,dw X Np H b) (ho:∀ b ∈ fp,∃ o,s.heap.get? b=some o) :
  Inv (cj X N' scope cl s H fp Np) [] (σ++List.replicate (N'.length - X.N.length) none) H { s with heap:=pushCells (s.heap.push { cls:=.type "dict",data:=.dict #[] }) scope.names }:=by
 obtain ⟨own,eo,o1,o2,o3⟩:=ox scope.names (s.heap.objs.size + 1) cl;have keep:∀ b o,s.heap.get? b=some o->(pushCells (s.heap.push { cls:=.type "dict",data:=.dict #[] }) scope.names).get? b=some o:=fun b o e=>pushCells_keeps _ _ b o (zG _ e)
 have clt:∀ x c,(x,c) ∈ cl->c < s.heap.objs.size:=fun x c h=>by
  obtain ⟨v,z⟩:=I.cell x c (hcl _ h);exact z.lt
 -- what a cell of the block is
 have cases_:∀ x c,(own++cl).lookup x=some c->(s.heap.objs.size + 1 <= c/\(x,c) ∈ own)\/X.env.cells.lookup x=some c:=fun x c h=>by
  rcases zZ.mp (mem_of_lookup h) with h | h
  ·exact .inl ⟨(o1 _ h).1,h⟩
  ·exact .inr (hcl _ h)
 have hst:∀ b ∈ fp,b ∉ jp X.stack:=fun b hb z=>by
  rcases zT.mp (I.stkSub b z) with e | e
  ·exact (hf b hb).2.1 e
  ·exact (hf b hb).2.2.1 e
 have okc:CellsOk (pushCells (s.heap.push { cls:=.type "dict",data:=.dict #[] }) scope.names) (s.heap.objs.size + 1) (cellsFrom (s.heap.objs.size + 1) scope.names []):=by
  have q:=cellsFrom_ok scope.names (s.heap.push { cls:=.type "dict",data:=.dict #[] }) (s.heap.objs.size + 1) [] ⟨(fun _ _ hm=>by cases hm),List.Pairwise.nil⟩ (by rw [Heap.size_push];exact zP _);rw [Heap.size_push] at q;exact q
 have eown:cellsFrom (s.heap.objs.size + 1) scope.names []=own:=by
  obtain ⟨own',e',_⟩:=ox scope.names (s.heap.objs.size + 1) [];have gen:∀ (names:List (Str × NameKind)) (n:Nat) (acc:List (Str × Addr)),cellsFrom n names acc=cellsFrom n names []++acc:=by
   intro names
   induction names with
   | nil=>intro n acc;rfl
   | cons p r ih =>
    obtain ⟨name,kind⟩:=p;intro n acc;unfold cellsFrom;split
    ·rw [ih (n + 1) ((name,n)::acc),ih (n + 1) [(name,n)],yN];rfl
    ·exact ih n acc
  have:=gen scope.names (s.heap.objs.size + 1) cl
  rw [eo] at this;exact (List.append_cancel_right this).symm
 have ok:(cj X N' scope cl s H fp Np).Ok:=by
  refine ⟨I.ok.mod,T.kind,I.ok.glob,I.ok.blt,zP _,fun x y c h1 h2=>?_,fun x h=>?_,fun x c h1 h2=>?_,I.ok.hd,I.ok.frames,.inl rfl,fun b hb=>⟨?_,fun x c h=>?_⟩,I.bs,z5 I.ok.bsz I.sz,fun b o e hb=>?_,hst,I.stack,I.stkFree⟩
  ·have h1:(own++cl).lookup x=some c:=eo ▸ h1
   have h2:(own++cl).lookup y=some c:=eo ▸ h2;rcases cases_ x c h1 with ⟨l1,m1⟩ | e1
   ·rcases cases_ y c h2 with ⟨l2,m2⟩ | e2
    ·exact name_of_addr o3 m1 m2
    ·obtain ⟨v,z⟩:=I.cell y c e2
     exact absurd (zJ z.lt (Nat.le_of_succ_le (by first | exact l2 | exact l1))) (yX _)
   ·rcases cases_ y c h2 with ⟨l2,m2⟩ | e2
    ·obtain ⟨v,z⟩:=I.cell x c e1
     exact absurd (zJ z.lt (Nat.le_of_succ_le (by first | exact l2 | exact l1))) (yX _)
    ·exact I.ok.inj x y c e1 e2
  ·show ∃ c,(cellsFrom (s.heap.objs.size + 1) scope.names cl).lookup x=some c
   rw [eo];have fromFree:(x,NameKind.free) ∈ scope.names->∃ c,(own++cl).lookup x=some c:=fun hm=>by
    obtain ⟨c,hc⟩:=hfr x hm;exact fg (zK own hc)
   have fromCell:(x,NameKind.cell) ∈ scope.names->∃ c,(own++cl).lookup x=some c:=fun hm=>by
    obtain ⟨c,hc⟩:=o2 x hm;exact fg (zL cl hc)
   rcases h with h | h
   ·rcases gg h with h | ⟨h,_⟩
    ·exact fromCell h
    ·exact fromFree h
   ·rcases gg h with h | ⟨h,e⟩
    ·exact fromFree h
    ·cases e
  ·have h2:(own++cl).lookup x=some c:=eo ▸ h2
   have hc:scope.names.lookup x=some .cell:=by
    have:(scope.names.lookup x == some NameKind.cell)=true:=h1;simpa using this
   rcases cases_ x c h2 with ⟨l1,m1⟩ | e1
   ·exact Nat.le_of_succ_le l1
   ·-- x is one of the block's own: Nu cell stands ahead
    obtain ⟨c',hc'⟩:=o2 x (mem_of_lookup hc);obtain ⟨c2,hc2⟩:=fg hc';have:(own++cl).lookup x=some c2:=by
     have gen:∀ l:List (Str × Addr),l.lookup x=some c2->(l++cl).lookup x=some c2:=by
      intro l
      induction l with
      | nil=>intro h;cases h
      | cons p r ih =>
       obtain ⟨y,j⟩:=p;intro h;rw [List.cons_append,yO];rw [yO] at h;cases hb:x == y with
       | true=>rw [hb] at h;exact h
       | false=>rw [hb] at h;exact ih h
     exact gen own hc2
    rw [this] at h2;cases h2;exact Nat.le_of_succ_le (o1 _ (mem_of_lookup hc2)).1
  ·obtain ⟨o,e⟩:=ho b hb
   exact zU (yJ e)
  ·have h:(own++cl).lookup x=some c:=eo ▸ h
   obtain ⟨o,e⟩:=ho b hb;have hlt:=yJ e;rcases cases_ x c h with ⟨l1,m1⟩ | e1
   ·intro z
    rw [z] at l1;exact absurd (zJ hlt (Nat.le_of_succ_le l1)) (yX _)
   ·exact (hf b hb).2.2.2.2.1 x c e1
  ·rcases (hf b hb).2.2.2.1 with z | z
   ·exact I.ok.noex b o e z
   ·exact absurd (zJ (yJ e) (z5 I.ok.bsz z)) (yX _)
 refine ⟨ok,rfl,I.bare,Un.kept keep,⟨fun _=>none,(Heap.Ns.new s.heap (.type "dict")).keeps (pushCells_keeps _ _),fun i x v e1 e2 e3=>?_⟩,fun x c h=>?_,I.Ny.fresh (zP _),fun x c h=>?_,fun p hp=>?_,I.Ny.kept keep,?_⟩
 ·-- a name of the code around
  have hlen:=I.len;have hi:i < σ.length:=by
   rcases yS i σ.length with h | h
   ·exact h
   ·rw [z6 h] at e2
    rw [List.getElem?_replicate] at e2;split at e2 <;> cases e2
  rw [zN hi] at e2;have hmem:∃ k,(x,k) ∈ scope.names:=by
   have:∃ k,(relabel scope X.env).names.lookup x=some k:=by
    rcases e3 with h | h | h <;> exact ⟨_,h⟩
   obtain ⟨k,h⟩:=this;rcases gg h with h | ⟨h,_⟩ <;> exact ⟨_,h⟩
  have hfree:=T.hid i x oM e1 hmem;have eX:=T.same i x oM e1 hfree;have kX:=T.free x hfree;obtain ⟨m,hn,hl⟩:=I.loc;obtain ⟨u,ru,lk⟩:=hl i x v eX e2 (by rcases kX with h | h;exact .inr (.inl h);exact .inr (.inr h));refine ⟨u,ru,.inr ⟨?_,?_⟩⟩
  ·-- Nu kind in the block
   have:∃ k,(relabel scope X.env).names.lookup x=some k:=by
    rcases e3 with h | h | h <;> exact ⟨_,h⟩
   obtain ⟨k,h⟩:=this;rcases gg h with h' | ⟨h',e⟩
   ·have e5:=cK T.nd h'
    have e6:=cK T.nd hfree;rw [e5] at e6;cases e6;exact .inr h
   ·subst e;exact .inl h
  ·rcases lk with ⟨k1,_⟩ | ⟨_,c,hc,z⟩
   ·rcases kX with h | h <;> rw [h] at k1 <;> cases k1
   ·refine ⟨c,?_,z.keeps keep⟩
    show (cellsFrom (s.heap.objs.size + 1) scope.names cl).lookup x=some c;rw [eo,pP fun p hp e=>?_]
    ·obtain ⟨c',hc'⟩:=hfr x hfree
     obtain ⟨c2,hc2⟩:=fg hc'
     have:=hcl _ (mem_of_lookup hc2)
     rw [hc] at this;cases this;exact hc2
    ·have e5:=cK T.nd (o1 p hp).2
     rw [e] at e5;have e6:=cK T.nd hfree;rw [e5] at e6;cases e6
 ·have h:(own++cl).lookup x=some c:=eo ▸ h
  rcases cases_ x c h with ⟨l1,m1⟩ | e1
  ·exact ⟨none,(okc.empty x c (eown ▸ m1)).1⟩
  ·obtain ⟨v,z⟩:=I.cell x c e1
   exact ⟨v,z.keeps keep⟩
 ·have h:(own++cl).lookup x=some c:=eo ▸ h
  rcases cases_ x c h with ⟨l1,m1⟩ | e1
  ·exact I.Ny.fresh (Nat.le_of_succ_le l1)
  ·exact I.freeC x c e1
 ·rw [List.append_nil] at hp
  obtain ⟨e,n,ne,nf,d⟩:=I.pin p hp;refine ⟨keep _ _ e,n,zU (yJ e),fun z=>?_,d⟩;rcases zT.mp (I.stkSub p.1 z) with z | z
  ·exact ne z
  ·exact nf z
 ·show (σ++List.replicate (N'.length - X.N.length) none).length=N'.length
  rw [zV,List.length_replicate,I.len]
  have:=T.len
  omega
theorem GB {σ1:St}{H1:Hp}{s1:Shared}{h':Heap}{pins1:List (Addr × Obj)} (I:Inv X Np σ H s) (hf:∀ b ∈ fp,dw X Np H b) (I1:Inv (cj X N' scope cl s H fp Np) pins1 σ1 H1 s1) (hs:Heap.SameBut s.heap.objs.size s1.heap h') :
  Inv X Np σ H1 { s1 with heap:=h' }:=by
 have hC:∀ b o,s.heap.get? b=some o->b ≠ s.heap.objs.size:=fun b o e=>zU (yJ e)
 have u:=I1.base;have u2:Un (jp X.stack) fp H H1 s.heap h':=by
  refine ⟨fun b o e n hb hx=>?_,fun b o e n hb hx=>?_,u.free,fun b o e hx=>?_,u.tups,u.frzs,u.tbls⟩
  ·rw [hs.2 b (hC b o e)];exact u.keep b o e n hb hx
  ·obtain ⟨sl,q⟩:=u.slot b o e n hb hx
   exact ⟨sl,by rw [hs.2 b (hC b o e)];exact q⟩
  ·obtain ⟨o',q⟩:=u.there b o e hx
   exact ⟨o',by rw [hs.2 b (hC b o e)];exact q⟩
 have hCf:H1 s.heap.objs.size=none:=I1.free;refine I.call' (s':={ s1 with heap:=h' }) I1.os u2 (fun b o e=>?_) I1.bare fun b hb=>⟨(hf b hb).2.2.2.1,(hf b hb).2.1,(hf b hb).2.2.2.2.1,(hf b hb).2.2.2.2.2⟩
 refine (I1.Ny b o e).stay (fun c v hc q=>(hs.2 c ?_).trans q) (fun _ q=>q) fun _ _ q=>q
 rintro rfl;rcases hc with z | z
 ·rw [<- z,hCf] at e;cases e
 ·rw [hCf] at z;cases z
def t8 (X:Cx) (ifs:List Expr) (t:TT):Prop :=
 ∀ (Np:List (Addr × Obj)) (s:Shared) (σ:St) (H:Hp) (Q:Bool->Hp->Prop),Inv X Np σ H s->t σ H Q ->
  wpAny (model X.prog X.w) X.A (forIn ifs true fun c r=>if r=true then do let ok <- isTrue c X.env (eval c X.env);pure (ForInStep.yield ok) else pure (ForInStep.yield r)) (TP X Np σ Q) X.xe s
theorem Ct:t8 X [] (fun _ H Q=>Q true H):=fun Np s σ H Q I h=>wpAny_tests_nil ⟨H,I,h⟩
theorem Cs {c:Expr}{t:TT} (h:PT X c t):t8 X [c] t:=fun Np s σ H Q I h'=>wpAny_tests_one (h Np s σ H Q I h')
def DG (k:Nat) (wi:TI) (g:TG) (tt:TT) (te:TE):TE:=fun σ H Q=>wi σ H fun J H1=>∀ p,H1 p=none ->
 ∃ W:Nat->Nat->St->Hp->Prop,(∃ m,W 0 m (σ++List.replicate k none) (af H1 p (.lst [])))/\∀ i m σ' H',W i m σ' H' ->
  (J.stop i H'/\Q (.ref p) H')\/(J.go i H'/\∀ x H2,J.yld i H' x H2->g x σ' H2 fun σ2 H3=>tt σ2 H3 fun ok H4=>if ok=true then
   te σ2 H4 fun y H5=>∃ ys,H5 p=some (.lst ys)/\ys.length < sizeLine/\∃ m',m' < m/\W (i + 1) m' σ2 (af H5 p (.lst (ys++[y])))
   else ∃ m',m' < m/\W (i + 1) m' σ2 H4)
theorem rF {prog:Program}{w:World}{A:Around}{R:Result->Shared->Prop}{s:Shared}{elt target iter:Expr}{ifs:List Expr}{scope:Scope}{pos:Pos}{it acc:Value}{env:Env} (I:Nat->Shared->Prop)
  (turn:∀ n s,I n s->wpAny (model prog w) A (pyNext it) (fun r s₁=>match r with
   | none=>R (.ok .next) s₁
   | some v=>wpAny (model prog w) A (letOwnedTupleGo target it v) (fun _ s₁'=>wpAny (model prog w) A (assign target env v) (fun _ s₂ =>
     wpAny (model prog w) A (forIn ifs true fun c r=>if r=true then do let ok <- isTrue c env (eval c env);pure (ForInStep.yield ok) else pure (ForInStep.yield r)) (fun ok s₃ =>
      if ok=true then wpAny (model prog w) A (eval elt env) (fun x s₄ =>
       wpAny (model prog w) A (call (.builtin "list.append") [acc,x]) (fun _ s₅=>∃ m,m < n/\I m s₅) (fun _ _=>False) s₄) (fun _ _=>False) s₃
      else ∃ m,m < n/\I m s₃) (fun _ _=>False) s₂) (fun _ _=>False) s₁') (fun _ _=>False) s₁) (fun _ _=>False) s)
  (n:Nat) (h:I n s):codeAny (model prog w) A (.compLoop (.ListComp elt [⟨target,iter,ifs,0⟩] scope pos) 0 it acc env) R s:=by
 refine codeAny_loop rfl I (fun n s hI=>?_) n h;show wpAny _ A ((compTurn (.ListComp elt [⟨target,iter,ifs,0⟩] scope pos) 0 it acc env).onRaise (fun x=>do noteFrame x env;theTreesLotGoes x)) _ _ s;refine wpAny_noted ?_;rw [compTurn_list];refine yF (wpAny_standAt (yF (yR (turn n s hI) (fun r s₁ h₁=>?_) fun _ _ h'=>h'.elim)));cases r with
 | none=>exact yG h₁
 | some v =>
  refine yF (yR h₁ (fun _ s₁' h₁'=>?_) fun _ _ h'=>h'.elim);refine yF (yR h₁' (fun _ s₂ h₂=>yF (yR h₂ (fun ok s₃ h₃=>?_) fun _ _ h'=>h'.elim)) fun _ _ h'=>h'.elim);cases ok with
  | false=>exact yG ⟨rfl,h₃⟩
  | true =>
   exact yF (yF (yR h₃ (fun x s₄ h₄=>yF (yR h₄ (fun _ s₅ h₅=>yG (yG ⟨rfl,h₅⟩)) fun _ _ h'=>h'.elim)) fun _ _ h'=>h'.elim))
theorem qQ {elt iter tg:Expr}{ifs:List Expr}{pos:Pos}{g:TG}{tt:TT}{te:TE}{J:It}{it:Addr}{tn:Nat->Heap->Prop}{Q:VK}{E:Value->Shared->Prop}{RR:Value->Addr->Result->Shared->Prop}
  (hc:X.calm=true) (T:jT X N' scope) (hcl:∀ p ∈ cl,X.env.cells.lookup p.1=some p.2) (hfr:∀ x,(x,NameKind.free) ∈ scope.names->∃ c,(x,c) ∈ cl)
  (hg:∀ cl s H fp Np,PG (cj X N' scope cl s H fp Np) tg g) (ht:∀ cl s H fp Np,t8 (cj X N' scope cl s H fp Np) ifs tt) (he:∀ cl s H fp Np,PE (cj X N' scope cl s H fp Np) elt te)
  (I:Inv X Np σ H s) (Tn:jc X.prog X.w X.K tg J fp it tn) (st0:tn 0 s.heap) (hf:∀ b ∈ fp,dw X Np H b)
  (h:∀ p,H p=none->∃ W:Nat->Nat->St->Hp->Prop,(∃ m,W 0 m (σ++List.replicate (N'.length - X.N.length) none) (af H p (.lst [])))/\∀ i m σ' H',W i m σ' H' ->
   (J.stop i H'/\Q (.ref p) H')\/(J.go i H'/\∀ x H2,J.yld i H' x H2->g x σ' H2 fun σ2 H3=>tt σ2 H3 fun ok H4=>if ok=true then
    te σ2 H4 fun y H5=>∃ ys,H5 p=some (.lst ys)/\ys.length < sizeLine/\∃ m',m' < m/\W (i + 1) m' σ2 (af H5 p (.lst (ys++[y])))
    else ∃ m',m' < m/\W (i + 1) m' σ2 H4))
  (hRR:∀ p C s1 H1,Inv X Np σ H1 s1->Q (.ref p) H1->(∃ m,s1.heap.Ns C m)->H1 C=none->s.heap.objs.size <= C->RR (.ref p) C (.ok .next) s1) :
  wpAny (model X.prog X.w) X.A (newList []) (fun acc s₃=>wpAny (model X.prog X.w) X.A (newFunctionEnv scope X.env.globals cl [] X.env.qual none .none (some X.env)) (fun cenv s₄ =>
   codeAny (model X.prog X.w) X.A (.compStart (.ListComp elt [⟨tg,iter,ifs,0⟩] scope pos) 0 (.ref it) acc { cenv with scope:=relabel scope X.env }) (RR acc cenv.locals) s₄) E s₃) E s:=by
 refine wpAny_newObj_type (yz ?_);have hp:H s.heap.objs.size=none:=I.fresh;obtain ⟨W,⟨m0,w0⟩,turn⟩:=h _ hp;have I2:Inv X Np σ (af H s.heap.objs.size (.lst [])) { s with heap:=s.heap.push { cls:=.type "list",data:=.seq ([]:List Value).toArray } }:=Inv.lnew (t':=s.toks) (Nu:=[]) (ys:=[]) I .nil (Nat.zero_le _);have hf2:∀ b ∈ fp,dw X Np (af H s.heap.objs.size (.lst [])) b:=fun b hb=>by
  obtain ⟨o,e,_⟩:=Tn.obj _ _ st0 b hb;exact ⟨by rw [ae (zU (yJ e))];exact (hf b hb).1,(hf b hb).2⟩
 have ho2:∀ b ∈ fp,∃ o,(s.heap.push { cls:=.type "list",data:=.seq ([]:List Value).toArray }:Heap).get? b=some o:=fun b hb=>by
  obtain ⟨o,e,_⟩:=Tn.obj _ _ st0 b hb;exact ⟨o,zG _ e⟩
 have I3:=Ai T I2 hcl hfr hf2 ho2;have st3:tn 0 (pushCells ((s.heap.push { cls:=.type "list",data:=.seq ([]:List Value).toArray }).push { cls:=.type "dict",data:=.dict #[] }) scope.names) :=
  Tn.keep _ _ _ st0 fun b hb o e=>pushCells_keeps _ _ b o (zG _ (zG _ e))
 generalize hs2:({ s with heap:=s.heap.push { cls:=.type "list",data:=.seq ([]:List Value).toArray } }:Shared)=s2 at I2 I3;have hC:s.heap.objs.size <= s2.heap.objs.size:=by rw [<- hs2];exact yW (by show _ < (s.heap.push _).objs.size;rw [Heap.size_push];exact Nat.lt_succ_self _)
 have stat:∀ {H':Hp},(∀ b ∈ fp,H' b=none)->∀ b ∈ fp,dw (cj X N' scope cl s2 (af H s.heap.objs.size (.lst [])) fp Np) [] H' b:=fun {H'} hn b hb=>by
  refine ⟨hn b hb,(I3.ok.exf b hb).1,I3.ok.exfs b hb,.inl hb,(I3.ok.exf b hb).2,fun p hp=>?_⟩;rw [List.append_nil] at hp;exact (hf b hb).2.2.2.2.2 p hp
 have loop:∀ s4,s4=({ s2 with heap:=pushCells (s2.heap.push { cls:=.type "dict",data:=.dict #[] }) scope.names }:Shared) ->
   codeAny (model X.prog X.w) X.A (.compLoop (.ListComp elt [⟨tg,iter,ifs,0⟩] scope pos) 0 (.ref it) (.ref s.heap.objs.size) (cj X N' scope cl s2 (af H s.heap.objs.size (.lst [])) fp Np).env) (RR (.ref s.heap.objs.size) s2.heap.objs.size) s4:=by
  rintro s4 rfl;refine rF (fun n s'=>∃ i σ' H',Inv (cj X N' scope cl s2 (af H s.heap.objs.size (.lst [])) fp Np) [] σ' H' s'/\tn i s'.heap/\(∀ b ∈ fp,H' b=none)/\W i n σ' H') ?_ m0
   ⟨0,_,_,I3,by subst hs2;exact st3,fun b hb=>(hf2 b hb).1,w0⟩
  rintro n s3 ⟨i,σ3,H3,I4,st4,fr4,w4⟩;rcases turn i n σ3 H3 w4 with ⟨stop,qn⟩ | ⟨go,step⟩
  ·refine aE (Tn.done (cj X N' scope cl s2 (af H s.heap.objs.size (.lst [])) fp Np) rfl rfl rfl hc i [] s3 σ3 H3 (fun _ _=>False) I4 (stat fr4) st4 stop) fun r s5 hq0=>?_
   obtain ⟨hr,I5⟩:=hq0;subst hr;obtain ⟨m,hn,_⟩:=I5.loc;exact hRR _ _ s5 H3 (GB I2 hf2 I5 (Heap.SameBut.refl _ _)) qn ⟨m,hn⟩ I5.free hC
  ·refine aE (Tn.item (cj X N' scope cl s2 (af H s.heap.objs.size (.lst [])) fp Np) rfl rfl rfl hc i [] s3 σ3 H3 (fun _ _=>False) I4 (stat fr4) st4 go) fun r s5 hq0=>?_
   obtain ⟨u,hr,h5⟩:=hq0;subst hr;refine aE h5 fun _ s6 hq0=>?_
   obtain ⟨x,H6,I6,r6,y6,st6,fr6⟩:=hq0;have I6':=I6.pinned (stat fr6) (Tn.obj _ _ st6);have again:∀ {σ7:St}{H7:Hp}{s7:Shared}{m':Nat},Inv (cj X N' scope cl s2 (af H s.heap.objs.size (.lst [])) fp Np) ([]++fA fp s6.heap) σ7 H7 s7->m' < n->W (i + 1) m' σ7 H7 ->
     ∃ m,m < n/\∃ i σ' H',Inv (cj X N' scope cl s2 (af H s.heap.objs.size (.lst [])) fp Np) [] σ' H' s7/\tn i s7.heap/\(∀ b ∈ fp,H' b=none)/\W i m σ' H':=fun {σ7 H7 s7 m'} I7 hm w7=>by
    refine ⟨m',hm,i + 1,σ7,H7,I7.unpinned,Tn.keep _ _ _ st6 fun b hb o e=>(I7.pin (b,o) (zK _ (zK _ (cY hb e)))).1,fun b hb=>?_,w7⟩;obtain ⟨o,e,d⟩:=Tn.obj _ _ st6 b hb;exact (I7.pin (b,o) (zK _ (zK _ (cY hb e)))).2.1
   refine aE (hg _ _ _ _ _ _ s6 σ3 H6 x u _ I6' r6 (step x H6 y6)) fun _ s7 hq0=>?_
   obtain ⟨σ7,H7,I7,q7⟩:=hq0;refine aE (ht _ _ _ _ _ _ s7 σ7 H7 _ I7 q7) fun ok s8 hq0=>?_
   obtain ⟨H8,I8,q8⟩:=hq0;cases ok with
   | false =>
    simp only [yB,if_false] at q8 ⊢;obtain ⟨m',hm,w8⟩:=q8;exact again I8 hm w8
   | true =>
    simp only [if_true] at q8 ⊢;refine aE (he _ _ _ _ _ _ s8 σ7 H8 _ I8 q8) fun y s9 hq0=>?_
    obtain ⟨yv,H9,I9,r9,ys,e9,l9,m',hm,w9⟩:=hq0;refine aE (pq _ s9 σ7 H9 (.ref s.heap.objs.size) [yv] (.ref s.heap.objs.size) [y] (fun _ H'=>H'=af H9 s.heap.objs.size (.lst (ys++[yv]))) I9 rfl (.cons r9 .nil) ⟨_,ys,yv,rfl,rfl,e9,l9,rfl⟩) fun _ s10 hq0=>?_
    obtain ⟨_,H10,I10,_,e10⟩:=hq0;subst e10;exact again I10 hm w9
 have st5:tn 0 (pushCells (s2.heap.push { cls:=.type "dict",data:=.dict #[] }) scope.names):=by subst hs2;exact st3
 have aH:=codeAny_compStart_list (loop _ rfl) (Tn.self X.A 0 _ _ (notedBy (model X.prog X.w) X.A (cj X N' scope cl s2 (af H s.heap.objs.size (.lst [])) fp Np).env fun x s'=>RR (.ref s.heap.objs.size) s2.heap.objs.size (.error x) s') st5 (loop _ rfl));subst hs2;exact aH
end
section
variable {X:Cx}{N':List Str}{scope:Scope}{Np:List (Addr × Obj)}{σ:St}{elt iter tg:Expr}{ifs:List Expr}{pos:Pos}{wi:TI}{g:TG}{tt:TT}{te:TE}
theorem qP (T:jT X N' scope):∀ x ∈ scope.names,x.2=.local->scope.names.lookup x.1=some .local:=fun x hx e=>by
 obtain ⟨n,k⟩:=x;cases e;exact cK T.nd hx
theorem Hw (hc:X.calm=true) (T:jT X N' scope) (hi:PI X tg iter wi) (hg:∀ cl s H fp Np,PG (cj X N' scope cl s H fp Np) tg g) (ht:∀ cl s H fp Np,t8 (cj X N' scope cl s H fp Np) ifs tt)
  (he:∀ cl s H fp Np,PE (cj X N' scope cl s H fp Np) elt te) (hs:∀ x,foldedSetIterable iter X.env x=pure x:=by intro _;rfl) :
  PE X (.ListComp elt [⟨tg,iter,ifs,0⟩] scope pos) (DG (N'.length - X.N.length) wi g tt te):=by
 intro Np s σ H Q I h;obtain ⟨cl,hclos,hcl,hfr⟩:=jN (scope:=scope) (env:=X.env) fun x hx=>I.ok.has x (T.free x hx)
 rw [eval_ListComp];refine wpAny_comprehension_free (use:=none) rfl hs hclos T.kind (qP T) (yR (hi Np s σ H _ I h) (fun xv s1 h1=>yR h1 (fun itv s2 h2=>?_) fun _ _ e=>e) fun _ _ e=>e);obtain ⟨it,fp,tn,J,H2,rfl,I2,Tn,st2,f2,R⟩:=h2;refine qQ (Q:=Q) (RR:=fun acc C=>compPost (model X.prog X.w) X.A X.xe none (EP X Np σ Q) acc C) hc T hcl hfr hg ht he I2 Tn st2 f2 R ?_;rintro p C s3 H3 I3 q ⟨m,hn⟩ hC hle;refine ⟨m,hn,fun h' hs'=>⟨.ref p,H3,?_,rfl,q⟩⟩;refine I3.turned (t':=s3.toks) (it:=C) (fun b o hb e=>(hs'.2 b hb).trans e) hC ?_ (.inr (z5 I2.sz hle)) (fun x c e=>?_) fun p hp=>?_
 ·exact Ne.symm (zU (zJ I2.lt hle))
 ·obtain ⟨v,z⟩:=I2.cell x c e
  exact zU (zJ z.lt hle)
 ·exact zU (zJ (yJ (I2.pin p hp).1) hle)
theorem vY {i:Nat}{y:Str}{py spos:Pos} (hN:X.N.Nodup) (hiN:X.N[i]?=some y) (hx:Loc X.env.scope y) (hsw:swapsWith (.ListComp elt [⟨tg,iter,ifs,0⟩] scope pos) (some (.Name y py)) spos.line X.env=pure true)
  (hc:X.calm=true) (T:jT X N' scope) (hi:PI X tg iter wi) (hg:∀ cl s H fp Np,PG (cj X N' scope cl s H fp Np) tg g) (ht:∀ cl s H fp Np,t8 (cj X N' scope cl s H fp Np) ifs tt)
  (he:∀ cl s H fp Np,PE (cj X N' scope cl s H fp Np) elt te) (hs:∀ x,foldedSetIterable iter X.env x=pure x:=by intro _;rfl) (hf:X.fn y=true\/X.env.scope.names.lookup y=some .local:=by first | exact .inl rfl | exact .inr rfl | assumption) :
  PS X (.Assign [.Name y py] (.ListComp elt [⟨tg,iter,ifs,0⟩] scope pos) spos) (ui (DG (N'.length - X.N.length) wi g tt te) (nY i)):=by
 intro Np s σ H D I h;obtain ⟨cl,hclos,hcl,hfr⟩:=jN (scope:=scope) (env:=X.env) fun x hx=>I.ok.has x (T.free x hx)
 rw [exec_Assign_Name_used _ _ _ _ hsw];refine yF (wpAny_standAt (yF ?_));show wpAny _ X.A (do let _ <- comprehension (.ListComp elt [⟨tg,iter,ifs,0⟩] scope pos) scope X.env _ (newList []) false (eval iter X.env) (some (assign (.Name y py) X.env))) _ _ s;refine yF (yR (wpAny_comprehension_free (use:=some (assign (.Name y py) X.env)) (Q:=fun _ s'=>SP X Np D .next s') rfl hs hclos T.kind (qP T)
  (yR (hi Np s σ H _ I h) (fun xv s1 h1=>yR h1 (fun itv s2 h2=>?_) fun _ _ e=>e) fun _ _ e=>e)) (fun _ s' hq=>yG (yG hq)) fun _ _ e=>e)
 obtain ⟨it,fp,tn,J,H2,rfl,I2,Tn,st2,f2,R⟩:=h2;refine qQ (Q:=fun x H1=>nY i x σ H1 D.nx) (RR:=fun acc C=>compPost (model X.prog X.w) X.A X.xe (some (assign (.Name y py) X.env)) (fun _ s'=>SP X Np D .next s') acc C) hc T hcl hfr hg ht he I2 Tn st2 f2 R ?_;rintro p C s3 H3 I3 q ⟨m,hn⟩ hC hle;have hCL:C ≠ X.env.locals:=Ne.symm (zU (zJ I2.lt hle));have hCc:∀ x c,X.env.cells.lookup x=some c->c ≠ C:=fun x c e=>by
  obtain ⟨v,z⟩:=I2.cell x c e;exact zU (zJ z.lt hle)
 show wpAny _ X.A (assign (.Name y py) X.env (.ref p)) _ _ _;refine wpAny_assign_Name (pb (v:=.ref p) I3 hN hiN hx rfl (fun s4 I4 hq0=>?_) hf);obtain ⟨a,sb,ha⟩:=hq0;have hne:C ≠ a:=by
  rcases ha with e | e
  ·rw [e];exact hCL
  ·exact (hCc _ _ e).symm
 refine ⟨m,hn.sameBut sb hne,fun h' hs'=>⟨_,H3,?_,q⟩⟩;refine I4.turned (t':=s4.toks) (it:=C) (fun b o hb e=>(hs'.2 b hb).trans e) hC hCL (.inr (z5 I2.sz hle)) hCc fun p hp=>?_
 exact zU (zJ (yJ (I2.pin p hp).1) hle)
end
end L2
namespace DD
open PySem PySem.Spec PyProof.Rows L2
section
variable {X:Cx}{Np:List (Addr × Obj)}{σ:St}{H:Hp}{s:Shared}{F:Addr->Prop}
theorem obj_list (I:L2.Inv X Np σ H s) {a:Addr}{vs:List V} (h:bA X.K H a vs):∃ Nu o n,Vals vs Nu/\s.heap.get? a=some o/\o.cls=.type "list"/\o.data=.seq Nu.toArray n:=by
 obtain ⟨Nu,r,⟨o,n,e,c,_,d⟩,_⟩:=I.list h;exact ⟨Nu,o,n,r,e,c,d⟩
theorem obj_tup (I:L2.Inv X Np σ H s) {a:Addr}{vs:List V} (h:fR X.K H a vs):∃ Nu o n,Vals vs Nu/\s.heap.get? a=some o/\o.cls=.type "tuple"/\o.data=.seq Nu.toArray n:=by
 obtain ⟨Nu,r,⟨o,e,c,n,d⟩,_⟩:=I.tuple h;exact ⟨Nu,o,n,r,e,c,d⟩
end
noncomputable def pyOk (p q:PyData):Bool:=p.canLay0 && q.canLay0 && decide (min p.depth q.depth <= 50)
end DD
namespace L2
open PySem PySem.Spec PyProof.Rows
def JZ (K:Frag) (a b:Addr):It :=
 ⟨fun i H=>∃ xs ys x y,bA K H a xs/\bA K H b ys/\xs[i]?=some x/\ys[i]?=some y,
  fun i H x H'=>∃ p u w,(∀ xs,bA K H a xs->xs[i]?=some u)/\(∀ ys,bA K H b ys->ys[i]?=some w)/\H p=none/\H'=af H p (.tup [u,w])/\x=.ref p,
  fun i H=>∃ xs ys,bA K H a xs/\bA K H b ys/\(xs.length <= i\/ys.length <= i)⟩
theorem Inv.turnT {X:Cx}{Np:List (Addr × Obj)}{σ:St}{H:Hp}{s:Shared}{h':Heap}{ch:List Addr}{u w:V}{x y:Value} (I:Inv X Np σ H s) (hf:∀ b ∈ ch,dw X Np H b) (ru:RelV u x) (rw':RelV w y)
  (hk:∀ c o,c ∉ ch->s.heap.get? c=some o->h'.get? c=some o) (hT:IsPair h' s.heap.objs.size x y) (hth:∀ b ∈ ch,∃ o,h'.get? b=some o):Inv X Np σ (af H s.heap.objs.size (.tup [u,w])) { s with heap:=h' }:=by
 have hfr:H s.heap.objs.size=none:=I.fresh;have nch:∀ b o,H b=some o->b ∉ ch:=fun b o e hb=>by rw [(hf b hb).1] at e;cases e
 have ne:∀ b o,s.heap.get? b=some o->b ≠ s.heap.objs.size:=fun b o e=>zU (yJ e)
 refine I.step (g':=s.gens) (d':=s.drawn) (t':=s.toks) (ch:=ch) (fun b hb=>⟨(hf b hb).2.2.2.1,(hf b hb).2.1,(hf b hb).2.2.2.2.1,(hf b hb).2.2.2.2.2⟩) (fun b o _ _ hc e _=>hk b o hc e)
  (fun b o _ _ hc e _=>⟨o.slots,hk b o hc e⟩) (fun b o _ e n=>by rw [ae (ne b o e)];exact n) (fun b o hc e=>⟨o,hk b o hc e⟩) (fun b xs e=>by rw [ae (a0 e hfr)];exact e)
  (fun b o v e=>by rw [ae (a0 e hfr)];exact e) (fun b ps e=>⟨#[],by rw [ae (a0 e hfr),e];simp⟩) (fun m hm=>?_) (fun b o e=>?_) I.bare
 ·obtain ⟨o,es,ep,ho,r⟩:=hm
  exact ⟨o,es,ep,hk _ o (fun z=>(hf _ z).2.1 rfl) ho,r⟩
 ·by_cases hb:b=s.heap.objs.size
  ·subst hb
   rw [aw] at e;cases e;refine ⟨by show 2 <= sizeLine;decide,[x,y],.cons ru (.cons rw' .nil),⟨_,hT,rfl,_,rfl⟩⟩
  ·rw [ae hb] at e
   refine (I.Ny b o e).stay (fun c v hc q=>hk c v ?_ q) (fun c q=>by rw [ae (a0 q hfr)];exact q) fun c xs q=>by rw [ae (a0 q hfr)];exact q
   rcases hc with rfl | hc
   ·exact nch _ _ e
   ·exact nch _ _ hc
theorem Inv.turnN {X:Cx}{Np:List (Addr × Obj)}{σ:St}{H:Hp}{s:Shared}{h':Heap}{ch:List Addr} (I:Inv X Np σ H s) (hf:∀ b ∈ ch,dw X Np H b)
  (hk:∀ c o,c ∉ ch->s.heap.get? c=some o->h'.get? c=some o):Inv X Np σ H { s with heap:=h' }:=by
 have nch:∀ b o,H b=some o->b ∉ ch:=fun b o e hb=>by rw [(hf b hb).1] at e;cases e
 refine I.step (g':=s.gens) (d':=s.drawn) (t':=s.toks) (ch:=ch) (fun b hb=>⟨(hf b hb).2.2.2.1,(hf b hb).2.1,(hf b hb).2.2.2.2.1,(hf b hb).2.2.2.2.2⟩) (fun b o _ _ hc e _=>hk b o hc e)
  (fun b o _ _ hc e _=>⟨o.slots,hk b o hc e⟩) (fun b o _ e n=>n) (fun b o hc e=>⟨o,hk b o hc e⟩) (fun b xs e=>e)
  (fun b o v e=>e) (fun b ps e=>⟨#[],by rw [e];simp⟩) (fun m hm=>?_) (fun b o e=>?_) I.bare
 ·obtain ⟨o,es,ep,ho,r⟩:=hm
  exact ⟨o,es,ep,hk _ o (fun z=>(hf _ z).2.1 rfl) ho,r⟩
 ·refine (I.Ny b o e).stay (fun c v hc q=>hk c v ?_ q) (fun c q=>q) fun c xs q=>q
  rcases hc with rfl | hc
  ·exact nch _ _ e
  ·exact nch _ _ hc
theorem cS {X:Cx}{Np:List (Addr × Obj)}{σ:St}{H:Hp}{s:Shared}{a b:Addr}{xs:List V} (I:Inv X Np σ H s) (h:bA X.K H a xs) (hb:dw X Np H b) (hob:∃ o,s.heap.get? b=some o/\o.cls ≠ .type "list"):a ≠ b:=by
 rintro rfl;obtain ⟨Nu,r,⟨o,n,e,c,_⟩,_⟩:=I.list h;obtain ⟨o',e',c'⟩:=hob;rw [e] at e';cases e';exact c' c
theorem xE {P:Program}{w:World}{K:Frag}{elts:List Expr}{x1:Nat}{tpos:Pos} (a b z TI TO i1 i2:Addr) (D1:TI ≠ z) (D2:TO ≠ z) (D3:i1 ≠ z) (D4:i2 ≠ z) (D5:TI ≠ TO) (D6:TI ≠ i1) (D7:TI ≠ i2) (D8:TO ≠ i1) (D9:TO ≠ i2) (D10:i1 ≠ i2) :
  jc P w K (.Tuple elts x1 tpos) (JZ K a b) [z,TI,TO,i1,i2] z (fun i h=>IsZip h z TI TO .none/\IsPair h TI (.ref i1) (.ref i2)/\(∃ u v,IsPair h TO u v)/\h.IsListIter i1 a i/\h.IsListIter i2 b i) where
 mem:=by simp
 obj:=fun i h hq0 c hc=>by
  obtain ⟨hz,hTI,⟨u,v,hTO⟩,⟨o1,e1,c1,d1⟩,⟨o2,e2,c2,d2⟩⟩:=hq0;simp only [zT,zX,or_false] at hc;rcases hc with rfl | rfl | rfl | rfl | rfl
  ·exact ⟨_,hz,fun v z=>nomatch z⟩
  ·exact ⟨_,hTI,fun v z=>nomatch z⟩
  ·exact ⟨_,hTO,fun v z=>nomatch z⟩
  ·exact ⟨_,e1,fun v z=>by rw [d1] at z;cases z⟩
  ·exact ⟨_,e2,fun v z=>by rw [d2] at z;cases z⟩
 keep:=fun i h h' ⟨hz,hTI,⟨u,v,hTO⟩,h1,h2⟩ k=>⟨k z (by simp) _ hz,k TI (by simp) _ hTI,⟨u,v,k TO (by simp) _ hTO⟩,h1.at fun o e=>k i1 (by simp) o e,h2.at fun o e=>k i2 (by simp) o e⟩
 item:=by
  rintro X hP hw hK hc i Np s σ H E I hf ⟨hz,hTI,⟨ua,ub,hTO⟩,h1,h2⟩ ⟨xs,ys,x,y,hq1,hq2,hx,hy⟩;subst hP hw hK;obtain ⟨its1,rv1,p1,_⟩:=I.list hq1;obtain ⟨its2,rv2,p2,_⟩:=I.list hq2;obtain ⟨u1,hu1,ru1⟩:=rv1.get hx;obtain ⟨u2,hu2,ru2⟩:=rv2.get hy;have ob:∀ c ∈ [z,TO,i1,i2],∃ o,s.heap.get? c=some o/\o.cls ≠ .type "list":=fun c hc=>by
   obtain ⟨o1,e1,c1,d1⟩:=id h1;obtain ⟨o2,e2,c2,d2⟩:=id h2;simp only [zT,zX,or_false] at hc;rcases hc with rfl | rfl | rfl | rfl
   ·exact ⟨_,hz,by simp⟩
   ·exact ⟨_,hTO,by simp⟩
   ·exact ⟨_,e1,by rw [c1];simp⟩
   ·exact ⟨_,e2,by rw [c2];simp⟩
  have na:∀ c ∈ [z,TO,i1,i2],a ≠ c:=fun c hc=>cS I hq1 (hf c (by simp at hc ⊢;rcases hc with h | h | h | h <;> simp [h])) (ob c hc)
  have nb:∀ c ∈ [z,TO,i1,i2],b ≠ c:=fun c hc=>cS I hq2 (hf c (by simp at hc ⊢;rcases hc with h | h | h | h <;> simp [h])) (ob c hc)
  have D:ZipApart z TI TO i1 i2 a b:=⟨D1,D2,D3,D4,D5,D6,D7,D8,D9,D10,na z (by simp),na TO (by simp),na i1 (by simp),na i2 (by simp),nb z (by simp),nb TO (by simp),nb i1 (by simp),nb i2 (by simp)⟩;refine wpAny_pyNext_zip_item D hz hTI hTO h1 h2 p1.isList p2.isList (x:=u1) (y:=u2) (by simpa using hu1) (by simpa using hu2) fun h' a1 a2 a3 a4 a5 a6 hk=>?_
  have hf4:∀ c ∈ [z,TO,i1,i2],dw X Np H c:=fun c hc=>hf c (by simp at hc ⊢;rcases hc with h | h | h | h <;> simp [h])
  have hk':∀ c o,c ∉ [z,TO,i1,i2]->s.heap.get? c=some o->h'.get? c=some o:=fun c o hc e=>hk c o (fun q=>hc (by simp [q])) (fun q=>hc (by simp [q])) (fun q=>hc (by simp [q])) (fun q=>hc (by simp [q])) e
  have I1:Inv X Np σ (af H s.heap.objs.size (.tup [x,y])) { s with heap:=h' }:=I.turnT hf4 ru1 ru2 hk' a5 (fun c hc=>by
   obtain ⟨o1,e1,_⟩:=id a3;obtain ⟨o2,e2,_⟩:=id a4;simp only [zT,zX,or_false] at hc;rcases hc with rfl | rfl | rfl | rfl
   ·exact ⟨_,a1⟩
   ·exact ⟨_,a2⟩
   ·exact ⟨_,e1⟩
   ·exact ⟨_,e2⟩)
  have hfr:H s.heap.objs.size=none:=I.fresh;refine ⟨_,rfl,wpAny_letOwnedTupleGo_zip (s:={ s with heap:=h' }) a1 fun h'' z1 sb=>?_⟩;have hf5:∀ c ∈ [z,TI,TO,i1,i2],(af H s.heap.objs.size (.tup [x,y])) c=none:=fun c hc=>by
   have lt:c < s.heap.objs.size:=by
    obtain ⟨o1,e1,_⟩:=id h1;obtain ⟨o2,e2,_⟩:=id h2;simp only [zT,zX,or_false] at hc;rcases hc with rfl | rfl | rfl | rfl | rfl
    ·exact yJ hz
    ·exact yJ hTI
    ·exact yJ hTO
    ·exact yJ e1
    ·exact yJ e2
   rw [ae (zU lt)];exact (hf c hc).1
  have I2:Inv X Np σ (af H s.heap.objs.size (.tup [x,y])) { s with heap:=h'' }:=Inv.turnN (s:={ s with heap:=h' }) (ch:=[z]) I1 (fun c hc=>by
   have:c=z:=by simpa using hc
   subst this;exact ⟨hf5 c (by simp),(hf c (by simp)).2⟩) (fun c o hc e=>(sb.2 c (fun q=>hc (by simp [q]))).trans e)
  refine ⟨.ref s.heap.objs.size,_,I2,rfl,⟨_,x,y,fun zs hzs=>by rw [I.list_inj hzs hq1];exact hx,fun zs hzs=>by rw [I.list_inj hzs hq2];exact hy,hfr,rfl,rfl⟩,⟨z1,?_,⟨u1,u2,?_⟩,?_,?_⟩,hf5⟩
  ·exact (sb.2 TI D1).trans (hk' TI _ (by simp [D1,D5,D6,D7]) hTI)
  ·exact (sb.2 TO D2).trans a2
  ·exact a3.at fun o e=>(sb.2 i1 D3).trans e
  ·exact a4.at fun o e=>(sb.2 i2 D4).trans e
 done:=by
  rintro X hP hw hK hc i Np s σ H E I hf ⟨hz,hTI,⟨ua,ub,hTO⟩,h1,h2⟩ ⟨xs,ys,hq1,hq2,hend⟩;subst hP hw hK;obtain ⟨its1,rv1,p1,_⟩:=I.list hq1;obtain ⟨its2,rv2,p2,_⟩:=I.list hq2;have ob:∀ c ∈ [z,TO,i1,i2],∃ o,s.heap.get? c=some o/\o.cls ≠ .type "list":=fun c hc=>by
   obtain ⟨o1,e1,c1,d1⟩:=id h1;obtain ⟨o2,e2,c2,d2⟩:=id h2;simp only [zT,zX,or_false] at hc;rcases hc with rfl | rfl | rfl | rfl
   ·exact ⟨_,hz,by simp⟩
   ·exact ⟨_,hTO,by simp⟩
   ·exact ⟨_,e1,by rw [c1];simp⟩
   ·exact ⟨_,e2,by rw [c2];simp⟩
  have hf4:∀ c ∈ [z,TO,i1,i2],dw X Np H c:=fun c hc=>hf c (by simp at hc ⊢;rcases hc with h | h | h | h <;> simp [h])
  have na:∀ c ∈ [z,TO,i1,i2],a ≠ c:=fun c hc=>cS I hq1 (hf4 c hc) (ob c hc)
  have nb:∀ c ∈ [z,TO,i1,i2],b ≠ c:=fun c hc=>cS I hq2 (hf4 c hc) (ob c hc)
  have D:ZipApart z TI TO i1 i2 a b:=⟨D1,D2,D3,D4,D5,D6,D7,D8,D9,D10,na z (by simp),na TO (by simp),na i1 (by simp),na i2 (by simp),nb z (by simp),nb TO (by simp),nb i1 (by simp),nb i2 (by simp)⟩;have hl1:=rv1.length;have hl2:=rv2.length;refine wpAny_pyNext_zip_end (I.ok.hd hc) D hz hTI hTO h1 h2 p1.isList p2.isList (by rcases hend with h | h;(left;simp;omega);(right;simp;omega)) fun h' hk=>⟨rfl,?_⟩
  exact I.turnN hf4 fun c o hc e=>hk c o (fun q=>hc (by simp [q])) (fun q=>hc (by simp [q])) (fun q=>hc (by simp [q])) (fun q=>hc (by simp [q])) e
 self:=fun _ _ _ _ _ ⟨hz,_⟩ h=>wpAny_pyIter_zip hz h
def K1 (K:Frag) (ta:TA):TI:=fun σ H R=>ta σ H fun vs H1=>∃ a b,vs=[.ref a,.ref b]/\(∃ xs,bA K H1 a xs)/\(∃ ys,bA K H1 b ys)/\R (JZ K a b) H1
theorem EL {X:Cx}{elts:List Expr}{x1:Nat}{tpos:Pos}{a b:Expr}{ta:TA}{p pos:Pos} (hg:Gl X "zip") (hm:X.mg "zip"=none) (ha:PA X [a,b] ta) (hs:starEach [a,b] X.env=[(false,eval a X.env),(false,eval b X.env)]:=by rfl) (hs2:starEach [b] X.env=[(false,eval b X.env)]:=by rfl) :
  PI X (.Tuple elts x1 tpos) (.Call (.Name "zip" p) [a,b] [] pos) (K1 X.K ta):=by
 intro Np s σ H R I h;refine Call_ (cF I hg hm boot_zip (PyProof.Rows.callWith_type1 (aE (ha pos Np s σ H _ I h) fun us s1 ⟨vs,H1,I1,r1,q1⟩=>?_) (by rw [hs,hs2]) (by rw [hs2];rfl)));obtain ⟨l1,l2,e,⟨xs,hq1⟩,⟨ys,hq2⟩,q⟩:=q1;subst e;cases r1 with
 | cons r rr =>
  cases rr with
  | cons r' rr =>
   cases rr;cases r;cases r';obtain ⟨its1,rv1,p1,_⟩:=I1.list hq1;obtain ⟨its2,rv2,p2,_⟩:=I1.list hq2;refine call_zip_2 p1.isList p2.isList fun h' hz hTI hTO h1 h2 hsz hk=>?_
   have I2:Inv X Np σ H1 { s1 with heap:=h' }:=I1.kept (t':=s1.toks) hk;refine wpAny_pyIter_zip (s:={ s1 with heap:=h' }) hz ?_;have lt:∀ k:Nat,s1.heap.objs.size <= s1.heap.objs.size + k:=fun k=>Nat.le_add_right _ _
   refine ⟨_,[s1.heap.objs.size + 4,s1.heap.objs.size + 2,s1.heap.objs.size + 3,s1.heap.objs.size,s1.heap.objs.size + 1],_,_,H1,rfl,I2,
    xE l1 l2 (s1.heap.objs.size + 4) (s1.heap.objs.size + 2) (s1.heap.objs.size + 3) s1.heap.objs.size (s1.heap.objs.size + 1) ?_ ?_ ?_ ?_ ?_ ?_ ?_ ?_ ?_ ?_,⟨hz,hTI,⟨_,_,hTO⟩,h1,h2⟩,fun c hc=>?_,q⟩
   all_goals first
    | (show _ + _ ≠ _ + _;intro z;exact absurd (Nat.add_left_cancel z) dC)
    | (show _ ≠ _ + _;intro z;exact absurd z (by have:=Nat.lt_add_of_pos_right (n:=s1.heap.objs.size) (k:=4) dC;have:=Nat.lt_add_of_pos_right (n:=s1.heap.objs.size) (k:=1) dC;exact zU (by assumption)))
    | (show _ + _ ≠ _;exact Nat.ne_of_gt (Nat.lt_add_of_pos_right dC))
    | skip
   have hle:s1.heap.objs.size <= c:=by
    simp only [zT,zX,or_false] at hc;rcases hc with rfl | rfl | rfl | rfl | rfl
    ·exact lt 4
    ·exact lt 2
    ·exact lt 3
    ·exact zP _
    ·exact lt 1
   obtain ⟨f0,f1,f2,f3,f4,f5⟩:=I1.fpOk hle (I1.Ny.fresh hle);exact ⟨f0,f1,f2,f3,f4,f5⟩
theorem zz {X:Cx}:Aq X (fun o i H Q=>∃ p xs k v,o=.ref p/\i=.int k/\bA X.K H p xs/\fM xs k=some v/\Q v H):=by
 rintro Np s σ H o i ov iv Q I ro ri ⟨p,xs,k,v,e1,e2,hq,he,q⟩;subst e1 e2;cases ro;obtain ⟨t,rfl⟩:=ri;obtain ⟨Nu,r,pl,hz⟩:=I.list hq;obtain ⟨j,h1,h2,h3,h4,h5⟩:=lY he;obtain ⟨w,ew,rw'⟩:=r.get h2;have hl:=r.length;have hn:=gp;have aH:EP X Np σ Q w s:=⟨v,H,I,rw',q⟩;by_cases h0:0 <= k
 ·have hj:k.toNat=j:=by
   rw [seqIndex_of h0 h5] at h1;exact yE h1
  exact wpAny_getItem_list pl.isList h0 oM (by rw [hj];simpa using ew) aH
 ·have hj:(k + (Nu.toArray.size:Int)).toNat=j:=by
   rw [seqIndex_neg oM h4] at h1;rw [zI,<- hl];exact yE h1
  exact wpAny_getItem_list_neg pl.isList oM (by rw [zI] <;> omega) oM (by rw [hj];simpa using ew) aH
end L2
namespace DD
open PySem PySem.Spec PyProof.Rows L2
section
variable {X:Cx}{e o a b:Expr}{es:List Expr}{p q:DP}{c c':DE}{pos apos cpos:Pos}{i:Nat}{js:List DP}
theorem cnt_vals {h:Heap}{q:PyData}{e:Value->Bool} (he:∀ v p as,Reads h v p as->e v=PyData.eqv p q):∀ {vs:List Value}{ps:List PyData}{as:List Addr},ReadsAll h vs ps as->vs.countP e=ps.countP fun r=>PyData.eqv r q:=by
 intro vs
 induction vs with
 | nil=>intro ps as h;cases h;rfl
 | cons v vs ih =>
  intro ps as h;cases h with
  | cons r rs=>rw [List.countP_cons,List.countP_cons,ih rs,he _ _ _ r]
theorem reads_each {h:Heap}:∀ {vs:List Value}{ps:List PyData}{as:List Addr},ReadsAll h vs ps as->∀ v ∈ vs,∃ p as',p ∈ ps/\Reads h v p as':=by
 intro vs
 induction vs with
 | nil=>intro ps as h v hv;cases hv
 | cons v vs ih =>
  intro ps as h v hv;cases h with
  | cons r rs =>
   rcases zT.mp hv with rfl | hv
   ·exact ⟨_,_,z7,r⟩
   ·obtain ⟨p,as',hp,h⟩:=ih rs v hv
    exact ⟨p,as',zQ _ hp,h⟩
noncomputable def minL:List Int->Option Int
 | []=>none
 | x::xs=>some (xs.foldl (fun a b=>if b < a then b else a) x)
theorem FA:∀ (xs:List Int) (x:Int),(xs.foldl (fun a b=>if b < a then b else a) x ∈ x::xs)/\∀ a ∈ x::xs,xs.foldl (fun a b=>if b < a then b else a) x <= a
 | [],x=>⟨by simp,by simp⟩
 | y::xs,x=>by
  obtain ⟨h1,h2⟩:=FA xs (if y < x then y else x);rw [List.foldl_cons];constructor
  ·rcases zT.mp h1 with h | h
   ·rw [h];split <;> simp
   ·simp [h]
  ·intro a ha
   have hm:=h2 (if y < x then y else x) (by simp);have hx:(if y < x then y else x) <= x:=by split <;> omega
   have hy:(if y < x then y else x) <= y:=by split <;> omega
   rcases zT.mp ha with rfl | ha
   ·exact Int.le_trans hm hx
   ·rcases zT.mp ha with rfl | ha
    ·exact Int.le_trans hm hy
    ·exact h2 a (by simp [ha])
theorem minL_eq {ns:List Int}{m M:Int} (h:minL ns=some m) (h1:M ∈ ns) (h2:∀ a ∈ ns,M <= a):M=m:=by
 cases ns with
 | nil=>cases h1
 | cons x xs =>
  cases h;obtain ⟨g1,g2⟩:=FA xs x;have a1:=g2 M h1;have a2:=h2 _ g1;omega
end
section
variable {X:Cx}{e o a b:Expr}{es:List Expr}{p q:DP}{c c':DE}{pos apos cpos:Pos}{i:Nat}{js:List DP}
theorem any_vals {h:Heap}{q:PyData}{e:Value->Bool} (he:∀ v p as,Reads h v p as->e v=PyData.eqv p q):∀ {vs:List Value}{ps:List PyData}{as:List Addr},ReadsAll h vs ps as->vs.any e=ps.any fun r=>PyData.eqv r q
 | _,_,_,.nil=>rfl
 | _,_,_,.cons r rs=>by rw [List.any_cons,List.any_cons,any_vals he rs,he _ _ _ r]
end
end DD
namespace L2
open PySem PySem.Spec PyProof.Rows
def xw (K:Frag) (a:Addr) (n0:Nat):It :=
 ⟨fun i H=>∃ xs x,bA K H a xs/\xs[i]?=some x,
  fun i H x H'=>∃ p u,(∀ xs,bA K H a xs->xs[i]?=some u)/\H p=none/\H'=af H p (.tup [.int ((n0 + i:Nat):Int),u])/\x=.ref p,
  fun i H=>∃ xs,bA K H a xs/\xs.length=i⟩
theorem pD {prog:Program}{w:World}{A:Around} (hh:A.handled=none) (it l:Addr) (hne:l ≠ it) (items:Array Value) (n0:Nat) :
  Draws prog w A it [it,l] (n0 + items.size) (fun i v=>n0 <= i/\items[i - n0]?=some v) (fun i h=>n0 <= i/\h.IsListIter it l (i - n0)/\h.IsList l items) where
 live:=fun _ _ q=>by obtain ⟨o,ho,_⟩:=q.2.1;exact ⟨o,ho⟩
 frame:=fun _ _ _ q hk=>⟨q.1,q.2.1.at fun o e=>hk it (by simp) o e,q.2.2.at fun o e=>hk l (by simp) o e⟩
 item:=fun i s Q E hi q hQ=>by
  have hl:i - n0 < items.size:=by have:=q.1;omega
  refine wpAny_nextOf_list_item q.2.1 q.2.2 (x:=items[i - n0]) (by simp [hl]) fun h' hit' hs'=>?_
  refine hQ _ h' s.toks ⟨q.1,by simp [hl]⟩ ⟨Nat.le_succ_of_le q.1,?_,q.2.2.extBut hs'.extBut hne⟩ hs';rw [show i + 1 - n0=i - n0 + 1 by have:=q.1;omega];exact hit'
 done:=fun s Q E q hE=>wpAny_nextOf_list_end hh q.2.1 q.2.2 (by simp) hE
theorem vD {P:Program}{w:World}{K:Frag}{elts:List Expr}{x1:Nat}{tpos:Pos} (a z it:Addr) (n0:Nat) (D:z ≠ it) :
  jc P w K (.Tuple elts x1 tpos) (xw K a n0) [z,it] z (fun i h=>(∃ old,IsEnum h z it ((n0 + i:Nat):Int) old)/\h.IsListIter it a i) where
 mem:=by simp
 obj:=fun i h hq0 c hc=>by
  obtain ⟨⟨old,hz⟩,⟨o1,e1,c1,d1⟩⟩:=hq0;simp only [zT,zX,or_false] at hc;rcases hc with rfl | rfl
  ·exact ⟨_,hz,fun v z=>nomatch z⟩
  ·exact ⟨_,e1,fun v z=>by rw [d1] at z;cases z⟩
 keep:=fun i h h' ⟨⟨old,hz⟩,h1⟩ k=>⟨⟨old,k z (by simp) _ hz⟩,h1.at fun o e=>k it (by simp) o e⟩
 item:=by
  rintro X hP hw hK hc i Np s σ H E I hf ⟨⟨old,hz⟩,h1⟩ ⟨xs,x,hq,hx⟩;subst hP hw hK;obtain ⟨Nu,rv,p1,_⟩:=I.list hq;obtain ⟨u,hu,ru⟩:=rv.get hx;have na:a ≠ z:=cS I hq (hf z (by simp)) ⟨_,hz,by simp⟩;have nb:a ≠ it:=cS I hq (hf it (by simp)) (by obtain ⟨o1,e1,c1,d1⟩:=id h1;exact ⟨_,e1,by rw [c1];simp⟩);have hil:i < Nu.length:=(zB.mp hu).1;refine wpAny_pyNext_enum_itemD (pD (A:=X.A.in1) (I.ok.hd hc) it a nb Nu.toArray n0) hz ⟨Nat.le_add_right _ _,by rw [Nat.add_sub_cancel_left];exact h1,p1.isList⟩ (by simp [hil]) D (by simp [D,na.symm]) fun v h' tk hv ho hst hT hsz hk=>?_
  have ev:v=u:=by
   have h2:=hv.2;rw [Nat.add_sub_cancel_left] at h2;simp only [List.getElem?_toArray] at h2;rw [hu] at h2;exact (yE h2).symm
  subst ev;have hf2:∀ c ∈ [z,it],dw X Np H c:=fun c hc=>hf c hc
  have hk':∀ c o,c ∉ [z,it]->s.heap.get? c=some o->h'.get? c=some o:=fun c o hc e=>hk c o (fun q=>hc (by simp [q])) (fun q=>hc (by simp [q])) e
  have I0:Inv X Np σ (af H s.heap.objs.size (.tup [.int ((n0 + i:Nat):Int),x])) { s with heap:=h' }:=I.turnT hf2 (u:=.int ((n0 + i:Nat):Int)) ⟨tk,rfl⟩ ru hk' hT (fun c hc=>by
   obtain ⟨o1,e1,_⟩:=id hst.2.1;simp only [zT,zX,or_false] at hc;rcases hc with rfl | rfl
   ·exact ⟨_,ho⟩
   ·exact ⟨_,e1⟩)
  have I1:Inv X Np σ (af H s.heap.objs.size (.tup [.int ((n0 + i:Nat):Int),x])) { s with heap:=h',toks:=tk + 1 }:=I0.kept (t':=tk + 1) (fun _ _ e=>e);have hfr:H s.heap.objs.size=none:=I.fresh;refine ⟨_,rfl,wpAny_letOwnedTupleGo_enum (s:={ s with heap:=h',toks:=tk + 1 }) ho fun h'' z1 sb=>?_⟩;have hf5:∀ c ∈ [z,it],(af H s.heap.objs.size (.tup [.int ((n0 + i:Nat):Int),x])) c=none:=fun c hc=>by
   have lt:c < s.heap.objs.size:=by
    obtain ⟨o1,e1,_⟩:=id h1;simp only [zT,zX,or_false] at hc;rcases hc with rfl | rfl
    ·exact yJ hz
    ·exact yJ e1
   rw [ae (zU lt)];exact (hf c hc).1
  have I2:Inv X Np σ (af H s.heap.objs.size (.tup [.int ((n0 + i:Nat):Int),x])) { s with heap:=h'',toks:=tk + 1 }:=Inv.turnN (s:={ s with heap:=h',toks:=tk + 1 }) (ch:=[z]) I1 (fun c hc=>by
   have:c=z:=by simpa using hc
   subst this;exact ⟨hf5 c (by simp),(hf c (by simp)).2⟩) (fun c o hc e=>(sb.2 c (fun q=>hc (by simp [q]))).trans e)
  refine ⟨.ref s.heap.objs.size,_,I2,rfl,⟨_,x,fun zs hzs=>by rw [I.list_inj hzs hq];exact hx,hfr,rfl,rfl⟩,⟨⟨_,by rw [show ((n0 + (i + 1):Nat):Int)=((n0 + i:Nat):Int) + 1 by omega];exact z1⟩,?_⟩,hf5⟩;have h3:=hst.2.1;rw [show n0 + i + 1 - n0=i + 1 by omega] at h3;exact h3.at fun o e=>(sb.2 it D.symm).trans e
 done:=by
  rintro X hP hw hK hc i Np s σ H E I hf ⟨⟨old,hz⟩,h1⟩ ⟨xs,hq,hend⟩;subst hP hw hK;obtain ⟨Nu,rv,p1,_⟩:=I.list hq;have nb:a ≠ it:=cS I hq (hf it (by simp)) (by obtain ⟨o1,e1,c1,d1⟩:=id h1;exact ⟨_,e1,by rw [c1];simp⟩);have hl:=rv.length;refine wpAny_pyNext_enum_endD (pD (A:=X.A.in1) (I.ok.hd hc) it a nb Nu.toArray n0) hz ⟨Nat.le_add_right _ _,?_,p1.isList⟩ fun h' hk=>⟨rfl,?_⟩
  ·rw [Nat.add_sub_cancel_left,zI,<- hl,hend];exact h1
  ·exact I.turnN (ch:=[z,it]) (fun c hc=>hf c hc) fun c o hc e=>hk c o (fun q=>hc (by simp [q])) e
 self:=fun _ _ _ _ _ ⟨⟨_,hz⟩,_⟩ h=>wpAny_pyIter_enum hz h
theorem pF:bootBuiltins "enumerate"=some (.type "enumerate"):=by decide +kernel
def Ic (K:Frag) (n0:Nat) (ta:TA):TI:=fun σ H R=>ta σ H fun vs H1=>∃ a,vs=[.ref a]/\(∃ xs,bA K H1 a xs)/\R (xw K a n0) H1
theorem rn {X:Cx}{Np:List (Addr × Obj)}{σ:St}{H1:Hp}{s1:Shared}{h':Heap}{t':Nat}{l:Addr}{n0:Nat}{elts:List Expr}{x1:Nat}{tpos:Pos}{R:It->Hp->Prop} (I1:Inv X Np σ H1 s1) (he:IsEnum h' (s1.heap.objs.size + 1) s1.heap.objs.size (n0:Int) .none) (hi:h'.IsListIter s1.heap.objs.size l 0)
  (hk:∀ b o,s1.heap.get? b=some o->h'.get? b=some o) (q:R (xw X.K l n0) H1):GI X Np σ (.Tuple elts x1 tpos) R (.ref (s1.heap.objs.size + 1)) { s1 with heap:=h',toks:=t' }:=by
 have I2:Inv X Np σ H1 { s1 with heap:=h',toks:=t' }:=I1.kept (t':=t') hk;refine ⟨_,[s1.heap.objs.size + 1,s1.heap.objs.size],_,_,H1,rfl,I2,vD l (s1.heap.objs.size + 1) s1.heap.objs.size n0 (Nat.ne_of_gt (Nat.lt_succ_self _)),⟨⟨_,by simpa using he⟩,hi⟩,fun c hc=>?_,q⟩;have hle:s1.heap.objs.size <= c:=by
  simp only [zT,zX,or_false] at hc;rcases hc with rfl | rfl
  ·exact Nat.le_succ _
  ·exact zP _
 obtain ⟨f0,f1,f2,f3,f4,f5⟩:=I1.fpOk hle (I1.Ny.fresh hle);exact ⟨f0,f1,f2,f3,f4,f5⟩
theorem Cu {X:Cx}{elts:List Expr}{x1:Nat}{tpos:Pos}{a:Expr}{ta:TA}{p pos:Pos} (hg:Gl X "enumerate") (hm:X.mg "enumerate"=none) (ha:PA X [a] ta) (hs:starEach [a] X.env=[(false,eval a X.env)]:=by rfl) :
  PI X (.Tuple elts x1 tpos) (.Call (.Name "enumerate" p) [a] [] pos) (Ic X.K 0 ta):=by
 intro Np s σ H R I h;refine Call_ (cF I hg hm pF (PyProof.Rows.callWith_type1 (aE (ha pos Np s σ H _ I h) fun us s1 ⟨vs,H1,I1,r1,q1⟩=>?_) (by rw [hs];rfl) (by rfl)));obtain ⟨l,e,⟨xs,hq⟩,q⟩:=q1;subst e;cases r1 with
 | cons r rr =>
  cases rr;cases r;obtain ⟨Nu,rv,p1,_⟩:=I1.list hq;refine call_enumerate_list p1.isList fun h' he hi hsz hk=>?_
  refine wpAny_pyIter_enum (s:={ s1 with heap:=h' }) he ?_;exact rn (t':=s1.toks) (n0:=0) I1 he hi hk q
section
variable {prog:Program}{w:World}{A:Around}{E:Value->Shared->Prop}{s:Shared}
theorem xH {α:Type}{x:Sem α}{Q Q1:α->Shared->Prop}{M:Model} (h:wpAny M A x Q E s) (hQ:∀ a s,Q a s->Q1 a s):wpAny M A x Q1 E s:=yR h hQ fun _ _ x=>x
theorem qc (a v:Value):checkTypeCall "enumerate" ⟨[a],[("start",v)]⟩=pure ():=by kernel_rfl
theorem pO (a v:Value):checkBuiltinCall "enumerate.__new__" ⟨[.type "enumerate",a],[("start",v)]⟩=pure ():=by kernel_rfl
theorem oW (o a v:Value):argsOk "object.__init__" ⟨[o,a],[("start",v)]⟩:=by
 unfold argsOk;rw [signature?_of (id:="object.__init__") (n:=['_','_','t','i','n','i','_','_']) (o:=['t','c','e','j','b','o']) (by kernel_rfl) F.owner_object]
 kernel_rfl
theorem u0 {T newId:String}{self a v:Value} (hl:typeLookup (.type T) "__init__"=pure (some (.builtin "object.__init__"))) (hm:Bind.madeBy (.type T)=pure (some newId)) (hne:(some newId != some "object.__new__")=true) :
  Meets (Builtin.«object.__init__» ⟨[self,a],[("start",v)]⟩) (fun _ R s=>s.TypeIs self T/\R (.ok (.ret .none)) s):=Meets.of_wp fun prog w A R s hs=>by
 obtain ⟨hT,hq⟩:=hs
 repeat (any_goals (first | assumption | wp_step))
 exact ⟨_,rfl,hq⟩
theorem rL {M:Model}{pos:Pos}{T:String}{args:List (Bool × Sem Value)}{kws:List (Option Str × Sem Value)}{Q:Value->Shared->Prop} (hp:args.any (·.1)=false) (hk:kws.any (·.1.isNone)=false)
  (h:wpAny M A (evalArgs (.type T) true args kws) (fun a s₁=>wpAny M A (call (.type T) a.pos a.kw) Q E s₁) E s):wpAny M A (callWith pos (.type T) [] args kws) Q E s:=by
 unfold callWith;refine yF (yQ (xH h fun a s₁ h₁=>yF (wpAny_standAt ?_)));simp only [hp,hk,Bool.or_false];refine yF (yG (yF (xH h₁ fun r s₂ hr=>yF (yQ (wpAny_point (yG hr))))))
end
section
variable {prog:Program}{w:World}{A:Around}{E:Value->Shared->Prop}{s:Shared}
theorem Bl {it t:Addr}{items:Array Value} (hne:t ≠ it):∀ (n i:Nat) (s:Shared) (Q:List Value->Shared->Prop),s.heap.IsListIter it t i->s.heap.IsList t items->i + n <= items.size ->
  (∀ h',h'.IsListIter it t (i + n)->Heap.SameBut it s.heap h'->Q ((items.toList.drop i).take n) { s with heap:=h' })->wpAny (model prog w) A (draw (.ref it) n) Q E s
 | 0,i,s,Q,hit,_,_,hQ=>yG (by simpa using hQ s.heap hit (Heap.SameBut.refl ..))
 | n + 1,i,s,Q,hit,ht,hle,hQ=>by
  have hlt:i < items.size:=by omega
  refine yF (m:=pyNext (.ref it)) (wpAny_pyNext_list_item hit ht (x:=items[i]) (by simp [hlt]) fun h₁ hit₁ hs₁=>?_);refine yF (yQ (Bl hne n (i + 1) _ _ hit₁ (ht.extBut hs₁.extBut hne) oM fun h₂ hit₂ hs₂=>yG ?_));have q:=hQ h₂ (by rw [show i + (n + 1)=i + 1 + n by omega];exact hit₂) (hs₁.trans hs₂);rw [show items.toList.drop i=items[i]::items.toList.drop (i + 1) by simp [List.drop_eq_getElem_cons,hlt],List.take_succ_cons] at q;exact q
theorem BN {t:Addr}{items:Array Value}{targets:List (Bool × (Value->Sem Unit))}{Q:Unit->Shared->Prop} (hh:A.handled=none) (ht:s.heap.IsList t items) (hn:targets.length=items.size) (hstar:targets.findIdx? (·.1)=none)
  (h:∀ h',Heap.ExtBut s.heap.objs.size s.heap h'->wpAny (model prog w) A (assignInOrder (targets.map (·.2)) items.toList) Q E { s with heap:=h' }):wpAny (model prog w) A (unpack (.ref t) targets) Q E s:=by
 have hlt:t ≠ s.heap.objs.size:=by obtain ⟨o,ho,_⟩:=ht;exact zU (yJ ho)
 unfold unpack;rw [hn,hstar];refine yF (yQ ?_);unfold unpackItems;refine yF ?_;unfold notIterableAtAll;refine yF (wpAny_specialOf ht.typeIs slot_list_iter.lookup (yG ?_));simp only [yB,if_false];refine yF (yQ (wpAny_pyIter_list ht (yF (yQ (Bl hlt items.size 0 _ _ ⟨_,zY _ rfl,rfl,rfl⟩ (ht.push _) oM fun h₁ hit₁ hs₁=>?_)))));rw [show List.take items.size (List.drop 0 items.toList)=items.toList by rw [List.drop_zero];exact List.take_of_length_le (by simp),yH (by simp)];refine yF (yQ (wpAny_pyNext_list_end hh hit₁ ((ht.push _).extBut hs₁.extBut hlt) (by simp) fun h₂ he₂=>?_));simp only [Option.isSome_none,yB,if_false];exact yG (h h₂ fun b o hb e=>he₂ b o hb (hs₁.extBut b o hb (zG _ e)))
end
section
variable {X:Cx}{pos:Pos}
noncomputable def Ii (K:Frag) (n:Nat) (t:mC):TG:=fun v σ H Q=>∃ a xs,v=.ref a/\bA K H a xs/\xs.length=n/\t xs σ H Q
theorem Cy {es:List Expr}{k:Nat}{t:mC}{n:Nat} (hc:X.calm=true) (h:pM X es t) (hn:(assignEach es X.env).length=n:=by rfl) (hst:(assignEach es X.env).findIdx? (·.1)=none:=by rfl):PG X (.Tuple es k pos) (Ii X.K n t):=by
 intro Np s σ H v u Q I r hw;obtain ⟨a,xs,e1,hq,hl,hw⟩:=hw;subst e1;cases r;obtain ⟨Nu,rv,pl,hz⟩:=I.list hq;rw [arm_assign_Tuple];refine yF (wpAny_standAt (BN (I.ok.hd hc) pl.isList (by simp [hn,<- hl,rv.length]) hst fun h' hx=>?_));have I1:Inv X Np σ H { s with heap:=h' }:=I.kept (t':=s.toks) fun b o e=>hx b o (zU (yJ e)) e
 exact h Np _ σ H xs _ Q I1 (by simpa using rv) hw
theorem jA:∀ (l:List Value) (k:Nat),(∀ (j:Nat) (v:Value),l[j]?=some v->∃ t,v=.int ((k + j:Nat):Int) t)->Vals ((List.range' k l.length).map fun (q:Nat)=>V.int (q:Int)) l
 | [],_,_=>.nil
 | u::l,k,h=>by
  rw [yV,List.range'_succ,zO];refine .cons ?_ (jA l (k + 1) fun j v e=>?_)
  ·obtain ⟨t,e⟩:=h 0 u rfl
   exact ⟨t,e⟩
  ·obtain ⟨t,e2⟩:=h (j + 1) v (by simpa using e)
   exact ⟨t,by rw [e2,show k + (j + 1)=k + 1 + j by omega]⟩
theorem gZ:bootBuiltins "list"=some (.type "list"):=by decide +kernel
def DC (ta:TE):TE:=fun σ H Q=>AE ta uf σ H fun vs H1=>∃ j:Nat,vs=[.int (j:Int)]/\j <= 1000/\∀ p,H1 p=none->Q (.ref p) (af H1 p (.lst ((List.range' 0 j).map fun (q:Nat)=>V.int (q:Int))))
theorem yi {a:Expr}{ta:TE}{p1 p2 pos2:Pos} (hc:X.calm=true) (hgl:Gl X "list") (hml:X.mg "list"=none) (hgr:Gl X "range") (hmr:X.mg "range"=none) (ha:PE X a ta)
  (hs:starEach [a] X.env=[(false,eval a X.env)]:=by rfl) (hs1:starEach [.Call (.Name "range" p2) [a] [] pos2] X.env=[(false,eval (.Call (.Name "range" p2) [a] [] pos2) X.env)]:=by rfl) :
  PE X (.Call (.Name "list" p1) [.Call (.Name "range" p2) [a] [] pos2] [] pos) (DC ta):=by
 intro Np s σ H Q I h;refine Call_ (cF I hgl hml gZ (PyProof.Rows.callWith_type1 ?_ (by rw [hs1];rfl) (by rfl)));rw [hs1];refine Calls.spliced_cons (Call_ (cF I hgr hmr boot_range (PyProof.Rows.callWith_type1 (aE ((sL ha wc hs) pos2 Np s σ H _ I h) fun us s1 ⟨vs,H1,I1,r1,q1⟩=>?_) (by rw [hs];rfl) (by rfl))));cases r1 with
 | nil=>obtain ⟨j,e,_⟩:=q1;cases e
 | cons r rr =>
  obtain ⟨j,e,hj,q⟩:=q1;cases e;cases rr;obtain ⟨t,rfl⟩:=r;refine call_range_1 (Calls.spliced_nil ?_);have I2:Inv X Np σ H1 { s1 with heap:=s1.heap.push { cls:=.type "range",data:=.fields #[.int 0 s1.toks,.int (j:Int) t,.int 1 (s1.toks + 1)] },toks:=s1.toks + 1 + 1 }:=I1.kept fun b o e=>zG _ e
  refine call_list_range (n:=j) (I.ok.hd hc) (IsRange.new ..) (small_one oM oM oM oM) (by rw [rangeSize_one];split <;> omega) oM fun h' tk acc' c' hk hS hacc=>?_
  have hv:=jA acc'.toList 0 (fun i v e=>by
   obtain ⟨t,e2⟩:=hacc.2 i v (by simpa using e);exact ⟨t,by rw [e2];congr 1;omega⟩)
  rw [show acc'.toList.length=j by simpa using hacc.1] at hv;exact ⟨.ref _,_,I2.laid (o:=.lst ((List.range' 0 j).map fun (q:Nat)=>V.int (q:Int))) hk (zP _) ⟨yW (kH (by simp;omega)),acc'.toList,c',hv,hS⟩,rfl,q _ I2.fresh⟩
end
end L2
namespace PySem.AutoSeq1
theorem u9 (l:Addr) (items:Array Value) (n:Nat) (b:Addr) (items2:Array Value) (n2:Nat) (sl:Array (Option Value)) (hc0:¬(!items.isEmpty && Builtin.List.listTooLong (items.size + items2.size))=true) (hc1:items.size <= sizeLine) (hs2:items.size + items2.size <= sizeLine + 1) :
  Meets (Builtin.«list.extend» ⟨[.ref l,.ref b],[]⟩) (fun _ R s=>s.heap.get? l=some { cls:=.type "list",dict:=none,data:=.seq items n,slots:=#[] }/\s.heap.get? b=some { cls:=.type "list",dict:=none,data:=.seq items2 n2,slots:=sl }/\R (.ok (.ret Value.none)) { s with heap:=s.heap.update l (Obj.mapSeq fun x=>x++items2),toks:=s.toks }) :=
 .of_wp fun prog w A R s h=>by
  obtain ⟨hp,g,d,tk,os⟩:=s;obtain ⟨hl,hb,h⟩:=h;have f1:=idx_int;have f2:=sub_tuple_tuple;have f3:=sub_list_list;have f4:=sub_tuple_list;have f5:=sub_list_tuple;have hz':(items++items2).size <= sizeLine + 1:=by rw [Array.size_append];exact hs2
  wp_walk using (wpAny_updateSeq hl rfl (hz:=hc1) (_hz':=hz')),wpAny_loadPart' hl,wpAny_loadPart' hb;exact ⟨_,rfl,h⟩
end PySem.AutoSeq1
namespace L2
open PySem PySem.Spec PyProof.Rows
section
variable {X:Cx}
def Ha (K:Frag):V->List V->Hp->VK->Prop:=fun x vs H Q=>∃ l b xs zs,x=.ref l/\vs=[.ref b]/\H l=some (.lst xs)/\bA K H b zs/\xs.length + zs.length <= sizeLine/\Q .non (af H l (.lst (xs++zs)))
theorem CT:BE X "list.extend" (Ha X.K):=by
 intro Np s σ H x vs v us Q I rx rv h;obtain ⟨l,b,xs,zs,rfl,rfl,hH,hB,hz,q⟩:=h;cases rx;obtain ⟨u,rfl,ru⟩:=rv.one;cases ru;obtain ⟨z,Nu,n,r,hl,e⟩:=I.lstM hH;obtain ⟨its2,r2,pl,hz2⟩:=I.list hB;obtain ⟨o,n2,e2,c2,d2,s2⟩:=pl;obtain ⟨oc,od,odt,osl⟩:=o;dsimp only at c2 d2 s2;subst c2;subst d2;subst s2;have hl2:=r2.length;have hsz:Nu.toArray.size + its2.toArray.size <= sizeLine:=by rw [zI,zI];omega
 have hlong:¬ (!Nu.toArray.isEmpty && Builtin.List.listTooLong (Nu.toArray.size + its2.toArray.size))=true:=by
  rw [notLongL hsz,Bool.and_false];exact Bool.false_ne_true
 refine call_meets F.slot_list_extend ⟨_,e,rfl⟩ F.entry_list_extend (F.args_list_extend_2 _ _)
  (PySem.AutoSeq1.u9 l Nu.toArray n b its2.toArray n2 osl hlong (by rw [zI];omega) oM) ⟨e,e2,?_⟩
 refine ⟨.non,_,I.lset (its':=Nu++its2) hH e (by simp) (r.append r2) ?_,rfl,q⟩;rw [zV];omega
end
end L2
namespace PySem.AutoSeq1
theorem Dq (l:Addr) (items:Array Value) (n:Nat) (sl1:Array (Option Value)) (b:Addr) (items2:Array Value) (n2:Nat) (sl:Array (Option Value)) (hs2:items.size + items2.size <= sizeLine) :
  Meets (Builtin.«list.__add__» ⟨[.ref l,.ref b],[]⟩) (fun _ R s=>s.heap.get? l=some { cls:=.type "list",dict:=none,data:=.seq items n,slots:=sl1 }/\s.heap.get? b=some { cls:=.type "list",dict:=none,data:=.seq items2 n2,slots:=sl }/\R (.ok (.ret (Value.ref s.heap.objs.size))) { s with heap:=s.heap.push { cls:=.type "list",data:=.seq (items++items2) },toks:=s.toks }) :=
 .of_wp fun prog w A R s h=>by
  obtain ⟨hp,g,d,tk,os⟩:=s;obtain ⟨hl,hb,h⟩:=h;have f1:=idx_int;have f2:=sub_tuple_tuple;have f3:=sub_list_list;have f4:=sub_tuple_list;have f5:=sub_list_tuple;have hz':(items++items2).size <= sizeLine + 1:=by rw [Array.size_append];omega
  have hlong:Builtin.List.listTooLong (items.size + items2.size)=false:=L2.notLongL hs2
  wp_walk using wpAny_loadPart' hl,wpAny_loadPart' hb
  all_goals first | exact ⟨_,rfl,h⟩ | skip
end PySem.AutoSeq1
namespace L2
open PySem PySem.Spec PyProof.Rows
section
variable {X:Cx}
def Hb (K:Frag):R2:=fun x y H Q=>∃ l b xs zs,x=.ref l/\y=.ref b/\bA K H l xs/\bA K H b zs/\xs.length + zs.length <= sizeLine/\∀ p,H p=none->Q (.ref p) (af H p (.lst (xs++zs)))
theorem CG:lE X (binaryOp .Add) (Hb X.K):=by
 intro Np s σ H x y v u Q I rx ry h;obtain ⟨l,b,xs,zs,rfl,rfl,hH,hB,hz,q⟩:=h;cases rx;cases ry;obtain ⟨Nu,r,⟨o1,n1,e1,c1,d1,s1⟩,_⟩:=I.list hH;obtain ⟨its2,r2,⟨o2,n2,e2,c2,d2,s2⟩,_⟩:=I.list hB;obtain ⟨oc,od,odt,osl⟩:=o1;obtain ⟨pc,pd,pdt,psl⟩:=o2;dsimp only at c1 d1 s1 c2 d2 s2;subst c1;subst d1;subst s1;subst c2;subst d2;subst s2;have hl1:=r.length;have hl2:=r2.length;have hsz:Nu.toArray.size + its2.toArray.size <= sizeLine:=by rw [zI,zI];omega
 refine wpAny_binaryOp_concat (T:="list") (id:="list.__add__") ⟨_,e1,rfl⟩ ⟨_,e2,rfl⟩ noFill_list_add (by rfl) ?_;refine call_meets F.slot_list_add ⟨_,e1,rfl⟩ F.entry_list_add (F.args_list_add_2 _ _) (PySem.AutoSeq1.Dq l Nu.toArray n1 osl b its2.toArray n2 psl hsz) ⟨e1,e2,?_⟩;have ea:Nu.toArray++its2.toArray=(Nu++its2).toArray:=by simp
 rw [ea];exact ⟨.ref _,_,I.lnew (t':=s.toks) (r.append r2) (by rw [zV];omega),rfl,q _ I.fresh⟩
end
section
variable {κ:Type} [DecidableEq κ]
noncomputable def eC (Nr:List (κ × V)) (k:κ):Option V:=(Nr.find? fun kv=>decide (kv.1=k)).map (·.2)
noncomputable def eD (Nr:List (κ × V)) (k:κ) (v:V):List (κ × V) :=
 if (Nr.any fun kv=>decide (kv.1=k))=true then Nr.map (fun kv=>if kv.1=k then (kv.1,v) else kv) else Nr++[(k,v)]
theorem mD {p:κ × V}{r:List (κ × V)}{k:κ} (e:p.1=k):eC (p::r) k=some p.2:=by simp [eC,List.find?_cons,e]
theorem mE {p:κ × V}{r:List (κ × V)}{k:κ} (e:¬ p.1=k):eC (p::r) k=eC r k:=by simp [eC,List.find?_cons,e]
theorem p9 (k:κ):∀ Nr:List (κ × V),(Nr.any fun kv=>decide (kv.1=k))=(eC Nr k).isSome
 | []=>rfl
 | p::r=>by
  rw [List.any_cons];by_cases e:p.1=k
  ·simp only [mD e,yT e,Bool.true_or,Option.isSome_some]
  ·rw [mE e,yA e,Bool.false_or];exact p9 k r
theorem ma (Nr:List (κ × V)) (k:κ) (v:V):(eD Nr k v).length <= Nr.length + 1:=by
 unfold eD;split
 ·rw [zH];omega
 ·rw [zV,yV,List.length_nil];omega
theorem RelO.isSome_eq {o:Option V}{u:Option Value} (r:RelO o u):o.isSome=u.isSome:=by
 cases o with
 | none=>cases u with
  | none=>rfl
  | some _=>exact (show False from r).elim
 | some _=>cases u with
  | none=>exact (show False from r).elim
  | some _=>rfl
theorem KV.val {Nr:List (κ × V)}{vs:List (κ × Value)} (r:KV Nr vs) (k:κ):RelO (eC Nr k) (valueAt vs k):=by
 unfold KV at r
 induction r with
 | nil=>exact True.intro
 | @cons p q ps qs h t ih =>
  obtain ⟨h1,h2⟩:=h;by_cases e:p.1=k
  ·have e':q.1=k:=h1.symm.trans e
   have b:valueAt (q::qs) k=some q.2:=by simp [valueAt,List.find?_cons,e']
   rw [mD e,b];exact h2
  ·have e':¬ q.1=k:=fun z=>e (h1.trans z)
   have b:valueAt (q::qs) k=valueAt qs k:=by simp [valueAt,List.find?_cons,e']
   rw [mE e,b];exact ih
theorem KV.any {Nr:List (κ × V)}{vs:List (κ × Value)} (r:KV Nr vs) (k:κ):(Nr.any fun kv=>decide (kv.1=k))=vs.any fun kv=>decide (kv.1=k):=by
 unfold KV at r
 induction r with
 | nil=>rfl
 | cons h t ih=>rw [List.any_cons,List.any_cons,ih,h.1]
theorem KV.repl {Nr:List (κ × V)}{vs:List (κ × Value)} (r:KV Nr vs) (k:κ) {y:V}{u:Value} (ry:RelV y u) :
  KV (Nr.map fun kv=>if kv.1=k then (kv.1,y) else kv) (vs.map fun kv=>if kv.1=k then (kv.1,u) else kv):=by
 unfold KV at r ⊢
 induction r with
 | nil=>exact .nil
 | @cons p q ps qs h t ih =>
  rw [zO,zO];refine .cons ?_ ih;obtain ⟨h1,h2⟩:=h;by_cases e:p.1=k
  ·rw [yI e,yI (h1.symm.trans e)];exact ⟨h1,ry⟩
  ·rw [yH e,yH (fun z=>e (h1.trans z))];exact ⟨h1,h2⟩
theorem KV.put {Nr:List (κ × V)}{vs:List (κ × Value)} (r:KV Nr vs) (k:κ) {y:V}{u:Value} (ry:RelV y u):KV (eD Nr k y) (stored vs k u):=by
 unfold eD stored;rw [r.any k];by_cases e:(vs.any fun kv=>decide (kv.1=k))=true
 ·rw [yI e,yI e];exact r.repl k ry
 ·rw [yH e,yH e];exact Paired.snoc r ⟨rfl,ry⟩
theorem KV.length {Nr:List (κ × V)}{vs:List (κ × Value)} (r:KV Nr vs):Nr.length=vs.length:=Paired.length r
end
theorem nQ {P:Program}{w:World}{k:aZ}{u:Value} (r:RelV (kV k) u):(bO P w).is k u=true:=by
 cases k with
 | inl i=>obtain ⟨t,e⟩:=(show ∃ t,u=Value.int i t from r);subst e;exact sv P w i t
 | inr x=>obtain ⟨t,e⟩:=(show ∃ t,u=Value.str x t from r);subst e;exact sr P w x t
theorem pv {P:Program}{w:World}:∀ {ks:List aZ}{us:List Value},Vals (ks.map kV) us->ItemsAre (bO P w) ks us
 | [],_,r=>by rw [List.map_nil] at r;cases r;exact .nil
 | k::ks,_,r=>by
  rw [zO] at r;cases r with
  | cons h t=>exact .cons (nQ h) (pv t)
abbrev KT (H:Hp):List (List aZ × V)->List (List aZ × Addr × Value)->Prop:=Paired fun p q=>p.1=q.1/\H q.2.1=some (.tup (p.1.map kV))/\RelV p.2 q.2.2
theorem KT.val {H:Hp}{Nr:List (List aZ × V)}{xs:List (List aZ × Addr × Value)} (r:KT H Nr xs) (k:List aZ):RelO (eC Nr k) ((atKey xs k).map (·.2)):=by
 induction r with
 | nil=>exact True.intro
 | @cons p q ps qs h t ih =>
  obtain ⟨h1,_,h2⟩:=h;by_cases e:p.1=k
  ·have e':q.1=k:=h1.symm.trans e
   have b:atKey (q::qs) k=some q.2:=by simp [atKey,List.find?_cons,e']
   rw [mD e,b];exact h2
  ·have e':¬ q.1=k:=fun z=>e (h1.trans z)
   have b:atKey (q::qs) k=atKey qs k:=by simp [atKey,List.find?_cons,e']
   rw [mE e,b];exact ih
theorem KT.repl {H:Hp}{Nr:List (List aZ × V)}{xs:List (List aZ × Addr × Value)} (r:KT H Nr xs) (k:List aZ) {y:V}{u:Value} (ry:RelV y u) :
  KT H (Nr.map fun kv=>if kv.1=k then (kv.1,y) else kv) (xs.map (putAt k u)):=by
 induction r with
 | nil=>exact .nil
 | @cons p q ps qs h t ih =>
  rw [zO,zO];refine .cons ?_ ih;obtain ⟨h1,h2,h3⟩:=h;unfold putAt;by_cases e:p.1=k
  ·rw [yI e,yI (h1.symm.trans e)];exact ⟨h1,h2,ry⟩
  ·rw [yH e,yH (fun z=>e (h1.trans z))];exact ⟨h1,h2,h3⟩
theorem KT.put {H:Hp}{Nr:List (List aZ × V)}{xs:List (List aZ × Addr × Value)} (r:KT H Nr xs) (k:List aZ) {b:Addr}{y:V}{u:Value} (hb:H b=some (.tup (k.map kV))) (ry:RelV y u) :
  KT H (eD Nr k y) (storedH xs k b u):=by
 have e:(Nr.any fun kv=>decide (kv.1=k))=(atKey xs k).isSome:=by
  rw [p9,(r.val k).isSome_eq,Option.isSome_map]
 unfold eD storedH;rw [e];by_cases q:(atKey xs k).isSome=true
 ·rw [yI q,yI q];exact r.repl k ry
 ·rw [yH q,yH q];exact Paired.snoc r ⟨rfl,hb,ry⟩
theorem KT.keeps {H H':Hp}{Nr:List (List aZ × V)}{xs:List (List aZ × Addr × Value)} (r:KT H Nr xs) (ht:∀ b ys,H b=some (.tup ys)->H' b=some (.tup ys)):KT H' Nr xs :=
 Paired.mapP r fun _ _ z=>⟨z.1,ht _ _ z.2.1,z.2.2⟩
section
variable {P:Program}{w:World}{H:Hp}{h:Heap}{a:Addr}
theorem AN {u:HO} (ok:HOk P w H h) (e:Rd H a u):ObjOk P w H h a u:=e.ok ok
theorem ow {Nr:List (aZ × V)} (ok:HOk P w H h) (e:Rd H a (.dK Nr)):Nr.length <= sizeLine/\(a == sysModules)=false/\∃ vs,KV Nr vs/\h.DictOf (bO P w) a vs :=
 show ObjOk P w H h a (.dK Nr) from AN ok e
theorem Bm {Nr:List (aZ × V)} (ok:HOk P w H h) (e:H a=some (.dK Nr)):Nr.length <= sizeLine/\(a == sysModules)=false/\∃ vs,KV Nr vs/\h.DictOf (bO P w) a vs:=ow ok (.inl e)
theorem k6 {ks:List aZ} (ok:HOk P w H h) (e:H a=some (.tup (ks.map kV))):(tupleKind (bO P w)).is h ks a:=by
 obtain ⟨_,Nu,r,o,h1,h2,n,h3⟩:=(show ObjOk P w H h a (.tup (ks.map kV)) from ok a _ e);exact ⟨o,Nu.toArray,n,h1,h2,h3,by simpa using pv r⟩
theorem ou {Nr:List (List aZ × V)} (ok:HOk P w H h) (e:Rd H a (.dT Nr)):Nr.length <= sizeLine/\(a == sysModules)=false /\
  ∃ xs,KT H Nr xs/\h.DictOfH (tupleKind (bO P w)) a xs:=by
 obtain ⟨z,y,xs,r,o,es,ep,h1,h2,h3,h4,h5⟩:=(show ObjOk P w H h a (.dT Nr) from AN ok e);refine ⟨z,y,xs,r,o,es,ep,h1,h2,h3,h4,fun x hx=>?_,h5⟩;have all:∀ {l:List (List aZ × V)}{m:List (List aZ × Addr × Value)},KT H l m->∀ x ∈ m,(tupleKind (bO P w)).is h x.1 x.2.1:=by
  intro l m q
  induction q with
  | nil=>intro x hx;exact nomatch hx
  | @cons p q ps qs hq t ih =>
   intro x hx;rcases zT.mp hx with e | hx
   ·subst e
    exact k6 ok (by rw [<- hq.1];exact hq.2.1)
   ·exact ih x hx
 exact all r x hx
theorem Bk {Nr:List (List aZ × V)} (ok:HOk P w H h) (e:H a=some (.dT Nr)):Nr.length <= sizeLine/\(a == sysModules)=false /\
  ∃ xs,KT H Nr xs/\h.DictOfH (tupleKind (bO P w)) a xs:=ou ok (.inl e)
end
def DGet (H:Hp) (a:Addr) (y:V) (r:Option V):Prop :=
 (∃ Nr k,Rd H a (.dK Nr)/\y=kV k/\r=eC Nr k)\/∃ Nr k b,Rd H a (.dT Nr)/\y=.ref b/\H b=some (.tup (k.map kV))/\r=eC Nr k
def DPut (H:Hp) (a:Addr) (y v:V) (H':Hp):Prop :=
 (∃ Nr k,H a=some (.dK Nr)/\y=kV k/\Nr.length < sizeLine/\H'=af H a (.dK (eD Nr k v))) \/
 ∃ Nr k b,H a=some (.dT Nr)/\y=.ref b/\H b=some (.tup (k.map kV))/\Nr.length < sizeLine/\H'=af H a (.dT (eD Nr k v))
theorem DGet.k {H:Hp}{a:Addr}{Nr:List (aZ × V)}{k:aZ} (e:H a=some (.dK Nr)):DGet H a (kV k) (eC Nr k):=.inl ⟨Nr,k,.inl e,rfl,rfl⟩
theorem DGet.t {H:Hp}{a b:Addr}{Nr:List (List aZ × V)}{k:List aZ} (e:H a=some (.dT Nr)) (eb:H b=some (.tup (k.map kV))):DGet H a (.ref b) (eC Nr k):=.inr ⟨Nr,k,b,.inl e,rfl,eb,rfl⟩
theorem DPut.k {H:Hp}{a:Addr}{Nr:List (aZ × V)}{k:aZ}{v:V} (e:H a=some (.dK Nr)) (hl:Nr.length < sizeLine):DPut H a (kV k) v (af H a (.dK (eD Nr k v))):=.inl ⟨Nr,k,e,rfl,hl,rfl⟩
theorem DPut.t {H:Hp}{a b:Addr}{Nr:List (List aZ × V)}{k:List aZ}{v:V} (e:H a=some (.dT Nr)) (eb:H b=some (.tup (k.map kV))) (hl:Nr.length < sizeLine) :
  DPut H a (.ref b) v (af H a (.dT (eD Nr k v))):=.inr ⟨Nr,k,b,e,rfl,eb,hl,rfl⟩
section
variable {X:Cx}{Np:List (Addr × Obj)}{σ:St}{H:Hp}{s:Shared}{a:Addr}{y v:V}{u r:Value}{o:Option V}{A:Around}{E:Value->Shared->Prop}
theorem Inv.big (I:Inv X Np σ H s):sysModules < s.heap.objs.size:=by
 have h:mainGlobals < s.heap.objs.size:=(I.mod.glob.keeps I.bk).lt;exact Nat.lt_trans dC h
theorem wY {Q:Value->Shared->Prop} (hu:A.units + 1 < cLine) (I:Inv X Np σ H s) (g:DGet H a y (some v)) (ry:RelV y u) (h:∀ w' s',Inv X Np σ H s'->RelV v w'->Q w' s') :
  wpAny (model X.prog X.w) A (getItem (.ref a) u) Q E s:=by
 rcases g with ⟨Nr,k,e,ey,l⟩ | ⟨Nr,k,b,e,ey,eb,l⟩
 ·subst ey
  obtain ⟨z,hd,vs,rel,dd⟩:=ow I.Ny e;obtain ⟨w',hw,rw'⟩:=RelO.some_of (v:=v) (o:=valueAt vs k) (by rw [l];exact rel.val k);exact wpAny_getItem_of (nQ ry) dd.mapOf hw (h w' _ (I.tok _) rw')
 ·subst ey
  cases (show u=Value.ref b from ry);obtain ⟨z,hd,xs,rel,dd⟩:=ou I.Ny e;obtain ⟨w',hw,rw'⟩:=RelO.some_of (v:=v) (o:=(atKey xs k).map (·.2)) (by rw [l];exact rel.val k);obtain ⟨p,hp,hp2⟩:=zE.mp hw;refine wpAny_getItem_heap (tupleKind_room_in1 hu) (k6 I.Ny eb) dd hp ?_;rw [hp2];exact h w' _ (I.tok _) rw'
theorem K7 {Q:Value->Shared->Prop} (hu:A.units + 1 < cLine) (I:Inv X Np σ H s) (g:DGet H a y o) (ry:RelV y u) (h:∀ s',Inv X Np σ H s'->Q (.bool o.isSome) s') :
  wpAny (model X.prog X.w) A (compareOp .In u (.ref a)) Q E s:=by
 rcases g with ⟨Nr,k,e,ey,l⟩ | ⟨Nr,k,b,e,ey,eb,l⟩
 ·subst ey
  obtain ⟨z,hd,vs,rel,dd⟩:=ow I.Ny e;refine wpAny_in_of (nQ ry) hd dd.mapOf ?_;rw [<- (rel.val k).isSome_eq,<- l];exact h _ (I.tok _)
 ·subst ey
  cases (show u=Value.ref b from ry);obtain ⟨z,hd,xs,rel,dd⟩:=ou I.Ny e;refine wpAny_in_heap (tupleKind_room_in1 hu) (k6 I.Ny eb) hd dd ?_;have q:=(rel.val k).isSome_eq;rw [Option.isSome_map] at q;rw [<- q,<- l];exact h _ (I.tok _)
theorem Dh {Q:Value->Shared->Prop} (hu:A.units + 1 < cLine) (I:Inv X Np σ H s) (g:DGet H a y o) (ry:RelV y u) (h:∀ s',Inv X Np σ H s'->Q (.bool (!o.isSome)) s') :
  wpAny (model X.prog X.w) A (compareOp .NotIn u (.ref a)) Q E s:=by
 rcases g with ⟨Nr,k,e,ey,l⟩ | ⟨Nr,k,b,e,ey,eb,l⟩
 ·subst ey
  obtain ⟨z,hd,vs,rel,dd⟩:=ow I.Ny e;refine wpAny_notIn_of (nQ ry) hd dd.mapOf ?_;rw [<- (rel.val k).isSome_eq,<- l];exact h _ (I.tok _)
 ·subst ey
  cases (show u=Value.ref b from ry);obtain ⟨z,hd,xs,rel,dd⟩:=ou I.Ny e;refine wpAny_notIn_heap (tupleKind_room_in1 hu) (k6 I.Ny eb) hd dd ?_;have q:=(rel.val k).isSome_eq;rw [Option.isSome_map] at q;rw [<- q,<- l];exact h _ (I.tok _)
theorem tS {h':Heap}{t':Nat}{ob:HO} (I:Inv X Np σ H s) (mu:xt (H a)) (hs:Heap.SameBut a s.heap h') (he:∃ q,h'.get? a=some q) (new:ObjOk X.prog X.w (af H a ob) h' a ob) :
  Inv X Np σ (af H a ob) { s with heap:=h',toks:=t' } :=
 I.write (x:=a) (e:=a) mu (.inl rfl) (fun b q hb z=>(hs.2 b hb).trans z) he new
theorem GA {P:Program}{w:World}{H':Hp}{h':Heap}{Nr:List (aZ × V)}{vs:List (aZ × Value)} (z:Nr.length <= sizeLine) (hd:(a == sysModules)=false) (rel:KV Nr vs) (dd:h'.DictOf (bO P w) a vs) :
  ObjOk P w H' h' a (.dK Nr):=⟨z,hd,vs,rel,dd⟩
theorem pE {H':Hp}{Q:Unit->Shared->Prop} (hu:A.units + 1 < cLine) (I:Inv X Np σ H s) (g:DPut H a y v H') (ry:RelV y u) (rv:RelV v r) (h:∀ s',Inv X Np σ H' s'->Q () s') :
  wpAny (model X.prog X.w) A (setItem (.ref a) u r) Q E s:=by
 rcases g with ⟨Nr,k,e,ey,l,eH⟩ | ⟨Nr,k,b,e,ey,eb,l,eH⟩
 ·subst ey eH
  obtain ⟨z,hd,vs,rel,dd⟩:=Bm I.Ny e;have hz:vs.length <= sizeLine:=by rw [<- rel.length];exact z
  have hl:(eD Nr k v).length <= sizeLine:=by have:=ma Nr k v;omega
  refine wpAny_setItem_pairs (hsz:=hz) (nQ ry) dd fun h' dd' hs=>h _ ?_
  have he:∃ q,h'.get? a=some q:=let ⟨q,_,_,hq,_⟩:=dd';⟨q,hq⟩;exact tS I (by rw [e];exact True.intro) hs he (GA hl hd (rel.put k rv) dd')
 ·subst ey eH
  cases (show u=Value.ref b from ry);obtain ⟨z,hd,xs,rel,dd⟩:=Bk I.Ny e;have hz:xs.length <= sizeLine:=by rw [<- Paired.length rel];exact z
  have hl:(eD Nr k v).length <= sizeLine:=by have:=ma Nr k v;omega
  refine wpAny_setItem_heap (hsz:=hz) (tupleKind_room_in1 hu) (k6 I.Ny eb) dd fun h' dd' hs=>h _ ?_
  obtain ⟨q,es,ep,hq,h2,h3,h4,_,h5⟩:=dd';refine tS I (by rw [e];exact True.intro) hs ⟨q,hq⟩ ⟨hl,hd,_,(rel.put k eb rv).keeps fun c ys ec=>?_,q,es,ep,hq,h2,h3,h4,h5⟩;rw [ae (uA ec e (fun z=>nomatch z))];exact ec
end
theorem sA {X:Cx}{Np:List (Addr × Obj)}{σ:St}{H:Hp}{s:Shared}{a:Addr}{y:V}{o:Option V} (I:Inv X Np σ H s) (g:DGet H a y o):s.TypeIs (.ref a) "dict":=by
 rcases g with ⟨Nr,k,e,_,_⟩ | ⟨Nr,k,b,e,_,_,_⟩
 ·obtain ⟨_,_,vs,_,dd⟩:=ow I.Ny e
  exact dd.typeIs
 ·obtain ⟨_,_,xs,_,dd⟩:=ou I.Ny e
  exact dd.typeIs
theorem Ag {P:Program}{w:World}{H:Hp} (h:Heap) (hb:sysModules < h.objs.size):ObjOk P w H (h.push { cls:=.type "dict",data:=.dict #[] }) h.objs.size (.dK []) :=
 ⟨Nat.zero_le _,beq_eq_false_iff_ne.mpr (Ne.symm (zU hb)),[],.nil,Heap.DictOf.new h⟩
def vJ:TE:=fun _ H Q=>∀ p,H p=none->Q (.ref p) (af H p (.dK []))
section
variable {X:Cx}{pos:Pos}
theorem ym:PE X (.Dict [] [] pos) vJ:=fun Np s σ H Q I h =>
 wpAny_Dict_empty ⟨.ref s.heap.objs.size,_,I.laid (a:=s.heap.objs.size) (o:=.dK []) (t':=s.toks) (fun _ _ q=>zG _ q) (zP _) (Ag s.heap I.big),rfl,h _ (I.Ny.fresh (zP _))⟩
end
end L2
namespace L2
open PySem PySem.Spec PySem.Calls PyProof.Rows
section
variable {prog:Program}{w:World}{A:Around}{E:Value->Shared->Prop}{s:Shared}
theorem uI (d:Addr) (hd:(d == sysModules)=false) :
  MeetsIn prog w (Builtin.«dict.__len__» ⟨[.ref d],[]⟩) (fun _ R s=>∃ xs:List (List aZ × Addr × Value),s.heap.DictOfH (tupleKind (bO prog w)) d xs/\R (.ok (.ret (.int xs.length s.toks))) { s with toks:=s.toks + 1 }) :=
 .of_wp fun A R s hq0=>by
  obtain ⟨Nr,hm,h⟩:=hq0;obtain ⟨o,es,ep,ho,hc,hdat,hk,hp,hn⟩:=hm;show wpAny _ _ (dictSize d >>= _) _ _ s;unfold dictSize;refine yF (yF (wpAny_dictEntries ho hdat (yG ?_)));show wpAny _ _ (Builtin.Dict.pendingCount d >>= _) _ _ s;refine yF (wpAny_pendingCount_other hd ?_);refine wpAny_ret_mkInt ?_;have:es.size=Nr.length:=size_of_entries hk;simpa [this] using h
theorem ve {d:Addr}{xs:List (List aZ × Addr × Value)}{Q:Value->Shared->Prop} (hd:(d == sysModules)=false) (hm:s.heap.DictOfH (tupleKind (bO prog w)) d xs) (hfit:(xs.length:Int) < 2 ^ 63)
  (h:Q (.int xs.length (s.toks + 1)) { s with toks:=s.toks + 1 + 1 }):wpAny (model prog w) A (call (.builtin "len") [.ref d]) Q E s:=by
 refine Calls.call_function_entry kind_len plain_len entry_len (args_len1 _) ?_;unfold Builtin.«len»;refine yF (m:=oneArg "len" _) (yG ?_);refine yF (m:=callSpecial? (.ref d) (Str.ofString "__len__")) (wpAny_callSpecial?_slot (name:=Str.ofString "__len__") hm.typeIs PySem.F.slot_dict_len
  (call_meetsIn PySem.F.slot_dict_len hm.typeIs PySem.F.entry_dict_len (PySem.F.args_dict_len_1 _) (uI d hd) ⟨xs,hm,?_⟩))
 show wpAny _ _ _ _ _ { s with toks:=s.toks + 1 };refine yF (yQ (yG ?_));refine yF (wpAny_letGo ?_);show wpAny _ _ (if ((xs.length:Nat):Int) < 0 then _ else _) _ _ _;rw [yH oM];show wpAny _ _ (if ((xs.length:Nat):Int) ≥ 2 ^ 63 then _ else _) _ _ _;rw [yH oM];exact yF (wpAny_mkInt (yG ⟨_,rfl,h⟩))
end
section
variable {X:Cx}
theorem xb:cg X (.builtin "len") (fun xs H Q=>∃ a Nr,xs=[V.ref a]/\H a=some (.dT Nr)/\Q (.int Nr.length) H):=by
 intro Np s σ H xs us Q I r h;obtain ⟨a,Nr,rfl,ha,q⟩:=h;obtain ⟨u,rfl,ru⟩:=dQ r;cases ru;obtain ⟨z,hd,xs,rel,dd⟩:=Bk I.Ny ha;have hl:=Paired.length rel;refine ve hd dd (by rw [<- hl];rw [sizeLine_eq] at z;omega) ?_;rw [<- hl];exact ⟨.int Nr.length,H,I.tok _,⟨_,rfl⟩,q⟩
end
end L2
namespace DD
open PySem PySem.Spec PyProof.Rows L2
section
variable {K:Frag}{F F':Addr->Prop}{H H':Hp}{A:List Addr}
open Classical in
variable {σD:DSt}{σ:L2.St}{R:Ro}{d:D}{v:V}
end
end DD
namespace L2
open PySem PySem.Spec PyProof.Rows
noncomputable def BH (x:Str):It:=⟨fun i _=>∃ c,x.cps[i]?=some c,fun i H v H'=>H'=H/\∃ c,x.cps[i]?=some c/\v=.str ⟨#[c]⟩,fun i _=>x.cps[i]?=none⟩
theorem xF {P:Program}{w:World}{K:Frag}{tg:Expr} (x:Str) (t:Tok) (it:Addr):jc P w K tg (BH x) [it] it (fun i h=>h.IsStrIter it "str_ascii_iterator" x t i) where
 mem:=by simp
 obj:=fun i h st b hb=>by
  have e:b=it:=by simpa using hb
  subst e;obtain ⟨o,e,c,d⟩:=st;exact ⟨o,e,fun v z=>by rw [d] at z;cases z⟩
 keep:=fun i h h' st k=>by
  obtain ⟨o,e,r⟩:=st;exact ⟨o,k it (by simp) o e,r⟩
 item:=by
  intro X hP hw hK hc i Np s σ H E I hf st hg;subst hP hw hK;obtain ⟨c,hx⟩:=hg;obtain ⟨f0,f1,f2,f3,f4,f5⟩:=hf it (by simp);refine wpAny_pyNext_ascii_item st hx fun h' st' sb=>?_
  have I1:Inv X Np σ H { s with heap:=h',toks:=s.toks + 1 }:=I.turned (fun b o hb e=>(sb.2 b hb).trans e) f0 f1 f3 f4 f5;obtain ⟨o,e,cl,d⟩:=id st';exact ⟨_,rfl,lR (s:={ s with heap:=h',toks:=s.toks + 1 }) e cl d dC ⟨.str ⟨#[c]⟩,H,I1,⟨_,rfl⟩,⟨rfl,c,hx,rfl⟩,st',fun b hb=>(hf b hb).1⟩⟩
 done:=by
  intro X hP hw hK hc i Np s σ H E I hf st hg;subst hP hw hK;obtain ⟨f0,f1,f2,f3,f4,f5⟩:=hf it (by simp);exact wpAny_pyNext_ascii_end (I.ok.hd hc) st hg fun h' eb=>⟨rfl,I.turned (t':=s.toks) (fun b o hb e=>eb b o hb e) f0 f1 f3 f4 f5⟩
 self:=fun _ _ _ _ _ st h=>wpAny_pyIter_striter_ascii st h
section
variable {X:Cx}{pos:Pos}
def BV (ta:TA):TE:=fun σ H Q=>ta σ H fun vs H1=>∃ i j:Nat,vs=[.int (i:Int),.int (j:Int)]/\i <= j/\j <= 1000/\∀ p,H1 p=none->Q (.ref p) (af H1 p (.lst ((List.range' i (j - i)).map fun (q:Nat)=>V.int (q:Int))))
theorem wa {a b:Expr}{ta:TA}{p1 p2 pos2:Pos} (hc:X.calm=true) (hgl:Gl X "list") (hml:X.mg "list"=none) (hgr:Gl X "range") (hmr:X.mg "range"=none) (ha:PA X [a,b] ta)
  (hs:starEach [a,b] X.env=[(false,eval a X.env),(false,eval b X.env)]:=by rfl) (hs2:starEach [b] X.env=[(false,eval b X.env)]:=by rfl) (hs1:starEach [.Call (.Name "range" p2) [a,b] [] pos2] X.env=[(false,eval (.Call (.Name "range" p2) [a,b] [] pos2) X.env)]:=by rfl) :
  PE X (.Call (.Name "list" p1) [.Call (.Name "range" p2) [a,b] [] pos2] [] pos) (BV ta):=by
 intro Np s σ H Q I h;refine Call_ (cF I hgl hml gZ (PyProof.Rows.callWith_type1 ?_ (by rw [hs1];rfl) (by rfl)));rw [hs1];refine Calls.spliced_cons (Call_ (cF I hgr hmr boot_range (PyProof.Rows.callWith_type1 (aE (ha pos2 Np s σ H _ I h) fun us s1 hq0=>?_) (by rw [hs,hs2]) (by rw [hs2];rfl))));obtain ⟨vs,H1,I1,r1,i,j,e,hij,hj,q⟩:=hq0;subst e;obtain ⟨u1,us1,rfl,ru1,r2⟩:∃ u us',us=u::us'/\RelV (.int (i:Int)) u/\Vals [.int (j:Int)] us':=by cases r1 with | cons r rr=>exact ⟨_,_,rfl,r,rr⟩
 obtain ⟨u2,us2,rfl,ru2,r3⟩:∃ u us',us1=u::us'/\RelV (.int (j:Int)) u/\Vals [] us':=by cases r2 with | cons r rr=>exact ⟨_,_,rfl,r,rr⟩
 cases r3;obtain ⟨t1,rfl⟩:=ru1;obtain ⟨t2,rfl⟩:=ru2;refine call_range_2 (Calls.spliced_nil ?_);have I2:Inv X Np σ H1 { s1 with heap:=s1.heap.push { cls:=.type "range",data:=.fields #[.int (i:Int) t1,.int (j:Int) t2,.int 1 s1.toks] },toks:=s1.toks + 1 }:=I1.kept fun b o e=>zG _ e
 refine call_list_range (n:=j - i) (I.ok.hd hc) (IsRange.new ..) (small_one oM oM oM oM) (by rw [rangeSize_one];split <;> omega) oM fun h' tk acc' c' hk hS hacc=>?_
 have hv:=jA acc'.toList i (fun k v e=>by
  obtain ⟨t,e2⟩:=hacc.2 k v (by simpa using e);exact ⟨t,by rw [e2];congr 1;omega⟩)
 rw [show acc'.toList.length=j - i by simpa using hacc.1] at hv;exact ⟨.ref _,_,I2.laid (o:=.lst ((List.range' i (j - i)).map fun (q:Nat)=>V.int (q:Int))) hk (zP _) ⟨yW (kH (by simp;omega)),acc'.toList,c',hv,hS⟩,rfl,q _ I2.fresh⟩
end
def BJ (X:Cx) (Np:List (Addr × Obj)) (b:Addr):Prop:=b ≠ X.env.locals/\b ∉ X.fs/\(b ∈ X.ex\/X.s₀.heap.objs.size <= b)/\(∀ x c,X.env.cells.lookup x=some c->c ≠ b)/\∀ p ∈ X.pn++Np,p.1 ≠ b
section
variable {X:Cx}{Np:List (Addr × Obj)}{σ:St}{key:Value}{kw:List (Str × Value)}{l I S:Addr}{ns:List Int}{R:Result->Shared->Prop}
theorem za (hh:X.A.handled=none) (kf:Nat->Int) (J:Nat->Hp->Prop) (hl:∀ i H,J i H->bA X.K H l (ns.map V.int))
  (turn:∀ (i:Nat) (n:Int) (u:Value) (pl:List (Addr × Obj)) (s:Shared) (H:Hp),ns[i]?=some n->RelV (V.int n) u->J i H->Inv X (Np++pl) σ H s->(key=.none/\kf i=n/\J (i + 1) H) \/
   ∃ q,key=.ref q/\wpAny (model X.prog X.w) X.A.in1 (call (.ref q) [u]) (EP X (Np++pl) σ (fun y H'=>y=.int (kf i)/\J (i + 1) H')) (fun _ _=>False) s)
  (hR:∀ (i:Nat) (n:Int) (u:Value) (H:Hp) (s:Shared),ns[i]?=some n->(∀ j,j < ns.length->kf i <= kf j/\(j < i->kf i < kf j))->J ns.length H->Inv X Np σ H s->RelV (V.int n) u->R (.ok (.ret u)) s)
  (fI:BJ X Np I) (fS:BJ X Np S) (hIS:I ≠ S) :
  ∀ (r j i:Nat) (H:Hp) (s:Shared) (vb:Value) (tb:Tok) (c:Nat),ns.length - (j + 1)=r->j + 1 <= ns.length->Inv X Np σ H s->H I=none->H S=none ->
   s.heap.get? S=some (seqObj "list" #[vb,.int (kf i) tb] c)->s.heap.IsListIter I l (j + 1)->(∃ n,ns[i]?=some n/\RelV (V.int n) vb)->i <= j->J (j + 1) H->(∀ j',j' <= j->kf i <= kf j'/\(j' < i->kf i < kf j')) ->
   codeAny (model X.prog X.w) X.A (.builtin "min.loop" ⟨[.ref I,key,.ref S],kw⟩) R s:=by
 have hname:(toString "min"++toString ".loop":String)="min.loop":=by decide
 intro r
 induction r with
 | zero =>
  intro j i H s vb tb c hr hj Iv nI nS gS it hvb hij hJ hb;have hin:j + 1=ns.length:=by omega
  obtain ⟨Nu,rv,pl,_⟩:=Iv.list (hl _ _ hJ);have hlen:Nu.length=ns.length:=by rw [<- rv.length,zH]
  have hL:s.heap.IsList l Nu.toArray:=pl.isList;have hlI:l ≠ I:=fun e=>by
   obtain ⟨o,e1,e2,_⟩:=hL;obtain ⟨o',e3,e4,_⟩:=it;rw [e,e3] at e1;cases e1;rw [e4] at e2;simp at e2
  have W:=Walks.list (prog:=X.prog) (w:=X.w) (A:=X.A.in1) hh I l hlI Nu.toArray;have hsz:Nu.toArray.size=Nu.length:=zI ..;refine codeAny_builtin PySem.F.entry_min_loop ?_;rw [Around.under_plainId PySem.F.plain_min_loop _];show wpAny _ X.A.in1 (seqItems? (.ref S) >>= _) _ _ _;refine yF (wpAny_seqItems gS rfl ?_);show wpAny _ X.A.in1 (tryCatch (pyNext (.ref I)) _ >>= _) _ _ _;refine yF (wpAny_tryCatch (W.done _ _ _ ⟨by rw [hsz,hlen,<- hin];exact it,hL⟩ fun h' tk' hk'=>?_));have V1:Inv X Np σ H { s with heap:=h',toks:=tk' }:=Iv.turned (fun b o hb' e=>hk' b o (by simpa using hb') e) nI fI.1 fI.2.2.1 fI.2.2.2.1 fI.2.2.2.2;have gS':=hk' S _ (by simpa using hIS.symm) gS;show wpAny _ X.A.in1 (updateSeq S (fun _=>#[]) >>= _) _ _ _;refine yF ?_;refine wpAny_updateSeq gS' rfl (yF (wpAny_letGo (yG ?_)));obtain ⟨n,e1,e2⟩:=hvb;have s1:=Heap.SameBut.update h' S (Obj.mapSeq fun _=>(#[]:Array Value));exact hR i n vb H _ e1 (fun j' hj'=>hb j' oM) (hin ▸ hJ) (V1.turned (t':=tk') (fun b o hb' e=>(s1.2 b hb').trans e) nS fS.1 fS.2.2.1 fS.2.2.2.1 fS.2.2.2.2) e2
 | succ r ih =>
  intro j i H s vb tb c hr hj Iv nI nS gS it hvb hij hJ hb;have hlt:j + 1 < ns.length:=by omega
  obtain ⟨Nu,rv,pl,_⟩:=Iv.list (hl _ _ hJ);have hlen:Nu.length=ns.length:=by rw [<- rv.length,zH]
  have hL:s.heap.IsList l Nu.toArray:=pl.isList;have hlI:l ≠ I:=fun e=>by
   obtain ⟨o,e1,e2,_⟩:=hL;obtain ⟨o',e3,e4,_⟩:=it;rw [e,e3] at e1;cases e1;rw [e4] at e2;simp at e2
  have W:=Walks.list (prog:=X.prog) (w:=X.w) (A:=X.A.in1) hh I l hlI Nu.toArray;have hsz:Nu.toArray.size=Nu.length:=zI ..;refine codeAny_builtin PySem.F.entry_min_loop ?_;rw [Around.under_plainId PySem.F.plain_min_loop _];show wpAny _ X.A.in1 (seqItems? (.ref S) >>= _) _ _ _;refine yF (wpAny_seqItems gS rfl ?_);show wpAny _ X.A.in1 (tryCatch (pyNext (.ref I)) _ >>= _) _ _ _;refine yF (wpAny_tryCatch (W.item (j + 1) _ _ _ (by rw [hsz];omega) ⟨it,hL⟩ fun u h' tk' hP hst' hk'=>?_));have hu:Nu[j + 1]?=some u:=by simpa using hP
  obtain ⟨n,hn⟩:∃ n,ns[j + 1]?=some n:=⟨_,zF hlt⟩;have ru:RelV (V.int n) u:=by
   obtain ⟨u',e1,e2⟩:=rv.get (i:=j + 1) (x:=V.int n) (by rw [zR,hn];rfl);rw [hu] at e1;cases e1;exact e2
  have V1:Inv X Np σ H { s with heap:=h',toks:=tk' }:=Iv.turned (fun b o hb' e=>hk' b o (by simpa using hb') e) nI fI.1 fI.2.2.1 fI.2.2.2.1 fI.2.2.2.2;have gS':=hk' S _ (by simpa using hIS.symm) gS;have hf:∀ b ∈ [I,S],dw X Np H b:=fun b hb'=>by
   rcases zT.mp hb' with rfl | hb'
   ·exact ⟨nI,fI⟩
   ·rw [zM.mp hb'];exact ⟨nS,fS⟩
  obtain ⟨oI,goI,coI,doI⟩:=hst'.1;have ho:∀ b ∈ [I,S],∃ o,h'.get? b=some o/\∀ v:Option Value,o.data ≠ .cell v:=fun b hb'=>by
   rcases zT.mp hb' with rfl | hb'
   ·exact ⟨_,goI,fun v z=>by rw [doI] at z;cases z⟩
   ·rw [zM.mp hb'];exact ⟨_,gS',fun v z=>nomatch z⟩
  have V2:Inv X (Np++fA [I,S] h') σ H { s with heap:=h',toks:=tk' }:=V1.pinned hf ho
  -- what follows the key's value
  have rest:∀ (t2:Tok) (H2:Hp) (s2:Shared),Inv X (Np++fA [I,S] h') σ H2 s2->J (j + 1 + 1) H2->∀ (Rf:PySem.Fin->Shared->Prop) (Ef:Value->Shared->Prop),
    (∀ s3 H3 vb3 i3 t3 c3,Inv X Np σ H3 s3->H3 I=none->H3 S=none->s3.heap.get? S=some (seqObj "list" #[vb3,.int (kf i3) t3] c3)->s3.heap.IsListIter I l (j + 1 + 1)->(∃ n,ns[i3]?=some n/\RelV (V.int n) vb3)->i3 <= j + 1->J (j + 1 + 1) H3->(∀ j',j' <= j + 1->kf i3 <= kf j'/\(j' < i3->kf i3 < kf j')) ->
     Rf (.again (.builtin "min.loop" ⟨[.ref I,key,.ref S],kw⟩)) s3) ->
    wpAny (model X.prog X.w) X.A.in1 ((do
     let better <- tryCatch (holding [u,.int (kf (j + 1)) t2] do
      let answer <- richCompare .Lt (.int (kf (j + 1)) t2) (.int (kf i) tb)
      let yes <- holding [answer] (truthy answer)
      letGo [answer]
      pure yes) fun e=>do
       updateSeq S fun _=>#[]
       letGo ([.int (kf (j + 1)) t2,u]++[vb,.int (kf i) tb].reverse) [e]
       throw e
     if better=true then do
      updateSeq S fun _=>#[u,.int (kf (j + 1)) t2]
      letGo [.int (kf i) tb,vb]
      again (.builtin "min.loop" ⟨[.ref I,key,.ref S],kw⟩)
     else do
      letGo [u,.int (kf (j + 1)) t2]
      again (.builtin "min.loop" ⟨[.ref I,key,.ref S],kw⟩)):Sem PySem.Fin) Rf Ef s2:=by
   intro t2 H2 s2 V3 J3 Rf Ef aH;have pI:=V3.pin (I,oI) (zK _ (zK _ (cY (by simp) goI)));have pS:=V3.pin (S,seqObj "list" #[vb,.int (kf i) tb] c) (zK _ (zK _ (cY (by simp) gS')));have V4:Inv X Np σ H2 s2:=V3.unpinned;refine yF (wpAny_tryCatch (yQ (yF (CmpOf.ints_lt (prog:=X.prog) (w:=X.w) (A:=X.A.in1) (P:=fun i v=>∃ t,v=.int (kf i) t) kf (fun i v h=>h) (j + 1) i _ _ _ _ _ ⟨t2,rfl⟩ ⟨tb,rfl⟩ ?_))));refine yF (yQ (wpAny_truthy_bool ?_));refine yF (wpAny_letGo (yG ?_));have it2:s2.heap.IsListIter I l (j + 1 + 1):=⟨oI,pI.1,coI,doI⟩;by_cases hb':kf (j + 1) < kf i
   ·simp only [hb',decide_true,if_true]
    have s1:=Heap.SameBut.update s2.heap S (Obj.mapSeq fun _=>#[u,.int (kf (j + 1)) t2]);obtain ⟨c2,hc2⟩:∃ c2,(s2.heap.update S (Obj.mapSeq fun _=>#[u,.int (kf (j + 1)) t2])).get? S=some (seqObj "list" #[u,.int (kf (j + 1)) t2] c2):=⟨_,get?_update_seq pS.1 fun _=>#[u,.int (kf (j + 1)) t2]⟩;refine yF ?_;refine wpAny_updateSeq pS.1 rfl (yF (wpAny_letGo (yG ?_)));obtain ⟨sh,sg,sd,stk,sos⟩:=s2;refine aH _ H2 u (j + 1) t2 c2 (V4.turned (t':=stk) (fun b o hb'' e=>(s1.2 b hb'').trans e) pS.2.1 fS.1 fS.2.2.1 fS.2.2.2.1 fS.2.2.2.2) pI.2.1 pS.2.1 hc2 ⟨oI,(s1.2 I hIS).trans pI.1,coI,doI⟩ ⟨n,hn,ru⟩ (zP _) J3 fun j' hj'=>?_
    by_cases e:j'=j + 1
    ·subst e
     exact ⟨by omega,fun _=>by omega⟩
    ·have hb1:=hb j' oM
     have hb2:=hb1.1;exact ⟨by omega,fun _=>by omega⟩
   ·simp only [hb',decide_false,yB,if_false]
    refine yF (wpAny_letGo (yG ?_));refine aH _ H2 vb i tb c V4 pI.2.1 pS.2.1 pS.1 it2 hvb oM J3 fun j' hj'=>?_
    by_cases e:j'=j + 1
    ·subst e
     exact ⟨by omega,fun _=>by omega⟩
    ·exact hb j' oM
  have aH:∀ s3 H3 vb3 i3 t3 c3,Inv X Np σ H3 s3->H3 I=none->H3 S=none->s3.heap.get? S=some (seqObj "list" #[vb3,.int (kf i3) t3] c3)->s3.heap.IsListIter I l (j + 1 + 1)->(∃ n,ns[i3]?=some n/\RelV (V.int n) vb3)->i3 <= j + 1->J (j + 1 + 1) H3->(∀ j',j' <= j + 1->kf i3 <= kf j'/\(j' < i3->kf i3 < kf j')) ->
    ((Code.builtin "min.loop" ⟨[.ref I,key,.ref S],kw⟩).quiet=true/\codeAny (model X.prog X.w) X.A (.builtin "min.loop" ⟨[.ref I,key,.ref S],kw⟩) R s3):=fun s3 H3 vb3 i3 t3 c3 a1 a2 a3 a4 a5 a6 a7 a8 a9 =>
   ⟨plainId_quiet PySem.F.plain_min_loop _,ih (j + 1) i3 H3 s3 vb3 t3 c3 oM hlt a1 a2 a3 a4 a5 a6 a7 a8 a9⟩
  rcases turn (j + 1) n u _ _ H hn ru hJ V2 with ⟨hk0,hkf,J2⟩ | ⟨q,hkq,call0⟩
  ·subst hk0
   obtain ⟨t2,rfl⟩:=ru;refine yF (yG ?_)
   have:=rest t2 H _ V2 J2
   rw [hkf] at this;exact this _ _ aH
  ·subst hkq
   refine yF (wpAny_tryCatch (yQ (yR call0 (fun x s'' he=>?_) fun _ _ hF=>hF.elim)));obtain ⟨y,H3,V3,ry,rfl,J3⟩:=he;obtain ⟨t2,rfl⟩:=ry;exact rest t2 H3 s'' V3 J3 _ _ aH
end
section
variable {X:Cx}{Np:List (Addr × Obj)}{σ:St}{ko:Option Value}{kws:List (Str × Value)}{l:Addr}{ns:List Int}{H:Hp}{s:Shared}{Q:VK}{E:Value->Shared->Prop}
theorem qL (hh:X.A.handled=none) (kf:Nat->Int) (J:Nat->Hp->Prop) (hl:∀ i H,J i H->bA X.K H l (ns.map V.int))
  (hb:Builtin.Builtins.bindParams "min" ["key","default"] 0 ⟨[],kws⟩=pure [ko,some .none]) (ha:argsOk "min" ⟨[.ref l],kws⟩)
  (turn:∀ (i:Nat) (n:Int) (u:Value) (pl:List (Addr × Obj)) (s:Shared) (H:Hp),ns[i]?=some n->RelV (V.int n) u->J i H->Inv X (Np++pl) σ H s->(ko.getD .none=.none/\kf i=n/\J (i + 1) H) \/
   ∃ q,ko.getD .none=.ref q/\wpAny (model X.prog X.w) X.A.in1 (call (.ref q) [u]) (EP X (Np++pl) σ (fun y H'=>y=.int (kf i)/\J (i + 1) H')) (fun _ _=>False) s)
  (hQ:∀ (i:Nat) (n:Int) (H:Hp),ns[i]?=some n->(∀ j,j < ns.length->kf i <= kf j/\(j < i->kf i < kf j))->J ns.length H->Q (.int n) H) (hE:ns=[]->Q .non H)
  (Iv:Inv X Np σ H s) (J0:J 0 H):wpAny (model X.prog X.w) X.A (call (.builtin "min") [.ref l] kws) (EP X Np σ Q) E s:=by
 have hname:(toString "min"++toString ".loop":String)="min.loop":=by decide
 obtain ⟨Nu,rv,pl,_⟩:=Iv.list (hl _ _ J0);have hlen:Nu.length=ns.length:=by rw [<- rv.length,zH]
 have hL:s.heap.IsList l Nu.toArray:=pl.isList;obtain ⟨ol,hol,_⟩:=id hL;have hll:l < s.heap.objs.size:=yJ hol;refine kmk_tree PySem.F.kind_min PySem.F.plain_min PySem.F.entry_min ha ?_;show wpAny _ X.A.in1 (Builtin.Builtins.bindParams "min" ["key","default"] 0 ⟨[],kws⟩ >>= _) _ _ s;refine yF (wpAny_of_eq hb ?_);refine yF (yG ?_);refine yF (wpAny_pyIter_list hL ?_);refine yF (wpAny_newList ?_ (Nat.zero_le _));rw [hname];have hS:(s.heap.push { cls:=.type "list_iterator",data:=.fields #[.ref l,.int 0 0] }).objs.size=s.heap.objs.size + 1:=size_push' ..;have hlI:l ≠ s.heap.objs.size:=zU hll;refine yG ⟨plainId_quiet PySem.F.plain_min_loop _,?_⟩;generalize hI:s.heap.objs.size=I at *;generalize hSS:(s.heap.push { cls:=.type "list_iterator",data:=.fields #[.ref l,.int 0 0] }).objs.size=S at *;have nI:H I=none:=by rw [<- hI];exact Iv.fresh
 have nS:H S=none:=Iv.Ny.fresh (by rw [hS,hI];omega);have hIS:I ≠ S:=by rw [hS];omega
 have gI:((s.heap.push { cls:=.type "list_iterator",data:=.fields #[.ref l,.int 0 0] }).push (seqObj "list" #[] 0)).get? I=some { cls:=.type "list_iterator",data:=.fields #[.ref l,.int 0 0] }:=by
  rw [<- hI];exact zG _ (zY _ rfl)
 have gS:((s.heap.push { cls:=.type "list_iterator",data:=.fields #[.ref l,.int 0 0] }).push (seqObj "list" #[] 0)).get? S=some (seqObj "list" #[] 0):=by
  rw [<- hSS];exact zY _ rfl
 have kp:∀ b o,s.heap.get? b=some o->((s.heap.push { cls:=.type "list_iterator",data:=.fields #[.ref l,.int 0 0] }).push (seqObj "list" #[] 0)).get? b=some o:=fun b o e=>zG _ (zG _ e)
 have fI:BJ X Np I:=(Iv.fpOk (b:=I) (Nat.le_of_eq hI) nI).2;have fS:BJ X Np S:=(Iv.fpOk (b:=S) (by rw [hS,hI];omega) nS).2;generalize hH1:((s.heap.push { cls:=.type "list_iterator",data:=.fields #[.ref l,.int 0 0] }).push (seqObj "list" #[] 0))=h1 at gI gS kp;have V1:Inv X Np σ H { s with heap:=h1,toks:=s.toks }:=Iv.kept kp;have hL1:h1.IsList l Nu.toArray:=⟨ol,kp _ _ hol,by obtain ⟨o2,e2,r2⟩:=hL;rw [hol] at e2;cases e2;exact r2⟩;have it0:h1.IsListIter I l 0:=⟨_,gI,rfl,rfl⟩;have W:=Walks.list (prog:=X.prog) (w:=X.w) (A:=X.A.in1) hh I l hlI Nu.toArray;have hsz:Nu.toArray.size=Nu.length:=zI ..;have aH:∀ (i:Nat) (n:Int) (u:Value) (H:Hp) (s:Shared),ns[i]?=some n->(∀ j,j < ns.length->kf i <= kf j/\(j < i->kf i < kf j))->J ns.length H->Inv X Np σ H s->RelV (V.int n) u->EP X Np σ Q u s :=
  fun i n u H s e1 e2 e3 e4 e5=>⟨_,H,e4,e5,hQ i n H e1 e2 e3⟩
 show codeAny _ X.A (.builtin "min.loop" ⟨[.ref I,ko.getD .none,.ref S],[("default",.none)]⟩) _ { s with heap:=h1,toks:=s.toks };refine codeAny_builtin PySem.F.entry_min_loop ?_;rw [Around.under_plainId PySem.F.plain_min_loop _];show wpAny _ X.A.in1 (seqItems? (.ref S) >>= _) _ _ _;refine yF (wpAny_seqItems gS rfl ?_);show wpAny _ X.A.in1 (tryCatch (pyNext (.ref I)) _ >>= _) _ _ _;by_cases hn:ns=[]
 ·subst hn
  refine yF (wpAny_tryCatch (W.done _ _ _ ⟨by rw [hsz,hlen];exact it0,hL1⟩ fun h' tk' hk'=>?_));refine yF (wpAny_rule (yG ?_));exact ⟨.non,H,V1.turned (fun b o hb' e=>hk' b o (by simpa using hb') e) nI fI.1 fI.2.2.1 fI.2.2.2.1 fI.2.2.2.2,rfl,hE rfl⟩
 ·have hlt:0 < ns.length:=List.length_pos_iff.mpr hn
  refine yF (wpAny_tryCatch (W.item 0 _ _ _ (by rw [hsz];omega) ⟨it0,hL1⟩ fun u h' tk' hP hst' hk'=>?_));have hu:Nu[0]?=some u:=by simpa using hP
  obtain ⟨n,hn⟩:∃ n,ns[0]?=some n:=⟨_,zF hlt⟩;have ru:RelV (V.int n) u:=by
   obtain ⟨u',e1,e2⟩:=rv.get (i:=0) (x:=V.int n) (by rw [zR,hn];rfl);rw [hu] at e1;cases e1;exact e2
  have V2:Inv X Np σ H { s with heap:=h',toks:=tk' }:=V1.turned (fun b o hb' e=>hk' b o (by simpa using hb') e) nI fI.1 fI.2.2.1 fI.2.2.2.1 fI.2.2.2.2;have gS':=hk' S _ (by simpa using hIS.symm) gS;have hf:∀ b ∈ [I,S],dw X Np H b:=fun b hb'=>by
   rcases zT.mp hb' with rfl | hb'
   ·exact ⟨nI,fI⟩
   ·rw [zM.mp hb'];exact ⟨nS,fS⟩
  obtain ⟨oI,goI,coI,doI⟩:=hst'.1;have ho:∀ b ∈ [I,S],∃ o,h'.get? b=some o/\∀ v:Option Value,o.data ≠ .cell v:=fun b hb'=>by
   rcases zT.mp hb' with rfl | hb'
   ·exact ⟨_,goI,fun v z=>by rw [doI] at z;cases z⟩
   ·rw [zM.mp hb'];exact ⟨_,gS',fun v z=>nomatch z⟩
  have V3:Inv X (Np++fA [I,S] h') σ H { s with heap:=h',toks:=tk' }:=V2.pinned hf ho;have rest:∀ (t2:Tok) (H2:Hp) (s2:Shared),Inv X (Np++fA [I,S] h') σ H2 s2->J 1 H2 ->
    wpAny (model X.prog X.w) X.A.in1 ((do
     updateSeq S fun _=>#[u,.int (kf 0) t2]
     again (.builtin "min.loop" ⟨[.ref I,ko.getD .none,.ref S],[("default",.none)]⟩)):Sem PySem.Fin) (fun aH s'=>match aH with
      | .done f=>(match (Except.ok f:Result) with | .ok (.ret v)=>EP X Np σ Q v s' | .ok _=>False | .error e=>E e s')
      | .again c'=>c'.quiet=true/\codeAny (model X.prog X.w) X.A c' (fun r s'=>match r with | .ok (.ret v)=>EP X Np σ Q v s' | .ok _=>False | .error e=>E e s') s') (fun e s'=>E e s') s2:=by
   intro t2 H2 s2 V4 J2;have pI:=V4.pin (I,oI) (zK _ (zK _ (cY (by simp) goI)));have pS:=V4.pin (S,seqObj "list" #[] 0) (zK _ (zK _ (cY (by simp) gS')));have V5:Inv X Np σ H2 s2:=V4.unpinned;have s1:=Heap.SameBut.update s2.heap S (Obj.mapSeq fun _=>#[u,.int (kf 0) t2]);obtain ⟨c2,hc2⟩:∃ c2,(s2.heap.update S (Obj.mapSeq fun _=>#[u,.int (kf 0) t2])).get? S=some (seqObj "list" #[u,.int (kf 0) t2] c2):=⟨_,get?_update_seq pS.1 fun _=>#[u,.int (kf 0) t2]⟩;refine yF ?_;refine wpAny_updateSeq pS.1 rfl (yG ⟨plainId_quiet PySem.F.plain_min_loop _,?_⟩);obtain ⟨sh,sg,sd,stk,sos⟩:=s2;refine za hh kf J hl turn aH fI fS hIS _ 0 0 H2 _ u t2 c2 rfl hlt (V5.turned (t':=stk) (fun b o hb'' e=>(s1.2 b hb'').trans e) pS.2.1 fS.1 fS.2.2.1 fS.2.2.2.1 fS.2.2.2.2) pI.2.1 pS.2.1 hc2 ⟨oI,(s1.2 I hIS).trans pI.1,coI,doI⟩ ⟨n,hn,ru⟩ (zP _) J2 fun j' hj'=>?_
   have e:j'=0:=by omega
   subst e;exact ⟨by omega,fun h=>absurd h (yX _)⟩
  rcases turn 0 n u _ _ H hn ru J0 V3 with ⟨hk0,hkf,J2⟩ | ⟨q,hkq,call0⟩
  ·rw [hk0] at rest ⊢
   obtain ⟨t2,rfl⟩:=ru;refine yF (yG ?_)
   have:=rest t2 H _ V3 J2
   rw [hkf] at this;exact this
  ·rw [hkq] at rest ⊢
   refine yF (wpAny_tryCatch (yQ (yR call0 (fun x s'' he=>?_) fun _ _ hF=>hF.elim)));obtain ⟨y,H3,V4,ry,rfl,J3⟩:=he;obtain ⟨t2,rfl⟩:=ry;exact rest t2 H3 s'' V4 J3
end
end L2
namespace R
open PySem PySem.Spec PyProof.Rows L2
theorem xz:∀ {ps:List Str}{us:List Value},ps.Nodup->us.length=ps.length->ps.filterMap (fun n=>((ps.zip us).lookup n).map fun v=>(n,v))=ps.zip us/\ps.filter (fun n=>((ps.zip us).lookup n).isNone)=[]:=by
 have key:∀ {ps:List Str}{us:List Value},us.length=ps.length->∀ n ∈ ps,((ps.zip us).lookup n).isSome=true:=by
  intro ps
  induction ps with
  | nil=>intro us _ n hn;cases hn
  | cons p ps ih =>
   intro us hl n hn;cases us with
   | nil=>cases hl
   | cons u us =>
    rw [List.zip_cons_cons,yO];cases hb:n == p with
    | true=>rfl
    | false =>
     rcases zT.mp hn with rfl | hn
     ·simp at hb
     ·exact ih (by simpa using hl) n hn
 intro ps us nd hl;refine ⟨?_,List.filter_eq_nil_iff.mpr fun n hn=>by
  have:=key hl n hn
  cases h:(ps.zip us).lookup n with
  | none=>rw [h] at this;cases this
  | some v=>simp⟩
 -- the names ahead don't matter
 have gen:∀ (qs:List Str) (vs:List Value),qs.Nodup->vs.length=qs.length->∀ l:List (Str × Value),(∀ q ∈ qs,l.lookup q=(qs.zip vs).lookup q)->qs.filterMap (fun n=>(l.lookup n).map fun v=>(n,v))=qs.zip vs:=by
  intro qs
  induction qs with
  | nil=>intro vs _ _ l _;rfl
  | cons q qs ih =>
   intro vs nd hl l h;cases vs with
   | nil=>cases hl
   | cons v vs =>
    have h0:=h q z7;rw [List.zip_cons_cons,yO] at h0;simp only [beq_self_eq_true] at h0;rw [List.filterMap_cons,h0];rw [List.nodup_cons] at nd
    have:=ih vs nd.2 (by simpa using hl) l fun p hp=>by
     have:=h p (zQ _ hp)
     rw [List.zip_cons_cons,yO] at this;have ne:(p == q)=false:=by
      have:p ≠ q:=fun e=>nd.1 (e ▸ hp)
      simpa using this
     rw [ne] at this;exact this
    simp only [map_some];rw [this];rfl
 exact gen ps us nd hl _ fun _ _=>rfl
noncomputable def plainA (a:Arguments):Bool:=a.posonlyargs.isEmpty && a.vararg.isNone && a.kwonlyargs.isEmpty && a.kwarg.isNone
theorem bind_plain (hp:plainA fd.params=true) (hd:fd.defaults=.none) (nd:(fd.params.args.map (·.arg)).Nodup) (hl:us.length=(fd.params.args.map (·.arg)).length):bindArgs fd ⟨us,[]⟩=pure ((fd.params.args.map (·.arg)).zip us):=by
 unfold plainA at hp;simp only [zC,List.isEmpty_iff,Option.isNone_iff_eq_none] at hp;obtain ⟨⟨⟨h1,h2⟩,h3⟩,h4⟩:=hp;obtain ⟨z1,z2⟩:=xz nd hl;have hs:seqItems? fd.defaults=(do notAStandIn Value.none;pure none):=by rw [hd];rfl
 have hn:notAStandIn Value.none=pure ():=rfl;unfold bindArgs;simp only [h1,h2,h3,h4,hs,hn];simp only [List.map_nil,List.nil_append,List.forIn_nil,pure_bind,List.append_nil];rw [yH (by simp [hl])];simp only [Option.getD_none,List.length_nil,Nat.sub_zero,List.drop_nil,List.take_length,z2,List.isEmpty_nil,Bool.not_true,yB,if_false,List.drop_length,List.zip_nil_left,List.forIn_nil,pure_bind,z1]
end R
namespace L2
open PySem PySem.Spec PyProof.Rows
def iA (mg:Str->Option Value) (base:Heap):Prop:=∃ bm o,mg "__builtins__"=some (.ref bm)/\bm ≠ builtinsNs/\bm ≠ mainGlobals/\base.get? bm=some o/\o.cls=.type "module"/\o.dict=some builtinsNs/\o.data=.plain
noncomputable def fG (c:Addr) (q:Str):HO:=.ext fun h=>h.CodeRec (.ref c) q
section
variable {X:Cx}{Np:List (Addr × Obj)}{σ:St}{H:Hp}{s:Shared}
theorem Inv.grown {t':Nat} (I:Inv X Np σ H s) (hP:H P=some (.tbl ps)) (hx:Heap.ExtBut P s.heap h') (hc:s.heap.objs.size <= c') (hr:h'.CodeRec (.ref c') q)
  (gP:h'.get? P=some (tabObj (ps++more))):Inv X Np σ (af (af H P (.tbl (ps++more))) c' (fG c' q)) { s with heap:=h',toks:=t' }:=by
 have gP0:s.heap.get? P=some (tabObj ps):=I.Ny P _ hP;have hcn:H c'=none:=I.Ny.fresh hc;have hPc:P ≠ c':=zU (zJ (yJ gP0) hc);have nb:∀ b u,H b=some u->b ≠ c':=fun b u e z=>by rw [z,hcn] at e;cases e
 have hH:∀ b,b ≠ P->b ≠ c'->af (af H P (.tbl (ps++more))) c' (fG c' q) b=H b:=fun b h1 h2=>by rw [ae h2,ae h1]
 refine I.un ⟨fun b o e n _ _=>hx b o (fun z=>by rw [z,hP] at n;cases n) e,fun b o e n _ _=>⟨o.slots,hx b o (fun z=>by rw [z,hP] at n;cases n) e⟩,fun b o e n _=>?_,fun b o e _=>?_,fun b xs e=>?_,fun b o u e=>?_,fun b qs e=>?_⟩ fun b u e=>?_
 ·rw [hH b (fun z=>by rw [z,hP] at n;cases n) (zU (zJ (yJ e) hc))];exact n
 ·by_cases hb:b=P
  ·exact ⟨_,hb ▸ gP⟩
  ·exact ⟨o,hx b o hb e⟩
 ·rw [hH b (fun z=>by rw [z,hP] at e;cases e) (nb _ _ e)];exact e
 ·rw [hH b (fun z=>by rw [z,hP] at e;cases e) (nb _ _ e)];exact e
 ·by_cases hb:b=P
  ·subst hb
   rw [hP] at e;cases e;exact ⟨more,by rw [ae hPc,aw]⟩
  ·exact ⟨#[],by rw [hH b hb (nb _ _ e),e];simp⟩
 ·by_cases h1:b=c'
  ·subst h1
   rw [aw] at e;cases e;obtain ⟨c,oc,vs,t,e1,e2,e3⟩:=id hr;cases e1;refine ⟨hr,⟨oc,e2⟩,fun h1 h2 hq0 k=>?_⟩;obtain ⟨c,oc,vs,t,e1,e2,e3⟩:=hq0;cases e1;exact ⟨_,oc,vs,t,rfl,k _ e2,e3⟩
  ·rw [ae h1] at e
   by_cases h2:b=P
   ·subst h2
    rw [aw] at e;cases e;exact gP
   ·rw [ae h2] at e
    refine (I.Ny b u e).stay (fun d v hd q=>hx d v (fun z=>?_) q) (fun d q=>?_) fun d xs q=>?_
    ·rcases hd with z2 | z2
     ·exact h2 (z2.symm.trans z)
     ·rw [z,hP] at z2;cases z2
    ·rw [hH d (fun z=>by rw [z,hP] at q;cases q) (nb _ _ q)];exact q
    ·rw [hH d (fun z=>by rw [z,hP] at q;cases q) (nb _ _ q)];exact q
abbrev uU (mg:Str->Option Value) (qual:Str) (params:Arguments) (body:Expr) (scope:Scope) (cl:List (Str × Addr)) (cv ctv:Value):Obj :=
 { cls:=.type "function",data:=.func (kla_fn "<lambda>" qual params body scope cl ((mg "__name__").getD .none) cv ctv) }
def fv (H:Hp) (P:Addr) (pos:Pos) (q:Str):Prop:=∃ ps,H P=some (.tbl ps)/\TriplesOk ps.toList/\(codeAmong pos ps.toList=none\/∃ c,codeAmong pos ps.toList=some (.ref c)/\H c=some (fG c q))
theorem zn (I:Inv X Np σ H s) (hdef:defaultsOf params X.env=([],[])) (hcode:X.env.code=.ref c)
  (C:CodeHd X.base c P) (B:iA X.mg X.base) (hcl:closureFor scope X.env=pure cl) (T:fv H P pos (X.env.qual++"<lambda>"))
  (h:∀ f c' ctv H' s',(H'=H\/∃ ps more,H P=some (.tbl ps)/\H c'=none/\P ≠ c'/\H'=af (af H P (.tbl (ps++more))) c' (fG c' (X.env.qual++"<lambda>")))->fv H' P pos (X.env.qual++"<lambda>")->H' c'=some (fG c' (X.env.qual++"<lambda>")) ->
   Inv X (Np++[(f,uU X.mg (X.env.qual++"<lambda>") params body scope cl (.ref c') ctv)]) σ H' s'->Q (.ref f) s') :
  wpAny (model X.prog X.w) X.A (eval (.Lambda params body scope pos) X.env) Q E s:=by
 refine kla_eval hdef ?_;obtain ⟨ps,hP,ht,hc⟩:=T;have gP:s.heap.get? P=some (tabObj ps):=I.Ny P _ hP;have hg:s.heap.Ns mainGlobals X.mg:=I.mod.glob.keeps I.bk;have hgP:mainGlobals ≠ P:=fun q=>by
  obtain ⟨o,es,ep,e,hd,_⟩:=hg;rw [q,gP] at e;cases e;cases hd
 obtain ⟨bm,ob,b1,b2,b3,b4,b5,b6,b7⟩:=B;have hbP:bm ≠ P:=fun q=>by
  have:=(I.bs bm ob b4).2
  rw [q,hP] at this;cases this
 have hb:s.heap.BuiltinsAt X.mg P:=⟨bm,ob,b1,b2,b3,hbP,I.bk _ _ b4,b5,b6,b7⟩;have C':CodeHd s.heap c P:=C.keeps I.bk
 -- the function's object,laid over h1
 have last:∀ (H1:Hp) (h1:Heap) (tk1:Nat) (o:Obj),Inv X Np σ H1 { s with heap:=h1,toks:=tk1 }->(∀ v,o.data ≠ .cell v)->o.isFreed=false->Inv X (Np++[(h1.objs.size,o)]) σ H1 { s with heap:=h1.push o,toks:=tk1 }:=by
  intro H1 h1 tk1 o J hd hfr;have J2:Inv X Np σ H1 { s with heap:=h1.push o,toks:=tk1 }:=J.kept fun b u e=>zG _ e
  have fp:=J.fpOk (b:=h1.objs.size) (zP _) J.fresh;refine J2.pins_of fun p hp=>?_
  rcases zZ.mp hp with hp | hp
  ·exact J2.pin p (zK _ hp)
  ·rw [zM.mp hp]
   exact ⟨zY _ hfr,fp.1,fp.2.1,fp.2.2.1,hd⟩
 rcases hc with hn | ⟨c',hc,hx⟩
 ·refine kla_makeFunction (mg:=X.mg) hcl I.ok.glob hg hcode C' gP ht hn hgP hb fun c' ctv h' tk hx hge hlt hrec htb=>?_
  have hPc:P ≠ c':=zU (zJ (yJ gP) hge);have J:=I.grown (t':=tk) hP hx hge hrec htb;have e1:af (af H P (.tbl (ps++#[rawInt pos.line,rawInt pos.col,.ref c']))) c' (fG c' (X.env.qual++"<lambda>")) P=some (.tbl (ps++#[rawInt pos.line,rawInt pos.col,.ref c'])):=by rw [ae hPc,aw]
  refine h _ c' ctv _ _ (.inr ⟨ps,_,hP,I.Ny.fresh hge,hPc,rfl⟩) ⟨_,e1,?_,.inr ⟨c',?_,aw⟩⟩ aw (last _ h' tk _ J (fun v z=>nomatch z) rfl)
  ·rw [Array.toList_append];exact TriplesOk_snoc _ _ _ _ ht
  ·rw [Array.toList_append];exact codeAmong_snoc _ ht hn
 ·refine kla_makeFunctionHit (mg:=X.mg) hcl I.ok.glob hg hcode C' gP ht hc hb fun ctv h' tk hk hge=>?_
  exact h _ c' ctv H _ (.inl rfl) ⟨ps,hP,ht,.inr ⟨c',hc,hx⟩⟩ hx (last H h' tk _ (I.kept hk) (fun v z=>nomatch z) rfl)
def rC (X:Cx) (N':List Str) (scope:Scope) (cl:List (Str × Addr)) (f:Addr) (qual:Str) (cd:Value) (A:Around) (s:Shared) (H:Hp):Cx :=
 { X with N:=N',s₀:=s,H₀:=H,env:=newEnv scope s.heap.objs.size mainGlobals cl (qual++".<locals>.") (some f) cd none builtinsNs,outer:=X.stack,stack:=newEnv scope s.heap.objs.size mainGlobals cl (qual++".<locals>.") (some f) cd none builtinsNs::X.stack,
          A:=A.deeper (newEnv scope s.heap.objs.size mainGlobals cl (qual++".<locals>.") (some f) cd none builtinsNs),ex:=[],fn:=fun _=>false,calm:=true,pn:=[],xe:=fun _ _=>False }
structure vv (X:Cx) (N':List Str) (scope:Scope) (x:Str):Prop where
 cy:jT X N' scope
 co:scope.isCoroutine=false
 gen:scope.isGenerator=false
 len:N'.length=X.N.length + 1
 own:N'[X.N.length]?=some x
 loc:scope.names.lookup x=some .local
 nc:∀ y ∈ scope.names,y.2 ≠ .cell
theorem Ah {t':Nat} (T:vv X N' scope x) (I:Inv X Np σ H s) (hfm:A.frames=some X.stack) (hh:A.handled=none)
  (hcl:∀ p ∈ cl,X.env.cells.lookup p.1=some p.2) (hfr:∀ x,(x,NameKind.free) ∈ scope.names->∃ c,(x,c) ∈ cl) (r:RelV v u)
  (hn:h'.Ns s.heap.objs.size (fun y=>[(x,u)].reverse.lookup y)) (hs:Heap.SameBut s.heap.objs.size (s.heap.push { cls:=.type "frame",data:=.dict #[] }) h') :
  Inv (rC X N' scope cl f qual cd A s H) [] (σ++[some v]) H { s with heap:=h',toks:=t' }:=by
 have keep:∀ b o,s.heap.get? b=some o->h'.get? b=some o:=fun b o e=>(hs.2 b (zU (yJ e))).trans (zG _ e)
 have look:∀ x,(x,NameKind.free) ∈ scope.names->∃ c,cl.lookup x=some c/\X.env.cells.lookup x=some c:=fun x hx=>by
  obtain ⟨c,hc⟩:=hfr x hx;obtain ⟨c2,hc2⟩:=fg hc;exact ⟨c2,hc2,hcl _ (mem_of_lookup hc2)⟩
 have noA:∀ b:Addr,b ∉ (rC X N' scope cl f qual cd A s H).ex:=fun b z=>absurd (show b ∈ ([]:List Addr) from z) (by simp)
 refine ⟨⟨I.ok.mod,T.cy.kind,rfl,rfl,zP _,fun y z c h1 h2=>?_,fun y hy=>?_,fun y c h=>(by cases h),fun _=>hh,Around.frames_deeper hfm,.inr ⟨rfl,rfl⟩,fun b z=>absurd z (noA b),I.bs,z5 I.ok.bsz I.sz,fun b _ _=>noA b,fun b z=>absurd z (noA b),I.stack,I.stkFree⟩,
  rfl,I.bare,Un.kept keep,⟨_,hn,fun i y w e1 e2 e3=>?_⟩,fun y c h=>?_,I.Ny.fresh (zP _),fun y c h=>?_,fun p hp=>absurd (show p ∈ ([]:List (Addr × Obj)) from hp) (by simp),I.Ny.kept keep,?_⟩
 ·exact I.ok.inj y z c (hcl _ (mem_of_lookup h1)) (hcl _ (mem_of_lookup h2))
 ·have hy:scope.names.lookup y=some .cell\/scope.names.lookup y=some .free:=hy
  rcases hy with hy | hy
  ·exact absurd rfl (T.nc _ (mem_of_lookup hy))
  ·obtain ⟨c,hc,_⟩:=look y (mem_of_lookup hy)
   exact ⟨c,hc⟩
 ·have hlen:=I.len
  rcases yS i σ.length with hi | hi
  ·rw [zN hi] at e2
   have hmem:∃ k,(y,k) ∈ scope.names:=by
    rcases e3 with h | h | h <;> exact ⟨_,mem_of_lookup h⟩
   have hfree:=T.cy.hid i y oM e1 hmem;have eX:=T.cy.same i y oM e1 hfree;have kX:=T.cy.free y hfree;obtain ⟨m,hn2,hl⟩:=I.loc;obtain ⟨u2,ru,lk⟩:=hl i y w eX e2 (by rcases kX with h | h;exact .inr (.inl h);exact .inr (.inr h));refine ⟨u2,ru,.inr ⟨.inr (cK T.cy.nd hfree),?_⟩⟩;rcases lk with ⟨k1,_⟩ | ⟨_,c,hc,z⟩
   ·rcases kX with h | h <;> rw [h] at k1 <;> cases k1
   ·obtain ⟨c2,q1,q2⟩:=look y hfree
    rw [hc] at q2;cases q2;exact ⟨c,q1,z.keeps keep⟩
  ·rw [z6 hi] at e2
   have hi0:i - σ.length=0:=by
    rcases Nat.eq_zero_or_pos (i - σ.length) with z | z
    ·exact z
    ·rw [List.getElem?_eq_none (show [some v].length <= _ from z)] at e2;cases e2
   rw [hi0] at e2;cases e2;have hi1:i=X.N.length:=by omega
   subst hi1;have e1:N'[X.N.length]?=some y:=e1;rw [T.own] at e1;cases e1;exact ⟨u,r,.inl ⟨T.loc,by simp⟩⟩
 ·obtain ⟨w,z⟩:=I.cell y c (hcl _ (mem_of_lookup h))
  exact ⟨w,z.keeps keep⟩
 ·exact I.freeC y c (hcl _ (mem_of_lookup h))
 ·show (σ++[some v]).length=N'.length
  rw [zV,I.len,T.len];rfl
theorem zo (T:vv X N' scope x) (I:Inv X Np σ H s) (hfm:A.frames=some X.stack) (hh:A.handled=none)
  (hd:A.depth < recursionLimit) (hcl:∀ p ∈ cl,X.env.cells.lookup p.1=some p.2) (hfr:∀ x,(x,NameKind.free) ∈ scope.names->∃ c,(x,c) ∈ cl) (hp:R.plainA params=true) (hps:params.args.map (·.arg)=[x])
  (hf:s.heap.get? f=some (uU X.mg qual params body scope cl (.ref c') ctv)) (hr:s.heap.CodeRec (.ref c') qual)
  (he:∀ s H,PE (rC X N' scope cl f qual (.ref c') A s H) body te) (r:RelV v u) (h:te (σ++[some v]) H Q) :
  wpAny (model X.prog X.w) A (call (.ref f) [u]) (EP X Np σ Q) E s:=by
 refine wpAny_call (kla_callFunE hd hf rfl T.co T.gen rfl hr ?_);have hb:bindArgs (kla_fn "<lambda>" qual params body scope cl ((X.mg "__name__").getD .none) (.ref c') ctv) ⟨[u],[]⟩=pure [(x,u)]:=by
  have:=R.bind_plain (fd:=kla_fn "<lambda>" qual params body scope cl ((X.mg "__name__").getD .none) (.ref c') ctv) (us:=[u]) hp rfl (by show (params.args.map (·.arg)).Nodup;rw [hps];simp) (by show _=(params.args.map (·.arg)).length;rw [hps];rfl)
  rw [this];show pure ((params.args.map (·.arg)).zip [u])=_;rw [hps];rfl
 rw [hb];refine yG ?_;refine wpAny_newFunctionEnv (around:=none) (fun y hy=>T.nc y hy) (fun y hy=>by rw [zM.mp hy];exact T.loc) (fun h' hn hs=>?_) T.cy.kind;have hs:Heap.SameBut s.heap.objs.size (s.heap.push { cls:=.type "frame",data:=.dict #[] }) h':=hs;have keep:∀ b o,s.heap.get? b=some o->h'.get? b=some o:=fun b o e=>(hs.2 b (zU (yJ e))).trans (zG _ e)
 refine ⟨I.nolimit.keeps keep,kla_codeExpr ?_⟩;have J:=Ah (cd:=.ref c') (f:=f) (qual:=qual) (t':=s.toks + [(x,u)].length) T I hfm hh hcl hfr r hn hs;refine yR (he s H [] _ (σ++[some v]) H Q J h) (fun w s' hq0=>?_) fun e s' z=>z.elim
 obtain ⟨y,H',J',ry,q⟩:=hq0;exact I.after ⟨y,H',J'.os,J'.bare,J'.base,J'.Ny,ry,q⟩
end
theorem wH (h:gY k v=true):RelV (kV k) v:=by
 cases k with
 | inl i =>
  cases v <;> first | (cases h;done) | skip
  rename_i j t;have e:j=i:=by simpa [gY,Value.isInt] using h
  subst e;exact ⟨t,rfl⟩
 | inr x =>
  cases v <;> first | (cases h;done) | skip
  rename_i y t;have e:y=x:=by simpa [gY,Value.isStrOf] using h
  subst e;exact ⟨t,rfl⟩
theorem C4 {κ:Type}{Nr:List (κ × V)}{vs:List (κ × Value)} (r:KV Nr vs):Nr.map (·.1)=vs.map (·.1):=by
 induction r with
 | nil=>rfl
 | cons h t ih=>simp only [zO];rw [h.1,ih]
def J1 (d:Addr) (o:Obj) (Nr:List (aZ × V)):It :=
 ⟨fun i H=>H d=some (.frz o (.dK Nr))/\i < Nr.length,fun i H x H'=>H'=H/\(Nr.map fun p=>kV p.1)[i]?=some x,fun i H=>H d=some (.frz o (.dK Nr))/\Nr.length <= i⟩
theorem rg {ep:Nat} (I:Inv X Np σ H s) (h:H d=some (.frz o (.dK Nr))) (ho:o.data=.dict es ep) :
  ∃ vs,KV Nr vs/\s.heap.DictAt (bO X.prog X.w) d vs ep:=by
 obtain ⟨e1,_,_,vs,r,ob,es',ep',e2,c1,c2,c3⟩:=I.Ny d _ h;rw [e1] at e2;cases e2;rw [ho] at c2;cases c2;exact ⟨vs,r,o,es,e1,c1,ho,c3⟩
theorem vE {P:Program}{w:World}{K:Frag}{tg:Expr}{d:Addr}{o:Obj}{Nr:List (aZ × V)}{es:Array DictEntry}{ep:Nat} (it:Addr) (hd:o.data=.dict es ep):jc P w K tg (J1 d o Nr) [it] it (fun i h=>h.IsKeyIter it d i Nr.length ep) where
 mem:=by simp
 obj:=fun i h st b hb=>by
  obtain rfl:b=it:=by simpa using hb
  obtain ⟨o,e,c,d⟩:=st;exact ⟨o,e,fun v z=>by rw [d] at z;cases z⟩
 keep:=fun i h h' st k=>let ⟨o,e,r⟩:=st;⟨o,k it (by simp) _ e,r⟩
 item:=by
  intro X hP hw hK hc i Np s σ H E I hf st hg;subst hP hw hK;obtain ⟨hg,hi⟩:=hg;obtain ⟨vs,r,da⟩:=rg I hg hd;have hl:Nr.length=vs.length:=Paired.length r;obtain ⟨f0,f1,f2,f3,f4,f5⟩:=hf it (by simp);obtain ⟨q,hq⟩:∃ q,vs[i]?=some q:=⟨_,zF oM⟩;have hk:Nr[i]?.map (·.1)=vs[i]?.map (·.1):=by
   rw [<- zR,<- zR,C4 r]
  rw [hl] at st;refine wpAny_pyNext_dict_item st da (k:=q.1) (v:=q.2) hq fun key h' hkey st' sb=>?_
  have I1:Inv X Np σ H { s with heap:=h' }:=I.turned (t':=s.toks) (fun b o hb e=>(sb.2 b hb).trans e) f0 f1 f3 f4 f5;obtain ⟨o',e,c,dd⟩:=id st';refine ⟨key,rfl,lR (s:={ s with heap:=h' }) e c dd dC ⟨kV q.1,H,I1,wH hkey,⟨rfl,?_⟩,by rw [hl];exact st',fun b hb=>(hf b hb).1⟩⟩;rw [zR];rw [hq] at hk;cases hkv:Nr[i]? with
  | none=>rw [hkv] at hk;cases hk
  | some p=>rw [hkv] at hk;simp at hk;simp [hk]
 done:=by
  intro X hP hw hK hc i Np s σ H E I hf st hg;subst hP hw hK;obtain ⟨hg,hi⟩:=hg;obtain ⟨vs,r,da⟩:=rg I hg hd;have hl:Nr.length=vs.length:=Paired.length r;obtain ⟨f0,f1,f2,f3,f4,f5⟩:=hf it (by simp);rw [hl] at st;exact wpAny_pyNext_dict_end (I.ok.hd hc) st da (List.getElem?_eq_none oM) fun h' eb=>⟨rfl,I.turned (t':=s.toks) (fun b o hb e=>eb b o hb e) f0 f1 f3 f4 f5⟩
 self:=fun A i s Q E st h=>wpAny_pyIter_keyiter st h
section
variable {X:Cx}{Np:List (Addr × Obj)}{σ:St}{H:Hp}{s:Shared}{d:Addr}{Nr:List (aZ × V)}{o:Obj}
theorem Inv.frzD (I:Inv X Np σ H s) (h:H d=some (.dK Nr)) (e:s.heap.get? d=some o):Inv X Np σ (af H d (.frz o (.dK Nr))) { s with toks:=s.toks }:=by
 have ne:∀ b u,H b=some u->(∀ Nr,u ≠ .dK Nr)->b ≠ d:=fun b u q n z=>by rw [z,h] at q;cases q;exact n _ rfl
 refine I.un (h':=s.heap) ⟨fun b o e _ _ _=>e,fun b o e _ _ _=>⟨o.slots,e⟩,fun b o e n _=>by rw [ae (fun z=>by rw [z,h] at n;cases n)];exact n,fun b o e _=>⟨o,e⟩,fun b xs q=>by rw [ae (ne b _ q fun _ z=>nomatch z)];exact q,fun b o u q=>by rw [ae (ne b _ q fun _ z=>nomatch z)];exact q,
  fun b ps q=>⟨#[],by rw [ae (ne b _ q fun _ z=>nomatch z),q];simp⟩⟩ fun b u q=>?_
 have st:∀ b u,H b=some u->ObjOk X.prog X.w (af H d (.frz o (.dK Nr))) s.heap b u:=fun b u q=>(I.Ny b u q).stay (fun _ _ _ z=>z) (fun c z=>by rw [ae (ne c _ z fun _ y=>nomatch y)];exact z) fun c xs z=>by rw [ae (ne c _ z fun _ y=>nomatch y)];exact z
 by_cases hb:b=d
 ·subst hb;rw [aw] at q;cases q;exact ⟨e,st _ _ h⟩
 ·rw [ae hb] at q;exact st b u q
theorem Inv.thawD (I:Inv X Np σ H s) (h:H d=some (.frz o (.dK Nr))) (hn:∀ o u,X.H₀ d ≠ some (.frz o u)):Inv X Np σ (af H d (.dK Nr)) s:=by
 have ne:∀ b u,H b=some u->(∀ o u',u ≠ .frz o u')->b ≠ d:=fun b u q n z=>by rw [z,h] at q;cases q;exact n _ _ rfl
 have nn:∀ b,H b=none->b ≠ d:=fun b q z=>by rw [z,h] at q;cases q
 have Ny:HOk X.prog X.w (af H d (.dK Nr)) s.heap:=fun b u q=>by
  have st:∀ b u,H b=some u->ObjOk X.prog X.w (af H d (.dK Nr)) s.heap b u:=fun b u q=>(I.Ny b u q).stay (fun _ _ _ z=>z) (fun c z=>by rw [ae (ne c _ z fun _ _ y=>nomatch y)];exact z) fun c xs z=>by rw [ae (ne c _ z fun _ _ y=>nomatch y)];exact z
  by_cases hb:b=d
  ·subst hb;rw [aw] at q;cases q;exact (st _ _ h).2
  ·rw [ae hb] at q;exact st b u q
 refine ⟨I.ok,I.os,I.bare,⟨I.base.keep,I.base.slot,fun b o e n hx=>by rw [ae (nn b (I.base.free b o e n hx))];exact I.base.free b o e n hx,I.base.there,fun b xs e=>by rw [ae (ne b _ (I.base.tups b xs e) fun _ _ y=>nomatch y)];exact I.base.tups b xs e,
  fun b o u e=>by rw [ae (fun z=>hn o u (by rw [<- z];exact e))];exact I.base.frzs b o u e,fun b ps e=>?_⟩,I.loc,I.cell,by rw [ae (nn _ I.free)];exact I.free,fun x c e=>by rw [ae (nn _ (I.freeC x c e))];exact I.freeC x c e,
  fun p hp=>by obtain ⟨a1,a2,a3⟩:=I.pin p hp;exact ⟨a1,by rw [ae (nn _ a2)];exact a2,a3⟩,Ny,I.len⟩
 obtain ⟨more,q⟩:=I.base.tbls b ps e;exact ⟨more,by rw [ae (ne b _ q fun _ _ y=>nomatch y)];exact q⟩
end
section
variable {X:Cx}{tg iter:Expr}{te:TE}
def Ie (n0:Hp) (te:TE):TI:=fun σ H R=>te σ H fun x H1=>∃ d Nr,x=.ref d/\H1 d=some (.dK Nr)/\∀ o,(∀ o u,n0 d ≠ some (.frz o u))->R (J1 d o Nr) (af H1 d (.frz o (.dK Nr)))
theorem Cv (hl:PE X iter te):PI X tg iter (Ie X.H₀ te):=by
 intro Np s σ H R I h;refine aE (hl Np s σ H _ I h) fun v s1 hq0=>?_
 obtain ⟨x,H1,I1,r1,d,Nr,e,hd,q⟩:=hq0;subst e;cases r1;obtain ⟨hz,hsys,vs,rv,ob,es,ep,e1,c1,c2,c3⟩:=I1.Ny d _ hd;have hl:Nr.length=vs.length:=Paired.length rv;have hn:∀ o u,X.H₀ d ≠ some (.frz o u):=fun o u z=>by
  have:=I1.base.frzs d o u z
  rw [hd] at this;cases this
 have I2:=I1.frzD hd e1;refine wpAny_pyIter_dict hsys (knd:=bO X.prog X.w) ⟨ob,es,e1,c1,c2,c3⟩ ?_;have I3:Inv X Np σ (af H1 d (.frz ob (.dK Nr))) { s1 with heap:=s1.heap.push { cls:=.type "dict_keyiterator",data:=.fields #[.ref d,.int 0 0,.int vs.length 0,.int ep 0] },toks:=s1.toks }:=I2.kept fun b o e=>zG _ e
 refine ⟨s1.heap.objs.size,[s1.heap.objs.size],_,_,_,rfl,I3,vE (Nr:=Nr) _ c2,⟨_,zY _ rfl,rfl,by rw [hl];rfl⟩,fun b hb=>?_,q ob hn⟩;obtain rfl:b=s1.heap.objs.size:=by simpa using hb
 exact I2.fpOk (zP _) I2.fresh
def pQ (n0:Hp) (D:je):je:={ nx:=fun σ H=>∃ d o Nr,H d=some (.frz o (.dK Nr))/\(∀ o u,n0 d ≠ some (.frz o u))/\D.nx σ (af H d (.dK Nr)),rt:=fun v H=>∃ d o Nr,H d=some (.frz o (.dK Nr))/\(∀ o u,n0 d ≠ some (.frz o u))/\D.rt v (af H d (.dK Nr)) }
theorem Cn {st:Stmt}{t:TS} (h:PS X st t):PS X st (fun D σ H=>t (pQ X.H₀ D) σ H):=by
 intro Np s σ H D I q;refine aE (h Np s σ H (pQ X.H₀ D) I q) fun f s' hs=>?_
 cases f with
 | next=>obtain ⟨σ',H',J,d,o,Nr,e,n,q⟩:=hs;exact ⟨σ',_,J.thawD e n,q⟩
 | ret u=>obtain ⟨v,σ',H',J,r,d,o,Nr,e,n,q⟩:=hs;exact ⟨v,σ',_,J.thawD e n,r,q⟩
 | brk=>obtain ⟨_,_,_,q⟩:=hs;exact q.elim
 | cont=>obtain ⟨_,_,_,q⟩:=hs;exact q.elim
end
end L2
namespace R
open PySem L2
inductive AV where
 | non | bl (b:Bool) | int (i:Int) | str (x:Str) | ref (k:Nat) | tup (xs:List AV) | fz (xs:List AV)
inductive Nq where
 | lst (xs:List AV) | al (t:AV) | dK (Nr:List (aZ × AV)) | dT (Nr:List (List aZ × AV)) | ins (c:Str) (fs:List (Str × AV)) | wk (Nr:List (aZ × AV))
abbrev aa:=List Nq
abbrev Sl:=List (Option AV)
abbrev Pr:=Addr->Prop
class Nt where
 tb:List (Addr × Pos × Str)
structure Gm where
 K:Frag
 mg:Str->Option Value
def FLk (mg:Gm) (P:Pr) (H:Hp) (a:Addr) (vs:List V):Prop:=(P a/\Rd H a (.lst vs))\/∀ H',bA mg.K H' a vs
mutual
def RA (mg:Gm) (P:Pr) (H:Hp) (φ:List Addr):AV->V->Prop
 | .non,v=>v=.non
 | .bl b,v=>v=.bl b
 | .int i,v=>v=.int i
 | .str x,v=>v=.str x
 | .ref k,v=>∃ a,φ[k]?=some a/\v=.ref a
 | .tup xs,v=>∃ a vs,v=.ref a/\P a/\H a=some (.tup vs)/\Nv mg P H φ xs vs
 | .fz xs,v=>∃ a vs,v=.ref a/\FLk mg P H a vs/\Nv mg P H [] xs vs
def Nv (mg:Gm) (P:Pr) (H:Hp) (φ:List Addr):List AV->List V->Prop
 | [],vs=>vs=[]
 | x::xs,vs=>∃ v ws,vs=v::ws/\RA mg P H φ x v/\Nv mg P H φ xs ws
end
theorem ba:Nv mg P H φ [] []:=by simp only [Nv]
theorem aU (h:RA mg P H φ x v) (t:Nv mg P H φ xs vs):Nv mg P H φ (x::xs) (v::vs):=by simp only [Nv];exact ⟨v,vs,rfl,h,t⟩
structure Frm (P:Pr) (φ:List Addr) (H:Hp) (P':Pr) (φ':List Addr) (H':Hp):Prop where
 ext:∀ a,P a->P' a/\H' a=H a
 new:∃ more,φ'=φ++more/\∀ a ∈ more,H a=none
 keep:∀ a,H a ≠ none->a ∉ φ->(∀ ps,H a ≠ some (.tbl ps))->H' a=H a
 pn:∀ a,P' a->P a\/H a=none\/a ∈ φ
 sm:∀ a,H a ≠ none->H' a ≠ none
 fz:∀ a o u,H a=some (.frz o u)->H' a=some (.frz o u)
theorem Frm.refl:Frm P φ H P φ H:=⟨fun _ h=>⟨h,rfl⟩,⟨[],by simp,by simp⟩,fun _ _ _ _=>rfl,fun _ h=>.inl h,fun _ h=>h,fun _ _ _ h=>h⟩
theorem Frm.trans {P P1 P2:Pr}{φ φ1 φ2:List Addr}{H H1 H2:Hp} (a:Frm P φ H P1 φ1 H1) (b:Frm P1 φ1 H1 P2 φ2 H2):Frm P φ H P2 φ2 H2:=by
 obtain ⟨m1,e1,n1⟩:=a.new;obtain ⟨m2,e2,n2⟩:=b.new;have nn:∀ x,H1 x=none->H x=none:=fun x h=>by
  cases e:H x with
  | none=>rfl
  | some o=>exact absurd h (a.sm x (by rw [e];exact fun z=>nomatch z))
 refine ⟨fun x h=>?_,⟨m1++m2,by rw [e2,e1,yN],fun x h=>?_⟩,fun x h1 h2 h3=>?_,fun x h=>?_,fun x h=>b.sm x (a.sm x h),fun x o u h=>b.fz x o u (a.fz x o u h)⟩
 ·obtain ⟨h1,e⟩:=a.ext x h
  obtain ⟨h2,e'⟩:=b.ext x h1;exact ⟨h2,e'.trans e⟩
 ·rcases zZ.mp h with h | h
  ·exact n1 x h
  ·exact nn x (n2 x h)
 ·have e:=a.keep x h1 h2 h3
  refine (b.keep x (by rw [e];exact h1) (fun z=>?_) (by rw [e];exact h3)).trans e;rw [e1] at z;rcases zZ.mp z with z | z
  ·exact h2 z
  ·exact h1 (n1 x z)
 ·rcases b.pn x h with h | h | h
  ·exact a.pn x h
  ·exact .inr (.inl (nn x h))
  ·rw [e1] at h
   rcases zZ.mp h with h | h
   ·exact .inr (.inr h)
   ·exact .inr (.inl (n1 x h))
theorem Rd.at (h:Rd H a u) (e:H' a=H a):Rd H' a u:=by
 rcases h with h | ⟨o,h⟩
 ·exact .inl (e.trans h)
 ·exact .inr ⟨o,e.trans h⟩
theorem FLk.mono {mg:Gm}{P P':Pr}{H H':Hp}{a:Addr}{vs:List V} (h:FLk mg P H a vs) (x:∀ a,P a->P' a/\H' a=H a):FLk mg P' H' a vs:=by
 rcases h with ⟨p,r⟩ | h
 ·exact .inl ⟨(x a p).1,Rd.at r (x a p).2⟩
 ·exact .inr h
theorem FLk.sq (h:FLk mg P H a vs):bA mg.K H a vs:=by
 rcases h with ⟨_,r⟩ | h
 ·exact .inl r
 ·exact h H
section
variable {mg:Gm}{P P':Pr}{H H':Hp}{φ φ':List Addr}
mutual
theorem RA.mono' (x:∀ a,P a->P' a/\H' a=H a):∀ {t:AV}{v:V}{φ φ':List Addr},(∀ (k:Nat) a,φ[k]?=some a->φ'[k]?=some a)->RA mg P H φ t v->RA mg P' H' φ' t v
 | .non,_,_,_,_,h=>by simp only [RA] at h ⊢;exact h
 | .bl _,_,_,_,_,h=>by simp only [RA] at h ⊢;exact h
 | .int _,_,_,_,_,h=>by simp only [RA] at h ⊢;exact h
 | .str _,_,_,_,_,h=>by simp only [RA] at h ⊢;exact h
 | .ref k,_,_,_,hφ,h=>by simp only [RA] at h ⊢;obtain ⟨a,e,r⟩:=h;exact ⟨a,hφ k a e,r⟩
 | .tup xs,_,_,_,hφ,h=>by
  simp only [RA] at h ⊢;obtain ⟨a,vs,r,p,e,q⟩:=h;exact ⟨a,vs,r,(x a p).1,(x a p).2.trans e,Nv.mono' x hφ q⟩
 | .fz xs,_,_,_,hφ,h=>by
  simp only [RA] at h ⊢;obtain ⟨a,vs,r,e,q⟩:=h;exact ⟨a,vs,r,e.mono x,Nv.mono' x (fun _ _ z=>z) q⟩
theorem Nv.mono' (x:∀ a,P a->P' a/\H' a=H a):∀ {ts:List AV}{vs:List V}{φ φ':List Addr},(∀ (k:Nat) a,φ[k]?=some a->φ'[k]?=some a)->Nv mg P H φ ts vs->Nv mg P' H' φ' ts vs
 | [],_,_,_,_,h=>by simp only [Nv] at h ⊢;exact h
 | t::ts,_,_,_,hφ,h=>by
  simp only [Nv] at h ⊢;obtain ⟨v,ws,e,r,q⟩:=h;exact ⟨v,ws,e,RA.mono' x hφ r,Nv.mono' x hφ q⟩
end
theorem RA.mono {t:AV}{v:V} (h:RA mg P H φ t v) (x:∀ a,P a->P' a/\H' a=H a) (hφ:∀ (k:Nat) a,φ[k]?=some a->φ'[k]?=some a):RA mg P' H' φ' t v:=RA.mono' x hφ h
theorem Nv.mono {ts:List AV}{vs:List V} (h:Nv mg P H φ ts vs) (x:∀ a,P a->P' a/\H' a=H a) (hφ:∀ (k:Nat) a,φ[k]?=some a->φ'[k]?=some a):Nv mg P' H' φ' ts vs:=Nv.mono' x hφ h
theorem Frm.ix (f:Frm P φ H P' φ' H'):∀ (k:Nat) a,φ[k]?=some a->φ'[k]?=some a:=fun k a e=>by
 obtain ⟨m,rfl,_⟩:=f.new;rw [zN (zB.mp e).1];exact e
theorem RA.frm (h:RA mg P H φ t v) (f:Frm P φ H P' φ' H'):RA mg P' H' φ' t v:=h.mono f.ext f.ix
theorem Nv.frm (h:Nv mg P H φ ts vs) (f:Frm P φ H P' φ' H'):Nv mg P' H' φ' ts vs:=h.mono f.ext f.ix
theorem RA.lift (h:RA mg P H [] t v):RA mg P H φ t v:=h.mono (fun _ h=>⟨h,rfl⟩) fun k a e=>by simp at e
theorem Nv.lift (h:Nv mg P H [] ts vs):Nv mg P H φ ts vs:=h.mono (fun _ h=>⟨h,rfl⟩) fun k a e=>by simp at e
theorem Nv.length:∀ {ts:List AV}{vs:List V},Nv mg P H φ ts vs->ts.length=vs.length
 | [],_,h=>by simp only [Nv] at h;subst h;rfl
 | t::ts,_,h=>by
  simp only [Nv] at h;obtain ⟨v,ws,rfl,_,q⟩:=h;rw [yV,yV,Nv.length q]
theorem Nv.get:∀ {ts:List AV}{vs:List V}{i:Nat}{t:AV},Nv mg P H φ ts vs->ts[i]?=some t->∃ v,vs[i]?=some v/\RA mg P H φ t v
 | [],_,_,_,_,e=>by simp at e
 | x::ts,_,i,t,h,e=>by
  simp only [Nv] at h;obtain ⟨v,ws,rfl,r,q⟩:=h;cases i with
  | zero=>simp at e;subst e;exact ⟨v,rfl,r⟩
  | succ i=>simpa using Nv.get (i:=i) q (by simpa using e)
theorem Nv.app:∀ {xs ys:List AV}{vs ws:List V},Nv mg P H φ xs vs->Nv mg P H φ ys ws->Nv mg P H φ (xs++ys) (vs++ws)
 | [],_,_,_,h,g=>by simp only [Nv] at h;subst h;exact g
 | x::xs,_,_,_,h,g=>by
  simp only [Nv] at h;obtain ⟨v,ws,rfl,r,q⟩:=h;exact aU r (Nv.app q g)
theorem Nv.take:∀ {xs:List AV}{vs:List V} (n:Nat),Nv mg P H φ xs vs->Nv mg P H φ (xs.take n) (vs.take n)
 | xs,vs,0,_=>by rw [List.take_zero,List.take_zero];exact ba
 | [],vs,n + 1,h=>by simp only [Nv] at h;subst h;exact ba
 | x::xs,vs,n + 1,h=>by
  simp only [Nv] at h;obtain ⟨v,ws,rfl,r,q⟩:=h;exact aU r (Nv.take n q)
theorem Nv.drop:∀ {xs:List AV}{vs:List V} (n:Nat),Nv mg P H φ xs vs->Nv mg P H φ (xs.drop n) (vs.drop n)
 | xs,vs,0,h=>h
 | [],vs,n + 1,h=>by simp only [Nv] at h;subst h;exact ba
 | x::xs,vs,n + 1,h=>by
  simp only [Nv] at h;obtain ⟨v,ws,rfl,r,q⟩:=h;exact Nv.drop n q
theorem Nv.set (r:RA mg P H φ x v):∀ {xs:List AV}{vs:List V} (n:Nat),Nv mg P H φ xs vs->Nv mg P H φ (xs.set n x) (vs.set n v)
 | [],vs,_,h=>by simp only [Nv] at h;subst h;exact ba
 | y::xs,vs,n,h=>by
  simp only [Nv] at h;obtain ⟨w,ws,rfl,q,t⟩:=h;cases n with
  | zero=>exact aU r t
  | succ n=>exact aU q (Nv.set r n t)
theorem Nv.ints:∀ {ns:List Int}{vs:List V},Nv mg P H φ (ns.map .int) vs->vs=ns.map .int
 | [],_,h=>by simpa only [List.map_nil,Nv] using h
 | n::ns,_,h=>by
  simp only [zO,Nv,RA] at h;obtain ⟨v,ws,rfl,rfl,q⟩:=h;rw [Nv.ints q];rfl
theorem Nv.of_ints:∀ {ns:List Int},Nv mg P H φ (ns.map .int) (ns.map V.int)
 | []=>ba
 | n::ns=>aU (by simp only [RA]) Nv.of_ints
end
def KVR (mg:Gm) (P:Pr) (H:Hp) (φ:List Addr) {κ:Type} (Nr:List (κ × AV)) (ws:List (κ × V)):Prop:=Nr.map (·.1)=ws.map (·.1)/\Nv mg P H φ (Nr.map (·.2)) (ws.map (·.2))
def CellR (mg:Gm) (P:Pr) (H:Hp) (φ:List Addr) (a:Addr):Nq->Prop
 | .lst xs=>¬ P a/\∃ vs,H a=some (.lst vs)/\Nv mg P H φ xs vs
 | .al t=>P a/\RA mg P H [] t (.ref a)
 | .dK Nr=>¬ P a/\∃ ws,H a=some (.dK ws)/\KVR mg P H φ Nr ws
 | .dT Nr=>¬ P a/\∃ ws,H a=some (.dT ws)/\KVR mg P H φ Nr ws
 | .ins c fs=>¬ P a/\∃ C dx ws,mg.mg c=some (.ref C)/\H a=some (.ins C dx ws)/\KVR mg P H φ fs ws
 | .wk Nr=>¬ P a/\∃ o ws,H a=some (.frz o (.dK ws))/\KVR mg P H φ Nr ws
def GK (o:Option HO):Prop:=(∀ ps,o ≠ some (.tbl ps))/\∀ f,o ≠ some (.ext f)
theorem _root_.L2.fv.new (h:fv H P pos q) (hp:H p=none):fv (af H p o) P pos q:=by
 obtain ⟨ps,e,t,c⟩:=h;refine ⟨ps,by rw [ae (a0 e hp)];exact e,t,?_⟩;rcases c with c | ⟨c',c1,c2⟩
 ·exact .inl c
 ·exact .inr ⟨c',c1,by rw [ae (a0 c2 hp)];exact c2⟩
theorem _root_.L2.fv.ne (h:fv H P pos q) (hp:H p=none):P ≠ p:=by
 obtain ⟨ps,e,_⟩:=h;exact a0 e hp
theorem _root_.L2.fv.wr (h:fv H P pos q) (hp:GK (H p)):fv (af H p o) P pos q:=by
 obtain ⟨ps,e,t,c⟩:=h;refine ⟨ps,by rw [ae fun z=>hp.1 ps (by rw [<- z];exact e)];exact e,t,?_⟩;rcases c with c | ⟨c',c1,c2⟩
 ·exact .inl c
 ·exact .inr ⟨c',c1,by rw [ae fun z=>hp.2 _ (by rw [<- z];exact c2)];exact c2⟩
structure Sim [Nt] (mg:Gm) (P:Pr) (φ:List Addr) (st:aa) (H:Hp):Prop where
 len:φ.length=st.length
 nd:φ.Nodup
 dom:∀ a,P a->H a ≠ none
 cd:∀ a ∈ φ,H a ≠ none
 cell:∀ (k:Nat) c a,st[k]?=some c->φ[k]?=some a->CellR mg P H φ a c
 tb:∀ t ∈ Nt.tb,fv H t.1 t.2.1 t.2.2/\¬ P t.1
section
variable {mg:Gm}{P P':Pr}{H H':Hp}{φ φ':List Addr}{st st':aa}{a:Addr}
theorem KVR.mono {κ:Type}{Nr:List (κ × AV)}{ws:List (κ × V)} (h:KVR mg P H φ Nr ws) (x:∀ a,P a->P' a/\H' a=H a) (hφ:∀ (k:Nat) a,φ[k]?=some a->φ'[k]?=some a):KVR mg P' H' φ' Nr ws:=⟨h.1,h.2.mono x hφ⟩
theorem CellR.mono {c:Nq} (h:CellR mg P H φ a c) (x:∀ a,P a->P' a/\H' a=H a) (hφ:∀ (k:Nat) a,φ[k]?=some a->φ'[k]?=some a) (e:H' a=H a) (np:¬ P a->¬ P' a):CellR mg P' H' φ' a c:=by
 cases c with
 | lst xs=>obtain ⟨n,vs,r,q⟩:=h;exact ⟨np n,vs,e.trans r,q.mono x hφ⟩
 | al t=>exact ⟨(x a h.1).1,h.2.mono x fun _ _ z=>z⟩
 | dK Nr=>obtain ⟨n,vs,r,q⟩:=h;exact ⟨np n,vs,e.trans r,q.mono x hφ⟩
 | dT Nr=>obtain ⟨n,vs,r,q⟩:=h;exact ⟨np n,vs,e.trans r,q.mono x hφ⟩
 | ins c fs=>obtain ⟨n,C,dx,ws,m,r,q⟩:=h;exact ⟨np n,C,dx,ws,m,e.trans r,q.mono x hφ⟩
 | wk Nr=>obtain ⟨n,o,ws,r,q⟩:=h;exact ⟨np n,o,ws,e.trans r,q.mono x hφ⟩
theorem Sim.at [Nt] (s:Sim mg P φ st H) {k:Nat} (e:st[k]?=some c):∃ a,φ[k]?=some a/\CellR mg P H φ a c:=by
 have hk:k < φ.length:=by rw [s.len];exact (zB.mp e).1
 exact ⟨φ[k],zF hk,s.cell k c _ e (zF hk)⟩
theorem Sim.notb [Nt] (s:Sim mg P φ st H) {k:Nat} (ea:φ[k]?=some a) (na:¬ P a):GK (H a):=by
 obtain ⟨c,hc⟩:∃ c,st[k]?=some c:=⟨_,zF (by rw [<- s.len];exact (zB.mp ea).1)⟩;have h:=s.cell k c a hc ea;cases c with
 | lst xs=>obtain ⟨n,vs,r,q⟩:=h;rw [r];exact ⟨fun _ z=>(nomatch z),fun _ z=>(nomatch z)⟩
 | al t=>exact absurd h.1 na
 | dK Nr=>obtain ⟨n,vs,r,q⟩:=h;rw [r];exact ⟨fun _ z=>(nomatch z),fun _ z=>(nomatch z)⟩
 | dT Nr=>obtain ⟨n,vs,r,q⟩:=h;rw [r];exact ⟨fun _ z=>(nomatch z),fun _ z=>(nomatch z)⟩
 | ins c fs=>obtain ⟨n,C,dx,ws,m,r,q⟩:=h;rw [r];exact ⟨fun _ z=>(nomatch z),fun _ z=>(nomatch z)⟩
 | wk Nr=>obtain ⟨n,o,ws,r,q⟩:=h;rw [r];exact ⟨fun _ z=>(nomatch z),fun _ z=>(nomatch z)⟩
theorem Sim.tnc [Nt] (s:Sim mg P φ st H) (ht:t ∈ Nt.tb):t.1 ∉ φ:=fun h=>by
 obtain ⟨j,hj⟩:=z9 h;obtain ⟨ps,e,_⟩:=(s.tb t ht).1;exact (s.notb hj (s.tb t ht).2).1 ps e
theorem Sim.okeep [Nt] (s:Sim mg P φ st H) (f:Frm P φ H P' φ' H') (h:H c=some (fG c q)):H' c=some (fG c q):=by
 by_cases hP:P c
 ·exact (f.ext c hP).2.trans h
 ·refine (f.keep c (by rw [h];exact fun z=>nomatch z) (fun z=>?_) fun ps z=>by rw [h] at z;cases z).trans h
  obtain ⟨j,hj⟩:=z9 z;exact (s.notb hj hP).2 _ h
theorem Sim.ckeep [Nt] (s:Sim mg P φ st H) (x:∀ a,P a->H' a=H a) (k:∀ a,H a ≠ none->(∀ ps,H a ≠ some (.tbl ps))->H' a=H a):∀ a ∈ φ,H' a=H a:=fun a h=>by
 by_cases hP:P a
 ·exact x a hP
 ·obtain ⟨j,hj⟩:=z9 h
  exact k a (s.cd a h) (s.notb hj hP).1
theorem Sim.stay [Nt] (s:Sim mg P φ st H) (x:∀ a,P a->P' a/\H' a=H a) (hc:∀ a ∈ φ,H' a=H a) (np:∀ a ∈ φ,¬ P a->¬ P' a) (dm:∀ a,P' a->H' a ≠ none) (tb:∀ t ∈ Nt.tb,fv H' t.1 t.2.1 t.2.2/\¬ P' t.1):Sim mg P' φ st H' :=
 ⟨s.len,s.nd,dm,fun a h=>by rw [hc a h];exact s.cd a h,fun k c a e1 e2=>(s.cell k c a e1 e2).mono x (fun _ _ z=>z) (hc a (zW e2)) (np a (zW e2)),tb⟩
theorem Sim.nil [Nt] (dm:∀ a,P a->H a ≠ none) (tb:∀ t ∈ Nt.tb,fv H t.1 t.2.1 t.2.2/\¬ P t.1):Sim mg P [] [] H:=⟨rfl,List.nodup_nil,dm,fun _ h=>by simp at h,fun k c a e _=>by simp at e,tb⟩
theorem kT [Nt] (s:Sim mg P φ st H) (hp:H p=none):Frm P φ H (fun a=>P a\/a=p) φ (af H p o)/\Sim mg (fun a=>P a\/a=p) φ st (af H p o):=by
 have ne:∀ a,H a ≠ none->a ≠ p:=fun a h e=>h (by rw [e];exact hp)
 have f:Frm P φ H (fun a=>P a\/a=p) φ (af H p o):=by
  refine ⟨fun a h=>⟨.inl h,ae (ne a (s.dom a h))⟩,⟨[],by simp,by simp⟩,fun a h _ _=>ae (ne a h),fun a h=>?_,fun a h=>by rw [ae (ne a h)];exact h,fun a o u h=>by rw [ae (a0 h hp)];exact h⟩;rcases h with h | h
  ·exact .inl h
  ·exact .inr (.inl (by rw [h];exact hp))
 refine ⟨f,s.stay f.ext (fun a h=>ae (ne a (s.cd a h))) (fun a h n z=>?_) (fun a h=>?_) fun t ht=>⟨(s.tb t ht).1.new hp,fun z=>z.elim (s.tb t ht).2 (fun e=>(s.tb t ht).1.ne hp e)⟩⟩
 ·rcases z with z | z
  ·exact n z
  ·exact ne a (s.cd a h) z
 ·rcases h with h | h
  ·rw [ae (ne a (s.dom a h))];exact s.dom a h
  ·rw [h,aw];exact fun z=>nomatch z
theorem mL [Nt] (s:Sim mg P φ st H) (hp:H p=none) (hc:CellR mg P (af H p o) (φ++[p]) p c):Frm P φ H P (φ++[p]) (af H p o)/\Sim mg P (φ++[p]) (st++[c]) (af H p o):=by
 have ne:∀ a,H a ≠ none->a ≠ p:=fun a h e=>h (by rw [e];exact hp)
 have ex:∀ a,P a->P a/\af H p o a=H a:=fun a h=>⟨h,ae (ne a (s.dom a h))⟩
 have ix:∀ (k:Nat) a,φ[k]?=some a->(φ++[p])[k]?=some a:=fun k a e=>by rw [zN (zB.mp e).1];exact e
 have sm:∀ a,H a ≠ none->af H p o a ≠ none:=fun a h=>by rw [ae (ne a h)];exact h
 refine ⟨⟨ex,⟨[p],rfl,fun a h=>by rw [zM.mp h];exact hp⟩,fun a h _ _=>ae (ne a h),fun a h=>.inl h,sm,fun a o u h=>by rw [ae (a0 h hp)];exact h⟩,?_,?_,fun a h=>sm a (s.dom a h),fun a h=>?_,fun k d a e1 e2=>?_,fun t ht=>⟨(s.tb t ht).1.new hp,(s.tb t ht).2⟩⟩
 ·rw [zV,zV,s.len];rfl
 ·exact List.nodup_append.mpr ⟨s.nd,(by simp),fun a h b hb e=>ne a (s.cd a h) (by rw [e];exact zM.mp hb)⟩
 ·rcases zZ.mp h with h | h
  ·exact sm a (s.cd a h)
  ·rw [zM.mp h,aw];exact fun z=>nomatch z
 ·by_cases hk:k < st.length
  ·rw [zN hk] at e1
   rw [zN (by rw [s.len];exact hk)] at e2;exact (s.cell k d a e1 e2).mono ex ix (ae (ne a (s.cd a (zW e2)))) fun z=>z
  ·have hk':k=st.length:=by
    have:=(zB.mp e1).1
    rw [zV] at this;simp at this;omega
   subst hk';simp at e1;rw [<- s.len] at e2;simp at e2;subst e1;subst e2;exact hc
theorem g8 [Nt] {k:Nat} (s:Sim mg P φ st H) (ea:φ[k]?=some a) (na:¬ P a) (hc:CellR mg P (af H a o) φ a c) (nz:∀ o u,H a ≠ some (.frz o u)):Frm P φ H P φ (af H a o)/\Sim mg P φ (st.set k c) (af H a o):=by
 have hm:a ∈ φ:=zW ea;have ne:∀ b,P b->b ≠ a:=fun b h e=>na (by rw [<- e];exact h)
 have sm:∀ b,H b ≠ none->af H a o b ≠ none:=fun b h=>by
  by_cases e:b=a
  ·rw [e,aw];exact fun z=>nomatch z
  ·rw [ae e];exact h
 have ex:∀ b,P b->P b/\af H a o b=H b:=fun b h=>⟨h,ae (ne b h)⟩
 refine ⟨⟨ex,⟨[],by simp,by simp⟩,fun b _ h _=>ae fun e=>h (by rw [e];exact hm),fun b h=>.inl h,sm,fun b o u h=>by rw [ae (fun e=>nz o u (by rw [<- e];exact h))];exact h⟩,by rw [List.length_set];exact s.len,s.nd,fun b h=>sm b (s.dom b h),fun b h=>sm b (s.cd b h),fun j d b e1 e2=>?_,fun t ht=>⟨(s.tb t ht).1.wr (s.notb ea na),(s.tb t ht).2⟩⟩;by_cases hj:j=k
 ·subst hj
  rw [ea] at e2;cases e2;rw [List.getElem?_set_self (by rw [<- s.len];exact (zB.mp ea).1)] at e1;cases e1;exact hc
 ·rw [List.getElem?_set_ne (Ne.symm hj)] at e1
  have hb:b ≠ a:=fun e=>hj (by
   subst e;exact nodup_ix' s.nd e2 ea)
  exact (s.cell j d b e1 e2).mono ex (fun _ _ z=>z) (ae hb) fun z=>z
where
 nodup_ix' {l:List Addr} (hN:l.Nodup) {i j:Nat}{x:Addr} (a:l[i]?=some x) (b:l[j]?=some x):i=j:=by
  obtain ⟨h1,e1⟩:=zB.mp a;obtain ⟨h2,e2⟩:=zB.mp b;exact (List.getElem_inj hN).mp (e1.trans e2.symm)
end
end R
namespace R
open PySem PySem.Spec PyProof.Rows L2
open DD (PE_imp PT_imp PA_imp PS_imp PSs_imp OpR_imp PW_imp PG_imp)
abbrev St:=L2.St
abbrev _root_.L2.Cx.gm (X:Cx):Gm:=⟨X.K,X.mg⟩
def KG [Nt] {α β:Type} (mg:Gm) (Rl:Gm->Pr->Hp->List Addr->α->β->Prop) (P:Pr) (φ:List Addr) (H:Hp) (r:Option (α × aa)) (Q:β->Hp->Prop):Prop :=
 ∃ a st',r=some (a,st')/\∀ P' φ' H' b,Frm P φ H P' φ' H'->Sim mg P' φ' st' H'->Rl mg P' H' φ' a b->Q b H'
def RB {α:Type} (_:Gm) (_:Pr) (_:Hp) (_:List Addr) (a b:α):Prop:=a=b
section
variable {α β γ δ:Type}{mg:Gm}{Ra:Gm->Pr->Hp->List Addr->α->β->Prop}{Rc:Gm->Pr->Hp->List Addr->γ->δ->Prop}{P:Pr}{φ:List Addr}{H:Hp}
theorem KG.bind [Nt] {m:Option (α × aa)}{k:α × aa->Option (γ × aa)}{Q:δ->Hp->Prop} (h:KG mg Rc P φ H (m.bind k) Q) :
  KG mg Ra P φ H m fun b H1=>∃ P1 φ1 st1 a,Frm P φ H P1 φ1 H1/\Sim mg P1 φ1 st1 H1/\Ra mg P1 H1 φ1 a b/\KG mg Rc P1 φ1 H1 (k (a,st1)) Q:=by
 obtain ⟨c,st',e,q⟩:=h;cases m with
 | none=>cases e
 | some p =>
  obtain ⟨a,st1⟩:=p;refine ⟨a,st1,rfl,fun P1 φ1 H1 b f s r=>⟨P1,φ1,st1,a,f,s,r,c,st',e,fun P' φ' H' d f' s' r'=>q P' φ' H' d (f.trans f') s' r'⟩⟩
theorem KG.pure [Nt] {a:α}{st:aa}{Q:β->Hp->Prop}{b:β} (h:KG mg Ra P φ H (some (a,st)) Q) (s:Sim mg P φ st H) (r:Ra mg P H φ a b):Q b H:=by
 obtain ⟨_,_,e,q⟩:=h;cases e;exact q P φ H b Frm.refl s r
theorem KG.map [Nt] {m:Option α}{st:aa}{Q:β->Hp->Prop} (h:KG mg Ra P φ H (m.map fun a=>(a,st)) Q):∃ a,m=some a/\KG mg Ra P φ H (some (a,st)) Q:=by
 obtain ⟨b,st',e,q⟩:=h;cases m with
 | none=>cases e
 | some a=>exact ⟨a,rfl,b,st',e,q⟩
end
def ND (mg:Gm) (P:Pr) (H:Hp) (φ:List Addr) (sl:Sl) (σ:St):Prop:=sl.length=σ.length/\∀ (i:Nat) v,sl[i]?=some (some v)->∃ w,σ[i]?=some (some w)/\RA mg P H φ v w
section
variable {mg:Gm}{P P':Pr}{H H':Hp}{φ φ':List Addr}{sl:Sl}{σ:St}
theorem ND.frm (h:ND mg P H φ sl σ) (f:Frm P φ H P' φ' H'):ND mg P' H' φ' sl σ:=⟨h.1,fun i v e=>let ⟨w,e',r⟩:=h.2 i v e;⟨w,e',r.frm f⟩⟩
theorem ND.set (h:ND mg P H φ sl σ) (r:RA mg P H φ v w) (i:Nat):ND mg P H φ (sl.set i (some v)) (σ.set i (some w)):=by
 refine ⟨by rw [List.length_set,List.length_set];exact h.1,fun j u e=>?_⟩;by_cases hj:i=j
 ·subst hj
  by_cases hi:i < sl.length
  ·rw [List.getElem?_set_self hi] at e
   cases e;exact ⟨w,List.getElem?_set_self (by rw [<- h.1];exact hi),r⟩
  ·rw [List.getElem?_eq_none (by rw [List.length_set];omega)] at e;cases e
 ·rw [List.getElem?_set_ne hj] at e
  rw [List.getElem?_set_ne hj];exact h.2 j u e
end
abbrev EF:=Sl->aa->Option (AV × aa)
abbrev TF:=Sl->aa->Option (Bool × aa)
abbrev AF:=Sl->aa->Option (List AV × aa)
def rE [Nt] (mg:Gm) (f:EF):TE:=fun σ H Q=>∃ P φ sl st,ND mg P H φ sl σ/\Sim mg P φ st H/\KG mg RA P φ H (f sl st) Q
def rT [Nt] (mg:Gm) (f:TF):TT:=fun σ H Q=>∃ P φ sl st,ND mg P H φ sl σ/\Sim mg P φ st H/\KG mg RB P φ H (f sl st) Q
def rA [Nt] (mg:Gm) (f:AF):TA:=fun σ H Q=>∃ P φ sl st,ND mg P H φ sl σ/\Sim mg P φ st H/\KG mg Nv P φ H (f sl st) Q
def QE [Nt] (X:Cx) (e:Expr) (f:EF):Prop:=PE X e (rE X.gm f)
def QT [Nt] (X:Cx) (e:Expr) (f:TF):Prop:=PT X e (rT X.gm f)
def QW [Nt] (X:Cx) (e:Expr) (f:TF):Prop:=PW X e (rT X.gm f)
def QA [Nt] (X:Cx) (es:List Expr) (f:AF):Prop:=PA X es (rA X.gm f)
def aV (i:Nat):EF:=fun sl st=>match sl[i]? with
 | some (some v)=>some (v,st)
 | _=>none
def aC (v:AV):EF:=fun _ st=>some (v,st)
def dF:AF:=fun _ st=>some ([],st)
def df (f:EF) (g:AF):AF:=fun sl st=>(f sl st).bind fun p=>(g sl p.2).bind fun q=>some (p.1::q.1,q.2)
noncomputable def nh:AV->Option V
 | .non=>some .non
 | .bl b=>some (.bl b)
 | .int i=>some (.int i)
 | .str x=>some (.str x)
 | _=>none
theorem RA.sc (h:nh v=some w):RA mg P H φ v w:=by
 cases v <;> simp only [nh] at h <;> cases h <;> simp only [RA]
section
variable {X:Cx}{e:Expr}{es:List Expr}{pos:Pos}
theorem Er [Nt] {i:Nat} (hN:X.N[i]?=some x) (hv:xn X.env.scope x) (hd:(x == ("__debug__":Str))=false) (hcd:(x == ("__classdict__":Str))=false):QE X (.Name x pos) (aV i) :=
 PE_imp (EQ hN hv hd hcd) fun σ H Q hq0=>by
  obtain ⟨P,φ,sl,st,r,s,k⟩:=hq0;unfold aV at k;cases h:sl[i]? with
  | none=>rw [h] at k;obtain ⟨_,_,e,_⟩:=k;cases e
  | some o =>
   cases o with
   | none=>rw [h] at k;obtain ⟨_,_,e,_⟩:=k;cases e
   | some v =>
    rw [h] at k;obtain ⟨w,e,ra⟩:=r.2 i v h;exact ⟨w,e,k.pure s ra⟩
theorem qx [Nt] (hw:nh v=some w) (h:PE X e t) (ht:∀ σ H Q,Q w H->t σ H Q):QE X e (aC v) :=
 PE_imp h fun σ H Q ⟨P,φ,sl,st,r,s,k⟩=>ht σ H Q (k.pure s (RA.sc hw))
theorem dI [Nt]:QA X [] dF:=PA_imp wc fun σ H Q ⟨P,φ,sl,st,r,s,k⟩=>k.pure s ba
theorem bK [Nt] (ha:QE X e f) (hr:QA X es g) (hs:starEach (e::es) X.env=(false,eval e X.env)::starEach es X.env):QA X (e::es) (df f g) :=
 PA_imp (sL ha hr hs) fun σ H Q ⟨P,φ,sl,st,r,s,k⟩=>⟨P,φ,sl,st,r,s,by
  obtain ⟨a,st',e1,q⟩:=k.bind (Ra:=RA);refine ⟨a,st',e1,fun P1 φ1 H1 b f1 s1 r1=>?_⟩;obtain ⟨P2,φ2,st2,a2,f2,s2,r2,k2⟩:=q P1 φ1 H1 b f1 s1 r1;refine ⟨P2,φ2,sl,st2,r.frm f2,s2,?_⟩;obtain ⟨xs,st3,e3,q3⟩:=k2.bind (Ra:=Nv);refine ⟨xs,st3,e3,fun P4 φ4 H4 bs f4 s4 r4=>?_⟩;obtain ⟨P5,φ5,st5,a5,f5,s5,r5,k5⟩:=q3 P4 φ4 H4 bs f4 s4 r4;exact k5.pure s5 (aU (r2.frm f5) r5)⟩
end
def a2 (f g:EF) (k:AV->AV->aa->Option (AV × aa)):EF:=fun sl st=>(f sl st).bind fun p=>(g sl p.2).bind fun q=>k p.1 q.1 q.2
def a1 (f:EF) (k:AV->aa->Option (AV × aa)):EF:=fun sl st=>(f sl st).bind fun p=>k p.1 p.2
def r2 [Nt] (mg:Gm) (k:AV->AV->aa->Option (AV × aa)):R2:=fun v w H Q=>∃ P φ st x y,Sim mg P φ st H/\RA mg P H φ x v/\RA mg P H φ y w/\KG mg RA P φ H (k x y st) Q
def r1 [Nt] (mg:Gm) (k:AV->aa->Option (AV × aa)):V->Hp->VK->Prop:=fun v H Q=>∃ P φ st x,Sim mg P φ st H/\RA mg P H φ x v/\KG mg RA P φ H (k x st) Q
section
variable {mg:Gm}{k:AV->AV->aa->Option (AV × aa)}{k1:AV->aa->Option (AV × aa)}{f g:EF}
theorem vq [Nt] (q:rE mg (a2 f g k) σ H Q):vH (r2 mg k) (rE mg f) (rE mg g) σ H Q:=by
 obtain ⟨P,φ,sl,st,rs,s,kk⟩:=q;refine ⟨P,φ,sl,st,rs,s,?_⟩;obtain ⟨a,st',e1,q⟩:=kk.bind (Ra:=RA);refine ⟨a,st',e1,fun P1 φ1 H1 b f1 s1 r1=>?_⟩;obtain ⟨P2,φ2,st2,x,f2,s2,r2,k2⟩:=q P1 φ1 H1 b f1 s1 r1;refine ⟨P2,φ2,sl,st2,rs.frm f2,s2,?_⟩;obtain ⟨a',st3,e3,q3⟩:=k2.bind (Ra:=RA);refine ⟨a',st3,e3,fun P4 φ4 H4 b' f4 s4 r4=>?_⟩;obtain ⟨P5,φ5,st5,y,f5,s5,r5,k5⟩:=q3 P4 φ4 H4 b' f4 s4 r4;exact ⟨P5,φ5,st5,x,y,s5,r2.frm f5,r5,k5⟩
theorem Lq [Nt] (q:rE mg (a1 f k1) σ H Q):Jh (r1 mg k1) (rE mg f) σ H Q:=by
 obtain ⟨P,φ,sl,st,rs,s,kk⟩:=q;refine ⟨P,φ,sl,st,rs,s,?_⟩;obtain ⟨a,st',e1,q⟩:=kk.bind (Ra:=RA);refine ⟨a,st',e1,fun P1 φ1 H1 b f1 s1 r1=>?_⟩;obtain ⟨P2,φ2,st2,x,f2,s2,r2,k2⟩:=q P1 φ1 H1 b f1 s1 r1;exact ⟨P2,φ2,st2,x,s2,r2,k2⟩
end
def kJ (h:aa->AV->AV->Option AV):AV->AV->aa->Option (AV × aa):=fun x y st=>(h st x y).map fun z=>(z,st)
def DQ (h:aa->AV->Option AV):AV->aa->Option (AV × aa):=fun x st=>(h st x).map fun z=>(z,st)
noncomputable def cJ (a b:Int):Bool:=(Nat.ble a.natAbs.log2 62 || Nat.ble b.natAbs.log2 62) || (Nat.ble a.natAbs.log2 1000000 && Nat.ble b.natAbs.log2 1000000)
noncomputable def i8 (b:Int):Bool:=!(b == 0) && Nat.ble b.natAbs.log2 8999
noncomputable def ur (a b:Int):Bool:=decide (0 <= b) && Nat.ble b.natAbs 100000 && Nat.ble a.natAbs.log2 62
noncomputable def tL (a b:Int):Int:=if 0 < b then a / b else a.fdiv b
noncomputable def k9 (a b:Int):Int:=if 0 < b then a % b else a.fmod b
def rR:Operator->Int->Int->Option Int
 | .Add,a,b=>some (a + b)
 | .Sub,a,b=>some (a - b)
 | .Mult,a,b=>if cJ a b=true then some (a * b) else none
 | .FloorDiv,a,b=>if i8 b=true then some (tL a b) else none
 | .Mod,a,b=>if b=0 then none else some (k9 a b)
 | .Pow,a,b=>if ur a b=true then some (a ^ b.toNat) else none
 | .LShift,a,b=>if ur a b=true then some (a * 2 ^ b.toNat) else none
 | .RShift,a,b=>if 0 <= b then some (a / 2 ^ b.toNat) else none
 | .BitAnd,a,b=>some (Builtin.bitAnd a b)
 | .BitOr,a,b=>some (Builtin.bitOr a b)
 | .BitXor,a,b=>some (Builtin.bitXor a b)
 | _,_,_=>none
def cp (o:Operator) (_:aa):AV->AV->Option AV
 | .int a,.int b=>(rR o a b).map .int
 | .str a,.str b=>if (decide (o=.Add) && Nat.ble (a.length + b.length) 1000000)=true then some (.str (a++b)) else none
 | _,_=>none
theorem log2_lt {n k:Nat} (h:Nat.ble n.log2 k=true):n < 2 ^ (k + 1):=by
 by_cases h0:n=0
 ·subst h0;exact Nat.two_pow_pos _
 ·exact (Nat.log2_lt h0).mp (Nat.lt_succ_of_le (zS h))
theorem lV {a:Int}{k:Nat} (h:a.natAbs < 2 ^ k):Builtin.Int.intBits a <= k:=by
 unfold Builtin.Int.intBits;split
 ·omega
 ·rename_i h0
  have:a.natAbs.log2 < k:=(Nat.log2_lt (by simpa using h0)).mpr h;omega
theorem CS {a b:Int} (h:cJ a b=true):IntMulOk a b:=by
 unfold cJ at h;rcases Bool.or_eq_true_iff.mp h with h | h
 ·rcases Bool.or_eq_true_iff.mp h with h | h
  ·exact .of_left (z5 (lV (log2_lt h)) dC)
  ·exact .of_right (z5 (lV (log2_lt h)) dC)
 ·obtain ⟨h1,h2⟩:=Bool.and_eq_true_iff.mp h
  exact .of_bits (z5 (lV (log2_lt h1)) dC) (z5 (lV (log2_lt h2)) dC)
theorem Dg {b:Int} (h:i8 b=true):b ≠ 0/\b.natAbs.log2 < 9000:=by
 unfold i8 at h;obtain ⟨h1,h2⟩:=Bool.and_eq_true_iff.mp h;exact ⟨by simpa using h1,Nat.lt_succ_of_le (zS h2)⟩
theorem Gy (a b:Int):a.fdiv b=tL a b:=by
 unfold tL;split
 ·exact Int.fdiv_eq_ediv_of_nonneg _ oM
 ·rfl
theorem Gp (a b:Int):a.fmod b=k9 a b:=by
 unfold k9;split
 ·exact Int.fmod_eq_emod_of_nonneg _ oM
 ·rfl
theorem sK {a b:Int} (h:ur a b=true):Lu a b:=by
 unfold ur at h;simp only [zC,yC] at h;obtain ⟨⟨h1,h2⟩,h3⟩:=h;have h2:=zS h2;exact ⟨h1,by omega,zJ (log2_lt h3) dC⟩
def Kx (o:Operator):R2:=fun x y H Q=>(∃ i j k,x=.int i/\y=.int j/\rR o i j=some k/\Q (.int k) H)\/(o=.Add/\∃ i j,x=.str i/\y=.str j/\i.length + j.length <= sizeLine/\Q (.str (i++j)) H)
section
variable {X:Cx}
theorem E7 (o:Operator):lE X (binaryOp o) (Kx o):=by
 have hI:∀ (h:∀ i j k t u s (Q:Value->Shared->Prop) (E:Value->Shared->Prop),rR o i j=some k->Q (.int k s.toks) { s with toks:=s.toks + 1 }->wpAny (model X.prog X.w) X.A (binaryOp o (.int i t) (.int j u)) Q E s)
   (Np:List (Addr × Obj)) (s:Shared) (σ:St) (H:Hp) (x y:V) (v u:Value) (Q:VK),Inv X Np σ H s->RelV x v->RelV y u->(∃ i j k,x=.int i/\y=.int j/\rR o i j=some k/\Q (.int k) H) ->
   wpAny (model X.prog X.w) X.A (binaryOp o v u) (EP X Np σ Q) X.xe s:=by
  rintro h Np s σ H x y v u Q I rx ry ⟨i,j,k,e1,e2,e3,q⟩;subst e1;subst e2;obtain ⟨t,rfl⟩:=rx;obtain ⟨t',rfl⟩:=ry;exact h i j k t t' s _ _ e3 ⟨.int k,H,I.tok _,⟨_,rfl⟩,q⟩
 intro Np s σ H x y v u Q I rx ry h;rcases h with h | ⟨rfl,h⟩
 ·refine hI ?_ Np s σ H x y v u Q I rx ry h
  intro i j k t u s Q E e q;cases o <;> simp only [rR] at e
  case Add=>cases e;exact add_int q
  case Sub=>cases e;exact sub_int q
  case Mult =>
   split at e
   ·rename_i hm;cases e;exact mul_int q (CS hm)
   ·cases e
  case FloorDiv =>
   split at e
   ·rename_i hm;cases e
    obtain ⟨h1,h2⟩:=Dg hm;exact floordiv_int h1 (by rw [Gy];exact q) (.inl (PyProof.noPylong_of_log2 h2))
   ·cases e
  case Mod =>
   split at e
   ·cases e
   ·rename_i hm;cases e
    exact mod_int' hm (by rw [Gp];exact q)
  case Pow =>
   split at e
   ·rename_i hm;cases e
    have c:=sK hm;exact pow_int_small c.1 c.2.1 c.2.2 q
   ·cases e
  case LShift =>
   split at e
   ·rename_i hm;cases e
    have c:=sK hm;exact lshift_int_small c.1 c.2.1 c.2.2 q
   ·cases e
  case RShift =>
   split at e
   ·rename_i hm;cases e
    exact rshift_int hm (by rw [Int.fdiv_eq_ediv_of_nonneg _ (uc _)];exact q)
   ·cases e
  case BitAnd=>cases e;exact and_int q
  case BitOr=>cases e;exact or_int q
  case BitXor=>cases e;exact xor_int q
  all_goals cases e
 ·exact uz Np s σ H x y v u Q I rx ry h
theorem Fi [Nt] (o:Operator):lE X (binaryOp o) (r2 X.gm (kJ (cp o))):=OpR_imp (E7 o) fun v w H Q hq0=>by
 obtain ⟨P,φ,st,x,y,s,r1,r2,k⟩:=hq0;obtain ⟨z,e,k⟩:=k.map;cases x <;> cases y <;> simp only [cp] at e <;> first | (cases e;done) | skip
 ·rename_i a b
  simp only [RA] at r1 r2;obtain ⟨c,e1,e2⟩:=zE.mp e;subst e2;exact .inl ⟨a,b,c,r1,r2,e1,k.pure s (by simp only [RA])⟩
 ·rename_i a b
  simp only [RA] at r1 r2;split at e
  ·rename_i hc
   cases e;simp only [zC,yC] at hc;exact .inr ⟨hc.1,a,b,r1,r2,z5 (zS hc.2) dC,k.pure s (by simp only [RA])⟩
  ·cases e
theorem EA [Nt] (ha:QE X a f) (hb:QE X b g):QE X (.BinOp a o b pos) (a2 f g (kJ (cp o))) :=
 PE_imp (uy (Fi o) ha hb) fun _ _ _ q=>vq q
end
end R
namespace R
open PySem PySem.Spec PyProof.Rows L2
open DD (PE_imp PT_imp PA_imp PS_imp PSs_imp OpR_imp PW_imp PG_imp pyOk reads_each any_vals obj_list obj_tup)
def dr (st:aa):AV->AV
 | .ref k=>match st[k]? with
  | some (.al t)=>t
  | _=>.ref k
 | v=>v
def bq (st:aa) (v:AV):Option (List AV):=match dr st v with
 | .fz xs=>some xs
 | .ref k=>match st[k]? with
  | some (.lst xs)=>some xs
  | _=>none
 | _=>none
def iB (st:aa) (v:AV):Option (List AV):=match dr st v with
 | .tup xs=>some xs
 | _=>none
section
variable {mg:Gm}{P:Pr}{φ:List Addr}{st:aa}{H:Hp}{v:AV}{w:V}{xs:List AV}
theorem RA.dr [Nt] (s:Sim mg P φ st H) (r:RA mg P H φ v w):RA mg P H φ (dr st v) w:=by
 cases v with
 | ref k =>
  unfold R.dr;dsimp only;split
  ·rename_i t h
   obtain ⟨a,e,c⟩:=s.at h;simp only [RA] at r;obtain ⟨a',e',rfl⟩:=r;rw [e] at e';cases e';exact c.2.lift
  ·exact r
 | _=>exact r
theorem RA.ls [Nt] (s:Sim mg P φ st H) (r:RA mg P H φ v w) (h:bq st v=some xs):∃ a vs,w=.ref a/\bA mg.K H a vs/\Nv mg P H φ xs vs:=by
 have r:=r.dr s;unfold bq at h;split at h
 ·rename_i ys e
  cases h;rw [e] at r;simp only [RA] at r;obtain ⟨a,vs,e1,e2,q⟩:=r;exact ⟨a,vs,e1,e2.sq,q.lift⟩
 ·rename_i k e
  rw [e] at r;simp only [RA] at r;obtain ⟨a,e1,e2⟩:=r;split at h
  ·rename_i ys e3
   cases h;obtain ⟨a',e4,c⟩:=s.at e3;rw [e1] at e4;cases e4;obtain ⟨_,vs,q1,q2⟩:=c;exact ⟨a,vs,e2,.inl (.inl q1),q2⟩
  ·cases h
 ·cases h
theorem RA.tp [Nt] (s:Sim mg P φ st H) (r:RA mg P H φ v w) (h:iB st v=some xs):∃ a vs,w=.ref a/\H a=some (.tup vs)/\Nv mg P H φ xs vs:=by
 have r:=r.dr s;unfold iB at h;split at h
 ·rename_i ys e
  cases h;rw [e] at r;simp only [RA] at r;obtain ⟨a,vs,e1,_,e2,q⟩:=r;exact ⟨a,vs,e1,e2,q⟩
 ·cases h
end
noncomputable def aG {α β:Type} (f:α->Option β):List α->Option (List β)
 | []=>some []
 | x::xs=>(f x).bind fun y=>(aG f xs).map fun ys=>y::ys
theorem cR {α β γ:Type}{f:α->Option β}{i:γ->α}{g:γ->β} (h:∀ x,f (i x)=some (g x)) (xs:List γ):aG f (xs.map i)=some (xs.map g):=by
 induction xs with
 | nil=>rfl
 | cons x xs ih=>simp only [zO,aG,h,ih,bind_some,map_some]
def aO:Nat->aa->AV->Option PyData
 | _,_,.non=>some .none
 | _,_,.bl b=>some (.bool b)
 | _,_,.int i=>some (.int i)
 | _,_,.str x=>some (.str x)
 | n + 1,st,.fz xs=>(aG (aO n st) xs).map .list
 | n + 1,st,.tup xs=>(aG (aO n st) xs).map .tuple
 | n + 1,st,.ref k=>match st[k]? with
  | some (.lst xs)=>(aG (aO n st) xs).map .list
  | some (.al t)=>aO n st t
  | _=>none
 | 0,_,_=>none
section
variable {X:Cx}{Np:List (Addr × Obj)}{σ:St}{H:Hp}{s:Shared}{P:Pr}{φ:List Addr}{st:aa}
theorem qu [Nt] {n:Nat} (ih:∀ t v p u,RA mg P H φ t v->aO n st t=some p->RelV v u->∃ as,Reads s.heap u p as) :
  ∀ {xs:List AV}{vs:List V}{ps:List PyData}{us:List Value},Nv mg P H φ xs vs->aG (aO n st) xs=some ps->Vals vs us->∃ as,ReadsAll s.heap us ps as:=by
 intro xs
 induction xs with
 | nil =>
  intro vs ps us r e q;simp only [Nv] at r;subst r;cases e;cases q;exact ⟨_,.nil⟩
 | cons x xs ihx =>
  intro vs ps us r e q;simp only [Nv] at r;obtain ⟨v,ws,rfl,r1,r2⟩:=r;simp only [aG] at e;obtain ⟨p,e1,e2⟩:=zA e;obtain ⟨qs,e3,e4⟩:=zE.mp e2;subst e4;cases q with
  | cons q1 q2 =>
   obtain ⟨as,ra⟩:=ih x v p _ r1 e1 q1;obtain ⟨bs,rb⟩:=ihx r2 e3 q2;exact ⟨_,.cons ra rb⟩
theorem dW [Nt] (I:L2.Inv X Np σ H s) (sm:Sim X.gm P φ st H):∀ (n:Nat) (t:AV) (v:V) (p:PyData) (u:Value),RA X.gm P H φ t v->aO n st t=some p->RelV v u->∃ as,Reads s.heap u p as:=by
 have lst:∀ {a:Addr}{vs:List V}{u:Value}{ps:List PyData},bA X.K H a vs->RelV (.ref a) u->(∀ {us:List Value},Vals vs us->∃ as,ReadsAll s.heap us ps as)->∃ as,Reads s.heap u (.list ps) as:=by
  intro a vs u ps h ru k;cases ru;obtain ⟨Nu,ob,m,rv,e1,e2,e3⟩:=obj_list I h;obtain ⟨as,ra⟩:=k rv;exact ⟨_,.list e1 e2 e3 ra⟩
 have cL:∀ (n:Nat) (t:AV) (v:V) (p:PyData) (u:Value) (w:V),nh t=some w->RA X.gm P H φ t v->aO n st t=some p->RelV v u->∃ as,Reads s.heap u p as:=by
  intro n t v p u w hs r e ru;cases t with
  | non=>cases n <;> (simp only [aO] at e;cases e;simp only [RA] at r;subst r;cases ru;exact ⟨_,.none⟩)
  | bl b=>cases n <;> (simp only [aO] at e;cases e;simp only [RA] at r;subst r;cases ru;exact ⟨_,.bool b⟩)
  | int i=>cases n <;> (simp only [aO] at e;cases e;simp only [RA] at r;subst r;obtain ⟨t,rfl⟩:=ru;exact ⟨_,.int i t⟩)
  | str x=>cases n <;> (simp only [aO] at e;cases e;simp only [RA] at r;subst r;obtain ⟨t,rfl⟩:=ru;exact ⟨_,.str x t⟩)
  | _=>cases hs
 intro n
 induction n with
 | zero =>
  intro t v p u r e ru;cases t with
  | non=>exact cL 0 _ v p u _ rfl r e ru
  | bl b=>exact cL 0 _ v p u _ rfl r e ru
  | int i=>exact cL 0 _ v p u _ rfl r e ru
  | str x=>exact cL 0 _ v p u _ rfl r e ru
  | _=>simp only [aO] at e;cases e
 | succ n ih =>
  intro t v p u r e ru;cases t with
  | non=>exact cL _ _ v p u _ rfl r e ru
  | bl b=>exact cL _ _ v p u _ rfl r e ru
  | int i=>exact cL _ _ v p u _ rfl r e ru
  | str x=>exact cL _ _ v p u _ rfl r e ru
  | fz xs =>
   simp only [aO] at e;obtain ⟨ps,e1,e2⟩:=zE.mp e;subst e2;simp only [RA] at r;obtain ⟨a,vs,rfl,h,q⟩:=r;exact lst h.sq ru fun rv=>qu ih q.lift e1 rv
  | tup xs =>
   simp only [aO] at e;obtain ⟨ps,e1,e2⟩:=zE.mp e;subst e2;simp only [RA] at r;obtain ⟨a,vs,rfl,_,h,q⟩:=r;cases ru;obtain ⟨Nu,ob,m,rv,h1,h2,h3⟩:=obj_tup I (show fR X.K H a vs from .inl (.inl h));obtain ⟨as,ra⟩:=qu ih q e1 rv;exact ⟨_,.tuple h1 h2 h3 ra⟩
  | ref k =>
   simp only [aO] at e;simp only [RA] at r;obtain ⟨a,ea,rfl⟩:=r;split at e
   ·rename_i xs hk
    obtain ⟨ps,e1,e2⟩:=zE.mp e;subst e2;obtain ⟨a',ea',c⟩:=sm.at hk;rw [ea] at ea';cases ea';obtain ⟨_,vs,h,q⟩:=c;exact lst (.inl (.inl h)) ru fun rv=>qu ih q e1 rv
   ·rename_i t hk
    obtain ⟨a',ea',c⟩:=sm.at hk;rw [ea] at ea';cases ea';exact ih t _ p u c.2.lift e ru
   ·cases e
end
noncomputable def uk:PyData->PyData->Option Bool
 | .str a,.str b=>some (a == b)
 | _,_=>none
def gM (st:aa) (x y:AV):Option Bool:=(aO 9 st x).bind fun p=>(aO 9 st y).bind fun q=>if pyOk p q=true then some (PyData.eqv p q) else uk p q
def jJ:AV->Option aZ
 | .int i=>some (.inl i)
 | .str x=>some (.inr x)
 | _=>none
noncomputable def mF {κ:Type} [DecidableEq κ] (Nr:List (κ × AV)) (k:κ):Option AV:=(Nr.find? fun kv=>decide (kv.1=k)).map (·.2)
def gU (st:aa):AV->Option (List (aZ × AV))
 | .ref k=>match st[k]? with
  | some (.dK Nr)=>some Nr
  | _=>none
 | _=>none
def kn (st:aa):AV->Option (List (List aZ × AV))
 | .ref k=>match st[k]? with
  | some (.dT Nr)=>some Nr
  | _=>none
 | _=>none
def i5 (st:aa) (y x:AV):Option (Option AV):=match gU st y with
 | some Nr=>(jJ x).map fun k=>mF Nr k
 | none=>match kn st y with
  | some Nr=>match x with
   | .tup xs=>(aG jJ xs).map fun k=>mF Nr k
   | _=>none
  | none=>none
def jZ (st:aa) (x y:AV):Option Bool:=match i5 st y x with
 | some o=>some o.isSome
 | none=>match x,y with
  | .str a,.str b=>some (!(Builtin.Str.occurrences b a 0 b.length 1).isEmpty)
  | _,_=>(aO 9 st x).bind fun q=>(aO 9 st y).bind fun p=>match p with
   | .list ps=>if (ps.all fun r=>pyOk r q)=true then some (ps.any fun r=>PyData.eqv r q) else none
   | .tuple ps=>if (ps.all fun r=>pyOk r q)=true then some (ps.any fun r=>PyData.eqv r q) else none
   | _=>none
noncomputable def yp:CmpOp->Int->Int->Option Bool
 | .Lt,a,b=>some (decide (a < b))
 | .LtE,a,b=>some (decide (a <= b))
 | .Gt,a,b=>some (decide (b < a))
 | .GtE,a,b=>some (decide (b <= a))
 | _,_,_=>none
noncomputable def Fl:AV->Bool
 | .non=>true
 | _=>false
def F2 (x y:AV):Option Bool:=match y with
 | .non=>some (Fl x)
 | .bl b=>(match x with
  | .bl a=>some (a == b)
  | _=>none)
 | _=>none
noncomputable def FJ:CmpOp->List AV->List AV->Option Bool
 | .Lt,[.int a,.int b],[.int c,.int d]=>some (if a=c then decide (b < d) else decide (a < c))
 | _,_,_=>none
def cm (o:CmpOp) (st:aa) (x y:AV):Option Bool:=match o with
 | .Eq=>gM st x y
 | .NotEq=>(gM st x y).map (!·)
 | .Is=>F2 x y
 | .IsNot=>(F2 x y).map (!·)
 | .In=>jZ st x y
 | .NotIn=>(jZ st x y).map (!·)
 | o=>match x,y with
  | .int a,.int b=>yp o a b
  | .tup xs,.tup ys=>FJ o xs ys
  | _,_=>none
def mU (o:CmpOp) (st:aa) (x y:AV):Option AV:=(cm o st x y).map .bl
theorem oP (h:pyOk p q=true):p.canLay0=true/\q.canLay0=true/\min p.depth q.depth <= 50:=by
 simp only [pyOk,zC,yC] at h;exact ⟨h.1.1,h.1.2,h.2⟩
theorem jB {P:Pr}{H:Hp}{φ:List Addr}{κ:Type} [DecidableEq κ] {Nr:List (κ × AV)}{ws:List (κ × V)} (h:KVR mg P H φ Nr ws) (k:κ) :
  (mF Nr k).isSome=(eC ws k).isSome/\∀ v,mF Nr k=some v->∃ w,eC ws k=some w/\RA mg P H φ v w:=by
 induction Nr generalizing ws with
 | nil =>
  have:ws=[]:=by simpa using h.1.symm
  subst this;exact ⟨rfl,fun v e=>by cases e⟩
 | cons p Nr ih =>
  cases ws with
  | nil=>exact absurd h.1 (by simp)
  | cons q ws =>
   obtain ⟨h1,h2⟩:=h;rw [zO,zO] at h1 h2;injection h1 with h3 h4;simp only [Nv] at h2;obtain ⟨v,vs,h5,h6,h7⟩:=h2;injection h5 with h8 h9;subst h8;subst h9;by_cases e:q.1=k
   ·have e':p.1=k:=h3.trans e
    simp only [mF,eC,List.find?_cons,e,e',decide_true,map_some];refine ⟨rfl,fun v hv=>?_⟩;cases hv;exact ⟨_,rfl,h6⟩
   ·have e':¬ p.1=k:=fun z=>e (h3.symm.trans z)
    have:=ih (ws:=ws) ⟨h4,h7⟩
    simp only [mF,eC,List.find?_cons,e,e',decide_false] at this ⊢;exact this
section
variable {X:Cx}{Np:List (Addr × Obj)}{σ:St}{H:Hp}{s:Shared}{P:Pr}{φ:List Addr}{st:aa}
theorem mR (h:jJ x=some k) (r:RA mg P H φ x v):v=kV k:=by
 cases x <;> simp only [jJ] at h <;> first | (cases h;done) | skip
 ·cases h;simp only [RA] at r;exact r
 ·cases h;simp only [RA] at r;exact r
theorem pr [Nt]:∀ {xs:List AV}{vs:List V}{k:List aZ},aG jJ xs=some k->Nv mg P H φ xs vs->vs=k.map kV:=by
 intro xs
 induction xs with
 | nil=>intro vs k e r;cases e;simp only [Nv] at r;exact r
 | cons x xs ih =>
  intro vs k e r;simp only [aG] at e;obtain ⟨p,e1,e2⟩:=zA e;obtain ⟨qs,e3,e4⟩:=zE.mp e2;subst e4;simp only [Nv] at r;obtain ⟨v,ws,rfl,r1,r2⟩:=r;rw [mR e1 r1,ih e3 r2];rfl
theorem rc [Nt] (sm:Sim X.gm P φ st H) {x y:AV}{v w:V}{o:Option AV} (h:i5 st y x=some o) (rx:RA X.gm P H φ x v) (ry:RA X.gm P H φ y w) :
  ∃ a o',w=.ref a/\DGet H a v o'/\o.isSome=o'.isSome/\∀ t,o=some t->∃ u,o'=some u/\RA X.gm P H φ t u:=by
 unfold i5 at h;split at h
 ·rename_i Nr e
  obtain ⟨k,e1,e2⟩:=zE.mp h;subst e2;cases y <;> simp only [gU] at e <;> first | (cases e;done) | skip
  split at e
  ·rename_i j kvs' e3
   cases e;simp only [RA] at ry;obtain ⟨a,ea,rfl⟩:=ry;obtain ⟨a',ea',c⟩:=sm.at e3;rw [ea] at ea';cases ea';obtain ⟨_,ws,q1,q2⟩:=c
   have:=mR e1 rx
   subst this;exact ⟨a,_,rfl,DGet.k q1,(jB q2 k).1,(jB q2 k).2⟩
  ·cases e
 ·split at h
  ·rename_i Nr e
   split at h
   ·rename_i xs
    obtain ⟨k,e1,e2⟩:=zE.mp h;subst e2;cases y <;> simp only [kn] at e <;> first | (cases e;done) | skip
    split at e
    ·rename_i j kvs' e3
     cases e;simp only [RA] at ry;obtain ⟨a,ea,rfl⟩:=ry;obtain ⟨a',ea',c⟩:=sm.at e3;rw [ea] at ea';cases ea';obtain ⟨_,ws,q1,q2⟩:=c;simp only [RA] at rx;obtain ⟨b,vs,rfl,_,hb,rr⟩:=rx;rw [pr e1 rr] at hb;exact ⟨a,_,rfl,DGet.t q1 hb,(jB q2 k).1,(jB q2 k).2⟩
    ·cases e
   ·cases h
  ·cases h
theorem qX (hu:X.A.units + 64 < cLine) {v:Value}{q:PyData}{as bs:List Addr}{ps:List PyData}{items:Array Value} (ra:Reads s.heap v q as) (rb:ReadsAll s.heap items.toList ps bs) (hk:(ps.all fun r=>pyOk r q)=true) :
  ∃ e:Value->Bool,(∀ z ∈ items,SeqAt.EqAt X.A.in1 s z v (e z))/\items.any e=ps.any fun r=>PyData.eqv r q:=by
 classical
 have uq:∀ z p' az,Reads s.heap z p' az->decide (∃ p as,Reads s.heap z p as/\PyData.eqv p q=true)=PyData.eqv p' q:=by
  intro z p' az rz;rcases he:PyData.eqv p' q with _ | _
  ·refine yA ?_
   rintro ⟨p2,as',r',e'⟩
   have:=(PySem.Reads.unique rz p2 as' r').1
   rw [<- this,he] at e';cases e'
  ·exact yT ⟨p',az,rz,he⟩
 refine ⟨fun z=>decide (∃ p as,Reads s.heap z p as/\PyData.eqv p q=true),fun z hz=>?_,?_⟩
 ·obtain ⟨pz,az,hpz,rz⟩:=reads_each rb z (by simpa using hz)
  obtain ⟨k1,k2,k3⟩:=oP (yP.mp hk pz hpz);dsimp only;rw [uq z pz az rz];exact PySem.SeqAt.eqAt_reads pz q _ s z v az as rz ra k1 k2 (by simp only [Around.in1_units];omega)
 ·have hc:=any_vals (q:=q) (e:=fun z=>decide (∃ p as,Reads s.heap z p as/\PyData.eqv p q=true)) (h:=s.heap) (fun v p as rv=>uq v p as rv) rb
  rw [<- hc];simp
theorem tD [Nt] (hu:X.A.units + 64 < cLine) (I:L2.Inv X Np σ H s) (sm:Sim X.gm P φ st H) {x y:AV}{v w:V}{u r:Value}{b:Bool} (h:jZ st x y=some b) (rx:RA X.gm P H φ x v) (ry:RA X.gm P H φ y w) (ru:RelV v u) (rr:RelV w r) {E:Value->Shared->Prop}
  {Q:Value->Shared->Prop}{Q':Value->Shared->Prop} (hQ:∀ s',L2.Inv X Np σ H s'->Q (.bool b) s') (hQ':∀ s',L2.Inv X Np σ H s'->Q' (.bool (!b)) s') :
  wpAny (model X.prog X.w) X.A (compareOp .In u r) Q E s/\wpAny (model X.prog X.w) X.A (compareOp .NotIn u r) Q' E s:=by
 unfold jZ at h;split at h
 ·rename_i o e
  cases h;obtain ⟨a,o',rfl,g,eo,_⟩:=rc sm e rx ry;cases rr;exact ⟨K7 oM I g ru fun s' I'=>by rw [<- eo];exact hQ s' I',Dh oM I g ru fun s' I'=>by rw [<- eo];exact hQ' s' I'⟩
 ·split at h
  ·rename_i a c
   cases h;simp only [RA] at rx ry;subst rx;subst ry;obtain ⟨t,rfl⟩:=ru;obtain ⟨t',rfl⟩:=rr;exact ⟨in_str (hQ s I),notIn_str (hQ' s I)⟩
  ·obtain ⟨q,e1,e2⟩:=zA h
   obtain ⟨p,e3,e4⟩:=zA e2;obtain ⟨as,ra⟩:=dW I sm 9 _ _ _ _ rx e1 ru;obtain ⟨bs,rb⟩:=dW I sm 9 _ _ _ _ ry e3 rr;split at e4
   ·rename_i ps
    split at e4
    ·rename_i hk
     cases e4;cases rb with
     | @list a o items n xs as' hg hc hdt rall =>
      obtain ⟨e,he,ee⟩:=qX hu ra rall hk;have hl:s.heap.IsList a items:=⟨o,hg,hc,n,hdt⟩;exact ⟨SeqAt.in_listAt e hl he (by rw [ee];exact hQ s I),SeqAt.notIn_listAt e hl he (by rw [ee];exact hQ' s I)⟩
    ·cases e4
   ·rename_i ps
    split at e4
    ·rename_i hk
     cases e4;cases rb with
     | @tuple a o items n xs as' hg hc hdt rall =>
      obtain ⟨e,he,ee⟩:=qX hu ra rall hk;have hl:IsTup s.heap a items:=⟨o,hg,hc,n,hdt⟩;exact ⟨SeqAt.in_tupleAt e hl he (by rw [ee];exact hQ s I),SeqAt.notIn_tupleAt e hl he (by rw [ee];exact hQ' s I)⟩
    ·cases e4
   ·cases e4
end
end R
namespace PySem.W
open PySem.Calls PyProof.Rows PySem.Spec
theorem BP (x y:Addr) (a b c d:Int) (t1 t2 t3 t4:Tok) (hp0:Heap) (h1:IsTup hp0 x #[.int a t1,.int b t2]) (h2:IsTup hp0 y #[.int c t3,.int d t4]) :
  Meets (Builtin.«tuple.__lt__» ⟨[.ref x,.ref y],[]⟩)
   (fun _ R s=>s.heap=hp0/\R (.ok (.ret (.bool (if a=c then decide (b < d) else decide (a < c))))) s):=by
 intro prog w A R s h;obtain ⟨hp,g,dd,tk,os⟩:=s;obtain ⟨rfl,h⟩:=h;have f3:=PySem.AutoSeq1.sub_tuple_tuple;obtain ⟨o2,g2,c2,n2,d2⟩:=id h2;show wpAny _ _ _ _ _ _
 wp_walk using PySem.AutoSeq1.wpAny_loadPart' g2
 rw [c2,f3];refine yG ?_;show wpAny (model prog w) A.in1 (Builtin.Tuple.tupleItemsOf (.ref x) >>= _) _ _ _;refine yF (tupleItemsOf_ h1 ?_);refine yF (tupleItemsOf_ h2 ?_);dsimp only [List.zip_cons_cons,List.zip_nil_right];refine yF ?_;rw [List.forIn_cons];refine yF ?_;show wpAny (model prog w) A.in1 (eqBool (.int a t1) (.int c t3) >>= _) _ _ _;refine yF (wpAny_eqBool_int ?_);by_cases e:a=c
 ·rw [yI e] at h
  rw [show (a == c)=true by simp [e]];refine yG ?_;dsimp only;rw [List.forIn_cons];refine yF ?_;show wpAny (model prog w) A.in1 (eqBool (.int b t2) (.int d t4) >>= _) _ _ _;refine yF (wpAny_eqBool_int ?_);by_cases e2:b=d
  ·rw [show (b == d)=true by simp [e2]]
   refine yG ?_;dsimp only;rw [List.zip_nil_right,List.forIn_nil];refine yG ?_;rw [yA oM] at h
   wp_walk
   exact h
  ·rw [show (b == d)=false by simpa using e2]
   wp_walk using HT.rcLt_int A.in1 ⟨hp,g,dd,tk,os⟩ b t2 d t4 prog w
   exact h
 ·rw [yH e] at h
  rw [show (a == c)=false by simpa using e]
  wp_walk using HT.rcLt_int A.in1 ⟨hp,g,dd,tk,os⟩ a t1 c t3 prog w
  exact h
end PySem.W
namespace R
open PySem PySem.Spec PyProof.Rows L2 PySem.W
theorem CV {prog:Program}{w:World}{A:Around}{Q:Value->Shared->Prop}{E:Value->Shared->Prop}{s:Shared}{x y:Addr}{a b c d:Int}{t1 t2 t3 t4:Tok} (hu:A.units < cLine) (h1:IsTup s.heap x #[.int a t1,.int b t2]) (h2:IsTup s.heap y #[.int c t3,.int d t4])
  (h:Q (.bool (if a=c then decide (b < d) else decide (a < c))) s):wpAny (model prog w) A (compareOp .Lt (.ref x) (.ref y)) Q E s:=by
 obtain ⟨o1,g1,c1,_⟩:=id h1;obtain ⟨o2,g2,c2,_⟩:=id h2;exact cmp_ofLt (richCompare_meets_room (op:=.Lt) (T:="tuple") ⟨o1,g1,c1⟩ ⟨o2,g2,c2⟩ PySem.F.slot_tuple_lt PySem.F.entry_tuple_lt (PySem.F.args_tuple_lt_2 _ _) (BP x y a b c d t1 t2 t3 t4 s.heap h1 h2) ⟨rfl,(fun e=>nomatch e),h⟩ hu)
end R
namespace R
open PySem PySem.Spec PyProof.Rows L2
open DD (PE_imp PT_imp PA_imp PS_imp PSs_imp OpR_imp PW_imp PG_imp pyOk)
section
variable {X:Cx}
theorem wm [Nt] (hu:X.A.units + 64 < cLine) (o:CmpOp):lE X (compareOp o) (r2 X.gm (kJ (mU o))):=by
 rintro Np s σ H v w u r Q I ru rr ⟨P,φ,st,x,y,sm,rx,ry,k⟩;obtain ⟨z,e,k⟩:=k.map;obtain ⟨b,e1,e2⟩:=zE.mp e;subst e2;have aH:∀ s',L2.Inv X Np σ H s'->EP X Np σ Q (.bool b) s':=fun s' I'=>⟨.bl b,H,I',rfl,k.pure sm (by simp only [RA])⟩
 have neg:∀ {o:Option Bool},o.map (!·)=some b->∃ c,o=some c/\b=!c:=fun h=>by
  obtain ⟨c,h1,h2⟩:=zE.mp h;exact ⟨c,h1,h2.symm⟩
 have eq:∀ {c:Bool},gM st x y=some c->∀ {Q:Value->Shared->Prop}{E:Value->Shared->Prop},(Q (.bool c) s->wpAny (model X.prog X.w) X.A (compareOp .Eq u r) Q E s)/\(Q (.bool (!c)) s->wpAny (model X.prog X.w) X.A (compareOp .NotEq u r) Q E s):=by
  intro c h Q E;unfold gM at h;obtain ⟨p,h1,h2⟩:=zA h;obtain ⟨q,h3,h4⟩:=zA h2;split at h4
  ·rename_i hk
   cases h4;obtain ⟨c1,c2,hd⟩:=oP hk;obtain ⟨as,ra⟩:=dW I sm 9 _ _ _ _ rx h1 ru;obtain ⟨bs,rb⟩:=dW I sm 9 _ _ _ _ ry h3 rr;exact ⟨fun q=>SeqAt.eqOverData _ _ _ _ _ _ _ _ _ _ _ _ ra rb c1 c2 oM q,fun q=>SeqAt.neOverData _ _ _ _ _ _ _ _ _ _ _ _ ra rb c1 c2 oM q⟩
  ·unfold uk at h4
   split at h4
   ·cases h4
    obtain ⟨as,ra⟩:=dW I sm 9 _ _ _ _ rx h1 ru;obtain ⟨bs,rb⟩:=dW I sm 9 _ _ _ _ ry h3 rr;cases ra;cases rb;exact ⟨fun q=>eq_str q,fun q=>ne_str q⟩
   ·cases h4
 have is:∀ {c:Bool},F2 x y=some c->∀ {Q:Value->Shared->Prop}{E:Value->Shared->Prop},(Q (.bool c) s->wpAny (model X.prog X.w) X.A (compareOp .Is u r) Q E s)/\(Q (.bool (!c)) s->wpAny (model X.prog X.w) X.A (compareOp .IsNot u r) Q E s):=by
  intro c h Q E;have nn:y=.non->c=(u == Value.none)->(Q (.bool c) s->wpAny (model X.prog X.w) X.A (compareOp .Is u r) Q E s)/\(Q (.bool (!c)) s->wpAny (model X.prog X.w) X.A (compareOp .IsNot u r) Q E s):=fun hy hc=>by
   subst hy;simp only [RA] at ry;subst ry;cases rr;exact ⟨fun q=>is_none_gen (by rw [<- hc];exact q),fun q=>isnot_none_gen (by rw [<- hc];exact q)⟩
  cases y with
  | non =>
   have h:some (Fl x)=some c:=h;cases h;refine nn rfl ?_;cases x with
   | non=>simp only [RA] at rx;subst rx;cases ru;rfl
   | _=>rw [RelV.none_iff ru];refine (yA fun hv=>?_).symm;subst hv;simp only [RA] at rx;first | (cases rx;done) | (obtain ⟨_,_,z,_⟩:=rx;cases z;done) | (obtain ⟨_,_,z⟩:=rx;cases z;done)
  | bl d=>cases x with
   | bl a =>
    cases h;simp only [RA] at rx ry;subst rx;subst ry;cases ru;cases rr;cases a <;> cases d <;> exact ⟨fun q=>yG q,fun q=>yG q⟩
   | _=>exact nomatch h
  | _=>exact nomatch h
 have ord:∀ {a c:Int},x=.int a->y=.int c->yp o a c=some b->wpAny (model X.prog X.w) X.A (compareOp o u r) (EP X Np σ Q) X.xe s:=by
  intro a c hx hy ho;subst hx;subst hy;simp only [RA] at rx ry;subst rx;subst ry;obtain ⟨t,rfl⟩:=ru;obtain ⟨t',rfl⟩:=rr;cases o <;> simp only [yp] at ho <;> first | (cases ho;done) | skip
  ·cases ho;exact lt_int (aH s I)
  ·cases ho;exact le_int (aH s I)
  ·cases ho;exact gt_int (aH s I)
  ·cases ho;exact ge_int (aH s I)
 have tl:∀ {as cs:List AV},x=.tup as->y=.tup cs->FJ o as cs=some b->wpAny (model X.prog X.w) X.A (compareOp o u r) (EP X Np σ Q) X.xe s:=by
  intro as cs hx hy ho;unfold FJ at ho;split at ho
  ·cases ho
   subst hx;subst hy;obtain ⟨_,ra⟩:=dW I sm 9 _ _ _ _ rx rfl ru;obtain ⟨_,rb⟩:=dW I sm 9 _ _ _ _ ry rfl rr;cases ra with
   | @tuple a1 o1 i1 n1 x1 as1 g1 c1 d1 q1 =>
   cases rb with
   | @tuple a2 o2 i2 n2 x2 as2 g2 c2 d2 q2 =>
   obtain ⟨l1⟩:=i1;obtain ⟨l2⟩:=i2;rcases q1 with _ | ⟨p1,_ | ⟨p2,_ | _⟩⟩;rcases q2 with _ | ⟨p3,_ | ⟨p4,_ | _⟩⟩;cases p1;cases p2;cases p3;cases p4;exact CV oM ⟨o1,g1,c1,n1,d1⟩ ⟨o2,g2,c2,n2,d2⟩ (aH s I)
  ·cases ho
 cases o <;> simp only [cm] at e1
 case Eq=>exact (eq e1).1 (aH s I)
 case NotEq=>obtain ⟨c,h1,rfl⟩:=neg e1;exact (eq h1).2 (aH s I)
 case Is=>exact (is e1).1 (aH s I)
 case IsNot=>obtain ⟨c,h1,rfl⟩:=neg e1;exact (is h1).2 (aH s I)
 case In=>exact (tD hu I sm e1 rx ry ru rr (Q':=fun _ _=>True) aH fun _ _=>trivial).1
 case NotIn=>obtain ⟨c,h1,rfl⟩:=neg e1;exact (tD hu I sm h1 rx ry ru rr (Q:=fun _ _=>True) (fun _ _=>trivial) aH).2
 all_goals
  split at e1
  ·exact ord rfl rfl e1
  ·exact tl rfl rfl e1
  ·cases e1
noncomputable def lO (op:CmpOp) (b:Expr):Bool:=!(behindInMarks op b)
theorem qM (h:lO op b=true):behindInMarks op b=false:=by simpa [lO] using h
theorem Ez [Nt] (hu:X.A.units + 64 < cLine) (ha:QE X a f) (hb:QE X b g) (hm:lO o b=true):QE X (.Compare a [o] [b] pos) (a2 f g (kJ (mU o))) :=
 PE_imp (CD (wm hu o) ha hb (qM hm)) fun _ _ _ q=>vq q
def DI (f g:EF) (o:CmpOp):TF:=fun sl st=>(f sl st).bind fun p=>(g sl p.2).bind fun q=>(cm o q.2 p.1 q.1).map fun b=>(b,q.2)
theorem Eb [Nt] (hu:X.A.units + 64 < cLine) (ha:QE X a f) (hb:QE X b g) (hm:lO o b=true):QT X (.Compare a [o] [b] pos) (DI f g o) :=
 PT_imp (Cl (wm hu o) ha hb (qM hm)) fun σ H Q hq0=>by
  obtain ⟨P,φ,sl,st,rs,s,k⟩:=hq0;refine vq (k:=kJ (mU o)) ⟨P,φ,sl,st,rs,s,?_⟩;obtain ⟨b,st',e,q⟩:=k;unfold DI at e;obtain ⟨p,e1,e2⟩:=zA e;obtain ⟨r,e3,e4⟩:=zA e2;obtain ⟨c,e5,e6⟩:=zE.mp e4;injection e6 with e7 e8;subst e7;subst e8;refine ⟨.bl c,r.2,by simp only [a2,e1,bind_some,e3,kJ,mU,e5,map_some],fun P' φ' H' w f' s' r'=>?_⟩;simp only [RA] at r';exact ⟨c,r',q P' φ' H' c f' s' rfl⟩
def l7 (o:UnaryOp) (_:aa):AV->Option AV
 | .int i=>match o with
  | .USub=>some (.int (-i))
  | .Invert=>some (.int (Builtin.bitNot i))
  | _=>none
 | _=>none
theorem Hj [Nt] (ha:QE X a f):QE X (.UnaryOp o a pos) (a1 f (DQ (l7 o))):=by
 have h:xo X (unaryOp o) (r1 X.gm (DQ (l7 o))):=by
  rintro Np s σ H v u Q I ru ⟨P,φ,st,x,sm,rx,k⟩;obtain ⟨z,e,k⟩:=k.map;cases x <;> simp only [l7] at e <;> first | (cases e;done) | skip
  rename_i i;simp only [RA] at rx;subst rx;cases o <;> first | (cases e;done) | skip
  ·cases e
   exact Dv Np s σ H _ u Q I ru ⟨i,rfl,k.pure sm (by simp only [RA])⟩
  ·cases e
   exact Du Np s σ H _ u Q I ru ⟨i,rfl,k.pure sm (by simp only [RA])⟩
 exact PE_imp (Hu h ha) fun _ _ _ q=>Lq q
def fy (st:aa) (v:AV):Option Bool:=match bq st v with
 | some xs=>some !xs.isEmpty
 | none=>match v with
  | .non=>some false
  | .bl b=>some b
  | .int i=>some (i != 0)
  | .str x=>if Nat.ble x.length 1000000=true then some ((x.length:Int) != 0) else none
  | .tup xs=>some !xs.isEmpty
  | v=>(gU st v).map fun Nr=>!Nr.isEmpty
theorem pA (r:Nv mg P H φ xs vs):vs.isEmpty=xs.isEmpty:=by
 cases xs with
 | nil=>simp only [Nv] at r;subst r;rfl
 | cons x xs=>simp only [Nv] at r;obtain ⟨v,ws,rfl,_⟩:=r;rfl
theorem xG [Nt] {P:Pr}{H:Hp}{φ:List Addr}{st:aa} (sm:Sim X.gm P φ st H) {v:AV}{w:V}{b:Bool} (h:fy st v=some b) (r:RA X.gm P H φ v w):Ap X.K w H b:=by
 unfold fy at h;split at h
 ·rename_i xs e
  cases h;obtain ⟨a,vs,rfl,rd,q⟩:=r.ls sm e;exact .inl ⟨vs,rd,by rw [pA q]⟩
 ·cases v <;> simp only at h
  case non=>cases h;simp only [RA] at r;subst r;exact rfl
  case bl=>cases h;simp only [RA] at r;subst r;exact rfl
  case int=>cases h;simp only [RA] at r;subst r;exact rfl
  case str x =>
   simp only [RA] at r;subst r;split at h
   ·rename_i hl;cases h;exact ⟨z5 (zS hl) dC,rfl⟩
   ·cases h
  case tup xs =>
   cases h;simp only [RA] at r;obtain ⟨a,vs,rfl,_,e,q⟩:=r;exact .inr (.inl ⟨vs,.inl (.inl e),by rw [pA q]⟩)
  case fz=>obtain ⟨_,z,_⟩:=zE.mp h;simp [gU] at z
  case ref k =>
   obtain ⟨Nr,e1,e2⟩:=zE.mp h;subst e2;simp only [gU] at e1;split at e1
   ·rename_i kvs' hk
    cases e1;simp only [RA] at r;obtain ⟨a,ea,rfl⟩:=r;obtain ⟨a',ea',c⟩:=sm.at hk;rw [ea] at ea';cases ea';obtain ⟨_,ws,q1,q2,q3⟩:=c;refine .inr (.inr ⟨ws,q1,?_⟩)
    have:=congrArg List.isEmpty q2
    simpa using this
   ·cases e1
def tV (f:EF):TF:=fun sl st=>(f sl st).bind fun p=>(fy p.2 p.1).map fun b=>(b,p.2)
theorem D0 [Nt] (ha:QE X a f) (he:∀ whole,isTrue a X.env whole=(do let v <- whole;standAt a.pos;holding [v] (truthy v))):QT X a (tV f) :=
 PT_imp (xY ha he) fun σ H Q ⟨P,φ,sl,st,rs,s,k⟩=>⟨P,φ,sl,st,rs,s,by
  obtain ⟨a,st',e1,q⟩:=k.bind (Ra:=RA);refine ⟨a,st',e1,fun P1 φ1 H1 b f1 s1 r1=>?_⟩;obtain ⟨P2,φ2,st2,x,f2,s2,r2,k2⟩:=q P1 φ1 H1 b f1 s1 r1;obtain ⟨c,e2,k2⟩:=k2.map;exact ⟨c,xG s2 e2 r2,k2.pure s2 rfl⟩⟩
def Jm (f g:TF):TF:=fun sl st=>(f sl st).bind fun p=>if p.1=true then g sl p.2 else some (false,p.2)
def DB (f g:TF):TF:=fun sl st=>(f sl st).bind fun p=>if p.1=true then some (true,p.2) else g sl p.2
def Jk (f:TF):TF:=fun sl st=>(f sl st).bind fun p=>some (!p.1,p.2)
section
variable {a b:Expr}{rest:List Expr}{pos:Pos}{f g:TF}
theorem ny [Nt] (op:BoolOp) (ha:QT X a f):QW X (.BoolOp op [a] pos) f:=by
 cases op
 ·exact Ck ha
 ·exact EB ha
theorem nA [Nt] (ha:QT X a f) (hb:QW X (.BoolOp .And (b::rest) pos) g):QW X (.BoolOp .And (a::b::rest) pos) (Jm f g) :=
 PW_imp (EC ha hb) fun σ H Q ⟨P,φ,sl,st,rs,s,k⟩=>⟨P,φ,sl,st,rs,s,by
  obtain ⟨a,st',e1,q⟩:=k.bind (Ra:=RB);refine ⟨a,st',e1,fun P1 φ1 H1 c f1 s1 r1=>?_⟩;obtain ⟨P2,φ2,st2,x,f2,s2,r2,k2⟩:=q P1 φ1 H1 c f1 s1 r1;cases r2;cases c with
  | true=>exact ⟨P2,φ2,sl,st2,rs.frm f2,s2,k2⟩
  | false=>exact k2.pure s2 rfl⟩
theorem pU [Nt] (ha:QT X a f) (hb:QW X (.BoolOp .Or (b::rest) pos) g):QW X (.BoolOp .Or (a::b::rest) pos) (DB f g) :=
 PW_imp (Hq ha hb) fun σ H Q ⟨P,φ,sl,st,rs,s,k⟩=>⟨P,φ,sl,st,rs,s,by
  obtain ⟨a,st',e1,q⟩:=k.bind (Ra:=RB);refine ⟨a,st',e1,fun P1 φ1 H1 c f1 s1 r1=>?_⟩;obtain ⟨P2,φ2,st2,x,f2,s2,r2,k2⟩:=q P1 φ1 H1 c f1 s1 r1;cases r2;cases c with
  | false=>exact ⟨P2,φ2,sl,st2,rs.frm f2,s2,k2⟩
  | true=>exact k2.pure s2 rfl⟩
theorem Ea [Nt] (ha:QT X a f):QT X (.UnaryOp .Not a pos) (Jk f) :=
 PT_imp (ED ha) fun σ H Q ⟨P,φ,sl,st,rs,s,k⟩=>⟨P,φ,sl,st,rs,s,by
  obtain ⟨a,st',e1,q⟩:=k.bind (Ra:=RB);refine ⟨a,st',e1,fun P1 φ1 H1 c f1 s1 r1=>?_⟩;obtain ⟨P2,φ2,st2,x,f2,s2,r2,k2⟩:=q P1 φ1 H1 c f1 s1 r1;cases r2;exact k2.pure s2 rfl⟩
end
def By (f g:EF):EF:=fun sl st=>(f sl st).bind fun p=>match p.1 with
 | .bl true=>g sl p.2
 | .bl false=>some (.bl false,p.2)
 | _=>none
def Bv (f g:EF):EF:=fun sl st=>(f sl st).bind fun p=>match p.1 with
 | .bl false=>g sl p.2
 | .bl true=>some (.bl true,p.2)
 | _=>none
def Bx (f:EF):EF:=fun sl st=>(f sl st).bind fun p=>match p.1 with
 | .bl b=>some (.bl !b,p.2)
 | _=>none
def JT (t:TF) (f g:EF):EF:=fun sl st=>(t sl st).bind fun p=>if p.1=true then f sl p.2 else g sl p.2
section
variable {a b c:Expr}{rest:List Expr}{pos:Pos}{f g:EF}{t:TF}
theorem KG.no [Nt] {α β:Type}{Ra:Gm->Pr->Hp->List Addr->α->β->Prop}{Q:β->Hp->Prop} (h:KG mg Ra P φ H none Q):False:=by obtain ⟨_,_,e,_⟩:=h;cases e
theorem vV [Nt] (ha:QE X a f) (hb:QE X (.BoolOp .And (b::rest) pos) g):QE X (.BoolOp .And (a::b::rest) pos) (By f g) :=
 PE_imp (EY ha hb) fun σ H Q ⟨P,φ,sl,st,rs,s,k⟩=>⟨P,φ,sl,st,rs,s,by
  obtain ⟨a,st',e1,q⟩:=k.bind (Ra:=RA);refine ⟨a,st',e1,fun P1 φ1 H1 c f1 s1 r1=>?_⟩;obtain ⟨P2,φ2,st2,x,f2,s2,r2,k2⟩:=q P1 φ1 H1 c f1 s1 r1;cases x <;> first | exact k2.no.elim | skip
  rename_i d;simp only [RA] at r2;refine ⟨d,r2,?_⟩;cases d with
  | true=>exact ⟨P2,φ2,sl,st2,rs.frm f2,s2,k2⟩
  | false=>exact k2.pure s2 (by simp only [RA])⟩
theorem AO [Nt] (ha:QE X a f) (hb:QE X (.BoolOp .Or (b::rest) pos) g):QE X (.BoolOp .Or (a::b::rest) pos) (Bv f g) :=
 PE_imp (Hv ha hb) fun σ H Q ⟨P,φ,sl,st,rs,s,k⟩=>⟨P,φ,sl,st,rs,s,by
  obtain ⟨a,st',e1,q⟩:=k.bind (Ra:=RA);refine ⟨a,st',e1,fun P1 φ1 H1 c f1 s1 r1=>?_⟩;obtain ⟨P2,φ2,st2,x,f2,s2,r2,k2⟩:=q P1 φ1 H1 c f1 s1 r1;cases x <;> first | exact k2.no.elim | skip
  rename_i d;simp only [RA] at r2;refine ⟨d,r2,?_⟩;cases d with
  | false=>exact ⟨P2,φ2,sl,st2,rs.frm f2,s2,k2⟩
  | true=>exact k2.pure s2 (by simp only [RA])⟩
theorem Eu [Nt] (ha:QE X a f):QE X (.UnaryOp .Not a pos) (Bx f) :=
 PE_imp (ET ha) fun σ H Q ⟨P,φ,sl,st,rs,s,k⟩=>⟨P,φ,sl,st,rs,s,by
  obtain ⟨a,st',e1,q⟩:=k.bind (Ra:=RA);refine ⟨a,st',e1,fun P1 φ1 H1 c f1 s1 r1=>?_⟩;obtain ⟨P2,φ2,st2,x,f2,s2,r2,k2⟩:=q P1 φ1 H1 c f1 s1 r1;cases x <;> first | exact k2.no.elim | skip
  rename_i d;simp only [RA] at r2;exact ⟨d,r2,k2.pure s2 (by simp only [RA])⟩⟩
theorem Hn [Nt] (hc:QT X c t) (ha:QE X a f) (hb:QE X b g):QE X (.IfExp c a b pos) (JT t f g) :=
 PE_imp (yk hc ha hb) fun σ H Q ⟨P,φ,sl,st,rs,s,k⟩=>⟨P,φ,sl,st,rs,s,by
  obtain ⟨a,st',e1,q⟩:=k.bind (Ra:=RB);refine ⟨a,st',e1,fun P1 φ1 H1 c f1 s1 r1=>?_⟩;obtain ⟨P2,φ2,st2,x,f2,s2,r2,k2⟩:=q P1 φ1 H1 c f1 s1 r1;cases r2;cases c with
  | true=>exact ⟨P2,φ2,sl,st2,rs.frm f2,s2,k2⟩
  | false=>exact ⟨P2,φ2,sl,st2,rs.frm f2,s2,k2⟩⟩
end
def cU (st:aa) (x y:AV):Option AV:=match i5 st x y with
 | some o=>o
 | none=>match y with
  | .int i=>match bq st x with
   | some xs=>fM xs i
   | none=>match iB st x with
    | some xs=>fM xs i
    | none=>match x with
     | .str z=>if Nat.ble z.length 1000000=true then (fM z.cps.toList i).map fun c=>.str ⟨#[c]⟩ else none
     | _=>none
  | _=>none
theorem o6 {i:Int} (r:Nv mg P H φ xs vs) (h:fM xs i=some x):∃ v,fM vs i=some v/\RA mg P H φ x v:=by
 unfold fM at h ⊢;rw [<- r.length];obtain ⟨j,e1,e2⟩:=zA h;rw [e1,bind_some];exact r.get e2
theorem C6 (hu:X.A.units + 64 < cLine):IxR X (fun x y H Q=>∃ a v,x=.ref a/\DGet H a y (some v)/\Q v H):=by
 rintro value slice Np s σ H x y v u Q I rx ry ⟨a,t,ex,g,q⟩ hs;subst ex;cases rx;have hT:=sA I g;unfold subscriptTail;refine yF ?_;rw [getitemInPython_of_ne hT.not_modules];refine yF (wpAny_specialOf hT PySem.F.slot_dict_getitem.lookup ?_);have aH:wpAny (model X.prog X.w) X.A (subscripted slice false (.ref a) u) (fun r s₃=>wpAny (model X.prog X.w) X.A (letTemporaryGo value (.ref a) r >>= fun _=>pure r) (EP X Np σ Q) X.xe s₃) X.xe s:=by
  rw [hs];exact wpAny_operating (wY oM I g ry fun w' s3 I3 rw'=>yF (wpAny_letTemporaryGo (yG ⟨t,H,I3,rw',q⟩)))
 first
  | exact yG (yF aH)
  | exact yF (yG (yF aH))
  | exact yF aH
theorem KY [Nt] (hu:X.A.units + 64 < cLine):IxR X (r2 X.gm (kJ cU)):=by
 rintro value slice Np s σ H v w u r Q I ru rr ⟨P,φ,st,x,y,sm,rx,ry,k0⟩ hs;obtain ⟨z,e,k⟩:=k0.map;clear k0;unfold cU at e;split at e
 ·rename_i o eo
  subst e;obtain ⟨a,o',rfl,g,_,g2⟩:=rc sm eo ry rx;obtain ⟨t,rfl,rt⟩:=g2 z rfl;exact C6 hu value slice Np s σ H _ _ u r Q I ru rr ⟨a,t,rfl,g,k.pure sm rt⟩ hs
 ·cases y with
  | int i =>
   simp only [RA] at ry;subst ry;dsimp only at e;split at e
   ·rename_i xs el
    obtain ⟨a,vs,rfl,rd,q⟩:=rx.ls sm el;obtain ⟨t,e2,rt⟩:=o6 q e;exact qV value slice Np s σ H _ _ u r Q I ru rr (.inl ⟨a,vs,i,t,rfl,rfl,rd,e2,k.pure sm rt⟩) hs
   ·split at e
    ·rename_i xs el
     obtain ⟨a,vs,rfl,rd,q⟩:=rx.tp sm el;obtain ⟨t,e2,rt⟩:=o6 q e;exact qV value slice Np s σ H _ _ u r Q I ru rr (.inr (.inl ⟨a,vs,i,t,rfl,rfl,.inl (.inl rd),e2,k.pure sm rt⟩)) hs
    ·cases x with
     | str x =>
      dsimp only at e;split at e
      ·rename_i hl
       obtain ⟨c,e1,e2⟩:=zE.mp e;subst e2;simp only [RA] at rx;subst rx;exact qV value slice Np s σ H _ _ u r Q I ru rr (.inr (.inr ⟨x,i,c,rfl,rfl,z5 (zS hl) dC,e1,k.pure sm (by simp only [RA])⟩)) hs
      ·cases e
     | _=>cases e
  | _=>cases e
theorem Hm [Nt] (hu:X.A.units + 64 < cLine) (ha:QE X a f) (hb:QE X b g) (hs:o9 b):QE X (.Subscript a b pos) (a2 f g (kJ cU)) :=
 PE_imp (Hx (KY hu) ha hb hs) fun _ _ _ q=>vq q
def JS (g:AF):EF:=fun sl st=>(g sl st).bind fun p=>if Nat.ble p.1.length 1000=true then some (.tup p.1,p.2) else none
theorem Es [Nt] {x1:Nat} (h:QA X es g):QE X (.Tuple es x1 pos) (JS g) :=
 PE_imp (ER h) fun σ H Q ⟨P,φ,sl,st,rs,s,k⟩=>⟨P,φ,sl,st,rs,s,by
  obtain ⟨a,st',e1,q⟩:=k.bind (Ra:=Nv);refine ⟨a,st',e1,fun P1 φ1 H1 vs f1 s1 r1=>?_⟩;obtain ⟨P2,φ2,st2,xs,f2,s2,r2,k2⟩:=q P1 φ1 H1 vs f1 s1 r1;dsimp only at k2;split at k2
  ·rename_i hl
   refine ⟨by rw [<- r2.length];exact z5 (zS hl) dC,fun p hp=>?_⟩;obtain ⟨f3,s3⟩:=kT (o:=.tup vs) s2 hp;obtain ⟨_,_,e5,q5⟩:=k2;cases e5;refine q5 _ _ _ _ f3 s3 ?_;simp only [RA];exact ⟨p,vs,rfl,.inr rfl,aw,r2.frm f3⟩
  ·exact k2.no.elim⟩
end
mutual
noncomputable def cC:AV->AV->Bool
 | .non,.non=>true
 | .bl a,.bl b=>a == b
 | .int a,.int b=>a == b
 | .str a,.str b=>a == b
 | .ref a,.ref b=>a == b
 | .tup a,.tup b=>fH a b
 | .fz a,.fz b=>fH a b
 | _,_=>false
noncomputable def fH:List AV->List AV->Bool
 | [],[]=>true
 | x::xs,y::ys=>cC x y && fH xs ys
 | _,_=>false
end
mutual
theorem tU:∀ {x y:AV},cC x y=true->x=y
 | .non,y,h=>by cases y <;> simp only [cC] at h <;> first | rfl | cases h
 | .bl a,y,h=>by cases y <;> simp only [cC] at h <;> first | (rw [yK h]) | cases h
 | .int a,y,h=>by cases y <;> simp only [cC] at h <;> first | (rw [yK h]) | cases h
 | .str a,y,h=>by cases y <;> simp only [cC] at h <;> first | (rw [yK h]) | cases h
 | .ref a,y,h=>by cases y <;> simp only [cC] at h <;> first | (rw [yK h]) | cases h
 | .tup a,y,h=>by cases y <;> simp only [cC] at h <;> first | (rw [lW h]) | cases h
 | .fz a,y,h=>by cases y <;> simp only [cC] at h <;> first | (rw [lW h]) | cases h
theorem lW:∀ {xs ys:List AV},fH xs ys=true->xs=ys
 | [],ys,h=>by cases ys <;> simp only [fH] at h <;> first | rfl | cases h
 | x::xs,ys,h=>by
  cases ys with
  | nil=>simp only [fH] at h;cases h
  | cons y ys =>
   simp only [fH,zC] at h;rw [tU h.1,lW h.2]
end
mutual
theorem xc:∀ x:AV,cC x x=true
 | .non=>by simp only [cC]
 | .bl a=>by simp [cC]
 | .int a=>by simp [cC]
 | .str a=>by simp [cC]
 | .ref a=>by simp [cC]
 | .tup a=>by simp only [cC];exact iQ a
 | .fz a=>by simp only [cC];exact iQ a
theorem iQ:∀ xs:List AV,fH xs xs=true
 | []=>by simp only [fH]
 | x::xs=>by simp only [fH,xc x,iQ xs,Bool.and_self]
end
abbrev Gd:=List (Nat × Nq)
def vi:Nq->Nq->Bool
 | .lst a,.lst b=>fH a b
 | .dK a,.dK b=>decide (a.map (·.1)=b.map (·.1)) && fH (a.map (·.2)) (b.map (·.2))
 | _,_=>false
def bN:Gd->aa->Bool
 | [],_=>true
 | g::gs,st=>(match st[g.1]? with | some c=>vi c g.2 | none=>false) && bN gs st
theorem Ac {k:Nat}{xs:List AV}{gs:Gd}{st:aa} (h:bN ((k,.lst xs)::gs) st=true):st[k]?=some (.lst xs)/\bN gs st=true:=by
 simp only [bN,zC] at h;refine ⟨?_,h.2⟩;have h:=h.1;split at h
 ·rename_i c e
  cases c <;> simp only [vi] at h <;> first | (cases h;done) | skip
  rw [e,lW h]
 ·cases h
theorem tJ {a b:Gd}{st:aa} (h:bN (a++b) st=true):bN a st=true/\bN b st=true:=by
 induction a with
 | nil=>exact ⟨rfl,h⟩
 | cons g a ih =>
  simp only [List.cons_append,bN,zC] at h ⊢;exact ⟨⟨h.1,(ih h.2).1⟩,(ih h.2).2⟩
structure Iv where
 Nu:List AV
 gd:Gd
abbrev IF:=Sl->aa->Option (Iv × aa)
structure sk [Nt] (mg:Gm) (J:It) (iv:Iv) (P:Pr) (φ:List Addr) (H:Hp):Prop where
 go:∀ P2 φ2 H2 st2 (i:Nat) x,Frm P φ H P2 φ2 H2->Sim mg P2 φ2 st2 H2->bN iv.gd st2=true->iv.Nu[i]?=some x->J.go i H2/\∀ v H3,J.yld i H2 v H3->∃ P3,Frm P2 φ2 H2 P3 φ2 H3/\Sim mg P3 φ2 st2 H3/\RA mg P3 H3 φ2 x v
 stop:∀ P2 φ2 H2 st2,Frm P φ H P2 φ2 H2->Sim mg P2 φ2 st2 H2->bN iv.gd st2=true->J.stop iv.Nu.length H2
def rI [Nt] (mg:Gm) (f:IF):TI:=fun σ H R=>∃ P φ sl st,ND mg P H φ sl σ/\Sim mg P φ st H/\∃ iv st',f sl st=some (iv,st')/\∀ P' φ' H' J,Frm P φ H P' φ' H'->Sim mg P' φ' st' H'->sk mg J iv P' φ' H'->R J H'
def QI [Nt] (X:Cx) (tg iter:Expr) (f:IF):Prop:=PI X tg iter (rI X.gm f)
theorem f9 (h:PI X tg iter t) (i:∀ σ H R,t' σ H R->t σ H R):PI X tg iter t':=fun Np s σ H R I h'=>h Np s σ H R I (i σ H R h')
def ib (st:aa) (v:AV):Option Iv:=match dr st v with
 | .fz xs=>some ⟨xs,[]⟩
 | .ref k=>match st[k]? with
  | some (.lst xs)=>some ⟨xs,[(k,.lst xs)]⟩
  | _=>none
 | _=>none
section
variable {mg:Gm}{P:Pr}{φ:List Addr}{st:aa}{H:Hp}{v:AV}{w:V}{iv:Iv}
theorem k8 [Nt] (s:Sim mg P φ st H) (r:RA mg P H φ v w) (h:ib st v=some iv):∃ a,w=.ref a/\∀ P2 φ2 H2 st2,Frm P φ H P2 φ2 H2->Sim mg P2 φ2 st2 H2->bN iv.gd st2=true->∃ vs,bA mg.K H2 a vs/\Nv mg P2 H2 φ2 iv.Nu vs:=by
 have r:=r.dr s;unfold ib at h;split at h
 ·rename_i ys e
  cases h;rw [e] at r;simp only [RA] at r;obtain ⟨a,vs,e1,e2,q⟩:=r;refine ⟨a,e1,fun P2 φ2 H2 st2 f _ _=>⟨vs,(e2.mono f.ext).sq,?_⟩⟩;exact Nv.lift (q.mono f.ext fun k a e=>by simp at e)
 ·rename_i k e
  rw [e] at r;simp only [RA] at r;obtain ⟨a,e1,e2⟩:=r;split at h
  ·rename_i ys e3
   cases h;refine ⟨a,e2,fun P2 φ2 H2 st2 f s2 g=>?_⟩;obtain ⟨g1,_⟩:=Ac g;obtain ⟨a',e4,c⟩:=s2.at g1;rw [f.ix k a e1] at e4;cases e4;obtain ⟨_,vs,q1,q2⟩:=c;exact ⟨vs,.inl (.inl q1),q2⟩
  ·cases h
 ·cases h
end
section
variable {X:Cx}{tg e a b:Expr}{es:List Expr}{pos p:Pos}
def nR (st:aa) (v:AV):Option Iv:=match v with
 | .str x=>if x.cps.all (· < 128)=true then some ⟨x.cps.toList.map fun c=>.str ⟨#[c]⟩,[]⟩ else none
 | v=>match iB st v with
  | some xs=>some ⟨xs,[]⟩
  | none=>ib st v
def iE (f:EF):IF:=fun sl st=>(f sl st).bind fun p=>(nR p.2 p.1).map fun iv=>(iv,p.2)
theorem EM [Nt] (hl:PE X e tl):PI X tg e (fun σ H R=>tl σ H fun x H1=>(∃ a,x=.ref a/\(∃ xs,bA X.K H1 a xs)/\R (BI X.K a) H1)\/(∃ a,x=.ref a/\(∃ xs,fR X.K H1 a xs)/\R (BG X.K a) H1)\/∃ x':Str,x=.str x'/\x'.cps.all (· < 128)=true/\R (BH x') H1):=by
 intro Np s σ H R I h;refine aE (hl Np s σ H _ I h) fun v s1 hq0=>?_
 obtain ⟨x,H1,I1,r1,q1⟩:=hq0;have fp:∀ b ∈ [s1.heap.objs.size],dw X Np H1 b:=fun b hb=>by
  have e:b=s1.heap.objs.size:=by simpa using hb
  subst e;exact I1.fpOk (zP _) (I1.Ny.fresh (zP _))
 rcases q1 with ⟨a,e,⟨xs,hq⟩,q⟩ | ⟨a,e,⟨xs,hq⟩,q⟩ | ⟨y,e,hy,q⟩
 ·subst e
  cases r1;obtain ⟨Nu,rv,p,hz⟩:=I1.list hq;refine wpAny_pyIter_list p.isList ?_;exact ⟨s1.heap.objs.size,[s1.heap.objs.size],_,_,H1,rfl,I1.kept (t':=s1.toks) fun b o e=>zG _ e,vC a _,⟨_,zY _ rfl,rfl,rfl⟩,fp,q⟩
 ·subst e
  cases r1;obtain ⟨Nu,rv,p,hz⟩:=I1.tuple hq;refine wpAny_pyIter_tuple (show s1.heap.IsTuple a Nu.toArray from p) ?_;exact ⟨s1.heap.objs.size,[s1.heap.objs.size],_,_,H1,rfl,I1.kept (t':=s1.toks) fun b o e=>zG _ e,ud a _,⟨_,zY _ rfl,rfl,rfl⟩,fp,q⟩
 ·subst e
  obtain ⟨t,rfl⟩:=r1;refine wpAny_pyIter_ascii hy ?_;exact ⟨s1.heap.objs.size,[s1.heap.objs.size],_,_,H1,rfl,I1.kept (t':=s1.toks) fun b o e=>zG _ e,xF y t _,⟨_,zY _ rfl,rfl,rfl⟩,fp,q⟩
theorem zt [Nt] {mg:Gm}{P:Pr}{φ:List Addr}{H:Hp}{K:Frag}{a:Addr}{iv:Iv} (h:∀ P2 φ2 H2 st2,Frm P φ H P2 φ2 H2->Sim mg P2 φ2 st2 H2->bN iv.gd st2=true->∃ vs,bA K H2 a vs/\Nv mg P2 H2 φ2 iv.Nu vs):sk mg (BI K a) iv P φ H where
 go:=fun P2 φ2 H2 st2 i x f s g e=>by
  obtain ⟨vs,rd,ra⟩:=h P2 φ2 H2 st2 f s g;obtain ⟨v,e1,r1⟩:=ra.get e;refine ⟨⟨vs,v,rd,e1⟩,fun w H3 hq0=>?_⟩;obtain ⟨hH,hx⟩:=hq0;subst hH
  have:=hx vs rd
  rw [e1] at this;cases this;exact ⟨P2,Frm.refl,s,r1⟩
 stop:=fun P2 φ2 H2 st2 f s g=>by
  obtain ⟨vs,rd,ra⟩:=h P2 φ2 H2 st2 f s g;exact ⟨vs,rd,by rw [<- ra.length];exact zP _⟩
theorem C7 [Nt] {mg:Gm}{P:Pr}{φ:List Addr}{H:Hp}{K:Frag}{a:Addr}{xs:List AV}{vs:List V} (pa:P a) (ea:H a=some (.tup vs)) (ra:Nv mg P H φ xs vs):sk mg (BG K a) ⟨xs,[]⟩ P φ H where
 go:=fun P2 φ2 H2 st2 i x f s g e=>by
  obtain ⟨v,e1,r1⟩:=(ra.frm f).get e;have e2:fR K H2 a vs:=.inl (.inl ((f.ext a pa).2.trans ea));refine ⟨⟨vs,v,e2,e1⟩,fun w H3 hq0=>?_⟩;obtain ⟨hH,hx⟩:=hq0;subst hH
  have:=hx vs e2
  rw [e1] at this;cases this;exact ⟨P2,Frm.refl,s,r1⟩
 stop:=fun P2 φ2 H2 st2 f s g=>⟨vs,.inl (.inl ((f.ext a pa).2.trans ea)),by rw [<- ra.length];exact zP _⟩
theorem C8 [Nt]:sk mg (BH x) ⟨x.cps.toList.map fun c=>.str ⟨#[c]⟩,[]⟩ P φ H where
 go:=fun P2 φ2 H2 st2 i y f s g e=>by
  rw [zR] at e;obtain ⟨c,e1,e2⟩:=zE.mp e;rw [Array.getElem?_toList] at e1;subst e2;refine ⟨⟨c,e1⟩,fun w H3 hq0=>?_⟩;obtain ⟨hH,c',e3,hw⟩:=hq0;subst hH;rw [e1] at e3;cases e3;exact ⟨P2,Frm.refl,s,by simp only [RA];exact hw⟩
 stop:=fun P2 φ2 H2 st2 f s g=>by
  show x.cps[_]?=none;simp
theorem k7 {st:aa}{v:AV}{iv:Iv} (h:ib st v=some iv):bN iv.gd st=true:=by
 unfold ib at h;split at h
 ·cases h;rfl
 ·split at h
  ·rename_i k _ xs hk
   cases h;simp only [bN];rw [hk];simp only [vi,iQ,Bool.and_self]
  ·cases h
 ·cases h
theorem Ky [Nt] (ha:QE X e f):QI X tg e (iE f):=f9 (EM ha) fun σ H R ⟨P,φ,sl,st,rs,s,iv,st',ef,k⟩=>⟨P,φ,sl,st,rs,s,by
 unfold iE at ef;obtain ⟨p,e1,e2⟩:=zA ef;obtain ⟨iv',e3,e4⟩:=zE.mp e2;cases e4;refine ⟨p.1,p.2,e1,fun P1 φ1 H1 w f1 s1 r1=>?_⟩;unfold nR at e3;have gen:∀ v:AV,p.1=v->(match iB p.2 v with | some xs=>some ⟨xs,[]⟩ | none=>ib p.2 v)=some iv->((∃ a,w=.ref a/\(∃ xs,bA X.K H1 a xs)/\R (BI X.K a) H1)\/(∃ a,w=.ref a/\(∃ xs,fR X.K H1 a xs)/\R (BG X.K a) H1)\/∃ x':Str,w=.str x'/\x'.cps.all (· < 128)=true/\R (BH x') H1):=by
  intro v ev e3;rw [ev] at r1;split at e3
  ·rename_i xs et
   cases e3;have r2:=r1.dr s1;unfold iB at et;split at et
   ·rename_i ys ed
    cases et;rw [ed] at r2;simp only [RA] at r2;obtain ⟨a,vs,rfl,pa,ea,ra⟩:=r2;exact .inr (.inl ⟨a,rfl,⟨vs,.inl (.inl ea)⟩,k P1 φ1 H1 _ f1 s1 (C7 pa ea ra)⟩)
   ·cases et
  ·obtain ⟨a,rfl,h⟩:=k8 s1 r1 e3
   obtain ⟨vs,rd,_⟩:=h P1 φ1 H1 p.2 Frm.refl s1 (k7 e3);exact .inl ⟨a,rfl,⟨vs,rd⟩,k P1 φ1 H1 _ f1 s1 (zt h)⟩
 cases hv:p.1 with
 | str x =>
  rw [hv] at e3 r1;simp only at e3;split at e3
  ·rename_i hx
   cases e3;simp only [RA] at r1;exact .inr (.inr ⟨x,r1,hx,k P1 φ1 H1 _ f1 s1 C8⟩)
  ·cases e3
 | _=>rw [hv] at e3;exact gen _ hv e3⟩
noncomputable def eV (i:Int):Bool:=Nat.ble i.natAbs.log2 60
noncomputable def cH (i:Int) (n:Nat):List AV:=(List.range n).map fun k=>.int (i + (k:Nat))
def wM (f:EF):IF:=fun sl st=>(f sl st).bind fun p=>match p.1 with
 | .int j=>if eV j=true then some (⟨cH 0 j.toNat,[]⟩,p.2) else none
 | _=>none
def Bb (f g:EF):IF:=fun sl st=>(f sl st).bind fun p=>(g sl p.2).bind fun q=>match p.1,q.1 with
 | .int i,.int j=>if (eV i && eV j)=true then some (⟨cH i (j - i).toNat,[]⟩,q.2) else none
 | _,_=>none
theorem fT {i:Int} (h:eV i=true):-(2 ^ 62) <= i/\i < 2 ^ 62:=by
 have:=log2_lt h
 have e:(2:Nat) ^ (60 + 1)=2305843009213693952:=by decide
 rw [e] at this;omega
theorem tx [Nt] {i:Int}{n:Nat}:sk mg (xu i n) ⟨cH i n,[]⟩ P φ H where
 go:=fun P2 φ2 H2 st2 k y f s g e=>by
  unfold cH at e;rw [zR] at e;obtain ⟨c,e1,e2⟩:=zE.mp e;obtain ⟨h1,h2⟩:=zB.mp e1;rw [List.getElem_range] at h2;subst h2 e2;rw [List.length_range] at h1;refine ⟨h1,fun w H3 hq0=>?_⟩;obtain ⟨hH,hw⟩:=hq0;subst hH;exact ⟨P2,Frm.refl,s,by simp only [RA];exact hw⟩
 stop:=fun P2 φ2 H2 st2 f s g=>by
  show n <= (cH i n).length;simp [cH]
theorem vR [Nt] {mg:Gm}{f:EF}{σ:St}{H:Hp}{Q:List V->Hp->Prop}{P:Pr}{φ:List Addr}{sl:Sl}{st:aa} (rs:ND mg P H φ sl σ) (s:Sim mg P φ st H)
  (h:∃ v st1,f sl st=some (v,st1)/\∀ P1 φ1 H1 w,Frm P φ H P1 φ1 H1->Sim mg P1 φ1 st1 H1->RA mg P1 H1 φ1 v w->Q [w] H1):rA mg (df f dF) σ H Q:=by
 obtain ⟨v,st1,e,k⟩:=h;refine ⟨P,φ,sl,st,rs,s,[v],st1,by simp only [df,dF,e,bind_some],fun P1 φ1 H1 ws f1 s1 r1=>?_⟩;simp only [Nv] at r1;obtain ⟨w,us,rfl,r,rfl⟩:=r1;exact k P1 φ1 H1 w f1 s1 r
theorem DZ [Nt] {mg:Gm}{f g:EF}{σ:St}{H:Hp}{Q:List V->Hp->Prop}{P:Pr}{φ:List Addr}{sl:Sl}{st:aa} (rs:ND mg P H φ sl σ) (s:Sim mg P φ st H)
  (h:∃ v st1 u st2,f sl st=some (v,st1)/\g sl st1=some (u,st2)/\∀ P1 φ1 H1 w w',Frm P φ H P1 φ1 H1->Sim mg P1 φ1 st2 H1->RA mg P1 H1 φ1 v w->RA mg P1 H1 φ1 u w'->Q [w,w'] H1):rA mg (df f (df g dF)) σ H Q:=by
 obtain ⟨v,st1,u,st2,e,e',k⟩:=h;refine ⟨P,φ,sl,st,rs,s,[v,u],st2,by simp only [df,dF,e,e',bind_some],fun P1 φ1 H1 ws f1 s1 r1=>?_⟩;simp only [Nv] at r1;obtain ⟨w,us,rfl,r,w',us',rfl,r',rfl⟩:=r1;exact k P1 φ1 H1 w w' f1 s1 r r'
theorem Hh [Nt] (hg:Gl X "range") (hm:X.mg "range"=none) (ha:QE X a f) (hs:starEach [a] X.env=[(false,eval a X.env)]):QI X tg (.Call (.Name "range" p) [a] [] pos) (wM f) :=
 f9 (v6 hg hm (bK ha dI (by rw [hs];rfl)) hs) fun σ H R hq0=>by
  obtain ⟨P,φ,sl,st,rs,s,iv,st',ef,k⟩:=hq0;obtain ⟨q,e1,e2⟩:=zA ef;refine vR rs s ⟨q.1,q.2,e1,fun P1 φ1 H1 w f1 s1 r1=>?_⟩;split at e2
  ·rename_i j ej
   rw [ej] at r1;split at e2
   ·rename_i hb
    cases e2;simp only [RA] at r1;subst r1;exact ⟨j,rfl,(fT hb).1,(fT hb).2,k P1 φ1 H1 _ f1 s1 tx⟩
   ·cases e2
  ·cases e2
theorem Hg [Nt] (hg:Gl X "range") (hm:X.mg "range"=none) (ha:QE X a f) (hb:QE X b g) (hs:starEach [a,b] X.env=[(false,eval a X.env),(false,eval b X.env)]) (hs2:starEach [b] X.env=[(false,eval b X.env)]) :
  QI X tg (.Call (.Name "range" p) [a,b] [] pos) (Bb f g) :=
 f9 (v4 hg hm (bK ha (bK hb dI (by rw [hs2];rfl)) (by rw [hs,hs2])) hs hs2) fun σ H R hq0=>by
  obtain ⟨P,φ,sl,st,rs,s,iv,st',ef,k⟩:=hq0;obtain ⟨q,e1,e2⟩:=zA ef;obtain ⟨r,e3,e4⟩:=zA e2;refine DZ rs s ⟨q.1,q.2,r.1,r.2,e1,e3,fun P1 φ1 H1 w w' f1 s1 r1 r2=>?_⟩;split at e4
  ·rename_i i j ei ej
   rw [ei] at r1;rw [ej] at r2;split at e4
   ·rename_i hb
    cases e4;obtain ⟨h1,h2⟩:=Bool.and_eq_true_iff.mp hb;simp only [RA] at r1 r2;subst r1;subst r2;exact ⟨i,j,rfl,⟨(fT h1).1,(fT h1).2,(fT h2).1,(fT h2).2⟩,k P1 φ1 H1 _ f1 s1 tx⟩
   ·cases e4
  ·cases e4
def iZ (f g:EF):IF:=fun sl st=>(f sl st).bind fun p=>(g sl p.2).bind fun q=>(ib q.2 p.1).bind fun x=>(ib q.2 q.1).bind fun y=>some (⟨(x.Nu.zip y.Nu).map fun z=>.tup [z.1,z.2],x.gd++y.gd⟩,q.2)
theorem sY [Nt] {mg:Gm}{P:Pr}{φ:List Addr}{st:aa}{H:Hp}{p:Addr}{x y:AV}{u w:V} (s:Sim mg P φ st H) (hp:H p=none) (rx:RA mg P H φ x u) (ry:RA mg P H φ y w) :
  ∃ P3,Frm P φ H P3 φ (af H p (.tup [u,w]))/\Sim mg P3 φ st (af H p (.tup [u,w]))/\RA mg P3 (af H p (.tup [u,w])) φ (.tup [x,y]) (.ref p):=by
 obtain ⟨f3,s3⟩:=kT (o:=.tup [u,w]) s hp;refine ⟨_,f3,s3,?_⟩;simp only [RA];exact ⟨p,[u,w],rfl,.inr rfl,aw,aU (rx.frm f3) (aU (ry.frm f3) ba)⟩
theorem Em [Nt] {x1:Nat} (hg:Gl X "zip") (hm:X.mg "zip"=none) (ha:QE X a f) (hb:QE X b g) (hs:starEach [a,b] X.env=[(false,eval a X.env),(false,eval b X.env)]) (hs2:starEach [b] X.env=[(false,eval b X.env)]) :
  QI X (.Tuple elts x1 tpos) (.Call (.Name "zip" p) [a,b] [] pos) (iZ f g) :=
 f9 (EL hg hm (bK ha (bK hb dI (by rw [hs2];rfl)) (by rw [hs,hs2])) hs hs2) fun σ H R hq0=>by
  obtain ⟨P,φ,sl,st,rs,s,iv,st',ef,k⟩:=hq0;obtain ⟨q,e1,e2⟩:=zA ef;obtain ⟨r,e3,e4⟩:=zA e2;obtain ⟨x,e5,e6⟩:=zA e4;obtain ⟨y,e7,e8⟩:=zA e6;cases e8;refine DZ rs s ⟨q.1,q.2,r.1,r.2,e1,e3,fun P1 φ1 H1 w w' f1 s1 r1 r2=>?_⟩;obtain ⟨a1,rfl,h1⟩:=k8 s1 r1 e5;obtain ⟨a2,rfl,h2⟩:=k8 s1 r2 e7;obtain ⟨vs,rd1,_⟩:=h1 P1 φ1 H1 r.2 Frm.refl s1 (k7 e5);obtain ⟨us,rd2,_⟩:=h2 P1 φ1 H1 r.2 Frm.refl s1 (k7 e7);refine ⟨a1,a2,rfl,⟨vs,rd1⟩,⟨us,rd2⟩,k P1 φ1 H1 _ f1 s1 ⟨fun P2 φ2 H2 st2 i t f2 s2 g2 et=>?_,fun P2 φ2 H2 st2 f2 s2 g2=>?_⟩⟩
  ·obtain ⟨ga,gb⟩:=tJ g2
   obtain ⟨vs2,d1,q1⟩:=h1 P2 φ2 H2 st2 f2 s2 ga;obtain ⟨us2,d2,q2⟩:=h2 P2 φ2 H2 st2 f2 s2 gb;rw [zR] at et;obtain ⟨z,ez,et⟩:=zE.mp et;subst et;obtain ⟨hx,hy⟩:=List.getElem?_zip_eq_some.mp ez;obtain ⟨u1,c1,b1⟩:=q1.get hx;obtain ⟨u2,c2,b2⟩:=q2.get hy;refine ⟨⟨vs2,us2,u1,u2,d1,d2,c1,c2⟩,fun v H3 hq0=>?_⟩;obtain ⟨pp,u,w,k1,k2,hp,hH,hv⟩:=hq0;have k1:=k1 vs2 d1;have k2:=k2 us2 d2;rw [c1] at k1;rw [c2] at k2;cases k1;cases k2;subst hH;subst hv;exact sY s2 hp b1 b2
  ·obtain ⟨ga,gb⟩:=tJ g2
   obtain ⟨vs2,d1,q1⟩:=h1 P2 φ2 H2 st2 f2 s2 ga;obtain ⟨us2,d2,q2⟩:=h2 P2 φ2 H2 st2 f2 s2 gb;refine ⟨vs2,us2,d1,d2,?_⟩;rw [<- q1.length,<- q2.length];simp only [zH,List.length_zip];omega
noncomputable def eA (n0:Nat) (xs:List AV):List AV:=(xs.zipIdx n0).map fun z=>.tup [.int ((z.2:Nat):Int),z.1]
theorem qW [Nt] {mg:Gm}{P:Pr}{φ:List Addr}{H:Hp}{K:Frag}{a:Addr}{iv:Iv}{n0:Nat} (h:∀ P2 φ2 H2 st2,Frm P φ H P2 φ2 H2->Sim mg P2 φ2 st2 H2->bN iv.gd st2=true->∃ vs,bA K H2 a vs/\Nv mg P2 H2 φ2 iv.Nu vs):sk mg (xw K a n0) ⟨eA n0 iv.Nu,iv.gd⟩ P φ H where
 go:=fun P2 φ2 H2 st2 i x f s g e=>by
  obtain ⟨vs,rd,ra⟩:=h P2 φ2 H2 st2 f s g;unfold eA at e;rw [zR,List.getElem?_zipIdx] at e;cases hz:iv.Nu[i]? with
  | none=>rw [hz] at e;cases e
  | some y =>
   rw [hz] at e;cases e;obtain ⟨v,e1,r1⟩:=ra.get hz;refine ⟨⟨vs,v,rd,e1⟩,fun w H3 hq0=>?_⟩;obtain ⟨pp,u,hx,hp,hH,hw⟩:=hq0
   have:=hx vs rd
   rw [e1] at this;cases this;subst hH;subst hw;exact sY s hp (by simp only [RA]) r1
 stop:=fun P2 φ2 H2 st2 f s g=>by
  obtain ⟨vs,rd,ra⟩:=h P2 φ2 H2 st2 f s g;exact ⟨vs,rd,by rw [<- ra.length];simp [eA]⟩
def JL (f:EF):IF:=fun sl st=>(f sl st).bind fun p=>(ib p.2 p.1).map fun iv=>(⟨eA 0 iv.Nu,iv.gd⟩,p.2)
theorem Hi [Nt] {x1:Nat} (hg:Gl X "enumerate") (hm:X.mg "enumerate"=none) (ha:QE X a f) (hs:starEach [a] X.env=[(false,eval a X.env)]) :
  QI X (.Tuple elts x1 tpos) (.Call (.Name "enumerate" p) [a] [] pos) (JL f) :=
 f9 (Cu hg hm (bK ha dI (by rw [hs];rfl)) hs) fun σ H R hq0=>by
  obtain ⟨P,φ,sl,st,rs,s,iv,st',ef,k⟩:=hq0;obtain ⟨q,e1,e2⟩:=zA ef;obtain ⟨iv',e3,e4⟩:=zE.mp e2;cases e4;refine vR rs s ⟨q.1,q.2,e1,fun P1 φ1 H1 w f1 s1 r1=>?_⟩;obtain ⟨a1,rfl,h1⟩:=k8 s1 r1 e3;obtain ⟨vs,rd1,_⟩:=h1 P1 φ1 H1 q.2 Frm.refl s1 (k7 e3);exact ⟨a1,rfl,⟨vs,rd1⟩,k P1 φ1 H1 _ f1 s1 (qW h1)⟩
end
end R
namespace L2
open PySem PySem.Spec PyProof.Rows
section
variable {prog:Program}{w:World}{A:Around}{E:Value->Shared->Prop}{s:Shared}
theorem wV (l:Addr) (items:Array Value) (n:Nat) (dct:Option Addr) (sl:Array (Option Value)) (t:Tok) (i:Int) (hf:Builtin.SmallTypes.fitsIndex i=true) :
  Meets (Builtin.«enumerate.__new__» ⟨[.type "enumerate",.ref l],[("start",.int i t)]⟩) (fun _ R s=>s.heap.get? l=some { cls:=.type "list",dict:=dct,data:=.seq items n,slots:=sl } /\
   R (.ok (.ret (.ref (s.heap.push { cls:=.type "list_iterator",data:=.fields #[.ref l,.int 0 0] }).objs.size)))
    { s with heap:=(s.heap.push { cls:=.type "list_iterator",data:=.fields #[.ref l,.int 0 0] }).push { cls:=.type "enumerate",data:=.fields #[.none,.bool false,.ref s.heap.objs.size,rawInt i,.none,.none] } }):=Meets.of_wp fun prog w A R s h=>by
  obtain ⟨hp,g,d,tk,os⟩:=s;obtain ⟨hl,h⟩:=h;have hsub:=sub_enumerate;have hL:Heap.IsList (Shared.heap ⟨hp,g,d,tk,os⟩) l items:=⟨_,hl,rfl,n,rfl⟩
  wp_walk using AutoSeq1.wpAny_loadPart' hl
  refine wpAny_stack_any fun st=>yG ?_
  split
  ·rename_i c _ _ _ _ _
   cases (c == Value.type "enumerate")
   ·wp_walk using AutoSeq1.wpAny_loadPart' hl,wpAny_pyIter_list hL
    exact ⟨_,rfl,h⟩
   ·wp_walk using AutoSeq1.wpAny_loadPart' hl,wpAny_pyIter_list hL
    exact ⟨_,rfl,h⟩
  ·wp_walk using AutoSeq1.wpAny_loadPart' hl,wpAny_pyIter_list hL
   exact ⟨_,rfl,h⟩
theorem vg {l:Addr}{items:Array Value}{t:Tok}{i:Int}{Q:Value->Shared->Prop} (hf:Builtin.SmallTypes.fitsIndex i=true) (hL:s.heap.IsList l items)
  (h:∀ h',IsEnum h' (s.heap.objs.size + 1) s.heap.objs.size i .none->h'.IsListIter s.heap.objs.size l 0->(∀ b o,s.heap.get? b=some o->h'.get? b=some o)->Q (.ref (s.heap.objs.size + 1)) { s with heap:=h' }) :
  wpAny (model prog w) A (call (.type "enumerate") [.ref l] [("start",.int i t)]) Q E s:=by
 obtain ⟨⟨c0,dct,dt,sl⟩,hl,hc0,n,hd⟩:=hL;dsimp only at hc0 hd;subst hc0 hd;have ft:=F.called_enumerate;obtain ⟨c,tl,hmro⟩:=ft.mro;have hmade:=ft.made;have hsub:=ft.sub;have h1:=ft.notType;have h2:=ft.canCreate;have hct:=qc (.ref l) (.int i t);have hcn:=pO (.ref l) (.int i t);refine wpAny_call (codeAny_of_tree ?_);show wpAny _ _ (callAny (.type "enumerate") _) _ _ _;refine yG ⟨Code.quiet_builtin _ (by decide +kernel),codeAny_builtin F.entry_type_call ?_⟩;rw [Around.under_plain (weight_type_call_type "enumerate" _ _) (units_type_call_type "enumerate" _ _)]
 repeat (any_goals (first | assumption | wp_step))
 have hz:(s.heap.push { cls:=.type "list_iterator",data:=.fields #[.ref l,.int 0 0] }).objs.size=s.heap.objs.size + 1:=Heap.size_push ..;have he:=zY (s.heap.push { cls:=.type "list_iterator",data:=.fields #[.ref l,.int 0 0] }) (o:={ cls:=.type "enumerate",data:=.fields #[.none,.bool false,.ref s.heap.objs.size,rawInt i,.none,.none] }) rfl;rw [hz] at he;refine codeAny_mono (codeAny_call_builtin (R:=wants (fun obj s₁=>s₁.TypeIs obj "enumerate"/\Q obj s₁) E) ft.plain F.entry_enumerate_new (wpAny_of_eq hcn (wV l items n dct sl t i hf prog w A.in1 _ s ⟨hl,?_⟩))) fun r s₁ hr=>?_
 ·show _/\_
  rw [hz];exact ⟨⟨_,he,rfl⟩,h _ he ⟨_,zG _ (zY _ rfl),rfl,rfl⟩ fun b o x=>zG _ (zG _ x)⟩
 ·cases r with
  | error e=>exact hr
  | ok fl =>
   cases fl with
   | ret obj =>
    obtain ⟨hT,hq0⟩:=hr;have hli:=ft.init.lookup;have hbi:=ft.init.bind obj
    repeat (any_goals (first | assumption | wp_step))
    refine codeAny_mono (codeAny_call_builtin (R:=wants (fun r s₂=>r=.none/\Q obj s₂) E) ft.init.plain F.entry_object_init (ft.init.check _ _ _ _ _ _ _ _ hT (oW obj (.ref l) (.int i t)) (u0 ft.init.lookup ft.made dC prog w A.in1 _ s₁ ⟨hT,rfl,hq0⟩))) fun r₂ s₂ hr₂=>?_
    cases r₂ with
    | error e=>exact hr₂
    | ok fl₂ =>
     cases fl₂ with
     | ret r =>
      obtain ⟨rfl,hq⟩:=hr₂
      repeat (any_goals (first | assumption | wp_step))
     | _=>exact hr₂.elim
   | _=>exact hr.elim
end
end L2
namespace R
open PySem PySem.Spec PyProof.Rows L2
open DD (PE_imp PT_imp PA_imp PS_imp PSs_imp OpR_imp PW_imp PG_imp pyOk)
section
variable {X:Cx}{tg e a b:Expr}{es:List Expr}{pos p kp:Pos}
theorem yd [Nt] {x1:Nat} (hg:Gl X "enumerate") (hm:X.mg "enumerate"=none) (ha:PA X [a] ta) (hb:PE X b tb) (hs:starEach [a] X.env=[(false,eval a X.env)]) :
  PI X (.Tuple elts x1 tpos) (.Call (.Name "enumerate" p) [a] [⟨some "start",b,kp⟩] pos) (fun σ H R=>ta σ H fun vs H1=>tb σ H1 fun y H2=>∃ l n0,vs=[.ref l]/\y=.int ((n0:Nat):Int)/\n0 <= 1000000/\(∃ xs,bA X.K H2 l xs)/\R (xw X.K l n0) H2):=by
 intro Np s σ H R I h;refine wpAny_Call_Name_kw (cF I hg hm pF (rL (by rw [hs];rfl) (by rfl) ?_));have hA:=ha pos Np s σ H _ I h;rw [hs] at hA ⊢;refine PyProof.Rows.evalArgs_kwB (by rfl) (xH hA fun us s1 hq0=>?_);obtain ⟨vs,H1,I1,r1,q1⟩:=hq0;refine PyProof.Rows.kws_cons (aE (hb Np s1 σ H1 _ I1 q1) fun u s2 ⟨y,H2,I2,r2,l,n0,e1,e2,hn,⟨xs,hq⟩,q⟩=>PyProof.Rows.kws_nil ?_);subst e1;subst e2;obtain ⟨t,rfl⟩:=r2;cases r1 with
 | cons r rr =>
  cases rr;cases r;obtain ⟨Nu,rv,p1,_⟩:=I2.list hq;show wpAny _ _ (call (.type "enumerate") [.ref l] [("start",.int ((n0:Nat):Int) t)]) _ _ _;refine vg (s:=s2) ?_ p1.isList fun h' he hi hk=>?_
  ·unfold Builtin.SmallTypes.fitsIndex
   simp only [zC,yC];omega
  refine wpAny_pyIter_enum (s:={ s2 with heap:=h' }) he ?_;exact rn (t':=s2.toks) (n0:=n0) I2 he hi hk q
def u4 (f g:EF):IF:=fun sl st=>(f sl st).bind fun p=>(g sl p.2).bind fun q=>match q.1 with
 | .int i=>if (decide (0 <= i) && Nat.ble i.natAbs 1000000)=true then (ib q.2 p.1).map fun iv=>(⟨eA i.toNat iv.Nu,iv.gd⟩,q.2) else none
 | _=>none
theorem En [Nt] {x1:Nat} (hg:Gl X "enumerate") (hm:X.mg "enumerate"=none) (ha:QE X a f) (hb:QE X b g) (hs:starEach [a] X.env=[(false,eval a X.env)]) :
  QI X (.Tuple elts x1 tpos) (.Call (.Name "enumerate" p) [a] [⟨some "start",b,kp⟩] pos) (u4 f g) :=
 f9 (yd hg hm (bK ha dI (by rw [hs];rfl)) hb hs) fun σ H R hq0=>by
  obtain ⟨P,φ,sl,st,rs,s,iv,st',ef,k⟩:=hq0;obtain ⟨q,e1,e2⟩:=zA ef;obtain ⟨r,e3,e4⟩:=zA e2;refine vR rs s ⟨q.1,q.2,e1,fun P1 φ1 H1 w f1 s1 r1=>⟨P1,φ1,sl,q.2,rs.frm f1,s1,r.1,r.2,e3,fun P2 φ2 H2 w2 f2 s2 r2=>?_⟩⟩;split at e4
  ·rename_i i ei
   rw [ei] at r2;simp only [RA] at r2;subst r2;split at e4
   ·rename_i hc
    simp only [zC,yC] at hc;have hc2:=zS hc.2;obtain ⟨iv',e5,e6⟩:=zE.mp e4;cases e6;obtain ⟨a1,rfl,h1⟩:=k8 s2 (r1.frm f2) e5;obtain ⟨vs,rd1,_⟩:=h1 P2 φ2 H2 r.2 Frm.refl s2 (k7 e5);exact ⟨a1,i.toNat,rfl,by rw [Int.toNat_of_nonneg hc.1],by omega,⟨vs,rd1⟩,k P2 φ2 H2 _ (f1.trans f2) s2 (qW h1)⟩
   ·cases e4
  ·cases e4
end
mutual
noncomputable def rf:AV->Bool
 | .ref _=>false
 | .tup xs=>rfs xs
 | _=>true
noncomputable def rfs:List AV->Bool
 | []=>true
 | x::xs=>rf x && rfs xs
end
mutual
theorem RA.rf:∀ {t:AV}{v:V},R.rf t=true->RA mg P H φ t v->RA mg P H ψ t v
 | .non,_,_,h=>by simp only [RA] at h ⊢;exact h
 | .bl _,_,_,h=>by simp only [RA] at h ⊢;exact h
 | .int _,_,_,h=>by simp only [RA] at h ⊢;exact h
 | .str _,_,_,h=>by simp only [RA] at h ⊢;exact h
 | .fz _,_,_,h=>by simp only [RA] at h ⊢;exact h
 | .ref k,_,e,_=>by simp only [R.rf] at e;cases e
 | .tup xs,_,e,h=>by
  simp only [RA,R.rf] at h e ⊢;obtain ⟨a,vs,r,p,e',q⟩:=h;exact ⟨a,vs,r,p,e',Nv.rf e q⟩
theorem Nv.rf:∀ {ts:List AV}{vs:List V},R.rfs ts=true->Nv mg P H φ ts vs->Nv mg P H ψ ts vs
 | [],_,_,h=>by simp only [Nv] at h ⊢;exact h
 | t::ts,_,e,h=>by
  simp only [Nv,R.rfs,zC] at h e ⊢;obtain ⟨v,ws,e',r,q⟩:=h;exact ⟨v,ws,e',RA.rf e.1 r,Nv.rf e.2 q⟩
end
abbrev NF:=Sl->aa->Option (List AV × aa)
def rN [Nt] (mg:Gm) (f:NF):TE:=fun σ H Q=>∃ P φ sl st,ND mg P H φ sl σ/\Sim mg P φ st H/\∃ xs st',f sl st=some (xs,st') /\
 ∀ P' φ' H' p vs,Frm P φ H P' φ' H'->Sim mg P' φ' st' H'->H' p=none->Nv mg P' H' φ' xs vs->Q (.ref p) (af H' p (.lst vs))
def QN [Nt] (X:Cx) (e:Expr) (f:NF):Prop:=PE X e (rN X.gm f)
def Mb (f:NF):EF:=fun sl st=>(f sl st).bind fun p=>if rfs p.1=true then some (.fz p.1,p.2) else none
def Ma (f:NF):EF:=fun sl st=>(f sl st).bind fun p=>some (.ref p.2.length,p.2++[.lst p.1])
theorem Gh [Nt] {mg:Gm}{P:Pr}{φ:List Addr}{st:aa}{H:Hp}{p:Addr}{xs:List AV}{vs:List V} (s:Sim mg P φ st H) (hp:H p=none) (hr:rfs xs=true) (r:Nv mg P H φ xs vs) :
  ∃ P3,Frm P φ H P3 φ (af H p (.lst vs))/\Sim mg P3 φ st (af H p (.lst vs))/\RA mg P3 (af H p (.lst vs)) φ (.fz xs) (.ref p):=by
 obtain ⟨f3,s3⟩:=kT (o:=.lst vs) s hp;refine ⟨_,f3,s3,?_⟩;simp only [RA];exact ⟨p,vs,rfl,.inl ⟨.inr rfl,.inl aw⟩,Nv.rf hr (r.frm f3)⟩
theorem Fp [Nt] {mg:Gm}{P:Pr}{φ:List Addr}{st:aa}{H:Hp}{p:Addr}{xs:List AV}{vs:List V} (s:Sim mg P φ st H) (hp:H p=none) (r:Nv mg P H φ xs vs) :
  Frm P φ H P (φ++[p]) (af H p (.lst vs))/\Sim mg P (φ++[p]) (st++[.lst xs]) (af H p (.lst vs))/\RA mg P (af H p (.lst vs)) (φ++[p]) (.ref st.length) (.ref p):=by
 have ne:∀ a,H a ≠ none->a ≠ p:=fun a h e=>h (by rw [e];exact hp)
 obtain ⟨f3,s3⟩:=mL (c:=.lst xs) (o:=.lst vs) s hp ⟨fun z=>s.dom p z hp,vs,aw,r.mono (fun a h=>⟨h,ae (ne a (s.dom a h))⟩) fun k a e=>by rw [zN (zB.mp e).1];exact e⟩;refine ⟨f3,s3,?_⟩;simp only [RA];exact ⟨p,by rw [<- s.len];simp,rfl⟩
section
variable {X:Cx}{e a b:Expr}{es:List Expr}{pos:Pos}{f:NF}
noncomputable def cM (n:Nat):Bool:=Nat.ble n 1000000
theorem jh {n:Nat} (h:cM n=true):n <= sizeLine:=z5 (zS h) dC
def JC (g:AF):NF:=fun sl st=>(g sl st).bind fun p=>if cM p.1.length=true then some p else none
theorem B7 [Nt] (h:QA X es g):QN X (.List es pos) (JC g) :=
 PE_imp (v8 h) fun σ H Q hq0=>by
  obtain ⟨P,φ,sl,st,rs,s,xs,st',ef,k⟩:=hq0;obtain ⟨q,e1,e2⟩:=zA ef;split at e2
  ·rename_i hz
   cases e2;exact ⟨P,φ,sl,st,rs,s,xs,st',e1,fun P1 φ1 H1 vs f1 s1 r1=>⟨by rw [<- r1.length];exact jh hz,fun p hp=>k P1 φ1 H1 p vs f1 s1 hp r1⟩⟩
  ·cases e2
def uG (f g:EF):NF:=fun sl st=>(f sl st).bind fun p=>(g sl p.2).bind fun q=>(bq q.2 p.1).bind fun xs=>(bq q.2 q.1).bind fun ys=>if cM (xs.length + ys.length)=true then some (xs++ys,q.2) else none
theorem El [Nt] {f g:EF} (ha:QE X a f) (hb:QE X b g):QN X (.BinOp a .Add b pos) (uG f g) :=
 PE_imp (uy CG ha hb) fun σ H Q hq0=>by
  obtain ⟨P,φ,sl,st,rs,s,xs,st',ef,k⟩:=hq0;obtain ⟨q,e1,e2⟩:=zA ef;obtain ⟨r,e3,e4⟩:=zA e2;obtain ⟨x,e5,e6⟩:=zA e4;obtain ⟨y,e7,e8⟩:=zA e6;split at e8
  ·rename_i hz
   cases e8;refine ⟨P,φ,sl,st,rs,s,q.1,q.2,e1,fun P1 φ1 H1 w f1 s1 r1=>⟨P1,φ1,sl,q.2,rs.frm f1,s1,r.1,r.2,e3,fun P2 φ2 H2 w2 f2 s2 r2=>?_⟩⟩;obtain ⟨a1,vs,rfl,d1,q1⟩:=(r1.frm f2).ls s2 e5;obtain ⟨a2,us,rfl,d2,q2⟩:=r2.ls s2 e7;exact ⟨a1,a2,vs,us,rfl,rfl,d1,d2,by rw [<- q1.length,<- q2.length];exact jh hz,fun p hp=>k P2 φ2 H2 p _ (f1.trans f2) s2 hp (q1.app q2)⟩
  ·cases e8
def uD (g:AF) (f:EF):NF:=fun sl st=>(g sl st).bind fun p=>(f sl p.2).bind fun q=>match q.1 with
 | .int k=>if (eV k && cM (p.1.length * k.toNat) && cM p.1.length)=true then some ((List.replicate k.toNat p.1).flatten,q.2) else none
 | _=>none
theorem Nv.rep (h:Nv mg P H φ xs vs):∀ k:Nat,Nv mg P H φ (List.replicate k xs).flatten (List.replicate k vs).flatten
 | 0=>ba
 | k + 1=>by rw [List.replicate_succ,List.replicate_succ,List.flatten_cons,List.flatten_cons];exact h.app (Nv.rep h k)
theorem Eg [Nt] {g:AF}{f:EF}{pos':Pos} (h:QA X es g) (hb:QE X b f):QN X (.BinOp (.List es pos') .Mult b pos) (uD g f) :=
 PE_imp (uy E6 (v8 h) hb) fun σ H Q hq0=>by
  obtain ⟨P,φ,sl,st,rs,s,xs,st',ef,k⟩:=hq0;obtain ⟨q,e1,e2⟩:=zA ef;obtain ⟨r,e3,e4⟩:=zA e2;split at e4
  ·rename_i j ej
   split at e4
   ·rename_i hc
    cases e4;simp only [zC] at hc;refine ⟨P,φ,sl,st,rs,s,q.1,q.2,e1,fun P1 φ1 H1 vs f1 s1 r1=>⟨by rw [<- r1.length];exact jh hc.2,fun p hp=>?_⟩⟩
    -- the list itself is a cell that nobody has
    obtain ⟨f2,s2⟩:=kT (o:=.lst vs) s1 hp;refine ⟨_,φ1,sl,q.2,(rs.frm f1).frm f2,s2,r.1,r.2,e3,fun P3 φ3 H3 w f3 s3 r3=>?_⟩;rw [ej] at r3;simp only [RA] at r3;subst r3;have hH:H3 p=some (.lst vs):=by rw [(f3.ext p (.inr rfl)).2,aw]
    have hj:=fT hc.1.1;refine ⟨p,j,vs,rfl,rfl,hH,by omega,by omega,by rw [<- r1.length];exact jh hc.1.2,fun p' hp'=>?_⟩;exact k P3 φ3 H3 p' _ ((f1.trans f2).trans f3) s3 hp' (Nv.rep ((r1.frm f2).frm f3) _)
   ·cases e4
  ·cases e4
abbrev OF:=Sl->aa->Option (Option Int × aa)
def rO [Nt] (mg:Gm) (f:OF):TO:=fun σ H Q=>∃ P φ sl st,ND mg P H φ sl σ/\Sim mg P φ st H/\KG mg RB P φ H (f sl st) Q
def QO [Nt] (X:Cx) (e:Option Expr) (f:OF):Prop:=PO X e (rO X.gm f)
def JA:OF:=fun _ st=>some (none,st)
def pi (f:EF):OF:=fun sl st=>(f sl st).bind fun p=>match p.1 with
 | .int i=>some (some i,p.2)
 | _=>none
theorem t0 (h:PO X eo t) (i:∀ σ H Q,t' σ H Q->t σ H Q):PO X eo t':=fun Np s σ H Q I h'=>h Np s σ H Q I (i σ H Q h')
theorem B6 [Nt]:QO X none JA:=t0 Cr fun σ H Q ⟨P,φ,sl,st,rs,s,k⟩=>k.pure s rfl
theorem B5 [Nt] {f:EF} (h:QE X e f):QO X (some e) (pi f):=t0 (Cq h) fun σ H Q ⟨P,φ,sl,st,rs,s,k⟩=>⟨P,φ,sl,st,rs,s,by
 obtain ⟨a,st',e1,q⟩:=k.bind (Ra:=RA);refine ⟨a,st',e1,fun P1 φ1 H1 c f1 s1 r1=>?_⟩;obtain ⟨P2,φ2,st2,x,f2,s2,r2,k2⟩:=q P1 φ1 H1 c f1 s1 r1;cases x <;> first | exact k2.no.elim | skip
 rename_i i;simp only [RA] at r2;exact ⟨i,r2,k2.pure s2 rfl⟩⟩
def cut {α:Type} (xs:List α) (lo hi:Option Int):List α:=(xs.drop (HT.NC xs.length 0 lo)).take (HT.NC xs.length xs.length hi - HT.NC xs.length 0 lo)
theorem Nv.cut (h:Nv mg P H φ xs vs) (lo hi:Option Int):Nv mg P H φ (R.cut xs lo hi) (jM vs lo hi):=by
 unfold R.cut jM;rw [h.length];exact (h.drop _).take _
theorem DM [Nt] {mg:Gm}{f:EF}{l h:OF}{σ:St}{H:Hp}{P:Pr}{φ:List Addr}{sl:Sl}{st:aa} (rs:ND mg P H φ sl σ) (s:Sim mg P φ st H) {r:V->Option Int->Option Int->Hp->VK->Prop}{Q:VK}
  (k:∃ v st1 lo st2 hi st3,f sl st=some (v,st1)/\l sl st1=some (lo,st2)/\h sl st2=some (hi,st3)/\∀ P' φ' H' w,Frm P φ H P' φ' H'->Sim mg P' φ' st3 H'->RA mg P' H' φ' v w->r w lo hi H' Q):Jj r (rE mg f) (rO mg l) (rO mg h) σ H Q:=by
 obtain ⟨v,st1,lo,st2,hi,st3,e1,e2,e3,k⟩:=k;refine ⟨P,φ,sl,st,rs,s,v,st1,e1,fun P1 φ1 H1 w f1 s1 r1=>⟨P1,φ1,sl,st1,rs.frm f1,s1,lo,st2,e2,fun P2 φ2 H2 lo' f2 s2 r2=>⟨P2,φ2,sl,st2,(rs.frm f1).frm f2,s2,hi,st3,e3,fun P3 φ3 H3 hi' f3 s3 r3=>?_⟩⟩⟩;cases r2;cases r3;exact k P3 φ3 H3 w ((f1.trans f2).trans f3) s3 ((r1.frm f2).frm f3)
def pj (f:EF) (l h:OF):NF:=fun sl st=>(f sl st).bind fun p=>(l sl p.2).bind fun q=>(h sl q.2).bind fun r=>(bq r.2 p.1).map fun xs=>(cut xs q.1 r.1,r.2)
theorem Hd [Nt] {f:EF}{l h:OF}{lo hi:Option Expr}{p2:Pos} (ha:QE X a f) (hl:QO X lo l) (hh:QO X hi h):QN X (.Subscript a (.Slice lo hi none p2) pos) (pj f l h) :=
 PE_imp (qz BX ha hl hh) fun σ H Q hq0=>by
  obtain ⟨P,φ,sl,st,rs,s,xs,st',ef,k⟩:=hq0;obtain ⟨q,e1,e2⟩:=zA ef;obtain ⟨r,e3,e4⟩:=zA e2;obtain ⟨t,e5,e6⟩:=zA e4;obtain ⟨ys,e7,e8⟩:=zE.mp e6;cases e8;refine DM rs s ⟨q.1,q.2,r.1,r.2,t.1,t.2,e1,e3,e5,fun P1 φ1 H1 w f1 s1 r1=>?_⟩;obtain ⟨a1,vs,rfl,d1,q1⟩:=r1.ls s1 e7;exact ⟨a1,vs,rfl,d1,fun p hp=>k P1 φ1 H1 p _ f1 s1 hp (q1.cut _ _)⟩
def mO (f:EF):NF:=fun sl st=>(f sl st).bind fun p=>match bq p.2 p.1 with
 | some xs=>some (xs,p.2)
 | none=>(iB p.2 p.1).map fun xs=>(xs,p.2)
theorem Ek [Nt] {f:EF}{p pos:Pos} (hg:Gl X "list") (hm:X.mg "list"=none) (ha:QE X a f) (hs:starEach [a] X.env=[(false,eval a X.env)]):QN X (.Call (.Name "list" p) [a] [] pos) (mO f) :=
 PE_imp (pf rJ hg hm gZ (bK ha dI (by rw [hs];rfl)) (he:=by rw [hs];rfl) (hpl:=rfl)) fun σ H Q hq0=>by
  obtain ⟨P,φ,sl,st,rs,s,xs,st',ef,k⟩:=hq0;obtain ⟨q,e1,e2⟩:=zA ef;refine vR rs s ⟨q.1,q.2,e1,fun P1 φ1 H1 w f1 s1 r1=>?_⟩;split at e2
  ·rename_i ys e3
   cases e2;obtain ⟨a1,vs,rfl,d1,q1⟩:=r1.ls s1 e3;exact ⟨a1,vs,rfl,.inl d1,fun p hp=>k P1 φ1 H1 p vs f1 s1 hp q1⟩
  ·obtain ⟨ys,e3,e4⟩:=zE.mp e2
   cases e4;obtain ⟨a1,vs,rfl,d1,q1⟩:=r1.tp s1 e3;exact ⟨a1,vs,rfl,.inr (.inl (.inl d1)),fun p hp=>k P1 φ1 H1 p vs f1 s1 hp q1⟩
end
abbrev GF:=AV->Sl->aa->Option (Sl × aa)
abbrev sn:=List AV->Sl->aa->Option (Sl × aa)
def KS [Nt] (mg:Gm) (P:Pr) (φ:List Addr) (H:Hp) (r:Option (Sl × aa)) (Q:St->Hp->Prop):Prop :=
 ∃ sl' st',r=some (sl',st')/\∀ P' φ' H' σ',Frm P φ H P' φ' H'->Sim mg P' φ' st' H'->ND mg P' H' φ' sl' σ'->Q σ' H'
def rG [Nt] (mg:Gm) (f:GF):TG:=fun v σ H Q=>∃ P φ sl st x,ND mg P H φ sl σ/\Sim mg P φ st H/\RA mg P H φ x v/\KS mg P φ H (f x sl st) Q
def LH [Nt] (mg:Gm) (f:sn):mC:=fun vs σ H Q=>∃ P φ sl st xs,ND mg P H φ sl σ/\Sim mg P φ st H/\Nv mg P H φ xs vs/\KS mg P φ H (f xs sl st) Q
def QG [Nt] (X:Cx) (tg:Expr) (f:GF):Prop:=PG X tg (rG X.gm f)
def xq [Nt] (X:Cx) (tgs:List Expr) (f:sn):Prop:=pM X tgs (LH X.gm f)
def wR (i:Nat):GF:=fun x sl st=>some (sl.set i (some x),st)
def Gb:sn:=fun xs sl st=>match xs with
 | []=>some (sl,st)
 | _=>none
def Gf (f:GF) (g:sn):sn:=fun xs sl st=>match xs with
 | x::xs=>(f x sl st).bind fun p=>g xs p.1 p.2
 | []=>none
def wQ (n:Nat) (g:sn):GF:=fun x sl st=>match iB st x with
 | some xs=>if xs.length=n then g xs sl st else none
 | none=>match bq st x with
  | some xs=>if xs.length=n then g xs sl st else none
  | none=>none
theorem sf (h:pM X tgs t) (i:∀ v σ H Q,t' v σ H Q->t v σ H Q):pM X tgs t':=fun Np s σ H v u Q I rv h'=>h Np s σ H v u Q I rv (i v σ H Q h')
section
variable {X:Cx}{e a b:Expr}{es:List Expr}{pos:Pos}
theorem KS.pure [Nt] {mg:Gm}{P:Pr}{φ:List Addr}{H:Hp}{sl:Sl}{st:aa}{σ:St}{Q:St->Hp->Prop} (h:KS mg P φ H (some (sl,st)) Q) (s:Sim mg P φ st H) (r:ND mg P H φ sl σ):Q σ H:=by
 obtain ⟨_,_,e,q⟩:=h;cases e;exact q P φ H σ Frm.refl s r
theorem Cc [Nt] {i:Nat} (hN:X.N.Nodup) (hi:X.N[i]?=some x) (hx:Loc X.env.scope x) (hf:X.fn x=true\/X.env.scope.names.lookup x=some .local):QG X (.Name x pos) (wR i) :=
 PG_imp (Cz hN hi hx hf) fun v σ H Q ⟨P,φ,sl,st,x,rs,s,rx,k⟩=>k.pure s (rs.set rx i)
theorem Cb [Nt]:xq X [] Gb:=sf Cw fun v σ H Q hq0=>by
 obtain ⟨P,φ,sl,st,xs,rs,s,rx,k⟩:=hq0;cases xs with
 | nil=>simp only [Nv] at rx;exact ⟨rx,k.pure s rs⟩
 | cons _ _=>obtain ⟨_,_,e,_⟩:=k;cases e
theorem xV [Nt] (h1:QG X e f) (h2:xq X es g) (hs:(assignEach (e::es) X.env).map (·.2)=assign e X.env::(assignEach es X.env).map (·.2)):xq X (e::es) (Gf f g) :=
 sf (ye h1 h2 hs) fun v σ H Q hq0=>by
  obtain ⟨P,φ,sl,st,xs,rs,s,rx,k⟩:=hq0;cases xs with
  | nil=>obtain ⟨_,_,e,_⟩:=k;cases e
  | cons x xs =>
   simp only [Nv] at rx;obtain ⟨w,ws,rfl,r1,r2⟩:=rx;obtain ⟨sl',st',e,q⟩:=k;obtain ⟨p,e1,e2⟩:=zA e;exact ⟨w,ws,rfl,P,φ,sl,st,x,rs,s,r1,p.1,p.2,e1,fun P1 φ1 H1 σ1 f1 s1 rs1=>⟨P1,φ1,p.1,p.2,xs,rs1,s1,r2.frm f1,sl',st',e2,fun P2 φ2 H2 σ2 f2 s2 rs2=>q P2 φ2 H2 σ2 (f1.trans f2) s2 rs2⟩⟩
theorem Ht (h:PG X tg t) (h':PG X tg t'):PG X tg (fun v σ H Q=>t v σ H Q\/t' v σ H Q):=fun Np s σ H v u Q I r q=>by
 rcases q with q | q
 ·exact h Np s σ H v u Q I r q
 ·exact h' Np s σ H v u Q I r q
theorem Eo [Nt] {k n:Nat} (hc:X.calm=true) (h:xq X es g) (hn:(assignEach es X.env).length=n) (hst:(assignEach es X.env).findIdx? (·.1)=none):QG X (.Tuple es k pos) (wQ n g) :=
 PG_imp (Ht (EN (k:=k) hc h hn hst) (Cy (k:=k) hc h hn hst)) fun v σ H Q hq0=>by
  obtain ⟨P,φ,sl,st,x,rs,s,rx,kk⟩:=hq0;obtain ⟨sl',st',e,q⟩:=kk;unfold wQ at e;split at e
  ·rename_i xs ex
   split at e
   ·rename_i hl
    obtain ⟨a1,vs,rfl,d1,q1⟩:=rx.tp s ex;exact .inl ⟨a1,vs,rfl,.inl (.inl d1),by rw [<- q1.length];exact hl,P,φ,sl,st,xs,rs,s,q1,sl',st',e,q⟩
   ·cases e
  ·split at e
   ·rename_i xs ex
    split at e
    ·rename_i hl
     obtain ⟨a1,vs,rfl,d1,q1⟩:=rx.ls s ex;exact .inr ⟨a1,vs,rfl,d1,by rw [<- q1.length];exact hl,P,φ,sl,st,xs,rs,s,q1,sl',st',e,q⟩
    ·cases e
   ·cases e
noncomputable def mK {κ:Type} [DecidableEq κ] (Nr:List (κ × AV)) (k:κ) (v:AV):List (κ × AV) :=
 if (Nr.any fun kv=>decide (kv.1=k))=true then Nr.map fun kv=>if kv.1=k then (kv.1,v) else kv else Nr++[(k,v)]
theorem qy {P:Pr}{H:Hp}{φ:List Addr}{κ:Type} [DecidableEq κ] {Nr:List (κ × AV)}{ws:List (κ × V)}{k:κ}{v:AV}{w:V} (h:KVR mg P H φ Nr ws) (r:RA mg P H φ v w):KVR mg P H φ (mK Nr k v) (eD ws k w):=by
 have hany:(Nr.any fun kv=>decide (kv.1=k))=(ws.any fun kv=>decide (kv.1=k)):=by
  have h1:∀ {α:Type} (l:List (κ × α)),(l.any fun kv=>decide (kv.1=k))=((l.map (·.1)).any fun x=>decide (x=k)):=fun l=>by rw [List.any_map];rfl
  rw [h1 Nr,h1 ws,h.1]
 unfold mK eD;rw [hany];split
 ·clear hany
  rename_i hh;clear hh
  induction Nr generalizing ws with
  | nil =>
   have:ws=[]:=by simpa using h.1.symm
   subst this;exact ⟨rfl,ba⟩
  | cons p Nr ih =>
   cases ws with
   | nil=>exact absurd h.1 (by simp)
   | cons q ws =>
    obtain ⟨h1,h2⟩:=h;rw [zO,zO] at h1 h2;injection h1 with h3 h4;simp only [Nv] at h2;obtain ⟨u,us,h5,h6,h7⟩:=h2;injection h5 with h8 h9;subst h8;subst h9;have ih:=ih (ws:=ws) ⟨h4,h7⟩;have h3':p.1=q.1:=h3;by_cases e:q.1=k
    ·rw [zO,zO,yI e,yI (h3'.trans e)]
     exact ⟨by rw [zO,zO,ih.1,h3'],aU r ih.2⟩
    ·rw [zO,zO,yH e,yH (fun z=>e (h3'.symm.trans z))]
     exact ⟨by rw [zO,zO,ih.1,h3'],aU h6 ih.2⟩
 ·refine ⟨by rw [List.map_append,List.map_append,h.1];rfl,?_⟩
  rw [List.map_append,List.map_append];exact h.2.app (aU r ba)
def jC (st:aa) (o i v:AV):Option aa:=match o with
 | .ref k=>match st[k]? with
  | some (.lst xs)=>match i with
   | .int j=>(mf xs.length j).map fun n=>st.set k (.lst (xs.set n v))
   | _=>none
  | some (.dK Nr)=>(jJ i).bind fun x=>if cM Nr.length=true then some (st.set k (.dK (mK Nr x v))) else none
  | some (.dT Nr)=>match i with
   | .tup is=>(aG jJ is).bind fun x=>if cM Nr.length=true then some (st.set k (.dT (mK Nr x v))) else none
   | _=>none
  | _=>none
 | _=>none
theorem AJ [Nt] (hu:X.A.units + 64 < cLine):vt X (fun o i v H Q=>∃ P φ st x y z st',Sim X.gm P φ st H/\RA X.gm P H φ x o/\RA X.gm P H φ y i/\RA X.gm P H φ z v/\jC st x y z=some st'/\∀ P' φ' H',Frm P φ H P' φ' H'->Sim X.gm P' φ' st' H'->Q H'):=by
 rintro Np s σ H o i v ov iv u Q I ro ri rv ⟨P,φ,st,x,y,z,st',sm,rx,ry,rz,e,k⟩;unfold jC at e;cases x with
 | ref j =>
  simp only [RA] at rx;obtain ⟨a,ea,rfl⟩:=rx;dsimp only at e;split at e
  ·rename_i xs hk
   obtain ⟨a',ea',c⟩:=sm.at hk;rw [ea] at ea';cases ea';obtain ⟨na,vs,q1,q2⟩:=c;cases y with
   | int n =>
    simp only [RA] at ry;subst ry;obtain ⟨m,e1,e2⟩:=zE.mp e;subst e2;have hp:P a->False:=na;obtain ⟨f3,s3⟩:=g8 (c:=.lst (xs.set m z)) (o:=.lst (vs.set m v)) sm ea na ⟨na,_,aw,(q2.set rz m).mono (fun b h=>⟨h,ae fun e=>na (e ▸ h)⟩) fun _ _ z=>z⟩ (fun _ _ z=>by rw [q1] at z;cases z);exact xO Np s σ H _ _ v ov iv u Q I ro ri rv ⟨a,vs,n,m,rfl,rfl,q1,by rw [<- q2.length];exact e1,k P φ _ f3 s3⟩
   | _=>cases e
  ·rename_i Nr hk
   obtain ⟨a',ea',c⟩:=sm.at hk;rw [ea] at ea';cases ea';obtain ⟨na,ws,q1,q2⟩:=c;obtain ⟨x,e1,e2⟩:=zA e;split at e2
   ·rename_i hz
    cases e2
    have:=mR e1 ry
    subst this;cases ro;obtain ⟨f3,s3⟩:=g8 (c:=.dK (mK Nr x z)) (o:=.dK (eD ws x v)) sm ea na ⟨na,_,aw,(qy q2 rz).mono (fun b h=>⟨h,ae fun e=>na (e ▸ h)⟩) fun _ _ z=>z⟩ (fun _ _ z=>by rw [q1] at z;cases z);refine pE oM I (DPut.k q1 ?_) ri rv fun s' I'=>⟨_,I',k P φ _ f3 s3⟩
    have:=congrArg List.length q2.1
    rw [zH,zH] at this;rw [<- this];have h1:=zS hz;have h2:(1000000:Nat) < sizeLine:=by decide
    omega
   ·cases e2
  ·rename_i Nr hk
   obtain ⟨a',ea',c⟩:=sm.at hk;rw [ea] at ea';cases ea';obtain ⟨na,ws,q1,q2⟩:=c;cases y with
   | tup is =>
    dsimp only at e;obtain ⟨x,e1,e2⟩:=zA e;split at e2
    ·rename_i hz
     cases e2;simp only [RA] at ry;obtain ⟨b,us,rfl,_,hb,rr⟩:=ry;rw [pr e1 rr] at hb;cases ro;obtain ⟨f3,s3⟩:=g8 (c:=.dT (mK Nr x z)) (o:=.dT (eD ws x v)) sm ea na ⟨na,_,aw,(qy q2 rz).mono (fun b h=>⟨h,ae fun e=>na (e ▸ h)⟩) fun _ _ z=>z⟩ (fun _ _ z=>by rw [q1] at z;cases z);refine pE oM I (DPut.t q1 hb ?_) ri rv fun s' I'=>⟨_,I',k P φ _ f3 s3⟩
     have:=congrArg List.length q2.1
     rw [zH,zH] at this;rw [<- this];have h1:=zS hz;have h2:(1000000:Nat) < sizeLine:=by decide
     omega
    ·cases e2
   | _=>cases e
  ·cases e
 | _=>cases e
def JN (f g:EF):GF:=fun x sl st=>(f sl st).bind fun p=>(g sl p.2).bind fun q=>(jC q.2 p.1 q.1 x).map fun st'=>(sl,st')
theorem Ep [Nt] (hu:X.A.units + 64 < cLine) (ho:QE X o f) (hi:QE X i g)
  (ha:∀ v,assign (.Subscript o i pos) X.env v=(do
   let ov <- holding [v] (eval o X.env)
   let iv <- holding [v,ov] (eval i X.env)
   standAt pos
   holding [v,ov,iv] (setItem ov iv v)
   release [v,ov,iv] [])):QG X (.Subscript o i pos) (JN f g) :=
 PG_imp (EO ho hi (AJ hu) ha) fun v σ H Q hq0=>by
  obtain ⟨P,φ,sl,st,x,rs,s,rx,sl',st',e,k⟩:=hq0;obtain ⟨q,e1,e2⟩:=zA e;obtain ⟨r,e3,e4⟩:=zA e2;obtain ⟨z,e5,e6⟩:=zE.mp e4;cases e6;exact ⟨P,φ,sl,st,rs,s,q.1,q.2,e1,fun P1 φ1 H1 w f1 s1 r1=>⟨P1,φ1,sl,q.2,rs.frm f1,s1,r.1,r.2,e3,fun P2 φ2 H2 w2 f2 s2 r2=>⟨P2,φ2,r.2,q.1,r.1,x,st',s2,r1.frm f2,r2,(rx.frm f1).frm f2,e5,fun P3 φ3 H3 f3 s3=>k P3 φ3 H3 σ ((f1.trans f2).trans f3) s3 (((rs.frm f1).frm f2).frm f3)⟩⟩⟩
end
def hid (H:Hp) (p:Addr):Hp:=fun b=>if b=p then none else H b
theorem br (h:b ≠ p):hid H p b=H b:=yH h
theorem cZ:hid H p p=none:=yI rfl
theorem BM (h:H p=some o):af (hid H p) p o=H:=by
 funext b;by_cases e:b=p
 ·subst e;rw [aw,h]
 ·rw [ae e,br e]
theorem tG:hid (af H p o) p=hid H p:=by
 funext b;by_cases e:b=p
 ·subst e;rw [cZ,cZ]
 ·rw [br e,br e,ae e]
theorem zv (h:H p=none):hid H p=H:=by
 funext b;by_cases e:b=p
 ·subst e;rw [cZ,h]
 ·rw [br e]
section
variable {mg:Gm}{P P':Pr}{φ φ':List Addr}{st st':aa}{H H':Hp}{p:Addr}
theorem _root_.L2.fv.sh {P:Addr}{pos:Pos}{q:Str} (h:fv (hid H p) P pos q):fv H P pos q:=by
 obtain ⟨ps,e,t,c⟩:=h;have ne:∀ {a o},hid H p a=some o->H a=some o:=fun {a o} e=>by
  by_cases z:a=p
  ·rw [z,cZ] at e;cases e
  ·rw [br z] at e;exact e
 refine ⟨ps,ne e,t,?_⟩;rcases c with c | ⟨c',c1,c2⟩
 ·exact .inl c
 ·exact .inr ⟨c',c1,ne c2⟩
theorem _root_.L2.fv.hd {P:Addr}{pos:Pos}{q:Str} (h:fv H P pos q) (hl:∃ vs,H p=some (.lst vs)):fv (hid H p) P pos q:=by
 obtain ⟨ps,e,t,c⟩:=h;obtain ⟨vs,hv⟩:=hl;refine ⟨ps,by rw [br (uA e hv fun z=>nomatch z)];exact e,t,?_⟩;rcases c with c | ⟨c',c1,c2⟩
 ·exact .inl c
 ·exact .inr ⟨c',c1,by rw [br (uA c2 hv fun z=>nomatch z)];exact c2⟩
theorem Sim.sh [Nt] (s:Sim mg P φ st (hid H p)) (o:HO) (ho:H p=some o):Sim mg P φ st H/\∀ a,P a->P a/\H a=hid H p a:=by
 have nP:∀ a,P a->a ≠ p:=fun a h e=>s.dom a h (by rw [e];exact cZ)
 have nC:∀ a ∈ φ,a ≠ p:=fun a h e=>s.cd a h (by rw [e];exact cZ)
 have ex:∀ a,P a->P a/\H a=hid H p a:=fun a h=>⟨h,(br (nP a h)).symm⟩
 exact ⟨s.stay ex (fun a h=>(br (nC a h)).symm) (fun _ _ h=>h) (fun a h=>by rw [(ex a h).2];exact s.dom a h) fun t ht=>⟨(s.tb t ht).1.sh,(s.tb t ht).2⟩,ex⟩
theorem Frm.hd [Nt] (s0:Sim mg P φ st (hid H p)) (hl:∃ vs,H p=some (.lst vs)) (f:Frm P φ H P' φ' H') (s:Sim mg P' φ' st' H'):Frm P φ (hid H p) P' φ' (hid H' p)/\Sim mg P' φ' st' (hid H' p)/\(∀ a,P' a->P' a/\hid H' p a=H' a)/\H' p=H p:=by
 have nP:∀ a,P a->a ≠ p:=fun a h e=>s0.dom a h (by rw [e];exact cZ)
 have nC:∀ a ∈ φ,a ≠ p:=fun a h e=>s0.cd a h (by rw [e];exact cZ)
 have hp:H p ≠ none:=fun z=>by obtain ⟨vs,e⟩:=hl;rw [z] at e;cases e
 have kp:H' p=H p:=f.keep p hp (fun h=>nC p h rfl) fun ps z=>by obtain ⟨vs,e⟩:=hl;rw [z] at e;cases e
 obtain ⟨m,em,nm⟩:=f.new;have nP':∀ a,P' a->a ≠ p:=fun a h e=>by
  rcases f.pn a h with z | z | z
  ·exact nP a z e
  ·exact hp (by rw [<- e];exact z)
  ·exact nC a z e
 have nC':∀ a ∈ φ',a ≠ p:=fun a h e=>by
  rw [em] at h;rcases zZ.mp h with z | z
  ·exact nC a z e
  ·exact hp (by rw [<- e];exact nm a z)
 have hn:∀ a,hid H p a ≠ none->a ≠ p:=fun a h e=>h (by rw [e];exact cZ)
 have ex:∀ a,P' a->P' a/\hid H' p a=H' a:=fun a h=>⟨h,br (nP' a h)⟩
 refine ⟨⟨fun a h=>⟨(f.ext a h).1,by rw [br (nP a h),br (nP a h)];exact (f.ext a h).2⟩,⟨m,em,fun a h=>?_⟩,fun a h n z=>?_,fun a h=>?_,fun a h=>?_,fun a o u h=>?_⟩,s.stay ex (fun a h=>br (nC' a h)) (fun _ _ h=>h) (fun a h=>by rw [(ex a h).2];exact s.dom a h) (fun t ht=>⟨(s.tb t ht).1.hd (by rw [kp];exact hl),(s.tb t ht).2⟩),ex,kp⟩
 ·rw [br (nC' a (by rw [em];exact zK _ h))];exact nm a h
 ·rw [br (hn a h),br (hn a h)]
  rw [br (hn a h)] at z;rw [br (hn a h)] at h;exact f.keep a h n z
 ·rcases f.pn a h with z | z | z
  ·exact .inl z
  ·exact .inr (.inl (by rw [br (nP' a h)];exact z))
  ·exact .inr (.inr z)
 ·rw [br (hn a h)]
  rw [br (hn a h)] at h;exact f.sm a h
 ·have ne:=hn a (by rw [h];exact fun z=>nomatch z)
  rw [br ne] at h ⊢;exact f.fz a o u h
end
def gJ (gd:Gd) (g:GF) (t:TF) (f:EF) (sl:Sl):List AV->aa->Option (List AV × aa)
 | [],st=>if bN gd st=true then some ([],st) else none
 | x::xs,st=>if bN gd st=true then (g x sl st).bind fun p=>(t p.1 p.2).bind fun q=>if q.1=true then (f p.1 q.2).bind fun r=>(gJ gd g t f sl xs r.2).map fun z=>(r.1::z.1,z.2) else gJ gd g t f sl xs q.2 else none
def A1 (k:Nat) (it:IF) (g:GF) (t:TF) (f:EF):NF:=fun sl st=>(it sl st).bind fun p=>if cM p.1.Nu.length=true then gJ p.1.gd g t f (sl++List.replicate k none) p.1.Nu p.2 else none
def Ji:TF:=fun _ st=>some (true,st)
theorem ND.ext0 (h:ND mg P H φ sl σ) (k:Nat):ND mg P H φ (sl++List.replicate k none) (σ++List.replicate k none):=by
 refine ⟨by rw [zV,zV,h.1,List.length_replicate,List.length_replicate],fun i v e=>?_⟩;have hi:i < sl.length:=by
  rcases yS i sl.length with z | z
  ·exact z
  ·rw [z6 z,List.getElem?_replicate] at e
   split at e <;> cases e
 rw [zN hi] at e;rw [zN (by rw [<- h.1];exact hi)];exact h.2 i v e
def p7 (n:Nat) (g:GF):Prop:=∀ x sl st sl' st',g x sl st=some (sl',st')->sl'.length=sl.length/\∀ j,j < n->sl'[j]?=sl[j]?
theorem ND.back {k:Nat} (h:ND mg P H φ sl' σ) (hl:sl'.length=(sl++List.replicate k none).length) (hj:∀ j,j < sl.length->sl'[j]?=(sl++List.replicate k none)[j]?):ND mg P H φ (sl++List.replicate k none) σ:=by
 refine ⟨by rw [<- hl];exact h.1,fun i v e=>?_⟩;have hi:i < sl.length:=by
  rcases yS i sl.length with z | z
  ·exact z
  ·rw [z6 z,List.getElem?_replicate] at e
   split at e <;> cases e
 exact h.2 i v (by rw [hj i hi];exact e)
theorem FQ [Nt] {n k:Nat} (hk:p7 n g) (hn:σ.length=n) (h:rN mg (A1 k it g t f) σ H Q):DG k (rI mg it) (rG mg g) (rT mg t) (rE mg f) σ H Q:=by
 obtain ⟨P,φ,sl,st,rs,s,out,stE,ef,kk⟩:=h;obtain ⟨q,e1,e2⟩:=zA ef;split at e2
 ·rename_i hz
  refine ⟨P,φ,sl,st,rs,s,q.1,q.2,e1,fun P1 φ1 H1 J f1 s1 ij=>fun p hp=>?_⟩;have hsl:sl.length=n:=by rw [rs.1];exact hn
  refine ⟨fun i m σ' H'=>m=q.1.Nu.length - i/\i <= q.1.Nu.length/\∃ P' φ' st' xs vs zs,Frm P1 φ1 H1 P' φ' (hid H' p)/\Sim mg P' φ' st' (hid H' p)/\ND mg P' (hid H' p) φ' (sl++List.replicate k none) σ'/\H' p=some (.lst vs)/\Nv mg P' (hid H' p) φ' xs vs/\xs.length <= i /\
    gJ q.1.gd g t f (sl++List.replicate k none) (q.1.Nu.drop i) st'=some (zs,stE)/\out=xs++zs,⟨_,rfl,Nat.zero_le _,P1,φ1,q.2,[],[],out,?_⟩,?_⟩
  ·have e:hid (af H1 p (.lst [])) p=H1:=by rw [tG,zv hp]
   rw [e];exact ⟨Frm.refl,s1,(rs.frm f1).ext0 k,aw,ba,zP _,by simpa using e2,rfl⟩
  ·rintro i m σ' H' ⟨rfl,hle,P2,φ2,st2,xs,vs,zs,f2,s2,rs2,hv,rx,hlen,eg,eo⟩
   obtain ⟨s2v,ex2⟩:=s2.sh _ hv;have rs2v:ND mg P2 H' φ2 (sl++List.replicate k none) σ':=⟨rs2.1,fun i v e=>let ⟨w,e',r⟩:=rs2.2 i v e;⟨w,e',r.mono ex2 fun _ _ z=>z⟩⟩;have hpn:H' p ≠ none:=by rw [hv];exact fun z=>nomatch z
   -- the iterator's rules hold at the whole heap: it keeps what is out of sight as it is
   have f2v:Frm P1 φ1 H1 P2 φ2 H':=by
    refine ⟨fun a h=>⟨(f2.ext a h).1,?_⟩,f2.new,fun a h n z=>?_,fun a h=>f2.pn a h,fun a h=>?_,fun a o u h=>?_⟩
    ·have ne:a ≠ p:=fun e=>s1.dom a h (by rw [e];exact hp)
     rw [<- br (H:=H') ne];exact (f2.ext a h).2
    ·have ne:a ≠ p:=fun e=>h (by rw [e];exact hp)
     rw [<- br (H:=H') ne];exact f2.keep a h n z
    ·have ne:a ≠ p:=fun e=>h (by rw [e];exact hp)
     rw [<- br (H:=H') ne];exact f2.sm a h
    ·have ne:a ≠ p:=a0 h hp
     rw [<- br (H:=H') ne];exact f2.fz a o u h
   rcases yS i q.1.Nu.length with hi | hi
   ·right
    rw [List.drop_eq_getElem_cons hi] at eg;simp only [gJ] at eg;split at eg
    ·rename_i hgd
     obtain ⟨go,yl⟩:=ij.go P2 φ2 H' st2 i _ f2v s2v hgd (zF hi);refine ⟨go,fun x H3 hy=>?_⟩;obtain ⟨P3,f3,s3,r3⟩:=yl x H3 hy;obtain ⟨q4,e4,e5⟩:=zA eg;obtain ⟨q6,e6,e7⟩:=zA e5;obtain ⟨kl,kj⟩:=hk _ _ _ _ _ e4;refine ⟨P3,φ2,sl++List.replicate k none,st2,q.1.Nu[i],rs2v.frm f3,s3,r3,q4.1,q4.2,e4,fun P4 φ4 H4 σ4 f4 s4 rs4=>⟨P4,φ4,q4.1,q4.2,rs4,s4,q6.1,q6.2,e6,fun P5 φ5 H5 c f5 s5 r5=>?_⟩⟩;cases r5;have f35:=(f3.trans f4).trans f5;have back:∀ {P6:Pr}{φ6:List Addr}{H6:Hp},Frm P5 φ5 H5 P6 φ6 H6->ND mg P6 H6 φ6 (sl++List.replicate k none) σ4:=fun f6=>((rs4.frm f5).frm f6).back kl fun j hj=>kj j oM
     cases hc:q6.1 with
     | true =>
      rw [hc] at e7;simp only [if_true] at e7 ⊢;obtain ⟨q8,e8,e9⟩:=zA e7;obtain ⟨z,e10,e11⟩:=zE.mp e9;cases e11;refine ⟨P5,φ5,q4.1,q6.2,rs4.frm f5,s5,q8.1,q8.2,e8,fun P6 φ6 H6 y f6 s6 r6=>?_⟩;obtain ⟨fh,sh,exh,hpe⟩:=Frm.hd s2 ⟨_,hv⟩ (f35.trans f6) s6;refine ⟨vs,by rw [hpe];exact hv,?_,q.1.Nu.length - (i + 1),by omega,rfl,hi,P6,φ6,q8.2,xs++[q8.1],vs++[y],z.1,?_⟩
      ·rw [<- rx.length]
       have h1:=zS hz;have h2:(1000000:Nat) < sizeLine:=by decide
       omega
      ·have eh:hid (af H6 p (.lst (vs++[y]))) p=hid H6 p:=tG
       rw [eh];refine ⟨f2.trans fh,sh,?_,aw,(rx.frm fh).app (aU (r6.mono exh fun _ _ z=>z) ba),by rw [zV];simp;omega,e10,by rw [eo,yN];rfl⟩
       have:=back f6
       exact ⟨this.1,fun i v e=>let ⟨w,e',r⟩:=this.2 i v e;⟨w,e',r.mono exh fun _ _ z=>z⟩⟩
     | false =>
      rw [hc] at e7;simp only [yB,if_false] at e7 ⊢;obtain ⟨fh,sh,exh,hpe⟩:=Frm.hd s2 ⟨_,hv⟩ f35 s5;refine ⟨q.1.Nu.length - (i + 1),by omega,rfl,hi,P5,φ5,q6.2,xs,vs,zs,f2.trans fh,sh,?_,by rw [hpe];exact hv,rx.frm fh,by omega,e7,eo⟩
      have:=back Frm.refl
      exact ⟨this.1,fun i v e=>let ⟨w,e',r⟩:=this.2 i v e;⟨w,e',r.mono exh fun _ _ z=>z⟩⟩
    ·cases eg
   ·left
    have ei:i=q.1.Nu.length:=Nat.le_antisymm hle hi;subst ei;rw [List.drop_length] at eg;simp only [gJ] at eg;split at eg
    ·rename_i hgd
     cases eg;refine ⟨ij.stop P2 φ2 H' _ f2v s2v hgd,?_⟩
     have:=kk P2 φ2 (hid H' p) p vs (f1.trans f2) s2 cZ (by rw [eo,List.append_nil];exact rx)
     rw [BM hv] at this;exact this
    ·cases eg
 ·cases e2
def xp [Nt] (X:Cx) (ifs:List Expr) (t:TF):Prop:=t8 X ifs (rT X.gm t)
section
variable {X:Cx}{elt iter tg:Expr}{ifs:List Expr}{N':List Str}{scope:Scope}{pos:Pos}{it:IF}{g:GF}{t:TF}{f:EF}
theorem B9 [Nt]:xp X [] Ji:=fun Np s σ H Q I ⟨P,φ,sl,st,rs,sm,k⟩=>Ct Np s σ H Q I (k.pure sm rfl)
theorem B8 [Nt] (h:QT X e t):xp X [e] t:=Cs h
theorem GJ {e:Expr}{t t':TE} (h:PE X e t) (i:∀ σ H Q,σ.length=X.N.length->t' σ H Q->t σ H Q):PE X e t':=fun Np s σ H Q I h'=>h Np s σ H Q I (i σ H Q I.len h')
theorem GH {st:Stmt}{t t':TS} (h:PS X st t) (i:∀ D σ H,σ.length=X.N.length->t' D σ H->t D σ H):PS X st t':=fun Np s σ H D I h'=>h Np s σ H D I (i D σ H I.len h')
theorem He [Nt] (hc:X.calm=true) (T:jT X N' scope) (hi:QI X tg iter it) (hg:∀ cl s H fp Np,QG (cj X N' scope cl s H fp Np) tg g) (ht:∀ cl s H fp Np,xp (cj X N' scope cl s H fp Np) ifs t)
  (he:∀ cl s H fp Np,QE (cj X N' scope cl s H fp Np) elt f) (hk:p7 X.N.length g) (hs:∀ x,foldedSetIterable iter X.env x=pure x):QN X (.ListComp elt [⟨tg,iter,ifs,0⟩] scope pos) (A1 (N'.length - X.N.length) it g t f) :=
 GJ (Hw (g:=rG X.gm g) (tt:=rT X.gm t) (te:=rE X.gm f) hc T hi (fun cl s H fp Np=>hg cl s H fp Np) (fun cl s H fp Np=>ht cl s H fp Np) (fun cl s H fp Np=>he cl s H fp Np) hs) fun σ H Q hl h=>FQ hk hl h
end
inductive Out where
 | nx (sl:Sl) (st:aa) | rt (v:AV) (st:aa) | bk (sl:Sl) (st:aa) | ct (sl:Sl) (st:aa)
abbrev SF:=Sl->aa->Option Out
def ThO [Nt] (mg:Gm) (P:Pr) (φ:List Addr) (H:Hp) (D:je):Out->Prop
 | .nx sl st=>∀ P' φ' H' σ',Frm P φ H P' φ' H'->Sim mg P' φ' st H'->ND mg P' H' φ' sl σ'->D.nx σ' H'
 | .bk sl st=>∀ P' φ' H' σ',Frm P φ H P' φ' H'->Sim mg P' φ' st H'->ND mg P' H' φ' sl σ'->D.bk σ' H'
 | .ct sl st=>∀ P' φ' H' σ',Frm P φ H P' φ' H'->Sim mg P' φ' st H'->ND mg P' H' φ' sl σ'->D.ct σ' H'
 | .rt v st=>∀ P' φ' H' w,Frm P φ H P' φ' H'->Sim mg P' φ' st H'->RA mg P' H' φ' v w->D.rt w H'
def KO [Nt] (mg:Gm) (P:Pr) (φ:List Addr) (H:Hp) (r:Option Out) (D:je):Prop:=∃ o,r=some o/\ThO mg P φ H D o
def rS [Nt] (mg:Gm) (f:SF):TS:=fun D σ H=>∃ P φ sl st,ND mg P H φ sl σ/\Sim mg P φ st H/\KO mg P φ H (f sl st) D
def QS [Nt] (X:Cx) (st:Stmt) (f:SF):Prop:=PS X st (rS X.gm f)
def lD [Nt] (X:Cx) (sts:List Stmt) (f:SF):Prop:=PSs X sts (rS X.gm f)
theorem ThO.frm [Nt] (h:ThO mg P φ H D o) (f:Frm P φ H P1 φ1 H1):ThO mg P1 φ1 H1 D o:=by
 cases o with
 | nx sl st=>exact fun P' φ' H' σ' f'=>h P' φ' H' σ' (f.trans f')
 | bk sl st=>exact fun P' φ' H' σ' f'=>h P' φ' H' σ' (f.trans f')
 | ct sl st=>exact fun P' φ' H' σ' f'=>h P' φ' H' σ' (f.trans f')
 | rt v st=>exact fun P' φ' H' σ' f'=>h P' φ' H' σ' (f.trans f')
theorem KO.bindE [Nt] {α β:Type}{Ra:Gm->Pr->Hp->List Addr->α->β->Prop}{m:Option (α × aa)}{k:α × aa->Option Out} (h:KO mg P φ H (m.bind k) D) :
  KG mg Ra P φ H m fun b H1=>∃ P1 φ1 st1 a,Frm P φ H P1 φ1 H1/\Sim mg P1 φ1 st1 H1/\Ra mg P1 H1 φ1 a b/\KO mg P1 φ1 H1 (k (a,st1)) D:=by
 obtain ⟨o,e,q⟩:=h;cases m with
 | none=>cases e
 | some p=>exact ⟨p.1,p.2,rfl,fun P1 φ1 H1 b f s r=>⟨P1,φ1,p.2,p.1,f,s,r,o,e,q.frm f⟩⟩
theorem KO.nx [Nt] {mg:Gm}{P:Pr}{φ:List Addr}{H:Hp}{sl:Sl}{st:aa}{D:je}{σ:St} (h:KO mg P φ H (some (.nx sl st)) D) (s:Sim mg P φ st H) (r:ND mg P H φ sl σ):D.nx σ H:=by
 obtain ⟨o,e,q⟩:=h;cases e;exact q P φ H σ Frm.refl s r
theorem KO.no [Nt] (h:KO mg P φ H none D):False:=by obtain ⟨_,e,_⟩:=h;cases e
section
variable {X:Cx}{st:Stmt}{rest:List Stmt}{e c tg:Expr}{pos:Pos}{s t:SF}{f:EF}{g:GF}{b:TF}
def Jr:SF:=fun sl st=>some (.nx sl st)
def Jp (s t:SF):SF:=fun sl st=>(s sl st).bind fun o=>match o with
 | .nx sl st=>t sl st
 | o=>some o
theorem B0 [Nt]:lD X [] Jr:=PSs_imp Cm fun D σ H ⟨P,φ,sl,st,rs,s,k⟩=>k.nx s rs
theorem xT [Nt] (h1:QS X st s) (h2:lD X rest t):lD X (st::rest) (Jp s t):=PSs_imp (xZ h1 h2) fun D σ H hq0=>by
 obtain ⟨P,φ,sl,st,rs,sm,o,e,q⟩:=hq0;obtain ⟨o1,e1,e2⟩:=zA e;refine ⟨P,φ,sl,st,rs,sm,o1,e1,?_⟩;cases o1 with
 | nx sl1 st1=>exact fun P' φ' H' σ' f' s' rs'=>⟨P',φ',sl1,st1,rs',s',o,e2,q.frm f'⟩
 | bk sl1 st1=>cases e2;exact q
 | ct sl1 st1=>cases e2;exact q
 | rt v st1=>cases e2;exact q
def AL:SF:=fun _ _=>none
theorem B3 [Nt]:QS X st AL:=PS_imp yb fun D σ H ⟨P,φ,sl,st,rs,s,k⟩=>k.no
theorem xS [Nt]:lD X sts AL:=PSs_imp vX fun D σ H ⟨P,φ,sl,st,rs,s,k⟩=>k.no
def Ju (f:EF):SF:=fun sl st=>(f sl st).bind fun p=>some (.nx sl p.2)
theorem B2 [Nt] (he:QE X e f) (hs:swapsWith e none pos.line X.env=pure false):QS X (.Expr e pos) (Ju f):=PS_imp (Co he hs) fun D σ H ⟨P,φ,sl,st,rs,s,k⟩=>⟨P,φ,sl,st,rs,s,by
 obtain ⟨a,st',e1,q⟩:=k.bindE (Ra:=RA);refine ⟨a,st',e1,fun P1 φ1 H1 w f1 s1 r1=>?_⟩;obtain ⟨P2,φ2,st2,x,f2,s2,r2,k2⟩:=q P1 φ1 H1 w f1 s1 r1;exact k2.nx s2 (rs.frm f2)⟩
def Jq (f:EF):SF:=fun sl st=>(f sl st).bind fun p=>some (.rt p.1 p.2)
theorem Ec [Nt] (he:QE X e f):QS X (.Return (some e) pos) (Jq f):=PS_imp (EG he) fun D σ H ⟨P,φ,sl,st,rs,s,k⟩=>⟨P,φ,sl,st,rs,s,by
 obtain ⟨a,st',e1,q⟩:=k.bindE (Ra:=RA);refine ⟨a,st',e1,fun P1 φ1 H1 w f1 s1 r1=>?_⟩;obtain ⟨P2,φ2,st2,x,f2,s2,r2,o,eo,q2⟩:=q P1 φ1 H1 w f1 s1 r1;cases eo;exact q2 P2 φ2 H1 w Frm.refl s2 r2⟩
def Js (b:TF) (s t:SF):SF:=fun sl st=>(b sl st).bind fun p=>if p.1=true then s sl p.2 else t sl p.2
theorem Hc [Nt] (hc:QT X c b) (ha:lD X x s) (hb:lD X y t):QS X (.If c x y pos) (Js b s t):=PS_imp (Hr hc ha hb) fun D σ H ⟨P,φ,sl,st,rs,sm,k⟩=>⟨P,φ,sl,st,rs,sm,by
 obtain ⟨a,st',e1,q⟩:=k.bindE (Ra:=RB);refine ⟨a,st',e1,fun P1 φ1 H1 w f1 s1 r1=>?_⟩;obtain ⟨P2,φ2,st2,x,f2,s2,r2,k2⟩:=q P1 φ1 H1 w f1 s1 r1;cases r2;cases w with
 | true=>exact ⟨P2,φ2,sl,st2,rs.frm f2,s2,k2⟩
 | false=>exact ⟨P2,φ2,sl,st2,rs.frm f2,s2,k2⟩⟩
def vP (f:EF) (g:GF):SF:=fun sl st=>(f sl st).bind fun p=>(g p.1 sl p.2).bind fun q=>some (.nx q.1 q.2)
theorem vm [Nt] (h:rS mg (vP f g) D σ H):ui (rE mg f) (rG mg g) D σ H:=by
 obtain ⟨P,φ,sl,st,rs,s,o,e,q⟩:=h;obtain ⟨p,e1,e2⟩:=zA e;obtain ⟨r,e3,e4⟩:=zA e2;cases e4;exact ⟨P,φ,sl,st,rs,s,p.1,p.2,e1,fun P1 φ1 H1 w f1 s1 r1=>⟨P1,φ1,sl,p.2,p.1,rs.frm f1,s1,r1,r.1,r.2,e3,fun P2 φ2 H2 σ2 f2 s2 rs2=>q P2 φ2 H2 σ2 (f1.trans f2) s2 rs2⟩⟩
theorem vU [Nt] (he:QE X e f) (hg:QG X tg g) (hs:swapsWithSole [tg] e pos.line X.env=pure false) (hw:swappedStores [tg] e X.env=pure none) (h1:(assignEach [tg] X.env).map (·.2)=[assign tg X.env]):QS X (.Assign [tg] e pos) (vP f g) :=
 PS_imp (EI he hg hs hw h1) fun D σ H h=>vm h
theorem Fm [Nt] {i:Nat} (h:rG mg (wR i) v σ H Q):nY i v σ H Q:=by
 obtain ⟨P,φ,sl,st,x,rs,s,rx,k⟩:=h;exact k.pure s (rs.set rx i)
theorem vT [Nt] {i:Nat} (hN:X.N.Nodup) (hi:X.N[i]?=some x) (hx:Loc X.env.scope x) (he:QE X e f) (hs:swapsWith e (some (.Name x pos')) pos.line X.env=pure false) (hf:X.fn x=true\/X.env.scope.names.lookup x=some .local) :
  QS X (.Assign [.Name x pos'] e pos) (vP f (wR i)):=PS_imp (EE hN hi hx he hs hf) fun D σ H h=>by
 obtain ⟨P,φ,sl,st,rs,s,p1,p2,e1,k⟩:=vm h;exact ⟨P,φ,sl,st,rs,s,p1,p2,e1,fun P1 φ1 H1 w f1 s1 r1=>Fm (k P1 φ1 H1 w f1 s1 r1)⟩
def Bw (m:Bool) (f:NF):EF:=if m=true then Ma f else Mb f
theorem Fk [Nt] {mg:Gm}{m:Bool}{f:NF}{σ:St}{H:Hp}{Q:VK} (h:rE mg (Bw m f) σ H Q):rN mg f σ H Q:=by
 obtain ⟨P,φ,sl,st,rs,s,v,st',ev,k⟩:=h;cases m with
 | true =>
  obtain ⟨q,e1,e2⟩:=zA ev;cases e2;refine ⟨P,φ,sl,st,rs,s,q.1,q.2,e1,fun P1 φ1 H1 p vs f1 s1 hp r1=>?_⟩;obtain ⟨f3,s3,r3⟩:=Fp s1 hp r1;exact k P1 _ _ _ (f1.trans f3) s3 r3
 | false =>
  obtain ⟨q,e1,e2⟩:=zA ev;split at e2
  ·rename_i hr
   cases e2;refine ⟨P,φ,sl,st,rs,s,q.1,q.2,e1,fun P1 φ1 H1 p vs f1 s1 hp r1=>?_⟩;obtain ⟨P3,f3,s3,r3⟩:=Gh s1 hp hr r1;exact k P3 φ1 _ _ (f1.trans f3) s3 r3
  ·cases e2
theorem Hl [Nt] {m:Bool}{f:NF} (h:QN X e f):QE X e (Bw m f):=PE_imp h fun _ _ _ q=>Fk q
theorem vS [Nt] {i:Nat}{y:Str}{py:Pos}{elt iter tg:Expr}{ifs:List Expr}{N':List Str}{scope:Scope}{pos spos:Pos}{it:IF}{g:GF}{t:TF}{f:EF}{m:Bool} (hN:X.N.Nodup) (hiN:X.N[i]?=some y) (hx:Loc X.env.scope y)
  (hsw:swapsWith (.ListComp elt [⟨tg,iter,ifs,0⟩] scope pos) (some (.Name y py)) spos.line X.env=pure true)
  (hc:X.calm=true) (T:jT X N' scope) (hi:QI X tg iter it) (hg:∀ cl s H fp Np,QG (cj X N' scope cl s H fp Np) tg g) (ht:∀ cl s H fp Np,xp (cj X N' scope cl s H fp Np) ifs t)
  (he:∀ cl s H fp Np,QE (cj X N' scope cl s H fp Np) elt f) (hk:p7 X.N.length g) (hs:∀ x,foldedSetIterable iter X.env x=pure x) (hf:X.fn y=true\/X.env.scope.names.lookup y=some .local) :
  QS X (.Assign [.Name y py] (.ListComp elt [⟨tg,iter,ifs,0⟩] scope pos) spos) (vP (Bw m (A1 (N'.length - X.N.length) it g t f)) (wR i)) :=
 GH (vY (g:=rG X.gm g) (tt:=rT X.gm t) (te:=rE X.gm f) hN hiN hx hsw hc T hi (fun cl s H fp Np=>hg cl s H fp Np) (fun cl s H fp Np=>ht cl s H fp Np) (fun cl s H fp Np=>he cl s H fp Np) hs hf) fun D σ H hl h=>by
  obtain ⟨P,φ,sl,st,rs,s,p1,p2,e1,k⟩:=vm h;exact FQ hk hl (Fk (m:=m) ⟨P,φ,sl,st,rs,s,p1,p2,e1,fun P1 φ1 H1 w f1 s1 r1=>Fm (k P1 φ1 H1 w f1 s1 r1)⟩)
def vk (o:Operator) (_:aa):AV->AV->Option AV
 | .int a,.int b=>match o with
  | .Add=>some (.int (a + b))
  | .Sub=>some (.int (a - b))
  | _=>none
 | _,_=>none
theorem KZ [Nt] (o:Operator):BC X o (fun x y H Q=>∃ P φ st a b c,Sim X.gm P φ st H/\RA X.gm P H φ a x/\RA X.gm P H φ b y/\vk o st a b=some c/\∀ w,RA X.gm P H φ c w->Q w H):=by
 rintro Np s σ H x y v u Q I rx ry ⟨P,φ,st,a,b,c,sm,ra,rb,e,k⟩;cases a <;> cases b <;> simp only [vk] at e <;> first | (cases e;done) | skip
 rename_i i j;simp only [RA] at ra rb;subst ra;subst rb;cases o <;> first | (cases e;done) | skip
 ·cases e
  exact F4 Np s σ H _ _ v u Q I rx ry ⟨i,j,rfl,rfl,k _ (by simp only [RA])⟩
 ·cases e
  exact F3 Np s σ H _ _ v u Q I rx ry ⟨i,j,rfl,rfl,k _ (by simp only [RA])⟩
theorem Ih [Nt]:Aq X (fun x y H Q=>∃ P φ st a b c,Sim X.gm P φ st H/\RA X.gm P H φ a x/\RA X.gm P H φ (.int b) y/\(∃ xs,bq st a=some xs/\fM xs b=some c)/\∀ w,RA X.gm P H φ c w->Q w H):=by
 rintro Np s σ H x y v u Q I rx ry ⟨P,φ,st,a,b,c,sm,ra,rb,⟨xs,e1,e2⟩,k⟩;obtain ⟨p,vs,rfl,d1,q1⟩:=ra.ls sm e1;obtain ⟨w,e3,r3⟩:=o6 q1 e2;simp only [RA] at rb;exact zz Np s σ H _ y v u Q I rx ry ⟨p,vs,b,w,rfl,rb,d1,e3,k w r3⟩
def uo (o:Operator) (f g h:EF):SF:=fun sl st=>(f sl st).bind fun p=>(g sl p.2).bind fun q=>match q.1 with
 | .int i=>(bq q.2 p.1).bind fun xs=>(fM xs i).bind fun x=>(h sl q.2).bind fun r=>(vk o r.2 x r.1).bind fun z=>(jC r.2 p.1 (.int i) z).bind fun st'=>some (.nx sl st')
 | _=>none
theorem B4 [Nt] {a i:Expr}{f g h:EF}{o:Operator}{tpos:Pos} (hu:X.A.units + 64 < cLine) (ho:QE X a f) (hi:QE X i g) (he:QE X e h)
  (ha:∀ ov iv new,augStore i ov iv new=(do holding [new,ov,iv] (setItem ov iv new);release [new,ov,iv] [];pure .next)):QS X (.AugAssign (.Subscript a i tpos) o e pos) (uo o f g h) :=
 PS_imp (Cp ho hi Ih he (KZ o) (AJ hu) ha) fun D σ H hq0=>by
  obtain ⟨P,φ,sl,st,rs,s,out,eo,q⟩:=hq0;obtain ⟨p,e1,e2⟩:=zA eo;obtain ⟨r,e3,e4⟩:=zA e2;split at e4
  ·rename_i j hj
   obtain ⟨xs,e5,e6⟩:=zA e4;obtain ⟨x,e7,e8⟩:=zA e6;obtain ⟨t,e9,e10⟩:=zA e8;obtain ⟨z,e11,e12⟩:=zA e10;obtain ⟨st',e13,e14⟩:=zA e12;cases e14;refine ⟨P,φ,sl,st,rs,s,p.1,p.2,e1,fun P1 φ1 H1 w1 f1 s1 r1=>⟨P1,φ1,sl,p.2,rs.frm f1,s1,r.1,r.2,e3,fun P2 φ2 H2 w2 f2 s2 r2=>?_⟩⟩;rw [hj] at r2;refine ⟨P2,φ2,r.2,p.1,j,x,s2,r1.frm f2,r2,⟨xs,e5,e7⟩,fun w3 r3=>⟨P2,φ2,sl,r.2,(rs.frm f1).frm f2,s2,t.1,t.2,e9,fun P3 φ3 H3 w4 f3 s3 r4=>⟨P3,φ3,t.2,x,t.1,z,s3,r3.frm f3,r4,e11,fun w5 r5=>⟨P3,φ3,t.2,p.1,.int j,z,st',s3,(r1.frm f2).frm f3,r2.frm f3,r5,e13,fun P4 φ4 H4 f4 s4=>?_⟩⟩⟩⟩;exact q P4 φ4 H4 σ (((f1.trans f2).trans f3).trans f4) s4 ((((rs.frm f1).frm f2).frm f3).frm f4)
  ·cases e4
end
def c5 (gd:Gd) (g:GF) (s:SF):List AV->Sl->aa->Option Out
 | [],sl,st=>if bN gd st=true then some (.nx sl st) else none
 | x::xs,sl,st=>if bN gd st=true then (g x sl st).bind fun p=>(s p.1 p.2).bind fun o=>match o with
  | .nx sl st=>c5 gd g s xs sl st
  | .ct sl st=>c5 gd g s xs sl st
  | .bk sl st=>some (.nx sl st)
  | .rt v st=>some (.rt v st) else none
def Jt (it:IF) (g:GF) (s:SF):SF:=fun sl st=>(it sl st).bind fun p=>c5 p.1.gd g s p.1.Nu sl p.2
def dA (t:TF) (s:SF):Nat->Sl->aa->Option Out
 | 0,_,_=>none
 | n + 1,sl,st=>(t sl st).bind fun p=>if p.1=true then (s sl p.2).bind fun o=>match o with
  | .nx sl st=>dA t s n sl st
  | .ct sl st=>dA t s n sl st
  | .bk sl st=>some (.nx sl st)
  | .rt v st=>some (.rt v st) else some (.nx sl p.2)
open Classical in
def qk (t:TF) (s:SF):SF:=fun sl st=>if h:∃ n,(dA t s n sl st).isSome=true then dA t s (Classical.choose h) sl st else none
theorem dz:∀ {n m:Nat}{sl:Sl}{st:aa}{o:Out},n <= m->dA t s n sl st=some o->dA t s m sl st=some o:=by
 intro n
 induction n with
 | zero=>intro m sl st o _ h;cases h
 | succ n ih =>
  intro m sl st o hm h;cases m with
  | zero=>omega
  | succ m =>
   simp only [dA] at h ⊢;obtain ⟨p,e1,e2⟩:=zA h;rw [e1,bind_some];split at e2
   ·rename_i hc
    rw [yI hc];obtain ⟨q,e3,e4⟩:=zA e2;rw [e3,bind_some];cases q with
    | nx sl st=>exact ih oM e4
    | ct sl st=>exact ih oM e4
    | bk sl st=>exact e4
    | rt v st=>exact e4
   ·rename_i hc
    rw [yH hc];exact e2
theorem nj {t:TF}{s:SF}{n:Nat}{sl:Sl}{st:aa}{o:Out} (h:dA t s n sl st=some o):qk t s sl st=some o:=by
 have hx:∃ n,(dA t s n sl st).isSome=true:=⟨n,by rw [h];rfl⟩;unfold qk;rw [dif_pos hx];obtain ⟨o',e'⟩:=Option.isSome_iff_exists.mp (Classical.choose_spec hx);have h1:=dz (Nat.le_max_left n (Classical.choose hx)) h;have h2:=dz (Nat.le_max_right n (Classical.choose hx)) e';rw [e',<- h1,h2]
theorem wj {t:TF}{s:SF}{sl:Sl}{st:aa}{o:Out} (h:qk t s sl st=some o):∃ n,dA t s n sl st=some o:=by
 unfold qk at h;split at h
 ·exact ⟨_,h⟩
 ·cases h
section
variable {X:Cx}{tg iter c:Expr}{body:List Stmt}{pos:Pos}{it:IF}{g:GF}{s:SF}{t:TF}
theorem Ed [Nt] (hp:PassesOwn (model X.prog X.w) X.A X.env X.xe) (hc:X.calm=true) (hi:QI X tg iter it) (hg:QG X tg g) (hb:lD X body s) (hs:∀ x,foldedSetIterable iter X.env x=pure x):QS X (.For tg iter body [] pos) (Jt it g s) :=
 PS_imp (vZ hp hc hi hg hb hs) fun D σ H hq0=>by
  obtain ⟨P,φ,sl,st,rs,sm,o,e,q⟩:=hq0;obtain ⟨p,e1,e2⟩:=zA e;refine ⟨P,φ,sl,st,rs,sm,p.1,p.2,e1,fun P1 φ1 H1 J f1 s1 ij=>?_⟩;have q1:=q.frm f1;refine ⟨fun i m σ' H'=>m=p.1.Nu.length - i/\i <= p.1.Nu.length/\∃ P' φ' sl' st',Frm P1 φ1 H1 P' φ' H'/\Sim X.gm P' φ' st' H'/\ND X.gm P' H' φ' sl' σ'/\c5 p.1.gd g s (p.1.Nu.drop i) sl' st'=some o,⟨_,rfl,Nat.zero_le _,P1,φ1,sl,p.2,Frm.refl,s1,rs.frm f1,by simpa using e2⟩,?_⟩;rintro i m σ' H' ⟨rfl,hle,P2,φ2,sl2,st2,f2,s2,rs2,eg⟩;rcases yS i p.1.Nu.length with hlt | hge
  ·right
   rw [List.drop_eq_getElem_cons hlt] at eg;simp only [c5] at eg;split at eg
   ·rename_i hgd
    obtain ⟨go,yl⟩:=ij.go P2 φ2 H' st2 i _ f2 s2 hgd (zF hlt);obtain ⟨q4,e4,e5⟩:=zA eg;obtain ⟨o1,e6,e7⟩:=zA e5;refine ⟨go,fun σ' H'=>∃ P' φ' sl' st',Frm P1 φ1 H1 P' φ' H'/\Sim X.gm P' φ' st' H'/\ND X.gm P' H' φ' sl' σ'/\c5 p.1.gd g s (p.1.Nu.drop (i + 1)) sl' st'=some o,fun σ' H' z=>⟨_,by omega,rfl,hlt,z⟩,fun x H3 hy=>?_⟩;obtain ⟨P3,f3,s3,r3⟩:=yl x H3 hy;refine ⟨P3,φ2,sl2,st2,_,rs2.frm f3,s3,r3,q4.1,q4.2,e4,fun P4 φ4 H4 σ4 f4 s4 rs4=>⟨P4,φ4,q4.1,q4.2,rs4,s4,o1,e6,?_⟩⟩;have fa:=(f2.trans f3).trans f4;cases o1 with
    | nx sl5 st5=>exact fun P5 φ5 H5 σ5 f5 s5 rs5=>⟨P5,φ5,sl5,st5,fa.trans f5,s5,rs5,e7⟩
    | ct sl5 st5=>exact fun P5 φ5 H5 σ5 f5 s5 rs5=>⟨P5,φ5,sl5,st5,fa.trans f5,s5,rs5,e7⟩
    | bk sl5 st5=>cases e7;exact fun P5 φ5 H5 σ5 f5 s5 rs5=>q1 P5 φ5 H5 σ5 (fa.trans f5) s5 rs5
    | rt v st5=>cases e7;exact fun P5 φ5 H5 w f5 s5 r5=>q1 P5 φ5 H5 w (fa.trans f5) s5 r5
   ·cases eg
  ·left
   have ei:i=p.1.Nu.length:=Nat.le_antisymm hle hge;subst ei;rw [List.drop_length] at eg;simp only [c5] at eg;split at eg
   ·rename_i hgd
    cases eg;exact ⟨ij.stop P2 φ2 H' _ f2 s2 hgd,q1 P2 φ2 H' σ' f2 s2 rs2⟩
   ·cases eg
theorem xU [Nt] (hp:PassesOwn (model X.prog X.w) X.A X.env X.xe) (hc:QT X c t) (hb:lD X body s):QS X (.While c body [] pos) (qk t s) :=
 PS_imp (ya hp hc hb) fun D σ H hq0=>by
  obtain ⟨P,φ,sl,st,rs,sm,o,e,q⟩:=hq0;obtain ⟨n0,e0⟩:=wj e;refine ⟨fun m σ' H'=>∃ P' φ' sl' st',Frm P φ H P' φ' H'/\Sim X.gm P' φ' st' H'/\ND X.gm P' H' φ' sl' σ'/\dA t s m sl' st'=some o,⟨n0,P,φ,sl,st,Frm.refl,sm,rs,e0⟩,?_⟩;rintro m σ' H' ⟨P2,φ2,sl2,st2,f2,s2,rs2,eg⟩;cases m with
  | zero=>cases eg
  | succ m =>
   simp only [dA] at eg;obtain ⟨p,e1,e2⟩:=zA eg;refine ⟨P2,φ2,sl2,st2,rs2,s2,p.1,p.2,e1,fun P3 φ3 H3 b f3 s3 r3=>?_⟩;cases r3;cases hb':p.1 with
   | true =>
    rw [hb'] at e2;simp only [if_true] at e2 ⊢;obtain ⟨o1,e6,e7⟩:=zA e2;refine ⟨fun σ' H'=>∃ P' φ' sl' st',Frm P φ H P' φ' H'/\Sim X.gm P' φ' st' H'/\ND X.gm P' H' φ' sl' σ'/\dA t s m sl' st'=some o,fun σ' H' z=>⟨m,Nat.lt_succ_self m,z⟩,P3,φ3,sl2,p.2,rs2.frm f3,s3,o1,e6,?_⟩;have fa:=f2.trans f3;cases o1 with
    | nx sl5 st5=>exact fun P5 φ5 H5 σ5 f5 s5 rs5=>⟨P5,φ5,sl5,st5,fa.trans f5,s5,rs5,e7⟩
    | ct sl5 st5=>exact fun P5 φ5 H5 σ5 f5 s5 rs5=>⟨P5,φ5,sl5,st5,fa.trans f5,s5,rs5,e7⟩
    | bk sl5 st5=>cases e7;exact fun P5 φ5 H5 σ5 f5 s5 rs5=>q P5 φ5 H5 σ5 (fa.trans f5) s5 rs5
    | rt v st5=>cases e7;exact fun P5 φ5 H5 w f5 s5 r5=>q P5 φ5 H5 w (fa.trans f5) s5 r5
   | false =>
    rw [hb'] at e2;simp only [yB,if_false] at e2 ⊢;cases e2;exact q P3 φ3 H3 σ' (f2.trans f3) s3 (rs2.frm f3)
end
abbrev Fn:=List AV->aa->Option (AV × aa)
def dg [Nt] (mg:Gm) (n:Nat) (fn:Fn):Sp:=fun vs H Q _=>vs.length=n/\∃ P φ args st,Nv mg P H φ args vs/\Sim mg P φ st H/\KG mg RA P φ H (fn args st) Q
def bJ:Nat->aa->AV->Option AV
 | n + 1,st,.ref k=>match st[k]? with
  | some (.lst xs)=>(aG (bJ n st) xs).map .fz
  | some (.al t)=>some t
  | _=>none
 | n + 1,st,.tup xs=>(aG (bJ n st) xs).map .tup
 | 0,_,.ref _=>none
 | 0,_,.tup _=>none
 | _,_,t=>some t
def rsl:aa->AV->Option AV:=bJ 6
mutual
noncomputable def cL:AV->Bool
 | .ref _=>false
 | .fz _=>false
 | .tup xs=>n9 xs
 | _=>true
noncomputable def n9:List AV->Bool
 | []=>true
 | x::xs=>cL x && n9 xs
end
def gK (st:aa) (x:AV):Option (AV × aa):=if rf x=true then some (x,st) else match x with
 | .ref k=>match st[k]? with
  | some (.lst xs)=>if rfs xs=true then some (.fz xs,st.set k (.al (.fz xs))) else none
  | some (.al t)=>some (t,st)
  | _=>none
 | _=>none
def iH:aa->List AV->Option (List AV × aa)
 | st,[]=>some ([],st)
 | st,x::xs=>(gK st x).bind fun p=>(iH p.2 xs).map fun q=>(p.1::q.1,q.2)
def pm (fn:Fn):Fn:=fun args st=>if rfs args=true then (fn args []).bind fun p=>(rsl p.2 p.1).map fun t=>(t,st)
 else (aG (rsl st) args).bind fun ts=>(fn ts []).bind fun p=>(rsl p.2 p.1).bind fun t=>if cL t=true then some (t,st) else
  (iH st args).bind fun q=>(fn q.1 []).bind fun p=>(rsl p.2 p.1).map fun t=>(t,q.2)
section
variable {mg:Gm}{P:Pr}{φ:List Addr}{st:aa}{H:Hp}
theorem xQ [Nt] {n:Nat} (ih:∀ v w t,bJ n st v=some t->RA mg P H φ v w->RA mg P' H [] t w):∀ {xs:List AV}{vs:List V}{ts:List AV},aG (bJ n st) xs=some ts->Nv mg P H φ xs vs->Nv mg P' H [] ts vs:=by
 intro xs
 induction xs with
 | nil=>intro vs ts e r;cases e;simp only [Nv] at r ⊢;exact r
 | cons x xs ihx =>
  intro vs ts e r;simp only [aG] at e;obtain ⟨y,e1,e2⟩:=zA e;obtain ⟨ys,e3,e4⟩:=zE.mp e2;subst e4;simp only [Nv] at r;obtain ⟨v,ws,rfl,r1,r2⟩:=r;exact aU (ih x v y e1 r1) (ihx e3 r2)
theorem qr [Nt] (s:Sim mg P φ st H):∀ (n:Nat) (v:AV) (w:V) (t:AV),bJ n st v=some t->RA mg P H φ v w->RA mg (fun a=>P a\/a ∈ φ) H [] t w:=by
 have ex:∀ a,P a->(P a\/a ∈ φ)/\H a=H a:=fun a h=>⟨.inl h,rfl⟩
 have pl:∀ {t:AV}{w:V},R.rf t=true->RA mg P H φ t w->RA mg (fun a=>P a\/a ∈ φ) H [] t w:=fun h r=>(RA.rf (ψ:=[]) h r).mono ex fun _ _ z=>z
 intro n
 induction n with
 | zero =>
  intro v w t e r;cases v <;> simp only [bJ] at e <;> first | (cases e;done) | skip
  all_goals cases e;exact pl rfl r
 | succ n ih =>
  intro v w t e r;cases v with
  | ref k =>
   simp only [bJ] at e;simp only [RA] at r;obtain ⟨a,ea,rfl⟩:=r;split at e
   ·rename_i xs hk
    obtain ⟨ts,e1,e2⟩:=zE.mp e;subst e2;obtain ⟨a',ea',c⟩:=s.at hk;rw [ea] at ea';cases ea';obtain ⟨_,vs,h1,h2⟩:=c;simp only [RA];exact ⟨a,vs,rfl,.inl ⟨.inr (zW ea),.inl h1⟩,xQ ih e1 h2⟩
   ·rename_i t' hk
    cases e;obtain ⟨a',ea',c⟩:=s.at hk;rw [ea] at ea';cases ea';exact c.2.mono ex fun _ _ z=>z
   ·cases e
  | tup xs =>
   simp only [bJ] at e;obtain ⟨ts,e1,e2⟩:=zE.mp e;subst e2;simp only [RA] at r;obtain ⟨a,vs,rfl,p,h1,h2⟩:=r;simp only [RA];exact ⟨a,vs,rfl,.inl p,h1,xQ ih e1 h2⟩
  | _=>simp only [bJ] at e;cases e;exact pl rfl r
mutual
theorem RA.fl [Nt] (h:∀ a vs,P a->H a=some (.tup vs)->P' a):∀ {t:AV}{w:V},cL t=true->RA mg P H φ t w->RA mg P' H ψ t w
 | .non,_,_,r=>by simp only [RA] at r ⊢;exact r
 | .bl _,_,_,r=>by simp only [RA] at r ⊢;exact r
 | .int _,_,_,r=>by simp only [RA] at r ⊢;exact r
 | .str _,_,_,r=>by simp only [RA] at r ⊢;exact r
 | .ref _,_,e,_=>by simp only [cL] at e;cases e
 | .fz _,_,e,_=>by simp only [cL] at e;cases e
 | .tup xs,_,e,r=>by
  simp only [RA,cL] at r e ⊢;obtain ⟨a,vs,rfl,p,h1,h2⟩:=r;exact ⟨a,vs,rfl,h a vs p h1,h1,Nv.fl h e h2⟩
theorem Nv.fl [Nt] (h:∀ a vs,P a->H a=some (.tup vs)->P' a):∀ {ts:List AV}{ws:List V},n9 ts=true->Nv mg P H φ ts ws->Nv mg P' H ψ ts ws
 | [],_,_,r=>by simp only [Nv] at r ⊢;exact r
 | t::ts,_,e,r=>by
  simp only [Nv,n9,zC] at r e ⊢;obtain ⟨v,ws,rfl,r1,r2⟩:=r;exact ⟨v,ws,rfl,RA.fl h e.1 r1,Nv.fl h e.2 r2⟩
end
theorem Gi [Nt] (s:Sim mg P φ st H) (e:gK st x=some (t,st')) (r:RA mg P H φ x v):∃ P',Frm P φ H P' φ H/\Sim mg P' φ st' H/\RA mg P' H [] t v:=by
 unfold gK at e;split at e
 ·rename_i h
  cases e;exact ⟨P,Frm.refl,s,RA.rf h r⟩
 ·cases x with
  | ref k =>
   simp only [RA] at r;obtain ⟨a,ea,rfl⟩:=r;dsimp only at e;split at e
   ·rename_i xs hk
    split at e
    ·rename_i hr
     cases e;obtain ⟨a',ea',c⟩:=s.at hk;rw [ea] at ea';cases ea';obtain ⟨na,vs,h1,h2⟩:=c;have ex:∀ b,P b->(P b\/b=a)/\H b=H b:=fun b h=>⟨.inl h,rfl⟩
     have hm:=zW ea;have rr:RA mg (fun b=>P b\/b=a) H [] (.fz xs) (.ref a):=by
      simp only [RA];exact ⟨a,vs,rfl,.inl ⟨.inr rfl,.inl h1⟩,(Nv.rf hr h2).mono ex fun _ _ z=>z⟩
     have dm:∀ b,(P b\/b=a)->H b ≠ none:=fun b h=>by
      rcases h with h | h
      ·exact s.dom b h
      ·rw [h];exact s.cd a hm
     refine ⟨fun b=>P b\/b=a,⟨ex,⟨[],by simp,by simp⟩,fun _ _ _ _=>rfl,fun b h=>?_,fun _ h=>h,fun _ _ _ h=>h⟩,⟨by rw [List.length_set];exact s.len,s.nd,dm,s.cd,fun j c b e1 e2=>?_,fun t ht=>⟨(s.tb t ht).1,fun z=>z.elim (s.tb t ht).2 fun z=>s.tnc ht (by rw [z];exact hm)⟩⟩,rr⟩
     ·rcases h with h | h
      ·exact .inl h
      ·exact .inr (.inr (by rw [h];exact hm))
     ·by_cases hj:j=k
      ·subst hj
       rw [ea] at e2;cases e2;rw [List.getElem?_set_self (by rw [<- s.len];exact (zB.mp ea).1)] at e1;cases e1;exact ⟨.inr rfl,rr⟩
      ·rw [List.getElem?_set_ne (Ne.symm hj)] at e1
       refine (s.cell j c b e1 e2).mono ex (fun _ _ z=>z) rfl fun n z=>?_
       rcases z with z | z
       ·exact n z
       ·refine hj ?_
        subst z;obtain ⟨h1,e1⟩:=zB.mp e2;obtain ⟨h2,e2⟩:=zB.mp ea;exact (List.getElem_inj s.nd).mp (e1.trans e2.symm)
    ·cases e
   ·rename_i t' hk
    cases e;obtain ⟨a',ea',c⟩:=s.at hk;rw [ea] at ea';cases ea';exact ⟨P,Frm.refl,s,c.2⟩
   ·cases e
  | _=>cases e
theorem Gg [Nt]:∀ {xs ts:List AV}{st st':aa}{P:Pr}{vs:List V},Sim mg P φ st H->iH st xs=some (ts,st')->Nv mg P H φ xs vs->∃ P',Frm P φ H P' φ H/\Sim mg P' φ st' H/\Nv mg P' H [] ts vs:=by
 intro xs
 induction xs with
 | nil=>intro ts st st' P vs s e r;cases e;simp only [Nv] at r;subst r;exact ⟨P,Frm.refl,s,ba⟩
 | cons x xs ih =>
  intro ts st st' P vs s e r;simp only [iH] at e;obtain ⟨p,e1,e2⟩:=zA e;obtain ⟨q,e3,e4⟩:=zE.mp e2;cases e4;simp only [Nv] at r;obtain ⟨v,ws,rfl,r1,r2⟩:=r;obtain ⟨P1,f1,s1,q1⟩:=Gi s e1 r1;obtain ⟨P2,f2,s2,q2⟩:=ih s1 e3 (r2.frm f1);exact ⟨P2,f1.trans f2,s2,aU (q1.mono f2.ext fun _ _ z=>z) q2⟩
theorem Jw [Nt] {fn:Fn}{args:List AV}{vs:List V}{Q:VK} (s:Sim mg P φ st H) (r:Nv mg P H [] args vs) (h:KG mg RA P φ H ((fn args []).bind fun p=>(rsl p.2 p.1).map fun t=>(t,st)) Q):∃ P φ args st,Nv mg P H φ args vs/\Sim mg P φ st H/\KG mg RA P φ H (fn args st) Q:=by
 obtain ⟨t,st',e,k⟩:=h;obtain ⟨p,e1,e2⟩:=zA e;obtain ⟨t',e3,e4⟩:=zE.mp e2;cases e4;refine ⟨P,[],args,[],r,Sim.nil s.dom s.tb,p.1,p.2,e1,fun P1 φ1 H1 w f1 s1 r1=>?_⟩;obtain ⟨m,em,nm⟩:=f1.new;have kp:∀ a,H a ≠ none->(∀ ps,H a ≠ some (.tbl ps))->H1 a=H a:=fun a h=>f1.keep a h (by simp)
 have kc:=s.ckeep (fun a h=>(f1.ext a h).2) kp;have nn:∀ a,(P1 a\/a ∈ φ1)->P a\/H a=none:=fun a h=>by
  rcases h with h | h
  ·rcases f1.pn a h with z | z | z
   ·exact .inl z
   ·exact .inr z
   ·cases z
  ·rw [em] at h;exact .inr (nm a h)
 refine k (fun a=>P1 a\/a ∈ φ1) φ H1 w ⟨fun a h=>⟨.inl (f1.ext a h).1,(f1.ext a h).2⟩,⟨[],by simp,by simp⟩,fun a h _ z=>kp a h z,fun a h=>?_,f1.sm,f1.fz⟩ (s.stay (fun a h=>⟨.inl (f1.ext a h).1,(f1.ext a h).2⟩) kc (fun a h n z=>?_) (fun a h=>?_) fun t ht=>⟨(s1.tb t ht).1,fun z=>z.elim (s1.tb t ht).2 (s1.tnc ht)⟩) (RA.lift (qr s1 6 _ _ _ e3 r1))
 ·rcases nn a h with z | z
  ·exact .inl z
  ·exact .inr (.inl z)
 ·rcases nn a z with z | z
  ·exact n z
  ·exact s.cd a h z
 ·rcases h with h | h
  ·exact s1.dom a h
  ·exact s1.cd a h
theorem Hs [Nt] {n:Nat} (h:dg mg n (pm fn) vs H Q E):dg mg n fn vs H Q E:=by
 obtain ⟨hl,P,φ,args,st,r,s,k⟩:=h;refine ⟨hl,?_⟩;unfold pm at k;split at k
 ·rename_i hr
  exact Jw s (Nv.rf hr r) k
 ·obtain ⟨t,st',e,k⟩:=k
  obtain ⟨ts,e1,e2⟩:=zA e;obtain ⟨p,e3,e4⟩:=zA e2;obtain ⟨t',e5,e6⟩:=zA e4;split at e6
  ·rename_i hf
   cases e6;have dm:∀ a,(P a\/a ∈ φ)->H a ≠ none:=fun a h=>by
    rcases h with h | h
    ·exact s.dom a h
    ·exact s.cd a h
   refine ⟨fun a=>P a\/a ∈ φ,[],ts,[],xQ (fun v w t e r=>qr s 6 v w t e r) e1 r,Sim.nil dm (fun t ht=>⟨(s.tb t ht).1,fun z=>z.elim (s.tb t ht).2 (s.tnc ht)⟩),p.1,p.2,e3,fun P1 φ1 H1 w f1 s1 r1=>?_⟩;obtain ⟨m,em,nm⟩:=f1.new;have kp:∀ a,H a ≠ none->(∀ ps,H a ≠ some (.tbl ps))->H1 a=H a:=fun a h=>f1.keep a h (by simp)
   have kc:=s.ckeep (fun a h=>(f1.ext a (.inl h)).2) kp;have ext:∀ a,P a->((P1 a\/a ∈ φ1)/\(a ∈ φ->P a))/\H1 a=H a:=fun a h=>⟨⟨.inl (f1.ext a (.inl h)).1,fun _=>h⟩,(f1.ext a (.inl h)).2⟩
   refine k (fun a=>(P1 a\/a ∈ φ1)/\(a ∈ φ->P a)) φ H1 w ⟨ext,⟨[],by simp,by simp⟩,fun a h _ z=>kp a h z,fun a h=>?_,f1.sm,f1.fz⟩ (s.stay ext kc (fun a h n z=>n (z.2 h)) (fun a h=>?_) fun t ht=>⟨(s1.tb t ht).1,fun z=>z.1.elim (s1.tb t ht).2 (s1.tnc ht)⟩) (RA.fl (fun a us hP hT=>⟨hP,fun hm=>?_⟩) hf (qr s1 6 _ _ _ e5 r1))
   ·rcases h.1 with z | z
    ·rcases f1.pn a z with z | z | z
     ·rcases z with z | z
      ·exact .inl z
      ·exact .inr (.inr z)
     ·exact .inr (.inl z)
     ·cases z
    ·rw [em] at z;exact .inr (.inl (nm a z))
   ·rcases h.1 with h | h
    ·exact s1.dom a h
    ·exact s1.cd a h
   ·obtain ⟨j,hj⟩:=z9 hm
    obtain ⟨c,hc⟩:∃ c,st[j]?=some c:=⟨_,zF (by rw [<- s.len];exact (zB.mp hj).1)⟩;have cr:=s.cell j c a hc hj;have hT':H a=some (.tup us):=by rw [<- kc a hm];exact hT
    cases c with
    | lst xs=>obtain ⟨_,_,z,_⟩:=cr;rw [hT'] at z;cases z
    | al t=>exact cr.1
    | dK Nr=>obtain ⟨_,_,z,_⟩:=cr;rw [hT'] at z;cases z
    | dT Nr=>obtain ⟨_,_,z,_⟩:=cr;rw [hT'] at z;cases z
    | ins c fs=>obtain ⟨_,_,_,_,_,z,_⟩:=cr;rw [hT'] at z;cases z
    | wk Nr=>obtain ⟨_,_,_,z,_⟩:=cr;rw [hT'] at z;cases z
  ·obtain ⟨q,e7,e8⟩:=zA e6
   obtain ⟨P1,f1,s1,r1⟩:=Gg s e7 r;exact Jw s1 r1 ⟨t,st',e8,fun P2 φ2 H2 w f2 s2 r2=>k P2 φ2 H2 w (f1.trans f2) s2 r2⟩
end
theorem FnOk.pm [Nt] {P:Program}{w:World}{K:Frag}{mg:Str->Option Value}{base:Heap}{k:Nat}{f:Addr}{fd:FuncData}{ps:List Str}{n:Nat}{fn:Fn} (F:FnOk P w K mg base eB k f fd ps (dg ⟨K,mg⟩ n fn)):FnOk P w K mg base eB k f fd ps (dg ⟨K,mg⟩ n (R.pm fn)) :=
 F.imp fun _ _ _ _ h=>Hs h
def run (n:Nat) (b:SF):Fn:=fun args st=>(b (args.map some++List.replicate (n - args.length) none) st).bind fun o=>match o with
 | .rt v st=>some (v,st)
 | .nx _ st=>some (.non,st)
 | _=>none
theorem BW [Nt] (h:Nv mg P H φ args vs):ND mg P H φ (args.map some++List.replicate (N.length - args.length) none) (L2.start N vs):=by
 have hl:=h.length;unfold L2.start;refine ⟨by simp [hl],fun i v e=>?_⟩;have hi:i < args.length:=by
  rcases yS i args.length with z | z
  ·exact z
  ·rw [z6 (by simpa using z),List.getElem?_replicate] at e
   split at e <;> cases e
 rw [zN (by simpa using hi),zR] at e;rw [zN (by rw [zH,<- hl];exact hi),zR];cases ha:args[i]? with
 | none=>rw [ha] at e;cases e
 | some x =>
  rw [ha] at e;cases e;obtain ⟨w,e1,r1⟩:=h.get ha;exact ⟨w,by rw [e1];rfl,r1⟩
def xm (fn:Fn) (g:AF):EF:=fun sl st=>(g sl st).bind fun p=>fn p.1 p.2
section
variable {X:Cx}{x:Str}{p pos:Pos}{e o:Expr}{es:List Expr}{k:Nat}{f:Addr}{fd:FuncData}{ps:List Str}{fn:Fn}{g:AF}{h:EF}
theorem La [Nt] {n:Nat} (hn:∀ sl st xs st',g sl st=some (xs,st')->xs.length=n) (q:rE mg (xm fn g) σ H Q):uh (dg mg n fn) [] E (rA mg g) σ H Q:=by
 obtain ⟨P,φ,sl,st,rs,s,kk⟩:=q;refine ⟨P,φ,sl,st,rs,s,?_⟩;obtain ⟨a,st',e1,q⟩:=kk.bind (Ra:=Nv);refine ⟨a,st',e1,fun P1 φ1 H1 b f1 s1 r1=>?_⟩;obtain ⟨P2,φ2,st2,xs,f2,s2,r2,k2⟩:=q P1 φ1 H1 b f1 s1 r1;rw [List.append_nil];exact ⟨by rw [<- r1.length];exact hn _ _ _ _ e1,P2,φ2,xs,st2,r2,s2,k2⟩
theorem Ch [Nt] (F:FnOk X.prog X.w X.K X.mg X.base eB k f fd ps (dg X.gm ps.length fn)) (hr:Room k X.A) (hg:Gl X x) (hm:X.mg x=some (.ref f)) (hk:keepIn X.K (.ref f)=true) (hb:Binds X.K fd ps [])
  (ha:QA X (e::es) g) (hn:∀ sl st xs st',g sl st=some (xs,st')->xs.length=ps.length) (hdb:(x == ("__debug__":Str))=false) (he:starEach (e::es) X.env=(false,eval e X.env)::starEach es X.env) (hpl:(backTo pos (starEach es X.env)).any (·.1)=false) :
  QE X (.Call (.Name x p) (e::es) [] pos) (xm fn g):=PE_imp (CF (E:=E0) F hr hg hm hk hb .nil nD ha hdb he hpl) fun _ _ _ q=>La hn q
theorem xX [Nt] (F:FnOk X.prog X.w X.K X.mg X.base eB k f fd ps (dg X.gm ps.length fn)) (hr:Room k X.A) (hg:Gl X x) (hm:X.mg x=some (.ref f)) (hk:keepIn X.K (.ref f)=true) (hb:Binds X.K fd ps [])
  (hn:ps.length=0) (hdb:(x == ("__debug__":Str))=false):QE X (.Call (.Name x p) [] [] pos) (xm fn dF):=PE_imp (yo (E:=E0) F hr hg hm hk hb .nil nD hdb) fun σ H Q q=>by
 obtain ⟨P,φ,sl,st,rs,s,kk⟩:=q;exact ⟨by simp [hn],P,φ,[],st,ba,s,kk⟩
def iX (st:aa) (c:Str):AV->Option (List (Str × AV))
 | .ref k=>match st[k]? with
  | some (.ins c' fs)=>if c'=c then some fs else none
  | _=>none
 | _=>none
theorem nN (h:KVR mg P H φ fs ws) (f:Str):(fs.lookup f=none->ws.lookup f=none)/\∀ v,fs.lookup f=some v->∃ w,ws.lookup f=some w/\RA mg P H φ v w:=by
 induction fs generalizing ws with
 | nil =>
  have:ws=[]:=by simpa using h.1.symm
  subst this;exact ⟨fun _=>rfl,fun v e=>by cases e⟩
 | cons p fs ih =>
  cases ws with
  | nil=>exact absurd h.1 (by simp)
  | cons q ws =>
   obtain ⟨h1,h2⟩:=h;rw [zO,zO] at h1 h2;injection h1 with h3 h4;simp only [Nv] at h2;obtain ⟨v,vs,h5,h6,h7⟩:=h2;injection h5 with h8 h9;subst h8;subst h9;obtain ⟨a,b⟩:=p;obtain ⟨c,d⟩:=q;dsimp only at h3 h6;subst h3;rw [yO,yO];cases hb:f == a with
   | true=>exact ⟨fun z=>(by cases z),fun v z=>(by cases z;exact ⟨d,rfl,h6⟩)⟩
   | false=>exact ih ⟨h4,h7⟩
theorem mS [Nt] {mg:Gm}{P:Pr}{φ:List Addr}{st:aa}{H:Hp}{c:Str}{v:AV}{w:V}{fs:List (Str × AV)} (s:Sim mg P φ st H) (h:iX st c v=some fs) (r:RA mg P H φ v w) :
  ∃ k a C dx ws,v=.ref k/\φ[k]?=some a/\¬ P a/\w=.ref a/\mg.mg c=some (.ref C)/\H a=some (.ins C dx ws)/\KVR mg P H φ fs ws:=by
 cases v with
 | ref k =>
  simp only [iX] at h;split at h
  ·rename_i c' fs' hk
   split at h
   ·rename_i hc
    cases h;subst hc;simp only [RA] at r;obtain ⟨a,ea,rfl⟩:=r;obtain ⟨a',ea',cr⟩:=s.at hk;rw [ea] at ea';cases ea';obtain ⟨na,C,dx,ws,h1,h2,h3⟩:=cr;exact ⟨k,a,C,dx,ws,rfl,ea,na,rfl,h1,h2,h3⟩
   ·cases h
  ·cases h
 | _=>cases h
def xk (c m:Str) (fn:Fn) (h:EF) (g:AF):EF:=fun sl st=>(h sl st).bind fun p=>(iX p.2 c p.1).bind fun fs=>if (fs.lookup m).isNone=true then (g sl p.2).bind fun q=>fn (p.1::q.1) q.2 else none
theorem FF [Nt] {n:Nat} (hC:mg.mg c=some (.ref C)) (hn:∀ sl st xs st',g sl st=some (xs,st')->xs.length + 1=n) (q:rE mg (xk c m fn h g) σ H Q):ug C m (dg mg n fn) [] E (rE mg h) (rA mg g) σ H Q:=by
 obtain ⟨P,φ,sl,st,rs,s,v,st',e,k⟩:=q;obtain ⟨p,e1,e2⟩:=zA e;obtain ⟨fs,e3,e4⟩:=zA e2;split at e4
 ·rename_i hm
  obtain ⟨q,e5,e6⟩:=zA e4;refine ⟨P,φ,sl,st,rs,s,p.1,p.2,e1,fun P1 φ1 H1 w f1 s1 r1=>?_⟩;obtain ⟨j,a,C',dx,ws,h1,h2,h3,rfl,h5,h6,h7⟩:=mS s1 e3 r1;rw [hC] at h5;cases h5;refine ⟨a,dx,ws,rfl,h6,(nN h7 m).1 (by simpa using hm),P1,φ1,sl,p.2,rs.frm f1,s1,q.1,q.2,e5,fun P2 φ2 H2 vs f2 s2 r2=>?_⟩;show dg mg n fn (V.ref a::(vs++[])) H2 Q E;rw [List.append_nil];exact ⟨by rw [yV,<- r2.length];exact hn _ _ _ _ e5,P2,φ2,p.1::q.1,q.2,aU (r1.frm f2) r2,s2,v,st',e6,fun P3 φ3 H3 w3 f3 s3 r3=>k P3 φ3 H3 w3 ((f1.trans f2).trans f3) s3 r3⟩
 ·cases e4
theorem Cf [Nt] (ho:QE X o h) (cl:Cls X.K C) (hC:X.mg c=some (.ref C)) (hm:jR X.K C m f) (F:FnOk X.prog X.w X.K X.mg X.base eB k f fd ps (dg X.gm ps.length fn)) (hr:Room k X.A) (hb:Binds X.K fd ps [])
  (ha:QA X (e::es) g) (hn:∀ sl st xs st',g sl st=some (xs,st')->xs.length + 1=ps.length) (hst:starEach (e::es) X.env=(false,eval e X.env)::starEach es X.env) (hpl:(backTo pos (starEach es X.env)).any (·.1)=false)
  (ht:eval (.Call (.Attribute o m apos) (e::es) [] pos) X.env=(do
   let ov <- eval o X.env
   standAt apos.atName
   let (f,first) <- holding [ov] (getMethod ov m pl)
   callWith pos f first (backTo pos (starEach (e::es) X.env)) (backToKw pos (keywordEach [] X.env)))):QE X (.Call (.Attribute o m apos) (e::es) [] pos) (xk c m fn h g) :=
 PE_imp (CA (E:=E0) ho cl hm F hr hb .nil nD ha hst hpl ht) fun _ _ _ q=>FF hC hn q
theorem xW [Nt] (ho:QE X o h) (cl:Cls X.K C) (hC:X.mg c=some (.ref C)) (hm:jR X.K C m f) (F:FnOk X.prog X.w X.K X.mg X.base eB k f fd ps (dg X.gm ps.length fn)) (hr:Room k X.A) (hb:Binds X.K fd ps [])
  (hn:ps.length=1)
  (ht:eval (.Call (.Attribute o m apos) [] [] pos) X.env=(do
   let ov <- eval o X.env
   standAt apos.atName
   let (f,first) <- holding [ov] (getMethod ov m pl)
   callWith pos f first (backTo pos (starEach [] X.env)) (backToKw pos (keywordEach [] X.env)))):QE X (.Call (.Attribute o m apos) [] [] pos) (xk c m fn h dF) :=
 PE_imp (yh (E:=E0) ho cl hm F hr hb .nil nD ht) fun σ H Q q=>by
  obtain ⟨P,φ,sl,st,rs,s,v,st',e,k⟩:=FF (E:=E0) (C:=C) hC (g:=dF) (n:=1) (fun sl st xs st' e=>by cases e;rfl) q;refine ⟨P,φ,sl,st,rs,s,v,st',e,fun P1 φ1 H1 w f1 s1 r1=>?_⟩;obtain ⟨a,dx,fs,h1,h2,h3,h4⟩:=k P1 φ1 H1 w f1 s1 r1;refine ⟨a,dx,fs,h1,h2,h3,?_⟩;obtain ⟨P2,φ2,sl2,st2,rs2,s2,xs,st3,e3,k3⟩:=h4;cases e3
  have:=k3 P2 φ2 H1 [] Frm.refl s2 ba
  rw [hn];exact this
def xj (c:Str) (fn:Fn) (g:AF):EF:=fun sl st=>(g sl st).bind fun p=>(fn (.ref p.2.length::p.1) (p.2++[.ins c []])).bind fun q=>match q.1 with
 | .non=>some (.ref p.2.length,q.2)
 | _=>none
theorem CO [Nt] {mg:Gm}{P:Pr}{φ:List Addr}{st:aa}{H:Hp}{c:Str}{C x dx:Addr} (s:Sim mg P φ st H) (hC:mg.mg c=some (.ref C)) (hx:H x=none) (hd:H dx=none) (ne:dx ≠ x) :
  Frm P φ H P (φ++[x]) (af (af H dx (.own x)) x (.ins C dx []))/\Sim mg P (φ++[x]) (st++[.ins c []]) (af (af H dx (.own x)) x (.ins C dx [])):=by
 have nd:∀ a,H a ≠ none->a ≠ dx:=fun a h e=>h (by rw [e];exact hd)
 have f1:Frm P φ H P φ (af H dx (.own x)):=⟨fun a h=>⟨h,ae (nd a (s.dom a h))⟩,⟨[],by simp,by simp⟩,fun a h _ _=>ae (nd a h),fun a h=>.inl h,fun a h=>by rw [ae (nd a h)];exact h,fun a o u h=>by rw [ae (a0 h hd)];exact h⟩;have s1:Sim mg P φ st (af H dx (.own x)):=s.stay f1.ext (fun a h=>ae (nd a (s.cd a h))) (fun _ _ h=>h) (fun a h=>f1.sm a (s.dom a h)) fun t ht=>⟨(s.tb t ht).1.new hd,(s.tb t ht).2⟩
 have hx1:af H dx (.own x) x=none:=by rw [ae (Ne.symm ne)];exact hx
 obtain ⟨f2,s2⟩:=mL (c:=.ins c []) (o:=.ins C dx []) s1 hx1 ⟨fun z=>s1.dom x z hx1,C,dx,[],hC,aw,rfl,ba⟩;exact ⟨f1.trans f2,s2⟩
theorem KD [Nt] {mg:Gm}{c:Str}{C:Addr}{n:Nat}{E:XK}{σ:St}{H:Hp}{Q:VK} (hC:mg.mg c=some (.ref C)) (hn:∀ sl st xs st',g sl st=some (xs,st')->xs.length + 1=n) (q:rE mg (xj c fn g) σ H Q):AD C (dg mg n fn) [] E (rA mg g) σ H Q:=by
 obtain ⟨P,φ,sl,st,rs,s,v,st',e,k⟩:=q;obtain ⟨p,e1,e2⟩:=zA e;obtain ⟨q,e3,e4⟩:=zA e2;refine ⟨P,φ,sl,st,rs,s,p.1,p.2,e1,fun P1 φ1 H1 vs f1 s1 r1=>fun x dx hx hd ne=>?_⟩;obtain ⟨f2,s2⟩:=CO s1 hC hx hd ne;have rx:RA mg P1 (af (af H1 dx (.own x)) x (.ins C dx [])) (φ1++[x]) (.ref p.2.length) (.ref x):=by simp only [RA];exact ⟨x,by rw [<- s1.len];simp,rfl⟩
 rw [List.append_nil];refine ⟨by rw [yV,<- r1.length];exact hn _ _ _ _ e1,P1,φ1++[x],_,_,aU rx (r1.frm f2),s2,q.1,q.2,e3,fun P3 φ3 H3 w f3 s3 r3=>?_⟩;cases hq:q.1 with
 | non =>
  rw [hq] at e4 r3;cases e4;simp only [RA] at r3;exact ⟨r3,k P3 φ3 H3 (.ref x) ((f1.trans f2).trans f3) s3 (rx.frm f3)⟩
 | _=>rw [hq] at e4;cases e4
theorem Ew [Nt] (M:Mk X.K C f) (F:FnOk X.prog X.w X.K X.mg X.base eB k f fd ps (dg X.gm ps.length fn)) (hr:Room (k + 1) X.A) (hg:Gl X c) (hm:X.mg c=some (.ref C)) (hb:Binds X.K fd ps [])
  (ha:QA X (e::es) g) (hn:∀ sl st xs st',g sl st=some (xs,st')->xs.length + 1=ps.length) (hdb:(c == ("__debug__":Str))=false) (he:starEach (e::es) X.env=(false,eval e X.env)::starEach es X.env) (hpl:(backTo pos (starEach es X.env)).any (·.1)=false) :
  QE X (.Call (.Name c p) (e::es) [] pos) (xj c fn g):=PE_imp (CB (E:=E0) M F hr hg hm hb .nil nD ha hdb he hpl) fun _ _ _ q=>KD hm hn q
def JU (c fl:Str) (h:EF):EF:=fun sl st=>(h sl st).bind fun p=>(iX p.2 c p.1).bind fun fs=>(fs.lookup fl).map fun v=>(v,p.2)
theorem Ey [Nt] (ho:QE X o h) (cl:Cls X.K C) (hC:X.mg c=some (.ref C)) (na:NoAttr X.K C fl) (hb:attributeBase o fl X.env (eval o X.env)=eval o X.env):QE X (.Attribute o fl apos) (JU c fl h) :=
 PE_imp (EW ho hb) fun σ H Q hq0=>by
  obtain ⟨P,φ,sl,st,rs,s,v,st',e,k⟩:=hq0;obtain ⟨p,e1,e2⟩:=zA e;obtain ⟨fs,e3,e4⟩:=zA e2;obtain ⟨t,e5,e6⟩:=zE.mp e4;cases e6;refine ⟨P,φ,sl,st,rs,s,p.1,p.2,e1,fun P1 φ1 H1 w f1 s1 r1=>?_⟩;obtain ⟨j,a,C',dx,ws,h1,h2,h3,rfl,h5,h6,h7⟩:=mS s1 e3 r1;have:C'=C:=by rw [show X.gm.mg c=X.mg c from rfl,hC] at h5;cases h5;rfl
  subst this;obtain ⟨w,hw,rw'⟩:=(nN h7 fl).2 _ e5;exact ⟨a,C',dx,ws,w,rfl,h6,cl,na,hw,k P1 φ1 H1 w f1 s1 rw'⟩
noncomputable def iC (f:Str) (v:AV):List (Str × AV)->List (Str × AV)
 | []=>[(f,v)]
 | (g,x)::r=>if g=f then (g,v)::r else (g,x)::iC f v r
theorem vW {mg:Gm}{P:Pr}{H:Hp}{φ:List Addr}{f:Str}{v:AV}{w:V} (r:RA mg P H φ v w):∀ {fs:List (Str × AV)}{ws:List (Str × V)},KVR mg P H φ fs ws->KVR mg P H φ (iC f v fs) (dB f w ws):=by
 intro fs
 induction fs with
 | nil =>
  intro ws h;have:ws=[]:=by simpa using h.1.symm
  subst this;exact ⟨rfl,aU r ba⟩
 | cons p fs ih =>
  intro ws h;cases ws with
  | nil=>exact absurd h.1 (by simp)
  | cons q ws =>
   obtain ⟨h1,h2⟩:=h;rw [zO,zO] at h1 h2;injection h1 with h3 h4;simp only [Nv] at h2;obtain ⟨u,us,h5,h6,h7⟩:=h2;injection h5 with h8 h9;subst h8;subst h9;obtain ⟨a,b⟩:=p;obtain ⟨c,d⟩:=q;dsimp only at h3 h6;subst h3;have i:=ih (ws:=ws) ⟨h4,h7⟩;unfold iC dB;by_cases e:a=f
   ·rw [yI e,yI e]
    exact ⟨by rw [zO,zO,h4],aU r h7⟩
   ·rw [yH e,yH e]
    exact ⟨by rw [zO,zO,i.1],aU h6 i.2⟩
def vO (c fl:Str) (h f:EF):SF:=fun sl st=>(f sl st).bind fun p=>(h sl p.2).bind fun q=>match q.1 with
 | .ref k=>(iX q.2 c (.ref k)).bind fun fs=>if Nat.ble fs.length 900=true then some (.nx sl (q.2.set k (.ins c (iC fl p.1 fs)))) else none
 | _=>none
theorem Ee [Nt] (ho:QE X o h) (hv:QE X e f') (cl:Cls X.K C) (hC:X.mg c=some (.ref C)) (na:NoAttr X.K C fl) (hs:swapsWith e (some (.Attribute o fl pos')) pos.line X.env=pure false):QS X (.Assign [.Attribute o fl pos'] e pos) (vO c fl h f') :=
 PS_imp (EH ho hv hs) fun D σ H hq0=>by
  obtain ⟨P,φ,sl,st,rs,s,out,eo,q⟩:=hq0;obtain ⟨p,e1,e2⟩:=zA eo;obtain ⟨r,e3,e4⟩:=zA e2;split at e4
  ·rename_i j hj
   obtain ⟨fs,e5,e6⟩:=zA e4;split at e6
   ·rename_i hl
    cases e6;refine ⟨P,φ,sl,st,rs,s,p.1,p.2,e1,fun P1 φ1 H1 w1 f1 s1 r1=>⟨P1,φ1,sl,p.2,rs.frm f1,s1,r.1,r.2,e3,fun P2 φ2 H2 w2 f2 s2 r2=>?_⟩⟩;rw [hj] at r2;obtain ⟨j',a,C',dx,ws,h1,h2,h3,rfl,h5,h6,h7⟩:=mS s2 e5 r2;cases h1;have:C'=C:=by rw [show X.gm.mg c=X.mg c from rfl,hC] at h5;cases h5;rfl
    subst this;have ln:ws.length < 1000:=by
     have z:=congrArg List.length h7.1;rw [zH,zH] at z
     have:=zS hl
     omega
    obtain ⟨f3,s3⟩:=g8 (c:=.ins c (iC fl p.1 fs)) (o:=.ins C' dx (dB fl w1 ws)) s2 h2 h3 ⟨h3,C',dx,_,hC,aw,(vW (r1.frm f2) h7).mono (fun b h=>⟨h,ae fun e=>h3 (e ▸ h)⟩) fun _ _ z=>z⟩ (fun _ _ z=>by rw [h6] at z;cases z);exact ⟨a,C',dx,ws,rfl,h6,cl,na,ln,q P2 φ2 _ σ ((f1.trans f2).trans f3) s3 (((rs.frm f1).frm f2).frm f3)⟩
   ·cases e6
  ·cases e4
end
end R
namespace R
open PySem PySem.Spec PyProof.Rows L2
open DD (PE_imp PT_imp PA_imp PS_imp PSs_imp OpR_imp PW_imp PG_imp pyOk obj_list obj_tup minL minL_eq cnt_vals)
abbrev BF:=List AV->aa->Option (AV × aa)
def rB [Nt] (mg:Gm) (k:BF):List V->Hp->VK->Prop:=fun vs H Q=>∃ P φ st xs,Sim mg P φ st H/\Nv mg P H φ xs vs/\KG mg RA P φ H (k xs st) Q
def rZ (k:BF) (g:AF):EF:=fun sl st=>(g sl st).bind fun p=>k p.1 p.2
theorem Al [Nt] (q:rE mg (rZ k g) σ H Q):DH (rB mg k) (rA mg g) σ H Q:=by
 obtain ⟨P,φ,sl,st,rs,s,kk⟩:=q;refine ⟨P,φ,sl,st,rs,s,?_⟩;obtain ⟨a,st',e1,q⟩:=kk.bind (Ra:=Nv);refine ⟨a,st',e1,fun P1 φ1 H1 b f1 s1 r1=>?_⟩;obtain ⟨P2,φ2,st2,xs,f2,s2,r2,k2⟩:=q P1 φ1 H1 b f1 s1 r1;exact ⟨P2,φ2,st2,xs,s2,r2,k2⟩
def bQ (h:aa->List AV->Option AV):BF:=fun xs st=>(h st xs).map fun z=>(z,st)
section
variable {X:Cx}{x:Str}{p pos:Pos}{e o a:Expr}{es:List Expr}{g:AF}{k:BF}{bid T:String}
theorem jF [Nt] (hc:cg X (.builtin bid) (rB X.gm k)) (hg:Gl X x) (hm:X.mg x=none) (hv:bootBuiltins x=some (.builtin bid)) (ha:QA X (e::es) g) (hn:x ≠ "__name__") (hdb:(x == ("__debug__":Str))=false)
  (he:starEach (e::es) X.env=(false,eval e X.env)::starEach es X.env) (hpl:(backTo pos (starEach es X.env)).any (·.1)=false):QE X (.Call (.Name x p) (e::es) [] pos) (rZ k g) :=
 PE_imp (yn hc hg hm hv ha hn hdb he hpl) fun _ _ _ q=>Al q
theorem Hk [Nt] (hc:cg X (.type T) (rB X.gm k)) (hg:Gl X x) (hm:X.mg x=none) (hv:bootBuiltins x=some (.type T)) (ha:QA X (e::es) g) (hn:x ≠ "__name__") (hdb:(x == ("__debug__":Str))=false)
  (he:starEach (e::es) X.env=(false,eval e X.env)::starEach es X.env) (hpl:(backTo pos (starEach es X.env)).any (·.1)=false):QE X (.Call (.Name x p) (e::es) [] pos) (rZ k g) :=
 PE_imp (pf hc hg hm hv ha hn hdb he hpl) fun _ _ _ q=>Al q
theorem Nv.one {mg:Gm}{P:Pr}{H:Hp}{φ:List Addr}{x:AV}{vs:List V} (h:Nv mg P H φ [x] vs):∃ v,vs=[v]/\RA mg P H φ x v:=by
 simp only [Nv] at h;obtain ⟨v,ws,rfl,r,rfl⟩:=h;exact ⟨v,rfl,r⟩
theorem Nv.two {mg:Gm}{P:Pr}{H:Hp}{φ:List Addr}{x y:AV}{vs:List V} (h:Nv mg P H φ [x,y] vs):∃ v w,vs=[v,w]/\RA mg P H φ x v/\RA mg P H φ y w:=by
 simp only [Nv] at h;obtain ⟨v,ws,rfl,r,w,us,rfl,r',rfl⟩:=h;exact ⟨v,w,rfl,r,r'⟩
theorem vw (h:cg X f r) (i:∀ xs H Q,r' xs H Q->r xs H Q):cg X f r':=fun Np s σ H xs us Q I rv h'=>h Np s σ H xs us Q I rv (i xs H Q h')
def eE (st:aa):List AV->Option AV
 | [v]=>match bq st v with
  | some xs=>some (.int xs.length)
  | none=>match iB st v with
   | some xs=>some (.int xs.length)
   | none=>match v with
    | .str x=>if cM x.length=true then some (.int x.length) else none
    | v=>match gU st v with
     | some Nr=>some (.int Nr.length)
     | none=>(kn st v).map fun Nr=>.int Nr.length
 | _=>none
theorem vf:cg X (.builtin "len") (fun xs H Q=>∃ a Nr,xs=[V.ref a]/\H a=some (.dK Nr)/\Q (.int Nr.length) H):=by
 intro Np s σ H xs us Q I r h;obtain ⟨a,Nr,rfl,ha,q⟩:=h;obtain ⟨u,rfl,ru⟩:=dQ r;cases ru;obtain ⟨z,hd,vs,rel,dd⟩:=Bm I.Ny ha;have hl:Nr.length=vs.length:=Paired.length rel;have hz:sizeLine=16777216:=sizeLine_eq;exact call_len_dict hd dd oM ⟨.int _,H,I.tok _,⟨_,by rw [hl]⟩,q⟩
theorem IE [Nt]:cg X (.builtin "len") (rB X.gm (bQ eE)):=by
 rintro Np s σ H vs us Q I rv ⟨P,φ,st,xs,sm,r,k0⟩;obtain ⟨z,e,k⟩:=k0.map;clear k0;unfold eE at e;split at e
 ·rename_i v
  obtain ⟨w,ew,r9⟩:=r.one;clear r;subst ew;have r:=r9;clear r9;have aH:∀ n:Nat,z=.int n->Q (.int n) H:=fun n h=>by subst h;exact k.pure sm (by simp only [RA])
  split at e
  ·rename_i ys e1
   cases e;obtain ⟨a,vs,rfl,d1,q1⟩:=r.ls sm e1;exact lx Np s σ H _ us Q I rv ⟨a,vs,rfl,.inl d1,by rw [<- q1.length];exact aH _ rfl⟩
  ·split at e
   ·rename_i ys e1
    cases e;obtain ⟨a,vs,rfl,d1,q1⟩:=r.tp sm e1;exact lx Np s σ H _ us Q I rv ⟨a,vs,rfl,.inr (.inl (.inl d1)),by rw [<- q1.length];exact aH _ rfl⟩
   ·cases v with
    | str x =>
     dsimp only at e;split at e
     ·rename_i hz
      cases e;simp only [RA] at r;subst r;exact rK Np s σ H _ us Q I rv ⟨x,rfl,jh hz,aH _ rfl⟩
     ·cases e
    | ref j =>
     simp only [RA] at r;obtain ⟨a,ea,rfl⟩:=r;dsimp only [gU,kn] at e;cases hj:st[j]? with
     | none=>rw [hj] at e;cases e
     | some c =>
      rw [hj] at e;obtain ⟨a',ea',c'⟩:=sm.at hj;rw [ea] at ea';cases ea';cases c with
      | dK Nr =>
       cases e;obtain ⟨_,ws,q1,q2⟩:=c'
       have:=congrArg List.length q2.1
       rw [zH,zH] at this;exact vf Np s σ H _ us Q I rv ⟨a,ws,rfl,q1,by rw [<- this];exact aH _ rfl⟩
      | dT Nr =>
       cases e;obtain ⟨_,ws,q1,q2⟩:=c'
       have:=congrArg List.length q2.1
       rw [zH,zH] at this;exact xb Np s σ H _ us Q I rv ⟨a,ws,rfl,q1,by rw [<- this];exact aH _ rfl⟩
      | _=>cases e
    | _=>cases e
 ·cases e
def nV:List AV->Option (List Int):=aG fun x=>match x with
 | .int i=>some i
 | _=>none
theorem wL (h:nV xs=some ns):xs=ns.map .int:=by
 unfold nV at h
 induction xs generalizing ns with
 | nil=>cases h;rfl
 | cons x xs ih =>
  simp only [aG] at h;obtain ⟨y,e1,e2⟩:=zA h;obtain ⟨ys,e3,e4⟩:=zE.mp e2;subst e4;cases x <;> first | (cases e1;done) | skip
  cases e1;rw [ih e3];rfl
def lsI (st:aa) (v:AV):Option (List Int):=(bq st v).bind nV
theorem RA.lsI [Nt] {mg:Gm}{P:Pr}{H:Hp}{φ:List Addr}{st:aa}{v:AV}{w:V}{ns:List Int} (s:Sim mg P φ st H) (r:RA mg P H φ v w) (h:R.lsI st v=some ns):∃ a,w=.ref a/\bA mg.K H a (ns.map .int):=by
 obtain ⟨xs,e1,e2⟩:=zA h;obtain ⟨a,vs,rfl,d1,q1⟩:=r.ls s e1
 have:=wL e2
 subst this;rw [q1.ints] at d1;exact ⟨a,rfl,d1⟩
def uj (st:aa):List AV->Option AV
 | [v]=>(lsI st v).map fun ns=>.int ns.sum
 | _=>none
theorem IA [Nt] (hc:X.calm=true):cg X (.builtin "sum") (rB X.gm (bQ uj)):=by
 rintro Np s σ H vs us Q I rv ⟨P,φ,st,xs,sm,r,k0⟩;obtain ⟨z,e,k⟩:=k0.map;clear k0;unfold uj at e;split at e
 ·rename_i v
  obtain ⟨w,ew,r9⟩:=r.one;clear r;subst ew;have r:=r9;clear r9;obtain ⟨ns,e1,rfl⟩:=zE.mp e;obtain ⟨a,rfl,d1⟩:=r.lsI sm e1;obtain ⟨u,rfl,ru⟩:=dQ rv;cases ru;obtain ⟨Nu,r',pl,_⟩:=I.list d1;have hi:IntsAre Nu ns:=jK r';obtain ⟨ys,hy⟩:=hi.allInts.items;refine sum_intListG (xs:=ys) (I.ok.hd hc) (by rw [<- hy];exact pl.isList) fun h' tk t' hk=>⟨.int ns.sum,H,I.kept hk,?_,k.pure sm (by simp only [RA])⟩
  have:(preSum (numAt ys) ys.size)=ns.sum:=by
   rw [preSum_eq,List.take_of_length_le (by simp),<- nums_intItems,<- hy];rw [show Nu.toArray.toList=Nu from rfl,hi.numsOf]
  rw [this];exact ⟨t',rfl⟩
 ·cases e
noncomputable def sC:AV->Option Bool
 | .bl b=>some b
 | .int i=>some (i != 0)
 | _=>none
def vn (st:aa):List AV->Option AV
 | [v]=>(bq st v).bind fun xs=>(aG sC xs).map fun bs=>.bl (bs.all id)
 | _=>none
def rX (st:aa):List AV->Option AV
 | [v]=>(bq st v).bind fun xs=>(aG sC xs).map fun bs=>.bl (bs.any id)
 | _=>none
theorem vF [Nt]:∀ {xs:List AV}{vs:List V}{us:List Value}{bs:List Bool},aG sC xs=some bs->Nv mg P H φ xs vs->Vals vs us->bs.length=us.length/\∀ (i:Nat) u,us[i]?=some u->u=.bool (bs.getD i true)\/∃ n t,u=.int n t/\(n != 0)=bs.getD i true:=by
 intro xs
 induction xs with
 | nil=>intro vs us bs e r q;cases e;simp only [Nv] at r;subst r;cases q;exact ⟨rfl,fun i u h=>by simp at h⟩
 | cons x xs ih =>
  intro vs us bs e r q;simp only [aG] at e;obtain ⟨y,e1,e2⟩:=zA e;obtain ⟨ys,e3,e4⟩:=zE.mp e2;subst e4;simp only [Nv] at r;obtain ⟨v,ws,rfl,r1,r2⟩:=r;cases q with
  | cons q1 q2 =>
   obtain ⟨h1,h2⟩:=ih e3 r2 q2;refine ⟨by simp [h1],fun i u h=>?_⟩;cases i with
   | zero =>
    simp at h;subst h;cases x <;> first | (cases e1;done) | skip
    ·cases e1;simp only [RA] at r1;subst r1;cases q1;exact .inl rfl
    ·cases e1;simp only [RA] at r1;subst r1;obtain ⟨t,rfl⟩:=q1;exact .inr ⟨_,t,rfl,rfl⟩
   | succ i=>simpa using h2 i u (by simpa using h)
theorem Dp (bs:List Bool) (n:Nat) (h:bs.length=n):(List.range n).all (fun i=>bs.getD i true)=bs.all id:=by
 subst h;rw [Bool.eq_iff_iff,yP,yP];constructor
 ·intro h x hx
  obtain ⟨i,hi,rfl⟩:=List.getElem_of_mem hx
  have:=h i (by simp [hi])
  simpa [hi] using this
 ·intro h i hi
  have hi':i < bs.length:=by simpa using hi
  have:=h bs[i] (List.getElem_mem hi')
  simpa [hi'] using this
theorem Dn (bs:List Bool) (n:Nat) (h:bs.length=n):(List.range n).any (fun i=>bs.getD i true)=bs.any id:=by
 subst h;rw [Bool.eq_iff_iff,List.any_eq_true,List.any_eq_true];constructor
 ·rintro ⟨i,hi,h⟩
  have hi':i < bs.length:=by simpa using hi
  exact ⟨bs[i],List.getElem_mem hi',by simpa [hi'] using h⟩
 ·rintro ⟨x,hx,h⟩
  obtain ⟨i,hi,rfl⟩:=List.getElem_of_mem hx;exact ⟨i,by simp [hi],by simpa [hi] using h⟩
theorem IH [Nt] (hc:X.calm=true):cg X (.builtin "all") (rB X.gm (bQ vn)):=by
 rintro Np s σ H vs us Q I rv ⟨P,φ,st,xs,sm,r,k0⟩;obtain ⟨z,e,k⟩:=k0.map;clear k0;unfold vn at e;split at e
 ·rename_i v
  obtain ⟨w,ew,r9⟩:=r.one;clear r;subst ew;have r:=r9;clear r9;obtain ⟨ys,e1,e2⟩:=zA e;obtain ⟨bs,e3,rfl⟩:=zE.mp e2;obtain ⟨a,vs,rfl,d1,q1⟩:=r.ls sm e1;obtain ⟨u,rfl,ru⟩:=dQ rv;cases ru;obtain ⟨Nu,r',pl,_⟩:=I.list d1;obtain ⟨hl1,hat⟩:=vF e3 q1 r';have hl:=pl.isList;have hlt:a < s.heap.objs.size:=by obtain ⟨_,e,_⟩:=hl;exact yJ e
  refine call_all_walk (wpAny_pyIter_list hl ⟨_,_,_,_,_,_,fun i=>bs.getD i true,rfl,Walks.list (A:=X.A.in1) (I.ok.hd hc) _ a (zU hlt) Nu.toArray,⟨⟨_,zY _ rfl,rfl,rfl⟩,hl.push _⟩,?_,fun h' tk hk=>?_⟩)
  ·intro i v s2 Q2 E2 hP hQ
   rcases hat i v (by simpa using hP) with rfl | ⟨n,t,rfl,hn⟩
   ·exact wpAny_truthy_bool hQ
   ·exact PySem.P.truthy_int (by rw [hn];exact hQ)
  ·refine ⟨.bl (bs.all id),H,I.kept (old_kept hk),?_,k.pure sm (by simp only [RA])⟩
   rw [Dp bs _ (by simpa using hl1)];rfl
 ·cases e
theorem IG [Nt] (hc:X.calm=true):cg X (.builtin "any") (rB X.gm (bQ rX)):=by
 rintro Np s σ H vs us Q I rv ⟨P,φ,st,xs,sm,r,k0⟩;obtain ⟨z,e,k⟩:=k0.map;clear k0;unfold rX at e;split at e
 ·rename_i v
  obtain ⟨w,ew,r9⟩:=r.one;clear r;subst ew;have r:=r9;clear r9;obtain ⟨ys,e1,e2⟩:=zA e;obtain ⟨bs,e3,rfl⟩:=zE.mp e2;obtain ⟨a,vs,rfl,d1,q1⟩:=r.ls sm e1;obtain ⟨u,rfl,ru⟩:=dQ rv;cases ru;obtain ⟨Nu,r',pl,_⟩:=I.list d1;obtain ⟨hl1,hat⟩:=vF e3 q1 r';have hl:=pl.isList;have hlt:a < s.heap.objs.size:=by obtain ⟨_,e,_⟩:=hl;exact yJ e
  refine call_any_walk (wpAny_pyIter_list hl ⟨_,_,_,_,_,_,fun i=>bs.getD i true,rfl,Walks.list (A:=X.A.in1) (I.ok.hd hc) _ a (zU hlt) Nu.toArray,⟨⟨_,zY _ rfl,rfl,rfl⟩,hl.push _⟩,?_,fun h' tk hk=>?_⟩)
  ·intro i v s2 Q2 E2 hP hQ
   rcases hat i v (by simpa using hP) with rfl | ⟨n,t,rfl,hn⟩
   ·exact wpAny_truthy_bool hQ
   ·exact PySem.P.truthy_int (by rw [hn];exact hQ)
  ·refine ⟨.bl (bs.any id),H,I.kept (old_kept hk),?_,k.pure sm (by simp only [RA])⟩
   rw [Dn bs _ (by simpa using hl1)];rfl
 ·cases e
def rY (_:aa):List AV->Option AV
 | [.int i]=>some (.int (if i < 0 then -i else i))
 | _=>none
theorem II [Nt]:cg X (.builtin "abs") (rB X.gm (bQ rY)):=vw Aj fun vs H Q hq0=>by
 obtain ⟨P,φ,st,xs,sm,r,k0⟩:=hq0;obtain ⟨z,e,k⟩:=k0.map;unfold rY at e;split at e
 ·cases e
  obtain ⟨w,ew,r9⟩:=r.one;clear r;subst ew;have r:=r9;clear r9;simp only [RA] at r;exact ⟨_,by rw [r],k.pure sm (by simp only [RA])⟩
 ·cases e
def uH (st:aa):List AV->Option AV
 | [.int i,.int j]=>some (.int (if j < i then j else i))
 | [v]=>(lsI st v).bind fun ns=>(minL ns).map .int
 | _=>none
noncomputable def FG:List Int->Option Int
 | []=>none
 | x::xs=>some (xs.foldl (fun a b=>if a < b then b else a) x)
theorem KH:∀ (xs:List Int) (x:Int),(xs.foldl (fun a b=>if a < b then b else a) x ∈ x::xs)/\∀ a ∈ x::xs,a <= xs.foldl (fun a b=>if a < b then b else a) x:=by
 intro xs
 induction xs with
 | nil=>intro x;exact ⟨by simp,by simp⟩
 | cons y xs ih =>
  intro x;rw [List.foldl_cons];obtain ⟨h1,h2⟩:=ih (if x < y then y else x);refine ⟨?_,fun a ha=>?_⟩
  ·rcases zT.mp h1 with h | h
   ·rw [h];split <;> simp
   ·exact zQ _ (zQ _ h)
  ·have h3:=h2 _ z7
   rcases zT.mp ha with rfl | ha
   ·refine Int.le_trans ?_ h3;split <;> omega
   ·rcases zT.mp ha with rfl | ha
    ·refine Int.le_trans ?_ h3;split <;> omega
    ·exact h2 a (zQ _ ha)
theorem CU {m x:Int} (h:FG ns=some m) (h1:x ∈ ns) (h2:∀ a ∈ ns,a <= x):x=m:=by
 cases ns with
 | nil=>cases h
 | cons y ns =>
  obtain ⟨a,b⟩:=KH ns y;have e:ns.foldl (fun a b=>if a < b then b else a) y=m:=by injection h
  rw [e] at a b
  have:=h2 m a
  have:=b x h1
  omega
def uJ (st:aa):List AV->Option AV
 | [.int i,.int j]=>some (.int (if j > i then j else i))
 | [v]=>(lsI st v).bind fun ns=>(FG ns).map .int
 | _=>none
theorem IC [Nt] (hc:X.calm=true):cg X (.builtin "min") (rB X.gm (bQ uH)):=by
 rintro Np s σ H vs us Q I rv ⟨P,φ,st,xs,sm,r,k0⟩;obtain ⟨z,e,k⟩:=k0.map;clear k0;unfold uH at e;split at e
 ·rename_i i j
  cases e;obtain ⟨w,w',ew,r8,r9⟩:=r.two;clear r;subst ew;have r:=r8;have r':=r9;clear r8 r9;simp only [RA] at r r';subst r;subst r';exact w6 hc Np s σ H _ us Q I rv ⟨i,j,rfl,k.pure sm (by simp only [RA])⟩
 ·rename_i v
  obtain ⟨w,ew,r9⟩:=r.one;clear r;subst ew;have r:=r9;clear r9;obtain ⟨ns,e1,e2⟩:=zA e;obtain ⟨m,hm,rfl⟩:=zE.mp e2;obtain ⟨a,rfl,d1⟩:=r.lsI sm e1;obtain ⟨u,rfl,ru⟩:=dQ rv;cases ru;obtain ⟨Nu,r',pl,_⟩:=I.list d1;have hi:IntsAre Nu ns:=jK r';obtain ⟨ys,hy⟩:=hi.allInts.items;have hns':ns=ys.toList.map (·.1):=by rw [<- hi.numsOf,<- nums_intItems,<- hy]
  have hsz:0 < ys.size:=by
   cases ns with
   | nil=>cases hm
   | cons n ns =>
    have:(n::ns).length=ys.size:=by rw [hns',zH,Array.length_toList]
    simp at this;omega
  refine min_intList (xs:=ys) (I.ok.hd hc) (by rw [<- hy];exact pl.isList) hsz fun v h' tk hv hk=>?_
  obtain ⟨t,rfl⟩:=intItems_at hv;obtain ⟨h1,h2⟩:=argBest_lt (numAt ys) (ys.size - 1);refine ⟨.int m,H,I.kept hk,?_,k.pure sm (by simp only [RA])⟩;have e:numAt ys (argBest (fun i j=>decide (numAt ys i < numAt ys j)) (ys.size - 1))=m:=by
   refine minL_eq hm ?_ fun a ha=>?_
   ·rw [hns',numAt_eq];exact getD_mem (by rw [zH,Array.length_toList];omega)
   ·rw [hns'] at ha
    obtain ⟨j,hj,rfl⟩:=mem_getD ha;rw [zH,Array.length_toList] at hj;rw [<- numAt_eq];exact h2 j oM
  exact ⟨t,by rw [e]⟩
 ·cases e
theorem ID [Nt] (hc:X.calm=true):cg X (.builtin "max") (rB X.gm (bQ uJ)):=by
 rintro Np s σ H vs us Q I rv ⟨P,φ,st,xs,sm,r,k0⟩;obtain ⟨z,e,k⟩:=k0.map;clear k0;unfold uJ at e;split at e
 ·rename_i i j
  cases e;obtain ⟨w,w',ew,r8,r9⟩:=r.two;clear r;subst ew;have r:=r8;have r':=r9;clear r8 r9;simp only [RA] at r r';subst r;subst r';exact xa hc Np s σ H _ us Q I rv ⟨i,j,rfl,k.pure sm (by simp only [RA])⟩
 ·rename_i v
  obtain ⟨w,ew,r9⟩:=r.one;clear r;subst ew;have r:=r9;clear r9;obtain ⟨ns,e1,e2⟩:=zA e;obtain ⟨m,hm,rfl⟩:=zE.mp e2;obtain ⟨a,rfl,d1⟩:=r.lsI sm e1;obtain ⟨u,rfl,ru⟩:=dQ rv;cases ru;obtain ⟨Nu,r',pl,_⟩:=I.list d1;have hi:IntsAre Nu ns:=jK r';obtain ⟨ys,hy⟩:=hi.allInts.items;have hns':ns=ys.toList.map (·.1):=by rw [<- hi.numsOf,<- nums_intItems,<- hy]
  have hsz:0 < ys.size:=by
   cases ns with
   | nil=>cases hm
   | cons n ns =>
    have:(n::ns).length=ys.size:=by rw [hns',zH,Array.length_toList]
    simp at this;omega
  refine max_intList (xs:=ys) (I.ok.hd hc) (by rw [<- hy];exact pl.isList) hsz fun v h' tk hv hk=>?_
  obtain ⟨t,rfl⟩:=intItems_at hv;obtain ⟨h1,h2⟩:=argBest_gt (numAt ys) (ys.size - 1);refine ⟨.int m,H,I.kept hk,?_,k.pure sm (by simp only [RA])⟩;have e:numAt ys (argBest (fun i j=>decide (numAt ys i > numAt ys j)) (ys.size - 1))=m:=by
   refine CU hm ?_ fun a ha=>?_
   ·rw [hns',numAt_eq];exact getD_mem (by rw [zH,Array.length_toList];omega)
   ·rw [hns'] at ha
    obtain ⟨j,hj,rfl⟩:=mem_getD ha;rw [zH,Array.length_toList] at hj;rw [<- numAt_eq];exact h2 j oM
  exact ⟨t,by rw [e]⟩
 ·cases e
end
end R
namespace R
open PySem PySem.Spec PyProof.Rows L2
open DD (PE_imp PT_imp PA_imp PS_imp PSs_imp OpR_imp PW_imp PG_imp pyOk reads_each cnt_vals)
abbrev MF:=AV->List AV->aa->Option (AV × aa)
def rM [Nt] (mg:Gm) (k:MF):V->List V->Hp->VK->Prop:=fun x vs H Q=>∃ P φ st a xs,Sim mg P φ st H/\RA mg P H φ a x/\Nv mg P H φ xs vs/\KG mg RA P φ H (k a xs st) Q
def jU (T:String) (st:aa) (v:AV):Bool:=match v with
 | .str _=>T == "str"
 | .int _=>T == "int"
 | v=>if T="list" then (bq st v).isSome else if T="dict" then (gU st v).isSome || (kn st v).isSome else false
def iz (T:String) (k:MF) (f:EF) (g:AF):EF:=fun sl st=>(f sl st).bind fun p=>if jU T p.2 p.1=true then (g sl p.2).bind fun q=>k p.1 q.1 q.2 else none
section
variable {X:Cx}{e o:Expr}{es:List Expr}{f:EF}{g:AF}{k:MF}{name:Str}{apos cpos:Pos}{T mid:String}
theorem BO [Nt] {P:Pr}{φ:List Addr}{st:aa}{H:Hp}{v:AV}{w:V} (s:Sim X.gm P φ st H) (r:RA X.gm P H φ v w) (h:jU T st v=true):vB X.K T w H:=by
 have gen:(if T="list" then (bq st v).isSome else if T="dict" then (gU st v).isSome || (kn st v).isSome else false)=true->vB X.K T w H:=fun h=>by
  split at h
  ·rename_i hT
   obtain ⟨xs,e⟩:=Option.isSome_iff_exists.mp h;obtain ⟨a,vs,rfl,d1,_⟩:=r.ls s e;exact .inl ⟨hT,vs,d1⟩
  ·split at h
   ·rename_i hT
    cases v with
    | ref j =>
     simp only [RA] at r;obtain ⟨a,ea,rfl⟩:=r;simp only [gU,kn] at h;cases hj:st[j]? with
     | none=>rw [hj] at h;simp at h
     | some c =>
      rw [hj] at h;obtain ⟨a',ea',c'⟩:=s.at hj;rw [ea] at ea';cases ea';cases c with
      | dK Nr=>obtain ⟨_,ws,q1,_⟩:=c';exact .inr (.inr (.inl ⟨hT,.inl ⟨ws,q1⟩⟩))
      | dT Nr=>obtain ⟨_,ws,q1,_⟩:=c';exact .inr (.inr (.inl ⟨hT,.inr ⟨ws,q1⟩⟩))
      | _=>simp at h
    | _=>simp [gU,kn] at h
   ·cases h
 unfold jU at h;cases v with
 | str x=>simp only [RA] at r;subst r;exact yK h
 | int x=>simp only [RA] at r;subst r;exact yK h
 | _=>exact gen h
theorem Fq [Nt] (q:rE X.gm (iz T k f g) σ H Q):Jl X.K T (rM X.gm k) (rE X.gm f) (rA X.gm g) σ H Q:=by
 obtain ⟨P,φ,sl,st,rs,s,v,st',ev,kk⟩:=q;obtain ⟨p,e1,e2⟩:=zA ev;split at e2
 ·rename_i hT
  obtain ⟨r,e3,e4⟩:=zA e2;exact ⟨P,φ,sl,st,rs,s,p.1,p.2,e1,fun P1 φ1 H1 w f1 s1 r1=>⟨BO s1 r1 hT,P1,φ1,sl,p.2,rs.frm f1,s1,r.1,r.2,e3,fun P2 φ2 H2 ws f2 s2 r2=>⟨P2,φ2,r.2,p.1,r.1,s2,r1.frm f2,r2,v,st',e4,fun P3 φ3 H3 w3 f3 s3 r3=>kk P3 φ3 H3 w3 ((f1.trans f2).trans f3) s3 r3⟩⟩⟩
 ·cases e2
theorem nB [Nt] (pa:PlainAttrs T) (slot:Slot T name mid) (hty:typeOf (.builtin mid)=pure (.type "method_descriptor")) (hm:lF X mid (rM X.gm k)) (ho:QE X o f) (ha:QA X (e::es) g)
  (hbase:attributeBase o name X.env (eval o X.env)=eval o X.env)
  (hfew:((backTo cpos (starEach (e::es) X.env)).all (fun x=>!x.1) && (backToKw cpos (keywordEach [] X.env)).all (fun x=>x.1.isSome)
   && decide ((e::es).length + ([]:List Keyword).length + (if ([]:List Keyword).isEmpty then 0 else 1) < 30))=true)
  (hline:(apos.endLine == cpos.line)=true) (hs:starEach (e::es) X.env=(false,eval e X.env)::starEach es X.env) (hplain:(backTo cpos (starEach es X.env)).any (·.1)=false) :
  QE X (.Call (.Attribute o name apos) (e::es) [] cpos) (iz T k f g):=PE_imp (Hy pa slot hty hm ho ha hbase hfew hline hs hplain) fun _ _ _ q=>Fq q
theorem kO [Nt] (pa:PlainAttrs T) (slot:Slot T name mid) (hty:typeOf (.builtin mid)=pure (.type "method_descriptor")) (hm:lF X mid (rM X.gm k)) (ho:QE X o f)
  (hbase:attributeBase o name X.env (eval o X.env)=eval o X.env) (hline:(apos.endLine == cpos.line)=true):QE X (.Call (.Attribute o name apos) [] [] cpos) (iz T k f dF) :=
 PE_imp (EX pa slot hty hm ho hbase hline) fun σ H Q q=>by
  obtain ⟨P,φ,sl,st,rs,s,v,st',ev,kk⟩:=Fq q;refine ⟨P,φ,sl,st,rs,s,v,st',ev,fun P1 φ1 H1 w f1 s1 r1=>?_⟩;obtain ⟨h1,P2,φ2,sl2,st2,rs2,s2,xs,st3,e3,k3⟩:=kk P1 φ1 H1 w f1 s1 r1;cases e3;exact ⟨h1,k3 P2 φ2 H1 [] Frm.refl s2 ba⟩
theorem jQ (h:lF X mid r) (i:∀ x xs H Q,r' x xs H Q->r x xs H Q):lF X mid r':=fun Np s σ H x xs v us Q I rx rv h'=>h Np s σ H x xs v us Q I rx rv (i x xs H Q h')
def dD (st:aa):AV->Option (Nat × List AV)
 | .ref k=>match st[k]? with
  | some (.lst xs)=>some (k,xs)
  | _=>none
 | _=>none
theorem iO [Nt] {mg:Gm}{P:Pr}{φ:List Addr}{st:aa}{H:Hp}{v:AV}{w:V}{j:Nat}{xs:List AV} (s:Sim mg P φ st H) (r:RA mg P H φ v w) (h:dD st v=some (j,xs)):∃ a vs,w=.ref a/\φ[j]?=some a/\¬ P a/\H a=some (.lst vs)/\Nv mg P H φ xs vs:=by
 cases v with
 | ref i =>
  simp only [dD] at h;split at h
  ·rename_i ys hj
   cases h;simp only [RA] at r;obtain ⟨a,ea,rfl⟩:=r;obtain ⟨a',ea',na,vs,h1,h2⟩:=s.at hj;rw [ea] at ea';cases ea';exact ⟨a,vs,rfl,ea,na,h1,h2⟩
  ·cases h
 | _=>cases h
theorem lI [Nt] {mg:Gm}{P:Pr}{φ:List Addr}{st:aa}{H:Hp}{j:Nat}{a:Addr}{ys:List AV}{us:List V} (s:Sim mg P φ st H) (ea:φ[j]?=some a) (na:¬ P a) (nz:∃ vs,H a=some (.lst vs)) (r:Nv mg P H φ ys us) :
  Frm P φ H P φ (af H a (.lst us))/\Sim mg P φ (st.set j (.lst ys)) (af H a (.lst us))/\∀ {t:AV}{w:V},RA mg P H φ t w->RA mg P (af H a (.lst us)) φ t w:=by
 have ex:∀ b,P b->P b/\af H a (.lst us) b=H b:=fun b h=>⟨h,ae fun e=>na (e ▸ h)⟩
 obtain ⟨f3,s3⟩:=g8 (c:=.lst ys) (o:=.lst us) s ea na ⟨na,us,aw,r.mono ex fun _ _ z=>z⟩ (fun _ _ z=>by obtain ⟨vs,q⟩:=nz;rw [q] at z;cases z);exact ⟨f3,s3,fun h=>h.mono ex fun _ _ z=>z⟩
def jH:MF:=fun x xs st=>match xs with
 | [y]=>(dD st x).bind fun c=>if cM c.2.length=true then some (.non,st.set c.1 (.lst (c.2++[y]))) else none
 | _=>none
theorem G4 {n:Nat} (h:cM n=true):n < sizeLine:=yM (zS h) dC
theorem A8 [Nt]:lF X "list.append" (rM X.gm jH):=jQ pq fun x vs H Q hq0=>by
 obtain ⟨P,φ,st,a,xs,s,r,rr,v,st',e,kk⟩:=hq0;unfold jH at e;split at e
 ·rename_i y
  obtain ⟨c,e1,e2⟩:=zA e;split at e2
  ·rename_i hz
   cases e2;obtain ⟨b,us,rfl,ea,na,h1,h2⟩:=iO s r e1;obtain ⟨w,rfl,r1⟩:=rr.one;obtain ⟨f3,s3,_⟩:=lI s ea na ⟨_,h1⟩ (h2.app (aU r1 ba));exact ⟨b,us,w,rfl,rfl,h1,by rw [<- h2.length];exact G4 hz,kk P φ _ _ f3 s3 (by simp only [RA])⟩
  ·cases e2
 ·cases e
def uN:MF:=fun x xs st=>match xs with
 | []=>(dD st x).bind fun c=>(c.2[c.2.length - 1]?).map fun y=>(y,st.set c.1 (.lst c.2.dropLast))
 | _=>none
theorem Nv.dropLast (h:Nv mg P H φ xs vs):Nv mg P H φ xs.dropLast vs.dropLast:=by
 rw [List.dropLast_eq_take,List.dropLast_eq_take,h.length];exact h.take _
theorem A4 [Nt]:lF X "list.pop" (rM X.gm uN):=jQ Ft fun x vs H Q hq0=>by
 obtain ⟨P,φ,st,a,xs,s,r,rr,v,st',e,kk⟩:=hq0;unfold uN at e;split at e
 ·obtain ⟨c,e1,e2⟩:=zA e
  obtain ⟨y,e3,e4⟩:=zE.mp e2;cases e4;obtain ⟨b,us,rfl,ea,na,h1,h2⟩:=iO s r e1;simp only [Nv] at rr;obtain ⟨w,e5,r5⟩:=h2.get e3;obtain ⟨f3,s3,lf⟩:=lI s ea na ⟨_,h1⟩ h2.dropLast;exact ⟨b,us,w,rfl,rr,h1,by rw [<- h2.length];exact e5,kk P φ _ _ f3 s3 (lf r5)⟩
 ·cases e
def uO:MF:=fun x xs st=>match xs with
 | [y]=>(dD st x).bind fun c=>(bq st y).bind fun ys=>if cM (c.2.length + ys.length)=true then some (.non,st.set c.1 (.lst (c.2++ys))) else none
 | _=>none
theorem A5 [Nt]:lF X "list.extend" (rM X.gm uO):=jQ CT fun x vs H Q hq0=>by
 obtain ⟨P,φ,st,a,xs,s,r,rr,v,st',e,kk⟩:=hq0;unfold uO at e;split at e
 ·rename_i y
  obtain ⟨c,e1,e2⟩:=zA e;obtain ⟨ys,e3,e4⟩:=zA e2;split at e4
  ·rename_i hz
   cases e4;obtain ⟨b,us,rfl,ea,na,h1,h2⟩:=iO s r e1;obtain ⟨w,rfl,r1⟩:=rr.one;obtain ⟨b2,us2,rfl,d2,q2⟩:=r1.ls s e3;obtain ⟨f3,s3,_⟩:=lI s ea na ⟨_,h1⟩ (h2.app q2);exact ⟨b,b2,us,us2,rfl,rfl,h1,d2,by rw [<- h2.length,<- q2.length];exact jh hz,kk P φ _ _ f3 s3 (by simp only [RA])⟩
  ·cases e4
 ·cases e
def uP:MF:=fun x xs st=>match xs with
 | []=>(dD st x).map fun c=>(.non,st.set c.1 (.lst []))
 | _=>none
theorem A7 [Nt]:lF X "list.clear" (rM X.gm uP):=jQ y0 fun x vs H Q hq0=>by
 obtain ⟨P,φ,st,a,xs,s,r,rr,v,st',e,kk⟩:=hq0;unfold uP at e;split at e
 ·obtain ⟨c,e1,e2⟩:=zE.mp e
  cases e2;obtain ⟨b,us,rfl,ea,na,h1,h2⟩:=iO s r e1;simp only [Nv] at rr;obtain ⟨f3,s3,_⟩:=lI s ea na ⟨_,h1⟩ ba;exact ⟨b,us,rfl,rr,h1,kk P φ _ _ f3 s3 (by simp only [RA])⟩
 ·cases e
def zg:MF:=fun x xs st=>match xs with
 | [y]=>(aO 9 st x).bind fun p=>(aO 9 st y).bind fun q=>match p with
  | .list ps=>if (ps.all fun r=>pyOk r q)=true then some (.int ((ps.countP fun r=>PyData.eqv r q:Nat):Int),st) else none
  | _=>none
 | _=>none
theorem A6 [Nt] (hu:X.A.units + 64 < cLine):lF X "list.count" (rM X.gm zg):=by
 rintro Np s σ H x vs v us Q I rx rv ⟨P,φ,st,a,xs,sm,r,rr,z,st',e,kk⟩;unfold zg at e;split at e
 ·rename_i y
  obtain ⟨p,e1,e2⟩:=zA e;obtain ⟨q,e3,e4⟩:=zA e2;split at e4
  ·rename_i ps
   split at e4
   ·rename_i Ny
    cases e4;obtain ⟨w,rfl,r1⟩:=rr.one;obtain ⟨u,rfl,ru⟩:=rv.one;obtain ⟨as,ra⟩:=dW I sm 9 _ _ _ _ r e1 rx;obtain ⟨bs,rb⟩:=dW I sm 9 _ _ _ _ r1 e3 ru;cases ra with
    | @list a o items n xs as' hg hc hdt rall =>
     obtain ⟨ocl,odi,oda,osl⟩:=o;dsimp only at hc hdt;subst hc;subst hdt
     classical
     have uq:∀ z p' az,Reads s.heap z p' az->decide (∃ p as,Reads s.heap z p as/\PyData.eqv p q=true)=PyData.eqv p' q:=by
      intro z p' az rz;rcases he:PyData.eqv p' q with _ | _
      ·refine yA ?_
       rintro ⟨p2,as',r',e'⟩
       have:=(PySem.Reads.unique rz p2 as' r').1
       rw [<- this,he] at e';cases e'
      ·exact yT ⟨p',az,rz,he⟩
     refine call_meets PySem.F.slot_list_count ⟨_,hg,rfl⟩ PySem.F.entry_list_count (PySem.F.args_list_count_2 _ _) (PySem.SeqAt.list_countAt a items n odi osl u (fun z=>decide (∃ p as,Reads s.heap z p as/\PyData.eqv p q=true))) ⟨hg,?_,?_⟩
     ·intro z hz
      obtain ⟨pz,az,hpz,rz⟩:=reads_each rall z (by simpa using hz);obtain ⟨k1,k2,k3⟩:=oP (yP.mp Ny pz hpz);rw [uq z pz az rz];exact PySem.SeqAt.eqAt_reads pz q _ s z u az bs rz rb k1 k2 (by simp only [Around.in1_units];omega)
     ·have hc:=cnt_vals (q:=q) (e:=fun z=>decide (∃ p as,Reads s.heap z p as/\PyData.eqv p q=true)) (h:=s.heap) (vs:=items.toList) (ps:=ps) (fun v p as rv=>uq v p as rv) rall
      rw [hc];exact ⟨.int _,H,I.kept (fun _ _ e=>e),⟨_,rfl⟩,kk P φ H _ Frm.refl sm (by simp only [RA])⟩
   ·cases e4
  ·cases e4
 ·cases e
def JV (t:Bool):EF:=fun _ st=>some (.ref st.length,st++[if t=true then .dT [] else .dK []])
theorem Cg [Nt] (hm:PE X (.Dict [] [] pos) vJ):QE X (.Dict [] [] pos) (JV false):=PE_imp hm fun σ H Q hq0=>by
 obtain ⟨P,φ,sl,st,rs,s,v,st',e,kk⟩:=hq0;cases e;intro d hd;obtain ⟨f3,s3⟩:=mL (c:=.dK []) (o:=.dK []) s hd ⟨fun z=>s.dom d z hd,[],aw,rfl,ba⟩;refine kk P _ _ _ f3 s3 ?_;simp only [RA];exact ⟨d,by rw [<- s.len];simp,rfl⟩
end
end R
namespace R
open PySem PySem.Spec PyProof.Rows L2
open DD (PE_imp PT_imp PA_imp PS_imp PSs_imp OpR_imp PW_imp PG_imp pyOk obj_list obj_tup minL minL_eq cnt_vals)
theorem rP:bootBuiltins "min"=some (.builtin "min"):=by decide +kernel
def zd (ns:List Int):AV:=match minL ns with
 | some m=>.int m
 | none=>.non
def nK (st:aa):List AV->Option AV
 | [v]=>(lsI st v).map zd
 | _=>none
theorem Fz (a:Value):argsOk "min" ⟨[a],[(Str.ofString "default",.none)]⟩:=by unfold argsOk;kernel_rfl
theorem Fy (a v:Value):argsOk "min" ⟨[a],[(Str.ofString "key",v),(Str.ofString "default",.none)]⟩:=by unfold argsOk;kernel_rfl
theorem FD {α:Type}{l:List α}{x:α} (h:x ∈ l):∃ i:Nat,l[i]?=some x:=z9 h
section
variable {X:Cx}{a:Expr}{f:EF}{p pos kp pc:Pos}{j:Nat}
theorem Ce [Nt] (hc:X.calm=true) (hg:Gl X "min") (hm:X.mg "min"=none) (ha:QE X a f) (hs:starEach [a] X.env=[(false,eval a X.env)]) :
  QE X (.Call (.Name "min" p) [a] [⟨some "default",.Constant .none j pc,kp⟩] pos) (rZ (bQ nK) (df f dF)):=by
 intro Np s σ H Q I h;have hb:=Al h;refine wpAny_Call_Name_kw (cF I hg hm rP (callWith_kw (aE ((bK ha dI (by rw [hs];rfl)) pos Np s σ H _ I hb) fun us s1 ⟨vs,H1,I1,r1,q1⟩=>?_) (by rw [hs];rfl) (by rw [hs];rfl) (by rfl) (by rfl)));refine kws_cons (Constant_none (kws_nil ?_));obtain ⟨P,φ,st,xs,sm,r,k0⟩:=q1;obtain ⟨z,e,k⟩:=k0.map;unfold nK at e;split at e
 ·rename_i v
  obtain ⟨w,rfl,rv⟩:=r.one;obtain ⟨ns,e1,e2⟩:=zE.mp e;obtain ⟨l,rfl,hl⟩:=rv.lsI sm e1;obtain ⟨u,rfl,ru⟩:=dQ r1;cases ru;refine qL (ko:=none) (ns:=ns) (I.ok.hd hc) (fun i=>ns.getD i 0) (fun _ H=>H=H1) (fun i H e=>by rw [e];exact hl) rfl (Fz _) (fun i n u pl s H en ru eH I=>.inl ⟨rfl,by simp [en],eH⟩) (fun i n H en hmin eH=>?_) (fun en=>?_) I1 rfl
  ·subst eH
   have:minL ns=some n:=by
    cases hM:minL ns with
    | none =>
     cases ns with
     | nil=>simp at en
     | cons _ _=>cases hM
    | some m =>
     rw [minL_eq hM (zW en) fun b hb=>?_];obtain ⟨i',hi'⟩:=FD hb;have h1:=(hmin i' (zB.mp hi').1).1;simpa [en,hi'] using h1
   have ez:z=.int n:=by rw [<- e2];unfold zd;rw [this]
   subst ez;exact k.pure sm (by simp only [RA])
  ·subst en
   have ez:z=.non:=by rw [<- e2];rfl
   subst ez;exact k.pure sm (by simp only [RA])
 ·cases e
end
def wE (key:EF) (sl:Sl) (st:aa) (n:Int):Option Int:=match key (sl++[some (.int n)]) st with
 | some (.int k,_)=>some k
 | _=>none
noncomputable def jb:Int->Int->List (Int × Int)->Int
 | n,_,[]=>n
 | n,k,(m,j)::r=>if j < k then jb m j r else jb n k r
def o7:List (Int × Int)->AV
 | []=>.non
 | (n,k)::r=>.int (jb n k r)
def p5 (f key:EF):EF:=fun sl st=>(f sl st).bind fun p=>(lsI p.2 p.1).bind fun ns=>(aG (wE key sl p.2) ns).map fun ks=>(o7 (ns.zip ks),p.2)
def BB (f:EF):Prop:=∀ sl st v st',f sl st=some (v,st')->st'=st
theorem o8:∀ (r:List (Int × Int)) (n k:Int),∃ (i:Nat) (κ:Int),((n,k)::r)[i]?=some (jb n k r,κ)/\∀ (j:Nat) q,((n,k)::r)[j]?=some q->κ <= q.2/\(j < i->κ < q.2)
 | [],n,k=>⟨0,k,rfl,fun j q e=>by
   cases j with
   | zero=>cases e;exact ⟨Int.le_refl _,fun h=>absurd h (yX _)⟩
   | succ j=>simp at e⟩
 | (m,j0)::r,n,k=>by
  by_cases hb:j0 < k
  ·obtain ⟨i,κ,e1,e2⟩:=o8 r m j0
   refine ⟨i + 1,κ,by rw [List.getElem?_cons_succ];simpa [jb,hb] using e1,fun j q e=>?_⟩;cases j with
   | zero =>
    cases e
    have:=(e2 0 (m,j0) rfl).1
    exact ⟨by show κ <= k;omega,fun _=>by show κ < k;omega⟩
   | succ j =>
    rw [List.getElem?_cons_succ] at e;exact ⟨(e2 j q e).1,fun h=>(e2 j q e).2 oM⟩
  ·obtain ⟨i,κ,e1,e2⟩:=o8 r n k
   have ea:jb n k ((m,j0)::r)=jb n k r:=by simp [jb,hb]
   have hk:=(e2 0 (n,k) rfl).1;refine ⟨if i=0 then 0 else i + 1,κ,?_,fun j q e=>?_⟩
   ·rw [ea]
    cases i with
    | zero=>simpa using e1
    | succ i=>simpa using e1
   ·cases j with
    | zero =>
     cases e;refine ⟨hk,fun h=>?_⟩;cases i with
     | zero=>simp at h
     | succ i=>exact (e2 0 (n,k) rfl).2 (Nat.succ_pos i)
    | succ j =>
     rw [List.getElem?_cons_succ] at e;cases j with
     | zero =>
      cases e;refine ⟨by show κ <= j0;omega,fun h=>?_⟩;cases i with
      | zero=>simp at h
      | succ i =>
       have:=(e2 0 (n,k) rfl).2 (Nat.succ_pos i)
       show κ < j0;have:κ < k:=this;omega
     | succ j =>
      rw [List.getElem?_cons_succ] at e
      have:=e2 (j + 1) q (by rw [List.getElem?_cons_succ];exact e)
      refine ⟨this.1,fun h=>this.2 ?_⟩;cases i with
      | zero=>simp at h
      | succ i=>simp at h;omega
theorem Dm {ns ks:List Int}{i:Nat}{n:Int} (hl:ns.length=ks.length) (hn:ns[i]?=some n) (hm:∀ j,j < ns.length->ks.getD i 0 <= ks.getD j 0/\(j < i->ks.getD i 0 < ks.getD j 0)):o7 (ns.zip ks)=.int n:=by
 have hi:i < ns.length:=(zB.mp hn).1;obtain ⟨k,hk⟩:∃ k,ks[i]?=some k:=⟨_,zF oM⟩;have hz:(ns.zip ks)[i]?=some (n,k):=by rw [List.getElem?_zip_eq_some];exact ⟨hn,hk⟩
 have hd:ks.getD i 0=k:=by simp [hk]
 cases e:ns.zip ks with
 | nil=>rw [e] at hz;simp at hz
 | cons q r =>
  obtain ⟨n0,k0⟩:=q;obtain ⟨i',κ,e1,e2⟩:=o8 r n0 k0;rw [<- e] at e1 e2;have e3:=List.getElem?_zip_eq_some.mp e1;have hi':i' < ns.length:=(zB.mp e3.1).1;have hd':ks.getD i' 0=κ:=by simp [e3.2]
  have m1:=hm i' hi';have m2:=e2 i (n,k) hz;rw [hd,hd'] at m1;have m2a:κ <= k:=m2.1;have m2b:i < i'->κ < k:=m2.2;have:i=i':=by
   rcases Nat.lt_trichotomy i i' with h | h | h
   ·have:=m2b h;omega
   ·exact h
   ·have:=m1.2 h;omega
  subst this;rw [hn] at e3
  have:=e3.1
  simp only [o7];cases this;rfl
theorem qN {α β:Type}{f:α->Option β}:∀ {l:List α}{r:List β},aG f l=some r->l.length=r.length/\∀ (i:Nat) x,l[i]?=some x->∃ y,r[i]?=some y/\f x=some y
 | [],r,h=>by cases h;exact ⟨rfl,fun i x e=>by simp at e⟩
 | x::l,r,h=>by
  simp only [aG] at h;obtain ⟨y,e1,e2⟩:=zA h;obtain ⟨ys,e3,e4⟩:=zE.mp e2;subst e4;obtain ⟨h1,h2⟩:=qN e3;refine ⟨by simp [h1],fun i z e=>?_⟩;cases i with
  | zero=>cases e;exact ⟨y,rfl,e1⟩
  | succ i=>exact h2 i z (by simpa using e)
section
variable {X:Cx}{a body:Expr}{f key:EF}{p pos kp lp kp2 pc:Pos}{j:Nat}{params:Arguments}{scope:Scope}{N':List Str}{x:Str}{c P:Addr}
theorem ND.snoc [Nt] {mg:Gm}{P:Pr}{H:Hp}{φ:List Addr}{sl:Sl}{σ:St}{v:AV}{w:V} (h:ND mg P H φ sl σ) (r:RA mg P H φ v w):ND mg P H φ (sl++[some v]) (σ++[some w]):=by
 refine ⟨by rw [zV,zV,h.1];rfl,fun i u e=>?_⟩;rcases yS i sl.length with hi | hi
 ·rw [zN hi] at e
  rw [zN (by rw [<- h.1];exact hi)];exact h.2 i u e
 ·rw [z6 hi] at e
  rw [z6 (by rw [<- h.1];exact hi),<- h.1];cases hk:i - sl.length with
  | zero=>rw [hk] at e;cases e;exact ⟨w,rfl,r⟩
  | succ m=>rw [hk] at e;simp at e
theorem Cd [Nt] (hc:X.calm=true) (hg:Gl X "min") (hm:X.mg "min"=none) (ha:QE X a f) (hs:starEach [a] X.env=[(false,eval a X.env)]) (hdef:defaultsOf params X.env=([],[])) (hcode:X.env.code=.ref c) (C:CodeHd X.base c P) (B:iA X.mg X.base)
  (ht:(P,lp,X.env.qual++"<lambda>") ∈ Nt.tb) (T:vv X N' scope x) (hp:plainA params=true) (hps:params.args.map (·.arg)=[x]) (hd:X.A.in1.depth < recursionLimit) (pu:BB key)
  (he:∀ cl f c' s H,QE (rC X N' scope cl f (X.env.qual++"<lambda>") (.ref c') X.A.in1 s H) body key)
  (hdj:∀ t ∈ Nt.tb,t.1=P->t=(P,lp,X.env.qual++"<lambda>")) :
  QE X (.Call (.Name "min" p) [a] [⟨some "key",.Lambda params body scope lp,kp⟩,⟨some "default",.Constant .none j pc,kp2⟩] pos) (p5 f key):=by
 rintro Np s σ H Q I ⟨Pr0,φ,sl,st,rs,sm,v,st',ev,k⟩;obtain ⟨p1,e1,e2⟩:=zA ev;obtain ⟨ns,e3,e4⟩:=zA e2;obtain ⟨ks,e5,e6⟩:=zE.mp e4;cases e6;have hra:rA X.gm (df f dF) σ H (fun vs H1=>∃ P1 φ1 w,vs=[w]/\Frm Pr0 φ H P1 φ1 H1/\Sim X.gm P1 φ1 p1.2 H1/\RA X.gm P1 H1 φ1 p1.1 w) :=
  vR rs sm ⟨p1.1,p1.2,e1,fun P1 φ1 H1 w f1 s1 r1=>⟨P1,φ1,w,rfl,f1,s1,r1⟩⟩
 refine wpAny_Call_Name_kw (cF I hg hm rP (callWith_kw (aE ((bK ha dI (by rw [hs];rfl)) pos Np s σ H _ I hra) fun us s1 ⟨vs,H1,I1,r1,P1,φ1,w,ew,f1,s1',rw1⟩=>?_) (by rw [hs];rfl) (by rw [hs];rfl) (by rfl) (by rfl)));subst ew;obtain ⟨l,rfl,hl0⟩:=rw1.lsI s1' e3;obtain ⟨u,rfl,ru⟩:=dQ r1;cases ru;obtain ⟨cl,hcl,hcl1,hcl2⟩:=jN (scope:=scope) (env:=X.env) (fun y hy=>by
  rcases T.cy.free y hy with h | h
  ·exact I1.ok.has y (.inl h)
  ·exact I1.ok.has y (.inr h))
 refine kws_cons (zn I1 hdef hcode C B hcl (s1'.tb _ ht).1 fun q c' ctv H2 s2 hH2 vG hx2 I2=>kws_cons (Constant_none (kws_nil ?_)))
 -- the heap behind the making
 have fs:Frm P1 φ1 H1 P1 φ1 H2/\Sim X.gm P1 φ1 p1.2 H2:=by
  rcases hH2 with rfl | ⟨ps,more,hP,hn,hne,rfl⟩
  ·exact ⟨Frm.refl,s1'⟩
  ·have nP:∀ b,P1 b->b ≠ P:=fun b h e=>(s1'.tb _ ht).2 (by rw [<- e];exact h)
   have nc:∀ b,H1 b ≠ none->b ≠ c':=fun b h e=>h (by rw [e];exact hn)
   have ncell:∀ b ∈ φ1,b ≠ P:=fun b h e=>s1'.tnc ht (by rw [<- e];exact h)
   have eq:∀ b,b ≠ P->b ≠ c'->af (af H1 P (.tbl (ps++more))) c' (fG c' (X.env.qual++"<lambda>")) b=H1 b:=fun b h1 h2=>by rw [ae h2,ae h1]
   have ex:∀ b,P1 b->P1 b/\af (af H1 P (.tbl (ps++more))) c' (fG c' (X.env.qual++"<lambda>")) b=H1 b:=fun b h=>⟨h,eq b (nP b h) (nc b (s1'.dom b h))⟩
   refine ⟨⟨ex,⟨[],by simp,by simp⟩,fun b h _ z=>eq b (fun e=>z ps (by rw [e];exact hP)) (nc b h),fun b h=>.inl h,fun b h=>?_,fun b o u h=>?_⟩,s1'.stay ex (fun b h=>eq b (ncell b h) (nc b (s1'.cd b h))) (fun _ _ h=>h) (fun b h=>by rw [(ex b h).2];exact s1'.dom b h) fun t ht'=>⟨?_,(s1'.tb t ht').2⟩⟩
   ·by_cases e:b=P
    ·subst e;rw [ae hne,aw];exact fun z=>nomatch z
    ·rw [eq b e (nc b h)];exact h
   ·rw [eq b (fun e=>by rw [e,hP] at h;cases h) (nc b (by rw [h];exact fun z=>nomatch z))];exact h
   ·by_cases e:t.1=P
    ·rw [hdj t ht' e];exact vG
    ·obtain ⟨qs,g1,g2,g3⟩:=(s1'.tb t ht').1
     refine ⟨qs,by rw [eq t.1 e (nc _ (by rw [g1];exact fun z=>nomatch z))];exact g1,g2,?_⟩;rcases g3 with g3 | ⟨c2,g4,g5⟩
     ·exact .inl g3
     ·exact .inr ⟨c2,g4,by rw [eq c2 (fun z=>by rw [z,hP] at g5;cases g5) (nc _ (by rw [g5];exact fun z=>nomatch z))];exact g5⟩
 obtain ⟨hlen,hget⟩:=qN e5;have aH:∀ H',(∃ P' φ',Frm P1 φ1 H2 P' φ' H'/\Sim X.gm P' φ' p1.2 H')->∀ z,o7 (ns.zip ks)=z->∀ w,(∀ P' φ',RA X.gm P' H' φ' z w)->Q w H':=fun H' hq0 z hz w r=>by
  obtain ⟨P',φ',f',s'⟩:=hq0;rw [hz] at k;exact k P' φ' H' w ((f1.trans fs.1).trans f') s' (r P' φ')
 have hmc:=qL (X:=X) (Np:=Np++[(q,uU X.mg (X.env.qual++"<lambda>") params body scope cl (.ref c') ctv)]) (σ:=σ) (ko:=some (.ref q)) (kws:=[(Str.ofString "key",.ref q),(Str.ofString "default",.none)]) (l:=l) (ns:=ns) (H:=H2) (s:=s2) (Q:=Q) (E:=X.xe)
  (I.ok.hd hc) (fun i=>ks.getD i 0) (fun _ H'=>∃ P' φ',Frm P1 φ1 H2 P' φ' H'/\Sim X.gm P' φ' p1.2 H') (fun i H' ⟨P',φ',f',s'⟩=>?_) rfl (Fy _ _) (fun i n u pl s3 H3 en ru ⟨P3,φ3,f3,s3'⟩ I3=>.inr ⟨q,rfl,?_⟩) (fun i n H' en hmin hJ=>?_) (fun en=>?_) I2 ⟨P1,φ1,Frm.refl,fs.2⟩
 ·exact aE hmc fun u s9 ⟨v9,H9,I9,r9,q9⟩=>⟨v9,H9,I9.pins_of fun p hp=>I9.pin p (zK _ (zL _ hp)),r9,q9⟩
 ·obtain ⟨b,eb,hb⟩:=(rw1.frm (fs.1.trans f')).lsI s' e3
  cases eb;exact hb
 ·obtain ⟨kv,ek,hk⟩:=hget i n en
  unfold wE at hk;split at hk
  ·rename_i k0 st0 ekey
   cases hk
   have:=pu _ _ _ _ ekey
   subst this;have hpin:=I3.pin (q,uU X.mg (X.env.qual++"<lambda>") params body scope cl (.ref c') ctv) (zK _ (zL _ (zK _ (zM.mpr rfl))));have hcx:H3 c'=some (fG c' (X.env.qual++"<lambda>")):=fs.2.okeep f3 hx2;have hcr:s3.heap.CodeRec (.ref c') (X.env.qual++"<lambda>"):=(I3.Ny c' _ hcx).1;refine zo (te:=rE X.gm key) T I3 I.ok.frames (I.ok.hd hc) hd hcl1 hcl2 hp hps hpin.1 hcr (fun s H=>he cl q c' s H) ru ?_;have ksl:ND X.gm P3 H3 φ3 (sl++[some (.int n)]) (σ++[some (.int n)]):=ND.snoc (((rs.frm f1).frm fs.1).frm f3) (by simp only [RA]);refine ⟨P3,φ3,sl++[some (.int n)],p1.2,ksl,s3',.int kv,p1.2,ekey,fun P4 φ4 H4 b f4 s4 r4=>?_⟩;simp only [RA] at r4;exact ⟨by rw [r4];simp [ek],P4,φ4,f3.trans f4,s4⟩
  ·cases hk
 ·exact aH H' hJ _ (Dm hlen en hmin) _ fun P' φ'=>by simp only [RA]
 ·subst en
  exact aH H2 ⟨P1,φ1,Frm.refl,fs.2⟩ _ rfl _ fun P' φ'=>by simp only [List.zip_nil_left,o7,RA]
end
def vp (f:EF) (l h:OF):EF:=fun sl st=>(f sl st).bind fun p=>(l sl p.2).bind fun q=>(h sl q.2).bind fun r=>match p.1 with
 | .tup xs=>if (HT.NC xs.length 0 q.1 == 0 && HT.NC xs.length xs.length r.1 == xs.length)=true then none else some (.tup (cut xs q.1 r.1),r.2)
 | _=>none
section
variable {X:Cx}{a b:Expr}{f g:EF}{pos p1 p2 pos2:Pos}
theorem Et [Nt] {l h:OF}{lo hi:Option Expr}{p2:Pos} (ha:QE X a f) (hl:QO X lo l) (hh:QO X hi h):QE X (.Subscript a (.Slice lo hi none p2) pos) (vp f l h) :=
 PE_imp (qz DL ha hl hh) fun σ H Q hq0=>by
  obtain ⟨P,φ,sl,st,rs,s,xs,st',ef,k⟩:=hq0;obtain ⟨q,e1,e2⟩:=zA ef;obtain ⟨r,e3,e4⟩:=zA e2;obtain ⟨t,e5,e6⟩:=zA e4;refine DM rs s ⟨q.1,q.2,r.1,r.2,t.1,t.2,e1,e3,e5,fun P1 φ1 H1 w f1 s1 r1=>?_⟩;split at e6
  ·rename_i ys ey
   split at e6
   ·cases e6
   ·rename_i hz
    cases e6;rw [ey] at r1;simp only [RA] at r1;obtain ⟨a,vs,rfl,hP,hT,rr⟩:=r1;refine ⟨a,vs,rfl,.inl (.inl hT),fun z=>hz (by rw [rr.length,zC,beq_iff_eq,beq_iff_eq];exact z),fun p hp=>?_⟩;obtain ⟨f3,s3⟩:=kT (o:=.tup (jM vs r.1 t.1)) s1 hp;refine k _ φ1 _ _ (f1.trans f3) s3 ?_;simp only [RA];exact ⟨p,_,rfl,.inr rfl,aw,(rr.cut _ _).frm f3⟩
  ·cases e6
noncomputable def pe (i:Int):Bool:=decide (0 <= i) && decide (i <= 1000)
def uF (f:EF):NF:=fun sl st=>(f sl st).bind fun p=>match p.1 with
 | .int j=>if pe j=true then some (cH 0 j.toNat,p.2) else none
 | _=>none
def uE (f g:EF):NF:=fun sl st=>(f sl st).bind fun p=>(g sl p.2).bind fun q=>match p.1,q.1 with
 | .int i,.int j=>if (pe i && pe j && decide (i <= j))=true then some (cH i (j - i).toNat,q.2) else none
 | _,_=>none
theorem Nv.rng (i:Nat):∀ n:Nat,Nv mg P H φ (cH (i:Int) n) ((List.range' i n).map fun (q:Nat)=>V.int (q:Int)):=by
 have key:∀ (l:List Nat),Nv mg P H φ (l.map fun (k:Nat)=>AV.int ((i:Int) + (k:Int))) (l.map fun (k:Nat)=>V.int ((i:Int) + (k:Int))):=by
  intro l
  induction l with
  | nil=>exact ba
  | cons x l ih=>exact aU (by simp only [RA]) ih
 intro n;have:((List.range' i n).map fun (q:Nat)=>V.int (q:Int))=(List.range n).map fun (k:Nat)=>V.int ((i:Int) + (k:Int)):=by
  rw [List.range'_eq_map_range,List.map_map];refine List.map_congr_left fun k _=>?_
  simp
 rw [this];exact key _
theorem Ej [Nt] (hc:X.calm=true) (hgl:Gl X "list") (hml:X.mg "list"=none) (hgr:Gl X "range") (hmr:X.mg "range"=none) (ha:QE X a f)
  (hs:starEach [a] X.env=[(false,eval a X.env)]):QN X (.Call (.Name "list" p1) [.Call (.Name "range" p2) [a] [] pos2] [] pos) (uF f) :=
 PE_imp (yi hc hgl hml hgr hmr ha hs) fun σ H Q hq0=>by
  obtain ⟨P,φ,sl,st,rs,s,xs,st',ef,k⟩:=hq0;obtain ⟨q,e1,e2⟩:=zA ef;refine ⟨P,φ,sl,st,rs,s,q.1,q.2,e1,fun P1 φ1 H1 w f1 s1 r1=>?_⟩;show ∃ j:Nat,[w]=[.int (j:Int)]/\j <= 1000/\∀ p,H1 p=none->Q (.ref p) (af H1 p (.lst ((List.range' 0 j).map fun (q:Nat)=>V.int (q:Int))));split at e2
  ·rename_i j ej
   split at e2
   ·rename_i hb
    cases e2;rw [ej] at r1;simp only [RA] at r1;subst r1;obtain ⟨h1,h2⟩:=Bool.and_eq_true_iff.mp hb;have h1:=of_decide_eq_true h1;have h2:=of_decide_eq_true h2;refine ⟨j.toNat,by rw [Int.toNat_of_nonneg h1],by omega,fun p hp=>?_⟩;exact k P1 φ1 H1 p _ f1 s1 hp (Nv.rng 0 j.toNat)
   ·cases e2
  ·cases e2
theorem Ei [Nt] (hc:X.calm=true) (hgl:Gl X "list") (hml:X.mg "list"=none) (hgr:Gl X "range") (hmr:X.mg "range"=none) (ha:QE X a f) (hb:QE X b g)
  (hs:starEach [a,b] X.env=[(false,eval a X.env),(false,eval b X.env)]) (hs2:starEach [b] X.env=[(false,eval b X.env)]):QN X (.Call (.Name "list" p1) [.Call (.Name "range" p2) [a,b] [] pos2] [] pos) (uE f g) :=
 PE_imp (wa hc hgl hml hgr hmr (bK ha (bK hb dI (by rw [hs2];rfl)) (by rw [hs,hs2])) hs hs2) fun σ H Q hq0=>by
  obtain ⟨P,φ,sl,st,rs,s,xs,st',ef,k⟩:=hq0;obtain ⟨q,e1,e2⟩:=zA ef;obtain ⟨r,e3,e4⟩:=zA e2;refine DZ rs s ⟨q.1,q.2,r.1,r.2,e1,e3,fun P1 φ1 H1 w w' f1 s1 r1 r2=>?_⟩;split at e4
  ·rename_i i j ei ej
   split at e4
   ·rename_i hb
    cases e4;rw [ei] at r1;rw [ej] at r2;simp only [RA] at r1 r2;subst r1;subst r2;simp only [pe,zC,yC] at hb;obtain ⟨⟨⟨h1,h2⟩,h3,h4⟩,h5⟩:=hb;refine ⟨i.toNat,j.toNat,by rw [Int.toNat_of_nonneg h1,Int.toNat_of_nonneg h3],by omega,by omega,fun p hp=>?_⟩;refine k P1 φ1 H1 p _ f1 s1 hp ?_;have e1:(j - i).toNat=j.toNat - i.toNat:=by omega
    have e2:i=((i.toNat:Nat):Int):=by omega
    have:=Nv.rng (mg:=X.gm) (P:=P1) (H:=H1) (φ:=φ1) i.toNat (j.toNat - i.toNat)
    rw [<- e2,<- e1] at this;rw [<- e1];exact this
   ·cases e4
  ·cases e4
end
def nO:aZ->AV
 | .inl i=>.int i
 | .inr x=>.str x
noncomputable def AB (k:Nat):Out->Option Out
 | .nx sl st=>match st[k]? with
  | some (.wk Nr)=>some (.nx sl (st.set k (.dK Nr)))
  | _=>none
 | .rt v st=>match st[k]? with
  | some (.wk Nr)=>some (.rt v (st.set k (.dK Nr)))
  | _=>none
 | _=>none
def um (f:EF) (g:GF) (s:SF):SF:=fun sl st=>(f sl st).bind fun p=>match p.1 with
 | .ref k=>match p.2[k]? with
  | some (.dK Nr)=>(c5 [] g s (Nr.map fun q=>nO q.1) sl (p.2.set k (.wk Nr))).bind (AB k)
  | _=>none
 | _=>none
section
variable {X:Cx}{tg iter:Expr}{body:List Stmt}{pos:Pos}{f:EF}{g:GF}{s:SF}
theorem B1 [Nt] (hp:PassesOwn (model X.prog X.w) X.A X.env X.xe) (hc:X.calm=true) (hi:QE X iter f) (hg:QG X tg g) (hb:lD X body s) (hs:∀ x,foldedSetIterable iter X.env x=pure x):QS X (.For tg iter body [] pos) (um f g s) :=
 PS_imp (Cn (vZ hp hc (Cv hi) hg hb hs)) fun D σ H hq0=>by
  obtain ⟨P,φ,sl,st,rs,sm,o,e,q⟩:=hq0;obtain ⟨p,e1,e2⟩:=zA e;refine ⟨P,φ,sl,st,rs,sm,p.1,p.2,e1,fun P1 φ1 H1 w f1 s1 r1=>?_⟩;split at e2
  ·rename_i k ek
   rw [ek] at r1;simp only [RA] at r1;obtain ⟨a,ea,rfl⟩:=r1;split at e2
   ·rename_i Nr hk
    obtain ⟨o1,e3,e4⟩:=zA e2;obtain ⟨na,ws,h1,h2⟩:=s1.cell k _ a hk ea;refine ⟨a,ws,rfl,h1,fun ob hn=>?_⟩;have hkeys:(Nr.map fun q=>nO q.1).length=ws.length:=by
     have:=congrArg List.length h2.1
     rw [zH,zH] at this;rw [zH];exact this
    obtain ⟨fw,sw⟩:=g8 (c:=.wk Nr) (o:=.frz ob (.dK ws)) s1 ea na ⟨na,ob,ws,aw,h2.mono (fun b h=>⟨h,ae fun e=>na (e ▸ h)⟩) fun _ _ z=>z⟩ (fun _ _ z=>by rw [h1] at z;cases z);have rsw:ND X.gm P1 (af H1 a (.frz ob (.dK ws))) φ1 sl σ:=(rs.frm f1).frm fw
    -- behind the loop
    have back:∀ {P5 φ5 H5 st5},Frm P1 φ1 (af H1 a (.frz ob (.dK ws))) P5 φ5 H5->Sim X.gm P5 φ5 st5 H5->∀ {kvs'},st5[k]?=some (.wk kvs')->∃ o5 ws5,H5 a=some (.frz o5 (.dK ws5)) /\
      Frm P φ H P5 φ5 (af H5 a (.dK ws5))/\Sim X.gm P5 φ5 (st5.set k (.dK kvs')) (af H5 a (.dK ws5))/\∀ b,P5 b->P5 b/\af H5 a (.dK ws5) b=H5 b:=by
     intro P5 φ5 H5 st5 f5 s5 kvs' hw;have ea5:φ5[k]?=some a:=f5.ix k a ea;obtain ⟨na5,o5,ws5,g1,g2⟩:=s5.cell k _ a hw ea5;have ex5:∀ b,P5 b->P5 b/\af H5 a (.dK ws5) b=H5 b:=fun b h=>⟨h,ae fun e=>na5 (e ▸ h)⟩
     refine ⟨o5,ws5,g1,?_,?_,ex5⟩
     ·have fall:=(f1.trans fw).trans f5
      obtain ⟨m,em,nm⟩:=fall.new;have hna:H a=none\/a ∈ φ:=by
       rcases zZ.mp (show a ∈ φ++f1.new.choose by rw [<- f1.new.choose_spec.1];exact zW ea) with z | z
       ·exact .inr z
       ·exact .inl (f1.new.choose_spec.2 a z)
      refine ⟨fun b h=>⟨(fall.ext b h).1,?_⟩,⟨m,em,nm⟩,fun b h n z=>?_,fall.pn,fun b h=>?_,fun b o u h=>?_⟩
      ·rw [(ex5 b (fall.ext b h).1).2];exact (fall.ext b h).2
      ·have nb:b ≠ a:=fun e=>by
        rcases hna with y | y
        ·exact h (by rw [e];exact y)
        ·exact n (by rw [e];exact y)
       rw [ae nb];exact fall.keep b h n z
      ·by_cases e:b=a
       ·rw [e,aw];exact fun z=>nomatch z
       ·rw [ae e];exact fall.sm b h
      ·have nb:b ≠ a:=fun e=>by
        have:=f1.fz b o u h
        rw [e,h1] at this;cases this
       rw [ae nb];exact fall.fz b o u h
     ·have hs5:st5[k]?=some (.wk kvs'):=hw
      refine ⟨by rw [List.length_set];exact s5.len,s5.nd,fun b h=>by rw [(ex5 b h).2];exact s5.dom b h,fun b h=>?_,fun j c b e5 e6=>?_,fun t ht=>⟨(s5.tb t ht).1.wr (s5.notb ea5 na5),(s5.tb t ht).2⟩⟩
      ·by_cases e:b=a
       ·rw [e,aw];exact fun z=>nomatch z
       ·rw [ae e];exact s5.cd b h
      ·by_cases hj:j=k
       ·subst hj
        rw [ea5] at e6;cases e6;rw [List.getElem?_set_self (by rw [<- s5.len];exact (zB.mp ea5).1)] at e5;cases e5;exact ⟨na5,ws5,aw,g2.mono ex5 fun _ _ z=>z⟩
       ·rw [List.getElem?_set_ne (Ne.symm hj)] at e5
        have hb:b ≠ a:=fun e=>hj (by
         subst e;obtain ⟨l1,q1⟩:=zB.mp e6;obtain ⟨l2,q2⟩:=zB.mp ea5;exact (List.getElem_inj s5.nd).mp (q1.trans q2.symm))
        exact (s5.cell j c b e5 e6).mono ex5 (fun _ _ z=>z) (ae hb) fun z=>z
    have endN:∀ {P5 φ5 H5 σ5 sl5 st5},o1=.nx sl5 st5->Frm P1 φ1 (af H1 a (.frz ob (.dK ws))) P5 φ5 H5->Sim X.gm P5 φ5 st5 H5->ND X.gm P5 H5 φ5 sl5 σ5->(pQ X.H₀ D).nx σ5 H5:=by
     intro P5 φ5 H5 σ5 sl5 st5 eo f5 s5 rs5;subst eo;simp only [AB] at e4;split at e4
     ·rename_i kvs' hw
      cases e4;obtain ⟨o5,ws5,g1,g2,g3,g4⟩:=back f5 s5 hw;exact ⟨a,o5,ws5,g1,hn,q P5 φ5 _ σ5 g2 g3 ⟨rs5.1,fun i v e=>let ⟨w,e',r⟩:=rs5.2 i v e;⟨w,e',r.mono g4 fun _ _ z=>z⟩⟩⟩
     ·cases e4
    have endR:∀ {P5 φ5 H5 v5 st5 w5},o1=.rt v5 st5->Frm P1 φ1 (af H1 a (.frz ob (.dK ws))) P5 φ5 H5->Sim X.gm P5 φ5 st5 H5->RA X.gm P5 H5 φ5 v5 w5->(pQ X.H₀ D).rt w5 H5:=by
     intro P5 φ5 H5 v5 st5 w5 eo f5 s5 r5;subst eo;simp only [AB] at e4;split at e4
     ·rename_i kvs' hw
      cases e4;obtain ⟨o5,ws5,g1,g2,g3,g4⟩:=back f5 s5 hw;exact ⟨a,o5,ws5,g1,hn,q P5 φ5 _ w5 g2 g3 (r5.mono g4 fun _ _ z=>z)⟩
     ·cases e4
    refine ⟨fun i m σ' H'=>m=ws.length - i/\i <= ws.length/\∃ P' φ' sl' st',Frm P1 φ1 (af H1 a (.frz ob (.dK ws))) P' φ' H'/\Sim X.gm P' φ' st' H'/\ND X.gm P' H' φ' sl' σ'/\c5 [] g s ((Nr.map fun q=>nO q.1).drop i) sl' st'=some o1,
     ⟨_,rfl,Nat.zero_le _,P1,φ1,sl,_,Frm.refl,sw,rsw,by simpa using e3⟩,?_⟩
    rintro i m σ' H' ⟨rfl,hle,P2,φ2,sl2,st2,f2,s2,rs2,eg⟩;have hfz:H' a=some (.frz ob (.dK ws)):=f2.fz a _ _ aw;rcases yS i ws.length with hlt | hge
    ·right
     rw [List.drop_eq_getElem_cons (by rw [hkeys];exact hlt)] at eg;simp only [c5,bN,if_true] at eg;obtain ⟨q4,e5,e6⟩:=zA eg;obtain ⟨o2,e7,e8⟩:=zA e6;refine ⟨⟨hfz,hlt⟩,fun σ' H'=>∃ P' φ' sl' st',Frm P1 φ1 (af H1 a (.frz ob (.dK ws))) P' φ' H'/\Sim X.gm P' φ' st' H'/\ND X.gm P' H' φ' sl' σ'/\c5 [] g s ((Nr.map fun q=>nO q.1).drop (i + 1)) sl' st'=some o1,fun σ' H' z=>⟨_,by omega,rfl,hlt,z⟩,fun x H3 hy=>?_⟩;obtain ⟨rfl,hx⟩:=hy;have rx:RA X.gm P2 H3 φ2 ((Nr.map fun q=>nO q.1)[i]'(by rw [hkeys];exact hlt)) x:=by
      have hkw:Nr[i]?.map (·.1)=ws[i]?.map (·.1):=by rw [<- zR,<- zR,h2.1]
      have hlt':i < Nr.length:=by rw [zH] at hkeys;omega
      rw [zR,zF hlt] at hx;rw [zF hlt',zF hlt] at hkw;simp only [map_some,Option.some.injEq] at hx hkw;rw [List.getElem_map,hkw,<- hx];cases ws[i].1 with
      | inl n=>simp only [nO,RA,kV]
      | inr z=>simp only [nO,RA,kV]
     refine ⟨P2,φ2,sl2,st2,_,rs2,s2,rx,q4.1,q4.2,e5,fun P4 φ4 H4 σ4 f4 s4 rs4=>⟨P4,φ4,q4.1,q4.2,rs4,s4,o2,e7,?_⟩⟩;have fa:=f2.trans f4;cases o2 with
     | nx sl5 st5=>exact fun P5 φ5 H5 σ5 f5 s5 rs5=>⟨P5,φ5,sl5,st5,fa.trans f5,s5,rs5,e8⟩
     | ct sl5 st5=>exact fun P5 φ5 H5 σ5 f5 s5 rs5=>⟨P5,φ5,sl5,st5,fa.trans f5,s5,rs5,e8⟩
     | bk sl5 st5=>exact fun P5 φ5 H5 σ5 f5 s5 rs5=>endN (yE e8).symm (fa.trans f5) s5 rs5
     | rt v st5=>exact fun P5 φ5 H5 w f5 s5 r5=>endR (yE e8).symm (fa.trans f5) s5 r5
    ·left
     have ei:i=ws.length:=Nat.le_antisymm hle hge;subst ei;rw [<- hkeys,List.drop_length] at eg;simp only [c5,bN,if_true] at eg;exact ⟨⟨hfz,zP _⟩,endN (yE eg).symm f2 s2 rs2⟩
   ·cases e2
  ·cases e2
end
end R
namespace R
open PySem PySem.Spec PyProof.Rows L2
noncomputable def aX:Expr->Bool
 | .Starred _ _=>false
 | _=>true
noncomputable def jl:Expr->Bool
 | .Slice _ _ _ _=>false
 | _=>true
noncomputable def uC:Expr->Bool
 | .Set _ _ _=>false
 | _=>true
noncomputable def mN:Expr->Bool
 | .Call (.Name _ _) [] [] _=>false
 | _=>true
noncomputable def lM:Expr->Bool
 | .ListComp _ _ _ _=>false
 | .SetComp _ _ _ _=>false
 | .DictComp _ _ _ _ _=>false
 | _=>true
noncomputable def yY:Expr->Bool
 | .Tuple _ _ _=>false
 | _=>true
noncomputable def v3:Expr->Bool
 | .UnaryOp .Not _ _=>false
 | .BoolOp _ _ _=>false
 | .IfExp _ _ _ _=>false
 | .Compare _ _ _ _=>false
 | _=>true
section
variable {env:Env}{e o i a b:Expr}{es:List Expr}{pos cpos apos:Pos}{f:Str}
theorem ar (h:aX e=true):starEach (e::es) env=(false,eval e env)::starEach es env:=by
 cases e <;> first | rfl | cases h
theorem hV (h:es.all aX=true):(backTo pos (starEach es env)).any (·.1)=false:=by
 induction es with
 | nil=>rfl
 | cons e es ih =>
  rw [List.all_cons,zC] at h;rw [ar h.1];show (false || (backTo pos (starEach es env)).any (·.1))=false;rw [ih h.2];rfl
theorem xM (h:es.all aX=true):(backTo pos (starEach es env)).all (fun x=>!x.1)=true:=by
 induction es with
 | nil=>rfl
 | cons e es ih =>
  rw [List.all_cons,zC] at h;rw [ar h.1];show (true && (backTo pos (starEach es env)).all (fun x=>!x.1))=true;rw [ih h.2];rfl
theorem JQ (h:es.all aX=true) (hl:es.length < 30):((backTo cpos (starEach es env)).all (fun x=>!x.1) && (backToKw cpos (keywordEach [] env)).all (fun x=>x.1.isSome) && decide (es.length + ([]:List Keyword).length + (if ([]:List Keyword).isEmpty then 0 else 1) < 30))=true:=by
 rw [xM h];have:decide (es.length + ([]:List Keyword).length + (if ([]:List Keyword).isEmpty then 0 else 1) < 30)=true:=yT (by simpa using hl);rw [this];rfl
theorem fq (w:Sem Value) (h:mN o=true):attributeBase o f env w=w:=by
 unfold attributeBase;split
 ·simp [mN] at h
 ·rfl
theorem tj (hb:mN o=true) (hs:es.all aX=true) (hl:es.length < 30) (hline:(apos.endLine == pos.line)=true):eval (.Call (.Attribute o f apos) es [] pos) env=(do
   let ov <- eval o env
   standAt apos.atName
   let (f,first) <- holding [ov] (getMethod ov f (do return (<- importBound o env).getD true))
   callWith pos f first (backTo pos (starEach es env)) (backToKw pos (keywordEach [] env))):=by
 rw [arm_eval_Call,fq _ hb];have hform:methodCallForm (es.length + ([]:List Keyword).length) (backTo pos (starEach es env)) (backToKw pos (keywordEach [] env))=true:=JQ hs hl;have hpos:methodCallPos true o env apos pos=pure pos:=by unfold methodCallPos;simp [hline]
 unfold methodCall;rw [hform,hpos];rfl
theorem m9 (h:uC e=true) (x:Value):foldedSetIterable e env x=pure x:=by
 cases e <;> first | rfl | cases h
theorem HW (h:jl i=true):o9 i:=fun _ _=>by
 cases i <;> first | rfl | cases h
theorem DK (h:jl i=true) (v:Value):assign (.Subscript o i pos) env v=(do
   let ov <- holding [v] (eval o env)
   let iv <- holding [v,ov] (eval i env)
   standAt pos
   holding [v,ov,iv] (setItem ov iv v)
   release [v,ov,iv] []):=by
 cases i <;> first | rfl | cases h
theorem GE (h:jl i=true) (ov iv new:Value):augStore i ov iv new=(do holding [new,ov,iv] (setItem ov iv new);release [new,ov,iv] [];pure .next):=by
 cases i <;> first | rfl | cases h
theorem sD {l:Nat} (h:lM e=true):swapsWith e t l env=pure false:=by
 cases e <;> first | rfl | cases h
theorem xI {l:Nat}:swapsWith e (some (.Attribute o f p)) l env=pure false:=by
 cases e <;> rfl
noncomputable def Jn (nm:List (Str × NameKind)) (t:Str) (tl:Nat) (sc:Scope) (vl:Nat):Bool:=decide (nm.lookup t=some .local) && (tl == vl) && !(sc.names.any fun (n,k)=>n == t && (k == .local || k == .cell))
theorem DJ {l:Nat} (hk:env.scope.kind=.function) :
  swapsWith (.ListComp elt gens sc pos) (some (.Name t p)) l env=pure (Jn env.scope.names t p.line sc pos.line):=by
 have hb:env.blockKind=.function:=by unfold Env.blockKind;rw [hk];rfl
 show (pure (env.blockKind == .function && env.kindOf t == some .local && p.line == pos.line && !(sc.names.any fun (n,k)=>n == t && (k == .local || k == .cell))):Sem Bool)=_;rw [hb];have:(env.kindOf t == some NameKind.local)=decide (env.scope.names.lookup t=some .local):=by
  show (env.scope.names.lookup t == some NameKind.local)=_;cases h:env.scope.names.lookup t with
  | none=>rfl
  | some k=>cases k <;> rfl
 rw [this];rfl
theorem xK:swappedStores [.Subscript a b p] e env=pure none:=by cases e <;> rfl
theorem xJ {k:Nat} (h:yY e=true):swappedStores [.Tuple ts k p] e env=pure none:=by cases e <;> first | rfl | cases h
theorem tM (h:aX e=true):(assignEach [e] env).map (·.2)=[assign e env]:=by
 cases e <;> first | rfl | cases h
theorem Ad (h:aX e=true):(assignEach (e::es) env).map (·.2)=assign e env::(assignEach es env).map (·.2):=by
 cases e <;> first | rfl | cases h
theorem Ae:(assignEach es env).length=es.length:=by
 induction es with
 | nil=>rfl
 | cons e es ih=>cases e <;> (show (assignEach es env).length + 1=es.length + 1;rw [ih])
theorem Af (h:es.all aX=true):(assignEach es env).findIdx? (·.1)=none:=by
 have:∀ p ∈ assignEach es env,p.1=false:=by
  induction es with
  | nil=>intro p hp;cases hp
  | cons e es ih =>
   rw [List.all_cons,zC] at h;have e1:assignEach (e::es) env=(false,assign e env)::assignEach es env:=by
    cases e <;> first | rfl | cases h.1
   rw [e1];intro p hp;rcases zT.mp hp with rfl | hp
   ·rfl
   ·exact ih h.2 p hp
 rw [List.findIdx?_eq_none_iff];intro p hp;rw [this p hp]
theorem BQ (h:v3 e=true) (whole:Sem Value):isTrue e env whole=(do let v <- whole;standAt e.pos;holding [v] (truthy v)):=by
 cases e with
 | UnaryOp op x p=>cases op <;> first | rfl | cases h
 | BoolOp=>cases h
 | IfExp=>cases h
 | Compare=>cases h
 | _=>rfl
end
noncomputable def GN (a c:Int) (n:Nat):It:=⟨fun i _=>i < n,fun i H x H'=>H'=H/\x=.int (a + (i:Int) * c),fun i _=>n <= i⟩
theorem Dx {P:Program}{w:World}{K:Frag}{tg:Expr} (it:Addr) (a c:Int) (n:Nat):jc P w K tg (GN a c n) [it] it (fun i h=>IsRangeIter h it (a + (i:Nat) * c) ((n:Int) - (i:Nat)) c) where
 mem:=by simp
 obj:=fun i h st b hb=>by
  obtain rfl:b=it:=by simpa using hb
  exact ⟨_,st,fun v z=>nomatch (show Data.fields _=Data.cell v from z)⟩
 keep:=fun i h h' st k=>k it (by simp) _ st
 item:=by
  intro X hP hw hK hc i Np s σ H E I hf st hg;subst hP hw hK;obtain ⟨f0,f1,f2,f3,f4,f5⟩:=hf it (by simp);refine (Walks.range (prog:=X.prog) (w:=X.w) (I.ok.hd hc) it a c n).item i s _ _ hg st fun v h' tk hv st' kk=>?_
  obtain ⟨t,rfl⟩:=hv;have I1:Inv X Np σ H { s with heap:=h',toks:=tk }:=I.turned (fun b o hb e=>kk b o (by simpa using hb) e) f0 f1 f3 f4 f5;exact ⟨_,rfl,lR (s:={ s with heap:=h',toks:=tk }) (n:="range_iterator") st' rfl rfl dC ⟨.int (a + (i:Int) * c),H,I1,⟨t,rfl⟩,⟨rfl,rfl⟩,st',fun b hb=>(hf b hb).1⟩⟩
 done:=by
  intro X hP hw hK hc i Np s σ H E I hf st hg;subst hP hw hK;obtain ⟨f0,f1,f2,f3,f4,f5⟩:=hf it (by simp);exact wpAny_pyNext_range_end (I.ok.hd hc) st (by have:n <= i:=hg;omega) fun h' eb=>⟨rfl,I.turned (t':=s.toks) (fun b o hb e=>eb b o hb e) f0 f1 f3 f4 f5⟩
 self:=fun _ _ _ _ _ st h=>wpAny_pyIter_rangeiter st h
noncomputable def nv (a b c:Int):Bool:=decide (0 < c) && Nat.ble c.natAbs 1000000 && Builtin.Range.small a b c
noncomputable def dR (a b c:Int):Nat:=(Builtin.Range.rangeSize a b c).toNat
def oO (a b c:Int):List AV:=(List.range (dR a b c)).map fun (i:Nat)=>.int (a + (i:Int) * c)
theorem sE {a b c:Int} (hc:0 < c):0 <= Builtin.Range.rangeSize a b c:=by
 unfold Builtin.Range.rangeSize;rw [yI (show c > 0 from hc)];split
 ·have:=Int.ediv_nonneg (a:=b - a - 1) (b:=c) oM oM;omega
 ·exact Int.le_refl _
section
variable {X:Cx}{tg:Expr}{mg:Gm}{P:Pr}{φ:List Addr}{H:Hp}{a b c:Expr}{f g h:EF}{p pos:Pos}
def LO (ta:TA):TI:=fun σ H R=>ta σ H fun vs H1=>∃ i j k:Int,vs=[.int i,.int j,.int k]/\nv i j k=true/\R (GN i k (dR i j k)) H1
theorem KC {ta:TA} (hg:Gl X "range") (hm:X.mg "range"=none) (ha:PA X [a,b,c] ta) (hs:starEach [a,b,c] X.env=[(false,eval a X.env),(false,eval b X.env),(false,eval c X.env)])
  (hs2:starEach [b,c] X.env=[(false,eval b X.env),(false,eval c X.env)]):PI X tg (.Call (.Name "range" p) [a,b,c] [] pos) (LO ta):=by
 intro Np s σ H R I h;refine Call_ (cF I hg hm boot_range (PyProof.Rows.callWith_type1 (aE (ha pos Np s σ H _ I h) fun us s1 hq0=>?_) (by rw [hs,hs2]) (by rw [hs2];rfl)));obtain ⟨vs,H1,I1,r1,i,j,k,e,hb,q⟩:=hq0;subst e;unfold nv at hb;simp only [zC,yC] at hb;obtain ⟨⟨h1,h2⟩,h3⟩:=hb;have h2:=zS h2;obtain ⟨u1,us1,rfl,ru1,r2⟩:∃ u us',us=u::us'/\RelV (.int i) u/\Vals [.int j,.int k] us':=by cases r1 with | cons r rr=>exact ⟨_,_,rfl,r,rr⟩
 obtain ⟨u2,us2,rfl,ru2,r3⟩:∃ u us',us1=u::us'/\RelV (.int j) u/\Vals [.int k] us':=by cases r2 with | cons r rr=>exact ⟨_,_,rfl,r,rr⟩
 obtain ⟨u3,us3,rfl,ru3,r4⟩:∃ u us',us2=u::us'/\RelV (.int k) u/\Vals [] us':=by cases r3 with | cons r rr=>exact ⟨_,_,rfl,r,rr⟩
 cases r4;obtain ⟨t1,rfl⟩:=ru1;obtain ⟨t2,rfl⟩:=ru2;obtain ⟨t3,rfl⟩:=ru3;refine call_range_3 oM ?_ (Or.inl (PyProof.noPylong_small oM));refine wpAny_pyIter_range (IsRange.new ..) h3 ?_;have I2:Inv X Np σ H1 { s1 with heap:=s1.heap.push { cls:=.type "range",data:=.fields #[.int i t1,.int j t2,.int k t3] },toks:=s1.toks }:=I1.kept fun b o e=>zG _ e
 refine ⟨(s1.heap.push { cls:=.type "range",data:=.fields #[.int i t1,.int j t2,.int k t3] }).objs.size,[(s1.heap.push { cls:=.type "range",data:=.fields #[.int i t1,.int j t2,.int k t3] }).objs.size],_,_,H1,rfl,I2.kept (t':=s1.toks) fun b o e=>zG _ e,Dx _ i k (dR i j k),?_,fun b hb=>?_,q⟩
 ·have e1:i + ((0:Nat):Int) * k=i:=by simp
  have e2:((dR i j k:Nat):Int) - ((0:Nat):Int)=Builtin.Range.rangeSize i j k:=by have:=sE (a:=i) (b:=j) h1;unfold dR;omega
  show IsRangeIter _ _ (i + ((0:Nat):Int) * k) (((dR i j k:Nat):Int) - ((0:Nat):Int)) k;rw [e1,e2];exact zY _ rfl
 ·obtain rfl:b=(s1.heap.push { cls:=.type "range",data:=.fields #[.int i t1,.int j t2,.int k t3] }).objs.size:=by simpa using hb
  exact I2.fpOk (zP _) (I2.Ny.fresh (zP _))
theorem HX [Nt] {i k:Int}{j:Int}:sk mg (GN i k (dR i j k)) ⟨oO i j k,[]⟩ P φ H where
 go:=fun P2 φ2 H2 st2 m y f s g e=>by
  unfold oO at e;rw [zR] at e;obtain ⟨c,e1,e2⟩:=zE.mp e;obtain ⟨h1,h2⟩:=zB.mp e1;rw [List.getElem_range] at h2;subst h2 e2;rw [List.length_range] at h1;refine ⟨h1,fun w H3 hq=>?_⟩;obtain ⟨hH,hw⟩:=hq;subst hH;exact ⟨P2,Frm.refl,s,by simp only [RA];exact hw⟩
 stop:=fun P2 φ2 H2 st2 f s g=>by
  show dR i j k <= (oO i j k).length;simp [oO]
theorem Jv [Nt] {σ:St}{Q:List V->Hp->Prop}{sl:Sl}{st:aa} (rs:ND mg P H φ sl σ) (s:Sim mg P φ st H)
  (hh:∃ v st1 u st2 x st3,f sl st=some (v,st1)/\g sl st1=some (u,st2)/\h sl st2=some (x,st3)/\∀ P1 φ1 H1 w w' w'',Frm P φ H P1 φ1 H1->Sim mg P1 φ1 st3 H1->RA mg P1 H1 φ1 v w->RA mg P1 H1 φ1 u w'->RA mg P1 H1 φ1 x w''->Q [w,w',w''] H1):rA mg (df f (df g (df h dF))) σ H Q:=by
 obtain ⟨v,st1,u,st2,x,st3,e,e',e'',k⟩:=hh;refine ⟨P,φ,sl,st,rs,s,[v,u,x],st3,by simp only [df,dF,e,e',e'',bind_some],fun P1 φ1 H1 ws f1 s1 r1=>?_⟩;simp only [Nv] at r1;obtain ⟨w,us,rfl,r,w',us',rfl,r',w'',us'',rfl,r'',rfl⟩:=r1;exact k P1 φ1 H1 w w' w'' f1 s1 r r' r''
def F7 (f g h:EF):IF:=fun sl st=>(f sl st).bind fun p=>(g sl p.2).bind fun q=>(h sl q.2).bind fun r=>match p.1,q.1,r.1 with
 | .int i,.int j,.int k=>if nv i j k=true then some (⟨oO i j k,[]⟩,r.2) else none
 | _,_,_=>none
theorem Hf [Nt] (hg:Gl X "range") (hm:X.mg "range"=none) (ha:QE X a f) (hb:QE X b g) (hc:QE X c h) (hs:starEach [a,b,c] X.env=[(false,eval a X.env),(false,eval b X.env),(false,eval c X.env)]) (hs2:starEach [b,c] X.env=[(false,eval b X.env),(false,eval c X.env)]) (hs3:starEach [c] X.env=[(false,eval c X.env)]) :
  QI X tg (.Call (.Name "range" p) [a,b,c] [] pos) (F7 f g h) :=
 f9 (KC hg hm (bK ha (bK hb (bK hc dI (by rw [hs3];rfl)) (by rw [hs2,hs3])) (by rw [hs,hs2])) hs hs2) fun σ H R hq=>by
  obtain ⟨P,φ,sl,st,rs,s,iv,st',ef,k⟩:=hq;obtain ⟨q,e1,e2⟩:=zA ef;obtain ⟨r,e3,e4⟩:=zA e2;obtain ⟨t,e5,e6⟩:=zA e4;refine Jv rs s ⟨q.1,q.2,r.1,r.2,t.1,t.2,e1,e3,e5,fun P1 φ1 H1 w w' w'' f1 s1 r1 r2 r3=>?_⟩;split at e6
  ·rename_i i j m ei ej em
   rw [ei] at r1;rw [ej] at r2;rw [em] at r3;split at e6
   ·rename_i hb
    cases e6;simp only [RA] at r1 r2 r3;subst r1;subst r2;subst r3;exact ⟨i,j,m,rfl,hb,k P1 φ1 H1 _ f1 s1 HX⟩
   ·cases e6
  ·cases e6
end
end R
namespace R
open PySem PySem.Spec PyProof.Rows L2 DD
theorem vy (a c:Int):∀ (l:List Value) (k:Nat),(∀ (j:Nat) (v:Value),l[j]?=some v->∃ t,v=.int (a + ((k + j:Nat):Int) * c) t)->Vals ((List.range' k l.length).map fun (q:Nat)=>V.int (a + (q:Int) * c)) l
 | [],_,_=>.nil
 | u::l,k,h=>by
  rw [yV,List.range'_succ,zO];refine .cons ?_ (vy a c l (k + 1) fun j v e=>?_)
  ·obtain ⟨t,e⟩:=h 0 u rfl
   exact ⟨t,e⟩
  ·obtain ⟨t,e2⟩:=h (j + 1) v (by simpa using e)
   exact ⟨t,by rw [e2,show k + (j + 1)=k + 1 + j by omega]⟩
def zh (i j k:Int):Bool:=nv i j k && Nat.ble (dR i j k) 1000
section
variable {X:Cx}{a b c:Expr}{f g h:EF}{p1 p2 pos pos2:Pos}
def DF (ta:TA):TE:=fun σ H Q=>ta σ H fun vs H1=>∃ i j k:Int,vs=[.int i,.int j,.int k]/\zh i j k=true/\∀ p,H1 p=none->Q (.ref p) (af H1 p (.lst ((List.range (dR i j k)).map fun (q:Nat)=>V.int (i + (q:Int) * k))))
theorem yj {ta:TA} (hc:X.calm=true) (hgl:Gl X "list") (hml:X.mg "list"=none) (hgr:Gl X "range") (hmr:X.mg "range"=none) (ha:PA X [a,b,c] ta)
  (hs:starEach [a,b,c] X.env=[(false,eval a X.env),(false,eval b X.env),(false,eval c X.env)]) (hs2:starEach [b,c] X.env=[(false,eval b X.env),(false,eval c X.env)]) :
  PE X (.Call (.Name "list" p1) [.Call (.Name "range" p2) [a,b,c] [] pos2] [] pos) (DF ta):=by
 intro Np s σ H Q I h;have hs1:starEach [.Call (.Name "range" p2) [a,b,c] [] pos2] X.env=[(false,eval (.Call (.Name "range" p2) [a,b,c] [] pos2) X.env)]:=rfl;refine Call_ (cF I hgl hml gZ (PyProof.Rows.callWith_type1 ?_ (by rw [hs1];rfl) (by rfl)));rw [hs1];refine Calls.spliced_cons (Call_ (cF I hgr hmr boot_range (PyProof.Rows.callWith_type1 (aE (ha pos2 Np s σ H _ I h) fun us s1 hq0=>?_) (by rw [hs,hs2]) (by rw [hs2];rfl))));obtain ⟨vs,H1,I1,r1,i,j,k,e,hb,q⟩:=hq0;subst e;unfold zh nv at hb;simp only [zC,yC] at hb;obtain ⟨⟨⟨h1,h2⟩,h3⟩,h4⟩:=hb;have h2:=zS h2;have h4:=zS h4;obtain ⟨u1,us1,rfl,ru1,r2⟩:∃ u us',us=u::us'/\RelV (.int i) u/\Vals [.int j,.int k] us':=by cases r1 with | cons r rr=>exact ⟨_,_,rfl,r,rr⟩
 obtain ⟨u2,us2,rfl,ru2,r3⟩:∃ u us',us1=u::us'/\RelV (.int j) u/\Vals [.int k] us':=by cases r2 with | cons r rr=>exact ⟨_,_,rfl,r,rr⟩
 obtain ⟨u3,us3,rfl,ru3,r4⟩:∃ u us',us2=u::us'/\RelV (.int k) u/\Vals [] us':=by cases r3 with | cons r rr=>exact ⟨_,_,rfl,r,rr⟩
 cases r4;obtain ⟨t1,rfl⟩:=ru1;obtain ⟨t2,rfl⟩:=ru2;obtain ⟨t3,rfl⟩:=ru3;refine call_range_3 oM (Calls.spliced_nil ?_) (Or.inl (PyProof.noPylong_small oM));have I2:Inv X Np σ H1 { s1 with heap:=s1.heap.push { cls:=.type "range",data:=.fields #[.int i t1,.int j t2,.int k t3] },toks:=s1.toks }:=I1.kept fun b o e=>zG _ e
 refine call_list_range (n:=dR i j k) (I.ok.hd hc) (IsRange.new ..) h3 (by have:=sE (a:=i) (b:=j) h1;unfold dR;omega) oM fun h' tk acc' c' hk hS hacc=>?_
 have hv:=vy i k acc'.toList 0 (fun i v e=>by
  obtain ⟨t,e2⟩:=hacc.2 i v (by simpa using e);exact ⟨t,by rw [e2,Nat.zero_add]⟩)
 rw [show acc'.toList.length=dR i j k by simpa using hacc.1,<- List.range_eq_range'] at hv;exact ⟨.ref _,_,I2.laid (o:=.lst ((List.range (dR i j k)).map fun (q:Nat)=>V.int (i + (q:Int) * k))) hk (zP _) ⟨yW (kH (by simp;omega)),acc'.toList,c',hv,hS⟩,rfl,q _ I2.fresh⟩
def yZ (f g h:EF):NF:=fun sl st=>(f sl st).bind fun p=>(g sl p.2).bind fun q=>(h sl q.2).bind fun r=>match p.1,q.1,r.1 with
 | .int i,.int j,.int k=>if zh i j k=true then some (oO i j k,r.2) else none
 | _,_,_=>none
theorem BA {mg:Gm}{P:Pr}{H:Hp}{φ:List Addr} (i k:Int):∀ l:List Nat,Nv mg P H φ (l.map fun (q:Nat)=>AV.int (i + (q:Int) * k)) (l.map fun (q:Nat)=>V.int (i + (q:Int) * k))
 | []=>ba
 | x::l=>aU (by simp only [RA]) (BA i k l)
theorem Eh [Nt] (hc:X.calm=true) (hgl:Gl X "list") (hml:X.mg "list"=none) (hgr:Gl X "range") (hmr:X.mg "range"=none) (ha:QE X a f) (hb:QE X b g) (hh:QE X c h)
  (hs:starEach [a,b,c] X.env=[(false,eval a X.env),(false,eval b X.env),(false,eval c X.env)]) (hs2:starEach [b,c] X.env=[(false,eval b X.env),(false,eval c X.env)]) (hs3:starEach [c] X.env=[(false,eval c X.env)]):QN X (.Call (.Name "list" p1) [.Call (.Name "range" p2) [a,b,c] [] pos2] [] pos) (yZ f g h) :=
 PE_imp (yj hc hgl hml hgr hmr (bK ha (bK hb (bK hh dI (by rw [hs3];rfl)) (by rw [hs2,hs3])) (by rw [hs,hs2])) hs hs2) fun σ H Q hq0=>by
  obtain ⟨P,φ,sl,st,rs,s,xs,st',ef,k⟩:=hq0;obtain ⟨q,e1,e2⟩:=zA ef;obtain ⟨r,e3,e4⟩:=zA e2;obtain ⟨t,e5,e6⟩:=zA e4;refine Jv rs s ⟨q.1,q.2,r.1,r.2,t.1,t.2,e1,e3,e5,fun P1 φ1 H1 w w' w'' f1 s1 r1 r2 r3=>?_⟩;split at e6
  ·rename_i i j m ei ej em
   rw [ei] at r1;rw [ej] at r2;rw [em] at r3;split at e6
   ·rename_i hb
    cases e6;simp only [RA] at r1 r2 r3;subst r1;subst r2;subst r3;exact ⟨i,j,m,rfl,hb,fun p hp=>k P1 φ1 H1 p _ f1 s1 hp (BA i m _)⟩
   ·cases e6
  ·cases e6
end
end R
namespace R
open PySem PySem.Spec PyProof.Rows L2
noncomputable def vM (d:PyData):Bool:=PyData.layable0 d && d.intsShort 13 && d.showable && decide (d.depth <= 40)
def qf:PyData->Option AV
 | .list xs=>if vM (.list xs)=true then some (.str (PyData.shown (.list xs))) else none
 | _=>none
def qg (st:aa):List AV->Option AV
 | [x]=>(aO 9 st x).bind qf
 | _=>none
section
variable {X:Cx}
theorem IB [Nt] (gd:X.A.guards=some []) (hu:X.A.units + 64 < cLine):cg X (.type "str") (rB X.gm (bQ qg)):=by
 rintro Np s σ H vs us Q I rv ⟨P,φ,st,xs,sm,r,k0⟩;obtain ⟨z,e,k⟩:=k0.map;unfold qg at e;split at e
 ·obtain ⟨d,h1,h2⟩:=zA e
  obtain ⟨w,ew,r9⟩:=r.one;clear r;subst ew;obtain ⟨u,rfl,ru⟩:=dQ rv;obtain ⟨as,ra⟩:=dW I sm 9 _ _ _ _ r9 h1 ru;unfold qf at h2;split at h2
  ·split at h2
   ·rename_i ys hb
    cases h2;unfold vM at hb;simp only [zC,yC] at hb;obtain ⟨⟨⟨b1,b2⟩,b3⟩,b4⟩:=hb;obtain ⟨a,rfl⟩:∃ a,u=.ref a:=by cases ra with | list=>exact ⟨_,rfl⟩
    exact str_of_reads ra b3 (PyData.noDict_hsm (PyData.hasDict_of_layable b1)) gd oM (fun _ _ e=>e) (fun h' u tk hk=>⟨.str _,H,I.kept hk,⟨_,rfl⟩,k.pure sm (by simp only [RA])⟩) (z5 (shown_le13 b1 b2) dC)
   ·cases h2
  ·cases h2
 ·cases e
end
set_option genInjectivity false
set_option genSizeOf false
set_option genSizeOfSpec false
inductive Bi where
 | len | sum | all | any | abs | min | max | str
inductive Mi where
 | app | pop | ext | clr | cnt
mutual
inductive Ex where
 | n | b (x:Bool) | i (x:Int) | s (x:Str) | v (k:Nat) | g (x:Str) (c:AV) | bin (o:Operator) (a b:Ex) | cmp (o:CmpOp) (a b:Ex) | un (o:UnaryOp) (a:Ex) | no (a:Ex) | an (a b:Ex) | or (a b:Ex) | ife (t:Tx) (a b:Ex) | ix (a b:Ex) | tu (es:Exs) | nw (m:Bool) (x:Nx) | ca (p:Bool) (j:Nat) (es:Exs) | me (c m:Str) (j:Nat) (o:Ex) (es:Exs) | ne (c:Str) (j:Nat) (es:Exs) | fd (c f:Str) (o:Ex) | bi (b:Bi) (es:Exs) | mt (m:Mi) (o:Ex) (es:Exs) | dn | mnd (a:Ex) | mnk (a key:Ex) | slt (a:Ex) (l h:Ox)
inductive Tx where
 | va (e:Ex) | cmp (o:CmpOp) (a b:Ex) | no (t:Tx) | an (t u:Tx) | or (t u:Tx)
inductive Exs where
 | nil | cons (e:Ex) (es:Exs)
inductive Nx where
 | li (es:Exs) | cat (a b:Ex) | rep (es:Exs) (b:Ex) | sl (a:Ex) (l h:Ox) | lof (a:Ex) | lc (k:Nat) (it:Ix) (t:Tg) (c:Cx') (e:Ex) | lr1 (a:Ex) | lr2 (a b:Ex) | lr3 (a b c:Ex)
inductive Ox where
 | no | so (e:Ex)
inductive Cx' where
 | no | so (t:Tx)
inductive Ix where
 | e (a:Ex) | r1 (a:Ex) | r2 (a b:Ex) | zi (a b:Ex) | en (a:Ex) | es (a b:Ex) | r3 (a b c:Ex)
inductive Tg where
 | nm (k:Nat) | tu (n:Nat) (ts:Tgs) | su (a b:Ex)
inductive Tgs where
 | nil | cons (t:Tg) (ts:Tgs)
end
mutual
inductive Sx where
 | ex (e:Ex) | as (e:Ex) (t:Tg) | aus (o:Operator) (a b e:Ex) | fl (c f:Str) (o e:Ex) | rt (e:Ex) | iff (t:Tx) (a b:Nw) | fo (it:Ix) (t:Tg) (b:Nw) | wh (t:Tx) (b:Nw) | dead | fd (a:Ex) (t:Tg) (b:Nw)
inductive Nw where
 | nil | cons (s:Sx) (ss:Nw) | dead
end
def ly:Bi->BF
 | .len=>bQ eE
 | .sum=>bQ uj
 | .all=>bQ vn
 | .any=>bQ rX
 | .abs=>bQ rY
 | .min=>bQ uH
 | .max=>bQ uJ
 | .str=>bQ qg
def jX:Mi->MF
 | .app=>jH
 | .pop=>uN
 | .ext=>uO
 | .clr=>uP
 | .cnt=>zg
noncomputable def jY:Mi->String
 | _=>"list"
def kf (ks:List Fn) (j:Nat):Fn:=ks.getD j fun _ _=>none
def jV (p:Bool) (fn:Fn):Fn:=if p=true then pm fn else fn
section
variable (ks:List Fn)
mutual
noncomputable def ev:Ex->EF
 | .n=>aC .non
 | .b x=>aC (.bl x)
 | .i x=>aC (.int x)
 | .s x=>aC (.str x)
 | .v k=>aV k
 | .g _ c=>aC c
 | .bin o a b=>a2 (ev a) (ev b) (kJ (cp o))
 | .cmp o a b=>a2 (ev a) (ev b) (kJ (mU o))
 | .un o a=>a1 (ev a) (DQ (l7 o))
 | .no a=>Bx (ev a)
 | .an a b=>By (ev a) (ev b)
 | .or a b=>Bv (ev a) (ev b)
 | .ife t a b=>JT (tv t) (ev a) (ev b)
 | .ix a b=>a2 (ev a) (ev b) (kJ cU)
 | .tu es=>JS (aS es)
 | .nw m x=>Bw m (gq x)
 | .ca p j es=>xm (jV p (kf ks j)) (aS es)
 | .me c m j o es=>xk c m (kf ks j) (ev o) (aS es)
 | .ne c j es=>xj c (kf ks j) (aS es)
 | .fd c f o=>JU c f (ev o)
 | .bi b es=>rZ (ly b) (aS es)
 | .mt m o es=>iz (jY m) (jX m) (ev o) (aS es)
 | .dn=>JV false
 | .mnd a=>rZ (bQ nK) (df (ev a) dF)
 | .mnk a key=>p5 (ev a) (ev key)
 | .slt a l h=>vp (ev a) (jq l) (jq h)
noncomputable def tv:Tx->TF
 | .va e=>tV (ev e)
 | .cmp o a b=>DI (ev a) (ev b) o
 | .no a=>Jk (tv a)
 | .an a b=>Jm (tv a) (tv b)
 | .or a b=>DB (tv a) (tv b)
noncomputable def aS:Exs->AF
 | .nil=>dF
 | .cons e es=>df (ev e) (aS es)
noncomputable def gq:Nx->NF
 | .li es=>JC (aS es)
 | .cat a b=>uG (ev a) (ev b)
 | .rep es b=>uD (aS es) (ev b)
 | .sl a l h=>pj (ev a) (jq l) (jq h)
 | .lof a=>mO (ev a)
 | .lc k it t c e=>A1 k (dS it) (bU t) (j1 c) (ev e)
 | .lr1 a=>uF (ev a)
 | .lr2 a b=>uE (ev a) (ev b)
 | .lr3 a b c=>yZ (ev a) (ev b) (ev c)
noncomputable def jq:Ox->OF
 | .no=>JA
 | .so e=>pi (ev e)
noncomputable def j1:Cx'->TF
 | .no=>Ji
 | .so e=>tv e
noncomputable def dS:Ix->IF
 | .e a=>iE (ev a)
 | .r1 a=>wM (ev a)
 | .r2 a b=>Bb (ev a) (ev b)
 | .zi a b=>iZ (ev a) (ev b)
 | .en a=>JL (ev a)
 | .es a b=>u4 (ev a) (ev b)
 | .r3 a b c=>F7 (ev a) (ev b) (ev c)
noncomputable def bU:Tg->GF
 | .nm k=>wR k
 | .tu n ts=>wQ n (i6 ts)
 | .su a b=>JN (ev a) (ev b)
noncomputable def i6:Tgs->sn
 | .nil=>Gb
 | .cons t ts=>Gf (bU t) (i6 ts)
end
mutual
noncomputable def cN:Sx->SF
 | .ex e=>Ju (ev ks e)
 | .as e t=>vP (ev ks e) (bU ks t)
 | .aus o a b e=>uo o (ev ks a) (ev ks b) (ev ks e)
 | .fl c f o e=>vO c f (ev ks o) (ev ks e)
 | .rt e=>Jq (ev ks e)
 | .iff t a b=>Js (tv ks t) (ai a) (ai b)
 | .fo it t b=>Jt (dS ks it) (bU ks t) (ai b)
 | .wh t b=>qk (tv ks t) (ai b)
 | .dead=>AL
 | .fd a t b=>um (ev ks a) (bU ks t) (ai b)
noncomputable def ai:Nw->SF
 | .nil=>Jr
 | .cons s ss=>Jp (cN s) (ai ss)
 | .dead=>AL
end
end
inductive Ke where
 | f (x:Str) (n:Nat) | m (c m:Str) (n:Nat) | k (c:Str) (n:Nat)
structure SC where
 N:List Str
 nm:List (Str × NameKind)
 cf:List Str
 ke:List Ke
 gs:List (Str × AV)
 cl:List (Str × List Str)
 la:List Pos
noncomputable def kd (C:SC) (x:Str):Option NameKind:=C.nm.lookup x
def xA (C:SC) (x:Str):Bool:=match kd C x with
 | some .local=>true
 | some .cell=>true
 | some .free=>true
 | _=>false
def uQ (C:SC) (x:Str):Bool:=match kd C x with
 | some .local=>true
 | some .cell=>C.cf.contains x
 | _=>false
def eu (C:SC) (x:Str):Bool:=(match kd C x with
 | some .globalImplicit=>true
 | _=>false) && !(x == ("__debug__":Str))
noncomputable def wo (C:SC) (k:Nat) (x:Str):Bool:=(match C.N[k]? with
 | some y=>y == x
 | none=>false) && !(x == ("__debug__":Str)) && !(x == ("__classdict__":Str))
def Ga (C:SC) (x:Str) (c:AV):Bool:=C.gs.any fun p=>p.1 == x && cC p.2 c && (nh c).isSome
noncomputable def Bn (C:SC) (c f:Str):Bool:=C.cl.any fun p=>p.1 == c && p.2.contains f
noncomputable def qU (C:SC) (j:Nat) (x:Str) (n:Nat):Bool:=match C.ke[j]? with
 | some (.f y m)=>y == x && m == n
 | _=>false
noncomputable def JI (C:SC) (j:Nat) (c m:Str) (n:Nat):Bool:=match C.ke[j]? with
 | some (.m c' m' k)=>c' == c && m' == m && k == n
 | _=>false
noncomputable def JJ (C:SC) (j:Nat) (c:Str) (n:Nat):Bool:=match C.ke[j]? with
 | some (.k c' k)=>c' == c && k == n
 | _=>false
noncomputable def bnames:List Str:=["len","sum","all","any","abs","min","max","int","tuple","range","zip","enumerate","list","isinstance","bool","str","sorted"]
noncomputable def Bi.nm:Bi->Str
 | .len=>"len"
 | .sum=>"sum"
 | .all=>"all"
 | .any=>"any"
 | .abs=>"abs"
 | .min=>"min"
 | .max=>"max"
 | .str=>"str"
noncomputable def Mi.nm:Mi->Str
 | .app=>"append"
 | .pop=>"pop"
 | .ext=>"extend"
 | .clr=>"clear"
 | .cnt=>"count"
noncomputable def EZ (sc:Scope):List Str:=(sc.names.filter fun p=>(match p.2 with | .local=>true | .cell=>true | _=>false) && !(p.1 == (".0":Str))).map (·.1)
noncomputable def wJ (sc:Scope) (x:Str):Bool:=match sc.names.lookup x with
 | some .free=>true
 | _=>false
def dX (C:SC) (sc:Scope):List Str:=(C.N.map fun x=>if wJ sc x=true then x else x++("!":Str))++EZ sc
noncomputable def JO:NameKind->Bool
 | .free=>true
 | _=>false
noncomputable def Bo:Option NameKind->Bool
 | some .cell=>true
 | _=>false
def blk (C:SC) (sc:Scope):SC:={ C with N:=dX C sc,nm:=sc.names.map fun p=>if (JO p.2 && Bo (kd C p.1))=true then (p.1,.cell) else (p.1,p.2),cf:=(sc.names.filter fun p=>Bo (some p.2)).map (·.1),la:=[] }
def rQ (C:SC) (sc:Scope):Bool :=
 (match sc.kind with | .function=>true | _=>false) && decide (sc.names.map (·.1)).Nodup && decide (dX C sc).Nodup &&
 (sc.names.all fun p=>match p.2 with | .free=>(match kd C p.1 with | some .cell=>true | some .free=>true | _=>false) | _=>true) &&
 ((List.range C.N.length).all fun i=>match (dX C sc)[i]? with
  | some x=>(match sc.names.lookup x with
   | some .free=>decide (C.N[i]?=some x)
   | some _=>false
   | none=>true)
  | none=>false)
mutual
noncomputable def oH (n:Nat):Tg->Bool
 | .nm k=>Nat.ble n k
 | .tu _ ts=>pR n ts
 | .su _ _=>false
noncomputable def pR (n:Nat):Tgs->Bool
 | .nil=>true
 | .cons t ts=>oH n t && pR n ts
end
def FS (C:SC) (sc:Scope):SC:={ C with N:=dX C sc,nm:=sc.names,cf:=[],ke:=[],la:=[] }
noncomputable def LM (C:SC) (p:Pos):Bool:=C.la.any fun q=>q.line == p.line && q.col == p.col && q.endLine == p.endLine && q.endCol == p.endCol
def zp (C:SC) (sc:Scope) (ps:Arguments):Bool:=rQ C sc && !sc.isCoroutine && !sc.isGenerator && plainA ps && ps.defaults.isEmpty && ps.kw_defaults.isEmpty &&
 (match EZ sc,ps.args.map (·.arg) with
  | [x],[y]=>x == y && (match sc.names.lookup x with | some .local=>true | _=>false)
  | _,_=>false) && sc.names.all fun p=>!(Bo (some p.2))
noncomputable def lJ:Ex->Bool
 | .v _=>true
 | .i _=>true
 | .ix a b=>lJ a && lJ b
 | .fd _ _ o=>lJ o
 | _=>false
theorem aQ {P:Prop} (h:false=true):P:=nomatch h
theorem bx {a b:Bool}{P:Prop} (h:(a && b)=true) (H:a=true->b=true->P):P:=by cases a;exact aQ h;exact H rfl h
section
variable {e:Expr}{s:Stmt}
noncomputable def ph (e:Expr) (k:Str->Bool):Bool:=match e with | .Name x _=>k x | _=>false
@[elab_as_elim] theorem hZ {k:Str->Bool}{P:Expr->Prop} (h:ph e k=true) (H:∀ x p,k x=true->P (.Name x p)):P e:=by cases e with | Name x p=>exact H x p h | _=>exact aQ h
noncomputable def qD (e:Expr) (k:Const->Bool):Bool:=match e with | .Constant c _ _=>k c | _=>false
@[elab_as_elim] theorem jk {k:Const->Bool}{P:Expr->Prop} (h:qD e k=true) (H:∀ c a p,k c=true->P (.Constant c a p)):P e:=by cases e with | Constant c a p=>exact H c a p h | _=>exact aQ h
noncomputable def kN (c:Const):Bool:=match c with | .none=>true | _=>false
noncomputable def kB (x:Bool) (c:Const):Bool:=match c with | .bool y=>x == y | _=>false
noncomputable def kI (x:Int) (c:Const):Bool:=match c with | .int y=>x == y | _=>false
noncomputable def kS (x:Str) (c:Const):Bool:=match c with | .str y=>x == y | _=>false
theorem uY {c:Const} (h:kN c=true):c=.none:=by cases c with | none=>rfl | _=>exact aQ h
theorem HV {x:Bool}{c:Const} (h:kB x c=true):c=.bool x:=by cases c with | bool y=>rw [yK h] | _=>exact aQ h
theorem HU {x:Int}{c:Const} (h:kI x c=true):c=.int x:=by cases c with | int y=>rw [yK h] | _=>exact aQ h
theorem HS {x:Str}{c:Const} (h:kS x c=true):c=.str x:=by cases c with | str y=>rw [yK h] | _=>exact aQ h
noncomputable def AY (e:Expr) (k:Expr->Operator->Expr->Bool):Bool:=match e with | .BinOp a o b _=>k a o b | _=>false
@[elab_as_elim] theorem qE {k:Expr->Operator->Expr->Bool}{P:Expr->Prop} (h:AY e k=true) (H:∀ a o b p,k a o b=true->P (.BinOp a o b p)):P e:=by cases e with | BinOp a o b p=>exact H a o b p h | _=>exact aQ h
noncomputable def di {α:Type} (l:List α) (k:α->Bool):Bool:=match l with | []=>false | a::r=>r.isEmpty && k a
@[elab_as_elim] theorem bL {α:Type}{l:List α}{k:α->Bool}{P:List α->Prop} (h:di l k=true) (H:∀ a,k a=true->P ([a])):P l:=by
 rcases l with _ | ⟨a,_ | ⟨b,r⟩⟩
 ·exact aQ h
 ·exact H a h
 ·exact aQ h
def oR {α:Type} (l:List α) (k:α->α->Bool):Bool:=match l with | []=>false | a::r=>di r (k a)
@[elab_as_elim] theorem jj {α:Type}{l:List α}{k:α->α->Bool}{P:List α->Prop} (h:oR l k=true) (H:∀ a b,k a b=true->P ([a,b])):P l:=by
 cases l with
 | nil=>exact aQ h
 | cons a r=>exact bL h fun b h=>H a b h
def Fb (e:Expr) (k:Expr->CmpOp->Expr->Bool):Bool:=match e with | .Compare a os bs _=>di os fun o=>di bs fun b=>k a o b | _=>false
@[elab_as_elim] theorem wf {k:Expr->CmpOp->Expr->Bool}{P:Expr->Prop} (h:Fb e k=true) (H:∀ a o b p,k a o b=true->P (.Compare a [o] [b] p)):P e:=by
 cases e with
 | Compare a os bs p=>refine bL h fun o h=>?_;refine bL h fun b h=>?_;exact H a o b p h
 | _=>exact aQ h
def yu {α:Type} (l:List α) (k:α->α->α->Bool):Bool:=match l with | []=>false | a::r=>oR r (k a)
@[elab_as_elim] theorem sQ {α:Type}{l:List α}{k:α->α->α->Bool}{P:List α->Prop} (h:yu l k=true) (H:∀ a b c,k a b c=true->P [a,b,c]):P l:=by
 cases l with
 | nil=>exact aQ h
 | cons a r=>exact jj h fun b c h=>H a b c h
noncomputable def AX (e:Expr) (k:UnaryOp->Expr->Bool):Bool:=match e with | .UnaryOp o a _=>k o a | _=>false
@[elab_as_elim] theorem qA {k:UnaryOp->Expr->Bool}{P:Expr->Prop} (h:AX e k=true) (H:∀ o a p,k o a=true->P (.UnaryOp o a p)):P e:=by cases e with | UnaryOp o a p=>exact H o a p h | _=>exact aQ h
noncomputable def sO (o:BoolOp) (e:Expr) (k:Expr->Expr->Bool):Bool:=match e with | .BoolOp o' es p=>decide (o=o') && (match es with | x::y::r=>k x (if r.isEmpty=true then y else .BoolOp o (y::r) p) | _=>false) | _=>false
noncomputable def sM (e:Expr) (k:List Expr->Bool):Bool:=match e with | .Tuple es _ _=>k es | _=>false
@[elab_as_elim] theorem kQ {k:List Expr->Bool}{P:Expr->Prop} (h:sM e k=true) (H:∀ es a p,k es=true->P (.Tuple es a p)):P e:=by cases e with | Tuple es a p=>exact H es a p h | _=>exact aQ h
noncomputable def yt (e:Expr) (k:List Expr->Bool):Bool:=match e with | .List es _=>k es | _=>false
@[elab_as_elim] theorem sP {k:List Expr->Bool}{P:Expr->Prop} (h:yt e k=true) (H:∀ es p,k es=true->P (.List es p)):P e:=by cases e with | List es p=>exact H es p h | _=>exact aQ h
noncomputable def we (e:Expr) (k:Expr->Expr->Bool):Bool:=match e with | .Subscript a b _=>k a b | _=>false
@[elab_as_elim] theorem nE {k:Expr->Expr->Bool}{P:Expr->Prop} (h:we e k=true) (H:∀ a b p,k a b=true->P (.Subscript a b p)):P e:=by cases e with | Subscript a b p=>exact H a b p h | _=>exact aQ h
noncomputable def Jx (e:Expr) (k:Option Expr->Option Expr->Option Expr->Bool):Bool:=match e with | .Slice a b c _=>k a b c | _=>false
@[elab_as_elim] theorem E9 {k:Option Expr->Option Expr->Option Expr->Bool}{P:Expr->Prop} (h:Jx e k=true) (H:∀ a b c p,k a b c=true->P (.Slice a b c p)):P e:=by cases e with | Slice a b c p=>exact H a b c p h | _=>exact aQ h
noncomputable def sS (e:Expr) (k:Expr->List Expr->List Keyword->Pos->Bool):Bool:=match e with | .Call f es ks p=>k f es ks p | _=>false
@[elab_as_elim] theorem kR {k:Expr->List Expr->List Keyword->Pos->Bool}{P:Expr->Prop} (h:sS e k=true) (H:∀ f es ks p,k f es ks p=true->P (.Call f es ks p)):P e:=by cases e with | Call f es ks p=>exact H f es ks p h | _=>exact aQ h
noncomputable def AZ (e:Expr) (k:Expr->Str->Pos->Bool):Bool:=match e with | .Attribute o f p=>k o f p | _=>false
@[elab_as_elim] theorem qF {k:Expr->Str->Pos->Bool}{P:Expr->Prop} (h:AZ e k=true) (H:∀ o f p,k o f p=true->P (.Attribute o f p)):P e:=by cases e with | Attribute o f p=>exact H o f p h | _=>exact aQ h
def gH (e:Expr) (k:Str->List Expr->Bool):Bool:=sS e fun f es ks _=>ph f fun x=>ks.isEmpty && k x es
@[elab_as_elim] theorem cQ {k:Str->List Expr->Bool}{P:Expr->Prop} (h:gH e k=true) (H:∀ x p es q,k x es=true->P (.Call (.Name x p) es [] q)):P e:=by
 refine kR h fun f es ks q h=>?_
 refine hZ h fun x p h=>?_
 cases ks with
 | nil=>exact H x p es q h
 | cons _ _=>exact aQ h
def yx (e:Expr) (k:Expr->Str->Pos->List Expr->Pos->Bool):Bool:=sS e fun f es ks p=>AZ f fun o m ap=>ks.isEmpty && k o m ap es p
@[elab_as_elim] theorem sU {k:Expr->Str->Pos->List Expr->Pos->Bool}{P:Expr->Prop} (h:yx e k=true) (H:∀ o m ap es p,k o m ap es p=true->P (.Call (.Attribute o m ap) es [] p)):P e:=by
 refine kR h fun f es ks q h=>?_
 refine qF h fun o m p h=>?_
 cases ks with
 | nil=>exact H o m p es q h
 | cons _ _=>exact aQ h
def yr (e:Expr) (k:Expr->Option Expr->Option Expr->Bool):Bool:=we e fun a b=>Jx b fun l h c=>c.isNone && k a l h
@[elab_as_elim] theorem sN {k:Expr->Option Expr->Option Expr->Bool}{P:Expr->Prop} (h:yr e k=true) (H:∀ a l r p q,k a l r=true->P (.Subscript a (.Slice l r none p) q)):P e:=by
 refine nE h fun a b q h=>?_
 refine E9 h fun l r c p h=>?_
 cases c with
 | none=>exact H a l r p q h
 | some _=>exact aQ h
noncomputable def qC (w:Keyword) (k:Str->Expr->Bool):Bool:=match w with | ⟨some y,v,_⟩=>k y v | ⟨none,_,_⟩=>false
@[elab_as_elim] theorem lL {w:Keyword}{k:Str->Expr->Bool}{P:Keyword->Prop} (h:qC w k=true) (H:∀ y v p,k y v=true->P (⟨some y,v,p⟩)):P w:=by
 obtain ⟨o,v,p⟩:=w;cases o with
 | some y=>exact H y v p h
 | none=>exact aQ h
noncomputable def Fd (e:Expr) (k:Expr->Expr->Expr->Bool):Bool:=match e with | .IfExp a b c _=>k a b c | _=>false
@[elab_as_elim] theorem CK {k:Expr->Expr->Expr->Bool}{P:Expr->Prop} (h:Fd e k=true) (H:∀ a b c p,k a b c=true->P (.IfExp a b c p)):P e:=by cases e with | IfExp a b c p=>exact H a b c p h | _=>exact aQ h
noncomputable def F1 (e:Expr):Bool:=match e with | .Dict a b _=>a.isEmpty && b.isEmpty | _=>false
theorem Da (h:F1 e=true):∃ p,e=.Dict [] [] p:=by
 cases e with
 | Dict a b p =>
  cases a with
  | nil=>cases b with
   | nil=>exact ⟨p,rfl⟩
   | cons _ _=>exact aQ h
  | cons _ _=>exact aQ h
 | _=>exact aQ h
noncomputable def Fc (e:Expr) (k:Arguments->Expr->Scope->Pos->Bool):Bool:=match e with | .Lambda a b s p=>k a b s p | _=>false
@[elab_as_elim] theorem CJ {k:Arguments->Expr->Scope->Pos->Bool}{P:Expr->Prop} (h:Fc e k=true) (H:∀ a b s p,k a b s p=true->P (.Lambda a b s p)):P e:=by cases e with | Lambda a b s p=>exact H a b s p h | _=>exact aQ h
def Jz (e:Expr) (k:Expr->Expr->Expr->List Expr->Scope->Bool):Bool:=match e with | .ListComp a gs sc _=>di gs (fun g=>decide (g.is_async=0) && k a g.target g.iter g.ifs sc) | _=>false
@[elab_as_elim] theorem Ff {k:Expr->Expr->Expr->List Expr->Scope->Bool}{P:Expr->Prop} (h:Jz e k=true) (H:∀ a t it cs sc p,k a t it cs sc=true->P (.ListComp a [⟨t,it,cs,0⟩] sc p)):P e:=by
 cases e with
 | ListComp a gs sc p =>
  refine bL h fun g h=>?_
  obtain ⟨t,it,cs,i⟩:=g;refine bx h fun h1 h=>?_
  cases of_decide_eq_true h1;exact H a t it cs sc p h
 | _=>exact aQ h
theorem fu {a b c:Bool}{P:Prop} (h:(a && b && c)=true) (H:a=true->b=true->c=true->P):P:=bx h fun x y=>bx x fun h0 h1=>H h0 h1 y
theorem fJ {a b c d:Bool}{P:Prop} (h:(a && b && c && d)=true) (H:a=true->b=true->c=true->d=true->P):P:=bx h fun x y=>fu x fun h0 h1 h2=>H h0 h1 h2 y
theorem iS {a b c d e:Bool}{P:Prop} (h:(a && b && c && d && e)=true) (H:a=true->b=true->c=true->d=true->e=true->P):P:=bx h fun x y=>fJ x fun h0 h1 h2 h3=>H h0 h1 h2 h3 y
end
mutual
noncomputable def aY:Ex->SC->Expr->Bool
 | .n,_,e=>qD e kN
 | .b x,_,e=>qD e (kB x)
 | .i x,_,e=>qD e (kI x)
 | .s x,_,e=>qD e (kS x)
 | .v k,C,e=>ph e fun x=>wo C k x && xA C x
 | .g x c,C,e=>ph e fun y=>x == y && eu C x && Ga C x c
 | .bin o a b,C,e=>AY e fun a' o' b'=>decide (o=o') && aY a C a' && aY b C b'
 | .cmp o a b,C,e=>Fb e fun a' o' b'=>decide (o=o') && aY a C a' && aY b C b' && lO o b'
 | .un o a,C,e=>AX e fun o' a'=>decide (o=o') && aY a C a'
 | .no a,C,e=>AX e fun o' a'=>decide (UnaryOp.Not=o') && aY a C a'
 | .an a b,C,e=>sO .And e fun x y=>aY a C x && aY b C y
 | .or a b,C,e=>sO .Or e fun x y=>aY a C x && aY b C y
 | .ife t a b,C,e=>Fd e fun t' a' b'=>kU t C t' && aY a C a' && aY b C b'
 | .ix a b,C,e=>we e fun a' b'=>aY a C a' && aY b C b' && jl b'
 | .tu es,C,e=>sM e fun es'=>jW es C es'
 | .nw _ x,C,e=>A3 x C e
 | .ca _ j es,C,e=>gH e fun x es'=>qU C j x es'.length && eu C x && jW es C es' && es'.all aX
 | .me c m j o es,C,e=>yx e fun o' m' ap es' p=>m == m' && JI C j c m (es'.length + 1) && aY o C o' && jW es C es' && (es'.all aX && Nat.blt es'.length 30 && mN o' && (ap.endLine == p.line))
 | .ne c j es,C,e=>gH e fun x es'=>c == x && JJ C j c (es'.length + 1) && eu C c && jW es C es' && (es'.all aX && !es'.isEmpty)
 | .fd c f o,C,e=>AZ e fun o' f' _=>f == f' && Bn C c f && aY o C o' && mN o'
 | .bi b es,C,e=>gH e fun x es'=>x == b.nm && eu C x && jW es C es' && es'.all aX && !es'.isEmpty
 | .mt m o es,C,e=>yx e fun o' m' ap es' p=>m.nm == m' && aY o C o' && jW es C es' && (es'.all aX && Nat.blt es'.length 30 && mN o' && (ap.endLine == p.line))
 | .dn,_,e=>F1 e
 | .mnd a,C,e=>sS e fun f es ks _=>ph f fun x=>di es fun a'=>di ks fun w=>qC w fun y d=>qD d fun c=>kN c && (x == ("min":Str) && y == ("default":Str) && eu C x && aY a C a' && aX a')
 | .mnk a key,C,e=>sS e fun f es ks _=>ph f fun x=>di es fun a'=>oR ks fun w u=>qC w fun y l=>qC u fun z d=>Fc l fun ps body sc lp=>qD d fun c=>kN c && (x == ("min":Str) && y == ("key":Str) && z == ("default":Str) && eu C x && aY a C a') && (aX a' && LM C lp && zp C sc ps && lJ key && aY key (FS C sc) body)
 | .slt a l h,C,e=>yr e fun a' l' h'=>aY a C a' && sZ l C l' && sZ h C h'
noncomputable def kU:Tx->SC->Expr->Bool
 | .va a,C,e=>v3 e && aY a C e
 | .cmp o a b,C,e=>Fb e fun a' o' b'=>decide (o=o') && aY a C a' && aY b C b' && lO o b'
 | .no a,C,e=>AX e fun o' a'=>decide (UnaryOp.Not=o') && kU a C a'
 | .an a b,C,e=>sO .And e fun x y=>kU a C x && kU b C y
 | .or a b,C,e=>sO .Or e fun x y=>kU a C x && kU b C y
noncomputable def jW:Exs->SC->List Expr->Bool
 | .nil,_,es=>es.isEmpty
 | .cons a as,C,es=>match es with
  | e::es=>aX e && aY a C e && jW as C es
  | _=>false
noncomputable def A3:Nx->SC->Expr->Bool
 | .li es,C,e=>yt e fun es'=>jW es C es'
 | .cat a b,C,e=>AY e fun a' o' b'=>decide (Operator.Add=o') && aY a C a' && aY b C b'
 | .rep es b,C,e=>AY e fun a' o' b'=>decide (Operator.Mult=o') && yt a' fun es'=>jW es C es' && aY b C b'
 | .sl a l h,C,e=>yr e fun a' l' h'=>aY a C a' && sZ l C l' && sZ h C h'
 | .lof a,C,e=>gH e fun x es=>di es fun a'=>x == ("list":Str) && eu C x && aY a C a' && aX a'
 | .lc k it t c a,C,e=>Jz e fun a' t' it' cs sc=>Fw it C t' it' && uC it' && rQ C sc && (k == (dX C sc).length - C.N.length) && (oH C.N.length t && tf t (blk C sc) t' && JE c (blk C sc) cs && aY a (blk C sc) a')
 | .lr1 a,C,e=>gH e fun x es=>di es fun d=>gH d fun y es=>di es fun a'=>(x == ("list":Str) && y == ("range":Str)) && eu C x && eu C y && aY a C a' && aX a'
 | .lr2 a b,C,e=>gH e fun x es=>di es fun d=>gH d fun y es=>oR es fun a' b'=>(x == ("list":Str) && y == ("range":Str)) && (eu C x && eu C y) && aY a C a' && aY b C b' && (aX a' && aX b')
 | .lr3 a b c,C,e=>gH e fun x es=>di es fun d=>gH d fun y es=>yu es fun a' b' c'=>(x == ("list":Str) && y == ("range":Str)) && (eu C x && eu C y) && (aY a C a' && aY b C b' && aY c C c') && (aX a' && aX b' && aX c')
noncomputable def sZ:Ox->SC->Option Expr->Bool
 | .no,_,e=>e.isNone
 | .so a,C,e=>match e with
  | some e=>aY a C e
  | none=>false
noncomputable def JE:Cx'->SC->List Expr->Bool
 | .no,_,e=>e.isEmpty
 | .so t,C,e=>di e fun e=>kU t C e
noncomputable def Fw:Ix->SC->Expr->Expr->Bool
 | .e a,C,_,e=>aY a C e
 | .r1 a,C,_,e=>gH e fun x es=>di es fun a'=>x == ("range":Str) && eu C x && aY a C a' && aX a'
 | .r2 a b,C,_,e=>gH e fun x es=>oR es fun a' b'=>x == ("range":Str) && eu C x && aY a C a' && aY b C b' && (aX a' && aX b')
 | .zi a b,C,t,e=>sM t fun _=>gH e fun x es=>oR es fun a' b'=>x == ("zip":Str) && eu C x && aY a C a' && aY b C b' && (aX a' && aX b')
 | .en a,C,t,e=>sM t fun _=>gH e fun x es=>di es fun a'=>x == ("enumerate":Str) && eu C x && aY a C a' && aX a'
 | .es a b,C,t,e=>sM t fun _=>sS e fun f es ks _=>ph f fun x=>di es fun a'=>di ks fun w=>qC w fun y b'=>(x == ("enumerate":Str) && y == ("start":Str)) && eu C x && aY a C a' && aY b C b' && aX a'
 | .r3 a b c,C,_,e=>gH e fun x es=>yu es fun a' b' c'=>x == ("range":Str) && eu C x && (aY a C a' && aY b C b' && aY c C c') && (aX a' && aX b' && aX c')
noncomputable def tf:Tg->SC->Expr->Bool
 | .nm k,C,e=>ph e fun x=>wo C k x && uQ C x
 | .tu n ts,C,e=>sM e fun es=>(es.length == n) && es.all aX && y9 ts C es
 | .su a b,C,e=>we e fun a' b'=>aY a C a' && aY b C b' && jl b'
noncomputable def y9:Tgs->SC->List Expr->Bool
 | .nil,_,es=>es.isEmpty
 | .cons t ts,C,es=>match es with
  | e::es=>aX e && tf t C e && y9 ts C es
  | _=>false
end
theorem qB {o:BoolOp}{e:Expr}{k:Expr->Expr->Bool}{Q:Prop} (h:sO o e k=true) (H1:∀ x y p,e=.BoolOp o [x,y] p->k x y=true->Q) (H2:∀ x y z r p,e=.BoolOp o (x::y::z::r) p->k x (.BoolOp o (y::z::r) p)=true->Q):Q:=by
 cases e with
 | BoolOp o' es p =>
  refine bx h fun h1 h2=>?_
  clear h;cases of_decide_eq_true h1;rcases es with _ | ⟨x,_ | ⟨y,_ | ⟨z,r⟩⟩⟩
  ·exact aQ h2
  ·exact aQ h2
  ·exact H1 x y p rfl h2
  ·exact H2 x y z r p rfl h2
 | _=>exact aQ h
@[elab_as_elim] theorem nF {o:BoolOp}{e:Expr}{k:Expr->Expr->Bool}{P:Expr->Prop} (h:sO o e k=true) (H1:∀ x y p,k x y=true->P (.BoolOp o [x,y] p)) (H2:∀ x y z r p,k x (.BoolOp o (y::z::r) p)=true->P (.BoolOp o (x::y::z::r) p)):P e :=
 qB h (fun x y p e h=>e ▸ H1 x y p h) fun x y z r p e h=>e ▸ H2 x y z r p h
section
variable {s:Stmt}
def yy (s:Stmt) (k:Expr->Expr->Bool):Bool:=match s with | .Assign ts e _=>di ts fun t=>k t e | _=>false
@[elab_as_elim] theorem sV {k:Expr->Expr->Bool}{P:Stmt->Prop} (h:yy s k=true) (H:∀ t e p,k t e=true->P (.Assign [t] e p)):P s:=by
 cases s with
 | Assign ts e p=>exact bL h fun t h=>H t e p h
 | _=>exact aQ h
noncomputable def Fh (s:Stmt) (k:Expr->Operator->Expr->Bool):Bool:=match s with | .AugAssign t o e _=>k t o e | _=>false
@[elab_as_elim] theorem CM {k:Expr->Operator->Expr->Bool}{P:Stmt->Prop} (h:Fh s k=true) (H:∀ t o e p,k t o e=true->P (.AugAssign t o e p)):P s:=by cases s with | AugAssign t o e p=>exact H t o e p h | _=>exact aQ h
noncomputable def yw (s:Stmt) (k:Expr->Expr->List Stmt->Bool):Bool:=match s with | .For t it b r _=>r.isEmpty && k t it b | _=>false
@[elab_as_elim] theorem sR {k:Expr->Expr->List Stmt->Bool}{P:Stmt->Prop} (h:yw s k=true) (H:∀ t it b p,k t it b=true->P (.For t it b [] p)):P s:=by
 cases s with
 | For t it b r p=>cases r with
  | nil=>exact H t it b p h
  | cons _ _=>exact aQ h
 | _=>exact aQ h
noncomputable def E8 (s:Stmt) (k:Expr->List Stmt->Bool):Bool:=match s with | .While t b r _=>r.isEmpty && k t b | _=>false
@[elab_as_elim] theorem CH {k:Expr->List Stmt->Bool}{P:Stmt->Prop} (h:E8 s k=true) (H:∀ t b p,k t b=true->P (.While t b [] p)):P s:=by
 cases s with
 | While t b r p=>cases r with
  | nil=>exact H t b p h
  | cons _ _=>exact aQ h
 | _=>exact aQ h
noncomputable def Jy (s:Stmt) (k:Expr->List Stmt->List Stmt->Bool):Bool:=match s with | .If t a b _=>k t a b | _=>false
@[elab_as_elim] theorem Fe {k:Expr->List Stmt->List Stmt->Bool}{P:Stmt->Prop} (h:Jy s k=true) (H:∀ t a b p,k t a b=true->P (.If t a b p)):P s:=by cases s with | If t a b p=>exact H t a b p h | _=>exact aQ h
noncomputable def Fg (s:Stmt) (k:Expr->Bool):Bool:=match s with | .Expr e _=>k e | _=>false
@[elab_as_elim] theorem CL {k:Expr->Bool}{P:Stmt->Prop} (h:Fg s k=true) (H:∀ e p,k e=true->P (.Expr e p)):P s:=by cases s with | Expr e p=>exact H e p h | _=>exact aQ h
noncomputable def Fa (s:Stmt) (k:Option Expr->Bool):Bool:=match s with | .Return e _=>k e | _=>false
@[elab_as_elim] theorem CI {k:Option Expr->Bool}{P:Stmt->Prop} (h:Fa s k=true) (H:∀ e p,k e=true->P (.Return e p)):P s:=by cases s with | Return e p=>exact H e p h | _=>exact aQ h
end
noncomputable def zu (e:Expr):Bool:=match e with | .ListComp _ _ _ _=>true | _=>false
@[elab_as_elim] theorem C9 {e:Expr}{P:Expr->Prop} (h:zu e=true) (H:∀ a g s p,P (.ListComp a g s p)):P e:=by cases e with | ListComp a g s p=>exact H a g s p | _=>exact aQ h
def JR (t e:Expr):Bool:=match t with | .Name _ _=>lM e || zu e | .Subscript _ _ _=>true | .Tuple _ _ _=>yY e && lM e | _=>false
@[elab_as_elim] theorem GG {t e:Expr}{P:Expr->Prop} (h:JR t e=true) (H1:(lM e || zu e)=true->∀ x p,P (.Name x p)) (H2:∀ a b p,P (.Subscript a b p)) (H3:(yY e && lM e)=true->∀ es k p,P (.Tuple es k p)):P t:=by
 cases t with
 | Name x p=>exact H1 h x p
 | Subscript a b p=>exact H2 a b p
 | Tuple es k p=>exact H3 h es k p
 | _=>exact aQ h
@[elab_as_elim] theorem LL {a:Ex}{C:SC}{elt:Expr}{g:List Comprehension}{sc:Scope}{p:Pos}{P:Ex->Prop} (h:aY a C (.ListComp elt g sc p)=true) (H:∀ m k it t c b,A3 (.lc k it t c b) C (.ListComp elt g sc p)=true->P (.nw m (.lc k it t c b))):P a:=by
 cases a with
 | nw m n=>cases n with
  | lc k it t c b=>exact H m k it t c b h
  | _=>exact aQ h
 | _=>exact aQ h
mutual
noncomputable def JD:Sx->SC->Stmt->Bool
 | .ex a,C,s=>Fg s fun e=>aY a C e && lM e
 | .as a t,C,s=>yy s fun t' e=>aY a C e && tf t C t' && JR t' e
 | .aus o a b c,C,s=>Fh s fun t o' e=>we t fun a' b'=>decide (o=o') && aY a C a' && aY b C b' && aY c C e && jl b'
 | .fl c f o a,C,s=>yy s fun t e=>AZ t fun o' f' _=>f == f' && Bn C c f && aY o C o' && aY a C e
 | .rt a,C,s=>Fa s fun e=>sZ (.so a) C e
 | .iff t a b,C,s=>Jy s fun e x y=>kU t C e && kW a C x && kW b C y
 | .fo it t b,C,s=>yw s fun t' it' x=>Fw it C t' it' && uC it' && tf t C t' && kW b C x
 | .wh t b,C,s=>E8 s fun e x=>kU t C e && kW b C x
 | .dead,_,_=>true
 | .fd a t b,C,s=>yw s fun t' it' x=>aY a C it' && uC it' && tf t C t' && kW b C x
noncomputable def kW:Nw->SC->List Stmt->Bool
 | .nil,_,s=>s.isEmpty
 | .cons a as,C,s=>match s with
  | s::ss=>JD a C s && kW as C ss
  | _=>false
 | .dead,_,_=>true
end
def GM [Nt] (P:Program) (w:World) (K:Frag) (mg:Str->Option Value) (base:Heap) (A:Around) (fn:Fn):Ke->Prop
 | .f x n=>∃ d f fd ps,ps.length=n/\FnOk P w K mg base eB d f fd ps (dg ⟨K,mg⟩ ps.length fn)/\Room d A/\mg x=some (.ref f)/\keepIn K (.ref f)=true/\Binds K fd ps []
 | .m c m n=>∃ d f fd ps C,ps.length=n/\FnOk P w K mg base eB d f fd ps (dg ⟨K,mg⟩ ps.length fn)/\Room d A/\mg c=some (.ref C)/\Cls K C/\jR K C m f/\Binds K fd ps []
 | .k c n=>∃ d f fd ps C,ps.length=n/\FnOk P w K mg base eB d f fd ps (dg ⟨K,mg⟩ ps.length fn)/\Room (d + 1) A/\mg c=some (.ref C)/\Mk K C f/\Binds K fd ps []
structure Fit [Nt] (X:Cx) (C:SC) (ks:List Fn):Prop where
 N:X.N=C.N
 nm:X.env.scope.names=C.nm
 nd:C.N.Nodup
 kind:X.env.scope.kind=.function
 calm:X.calm=true
 cf:∀ x ∈ C.cf,X.fn x=true
 hu:X.A.units + 64 < cLine
 gd:X.A.guards=some []
 bl:∀ x ∈ bnames,X.mg x=none
 po:PassesOwn (model X.prog X.w) X.A X.env X.xe
 ke:∀ (j:Nat) k,C.ke[j]?=some k->GM X.prog X.w X.K X.mg X.base X.A (kf ks j) k
 gs:∀ p ∈ C.gs,∀ w,nh p.2=some w->∃ u,X.mg p.1=some u/\RelV w u
 cl:∀ p ∈ C.cl,∃ Ca,X.mg p.1=some (.ref Ca)/\Cls X.K Ca/\∀ f ∈ p.2,NoAttr X.K Ca f
 la:∀ p ∈ C.la,Room 2 X.A/\∃ c P,X.env.code=.ref c/\CodeHd X.base c P/\iA X.mg X.base/\(P,p,X.env.qual++"<lambda>") ∈ Nt.tb/\∀ t ∈ Nt.tb,t.1=P->t=(P,p,X.env.qual++"<lambda>")
section
variable {X:Cx}{C:SC}{ks:List Fn}
theorem Fit.kdO [Nt] (F:Fit X C ks) (x:Str):X.env.kindOf x=kd C x:=by unfold kd;rw [<- F.nm];rfl
theorem Fit.vis [Nt] (F:Fit X C ks) (h:xA C x=true):xn X.env.scope x:=by
 unfold xA kd at h;rw [<- F.nm] at h;unfold xn;split at h
 ·rename_i e;exact .inl e
 ·rename_i e;exact .inr (.inl e)
 ·rename_i e;exact .inr (.inr e)
 ·cases h
theorem Fit.loc [Nt] (F:Fit X C ks) (h:uQ C x=true):L2.Loc X.env.scope x/\(X.fn x=true\/X.env.scope.names.lookup x=some .local):=by
 unfold uQ kd at h;rw [<- F.nm] at h;unfold L2.Loc;split at h
 ·rename_i e;exact ⟨.inl e,.inr e⟩
 ·rename_i e;exact ⟨.inr e,.inl (F.cf x (by simpa using h))⟩
 ·cases h
theorem Fit.gl [Nt] (F:Fit X C ks) (h:eu C x=true):Gl X x/\(x == ("__debug__":Str))=false:=by
 unfold eu at h;obtain ⟨h1,h2⟩:=Bool.and_eq_true_iff.mp h;refine ⟨?_,by simpa using h2⟩;unfold Gl;rw [F.kdO];split at h1
 ·rename_i e;exact e
 ·cases h1
theorem Fit.nmb [Nt] (F:Fit X C ks) {k:Nat} (h:wo C k x=true):X.N[k]?=some x/\(x == ("__debug__":Str))=false/\(x == ("__classdict__":Str))=false:=by
 unfold wo at h;obtain ⟨h12,h3⟩:=Bool.and_eq_true_iff.mp h;obtain ⟨h1,h2⟩:=Bool.and_eq_true_iff.mp h12;refine ⟨?_,by simpa using h2,by simpa using h3⟩;rw [F.N];split at h1
 ·rename_i y e;rw [e,yK h1]
 ·cases h1
theorem Fit.gc [Nt] (F:Fit X C ks) (h:Ga C x c=true):∃ w u,nh c=some w/\X.mg x=some u/\RelV w u:=by
 unfold Ga at h;obtain ⟨p,hp,e⟩:=List.any_eq_true.mp h;simp only [zC] at e;obtain ⟨⟨e1,e2⟩,e3⟩:=e;obtain ⟨w,hw⟩:=Option.isSome_iff_exists.mp e3;have e4:=tU e2;obtain ⟨u,h1,h2⟩:=F.gs p hp w (by rw [e4];exact hw);exact ⟨w,u,hw,by rw [<- yK e1];exact h1,h2⟩
theorem Fit.clb [Nt] (F:Fit X C ks) (h:Bn C c f=true):∃ Ca,X.mg c=some (.ref Ca)/\Cls X.K Ca/\NoAttr X.K Ca f:=by
 unfold Bn at h;obtain ⟨p,hp,e⟩:=List.any_eq_true.mp h;simp only [zC] at e;obtain ⟨Ca,h1,h2,h3⟩:=F.cl p hp;exact ⟨Ca,by rw [<- yK e.1];exact h1,h2,h3 f (by simpa using e.2)⟩
theorem Fit.blt [Nt] (F:Fit X C ks) (h:x ∈ bnames):X.mg x=none:=F.bl x h
theorem Go (b:NameKind):JO b=(b == NameKind.free):=by cases b <;> rfl
theorem GD (o:Option NameKind):Bo o=(o == some NameKind.cell):=by
 cases o with
 | none=>rfl
 | some k=>cases k <;> rfl
theorem Fit.blk [Nt] (F:Fit X C ks) (h:rQ C sc=true):jT X (dX C sc) sc/\∀ cl s H fp Np,Fit (cj X (dX C sc) sc cl s H fp Np) (R.blk C sc) ks:=by
 unfold rQ at h;simp only [zC,yC] at h;obtain ⟨⟨⟨⟨h1,h2⟩,h3⟩,h4⟩,h5⟩:=h;have hk:sc.kind=.function:=by
  split at h1
  ·rename_i e;exact e
  ·cases h1
 have hlen:C.N.length <= (dX C sc).length:=by unfold dX;rw [zV,zH];omega
 have free:∀ x,(x,NameKind.free) ∈ sc.names->X.env.kindOf x=some .cell\/X.env.kindOf x=some .free:=fun x hx=>by
  have:=yP.mp h4 _ hx
  simp only at this;rw [F.kdO];split at this
  ·rename_i e;exact .inl e
  ·rename_i e;exact .inr e
  ·cases this
 have at5:∀ i x,i < X.N.length->(dX C sc)[i]?=some x->(∀ k,(x,k) ∈ sc.names->k=.free/\X.N[i]?=some x):=fun i x hi e k hm=>by
  rw [F.N] at hi ⊢
  have:=yP.mp h5 i (List.mem_range.mpr hi)
  rw [e] at this;simp only at this;have hl:=cK h2 hm;rw [hl] at this;cases k <;> simp only at this <;> first | (cases this;done) | exact ⟨rfl,of_decide_eq_true this⟩
 refine ⟨⟨hk,h2,by rw [F.N];exact hlen,free,fun i x hi e hm=>(at5 i x hi e _ hm).2,fun i x hi e hq0=>by obtain ⟨k,hm⟩:=hq0;have:=(at5 i x hi e k hm).1;subst this;exact hm⟩,fun cl s H fp Np=>?_⟩;refine ⟨rfl,?_,h3,hk,F.calm,fun x hx=>?_,F.hu,F.gd,F.bl,PassesOwn.never,F.ke,F.gs,F.cl,fun p hp=>absurd (show p ∈ ([]:List Pos) from hp) (by simp)⟩
 ·show (relabel sc X.env).names=_
  unfold relabel R.blk;dsimp only;rw [F.kind];apply List.map_congr_left;intro p _;obtain ⟨a,b⟩:=p;simp only [F.kdO,Go,GD];simp
 ·unfold R.blk at hx
  obtain ⟨p,hp,e⟩:=yD.mp hx;obtain ⟨hp1,hp2⟩:=List.mem_filter.mp hp;obtain ⟨a,b⟩:=p;dsimp only at e hp2;subst e;have:b=.cell:=by cases b <;> first | rfl | cases hp2
  subst this;show (sc.names.lookup a == some NameKind.cell)=true;rw [cK h2 hp1];rfl
end
section
variable {X:Cx}{C:SC}{ks:List Fn}
theorem Fit.lam [Nt] (F:Fit X C ks) (rm:Room 2 X.A) (h:zp C sc ps=true):∃ x,vv X (dX C sc) sc x/\plainA ps=true/\ps.args.map (·.arg)=[x]/\defaultsOf ps X.env=([],[]) /\
  ∀ cl f q cd s H,Fit (rC X (dX C sc) sc cl f q cd X.A.in1 s H) (FS C sc) ks:=by
 unfold zp at h;simp only [zC] at h;obtain ⟨⟨⟨⟨⟨⟨⟨h1,h2⟩,h3⟩,h4⟩,h5⟩,h6⟩,h7⟩,h8⟩:=h;obtain ⟨cy,_⟩:=F.blk h1;split at h7
 ·rename_i x y ex ey
  simp only [zC] at h7;have exy:=yK h7.1;subst exy;have hl:sc.names.lookup x=some .local:=by
   have:=h7.2
   split at this
   ·rename_i e;exact e
   ·cases this
  have hN:dX C sc=(C.N.map fun x=>if wJ sc x=true then x else x++("!":Str))++[x]:=by unfold dX;rw [ex]
  refine ⟨x,⟨cy,by simpa using h2,by simpa using h3,by rw [hN,F.N];simp,by rw [hN,F.N];simp,hl,fun y hy e=>?_⟩,h4,ey,?_,fun cl f q cd s H=>?_⟩
  ·have:=yP.mp h8 y hy
   rw [e] at this;cases this
  ·obtain ⟨a1,a2,a3,a4,a5,a6,a7⟩:=ps
   have e5:a7=[]:=List.isEmpty_iff.mp h5;have e6:a5=[]:=List.isEmpty_iff.mp h6;subst e5;subst e6;rfl
  ·have hnd:(dX C sc).Nodup:=by
    unfold rQ at h1;simp only [zC,yC] at h1;exact h1.1.1.2
   have hkd:sc.kind=.function:=cy.kind;have r1:Room 1 X.A.in1:=rm.in1;have r0:=Room.deeper r1 (newEnv sc s.heap.objs.size mainGlobals cl (q++".<locals>.") (some f) cd none builtinsNs);refine ⟨rfl,rfl,hnd,hkd,rfl,fun x hx=>absurd (show x ∈ ([]:List Str) from hx) (by simp),r0.units,r0.gd,F.bl,PassesOwn.never,fun j k e=>absurd (show ([]:List Ke)[j]?=some k from e) (by simp),F.gs,F.cl,fun p hp=>absurd (show p ∈ ([]:List Pos) from hp) (by simp)⟩
 ·cases h7
end
mutual
theorem oG {n:Nat}:∀ {t:Tg},oH n t=true->p7 n (bU ks t)
 | .nm k,h=>by
  simp only [oH] at h;have hk:=zS h;simp only [bU];intro x sl st sl' st' e;cases e;exact ⟨List.length_set,fun j hj=>List.getElem?_set_ne oM⟩
 | .tu m ts,h=>by
  simp only [oH] at h;simp only [bU];intro x sl st sl' st' e;unfold wQ at e;split at e
  ·split at e
   ·exact mH h _ _ _ _ _ e
   ·cases e
  ·split at e
   ·split at e
    ·exact mH h _ _ _ _ _ e
    ·cases e
   ·cases e
 | .su _ _,h=>by simp only [oH] at h;cases h
theorem mH {n:Nat}:∀ {ts:Tgs},pR n ts=true->∀ xs sl st sl' st',i6 ks ts xs sl st=some (sl',st')->sl'.length=sl.length/\∀ j,j < n->sl'[j]?=sl[j]?
 | .nil,_,xs,sl,st,sl',st',e=>by
  simp only [i6] at e;cases xs with
  | nil=>cases e;exact ⟨rfl,fun _ _=>rfl⟩
  | cons _ _=>cases e
 | .cons t ts,h,xs,sl,st,sl',st',e=>by
  simp only [pR,zC] at h;simp only [i6] at e;cases xs with
  | nil=>cases e
  | cons x xs =>
   obtain ⟨p,e1,e2⟩:=zA e;obtain ⟨a1,a2⟩:=oG h.1 _ _ _ _ _ e1;obtain ⟨b1,b2⟩:=mH h.2 _ _ _ _ _ e2;exact ⟨b1.trans a1,fun j hj=>(b2 j hj).trans (a2 j hj)⟩
end
theorem lT:∀ (as:Exs) {es:List Expr},jW as C es=true->∀ sl st xs st',aS ks as sl st=some (xs,st')->xs.length=es.length
 | .nil,es,h,sl,st,xs,st',e=>by
  cases e;cases es with
  | nil=>rfl
  | cons _ _=>exact aQ h
 | .cons a as,es,h,sl,st,xs,st',e=>by
  cases es with
  | nil=>exact aQ h
  | cons x es =>
   obtain ⟨p,e1,e2⟩:=zA e;obtain ⟨q,e3,e4⟩:=zA e2;cases e4;rw [yV,yV,lT as (bx h fun _ x=>x) _ _ _ _ e3]
theorem IZ:bootBuiltins "len"=some (.builtin "len"):=by decide +kernel
theorem IU:bootBuiltins "sum"=some (.builtin "sum"):=by decide +kernel
theorem Jb:bootBuiltins "all"=some (.builtin "all"):=by decide +kernel
theorem Ja:bootBuiltins "any"=some (.builtin "any"):=by decide +kernel
theorem Jc:bootBuiltins "abs"=some (.builtin "abs"):=by decide +kernel
theorem IX:bootBuiltins "min"=some (.builtin "min"):=by decide +kernel
theorem IY:bootBuiltins "max"=some (.builtin "max"):=by decide +kernel
theorem IW:bootBuiltins "str"=some (.type "str"):=by decide +kernel
section
variable {X:Cx}{C:SC}{ks:List Fn}
theorem IT [Nt] (F:Fit X C ks) (b:Bi) {e:Expr}{es:List Expr}{g:AF}{p pos:Pos} (hg:eu C b.nm=true) (ha:QA X (e::es) g) (hs:(e::es).all aX=true):QE X (.Call (.Name b.nm p) (e::es) [] pos) (rZ (ly b) g):=by
 have gl:=F.gl hg;rw [List.all_cons,zC] at hs;have he:=ar (env:=X.env) (es:=es) hs.1;have hpl:=hV (env:=X.env) (pos:=pos) hs.2;cases b with
 | len=>exact jF IE gl.1 (F.blt dC) IZ ha dC gl.2 he hpl
 | sum=>exact jF (IA F.calm) gl.1 (F.blt dC) IU ha dC gl.2 he hpl
 | all=>exact jF (IH F.calm) gl.1 (F.blt dC) Jb ha dC gl.2 he hpl
 | any=>exact jF (IG F.calm) gl.1 (F.blt dC) Ja ha dC gl.2 he hpl
 | abs=>exact jF II gl.1 (F.blt dC) Jc ha dC gl.2 he hpl
 | min=>exact jF (IC F.calm) gl.1 (F.blt dC) IX ha dC gl.2 he hpl
 | max=>exact jF (ID F.calm) gl.1 (F.blt dC) IY ha dC gl.2 he hpl
 | str=>exact Hk (IB F.gd F.hu) gl.1 (F.blt dC) IW ha dC gl.2 he hpl
theorem HH [Nt] (F:Fit X C ks) (m:Mi) {o:Expr}{es:List Expr}{f:EF}{g:AF}{ap p:Pos} (ho:QE X o f) (ha:QA X es g) (h0:es=[]->g=dF) (hs:es.all aX=true) (hl:es.length < 30) (hb:mN o=true) (hline:(ap.endLine == p.line)=true) :
  QE X (.Call (.Attribute o m.nm ap) es [] p) (iz (jY m) (jX m) f g):=by
 cases es with
 | nil =>
  have:=h0 rfl
  subst this;have hbase:=fq (env:=X.env) (f:=m.nm) (eval o X.env) hb;cases m with
  | app=>exact kO PySem.F.plainAttrs_list PySem.F.slot_list_append PySem.F.type_list_append A8 ho hbase hline
  | pop=>exact kO PySem.F.plainAttrs_list PySem.F.slot_list_pop PySem.F.type_list_pop A4 ho hbase hline
  | ext=>exact kO PySem.F.plainAttrs_list PySem.F.slot_list_extend PySem.F.type_list_extend A5 ho hbase hline
  | clr=>exact kO PySem.F.plainAttrs_list PySem.F.slot_list_clear PySem.F.type_list_clear A7 ho hbase hline
  | cnt=>exact kO PySem.F.plainAttrs_list PySem.F.slot_list_count PySem.F.type_list_count (A6 F.hu) ho hbase hline
 | cons e es =>
  have hbase:=fq (env:=X.env) (f:=m.nm) (eval o X.env) hb;have hfew:=JQ (env:=X.env) (cpos:=p) hs hl;rw [List.all_cons,zC] at hs;have he:=ar (env:=X.env) (es:=es) hs.1;have hpl:=hV (env:=X.env) (pos:=p) hs.2;cases m with
  | app=>exact nB PySem.F.plainAttrs_list PySem.F.slot_list_append PySem.F.type_list_append A8 ho ha hbase hfew hline he hpl
  | pop=>exact nB PySem.F.plainAttrs_list PySem.F.slot_list_pop PySem.F.type_list_pop A4 ho ha hbase hfew hline he hpl
  | ext=>exact nB PySem.F.plainAttrs_list PySem.F.slot_list_extend PySem.F.type_list_extend A5 ho ha hbase hfew hline he hpl
  | clr=>exact nB PySem.F.plainAttrs_list PySem.F.slot_list_clear PySem.F.type_list_clear A7 ho ha hbase hfew hline he hpl
  | cnt=>exact nB PySem.F.plainAttrs_list PySem.F.slot_list_count PySem.F.type_list_count (A6 F.hu) ho ha hbase hfew hline he hpl
theorem EK [Nt] {P:Program}{w:World}{K:Frag}{mg:Str->Option Value}{base:Heap}{k:Nat}{f:Addr}{fd:FuncData}{ps:List Str}{n:Nat}{fn:Fn} (b:Bool) (F:FnOk P w K mg base eB k f fd ps (dg ⟨K,mg⟩ n fn)):FnOk P w K mg base eB k f fd ps (dg ⟨K,mg⟩ n (jV b fn)):=by
 cases b
 ·exact F
 ·exact FnOk.pm F
theorem oY {as:Exs}{es:List Expr} (h:jW as C es=true) (he:es=[]):aS ks as=dF:=by
 subst he;cases as with
 | nil=>rfl
 | cons a as=>exact aQ h
end
theorem jG {ks:List Fn}:∀ {e:Ex},lJ e=true->BB (ev ks e)
 | .v k,_=>fun sl st v st' e=>by
  have e:aV k sl st=some (v,st'):=e;unfold aV at e;split at e
  ·cases e;rfl
  ·cases e
 | .i k,_=>fun sl st v st' e=>by
  cases e;rfl
 | .ix a b,h=>fun sl st v st' e=>by
  refine bx h fun h1 h2=>?_
  obtain ⟨p,e1,e2⟩:=zA e;obtain ⟨q,e3,e4⟩:=zA e2;obtain ⟨z,e5,e6⟩:=zE.mp e4;cases e6;rw [jG h2 _ _ _ _ e3,jG h1 _ _ _ _ e1]
 | .fd c f o,h=>fun sl st v st' e=>by
  obtain ⟨p,e1,e2⟩:=zA e;obtain ⟨q,e3,e4⟩:=zA e2;obtain ⟨z,e5,e6⟩:=zE.mp e4;cases e6;rw [jG (show lJ o=true from h) _ _ _ _ e1]
mutual
theorem ah [Nt] {ks:List Fn}:∀ (a:Ex) {X:Cx}{C:SC} (_:Fit X C ks) {e:Expr},aY a C e=true->QE X e (ev ks a)
 | .n,X,C,F,e,h=>by
  refine jk h fun c a p h=>?_
  rw [uY h];exact qx (w:=.non) rfl EU fun _ _ _ h=>h
 | .b x,X,C,F,e,h=>by
  refine jk h fun c a p h=>?_
  rw [HV h];exact qx rfl Hz fun _ _ _ h=>h
 | .i x,X,C,F,e,h=>by
  refine jk h fun c a p h=>?_
  rw [HU h];exact qx rfl EV fun _ _ _ h=>h
 | .s x,X,C,F,e,h=>by
  refine jk h fun c a p h=>?_
  rw [HS h];exact qx rfl ES fun _ _ _ h=>h
 | .v k,X,C,F,e,h=>by
  refine hZ h fun x p h=>?_
  refine bx h fun h0 h=>?_
  obtain ⟨h1,h2,h3⟩:=F.nmb h0;exact Er h1 (F.vis h) h2 h3
 | .g x c,X,C,F,e,h=>by
  refine hZ h fun y p h=>?_
  refine fu h fun h0 h1 h2=>?_
  rw [<- yK h0];obtain ⟨w,u,h1',h2',h3⟩:=F.gc h2;obtain ⟨g1,g2⟩:=F.gl h1;exact qx h1' (CC g1 h2' h3 g2) fun _ _ _ h=>h
 | .bin o a b,X,C,F,e,h=>by
  refine qE h fun a' o' b' p h=>?_
  refine fu h fun h0 h1 h2=>?_
  cases of_decide_eq_true h0;exact EA (ah a F h1) (ah b F h2)
 | .cmp o a b,X,C,F,e,h=>by
  refine wf h fun a' o' b' p h=>?_
  refine fJ h fun h0 h1 h2 h3=>?_
  cases of_decide_eq_true h0;exact Ez F.hu (ah a F h1) (ah b F h2) h3
 | .un o a,X,C,F,e,h=>by
  refine qA h fun o' a' p h=>?_
  refine bx h fun h0 h1=>?_
  cases of_decide_eq_true h0;exact Hj (ah a F h1)
 | .no a,X,C,F,e,h=>by
  refine qA h fun o' a' p h=>?_
  refine bx h fun h0 h1=>?_
  cases of_decide_eq_true h0;exact Eu (ah a F h1)
 | .an a b,X,C,F,e,h=>by
  refine nF h (fun x y p h=>?_) fun x y z r p h=>?_
  ·refine bx h fun h0 h1=>?_
   exact vV (ah a F h0) (v7 (ah b F h1))
  ·refine bx h fun h0 h1=>?_
   exact vV (ah a F h0) (ah b F h1)
 | .or a b,X,C,F,e,h=>by
  refine nF h (fun x y p h=>?_) fun x y z r p h=>?_
  ·refine bx h fun h0 h1=>?_
   exact AO (ah a F h0) (v7 (ah b F h1))
  ·refine bx h fun h0 h1=>?_
   exact AO (ah a F h0) (ah b F h1)
 | .ife t a b,X,C,F,e,h=>by
  refine CK h fun t' a' b' p h=>?_
  refine fu h fun h0 h1 h2=>?_
  exact Hn (cB t F h0) (ah a F h1) (ah b F h2)
 | .ix a b,X,C,F,e,h=>by
  refine nE h fun a' b' p h=>?_
  refine fu h fun h0 h1 h2=>?_
  exact Hm F.hu (ah a F h0) (ah b F h1) (HW h2)
 | .tu es,X,C,F,e,h=>by
  refine kQ h fun es' a p h=>?_
  exact Es (fC es F h)
 | .nw m x,X,C,F,e,h=>Hl (Fv x F h)
 | .ca p j es,X,C,F,e,h=>by
  refine cQ h fun x p1 es' p2 h=>?_
  refine fJ h fun h1 h2 h3 h4=>?_
  unfold qU at h1;split at h1
  ·rename_i y m hk
   refine bx h1 fun h1 h0=>?_
   obtain ⟨d,f,fd,ps,hl,Fn,hr,hm,kp,hb⟩:=F.ke j _ hk;obtain ⟨g1,g2⟩:=F.gl h2;rw [yK h1] at hm;have hn:ps.length=es'.length:=by rw [hl];exact yK h0
   cases es' with
   | nil=>show QE X _ (xm _ (aS ks es));rw [oY h3 rfl];exact xX (EK p Fn) hr g1 hm kp hb hn g2
   | cons e1 es1 =>
    refine bx h4 fun h4 h5=>?_
    exact Ch (EK p Fn) hr g1 hm kp hb (fC es F h3) (fun sl st xs st' e=>by rw [hn];exact lT es h3 _ _ _ _ e) g2 (ar h4) (hV h5)
  ·exact aQ h1
 | .me c m j o es,X,C,F,e,h=>by
  refine sU h fun o' m' ap es' p h=>?_
  refine iS h fun h0 h1 h2 h3 h=>?_
  refine fJ h fun h4 h5 h6 h7=>?_
  rw [<- yK h0];unfold JI at h1;split at h1
  ·rename_i c' m'' k hk
   refine fu h1 fun a1 a2 a3=>?_
   obtain ⟨d,f,fd,ps,Ca,hl,Fn,hr,hC,cl,hm,hb⟩:=F.ke j _ hk;rw [yK a1] at hC;rw [yK a2] at hm;have hn:ps.length=es'.length + 1:=by rw [hl];exact yK a3
   have h5:es'.length < 30:=zJ (Nat.lt_succ_self _) (zS h5);cases es' with
   | nil=>show QE X _ (xk _ _ _ _ (aS ks es));rw [oY h3 rfl];exact xW (ah o F h2) cl hC hm Fn hr hb hn (tj h6 h4 h5 h7)
   | cons e1 es1 =>
    have ht:=tj (env:=X.env) (f:=m) (o:=o') (es:=e1::es1) h6 h4 h5 h7;refine bx h4 fun h4 h8=>?_
    exact Cf (ah o F h2) cl hC hm Fn hr hb (fC es F h3) (fun sl st xs st' e=>by rw [hn,lT es h3 _ _ _ _ e]) (ar h4) (hV h8) ht
  ·exact aQ h1
 | .ne c j es,X,C,F,e,h=>by
  refine cQ h fun x p1 es' p2 h=>?_
  refine iS h fun h0 h1 h2 h3 h=>?_
  refine bx h fun h4 h5=>?_
  rw [<- yK h0];unfold JJ at h1;split at h1
  ·rename_i c' k hk
   refine bx h1 fun a1 a2=>?_
   obtain ⟨d,f,fd,ps,Ca,hl,Fn,hr,hC,M,hb⟩:=F.ke j _ hk;rw [yK a1] at hC;obtain ⟨g1,g2⟩:=F.gl h2;cases es' with
   | nil=>exact aQ h5
   | cons e1 es1 =>
    have hn:ps.length=es1.length + 2:=by rw [hl];exact yK a2
    refine bx h4 fun h4 h6=>?_
    exact Ew M Fn hr g1 hC hb (fC es F h3) (fun sl st xs st' e=>by rw [hn,lT es h3 _ _ _ _ e];rfl) g2 (ar h4) (hV h6)
  ·exact aQ h1
 | .fd c f o,X,C,F,e,h=>by
  refine qF h fun o' f' p h=>?_
  refine fJ h fun h0 h1 h2 h3=>?_
  rw [<- yK h0];obtain ⟨Ca,hC,cl,na⟩:=F.clb h1;exact Ey (ah o F h2) cl hC na (fq _ h3)
 | .bi b es,X,C,F,e,h=>by
  refine cQ h fun x p1 es' p2 h=>?_
  refine iS h fun h0 h1 h2 h3 h4=>?_
  cases es' with
  | nil=>exact aQ h4
  | cons e1 es1 =>
   have e0:=yK h0;subst e0;exact IT F b h1 (fC es F h2) h3
 | .mt m o es,X,C,F,e,h=>by
  refine sU h fun o' m' ap es' p h=>?_
  refine fJ h fun h0 h1 h2 h=>?_
  refine fJ h fun h3 h4 h5 h6=>?_
  rw [<- yK h0];exact HH F m (ah o F h1) (fC es F h2) (fun e=>oY h2 e) h3 (zJ (Nat.lt_succ_self _) (zS h4)) h5 h6
 | .mnd a,X,C,F,e,h=>by
  refine kR h fun f es kws p h=>?_
  refine hZ h fun x p1 h=>?_
  refine bL h fun a' h=>?_
  refine bL h fun w h=>?_
  refine lL h fun y d p2 h=>?_
  refine jk h fun c c1 c2 h=>?_
  refine bx h fun hc h=>?_
  refine iS h fun h0 h1 h2 h3 h4=>?_
  have e0:=yK h0;have e1:=yK h1;subst e0;subst e1;rw [uY hc];exact Ce F.calm (F.gl h2).1 (F.blt dC) (ah a F h3) (ar h4)
 | .mnk a key,X,C,F,e,h=>by
  refine kR h fun f es kws p h=>?_
  refine hZ h fun x p1 h=>?_
  refine bL h fun a' h=>?_
  refine jj h fun w u h=>?_
  refine lL h fun y l p2 h=>?_
  refine lL h fun z d p3 h=>?_
  refine CJ h fun ps body sc lp h=>?_
  refine jk h fun c c1 c2 h=>?_
  refine fu h fun hc h h'=>?_
  refine iS h fun h0 h1 h2 h3 h4=>?_
  refine iS h' fun h5 h6 h7 h8 h9=>?_
  have e0:=yK h0;have e1:=yK h1;have e2:=yK h2;subst e0;subst e1;subst e2;rw [uY hc];obtain ⟨q,hq,hqe⟩:=List.any_eq_true.mp h6;have eqp:q=lp:=by
   refine fJ hqe fun q1 q2 q3 q4=>?_
   cases q;cases lp;cases yK q1;cases yK q2;cases yK q3;cases yK q4;rfl
  subst eqp;obtain ⟨rm,c,P,g1,g2,g3,g4,g5⟩:=F.la q hq;obtain ⟨x,T,hp,hps,hdef,FL⟩:=F.lam rm h7;exact Cd F.calm (F.gl h3).1 (F.blt dC) (ah a F h4) (ar h5) hdef g1 g2 g3 g4 T hp hps rm.in1.depth (jG h8) (fun cl f c' s H=>ah key (FL cl f _ _ s H) h9) g5
 | .slt a l h',X,C,F,e,h=>by
  refine sN h fun a' l' r' p q h=>?_
  refine fu h fun h0 h1 h2=>?_
  exact Et (ah a F h0) (nH l F h1) (nH h' F h2)
 | .dn,X,C,F,e,h=>by
  obtain ⟨p,rfl⟩:=Da h;exact Cg ym
theorem cB [Nt] {ks:List Fn}:∀ (a:Tx) {X:Cx}{C:SC} (_:Fit X C ks) {e:Expr},kU a C e=true->QT X e (tv ks a)
 | .va a,X,C,F,e,h=>by
  refine bx h fun h0 h1=>?_
  exact D0 (ah a F h1) (BQ h0)
 | .cmp o a b,X,C,F,e,h=>by
  refine wf h fun a' o' b' p h=>?_
  refine fJ h fun h0 h1 h2 h3=>?_
  cases of_decide_eq_true h0;exact Eb F.hu (ah a F h1) (ah b F h2) h3
 | .no a,X,C,F,e,h=>by
  refine qA h fun o' a' p h=>?_
  refine bx h fun h0 h1=>?_
  cases of_decide_eq_true h0;exact Ea (cB a F h1)
 | .an a b,X,C,F,e,h=>by
  refine nF h (fun x y p h=>?_) fun x y z r p h=>?_
  ·refine bx h fun h0 h1=>?_
   exact PW.pt (nA (cB a F h0) (ny .And (cB b F h1)))
  ·refine bx h fun h0 h1=>?_
   exact PW.pt (nA (cB a F h0) (nG b F h1))
 | .or a b,X,C,F,e,h=>by
  refine nF h (fun x y p h=>?_) fun x y z r p h=>?_
  ·refine bx h fun h0 h1=>?_
   exact PW.pt (pU (cB a F h0) (ny .Or (cB b F h1)))
  ·refine bx h fun h0 h1=>?_
   exact PW.pt (pU (cB a F h0) (nG b F h1))
theorem nG [Nt] {ks:List Fn}:∀ (a:Tx) {X:Cx}{C:SC} (_:Fit X C ks) {op:BoolOp}{x y:Expr}{r:List Expr}{p:Pos},kU a C (.BoolOp op (x::y::r) p)=true->QW X (.BoolOp op (x::y::r) p) (tv ks a)
 | .va a,X,C,F,op,x,y,r,p,h=>aQ h
 | .cmp o a b,X,C,F,op,x,y,r,p,h=>aQ h
 | .no a,X,C,F,op,x,y,r,p,h=>aQ h
 | .an a b,X,C,F,op,x,y,r,p,h=>by
  refine qB h (fun _ _ _ e h=>?_) fun _ _ _ _ _ e h=>?_
  ·cases e
   refine bx h fun h0 h1=>?_
   exact nA (cB a F h0) (ny .And (cB b F h1))
  ·cases e
   refine bx h fun h0 h1=>?_
   exact nA (cB a F h0) (nG b F h1)
 | .or a b,X,C,F,op,x,y,r,p,h=>by
  refine qB h (fun _ _ _ e h=>?_) fun _ _ _ _ _ e h=>?_
  ·cases e
   refine bx h fun h0 h1=>?_
   exact pU (cB a F h0) (ny .Or (cB b F h1))
  ·cases e
   refine bx h fun h0 h1=>?_
   exact pU (cB a F h0) (nG b F h1)
theorem fC [Nt] {ks:List Fn}:∀ (as:Exs) {X:Cx}{C:SC} (_:Fit X C ks) {es:List Expr},jW as C es=true->QA X es (aS ks as)
 | .nil,X,C,F,es,h=>by cases es with | nil=>exact dI | cons _ _=>exact aQ h
 | .cons a as,X,C,F,es,h=>by
  cases es with
  | nil=>exact aQ h
  | cons e es =>
   refine fu h fun h0 h1 h2=>?_
   exact bK (ah a F h1) (fC as F h2) (ar h0)
theorem Fv [Nt] {ks:List Fn}:∀ (a:Nx) {X:Cx}{C:SC} (_:Fit X C ks) {e:Expr},A3 a C e=true->QN X e (gq ks a)
 | .li es,X,C,F,e,h=>by
  refine sP h fun es' p h=>?_
  exact B7 (fC es F h)
 | .cat a b,X,C,F,e,h=>by
  refine qE h fun a' o' b' p h=>?_
  refine fu h fun h0 h1 h2=>?_
  cases of_decide_eq_true h0;exact El (ah a F h1) (ah b F h2)
 | .rep es b,X,C,F,e,h=>by
  refine qE h fun a' o' b' p h=>?_
  refine bx h fun h0 h=>?_
  cases of_decide_eq_true h0;refine sP h fun es' p1 h=>?_
  refine bx h fun h1 h2=>?_
  exact Eg (fC es F h1) (ah b F h2)
 | .sl a l h',X,C,F,e,h=>by
  refine sN h fun a' l' r' p q h=>?_
  refine fu h fun h0 h1 h2=>?_
  exact Hd (ah a F h0) (nH l F h1) (nH h' F h2)
 | .lof a,X,C,F,e,h=>by
  refine cQ h fun x p1 es p2 h=>?_
  refine bL h fun a' h=>?_
  refine fJ h fun h0 h1 h2 h3=>?_
  have e0:=yK h0;subst e0;exact Ek (F.gl h1).1 (F.blt dC) (ah a F h2) (ar h3)
 | .lc k it t c a,X,C,F,e,h=>by
  simp only [A3] at h;refine Ff h fun a' t' it' cs sc p h=>?_
  refine iS h fun h0 h1 h2 h3 h=>?_
  refine fJ h fun h4 h5 h6 h7=>?_
  obtain ⟨T,FB⟩:=F.blk h2;have ek:k=(dX C sc).length - X.N.length:=by rw [yK h3,F.N]
  subst ek;exact He F.calm T (qJ it F h0) (fun cl s H fp Np=>ia t (FB cl s H fp Np) h5) (fun cl s H fp Np=>wq c (FB cl s H fp Np) h6) (fun cl s H fp Np=>ah a (FB cl s H fp Np) h7) (by rw [F.N];exact oG h4) (m9 h1)
 | .lr1 a,X,C,F,e,h=>by
  refine cQ h fun x p1 es p2 h1=>?_
  clear h;refine bL h1 fun d h2=>?_
  clear h1;refine cQ h2 fun y p3 es p4 h=>?_
  clear h2;refine bL h fun a' h=>?_
  refine iS h fun h0 h2 h3 h4 h5=>?_
  refine bx h0 fun h0 h1=>?_
  have e0:=yK h0;have e1:=yK h1;subst e0;subst e1;exact Ej F.calm (F.gl h2).1 (F.blt dC) (F.gl h3).1 (F.blt dC) (ah a F h4) (ar h5)
 | .lr2 a b,X,C,F,e,h=>by
  refine cQ h fun x p1 es p2 h1=>?_
  clear h;refine bL h1 fun d h2=>?_
  clear h1;refine cQ h2 fun y p3 es p4 h=>?_
  clear h2;refine jj h fun a' b' h=>?_
  refine iS h fun h0 h23 h4 h5 h6=>?_
  refine bx h0 fun h0 h1=>?_
  refine bx h23 fun h2 h3=>?_
  refine bx h6 fun h6 h7=>?_
  have e0:=yK h0;have e1:=yK h1;subst e0;subst e1;exact Ei F.calm (F.gl h2).1 (F.blt dC) (F.gl h3).1 (F.blt dC) (ah a F h4) (ah b F h5) ((ar h6).trans (by rw [ar h7];rfl)) (ar h7)
 | .lr3 a b c,X,C,F,e,h=>by
  refine cQ h fun x p1 es p2 h1=>?_
  clear h;refine bL h1 fun d h2=>?_
  clear h1;refine cQ h2 fun y p3 es p4 h=>?_
  clear h2;refine sQ h fun a' b' c' h=>?_
  refine fJ h fun h0 h23 h4 h5=>?_
  refine bx h0 fun h0 h1=>?_
  refine bx h23 fun h2 h3=>?_
  refine fu h4 fun h4 h6 h7=>?_
  refine fu h5 fun h8 h9 h10=>?_
  have e0:=yK h0;have e1:=yK h1;subst e0;subst e1;exact Eh F.calm (F.gl h2).1 (F.blt dC) (F.gl h3).1 (F.blt dC) (ah a F h4) (ah b F h6) (ah c F h7) (by rw [ar h8,ar h9,ar h10];rfl) (by rw [ar h9,ar h10];rfl) (ar h10)
theorem nH [Nt] {ks:List Fn}:∀ (a:Ox) {X:Cx}{C:SC} (_:Fit X C ks) {e:Option Expr},sZ a C e=true->QO X e (jq ks a)
 | .no,X,C,F,e,h=>by cases e with | none=>exact B6 | some _=>exact aQ h
 | .so a,X,C,F,e,h=>by cases e with | none=>exact aQ h | some e=>exact B5 (ah a F h)
theorem wq [Nt] {ks:List Fn}:∀ (a:Cx') {X:Cx}{C:SC} (_:Fit X C ks) {es:List Expr},JE a C es=true->xp X es (j1 ks a)
 | .no,X,C,F,e,h=>by cases e with | nil=>exact B9 | cons _ _=>exact aQ h
 | .so a,X,C,F,e,h=>by
  refine bL h fun e h=>?_
  exact B8 (cB a F h)
theorem qJ [Nt] {ks:List Fn}:∀ (a:Ix) {X:Cx}{C:SC} (_:Fit X C ks) {t e:Expr},Fw a C t e=true->QI X t e (dS ks a)
 | .e a,X,C,F,t,e,h=>Ky (ah a F h)
 | .r1 a,X,C,F,t,e,h=>by
  refine cQ h fun x p1 es p2 h=>?_
  refine bL h fun a' h=>?_
  refine fJ h fun h0 h1 h2 h3=>?_
  have e0:=yK h0;subst e0;exact Hh (F.gl h1).1 (F.blt dC) (ah a F h2) (ar h3)
 | .r2 a b,X,C,F,t,e,h=>by
  refine cQ h fun x p1 es p2 h=>?_
  refine jj h fun a' b' h=>?_
  refine iS h fun h0 h1 h2 h3 h4=>?_
  refine bx h4 fun h4 h5=>?_
  have e0:=yK h0;subst e0;exact Hg (F.gl h1).1 (F.blt dC) (ah a F h2) (ah b F h3) (by rw [ar h4,ar h5];rfl) (ar h5)
 | .zi a b,X,C,F,t,e,h=>by
  refine kQ h fun ts k p h=>?_
  refine cQ h fun x p1 es p2 h=>?_
  refine jj h fun a' b' h=>?_
  refine iS h fun h0 h1 h2 h3 h4=>?_
  refine bx h4 fun h4 h5=>?_
  have e0:=yK h0;subst e0;exact Em (F.gl h1).1 (F.blt dC) (ah a F h2) (ah b F h3) (by rw [ar h4,ar h5];rfl) (ar h5)
 | .en a,X,C,F,t,e,h=>by
  refine kQ h fun ts k p h=>?_
  refine cQ h fun x p1 es p2 h=>?_
  refine bL h fun a' h=>?_
  refine fJ h fun h0 h1 h2 h3=>?_
  have e0:=yK h0;subst e0;exact Hi (F.gl h1).1 (F.blt dC) (ah a F h2) (ar h3)
 | .es a b,X,C,F,t,e,h=>by
  refine kQ h fun ts k p h=>?_
  refine kR h fun f es kws p0 h=>?_
  refine hZ h fun x p1 h=>?_
  refine bL h fun a' h=>?_
  refine bL h fun w h=>?_
  refine lL h fun y d p2 h=>?_
  refine iS h fun h0 h2 h3 h4 h5=>?_
  refine bx h0 fun h0 h1=>?_
  have e0:=yK h0;have e1:=yK h1;subst e0;subst e1;exact En (F.gl h2).1 (F.blt dC) (ah a F h3) (ah b F h4) (ar h5)
 | .r3 a b c,X,C,F,t,e,h=>by
  refine cQ h fun x p1 es p2 h=>?_
  refine sQ h fun a' b' c' h=>?_
  refine fJ h fun h0 h1 h2 h3=>?_
  refine fu h2 fun h2 h4 h5=>?_
  refine fu h3 fun h6 h7 h8=>?_
  have e0:=yK h0;subst e0;exact Hf (F.gl h1).1 (F.blt dC) (ah a F h2) (ah b F h4) (ah c F h5) (by rw [ar h6,ar h7,ar h8];rfl) (by rw [ar h7,ar h8];rfl) (ar h8)
theorem ia [Nt] {ks:List Fn}:∀ (t:Tg) {X:Cx}{C:SC} (_:Fit X C ks) {e:Expr},tf t C e=true->QG X e (bU ks t)
 | .nm k,X,C,F,e,h=>by
  refine hZ h fun x p h=>?_
  refine bx h fun h0 h=>?_
  obtain ⟨h1,h2⟩:=F.loc h;exact Cc (by rw [F.N];exact F.nd) (F.nmb h0).1 h1 h2
 | .tu n ts,X,C,F,e,h=>by
  refine kQ h fun es k p h=>?_
  refine fu h fun h0 h1 h2=>?_
  exact Eo F.calm (td ts F h2) (by rw [Ae];exact yK h0) (Af h1)
 | .su a b,X,C,F,e,h=>by
  refine nE h fun a' b' p h=>?_
  refine fu h fun h0 h1 h2=>?_
  exact Ep F.hu (ah a F h0) (ah b F h1) (DK h2)
theorem td [Nt] {ks:List Fn}:∀ (ts:Tgs) {X:Cx}{C:SC} (_:Fit X C ks) {es:List Expr},y9 ts C es=true->xq X es (i6 ks ts)
 | .nil,X,C,F,es,h=>by cases es with | nil=>exact Cb | cons _ _=>exact aQ h
 | .cons t ts,X,C,F,es,h=>by
  cases es with
  | nil=>exact aQ h
  | cons e es =>
   refine fu h fun h0 h1 h2=>?_
   exact xV (ia t F h1) (td ts F h2) (Ad h0)
end
theorem vL {env:Env}{e o i:Expr}{p:Pos}{l:Nat}:swapsWithSole [.Subscript o i p] e l env=pure false:=by cases e <;> rfl
theorem vK {env:Env}{e:Expr}{es:List Expr}{k:Nat}{p:Pos}{l:Nat}:swapsWithSole [.Tuple es k p] e l env=pure false:=by cases e <;> rfl
mutual
theorem Fu [Nt] {ks:List Fn}:∀ (a:Sx) {X:Cx}{C:SC} (_:Fit X C ks) {s:Stmt},JD a C s=true->QS X s (cN ks a)
 | .ex a,X,C,F,s,h=>by
  refine CL h fun e p h=>bx h fun h0 h1=>?_
  exact B2 (ah a F h0) (sD h1)
 | .as a t,X,C,F,s,h=>by
  refine sV h fun t' e p2 h=>fu h fun h0 h1 h2=>?_
  refine GG h2 (fun h2 x p h1=>?_) (fun o i q h1=>?_) (fun h2 es k q h1=>?_) h1
  ·cases t with
   | nm k =>
    refine bx (show (wo C k x && uQ C x)=true from h1) fun g0 g1=>?_
    obtain ⟨l1,l2⟩:=F.loc g1;have hN:X.N.Nodup:=by rw [F.N];exact F.nd
    rcases Bool.or_eq_true_iff.mp h2 with hc | hc
    ·exact vT hN (F.nmb g0).1 l1 (ah a F h0) (sD hc) l2
    ·refine C9 hc (fun elt gens sc pos h0=>?_) h0
     have hsw:=DJ (env:=X.env) (elt:=elt) (gens:=gens) (sc:=sc) (pos:=pos) (t:=x) (p:=p) (l:=p2.line) F.kind;cases hsb:Jn X.env.scope.names x p.line sc pos.line with
     | false=>rw [hsb] at hsw;exact vT hN (F.nmb g0).1 l1 (ah a F h0) hsw l2
     | true =>
      rw [hsb] at hsw;refine LL h0 fun m k' it t c a' h0=>?_
      have h0:di gens _=true:=h0;refine bL h0 fun g h0=>?_
      obtain ⟨t',it',cs,i⟩:=g;refine bx h0 fun h9 h0=>?_
      cases of_decide_eq_true h9;refine iS h0 fun q0 h1' h2' h3 h=>?_
      refine fJ h fun h4 h5 h6 h7=>?_
      obtain ⟨T,FB⟩:=F.blk h2';have ek:k'=(dX C sc).length - X.N.length:=by rw [yK h3,F.N]
      subst ek;exact vS hN (F.nmb g0).1 l1 hsw F.calm T (qJ it F q0) (fun cl s H fp Np=>ia t (FB cl s H fp Np) h5) (fun cl s H fp Np=>wq c (FB cl s H fp Np) h6) (fun cl s H fp Np=>ah a' (FB cl s H fp Np) h7) (by rw [F.N];exact oG h4) (m9 h1') l2
   | _=>exact aQ h1
  ·exact vU (ah a F h0) (ia t F h1) vL xK (tM rfl)
  ·exact bx h2 fun h2 h3=>vU (ah a F h0) (ia t F h1) vK (xJ h2) (tM rfl)
 | .aus o a b c,X,C,F,s,h=>by
  refine CM h fun t o' e p h=>nE h fun a' b' p h=>iS h fun h0 h1 h2 h3 h4=>?_
  cases of_decide_eq_true h0;exact B4 F.hu (ah a F h1) (ah b F h2) (ah c F h3) (GE h4)
 | .fl c f o a,X,C,F,s,h=>by
  refine sV h fun t e p h=>qF h fun o' f' p h=>fJ h fun h0 h1 h2 h3=>?_
  rw [<- yK h0];obtain ⟨Ca,hC,cl,na⟩:=F.clb h1;exact Ee (ah o F h2) (ah a F h3) cl hC na xI
 | .rt a,X,C,F,s,h=>by
  refine CI h fun e p h=>?_
  cases e with
  | none=>exact aQ h
  | some e=>exact Ec (ah a F h)
 | .iff t a b,X,C,F,s,h=>by
  refine Fe h fun e x y p h=>fu h fun h0 h1 h2=>?_
  exact Hc (cB t F h0) (fX a F h1) (fX b F h2)
 | .fo it t b,X,C,F,s,h=>by
  refine sR h fun t' it' x p h=>fJ h fun h0 h1 h2 h3=>?_
  exact Ed F.po F.calm (qJ it F h0) (ia t F h2) (fX b F h3) (m9 h1)
 | .fd a t b,X,C,F,s,h=>by
  refine sR h fun t' it' x p h=>fJ h fun h0 h1 h2 h3=>?_
  exact B1 F.po F.calm (ah a F h0) (ia t F h2) (fX b F h3) (m9 h1)
 | .wh t b,X,C,F,s,h=>by
  refine CH h fun e x p h=>bx h fun h0 h1=>?_
  exact xU F.po (cB t F h0) (fX b F h1)
 | .dead,X,C,F,s,h=>B3
theorem fX [Nt] {ks:List Fn}:∀ (as:Nw) {X:Cx}{C:SC} (_:Fit X C ks) {ss:List Stmt},kW as C ss=true->lD X ss (ai ks as)
 | .nil,X,C,F,s,h=>by cases s with | nil=>exact B0 | cons _ _=>exact aQ h
 | .cons a as,X,C,F,s,h=>by
  cases s with
  | nil=>exact aQ h
  | cons s ss=>exact bx h fun h0 h1=>xT (Fu a F h0) (fX as F h1)
 | .dead,X,C,F,s,h=>xS
end
section
variable (P:Program) (w:World) (K:Frag) (mg:Str->Option Value) (base:Heap)
def Mp [Nt] (d:Nat) (x:Str) (n:Nat) (fn:Fn):Prop:=∃ f fd ps,ps.length=n/\FnOk P w K mg base eB d f fd ps (dg ⟨K,mg⟩ ps.length fn)/\mg x=some (.ref f)/\keepIn K (.ref f)=true/\Binds K fd ps []
def Md [Nt] (d:Nat) (c m:Str) (n:Nat) (fn:Fn):Prop:=∃ f fd ps C,ps.length=n/\FnOk P w K mg base eB d f fd ps (dg ⟨K,mg⟩ ps.length fn)/\mg c=some (.ref C)/\Cls K C/\jR K C m f/\Binds K fd ps []
def Mc [Nt] (d:Nat) (c:Str) (n:Nat) (fn:Fn):Prop:=∃ f fd ps C,ps.length=n/\FnOk P w K mg base eB d f fd ps (dg ⟨K,mg⟩ ps.length fn)/\mg c=some (.ref C)/\Mk K C f/\Binds K fd ps []
def KOk [Nt] (d:Nat) (fn:Fn):Ke->Prop
 | .f x n=>Mp P w K mg base d x n fn
 | .m c m n=>Md P w K mg base d c m n fn
 | .k c n=>Mc P w K mg base d c n fn
def KsOk [Nt] (d:Nat):List Ke->List Fn->Prop
 | [],_=>True
 | k::ke,fn::ks=>KOk P w K mg base d fn k/\KsOk d ke ks
 | _::_,[]=>False
structure Ev (gs:List (Str × AV)) (cl:List (Str × List Str)):Prop where
 bl:∀ x ∈ bnames,mg x=none
 gs:∀ p ∈ gs,∀ w,nh p.2=some w->∃ u,mg p.1=some u/\RelV w u
 cl:∀ p ∈ cl,∃ Ca,mg p.1=some (.ref Ca)/\Cls K Ca/\∀ f ∈ p.2,NoAttr K Ca f
end
section
variable {P:Program}{w:World}{K:Frag}{mg:Str->Option Value}{base:Heap}{d d':Nat}{fn:Fn}
theorem KOk.mono [Nt] (h:d <= d'):∀ {k:Ke},KOk P w K mg base d fn k->KOk P w K mg base d' fn k
 | .f _ _,⟨f,fd,ps,e,F,r⟩=>⟨f,fd,ps,e,F.mono h,r⟩
 | .m _ _ _,⟨f,fd,ps,C,e,F,r⟩=>⟨f,fd,ps,C,e,F.mono h,r⟩
 | .k _ _,⟨f,fd,ps,C,e,F,r⟩=>⟨f,fd,ps,C,e,F.mono h,r⟩
theorem KsOk.at [Nt]:∀ {ke:List Ke}{ks:List Fn}{j:Nat}{k:Ke},KsOk P w K mg base d ke ks->ke[j]?=some k->KOk P w K mg base d (kf ks j) k
 | [],_,_,_,_,e=>by simp at e
 | k::ke,[],_,_,h,_=>h.elim
 | k::ke,fn::ks,0,_,h,e=>by simp at e;subst e;exact h.1
 | k::ke,fn::ks,j + 1,_,h,e=>by
  have:=KsOk.at (j:=j) h.2 (by simpa using e)
  exact this
theorem KOk.ok [Nt] (hr:Room (d + 1) A):∀ {k:Ke},KOk P w K mg base d fn k->GM P w K mg base A fn k
 | .f _ _,⟨f,fd,ps,e,F,m,kp,b⟩=>⟨d,f,fd,ps,e,F,hr.mono (Nat.le_succ d),m,kp,b⟩
 | .m _ _ _,⟨f,fd,ps,C,e,F,m,c,me,b⟩=>⟨d,f,fd,ps,C,e,F,hr.mono (Nat.le_succ d),m,c,me,b⟩
 | .k _ _,⟨f,fd,ps,C,e,F,m,mk,b⟩=>⟨d,f,fd,ps,C,e,F,hr,m,mk,b⟩
end
def fV (st:Stmt):List Str:=(dk st).args.map (·.arg)
noncomputable def Gk (N ps:List Str) (sc:Scope):Bool:=(match sc.kind with | .function=>true | _=>false) && !sc.isCoroutine && !sc.isGenerator && decide N.Nodup && decide (N.take ps.length=ps) &&
 (ps.all fun x=>match sc.names.lookup x with | some .local=>true | some .cell=>true | _=>false) && (sc.names.all fun p=>match p.2 with | .free=>false | _=>true)
theorem Gj (h:Gk N ps sc=true):lZ N ps sc:=by
 unfold Gk at h;simp only [zC,yC] at h;obtain ⟨⟨⟨⟨⟨⟨h1,h2⟩,h3⟩,h4⟩,h5⟩,h6⟩,h7⟩:=h;refine ⟨?_,by simpa using h2,by simpa using h3,h4,h5,fun x hx=>?_,fun y hy e=>?_⟩
 ·split at h1
  ·rename_i e;exact e
  ·cases h1
 ·have:=yP.mp h6 x hx
  split at this
  ·rename_i e;exact .inl e
  ·rename_i e;exact .inr e
  ·cases this
 ·have:=yP.mp h7 y hy
  rw [e] at this;cases this
def chk (N:List Str) (ke:List Ke) (gs:List (Str × AV)) (cl:List (Str × List Str)) (la:List Pos) (b:Nw) (st:Stmt):Bool :=
 Gk N (fV st) (ci st) && plainA (dk st) && decide (fV st).Nodup && kW b ⟨N,(ci st).names,N,ke,gs,cl,la⟩ (dN st)
section
variable {P:Program}{w:World}{K:Frag}{mg:Str->Option Value}{base:Heap}{d:Nat}{x qual:Str}{st:Stmt}{f:Addr}{fd:FuncData}{N:List Str}{ke:List Ke}{ks:List Fn}{gs:List (Str × AV)}{cl:List (Str × List Str)}{la:List Pos}{b:Nw}
theorem Io [Nt] {N ps:List Str}{k:Nat}{b:SF} (F:Fun K x qual st f fd) (S:lZ N ps (ci st))
  (hbody:∀ (A:Around) (outer:List Env) (s:Shared) (H:Hp) (E:XK),Room k (A.deeper (envOfC qual (ci st) s.heap.objs.size f fd.code))->lD (oZ eB P w K mg base N qual (ci st) f fd.code A outer s H E).nox (dN st) b) :
  FnOk P w K mg base eB (k + 1) f fd ps (dg ⟨K,mg⟩ ps.length (run N.length b)):=by
 obtain ⟨oc,od,kV,doc,pm,an,cdv,ct,osl,rfl,lk,hcd⟩:=F.ex;refine Im lk hcd S (fun vs H Q E h=>h.1) fun A outer s H vs Q E hr h=>?_
 obtain ⟨hl,P,φ,args,st,r,sm,k⟩:=h;have hb:=hbody A outer s H E hr;refine ⟨_,PSs.nox hb,?_⟩;obtain ⟨v,st',e,q⟩:=k;obtain ⟨o,e1,e2⟩:=zA e;refine ⟨P,φ,_,st,BW r,sm,o,e1,?_⟩;cases o with
 | nx sl st1=>cases e2;exact fun P' φ' H' σ' f' s' _=>q P' φ' H' .non f' s' (by simp only [RA])
 | rt v st1=>cases e2;exact fun P' φ' H' w f' s' r'=>q P' φ' H' w f' s' r'
 | bk sl st1=>cases e2
 | ct sl st1=>cases e2
def sj [Nt] (mg:Str->Option Value) (base:Heap) (qual:Str) (cd:Value) (la:List Pos):Prop:=∀ p ∈ la,∃ c P,cd=.ref c/\CodeHd base c P/\iA mg base/\(P,p,qual++".<locals>."++"<lambda>") ∈ Nt.tb/\∀ t ∈ Nt.tb,t.1=P->t=(P,p,qual++".<locals>."++"<lambda>")
theorem nZ [Nt] (F:Fun K x qual st f fd) (E:Ev K mg gs cl) (hl:sj mg base qual fd.code la) (hk:KsOk P w K mg base d ke ks) (h:chk N ke gs cl la b st=true) :
  FnOk P w K mg base eB (d + 3) f fd (fV st) (dg ⟨K,mg⟩ (fV st).length (run N.length (ai ks b)))/\Binds K fd (fV st) []:=by
 unfold chk at h;simp only [zC,yC] at h;obtain ⟨⟨⟨h1,h2⟩,h3⟩,h4⟩:=h;have S:=Gj h1;refine ⟨Io F S fun A outer s H E' hr=>?_,F.binds fun kV doc pm an cdv ct us hl=>bind_plain h2 rfl h3 hl⟩;refine fX b ⟨rfl,rfl,S.nd,S.kind,rfl,fun _ _=>rfl,hr.units,hr.gd,E.bl,PassesOwn.never,fun j k e=>(hk.at e).ok (hr.mono oM),E.gs,E.cl,fun p hp=>⟨hr.mono oM,hl p hp⟩⟩ h4
end
structure FE where
 ke:Ke
 qual:Str
 st:Stmt
 N:List Str
 cs:List Nat
 d:Nat
 la:List Pos
 b:Nw
def FE.fn (e:FE) (fs:List Fn):Fn:=run e.N.length (ai (e.cs.map (kf fs)) e.b)
def FE.ok [Nt] (e:FE) (K:Frag) (mg:Str->Option Value) (base:Heap):Prop:=match e.ke with
 | .f x _=>∃ f fd,mg x=some (.ref f)/\Fun K x e.qual e.st f fd/\sj mg base e.qual fd.code e.la
 | .m c m _=>∃ f fd C,mg c=some (.ref C)/\Cls K C/\jR K C m f/\Fun K m e.qual e.st f fd/\sj mg base e.qual fd.code e.la
 | .k c _=>∃ f fd C,mg c=some (.ref C)/\Mk K C f/\Fun K "__init__" e.qual e.st f fd/\sj mg base e.qual fd.code e.la
noncomputable def Ke.n:Ke->Nat
 | .f _ n=>n
 | .m _ _ n=>n
 | .k _ n=>n
noncomputable def zq (pre:List FE) (j:Nat):Ke:=match pre[j]? with
 | some e=>e.ke
 | none=>.f "" 0
def FE.chk (gs:List (Str × AV)) (cl:List (Str × List Str)) (pre:List FE) (e:FE):Bool :=
 R.chk e.N (e.cs.map (zq pre)) gs cl e.la e.b e.st && (e.ke.n == (fV e.st).length) && e.cs.all (fun j=>match pre[j]? with | some g=>Nat.ble (g.d + 3) e.d | none=>false) && Nat.ble 3 e.d
def lw (gs:List (Str × AV)) (cl:List (Str × List Str)):List FE->List FE->Bool
 | _,[]=>true
 | pre,e::r=>e.chk gs cl pre && lw gs cl (pre++[e]) r
def iI:List Fn->List FE->List Fn
 | fs,[]=>fs
 | fs,e::r=>iI (fs++[e.fn fs]) r
section
variable {P:Program}{w:World}{K:Frag}{mg:Str->Option Value}{base:Heap}{gs:List (Str × AV)}{cl:List (Str × List Str)}
def p6 [Nt] (P:Program) (w:World) (K:Frag) (mg:Str->Option Value) (base:Heap) (pre:List FE) (fs:List Fn):Prop:=pre.length=fs.length/\∀ (j:Nat) e,pre[j]?=some e->KOk P w K mg base e.d (kf fs j) e.ke
theorem uV [Nt] {d:Nat} (h:p6 P w K mg base pre fs):∀ cs:List Nat,(cs.all fun j=>match pre[j]? with | some g=>Nat.ble (g.d + 3) (d + 3) | none=>false)=true->KsOk P w K mg base d (cs.map (zq pre)) (cs.map (kf fs))
 | [],_=>trivial
 | j::cs,hc=>by
  rw [List.all_cons,zC] at hc;refine ⟨?_,uV h cs hc.2⟩;have h1:=hc.1;split at h1
  ·rename_i g hg
   have:=h.2 j g hg
   unfold zq;rw [hg];exact this.mono (by have:=zS h1;omega)
  ·cases h1
theorem Ip [Nt] {pre:List FE}{fs:List Fn}{e:FE} (E:Ev K mg gs cl) (h:p6 P w K mg base pre fs) (hf:e.ok K mg base) (hc:e.chk gs cl pre=true):KOk P w K mg base e.d (e.fn fs) e.ke:=by
 unfold FE.chk at hc;simp only [zC] at hc;obtain ⟨⟨⟨h1,h2⟩,h3⟩,h4⟩:=hc;have hn:=yK h2;obtain ⟨d,hd⟩:∃ d,e.d=d + 3:=⟨e.d - 3,by have:=zS h4;omega⟩;rw [hd] at h3 ⊢;have hk:=uV h e.cs h3;unfold FE.fn;unfold FE.ok at hf;split at hf
 ·rename_i x n ek
  obtain ⟨f,fd,m,F,L⟩:=hf;obtain ⟨a1,a2⟩:=nZ F E L hk h1;rw [ek] at hn ⊢;exact ⟨f,fd,fV e.st,hn.symm,a1,m,F.kp,a2⟩
 ·rename_i c m n ek
  obtain ⟨f,fd,C,hC,hc,hm,F,L⟩:=hf;obtain ⟨a1,a2⟩:=nZ F E L hk h1;rw [ek] at hn ⊢;exact ⟨f,fd,fV e.st,C,hn.symm,a1,hC,hc,hm,a2⟩
 ·rename_i c n ek
  obtain ⟨f,fd,C,hC,hm,F,L⟩:=hf;obtain ⟨a1,a2⟩:=nZ F E L hk h1;rw [ek] at hn ⊢;exact ⟨f,fd,fV e.st,C,hn.symm,a1,hC,hm,a2⟩
theorem wF {j:Nat} (h:j < fs.length):kf (fs++[g]) j=kf fs j:=by
 unfold kf;rw [zD,zD,zN h]
theorem C5:kf (fs++[g]) fs.length=g:=by
 unfold kf;rw [zD];simp
theorem sJ [Nt] (E:Ev K mg gs cl):∀ (rest pre:List FE) (fs:List Fn),p6 P w K mg base pre fs->(∀ e ∈ rest,e.ok K mg base)->lw gs cl pre rest=true->p6 P w K mg base (pre++rest) (iI fs rest)
 | [],pre,fs,h,_,_=>by rw [List.append_nil];exact h
 | e::r,pre,fs,h,hf,hc=>by
  unfold lw at hc;rw [zC] at hc;have h1:=Ip E h (hf e z7) hc.1
  have:=sJ E r (pre++[e]) (fs++[e.fn fs]) ⟨by simp [h.1],fun j g hg=>?_⟩ (fun g hg=>hf g (zQ _ hg)) hc.2
  ·rw [yN] at this;exact this
  ·rcases yS j pre.length with hj | hj
   ·rw [zN hj] at hg
    rw [wF (by rw [<- h.1];exact hj)];exact h.2 j g hg
   ·have ej:j=pre.length:=by
     have:=(zB.mp hg).1
     rw [zV] at this;simp at this;omega
    subst ej;simp at hg;subst hg;rw [h.1,C5];exact h1
end
theorem HM [Nt] {K:Frag}{mg:Str->Option Value}{H:Hp}{a:Addr}{ns:List Int}{fn:Fn}{E:XK} (hg:∃ st,fn [.fz (ns.map .int)] []=some (.bl true,st)) (hS:bA K H a (ns.map V.int)) (tb:∀ t ∈ Nt.tb,fv H t.1 t.2.1 t.2.2):dg ⟨K,mg⟩ 1 fn [.ref a] H (fun v _=>v=.bl true) E:=by
 obtain ⟨st,e⟩:=hg;refine ⟨rfl,fun c=>∃ vs,Rd H c (.lst vs),[],[.fz (ns.map .int)],[],aU ?_ ba,Sim.nil (fun c h=>?_) (fun t ht=>⟨tb t ht,fun hq0=>by obtain ⟨vs,z⟩:=hq0;obtain ⟨ps,e,_⟩:=tb t ht;rcases z with z | ⟨o,z⟩ <;> (rw [e] at z;cases z)⟩),.bl true,st,e,fun P' φ' H' w f s r=>by simpa only [RA] using r⟩
 ·simp only [RA]
  refine ⟨a,ns.map V.int,rfl,?_,Nv.of_ints⟩;rcases hS with h | h
  ·exact .inl ⟨⟨_,h⟩,h⟩
  ·exact .inr fun H'=>.inr h
 ·obtain ⟨vs,h | ⟨o,h⟩⟩:=h <;> (rw [h];exact fun z=>nomatch z)
end R
namespace L2
open PySem PySem.Spec PyProof.Rows
theorem wD {P:Program}{w:World}{K:Frag}{mg mb:Str->Option Value}{CX:lH}{k:Nat}{fa a:Addr}{fd:FuncData}{x:Str}{sp:Sp}{s₁:Shared}{vs:List Value}{ns:List Int}{tabs:List (Addr × Addr)}
  (KX:K.In s₁.heap) (hns:s₁.heap.Ns mainGlobals mg) (hb:s₁.heap.Ns builtinsNs mb) (hbb:∀ x:Str,x ≠ "__name__"->mb x=bootBuiltins x) (hlim:s₁.heap.NoLimit) (hg:s₁.gens=#[])
  (bm:∃ bm ob,mg "__builtins__"=some (.ref bm)/\bm ≠ builtinsNs/\s₁.heap.get? bm=some ob/\ob.cls=.type "module"/\ob.dict=some builtinsNs/\ob.data=.plain)
  (hT:TabsAt tabs s₁.heap) (hK0:noTabs K=true)
  (ha:s₁.heap.get? a=some { cls:=.type "list",data:=.seq vs.toArray }) (hi:IntsAre vs ns) (hl:ns.length <= sizeLine) (hr:Room k callerA)
  (F:∀ base:Heap,K.In base->base.Ns mainGlobals mg->iA mg base->FnOk P w K mg base CX k fa fd [x] sp) (hbind:∀ (s:Shared) (u:Value),BindsTo s fd ⟨[u],[]⟩ [(x,u)])
  (hsp:∀ H:Hp,(∀ q ∈ tabs,H q.2=some (.tbl #[]))->bA K H a (ns.map V.int)->sp [.ref a] H (fun v _=>v=.bl true) fun _ _ _=>False)
  (hCX:∀ H e s',CX [] H s₁ (fun _ _ _=>False) e s'->False) :
  codeAny (model P w) callerA (.call (.ref fa) ⟨[.ref a],[]⟩) (fun r s'=>r=.ok (.ret (.bool true))/\OldK s₁.heap s'.heap/\s'.os=s₁.os/\AllBare s'.gens) s₁:=by
 have rv:=vx hi;have lenV:=hi.length;have core:∀ H:Hp,bA K H a (ns.map V.int)->HOk P w H s₁.heap->(∀ b,H b=none\/(b=a/\K.lookup a=none/\∃ o xs,H b=some (.frz o (.lst xs)))\/(∃ q ∈ tabs,b=q.2/\H b=some (.tbl #[])))->(∀ q ∈ tabs,H q.2=some (.tbl #[])) ->
   codeAny (model P w) callerA (.call (.ref fa) ⟨[.ref a],[]⟩) (fun r s'=>r=.ok (.ret (.bool true))/\OldK s₁.heap s'.heap/\s'.os=s₁.os/\AllBare s'.gens) s₁:=by
  intro H hS Ny hA hTb;have fq:∀ {b:Addr}{o:Obj},s₁.heap.get? b=some o->H b=none->(iY s₁.heap H).get? b=some o:=fun e n=>zw e n
  have none_of:∀ {b:Addr}{o:Obj},s₁.heap.get? b=some o->o.cls ≠ .type "list"->o ≠ tabObj #[]->H b=none:=fun {b o} e n1 n2=>by
   rcases hA b with z | ⟨rfl,_⟩ | ⟨q,hq,rfl,_⟩
   ·exact z
   ·rw [ha] at e;cases e;exact absurd rfl n1
   ·rw [(hT q hq).2] at e;cases e;exact absurd rfl n2
  have dict_of:∀ {b:Addr}{o:Obj}{es:Array DictEntry}{ep:Nat},s₁.heap.get? b=some o->o.data=.dict es ep->H b=none:=fun {b o es ep} e d=>by
   rcases hA b with z | ⟨rfl,_⟩ | ⟨q,hq,rfl,_⟩
   ·exact z
   ·rw [ha] at e;cases e;cases d
   ·rw [(hT q hq).2] at e;cases e;cases d
  have nsK:∀ {b:Addr}{m:Str->Option Value},s₁.heap.Ns b m->(iY s₁.heap H).Ns b m:=fun {b m} ⟨o,es,ep,e,d,r⟩=>⟨o,es,ep,fq e (dict_of e d),d,r⟩
  have hKb:K.In (iY s₁.heap H):=fun b o e=>fq (KX b o e) (by
   rcases hA b with z | ⟨rfl,z,_⟩ | ⟨q,hq,rfl,_⟩
   ·exact z
   ·rw [z] at e;cases e
   ·have e1:=KX _ o e
    rw [(hT q hq).2] at e1;cases e1;have h2:=yP.mp hK0 _ (mem_of_lookupK e);exact absurd (show false=true from h2) Bool.false_ne_true)
  have hM:Mod K mg (iY s₁.heap H):=⟨hKb,nsK hns,⟨mb,nsK hb,hbb⟩,let ⟨mc,h1,h2⟩:=hlim;⟨mc,nsK h1,h2⟩⟩;have hBM:iA mg (iY s₁.heap H):=by
   obtain ⟨bm,ob,b1,b2,b3,b4,b5,b6⟩:=bm;refine ⟨bm,ob,b1,b2,fun z=>?_,fq b3 (none_of b3 (by rw [b4];intro z;injection z with z;exact absurd z dC) (fun z=>by rw [z] at b4;cases b4)),b4,b5,b6⟩;obtain ⟨o,es,ep,e,d,_⟩:=hns;rw [z,e] at b3;cases b3;rw [d] at b6;cases b6
  have e0:Env0 P w K mg (iY s₁.heap H) callerA [] s₁ H:=⟨rfl,hM,fun b o e=>CN e,Nat.le_of_eq (wO _ _),trivial,fun b hb=>absurd (show b ∈ ([]:List Addr) from hb) (by simp),Ny,.of_eq hg⟩;refine codeAny_mono ((F _ hKb (nsK hns) hBM).run callerA [] s₁ H ⟨[.ref a],[]⟩ [.ref a] [.ref a] _ _ hr e0 (hbind s₁ (.ref a)) (.cons rfl .nil) (hsp H hTb hS)) fun r s' h=>?_
  cases r with
  | error e=>exact (hCX H e s' h).elim
  | ok fl =>
   cases fl with
   | next=>exact False.elim h
   | brk=>exact False.elim h
   | cont=>exact False.elim h
   | ret u =>
    obtain ⟨v,H',os,bare,un,hok',r',q⟩:=h;have q':v=.bl true:=q;subst q';obtain rfl:u=Value.bool true:=r';have old:∀ b o,s₁.heap.get? b=some o->asItWas s₁.heap s'.heap b o:=fun b o e=>by
     rcases hA b with z | ⟨rfl,_,ob,xs,z⟩ | ⟨q,hq,rfl,z⟩
     ·exact .inl (un.keep b o e z (by intro z;exact absurd (show b ∈ ([]:List Addr) from z) (by simp)) (by simp))
     ·have z2:=un.frzs b ob _ z
      obtain ⟨e1,_⟩:=Ny b _ z;obtain ⟨e2,_⟩:=hok' b _ z2;rw [e] at e1;cases e1;exact .inl e2
     ·obtain ⟨more,z2⟩:=un.tbls _ _ z
      have e2:=hok' _ _ z2;rw [(hT q hq).2] at e;cases e;exact .inr (.inl ⟨((hT q hq).1.tab (hT q hq).2).isCodeTable,rfl,#[],more,rfl,e2⟩)
    refine ⟨rfl,⟨old,fun b o e=>?_⟩,os,bare⟩;exact un.there b o e (by simp)
 have natab:∀ q ∈ tabs,q.2 ≠ a:=fun q hq e=>by
  have:=(hT q hq).2
  rw [e,ha] at this;cases this
 cases hk:K.lookup a with
 | some o =>
  have e:=KX a o hk;rw [ha] at e;cases e;refine core (fun b=>if b ∈ tabs.map (·.2) then some (.tbl #[]) else none) (.inr ⟨_,vs.toArray,_,hk,rfl,rfl,rfl,by rw [zI,lenV];exact hl,by simpa using rv⟩) (fun b u z=>?_) (fun b=>?_) fun q hq=>yI (List.mem_map_of_mem hq)
  ·dsimp only at z
   by_cases hb:b ∈ tabs.map (·.2)
   ·rw [yI hb] at z;cases z
    obtain ⟨q,hq,rfl⟩:=yD.mp hb;exact (hT q hq).2
   ·rw [yH hb] at z;cases z
  ·by_cases hb:b ∈ tabs.map (·.2)
   ·obtain ⟨q,hq,rfl⟩:=yD.mp hb
    exact .inr (.inr ⟨q,hq,rfl,yI hb⟩)
   ·exact .inl (yH hb)
 | none =>
  refine core (fun b=>if b ∈ tabs.map (·.2) then some (.tbl #[]) else if b=a then some (.frz { cls:=.type "list",data:=.seq vs.toArray } (.lst (ns.map V.int))) else none) (.inl (.inr ⟨{ cls:=.type "list",data:=.seq vs.toArray },?_⟩)) (fun b u z=>?_) (fun b=>?_) fun q hq=>yI (List.mem_map_of_mem hq)
  ·dsimp only
   rw [yH (fun z=>by obtain ⟨q,hq,e⟩:=yD.mp z;exact natab q hq e),yI rfl]
  ·dsimp only at z
   by_cases hb:b ∈ tabs.map (·.2)
   ·rw [yI hb] at z;cases z
    obtain ⟨q,hq,rfl⟩:=yD.mp hb;exact (hT q hq).2
   ·rw [yH hb] at z
    by_cases hb':b=a
    ·rw [yI hb'] at z;cases z
     subst hb';exact ⟨ha,by rw [zH];exact hl,vs,_,rv,ha⟩
    ·rw [yH hb'] at z;cases z
  ·by_cases hb:b ∈ tabs.map (·.2)
   ·obtain ⟨q,hq,rfl⟩:=yD.mp hb
    exact .inr (.inr ⟨q,hq,rfl,yI hb⟩)
   ·by_cases hb':b=a
    ·exact .inr (.inl ⟨hb',hk,_,_,(yH hb).trans (yI hb')⟩)
    ·exact .inl ((yH hb).trans (yH hb'))
theorem Dt {l:PySem.W.OpenLaw}{n k:Nat}{q:Program}{bM:List Str}{XP:(Str->Option Value)->Heap->Prop}{YP:World->Heap->Prop}{d:DefRec}{K:Params->Frag}{sp:World->Sp}{x:Str}{tabs:List (Addr × Addr)}
  (hn:l.most=some n) (hn2:n <= sizeLine) (hdf:d.params.defaults=[]) (hr:Room k callerA)
  (hY:∀ (w:World) (h:Heap),YP w h->(K w.params).In h/\∀ q ∈ tabs,h.get? q.2=some (tabObj #[])) (hc:∀ (w:World),∀ q ∈ tabs,codeHdIn (K w.params) q.1 q.2=true) (hK0:∀ (w:World),noTabs (K w.params)=true)
  (F:∀ (w:World) (mg:Str->Option Value) (fa:Addr) (h:Heap),(K w.params).In h->h.Ns mainGlobals mg->mg d.name=some (.ref fa) ->
   ∃ fd:FuncData,(∀ (s:Shared) (u:Value),BindsTo s fd ⟨[u],[]⟩ [(x,u)]) /\
    ∀ base:Heap,(K w.params).In base->base.Ns mainGlobals mg->iA mg base->FnOk l.prog w (K w.params) mg base eB k fa fd [x] (sp w))
  (hsp:∀ (w:World) (H:Hp) (a:Addr) (ns:List Int),ns.length <= n->(∀ q ∈ tabs,H q.2=some (.tbl #[]))->bA (K w.params) H a (ns.map V.int)->sp w [.ref a] H (fun v _=>v=.bl true) fun _ _ _=>False) :
  PySem.W.WalkO q bM XP YP l.row.toRowW d [] (fun f vs=>PySem.call f vs):=by
 refine Att.attach_call hn hdf fun w s₀ s₁ mg mb fa o pm cd doc a vs ns G Y ho hd hcd hmg hobj hints hlen hg=>?_
 obtain ⟨KX,hT0⟩:=hY w _ Y;obtain ⟨fd,hb,hF⟩:=F w mg fa _ KX G.T.g hmg;exact wD (tabs:=tabs) KX G.T.g G.T.b G.T.builtins G.T.nolimit hg G.T.bmain (fun q hq=>⟨codeHd_of_K KX (hc w q hq),hT0 q hq⟩) (hK0 w) hobj hints (z5 hlen hn2) hr hF hb (fun H hO hS=>hsp w H a ns hlen hO hS) fun H e s' z=>z
end L2
namespace R
open PySem PySem.Spec PyProof.Rows L2
abbrev GL [Nt] (K:Frag) (qual:Str) (cd:Value) (la:List Pos):Prop:=la=[]\/∃ p c P,la=[p]/\cd=.ref c/\codeHdIn K c P=true/\Nt.tb=[(P,p,qual++".<locals>."++"<lambda>")]
abbrev FactF [Nt] (K:Frag) (x:Str) (e:FE):Prop:=∃ (f:Addr) (oc:Value) (od:Option Addr) (sl:Array (Option Value)) (kV dc pm:Value) (an:Option Addr) (cd ct:Value),nsIn K mainGlobals x=some (some (.ref f)) /\
 K.lookup f=some ⟨oc,od,.func (fnOf x e.qual (dk e.st) (dN e.st) (ci e.st) .none kV dc pm an cd ct),sl⟩/\codeIn K cd e.qual=true/\keepIn K (.ref f)=true/\GL K e.qual cd e.la
abbrev FactM [Nt] (K:Frag) (c m:Str) (e:FE):Prop:=∃ (C f:Addr) (oc:Value) (od:Option Addr) (sl:Array (Option Value)) (kV dc pm:Value) (an:Option Addr) (cd ct:Value),nsIn K mainGlobals c=some (some (.ref C))/\findIn K (.ref C) m=some (some (.ref f)) /\
 K.lookup f=some ⟨oc,od,.func (fnOf m e.qual (dk e.st) (dN e.st) (ci e.st) .none kV dc pm an cd ct),sl⟩/\codeIn K cd e.qual=true/\keepIn K (.ref f)=true/\isFn K (.ref f)=true/\GL K e.qual cd e.la
abbrev FactN (K:Frag) (c:Str):Prop:=∃ C:Addr,nsIn K mainGlobals c=some (some (.ref C))/\makesIn K C=true/\keepIn K (.ref C)=true
abbrev oB (K:Frag) (c:Str):Prop:=∃ C:Addr,nsIn K mainGlobals c=some (some (.ref C))/\plainGet K C Str.empty=true/\hasDictIn K C=true/\plainOver K C=true/\findIn K (.ref C) "__setattr__"=some (some (.builtin "object.__setattr__"))
abbrev BK (K:Frag) (c:Str) (fs:List Str):Prop:=∃ C:Addr,nsIn K mainGlobals c=some (some (.ref C))/\(fs.all fun f=>match findIn K (.ref C) f with | some none=>true | _=>false)=true
abbrev BD (K:Frag):Prop:=(bnames.all fun x=>match nsIn K mainGlobals x with | some none=>true | _=>false)=true
section
variable [Nt] {K:Frag}{h base:Heap}{mg:Str->Option Value}
theorem pX (B:K.In base) (hb:iA mg base) (L:GL K qual cd la):sj mg base qual cd la:=by
 intro p hp;rcases L with rfl | ⟨q,c,P,rfl,e,hc,ht⟩
 ·cases hp
 ·rw [zM.mp hp]
  exact ⟨c,P,e,codeHd_of_K B hc,hb,by rw [ht];simp,fun t h1 _=>by rw [ht] at h1;exact zM.mp h1⟩
theorem FactF.ok {n:Nat} (hk:e.ke=.f x n) (F:FactF K x e) (X:K.In h) (G:h.Ns mainGlobals mg) (B:K.In base) (hb:iA mg base):e.ok K mg base:=by
 obtain ⟨f,oc,od,sl,kV,dc,pm,an,cd,ct,a,l,c,k,L⟩:=F;unfold FE.ok;rw [hk];exact ⟨f,_,mg_of X G a,n8 l c k,pX B hb L⟩
theorem wZ (F:oB K c) (X:K.In h) (G:h.Ns mainGlobals mg) (hC:nsIn K mainGlobals c=some (some (.ref C))):mg c=some (.ref C)/\Cls K C:=by
 obtain ⟨C',a,f1,f2,f3,f4⟩:=F;rw [hC] at a;cases a;exact ⟨mg_of X G hC,⟨f1,f2,f3,f4⟩⟩
theorem FactM.ok {n:Nat} (hk:e.ke=.m c m n) (F:FactM K c m e) (C0:oB K c) (X:K.In h) (G:h.Ns mainGlobals mg) (B:K.In base) (hb:iA mg base):e.ok K mg base:=by
 obtain ⟨C,f,oc,od,sl,kV,dc,pm,an,cd,ct,a,g,l,cc,k,i,L⟩:=F;unfold FE.ok;rw [hk];obtain ⟨m1,m2⟩:=wZ C0 X G a;exact ⟨f,_,C,m1,m2,⟨g,i,k⟩,n8 l cc k,pX B hb L⟩
theorem FactN.ok {n:Nat} (hk:e.ke=.k c n) (F:FactM K c "__init__" e) (N:FactN K c) (X:K.In h) (G:h.Ns mainGlobals mg) (B:K.In base) (hb:iA mg base):e.ok K mg base:=by
 obtain ⟨C,f,oc,od,sl,kV,dc,pm,an,cd,ct,a,g,l,cc,k,i,L⟩:=F;obtain ⟨C',a',m1,m2⟩:=N;rw [a] at a';cases a';unfold FE.ok;rw [hk];exact ⟨f,_,C,mg_of X G a,⟨m1,g,i,m2⟩,n8 l cc k,pX B hb L⟩
abbrev FactG (K:Frag) (p:Str × AV):Prop:=match p.2 with
 | .int i=>∃ t,nsIn K mainGlobals p.1=some (some (.int i t))
 | .str x=>∃ t,nsIn K mainGlobals p.1=some (some (.str x t))
 | _=>False
theorem FactG.ok (F:FactG K p) (X:K.In h) (G:h.Ns mainGlobals mg):∀ w,nh p.2=some w->∃ u,mg p.1=some u/\RelV w u:=by
 obtain ⟨x,c⟩:=p;intro w hw;cases c with
 | int i=>obtain ⟨t,e⟩:=F;cases hw;exact ⟨_,mg_of X G e,t,rfl⟩
 | str y=>obtain ⟨t,e⟩:=F;cases hw;exact ⟨_,mg_of X G e,t,rfl⟩
 | _=>exact F.elim
theorem Ir (X:K.In h) (G:h.Ns mainGlobals mg) (hb:BD K) (hg:∀ p ∈ gs,FactG K p) (hc:∀ p ∈ cl,oB K p.1/\BK K p.1 p.2):Ev K mg gs cl:=by
 refine ⟨fun x hx=>?_,fun p hp=>(hg p hp).ok X G,fun p hp=>?_⟩
 ·have:=yP.mp hb x hx
  split at this
  ·rename_i e;exact mg_none_of X G e
  ·cases this
 ·obtain ⟨C0,C,a,fs⟩:=hc p hp
  obtain ⟨m1,m2⟩:=wZ C0 X G a;refine ⟨C,m1,m2,fun f hf=>?_⟩
  have:=yP.mp fs f hf
  split at this
  ·rename_i e;exact e
  ·cases this
end
theorem law_F [Nt] {P:Program}{w:World}{K:Frag}{h:Heap}{mg:Str->Option Value}{fa:Addr}{gs:List (Str × AV)}{cl:List (Str × List Str)}{pre:List FE}{e:FE}{fn:Fn} (X:K.In h) (G:h.Ns mainGlobals mg) (hfa:mg "law"=some (.ref fa))
  (hb:BD K) (hg:∀ p ∈ gs,FactG K p) (hc:∀ p ∈ cl,oB K p.1/\BK K p.1 p.2) (hchk:lw gs cl [] pre=true) (hce:e.chk gs cl pre=true)
  (facts:∀ base:Heap,K.In base->iA mg base->∀ e ∈ pre,e.ok K mg base) (hF:FactF K "law" e) (hps:fV e.st=[("_law_script":Str)]) (hfn:e.fn (iI [] pre)=fn) :
  ∃ fd:FuncData,(∀ (s:Shared) (v:Value),BindsTo s fd ⟨[v],[]⟩ [("_law_script",v)])/\∀ base:Heap,K.In base->base.Ns mainGlobals mg->iA mg base ->
   FnOk P w K mg base eB e.d fa fd ["_law_script"] (fun vs H Q E=>∀ mg,dg ⟨K,mg⟩ 1 fn vs H Q E):=by
 have E:=Ir X G hb hg hc;unfold FE.chk at hce;simp only [zC] at hce;obtain ⟨⟨⟨h1,h2⟩,h3⟩,h4⟩:=hce;obtain ⟨d,hd⟩:∃ d,e.d=d + 3:=⟨e.d - 3,by have:=zS h4;omega⟩;rw [hd] at h3 ⊢;obtain ⟨f,oc,od,sl,kV,dc,pm,an,cd,ct,a,l,c,k,L⟩:=hF;have m:=mg_of X G a;rw [hfa] at m;cases m;have F:=n8 l c k;refine ⟨fnOf "law" e.qual (dk e.st) (dN e.st) (ci e.st) .none kV dc pm an cd ct,fun s v=>?_,fun base B _ hbm=>?_⟩
 ·have hp:plainA (dk e.st)=true:=by
   unfold R.chk at h1;simp only [zC] at h1;exact h1.1.1.2
  refine .of_eq ?_
  have:=bind_plain (fd:=fnOf "law" e.qual (dk e.st) (dN e.st) (ci e.st) .none kV dc pm an cd ct) (us:=[v]) hp rfl (by show (fV e.st).Nodup;rw [hps];simp) (by show _=(fV e.st).length;rw [hps];rfl)
  rw [this];show pure ((fV e.st).zip [v])=_;rw [hps];rfl
 ·have pk:=sJ (P:=P) (w:=w) E pre [] [] ⟨rfl,fun j g hg=>by simp at hg⟩ (facts base B hbm) hchk
  have hk:=uV (d:=d) pk e.cs h3
  have:=(nZ F E (pX B hbm L) hk h1).1
  rw [hps] at this;have hfn':run e.N.length (ai (e.cs.map (kf (iI [] pre))) e.b)=fn:=hfn;rw [hfn'] at this;exact this.imp fun vs H Q E q=>q mg
theorem walk_R [Nt] {l:PySem.W.OpenLaw}{k:Nat}{q:Program}{bM:List Str}{XP:(Str->Option Value)->Heap->Prop}{YP:World->Heap->Prop}{d:DefRec}{K:Params->Frag}{fn:Fn}{tabs:List (Addr × Addr)}
  (hn:l.most=some 63) (hdf:d.params.defaults=[]) (hr:Room k callerA)
  (hY:∀ (w:World) (h:Heap),YP w h->(K w.params).In h/\∀ q ∈ tabs,h.get? q.2=some (tabObj #[])) (hc:∀ (w:World),∀ q ∈ tabs,codeHdIn (K w.params) q.1 q.2=true) (hK0:∀ (w:World),noTabs (K w.params)=true)
  (ht:∀ t ∈ Nt.tb,t.1 ∈ tabs.map (·.2)) (hg:∀ ns:List Int,ns.length <= 63->∃ st,fn [.fz (ns.map .int)] []=some (.bl true,st))
  (F:∀ (w:World) (mg:Str->Option Value) (fa:Addr) (h:Heap),(K w.params).In h->h.Ns mainGlobals mg->mg d.name=some (.ref fa) ->
   ∃ fd:FuncData,(∀ (s:Shared) (u:Value),BindsTo s fd ⟨[u],[]⟩ [("_law_script",u)]) /\
    ∀ base:Heap,(K w.params).In base->base.Ns mainGlobals mg->iA mg base->FnOk l.prog w (K w.params) mg base eB k fa fd ["_law_script"] (fun vs H Q E=>∀ mg,dg ⟨K w.params,mg⟩ 1 fn vs H Q E)) :
  PySem.W.WalkO q bM XP YP l.row.toRowW d [] (fun f vs=>PySem.call f vs) :=
 Dt (sp:=fun w vs H Q E=>∀ mg,dg ⟨K w.params,mg⟩ 1 fn vs H Q E) hn dC hdf hr hY hc hK0 F fun w H a ns hl hT hS mg=>HM (hg ns hl) hS fun t h=>by
  obtain ⟨q,hq,e⟩:=yD.mp (ht t h);exact ⟨#[],by rw [<- e];exact hT q hq,trivial,.inl rfl⟩
end R
namespace SX
def NK:Nat->(Nat->Int)->Int
 | 0,_=>0
 | n + 1,f=>NK n f + f n
theorem Jo {n:Nat}{f g:Nat->Int} (h:∀ i,i < n->f i=g i):NK n f=NK n g:=by
 induction n with
 | zero=>rfl
 | succ n ih=>simp only [NK];rw [ih fun i hi=>h i oM,h n oM]
theorem abs_sum {n:Nat}{f:Nat->Int}{M:Nat} (h:∀ i,i < n->(f i).natAbs <= M):(NK n f).natAbs <= n * M:=by
 induction n with
 | zero=>simp [NK]
 | succ n ih =>
  simp only [NK];have h1:=ih fun i hi=>h i oM
  have h2:=h n oM;rw [Nat.succ_mul]
  have:=Int.natAbs_add_le (NK n f) (f n)
  omega
structure Pm (w m:Nat) (h s:Nat->Nat):Prop where
 hl:∀ j,j < w->h j < w + m
 sl:∀ i,i < m->s i < w + m
 hi:∀ j k,j < w->k < w->h j=h k->j=k
 si:∀ j k,j < m->k < m->s j=s k->j=k
 hs:∀ j i,j < w->i < m->h j ≠ s i
 cov:∀ q,q < w + m->(∃ i,i < m/\s i=q)\/∃ j,j < w/\h j=q
structure Sh where
 d:Int
 ls:List (List Int)
 hd:List Nat
 sd:List Nat
 gd:List Nat
 nl:List Nat
 tn:List Nat
noncomputable def gI (xs:List Int) (j:Nat):Int:=xs.getD j 0
noncomputable def row (S:Sh) (i:Nat):List Int:=S.ls.getD i []
def Sh.t (S:Sh) (i j:Nat):Int:=gI (row S i) j
noncomputable def Sh.h (S:Sh) (j:Nat):Nat:=S.hd.getD j 0
noncomputable def Sh.s (S:Sh) (i:Nat):Nat:=S.sd.getD i 0
noncomputable def fdvS (a b:Int):Int:=if 0 < b then a / b else a.fdiv b
def chLine (l P:List Int) (c:Nat) (sg d:Int):List Int :=
 if gI l c=0 then (if gI P c=d then l else l.map fun x=>fdvS (x * gI P c) d) else ((l.zip P).map fun z=>fdvS (z.1 * gI P c - gI l c * z.2) d).set c (sg * gI l c)
noncomputable def sgn (x:Int):Int:=if x < 0 then -1 else 1
def pvl (S:Sh) (r c:Nat):List Int:=(row S r).map fun x=>sgn (S.t r c) * x
def NE (S:Sh) (r c:Nat):Sh:={ S with
 d:=gI (pvl S r c) c
 ls:=(S.ls.map fun l=>chLine l (pvl S r c) c (sgn (S.t r c)) S.d).set r (((pvl S r c).map fun x=>- x).set c (sgn (S.t r c) * S.d))
 hd:=S.hd.set c (S.s r)
 sd:=S.sd.set r (S.h c) }
structure Nz (w m:Nat) (S:Sh):Prop where
 ls:S.ls.length=m
 row:∀ l ∈ S.ls,l.length=w + 1
 hd:S.hd.length=w
 sd:S.sd.length=m
theorem gI_set_at {xs:List Int}{j:Nat}{x:Int} (h:j < xs.length):gI (xs.set j x) j=x:=by
 unfold gI;simp [zD,h]
theorem gI_set_ne {j k:Nat}{x:Int} (h:k ≠ j):gI (xs.set j x) k=gI xs k:=by
 unfold gI;simp [zD,yU,h.symm]
theorem getD_mem {α:Type}{xs:List α}{i:Nat}{a:α} (h:i < xs.length):xs.getD i a ∈ xs:=by
 simp [zD,zF h]
theorem Nz.rl {w m:Nat} (P:Nz w m S) {i:Nat} (h:i < m):(SX.row S i).length=w + 1:=P.row _ (getD_mem (by rw [P.ls];exact h))
theorem vd {c:Nat}{sg d:Int} (h:l.length=P.length):(chLine l P c sg d).length=l.length:=by
 unfold chLine;split
 ·split
  ·rfl
  ·simp
 ·simp [h]
theorem exch_shp {w m:Nat}{r c:Nat} (P:Nz w m S) (hr:r < m):Nz w m (NE S r c):=by
 have hp:(pvl S r c).length=w + 1:=by unfold pvl;rw [zH];exact P.rl hr
 refine ⟨by simp [NE,P.ls],fun l hl=>?_,by simp [NE,P.hd],by simp [NE,P.sd]⟩;rcases List.mem_or_eq_of_mem_set hl with h | h
 ·obtain ⟨l',h1,rfl⟩:=yD.mp h
  rw [vd (by rw [P.row _ h1,hp])];exact P.row _ h1
 ·rw [h];simp [hp]
def trn (S:Sh) (p:Nat):Sh:={ S with ls:=S.ls.set p ((row S p).map fun x=>- x),tn:=if S.s p ∈ S.tn then S.tn else S.tn++[S.s p] }
theorem trn_shp {w m p:Nat} (P:Nz w m S) (hp:p < m):Nz w m (trn S p):=by
 refine ⟨by simp [trn,P.ls],fun l hl=>?_,P.hd,P.sd⟩;rcases List.mem_or_eq_of_mem_set hl with h | h
 ·exact P.row _ h
 ·rw [h,zH];exact P.rl hp
def JW (S:Sh) (w q r i:Nat):Prop:=S.t r w * - S.t i q < S.t i w * - S.t r q\/(S.t r w * - S.t i q=S.t i w * - S.t r q/\S.s r <= S.s i)
def NA (S:Sh) (w q k:Nat) (o:Option Nat):Prop:=(o=none->∀ i,i < k->S.s i ∈ S.gd->¬ S.t i q < 0)/\∀ r,o=some r->r < k/\S.s r ∈ S.gd/\S.t r q < 0/\∀ i,i < k->S.s i ∈ S.gd->S.t i q < 0->JW S w q r i
theorem Lz {A B C x y z:Int}{a b c:Nat} (hx:0 < x) (hy:0 < y) (hz:0 < z) (h1:A * y < B * x\/(A * y=B * x/\a <= b)) (h2:B * z < C * y\/(B * z=C * y/\b <= c)):A * z < C * x\/(A * z=C * x/\a <= c):=by
 have l1:A * y <= B * x:=by omega
 have l2:B * z <= C * y:=by omega
 have l3:(A * y) * z <= (B * x) * z:=Int.mul_le_mul_of_nonneg_right l1 oM;have l4:(B * z) * x <= (C * y) * x:=Int.mul_le_mul_of_nonneg_right l2 oM;have e1:(B * x) * z=(B * z) * x:=by grind
 have e2:(A * y) * z=(A * z) * y:=by grind
 have e3:(C * y) * x=(C * x) * y:=by grind
 have l5:(A * z) * y <= (C * x) * y:=by omega
 have l6:A * z <= C * x:=Int.le_of_mul_le_mul_right l5 hy;by_cases e:A * z=C * x
 ·right
  refine ⟨e,?_⟩;have e4:(A * z) * y=(C * x) * y:=by rw [e]
  have q1:A * y=B * x:=by
   have:(A * y) * z=(B * x) * z:=by omega
   exact Int.eq_of_mul_eq_mul_right oM this
  have q2:B * z=C * y:=by
   have:(B * z) * x=(C * y) * x:=by omega
   exact Int.eq_of_mul_eq_mul_right oM this
  rcases h1 with h1 | h1
  ·omega
  ·rcases h2 with h2 | h2
   ·omega
   ·omega
 ·left;omega
section
variable {S:Sh}{w q k r:Nat}{o:Option Nat}
theorem tt_zero:NA S w q 0 none:=⟨fun _ i h=>by omega,fun r h=>nomatch h⟩
theorem tt_skip (h:¬ (S.t k q < 0/\S.s k ∈ S.gd)) (T:NA S w q k o):NA S w q (k + 1) o:=by
 refine ⟨fun e i hi hg ht=>?_,fun r e=>?_⟩
 ·by_cases z:i=k
  ·subst z;exact h ⟨ht,hg⟩
  ·exact T.1 e i oM hg ht
 ·obtain ⟨a,b,c,d⟩:=T.2 r e
  refine ⟨by omega,b,c,fun i hi hg ht=>?_⟩;by_cases z:i=k
  ·subst z;exact absurd ⟨ht,hg⟩ h
  ·exact d i oM hg ht
theorem tt_first (h:S.t k q < 0) (hg:S.s k ∈ S.gd) (T:NA S w q k none):NA S w q (k + 1) (some k):=by
 refine ⟨(fun e=>nomatch e),fun r e=>?_⟩;cases e;refine ⟨by omega,hg,h,fun i hi hg ht=>?_⟩;by_cases z:i=k
 ·subst z;exact .inr ⟨rfl,zP _⟩
 ·exact absurd ht (T.1 rfl i oM hg)
theorem tt_new (h:S.t k q < 0) (hg:S.s k ∈ S.gd) (ht:S.t k w * - S.t r q < S.t r w * - S.t k q\/(S.t k w * - S.t r q=S.t r w * - S.t k q/\S.s k < S.s r)) (T:NA S w q k (some r)):NA S w q (k + 1) (some k):=by
 refine ⟨(fun e=>nomatch e),fun r' e=>?_⟩;cases e;obtain ⟨a,b,c,d⟩:=T.2 r rfl;refine ⟨by omega,hg,h,fun i hi hg' ht'=>?_⟩;by_cases z:i=k
 ·subst z;exact .inr ⟨rfl,zP _⟩
 ·exact Lz (x:=- S.t k q) (y:=- S.t r q) (z:=- S.t i q) oM oM oM (ht.imp id fun x=>⟨x.1,by omega⟩) (d i oM hg' ht')
theorem tt_old (h:S.t k q < 0) (ht:¬ (S.t k w * - S.t r q < S.t r w * - S.t k q\/(S.t k w * - S.t r q=S.t r w * - S.t k q/\S.s k < S.s r))) (T:NA S w q k (some r)):NA S w q (k + 1) (some r):=by
 refine ⟨(fun e=>nomatch e),fun r' e=>?_⟩;cases e;obtain ⟨a,b,c,d⟩:=T.2 r rfl;refine ⟨by omega,b,c,fun i hi hg' ht'=>?_⟩;by_cases z:i=k
 ·subst z
  unfold JW;have h1:¬ (S.t i w * - S.t r q < S.t r w * - S.t i q):=fun x=>ht (.inl x)
  by_cases e:S.t i w * - S.t r q=S.t r w * - S.t i q
  ·exact .inr ⟨e.symm,Nat.le_of_not_lt fun x=>ht (.inr ⟨e,x⟩)⟩
  ·left;omega
 ·exact d i oM hg' ht'
end
noncomputable def openS (w:Nat) (L:List (List Int)) (k:Nat):Sh:=⟨1,L,List.range w,(List.range L.length).map (w + ·),List.range k,[],[]⟩
end SX
namespace R
open PySem PySem.Spec L2
open DD (pyOk)
section
variable {ks:List Fn}{sl:Sl}{st:aa}
@[simp] theorem Nl:ev ks .n sl st=some (.non,st):=rfl
@[simp] theorem Nn {x:Bool}:ev ks (.b x) sl st=some (.bl x,st):=rfl
@[simp] theorem vz {x:Int}:ev ks (.i x) sl st=some (.int x,st):=rfl
@[simp] theorem Jf {x:Str}:ev ks (.s x) sl st=some (.str x,st):=rfl
@[simp] theorem Nm {x:Str}{c:AV}:ev ks (.g x c) sl st=some (c,st):=rfl
@[simp] theorem qa {k:Nat}:ev ks (.v k) sl st=aV k sl st:=rfl
@[simp] theorem mY {v:AV}:aV 0 (some v::sl) st=some (v,st):=rfl
@[simp] theorem mX {k:Nat}{x:Option AV}:aV (k + 1) (x::sl) st=aV k sl st:=rfl
@[simp] theorem Aw {o:Operator}{a b:Ex}:ev ks (.bin o a b) sl st=(ev ks a sl st).bind fun p=>(ev ks b sl p.2).bind fun q=>(cp o q.2 p.1 q.1).map fun z=>(z,q.2):=rfl
@[simp] theorem Av {o:CmpOp}{a b:Ex}:ev ks (.cmp o a b) sl st=(ev ks a sl st).bind fun p=>(ev ks b sl p.2).bind fun q=>(mU o q.2 p.1 q.1).map fun z=>(z,q.2):=rfl
@[simp] theorem MJ {o:UnaryOp}{a:Ex}:ev ks (.un o a) sl st=(ev ks a sl st).bind fun p=>(l7 o p.2 p.1).map fun z=>(z,p.2):=rfl
def A0 (x:AV) (st:aa):Option (AV × aa):=match x with
 | .bl b=>some (.bl !b,st)
 | _=>none
def Bu (x:AV) (st:aa) (r:Option (AV × aa)):Option (AV × aa):=match x with
 | .bl b=>if b=true then r else some (.bl false,st)
 | _=>none
def E1 (x:AV) (st:aa) (r:Option (AV × aa)):Option (AV × aa):=match x with
 | .bl b=>if b=true then some (.bl true,st) else r
 | _=>none
@[simp] theorem Mz {b:Bool}:A0 (.bl b) st=some (.bl !b,st):=rfl
@[simp] theorem MI {b:Bool}{r:Option (AV × aa)}:Bu (.bl b) st r=if b=true then r else some (.bl false,st):=rfl
@[simp] theorem My {b:Bool}{r:Option (AV × aa)}:E1 (.bl b) st r=if b=true then some (.bl true,st) else r:=rfl
@[simp] theorem MM {a:Ex}:ev ks (.no a) sl st=(ev ks a sl st).bind fun p=>A0 p.1 p.2:=by
 show Bx (ev ks a) sl st=_;unfold Bx A0;congr 1
@[simp] theorem J9 {a b:Ex}:ev ks (.an a b) sl st=(ev ks a sl st).bind fun p=>Bu p.1 p.2 (ev ks b sl p.2):=by
 show By (ev ks a) (ev ks b) sl st=_;unfold By Bu;congr 1;funext p;cases p.1 <;> first | rfl | skip
 rename_i x;cases x <;> rfl
@[simp] theorem ML {a b:Ex}:ev ks (.or a b) sl st=(ev ks a sl st).bind fun p=>E1 p.1 p.2 (ev ks b sl p.2):=by
 show Bv (ev ks a) (ev ks b) sl st=_;unfold Bv E1;congr 1;funext p;cases p.1 <;> first | rfl | skip
 rename_i x;cases x <;> rfl
@[simp] theorem Au {t:Tx}{a b:Ex}:ev ks (.ife t a b) sl st=(tv ks t sl st).bind fun p=>if p.1=true then ev ks a sl p.2 else ev ks b sl p.2:=rfl
@[simp] theorem xD {a b:Ex}:ev ks (.ix a b) sl st=(ev ks a sl st).bind fun p=>(ev ks b sl p.2).bind fun q=>(cU q.2 p.1 q.1).map fun z=>(z,q.2):=rfl
@[simp] theorem qb {p:Bool}{j:Nat}{es:Exs}:ev ks (.ca p j es) sl st=(aS ks es sl st).bind fun q=>jV p (kf ks j) q.1 q.2:=rfl
@[simp] theorem AU {f:Fn}:jV true f=pm f:=rfl
@[simp] theorem uw {f:Fn}:jV false f=f:=rfl
@[simp] theorem qT {f:Fn}:kf (f::ks) 0=f:=rfl
@[simp] theorem qS {f:Fn}{j:Nat}:kf (f::ks) (j + 1)=kf ks j:=rfl
@[simp] theorem kF:aS ks .nil sl st=some ([],st):=rfl
@[simp] theorem jf {e:Ex}{es:Exs}:aS ks (.cons e es) sl st=(ev ks e sl st).bind fun p=>(aS ks es sl p.2).bind fun q=>some (p.1::q.1,q.2):=rfl
@[simp] theorem MK {es:Exs}:ev ks (.tu es) sl st=(aS ks es sl st).bind fun p=>if Nat.ble p.1.length 1000=true then some (.tup p.1,p.2) else none:=rfl
@[simp] theorem mG {x:Nx}:ev ks (.nw false x) sl st=(gq ks x sl st).bind fun p=>if rfs p.1=true then some (.fz p.1,p.2) else none:=rfl
@[simp] theorem xB {x:Nx}:ev ks (.nw true x) sl st=(gq ks x sl st).bind fun p=>some (.ref p.2.length,p.2++[.lst p.1]):=rfl
@[simp] theorem MP {c m:Str}{j:Nat}{o:Ex}{es:Exs}:ev ks (.me c m j o es) sl st=(ev ks o sl st).bind fun p=>(iX p.2 c p.1).bind fun fs=>if (fs.lookup m).isNone=true then (aS ks es sl p.2).bind fun q=>kf ks j (p.1::q.1) q.2 else none:=rfl
@[simp] theorem MN {c:Str}{j:Nat}{es:Exs}:ev ks (.ne c j es) sl st=xj c (kf ks j) (aS ks es) sl st:=rfl
@[simp] theorem MQ {c f:Str}{o:Ex}:ev ks (.fd c f o) sl st=(ev ks o sl st).bind fun p=>(iX p.2 c p.1).bind fun fs=>(fs.lookup f).map fun v=>(v,p.2):=rfl
@[simp] theorem J8 {b:Bi}{es:Exs}:ev ks (.bi b es) sl st=(aS ks es sl st).bind fun p=>ly b p.1 p.2:=rfl
@[simp] theorem L6:ly .len=bQ eE:=rfl
@[simp] theorem L1:ly .sum=bQ uj:=rfl
@[simp] theorem L9:ly .abs=bQ rY:=rfl
@[simp] theorem L4:ly .min=bQ uH:=rfl
@[simp] theorem L5:ly .max=bQ uJ:=rfl
@[simp] theorem L3:ly .str=bQ qg:=rfl
@[simp] theorem L8:ly .all=bQ vn:=rfl
@[simp] theorem L7:ly .any=bQ rX:=rfl
@[simp] theorem MO {m:Mi}{o:Ex}{es:Exs}:ev ks (.mt m o es) sl st=iz (jY m) (jX m) (ev ks o) (aS ks es) sl st:=rfl
@[simp] theorem MR:ev ks .dn sl st=some (.ref st.length,st++[.dK []]):=rfl
@[simp] theorem Mt {a:Ex}:ev ks (.mnd a) sl st=(ev ks a sl st).bind fun p=>bQ nK [p.1] p.2:=by
 show (df (ev ks a) dF sl st).bind _=_;unfold df dF;cases ev ks a sl st <;> rfl
@[simp] theorem Ms {a k:Ex}:ev ks (.mnk a k) sl st=p5 (ev ks a) (ev ks k) sl st:=rfl
@[simp] theorem Mr {a:Ex}{l h:Ox}:ev ks (.slt a l h) sl st=vp (ev ks a) (jq ks l) (jq ks h) sl st:=rfl
@[simp] theorem M9 {a b c:Ex}:dS ks (.r3 a b c) sl st=F7 (ev ks a) (ev ks b) (ev ks c) sl st:=rfl
@[simp] theorem M7 {es:Exs}:gq ks (.li es) sl st=(aS ks es sl st).bind fun p=>if cM p.1.length=true then some p else none:=rfl
@[simp] theorem uB {a b:Ex}:gq ks (.cat a b) sl st=uG (ev ks a) (ev ks b) sl st:=rfl
@[simp] theorem HE {es:Exs}{b:Ex}:gq ks (.rep es b) sl st=uD (aS ks es) (ev ks b) sl st:=rfl
@[simp] theorem M6 {a:Ex}{l h:Ox}:gq ks (.sl a l h) sl st=pj (ev ks a) (jq ks l) (jq ks h) sl st:=rfl
@[simp] theorem MD {a:Ex}:gq ks (.lof a) sl st=mO (ev ks a) sl st:=rfl
@[simp] theorem MC {a:Ex}:gq ks (.lr1 a) sl st=uF (ev ks a) sl st:=rfl
@[simp] theorem MA {a b c:Ex}:gq ks (.lr3 a b c) sl st=yZ (ev ks a) (ev ks b) (ev ks c) sl st:=rfl
@[simp] theorem MB {a b:Ex}:gq ks (.lr2 a b) sl st=uE (ev ks a) (ev ks b) sl st:=rfl
@[simp] theorem KF {k:Nat}{it:Ix}{t:Tg}{c:Cx'}{e:Ex}:gq ks (.lc k it t c e) sl st=(dS ks it sl st).bind fun p=>if cM p.1.Nu.length=true then gJ p.1.gd (bU ks t) (j1 ks c) (ev ks e) (sl++List.replicate k none) p.1.Nu p.2 else none:=rfl
@[simp] theorem M5:jq ks .no sl st=some (none,st):=rfl
@[simp] theorem M4 {e:Ex}:jq ks (.so e) sl st=pi (ev ks e) sl st:=rfl
@[simp] theorem Ng:j1 ks .no sl st=some (true,st):=rfl
@[simp] theorem Lb {t:Tx}:j1 ks (.so t) sl st=tv ks t sl st:=rfl
@[simp] theorem No {a:Ex}:dS ks (.e a) sl st=(ev ks a sl st).bind fun p=>(nR p.2 p.1).map fun iv=>(iv,p.2):=rfl
@[simp] theorem Nb {a:Ex}:dS ks (.r1 a) sl st=wM (ev ks a) sl st:=rfl
@[simp] theorem Na {a b:Ex}:dS ks (.r2 a b) sl st=Bb (ev ks a) (ev ks b) sl st:=rfl
@[simp] theorem M8 {a b:Ex}:dS ks (.zi a b) sl st=iZ (ev ks a) (ev ks b) sl st:=rfl
@[simp] theorem K0 {a:Ex}:dS ks (.en a) sl st=(ev ks a sl st).bind fun p=>(ib p.2 p.1).map fun iv=>(⟨eA 0 iv.Nu,iv.gd⟩,p.2):=rfl
@[simp] theorem Nc {a b:Ex}:dS ks (.es a b) sl st=u4 (ev ks a) (ev ks b) sl st:=rfl
@[simp] theorem Ab {k:Nat}{x:AV}:bU ks (.nm k) x sl st=some (sl.set k (some x),st):=rfl
@[simp] theorem Nd {n:Nat}{ts:Tgs}{x:AV}:bU ks (.tu n ts) x sl st=wQ n (i6 ks ts) x sl st:=rfl
@[simp] theorem Nf {a b:Ex}{x:AV}:bU ks (.su a b) x sl st=(ev ks a sl st).bind fun p=>(ev ks b sl p.2).bind fun q=>(jC q.2 p.1 q.1 x).map fun st'=>(sl,st'):=rfl
@[simp] theorem LP {xs:List AV}:i6 ks .nil xs sl st=Gb xs sl st:=rfl
@[simp] theorem Lx {t:Tg}{ts:Tgs}{xs:List AV}:i6 ks (.cons t ts) xs sl st=Gf (bU ks t) (i6 ks ts) xs sl st:=rfl
@[simp] theorem MS {e:Ex}:tv ks (.va e) sl st=(ev ks e sl st).bind fun p=>(fy p.2 p.1).map fun b=>(b,p.2):=rfl
@[simp] theorem pT {o:CmpOp}{a b:Ex}:tv ks (.cmp o a b) sl st=(ev ks a sl st).bind fun p=>(ev ks b sl p.2).bind fun q=>(cm o q.2 p.1 q.1).map fun b=>(b,q.2):=rfl
@[simp] theorem MU {t:Tx}:tv ks (.no t) sl st=(tv ks t sl st).bind fun p=>some (!p.1,p.2):=rfl
@[simp] theorem MV {t u:Tx}:tv ks (.an t u) sl st=(tv ks t sl st).bind fun p=>if p.1=true then tv ks u sl p.2 else some (false,p.2):=rfl
@[simp] theorem MT {t u:Tx}:tv ks (.or t u) sl st=(tv ks t sl st).bind fun p=>if p.1=true then some (true,p.2) else tv ks u sl p.2:=rfl
@[simp] theorem Mq:ai ks .nil sl st=some (.nx sl st):=rfl
def sX (o:Out) (k:Sl->aa->Option Out):Option Out:=match o with
 | .nx sl st=>k sl st
 | o=>some o
@[simp] theorem wn {k:Sl->aa->Option Out}:sX (.nx sl st) k=k sl st:=rfl
@[simp] theorem Fj {v:AV}{k:Sl->aa->Option Out}:sX (.rt v st) k=some (.rt v st):=rfl
@[simp] theorem LK {k:Sl->aa->Option Out}:sX (.bk sl st) k=some (.bk sl st):=rfl
@[simp] theorem LJ {k:Sl->aa->Option Out}:sX (.ct sl st) k=some (.ct sl st):=rfl
@[simp] theorem p8 {s:Sx}{ss:Nw}:ai ks (.cons s ss) sl st=(cN ks s sl st).bind fun o=>sX o (ai ks ss):=by
 show (cN ks s sl st).bind _=(cN ks s sl st).bind _;congr 1
@[simp] theorem oJ {e:Ex}:cN ks (.ex e) sl st=(ev ks e sl st).bind fun p=>some (.nx sl p.2):=rfl
@[simp] theorem oK {e:Ex}{t:Tg}:cN ks (.as e t) sl st=(ev ks e sl st).bind fun p=>(bU ks t p.1 sl p.2).bind fun q=>some (.nx q.1 q.2):=rfl
@[simp] theorem AK {o:Operator}{a b e:Ex}:cN ks (.aus o a b e) sl st=uo o (ev ks a) (ev ks b) (ev ks e) sl st:=rfl
@[simp] theorem MX {c f:Str}{o e:Ex}:cN ks (.fl c f o e) sl st=vO c f (ev ks o) (ev ks e) sl st:=rfl
@[simp] theorem DR {e:Ex}:cN ks (.rt e) sl st=(ev ks e sl st).bind fun p=>some (.rt p.1 p.2):=rfl
@[simp] theorem G5 {t:Tx}{a b:Nw}:cN ks (.iff t a b) sl st=(tv ks t sl st).bind fun p=>if p.1=true then ai ks a sl p.2 else ai ks b sl p.2:=rfl
@[simp] theorem mJ {it:Ix}{t:Tg}{b:Nw}:cN ks (.fo it t b) sl st=(dS ks it sl st).bind fun p=>c5 p.1.gd (bU ks t) (ai ks b) p.1.Nu sl p.2:=rfl
@[simp] theorem Mv {a:Ex}{t:Tg}{b:Nw}:cN ks (.fd a t b) sl st=um (ev ks a) (bU ks t) (ai ks b) sl st:=rfl
@[simp] theorem MW {t:Tx}{b:Nw}:cN ks (.wh t b) sl st=qk (tv ks t) (ai ks b) sl st:=rfl
@[simp] theorem LF:cN ks .dead sl st=none:=rfl
def aH (o:Out):Option (AV × aa):=match o with
 | .rt v st=>some (v,st)
 | .nx _ st=>some (.non,st)
 | _=>none
@[simp] theorem LR {v:AV}:aH (.rt v st)=some (v,st):=rfl
@[simp] theorem LS:aH (.nx sl st)=some (.non,st):=rfl
theorem aI {n:Nat}{b:Nw}{args:List AV}:R.run n (ai ks b) args st=(ai ks b (args.map some++List.replicate (n - args.length) none) st).bind aH:=by
 unfold R.run;congr 1
end
@[simp] theorem Mw:rfs []=true:=rfl
@[simp] theorem Mx {x:AV}{xs:List AV}:rfs (x::xs)=(rf x && rfs xs):=by simp only [rfs]
@[simp] theorem M1 {i:Int}:rf (.int i)=true:=rfl
@[simp] theorem M3 {i:Bool}:rf (.bl i)=true:=rfl
@[simp] theorem MZ {i:Str}:rf (.str i)=true:=rfl
@[simp] theorem M0:rf .non=true:=rfl
@[simp] theorem M2 {xs:List AV}:rf (.fz xs)=true:=rfl
@[simp] theorem MY {xs:List AV}:rf (.tup xs)=rfs xs:=by simp only [rf]
section
variable {st:aa}{a b:Int}
theorem Bj:gM st (.int a) (.int b)=some (decide (a=b)):=by
 show (if pyOk (.int a) (.int b)=true then some (PyData.eqv (.int a) (.int b)) else none)=_;rw [yI (by simp [pyOk,PyData.canLay0,PyData.depth])];congr 1
@[simp] theorem Ld:cm .Eq st (.int a) (.int b)=some (decide (a=b)):=Bj
@[simp] theorem Lc:cm .NotEq st (.int a) (.int b)=some (!decide (a=b)):=by show ((gM st (.int a) (.int b)).map fun x=>!x)=_;rw [Bj];rfl
@[simp] theorem Nh:cm .Lt st (.int a) (.int b)=some (decide (a < b)):=rfl
@[simp] theorem Ni:cm .LtE st (.int a) (.int b)=some (decide (a <= b)):=rfl
@[simp] theorem Nj:cm .Gt st (.int a) (.int b)=some (decide (b < a)):=rfl
@[simp] theorem Nk:cm .GtE st (.int a) (.int b)=some (decide (b <= a)):=rfl
@[simp] theorem LX {o:CmpOp}{x y:AV}:mU o st x y=(cm o st x y).map .bl:=rfl
@[simp] theorem ME:cm .Is st .non .non=some true:=rfl
@[simp] theorem MG:cm .Is st (.int a) .non=some false:=rfl
@[simp] theorem LY:cm .IsNot st .non .non=some false:=rfl
@[simp] theorem LZ:cm .IsNot st (.int a) .non=some true:=rfl
@[simp] theorem MH:cp .Add st (.int a) (.int b)=some (.int (a + b)):=rfl
@[simp] theorem IV:cp .Sub st (.int a) (.int b)=some (.int (a - b)):=rfl
theorem cz (h:cJ a b=true):cp .Mult st (.int a) (.int b)=some (.int (a * b)):=by
 show (if cJ a b=true then _ else _:Option Int).map _=_;rw [yI h];rfl
theorem lX (h:i8 b=true):cp .FloorDiv st (.int a) (.int b)=some (.int (tL a b)):=by
 show (if i8 b=true then _ else _:Option Int).map _=_;rw [yI h];rfl
theorem eO (h:b ≠ 0):cp .Mod st (.int a) (.int b)=some (.int (k9 a b)):=by
 show (if b=0 then _ else _:Option Int).map _=_;rw [yH h];rfl
@[simp] theorem Mu:l7 .USub st (.int a)=some (.int (-a)):=rfl
theorem eK {x y:Int} (h1:x.natAbs < 2 ^ 9000) (h2:y.natAbs < 2 ^ 9000):cJ x y=true:=by
 have lg:∀ z:Nat,z < 2 ^ 9000->Nat.ble z.log2 1000000=true:=fun z hz=>by
  by_cases h0:z=0
  ·subst h0;rfl
  ·exact yL (z5 (yW ((Nat.log2_lt h0).mpr hz)) oM)
 unfold cJ;rw [lg _ h1,lg _ h2,Bool.and_true,Bool.or_true]
theorem wX {y:Int} (h0:y ≠ 0) (h2:y.natAbs < 2 ^ 9000):i8 y=true:=by
 unfold i8;have:Nat.ble y.natAbs.log2 8999=true:=yL (by have:=(Nat.log2_lt (n:=y.natAbs) oM).mpr h2;omega);rw [this];simp [h0]
end
end R
namespace R
open PySem PySem.Spec L2
open SX (Sh gI)
noncomputable def iL (l:List Int):List AV:=l.map .int
noncomputable def nL (l:List Nat):List AV:=l.map fun q=>.int ((q:Nat):Int)
def kL (l:List Nat):List (aZ × AV):=l.map fun q=>(.inl ((q:Nat):Int),.bl true)
def cE (d:Int) (a b c g n u:Nat):List (Str × AV):=[("below",.int d),("lines",.ref a),("heads",.ref b),("sides",.ref c),("guarded",.ref g),("nailed",.ref n),("turned",.ref u)]
section
variable {d:Int}{a b c g n u:Nat}
@[simp] theorem KP:(cE d a b c g n u).lookup ("below":Str)=some (AV.int d):=rfl
@[simp] theorem KM:(cE d a b c g n u).lookup ("lines":Str)=some (AV.ref a):=rfl
@[simp] theorem KN:(cE d a b c g n u).lookup ("heads":Str)=some (AV.ref b):=rfl
@[simp] theorem KK:(cE d a b c g n u).lookup ("sides":Str)=some (AV.ref c):=rfl
@[simp] theorem HI:(cE d a b c g n u).lookup ("guarded":Str)=some (AV.ref g):=rfl
@[simp] theorem JG:(cE d a b c g n u).lookup ("nailed":Str)=some (AV.ref n):=rfl
@[simp] theorem JF:(cE d a b c g n u).lookup ("turned":Str)=some (AV.ref u):=rfl
@[simp] theorem zk:(cE d a b c g n u).lookup ("loose_columns":Str)=none:=rfl
@[simp] theorem xy:(cE d a b c g n u).lookup ("raising_column":Str)=none:=rfl
@[simp] theorem xx:(cE d a b c g n u).lookup ("tightest_place":Str)=none:=rfl
@[simp] theorem Dr:(cE d a b c g n u).lookup ("is_tighter":Str)=none:=rfl
@[simp] theorem C1:(cE d a b c g n u).lookup ("is_up_first":Str)=none:=rfl
@[simp] theorem GP:(cE d a b c g n u).lookup ("exchange":Str)=none:=rfl
@[simp] theorem Lw:(cE d a b c g n u).lookup ("lift":Str)=none:=rfl
@[simp] theorem GQ:(cE d a b c g n u).lookup ("drive_up":Str)=none:=rfl
@[simp] theorem zj:(cE d a b c g n u).lookup ("moving_column":Str)=none:=rfl
@[simp] theorem KJ:(cE d a b c g n u).lookup ("guard":Str)=none:=rfl
@[simp] theorem Lv:(cE d a b c g n u).lookup ("nail":Str)=none:=rfl
@[simp] theorem FM:(cE d a b c g n u).lookup ("turn_line":Str)=none:=rfl
end
def RowR (st:aa) (x:AV) (l:List Int):Prop:=x=.fz (iL l)\/∃ r,x=.ref r/\(st[r]?=some (.lst (iL l))\/st[r]?=some (.al (.fz (iL l))))
structure Rep (st:aa) (k a b c g n u:Nat) (rows:List AV) (S:Sh):Prop where
 hk:st[k]?=some (.ins "Sheet" (cE S.d a b c g n u))
 ha:st[a]?=some (.lst rows)
 hb:st[b]?=some (.lst (nL S.hd))
 hc:st[c]?=some (.lst (nL S.sd))
 hg:st[g]?=some (.dK (kL S.gd))
 hn:st[n]?=some (.dK (kL S.nl))
 hu:st[u]?=some (.dK (kL S.tn))
 len:rows.length=S.ls.length
 row:∀ i x,rows[i]?=some x->RowR st x (SX.row S i)
 ab:a ≠ b
 ac:a ≠ c
 bc:b ≠ c
 gn:g ≠ n
 gu:g ≠ u
 nu:n ≠ u
 ra:∀ (i r:Nat),rows[i]?=some (.ref r)->r ≠ a/\r ≠ b/\r ≠ c
section
variable {st:aa}{x:AV}{xs:List AV}{l:List Int}{i:Int}
theorem RowR.ls (h:RowR st x l):bq st x=some (iL l):=by
 rcases h with rfl | ⟨r,rfl,h | h⟩
 ·rfl
 ·unfold bq dr;simp only [h]
 ·unfold bq dr;simp only [h]
theorem cT (h:bq st x=some xs):cU st x (.int i)=fM xs i:=by
 have hd:i5 st x (.int i)=none:=by
  unfold i5;have h1:gU st x=none:=by
   cases x <;> first | rfl | skip
   rename_i k;unfold bq dr at h;unfold gU;dsimp only at h ⊢;cases e:st[k]? with
   | none=>rfl
   | some c=>cases c <;> first | rfl | (rw [e] at h;simp only [e] at h;cases h)
  have h2:kn st x=none:=by
   cases x <;> first | rfl | skip
   rename_i k;unfold bq dr at h;unfold kn;dsimp only at h ⊢;cases e:st[k]? with
   | none=>rfl
   | some c=>cases c <;> first | rfl | (rw [e] at h;simp only [e] at h;cases h)
  rw [h1,h2]
 unfold cU;rw [hd];dsimp only;rw [h]
theorem cG {α:Type}{xs:List α}{j:Nat}:fM xs ((j:Nat):Int)=xs[j]?:=by
 unfold fM mf;rw [yI oM];by_cases h:j < xs.length
 ·rw [yI oM];simp
 ·rw [yH oM,List.getElem?_eq_none oM];rfl
theorem o4 {α:Type}{xs:List α}{n:Nat} (h:xs.length=n + 1):fM xs (-1)=xs[n]?:=by
 unfold fM mf;rw [yH oM,yI oM,h,bind_some];congr 1;omega
theorem b9 {j:Nat} (h:j < l.length):(iL l)[j]?=some (.int (gI l j)):=by
 unfold iL gI;simp [h,zD]
theorem fW {l:List Nat}{j:Nat} (h:j < l.length):(nL l)[j]?=some (.int ((l.getD j 0:Nat):Int)):=by
 unfold nL;simp [h,zD]
theorem bz {k:Nat} (h:st[k]?=some (.lst xs)):bq st (.ref k)=some xs:=by unfold bq dr;simp only [h]
theorem tB {g:Nat}{l:List Nat}{q:Nat} (h:st[g]?=some (.dK (kL l))):jZ st (.int q) (.ref g)=some (decide (q ∈ l)):=by
 unfold jZ i5 gU;simp only [h,jJ,map_some];congr 1;unfold mF kL;rw [Option.isSome_map,List.find?_map,Option.isSome_map,Bool.eq_iff_iff,List.isSome_find?,List.any_eq_true];simp [Int.ofNat_inj]
end
noncomputable def kK (rows:List AV) (i:Nat):AV:=rows.getD i .non
section
variable {st:aa}{k a b c g n u w m:Nat}{rows:List AV}{S:Sh}{i j:Nat}
theorem Rep.ins (R:Rep st k a b c g n u rows S):iX st "Sheet" (.ref k)=some (cE S.d a b c g n u):=by
 unfold iX;simp only [R.hk];rfl
theorem Rep.rx (R:Rep st k a b c g n u rows S) (P:SX.Nz w m S) (hi:i < m):rows[i]?=some (kK rows i):=by
 have:i < rows.length:=by rw [R.len,P.ls];exact hi
 unfold kK;rw [zD,zF this];rfl
theorem Rep.line (R:Rep st k a b c g n u rows S) (P:SX.Nz w m S) (hi:i < m):cU st (.ref a) (.int (i:Int))=some (kK rows i):=by
 rw [cT (bz R.ha),cG];exact R.rx P hi
theorem Rep.rowl (R:Rep st k a b c g n u rows S) (P:SX.Nz w m S) (hi:i < m):bq st (kK rows i)=some (iL (SX.row S i)):=(R.row i _ (R.rx P hi)).ls
theorem Rep.cell (R:Rep st k a b c g n u rows S) (P:SX.Nz w m S) (hi:i < m) (hj:j < w + 1):cU st (kK rows i) (.int (j:Int))=some (.int (S.t i j)):=by
 rw [cT (R.rowl P hi),cG,b9 (by rw [P.rl hi];exact hj)];rfl
theorem Rep.last (R:Rep st k a b c g n u rows S) (P:SX.Nz w m S) (hi:i < m):cU st (kK rows i) (.int (-1))=some (.int (S.t i w)):=by
 rw [cT (R.rowl P hi),o4 (n:=w) (by unfold iL;rw [zH];exact P.rl hi),b9 (by rw [P.rl hi];omega)];rfl
theorem Rep.side (R:Rep st k a b c g n u rows S) (P:SX.Nz w m S) (hi:i < m):cU st (.ref c) (.int (i:Int))=some (.int (S.s i:Int)):=by
 rw [cT (bz R.hc),cG,fW (by rw [P.sd];exact hi)];rfl
theorem Rep.head (R:Rep st k a b c g n u rows S) (P:SX.Nz w m S) (hj:j < w):cU st (.ref b) (.int (j:Int))=some (.int (S.h j:Int)):=by
 rw [cT (bz R.hb),cG,fW (by rw [P.hd];exact hj)];rfl
theorem Rep.ing (R:Rep st k a b c g n u rows S) {q:Nat}:cm .In st (.int q) (.ref g)=some (decide (q ∈ S.gd)):=tB R.hg
theorem Rep.nin (R:Rep st k a b c g n u rows S) {q:Nat}:cm .NotIn st (.int q) (.ref n)=some (!decide (q ∈ S.nl)):=by show (jZ st _ _).map _=_;rw [tB R.hn];rfl
end
theorem d6 {α:Type}{em:α->AV}{B:α->Bool}{F:α->AV} (hg:bN gd st=true):∀ {xs:List α},(∀ x ∈ xs,∃ sl1,g (em x) sl st=some (sl1,st)/\t sl1 st=some (B x,st)/\(B x=true->f sl1 st=some (F x,st)))->gJ gd g t f sl (xs.map em) st=some ((xs.filter B).map F,st)
 | [],_=>by show (if bN gd st=true then _ else _)=_;rw [yI hg];rfl
 | x::xs,h=>by
  obtain ⟨sl1,h1,h2,h3⟩:=h x z7;have ih:=d6 hg (xs:=xs) fun y hy=>h y (zQ _ hy)
  show (if bN gd st=true then (g (em x) sl st).bind _ else none)=_;rw [yI hg,h1,bind_some];dsimp only;rw [h2,bind_some];cases hB:B x with
  | true=>rw [yI rfl];dsimp only;rw [h3 hB,bind_some];dsimp only;rw [ih,List.filter_cons,hB];rfl
  | false=>rw [yH (by simp)];dsimp only;rw [ih,List.filter_cons,hB];rfl
theorem fU:∀ {xs:List AV},(∀ x ∈ xs,rf x=true)->rfs xs=true
 | [],_=>rfl
 | x::xs,h=>by simp only [rfs,zC];exact ⟨h x z7,fU fun y hy=>h y (zQ _ hy)⟩
theorem xR:rfs (iL l)=true:=fU fun x hx=>by obtain ⟨i,_,rfl⟩:=yD.mp hx;rfl
theorem jE:rfs (nL l)=true:=fU fun x hx=>by obtain ⟨i,_,rfl⟩:=yD.mp hx;rfl
mutual
theorem xf:∀ (x:AV),cC x x=true
 | .non=>rfl
 | .bl _=>by simp [cC]
 | .int _=>by simp [cC]
 | .str _=>by simp [cC]
 | .ref _=>by simp [cC]
 | .tup a=>by simp only [cC];exact iR a
 | .fz a=>by simp only [cC];exact iR a
theorem iR:∀ (xs:List AV),fH xs xs=true
 | []=>rfl
 | x::xs=>by simp only [fH,xf x,iR xs,Bool.and_self]
end
theorem fZ {k:Nat} (h:st[k]?=some (.lst xs)):bN [(k,.lst xs)] st=true:=by
 simp only [bN,h,vi,iR,Bool.and_self]
theorem Iw:eA 0 (nL l)=l.zipIdx.map fun z=>.tup [.int ((z.2:Nat):Int),.int ((z.1:Nat):Int)]:=by
 unfold eA nL;rw [List.zipIdx_map,List.map_map];rfl
@[simp] theorem LA:iB st (.tup xs)=some xs:=rfl
@[simp] theorem LN:nR st (.fz xs)=some ⟨xs,[]⟩:=rfl
@[simp] theorem F0:ib st (.fz xs)=some ⟨xs,[]⟩:=rfl
@[simp] theorem iD:bq st (.fz xs)=some xs:=rfl
theorem jn {k:Nat} (h:st[k]?=some (.lst xs)):ib st (.ref k)=some ⟨xs,[(k,.lst xs)]⟩:=by
 unfold ib dr;simp only [h]
theorem oU {k:Nat} (h:st[k]?=some (.lst xs)):nR st (.ref k)=some ⟨xs,[(k,.lst xs)]⟩:=by
 have:iB st (.ref k)=none:=by unfold iB dr;simp only [h]
 unfold nR;dsimp only;rw [this];exact jn h
@[simp] theorem dL:bN [] st=true:=rfl
theorem tz:nV (nL l)=some (l.map fun q=>((q:Nat):Int)):=by
 unfold nV nL;exact cR (f:=fun x=>match x with | .int i=>some i | _=>none) (i:=fun q:Nat=>AV.int q) (g:=fun q=>((q:Nat):Int)) (fun _=>rfl) l
noncomputable def oN:Option Nat->AV
 | none=>.non
 | some c=>.int (c:Int)
noncomputable def bM (S:Sh):List Nat:=(S.hd.zipIdx.filter fun z=>!decide (z.1 ∈ S.nl)).map (·.2)
theorem gj {w m:Nat} (P:SX.Nz w m S) {j:Nat}:j ∈ bM S ↔ j < w/\S.h j ∉ S.nl:=by
 unfold bM;simp only [yD,List.mem_filter,Prod.exists];constructor
 ·rintro ⟨q,i,⟨h1,h2⟩,rfl⟩
  have h3:=List.mem_zipIdx' h1;have hi:i < S.hd.length:=h3.1;refine ⟨by rw [<- P.hd];exact hi,?_⟩;have:S.h i=q:=by
   show S.hd.getD i 0=q;rw [zD,zF hi,h3.2];rfl
  rw [this];simpa using h2
 ·rintro ⟨h1,h2⟩
  have hi:j < S.hd.length:=by rw [P.hd];exact h1
  refine ⟨S.h j,j,⟨?_,by simpa using h2⟩,rfl⟩;have e:S.h j=S.hd[j]:=by
   show S.hd.getD j 0=_;rw [zD,zF hi];rfl
  rw [e,List.mem_zipIdx_iff_getElem?];exact zF hi
theorem bv {n:Nat} (h:n <= 1000):cM n=true:=yL oM
theorem FH {l:List Nat}{key:EF}{sl:Sl}{st:aa}{f:Nat->Nat} (h:∀ q ∈ l,key (sl++[some (.int ((q:Nat):Int))]) st=some (.int ((f q:Nat):Int),st)):aG (wE key sl st) (l.map fun q=>((q:Nat):Int))=some (l.map fun q=>((f q:Nat):Int)):=by
 induction l with
 | nil=>rfl
 | cons x l ih =>
  have h1:wE key sl st (x:Int)=some ((f x:Nat):Int):=by unfold wE;rw [h x z7]
  simp only [zO,aG,h1,ih fun q hq=>h q (zQ _ hq),bind_some,map_some]
def fk (gd:Gd) (g:GF) (s:SF) (xs:List AV):Out->Option Out
 | .nx sl st=>c5 gd g s xs sl st
 | .ct sl st=>c5 gd g s xs sl st
 | .bk sl st=>some (.nx sl st)
 | .rt v st=>some (.rt v st)
theorem wU (hg:bN gd st=true) (h1:g x sl st=some p) (h2:s p.1 p.2=some o):c5 gd g s (x::xs) sl st=fk gd g s xs o:=by
 show (if bN gd st=true then (g x sl st).bind _ else none)=_;rw [yI hg,h1,bind_some,h2,bind_some];cases o <;> rfl
theorem oX {gd:Gd}{g:GF}{s:SF}{I:Nat->Sl->aa->Prop}{Post:AV->aa->Prop}{xs:List AV} (hg:∀ i sl st,i <= xs.length->I i sl st->bN gd st=true)
  (h:∀ i x sl st,xs[i]?=some x->I i sl st->∃ p o,g x sl st=some p/\s p.1 p.2=some o/\((∃ sl2 st2,o=.nx sl2 st2/\I (i + 1) sl2 st2)\/∃ v st2,o=.rt v st2/\Post v st2)) :
  ∀ {sl:Sl}{st:aa},I 0 sl st->(∃ sl' st',c5 gd g s xs sl st=some (.nx sl' st')/\I xs.length sl' st')\/∃ v st',c5 gd g s xs sl st=some (.rt v st')/\Post v st':=by
 have go:∀ (r:Nat) (j:Nat) {sl:Sl}{st:aa},j + r=xs.length->I j sl st->(∃ sl' st',c5 gd g s (xs.drop j) sl st=some (.nx sl' st')/\I xs.length sl' st')\/∃ v st',c5 gd g s (xs.drop j) sl st=some (.rt v st')/\Post v st':=fun r=>by
  induction r with
  | zero =>
   intro j sl st hj hI;left;rw [List.drop_of_length_le oM];refine ⟨sl,st,?_,by rw [show xs.length=j by omega];exact hI⟩;show (if bN gd st=true then _ else _)=_;rw [yI (hg j sl st oM hI)]
  | succ r ih =>
   intro j sl st hj hI;have hl:j < xs.length:=by omega
   obtain ⟨p,o,h1,h2,h3⟩:=h j xs[j] sl st (zF hl) hI;rw [List.drop_eq_getElem_cons hl];have e:=wU (xs:=xs.drop (j + 1)) (hg j sl st oM hI) h1 h2;rw [e];rcases h3 with ⟨sl2,st2,rfl,h3⟩ | ⟨v,st2,rfl,h3⟩
   ·exact ih (j + 1) oM h3
   ·exact .inr ⟨v,st2,rfl,h3⟩
 intro sl st h0
 have:=go xs.length 0 oM h0
 rw [List.drop_zero] at this;exact this
theorem dM {gd:Gd}{g:GF}{s:SF}{I:Nat->Sl->aa->Prop}{xs:List AV} (hg:∀ i sl st,i <= xs.length->I i sl st->bN gd st=true)
  (h:∀ i x sl st,xs[i]?=some x->I i sl st->∃ p sl2 st2,g x sl st=some p/\s p.1 p.2=some (.nx sl2 st2)/\I (i + 1) sl2 st2) {sl:Sl}{st:aa} (h0:I 0 sl st):∃ sl' st',c5 gd g s xs sl st=some (.nx sl' st')/\I xs.length sl' st':=by
 rcases oX (Post:=fun _ _=>False) hg (fun i x sl st hx hI=>by
  obtain ⟨p,sl2,st2,a,b,c⟩:=h i x sl st hx hI;exact ⟨p,_,a,b,.inl ⟨sl2,st2,rfl,c⟩⟩) h0 with h | ⟨_,_,_,h⟩
 ·exact h
 ·exact h.elim
theorem oh {i:Nat} (h:(eA 0 xs)[i]?=some y):∃ x,xs[i]?=some x/\y=.tup [.int ((i:Nat):Int),x]:=by
 unfold eA at h;rw [zR] at h;obtain ⟨z,h1,rfl⟩:=zE.mp h;rw [List.getElem?_zipIdx] at h1;obtain ⟨x,h2,rfl⟩:=zE.mp h1;exact ⟨x,h2,by simp⟩
theorem lU:(eA 0 xs).length=xs.length:=by unfold eA;simp
section
variable {st:aa}{k a b c g n u w m:Nat}{rows:List AV}{S:Sh}{i j q:Nat}{x:AV}{l:List Int}{e e':Nq}
theorem aq (h:q ≠ j):(st.set q e')[j]?=st[j]?:=by rw [yU];simp [h]
theorem fF (h:st[q]?=some e):(st.set q e')[q]?=some e':=by
 rw [yU];simp [(zB.mp h).1]
theorem ga (h:st[j]?=some e):(st++ys)[j]?=some e:=by
 rw [zN (zB.mp h).1];exact h
theorem gl:(st++[e])[st.length]?=some e:=by simp
theorem bo (h1:st[i]?=some e) (h2:st[j]?=some e') (h:e ≠ e'):i ≠ j:=fun z=>h (by rw [z,h2] at h1;injection h1 with h1;exact h1.symm)
theorem RowR.set (h:RowR st x l) (hq:∀ r,x=.ref r->q ≠ r):RowR (st.set q e') x l:=by
 rcases h with h | ⟨r,h1,h2⟩
 ·exact .inl h
 ·exact .inr ⟨r,h1,by rw [aq (hq r h1)];exact h2⟩
theorem RowR.app (h:RowR st x l):RowR (st++ys) x l:=by
 rcases h with h | ⟨r,h1,h2 | h2⟩
 ·exact .inl h
 ·exact .inr ⟨r,h1,.inl (ga h2)⟩
 ·exact .inr ⟨r,h1,.inr (ga h2)⟩
theorem Rep.app (R:Rep st k a b c g n u rows S):Rep (st++ys) k a b c g n u rows S :=
 ⟨ga R.hk,ga R.ha,ga R.hb,ga R.hc,ga R.hg,ga R.hn,ga R.hu,R.len,fun i x h=>(R.row i x h).app,R.ab,R.ac,R.bc,R.gn,R.gu,R.nu,R.ra⟩
theorem Rep.rowk (R:Rep st k a b c g n u rows S) {r:Nat} (h:rows[i]?=some (.ref r)):r ≠ k/\r ≠ g/\r ≠ n/\r ≠ u:=by
 have hr:=R.row i _ h;rcases hr with h | ⟨r',h1,h2⟩
 ·cases h
 ·cases h1
  rcases h2 with h2 | h2
  ·exact ⟨bo h2 R.hk (fun z=>nomatch z),bo h2 R.hg (fun z=>nomatch z),bo h2 R.hn (fun z=>nomatch z),bo h2 R.hu (fun z=>nomatch z)⟩
  ·exact ⟨bo h2 R.hk (fun z=>nomatch z),bo h2 R.hg (fun z=>nomatch z),bo h2 R.hn (fun z=>nomatch z),bo h2 R.hu (fun z=>nomatch z)⟩
theorem Rep.fields {a':Nat} (R:Rep st k a b c g n u rows S) (ha:st[a']?=some (.lst rows')) (hb:S'.hd=S.hd) (hc:S'.sd=S.sd) (hg:S'.gd=S.gd) (hn:S'.nl=S.nl) (hu:S'.tn=S.tn) (len:rows'.length=S'.ls.length)
  (row:∀ i x,rows'[i]?=some x->RowR st x (SX.row S' i)) (ab:a' ≠ b) (ac:a' ≠ c) (ra:∀ (i r:Nat),rows'[i]?=some (.ref r)->r ≠ a'/\r ≠ b/\r ≠ c):Rep (st.set k (.ins "Sheet" (cE S'.d a' b c g n u))) k a' b c g n u rows' S':=by
 have na:k ≠ a':=bo R.hk ha (fun z=>nomatch z);refine ⟨fF R.hk,by rw [aq na];exact ha,?_,?_,?_,?_,?_,len,fun i x h=>(row i x h).set fun r e=>?_,ab,ac,R.bc,R.gn,R.gu,R.nu,ra⟩
 ·rw [aq (bo R.hk R.hb (fun z=>nomatch z)),hb];exact R.hb
 ·rw [aq (bo R.hk R.hc (fun z=>nomatch z)),hc];exact R.hc
 ·rw [aq (bo R.hk R.hg (fun z=>nomatch z)),hg];exact R.hg
 ·rw [aq (bo R.hk R.hn (fun z=>nomatch z)),hn];exact R.hn
 ·rw [aq (bo R.hk R.hu (fun z=>nomatch z)),hu];exact R.hu
 ·subst e
  rcases row i _ h with z | ⟨r',h1,h2⟩
  ·cases z
  ·cases h1
   rcases h2 with h2 | h2
   ·exact bo R.hk h2 (fun z=>nomatch z)
   ·exact bo R.hk h2 (fun z=>nomatch z)
theorem Rep.heads (R:Rep st k a b c g n u rows S):Rep (st.set b (.lst (nL hd'))) k a b c g n u rows { S with hd:=hd' } :=
 ⟨by rw [aq (bo R.hb R.hk (fun z=>nomatch z))];exact R.hk,by rw [aq (Ne.symm R.ab)];exact R.ha,fF R.hb,by rw [aq R.bc];exact R.hc,by rw [aq (bo R.hb R.hg (fun z=>nomatch z))];exact R.hg,by rw [aq (bo R.hb R.hn (fun z=>nomatch z))];exact R.hn,
  by rw [aq (bo R.hb R.hu (fun z=>nomatch z))];exact R.hu,R.len,fun i x h=>(R.row i x h).set fun r e=>Ne.symm (R.ra i r (by rw [<- e];exact h)).2.1,R.ab,R.ac,R.bc,R.gn,R.gu,R.nu,R.ra⟩
theorem Rep.sides (R:Rep st k a b c g n u rows S):Rep (st.set c (.lst (nL sd'))) k a b c g n u rows { S with sd:=sd' } :=
 ⟨by rw [aq (bo R.hc R.hk (fun z=>nomatch z))];exact R.hk,by rw [aq (Ne.symm R.ac)];exact R.ha,by rw [aq (Ne.symm R.bc)];exact R.hb,fF R.hc,by rw [aq (bo R.hc R.hg (fun z=>nomatch z))];exact R.hg,by rw [aq (bo R.hc R.hn (fun z=>nomatch z))];exact R.hn,
  by rw [aq (bo R.hc R.hu (fun z=>nomatch z))];exact R.hu,R.len,fun i x h=>(R.row i x h).set fun r e=>Ne.symm (R.ra i r (by rw [<- e];exact h)).2.2,R.ab,R.ac,R.bc,R.gn,R.gu,R.nu,R.ra⟩
theorem Rep.guard (R:Rep st k a b c g n u rows S):Rep (st.set g (.dK (kL gd'))) k a b c g n u rows { S with gd:=gd' } :=
 ⟨by rw [aq (bo R.hg R.hk (fun z=>nomatch z))];exact R.hk,by rw [aq (bo R.hg R.ha (fun z=>nomatch z))];exact R.ha,by rw [aq (bo R.hg R.hb (fun z=>nomatch z))];exact R.hb,by rw [aq (bo R.hg R.hc (fun z=>nomatch z))];exact R.hc,fF R.hg,by rw [aq R.gn];exact R.hn,by rw [aq R.gu];exact R.hu,
  R.len,fun i x h=>(R.row i x h).set fun r e=>Ne.symm (R.rowk (i:=i) (by rw [<- e];exact h)).2.1,R.ab,R.ac,R.bc,R.gn,R.gu,R.nu,R.ra⟩
theorem Rep.nail (R:Rep st k a b c g n u rows S):Rep (st.set n (.dK (kL nl'))) k a b c g n u rows { S with nl:=nl' } :=
 ⟨by rw [aq (bo R.hn R.hk (fun z=>nomatch z))];exact R.hk,by rw [aq (bo R.hn R.ha (fun z=>nomatch z))];exact R.ha,by rw [aq (bo R.hn R.hb (fun z=>nomatch z))];exact R.hb,by rw [aq (bo R.hn R.hc (fun z=>nomatch z))];exact R.hc,by rw [aq (Ne.symm R.gn)];exact R.hg,fF R.hn,by rw [aq R.nu];exact R.hu,
  R.len,fun i x h=>(R.row i x h).set fun r e=>Ne.symm (R.rowk (i:=i) (by rw [<- e];exact h)).2.2.1,R.ab,R.ac,R.bc,R.gn,R.gu,R.nu,R.ra⟩
theorem Rep.turned (R:Rep st k a b c g n u rows S):Rep (st.set u (.dK (kL tn'))) k a b c g n u rows { S with tn:=tn' } :=
 ⟨by rw [aq (bo R.hu R.hk (fun z=>nomatch z))];exact R.hk,by rw [aq (bo R.hu R.ha (fun z=>nomatch z))];exact R.ha,by rw [aq (bo R.hu R.hb (fun z=>nomatch z))];exact R.hb,by rw [aq (bo R.hu R.hc (fun z=>nomatch z))];exact R.hc,by rw [aq (Ne.symm R.gu)];exact R.hg,by rw [aq (Ne.symm R.nu)];exact R.hn,fF R.hu,
  R.len,fun i x h=>(R.row i x h).set fun r e=>Ne.symm (R.rowk (i:=i) (by rw [<- e];exact h)).2.2.2,R.ab,R.ac,R.bc,R.gn,R.gu,R.nu,R.ra⟩
theorem sH {p i:Nat}:SX.row { S with ls:=S.ls.set p l } i=if i=p/\p < S.ls.length then l else SX.row S i:=by
 unfold SX.row;simp only [zD,yU];by_cases h:i=p
 ·subst h
  by_cases h2:i < S.ls.length
  ·simp [h2]
  ·simp [h2]
 ·rw [yH fun z=>h z.symm,yH fun z=>h z.1]
theorem Rep.rowset {p:Nat} (R:Rep st k a b c g n u rows S) (hx:RowR st x l) (hr:∀ r,x=.ref r->r ≠ a/\r ≠ b/\r ≠ c):Rep (st.set a (.lst (rows.set p x))) k a b c g n u (rows.set p x) { S with ls:=S.ls.set p l }:=by
 have hs:∀ i y,(rows.set p x)[i]?=some y->(i=p/\p < rows.length/\y=x)\/(i ≠ p/\rows[i]?=some y):=fun i y h=>by
  rw [yU] at h;by_cases e:p=i
  ·rw [yI e] at h
   split at h
   ·cases h;exact .inl ⟨e.symm,by assumption,rfl⟩
   ·cases h
  ·rw [yH e] at h;exact .inr ⟨fun z=>e z.symm,h⟩
 refine ⟨by rw [aq (bo R.ha R.hk (fun z=>nomatch z))];exact R.hk,fF R.ha,by rw [aq R.ab];exact R.hb,by rw [aq R.ac];exact R.hc,by rw [aq (bo R.ha R.hg (fun z=>nomatch z))];exact R.hg,by rw [aq (bo R.ha R.hn (fun z=>nomatch z))];exact R.hn,
  by rw [aq (bo R.ha R.hu (fun z=>nomatch z))];exact R.hu,by simp [R.len],fun i y h=>?_,R.ab,R.ac,R.bc,R.gn,R.gu,R.nu,fun i r h=>?_⟩
 ·rw [sH]
  rcases hs i y h with ⟨h1,h2,rfl⟩ | ⟨h1,h2⟩
  ·rw [yI ⟨h1,by rw [<- R.len];exact h2⟩];exact hx.set fun r e=>Ne.symm (hr r e).1
  ·rw [yH fun z=>h1 z.1];exact (R.row i y h2).set fun r e=>Ne.symm (R.ra i r (by rw [<- e];exact h2)).1
 ·rcases hs i _ h with ⟨h1,h2,h3⟩ | ⟨h1,h2⟩
  ·exact hr r h3.symm
  ·exact R.ra i r h2
theorem Rep.cellset {p r:Nat} (R:Rep st k a b c g n u rows S) (hp:rows[p]?=some (.ref r)) (ho:∀ i,i ≠ p->rows[i]? ≠ some (.ref r)):Rep (st.set r (.lst (iL l))) k a b c g n u rows { S with ls:=S.ls.set p l }:=by
 obtain ⟨n1,n2,n3⟩:=R.ra p r hp;obtain ⟨n4,n5,n6,n7⟩:=R.rowk hp;have hlt:p < S.ls.length:=by rw [<- R.len];exact (zB.mp hp).1
 refine ⟨by rw [aq n4];exact R.hk,by rw [aq n1];exact R.ha,by rw [aq n2];exact R.hb,by rw [aq n3];exact R.hc,by rw [aq n5];exact R.hg,by rw [aq n6];exact R.hn,by rw [aq n7];exact R.hu,by simp [R.len],fun i y h=>?_,R.ab,R.ac,R.bc,R.gn,R.gu,R.nu,R.ra⟩;rw [sH];by_cases e:i=p
 ·subst e
  rw [yI ⟨rfl,hlt⟩];rw [hp] at h;cases h;rcases R.row i _ hp with z | ⟨r',h1,h2⟩
  ·cases z
  ·cases h1
   rcases h2 with h2 | h2
   ·exact .inr ⟨r,rfl,.inl (fF h2)⟩
   ·exact .inr ⟨r,rfl,.inl (fF h2)⟩
 ·rw [yH fun z=>e z.1]
  exact (R.row i y h).set fun r' e' z=>ho i e (by rw [z,<- e'];exact h)
theorem Rep.freeze {r:Nat} (R:Rep st k a b c g n u rows S) (hp:rows[i]?=some (.ref r)) (hr:st[r]?=some (.lst (iL l))):Rep (st.set r (.al (.fz (iL l)))) k a b c g n u rows S:=by
 obtain ⟨n1,n2,n3⟩:=R.ra i r hp;obtain ⟨n4,n5,n6,n7⟩:=R.rowk hp;refine ⟨by rw [aq n4];exact R.hk,by rw [aq n1];exact R.ha,by rw [aq n2];exact R.hb,by rw [aq n3];exact R.hc,by rw [aq n5];exact R.hg,by rw [aq n6];exact R.hn,by rw [aq n7];exact R.hu,R.len,fun j y h=>?_,R.ab,R.ac,R.bc,R.gn,R.gu,R.nu,R.ra⟩;rcases R.row j y h with z | ⟨r',h1,h2⟩
 ·exact .inl z
 ·by_cases e:r=r'
  ·subst e
   refine .inr ⟨r,h1,.inr ?_⟩;rw [fF hr];rcases h2 with h2 | h2
   ·rw [hr] at h2;injection h2 with h2;injection h2 with h2;rw [h2]
   ·rw [hr] at h2;cases h2
  ·exact .inr ⟨r',h1,by rw [aq e];exact h2⟩
theorem RowR.it (h:RowR st x l):∃ gd,nR st x=some ⟨iL l,gd⟩/\bN gd st=true:=by
 rcases h with rfl | ⟨r,rfl,h | h⟩
 ·exact ⟨[],rfl,rfl⟩
 ·exact ⟨_,oU h,fZ h⟩
 ·refine ⟨[],?_,rfl⟩
  have:iB st (.ref r)=none:=by unfold iB dr;simp only [h]
  unfold nR;dsimp only;rw [this];unfold ib dr;simp only [h]
end
theorem FP {gd:Gd}{g:GF}{t:TF}{f:EF}{sl:Sl}{J:Nat->aa->Prop}{F:Nat->AV}{xs:List AV} (hg:∀ i st,i <= xs.length->J i st->bN gd st=true)
  (h:∀ i x st,xs[i]?=some x->J i st->∃ sl1 st1,g x sl st=some (sl1,st)/\t sl1 st=some (true,st)/\f sl1 st=some (F i,st1)/\J (i + 1) st1) {st:aa} (h0:J 0 st):∃ st',gJ gd g t f sl xs st=some ((List.range xs.length).map F,st')/\J xs.length st':=by
 have go:∀ (r j:Nat) {st:aa},j + r=xs.length->J j st->∃ st',gJ gd g t f sl (xs.drop j) st=some ((List.range' j r).map F,st')/\J xs.length st':=fun r=>by
  induction r with
  | zero =>
   intro j st hj hJ;rw [List.drop_of_length_le oM];refine ⟨st,?_,by rw [show xs.length=j by omega];exact hJ⟩;show (if bN gd st=true then _ else _)=_;rw [yI (hg j st oM hJ)];rfl
  | succ r ih =>
   intro j st hj hJ;have hl:j < xs.length:=by omega
   obtain ⟨sl1,st1,h1,h2,h3,h4⟩:=h j xs[j] st (zF hl) hJ;obtain ⟨st',e,hJ'⟩:=ih (j + 1) oM h4;refine ⟨st',?_,hJ'⟩;rw [List.drop_eq_getElem_cons hl];show (if bN gd st=true then (g xs[j] sl st).bind _ else none)=_;rw [yI (hg j st oM hJ),h1,bind_some];dsimp only;rw [h2,bind_some,yI rfl];dsimp only;rw [h3,bind_some];dsimp only;rw [e];rfl
 obtain ⟨st',e,hJ⟩:=go xs.length 0 oM h0;rw [List.drop_zero] at e;rw [<- List.range_eq_range'] at e;exact ⟨st',e,hJ⟩
@[simp] theorem ic:(iL l).length=l.length:=by unfold iL;simp
@[simp] theorem jm:(nL l).length=l.length:=by unfold nL;simp
@[simp] theorem nW:rfs (iL l)=true:=xR
@[simp] theorem fB:rfs (nL l)=true:=jE
theorem fE {q:Nat}{x:Int}:(iL l).set q (.int x)=iL (l.set q x):=by unfold iL;rw [List.map_set]
theorem wp {q x:Nat}:(nL l).set q (.int (x:Int))=nL (l.set q x):=by unfold nL;rw [List.map_set]
theorem wC {α:Type}{em:α->AV}{F:α->Int}{xs:List α} (hg:bN gd st=true) (h:∀ x ∈ xs,∃ sl1,g (em x) sl st=some (sl1,st)/\t sl1 st=some (true,st)/\f sl1 st=some (.int (F x),st)):gJ gd g t f sl (xs.map em) st=some (iL (xs.map F),st):=by
 rw [d6 (B:=fun _=>true) (F:=fun x=>.int (F x)) hg fun x hx=>by obtain ⟨s,a,b,c⟩:=h x hx;exact ⟨s,a,b,fun _=>c⟩];unfold iL;rw [List.map_map,List.filter_eq_self.mpr fun _ _=>rfl];rfl
theorem jI (hg:bN gd st=true) (h:∀ x ∈ l,∃ sl1,g (.int x) sl st=some (sl1,st)/\t sl1 st=some (true,st)/\f sl1 st=some (.int (F x),st)):gJ gd g t f sl (iL l) st=some (iL (l.map F),st):=wC hg h
theorem dj {k q:Nat} (h:st[k]?=some (.lst xs)) (hq:q < xs.length):jC st (.ref k) (.int (q:Int)) x=some (st.set k (.lst (xs.set q x))):=by
 unfold jC;simp only [h];have:mf xs.length (q:Int)=some q:=by unfold mf;rw [yI oM,yI oM];simp
 rw [this];rfl
theorem oT {k q:Nat} (h:st[k]?=some (.dK (kL l))) (hl:l.length <= 1000):jC st (.ref k) (.int (q:Int)) (.bl true)=some (st.set k (.dK (kL (if q ∈ l then l else l++[q])))):=by
 unfold jC;simp only [h,jJ,bind_some];rw [yI (bv (by unfold kL;rw [zH];exact hl))];congr 2;unfold mK kL;by_cases hq:q ∈ l
 ·rw [yI hq,yI (by simp only [List.any_map,List.any_eq_true];exact ⟨q,hq,by simp⟩),List.map_map]
  congr 1;refine List.map_congr_left fun x hx=>?_
  show (if _ then _ else _)=_;split
  ·rfl
  ·rfl
 ·rw [yH hq,yH (by
   simp only [List.any_map,List.any_eq_true,Function.comp];rintro ⟨x,hx,e⟩;have:x=q:=by have:((x:Nat):Int)=((q:Nat):Int):=(by simpa using e);omega
   exact hq (this ▸ hx)),List.map_append]
  rfl
theorem ao (h:cN ks s sl st=some (.nx sl' st')) (h2:(ai ks ss sl' st').bind aH=r):(ai ks (.cons s ss) sl st).bind aH=r:=by
 rw [p8,h,bind_some,wn];exact h2
theorem ay (h:cN ks s sl st=some (.nx sl' st')) (h2:ai ks ss sl' st'=r):ai ks (.cons s ss) sl st=r:=by
 rw [p8,h,bind_some,wn];exact h2
theorem dh (h:cN ks s sl st=some (.rt v st')):(ai ks (.cons s ss) sl st).bind aH=some (v,st'):=by
 rw [p8,h,bind_some,Fj];rfl
theorem cV (h:rfs args=true) (h1:fn args []=some (v,st')) (h2:rsl st' v=some t):pm fn args st=some (t,st):=by
 unfold pm;rw [yI h,h1,bind_some];dsimp only;rw [h2];rfl
section
variable {d:Int}{a b c g n u:Nat}
theorem yg {d':Int}:iC "below" (.int d') (cE d a b c g n u)=cE d' a b c g n u:=rfl
theorem yf {a':Nat}:iC "lines" (.ref a') (cE d a b c g n u)=cE d a' b c g n u:=rfl
theorem gV {k:Nat} (h1:ev ks e sl st=some (v,st')) (h2:ev ks o sl st'=some (.ref k,st')) (h3:iX st' cn (.ref k)=some fs) (h4:Nat.ble fs.length 900=true):cN ks (.fl cn f o e) sl st=some (.nx sl (st'.set k (.ins cn (iC f v fs)))):=by
 show vO cn f (ev ks o) (ev ks e) sl st=_;unfold vO;rw [h1,bind_some];dsimp only;rw [h2,bind_some];dsimp only;rw [h3,bind_some,yI h4]
end
theorem oE (h:t sl st=some (false,st')):dA t s 1 sl st=some (.nx sl st'):=by
 show (t sl st).bind _=_;rw [h,bind_some,yH (by simp)]
theorem m6 (h:t sl st=some (true,st')) (h2:s sl st'=some (.rt v st2)):dA t s 1 sl st=some (.rt v st2):=by
 show (t sl st).bind _=_;rw [h,bind_some,yI rfl];dsimp only;rw [h2];rfl
theorem oF {n:Nat} (h:t sl st=some (true,st')) (h2:s sl st'=some (.nx sl2 st2)) (h3:dA t s n sl2 st2=some o):dA t s (n + 1) sl st=some o:=by
 show (t sl st).bind _=_;rw [h,bind_some,yI rfl];dsimp only;rw [h2];exact h3
theorem aK {ks:List Fn}{s:Sx}{ss:Nw}{sl sl':Sl}{st st':aa}{Q:AV × aa->Prop} (h:cN ks s sl st=some (.nx sl' st')) (h2:∃ r,(ai ks ss sl' st').bind aH=some r/\Q r):∃ r,(ai ks (.cons s ss) sl st).bind aH=some r/\Q r:=by
 obtain ⟨r,e,q⟩:=h2;exact ⟨r,ao h e,q⟩
def aF (L:List (List Int)):List AV:=L.map fun l=>.fz (iL l)
@[simp] theorem Ly:(aF L).length=L.length:=by unfold aF;simp
@[simp] theorem LQ:rfs (aF L)=true:=fU fun x hx=>by obtain ⟨l,_,rfl⟩:=yD.mp hx;rfl
theorem wN:iL a++iL b=iL (a++b):=by unfold iL;rw [List.map_append]
theorem F8 {x:Int}:[AV.int x]=iL [x]:=rfl
theorem uS {α:Type}{em:α->AV}{F:α->List Int}{xs:List α} (hg:bN gd st=true) (h:∀ x ∈ xs,∃ sl1,g (em x) sl st=some (sl1,st)/\t sl1 st=some (true,st)/\f sl1 st=some (.fz (iL (F x)),st)):gJ gd g t f sl (xs.map em) st=some (aF (xs.map F),st):=by
 rw [d6 (B:=fun _=>true) (F:=fun x=>.fz (iL (F x))) hg fun x hx=>by obtain ⟨s,a,b,c⟩:=h x hx;exact ⟨s,a,b,fun _=>c⟩];unfold aF;rw [List.map_map,List.filter_eq_self.mpr fun _ _=>rfl];rfl
theorem jy (h1:ev ks a sl st=some (x,s1)) (h2:ev ks b sl s1=some (y,s2)) (h3:bq s2 x=some (iL l)) (h4:bq s2 y=some (iL l')) (hl:l.length + l'.length <= 1000):gq ks (.cat a b) sl st=some (iL (l++l'),s2):=by
 rw [uB];unfold uG;rw [h1,bind_some];dsimp only;rw [h2,bind_some];dsimp only;rw [h3,bind_some,h4,bind_some,yI (bv (by simpa using hl)),wN]
theorem nq {n:Nat}:cH 0 n=nL (List.range n):=by unfold cH nL;simp
theorem G7 {w n:Nat}:cH (w:Int) n=nL ((List.range n).map (w + ·)):=by unfold cH nL;simp [List.map_map,Function.comp_def]
theorem sG {n:Nat}:aG (bJ n st) (iL l)=some (iL l):=cR (f:=bJ n st) (i:=AV.int) (g:=AV.int) (fun x=>by cases n <;> rfl) l
theorem sF {k:Nat} (h:st[k]?=some (.lst (iL l))):rsl st (.ref k)=some (.fz (iL l)):=by
 show bJ 6 st (.ref k)=_;unfold bJ;simp only [h,sG,map_some]
theorem qt {k:Nat} (h:st[k]?=some (.al t)):rsl st (.ref k)=some t:=by
 show bJ 6 st (.ref k)=_;unfold bJ;simp only [h]
theorem kP {fn:Fn}{rest:List AV}{st st':aa}{x v t:AV}{l:List Int} (hx:RowR st x l) (h0:rfs rest=true) (hm:aG (rsl st) rest=some rest) (hf:∀ s,iH s rest=some (rest,s)) (e1:fn (.fz (iL l)::rest) []=some (v,st')) (e2:rsl st' v=some t) (ht:cL t=false) :
  ∃ st1,pm fn (x::rest) st=some (t,st1)/\(st1=st\/∃ r,x=.ref r/\st[r]?=some (.lst (iL l))/\st1=st.set r (.al (.fz (iL l)))):=by
 have aH:∀ r st1,x=.ref r->rsl st (.ref r)=some (.fz (iL l))->gK st (.ref r)=some (.fz (iL l),st1)->pm fn (x::rest) st=some (t,st1):=fun r st1 ex h1 h2=>by
  subst ex;have m:aG (rsl st) (.ref r::rest)=some (.fz (iL l)::rest):=by simp only [aG,h1,hm];rfl
  have f:iH st (.ref r::rest)=some (.fz (iL l)::rest,st1):=by simp only [iH,h2,bind_some,hf];rfl
  unfold pm;rw [yH (by simp [rf]),m,bind_some,e1,bind_some];dsimp only;rw [e2,bind_some,yH (by rw [ht];simp),f,bind_some];dsimp only;rw [e1,bind_some];dsimp only;rw [e2];rfl
 rcases hx with rfl | ⟨r,rfl,h | h⟩
 ·exact ⟨st,cV (by simp [h0]) e1 e2,.inl rfl⟩
 ·exact ⟨_,aH r (st.set r (.al (.fz (iL l)))) rfl (sF h) (by unfold gK;simp [rf,h]),.inr ⟨r,rfl,h,rfl⟩⟩
 ·exact ⟨_,aH r st rfl (qt h) (by unfold gK;simp [rf,h]),.inl rfl⟩
theorem dU:(st++[x]).set st.length y=st++[y]:=by simp
end R
namespace LW
open PySem L2 R
def top (i:Nat):Stmt:=PySem.Challenge.pw_telltight_k35_whole_locks.main.body.getD i (.Pass ⟨0,0,0,0⟩)
def Iz (s:Stmt):List Stmt:=match s with
 | .ClassDef _ _ _ b _ _ _ _ _ _ _=>b
 | _=>[]
def fY (i j:Nat):Stmt:=(Iz (top i)).getD j (.Pass ⟨0,0,0,0⟩)
def jP:Nw:=(.cons (.as (.bin .Mod (.bin .Mult (.bin .Add (.bin .Add (.bin .Mod (.v 0) (.i 2147483647)) (.bin .Mult (.bin .Mult (.v 1) (.v 1)) (.i 7919))) (.i 104729)) (.i 48271)) (.i 2147483647)) (.nm 2))
 (.cons (.rt (.bin .Mod (.bin .Add (.bin .Mult (.v 2) (.v 2)) (.bin .Mult (.i 69621) (.v 1))) (.i 2147483629)))
 .nil))
def ot:FE:=⟨.f "_law_mix" 2,"_law_mix",top 67,["_law_cell","_law_turn","_law_number"],[],3,[],jP⟩
def iw:Nw:=(.cons (.as (.nw false (.cat (.nw false (.sl (.v 0) .no (.so (.i 63)))) (.nw false (.li (.cons (.v 1) .nil))))) (.nm 3))
 (.cons (.as (.nw true (.lc 1 (.e (.v 3)) (.nm 9) .no (.bin .FloorDiv (.v 9) (.i 100000)))) (.nm 4))
 (.cons (.as (.nw true (.li .nil)) (.nm 5))
 (.cons (.fo (.r1 (.bin .Add (.v 1) (.v 2))) (.nm 6)
 (.cons (.as (.bin .Mod (.v 6) (.bi .len (.cons (.v 3) .nil))) (.nm 7))
 (.cons (.as (.ca true 0 (.cons (.ix (.v 3) (.v 7)) (.cons (.v 6) .nil))) (.nm 8))
 (.cons (.as (.bin .Mod (.bin .Add (.bin .Mult (.v 8) (.v 8)) (.bin .Mult (.i 7) (.v 6))) (.i 2147483587)) (.nm 8))
 (.cons (.iff (.an (.cmp .GtE (.ix (.v 3) (.v 7)) (.bin .Pow (.i 10) (.i 18))) (.cmp .Gt (.ix (.v 4) (.v 7)) (.i 0)))
 (.cons (.as (.bin .Mod (.ix (.v 4) (.v 7)) (.i 2147483587)) (.nm 8))
 (.cons (.as (.bin .FloorDiv (.ix (.v 4) (.v 7)) (.i 2147483587)) (.su (.v 4) (.v 7)))
 .nil))
 .nil)
 (.cons (.ex (.mt .app (.v 5) (.cons (.v 8) .nil)))
 .nil))))))
 (.cons (.rt (.nw true (.sl (.v 5) (.so (.v 1)) .no)))
 .nil)))))
def lr:FE:=⟨.f "_law_draws" 3,"_law_draws",top 68,["_law_script","_law_turn","_law_many","_law_cells","_law_lefts","_law_found","_law_k","_law_at","_law_number"],[0],6,[],iw⟩
def jO:Nw:=(.cons (.iff (.cmp .Eq (.v 0) (.nw false (.li .nil)))
 (.cons (.rt (.i 0))
 .nil)
 .nil)
 (.cons (.rt (.mt .pop (.v 0) .nil))
 .nil))
def oo:FE:=⟨.f "_law_pop" 1,"_law_pop",top 69,["_law_draws_here"],[],3,[],jO⟩
def d9:Nw:=(.cons (.as (.nw true (.li .nil)) (.nm 2))
 (.cons (.fo (.r1 (.ix (.nw false (.li (.cons (.i 1) (.cons (.i 2) (.cons (.i 3) (.cons (.i 4) (.cons (.i 10) (.cons (.i 0) .nil)))))))) (.bin .Mod (.ca false 0 (.cons (.v 1) .nil)) (.i 6)))) (.nm 3)
 (.cons (.as (.ca false 0 (.cons (.v 1) .nil)) (.nm 4))
 (.cons (.as (.bin .Mult (.i 2) (.bin .Add (.i 1) (.bin .Mod (.v 4) (.bin .Sub (.bin .LShift (.i 1) (.bin .Sub (.v 0) (.i 1))) (.i 1))))) (.nm 5))
 (.cons (.iff (.cmp .Eq (.bin .Mod (.bin .FloorDiv (.v 4) (.i 8)) (.i 12)) (.i 0))
 (.cons (.as (.i 0) (.nm 5))
 .nil)
 .nil)
 (.cons (.ex (.mt .app (.v 2) (.cons (.v 5) .nil)))
 .nil)))))
 (.cons (.rt (.v 2))
 .nil)))
def jx:FE:=⟨.f "_law_openers" 2,"_law_openers",top 71,["_law_n","_law_draws_here","_law_found","_law_k","_law_number","_law_group"],[2],6,[],d9⟩
def iu:Nw:=(.cons (.rt (.cmp .NotEq (.nw false (.lc 1 (.e (.v 0)) (.nm 2) (.so (.cmp .Eq (.bin .BitOr (.v 2) (.v 1)) (.v 1))) (.v 2))) (.nw false (.li .nil))))
 .nil)
def lq:FE:=⟨.f "_law_opens" 2,"_law_opens",top 72,["_law_openers_here","_law_group"],[],3,[],iu⟩
def eQ:Nw:=(.cons (.as (.nw true (.li .nil)) (.nm 2))
 (.cons (.fo (.r2 (.i 1) (.v 0)) (.nm 3)
 (.cons (.fo (.r3 (.i 0) (.bin .LShift (.i 1) (.v 0)) (.i 2)) (.nm 4)
 (.cons (.as (.bin .LShift (.i 1) (.v 3)) (.nm 5))
 (.cons (.iff (.an (.cmp .NotIn (.v 3) (.v 2)) (.va (.ca true 0 (.cons (.v 1) (.cons (.bin .BitOr (.v 4) (.v 5)) .nil)))))
 (.cons (.iff (.no (.va (.ca true 0 (.cons (.v 1) (.cons (.bin .Sub (.v 4) (.bin .BitAnd (.v 4) (.v 5))) .nil)))))
 (.cons (.ex (.mt .app (.v 2) (.cons (.v 3) .nil)))
 .nil)
 .nil)
 .nil)
 .nil)
 .nil)))
 .nil))
 (.cons (.rt (.v 2))
 .nil)))
def ki:FE:=⟨.f "_law_matter" 2,"_law_matter",top 73,["_law_n","_law_openers_here","_law_found","_law_name","_law_group","_law_key"],[4],6,[],eQ⟩
def kE:Nw:=(.cons (.as (.nw true (.lc 1 (.r1 (.bin .Sub (.bin .LShift (.i 1) (.v 0)) (.i 1))) (.nm 5) .no (.i 0))) (.nm 2))
 (.cons (.fo (.e (.v 1)) (.tu 2 (.cons (.nm 3) (.cons (.nm 4) .nil)))
 (.cons (.iff (.cmp .Gt (.v 3) (.i 0))
 (.cons (.as (.bin .Add (.ix (.v 2) (.bin .Sub (.v 3) (.i 1))) (.v 4)) (.su (.v 2) (.bin .Sub (.v 3) (.i 1))))
 .nil)
 .nil)
 .nil))
 (.cons (.rt (.v 2))
 .nil)))
def kh:FE:=⟨.f "_law_row_of" 2,"_law_row_of",top 70,["_law_n","_law_terms","_law_row","_law_group","_law_number"],[],3,[],kE⟩
def de:Nw:=(.cons (.as (.nw true (.li (.cons (.tu (.cons (.ca true 0 (.cons (.v 0) (.cons (.nw false (.li (.cons (.tu (.cons (.i 1) (.cons (.i 1) .nil))) .nil))) .nil))) (.cons (.s "=") (.cons (.i 1) .nil)))) .nil))) (.nm 2))
 (.cons (.fo (.r3 (.i 0) (.bin .LShift (.i 1) (.v 0)) (.i 2)) (.nm 3)
 (.cons (.as (.ca true 0 (.cons (.v 0) (.cons (.nw false (.li (.cons (.tu (.cons (.bin .BitOr (.i 1) (.v 3)) (.cons (.i 1) .nil))) (.cons (.tu (.cons (.v 3) (.cons (.un .USub (.i 1)) .nil))) .nil)))) .nil))) (.nm 4))
 (.cons (.iff (.no (.va (.ca true 1 (.cons (.v 1) (.cons (.v 3) .nil)))))
 (.cons (.as (.ca true 0 (.cons (.v 0) (.cons (.nw false (.li (.cons (.tu (.cons (.i 1) (.cons (.i 1) .nil))) (.cons (.tu (.cons (.v 3) (.cons (.i 1) .nil))) (.cons (.tu (.cons (.bin .BitOr (.i 1) (.v 3)) (.cons (.un .USub (.i 1)) .nil))) .nil))))) .nil))) (.nm 4))
 .nil)
 .nil)
 (.cons (.iff (.or (.cmp .Gt (.v 3) (.i 0)) (.va (.ca true 1 (.cons (.v 1) (.cons (.v 3) .nil)))))
 (.cons (.ex (.mt .app (.v 2) (.cons (.tu (.cons (.v 4) (.cons (.s "=") (.cons (.i 0) .nil)))) .nil)))
 .nil)
 .nil)
 .nil))))
 (.cons (.rt (.v 2))
 .nil)))
def gR:FE:=⟨.f "_law_givens_due" 2,"_law_givens_due",top 74,["_law_n","_law_openers_here","_law_found","_law_group","_law_row"],[6,4],6,[],de⟩
def mB:Nw:=(.cons (.rt (.bin .Sub (.bin .LShift (.i 1) (.v 0)) (.i 1)))
 .nil)
def ms:FE:=⟨.f "all_names" 1,"all_names",top 6,["n"],[],3,[],mB⟩
def lB:Nw:=(.cons (.rt (.nw false (.lr3 (.i 0) (.ca true 0 (.cons (.v 0) .nil)) (.i 2))))
 .nil)
def lm:FE:=⟨.f "key_groups" 1,"key_groups",top 60,["n"],[8],6,[],lB⟩
def o0:Nw:=(.cons (.rt (.bi .any (.cons (.nw false (.lc 1 (.e (.v 0)) (.nm 2) .no (.cmp .Eq (.bin .BitAnd (.v 2) (.un .Invert (.v 1))) (.i 0)))) .nil)))
 .nil)
def tQ:FE:=⟨.f "opens" 2,"opens",top 61,["openers","group"],[],3,[],o0⟩
def lA:Nw:=(.cons (.rt (.bi .any (.cons (.nw false (.lc 1 (.e (.ca true 0 (.cons (.v 0) .nil))) (.nm 3) .no (.an (.ca true 1 (.cons (.v 1) (.cons (.bin .BitOr (.v 3) (.v 2)) .nil))) (.no (.ca true 1 (.cons (.v 1) (.cons (.bin .BitAnd (.v 3) (.un .Invert (.v 2))) .nil))))))) .nil)))
 .nil)
def pB:FE:=⟨.f "matters" 3,"matters",top 62,["n","openers","key"],[9,10],9,[],lA⟩
def i9:Nw:=(.cons (.rt (.nw true (.lc 1 (.r2 (.i 1) (.v 0)) (.nm 2) (.so (.va (.ca true 0 (.cons (.v 0) (.cons (.v 1) (.cons (.bin .LShift (.i 1) (.v 2)) .nil)))))) (.v 2))))
 .nil)
def mn:FE:=⟨.f "mattering" 2,"mattering",top 63,["n","openers"],[11],12,[],i9⟩
def d7:Nw:=(.cons (.as (.nw true (.rep (.cons (.i 0) .nil) (.ca true 0 (.cons (.v 0) .nil)))) (.nm 2))
 (.cons (.fo (.e (.v 1)) (.tu 2 (.cons (.nm 3) (.cons (.nm 4) .nil)))
 (.cons (.iff (.cmp .NotEq (.v 3) (.i 0))
 (.cons (.aus .Add (.v 2) (.bin .Sub (.v 3) (.i 1)) (.v 4))
 .nil)
 .nil)
 .nil))
 (.cons (.rt (.v 2))
 .nil)))
def jr:FE:=⟨.f "row_of_terms" 2,"row_of_terms",top 11,["n","terms","row","group","number"],[8],6,[],d7⟩
def kC:Nw:=(.cons (.iff (.or (.cmp .Lt (.v 0) (.i 1)) (.cmp .Gt (.v 0) (.g "MOST_NAMES" (.int 4))))
 (.cons .dead
 .nil)
 .nil)
 .nil)
def kb:FE:=⟨.f "check_count" 1,"check_count",top 7,["n"],[],3,[],kC⟩
def kA:Nw:=(.cons (.iff (.or (.cmp .Lt (.v 1) (.i 1)) (.cmp .Gt (.v 1) (.ca true 0 (.cons (.v 0) .nil))))
 (.cons .dead
 .nil)
 .nil)
 .nil)
def ka:FE:=⟨.f "check_group" 2,"check_group",top 8,["n","group"],[8],6,[],kA⟩
def kz:Nw:=(.cons (.iff (.cmp .NotEq (.v 1) (.i 0))
 (.cons (.ex (.ca true 0 (.cons (.v 0) (.cons (.v 1) .nil))))
 .nil)
 .nil)
 .nil)
def j9:FE:=⟨.f "check_known" 2,"check_known",top 9,["n","group"],[15],9,[],kz⟩
def oz:Nw:=(.cons (.rt (.ca true 0 (.cons (.v 0) (.cons (.nw false (.li (.cons (.tu (.cons (.bin .BitOr (.v 1) (.v 2)) (.cons (.i 1) .nil))) (.cons (.tu (.cons (.v 2) (.cons (.un .USub (.i 1)) .nil))) .nil)))) .nil))))
 .nil)
def oj:FE:=⟨.f "rest_row" 3,"rest_row",top 12,["n","a","b"],[13],9,[],oz⟩
def tX:Nw:=(.cons (.ex (.ca true 0 (.cons (.v 0) .nil)))
 (.cons (.ex (.ca true 1 (.cons (.v 0) (.cons (.v 1) .nil))))
 (.cons (.ex (.ca true 2 (.cons (.v 0) (.cons (.v 2) .nil))))
 (.cons (.rt (.tu (.cons (.ca true 3 (.cons (.v 0) (.cons (.v 2) (.cons (.v 1) .nil)))) (.cons (.s "=") (.cons (.i 0) .nil)))))
 .nil))))
def tO:FE:=⟨.f "tells" 3,"tells",top 56,["n","a","b"],[14,16,15,17],12,[],tX⟩
def jz:Nw:=(.cons (.ex (.ca true 0 (.cons (.v 0) .nil)))
 (.cons (.ex (.ca true 1 (.cons (.v 0) (.cons (.v 1) .nil))))
 (.cons (.ex (.ca true 1 (.cons (.v 0) (.cons (.v 2) .nil))))
 (.cons (.ex (.ca true 2 (.cons (.v 0) (.cons (.v 3) .nil))))
 .nil))))
def jv:FE:=⟨.f "check_shared" 4,"check_shared",top 10,["n","a","b","c"],[14,15,16],12,[],jz⟩
def lz:Nw:=(.cons (.rt (.ca true 0 (.cons (.v 0) (.cons (.nw false (.li (.cons (.tu (.cons (.bin .BitOr (.v 1) (.v 3)) (.cons (.i 1) .nil))) (.cons (.tu (.cons (.bin .BitOr (.v 2) (.v 3)) (.cons (.i 1) .nil))) (.cons (.tu (.cons (.bin .BitOr (.bin .BitOr (.v 1) (.v 2)) (.v 3)) (.cons (.un .USub (.i 1)) .nil))) (.cons (.tu (.cons (.v 3) (.cons (.un .USub (.i 1)) .nil))) .nil)))))) .nil))))
 .nil)
def lj:FE:=⟨.f "shared_row" 4,"shared_row",top 13,["n","a","b","c"],[13],9,[],lz⟩
def rW:Nw:=(.cons (.ex (.ca true 0 (.cons (.v 0) (.cons (.v 1) (.cons (.v 2) (.cons (.v 3) .nil))))))
 (.cons (.rt (.tu (.cons (.ca true 1 (.cons (.v 0) (.cons (.v 1) (.cons (.v 2) (.cons (.v 3) .nil))))) (.cons (.s "=") (.cons (.i 0) .nil)))))
 .nil))
def rp:FE:=⟨.f "silent" 4,"silent",top 57,["n","a","b","c"],[19,20],15,[],rW⟩
def eP:Nw:=(.cons (.as (.nw true (.li (.cons (.tu (.cons (.ca false 0 (.cons (.v 0) (.cons (.nw false (.li (.cons (.tu (.cons (.g "LOCK" (.int 1)) (.cons (.i 1) .nil))) .nil))) .nil))) (.cons (.s "=") (.cons (.i 1) .nil)))) .nil))) (.nm 2))
 (.cons (.fo (.e (.ca true 1 (.cons (.v 0) .nil))) (.nm 3)
 (.cons (.iff (.va (.ca true 2 (.cons (.v 1) (.cons (.v 3) .nil))))
 (.cons (.ex (.mt .app (.v 2) (.cons (.ca true 3 (.cons (.v 0) (.cons (.v 3) (.cons (.g "LOCK" (.int 1)) .nil)))) .nil)))
 .nil)
 (.cons (.iff (.cmp .NotEq (.v 3) (.i 0))
 (.cons (.ex (.mt .app (.v 2) (.cons (.ca true 4 (.cons (.v 0) (.cons (.g "LOCK" (.int 1)) (.cons (.v 3) (.cons (.i 0) .nil))))) .nil)))
 .nil)
 .nil)
 .nil))
 .nil))
 (.cons (.rt (.v 2))
 .nil)))
def j4:FE:=⟨.f "lock_givens" 2,"lock_givens",top 64,["n","openers","givens","group"],[13,9,10,18,21],18,[],eP⟩
def gz:Nw:=(.cons (.as (.bin .BitOr (.bin .LShift (.i 1) (.v 1)) (.bin .LShift (.i 1) (.v 2))) (.nm 3))
 (.cons (.rt (.nw false (.lc 1 (.r1 (.bin .Add (.ca true 0 (.cons (.v 0) .nil)) (.i 1))) (.nm 4) (.so (.cmp .Eq (.bin .BitAnd (.v 4) (.v 3)) (.i 0))) (.tu (.cons (.s "pair") (.cons (.v 1) (.cons (.v 2) (.cons (.v 4) .nil))))))))
 .nil))
def gr:FE:=⟨.f "pairs_with_known" 3,"pairs_with_known",top 16,["n","i","j","both"],[8],6,[],gz⟩
def tY:Nw:=(.cons (.as (.nw true (.lc 1 (.r1 (.v 0)) (.nm 4) .no (.tu (.cons (.s "last") (.cons (.v 4) .nil))))) (.nm 1))
 (.cons (.fo (.r1 (.v 0)) (.nm 2)
 (.cons (.fo (.r2 (.bin .Add (.v 2) (.i 1)) (.v 0)) (.nm 3)
 (.cons (.ex (.mt .ext (.v 1) (.cons (.ca true 0 (.cons (.v 0) (.cons (.v 2) (.cons (.v 3) .nil)))) .nil)))
 .nil))
 .nil))
 (.cons (.rt (.v 1))
 .nil)))
def tP:FE:=⟨.f "rules" 1,"rules",top 17,["n","found","i","j"],[23],9,[],tY⟩
def oy:Nw:=(.cons (.as (.bin .LShift (.i 1) (.ix (.v 1) (.i 1))) (.nm 2))
 (.cons (.iff (.cmp .Eq (.ix (.v 1) (.i 0)) (.s "last"))
 (.cons (.rt (.ca true 1 (.cons (.v 0) (.cons (.v 2) (.cons (.bin .Sub (.ca true 0 (.cons (.v 0) .nil)) (.v 2)) .nil)))))
 .nil)
 .nil)
 (.cons (.rt (.ca true 2 (.cons (.v 0) (.cons (.v 2) (.cons (.bin .LShift (.i 1) (.ix (.v 1) (.i 2))) (.cons (.ix (.v 1) (.i 3)) .nil))))))
 .nil)))
def oi:FE:=⟨.f "rule_row" 2,"rule_row",top 18,["n","rule","one"],[8,17,20],12,[],oy⟩
def mw:Nw:=(.cons (.rt (.nw false (.lc 1 (.e (.ca true 0 (.cons (.v 0) .nil))) (.nm 1) .no (.ca true 1 (.cons (.v 0) (.cons (.v 1) .nil))))))
 .nil)
def mi:FE:=⟨.f "rule_rows" 1,"rule_rows",top 19,["n"],[24,25],15,[],mw⟩
def fe:Nw:=(.cons (.fl "Sheet" "below" (.v 0) (.i 1))
 (.cons (.fl "Sheet" "lines" (.v 0) (.nw true (.lc 1 (.e (.v 2)) (.nm 3) .no (.nw false (.lof (.v 3))))))
 (.cons (.fl "Sheet" "heads" (.v 0) (.nw true (.lr1 (.v 1))))
 (.cons (.fl "Sheet" "sides" (.v 0) (.nw true (.lr2 (.v 1) (.bin .Add (.v 1) (.bi .len (.cons (.v 2) .nil))))))
 (.cons (.fl "Sheet" "guarded" (.v 0) .dn)
 (.cons (.fl "Sheet" "nailed" (.v 0) .dn)
 (.cons (.fl "Sheet" "turned" (.v 0) .dn)
 .nil)))))))
def iq:FE:=⟨.k "Sheet" 3,"Sheet.__init__",fY 34 0,["self","width","lines"],[],3,[],fe⟩
def gC:Nw:=(.cons (.as (.b true) (.su (.fd "Sheet" "guarded" (.v 0)) (.v 1)))
 .nil)
def km:FE:=⟨.m "Sheet" "guard" 2,"Sheet.guard",fY 34 1,["self","quantity"],[],3,[],gC⟩
def fK:Nw:=(.cons (.as (.nw true (.lc 1 (.e (.ca true 0 (.cons (.v 0) .nil))) (.nm 7) .no (.nw false (.cat (.v 7) (.nw false (.li (.cons (.i 0) .nil))))))) (.nm 3))
 (.cons (.as (.bin .Add (.ca true 1 (.cons (.v 0) .nil)) (.bi .len (.cons (.v 3) .nil))) (.nm 4))
 (.cons (.ex (.mt .ext (.v 3) (.cons (.nw false (.lc 3 (.e (.v 1)) (.tu 3 (.cons (.nm 7) (.cons (.nm 8) (.cons (.nm 9) .nil)))) .no (.nw false (.cat (.nw false (.lof (.v 7))) (.nw false (.li (.cons (.un .USub (.v 9)) .nil))))))) .nil)))
 (.cons (.ex (.mt .app (.v 3) (.cons (.nw false (.cat (.nw false (.lc 1 (.e (.v 2)) (.nm 7) .no (.un .USub (.v 7)))) (.nw false (.li (.cons (.i 0) .nil))))) .nil)))
 (.cons (.as (.ne "Sheet" 2 (.cons (.ca true 1 (.cons (.v 0) .nil)) (.cons (.v 3) .nil))) (.nm 5))
 (.cons (.fo (.r1 (.v 4)) (.nm 6)
 (.cons (.ex (.me "Sheet" "guard" 3 (.v 5) (.cons (.v 6) .nil)))
 .nil))
 (.cons (.rt (.v 5))
 .nil)))))))
def iM:FE:=⟨.f "opening_sheet" 3,"opening_sheet",top 46,["n","givens","goal","lines","guarded","sheet","quantity"],[26,8,27,28],18,[],fK⟩
def eJ:Nw:=(.cons (.as (.nw false (.lc 1 (.e (.ix (.fd "Sheet" "lines" (.v 0)) (.v 1))) (.nm 2) .no (.un .USub (.v 2)))) (.su (.fd "Sheet" "lines" (.v 0)) (.v 1)))
 (.cons (.as (.b true) (.su (.fd "Sheet" "turned" (.v 0)) (.ix (.fd "Sheet" "sides" (.v 0)) (.v 1))))
 .nil))
def gT:FE:=⟨.m "Sheet" "turn_line" 2,"Sheet.turn_line",fY 34 3,["self","place"],[],3,[],eJ⟩
def du:Nw:=(.cons (.rt (.nw false (.lc 2 (.en (.fd "Sheet" "heads" (.v 0))) (.tu 2 (.cons (.nm 1) (.cons (.nm 2) .nil))) (.so (.cmp .NotIn (.v 2) (.fd "Sheet" "nailed" (.v 0)))) (.v 1))))
 .nil)
def fj:FE:=⟨.m "Sheet" "loose_columns" 1,"Sheet.loose_columns",fY 34 5,["self"],[],3,[],du⟩
def c7:Nw:=(.cons (.as (.ix (.fd "Sheet" "lines" (.v 0)) (.v 1)) (.nm 2))
 (.cons (.as (.nw false (.lc 1 (.e (.me "Sheet" "loose_columns" 0 (.v 0) .nil)) (.nm 4) (.so (.cmp .Gt (.ix (.v 2) (.v 4)) (.i 0))) (.v 4))) (.nm 3))
 (.cons (.rt (.mnk (.v 3) (.ix (.fd "Sheet" "heads" (.v 0)) (.v 4))))
 .nil)))
def eM:FE:=⟨.m "Sheet" "raising_column" 2,"Sheet.raising_column",fY 34 6,["self","place","line","found"],[31],6,[⟨163,30,163,63⟩],c7⟩
def dZ:Nw:=(.cons (.as (.bin .Mult (.ix (.ix (.fd "Sheet" "lines" (.v 0)) (.v 1)) (.un .USub (.i 1))) (.un .USub (.ix (.ix (.fd "Sheet" "lines" (.v 0)) (.v 2)) (.v 3)))) (.nm 4))
 (.cons (.as (.bin .Mult (.ix (.ix (.fd "Sheet" "lines" (.v 0)) (.v 2)) (.un .USub (.i 1))) (.un .USub (.ix (.ix (.fd "Sheet" "lines" (.v 0)) (.v 1)) (.v 3)))) (.nm 5))
 (.cons (.rt (.or (.cmp .Lt (.v 4) (.v 5)) (.an (.cmp .Eq (.v 4) (.v 5)) (.cmp .Lt (.ix (.fd "Sheet" "sides" (.v 0)) (.v 1)) (.ix (.fd "Sheet" "sides" (.v 0)) (.v 2))))))
 .nil)))
def gx:FE:=⟨.m "Sheet" "is_tighter" 4,"Sheet.is_tighter",fY 34 8,["self","one","other","column","ahead","behind"],[],3,[],dZ⟩
def c6:Nw:=(.cons (.as .n (.nm 2))
 (.cons (.fo (.en (.fd "Sheet" "lines" (.v 0))) (.tu 2 (.cons (.nm 3) (.cons (.nm 4) .nil)))
 (.cons (.iff (.an (.cmp .Lt (.ix (.v 4) (.v 1)) (.i 0)) (.cmp .In (.ix (.fd "Sheet" "sides" (.v 0)) (.v 3)) (.fd "Sheet" "guarded" (.v 0))))
 (.cons (.iff (.or (.cmp .Is (.v 2) .n) (.va (.me "Sheet" "is_tighter" 0 (.v 0) (.cons (.v 3) (.cons (.v 2) (.cons (.v 1) .nil))))))
 (.cons (.as (.v 3) (.nm 2))
 .nil)
 .nil)
 .nil)
 .nil)
 .nil))
 (.cons (.rt (.v 2))
 .nil)))
def eL:FE:=⟨.m "Sheet" "tightest_place" 2,"Sheet.tightest_place",fY 34 9,["self","column","best","place","line"],[33],6,[],c6⟩
def dP:Nw:=(.cons (.as (.bin .Mult (.ix (.ix (.fd "Sheet" "lines" (.v 0)) (.v 1)) (.un .USub (.i 1))) (.ix (.ix (.fd "Sheet" "lines" (.v 0)) (.v 2)) (.v 3))) (.nm 4))
 (.cons (.rt (.cmp .LtE (.v 4) (.bin .Mult (.ix (.ix (.fd "Sheet" "lines" (.v 0)) (.v 2)) (.un .USub (.i 1))) (.ix (.ix (.fd "Sheet" "lines" (.v 0)) (.v 1)) (.v 3)))))
 .nil))
def fQ:FE:=⟨.m "Sheet" "is_up_first" 4,"Sheet.is_up_first",fY 34 10,["self","place","tight","column","up"],[],3,[],dP⟩
def dl:Nw:=(.cons (.as (.ix (.v 1) (.v 2)) (.nm 5))
 (.cons (.as (.ix (.v 0) (.v 2)) (.nm 6))
 (.cons (.iff (.cmp .Eq (.v 6) (.i 0))
 (.cons (.rt (.ife (.cmp .Eq (.v 5) (.v 4)) (.v 0) (.nw false (.lc 1 (.e (.v 0)) (.nm 8) .no (.bin .FloorDiv (.bin .Mult (.v 8) (.v 5)) (.v 4))))))
 .nil)
 .nil)
 (.cons (.as (.nw true (.lc 2 (.zi (.v 0) (.v 1)) (.tu 2 (.cons (.nm 8) (.cons (.nm 9) .nil))) .no (.bin .FloorDiv (.bin .Sub (.bin .Mult (.v 8) (.v 5)) (.bin .Mult (.v 6) (.v 9))) (.v 4)))) (.nm 7))
 (.cons (.as (.bin .Mult (.v 3) (.v 6)) (.su (.v 7) (.v 2)))
 (.cons (.rt (.v 7))
 .nil))))))
def jw:FE:=⟨.f "changed_line" 5,"changed_line",top 33,["line","pivot_line","column","sign","below","pivot","factor","changed"],[],3,[],dl⟩
def fb:Nw:=(.cons (.as (.ife (.cmp .Lt (.ix (.ix (.fd "Sheet" "lines" (.v 0)) (.v 1)) (.v 2)) (.i 0)) (.un .USub (.i 1)) (.i 1)) (.nm 3))
 (.cons (.as (.nw false (.lc 1 (.e (.ix (.fd "Sheet" "lines" (.v 0)) (.v 1))) (.nm 7) .no (.bin .Mult (.v 3) (.v 7)))) (.nm 4))
 (.cons (.as (.fd "Sheet" "below" (.v 0)) (.nm 5))
 (.cons (.fl "Sheet" "lines" (.v 0) (.nw true (.lc 1 (.e (.fd "Sheet" "lines" (.v 0))) (.nm 7) .no (.ca true 0 (.cons (.v 7) (.cons (.v 4) (.cons (.v 2) (.cons (.v 3) (.cons (.v 5) .nil)))))))))
 (.cons (.as (.nw true (.lc 1 (.e (.v 4)) (.nm 7) .no (.un .USub (.v 7)))) (.su (.fd "Sheet" "lines" (.v 0)) (.v 1)))
 (.cons (.as (.bin .Mult (.v 3) (.v 5)) (.su (.ix (.fd "Sheet" "lines" (.v 0)) (.v 1)) (.v 2)))
 (.cons (.fl "Sheet" "below" (.v 0) (.ix (.v 4) (.v 2)))
 (.cons (.as (.ix (.fd "Sheet" "sides" (.v 0)) (.v 1)) (.nm 6))
 (.cons (.as (.ix (.fd "Sheet" "heads" (.v 0)) (.v 2)) (.su (.fd "Sheet" "sides" (.v 0)) (.v 1)))
 (.cons (.as (.v 6) (.su (.fd "Sheet" "heads" (.v 0)) (.v 2)))
 .nil))))))))))
def im:FE:=⟨.m "Sheet" "exchange" 3,"Sheet.exchange",fY 34 4,["self","place","column","sign","pivot_line","below","freed"],[36],6,[],fb⟩
def fL:Nw:=(.cons (.wh (.cmp .Lt (.ix (.ix (.fd "Sheet" "lines" (.v 0)) (.v 1)) (.un .USub (.i 1))) (.i 0))
 (.cons (.as (.me "Sheet" "raising_column" 0 (.v 0) (.cons (.v 1) .nil)) (.nm 2))
 (.cons (.iff (.cmp .Is (.v 2) .n)
 (.cons (.rt (.b false))
 .nil)
 .nil)
 (.cons (.as (.me "Sheet" "tightest_place" 1 (.v 0) (.cons (.v 2) .nil)) (.nm 3))
 (.cons (.iff (.or (.cmp .Is (.v 3) .n) (.va (.me "Sheet" "is_up_first" 2 (.v 0) (.cons (.v 1) (.cons (.v 3) (.cons (.v 2) .nil))))))
 (.cons (.ex (.me "Sheet" "exchange" 3 (.v 0) (.cons (.v 1) (.cons (.v 2) .nil))))
 (.cons (.rt (.b true))
 .nil))
 .nil)
 (.cons (.ex (.me "Sheet" "exchange" 3 (.v 0) (.cons (.v 3) (.cons (.v 2) .nil))))
 .nil))))))
 (.cons (.rt (.b true))
 .nil))
def lv:FE:=⟨.m "Sheet" "lift" 2,"Sheet.lift",fY 34 11,["self","place","column","tight"],[32,34,35,37],9,[],fL⟩
def dq:Nw:=(.cons (.as (.ix (.fd "Sheet" "lines" (.v 0)) (.v 1)) (.nm 2))
 (.cons (.rt (.mnd (.nw false (.lc 1 (.e (.me "Sheet" "loose_columns" 0 (.v 0) .nil)) (.nm 3) (.so (.cmp .NotEq (.ix (.v 2) (.v 3)) (.i 0))) (.v 3)))))
 .nil))
def fi:FE:=⟨.m "Sheet" "moving_column" 2,"Sheet.moving_column",fY 34 7,["self","place","line"],[31],6,[],dq⟩
def iy:Nw:=(.cons (.as (.b true) (.su (.fd "Sheet" "nailed" (.v 0)) (.v 1)))
 .nil)
def lu:FE:=⟨.m "Sheet" "nail" 2,"Sheet.nail",fY 34 2,["self","quantity"],[],3,[],iy⟩
def ja:Nw:=(.cons (.as (.ix (.fd "Sheet" "sides" (.v 0)) (.v 1)) (.nm 2))
 (.cons (.iff (.cmp .Gt (.ix (.ix (.fd "Sheet" "lines" (.v 0)) (.v 1)) (.un .USub (.i 1))) (.i 0))
 (.cons (.ex (.me "Sheet" "turn_line" 0 (.v 0) (.cons (.v 1) .nil)))
 .nil)
 .nil)
 (.cons (.iff (.cmp .Lt (.ix (.ix (.fd "Sheet" "lines" (.v 0)) (.v 1)) (.un .USub (.i 1))) (.i 0))
 (.cons (.iff (.no (.va (.me "Sheet" "lift" 1 (.v 0) (.cons (.v 1) .nil))))
 (.cons (.rt (.b false))
 .nil)
 .nil)
 .nil)
 (.cons (.as (.me "Sheet" "moving_column" 2 (.v 0) (.cons (.v 1) .nil)) (.nm 3))
 (.cons (.iff (.cmp .IsNot (.v 3) .n)
 (.cons (.ex (.me "Sheet" "exchange" 3 (.v 0) (.cons (.v 1) (.cons (.v 3) .nil))))
 .nil)
 .nil)
 .nil)))
 (.cons (.ex (.me "Sheet" "nail" 4 (.v 0) (.cons (.v 2) .nil)))
 (.cons (.rt (.b true))
 .nil)))))
def mq:FE:=⟨.f "keep_just" 2,"keep_just",top 47,["sheet","place","quantity","column"],[30,38,39,37,40],12,[],ja⟩
def d8:Nw:=(.cons (.as (.ix (.fd "Sheet" "sides" (.v 0)) (.v 1)) (.nm 2))
 (.cons (.iff (.no (.va (.me "Sheet" "lift" 0 (.v 0) (.cons (.v 1) .nil))))
 (.cons (.rt (.b false))
 .nil)
 .nil)
 (.cons (.ex (.me "Sheet" "guard" 1 (.v 0) (.cons (.v 2) .nil)))
 (.cons (.rt (.b true))
 .nil))))
def ju:FE:=⟨.f "keep_no_less" 2,"keep_no_less",top 48,["sheet","place","quantity"],[38,28],12,[],d8⟩
def oA:Nw:=(.cons (.rt (.nw false (.lc 1 (.r1 (.v 0)) (.nm 2) (.so (.cmp .NotEq (.bin .BitAnd (.v 1) (.bin .LShift (.i 1) (.v 2))) (.i 0))) (.v 2))))
 .nil)
def om:FE:=⟨.f "names_in" 2,"names_in",top 36,["n","group"],[],3,[],oA⟩
def mx:Nw:=(.cons (.rt (.tu (.cons (.s "pair") (.cons (.bi .min (.cons (.v 0) (.cons (.v 1) .nil))) (.cons (.bi .max (.cons (.v 0) (.cons (.v 1) .nil))) (.cons (.v 2) .nil))))))
 .nil)
def mj:FE:=⟨.f "pair_rule" 3,"pair_rule",top 37,["one","other","known"],[],3,[],mx⟩
def iU:Nw:=(.cons (.as (.nw true (.li .nil)) (.nm 3))
 (.cons (.fo (.e (.ca true 0 (.cons (.v 0) (.cons (.un .Invert (.bin .BitOr (.v 2) (.bin .LShift (.i 1) (.v 1)))) .nil)))) (.nm 4)
 (.cons (.ex (.mt .app (.v 3) (.cons (.ca true 1 (.cons (.v 1) (.cons (.v 4) (.cons (.v 2) .nil)))) .nil)))
 (.cons (.as (.bin .BitOr (.v 2) (.bin .LShift (.i 1) (.v 4))) (.nm 2))
 .nil)))
 (.cons (.ex (.mt .app (.v 3) (.cons (.tu (.cons (.s "last") (.cons (.v 1) .nil))) .nil)))
 (.cons (.rt (.v 3))
 .nil))))
def iK:FE:=⟨.f "rules_of_name" 3,"rules_of_name",top 38,["n","k","known","used","j"],[43,44],6,[],iU⟩
def iT:Nw:=(.cons (.as (.nw true (.li .nil)) (.nm 3))
 (.cons (.as (.v 2) (.nm 4))
 (.cons (.fo (.e (.ca true 0 (.cons (.v 0) (.cons (.bin .BitAnd (.v 1) (.un .Invert (.v 2))) .nil)))) (.nm 5)
 (.cons (.ex (.mt .ext (.v 3) (.cons (.ca true 1 (.cons (.v 0) (.cons (.v 5) (.cons (.v 4) .nil)))) .nil)))
 (.cons (.as (.bin .BitOr (.v 4) (.bin .LShift (.i 1) (.v 5))) (.nm 4))
 .nil)))
 (.cons (.rt (.v 3))
 .nil))))
def iJ:FE:=⟨.f "rules_of_rest" 3,"rules_of_rest",top 39,["n","a","b","used","known","k"],[43,45],9,[],iT⟩
def mz:Nw:=(.cons (.rt (.nw false (.lc 1 (.e (.ca true 0 (.cons (.v 0) .nil))) (.nm 2) .no (.mt .cnt (.v 1) (.cons (.v 2) .nil)))))
 .nil)
def mr:FE:=⟨.f "how_often" 2,"how_often",top 40,["n","used"],[24],12,[],mz⟩
def eG:Nw:=(.cons (.as (.nw true (.rep (.cons (.i 0) .nil) (.bin .Add (.bi .len (.cons (.fd "Sheet" "heads" (.v 1)) .nil)) (.bi .len (.cons (.fd "Sheet" "sides" (.v 1)) .nil))))) (.nm 3))
 (.cons (.fo (.en (.fd "Sheet" "heads" (.v 1))) (.tu 2 (.cons (.nm 4) (.cons (.nm 5) .nil)))
 (.cons (.as (.un .USub (.ix (.ix (.fd "Sheet" "lines" (.v 1)) (.v 2)) (.v 4))) (.su (.v 3) (.v 5)))
 .nil))
 (.cons (.as (.fd "Sheet" "below" (.v 1)) (.su (.v 3) (.ix (.fd "Sheet" "sides" (.v 1)) (.v 2))))
 (.cons (.fd (.fd "Sheet" "turned" (.v 1)) (.nm 5)
 (.cons (.as (.un .USub (.ix (.v 3) (.v 5))) (.su (.v 3) (.v 5)))
 .nil))
 (.cons (.as (.nw true (.sl (.v 3) (.so (.ca true 0 (.cons (.v 0) .nil))) (.so (.un .USub (.i 1))))) (.nm 6))
 (.cons (.fo (.r2 (.i 1) (.bin .Add (.ca true 0 (.cons (.v 0) .nil)) (.i 1))) (.nm 7)
 (.cons (.as (.ix (.v 3) (.bin .Sub (.v 7) (.i 1))) (.nm 8))
 (.cons (.iff (.cmp .NotEq (.v 8) (.i 0))
 (.cons (.fo (.en (.ca true 2 (.cons (.v 0) (.cons (.ca true 1 (.cons (.v 0) (.cons (.v 7) (.cons (.i 0) .nil)))) .nil)))) (.tu 2 (.cons (.nm 9) (.cons (.nm 10) .nil)))
 (.cons (.aus .Add (.v 6) (.v 9) (.bin .Mult (.v 8) (.v 10)))
 .nil))
 .nil)
 .nil)
 .nil)))
 (.cons (.rt (.v 6))
 .nil)))))))
def gN:FE:=⟨.f "weights_by_line" 3,"weights_by_line",top 49,["n","sheet","place","taken","column","quantity","weights","group","often","rule","count"],[8,46,47],15,[],eG⟩
def dE:Nw:=(.cons (.as (.i 0) (.nm 1))
 (.cons (.fo (.e (.v 0)) (.nm 2)
 (.cons (.as (.bi .abs (.cons (.v 2) .nil)) (.nm 3))
 (.cons (.wh (.cmp .NotEq (.v 3) (.i 0))
 (.cons (.as (.bin .Mod (.v 1) (.v 3)) (.nm 4))
 (.cons (.as (.v 3) (.nm 1))
 (.cons (.as (.v 4) (.nm 3))
 .nil))))
 (.cons (.iff (.cmp .Eq (.v 1) (.i 1))
 (.cons (.rt (.i 1))
 .nil)
 .nil)
 .nil))))
 (.cons (.rt (.v 1))
 .nil)))
def il:FE:=⟨.f "common_divisor" 1,"common_divisor",top 42,["numbers","divisor","number","other","left"],[],3,[],dE⟩
def db:Nw:=(.cons (.as (.ca true 0 (.cons (.v 0) .nil)) (.nm 1))
 (.cons (.iff (.cmp .Eq (.v 1) (.i 0))
 (.cons (.rt (.nw false (.lof (.v 0))))
 .nil)
 .nil)
 (.cons (.rt (.nw false (.lc 1 (.e (.v 0)) (.nm 2) .no (.bin .FloorDiv (.v 2) (.v 1)))))
 .nil)))
def gQ:FE:=⟨.f "in_lowest_terms" 1,"in_lowest_terms",top 43,["numbers","divisor"],[49],6,[],db⟩
def fc:Nw:=(.cons (.as (.me "Sheet" "raising_column" 0 (.v 0) (.cons (.v 1) .nil)) (.nm 2))
 (.cons (.wh (.cmp .IsNot (.v 2) .n)
 (.cons (.as (.me "Sheet" "tightest_place" 1 (.v 0) (.cons (.v 2) .nil)) (.nm 3))
 (.cons (.iff (.cmp .Is (.v 3) .n)
 (.cons (.rt (.v 2))
 .nil)
 .nil)
 (.cons (.ex (.me "Sheet" "exchange" 2 (.v 0) (.cons (.v 3) (.cons (.v 2) .nil))))
 (.cons (.as (.me "Sheet" "raising_column" 0 (.v 0) (.cons (.v 1) .nil)) (.nm 2))
 .nil)))))
 (.cons (.rt .n)
 .nil)))
def ip:FE:=⟨.m "Sheet" "drive_up" 2,"Sheet.drive_up",fY 34 12,["self","place","column","tight"],[32,34,37],9,[],fc⟩
def eI:Nw:=(.cons (.as (.ca true 0 (.cons (.nw false (.li (.cons (.v 0) (.cons (.v 1) .nil)))) .nil)) (.nm 2))
 (.cons (.rt (.tu (.cons (.ix (.v 2) (.i 0)) (.cons (.ix (.v 2) (.i 1)) .nil))))
 .nil))
def gO:FE:=⟨.f "lowest_fraction" 2,"lowest_fraction",top 44,["top","bottom","numbers"],[50],9,[],eI⟩
def dY:Nw:=(.cons (.as (.nw true (.rep (.cons (.i 0) .nil) (.ca true 0 (.cons (.v 0) .nil)))) (.nm 3))
 (.cons (.fo (.en (.fd "Sheet" "sides" (.v 1))) (.tu 2 (.cons (.nm 4) (.cons (.nm 5) .nil)))
 (.cons (.iff (.cmp .Lt (.v 5) (.bi .len (.cons (.v 3) .nil)))
 (.cons (.as (.ix (.ix (.fd "Sheet" "lines" (.v 1)) (.v 4)) (.v 2)) (.su (.v 3) (.v 5)))
 .nil)
 .nil)
 .nil))
 (.cons (.rt (.v 3))
 .nil)))
def gw:FE:=⟨.f "groups_in_column" 3,"groups_in_column",top 50,["n","sheet","column","found","place","quantity"],[8],6,[],dY⟩
def f7:Nw:=(.cons (.as (.ca true 0 (.cons (.nw false (.cat (.v 0) (.nw false (.li (.cons (.v 1) .nil))))) .nil)) (.nm 2))
 (.cons (.rt (.tu (.cons (.nw false (.sl (.v 2) .no (.so (.un .USub (.i 1))))) (.cons (.ix (.v 2) (.un .USub (.i 1))) .nil))))
 .nil))
def jt:FE:=⟨.f "lowest_table" 2,"lowest_table",top 45,["numbers","below","found"],[50],9,[],f7⟩
def eY:Nw:=(.cons (.rt (.ca true 1 (.cons (.ca false 0 (.cons (.v 0) (.cons (.v 1) (.cons (.un .USub (.i 1)) .nil)))) (.cons (.fd "Sheet" "below" (.v 1)) .nil))))
 .nil)
def ig:FE:=⟨.f "table_of_sheet" 2,"table_of_sheet",top 51,["n","sheet"],[53,54],12,[],eY⟩
def eZ:Nw:=(.cons (.as (.ca true 0 (.cons (.un .USub (.ix (.ix (.fd "Sheet" "lines" (.v 1)) (.v 2)) (.un .USub (.i 1)))) (.cons (.fd "Sheet" "below" (.v 1)) .nil))) (.nm 3))
 (.cons (.as (.ca true 2 (.cons (.nw false (.cat (.ca false 1 (.cons (.v 0) (.cons (.v 1) (.cons (.v 2) .nil)))) (.nw false (.li (.cons (.fd "Sheet" "below" (.v 1)) .nil))))) .nil)) (.nm 4))
 (.cons (.rt (.tu (.cons (.s "least") (.cons (.v 3) (.cons (.ca false 3 (.cons (.v 0) (.cons (.v 1) .nil))) (.cons (.ix (.v 4) (.un .USub (.i 1))) (.cons (.nw false (.sl (.v 4) .no (.so (.un .USub (.i 1))))) .nil)))))))
 .nil)))
def ik:FE:=⟨.f "least_of_sheet" 3,"least_of_sheet",top 53,["n","sheet","place","least","weights"],[52,48,50,55],18,[],eZ⟩
def gh:Nw:=(.cons (.as (.ca false 0 (.cons (.v 0) (.cons (.v 1) (.cons (.v 2) .nil)))) (.nm 3))
 (.cons (.iff (.cmp .Lt (.ix (.fd "Sheet" "heads" (.v 1)) (.v 2)) (.bi .len (.cons (.v 3) .nil)))
 (.cons (.as (.fd "Sheet" "below" (.v 1)) (.su (.v 3) (.ix (.fd "Sheet" "heads" (.v 1)) (.v 2))))
 .nil)
 .nil)
 (.cons (.rt (.ca true 1 (.cons (.v 3) .nil)))
 .nil)))
def mh:FE:=⟨.f "way_along" 3,"way_along",top 52,["n","sheet","column","way"],[53,50],9,[],gh⟩
def mV:Nw:=(.cons (.as (.ca false 0 (.cons (.v 0) (.cons (.v 1) (.cons (.v 2) .nil)))) (.nm 3))
 (.cons (.as (.bin .Sub (.bi .len (.cons (.fd "Sheet" "lines" (.v 3)) .nil)) (.i 1)) (.nm 4))
 (.cons (.fo (.es (.v 1) (.bin .Sub (.v 4) (.bi .len (.cons (.v 1) .nil)))) (.tu 2 (.cons (.nm 5) (.cons (.nm 6) .nil)))
 (.cons (.as (.ife (.cmp .Eq (.ix (.v 6) (.i 1)) (.s "=")) (.ca false 1 (.cons (.v 3) (.cons (.v 5) .nil))) (.ca false 2 (.cons (.v 3) (.cons (.v 5) .nil)))) (.nm 7))
 (.cons (.iff (.no (.va (.v 7)))
 (.cons (.rt (.tu (.cons (.s "never") (.cons (.ca true 4 (.cons (.ca false 3 (.cons (.v 0) (.cons (.v 3) (.cons (.v 5) .nil)))) .nil)) .nil))))
 .nil)
 .nil)
 .nil)))
 (.cons (.as (.me "Sheet" "drive_up" 5 (.v 3) (.cons (.v 4) .nil)) (.nm 8))
 (.cons (.iff (.cmp .Is (.v 8) .n)
 (.cons (.rt (.ca false 6 (.cons (.v 0) (.cons (.v 3) (.cons (.v 4) .nil)))))
 .nil)
 .nil)
 (.cons (.rt (.tu (.cons (.s "endless") (.cons (.ca false 7 (.cons (.v 0) (.cons (.v 3) .nil))) (.cons (.ca false 8 (.cons (.v 0) (.cons (.v 3) (.cons (.v 8) .nil)))) .nil)))))
 .nil))))))
def rq:FE:=⟨.f "answer" 3,"answer",top 54,["n","givens","goal","sheet","last","place","given","kept","column"],[29,41,42,48,50,51,56,55,57],21,[],mV⟩
def gB:Nw:=(.cons (.as (.ca true 0 (.cons (.v 0) (.cons (.nw false (.lc 1 (.r2 (.i 1) (.v 0)) (.nm 3) .no (.tu (.cons (.bin .LShift (.i 1) (.v 3)) (.cons (.i 1) .nil))))) .nil))) (.nm 2))
 (.cons (.rt (.ca true 2 (.cons (.v 0) (.cons (.ca true 1 (.cons (.v 0) (.cons (.v 1) .nil))) (.cons (.v 2) .nil)))))
 .nil))
def j5:FE:=⟨.f "lock_answer" 2,"lock_answer",top 65,["n","openers","keys_alone"],[13,22,58],24,[],gB⟩
def kD:Nw:=(.cons (.as (.nw false (.cat (.nw false (.lc 1 (.e (.ca true 0 (.cons (.v 0) .nil))) (.nm 4) .no (.s ">"))) (.nw false (.lc 3 (.e (.v 1)) (.tu 3 (.cons (.nm 4) (.cons (.nm 5) (.cons (.nm 6) .nil)))) .no (.v 5))))) (.nm 3))
 (.cons (.iff (.cmp .NotEq (.bi .len (.cons (.v 2) .nil)) (.bi .len (.cons (.v 3) .nil)))
 (.cons (.rt (.b false))
 .nil)
 .nil)
 (.cons (.rt (.bi .all (.cons (.nw false (.lc 2 (.zi (.v 2) (.v 3)) (.tu 2 (.cons (.nm 4) (.cons (.nm 5) .nil))) .no (.or (.cmp .GtE (.v 4) (.i 0)) (.cmp .Eq (.v 5) (.s "="))))) .nil)))
 .nil)))
def kg:FE:=⟨.f "are_weights" 3,"are_weights",top 22,["n","givens","weights","signs"],[24],12,[],kD⟩
def tW:Nw:=(.cons (.rt (.bi .sum (.cons (.nw false (.lc 2 (.zi (.v 0) (.v 1)) (.tu 2 (.cons (.nm 2) (.cons (.nm 3) .nil))) .no (.bin .Mult (.v 2) (.v 3)))) .nil)))
 .nil)
def tN:FE:=⟨.f "value" 2,"value",top 14,["row","table"],[],3,[],tW⟩
def ku:Nw:=(.cons (.rt (.bi .all (.cons (.nw false (.lc 1 (.e (.ca true 0 (.cons (.v 0) .nil))) (.nm 2) .no (.cmp .GtE (.ca true 1 (.cons (.v 2) (.cons (.v 1) .nil))) (.i 0)))) .nil)))
 .nil)
def j7:FE:=⟨.f "keeps_rules" 2,"keeps_rules",top 20,["n","table"],[26,61],18,[],ku⟩
def kx:Nw:=(.cons (.as (.ca true 0 (.cons (.ix (.v 0) (.i 0)) (.cons (.v 1) .nil))) (.nm 3))
 (.cons (.as (.bin .Mult (.ix (.v 0) (.i 2)) (.v 2)) (.nm 4))
 (.cons (.rt (.or (.cmp .Eq (.v 3) (.v 4)) (.an (.cmp .Eq (.ix (.v 0) (.i 1)) (.s ">")) (.cmp .Gt (.v 3) (.v 4)))))
 .nil)))
def j8:FE:=⟨.f "keeps_given" 3,"keeps_given",top 25,["given","numbers","below","found","wanted"],[61],6,[],kx⟩
def my:Nw:=(.cons (.as (.ix (.v 2) (.i 0)) (.nm 3))
 (.cons (.as (.ix (.v 2) (.i 1)) (.nm 4))
 (.cons (.iff (.or (.cmp .Lt (.v 4) (.i 1)) (.or (.cmp .NotEq (.bi .len (.cons (.v 3) .nil)) (.ca true 1 (.cons (.v 0) .nil))) (.no (.va (.ca true 0 (.cons (.v 0) (.cons (.v 3) .nil)))))))
 (.cons (.rt (.b false))
 .nil)
 .nil)
 (.cons (.rt (.bi .all (.cons (.nw false (.lc 1 (.e (.v 1)) (.nm 5) .no (.ca true 2 (.cons (.v 5) (.cons (.v 3) (.cons (.v 4) .nil)))))) .nil)))
 .nil))))
def mo:FE:=⟨.f "keeps_all" 3,"keeps_all",top 26,["n","givens","table","numbers","below"],[62,8,63],21,[],my⟩
def kq:Nw:=(.cons (.as (.nw false (.cat (.ca true 0 (.cons (.v 0) .nil)) (.nw false (.lc 3 (.e (.v 1)) (.tu 3 (.cons (.nm 7) (.cons (.nm 8) (.cons (.nm 9) .nil)))) .no (.v 7))))) (.nm 3))
 (.cons (.as (.nw false (.rep (.cons (.i 0) .nil) (.ca true 1 (.cons (.v 0) .nil)))) (.nm 4))
 (.cons (.fo (.zi (.v 3) (.v 2)) (.tu 2 (.cons (.nm 5) (.cons (.nm 6) .nil)))
 (.cons (.as (.nw false (.lc 2 (.zi (.v 4) (.v 5)) (.tu 2 (.cons (.nm 7) (.cons (.nm 8) .nil))) .no (.bin .Add (.v 7) (.bin .Mult (.v 6) (.v 8))))) (.nm 4))
 .nil))
 (.cons (.rt (.v 4))
 .nil))))
def j2:FE:=⟨.f "row_come_to" 3,"row_come_to",top 23,["n","givens","weights","rows","total","row","weight"],[26,8],18,[],kq⟩
def ir:Nw:=(.cons (.as (.nw false (.sl (.v 2) (.so (.bi .len (.cons (.ca true 0 (.cons (.v 0) .nil)) .nil))) .no)) (.nm 3))
 (.cons (.rt (.bi .sum (.cons (.nw false (.lc 2 (.zi (.v 3) (.v 1)) (.tu 2 (.cons (.nm 4) (.cons (.nm 5) .nil))) .no (.bin .Mult (.v 4) (.ix (.v 5) (.i 2))))) .nil)))
 .nil))
def ii:FE:=⟨.f "number_come_to" 3,"number_come_to",top 24,["n","givens","weights","often"],[24],12,[],ir⟩
def kt:Nw:=(.cons (.as (.ix (.ix (.v 3) (.i 1)) (.i 0)) (.nm 4))
 (.cons (.as (.ix (.ix (.v 3) (.i 1)) (.i 1)) (.nm 5))
 (.cons (.as (.ix (.v 3) (.i 2)) (.nm 6))
 (.cons (.as (.ix (.v 3) (.i 3)) (.nm 7))
 (.cons (.as (.ix (.v 3) (.i 4)) (.nm 8))
 (.cons (.iff (.or (.cmp .Lt (.v 5) (.i 1)) (.or (.cmp .Lt (.v 7) (.i 1)) (.or (.no (.va (.ca true 1 (.cons (.v 0) (.cons (.v 1) (.cons (.v 6) .nil)))))) (.no (.va (.ca true 0 (.cons (.v 0) (.cons (.v 1) (.cons (.v 8) .nil)))))))))
 (.cons (.rt (.b false))
 .nil)
 .nil)
 (.cons (.iff (.cmp .NotEq (.bin .Mult (.ca true 2 (.cons (.v 2) (.cons (.ix (.v 6) (.i 0)) .nil))) (.v 5)) (.bin .Mult (.v 4) (.ix (.v 6) (.i 1))))
 (.cons (.rt (.b false))
 .nil)
 .nil)
 (.cons (.iff (.cmp .NotEq (.ca true 3 (.cons (.v 0) (.cons (.v 1) (.cons (.v 8) .nil)))) (.nw false (.lc 1 (.e (.v 2)) (.nm 9) .no (.bin .Mult (.v 9) (.v 7)))))
 (.cons (.rt (.b false))
 .nil)
 .nil)
 (.cons (.rt (.cmp .Eq (.bin .Mult (.ca true 4 (.cons (.v 0) (.cons (.v 1) (.cons (.v 8) .nil)))) (.v 5)) (.bin .Mult (.v 4) (.v 7))))
 .nil)))))))))
def j6:FE:=⟨.f "least_holds" 4,"least_holds",top 28,["n","givens","goal","found","top","bottom","table","times","weights"],[60,64,61,65,66],24,[],kt⟩
def pL:Nw:=(.cons (.rt (.ca true 0 (.cons (.v 0) (.cons (.nw false (.lc 3 (.e (.v 1)) (.tu 3 (.cons (.nm 3) (.cons (.nm 4) (.cons (.nm 5) .nil)))) .no (.tu (.cons (.v 3) (.cons (.v 4) (.cons (.i 0) .nil)))))) (.cons (.tu (.cons (.v 2) (.cons (.i 1) .nil))) .nil)))))
 .nil)
def pC:FE:=⟨.f "goes_on" 3,"goes_on",top 27,["n","givens","way"],[64],24,[],pL⟩
def iV:Nw:=(.cons (.rt (.an (.ca true 2 (.cons (.v 0) (.cons (.v 1) (.cons (.ix (.v 3) (.i 1)) .nil)))) (.an (.ca true 1 (.cons (.v 0) (.cons (.v 1) (.cons (.ix (.v 3) (.i 2)) .nil)))) (.cmp .Lt (.ca true 0 (.cons (.v 2) (.cons (.ix (.v 3) (.i 2)) .nil))) (.i 0)))))
 .nil)
def iN:FE:=⟨.f "endless_holds" 4,"endless_holds",top 29,["n","givens","goal","found"],[61,68,64],27,[],iV⟩
def kr:Nw:=(.cons (.iff (.no (.va (.ca true 0 (.cons (.v 0) (.cons (.v 1) (.cons (.v 2) .nil))))))
 (.cons (.rt (.b false))
 .nil)
 .nil)
 (.cons (.rt (.an (.no (.bi .any (.cons (.ca true 2 (.cons (.v 0) (.cons (.v 1) (.cons (.v 2) .nil)))) .nil))) (.cmp .Gt (.ca true 1 (.cons (.v 0) (.cons (.v 1) (.cons (.v 2) .nil)))) (.i 0))))
 .nil))
def j3:FE:=⟨.f "never_holds" 3,"never_holds",top 30,["n","givens","weights"],[60,66,65],21,[],kr⟩
def tZ:Nw:=(.cons (.iff (.cmp .Eq (.ix (.v 3) (.i 0)) (.s "least"))
 (.cons (.rt (.ca true 0 (.cons (.v 0) (.cons (.v 1) (.cons (.v 2) (.cons (.v 3) .nil))))))
 .nil)
 .nil)
 (.cons (.iff (.cmp .Eq (.ix (.v 3) (.i 0)) (.s "endless"))
 (.cons (.rt (.ca true 1 (.cons (.v 0) (.cons (.v 1) (.cons (.v 2) (.cons (.v 3) .nil))))))
 .nil)
 .nil)
 (.cons (.rt (.an (.cmp .Eq (.ix (.v 3) (.i 0)) (.s "never")) (.ca true 2 (.cons (.v 0) (.cons (.v 1) (.cons (.ix (.v 3) (.i 1)) .nil))))))
 .nil)))
def tR:FE:=⟨.f "holds" 4,"holds",top 31,["n","givens","goal","found"],[67,69,70],30,[],tZ⟩
def pY:Nw:=(.cons (.as (.ca false 0 (.cons (.v 0) (.cons (.i 1) (.cons (.i 40) .nil)))) (.nm 1))
 (.cons (.as (.bin .Add (.i 2) (.bin .Mod (.ca false 1 (.cons (.v 1) .nil)) (.i 3))) (.nm 2))
 (.cons (.as (.ca false 2 (.cons (.v 2) (.cons (.v 1) .nil))) (.nm 3))
 (.cons (.as (.nw false (.lof (.v 3))) (.nm 4))
 (.cons (.as (.ca true 3 (.cons (.v 2) (.cons (.v 3) .nil))) (.nm 5))
 (.cons (.as (.ca true 4 (.cons (.v 2) (.cons (.v 3) .nil))) (.nm 6))
 (.cons (.fo (.r1 (.i 2)) (.nm 7)
 (.cons (.as (.ca false 5 (.cons (.v 2) (.cons (.v 3) .nil))) (.nm 8))
 (.cons (.as (.ca false 6 (.cons (.v 2) (.cons (.v 3) .nil))) (.nm 9))
 (.cons (.iff (.or (.cmp .NotEq (.bi .str (.cons (.nw true (.li (.cons (.v 8) (.cons (.v 9) .nil)))) .nil)) (.bi .str (.cons (.nw true (.li (.cons (.v 5) (.cons (.v 6) .nil)))) .nil))) (.cmp .NotEq (.v 3) (.v 4)))
 (.cons (.rt (.b false))
 .nil)
 .nil)
 (.cons (.ex (.mt .app (.v 8) (.cons (.i 0) .nil)))
 (.cons (.ex (.mt .app (.ix (.ix (.v 9) (.i 0)) (.i 0)) (.cons (.i 7) .nil)))
 (.cons (.ex (.mt .clr (.v 9) .nil))
 .nil)))))))
 (.cons (.as (.ca true 7 (.cons (.v 2) (.cons (.nw false (.lc 1 (.r2 (.i 1) (.v 2)) (.nm 12) .no (.tu (.cons (.bin .LShift (.i 1) (.v 12)) (.cons (.i 1) .nil))))) .nil))) (.nm 10))
 (.cons (.as (.ca true 8 (.cons (.v 2) (.cons (.v 3) .nil))) (.nm 11))
 (.cons (.iff (.no (.va (.ca true 9 (.cons (.v 2) (.cons (.v 6) (.cons (.v 10) (.cons (.v 11) .nil)))))))
 (.cons (.rt (.b false))
 .nil)
 .nil)
 (.cons (.iff (.cmp .In (.i 0) (.v 3))
 (.cons (.rt (.cmp .Eq (.ix (.v 11) (.i 0)) (.s "never")))
 .nil)
 .nil)
 (.cons (.rt (.cmp .Eq (.slt (.v 11) .no (.so (.i 2))) (.tu (.cons (.s "least") (.cons (.tu (.cons (.bi .len (.cons (.v 5) .nil)) (.cons (.i 1) .nil))) .nil)))))
 .nil))))))))))))
def e_law:FE:=⟨.f "law" 1,"law",top 75,["_law_script","_law_draws_here","_law_n","_law_openers_here","_law_kept","_law_due","_law_givens","_law_again","_law_keys","_law_told","_law_row","_law_found"],[1,2,3,5,7,12,22,6,59,71],33,[],pY⟩
noncomputable def gs:List (Str × AV):=[("LOCK",.int 1),("MOST_NAMES",.int 4)]
noncomputable def cl:List (Str × List Str):=[("Sheet",["below","guarded","heads","lines","nailed","sides","turned"])]
noncomputable def pre:List FE:=[ot,lr,oo,jx,lq,ki,kh,gR,ms,lm,tQ,pB,mn,jr,kb,ka,j9,oj,tO,jv,lj,rp,j4,gr,tP,oi,mi,iq,km,iM,gT,fj,eM,gx,eL,fQ,jw,im,lv,fi,lu,mq,ju,om,mj,iK,iJ,mr,gN,il,gQ,ip,gO,gw,jt,ig,ik,mh,rq,j5,kg,tN,j7,j8,mo,j2,ii,j6,pC,iN,j3,tR]
theorem Dj:lw gs cl [] pre=true:=by decide +kernel
theorem Dk:e_law.chk gs cl pre=true:=by decide +kernel
instance:Nt:=⟨[(259,⟨163,30,163,63⟩,("Sheet.raising_column":Str)++".<locals>."++"<lambda>")]⟩
theorem EJ {K:Frag}{h:Heap}{mg:Str->Option Value} (X:K.In h) (G:h.Ns mainGlobals mg) (NB:oB K "Sheet") (OW:FactN K "Sheet") (ON:FactF K "_law_mix" ot) (Ov:FactF K "_law_draws" lr) (OL:FactF K "_law_pop" oo) (N6:FactF K "_law_openers" jx) (Ou:FactF K "_law_opens" lq) (Ob:FactF K "_law_matter" ki) (Ol:FactF K "_law_row_of" kh) (NP:FactF K "_law_givens_due" gR) (OH:FactF K "all_names" ms) (Os:FactF K "key_groups" lm) (OU:FactF K "opens" tQ) (OP:FactF K "matters" pB) (OI:FactF K "mattering" mn) (Oa:FactF K "row_of_terms" jr) (Oe:FactF K "check_count" kb) (Oc:FactF K "check_group" ka) (Og:FactF K "check_known" j9) (OJ:FactF K "rest_row" oj) (OX:FactF K "tells" tO) (N9:FactF K "check_shared" jv) (Ow:FactF K "shared_row" lj) (OQ:FactF K "silent" rp) (Oo:FactF K "lock_givens" j4) (NO:FactF K "pairs_with_known" gr) (OV:FactF K "rules" tP) (OK:FactF K "rule_row" oi) (Oz:FactF K "rule_rows" mi) (NW:FactM K "Sheet" "__init__" iq) (Op:FactM K "Sheet" "guard" km) (N1:FactF K "opening_sheet" iM) (NT:FactM K "Sheet" "turn_line" gT) (NI:FactM K "Sheet" "loose_columns" fj) (NH:FactM K "Sheet" "raising_column" eM) (NM:FactM K "Sheet" "is_tighter" gx) (NG:FactM K "Sheet" "tightest_place" eL) (NL:FactM K "Sheet" "is_up_first" fQ) (N5:FactF K "changed_line" jw) (N0:FactM K "Sheet" "exchange" im) (Oq:FactM K "Sheet" "lift" lv) (NJ:FactM K "Sheet" "moving_column" fi) (Ot:FactM K "Sheet" "nail" lu) (OD:FactF K "keep_just" mq) (N8:FactF K "keep_no_less" ju) (OM:FactF K "names_in" om) (OB:FactF K "pair_rule" mj) (N2:FactF K "rules_of_name" iK) (N3:FactF K "rules_of_rest" iJ) (OE:FactF K "how_often" mr) (NS:FactF K "weights_by_line" gN) (NZ:FactF K "common_divisor" il) (NR:FactF K "in_lowest_terms" gQ) (NX:FactM K "Sheet" "drive_up" ip) (NQ:FactF K "lowest_fraction" gO) (NN:FactF K "groups_in_column" gw) (N7:FactF K "lowest_table" jt) (NV:FactF K "table_of_sheet" ig) (NY:FactF K "least_of_sheet" ik) (OG:FactF K "way_along" mh) (OR:FactF K "answer" rq) (Om:FactF K "lock_answer" j5) (Od:FactF K "are_weights" kg) (OT:FactF K "value" tN) (Oi:FactF K "keeps_rules" j7) (Of:FactF K "keeps_given" j8) (Oy:FactF K "keeps_all" mo) (Oh:FactF K "row_come_to" j2) (NU:FactF K "number_come_to" ii) (On:FactF K "least_holds" j6) (OO:FactF K "goes_on" pC) (N4:FactF K "endless_holds" iN) (Oj:FactF K "never_holds" j3) (OS:FactF K "holds" tR):∀ base:Heap,K.In base->iA mg base->∀ e ∈ pre,e.ok K mg base:=by
 intro base B hb e he;simp only [pre,zT,zX,or_false] at he;rcases he with rfl | rfl | rfl | rfl | rfl | rfl | rfl | rfl | rfl | rfl | rfl | rfl | rfl | rfl | rfl | rfl | rfl | rfl | rfl | rfl | rfl | rfl | rfl | rfl | rfl | rfl | rfl | rfl | rfl | rfl | rfl | rfl | rfl | rfl | rfl | rfl | rfl | rfl | rfl | rfl | rfl | rfl | rfl | rfl | rfl | rfl | rfl | rfl | rfl | rfl | rfl | rfl | rfl | rfl | rfl | rfl | rfl | rfl | rfl | rfl | rfl | rfl | rfl | rfl | rfl | rfl | rfl | rfl | rfl | rfl | rfl | rfl
 ·exact FactF.ok rfl ON X G B hb
 ·exact FactF.ok rfl Ov X G B hb
 ·exact FactF.ok rfl OL X G B hb
 ·exact FactF.ok rfl N6 X G B hb
 ·exact FactF.ok rfl Ou X G B hb
 ·exact FactF.ok rfl Ob X G B hb
 ·exact FactF.ok rfl Ol X G B hb
 ·exact FactF.ok rfl NP X G B hb
 ·exact FactF.ok rfl OH X G B hb
 ·exact FactF.ok rfl Os X G B hb
 ·exact FactF.ok rfl OU X G B hb
 ·exact FactF.ok rfl OP X G B hb
 ·exact FactF.ok rfl OI X G B hb
 ·exact FactF.ok rfl Oa X G B hb
 ·exact FactF.ok rfl Oe X G B hb
 ·exact FactF.ok rfl Oc X G B hb
 ·exact FactF.ok rfl Og X G B hb
 ·exact FactF.ok rfl OJ X G B hb
 ·exact FactF.ok rfl OX X G B hb
 ·exact FactF.ok rfl N9 X G B hb
 ·exact FactF.ok rfl Ow X G B hb
 ·exact FactF.ok rfl OQ X G B hb
 ·exact FactF.ok rfl Oo X G B hb
 ·exact FactF.ok rfl NO X G B hb
 ·exact FactF.ok rfl OV X G B hb
 ·exact FactF.ok rfl OK X G B hb
 ·exact FactF.ok rfl Oz X G B hb
 ·exact FactN.ok rfl NW OW X G B hb
 ·exact FactM.ok rfl Op NB X G B hb
 ·exact FactF.ok rfl N1 X G B hb
 ·exact FactM.ok rfl NT NB X G B hb
 ·exact FactM.ok rfl NI NB X G B hb
 ·exact FactM.ok rfl NH NB X G B hb
 ·exact FactM.ok rfl NM NB X G B hb
 ·exact FactM.ok rfl NG NB X G B hb
 ·exact FactM.ok rfl NL NB X G B hb
 ·exact FactF.ok rfl N5 X G B hb
 ·exact FactM.ok rfl N0 NB X G B hb
 ·exact FactM.ok rfl Oq NB X G B hb
 ·exact FactM.ok rfl NJ NB X G B hb
 ·exact FactM.ok rfl Ot NB X G B hb
 ·exact FactF.ok rfl OD X G B hb
 ·exact FactF.ok rfl N8 X G B hb
 ·exact FactF.ok rfl OM X G B hb
 ·exact FactF.ok rfl OB X G B hb
 ·exact FactF.ok rfl N2 X G B hb
 ·exact FactF.ok rfl N3 X G B hb
 ·exact FactF.ok rfl OE X G B hb
 ·exact FactF.ok rfl NS X G B hb
 ·exact FactF.ok rfl NZ X G B hb
 ·exact FactF.ok rfl NR X G B hb
 ·exact FactM.ok rfl NX NB X G B hb
 ·exact FactF.ok rfl NQ X G B hb
 ·exact FactF.ok rfl NN X G B hb
 ·exact FactF.ok rfl N7 X G B hb
 ·exact FactF.ok rfl NV X G B hb
 ·exact FactF.ok rfl NY X G B hb
 ·exact FactF.ok rfl OG X G B hb
 ·exact FactF.ok rfl OR X G B hb
 ·exact FactF.ok rfl Om X G B hb
 ·exact FactF.ok rfl Od X G B hb
 ·exact FactF.ok rfl OT X G B hb
 ·exact FactF.ok rfl Oi X G B hb
 ·exact FactF.ok rfl Of X G B hb
 ·exact FactF.ok rfl Oy X G B hb
 ·exact FactF.ok rfl Oh X G B hb
 ·exact FactF.ok rfl NU X G B hb
 ·exact FactF.ok rfl On X G B hb
 ·exact FactF.ok rfl OO X G B hb
 ·exact FactF.ok rfl N4 X G B hb
 ·exact FactF.ok rfl Oj X G B hb
 ·exact FactF.ok rfl OS X G B hb
def cA:Fn:=run 3 (ai [] jP)
def dy:Fn:=run 9 (ai [cA] iw)
def bZ:Fn:=run 1 (ai [] jO)
def cq:Fn:=run 6 (ai [bZ] d9)
def b0:Fn:=run 2 (ai [] iu)
def cX:Fn:=run 6 (ai [b0] eQ)
def bI:Fn:=run 5 (ai [] kE)
def ce:Fn:=run 5 (ai [bI,b0] de)
def ag:Fn:=run 1 (ai [] mB)
def bY:Fn:=run 1 (ai [ag] lB)
def cW:Fn:=run 2 (ai [] o0)
def d5:Fn:=run 3 (ai [bY,cW] lA)
def dO:Fn:=run 2 (ai [d5] i9)
def aM:Fn:=run 5 (ai [ag] d7)
def eT:Fn:=run 1 (ai [] kC)
def dJ:Fn:=run 2 (ai [ag] kA)
def eS:Fn:=run 2 (ai [dJ] kz)
def g6:Fn:=run 3 (ai [aM] oz)
def fx:Fn:=run 3 (ai [eT,eS,dJ,g6] tX)
def gf:Fn:=run 4 (ai [eT,dJ,eS] jz)
def fN:Fn:=run 4 (ai [aM] lz)
def d3:Fn:=run 4 (ai [gf,fN] rW)
def bH:Fn:=run 4 (ai [aM,bY,cW,fx,d3] eP)
def d4:Fn:=run 4 (ai [ag] gz)
def hG:Fn:=run 4 (ai [d4] tY)
def jS:Fn:=run 3 (ai [ag,g6,fN] oy)
def aJ:Fn:=run 1 (ai [hG,jS] mw)
def aD:Fn:=run 3 (ai [] fe)
def aL:Fn:=run 2 (ai [] gC)
def bB:Fn:=run 7 (ai [aJ,ag,aD,aL] fK)
def bg:Fn:=run 2 (ai [] eJ)
def bC:Fn:=run 1 (ai [] du)
def aB:Fn:=run 4 (ai [bC] c7)
def bG:Fn:=run 6 (ai [] dZ)
def aA:Fn:=run 5 (ai [bG] c6)
def be:Fn:=run 5 (ai [] dP)
def bn:Fn:=run 8 (ai [] dl)
def ax:Fn:=run 7 (ai [bn] fb)
def bF:Fn:=run 4 (ai [aB,aA,be,ax] fL)
def aP:Fn:=run 3 (ai [bC] dq)
def b8:Fn:=run 2 (ai [] iy)
def bR:Fn:=run 4 (ai [bg,bF,aP,ax,b8] ja)
def bj:Fn:=run 3 (ai [bF,aL] d8)
def g7:Fn:=run 2 (ai [] oA)
def jd:Fn:=run 3 (ai [] mx)
def fO:Fn:=run 5 (ai [g7,jd] iU)
def bX:Fn:=run 6 (ai [g7,fO] iT)
def c8:Fn:=run 2 (ai [hG] mz)
def aN:Fn:=run 11 (ai [ag,bX,c8] eG)
def bS:Fn:=run 5 (ai [] dE)
def ak:Fn:=run 2 (ai [bS] db)
def bu:Fn:=run 4 (ai [aB,aA,ax] fc)
def cb:Fn:=run 3 (ai [ak] eI)
def bT:Fn:=run 6 (ai [ag] dY)
def cO:Fn:=run 3 (ai [ak] f7)
def aW:Fn:=run 2 (ai [bT,cO] eY)
def bt:Fn:=run 5 (ai [cb,aN,ak,aW] eZ)
def bV:Fn:=run 4 (ai [bT,ak] gh)
def ff:Fn:=run 9 (ai [bB,bR,bj,aN,ak,bu,bt,aW,bV] mV)
def cD:Fn:=run 3 (ai [aM,bH,ff] gB)
def eU:Fn:=run 4 (ai [hG] kD)
def g9:Fn:=run 2 (ai [] tW)
def gF:Fn:=run 2 (ai [aJ,g9] ku)
def gG:Fn:=run 5 (ai [g9] kx)
def eN:Fn:=run 5 (ai [gF,ag,gG] my)
def eR:Fn:=run 7 (ai [aJ,ag] kq)
def dG:Fn:=run 4 (ai [hG] ir)
def gE:Fn:=run 9 (ai [eU,eN,g9,eR,dG] kt)
def lG:Fn:=run 3 (ai [eN] pL)
def fP:Fn:=run 4 (ai [g9,lG,eN] iV)
def gD:Fn:=run 3 (ai [eU,dG,eR] kr)
def hU:Fn:=run 4 (ai [gE,fP,gD] tZ)
def oC:Fn:=run 12 (ai [dy,bZ,cq,cX,ce,dO,bH,bI,cD,hU] pY)
def Fs:List Fn:=[cA,dy,bZ,cq,b0,cX,bI,ce,ag,bY,cW,d5,dO,aM,eT,dJ,eS,g6,fx,gf,fN,d3,bH,d4,hG,jS,aJ,aD,aL,bB,bg,bC,aB,bG,aA,be,bn,ax,bF,aP,b8,bR,bj,g7,jd,fO,bX,c8,aN,bS,ak,bu,cb,bT,cO,aW,bt,bV,ff,cD,eU,g9,gF,gG,eN,eR,dG,gE,lG,fP,gD,hU]
theorem ad {fs:List Fn}{e:FE}{r:List FE}{F:Fn} (h:e.fn fs=F):iI fs (e::r)=iI (fs++[F]) r:=by rw [<- h];rfl
theorem Il:iI [] pre=Fs:=(ad (F:=cA) rfl).trans <| (ad (F:=dy) rfl).trans <| (ad (F:=bZ) rfl).trans <| (ad (F:=cq) rfl).trans <| (ad (F:=b0) rfl).trans <| (ad (F:=cX) rfl).trans <| (ad (F:=bI) rfl).trans <| (ad (F:=ce) rfl).trans <| (ad (F:=ag) rfl).trans <| (ad (F:=bY) rfl).trans <| (ad (F:=cW) rfl).trans <| (ad (F:=d5) rfl).trans <| (ad (F:=dO) rfl).trans <| (ad (F:=aM) rfl).trans <| (ad (F:=eT) rfl).trans <| (ad (F:=dJ) rfl).trans <| (ad (F:=eS) rfl).trans <| (ad (F:=g6) rfl).trans <| (ad (F:=fx) rfl).trans <| (ad (F:=gf) rfl).trans <| (ad (F:=fN) rfl).trans <| (ad (F:=d3) rfl).trans <| (ad (F:=bH) rfl).trans <| (ad (F:=d4) rfl).trans <| (ad (F:=hG) rfl).trans <| (ad (F:=jS) rfl).trans <| (ad (F:=aJ) rfl).trans <| (ad (F:=aD) rfl).trans <| (ad (F:=aL) rfl).trans <| (ad (F:=bB) rfl).trans <| (ad (F:=bg) rfl).trans <| (ad (F:=bC) rfl).trans <| (ad (F:=aB) rfl).trans <| (ad (F:=bG) rfl).trans <| (ad (F:=aA) rfl).trans <| (ad (F:=be) rfl).trans <| (ad (F:=bn) rfl).trans <| (ad (F:=ax) rfl).trans <| (ad (F:=bF) rfl).trans <| (ad (F:=aP) rfl).trans <| (ad (F:=b8) rfl).trans <| (ad (F:=bR) rfl).trans <| (ad (F:=bj) rfl).trans <| (ad (F:=g7) rfl).trans <| (ad (F:=jd) rfl).trans <| (ad (F:=fO) rfl).trans <| (ad (F:=bX) rfl).trans <| (ad (F:=c8) rfl).trans <| (ad (F:=aN) rfl).trans <| (ad (F:=bS) rfl).trans <| (ad (F:=ak) rfl).trans <| (ad (F:=bu) rfl).trans <| (ad (F:=cb) rfl).trans <| (ad (F:=bT) rfl).trans <| (ad (F:=cO) rfl).trans <| (ad (F:=aW) rfl).trans <| (ad (F:=bt) rfl).trans <| (ad (F:=bV) rfl).trans <| (ad (F:=ff) rfl).trans <| (ad (F:=cD) rfl).trans <| (ad (F:=eU) rfl).trans <| (ad (F:=g9) rfl).trans <| (ad (F:=gF) rfl).trans <| (ad (F:=gG) rfl).trans <| (ad (F:=eN) rfl).trans <| (ad (F:=eR) rfl).trans <| (ad (F:=dG) rfl).trans <| (ad (F:=gE) rfl).trans <| (ad (F:=lG) rfl).trans <| (ad (F:=fP) rfl).trans <| (ad (F:=gD) rfl).trans <| (ad (F:=hU) rfl).trans <| rfl
theorem HL:e_law.fn (iI [] pre)=oC:=by rw [Il];rfl
def JP:Fn:=oC
end LW
namespace LW
open PySem PySem.Spec L2 R
open SX (Sh Nz)
def Bd (w m:Nat) (S:Sh):Prop:=S.d.natAbs < 2 ^ 9000/\∀ i,i < m->∀ j,j < w + 1->(S.t i j).natAbs < 2 ^ 9000
section
variable {st:aa}{k a b c g n u w m:Nat}{rows:List AV}{S:Sh}
theorem HY (R:Rep st k a b c g n u rows S) (P:Nz w m S) (B:Bd w m S) {i r q:Nat} (hi:i < m) (hr:r < m) (hq:q < w) :
  bG [.ref k,.int i,.int r,.int q] st=some (.bl (decide (S.t i w * - S.t r q < S.t r w * - S.t i q) || (decide (S.t i w * - S.t r q=S.t r w * - S.t i q) && decide (S.s i < S.s r))),st):=by
 have m1:cJ (S.t i w) (- S.t r q)=true:=eK (B.2 i hi w oM) (by rw [Int.natAbs_neg];exact B.2 r hr q oM);have m2:cJ (S.t r w) (- S.t i q)=true:=eK (B.2 r hr w oM) (by rw [Int.natAbs_neg];exact B.2 i hi q oM);simp [bG,aI,dZ,R.ins,R.line P hi,R.line P hr,R.last P hi,R.last P hr,R.cell P hi (show q < w + 1 by omega),R.cell P hr (show q < w + 1 by omega),cz m1,cz m2,R.side P hi,R.side P hr];by_cases h1:S.t i w * -S.t r q < S.t r w * -S.t i q <;> by_cases h2:S.t i w * -S.t r q=S.t r w * -S.t i q <;> simp [h1,h2]
theorem GU (R:Rep st k a b c g n u rows S) (P:Nz w m S) (B:Bd w m S) {i r q:Nat} (hi:i < m) (hr:r < m) (hq:q < w) :
  be [.ref k,.int i,.int r,.int q] st=some (.bl (decide (S.t i w * S.t r q <= S.t r w * S.t i q)),st):=by
 have m1:cJ (S.t i w) (S.t r q)=true:=eK (B.2 i hi w oM) (B.2 r hr q oM);have m2:cJ (S.t r w) (S.t i q)=true:=eK (B.2 r hr w oM) (B.2 i hi q oM);simp [be,aI,dP,R.ins,R.line P hi,R.line P hr,R.last P hi,R.last P hr,R.cell P hi (show q < w + 1 by omega),R.cell P hr (show q < w + 1 by omega),cz m1,cz m2]
theorem tm (R:Rep st k a b c g n u rows S) (P:Nz w m S) (hw:w <= 100):bC [.ref k] st=some (.fz (nL (bM S)),st):=by
 have he:nL (bM S)=(S.hd.zipIdx.filter fun z=>!decide (z.1 ∈ S.nl)).map fun z=>(AV.int ((z.2:Nat):Int)):=by unfold nL bM;rw [List.map_map];rfl
 have hf:=jE (l:=bM S);rw [he] at hf ⊢;simp [bC,aI,du,R.ins,jn R.hb,Iw,bv (show S.hd.length <= 1000 by rw [P.hd];omega)];rw [d6 (B:=fun z=>!decide (z.1 ∈ S.nl)) (F:=fun z=>.int ((z.2:Nat):Int)) (fZ R.hb) fun z _=>⟨_,rfl,by simp [R.ins,R.nin],fun _=>rfl⟩];simp [hf]
end
end LW
namespace LW
open PySem PySem.Spec L2 R
open SX (Sh Nz gI chLine pvl sgn)
theorem Ds:((iL l).zip (iL P)).map (fun z=>AV.tup [z.1,z.2])=(l.zip P).map fun z=>.tup [.int z.1,.int z.2]:=by
 unfold iL;rw [List.zip_map,List.map_map];rfl
section
variable {l P:List Int}{q w:Nat}{sg d:Int}
theorem Be {M:Nat} (h:∀ x ∈ l,x.natAbs < M) (hM:0 < M) (j:Nat):(gI l j).natAbs < M:=by
 unfold gI;rw [zD];cases e:l[j]? with
 | none=>exact hM
 | some x=>exact h x (zW e)
theorem K8 (hl:l.length=w + 1) (hP:P.length=w + 1) (hq:q < w + 1) (hw:w <= 100) (bl:∀ x ∈ l,x.natAbs < 2 ^ 9000) (bP:∀ x ∈ P,x.natAbs < 2 ^ 9000) (hd:d ≠ 0) (bd:d.natAbs < 2 ^ 9000) (bs:sg.natAbs < 2 ^ 9000) :
  ∃ v st',bn [.fz (iL l),.fz (iL P),.int q,.int sg,.int d] []=some (v,st')/\rsl st' v=some (.fz (iL (chLine l P q sg d))):=by
 have hM:(0:Nat) < 2 ^ 9000:=Nat.two_pow_pos _;have x1:∀ st:aa,cU st (.fz (iL P)) (.int (q:Int))=some (.int (gI P q)):=fun st=>by rw [cT iD,cG,b9 oM]
 have x2:∀ st:aa,cU st (.fz (iL l)) (.int (q:Int))=some (.int (gI l q)):=fun st=>by rw [cT iD,cG,b9 oM]
 have bp:=Be bP hM q;have bf:=Be bl hM q;have dv:=wX hd bd;unfold chLine;by_cases h1:gI l q=0
 ·by_cases h2:gI P q=d
  ·refine ⟨.fz (iL l),[],?_,by rw [yI h1,yI h2];rfl⟩
   simp [bn,aI,dl,x1,x2,h1,h2]
  ·refine ⟨.fz (iL (l.map fun x=>SX.fdvS (x * gI P q) d)),[],?_,by rw [yI h1,yH h2];rfl⟩
   simp [bn,aI,dl,x1,x2,h1,h2,bv (show l.length <= 1000 by omega)];rw [jI (F:=fun x=>SX.fdvS (x * gI P q) d) dL fun x hx=>⟨_,rfl,rfl,by simp [cz (eK (bl x hx) bp),lX dv];rfl⟩];simp
 ·refine ⟨.ref 0,[.lst (iL (((l.zip P).map fun z=>SX.fdvS (z.1 * gI P q - gI l q * z.2) d).set q (sg * gI l q)))],?_,by rw [yH h1];exact sF rfl⟩
  have ml:=eK bs bf;have hz:((l.zip P).length) <= 1000:=by rw [List.length_zip];omega
  simp [bn,aI,dl,x1,x2,h1,iZ,Ds];rw [yI (bv oM),wC (F:=fun z=>SX.fdvS (z.1 * gI P q - gI l q * z.2) d) dL fun z hz=>⟨_,rfl,rfl,by
   have:=List.of_mem_zip hz
   simp [cz (eK (bl _ this.1) bp),cz (eK bf (bP _ this.2)),lX dv];rfl⟩]
  simp [cz ml];rw [dj (xs:=iL ((l.zip P).map fun z=>SX.fdvS (z.1 * gI P q - gI l q * z.2) d)) rfl (by simp;omega),fE];simp
theorem Iy (hx:RowR st x l) (hl:l.length=w + 1) (hP:P.length=w + 1) (hq:q < w + 1) (hw:w <= 100) (bl:∀ x ∈ l,x.natAbs < 2 ^ 9000) (bP:∀ x ∈ P,x.natAbs < 2 ^ 9000) (hd:d ≠ 0) (bd:d.natAbs < 2 ^ 9000) (bs:sg.natAbs < 2 ^ 9000) :
  ∃ st1,pm bn [x,.fz (iL P),.int q,.int sg,.int d] st=some (.fz (iL (chLine l P q sg d)),st1)/\(st1=st\/∃ r,x=.ref r/\st[r]?=some (.lst (iL l))/\st1=st.set r (.al (.fz (iL l)))):=by
 obtain ⟨v,st',e1,e2⟩:=K8 hl hP hq hw bl bP hd bd bs;exact kP (rest:=[.fz (iL P),.int q,.int sg,.int d]) hx (by simp) rfl (fun s=>by simp [iH,gK,rf]) e1 e2 (by simp [cL])
end
section
variable {st:aa}{k a b c g n u w m:Nat}{rows:List AV}{S:Sh}
theorem Bd.row (B:Bd w m S) (P:Nz w m S) {i:Nat} (hi:i < m):∀ x ∈ SX.row S i,x.natAbs < 2 ^ 9000:=fun x hx=>by
 obtain ⟨j,hj⟩:=z9 hx;have hl:=(zB.mp hj).1;rw [P.rl hi] at hl
 have:=B.2 i hi j hl
 have e:S.t i j=x:=by show (SX.row S i).getD j 0=x;rw [zD,hj];rfl
 rw [e] at this;exact this
theorem ld (R:Rep st k a b c g n u rows S) (P:Nz w m S) (B:Bd w m S) (hd:S.d ≠ 0) (hw:w <= 100) (hm:m <= 1000) {p q:Nat} (hp:p < m) (hq:q < w) :
  ∃ st' a' rows',ax [.ref k,.int p,.int q] st=some (.non,st')/\Rep st' k a' b c g n u rows' (SX.NE S p q):=by
 have rl:rows.length=m:=by rw [R.len,P.ls]
 obtain ⟨sg,hsg⟩:∃ x,x=sgn (S.t p q):=⟨_,rfl⟩;obtain ⟨pl,hpl⟩:∃ x,x=pvl S p q:=⟨_,rfl⟩;have hpl':pl=(SX.row S p).map fun x=>sg * x:=by rw [hpl,hsg];rfl
 have lp:pl.length=w + 1:=by rw [hpl',zH];exact P.rl hp
 have sa:sg.natAbs=1:=by rw [hsg];unfold sgn;split <;> rfl
 have bs:sg.natAbs < 2 ^ 9000:=by rw [sa];exact Nat.one_lt_two_pow oM
 have bP:∀ x ∈ pl,x.natAbs < 2 ^ 9000:=fun x hx=>by
  rw [hpl'] at hx;obtain ⟨y,hy,rfl⟩:=yD.mp hx;rw [Int.natAbs_mul,sa,Nat.one_mul];exact B.row P hp y hy
 have s1:∃ st1,gJ [(a,.lst rows)] (bU [bn] (.nm 7)) (j1 [bn] .no) (ev [bn] (.ca true 0 (.cons (.v 7) (.cons (.v 4) (.cons (.v 2) (.cons (.v 3) (.cons (.v 5) .nil))))))) [some (.ref k),some (.int p),some (.int q),some (.int sg),some (.fz (iL pl)),some (.int S.d),none,none] rows st
   = some ((List.range rows.length).map fun i=>.fz (iL (chLine (SX.row S i) pl q sg S.d)),st1)/\Rep st1 k a b c g n u rows S:=by
  refine FP (J:=fun _ s=>Rep s k a b c g n u rows S) (fun _ s _ R'=>fZ R'.ha) (fun i x s hx R'=>?_) R;have hi:i < m:=by rw [<- rl];exact (zB.mp hx).1
  obtain ⟨s1,e1,h1⟩:=Iy (R'.row i x hx) (P.rl hi) lp (show q < w + 1 by omega) hw (B.row P hi) bP hd B.1 bs;refine ⟨_,s1,rfl,rfl,by simp [e1],?_⟩;rcases h1 with rfl | ⟨r,rfl,h2,rfl⟩
  ·exact R'
  ·exact R'.freeze hx h2
 obtain ⟨st1,e1,R1⟩:=s1;obtain ⟨rows2,hr2⟩:∃ x,x=(List.range rows.length).map fun i=>AV.fz (iL (chLine (SX.row S i) pl q sg S.d)):=⟨_,rfl⟩
 rw [<- hr2] at e1;have fz2:∀ i x,rows2[i]?=some x->i < m/\x=.fz (iL (chLine (SX.row S i) pl q sg S.d)):=fun i x h=>by
  rw [hr2,zR] at h;obtain ⟨j,h1,rfl⟩:=zE.mp h;have hl:=(zB.mp h1).1;rw [List.length_range] at hl;rw [List.getElem?_range hl] at h1;cases h1;exact ⟨by omega,rfl⟩
 have l2:rows2.length=m:=by rw [hr2,zH,List.length_range,rl]
 have lt:∀ {s:aa}{i:Nat}{x:Nq},s[i]?=some x->i < s.length:=fun h=>(zB.mp h).1
 -- the new lines
 have R2:Rep ((st1++[Nq.lst rows2]).set k (.ins "Sheet" (cE S.d st1.length b c g n u))) k st1.length b c g n u rows2 { S with ls:=S.ls.map fun l=>chLine l pl q sg S.d }:=by
  refine Rep.fields (S':={ S with ls:=S.ls.map fun l=>chLine l pl q sg S.d }) (R1.app (ys:=[Nq.lst rows2])) gl rfl rfl rfl rfl rfl (by simp [l2,P.ls]) (fun i x h=>?_) (Nat.ne_of_gt (lt R1.hb)) (Nat.ne_of_gt (lt R1.hc)) fun i r h=>?_
  ·obtain ⟨hi,rfl⟩:=fz2 i x h
   left;unfold SX.row;simp [zD,zF (show i < S.ls.length by rw [P.ls];exact hi)]
  ·have:=(fz2 i _ h).2;cases this
 obtain ⟨t2,ht2⟩:∃ x,x=(st1++[Nq.lst rows2]).set k (.ins "Sheet" (cE S.d st1.length b c g n u)):=⟨_,rfl⟩;rw [<- ht2] at R2;obtain ⟨a',ha'⟩:∃ x,x=st1.length:=⟨_,rfl⟩;rw [<- ha'] at R2 ht2;have R3:=Rep.rowset (p:=p) (x:=.ref t2.length) (l:=pl.map fun x=>- x) (R2.app (ys:=[Nq.lst (iL (pl.map fun x=>- x))])) (.inr ⟨t2.length,rfl,.inl gl⟩) fun r e=>by cases e;exact ⟨Nat.ne_of_gt (lt R2.ha),Nat.ne_of_gt (lt R2.hb),Nat.ne_of_gt (lt R2.hc)⟩
 obtain ⟨t3,ht3⟩:∃ x,x=(t2++[Nq.lst (iL (pl.map fun x=>- x))]).set a' (.lst (rows2.set p (.ref t2.length))):=⟨_,rfl⟩;rw [<- ht3] at R3;have g3:t3[t2.length]?=some (.lst (iL (pl.map fun x=>- x))):=by rw [ht3,aq (zU (lt R2.ha))];exact gl
 have p3:(rows2.set p (.ref t2.length))[p]?=some (.ref t2.length):=by simp [l2,hp]
 have R4:=Rep.cellset (l:=(pl.map fun x=>- x).set q (sg * S.d)) R3 p3 fun i ne h=>by
  rw [yU,yH (fun z=>ne z.symm)] at h
  have:=(fz2 i _ h).2;cases this
 obtain ⟨t4,ht4⟩:∃ x,x=t3.set t2.length (.lst (iL ((pl.map fun x=>- x).set q (sg * S.d)))):=⟨_,rfl⟩;rw [<- ht4] at R4;have R5:=Rep.fields (S':={ d:=gI pl q,ls:=_,hd:=S.hd,sd:=S.sd,gd:=S.gd,nl:=S.nl,tn:=S.tn }) R4 R4.ha rfl rfl rfl rfl rfl R4.len R4.row R4.ab R4.ac R4.ra;obtain ⟨t5,ht5⟩:∃ x,x=t4.set k (.ins "Sheet" (cE (gI pl q) a' b c g n u)):=⟨_,rfl⟩;have R5:=ht5 ▸ R5;have R6:=Rep.sides (sd':=S.sd.set p (S.h q)) R5;obtain ⟨t6,ht6⟩:∃ x,x=t5.set c (.lst (nL (S.sd.set p (S.h q)))):=⟨_,rfl⟩;rw [<- ht6] at R6;have R7:=Rep.heads (hd':=S.hd.set q (S.s p)) R6;obtain ⟨t7,ht7⟩:∃ x,x=t6.set b (.lst (nL (S.hd.set q (S.s p)))):=⟨_,rfl⟩;rw [<- ht7] at R7;refine ⟨t7,a',rows2.set p (.ref t2.length),?_,?_⟩
 rotate_left
 ·have e:SX.NE S p q={ d:=gI pl q,ls:=((S.ls.map fun l=>chLine l pl q sg S.d).set p (pl.map fun x=>- x)).set p ((pl.map fun x=>- x).set q (sg * S.d)),hd:=S.hd.set q (S.s p),sd:=S.sd.set p (S.h q),gd:=S.gd,nl:=S.nl,tn:=S.tn }:=by
   unfold SX.NE;rw [List.set_set,hpl,hsg]
  rw [e];exact R7
 rw [ax,aI];unfold fb;refine ao (sl':=[some (.ref k),some (.int p),some (.int q),some (.int sg),none,none,none]) (st':=st) ?_ ?_
 ·by_cases h:S.t p q < 0
  ·simp [R.ins,R.line P hp,R.cell P hp (show q < w + 1 by omega),h,hsg,sgn]
  ·simp [R.ins,R.line P hp,R.cell P hp (show q < w + 1 by omega),h,hsg,sgn]
 refine ao (sl':=[some (.ref k),some (.int p),some (.int q),some (.int sg),some (.fz (iL pl)),none,none]) (st':=st) ?_ ?_
 ·obtain ⟨gd,i1,i2⟩:=(R.row p _ (R.rx P hp)).it
  simp [R.ins,R.line P hp,i1,bv (show (SX.row S p).length <= 1000 by rw [P.rl hp];omega)];rw [jI (F:=fun x=>sg * x) i2 fun x hx=>⟨_,rfl,rfl,by simp [cz (eK bs (B.row P hp x hx))]⟩];simp [hpl']
 refine ao (sl':=[some (.ref k),some (.int p),some (.int q),some (.int sg),some (.fz (iL pl)),some (.int S.d),none]) (st':=st) (by simp [R.ins]) ?_;refine ao (sl':=[some (.ref k),some (.int p),some (.int q),some (.int sg),some (.fz (iL pl)),some (.int S.d),none]) (st':=t2) ?_ ?_
 ·rw [gV (v:=.ref a') (st':=st1++[.lst rows2]) (k:=k) (by simp [R.ins,oU R.ha,rl,bv hm,e1,ha']) (by simp) R1.app.ins rfl,yf,ht2]
 refine ao (sl':=[some (.ref k),some (.int p),some (.int q),some (.int sg),some (.fz (iL pl)),some (.int S.d),none]) (st':=t3) ?_ ?_
 ·simp [bv (show pl.length <= 1000 by omega)]
  rw [jI (F:=fun x=>- x) dL fun x hx=>⟨_,rfl,rfl,by simp⟩];simp [R2.app.ins,dj (R2.app (ys:=[Nq.lst (iL (pl.map fun x=>- x))])).ha (show p < rows2.length by omega),ht3]
 have P4:Nz w m { S with ls:=((S.ls.map fun l=>chLine l pl q sg S.d).set p (pl.map fun x=>- x)).set p ((pl.map fun x=>- x).set q (sg * S.d)) }:=by
  have:=SX.exch_shp (c:=q) P hp
  refine ⟨by simp [P.ls],fun l hl=>this.row l ?_,P.hd,P.sd⟩;show l ∈ (S.ls.map fun l=>chLine l (pvl S p q) q (sgn (S.t p q)) S.d).set p _;rw [<- hpl,<- hsg];rw [List.set_set] at hl;exact hl
 have rx:kK (rows2.set p (.ref t2.length)) p=.ref t2.length:=by unfold kK;rw [zD,p3];rfl
 refine ao (sl':=[some (.ref k),some (.int p),some (.int q),some (.int sg),some (.fz (iL pl)),some (.int S.d),none]) (st':=t4) ?_ ?_
 ·have li:cU t3 (.ref a') (.int (p:Int))=some (.ref t2.length):=by rw [cT (bz R3.ha),cG];exact p3
  simp [cz (eK bs B.1),R3.ins,li,dj g3 (show q < (iL (pl.map fun x=>- x)).length by simp;omega),fE,ht4]
 refine ao (sl':=[some (.ref k),some (.int p),some (.int q),some (.int sg),some (.fz (iL pl)),some (.int S.d),none]) (st':=t5) ?_ ?_
 ·have xi:cU t4 (.fz (iL pl)) (.int (q:Int))=some (.int (gI pl q)):=by rw [cT iD,cG,b9 oM]
  rw [gV (v:=.int (gI pl q)) (st':=t4) (k:=k) (by simp [xi]) (by simp) R4.ins rfl,yg,ht5]
 have P5:Nz w m { S with d:=gI pl q,ls:=((S.ls.map fun l=>chLine l pl q sg S.d).set p (pl.map fun x=>- x)).set p ((pl.map fun x=>- x).set q (sg * S.d)) }:=⟨P4.ls,P4.row,P4.hd,P4.sd⟩;refine ao (sl':=[some (.ref k),some (.int p),some (.int q),some (.int sg),some (.fz (iL pl)),some (.int S.d),some (.int (S.s p:Int))]) (st':=t5) ?_ ?_
 ·have:=R5.side P5 hp
  simp [R5.ins,this];rfl
 refine ao (sl':=[some (.ref k),some (.int p),some (.int q),some (.int sg),some (.fz (iL pl)),some (.int S.d),some (.int (S.s p:Int))]) (st':=t6) ?_ ?_
 ·have:=R5.head P5 hq
  simp [R5.ins,this,dj R5.hc (show p < (nL S.sd).length by simp [P.sd,hp]),ht6];rw [<- wp];rfl
 refine ao (sl':=[some (.ref k),some (.int p),some (.int q),some (.int sg),some (.fz (iL pl)),some (.int S.d),some (.int (S.s p:Int))]) (st':=t7) ?_ rfl;simp [R6.ins,dj R6.hb (show q < (nL S.hd).length by simp [P.hd,hq]),ht7,wp]
end
end LW
namespace LW
open PySem PySem.Spec L2 R
open SX (Sh Nz NA NE)
noncomputable def ins (l:List Nat) (q:Nat):List Nat:=if q ∈ l then l else l++[q]
section
variable {st:aa}{k a b c g n u w m:Nat}{rows:List AV}{S:Sh}{p q:Nat}
theorem tH (R:Rep st k a b c g n u rows S) (hl:S.gd.length <= 1000):∃ st',aL [.ref k,.int q] st=some (.non,st')/\Rep st' k a b c g n u rows { S with gd:=ins S.gd q }:=by
 refine ⟨_,?_,R.guard⟩;simp [aL,aI,gC,R.ins,oT R.hg hl,ins]
theorem Fo (R:Rep st k a b c g n u rows S) (hl:S.nl.length <= 1000):∃ st',b8 [.ref k,.int q] st=some (.non,st')/\Rep st' k a b c g n u rows { S with nl:=ins S.nl q }:=by
 refine ⟨_,?_,R.nail⟩;simp [b8,aI,iy,R.ins,oT R.hn hl,ins]
theorem Dw (R:Rep st k a b c g n u rows S) (P:Nz w m S) (hw:w <= 100) (hp:p < m) (hl:S.tn.length <= 1000):∃ st' rows',bg [.ref k,.int p] st=some (.non,st')/\Rep st' k a b c g n u rows' (SX.trn S p):=by
 have R1:=Rep.rowset (p:=p) (x:=.fz (iL ((SX.row S p).map fun x=>- x))) (l:=(SX.row S p).map fun x=>- x) R (.inl rfl) fun r e=>nomatch e
 have R2:=Rep.turned (tn':=if S.s p ∈ S.tn then S.tn else S.tn++[S.s p]) R1;refine ⟨_,_,?_,R2⟩;obtain ⟨gd,i1,i2⟩:=(R.row p _ (R.rx P hp)).it;have P1:Nz w m { S with ls:=S.ls.set p ((SX.row S p).map fun x=>- x) }:=⟨(SX.trn_shp P hp).ls,(SX.trn_shp P hp).row,P.hd,P.sd⟩;rw [bg,aI];unfold eJ;refine ao (sl':=[some (.ref k),some (.int p)]) (st':=st.set a (.lst (rows.set p (.fz (iL ((SX.row S p).map fun x=>- x)))))) ?_ ?_
 ·simp [R.ins,R.line P hp,i1,bv (show (SX.row S p).length <= 1000 by rw [P.rl hp];omega)]
  rw [jI (F:=fun x=>- x) i2 fun x hx=>⟨_,rfl,rfl,by simp⟩];simp [R.ins,dj R.ha (show p < rows.length by rw [R.len,P.ls];exact hp)]
 ·have:=R1.side P1 hp
  simp [R1.ins,this];rw [oT R1.hu hl];rfl
end
end LW
namespace LW
open PySem PySem.Spec L2 R
open SX (Sh Nz openS)
structure Gv where
 row:List Int
 eq:Bool
 num:Int
def Gv.av (x:Gv):AV:=.tup [.fz (iL x.row),.str (if x.eq then "=" else ">"),.int x.num]
def aR (RR:List (List Int)) (gv:List Gv) (goal:List Int):List (List Int):=RR.map (·++[0])++gv.map (fun x=>x.row++[-x.num])++[goal.map (fun x=>- x)++[0]]
section
variable {w:Nat}{L RR:List (List Int)}{gv:List Gv}{goal:List Int}
abbrev px:List (Str × AV):=[("below",.int 1)]
abbrev Gx:List (Str × AV):=[("below",.int 1),("lines",.ref 2)]
abbrev Gw:List (Str × AV):=[("below",.int 1),("lines",.ref 2),("heads",.ref 3)]
abbrev Gu:List (Str × AV):=[("below",.int 1),("lines",.ref 2),("heads",.ref 3),("sides",.ref 4)]
abbrev Gs:List (Str × AV):=[("below",.int 1),("lines",.ref 2),("heads",.ref 3),("sides",.ref 4),("guarded",.ref 5)]
abbrev Gr:List (Str × AV):=[("below",.int 1),("lines",.ref 2),("heads",.ref 3),("sides",.ref 4),("guarded",.ref 5),("nailed",.ref 6)]
abbrev LD (w:Nat) (L:List (List Int)):aa:=[.lst (aF L),.ins "Sheet" (cE 1 2 3 4 5 6 7),.lst (aF L),.lst (nL (List.range w)),.lst (nL ((List.range L.length).map (w + ·))),.dK [],.dK [],.dK []]
theorem F5 (hw:w <= 100) (hL:L.length <= 400):aD [.ref 1,.int w,.ref 0] [.lst (aF L),.ins "Sheet" []]=some (.non,[.lst (aF L),.ins "Sheet" (cE 1 2 3 4 5 6 7),.lst (aF L),.lst (nL (List.range w)),.lst (nL ((List.range L.length).map (w + ·))),.dK [],.dK [],.dK []]):=by
 have sm:pe (w:Int)=true:=by unfold pe;simp;omega
 have sm2:pe ((w:Int) + (L.length:Int))=true:=by unfold pe;simp;omega
 have l0:∀ X:aa,bq (.lst (aF L)::X) (.ref 0)=some (aF L):=fun X=>bz rfl
 rw [aD,aI];unfold fe;refine ao (st':=[.lst (aF L),.ins "Sheet" px]) (gV (v:=.int 1) (st':=[.lst (aF L),.ins "Sheet" []]) (k:=1) (fs:=[]) rfl rfl rfl rfl) ?_;refine ao (st':=[.lst (aF L),.ins "Sheet" Gx,.lst (aF L)]) (gV (v:=.ref 2) (st':=[.lst (aF L),.ins "Sheet" px,.lst (aF L)]) (k:=1) (fs:=px) ?_ rfl rfl rfl) ?_
 ·have e:=uS (gd:=[(0,.lst (aF L))]) (g:=bU [] (.nm 3)) (t:=j1 [] .no) (f:=ev [] (.nw false (.lof (.v 3)))) (sl:=[some (.ref 1),some (.int w),some (.ref 0),none]) (st:=[.lst (aF L),.ins "Sheet" px]) (em:=fun l=>.fz (iL l)) (F:=fun l=>l) (xs:=L) (fZ rfl) fun l hl=>⟨_,rfl,rfl,by simp [mO]⟩
  rw [List.map_id'] at e;have e':gJ [(0,.lst (aF L))] (bU [] (.nm 3)) (j1 [] .no) (ev [] (.nw false (.lof (.v 3)))) [some (.ref 1),some (.int w),some (.ref 0),none] (aF L) [.lst (aF L),.ins "Sheet" px]=some (aF L,[.lst (aF L),.ins "Sheet" px]):=e;have i0:nR [.lst (aF L),.ins "Sheet" px] (.ref 0)=some ⟨aF L,[(0,.lst (aF L))]⟩:=oU rfl;show ev [] (.nw true (.lc 1 (.e (.v 2)) (.nm 3) .no (.nw false (.lof (.v 3))))) [some (.ref 1),some (.int w),some (.ref 0)] [.lst (aF L),.ins "Sheet" px]=_;simp [-aF,i0,bv (show L.length <= 1000 by omega),e']
 refine ao (st':=[.lst (aF L),.ins "Sheet" Gw,.lst (aF L),.lst (nL (List.range w))]) (gV (v:=.ref 3) (st':=[.lst (aF L),.ins "Sheet" Gx,.lst (aF L),.lst (nL (List.range w))]) (k:=1) (fs:=Gx) ?_ rfl rfl rfl) ?_
 ·simp [uF,sm,nq]
 refine ao (st':=[.lst (aF L),.ins "Sheet" Gu,.lst (aF L),.lst (nL (List.range w)),.lst (nL ((List.range L.length).map (w + ·)))]) (gV (v:=.ref 4) (st':=[.lst (aF L),.ins "Sheet" Gw,.lst (aF L),.lst (nL (List.range w)),.lst (nL ((List.range L.length).map (w + ·)))]) (k:=1) (fs:=Gw) ?_ rfl rfl rfl) ?_
 ·simp [uE,sm,sm2,bQ,eE,l0]
  have e:((w:Int) + (L.length:Int)).toNat - w=L.length:=by omega
  rw [e,G7,yI oM];simp
 refine ao (st':=[.lst (aF L),.ins "Sheet" Gs,.lst (aF L),.lst (nL (List.range w)),.lst (nL ((List.range L.length).map (w + ·))),.dK []]) (gV (v:=.ref 5) (st':=[.lst (aF L),.ins "Sheet" Gu,.lst (aF L),.lst (nL (List.range w)),.lst (nL ((List.range L.length).map (w + ·))),.dK []]) (k:=1) (fs:=Gu) rfl rfl rfl rfl) ?_;refine ao (st':=[.lst (aF L),.ins "Sheet" Gr,.lst (aF L),.lst (nL (List.range w)),.lst (nL ((List.range L.length).map (w + ·))),.dK [],.dK []]) (gV (v:=.ref 6) (st':=[.lst (aF L),.ins "Sheet" Gs,.lst (aF L),.lst (nL (List.range w)),.lst (nL ((List.range L.length).map (w + ·))),.dK [],.dK []]) (k:=1) (fs:=Gs) rfl rfl rfl rfl) ?_;refine ao (st':=[.lst (aF L),.ins "Sheet" (cE 1 2 3 4 5 6 7),.lst (aF L),.lst (nL (List.range w)),.lst (nL ((List.range L.length).map (w + ·))),.dK [],.dK [],.dK []]) (gV (v:=.ref 7) (st':=[.lst (aF L),.ins "Sheet" Gr,.lst (aF L),.lst (nL (List.range w)),.lst (nL ((List.range L.length).map (w + ·))),.dK [],.dK [],.dK []]) (k:=1) (fs:=Gr) rfl rfl rfl rfl) ?_;rfl
theorem Iq {k:Nat} (h1:ev ks a sl st=some (.ref k,st)) (h2:ev ks e sl st=some (y,st)) (h3:st[k]?=some (.lst xs)) (h4:bq st y=some ys) (hl:xs.length + ys.length <= 1000):ev ks (.mt .ext a (.cons e .nil)) sl st=some (.non,st.set k (.lst (xs++ys))):=by
 simp [iz,jY,jX,h1,jU,bz h3,h2,uO,dD,h3,h4,bv hl]
theorem Br {k:Nat} (h1:ev ks a sl st=some (.ref k,st)) (h2:ev ks e sl st=some (y,st)) (h3:st[k]?=some (.lst xs)) (hl:xs.length <= 1000):ev ks (.mt .app a (.cons e .nil)) sl st=some (.non,st.set k (.lst (xs++[y]))):=by
 simp [iz,jY,jX,h1,jU,bz h3,h2,jH,dD,h3,bv hl]
theorem E5 {n:Int} (HR:∀ st,pm aJ [.int n] st=some (.fz (aF RR),st)) (HA:∀ st,pm ag [.int n] st=some (.int w,st)) (hw:w <= 15) (hR:RR.length <= 100) (hr:∀ l ∈ RR,l.length=w) (hg:gv.length <= 100) (hgr:∀ x ∈ gv,x.row.length=w) (hgo:goal.length=w) :
  ∃ st',bB [.int n,.fz (gv.map Gv.av),.fz (iL goal)] []=some (.ref 1,st')/\Rep st' 1 2 3 4 5 6 7 (aF (aR RR gv goal)) (openS w (aR RR gv goal) (w + RR.length)):=by
 have hL:(aR RR gv goal).length=RR.length + gv.length + 1:=by simp [aR];omega
 -- the loop that guards
 have R0:Rep [.lst (aF (aR RR gv goal)),.ins "Sheet" (cE 1 2 3 4 5 6 7),.lst (aF (aR RR gv goal)),.lst (nL (List.range w)),.lst (nL ((List.range (aR RR gv goal).length).map (w + ·))),.dK [],.dK [],.dK []] 1 2 3 4 5 6 7 (aF (aR RR gv goal)) (openS w (aR RR gv goal) 0):=by
  refine ⟨rfl,rfl,rfl,rfl,rfl,rfl,rfl,by simp [openS],fun i x h=>.inl ?_,by decide,by decide,by decide,by decide,by decide,by decide,fun i r h=>?_⟩
  ·unfold aF at h
   rw [zR] at h;obtain ⟨l,h1,rfl⟩:=zE.mp h;show _=AV.fz (iL ((aR RR gv goal).getD i []));rw [zD,h1];rfl
  ·unfold aF at h
   rw [zR] at h;obtain ⟨l,h1,h2⟩:=zE.mp h;cases h2
 obtain ⟨sl',st',e,x,rfl,R'⟩:=dM (gd:=[]) (g:=bU [aJ,ag,aD,aL] (.nm 6)) (s:=ai [aJ,ag,aD,aL] (.cons (.ex (.me "Sheet" "guard" 3 (.v 5) (.cons (.v 6) .nil))) .nil))
  (I:=fun i sl s=>∃ x,sl=[some (.int n),some (.fz (gv.map Gv.av)),some (.fz (iL goal)),some (.ref 0),some (.int ((w:Int) + (RR.length:Int))),some (.ref 1),x]/\Rep s 1 2 3 4 5 6 7 (aF (aR RR gv goal)) (openS w (aR RR gv goal) i)) (xs:=cH 0 (w + RR.length)) (fun _ _ _ _ _=>rfl)
  (fun i y sl s hy hI=>by
   obtain ⟨x,rfl,R⟩:=hI;rw [nq] at hy;have hi:i < w + RR.length:=by have:=(zB.mp hy).1;simpa using this
   have ey:y=.int ((i:Nat):Int):=by
    rw [fW (by simpa using hi)] at hy;injection hy with hy;rw [<- hy];simp [zD,hi]
   subst ey;obtain ⟨s',e1,R1⟩:=tH (q:=i) R (by simp [openS];omega);refine ⟨_,[some (.int n),some (.fz (gv.map Gv.av)),some (.fz (iL goal)),some (.ref 0),some (.int ((w:Int) + (RR.length:Int))),some (.ref 1),some (.int ((i:Nat):Int))],s',rfl,?_,_,rfl,?_⟩
   ·simp [R.ins,e1]
   ·have:ins (List.range i) i=List.range (i + 1):=by unfold ins;rw [yH (by simp),List.range_succ]
    have h2:{ openS w (aR RR gv goal) i with gd:=ins (openS w (aR RR gv goal) i).gd i }=openS w (aR RR gv goal) (i + 1):=by show Sh.mk _ _ _ _ (ins (List.range i) i) _ _=_;rw [this];rfl
    rw [h2] at R1;exact R1) (sl:=[some (.int n),some (.fz (gv.map Gv.av)),some (.fz (iL goal)),some (.ref 0),some (.int ((w:Int) + (RR.length:Int))),some (.ref 1),none]) (st:=_) ⟨none,rfl,R0⟩
 have ll:(cH 0 (w + RR.length)).length=w + RR.length:=by rw [nq];simp
 rw [ll] at R';refine ⟨st',?_,R'⟩;rw [bB,aI];unfold fK;refine ao (sl':=[some (.int n),some (.fz (gv.map Gv.av)),some (.fz (iL goal)),some (.ref 0),none,none,none]) (st':=[.lst (aF (RR.map (·++[0])))]) ?_ ?_
 ·have lc:=uS (gd:=[]) (g:=bU [aJ,ag,aD,aL] (.nm 7)) (t:=j1 [aJ,ag,aD,aL] .no) (f:=ev [aJ,ag,aD,aL] (.nw false (.cat (.v 7) (.nw false (.li (.cons (.i 0) .nil))))))
   (sl:=[some (.int n),some (.fz (gv.map Gv.av)),some (.fz (iL goal)),none,none,none,none,none]) (st:=[]) (em:=fun l=>.fz (iL l)) (F:=fun l=>l++[0]) (xs:=RR) rfl fun l hl=>⟨_,rfl,rfl,by
    rw [mG,jy (l:=l) (l':=[0]) (s1:=[]) (s2:=[]) (y:=.fz (iL [0])) rfl (by simp [cM,iL]) rfl rfl (by rw [hr l hl];simp;omega)];simp⟩
  have lc':gJ [] (bU [aJ,ag,aD,aL] (.nm 7)) (j1 [aJ,ag,aD,aL] .no) (ev [aJ,ag,aD,aL] (.nw false (.cat (.v 7) (.nw false (.li (.cons (.i 0) .nil)))))) [some (.int n),some (.fz (gv.map Gv.av)),some (.fz (iL goal)),none,none,none,none,none] (aF RR) []=some (aF (RR.map (·++[0])),[]):=lc;simp [HR,bv (show RR.length <= 1000 by omega),lc']
 have l0:∀ (x:List AV) (X:aa),bq (.lst x::X) (.ref 0)=some x:=fun x X=>bz rfl
 refine ao (sl':=[some (.int n),some (.fz (gv.map Gv.av)),some (.fz (iL goal)),some (.ref 0),some (.int ((w:Int) + (RR.length:Int))),none,none]) (st':=[.lst (aF (RR.map (·++[0])))]) (by simp [HA,bQ,eE,l0]) ?_;refine ao (sl':=[some (.int n),some (.fz (gv.map Gv.av)),some (.fz (iL goal)),some (.ref 0),some (.int ((w:Int) + (RR.length:Int))),none,none]) (st':=[.lst (aF (RR.map (·++[0]))++aF (gv.map fun x=>x.row++[-x.num]))]) ?_ ?_
 ·rw [oJ,Iq (k:=0) (xs:=aF (RR.map (·++[0]))) (ys:=aF (gv.map fun x=>x.row++[-x.num])) (y:=.fz (aF (gv.map fun x=>x.row++[-x.num]))) rfl ?_ rfl rfl (by simp;omega)]
  ·rfl
  ·have lc:=uS (gd:=[]) (g:=bU [aJ,ag,aD,aL] (.tu 3 (.cons (.nm 7) (.cons (.nm 8) (.cons (.nm 9) .nil))))) (t:=j1 [aJ,ag,aD,aL] .no) (f:=ev [aJ,ag,aD,aL] (.nw false (.cat (.nw false (.lof (.v 7))) (.nw false (.li (.cons (.un .USub (.v 9)) .nil))))))
    (sl:=[some (.int n),some (.fz (gv.map Gv.av)),some (.fz (iL goal)),some (.ref 0),some (.int ((w:Int) + (RR.length:Int))),none,none,none,none,none]) (st:=[.lst (aF (RR.map (·++[0])))]) (em:=Gv.av) (F:=fun x=>x.row++[-x.num]) (xs:=gv) rfl fun x hx=>⟨_,rfl,rfl,by
     rw [mG,jy (l:=x.row) (l':=[-x.num]) (s1:=[.lst (aF (RR.map (·++[0])))]) (s2:=[.lst (aF (RR.map (·++[0])))]) (x:=.fz (iL x.row)) (y:=.fz (iL [-x.num])) (by simp [mO]) (by simp [cM,iL]) rfl rfl (by rw [hgr x hx];simp;omega)];simp⟩
   simp [bv (show gv.length <= 1000 by omega),lc]
 refine ao (sl':=[some (.int n),some (.fz (gv.map Gv.av)),some (.fz (iL goal)),some (.ref 0),some (.int ((w:Int) + (RR.length:Int))),none,none]) (st':=[.lst (aF (aR RR gv goal))]) ?_ ?_
 ·rw [oJ,Br (k:=0) (xs:=aF (RR.map (·++[0]))++aF (gv.map fun x=>x.row++[-x.num])) (y:=.fz (iL (goal.map (fun x=>- x)++[0]))) rfl ?_ rfl (by simp;omega)]
  ·rw [bind_some]
   have:aF (RR.map (·++[0]))++aF (gv.map fun x=>x.row++[-x.num])++[AV.fz (iL (goal.map (fun x=>- x)++[0]))]=aF (aR RR gv goal):=by
    simp [aR,aF]
   show some (Out.nx _ [.lst (_++[_])])=_;rw [this]
  ·rw [mG,jy (l:=goal.map fun x=>- x) (l':=[0]) (s1:=[.lst (aF (RR.map (·++[0]))++aF (gv.map fun x=>x.row++[-x.num]))]) (s2:=[.lst (aF (RR.map (·++[0]))++aF (gv.map fun x=>x.row++[-x.num]))]) (x:=.fz (iL (goal.map fun x=>- x))) (y:=.fz (iL [0])) ?_ (by simp [cM,iL]) rfl rfl (by simp [hgo];omega)]
   ·simp
   ·simp [bv (show goal.length <= 1000 by omega)]
    rw [jI (F:=fun x=>- x) dL fun x hx=>⟨_,rfl,rfl,by simp⟩];simp
 refine ao (sl':=[some (.int n),some (.fz (gv.map Gv.av)),some (.fz (iL goal)),some (.ref 0),some (.int ((w:Int) + (RR.length:Int))),some (.ref 1),none]) (st':=LD w (aR RR gv goal)) ?_ ?_
 ·have:=F5 (w:=w) (L:=aR RR gv goal) oM oM
  simp [xj,HA,this]
 ·refine ao (sl':=[some (.int n),some (.fz (gv.map Gv.av)),some (.fz (iL goal)),some (.ref 0),some (.int ((w:Int) + (RR.length:Int))),some (.ref 1),x]) (st':=st') ?_ (by simp)
  have rb:eV ((w:Int) + (RR.length:Int))=true:=by
   unfold eV;refine yL ?_;have:((w:Int) + (RR.length:Int)).natAbs=w + RR.length:=by omega
   rw [this];by_cases h0:w + RR.length=0
   ·rw [h0];decide
   ·exact yW ((Nat.log2_lt h0).mpr oM)
  simp [wM,rb];rw [show ((w:Int) + (RR.length:Int)).toNat=w + RR.length by omega];exact e
end
end LW
namespace LW
open PySem PySem.Spec L2 R
open SX (gI)
noncomputable def gL (l:List Int):Nat:=l.foldl (fun g x=>Nat.gcd g x.natAbs) 0
def aT (l:List Int):List Int:=if gL l=0 then l else l.map fun x=>x / (gL l:Int)
theorem Aa {d o:Nat}:Nat.gcd o (d % o)=Nat.gcd d o:=by rw [Nat.gcd_comm,<- Nat.gcd_rec,Nat.gcd_comm]
theorem LV:∀ (o d:Nat) (y:Option AV),∃ y',cN [] (.wh (.cmp .NotEq (.v 3) (.i 0)) (.cons (.as (.bin .Mod (.v 1) (.v 3)) (.nm 4)) (.cons (.as (.v 3) (.nm 1)) (.cons (.as (.v 4) (.nm 3)) .nil)))) [l,some (.int d),x,some (.int o),y] st=some (.nx [l,some (.int (Nat.gcd d o:Nat)),x,some (.int 0),y'] st):=by
 intro o
 induction o using Nat.strongRecOn with
 | _ o ih =>
  intro d y;by_cases h:o=0
  ·subst h
   refine ⟨y,?_⟩;rw [Nat.gcd_zero_right];exact nj (n:=1) (oE (by simp))
  ·obtain ⟨y',e⟩:=ih (d % o) (Nat.mod_lt _ oM) o (some (.int ((d % o:Nat):Int)))
   obtain ⟨n,e'⟩:=wj e;refine ⟨y',?_⟩;rw [Aa] at e';refine nj (n:=n + 1) (oF (st':=st) (by simp;omega) ?_ e');have h0:(o:Int) ≠ 0:=by omega
   have hm:k9 (d:Int) (o:Int)=((d % o:Nat):Int):=by unfold k9;rw [yI oM];simp
   simp [eO h0,hm]
theorem wS:gL (a++b)=b.foldl (fun g x=>Nat.gcd g x.natAbs) (gL a):=by unfold gL;rw [List.foldl_append]
theorem rh:∀ b:List Int,b.foldl (fun g x=>Nat.gcd g x.natAbs) 1=1
 | []=>rfl
 | x::b=>by rw [List.foldl_cons,Nat.gcd_one_left];exact rh b
theorem K9:∃ r,bS [.fz (iL l)] st=some (r,st)/\r=.int (gL l:Int):=by
 have hl:=oX (gd:=[]) (g:=bU [] (.nm 2)) (s:=ai [] (.cons (.as (.bi .abs (.cons (.v 2) .nil)) (.nm 3)) (.cons (.wh (.cmp .NotEq (.v 3) (.i 0)) (.cons (.as (.bin .Mod (.v 1) (.v 3)) (.nm 4)) (.cons (.as (.v 3) (.nm 1)) (.cons (.as (.v 4) (.nm 3)) .nil)))) (.cons (.iff (.cmp .Eq (.v 1) (.i 1)) (.cons (.rt (.i 1)) .nil) .nil) .nil))))
  (I:=fun i sl s=>s=st/\∃ x y z,sl=[some (.fz (iL l)),some (.int (gL (l.take i):Nat)),x,y,z]) (Post:=fun v s=>s=st/\v=.int (gL l:Nat)) (xs:=iL l) (fun _ _ _ _ _=>rfl)
  (fun i x sl s hx hI=>by
   obtain ⟨rfl,x1,x2,x3,rfl⟩:=hI;have hi:i < l.length:=by have:=(zB.mp hx).1;simpa using this
   rw [b9 hi] at hx;injection hx with hx;subst hx;have ht:l.take (i + 1)=l.take i++[gI l i]:=by
    rw [List.take_succ,zF hi];unfold gI;rw [zD,zF hi];rfl
   have hg:gL (l.take (i + 1))=Nat.gcd (gL (l.take i)) (gI l i).natAbs:=by rw [ht,wS];rfl
   obtain ⟨y',e⟩:=LV (l:=some (.fz (iL l))) (x:=some (.int (gI l i))) (st:=s) (gI l i).natAbs (gL (l.take i)) x3;rw [<- hg] at e;have ea:rY s [.int (gI l i)]=some (.int ((gI l i).natAbs:Nat)):=by
    show some (AV.int (if gI l i < 0 then - gI l i else gI l i))=_;congr 2;split <;> omega
   have st1:cN [] (.as (.bi .abs (.cons (.v 2) .nil)) (.nm 3)) [some (.fz (iL l)),some (.int (gL (l.take i):Nat)),some (.int (gI l i)),x2,x3] s=some (.nx [some (.fz (iL l)),some (.int (gL (l.take i):Nat)),some (.int (gI l i)),some (.int ((gI l i).natAbs:Nat)),x3] s):=by
    simp [bQ,ea]
   by_cases h1:gL (l.take (i + 1))=1
   ·refine ⟨_,.rt (.int 1) s,rfl,ay st1 (ay e ?_),.inr ⟨_,s,rfl,rfl,?_⟩⟩
    ·simp [h1]
    ·have:gL l=1:=by
      have:l=l.take (i + 1)++l.drop (i + 1):=(List.take_append_drop _ _).symm;rw [this,wS,h1,rh]
     rw [this];rfl
   ·refine ⟨_,.nx [some (.fz (iL l)),some (.int (gL (l.take (i + 1)):Nat)),some (.int (gI l i)),some (.int 0),y'] s,rfl,ay st1 (ay e ?_),.inl ⟨_,s,rfl,rfl,_,_,_,rfl⟩⟩
    have:¬ ((gL (l.take (i + 1)):Nat):Int)=1:=by omega
    simp [this]) (sl:=[some (.fz (iL l)),some (.int 0),none,none,none]) (st:=st) ⟨rfl,none,none,none,rfl⟩
 rcases hl with ⟨sl',st',e,rfl,x,y,z,rfl⟩ | ⟨v,st',e,rfl,rfl⟩
 ·refine ⟨_,?_,rfl⟩
  rw [ic,List.take_length] at e;simp [bS,aI,dE,e]
 ·refine ⟨_,?_,rfl⟩
  simp [bS,aI,dE,e]
theorem Gc:∀ x ∈ l,gL l ∣ x.natAbs:=by
 have go:∀ (b:List Int) (g:Nat),(b.foldl (fun g x=>Nat.gcd g x.natAbs) g) ∣ g/\∀ x ∈ b,(b.foldl (fun g x=>Nat.gcd g x.natAbs) g) ∣ x.natAbs:=fun b=>by
  induction b with
  | nil=>intro g;exact ⟨Nat.dvd_refl g,fun x hx=>by cases hx⟩
  | cons y b ih =>
   intro g;obtain ⟨h1,h2⟩:=ih (Nat.gcd g y.natAbs);refine ⟨Nat.dvd_trans h1 (Nat.gcd_dvd_left _ _),fun x hx=>?_⟩;rcases zT.mp hx with rfl | hx
   ·exact Nat.dvd_trans h1 (Nat.gcd_dvd_right _ _)
   ·exact h2 x hx
 exact (go l 0).2
theorem Ij {B:Nat} (hB:0 < B) (h:∀ x ∈ l,x.natAbs < B):gL l < B:=by
 by_cases hz:∃ x ∈ l,x ≠ 0
 ·obtain ⟨x,hx,h0⟩:=hz
  exact yM (Nat.le_of_dvd oM (Gc x hx)) (h x hx)
 ·have:∀ (b:List Int),(∀ x ∈ b,x=0)->b.foldl (fun g x=>Nat.gcd g x.natAbs) 0=0:=fun b=>by
   induction b with
   | nil=>intro _;rfl
   | cons y b ih=>intro hb;rw [List.foldl_cons,hb y z7];exact ih fun x hx=>hb x (zQ _ hx)
  have e:gL l=0:=this l fun x hx=>Classical.byContradiction fun z=>hz ⟨x,hx,z⟩
  omega
theorem pV (hl:l.length <= 1000) (hb:∀ x ∈ l,x.natAbs < 2 ^ 9000):ak [.fz (iL l)] []=some (.fz (iL (aT l)),[]):=by
 obtain ⟨r,e,rfl⟩:=K9 (l:=l) (st:=[]);have ep:∀ st,pm bS [.fz (iL l)] st=some (.int (gL l:Int),st):=fun st=>cV rfl e rfl
 unfold aT;by_cases h:gL l=0
 ·rw [yI h]
  simp [ak,aI,db,ep,h,mO]
 ·rw [yH h]
  have h':¬ ((gL l:Nat):Int)=0:=by omega
  have dv:i8 ((gL l:Nat):Int)=true:=wX h' (by rw [Int.natAbs_natCast];exact Ij (Nat.two_pow_pos _) hb);simp [ak,aI,db,ep,h,bv hl];rw [jI (F:=fun x=>x / (gL l:Int)) dL fun x hx=>⟨_,rfl,rfl,by
   simp [lX dv];unfold tL;rw [yI oM]⟩]
  simp
theorem qO (hl:l.length <= 1000) (hb:∀ x ∈ l,x.natAbs < 2 ^ 9000):pm ak [.fz (iL l)] st=some (.fz (iL (aT l)),st):=cV rfl (pV hl hb) rfl
theorem mP:(aT l).length=l.length:=by unfold aT;split <;> simp
theorem Gn {a b:Int} (ha:a.natAbs < 2 ^ 9000) (hb:b.natAbs < 2 ^ 9000):pm cb [.int a,.int b] st=some (.tup [.int (gI (aT [a,b]) 0),.int (gI (aT [a,b]) 1)],st):=by
 have e:=qO (l:=[a,b]) (st:=[]) (by simp) (fun x hx=>by simp at hx;rcases hx with rfl | rfl <;> assumption);have h2:(aT [a,b]).length=2:=mP;have x0:cU [] (.fz (iL (aT [a,b]))) (.int 0)=some (.int (gI (aT [a,b]) 0)):=by
  have:=cT (st:=[]) (x:=.fz (iL (aT [a,b]))) (i:=((0:Nat):Int)) iD;rw [cG,b9 oM] at this;exact this
 have x1:cU [] (.fz (iL (aT [a,b]))) (.int 1)=some (.int (gI (aT [a,b]) 1)):=by
  have:=cT (st:=[]) (x:=.fz (iL (aT [a,b]))) (i:=((1:Nat):Int)) iD;rw [cG,b9 oM] at this;exact this
 refine cV rfl (v:=.tup [.int (gI (aT [a,b]) 0),.int (gI (aT [a,b]) 1)]) (st':=[]) ?_ rfl;have e':pm ak [.fz [.int a,.int b]] []=some (.fz (iL (aT [a,b])),[]):=e;simp [cb,aI,eI,cM,e',x0,x1]
end LW
namespace LW
open PySem PySem.Spec L2 R
open SX (Sh Nz gI)
structure GX (S:Sh) (w cc k:Nat) (X:List Int):Prop where
 len:X.length=w
 at_:∀ i,i < k->S.s i < w->gI X (S.s i)=S.t i cc
 no:∀ q,q < w->(∀ i,i < k->S.s i ≠ q)->gI X q=0
section
variable {st:aa}{k a b c g n u w m:Nat}{rows:List AV}{S:Sh}{v:Nat->Nat->Int}{nn:Int}
theorem AM {j:Nat} (h:ev ks e sl st=some (.int (j:Int),st)) (hj:j <= 1000):gq ks (.rep (.cons (.i 0) .nil) e) sl st=some (iL (List.replicate j 0),st):=by
 rw [HE];unfold uD;have h1:aS ks (.cons (.i 0) .nil) sl st=some ([.int 0],st):=rfl;rw [h1,bind_some];dsimp only;rw [h,bind_some];dsimp only;have rb:eV (j:Int)=true:=by
  unfold eV;refine yL ?_;rw [Int.natAbs_natCast];by_cases h0:j=0
  ·rw [h0];decide
  ·exact yW ((Nat.log2_lt h0).mpr (yM hj dC))
 rw [rb,bv (n:=[AV.int 0].length * ((j:Int)).toNat) (by simp;omega),bv (n:=[AV.int 0].length) (by simp)];show some _=some _;congr 2;show (List.replicate j [AV.int 0]).flatten=iL (List.replicate j 0);unfold iL
 induction j with
 | zero=>rfl
 | succ j ih=>rw [List.replicate_succ,List.flatten_cons,List.replicate_succ,zO];simp
theorem wT {j q:Nat}:gI (List.replicate j 0) q=0:=by
 unfold gI;rw [zD,List.getElem?_replicate];split <;> rfl
theorem Bc (R:Rep st k a b c g n u rows S) (P:Nz w m S) (Q:SX.Pm w m S.h S.s) (HA:∀ st,pm ag [.int nn] st=some (.int w,st)) (hw:w <= 100) (hm:m <= 1000) {cI:Int}{cc:Nat}
  (hx:∀ {s:aa}{a:Nat}{rows:List AV},Rep s k a b c g n u rows S->∀ i,i < m->cU s (kK rows i) (.int cI)=some (.int (S.t i cc))) :
  ∃ X,bT [.int nn,.ref k,.int cI] st=some (.ref st.length,st++[.lst (iL X)])/\GX S w cc m X:=by
 have sl:S.sd.length=m:=P.sd;obtain ⟨sl',st',e,X,x1,x2,rfl,rfl,hX⟩:=dM (gd:=[(c,.lst (nL S.sd))]) (g:=bU [ag] (.tu 2 (.cons (.nm 4) (.cons (.nm 5) .nil)))) (s:=ai [ag] (.cons (.iff (.cmp .Lt (.v 5) (.bi .len (.cons (.v 3) .nil))) (.cons (.as (.ix (.ix (.fd "Sheet" "lines" (.v 1)) (.v 4)) (.v 2)) (.su (.v 3) (.v 5))) .nil) .nil) .nil))
  (I:=fun i sl s=>∃ X x1 x2,s=st++[.lst (iL X)]/\sl=[some (.int nn),some (.ref k),some (.int cI),some (.ref st.length),x1,x2]/\GX S w cc i X) (xs:=eA 0 (nL S.sd)) (fun i sl s _ hI=>by obtain ⟨X,_,_,rfl,_⟩:=hI;exact fZ (R.app (ys:=[_])).hc)
  (fun i y sl s hy hI=>by
   obtain ⟨X,x1,x2,rfl,rfl,hX⟩:=hI;obtain ⟨x,hx',rfl⟩:=oh hy;have hi:i < m:=by have:=(zB.mp hx').1;simpa [sl] using this
   have hs0:(nL S.sd)[i]?=some (.int ((S.s i:Nat):Int)):=fW oM;rw [hs0] at hx';injection hx' with hx';subst hx';have Ra:=R.app (ys:=[Nq.lst (iL X)]);have ll:bq (st++[Nq.lst (iL X)]) (.ref st.length)=some (iL X):=bz gl;by_cases h:S.s i < w
   ·refine ⟨_,[some (.int nn),some (.ref k),some (.int cI),some (.ref st.length),some (.int i),some (.int (S.s i:Int))],st++[.lst (iL (X.set (S.s i) (S.t i cc)))],rfl,?_,X.set (S.s i) (S.t i cc),_,_,rfl,rfl,?_⟩
    ·have hs:=dj (x:=.int (S.t i cc)) (gl (st:=st) (e:=Nq.lst (iL X))) (show S.s i < (iL X).length by simp [hX.len,h])
     rw [fE,dU] at hs;have lt':S.s i < X.length:=by rw [hX.len];exact h
     simp [bQ,eE,ll,lt',Ra.ins,Ra.line P hi,hx Ra i hi,hs]
    ·refine ⟨by simp [hX.len],fun j hj hs=>?_,fun q hq hn=>?_⟩
     ·by_cases e:j=i
      ·subst e;rw [SX.gI_set_at (by rw [hX.len];exact h)]
      ·rw [SX.gI_set_ne (fun z=>e (Q.si j i oM hi z))];exact hX.at_ j oM hs
     ·rw [SX.gI_set_ne (fun z=>hn i oM z.symm)];exact hX.no q hq fun j hj=>hn j oM
   ·refine ⟨_,[some (.int nn),some (.ref k),some (.int cI),some (.ref st.length),some (.int i),some (.int (S.s i:Int))],st++[.lst (iL X)],rfl,?_,X,_,_,rfl,rfl,?_⟩
    ·have lt':¬ S.s i < X.length:=by rw [hX.len];exact h
     simp [bQ,eE,ll,lt']
    ·refine ⟨hX.len,fun j hj hs=>?_,fun q hq hn=>hX.no q hq fun j hj=>hn j oM⟩
     by_cases e:j=i
     ·subst e;exact absurd hs h
     ·exact hX.at_ j oM hs) (sl:=[some (.int nn),some (.ref k),some (.int cI),some (.ref st.length),none,none]) (st:=st++[.lst (iL (List.replicate w 0))]) ⟨_,none,none,rfl,rfl,by simp,fun i hi=>by omega,fun q _ _=>wT⟩
 rw [lU,jm,sl] at hX;refine ⟨X,?_,hX⟩;rw [bT,aI];unfold dY;refine ao (sl':=[some (.int nn),some (.ref k),some (.int cI),some (.ref st.length),none,none]) (st':=st++[.lst (iL (List.replicate w 0))]) ?_ ?_
 ·rw [oK,xB,AM (j:=w) (by simp [HA]) oM];rfl
 refine ao (sl':=[some (.int nn),some (.ref k),some (.int cI),some (.ref st.length),x1,x2]) (st':=st++[.lst (iL X)]) ?_ (by simp);have Ra:=R.app (ys:=[Nq.lst (iL (List.replicate w 0))]);simp [Ra.ins,jn Ra.hc];exact e
theorem tE {n:Nat}:(iL l).take n=iL (l.take n):=by unfold iL;rw [List.map_take]
theorem tF {n:Nat}:(iL l).drop n=iL (l.drop n):=by unfold iL;rw [List.map_drop]
theorem rD {n:Nat} (hl:l.length=n + 1):cut (iL l) none (some (-1))=iL (l.take n):=by
 unfold cut;rw [ic,hl,HT.sIx_none,List.drop_zero];have:HT.NC (n + 1) (n + 1) (some (-1))=n:=by
  show (if (-1:Int) < 0 then ((-1:Int) + ((n + 1:Nat):Int)).toNat else min (-1:Int).toNat (n + 1))=n;rw [yI dC];omega
 rw [this,Nat.sub_zero,tE]
theorem Di {w m:Nat} (hl:l.length=w + (m + 1)):cut (iL l) (some (w:Int)) (some (-1))=iL ((l.drop w).take m):=by
 unfold cut;rw [ic,hl,HT.sIx_nat];have:HT.NC (w + (m + 1)) (w + (m + 1)) (some (-1))=w + m:=by
  show (if (-1:Int) < 0 then ((-1:Int) + ((w + (m + 1):Nat):Int)).toNat else min (-1:Int).toNat (w + (m + 1)))=w + m;rw [yI dC];omega
 rw [this,Nat.min_eq_left oM,tF,tE,show w + m - w=m by omega]
theorem FI {d:Int} (hl:X.length <= 100) (hb:∀ x ∈ X,x.natAbs < 2 ^ 9000) (hd:d.natAbs < 2 ^ 9000):cO [.fz (iL X),.int d] []=some (.tup [.fz (iL ((aT (X++[d])).take X.length)),.int (gI (aT (X++[d])) X.length)],[]):=by
 have ll:(aT (X++[d])).length=X.length + 1:=by rw [mP];simp
 have e:=qO (l:=X++[d]) (st:=[]) (by simp;omega) fun x hx=>by
  rcases zZ.mp hx with h | h
  ·exact hb x h
  ·rw [zM.mp h];exact hd
 have xl:cU [] (.fz (iL (aT (X++[d])))) (.int (-1))=some (.int (gI (aT (X++[d])) X.length)):=by
  rw [cT iD,o4 (n:=X.length) (by simp [ll]),b9 oM]
 rw [cO,aI];unfold f7;refine ao (sl':=[some (.fz (iL X)),some (.int d),some (.fz (iL (aT (X++[d]))))]) (st':=[]) ?_ ?_
 ·have c:=jy (ks:=[ak]) (a:=.v 0) (b:=.nw false (.li (.cons (.v 1) .nil))) (sl:=[some (.fz (iL X)),some (.int d),none]) (st:=[]) (s1:=[]) (s2:=[]) (x:=.fz (iL X)) (y:=.fz (iL [d])) (l:=X) (l':=[d]) rfl (by simp [cM,iL]) rfl rfl (by simp;omega)
  simp [-uB,c,e]
 ·simp [pj,pi,rD ll,xl]
theorem AC (R:Rep st k a b c g n u rows S) (P:Nz w m S) (Q:SX.Pm w m S.h S.s) (B:Bd w m S) (HA:∀ st,pm ag [.int nn] st=some (.int w,st)) (hw:w <= 100) (hm:m <= 1000) :
  ∃ X T st1,aW [.int nn,.ref k] st=some (.tup [.fz (iL T),.int (gI (aT (X++[S.d])) w)],st1)/\T=(aT (X++[S.d])).take w/\GX S w w m X/\Rep st1 k a b c g n u rows S:=by
 obtain ⟨X,e,hX⟩:=Bc (cI:=-1) (cc:=w) R P Q HA hw hm fun R' i hi=>R'.last P hi
 have hb:∀ x ∈ X,x.natAbs < 2 ^ 9000:=fun x hx=>by
  obtain ⟨q,hq⟩:=z9 hx;have hl:=(zB.mp hq).1;rw [hX.len] at hl;have eg:gI X q=x:=by unfold gI;rw [zD,hq];rfl
  by_cases h:∃ i,i < m/\S.s i=q
  ·obtain ⟨i,hi,rfl⟩:=h
   rw [<- eg,hX.at_ i hi hl];exact B.2 i hi w oM
  ·rw [<- eg,hX.no q hl fun i hi z=>h ⟨i,hi,z⟩];exact Nat.two_pow_pos _
 obtain ⟨st1,e1,h1⟩:=kP (fn:=cO) (rest:=[.int S.d]) (x:=.ref st.length) (l:=X) (.inr ⟨_,rfl,.inl (gl (st:=st) (e:=.lst (iL X)))⟩) rfl rfl (fun s=>by simp [iH,gK]) (FI (by rw [hX.len];omega) hb B.1) rfl (by simp [cL,n9]);refine ⟨X,_,st1,?_,rfl,hX,?_⟩
 ·have Ra:=R.app (ys:=[Nq.lst (iL X)])
  rw [hX.len] at e1;simp [aW,aI,eY,e,Ra.ins,e1]
 ·rcases h1 with rfl | ⟨r,hr,_,rfl⟩
  ·exact R.app
  ·cases hr;rw [dU];exact R.app
theorem GT (R:Rep st k a b c g n u rows S) (P:Nz w m S) (Q:SX.Pm w m S.h S.s) (B:Bd w m S) (HA:∀ st,pm ag [.int nn] st=some (.int w,st)) (hw:w <= 100) (hm:m <= 1000) {q:Nat} (hq:q < w) :
  ∃ X st1,bV [.int nn,.ref k,.int q] st=some (.fz (iL (aT (if S.h q < w then X.set (S.h q) S.d else X))),st1)/\GX S w q m X:=by
 obtain ⟨X,e,hX⟩:=Bc (cI:=q) (cc:=q) R P Q HA hw hm fun R' i hi=>R'.cell P hi oM
 have hb:∀ x ∈ X,x.natAbs < 2 ^ 9000:=fun x hx=>by
  obtain ⟨j,hj⟩:=z9 hx;have hl:=(zB.mp hj).1;rw [hX.len] at hl;have eg:gI X j=x:=by unfold gI;rw [zD,hj];rfl
  by_cases h:∃ i,i < m/\S.s i=j
  ·obtain ⟨i,hi,rfl⟩:=h
   rw [<- eg,hX.at_ i hi hl];exact B.2 i hi q oM
  ·rw [<- eg,hX.no j hl fun i hi z=>h ⟨i,hi,z⟩];exact Nat.two_pow_pos _
 have Ra:=R.app (ys:=[Nq.lst (iL X)]);have ll:bq (st++[Nq.lst (iL X)]) (.ref st.length)=some (iL X):=bz gl;by_cases h:S.h q < w
 ·have hb2:∀ x ∈ X.set (S.h q) S.d,x.natAbs < 2 ^ 9000:=fun x hx=>by
   rcases List.mem_or_eq_of_mem_set hx with h | h
   ·exact hb x h
   ·rw [h];exact B.1
  obtain ⟨st1,e1,h1⟩:=kP (fn:=ak) (rest:=[]) (st:=st++[.lst (iL (X.set (S.h q) S.d))]) (x:=.ref st.length) (l:=X.set (S.h q) S.d) (.inr ⟨_,rfl,.inl gl⟩) rfl rfl (fun s=>rfl) (pV (by simp [hX.len];omega) hb2) rfl (by simp [cL]);refine ⟨X,st1,?_,hX⟩;rw [yI h];have hs:=dj (x:=.int S.d) (gl (st:=st) (e:=Nq.lst (iL X))) (show S.h q < (iL X).length by simp [hX.len,h]);rw [fE,dU] at hs;have lt':S.h q < X.length:=by rw [hX.len];exact h
  simp [bV,aI,gh,e,Ra.ins,Ra.head P hq,bQ,eE,ll,lt',hs,e1]
 ·obtain ⟨st1,e1,h1⟩:=kP (fn:=ak) (rest:=[]) (st:=st++[.lst (iL X)]) (x:=.ref st.length) (l:=X) (.inr ⟨_,rfl,.inl gl⟩) rfl rfl (fun s=>rfl) (pV (by simp [hX.len];omega) hb) rfl (by simp [cL])
  refine ⟨X,st1,?_,hX⟩;rw [yH h];have lt':¬ S.h q < X.length:=by rw [hX.len];exact h
  simp [bV,aI,gh,e,Ra.ins,Ra.head P hq,bQ,eE,ll,lt',e1]
end
end LW
namespace LW
open PySem PySem.Spec L2 R
open SX (Sh Nz gI NK)
structure TK (S:Sh) (w m p:Nat) (T:List Int):Prop where
 len:T.length=w + m
 hd:∀ j,j < w->gI T (S.h j)=if S.h j ∈ S.tn then S.t p j else - S.t p j
 sd:gI T (S.s p)=if S.s p ∈ S.tn then - S.d else S.d
 no:∀ q,q < w + m->(∀ j,j < w->S.h j ≠ q)->q ≠ S.s p->gI T q=0
def wt (T:List Int) (HO:Nat->List Int) (w j k:Nat):Int:=gI T (w + k) + NK j fun x=>gI T x * gI (HO (x + 1)) k
section
variable {st:aa}{k a b c g n u w m p:Nat}{rows:List AV}{S:Sh}{nn:Int}{HO:Nat->List Int}
abbrev KW:List Fn:=[ag,bX,c8]
theorem qZ {q x:Nat}{y:Int} (h:q < T.length):gI (T.set q y) x=if x=q then y else gI T x:=by
 by_cases e:x=q
 ·subst e;rw [yI rfl,SX.gI_set_at h]
 ·rw [yH e,SX.gI_set_ne e]
theorem BS (R:Rep st k a b c g n u rows S) (P:Nz w m S) (Q:SX.Pm w m S.h S.s) (hp:p < m) (nt:S.tn.Nodup) (ht:∀ q ∈ S.tn,q < w + m) (hw:w <= 100) (hm:m <= 800) {ss:Nw}{r:AV × aa->Prop}
  (h:∀ T x1 x2,TK S w m p T->∃ z,(ai KW ss [some (.int nn),some (.ref k),some (.int p),some (.ref st.length),x1,x2,none,none,none,none,none] (st++[Nq.lst (iL T)])).bind aH=some z/\r z) :
  ∃ z,(ai KW (.cons (.as (.nw true (.rep (.cons (.i 0) .nil) (.bin .Add (.bi .len (.cons (.fd "Sheet" "heads" (.v 1)) .nil)) (.bi .len (.cons (.fd "Sheet" "sides" (.v 1)) .nil))))) (.nm 3))
   (.cons (.fo (.en (.fd "Sheet" "heads" (.v 1))) (.tu 2 (.cons (.nm 4) (.cons (.nm 5) .nil))) (.cons (.as (.un .USub (.ix (.ix (.fd "Sheet" "lines" (.v 1)) (.v 2)) (.v 4))) (.su (.v 3) (.v 5))) .nil))
   (.cons (.as (.fd "Sheet" "below" (.v 1)) (.su (.v 3) (.ix (.fd "Sheet" "sides" (.v 1)) (.v 2))))
   (.cons (.fd (.fd "Sheet" "turned" (.v 1)) (.nm 5) (.cons (.as (.un .USub (.ix (.v 3) (.v 5))) (.su (.v 3) (.v 5))) .nil)) ss)))) [some (.int nn),some (.ref k),some (.int p),none,none,none,none,none,none,none,none] st).bind aH=some z/\r z:=by
 have lh:bq st (.ref b)=some (nL S.hd):=bz R.hb;have lsd:bq st (.ref c)=some (nL S.sd):=bz R.hc;refine aK (sl':=[some (.int nn),some (.ref k),some (.int p),some (.ref st.length),none,none,none,none,none,none,none]) (st':=st++[Nq.lst (iL (List.replicate (w + m) 0))]) ?_ ?_
 ·rw [oK,xB,AM (j:=w + m) ?_ oM]
  ·rfl
  ·simp [R.ins,bQ,eE,lh,lsd,P.hd,P.sd]
 -- the heads
 obtain ⟨sl',st',e,T,x1,x2,rfl,rfl,hl,h1,h2⟩:=dM (gd:=[(b,.lst (nL S.hd))]) (g:=bU KW (.tu 2 (.cons (.nm 4) (.cons (.nm 5) .nil)))) (s:=ai KW (.cons (.as (.un .USub (.ix (.ix (.fd "Sheet" "lines" (.v 1)) (.v 2)) (.v 4))) (.su (.v 3) (.v 5))) .nil))
  (I:=fun i sl s=>∃ T x1 x2,s=st++[Nq.lst (iL T)]/\sl=[some (.int nn),some (.ref k),some (.int p),some (.ref st.length),x1,x2,none,none,none,none,none]/\T.length=w + m/\(∀ j,j < i->gI T (S.h j)=- S.t p j)/\∀ q,(∀ j,j < i->S.h j ≠ q)->gI T q=0) (xs:=eA 0 (nL S.hd)) (fun i sl s _ hI=>by obtain ⟨X,_,_,rfl,_⟩:=hI;exact fZ (R.app (ys:=[_])).hb)
  (fun i y sl s hy hI=>by
   obtain ⟨T,x1,x2,rfl,rfl,hl,h1,h2⟩:=hI;obtain ⟨x,hx',rfl⟩:=oh hy;have hi:i < w:=by have:=(zB.mp hx').1;simpa [P.hd] using this
   have hs0:(nL S.hd)[i]?=some (.int ((S.h i:Nat):Int)):=fW (by rw [P.hd];exact hi);rw [hs0] at hx';injection hx' with hx';subst hx';have Ra:=R.app (ys:=[Nq.lst (iL T)]);have hb:=Q.hl i hi;have hs:=dj (x:=.int (- S.t p i)) (gl (st:=st) (e:=Nq.lst (iL T))) (show S.h i < (iL T).length by simp [hl,hb]);rw [fE,dU] at hs;refine ⟨_,[some (.int nn),some (.ref k),some (.int p),some (.ref st.length),some (.int i),some (.int (S.h i:Int)),none,none,none,none,none],st++[Nq.lst (iL (T.set (S.h i) (- S.t p i)))],rfl,?_,T.set (S.h i) (- S.t p i),_,_,rfl,rfl,by simp [hl],fun j hj=>?_,fun q hq=>?_⟩
   ·simp [Ra.ins,Ra.line P hp,Ra.cell P hp (show i < w + 1 by omega),hs]
   ·rw [qZ (by rw [hl];exact hb)]
    by_cases e:j=i
    ·subst e;rw [yI rfl]
    ·rw [yH fun z=>e (Q.hi j i oM hi z)];exact h1 j oM
   ·rw [qZ (by rw [hl];exact hb),yH fun z=>hq i oM z.symm];exact h2 q fun j hj=>hq j oM) (sl:=[some (.int nn),some (.ref k),some (.int p),some (.ref st.length),none,none,none,none,none,none,none]) (st:=st++[Nq.lst (iL (List.replicate (w + m) 0))]) ⟨_,none,none,rfl,rfl,by simp,fun j hj=>by omega,fun q _=>wT⟩
 rw [lU,jm,P.hd] at h1 h2;refine aK (sl':=[some (.int nn),some (.ref k),some (.int p),some (.ref st.length),x1,x2,none,none,none,none,none]) (st':=st++[Nq.lst (iL T)]) ?_ ?_
 ·have Ra:=R.app (ys:=[Nq.lst (iL (List.replicate (w + m) 0))])
  simp [Ra.ins,jn Ra.hb];exact e
 have Ra:=R.app (ys:=[Nq.lst (iL T)]);have sb:=Q.sl p hp;have hs:=dj (x:=.int S.d) (gl (st:=st) (e:=Nq.lst (iL T))) (show S.s p < (iL T).length by simp [hl,sb]);rw [fE,dU] at hs;refine aK (sl':=[some (.int nn),some (.ref k),some (.int p),some (.ref st.length),x1,x2,none,none,none,none,none]) (st':=st++[Nq.lst (iL (T.set (S.s p) S.d))]) (by simp [Ra.ins,Ra.side P hp,hs]) ?_;have l2:(T.set (S.s p) S.d).length=w + m:=by simp [hl]
 obtain ⟨T2,hT2⟩:∃ x,x=T.set (S.s p) S.d:=⟨_,rfl⟩;rw [<- hT2] at l2 ⊢
 -- the turned
 have Ru:=(R.app (ys:=[Nq.lst (iL T2)])).hu;have ult:u < st.length:=(zB.mp R.hu).1;obtain ⟨sl',st',e,T3,x2,rfl,rfl,l3,h3⟩:=dM (gd:=[]) (g:=bU KW (.nm 5)) (s:=ai KW (.cons (.as (.un .USub (.ix (.v 3) (.v 5))) (.su (.v 3) (.v 5))) .nil))
  (I:=fun i sl s=>∃ T3 x2,s=(st++[Nq.lst (iL T3)]).set u (.wk (kL S.tn))/\sl=[some (.int nn),some (.ref k),some (.int p),some (.ref st.length),x1,x2,none,none,none,none,none]/\T3.length=w + m/\∀ q,gI T3 q=if q ∈ S.tn.take i then - gI T2 q else gI T2 q) (xs:=nL S.tn) (fun _ _ _ _ _=>rfl)
  (fun i y sl s hy hI=>by
   obtain ⟨T3,x2,rfl,rfl,l3,h3⟩:=hI;have hi:i < S.tn.length:=by have:=(zB.mp hy).1;simpa using this
   rw [fW hi] at hy;injection hy with hy;subst hy;obtain ⟨q,hq⟩:∃ q,q=S.tn.getD i 0:=⟨_,rfl⟩;rw [<- hq];have qi:S.tn[i]=q:=by rw [hq,zD,zF hi];rfl
   have qm:q ∈ S.tn:=by rw [<- qi];exact List.getElem_mem hi
   have ql:=ht q qm;have tk:S.tn.take (i + 1)=S.tn.take i++[q]:=by rw [List.take_succ,zF hi,qi];rfl
   have qn:q ∉ S.tn.take i:=fun z=>by
    have:=nt.sublist (List.take_sublist (i + 1) S.tn)
    rw [tk,List.nodup_append] at this;exact this.2.2 q z q (by simp) rfl
   have gc:((st++[Nq.lst (iL T3)]).set u (.wk (kL S.tn)))[st.length]?=some (.lst (iL T3)):=by rw [aq (zU ult)];exact gl
   have hs:=dj (x:=.int (- gI T3 q)) gc (show q < (iL T3).length by simp [l3,ql]);have sc:((st++[Nq.lst (iL T3)]).set u (.wk (kL S.tn))).set st.length (.lst (iL (T3.set q (- gI T3 q))))=(st++[Nq.lst (iL (T3.set q (- gI T3 q)))]).set u (.wk (kL S.tn)):=by
    rw [List.set_comm _ _ (zU ult),dU]
   rw [fE,sc] at hs;have xi:cU ((st++[Nq.lst (iL T3)]).set u (.wk (kL S.tn))) (.ref st.length) (.int (q:Int))=some (.int (gI T3 q)):=by rw [cT (bz gc),cG,b9 oM]
   refine ⟨_,[some (.int nn),some (.ref k),some (.int p),some (.ref st.length),x1,some (.int q),none,none,none,none,none],(st++[Nq.lst (iL (T3.set q (- gI T3 q)))]).set u (.wk (kL S.tn)),rfl,?_,_,_,rfl,rfl,by simp [l3],fun x=>?_⟩
   ·simp [xi,hs]
   ·rw [qZ oM,tk]
    by_cases e:x=q
    ·subst e;rw [yI rfl,yI (by simp),h3 x,yH qn]
    ·rw [yH e,h3 x];simp [e]) (sl:=[some (.int nn),some (.ref k),some (.int p),some (.ref st.length),x1,x2,none,none,none,none,none]) (st:=(st++[Nq.lst (iL T2)]).set u (.wk (kL S.tn))) ⟨T2,x2,rfl,rfl,l2,fun q=>by simp⟩
 rw [jm,List.take_length] at h3;refine aK (sl':=[some (.int nn),some (.ref k),some (.int p),some (.ref st.length),x1,x2,none,none,none,none,none]) (st':=st++[Nq.lst (iL T3)]) ?_ (h T3 x1 x2 ?_)
 ·have Rb:=R.app (ys:=[Nq.lst (iL T2)])
  have ky:(kL S.tn).map (fun q=>nO q.1)=nL S.tn:=by unfold kL nL;rw [List.map_map];rfl
  have f1:(((st++[Nq.lst (iL T3)]).set u (.wk (kL S.tn))))[u]?=some (.wk (kL S.tn)):=fF (R.app (ys:=[Nq.lst (iL T3)])).hu;have f2:((st++[Nq.lst (iL T3)]).set u (.wk (kL S.tn))).set u (.dK (kL S.tn))=st++[Nq.lst (iL T3)]:=by
   rw [List.set_set]
   have:=(R.app (ys:=[Nq.lst (iL T3)])).hu
   obtain ⟨hlt,hget⟩:=zB.mp this;rw [<- hget,List.set_getElem_self]
  simp [um,Rb.ins,Rb.hu];rw [show (kL S.tn).map ((fun q=>nO q.1))=nL S.tn from ky] at *;rw [e];simp [AB,f1,f2]
 ·have e2:∀ q,gI T2 q=if q=S.s p then S.d else gI T q:=fun q=>by rw [hT2,qZ (by rw [hl];exact sb)]
  refine ⟨l3,fun j hj=>?_,?_,fun q hq hn hns=>?_⟩
  ·rw [h3,e2,yH (Q.hs j p hj hp),h1 j hj];split <;> omega
  ·rw [h3,e2,yI rfl]
  ·rw [h3,e2,yH hns,h2 q hn];split <;> rfl
end
structure HOk (nn:Int) (w nr:Nat) (HO:Nat->List Int):Prop where
 ex:∀ grp:Nat,1 <= grp->grp <= w->∃ rr,(∀ st,pm bX [.int nn,.int grp,.int 0] st=some (rr,st))/\∀ st,pm c8 [.int nn,rr] st=some (.fz (iL (HO grp)),st)
 len:∀ grp:Nat,1 <= grp->grp <= w->(HO grp).length=nr
 bd:∀ (grp:Nat),1 <= grp->grp <= w->∀ x ∈ HO grp,x.natAbs <= 15
section
variable {st:aa}{k a b c g n u w m p nr:Nat}{rows:List AV}{S:Sh}{nn:Int}{HO:Nat->List Int}
theorem Bq {r q:Nat}{x:Int} (h1:ev ks ea sl s=some (.ref r,s)) (h2:ev ks eb sl s=some (.int (q:Int),s)) (h3:ev ks ec sl s=some (.int x,s)) (hr:s[r]?=some (.lst (iL l))) (hq:q < l.length):cN ks (.aus .Add ea eb ec) sl s=some (.nx sl (s.set r (.lst (iL (l.set q (gI l q + x)))))):=by
 rw [AK];unfold uo;rw [h1,bind_some];dsimp only;rw [h2,bind_some];dsimp only;rw [bz hr,bind_some,cG,b9 hq,bind_some,h3,bind_some];dsimp only;have:vk .Add s (.int (gI l q)) (.int x)=some (.int (gI l q + x)):=rfl;rw [this,bind_some,dj hr (by simp [hq]),fE,bind_some]
theorem Ar (R:Rep st k a b c g n u rows S) (P:Nz w (m + 1) S) (Q:SX.Pm w (m + 1) S.h S.s) (hp:p < m + 1) (nt:S.tn.Nodup) (ht:∀ q ∈ S.tn,q < w + (m + 1)) (hw:w <= 100) (hm:m + 1 <= 800) (HA:∀ st,pm ag [.int nn] st=some (.int w,st)) (H:HOk nn w nr HO) (hnr:nr <= m) :
  ∃ z,aN [.int nn,.ref k,.int p] st=some z/\∃ T W,TK S w (m + 1) p T/\W.length=m/\(∀ x,x < m->gI W x=wt T HO w w x)/\z.1=.ref (st.length + 1)/\z.2=st++[Nq.lst (iL T)]++[Nq.lst (iL W)]:=by
 rw [aN];simp only [aI];unfold eG;refine BS R P Q hp nt ht hw hm fun T x1 x2 hT=>?_
 have sT:(st++[Nq.lst (iL T)])[st.length]?=some (.lst (iL T)):=gl;refine aK (sl':=[some (.int nn),some (.ref k),some (.int p),some (.ref st.length),x1,x2,some (.ref (st.length + 1)),none,none,none,none]) (st':=st++[Nq.lst (iL T)]++[Nq.lst (iL ((T.drop w).take m))]) ?_ ?_
 ·simp [pj,pi,HA,bz sT,Di hT.len]
 have ll:(st++[Nq.lst (iL T)]).length=st.length + 1:=by simp
 have sT2:∀ W:List Int,(st++[Nq.lst (iL T)]++[Nq.lst (iL W)])[st.length]?=some (.lst (iL T)):=fun W=>ga sT
 have sW:∀ W:List Int,(st++[Nq.lst (iL T)]++[Nq.lst (iL W)])[st.length + 1]?=some (.lst (iL W)):=fun W=>by rw [<- ll];exact gl
 have sSet:∀ W W':List Int,(st++[Nq.lst (iL T)]++[Nq.lst (iL W)]).set (st.length + 1) (.lst (iL W'))=st++[Nq.lst (iL T)]++[Nq.lst (iL W')]:=fun W W'=>by rw [<- ll];exact dU
 have hW0:∀ x,x < m->gI ((T.drop w).take m) x=wt T HO w 0 x:=fun x hx=>by
  unfold wt gI;rw [zD,List.getElem?_take_of_lt hx,List.getElem?_drop,zD];simp [NK]
 obtain ⟨sl',st',e,W,y1,y2,y3,y4,rfl,rfl,hl,hW⟩:=dM (gd:=[]) (g:=bU KW (.nm 7)) (s:=ai KW (.cons (.as (.ix (.v 3) (.bin .Sub (.v 7) (.i 1))) (.nm 8)) (.cons (.iff (.cmp .NotEq (.v 8) (.i 0))
   (.cons (.fo (.en (.ca true 2 (.cons (.v 0) (.cons (.ca true 1 (.cons (.v 0) (.cons (.v 7) (.cons (.i 0) .nil)))) .nil)))) (.tu 2 (.cons (.nm 9) (.cons (.nm 10) .nil))) (.cons (.aus .Add (.v 6) (.v 9) (.bin .Mult (.v 8) (.v 10))) .nil)) .nil) .nil) .nil)))
  (I:=fun i sl s=>∃ W y1 y2 y3 y4,s=st++[Nq.lst (iL T)]++[Nq.lst (iL W)]/\sl=[some (.int nn),some (.ref k),some (.int p),some (.ref st.length),x1,x2,some (.ref (st.length + 1)),y1,y2,y3,y4]/\W.length=m/\∀ x,x < m->gI W x=wt T HO w i x) (xs:=cH 1 w) (fun _ _ _ _ _=>rfl)
  (fun i y sl s hy hI=>by
   obtain ⟨W,y1,y2,y3,y4,rfl,rfl,hl,hW⟩:=hI;have hi:i < w:=by have:=(zB.mp hy).1;unfold cH at this;simpa using this
   have ey:y=.int (((i + 1:Nat)):Int):=by
    unfold cH at hy;rw [zR,List.getElem?_range hi] at hy;injection hy with hy;rw [<- hy];show AV.int (1 + (i:Int))=_;congr 1;omega
   subst ey;have xi:cU (st++[Nq.lst (iL T)]++[Nq.lst (iL W)]) (.ref st.length) (.int (i:Int))=some (.int (gI T i)):=by rw [cT (bz (sT2 W)),cG,b9 (by rw [hT.len];omega)]
   have st1:cN KW (.as (.ix (.v 3) (.bin .Sub (.v 7) (.i 1))) (.nm 8)) [some (.int nn),some (.ref k),some (.int p),some (.ref st.length),x1,x2,some (.ref (st.length + 1)),some (.int ((i + 1:Nat):Int)),y2,y3,y4] (st++[Nq.lst (iL T)]++[Nq.lst (iL W)])=some (.nx [some (.int nn),some (.ref k),some (.int p),some (.ref st.length),x1,x2,some (.ref (st.length + 1)),some (.int ((i + 1:Nat):Int)),some (.int (gI T i)),y3,y4] (st++[Nq.lst (iL T)]++[Nq.lst (iL W)])):=by
    have e0:((i + 1:Nat):Int) - 1=(i:Int):=by omega
    have hb:cp .Sub (st++[Nq.lst (iL T)]++[Nq.lst (iL W)]) (.int ((i + 1:Nat):Int)) (.int 1)=some (.int (i:Int)):=by rw [IV,e0]
    simp only [oK,xD,Aw,qa,vz,mY,mX,bind_some,hb,map_some,xi];rfl
   by_cases h0:gI T i=0
   ·refine ⟨_,_,_,rfl,ay st1 ?_,W,some (.int ((i + 1:Nat):Int)),some (.int (gI T i)),y3,y4,rfl,rfl,hl,fun x hx=>?_⟩
    ·simp [h0]
    ·rw [hW x hx];unfold wt;simp only [NK,h0];omega
   ·obtain ⟨rr,r1,r2⟩:=H.ex (i + 1) oM oM
    have hlen:=H.len (i + 1) oM oM;obtain ⟨sl',st',e,W',z3,z4,rfl,rfl,hl',hW'⟩:=dM (gd:=[]) (g:=bU KW (.tu 2 (.cons (.nm 9) (.cons (.nm 10) .nil)))) (s:=ai KW (.cons (.aus .Add (.v 6) (.v 9) (.bin .Mult (.v 8) (.v 10))) .nil))
     (I:=fun j sl s=>∃ W' z3 z4,s=st++[Nq.lst (iL T)]++[Nq.lst (iL W')]/\sl=[some (.int nn),some (.ref k),some (.int p),some (.ref st.length),x1,x2,some (.ref (st.length + 1)),some (.int ((i + 1:Nat):Int)),some (.int (gI T i)),z3,z4]/\W'.length=m/\∀ x,x < m->gI W' x=gI W x + if x < j then gI T i * gI (HO (i + 1)) x else 0) (xs:=eA 0 (iL (HO (i + 1)))) (fun _ _ _ _ _=>rfl)
     (fun j y sl s hy hI=>by
      obtain ⟨W',z3,z4,rfl,rfl,hl',hW'⟩:=hI;obtain ⟨x,hx',rfl⟩:=oh hy;have hj:j < nr:=by have:=(zB.mp hx').1;simpa [hlen] using this
      rw [b9 oM] at hx';injection hx' with hx';subst hx';have hc:(gI (HO (i + 1)) j).natAbs <= 15:=by
       refine H.bd (i + 1) oM oM _ ?_;unfold gI;exact SX.getD_mem oM
      have mb:cJ (gI T i) (gI (HO (i + 1)) j)=true:=by
       unfold cJ;have:Nat.ble (gI (HO (i + 1)) j).natAbs.log2 62=true:=yL (by
        by_cases hz:(gI (HO (i + 1)) j).natAbs=0
        ·rw [hz];decide
        ·exact yW ((Nat.log2_lt hz).mpr (yM hc dC)))
       rw [this];simp
      refine ⟨_,_,_,rfl,ay (Bq (r:=st.length + 1) (q:=j) (l:=W') (x:=gI T i * gI (HO (i + 1)) j) rfl rfl (by simp [cz mb]) (sW W') oM) rfl,W'.set j (gI W' j + gI T i * gI (HO (i + 1)) j),_,_,sSet _ _,rfl,by simp [hl'],fun x hx=>?_⟩;rw [qZ oM];by_cases e:x=j
      ·subst e;rw [yI rfl,hW' x hx,yH oM,yI oM];omega
      ·rw [yH e,hW' x hx]
       by_cases e2:x < j
       ·rw [yI e2,yI oM]
       ·rw [yH e2,yH oM]) (sl:=[some (.int nn),some (.ref k),some (.int p),some (.ref st.length),x1,x2,some (.ref (st.length + 1)),some (.int ((i + 1:Nat):Int)),some (.int (gI T i)),y3,y4]) (st:=st++[Nq.lst (iL T)]++[Nq.lst (iL W)]) ⟨W,y3,y4,rfl,rfl,hl,fun x hx=>by simp⟩
    rw [lU,ic,hlen] at hW';refine ⟨_,_,_,rfl,ay st1 (ay (sl':=[some (.int nn),some (.ref k),some (.int p),some (.ref st.length),x1,x2,some (.ref (st.length + 1)),some (.int ((i + 1:Nat):Int)),some (.int (gI T i)),z3,z4]) (st':=st++[Nq.lst (iL T)]++[Nq.lst (iL W')]) ?_ rfl),W',some (.int ((i + 1:Nat):Int)),some (.int (gI T i)),z3,z4,rfl,rfl,hl',fun x hx=>?_⟩
    ·have r1':=r1 (st++[Nq.lst (iL T)]++[Nq.lst (iL W)])
     have r2':=r2 (st++[Nq.lst (iL T)]++[Nq.lst (iL W)]);simp only [G5,pT,qa,vz,mY,mX,bind_some,Lc,map_some,yA h0,Bool.not_false,ite_true];refine ay (sl':=[some (.int nn),some (.ref k),some (.int p),some (.ref st.length),x1,x2,some (.ref (st.length + 1)),some (.int ((i + 1:Nat):Int)),some (.int (gI T i)),z3,z4]) (st':=st++[Nq.lst (iL T)]++[Nq.lst (iL W')]) ?_ rfl;rw [mJ,K0];simp only [qb,jf,kF,qa,vz,mY,mX,bind_some,AU,qT,qS];rw [r1'];simp only [bind_some];rw [r2'];simp only [bind_some,F0,map_some];exact e
    ·rw [hW' x hx,hW x hx]
     unfold wt;simp only [NK];by_cases e:x < nr
     ·rw [yI e];omega
     ·rw [yH e]
      have:gI (HO (i + 1)) x=0:=by unfold gI;rw [zD,List.getElem?_eq_none oM];rfl
      rw [this,Int.mul_zero];omega) (sl:=[some (.int nn),some (.ref k),some (.int p),some (.ref st.length),x1,x2,some (.ref (st.length + 1)),none,none,none,none]) (st:=st++[Nq.lst (iL T)]++[Nq.lst (iL ((T.drop w).take m))]) ⟨_,none,none,none,none,rfl,rfl,by simp [hT.len],hW0⟩
 have rl:(cH 1 w).length=w:=by unfold cH;simp
 rw [rl] at hW;refine ⟨(.ref (st.length + 1),st++[Nq.lst (iL T)]++[Nq.lst (iL W)]),?_,T,W,hT,hl,hW,rfl,rfl⟩;refine ao (sl':=[some (.int nn),some (.ref k),some (.int p),some (.ref st.length),x1,x2,some (.ref (st.length + 1)),y1,y2,y3,y4]) (st':=st++[Nq.lst (iL T)]++[Nq.lst (iL W)]) ?_ (by simp);have rb1:eV 1=true:=by decide
 have rb2:eV ((w:Int) + 1)=true:=by
  unfold eV;refine yL ?_;rw [show ((w:Int) + 1).natAbs=w + 1 by omega];exact yW ((Nat.log2_lt oM).mpr oM)
 rw [mJ];have ei:dS KW (.r2 (.i 1) (.bin .Add (.ca true 0 (.cons (.v 0) .nil)) (.i 1))) [some (.int nn),some (.ref k),some (.int p),some (.ref st.length),x1,x2,some (.ref (st.length + 1)),none,none,none,none] (st++[Nq.lst (iL T)]++[Nq.lst (iL ((T.drop w).take m))])=some (⟨cH 1 w,[]⟩,st++[Nq.lst (iL T)]++[Nq.lst (iL ((T.drop w).take m))]):=by
  have e2:((w:Int) + 1 - 1).toNat=w:=by omega
  simp [-List.append_assoc,Bb,HA,rb1,rb2]
 rw [ei,bind_some];exact e
end
section
variable {st:aa}{k a b c g n u w m p nr:Nat}{rows:List AV}{S:Sh}{nn:Int}{HO:Nat->List Int}{v:Nat->Nat->Int}
theorem TK.bd (hT:TK S w m p T) (hp:p < m) (Q:SX.Pm w m S.h S.s) (B:S.d.natAbs < 2 ^ 8900/\∀ i,i < m->∀ j,j < w + 1->(S.t i j).natAbs < 2 ^ 8900) (q:Nat):(gI T q).natAbs < 2 ^ 8900:=by
 by_cases hq:q < w + m
 ·by_cases h1:∃ j,j < w/\S.h j=q
  ·obtain ⟨j,hj,rfl⟩:=h1
   rw [hT.hd j hj]
   have:=B.2 p hp j oM
   split
   ·exact this
   ·rw [Int.natAbs_neg];exact this
  ·by_cases h2:q=S.s p
   ·rw [h2,hT.sd]
    split
    ·rw [Int.natAbs_neg];exact B.1
    ·exact B.1
   ·rw [hT.no q hq (fun j hj z=>h1 ⟨j,hj,z⟩) h2];exact Nat.two_pow_pos _
 ·have:gI T q=0:=by unfold gI;rw [zD,List.getElem?_eq_none (by rw [hT.len];omega)];rfl
  rw [this];exact Nat.two_pow_pos _
theorem GS (hb:∀ q,(gI T q).natAbs < 2 ^ 8900) (H:HOk nn w nr HO) (hw:w <= 15) (x:Nat):(wt T HO w w x).natAbs < 2 ^ 9000:=by
 unfold wt;have h1:=SX.abs_sum (n:=w) (f:=fun y=>gI T y * gI (HO (y + 1)) x) (M:=2 ^ 8900 * 15) fun i hi=>by
  rw [Int.natAbs_mul];refine Nat.mul_le_mul (yW (hb i)) ?_;unfold gI;rw [zD];cases e:(HO (i + 1))[x]? with
  | none=>simp
  | some z=>exact H.bd (i + 1) oM oM z (zW e)
 have h2:=hb (w + x);have h3:=Int.natAbs_add_le (gI T (w + x)) (NK w fun y=>gI T y * gI (HO (y + 1)) x);have h4:w * (2 ^ 8900 * 15) <= 15 * (2 ^ 8900 * 15):=Nat.mul_le_mul_right _ hw;have h5:(2:Nat) ^ 9000=2 ^ 8900 * 2 ^ 100:=by rw [<- Nat.pow_add]
 have h6:(2:Nat) ^ 100=1267650600228229401496703205376:=by decide
 rw [h5,h6];generalize (2:Nat) ^ 8900=B at *;omega
end
end LW
namespace LW
open PySem PySem.Spec L2 R
open SX (Sh Nz gI NK NA)
section
variable {w nr i:Nat}{RR:List (List Int)}{gv:List Gv}{goal:List Int}{S:Sh}{Y:Nat->Int}{e:Int}
theorem Je:(aR RR gv goal).length=RR.length + gv.length + 1:=by simp [aR];omega
end
section
variable {w:Nat}{RR:List (List Int)}{gv:List Gv}{goal:List Int}{nn:Int}{HO:Nat->List Int}
theorem Dd {n0:Nat}{i:Nat} (h:(eA n0 xs)[i]?=some y):∃ x,xs[i]?=some x/\y=.tup [.int ((n0 + i:Nat):Int),x]:=by
 unfold eA at h;rw [zR] at h;obtain ⟨z,h1,rfl⟩:=zE.mp h;rw [List.getElem?_zipIdx] at h1;obtain ⟨x,h2,rfl⟩:=zE.mp h1;exact ⟨x,h2,rfl⟩
theorem Iu:cm .Eq s (.str "=") (.str "=")=some true:=by kernel_rfl
theorem Ig:cm .Eq s (.str ">") (.str "=")=some false:=by kernel_rfl
end
end LW
namespace LW
open PySem PySem.Spec L2 R
open SX (Sh Nz NE)
noncomputable def iP (key:Nat->Nat):Nat->Nat->List Nat->Nat
 | x,_,[]=>x
 | x,k,y::l=>if key y < k then iP key y (key y) l else iP key x k l
def vh (key:Nat->Nat):List Nat->Option Nat
 | []=>none
 | x::l=>some (iP key x (key x) l)
def gX (S:Sh) (p:Nat):Option Nat:=vh S.h ((bM S).filter fun j=>decide (0 < S.t p j))
def jg (w:Nat) (S:Sh) (q:Nat) (o:Option Nat) (i:Nat):Option Nat:=(if S.t i q < 0/\S.s i ∈ S.gd then (match o with | none=>some i | some r=>if S.t i w * - S.t r q < S.t r w * - S.t i q\/(S.t i w * - S.t r q=S.t r w * - S.t i q/\S.s i < S.s r) then some i else some r) else o)
def gi (w m:Nat) (S:Sh) (q:Nat):Option Nat:=(List.range m).foldl (jg w S q) none
theorem qe {w i:Nat}{S:Sh}{q:Nat}:gi w (i + 1) S q=jg w S q (gi w i S q) i:=by
 unfold gi;rw [List.range_succ,List.foldl_append];rfl
noncomputable def rV (S:Sh):Bool:=decide (S.d.natAbs < 1000000000) && !(S.d == 0) && S.ls.all fun l=>l.all fun x=>decide (x.natAbs < 1000000000)
def iF (w m p:Nat):Nat->Sh->Option (Bool × Sh)
 | 0,_=>none
 | n + 1,S=>if rV S=true then (if S.t p w < 0 then (match gX S p with
  | none=>some (false,S)
  | some q=>(match gi w m S q with
   | none=>some (true,NE S p q)
   | some r=>if S.t p w * S.t r q <= S.t r w * S.t p q then some (true,NE S p q) else iF w m p n (NE S r q))) else some (true,S)) else none
def gy (w m p:Nat):Nat->Sh->Option (Option Nat × Sh)
 | 0,_=>none
 | n + 1,S=>if rV S=true then (match gX S p with
  | none=>some (none,S)
  | some q=>(match gi w m S q with
   | none=>some (some q,S)
   | some r=>gy w m p n (NE S r q))) else none
theorem xg {key:Nat->Nat}{l:List Nat}:o7 ((l.map fun q=>((q:Nat):Int)).zip (l.map fun q=>((key q:Nat):Int)))=oN (vh key l):=by
 cases l with
 | nil=>rfl
 | cons x l =>
  have go:∀ (l:List Nat) (x k:Nat),jb (x:Int) (k:Int) ((l.map fun q=>((q:Nat):Int)).zip (l.map fun q=>((key q:Nat):Int)))=((iP key x k l:Nat):Int):=by
   intro l
   induction l with
   | nil=>intro x k;rfl
   | cons y l ih =>
    intro x k;simp only [zO,List.zip_cons_cons,jb,iP];by_cases h:key y < k
    ·rw [yI oM,yI h];exact ih y (key y)
    ·rw [yH oM,yH h];exact ih x k
  exact congrArg AV.int (go l x (key x))
section
variable {st:aa}{k a b c g n u w m:Nat}{rows:List AV}{S:Sh}{p:Nat}
theorem vj (P:Nz w m S) (h:rV S=true):Bd w m S/\S.d ≠ 0:=by
 unfold rV at h;rw [zC,zC,yC,yP] at h;obtain ⟨⟨h1,h2⟩,h3⟩:=h;have big:1000000000 < 2 ^ 9000:=zJ (show 1000000000 < 2 ^ 30 by decide) (Nat.pow_le_pow_right dC dC);refine ⟨⟨Nat.lt_trans h1 big,fun i hi j hj=>?_⟩,by simpa using h2⟩;have hl:S.ls[i]?=some (SX.row S i):=by
  have:i < S.ls.length:=by rw [P.ls];exact hi
  unfold SX.row;rw [zD,zF this];rfl
 have:=h3 _ (zW hl)
 rw [yP] at this;have hlen:j < (SX.row S i).length:=by rw [P.rl hi];exact hj
 have hm:S.t i j ∈ SX.row S i:=by
  show (SX.row S i).getD j 0 ∈ _;rw [zD,zF hlen];exact List.getElem_mem hlen
 exact Nat.lt_trans (of_decide_eq_true (this _ hm)) big
theorem Am {key:Nat->Nat}{l:List Nat}{x:Nat} (h:vh key l=some x):x ∈ l:=by
 have go:∀ (l:List Nat) (x k:Nat),iP key x k l ∈ x::l:=by
  intro l
  induction l with
  | nil=>intro x k;simp [iP]
  | cons y l ih =>
   intro x k;simp only [iP];split
   ·exact zQ _ (ih y (key y))
   ·rcases zT.mp (ih x k) with e | e
    ·rw [e];exact z7 ..
    ·exact zQ _ (zQ _ e)
 cases l with
 | nil=>cases h
 | cons y l=>cases h;exact go l y (key y)
theorem sI (P:Nz w m S) {q:Nat} (h:gX S p=some q):q < w:=by
 have:=List.mem_filter.mp (Am h)
 exact ((gj P).mp this.1).1
theorem qd {q r:Nat}:∀ {m:Nat},gi w m S q=some r->r < m:=by
 intro m
 induction m with
 | zero=>intro h;cases h
 | succ m ih =>
  rw [qe];unfold jg;intro h;split at h
  ·split at h
   ·cases h;omega
   ·rename_i e
    split at h
    ·cases h;omega
    ·cases h;have:=ih e;omega
  ·have:=ih h;omega
theorem qw (R:Rep st k a b c g n u rows S) (P:Nz w m S) (hw:w <= 100) {p:Nat} (hp:p < m):aB [.ref k,.int p] st=some (oN (gX S p),st):=by
 have ll:(bM S).length <= 1000:=by
  unfold bM;rw [zH]
  have:=List.length_filter_le (fun z:Nat × Nat=>!decide (z.1 ∈ S.nl)) S.hd.zipIdx
  rw [List.length_zipIdx,P.hd] at this;omega
 have inl:∀ j,j ∈ (bM S).filter (fun j=>decide (0 < S.t p j)) ↔ (j < w/\S.h j ∉ S.nl)/\0 < S.t p j:=fun j=>by rw [List.mem_filter,gj P];simp
 have ho:=xg (key:=S.h) (l:=(bM S).filter fun j=>decide (0 < S.t p j));simp [aB,aI,c7,R.ins,R.line P hp,tm R P hw,nL,bv ll];rw [d6 (B:=fun j=>decide (0 < S.t p j)) (F:=fun j:Nat=>.int (j:Int)) dL fun j hj=>⟨_,rfl,by simp [R.cell P hp (show j < w + 1 by have:=(gj P).mp hj;omega)],fun _=>rfl⟩];have hf:rfs (((bM S).filter fun j=>decide (0 < S.t p j)).map fun j:Nat=>(AV.int (j:Int)))=true:=jE;have hi:=tz (l:=(bM S).filter fun j=>decide (0 < S.t p j));unfold nL at hi;simp [hf,p5,lsI,hi];rw [FH (f:=S.h) fun q hq=>by simp [R.ins,R.head P ((inl q).mp hq).1.1]];simp [ho,gX]
theorem sB (R:Rep st k a b c g n u rows S) (P:Nz w m S) (B:Bd w m S) {q:Nat} (hq:q < w):aA [.ref k,.int q] st=some (oN (gi w m S q),st):=by
 have rl:rows.length=m:=by rw [R.len,P.ls]
 obtain ⟨sl',st',e,rfl,o,x,y,rfl,T,To⟩:=dM (gd:=[(a,.lst rows)]) (g:=bU [bG] (.tu 2 (.cons (.nm 3) (.cons (.nm 4) .nil)))) (s:=ai [bG] (.cons (.iff (.an (.cmp .Lt (.ix (.v 4) (.v 1)) (.i 0)) (.cmp .In (.ix (.fd "Sheet" "sides" (.v 0)) (.v 3)) (.fd "Sheet" "guarded" (.v 0))))
   (.cons (.iff (.or (.cmp .Is (.v 2) .n) (.va (.me "Sheet" "is_tighter" 0 (.v 0) (.cons (.v 3) (.cons (.v 2) (.cons (.v 1) .nil)))))) (.cons (.as (.v 3) (.nm 2)) .nil) .nil) .nil) .nil) .nil))
  (I:=fun i sl s=>s=st/\∃ o x y,sl=[some (.ref k),some (.int q),some (oN o),x,y]/\SX.NA S w q i o/\o=gi w i S q) (xs:=eA 0 rows) (fun i sl s _ hI=>by rw [hI.1];exact fZ R.ha)
  (fun i y sl s hy hI=>by
   obtain ⟨rfl,o,x1,x2,rfl,T,To⟩:=hI;obtain ⟨x,hx,rfl⟩:=oh hy;have hi:i < m:=by rw [<- rl];exact (zB.mp hx).1
   have ex:x=kK rows i:=by have:=R.rx P hi;rw [hx] at this;injection this
   subst ex;refine ⟨_,[some (.ref k),some (.int q),some (oN (jg w S q o i)),some (.int i),some (kK rows i)],s,rfl,?_,rfl,_,_,_,rfl,?_,by rw [qe,<- To]⟩
   ·unfold jg
    by_cases h1:S.t i q < 0
    ·by_cases h2:S.s i ∈ S.gd
     ·cases o with
      | none=>simp [R.cell P hi (show q < w + 1 by omega),h1,R.side P hi,R.ins,R.ing,h2,oN]
      | some r =>
       have hr:=(T.2 r rfl).1
       have:=HY R P B hi (show r < m by omega) hq
       simp [R.cell P hi (show q < w + 1 by omega),h1,R.side P hi,R.ins,R.ing,h2,oN,this,fy,bq,dr];split <;> rfl
     ·simp [R.cell P hi (show q < w + 1 by omega),h1,R.side P hi,R.ins,R.ing,h2]
    ·simp [R.cell P hi (show q < w + 1 by omega),h1]
   ·unfold jg
    by_cases h1:S.t i q < 0/\S.s i ∈ S.gd
    ·rw [yI h1]
     cases o with
     | none=>exact SX.tt_first h1.1 h1.2 T
     | some r =>
      dsimp only;split
      ·rename_i h2;exact SX.tt_new h1.1 h1.2 h2 T
      ·rename_i h2;exact SX.tt_old h1.1 h2 T
    ·rw [yH h1];exact SX.tt_skip h1 T) (sl:=[some (.ref k),some (.int q),some .non,none,none]) (st:=st) ⟨rfl,none,none,none,rfl,SX.tt_zero,rfl⟩
 rw [lU,rl] at To;rw [<- To];simp [aA,aI,c6,R.ins,jn R.ha];rw [e];simp
end
section
variable {k b c g n u w m:Nat}{p:Nat}
theorem zl (hw:w <= 100) (hm:m <= 1000) (hp:p < m):∀ (N:Nat) (S:Sh) {bb:Bool}{S':Sh}{st:aa}{a:Nat}{rows:List AV} (x y:Option AV),iF w m p N S=some (bb,S')->Nz w m S->Rep st k a b c g n u rows S ->
  ∃ o st' a' rows',dA (tv [aB,aA,be,ax] (.cmp .Lt (.ix (.ix (.fd "Sheet" "lines" (.v 0)) (.v 1)) (.un .USub (.i 1))) (.i 0)))
   (ai [aB,aA,be,ax] (.cons (.as (.me "Sheet" "raising_column" 0 (.v 0) (.cons (.v 1) .nil)) (.nm 2))
    (.cons (.iff (.cmp .Is (.v 2) .n) (.cons (.rt (.b false)) .nil) .nil)
    (.cons (.as (.me "Sheet" "tightest_place" 1 (.v 0) (.cons (.v 2) .nil)) (.nm 3))
    (.cons (.iff (.or (.cmp .Is (.v 3) .n) (.va (.me "Sheet" "is_up_first" 2 (.v 0) (.cons (.v 1) (.cons (.v 3) (.cons (.v 2) .nil)))))) (.cons (.ex (.me "Sheet" "exchange" 3 (.v 0) (.cons (.v 1) (.cons (.v 2) .nil)))) (.cons (.rt (.b true)) .nil)) .nil)
    (.cons (.ex (.me "Sheet" "exchange" 3 (.v 0) (.cons (.v 3) (.cons (.v 2) .nil)))) .nil)))))) N [some (.ref k),some (.int p),x,y] st=some o/\Rep st' k a' b c g n u rows' S'/\Nz w m S'/\(o=.rt (.bl bb) st'\/(bb=true/\∃ sl,o=.nx sl st')):=by
 intro N
 induction N with
 | zero=>intro S bb S' st a rows x y h;cases h
 | succ N ih =>
  intro S bb S' st a rows x y h P R;simp only [iF] at h;split at h
  ·rename_i hb
   obtain ⟨B,d0⟩:=vj P hb;have ht:tv [aB,aA,be,ax] (.cmp .Lt (.ix (.ix (.fd "Sheet" "lines" (.v 0)) (.v 1)) (.un .USub (.i 1))) (.i 0)) [some (.ref k),some (.int p),x,y] st=some (decide (S.t p w < 0),st):=by
    simp [R.ins,R.line P hp,R.last P hp]
   split at h
   ·rename_i low
    rw [yT low] at ht;have e1:=qw R P hw hp;split at h
    ·rename_i hr
     cases h;rw [hr] at e1;refine ⟨_,st,a,rows,dz (show 1 <= N + 1 by omega) (m6 (v:=.bl false) (st2:=st) ht ?_),R,P,.inl rfl⟩;simp [R.ins,e1,oN]
    ·rename_i q hr
     rw [hr] at e1;have q1:=sI P hr;have e2:=sB R P B q1;split at h
     ·rename_i hti
      cases h;rw [hti] at e2;obtain ⟨st',a2,rows2,e3,R2⟩:=ld R P B d0 hw hm hp q1;refine ⟨_,st',a2,rows2,dz (show 1 <= N + 1 by omega) (m6 (v:=.bl true) (st2:=st') ht ?_),R2,SX.exch_shp P hp,.inl rfl⟩;simp [R.ins,e1,e2,e3,oN]
     ·rename_i r hti
      rw [hti] at e2;have r1:=qd hti;have e4:=GU R P B hp r1 q1;split at h
      ·rename_i hu
       cases h;rw [yT hu] at e4;obtain ⟨st',a2,rows2,e3,R2⟩:=ld R P B d0 hw hm hp q1;refine ⟨_,st',a2,rows2,dz (show 1 <= N + 1 by omega) (m6 (v:=.bl true) (st2:=st') ht ?_),R2,SX.exch_shp P hp,.inl rfl⟩;simp [R.ins,e1,e2,e3,e4,oN,fy,bq,dr]
      ·rename_i hu
       rw [yA hu] at e4;obtain ⟨st',a2,rows2,e3,R2⟩:=ld R P B d0 hw hm r1 q1;obtain ⟨o,st2,a3,rows3,e5,R3,P3,h3⟩:=ih (NE S r q) (some (.int q)) (some (.int r)) h (SX.exch_shp P r1) R2;refine ⟨o,st2,a3,rows3,oF (st':=st) (sl2:=[some (.ref k),some (.int p),some (.int q),some (.int r)]) (st2:=st') ht ?_ e5,R3,P3,h3⟩;simp [R.ins,e1,e2,e3,e4,oN,fy,bq,dr]
   ·rename_i low
    cases h;rw [yA low] at ht;exact ⟨_,st,a,rows,dz (show 1 <= N + 1 by omega) (oE ht),R,P,.inr ⟨rfl,_,rfl⟩⟩
  ·cases h
theorem wA (hw:w <= 100) (hm:m <= 1000) (hp:p < m) {N:Nat}{S S':Sh}{bb:Bool}{st:aa}{a:Nat}{rows:List AV} (h:iF w m p N S=some (bb,S')) (P:Nz w m S) (R:Rep st k a b c g n u rows S) :
  ∃ st' a' rows',bF [.ref k,.int p] st=some (.bl bb,st')/\Rep st' k a' b c g n u rows' S'/\Nz w m S':=by
 obtain ⟨o,st',a',rows',e,R',P',h'⟩:=zl hw hm hp N S none none h P R;have e:=nj e;refine ⟨st',a',rows',?_,R',P'⟩;rcases h' with rfl | ⟨rfl,sl,rfl⟩
 ·simp [bF,aI,fL,e]
 ·simp [bF,aI,fL,e]
theorem wW (hw:w <= 100) (hm:m <= 1000) (hp:p < m):∀ (N:Nat) (S:Sh) {oq:Option Nat}{S':Sh}{st:aa}{a:Nat}{rows:List AV} (x:Option AV),gy w m p N S=some (oq,S')->Nz w m S->Rep st k a b c g n u rows S ->
  ∃ o st' a' rows',dA (tv [aB,aA,ax] (.cmp .IsNot (.v 2) .n)) (ai [aB,aA,ax] (.cons (.as (.me "Sheet" "tightest_place" 1 (.v 0) (.cons (.v 2) .nil)) (.nm 3)) (.cons (.iff (.cmp .Is (.v 3) .n) (.cons (.rt (.v 2)) .nil) .nil) (.cons (.ex (.me "Sheet" "exchange" 2 (.v 0) (.cons (.v 3) (.cons (.v 2) .nil)))) (.cons (.as (.me "Sheet" "raising_column" 0 (.v 0) (.cons (.v 1) .nil)) (.nm 2)) .nil))))) N [some (.ref k),some (.int p),some (oN (gX S p)),x] st=some o/\Rep st' k a' b c g n u rows' S'/\Nz w m S'/\((oq=none/\∃ sl,o=.nx sl st')\/∃ q,oq=some q/\q < w/\o=.rt (.int ((q:Nat):Int)) st'):=by
 intro N
 induction N with
 | zero=>intro S oq S' st a rows x h;cases h
 | succ N ih =>
  intro S oq S' st a rows x h P R;simp only [gy] at h;split at h
  ·rename_i hb
   obtain ⟨B,d0⟩:=vj P hb;split at h
   ·rename_i hr
    cases h;rw [hr];exact ⟨_,st,a,rows,dz (show 1 <= N + 1 by omega) (oE (by simp [oN])),R,P,.inl ⟨rfl,_,rfl⟩⟩
   ·rename_i q hr
    rw [hr];have q1:=sI P hr;have e2:=sB R P B q1;split at h
    ·rename_i hti
     cases h;rw [hti] at e2;refine ⟨_,st,a,rows,dz (show 1 <= N + 1 by omega) (m6 (v:=.int q) (st':=st) (st2:=st) (by simp [oN]) ?_),R,P,.inr ⟨q,rfl,q1,rfl⟩⟩;simp [R.ins,oN,e2]
    ·rename_i r hti
     rw [hti] at e2;have r1:=qd hti;obtain ⟨st',a2,rows2,e3,R2⟩:=ld R P B d0 hw hm r1 q1;have P2:=SX.exch_shp (c:=q) P r1;have e4:=qw R2 P2 hw hp;obtain ⟨o,st2,a3,rows3,e5,R3,P3,h3⟩:=ih (NE S r q) (some (.int r)) h P2 R2;refine ⟨o,st2,a3,rows3,oF (st':=st) (sl2:=[some (.ref k),some (.int p),some (oN (gX (NE S r q) p)),some (.int r)]) (st2:=st') (by simp [oN]) ?_ e5,R3,P3,h3⟩;refine ay (sl':=[some (.ref k),some (.int p),some (.int q),some (.int r)]) (st':=st) (by simp [R.ins,oN,e2]) (ay (sl':=[some (.ref k),some (.int p),some (.int q),some (.int r)]) (st':=st) (by simp) (ay (sl':=[some (.ref k),some (.int p),some (.int q),some (.int r)]) (st':=st') (by simp [R.ins,e3]) (ay (sl':=[some (.ref k),some (.int p),some (oN (gX (NE S r q) p)),some (.int r)]) (st':=st') (by simp [R2.ins,e4]) rfl)))
  ·cases h
theorem De (hw:w <= 100) (hm:m <= 1000) (hp:p < m) {N:Nat}{S S':Sh}{oq:Option Nat}{st:aa}{a:Nat}{rows:List AV} (h:gy w m p N S=some (oq,S')) (P:Nz w m S) (R:Rep st k a b c g n u rows S) :
  ∃ st' a' rows',bu [.ref k,.int p] st=some (oN oq,st')/\Rep st' k a' b c g n u rows' S'/\Nz w m S'/\∀ q,oq=some q->q < w:=by
 have e1:=qw R P hw hp;obtain ⟨o,st',a',rows',e,R',P',h'⟩:=wW hw hm hp N S none h P R;have e:=nj e;refine ⟨st',a',rows',?_,R',P',fun q hq=>?_⟩
 ·rw [bu,aI]
  show (ai [aB,aA,ax] fc [some (.ref k),some (.int p),none,none] st).bind aH=_;refine ao (sl':=[some (.ref k),some (.int p),some (oN (gX S p)),none]) (st':=st) (by simp [R.ins,e1]) ?_;rcases h' with ⟨rfl,sl,rfl⟩ | ⟨q,rfl,_,rfl⟩
  ·exact ao e (dh rfl)
  ·exact dh e
 ·rcases h' with ⟨rfl,_⟩ | ⟨q',rfl,h,_⟩
  ·cases hq
  ·cases hq;exact h
end
noncomputable def zc:List Nat->Option Nat
 | []=>none
 | x::l=>some (l.foldl (fun a b=>if b < a then b else a) x)
def qK (S:Sh) (p:Nat):Option Nat:=zc ((bM S).filter fun j=>!decide (S.t p j=0))
def uW (w m p N:Nat) (S:Sh):Option (Bool × Sh):=if Nat.ble S.gd.length 1000=true then (iF w m p N S).map fun r=>if r.1=true then (true,{ r.2 with gd:=ins r.2.gd (S.s p) }) else r else none
def lQ (w p:Nat) (S:Sh):Sh:=if 0 < S.t p w then SX.trn S p else S
def Ba (w m p N:Nat) (S:Sh):Option (Bool × Sh):=if S.t p w < 0 then iF w m p N S else if rV S=true then some (true,match qK S p with | none=>S | some q=>NE S p q) else none
def uX (w m p N:Nat) (S:Sh):Option (Bool × Sh):=if Nat.ble S.nl.length 1000 && Nat.ble S.tn.length 1000 then (Ba w m p N (lQ w p S)).map fun r=>if r.1=true then (true,{ r.2 with nl:=ins r.2.nl (S.s p) }) else r else none
section
variable {st:aa}{k a b c g n u w m:Nat}{rows:List AV}{S:Sh}{p:Nat}
theorem FC {l:List Nat}:zd (l.map fun j=>((j:Nat):Int))=oN (zc l):=by
 cases l with
 | nil=>rfl
 | cons x l =>
  have go:∀ (l:List Nat) (x:Nat),(l.map fun j=>((j:Nat):Int)).foldl (fun a b=>if b < a then b else a) (x:Int)=((l.foldl (fun a b=>if b < a then b else a) x:Nat):Int):=by
   intro l
   induction l with
   | nil=>intro x;rfl
   | cons y l ih =>
    intro x;rw [zO,List.foldl_cons,List.foldl_cons];by_cases h:y < x
    ·rw [yI oM,yI h];exact ih y
    ·rw [yH oM,yH h];exact ih x
  exact congrArg AV.int (go l x)
theorem zb {l:List Nat}{x:Nat} (h:zc l=some x):x ∈ l:=by
 have go:∀ (l:List Nat) (x:Nat),l.foldl (fun a b=>if b < a then b else a) x ∈ x::l:=by
  intro l
  induction l with
  | nil=>intro x;simp
  | cons y l ih =>
   intro x;rw [List.foldl_cons];rcases zT.mp (ih (if y < x then y else x)) with e | e
   ·rw [e];split <;> simp
   ·exact zQ _ (zQ _ e)
 cases l with
 | nil=>cases h
 | cons y l=>cases h;exact go l y
theorem HF (R:Rep st k a b c g n u rows S) (P:Nz w m S) (hw:w <= 100) (hp:p < m):aP [.ref k,.int p] st=some (oN (qK S p),st):=by
 have ll:(bM S).length <= 1000:=by
  unfold bM;rw [zH]
  have:=List.length_filter_le (fun z:Nat × Nat=>!decide (z.1 ∈ S.nl)) S.hd.zipIdx
  rw [List.length_zipIdx,P.hd] at this;omega
 have ho:=FC (l:=(bM S).filter fun j=>!decide (S.t p j=0));simp [aP,aI,dq,R.ins,R.line P hp,tm R P hw,nL,bv ll];rw [d6 (B:=fun j=>!decide (S.t p j=0)) (F:=fun j:Nat=>.int (j:Int)) dL fun j hj=>⟨_,rfl,by simp [R.cell P hp (show j < w + 1 by have:=(gj P).mp hj;omega)],fun _=>rfl⟩];have hf:rfs (((bM S).filter fun j=>!decide (S.t p j=0)).map fun j:Nat=>(AV.int (j:Int)))=true:=jE;have hi:=tz (l:=(bM S).filter fun j=>!decide (S.t p j=0));unfold nL at hi;simp [hf,bQ,nK,lsI,hi,ho,qK]
theorem Fx (P:Nz w m S) {q:Nat} (h:qK S p=some q):q < w:=by
 have:=List.mem_filter.mp (zb h)
 exact ((gj P).mp this.1).1
theorem DO {S:Sh}{l:List Nat} (P:Nz w m S):Nz w m { S with gd:=l }:=⟨P.ls,P.row,P.hd,P.sd⟩
theorem DN {S:Sh}{l:List Nat} (P:Nz w m S):Nz w m { S with nl:=l }:=⟨P.ls,P.row,P.hd,P.sd⟩
theorem tq (hb:True):∀ (N:Nat) (S:Sh) {bb:Bool}{S':Sh},iF w m p N S=some (bb,S')->S'.gd=S.gd/\S'.nl=S.nl/\S'.tn=S.tn:=by
 intro N
 induction N with
 | zero=>intro S bb S' h;cases h
 | succ N ih =>
  intro S bb S' h;simp only [iF] at h;split at h
  ·split at h
   ·split at h
    ·cases h;exact ⟨rfl,rfl,rfl⟩
    ·split at h
     ·cases h;exact ⟨rfl,rfl,rfl⟩
     ·split at h
      ·cases h;exact ⟨rfl,rfl,rfl⟩
      ·obtain ⟨a,b,c⟩:=ih _ h;exact ⟨a,b,c⟩
   ·cases h;exact ⟨rfl,rfl,rfl⟩
  ·cases h
theorem HN (hw:w <= 100) (hm:m <= 1000) (hp:p < m) {N:Nat}{S':Sh}{bb:Bool} (h:uW w m p N S=some (bb,S')) (P:Nz w m S) (R:Rep st k a b c g n u rows S) :
  ∃ st' a' rows',bj [.ref k,.int p] st=some (.bl bb,st')/\Rep st' k a' b c g n u rows' S'/\Nz w m S':=by
 unfold uW at h;split at h
 ·rename_i hl
  have hl:=zS hl;obtain ⟨⟨b1,S1⟩,h1,h2⟩:=zE.mp h;obtain ⟨st1,a1,rows1,e1,R1,P1⟩:=wA hw hm hp h1 P R;dsimp only at h2;cases b1 with
  | false =>
   rw [yH (by simp)] at h2;cases h2;refine ⟨st1,a1,rows1,?_,R1,P1⟩;simp [bj,aI,d8,R.ins,R.side P hp,e1,fy,bq,dr]
  | true =>
   rw [yI rfl] at h2;cases h2;have g1:=(tq trivial N S h1).1;obtain ⟨st2,e2,R2⟩:=tH (q:=S.s p) R1 (by rw [g1];exact hl);refine ⟨st2,a1,rows1,?_,R2,DO P1⟩;simp [bj,aI,d8,R.ins,R.side P hp,e1,fy,bq,dr,R1.ins,e2]
 ·cases h
theorem HP (hw:w <= 100) (hm:m <= 1000) (hp:p < m) {N:Nat}{S':Sh}{bb:Bool} (h:uX w m p N S=some (bb,S')) (P:Nz w m S) (R:Rep st k a b c g n u rows S) :
  ∃ st' a' rows',bR [.ref k,.int p] st=some (.bl bb,st')/\Rep st' k a' b c g n u rows' S'/\Nz w m S':=by
 unfold uX at h;split at h
 ·rename_i hl
  rw [zC] at hl;have hl1:=zS hl.1;have hl2:=zS hl.2;obtain ⟨⟨b1,S2⟩,h1,h2⟩:=zE.mp h;dsimp only at h2;have s1:∃ (st1:aa) (rows1:List AV),cN [bg,bF,aP,ax,b8] (.iff (.cmp .Gt (.ix (.ix (.fd "Sheet" "lines" (.v 0)) (.v 1)) (.un .USub (.i 1))) (.i 0)) (.cons (.ex (.me "Sheet" "turn_line" 0 (.v 0) (.cons (.v 1) .nil))) .nil) .nil) [some (.ref k),some (.int p),some (.int (S.s p:Int)),none] st=some (.nx [some (.ref k),some (.int p),some (.int (S.s p:Int)),none] st1) /\
    Rep st1 k a b c g n u rows1 (lQ w p S)/\Nz w m (lQ w p S)/\(lQ w p S).nl=S.nl:=by
   unfold lQ;by_cases h:0 < S.t p w
   ·rw [yI h]
    obtain ⟨st1,rows1,e1,R1⟩:=Dw R P hw hp hl2;refine ⟨st1,rows1,?_,R1,SX.trn_shp P hp,rfl⟩;simp [R.ins,R.line P hp,R.last P hp,h,e1]
   ·rw [yH h]
    refine ⟨st,rows,?_,R,P,rfl⟩;simp [R.ins,R.line P hp,R.last P hp,h]
  obtain ⟨st1,rows1,e1,R1,P1,n1⟩:=s1;obtain ⟨S1,hS1⟩:∃ S1,S1=lQ w p S:=⟨_,rfl⟩;rw [<- hS1] at h1 R1 P1 n1;have e0:cN [bg,bF,aP,ax,b8] (.as (.ix (.fd "Sheet" "sides" (.v 0)) (.v 1)) (.nm 2)) [some (.ref k),some (.int p),none,none] st=some (.nx [some (.ref k),some (.int p),some (.int (S.s p:Int)),none] st):=by simp [R.ins,R.side P hp]
  have mid:∃ (st2:aa) (a2:Nat) (rows2:List AV),Rep st2 k a2 b c g n u rows2 S2/\Nz w m S2/\S2.nl=S.nl/\∃ y3,cN [bg,bF,aP,ax,b8] (.iff (.cmp .Lt (.ix (.ix (.fd "Sheet" "lines" (.v 0)) (.v 1)) (.un .USub (.i 1))) (.i 0)) (.cons (.iff (.no (.va (.me "Sheet" "lift" 1 (.v 0) (.cons (.v 1) .nil)))) (.cons (.rt (.b false)) .nil) .nil) .nil) (.cons (.as (.me "Sheet" "moving_column" 2 (.v 0) (.cons (.v 1) .nil)) (.nm 3)) (.cons (.iff (.cmp .IsNot (.v 3) .n) (.cons (.ex (.me "Sheet" "exchange" 3 (.v 0) (.cons (.v 1) (.cons (.v 3) .nil)))) .nil) .nil) .nil))) [some (.ref k),some (.int p),some (.int (S.s p:Int)),none] st1=some (if b1=true then .nx [some (.ref k),some (.int p),some (.int (S.s p:Int)),y3] st2 else .rt (.bl false) st2):=by
   unfold Ba at h1;split at h1
   ·rename_i low
    obtain ⟨st2,a2,rows2,e2,R2,P2⟩:=wA hw hm hp h1 P1 R1;refine ⟨st2,a2,rows2,R2,P2,by rw [(tq trivial N S1 h1).2.1,n1],none,?_⟩;cases b1 <;> simp [R1.ins,R1.line P1 hp,R1.last P1 hp,low,e2,fy,bq,dr]
   ·rename_i low
    split at h1
    ·rename_i hb
     obtain ⟨B,d0⟩:=vj P1 hb;have e2:=HF R1 P1 hw hp;cases hmv:qK S1 p with
     | none =>
      rw [hmv] at h1 e2;cases h1;refine ⟨st1,a,rows1,R1,P1,n1,some .non,?_⟩;simp [R1.ins,R1.line P1 hp,R1.last P1 hp,low,e2,oN]
     | some q =>
      rw [hmv] at h1 e2;cases h1;obtain ⟨st2,a2,rows2,e3,R2⟩:=ld R1 P1 B d0 hw hm hp (Fx P1 hmv);refine ⟨st2,a2,rows2,R2,SX.exch_shp P1 hp,n1,some (.int q),?_⟩;simp [R1.ins,R1.line P1 hp,R1.last P1 hp,low,e2,oN,e3]
    ·cases h1
  obtain ⟨st2,a2,rows2,R2,P2,n2,y3,e2⟩:=mid;have go:bR [.ref k,.int p] st=(ai [bg,bF,aP,ax,b8] ja [some (.ref k),some (.int p),none,none] st).bind aH:=by rw [bR,aI];rfl
  cases b1 with
  | false =>
   rw [yH (by simp)] at h2;cases h2;refine ⟨st2,a2,rows2,?_,R2,P2⟩;rw [go];exact ao e0 (ao e1 (dh e2))
  | true =>
   rw [yI rfl] at h2;cases h2;obtain ⟨st3,e3,R3⟩:=Fo (q:=S.s p) R2 (by rw [n2];exact hl1);refine ⟨st3,a2,rows2,?_,R3,DN P2⟩;rw [go];exact ao e0 (ao e1 (ao e2 (ao (sl':=[some (.ref k),some (.int p),some (.int (S.s p:Int)),y3]) (st':=st3) (by simp [R2.ins,e3]) (dh rfl))))
 ·cases h
end
end LW
namespace LW
open PySem PySem.Spec L2 R
open SX (Sh Nz NE gI NK)
noncomputable def qI:List Nat->Bool
 | []=>true
 | x::l=>!decide (x ∈ l) && qI l
def wg (w m:Nat) (S:Sh):Bool:=rV S && qI (S.hd++S.sd) && qI S.tn && (S.hd++S.sd++S.tn).all (fun q=>Nat.blt q (w + m)) && (List.range (w + m)).all fun q=>decide (q ∈ S.hd++S.sd)
def nX (S:Sh) (w m cc:Nat):List Int:=(List.range w).map fun q=>match (List.range m).find? fun i=>S.s i == q with
 | some i=>S.t i cc
 | none=>0
def AA (S:Sh) (w m p:Nat):List Int:=(List.range (w + m)).map fun q=>match (List.range w).find? fun j=>S.h j == q with
 | some j=>if q ∈ S.tn then S.t p j else - S.t p j
 | none=>if q=S.s p then (if q ∈ S.tn then - S.d else S.d) else 0
def mZ (S:Sh) (w m p:Nat) (HO:Nat->List Int):List Int:=(List.range m).map fun x=>wt (AA S w (m + 1) p) HO w w x
def qU (w m p N:Nat) (z:Gv) (S:Sh):Option (Bool × Sh):=if z.eq=true then uX w m p N S else uW w m p N S
def u7 (w m N:Nat):Nat->List Gv->Sh->Option (Option Nat × Sh)
 | _,[],S=>some (none,S)
 | p,z::l,S=>match qU w m p N z S with
  | none=>none
  | some (true,S')=>u7 w m N (p + 1) l S'
  | some (false,S')=>some (some p,S')
def mM (w m:Nat) (HO:Nat->List Int) (p:Nat) (S:Sh):Option AV:=if wg w (m + 1) S=true then some (.tup [.str "never",.fz (iL (aT (mZ S w m p HO)))]) else none
def iW (w m:Nat) (HO:Nat->List Int) (S:Sh):Option AV:=if wg w (m + 1) S=true then some (.tup [.str "least",.tup [.int (gI (aT [- S.t m w,S.d]) 0),.int (gI (aT [- S.t m w,S.d]) 1)],.tup [.fz (iL ((aT (nX S w (m + 1) w++[S.d])).take w)),.int (gI (aT (nX S w (m + 1) w++[S.d])) w)],.int (gI (aT (mZ S w m m HO++[S.d])) m),.fz (iL ((aT (mZ S w m m HO++[S.d])).take m))]) else none
def i7 (w m:Nat) (q:Nat) (S:Sh):Option AV:=if wg w (m + 1) S=true then some (.tup [.str "endless",.tup [.fz (iL ((aT (nX S w (m + 1) w++[S.d])).take w)),.int (gI (aT (nX S w (m + 1) w++[S.d])) w)],.fz (iL (aT (if S.h q < w then (nX S w (m + 1) q).set (S.h q) S.d else nX S w (m + 1) q)))]) else none
def K6 (w m N:Nat) (HO:Nat->List Int):Option Nat × Sh->Option AV
 | (some p,S)=>mM w m HO p S
 | (none,S)=>(gy w (m + 1) m N S).bind fun r=>match r with
  | (none,S')=>iW w m HO S'
  | (some q,S')=>i7 w m q S'
def mW (w:Nat) (RR:List (List Int)) (HO:Nat->List Int) (gv:List Gv) (goal:List Int) (N:Nat):Option AV :=
 (u7 w (RR.length + gv.length + 1) N RR.length gv (SX.openS w (aR RR gv goal) (w + RR.length))).bind (K6 w (RR.length + gv.length) N HO)
section
variable {w m:Nat}{S:Sh}{st:aa}{k a b c g n u p:Nat}{rows:List AV}{HO:Nat->List Int}
theorem oS:∀ {l:List Nat},qI l=true->l.Nodup
 | [],_=>List.nodup_nil
 | x::l,h=>by
  unfold qI at h;rw [zC] at h;exact List.nodup_cons.mpr ⟨by simpa using h.1,oS h.2⟩
structure OkS (w m:Nat) (S:Sh):Prop where
 pm:SX.Pm w m S.h S.s
 bd:S.d.natAbs < 1000000000/\∀ i,i < m->∀ j,j < w + 1->(S.t i j).natAbs < 1000000000
 nt:S.tn.Nodup
 ht:∀ q ∈ S.tn,q < w + m
theorem qG (P:Nz w m S) (h:wg w m S=true):OkS w m S:=by
 unfold wg at h;simp only [zC,yP] at h;obtain ⟨⟨⟨⟨h1,h2⟩,h3⟩,h4⟩,h5⟩:=h;have h2:=oS h2;have h4:∀ q ∈ S.hd++S.sd++S.tn,q < w + m:=fun q hq=>by simpa using h4 q hq
 have hh:∀ j,j < w->S.hd[j]?=some (S.h j):=fun j hj=>by
  show S.hd[j]?=some (S.hd.getD j 0);rw [zD,zF (by rw [P.hd];exact hj)];rfl
 have hs:∀ j,j < m->S.sd[j]?=some (S.s j):=fun j hj=>by
  show S.sd[j]?=some (S.sd.getD j 0);rw [zD,zF (by rw [P.sd];exact hj)];rfl
 rw [List.nodup_append] at h2;obtain ⟨n1,n2,n3⟩:=h2;have inj:∀ {l:List Nat}{i j x:Nat},l.Nodup->l[i]?=some x->l[j]?=some x->i=j:=fun {l i j x} hn e1 e2=>by
  obtain ⟨a1,a2⟩:=zB.mp e1;obtain ⟨b1,b2⟩:=zB.mp e2;have hp:=List.pairwise_iff_getElem.mp hn;rcases Nat.lt_trichotomy i j with h | h | h
  ·exact absurd (a2.trans b2.symm) (hp i j a1 b1 h)
  ·exact h
  ·exact absurd (b2.trans a2.symm) (hp j i b1 a1 h)
 refine ⟨⟨fun j hj=>h4 _ ?_,fun j hj=>h4 _ ?_,fun i j hi hj e=>inj n1 (hh i hi) (by rw [e];exact hh j hj),fun i j hi hj e=>inj n2 (hs i hi) (by rw [e];exact hs j hj),fun j i hj hi=>n3 _ (zW (hh j hj)) _ (zW (hs i hi)),fun q hq=>?_⟩,?_,oS h3,fun q hq=>h4 q (zK _ hq)⟩
 ·exact zL _ (zL _ (zW (hh j hj)))
 ·exact zL _ (zK _ (zW (hs j hj)))
 ·have:=h5 q (List.mem_range.mpr hq)
  rw [yC,zZ] at this;rcases this with h | h
  ·obtain ⟨j,hj⟩:=z9 h
   have hl:=(zB.mp hj).1;rw [P.hd] at hl;rw [hh j hl] at hj;exact .inr ⟨j,hl,yE hj⟩
  ·obtain ⟨j,hj⟩:=z9 h
   have hl:=(zB.mp hj).1;rw [P.sd] at hl;rw [hs j hl] at hj;exact .inl ⟨j,hl,yE hj⟩
 ·unfold rV at h1
  rw [zC,zC,yC,yP] at h1;obtain ⟨⟨h1,_⟩,h3⟩:=h1;refine ⟨h1,fun i hi j hj=>?_⟩;have hl:S.ls[i]?=some (SX.row S i):=by
   show S.ls[i]?=some (S.ls.getD i []);rw [zD,zF (by rw [P.ls];exact hi)];rfl
  have:=h3 _ (zW hl)
  rw [yP] at this;show (gI (SX.row S i) j).natAbs < _;unfold gI;rw [zD];cases e:(SX.row S i)[j]? with
  | none=>decide
  | some x=>simpa using this x (zW e)
theorem OkS.b89 (O:OkS w m S):S.d.natAbs < 2 ^ 8900/\∀ i,i < m->∀ j,j < w + 1->(S.t i j).natAbs < 2 ^ 8900:=by
 have big:1000000000 < 2 ^ 8900:=zJ (show 1000000000 < 2 ^ 30 by decide) (Nat.pow_le_pow_right dC dC);exact ⟨Nat.lt_trans O.bd.1 big,fun i hi j hj=>Nat.lt_trans (O.bd.2 i hi j hj) big⟩
theorem OkS.b90 (O:OkS w m S):Bd w m S:=by
 have big:1000000000 < 2 ^ 9000:=zJ (show 1000000000 < 2 ^ 30 by decide) (Nat.pow_le_pow_right dC dC);exact ⟨Nat.lt_trans O.bd.1 big,fun i hi j hj=>Nat.lt_trans (O.bd.2 i hi j hj) big⟩
theorem rj {l l':List Int} (h1:l.length=l'.length) (h2:∀ q,q < l.length->gI l q=gI l' q):l=l':=by
 refine List.ext_getElem h1 fun q h h'=>?_
 have:=h2 q h
 unfold gI at this;rw [zD,zD,zF h,zF h'] at this;exact this
theorem re {f:Nat->Int}{N q:Nat} (h:q < N):gI ((List.range N).map f) q=f q:=by
 unfold gI;rw [zD,zR,List.getElem?_range h];rfl
theorem u6 {cc:Nat}{X:List Int} (h:GX S w cc m X):X=nX S w m cc:=by
 refine rj (by simp [nX,h.len]) fun q hq=>?_
 rw [h.len] at hq;unfold nX;rw [re hq];split
 ·rename_i i hi
  have h1:=List.find?_some hi;have h2:=List.mem_range.mp (List.mem_of_find?_eq_some hi);rw [beq_iff_eq] at h1;subst h1;exact h.at_ i h2 hq
 ·rename_i hi
  exact h.no q hq fun i hi' e=>by
   have:=List.find?_eq_none.mp hi i (List.mem_range.mpr hi')
   simp [e] at this
theorem GV {T:List Int} (h:TK S w m p T):T=AA S w m p:=by
 refine rj (by simp [AA,h.len]) fun q hq=>?_
 rw [h.len] at hq;unfold AA;rw [re hq];split
 ·rename_i i hi
  have h1:=List.find?_some hi;have h2:=List.mem_range.mp (List.mem_of_find?_eq_some hi);rw [beq_iff_eq] at h1;subst h1;exact h.hd i h2
 ·rename_i hi
  by_cases e:q=S.s p
  ·rw [yI e];subst e;exact h.sd
  ·rw [yH e]
   exact h.no q hq (fun i hi' e=>by
    have:=List.find?_eq_none.mp hi i (List.mem_range.mpr hi')
    simp [e] at this) e
theorem t9 {T W:List Int} (h:TK S w (m + 1) p T) (hl:W.length=m) (hW:∀ x,x < m->gI W x=wt T HO w w x):W=mZ S w m p HO:=by
 refine rj (by simp [mZ,hl]) fun q hq=>?_
 rw [hl] at hq;unfold mZ;rw [re hq,hW q hq,GV h]
end
structure JY (nn:Int) (w:Nat) (RR:List (List Int)) (HO:Nat->List Int) (gv:List Gv) (goal:List Int):Prop where
 HR:∀ st,pm aJ [.int nn] st=some (.fz (aF RR),st)
 HA:∀ st,pm ag [.int nn] st=some (.int w,st)
 H:HOk nn w RR.length HO
 r:∀ l ∈ RR,l.length=w
 g:∀ z ∈ gv,z.row.length=w
 o:goal.length=w
 hw:w <= 15
 hR:RR.length <= 100
 hg:gv.length <= 100
section
variable {w m:Nat}{RR:List (List Int)}{gv:List Gv}{goal:List Int}{nn:Int}{HO:Nat->List Int}{S:Sh}{st:aa}{k a b c g n u p nr:Nat}{rows:List AV}
theorem As (O:OkS w (m + 1) S) (hp:p < m + 1) (H:HOk nn w nr HO) (hw:w <= 15) {T W:List Int} (hT:TK S w (m + 1) p T) (hl:W.length=m) (hW:∀ x,x < m->gI W x=wt T HO w w x):∀ x ∈ W,x.natAbs < 2 ^ 9000:=fun x hx=>by
 obtain ⟨j,hj⟩:=z9 hx;have hjl:=(zB.mp hj).1;have eg:gI W j=x:=by unfold gI;rw [zD,hj];rfl
 rw [<- eg,hW j oM];exact GS (hT.bd hp O.pm O.b89) H hw j
theorem CP (R:Rep st k a b c g n u rows S) (P:Nz w (m + 1) S) (hp:p < m + 1) (HA:∀ st,pm ag [.int nn] st=some (.int w,st)) (H:HOk nn w nr HO) (hnr:nr <= m) (hw:w <= 15) (hm:m + 1 <= 400) (h:mM w m HO p S=some t) :
  ∃ st1 st2,aN [.int nn,.ref k,.int p] st=some (.ref (st.length + 1),st1)/\pm ak [.ref (st.length + 1)] st1=some (.fz (iL (aT (mZ S w m p HO))),st2)/\t=.tup [.str "never",.fz (iL (aT (mZ S w m p HO)))]:=by
 unfold mM at h;split at h
 ·rename_i ok
  cases h;have O:=qG P ok;obtain ⟨z,e1,T,W,hT,hl,hW,hz1,hz2⟩:=Ar R P O.pm hp O.nt O.ht oM oM HA H hnr;obtain ⟨z1,z2⟩:=z;dsimp only at hz1 hz2;subst hz1;subst hz2;have gW:(st++[Nq.lst (iL T)]++[Nq.lst (iL W)])[st.length + 1]?=some (.lst (iL W)):=by
   have:(st++[Nq.lst (iL T)]).length=st.length + 1:=by simp
   rw [<- this];exact gl
  obtain ⟨st2,e2,_⟩:=kP (fn:=ak) (rest:=[]) (st:=st++[Nq.lst (iL T)]++[Nq.lst (iL W)]) (x:=.ref (st.length + 1)) (l:=W) (.inr ⟨_,rfl,.inl gW⟩) rfl rfl (fun s=>rfl) (pV oM (As O hp H hw hT hl hW)) rfl (by simp [cL]);rw [t9 hT hl hW] at e2;exact ⟨_,st2,e1,by rw [t9 hT hl hW];exact e2,rfl⟩
 ·cases h
theorem zm (R:Rep st k a b c g n u rows S) (P:Nz w (m + 1) S) (HA:∀ st,pm ag [.int nn] st=some (.int w,st)) (H:HOk nn w nr HO) (hnr:nr <= m) (hw:w <= 15) (hm:m + 1 <= 400) (h:iW w m HO S=some t) :
  ∃ st2,bt [.int nn,.ref k,.int m] st=some (t,st2)/\rsl st2 t=some t:=by
 unfold iW at h;split at h
 ·rename_i ok
  cases h;have O:=qG P ok;have B:=O.b90;have hp:m < m + 1:=by omega
  obtain ⟨z,e1,T,W,hT,hl,hW,hz1,hz2⟩:=Ar R P O.pm hp O.nt O.ht oM oM HA H hnr;obtain ⟨z1,z2⟩:=z;dsimp only at hz1 hz2;subst hz1;subst hz2;have R2:=(R.app (ys:=[Nq.lst (iL T)])).app (ys:=[Nq.lst (iL W)]);have wb:∀ x ∈ W++[S.d],x.natAbs < 2 ^ 9000:=fun x hx=>by
   rcases zZ.mp hx with h | h
   ·exact As O hp H hw hT hl hW x h
   ·rw [zM.mp h];exact B.1
  have e2:=qO (l:=W++[S.d]) (st:=st++[Nq.lst (iL T)]++[Nq.lst (iL W)]) (by simp [hl];omega) wb;obtain ⟨X,T',st3,e3,rfl,hX,R3⟩:=AC R2 P O.pm B HA oM oM;have fr:=Gn (a:=- S.t m w) (b:=S.d) (st:=st) (by rw [Int.natAbs_neg];exact B.2 m hp w oM) B.1;rw [<- u6 hX,<- t9 hT hl hW];refine ⟨st3,?_,rfl⟩;have ll:(aT (W++[S.d])).length=m + 1:=by rw [mP];simp [hl]
  rw [bt,aI];unfold eZ;refine ao (sl':=[some (.int nn),some (.ref k),some (.int m),some (.tup [.int (gI (aT [- S.t m w,S.d]) 0),.int (gI (aT [- S.t m w,S.d]) 1)]),none]) (st':=st) (by simp [R.ins,R.line P hp,R.last P hp,fr]) ?_;refine ao (sl':=[some (.int nn),some (.ref k),some (.int m),some (.tup [.int (gI (aT [- S.t m w,S.d]) 0),.int (gI (aT [- S.t m w,S.d]) 1)]),some (.fz (iL (aT (W++[S.d]))))]) (st':=st++[Nq.lst (iL T)]++[Nq.lst (iL W)]) ?_ ?_
  ·have gW:(st++[Nq.lst (iL T)]++[Nq.lst (iL W)])[st.length + 1]?=some (.lst (iL W)):=by
    have:(st++[Nq.lst (iL T)]).length=st.length + 1:=by simp
    rw [<- this];exact gl
   have c:=jy (ks:=[cb,aN,ak,aW]) (a:=.ca false 1 (.cons (.v 0) (.cons (.v 1) (.cons (.v 2) .nil)))) (b:=.nw false (.li (.cons (.fd "Sheet" "below" (.v 1)) .nil)))
    (sl:=[some (.int nn),some (.ref k),some (.int m),some (.tup [.int (gI (aT [- S.t m w,S.d]) 0),.int (gI (aT [- S.t m w,S.d]) 1)]),none]) (st:=st) (s1:=st++[Nq.lst (iL T)]++[Nq.lst (iL W)]) (s2:=st++[Nq.lst (iL T)]++[Nq.lst (iL W)]) (x:=.ref (st.length + 1)) (y:=.fz [AV.int S.d]) (l:=W) (l':=[S.d])
    (by simp only [qb,jf,kF,qa,mY,mX,bind_some,uw,qT,qS];exact e1) (by simp [-List.append_assoc,cM,R2.ins]) (bz gW) rfl (by simp [hl];omega)
   simp only [oK,qb,jf,kF,mG,c,bind_some,nW,ite_true,AU,qT,qS,e2,Ab];rfl
  ·have xl:cU st3 (.fz (iL (aT (W++[S.d])))) (.int (-1))=some (.int (gI (aT (W++[S.d])) m)):=by rw [cT iD,o4 (n:=m) (by simp [ll]),b9 oM]
   simp [-List.append_assoc,e3,pj,pi,rD ll,xl]
 ·cases h
theorem KU (hw:w <= 100) (hm:m <= 1000) (hp:p < m) {N:Nat}{z:Gv}{S':Sh}{bb:Bool} (h:qU w m p N z S=some (bb,S')) (P:Nz w m S) (R:Rep st k a b c g n u rows S) :
  ∃ st' a' rows',(if z.eq=true then bR else bj) [.ref k,.int p] st=some (.bl bb,st')/\Rep st' k a' b c g n u rows' S'/\Nz w m S':=by
 unfold qU at h;by_cases e:z.eq=true
 ·rw [yI e] at h ⊢;exact HP hw hm hp h P R
 ·rw [yH e] at h ⊢;exact HN hw hm hp h P R
end
section
variable {w m:Nat}{RR:List (List Int)}{gv:List Gv}{goal:List Int}{nn:Int}{HO:Nat->List Int}
theorem An (q:JY nn w RR HO gv goal) {N:Nat}{t:AV} (h:mW w RR HO gv goal N=some t):∃ z,ff [.int nn,.fz (gv.map Gv.av),.fz (iL goal)] []=some z/\rsl z.2 z.1=some t:=by
 obtain ⟨m,hm⟩:∃ m,m=RR.length + gv.length:=⟨_,rfl⟩;have hLl:(aR RR gv goal).length=m + 1:=by rw [Je,hm]
 obtain ⟨st1,e1,R1⟩:=E5 (gv:=gv) (goal:=goal) q.HR q.HA q.hw q.hR q.r q.hg q.g q.o;have P1:Nz w (m + 1) (SX.openS w (aR RR gv goal) (w + RR.length)):=by
  have hLen:∀ l ∈ aR RR gv goal,l.length=w + 1:=fun l hl=>by
   unfold aR at hl;simp only [zZ,yD,zM] at hl;rcases hl with (⟨r,hr,rfl⟩ | ⟨z,hz,rfl⟩) | rfl
   ·simp [q.r r hr]
   ·simp [q.g z hz]
   ·simp [q.o]
  exact ⟨hLl,hLen,by simp [SX.openS],by simp [SX.openS,hLl]⟩
 unfold mW at h;rw [<- hm] at h;obtain ⟨rr,h1,h2⟩:=zA h;have sm:=q.hg;have sm2:=q.hR;have sm3:=q.hw;rw [ff];simp only [aI];unfold mV;refine aK (sl':=[some (.int nn),some (.fz (gv.map Gv.av)),some (.fz (iL goal)),some (.ref 1),none,none,none,none,none]) (st':=st1) (by simp [e1]) ?_;have l2:bq st1 (.ref 2)=some (aF (aR RR gv goal)):=bz R1.ha;refine aK (sl':=[some (.int nn),some (.fz (gv.map Gv.av)),some (.fz (iL goal)),some (.ref 1),some (.int (m:Int)),none,none,none,none]) (st':=st1) (by simp [R1.ins,bQ,eE,l2,hLl]) ?_;have loop:=oX (gd:=[]) (g:=bU [bB,bR,bj,aN,ak,bu,bt,aW,bV] (.tu 2 (.cons (.nm 5) (.cons (.nm 6) .nil))))
  (s:=ai [bB,bR,bj,aN,ak,bu,bt,aW,bV] (.cons (.as (.ife (.cmp .Eq (.ix (.v 6) (.i 1)) (.s "=")) (.ca false 1 (.cons (.v 3) (.cons (.v 5) .nil))) (.ca false 2 (.cons (.v 3) (.cons (.v 5) .nil)))) (.nm 7))
   (.cons (.iff (.no (.va (.v 7))) (.cons (.rt (.tu (.cons (.s "never") (.cons (.ca true 4 (.cons (.ca false 3 (.cons (.v 0) (.cons (.v 3) (.cons (.v 5) .nil)))) .nil)) .nil)))) .nil) .nil) .nil)))
  (I:=fun i sl s=>∃ a rows S x5 x6 x7,sl=[some (.int nn),some (.fz (gv.map Gv.av)),some (.fz (iL goal)),some (.ref 1),some (.int (m:Int)),x5,x6,x7,none]/\Rep s 1 a 3 4 5 6 7 rows S/\Nz w (m + 1) S/\u7 w (m + 1) N (RR.length + i) (gv.drop i) S=some rr)
  (Post:=fun v s=>rsl s v=some t) (xs:=eA RR.length (gv.map Gv.av)) (fun _ _ _ _ _=>rfl)
  (fun i y sl s hy hI=>by
   obtain ⟨a,rows,S,x5,x6,x7,rfl,R,P,hv⟩:=hI;obtain ⟨x,hx,rfl⟩:=Dd hy;rw [zR] at hx;obtain ⟨z,hz,rfl⟩:=zE.mp hx;have hi:=(zB.mp hz).1;have hp:RR.length + i < m + 1:=by omega
   have hd:gv.drop i=z::gv.drop (i + 1):=by rw [List.drop_eq_getElem_cons hi,(zB.mp hz).2]
   rw [hd] at hv;unfold u7 at hv;cases hk:qU w (m + 1) (RR.length + i) N z S with
   | none=>rw [hk] at hv;cases hv
   | some rk =>
    rw [hk] at hv;obtain ⟨bb,S'⟩:=rk;obtain ⟨s2,a2,rows2,e2,R2,P2⟩:=KU oM oM hp hk P R;have es:cN [bB,bR,bj,aN,ak,bu,bt,aW,bV] (.as (.ife (.cmp .Eq (.ix (.v 6) (.i 1)) (.s "=")) (.ca false 1 (.cons (.v 3) (.cons (.v 5) .nil))) (.ca false 2 (.cons (.v 3) (.cons (.v 5) .nil)))) (.nm 7)) [some (.int nn),some (.fz (gv.map Gv.av)),some (.fz (iL goal)),some (.ref 1),some (.int (m:Int)),some (.int ((RR.length + i:Nat):Int)),some z.av,x7,none] s
      = some (.nx [some (.int nn),some (.fz (gv.map Gv.av)),some (.fz (iL goal)),some (.ref 1),some (.int (m:Int)),some (.int ((RR.length + i:Nat):Int)),some z.av,some (.bl bb),none] s2):=by
     cases hze:z.eq with
     | true =>
      rw [hze,yI rfl] at e2;have xi:cU s z.av (.int 1)=some (.str "="):=by
       have:z.av=.tup [.fz (iL z.row),.str "=",.int z.num]:=by unfold Gv.av;rw [hze];rfl
       rw [this];rfl
      simp only [oK,Au,pT,xD,qa,vz,Jf,mY,mX,bind_some,xi,map_some,Iu,ite_true,qb,jf,kF,uw,qT,qS,e2,Ab];rfl
     | false =>
      rw [hze,yH (by simp)] at e2;have xi:cU s z.av (.int 1)=some (.str ">"):=by
       have:z.av=.tup [.fz (iL z.row),.str ">",.int z.num]:=by unfold Gv.av;rw [hze];rfl
       rw [this];rfl
      simp only [oK,Au,pT,xD,qa,vz,Jf,mY,mX,bind_some,xi,map_some,Ig,yB,ite_false,qb,jf,kF,uw,qT,qS,e2,Ab];rfl
    cases bb with
    | true =>
     refine ⟨_,.nx [some (.int nn),some (.fz (gv.map Gv.av)),some (.fz (iL goal)),some (.ref 1),some (.int (m:Int)),some (.int ((RR.length + i:Nat):Int)),some z.av,some (.bl true),none] s2,rfl,ay es ?_,.inl ⟨_,s2,rfl,a2,rows2,S',_,_,_,rfl,R2,P2,hv⟩⟩;simp [fy,bq,dr]
    | false =>
     cases hv;obtain ⟨s3,s4,e3,e4,rfl⟩:=CP R2 P2 hp q.HA q.H oM q.hw oM h2;refine ⟨_,.rt (.tup [.str "never",.fz (iL (aT (mZ S' w m (RR.length + i) HO)))]) s4,rfl,ay es ?_,.inr ⟨_,s4,rfl,rfl⟩⟩;rw [Int.natCast_add] at e3;simp [fy,bq,dr,e3,e4]) (sl:=[some (.int nn),some (.fz (gv.map Gv.av)),some (.fz (iL goal)),some (.ref 1),some (.int (m:Int)),none,none,none,none]) (st:=st1) ⟨2,_,_,none,none,none,rfl,R1,P1,h1⟩
 have ei:dS [bB,bR,bj,aN,ak,bu,bt,aW,bV] (.es (.v 1) (.bin .Sub (.v 4) (.bi .len (.cons (.v 1) .nil)))) [some (.int nn),some (.fz (gv.map Gv.av)),some (.fz (iL goal)),some (.ref 1),some (.int (m:Int)),none,none,none,none] st1=some (⟨eA RR.length (gv.map Gv.av),[]⟩,st1):=by
  have h1:(m:Int) - (gv.length:Int)=(RR.length:Int):=by omega
  have h2:Nat.ble RR.length 1000000=true:=yL oM;simp [u4,bQ,eE,h1];omega
 rcases loop with ⟨sl',st2,e2,a,rows,S,x5,x6,x7,rfl,R,P,hv⟩ | ⟨v,st2,e2,ht⟩
 ·rw [show (eA RR.length (gv.map Gv.av)).length=gv.length by unfold eA;simp,List.drop_length] at hv
  cases hv;refine aK (sl':=[some (.int nn),some (.fz (gv.map Gv.av)),some (.fz (iL goal)),some (.ref 1),some (.int (m:Int)),x5,x6,x7,none]) (st':=st2) (by rw [mJ,ei,bind_some];exact e2) ?_;have h2:((gy w (m + 1) m N S).bind fun r=>match r with
   | (none,S')=>iW w m HO S'
   | (some q,S')=>i7 w m q S')=some t:=h2
  obtain ⟨⟨oq,S2⟩,h3,h4⟩:=zA h2;obtain ⟨st3,a3,rows3,e3,R3,P3,hq⟩:=De oM oM oM h3 P R;cases oq with
  | none =>
   obtain ⟨st4,e4,h5⟩:=zm R3 P3 q.HA q.H oM q.hw oM h4;refine aK (sl':=[some (.int nn),some (.fz (gv.map Gv.av)),some (.fz (iL goal)),some (.ref 1),some (.int (m:Int)),x5,x6,x7,some .non]) (st':=st3) (by simp [R.ins,e3,oN]) ?_;exact ⟨(t,st4),by simp [e4],h5⟩
  | some qq =>
   have q1:=hq qq rfl;refine aK (sl':=[some (.int nn),some (.fz (gv.map Gv.av)),some (.fz (iL goal)),some (.ref 1),some (.int (m:Int)),x5,x6,x7,some (.int (qq:Int))]) (st':=st3) (by simp [R.ins,e3,oN]) ?_;have h4:i7 w m qq S2=some t:=h4;unfold i7 at h4;split at h4
   ·rename_i ok
    have O:=qG P3 ok;obtain ⟨X,T,st4,e4,rfl,hX,R4⟩:=AC R3 P3 O.pm O.b90 q.HA oM oM;obtain ⟨X2,st5,e5,hX2⟩:=GT R4 P3 O.pm O.b90 q.HA oM oM q1;rw [<- u6 hX,<- u6 hX2] at h4;cases h4;exact ⟨(_,st5),by simp [e4,e5];rfl,rfl⟩
   ·cases h4
 ·exact ⟨(v,st2),dh (by rw [mJ,ei,bind_some];exact e2),ht⟩
end
end LW
namespace LW
open PySem PySem.Spec L2 R
open SX (gI NK)
noncomputable def RR2:List (List Int):=[[0,-1,1],[-1,0,1],[1,1,-1]]
noncomputable def J7:Nat->List Int
 | 1=>[1,0,1]
 | 2=>[0,1,1]
 | _=>[1,1,1]
noncomputable def RR3:List (List Int):=[[0,0,0,0,0,-1,1],[0,0,0,0,-1,0,1],[0,0,-1,0,0,0,1],[1,1,-1,0,0,0,0],[0,0,0,-1,1,1,-1],[1,0,0,1,-1,0,0],[0,-1,1,0,0,1,-1],[0,1,0,1,0,-1,0],[-1,0,1,0,1,0,-1]]
noncomputable def J6:Nat->List Int
 | 1=>[1,0,0,1,0,0,1,0,0]
 | 2=>[0,1,0,1,0,0,0,0,1]
 | 3=>[1,1,0,1,0,0,1,0,1]
 | 4=>[0,0,1,0,0,1,0,0,1]
 | 5=>[1,0,1,1,0,0,1,0,1]
 | 6=>[0,1,1,1,0,0,1,0,1]
 | _=>[1,1,1,1,0,0,1,0,1]
theorem bw (hr:rfs args=true) (h:((fn args []).bind fun p=>rsl p.2 p.1)=some t):pm fn args st=some (t,st):=by
 obtain ⟨p,h1,h2⟩:=zA h;exact cV hr h1 h2
theorem u5 {nn:Int}{grp:Nat} (h:(((bX [.int nn,.int grp,.int 0] []).bind fun p=>rsl p.2 p.1).bind fun rr=>if rf rr=true then (c8 [.int nn,rr] []).bind fun p=>rsl p.2 p.1 else none)=some (.fz (iL l))) :
  ∃ rr,(∀ st,pm bX [.int nn,.int grp,.int 0] st=some (rr,st))/\∀ st,pm c8 [.int nn,rr] st=some (.fz (iL l),st):=by
 obtain ⟨rr,h1,h2⟩:=zA h;split at h2
 ·rename_i hr
  exact ⟨rr,fun st=>bw rfl h1,fun st=>bw (by simp [hr]) h2⟩
 ·cases h2
theorem Mo:∀ st,pm ag [.int 2] st=some (.int ((3:Nat):Int),st):=fun st=>bw rfl (by kernel_rfl)
theorem Mn:∀ st,pm ag [.int 3] st=some (.int ((7:Nat):Int),st):=fun st=>bw rfl (by kernel_rfl)
theorem Mg:∀ st,pm aJ [.int 2] st=some (.fz (aF RR2),st):=fun st=>bw rfl (by kernel_rfl)
theorem Mf:∀ st,pm aJ [.int 3] st=some (.fz (aF RR3),st):=fun st=>bw rfl (by kernel_rfl)
theorem Ml:HOk 2 3 RR2.length J7:=by
 refine ⟨fun grp h1 h2=>?_,fun grp h1 h2=>?_,fun grp h1 h2=>?_⟩
 ·have:grp=1\/grp=2\/grp=3:=by omega
  rcases this with rfl | rfl | rfl <;> exact u5 (by kernel_rfl)
 ·have:grp=1\/grp=2\/grp=3:=by omega
  rcases this with rfl | rfl | rfl <;> rfl
 ·have:grp=1\/grp=2\/grp=3:=by omega
  rcases this with rfl | rfl | rfl <;> decide
theorem Mj:HOk 3 7 RR3.length J6:=by
 refine ⟨fun grp h1 h2=>?_,fun grp h1 h2=>?_,fun grp h1 h2=>?_⟩
 ·have:grp=1\/grp=2\/grp=3\/grp=4\/grp=5\/grp=6\/grp=7:=by omega
  rcases this with rfl | rfl | rfl | rfl | rfl | rfl | rfl <;> exact u5 (by kernel_rfl)
 ·have:grp=1\/grp=2\/grp=3\/grp=4\/grp=5\/grp=6\/grp=7:=by omega
  rcases this with rfl | rfl | rfl | rfl | rfl | rfl | rfl <;> rfl
 ·have:grp=1\/grp=2\/grp=3\/grp=4\/grp=5\/grp=6\/grp=7:=by omega
  rcases this with rfl | rfl | rfl | rfl | rfl | rfl | rfl <;> decide
noncomputable def RR4:List (List Int):=[[0,0,0,0,0,0,0,0,0,0,0,0,0,-1,1],[0,0,0,0,0,0,0,0,0,0,0,0,-1,0,1],[0,0,0,0,0,0,0,0,0,0,-1,0,0,0,1],[0,0,0,0,0,0,-1,0,0,0,0,0,0,0,1],[1,1,-1,0,0,0,0,0,0,0,0,0,0,0,0],[0,0,0,-1,1,1,-1,0,0,0,0,0,0,0,0],[0,0,0,0,0,0,0,-1,1,1,-1,0,0,0,0],[0,0,0,0,0,0,0,0,0,0,0,-1,1,1,-1],[1,0,0,1,-1,0,0,0,0,0,0,0,0,0,0],[0,-1,1,0,0,1,-1,0,0,0,0,0,0,0,0],[0,0,0,0,0,0,0,-1,1,0,0,1,-1,0,0],[0,0,0,0,0,0,0,0,0,-1,1,0,0,1,-1],[1,0,0,0,0,0,0,1,-1,0,0,0,0,0,0],[0,-1,1,0,0,0,0,0,0,1,-1,0,0,0,0],[0,0,0,-1,1,0,0,0,0,0,0,1,-1,0,0],[0,0,0,0,0,-1,1,0,0,0,0,0,0,1,-1],[0,1,0,1,0,-1,0,0,0,0,0,0,0,0,0],[-1,0,1,0,1,0,-1,0,0,0,0,0,0,0,0],[0,0,0,0,0,0,0,-1,0,1,0,1,0,-1,0],[0,0,0,0,0,0,0,0,-1,0,1,0,1,0,-1],[0,1,0,0,0,0,0,1,0,-1,0,0,0,0,0],[-1,0,1,0,0,0,0,0,1,0,-1,0,0,0,0],[0,0,0,-1,0,1,0,0,0,0,0,1,0,-1,0],[0,0,0,0,-1,0,1,0,0,0,0,0,1,0,-1],[0,0,0,1,0,0,0,1,0,0,0,-1,0,0,0],[-1,0,0,0,1,0,0,0,1,0,0,0,-1,0,0],[0,-1,0,0,0,1,0,0,0,1,0,0,0,-1,0],[0,0,-1,0,0,0,1,0,0,0,1,0,0,0,-1]]
noncomputable def J5:Nat->List Int
 | 1=>[1,0,0,0,1,0,0,0,0,1,0,0,0,0,0,1,0,0,0,0,0,0,0,0,0,0,0,0]
 | 2=>[0,1,0,0,1,0,0,0,0,0,0,0,0,0,0,0,0,1,0,0,0,0,0,1,0,0,0,0]
 | 3=>[1,1,0,0,1,0,0,0,0,1,0,0,0,0,0,1,0,1,0,0,0,0,0,1,0,0,0,0]
 | 4=>[0,0,1,0,0,0,0,0,1,0,0,0,0,0,0,0,0,1,0,0,0,0,0,0,0,0,0,1]
 | 5=>[1,0,1,0,1,0,0,0,0,1,0,0,0,0,0,1,0,1,0,0,0,0,0,0,0,0,0,1]
 | 6=>[0,1,1,0,1,0,0,0,0,1,0,0,0,0,0,0,0,1,0,0,0,0,0,1,0,0,0,1]
 | 7=>[1,1,1,0,1,0,0,0,0,1,0,0,0,0,0,1,0,1,0,0,0,0,0,1,0,0,0,1]
 | 8=>[0,0,0,1,0,0,0,0,0,0,0,0,1,0,0,0,0,0,0,0,0,1,0,0,0,0,0,1]
 | 9=>[1,0,0,1,1,0,0,0,0,1,0,0,0,0,0,1,0,0,0,0,0,1,0,0,0,0,0,1]
 | 10=>[0,1,0,1,1,0,0,0,0,0,0,0,0,1,0,0,0,1,0,0,0,0,0,1,0,0,0,1]
 | 11=>[1,1,0,1,1,0,0,0,0,1,0,0,0,0,0,1,0,1,0,0,0,0,0,1,0,0,0,1]
 | 12=>[0,0,1,1,0,0,0,0,1,0,0,0,0,0,1,0,0,1,0,0,0,0,0,1,0,0,0,1]
 | 13=>[1,0,1,1,1,0,0,0,0,1,0,0,0,0,0,1,0,1,0,0,0,0,0,1,0,0,0,1]
 | 14=>[0,1,1,1,1,0,0,0,0,1,0,0,0,0,0,1,0,1,0,0,0,0,0,1,0,0,0,1]
 | _=>[1,1,1,1,1,0,0,0,0,1,0,0,0,0,0,1,0,1,0,0,0,0,0,1,0,0,0,1]
theorem Mm:∀ st,pm ag [.int 4] st=some (.int ((15:Nat):Int),st):=fun st=>bw rfl (by kernel_rfl)
theorem Me:∀ st,pm aJ [.int 4] st=some (.fz (aF RR4),st):=fun st=>bw rfl (by kernel_rfl)
theorem Mh:HOk 4 15 RR4.length J5:=by
 refine ⟨fun grp h1 h2=>?_,fun grp h1 h2=>?_,fun grp h1 h2=>?_⟩ <;> have:grp=1\/grp=2\/grp=3\/grp=4\/grp=5\/grp=6\/grp=7\/grp=8\/grp=9\/grp=10\/grp=11\/grp=12\/grp=13\/grp=14\/grp=15:=by omega
 ·rcases this with rfl | rfl | rfl | rfl | rfl | rfl | rfl | rfl | rfl | rfl | rfl | rfl | rfl | rfl | rfl <;> exact u5 (by kernel_rfl)
 ·rcases this with rfl | rfl | rfl | rfl | rfl | rfl | rfl | rfl | rfl | rfl | rfl | rfl | rfl | rfl | rfl <;> rfl
 ·rcases this with rfl | rfl | rfl | rfl | rfl | rfl | rfl | rfl | rfl | rfl | rfl | rfl | rfl | rfl | rfl <;> decide
end LW
namespace LW
open PySem PySem.Spec L2 R
section
variable {ks:List Fn}{sl:Sl}{st:aa}{ss:Nw}{P:AV × aa->Prop}
theorem qo {s:Sx}{v:AV}{st':aa} (h:cN ks s sl st=some (.rt v st')) (hp:P (v,st')):∃ r,(ai ks (.cons s ss) sl st).bind aH=some r/\P r:=⟨_,dh h,hp⟩
theorem qp {α:Type}{em:α->AV}{it:Ix}{t:Tg}{b:Nw}{xs:List α}{gd:Gd}{st0:aa} (I:Nat->Sl->aa->Prop) (hi:dS ks it sl st=some (⟨xs.map em,gd⟩,st0)) (hg:∀ i sl st,I i sl st->bN gd st=true) (h0:I 0 sl st0)
  (h:∀ i x sl st,xs[i]?=some x->I i sl st->∃ p sl2 st2,bU ks t (em x) sl st=some p/\ai ks b p.1 p.2=some (.nx sl2 st2)/\I (i + 1) sl2 st2)
  (hr:∀ sl' st',I xs.length sl' st'->∃ r,(ai ks ss sl' st').bind aH=some r/\P r):∃ r,(ai ks (.cons (.fo it t b) ss) sl st).bind aH=some r/\P r:=by
 obtain ⟨sl',st',e,hI⟩:=dM (gd:=gd) (g:=bU ks t) (s:=ai ks b) (I:=I) (xs:=xs.map em) (fun i sl st _ hI=>hg i sl st hI) (fun i y sl st hy hI=>by
  rw [zR] at hy;obtain ⟨x,hx,rfl⟩:=zE.mp hy;exact h i x sl st hx hI) h0
 rw [zH] at hI;obtain ⟨r,e2,hp⟩:=hr sl' st' hI;exact ⟨r,ao (by rw [mJ,hi,bind_some];exact e) e2,hp⟩
theorem GR {α:Type}{em:α->AV}{it:Ix}{t:Tg}{b:Nw}{xs:List α}{gd:Gd}{st0:aa}{Q:Out->Prop} (I:Nat->Sl->aa->Prop) (hi:dS ks it sl st=some (⟨xs.map em,gd⟩,st0)) (hg:∀ i sl st,I i sl st->bN gd st=true) (h0:I 0 sl st0)
  (h:∀ i x sl st,xs[i]?=some x->I i sl st->∃ p sl2 st2,bU ks t (em x) sl st=some p/\ai ks b p.1 p.2=some (.nx sl2 st2)/\I (i + 1) sl2 st2)
  (hr:∀ sl' st',I xs.length sl' st'->∃ r,ai ks ss sl' st'=some r/\Q r):∃ r,ai ks (.cons (.fo it t b) ss) sl st=some r/\Q r:=by
 obtain ⟨sl',st',e,hI⟩:=dM (gd:=gd) (g:=bU ks t) (s:=ai ks b) (I:=I) (xs:=xs.map em) (fun i sl st _ hI=>hg i sl st hI) (fun i y sl st hy hI=>by
  rw [zR] at hy;obtain ⟨x,hx,rfl⟩:=zE.mp hy;exact h i x sl st hx hI) h0
 rw [zH] at hI;obtain ⟨r,e2,hp⟩:=hr sl' st' hI;exact ⟨r,ay (by rw [mJ,hi,bind_some];exact e) e2,hp⟩
end
section
variable {ks:List Fn}{sl:Sl}{st:aa}{ss:Nw}{P:AV × aa->Prop}
theorem jD {α β:Type}{em:β->AV}{it:Ix}{t:Tg}{b:Nw}{xs:List β}{gd:Gd}{st0:aa} (I:Nat->α->Sl->aa->Prop) (f:α->β->α) (a:α) (hi:dS ks it sl st=some (⟨xs.map em,gd⟩,st0)) (h0:I 0 a sl st0) (hg:∀ i a sl st,I i a sl st->bN gd st=true)
  (h:∀ i a x sl st,xs[i]?=some x->I i a sl st->∃ p sl2 st2,bU ks t (em x) sl st=some p/\ai ks b p.1 p.2=some (.nx sl2 st2)/\I (i + 1) (f a x) sl2 st2)
  (hr:∀ sl' st',I xs.length (xs.foldl f a) sl' st'->∃ r,(ai ks ss sl' st').bind aH=some r/\P r):∃ r,(ai ks (.cons (.fo it t b) ss) sl st).bind aH=some r/\P r:=by
 refine qp (fun i=>I i ((xs.take i).foldl f a)) hi (fun i=>hg _ _) h0 (fun i x sl st hx hI=>?_) fun sl' st' hI=>hr sl' st' (by rwa [List.take_length] at hI)
 obtain ⟨p,sl2,st2,h1,h2,h3⟩:=h i _ x sl st hx hI;refine ⟨p,sl2,st2,h1,h2,?_⟩;rw [List.take_add_one,hx,Option.toList_some,List.foldl_append];exact h3
theorem BL {α β:Type}{em:β->AV}{it:Ix}{t:Tg}{b:Nw}{xs:List β}{gd:Gd}{st0:aa}{Q:Out->Prop} (I:Nat->α->Sl->aa->Prop) (f:α->β->α) (a:α) (hi:dS ks it sl st=some (⟨xs.map em,gd⟩,st0)) (h0:I 0 a sl st0) (hg:∀ i a sl st,I i a sl st->bN gd st=true)
  (h:∀ i a x sl st,xs[i]?=some x->I i a sl st->∃ p sl2 st2,bU ks t (em x) sl st=some p/\ai ks b p.1 p.2=some (.nx sl2 st2)/\I (i + 1) (f a x) sl2 st2)
  (hr:∀ sl' st',I xs.length (xs.foldl f a) sl' st'->∃ r,ai ks ss sl' st'=some r/\Q r):∃ r,ai ks (.cons (.fo it t b) ss) sl st=some r/\Q r:=by
 refine GR (fun i=>I i ((xs.take i).foldl f a)) hi (fun i=>hg _ _) h0 (fun i x sl st hx hI=>?_) fun sl' st' hI=>hr sl' st' (by rwa [List.take_length] at hI)
 obtain ⟨p,sl2,st2,h1,h2,h3⟩:=h i _ x sl st hx hI;refine ⟨p,sl2,st2,h1,h2,?_⟩;rw [List.take_add_one,hx,Option.toList_some,List.foldl_append];exact h3
end
noncomputable def aj (os:List Nat) (g:Nat):Bool:=os.any fun o=>o &&& g == o
section
variable {st:aa}{os:List Nat}{g:Nat}
theorem Bs {α:Type}{f:α->Bool}:∀ {l:List α},bQ rX [.fz (l.map fun x=>AV.bl (f x))] st=some (.bl (l.any f),st):=by
 intro l;have h:aG sC (l.map fun x=>AV.bl (f x))=some (l.map f):=by
  induction l with
  | nil=>rfl
  | cons x l ih=>simp [aG,sC,ih]
 show (((aG sC (l.map fun x=>AV.bl (f x))).map fun bs=>AV.bl (bs.any id)).map fun z=>(z,st))=_;rw [h];show some (AV.bl ((l.map f).any id),st)=_;rw [List.any_map];rfl
theorem Db {x y:Nat}{z:Option AV} (hx:x < 16) (hy:y < 16):ev [] (Ex.cmp CmpOp.Eq (Ex.bin Operator.BitAnd (Ex.v 2) (Ex.un UnaryOp.Invert (Ex.v 1))) (Ex.i 0)) [z,some (.int (y:Int)),some (.int (x:Int))] []=some (.bl (x &&& y == x),[]):=by
 have t:∀ x:Nat,x < 16->∀ y:Nat,y < 16->(match ev [] (Ex.cmp CmpOp.Eq (Ex.bin Operator.BitAnd (Ex.v 2) (Ex.un UnaryOp.Invert (Ex.v 1))) (Ex.i 0)) [none,some (.int (y:Int)),some (.int (x:Int))] [] with
  | some (.bl b,[])=>b == (x &&& y == x)
  | _=>false)=true:=by decide +kernel
 have t:=t x hx y hy;split at t
 ·rename_i b e
  rw [yK t] at e;exact e
 ·cases t
theorem lK (ho:∀ o ∈ os,o < 16) (hl:os.length <= 1000) (hg:g < 16):pm cW [.fz (nL os),.int (g:Int)] st=some (.bl (aj os g),st):=by
 refine cV (by simp [rfs,rf,fB]) (v:=.bl (aj os g)) (st':=[]) ?_ rfl;rw [cW,aI];unfold o0 nL;refine dh ?_;simp [-Av];rw [d6 (B:=fun _=>true) (F:=fun o:Nat=>.bl (o &&& g == o)) dL fun o ho'=>⟨_,rfl,rfl,fun _=>?_⟩]
 ·rw [List.filter_eq_self.mpr (fun _ _=>rfl)]
  have hf:rfs (os.map fun o:Nat=>AV.bl (o &&& g == o))=true:=fU fun x hx=>by obtain ⟨i,_,rfl⟩:=yD.mp hx;rfl
  have h:=Bs (st:=[]) (f:=fun o:Nat=>o &&& g == o) (l:=os);simp [bv hl,hf,h,aj]
 ·exact Db (ho o ho') hg
end
noncomputable def eF:Nat->List (List Nat)
 | 2=>[[],[2]]
 | 3=>[[],[2],[4],[2,4],[6]]
 | _=>[[],[2],[4],[8],[2,4],[2,8],[4,8],[2,4,8],[6],[10],[12],[6,8],[4,10],[2,12],[6,10],[6,12],[10,12],[6,10,12],[14]]
def kM (n:Nat) (os:List Nat):List Bool:=(List.range (2 ^ (n - 1))).map fun i=>aj os (2 * i)
section
variable {os:List Nat}{n:Nat}
theorem cP {g h:Nat} (s:g &&& h=g) (e:aj os g=true):aj os h=true:=by
 unfold aj at e ⊢;rw [List.any_eq_true] at e ⊢;obtain ⟨o,h1,h2⟩:=e;have h2:=yK h2;refine ⟨o,h1,?_⟩;rw [beq_iff_eq]
 calc o &&& h=(o &&& g) &&& h:=by rw [h2]
  _=o &&& g:=by rw [Nat.and_assoc,s]
  _=o:=h2
theorem yq (h:∀ o ∈ os,0 < o):aj os 0=false:=by
 unfold aj;rw [List.any_eq_false];intro o ho
 have:=h o ho
 simp;omega
noncomputable def jo (a b:Bool):Bool:=!a || b
theorem fD {a b:Bool} (h:a=true->b=true):jo a b=true:=by cases a <;> cases b <;> simp_all [jo]
theorem Kr:∀ a:Bool,[false,a] ∈ (eF 2).map (kM 2):=by decide +kernel
theorem Kq:∀ a b c:Bool,(jo a c && jo b c)=true->[false,a,b,c] ∈ (eF 3).map (kM 3):=by decide +kernel
theorem Kp:∀ a b c d e f g:Bool,(jo a c && jo b c && jo a e && jo d e && jo b f && jo d f && jo c g && jo e g && jo f g)=true->[false,a,b,c,d,e,f,g] ∈ (eF 4).map (kM 4):=by decide +kernel
theorem DT (hn:n=2\/n=3\/n=4) (h:∀ o ∈ os,0 < o):kM n os ∈ (eF n).map (kM n):=by
 have z:=yq h;rcases hn with rfl | rfl | rfl
 ·have:=Kr (aj os 2);rw [<- z] at this;exact this
 ·have:=Kq (aj os 2) (aj os 4) (aj os 6) (by simp only [zC];exact ⟨fD (cP rfl),fD (cP rfl)⟩)
  rw [<- z] at this;exact this
 ·have:=Kp (aj os 2) (aj os 4) (aj os 6) (aj os 8) (aj os 10) (aj os 12) (aj os 14) (by
   simp only [zC];exact ⟨⟨⟨⟨⟨⟨⟨⟨fD (cP rfl),fD (cP rfl)⟩,fD (cP rfl)⟩,fD (cP rfl)⟩,fD (cP rfl)⟩,fD (cP rfl)⟩,fD (cP rfl)⟩,fD (cP rfl)⟩,fD (cP rfl)⟩)
  rw [<- z] at this;exact this
theorem DU {F:List Nat} (h:kM n os=kM n F) {i:Nat} (hi:i < 2 ^ (n - 1)):aj os (2 * i)=aj F (2 * i):=by
 have:=congrArg (fun l=>l[i]?) h
 simpa [kM,hi] using this
theorem Gz (hn:n=2\/n=3\/n=4) (h:∀ o ∈ os,0 < o):∃ F ∈ eF n,∀ i,i < 2 ^ (n - 1)->aj os (2 * i)=aj F (2 * i):=by
 obtain ⟨F,hF,e⟩:=yD.mp (DT hn h);exact ⟨F,hF,fun i hi=>DU e.symm hi⟩
end
def aS (n:Nat):List Nat:=(List.range (2 ^ (n - 1))).map (2 * ·)
def bD (n:Nat) (ts:List (Nat × Int)):List Int:=(List.range (2 ^ n - 1)).map fun x=>(ts.filter fun t=>t.1 == x + 1).foldl (fun a t=>a + t.2) 0
def Az (n g:Nat):Gv:=⟨bD n [(g + 1,1),(g,-1)],true,0⟩
def AH (n g:Nat):Gv:=⟨bD n [(1,1),(g,1),(g + 1,-1)],true,0⟩
def c9 (n g:Nat) (b:Bool):List Gv:=if b=true then [Az n g] else if g=0 then [] else [AH n g]
def bE (n:Nat) (B:Nat->Bool):List Gv:=(aS n).foldl (fun a g=>a++c9 n g (B g)) [⟨bD n [(1,1)],true,1⟩]
def cw (n:Nat):Prop:=n=2\/n=3\/n=4
section
variable {st:aa}{os:List Nat}{n g:Nat}
theorem FU (hn:cw n):pm bY [.int n] st=some (.fz (nL (aS n)),st):=by
 rcases hn with rfl | rfl | rfl <;> exact bw rfl (by kernel_rfl)
theorem oe (hn:cw n) (h:g ∈ aS n):(n=2/\(g=0\/g=2))\/(n=3/\(g=0\/g=2\/g=4\/g=6))\/(n=4/\(g=0\/g=2\/g=4\/g=6\/g=8\/g=10\/g=12\/g=14)):=by
 obtain ⟨i,hi,rfl⟩:=yD.mp h;have hi:=List.mem_range.mp hi;rcases hn with rfl | rfl | rfl
 ·have:i < 2:=hi;omega
 ·have:i < 4:=hi;omega
 ·have:i < 8:=hi;omega
theorem oa (hn:cw n) (h:g ∈ aS n):g < 16:=by have:=oe hn h;omega
theorem BR (hn:cw n) (h:g ∈ aS n):pm fx [.int n,.int g,.int 1] st=some ((Az n g).av,st):=by
 rcases oe hn h with ⟨rfl,rfl | rfl⟩ | ⟨rfl,rfl | rfl | rfl | rfl⟩ | ⟨rfl,rfl | rfl | rfl | rfl | rfl | rfl | rfl | rfl⟩ <;> exact bw rfl (by kernel_rfl)
theorem xN (hn:cw n) (h:g ∈ aS n) (h0:g ≠ 0):pm d3 [.int n,.int 1,.int g,.int 0] st=some ((AH n g).av,st):=by
 rcases oe hn h with ⟨rfl,rfl | rfl⟩ | ⟨rfl,rfl | rfl | rfl | rfl⟩ | ⟨rfl,rfl | rfl | rfl | rfl | rfl | rfl | rfl | rfl⟩ <;> first | exact absurd rfl h0 | exact bw rfl (by kernel_rfl)
end
end LW
namespace LW
open PySem PySem.Spec L2 R
open SX (gI)
theorem lN {a b:Int} (h:a.natAbs < 2 ^ 62):cJ a b=true:=by
 unfold cJ;have:Nat.ble a.natAbs.log2 62=true:=yL (by
  by_cases hz:a.natAbs=0
  ·rw [hz];decide
  ·exact yW ((Nat.log2_lt hz).mpr h))
 rw [this];simp
theorem A2 {a b:Int} (h:b.natAbs < 2 ^ 62):cJ a b=true:=by
 unfold cJ;have:Nat.ble b.natAbs.log2 62=true:=yL (by
  by_cases hz:b.natAbs=0
  ·rw [hz];decide
  ·exact yW ((Nat.log2_lt hz).mpr h))
 rw [this];simp
theorem lS {a b:Int} (h:0 < b):k9 a b=a % b:=yI h
theorem Bf {a b:Int} (h:0 < b):tL a b=a / b:=yI h
theorem nM {a b:Int} (h:0 < b):0 <= a % b/\a % b < b:=⟨Int.emod_nonneg _ oM,Int.emod_lt_of_pos _ h⟩
theorem HG {c:Int}{k:Nat} (hk:k <= 1000):∃ m:Int,pm cA [.int c,.int k] st=some (.int m,st)/\0 <= m/\m < 2147483629:=by
 have hkk:((k:Int) * (k:Int)).natAbs < 2 ^ 62:=by
  rw [Int.natAbs_mul,Int.natAbs_natCast];have:k * k <= 1000 * 1000:=Nat.mul_le_mul hk hk;exact yM this dC
 obtain ⟨x,hx⟩:∃ x,x=(c % 2147483647 + (k:Int) * (k:Int) * 7919 + 104729) * 48271 % 2147483647:=⟨_,rfl⟩;have xr:=nM (a:=(c % 2147483647 + (k:Int) * (k:Int) * 7919 + 104729) * 48271) (b:=2147483647) dC;rw [<- hx] at xr;have xs:x.natAbs < 2 ^ 62:=by have:(2:Nat) ^ 62=4611686018427387904:=dC;omega
 refine ⟨(x * x + 69621 * (k:Int)) % 2147483629,cV rfl (v:=.int ((x * x + 69621 * (k:Int)) % 2147483629)) (st':=[]) ?_ rfl,(nM dC).1,(nM dC).2⟩;have m1:cJ (k:Int) (k:Int)=true:=lN (by rw [Int.natAbs_natCast];exact yM hk dC);have m2:cJ ((k:Int) * (k:Int)) 7919=true:=A2 dC;have m3:cJ (c % 2147483647 + (k:Int) * (k:Int) * 7919 + 104729) 48271=true:=A2 dC;have m4:cJ x x=true:=lN xs;have m5:cJ 69621 (k:Int)=true:=lN dC;rw [cA,aI];unfold jP;refine ao (sl':=[some (.int c),some (.int (k:Int)),some (.int x)]) (st':=[]) ?_ ?_
 ·simp [eO (show (2147483647:Int) ≠ 0 by decide),lS (show (0:Int) < 2147483647 by decide),cz m1,cz m2,cz m3,<- hx]
 ·simp [eO (show (2147483629:Int) ≠ 0 by decide),lS (show (0:Int) < 2147483629 by decide),cz m4,cz m5]
theorem ut:cp .Pow st (.int 10) (.int 18)=some (.int 1000000000000000000):=by kernel_rfl
theorem Df (hn:ns.length <= 63):∃ A B D,dy [.fz (iL ns),.int 1,.int 40] []=some (.ref 2,[A,B,Nq.lst (iL D)])/\D.length=40/\∀ x ∈ D,0 <= x/\x < 2147483587:=by
 obtain ⟨C,hC⟩:∃ C,C=ns++[1]:=⟨_,rfl⟩;have lC:C.length=ns.length + 1:=by rw [hC];simp
 obtain ⟨sl',st',e,lf,fd,y6,y7,y8,rfl,rfl,h1,h2,h3⟩:=dM (gd:=[]) (g:=bU [cA] (.nm 6)) (s:=ai [cA] (.cons (.as (.bin .Mod (.v 6) (.bi .len (.cons (.v 3) .nil))) (.nm 7))
 (.cons (.as (.ca true 0 (.cons (.ix (.v 3) (.v 7)) (.cons (.v 6) .nil))) (.nm 8))
 (.cons (.as (.bin .Mod (.bin .Add (.bin .Mult (.v 8) (.v 8)) (.bin .Mult (.i 7) (.v 6))) (.i 2147483587)) (.nm 8))
 (.cons (.iff (.an (.cmp .GtE (.ix (.v 3) (.v 7)) (.bin .Pow (.i 10) (.i 18))) (.cmp .Gt (.ix (.v 4) (.v 7)) (.i 0)))
 (.cons (.as (.bin .Mod (.ix (.v 4) (.v 7)) (.i 2147483587)) (.nm 8))
 (.cons (.as (.bin .FloorDiv (.ix (.v 4) (.v 7)) (.i 2147483587)) (.su (.v 4) (.v 7)))
 .nil))
 .nil)
 (.cons (.ex (.mt .app (.v 5) (.cons (.v 8) .nil)))
 .nil))))))
  (I:=fun i sl s=>∃ lf fd y6 y7 y8,s=[Nq.lst (iL lf),Nq.lst (iL fd)]/\sl=[some (.fz (iL ns)),some (.int 1),some (.int 40),some (.fz (iL C)),some (.ref 0),some (.ref 1),y6,y7,y8]/\lf.length=C.length/\fd.length=i/\∀ x ∈ fd,0 <= x/\x < 2147483587) (xs:=cH 0 41) (fun _ _ _ _ _=>rfl)
  (fun i y sl s hy hI=>by
   obtain ⟨lf,fd,y6,y7,y8,rfl,rfl,h1,h2,h3⟩:=hI;rw [nq] at hy;have hi:i < 41:=by have:=(zB.mp hy).1;simpa using this
   have ey:y=.int ((i:Nat):Int):=by
    rw [fW (by simpa using hi)] at hy;injection hy with hy;rw [<- hy];simp [zD,hi]
   subst ey;obtain ⟨q,hq⟩:∃ q,q=i % C.length:=⟨_,rfl⟩;have ql:q < C.length:=by rw [hq];exact Nat.mod_lt _ oM
   obtain ⟨m,em,m0,m1⟩:=HG (c:=gI C q) (k:=i) oM (st:=[Nq.lst (iL lf),Nq.lst (iL fd)]);have xC:cU [Nq.lst (iL lf),Nq.lst (iL fd)] (.fz (iL C)) (.int (q:Int))=some (.int (gI C q)):=by rw [cT iD,cG,b9 ql]
   have xL:cU [Nq.lst (iL lf),Nq.lst (iL fd)] (.ref 0) (.int (q:Int))=some (.int (gI lf q)):=by rw [cT (bz rfl),cG,b9 oM]
   have mm:cJ m m=true:=lN (by have:(2:Nat) ^ 62=4611686018427387904:=dC;omega);have m7:cJ 7 (i:Int)=true:=lN dC;have am:k9 ((i:Nat):Int) ((C.length:Nat):Int)=((q:Nat):Int):=by rw [lS oM,hq];simp
   have P0:(0:Int) < 2147483587:=by decide
   -- the number
   have app:∀ (lf':List Int) (x:Int) (z8:Option AV),cN [cA] (.ex (.mt .app (.v 5) (.cons (.v 8) .nil))) [some (.fz (iL ns)),some (.int 1),some (.int 40),some (.fz (iL C)),some (.ref 0),some (.ref 1),some (.int (i:Int)),some (.int (q:Int)),some (.int x)] [Nq.lst (iL lf'),Nq.lst (iL fd)]=some (.nx [some (.fz (iL ns)),some (.int 1),some (.int 40),some (.fz (iL C)),some (.ref 0),some (.ref 1),some (.int (i:Int)),some (.int (q:Int)),some (.int x)] [Nq.lst (iL lf'),Nq.lst (iL (fd++[x]))]):=fun lf' x _=>by
    rw [oJ,Br (k:=1) (xs:=iL fd) (y:=.int x) rfl rfl rfl (by simp;omega),F8,wN];rfl
   by_cases hc:1000000000000000000 <= gI C q/\0 < gI lf q
   ·refine ⟨_,[some (.fz (iL ns)),some (.int 1),some (.int 40),some (.fz (iL C)),some (.ref 0),some (.ref 1),some (.int (i:Int)),some (.int (q:Int)),some (.int (gI lf q % 2147483587))],[Nq.lst (iL (lf.set q (gI lf q / 2147483587))),Nq.lst (iL (fd++[gI lf q % 2147483587]))],rfl,?_,_,_,_,_,_,rfl,rfl,by simp [h1],by simp [h2],fun x hx=>?_⟩
    ·refine ay (sl':=[some (.fz (iL ns)),some (.int 1),some (.int 40),some (.fz (iL C)),some (.ref 0),some (.ref 1),some (.int (i:Int)),some (.int (q:Int)),y8]) (st':=[Nq.lst (iL lf),Nq.lst (iL fd)]) ?_ ?_
     ·simp [bQ,eE,eO (show ((C.length:Nat):Int) ≠ 0 by omega),am]
     refine ay (sl':=[some (.fz (iL ns)),some (.int 1),some (.int 40),some (.fz (iL C)),some (.ref 0),some (.ref 1),some (.int (i:Int)),some (.int (q:Int)),some (.int m)]) (st':=[Nq.lst (iL lf),Nq.lst (iL fd)]) (by simp [xC,em]) ?_;refine ay (sl':=[some (.fz (iL ns)),some (.int 1),some (.int 40),some (.fz (iL C)),some (.ref 0),some (.ref 1),some (.int (i:Int)),some (.int (q:Int)),some (.int ((m * m + 7 * (i:Int)) % 2147483587))]) (st':=[Nq.lst (iL lf),Nq.lst (iL fd)]) ?_ ?_
     ·simp [cz mm,cz m7,eO (show (2147483587:Int) ≠ 0 by decide),lS P0]
     refine ay (sl':=[some (.fz (iL ns)),some (.int 1),some (.int 40),some (.fz (iL C)),some (.ref 0),some (.ref 1),some (.int (i:Int)),some (.int (q:Int)),some (.int (gI lf q % 2147483587))]) (st':=[Nq.lst (iL (lf.set q (gI lf q / 2147483587))),Nq.lst (iL fd)]) ?_ (ay (app _ _ none) rfl);have dv:i8 2147483587=true:=by decide
     have hs:=dj (st:=[Nq.lst (iL lf),Nq.lst (iL fd)]) (k:=0) (q:=q) (xs:=iL lf) (x:=.int (gI lf q / 2147483587)) rfl (by simp;omega);rw [fE] at hs;simp [xC,xL,ut,hc.1,hc.2,eO (show (2147483587:Int) ≠ 0 by decide),lS P0,lX dv,Bf P0,hs]
    ·rcases zZ.mp hx with h | h
     ·exact h3 x h
     ·rw [zM.mp h];exact nM P0
   ·refine ⟨_,[some (.fz (iL ns)),some (.int 1),some (.int 40),some (.fz (iL C)),some (.ref 0),some (.ref 1),some (.int (i:Int)),some (.int (q:Int)),some (.int ((m * m + 7 * (i:Int)) % 2147483587))],[Nq.lst (iL lf),Nq.lst (iL (fd++[(m * m + 7 * (i:Int)) % 2147483587]))],rfl,?_,_,_,_,_,_,rfl,rfl,h1,by simp [h2],fun x hx=>?_⟩
    ·refine ay (sl':=[some (.fz (iL ns)),some (.int 1),some (.int 40),some (.fz (iL C)),some (.ref 0),some (.ref 1),some (.int (i:Int)),some (.int (q:Int)),y8]) (st':=[Nq.lst (iL lf),Nq.lst (iL fd)]) ?_ ?_
     ·simp [bQ,eE,eO (show ((C.length:Nat):Int) ≠ 0 by omega),am]
     refine ay (sl':=[some (.fz (iL ns)),some (.int 1),some (.int 40),some (.fz (iL C)),some (.ref 0),some (.ref 1),some (.int (i:Int)),some (.int (q:Int)),some (.int m)]) (st':=[Nq.lst (iL lf),Nq.lst (iL fd)]) (by simp [xC,em]) ?_;refine ay (sl':=[some (.fz (iL ns)),some (.int 1),some (.int 40),some (.fz (iL C)),some (.ref 0),some (.ref 1),some (.int (i:Int)),some (.int (q:Int)),some (.int ((m * m + 7 * (i:Int)) % 2147483587))]) (st':=[Nq.lst (iL lf),Nq.lst (iL fd)]) ?_ ?_
     ·simp [cz mm,cz m7,eO (show (2147483587:Int) ≠ 0 by decide),lS P0]
     refine ay (sl':=[some (.fz (iL ns)),some (.int 1),some (.int 40),some (.fz (iL C)),some (.ref 0),some (.ref 1),some (.int (i:Int)),some (.int (q:Int)),some (.int ((m * m + 7 * (i:Int)) % 2147483587))]) (st':=[Nq.lst (iL lf),Nq.lst (iL fd)]) ?_ (ay (app _ _ none) rfl);by_cases hc1:1000000000000000000 <= gI C q
     ·have hc2:¬ 0 < gI lf q:=fun z=>hc ⟨hc1,z⟩
      simp [xC,xL,ut,hc1,hc2]
     ·simp [xC,ut,hc1]
    ·rcases zZ.mp hx with h | h
     ·exact h3 x h
     ·rw [zM.mp h];exact nM P0) (sl:=[some (.fz (iL ns)),some (.int 1),some (.int 40),some (.fz (iL C)),some (.ref 0),some (.ref 1),none,none,none]) (st:=[Nq.lst (iL (C.map fun x=>x / 100000)),Nq.lst (iL [])]) ⟨_,[],none,none,none,rfl,rfl,by simp,rfl,by simp⟩
 have rl:(cH 0 41).length=41:=by decide
 rw [rl] at h2;refine ⟨Nq.lst (iL lf),Nq.lst (iL fd),fd.drop 1,?_,by simp [h2],fun x hx=>h3 x (List.mem_of_mem_drop hx)⟩;rw [dy,aI];unfold iw;refine ao (sl':=[some (.fz (iL ns)),some (.int 1),some (.int 40),some (.fz (iL C)),none,none,none,none,none]) (st':=[]) ?_ ?_
 ·have cu:cut (iL ns) none (some 63)=iL ns:=by
   unfold cut;have:HT.NC (iL ns).length (iL ns).length (some 63)=(iL ns).length:=by
    rw [show (63:Int)=((63:Nat):Int) from rfl,HT.sIx_nat,ic];omega
   rw [this,HT.sIx_none,List.drop_zero,Nat.sub_zero,List.take_length]
  have c:=jy (ks:=[cA]) (a:=.nw false (.sl (.v 0) .no (.so (.i 63)))) (b:=.nw false (.li (.cons (.v 1) .nil))) (sl:=[some (.fz (iL ns)),some (.int 1),some (.int 40),none,none,none,none,none,none]) (st:=[]) (s1:=[]) (s2:=[]) (x:=.fz (iL ns)) (y:=.fz [AV.int 1]) (l:=ns) (l':=[1]) (by simp [pj,pi,cu]) (by simp [cM]) rfl rfl (by simp;omega);simp [-uB,c,hC]
 refine ao (sl':=[some (.fz (iL ns)),some (.int 1),some (.int 40),some (.fz (iL C)),some (.ref 0),none,none,none,none]) (st':=[Nq.lst (iL (C.map fun x=>x / 100000))]) ?_ ?_
 ·have dv:i8 100000=true:=by decide
  simp [bv (show C.length <= 1000 by omega)];rw [jI (F:=fun x=>x / 100000) dL fun x hx=>⟨_,rfl,rfl,by simp [lX dv,Bf (show (0:Int) < 100000 by decide)]⟩];simp
 refine ao (sl':=[some (.fz (iL ns)),some (.int 1),some (.int 40),some (.fz (iL C)),some (.ref 0),some (.ref 1),none,none,none]) (st':=[Nq.lst (iL (C.map fun x=>x / 100000)),Nq.lst (iL [])]) (by simp [cM,iL]) ?_;refine ao (sl':=[some (.fz (iL ns)),some (.int 1),some (.int 40),some (.fz (iL C)),some (.ref 0),some (.ref 1),y6,y7,y8]) (st':=[Nq.lst (iL lf),Nq.lst (iL fd)]) ?_ ?_
 ·have rb:eV 41=true:=by decide
  have:dS [cA] (.r1 (.bin .Add (.v 1) (.v 2))) [some (.fz (iL ns)),some (.int 1),some (.int 40),some (.fz (iL C)),some (.ref 0),some (.ref 1),none,none,none] [Nq.lst (iL (C.map fun x=>x / 100000)),Nq.lst (iL [])]=some (⟨cH 0 41,[]⟩,[Nq.lst (iL (C.map fun x=>x / 100000)),Nq.lst (iL [])]):=by
   simp [wM,rb]
  rw [mJ,this,bind_some];exact e
 ·have cu:cut (iL fd) (some 1) none=iL (fd.drop 1):=by
   unfold cut;rw [HT.sIx_none,show (1:Int)=((1:Nat):Int) from rfl,HT.sIx_nat,ic,h2,tF];rw [List.take_of_length_le (by simp [h2])];rfl
  have l1:bq [Nq.lst (iL lf),Nq.lst (iL fd)] (.ref 1)=some (iL fd):=bz rfl;simp [pj,pi,l1,cu]
theorem uu {r:Nat}{x:Int} (h:st[r]?=some (.lst (iL (D++[x])))):bZ [.ref r] st=some (.int x,st.set r (.lst (iL D))):=by
 have hp:∀ l:List Int,aG (aO 8 st) (iL l)=some (l.map PyData.int):=fun l=>cR (f:=aO 8 st) (i:=AV.int) (g:=PyData.int) (fun _=>rfl) l
 have hl:∀ l:List Int,PyData.canLayAll0 (l.map PyData.int)=true:=fun l=>by
  induction l with
  | nil=>rfl
  | cons a l ih=>simp only [zO,PyData.canLayAll0,PyData.canLay0,ih,Bool.and_self]
 have c:cm .Eq st (.ref r) (.fz [])=some false:=by
  show gM st (.ref r) (.fz [])=_;unfold gM;have p1:aO 9 st (.ref r)=some (.list ((D++[x]).map PyData.int)):=by
   unfold aO;simp only [h,hp,map_some]
  have p2:aO 9 st (.fz [])=some (.list []):=rfl;rw [p1,p2,bind_some,bind_some,yI ?_]
  ·rw [List.map_append]
   cases D.map PyData.int <;> rfl
  ·have h1:(PyData.list ((D++[x]).map PyData.int)).canLay0=true:=by unfold PyData.canLay0;exact hl _
   have h2:(PyData.list []).canLay0=true:=rfl;have h3:min (PyData.list ((D++[x]).map PyData.int)).depth (PyData.list []).depth <= 50:=z5 (Nat.min_le_right _ _) dC;unfold DD.pyOk;rw [h1,h2,yT h3];rfl
 have e1:(iL (D++[x]))[D.length]?=some (.int x):=by unfold iL;simp
 have e2:(iL (D++[x])).dropLast=iL D:=by unfold iL;simp
 simp [bZ,aI,jO,cM,c,iz,jY,jX,jU,bz h,uN,dD,h,e1,e2];exact (zB.mp e1).2
end LW
namespace LW
open PySem PySem.Spec L2 R
theorem vG {f:AV->AV->Option AV}{h:Nat->Nat->Nat} (t:∀ x:Nat,x < 16->∀ y:Nat,y < 16->(match f (.int x) (.int y) with
  | some (.int b)=>decide (b=(h x y:Int))
  | _=>false)=true) {x y:Nat} (hx:x < 16) (hy:y < 16):f (.int (x:Int)) (.int (y:Int))=some (.int (h x y:Int)):=by
 have t:=t x hx y hy;split at t
 ·rename_i b e
  rw [of_decide_eq_true t] at e;exact e
 ·cases t
section
variable {st:aa}{os:List Nat}{n g k:Nat}
theorem oQ {x y:Nat} (hx:x < 16) (hy:y < 16):cp .BitOr st (.int (x:Int)) (.int (y:Int))=some (.int ((x ||| y:Nat):Int)):=by
 show cp .BitOr [] (.int (x:Int)) (.int (y:Int))=_;exact vG (f:=cp .BitOr []) (h:=fun x y=>x ||| y) (by decide +kernel) hx hy
theorem Bt {x y:Nat} (hx:x < 16) (hy:y < 16):cp .BitAnd st (.int (x:Int)) (.int (y:Int))=some (.int ((x &&& y:Nat):Int)):=by
 show cp .BitAnd [] (.int (x:Int)) (.int (y:Int))=_;exact vG (f:=cp .BitAnd []) (h:=fun x y=>x &&& y) (by decide +kernel) hx hy
theorem HZ {x y:Nat} (hx:x < 16) (hy:y < 16):((l7 .Invert st (.int (y:Int))).bind fun z=>cp .BitAnd st (.int (x:Int)) z)=some (.int ((x - (x &&& y):Nat):Int)):=by
 show ((l7 .Invert [] (.int (y:Int))).bind fun z=>cp .BitAnd [] (.int (x:Int)) z)=_;exact vG (f:=fun x y=>(l7 .Invert [] y).bind fun z=>cp .BitAnd [] x z) (h:=fun x y=>x - (x &&& y)) (by decide +kernel) hx hy
theorem AT {fn:Fn}{args ts:List AV}{v t:AV}{st':aa} (h0:rfs args=false) (h1:aG (rsl st) args=some ts) (h2:fn ts []=some (v,st')) (h3:rsl st' v=some t) (h4:cL t=true):pm fn args st=some (t,st):=by
 unfold pm;simp only [h0,h1,h2,h3,h4,yB,_root_.if_false,_root_.if_true,bind_some]
theorem AS {fn:Fn}{args ts:List AV}{v t:AV}{st' st2:aa} (h0:rfs args=false) (h1:aG (rsl st) args=some ts) (h2:fn ts []=some (v,st')) (h3:rsl st' v=some t) (h4:cL t=false) (h5:iH st args=some (ts,st2)):pm fn args st=some (t,st2):=by
 unfold pm;simp only [h0,h1,h2,h3,h4,h5,yB,_root_.if_false,bind_some,map_some]
theorem uv {fn:Fn}{args:List AV}{t:AV} (hr:rfs args=true) (h:pm fn args []=some (t,[])):∃ v st',fn args []=some (v,st')/\rsl st' v=some t:=by
 unfold pm at h;rw [yI hr] at h;obtain ⟨p,e1,e2⟩:=zA h;obtain ⟨q,e3,e4⟩:=zE.mp e2;cases e4;exact ⟨p.1,p.2,e1,e3⟩
def OC (st:aa) (k:Nat) (os:List Nat):Prop:=st[k]?=some (.lst (nL os))\/st[k]?=some (.al (.fz (nL os)))
theorem vQ {m:Nat}{l:List Nat}:aG (bJ m st) (nL l)=some (nL l):=cR (f:=bJ m st) (i:=fun q:Nat=>AV.int (q:Int)) (g:=fun q:Nat=>AV.int (q:Int)) (fun x=>by cases m <;> rfl) l
theorem OC.rsl (h:OC st k os):rsl st (.ref k)=some (.fz (nL os)):=by
 rcases h with h | h
 ·show bJ 6 st (.ref k)=_
  unfold bJ;simp only [h,vQ,map_some]
 ·exact qt h
theorem E3 (h:OC st k os) (ho:∀ o ∈ os,o < 16) (hl:os.length <= 1000) (hg:g < 16):pm cW [.ref k,.int (g:Int)] st=some (.bl (aj os g),st):=by
 obtain ⟨v,s,e1,e2⟩:=uv (by simp [rfs,rf,fB]) (lK (st:=[]) ho hl hg);exact AT rfl (ts:=[.fz (nL os),.int (g:Int)]) (by show (rsl st (.ref k)).bind _=_;rw [h.rsl];rfl) e1 e2 rfl
def nJ (n:Nat) (os:List Nat) (k:Nat):Bool:=(aS n).any fun g=>aj os (g ||| 2 ^ k) && !aj os (g - (g &&& 2 ^ k))
def bh (n:Nat) (os:List Nat):List Nat:=((List.range (n - 1)).map (1 + ·)).filter (nJ n os)
theorem zr (hn:cw n) (h:k ∈ (List.range (n - 1)).map (1 + ·)):k=1\/k=2\/k=3:=by
 obtain ⟨i,hi,rfl⟩:=yD.mp h;have hi:=List.mem_range.mp hi;rcases hn with rfl | rfl | rfl <;> omega
theorem AW (hn:cw n) (hk:k=1\/k=2\/k=3) (h:g ∈ aS n):g ||| 2 ^ k < 16/\g - (g &&& 2 ^ k) < 16:=by
 have:=oa hn h
 constructor
 ·have h1:g < 2 ^ 4:=this
  exact Nat.or_lt_two_pow h1 (by rcases hk with rfl | rfl | rfl <;> decide)
 ·omega
theorem wu (hn:cw n) (ho:∀ o ∈ os,o < 16) (hl:os.length <= 1000) (hk:k=1\/k=2\/k=3):pm d5 [.int n,.fz (nL os),.int ((2 ^ k:Nat):Int)] st=some (.bl (nJ n os k),st):=by
 have h16:2 ^ k < 16:=by rcases hk with rfl | rfl | rfl <;> decide
 refine cV (by simp [rfs,rf,fB]) (v:=.bl (nJ n os k)) (st':=[]) ?_ rfl;generalize hp:2 ^ k=p at h16;rw [d5,aI];unfold lA;refine dh ?_;simp [-J9,FU hn];rw [show nL (aS n)=(aS n).map fun g:Nat=>AV.int (g:Int) from rfl,d6 (B:=fun _=>true) (F:=fun g:Nat=>.bl (aj os (g ||| 2 ^ k) && !aj os (g - (g &&& 2 ^ k)))) dL fun g hg=>⟨_,rfl,rfl,fun _=>?_⟩]
 ·rw [List.filter_eq_self.mpr (fun _ _=>rfl)]
  have hf:rfs ((aS n).map fun g:Nat=>AV.bl (aj os (g ||| 2 ^ k) && !aj os (g - (g &&& 2 ^ k))))=true:=fU fun x hx=>by obtain ⟨i,_,rfl⟩:=yD.mp hx;rfl
  have h:=Bs (st:=[]) (f:=fun g:Nat=>aj os (g ||| 2 ^ k) && !aj os (g - (g &&& 2 ^ k))) (l:=aS n);have hz:(aS n).length <= 1000:=by rcases hn with rfl | rfl | rfl <;> decide
  simp [bv hz,hf,h,nJ]
 ·have hg16:=oa hn hg
  obtain ⟨l1,l2⟩:=AW hn hk hg;rw [hp] at l1 l2 ⊢;have o1:=lK (st:=[]) ho hl l1;have o2:=lK (st:=[]) ho hl l2;have i2:=HZ (st:=[]) hg16 h16;obtain ⟨z,i3,i4⟩:=zA i2;simp [oQ hg16 h16,o1,i3,i4,o2];cases aj os (g ||| p) <;> simp [Bu,A0,fy,dr]
end
section
variable {st:aa}{os:List Nat}{n g k j:Nat}
theorem G8 {ks:List Fn}{a:Ex}{sl:Sl}{n:Nat} (h:ev ks a sl st=some (.int (n:Int),st)) (hn:n <= 1000):dS ks (.r1 a) sl st=some (⟨(List.range n).map fun q:Nat=>AV.int (q:Int),[]⟩,st):=by
 show (ev ks a sl st).bind _=_;rw [h,bind_some];dsimp only;have:eV (n:Int)=true:=by
  unfold eV;refine yL ?_;rw [Int.natAbs_natCast];by_cases hz:n=0
  ·subst hz;decide
  ·exact yW ((Nat.log2_lt hz).mpr (yM hn dC))
 rw [yI this,Int.toNat_natCast,nq];rfl
theorem pZ {ks:List Fn}{a e:Ex}{sl:Sl}{y:AV}{xs:List AV}{k:Nat} (h1:ev ks a sl st=some (.ref k,st)) (h2:ev ks e sl st=some (y,st)) (h3:st[k]?=some (.lst xs)) (hl:xs.length <= 1000):cN ks (.ex (.mt .app a (.cons e .nil))) sl st=some (.nx sl (st.set k (.lst (xs++[y])))):=by
 simp [iz,jY,jX,h1,jU,bz h3,h2,jH,dD,h3,bv hl]
theorem FO {α:Type}{ks:List Fn}{k:Nat}{it:Ix}{t:Tg}{c:Cx'}{e:Ex}{sl:Sl}{gd:Gd}{em:α->AV}{B:α->Bool}{F:α->AV}{xs:List α} (hi:dS ks it sl st=some (⟨xs.map em,gd⟩,st)) (hg:bN gd st=true) (hz:xs.length <= 1000)
  (h:∀ x ∈ xs,∃ sl1,bU ks t (em x) (sl++List.replicate k none) st=some (sl1,st)/\j1 ks c sl1 st=some (B x,st)/\(B x=true->ev ks e sl1 st=some (F x,st))):gq ks (.lc k it t c e) sl st=some ((xs.filter B).map F,st):=by
 rw [KF,hi,bind_some];dsimp only;rw [yI (bv (by rw [zH];exact hz))];exact d6 hg h
theorem ze (hn:cw n) (h:OC st k os) (ho:∀ o ∈ os,o < 16) (hl:os.length <= 1000) (hj:j=1\/j=2\/j=3):pm d5 [.int n,.ref k,.int ((2 ^ j:Nat):Int)] st=some (.bl (nJ n os j),st):=by
 obtain ⟨v,s,e1,e2⟩:=uv (by simp [rfs,rf,fB]) (wu (st:=[]) hn ho hl hj);exact AT rfl (ts:=[.int n,.fz (nL os),.int ((2 ^ j:Nat):Int)]) (by simp only [aG,h.rsl,show ∀ i,rsl st (.int i)=some (.int i) from fun _=>rfl,bind_some,map_some]) e1 e2 rfl
theorem dH {b:Bool}:fy st (.bl b)=some b:=rfl
theorem AI (hj:j=1\/j=2\/j=3):cp .LShift st (.int 1) (.int (j:Int))=some (.int ((2 ^ j:Nat):Int)):=by rcases hj with rfl | rfl | rfl <;> rfl
def qR (n:Nat):List Nat:=(List.range (n - 1)).map (1 + ·)
theorem A9 {ks:List Fn}{r:Sl} (hn:cw n):dS ks (.r2 (.i 1) (.v 0)) (some (.int (n:Int))::r) st=some (⟨(qR n).map fun q:Nat=>AV.int (q:Int),[]⟩,st):=by
 rcases hn with rfl | rfl | rfl <;> rfl
theorem sx (hn:cw n) (h:OC st k os) (ho:∀ o ∈ os,o < 16) (hl:os.length <= 1000):dO [.int n,.ref k] st=some (.ref st.length,st++[.lst (nL (bh n os))]):=by
 rw [dO,aI];show (ai [d5] i9 [some (.int n),some (.ref k)] st).bind aH=_;refine dh ?_;rw [DR,xB,FO (A9 hn) rfl (by rcases hn with rfl | rfl | rfl <;> decide) (B:=nJ n os) (F:=fun q=>AV.int (q:Int)) fun q hq=>⟨[some (.int n),some (.ref k),some (.int (q:Int))],rfl,by
   have hj:=zr hn hq;have m:=ze hn h ho hl hj;have s:=AI (st:=st) hj;generalize ((2 ^ q:Nat):Int)=p at m s;simp [s,m,dH],fun _=>rfl⟩]
 rfl
theorem FK {x y:Nat} (hx:x < 16) (hy:y < 16):(x ||| y == y)=(x &&& y == x) :=
 have t:∀ x:Nat,x < 16->∀ y:Nat,y < 16->((x ||| y == y) == (x &&& y == x))=true:=by decide +kernel
 yK (t x hx y hy)
theorem HD {l:List Nat}:cm .NotEq st (.fz (nL l)) (.fz [])=some (!l.isEmpty):=by
 change (gM st (.fz (nL l)) (.fz [])).map (fun b=>!b)=_;have h1:aO 9 st (.fz (nL l))=some (.list (l.map fun q:Nat=>PyData.int (q:Int))):=by
  show (aG (aO 8 st) _).map _=_;rw [show nL l=l.map fun q:Nat=>AV.int (q:Int) from rfl,cR (f:=aO 8 st) (i:=fun q:Nat=>AV.int (q:Int)) (g:=fun q:Nat=>PyData.int (q:Int)) (fun _=>rfl)];rfl
 have h2:PyData.canLayAll0 (l.map fun q:Nat=>PyData.int (q:Int))=true:=by
  induction l with
  | nil=>rfl
  | cons x l ih=>simp only [zO,PyData.canLayAll0,PyData.canLay0,Bool.true_and];exact ih (by
    show (aG (aO 8 st) _).map _=_;rw [show nL l=l.map fun q:Nat=>AV.int (q:Int) from rfl,cR (f:=aO 8 st) (i:=fun q:Nat=>AV.int (q:Int)) (g:=fun q:Nat=>PyData.int (q:Int)) (fun _=>rfl)];rfl)
 unfold gM;rw [h1,show aO 9 st (.fz [])=some (.list []) from rfl,bind_some,bind_some,yI (by
  unfold DD.pyOk;rw [show (PyData.list (l.map fun q:Nat=>PyData.int (q:Int))).canLay0=true by simp only [PyData.canLay0,h2],yT (z5 (Nat.min_le_right _ _) dC)];rfl)]
 cases l <;> rfl
theorem Gq:(!(os.filter fun o=>o &&& g == o).isEmpty)=aj os g:=by
 unfold aj
 induction os with
 | nil=>rfl
 | cons a l ih =>
  rw [List.filter_cons,List.any_cons];cases h:(a &&& g == a)
  ·simpa using ih
  ·rfl
theorem mQ (ho:∀ o ∈ os,o < 16) (hl:os.length <= 1000) (hg:g < 16):pm b0 [.fz (nL os),.int (g:Int)] st=some (.bl (aj os g),st):=by
 refine cV (by simp [rfs,rf,fB]) (v:=.bl (aj os g)) (st':=[]) ?_ rfl;rw [b0,aI];show (ai [] iu [some (.fz (nL os)),some (.int (g:Int))] []).bind aH=_;refine dh ?_;have e:gq [] (.lc 1 (.e (.v 0)) (.nm 2) (.so (.cmp .Eq (.bin .BitOr (.v 2) (.v 1)) (.v 1))) (.v 2)) [some (.fz (nL os)),some (.int (g:Int))] []=some ((os.filter fun o=>o &&& g == o).map (fun q:Nat=>AV.int (q:Int)),[]) :=
  FO (xs:=os) (em:=fun q:Nat=>AV.int (q:Int)) (gd:=[]) rfl rfl hl fun q hq=>⟨[some (.fz (nL os)),some (.int (g:Int)),some (.int (q:Int))],rfl,by
   have h16:=ho q hq;simp only [Lb,pT,Aw,qa,mY,mX,bind_some,oQ h16 hg,map_some,Ld];rw [<- FK h16 hg];congr 2;rw [Bool.eq_iff_iff];simp;omega,fun _=>rfl⟩
 have hr:rfs ((os.filter fun o=>o &&& g == o).map (fun q:Nat=>AV.int (q:Int)))=true:=fB;rw [DR,Av,mG,e,bind_some];dsimp only;rw [yI hr,bind_some];have:ev [] (.nw false (.li .nil)) [some (.fz (nL os)),some (.int (g:Int))] []=some (.fz [],[]):=rfl;rw [this,bind_some];dsimp only;rw [LX,show ((os.filter fun o=>o &&& g == o).map (fun q:Nat=>AV.int (q:Int)))=nL (os.filter fun o=>o &&& g == o) from rfl,HD];rw [Gq];rfl
end
section
variable {st:aa}{os:List Nat}{n g k j:Nat}
theorem HJ (l:List Nat):PyData.canLayAll0 (l.map fun q:Nat=>PyData.int (q:Int))=true:=by
 induction l with
 | nil=>rfl
 | cons x l ih=>simp only [zO,PyData.canLayAll0,PyData.canLay0,Bool.true_and];exact ih
theorem kY {m:Nat}{l:List Nat}:aG (aO (m + 1) st) (nL l)=some (l.map fun q:Nat=>PyData.int (q:Int)):=cR (f:=aO (m + 1) st) (i:=fun q:Nat=>AV.int (q:Int)) (g:=fun q:Nat=>PyData.int (q:Int)) (fun _=>rfl) l
theorem F6 {c:Nat}{l:List Nat}{x:AV} (h:aO 9 st x=some (.list (l.map fun q:Nat=>PyData.int (q:Int)))) (hx:i5 st x (.int (c:Int))=none) (hs:∀ s,x ≠ .str s):jZ st (.int (c:Int)) x=some (decide (c ∈ l)):=by
 have e:jZ st (.int (c:Int)) x=(aO 9 st (.int (c:Int))).bind fun q=>(aO 9 st x).bind fun p=>match p with
   | .list ps=>if (ps.all fun r=>DD.pyOk r q)=true then some (ps.any fun r=>PyData.eqv r q) else none
   | .tuple ps=>if (ps.all fun r=>DD.pyOk r q)=true then some (ps.any fun r=>PyData.eqv r q) else none
   | _=>none:=by
  unfold jZ;rw [hx];try rfl
 rw [e,h];show (if _ then _ else _)=_;have a:((l.map fun q:Nat=>PyData.int (q:Int)).all fun r=>DD.pyOk r (.int (c:Int)))=true:=by
  rw [List.all_map,yP];intro q _;rfl
 rw [yI a];congr 1;rw [List.any_map];rw [Bool.eq_iff_iff];simp only [List.any_eq_true,Function.comp,PyData.eqv,yC];constructor
 ·rintro ⟨q,hq,e⟩
  have:(q:Int)=(c:Int):=by simpa using e
  have:q=c:=by omega
  exact this ▸ hq
 ·intro h;exact ⟨c,h,by simp⟩
theorem Kz {l:List Nat}{r:Nat} (h:st[r]?=some (.lst (nL l))):aO 9 st (.ref r)=some (.list (l.map fun q:Nat=>PyData.int (q:Int))):=by
 unfold aO;simp only [h,kY,map_some]
theorem HB {c:Nat}{l:List Nat}{r:Nat} (h:st[r]?=some (.lst (nL l))):cm .NotIn st (.int (c:Int)) (.ref r)=some (!decide (c ∈ l)):=by
 show (jZ st (.int (c:Int)) (.ref r)).map _=_;rw [F6 (Kz h) (by unfold i5;simp [gU,kn,h]) nofun];rfl
theorem tK {c:Nat->Bool}:∀ (l a:List Nat),l.foldl (fun b g=>if k ∈ b then b else if c g=true then b++[k] else b) a=if k ∈ a then a else if l.any c=true then a++[k] else a
 | [],a=>by simp
 | g::l,a=>by
  rw [List.foldl_cons,tK l];by_cases h:k ∈ a
  ·simp [h]
  ·cases hc:c g <;> simp [h,hc]
theorem mT {c:Nat->Bool}:∀ (l a:List Nat),l.Nodup->(∀ k ∈ l,k ∉ a)->l.foldl (fun b k=>if k ∈ b then b else if c k=true then b++[k] else b) a=a++l.filter c
 | [],a,_,_=>by simp
 | k::l,a,hn,hd=>by
  rw [List.foldl_cons,yH (hd k z7)];obtain ⟨h1,h2⟩:=List.nodup_cons.mp hn;cases hc:c k
  ·rw [yH (by simp),mT l a h2 fun j hj=>hd j (zQ _ hj),List.filter_cons,hc];simp
  ·rw [yI rfl,mT l _ h2 fun j hj hm=>?_,List.filter_cons,hc]
   ·simp
   ·rcases zZ.mp hm with hm | hm
    ·exact hd j (zQ _ hj) hm
    ·rw [zM.mp hm] at hj;exact h1 hj
theorem FT (hn:cw n):(qR n).Nodup:=by rcases hn with rfl | rfl | rfl <;> decide
theorem Bg {ks:List Fn}{r:Sl} (hn:cw n):dS ks (.r3 (.i 0) (.bin .LShift (.i 1) (.v 0)) (.i 2)) (some (.int (n:Int))::r) st=some (⟨(aS n).map fun q:Nat=>AV.int (q:Int),[]⟩,st):=by
 rcases hn with rfl | rfl | rfl <;> rfl
theorem wz (hn:cw n) (ho:∀ o ∈ os,o < 16) (hl:os.length <= 1000):∃ r,cX [.int n,.fz (nL os)] []=some r/\rsl r.2 r.1=some (.fz (nL (bh n os))):=by
 rw [cX,aI];show ∃ r,(ai [b0] eQ [some (.int n),some (.fz (nL os)),none,none,none,none] []).bind aH=some r/\_;unfold eQ;refine aK (sl':=[some (.int n),some (.fz (nL os)),some (.ref 0),none,none,none]) (st':=[.lst (nL [])]) rfl ?_;refine jD (em:=fun q:Nat=>.int (q:Int)) (xs:=qR n) (gd:=[]) (st0:=[.lst (nL [])]) (I:=fun i (a:List Nat) sl s=>a.length <= i/\i <= 3/\s=[.lst (nL a)]/\∃ x y z,sl=[some (.int n),some (.fz (nL os)),some (.ref 0),x,y,z]) (fun b k=>if k ∈ b then b else if nJ n os k=true then b++[k] else b) [] (A9 hn) ⟨by simp,by omega,rfl,_,_,_,rfl⟩ (fun _ _ _ _ _=>rfl) ?_ ?_
 ·rintro i a k sl s hk ⟨ha,hi,rfl,x,y,z,rfl⟩
  have hm:=zW hk;have hj:=zr hn hm;have hi3:i < 3:=by
   have:=(zB.mp hk).1
   have h2:(qR n).length <= 3:=by rcases hn with rfl | rfl | rfl <;> decide
   omega
  have h16:2 ^ k < 16:=by rcases hj with rfl | rfl | rfl <;> decide
  have key:=BL (ks:=[b0]) (ss:=.nil) (sl:=[some (.int n),some (.fz (nL os)),some (.ref 0),some (.int (k:Int)),y,z]) (st:=[.lst (nL a)]) (it:=.r3 (.i 0) (.bin .LShift (.i 1) (.v 0)) (.i 2)) (t:=.nm 4)
   (b:=.cons (.as (.bin .LShift (.i 1) (.v 3)) (.nm 5)) (.cons (.iff (.an (.cmp .NotIn (.v 3) (.v 2)) (.va (.ca true 0 (.cons (.v 1) (.cons (.bin .BitOr (.v 4) (.v 5)) .nil))))) (.cons (.iff (.no (.va (.ca true 0 (.cons (.v 1) (.cons (.bin .Sub (.v 4) (.bin .BitAnd (.v 4) (.v 5))) .nil))))) (.cons (.ex (.mt .app (.v 2) (.cons (.v 3) .nil))) .nil) .nil) .nil) .nil) .nil))
   (em:=fun q:Nat=>.int (q:Int)) (xs:=aS n) (gd:=[]) (st0:=[.lst (nL a)]) (Q:=fun o=>∃ x y,o=.nx [some (.int n),some (.fz (nL os)),some (.ref 0),some (.int (k:Int)),x,y] [.lst (nL (if k ∈ a then a else if nJ n os k=true then a++[k] else a))])
   (I:=fun _ (b:List Nat) sl s=>(b=a\/b=a++[k])/\s=[.lst (nL b)]/\∃ x y,sl=[some (.int n),some (.fz (nL os)),some (.ref 0),some (.int (k:Int)),x,y])
   (fun b g=>if k ∈ b then b else if (aj os (g ||| 2 ^ k) && !aj os (g - (g &&& 2 ^ k)))=true then b++[k] else b) a (Bg hn) ⟨.inl rfl,rfl,_,_,rfl⟩ (fun _ _ _ _ _=>rfl) ?_ ?_
  ·obtain ⟨o,e,x,y,rfl⟩:=key
   refine ⟨_,_,_,rfl,e,?_,by omega,rfl,_,_,_,rfl⟩;split
   ·omega
   ·split
    ·simp;omega
    ·omega
  ·rintro i b g sl s hg ⟨hb,rfl,x,y,rfl⟩
   have hgm:=zW hg;have g16:=oa hn hgm;obtain ⟨l1,l2⟩:=AW hn hj hgm;have sh:=AI (st:=[Nq.lst (nL b)]) hj;have lb:(fun z=>z=a\/z=a++[k]) (if k ∈ b then b else if (aj os (g ||| 2 ^ k) && !aj os (g - (g &&& 2 ^ k)))=true then b++[k] else b):=by
    by_cases hkb:k ∈ b
    ·rw [yI hkb];exact hb
    ·have:b=a:=by
      rcases hb with hb | hb
      ·exact hb
      ·rw [hb] at hkb;simp at hkb
     subst this;rw [yH hkb];split
     ·exact .inr rfl
     ·exact .inl rfl
   have hb3:b.length <= 3:=by rcases hb with hb | hb <;> (rw [hb];(try simp);omega)
   generalize hp:2 ^ k=p at *;have o1:=mQ (st:=[Nq.lst (nL b)]) ho hl l1;have o2:=mQ (st:=[Nq.lst (nL b)]) ho hl l2;have sb:((g:Int) - ((g &&& p:Nat):Int))=((g - (g &&& p):Nat):Int):=by have:g &&& p <= g:=Nat.and_le_left;omega
   have ni:=HB (st:=[Nq.lst (nL b)]) (c:=k) (l:=b) (r:=0) rfl;refine ⟨_,[some (.int n),some (.fz (nL os)),some (.ref 0),some (.int (k:Int)),some (.int (g:Int)),some (.int (p:Int))],_,rfl,?_,lb,rfl,_,_,rfl⟩;refine ay (sl':=[some (.int n),some (.fz (nL os)),some (.ref 0),some (.int (k:Int)),some (.int (g:Int)),some (.int (p:Int))]) (st':=[.lst (nL b)]) (by simp [sh]) ?_;by_cases hkb:k ∈ b
   ·simp [ni,hkb]
   ·cases h1:aj os (g ||| p)
    ·rw [h1] at o1
     simp [ni,hkb,oQ g16 h16,o1,dH]
    ·rw [h1] at o1
     cases h2:aj os (g - (g &&& p))
     ·rw [h2] at o2
      simp [ni,hkb,oQ g16 h16,o1,dH,Bt g16 h16,sb,o2,dr,iz,jY,jX,jU,bq,jH,dD,bv (show b.length <= 1000 by omega)];simp [nL]
     ·rw [h2] at o2
      simp [ni,hkb,oQ g16 h16,o1,dH,Bt g16 h16,sb,o2]
  ·rintro sl s ⟨hb,rfl,x,y,rfl⟩
   refine ⟨_,rfl,x,y,?_⟩;rw [tK];rfl
 ·rintro sl s ⟨_,_,rfl,x,y,z,rfl⟩
  refine ⟨_,rfl,?_⟩;rw [mT _ _ (FT hn) (by simp),List.nil_append];show bJ 6 _ (.ref 0)=_;unfold bJ;simp only [List.getElem?_cons_zero,vQ,map_some];rfl
end
section
variable {st:aa}{os:List Nat}{n g k j:Nat}
theorem CZ (hn:cw n):pm bI [.int n,.fz [.tup [.int 1,.int 1]]] st=some (.fz (iL (bD n [(1,1)])),st):=by
 rcases hn with rfl | rfl | rfl <;> exact bw rfl (by kernel_rfl)
theorem CW (hn:cw n) (h:g ∈ aS n):pm bI [.int n,.fz [.tup [.int ((1 ||| g:Nat):Int),.int 1],.tup [.int g,.int (-1)]]] st=some (.fz (iL (bD n [(g + 1,1),(g,-1)])),st):=by
 rcases oe hn h with ⟨rfl,rfl | rfl⟩ | ⟨rfl,rfl | rfl | rfl | rfl⟩ | ⟨rfl,rfl | rfl | rfl | rfl | rfl | rfl | rfl | rfl⟩ <;> exact bw rfl (by kernel_rfl)
theorem CY (hn:cw n) (h:g ∈ aS n):pm bI [.int n,.fz [.tup [.int 1,.int 1],.tup [.int g,.int 1],.tup [.int ((1 ||| g:Nat):Int),.int (-1)]]] st=some (.fz (iL (bD n [(1,1),(g,1),(g + 1,-1)])),st):=by
 rcases oe hn h with ⟨rfl,rfl | rfl⟩ | ⟨rfl,rfl | rfl | rfl | rfl⟩ | ⟨rfl,rfl | rfl | rfl | rfl | rfl | rfl | rfl | rfl⟩ <;> exact bw rfl (by kernel_rfl)
theorem Bp:∀ l:List Gv,rfs (l.map Gv.av)=true:=fun l=>fU fun x hx=>by
 obtain ⟨z,_,rfl⟩:=yD.mp hx;simp [Gv.av,rf,rfs,nW]
theorem wB (hn:cw n) (ho:∀ o ∈ os,o < 16) (hl:os.length <= 1000):∃ r,ce [.int n,.fz (nL os)] []=some r/\rsl r.2 r.1=some (.fz ((bE n (aj os)).map Gv.av)):=by
 rw [ce];simp only [aI];show ∃ r,(ai [bI,b0] de [some (.int n),some (.fz (nL os)),none,none,none] []).bind aH=some r/\_;unfold de;refine aK (sl':=[some (.int n),some (.fz (nL os)),some (.ref 0),none,none]) (st':=[.lst ([(⟨bD n [(1,1)],true,1⟩:Gv)].map Gv.av)]) ?_ ?_
 ·simp [CZ hn,Gv.av,cM,rfs,rf,nW]
 ·refine jD (em:=fun g:Nat=>.int (g:Int)) (xs:=aS n) (gd:=[]) (st0:=[.lst ([(⟨bD n [(1,1)],true,1⟩:Gv)].map Gv.av)]) (I:=fun i (a:List Gv) sl s=>a.length <= i + 1/\i <= 8/\s=[.lst (a.map Gv.av)]/\∃ x y,sl=[some (.int n),some (.fz (nL os)),some (.ref 0),x,y]) (fun a g=>a++c9 n g (aj os g)) [⟨bD n [(1,1)],true,1⟩] (Bg hn) ⟨by simp,by omega,rfl,_,_,rfl⟩ (fun _ _ _ _ _=>rfl) ?_ ?_
  ·rintro i a g sl s hg ⟨ha,hi,rfl,x,y,rfl⟩
   have hm:=zW hg;have h16:=oa hn hm;have hi8:i < 8:=by
    have:=(zB.mp hg).1
    have h2:(aS n).length <= 8:=by rcases hn with rfl | rfl | rfl <;> simp [aS]
    omega
   have op:=mQ (st:=[Nq.lst (a.map Gv.av)]) ho hl h16;have rt:=CW (st:=[Nq.lst (a.map Gv.av)]) hn hm;have rs:=CY (st:=[Nq.lst (a.map Gv.av)]) hn hm;have og:=oQ (st:=[Nq.lst (a.map Gv.av)]) (x:=1) dC h16;have og:cp .BitOr [Nq.lst (a.map Gv.av)] (.int 1) (.int (g:Int))=some (.int ((1 ||| g:Nat):Int)):=og;have ng:l7 .USub [Nq.lst (a.map Gv.av)] (.int 1)=some (.int (-1)):=rfl;generalize ((1 ||| g:Nat):Int)=e at rt rs og;have len:(a++c9 n g (aj os g)).length <= i + 1 + 1:=by
    have:(c9 n g (aj os g)).length <= 1:=by unfold c9;split <;> (try split) <;> simp
    rw [zV];omega
   cases hb:aj os g with
   | true =>
    rw [hb] at op;refine ⟨_,[some (.int n),some (.fz (nL os)),some (.ref 0),some (.int (g:Int)),some (.fz (iL (bD n [(g + 1,1),(g,-1)])))],[.lst ((a++c9 n g true).map Gv.av)],rfl,?_,by rw [hb] at len;exact len,by omega,rfl,_,_,rfl⟩;have es:(a++c9 n g true).map Gv.av=a.map Gv.av++[.tup [.fz (iL (bD n [(g + 1,1),(g,-1)])),.str "=",.int 0]]:=by rw [List.map_append];rfl
    rw [es];have s2:cM 2=true:=rfl;by_cases hg0:(0:Int) < (g:Int)
    ·simp [op,dH,dr,ng,og,rt,rfs,rf,iz,jY,jX,jU,jH,dD,bq,hg0,s2,bv (show a.length <= 1000 by omega)]
    ·simp [op,dH,dr,ng,og,rt,rfs,rf,iz,jY,jX,jU,jH,dD,bq,hg0,s2,bv (show a.length <= 1000 by omega)]
   | false =>
    rw [hb] at op;refine ⟨_,[some (.int n),some (.fz (nL os)),some (.ref 0),some (.int (g:Int)),some (.fz (iL (bD n [(1,1),(g,1),(g + 1,-1)])))],[.lst ((a++c9 n g false).map Gv.av)],rfl,?_,by rw [hb] at len;exact len,by omega,rfl,_,_,rfl⟩;have s2:cM 2=true:=rfl;have s3:cM 3=true:=rfl;by_cases hg0:(0:Int) < (g:Int)
    ·have es:(a++c9 n g false).map Gv.av=a.map Gv.av++[.tup [.fz (iL (bD n [(1,1),(g,1),(g + 1,-1)])),.str "=",.int 0]]:=by
      rw [List.map_append];unfold c9;rw [yH dC,yH oM];rfl
     rw [es];simp [op,dH,dr,ng,og,rt,rs,rfs,rf,iz,jY,jX,jU,jH,dD,bq,eq_true (show 0 < g by omega),s2,s3,bv (show a.length <= 1000 by omega)]
    ·have es:(a++c9 n g false).map Gv.av=a.map Gv.av:=by unfold c9;rw [yH dC,yI oM,List.append_nil]
     rw [es];simp [op,dH,dr,ng,og,rt,rs,rfs,rf,bq,eq_false (show ¬ 0 < g by omega),s2,s3]
  ·rintro sl s ⟨_,_,rfl,x,y,rfl⟩
   refine ⟨(.ref 0,[.lst ((bE n (aj os)).map Gv.av)]),rfl,?_⟩;show bJ 6 [.lst ((bE n (aj os)).map Gv.av)] (.ref 0)=_;unfold bJ;have:aG (bJ 5 [.lst ((bE n (aj os)).map Gv.av)]) ((bE n (aj os)).map Gv.av)=some ((bE n (aj os)).map Gv.av):=cR (f:=bJ 5 [.lst ((bE n (aj os)).map Gv.av)]) (i:=Gv.av) (g:=Gv.av) (fun x=>rfl) _;simp only [List.getElem?_cons_zero,this,map_some]
end
section
variable {st:aa}{os:List Nat}{n g k j:Nat}{x:AV}
def OA (st:aa) (x:AV) (os:List Nat):Prop:=x=.fz (nL os)\/∃ k,x=.ref k/\OC st k os
theorem OC.app {ys:aa} (h:OC st k os):OC (st++ys) k os:=by
 rcases h with h | h
 ·exact .inl (ga h)
 ·exact .inr (ga h)
theorem OA.app {ys:aa} (h:OA st x os):OA (st++ys) x os:=by
 rcases h with h | ⟨k,e,h⟩
 ·exact .inl h
 ·exact .inr ⟨k,e,h.app⟩
theorem E4 (h:OA st x os) (ho:∀ o ∈ os,o < 16) (hl:os.length <= 1000) (hg:g < 16):pm cW [x,.int (g:Int)] st=some (.bl (aj os g),st):=by
 rcases h with rfl | ⟨k,rfl,h⟩
 ·exact lK ho hl hg
 ·exact E3 h ho hl hg
theorem eW {α β:Type} (f:β->List α):∀ (l:List β) (a:List α),l.foldl (fun a g=>a++f g) a=a++l.flatMap f
 | [],a=>by simp
 | x::l,a=>by rw [List.foldl_cons,eW f l,List.flatMap_cons,yN]
theorem C2 (hn:cw n) {B:Nat->Bool}:(bE n B).length <= 100:=by
 have st1:∀ g,(c9 n g (B g)).length <= 1:=fun g=>by unfold c9;split <;> (try split) <;> simp
 have:∀ l:List Nat,(l.flatMap fun g=>c9 n g (B g)).length <= l.length:=fun l=>by
  induction l with
  | nil=>simp
  | cons x l ih=>have:=st1 x;rw [List.flatMap_cons,zV,yV];omega
 unfold bE;rw [eW,zV]
 have:=this (aS n)
 have h2:(aS n).length <= 8:=by rcases hn with rfl | rfl | rfl <;> simp [aS]
 rw [List.length_singleton];omega
theorem G6 (hn:cw n):aM [.int n,.fz [.tup [.int 1,.int 1]]] st=some (.ref st.length,st++[.lst (iL (bD n [(1,1)]))]):=by
 have key:∃ r,aM [.int n,.fz [.tup [.int 1,.int 1]]] st=some r/\r=(.ref st.length,st++[.lst (iL (bD n [(1,1)]))]):=by
  rw [aM,aI];show ∃ r,(ai [ag] d7 [some (.int n),some (.fz [.tup [.int 1,.int 1]]),none,none,none] st).bind aH=some r/\_;unfold d7;refine aK (sl':=[some (.int n),some (.fz [.tup [.int 1,.int 1]]),some (.ref st.length),none,none]) (st':=st++[.lst (iL (List.replicate (2 ^ n - 1) 0))]) (by rcases hn with rfl | rfl | rfl <;> rfl) ?_;have h0:0 < (List.replicate (2 ^ n - 1) (0:Int)).length:=by rcases hn with rfl | rfl | rfl <;> decide
  refine jD (em:=fun _:Unit=>.tup [.int 1,.int 1]) (xs:=[()]) (gd:=[]) (st0:=st++[.lst (iL (List.replicate (2 ^ n - 1) 0))]) (I:=fun i (a:List Int) sl s=>(i=0->a=List.replicate (2 ^ n - 1) 0)/\s=st++[.lst (iL a)]/\∃ x y,sl=[some (.int n),some (.fz [.tup [.int 1,.int 1]]),some (.ref st.length),x,y]) (fun a _=>a.set 0 1) (List.replicate (2 ^ n - 1) 0) rfl ⟨fun _=>rfl,rfl,_,_,rfl⟩ (fun _ _ _ _ _=>rfl) ?_ ?_
  ·rintro i a q sl s hq ⟨ha,rfl,x,y,rfl⟩
   have hi:i=0:=by have:=(zB.mp hq).1;simp at this;exact this
   have ha:=ha hi;have au:=Bq (ks:=[ag]) (ea:=.v 2) (eb:=.bin .Sub (.v 3) (.i 1)) (ec:=.v 4) (sl:=[some (.int n),some (.fz [.tup [.int 1,.int 1]]),some (.ref st.length),some (.int 1),some (.int 1)]) (s:=st++[.lst (iL a)]) (r:=st.length) (q:=0) (l:=a) (x:=1) rfl rfl rfl gl (by rw [ha];exact h0);refine ⟨_,_,_,rfl,ay (sl':=[some (.int n),some (.fz [.tup [.int 1,.int 1]]),some (.ref st.length),some (.int 1),some (.int 1)]) (st':=st++[.lst (iL (a.set 0 1))]) ?_ rfl,fun z=>by omega,rfl,_,_,rfl⟩;have e0:SX.gI a 0=0:=by rw [ha];rcases hn with rfl | rfl | rfl <;> rfl
   simp only [e0,dU,Int.zero_add] at au;rw [AK] at au;simp [au]
  ·rintro sl s ⟨_,rfl,x,y,rfl⟩
   refine ⟨_,rfl,?_⟩;rcases hn with rfl | rfl | rfl <;> rfl
 obtain ⟨r,e,rfl⟩:=key;exact e
theorem K2 {c d:Nq}:(st++[c,d])[st.length + 1]?=some d:=by simp
theorem Kn {c d e:Nq}:(st++[c,d]).set (st.length + 1) e=st++[c,e]:=by simp
def gk (n:Nat) (B:Nat->Bool):List Gv:=(aS n).flatMap fun g=>c9 n g (B g)
noncomputable def bW (k:Nat):AV:=.tup [.ref k,.str "=",.int 1]
theorem pW {B:Nat->Bool}:bE n B=⟨bD n [(1,1)],true,1⟩::gk n B:=by unfold bE;rw [eW];rfl
theorem tI (hn:cw n) (h:OA st x os) (ho:∀ o ∈ os,o < 16) (hl:os.length <= 1000):bH [.int n,x] st=some (.ref (st.length + 1),st++[.lst (iL (bD n [(1,1)])),.lst (bW st.length::(gk n (aj os)).map Gv.av)]):=by
 have key:∃ r,bH [.int n,x] st=some r/\r=(.ref (st.length + 1),st++[.lst (iL (bD n [(1,1)])),.lst (bW st.length::(gk n (aj os)).map Gv.av)]):=by
  rw [bH];simp only [aI];show ∃ r,(ai [aM,bY,cW,fx,d3] eP [some (.int n),some x,none,none] st).bind aH=some r/\_;unfold eP;refine aK (sl':=[some (.int n),some x,some (.ref (st.length + 1)),none]) (st':=st++[.lst (iL (bD n [(1,1)])),.lst (bW st.length::([]:List Gv).map Gv.av)]) ?_ ?_
  ·simp [G6 hn,cM,rfs,rf,bW]
  ·refine jD (em:=fun g:Nat=>.int (g:Int)) (xs:=aS n) (gd:=[]) (st0:=st++[.lst (iL (bD n [(1,1)])),.lst (bW st.length::([]:List Gv).map Gv.av)]) (I:=fun i (a:List Gv) sl s=>a.length <= i/\i <= 8/\s=st++[.lst (iL (bD n [(1,1)])),.lst (bW st.length::a.map Gv.av)]/\∃ y,sl=[some (.int n),some x,some (.ref (st.length + 1)),y]) (fun a g=>a++c9 n g (aj os g)) [] ?_ ⟨by simp,by omega,rfl,_,rfl⟩ (fun _ _ _ _ _=>rfl) ?_ ?_
   ·simp [FU hn,nL]
   ·rintro i a g sl s hg ⟨ha,hi,rfl,y,rfl⟩
    have hm:=zW hg;have h16:=oa hn hm;have hi8:i < 8:=by
     have:=(zB.mp hg).1
     have h2:(aS n).length <= 8:=by rcases hn with rfl | rfl | rfl <;> simp [aS]
     omega
    have op:=E4 (h.app (ys:=[.lst (iL (bD n [(1,1)])),.lst (bW st.length::a.map Gv.av)])) ho hl h16;have ap:∀ (e:Ex) (z:AV),ev [aM,bY,cW,fx,d3] e [some (.int n),some x,some (.ref (st.length + 1)),some (.int (g:Int))] (st++[.lst (iL (bD n [(1,1)])),.lst (bW st.length::a.map Gv.av)])=some (z,st++[.lst (iL (bD n [(1,1)])),.lst (bW st.length::a.map Gv.av)])->cN [aM,bY,cW,fx,d3] (.ex (.mt .app (.v 2) (.cons e .nil))) [some (.int n),some x,some (.ref (st.length + 1)),some (.int (g:Int))] (st++[.lst (iL (bD n [(1,1)])),.lst (bW st.length::a.map Gv.av)])=some (.nx [some (.int n),some x,some (.ref (st.length + 1)),some (.int (g:Int))] (st++[.lst (iL (bD n [(1,1)])),.lst (bW st.length::a.map Gv.av++[z])])):=fun e z he=>by
     have:=pZ (ks:=[aM,bY,cW,fx,d3]) (a:=.v 2) (e:=e) (y:=z) (k:=st.length + 1) (xs:=bW st.length::a.map Gv.av) (sl:=[some (.int n),some x,some (.ref (st.length + 1)),some (.int (g:Int))]) (st:=st++[.lst (iL (bD n [(1,1)])),.lst (bW st.length::a.map Gv.av)]) rfl he K2 (by simp;omega)
     rw [Kn] at this;exact this
    have len:(a++c9 n g (aj os g)).length <= i + 1:=by
     have:(c9 n g (aj os g)).length <= 1:=by unfold c9;split <;> (try split) <;> simp
     rw [zV];omega
    refine ⟨([some (.int n),some x,some (.ref (st.length + 1)),some (.int (g:Int))],st++[.lst (iL (bD n [(1,1)])),.lst (bW st.length::a.map Gv.av)]),[some (.int n),some x,some (.ref (st.length + 1)),some (.int (g:Int))],_,rfl,?_,len,by omega,rfl,_,rfl⟩;cases hb:aj os g with
    | true =>
     rw [hb] at op;have e1:=ap (.ca true 3 (.cons (.v 0) (.cons (.v 3) (.cons (.g "LOCK" (.int 1)) .nil)))) (Az n g).av (by simp [BR hn hm]);have es:a.map Gv.av++[(Az n g).av]=(a++c9 n g true).map Gv.av:=by rw [List.map_append];rfl
     rw [List.cons_append,es] at e1;refine ay (s:=.iff _ _ _) ?_ rfl;simp [-oJ,op,dH,e1]
    | false =>
     rw [hb] at op;by_cases h0:g=0
     ·have es:a++c9 n g false=a:=by unfold c9;rw [yH dC,yI h0,List.append_nil]
      rw [es];refine ay (s:=.iff _ _ _) ?_ rfl;simp [-oJ,op,dH,eq_true h0]
     ·have e1:=ap (.ca true 4 (.cons (.v 0) (.cons (.g "LOCK" (.int 1)) (.cons (.v 3) (.cons (.i 0) .nil))))) (AH n g).av (by simp [xN hn hm h0])
      have es:a.map Gv.av++[(AH n g).av]=(a++c9 n g false).map Gv.av:=by rw [List.map_append];unfold c9;rw [yH dC,yH h0];rfl
      rw [List.cons_append,es] at e1;refine ay (s:=.iff _ _ _) ?_ rfl;simp [-oJ,op,dH,eq_false h0,e1]
   ·rintro sl s ⟨_,_,rfl,y,rfl⟩
    refine ⟨_,rfl,?_⟩;rw [eW];rfl
 obtain ⟨r,e,rfl⟩:=key;exact e
theorem zx (hn:cw n) (ho:∀ o ∈ os,o < 16) (hl:os.length <= 1000):pm bH [.int n,.fz (nL os)] st=some (.fz ((bE n (aj os)).map Gv.av),st):=by
 have h1:=tI (st:=[]) hn (.inl rfl) ho hl;refine cV (by simp [rfs,rf,fB]) h1 ?_;rw [pW];generalize hS:([]++[Nq.lst (iL (bD n [(1,1)])),.lst (bW ([]:aa).length::(gk n (aj os)).map Gv.av)]:aa)=S;show bJ 6 S (.ref 1)=_;have g1:S[1]?=some (.lst (bW 0::(gk n (aj os)).map Gv.av)):=by rw [<- hS];rfl
 have g0:S[0]?=some (.lst (iL (bD n [(1,1)]))):=by rw [<- hS];rfl
 unfold bJ;have:aG (bJ 5 S) ((gk n (aj os)).map Gv.av)=some ((gk n (aj os)).map Gv.av):=cR (f:=bJ 5 S) (i:=Gv.av) (g:=Gv.av) (fun x=>rfl) _;have h0:bJ 5 S (bW 0)=some (Gv.av ⟨bD n [(1,1)],true,1⟩):=by
  unfold bW bJ;have:bJ 4 S (.ref 0)=some (.fz (iL (bD n [(1,1)]))):=by unfold bJ;simp only [g0,sG,map_some]
  simp only [aG,this,bind_some];rfl
 simp only [g1,aG,h0,this,bind_some,map_some,zO]
end
end LW
namespace LW
open PySem PySem.Spec L2 R
open SX (gI)
def JX (n:Nat):List (List Int):=if n=2 then RR2 else if n=3 then RR3 else RR4
def J4 (n:Nat):Nat->List Int:=if n=2 then J7 else if n=3 then J6 else J5
def iG (n:Nat):List Int:=bD n ((List.range (n - 1)).map fun k=>(2 ^ (k + 1),1))
def Ao (n:Nat) (F:List Nat):Option AV:=mW (2 ^ n - 1) (JX n) (J4 n) (bE n (aj F)) (iG n) 200
section
variable {st:aa}{os F:List Nat}{n g:Nat}
theorem uR (h:∀ g ∈ aS n,aj os g=aj F g):bE n (aj os)=bE n (aj F):=by
 unfold bE;rw [eW,eW];have:∀ l:List Nat,(∀ g ∈ l,aj os g=aj F g)->(l.flatMap fun g=>c9 n g (aj os g))=l.flatMap fun g=>c9 n g (aj F g):=fun l=>by
  induction l with
  | nil=>intro _;rfl
  | cons x l ih=>intro h;rw [List.flatMap_cons,List.flatMap_cons,h x z7,ih fun g hg=>h g (zQ _ hg)]
 rw [this _ h]
theorem ji {ts}:(bD n ts).length=2 ^ n - 1:=by simp [bD]
theorem FN {B:Nat->Bool}:∀ z ∈ bE n B,z.row.length=2 ^ n - 1:=fun z hz=>by
 unfold bE at hz;rw [eW,zZ,zM,List.mem_flatMap] at hz;rcases hz with rfl | ⟨g,_,hg⟩
 ·exact ji
 ·unfold c9 at hg
  split at hg
  ·rw [zM.mp hg];exact ji
  ·split at hg
   ·cases hg
   ·rw [zM.mp hg];exact ji
theorem LI (hn:cw n):JY n (2 ^ n - 1) (JX n) (J4 n) (bE n (aj F)) (iG n):=by
 have hl:=C2 hn (B:=aj F);have hr:=FN (n:=n) (B:=aj F);have ho:(iG n).length=2 ^ n - 1:=ji;rcases hn with rfl | rfl | rfl
 ·exact ⟨Mg,Mo,Ml,by decide,hr,ho,by decide,by decide,hl⟩
 ·exact ⟨Mf,Mn,Mj,by decide,hr,ho,by decide,by decide,hl⟩
 ·exact ⟨Me,Mm,Mh,by decide,hr,ho,by decide,by decide,hl⟩
theorem HQ (hn:cw n):∃ y,ev [aM,bH,ff] (.nw false (.lc 1 (.r2 (.i 1) (.v 0)) (.nm 3) .no (.tu (.cons (.bin .LShift (.i 1) (.v 3)) (.cons (.i 1) .nil))))) [some (.int n),some (.fz (nL os)),none] []=some (y,[])/\pm aM [.int n,y] []=some (.fz (iL (iG n)),[]):=by
 rcases hn with rfl | rfl | rfl
 ·exact ⟨.fz [.tup [.int 2,.int 1]],rfl,bw rfl (by kernel_rfl)⟩
 ·exact ⟨.fz [.tup [.int 2,.int 1],.tup [.int 4,.int 1]],rfl,bw rfl (by kernel_rfl)⟩
 ·exact ⟨.fz [.tup [.int 2,.int 1],.tup [.int 4,.int 1],.tup [.int 8,.int 1]],rfl,bw rfl (by kernel_rfl)⟩
theorem Do {w:Nat}{RR:List (List Int)}{HO:Nat->List Int}{gv:List Gv}{goal:List Int}{N:Nat}{t:AV} (h:mW w RR HO gv goal N=some t):rsl st t=some t:=by
 unfold mW at h;obtain ⟨⟨o,S⟩,_,h2⟩:=zA h;cases o with
 | some p =>
  have h2:mM w _ HO p S=some t:=h2;unfold mM at h2;split at h2
  ·cases h2;rfl
  ·cases h2
 | none =>
  have h2:((gy w _ _ N S).bind fun r=>match r with
   | (none,S')=>iW w _ HO S'
   | (some q,S')=>i7 w _ q S')=some t:=h2
  obtain ⟨⟨oq,S2⟩,_,h4⟩:=zA h2;cases oq with
  | none =>
   have h4:iW w _ HO S2=some t:=h4;unfold iW at h4;split at h4
   ·cases h4;rfl
   ·cases h4
  | some q =>
   have h4:i7 w _ q S2=some t:=h4;unfold i7 at h4;split at h4
   ·cases h4;rfl
   ·cases h4
theorem FR (hn:cw n) (ho:∀ o ∈ os,o < 16) (hl:os.length <= 1000) (h:∀ g ∈ aS n,aj os g=aj F g) {t:AV} (ht:Ao n F=some t):pm cD [.int n,.fz (nL os)] st=some (t,st):=by
 obtain ⟨y,e1,e2⟩:=HQ hn (os:=os);obtain ⟨z,e4,e5⟩:=An (LI hn) ht;have e3:=zx (st:=[]) hn ho hl;rw [uR h] at e3;have e6:pm ff [.int n,.fz ((bE n (aj F)).map Gv.av),.fz (iL (iG n))] []=some (t,[]):=cV (by simp [rfs,rf,Bp,nW]) e4 e5;refine cV (by simp [rfs,rf,fB]) (v:=t) (st':=[]) ?_ (Do ht);rw [cD,aI];unfold gB;refine ao (sl':=[some (.int n),some (.fz (nL os)),some (.fz (iL (iG n)))]) (st':=[]) ?_ (dh ?_)
 ·simp [-mG,e1,e2]
 ·simp [e3,e6]
end
end LW
namespace LW
open PySem PySem.Spec L2 R
def JM (n:Nat) (F:List Nat) (t:AV):Bool:=match (hU [.int n,.fz ((bE n (aj F)).map Gv.av),.fz (iL (iG n)),t] []).bind fun p=>rsl p.2 p.1 with
 | some (.bl b)=>b
 | _=>false
def JH (c:Nat):AV->Bool
 | .tup [.str s,.tup [.int a,.int b],_,_,_]=>s == ("least":Str) && a == (c:Int) && b == 1
 | _=>false
def JB:AV->Bool
 | .tup [.str s,_]=>s == ("never":Str)
 | _=>false
def chk (n:Nat) (F:List Nat):Bool:=match Ao n F with
 | some t=>JM n F t && (if 0 ∈ F then JB t else JH (bh n F).length t)
 | none=>false
theorem c2:([0]::eF 2).all (chk 2)=true:=by kernel_rfl
theorem c3:([0]::eF 3).all (chk 3)=true:=by kernel_rfl
theorem L0:chk 4 [0]=true:=by kernel_rfl
theorem Lo:chk 4 []=true:=by kernel_rfl
theorem Ln:chk 4 [2]=true:=by kernel_rfl
theorem Lm:chk 4 [4]=true:=by kernel_rfl
theorem Ll:chk 4 [8]=true:=by kernel_rfl
theorem Lk:chk 4 [2,4]=true:=by kernel_rfl
theorem Lj:chk 4 [2,8]=true:=by kernel_rfl
theorem Li:chk 4 [4,8]=true:=by kernel_rfl
theorem Lh:chk 4 [2,4,8]=true:=by kernel_rfl
theorem Lg:chk 4 [6]=true:=by kernel_rfl
theorem Lf:chk 4 [10]=true:=by kernel_rfl
theorem IS:chk 4 [12]=true:=by kernel_rfl
theorem IR:chk 4 [6,8]=true:=by kernel_rfl
theorem IQ:chk 4 [4,10]=true:=by kernel_rfl
theorem IP:chk 4 [2,12]=true:=by kernel_rfl
theorem IN:chk 4 [6,10]=true:=by kernel_rfl
theorem IM:chk 4 [6,12]=true:=by kernel_rfl
theorem IL:chk 4 [10,12]=true:=by kernel_rfl
theorem IK:chk 4 [6,10,12]=true:=by kernel_rfl
theorem IJ:chk 4 [14]=true:=by kernel_rfl
theorem GC {n:Nat} (hn:cw n) {F:List Nat} (h:F ∈ [0]::eF n):chk n F=true:=by
 rcases hn with rfl | rfl | rfl
 ·exact yP.mp c2 F h
 ·exact yP.mp c3 F h
 ·simp only [eF,zT,zX,or_false] at h
  rcases h with rfl | rfl | rfl | rfl | rfl | rfl | rfl | rfl | rfl | rfl | rfl | rfl | rfl | rfl | rfl | rfl | rfl | rfl | rfl | rfl
  ·exact L0
  ·exact Lo
  ·exact Ln
  ·exact Lm
  ·exact Ll
  ·exact Lk
  ·exact Lj
  ·exact Li
  ·exact Lh
  ·exact Lg
  ·exact Lf
  ·exact IS
  ·exact IR
  ·exact IQ
  ·exact IP
  ·exact IN
  ·exact IM
  ·exact IL
  ·exact IK
  ·exact IJ
section
variable {st:aa}{os:List Nat}{n g k j:Nat}{A B:Nq}{D:List Int}
theorem uT (h:D ≠ []):∃ D' x,D=D'++[x]:=⟨D.dropLast,D.getLast h,(List.dropLast_concat_getLast h).symm⟩
def ie (n:Nat) (x:Int):Nat:=if x / 8 % 12=0 then 0 else 2 * (1 + (x % (2 ^ (n - 1) - 1)).toNat)
theorem F9 (hn:cw n) {x:Int}:ie n x < 16:=by
 unfold ie;split
 ·decide
 ·rcases hn with rfl | rfl | rfl
  ·have:=Int.emod_lt_of_pos x (show (0:Int) < 2 ^ (2 - 1) - 1 by decide);simp at *
  ·have:=Int.emod_lt_of_pos x (show (0:Int) < 2 ^ (3 - 1) - 1 by decide);simp at *;omega
  ·have:=Int.emod_lt_of_pos x (show (0:Int) < 2 ^ (4 - 1) - 1 by decide);simp at *;omega
theorem wd (hn:cw n) (hD:D.length=39) (hd:∀ x ∈ D,0 <= x/\x < 2147483587):∃ D' os,cq [.int n,.ref 2] [A,B,.lst (iL D)]=some (.ref 3,[A,B,.lst (iL D'),.lst (nL os)])/\(∀ o ∈ os,o < 16)/\os.length <= 10:=by
 have key:∃ r,cq [.int n,.ref 2] [A,B,.lst (iL D)]=some r/\∃ D' os,r=(.ref 3,[A,B,.lst (iL D'),.lst (nL os)])/\(∀ o ∈ os,o < 16)/\os.length <= 10:=by
  rw [cq,aI];show ∃ r,(ai [bZ] d9 [some (.int n),some (.ref 2),none,none,none,none] [A,B,.lst (iL D)]).bind aH=some r/\_;unfold d9;refine aK (sl':=[some (.int n),some (.ref 2),some (.ref 3),none,none,none]) (st':=[A,B,.lst (iL D),.lst (nL [])]) rfl ?_;obtain ⟨D1,x,rfl⟩:=uT (D:=D) (fun z=>by rw [z] at hD;cases hD);obtain ⟨hx0,hx1⟩:=hd x (by simp);have hD1:D1.length=38:=by simp at hD;omega
  have p:=uu (st:=[A,B,Nq.lst (iL (D1++[x])),.lst (nL [])]) (r:=2) (D:=D1) (x:=x) rfl;obtain ⟨c,hc,hm⟩:∃ c:Nat,c <= 10/\cU [A,B,Nq.lst (iL D1),.lst (nL [])] (.fz [.int 1,.int 2,.int 3,.int 4,.int 10,.int 0]) (.int (x % 6))=some (.int (c:Int)):=by
   have h1:=Int.emod_nonneg x (show (6:Int) ≠ 0 by decide);have h2:=Int.emod_lt_of_pos x (show (0:Int) < 6 by decide);have:x % 6=0\/x % 6=1\/x % 6=2\/x % 6=3\/x % 6=4\/x % 6=5:=by omega
   rcases this with e | e | e | e | e | e <;> rw [e]
   ·exact ⟨1,by decide,rfl⟩
   ·exact ⟨2,by decide,rfl⟩
   ·exact ⟨3,by decide,rfl⟩
   ·exact ⟨4,by decide,rfl⟩
   ·exact ⟨10,by decide,rfl⟩
   ·exact ⟨0,by decide,rfl⟩
  have e6:k9 x 6=x % 6:=yI dC;have it:dS [bZ] (.r1 (.ix (.nw false (.li (.cons (.i 1) (.cons (.i 2) (.cons (.i 3) (.cons (.i 4) (.cons (.i 10) (.cons (.i 0) .nil)))))))) (.bin .Mod (.ca false 0 (.cons (.v 1) .nil)) (.i 6)))) [some (.int n),some (.ref 2),some (.ref 3),none,none,none] [A,B,.lst (iL (D1++[x])),.lst (nL [])]=some (⟨(List.range c).map fun q:Nat=>AV.int (q:Int),[]⟩,[A,B,.lst (iL D1),.lst (nL [])]):=by
   have e:ev [bZ] (.ix (.nw false (.li (.cons (.i 1) (.cons (.i 2) (.cons (.i 3) (.cons (.i 4) (.cons (.i 10) (.cons (.i 0) .nil)))))))) (.bin .Mod (.ca false 0 (.cons (.v 1) .nil)) (.i 6))) [some (.int n),some (.ref 2),some (.ref 3),none,none,none] [A,B,.lst (iL (D1++[x])),.lst (nL [])]=some (.int (c:Int),[A,B,.lst (iL D1),.lst (nL [])]):=by
    simp [p,eO (show (6:Int) ≠ 0 by decide),e6,rfs,rf,hm,cM,jV]
   show (ev _ _ _ _).bind _=_;rw [e];exact G8 (ks:=[]) (a:=.i c) (sl:=[]) rfl oM
  refine qp (em:=fun q:Nat=>.int (q:Int)) (xs:=List.range c) (gd:=[]) (st0:=[A,B,.lst (iL D1),.lst (nL [])]) (fun i sl s=>∃ D' os,s=[A,B,.lst (iL D'),.lst (nL os)]/\D'.length + i=38/\(∀ x ∈ D',0 <= x/\x < 2147483587)/\(∀ o ∈ os,o < 16)/\os.length=i/\∃ x y z,sl=[some (.int n),some (.ref 2),some (.ref 3),x,y,z]) it (fun _ _ _ _=>rfl) ⟨D1,[],rfl,by omega,fun x hx=>hd x (by simp [hx]),by simp,rfl,_,_,_,rfl⟩ ?_ ?_
  ·rintro i q sl s hq ⟨D',os,rfl,hl,hd',ho,hs,y1,y2,y3,rfl⟩
   have hi:i < c:=by have:=(zB.mp hq).1;simpa using this
   obtain ⟨D2,z,rfl⟩:=uT (D:=D') (fun e=>by rw [e] at hl;simp at hl;omega);obtain ⟨hz0,hz1⟩:=hd' z (by simp);have p2:=uu (st:=[A,B,Nq.lst (iL (D2++[z])),.lst (nL os)]) (r:=2) (D:=D2) (x:=z) rfl;refine ⟨_,[some (.int n),some (.ref 2),some (.ref 3),some (.int (q:Int)),some (.int z),some (.int ((ie n z:Nat):Int))],[A,B,.lst (iL D2),.lst (nL (os++[ie n z]))],rfl,?_,D2,os++[ie n z],rfl,by simp at hl;omega,fun x hx=>hd' x (by simp [hx]),?_,by simp [hs],_,_,_,rfl⟩
   ·refine ay (sl':=[some (.int n),some (.ref 2),some (.ref 3),some (.int (q:Int)),some (.int z),y3]) (st':=[A,B,.lst (iL D2),.lst (nL os)]) ?_ ?_
    ·simp [p2,jV]
    refine ay (sl':=[some (.int n),some (.ref 2),some (.ref 3),some (.int (q:Int)),some (.int z),some (.int (2 * (1 + z % (2 ^ (n - 1) - 1))))]) (st':=[A,B,.lst (iL D2),.lst (nL os)]) ?_ ?_
    ·have sh:cp .LShift [A,B,.lst (iL D2),.lst (nL os)] (.int 1) (.int ((n:Int) - 1))=some (.int (2 ^ (n - 1))):=by rcases hn with rfl | rfl | rfl <;> rfl
     have m0:((2:Int) ^ (n - 1) - 1) ≠ 0/\(0:Int) < 2 ^ (n - 1) - 1:=by rcases hn with rfl | rfl | rfl <;> decide
     have fm:k9 z (2 ^ (n - 1) - 1)=z % (2 ^ (n - 1) - 1):=yI m0.2;have mm:cp .Mult [A,B,.lst (iL D2),.lst (nL os)] (.int 2) (.int (1 + z % (2 ^ (n - 1) - 1)))=some (.int (2 * (1 + z % (2 ^ (n - 1) - 1)))):=cz (lN dC);simp [sh,eO m0.1,fm,mm]
    refine ay (sl':=[some (.int n),some (.ref 2),some (.ref 3),some (.int (q:Int)),some (.int z),some (.int ((ie n z:Nat):Int))]) (st':=[A,B,.lst (iL D2),.lst (nL os)]) ?_ ?_
    ·have f8:cp .FloorDiv [A,B,.lst (iL D2),.lst (nL os)] (.int z) (.int 8)=some (.int (z / 8)):=by rw [lX rfl];exact congrArg (fun q=>some (AV.int q)) (yI dC)
     have f12:cp .Mod [A,B,.lst (iL D2),.lst (nL os)] (.int (z / 8)) (.int 12)=some (.int (z / 8 % 12)):=by rw [eO dC];exact congrArg (fun q=>some (AV.int q)) (yI dC)
     by_cases h:z / 8 % 12=0
     ·have:ie n z=0:=yI h
      rw [this];simp [f8,f12,h]
     ·have:((ie n z:Nat):Int)=2 * (1 + z % (2 ^ (n - 1) - 1)):=by
       unfold ie;rw [yH h]
       have:=Int.emod_nonneg z (show ((2:Int) ^ (n - 1) - 1) ≠ 0 by rcases hn with rfl | rfl | rfl <;> decide)
       omega
      rw [this];simp [f8,f12,h]
    ·have ap:=pZ (ks:=[bZ]) (a:=.v 2) (e:=.v 5) (y:=.int ((ie n z:Nat):Int)) (k:=3) (xs:=nL os) (sl:=[some (.int n),some (.ref 2),some (.ref 3),some (.int (q:Int)),some (.int z),some (.int ((ie n z:Nat):Int))]) (st:=[A,B,.lst (iL D2),.lst (nL os)]) rfl rfl rfl (by rw [jm];omega)
     refine ay ap ?_;show some _=some _;simp [nL]
   ·intro o h
    rcases zZ.mp h with h | h
    ·exact ho o h
    ·rw [zM.mp h];exact F9 hn
  ·rintro sl s ⟨D',os,rfl,hl,hd',ho,hs,y1,y2,y3,rfl⟩
   exact ⟨_,rfl,D',os,rfl,ho,by simp at hs;omega⟩
 obtain ⟨r,e,D',os,rfl,h1,h2⟩:=key;exact ⟨D',os,e,h1,h2⟩
end
def qY (z:Gv):PyData:=.tuple [.list (z.row.map PyData.int),.str (if z.eq=true then "=" else ">"),.int z.num]
def kG (n:Nat) (F:List Nat):PyData:=.list [.list ((bh n F).map fun q:Nat=>PyData.int (q:Int)),.list ((bE n (aj F)).map qY)]
def Dz (n:Nat) (F:List Nat):Bool:=vM (kG n F)
theorem Ay {n:Nat} (hn:cw n) {F:List Nat} (h:F ∈ [0]::eF n):vM (kG n F)=true:=by
 have c2:([0]::eF 2).all (Dz 2)=true:=by kernel_rfl
 have c3:([0]::eF 3).all (Dz 3)=true:=by kernel_rfl
 have c4:([0]::eF 4).all (Dz 4)=true:=by kernel_rfl
 rcases hn with rfl | rfl | rfl
 ·exact yP.mp c2 F h
 ·exact yP.mp c3 F h
 ·exact yP.mp c4 F h
section
variable {st:aa}{os F:List Nat}{n g k j:Nat}{x:AV}
theorem ww {m:Nat}{l:List Int}:aG (aO (m + 1) st) (iL l)=some (l.map PyData.int):=cR (f:=aO (m + 1) st) (i:=AV.int) (g:=PyData.int) (fun _=>rfl) l
theorem Ho (z:Gv):aO 7 st z.av=some (qY z):=by
 obtain ⟨r,e,m⟩:=z;have:aO 6 st (.fz (iL r))=some (.list (r.map PyData.int)):=by show (aG (aO 5 st) _).map _=_;rw [ww];rfl
 show (aG (aO 6 st) [.fz (iL r),_,_]).map _=_;simp only [aG,this,bind_some];cases e <;> rfl
theorem wx {l:List Gv}:aG (aO 7 st) (l.map Gv.av)=some (l.map qY):=cR (f:=aO 7 st) (i:=Gv.av) (g:=qY) (fun z=>Ho z) l
theorem AG (h:aO 9 st x=some (kG n F)) (hb:vM (kG n F)=true):bQ qg [x] st=some (.str (kG n F).shown,st):=by
 show ((aO 9 st x).bind qf).map _=_;rw [h];show (qf (kG n F)).map _=_;have:qf (kG n F)=some (.str (kG n F).shown):=yI hb;rw [this];rfl
theorem CQ {s:Str}:cm .NotEq st (.str s) (.str s)=some false:=by
 change (gM st (.str s) (.str s)).map (fun b=>!b)=_;unfold gM;show ((if DD.pyOk (.str s) (.str s)=true then some (PyData.eqv (.str s) (.str s)) else uk (.str s) (.str s)).map _)=_;split <;> simp [PyData.eqv,uk]
theorem Ci {a b c:Nat} (hr:st[a]?=some (.lst (iL (bD n [(1,1)])))) (hg:st[b]?=some (.lst (bW a::(gk n (aj F)).map Gv.av))):aO 8 st (.ref b)=some (.list ((bE n (aj F)).map qY)):=by
 have h1:aO 6 st (.ref a)=some (.list ((bD n [(1,1)]).map PyData.int)):=by unfold aO;simp only [hr,ww,map_some]
 have h2:aO 7 st (bW a)=some (qY ⟨bD n [(1,1)],true,1⟩):=by
  show (aG (aO 6 st) [.ref a,_,_]).map _=_;simp only [aG,h1,bind_some];rfl
 unfold aO;simp only [hg,aG,h2,wx,bind_some,map_some,pW,zO]
theorem Cj (h:st[k]?=some (.lst (nL (bh n F)))):aO 8 st (.ref k)=some (.list ((bh n F).map fun q:Nat=>PyData.int (q:Int))):=by
 unfold aO;simp only [h,kY,map_some]
theorem KB {a b c k:Nat} (hk:st[k]?=some (.lst (nL (bh n F)))) (hr:st[a]?=some (.lst (iL (bD n [(1,1)])))) (hg:st[b]?=some (.lst (bW a::(gk n (aj F)).map Gv.av))) (hc:st[c]?=some (.lst [.ref k,.ref b])):aO 9 st (.ref c)=some (kG n F):=by
 unfold aO;simp only [hc,aG,Cj hk,Ci (c:=0) hr hg,bind_some,map_some];rfl
theorem KA {c:Nat} (hc:st[c]?=some (.lst [.fz (nL (bh n F)),.fz ((bE n (aj F)).map Gv.av)])):aO 9 st (.ref c)=some (kG n F):=by
 have h1:aO 8 st (.fz (nL (bh n F)))=some (.list ((bh n F).map fun q:Nat=>PyData.int (q:Int))):=by show (aG (aO 7 st) _).map _=_;rw [kY];rfl
 have h2:aO 8 st (.fz ((bE n (aj F)).map Gv.av))=some (.list ((bE n (aj F)).map qY)):=by show (aG (aO 7 st) _).map _=_;rw [wx];rfl
 unfold aO;simp only [hc,aG,h1,h2,bind_some,map_some];rfl
theorem wv (hn:cw n) (h:∀ g ∈ aS n,aj os g=aj F g):bh n os=bh n F:=by
 unfold bh;refine List.filter_congr fun k hk=>?_
 have hj:=zr hn hk;unfold nJ;rw [Bool.eq_iff_iff,List.any_eq_true,List.any_eq_true];have:∀ g ∈ aS n,(aj os (g ||| 2 ^ k) && !aj os (g - (g &&& 2 ^ k)))=(aj F (g ||| 2 ^ k) && !aj F (g - (g &&& 2 ^ k))):=fun g hg=>by
  have hm:g ||| 2 ^ k ∈ aS n/\g - (g &&& 2 ^ k) ∈ aS n:=by
   have t:∀ n,n < 5->2 <= n->∀ k,k ∈ qR n->∀ g ∈ aS n,g ||| 2 ^ k ∈ aS n/\g - (g &&& 2 ^ k) ∈ aS n:=by decide +kernel
   exact t n (by rcases hn with rfl | rfl | rfl <;> decide) (by rcases hn with rfl | rfl | rfl <;> decide) k hk g hg
  rw [h _ hm.1,h _ hm.2]
 exact ⟨fun ⟨g,h1,h2⟩=>⟨g,h1,(this g h1) ▸ h2⟩,fun ⟨g,h1,h2⟩=>⟨g,h1,(this g h1).symm ▸ h2⟩⟩
end
abbrev KL:List Fn:=[dy,bZ,cq,cX,ce,dO,bH,bI,cD,hU]
section
variable {st:aa}{os F:List Nat}{n g k j:Nat}{x:AV}{ns:List Int}
theorem xh {w:Nat}{RR:List (List Int)}{HO:Nat->List Int}{gv:List Gv}{goal:List Int}{N:Nat}{t:AV} (h:mW w RR HO gv goal N=some t):rf t=true/\cL t=false:=by
 unfold mW at h;obtain ⟨⟨o,S⟩,_,h2⟩:=zA h;cases o with
 | some p =>
  have h2:mM w _ HO p S=some t:=h2;unfold mM at h2;split at h2
  ·cases h2;exact ⟨rfl,rfl⟩
  ·cases h2
 | none =>
  have h2:((gy w _ _ N S).bind fun r=>match r with
   | (none,S')=>iW w _ HO S'
   | (some q,S')=>i7 w _ q S')=some t:=h2
  obtain ⟨⟨oq,S2⟩,_,h4⟩:=zA h2;cases oq with
  | none =>
   have h4:iW w _ HO S2=some t:=h4;unfold iW at h4;split at h4
   ·cases h4;exact ⟨rfl,rfl⟩
   ·cases h4
  | some q =>
   have h4:i7 w _ q S2=some t:=h4;unfold i7 at h4;split at h4
   ·cases h4;exact ⟨rfl,rfl⟩
   ·cases h4
theorem LU (hn:cw n) (ho:∀ o ∈ os,o < 16):∃ F ∈ [0]::eF n,(∀ g ∈ aS n,aj os g=aj F g)/\(0 ∈ F ↔ 0 ∈ os):=by
 by_cases h:0 ∈ os
 ·refine ⟨[0],z7,fun g _=>?_,by simp [h]⟩
  have:aj os g=true:=List.any_eq_true.mpr ⟨0,h,by simp⟩;rw [this];simp [aj]
 ·obtain ⟨F,hF,e⟩:=Gz hn (os:=os) fun o h2=>Nat.pos_of_ne_zero fun z=>h (z ▸ h2)
  refine ⟨F,zQ _ hF,fun g hg=>?_,?_⟩
  ·obtain ⟨i,hi,rfl⟩:=yD.mp hg
   exact e i (List.mem_range.mp hi)
  ·have:∀ n,n < 5->∀ F ∈ eF n,0 ∉ F:=by decide +kernel
   exact ⟨fun z=>absurd z (this n (by rcases hn with rfl | rfl | rfl <;> decide) F hF),fun z=>absurd z h⟩
theorem AQ (h:st[k]?=some (.al (.fz (nL os)))):aO 9 st (.ref k)=some (.list (os.map fun q:Nat=>PyData.int (q:Int))):=by
 unfold aO;simp only [h];show (aG (aO 7 st) _).map _=_;rw [kY];rfl
theorem Bh:∀ l:List Nat,PyData.eqvAll (l.map fun q:Nat=>PyData.int (q:Int)) (l.map fun q:Nat=>PyData.int (q:Int))=true
 | []=>by simp [PyData.eqvAll]
 | a::l=>by simp [PyData.eqvAll,PyData.eqv,Bh l]
theorem HC (h:st[k]?=some (.al (.fz (nL os)))):cm .NotEq st (.ref k) (.fz (nL os))=some false:=by
 change (gM st (.ref k) (.fz (nL os))).map (fun b=>!b)=_;have h1:aO 9 st (.fz (nL os))=some (.list (os.map fun q:Nat=>PyData.int (q:Int))):=by show (aG (aO 8 st) _).map _=_;rw [kY];rfl
 have hd:(PyData.list (os.map fun q:Nat=>PyData.int (q:Int))).depth <= 1:=by
  have:∀ l:List Nat,PyData.depthAll (l.map fun q:Nat=>PyData.int (q:Int)) <= 0:=fun l=>by
   induction l with
   | nil=>exact zP _
   | cons x l ih=>simp only [zO,PyData.depthAll,PyData.depth];omega
  have:=this os
  simp only [PyData.depth];omega
 unfold gM;rw [AQ h,h1,bind_some,bind_some,yI (by unfold DD.pyOk;rw [show (PyData.list (os.map fun q:Nat=>PyData.int (q:Int))).canLay0=true by simp only [PyData.canLay0,HJ],yT oM];rfl)];simp [PyData.eqv,Bh]
theorem H0 (h:st[k]?=some (.al (.fz (nL os)))):cm .In st (.int 0) (.ref k)=some (decide (0 ∈ os)):=by
 change jZ st (.int ((0:Nat):Int)) (.ref k)=_;exact F6 (AQ h) (by unfold i5;simp [gU,kn,h]) nofun
theorem Jd (hn:cw n) (ho:∀ o ∈ os,o < 16) (hl:os.length <= 1000) (h:∀ g ∈ aS n,aj os g=aj F g) {t:AV} (ht:Ao n F=some t) (hc:st[k]?=some (.al (.fz (nL os)))):pm cD [.int n,.ref k] st=some (t,st):=by
 obtain ⟨v,s,e1,e2⟩:=uv (by simp [rfs,rf,fB]) (FR (st:=[]) hn ho hl h ht);exact AS rfl (ts:=[.int n,.fz (nL os)]) (by simp only [aG,qt hc,show ∀ i,rsl st (.int i)=some (.int i) from fun _=>rfl,bind_some,map_some]) e1 e2 (xh ht).2 (by
  have f1:gK st (.ref k)=some (.fz (nL os),st):=by unfold gK;rw [yH (by simp [rf])];simp only [hc]
  show ((gK st (.int n)).bind fun p=>(iH p.2 [.ref k]).map fun q=>(p.1::q.1,q.2))=_;show ((iH st [.ref k]).map fun q=>(AV.int n::q.1,q.2))=_;show (((gK st (.ref k)).bind fun p=>(iH p.2 []).map fun q=>(p.1::q.1,q.2)).map fun q=>(AV.int n::q.1,q.2))=_;rw [f1];rfl)
theorem KI (hn:cw n) (ho:∀ o ∈ os,o < 16) (hl:os.length <= 10) (hF:F ∈ [0]::eF n) (h:∀ g ∈ aS n,aj os g=aj F g) (hc:st[3]?=some (.al (.fz (nL os)))) {x7 x8 x9:Option AV}:∃ x8' x9' st',ai KL (.cons (.as (.ca false 5 (.cons (.v 2) (.cons (.v 3) .nil))) (.nm 8))
 (.cons (.as (.ca false 6 (.cons (.v 2) (.cons (.v 3) .nil))) (.nm 9))
 (.cons (.iff (.or (.cmp .NotEq (.bi .str (.cons (.nw true (.li (.cons (.v 8) (.cons (.v 9) .nil)))) .nil)) (.bi .str (.cons (.nw true (.li (.cons (.v 5) (.cons (.v 6) .nil)))) .nil))) (.cmp .NotEq (.v 3) (.v 4)))
 (.cons (.rt (.b false))
 .nil)
 .nil)
 (.cons (.ex (.mt .app (.v 8) (.cons (.i 0) .nil)))
 (.cons (.ex (.mt .app (.ix (.ix (.v 9) (.i 0)) (.i 0)) (.cons (.i 7) .nil)))
 (.cons (.ex (.mt .clr (.v 9) .nil))
 .nil)))))) [some (.fz (iL ns)),some (.ref 2),some (.int n),some (.ref 3),some (.fz (nL os)),some (.fz (nL (bh n F))),some (.fz ((bE n (aj F)).map Gv.av)),x7,x8,x9,none,none] st=some (.nx [some (.fz (iL ns)),some (.ref 2),some (.int n),some (.ref 3),some (.fz (nL os)),some (.fz (nL (bh n F))),some (.fz ((bE n (aj F)).map Gv.av)),x7,x8',x9',none,none] st')/\st'[3]?=some (.al (.fz (nL os))):=by
 have l3:3 < st.length:=(zB.mp hc).1;have oc:OC st 3 os:=.inr hc;have e1:=sx hn oc ho oM;have e2:=tI (st:=st++[.lst (nL (bh n os))]) hn (.inr ⟨3,rfl,oc.app⟩) ho oM;rw [wv hn h] at e1 e2;rw [show gk n (aj os)=gk n (aj F) by have:=uR h;rw [pW,pW] at this;injection this] at e2;rw [zV,List.length_singleton,yN] at e2;generalize hst:st++([Nq.lst (nL (bh n F))]++[.lst (iL (bD n [(1,1)])),.lst (bW (st.length + 1)::(gk n (aj F)).map Gv.av)])=s2 at e2;have g0:s2[st.length]?=some (.lst (nL (bh n F))):=by rw [<- hst];simp
 have g1:s2[st.length + 1]?=some (.lst (iL (bD n [(1,1)]))):=by rw [<- hst];simp
 have g2:s2[st.length + 2]?=some (.lst (bW (st.length + 1)::(gk n (aj F)).map Gv.av)):=by rw [<- hst];simp
 have g3:s2[3]?=some (.al (.fz (nL os))):=by rw [<- hst];exact ga hc
 generalize hs3:s2++[Nq.lst [.ref st.length,.ref (st.length + 2)]]=s3;have l3':s2.length=st.length + 3:=by rw [<- hst];simp
 have k0:s3[st.length]?=some (.lst (nL (bh n F))):=by rw [<- hs3];exact ga g0
 have k1:s3[st.length + 1]?=some (.lst (iL (bD n [(1,1)]))):=by rw [<- hs3];exact ga g1
 have k2:s3[st.length + 2]?=some (.lst (bW (st.length + 1)::(gk n (aj F)).map Gv.av)):=by rw [<- hs3];exact ga g2
 have k3:s3[3]?=some (.al (.fz (nL os))):=by rw [<- hs3];exact ga g3
 have k4:s3[s2.length]?=some (.lst [.ref st.length,.ref (st.length + 2)]):=by rw [<- hs3];exact gl
 generalize hs4:s3++[Nq.lst [.fz (nL (bh n F)),.fz ((bE n (aj F)).map Gv.av)]]=s4;have m0:s4[st.length]?=some (.lst (nL (bh n F))):=by rw [<- hs4];exact ga k0
 have m1:s4[st.length + 1]?=some (.lst (iL (bD n [(1,1)]))):=by rw [<- hs4];exact ga k1
 have m2:s4[st.length + 2]?=some (.lst (bW (st.length + 1)::(gk n (aj F)).map Gv.av)):=by rw [<- hs4];exact ga k2
 have m3:s4[3]?=some (.al (.fz (nL os))):=by rw [<- hs4];exact ga k3
 have m5:s4[s3.length]?=some (.lst [.fz (nL (bh n F)),.fz ((bE n (aj F)).map Gv.av)]):=by rw [<- hs4];exact gl
 have t1:=AG (KB k0 k1 k2 k4) (Ay hn hF);have t2:=AG (KA m5) (Ay hn hF);generalize (kG n F).shown=sh at t1 t2;have v1:ev KL (.bi .str (.cons (.nw true (.li (.cons (.v 8) (.cons (.v 9) .nil)))) .nil)) [some (.fz (iL ns)),some (.ref 2),some (.int n),some (.ref 3),some (.fz (nL os)),some (.fz (nL (bh n F))),some (.fz ((bE n (aj F)).map Gv.av)),x7,some (.ref st.length),some (.ref (st.length + 2)),none,none] s2=some (.str sh,s3):=by
  simp [cM,hs3,t1]
 have v2:ev KL (.bi .str (.cons (.nw true (.li (.cons (.v 5) (.cons (.v 6) .nil)))) .nil)) [some (.fz (iL ns)),some (.ref 2),some (.int n),some (.ref 3),some (.fz (nL os)),some (.fz (nL (bh n F))),some (.fz ((bE n (aj F)).map Gv.av)),x7,some (.ref st.length),some (.ref (st.length + 2)),none,none] s3=some (.str sh,s4):=by
  simp [cM,hs4,t2]
 have ml:(bh n F).length <= 100:=by
  have:(bh n F).length <= (qR n).length:=List.length_filter_le _ _;have h2:(qR n).length <= 3:=by rcases hn with rfl | rfl | rfl <;> decide
  omega
 have n1:(s4.set st.length (.lst (nL (bh n F)++[.int 0])))[st.length + 1]?=some (.lst (iL (bD n [(1,1)]))):=by rw [aq oM];exact m1
 have n2:(s4.set st.length (.lst (nL (bh n F)++[.int 0])))[st.length + 2]?=some (.lst (bW (st.length + 1)::(gk n (aj F)).map Gv.av)):=by rw [aq oM];exact m2
 generalize hs5:s4.set st.length (.lst (nL (bh n F)++[.int 0]))=s5 at n1 n2;have p2:(s5.set (st.length + 1) (.lst (iL (bD n [(1,1)])++[.int 7])))[st.length + 2]?=some (.lst (bW (st.length + 1)::(gk n (aj F)).map Gv.av)):=by rw [aq oM];exact n2
 generalize hs6:s5.set (st.length + 1) (.lst (iL (bD n [(1,1)])++[.int 7]))=s6 at p2;refine ⟨some (.ref st.length),some (.ref (st.length + 2)),s6.set (st.length + 2) (.lst []),?_,?_⟩
 ·refine ay (sl':=[some (.fz (iL ns)),some (.ref 2),some (.int n),some (.ref 3),some (.fz (nL os)),some (.fz (nL (bh n F))),some (.fz ((bE n (aj F)).map Gv.av)),x7,some (.ref st.length),x9,none,none]) (st':=st++[.lst (nL (bh n F))]) (by simp [e1,jV]) ?_
  refine ay (sl':=[some (.fz (iL ns)),some (.ref 2),some (.int n),some (.ref 3),some (.fz (nL os)),some (.fz (nL (bh n F))),some (.fz ((bE n (aj F)).map Gv.av)),x7,some (.ref st.length),some (.ref (st.length + 2)),none,none]) (st':=s2) (by simp [e2,jV]) ?_;refine ay (sl':=[some (.fz (iL ns)),some (.ref 2),some (.int n),some (.ref 3),some (.fz (nL os)),some (.fz (nL (bh n F))),some (.fz ((bE n (aj F)).map Gv.av)),x7,some (.ref st.length),some (.ref (st.length + 2)),none,none]) (st':=s4) ?_ ?_
  ·simp [-J8,v1,v2,CQ,HC m3]
  have a1:=pZ (ks:=KL) (a:=.v 8) (e:=.i 0) (y:=.int 0) (k:=st.length) (xs:=nL (bh n F)) (sl:=[some (.fz (iL ns)),some (.ref 2),some (.int n),some (.ref 3),some (.fz (nL os)),some (.fz (nL (bh n F))),some (.fz ((bE n (aj F)).map Gv.av)),x7,some (.ref st.length),some (.ref (st.length + 2)),none,none]) (st:=s4) rfl rfl m0 (by rw [jm];omega);rw [hs5] at a1;refine ay a1 ?_;have ix:ev KL (.ix (.ix (.v 9) (.i 0)) (.i 0)) [some (.fz (iL ns)),some (.ref 2),some (.int n),some (.ref 3),some (.fz (nL os)),some (.fz (nL (bh n F))),some (.fz ((bE n (aj F)).map Gv.av)),x7,some (.ref st.length),some (.ref (st.length + 2)),none,none] s5=some (.ref (st.length + 1),s5):=by
   have i1:cU s5 (.ref (st.length + 2)) (.int 0)=some (bW (st.length + 1)):=by rw [cT (bz n2),show (0:Int)=((0:Nat):Int) from rfl,cG];rfl
   simp [i1,bW];rfl
  have a2:=pZ (ks:=KL) (a:=.ix (.ix (.v 9) (.i 0)) (.i 0)) (e:=.i 7) (y:=.int 7) (k:=st.length + 1) (xs:=iL (bD n [(1,1)])) (sl:=[some (.fz (iL ns)),some (.ref 2),some (.int n),some (.ref 3),some (.fz (nL os)),some (.fz (nL (bh n F))),some (.fz ((bE n (aj F)).map Gv.av)),x7,some (.ref st.length),some (.ref (st.length + 2)),none,none]) (st:=s5) ix rfl n1 (by rw [ic,ji];rcases hn with rfl | rfl | rfl <;> decide);rw [hs6] at a2;refine ay a2 ?_;simp [iz,jY,jX,jU,bz p2,uP,dD,p2]
 ·rw [aq oM,<- hs6,aq oM,<- hs5,aq oM];exact m3
theorem nn (x:Int) (h:0 <= x):∃ n:Nat,cw n/\2 + x % 3=(n:Int):=by
 have h1:=Int.emod_nonneg x (show (3:Int) ≠ 0 by decide);have h2:=Int.emod_lt_of_pos x (show (0:Int) < 3 by decide);exact ⟨(2 + x % 3).toNat,by unfold cw;omega,by omega⟩
theorem AR {fn:Fn}{y:List AV}{A B C:Nq}{c:Nq} (hc:c=.lst (nL os)\/c=.al (.fz (nL os))) (h:∃ r,fn [.int n,.fz (nL os)] []=some r/\rsl r.2 r.1=some (.fz y)):pm fn [.int n,.ref 3] [A,B,C,c]=some (.fz y,[A,B,C,.al (.fz (nL os))]):=by
 obtain ⟨r,e1,e2⟩:=h;have oc:OC [A,B,C,c] 3 os:=by rcases hc with rfl | rfl;exact .inl rfl;exact .inr rfl
 refine AS (v:=r.1) (st':=r.2) (ts:=[.int n,.fz (nL os)]) rfl (by simp only [aG,oc.rsl,show ∀ i,rsl [A,B,C,c] (.int i)=some (.int i) from fun _=>rfl,bind_some,map_some]) e1 e2 rfl ?_;show ((gK [A,B,C,c] (.ref 3)).bind fun p=>(iH p.2 []).map fun q=>(p.1::q.1,q.2)).map (fun q=>(AV.int n::q.1,q.2))=_;have f1:gK [A,B,C,c] (.ref 3)=some (.fz (nL os),[A,B,C,.al (.fz (nL os))]):=by
  rcases hc with rfl | rfl
  ·unfold gK;rw [yH (by simp [rf])];simp [fB]
  ·unfold gK;rw [yH (by simp [rf])];simp
 rw [f1];rfl
theorem KQ (hn:cw n) {x7 x8 x9 z0 z1:Option AV}:∃ x,ev KL (.nw false (.lc 1 (.r2 (.i 1) (.v 2)) (.nm 12) .no (.tu (.cons (.bin .LShift (.i 1) (.v 12)) (.cons (.i 1) .nil))))) [some (.fz (iL ns)),some (.ref 2),some (.int n),some (.ref 3),some (.fz (nL os)),some (.fz (nL (bh n F))),some (.fz ((bE n (aj F)).map Gv.av)),x7,x8,x9,z0,z1] st=some (x,st)/\pm bI [.int n,x] st=some (.fz (iL (iG n)),st):=by
 rcases hn with rfl | rfl | rfl
 ·exact ⟨.fz [.tup [.int 2,.int 1]],rfl,bw rfl (by kernel_rfl)⟩
 ·exact ⟨.fz [.tup [.int 2,.int 1],.tup [.int 4,.int 1]],rfl,bw rfl (by kernel_rfl)⟩
 ·exact ⟨.fz [.tup [.int 2,.int 1],.tup [.int 4,.int 1],.tup [.int 8,.int 1]],rfl,bw rfl (by kernel_rfl)⟩
theorem HK (hns:ns.length <= 63):∃ st,oC [.fz (iL ns)] []=some (.bl true,st):=by
 have key:∃ r,oC [.fz (iL ns)] []=some r/\r.1=.bl true:=by
  obtain ⟨A,B,D,e1,hD,hd⟩:=Df hns;obtain ⟨D1,x0,rfl⟩:=uT (D:=D) (fun z=>by rw [z] at hD;cases hD);obtain ⟨hx0,hx1⟩:=hd x0 (by simp);obtain ⟨n,hn,en⟩:=nn x0 hx0;have p0:=uu (st:=[A,B,Nq.lst (iL (D1++[x0]))]) (r:=2) (D:=D1) (x:=x0) rfl;obtain ⟨D2,os,e2,ho,hl⟩:=wd (A:=A) (B:=B) (D:=D1) hn (by simp at hD;omega) fun x hx=>hd x (by simp [hx])
  obtain ⟨F,hF,hf,h0⟩:=LU hn ho;have hm:=wv hn hf;have hg:=uR hf;have ck:=GC hn hF;unfold chk at ck;rw [oC,aI];show ∃ r,(ai KL pY [some (.fz (iL ns)),none,none,none,none,none,none,none,none,none,none,none] []).bind aH=some r/\_;unfold pY;refine aK (sl':=[some (.fz (iL ns)),some (.ref 2),none,none,none,none,none,none,none,none,none,none]) (st':=[A,B,.lst (iL (D1++[x0]))]) (by simp [e1,jV]) ?_;refine aK (sl':=[some (.fz (iL ns)),some (.ref 2),some (.int n),none,none,none,none,none,none,none,none,none]) (st':=[A,B,.lst (iL D1)]) (by simp [p0,jV,eO (show (3:Int) ≠ 0 by decide),show k9 x0 3=x0 % 3 from yI dC,en]) ?_;refine aK (sl':=[some (.fz (iL ns)),some (.ref 2),some (.int n),some (.ref 3),none,none,none,none,none,none,none,none]) (st':=[A,B,.lst (iL D2),.lst (nL os)]) (by simp [e2,jV]) ?_;refine aK (sl':=[some (.fz (iL ns)),some (.ref 2),some (.int n),some (.ref 3),some (.fz (nL os)),none,none,none,none,none,none,none]) (st':=[A,B,.lst (iL D2),.lst (nL os)]) (by simp [mO,bq,dr,fB,bv (show os.length <= 1000 by omega)]) ?_;refine aK (sl':=[some (.fz (iL ns)),some (.ref 2),some (.int n),some (.ref 3),some (.fz (nL os)),some (.fz (nL (bh n F))),none,none,none,none,none,none]) (st':=[A,B,.lst (iL D2),.al (.fz (nL os))]) (by simp [AR (.inl rfl) (wz hn ho oM),hm]) ?_;refine aK (sl':=[some (.fz (iL ns)),some (.ref 2),some (.int n),some (.ref 3),some (.fz (nL os)),some (.fz (nL (bh n F))),some (.fz ((bE n (aj F)).map Gv.av)),none,none,none,none,none]) (st':=[A,B,.lst (iL D2),.al (.fz (nL os))]) (by simp [AR (.inr rfl) (wB hn ho oM),hg]) ?_;refine qp (em:=fun q:Nat=>.int (q:Int)) (xs:=List.range 2) (gd:=[]) (st0:=[A,B,.lst (iL D2),.al (.fz (nL os))]) (fun _ sl s=>s[3]?=some (.al (.fz (nL os)))/\∃ x7 x8 x9,sl=[some (.fz (iL ns)),some (.ref 2),some (.int n),some (.ref 3),some (.fz (nL os)),some (.fz (nL (bh n F))),some (.fz ((bE n (aj F)).map Gv.av)),x7,x8,x9,none,none]) rfl (fun _ _ _ _=>rfl) ⟨rfl,_,_,_,rfl⟩ ?_ ?_
  ·rintro i q sl s _ ⟨hc,x7,x8,x9,rfl⟩
   obtain ⟨x8',x9',st',e,h3⟩:=KI (ns:=ns) hn ho hl hF hf hc (x7:=some (.int (q:Int))) (x8:=x8) (x9:=x9);exact ⟨_,_,_,rfl,e,h3,_,_,_,rfl⟩
  ·rintro sl s ⟨hc,x7,x8,x9,rfl⟩
   split at ck
   ·rename_i t ht
    rw [zC] at ck;obtain ⟨c1,c2⟩:=ck;obtain ⟨x,ex,er⟩:=KQ (st:=s) (os:=os) (F:=F) (ns:=ns) (z0:=none) (z1:=none) (x7:=x7) (x8:=x8) (x9:=x9) hn;have ea:=Jd hn ho oM hf ht hc;have rt:=xh ht;have eh:pm hU [.int n,.fz ((bE n (aj F)).map Gv.av),.fz (iL (iG n)),t] s=some (.bl true,s):=by
     unfold JM at c1;split at c1
     ·rename_i b hb
      have c1:b=true:=c1;subst c1;exact bw (by simp [rfs,rf,Bp,nW,rt.1]) hb
     ·cases c1
    refine aK (sl':=[some (.fz (iL ns)),some (.ref 2),some (.int n),some (.ref 3),some (.fz (nL os)),some (.fz (nL (bh n F))),some (.fz ((bE n (aj F)).map Gv.av)),x7,x8,x9,some (.fz (iL (iG n))),none]) (st':=s) (by simp [-mG,ex,er]) ?_;refine aK (sl':=[some (.fz (iL ns)),some (.ref 2),some (.int n),some (.ref 3),some (.fz (nL os)),some (.fz (nL (bh n F))),some (.fz ((bE n (aj F)).map Gv.av)),x7,x8,x9,some (.fz (iL (iG n))),some t]) (st':=s) (by simp [ea]) ?_;refine aK (sl':=[some (.fz (iL ns)),some (.ref 2),some (.int n),some (.ref 3),some (.fz (nL os)),some (.fz (nL (bh n F))),some (.fz ((bE n (aj F)).map Gv.av)),x7,x8,x9,some (.fz (iL (iG n))),some t]) (st':=s) (by simp [eh,dH]) ?_;have io:=H0 hc;by_cases hz:0 ∈ os
    ·rw [yI (h0.mpr hz)] at c2
     refine qo (v:=.bl true) (st':=s) ?_ rfl;unfold JB at c2;split at c2
     ·rename_i s' w
      have c2:=yK c2;subst c2;have ix:cU s (.tup [.str "never",w]) (.int 0)=some (.str "never"):=rfl;have eq:cm .Eq s (.str "never") (.str "never")=some true:=by kernel_rfl
      simp [io,hz,ix,eq,sX]
     ·cases c2
    ·rw [yH fun z=>hz (h0.mp z)] at c2
     refine aK (sl':=[some (.fz (iL ns)),some (.ref 2),some (.int n),some (.ref 3),some (.fz (nL os)),some (.fz (nL (bh n F))),some (.fz ((bE n (aj F)).map Gv.av)),x7,x8,x9,some (.fz (iL (iG n))),some t]) (st':=s) (by simp [io,hz]) ?_;refine qo (v:=.bl true) (st':=s) ?_ rfl;unfold JH at c2;split at c2
     ·rename_i s' a b w1 w2 w3
      simp only [zC] at c2;obtain ⟨⟨q1,q2⟩,q3⟩:=c2;have q1:=yK q1;have q2:=yK q2;have q3:=yK q3;subst q1;subst q2;subst q3;have sl:vp (ev KL (.v 11)) (jq KL .no) (jq KL (.so (.i 2))) [some (.fz (iL ns)),some (.ref 2),some (.int n),some (.ref 3),some (.fz (nL os)),some (.fz (nL (bh n F))),some (.fz ((bE n (aj F)).map Gv.av)),x7,x8,x9,some (.fz (iL (iG n))),some (.tup [.str "least",.tup [.int ((bh n F).length:Int),.int 1],w1,w2,w3])] s=some (.tup [.str "least",.tup [.int ((bh n F).length:Int),.int 1]],s):=rfl;have eq:cm .Eq s (.tup [.str "least",.tup [.int ((bh n F).length:Int),.int 1]]) (.tup [.str "least",.tup [.int ((bh n F).length:Int),.int 1]])=some true:=by
       change gM s _ _=_;unfold gM;show (if DD.pyOk _ _=true then some (PyData.eqv (.tuple [.str "least",.tuple [.int ((bh n F).length:Int),.int 1]]) (.tuple [.str "least",.tuple [.int ((bh n F).length:Int),.int 1]])) else _)=_;rw [yI (by kernel_rfl)];simp [PyData.eqv,PyData.eqvAll]
      have ln:bQ eE [.fz (nL (bh n F))] s=some (.int ((bh n F).length:Int),s):=by
       show some (AV.int ((nL (bh n F)).length:Int),s)=_;rw [jm]
      simp [sl,ln,eq]
     ·cases c2
   ·cases ck
 obtain ⟨⟨v,s⟩,e,h⟩:=key;have h:v=.bl true:=h;subst h;exact ⟨s,e⟩
theorem Ks:Room e_law.d callerA:=⟨rfl,by decide,by decide,rfl⟩
theorem BT:∀ t ∈ (Nt.tb:List (Addr × Pos × Str)),t.1 ∈ ([(261,259)]:List (Addr × Addr)).map (·.2):=by
 intro t ht;have:t=(259,⟨163,30,163,63⟩,("Sheet.raising_column":Str)++".<locals>."++"<lambda>"):=zM.mp ht;rw [this];exact zM.mpr rfl
theorem holds:∀ ns:List Int,ns.length <= 63->∃ st,JP [.fz (ns.map .int)] []=some (.bl true,st):=fun _ h=>HK h
end
end LW
def PySem.W.Fast.tw2224860832885714585:=()
def PySem.W.Fast.tw10475795482765067892:=()
def PySem.W.Fast.tw4535189975007445599:=()
def PySem.W.Fast.tw14234500146477186858:=()
def PySem.W.Fast.tw9775508754567597460:=()
def PySem.W.Fast.tw9037501596247057337:=()
def PySem.W.Fast.tw4961543095865686313:=()
def PySem.W.Fast.tw6074742210591260863:=()
def PySem.W.Fast.tw14076027489040249555:=()
def PySem.W.Fast.tw3845333608885350987:=()
def PySem.W.Fast.tw7276787478256606698:=()
def PySem.W.Fast.tw16758766981298765501:=()
def PySem.W.Fast.tw11176480842274781968:=()
def PySem.W.Fast.tw9161698124558392166:=()
def PySem.W.Fast.tw16166119060827339728:=()
def PySem.W.Fast.tw14398022792216469844:=()
def PySem.W.Fast.tw11106437104976558534:=()
def PySem.W.Fast.tw1293164745035046633:=()
def PySem.W.Fast.tw7464966578961577823:=()
def PySem.W.Fast.tw6839847104494959309:=()
def PySem.W.Fast.tw1378764077693156509:=()
def PySem.W.Fast.tw17421040075443571851:=()
def PySem.W.Fast.tw10236478553744379014:=()
def PySem.W.Fast.tw11769383585786425982:=()
def PySem.W.Fast.tw61365357072379774:=()
def PySem.W.Fast.tw9680945394728411707:=()
def PySem.W.Fast.tw18114800300424127941:=()
def PySem.W.Fast.tw5805462503719881121:=()
def PySem.W.Fast.tw7646637175637185783:=()
def PySem.W.Fast.tw2599750482308053929:=()
def PySem.W.Fast.tw6129579995873602324:=()
def PySem.W.Fast.tw6044536586399027530:=()
def PySem.W.Fast.tw6934408547006378756:=()
def PySem.W.Fast.tw2415210980241105506:=()
def PySem.W.Fast.tw11200850152390311826:=()
def PySem.W.Fast.tw16267015808590710848:=()
def PySem.W.Fast.tw3425096122856765662:=()
def PySem.W.Fast.tw14918076652803957234:=()
def PySem.W.Fast.tw9599175703852666474:=()
def PySem.W.Fast.tw14063866864154485691:=()
def PySem.W.Fast.tw11937766267199620053:=()
def PySem.W.Fast.tw12309030096864777429:=()
def PySem.W.Fast.tw8851022907544756522:=()
def PySem.W.Fast.tw8004702435752129525:=()
def PySem.W.Fast.tw1840227500123508962:=()
def PySem.W.Fast.tw11961514544491045610:=()
def PySem.W.Fast.tw67864347831936016:=()
def PySem.W.Fast.tw13829839225546784394:=()
def PySem.W.Fast.tw16186904380337447925:=()
def PySem.W.Fast.tw18183426805075191829:=()
def PySem.W.Fast.tw4303357118510340826:=()
def PySem.W.Fast.tw15925313510847459767:=()
def PySem.W.Fast.tw12002693864479869319:=()
def PySem.W.Fast.tw10891618875765500858:=()
def PySem.W.Fast.tw72105001282255819:=()
def PySem.W.Fast.tw14686016082799378961:=()
def PySem.W.Fast.tw7224076197410075817:=()
def PySem.W.Fast.tw2774409802048604005:=()
def PySem.W.Fast.tw4133186399579911744:=()
def PySem.W.Fast.tw18142822468435867483:=()
def PySem.W.Fast.tw15276998244836598701:=()
def PySem.W.Fast.tw10532883164765870977:=()
def PySem.W.Fast.tw6597823349151363072:=()
def PySem.W.Fast.tw13275684265231678246:=()
def PySem.W.Fast.tw2814821394562332973:=()
def PySem.W.Fast.tw15613472261640728197:=()
def PySem.W.Fast.tw11778146492783746236:=()
def PySem.W.Fast.tw17344535058644107714:=()
def PySem.W.Fast.tw2761018939906893997:=()
def PySem.W.Fast.tw6114565934557009040:=()
def PySem.W.Fast.tw17507400769050833130:=()
def PySem.W.Fast.tw12555470787671119606:=()
def PySem.W.Fast.tw2271525192055399249:=()
def PySem.W.Fast.tw5064561293630433647:=()
def PySem.W.Fast.tw2804207792000647606:=()
def PySem.W.Fast.tw1334346476937503860:=()
def PySem.W.Fast.tw4482682542926783990:=()
def PySem.W.Fast.tw12896412794481321053:=()
def PySem.W.Fast.tw3182558304081261266:=()
def PySem.W.Fast.tw3402123728244846217:=()
def PySem.W.Fast.tw17357864747959412559:=()
def PySem.W.Fast.tw7760765171823329400:=()
def PySem.W.Fast.tw1983880157086486455:=()
def PySem.W.Fast.tw16654277739426853737:=()
def PySem.W.Fast.tw7853624586869586934:=()
def PySem.W.Fast.tw10122761497095333088:=()
def PySem.W.Fast.tw10889944902248602463:=()
def PySem.W.Fast.tw7106845749700397564:=()
def PySem.W.Fast.tw3984585592808781593:=()
def PySem.W.Fast.tw2062959874397467000:=()
def PySem.W.Fast.tw8125443064903358167:=()
def PySem.W.Fast.tw16508504288485375231:=()
def PySem.W.Fast.tw14189849658158715182:=()
def PySem.W.Fast.tw4872687419874957611:=()
def PySem.W.Fast.tw11411104725625762260:=()
def PySem.W.Fast.tw7086826666620638484:=()
def PySem.W.Fast.tw15577078383522582553:=()
def PySem.W.Fast.tw6861639497163676277:=()
def PySem.W.Fast.tw4750359196176221933:=()
def PySem.W.Fast.tw16107243123504930028:=()
def PySem.W.Fast.tw7484975747245691829:=()
def PySem.W.Fast.tw11997116408574253474:=()
def PySem.W.Fast.tw4643538318970442735:=()
def PySem.W.Fast.tw9075617033091848666:=()
def PySem.W.Fast.tw135330187574710020:=()
def PySem.W.Fast.tw9645756647812877556:=()
def PySem.W.Fast.tw6632985044970950461:=()
def PySem.W.Fast.tw10816863565182321549:=()
def PySem.W.Fast.tw5273093234603675738:=()
def PySem.W.Fast.tw11044818917028561136:=()
def PySem.W.Fast.tw14024678052412068892:=()
def PySem.W.Fast.tw17884799286545997712:=()
def PySem.W.Fast.tw14018047809561528266:=()
def PySem.W.Fast.tw9620551570360270601:=()
def PySem.W.Fast.tw14403609212701714500:=()
def PySem.W.Fast.tw14483699322567453803:=()
def PySem.W.Fast.tw12693416440257501173:=()
def PySem.W.Fast.tw2514820491174190922:=()
def PySem.W.Fast.tw6752437429241696347:=()
def PySem.W.Fast.tw17083226077427256326:=()
def PySem.W.Fast.tw7927599390760074373:=()
def PySem.W.Fast.tw4647348824135773630:=()
def PySem.W.Fast.tw15311567052871565399:=()
def PySem.W.Fast.tw187793471703875610:=()
def PySem.W.Fast.tw17301317813681067311:=()
def PySem.W.Fast.tw8017603283873686222:=()
def PySem.W.Fast.tw11340709320952244835:=()
def PySem.W.Fast.tw17551976026468651949:=()
def PySem.W.Fast.tw15581282090165506296:=()
def PySem.W.Fast.tw17408692155861993931:=()
def PySem.W.Fast.tw7585152351338353916:=()
def PySem.W.Fast.tw5553655967116503699:=()
def PySem.W.Fast.tw12703100025124852724:=()
def PySem.W.Fast.tw12628858842806089966:=()
def PySem.W.Fast.tw7626629546080790980:=()
def PySem.W.Fast.tw657693965809736270:=()
def PySem.W.Fast.tw2942705758343129017:=()
def PySem.W.Fast.tw10295864724683578598:=()
def PySem.W.Fast.tw4493540979366848381:=()
def PySem.W.Fast.tw12459617538516338808:=()
def PySem.W.Fast.tw7918683800843591155:=()
def PySem.W.Fast.tw15224609632179372834:=()
def PySem.W.Fast.tw11335777259546490352:=()
def PySem.W.Fast.tw15574149801675811827:=()
def PySem.W.Fast.tw3663722532145497287:=()
def PySem.W.Fast.tw16928199559445145610:=()
def PySem.W.Fast.tw16923098990143332908:=()
def PySem.W.Fast.tw14930156980842885535:=()
def PySem.W.Fast.tw15348134239924020849:=()
def PySem.W.Fast.tw15121104757058131582:=()
def PySem.W.Fast.tw11274415176647752596:=()
def PySem.W.Fast.tw10921811657634939674:=()
def PySem.W.Fast.tw14345358290573889260:=()
def PySem.W.Fast.tw17940809838915795763:=()
def PySem.W.Fast.tw14723545301727030432:=()
def PySem.W.Fast.tw1033654347799504932:=()
def PySem.W.Fast.tw14440011118953941128:=()
def PySem.W.Fast.tw3152287720518279663:=()
def PySem.W.Fast.tw10163946717219288509:=()
def PySem.W.Fast.tw7467490351686882788:=()
def PySem.W.Fast.tw6281781198236372966:=()
def PySem.W.Fast.tw18317138390164529007:=()
def PySem.W.Fast.tw15446163627619389141:=()
def PySem.W.Fast.tw12444031278654465313:=()
def PySem.W.Fast.tw4413113511400758687:=()
def PySem.W.Fast.tw2044818563186523298:=()
def PySem.W.Fast.tw1403918652529191473:=()
def PySem.W.Fast.tw5308951254670420833:=()
def PySem.W.Fast.tw3169545898600897215:=()
def PySem.W.Fast.tw5836760397779595176:=()
def PySem.W.Fast.tw11019048552669100994:=()
def PySem.W.Fast.tw17200838396646254308:=()
def PySem.W.Fast.tw5739289565202728058:=()
def PySem.W.Fast.tw9354523746574253124:=()
def PySem.W.Fast.tw8102918935048063962:=()
def PySem.W.Fast.tw314024858539316073:=()
def PySem.W.Fast.tw15336470186544227770:=()
def PySem.W.Fast.tw1853831523959211823:=()
def PySem.W.Fast.tw10149805870150245296:=()
def PySem.W.Fast.tw13441360254072340980:=()
def PySem.W.Fast.tw11234133408185822025:=()
def PySem.W.Fast.tw8724300852393645079:=()
def PySem.W.Fast.tw10628312702981011182:=()
def PySem.W.Fast.tw9852154223810504977:=()
def PySem.W.Fast.tw6455278178541536498:=()
def PySem.W.Fast.tw16322184795723231407:=()
def PySem.W.Fast.tw9531139248971297519:=()
def PySem.W.Fast.tw9978872154858087810:=()
def PySem.W.Fast.tw2736968293812520328:=()
def PySem.W.Fast.tw7146047237349076767:=()
def PySem.W.Fast.tw8970908650215090994:=()
def PySem.W.Fast.tw640610211711061105:=()
def PySem.W.Fast.tw15075790529181878122:=()
def PySem.W.Fast.tw5652475289638948244:=()
def PySem.W.Fast.tw873652309501819382:=()
def PySem.W.Fast.tw14219290483061318463:=()
def PySem.W.Fast.tw16743345195788826595:=()
def PySem.W.Fast.tw178711152388355735:=()
def PySem.W.Fast.tw17190381388760699469:=()
def PySem.W.Fast.tw17130060724720246228:=()
def PySem.W.Fast.tw3360630782673673237:=()
def PySem.W.Fast.tw8550461746509180428:=()
def PySem.W.Fast.tw13536203276729064529:=()
def PySem.W.Fast.tw13002936205884064:=()
def PySem.W.Fast.tw5763590522206260973:=()
def PySem.W.Fast.tw15464703736262743372:=()
def PySem.W.Fast.tw11715395591614311278:=()
def PySem.W.Fast.tw13575944001283028354:=()
def PySem.W.Fast.tw15080040957748140452:=()
def PySem.W.Fast.tw9535405188884478297:=()
def PySem.W.Fast.tw629091611549764656:=()
def PySem.W.Fast.tw13761419292354308171:=()
def PySem.W.Fast.tw11662259591568801634:=()
def PySem.W.Fast.tw8695770475815831113:=()
def PySem.W.Fast.tw4390980709509314439:=()
def PySem.W.Fast.tw1235913390700231443:=()
def PySem.W.Fast.tw1523024394771666584:=()
def PySem.W.Fast.tw2589004885529019514:=()
def PySem.W.Fast.tw5287405801878897882:=()
def PySem.W.Fast.tw23528683264861791:=()
def PySem.W.Fast.tw633782592619044874:=()
def PySem.W.Fast.tw1045103008057225876:=()
def PySem.W.Fast.tw3558367718085308625:=()
def PySem.W.Fast.tw1500925735830577360:=()
def PySem.W.Fast.tw9119017082412656264:=()
def PySem.W.Fast.tw10357249457265246559:=()
def PySem.W.Fast.tw488898255109413231:=()
def PySem.W.Fast.tw10884820904258906100:=()
def PySem.W.Fast.tw10361751652319746729:=()
def PySem.W.Fast.tw10320129214016955089:=()
def PySem.W.Fast.tw11052429698559258016:=()
def PySem.W.Fast.tw15639675772437336752:=()
def PySem.W.Fast.tw438067179989619028:=()
def PySem.W.Fast.tw10550778501553077164:=()
def PySem.W.Fast.tw312256945784159678:=()
def PySem.W.Fast.tw15896380148889745264:=()
def PySem.W.Fast.tw5998012465966359915:=()
def PySem.W.Fast.tw8669359285415783094:=()
def PySem.W.Fast.tw8648536088905487131:=()
def PySem.W.Fast.tw504675614336012125:=()
def PySem.W.Fast.tw7131394350028636790:=()
def PySem.W.Fast.tw6024575561653610339:=()
def PySem.W.Fast.tw3217895888782156504:=()
def PySem.W.Fast.tw17250016385064114827:=()
def PySem.W.Fast.tw7498853821386115253:=()
open PySem PySem.W PyProof.Rows
set_option maxRecDepth 100000 in
set_option maxHeartbeats 0 in
theorem PySem.Challenge.cw_telltight_k35_whole_locks_holds : PySem.Challenge.rw_telltight_k35_whole_locks.Holds := by
 w_on; o_law; k_head; (case hw => w_witness2)
 k_fill
 refine R.walk_R (l := PySem.Challenge.rw_telltight_k35_whole_locks) (k := LW.e_law.d) (fn := LW.JP) (tabs := [(261, 259)]) rfl rfl ?hrr (fun w h Y => ⟨km_in_of Y, fun q hq => km_tabs_of Y q.2 (by simp only [zM] at hq ⊢; rw [hq])⟩) ?hcc ?hKK ?htt LW.holds ?F
 case hrr => exact LW.Ks
 case hcc => intro w q hq; simp only [zM] at hq; rw [hq]; kernel_rfl
 case hKK => intro w; kernel_rfl
 case htt => intro t ht; exact LW.BT t ht
 case F =>
  intro w mg fa h KX G hmg;refine R.law_F (gs := LW.gs) (cl := LW.cl) (pre := LW.pre) (e := LW.e_law) KX G hmg ?nb ?gs ?cl LW.Dj LW.Dk (LW.EJ KX G ?h0 ?h1 ?h2 ?h3 ?h4 ?h5 ?h6 ?h7 ?h8 ?h9 ?h10 ?h11 ?h12 ?h13 ?h14 ?h15 ?h16 ?h17 ?h18 ?h19 ?h20 ?h21 ?h22 ?h23 ?h24 ?h25 ?h26 ?h27 ?h28 ?h29 ?h30 ?h31 ?h32 ?h33 ?h34 ?h35 ?h36 ?h37 ?h38 ?h39 ?h40 ?h41 ?h42 ?h43 ?h44 ?h45 ?h46 ?h47 ?h48 ?h49 ?h50 ?h51 ?h52 ?h53 ?h54 ?h55 ?h56 ?h57 ?h58 ?h59 ?h60 ?h61 ?h62 ?h63 ?h64 ?h65 ?h66 ?h67 ?h68 ?h69 ?h70 ?h71 ?h72 ?h73) ?law rfl LW.HL
  case nb => kernel_rfl
  case gs => intro p hp; simp only [LW.gs, zT, zX, or_false] at hp; rcases hp with rfl | rfl <;> exact ⟨_, by k_is⟩
  case cl => intro p hp; simp only [LW.cl, zT, zX, or_false] at hp; rcases hp with rfl <;> exact ⟨⟨_, by k_is, by kernel_rfl, by kernel_rfl, by kernel_rfl, by kernel_rfl⟩, ⟨_, by k_is, by kernel_rfl⟩⟩
  case law => exact ⟨_, _, _, _, _, _, _, _, _, _, by k_is, by k_is, by k_is, by k_is, .inl rfl⟩
  case h0 => exact ⟨_, by k_is, by kernel_rfl, by kernel_rfl, by kernel_rfl, by kernel_rfl⟩
  case h1 => exact ⟨_, by k_is, by kernel_rfl, by kernel_rfl⟩
  case h34 => exact ⟨_, _, _, _, _, _, _, _, _, _, _, by k_is, by k_is, by k_is, by k_is, by k_is, by k_is, .inr ⟨_, _, _, rfl, rfl, by kernel_rfl, rfl⟩⟩
  all_goals first | exact ⟨_, _, _, _, _, _, _, _, _, _, by k_is, by k_is, by k_is, by k_is, .inl rfl⟩ | exact ⟨_, _, _, _, _, _, _, _, _, _, _, by k_is, by k_is, by k_is, by k_is, by k_is, by k_is, .inl rfl⟩
#print axioms PySem.Challenge.cw_telltight_k35_whole_locks_holds
