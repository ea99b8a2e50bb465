import PyProof.Rows.All
import Wide.All
import OpenK.AllK
import Wide.FinOn
import PySem.Challenge.RW_telltight_k68_whole_no_weights_prove_it
set_option bootstrap.genMatcherCode false
set_option compiler.extract_closed false
noncomputable section
open Option (bind_some map_some)
open PySem.W (CodeHd Frag InitBack InstAt TabsAt any_some bind_fn callWith_K cellsFrom_some codeHdIn codeHd_of_K codeIn codeRec_of emptyDict findIn findObj_own fnOf get_value handedIn hasDictIn hideAll hideAll_get hideAll_none hideAll_size instObj isFn keepIn ki_setAt ki_setBack kia_one kitOne kitx_bool kitx_dict kitx_float kitx_int kitx_list kitx_none kitx_own kitx_str kitx_tuple kla_callFunE kla_codeExpr kla_eval kla_fn kla_makeFunction kla_makeFunctionHit km_in_of km_tabs_of lookIn looks_clsIn looks_findIn make_core makesIn makes_of mem_of_lookupK methodCall_KW methodObj method_fn mg_none_of mg_of mroIn noTabs nsIn of_hideAll osa_open plainGet plainGet_of plainOver set_plain specialIn tabObj takerIn takesIn truthy_bytes typeIn)
theorem oM {p:Prop} (h:p:=by first | omega | (refine @id (@Ne Nat _ _) ?_;omega)):p:=h
theorem dC {p:Prop} (h:p:=by decide):p:=h
set_option Elab.async false
set_option linter.all false
set_option maxRecDepth 100000
theorem zA{α β}{o:Option α}{f:α->Option β}{b}:o.bind f=some b->∃a,o=some a∧f a=some b:=Option.bind_eq_some_iff.mp
theorem zB:type_of% @List.getElem?_eq_some_iff:=@List.getElem?_eq_some_iff
theorem zC:type_of% @Bool.and_eq_true:=@Bool.and_eq_true
theorem zD:type_of% @List.getD_eq_getElem?_getD:=@List.getD_eq_getElem?_getD
theorem zE:type_of% @Option.map_eq_some_iff:=@Option.map_eq_some_iff
theorem zF:type_of% @List.getElem?_eq_getElem:=@List.getElem?_eq_getElem
theorem zG:type_of% @PySem.Heap.get?_push_of_some:=@PySem.Heap.get?_push_of_some
theorem zH:type_of% @List.length_map:=@List.length_map
theorem zI:type_of% @List.size_toArray:=@List.size_toArray
theorem zJ:type_of% @Nat.lt_of_lt_of_le:=@Nat.lt_of_lt_of_le
theorem zK:type_of% @List.mem_append_right:=@List.mem_append_right
theorem zL:type_of% @List.mem_append_left:=@List.mem_append_left
theorem zM:type_of% @List.mem_singleton:=@List.mem_singleton
theorem zN:type_of% @List.getElem?_append_left:=@List.getElem?_append_left
theorem zO:type_of% @List.map_cons:=@List.map_cons
theorem zP:type_of% @Nat.le_refl:=@Nat.le_refl
theorem zQ:type_of% @List.mem_cons_of_mem:=@List.mem_cons_of_mem
theorem zR:type_of% @List.getElem?_map:=@List.getElem?_map
theorem zS:type_of% @Nat.le_of_ble_eq_true:=@Nat.le_of_ble_eq_true
theorem zT:type_of% @List.mem_cons:=@List.mem_cons
theorem zU:type_of% @Nat.ne_of_lt:=@Nat.ne_of_lt
theorem zV:type_of% @List.length_append:=@List.length_append
theorem zW:type_of% @List.mem_of_getElem?:=@List.mem_of_getElem?
theorem zX:type_of% @List.not_mem_nil:=@List.not_mem_nil
theorem zY:type_of% @PySem.Heap.get?_push_size:=@PySem.Heap.get?_push_size
theorem zZ:type_of% @List.mem_append:=@List.mem_append
theorem z0:type_of% @Nat.le_trans:=@Nat.le_trans
theorem z7:type_of% @List.getElem?_append_right:=@List.getElem?_append_right
theorem z8:type_of% @List.mem_cons_self:=@List.mem_cons_self
theorem z9:type_of% @List.getElem?_of_mem:=@List.getElem?_of_mem
theorem yA:type_of% @decide_eq_false:=@decide_eq_false
theorem yB:type_of% @Bool.false_eq_true:=@Bool.false_eq_true
theorem yC:type_of% @decide_eq_true_eq:=@decide_eq_true_eq
theorem yD:type_of% @List.mem_map:=@List.mem_map
theorem yE:type_of% @Option.some.inj:=@Option.some.inj
theorem yF:type_of% @PySem.wpAny_bind:=@PySem.wpAny_bind
theorem yG:type_of% @PySem.wpAny_pure:=@PySem.wpAny_pure
theorem yH:type_of% @if_neg:=@if_neg
theorem yI:type_of% @if_pos:=@if_pos
theorem yJ:type_of% @PySem.Heap.lt_size:=@PySem.Heap.lt_size
theorem yK:type_of% @eq_of_beq:=@eq_of_beq
theorem yL:type_of% @Nat.ble_eq_true_of_le:=@Nat.ble_eq_true_of_le
theorem yM:type_of% @Nat.lt_of_le_of_lt:=@Nat.lt_of_le_of_lt
theorem yN:type_of% @List.append_assoc:=@List.append_assoc
theorem yO:type_of% @List.lookup_cons:=@List.lookup_cons
theorem yP:type_of% @List.all_eq_true:=@List.all_eq_true
theorem yQ:type_of% @PySem.wpAny_holding:=@PySem.wpAny_holding
theorem yR:type_of% @PySem.wpAny_mono:=@PySem.wpAny_mono
theorem yS:type_of% @Nat.lt_or_ge:=@Nat.lt_or_ge
theorem yT:type_of% @decide_eq_true:=@decide_eq_true
theorem yU:type_of% @List.getElem?_set:=@List.getElem?_set
theorem yV:type_of% @List.length_cons:=@List.length_cons
theorem yW:type_of% @Nat.le_of_lt:=@Nat.le_of_lt
theorem yX:type_of% @Nat.lt_irrefl:=@Nat.lt_irrefl
namespace L2
open PySem PySem.Spec PyProof.Rows
abbrev aR:=Sum Int Str
def hV:aR->Value->Bool
 | .inl k,v=>Value.isInt k v
 | .inr x,v=>Value.isStrOf x v
def Jz (w:World):aR->Int
 | .inl k=>hashInt k
 | .inr x=>hashStr w x
theorem cC:∀ {k:aR}{v:Value},hV k v=true->(∃ i t,k=Sum.inl i/\v=Value.int i t)\/(∃ x t,k=Sum.inr x/\v=Value.str x t)
 | .inl i,v,h=>by
  obtain ⟨t,e⟩:=Value.isInt_shape (k:=i) (v:=v) h;exact .inl ⟨i,t,rfl,e⟩
 | .inr x,v,h=>by
  obtain ⟨t,e⟩:=Value.isStrOf_shape (x:=x) (v:=v) h;exact .inr ⟨x,t,rfl,e⟩
theorem wc (i:Int) (t:Tok):hV (.inl i) (.int i t)=true:=by simp [hV,Value.isInt]
theorem v8 (x:Str) (t:Tok):hV (.inr x) (.str x t)=true:=by simp [hV,Value.isStrOf]
theorem EK (a b:Int):decide ((Sum.inl a:aR)=Sum.inl b)=(a == b):=by
 by_cases e:a=b
 ·subst e;simp
 ·have h:¬ (Sum.inl a:aR)=Sum.inl b:=fun q=>e (Sum.inl.inj q)
  rw [yA h];exact (beq_eq_false_iff_ne.mpr e).symm
theorem EH (a b:Str):decide ((Sum.inr a:aR)=Sum.inr b)=decide (a=b):=by
 by_cases e:a=b
 ·subst e;simp
 ·have h:¬ (Sum.inr a:aR)=Sum.inr b:=fun q=>e (Sum.inr.inj q)
  rw [yA h,yA e]
theorem EJ (a:Int) (b:Str):decide ((Sum.inl a:aR)=Sum.inr b)=false:=yA (fun q=>nomatch q)
theorem EI (a:Str) (b:Int):decide ((Sum.inr a:aR)=Sum.inl b)=false:=yA (fun q=>nomatch q)
def bQ (prog:Program) (w:World):PySem.KeyKind prog w aR where
 is:=hV
 hash:=Jz w
 inj:=fun v a b ha hb=>by
  rcases cC ha with ⟨i,t,rfl,rfl⟩ | ⟨x,t,rfl,rfl⟩
  ·rcases cC hb with ⟨j,u,rfl,e⟩ | ⟨y,u,rfl,e⟩
   ·injection e with e1 _;rw [e1]
   ·exact nomatch e
  ·rcases cC hb with ⟨j,u,rfl,e⟩ | ⟨y,u,rfl,e⟩
   ·exact nomatch e
   ·injection e with e1 _;rw [e1]
 byValue:=fun k v h=>by
  rcases cC h with ⟨i,t,rfl,rfl⟩ | ⟨x,t,rfl,rfl⟩ <;> rfl
 pyHash:=fun hv h=>by
  rcases cC hv with ⟨i,t,rfl,rfl⟩ | ⟨x,t,rfl,rfl⟩
  ·exact wpAny_pyHash_int h
  ·exact wpAny_pyHash_str h
 eqBool:=fun hu hv h=>by
  rcases cC hu with ⟨i,t,rfl,rfl⟩ | ⟨x,t,rfl,rfl⟩
  ·rcases cC hv with ⟨j,u,rfl,rfl⟩ | ⟨y,u,rfl,rfl⟩
   ·rw [EK] at h;exact wpAny_eqBool_int h
   ·rw [EJ] at h;exact SeqAt.EqAt.int_str i t y u _ _ _ _ h
  ·rcases cC hv with ⟨j,u,rfl,rfl⟩ | ⟨y,u,rfl,rfl⟩
   ·rw [EI] at h;exact SeqAt.EqAt.str_int x t j u _ _ _ _ h
   ·rw [EH] at h;exact wpAny_eqBool_str h
 «strs»:=fun k x t v h=>by
  rcases cC h with ⟨i,u,rfl,e⟩ | ⟨y,u,rfl,e⟩
  ·exact nomatch e
  ·injection e with e1 _
   subst e1;cases v <;> rfl
theorem rV (prog:Program) (w:World) (i:Int) (t:Tok):(bQ prog w).is (.inl i) (.int i t)=true:=wc i t
theorem rR (prog:Program) (w:World) (x:Str) (t:Tok):(bQ prog w).is (.inr x) (.str x t)=true:=v8 x t
inductive V where
 | non | bl (b:Bool) | int (i:Int) | str (x:Str) | byt (b:Array UInt8) | flt (b:UInt64) | ref (a:Addr) | ty (n:String)
 deriving DecidableEq
def RelV:V->Value->Prop
 | .non,u=>u=Value.none
 | .bl b,u=>u=Value.bool b
 | .int i,u=>∃ t,u=Value.int i t
 | .str x,u=>∃ t,u=Value.str x t
 | .byt b,u=>∃ t,u=Value.bytes b t
 | .flt b,u=>∃ t,u=Value.float b t
 | .ref a,u=>u=Value.ref a
 | .ty n,u=>u=Value.type n
abbrev Vals:List V->List Value->Prop:=Paired RelV
theorem Vals.length {xs:List V}{us:List Value} (r:Vals xs us):xs.length=us.length:=Paired.length r
theorem Vals.get:∀ {xs:List V}{us:List Value}{i:Nat}{x:V},Vals xs us->xs[i]?=some x->∃ u,us[i]?=some u/\RelV x u
 | _,_,_,_,.nil,e=>by simp at e
 | _,_,0,_,.cons r _,e=>by simp at e;subst e;exact ⟨_,rfl,r⟩
 | _,_,i + 1,x,.cons _ t,e=>by
  obtain ⟨u,h1,h2⟩:=Vals.get (i:=i) (x:=x) t (by simpa using e);exact ⟨u,by simpa using h1,h2⟩
theorem Vals.set {x:V}{u:Value} (r:RelV x u):∀ {xs:List V}{us:List Value} (i:Nat),Vals xs us->Vals (xs.set i x) (us.set i u)
 | _,_,_,.nil=>.nil
 | _,_,0,.cons _ t=>.cons r t
 | _,_,i + 1,.cons q t=>.cons q (Vals.set r i t)
theorem Vals.append:∀ {xs ys:List V}{us ws:List Value},Vals xs us->Vals ys ws->Vals (xs++ys) (us++ws):=by
 intro xs ys us ws h s
 induction h with
 | nil=>exact s
 | cons r t ih=>exact .cons r ih
theorem Vals.take:∀ {xs:List V}{us:List Value} (n:Nat),Vals xs us->Vals (xs.take n) (us.take n):=by
 intro xs us n h
 induction h generalizing n with
 | nil=>cases n <;> exact .nil
 | cons r t ih=>cases n with
  | zero=>exact .nil
  | succ n=>exact .cons r (ih n)
theorem Vals.drop:∀ {xs:List V}{us:List Value} (n:Nat),Vals xs us->Vals (xs.drop n) (us.drop n):=by
 intro xs us n h
 induction h generalizing n with
 | nil=>cases n <;> exact .nil
 | cons r t ih=>cases n with
  | zero=>exact .cons r t
  | succ n=>exact ih n
def RelO:Option V->Option Value->Prop
 | some v,some u=>RelV v u
 | none,none=>True
 | _,_=>False
def KV {κ:Type}:List (κ × V)->List (κ × Value)->Prop:=Paired fun (p:κ × V) (q:κ × Value)=>p.1=q.1/\RelV p.2 q.2
def kV:aR->V
 | .inl i=>.int i
 | .inr x=>.str x
inductive HO where
  | lst (xs:List V)
  | tup (xs:List V)
  | dK (Lv:List (aR × V)) | dT (Lv:List (List aR × V))
  | set (S:Int->Bool) (n:Nat)
  | ins (C dx:Addr) (fs:List (Str × V))
  | own (x:Addr)
  | xd (fs:List (Str × V))
  | met (f x:Addr)
  | rng (lo hi:Int)
  | frz (o:Obj) (u:HO)
  | tbl (ps:Array Value)
  | ext (φ:Heap->Prop)
abbrev Hp:=Addr->Option HO
def af (H:Hp) (a:Addr) (o:HO):Hp:=fun b=>if b=a then some o else H b
theorem aq {H:Hp}{a:Addr}{o:HO}:af H a o a=some o:=by unfold af;rw [yI rfl]
theorem ad {H:Hp}{a b:Addr}{o:HO} (h:b ≠ a):af H a o b=H b:=by unfold af;rw [yH h]
theorem tY {H:Hp}{a b:Addr}{o u:HO} (h:H a=some o) (h':H b=some u) (d:o ≠ u):a ≠ b:=by
 intro e;subst e;rw [h] at h';exact d (yE h')
theorem aH {H:Hp}{a b:Addr}{o:HO} (h:H a=some o) (h':H b=none):a ≠ b:=by
 intro e;subst e;rw [h] at h';cases h'
section
variable (P:Program) (w:World)
def ObjOk (H:Hp) (h:Heap) (a:Addr):HO->Prop
 | .lst xs=>xs.length <= sizeLine/\∃ (Lx:List Value) (n:Nat),Vals xs Lx/\h.get? a=some { cls:=.type "list",data:=.seq Lx.toArray n }
 | .tup xs=>xs.length <= sizeLine/\∃ Lx:List Value,Vals xs Lx/\IsTup h a Lx.toArray
 | .dK Lv=>Lv.length <= sizeLine/\(a == sysModules)=false/\∃ vs,KV Lv vs/\h.DictOf (bQ P w) a vs
 | .dT Lv=>Lv.length <= sizeLine/\(a == sysModules)=false/\∃ xs:List (List aR × Addr × Value),
   Paired (fun (p:List aR × V) (q:List aR × Addr × Value)=>p.1=q.1/\H q.2.1=some (.tup (p.1.map kV))/\RelV p.2 q.2.2) Lv xs /\
   ∃ o es ep,h.get? a=some o/\o.ExactDict/\o.data=.dict es ep/\es.toList=xs.map (entryOfKey (tupleKind (bQ P w)))/\(xs.map (·.1)).Nodup
 | .set S n=>h.SetOf (intKind P w) a S n
 | .ins C dx fs=>H dx=some (.own a)/\fs.length <= 1000/\dx ≠ a/\h.get? a=some (instObj C dx) /\
   ∃ mA,h.Ns1 dx mA/\(∀ f,RelO (fs.lookup f) (mA f))/\PySem.Within mA (fs.map (·.1))
 | .own _=>∃ o,h.get? a=some o
 | .xd fs=>∃ mA,h.Ns1 a mA/\∀ f,RelO (fs.lookup f) (mA f)
 | .rng lo hi=>∃ t u v,h.get? a=some { cls:=.type "range",data:=.fields #[.int lo t,.int hi u,.int 1 v] }
 | .frz o u=>h.get? a=some o/\ObjOk H h a u
 | .tbl ps=>h.get? a=some { cls:=.none,data:=.fields ps }
 | .met f x=>h.get? a=some (methodObj (.ref f) (.ref x))
 | .ext φ=>φ h/\(∃ o,h.get? a=some o)/\∀ h1 h2:Heap,φ h1->(∀ o,h1.get? a=some o->h2.get? a=some o)->φ h2
def HOk (H:Hp) (h:Heap):Prop:=∀ a o,H a=some o->ObjOk P w H h a o
end
section
variable {P:Program}{w:World}{H H':Hp}{h h':Heap}{a:Addr}{o:HO}
theorem ObjOk.lt (x:ObjOk P w H h a o):a < h.objs.size:=by
 cases o with
 | lst xs=>obtain ⟨_,_,_,_,e⟩:=x;exact yJ e
 | tup xs=>obtain ⟨_,_,_,p⟩:=x;exact p.lt
 | dK Lv=>obtain ⟨_,_,_,_,o,_,_,e,_⟩:=x;exact yJ e
 | dT Lv=>obtain ⟨_,_,_,_,o,_,_,e,_⟩:=x;exact yJ e
 | set S n=>obtain ⟨o,_,_,_,e,_⟩:=x;exact yJ e
 | ins C dx fs=>obtain ⟨_,_,_,e,_⟩:=x;exact yJ e
 | own y=>obtain ⟨_,e⟩:=x;exact yJ e
 | xd fs=>obtain ⟨_,⟨_,_,_,e,_⟩,_⟩:=x;exact yJ e
 | rng lo hi=>obtain ⟨_,_,_,e⟩:=x;exact yJ e
 | frz ob u=>obtain ⟨e,_⟩:=x;exact yJ e
 | tbl ps=>exact yJ (show h.get? a=some _ from x)
 | met f y=>exact yJ (show h.get? a=some _ from x)
 | ext φ=>obtain ⟨_,⟨_,e⟩,_⟩:=x;exact yJ e
theorem Paired.mapP {α β:Type}{F G:α->β->Prop}:∀ {l₁:List α}{l₂:List β},Paired F l₁ l₂->(∀ a b,F a b->G a b)->Paired G l₁ l₂:=by
 intro l₁ l₂ h f
 induction h with
 | nil=>exact .nil
 | cons r t ih=>exact .cons (f _ _ r) ih
theorem ObjOk.stay (x:ObjOk P w H h a o) (k:∀ b u,(b=a\/H b=some (.own a))->h.get? b=some u->h'.get? b=some u)
  (ho:∀ b,H b=some (.own a)->H' b=some (.own a)) (ht:∀ b xs,H b=some (.tup xs)->H' b=some (.tup xs)):ObjOk P w H' h' a o:=by
 induction o with
 | lst xs=>obtain ⟨z,Lx,n,r,e⟩:=x;exact ⟨z,Lx,n,r,k _ _ (.inl rfl) e⟩
 | tup xs=>obtain ⟨z,Lx,r,ob,e,c⟩:=x;exact ⟨z,Lx,r,ob,k _ _ (.inl rfl) e,c⟩
 | dK Lv=>obtain ⟨z,y,vs,r,ob,es,ep,e,c⟩:=x;exact ⟨z,y,vs,r,ob,es,ep,k _ _ (.inl rfl) e,c⟩
 | dT Lv =>
  obtain ⟨z,y,xs,r,ob,es,ep,e,c⟩:=x;exact ⟨z,y,xs,Paired.mapP r fun p q z=>⟨z.1,ht _ _ z.2.1,z.2.2⟩,ob,es,ep,k _ _ (.inl rfl) e,c⟩
 | set S n=>obtain ⟨ob,es,ep,t,e,c⟩:=x;exact ⟨ob,es,ep,t,k _ _ (.inl rfl) e,c⟩
 | ins C dx fs =>
  obtain ⟨d,z,ne,e,mA,⟨od,es,ep,e2,c⟩,r⟩:=x;exact ⟨ho _ d,z,ne,k _ _ (.inl rfl) e,mA,⟨od,es,ep,k _ _ (.inr d) e2,c⟩,r⟩
 | own y=>obtain ⟨ob,e⟩:=x;exact ⟨ob,k _ _ (.inl rfl) e⟩
 | xd fs=>obtain ⟨mA,⟨od,es,ep,e,c⟩,r⟩:=x;exact ⟨mA,⟨od,es,ep,k _ _ (.inl rfl) e,c⟩,r⟩
 | rng lo hi=>obtain ⟨t,u,v,e⟩:=x;exact ⟨t,u,v,k _ _ (.inl rfl) e⟩
 | frz ob u ih=>obtain ⟨e,q⟩:=x;exact ⟨k _ _ (.inl rfl) e,ih q⟩
 | tbl ps =>
  have e:h.get? a=some { cls:=.none,data:=.fields ps }:=x;show h'.get? a=some { cls:=.none,data:=.fields ps };exact k a _ (.inl rfl) e
 | met f y =>
  have e:h.get? a=some (methodObj (.ref f) (.ref y)):=x;show h'.get? a=some (methodObj (.ref f) (.ref y));exact k a _ (.inl rfl) e
 | ext φ=>obtain ⟨p,⟨o,e⟩,st⟩:=x;exact ⟨st _ _ p fun o q=>k _ _ (.inl rfl) q,⟨o,k _ _ (.inl rfl) e⟩,st⟩
theorem HOk.lt (x:HOk P w H h) (e:H a=some o):a < h.objs.size:=(x a o e).lt
theorem HOk.fresh (x:HOk P w H h) (e:h.objs.size <= a):H a=none:=by
 cases q:H a with
 | none=>rfl
 | some u=>exact absurd (zJ (x.lt q) e) (yX _)
theorem HOk.kept (x:HOk P w H h) (k:∀ b u,h.get? b=some u->h'.get? b=some u):HOk P w H h':=fun a o e =>
 (x a o e).stay (fun b u _ q=>k b u q) (fun _ q=>q) fun _ _ q=>q
theorem HOk.laid (x:HOk P w H h) (k:∀ b u,h.get? b=some u->h'.get? b=some u) (hp:h.objs.size <= a) (new:ObjOk P w (af H a o) h' a o):HOk P w (af H a o) h':=fun b u e=>by
 have hn:=x.fresh hp;by_cases hb:b=a
 ·subst hb;rw [aq] at e;cases e;exact new
 ·rw [ad hb] at e
  exact (x b u e).stay (fun c v _ q=>k c v q) (fun c q=>by rw [ad (aH q hn)];exact q) fun c xs q=>by rw [ad (aH q hn)];exact q
end
def Rd (H:Hp) (a:Addr) (u:HO):Prop:=H a=some u\/∃ o,H a=some (.frz o u)
theorem Rd.ok {P:Program}{w:World}{H:Hp}{h:Heap}{a:Addr}{u:HO} (r:Rd H a u) (x:HOk P w H h):ObjOk P w H h a u:=by
 rcases r with r | ⟨o,r⟩
 ·exact x a u r
 ·obtain ⟨_,q⟩:=x a _ r
  exact q
def wP:Option HO->Prop
 | some (.lst _)=>True
 | some (.dK _)=>True
 | some (.dT _)=>True
 | some (.set _ _)=>True
 | some (.ins _ _ _)=>True
 | some (.ext _)=>True
 | _=>False
section
variable {P:Program}{w:World}{H:Hp}{h h':Heap}{x e:Addr}{o':HO}
theorem HOk.write (ok:HOk P w H h) (mu:wP (H x)) (he:e=x\/H e=some (.own x)) (k:∀ b u,b ≠ e->h.get? b=some u->h'.get? b=some u) (heo:∃ u,h'.get? e=some u)
  (new:ObjOk P w (af H x o') h' x o'):HOk P w (af H x o') h':=fun b u q=>by
 have nown:∀ c y,H c=some (.own y)->c ≠ x:=fun c y r z=>by subst z;rw [r] at mu;exact mu
 have ntup:∀ c xs,H c=some (.tup xs)->c ≠ x:=fun c xs r z=>by subst z;rw [r] at mu;exact mu
 by_cases hb:b=x
 ·subst hb;rw [aq] at q;cases q;exact new
 ·rw [ad hb] at q
  by_cases hbe:b=e
  ·have q':H b=some (.own x):=by
    rcases he with z | z
    ·exact absurd (hbe.trans z) hb
    ·rw [hbe];exact z
   rw [q] at q';cases q';obtain ⟨v,hv⟩:=heo;exact ⟨v,by rw [hbe];exact hv⟩
  ·refine (ok b u q).stay (fun c v hc r=>k c v ?_ r) (fun c r=>by rw [ad (nown c b r)];exact r) fun c xs r=>by rw [ad (ntup c xs r)];exact r
   rcases hc with rfl | hc
   ·exact hbe
   ·rintro rfl
    rcases he with z | z
    ·exact nown c b hc z
    ·rw [hc] at z;cases z;exact hb rfl
end
structure Un (fs ex:List Addr) (H H':Hp) (h h':Heap):Prop where
 keep:∀ b o,h.get? b=some o->H b=none->b ∉ fs->b ∉ ex->h'.get? b=some o
 slot:∀ b o,h.get? b=some o->H b=none->b ∈ fs->b ∉ ex->∃ sl,h'.get? b=some { o with slots:=sl }
 free:∀ b o,h.get? b=some o->H b=none->b ∉ ex->H' b=none
 there:∀ b o,h.get? b=some o->b ∉ ex->∃ o',h'.get? b=some o'
 tups:∀ b xs,H b=some (.tup xs)->H' b=some (.tup xs)
 frzs:∀ b o u,H b=some (.frz o u)->H' b=some (.frz o u)
 tbls:∀ b ps,H b=some (.tbl ps)->∃ more,H' b=some (.tbl (ps++more))
section
variable {fs fs' ex ex':List Addr}{H H1 H2:Hp}{h h1 h2 h':Heap}{a x e:Addr}{o:HO}
theorem Un.any (u:Un fs ex H H1 h h1) {b:Addr}{ob:Obj} (q:h.get? b=some ob) (n:H b=none) (hx:b ∉ ex):∃ sl,h1.get? b=some { ob with slots:=sl }:=by
 by_cases hb:b ∈ fs
 ·exact u.slot b ob q n hb hx
 ·exact ⟨ob.slots,u.keep b ob q n hb hx⟩
theorem Un.kept (k:∀ b u,h.get? b=some u->h'.get? b=some u):Un fs ex H H h h' :=
 ⟨fun b ob q _ _ _=>k b ob q,fun b ob q _ _ _=>⟨ob.slots,k b ob q⟩,fun _ _ _ n _=>n,fun b ob q _=>⟨ob,k b ob q⟩,fun _ _ q=>q,fun _ _ _ q=>q,fun _ ps q=>⟨#[],by rw [q];simp⟩⟩
theorem Un.refl:Un fs ex H H h h:=Un.kept fun _ _ q=>q
theorem Un.laid (k:∀ b u,h.get? b=some u->h'.get? b=some u) (hp:h.objs.size <= a) (hn:H a=none):Un fs ex H (af H a o) h h' where
 keep:=fun b u q _ _ _=>k b u q
 slot:=fun b u q _ _ _=>⟨u.slots,k b u q⟩
 free:=fun b u q n _=>by rw [ad (zU (zJ (yJ q) hp))];exact n
 there:=fun b u q _=>⟨u,k b u q⟩
 tups:=fun b xs q=>by rw [ad (aH q hn)];exact q
 frzs:=fun b u xs q=>by rw [ad (aH q hn)];exact q
 tbls:=fun b ps q=>⟨#[],by rw [ad (aH q hn),q];simp⟩
theorem Un.write (mu:wP (H x)) (he:e=x\/H e=some (.own x)) (k:∀ b u,b ≠ e->h.get? b=some u->h'.get? b=some u) (heo:∃ u,h'.get? e=some u):Un fs ex H (af H x o) h h':=by
 have hx:∀ b,H b=none->b ≠ x:=fun b n z=>by subst z;rw [n] at mu;exact mu
 have hb:∀ b,H b=none->b ≠ e:=fun b n z=>by
  subst z;rcases he with r | r
  ·exact hx b n r
  ·rw [n] at r;cases r
 have hm:∀ b u,H b=some u->¬ wP (some u)->b ≠ x:=fun b u q nm z=>by subst z;rw [q] at mu;exact nm mu
 refine ⟨fun b u q n _ _=>k b u (hb b n) q,fun b u q n _ _=>⟨u.slots,k b u (hb b n) q⟩,fun b u q n _=>by rw [ad (hx b n)];exact n,fun b u q _=>?_,
  fun b xs q=>by rw [ad (hm b _ q fun z=>z)];exact q,fun b u xs q=>by rw [ad (hm b _ q fun z=>z)];exact q,fun b ps q=>⟨#[],by rw [ad (hm b _ q fun z=>z),q];simp⟩⟩
 by_cases hbe:b=e
 ·subst hbe;exact heo
 ·exact ⟨u,k b u hbe q⟩
end
def zh (h:Heap) (H:Hp):List Addr:=(List.range h.objs.size).filter fun a=>(H a).isSome
def jd (h:Heap) (H:Hp):Heap:=hideAll h (zh h H)
theorem wl (h:Heap) (H:Hp):(jd h H).objs.size=h.objs.size:=hideAll_size _ _
theorem yn {h:Heap}{H:Hp}{b:Addr}{o:Obj} (e:h.get? b=some o) (n:H b=none):(jd h H).get? b=some o :=
 hideAll_get _ e fun hm=>by
  have q:(H b).isSome=true:=(List.mem_filter.mp hm).2;rw [n] at q;simp at q
theorem BT {h:Heap}{H:Hp}{b:Addr}{o:Obj} (e:(jd h H).get? b=some o):h.get? b=some o/\H b=none:=by
 have e':h.get? b=some o:=of_hideAll (zh h H) e;refine ⟨e',?_⟩;cases q:H b with
 | none=>rfl
 | some x =>
  have hm:b ∈ zh h H:=List.mem_filter.mpr ⟨List.mem_range.mpr (yJ e'),by simp [q]⟩;have z:(jd h H).get? b=none:=hideAll_none (zh h H) hm;rw [z] at e;cases e
structure Mod (K:Frag) (mg:Str->Option Value) (base:Heap):Prop where
 kin:K.In base
 glob:base.Ns mainGlobals mg
 blt:∃ mb,base.Ns builtinsNs mb/\∀ x:Str,x ≠ "__name__"->mb x=bootBuiltins x
 nolimit:base.NoLimit
structure Cx where
 prog:Program
 w:World
 K:Frag
 mg:Str->Option Value
 base:Heap
 A:Around
 N:List Str
 s₀:Shared
 H₀:Hp
 env:Env
 outer:List Env
 stack:List Env
 ex:List Addr
 fn:Str->Bool
 calm:Bool
 pn:List (Addr × Obj)
 xe:Value->Shared->Prop
noncomputable def jy (l:List Env):List Addr:=l.filterMap (·.frame)
abbrev Cx.fs (X:Cx):List Addr:=jy X.outer
def wL (sc:Scope) (x:Str):Prop:=sc.names.lookup x=some .local\/sc.names.lookup x=some .cell\/sc.names.lookup x=some .free
def Loc (sc:Scope) (x:Str):Prop:=sc.names.lookup x=some .local\/sc.names.lookup x=some .cell
def J4 (env:Env) (h:Heap) (m:Str->Option Value) (x:Str) (u:Value):Prop :=
 (env.kindOf x=some .local/\m x=some u)\/((env.kindOf x=some .cell\/env.kindOf x=some .free)/\∃ c,env.cells.lookup x=some c/\h.IsCell c (some u))
structure Cx.Ok (X:Cx):Prop where
 mod:Mod X.K X.mg X.base
 kind:X.env.scope.kind=.function
 glob:X.env.globals=mainGlobals
 blt:X.env.builtins=builtinsNs
 above:X.s₀.heap.objs.size <= X.env.locals
 inj:∀ x y c,X.env.cells.lookup x=some c->X.env.cells.lookup y=some c->x=y
 has:∀ x,(X.env.kindOf x=some .cell\/X.env.kindOf x=some .free)->∃ c,X.env.cells.lookup x=some c
 cab:∀ x c,X.fn x=true->X.env.cells.lookup x=some c->X.s₀.heap.objs.size <= c
 hd:X.calm=true->X.A.handled=none
 frames:X.A.frames=some X.stack
 stk:X.stack=X.outer\/(X.stack=X.env::X.outer/\X.env.frame=some X.env.locals)
 exf:∀ b ∈ X.ex,b ≠ X.env.locals/\∀ x c,X.env.cells.lookup x=some c->c ≠ b
 bs:∀ b o,X.base.get? b=some o->X.s₀.heap.get? b=some o/\X.H₀ b=none
 bsz:X.base.objs.size <= X.s₀.heap.objs.size
 noex:∀ b o,X.base.get? b=some o->b ∉ X.ex
 exfs:∀ b ∈ X.ex,b ∉ X.fs
 funs:X.s₀.heap.FunFrames X.base X.outer
 frf:∀ b ∈ X.fs,X.H₀ b=none
structure Inv (X:Cx) (Lu:List (Addr × Obj)) (σ:List (Option V)) (H:Hp) (s:Shared):Prop where
 ok:X.Ok
 os:s.os=X.s₀.os
 bare:AllBare s.gens
 base:Un X.fs X.ex X.H₀ H X.s₀.heap s.heap
 loc:∃ m,s.heap.Ns X.env.locals m/\∀ (i:Nat) (x:Str) (v:V),X.N[i]?=some x->σ[i]?=some (some v)->wL X.env.scope x->∃ u,RelV v u/\J4 X.env s.heap m x u
 cell:∀ x c,X.env.cells.lookup x=some c->∃ v,s.heap.IsCell c v
 free:H X.env.locals=none
 freeC:∀ x c,X.env.cells.lookup x=some c->H c=none
 pin:∀ p ∈ X.pn++Lu,s.heap.get? p.1=some p.2/\H p.1=none/\p.1 ≠ X.env.locals/\p.1 ∉ X.fs/\∀ v,p.2.data ≠ .cell v
 LA:HOk X.prog X.w H s.heap
 len:σ.length=X.N.length
section
variable {X:Cx}{Lu:List (Addr × Obj)}{σ:List (Option V)}{H H':Hp}{s:Shared}{h':Heap}
theorem Cx.Ok.nofr (ok:X.Ok) {b:Addr}{o:Obj} (e:X.base.get? b=some o):b ∉ X.fs:=fun hb=>by
 have:=(ok.funs.mem hb).1
 rw [e] at this;cases this
theorem Inv.bs (I:Inv X Lu σ H s):∀ b o,X.base.get? b=some o->s.heap.get? b=some o/\H b=none:=fun b o e =>
 ⟨I.base.keep b o (I.ok.bs b o e).1 (I.ok.bs b o e).2 (I.ok.nofr e) (I.ok.noex b o e),I.base.free b o (I.ok.bs b o e).1 (I.ok.bs b o e).2 (I.ok.noex b o e)⟩
theorem Inv.bk (I:Inv X Lu σ H s):∀ b o,X.base.get? b=some o->s.heap.get? b=some o:=fun b o e=>(I.bs b o e).1
theorem Inv.mod (I:Inv X Lu σ H s):Mod X.K X.mg X.base:=I.ok.mod
theorem Inv.kIn (I:Inv X Lu σ H s):X.K.In s.heap:=I.ok.mod.kin.keeps I.bk
theorem Inv.nolimit (I:Inv X Lu σ H s):s.heap.NoLimit:=I.ok.mod.nolimit.keeps I.bk
theorem Inv.lt (I:Inv X Lu σ H s):X.env.locals < s.heap.objs.size:=let ⟨_,hn,_⟩:=I.loc;hn.lt
theorem Inv.sz (I:Inv X Lu σ H s):X.s₀.heap.objs.size <= s.heap.objs.size:=z0 I.ok.above (yW I.lt)
theorem Inv.nofs (I:Inv X Lu σ H s) {a:Addr} (h:s.heap.objs.size <= a):a ∉ X.fs:=fun hb=>by
 obtain ⟨_,o,ho,_⟩:=I.ok.funs.mem hb;exact absurd (zJ (yJ ho) (z0 I.sz h)) (yX _)
theorem Inv.cne (I:Inv X Lu σ H s):∀ x c,X.env.cells.lookup x=some c->c ≠ X.env.locals:=fun x c e z=>by
 obtain ⟨v,o,ho,hd⟩:=I.cell x c e;obtain ⟨m,⟨o',es,ep,ho',hd',_⟩,_⟩:=I.loc;rw [z,ho'] at ho;cases ho;rw [hd'] at hd;cases hd
theorem Inv.funs (I:Inv X Lu σ H s):s.heap.FunFrames X.base X.outer:=by
 have all:∀ (l:List Env),(∀ b ∈ jy l,b ∈ X.fs)->X.s₀.heap.FunFrames X.base l->s.heap.FunFrames X.base l:=by
  intro l
  induction l with
  | nil=>intro _ _;trivial
  | cons env r ih =>
   intro hs hl;obtain ⟨hk,⟨L,o,hf,hn,ho,hd⟩,hr⟩:=hl;have hL:L ∈ X.fs:=hs L (by unfold jy;rw [List.filterMap_cons,hf];exact z8);obtain ⟨sl,e⟩:=I.base.slot L o ho (I.ok.frf L hL) hL fun z=>I.ok.exfs L z hL
   exact ⟨hk,⟨L,_,hf,hn,e,hd⟩,ih (fun b hb=>hs b (by unfold jy;rw [List.filterMap_cons,hf];exact zQ _ hb)) hr⟩
 exact all X.outer (fun _ hb=>hb) I.ok.funs
theorem Inv.stack (I:Inv X Lu σ H s):s.heap.FunFrames X.base X.stack:=by
 rcases I.ok.stk with e | ⟨e,hf⟩
 ·rw [e];exact I.funs
 ·rw [e]
  obtain ⟨m,hn,_⟩:=I.loc;refine .cons (by rw [I.ok.kind];decide) hf hn ?_ I.funs;exact Heap.get?_none_of_le (z0 I.ok.bsz I.ok.above)
theorem Inv.stkSub (I:Inv X Lu σ H s):∀ b ∈ jy X.stack,b ∈ X.env.locals::X.fs:=fun b hb=>by
 rcases I.ok.stk with e | ⟨e,hf⟩
 ·rw [e] at hb;exact zQ _ hb
 ·rw [e] at hb
  unfold jy at hb;rw [List.filterMap_cons,hf] at hb;exact hb
theorem Inv.stkFree (I:Inv X Lu σ H s):∀ b ∈ jy X.stack,H b=none:=fun b hb=>by
 rcases zT.mp (I.stkSub b hb) with e | hb
 ·rw [e];exact I.free
 ·obtain ⟨_,o,ho,_⟩:=I.ok.funs.mem hb
  exact I.base.free b o ho (I.ok.frf b hb) fun z=>I.ok.exfs b z hb
theorem Inv.step {g':Array GenState}{t':Nat}{d':Drawn}{ch:List Addr} (I:Inv X Lu σ H s)
  (hch:∀ b ∈ ch,(b ∈ X.ex\/X.s₀.heap.objs.size <= b)/\b ≠ X.env.locals/\(∀ x c,X.env.cells.lookup x=some c->c ≠ b)/\∀ p ∈ X.pn++Lu,p.1 ≠ b)
  (keep:∀ b o,b ≠ X.env.locals->b ∉ X.fs->b ∉ ch->s.heap.get? b=some o->H b=none->h'.get? b=some o)
  (slot:∀ b o,b ≠ X.env.locals->b ∈ X.fs->b ∉ ch->s.heap.get? b=some o->H b=none->∃ sl,h'.get? b=some { o with slots:=sl }) (free:∀ b o,b ∉ ch->s.heap.get? b=some o->H b=none->H' b=none)
  (there:∀ b o,b ∉ ch->s.heap.get? b=some o->∃ o',h'.get? b=some o')
  (tups:∀ b xs,H b=some (.tup xs)->H' b=some (.tup xs)) (frzs:∀ b o u,H b=some (.frz o u)->H' b=some (.frz o u)) (tbls:∀ b ps,H b=some (.tbl ps)->∃ more,H' b=some (.tbl (ps++more)))
  (ns:∀ m,s.heap.Ns X.env.locals m->h'.Ns X.env.locals m) (LA:HOk X.prog X.w H' h') (hg:AllBare g') :
  Inv X Lu σ H' { s with heap:=h',gens:=g',drawn:=d',toks:=t' }:=by
 have neL:∀ b o,X.s₀.heap.get? b=some o->b ≠ X.env.locals:=fun b o e=>zU (zJ (yJ e) I.ok.above)
 have neC:∀ b o,X.s₀.heap.get? b=some o->b ∉ X.ex->b ∉ ch:=fun b o e hx hb=>by
  rcases (hch b hb).1 with z | z
  ·exact hx z
  ·exact absurd (zJ (yJ e) z) (yX _)
 have cellK:∀ x c,X.env.cells.lookup x=some c->∀ v,s.heap.IsCell c v->h'.IsCell c v:=fun x c e v hq0=>by
  obtain ⟨o,ho,hd⟩:=hq0;have nch:c ∉ ch:=fun z=>(hch c z).2.2.1 x c e rfl
  by_cases hc:c ∈ X.fs
  ·obtain ⟨sl,q⟩:=slot c o (I.cne x c e) hc nch ho (I.freeC x c e)
   exact ⟨_,q,hd⟩
  ·exact ⟨o,keep c o (I.cne x c e) hc nch ho (I.freeC x c e),hd⟩
 refine ⟨I.ok,I.os,hg,⟨fun b o e n hb hx=>?_,fun b o e n hb hx=>?_,fun b o e n hx=>?_,fun b o e hx=>?_,fun b xs e=>tups b xs (I.base.tups b xs e),fun b o xs e=>frzs b o xs (I.base.frzs b o xs e),fun b ps e=>?_⟩,?_,fun x c e=>?_,?_,fun x c e=>?_,fun p hp=>?_,LA,I.len⟩
 ·exact keep b o (neL b o e) hb (neC b o e hx) (I.base.keep b o e n hb hx) (I.base.free b o e n hx)
 ·obtain ⟨sl,e1⟩:=I.base.slot b o e n hb hx
  obtain ⟨sl',e2⟩:=slot b _ (neL b o e) hb (neC b o e hx) e1 (I.base.free b o e n hx);exact ⟨sl',e2⟩
 ·obtain ⟨o',e1⟩:=I.base.there b o e hx
  exact free b o' (neC b o e hx) e1 (I.base.free b o e n hx)
 ·obtain ⟨o',e1⟩:=I.base.there b o e hx
  exact there b o' (neC b o e hx) e1
 ·obtain ⟨m1,e1⟩:=I.base.tbls b ps e
  obtain ⟨m2,e2⟩:=tbls b _ e1;exact ⟨m1++m2,by rw [e2,Array.append_assoc]⟩
 ·obtain ⟨m,hn,hl⟩:=I.loc
  refine ⟨m,ns m hn,fun i x v e1 e2 e3=>?_⟩;obtain ⟨u,r,l⟩:=hl i x v e1 e2 e3;refine ⟨u,r,?_⟩;rcases l with l | ⟨k,c,e,z⟩
  ·exact .inl l
  ·exact .inr ⟨k,c,e,cellK x c e _ z⟩
 ·obtain ⟨v,z⟩:=I.cell x c e
  exact ⟨v,cellK x c e v z⟩
 ·obtain ⟨m,⟨o,_,_,ho,_⟩,_⟩:=I.loc
  exact free _ o (fun z=>(hch _ z).2.1 rfl) ho I.free
 ·obtain ⟨v,o,ho,hd⟩:=I.cell x c e
  exact free c o (fun z=>(hch c z).2.2.1 x c e rfl) ho (I.freeC x c e)
 ·obtain ⟨e,n,ne,nf,d⟩:=I.pin p hp
  have nch:p.1 ∉ ch:=fun z=>(hch p.1 z).2.2.2 p hp rfl
  exact ⟨keep p.1 p.2 ne nf nch e n,free p.1 p.2 nch e n,ne,nf,d⟩
theorem Inv.un {t':Nat} (I:Inv X Lu σ H s) (u:Un X.fs [] H H' s.heap h') (LA:HOk X.prog X.w H' h'):Inv X Lu σ H' { s with heap:=h',toks:=t' }:=by
 obtain ⟨m,⟨o,es,ep,ho,r⟩,_⟩:=id I.loc;obtain ⟨sl,hL⟩:=u.any ho I.free (by simp);exact I.step (g':=s.gens) (d':=s.drawn) (ch:=[]) (fun _ z=>nomatch z) (fun b o _ hb _ e n=>u.keep b o e n hb (by simp)) (fun b o _ hb _ e n=>u.slot b o e n hb (by simp)) (fun b o _ e n=>u.free b o e n (by simp)) (fun b o _ e=>u.there b o e (by simp)) u.tups u.frzs u.tbls (fun m' hm=>by
  obtain ⟨o',es',ep',ho',r'⟩:=hm;rw [ho] at ho';cases ho';exact ⟨_,es',ep',hL,r'⟩) LA I.bare
theorem Inv.call {g':Array GenState}{t':Nat}{d':Drawn}{ch:List Addr} (I:Inv X Lu σ H s) (u:Un (jy X.stack) ch H H' s.heap h') (LA:HOk X.prog X.w H' h') (hg:AllBare g')
  (hch:∀ b ∈ ch,(b ∈ X.ex\/X.s₀.heap.objs.size <= b)/\b ≠ X.env.locals/\(∀ x c,X.env.cells.lookup x=some c->c ≠ b)/\∀ p ∈ X.pn++Lu,p.1 ≠ b) :
  Inv X Lu σ H' { s with heap:=h',gens:=g',drawn:=d',toks:=t' }:=by
 obtain ⟨m,⟨o,es,ep,ho,r⟩,_⟩:=id I.loc;obtain ⟨sl,hL⟩:=u.any ho I.free fun z=>(hch _ z).2.1 rfl
 exact I.step (ch:=ch) hch (fun b o hL hb hc e n=>u.keep b o e n (fun z=>(zT.mp (I.stkSub b z)).elim hL hb) hc) (fun b o _ _ hc e n=>u.any e n hc) (fun b o hc e n=>u.free b o e n hc) (fun b o hc e=>u.there b o e hc) u.tups u.frzs u.tbls (fun m' hm=>by
  obtain ⟨o',es',ep',ho',r'⟩:=hm;rw [ho] at ho';cases ho';exact ⟨_,es',ep',hL,r'⟩) LA hg
theorem Inv.turned {t':Nat}{it:Addr} (I:Inv X Lu σ H s) (k:∀ b o,b ≠ it->s.heap.get? b=some o->h'.get? b=some o) (hn:H it=none) (hL:it ≠ X.env.locals)
  (h1:it ∈ X.ex\/X.s₀.heap.objs.size <= it) (h2:∀ x c,X.env.cells.lookup x=some c->c ≠ it) (h3:∀ p ∈ X.pn++Lu,p.1 ≠ it):Inv X Lu σ H { s with heap:=h',toks:=t' }:=by
 have nit:∀ b u,H b=some u->b ≠ it:=fun b u e z=>by rw [z,hn] at e;cases e
 refine I.step (g':=s.gens) (d':=s.drawn) (ch:=[it]) (fun b hb=>?_) (fun b o _ _ hc e _=>k b o (fun z=>hc (by simp [z])) e) (fun b o _ _ hc e _=>⟨o.slots,k b o (fun z=>hc (by simp [z])) e⟩) (fun _ _ _ _ n=>n)
  (fun b o hc e=>⟨o,k b o (fun z=>hc (by simp [z])) e⟩) (fun _ _ e=>e) (fun _ _ _ e=>e) (fun b ps e=>⟨#[],by rw [e];simp⟩) (fun m hm=>?_) (fun b u e=>?_) I.bare
 ·have e:b=it:=by simpa using hb
  subst e;exact ⟨h1,hL,h2,h3⟩
 ·obtain ⟨o,es,ep,ho,r⟩:=hm
  exact ⟨o,es,ep,k _ o (Ne.symm hL) ho,r⟩
 ·refine (I.LA b u e).stay (fun c v hc q=>k c v ?_ q) (fun _ q=>q) fun _ _ q=>q
  rcases hc with z | z
  ·rw [z];exact nit b u e
  ·exact nit c _ z
theorem Inv.tok (I:Inv X Lu σ H s) (t:Nat):Inv X Lu σ H { s with toks:=t }:=I.un (h':=s.heap) (t':=t) Un.refl I.LA
theorem Inv.kept {t':Nat} (I:Inv X Lu σ H s) (k:∀ b u,s.heap.get? b=some u->h'.get? b=some u):Inv X Lu σ H { s with heap:=h',toks:=t' }:=I.un (Un.kept k) (I.LA.kept k)
theorem Inv.laid {a:Addr}{o:HO}{t':Nat} (I:Inv X Lu σ H s) (k:∀ b u,s.heap.get? b=some u->h'.get? b=some u) (hp:s.heap.objs.size <= a) (new:ObjOk X.prog X.w (af H a o) h' a o) :
  Inv X Lu σ (af H a o) { s with heap:=h',toks:=t' }:=I.un (Un.laid k hp (I.LA.fresh hp)) (I.LA.laid k hp new)
theorem Inv.write {x e:Addr}{o:HO}{t':Nat} (I:Inv X Lu σ H s) (mu:wP (H x)) (he:e=x\/H e=some (.own x)) (k:∀ b u,b ≠ e->s.heap.get? b=some u->h'.get? b=some u) (heo:∃ u,h'.get? e=some u)
  (new:ObjOk X.prog X.w (af H x o) h' x o):Inv X Lu σ (af H x o) { s with heap:=h',toks:=t' }:=I.un (Un.write mu he k heo) (I.LA.write mu he k heo new)
theorem Inv.pins_of {pins':List (Addr × Obj)} (I:Inv X Lu σ H s) (h:∀ p ∈ pins',s.heap.get? p.1=some p.2/\H p.1=none/\p.1 ≠ X.env.locals/\p.1 ∉ X.fs/\∀ v,p.2.data ≠ .cell v):Inv X pins' σ H s :=
 ⟨I.ok,I.os,I.bare,I.base,I.loc,I.cell,I.free,I.freeC,fun p hp=>(zZ.mp hp).elim (fun z=>I.pin p (zL _ z)) (h p),I.LA,I.len⟩
theorem qv {N:List Str} (hN:N.Nodup) {i j:Nat}{x:Str} (a:N[i]?=some x) (b:N[j]?=some x):i=j:=by
 obtain ⟨h1,e1⟩:=zB.mp a;obtain ⟨h2,e2⟩:=zB.mp b;exact (List.getElem_inj hN).mp (e1.trans e2.symm)
theorem oH {M:Model}{A:Around}{E:Value->Shared->Prop}{i:Nat}{x:Str}{v:V}{u:Value}{Q:Unit->Shared->Prop} (I:Inv X Lu σ H s) (hN:X.N.Nodup) (hi:X.N[i]?=some x) (hx:Loc X.env.scope x) (r:RelV v u)
  (h:∀ s',Inv X Lu (σ.set i (some v)) H s'->(∃ a,Heap.SameBut a s.heap s'.heap/\(a=X.env.locals\/X.env.cells.lookup x=some a))->Q () s') (hf:X.fn x=true\/X.env.scope.names.lookup x=some .local:=by first | exact .inl rfl | exact .inr rfl | assumption):wpAny M A (storeName X.env x u) Q E s:=by
 obtain ⟨m,hn,hl⟩:=id I.loc;have hcls:(X.env.scope.kind == .class || (X.env.scope.kind == .module && X.env.locals != X.env.globals))=false:=by rw [I.ok.kind];rfl
 have hiσ:i < σ.length:=by rw [I.len];exact (zB.mp hi).1
 have cne:=I.cne;have tracked:∀ {a:Addr}{h':Heap},(∃ o,s.heap.get? a=some o/\H a=none)->Heap.SameBut a s.heap h'->HOk X.prog X.w H h':=fun {a h'} ha hs b ob e=>by
  obtain ⟨_,_,hfree⟩:=ha;refine (I.LA b ob e).stay (fun c w' hc q=>(hs.2 c ?_).trans q) (fun _ q=>q) fun _ _ q=>q
  rintro rfl;rcases hc with rfl | hc
  ·rw [hfree] at e;cases e
  ·rw [hfree] at hc;cases hc
 rcases hx with hk | hk
 ·refine wpAny_storeName_local hk hn (fun h' hn' hs=>?_) hcls
  obtain ⟨oL,_,_,hoL,_⟩:=id hn;refine h _ ⟨I.ok,I.os,I.bare,⟨fun b o e n hb hx=>?_,fun b o e n hb hx=>?_,I.base.free,fun b o e hx=>?_,I.base.tups,I.base.frzs,I.base.tbls⟩,⟨_,hn',fun j y v' e1 e2 e3=>?_⟩,fun y c e=>?_,I.free,I.freeC,fun p hp=>?_,tracked ⟨oL,hoL,I.free⟩ hs,by simpa using I.len⟩ ⟨_,hs,.inl rfl⟩
  ·exact (hs.2 b (zU (zJ (yJ e) I.ok.above))).trans (I.base.keep b o e n hb hx)
  ·obtain ⟨sl,e1⟩:=I.base.slot b o e n hb hx
   exact ⟨sl,(hs.2 b (zU (zJ (yJ e) I.ok.above))).trans e1⟩
  ·obtain ⟨o',e1⟩:=I.base.there b o e hx
   exact ⟨o',(hs.2 b (zU (zJ (yJ e) I.ok.above))).trans e1⟩
  ·by_cases hj:j=i
   ·subst hj
    rw [hi] at e1;cases e1;rw [List.getElem?_set_self hiσ] at e2;cases e2;exact ⟨u,r,.inl ⟨hk,by simp⟩⟩
   ·rw [List.getElem?_set_ne (Ne.symm hj)] at e2
    obtain ⟨u',r',q⟩:=hl j y v' e1 e2 e3;refine ⟨u',r',?_⟩;rcases q with ⟨k,e⟩ | ⟨k,c,e,z⟩
    ·refine .inl ⟨k,?_⟩
     have:y ≠ x:=fun e=>hj (qv hN e1 (e ▸ hi))
     simp [this,e]
    ·exact .inr ⟨k,c,e,z.sameBut hs (cne y c e)⟩
  ·obtain ⟨w',z⟩:=I.cell y c e
   exact ⟨w',z.sameBut hs (cne y c e)⟩
  ·obtain ⟨e,n,ne,nf,d⟩:=I.pin p hp
   exact ⟨(hs.2 p.1 ne).trans e,n,ne,nf,d⟩
 ·have hfn:X.fn x=true:=by
   rcases hf with z | z
   ·exact z
   ·rw [z] at hk;cases hk
  obtain ⟨c,hc⟩:=I.ok.has x (.inl hk);obtain ⟨w',z⟩:=I.cell x c hc;refine wpAny_storeName_cell I.ok.kind hk hc z (fun h' hc' hs=>?_);obtain ⟨oc,hoc,hocd⟩:=id z;refine h { s with heap:=h' } ⟨I.ok,I.os,I.bare,⟨fun b o e n hb hx=>?_,fun b o e n hb hx=>?_,I.base.free,fun b o e hx=>?_,I.base.tups,I.base.frzs,I.base.tbls⟩,⟨m,hn.sameBut hs (Ne.symm (cne x c hc)),fun j y v' e1 e2 e3=>?_⟩,fun y c' e=>?_,I.free,I.freeC,fun p hp=>?_,tracked ⟨oc,hoc,I.freeC x c hc⟩ hs,by simpa using I.len⟩ ⟨c,hs,.inr hc⟩
  ·exact (hs.2 b (zU (zJ (yJ e) (I.ok.cab x c hfn hc)))).trans (I.base.keep b o e n hb hx)
  ·obtain ⟨sl,e1⟩:=I.base.slot b o e n hb hx
   exact ⟨sl,(hs.2 b (zU (zJ (yJ e) (I.ok.cab x c hfn hc)))).trans e1⟩
  ·obtain ⟨o',e1⟩:=I.base.there b o e hx
   exact ⟨o',(hs.2 b (zU (zJ (yJ e) (I.ok.cab x c hfn hc)))).trans e1⟩
  ·by_cases hj:j=i
   ·subst hj
    rw [hi] at e1;cases e1;rw [List.getElem?_set_self hiσ] at e2;cases e2;exact ⟨u,r,.inr ⟨.inl hk,c,hc,hc'⟩⟩
   ·rw [List.getElem?_set_ne (Ne.symm hj)] at e2
    obtain ⟨u',r',q⟩:=hl j y v' e1 e2 e3;refine ⟨u',r',?_⟩;rcases q with q | ⟨k,c',e,z'⟩
    ·exact .inl q
    ·refine .inr ⟨k,c',e,z'.sameBut hs ?_⟩
     rintro rfl;exact hj (qv hN e1 (I.ok.inj _ _ _ e hc ▸ hi))
  ·by_cases hcc:c'=c
   ·subst hcc;exact ⟨_,hc'⟩
   ·obtain ⟨w2,z2⟩:=I.cell y c' e
    exact ⟨w2,z2.sameBut hs hcc⟩
  ·obtain ⟨e,n,ne,nf,d⟩:=I.pin p hp
   refine ⟨(hs.2 p.1 ?_).trans e,n,ne,nf,d⟩;intro q;rw [q,hoc] at e;have q':oc=p.2:=yE e;exact d w' (by rw [<- q'];exact hocd)
theorem pW {M:Model}{A:Around}{E:Value->Shared->Prop}{i:Nat}{x:Str}{v:V}{u:Value}{Q:Unit->Shared->Prop} (I:Inv X Lu σ H s) (hN:X.N.Nodup) (hi:X.N[i]?=some x) (hx:Loc X.env.scope x) (r:RelV v u)
  (h:∀ s',Inv X Lu (σ.set i (some v)) H s'->Q () s') (hf:X.fn x=true\/X.env.scope.names.lookup x=some .local:=by first | exact .inl rfl | exact .inr rfl | assumption):wpAny M A (storeName X.env x u) Q E s :=
 oH I hN hi hx r (fun s' I' _=>h s' I') hf
theorem Inv.call' {s':Shared}{ch:List Addr} (I:Inv X Lu σ H s) (ho:s'.os=s.os) (u:Un (jy X.stack) ch H H' s.heap s'.heap) (LA:HOk X.prog X.w H' s'.heap) (hg:AllBare s'.gens)
  (hch:∀ b ∈ ch,(b ∈ X.ex\/X.s₀.heap.objs.size <= b)/\b ≠ X.env.locals/\(∀ x c,X.env.cells.lookup x=some c->c ≠ b)/\∀ p ∈ X.pn++Lu,p.1 ≠ b):Inv X Lu σ H' s':=by
 obtain ⟨h',g',d',t',o'⟩:=s';have e:o'=s.os:=ho;subst e;exact I.call (g':=g') (t':=t') (d':=d') u LA hg hch
end
abbrev XK:=Value->Option Addr->Hp->Prop
abbrev St:=List (Option V)
abbrev VK:=V->Hp->Prop
abbrev TE:=St->Hp->VK->Prop
abbrev TT:=St->Hp->(Bool->Hp->Prop)->Prop
abbrev TA:=St->Hp->(List V->Hp->Prop)->Prop
structure jm where
 nx:St->Hp->Prop
 rt:VK
 bk:St->Hp->Prop:=fun _ _=>False
 ct:St->Hp->Prop:=fun _ _=>False
abbrev TS:=jm->St->Hp->Prop
def EP (X:Cx) (Lu:List (Addr × Obj)) (σ:St) (Q:VK) (u:Value) (s':Shared):Prop:=∃ v H',Inv X Lu σ H' s'/\RelV v u/\Q v H'
def TP (X:Cx) (Lu:List (Addr × Obj)) (σ:St) (Q:Bool->Hp->Prop) (b:Bool) (s':Shared):Prop:=∃ H',Inv X Lu σ H' s'/\Q b H'
def AP (X:Cx) (Lu:List (Addr × Obj)) (σ:St) (Q:List V->Hp->Prop) (us:List Value) (s':Shared):Prop:=∃ vs H',Inv X Lu σ H' s'/\Vals vs us/\Q vs H'
def SP (X:Cx) (Lu:List (Addr × Obj)) (D:jm) (f:Flow) (s':Shared):Prop :=
 match f with
 | .next=>∃ σ' H',Inv X Lu σ' H' s'/\D.nx σ' H'
 | .brk=>∃ σ' H',Inv X Lu σ' H' s'/\D.bk σ' H'
 | .cont=>∃ σ' H',Inv X Lu σ' H' s'/\D.ct σ' H'
 | .ret u=>∃ v σ' H',Inv X Lu σ' H' s'/\RelV v u/\D.rt v H'
def PE (X:Cx) (e:Expr) (t:TE):Prop :=
 ∀ (Lu:List (Addr × Obj)) (s:Shared) (σ:St) (H:Hp) (Q:VK),Inv X Lu σ H s->t σ H Q->wpAny (model X.prog X.w) X.A (eval e X.env) (EP X Lu σ Q) X.xe s
def PT (X:Cx) (e:Expr) (t:TT):Prop :=
 ∀ (Lu:List (Addr × Obj)) (s:Shared) (σ:St) (H:Hp) (Q:Bool->Hp->Prop),Inv X Lu σ H s->t σ H Q->wpAny (model X.prog X.w) X.A (isTrue e X.env (eval e X.env)) (TP X Lu σ Q) X.xe s
def PW (X:Cx) (e:Expr) (t:TT):Prop :=
 ∀ (whole:Sem Value) (Lu:List (Addr × Obj)) (s:Shared) (σ:St) (H:Hp) (Q:Bool->Hp->Prop),Inv X Lu σ H s->t σ H Q->wpAny (model X.prog X.w) X.A (isTrue e X.env whole) (TP X Lu σ Q) X.xe s
theorem PW.pt {X:Cx}{e:Expr}{t:TT} (h:PW X e t):PT X e t:=h _
def PA (X:Cx) (es:List Expr) (t:TA):Prop :=
 ∀ (pos:Pos) (Lu:List (Addr × Obj)) (s:Shared) (σ:St) (H:Hp) (Q:List V->Hp->Prop),Inv X Lu σ H s->t σ H Q->wpAny (model X.prog X.w) X.A (spliced (backTo pos (starEach es X.env))) (AP X Lu σ Q) X.xe s
def PS (X:Cx) (st:Stmt) (t:TS):Prop :=
 ∀ (Lu:List (Addr × Obj)) (s:Shared) (σ:St) (H:Hp) (D:jm),Inv X Lu σ H s->t D σ H->wpAny (model X.prog X.w) X.A (exec st X.env) (SP X Lu D) X.xe s
def PSs (X:Cx) (st:List Stmt) (t:TS):Prop :=
 ∀ (Lu:List (Addr × Obj)) (s:Shared) (σ:St) (H:Hp) (D:jm),Inv X Lu σ H s->t D σ H->wpAny (model X.prog X.w) X.A (execs st X.env) (SP X Lu D) X.xe s
theorem aA {α:Type}{t:Sem α}{Q Q':α->Shared->Prop}{M:Model}{A:Around}{E:Value->Shared->Prop}{s:Shared} (h:wpAny M A t Q E s) (hQ:∀ a s,Q a s->Q' a s):wpAny M A t Q' E s:=yR h hQ fun _ _ x=>x
section
variable {X:Cx}
theorem bin {a b:Expr}{ta tb:TE} (ha:PE X a ta) (hb:PE X b tb) {Lu:List (Addr × Obj)}{s:Shared}{σ:St}{H:Hp}{R:V->V->Hp->Prop} (I:Inv X Lu σ H s) (h:ta σ H fun x H1=>tb σ H1 fun y H2=>R x y H2)
  {α:Type}{Q:α->Shared->Prop}{f:Value->Value->Sem α}
  (hf:∀ v u s2 x y H2,Inv X Lu σ H2 s2->RelV x v->RelV y u->R x y H2->wpAny (model X.prog X.w) X.A (f v u) Q X.xe s2) :
  wpAny (model X.prog X.w) X.A (eval a X.env) (fun v s₁=>wpAny (model X.prog X.w) X.A (eval b X.env) (fun u s₂=>wpAny (model X.prog X.w) X.A (f v u) Q X.xe s₂) X.xe s₁) X.xe s:=by
 refine aA (ha Lu s σ H _ I h) fun v s1 hq0=>?_
 obtain ⟨x,H1,I1,r1,q1⟩:=hq0;refine aA (hb Lu s1 σ H1 _ I1 q1) fun u s2 hq0=>?_
 obtain ⟨y,H2,I2,r2,q2⟩:=hq0;exact hf v u s2 x y H2 I2 r1 r2 q2
noncomputable def IT (i:Nat):TE:=fun σ H Q=>∃ v,σ[i]?=some (some v)/\Q v H
noncomputable def tC (v:V):TE:=fun _ H Q=>Q v H
theorem Dz {i:Nat}{x:Str}{pos:Pos} (hN:X.N[i]?=some x) (hv:wL X.env.scope x) (hd:(x == ("__debug__":Str))=false:=by decide) (hcd:(x == ("__classdict__":Str))=false:=by decide):PE X (.Name x pos) (IT i):=by
 intro Lu s σ H Q I h;obtain ⟨v,e,h⟩:=h;obtain ⟨m,hn,hl⟩:=I.loc;obtain ⟨u,r,l⟩:=hl i x v hN e hv;have aE:EP X Lu σ Q u s:=⟨v,H,I,r,h⟩;rcases l with ⟨hk,hm⟩ | ⟨hk,c,hc,hcell⟩
 ·exact wpAny_Name (wpAny_loadName_local I.ok.kind hk hn hm aE) hd
 ·rcases hk with hk | hk
  ·exact wpAny_Name (wpAny_loadName_cell I.ok.kind hk hc hcell aE) hd
  ·exact wpAny_Name (wpAny_loadName_free I.ok.kind hk hc hcell aE hcd) hd
theorem DG {i j pos}:PE X (.Constant (.int i) j pos) (tC (.int i)):=fun _ _ _ H _ I h=>wpAny_Constant_int ⟨.int i,H,I.tok _,⟨_,rfl⟩,h⟩
theorem Gy {b j pos}:PE X (.Constant (.bool b) j pos) (tC (.bl b)):=fun _ _ _ H _ I h=>Constant_bool ⟨.bl b,H,I,rfl,h⟩
theorem DF {j pos}:PE X (.Constant .none j pos) (tC .non):=fun _ _ _ H _ I h=>Constant_none ⟨.non,H,I,rfl,h⟩
theorem DB {x j pos}:PE X (.Constant (.str x) j pos) (tC (.str x)):=fun _ _ _ H _ I h=>Calls.Constant_str ⟨.str x,H,I.tok _,⟨_,rfl⟩,h⟩
def Gl (X:Cx) (x:Str):Prop:=X.env.kindOf x=some .globalImplicit
theorem lC {E:Value->Shared->Prop}{Lu:List (Addr × Obj)}{s:Shared}{σ:St}{H:Hp}{x:Str}{u:Value}{pos:Pos}{Q:Value->Shared->Prop} (I:Inv X Lu σ H s) (hg:Gl X x) (hm:X.mg x=some u) (h:Q u s)
  (hd:(x == ("__debug__":Str))=false:=by decide):wpAny (model X.prog X.w) X.A (eval (.Name x pos) X.env) Q E s :=
 Calls.Name_function_global I.ok.kind hg (Calls.loadGlobal_global (by rw [I.ok.glob];exact I.mod.glob.keeps I.bk) hm h) hd
theorem cV {E:Value->Shared->Prop}{Lu:List (Addr × Obj)}{s:Shared}{σ:St}{H:Hp}{x:Str}{u:Value}{pos:Pos}{Q:Value->Shared->Prop} (I:Inv X Lu σ H s) (hg:Gl X x) (hm:X.mg x=none) (hv:bootBuiltins x=some u) (h:Q u s)
  (hn:x ≠ "__name__":=by decide) (hd:(x == ("__debug__":Str))=false:=by decide):wpAny (model X.prog X.w) X.A (eval (.Name x pos) X.env) Q E s:=by
 obtain ⟨mb,h1,h2⟩:=I.mod.blt;exact Calls.Name_function_global I.ok.kind hg (Calls.loadGlobal_builtin (by rw [I.ok.glob];exact I.mod.glob.keeps I.bk) hm (by rw [I.ok.blt];exact h1.keeps I.bk) ((h2 x hn).trans hv) h) hd
theorem BD {x:Str}{v:V}{u:Value}{pos:Pos} (hg:Gl X x) (hm:X.mg x=some u) (r:RelV v u) (hd:(x == ("__debug__":Str))=false:=by decide):PE X (.Name x pos) (tC v) :=
 fun _ _ _ H _ I h=>lC I hg hm ⟨v,H,I,r,h⟩ hd
theorem BH {x:Str}{v:V}{u:Value}{pos:Pos} (hg:Gl X x) (hm:X.mg x=none) (hv:bootBuiltins x=some u) (r:RelV v u) (hn:x ≠ "__name__":=by decide) (hd:(x == ("__debug__":Str))=false:=by decide):PE X (.Name x pos) (tC v) :=
 fun _ _ _ H _ I h=>cV I hg hm hv ⟨v,H,I,r,h⟩ hn hd
variable {a b:Expr}{ta tb:TE}{pos:Pos}
theorem RelV.none_iff {x:V}{v:Value} (r:RelV x v):(v == Value.none)=decide (x=.non):=by
 cases x with
 | non=>cases r;rfl
 | bl _=>cases r;rfl
 | int _=>obtain ⟨t,rfl⟩:=r;rfl
 | str _=>obtain ⟨t,rfl⟩:=r;rfl
 | byt _=>obtain ⟨t,rfl⟩:=r;rfl
 | flt _=>obtain ⟨t,rfl⟩:=r;rfl
 | ref _=>cases r;rfl
 | ty _=>cases r;rfl
variable {tA tB':TT}{rest:List Expr}
noncomputable def Je (t u:TT):TT:=fun σ H Q=>t σ H fun c H1=>if c=true then u σ H1 Q else Q false H1
noncomputable def Kc (t u:TT):TT:=fun σ H Q=>t σ H fun c H1=>if c=true then Q true H1 else u σ H1 Q
noncomputable def IY (t:TT):TT:=fun σ H Q=>t σ H fun c H1=>Q (!c) H1
theorem Bl (ha:PT X a tA):PW X (.BoolOp .And [a] pos) tA:=by
 intro wh Lu s σ H Q I h;refine isTrue_and (aA (ha Lu s σ H Q I h) fun c s1 e=>?_);cases c with
 | true=>exact isTrue_and_nil e
 | false=>exact e
theorem Dm (ha:PT X a tA):PW X (.BoolOp .Or [a] pos) tA:=by
 intro wh Lu s σ H Q I h;refine isTrue_or (aA (ha Lu s σ H Q I h) fun c s1 e=>?_);cases c with
 | false=>exact isTrue_or_nil e
 | true=>exact e
theorem Dn (ha:PT X a tA) (hb:PW X (.BoolOp .And (b::rest) pos) tB'):PW X (.BoolOp .And (a::b::rest) pos) (Je tA tB'):=by
 intro wh Lu s σ H Q I h;refine isTrue_and (aA (ha Lu s σ H _ I h) fun c s1 hq0=>?_);obtain ⟨H1,I1,q1⟩:=hq0;cases c with
 | true=>exact hb wh Lu s1 σ H1 Q I1 q1
 | false=>exact ⟨H1,I1,q1⟩
theorem Gn (ha:PT X a tA) (hb:PW X (.BoolOp .Or (b::rest) pos) tB'):PW X (.BoolOp .Or (a::b::rest) pos) (Kc tA tB'):=by
 intro wh Lu s σ H Q I h;refine isTrue_or (aA (ha Lu s σ H _ I h) fun c s1 hq0=>?_);obtain ⟨H1,I1,q1⟩:=hq0;cases c with
 | true=>exact ⟨H1,I1,q1⟩
 | false=>exact hb wh Lu s1 σ H1 Q I1 q1
theorem Do (ha:PT X a tA):PT X (.UnaryOp .Not a pos) (IY tA):=by
 intro Lu s σ H Q I h;exact isTrue_not (ha Lu s σ H (fun c H1=>Q (!c) H1) I h)
noncomputable def FZ (ta tb:TE):TE:=fun σ H Q=>ta σ H fun x H1=>∃ c,x=.bl c/\if c=true then tb σ H1 Q else Q (.bl false) H1
noncomputable def IX (ta tb:TE):TE:=fun σ H Q=>ta σ H fun x H1=>∃ c,x=.bl c/\if c=true then Q (.bl true) H1 else tb σ H1 Q
noncomputable def FV (ta:TE):TE:=fun σ H Q=>ta σ H fun x H1=>∃ c,x=.bl c/\Q (.bl (!c)) H1
theorem vE {op}{t:TE} (h:PE X a t):PE X (.BoolOp op [a] pos) t:=fun Lu s σ H Q I hw=>BoolOp_one (h Lu s σ H Q I hw)
theorem DJ (ha:PE X a ta) (hb:PE X (.BoolOp .And (b::rest) pos) tb):PE X (.BoolOp .And (a::b::rest) pos) (FZ ta tb):=by
 intro Lu s σ H Q I h;refine BoolOp_and (aA (ha Lu s σ H _ I h) fun v s1 hq0=>?_);obtain ⟨x,H1,I1,r1,q1⟩:=hq0;obtain ⟨c,rfl,q1⟩:=q1;cases r1;refine wpAny_truthy_bool ?_;cases c with
 | true=>exact hb Lu s1 σ H1 Q I1 q1
 | false=>exact ⟨.bl false,H1,I1,rfl,q1⟩
theorem Gs (ha:PE X a ta) (hb:PE X (.BoolOp .Or (b::rest) pos) tb):PE X (.BoolOp .Or (a::b::rest) pos) (IX ta tb):=by
 intro Lu s σ H Q I h;refine BoolOp_or (aA (ha Lu s σ H _ I h) fun v s1 hq0=>?_);obtain ⟨x,H1,I1,r1,q1⟩:=hq0;obtain ⟨c,rfl,q1⟩:=q1;cases r1;refine wpAny_truthy_bool ?_;cases c with
 | false=>exact hb Lu s1 σ H1 Q I1 q1
 | true=>exact ⟨.bl true,H1,I1,rfl,q1⟩
theorem DC (ha:PE X a ta):PE X (.UnaryOp .Not a pos) (FV ta):=by
 intro Lu s σ H Q I h;refine UnaryOp_ (aA (ha Lu s σ H _ I h) fun v s1 hq0=>?_);obtain ⟨x,H1,I1,r1,q1⟩:=hq0;obtain ⟨c,rfl,q1⟩:=q1;cases r1;exact not_of (wpAny_truthy_bool ⟨.bl (!c),H1,I1,rfl,q1⟩)
noncomputable def Kd (t:TT) (ta tb:TE):TE:=fun σ H Q=>t σ H fun c H1=>if c=true then ta σ H1 Q else tb σ H1 Q
theorem xI {c:Expr} (hc:PT X c tA) (ha:PE X a ta) (hb:PE X b tb):PE X (.IfExp c a b pos) (Kd tA ta tb):=by
 intro Lu s σ H Q I h;refine wpAny_IfExp (aA (hc Lu s σ H _ I h) fun d s1 hq0=>?_);obtain ⟨H1,I1,q1⟩:=hq0;cases d with
 | true=>exact ha Lu s1 σ H1 Q I1 q1
 | false=>exact hb Lu s1 σ H1 Q I1 q1
end
def aP (K:Frag) (H:Hp) (a:Addr) (xs:List V):Prop :=
 Rd H a (.lst xs) \/
  ∃ (o:Obj) (Lx:Array Value) (n:Nat),K.lookup a=some o/\o.cls=.type "list"/\o.dict=none/\o.data=.seq Lx n/\Lx.size <= sizeLine/\Vals xs Lx.toList
def fU (K:Frag) (H:Hp) (a:Addr) (xs:List V):Prop :=
 Rd H a (.tup xs) \/
  ∃ (o:Obj) (Lx:Array Value) (n:Nat),K.lookup a=some o/\o.cls=.type "tuple"/\o.data=.seq Lx n/\Lx.size <= sizeLine/\Vals xs Lx.toList
noncomputable def JY:Value->Option V
 | .none=>some .non
 | .bool b=>some (.bl b)
 | .int i _=>some (.int i)
 | .str x _=>some (.str x)
 | .bytes b _=>some (.byt b)
 | .float b _=>some (.flt b)
 | .ref a=>some (.ref a)
 | .type n=>some (.ty n)
 | _=>none
theorem RelV.abs {x:V}{u:Value} (r:RelV x u):JY u=some x:=by
 cases x with
 | non=>cases r;rfl
 | bl _=>cases r;rfl
 | int _=>obtain ⟨t,rfl⟩:=r;rfl
 | str _=>obtain ⟨t,rfl⟩:=r;rfl
 | byt _=>obtain ⟨t,rfl⟩:=r;rfl
 | flt _=>obtain ⟨t,rfl⟩:=r;rfl
 | ref _=>cases r;rfl
 | ty _=>cases r;rfl
theorem RelV.inj {x y:V}{u:Value} (r:RelV x u) (q:RelV y u):x=y:=yE (r.abs.symm.trans q.abs)
theorem Vals.inj {xs ys:List V}{us:List Value} (h:Vals xs us):Vals ys us->xs=ys:=by
 induction h generalizing ys with
 | nil=>intro h';cases h';rfl
 | cons r t ih =>
  intro h';cases h' with
  | cons r' t'=>rw [r.inj r',ih t']
section
variable {X:Cx}{Lu:List (Addr × Obj)}{σ:St}{H:Hp}{s:Shared}{a:Addr}{xs ys:List V}
theorem Inv.list (I:Inv X Lu σ H s) (h:aP X.K H a xs):∃ Lx:List Value,Vals xs Lx/\PlainL s.heap a Lx.toArray/\xs.length <= sizeLine:=by
 rcases h with h | ⟨o,Lx,n,hk,hc,hd,hs,hz,r⟩
 ·obtain ⟨z,Lx,n,r,e⟩:=h.ok I.LA
  exact ⟨Lx,r,⟨_,n,e,rfl,rfl,rfl⟩,z⟩
 ·refine ⟨Lx.toList,r,⟨o,n,I.kIn a o hk,hc,hd,by simpa using hs⟩,?_⟩
  have e:=r.length;simp only [Array.length_toList] at e;omega
theorem Inv.tuple (I:Inv X Lu σ H s) (h:fU X.K H a xs):∃ Lx:List Value,Vals xs Lx/\IsTup s.heap a Lx.toArray/\xs.length <= sizeLine:=by
 rcases h with h | ⟨o,Lx,n,hk,hc,hs,hz,r⟩
 ·obtain ⟨z,Lx,r,p⟩:=h.ok I.LA
  exact ⟨Lx,r,p,z⟩
 ·refine ⟨Lx.toList,r,⟨o,I.kIn a o hk,hc,n,by simpa using hs⟩,?_⟩
  have e:=r.length;simp only [Array.length_toList] at e;omega
theorem Inv.list_inj (I:Inv X Lu σ H s) (h:aP X.K H a xs) (h':aP X.K H a ys):xs=ys:=by
 obtain ⟨Lx,r,⟨o,n,e,_,_,d⟩,_⟩:=I.list h;obtain ⟨its',r',⟨o',n',e',_,_,d'⟩,_⟩:=I.list h';rw [e] at e';cases e';rw [d] at d';injection d' with d1 _;have:Lx=its':=by simpa using congrArg Array.toList d1
 subst this;exact r.inj r'
theorem Inv.tuple_inj (I:Inv X Lu σ H s) (h:fU X.K H a xs) (h':fU X.K H a ys):xs=ys:=by
 obtain ⟨Lx,r,⟨o,e,_,n,d⟩,_⟩:=I.tuple h;obtain ⟨its',r',⟨o',e',_,n',d'⟩,_⟩:=I.tuple h';rw [e] at e';cases e';rw [d] at d';injection d' with d1 _;have:Lx=its':=by simpa using congrArg Array.toList d1
 subst this;exact r.inj r'
end
abbrev Cx.wish (X:Cx) (E:Value->Shared->Prop):Cx:={ X with xe:=E }
abbrev Cx.nox (X:Cx):Cx:=X.wish fun _ _=>False
theorem Cx.Ok.wish {X:Cx} (ok:X.Ok) (E:Value->Shared->Prop):(X.wish E).Ok :=
 ⟨ok.mod,ok.kind,ok.glob,ok.blt,ok.above,ok.inj,ok.has,ok.cab,ok.hd,ok.frames,ok.stk,ok.exf,ok.bs,ok.bsz,ok.noex,ok.exfs,ok.funs,ok.frf⟩
theorem Cx.Ok.unwish {X:Cx}{E:Value->Shared->Prop} (ok:(X.wish E).Ok):X.Ok :=
 ⟨ok.mod,ok.kind,ok.glob,ok.blt,ok.above,ok.inj,ok.has,ok.cab,ok.hd,ok.frames,ok.stk,ok.exf,ok.bs,ok.bsz,ok.noex,ok.exfs,ok.funs,ok.frf⟩
section
variable {X:Cx}{Lu:List (Addr × Obj)}{σ:St}{H:Hp}{s:Shared}{E:Value->Shared->Prop}
theorem Inv.wish (I:Inv X Lu σ H s) (E:Value->Shared->Prop):Inv (X.wish E) Lu σ H s:=⟨I.ok.wish E,I.os,I.bare,I.base,I.loc,I.cell,I.free,I.freeC,I.pin,I.LA,I.len⟩
theorem Inv.unwish (I:Inv (X.wish E) Lu σ H s):Inv X Lu σ H s:=⟨I.ok.unwish,I.os,I.bare,I.base,I.loc,I.cell,I.free,I.freeC,I.pin,I.LA,I.len⟩
theorem SP.unwish {D:jm}{f:Flow}{s':Shared} (h:SP (X.wish E) Lu D f s'):SP X Lu D f s':=by
 cases f with
 | next=>obtain ⟨σ',H',I,q⟩:=h;exact ⟨σ',H',I.unwish,q⟩
 | brk=>obtain ⟨σ',H',I,q⟩:=h;exact ⟨σ',H',I.unwish,q⟩
 | cont=>obtain ⟨σ',H',I,q⟩:=h;exact ⟨σ',H',I.unwish,q⟩
 | ret u=>obtain ⟨v,σ',H',I,r,q⟩:=h;exact ⟨v,σ',H',I.unwish,r,q⟩
theorem PSs.nox {st:List Stmt}{t:TS} (h:PSs X.nox st t):PSs X st t:=fun Lu s σ H D I hw =>
 yR (h Lu s σ H D (I.wish _) hw) (fun _ _ q=>q.unwish) fun _ _ z=>False.elim z
end
section
variable {X:Cx}{st:Stmt}{rest:List Stmt}{t u:TS}{e:Expr}{te:TE}{pos:Pos}
noncomputable def FW:TS:=fun D σ H=>D.nx σ H
noncomputable def IV (t u:TS):TS:=fun D σ H=>t { D with nx:=u D } σ H
theorem Bn:PSs X [] FW:=fun _ _ σ H _ I h=>wpAny_execs_nil ⟨σ,H,I,h⟩
theorem xy (h1:PS X st t) (h2:PSs X rest u):PSs X (st::rest) (IV t u):=by
 intro Lu s σ H D I h;refine wpAny_execs_cons (aA (h1 Lu s σ H { D with nx:=u D } I h) fun f s1 q=>?_);cases f with
 | next =>
  obtain ⟨σ',H',I',q⟩:=q;exact h2 Lu s1 σ' H' D I' q
 | ret v=>exact q
 | brk=>exact q
 | cont=>exact q
theorem Inv.quiet {Lu:List (Addr × Obj)}{σ:St}{H:Hp}{s:Shared} (I:Inv X Lu σ H s):interactive X.env=false:=by simp [interactive,I.ok.kind]
noncomputable def FX (te:TE):TS:=fun D σ H=>te σ H fun _ H1=>D.nx σ H1
theorem Bp (he:PE X e te) (hs:swapsWith e none pos.line X.env=pure false:=by rfl):PS X (.Expr e pos) (FX te):=by
 intro Lu s σ H D I h;exact wpAny_Expr_any (aA (he Lu s σ H _ I h) fun v s1 ⟨x,H1,I1,r1,q1⟩=>⟨σ,H1,I1,q1⟩) I.quiet hs
noncomputable def IW (te:TE):TS:=fun D σ H=>te σ H D.rt
theorem Dq (he:PE X e te):PS X (.Return (some e) pos) (IW te):=by
 intro Lu s σ H D I h;exact wpAny_Return_some (aA (he Lu s σ H _ I h) fun v s1 ⟨x,H1,I1,r1,q1⟩=>⟨x,σ,H1,I1,r1,q1⟩)
noncomputable def Ja (c:TT) (t u:TS):TS:=fun D σ H=>c σ H fun b H1=>if b=true then t D σ H1 else u D σ H1
theorem Go {c:Expr}{a b:List Stmt}{tc:TT} (hc:PT X c tc) (ha:PSs X a t) (hb:PSs X b u):PS X (.If c a b pos) (Ja tc t u):=by
 intro Lu s σ H D I h;refine wpAny_If (aA (hc Lu s σ H _ I h) fun d s1 hq0=>?_);obtain ⟨H1,I1,q1⟩:=hq0;cases d with
 | true=>exact ha Lu s1 σ H1 D I1 q1
 | false=>exact hb Lu s1 σ H1 D I1 q1
noncomputable def vd:TS:=fun _ _ _=>False
theorem xA:PS X st vd:=fun _ _ _ _ _ _ h=>h.elim
theorem vv {sts:List Stmt}:PSs X sts vd:=fun _ _ _ _ _ _ h=>h.elim
end
abbrev TG:=V->St->Hp->(St->Hp->Prop)->Prop
abbrev mi:=List V->St->Hp->(St->Hp->Prop)->Prop
def PG (X:Cx) (target:Expr) (t:TG):Prop :=
 ∀ (Lu:List (Addr × Obj)) (s:Shared) (σ:St) (H:Hp) (v:V) (u:Value) (Q:St->Hp->Prop),Inv X Lu σ H s->RelV v u->t v σ H Q ->
  wpAny (model X.prog X.w) X.A (assign target X.env u) (fun _ s'=>∃ σ' H',Inv X Lu σ' H' s'/\Q σ' H') X.xe s
def pi (X:Cx) (ts:List Expr) (t:mi):Prop :=
 ∀ (Lu:List (Addr × Obj)) (s:Shared) (σ:St) (H:Hp) (vs:List V) (us:List Value) (Q:St->Hp->Prop),Inv X Lu σ H s->Vals vs us->t vs σ H Q ->
  wpAny (model X.prog X.w) X.A (assignInOrder ((assignEach ts X.env).map (·.2)) us) (fun _ s'=>∃ σ' H',Inv X Lu σ' H' s'/\Q σ' H') X.xe s
abbrev rJ:=V->V->V->Hp->(Hp->Prop)->Prop
def uU (X:Cx) (t:rJ):Prop :=
 ∀ (Lu:List (Addr × Obj)) (s:Shared) (σ:St) (H:Hp) (o i v:V) (ov iv u:Value) (Q:Hp->Prop),Inv X Lu σ H s->RelV o ov->RelV i iv->RelV v u->t o i v H Q ->
  wpAny (model X.prog X.w) X.A (setItem ov iv u) (fun _ s'=>∃ H',Inv X Lu σ H' s'/\Q H') X.xe s
abbrev AB:=V->V->Hp->VK->Prop
def AD (X:Cx) (op:Operator) (t:AB):Prop :=
 ∀ (Lu:List (Addr × Obj)) (s:Shared) (σ:St) (H:Hp) (x y:V) (v u:Value) (Q:VK),Inv X Lu σ H s->RelV x v->RelV y u->t x y H Q ->
  wpAny (model X.prog X.w) X.A (inplaceOp op v u) (EP X Lu σ Q) X.xe s
section
variable {X:Cx}{pos:Pos}
noncomputable def ni (i:Nat):TG:=fun v σ H Q=>Q (σ.set i (some v)) H
theorem BA {i:Nat}{x:Str} (hN:X.N.Nodup) (hi:X.N[i]?=some x) (hx:Loc X.env.scope x) (hf:X.fn x=true\/X.env.scope.names.lookup x=some .local:=by first | exact .inl rfl | exact .inr rfl | assumption):PG X (.Name x pos) (ni i):=by
 intro Lu s σ H v u Q I r h;exact wpAny_assign_Name (pW I hN hi hx r (fun s' I'=>⟨_,H,I',h⟩) hf)
noncomputable def JI:mi:=fun vs σ H Q=>vs=[]/\Q σ H
noncomputable def G4 (t:TG) (u:mi):mi:=fun vs σ H Q=>∃ v r,vs=v::r/\t v σ H fun σ' H'=>u r σ' H' Q
theorem By:pi X [] JI:=by
 intro Lu s σ H vs us Q I r h;obtain ⟨e,h⟩:=h;subst e;cases r;exact assignInOrder_nil ⟨σ,H,I,h⟩
theorem xC {e:Expr}{es:List Expr}{t:TG}{u:mi} (h1:PG X e t) (h2:pi X es u)
  (hs:(assignEach (e::es) X.env).map (·.2)=assign e X.env::(assignEach es X.env).map (·.2):=by rfl):pi X (e::es) (G4 t u):=by
 intro Lu s σ H vs us Q I r h;obtain ⟨v,vr,e1,h⟩:=h;subst e1;cases r with
 | cons r rr =>
  rw [hs];refine assignInOrder_cons (aA (h1 Lu s σ H _ _ _ I r h) fun _ s1 hq0=>?_);obtain ⟨σ1,H1,I1,q1⟩:=hq0;exact h2 Lu s1 σ1 H1 _ _ Q I1 rr q1
noncomputable def JG (K:Frag) (n:Nat) (t:mi):TG:=fun v σ H Q=>∃ a xs,v=.ref a/\fU K H a xs/\xs.length=n/\t xs σ H Q
theorem Dx {es:List Expr}{k:Nat}{t:mi}{n:Nat} (hc:X.calm=true) (h:pi X es t)
  (hn:(assignEach es X.env).length=n:=by rfl) (hst:(assignEach es X.env).findIdx? (·.1)=none:=by rfl):PG X (.Tuple es k pos) (JG X.K n t):=by
 intro Lu s σ H v u Q I r hw;obtain ⟨a,xs,e1,hq,hl,hw⟩:=hw;subst e1;cases r;obtain ⟨Lx,rv,ht,hz⟩:=I.tuple hq;refine assign_Tuple_tuple (I.ok.hd hc) ht (by simp [hn,<- hl,rv.length]) hst fun h' hx=>?_
 have I1:Inv X Lu σ H { s with heap:=h' }:=I.kept (t':=s.toks) fun b o e=>hx b o (zU (yJ e)) e
 exact h Lu _ σ H xs _ Q I1 (by simpa using rv) hw
noncomputable def JH (to ti:TE) (t:rJ):TG:=fun v σ H Q=>to σ H fun o H1=>ti σ H1 fun i H2=>t o i v H2 fun H3=>Q σ H3
theorem Dy {o i:Expr}{to ti:TE}{t:rJ} (ho:PE X o to) (hi:PE X i ti) (hs:uU X t)
  (ha:∀ v,assign (.Subscript o i pos) X.env v=(do
   let ov <- holding [v] (eval o X.env)
   let iv <- holding [v,ov] (eval i X.env)
   standAt pos
   holding [v,ov,iv] (setItem ov iv v)
   release [v,ov,iv] []):=by intro _;rfl):PG X (.Subscript o i pos) (JH to ti t):=by
 intro Lu s σ H v u Q I r h;rw [ha];refine yF (yQ (aA (ho Lu s σ H _ I h) fun ov s1 hq0=>?_));obtain ⟨x,H1,I1,r1,q1⟩:=hq0;refine yF (yQ (aA (hi Lu s1 σ H1 _ I1 q1) fun iv s2 hq0=>?_));obtain ⟨y,H2,I2,r2,q2⟩:=hq0;refine yF (wpAny_standAt (yF (yQ (aA (hs Lu s2 σ H2 x y v ov iv u _ I2 r1 r2 r q2) fun _ s3 hq0=>?_))));obtain ⟨H3,I3,q3⟩:=hq0;exact wpAny_release ⟨σ,H3,I3,q3⟩
noncomputable def tP (te:TE) (g:TG):TS:=fun D σ H=>te σ H fun x H1=>g x σ H1 D.nx
theorem Ds {tg e:Expr}{te:TE}{g:TG} (he:PE X e te) (hg:PG X tg g) (hs:swapsWithSole [tg] e pos.line X.env=pure false:=by rfl) (hw:swappedStores [tg] e X.env=pure none:=by rfl)
  (h1:(assignEach [tg] X.env).map (·.2)=[assign tg X.env]:=by rfl):PS X (.Assign [tg] e pos) (tP te g):=by
 intro Lu s σ H D I h;refine wpAny_Assign_stores (aA (he Lu s σ H _ I h) fun v s1 hq0=>?_) hs hw;obtain ⟨x,H1,I1,r1,q1⟩:=hq0;rw [h1];exact aA (hg Lu s1 σ H1 x v _ I1 r1 q1) fun _ s2 q=>q
theorem Dp {i:Nat}{x:Str}{e:Expr}{te:TE}{pos':Pos} (hN:X.N.Nodup) (hi:X.N[i]?=some x) (hx:Loc X.env.scope x) (he:PE X e te) (hs:swapsWith e (some (.Name x pos')) pos.line X.env=pure false:=by rfl) (hf:X.fn x=true\/X.env.scope.names.lookup x=some .local:=by first | exact .inl rfl | exact .inr rfl | assumption) :
  PS X (.Assign [.Name x pos'] e pos) (tP te (ni i)):=by
 intro Lu s σ H D I h;refine wpAny_Assign_Name (aA (he Lu s σ H _ I h) fun v s1 hq0=>?_) hs;obtain ⟨y,H1,I1,r1,q1⟩:=hq0;exact pW I1 hN hi hx r1 (fun s2 I2=>⟨_,H1,I2,q1⟩) hf
def FY (to ti te:TE) (tget:V->V->Hp->VK->Prop) (tip:AB) (tset:rJ):TS:=fun D σ H=>to σ H fun o H1=>ti σ H1 fun i H2=>tget o i H2 fun x H3=>te σ H3 fun y H4=>tip x y H4 fun z H5=>tset o i z H5 fun H6=>D.nx σ H6
def zc (X:Cx) (t:V->V->Hp->VK->Prop):Prop :=
 ∀ (Lu:List (Addr × Obj)) (s:Shared) (σ:St) (H:Hp) (o i:V) (ov iv:Value) (Q:VK),Inv X Lu σ H s->RelV o ov->RelV i iv->t o i H Q ->
  wpAny (model X.prog X.w) X.A (getItem ov iv) (EP X Lu σ Q) X.xe s
theorem Bq {o i e:Expr}{to ti te:TE}{tget:V->V->Hp->VK->Prop}{tip:AB}{tset:rJ}{op:Operator}{tpos:Pos} (ho:PE X o to) (hi:PE X i ti) (hg:zc X tget) (he:PE X e te) (hp:AD X op tip) (hs:uU X tset)
  (ha:∀ ov iv new,augStore i ov iv new=(do holding [new,ov,iv] (setItem ov iv new);release [new,ov,iv] [];pure .next):=by intros;rfl):PS X (.AugAssign (.Subscript o i tpos) op e pos) (FY to ti te tget tip tset):=by
 intro Lu s σ H D I h;refine wpAny_AugAssign_SubscriptAny (aA (ho Lu s σ H _ I h) fun ov s1 hq0=>?_) ha;obtain ⟨x1,H1,I1,r1,q1⟩:=hq0;refine aA (hi Lu s1 σ H1 _ I1 q1) fun iv s2 hq0=>?_
 obtain ⟨x2,H2,I2,r2,q2⟩:=hq0;refine aA (hg Lu s2 σ H2 x1 x2 ov iv _ I2 r1 r2 q2) fun old s3 hq0=>?_
 obtain ⟨x3,H3,I3,r3,q3⟩:=hq0;refine aA (he Lu s3 σ H3 _ I3 q3) fun v s4 hq0=>?_
 obtain ⟨x4,H4,I4,r4,q4⟩:=hq0;refine aA (hp Lu s4 σ H4 x3 x4 old v _ I4 r3 r4 q4) fun new s5 hq0=>?_
 obtain ⟨x5,H5,I5,r5,q5⟩:=hq0;exact aA (hs Lu s5 σ H5 x1 x2 x5 ov iv new _ I5 r1 r2 r5 q5) fun _ s6 ⟨H6,I6,q6⟩=>⟨σ,H6,I6,q6⟩
noncomputable def Io (f:Int->Int->Int):AB:=fun x y H Q=>∃ i j,x=.int i/\y=.int j/\Q (.int (f i j)) H
theorem ER:AD X .Add (Io fun i j=>i + j):=by
 intro Lu s σ H x y v u Q I r1 r2 h;obtain ⟨i,j,e1,e2,q⟩:=h;subst e1;subst e2;obtain ⟨t,rfl⟩:=r1;obtain ⟨t',rfl⟩:=r2;exact iadd_int ⟨.int _,H,I.tok _,⟨_,rfl⟩,q⟩
theorem EQ:AD X .Sub (Io fun i j=>i - j):=by
 intro Lu s σ H x y v u Q I r1 r2 h;obtain ⟨i,j,e1,e2,q⟩:=h;subst e1;subst e2;obtain ⟨t,rfl⟩:=r1;obtain ⟨t',rfl⟩:=r2;exact isub_int ⟨.int _,H,I.tok _,⟨_,rfl⟩,q⟩
end
section
variable {X:Cx}{pos:Pos}
def CG (c:TT) (tb:TS):TS:=fun D σ H=>∃ W:Nat->St->Hp->Prop,(∃ m,W m σ H)/\∀ m σ H,W m σ H ->
 c σ H fun b H1=>if b=true then ∃ N:St->Hp->Prop,(∀ σ' H',N σ' H'->∃ m',m' < m/\W m' σ' H')/\tb { D with nx:=N,ct:=N,bk:=D.nx } σ H1 else D.nx σ H1
theorem xz {c:Expr}{body:List Stmt}{tc:TT}{tb:TS} (hp:PassesOwn (model X.prog X.w) X.A X.env X.xe) (hc:PT X c tc) (hb:PSs X body tb):PS X (.While c body [] pos) (CG tc tb):=by
 intro Lu s σ H D I h;obtain ⟨W,⟨m0,w0⟩,turn⟩:=h;refine wpAny_While (codeAny_whileLoop (fun n s'=>∃ σ' H',Inv X Lu σ' H' s'/\W n σ' H') ?_ m0 ⟨σ,H,I,w0⟩);rintro n s1 ⟨σ1,H1,I1,w1⟩;refine wpAny_passesOwn hp (aA (hc Lu s1 σ1 H1 _ I1 (turn n σ1 H1 w1)) fun b s2 hq0=>?_);obtain ⟨H2,I2,q2⟩:=hq0;cases b with
 | true =>
  obtain ⟨N,hN,q2⟩:=q2;rw [yI rfl];refine wpAny_passesOwn hp (aA (hb Lu s2 σ1 H2 _ I2 q2) fun f s3 q3=>?_);cases f with
  | next =>
   obtain ⟨σ3,H3,I3,n3⟩:=q3;obtain ⟨m',hm,w3⟩:=hN σ3 H3 n3;exact ⟨m',hm,σ3,H3,I3,w3⟩
  | cont =>
   obtain ⟨σ3,H3,I3,n3⟩:=q3;obtain ⟨m',hm,w3⟩:=hN σ3 H3 n3;exact ⟨m',hm,σ3,H3,I3,w3⟩
  | brk=>exact q3
  | ret v=>exact q3
 | false =>
  rw [yH Bool.false_ne_true];exact wpAny_execs_nil ⟨σ1,H2,I2,q2⟩
end
structure It where
 go:Nat->Hp->Prop
 yld:Nat->Hp->V->Hp->Prop
 stop:Nat->Hp->Prop
def dl (X:Cx) (Lu:List (Addr × Obj)) (H:Hp) (b:Addr):Prop :=
 H b=none/\b ≠ X.env.locals/\b ∉ X.fs/\(b ∈ X.ex\/X.s₀.heap.objs.size <= b)/\(∀ x c,X.env.cells.lookup x=some c->c ≠ b)/\∀ p ∈ X.pn++Lu,p.1 ≠ b
theorem Inv.fpOk {X:Cx}{Lu:List (Addr × Obj)}{σ:St}{H H':Hp}{s:Shared}{b:Addr} (I:Inv X Lu σ H s) (hb:s.heap.objs.size <= b) (hn:H' b=none):dl X Lu H' b:=by
 refine ⟨hn,Nat.ne_of_gt (zJ I.lt hb),I.nofs hb,.inr (z0 I.sz hb),fun x c e z=>?_,fun p hp z=>?_⟩
 ·obtain ⟨v,q⟩:=I.cell x c e
  exact absurd (zJ q.lt (by rw [z];exact hb)) (yX _)
 ·exact absurd (zJ (yJ (I.pin p hp).1) (by rw [z];exact hb)) (yX _)
structure jk (P:Program) (w:World) (K:Frag) (tg:Expr) (J:It) (fp:List Addr) (it:Addr) (tn:Nat->Heap->Prop):Prop where
 mem:it ∈ fp
 obj:∀ i h,tn i h->∀ b ∈ fp,∃ o,h.get? b=some o/\∀ v,o.data ≠ .cell v
 keep:∀ i h h',tn i h->(∀ b ∈ fp,∀ o,h.get? b=some o->h'.get? b=some o)->tn i h'
 item:∀ (X:Cx),X.prog=P->X.w=w->X.K=K->X.calm=true->∀ (i:Nat) (Lu:List (Addr × Obj)) (s:Shared) (σ:St) (H:Hp) (E:Value->Shared->Prop),Inv X Lu σ H s->(∀ b ∈ fp,dl X Lu H b)->tn i s.heap->J.go i H ->
  wpAny (model P w) X.A (pyNext (.ref it)) (fun r s1=>∃ u,r=some u /\
   wpAny (model P w) X.A (letOwnedTupleGo tg (.ref it) u) (fun _ s2=>∃ x H',Inv X Lu σ H' s2/\RelV x u/\J.yld i H x H'/\tn (i + 1) s2.heap/\∀ b ∈ fp,H' b=none) E s1) E s
 done:∀ (X:Cx),X.prog=P->X.w=w->X.K=K->X.calm=true->∀ (i:Nat) (Lu:List (Addr × Obj)) (s:Shared) (σ:St) (H:Hp) (E:Value->Shared->Prop),Inv X Lu σ H s->(∀ b ∈ fp,dl X Lu H b)->tn i s.heap->J.stop i H ->
  wpAny (model P w) X.A (pyNext (.ref it)) (fun r s1=>r=none/\Inv X Lu σ H s1) E s
 self:∀ (A:Around) (i:Nat) (s:Shared) (Q:Value->Shared->Prop) (E:Value->Shared->Prop),tn i s.heap->Q (.ref it) s->wpAny (model P w) A (pyIter (.ref it)) Q E s
abbrev TI:=St->Hp->(It->Hp->Prop)->Prop
def Fy (X:Cx) (Lu:List (Addr × Obj)) (σ:St) (tg:Expr) (R:It->Hp->Prop) (itv:Value) (s2:Shared):Prop :=
 ∃ (it:Addr) (fp:List Addr) (tn:Nat->Heap->Prop) (J:It) (H':Hp),itv=.ref it/\Inv X Lu σ H' s2/\jk X.prog X.w X.K tg J fp it tn/\tn 0 s2.heap/\(∀ b ∈ fp,dl X Lu H' b)/\R J H'
def PI (X:Cx) (tg iter:Expr) (wi:TI):Prop :=
 ∀ (Lu:List (Addr × Obj)) (s:Shared) (σ:St) (H:Hp) (R:It->Hp->Prop),Inv X Lu σ H s->wi σ H R ->
  wpAny (model X.prog X.w) X.A (eval iter X.env) (fun v s1=>wpAny (model X.prog X.w) X.A (pyIter v) (Fy X Lu σ tg R) X.xe s1) X.xe s
theorem nh {M:Model}{A:Around}{E:Value->Shared->Prop}{s:Shared}{tg:Expr}{it:Addr}{u:Value}{o:Obj}{n:String}{vs:Array Value}{Q:Unit->Shared->Prop} (ho:s.heap.get? it=some o) (hc:o.cls=.type n) (hd:o.data=.fields vs)
  (hn:["enumerate","zip","dict_itemiterator","dict_reverseitemiterator","odict_iterator","itertools.zip_longest","itertools.pairwise"].contains n=false) (hQ:Q () s):wpAny M A (letOwnedTupleGo tg (.ref it) u) Q E s:=by
 unfold letOwnedTupleGo;cases tg <;> first
  | exact yG hQ
  | (cases u <;> first
    | exact yG hQ
    | (refine yF (wpAny_load ho ?_)
       rw [hc,hd];show wpAny M A (if (["enumerate","zip","dict_itemiterator","dict_reverseitemiterator","odict_iterator","itertools.zip_longest","itertools.pairwise"].contains n && vs[0]? == some (rawInt _))=true then _ else _) Q E s;rw [yH (by intro h;rw [hn,Bool.false_and] at h;cases h)];exact yG hQ))
noncomputable def AI (K:Frag) (a:Addr):It :=
 ⟨fun i H=>∃ xs x,aP K H a xs/\xs[i]?=some x,fun i H x H'=>H'=H/\∀ xs,aP K H a xs->xs[i]?=some x,fun i H=>∃ xs,aP K H a xs/\xs.length <= i⟩
noncomputable def AG (K:Frag) (a:Addr):It :=
 ⟨fun i H=>∃ xs x,fU K H a xs/\xs[i]?=some x,fun i H x H'=>H'=H/\∀ xs,fU K H a xs->xs[i]?=some x,fun i H=>∃ xs,fU K H a xs/\xs.length <= i⟩
noncomputable def wQ (lo:Int) (n:Nat):It:=⟨fun i _=>i < n,fun i H x H'=>H'=H/\x=.int (lo + i),fun i _=>n <= i⟩
theorem u5 {P:Program}{w:World}{K:Frag}{tg:Expr} (a it:Addr):jk P w K tg (AI K a) [it] it (fun i h=>h.IsListIter it a i) where
 mem:=by simp
 obj:=fun i h st b hb=>by
  have e:b=it:=by simpa using hb
  subst e;obtain ⟨o,e,c,d⟩:=st;exact ⟨o,e,fun v z=>by rw [d] at z;cases z⟩
 keep:=fun i h h' st k=>st.at fun o e=>k it (by simp) o e
 item:=by
  intro X hP hw hK hc i Lu s σ H E I hf st hg;subst hP hw hK;obtain ⟨xs,x,hq,hx⟩:=hg;obtain ⟨Lx,rv,p,hz⟩:=I.list hq;obtain ⟨u,hu,ru⟩:=rv.get hx;obtain ⟨f0,f1,f2,f3,f4,f5⟩:=hf it (by simp);refine wpAny_pyNext_list_item st p.isList (x:=u) (by simpa using hu) fun h' st' sb=>?_
  have I1:Inv X Lu σ H { s with heap:=h' }:=I.turned (t':=s.toks) (fun b o hb e=>(sb.2 b hb).trans e) f0 f1 f3 f4 f5;obtain ⟨o,e,c,d⟩:=id st';exact ⟨u,rfl,nh (s:={ s with heap:=h' }) e c d dC ⟨x,H,I1,ru,⟨rfl,fun ys hy=>by rw [I.list_inj hy hq];exact hx⟩,st',fun b hb=>(hf b hb).1⟩⟩
 done:=by
  intro X hP hw hK hc i Lu s σ H E I hf st hg;subst hP hw hK;obtain ⟨xs,hq,hx⟩:=hg;obtain ⟨Lx,rv,p,hz⟩:=I.list hq;obtain ⟨f0,f1,f2,f3,f4,f5⟩:=hf it (by simp);have hl:=rv.length;exact wpAny_pyNext_list_end (I.ok.hd hc) st p.isList (by simp;omega) fun h' eb=>⟨rfl,I.turned (t':=s.toks) (fun b o hb e=>eb b o hb e) f0 f1 f3 f4 f5⟩
 self:=fun _ _ _ _ _ st h=>wpAny_pyIter_listiter st h
theorem tK {P:Program}{w:World}{K:Frag}{tg:Expr} (a it:Addr):jk P w K tg (AG K a) [it] it (fun i h=>h.IsTupleIter it a i) where
 mem:=by simp
 obj:=fun i h st b hb=>by
  have e:b=it:=by simpa using hb
  subst e;obtain ⟨o,e,c,d⟩:=st;exact ⟨o,e,fun v z=>by rw [d] at z;cases z⟩
 keep:=fun i h h' st k=>st.at fun o e=>k it (by simp) o e
 item:=by
  intro X hP hw hK hc i Lu s σ H E I hf st hg;subst hP hw hK;obtain ⟨xs,x,hq,hx⟩:=hg;obtain ⟨Lx,rv,p,hz⟩:=I.tuple hq;obtain ⟨u,hu,ru⟩:=rv.get hx;obtain ⟨f0,f1,f2,f3,f4,f5⟩:=hf it (by simp);refine wpAny_pyNext_tuple_item st (show s.heap.IsTuple a Lx.toArray from p) (x:=u) (by simpa using hu) fun h' st' sb=>?_
  have I1:Inv X Lu σ H { s with heap:=h' }:=I.turned (t':=s.toks) (fun b o hb e=>(sb.2 b hb).trans e) f0 f1 f3 f4 f5;obtain ⟨o,e,c,d⟩:=id st';exact ⟨u,rfl,nh (s:={ s with heap:=h' }) e c d dC ⟨x,H,I1,ru,⟨rfl,fun ys hy=>by rw [I.tuple_inj hy hq];exact hx⟩,st',fun b hb=>(hf b hb).1⟩⟩
 done:=by
  intro X hP hw hK hc i Lu s σ H E I hf st hg;subst hP hw hK;obtain ⟨xs,hq,hx⟩:=hg;obtain ⟨Lx,rv,p,hz⟩:=I.tuple hq;obtain ⟨f0,f1,f2,f3,f4,f5⟩:=hf it (by simp);have hl:=rv.length;exact wpAny_pyNext_tuple_end (I.ok.hd hc) st (show s.heap.IsTuple a Lx.toArray from p) (by simp;omega) fun h' eb=>⟨rfl,I.turned (t':=s.toks) (fun b o hb e=>eb b o hb e) f0 f1 f3 f4 f5⟩
 self:=fun _ _ _ _ _ st h=>wpAny_pyIter_tupleiter st h
theorem tL {P:Program}{w:World}{K:Frag}{tg:Expr} (it:Addr) (lo:Int) (n:Nat):jk P w K tg (wQ lo n) [it] it (fun i h=>IsRangeIter h it (lo + (i:Nat) * 1) ((n:Int) - (i:Nat)) 1) where
 mem:=by simp
 obj:=fun i h st b hb=>by
  have e:b=it:=by simpa using hb
  subst e;exact ⟨_,st,fun v z=>by
   have z':Data.fields _=Data.cell v:=z;cases z'⟩
 keep:=fun i h h' st k=>k it (by simp) _ st
 item:=by
  intro X hP hw hK hc i Lu s σ H E I hf st hg;subst hP hw hK;obtain ⟨f0,f1,f2,f3,f4,f5⟩:=hf it (by simp);have W:=Walks.range (prog:=X.prog) (w:=X.w) (I.ok.hd hc) it lo 1 n;refine W.item i s _ _ hg st fun v h' tk hv st' kk=>?_
  obtain ⟨t,rfl⟩:=hv;have I1:Inv X Lu σ H { s with heap:=h',toks:=tk }:=I.turned (fun b o hb e=>kk b o (by simpa using hb) e) f0 f1 f3 f4 f5;refine ⟨_,rfl,nh (s:={ s with heap:=h',toks:=tk }) (n:="range_iterator") st' rfl rfl dC ⟨.int (lo + i),H,I1,⟨t,?_⟩,⟨rfl,rfl⟩,st',fun b hb=>(hf b hb).1⟩⟩;rw [Int.mul_one]
 done:=by
  intro X hP hw hK hc i Lu s σ H E I hf st hg;subst hP hw hK;obtain ⟨f0,f1,f2,f3,f4,f5⟩:=hf it (by simp);exact wpAny_pyNext_range_end (I.ok.hd hc) st (by have:n <= i:=hg;omega) fun h' eb=>⟨rfl,I.turned (t':=s.toks) (fun b o hb e=>eb b o hb e) f0 f1 f3 f4 f5⟩
 self:=fun _ _ _ _ _ st h=>wpAny_pyIter_rangeiter st h
section
variable {X:Cx}{tg:Expr}
theorem qa {Lu:List (Addr × Obj)}{σ:St}{H:Hp}{s:Shared}{R:It->Hp->Prop}{E:Value->Shared->Prop}{lo hi:Int}{t u v:Tok}{tk:Nat} (I:Inv X Lu σ H s) (h1:-(2 ^ 62) <= lo) (h2:lo < 2 ^ 62) (h3:-(2 ^ 62) <= hi) (h4:hi < 2 ^ 62)
  (q:R (wQ lo (hi - lo).toNat) H):wpAny (model X.prog X.w) X.A (pyIter (.ref s.heap.objs.size)) (Fy X Lu σ tg R) E { s with heap:=s.heap.push { cls:=.type "range",data:=.fields #[.int lo t,.int hi u,.int 1 v] },toks:=tk }:=by
 refine wpAny_pyIter_range (IsRange.new ..) (small_one h1 h2 h3 h4) ?_;have I1:Inv X Lu σ H { s with heap:=s.heap.push { cls:=.type "range",data:=.fields #[.int lo t,.int hi u,.int 1 v] },toks:=tk }:=I.kept fun b o e=>zG _ e
 refine ⟨(s.heap.push { cls:=.type "range",data:=.fields #[.int lo t,.int hi u,.int 1 v] }).objs.size,[(s.heap.push { cls:=.type "range",data:=.fields #[.int lo t,.int hi u,.int 1 v] }).objs.size],_,_,H,rfl,
  I1.kept (t':=tk) fun b o e=>zG _ e,tL _ lo (hi - lo).toNat,?_,fun b hb=>?_,q⟩
 ·have e1:lo + ((0:Nat):Int) * 1=lo:=by simp
  have e2:(((hi - lo).toNat:Nat):Int) - ((0:Nat):Int)=Builtin.Range.rangeSize lo hi 1:=by rw [rangeSize_one];split <;> omega
  show IsRangeIter _ _ (lo + ((0:Nat):Int) * 1) ((((hi - lo).toNat:Nat):Int) - ((0:Nat):Int)) 1;rw [e1,e2];exact zY _ rfl
 ·have e:b=(s.heap.push { cls:=.type "range",data:=.fields #[.int lo t,.int hi u,.int 1 v] }).objs.size:=by simpa using hb
  subst e;exact I1.fpOk (zP _) (I1.LA.fresh (zP _))
def GV (ta:TA):TI:=fun σ H R=>ta σ H fun vs H1=>∃ j:Int,vs=[.int j]/\-(2 ^ 62) <= j/\j < 2 ^ 62/\R (wQ 0 j.toNat) H1
def GU (ta:TA):TI:=fun σ H R=>ta σ H fun vs H1=>∃ i j:Int,vs=[.int i,.int j]/\(-(2 ^ 62) <= i/\i < 2 ^ 62/\-(2 ^ 62) <= j/\j < 2 ^ 62)/\R (wQ i (j - i).toNat) H1
theorem vD {a:Expr}{ta:TA}{p pos:Pos} (hg:Gl X "range") (hm:X.mg "range"=none) (ha:PA X [a] ta) (hs:starEach [a] X.env=[(false,eval a X.env)]:=by rfl):PI X tg (.Call (.Name "range" p) [a] [] pos) (GV ta):=by
 intro Lu s σ H R I h;refine Call_ (cV I hg hm boot_range (PyProof.Rows.callWith_type1 (aA (ha pos Lu s σ H _ I h) fun us s1 hq0=>?_) hs rfl));obtain ⟨vs,H1,I1,r1,q1⟩:=hq0;obtain ⟨j,e,q1,q2,q⟩:=q1;subst e;cases r1 with
 | cons r rr =>
  cases rr;obtain ⟨t,rfl⟩:=r;exact call_range_1 (qa I1 oM oM q1 q2 (by simpa using q))
theorem vC {a b:Expr}{ta:TA}{p pos:Pos} (hg:Gl X "range") (hm:X.mg "range"=none) (ha:PA X [a,b] ta) (hs:starEach [a,b] X.env=[(false,eval a X.env),(false,eval b X.env)]:=by rfl) (hs2:starEach [b] X.env=[(false,eval b X.env)]:=by rfl) :
  PI X tg (.Call (.Name "range" p) [a,b] [] pos) (GU ta):=by
 intro Lu s σ H R I h;refine Call_ (cV I hg hm boot_range (PyProof.Rows.callWith_type1 (aA (ha pos Lu s σ H _ I h) fun us s1 ⟨vs,H1,I1,r1,q1⟩=>?_) (by rw [hs,hs2]) (by rw [hs2];rfl)));obtain ⟨i,j,e,⟨q1,q2,q3,q4⟩,q⟩:=q1;subst e;cases r1 with
 | cons r rr =>
  cases rr with
  | cons r' rr =>
   cases rr;obtain ⟨t,rfl⟩:=r;obtain ⟨t',rfl⟩:=r';exact call_range_2 (qa I1 q1 q2 q3 q4 q)
def Jb (wi:TI) (g:TG) (tb:TS):TS:=fun D σ H=>wi σ H fun J H1=>∃ W:Nat->Nat->St->Hp->Prop,(∃ m,W 0 m σ H1)/\∀ i m σ H,W i m σ H ->
 (J.stop i H/\D.nx σ H)\/(J.go i H/\∃ N:St->Hp->Prop,(∀ σ' H',N σ' H'->∃ m',m' < m/\W (i + 1) m' σ' H')/\∀ x H',J.yld i H x H'->g x σ H' fun σ2 H2=>tb { D with nx:=N,ct:=N,bk:=D.nx } σ2 H2)
noncomputable def fB (fp:List Addr) (h:Heap):List (Addr × Obj):=fp.filterMap fun b=>(h.get? b).map fun o=>(b,o)
theorem c7 {fp:List Addr}{h:Heap}{b:Addr}{o:Obj} (hb:b ∈ fp) (e:h.get? b=some o):(b,o) ∈ fB fp h:=List.mem_filterMap.mpr ⟨b,hb,by rw [e];rfl⟩
theorem vL {fp:List Addr}{h:Heap}{p:Addr × Obj} (hp:p ∈ fB fp h):p.1 ∈ fp/\h.get? p.1=some p.2:=by
 obtain ⟨b,hb,e⟩:=List.mem_filterMap.mp hp;cases q:h.get? b with
 | none=>rw [q] at e;cases e
 | some o =>
  rw [q] at e;have e':(b,o)=p:=yE e;subst e';exact ⟨hb,q⟩
theorem Inv.pinned {Lu:List (Addr × Obj)}{σ:St}{H:Hp}{s:Shared}{fp:List Addr} (I:Inv X Lu σ H s) (hf:∀ b ∈ fp,dl X Lu H b) (ho:∀ b ∈ fp,∃ o,s.heap.get? b=some o/\∀ v,o.data ≠ .cell v):Inv X (Lu++fB fp s.heap) σ H s :=
 I.pins_of fun p hp=>(zZ.mp hp).elim (fun z=>I.pin p (zK _ z)) fun z=>by
  obtain ⟨hb,e⟩:=vL z;obtain ⟨f0,f1,f2,_⟩:=hf p.1 hb;obtain ⟨o,e',d⟩:=ho p.1 hb;rw [e] at e';cases e';exact ⟨e,f0,f1,f2,d⟩
theorem Inv.unpinned {Lu pl:List (Addr × Obj)}{σ:St}{H:Hp}{s:Shared} (I:Inv X (Lu++pl) σ H s):Inv X Lu σ H s:=I.pins_of fun p hp=>I.pin p (zK _ (zL _ hp))
theorem vx {iter:Expr}{body:List Stmt}{wi:TI}{g:TG}{tb:TS}{pos:Pos} (hp:PassesOwn (model X.prog X.w) X.A X.env X.xe) (hc:X.calm=true) (hi:PI X tg iter wi) (hg:PG X tg g) (hb:PSs X body tb)
  (hs:∀ x,foldedSetIterable iter X.env x=pure x:=by intro _;rfl):PS X (.For tg iter body [] pos) (Jb wi g tb):=by
 intro Lu s σ H D I h;refine wpAny_For (aA (hi Lu s σ H _ I h) fun v s1 h1=>aA h1 fun itv s2 h2=>?_) hs;obtain ⟨it,fp,tn,J,H2,e,I2,T,st2,f2,W,⟨m0,w0⟩,turn⟩:=h2;subst e
 -- what stays true of the iterator's objects through the loop
 have stat:∀ {H':Hp},(∀ b ∈ fp,H' b=none)->∀ b ∈ fp,dl X Lu H' b:=fun hn b hb=>⟨hn b hb,(f2 b hb).2⟩
 refine codeAny_forLoop_any (fun n s'=>∃ i σ' H',Inv X Lu σ' H' s'/\tn i s'.heap/\(∀ b ∈ fp,H' b=none)/\W i n σ' H') ?_ m0 ⟨0,σ,H2,I2,st2,fun b hb=>(f2 b hb).1,w0⟩;rintro n s3 ⟨i,σ3,H3,I3,st3,fr3,w3⟩;rcases turn i n σ3 H3 w3 with ⟨stop,qn⟩ | ⟨go,N,hN,step⟩
 ·refine wpAny_passesOwn hp (aA (T.done X rfl rfl rfl hc i Lu s3 σ3 H3 X.xe I3 (stat fr3) st3 stop) fun r s4 hq0=>?_)
  obtain ⟨hr,I4⟩:=hq0;subst hr;exact wpAny_execs_nil ⟨σ3,H3,I4,qn⟩
 ·refine wpAny_passesOwn hp (aA (T.item X rfl rfl rfl hc i Lu s3 σ3 H3 X.xe I3 (stat fr3) st3 go) fun r s4 hq0=>?_)
  obtain ⟨u,hr,h4⟩:=hq0;subst hr;refine wpAny_passesOwn hp (aA h4 fun _ s5 hq0=>?_);obtain ⟨x,H5,I5,r5,y5,st5,fr5⟩:=hq0;have I5':=I5.pinned (stat fr5) (T.obj _ _ st5);refine wpAny_passesOwn hp (aA (hg _ s5 σ3 H5 x u _ I5' r5 (step x H5 y5)) fun _ s6 hq0=>?_);obtain ⟨σ6,H6,I6,q6⟩:=hq0;refine wpAny_passesOwn hp (aA (hb _ s6 σ6 H6 _ I6 q6) fun f s7 q7=>?_);have again:∀ {σ7:St}{H7:Hp},Inv X (Lu++fB fp s5.heap) σ7 H7 s7->N σ7 H7->∃ m,m < n/\∃ i σ' H',Inv X Lu σ' H' s7/\tn i s7.heap/\(∀ b ∈ fp,H' b=none)/\W i m σ' H':=fun {σ7 H7} I7 n7=>by
   obtain ⟨m',hm,w7⟩:=hN σ7 H7 n7;refine ⟨m',hm,i + 1,σ7,H7,I7.unpinned,T.keep _ _ _ st5 fun b hb o e=>(I7.pin (b,o) (zK _ (zK _ (c7 hb e)))).1,fun b hb=>?_,w7⟩;obtain ⟨o,e,d⟩:=T.obj _ _ st5 b hb;exact (I7.pin (b,o) (zK _ (zK _ (c7 hb e)))).2.1
  cases f with
  | next=>obtain ⟨σ7,H7,I7,n7⟩:=q7;exact again I7 n7
  | cont=>obtain ⟨σ7,H7,I7,n7⟩:=q7;exact again I7 n7
  | brk=>obtain ⟨σ7,H7,I7,q7⟩:=q7;exact ⟨σ7,H7,I7.unpinned,q7⟩
  | ret v=>obtain ⟨x7,σ7,H7,I7,r7,q7⟩:=q7;exact ⟨x7,σ7,H7,I7.unpinned,r7,q7⟩
end
abbrev R2:=V->V->Hp->VK->Prop
def lq (X:Cx) (f:Value->Value->Sem Value) (r:R2):Prop :=
 ∀ (Lu:List (Addr × Obj)) (s:Shared) (σ:St) (H:Hp) (x y:V) (v u:Value) (Q:VK),Inv X Lu σ H s->RelV x v->RelV y u->r x y H Q ->
  wpAny (model X.prog X.w) X.A (f v u) (EP X Lu σ Q) X.xe s
def wM (X:Cx) (f:Value->Sem Value) (r:V->Hp->VK->Prop):Prop :=
 ∀ (Lu:List (Addr × Obj)) (s:Shared) (σ:St) (H:Hp) (x:V) (v:Value) (Q:VK),Inv X Lu σ H s->RelV x v->r x H Q ->
  wpAny (model X.prog X.w) X.A (f v) (EP X Lu σ Q) X.xe s
def cb (X:Cx) (f:Value) (r:List V->Hp->VK->Prop):Prop :=
 ∀ (Lu:List (Addr × Obj)) (s:Shared) (σ:St) (H:Hp) (xs:List V) (us:List Value) (Q:VK),Inv X Lu σ H s->Vals xs us->r xs H Q ->
  wpAny (model X.prog X.w) X.A (call f us) (EP X Lu σ Q) X.xe s
def J1 (X:Cx) (r:V->Hp->(Bool->Hp->Prop)->Prop):Prop :=
 ∀ (Lu:List (Addr × Obj)) (s:Shared) (σ:St) (H:Hp) (x:V) (v:Value) (Q:Bool->Hp->Prop),Inv X Lu σ H s->RelV x v->r x H Q ->
  wpAny (model X.prog X.w) X.A (truthy v) (TP X Lu σ Q) X.xe s
noncomputable def vc (r:R2) (ta tb:TE):TE:=fun σ H Q=>ta σ H fun x H1=>tb σ H1 fun y H2=>r x y H2 Q
def HI (r:V->Hp->VK->Prop) (ta:TE):TE:=fun σ H Q=>ta σ H fun x H1=>r x H1 Q
def rU (g:Int->V):V->Hp->VK->Prop:=fun x H Q=>∃ i,x=.int i/\Q (g i) H
section
variable {X:Cx}{a b c:Expr}{ta tb tc:TE}{pos:Pos}
theorem y8 (ha:PE X a ta) (hb:PE X b tb) {Lu:List (Addr × Obj)}{s:Shared}{σ:St}{H:Hp}{R:V->V->Hp->Prop} (I:Inv X Lu σ H s)
  (h:ta σ H fun x H1=>tb σ H1 fun y H2=>R x y H2) {Q:Value->Shared->Prop}{f:Value->Value->Sem Value}
  (hf:∀ v u s2 x y H2,Inv X Lu σ H2 s2->RelV x v->RelV y u->R x y H2->wpAny (model X.prog X.w) X.A (f v u) Q X.xe s2) :
  wpAny (model X.prog X.w) X.A (eval a X.env) (fun v s₁=>wpAny (model X.prog X.w) X.A (eval b X.env) (fun u s₂=>wpAny (model X.prog X.w) X.A (f v u) Q X.xe s₂) X.xe s₁) X.xe s:=by
 refine aA (ha Lu s σ H _ I h) fun v s1 hq0=>?_
 obtain ⟨x,H1,I1,r1,q1⟩:=hq0;refine aA (hb Lu s1 σ H1 _ I1 q1) fun u s2 hq0=>?_
 obtain ⟨y,H2,I2,r2,q2⟩:=hq0;exact hf v u s2 x y H2 I2 r1 r2 q2
theorem tW {op:Operator}{r:R2} (ho:lq X (binaryOp op) r) (ha:PE X a ta) (hb:PE X b tb):PE X (.BinOp a op b pos) (vc r ta tb):=by
 intro Lu s σ H Q I h;exact wpAny_BinOp (y8 ha hb I h fun v u s2 x y H2 I2 rx ry q=>ho Lu s2 σ H2 x y v u Q I2 rx ry q)
theorem Gr {op:UnaryOp}{r:V->Hp->VK->Prop} (ho:wM X (unaryOp op) r) (ha:PE X a ta):PE X (.UnaryOp op a pos) (HI r ta):=by
 intro Lu s σ H Q I h;exact UnaryOp_ (aA (ha Lu s σ H _ I h) fun v s1 ⟨x,H1,I1,r1,q1⟩=>ho Lu s1 σ H1 x v Q I1 r1 q1)
def J5 (i j:Int):Prop:=0 <= j/\j <= 1000000/\i.natAbs < 2 ^ 64
theorem tJ (k:Nat):(0:Int) <= 2 ^ k:=by
 rw [two_pow_cast];exact Int.natCast_nonneg _
theorem HG {f:Value->Sem Value}{g:Int->Int}
  (rule:∀ (i:Int) (t:Tok) (s:Shared) (Q:Value->Shared->Prop) (E:Value->Shared->Prop),Q (.int (g i) s.toks) { s with toks:=s.toks + 1 }->wpAny (model X.prog X.w) X.A (f (.int i t)) Q E s) :
  wM X f (rU fun i=>.int (g i)):=by
 intro Lu s σ H x v Q I rx h;obtain ⟨i,rfl,q⟩:=h;obtain ⟨t,rfl⟩:=rx;exact rule i t s _ _ ⟨.int (g i),H,I.tok _,⟨_,rfl⟩,q⟩
theorem Cz:wM X (unaryOp .USub) (rU fun i=>.int (-i)):=HG fun _ _ _ _ _ q=>neg_int q
theorem CA:wM X (unaryOp .Invert) (rU fun i=>.int (Builtin.bitNot i)):=HG fun _ _ _ _ _ q=>invert_int q
end
section
variable {X:Cx}{a b c:Expr}{ta tb tc:TE}{pos:Pos}
theorem BE {op:CmpOp}{r:R2} (ho:lq X (compareOp op) r) (ha:PE X a ta) (hb:PE X b tb) (hm:behindInMarks op b=false):PE X (.Compare a [op] [b] pos) (vc r ta tb):=by
 intro Lu s σ H Q I h;exact wpAny_Compare1 (y8 ha hb I h fun v u s2 x y H2 I2 rx ry q=>ho Lu s2 σ H2 x y v u Q I2 rx ry q) hm
noncomputable def FT (t:TE):TT:=fun σ H Q=>t σ H fun x H'=>∃ k,x=.bl k/\Q k H'
theorem Bm {op:CmpOp}{r:R2} (ho:lq X (compareOp op) r) (ha:PE X a ta) (hb:PE X b tb) (hm:behindInMarks op b=false):PT X (.Compare a [op] [b] pos) (FT (vc r ta tb)):=by
 intro Lu s σ H Q I h;refine wpAny_isTrue_Compare1 (aA (ha Lu s σ H _ I h) fun v s1 ⟨x,H1,I1,r1,q1⟩=>aA (hb Lu s1 σ H1 _ I1 q1) fun u s2 ⟨y,H2,I2,r2,q2⟩ =>
  aA (ho Lu s2 σ H2 x y v u _ I2 r1 r2 q2) fun c s3 ⟨z,H3,I3,r3,k,e,q3⟩=>?_) hm
 subst e;cases r3;exact wpAny_truthy_bool ⟨H3,I3,q3⟩
def zb (K:Frag) (x:V) (H:Hp) (k:Bool):Prop :=
 match x with
 | .non=>k=false
 | .bl b=>k=b
 | .int i=>k=(i != 0)
 | .str y=>y.length <= sizeLine/\k=((y.length:Int) != 0)
 | .byt y=>y.size <= sizeLine/\k=((y.size:Int) != 0)
 | .ref p=>(∃ xs,aP K H p xs/\k=!xs.isEmpty)\/(∃ xs,fU K H p xs/\k=!xs.isEmpty)\/∃ Lv,H p=some (.dK Lv)/\k=!Lv.isEmpty
 | _=>False
theorem uy {κ:Type}{Lv:List (κ × V)}{vs:List (κ × Value)} (r:KV Lv vs):(!vs.isEmpty)=!Lv.isEmpty:=by
 cases r <;> rfl
theorem m8 {xs:List V}{Lx:List Value} (r:Vals xs Lx):(!Lx.toArray.isEmpty)=!xs.isEmpty:=by
 cases r <;> simp
theorem gB:(sizeLine:Nat) < 2 ^ 63:=by rw [sizeLine_eq];decide
theorem CD:J1 X (fun x H Q=>∃ k,zb X.K x H k/\Q k H):=by
 intro Lu s σ H x v Q I rx h;obtain ⟨k,e,q⟩:=h;have hl:=gB;have hs:sizeLine=16777216:=sizeLine_eq;cases x with
 | non =>
  cases rx;have e':k=false:=e;subst e';exact truthy_none ⟨H,I,q⟩
 | bl b =>
  cases rx;have e':k=b:=e;subst e';exact wpAny_truthy_bool ⟨H,I,q⟩
 | int i =>
  obtain ⟨t,rfl⟩:=rx;have e':k=(i != 0):=e;subst e';exact PySem.P.truthy_int ⟨H,I,q⟩
 | str y =>
  obtain ⟨t,rfl⟩:=rx;obtain ⟨hy,e'⟩:y.length <= sizeLine/\k=((y.length:Int) != 0):=e;subst e';exact PySem.P.truthy_str oM ⟨H,I.tok _,q⟩
 | byt y =>
  obtain ⟨t,rfl⟩:=rx;obtain ⟨hy,e'⟩:y.size <= sizeLine/\k=((y.size:Int) != 0):=e;subst e';exact truthy_bytes oM ⟨H,I.tok _,q⟩
 | ref p =>
  cases rx;have e':(∃ xs,aP X.K H p xs/\k=!xs.isEmpty)\/(∃ xs,fU X.K H p xs/\k=!xs.isEmpty)\/∃ Lv,H p=some (.dK Lv)/\k=!Lv.isEmpty:=e;rcases e' with ⟨xs,hx,e'⟩ | ⟨xs,hx,e'⟩ | ⟨Lv,hx,e'⟩
  ·subst e'
   obtain ⟨Lx,r,pl,hz⟩:=I.list hx;have hlen:=r.length;exact wpAny_truthy_list pl.isList (by simp only [zI];omega) ⟨H,I.tok _,by rw [m8 r];exact q⟩
  ·subst e'
   obtain ⟨Lx,r,pl,hz⟩:=I.tuple hx;have hlen:=r.length;exact truthy_tuple pl (by simp only [zI];omega) ⟨H,I.tok _,by rw [m8 r];exact q⟩
  ·subst e'
   obtain ⟨hz,hS,vs,r,m⟩:Lv.length <= sizeLine/\(p == sysModules)=false/\∃ vs,KV Lv vs/\s.heap.DictOf (bQ X.prog X.w) p vs:=I.LA p _ hx;have hlen:Lv.length=vs.length:=Paired.length r;exact wpAny_truthy_dict hS m oM ⟨H,I.tok _,by rw [uy r];exact q⟩
 | _=>exact (show False from e).elim
theorem xx (ha:PE X a ta) (he:∀ whole,isTrue a X.env whole=(do let v <- whole;standAt a.pos;holding [v] (truthy v))) :
  PT X a (fun σ H Q=>ta σ H fun x H'=>∃ k,zb X.K x H' k/\Q k H'):=by
 intro Lu s σ H Q I h;exact isTrue_plain (aA (ha Lu s σ H _ I h) fun v s1 ⟨x,H1,I1,r1,q1⟩=>CD Lu s1 σ H1 x v Q I1 r1 q1) (he _)
theorem tX:lq X (binaryOp .Add) (fun x y H Q=>∃ i j,x=.str i/\y=.str j/\i.length + j.length <= sizeLine/\Q (.str (i++j)) H):=by
 intro Lu s σ H x y v u Q I rx ry h;obtain ⟨i,j,rfl,rfl,hz,q⟩:=h;obtain ⟨t,rfl⟩:=rx;obtain ⟨t',rfl⟩:=ry;exact add_str (fun t' tk=>⟨.str (i++j),H,I.tok _,⟨_,rfl⟩,q⟩) hz
theorem dL {x:V}{us:List Value} (r:Vals [x] us):∃ u,us=[u]/\RelV x u:=by
 cases r with
 | cons r1 r2=>cases r2;exact ⟨_,rfl,r1⟩
theorem tF {x y:V}{us:List Value} (r:Vals [x,y] us):∃ u w',us=[u,w']/\RelV x u/\RelV y w':=by
 cases r with
 | cons r1 r2 =>
  cases r2 with
  | cons r3 r4=>cases r4;exact ⟨_,_,rfl,r1,r3⟩
theorem yZ:cb X (.builtin "abs") (fun xs H Q=>∃ i,xs=[.int i]/\Q (.int (if i < 0 then -i else i)) H):=by
 intro Lu s σ H xs us Q I r h;obtain ⟨i,rfl,q⟩:=h;obtain ⟨u,rfl,t,rfl⟩:=dL r;exact call_abs_int fun u tk=>⟨.int (if i < 0 then -i else i),H,I.tok _,⟨_,rfl⟩,q⟩
theorem wB (hc:X.calm=true):cb X (.builtin "max") (fun xs H Q=>∃ i j,xs=[.int i,.int j]/\Q (.int (if j > i then j else i)) H):=by
 intro Lu s σ H xs us Q I r h;obtain ⟨i,j,rfl,q⟩:=h;obtain ⟨u,w',rfl,⟨t,rfl⟩,⟨t',rfl⟩⟩:=tF r;refine max_two_ints (I.ok.hd hc) fun h' tk k=>⟨_,H,I.kept k,?_,q⟩
 by_cases hj:j > i
 ·rw [yI hj,yI hj];exact ⟨_,rfl⟩
 ·rw [yH hj,yH hj];exact ⟨_,rfl⟩
theorem wA (hc:X.calm=true):cb X (.builtin "min") (fun xs H Q=>∃ i j,xs=[.int i,.int j]/\Q (.int (if j < i then j else i)) H):=by
 intro Lu s σ H xs us Q I r h;obtain ⟨i,j,rfl,q⟩:=h;obtain ⟨u,w',rfl,⟨t,rfl⟩,⟨t',rfl⟩⟩:=tF r;refine min_two_ints (I.ok.hd hc) fun h' tk k=>⟨_,H,I.kept k,?_,q⟩
 by_cases hj:j < i
 ·rw [yI hj,yI hj];exact ⟨_,rfl⟩
 ·rw [yH hj,yH hj];exact ⟨_,rfl⟩
theorem wD:cb X (.type "int") (fun xs H Q=>(∃ i,xs=[.int i]/\Q (.int i) H)\/∃ k,xs=[.bl k]/\Q (.int (if k then 1 else 0)) H):=by
 intro Lu s σ H xs us Q I r h;rcases h with ⟨i,rfl,q⟩ | ⟨k,rfl,q⟩
 ·obtain ⟨u,rfl,t,rfl⟩:=dL r
  exact call_int_int ⟨.int i,H,I,⟨_,rfl⟩,q⟩
 ·obtain ⟨u,rfl,r1⟩:=dL r
  cases r1;exact call_int_bool ⟨.int (if k then 1 else 0),H,I.tok _,⟨_,rfl⟩,q⟩
end
structure ObjM (h:Heap) (x dx C:Addr) (mA:Str->Option Value):Prop where
 obj:h.get? x=some (instObj C dx)
 ns:h.Ns1 dx mA
 ne:dx ≠ x
theorem vY {h:Heap}{dx:Addr}{mA:Str->Option Value} (n:h.Ns1 dx mA):∃ od,h.get? dx=some od/\∀ name,lookIn name od=some (mA name):=by
 obtain ⟨o,es,ep,ho,hd,hk,_,hm⟩:=n;refine ⟨o,ho,fun name=>?_⟩;have e:=hm name;unfold nsFind findBy at e;rw [<- Array.find?_toList] at e;unfold lookIn;rw [hd];dsimp only;split
 ·rename_i y q
  rw [q] at e;exact congrArg some e
 ·rename_i q
  rw [q] at e;have a:es.toList.any (·.refKey)=false:=by
   rw [List.any_eq_false];intro y hy;obtain ⟨z,t,hkey⟩:=hk y (Array.mem_toList_iff.mp hy);simp [DictEntry.refKey,hkey]
  have a':¬ es.toList.any (·.refKey)=true:=by rw [a];exact Bool.false_ne_true
  rw [yH a'];exact congrArg some e
theorem ObjM.look {h:Heap}{x dx C:Addr}{mA:Str->Option Value} (I:ObjM h x dx C mA):∃ od,InstAt h x (instObj C dx) C (some od)/\∀ name,lookIn name od=some (mA name) :=
 let ⟨od,ho,hl⟩:=vY I.ns
 ⟨od,⟨I.obj,rfl,rfl,ho⟩,hl⟩
section
variable {prog:Program}{w:World}{A:Around}{E:Value->Shared->Prop}{s:Shared}{K:Frag}{x dx C f:Addr}{mA:Str->Option Value}{name:Str}{v:Value}
theorem Ce {expr:Bool}{Q:Value->Shared->Prop} (X:K.In s.heap) (I:ObjM s.heap x dx C mA) (hg:plainGet K C name=true) (hh:hasDictIn K C=true)
  (ha:findIn K (.ref C) name=some none) (hv:mA name=some v) (hv':handedIn v=true) (h:Q v { s with toks:=s.toks + 1 }) :
  wpAny (model prog w) A (getAttr (.ref x) name expr) Q E s:=by
 obtain ⟨od,J,hl⟩:=I.look;exact get_value X J (plainGet_of hg).1 (findObj_own hh ha rfl (by rw [hl,hv])) hv' h
theorem yo {pl:Sem Bool}{Q:Value × List Value->Shared->Prop} (X:K.In s.heap) (I:ObjM s.heap x dx C mA) (hg:plainGet K C name=true)
  (hf:findIn K (.ref C) name=some (some (.ref f))) (ht:isFn K (.ref f)=true) (hv:mA name=none) (h:Q (.ref f,[.ref x]) s) :
  wpAny (model prog w) A (getMethod (.ref x) name pl) Q E s:=by
 obtain ⟨od,J,hl⟩:=I.look;exact method_fn X J (plainGet_of hg).1 (plainGet_of hg).2 hf (beq_iff_eq.mp ht) (by show (lookIn name od).map (·.isSome)=some false;rw [hl,hv];rfl) h
theorem AY {ns:List Str}{Q:Unit->Shared->Prop} (X:K.In s.heap) (I:ObjM s.heap x dx C mA)
  (hs:findIn K (.ref C) "__setattr__"=some (some (.builtin "object.__setattr__"))) (hp:plainOver K C=true) (ht:takerIn K C name=some none) (hh:hasDictIn K C=true)
  (hw:PySem.Within mA ns) (hsz:ns.length <= sizeLine)
  (h:∀ h',ObjM h' x dx C (fun y=>if y=name then some v else mA y)->Heap.SameBut dx s.heap h'->Q () { s with heap:=h',toks:=s.toks + 2 }) :
  wpAny (model prog w) A (setAttr (.ref x) name v) Q E s:=by
 obtain ⟨od,J,hl⟩:=I.look;refine set_plain X J hs (osa_open (s:={ s with toks:=s.toks + 1 }) (r:=none) X J hp ht fun b=>?_);obtain ⟨cd,hc,hd'⟩:=any_some hh;have hx:s.heap.get? x=some ⟨.ref C,some dx,.plain,#[]⟩:=I.obj;refine yF (yG (yF (yF (wpAny_loadPart hx (yF (PySem.W.Looks.here (s:={ s with toks:=s.toks + 1 }) (looks_clsIn X hc) ?_))))));rw [hd'];refine yG (a:=some dx) (yF (yG (yF ?_)));refine wpAny_nsSet1 (s:={ s with toks:=s.toks + 1 }) I.ns fun h' hn2 hs2=>?_
 obtain ⟨oD,esD,epD,hoD,hdD,hcD⟩:=hn2.count (PySem.Within.cons name v hw);refine yF (wpAny_lookBehind hoD (by rw [hdD];exact pastItsLine_dict (z0 hcD (by rw [yV];omega))) ?_);exact yG (h _ ⟨(hs2.2 _ (Ne.symm I.ne)).trans I.obj,hn2,I.ne⟩ hs2)
theorem x9 {R:Result->Shared->Prop}{vs:List Value}{kw:List (Str × Value)} (X:K.In s.heap) (hm:makesIn K C=true)
  (hi:findIn K (.ref C) "__init__"=some (some (.ref f))) (hf:typeIn K (.ref f)=some (.type "function"))
  (h:codeAny (model prog w) (A.under (.builtin "type.__call__" ⟨.ref C::vs,kw⟩)) (.call (.ref f) ⟨.ref (s.heap.objs.size + 1)::vs,kw⟩) (InitBack (s.heap.objs.size + 1) R)
   { s with heap:=(s.heap.push emptyDict).push (instObj C s.heap.objs.size) }) :
  codeAny (model prog w) A (.call (.ref C) ⟨vs,kw⟩) R s:=by
 obtain ⟨hh,g,d,t,os⟩:=s;exact make_core (makes_of X hm) (looks_findIn X hi) (fun self=>bind_fn X self hf) (.inl rfl) h
end
noncomputable def dM (f:Str) (v:V):List (Str × V)->List (Str × V)
 | []=>[(f,v)]
 | (g,x)::r=>if g=f then (g,v)::r else (g,x)::dM f v r
theorem lN (f g:Str) (v:V):∀ fs:List (Str × V),(dM f v fs).lookup g=if g=f then some v else fs.lookup g
 | []=>by
  show List.lookup g [(f,v)]=_;by_cases h:g=f
  ·have hb:(g == f)=true:=beq_iff_eq.mpr h
   simp only [List.lookup,hb,yI h]
  ·have hb:(g == f)=false:=beq_eq_false_iff_ne.mpr h
   simp only [List.lookup,hb,yH h]
 | (k,x)::r=>by
  have ih:=lN f g v r;rw [show dM f v ((k,x)::r)=(if k=f then (k,v)::r else (k,x)::dM f v r) from rfl];by_cases hk:k=f
  ·rw [yI hk]
   by_cases h:g=k
   ·have hb:(g == k)=true:=beq_iff_eq.mpr h
    simp only [List.lookup,hb,yI (h.trans hk)]
   ·have hb:(g == k)=false:=beq_eq_false_iff_ne.mpr h
    simp only [List.lookup,hb,yH (fun e:g=f=>h (e.trans hk.symm))]
  ·rw [yH hk]
   by_cases h:g=k
   ·have hb:(g == k)=true:=beq_iff_eq.mpr h
    simp only [List.lookup,hb,yH (fun e:g=f=>hk (h.symm.trans e))]
   ·have hb:(g == k)=false:=beq_eq_false_iff_ne.mpr h
    simp only [List.lookup,hb];exact ih
theorem kK (f:Str) (v:V):∀ fs:List (Str × V),f ∈ (dM f v fs).map (·.1)/\∀ g,g ∈ fs.map (·.1)->g ∈ (dM f v fs).map (·.1)
 | []=>⟨by simp [dM],fun g h=>by simp at h⟩
 | (k,x)::r=>by
  obtain ⟨i1,i2⟩:=kK f v r;rw [show dM f v ((k,x)::r)=(if k=f then (k,v)::r else (k,x)::dM f v r) from rfl];by_cases hk:k=f
  ·rw [yI hk]
   subst hk;exact ⟨by simp,fun g h=>by simpa using h⟩
  ·rw [yH hk]
   refine ⟨?_,fun g h=>?_⟩
   ·rw [zO]
    exact zQ _ i1
   ·rw [zO] at h ⊢
    rcases zT.mp h with e | e
    ·exact zT.mpr (.inl e)
    ·exact zQ _ (i2 g e)
theorem lP (f:Str) (v:V):∀ fs:List (Str × V),(dM f v fs).length <= fs.length + 1
 | []=>by simp [dM]
 | (k,x)::r=>by
  have ih:=lP f v r;rw [show dM f v ((k,x)::r)=(if k=f then (k,v)::r else (k,x)::dM f v r) from rfl];by_cases hk:k=f
  ·rw [yI hk,yV,yV];omega
  ·rw [yH hk,yV,yV];omega
theorem RelO.some_of {v:V}{o:Option Value} (r:RelO (some v) o):∃ u,o=some u/\RelV v u:=by
 cases o with
 | none=>exact (show False from r).elim
 | some u=>exact ⟨u,rfl,r⟩
theorem RelO.none_of {o:Option Value} (r:RelO none o):o=none:=by
 cases o with
 | none=>rfl
 | some u=>exact (show False from r).elim
theorem wm {v:V}{u:Value} (r:RelV v u):handedIn u=true:=by
 cases v with
 | non=>cases (show u=Value.none from r);rfl
 | bl b=>cases (show u=Value.bool b from r);rfl
 | int i=>obtain ⟨t,e⟩:=(show ∃ t,u=Value.int i t from r);cases e;rfl
 | str x=>obtain ⟨t,e⟩:=(show ∃ t,u=Value.str x t from r);cases e;rfl
 | byt b=>obtain ⟨t,e⟩:=(show ∃ t,u=Value.bytes b t from r);cases e;rfl
 | flt b=>obtain ⟨t,e⟩:=(show ∃ t,u=Value.float b t from r);cases e;rfl
 | ref a=>cases (show u=Value.ref a from r);rfl
 | ty n=>cases (show u=Value.type n from r);rfl
section
variable {P:Program}{w:World}{H H':Hp}{h h':Heap}{a C dx:Addr}{fs fs':List (Str × V)}
theorem lE (LA:HOk P w H h) (e:H a=some (.ins C dx fs)):∃ mA,ObjM h a dx C mA/\(∀ f,RelO (fs.lookup f) (mA f))/\PySem.Within mA (fs.map (·.1))/\fs.length <= 1000/\H dx=some (.own a):=by
 obtain ⟨d,z,ne,ob,mA,n,r,q⟩:=(show ObjOk P w H h a (.ins C dx fs) from LA a _ e);exact ⟨mA,⟨ob,n,ne⟩,r,q,z,d⟩
end
structure Cls (K:Frag) (C:Addr):Prop where
 pg:plainGet K C Str.empty=true
 hd:hasDictIn K C=true
 po:plainOver K C=true
 sa:findIn K (.ref C) "__setattr__"=some (some (.builtin "object.__setattr__"))
theorem Cls.get {K:Frag}{C:Addr} (c:Cls K C) (f:Str):plainGet K C f=true:=c.pg
def NoAttr (K:Frag) (C:Addr) (f:Str):Prop:=findIn K (.ref C) f=some none
theorem NoAttr.taker {K:Frag}{C:Addr}{f:Str} (n:NoAttr K C f):takerIn K C f=some none:=by
 unfold takerIn;rw [show findIn K (.ref C) f=some none from n];rfl
structure jT (K:Frag) (C:Addr) (m:Str) (f:Addr):Prop where
 at_:findIn K (.ref C) m=some (some (.ref f))
 fn:isFn K (.ref f)=true
 kp:keepIn K (.ref f)=true
section
variable {X:Cx}{Lu:List (Addr × Obj)}{σ:St}{H:Hp}{s:Shared}{a C dx:Addr}{fs:List (Str × V)}{f:Str}{v:V}{A:Around}{E:Value->Shared->Prop}
theorem uD {b:Bool}{Q:Value->Shared->Prop} (I:Inv X Lu σ H s) (e:H a=some (.ins C dx fs)) (c:Cls X.K C) (n:NoAttr X.K C f) (l:fs.lookup f=some v)
  (h:∀ u s',Inv X Lu σ H s'->RelV v u->Q u s'):wpAny (model X.prog X.w) A (getAttr (.ref a) f b) Q E s:=by
 obtain ⟨mA,O,r,_,_,_⟩:=lE I.LA e;obtain ⟨u,hu,ru⟩:=RelO.some_of (v:=v) (o:=mA f) (by rw [<- l];exact r f);exact Ce I.kIn O (c.get f) c.hd n hu (wm ru) (h u _ (I.tok _) ru)
theorem jP {m:Str}{g:Addr}{pl:Sem Bool}{Q:Value × List Value->Shared->Prop} (I:Inv X Lu σ H s) (e:H a=some (.ins C dx fs)) (c:Cls X.K C) (k:jT X.K C m g) (l:fs.lookup m=none)
  (h:Q (.ref g,[.ref a]) s):wpAny (model X.prog X.w) A (getMethod (.ref a) m pl) Q E s:=by
 obtain ⟨mA,O,r,_,_,_⟩:=lE I.LA e;have hn:mA m=none:=RelO.none_of (by rw [<- l];exact r m);exact yo I.kIn O (c.get m) k.at_ k.fn hn h
theorem tQ {y:V}{u:Value}{Q:Unit->Shared->Prop} (I:Inv X Lu σ H s) (e:H a=some (.ins C dx fs)) (c:Cls X.K C) (n:NoAttr X.K C f) (hl:fs.length < 1000) (ry:RelV y u)
  (h:∀ s',Inv X Lu σ (af H a (.ins C dx (dM f y fs))) s'->Q () s'):wpAny (model X.prog X.w) A (setAttr (.ref a) f u) Q E s:=by
 obtain ⟨mA,O,r,wi,_,ho⟩:=lE I.LA e;have hz:(fs.map (·.1)).length <= sizeLine:=by rw [zH,sizeLine_eq];omega
 refine AY I.kIn O c.sa c.po n.taker c.hd wi hz fun h' O' sb=>h _ ?_
 have hd:∃ o,h'.get? dx=some o:=let ⟨o,_,_,e',_⟩:=O'.ns;⟨o,e'⟩;refine I.write (x:=a) (e:=dx) (by rw [e];exact True.intro) (.inr ho) (fun b q hb z=>(sb.2 b hb).trans z) hd ?_;refine ⟨by rw [ad O.ne];exact ho,?_,O.ne,O'.obj,_,O'.ns,fun g=>?_,fun g hg=>?_⟩
 ·have:=lP f y fs;omega
 ·show RelO ((dM f y fs).lookup g) (if g=f then some u else mA g)
  rw [lN];by_cases q:g=f
  ·rw [yI q,yI q];exact ry
  ·rw [yH q,yH q];exact r g
 ·by_cases q:g=f
  ·rw [q];exact (kK f y fs).1
  ·refine (kK f y fs).2 g (wi g fun z=>hg ?_)
   show (if g=f then some u else mA g)=none;rw [yH q];exact z
theorem Inv.made (I:Inv X Lu σ H s):Inv X Lu σ (af (af H s.heap.objs.size (.own (s.heap.objs.size + 1))) (s.heap.objs.size + 1) (.ins C s.heap.objs.size []))
  { s with heap:=(s.heap.push emptyDict).push (instObj C s.heap.objs.size) }:=by
 have e1:(s.heap.push emptyDict).get? s.heap.objs.size=some emptyDict:=zY s.heap rfl;have e2:((s.heap.push emptyDict).push (instObj C s.heap.objs.size)).get? (s.heap.objs.size + 1)=some (instObj C s.heap.objs.size):=by
  have:=zY (s.heap.push emptyDict) (o:=instObj C s.heap.objs.size) rfl
  rwa [Heap.size_push] at this
 have e3:(s.heap.push emptyDict).Ns s.heap.objs.size (fun _=>none):=⟨emptyDict,#[],_,e1,rfl,(fun e he=>absurd he (by simp)),fun _=>rfl⟩;have I1:=I.laid (a:=s.heap.objs.size) (o:=.own (s.heap.objs.size + 1)) (h':=s.heap.push emptyDict) (t':=s.toks) (fun b u q=>zG _ q) (zP _) ⟨_,e1⟩;refine I1.laid (a:=s.heap.objs.size + 1) (o:=.ins C s.heap.objs.size []) (t':=s.toks) (fun b u q=>zG _ q) (Nat.le_of_eq (Heap.size_push _ _)) ?_;have ne:s.heap.objs.size ≠ s.heap.objs.size + 1:=zU (Nat.lt_succ_self _);refine ⟨by rw [ad ne,aq],Nat.zero_le _,ne,e2,fun _=>none,(Heap.Ns1.of_empty e3).at fun o q=>zG _ q,fun _=>True.intro,fun y hy=>absurd rfl hy⟩
theorem Cm {prog:Program}{w:World}{env:Env}{e:Expr}{f:Str}{pos:Pos}{s:Shared}{Q:Value->Shared->Prop} (hb:attributeBase e f env (eval e env)=eval e env)
  (h:wpAny (model prog w) A (eval e env) (fun o s₁=>wpAny (model prog w) A (getAttr o f true) Q E s₁) E s):wpAny (model prog w) A (eval (.Attribute e f pos) env) Q E s :=
 Attribute_any_ h (by rw [arm_eval_Attribute,hb])
end
def Jc (K:Frag) (ta:TE) (f:Str):TE:=fun σ H Q=>ta σ H fun x H1=>∃ a C dx fs v,x=.ref a/\H1 a=some (.ins C dx fs)/\Cls K C/\NoAttr K C f/\fs.lookup f=some v/\Q v H1
def Jh (K:Frag) (ta tv:TE) (f:Str):TS:=fun D σ H=>tv σ H fun y H1=>ta σ H1 fun x H2=>∃ a C dx fs,x=.ref a/\H2 a=some (.ins C dx fs)/\Cls K C/\NoAttr K C f/\fs.length < 1000 /\
 D.nx σ (af H2 a (.ins C dx (dM f y fs)))
section
variable {X:Cx}{o e value:Expr}{f:Str}{pos pos' tpos:Pos}{ta tv:TE}
theorem DH (he:PE X e ta) (hb:attributeBase e f X.env (eval e X.env)=eval e X.env):PE X (.Attribute e f pos) (Jc X.K ta f):=by
 intro Lu s σ H Q I h;refine Cm hb (aA (he Lu s σ H _ I h) fun u s1 hq0=>?_);obtain ⟨x,H1,I1,rx,a,C,dx,fs,v,ex,ea,c,n,l,q⟩:=hq0;subst ex;obtain rfl:u=Value.ref a:=rx;exact uD I1 ea c n l fun u' s2 I2 ru=>⟨v,H1,I2,ru,q⟩
theorem Dr (ha:PE X o ta) (hv:PE X value tv) (hs:swapsWith value (some (.Attribute o f pos')) pos.line X.env=pure false):PS X (.Assign [.Attribute o f pos'] value pos) (Jh X.K ta tv f):=by
 intro Lu s σ H D I h;refine plainObj_wpAny_Assign_Attribute (aA (hv Lu s σ H _ I h) fun u s1 ⟨y,H1,I1,ry,q⟩=>aA (ha Lu s1 σ H1 _ I1 q) fun ov s2 hq0=>?_) hs;obtain ⟨x,H2,I2,rx,a,C,dx,fs,ex,ea,c,n,l,q2⟩:=hq0;subst ex;obtain rfl:ov=Value.ref a:=rx;exact tQ I2 ea c n l ry fun s3 I3=>⟨σ,_,I3,q2⟩
theorem FJ {pl:Sem Bool}{m:Str}{apos:Pos}{args:List Expr}{Lu:List (Addr × Obj)}{s:Shared}{σ:St}{H:Hp}{Q:Value->Shared->Prop}{te:TE} (he:PE X e te) (I:Inv X Lu σ H s)
  (h:te σ H fun x H1=>∃ a C dx fs g,x=.ref a/\H1 a=some (.ins C dx fs)/\Cls X.K C/\jT X.K C m g/\fs.lookup m=none /\
   ∀ s1,Inv X Lu σ H1 s1->wpAny (model X.prog X.w) X.A (callWith pos (.ref g) [.ref a] (backTo pos (starEach args X.env)) (backToKw pos (keywordEach [] X.env))) Q X.xe s1)
  (ht:eval (.Call (.Attribute e m apos) args [] pos) X.env=(do
   let ov <- eval e X.env
   standAt apos.atName
   let (f,first) <- holding [ov] (getMethod ov m pl)
   callWith pos f first (backTo pos (starEach args X.env)) (backToKw pos (keywordEach [] X.env)))) :
  wpAny (model X.prog X.w) X.A (eval (.Call (.Attribute e m apos) args [] pos) X.env) Q X.xe s:=by
 refine methodCall_KW (pl:=pl) (aA (he Lu s σ H _ I h) fun u s1 hq0=>?_) ht;obtain ⟨x,H1,I1,rx,a,C,dx,fs,g,ex,ea,c,k,l,q⟩:=hq0;subst ex;obtain rfl:u=Value.ref a:=rx;exact jP I1 ea c k l (q s1 I1)
end
section
variable {X:Cx}{Lu:List (Addr × Obj)}{σ:St}{H:Hp}{s:Shared}{A:Around}{E:Value->Shared->Prop}{Q:Value->Shared->Prop}{c:Value}{b:Bool}
inductive TyOf (K:Frag) (H:Hp):V->Value->Prop where
 | non:TyOf K H .non (.type "NoneType")
 | bl (x:Bool):TyOf K H (.bl x) (.type "bool")
 | int (i:Int):TyOf K H (.int i) (.type "int")
 | str (x:Str):TyOf K H (.str x) (.type "str")
 | flt (x:UInt64):TyOf K H (.flt x) (.type "float")
 | lst {a:Addr}{xs:List V} (e:H a=some (.lst xs)):TyOf K H (.ref a) (.type "list")
 | frz {a:Addr}{o:Obj}{xs:List V} (e:H a=some (.frz o (.lst xs))):TyOf K H (.ref a) (.type "list")
 | tup {a:Addr}{xs:List V} (e:H a=some (.tup xs)):TyOf K H (.ref a) (.type "tuple")
 | dK {a:Addr}{Lv:List (aR × V)} (e:H a=some (.dK Lv)):TyOf K H (.ref a) (.type "dict")
 | dT {a:Addr}{Lv:List (List aR × V)} (e:H a=some (.dT Lv)):TyOf K H (.ref a) (.type "dict")
 | ins {a C dx:Addr}{fs:List (Str × V)} (e:H a=some (.ins C dx fs)) (cl:Cls K C) (ha:findIn K (.ref C) "__class__"=some (some (.builtin "object.__class__")))
   (hn:specialIn K (.builtin "object.__class__") "__get__"=some (some (.builtin "getset_descriptor.__get__"))) (htk:takesIn K (.builtin "object.__class__")=some true)
   (hm:mroIn K C (.type "object")=some true):TyOf K H (.ref a) (.ref C)
theorem iP {x:V}{u t:Value} (I:Inv X Lu σ H s) (rx:RelV x u) (ty:TyOf X.K H x t) (e:kitOne X.K t c=some b) (h:∀ tk,Q (.bool b) { s with toks:=tk }) :
  wpAny (model X.prog X.w) A (call (.builtin "isinstance") [u,c]) Q E s:=by
 cases ty with
 | non=>cases (show u=Value.none from rx);exact kia_one kitx_none I.kIn True.intro e (fun z=>nomatch z) h
 | bl y=>cases (show u=Value.bool y from rx);exact kia_one kitx_bool I.kIn True.intro e (fun z=>nomatch z) h
 | int i=>obtain ⟨t,q⟩:=(show ∃ t,u=Value.int i t from rx);cases q;exact kia_one kitx_int I.kIn True.intro e (fun z=>nomatch z) h
 | str y=>obtain ⟨t,q⟩:=(show ∃ t,u=Value.str y t from rx);cases q;exact kia_one kitx_str I.kIn True.intro e (fun z=>nomatch z) h
 | flt y=>obtain ⟨t,q⟩:=(show ∃ t,u=Value.float y t from rx);cases q;exact kia_one kitx_float I.kIn True.intro e (fun z=>nomatch z) h
 | @lst a xs ea =>
  cases (show u=Value.ref a from rx);obtain ⟨_,_,n,_,h1⟩:=(show ObjOk X.prog X.w H s.heap a (.lst xs) from I.LA a _ ea);exact kia_one kitx_list I.kIn ⟨_,h1,rfl⟩ e (fun z=>nomatch z) h
 | @frz a ob xs ea =>
  cases (show u=Value.ref a from rx);obtain ⟨_,_,_,n,_,h1⟩:=(show ObjOk X.prog X.w H s.heap a (.frz ob (.lst xs)) from I.LA a _ ea);exact kia_one kitx_list I.kIn ⟨_,h1,rfl⟩ e (fun z=>nomatch z) h
 | @tup a xs ea =>
  cases (show u=Value.ref a from rx);obtain ⟨_,_,_,p⟩:=(show ObjOk X.prog X.w H s.heap a (.tup xs) from I.LA a _ ea);obtain ⟨o,h1,h2,_⟩:=p;exact kia_one kitx_tuple I.kIn ⟨o,h1,h2⟩ e (fun z=>nomatch z) h
 | @dK a Lv ea =>
  cases (show u=Value.ref a from rx);obtain ⟨_,_,vs,_,p⟩:=(show ObjOk X.prog X.w H s.heap a (.dK Lv) from I.LA a _ ea);obtain ⟨o,es,ep,h1,h2,_⟩:=p;exact kia_one kitx_dict I.kIn ⟨o,h1,h2.1⟩ e (fun z=>nomatch z) h
 | @dT a Lv ea =>
  cases (show u=Value.ref a from rx);obtain ⟨_,_,xs,_,o,es,ep,h1,h2,_⟩:=(show ObjOk X.prog X.w H s.heap a (.dT Lv) from I.LA a _ ea);exact kia_one kitx_dict I.kIn ⟨o,h1,h2.1⟩ e (fun z=>nomatch z) h
 | @ins a C dx fs ea cl ha hn htk hm =>
  cases (show u=Value.ref a from rx);obtain ⟨mA,O,_⟩:=lE I.LA ea;obtain ⟨od,J,_⟩:=O.look;exact kia_one (kitx_own (cl.get _) cl.hd ha hn htk hm) I.kIn J e (fun z=>nomatch z) h
end
structure Room (k:Nat) (A:Around):Prop where
 hd:A.handled=none
 dp:A.depth + 3 * k + 5 < recursionLimit
 un:A.units + 16 * k + 200 < cLine
 gd:A.guards=some []
theorem Room.mono {j k:Nat}{A:Around} (r:Room k A) (h:j <= k):Room j A:=⟨r.hd,by have:=r.dp;omega,by have:=r.un;omega,r.gd⟩
theorem Room.deeper {k:Nat}{A:Around} (r:Room (k + 1) A) (env:Env):Room k (A.deeper env) :=
 ⟨r.hd,by have:=r.dp;show A.depth + 1 + 3 * k + 5 < _;omega,by have:=r.un;show A.units + 3 + 16 * k + 200 < _;omega,r.gd⟩
theorem Room.in1 {k:Nat}{A:Around} (r:Room (k + 1) A):Room k A.in1 :=
 ⟨r.hd,by have:=r.dp;show A.depth + 3 * k + 5 < _;omega,by have:=r.un;show A.units + 1 + 16 * k + 200 < _;omega,r.gd⟩
theorem uk {A:Around}{C:Addr}{us:List Value}{kw:List (Str × Value)}:(A.under (.builtin "type.__call__" ⟨.ref C::us,kw⟩)).depth=A.depth + 1:=by
 first | rfl | simp [Around.under,Code.weight,Code.isCreation,Code.isGuard,Code.isCaller,Code.frames,Code.isFrame,guardIds]
theorem uj {A:Around}{C:Addr}{us:List Value}{kw:List (Str × Value)}:(A.under (.builtin "type.__call__" ⟨.ref C::us,kw⟩)).units=A.units + 1:=by
 first | rfl | simp [Around.under,Code.cUnits,Code.frames,Code.isFrame]
theorem rW {A:Around}{C:Addr}{us:List Value}{kw:List (Str × Value)}:(A.under (.builtin "type.__call__" ⟨.ref C::us,kw⟩)).guards=A.guards:=by
 first | rfl | simp [Around.under,Code.guards,Code.isGuard,guardIds,pushGuards]
theorem Room.make {k:Nat}{A:Around} (r:Room (k + 1) A) (C:Addr) (us:List Value) (kw:List (Str × Value)):Room k (A.under (.builtin "type.__call__" ⟨.ref C::us,kw⟩)) :=
 ⟨r.hd,by have:=r.dp;rw [uk];omega,by have:=r.un;rw [uj];omega,by rw [rW];exact r.gd⟩
theorem Room.depth {k:Nat}{A:Around} (r:Room k A):A.depth < recursionLimit:=by have:=r.dp;omega
theorem Room.units {k:Nat}{A:Around} (r:Room k A):A.units + 64 < cLine:=by have:=r.un;omega
noncomputable def tM:TA:=fun _ H Q=>Q [] H
noncomputable def zn (ta:TE) (tr:TA):TA:=fun σ H Q=>ta σ H fun x H1=>tr σ H1 fun xs H2=>Q (x::xs) H2
section
variable {X:Cx}{e:Expr}{es:List Expr}{te:TE}{t:TA}{pos:Pos}
theorem qf:PA X [] tM:=fun _ _ _ _ H Q I h=>Calls.spliced_nil ⟨[],H,I,.nil,h⟩
theorem ly (ha:PE X e te) (hr:PA X es t) (hs:starEach (e::es) X.env=(false,eval e X.env)::starEach es X.env:=by rfl):PA X (e::es) (zn te t):=by
 intro pos Lu s σ H Q I h;rw [hs];show wpAny _ _ (spliced ((false,eval e X.env)::backTo pos (starEach es X.env))) _ _ s;refine Calls.spliced_cons (aA (ha Lu s σ H _ I h) fun u s1 hq0=>?_);obtain ⟨x,H1,I1,r1,q1⟩:=hq0;exact aA (hr pos Lu s1 σ H1 _ I1 q1) fun us s2 ⟨xs,H2,I2,r2,q2⟩=>⟨x::xs,H2,I2,.cons r1 r2,q2⟩
def IU (t:TA):TE:=fun σ H Q=>t σ H fun xs H1=>xs.length <= sizeLine/\∀ p,H1 p=none->Q (.ref p) (af H1 p (.tup xs))
def IZ (t:TA):TE:=fun σ H Q=>t σ H fun xs H1=>xs.length <= sizeLine/\∀ p,H1 p=none->Q (.ref p) (af H1 p (.lst xs))
theorem DA {x1} (h:PA X es t):PE X (.Tuple es x1 pos) (IU t):=by
 intro Lu s σ H Q I hq;refine wpAny_Tuple_spliced (aA (h pos Lu s σ H _ I hq) fun us s1 ⟨xs,H1,I1,r,z,q⟩=>⟨by rw [<- r.length];exact z,?_⟩);have hf:H1 s1.heap.objs.size=none:=I1.LA.fresh (zP _);refine ⟨.ref s1.heap.objs.size,af H1 s1.heap.objs.size (.tup xs),I1.laid (t':=s1.toks) (fun b u e=>zG _ e) (zP _) ?_,rfl,q _ hf⟩;exact ⟨z,us,r,⟨_,zY _ rfl,rfl,_,rfl⟩⟩
theorem vF (h:PA X es t):PE X (.List es pos) (IZ t):=by
 intro Lu s σ H Q I hq;refine wpAny_List_spliced (aA (h pos Lu s σ H _ I hq) fun us s1 ⟨xs,H1,I1,r,z,q⟩=>⟨by rw [<- r.length];exact z,?_⟩);have hf:H1 s1.heap.objs.size=none:=I1.LA.fresh (zP _);refine ⟨.ref s1.heap.objs.size,af H1 s1.heap.objs.size (.lst xs),I1.laid (t':=s1.toks) (fun b u e=>zG _ e) (zP _) ?_,rfl,q _ hf⟩;exact ⟨z,us,0,r,zY _ rfl⟩
end
abbrev Sp:=List V->Hp->VK->XK->Prop
abbrev lu:=List Env->Hp->Shared->XK->Value->Shared->Prop
structure Env0 (P:Program) (w:World) (K:Frag) (mg:Str->Option Value) (base:Heap) (A:Around) (outer:List Env) (s:Shared) (H:Hp):Prop where
 frames:A.frames=some outer
 mod:Mod K mg base
 bs:∀ b o,base.get? b=some o->s.heap.get? b=some o/\H b=none
 bsz:base.objs.size <= s.heap.objs.size
 funs:s.heap.FunFrames base outer
 frf:∀ b ∈ jy outer,H b=none
 LA:HOk P w H s.heap
 bare:AllBare s.gens
def CE (outer:List Env) (P:Program) (w:World) (H:Hp) (s:Shared) (Q:VK) (u:Value) (s':Shared):Prop :=
 ∃ v H',s'.os=s.os/\AllBare s'.gens/\Un (jy outer) [] H H' s.heap s'.heap/\HOk P w H' s'.heap/\RelV v u/\Q v H'
def CR (CX:lu) (outer:List Env) (P:Program) (w:World) (H:Hp) (s:Shared) (Q:VK) (E:XK) (r:Result) (s':Shared):Prop :=
 match r with
 | .ok (.ret u)=>CE outer P w H s Q u s'
 | .ok _=>False
 | .error e=>CX outer H s E e s'
structure FnOk (P:Program) (w:World) (K:Frag) (mg:Str->Option Value) (base:Heap) (CX:lu) (k:Nat) (f:Addr) (fd:FuncData) (ps:List Str) (sp:Sp):Prop where
 len:∀ vs H Q E,sp vs H Q E->vs.length=ps.length
 run:∀ (A:Around) (outer:List Env) (s:Shared) (H:Hp) (args:Args) (us:List Value) (vs:List V) (Q:VK) (E:XK),Room k A->Env0 P w K mg base A outer s H->BindsTo s fd args (ps.zip us)->Vals vs us->sp vs H Q E ->
  codeAny (model P w) A (.call (.ref f) args) (CR CX outer P w H s Q E) s
theorem FnOk.mono {P:Program}{w:World}{K:Frag}{mg:Str->Option Value}{base:Heap}{CX:lu}{j k:Nat}{f:Addr}{fd:FuncData}{ps:List Str}{sp:Sp} (F:FnOk P w K mg base CX j f fd ps sp) (h:j <= k) :
  FnOk P w K mg base CX k f fd ps sp:=⟨F.len,fun A outer s H args us vs Q E hr=>F.run A outer s H args us vs Q E (hr.mono h)⟩
theorem FnOk.imp {P:Program}{w:World}{K:Frag}{mg:Str->Option Value}{base:Heap}{CX:lu}{k:Nat}{f:Addr}{fd:FuncData}{ps:List Str}{sp sp':Sp} (F:FnOk P w K mg base CX k f fd ps sp)
  (h:∀ vs H Q E,sp' vs H Q E->sp vs H Q E):FnOk P w K mg base CX k f fd ps sp' :=
 ⟨fun vs H Q E q=>F.len vs H Q E (h _ _ _ _ q),fun A outer s H args us vs Q E hr he hb hv hs=>F.run A outer s H args us vs Q E hr he hb hv (h _ _ _ _ hs)⟩
theorem Env0.make {P:Program}{w:World}{K:Frag}{mg:Str->Option Value}{base:Heap}{A:Around}{outer:List Env}{s:Shared}{H:Hp} (e:Env0 P w K mg base A outer s H) (C:Addr) (us:List Value) (kw:List (Str × Value)) :
  Env0 P w K mg base (A.under (.builtin "type.__call__" ⟨.ref C::us,kw⟩)) outer s H:=⟨by first | exact e.frames | (simpa [Around.under,Code.envs,Code.isFrame,pushEnvs] using e.frames),e.mod,e.bs,e.bsz,e.funs,e.frf,e.LA,e.bare⟩
section
variable {X:Cx}{Lu:List (Addr × Obj)}{σ:St}{H:Hp}{s s':Shared}
theorem Inv.env0 (I:Inv X Lu σ H s):Env0 X.prog X.w X.K X.mg X.base X.A X.stack s H :=
 ⟨I.ok.frames,I.ok.mod,I.bs,z0 I.ok.bsz I.sz,I.stack,I.stkFree,I.LA,I.bare⟩
theorem Inv.after {Q:VK}{u:Value} (I:Inv X Lu σ H s) (h:CE X.stack X.prog X.w H s Q u s'):EP X Lu σ Q u s':=by
 obtain ⟨v,H',os,bare,un,LA,r,q⟩:=h;obtain ⟨hh,g,d,t,os'⟩:=s';obtain rfl:os'=s.os:=os;exact ⟨v,H',I.call (h':=hh) (g':=g) (d':=d) (t':=t) (ch:=[]) un LA bare (fun b z=>absurd z (by simp)),r,q⟩
end
noncomputable def tO (sp:Sp) (dvs:List V) (E:XK) (t:TA):TE:=fun σ H Q=>t σ H fun vs H1=>sp (vs++dvs) H1 Q E
def tN (C:Addr) (m:Str) (sp:Sp) (dvs:List V) (E:XK) (ta:TE) (t:TA):TE:=fun σ H Q=>ta σ H fun x H1=>∃ a dx fs,x=.ref a/\H1 a=some (.ins C dx fs)/\fs.lookup m=none /\
 t σ H1 fun vs H2=>sp (x::(vs++dvs)) H2 Q E
def zm (C:Addr) (sp:Sp) (dvs:List V) (E:XK) (t:TA):TE:=fun σ H Q=>t σ H fun vs H1=>∀ x dx,H1 x=none->H1 dx=none->dx ≠ x ->
 sp (.ref x::(vs++dvs)) (af (af H1 dx (.own x)) x (.ins C dx [])) (fun v H2=>v=.non/\Q (.ref x) H2) E
def Binds (K:Frag) (fd:FuncData) (ps:List Str) (ds:List Value):Prop :=
 ∀ (s:Shared) (us:List Value),K.In s.heap->(us++ds).length=ps.length->BindsTo s fd ⟨us,[]⟩ (ps.zip (us++ds))
theorem Binds.all {K:Frag}{fd:FuncData}{ps:List Str} (h:∀ us:List Value,us.length=ps.length->bindArgs fd ⟨us,[]⟩=pure (ps.zip us)):Binds K fd ps []:=fun s us _ hl=>by
 rw [List.append_nil] at hl ⊢;exact .of_eq (h us hl)
def gH (CX:lu) (X:Cx) (E:XK):Prop:=∀ (Lu:List (Addr × Obj)) (σ:St) (H:Hp) (s:Shared) (e:Value) (s':Shared),Inv X Lu σ H s->CX X.stack H s E e s'->X.xe e s'
section
variable {X:Cx}{CX:lu}{k:Nat}{f C:Addr}{fd:FuncData}{ps:List Str}{sp:Sp}{dvs:List V}{ds:List Value}{E:XK}{x m:Str}{p pos apos:Pos}{e o:Expr}{es:List Expr}{ta:TE}{t:TA}
theorem mM {Lu:List (Addr × Obj)}{σ:St}{H:Hp}{s:Shared}{Q:VK}{us:List Value}{vs:List V} (F:FnOk X.prog X.w X.K X.mg X.base CX k f fd ps sp) (hr:Room k X.A) (hb:Binds X.K fd ps ds) (hd:Vals dvs ds) (hx:gH CX X E)
  (I:Inv X Lu σ H s) (r:Vals vs us) (h:sp (vs++dvs) H Q E):wpAny (model X.prog X.w) X.A (call (.ref f) us) (EP X Lu σ Q) X.xe s:=by
 have r2:Vals (vs++dvs) (us++ds):=r.append hd;have hl:(us++ds).length=ps.length:=by rw [<- r2.length];exact F.len _ _ _ _ h
 refine wpAny_call (codeAny_mono (F.run X.A X.stack s H ⟨us,[]⟩ (us++ds) (vs++dvs) Q E hr I.env0 (hb s us I.kIn hl) r2 h) fun r s' hq=>?_);cases r with
 | error e=>exact hx Lu σ H s e s' I hq
 | ok fl =>
  cases fl with
  | ret u=>exact I.after hq
  | next=>exact False.elim hq
  | brk=>exact False.elim hq
  | cont=>exact False.elim hq
theorem BG (F:FnOk X.prog X.w X.K X.mg X.base CX k f fd ps sp) (hr:Room k X.A) (hg:Gl X x) (hm:X.mg x=some (.ref f)) (hk:keepIn X.K (.ref f)=true) (hb:Binds X.K fd ps ds) (hd:Vals dvs ds) (hx:gH CX X E)
  (ha:PA X (e::es) t) (hdb:(x == ("__debug__":Str))=false:=by decide) (he:starEach (e::es) X.env=(false,eval e X.env)::starEach es X.env:=by rfl) (hpl:(backTo pos (starEach es X.env)).any (·.1)=false:=by rfl) :
  PE X (.Call (.Name x p) (e::es) [] pos) (tO sp dvs E t):=by
 intro Lu s σ H Q I h;refine wpAny_Call_Name_kw (lC I hg hm ?_ hdb);refine callWith_K (h₀:=X.base) I.ok.mod.kin hk (aA (ha pos Lu s σ H _ I h) fun us s1 ⟨vs,H1,I1,r,q⟩=>⟨I1.kIn,?_⟩) he hpl;exact mM F hr hb hd hx I1 r q
theorem xK (F:FnOk X.prog X.w X.K X.mg X.base CX k f fd ps sp) (hr:Room k X.A) (hg:Gl X x) (hm:X.mg x=some (.ref f)) (hk:keepIn X.K (.ref f)=true) (hb:Binds X.K fd ps ds) (hd:Vals dvs ds) (hx:gH CX X E)
  (hdb:(x == ("__debug__":Str))=false:=by decide):PE X (.Call (.Name x p) [] [] pos) (tO sp dvs E tM):=by
 intro Lu s σ H Q I h;refine wpAny_Call_Name_kw (lC I hg hm ?_ hdb);exact PySem.W.callWith_K0 I.kIn hk (mM (us:=[]) F hr hb hd hx I .nil h)
theorem BB {pl:Sem Bool} (he:PE X o ta) (c:Cls X.K C) (hm:jT X.K C m f) (F:FnOk X.prog X.w X.K X.mg X.base CX k f fd ps sp) (hr:Room k X.A) (hb:Binds X.K fd ps ds) (hd:Vals dvs ds) (hx:gH CX X E) (ha:PA X (e::es) t)
  (hst:starEach (e::es) X.env=(false,eval e X.env)::starEach es X.env:=by rfl) (hpl:(backTo pos (starEach es X.env)).any (·.1)=false:=by rfl)
  (ht:eval (.Call (.Attribute o m apos) (e::es) [] pos) X.env=(do
   let ov <- eval o X.env
   standAt apos.atName
   let (f,first) <- holding [ov] (getMethod ov m pl)
   callWith pos f first (backTo pos (starEach (e::es) X.env)) (backToKw pos (keywordEach [] X.env))):=by rfl) :
  PE X (.Call (.Attribute o m apos) (e::es) [] pos) (tN C m sp dvs E ta t):=by
 intro Lu s σ H Q I h;refine methodCall_KW (pl:=pl) (aA (he Lu s σ H _ I h) fun u s1 hq0=>?_) ht;obtain ⟨x,H1,I1,rx,a,dx,fs,ex,ea,l,q⟩:=hq0;subst ex;obtain rfl:u=Value.ref a:=rx;refine jP I1 ea c hm l ?_;refine callWith_K (first:=[.ref a]) (h₀:=X.base) I.ok.mod.kin hm.kp (aA (ha pos Lu s1 σ H1 _ I1 q) fun us s2 ⟨vs,H2,I2,r,q2⟩=>⟨I2.kIn,?_⟩) hst hpl;exact mM (us:=.ref a::us) (vs:=.ref a::vs) F hr hb hd hx I2 (.cons rfl r) q2
theorem xG {pl:Sem Bool} (he:PE X o ta) (c:Cls X.K C) (hm:jT X.K C m f) (F:FnOk X.prog X.w X.K X.mg X.base CX k f fd ps sp) (hr:Room k X.A) (hb:Binds X.K fd ps ds) (hd:Vals dvs ds) (hx:gH CX X E)
  (ht:eval (.Call (.Attribute o m apos) [] [] pos) X.env=(do
   let ov <- eval o X.env
   standAt apos.atName
   let (f,first) <- holding [ov] (getMethod ov m pl)
   callWith pos f first (backTo pos (starEach [] X.env)) (backToKw pos (keywordEach [] X.env))):=by rfl) :
  PE X (.Call (.Attribute o m apos) [] [] pos) (tN C m sp dvs E ta tM):=by
 intro Lu s σ H Q I h;refine methodCall_KW (pl:=pl) (aA (he Lu s σ H _ I h) fun u s1 hq0=>?_) ht;obtain ⟨x,H1,I1,rx,a,dx,fs,ex,ea,l,q⟩:=hq0;subst ex;obtain rfl:u=Value.ref a:=rx;refine jP I1 ea c hm l ?_;exact PySem.W.callWith_K0 (first:=[.ref a]) I1.kIn hm.kp (mM (us:=[.ref a]) (vs:=[.ref a]) F hr hb hd hx I1 (.cons rfl .nil) q)
structure Mk (K:Frag) (C f:Addr):Prop where
 makes:makesIn K C=true
 init:findIn K (.ref C) "__init__"=some (some (.ref f))
 fn:isFn K (.ref f)=true
 kp:keepIn K (.ref C)=true
theorem xm {Lu:List (Addr × Obj)}{σ:St}{H:Hp}{s:Shared}{Q:VK}{us:List Value}{vs:List V} (M:Mk X.K C f) (F:FnOk X.prog X.w X.K X.mg X.base CX k f fd ps sp) (hr:Room (k + 1) X.A) (hb:Binds X.K fd ps ds) (hd:Vals dvs ds)
  (hx:gH CX X E) (I:Inv X Lu σ H s) (r:Vals vs us)
  (h:∀ x dx,H x=none->H dx=none->dx ≠ x->sp (.ref x::(vs++dvs)) (af (af H dx (.own x)) x (.ins C dx [])) (fun v H2=>v=.non/\Q (.ref x) H2) E) :
  wpAny (model X.prog X.w) X.A (call (.ref C) us) (EP X Lu σ Q) X.xe s:=by
 have hq:=h (s.heap.objs.size + 1) s.heap.objs.size (I.LA.fresh (Nat.le_succ _)) (I.LA.fresh (zP _)) (zU (Nat.lt_succ_self _));have I2:=Inv.made (C:=C) I;have r2:Vals (V.ref (s.heap.objs.size + 1)::(vs++dvs)) (Value.ref (s.heap.objs.size + 1)::(us++ds)):=.cons rfl (r.append hd);have hl:(Value.ref (s.heap.objs.size + 1)::us++ds).length=ps.length:=by
  have e:=r2.length;rw [F.len _ _ _ _ hq] at e;exact e.symm
 refine wpAny_call (x9 (f:=f) I.kIn M.makes M.init (beq_iff_eq.mp M.fn) (codeAny_mono (F.run _ X.stack _ _ ⟨Value.ref (s.heap.objs.size + 1)::us,[]⟩ (Value.ref (s.heap.objs.size + 1)::(us++ds)) _ _ E (hr.make C us [])
  (I2.env0.make C us []) (hb _ (Value.ref (s.heap.objs.size + 1)::us) I2.kIn hl) r2 hq) fun r s' hq'=>?_))
 cases r with
 | error e=>exact hx Lu σ _ _ e s' I2 hq'
 | ok fl =>
  cases fl with
  | ret u =>
   obtain ⟨v,H',I3,rv,ev,q3⟩:=I2.after hq';subst ev;exact ⟨rv,⟨V.ref (s.heap.objs.size + 1),H',I3,rfl,q3⟩⟩
  | next=>exact False.elim hq'
  | brk=>exact False.elim hq'
  | cont=>exact False.elim hq'
theorem BC (M:Mk X.K C f) (F:FnOk X.prog X.w X.K X.mg X.base CX k f fd ps sp) (hr:Room (k + 1) X.A) (hg:Gl X x) (hm:X.mg x=some (.ref C)) (hb:Binds X.K fd ps ds) (hd:Vals dvs ds) (hx:gH CX X E)
  (ha:PA X (e::es) t) (hdb:(x == ("__debug__":Str))=false:=by decide) (he:starEach (e::es) X.env=(false,eval e X.env)::starEach es X.env:=by rfl) (hpl:(backTo pos (starEach es X.env)).any (·.1)=false:=by rfl) :
  PE X (.Call (.Name x p) (e::es) [] pos) (zm C sp dvs E t):=by
 intro Lu s σ H Q I h;refine wpAny_Call_Name_kw (lC I hg hm ?_ hdb);refine callWith_K (h₀:=X.base) I.ok.mod.kin M.kp (aA (ha pos Lu s σ H _ I h) fun us s1 ⟨vs,H1,I1,r,q⟩=>⟨I1.kIn,?_⟩) he hpl;exact xm M F hr hb hd hx I1 r q
end
structure lM (N P:List Str) (sc:Scope):Prop where
 kind:sc.kind=.function
 co:sc.isCoroutine=false
 gen:sc.isGenerator=false
 nd:N.Nodup
 pre:N.take P.length=P
 par:∀ x ∈ P,sc.names.lookup x=some .local\/sc.names.lookup x=some .cell
 nofree:∀ y ∈ sc.names,y.2 ≠ .free
theorem o9 {kindOf:Str->Option NameKind}{x:Str}:∀ {binds:List (Str × Value)}{m:Str->Option Value},(∀ v,(x,v) ∉ binds)->bindL kindOf binds m x=m x
 | [],_,_=>rfl
 | (n,v)::r,m,h=>by
  unfold bindL;rw [o9 fun w hw=>h w (zQ _ hw)];split
  ·have:x ≠ n:=by rintro rfl;exact h v z8
   simp [this]
  ·rfl
theorem pe {kindOf:Str->Option NameKind}{x:Str}:∀ {binds:List (Str × Value)}{m:Str->Option Value},(∀ v,(x,v) ∉ binds)->bindC kindOf binds m x=m x
 | [],_,_=>rfl
 | (n,v)::r,m,h=>by
  unfold bindC;rw [pe fun w hw=>h w (zQ _ hw)];split
  ·rfl
  ·have:x ≠ n:=by rintro rfl;exact h v z8
   simp [this]
theorem pb {kindOf:Str->Option NameKind}{x:Str}{v:Value}:∀ {P:List Str}{vs:List Value}{i:Nat}{m:Str->Option Value},P.Nodup->P[i]?=some x->vs[i]?=some v->kindOf x=some .local ->
  bindL kindOf (P.zip vs) m x=some v
 | [],_,_,_,_,h,_,_=>by simp at h
 | _::_,[],_,_,_,_,h,_=>by simp at h
 | p::P,w::vs,0,m,nd,h1,h2,hk=>by
  simp at h1 h2;subst h1;subst h2;show bindL kindOf ((p,w)::P.zip vs) m p=_;unfold bindL;rw [o9 fun v hv=>(List.nodup_cons.mp nd).1 (List.of_mem_zip hv).1,yI hk];simp
 | p::P,w::vs,i + 1,m,nd,h1,h2,hk=>by
  show bindL kindOf ((p,w)::P.zip vs) m x=_;unfold bindL;exact pb (i:=i) (List.nodup_cons.mp nd).2 (by simpa using h1) (by simpa using h2) hk
theorem pf {kindOf:Str->Option NameKind}{x:Str}{v:Value}:∀ {P:List Str}{vs:List Value}{i:Nat}{m:Str->Option Value},P.Nodup->P[i]?=some x->vs[i]?=some v->kindOf x ≠ some .local ->
  bindC kindOf (P.zip vs) m x=some v
 | [],_,_,_,_,h,_,_=>by simp at h
 | _::_,[],_,_,_,_,h,_=>by simp at h
 | p::P,w::vs,0,m,nd,h1,h2,hk=>by
  simp at h1 h2;subst h1;subst h2;show bindC kindOf ((p,w)::P.zip vs) m p=_;unfold bindC;rw [pe fun v hv=>(List.nodup_cons.mp nd).1 (List.of_mem_zip hv).1,yH hk];simp
 | p::P,w::vs,i + 1,m,nd,h1,h2,hk=>by
  show bindC kindOf ((p,w)::P.zip vs) m x=_;unfold bindC;exact pf (i:=i) (List.nodup_cons.mp nd).2 (by simpa using h1) (by simpa using h2) hk
def start (N:List Str) (vs:List V):St:=vs.map some++List.replicate (N.length - vs.length) none
def oy (CX:lu) (P:Program) (w:World) (K:Frag) (mg:Str->Option Value) (base:Heap) (N:List Str) (qual:Str) (scope:Scope) (f:Addr) (cd:Value) (A:Around) (outer:List Env) (s:Shared) (H:Hp) (E:XK):Cx where
 prog:=P
 w:=w
 K:=K
 mg:=mg
 base:=base
 A:=A.deeper (envOfC qual scope s.heap.objs.size f cd)
 N:=N
 s₀:=s
 H₀:=H
 env:=envOfC qual scope s.heap.objs.size f cd
 outer:=outer
 stack:=envOfC qual scope s.heap.objs.size f cd::outer
 ex:=[]
 calm:=true
 fn:=fun _=>true
 pn:=[]
 xe:=fun e s'=>wpAny (model P w) (A.deeper (envOfC qual scope s.heap.objs.size f cd)) (leaving (envOfC qual scope s.heap.objs.size f cd) e) (fun _ s''=>CX outer H s E e s'') (fun e' s''=>CX outer H s E e' s'') s'
theorem re {sc:Scope}{n:Nat}{x:Str} (h:sc.names.lookup x=some .cell):∃ c,(cellsFrom n sc.names []).lookup x=some c:=by
 have q:=cellsFrom_some sc.names n [] (.inl h);exact Option.isSome_iff_exists.mp q
theorem wf {CX:lu}{P:Program}{w:World}{K:Frag}{mg:Str->Option Value}{base:Heap}{N ps:List Str}{qual:Str}{scope:Scope}{f:Addr}{cd:Value}{A:Around}{outer:List Env}{s s1:Shared}{H:Hp}{E:XK}{us:List Value}{vs:List V}
  (S:lM N ps scope) (hd:A.handled=none) (e0:Env0 P w K mg base A outer s H) (hl:vs.length=ps.length) (r:Vals vs us)
  (x:InCallC s s.heap.objs.size (bindL (envOfC qual scope s.heap.objs.size f cd).kindOf (ps.zip us) fun _=>none) (cellsFrom (s.heap.objs.size + 1) scope.names []) (bindC (envOfC qual scope s.heap.objs.size f cd).kindOf (ps.zip us) fun _=>none) s1) :
  Inv (oy CX P w K mg base N qual scope f cd A outer s H E) [] (start N vs) H s1:=by
 have hpl:ps.length <= N.length:=by have:=congrArg List.length S.pre;rw [List.length_take] at this;omega
 obtain ⟨h1,tk,rfl,hk⟩:=x.done;have noA:∀ b:Addr,b ∉ (oy CX P w K mg base N qual scope f cd A outer s H E).ex:=fun b z=>absurd (show b ∈ ([]:List Addr) from z) (by simp)
 refine ⟨⟨e0.mod,S.kind,rfl,rfl,zP _,fun y z c h1 h2=>?_,fun y hy=>?_,fun y c _ h=>?_,fun _=>hd,Around.frames_deeper e0.frames,.inr ⟨rfl,rfl⟩,fun b z=>absurd z (noA b),e0.bs,e0.bsz,fun b _ _=>noA b,fun b z=>absurd z (noA b),e0.funs,e0.frf⟩,
  rfl,e0.bare,Un.kept hk,⟨_,x.toInCall.ns,fun i y v h1 h2 h3=>?_⟩,fun y c h=>⟨_,x.cell y c h⟩,e0.LA.fresh (zP _),fun y c h=>?_,fun p hp=>absurd (show p ∈ ([]:List (Addr × Obj)) from hp) (by simp),e0.LA.kept hk,?_⟩
 ·exact name_of_addr x.apart (PySem.mem_of_lookup h1) (PySem.mem_of_lookup h2)
 ·have hy:scope.names.lookup y=some .cell\/scope.names.lookup y=some .free:=hy
  rcases hy with hy | hy
  ·exact re hy
  ·exact absurd rfl (S.nofree _ (PySem.mem_of_lookup hy))
 ·exact yW (x.above y c (PySem.mem_of_lookup h))
 ·have hi:i < vs.length:=by
   unfold start at h2;by_cases hi:i < vs.length
   ·exact hi
   ·rw [z7 (by simpa using hi)] at h2
    rw [List.getElem?_replicate] at h2;split at h2 <;> cases h2
  have ha:vs[i]?=some v:=by
   unfold start at h2;rw [zN (by simpa using hi),zR] at h2;cases e:vs[i]? with
   | none=>rw [e] at h2;cases h2
   | some a=>rw [e] at h2;cases h2;rfl
  obtain ⟨u,hu,rv⟩:=r.get ha;have hp:ps[i]?=some y:=by
   rw [<- S.pre,List.getElem?_take_of_lt oM];exact h1
  have ndP:ps.Nodup:=by rw [<- S.pre];exact S.nd.sublist (List.take_sublist _ _)
  refine ⟨u,rv,?_⟩;rcases S.par y (zW hp) with k | k
  ·exact .inl ⟨k,pb ndP hp hu k⟩
  ·obtain ⟨c,e⟩:=re (n:=s.heap.objs.size + 1) k
   refine .inr ⟨.inl k,c,e,?_⟩;have q:=x.cell y c e;rw [pf ndP hp hu (by show scope.names.lookup y ≠ _;rw [k];decide)] at q;exact q
 ·exact e0.LA.fresh (yW (x.above y c (PySem.mem_of_lookup h)))
 ·unfold start
  show _=N.length;rw [zV,zH,List.length_replicate];omega
theorem G6 {CX:lu}{P:Program}{w:World}{K:Frag}{mg:Str->Option Value}{base:Heap}{k:Nat}{f:Addr}{name qual:Str}{params:Arguments}{body:List Stmt}{scope:Scope}{dV kV doc pm cdv ct oc:Value}{an od:Option Addr}
  {osl:Array (Option Value)}{N ps:List Str}{sp:Sp} (lk:K.lookup f=some ⟨oc,od,.func (fnOf name qual params body scope dV kV doc pm an cdv ct),osl⟩) (hcd:codeIn K cdv qual=true) (S:lM N ps scope)
  (len:∀ vs H Q E,sp vs H Q E->vs.length=ps.length)
  (hbody:∀ (A:Around) (outer:List Env) (s:Shared) (H:Hp) (vs:List V) (Q:VK) (E:XK),Room k (A.deeper (envOfC qual scope s.heap.objs.size f cdv))->sp vs H Q E ->
   ∃ t,PSs (oy CX P w K mg base N qual scope f cdv A outer s H E) body t/\t { nx:=fun _ H'=>Q .non H',rt:=Q } (start N vs) H) :
  FnOk P w K mg base CX (k + 1) f (fnOf name qual params body scope dV kV doc pm an cdv ct) ps sp:=by
 refine ⟨len,fun A outer s H args us vs Q E hr e0 hb r hsp=>?_⟩;have hl:=len _ _ _ _ hsp;have KX:K.In s.heap:=e0.mod.kin.keeps fun b o e=>(e0.bs b o e).1
 have lim:s.heap.NoLimit:=e0.mod.nolimit.keeps fun b o e=>(e0.bs b o e).1
 have hkind:∀ y ∈ ps.zip us,scope.names.lookup y.1=some .local\/(scope.names.lookup y.1=some .cell/\((cellsFrom (s.heap.objs.size + 1) scope.names []).lookup y.1).isSome=true):=fun hq0 hy=>by
  obtain ⟨n,v⟩:=hq0;rcases S.par n (List.of_mem_zip hy).1 with q | q
  ·exact .inl q
  ·exact .inr ⟨q,cellsFrom_some _ _ _ (.inl q)⟩
 refine codeAny_call_function hr.depth (KX _ _ lk) rfl S.co S.gen rfl (codeRec_of KX hcd) (hb _ _ _ _ ?_);refine wpAny_newFunctionEnv_cells S.kind hkind fun env he s1 x=>?_
 subst he;refine ⟨lim.keeps x.toInCall.keep,codeAny_func ?_⟩;obtain ⟨t,ht,hq⟩:=hbody A outer s H vs Q E (hr.deeper _) hsp;have I:Inv (oy CX P w K mg base N qual scope f cdv A outer s H E) [] (start N vs) H s1:=wf S hr.hd e0 hl r x;refine yR (ht [] s1 (start N vs) H _ I hq) (fun fl s' hs=>?_) fun e s' hs=>hs
 have aE:∀ {σ':St}{H':Hp}{v:V}{u:Value},Inv (oy CX P w K mg base N qual scope f cdv A outer s H E) [] σ' H' s'->RelV v u->Q v H'->CE outer P w H s Q u s' :=
  fun {σ' H' v u} J rv q=>⟨v,H',J.os,J.bare,J.base,J.LA,rv,q⟩
 cases fl with
 | ret u =>
  obtain ⟨v,σ',H',J,rv,q⟩:=hs;exact aE J rv q
 | next =>
  obtain ⟨σ',H',J,q⟩:=hs;exact aE (v:=V.non) (u:=Value.none) J rfl q
 | brk =>
  obtain ⟨_,_,_,q⟩:=hs;exact False.elim q
 | cont =>
  obtain ⟨_,_,_,q⟩:=hs;exact False.elim q
section
variable {X:Cx}{x:Str}{p pos:Pos}{e:Expr}{es:List Expr}{t:TA}{id T:String}{r:List V->Hp->VK->Prop}
def CK (r:List V->Hp->VK->Prop) (t:TA):TE:=fun σ H Q=>t σ H fun vs H1=>r vs H1 Q
theorem qe (hc:cb X (.builtin id) r) (hg:Gl X x) (hm:X.mg x=none) (hv:bootBuiltins x=some (.builtin id)) (ha:PA X (e::es) t) (hn:x ≠ "__name__":=by decide) (hdb:(x == ("__debug__":Str))=false:=by decide)
  (he:starEach (e::es) X.env=(false,eval e X.env)::starEach es X.env:=by rfl) (hpl:(backTo pos (starEach es X.env)).any (·.1)=false:=by rfl):PE X (.Call (.Name x p) (e::es) [] pos) (CK r t):=by
 intro Lu s σ H Q I h;refine wpAny_Call_Name_kw (cV I hg hm hv ?_ hn hdb);exact PyProof.Rows.callWith_builtin1 (aA (ha pos Lu s σ H _ I h) fun us s1 ⟨vs,H1,I1,r1,q1⟩=>hc Lu s1 σ H1 vs us Q I1 r1 q1) he hpl
theorem oO (hc:cb X (.type T) r) (hg:Gl X x) (hm:X.mg x=none) (hv:bootBuiltins x=some (.type T)) (ha:PA X (e::es) t) (hn:x ≠ "__name__":=by decide) (hdb:(x == ("__debug__":Str))=false:=by decide)
  (he:starEach (e::es) X.env=(false,eval e X.env)::starEach es X.env:=by rfl) (hpl:(backTo pos (starEach es X.env)).any (·.1)=false:=by rfl):PE X (.Call (.Name x p) (e::es) [] pos) (CK r t):=by
 intro Lu s σ H Q I h;refine wpAny_Call_Name_kw (cV I hg hm hv ?_ hn hdb);exact PyProof.Rows.callWith_type1 (aA (ha pos Lu s σ H _ I h) fun us s1 ⟨vs,H1,I1,r1,q1⟩=>hc Lu s1 σ H1 vs us Q I1 r1 q1) he hpl
end
end L2
namespace HT
open PySem PyProof.Rows
theorem rcLt_int (A:Around) (s:Shared) (a:Int) (t:Tok) (c:Int) (u:Tok) (prog:Program) (w:World) (E:Value->Shared->Prop) (Q:Value->Shared->Prop) (h:Q (.bool (decide (a < c))) s) :
  wpAny (model prog w) A (richCompare .Lt (.int a t) (.int c u)) Q E s :=
 (PyProof.Rows.lt_int h:wpAny (model prog w) A (compareOp .Lt (.int a t) (.int c u)) Q E s)
section
variable {prog:Program}{w:World}{A:Around}{E:Value->Shared->Prop}{s:Shared}
noncomputable def Mg (n d:Nat):Option Int->Nat
 | none=>d
 | some v=>if v < 0 then (v + (n:Int)).toNat else min v.toNat n
theorem sIx_none (n d:Nat):Mg n d none=d:=rfl
theorem sIx_nat (n d k:Nat):Mg n d (some (k:Int))=min k n:=by
 show (if (k:Int) < 0 then ((k:Int) + (n:Int)).toNat else min (k:Int).toNat n)=min k n;rw [yH oM,Int.toNat_natCast]
end
end HT
namespace L2
open PySem PySem.Spec PyProof.Rows
abbrev TO:=St->Hp->(Option Int->Hp->Prop)->Prop
def PO (X:Cx) (e:Option Expr) (t:TO):Prop :=
 ∀ (Lu:List (Addr × Obj)) (s:Shared) (σ:St) (H:Hp) (Q:Option Int->Hp->Prop),Inv X Lu σ H s->t σ H Q ->
  wpAny (model X.prog X.w) X.A (evalPart e X.env) (fun u s'=>∃ o H',Inv X Lu σ H' s'/\IsPart u o/\Q o H') X.xe s
noncomputable def AT:TO:=fun _ H Q=>Q none H
noncomputable def FU (t:TE):TO:=fun σ H Q=>t σ H fun x H1=>∃ i,x=.int i/\Q (some i) H1
theorem jN {ns:List Int}:∀ {us:List Value},Vals (ns.map V.int) us->IntsAre us ns:=by
 induction ns with
 | nil=>intro us r;rw [List.map_nil] at r;cases r;exact .nil
 | cons n ns ih =>
  intro us r;rw [zO] at r;cases r with
  | cons r1 r2 =>
   obtain ⟨t,e⟩:=r1;subst e;exact .cons n t (ih r2)
section
variable {X:Cx}{e:Expr}{te:TE}{lo hi:Option Expr}{tl th:TO}{pos p2:Pos}
theorem Bs:PO X none AT:=by
 intro Lu s σ H Q I h;rw [evalPart_none];exact yG ⟨none,H,I,.none,h⟩
theorem Br (h:PE X e te):PO X (some e) (FU te):=by
 intro Lu s σ H Q I hw;rw [evalPart_some];refine aA (h Lu s σ H _ I hw) fun u s1 hq0=>?_
 obtain ⟨x,H1,I1,r1,q1⟩:=hq0;obtain ⟨i,rfl,q⟩:=q1;obtain ⟨t,rfl⟩:=r1;exact ⟨some i,H1,I1,.int i t,q⟩
def LG (X:Cx) (r:V->Option Int->Option Int->Hp->VK->Prop):Prop :=
 ∀ (Lu:List (Addr × Obj)) (s:Shared) (σ:St) (H:Hp) (x:V) (v vl vu:Value) (lo hi:Option Int) (sl:Addr) (Q:VK),Inv X Lu σ H s->RelV x v->s.heap.IsSliceOf sl vl vu .none->IsPart vl lo->IsPart vu hi->r x lo hi H Q ->
  ∃ T id,typeLookup (.type T) "__getitem__"=pure (some (.builtin id))/\s.TypeIs v T/\wpAny (model X.prog X.w) X.A (getItem v (.ref sl)) (EP X Lu σ Q) X.xe s
def HK (r:V->Option Int->Option Int->Hp->VK->Prop) (te:TE) (tl th:TO):TE:=fun σ H Q=>te σ H fun x H1=>tl σ H1 fun l H2=>th σ H2 fun u H3=>r x l u H3 Q
theorem xF {r:V->Option Int->Option Int->Hp->VK->Prop} (hr:LG X r) (he:PE X e te) (hl:PO X lo tl) (hu:PO X hi th):PE X (.Subscript e (.Slice lo hi none p2) pos) (HK r te tl th):=by
 intro Lu s σ H Q I h;refine Subscript_ (aA (he Lu s σ H _ I h) fun v s1 hq0=>?_);obtain ⟨x,H1,I1,r1,q1⟩:=hq0;refine wpAny_Slice (aA (hl Lu s1 σ H1 _ I1 q1) fun vl s2 ⟨l,H2,I2,pl,q2⟩=>aA (hu Lu s2 σ H2 _ I2 q2) fun vu s3 hq0=>?_);obtain ⟨u,H3,I3,pu,q3⟩:=hq0;rw [evalPart_none];refine yG ?_;have I4:Inv X Lu σ H3 { s3 with heap:=s3.heap.push { cls:=.type "slice",data:=.fields #[vl,vu,.none] } }:=I3.kept (t':=s3.toks) fun b ob q=>zG _ q
 obtain ⟨T,id,hT,ht,hg⟩:=hr Lu { s3 with heap:=s3.heap.push { cls:=.type "slice",data:=.fields #[vl,vu,.none] } } σ H3 x v vl vu l u s3.heap.objs.size Q I4 r1 (Heap.IsSliceOf.new ..) pl pu q3;show wpAny (model X.prog X.w) X.A (subscriptTail e (.Slice lo hi none p2) v (.ref s3.heap.objs.size)) (EP X Lu σ Q) X.xe { s3 with heap:=s3.heap.push { cls:=.type "slice",data:=.fields #[vl,vu,.none] } };exact tail_any (ops:=[.ref s3.heap.objs.size,v]) ht hT hg (by with_unfolding_all rfl)
def oz (xs:List V) (lo hi:Option Int):List V:=(xs.drop (HT.Mg xs.length 0 lo)).take (HT.Mg xs.length xs.length hi - HT.Mg xs.length 0 lo)
theorem rY (xs:List V) (lo hi:Option Int):(oz xs lo hi).length <= xs.length:=by
 unfold oz;rw [List.length_take,List.length_drop];omega
end
noncomputable def jv (n:Nat) (i:Int):Option Nat:=if 0 <= i then (if i < n then some i.toNat else none) else if -(n:Int) <= i then some (i + n).toNat else none
def fL {α:Type} (xs:List α) (i:Int):Option α:=(jv xs.length i).bind fun j=>xs[j]?
theorem om {n:Nat}{i:Int}{j:Nat} (h:jv n i=some j):seqIndex? i n=some j/\j < n/\-(n:Int) <= i/\i < n:=by
 unfold jv at h;by_cases h0:0 <= i
 ·rw [yI h0] at h
  by_cases h1:i < n
  ·rw [yI h1] at h
   have e:i.toNat=j:=yE h;exact ⟨by rw [seqIndex_of h0 h1,e],by omega,by omega,h1⟩
  ·rw [yH h1] at h;cases h
 ·rw [yH h0] at h
  by_cases h1:-(n:Int) <= i
  ·rw [yI h1] at h
   have e:(i + n).toNat=j:=yE h;exact ⟨by rw [seqIndex_neg oM h1,e],by omega,h1,by omega⟩
  ·rw [yH h1] at h;cases h
theorem lL {α:Type}{xs:List α}{i:Int}{v:α} (h:fL xs i=some v):∃ j,seqIndex? i xs.length=some j/\xs[j]?=some v/\j < xs.length/\-(xs.length:Int) <= i/\i < xs.length:=by
 unfold fL at h;cases e:jv xs.length i with
 | none=>rw [e] at h;cases h
 | some j =>
  rw [e] at h;obtain ⟨h1,h2,h3,h4⟩:=om e;exact ⟨j,h1,h,h2,h3,h4⟩
def oG (b:Expr):Prop:=∀ o i,subscripted b false o i=operate [o,i] (getItem o i)
def IxR (X:Cx) (r:R2):Prop :=
 ∀ (value slice:Expr) (Lu:List (Addr × Obj)) (s:Shared) (σ:St) (H:Hp) (x y:V) (v u:Value) (Q:VK),Inv X Lu σ H s->RelV x v->RelV y u->r x y H Q ->
  subscripted slice false v u=operate [v,u] (getItem v u)->wpAny (model X.prog X.w) X.A (subscriptTail value slice v u) (EP X Lu σ Q) X.xe s
def mj (X:Cx) (id:String) (r:V->List V->Hp->VK->Prop):Prop :=
 ∀ (Lu:List (Addr × Obj)) (s:Shared) (σ:St) (H:Hp) (x:V) (xs:List V) (v:Value) (us:List Value) (Q:VK),Inv X Lu σ H s->RelV x v->Vals xs us->r x xs H Q ->
  wpAny (model X.prog X.w) X.A (call (.builtin id) (v::us)) (EP X Lu σ Q) X.xe s
section
variable {X:Cx}{a b:Expr}{ta tb:TE}{pos:Pos}
theorem IxR.or {r r':R2} (h:IxR X r) (h':IxR X r'):IxR X (fun x y H Q=>r x y H Q\/r' x y H Q):=by
 intro value slice Lu s σ H x y v u Q I rx ry q hs;rcases q with q | q
 ·exact h value slice Lu s σ H x y v u Q I rx ry q hs
 ·exact h' value slice Lu s σ H x y v u Q I rx ry q hs
theorem Gw {r:R2} (hr:IxR X r) (ha:PE X a ta) (hb:PE X b tb) (hs:oG b):PE X (.Subscript a b pos) (vc r ta tb):=by
 intro Lu s σ H Q I h;exact Subscript_ (y8 ha hb I h fun v u s2 x y H2 I2 rx ry q=>hr a b Lu s2 σ H2 x y v u Q I2 rx ry q (hs _ _))
def CW (K:Frag):R2:=fun x y H Q=>∃ p xs i v,x=.ref p/\y=.int i/\aP K H p xs/\fL xs i=some v/\Q v H
def CU (K:Frag):R2:=fun x y H Q=>∃ p xs i v,x=.ref p/\y=.int i/\fU K H p xs/\fL xs i=some v/\Q v H
def CV:R2:=fun x y H Q=>∃ z i c,x=.str z/\y=.int i/\z.length <= sizeLine/\fL z.cps.toList i=some c/\Q (.str ⟨#[c]⟩) H
theorem ix_list:IxR X (CW X.K):=by
 intro value slice Lu s σ H x y v u Q I rx ry h hs;obtain ⟨p,xs,i,z,rfl,rfl,hq,he,q⟩:=h;cases rx;obtain ⟨t,rfl⟩:=ry;obtain ⟨Lx,r,pl,hz⟩:=I.list hq;obtain ⟨j,h1,h2,h3,h4,h5⟩:=lL he;obtain ⟨w,ew,rw'⟩:=r.get h2;have hl:=r.length;have hn:=gB;have aE:EP X Lu σ Q w s:=⟨z,H,I,rw',q⟩;by_cases h0:0 <= i
 ·have hj:i.toNat=j:=by
   rw [seqIndex_of h0 h5] at h1;exact yE h1
  exact item_listR pl.isList h0 oM (by rw [hj];simpa using ew) aE hs
 ·have hj:(i + (Lx.toArray.size:Int)).toNat=j:=by
   rw [seqIndex_neg oM h4] at h1;rw [zI,<- hl];exact yE h1
  exact subscriptTail_builtinR (x:=w) pl.isList.typeIs slot_list_getitem.lookup
   (wpAny_getItem_list_neg (Q:=fun r s'=>r=w/\EP X Lu σ Q r s') pl.isList oM (by rw [zI] <;> omega) oM (by rw [hj];simpa using ew) ⟨rfl,aE⟩) hs
theorem ix_tup:IxR X (CU X.K):=by
 intro value slice Lu s σ H x y v u Q I rx ry h hs;obtain ⟨p,xs,i,z,rfl,rfl,hq,he,q⟩:=h;cases rx;obtain ⟨t,rfl⟩:=ry;obtain ⟨Lx,r,pl,hz⟩:=I.tuple hq;obtain ⟨j,h1,h2,h3,h4,h5⟩:=lL he;obtain ⟨w,ew,rw'⟩:=r.get h2;have hl:=r.length;have hn:=gB;have aE:EP X Lu σ Q w s:=⟨z,H,I,rw',q⟩;exact subscriptTail_builtinR (x:=w) pl.typeIs slot_tuple_getitem.lookup
  (getItem_tuple (j:=j) (Q:=fun r s'=>r=w/\EP X Lu σ Q r s') pl oM oM (by rw [zI,<- hl];exact h1) (by simpa using ew) ⟨rfl,aE⟩) hs
theorem EL:IxR X CV:=by
 intro value slice Lu s σ H x y v u Q I rx ry h hs;obtain ⟨z,i,c,rfl,rfl,hz,he,q⟩:=h;obtain ⟨t,rfl⟩:=rx;obtain ⟨t',rfl⟩:=ry;obtain ⟨j,h1,h2,h3,h4,h5⟩:=lL he;have hl:z.cps.toList.length=z.length:=by simp [Str.length]
 rw [hl] at h1 h4 h5;have hn:=gB;exact tail_any (typeIs_str s z t) slot_str_getitem.lookup (getItem_str (c:=c) (by
  have e1:decide (i < -(2 ^ 63:Int))=false:=yA oM;have e2:decide (i ≥ 2 ^ 63)=false:=yA oM;rw [e1,e2,Bool.or_false]) (by rw [h1];simpa using h2) ⟨.str ⟨#[c]⟩,H,I.tok _,⟨_,rfl⟩,q⟩) hs
def Kh (K:Frag):R2:=fun x y H Q=>CW K x y H Q\/CU K x y H Q\/CV x y H Q
theorem qI:IxR X (Kh X.K):=ix_list.or (ix_tup.or EL)
theorem ui (Lx:List Value) (n j:Nat) (u:Value):Obj.mapSeq (·.setIfInBounds j u) { cls:=.type "list",data:=.seq Lx.toArray n }={ cls:=.type "list",data:=.seq (Lx.set j u).toArray n }:=by
 simp [Obj.mapSeq]
theorem Inv.lst {Lu:List (Addr × Obj)}{σ:St}{H:Hp}{s:Shared}{p:Addr}{xs:List V} (I:Inv X Lu σ H s) (h:H p=some (.lst xs)) :
  ∃ (Lx:List Value) (n:Nat),Vals xs Lx/\s.heap.get? p=some { cls:=.type "list",data:=.seq Lx.toArray n }/\xs.length <= sizeLine:=by
 obtain ⟨z,Lx,n,r,e⟩:=I.LA p _ h;exact ⟨Lx,n,r,e,z⟩
theorem Inv.lstUpd {Lu:List (Addr × Obj)}{σ:St}{H:Hp}{s:Shared}{p:Addr}{xs ys:List V}{Lx its':List Value}{n n':Nat}{f:Obj->Obj} (I:Inv X Lu σ H s) (h:H p=some (.lst xs))
  (ho:s.heap.get? p=some { cls:=.type "list",data:=.seq Lx.toArray n }) (hf:f { cls:=.type "list",data:=.seq Lx.toArray n }={ cls:=.type "list",data:=.seq its'.toArray n' }) (r:Vals ys its') (hz:ys.length <= sizeLine) (t:Nat) :
  Inv X Lu σ (af H p (.lst ys)) { s with heap:=s.heap.update p f,toks:=t }:=by
 have e:(s.heap.update p f).get? p=some { cls:=.type "list",data:=.seq its'.toArray n' }:=by
  rw [Heap.get?_update_self f ho (by rw [hf] <;> rfl),hf]
 refine I.write (x:=p) (e:=p) (by rw [h];trivial) (.inl rfl) (fun b u hb q=>(Heap.get?_update_other _ _ (Ne.symm hb)).trans q) ⟨_,e⟩ ?_;exact ⟨hz,its',n',r,e⟩
def F5:V->V->V->Hp->(Hp->Prop)->Prop:=fun o i v H Q=>∃ p xs k j,o=.ref p/\i=.int k/\H p=some (.lst xs)/\jv xs.length k=some j/\Q (af H p (.lst (xs.set j v)))
theorem xj:uU X F5:=by
 intro Lu s σ H o i v ov iv u Q I ro ri rv h;obtain ⟨p,xs,k,j,rfl,rfl,hp,hj,q⟩:=h;cases ro;obtain ⟨t,rfl⟩:=ri;obtain ⟨Lx,n,r,ho,hz⟩:=I.lst hp;obtain ⟨h1,h2,h3,h4⟩:=om hj;have hl:=r.length;have hn:=gB;have I':Inv X Lu σ (af H p (.lst (xs.set j v))) { s with heap:=s.heap.update p (Obj.mapSeq (·.setIfInBounds j u)) } :=
  I.lstUpd hp ho (ui Lx n j u) (r.set rv j) (by rw [List.length_set];exact hz) s.toks
 by_cases h0:0 <= k
 ·have hk:k.toNat=j:=by
   rw [seqIndex_of h0 h4] at h1;exact yE h1
  exact ki_setAt ho h0 oM (by rw [zI,<- hl];exact h4) (by rw [hk];exact ⟨_,I',q⟩)
 ·have hk:(k + (Lx.toArray.size:Int)).toNat=j:=by
   rw [seqIndex_neg oM h3] at h1;rw [zI,<- hl];exact yE h1
  exact ki_setBack ho oM (by rw [zI,<- hl];exact h3) oM (by rw [hk];exact ⟨_,I',q⟩)
theorem pX (lo hi:Option Int) (n:Nat):(sliceBounds lo hi none n).1=((HT.Mg n 0 lo:Nat):Int)/\(sliceBounds lo hi none n).2.1=((HT.Mg n n hi:Nat):Int)/\(sliceBounds lo hi none n).2.2=1:=by
 refine ⟨?_,?_,rfl⟩
 ·cases lo with
  | none=>simp [sliceBounds,HT.Mg]
  | some i =>
   simp only [sliceBounds,HT.Mg,Option.getD_none,show (1:Int) > 0 by decide,if_true];by_cases h:i < 0
   ·simp only [h,if_true] <;> omega
   ·simp only [h,if_false] <;> omega
 ·cases hi with
  | none=>simp [sliceBounds,HT.Mg]
  | some i =>
   simp only [sliceBounds,HT.Mg,Option.getD_none,show (1:Int) > 0 by decide,if_true];by_cases h:i < 0
   ·simp only [h,if_true] <;> omega
   ·simp only [h,if_false] <;> omega
theorem pj (Lx:List Value) (lo hi:Option Int):slicePick Lx.toArray lo hi none=((Lx.drop (HT.Mg Lx.length 0 lo)).take (HT.Mg Lx.length Lx.length hi - HT.Mg Lx.length 0 lo)).toArray:=by
 obtain ⟨h1,h2,h3⟩:=pX lo hi Lx.toArray.size;unfold slicePick;rw [h1,h2,h3];simp only [sliceRange_one,pick_run,zI] <;> rfl
def Jj (K:Frag):V->Option Int->Option Int->Hp->VK->Prop:=fun x lo hi H Q=>∃ a xs,x=.ref a/\aP K H a xs/\∀ p,H p=none->Q (.ref p) (af H p (.lst (oz xs lo hi)))
theorem AX:LG X (Jj X.K):=by
 intro Lu s σ H x v vl vu lo hi sl Q I rx hs pl pu h;obtain ⟨a,xs,rfl,hx,q⟩:=h;cases rx;obtain ⟨Lx,r,ht,hz⟩:=I.list hx;have hlen:=r.length;refine ⟨"list",_,slot_list_getitem.lookup,ht.isList.typeIs,?_⟩;refine wpAny_getItem_list_slice ht.isList hs pl pu .none (by simp) ?_ (by rw [zI] <;> omega);rw [pj,<- hlen];refine ⟨.ref s.heap.objs.size,_,I.laid (t':=s.toks) (o:=.lst (oz xs lo hi)) (fun b ob q=>zG _ q) (zP _) ?_,rfl,q _ (I.LA.fresh (zP _))⟩;exact ⟨z0 (rY xs lo hi) hz,_,0,(r.drop (HT.Mg xs.length 0 lo)).take (HT.Mg xs.length xs.length hi - HT.Mg xs.length 0 lo),zY _ rfl⟩
theorem k8:cb X (.builtin "len") (fun xs H Q=>∃ p ys,xs=[.ref p]/\(aP X.K H p ys\/fU X.K H p ys)/\Q (.int ys.length) H):=by
 intro Lu s σ H xs us Q I r h;obtain ⟨p,ys,rfl,hq,q⟩:=h;obtain ⟨u,rfl,rx⟩:=dL r;cases rx;have hn:=gB;rcases hq with hq | hq
 ·obtain ⟨Lx,r',pl,hz⟩:=I.list hq
  have hlen:=r'.length;exact Calls.call_len_list pl.isList (by simp only [zI] <;> omega) ⟨.int ys.length,H,I.tok _,⟨s.toks + 1,by rw [zI,hlen]⟩,q⟩
 ·obtain ⟨Lx,r',pl,hz⟩:=I.tuple hq
  have hlen:=r'.length;exact len_tuple pl (by simp only [zI] <;> omega) ⟨.int ys.length,H,I.tok _,⟨s.toks + 1,by rw [zI,hlen]⟩,q⟩
theorem rh:cb X (.builtin "len") (fun xs H Q=>∃ z,xs=[.str z]/\z.length <= sizeLine/\Q (.int z.length) H):=by
 intro Lu s σ H xs us Q I r h;obtain ⟨z,rfl,hz,q⟩:=h;obtain ⟨u,rfl,t,rfl⟩:=dL r;have hn:=gB;exact len_str oM ⟨.int z.length,H,I.tok _,⟨_,rfl⟩,q⟩
theorem rg:cb X (.type "list") (fun xs H Q=>∃ p ys,xs=[.ref p]/\(aP X.K H p ys\/fU X.K H p ys)/\∀ l,H l=none->Q (.ref l) (af H l (.lst ys))):=by
 intro Lu s σ H xs us Q I r h;obtain ⟨p,ys,rfl,hq,q⟩:=h;obtain ⟨u,rfl,rx⟩:=dL r;cases rx;have aE:∀ (Lx:List Value),Vals ys Lx->ys.length <= sizeLine->∀ (h':Heap) (c':Nat),(∀ b o',s.heap.get? b=some o'->h'.get? b=some o') ->
   h'.get? s.heap.objs.size=some { cls:=.type "list",dict:=none,data:=.seq Lx.toArray c',slots:=#[] }->EP X Lu σ Q (.ref s.heap.objs.size) { s with heap:=h' }:=fun Lx r' hz h' c' kp e =>
  ⟨.ref s.heap.objs.size,_,I.laid (t':=s.toks) kp (zP _) (show ObjOk X.prog X.w _ h' _ (.lst ys) from ⟨hz,Lx,c',r',e⟩),rfl,q _ (I.LA.fresh (zP _))⟩
 rcases hq with hq | hq
 ·obtain ⟨Lx,r',pl,hz⟩:=I.list hq
  have hlen:=r'.length;obtain ⟨o,ho,hc,n,hd⟩:=pl.isList;exact call_list_seq p (.inl rfl) ho hc hd (fun h' c' kp e=>aE Lx r' hz h' c' kp e) (by simp only [zI] <;> omega)
 ·obtain ⟨Lx,r',pl,hz⟩:=I.tuple hq
  have hlen:=r'.length;obtain ⟨o,ho,hc,n,hd⟩:=pl;exact call_list_seq p (.inr rfl) ho hc hd (fun h' c' kp e=>aE Lx r' hz h' c' kp e) (by simp only [zI] <;> omega)
def uZ (K:Frag) (T:String) (x:V) (H:Hp):Prop:=match x with
 | .str _=>T="str"
 | .int _=>T="int"
 | .ref p=>(T="list"/\∃ xs,aP K H p xs)\/(T="tuple"/\∃ o,K.lookup p=some o/\o.cls=.type "tuple"/\o.dict=none) \/
   (T="dict"/\((∃ Lv,H p=some (.dK Lv))\/∃ Lv,H p=some (.dT Lv)))\/(T="set"/\∃ S n,H p=some (.set S n))
 | _=>False
theorem uY {Lu:List (Addr × Obj)}{σ:St}{H:Hp}{s:Shared}{T:String}{x:V}{v:Value} (I:Inv X Lu σ H s) (r:RelV x v) (ty:uZ X.K T x H) :
  s.TypeIs v T/\∀ a,v=.ref a->∃ ob,s.heap.get? a=some ob/\ob.dict=none:=by
 cases x with
 | str z =>
  obtain ⟨t,rfl⟩:=r;cases (show T="str" from ty);exact ⟨typeIs_str s z t,fun _ e=>nomatch e⟩
 | int i =>
  obtain ⟨t,rfl⟩:=r;cases (show T="int" from ty);exact ⟨typeIs_int s i t,fun _ e=>nomatch e⟩
 | ref p =>
  cases r;rcases ty with ⟨rfl,xs,hq⟩ | ⟨rfl,o,hk,hc,hd⟩ | ⟨rfl,hk⟩ | ⟨rfl,S,n,hk⟩
  ·obtain ⟨Lx,_,pl,_⟩:=I.list hq
   refine ⟨pl.isList.typeIs,fun a e=>?_⟩;cases e;obtain ⟨o,n,e,c,hd,_⟩:=pl;exact ⟨o,e,hd⟩
  ·refine ⟨⟨o,I.kIn p o hk,hc⟩,fun a e=>?_⟩
   cases e;exact ⟨o,I.kIn _ o hk,hd⟩
  ·have z:∃ o,s.heap.get? p=some o/\o.ExactDict:=by
    rcases hk with ⟨Lv,hk⟩ | ⟨Lv,hk⟩
    ·obtain ⟨_,_,_,_,o,_,_,e,ex,_⟩:=I.LA p _ hk
     exact ⟨o,e,ex⟩
    ·obtain ⟨_,_,_,_,o,_,_,e,ex,_⟩:=I.LA p _ hk
     exact ⟨o,e,ex⟩
   obtain ⟨o,e,ex⟩:=z;refine ⟨⟨o,e,ex.1⟩,fun a e2=>?_⟩;cases e2;exact ⟨o,e,ex.2.1⟩
  ·obtain ⟨o,_,_,_,e,ex,_⟩:=I.LA p _ hk
   refine ⟨⟨o,e,ex.1⟩,fun a e2=>?_⟩;cases e2;exact ⟨o,e,ex.2.1⟩
 | _=>exact False.elim ty
def Jd (K:Frag) (T:String) (r:V->List V->Hp->VK->Prop) (to:TE):TE:=fun σ H Q=>to σ H fun x H1=>uZ K T x H1/\r x [] H1 Q
def HM (K:Frag) (T:String) (r:V->List V->Hp->VK->Prop) (to:TE) (t:TA):TE:=fun σ H Q=>to σ H fun x H1=>uZ K T x H1/\t σ H1 fun xs H2=>r x xs H2 Q
variable {o e:Expr}{es:List Expr}{to:TE}{t:TA}{name:Str}{apos cpos:Pos}{T id:String}{r:V->List V->Hp->VK->Prop}
theorem DI (pa:PlainAttrs T) (slot:Slot T name id) (hty:typeOf (.builtin id)=pure (.type "method_descriptor")) (hm:mj X id r) (ho:PE X o to)
  (hbase:attributeBase o name X.env (eval o X.env)=eval o X.env:=by rfl) (hline:(apos.endLine == cpos.line)=true:=by rfl):PE X (.Call (.Attribute o name apos) [] [] cpos) (Jd X.K T r to):=by
 intro Lu s σ H Q I h;refine wpAny_Call_method0_late hbase hline (aA (ho Lu s σ H _ I h) fun v s1 hq0=>?_);obtain ⟨x,H1,I1,r1,ty,q1⟩:=hq0;obtain ⟨h1,h2⟩:=uY I1 r1 ty;exact ⟨T,id,pa,slot,hty,h1,h2,Calls.callWith_builtin rfl (PySem.evalArgs_none (hm Lu s1 σ H1 x [] v [] Q I1 r1 .nil q1))⟩
theorem Gx (pa:PlainAttrs T) (slot:Slot T name id) (hty:typeOf (.builtin id)=pure (.type "method_descriptor")) (hm:mj X id r) (ho:PE X o to) (ha:PA X (e::es) t)
  (hbase:attributeBase o name X.env (eval o X.env)=eval o X.env:=by rfl)
  (hfew:((backTo cpos (starEach (e::es) X.env)).all (fun x=>!x.1) && (backToKw cpos (keywordEach [] X.env)).all (fun x=>x.1.isSome)
   && decide ((e::es).length + ([]:List Keyword).length + (if ([]:List Keyword).isEmpty then 0 else 1) < 30))=true:=by rfl)
  (hline:(apos.endLine == cpos.line)=true:=by rfl) (hs:starEach (e::es) X.env=(false,eval e X.env)::starEach es X.env:=by rfl) (hplain:(backTo cpos (starEach es X.env)).any (·.1)=false:=by rfl) :
  PE X (.Call (.Attribute o name apos) (e::es) [] cpos) (HM X.K T r to t):=by
 intro Lu s σ H Q I h;refine wpAny_Call_method_late hbase hfew hline rfl (aA (ho Lu s σ H _ I h) fun v s1 hq0=>?_);obtain ⟨x,H1,I1,r1,ty,q1⟩:=hq0;obtain ⟨h1,h2⟩:=uY I1 r1 ty;refine ⟨T,id,pa,slot,hty,h1,h2,?_⟩;have hA:=ha cpos Lu s1 σ H1 _ I1 q1;rw [hs] at hA ⊢;refine Calls.callWith_builtin (by show (false || (backTo cpos (starEach es X.env)).any (·.1))=false;rw [hplain] <;> rfl) (Calls.evalArgs_plain ?_);exact aA hA fun us s2 ⟨vs,H2,I2,r2,q2⟩=>hm Lu s2 σ H2 x vs v us Q I2 r1 r2 q2
end
def FC (X:Cx) (id:String) (r:V->List V->Hp->VK->Prop):Prop :=
 ∀ (Lu:List (Addr × Obj)) (s:Shared) (σ:St) (H:Hp) (x:V) (xs:List V) (v:Value) (us:List Value) (Q:VK),Inv X Lu σ H s->RelV x v->Vals xs us->r x xs H Q ->
  wpAny (model X.prog X.w) X.A (call (.builtin id) (v::us)) (EP X Lu σ Q) X.xe s
theorem Vals.one {x:V}{us:List Value} (h:Vals [x] us):∃ u,us=[u]/\RelV x u:=by
 cases h with
 | cons r h=>cases h;exact ⟨_,rfl,r⟩
theorem Vals.eraseIdx:∀ {xs:List V}{us:List Value} (i:Nat),Vals xs us->Vals (xs.eraseIdx i) (us.eraseIdx i)
 | _,_,_,.nil=>.nil
 | _,_,0,.cons _ t=>t
 | _,_,i + 1,.cons r t=>.cons r (Vals.eraseIdx i t)
theorem Vals.rep {xs:List V}{us:List Value} (h:Vals xs us):∀ k:Nat,Vals (List.replicate k xs).flatten (List.replicate k us).flatten
 | 0=>.nil
 | k + 1=>by
  rw [List.replicate_succ,List.replicate_succ,List.flatten_cons,List.flatten_cons];exact Vals.append h (Vals.rep h k)
theorem oQ {α:Type}:∀ (l:List α) (i:Nat),(l.eraseIdx i).length <= l.length
 | [],_=>zP _
 | _::_,0=>Nat.le_succ _
 | _::r,i + 1=>Nat.succ_le_succ (oQ r i)
theorem oV (Lx:List Value):∀ (k:Nat) (acc:List Value),
  List.foldl (fun x1 x2=>x1++x2) acc.toArray (List.replicate k Lx.toArray)=(acc++(List.replicate k Lx).flatten).toArray
 | 0,acc=>by simp
 | k + 1,acc=>by
  have e:acc.toArray++Lx.toArray=(acc++Lx).toArray:=by simp
  have e2:(acc++Lx)++(List.replicate k Lx).flatten=acc++(List.replicate (k + 1) Lx).flatten:=by
   rw [List.replicate_succ,List.flatten_cons,yN]
  rw [<- e2,<- oV Lx k (acc++Lx),<- e,List.replicate_succ,List.foldl_cons]
section
variable {X:Cx}{Lu:List (Addr × Obj)}{σ:St}{H:Hp}{s:Shared}{l b:Addr}{xs ys zs:List V}
theorem Inv.lset {Lx its':List Value}{n:Nat}{f:Array Value->Array Value}{t':Nat} (I:Inv X Lu σ H s) (hH:H l=some (.lst xs))
  (e:s.heap.get? l=some { cls:=.type "list",data:=.seq Lx.toArray n }) (hf:f Lx.toArray=its'.toArray) (hv:Vals ys its') (hz:ys.length <= sizeLine) :
  Inv X Lu σ (af H l (.lst ys)) { s with heap:=s.heap.update l (Obj.mapSeq f),toks:=t' }:=by
 have q:=PySem.IsL.update e f;rw [hf] at q;refine I.write (x:=l) (e:=l) (by rw [hH];exact trivial) (.inl rfl) (fun b' u hb hu=>(Heap.get?_update_other s.heap (Obj.mapSeq f) (Ne.symm hb)).trans hu) ⟨_,q⟩ ?_;exact ⟨hz,its',_,hv,q⟩
theorem Inv.lnew {Lx:List Value}{t':Nat} (I:Inv X Lu σ H s) (hv:Vals ys Lx) (hz:ys.length <= sizeLine) :
  Inv X Lu σ (af H s.heap.objs.size (.lst ys)) { s with heap:=s.heap.push { cls:=.type "list",data:=.seq Lx.toArray },toks:=t' } :=
 I.laid (fun _ _ q=>zG _ q) (zP _) ⟨hz,Lx,0,hv,zY _ rfl⟩
theorem Inv.fresh (I:Inv X Lu σ H s):H s.heap.objs.size=none:=I.LA.fresh (zP _)
theorem Inv.lstM (I:Inv X Lu σ H s) (hH:H l=some (.lst xs)):xs.length <= sizeLine/\∃ (Lx:List Value) (n:Nat),Vals xs Lx/\xs.length=Lx.length/\s.heap.get? l=some { cls:=.type "list",data:=.seq Lx.toArray n }:=by
 obtain ⟨z,Lx,n,r,e⟩:=I.LA l _ hH;exact ⟨z,Lx,n,r,r.length,e⟩
theorem notLongL {n:Nat} (h:n <= sizeLine):Builtin.List.listTooLong n=false:=by
 unfold Builtin.List.listTooLong;exact yA oM
end
section
variable {X:Cx}
def A0:V->List V->Hp->VK->Prop:=fun x vs H Q=>∃ l xs y,x=.ref l/\vs=[y]/\H l=some (.lst xs)/\xs.length < sizeLine/\Q .non (af H l (.lst (xs++[y])))
theorem oP:FC X "list.append" A0:=by
 intro Lu s σ H x vs v us Q I rx rv h;obtain ⟨l,xs,y,rfl,rfl,hH,hz,q⟩:=h;cases rx;obtain ⟨u,rfl,ru⟩:=rv.one;obtain ⟨z,Lx,n,r,hl,e⟩:=I.lstM hH;refine call_meets F.slot_list_append ⟨_,e,rfl⟩ F.entry_list_append (F.args_list_append_2 _ _) (PySem.list_append l Lx.toArray n u (by rw [zI];omega)) ⟨e,?_⟩;refine ⟨.non,_,I.lset (its':=Lx++[u]) hH e (by simp) (r.append (.cons ru .nil)) ?_,rfl,q⟩;rw [zV,List.length_singleton];omega
def CT:V->List V->Hp->VK->Prop:=fun x vs H Q=>∃ l xs i k y,x=.ref l/\vs=[.int i]/\H l=some (.lst xs)/\-(2 ^ 63) <= i/\i < 2 ^ 63/\seqIndex? i xs.length=some k/\xs[k]?=some y/\Q y (af H l (.lst (xs.eraseIdx k)))
theorem xV:FC X "list.pop" CT:=by
 intro Lu s σ H x vs v us Q I rx rv h;obtain ⟨l,xs,i,k,y,rfl,rfl,hH,h1,h2,hk,hy,q⟩:=h;cases rx;obtain ⟨u,rfl,ru⟩:=rv.one;obtain ⟨t,rfl⟩:=ru;obtain ⟨z,Lx,n,r,hl,e⟩:=I.lstM hH;obtain ⟨w,hw,rw'⟩:=r.get hy;refine call_meets F.slot_list_pop ⟨_,e,rfl⟩ F.entry_list_pop (F.args_list_pop_2 _ _)
  (MeetsSeq.list_pop_at l Lx.toArray n i t k w (fitsIndex_both h1 h2) (by rw [zI,<- hl];exact hk) (by rw [<- Array.getElem?_toList];exact hw) (by rw [zI];omega)) ⟨e,?_⟩
 refine ⟨y,_,I.lset (its':=Lx.eraseIdx k) hH e ?_ (r.eraseIdx k) ?_,rw',q⟩
 ·show Lx.toArray.eraseIdxIfInBounds k=(Lx.eraseIdx k).toArray
  rw [List.eraseIdxIfInBounds_toArray]
 ·have:=oQ xs k
  omega
def Jk:R2:=fun x y H Q=>∃ l k xs,x=.ref l/\y=.int k/\H l=some (.lst xs)/\-(2 ^ 63) <= k/\k < 2 ^ 63/\xs.length * k.toNat <= sizeLine /\
 ∀ p,H p=none->Q (.ref p) (af H p (.lst (List.replicate k.toNat xs).flatten))
theorem B2 {α:Type} (xs:List α) (k:Nat):(List.replicate k xs).flatten.length=k * xs.length:=by
 induction k with
 | zero=>simp
 | succ k ih=>rw [List.replicate_succ,List.flatten_cons,zV,ih,Nat.succ_mul,Nat.add_comm]
theorem DN:lq X (binaryOp .Mult) Jk:=by
 intro Lu s σ H x y v u Q I rx ry h;obtain ⟨l,k,xs,rfl,rfl,hH,h1,h2,hz,q⟩:=h;cases rx;obtain ⟨t,rfl⟩:=ry;obtain ⟨z,Lx,n,r,hl,e⟩:=I.lstM hH;have hlen:Lx.toArray.size * k.toNat <= sizeLine:=by rw [zI,<- hl];exact hz
 have hcap:¬ Lx.toArray.size * k.toNat > (2 ^ 63 - 1) / 8:=by
  have:(sizeLine:Nat) <= (2 ^ 63 - 1) / 8:=by decide
  omega
 have hfit:¬ (!Builtin.List.listFitsIndex k)=true:=by
  rw [fitsIndex_both h1 h2];exact Bool.false_ne_true
 have hlong:¬ Builtin.List.listTooLong (Lx.toArray.size * k.toNat)=true:=by
  rw [notLongL hlen];exact Bool.false_ne_true
 have hnew:List.foldl (fun x1 x2=>x1++x2) #[] (List.replicate (if Lx.toArray.isEmpty=true then 0 else k.toNat) Lx.toArray)=(List.replicate k.toNat Lx).flatten.toArray:=by
  have f0:∀ m:Nat,List.foldl (fun x1 x2=>x1++x2) #[] (List.replicate m Lx.toArray)=(List.replicate m Lx).flatten.toArray:=fun m=>by
   have:=oV Lx m []
   rw [List.nil_append] at this;exact this
  rw [f0];cases Lx with
  | nil=>simp
  | cons a r'=>rw [yH (by simp)]
 refine wpAny_binaryOp_repeat_ref (T:="list") (U:="int") dC ⟨_,e,rfl⟩ (fun s'=>typeIs_int s' k t) noFill_list_mul F.fills_int_mul F.slot_int_rmul repeat_list F.slot_int_index.lookup
  (call_meets F.slot_int_rmul (typeIs_int s k t) F.entry_int_rmul (F.args_int_rmul_2 _ _) (int___rmul___int_list k t l Lx.toArray n)
   ⟨e,rfl,⟨_,e,rfl⟩,call_meets F.slot_list_mul ⟨_,e,rfl⟩ F.entry_list_mul (F.args_list_mul_2 _ _) (AutoListH.list___mul___list_int_3 l Lx.toArray n k t hfit hcap hlong) ⟨e,?_⟩⟩)
 rw [hnew];exact ⟨.ref _,_,I.lnew (t':=s.toks) (r.rep k.toNat) (by rw [B2,Nat.mul_comm];exact hz),rfl,q _ I.fresh⟩
end
end L2
namespace Att
open PySem PySem.W PySem.Calls PyProof.Rows
theorem m9 {P:Params}{h:Heap}:∀ (ns:List Int) (vs:List Value),WellAll P h vs (ns.map WData.int)->IntsAre vs ns:=by
 intro ns
 induction ns with
 | nil =>
  intro vs w;rw [List.map_nil] at w;cases w;exact .nil
 | cons n ns ih =>
  intro vs w;rw [zO] at w;cases w with
  | cons a b =>
   cases a;exact .cons _ _ (ih _ b)
theorem vi {l:OpenLaw}{n:Nat} (hn:l.most=some n) {P:Params}{h:Heap}{args:List WData}{vals:List Value}
  (hpre:l.row.toRowW.claim.pre args=true) (hwl:WellAll P h vals args) :
  ∃ a vs ns,vals=[Value.ref a]/\args=[WData.list (ns.map WData.int)]/\h.get? a=some { cls:=.type "list",data:=.seq vs.toArray }/\IntsAre vs ns/\ns.length <= n:=by
 have hsh:WShape.hasAll [] args [.list .int]=true:=(pre_splitW hpre).1;have hc:l.pre.holds [] { args:=args }=true:=(pre_splitW hpre).2;obtain ⟨d,r,rfl,h1,h2⟩:=hasAllW_cons hsh;obtain rfl:=hasAllW_nil h2;obtain ⟨xs,rfl,h3⟩:=hasW_list h1;obtain ⟨ns,rfl⟩:=items_int h3;have hlen:ns.length <= n:=by
  unfold OpenLaw.pre at hc;have h4:(WTm.not (.lt (.lit (.int (n:Int))) (.len (.arg 0)))).holds [] { args:=[.list (ns.map .int)] }=true:=by
   have h4:=(holds_andW hc).1;rw [hn] at h4;exact h4
  have h5:=condW_of h4 (w_not (w_lt w_lit (w_len_list (w_arg rfl))));rw [zH] at h5;refine Nat.le_of_not_lt fun q=>?_
  have q':(n:Int) < ((ns.length:Nat):Int):=by omega
  first
   | (rw [yT q'] at h5;exact absurd h5 dC)
   | (simp at h5;omega)
 cases hwl with
 | cons w1 w2 =>
  cases w2;cases w1 with
  | list ho hall=>exact ⟨_,_,ns,rfl,rfl,ho,m9 ns _ hall,hlen⟩
theorem vy (l:OpenLaw) (args:List WData):l.row.toRowW.claim.post args (.bool true) args=true :=
 postW_of (r:=l.row.toRowW) (X:=(true == true))
  (show WShape.has [] (.bool true) .bool=true by first | rfl | decide | simp [WShape.has,WShape.arms,WShape.armsAll])
  (show (WTm.eq .res (.lit (.bool true))).value [] { args:=args,res:=some (.bool true),after:=args }=some (.bool (true == true)) from w_eq_bool (w_res rfl) w_lit) rfl
theorem attach_call {l:OpenLaw}{n:Nat}{q:Program}{bL:List Str}{XP:(Str->Option Value)->Heap->Prop}{YP:World->Heap->Prop}{d:DefRec}
  (hn:l.most=some n) (hdf:d.params.defaults=[])
  (call:∀ (w:World) (s₀ s₁:Shared) (mg mb:Str->Option Value) (fa:Addr) (o:Obj) (pm cd doc:Value) (a:Addr) (vs:List Value) (ns:List Int),
   Ground q bL [] XP w s₀ mg mb s₁.heap->YP w s₁.heap ->
   s₁.heap.get? fa=some o->o.data=.func (docDef d.name d.params d.body d.scope pm cd doc)->s₁.heap.CodeRec cd d.name->mg d.name=some (.ref fa) ->
   s₁.heap.get? a=some { cls:=.type "list",data:=.seq vs.toArray }->IntsAre vs ns->ns.length <= n->s₁.gens=#[] ->
   codeAny (model l.prog w) callerA (.call (.ref fa) ⟨[.ref a],[]⟩) (fun r s'=>r=.ok (.ret (.bool true))/\OldK s₁.heap s'.heap/\s'.os=s₁.os/\AllBare s'.gens) s₁) :
  WalkO q bL XP YP l.row.toRowW d [] (fun f vs=>PySem.call f vs):=by
 intro w s₀ s₁ mg mb G Y fa o pm cd doc dV kV ho hd hcd hD hmg hg args vals as hpre hlay hrd hwl hlo;obtain rfl:dV=.none:=Dflts.none hD hdf;obtain rfl:kV=.none:=Dflts.noKw hD;obtain ⟨a,vs,ns,rfl,rfl,hobj,hints,hlen⟩:=vi hn hpre hwl;refine enter_call (codeAny_mono (call w s₀ s₁ mg mb fa o pm cd doc a vs ns G Y ho (fd_plain hd) hcd hmg hobj hints hlen hg) fun r s' hq=>?_);obtain ⟨rfl,h2,h3,h4⟩:=hq;exact ⟨.inl ⟨.bool true,.bool true,[],rfl,fun _=>rfl,.bool true,vy l _,fun _=>⟨List.Pairwise.nil,fun _ hm=>(nomatch hm)⟩⟩,h2,h3,h4⟩
end Att
namespace L2
open PySem PySem.Spec PyProof.Rows
theorem uX:∀ {vs:List Value}{ns:List Int},IntsAre vs ns->Vals (ns.map V.int) vs:=by
 intro vs ns h
 induction h with
 | nil=>exact .nil
 | cons n t h ih=>exact .cons ⟨t,rfl⟩ ih
noncomputable def dD (s:Stmt):Arguments:=match s with
 | .FunctionDef _ a _ _ _ _ _ _ _ _=>a
 | _=>{ posonlyargs:=[],args:=[],vararg:=none,kwonlyargs:=[],kw_defaults:=[],kwarg:=none,defaults:=[] }
noncomputable def dX (s:Stmt):List Stmt:=match s with
 | .FunctionDef _ _ b _ _ _ _ _ _ _=>b
 | _=>[]
noncomputable def cx (s:Stmt):Scope:=match s with
 | .FunctionDef _ _ _ _ _ _ sc _ _ _=>sc
 | _=>{ kind:=.function,names:=[],isGenerator:=false,isCoroutine:=false }
abbrev eE:lu:=fun _ _ _ _ _ _=>False
abbrev E0:XK:=fun _ _ _=>False
theorem mQ {X:Cx}:gH eE X E0:=fun _ _ _ _ _ _ _ h=>h.elim
structure Fun (K:Frag) (x qual:Str) (st:Stmt) (f:Addr) (fd:FuncData):Prop where
 ex:∃ (oc:Value) (od:Option Addr) (kV doc pm:Value) (an:Option Addr) (cdv ct:Value) (osl:Array (Option Value)),
  fd=fnOf x qual (dD st) (dX st) (cx st) .none kV doc pm an cdv ct/\K.lookup f=some ⟨oc,od,.func fd,osl⟩/\codeIn K cdv qual=true
 kp:keepIn K (.ref f)=true
section
variable {P:Program}{w:World}{K:Frag}{mg:Str->Option Value}{base:Heap}
theorem Fun.binds {x qual:Str}{st:Stmt}{f:Addr}{fd:FuncData}{ps:List Str} (F:Fun K x qual st f fd)
  (h:∀ (kV doc pm:Value) (an:Option Addr) (cdv ct:Value) (us:List Value),us.length=ps.length->bindArgs (fnOf x qual (dD st) (dX st) (cx st) .none kV doc pm an cdv ct) ⟨us,[]⟩=pure (ps.zip us)):Binds K fd ps []:=by
 obtain ⟨oc,od,kV,doc,pm,an,cdv,ct,osl,rfl,lk,hcd⟩:=F.ex;exact .all (h kV doc pm an cdv ct)
theorem nq {x qual:Str}{st:Stmt}{f:Addr}{oc:Value}{od an:Option Addr}{osl:Array (Option Value)}{kV doc pm cdv ct:Value} (l:K.lookup f=some ⟨oc,od,.func (fnOf x qual (dD st) (dX st) (cx st) .none kV doc pm an cdv ct),osl⟩)
  (c:codeIn K cdv qual=true) (k:keepIn K (.ref f)=true):Fun K x qual st f (fnOf x qual (dD st) (dX st) (cx st) .none kV doc pm an cdv ct):=⟨⟨oc,od,kV,doc,pm,an,cdv,ct,osl,rfl,l,c⟩,k⟩
end
theorem oJ {n:Nat} (h:n <= 1000):n < sizeLine:=yM h dC
end L2
set_option maxHeartbeats 4000000
namespace DD
open PySem PySem.Spec PyProof.Rows L2
abbrev St:=L2.St
section
variable {X:Cx}{e:Expr}{es:List Expr}{st:Stmt}{sts:List Stmt}
theorem PE_imp {t t':TE} (h:PE X e t) (i:∀ σ H Q,t' σ H Q->t σ H Q):PE X e t':=fun Lu s σ H Q I h'=>h Lu s σ H Q I (i σ H Q h')
theorem PT_imp {t t':TT} (h:PT X e t) (i:∀ σ H Q,t' σ H Q->t σ H Q):PT X e t':=fun Lu s σ H Q I h'=>h Lu s σ H Q I (i σ H Q h')
theorem PW_imp {t t':TT} (h:PW X e t) (i:∀ σ H Q,t' σ H Q->t σ H Q):PW X e t':=fun wh Lu s σ H Q I h'=>h wh Lu s σ H Q I (i σ H Q h')
theorem PA_imp {t t':TA} (h:PA X es t) (i:∀ σ H Q,t' σ H Q->t σ H Q):PA X es t':=fun p Lu s σ H Q I h'=>h p Lu s σ H Q I (i σ H Q h')
theorem PS_imp {t t':TS} (h:PS X st t) (i:∀ D σ H,t' D σ H->t D σ H):PS X st t':=fun Lu s σ H D I h'=>h Lu s σ H D I (i D σ H h')
theorem PSs_imp {t t':TS} (h:PSs X sts t) (i:∀ D σ H,t' D σ H->t D σ H):PSs X sts t':=fun Lu s σ H D I h'=>h Lu s σ H D I (i D σ H h')
theorem OpR_imp {f:Value->Value->Sem Value}{r r':R2} (h:lq X f r) (i:∀ x y H Q,r' x y H Q->r x y H Q):lq X f r':=fun Lu s σ H x y v u Q I a b h'=>h Lu s σ H x y v u Q I a b (i x y H Q h')
end
theorem PG_imp {X:Cx}{tg:Expr}{t t':TG} (h:PG X tg t) (i:∀ v σ H Q,t' v σ H Q->t v σ H Q):PG X tg t':=fun Lu s σ H v u Q I rv h'=>h Lu s σ H v u Q I rv (i v σ H Q h')
end DD
namespace L2
open PySem PySem.Spec PyProof.Rows
theorem nK:∀ (names:List (Str × NameKind)) (n:Nat) (acc:List (Str × Addr)),∃ own,cellsFrom n names acc=own++acc/\(∀ p ∈ own,n <= p.2/\(p.1,NameKind.cell) ∈ names) /\
  (∀ x,(x,NameKind.cell) ∈ names->∃ c,(x,c) ∈ own)/\own.Pairwise fun x y=>x.2 ≠ y.2
 | [],n,acc=>⟨[],rfl,(fun _ h=>by cases h),(fun _ h=>by cases h),List.Pairwise.nil⟩
 | (name,kind)::r,n,acc=>by
  unfold cellsFrom;by_cases hk:kind=.cell
  ·subst hk
   obtain ⟨own,e,h1,h2,h3⟩:=nK r (n + 1) ((name,n)::acc);refine ⟨own++[(name,n)],?_,?_,?_,?_⟩
   ·rw [yI dC,e,yN];rfl
   ·intro p hp
    rcases zZ.mp hp with hp | hp
    ·exact ⟨Nat.le_of_succ_le (h1 p hp).1,zQ _ (h1 p hp).2⟩
    ·rw [zM.mp hp];exact ⟨zP _,z8⟩
   ·intro x hx
    rcases zT.mp hx with hx | hx
    ·cases hx;exact ⟨n,zK _ z8⟩
    ·obtain ⟨c,hc⟩:=h2 x hx;exact ⟨c,zL _ hc⟩
   ·refine List.pairwise_append.mpr ⟨h3,List.pairwise_singleton _ _,fun a ha b hb e=>?_⟩
    rw [zM.mp hb] at e;have h5:=(h1 a ha).1;rw [show a.2=n from e] at h5;exact absurd h5 (Nat.not_succ_le_self n)
  ·obtain ⟨own,e,h1,h2,h3⟩:=nK r n acc
   have hk':(kind == NameKind.cell)=false:=by cases kind <;> first | rfl | exact absurd rfl hk
   refine ⟨own,by rw [hk'];exact e,fun p hp=>⟨(h1 p hp).1,zQ _ (h1 p hp).2⟩,fun x hx=>?_,h3⟩;rcases zT.mp hx with hx | hx
   ·cases hx;exact absurd rfl hk
   ·exact h2 x hx
theorem jR {scope:Scope}{env:Env} (h:∀ x,(x,NameKind.free) ∈ scope.names->∃ c,env.cells.lookup x=some c) :
  ∃ cl,closureFor scope env=pure cl/\(∀ p ∈ cl,env.cells.lookup p.1=some p.2)/\∀ x,(x,NameKind.free) ∈ scope.names->∃ c,(x,c) ∈ cl:=by
 have all:∀ (names:List (Str × NameKind)) (acc:List (Str × Addr)),(∀ x,(x,NameKind.free) ∈ names->∃ c,env.cells.lookup x=some c)->(∀ p ∈ acc,env.cells.lookup p.1=some p.2) ->
   ∃ cl,(forIn (m:=Sem) names acc fun (p:Str × NameKind) (cs:List (Str × Addr))=>if (p.2 == NameKind.free)=true then do let __do_lift <- cellOf env p.1;pure (ForInStep.yield ((p.1,__do_lift)::cs)) else pure (ForInStep.yield cs))=pure cl /\
    (∀ p ∈ cl,env.cells.lookup p.1=some p.2)/\(∀ p ∈ acc,p ∈ cl)/\∀ x,(x,NameKind.free) ∈ names->∃ c,(x,c) ∈ cl:=by
  intro names
  induction names with
  | nil=>intro acc _ ha;exact ⟨acc,by rw [List.forIn_nil],ha,fun _ h=>h,(fun _ h=>by cases h)⟩
  | cons p r ih =>
   obtain ⟨name,kind⟩:=p;intro acc hn ha;by_cases hk:kind=.free
   ·subst hk
    obtain ⟨c,hc⟩:=hn name z8;obtain ⟨cl,e,h1,h2,h3⟩:=ih ((name,c)::acc) (fun x hx=>hn x (zQ _ hx)) (fun p hp=>by
     rcases zT.mp hp with rfl | hp
     ·exact hc
     ·exact ha p hp)
    refine ⟨cl,?_,h1,fun p hp=>h2 p (zQ _ hp),fun x hx=>?_⟩
    ·rw [List.forIn_cons]
     have ec:cellOf env name=pure c:=by unfold cellOf;rw [hc]
     simp only [ec];exact e
    ·rcases zT.mp hx with hx | hx
     ·cases hx;exact ⟨c,h2 _ z8⟩
     ·exact h3 x hx
   ·obtain ⟨cl,e,h1,h2,h3⟩:=ih acc (fun x hx=>hn x (zQ _ hx)) ha
    have hk':(kind == NameKind.free)=false:=by cases kind <;> first | rfl | exact absurd rfl hk
    refine ⟨cl,?_,h1,h2,fun x hx=>?_⟩
    ·rw [List.forIn_cons];simp only [hk',yB,if_false];exact e
    ·rcases zT.mp hx with hx | hx
     ·cases hx;exact absurd rfl hk
     ·exact h3 x hx
 obtain ⟨cl,e,h1,_,h3⟩:=all scope.names [] h (fun _ h=>by cases h);refine ⟨cl,?_,h1,h3⟩;simp only [closureFor];rw [e];rfl
theorem xQ {M:Model}{A:Around}{E:Value->Shared->Prop}{s:Shared}{scope:Scope}{env:Env}{cl:List (Str × Addr)}{Q:Env->Shared->Prop}
  (hQ:Q (newEnv scope s.heap.objs.size env.globals (cellsFrom (s.heap.objs.size + 1) scope.names cl) env.qual none .none (some env) builtinsNs) { s with heap:=pushCells (s.heap.push { cls:=.type "dict",data:=.dict #[] }) scope.names }) :
  wpAny M A (newFunctionEnv scope env.globals cl [] env.qual none .none (some env)) Q E s:=by
 simp only [newFunctionEnv,Option.isSome_some,if_true];refine yF (wpAny_alloc ?_);refine yF (wpAny_layCells _ (fun name kind cells=>by cases hkc:kind == NameKind.cell <;> simp [hkc]) _ _ _ _ ?_);rw [show ({ s with heap:=s.heap.push { cls:=.type "dict",data:=.dict #[] } }:Shared).heap.objs.size=s.heap.objs.size + 1 from Heap.size_push ..];refine yF ?_;rw [List.forIn_nil];exact yG (yG hQ)
def cz (X:Cx) (N':List Str) (scope:Scope) (cl:List (Str × Addr)) (s:Shared) (H:Hp) (fp:List Addr) (Lu:List (Addr × Obj)):Cx :=
 { X with N:=N',s₀:=s,H₀:=H,env:=compEnvC scope (cellsFrom (s.heap.objs.size + 1) scope.names cl) s.heap.objs.size X.env,outer:=X.stack,stack:=X.stack,ex:=fp,
          fn:=fun x=>scope.names.lookup x == some .cell,pn:=X.pn++Lu,xe:=fun _ _=>False }
structure jX (X:Cx) (N':List Str) (scope:Scope):Prop where
 kind:scope.kind=.function
 nd:(scope.names.map (·.1)).Nodup
 len:X.N.length <= N'.length
 free:∀ x,(x,NameKind.free) ∈ scope.names->X.env.kindOf x=some .cell\/X.env.kindOf x=some .free
 same:∀ i x,i < X.N.length->N'[i]?=some x->(x,NameKind.free) ∈ scope.names->X.N[i]?=some x
 hid:∀ i x,i < X.N.length->N'[i]?=some x->(∃ k,(x,k) ∈ scope.names)->(x,NameKind.free) ∈ scope.names
theorem cQ {α:Type}:∀ {l:List (Str × α)}{x:Str}{k:α},(l.map (·.1)).Nodup->(x,k) ∈ l->l.lookup x=some k
 | (y,j)::r,x,k,nd,h=>by
  rw [zO,List.nodup_cons] at nd;rcases zT.mp h with h | h
  ·cases h;rw [yO];simp
  ·have ne:x ≠ y:=fun e=>nd.1 (e ▸ List.mem_map_of_mem (f:=(·.1)) h)
   rw [yO];have:(x == y)=false:=by simpa using ne
   rw [this];exact cQ nd.2 h
theorem fj {α:Type}:∀ {l:List (Str × α)}{x:Str}{k:α},(x,k) ∈ l->∃ k',l.lookup x=some k'
 | (y,j)::r,x,k,h=>by
  rw [yO];cases hb:x == y with
  | true=>exact ⟨j,rfl⟩
  | false =>
   rcases zT.mp h with h | h
   ·cases h;simp at hb
   ·exact fj h
theorem gr {scope:Scope}{env:Env}{x:Str}{k:NameKind} (h:(relabel scope env).names.lookup x=some k):(x,k) ∈ scope.names\/((x,NameKind.free) ∈ scope.names/\k=.cell):=by
 have h1:=mem_of_lookup h;unfold relabel at h1;obtain ⟨⟨n,j⟩,hm,e⟩:=yD.mp h1;dsimp only at e;split at e
 ·rename_i hc
  cases e;refine .inr ⟨?_,rfl⟩;have:j=.free:=by
   cases j <;> simp at hc <;> rfl
  subst this;exact hm
 ·cases e;exact .inl hm
theorem pr {α:Type}{a b:List (Str × α)}{x:Str} (h:∀ p ∈ a,p.1 ≠ x):(a++b).lookup x=b.lookup x:=by
 induction a with
 | nil=>rfl
 | cons p r ih =>
  obtain ⟨y,j⟩:=p;rw [List.cons_append,yO];have:(x == y)=false:=by
   have:=h (y,j) z8
   simpa using fun e:x=y=>this e.symm
  rw [this];exact ih fun p hp=>h p (zQ _ hp)
section
variable {X:Cx}{N':List Str}{scope:Scope}{cl:List (Str × Addr)}{s:Shared}{H:Hp}{fp:List Addr}{Lu:List (Addr × Obj)}{σ:St}
theorem yY (T:jX X N' scope) (I:Inv X Lu σ H s) (hcl:∀ p ∈ cl,X.env.cells.lookup p.1=some p.2) (hfr:∀ x,(x,NameKind.free) ∈ scope.names->∃ c,(x,c) ∈ cl)
  (hf:∀ b ∈ fp,dl X Lu H b) (ho:∀ b ∈ fp,∃ o,s.heap.get? b=some o) :
  Inv (cz X N' scope cl s H fp Lu) [] (σ++List.replicate (N'.length - X.N.length) none) H { s with heap:=pushCells (s.heap.push { cls:=.type "dict",data:=.dict #[] }) scope.names }:=by
 obtain ⟨own,eo,o1,o2,o3⟩:=nK scope.names (s.heap.objs.size + 1) cl;have keep:∀ b o,s.heap.get? b=some o->(pushCells (s.heap.push { cls:=.type "dict",data:=.dict #[] }) scope.names).get? b=some o:=fun b o e=>pushCells_keeps _ _ b o (zG _ e)
 have clt:∀ x c,(x,c) ∈ cl->c < s.heap.objs.size:=fun x c h=>by
  obtain ⟨v,z⟩:=I.cell x c (hcl _ h);exact z.lt
 -- what a cell of the block is
 have cases_:∀ x c,(own++cl).lookup x=some c->(s.heap.objs.size + 1 <= c/\(x,c) ∈ own)\/X.env.cells.lookup x=some c:=fun x c h=>by
  rcases zZ.mp (mem_of_lookup h) with h | h
  ·exact .inl ⟨(o1 _ h).1,h⟩
  ·exact .inr (hcl _ h)
 have hst:∀ b ∈ fp,b ∉ jy X.stack:=fun b hb z=>by
  rcases zT.mp (I.stkSub b z) with e | e
  ·exact (hf b hb).2.1 e
  ·exact (hf b hb).2.2.1 e
 have okc:CellsOk (pushCells (s.heap.push { cls:=.type "dict",data:=.dict #[] }) scope.names) (s.heap.objs.size + 1) (cellsFrom (s.heap.objs.size + 1) scope.names []):=by
  have q:=cellsFrom_ok scope.names (s.heap.push { cls:=.type "dict",data:=.dict #[] }) (s.heap.objs.size + 1) [] ⟨(fun _ _ hm=>by cases hm),List.Pairwise.nil⟩ (by rw [Heap.size_push];exact zP _);rw [Heap.size_push] at q;exact q
 have eown:cellsFrom (s.heap.objs.size + 1) scope.names []=own:=by
  obtain ⟨own',e',_⟩:=nK scope.names (s.heap.objs.size + 1) [];have gen:∀ (names:List (Str × NameKind)) (n:Nat) (acc:List (Str × Addr)),cellsFrom n names acc=cellsFrom n names []++acc:=by
   intro names
   induction names with
   | nil=>intro n acc;rfl
   | cons p r ih =>
    obtain ⟨name,kind⟩:=p;intro n acc;unfold cellsFrom;split
    ·rw [ih (n + 1) ((name,n)::acc),ih (n + 1) [(name,n)],yN];rfl
    ·exact ih n acc
  have:=gen scope.names (s.heap.objs.size + 1) cl
  rw [eo] at this;exact (List.append_cancel_right this).symm
 have ok:(cz X N' scope cl s H fp Lu).Ok:=by
  refine ⟨I.ok.mod,T.kind,I.ok.glob,I.ok.blt,zP _,fun x y c h1 h2=>?_,fun x h=>?_,fun x c h1 h2=>?_,I.ok.hd,I.ok.frames,.inl rfl,fun b hb=>⟨?_,fun x c h=>?_⟩,I.bs,z0 I.ok.bsz I.sz,fun b o e hb=>?_,hst,I.stack,I.stkFree⟩
  ·have h1:(own++cl).lookup x=some c:=eo ▸ h1
   have h2:(own++cl).lookup y=some c:=eo ▸ h2;rcases cases_ x c h1 with ⟨l1,m1⟩ | e1
   ·rcases cases_ y c h2 with ⟨l2,m2⟩ | e2
    ·exact name_of_addr o3 m1 m2
    ·obtain ⟨v,z⟩:=I.cell y c e2
     exact absurd (zJ z.lt (Nat.le_of_succ_le (by first | exact l2 | exact l1))) (yX _)
   ·rcases cases_ y c h2 with ⟨l2,m2⟩ | e2
    ·obtain ⟨v,z⟩:=I.cell x c e1
     exact absurd (zJ z.lt (Nat.le_of_succ_le (by first | exact l2 | exact l1))) (yX _)
    ·exact I.ok.inj x y c e1 e2
  ·show ∃ c,(cellsFrom (s.heap.objs.size + 1) scope.names cl).lookup x=some c
   rw [eo];have fromFree:(x,NameKind.free) ∈ scope.names->∃ c,(own++cl).lookup x=some c:=fun hm=>by
    obtain ⟨c,hc⟩:=hfr x hm;exact fj (zK own hc)
   have fromCell:(x,NameKind.cell) ∈ scope.names->∃ c,(own++cl).lookup x=some c:=fun hm=>by
    obtain ⟨c,hc⟩:=o2 x hm;exact fj (zL cl hc)
   rcases h with h | h
   ·rcases gr h with h | ⟨h,_⟩
    ·exact fromCell h
    ·exact fromFree h
   ·rcases gr h with h | ⟨h,e⟩
    ·exact fromFree h
    ·cases e
  ·have h2:(own++cl).lookup x=some c:=eo ▸ h2
   have hc:scope.names.lookup x=some .cell:=by
    have:(scope.names.lookup x == some NameKind.cell)=true:=h1;simpa using this
   rcases cases_ x c h2 with ⟨l1,m1⟩ | e1
   ·exact Nat.le_of_succ_le l1
   ·-- x is one of the block's own: Lx cell stands ahead
    obtain ⟨c',hc'⟩:=o2 x (mem_of_lookup hc);obtain ⟨c2,hc2⟩:=fj hc';have:(own++cl).lookup x=some c2:=by
     have gen:∀ l:List (Str × Addr),l.lookup x=some c2->(l++cl).lookup x=some c2:=by
      intro l
      induction l with
      | nil=>intro h;cases h
      | cons p r ih =>
       obtain ⟨y,j⟩:=p;intro h;rw [List.cons_append,yO];rw [yO] at h;cases hb:x == y with
       | true=>rw [hb] at h;exact h
       | false=>rw [hb] at h;exact ih h
     exact gen own hc2
    rw [this] at h2;cases h2;exact Nat.le_of_succ_le (o1 _ (mem_of_lookup hc2)).1
  ·obtain ⟨o,e⟩:=ho b hb
   exact zU (yJ e)
  ·have h:(own++cl).lookup x=some c:=eo ▸ h
   obtain ⟨o,e⟩:=ho b hb;have hlt:=yJ e;rcases cases_ x c h with ⟨l1,m1⟩ | e1
   ·intro z
    rw [z] at l1;exact absurd (zJ hlt (Nat.le_of_succ_le l1)) (yX _)
   ·exact (hf b hb).2.2.2.2.1 x c e1
  ·rcases (hf b hb).2.2.2.1 with z | z
   ·exact I.ok.noex b o e z
   ·exact absurd (zJ (yJ e) (z0 I.ok.bsz z)) (yX _)
 refine ⟨ok,rfl,I.bare,Un.kept keep,⟨fun _=>none,(Heap.Ns.new s.heap (.type "dict")).keeps (pushCells_keeps _ _),fun i x v e1 e2 e3=>?_⟩,fun x c h=>?_,I.LA.fresh (zP _),fun x c h=>?_,fun p hp=>?_,I.LA.kept keep,?_⟩
 ·-- a name of the code around
  have hlen:=I.len;have hi:i < σ.length:=by
   rcases yS i σ.length with h | h
   ·exact h
   ·rw [z7 h] at e2
    rw [List.getElem?_replicate] at e2;split at e2 <;> cases e2
  rw [zN hi] at e2;have hmem:∃ k,(x,k) ∈ scope.names:=by
   have:∃ k,(relabel scope X.env).names.lookup x=some k:=by
    rcases e3 with h | h | h <;> exact ⟨_,h⟩
   obtain ⟨k,h⟩:=this;rcases gr h with h | ⟨h,_⟩ <;> exact ⟨_,h⟩
  have hfree:=T.hid i x oM e1 hmem;have eX:=T.same i x oM e1 hfree;have kX:=T.free x hfree;obtain ⟨m,hn,hl⟩:=I.loc;obtain ⟨u,ru,lk⟩:=hl i x v eX e2 (by rcases kX with h | h;exact .inr (.inl h);exact .inr (.inr h));refine ⟨u,ru,.inr ⟨?_,?_⟩⟩
  ·-- Lx kind in the block
   have:∃ k,(relabel scope X.env).names.lookup x=some k:=by
    rcases e3 with h | h | h <;> exact ⟨_,h⟩
   obtain ⟨k,h⟩:=this;rcases gr h with h' | ⟨h',e⟩
   ·have e5:=cQ T.nd h'
    have e6:=cQ T.nd hfree;rw [e5] at e6;cases e6;exact .inr h
   ·subst e;exact .inl h
  ·rcases lk with ⟨k1,_⟩ | ⟨_,c,hc,z⟩
   ·rcases kX with h | h <;> rw [h] at k1 <;> cases k1
   ·refine ⟨c,?_,z.keeps keep⟩
    show (cellsFrom (s.heap.objs.size + 1) scope.names cl).lookup x=some c;rw [eo,pr fun p hp e=>?_]
    ·obtain ⟨c',hc'⟩:=hfr x hfree
     obtain ⟨c2,hc2⟩:=fj hc'
     have:=hcl _ (mem_of_lookup hc2)
     rw [hc] at this;cases this;exact hc2
    ·have e5:=cQ T.nd (o1 p hp).2
     rw [e] at e5;have e6:=cQ T.nd hfree;rw [e5] at e6;cases e6
 ·have h:(own++cl).lookup x=some c:=eo ▸ h
  rcases cases_ x c h with ⟨l1,m1⟩ | e1
  ·exact ⟨none,(okc.empty x c (eown ▸ m1)).1⟩
  ·obtain ⟨v,z⟩:=I.cell x c e1
   exact ⟨v,z.keeps keep⟩
 ·have h:(own++cl).lookup x=some c:=eo ▸ h
  rcases cases_ x c h with ⟨l1,m1⟩ | e1
  ·exact I.LA.fresh (Nat.le_of_succ_le l1)
  ·exact I.freeC x c e1
 ·rw [List.append_nil] at hp
  obtain ⟨e,n,ne,nf,d⟩:=I.pin p hp;refine ⟨keep _ _ e,n,zU (yJ e),fun z=>?_,d⟩;rcases zT.mp (I.stkSub p.1 z) with z | z
  ·exact ne z
  ·exact nf z
 ·show (σ++List.replicate (N'.length - X.N.length) none).length=N'.length
  rw [zV,List.length_replicate,I.len]
  have:=T.len
  omega
theorem Fj {σ1:St}{H1:Hp}{s1:Shared}{h':Heap}{pins1:List (Addr × Obj)} (I:Inv X Lu σ H s) (hf:∀ b ∈ fp,dl X Lu H b) (I1:Inv (cz X N' scope cl s H fp Lu) pins1 σ1 H1 s1) (hs:Heap.SameBut s.heap.objs.size s1.heap h') :
  Inv X Lu σ H1 { s1 with heap:=h' }:=by
 have hC:∀ b o,s.heap.get? b=some o->b ≠ s.heap.objs.size:=fun b o e=>zU (yJ e)
 have u:=I1.base;have u2:Un (jy X.stack) fp H H1 s.heap h':=by
  refine ⟨fun b o e n hb hx=>?_,fun b o e n hb hx=>?_,u.free,fun b o e hx=>?_,u.tups,u.frzs,u.tbls⟩
  ·rw [hs.2 b (hC b o e)];exact u.keep b o e n hb hx
  ·obtain ⟨sl,q⟩:=u.slot b o e n hb hx
   exact ⟨sl,by rw [hs.2 b (hC b o e)];exact q⟩
  ·obtain ⟨o',q⟩:=u.there b o e hx
   exact ⟨o',by rw [hs.2 b (hC b o e)];exact q⟩
 have hCf:H1 s.heap.objs.size=none:=I1.free;refine I.call' (s':={ s1 with heap:=h' }) I1.os u2 (fun b o e=>?_) I1.bare fun b hb=>⟨(hf b hb).2.2.2.1,(hf b hb).2.1,(hf b hb).2.2.2.2.1,(hf b hb).2.2.2.2.2⟩
 refine (I1.LA b o e).stay (fun c v hc q=>(hs.2 c ?_).trans q) (fun _ q=>q) fun _ _ q=>q
 rintro rfl;rcases hc with z | z
 ·rw [<- z,hCf] at e;cases e
 ·rw [hCf] at z;cases z
def tB (X:Cx) (ifs:List Expr) (t:TT):Prop :=
 ∀ (Lu:List (Addr × Obj)) (s:Shared) (σ:St) (H:Hp) (Q:Bool->Hp->Prop),Inv X Lu σ H s->t σ H Q ->
  wpAny (model X.prog X.w) X.A (forIn ifs true fun c r=>if r=true then do let ok <- isTrue c X.env (eval c X.env);pure (ForInStep.yield ok) else pure (ForInStep.yield r)) (TP X Lu σ Q) X.xe s
theorem Bu:tB X [] (fun _ H Q=>Q true H):=fun Lu s σ H Q I h=>wpAny_tests_nil ⟨H,I,h⟩
theorem Bt {c:Expr}{t:TT} (h:PT X c t):tB X [c] t:=fun Lu s σ H Q I h'=>wpAny_tests_one (h Lu s σ H Q I h')
def CJ (k:Nat) (wi:TI) (g:TG) (tt:TT) (te:TE):TE:=fun σ H Q=>wi σ H fun J H1=>∀ p,H1 p=none ->
 ∃ W:Nat->Nat->St->Hp->Prop,(∃ m,W 0 m (σ++List.replicate k none) (af H1 p (.lst [])))/\∀ i m σ' H',W i m σ' H' ->
  (J.stop i H'/\Q (.ref p) H')\/(J.go i H'/\∀ x H2,J.yld i H' x H2->g x σ' H2 fun σ2 H3=>tt σ2 H3 fun ok H4=>if ok=true then
   te σ2 H4 fun y H5=>∃ ys,H5 p=some (.lst ys)/\ys.length < sizeLine/\∃ m',m' < m/\W (i + 1) m' σ2 (af H5 p (.lst (ys++[y])))
   else ∃ m',m' < m/\W (i + 1) m' σ2 H4)
theorem rc {prog:Program}{w:World}{A:Around}{R:Result->Shared->Prop}{s:Shared}{elt target iter:Expr}{ifs:List Expr}{scope:Scope}{pos:Pos}{it acc:Value}{env:Env} (I:Nat->Shared->Prop)
  (turn:∀ n s,I n s->wpAny (model prog w) A (pyNext it) (fun r s₁=>match r with
   | none=>R (.ok .next) s₁
   | some v=>wpAny (model prog w) A (letOwnedTupleGo target it v) (fun _ s₁'=>wpAny (model prog w) A (assign target env v) (fun _ s₂ =>
     wpAny (model prog w) A (forIn ifs true fun c r=>if r=true then do let ok <- isTrue c env (eval c env);pure (ForInStep.yield ok) else pure (ForInStep.yield r)) (fun ok s₃ =>
      if ok=true then wpAny (model prog w) A (eval elt env) (fun x s₄ =>
       wpAny (model prog w) A (call (.builtin "list.append") [acc,x]) (fun _ s₅=>∃ m,m < n/\I m s₅) (fun _ _=>False) s₄) (fun _ _=>False) s₃
      else ∃ m,m < n/\I m s₃) (fun _ _=>False) s₂) (fun _ _=>False) s₁') (fun _ _=>False) s₁) (fun _ _=>False) s)
  (n:Nat) (h:I n s):codeAny (model prog w) A (.compLoop (.ListComp elt [⟨target,iter,ifs,0⟩] scope pos) 0 it acc env) R s:=by
 refine codeAny_loop rfl I (fun n s hI=>?_) n h;show wpAny _ A ((compTurn (.ListComp elt [⟨target,iter,ifs,0⟩] scope pos) 0 it acc env).onRaise (fun x=>do noteFrame x env;theTreesLotGoes x)) _ _ s;refine wpAny_noted ?_;rw [compTurn_list];refine yF (wpAny_standAt (yF (yR (turn n s hI) (fun r s₁ h₁=>?_) fun _ _ h'=>h'.elim)));cases r with
 | none=>exact yG h₁
 | some v =>
  refine yF (yR h₁ (fun _ s₁' h₁'=>?_) fun _ _ h'=>h'.elim);refine yF (yR h₁' (fun _ s₂ h₂=>yF (yR h₂ (fun ok s₃ h₃=>?_) fun _ _ h'=>h'.elim)) fun _ _ h'=>h'.elim);cases ok with
  | false=>exact yG ⟨rfl,h₃⟩
  | true =>
   exact yF (yF (yR h₃ (fun x s₄ h₄=>yF (yR h₄ (fun _ s₅ h₅=>yG (yG ⟨rfl,h₅⟩)) fun _ _ h'=>h'.elim)) fun _ _ h'=>h'.elim))
theorem qG {elt iter tg:Expr}{ifs:List Expr}{pos:Pos}{g:TG}{tt:TT}{te:TE}{J:It}{it:Addr}{tn:Nat->Heap->Prop}{Q:VK}{E:Value->Shared->Prop}{RR:Value->Addr->Result->Shared->Prop}
  (hc:X.calm=true) (T:jX X N' scope) (hcl:∀ p ∈ cl,X.env.cells.lookup p.1=some p.2) (hfr:∀ x,(x,NameKind.free) ∈ scope.names->∃ c,(x,c) ∈ cl)
  (hg:∀ cl s H fp Lu,PG (cz X N' scope cl s H fp Lu) tg g) (ht:∀ cl s H fp Lu,tB (cz X N' scope cl s H fp Lu) ifs tt) (he:∀ cl s H fp Lu,PE (cz X N' scope cl s H fp Lu) elt te)
  (I:Inv X Lu σ H s) (Tn:jk X.prog X.w X.K tg J fp it tn) (st0:tn 0 s.heap) (hf:∀ b ∈ fp,dl X Lu H b)
  (h:∀ p,H p=none->∃ W:Nat->Nat->St->Hp->Prop,(∃ m,W 0 m (σ++List.replicate (N'.length - X.N.length) none) (af H p (.lst [])))/\∀ i m σ' H',W i m σ' H' ->
   (J.stop i H'/\Q (.ref p) H')\/(J.go i H'/\∀ x H2,J.yld i H' x H2->g x σ' H2 fun σ2 H3=>tt σ2 H3 fun ok H4=>if ok=true then
    te σ2 H4 fun y H5=>∃ ys,H5 p=some (.lst ys)/\ys.length < sizeLine/\∃ m',m' < m/\W (i + 1) m' σ2 (af H5 p (.lst (ys++[y])))
    else ∃ m',m' < m/\W (i + 1) m' σ2 H4))
  (hRR:∀ p C s1 H1,Inv X Lu σ H1 s1->Q (.ref p) H1->(∃ m,s1.heap.Ns C m)->H1 C=none->s.heap.objs.size <= C->RR (.ref p) C (.ok .next) s1) :
  wpAny (model X.prog X.w) X.A (newList []) (fun acc s₃=>wpAny (model X.prog X.w) X.A (newFunctionEnv scope X.env.globals cl [] X.env.qual none .none (some X.env)) (fun cenv s₄ =>
   codeAny (model X.prog X.w) X.A (.compStart (.ListComp elt [⟨tg,iter,ifs,0⟩] scope pos) 0 (.ref it) acc { cenv with scope:=relabel scope X.env }) (RR acc cenv.locals) s₄) E s₃) E s:=by
 refine wpAny_newObj_type (xQ ?_);have hp:H s.heap.objs.size=none:=I.fresh;obtain ⟨W,⟨m0,w0⟩,turn⟩:=h _ hp;have I2:Inv X Lu σ (af H s.heap.objs.size (.lst [])) { s with heap:=s.heap.push { cls:=.type "list",data:=.seq ([]:List Value).toArray } }:=Inv.lnew (t':=s.toks) (Lx:=[]) (ys:=[]) I .nil (Nat.zero_le _);have hf2:∀ b ∈ fp,dl X Lu (af H s.heap.objs.size (.lst [])) b:=fun b hb=>by
  obtain ⟨o,e,_⟩:=Tn.obj _ _ st0 b hb;exact ⟨by rw [ad (zU (yJ e))];exact (hf b hb).1,(hf b hb).2⟩
 have ho2:∀ b ∈ fp,∃ o,(s.heap.push { cls:=.type "list",data:=.seq ([]:List Value).toArray }:Heap).get? b=some o:=fun b hb=>by
  obtain ⟨o,e,_⟩:=Tn.obj _ _ st0 b hb;exact ⟨o,zG _ e⟩
 have I3:=yY T I2 hcl hfr hf2 ho2;have st3:tn 0 (pushCells ((s.heap.push { cls:=.type "list",data:=.seq ([]:List Value).toArray }).push { cls:=.type "dict",data:=.dict #[] }) scope.names) :=
  Tn.keep _ _ _ st0 fun b hb o e=>pushCells_keeps _ _ b o (zG _ (zG _ e))
 generalize hs2:({ s with heap:=s.heap.push { cls:=.type "list",data:=.seq ([]:List Value).toArray } }:Shared)=s2 at I2 I3;have hC:s.heap.objs.size <= s2.heap.objs.size:=by rw [<- hs2];exact yW (by show _ < (s.heap.push _).objs.size;rw [Heap.size_push];exact Nat.lt_succ_self _)
 have stat:∀ {H':Hp},(∀ b ∈ fp,H' b=none)->∀ b ∈ fp,dl (cz X N' scope cl s2 (af H s.heap.objs.size (.lst [])) fp Lu) [] H' b:=fun {H'} hn b hb=>by
  refine ⟨hn b hb,(I3.ok.exf b hb).1,I3.ok.exfs b hb,.inl hb,(I3.ok.exf b hb).2,fun p hp=>?_⟩;rw [List.append_nil] at hp;exact (hf b hb).2.2.2.2.2 p hp
 have loop:∀ s4,s4=({ s2 with heap:=pushCells (s2.heap.push { cls:=.type "dict",data:=.dict #[] }) scope.names }:Shared) ->
   codeAny (model X.prog X.w) X.A (.compLoop (.ListComp elt [⟨tg,iter,ifs,0⟩] scope pos) 0 (.ref it) (.ref s.heap.objs.size) (cz X N' scope cl s2 (af H s.heap.objs.size (.lst [])) fp Lu).env) (RR (.ref s.heap.objs.size) s2.heap.objs.size) s4:=by
  rintro s4 rfl;refine rc (fun n s'=>∃ i σ' H',Inv (cz X N' scope cl s2 (af H s.heap.objs.size (.lst [])) fp Lu) [] σ' H' s'/\tn i s'.heap/\(∀ b ∈ fp,H' b=none)/\W i n σ' H') ?_ m0
   ⟨0,_,_,I3,by subst hs2;exact st3,fun b hb=>(hf2 b hb).1,w0⟩
  rintro n s3 ⟨i,σ3,H3,I4,st4,fr4,w4⟩;rcases turn i n σ3 H3 w4 with ⟨stop,qn⟩ | ⟨go,step⟩
  ·refine aA (Tn.done (cz X N' scope cl s2 (af H s.heap.objs.size (.lst [])) fp Lu) rfl rfl rfl hc i [] s3 σ3 H3 (fun _ _=>False) I4 (stat fr4) st4 stop) fun r s5 hq0=>?_
   obtain ⟨hr,I5⟩:=hq0;subst hr;obtain ⟨m,hn,_⟩:=I5.loc;exact hRR _ _ s5 H3 (Fj I2 hf2 I5 (Heap.SameBut.refl _ _)) qn ⟨m,hn⟩ I5.free hC
  ·refine aA (Tn.item (cz X N' scope cl s2 (af H s.heap.objs.size (.lst [])) fp Lu) rfl rfl rfl hc i [] s3 σ3 H3 (fun _ _=>False) I4 (stat fr4) st4 go) fun r s5 hq0=>?_
   obtain ⟨u,hr,h5⟩:=hq0;subst hr;refine aA h5 fun _ s6 hq0=>?_
   obtain ⟨x,H6,I6,r6,y6,st6,fr6⟩:=hq0;have I6':=I6.pinned (stat fr6) (Tn.obj _ _ st6);have again:∀ {σ7:St}{H7:Hp}{s7:Shared}{m':Nat},Inv (cz X N' scope cl s2 (af H s.heap.objs.size (.lst [])) fp Lu) ([]++fB fp s6.heap) σ7 H7 s7->m' < n->W (i + 1) m' σ7 H7 ->
     ∃ m,m < n/\∃ i σ' H',Inv (cz X N' scope cl s2 (af H s.heap.objs.size (.lst [])) fp Lu) [] σ' H' s7/\tn i s7.heap/\(∀ b ∈ fp,H' b=none)/\W i m σ' H':=fun {σ7 H7 s7 m'} I7 hm w7=>by
    refine ⟨m',hm,i + 1,σ7,H7,I7.unpinned,Tn.keep _ _ _ st6 fun b hb o e=>(I7.pin (b,o) (zK _ (zK _ (c7 hb e)))).1,fun b hb=>?_,w7⟩;obtain ⟨o,e,d⟩:=Tn.obj _ _ st6 b hb;exact (I7.pin (b,o) (zK _ (zK _ (c7 hb e)))).2.1
   refine aA (hg _ _ _ _ _ _ s6 σ3 H6 x u _ I6' r6 (step x H6 y6)) fun _ s7 hq0=>?_
   obtain ⟨σ7,H7,I7,q7⟩:=hq0;refine aA (ht _ _ _ _ _ _ s7 σ7 H7 _ I7 q7) fun ok s8 hq0=>?_
   obtain ⟨H8,I8,q8⟩:=hq0;cases ok with
   | false =>
    simp only [yB,if_false] at q8 ⊢;obtain ⟨m',hm,w8⟩:=q8;exact again I8 hm w8
   | true =>
    simp only [if_true] at q8 ⊢;refine aA (he _ _ _ _ _ _ s8 σ7 H8 _ I8 q8) fun y s9 hq0=>?_
    obtain ⟨yv,H9,I9,r9,ys,e9,l9,m',hm,w9⟩:=hq0;refine aA (oP _ s9 σ7 H9 (.ref s.heap.objs.size) [yv] (.ref s.heap.objs.size) [y] (fun _ H'=>H'=af H9 s.heap.objs.size (.lst (ys++[yv]))) I9 rfl (.cons r9 .nil) ⟨_,ys,yv,rfl,rfl,e9,l9,rfl⟩) fun _ s10 hq0=>?_
    obtain ⟨_,H10,I10,_,e10⟩:=hq0;subst e10;exact again I10 hm w9
 have st5:tn 0 (pushCells (s2.heap.push { cls:=.type "dict",data:=.dict #[] }) scope.names):=by subst hs2;exact st3
 have aE:=codeAny_compStart_list (loop _ rfl) (Tn.self X.A 0 _ _ (notedBy (model X.prog X.w) X.A (cz X N' scope cl s2 (af H s.heap.objs.size (.lst [])) fp Lu).env fun x s'=>RR (.ref s.heap.objs.size) s2.heap.objs.size (.error x) s') st5 (loop _ rfl));subst hs2;exact aE
end
section
variable {X:Cx}{N':List Str}{scope:Scope}{Lu:List (Addr × Obj)}{σ:St}{elt iter tg:Expr}{ifs:List Expr}{pos:Pos}{wi:TI}{g:TG}{tt:TT}{te:TE}
theorem qE (T:jX X N' scope):∀ x ∈ scope.names,x.2=.local->scope.names.lookup x.1=some .local:=fun x hx e=>by
 obtain ⟨n,k⟩:=x;cases e;exact cQ T.nd hx
theorem Gu (hc:X.calm=true) (T:jX X N' scope) (hi:PI X tg iter wi) (hg:∀ cl s H fp Lu,PG (cz X N' scope cl s H fp Lu) tg g) (ht:∀ cl s H fp Lu,tB (cz X N' scope cl s H fp Lu) ifs tt)
  (he:∀ cl s H fp Lu,PE (cz X N' scope cl s H fp Lu) elt te) (hs:∀ x,foldedSetIterable iter X.env x=pure x:=by intro _;rfl) :
  PE X (.ListComp elt [⟨tg,iter,ifs,0⟩] scope pos) (CJ (N'.length - X.N.length) wi g tt te):=by
 intro Lu s σ H Q I h;obtain ⟨cl,hclos,hcl,hfr⟩:=jR (scope:=scope) (env:=X.env) fun x hx=>I.ok.has x (T.free x hx)
 rw [eval_ListComp];refine wpAny_comprehension_free (use:=none) rfl hs hclos T.kind (qE T) (yR (hi Lu s σ H _ I h) (fun xv s1 h1=>yR h1 (fun itv s2 h2=>?_) fun _ _ e=>e) fun _ _ e=>e);obtain ⟨it,fp,tn,J,H2,rfl,I2,Tn,st2,f2,R⟩:=h2;refine qG (Q:=Q) (RR:=fun acc C=>compPost (model X.prog X.w) X.A X.xe none (EP X Lu σ Q) acc C) hc T hcl hfr hg ht he I2 Tn st2 f2 R ?_;rintro p C s3 H3 I3 q ⟨m,hn⟩ hC hle;refine ⟨m,hn,fun h' hs'=>⟨.ref p,H3,?_,rfl,q⟩⟩;refine I3.turned (t':=s3.toks) (it:=C) (fun b o hb e=>(hs'.2 b hb).trans e) hC ?_ (.inr (z0 I2.sz hle)) (fun x c e=>?_) fun p hp=>?_
 ·exact Ne.symm (zU (zJ I2.lt hle))
 ·obtain ⟨v,z⟩:=I2.cell x c e
  exact zU (zJ z.lt hle)
 ·exact zU (zJ (yJ (I2.pin p hp).1) hle)
theorem vw {i:Nat}{y:Str}{py spos:Pos} (hN:X.N.Nodup) (hiN:X.N[i]?=some y) (hx:Loc X.env.scope y) (hsw:swapsWith (.ListComp elt [⟨tg,iter,ifs,0⟩] scope pos) (some (.Name y py)) spos.line X.env=pure true)
  (hc:X.calm=true) (T:jX X N' scope) (hi:PI X tg iter wi) (hg:∀ cl s H fp Lu,PG (cz X N' scope cl s H fp Lu) tg g) (ht:∀ cl s H fp Lu,tB (cz X N' scope cl s H fp Lu) ifs tt)
  (he:∀ cl s H fp Lu,PE (cz X N' scope cl s H fp Lu) elt te) (hs:∀ x,foldedSetIterable iter X.env x=pure x:=by intro _;rfl) (hf:X.fn y=true\/X.env.scope.names.lookup y=some .local:=by first | exact .inl rfl | exact .inr rfl | assumption) :
  PS X (.Assign [.Name y py] (.ListComp elt [⟨tg,iter,ifs,0⟩] scope pos) spos) (tP (CJ (N'.length - X.N.length) wi g tt te) (ni i)):=by
 intro Lu s σ H D I h;obtain ⟨cl,hclos,hcl,hfr⟩:=jR (scope:=scope) (env:=X.env) fun x hx=>I.ok.has x (T.free x hx)
 rw [exec_Assign_Name_used _ _ _ _ hsw];refine yF (wpAny_standAt (yF ?_));show wpAny _ X.A (do let _ <- comprehension (.ListComp elt [⟨tg,iter,ifs,0⟩] scope pos) scope X.env _ (newList []) false (eval iter X.env) (some (assign (.Name y py) X.env))) _ _ s;refine yF (yR (wpAny_comprehension_free (use:=some (assign (.Name y py) X.env)) (Q:=fun _ s'=>SP X Lu D .next s') rfl hs hclos T.kind (qE T)
  (yR (hi Lu s σ H _ I h) (fun xv s1 h1=>yR h1 (fun itv s2 h2=>?_) fun _ _ e=>e) fun _ _ e=>e)) (fun _ s' hq=>yG (yG hq)) fun _ _ e=>e)
 obtain ⟨it,fp,tn,J,H2,rfl,I2,Tn,st2,f2,R⟩:=h2;refine qG (Q:=fun x H1=>ni i x σ H1 D.nx) (RR:=fun acc C=>compPost (model X.prog X.w) X.A X.xe (some (assign (.Name y py) X.env)) (fun _ s'=>SP X Lu D .next s') acc C) hc T hcl hfr hg ht he I2 Tn st2 f2 R ?_;rintro p C s3 H3 I3 q ⟨m,hn⟩ hC hle;have hCL:C ≠ X.env.locals:=Ne.symm (zU (zJ I2.lt hle));have hCc:∀ x c,X.env.cells.lookup x=some c->c ≠ C:=fun x c e=>by
  obtain ⟨v,z⟩:=I2.cell x c e;exact zU (zJ z.lt hle)
 show wpAny _ X.A (assign (.Name y py) X.env (.ref p)) _ _ _;refine wpAny_assign_Name (oH (v:=.ref p) I3 hN hiN hx rfl (fun s4 I4 hq0=>?_) hf);obtain ⟨a,sb,ha⟩:=hq0;have hne:C ≠ a:=by
  rcases ha with e | e
  ·rw [e];exact hCL
  ·exact (hCc _ _ e).symm
 refine ⟨m,hn.sameBut sb hne,fun h' hs'=>⟨_,H3,?_,q⟩⟩;refine I4.turned (t':=s4.toks) (it:=C) (fun b o hb e=>(hs'.2 b hb).trans e) hC hCL (.inr (z0 I2.sz hle)) hCc fun p hp=>?_
 exact zU (zJ (yJ (I2.pin p hp).1) hle)
end
end L2
namespace DD
open PySem PySem.Spec PyProof.Rows L2
section
variable {X:Cx}{Lu:List (Addr × Obj)}{σ:St}{H:Hp}{s:Shared}{F:Addr->Prop}
theorem obj_list (I:L2.Inv X Lu σ H s) {a:Addr}{vs:List V} (h:aP X.K H a vs):∃ Lx o n,Vals vs Lx/\s.heap.get? a=some o/\o.cls=.type "list"/\o.data=.seq Lx.toArray n:=by
 obtain ⟨Lx,r,⟨o,n,e,c,_,d⟩,_⟩:=I.list h;exact ⟨Lx,o,n,r,e,c,d⟩
theorem obj_tup (I:L2.Inv X Lu σ H s) {a:Addr}{vs:List V} (h:fU X.K H a vs):∃ Lx o n,Vals vs Lx/\s.heap.get? a=some o/\o.cls=.type "tuple"/\o.data=.seq Lx.toArray n:=by
 obtain ⟨Lx,r,⟨o,e,c,n,d⟩,_⟩:=I.tuple h;exact ⟨Lx,o,n,r,e,c,d⟩
end
noncomputable def pyOk (p q:PyData):Bool:=p.canLay0 && q.canLay0 && decide (min p.depth q.depth <= 50)
section
variable {X:Cx}
noncomputable def isiA:List String:=["NoneType","bool","int","str","list","tuple"]
noncomputable def isiB:List String:=["int","bool","str","list","tuple"]
def isiT (a b:String):Option Bool:=if (isiA.contains a && isiB.contains b)=true then some (a == b || (a == "bool" && b == "int")) else none
theorem isiT_kit {K:Frag}{a b:String}{k:Bool} (h:isiT a b=some k):kitOne K (.type a) (.type b)=some k:=by
 unfold isiT at h;split at h
 ·rename_i hc
  rw [zC,List.contains_iff_mem,List.contains_iff_mem] at hc;obtain ⟨ha,hb⟩:=hc;simp only [isiA,isiB,zT,zX,or_false] at ha hb;rcases ha with rfl | rfl | rfl | rfl | rfl | rfl <;> rcases hb with rfl | rfl | rfl | rfl | rfl <;> (cases h;rfl)
 ·cases h
end
end DD
namespace L2
open PySem PySem.Spec PyProof.Rows
def II (K:Frag) (a b:Addr):It :=
 ⟨fun i H=>∃ xs ys x y,aP K H a xs/\aP K H b ys/\xs[i]?=some x/\ys[i]?=some y,
  fun i H x H'=>∃ p u w,(∀ xs,aP K H a xs->xs[i]?=some u)/\(∀ ys,aP K H b ys->ys[i]?=some w)/\H p=none/\H'=af H p (.tup [u,w])/\x=.ref p,
  fun i H=>∃ xs ys,aP K H a xs/\aP K H b ys/\(xs.length <= i\/ys.length <= i)⟩
theorem Inv.turnT {X:Cx}{Lu:List (Addr × Obj)}{σ:St}{H:Hp}{s:Shared}{h':Heap}{ch:List Addr}{u w:V}{x y:Value} (I:Inv X Lu σ H s) (hf:∀ b ∈ ch,dl X Lu H b) (ru:RelV u x) (rw':RelV w y)
  (hk:∀ c o,c ∉ ch->s.heap.get? c=some o->h'.get? c=some o) (hT:IsPair h' s.heap.objs.size x y) (hth:∀ b ∈ ch,∃ o,h'.get? b=some o):Inv X Lu σ (af H s.heap.objs.size (.tup [u,w])) { s with heap:=h' }:=by
 have hfr:H s.heap.objs.size=none:=I.fresh;have nch:∀ b o,H b=some o->b ∉ ch:=fun b o e hb=>by rw [(hf b hb).1] at e;cases e
 have ne:∀ b o,s.heap.get? b=some o->b ≠ s.heap.objs.size:=fun b o e=>zU (yJ e)
 refine I.step (g':=s.gens) (d':=s.drawn) (t':=s.toks) (ch:=ch) (fun b hb=>⟨(hf b hb).2.2.2.1,(hf b hb).2.1,(hf b hb).2.2.2.2.1,(hf b hb).2.2.2.2.2⟩) (fun b o _ _ hc e _=>hk b o hc e)
  (fun b o _ _ hc e _=>⟨o.slots,hk b o hc e⟩) (fun b o _ e n=>by rw [ad (ne b o e)];exact n) (fun b o hc e=>⟨o,hk b o hc e⟩) (fun b xs e=>by rw [ad (aH e hfr)];exact e)
  (fun b o v e=>by rw [ad (aH e hfr)];exact e) (fun b ps e=>⟨#[],by rw [ad (aH e hfr),e];simp⟩) (fun m hm=>?_) (fun b o e=>?_) I.bare
 ·obtain ⟨o,es,ep,ho,r⟩:=hm
  exact ⟨o,es,ep,hk _ o (fun z=>(hf _ z).2.1 rfl) ho,r⟩
 ·by_cases hb:b=s.heap.objs.size
  ·subst hb
   rw [aq] at e;cases e;refine ⟨by show 2 <= sizeLine;decide,[x,y],.cons ru (.cons rw' .nil),⟨_,hT,rfl,_,rfl⟩⟩
  ·rw [ad hb] at e
   refine (I.LA b o e).stay (fun c v hc q=>hk c v ?_ q) (fun c q=>by rw [ad (aH q hfr)];exact q) fun c xs q=>by rw [ad (aH q hfr)];exact q
   rcases hc with rfl | hc
   ·exact nch _ _ e
   ·exact nch _ _ hc
theorem Inv.turnN {X:Cx}{Lu:List (Addr × Obj)}{σ:St}{H:Hp}{s:Shared}{h':Heap}{ch:List Addr} (I:Inv X Lu σ H s) (hf:∀ b ∈ ch,dl X Lu H b)
  (hk:∀ c o,c ∉ ch->s.heap.get? c=some o->h'.get? c=some o):Inv X Lu σ H { s with heap:=h' }:=by
 have nch:∀ b o,H b=some o->b ∉ ch:=fun b o e hb=>by rw [(hf b hb).1] at e;cases e
 refine I.step (g':=s.gens) (d':=s.drawn) (t':=s.toks) (ch:=ch) (fun b hb=>⟨(hf b hb).2.2.2.1,(hf b hb).2.1,(hf b hb).2.2.2.2.1,(hf b hb).2.2.2.2.2⟩) (fun b o _ _ hc e _=>hk b o hc e)
  (fun b o _ _ hc e _=>⟨o.slots,hk b o hc e⟩) (fun b o _ e n=>n) (fun b o hc e=>⟨o,hk b o hc e⟩) (fun b xs e=>e)
  (fun b o v e=>e) (fun b ps e=>⟨#[],by rw [e];simp⟩) (fun m hm=>?_) (fun b o e=>?_) I.bare
 ·obtain ⟨o,es,ep,ho,r⟩:=hm
  exact ⟨o,es,ep,hk _ o (fun z=>(hf _ z).2.1 rfl) ho,r⟩
 ·refine (I.LA b o e).stay (fun c v hc q=>hk c v ?_ q) (fun c q=>q) fun c xs q=>q
  rcases hc with rfl | hc
  ·exact nch _ _ e
  ·exact nch _ _ hc
theorem cU {X:Cx}{Lu:List (Addr × Obj)}{σ:St}{H:Hp}{s:Shared}{a b:Addr}{xs:List V} (I:Inv X Lu σ H s) (h:aP X.K H a xs) (hb:dl X Lu H b) (hob:∃ o,s.heap.get? b=some o/\o.cls ≠ .type "list"):a ≠ b:=by
 rintro rfl;obtain ⟨Lx,r,⟨o,n,e,c,_⟩,_⟩:=I.list h;obtain ⟨o',e',c'⟩:=hob;rw [e] at e';cases e';exact c' c
theorem wZ {P:Program}{w:World}{K:Frag}{elts:List Expr}{x1:Nat}{tpos:Pos} (a b z TI TO i1 i2:Addr) (D1:TI ≠ z) (D2:TO ≠ z) (D3:i1 ≠ z) (D4:i2 ≠ z) (D5:TI ≠ TO) (D6:TI ≠ i1) (D7:TI ≠ i2) (D8:TO ≠ i1) (D9:TO ≠ i2) (D10:i1 ≠ i2) :
  jk P w K (.Tuple elts x1 tpos) (II K a b) [z,TI,TO,i1,i2] z (fun i h=>IsZip h z TI TO .none/\IsPair h TI (.ref i1) (.ref i2)/\(∃ u v,IsPair h TO u v)/\h.IsListIter i1 a i/\h.IsListIter i2 b i) where
 mem:=by simp
 obj:=fun i h hq0 c hc=>by
  obtain ⟨hz,hTI,⟨u,v,hTO⟩,⟨o1,e1,c1,d1⟩,⟨o2,e2,c2,d2⟩⟩:=hq0;simp only [zT,zX,or_false] at hc;rcases hc with rfl | rfl | rfl | rfl | rfl
  ·exact ⟨_,hz,fun v z=>nomatch z⟩
  ·exact ⟨_,hTI,fun v z=>nomatch z⟩
  ·exact ⟨_,hTO,fun v z=>nomatch z⟩
  ·exact ⟨_,e1,fun v z=>by rw [d1] at z;cases z⟩
  ·exact ⟨_,e2,fun v z=>by rw [d2] at z;cases z⟩
 keep:=fun i h h' ⟨hz,hTI,⟨u,v,hTO⟩,h1,h2⟩ k=>⟨k z (by simp) _ hz,k TI (by simp) _ hTI,⟨u,v,k TO (by simp) _ hTO⟩,h1.at fun o e=>k i1 (by simp) o e,h2.at fun o e=>k i2 (by simp) o e⟩
 item:=by
  rintro X hP hw hK hc i Lu s σ H E I hf ⟨hz,hTI,⟨ua,ub,hTO⟩,h1,h2⟩ ⟨xs,ys,x,y,hq1,hq2,hx,hy⟩;subst hP hw hK;obtain ⟨its1,rv1,p1,_⟩:=I.list hq1;obtain ⟨its2,rv2,p2,_⟩:=I.list hq2;obtain ⟨u1,hu1,ru1⟩:=rv1.get hx;obtain ⟨u2,hu2,ru2⟩:=rv2.get hy;have ob:∀ c ∈ [z,TO,i1,i2],∃ o,s.heap.get? c=some o/\o.cls ≠ .type "list":=fun c hc=>by
   obtain ⟨o1,e1,c1,d1⟩:=id h1;obtain ⟨o2,e2,c2,d2⟩:=id h2;simp only [zT,zX,or_false] at hc;rcases hc with rfl | rfl | rfl | rfl
   ·exact ⟨_,hz,by simp⟩
   ·exact ⟨_,hTO,by simp⟩
   ·exact ⟨_,e1,by rw [c1];simp⟩
   ·exact ⟨_,e2,by rw [c2];simp⟩
  have na:∀ c ∈ [z,TO,i1,i2],a ≠ c:=fun c hc=>cU I hq1 (hf c (by simp at hc ⊢;rcases hc with h | h | h | h <;> simp [h])) (ob c hc)
  have nb:∀ c ∈ [z,TO,i1,i2],b ≠ c:=fun c hc=>cU I hq2 (hf c (by simp at hc ⊢;rcases hc with h | h | h | h <;> simp [h])) (ob c hc)
  have D:ZipApart z TI TO i1 i2 a b:=⟨D1,D2,D3,D4,D5,D6,D7,D8,D9,D10,na z (by simp),na TO (by simp),na i1 (by simp),na i2 (by simp),nb z (by simp),nb TO (by simp),nb i1 (by simp),nb i2 (by simp)⟩;refine wpAny_pyNext_zip_item D hz hTI hTO h1 h2 p1.isList p2.isList (x:=u1) (y:=u2) (by simpa using hu1) (by simpa using hu2) fun h' a1 a2 a3 a4 a5 a6 hk=>?_
  have hf4:∀ c ∈ [z,TO,i1,i2],dl X Lu H c:=fun c hc=>hf c (by simp at hc ⊢;rcases hc with h | h | h | h <;> simp [h])
  have hk':∀ c o,c ∉ [z,TO,i1,i2]->s.heap.get? c=some o->h'.get? c=some o:=fun c o hc e=>hk c o (fun q=>hc (by simp [q])) (fun q=>hc (by simp [q])) (fun q=>hc (by simp [q])) (fun q=>hc (by simp [q])) e
  have I1:Inv X Lu σ (af H s.heap.objs.size (.tup [x,y])) { s with heap:=h' }:=I.turnT hf4 ru1 ru2 hk' a5 (fun c hc=>by
   obtain ⟨o1,e1,_⟩:=id a3;obtain ⟨o2,e2,_⟩:=id a4;simp only [zT,zX,or_false] at hc;rcases hc with rfl | rfl | rfl | rfl
   ·exact ⟨_,a1⟩
   ·exact ⟨_,a2⟩
   ·exact ⟨_,e1⟩
   ·exact ⟨_,e2⟩)
  have hfr:H s.heap.objs.size=none:=I.fresh;refine ⟨_,rfl,wpAny_letOwnedTupleGo_zip (s:={ s with heap:=h' }) a1 fun h'' z1 sb=>?_⟩;have hf5:∀ c ∈ [z,TI,TO,i1,i2],(af H s.heap.objs.size (.tup [x,y])) c=none:=fun c hc=>by
   have lt:c < s.heap.objs.size:=by
    obtain ⟨o1,e1,_⟩:=id h1;obtain ⟨o2,e2,_⟩:=id h2;simp only [zT,zX,or_false] at hc;rcases hc with rfl | rfl | rfl | rfl | rfl
    ·exact yJ hz
    ·exact yJ hTI
    ·exact yJ hTO
    ·exact yJ e1
    ·exact yJ e2
   rw [ad (zU lt)];exact (hf c hc).1
  have I2:Inv X Lu σ (af H s.heap.objs.size (.tup [x,y])) { s with heap:=h'' }:=Inv.turnN (s:={ s with heap:=h' }) (ch:=[z]) I1 (fun c hc=>by
   have:c=z:=by simpa using hc
   subst this;exact ⟨hf5 c (by simp),(hf c (by simp)).2⟩) (fun c o hc e=>(sb.2 c (fun q=>hc (by simp [q]))).trans e)
  refine ⟨.ref s.heap.objs.size,_,I2,rfl,⟨_,x,y,fun zs hzs=>by rw [I.list_inj hzs hq1];exact hx,fun zs hzs=>by rw [I.list_inj hzs hq2];exact hy,hfr,rfl,rfl⟩,⟨z1,?_,⟨u1,u2,?_⟩,?_,?_⟩,hf5⟩
  ·exact (sb.2 TI D1).trans (hk' TI _ (by simp [D1,D5,D6,D7]) hTI)
  ·exact (sb.2 TO D2).trans a2
  ·exact a3.at fun o e=>(sb.2 i1 D3).trans e
  ·exact a4.at fun o e=>(sb.2 i2 D4).trans e
 done:=by
  rintro X hP hw hK hc i Lu s σ H E I hf ⟨hz,hTI,⟨ua,ub,hTO⟩,h1,h2⟩ ⟨xs,ys,hq1,hq2,hend⟩;subst hP hw hK;obtain ⟨its1,rv1,p1,_⟩:=I.list hq1;obtain ⟨its2,rv2,p2,_⟩:=I.list hq2;have ob:∀ c ∈ [z,TO,i1,i2],∃ o,s.heap.get? c=some o/\o.cls ≠ .type "list":=fun c hc=>by
   obtain ⟨o1,e1,c1,d1⟩:=id h1;obtain ⟨o2,e2,c2,d2⟩:=id h2;simp only [zT,zX,or_false] at hc;rcases hc with rfl | rfl | rfl | rfl
   ·exact ⟨_,hz,by simp⟩
   ·exact ⟨_,hTO,by simp⟩
   ·exact ⟨_,e1,by rw [c1];simp⟩
   ·exact ⟨_,e2,by rw [c2];simp⟩
  have hf4:∀ c ∈ [z,TO,i1,i2],dl X Lu H c:=fun c hc=>hf c (by simp at hc ⊢;rcases hc with h | h | h | h <;> simp [h])
  have na:∀ c ∈ [z,TO,i1,i2],a ≠ c:=fun c hc=>cU I hq1 (hf4 c hc) (ob c hc)
  have nb:∀ c ∈ [z,TO,i1,i2],b ≠ c:=fun c hc=>cU I hq2 (hf4 c hc) (ob c hc)
  have D:ZipApart z TI TO i1 i2 a b:=⟨D1,D2,D3,D4,D5,D6,D7,D8,D9,D10,na z (by simp),na TO (by simp),na i1 (by simp),na i2 (by simp),nb z (by simp),nb TO (by simp),nb i1 (by simp),nb i2 (by simp)⟩;have hl1:=rv1.length;have hl2:=rv2.length;refine wpAny_pyNext_zip_end (I.ok.hd hc) D hz hTI hTO h1 h2 p1.isList p2.isList (by rcases hend with h | h;(left;simp;omega);(right;simp;omega)) fun h' hk=>⟨rfl,?_⟩
  exact I.turnN hf4 fun c o hc e=>hk c o (fun q=>hc (by simp [q])) (fun q=>hc (by simp [q])) (fun q=>hc (by simp [q])) (fun q=>hc (by simp [q])) e
 self:=fun _ _ _ _ _ ⟨hz,_⟩ h=>wpAny_pyIter_zip hz h
def JF (K:Frag) (ta:TA):TI:=fun σ H R=>ta σ H fun vs H1=>∃ a b,vs=[.ref a,.ref b]/\(∃ xs,aP K H1 a xs)/\(∃ ys,aP K H1 b ys)/\R (II K a b) H1
theorem Dv {X:Cx}{elts:List Expr}{x1:Nat}{tpos:Pos}{a b:Expr}{ta:TA}{p pos:Pos} (hg:Gl X "zip") (hm:X.mg "zip"=none) (ha:PA X [a,b] ta) (hs:starEach [a,b] X.env=[(false,eval a X.env),(false,eval b X.env)]:=by rfl) (hs2:starEach [b] X.env=[(false,eval b X.env)]:=by rfl) :
  PI X (.Tuple elts x1 tpos) (.Call (.Name "zip" p) [a,b] [] pos) (JF X.K ta):=by
 intro Lu s σ H R I h;refine Call_ (cV I hg hm boot_zip (PyProof.Rows.callWith_type1 (aA (ha pos Lu s σ H _ I h) fun us s1 ⟨vs,H1,I1,r1,q1⟩=>?_) (by rw [hs,hs2]) (by rw [hs2];rfl)));obtain ⟨l1,l2,e,⟨xs,hq1⟩,⟨ys,hq2⟩,q⟩:=q1;subst e;cases r1 with
 | cons r rr =>
  cases rr with
  | cons r' rr =>
   cases rr;cases r;cases r';obtain ⟨its1,rv1,p1,_⟩:=I1.list hq1;obtain ⟨its2,rv2,p2,_⟩:=I1.list hq2;refine call_zip_2 p1.isList p2.isList fun h' hz hTI hTO h1 h2 hsz hk=>?_
   have I2:Inv X Lu σ H1 { s1 with heap:=h' }:=I1.kept (t':=s1.toks) hk;refine wpAny_pyIter_zip (s:={ s1 with heap:=h' }) hz ?_;have lt:∀ k:Nat,s1.heap.objs.size <= s1.heap.objs.size + k:=fun k=>Nat.le_add_right _ _
   refine ⟨_,[s1.heap.objs.size + 4,s1.heap.objs.size + 2,s1.heap.objs.size + 3,s1.heap.objs.size,s1.heap.objs.size + 1],_,_,H1,rfl,I2,
    wZ l1 l2 (s1.heap.objs.size + 4) (s1.heap.objs.size + 2) (s1.heap.objs.size + 3) s1.heap.objs.size (s1.heap.objs.size + 1) ?_ ?_ ?_ ?_ ?_ ?_ ?_ ?_ ?_ ?_,⟨hz,hTI,⟨_,_,hTO⟩,h1,h2⟩,fun c hc=>?_,q⟩
   all_goals first
    | (show _ + _ ≠ _ + _;intro z;exact absurd (Nat.add_left_cancel z) dC)
    | (show _ ≠ _ + _;intro z;exact absurd z (by have:=Nat.lt_add_of_pos_right (n:=s1.heap.objs.size) (k:=4) dC;have:=Nat.lt_add_of_pos_right (n:=s1.heap.objs.size) (k:=1) dC;exact zU (by assumption)))
    | (show _ + _ ≠ _;exact Nat.ne_of_gt (Nat.lt_add_of_pos_right dC))
    | skip
   have hle:s1.heap.objs.size <= c:=by
    simp only [zT,zX,or_false] at hc;rcases hc with rfl | rfl | rfl | rfl | rfl
    ·exact lt 4
    ·exact lt 2
    ·exact lt 3
    ·exact zP _
    ·exact lt 1
   obtain ⟨f0,f1,f2,f3,f4,f5⟩:=I1.fpOk hle (I1.LA.fresh hle);exact ⟨f0,f1,f2,f3,f4,f5⟩
theorem yp {X:Cx}:zc X (fun o i H Q=>∃ p xs k v,o=.ref p/\i=.int k/\aP X.K H p xs/\fL xs k=some v/\Q v H):=by
 rintro Lu s σ H o i ov iv Q I ro ri ⟨p,xs,k,v,e1,e2,hq,he,q⟩;subst e1 e2;cases ro;obtain ⟨t,rfl⟩:=ri;obtain ⟨Lx,r,pl,hz⟩:=I.list hq;obtain ⟨j,h1,h2,h3,h4,h5⟩:=lL he;obtain ⟨w,ew,rw'⟩:=r.get h2;have hl:=r.length;have hn:=gB;have aE:EP X Lu σ Q w s:=⟨v,H,I,rw',q⟩;by_cases h0:0 <= k
 ·have hj:k.toNat=j:=by
   rw [seqIndex_of h0 h5] at h1;exact yE h1
  exact wpAny_getItem_list pl.isList h0 oM (by rw [hj];simpa using ew) aE
 ·have hj:(k + (Lx.toArray.size:Int)).toNat=j:=by
   rw [seqIndex_neg oM h4] at h1;rw [zI,<- hl];exact yE h1
  exact wpAny_getItem_list_neg pl.isList oM (by rw [zI] <;> omega) oM (by rw [hj];simpa using ew) aE
end L2
namespace DD
open PySem PySem.Spec PyProof.Rows L2
section
variable {X:Cx}{e o a b:Expr}{es:List Expr}{p q:DP}{c c':DE}{pos apos cpos:Pos}{i:Nat}{js:List DP}
theorem cnt_vals {h:Heap}{q:PyData}{e:Value->Bool} (he:∀ v p as,Reads h v p as->e v=PyData.eqv p q):∀ {vs:List Value}{ps:List PyData}{as:List Addr},ReadsAll h vs ps as->vs.countP e=ps.countP fun r=>PyData.eqv r q:=by
 intro vs
 induction vs with
 | nil=>intro ps as h;cases h;rfl
 | cons v vs ih =>
  intro ps as h;cases h with
  | cons r rs=>rw [List.countP_cons,List.countP_cons,ih rs,he _ _ _ r]
theorem reads_each {h:Heap}:∀ {vs:List Value}{ps:List PyData}{as:List Addr},ReadsAll h vs ps as->∀ v ∈ vs,∃ p as',p ∈ ps/\Reads h v p as':=by
 intro vs
 induction vs with
 | nil=>intro ps as h v hv;cases hv
 | cons v vs ih =>
  intro ps as h v hv;cases h with
  | cons r rs =>
   rcases zT.mp hv with rfl | hv
   ·exact ⟨_,_,z8,r⟩
   ·obtain ⟨p,as',hp,h⟩:=ih rs v hv
    exact ⟨p,as',zQ _ hp,h⟩
noncomputable def minL:List Int->Option Int
 | []=>none
 | x::xs=>some (xs.foldl (fun a b=>if b < a then b else a) x)
theorem Es:∀ (xs:List Int) (x:Int),(xs.foldl (fun a b=>if b < a then b else a) x ∈ x::xs)/\∀ a ∈ x::xs,xs.foldl (fun a b=>if b < a then b else a) x <= a
 | [],x=>⟨by simp,by simp⟩
 | y::xs,x=>by
  obtain ⟨h1,h2⟩:=Es xs (if y < x then y else x);rw [List.foldl_cons];constructor
  ·rcases zT.mp h1 with h | h
   ·rw [h];split <;> simp
   ·simp [h]
  ·intro a ha
   have hm:=h2 (if y < x then y else x) (by simp);have hx:(if y < x then y else x) <= x:=by split <;> omega
   have hy:(if y < x then y else x) <= y:=by split <;> omega
   rcases zT.mp ha with rfl | ha
   ·exact Int.le_trans hm hx
   ·rcases zT.mp ha with rfl | ha
    ·exact Int.le_trans hm hy
    ·exact h2 a (by simp [ha])
theorem minL_eq {ns:List Int}{m M:Int} (h:minL ns=some m) (h1:M ∈ ns) (h2:∀ a ∈ ns,M <= a):M=m:=by
 cases ns with
 | nil=>cases h1
 | cons x xs =>
  cases h;obtain ⟨g1,g2⟩:=Es xs x;have a1:=g2 M h1;have a2:=h2 _ g1;omega
end
section
variable {X:Cx}{e o a b:Expr}{es:List Expr}{p q:DP}{c c':DE}{pos apos cpos:Pos}{i:Nat}{js:List DP}
theorem any_vals {h:Heap}{q:PyData}{e:Value->Bool} (he:∀ v p as,Reads h v p as->e v=PyData.eqv p q):∀ {vs:List Value}{ps:List PyData}{as:List Addr},ReadsAll h vs ps as->vs.any e=ps.any fun r=>PyData.eqv r q
 | _,_,_,.nil=>rfl
 | _,_,_,.cons r rs=>by rw [List.any_cons,List.any_cons,any_vals he rs,he _ _ _ r]
end
end DD
namespace L2
open PySem PySem.Spec PyProof.Rows
def wR (K:Frag) (a:Addr) (n0:Nat):It :=
 ⟨fun i H=>∃ xs x,aP K H a xs/\xs[i]?=some x,
  fun i H x H'=>∃ p u,(∀ xs,aP K H a xs->xs[i]?=some u)/\H p=none/\H'=af H p (.tup [.int ((n0 + i:Nat):Int),u])/\x=.ref p,
  fun i H=>∃ xs,aP K H a xs/\xs.length=i⟩
theorem o6 {prog:Program}{w:World}{A:Around} (hh:A.handled=none) (it l:Addr) (hne:l ≠ it) (items:Array Value) (n0:Nat) :
  Draws prog w A it [it,l] (n0 + items.size) (fun i v=>n0 <= i/\items[i - n0]?=some v) (fun i h=>n0 <= i/\h.IsListIter it l (i - n0)/\h.IsList l items) where
 live:=fun _ _ q=>by obtain ⟨o,ho,_⟩:=q.2.1;exact ⟨o,ho⟩
 frame:=fun _ _ _ q hk=>⟨q.1,q.2.1.at fun o e=>hk it (by simp) o e,q.2.2.at fun o e=>hk l (by simp) o e⟩
 item:=fun i s Q E hi q hQ=>by
  have hl:i - n0 < items.size:=by have:=q.1;omega
  refine wpAny_nextOf_list_item q.2.1 q.2.2 (x:=items[i - n0]) (by simp [hl]) fun h' hit' hs'=>?_
  refine hQ _ h' s.toks ⟨q.1,by simp [hl]⟩ ⟨Nat.le_succ_of_le q.1,?_,q.2.2.extBut hs'.extBut hne⟩ hs';rw [show i + 1 - n0=i - n0 + 1 by have:=q.1;omega];exact hit'
 done:=fun s Q E q hE=>wpAny_nextOf_list_end hh q.2.1 q.2.2 (by simp) hE
theorem u6 {P:Program}{w:World}{K:Frag}{elts:List Expr}{x1:Nat}{tpos:Pos} (a z it:Addr) (n0:Nat) (D:z ≠ it) :
  jk P w K (.Tuple elts x1 tpos) (wR K a n0) [z,it] z (fun i h=>(∃ old,IsEnum h z it ((n0 + i:Nat):Int) old)/\h.IsListIter it a i) where
 mem:=by simp
 obj:=fun i h hq0 c hc=>by
  obtain ⟨⟨old,hz⟩,⟨o1,e1,c1,d1⟩⟩:=hq0;simp only [zT,zX,or_false] at hc;rcases hc with rfl | rfl
  ·exact ⟨_,hz,fun v z=>nomatch z⟩
  ·exact ⟨_,e1,fun v z=>by rw [d1] at z;cases z⟩
 keep:=fun i h h' ⟨⟨old,hz⟩,h1⟩ k=>⟨⟨old,k z (by simp) _ hz⟩,h1.at fun o e=>k it (by simp) o e⟩
 item:=by
  rintro X hP hw hK hc i Lu s σ H E I hf ⟨⟨old,hz⟩,h1⟩ ⟨xs,x,hq,hx⟩;subst hP hw hK;obtain ⟨Lx,rv,p1,_⟩:=I.list hq;obtain ⟨u,hu,ru⟩:=rv.get hx;have na:a ≠ z:=cU I hq (hf z (by simp)) ⟨_,hz,by simp⟩;have nb:a ≠ it:=cU I hq (hf it (by simp)) (by obtain ⟨o1,e1,c1,d1⟩:=id h1;exact ⟨_,e1,by rw [c1];simp⟩);have hil:i < Lx.length:=(zB.mp hu).1;refine wpAny_pyNext_enum_itemD (o6 (A:=X.A.in1) (I.ok.hd hc) it a nb Lx.toArray n0) hz ⟨Nat.le_add_right _ _,by rw [Nat.add_sub_cancel_left];exact h1,p1.isList⟩ (by simp [hil]) D (by simp [D,na.symm]) fun v h' tk hv ho hst hT hsz hk=>?_
  have ev:v=u:=by
   have h2:=hv.2;rw [Nat.add_sub_cancel_left] at h2;simp only [List.getElem?_toArray] at h2;rw [hu] at h2;exact (yE h2).symm
  subst ev;have hf2:∀ c ∈ [z,it],dl X Lu H c:=fun c hc=>hf c hc
  have hk':∀ c o,c ∉ [z,it]->s.heap.get? c=some o->h'.get? c=some o:=fun c o hc e=>hk c o (fun q=>hc (by simp [q])) (fun q=>hc (by simp [q])) e
  have I0:Inv X Lu σ (af H s.heap.objs.size (.tup [.int ((n0 + i:Nat):Int),x])) { s with heap:=h' }:=I.turnT hf2 (u:=.int ((n0 + i:Nat):Int)) ⟨tk,rfl⟩ ru hk' hT (fun c hc=>by
   obtain ⟨o1,e1,_⟩:=id hst.2.1;simp only [zT,zX,or_false] at hc;rcases hc with rfl | rfl
   ·exact ⟨_,ho⟩
   ·exact ⟨_,e1⟩)
  have I1:Inv X Lu σ (af H s.heap.objs.size (.tup [.int ((n0 + i:Nat):Int),x])) { s with heap:=h',toks:=tk + 1 }:=I0.kept (t':=tk + 1) (fun _ _ e=>e);have hfr:H s.heap.objs.size=none:=I.fresh;refine ⟨_,rfl,wpAny_letOwnedTupleGo_enum (s:={ s with heap:=h',toks:=tk + 1 }) ho fun h'' z1 sb=>?_⟩;have hf5:∀ c ∈ [z,it],(af H s.heap.objs.size (.tup [.int ((n0 + i:Nat):Int),x])) c=none:=fun c hc=>by
   have lt:c < s.heap.objs.size:=by
    obtain ⟨o1,e1,_⟩:=id h1;simp only [zT,zX,or_false] at hc;rcases hc with rfl | rfl
    ·exact yJ hz
    ·exact yJ e1
   rw [ad (zU lt)];exact (hf c hc).1
  have I2:Inv X Lu σ (af H s.heap.objs.size (.tup [.int ((n0 + i:Nat):Int),x])) { s with heap:=h'',toks:=tk + 1 }:=Inv.turnN (s:={ s with heap:=h',toks:=tk + 1 }) (ch:=[z]) I1 (fun c hc=>by
   have:c=z:=by simpa using hc
   subst this;exact ⟨hf5 c (by simp),(hf c (by simp)).2⟩) (fun c o hc e=>(sb.2 c (fun q=>hc (by simp [q]))).trans e)
  refine ⟨.ref s.heap.objs.size,_,I2,rfl,⟨_,x,fun zs hzs=>by rw [I.list_inj hzs hq];exact hx,hfr,rfl,rfl⟩,⟨⟨_,by rw [show ((n0 + (i + 1):Nat):Int)=((n0 + i:Nat):Int) + 1 by omega];exact z1⟩,?_⟩,hf5⟩;have h3:=hst.2.1;rw [show n0 + i + 1 - n0=i + 1 by omega] at h3;exact h3.at fun o e=>(sb.2 it D.symm).trans e
 done:=by
  rintro X hP hw hK hc i Lu s σ H E I hf ⟨⟨old,hz⟩,h1⟩ ⟨xs,hq,hend⟩;subst hP hw hK;obtain ⟨Lx,rv,p1,_⟩:=I.list hq;have nb:a ≠ it:=cU I hq (hf it (by simp)) (by obtain ⟨o1,e1,c1,d1⟩:=id h1;exact ⟨_,e1,by rw [c1];simp⟩);have hl:=rv.length;refine wpAny_pyNext_enum_endD (o6 (A:=X.A.in1) (I.ok.hd hc) it a nb Lx.toArray n0) hz ⟨Nat.le_add_right _ _,?_,p1.isList⟩ fun h' hk=>⟨rfl,?_⟩
  ·rw [Nat.add_sub_cancel_left,zI,<- hl,hend];exact h1
  ·exact I.turnN (ch:=[z,it]) (fun c hc=>hf c hc) fun c o hc e=>hk c o (fun q=>hc (by simp [q])) e
 self:=fun _ _ _ _ _ ⟨⟨_,hz⟩,_⟩ h=>wpAny_pyIter_enum hz h
theorem o8:bootBuiltins "enumerate"=some (.type "enumerate"):=by decide +kernel
def GW (K:Frag) (n0:Nat) (ta:TA):TI:=fun σ H R=>ta σ H fun vs H1=>∃ a,vs=[.ref a]/\(∃ xs,aP K H1 a xs)/\R (wR K a n0) H1
theorem qU {X:Cx}{Lu:List (Addr × Obj)}{σ:St}{H1:Hp}{s1:Shared}{h':Heap}{t':Nat}{l:Addr}{n0:Nat}{elts:List Expr}{x1:Nat}{tpos:Pos}{R:It->Hp->Prop} (I1:Inv X Lu σ H1 s1) (he:IsEnum h' (s1.heap.objs.size + 1) s1.heap.objs.size (n0:Int) .none) (hi:h'.IsListIter s1.heap.objs.size l 0)
  (hk:∀ b o,s1.heap.get? b=some o->h'.get? b=some o) (q:R (wR X.K l n0) H1):Fy X Lu σ (.Tuple elts x1 tpos) R (.ref (s1.heap.objs.size + 1)) { s1 with heap:=h',toks:=t' }:=by
 have I2:Inv X Lu σ H1 { s1 with heap:=h',toks:=t' }:=I1.kept (t':=t') hk;refine ⟨_,[s1.heap.objs.size + 1,s1.heap.objs.size],_,_,H1,rfl,I2,u6 l (s1.heap.objs.size + 1) s1.heap.objs.size n0 (Nat.ne_of_gt (Nat.lt_succ_self _)),⟨⟨_,by simpa using he⟩,hi⟩,fun c hc=>?_,q⟩;have hle:s1.heap.objs.size <= c:=by
  simp only [zT,zX,or_false] at hc;rcases hc with rfl | rfl
  ·exact Nat.le_succ _
  ·exact zP _
 obtain ⟨f0,f1,f2,f3,f4,f5⟩:=I1.fpOk hle (I1.LA.fresh hle);exact ⟨f0,f1,f2,f3,f4,f5⟩
theorem Bw {X:Cx}{elts:List Expr}{x1:Nat}{tpos:Pos}{a:Expr}{ta:TA}{p pos:Pos} (hg:Gl X "enumerate") (hm:X.mg "enumerate"=none) (ha:PA X [a] ta) (hs:starEach [a] X.env=[(false,eval a X.env)]:=by rfl) :
  PI X (.Tuple elts x1 tpos) (.Call (.Name "enumerate" p) [a] [] pos) (GW X.K 0 ta):=by
 intro Lu s σ H R I h;refine Call_ (cV I hg hm o8 (PyProof.Rows.callWith_type1 (aA (ha pos Lu s σ H _ I h) fun us s1 ⟨vs,H1,I1,r1,q1⟩=>?_) (by rw [hs];rfl) (by rfl)));obtain ⟨l,e,⟨xs,hq⟩,q⟩:=q1;subst e;cases r1 with
 | cons r rr =>
  cases rr;cases r;obtain ⟨Lx,rv,p1,_⟩:=I1.list hq;refine call_enumerate_list p1.isList fun h' he hi hsz hk=>?_
  refine wpAny_pyIter_enum (s:={ s1 with heap:=h' }) he ?_;exact qU (t':=s1.toks) (n0:=0) I1 he hi hk q
section
variable {prog:Program}{w:World}{A:Around}{E:Value->Shared->Prop}{s:Shared}
theorem xb {α:Type}{x:Sem α}{Q Q1:α->Shared->Prop}{M:Model} (h:wpAny M A x Q E s) (hQ:∀ a s,Q a s->Q1 a s):wpAny M A x Q1 E s:=yR h hQ fun _ _ x=>x
theorem pQ (a v:Value):checkTypeCall "enumerate" ⟨[a],[("start",v)]⟩=pure ():=by kernel_rfl
theorem pq (a v:Value):checkBuiltinCall "enumerate.__new__" ⟨[.type "enumerate",a],[("start",v)]⟩=pure ():=by kernel_rfl
theorem ou (o a v:Value):argsOk "object.__init__" ⟨[o,a],[("start",v)]⟩:=by
 unfold argsOk;rw [signature?_of (id:="object.__init__") (n:=['_','_','t','i','n','i','_','_']) (o:=['t','c','e','j','b','o']) (by kernel_rfl) F.owner_object]
 kernel_rfl
theorem uz {T newId:String}{self a v:Value} (hl:typeLookup (.type T) "__init__"=pure (some (.builtin "object.__init__"))) (hm:Bind.madeBy (.type T)=pure (some newId)) (hne:(some newId != some "object.__new__")=true) :
  Meets (Builtin.«object.__init__» ⟨[self,a],[("start",v)]⟩) (fun _ R s=>s.TypeIs self T/\R (.ok (.ret .none)) s):=Meets.of_wp fun prog w A R s hs=>by
 obtain ⟨hT,hq⟩:=hs
 repeat (any_goals (first | assumption | wp_step))
 exact ⟨_,rfl,hq⟩
theorem rj {M:Model}{pos:Pos}{T:String}{args:List (Bool × Sem Value)}{kws:List (Option Str × Sem Value)}{Q:Value->Shared->Prop} (hp:args.any (·.1)=false) (hk:kws.any (·.1.isNone)=false)
  (h:wpAny M A (evalArgs (.type T) true args kws) (fun a s₁=>wpAny M A (call (.type T) a.pos a.kw) Q E s₁) E s):wpAny M A (callWith pos (.type T) [] args kws) Q E s:=by
 unfold callWith;refine yF (yQ (xb h fun a s₁ h₁=>yF (wpAny_standAt ?_)));simp only [hp,hk,Bool.or_false];refine yF (yG (yF (xb h₁ fun r s₂ hr=>yF (yQ (wpAny_point (yG hr))))))
end
section
variable {prog:Program}{w:World}{A:Around}{E:Value->Shared->Prop}{s:Shared}
theorem Ap {it t:Addr}{items:Array Value} (hne:t ≠ it):∀ (n i:Nat) (s:Shared) (Q:List Value->Shared->Prop),s.heap.IsListIter it t i->s.heap.IsList t items->i + n <= items.size ->
  (∀ h',h'.IsListIter it t (i + n)->Heap.SameBut it s.heap h'->Q ((items.toList.drop i).take n) { s with heap:=h' })->wpAny (model prog w) A (draw (.ref it) n) Q E s
 | 0,i,s,Q,hit,_,_,hQ=>yG (by simpa using hQ s.heap hit (Heap.SameBut.refl ..))
 | n + 1,i,s,Q,hit,ht,hle,hQ=>by
  have hlt:i < items.size:=by omega
  refine yF (m:=pyNext (.ref it)) (wpAny_pyNext_list_item hit ht (x:=items[i]) (by simp [hlt]) fun h₁ hit₁ hs₁=>?_);refine yF (yQ (Ap hne n (i + 1) _ _ hit₁ (ht.extBut hs₁.extBut hne) oM fun h₂ hit₂ hs₂=>yG ?_));have q:=hQ h₂ (by rw [show i + (n + 1)=i + 1 + n by omega];exact hit₂) (hs₁.trans hs₂);rw [show items.toList.drop i=items[i]::items.toList.drop (i + 1) by simp [List.drop_eq_getElem_cons,hlt],List.take_succ_cons] at q;exact q
theorem AM {t:Addr}{items:Array Value}{targets:List (Bool × (Value->Sem Unit))}{Q:Unit->Shared->Prop} (hh:A.handled=none) (ht:s.heap.IsList t items) (hn:targets.length=items.size) (hstar:targets.findIdx? (·.1)=none)
  (h:∀ h',Heap.ExtBut s.heap.objs.size s.heap h'->wpAny (model prog w) A (assignInOrder (targets.map (·.2)) items.toList) Q E { s with heap:=h' }):wpAny (model prog w) A (unpack (.ref t) targets) Q E s:=by
 have hlt:t ≠ s.heap.objs.size:=by obtain ⟨o,ho,_⟩:=ht;exact zU (yJ ho)
 unfold unpack;rw [hn,hstar];refine yF (yQ ?_);unfold unpackItems;refine yF ?_;unfold notIterableAtAll;refine yF (wpAny_specialOf ht.typeIs slot_list_iter.lookup (yG ?_));simp only [yB,if_false];refine yF (yQ (wpAny_pyIter_list ht (yF (yQ (Ap hlt items.size 0 _ _ ⟨_,zY _ rfl,rfl,rfl⟩ (ht.push _) oM fun h₁ hit₁ hs₁=>?_)))));rw [show List.take items.size (List.drop 0 items.toList)=items.toList by rw [List.drop_zero];exact List.take_of_length_le (by simp),yH (by simp)];refine yF (yQ (wpAny_pyNext_list_end hh hit₁ ((ht.push _).extBut hs₁.extBut hlt) (by simp) fun h₂ he₂=>?_));simp only [Option.isSome_none,yB,if_false];exact yG (h h₂ fun b o hb e=>he₂ b o hb (hs₁.extBut b o hb (zG _ e)))
end
section
variable {X:Cx}{pos:Pos}
noncomputable def G2 (K:Frag) (n:Nat) (t:mi):TG:=fun v σ H Q=>∃ a xs,v=.ref a/\aP K H a xs/\xs.length=n/\t xs σ H Q
theorem Bz {es:List Expr}{k:Nat}{t:mi}{n:Nat} (hc:X.calm=true) (h:pi X es t) (hn:(assignEach es X.env).length=n:=by rfl) (hst:(assignEach es X.env).findIdx? (·.1)=none:=by rfl):PG X (.Tuple es k pos) (G2 X.K n t):=by
 intro Lu s σ H v u Q I r hw;obtain ⟨a,xs,e1,hq,hl,hw⟩:=hw;subst e1;cases r;obtain ⟨Lx,rv,pl,hz⟩:=I.list hq;rw [arm_assign_Tuple];refine yF (wpAny_standAt (AM (I.ok.hd hc) pl.isList (by simp [hn,<- hl,rv.length]) hst fun h' hx=>?_));have I1:Inv X Lu σ H { s with heap:=h' }:=I.kept (t':=s.toks) fun b o e=>hx b o (zU (yJ e)) e
 exact h Lu _ σ H xs _ Q I1 (by simpa using rv) hw
theorem jG:∀ (l:List Value) (k:Nat),(∀ (j:Nat) (v:Value),l[j]?=some v->∃ t,v=.int ((k + j:Nat):Int) t)->Vals ((List.range' k l.length).map fun (q:Nat)=>V.int (q:Int)) l
 | [],_,_=>.nil
 | u::l,k,h=>by
  rw [yV,List.range'_succ,zO];refine .cons ?_ (jG l (k + 1) fun j v e=>?_)
  ·obtain ⟨t,e⟩:=h 0 u rfl
   exact ⟨t,e⟩
  ·obtain ⟨t,e2⟩:=h (j + 1) v (by simpa using e)
   exact ⟨t,by rw [e2,show k + (j + 1)=k + 1 + j by omega]⟩
theorem jS:bootBuiltins "list"=some (.type "list"):=by decide +kernel
def CI (ta:TE):TE:=fun σ H Q=>zn ta tM σ H fun vs H1=>∃ j:Nat,vs=[.int (j:Int)]/\j <= 1000/\∀ p,H1 p=none->Q (.ref p) (af H1 p (.lst ((List.range' 0 j).map fun (q:Nat)=>V.int (q:Int))))
theorem xH {a:Expr}{ta:TE}{p1 p2 pos2:Pos} (hc:X.calm=true) (hgl:Gl X "list") (hml:X.mg "list"=none) (hgr:Gl X "range") (hmr:X.mg "range"=none) (ha:PE X a ta)
  (hs:starEach [a] X.env=[(false,eval a X.env)]:=by rfl) (hs1:starEach [.Call (.Name "range" p2) [a] [] pos2] X.env=[(false,eval (.Call (.Name "range" p2) [a] [] pos2) X.env)]:=by rfl) :
  PE X (.Call (.Name "list" p1) [.Call (.Name "range" p2) [a] [] pos2] [] pos) (CI ta):=by
 intro Lu s σ H Q I h;refine Call_ (cV I hgl hml jS (PyProof.Rows.callWith_type1 ?_ (by rw [hs1];rfl) (by rfl)));rw [hs1];refine Calls.spliced_cons (Call_ (cV I hgr hmr boot_range (PyProof.Rows.callWith_type1 (aA ((ly ha qf hs) pos2 Lu s σ H _ I h) fun us s1 ⟨vs,H1,I1,r1,q1⟩=>?_) (by rw [hs];rfl) (by rfl))));cases r1 with
 | nil=>obtain ⟨j,e,_⟩:=q1;cases e
 | cons r rr =>
  obtain ⟨j,e,hj,q⟩:=q1;cases e;cases rr;obtain ⟨t,rfl⟩:=r;refine call_range_1 (Calls.spliced_nil ?_);have I2:Inv X Lu σ H1 { s1 with heap:=s1.heap.push { cls:=.type "range",data:=.fields #[.int 0 s1.toks,.int (j:Int) t,.int 1 (s1.toks + 1)] },toks:=s1.toks + 1 + 1 }:=I1.kept fun b o e=>zG _ e
  refine call_list_range (n:=j) (I.ok.hd hc) (IsRange.new ..) (small_one oM oM oM oM) (by rw [rangeSize_one];split <;> omega) oM fun h' tk acc' c' hk hS hacc=>?_
  have hv:=jG acc'.toList 0 (fun i v e=>by
   obtain ⟨t,e2⟩:=hacc.2 i v (by simpa using e);exact ⟨t,by rw [e2];congr 1;omega⟩)
  rw [show acc'.toList.length=j by simpa using hacc.1] at hv;exact ⟨.ref _,_,I2.laid (o:=.lst ((List.range' 0 j).map fun (q:Nat)=>V.int (q:Int))) hk (zP _) ⟨yW (oJ (by simp;omega)),acc'.toList,c',hv,hS⟩,rfl,q _ I2.fresh⟩
end
end L2
namespace PySem
open Sem (wp)
namespace F
theorem typeCall_zip_4 (a b c d:Value):checkTypeCall "zip" ⟨[a,b,c,d],[]⟩=pure ():=by kernel_rfl
theorem newCall_zip_4 (a b c d:Value):checkBuiltinCall "zip.__new__" ⟨[.type "zip",a,b,c,d],[]⟩=pure ():=by kernel_rfl
theorem args_object_init_5 (o a b c d:Value):argsOk "object.__init__" ⟨[o,a,b,c,d],[]⟩:=by
 unfold argsOk;rw [signature?_of (id:="object.__init__") (n:=['_','_','t','i','n','i','_','_']) (o:=['t','c','e','j','b','o']) (by kernel_rfl) owner_object];kernel_rfl
end F
abbrev gJ (h:Heap) (T:Addr) (a b c d:Value):Prop:=h.get? T=some { cls:=.type "tuple",data:=.seq #[a,b,c,d] }
section
variable {prog:Program}{w:World}{A:Around}{E:Value->Shared->Prop}{s:Shared}
theorem tI {T:Nat}{a b c d x:Value}{k:Nat}{Q:Unit->Shared->Prop} (hT:gJ s.heap T a b c d)
  (h:∀ h',h'.get? T=some { cls:=.type "tuple",data:=.seq ((#[a,b,c,d]:Array Value).setIfInBounds k x) }->Heap.SameBut T s.heap h'->Q () { s with heap:=h' }) :
  wpAny (model prog w) A (updateSeq T (·.setIfInBounds k x)) Q E s:=by
 refine wpAny_updateSeq hT rfl (h _ ?_ (Heap.SameBut.update ..));rw [Heap.get?_update_self _ hT rfl];simp [Obj.mapSeq]
structure rQ (h:Heap) (n l1 l2 l3 l4:Nat) (xs1 xs2 xs3 xs4:Array Value) (k:Nat) (f0:Value):Prop where
 z:IsZip h (n + 6) (n + 4) (n + 5) f0
 ti:gJ h (n + 4) (.ref n) (.ref (n + 1)) (.ref (n + 2)) (.ref (n + 3))
 to:∃ a b c d,gJ h (n + 5) a b c d
 i1:h.IsListIter n l1 k
 i2:h.IsListIter (n + 1) l2 k
 i3:h.IsListIter (n + 2) l3 k
 i4:h.IsListIter (n + 3) l4 k
 l1:h.IsList l1 xs1
 l2:h.IsList l2 xs2
 l3:h.IsList l3 xs3
 l4:h.IsList l4 xs4
theorem uW {n l1 l2 l3 l4:Nat}{k:Nat}{xs1 xs2 xs3 xs4:Array Value}{x1 x2 x3 x4:Value}{Q:Value->Shared->Prop} (b1:l1 < n) (b2:l2 < n) (b3:l3 < n) (b4:l4 < n)
  (a:rQ s.heap n l1 l2 l3 l4 xs1 xs2 xs3 xs4 k .none) (g1:xs1[k]?=some x1) (g2:xs2[k]?=some x2) (g3:xs3[k]?=some x3) (g4:xs4[k]?=some x4)
  (hQ:∀ h',rQ h' n l1 l2 l3 l4 xs1 xs2 xs3 xs4 (k + 1) (rawInt s.heap.objs.size)->gJ h' s.heap.objs.size x1 x2 x3 x4->h'.objs.size=s.heap.objs.size + 1 ->
   (∀ (c:Nat) o,(c < n\/n + 7 <= c)->s.heap.get? c=some o->h'.get? c=some o)->Q (.ref s.heap.objs.size) { s with heap:=h' }) :
  wpAny (model prog w) A (Builtin.«zip.__next__» ⟨[.ref (n + 6)],[]⟩) (fun aE s'=>∃ v,aE=.done (.ret v)/\Q v s') E s:=by
 obtain ⟨hz,hTI,⟨o1,o2,o3,o4,hTO⟩,h1,h2,h3,h4,hl1,hl2,hl3,hl4⟩:=a;show wpAny _ _ (field (.ref (n + 6)) 2 >>= _) _ _ _;refine yF (wpAny_field hz rfl (x:=.bool false) rfl ?_);show wpAny _ _ (field (.ref (n + 6)) 3 >>= _) _ _ _;refine yF (wpAny_field hz rfl (x:=.ref (n + 4)) rfl ?_);refine yF (wpAny_seqItems hTI rfl ?_);show wpAny _ _ (Builtin.SmallTypes.ownedTupleIsFree (.ref (n + 6)) >>= _) _ _ _;refine yF ?_;unfold Builtin.SmallTypes.ownedTupleIsFree;refine yF (wpAny_field hz rfl (x:=.none) rfl (yG ?_));simp only [if_true];refine yF (wpAny_rule ?_);refine yF (wpAny_field hz rfl (x:=.ref (n + 5)) rfl ?_);refine yF (wpAny_setField_rec hz (by simp) fun h₁ hz₁ hs₁=>?_);replace hz₁:IsZip h₁ (n + 6) (n + 4) (n + 5) .ellipsis:=hz₁;refine yF ?_;simp only [List.zipIdx_cons,List.zipIdx_nil,List.forIn_cons,List.forIn_nil];have up1:∀ (c:Nat) o,c < n + 6\/n + 7 <= c->s.heap.get? c=some o->h₁.get? c=some o:=fun c o hc e=>hs₁.extBut _ _ oM e
 -- the first one
 refine yF (yF (wpAny_onRaise ?_));show wpAny _ _ (Builtin.SmallTypes.nextOf (.ref n) >>= _) _ _ _;refine yF (wpAny_nextOf_list_item (h1.at fun o e=>up1 _ o oM e) (hl1.at fun o e=>up1 _ o oM e) g1 fun h₂ h1₂ hs₂=>yG ?_);have hTO₂:gJ h₂ (n + 5) o1 o2 o3 o4:=hs₂.extBut _ _ oM (up1 _ _ oM hTO);refine yF (wpAny_seqItems hTO₂ rfl ?_);refine yF (tI hTO₂ fun h₃ hTO₃ hs₃=>?_);replace hTO₃:gJ h₃ (n + 5) x1 o2 o3 o4:=hTO₃;refine yF (wpAny_letGo (yG ?_));have up3:∀ (c:Nat) o,c < n\/(n < c/\c < n + 5)\/n + 7 <= c->s.heap.get? c=some o->h₃.get? c=some o:=fun c o hc e=>hs₃.extBut _ _ oM (hs₂.extBut _ _ oM (up1 _ _ oM e))
 have hz₃:IsZip h₃ (n + 6) (n + 4) (n + 5) .ellipsis:=hs₃.extBut _ _ oM (hs₂.extBut _ _ oM hz₁);have h1₃:h₃.IsListIter n l1 (k + 1):=h1₂.extBut hs₃.extBut oM
 -- the second one
 refine yF (yF (wpAny_onRaise ?_));show wpAny _ _ (Builtin.SmallTypes.nextOf (.ref (n + 1)) >>= _) _ _ _;refine yF (wpAny_nextOf_list_item (h2.at fun o e=>up3 _ o oM e) (hl2.at fun o e=>up3 _ o oM e) g2 fun h₄ h2₄ hs₄=>yG ?_);have hTO₄:gJ h₄ (n + 5) x1 o2 o3 o4:=hs₄.extBut _ _ oM hTO₃;refine yF (wpAny_seqItems hTO₄ rfl ?_);refine yF (tI hTO₄ fun h₅ hTO₅ hs₅=>?_);replace hTO₅:gJ h₅ (n + 5) x1 x2 o3 o4:=hTO₅;refine yF (wpAny_letGo (yG ?_));have up5:∀ (c:Nat) o,c ≠ n + 1->c ≠ n + 5->h₃.get? c=some o->h₅.get? c=some o:=fun c o c1 c2 e=>hs₅.extBut _ _ c2 (hs₄.extBut _ _ c1 e)
 have hz₅:IsZip h₅ (n + 6) (n + 4) (n + 5) .ellipsis:=up5 _ _ oM oM hz₃;have h1₅:h₅.IsListIter n l1 (k + 1):=h1₃.at fun o e=>up5 _ o oM oM e
 have h2₅:h₅.IsListIter (n + 1) l2 (k + 1):=h2₄.extBut hs₅.extBut oM
 -- the third one
 refine yF (yF (wpAny_onRaise ?_));show wpAny _ _ (Builtin.SmallTypes.nextOf (.ref (n + 2)) >>= _) _ _ _;refine yF (wpAny_nextOf_list_item (h3.at fun o e=>up5 _ o oM oM (up3 _ o oM e)) (hl3.at fun o e=>up5 _ o oM oM (up3 _ o oM e)) g3 fun h₆ h3₆ hs₆=>yG ?_);have hTO₆:gJ h₆ (n + 5) x1 x2 o3 o4:=hs₆.extBut _ _ oM hTO₅;refine yF (wpAny_seqItems hTO₆ rfl ?_);refine yF (tI hTO₆ fun h₇ hTO₇ hs₇=>?_);replace hTO₇:gJ h₇ (n + 5) x1 x2 x3 o4:=hTO₇;refine yF (wpAny_letGo (yG ?_));have up7:∀ (c:Nat) o,c ≠ n + 2->c ≠ n + 5->h₅.get? c=some o->h₇.get? c=some o:=fun c o c1 c2 e=>hs₇.extBut _ _ c2 (hs₆.extBut _ _ c1 e)
 have hz₇:IsZip h₇ (n + 6) (n + 4) (n + 5) .ellipsis:=up7 _ _ oM oM hz₅;have h1₇:h₇.IsListIter n l1 (k + 1):=h1₅.at fun o e=>up7 _ o oM oM e
 have h2₇:h₇.IsListIter (n + 1) l2 (k + 1):=h2₅.at fun o e=>up7 _ o oM oM e
 have h3₇:h₇.IsListIter (n + 2) l3 (k + 1):=h3₆.extBut hs₇.extBut oM
 -- the fourth one
 refine yF (yF (wpAny_onRaise ?_));show wpAny _ _ (Builtin.SmallTypes.nextOf (.ref (n + 3)) >>= _) _ _ _;refine yF (wpAny_nextOf_list_item (h4.at fun o e=>up7 _ o oM oM (up5 _ o oM oM (up3 _ o oM e))) (hl4.at fun o e=>up7 _ o oM oM (up5 _ o oM oM (up3 _ o oM e))) g4 fun h₈ h4₈ hs₈=>yG ?_);have hTO₈:gJ h₈ (n + 5) x1 x2 x3 o4:=hs₈.extBut _ _ oM hTO₇;refine yF (wpAny_seqItems hTO₈ rfl ?_);refine yF (tI hTO₈ fun h₉ hTO₉ hs₉=>?_);replace hTO₉:gJ h₉ (n + 5) x1 x2 x3 x4:=hTO₉;refine yF (wpAny_letGo (yG (yG ?_)));have up9:∀ (c:Nat) o,c ≠ n + 3->c ≠ n + 5->h₇.get? c=some o->h₉.get? c=some o:=fun c o c1 c2 e=>hs₉.extBut _ _ c2 (hs₈.extBut _ _ c1 e)
 have hz₉:IsZip h₉ (n + 6) (n + 4) (n + 5) .ellipsis:=up9 _ _ oM oM hz₇;have hsz:h₉.objs.size=s.heap.objs.size:=by rw [hs₉.1,hs₈.1,hs₇.1,hs₆.1,hs₅.1,hs₄.1,hs₃.1,hs₂.1,hs₁.1]
 refine yF (wpAny_seqItems hTO₉ rfl ?_);refine yF (wpAny_newTuple ?_);have hzlt:n + 6 < h₉.objs.size:=yJ hz₉;show wpAny _ _ (Builtin.SmallTypes.ownedTupleHandOut (.ref (n + 6)) (.ref h₉.objs.size) >>= _) _ _ _;refine yF ?_;unfold Builtin.SmallTypes.ownedTupleHandOut;have hz₁₀:IsZip (h₉.push { cls:=.type "tuple",data:=.seq #[x1,x2,x3,x4] }) (n + 6) (n + 4) (n + 5) .ellipsis:=zG _ hz₉;refine yF (wpAny_setField_rec hz₁₀ (by simp) fun h₁₁ hz₁₁ hs₁₁=>?_);replace hz₁₁:IsZip h₁₁ (n + 6) (n + 4) (n + 5) (rawInt h₉.objs.size):=hz₁₁;refine wpAny_setField_rec hz₁₁ (by simp) fun h₁₂ hz₁₂ hs₁₂=>?_
 replace hz₁₂:IsZip h₁₂ (n + 6) (n + 4) (n + 5) (rawInt h₉.objs.size):=hz₁₂;have up:∀ (c:Nat) o,c ≠ n + 6->h₉.get? c=some o->h₁₂.get? c=some o:=fun c o c1 e=>hs₁₂.extBut _ _ c1 (hs₁₁.extBut _ _ c1 (zG _ e))
 have hT₁₂:gJ h₁₂ h₉.objs.size x1 x2 x3 x4:=hs₁₂.extBut _ _ (Nat.ne_of_gt hzlt) (hs₁₁.extBut _ _ (Nat.ne_of_gt hzlt) (zY _ rfl));have hz12:h₁₂.objs.size=h₉.objs.size + 1:=by rw [hs₁₂.1,hs₁₁.1,Heap.size_push]
 rw [hsz] at hz₁₂ hT₁₂ hz12;have top:∀ (c:Nat) o,(c < n\/c=n + 4\/n + 7 <= c)->s.heap.get? c=some o->h₁₂.get? c=some o:=fun c o hc e =>
  up c o oM (up9 c o oM oM (up7 c o oM oM (up5 c o oM oM (up3 c o oM e))))
 refine yG ⟨_,rfl,?_⟩;show Q (.ref h₉.objs.size) _;rw [hsz];refine hQ h₁₂ ⟨hz₁₂,top _ _ oM hTI,⟨_,_,_,_,up _ _ oM hTO₉⟩,?_,?_,?_,?_,hl1.at fun o e=>top _ o oM e,hl2.at fun o e=>top _ o oM e,hl3.at fun o e=>top _ o oM e,hl4.at fun o e=>top _ o oM e⟩ hT₁₂ hz12 fun c o hc e=>top c o oM e
 ·exact h1₇.at fun o e=>up _ o oM (up9 _ o oM oM e)
 ·exact h2₇.at fun o e=>up _ o oM (up9 _ o oM oM e)
 ·exact h3₇.at fun o e=>up _ o oM (up9 _ o oM oM e)
 ·exact (h4₈.extBut hs₉.extBut oM).at fun o e=>up _ o oM e
theorem wW {n l1 l2 l3 l4:Nat}{k:Nat}{xs1 xs2 xs3 xs4:Array Value}{Q:Fin->Shared->Prop} (hh:A.handled=none) (b1:l1 < n)
  (a:rQ s.heap n l1 l2 l3 l4 xs1 xs2 xs3 xs4 k .none) (g1:xs1[k]?=none)
  (hE:∀ h' e,(∀ (c:Nat) o,(c < n\/n + 7 <= c)->s.heap.get? c=some o->h'.get? c=some o)->(∃ o,h'.get? e=some o/\o.cls=.type "StopIteration")->E (.ref e) { s with heap:=h' }) :
  wpAny (model prog w) A (Builtin.«zip.__next__» ⟨[.ref (n + 6)],[]⟩) Q E s:=by
 obtain ⟨hz,hTI,⟨o1,o2,o3,o4,hTO⟩,h1,h2,h3,h4,hl1,hl2,hl3,hl4⟩:=a;show wpAny _ _ (field (.ref (n + 6)) 2 >>= _) _ _ _;refine yF (wpAny_field hz rfl (x:=.bool false) rfl ?_);show wpAny _ _ (field (.ref (n + 6)) 3 >>= _) _ _ _;refine yF (wpAny_field hz rfl (x:=.ref (n + 4)) rfl ?_);refine yF (wpAny_seqItems hTI rfl ?_);show wpAny _ _ (Builtin.SmallTypes.ownedTupleIsFree (.ref (n + 6)) >>= _) _ _ _;refine yF ?_;unfold Builtin.SmallTypes.ownedTupleIsFree;refine yF (wpAny_field hz rfl (x:=.none) rfl (yG ?_));simp only [if_true];refine yF (wpAny_rule ?_);refine yF (wpAny_field hz rfl (x:=.ref (n + 5)) rfl ?_);refine yF (wpAny_setField_rec hz (by simp) fun h₁ hz₁ hs₁=>?_);replace hz₁:IsZip h₁ (n + 6) (n + 4) (n + 5) .ellipsis:=hz₁;refine yF ?_;simp only [List.zipIdx_cons,List.zipIdx_nil,List.forIn_cons,List.forIn_nil];refine yF (yF (wpAny_onRaise ?_));show wpAny _ _ (Builtin.SmallTypes.nextOf (.ref n) >>= _) _ _ _;refine yF (wpAny_nextOf_list_end hh (h1.extBut hs₁.extBut oM) (hl1.extBut hs₁.extBut oM) g1 fun h₂ e hs₂ he=>?_);obtain ⟨oe,hoe,hce⟩:=he;have hz₂:IsZip h₂ (n + 6) (n + 4) (n + 5) .ellipsis:=hs₂ _ _ oM hz₁;have hez:e ≠ n + 6:=fun x=>by subst x;rw [hz₂] at hoe;cases hoe;simp at hce
 exact wpAny_setField_rec hz₂ (by simp) fun h₃ _ hs₃=>hE h₃ e (fun c o hc x=>hs₃.extBut _ _ oM (hs₂ _ _ oM (hs₁.extBut _ _ oM x))) ⟨oe,hs₃.extBut _ _ hez hoe,hce⟩
theorem vR {n l1 l2 l3 l4:Nat}{k:Nat}{xs1 xs2 xs3 xs4:Array Value}{x1 x2 x3 x4:Value}{Q:Option Value->Shared->Prop} (b1:l1 < n) (b2:l2 < n) (b3:l3 < n) (b4:l4 < n)
  (a:rQ s.heap n l1 l2 l3 l4 xs1 xs2 xs3 xs4 k .none) (g1:xs1[k]?=some x1) (g2:xs2[k]?=some x2) (g3:xs3[k]?=some x3) (g4:xs4[k]?=some x4)
  (hQ:∀ h',rQ h' n l1 l2 l3 l4 xs1 xs2 xs3 xs4 (k + 1) (rawInt s.heap.objs.size)->gJ h' s.heap.objs.size x1 x2 x3 x4->h'.objs.size=s.heap.objs.size + 1 ->
   (∀ (c:Nat) o,(c < n\/n + 7 <= c)->s.heap.get? c=some o->h'.get? c=some o)->Q (some (.ref s.heap.objs.size)) { s with heap:=h' }) :
  wpAny (model prog w) A (pyNext (.ref (n + 6))) Q E s:=by
 have hT:s.TypeIs (.ref (n + 6)) "zip":=⟨_,a.z,rfl⟩;unfold pyNext;exact yF (wpAny_attempt (wpAny_callSpecial?_slot (name:=Str.ofString "__next__") hT F.slot_zip_next
  (wpAny_call_entry F.slot_zip_next hT F.entry_zip_next
   (uW b1 b2 b3 b4 a g1 g2 g3 g4 fun h' a1 a2 a3 a4=>yG (hQ h' a1 a2 a3 a4)) (F.args_zip_next_1 _))))
theorem vh {n l1 l2 l3 l4:Nat}{k:Nat}{xs1 xs2 xs3 xs4:Array Value}{Q:Option Value->Shared->Prop} (hh:A.handled=none) (b1:l1 < n)
  (a:rQ s.heap n l1 l2 l3 l4 xs1 xs2 xs3 xs4 k .none) (g1:xs1[k]?=none)
  (hQ:∀ h',(∀ (c:Nat) o,(c < n\/n + 7 <= c)->s.heap.get? c=some o->h'.get? c=some o)->Q none { s with heap:=h' }):wpAny (model prog w) A (pyNext (.ref (n + 6))) Q E s:=by
 have hT:s.TypeIs (.ref (n + 6)) "zip":=⟨_,a.z,rfl⟩;unfold pyNext;refine yF (wpAny_attempt (wpAny_callSpecial?_slot (name:=Str.ofString "__next__") hT F.slot_zip_next
  (wpAny_call_entry F.slot_zip_next hT F.entry_zip_next (wW hh b1 a g1 fun h' e hk he=>?_) (F.args_zip_next_1 _))))
 obtain ⟨o,ho,hc⟩:=he;refine yF (wpAny_isInstance (T:="StopIteration") (b:=true) ⟨o,ho,hc⟩ isSubtype_stop ?_);exact yG (hQ _ hk)
end
abbrev cR (l:Addr):Obj:={ cls:=.type "list_iterator",data:=.fields #[.ref l,.int 0 0] }
abbrev pN (h:Heap) (l1 l2 l3 l4:Nat):Heap:=(((h.push (cR l1)).push (cR l2)).push (cR l3)).push (cR l4)
abbrev pM (h:Heap) (l1 l2 l3 l4:Nat):Heap:=(pN h l1 l2 l3 l4).push { cls:=.type "tuple",data:=.seq #[.ref h.objs.size,.ref (h.push (cR l1)).objs.size,.ref ((h.push (cR l1)).push (cR l2)).objs.size,.ref (((h.push (cR l1)).push (cR l2)).push (cR l3)).objs.size] }
abbrev pL (h:Heap) (l1 l2 l3 l4:Nat):Heap:=(pM h l1 l2 l3 l4).push { cls:=.type "tuple",data:=.seq #[.none,.none,.none,.none] }
abbrev eW (h:Heap) (l1 l2 l3 l4:Nat):Heap:=(pL h l1 l2 l3 l4).push { cls:=.type "zip",data:=.fields #[.none,.bool false,.bool false,.ref (pN h l1 l2 l3 l4).objs.size,.ref (pM h l1 l2 l3 l4).objs.size] }
theorem oh (l1 l2 l3 l4:Nat) (xs1 xs2 xs3 xs4:Array Value) :
  Meets (Builtin.«zip.__new__» ⟨[.type "zip",.ref l1,.ref l2,.ref l3,.ref l4],[]⟩) (fun _ R s=>s.heap.IsList l1 xs1/\s.heap.IsList l2 xs2/\s.heap.IsList l3 xs3/\s.heap.IsList l4 xs4 /\
   R (.ok (.ret (.ref (pL s.heap l1 l2 l3 l4).objs.size))) { s with heap:=eW s.heap l1 l2 l3 l4 }) :=
 .of_wp fun prog w A R s h=>by
  obtain ⟨hp,g,d,tk,os⟩:=s;obtain ⟨hl1,hl2,hl3,hl4,h⟩:=h;have hsub:=sub_zip;have hL1:Heap.IsList (Shared.heap ⟨hp,g,d,tk,os⟩) l1 xs1:=hl1;have hL2:Heap.IsList (Shared.heap ⟨hp.push { cls:=.type "list_iterator",data:=.fields #[.ref l1,.int 0 0] },g,d,tk,os⟩) l2 xs2:=Heap.IsList.push hl2 _;have hL3:Heap.IsList (Shared.heap ⟨(hp.push { cls:=.type "list_iterator",data:=.fields #[.ref l1,.int 0 0] }).push { cls:=.type "list_iterator",data:=.fields #[.ref l2,.int 0 0] },g,d,tk,os⟩) l3 xs3:=Heap.IsList.push (Heap.IsList.push hl3 _) _;have hL4:Heap.IsList (Shared.heap ⟨((hp.push { cls:=.type "list_iterator",data:=.fields #[.ref l1,.int 0 0] }).push { cls:=.type "list_iterator",data:=.fields #[.ref l2,.int 0 0] }).push { cls:=.type "list_iterator",data:=.fields #[.ref l3,.int 0 0] },g,d,tk,os⟩) l4 xs4:=Heap.IsList.push (Heap.IsList.push (Heap.IsList.push hl4 _) _) _
  wp_walk using wpAny_pyIter_list hL1,wpAny_pyIter_list hL2,wpAny_pyIter_list hL3,wpAny_pyIter_list hL4
  exact ⟨_,rfl,h⟩
section
variable {prog:Program}{w:World}{A:Around}{E:Value->Shared->Prop}{s:Shared}
theorem wz {l1 l2 l3 l4:Nat}{xs1 xs2 xs3 xs4:Array Value}{Q:Value->Shared->Prop} (hl1:s.heap.IsList l1 xs1) (hl2:s.heap.IsList l2 xs2) (hl3:s.heap.IsList l3 xs3) (hl4:s.heap.IsList l4 xs4)
  (h:∀ h',rQ h' s.heap.objs.size l1 l2 l3 l4 xs1 xs2 xs3 xs4 0 .none->(∀ (c:Nat) o,s.heap.get? c=some o->h'.get? c=some o)->Q (.ref (s.heap.objs.size + 6)) { s with heap:=h' }) :
  wpAny (model prog w) A (call (.type "zip") [.ref l1,.ref l2,.ref l3,.ref l4]) Q E s:=by
 refine callType_new F.called_zip dC (F.typeCall_zip_4 _ _ _ _) (F.newCall_zip_4 _ _ _ _) (fun obj=>F.args_object_init_5 obj _ _ _ _) F.entry_zip_new
  (oh l1 l2 l3 l4 xs1 xs2 xs3 xs4) ⟨hl1,hl2,hl3,hl4,?_⟩
 have z1:(s.heap.push (cR l1)).objs.size=s.heap.objs.size + 1:=Heap.size_push ..;have z2:((s.heap.push (cR l1)).push (cR l2)).objs.size=s.heap.objs.size + 2:=by rw [Heap.size_push,z1]
 have z3:(((s.heap.push (cR l1)).push (cR l2)).push (cR l3)).objs.size=s.heap.objs.size + 3:=by rw [Heap.size_push,z2]
 have z4:(pN s.heap l1 l2 l3 l4).objs.size=s.heap.objs.size + 4:=by rw [Heap.size_push,z3]
 have z5:(pM s.heap l1 l2 l3 l4).objs.size=s.heap.objs.size + 5:=by rw [Heap.size_push,z4]
 have z6:(pL s.heap l1 l2 l3 l4).objs.size=s.heap.objs.size + 6:=by rw [Heap.size_push,z5]
 have p7:∀ {c o},(pL s.heap l1 l2 l3 l4).get? c=some o->(eW s.heap l1 l2 l3 l4).get? c=some o:=fun e=>zG _ e
 have p6:∀ {c o},(pM s.heap l1 l2 l3 l4).get? c=some o->(eW s.heap l1 l2 l3 l4).get? c=some o:=fun e=>p7 (zG _ e)
 have p5:∀ {c o},(pN s.heap l1 l2 l3 l4).get? c=some o->(eW s.heap l1 l2 l3 l4).get? c=some o:=fun e=>p6 (zG _ e)
 have p4:∀ {c o},(((s.heap.push (cR l1)).push (cR l2)).push (cR l3)).get? c=some o->(eW s.heap l1 l2 l3 l4).get? c=some o:=fun e=>p5 (zG _ e)
 have p3:∀ {c o},((s.heap.push (cR l1)).push (cR l2)).get? c=some o->(eW s.heap l1 l2 l3 l4).get? c=some o:=fun e=>p4 (zG _ e)
 have p2:∀ {c o},(s.heap.push (cR l1)).get? c=some o->(eW s.heap l1 l2 l3 l4).get? c=some o:=fun e=>p3 (zG _ e)
 have p1:∀ {c o},s.heap.get? c=some o->(eW s.heap l1 l2 l3 l4).get? c=some o:=fun e=>p2 (zG _ e)
 have g7:(eW s.heap l1 l2 l3 l4).get? (pL s.heap l1 l2 l3 l4).objs.size=some _:=zY _ rfl;have g6:(eW s.heap l1 l2 l3 l4).get? (pM s.heap l1 l2 l3 l4).objs.size=some _:=p7 (zY _ rfl);have g5:(eW s.heap l1 l2 l3 l4).get? (pN s.heap l1 l2 l3 l4).objs.size=some _:=p6 (zY _ rfl);have g4:(eW s.heap l1 l2 l3 l4).get? (((s.heap.push (cR l1)).push (cR l2)).push (cR l3)).objs.size=some (cR l4):=p5 (zY _ rfl);have g3:(eW s.heap l1 l2 l3 l4).get? ((s.heap.push (cR l1)).push (cR l2)).objs.size=some (cR l3):=p4 (zY _ rfl);have g2:(eW s.heap l1 l2 l3 l4).get? (s.heap.push (cR l1)).objs.size=some (cR l2):=p3 (zY _ rfl);have g1:(eW s.heap l1 l2 l3 l4).get? s.heap.objs.size=some (cR l1):=p2 (zY _ rfl);show _/\_;rw [z4,z5,z6] at g7;rw [z5] at g6;rw [z1,z2,z3,z4] at g5;rw [z3] at g4;rw [z2] at g3;rw [z1] at g2;rw [z6];exact ⟨⟨_,g7,rfl⟩,h _ ⟨g7,g5,⟨_,_,_,_,g6⟩,⟨_,g1,rfl,rfl⟩,⟨_,g2,rfl,rfl⟩,⟨_,g3,rfl,rfl⟩,⟨_,g4,rfl,rfl⟩,hl1.at fun o e=>p1 e,hl2.at fun o e=>p1 e,hl3.at fun o e=>p1 e,hl4.at fun o e=>p1 e⟩ fun c o e=>p1 e⟩
end
end PySem
namespace L2
open PySem PySem.Spec PyProof.Rows
def FG (K:Frag) (a b c d:Addr):It :=
 ⟨fun i H=>∃ as bs cs ds x y z w,(aP K H a as/\aP K H b bs/\aP K H c cs/\aP K H d ds)/\as[i]?=some x/\bs[i]?=some y/\cs[i]?=some z/\ds[i]?=some w,
  fun i H v H'=>∃ p x y z w,(∀ xs,aP K H a xs->xs[i]?=some x)/\(∀ xs,aP K H b xs->xs[i]?=some y)/\(∀ xs,aP K H c xs->xs[i]?=some z)/\(∀ xs,aP K H d xs->xs[i]?=some w)/\H p=none/\H'=af H p (.tup [x,y,z,w])/\v=.ref p,
  fun i H=>∃ as bs cs ds,(aP K H a as/\aP K H b bs/\aP K H c cs/\aP K H d ds)/\as.length <= i⟩
theorem Inv.turnQ {X:Cx}{Lu:List (Addr × Obj)}{σ:St}{H:Hp}{s:Shared}{h':Heap}{ch:List Addr}{v1 v2 v3 v4:V}{x1 x2 x3 x4:Value} (I:Inv X Lu σ H s) (hf:∀ b ∈ ch,dl X Lu H b) (r1:RelV v1 x1) (r2:RelV v2 x2) (r3:RelV v3 x3) (r4:RelV v4 x4)
  (hk:∀ c o,c ∉ ch->s.heap.get? c=some o->h'.get? c=some o) (hT:gJ h' s.heap.objs.size x1 x2 x3 x4) (hth:∀ b ∈ ch,∃ o,h'.get? b=some o):Inv X Lu σ (af H s.heap.objs.size (.tup [v1,v2,v3,v4])) { s with heap:=h' }:=by
 have hfr:H s.heap.objs.size=none:=I.fresh;have nch:∀ b o,H b=some o->b ∉ ch:=fun b o e hb=>by rw [(hf b hb).1] at e;cases e
 have ne:∀ b o,s.heap.get? b=some o->b ≠ s.heap.objs.size:=fun b o e=>zU (yJ e)
 refine I.step (g':=s.gens) (d':=s.drawn) (t':=s.toks) (ch:=ch) (fun b hb=>⟨(hf b hb).2.2.2.1,(hf b hb).2.1,(hf b hb).2.2.2.2.1,(hf b hb).2.2.2.2.2⟩) (fun b o _ _ hc e _=>hk b o hc e)
  (fun b o _ _ hc e _=>⟨o.slots,hk b o hc e⟩) (fun b o _ e n=>by rw [ad (ne b o e)];exact n) (fun b o hc e=>⟨o,hk b o hc e⟩) (fun b xs e=>by rw [ad (aH e hfr)];exact e)
  (fun b o v e=>by rw [ad (aH e hfr)];exact e) (fun b ps e=>⟨#[],by rw [ad (aH e hfr),e];simp⟩) (fun m hm=>?_) (fun b o e=>?_) I.bare
 ·obtain ⟨o,es,ep,ho,r⟩:=hm
  exact ⟨o,es,ep,hk _ o (fun z=>(hf _ z).2.1 rfl) ho,r⟩
 ·by_cases hb:b=s.heap.objs.size
  ·subst hb
   rw [aq] at e;cases e;refine ⟨by show 4 <= sizeLine;decide,[x1,x2,x3,x4],.cons r1 (.cons r2 (.cons r3 (.cons r4 .nil))),⟨_,hT,rfl,_,rfl⟩⟩
  ·rw [ad hb] at e
   refine (I.LA b o e).stay (fun c v hc q=>hk c v ?_ q) (fun c q=>by rw [ad (aH q hfr)];exact q) fun c xs q=>by rw [ad (aH q hfr)];exact q
   rcases hc with rfl | hc
   ·exact nch _ _ e
   ·exact nch _ _ hc
def St4 (n a b c d:Nat) (i:Nat) (h:Heap):Prop:=IsZip h (n + 6) (n + 4) (n + 5) .none/\gJ h (n + 4) (.ref n) (.ref (n + 1)) (.ref (n + 2)) (.ref (n + 3))/\(∃ u v x y,gJ h (n + 5) u v x y)/\h.IsListIter n a i/\h.IsListIter (n + 1) b i/\h.IsListIter (n + 2) c i/\h.IsListIter (n + 3) d i
noncomputable def eO (n:Nat):List Addr:=[n + 6,n + 4,n + 5,n,n + 1,n + 2,n + 3]
theorem qP {n:Nat}{c:Addr} (h:c ∈ eO n):c=n + 6\/c=n + 4\/c=n + 5\/c=n\/c=n + 1\/c=n + 2\/c=n + 3:=by
 unfold eO at h;simpa only [zT,zX,or_false] using h
theorem sX {n c:Nat} (h:c ∉ eO n):c < n\/n + 7 <= c:=by
 unfold eO at h;simp only [zT,zX,or_false,not_or] at h;obtain ⟨h1,h2,h3,h4,h5,h6,h7⟩:=h;have h1:¬ (@Eq Nat c (n + 6)):=h1;have h2:¬ (@Eq Nat c (n + 4)):=h2;have h3:¬ (@Eq Nat c (n + 5)):=h3;have h4:¬ (@Eq Nat c n):=h4;have h5:¬ (@Eq Nat c (n + 1)):=h5;have h6:¬ (@Eq Nat c (n + 2)):=h6;have h7:¬ (@Eq Nat c (n + 3)):=h7;omega
theorem St4.obj {n a b c d i:Nat}{h:Heap} (st:St4 n a b c d i h):∀ x ∈ eO n,∃ o,h.get? x=some o/\∀ v,o.data ≠ .cell v:=by
 obtain ⟨hz,hTI,⟨u,v,x,y,hTO⟩,⟨o1,e1,c1,d1⟩,⟨o2,e2,c2,d2⟩,⟨o3,e3,c3,d3⟩,⟨o4,e4,c4,d4⟩⟩:=st;intro x hx;rcases qP hx with rfl | rfl | rfl | rfl | rfl | rfl | rfl
 ·exact ⟨_,hz,fun v z=>nomatch z⟩
 ·exact ⟨_,hTI,fun v z=>nomatch z⟩
 ·exact ⟨_,hTO,fun v z=>nomatch z⟩
 ·exact ⟨_,e1,fun v z=>by rw [d1] at z;cases z⟩
 ·exact ⟨_,e2,fun v z=>by rw [d2] at z;cases z⟩
 ·exact ⟨_,e3,fun v z=>by rw [d3] at z;cases z⟩
 ·exact ⟨_,e4,fun v z=>by rw [d4] at z;cases z⟩
theorem St4.keep {n a b c d i:Nat}{h h':Heap} (st:St4 n a b c d i h) (k:∀ x ∈ eO n,∀ o,h.get? x=some o->h'.get? x=some o):St4 n a b c d i h':=by
 obtain ⟨hz,hTI,⟨u,v,x,y,hTO⟩,h1,h2,h3,h4⟩:=st;exact ⟨k _ (by simp [eO]) _ hz,k _ (by simp [eO]) _ hTI,⟨u,v,x,y,k _ (by simp [eO]) _ hTO⟩,h1.at fun o e=>k _ (by simp [eO]) o e,h2.at fun o e=>k _ (by simp [eO]) o e,h3.at fun o e=>k _ (by simp [eO]) o e,h4.at fun o e=>k _ (by simp [eO]) o e⟩
theorem u0 {P:Program}{w:World}{K:Frag}{elts:List Expr}{x1:Nat}{tpos:Pos} (n a b c d:Nat) (b1:a < n) (b2:b < n) (b3:c < n) (b4:d < n) :
  jk P w K (.Tuple elts x1 tpos) (FG K a b c d) (eO n) (n + 6) (St4 n a b c d) where
 mem:=by simp [eO]
 obj:=fun i h st c hc=>st.obj c hc
 keep:=fun i h h' st k=>st.keep k
 item:=by
  intro X hP hw hK hc i Lu s σ H E I hf st hgo;obtain ⟨hz,hTI,⟨ua,ub,uc,ud,hTO⟩,h1,h2,h3,h4⟩:=id st;obtain ⟨as,bs,cs,ds,x,y,z,v,⟨hq1,hq2,hq3,hq4⟩,hx,hy,hz',hv⟩:=hgo;subst hP hw hK;obtain ⟨its1,rv1,p1,_⟩:=I.list hq1;obtain ⟨its2,rv2,p2,_⟩:=I.list hq2;obtain ⟨its3,rv3,p3,_⟩:=I.list hq3;obtain ⟨its4,rv4,p4,_⟩:=I.list hq4;obtain ⟨u1,hu1,ru1⟩:=rv1.get hx;obtain ⟨u2,hu2,ru2⟩:=rv2.get hy;obtain ⟨u3,hu3,ru3⟩:=rv3.get hz';obtain ⟨u4,hu4,ru4⟩:=rv4.get hv;refine vR b1 b2 b3 b4 ⟨hz,hTI,⟨_,_,_,_,hTO⟩,h1,h2,h3,h4,p1.isList,p2.isList,p3.isList,p4.isList⟩ (x1:=u1) (x2:=u2) (x3:=u3) (x4:=u4) (by simpa using hu1) (by simpa using hu2) (by simpa using hu3) (by simpa using hu4) fun h' a1 a5 a6 hk=>?_
  have hk':∀ c o,c ∉ eO n->s.heap.get? c=some o->h'.get? c=some o:=fun c o hc e=>hk c o (sX hc) e
  have hth:∀ c ∈ eO n,∃ o,h'.get? c=some o:=fun c hc=>by
   obtain ⟨o1,e1,_⟩:=a1.i1;obtain ⟨o2,e2,_⟩:=a1.i2;obtain ⟨o3,e3,_⟩:=a1.i3;obtain ⟨o4,e4,_⟩:=a1.i4;obtain ⟨_,_,_,_,e5⟩:=a1.to;rcases qP hc with rfl | rfl | rfl | rfl | rfl | rfl | rfl
   ·exact ⟨_,a1.z⟩
   ·exact ⟨_,a1.ti⟩
   ·exact ⟨_,e5⟩
   ·exact ⟨_,e1⟩
   ·exact ⟨_,e2⟩
   ·exact ⟨_,e3⟩
   ·exact ⟨_,e4⟩
  have I1:Inv X Lu σ (af H s.heap.objs.size (.tup [x,y,z,v])) { s with heap:=h' }:=I.turnQ hf ru1 ru2 ru3 ru4 hk' a5 hth;have hfr:H s.heap.objs.size=none:=I.fresh;refine ⟨_,rfl,wpAny_letOwnedTupleGo_zip (s:={ s with heap:=h' }) a1.z fun h'' z1 sb=>?_⟩;have hf5:∀ c ∈ eO n,(af H s.heap.objs.size (.tup [x,y,z,v])) c=none:=fun c hc=>by
   obtain ⟨o,e,_⟩:=st.obj c hc;rw [ad (zU (yJ e))];exact (hf c hc).1
  have I2:Inv X Lu σ (af H s.heap.objs.size (.tup [x,y,z,v])) { s with heap:=h'' }:=Inv.turnN (s:={ s with heap:=h' }) (ch:=[n + 6]) I1 (fun c hc=>by
   have:c=n + 6:=by simpa using hc
   subst this;exact ⟨hf5 _ (by simp [eO]),(hf _ (by simp [eO])).2⟩) (fun c o hc e=>(sb.2 c (fun q=>hc (by simp [q]))).trans e)
  refine ⟨.ref s.heap.objs.size,_,I2,rfl,⟨_,x,y,z,v,fun zs hzs=>by rw [I.list_inj hzs hq1];exact hx,fun zs hzs=>by rw [I.list_inj hzs hq2];exact hy,fun zs hzs=>by rw [I.list_inj hzs hq3];exact hz',fun zs hzs=>by rw [I.list_inj hzs hq4];exact hv,hfr,rfl,rfl⟩,?_,hf5⟩;obtain ⟨_,_,_,_,e5⟩:=a1.to;refine ⟨z1,(sb.2 _ oM).trans a1.ti,⟨_,_,_,_,(sb.2 _ oM).trans e5⟩,?_,?_,?_,?_⟩
  ·exact a1.i1.at fun o e=>(sb.2 _ oM).trans e
  ·exact a1.i2.at fun o e=>(sb.2 _ oM).trans e
  ·exact a1.i3.at fun o e=>(sb.2 _ oM).trans e
  ·exact a1.i4.at fun o e=>(sb.2 _ oM).trans e
 done:=by
  intro X hP hw hK hc i Lu s σ H E I hf st hend;obtain ⟨hz,hTI,⟨ua,ub,uc,ud,hTO⟩,h1,h2,h3,h4⟩:=st;obtain ⟨as,bs,cs,ds,⟨hq1,hq2,hq3,hq4⟩,hend⟩:=hend;subst hP hw hK;obtain ⟨its1,rv1,p1,_⟩:=I.list hq1;obtain ⟨its2,rv2,p2,_⟩:=I.list hq2;obtain ⟨its3,rv3,p3,_⟩:=I.list hq3;obtain ⟨its4,rv4,p4,_⟩:=I.list hq4;have hl1:=rv1.length;refine vh (I.ok.hd hc) b1 ⟨hz,hTI,⟨_,_,_,_,hTO⟩,h1,h2,h3,h4,p1.isList,p2.isList,p3.isList,p4.isList⟩ (by simp;omega) fun h' hk=>⟨rfl,?_⟩
  exact I.turnN hf fun c o hc e=>hk c o (sX hc) e
 self:=fun _ _ _ _ _ st h=>wpAny_pyIter_zip st.1 h
def GT (K:Frag) (ta:TA):TI:=fun σ H R=>ta σ H fun vs H1=>∃ a b c d,vs=[.ref a,.ref b,.ref c,.ref d]/\((∃ xs,aP K H1 a xs)/\(∃ xs,aP K H1 b xs)/\(∃ xs,aP K H1 c xs)/\(∃ xs,aP K H1 d xs))/\R (FG K a b c d) H1
theorem Bv {X:Cx}{elts:List Expr}{x1:Nat}{tpos:Pos}{a b c d:Expr}{ta:TA}{p pos:Pos} (hg:Gl X "zip") (hm:X.mg "zip"=none) (ha:PA X [a,b,c,d] ta) (hs:starEach [a,b,c,d] X.env=[(false,eval a X.env),(false,eval b X.env),(false,eval c X.env),(false,eval d X.env)]:=by rfl) (hs2:starEach [b,c,d] X.env=[(false,eval b X.env),(false,eval c X.env),(false,eval d X.env)]:=by rfl) :
  PI X (.Tuple elts x1 tpos) (.Call (.Name "zip" p) [a,b,c,d] [] pos) (GT X.K ta):=by
 intro Lu s σ H R I h;refine Call_ (cV I hg hm boot_zip (PyProof.Rows.callWith_type1 (aA (ha pos Lu s σ H _ I h) fun us s1 hq0=>?_) (by rw [hs,hs2]) (by rw [hs2];rfl)));obtain ⟨vs,H1,I1,r1,l1,l2,l3,l4,e,⟨⟨xs,hq1⟩,⟨ys,hq2⟩,⟨zs,hq3⟩,⟨ws,hq4⟩⟩,q⟩:=hq0;subst e;cases r1 with
 | cons r rr=>cases rr with
  | cons r' rr=>cases rr with
   | cons r'' rr=>cases rr with
    | cons r3 rr =>
     cases rr;cases r;cases r';cases r'';cases r3;obtain ⟨its1,rv1,p1,_⟩:=I1.list hq1;obtain ⟨its2,rv2,p2,_⟩:=I1.list hq2;obtain ⟨its3,rv3,p3,_⟩:=I1.list hq3;obtain ⟨its4,rv4,p4,_⟩:=I1.list hq4;have lt:∀ {l:Addr}{x:Array Value},s1.heap.IsList l x->l < s1.heap.objs.size:=fun h=>by obtain ⟨_,e,_⟩:=h;exact yJ e
     refine wz p1.isList p2.isList p3.isList p4.isList fun h' a4 hk=>?_
     have I2:Inv X Lu σ H1 { s1 with heap:=h' }:=I1.kept (t':=s1.toks) hk;refine wpAny_pyIter_zip (s:={ s1 with heap:=h' }) a4.z ?_;refine ⟨_,eO s1.heap.objs.size,_,_,H1,rfl,I2,u0 s1.heap.objs.size l1 l2 l3 l4 (lt p1.isList) (lt p2.isList) (lt p3.isList) (lt p4.isList),⟨a4.z,a4.ti,a4.to,a4.i1,a4.i2,a4.i3,a4.i4⟩,fun c hc=>?_,q⟩;have hle:s1.heap.objs.size <= c:=by
      rcases qP hc with rfl | rfl | rfl | rfl | rfl | rfl | rfl
      ·exact Nat.le_add_right _ _
      ·exact Nat.le_add_right _ _
      ·exact Nat.le_add_right _ _
      ·exact zP _
      ·exact Nat.le_add_right _ _
      ·exact Nat.le_add_right _ _
      ·exact Nat.le_add_right _ _
     obtain ⟨f0,f1,f2,f3,f4,f5⟩:=I1.fpOk hle (I1.LA.fresh hle);exact ⟨f0,f1,f2,f3,f4,f5⟩
end L2
namespace PySem.AutoSeq1
theorem uE (l:Addr) (items:Array Value) (n:Nat) (b:Addr) (items2:Array Value) (n2:Nat) (sl:Array (Option Value)) (hc0:¬(!items.isEmpty && Builtin.List.listTooLong (items.size + items2.size))=true) (hc1:items.size <= sizeLine) (hs2:items.size + items2.size <= sizeLine + 1) :
  Meets (Builtin.«list.extend» ⟨[.ref l,.ref b],[]⟩) (fun _ R s=>s.heap.get? l=some { cls:=.type "list",dict:=none,data:=.seq items n,slots:=#[] }/\s.heap.get? b=some { cls:=.type "list",dict:=none,data:=.seq items2 n2,slots:=sl }/\R (.ok (.ret Value.none)) { s with heap:=s.heap.update l (Obj.mapSeq fun x=>x++items2),toks:=s.toks }) :=
 .of_wp fun prog w A R s h=>by
  obtain ⟨hp,g,d,tk,os⟩:=s;obtain ⟨hl,hb,h⟩:=h;have f1:=idx_int;have f2:=sub_tuple_tuple;have f3:=sub_list_list;have f4:=sub_tuple_list;have f5:=sub_list_tuple;have hz':(items++items2).size <= sizeLine + 1:=by rw [Array.size_append];exact hs2
  wp_walk using (wpAny_updateSeq hl rfl (hz:=hc1) (_hz':=hz')),wpAny_loadPart' hl,wpAny_loadPart' hb;exact ⟨_,rfl,h⟩
end PySem.AutoSeq1
namespace L2
open PySem PySem.Spec PyProof.Rows
section
variable {X:Cx}
def F6 (K:Frag):V->List V->Hp->VK->Prop:=fun x vs H Q=>∃ l b xs zs,x=.ref l/\vs=[.ref b]/\H l=some (.lst xs)/\aP K H b zs/\xs.length + zs.length <= sizeLine/\Q .non (af H l (.lst (xs++zs)))
theorem BX:FC X "list.extend" (F6 X.K):=by
 intro Lu s σ H x vs v us Q I rx rv h;obtain ⟨l,b,xs,zs,rfl,rfl,hH,hB,hz,q⟩:=h;cases rx;obtain ⟨u,rfl,ru⟩:=rv.one;cases ru;obtain ⟨z,Lx,n,r,hl,e⟩:=I.lstM hH;obtain ⟨its2,r2,pl,hz2⟩:=I.list hB;obtain ⟨o,n2,e2,c2,d2,s2⟩:=pl;obtain ⟨oc,od,odt,osl⟩:=o;dsimp only at c2 d2 s2;subst c2;subst d2;subst s2;have hl2:=r2.length;have hsz:Lx.toArray.size + its2.toArray.size <= sizeLine:=by rw [zI,zI];omega
 have hlong:¬ (!Lx.toArray.isEmpty && Builtin.List.listTooLong (Lx.toArray.size + its2.toArray.size))=true:=by
  rw [notLongL hsz,Bool.and_false];exact Bool.false_ne_true
 refine call_meets F.slot_list_extend ⟨_,e,rfl⟩ F.entry_list_extend (F.args_list_extend_2 _ _)
  (PySem.AutoSeq1.uE l Lx.toArray n b its2.toArray n2 osl hlong (by rw [zI];omega) oM) ⟨e,e2,?_⟩
 refine ⟨.non,_,I.lset (its':=Lx++its2) hH e (by simp) (r.append r2) ?_,rfl,q⟩;rw [zV];omega
end
end L2
namespace PySem.AutoSeq1
theorem Cq (l:Addr) (items:Array Value) (n:Nat) (sl1:Array (Option Value)) (b:Addr) (items2:Array Value) (n2:Nat) (sl:Array (Option Value)) (hs2:items.size + items2.size <= sizeLine) :
  Meets (Builtin.«list.__add__» ⟨[.ref l,.ref b],[]⟩) (fun _ R s=>s.heap.get? l=some { cls:=.type "list",dict:=none,data:=.seq items n,slots:=sl1 }/\s.heap.get? b=some { cls:=.type "list",dict:=none,data:=.seq items2 n2,slots:=sl }/\R (.ok (.ret (Value.ref s.heap.objs.size))) { s with heap:=s.heap.push { cls:=.type "list",data:=.seq (items++items2) },toks:=s.toks }) :=
 .of_wp fun prog w A R s h=>by
  obtain ⟨hp,g,d,tk,os⟩:=s;obtain ⟨hl,hb,h⟩:=h;have f1:=idx_int;have f2:=sub_tuple_tuple;have f3:=sub_list_list;have f4:=sub_tuple_list;have f5:=sub_list_tuple;have hz':(items++items2).size <= sizeLine + 1:=by rw [Array.size_append];omega
  have hlong:Builtin.List.listTooLong (items.size + items2.size)=false:=L2.notLongL hs2
  wp_walk using wpAny_loadPart' hl,wpAny_loadPart' hb
  all_goals first | exact ⟨_,rfl,h⟩ | skip
end PySem.AutoSeq1
namespace L2
open PySem PySem.Spec PyProof.Rows
section
variable {X:Cx}
def F7 (K:Frag):R2:=fun x y H Q=>∃ l b xs zs,x=.ref l/\y=.ref b/\aP K H l xs/\aP K H b zs/\xs.length + zs.length <= sizeLine/\∀ p,H p=none->Q (.ref p) (af H p (.lst (xs++zs)))
theorem BJ:lq X (binaryOp .Add) (F7 X.K):=by
 intro Lu s σ H x y v u Q I rx ry h;obtain ⟨l,b,xs,zs,rfl,rfl,hH,hB,hz,q⟩:=h;cases rx;cases ry;obtain ⟨Lx,r,⟨o1,n1,e1,c1,d1,s1⟩,_⟩:=I.list hH;obtain ⟨its2,r2,⟨o2,n2,e2,c2,d2,s2⟩,_⟩:=I.list hB;obtain ⟨oc,od,odt,osl⟩:=o1;obtain ⟨pc,pd,pdt,psl⟩:=o2;dsimp only at c1 d1 s1 c2 d2 s2;subst c1;subst d1;subst s1;subst c2;subst d2;subst s2;have hl1:=r.length;have hl2:=r2.length;have hsz:Lx.toArray.size + its2.toArray.size <= sizeLine:=by rw [zI,zI];omega
 refine wpAny_binaryOp_concat (T:="list") (id:="list.__add__") ⟨_,e1,rfl⟩ ⟨_,e2,rfl⟩ noFill_list_add (by rfl) ?_;refine call_meets F.slot_list_add ⟨_,e1,rfl⟩ F.entry_list_add (F.args_list_add_2 _ _) (PySem.AutoSeq1.Cq l Lx.toArray n1 osl b its2.toArray n2 psl hsz) ⟨e1,e2,?_⟩;have ea:Lx.toArray++its2.toArray=(Lx++its2).toArray:=by simp
 rw [ea];exact ⟨.ref _,_,I.lnew (t':=s.toks) (r.append r2) (by rw [zV];omega),rfl,q _ I.fresh⟩
end
section
variable {κ:Type} [DecidableEq κ]
noncomputable def eF (Lv:List (κ × V)) (k:κ):Option V:=(Lv.find? fun kv=>decide (kv.1=k)).map (·.2)
noncomputable def eI (Lv:List (κ × V)) (k:κ) (v:V):List (κ × V) :=
 if (Lv.any fun kv=>decide (kv.1=k))=true then Lv.map (fun kv=>if kv.1=k then (kv.1,v) else kv) else Lv++[(k,v)]
theorem mm {p:κ × V}{r:List (κ × V)}{k:κ} (e:p.1=k):eF (p::r) k=some p.2:=by simp [eF,List.find?_cons,e]
theorem mn {p:κ × V}{r:List (κ × V)}{k:κ} (e:¬ p.1=k):eF (p::r) k=eF r k:=by simp [eF,List.find?_cons,e]
theorem pP (k:κ):∀ Lv:List (κ × V),(Lv.any fun kv=>decide (kv.1=k))=(eF Lv k).isSome
 | []=>rfl
 | p::r=>by
  rw [List.any_cons];by_cases e:p.1=k
  ·simp only [mm e,yT e,Bool.true_or,Option.isSome_some]
  ·rw [mn e,yA e,Bool.false_or];exact pP k r
theorem lO (Lv:List (κ × V)) (k:κ) (v:V):(eI Lv k v).length <= Lv.length + 1:=by
 unfold eI;split
 ·rw [zH];omega
 ·rw [zV,yV,List.length_nil];omega
theorem RelO.isSome_eq {o:Option V}{u:Option Value} (r:RelO o u):o.isSome=u.isSome:=by
 cases o with
 | none=>cases u with
  | none=>rfl
  | some _=>exact (show False from r).elim
 | some _=>cases u with
  | none=>exact (show False from r).elim
  | some _=>rfl
theorem KV.val {Lv:List (κ × V)}{vs:List (κ × Value)} (r:KV Lv vs) (k:κ):RelO (eF Lv k) (valueAt vs k):=by
 unfold KV at r
 induction r with
 | nil=>exact True.intro
 | @cons p q ps qs h t ih =>
  obtain ⟨h1,h2⟩:=h;by_cases e:p.1=k
  ·have e':q.1=k:=h1.symm.trans e
   have b:valueAt (q::qs) k=some q.2:=by simp [valueAt,List.find?_cons,e']
   rw [mm e,b];exact h2
  ·have e':¬ q.1=k:=fun z=>e (h1.trans z)
   have b:valueAt (q::qs) k=valueAt qs k:=by simp [valueAt,List.find?_cons,e']
   rw [mn e,b];exact ih
theorem KV.any {Lv:List (κ × V)}{vs:List (κ × Value)} (r:KV Lv vs) (k:κ):(Lv.any fun kv=>decide (kv.1=k))=vs.any fun kv=>decide (kv.1=k):=by
 unfold KV at r
 induction r with
 | nil=>rfl
 | cons h t ih=>rw [List.any_cons,List.any_cons,ih,h.1]
theorem KV.repl {Lv:List (κ × V)}{vs:List (κ × Value)} (r:KV Lv vs) (k:κ) {y:V}{u:Value} (ry:RelV y u) :
  KV (Lv.map fun kv=>if kv.1=k then (kv.1,y) else kv) (vs.map fun kv=>if kv.1=k then (kv.1,u) else kv):=by
 unfold KV at r ⊢
 induction r with
 | nil=>exact .nil
 | @cons p q ps qs h t ih =>
  rw [zO,zO];refine .cons ?_ ih;obtain ⟨h1,h2⟩:=h;by_cases e:p.1=k
  ·rw [yI e,yI (h1.symm.trans e)];exact ⟨h1,ry⟩
  ·rw [yH e,yH (fun z=>e (h1.trans z))];exact ⟨h1,h2⟩
theorem KV.put {Lv:List (κ × V)}{vs:List (κ × Value)} (r:KV Lv vs) (k:κ) {y:V}{u:Value} (ry:RelV y u):KV (eI Lv k y) (stored vs k u):=by
 unfold eI stored;rw [r.any k];by_cases e:(vs.any fun kv=>decide (kv.1=k))=true
 ·rw [yI e,yI e];exact r.repl k ry
 ·rw [yH e,yH e];exact Paired.snoc r ⟨rfl,ry⟩
theorem KV.length {Lv:List (κ × V)}{vs:List (κ × Value)} (r:KV Lv vs):Lv.length=vs.length:=Paired.length r
end
theorem m6 {P:Program}{w:World}{k:aR}{u:Value} (r:RelV (kV k) u):(bQ P w).is k u=true:=by
 cases k with
 | inl i=>obtain ⟨t,e⟩:=(show ∃ t,u=Value.int i t from r);subst e;exact rV P w i t
 | inr x=>obtain ⟨t,e⟩:=(show ∃ t,u=Value.str x t from r);subst e;exact rR P w x t
theorem oS {P:Program}{w:World}:∀ {ks:List aR}{us:List Value},Vals (ks.map kV) us->ItemsAre (bQ P w) ks us
 | [],_,r=>by rw [List.map_nil] at r;cases r;exact .nil
 | k::ks,_,r=>by
  rw [zO] at r;cases r with
  | cons h t=>exact .cons (m6 h) (oS t)
abbrev KT (H:Hp):List (List aR × V)->List (List aR × Addr × Value)->Prop:=Paired fun p q=>p.1=q.1/\H q.2.1=some (.tup (p.1.map kV))/\RelV p.2 q.2.2
theorem KT.val {H:Hp}{Lv:List (List aR × V)}{xs:List (List aR × Addr × Value)} (r:KT H Lv xs) (k:List aR):RelO (eF Lv k) ((atKey xs k).map (·.2)):=by
 induction r with
 | nil=>exact True.intro
 | @cons p q ps qs h t ih =>
  obtain ⟨h1,_,h2⟩:=h;by_cases e:p.1=k
  ·have e':q.1=k:=h1.symm.trans e
   have b:atKey (q::qs) k=some q.2:=by simp [atKey,List.find?_cons,e']
   rw [mm e,b];exact h2
  ·have e':¬ q.1=k:=fun z=>e (h1.trans z)
   have b:atKey (q::qs) k=atKey qs k:=by simp [atKey,List.find?_cons,e']
   rw [mn e,b];exact ih
theorem KT.repl {H:Hp}{Lv:List (List aR × V)}{xs:List (List aR × Addr × Value)} (r:KT H Lv xs) (k:List aR) {y:V}{u:Value} (ry:RelV y u) :
  KT H (Lv.map fun kv=>if kv.1=k then (kv.1,y) else kv) (xs.map (putAt k u)):=by
 induction r with
 | nil=>exact .nil
 | @cons p q ps qs h t ih =>
  rw [zO,zO];refine .cons ?_ ih;obtain ⟨h1,h2,h3⟩:=h;unfold putAt;by_cases e:p.1=k
  ·rw [yI e,yI (h1.symm.trans e)];exact ⟨h1,h2,ry⟩
  ·rw [yH e,yH (fun z=>e (h1.trans z))];exact ⟨h1,h2,h3⟩
theorem KT.put {H:Hp}{Lv:List (List aR × V)}{xs:List (List aR × Addr × Value)} (r:KT H Lv xs) (k:List aR) {b:Addr}{y:V}{u:Value} (hb:H b=some (.tup (k.map kV))) (ry:RelV y u) :
  KT H (eI Lv k y) (storedH xs k b u):=by
 have e:(Lv.any fun kv=>decide (kv.1=k))=(atKey xs k).isSome:=by
  rw [pP,(r.val k).isSome_eq,Option.isSome_map]
 unfold eI storedH;rw [e];by_cases q:(atKey xs k).isSome=true
 ·rw [yI q,yI q];exact r.repl k ry
 ·rw [yH q,yH q];exact Paired.snoc r ⟨rfl,hb,ry⟩
theorem KT.keeps {H H':Hp}{Lv:List (List aR × V)}{xs:List (List aR × Addr × Value)} (r:KT H Lv xs) (ht:∀ b ys,H b=some (.tup ys)->H' b=some (.tup ys)):KT H' Lv xs :=
 Paired.mapP r fun _ _ z=>⟨z.1,ht _ _ z.2.1,z.2.2⟩
section
variable {P:Program}{w:World}{H:Hp}{h:Heap}{a:Addr}
theorem zt {u:HO} (ok:HOk P w H h) (e:Rd H a u):ObjOk P w H h a u:=e.ok ok
theorem nJ {Lv:List (aR × V)} (ok:HOk P w H h) (e:Rd H a (.dK Lv)):Lv.length <= sizeLine/\(a == sysModules)=false/\∃ vs,KV Lv vs/\h.DictOf (bQ P w) a vs :=
 show ObjOk P w H h a (.dK Lv) from zt ok e
theorem Aq {Lv:List (aR × V)} (ok:HOk P w H h) (e:H a=some (.dK Lv)):Lv.length <= sizeLine/\(a == sysModules)=false/\∃ vs,KV Lv vs/\h.DictOf (bQ P w) a vs:=nJ ok (.inl e)
theorem kM {ks:List aR} (ok:HOk P w H h) (e:H a=some (.tup (ks.map kV))):(tupleKind (bQ P w)).is h ks a:=by
 obtain ⟨_,Lx,r,o,h1,h2,n,h3⟩:=(show ObjOk P w H h a (.tup (ks.map kV)) from ok a _ e);exact ⟨o,Lx.toArray,n,h1,h2,h3,by simpa using oS r⟩
theorem nH {Lv:List (List aR × V)} (ok:HOk P w H h) (e:Rd H a (.dT Lv)):Lv.length <= sizeLine/\(a == sysModules)=false /\
  ∃ xs,KT H Lv xs/\h.DictOfH (tupleKind (bQ P w)) a xs:=by
 obtain ⟨z,y,xs,r,o,es,ep,h1,h2,h3,h4,h5⟩:=(show ObjOk P w H h a (.dT Lv) from zt ok e);refine ⟨z,y,xs,r,o,es,ep,h1,h2,h3,h4,fun x hx=>?_,h5⟩;have all:∀ {l:List (List aR × V)}{m:List (List aR × Addr × Value)},KT H l m->∀ x ∈ m,(tupleKind (bQ P w)).is h x.1 x.2.1:=by
  intro l m q
  induction q with
  | nil=>intro x hx;exact nomatch hx
  | @cons p q ps qs hq t ih =>
   intro x hx;rcases zT.mp hx with e | hx
   ·subst e
    exact kM ok (by rw [<- hq.1];exact hq.2.1)
   ·exact ih x hx
 exact all r x hx
theorem Ao {Lv:List (List aR × V)} (ok:HOk P w H h) (e:H a=some (.dT Lv)):Lv.length <= sizeLine/\(a == sysModules)=false /\
  ∃ xs,KT H Lv xs/\h.DictOfH (tupleKind (bQ P w)) a xs:=nH ok (.inl e)
end
def DGet (H:Hp) (a:Addr) (y:V) (r:Option V):Prop :=
 (∃ Lv k,Rd H a (.dK Lv)/\y=kV k/\r=eF Lv k)\/∃ Lv k b,Rd H a (.dT Lv)/\y=.ref b/\H b=some (.tup (k.map kV))/\r=eF Lv k
def DPut (H:Hp) (a:Addr) (y v:V) (H':Hp):Prop :=
 (∃ Lv k,H a=some (.dK Lv)/\y=kV k/\Lv.length < sizeLine/\H'=af H a (.dK (eI Lv k v))) \/
 ∃ Lv k b,H a=some (.dT Lv)/\y=.ref b/\H b=some (.tup (k.map kV))/\Lv.length < sizeLine/\H'=af H a (.dT (eI Lv k v))
theorem DGet.k {H:Hp}{a:Addr}{Lv:List (aR × V)}{k:aR} (e:H a=some (.dK Lv)):DGet H a (kV k) (eF Lv k):=.inl ⟨Lv,k,.inl e,rfl,rfl⟩
theorem DGet.t {H:Hp}{a b:Addr}{Lv:List (List aR × V)}{k:List aR} (e:H a=some (.dT Lv)) (eb:H b=some (.tup (k.map kV))):DGet H a (.ref b) (eF Lv k):=.inr ⟨Lv,k,b,.inl e,rfl,eb,rfl⟩
theorem DPut.k {H:Hp}{a:Addr}{Lv:List (aR × V)}{k:aR}{v:V} (e:H a=some (.dK Lv)) (hl:Lv.length < sizeLine):DPut H a (kV k) v (af H a (.dK (eI Lv k v))):=.inl ⟨Lv,k,e,rfl,hl,rfl⟩
theorem DPut.t {H:Hp}{a b:Addr}{Lv:List (List aR × V)}{k:List aR}{v:V} (e:H a=some (.dT Lv)) (eb:H b=some (.tup (k.map kV))) (hl:Lv.length < sizeLine) :
  DPut H a (.ref b) v (af H a (.dT (eI Lv k v))):=.inr ⟨Lv,k,b,e,rfl,eb,hl,rfl⟩
section
variable {X:Cx}{Lu:List (Addr × Obj)}{σ:St}{H:Hp}{s:Shared}{a:Addr}{y v:V}{u r:Value}{o:Option V}{A:Around}{E:Value->Shared->Prop}
theorem Inv.big (I:Inv X Lu σ H s):sysModules < s.heap.objs.size:=by
 have h:mainGlobals < s.heap.objs.size:=(I.mod.glob.keeps I.bk).lt;exact Nat.lt_trans dC h
theorem wx {Q:Value->Shared->Prop} (hu:A.units + 1 < cLine) (I:Inv X Lu σ H s) (g:DGet H a y (some v)) (ry:RelV y u) (h:∀ w' s',Inv X Lu σ H s'->RelV v w'->Q w' s') :
  wpAny (model X.prog X.w) A (getItem (.ref a) u) Q E s:=by
 rcases g with ⟨Lv,k,e,ey,l⟩ | ⟨Lv,k,b,e,ey,eb,l⟩
 ·subst ey
  obtain ⟨z,hd,vs,rel,dd⟩:=nJ I.LA e;obtain ⟨w',hw,rw'⟩:=RelO.some_of (v:=v) (o:=valueAt vs k) (by rw [l];exact rel.val k);exact wpAny_getItem_of (m6 ry) dd.mapOf hw (h w' _ (I.tok _) rw')
 ·subst ey
  cases (show u=Value.ref b from ry);obtain ⟨z,hd,xs,rel,dd⟩:=nH I.LA e;obtain ⟨w',hw,rw'⟩:=RelO.some_of (v:=v) (o:=(atKey xs k).map (·.2)) (by rw [l];exact rel.val k);obtain ⟨p,hp,hp2⟩:=zE.mp hw;refine wpAny_getItem_heap (tupleKind_room_in1 hu) (kM I.LA eb) dd hp ?_;rw [hp2];exact h w' _ (I.tok _) rw'
theorem JO {Q:Value->Shared->Prop} (hu:A.units + 1 < cLine) (I:Inv X Lu σ H s) (g:DGet H a y o) (ry:RelV y u) (h:∀ s',Inv X Lu σ H s'->Q (.bool o.isSome) s') :
  wpAny (model X.prog X.w) A (compareOp .In u (.ref a)) Q E s:=by
 rcases g with ⟨Lv,k,e,ey,l⟩ | ⟨Lv,k,b,e,ey,eb,l⟩
 ·subst ey
  obtain ⟨z,hd,vs,rel,dd⟩:=nJ I.LA e;refine wpAny_in_of (m6 ry) hd dd.mapOf ?_;rw [<- (rel.val k).isSome_eq,<- l];exact h _ (I.tok _)
 ·subst ey
  cases (show u=Value.ref b from ry);obtain ⟨z,hd,xs,rel,dd⟩:=nH I.LA e;refine wpAny_in_heap (tupleKind_room_in1 hu) (kM I.LA eb) hd dd ?_;have q:=(rel.val k).isSome_eq;rw [Option.isSome_map] at q;rw [<- q,<- l];exact h _ (I.tok _)
theorem Ci {Q:Value->Shared->Prop} (hu:A.units + 1 < cLine) (I:Inv X Lu σ H s) (g:DGet H a y o) (ry:RelV y u) (h:∀ s',Inv X Lu σ H s'->Q (.bool (!o.isSome)) s') :
  wpAny (model X.prog X.w) A (compareOp .NotIn u (.ref a)) Q E s:=by
 rcases g with ⟨Lv,k,e,ey,l⟩ | ⟨Lv,k,b,e,ey,eb,l⟩
 ·subst ey
  obtain ⟨z,hd,vs,rel,dd⟩:=nJ I.LA e;refine wpAny_notIn_of (m6 ry) hd dd.mapOf ?_;rw [<- (rel.val k).isSome_eq,<- l];exact h _ (I.tok _)
 ·subst ey
  cases (show u=Value.ref b from ry);obtain ⟨z,hd,xs,rel,dd⟩:=nH I.LA e;refine wpAny_notIn_heap (tupleKind_room_in1 hu) (kM I.LA eb) hd dd ?_;have q:=(rel.val k).isSome_eq;rw [Option.isSome_map] at q;rw [<- q,<- l];exact h _ (I.tok _)
theorem tq {h':Heap}{t':Nat}{ob:HO} (I:Inv X Lu σ H s) (mu:wP (H a)) (hs:Heap.SameBut a s.heap h') (he:∃ q,h'.get? a=some q) (new:ObjOk X.prog X.w (af H a ob) h' a ob) :
  Inv X Lu σ (af H a ob) { s with heap:=h',toks:=t' } :=
 I.write (x:=a) (e:=a) mu (.inl rfl) (fun b q hb z=>(hs.2 b hb).trans z) he new
theorem Fi {P:Program}{w:World}{H':Hp}{h':Heap}{Lv:List (aR × V)}{vs:List (aR × Value)} (z:Lv.length <= sizeLine) (hd:(a == sysModules)=false) (rel:KV Lv vs) (dd:h'.DictOf (bQ P w) a vs) :
  ObjOk P w H' h' a (.dK Lv):=⟨z,hd,vs,rel,dd⟩
theorem o7 {H':Hp}{Q:Unit->Shared->Prop} (hu:A.units + 1 < cLine) (I:Inv X Lu σ H s) (g:DPut H a y v H') (ry:RelV y u) (rv:RelV v r) (h:∀ s',Inv X Lu σ H' s'->Q () s') :
  wpAny (model X.prog X.w) A (setItem (.ref a) u r) Q E s:=by
 rcases g with ⟨Lv,k,e,ey,l,eH⟩ | ⟨Lv,k,b,e,ey,eb,l,eH⟩
 ·subst ey eH
  obtain ⟨z,hd,vs,rel,dd⟩:=Aq I.LA e;have hz:vs.length <= sizeLine:=by rw [<- rel.length];exact z
  have hl:(eI Lv k v).length <= sizeLine:=by have:=lO Lv k v;omega
  refine wpAny_setItem_pairs (hsz:=hz) (m6 ry) dd fun h' dd' hs=>h _ ?_
  have he:∃ q,h'.get? a=some q:=let ⟨q,_,_,hq,_⟩:=dd';⟨q,hq⟩;exact tq I (by rw [e];exact True.intro) hs he (Fi hl hd (rel.put k rv) dd')
 ·subst ey eH
  cases (show u=Value.ref b from ry);obtain ⟨z,hd,xs,rel,dd⟩:=Ao I.LA e;have hz:xs.length <= sizeLine:=by rw [<- Paired.length rel];exact z
  have hl:(eI Lv k v).length <= sizeLine:=by have:=lO Lv k v;omega
  refine wpAny_setItem_heap (hsz:=hz) (tupleKind_room_in1 hu) (kM I.LA eb) dd fun h' dd' hs=>h _ ?_
  obtain ⟨q,es,ep,hq,h2,h3,h4,_,h5⟩:=dd';refine tq I (by rw [e];exact True.intro) hs ⟨q,hq⟩ ⟨hl,hd,_,(rel.put k eb rv).keeps fun c ys ec=>?_,q,es,ep,hq,h2,h3,h4,h5⟩;rw [ad (tY ec e (fun z=>nomatch z))];exact ec
end
theorem rX {X:Cx}{Lu:List (Addr × Obj)}{σ:St}{H:Hp}{s:Shared}{a:Addr}{y:V}{o:Option V} (I:Inv X Lu σ H s) (g:DGet H a y o):s.TypeIs (.ref a) "dict":=by
 rcases g with ⟨Lv,k,e,_,_⟩ | ⟨Lv,k,b,e,_,_,_⟩
 ·obtain ⟨_,_,vs,_,dd⟩:=nJ I.LA e
  exact dd.typeIs
 ·obtain ⟨_,_,xs,_,dd⟩:=nH I.LA e
  exact dd.typeIs
theorem yy {P:Program}{w:World}{H:Hp} (h:Heap) (hb:sysModules < h.objs.size):ObjOk P w H (h.push { cls:=.type "dict",data:=.dict #[] }) h.objs.size (.dK []) :=
 ⟨Nat.zero_le _,beq_eq_false_iff_ne.mpr (Ne.symm (zU hb)),[],.nil,Heap.DictOf.new h⟩
def ve:TE:=fun _ H Q=>∀ p,H p=none->Q (.ref p) (af H p (.dK []))
section
variable {X:Cx}{pos:Pos}
theorem xJ:PE X (.Dict [] [] pos) ve:=fun Lu s σ H Q I h =>
 wpAny_Dict_empty ⟨.ref s.heap.objs.size,_,I.laid (a:=s.heap.objs.size) (o:=.dK []) (t':=s.toks) (fun _ _ q=>zG _ q) (zP _) (yy s.heap I.big),rfl,h _ (I.LA.fresh (zP _))⟩
end
end L2
namespace L2
open PySem PySem.Spec PySem.Calls PyProof.Rows
section
variable {prog:Program}{w:World}{A:Around}{E:Value->Shared->Prop}{s:Shared}
theorem ug (d:Addr) (hd:(d == sysModules)=false) :
  MeetsIn prog w (Builtin.«dict.__len__» ⟨[.ref d],[]⟩) (fun _ R s=>∃ xs:List (List aR × Addr × Value),s.heap.DictOfH (tupleKind (bQ prog w)) d xs/\R (.ok (.ret (.int xs.length s.toks))) { s with toks:=s.toks + 1 }) :=
 .of_wp fun A R s hq0=>by
  obtain ⟨Lv,hm,h⟩:=hq0;obtain ⟨o,es,ep,ho,hc,hdat,hk,hp,hn⟩:=hm;show wpAny _ _ (dictSize d >>= _) _ _ s;unfold dictSize;refine yF (yF (wpAny_dictEntries ho hdat (yG ?_)));show wpAny _ _ (Builtin.Dict.pendingCount d >>= _) _ _ s;refine yF (wpAny_pendingCount_other hd ?_);refine wpAny_ret_mkInt ?_;have:es.size=Lv.length:=size_of_entries hk;simpa [this] using h
theorem uH {d:Addr}{xs:List (List aR × Addr × Value)}{Q:Value->Shared->Prop} (hd:(d == sysModules)=false) (hm:s.heap.DictOfH (tupleKind (bQ prog w)) d xs) (hfit:(xs.length:Int) < 2 ^ 63)
  (h:Q (.int xs.length (s.toks + 1)) { s with toks:=s.toks + 1 + 1 }):wpAny (model prog w) A (call (.builtin "len") [.ref d]) Q E s:=by
 refine Calls.call_function_entry kind_len plain_len entry_len (args_len1 _) ?_;unfold Builtin.«len»;refine yF (m:=oneArg "len" _) (yG ?_);refine yF (m:=callSpecial? (.ref d) (Str.ofString "__len__")) (wpAny_callSpecial?_slot (name:=Str.ofString "__len__") hm.typeIs PySem.F.slot_dict_len
  (call_meetsIn PySem.F.slot_dict_len hm.typeIs PySem.F.entry_dict_len (PySem.F.args_dict_len_1 _) (ug d hd) ⟨xs,hm,?_⟩))
 show wpAny _ _ _ _ _ { s with toks:=s.toks + 1 };refine yF (yQ (yG ?_));refine yF (wpAny_letGo ?_);show wpAny _ _ (if ((xs.length:Nat):Int) < 0 then _ else _) _ _ _;rw [yH oM];show wpAny _ _ (if ((xs.length:Nat):Int) ≥ 2 ^ 63 then _ else _) _ _ _;rw [yH oM];exact yF (wpAny_mkInt (yG ⟨_,rfl,h⟩))
end
section
variable {X:Cx}
theorem wC:cb X (.builtin "len") (fun xs H Q=>∃ a Lv,xs=[V.ref a]/\H a=some (.dT Lv)/\Q (.int Lv.length) H):=by
 intro Lu s σ H xs us Q I r h;obtain ⟨a,Lv,rfl,ha,q⟩:=h;obtain ⟨u,rfl,ru⟩:=dL r;cases ru;obtain ⟨z,hd,xs,rel,dd⟩:=Ao I.LA ha;have hl:=Paired.length rel;refine uH hd dd (by rw [<- hl];rw [sizeLine_eq] at z;omega) ?_;rw [<- hl];exact ⟨.int Lv.length,H,I.tok _,⟨_,rfl⟩,q⟩
end
end L2
namespace DD
open PySem PySem.Spec PyProof.Rows L2
section
variable {K:Frag}{F F':Addr->Prop}{H H':Hp}{A:List Addr}
open Classical in
variable {σD:DSt}{σ:L2.St}{R:Ro}{d:D}{v:V}
end
end DD
namespace L2
open PySem PySem.Spec PyProof.Rows
noncomputable def AH (x:Str):It:=⟨fun i _=>∃ c,x.cps[i]?=some c,fun i H v H'=>H'=H/\∃ c,x.cps[i]?=some c/\v=.str ⟨#[c]⟩,fun i _=>x.cps[i]?=none⟩
theorem w6 {P:Program}{w:World}{K:Frag}{tg:Expr} (x:Str) (t:Tok) (it:Addr):jk P w K tg (AH x) [it] it (fun i h=>h.IsStrIter it "str_ascii_iterator" x t i) where
 mem:=by simp
 obj:=fun i h st b hb=>by
  have e:b=it:=by simpa using hb
  subst e;obtain ⟨o,e,c,d⟩:=st;exact ⟨o,e,fun v z=>by rw [d] at z;cases z⟩
 keep:=fun i h h' st k=>by
  obtain ⟨o,e,r⟩:=st;exact ⟨o,k it (by simp) o e,r⟩
 item:=by
  intro X hP hw hK hc i Lu s σ H E I hf st hg;subst hP hw hK;obtain ⟨c,hx⟩:=hg;obtain ⟨f0,f1,f2,f3,f4,f5⟩:=hf it (by simp);refine wpAny_pyNext_ascii_item st hx fun h' st' sb=>?_
  have I1:Inv X Lu σ H { s with heap:=h',toks:=s.toks + 1 }:=I.turned (fun b o hb e=>(sb.2 b hb).trans e) f0 f1 f3 f4 f5;obtain ⟨o,e,cl,d⟩:=id st';exact ⟨_,rfl,nh (s:={ s with heap:=h',toks:=s.toks + 1 }) e cl d dC ⟨.str ⟨#[c]⟩,H,I1,⟨_,rfl⟩,⟨rfl,c,hx,rfl⟩,st',fun b hb=>(hf b hb).1⟩⟩
 done:=by
  intro X hP hw hK hc i Lu s σ H E I hf st hg;subst hP hw hK;obtain ⟨f0,f1,f2,f3,f4,f5⟩:=hf it (by simp);exact wpAny_pyNext_ascii_end (I.ok.hd hc) st hg fun h' eb=>⟨rfl,I.turned (t':=s.toks) (fun b o hb e=>eb b o hb e) f0 f1 f3 f4 f5⟩
 self:=fun _ _ _ _ _ st h=>wpAny_pyIter_striter_ascii st h
section
variable {X:Cx}{pos:Pos}
def AU (ta:TA):TE:=fun σ H Q=>ta σ H fun vs H1=>∃ i j:Nat,vs=[.int (i:Int),.int (j:Int)]/\i <= j/\j <= 1000/\∀ p,H1 p=none->Q (.ref p) (af H1 p (.lst ((List.range' i (j - i)).map fun (q:Nat)=>V.int (q:Int))))
theorem vG {a b:Expr}{ta:TA}{p1 p2 pos2:Pos} (hc:X.calm=true) (hgl:Gl X "list") (hml:X.mg "list"=none) (hgr:Gl X "range") (hmr:X.mg "range"=none) (ha:PA X [a,b] ta)
  (hs:starEach [a,b] X.env=[(false,eval a X.env),(false,eval b X.env)]:=by rfl) (hs2:starEach [b] X.env=[(false,eval b X.env)]:=by rfl) (hs1:starEach [.Call (.Name "range" p2) [a,b] [] pos2] X.env=[(false,eval (.Call (.Name "range" p2) [a,b] [] pos2) X.env)]:=by rfl) :
  PE X (.Call (.Name "list" p1) [.Call (.Name "range" p2) [a,b] [] pos2] [] pos) (AU ta):=by
 intro Lu s σ H Q I h;refine Call_ (cV I hgl hml jS (PyProof.Rows.callWith_type1 ?_ (by rw [hs1];rfl) (by rfl)));rw [hs1];refine Calls.spliced_cons (Call_ (cV I hgr hmr boot_range (PyProof.Rows.callWith_type1 (aA (ha pos2 Lu s σ H _ I h) fun us s1 hq0=>?_) (by rw [hs,hs2]) (by rw [hs2];rfl))));obtain ⟨vs,H1,I1,r1,i,j,e,hij,hj,q⟩:=hq0;subst e;obtain ⟨u1,us1,rfl,ru1,r2⟩:∃ u us',us=u::us'/\RelV (.int (i:Int)) u/\Vals [.int (j:Int)] us':=by cases r1 with | cons r rr=>exact ⟨_,_,rfl,r,rr⟩
 obtain ⟨u2,us2,rfl,ru2,r3⟩:∃ u us',us1=u::us'/\RelV (.int (j:Int)) u/\Vals [] us':=by cases r2 with | cons r rr=>exact ⟨_,_,rfl,r,rr⟩
 cases r3;obtain ⟨t1,rfl⟩:=ru1;obtain ⟨t2,rfl⟩:=ru2;refine call_range_2 (Calls.spliced_nil ?_);have I2:Inv X Lu σ H1 { s1 with heap:=s1.heap.push { cls:=.type "range",data:=.fields #[.int (i:Int) t1,.int (j:Int) t2,.int 1 s1.toks] },toks:=s1.toks + 1 }:=I1.kept fun b o e=>zG _ e
 refine call_list_range (n:=j - i) (I.ok.hd hc) (IsRange.new ..) (small_one oM oM oM oM) (by rw [rangeSize_one];split <;> omega) oM fun h' tk acc' c' hk hS hacc=>?_
 have hv:=jG acc'.toList i (fun k v e=>by
  obtain ⟨t,e2⟩:=hacc.2 k v (by simpa using e);exact ⟨t,by rw [e2];congr 1;omega⟩)
 rw [show acc'.toList.length=j - i by simpa using hacc.1] at hv;exact ⟨.ref _,_,I2.laid (o:=.lst ((List.range' i (j - i)).map fun (q:Nat)=>V.int (q:Int))) hk (zP _) ⟨yW (oJ (by simp;omega)),acc'.toList,c',hv,hS⟩,rfl,q _ I2.fresh⟩
end
def AJ (X:Cx) (Lu:List (Addr × Obj)) (b:Addr):Prop:=b ≠ X.env.locals/\b ∉ X.fs/\(b ∈ X.ex\/X.s₀.heap.objs.size <= b)/\(∀ x c,X.env.cells.lookup x=some c->c ≠ b)/\∀ p ∈ X.pn++Lu,p.1 ≠ b
section
variable {X:Cx}{Lu:List (Addr × Obj)}{σ:St}{key:Value}{kw:List (Str × Value)}{l I S:Addr}{ns:List Int}{R:Result->Shared->Prop}
theorem xX (hh:X.A.handled=none) (kf:Nat->Int) (J:Nat->Hp->Prop) (hl:∀ i H,J i H->aP X.K H l (ns.map V.int))
  (turn:∀ (i:Nat) (n:Int) (u:Value) (pl:List (Addr × Obj)) (s:Shared) (H:Hp),ns[i]?=some n->RelV (V.int n) u->J i H->Inv X (Lu++pl) σ H s->(key=.none/\kf i=n/\J (i + 1) H) \/
   ∃ q,key=.ref q/\wpAny (model X.prog X.w) X.A.in1 (call (.ref q) [u]) (EP X (Lu++pl) σ (fun y H'=>y=.int (kf i)/\J (i + 1) H')) (fun _ _=>False) s)
  (hR:∀ (i:Nat) (n:Int) (u:Value) (H:Hp) (s:Shared),ns[i]?=some n->(∀ j,j < ns.length->kf i <= kf j/\(j < i->kf i < kf j))->J ns.length H->Inv X Lu σ H s->RelV (V.int n) u->R (.ok (.ret u)) s)
  (fI:AJ X Lu I) (fS:AJ X Lu S) (hIS:I ≠ S) :
  ∀ (r j i:Nat) (H:Hp) (s:Shared) (vb:Value) (tb:Tok) (c:Nat),ns.length - (j + 1)=r->j + 1 <= ns.length->Inv X Lu σ H s->H I=none->H S=none ->
   s.heap.get? S=some (seqObj "list" #[vb,.int (kf i) tb] c)->s.heap.IsListIter I l (j + 1)->(∃ n,ns[i]?=some n/\RelV (V.int n) vb)->i <= j->J (j + 1) H->(∀ j',j' <= j->kf i <= kf j'/\(j' < i->kf i < kf j')) ->
   codeAny (model X.prog X.w) X.A (.builtin "min.loop" ⟨[.ref I,key,.ref S],kw⟩) R s:=by
 have hname:(toString "min"++toString ".loop":String)="min.loop":=by decide
 intro r
 induction r with
 | zero =>
  intro j i H s vb tb c hr hj Iv nI nS gS it hvb hij hJ hb;have hin:j + 1=ns.length:=by omega
  obtain ⟨Lx,rv,pl,_⟩:=Iv.list (hl _ _ hJ);have hlen:Lx.length=ns.length:=by rw [<- rv.length,zH]
  have hL:s.heap.IsList l Lx.toArray:=pl.isList;have hlI:l ≠ I:=fun e=>by
   obtain ⟨o,e1,e2,_⟩:=hL;obtain ⟨o',e3,e4,_⟩:=it;rw [e,e3] at e1;cases e1;rw [e4] at e2;simp at e2
  have W:=Walks.list (prog:=X.prog) (w:=X.w) (A:=X.A.in1) hh I l hlI Lx.toArray;have hsz:Lx.toArray.size=Lx.length:=zI ..;refine codeAny_builtin PySem.F.entry_min_loop ?_;rw [Around.under_plainId PySem.F.plain_min_loop _];show wpAny _ X.A.in1 (seqItems? (.ref S) >>= _) _ _ _;refine yF (wpAny_seqItems gS rfl ?_);show wpAny _ X.A.in1 (tryCatch (pyNext (.ref I)) _ >>= _) _ _ _;refine yF (wpAny_tryCatch (W.done _ _ _ ⟨by rw [hsz,hlen,<- hin];exact it,hL⟩ fun h' tk' hk'=>?_));have V1:Inv X Lu σ H { s with heap:=h',toks:=tk' }:=Iv.turned (fun b o hb' e=>hk' b o (by simpa using hb') e) nI fI.1 fI.2.2.1 fI.2.2.2.1 fI.2.2.2.2;have gS':=hk' S _ (by simpa using hIS.symm) gS;show wpAny _ X.A.in1 (updateSeq S (fun _=>#[]) >>= _) _ _ _;refine yF ?_;refine wpAny_updateSeq gS' rfl (yF (wpAny_letGo (yG ?_)));obtain ⟨n,e1,e2⟩:=hvb;have s1:=Heap.SameBut.update h' S (Obj.mapSeq fun _=>(#[]:Array Value));exact hR i n vb H _ e1 (fun j' hj'=>hb j' oM) (hin ▸ hJ) (V1.turned (t':=tk') (fun b o hb' e=>(s1.2 b hb').trans e) nS fS.1 fS.2.2.1 fS.2.2.2.1 fS.2.2.2.2) e2
 | succ r ih =>
  intro j i H s vb tb c hr hj Iv nI nS gS it hvb hij hJ hb;have hlt:j + 1 < ns.length:=by omega
  obtain ⟨Lx,rv,pl,_⟩:=Iv.list (hl _ _ hJ);have hlen:Lx.length=ns.length:=by rw [<- rv.length,zH]
  have hL:s.heap.IsList l Lx.toArray:=pl.isList;have hlI:l ≠ I:=fun e=>by
   obtain ⟨o,e1,e2,_⟩:=hL;obtain ⟨o',e3,e4,_⟩:=it;rw [e,e3] at e1;cases e1;rw [e4] at e2;simp at e2
  have W:=Walks.list (prog:=X.prog) (w:=X.w) (A:=X.A.in1) hh I l hlI Lx.toArray;have hsz:Lx.toArray.size=Lx.length:=zI ..;refine codeAny_builtin PySem.F.entry_min_loop ?_;rw [Around.under_plainId PySem.F.plain_min_loop _];show wpAny _ X.A.in1 (seqItems? (.ref S) >>= _) _ _ _;refine yF (wpAny_seqItems gS rfl ?_);show wpAny _ X.A.in1 (tryCatch (pyNext (.ref I)) _ >>= _) _ _ _;refine yF (wpAny_tryCatch (W.item (j + 1) _ _ _ (by rw [hsz];omega) ⟨it,hL⟩ fun u h' tk' hP hst' hk'=>?_));have hu:Lx[j + 1]?=some u:=by simpa using hP
  obtain ⟨n,hn⟩:∃ n,ns[j + 1]?=some n:=⟨_,zF hlt⟩;have ru:RelV (V.int n) u:=by
   obtain ⟨u',e1,e2⟩:=rv.get (i:=j + 1) (x:=V.int n) (by rw [zR,hn];rfl);rw [hu] at e1;cases e1;exact e2
  have V1:Inv X Lu σ H { s with heap:=h',toks:=tk' }:=Iv.turned (fun b o hb' e=>hk' b o (by simpa using hb') e) nI fI.1 fI.2.2.1 fI.2.2.2.1 fI.2.2.2.2;have gS':=hk' S _ (by simpa using hIS.symm) gS;have hf:∀ b ∈ [I,S],dl X Lu H b:=fun b hb'=>by
   rcases zT.mp hb' with rfl | hb'
   ·exact ⟨nI,fI⟩
   ·rw [zM.mp hb'];exact ⟨nS,fS⟩
  obtain ⟨oI,goI,coI,doI⟩:=hst'.1;have ho:∀ b ∈ [I,S],∃ o,h'.get? b=some o/\∀ v:Option Value,o.data ≠ .cell v:=fun b hb'=>by
   rcases zT.mp hb' with rfl | hb'
   ·exact ⟨_,goI,fun v z=>by rw [doI] at z;cases z⟩
   ·rw [zM.mp hb'];exact ⟨_,gS',fun v z=>nomatch z⟩
  have V2:Inv X (Lu++fB [I,S] h') σ H { s with heap:=h',toks:=tk' }:=V1.pinned hf ho
  -- what follows the key's value
  have rest:∀ (t2:Tok) (H2:Hp) (s2:Shared),Inv X (Lu++fB [I,S] h') σ H2 s2->J (j + 1 + 1) H2->∀ (Rf:PySem.Fin->Shared->Prop) (Ef:Value->Shared->Prop),
    (∀ s3 H3 vb3 i3 t3 c3,Inv X Lu σ H3 s3->H3 I=none->H3 S=none->s3.heap.get? S=some (seqObj "list" #[vb3,.int (kf i3) t3] c3)->s3.heap.IsListIter I l (j + 1 + 1)->(∃ n,ns[i3]?=some n/\RelV (V.int n) vb3)->i3 <= j + 1->J (j + 1 + 1) H3->(∀ j',j' <= j + 1->kf i3 <= kf j'/\(j' < i3->kf i3 < kf j')) ->
     Rf (.again (.builtin "min.loop" ⟨[.ref I,key,.ref S],kw⟩)) s3) ->
    wpAny (model X.prog X.w) X.A.in1 ((do
     let better <- tryCatch (holding [u,.int (kf (j + 1)) t2] do
      let answer <- richCompare .Lt (.int (kf (j + 1)) t2) (.int (kf i) tb)
      let yes <- holding [answer] (truthy answer)
      letGo [answer]
      pure yes) fun e=>do
       updateSeq S fun _=>#[]
       letGo ([.int (kf (j + 1)) t2,u]++[vb,.int (kf i) tb].reverse) [e]
       throw e
     if better=true then do
      updateSeq S fun _=>#[u,.int (kf (j + 1)) t2]
      letGo [.int (kf i) tb,vb]
      again (.builtin "min.loop" ⟨[.ref I,key,.ref S],kw⟩)
     else do
      letGo [u,.int (kf (j + 1)) t2]
      again (.builtin "min.loop" ⟨[.ref I,key,.ref S],kw⟩)):Sem PySem.Fin) Rf Ef s2:=by
   intro t2 H2 s2 V3 J3 Rf Ef aE;have pI:=V3.pin (I,oI) (zK _ (zK _ (c7 (by simp) goI)));have pS:=V3.pin (S,seqObj "list" #[vb,.int (kf i) tb] c) (zK _ (zK _ (c7 (by simp) gS')));have V4:Inv X Lu σ H2 s2:=V3.unpinned;refine yF (wpAny_tryCatch (yQ (yF (CmpOf.ints_lt (prog:=X.prog) (w:=X.w) (A:=X.A.in1) (P:=fun i v=>∃ t,v=.int (kf i) t) kf (fun i v h=>h) (j + 1) i _ _ _ _ _ ⟨t2,rfl⟩ ⟨tb,rfl⟩ ?_))));refine yF (yQ (wpAny_truthy_bool ?_));refine yF (wpAny_letGo (yG ?_));have it2:s2.heap.IsListIter I l (j + 1 + 1):=⟨oI,pI.1,coI,doI⟩;by_cases hb':kf (j + 1) < kf i
   ·simp only [hb',decide_true,if_true]
    have s1:=Heap.SameBut.update s2.heap S (Obj.mapSeq fun _=>#[u,.int (kf (j + 1)) t2]);obtain ⟨c2,hc2⟩:∃ c2,(s2.heap.update S (Obj.mapSeq fun _=>#[u,.int (kf (j + 1)) t2])).get? S=some (seqObj "list" #[u,.int (kf (j + 1)) t2] c2):=⟨_,get?_update_seq pS.1 fun _=>#[u,.int (kf (j + 1)) t2]⟩;refine yF ?_;refine wpAny_updateSeq pS.1 rfl (yF (wpAny_letGo (yG ?_)));obtain ⟨sh,sg,sd,stk,sos⟩:=s2;refine aE _ H2 u (j + 1) t2 c2 (V4.turned (t':=stk) (fun b o hb'' e=>(s1.2 b hb'').trans e) pS.2.1 fS.1 fS.2.2.1 fS.2.2.2.1 fS.2.2.2.2) pI.2.1 pS.2.1 hc2 ⟨oI,(s1.2 I hIS).trans pI.1,coI,doI⟩ ⟨n,hn,ru⟩ (zP _) J3 fun j' hj'=>?_
    by_cases e:j'=j + 1
    ·subst e
     exact ⟨by omega,fun _=>by omega⟩
    ·have hb1:=hb j' oM
     have hb2:=hb1.1;exact ⟨by omega,fun _=>by omega⟩
   ·simp only [hb',decide_false,yB,if_false]
    refine yF (wpAny_letGo (yG ?_));refine aE _ H2 vb i tb c V4 pI.2.1 pS.2.1 pS.1 it2 hvb oM J3 fun j' hj'=>?_
    by_cases e:j'=j + 1
    ·subst e
     exact ⟨by omega,fun _=>by omega⟩
    ·exact hb j' oM
  have aE:∀ s3 H3 vb3 i3 t3 c3,Inv X Lu σ H3 s3->H3 I=none->H3 S=none->s3.heap.get? S=some (seqObj "list" #[vb3,.int (kf i3) t3] c3)->s3.heap.IsListIter I l (j + 1 + 1)->(∃ n,ns[i3]?=some n/\RelV (V.int n) vb3)->i3 <= j + 1->J (j + 1 + 1) H3->(∀ j',j' <= j + 1->kf i3 <= kf j'/\(j' < i3->kf i3 < kf j')) ->
    ((Code.builtin "min.loop" ⟨[.ref I,key,.ref S],kw⟩).quiet=true/\codeAny (model X.prog X.w) X.A (.builtin "min.loop" ⟨[.ref I,key,.ref S],kw⟩) R s3):=fun s3 H3 vb3 i3 t3 c3 a1 a2 a3 a4 a5 a6 a7 a8 a9 =>
   ⟨plainId_quiet PySem.F.plain_min_loop _,ih (j + 1) i3 H3 s3 vb3 t3 c3 oM hlt a1 a2 a3 a4 a5 a6 a7 a8 a9⟩
  rcases turn (j + 1) n u _ _ H hn ru hJ V2 with ⟨hk0,hkf,J2⟩ | ⟨q,hkq,call0⟩
  ·subst hk0
   obtain ⟨t2,rfl⟩:=ru;refine yF (yG ?_)
   have:=rest t2 H _ V2 J2
   rw [hkf] at this;exact this _ _ aE
  ·subst hkq
   refine yF (wpAny_tryCatch (yQ (yR call0 (fun x s'' he=>?_) fun _ _ hF=>hF.elim)));obtain ⟨y,H3,V3,ry,rfl,J3⟩:=he;obtain ⟨t2,rfl⟩:=ry;exact rest t2 H3 s'' V3 J3 _ _ aE
end
section
variable {X:Cx}{Lu:List (Addr × Obj)}{σ:St}{ko:Option Value}{kws:List (Str × Value)}{l:Addr}{ns:List Int}{H:Hp}{s:Shared}{Q:VK}{E:Value->Shared->Prop}
theorem qz (hh:X.A.handled=none) (kf:Nat->Int) (J:Nat->Hp->Prop) (hl:∀ i H,J i H->aP X.K H l (ns.map V.int))
  (hb:Builtin.Builtins.bindParams "min" ["key","default"] 0 ⟨[],kws⟩=pure [ko,some .none]) (ha:argsOk "min" ⟨[.ref l],kws⟩)
  (turn:∀ (i:Nat) (n:Int) (u:Value) (pl:List (Addr × Obj)) (s:Shared) (H:Hp),ns[i]?=some n->RelV (V.int n) u->J i H->Inv X (Lu++pl) σ H s->(ko.getD .none=.none/\kf i=n/\J (i + 1) H) \/
   ∃ q,ko.getD .none=.ref q/\wpAny (model X.prog X.w) X.A.in1 (call (.ref q) [u]) (EP X (Lu++pl) σ (fun y H'=>y=.int (kf i)/\J (i + 1) H')) (fun _ _=>False) s)
  (hQ:∀ (i:Nat) (n:Int) (H:Hp),ns[i]?=some n->(∀ j,j < ns.length->kf i <= kf j/\(j < i->kf i < kf j))->J ns.length H->Q (.int n) H) (hE:ns=[]->Q .non H)
  (Iv:Inv X Lu σ H s) (J0:J 0 H):wpAny (model X.prog X.w) X.A (call (.builtin "min") [.ref l] kws) (EP X Lu σ Q) E s:=by
 have hname:(toString "min"++toString ".loop":String)="min.loop":=by decide
 obtain ⟨Lx,rv,pl,_⟩:=Iv.list (hl _ _ J0);have hlen:Lx.length=ns.length:=by rw [<- rv.length,zH]
 have hL:s.heap.IsList l Lx.toArray:=pl.isList;obtain ⟨ol,hol,_⟩:=id hL;have hll:l < s.heap.objs.size:=yJ hol;refine kmk_tree PySem.F.kind_min PySem.F.plain_min PySem.F.entry_min ha ?_;show wpAny _ X.A.in1 (Builtin.Builtins.bindParams "min" ["key","default"] 0 ⟨[],kws⟩ >>= _) _ _ s;refine yF (wpAny_of_eq hb ?_);refine yF (yG ?_);refine yF (wpAny_pyIter_list hL ?_);refine yF (wpAny_newList ?_ (Nat.zero_le _));rw [hname];have hS:(s.heap.push { cls:=.type "list_iterator",data:=.fields #[.ref l,.int 0 0] }).objs.size=s.heap.objs.size + 1:=size_push' ..;have hlI:l ≠ s.heap.objs.size:=zU hll;refine yG ⟨plainId_quiet PySem.F.plain_min_loop _,?_⟩;generalize hI:s.heap.objs.size=I at *;generalize hSS:(s.heap.push { cls:=.type "list_iterator",data:=.fields #[.ref l,.int 0 0] }).objs.size=S at *;have nI:H I=none:=by rw [<- hI];exact Iv.fresh
 have nS:H S=none:=Iv.LA.fresh (by rw [hS,hI];omega);have hIS:I ≠ S:=by rw [hS];omega
 have gI:((s.heap.push { cls:=.type "list_iterator",data:=.fields #[.ref l,.int 0 0] }).push (seqObj "list" #[] 0)).get? I=some { cls:=.type "list_iterator",data:=.fields #[.ref l,.int 0 0] }:=by
  rw [<- hI];exact zG _ (zY _ rfl)
 have gS:((s.heap.push { cls:=.type "list_iterator",data:=.fields #[.ref l,.int 0 0] }).push (seqObj "list" #[] 0)).get? S=some (seqObj "list" #[] 0):=by
  rw [<- hSS];exact zY _ rfl
 have kp:∀ b o,s.heap.get? b=some o->((s.heap.push { cls:=.type "list_iterator",data:=.fields #[.ref l,.int 0 0] }).push (seqObj "list" #[] 0)).get? b=some o:=fun b o e=>zG _ (zG _ e)
 have fI:AJ X Lu I:=(Iv.fpOk (b:=I) (Nat.le_of_eq hI) nI).2;have fS:AJ X Lu S:=(Iv.fpOk (b:=S) (by rw [hS,hI];omega) nS).2;generalize hH1:((s.heap.push { cls:=.type "list_iterator",data:=.fields #[.ref l,.int 0 0] }).push (seqObj "list" #[] 0))=h1 at gI gS kp;have V1:Inv X Lu σ H { s with heap:=h1,toks:=s.toks }:=Iv.kept kp;have hL1:h1.IsList l Lx.toArray:=⟨ol,kp _ _ hol,by obtain ⟨o2,e2,r2⟩:=hL;rw [hol] at e2;cases e2;exact r2⟩;have it0:h1.IsListIter I l 0:=⟨_,gI,rfl,rfl⟩;have W:=Walks.list (prog:=X.prog) (w:=X.w) (A:=X.A.in1) hh I l hlI Lx.toArray;have hsz:Lx.toArray.size=Lx.length:=zI ..;have aE:∀ (i:Nat) (n:Int) (u:Value) (H:Hp) (s:Shared),ns[i]?=some n->(∀ j,j < ns.length->kf i <= kf j/\(j < i->kf i < kf j))->J ns.length H->Inv X Lu σ H s->RelV (V.int n) u->EP X Lu σ Q u s :=
  fun i n u H s e1 e2 e3 e4 e5=>⟨_,H,e4,e5,hQ i n H e1 e2 e3⟩
 show codeAny _ X.A (.builtin "min.loop" ⟨[.ref I,ko.getD .none,.ref S],[("default",.none)]⟩) _ { s with heap:=h1,toks:=s.toks };refine codeAny_builtin PySem.F.entry_min_loop ?_;rw [Around.under_plainId PySem.F.plain_min_loop _];show wpAny _ X.A.in1 (seqItems? (.ref S) >>= _) _ _ _;refine yF (wpAny_seqItems gS rfl ?_);show wpAny _ X.A.in1 (tryCatch (pyNext (.ref I)) _ >>= _) _ _ _;by_cases hn:ns=[]
 ·subst hn
  refine yF (wpAny_tryCatch (W.done _ _ _ ⟨by rw [hsz,hlen];exact it0,hL1⟩ fun h' tk' hk'=>?_));refine yF (wpAny_rule (yG ?_));exact ⟨.non,H,V1.turned (fun b o hb' e=>hk' b o (by simpa using hb') e) nI fI.1 fI.2.2.1 fI.2.2.2.1 fI.2.2.2.2,rfl,hE rfl⟩
 ·have hlt:0 < ns.length:=List.length_pos_iff.mpr hn
  refine yF (wpAny_tryCatch (W.item 0 _ _ _ (by rw [hsz];omega) ⟨it0,hL1⟩ fun u h' tk' hP hst' hk'=>?_));have hu:Lx[0]?=some u:=by simpa using hP
  obtain ⟨n,hn⟩:∃ n,ns[0]?=some n:=⟨_,zF hlt⟩;have ru:RelV (V.int n) u:=by
   obtain ⟨u',e1,e2⟩:=rv.get (i:=0) (x:=V.int n) (by rw [zR,hn];rfl);rw [hu] at e1;cases e1;exact e2
  have V2:Inv X Lu σ H { s with heap:=h',toks:=tk' }:=V1.turned (fun b o hb' e=>hk' b o (by simpa using hb') e) nI fI.1 fI.2.2.1 fI.2.2.2.1 fI.2.2.2.2;have gS':=hk' S _ (by simpa using hIS.symm) gS;have hf:∀ b ∈ [I,S],dl X Lu H b:=fun b hb'=>by
   rcases zT.mp hb' with rfl | hb'
   ·exact ⟨nI,fI⟩
   ·rw [zM.mp hb'];exact ⟨nS,fS⟩
  obtain ⟨oI,goI,coI,doI⟩:=hst'.1;have ho:∀ b ∈ [I,S],∃ o,h'.get? b=some o/\∀ v:Option Value,o.data ≠ .cell v:=fun b hb'=>by
   rcases zT.mp hb' with rfl | hb'
   ·exact ⟨_,goI,fun v z=>by rw [doI] at z;cases z⟩
   ·rw [zM.mp hb'];exact ⟨_,gS',fun v z=>nomatch z⟩
  have V3:Inv X (Lu++fB [I,S] h') σ H { s with heap:=h',toks:=tk' }:=V2.pinned hf ho;have rest:∀ (t2:Tok) (H2:Hp) (s2:Shared),Inv X (Lu++fB [I,S] h') σ H2 s2->J 1 H2 ->
    wpAny (model X.prog X.w) X.A.in1 ((do
     updateSeq S fun _=>#[u,.int (kf 0) t2]
     again (.builtin "min.loop" ⟨[.ref I,ko.getD .none,.ref S],[("default",.none)]⟩)):Sem PySem.Fin) (fun aE s'=>match aE with
      | .done f=>(match (Except.ok f:Result) with | .ok (.ret v)=>EP X Lu σ Q v s' | .ok _=>False | .error e=>E e s')
      | .again c'=>c'.quiet=true/\codeAny (model X.prog X.w) X.A c' (fun r s'=>match r with | .ok (.ret v)=>EP X Lu σ Q v s' | .ok _=>False | .error e=>E e s') s') (fun e s'=>E e s') s2:=by
   intro t2 H2 s2 V4 J2;have pI:=V4.pin (I,oI) (zK _ (zK _ (c7 (by simp) goI)));have pS:=V4.pin (S,seqObj "list" #[] 0) (zK _ (zK _ (c7 (by simp) gS')));have V5:Inv X Lu σ H2 s2:=V4.unpinned;have s1:=Heap.SameBut.update s2.heap S (Obj.mapSeq fun _=>#[u,.int (kf 0) t2]);obtain ⟨c2,hc2⟩:∃ c2,(s2.heap.update S (Obj.mapSeq fun _=>#[u,.int (kf 0) t2])).get? S=some (seqObj "list" #[u,.int (kf 0) t2] c2):=⟨_,get?_update_seq pS.1 fun _=>#[u,.int (kf 0) t2]⟩;refine yF ?_;refine wpAny_updateSeq pS.1 rfl (yG ⟨plainId_quiet PySem.F.plain_min_loop _,?_⟩);obtain ⟨sh,sg,sd,stk,sos⟩:=s2;refine xX hh kf J hl turn aE fI fS hIS _ 0 0 H2 _ u t2 c2 rfl hlt (V5.turned (t':=stk) (fun b o hb'' e=>(s1.2 b hb'').trans e) pS.2.1 fS.1 fS.2.2.1 fS.2.2.2.1 fS.2.2.2.2) pI.2.1 pS.2.1 hc2 ⟨oI,(s1.2 I hIS).trans pI.1,coI,doI⟩ ⟨n,hn,ru⟩ (zP _) J2 fun j' hj'=>?_
   have e:j'=0:=by omega
   subst e;exact ⟨by omega,fun h=>absurd h (yX _)⟩
  rcases turn 0 n u _ _ H hn ru J0 V3 with ⟨hk0,hkf,J2⟩ | ⟨q,hkq,call0⟩
  ·rw [hk0] at rest ⊢
   obtain ⟨t2,rfl⟩:=ru;refine yF (yG ?_)
   have:=rest t2 H _ V3 J2
   rw [hkf] at this;exact this
  ·rw [hkq] at rest ⊢
   refine yF (wpAny_tryCatch (yQ (yR call0 (fun x s'' he=>?_) fun _ _ hF=>hF.elim)));obtain ⟨y,H3,V4,ry,rfl,J3⟩:=he;obtain ⟨t2,rfl⟩:=ry;exact rest t2 H3 s'' V4 J3
end
end L2
namespace R
open PySem PySem.Spec PyProof.Rows L2
theorem wV:∀ {ps:List Str}{us:List Value},ps.Nodup->us.length=ps.length->ps.filterMap (fun n=>((ps.zip us).lookup n).map fun v=>(n,v))=ps.zip us/\ps.filter (fun n=>((ps.zip us).lookup n).isNone)=[]:=by
 have key:∀ {ps:List Str}{us:List Value},us.length=ps.length->∀ n ∈ ps,((ps.zip us).lookup n).isSome=true:=by
  intro ps
  induction ps with
  | nil=>intro us _ n hn;cases hn
  | cons p ps ih =>
   intro us hl n hn;cases us with
   | nil=>cases hl
   | cons u us =>
    rw [List.zip_cons_cons,yO];cases hb:n == p with
    | true=>rfl
    | false =>
     rcases zT.mp hn with rfl | hn
     ·simp at hb
     ·exact ih (by simpa using hl) n hn
 intro ps us nd hl;refine ⟨?_,List.filter_eq_nil_iff.mpr fun n hn=>by
  have:=key hl n hn
  cases h:(ps.zip us).lookup n with
  | none=>rw [h] at this;cases this
  | some v=>simp⟩
 -- the names ahead don't matter
 have gen:∀ (qs:List Str) (vs:List Value),qs.Nodup->vs.length=qs.length->∀ l:List (Str × Value),(∀ q ∈ qs,l.lookup q=(qs.zip vs).lookup q)->qs.filterMap (fun n=>(l.lookup n).map fun v=>(n,v))=qs.zip vs:=by
  intro qs
  induction qs with
  | nil=>intro vs _ _ l _;rfl
  | cons q qs ih =>
   intro vs nd hl l h;cases vs with
   | nil=>cases hl
   | cons v vs =>
    have h0:=h q z8;rw [List.zip_cons_cons,yO] at h0;simp only [beq_self_eq_true] at h0;rw [List.filterMap_cons,h0];rw [List.nodup_cons] at nd
    have:=ih vs nd.2 (by simpa using hl) l fun p hp=>by
     have:=h p (zQ _ hp)
     rw [List.zip_cons_cons,yO] at this;have ne:(p == q)=false:=by
      have:p ≠ q:=fun e=>nd.1 (e ▸ hp)
      simpa using this
     rw [ne] at this;exact this
    simp only [map_some];rw [this];rfl
 exact gen ps us nd hl _ fun _ _=>rfl
noncomputable def plainA (a:Arguments):Bool:=a.posonlyargs.isEmpty && a.vararg.isNone && a.kwonlyargs.isEmpty && a.kwarg.isNone
theorem bind_plain (hp:plainA fd.params=true) (hd:fd.defaults=.none) (nd:(fd.params.args.map (·.arg)).Nodup) (hl:us.length=(fd.params.args.map (·.arg)).length):bindArgs fd ⟨us,[]⟩=pure ((fd.params.args.map (·.arg)).zip us):=by
 unfold plainA at hp;simp only [zC,List.isEmpty_iff,Option.isNone_iff_eq_none] at hp;obtain ⟨⟨⟨h1,h2⟩,h3⟩,h4⟩:=hp;obtain ⟨z1,z2⟩:=wV nd hl;have hs:seqItems? fd.defaults=(do notAStandIn Value.none;pure none):=by rw [hd];rfl
 have hn:notAStandIn Value.none=pure ():=rfl;unfold bindArgs;simp only [h1,h2,h3,h4,hs,hn];simp only [List.map_nil,List.nil_append,List.forIn_nil,pure_bind,List.append_nil];rw [yH (by simp [hl])];simp only [Option.getD_none,List.length_nil,Nat.sub_zero,List.drop_nil,List.take_length,z2,List.isEmpty_nil,Bool.not_true,yB,if_false,List.drop_length,List.zip_nil_left,List.forIn_nil,pure_bind,z1]
end R
namespace L2
open PySem PySem.Spec PyProof.Rows
def iK (mg:Str->Option Value) (base:Heap):Prop:=∃ bm o,mg "__builtins__"=some (.ref bm)/\bm ≠ builtinsNs/\bm ≠ mainGlobals/\base.get? bm=some o/\o.cls=.type "module"/\o.dict=some builtinsNs/\o.data=.plain
noncomputable def fG (c:Addr) (q:Str):HO:=.ext fun h=>h.CodeRec (.ref c) q
section
variable {X:Cx}{Lu:List (Addr × Obj)}{σ:St}{H:Hp}{s:Shared}
theorem Inv.grown {t':Nat} (I:Inv X Lu σ H s) (hP:H P=some (.tbl ps)) (hx:Heap.ExtBut P s.heap h') (hc:s.heap.objs.size <= c') (hr:h'.CodeRec (.ref c') q)
  (gP:h'.get? P=some (tabObj (ps++more))):Inv X Lu σ (af (af H P (.tbl (ps++more))) c' (fG c' q)) { s with heap:=h',toks:=t' }:=by
 have gP0:s.heap.get? P=some (tabObj ps):=I.LA P _ hP;have hcn:H c'=none:=I.LA.fresh hc;have hPc:P ≠ c':=zU (zJ (yJ gP0) hc);have nb:∀ b u,H b=some u->b ≠ c':=fun b u e z=>by rw [z,hcn] at e;cases e
 have hH:∀ b,b ≠ P->b ≠ c'->af (af H P (.tbl (ps++more))) c' (fG c' q) b=H b:=fun b h1 h2=>by rw [ad h2,ad h1]
 refine I.un ⟨fun b o e n _ _=>hx b o (fun z=>by rw [z,hP] at n;cases n) e,fun b o e n _ _=>⟨o.slots,hx b o (fun z=>by rw [z,hP] at n;cases n) e⟩,fun b o e n _=>?_,fun b o e _=>?_,fun b xs e=>?_,fun b o u e=>?_,fun b qs e=>?_⟩ fun b u e=>?_
 ·rw [hH b (fun z=>by rw [z,hP] at n;cases n) (zU (zJ (yJ e) hc))];exact n
 ·by_cases hb:b=P
  ·exact ⟨_,hb ▸ gP⟩
  ·exact ⟨o,hx b o hb e⟩
 ·rw [hH b (fun z=>by rw [z,hP] at e;cases e) (nb _ _ e)];exact e
 ·rw [hH b (fun z=>by rw [z,hP] at e;cases e) (nb _ _ e)];exact e
 ·by_cases hb:b=P
  ·subst hb
   rw [hP] at e;cases e;exact ⟨more,by rw [ad hPc,aq]⟩
  ·exact ⟨#[],by rw [hH b hb (nb _ _ e),e];simp⟩
 ·by_cases h1:b=c'
  ·subst h1
   rw [aq] at e;cases e;obtain ⟨c,oc,vs,t,e1,e2,e3⟩:=id hr;cases e1;refine ⟨hr,⟨oc,e2⟩,fun h1 h2 hq0 k=>?_⟩;obtain ⟨c,oc,vs,t,e1,e2,e3⟩:=hq0;cases e1;exact ⟨_,oc,vs,t,rfl,k _ e2,e3⟩
  ·rw [ad h1] at e
   by_cases h2:b=P
   ·subst h2
    rw [aq] at e;cases e;exact gP
   ·rw [ad h2] at e
    refine (I.LA b u e).stay (fun d v hd q=>hx d v (fun z=>?_) q) (fun d q=>?_) fun d xs q=>?_
    ·rcases hd with z2 | z2
     ·exact h2 (z2.symm.trans z)
     ·rw [z,hP] at z2;cases z2
    ·rw [hH d (fun z=>by rw [z,hP] at q;cases q) (nb _ _ q)];exact q
    ·rw [hH d (fun z=>by rw [z,hP] at q;cases q) (nb _ _ q)];exact q
abbrev ut (mg:Str->Option Value) (qual:Str) (params:Arguments) (body:Expr) (scope:Scope) (cl:List (Str × Addr)) (cv ctv:Value):Obj :=
 { cls:=.type "function",data:=.func (kla_fn "<lambda>" qual params body scope cl ((mg "__name__").getD .none) cv ctv) }
def fy (H:Hp) (P:Addr) (pos:Pos) (q:Str):Prop:=∃ ps,H P=some (.tbl ps)/\TriplesOk ps.toList/\(codeAmong pos ps.toList=none\/∃ c,codeAmong pos ps.toList=some (.ref c)/\H c=some (fG c q))
theorem yf (I:Inv X Lu σ H s) (hdef:defaultsOf params X.env=([],[])) (hcode:X.env.code=.ref c)
  (C:CodeHd X.base c P) (B:iK X.mg X.base) (hcl:closureFor scope X.env=pure cl) (T:fy H P pos (X.env.qual++"<lambda>"))
  (h:∀ f c' ctv H' s',(H'=H\/∃ ps more,H P=some (.tbl ps)/\H c'=none/\P ≠ c'/\H'=af (af H P (.tbl (ps++more))) c' (fG c' (X.env.qual++"<lambda>")))->fy H' P pos (X.env.qual++"<lambda>")->H' c'=some (fG c' (X.env.qual++"<lambda>")) ->
   Inv X (Lu++[(f,ut X.mg (X.env.qual++"<lambda>") params body scope cl (.ref c') ctv)]) σ H' s'->Q (.ref f) s') :
  wpAny (model X.prog X.w) X.A (eval (.Lambda params body scope pos) X.env) Q E s:=by
 refine kla_eval hdef ?_;obtain ⟨ps,hP,ht,hc⟩:=T;have gP:s.heap.get? P=some (tabObj ps):=I.LA P _ hP;have hg:s.heap.Ns mainGlobals X.mg:=I.mod.glob.keeps I.bk;have hgP:mainGlobals ≠ P:=fun q=>by
  obtain ⟨o,es,ep,e,hd,_⟩:=hg;rw [q,gP] at e;cases e;cases hd
 obtain ⟨bm,ob,b1,b2,b3,b4,b5,b6,b7⟩:=B;have hbP:bm ≠ P:=fun q=>by
  have:=(I.bs bm ob b4).2
  rw [q,hP] at this;cases this
 have hb:s.heap.BuiltinsAt X.mg P:=⟨bm,ob,b1,b2,b3,hbP,I.bk _ _ b4,b5,b6,b7⟩;have C':CodeHd s.heap c P:=C.keeps I.bk
 -- the function's object,laid over h1
 have last:∀ (H1:Hp) (h1:Heap) (tk1:Nat) (o:Obj),Inv X Lu σ H1 { s with heap:=h1,toks:=tk1 }->(∀ v,o.data ≠ .cell v)->o.isFreed=false->Inv X (Lu++[(h1.objs.size,o)]) σ H1 { s with heap:=h1.push o,toks:=tk1 }:=by
  intro H1 h1 tk1 o J hd hfr;have J2:Inv X Lu σ H1 { s with heap:=h1.push o,toks:=tk1 }:=J.kept fun b u e=>zG _ e
  have fp:=J.fpOk (b:=h1.objs.size) (zP _) J.fresh;refine J2.pins_of fun p hp=>?_
  rcases zZ.mp hp with hp | hp
  ·exact J2.pin p (zK _ hp)
  ·rw [zM.mp hp]
   exact ⟨zY _ hfr,fp.1,fp.2.1,fp.2.2.1,hd⟩
 rcases hc with hn | ⟨c',hc,hx⟩
 ·refine kla_makeFunction (mg:=X.mg) hcl I.ok.glob hg hcode C' gP ht hn hgP hb fun c' ctv h' tk hx hge hlt hrec htb=>?_
  have hPc:P ≠ c':=zU (zJ (yJ gP) hge);have J:=I.grown (t':=tk) hP hx hge hrec htb;have e1:af (af H P (.tbl (ps++#[rawInt pos.line,rawInt pos.col,.ref c']))) c' (fG c' (X.env.qual++"<lambda>")) P=some (.tbl (ps++#[rawInt pos.line,rawInt pos.col,.ref c'])):=by rw [ad hPc,aq]
  refine h _ c' ctv _ _ (.inr ⟨ps,_,hP,I.LA.fresh hge,hPc,rfl⟩) ⟨_,e1,?_,.inr ⟨c',?_,aq⟩⟩ aq (last _ h' tk _ J (fun v z=>nomatch z) rfl)
  ·rw [Array.toList_append];exact TriplesOk_snoc _ _ _ _ ht
  ·rw [Array.toList_append];exact codeAmong_snoc _ ht hn
 ·refine kla_makeFunctionHit (mg:=X.mg) hcl I.ok.glob hg hcode C' gP ht hc hb fun ctv h' tk hk hge=>?_
  exact h _ c' ctv H _ (.inl rfl) ⟨ps,hP,ht,.inr ⟨c',hc,hx⟩⟩ hx (last H h' tk _ (I.kept hk) (fun v z=>nomatch z) rfl)
def qY (X:Cx) (N':List Str) (scope:Scope) (cl:List (Str × Addr)) (f:Addr) (qual:Str) (cd:Value) (A:Around) (s:Shared) (H:Hp):Cx :=
 { X with N:=N',s₀:=s,H₀:=H,env:=newEnv scope s.heap.objs.size mainGlobals cl (qual++".<locals>.") (some f) cd none builtinsNs,outer:=X.stack,stack:=newEnv scope s.heap.objs.size mainGlobals cl (qual++".<locals>.") (some f) cd none builtinsNs::X.stack,
          A:=A.deeper (newEnv scope s.heap.objs.size mainGlobals cl (qual++".<locals>.") (some f) cd none builtinsNs),ex:=[],fn:=fun _=>false,calm:=true,pn:=[],xe:=fun _ _=>False }
structure uV (X:Cx) (N':List Str) (scope:Scope) (x:Str):Prop where
 cy:jX X N' scope
 co:scope.isCoroutine=false
 gen:scope.isGenerator=false
 len:N'.length=X.N.length + 1
 own:N'[X.N.length]?=some x
 loc:scope.names.lookup x=some .local
 nc:∀ y ∈ scope.names,y.2 ≠ .cell
theorem yz {t':Nat} (T:uV X N' scope x) (I:Inv X Lu σ H s) (hfm:A.frames=some X.stack) (hh:A.handled=none)
  (hcl:∀ p ∈ cl,X.env.cells.lookup p.1=some p.2) (hfr:∀ x,(x,NameKind.free) ∈ scope.names->∃ c,(x,c) ∈ cl) (r:RelV v u)
  (hn:h'.Ns s.heap.objs.size (fun y=>[(x,u)].reverse.lookup y)) (hs:Heap.SameBut s.heap.objs.size (s.heap.push { cls:=.type "frame",data:=.dict #[] }) h') :
  Inv (qY X N' scope cl f qual cd A s H) [] (σ++[some v]) H { s with heap:=h',toks:=t' }:=by
 have keep:∀ b o,s.heap.get? b=some o->h'.get? b=some o:=fun b o e=>(hs.2 b (zU (yJ e))).trans (zG _ e)
 have look:∀ x,(x,NameKind.free) ∈ scope.names->∃ c,cl.lookup x=some c/\X.env.cells.lookup x=some c:=fun x hx=>by
  obtain ⟨c,hc⟩:=hfr x hx;obtain ⟨c2,hc2⟩:=fj hc;exact ⟨c2,hc2,hcl _ (mem_of_lookup hc2)⟩
 have noA:∀ b:Addr,b ∉ (qY X N' scope cl f qual cd A s H).ex:=fun b z=>absurd (show b ∈ ([]:List Addr) from z) (by simp)
 refine ⟨⟨I.ok.mod,T.cy.kind,rfl,rfl,zP _,fun y z c h1 h2=>?_,fun y hy=>?_,fun y c h=>(by cases h),fun _=>hh,Around.frames_deeper hfm,.inr ⟨rfl,rfl⟩,fun b z=>absurd z (noA b),I.bs,z0 I.ok.bsz I.sz,fun b _ _=>noA b,fun b z=>absurd z (noA b),I.stack,I.stkFree⟩,
  rfl,I.bare,Un.kept keep,⟨_,hn,fun i y w e1 e2 e3=>?_⟩,fun y c h=>?_,I.LA.fresh (zP _),fun y c h=>?_,fun p hp=>absurd (show p ∈ ([]:List (Addr × Obj)) from hp) (by simp),I.LA.kept keep,?_⟩
 ·exact I.ok.inj y z c (hcl _ (mem_of_lookup h1)) (hcl _ (mem_of_lookup h2))
 ·have hy:scope.names.lookup y=some .cell\/scope.names.lookup y=some .free:=hy
  rcases hy with hy | hy
  ·exact absurd rfl (T.nc _ (mem_of_lookup hy))
  ·obtain ⟨c,hc,_⟩:=look y (mem_of_lookup hy)
   exact ⟨c,hc⟩
 ·have hlen:=I.len
  rcases yS i σ.length with hi | hi
  ·rw [zN hi] at e2
   have hmem:∃ k,(y,k) ∈ scope.names:=by
    rcases e3 with h | h | h <;> exact ⟨_,mem_of_lookup h⟩
   have hfree:=T.cy.hid i y oM e1 hmem;have eX:=T.cy.same i y oM e1 hfree;have kX:=T.cy.free y hfree;obtain ⟨m,hn2,hl⟩:=I.loc;obtain ⟨u2,ru,lk⟩:=hl i y w eX e2 (by rcases kX with h | h;exact .inr (.inl h);exact .inr (.inr h));refine ⟨u2,ru,.inr ⟨.inr (cQ T.cy.nd hfree),?_⟩⟩;rcases lk with ⟨k1,_⟩ | ⟨_,c,hc,z⟩
   ·rcases kX with h | h <;> rw [h] at k1 <;> cases k1
   ·obtain ⟨c2,q1,q2⟩:=look y hfree
    rw [hc] at q2;cases q2;exact ⟨c,q1,z.keeps keep⟩
  ·rw [z7 hi] at e2
   have hi0:i - σ.length=0:=by
    rcases Nat.eq_zero_or_pos (i - σ.length) with z | z
    ·exact z
    ·rw [List.getElem?_eq_none (show [some v].length <= _ from z)] at e2;cases e2
   rw [hi0] at e2;cases e2;have hi1:i=X.N.length:=by omega
   subst hi1;have e1:N'[X.N.length]?=some y:=e1;rw [T.own] at e1;cases e1;exact ⟨u,r,.inl ⟨T.loc,by simp⟩⟩
 ·obtain ⟨w,z⟩:=I.cell y c (hcl _ (mem_of_lookup h))
  exact ⟨w,z.keeps keep⟩
 ·exact I.freeC y c (hcl _ (mem_of_lookup h))
 ·show (σ++[some v]).length=N'.length
  rw [zV,I.len,T.len];rfl
theorem yg (T:uV X N' scope x) (I:Inv X Lu σ H s) (hfm:A.frames=some X.stack) (hh:A.handled=none)
  (hd:A.depth < recursionLimit) (hcl:∀ p ∈ cl,X.env.cells.lookup p.1=some p.2) (hfr:∀ x,(x,NameKind.free) ∈ scope.names->∃ c,(x,c) ∈ cl) (hp:R.plainA params=true) (hps:params.args.map (·.arg)=[x])
  (hf:s.heap.get? f=some (ut X.mg qual params body scope cl (.ref c') ctv)) (hr:s.heap.CodeRec (.ref c') qual)
  (he:∀ s H,PE (qY X N' scope cl f qual (.ref c') A s H) body te) (r:RelV v u) (h:te (σ++[some v]) H Q) :
  wpAny (model X.prog X.w) A (call (.ref f) [u]) (EP X Lu σ Q) E s:=by
 refine wpAny_call (kla_callFunE hd hf rfl T.co T.gen rfl hr ?_);have hb:bindArgs (kla_fn "<lambda>" qual params body scope cl ((X.mg "__name__").getD .none) (.ref c') ctv) ⟨[u],[]⟩=pure [(x,u)]:=by
  have:=R.bind_plain (fd:=kla_fn "<lambda>" qual params body scope cl ((X.mg "__name__").getD .none) (.ref c') ctv) (us:=[u]) hp rfl (by show (params.args.map (·.arg)).Nodup;rw [hps];simp) (by show _=(params.args.map (·.arg)).length;rw [hps];rfl)
  rw [this];show pure ((params.args.map (·.arg)).zip [u])=_;rw [hps];rfl
 rw [hb];refine yG ?_;refine wpAny_newFunctionEnv (around:=none) (fun y hy=>T.nc y hy) (fun y hy=>by rw [zM.mp hy];exact T.loc) (fun h' hn hs=>?_) T.cy.kind;have hs:Heap.SameBut s.heap.objs.size (s.heap.push { cls:=.type "frame",data:=.dict #[] }) h':=hs;have keep:∀ b o,s.heap.get? b=some o->h'.get? b=some o:=fun b o e=>(hs.2 b (zU (yJ e))).trans (zG _ e)
 refine ⟨I.nolimit.keeps keep,kla_codeExpr ?_⟩;have J:=yz (cd:=.ref c') (f:=f) (qual:=qual) (t':=s.toks + [(x,u)].length) T I hfm hh hcl hfr r hn hs;refine yR (he s H [] _ (σ++[some v]) H Q J h) (fun w s' hq0=>?_) fun e s' z=>z.elim
 obtain ⟨y,H',J',ry,q⟩:=hq0;exact I.after ⟨y,H',J'.os,J'.bare,J'.base,J'.LA,ry,q⟩
end
theorem wa (h:hV k v=true):RelV (kV k) v:=by
 cases k with
 | inl i =>
  cases v <;> first | (cases h;done) | skip
  rename_i j t;have e:j=i:=by simpa [hV,Value.isInt] using h
  subst e;exact ⟨t,rfl⟩
 | inr x =>
  cases v <;> first | (cases h;done) | skip
  rename_i y t;have e:y=x:=by simpa [hV,Value.isStrOf] using h
  subst e;exact ⟨t,rfl⟩
theorem B4 {κ:Type}{Lv:List (κ × V)}{vs:List (κ × Value)} (r:KV Lv vs):Lv.map (·.1)=vs.map (·.1):=by
 induction r with
 | nil=>rfl
 | cons h t ih=>simp only [zO];rw [h.1,ih]
def IJ (d:Addr) (o:Obj) (Lv:List (aR × V)):It :=
 ⟨fun i H=>H d=some (.frz o (.dK Lv))/\i < Lv.length,fun i H x H'=>H'=H/\(Lv.map fun p=>kV p.1)[i]?=some x,fun i H=>H d=some (.frz o (.dK Lv))/\Lv.length <= i⟩
theorem qO {ep:Nat} (I:Inv X Lu σ H s) (h:H d=some (.frz o (.dK Lv))) (ho:o.data=.dict es ep) :
  ∃ vs,KV Lv vs/\s.heap.DictAt (bQ X.prog X.w) d vs ep:=by
 obtain ⟨e1,_,_,vs,r,ob,es',ep',e2,c1,c2,c3⟩:=I.LA d _ h;rw [e1] at e2;cases e2;rw [ho] at c2;cases c2;exact ⟨vs,r,o,es,e1,c1,ho,c3⟩
theorem u7 {P:Program}{w:World}{K:Frag}{tg:Expr}{d:Addr}{o:Obj}{Lv:List (aR × V)}{es:Array DictEntry}{ep:Nat} (it:Addr) (hd:o.data=.dict es ep):jk P w K tg (IJ d o Lv) [it] it (fun i h=>h.IsKeyIter it d i Lv.length ep) where
 mem:=by simp
 obj:=fun i h st b hb=>by
  obtain rfl:b=it:=by simpa using hb
  obtain ⟨o,e,c,d⟩:=st;exact ⟨o,e,fun v z=>by rw [d] at z;cases z⟩
 keep:=fun i h h' st k=>let ⟨o,e,r⟩:=st;⟨o,k it (by simp) _ e,r⟩
 item:=by
  intro X hP hw hK hc i Lu s σ H E I hf st hg;subst hP hw hK;obtain ⟨hg,hi⟩:=hg;obtain ⟨vs,r,da⟩:=qO I hg hd;have hl:Lv.length=vs.length:=Paired.length r;obtain ⟨f0,f1,f2,f3,f4,f5⟩:=hf it (by simp);obtain ⟨q,hq⟩:∃ q,vs[i]?=some q:=⟨_,zF oM⟩;have hk:Lv[i]?.map (·.1)=vs[i]?.map (·.1):=by
   rw [<- zR,<- zR,B4 r]
  rw [hl] at st;refine wpAny_pyNext_dict_item st da (k:=q.1) (v:=q.2) hq fun key h' hkey st' sb=>?_
  have I1:Inv X Lu σ H { s with heap:=h' }:=I.turned (t':=s.toks) (fun b o hb e=>(sb.2 b hb).trans e) f0 f1 f3 f4 f5;obtain ⟨o',e,c,dd⟩:=id st';refine ⟨key,rfl,nh (s:={ s with heap:=h' }) e c dd dC ⟨kV q.1,H,I1,wa hkey,⟨rfl,?_⟩,by rw [hl];exact st',fun b hb=>(hf b hb).1⟩⟩;rw [zR];rw [hq] at hk;cases hkv:Lv[i]? with
  | none=>rw [hkv] at hk;cases hk
  | some p=>rw [hkv] at hk;simp at hk;simp [hk]
 done:=by
  intro X hP hw hK hc i Lu s σ H E I hf st hg;subst hP hw hK;obtain ⟨hg,hi⟩:=hg;obtain ⟨vs,r,da⟩:=qO I hg hd;have hl:Lv.length=vs.length:=Paired.length r;obtain ⟨f0,f1,f2,f3,f4,f5⟩:=hf it (by simp);rw [hl] at st;exact wpAny_pyNext_dict_end (I.ok.hd hc) st da (List.getElem?_eq_none oM) fun h' eb=>⟨rfl,I.turned (t':=s.toks) (fun b o hb e=>eb b o hb e) f0 f1 f3 f4 f5⟩
 self:=fun A i s Q E st h=>wpAny_pyIter_keyiter st h
section
variable {X:Cx}{Lu:List (Addr × Obj)}{σ:St}{H:Hp}{s:Shared}{d:Addr}{Lv:List (aR × V)}{o:Obj}
theorem Inv.frzD (I:Inv X Lu σ H s) (h:H d=some (.dK Lv)) (e:s.heap.get? d=some o):Inv X Lu σ (af H d (.frz o (.dK Lv))) { s with toks:=s.toks }:=by
 have ne:∀ b u,H b=some u->(∀ Lv,u ≠ .dK Lv)->b ≠ d:=fun b u q n z=>by rw [z,h] at q;cases q;exact n _ rfl
 refine I.un (h':=s.heap) ⟨fun b o e _ _ _=>e,fun b o e _ _ _=>⟨o.slots,e⟩,fun b o e n _=>by rw [ad (fun z=>by rw [z,h] at n;cases n)];exact n,fun b o e _=>⟨o,e⟩,fun b xs q=>by rw [ad (ne b _ q fun _ z=>nomatch z)];exact q,fun b o u q=>by rw [ad (ne b _ q fun _ z=>nomatch z)];exact q,
  fun b ps q=>⟨#[],by rw [ad (ne b _ q fun _ z=>nomatch z),q];simp⟩⟩ fun b u q=>?_
 have st:∀ b u,H b=some u->ObjOk X.prog X.w (af H d (.frz o (.dK Lv))) s.heap b u:=fun b u q=>(I.LA b u q).stay (fun _ _ _ z=>z) (fun c z=>by rw [ad (ne c _ z fun _ y=>nomatch y)];exact z) fun c xs z=>by rw [ad (ne c _ z fun _ y=>nomatch y)];exact z
 by_cases hb:b=d
 ·subst hb;rw [aq] at q;cases q;exact ⟨e,st _ _ h⟩
 ·rw [ad hb] at q;exact st b u q
theorem Inv.thawD (I:Inv X Lu σ H s) (h:H d=some (.frz o (.dK Lv))) (hn:∀ o u,X.H₀ d ≠ some (.frz o u)):Inv X Lu σ (af H d (.dK Lv)) s:=by
 have ne:∀ b u,H b=some u->(∀ o u',u ≠ .frz o u')->b ≠ d:=fun b u q n z=>by rw [z,h] at q;cases q;exact n _ _ rfl
 have nn:∀ b,H b=none->b ≠ d:=fun b q z=>by rw [z,h] at q;cases q
 have LA:HOk X.prog X.w (af H d (.dK Lv)) s.heap:=fun b u q=>by
  have st:∀ b u,H b=some u->ObjOk X.prog X.w (af H d (.dK Lv)) s.heap b u:=fun b u q=>(I.LA b u q).stay (fun _ _ _ z=>z) (fun c z=>by rw [ad (ne c _ z fun _ _ y=>nomatch y)];exact z) fun c xs z=>by rw [ad (ne c _ z fun _ _ y=>nomatch y)];exact z
  by_cases hb:b=d
  ·subst hb;rw [aq] at q;cases q;exact (st _ _ h).2
  ·rw [ad hb] at q;exact st b u q
 refine ⟨I.ok,I.os,I.bare,⟨I.base.keep,I.base.slot,fun b o e n hx=>by rw [ad (nn b (I.base.free b o e n hx))];exact I.base.free b o e n hx,I.base.there,fun b xs e=>by rw [ad (ne b _ (I.base.tups b xs e) fun _ _ y=>nomatch y)];exact I.base.tups b xs e,
  fun b o u e=>by rw [ad (fun z=>hn o u (by rw [<- z];exact e))];exact I.base.frzs b o u e,fun b ps e=>?_⟩,I.loc,I.cell,by rw [ad (nn _ I.free)];exact I.free,fun x c e=>by rw [ad (nn _ (I.freeC x c e))];exact I.freeC x c e,
  fun p hp=>by obtain ⟨a1,a2,a3⟩:=I.pin p hp;exact ⟨a1,by rw [ad (nn _ a2)];exact a2,a3⟩,LA,I.len⟩
 obtain ⟨more,q⟩:=I.base.tbls b ps e;exact ⟨more,by rw [ad (ne b _ q fun _ _ y=>nomatch y)];exact q⟩
end
section
variable {X:Cx}{tg iter:Expr}{te:TE}
def GY (n0:Hp) (te:TE):TI:=fun σ H R=>te σ H fun x H1=>∃ d Lv,x=.ref d/\H1 d=some (.dK Lv)/\∀ o,(∀ o u,n0 d ≠ some (.frz o u))->R (IJ d o Lv) (af H1 d (.frz o (.dK Lv)))
theorem Bx (hl:PE X iter te):PI X tg iter (GY X.H₀ te):=by
 intro Lu s σ H R I h;refine aA (hl Lu s σ H _ I h) fun v s1 hq0=>?_
 obtain ⟨x,H1,I1,r1,d,Lv,e,hd,q⟩:=hq0;subst e;cases r1;obtain ⟨hz,hsys,vs,rv,ob,es,ep,e1,c1,c2,c3⟩:=I1.LA d _ hd;have hl:Lv.length=vs.length:=Paired.length rv;have hn:∀ o u,X.H₀ d ≠ some (.frz o u):=fun o u z=>by
  have:=I1.base.frzs d o u z
  rw [hd] at this;cases this
 have I2:=I1.frzD hd e1;refine wpAny_pyIter_dict hsys (knd:=bQ X.prog X.w) ⟨ob,es,e1,c1,c2,c3⟩ ?_;have I3:Inv X Lu σ (af H1 d (.frz ob (.dK Lv))) { s1 with heap:=s1.heap.push { cls:=.type "dict_keyiterator",data:=.fields #[.ref d,.int 0 0,.int vs.length 0,.int ep 0] },toks:=s1.toks }:=I2.kept fun b o e=>zG _ e
 refine ⟨s1.heap.objs.size,[s1.heap.objs.size],_,_,_,rfl,I3,u7 (Lv:=Lv) _ c2,⟨_,zY _ rfl,rfl,by rw [hl];rfl⟩,fun b hb=>?_,q ob hn⟩;obtain rfl:b=s1.heap.objs.size:=by simpa using hb
 exact I2.fpOk (zP _) I2.fresh
def pv (n0:Hp) (D:jm):jm:={ nx:=fun σ H=>∃ d o Lv,H d=some (.frz o (.dK Lv))/\(∀ o u,n0 d ≠ some (.frz o u))/\D.nx σ (af H d (.dK Lv)),rt:=fun v H=>∃ d o Lv,H d=some (.frz o (.dK Lv))/\(∀ o u,n0 d ≠ some (.frz o u))/\D.rt v (af H d (.dK Lv)) }
theorem Bo {st:Stmt}{t:TS} (h:PS X st t):PS X st (fun D σ H=>t (pv X.H₀ D) σ H):=by
 intro Lu s σ H D I q;refine aA (h Lu s σ H (pv X.H₀ D) I q) fun f s' hs=>?_
 cases f with
 | next=>obtain ⟨σ',H',J,d,o,Lv,e,n,q⟩:=hs;exact ⟨σ',_,J.thawD e n,q⟩
 | ret u=>obtain ⟨v,σ',H',J,r,d,o,Lv,e,n,q⟩:=hs;exact ⟨v,σ',_,J.thawD e n,r,q⟩
 | brk=>obtain ⟨_,_,_,q⟩:=hs;exact q.elim
 | cont=>obtain ⟨_,_,_,q⟩:=hs;exact q.elim
end
end L2
namespace R
open PySem L2
inductive AV where
 | non | bl (b:Bool) | int (i:Int) | str (x:Str) | ref (k:Nat) | tup (xs:List AV) | fz (xs:List AV)
inductive Ly where
 | lst (xs:List AV) | al (t:AV) | dK (Lv:List (aR × AV)) | dT (Lv:List (List aR × AV)) | ins (c:Str) (fs:List (Str × AV)) | wk (Lv:List (aR × AV))
abbrev aa:=List Ly
abbrev Sl:=List (Option AV)
abbrev Pr:=Addr->Prop
class Lw where
 tb:List (Addr × Pos × Str)
structure Gm where
 K:Frag
 mg:Str->Option Value
def FLk (mg:Gm) (P:Pr) (H:Hp) (a:Addr) (vs:List V):Prop:=(P a/\Rd H a (.lst vs))\/∀ H',aP mg.K H' a vs
mutual
def RA (mg:Gm) (P:Pr) (H:Hp) (φ:List Addr):AV->V->Prop
 | .non,v=>v=.non
 | .bl b,v=>v=.bl b
 | .int i,v=>v=.int i
 | .str x,v=>v=.str x
 | .ref k,v=>∃ a,φ[k]?=some a/\v=.ref a
 | .tup xs,v=>∃ a vs,v=.ref a/\P a/\H a=some (.tup vs)/\Lz mg P H φ xs vs
 | .fz xs,v=>∃ a vs,v=.ref a/\FLk mg P H a vs/\Lz mg P H [] xs vs
def Lz (mg:Gm) (P:Pr) (H:Hp) (φ:List Addr):List AV->List V->Prop
 | [],vs=>vs=[]
 | x::xs,vs=>∃ v ws,vs=v::ws/\RA mg P H φ x v/\Lz mg P H φ xs ws
end
theorem aX:Lz mg P H φ [] []:=by simp only [Lz]
theorem aI (h:RA mg P H φ x v) (t:Lz mg P H φ xs vs):Lz mg P H φ (x::xs) (v::vs):=by simp only [Lz];exact ⟨v,vs,rfl,h,t⟩
structure Frm (P:Pr) (φ:List Addr) (H:Hp) (P':Pr) (φ':List Addr) (H':Hp):Prop where
 ext:∀ a,P a->P' a/\H' a=H a
 new:∃ more,φ'=φ++more/\∀ a ∈ more,H a=none
 keep:∀ a,H a ≠ none->a ∉ φ->(∀ ps,H a ≠ some (.tbl ps))->H' a=H a
 pn:∀ a,P' a->P a\/H a=none\/a ∈ φ
 sm:∀ a,H a ≠ none->H' a ≠ none
 fz:∀ a o u,H a=some (.frz o u)->H' a=some (.frz o u)
theorem Frm.refl:Frm P φ H P φ H:=⟨fun _ h=>⟨h,rfl⟩,⟨[],by simp,by simp⟩,fun _ _ _ _=>rfl,fun _ h=>.inl h,fun _ h=>h,fun _ _ _ h=>h⟩
theorem Frm.trans {P P1 P2:Pr}{φ φ1 φ2:List Addr}{H H1 H2:Hp} (a:Frm P φ H P1 φ1 H1) (b:Frm P1 φ1 H1 P2 φ2 H2):Frm P φ H P2 φ2 H2:=by
 obtain ⟨m1,e1,n1⟩:=a.new;obtain ⟨m2,e2,n2⟩:=b.new;have nn:∀ x,H1 x=none->H x=none:=fun x h=>by
  cases e:H x with
  | none=>rfl
  | some o=>exact absurd h (a.sm x (by rw [e];exact fun z=>nomatch z))
 refine ⟨fun x h=>?_,⟨m1++m2,by rw [e2,e1,yN],fun x h=>?_⟩,fun x h1 h2 h3=>?_,fun x h=>?_,fun x h=>b.sm x (a.sm x h),fun x o u h=>b.fz x o u (a.fz x o u h)⟩
 ·obtain ⟨h1,e⟩:=a.ext x h
  obtain ⟨h2,e'⟩:=b.ext x h1;exact ⟨h2,e'.trans e⟩
 ·rcases zZ.mp h with h | h
  ·exact n1 x h
  ·exact nn x (n2 x h)
 ·have e:=a.keep x h1 h2 h3
  refine (b.keep x (by rw [e];exact h1) (fun z=>?_) (by rw [e];exact h3)).trans e;rw [e1] at z;rcases zZ.mp z with z | z
  ·exact h2 z
  ·exact h1 (n1 x z)
 ·rcases b.pn x h with h | h | h
  ·exact a.pn x h
  ·exact .inr (.inl (nn x h))
  ·rw [e1] at h
   rcases zZ.mp h with h | h
   ·exact .inr (.inr h)
   ·exact .inr (.inl (n1 x h))
theorem Rd.at (h:Rd H a u) (e:H' a=H a):Rd H' a u:=by
 rcases h with h | ⟨o,h⟩
 ·exact .inl (e.trans h)
 ·exact .inr ⟨o,e.trans h⟩
theorem FLk.mono {mg:Gm}{P P':Pr}{H H':Hp}{a:Addr}{vs:List V} (h:FLk mg P H a vs) (x:∀ a,P a->P' a/\H' a=H a):FLk mg P' H' a vs:=by
 rcases h with ⟨p,r⟩ | h
 ·exact .inl ⟨(x a p).1,Rd.at r (x a p).2⟩
 ·exact .inr h
theorem FLk.sq (h:FLk mg P H a vs):aP mg.K H a vs:=by
 rcases h with ⟨_,r⟩ | h
 ·exact .inl r
 ·exact h H
section
variable {mg:Gm}{P P':Pr}{H H':Hp}{φ φ':List Addr}
mutual
theorem RA.mono' (x:∀ a,P a->P' a/\H' a=H a):∀ {t:AV}{v:V}{φ φ':List Addr},(∀ (k:Nat) a,φ[k]?=some a->φ'[k]?=some a)->RA mg P H φ t v->RA mg P' H' φ' t v
 | .non,_,_,_,_,h=>by simp only [RA] at h ⊢;exact h
 | .bl _,_,_,_,_,h=>by simp only [RA] at h ⊢;exact h
 | .int _,_,_,_,_,h=>by simp only [RA] at h ⊢;exact h
 | .str _,_,_,_,_,h=>by simp only [RA] at h ⊢;exact h
 | .ref k,_,_,_,hφ,h=>by simp only [RA] at h ⊢;obtain ⟨a,e,r⟩:=h;exact ⟨a,hφ k a e,r⟩
 | .tup xs,_,_,_,hφ,h=>by
  simp only [RA] at h ⊢;obtain ⟨a,vs,r,p,e,q⟩:=h;exact ⟨a,vs,r,(x a p).1,(x a p).2.trans e,Lz.mono' x hφ q⟩
 | .fz xs,_,_,_,hφ,h=>by
  simp only [RA] at h ⊢;obtain ⟨a,vs,r,e,q⟩:=h;exact ⟨a,vs,r,e.mono x,Lz.mono' x (fun _ _ z=>z) q⟩
theorem Lz.mono' (x:∀ a,P a->P' a/\H' a=H a):∀ {ts:List AV}{vs:List V}{φ φ':List Addr},(∀ (k:Nat) a,φ[k]?=some a->φ'[k]?=some a)->Lz mg P H φ ts vs->Lz mg P' H' φ' ts vs
 | [],_,_,_,_,h=>by simp only [Lz] at h ⊢;exact h
 | t::ts,_,_,_,hφ,h=>by
  simp only [Lz] at h ⊢;obtain ⟨v,ws,e,r,q⟩:=h;exact ⟨v,ws,e,RA.mono' x hφ r,Lz.mono' x hφ q⟩
end
theorem RA.mono {t:AV}{v:V} (h:RA mg P H φ t v) (x:∀ a,P a->P' a/\H' a=H a) (hφ:∀ (k:Nat) a,φ[k]?=some a->φ'[k]?=some a):RA mg P' H' φ' t v:=RA.mono' x hφ h
theorem Lz.mono {ts:List AV}{vs:List V} (h:Lz mg P H φ ts vs) (x:∀ a,P a->P' a/\H' a=H a) (hφ:∀ (k:Nat) a,φ[k]?=some a->φ'[k]?=some a):Lz mg P' H' φ' ts vs:=Lz.mono' x hφ h
theorem Frm.ix (f:Frm P φ H P' φ' H'):∀ (k:Nat) a,φ[k]?=some a->φ'[k]?=some a:=fun k a e=>by
 obtain ⟨m,rfl,_⟩:=f.new;rw [zN (zB.mp e).1];exact e
theorem RA.frm (h:RA mg P H φ t v) (f:Frm P φ H P' φ' H'):RA mg P' H' φ' t v:=h.mono f.ext f.ix
theorem Lz.frm (h:Lz mg P H φ ts vs) (f:Frm P φ H P' φ' H'):Lz mg P' H' φ' ts vs:=h.mono f.ext f.ix
theorem RA.lift (h:RA mg P H [] t v):RA mg P H φ t v:=h.mono (fun _ h=>⟨h,rfl⟩) fun k a e=>by simp at e
theorem Lz.lift (h:Lz mg P H [] ts vs):Lz mg P H φ ts vs:=h.mono (fun _ h=>⟨h,rfl⟩) fun k a e=>by simp at e
theorem Lz.length:∀ {ts:List AV}{vs:List V},Lz mg P H φ ts vs->ts.length=vs.length
 | [],_,h=>by simp only [Lz] at h;subst h;rfl
 | t::ts,_,h=>by
  simp only [Lz] at h;obtain ⟨v,ws,rfl,_,q⟩:=h;rw [yV,yV,Lz.length q]
theorem Lz.get:∀ {ts:List AV}{vs:List V}{i:Nat}{t:AV},Lz mg P H φ ts vs->ts[i]?=some t->∃ v,vs[i]?=some v/\RA mg P H φ t v
 | [],_,_,_,_,e=>by simp at e
 | x::ts,_,i,t,h,e=>by
  simp only [Lz] at h;obtain ⟨v,ws,rfl,r,q⟩:=h;cases i with
  | zero=>simp at e;subst e;exact ⟨v,rfl,r⟩
  | succ i=>simpa using Lz.get (i:=i) q (by simpa using e)
theorem Lz.app:∀ {xs ys:List AV}{vs ws:List V},Lz mg P H φ xs vs->Lz mg P H φ ys ws->Lz mg P H φ (xs++ys) (vs++ws)
 | [],_,_,_,h,g=>by simp only [Lz] at h;subst h;exact g
 | x::xs,_,_,_,h,g=>by
  simp only [Lz] at h;obtain ⟨v,ws,rfl,r,q⟩:=h;exact aI r (Lz.app q g)
theorem Lz.take:∀ {xs:List AV}{vs:List V} (n:Nat),Lz mg P H φ xs vs->Lz mg P H φ (xs.take n) (vs.take n)
 | xs,vs,0,_=>by rw [List.take_zero,List.take_zero];exact aX
 | [],vs,n + 1,h=>by simp only [Lz] at h;subst h;exact aX
 | x::xs,vs,n + 1,h=>by
  simp only [Lz] at h;obtain ⟨v,ws,rfl,r,q⟩:=h;exact aI r (Lz.take n q)
theorem Lz.drop:∀ {xs:List AV}{vs:List V} (n:Nat),Lz mg P H φ xs vs->Lz mg P H φ (xs.drop n) (vs.drop n)
 | xs,vs,0,h=>h
 | [],vs,n + 1,h=>by simp only [Lz] at h;subst h;exact aX
 | x::xs,vs,n + 1,h=>by
  simp only [Lz] at h;obtain ⟨v,ws,rfl,r,q⟩:=h;exact Lz.drop n q
theorem Lz.set (r:RA mg P H φ x v):∀ {xs:List AV}{vs:List V} (n:Nat),Lz mg P H φ xs vs->Lz mg P H φ (xs.set n x) (vs.set n v)
 | [],vs,_,h=>by simp only [Lz] at h;subst h;exact aX
 | y::xs,vs,n,h=>by
  simp only [Lz] at h;obtain ⟨w,ws,rfl,q,t⟩:=h;cases n with
  | zero=>exact aI r t
  | succ n=>exact aI q (Lz.set r n t)
theorem Lz.ints:∀ {ns:List Int}{vs:List V},Lz mg P H φ (ns.map .int) vs->vs=ns.map .int
 | [],_,h=>by simpa only [List.map_nil,Lz] using h
 | n::ns,_,h=>by
  simp only [zO,Lz,RA] at h;obtain ⟨v,ws,rfl,rfl,q⟩:=h;rw [Lz.ints q];rfl
theorem Lz.of_ints:∀ {ns:List Int},Lz mg P H φ (ns.map .int) (ns.map V.int)
 | []=>aX
 | n::ns=>aI (by simp only [RA]) Lz.of_ints
end
def KVR (mg:Gm) (P:Pr) (H:Hp) (φ:List Addr) {κ:Type} (Lv:List (κ × AV)) (ws:List (κ × V)):Prop:=Lv.map (·.1)=ws.map (·.1)/\Lz mg P H φ (Lv.map (·.2)) (ws.map (·.2))
def CellR (mg:Gm) (P:Pr) (H:Hp) (φ:List Addr) (a:Addr):Ly->Prop
 | .lst xs=>¬ P a/\∃ vs,H a=some (.lst vs)/\Lz mg P H φ xs vs
 | .al t=>P a/\RA mg P H [] t (.ref a)
 | .dK Lv=>¬ P a/\∃ ws,H a=some (.dK ws)/\KVR mg P H φ Lv ws
 | .dT Lv=>¬ P a/\∃ ws,H a=some (.dT ws)/\KVR mg P H φ Lv ws
 | .ins c fs=>¬ P a/\∃ C dx ws,mg.mg c=some (.ref C)/\H a=some (.ins C dx ws)/\KVR mg P H φ fs ws
 | .wk Lv=>¬ P a/\∃ o ws,H a=some (.frz o (.dK ws))/\KVR mg P H φ Lv ws
def FA (o:Option HO):Prop:=(∀ ps,o ≠ some (.tbl ps))/\∀ f,o ≠ some (.ext f)
theorem _root_.L2.fy.new (h:fy H P pos q) (hp:H p=none):fy (af H p o) P pos q:=by
 obtain ⟨ps,e,t,c⟩:=h;refine ⟨ps,by rw [ad (aH e hp)];exact e,t,?_⟩;rcases c with c | ⟨c',c1,c2⟩
 ·exact .inl c
 ·exact .inr ⟨c',c1,by rw [ad (aH c2 hp)];exact c2⟩
theorem _root_.L2.fy.ne (h:fy H P pos q) (hp:H p=none):P ≠ p:=by
 obtain ⟨ps,e,_⟩:=h;exact aH e hp
theorem _root_.L2.fy.wr (h:fy H P pos q) (hp:FA (H p)):fy (af H p o) P pos q:=by
 obtain ⟨ps,e,t,c⟩:=h;refine ⟨ps,by rw [ad fun z=>hp.1 ps (by rw [<- z];exact e)];exact e,t,?_⟩;rcases c with c | ⟨c',c1,c2⟩
 ·exact .inl c
 ·exact .inr ⟨c',c1,by rw [ad fun z=>hp.2 _ (by rw [<- z];exact c2)];exact c2⟩
structure Sim [Lw] (mg:Gm) (P:Pr) (φ:List Addr) (st:aa) (H:Hp):Prop where
 len:φ.length=st.length
 nd:φ.Nodup
 dom:∀ a,P a->H a ≠ none
 cd:∀ a ∈ φ,H a ≠ none
 cell:∀ (k:Nat) c a,st[k]?=some c->φ[k]?=some a->CellR mg P H φ a c
 tb:∀ t ∈ Lw.tb,fy H t.1 t.2.1 t.2.2/\¬ P t.1
section
variable {mg:Gm}{P P':Pr}{H H':Hp}{φ φ':List Addr}{st st':aa}{a:Addr}
theorem KVR.mono {κ:Type}{Lv:List (κ × AV)}{ws:List (κ × V)} (h:KVR mg P H φ Lv ws) (x:∀ a,P a->P' a/\H' a=H a) (hφ:∀ (k:Nat) a,φ[k]?=some a->φ'[k]?=some a):KVR mg P' H' φ' Lv ws:=⟨h.1,h.2.mono x hφ⟩
theorem CellR.mono {c:Ly} (h:CellR mg P H φ a c) (x:∀ a,P a->P' a/\H' a=H a) (hφ:∀ (k:Nat) a,φ[k]?=some a->φ'[k]?=some a) (e:H' a=H a) (np:¬ P a->¬ P' a):CellR mg P' H' φ' a c:=by
 cases c with
 | lst xs=>obtain ⟨n,vs,r,q⟩:=h;exact ⟨np n,vs,e.trans r,q.mono x hφ⟩
 | al t=>exact ⟨(x a h.1).1,h.2.mono x fun _ _ z=>z⟩
 | dK Lv=>obtain ⟨n,vs,r,q⟩:=h;exact ⟨np n,vs,e.trans r,q.mono x hφ⟩
 | dT Lv=>obtain ⟨n,vs,r,q⟩:=h;exact ⟨np n,vs,e.trans r,q.mono x hφ⟩
 | ins c fs=>obtain ⟨n,C,dx,ws,m,r,q⟩:=h;exact ⟨np n,C,dx,ws,m,e.trans r,q.mono x hφ⟩
 | wk Lv=>obtain ⟨n,o,ws,r,q⟩:=h;exact ⟨np n,o,ws,e.trans r,q.mono x hφ⟩
theorem Sim.at [Lw] (s:Sim mg P φ st H) {k:Nat} (e:st[k]?=some c):∃ a,φ[k]?=some a/\CellR mg P H φ a c:=by
 have hk:k < φ.length:=by rw [s.len];exact (zB.mp e).1
 exact ⟨φ[k],zF hk,s.cell k c _ e (zF hk)⟩
theorem Sim.notb [Lw] (s:Sim mg P φ st H) {k:Nat} (ea:φ[k]?=some a) (na:¬ P a):FA (H a):=by
 obtain ⟨c,hc⟩:∃ c,st[k]?=some c:=⟨_,zF (by rw [<- s.len];exact (zB.mp ea).1)⟩;have h:=s.cell k c a hc ea;cases c with
 | lst xs=>obtain ⟨n,vs,r,q⟩:=h;rw [r];exact ⟨fun _ z=>(nomatch z),fun _ z=>(nomatch z)⟩
 | al t=>exact absurd h.1 na
 | dK Lv=>obtain ⟨n,vs,r,q⟩:=h;rw [r];exact ⟨fun _ z=>(nomatch z),fun _ z=>(nomatch z)⟩
 | dT Lv=>obtain ⟨n,vs,r,q⟩:=h;rw [r];exact ⟨fun _ z=>(nomatch z),fun _ z=>(nomatch z)⟩
 | ins c fs=>obtain ⟨n,C,dx,ws,m,r,q⟩:=h;rw [r];exact ⟨fun _ z=>(nomatch z),fun _ z=>(nomatch z)⟩
 | wk Lv=>obtain ⟨n,o,ws,r,q⟩:=h;rw [r];exact ⟨fun _ z=>(nomatch z),fun _ z=>(nomatch z)⟩
theorem Sim.tnc [Lw] (s:Sim mg P φ st H) (ht:t ∈ Lw.tb):t.1 ∉ φ:=fun h=>by
 obtain ⟨j,hj⟩:=z9 h;obtain ⟨ps,e,_⟩:=(s.tb t ht).1;exact (s.notb hj (s.tb t ht).2).1 ps e
theorem Sim.okeep [Lw] (s:Sim mg P φ st H) (f:Frm P φ H P' φ' H') (h:H c=some (fG c q)):H' c=some (fG c q):=by
 by_cases hP:P c
 ·exact (f.ext c hP).2.trans h
 ·refine (f.keep c (by rw [h];exact fun z=>nomatch z) (fun z=>?_) fun ps z=>by rw [h] at z;cases z).trans h
  obtain ⟨j,hj⟩:=z9 z;exact (s.notb hj hP).2 _ h
theorem Sim.ckeep [Lw] (s:Sim mg P φ st H) (x:∀ a,P a->H' a=H a) (k:∀ a,H a ≠ none->(∀ ps,H a ≠ some (.tbl ps))->H' a=H a):∀ a ∈ φ,H' a=H a:=fun a h=>by
 by_cases hP:P a
 ·exact x a hP
 ·obtain ⟨j,hj⟩:=z9 h
  exact k a (s.cd a h) (s.notb hj hP).1
theorem Sim.stay [Lw] (s:Sim mg P φ st H) (x:∀ a,P a->P' a/\H' a=H a) (hc:∀ a ∈ φ,H' a=H a) (np:∀ a ∈ φ,¬ P a->¬ P' a) (dm:∀ a,P' a->H' a ≠ none) (tb:∀ t ∈ Lw.tb,fy H' t.1 t.2.1 t.2.2/\¬ P' t.1):Sim mg P' φ st H' :=
 ⟨s.len,s.nd,dm,fun a h=>by rw [hc a h];exact s.cd a h,fun k c a e1 e2=>(s.cell k c a e1 e2).mono x (fun _ _ z=>z) (hc a (zW e2)) (np a (zW e2)),tb⟩
theorem Sim.nil [Lw] (dm:∀ a,P a->H a ≠ none) (tb:∀ t ∈ Lw.tb,fy H t.1 t.2.1 t.2.2/\¬ P t.1):Sim mg P [] [] H:=⟨rfl,List.nodup_nil,dm,fun _ h=>by simp at h,fun k c a e _=>by simp at e,tb⟩
theorem kF [Lw] (s:Sim mg P φ st H) (hp:H p=none):Frm P φ H (fun a=>P a\/a=p) φ (af H p o)/\Sim mg (fun a=>P a\/a=p) φ st (af H p o):=by
 have ne:∀ a,H a ≠ none->a ≠ p:=fun a h e=>h (by rw [e];exact hp)
 have f:Frm P φ H (fun a=>P a\/a=p) φ (af H p o):=by
  refine ⟨fun a h=>⟨.inl h,ad (ne a (s.dom a h))⟩,⟨[],by simp,by simp⟩,fun a h _ _=>ad (ne a h),fun a h=>?_,fun a h=>by rw [ad (ne a h)];exact h,fun a o u h=>by rw [ad (aH h hp)];exact h⟩;rcases h with h | h
  ·exact .inl h
  ·exact .inr (.inl (by rw [h];exact hp))
 refine ⟨f,s.stay f.ext (fun a h=>ad (ne a (s.cd a h))) (fun a h n z=>?_) (fun a h=>?_) fun t ht=>⟨(s.tb t ht).1.new hp,fun z=>z.elim (s.tb t ht).2 (fun e=>(s.tb t ht).1.ne hp e)⟩⟩
 ·rcases z with z | z
  ·exact n z
  ·exact ne a (s.cd a h) z
 ·rcases h with h | h
  ·rw [ad (ne a (s.dom a h))];exact s.dom a h
  ·rw [h,aq];exact fun z=>nomatch z
theorem mv [Lw] (s:Sim mg P φ st H) (hp:H p=none) (hc:CellR mg P (af H p o) (φ++[p]) p c):Frm P φ H P (φ++[p]) (af H p o)/\Sim mg P (φ++[p]) (st++[c]) (af H p o):=by
 have ne:∀ a,H a ≠ none->a ≠ p:=fun a h e=>h (by rw [e];exact hp)
 have ex:∀ a,P a->P a/\af H p o a=H a:=fun a h=>⟨h,ad (ne a (s.dom a h))⟩
 have ix:∀ (k:Nat) a,φ[k]?=some a->(φ++[p])[k]?=some a:=fun k a e=>by rw [zN (zB.mp e).1];exact e
 have sm:∀ a,H a ≠ none->af H p o a ≠ none:=fun a h=>by rw [ad (ne a h)];exact h
 refine ⟨⟨ex,⟨[p],rfl,fun a h=>by rw [zM.mp h];exact hp⟩,fun a h _ _=>ad (ne a h),fun a h=>.inl h,sm,fun a o u h=>by rw [ad (aH h hp)];exact h⟩,?_,?_,fun a h=>sm a (s.dom a h),fun a h=>?_,fun k d a e1 e2=>?_,fun t ht=>⟨(s.tb t ht).1.new hp,(s.tb t ht).2⟩⟩
 ·rw [zV,zV,s.len];rfl
 ·exact List.nodup_append.mpr ⟨s.nd,(by simp),fun a h b hb e=>ne a (s.cd a h) (by rw [e];exact zM.mp hb)⟩
 ·rcases zZ.mp h with h | h
  ·exact sm a (s.cd a h)
  ·rw [zM.mp h,aq];exact fun z=>nomatch z
 ·by_cases hk:k < st.length
  ·rw [zN hk] at e1
   rw [zN (by rw [s.len];exact hk)] at e2;exact (s.cell k d a e1 e2).mono ex ix (ad (ne a (s.cd a (zW e2)))) fun z=>z
  ·have hk':k=st.length:=by
    have:=(zB.mp e1).1
    rw [zV] at this;simp at this;omega
   subst hk';simp at e1;rw [<- s.len] at e2;simp at e2;subst e1;subst e2;exact hc
theorem ia [Lw] {k:Nat} (s:Sim mg P φ st H) (ea:φ[k]?=some a) (na:¬ P a) (hc:CellR mg P (af H a o) φ a c) (nz:∀ o u,H a ≠ some (.frz o u)):Frm P φ H P φ (af H a o)/\Sim mg P φ (st.set k c) (af H a o):=by
 have hm:a ∈ φ:=zW ea;have ne:∀ b,P b->b ≠ a:=fun b h e=>na (by rw [<- e];exact h)
 have sm:∀ b,H b ≠ none->af H a o b ≠ none:=fun b h=>by
  by_cases e:b=a
  ·rw [e,aq];exact fun z=>nomatch z
  ·rw [ad e];exact h
 have ex:∀ b,P b->P b/\af H a o b=H b:=fun b h=>⟨h,ad (ne b h)⟩
 refine ⟨⟨ex,⟨[],by simp,by simp⟩,fun b _ h _=>ad fun e=>h (by rw [e];exact hm),fun b h=>.inl h,sm,fun b o u h=>by rw [ad (fun e=>nz o u (by rw [<- e];exact h))];exact h⟩,by rw [List.length_set];exact s.len,s.nd,fun b h=>sm b (s.dom b h),fun b h=>sm b (s.cd b h),fun j d b e1 e2=>?_,fun t ht=>⟨(s.tb t ht).1.wr (s.notb ea na),(s.tb t ht).2⟩⟩;by_cases hj:j=k
 ·subst hj
  rw [ea] at e2;cases e2;rw [List.getElem?_set_self (by rw [<- s.len];exact (zB.mp ea).1)] at e1;cases e1;exact hc
 ·rw [List.getElem?_set_ne (Ne.symm hj)] at e1
  have hb:b ≠ a:=fun e=>hj (by
   subst e;exact nodup_ix' s.nd e2 ea)
  exact (s.cell j d b e1 e2).mono ex (fun _ _ z=>z) (ad hb) fun z=>z
where
 nodup_ix' {l:List Addr} (hN:l.Nodup) {i j:Nat}{x:Addr} (a:l[i]?=some x) (b:l[j]?=some x):i=j:=by
  obtain ⟨h1,e1⟩:=zB.mp a;obtain ⟨h2,e2⟩:=zB.mp b;exact (List.getElem_inj hN).mp (e1.trans e2.symm)
end
end R
namespace R
open PySem PySem.Spec PyProof.Rows L2
open DD (PE_imp PT_imp PA_imp PS_imp PSs_imp OpR_imp PW_imp PG_imp)
abbrev St:=L2.St
abbrev _root_.L2.Cx.gm (X:Cx):Gm:=⟨X.K,X.mg⟩
def KG [Lw] {α β:Type} (mg:Gm) (Rl:Gm->Pr->Hp->List Addr->α->β->Prop) (P:Pr) (φ:List Addr) (H:Hp) (r:Option (α × aa)) (Q:β->Hp->Prop):Prop :=
 ∃ a st',r=some (a,st')/\∀ P' φ' H' b,Frm P φ H P' φ' H'->Sim mg P' φ' st' H'->Rl mg P' H' φ' a b->Q b H'
def RB {α:Type} (_:Gm) (_:Pr) (_:Hp) (_:List Addr) (a b:α):Prop:=a=b
section
variable {α β γ δ:Type}{mg:Gm}{Ra:Gm->Pr->Hp->List Addr->α->β->Prop}{Rc:Gm->Pr->Hp->List Addr->γ->δ->Prop}{P:Pr}{φ:List Addr}{H:Hp}
theorem KG.bind [Lw] {m:Option (α × aa)}{k:α × aa->Option (γ × aa)}{Q:δ->Hp->Prop} (h:KG mg Rc P φ H (m.bind k) Q) :
  KG mg Ra P φ H m fun b H1=>∃ P1 φ1 st1 a,Frm P φ H P1 φ1 H1/\Sim mg P1 φ1 st1 H1/\Ra mg P1 H1 φ1 a b/\KG mg Rc P1 φ1 H1 (k (a,st1)) Q:=by
 obtain ⟨c,st',e,q⟩:=h;cases m with
 | none=>cases e
 | some p =>
  obtain ⟨a,st1⟩:=p;refine ⟨a,st1,rfl,fun P1 φ1 H1 b f s r=>⟨P1,φ1,st1,a,f,s,r,c,st',e,fun P' φ' H' d f' s' r'=>q P' φ' H' d (f.trans f') s' r'⟩⟩
theorem KG.pure [Lw] {a:α}{st:aa}{Q:β->Hp->Prop}{b:β} (h:KG mg Ra P φ H (some (a,st)) Q) (s:Sim mg P φ st H) (r:Ra mg P H φ a b):Q b H:=by
 obtain ⟨_,_,e,q⟩:=h;cases e;exact q P φ H b Frm.refl s r
theorem KG.map [Lw] {m:Option α}{st:aa}{Q:β->Hp->Prop} (h:KG mg Ra P φ H (m.map fun a=>(a,st)) Q):∃ a,m=some a/\KG mg Ra P φ H (some (a,st)) Q:=by
 obtain ⟨b,st',e,q⟩:=h;cases m with
 | none=>cases e
 | some a=>exact ⟨a,rfl,b,st',e,q⟩
end
def LG (mg:Gm) (P:Pr) (H:Hp) (φ:List Addr) (sl:Sl) (σ:St):Prop:=sl.length=σ.length/\∀ (i:Nat) v,sl[i]?=some (some v)->∃ w,σ[i]?=some (some w)/\RA mg P H φ v w
section
variable {mg:Gm}{P P':Pr}{H H':Hp}{φ φ':List Addr}{sl:Sl}{σ:St}
theorem LG.frm (h:LG mg P H φ sl σ) (f:Frm P φ H P' φ' H'):LG mg P' H' φ' sl σ:=⟨h.1,fun i v e=>let ⟨w,e',r⟩:=h.2 i v e;⟨w,e',r.frm f⟩⟩
theorem LG.set (h:LG mg P H φ sl σ) (r:RA mg P H φ v w) (i:Nat):LG mg P H φ (sl.set i (some v)) (σ.set i (some w)):=by
 refine ⟨by rw [List.length_set,List.length_set];exact h.1,fun j u e=>?_⟩;by_cases hj:i=j
 ·subst hj
  by_cases hi:i < sl.length
  ·rw [List.getElem?_set_self hi] at e
   cases e;exact ⟨w,List.getElem?_set_self (by rw [<- h.1];exact hi),r⟩
  ·rw [List.getElem?_eq_none (by rw [List.length_set];omega)] at e;cases e
 ·rw [List.getElem?_set_ne hj] at e
  rw [List.getElem?_set_ne hj];exact h.2 j u e
end
abbrev EF:=Sl->aa->Option (AV × aa)
abbrev TF:=Sl->aa->Option (Bool × aa)
abbrev AF:=Sl->aa->Option (List AV × aa)
def rE [Lw] (mg:Gm) (f:EF):TE:=fun σ H Q=>∃ P φ sl st,LG mg P H φ sl σ/\Sim mg P φ st H/\KG mg RA P φ H (f sl st) Q
def rT [Lw] (mg:Gm) (f:TF):TT:=fun σ H Q=>∃ P φ sl st,LG mg P H φ sl σ/\Sim mg P φ st H/\KG mg RB P φ H (f sl st) Q
def rA [Lw] (mg:Gm) (f:AF):TA:=fun σ H Q=>∃ P φ sl st,LG mg P H φ sl σ/\Sim mg P φ st H/\KG mg Lz P φ H (f sl st) Q
def QE [Lw] (X:Cx) (e:Expr) (f:EF):Prop:=PE X e (rE X.gm f)
def QT [Lw] (X:Cx) (e:Expr) (f:TF):Prop:=PT X e (rT X.gm f)
def QW [Lw] (X:Cx) (e:Expr) (f:TF):Prop:=PW X e (rT X.gm f)
def QA [Lw] (X:Cx) (es:List Expr) (f:AF):Prop:=PA X es (rA X.gm f)
def aV (i:Nat):EF:=fun sl st=>match sl[i]? with
 | some (some v)=>some (v,st)
 | _=>none
def aC (v:AV):EF:=fun _ st=>some (v,st)
def dR:AF:=fun _ st=>some ([],st)
def de (f:EF) (g:AF):AF:=fun sl st=>(f sl st).bind fun p=>(g sl p.2).bind fun q=>some (p.1::q.1,q.2)
noncomputable def mL:AV->Option V
 | .non=>some .non
 | .bl b=>some (.bl b)
 | .int i=>some (.int i)
 | .str x=>some (.str x)
 | _=>none
theorem RA.sc (h:mL v=some w):RA mg P H φ v w:=by
 cases v <;> simp only [mL] at h <;> cases h <;> simp only [RA]
section
variable {X:Cx}{e:Expr}{es:List Expr}{pos:Pos}
theorem Df [Lw] {i:Nat} (hN:X.N[i]?=some x) (hv:wL X.env.scope x) (hd:(x == ("__debug__":Str))=false) (hcd:(x == ("__classdict__":Str))=false):QE X (.Name x pos) (aV i) :=
 PE_imp (Dz hN hv hd hcd) fun σ H Q hq0=>by
  obtain ⟨P,φ,sl,st,r,s,k⟩:=hq0;unfold aV at k;cases h:sl[i]? with
  | none=>rw [h] at k;obtain ⟨_,_,e,_⟩:=k;cases e
  | some o =>
   cases o with
   | none=>rw [h] at k;obtain ⟨_,_,e,_⟩:=k;cases e
   | some v =>
    rw [h] at k;obtain ⟨w,e,ra⟩:=r.2 i v h;exact ⟨w,e,k.pure s ra⟩
theorem qc [Lw] (hw:mL v=some w) (h:PE X e t) (ht:∀ σ H Q,Q w H->t σ H Q):QE X e (aC v) :=
 PE_imp h fun σ H Q ⟨P,φ,sl,st,r,s,k⟩=>ht σ H Q (k.pure s (RA.sc hw))
theorem d7 [Lw]:QA X [] dR:=PA_imp qf fun σ H Q ⟨P,φ,sl,st,r,s,k⟩=>k.pure s aX
theorem bZ [Lw] (ha:QE X e f) (hr:QA X es g) (hs:starEach (e::es) X.env=(false,eval e X.env)::starEach es X.env):QA X (e::es) (de f g) :=
 PA_imp (ly ha hr hs) fun σ H Q ⟨P,φ,sl,st,r,s,k⟩=>⟨P,φ,sl,st,r,s,by
  obtain ⟨a,st',e1,q⟩:=k.bind (Ra:=RA);refine ⟨a,st',e1,fun P1 φ1 H1 b f1 s1 r1=>?_⟩;obtain ⟨P2,φ2,st2,a2,f2,s2,r2,k2⟩:=q P1 φ1 H1 b f1 s1 r1;refine ⟨P2,φ2,sl,st2,r.frm f2,s2,?_⟩;obtain ⟨xs,st3,e3,q3⟩:=k2.bind (Ra:=Lz);refine ⟨xs,st3,e3,fun P4 φ4 H4 bs f4 s4 r4=>?_⟩;obtain ⟨P5,φ5,st5,a5,f5,s5,r5,k5⟩:=q3 P4 φ4 H4 bs f4 s4 r4;exact k5.pure s5 (aI (r2.frm f5) r5)⟩
end
def a2 (f g:EF) (k:AV->AV->aa->Option (AV × aa)):EF:=fun sl st=>(f sl st).bind fun p=>(g sl p.2).bind fun q=>k p.1 q.1 q.2
def a1 (f:EF) (k:AV->aa->Option (AV × aa)):EF:=fun sl st=>(f sl st).bind fun p=>k p.1 p.2
def r2 [Lw] (mg:Gm) (k:AV->AV->aa->Option (AV × aa)):R2:=fun v w H Q=>∃ P φ st x y,Sim mg P φ st H/\RA mg P H φ x v/\RA mg P H φ y w/\KG mg RA P φ H (k x y st) Q
def r1 [Lw] (mg:Gm) (k:AV->aa->Option (AV × aa)):V->Hp->VK->Prop:=fun v H Q=>∃ P φ st x,Sim mg P φ st H/\RA mg P H φ x v/\KG mg RA P φ H (k x st) Q
section
variable {mg:Gm}{k:AV->AV->aa->Option (AV × aa)}{k1:AV->aa->Option (AV × aa)}{f g:EF}
theorem uT [Lw] (q:rE mg (a2 f g k) σ H Q):vc (r2 mg k) (rE mg f) (rE mg g) σ H Q:=by
 obtain ⟨P,φ,sl,st,rs,s,kk⟩:=q;refine ⟨P,φ,sl,st,rs,s,?_⟩;obtain ⟨a,st',e1,q⟩:=kk.bind (Ra:=RA);refine ⟨a,st',e1,fun P1 φ1 H1 b f1 s1 r1=>?_⟩;obtain ⟨P2,φ2,st2,x,f2,s2,r2,k2⟩:=q P1 φ1 H1 b f1 s1 r1;refine ⟨P2,φ2,sl,st2,rs.frm f2,s2,?_⟩;obtain ⟨a',st3,e3,q3⟩:=k2.bind (Ra:=RA);refine ⟨a',st3,e3,fun P4 φ4 H4 b' f4 s4 r4=>?_⟩;obtain ⟨P5,φ5,st5,y,f5,s5,r5,k5⟩:=q3 P4 φ4 H4 b' f4 s4 r4;exact ⟨P5,φ5,st5,x,y,s5,r2.frm f5,r5,k5⟩
theorem JZ [Lw] (q:rE mg (a1 f k1) σ H Q):HI (r1 mg k1) (rE mg f) σ H Q:=by
 obtain ⟨P,φ,sl,st,rs,s,kk⟩:=q;refine ⟨P,φ,sl,st,rs,s,?_⟩;obtain ⟨a,st',e1,q⟩:=kk.bind (Ra:=RA);refine ⟨a,st',e1,fun P1 φ1 H1 b f1 s1 r1=>?_⟩;obtain ⟨P2,φ2,st2,x,f2,s2,r2,k2⟩:=q P1 φ1 H1 b f1 s1 r1;exact ⟨P2,φ2,st2,x,s2,r2,k2⟩
end
def kx (h:aa->AV->AV->Option AV):AV->AV->aa->Option (AV × aa):=fun x y st=>(h st x y).map fun z=>(z,st)
def CQ (h:aa->AV->Option AV):AV->aa->Option (AV × aa):=fun x st=>(h st x).map fun z=>(z,st)
noncomputable def cH (a b:Int):Bool:=(Nat.ble a.natAbs.log2 62 || Nat.ble b.natAbs.log2 62) || (Nat.ble a.natAbs.log2 1000000 && Nat.ble b.natAbs.log2 1000000)
noncomputable def jQ (b:Int):Bool:=!(b == 0) && Nat.ble b.natAbs.log2 8999
noncomputable def tU (a b:Int):Bool:=decide (0 <= b) && Nat.ble b.natAbs 100000 && Nat.ble a.natAbs.log2 62
noncomputable def sY (a b:Int):Int:=if 0 < b then a / b else a.fdiv b
noncomputable def qR (a b:Int):Int:=if 0 < b then a % b else a.fmod b
def rq:Operator->Int->Int->Option Int
 | .Add,a,b=>some (a + b)
 | .Sub,a,b=>some (a - b)
 | .Mult,a,b=>if cH a b=true then some (a * b) else none
 | .FloorDiv,a,b=>if jQ b=true then some (sY a b) else none
 | .Mod,a,b=>if b=0 then none else some (qR a b)
 | .Pow,a,b=>if tU a b=true then some (a ^ b.toNat) else none
 | .LShift,a,b=>if tU a b=true then some (a * 2 ^ b.toNat) else none
 | .RShift,a,b=>if 0 <= b then some (a / 2 ^ b.toNat) else none
 | .BitAnd,a,b=>some (Builtin.bitAnd a b)
 | .BitOr,a,b=>some (Builtin.bitOr a b)
 | .BitXor,a,b=>some (Builtin.bitXor a b)
 | _,_,_=>none
def gh (o:Operator) (_:aa):AV->AV->Option AV
 | .int a,.int b=>(rq o a b).map .int
 | .str a,.str b=>if (decide (o=.Add) && Nat.ble (a.length + b.length) 1000000)=true then some (.str (a++b)) else none
 | _,_=>none
theorem log2_lt {n k:Nat} (h:Nat.ble n.log2 k=true):n < 2 ^ (k + 1):=by
 by_cases h0:n=0
 ·subst h0;exact Nat.two_pow_pos _
 ·exact (Nat.log2_lt h0).mp (Nat.lt_succ_of_le (zS h))
theorem lH {a:Int}{k:Nat} (h:a.natAbs < 2 ^ k):Builtin.Int.intBits a <= k:=by
 unfold Builtin.Int.intBits;split
 ·omega
 ·rename_i h0
  have:a.natAbs.log2 < k:=(Nat.log2_lt (by simpa using h0)).mpr h;omega
theorem BW {a b:Int} (h:cH a b=true):IntMulOk a b:=by
 unfold cH at h;rcases Bool.or_eq_true_iff.mp h with h | h
 ·rcases Bool.or_eq_true_iff.mp h with h | h
  ·exact .of_left (z0 (lH (log2_lt h)) dC)
  ·exact .of_right (z0 (lH (log2_lt h)) dC)
 ·obtain ⟨h1,h2⟩:=Bool.and_eq_true_iff.mp h
  exact .of_bits (z0 (lH (log2_lt h1)) dC) (z0 (lH (log2_lt h2)) dC)
theorem Ch {b:Int} (h:jQ b=true):b ≠ 0/\b.natAbs.log2 < 9000:=by
 unfold jQ at h;obtain ⟨h1,h2⟩:=Bool.and_eq_true_iff.mp h;exact ⟨by simpa using h1,Nat.lt_succ_of_le (zS h2)⟩
theorem Fh (a b:Int):a.fdiv b=sY a b:=by
 unfold sY;split
 ·exact Int.fdiv_eq_ediv_of_nonneg _ oM
 ·rfl
theorem Fb (a b:Int):a.fmod b=qR a b:=by
 unfold qR;split
 ·exact Int.fmod_eq_emod_of_nonneg _ oM
 ·rfl
theorem sx {a b:Int} (h:tU a b=true):J5 a b:=by
 unfold tU at h;simp only [zC,yC] at h;obtain ⟨⟨h1,h2⟩,h3⟩:=h;have h2:=zS h2;exact ⟨h1,by omega,zJ (log2_lt h3) dC⟩
def Jl (o:Operator):R2:=fun x y H Q=>(∃ i j k,x=.int i/\y=.int j/\rq o i j=some k/\Q (.int k) H)\/(o=.Add/\∃ i j,x=.str i/\y=.str j/\i.length + j.length <= sizeLine/\Q (.str (i++j)) H)
section
variable {X:Cx}
theorem DO (o:Operator):lq X (binaryOp o) (Jl o):=by
 have hI:∀ (h:∀ i j k t u s (Q:Value->Shared->Prop) (E:Value->Shared->Prop),rq o i j=some k->Q (.int k s.toks) { s with toks:=s.toks + 1 }->wpAny (model X.prog X.w) X.A (binaryOp o (.int i t) (.int j u)) Q E s)
   (Lu:List (Addr × Obj)) (s:Shared) (σ:St) (H:Hp) (x y:V) (v u:Value) (Q:VK),Inv X Lu σ H s->RelV x v->RelV y u->(∃ i j k,x=.int i/\y=.int j/\rq o i j=some k/\Q (.int k) H) ->
   wpAny (model X.prog X.w) X.A (binaryOp o v u) (EP X Lu σ Q) X.xe s:=by
  rintro h Lu s σ H x y v u Q I rx ry ⟨i,j,k,e1,e2,e3,q⟩;subst e1;subst e2;obtain ⟨t,rfl⟩:=rx;obtain ⟨t',rfl⟩:=ry;exact h i j k t t' s _ _ e3 ⟨.int k,H,I.tok _,⟨_,rfl⟩,q⟩
 intro Lu s σ H x y v u Q I rx ry h;rcases h with h | ⟨rfl,h⟩
 ·refine hI ?_ Lu s σ H x y v u Q I rx ry h
  intro i j k t u s Q E e q;cases o <;> simp only [rq] at e
  case Add=>cases e;exact add_int q
  case Sub=>cases e;exact sub_int q
  case Mult =>
   split at e
   ·rename_i hm;cases e;exact mul_int q (BW hm)
   ·cases e
  case FloorDiv =>
   split at e
   ·rename_i hm;cases e
    obtain ⟨h1,h2⟩:=Ch hm;exact floordiv_int h1 (by rw [Fh];exact q) (.inl (PyProof.noPylong_of_log2 h2))
   ·cases e
  case Mod =>
   split at e
   ·cases e
   ·rename_i hm;cases e
    exact mod_int' hm (by rw [Fb];exact q)
  case Pow =>
   split at e
   ·rename_i hm;cases e
    have c:=sx hm;exact pow_int_small c.1 c.2.1 c.2.2 q
   ·cases e
  case LShift =>
   split at e
   ·rename_i hm;cases e
    have c:=sx hm;exact lshift_int_small c.1 c.2.1 c.2.2 q
   ·cases e
  case RShift =>
   split at e
   ·rename_i hm;cases e
    exact rshift_int hm (by rw [Int.fdiv_eq_ediv_of_nonneg _ (tJ _)];exact q)
   ·cases e
  case BitAnd=>cases e;exact and_int q
  case BitOr=>cases e;exact or_int q
  case BitXor=>cases e;exact xor_int q
  all_goals cases e
 ·exact tX Lu s σ H x y v u Q I rx ry h
theorem Ec [Lw] (o:Operator):lq X (binaryOp o) (r2 X.gm (kx (gh o))):=OpR_imp (DO o) fun v w H Q hq0=>by
 obtain ⟨P,φ,st,x,y,s,r1,r2,k⟩:=hq0;obtain ⟨z,e,k⟩:=k.map;cases x <;> cases y <;> simp only [gh] at e <;> first | (cases e;done) | skip
 ·rename_i a b
  simp only [RA] at r1 r2;obtain ⟨c,e1,e2⟩:=zE.mp e;subst e2;exact .inl ⟨a,b,c,r1,r2,e1,k.pure s (by simp only [RA])⟩
 ·rename_i a b
  simp only [RA] at r1 r2;split at e
  ·rename_i hc
   cases e;simp only [zC,yC] at hc;exact .inr ⟨hc.1,a,b,r1,r2,z0 (zS hc.2) dC,k.pure s (by simp only [RA])⟩
  ·cases e
theorem Dl [Lw] (ha:QE X a f) (hb:QE X b g):QE X (.BinOp a o b pos) (a2 f g (kx (gh o))) :=
 PE_imp (tW (Ec o) ha hb) fun _ _ _ q=>uT q
end
end R
namespace R
open PySem PySem.Spec PyProof.Rows L2
open DD (PE_imp PT_imp PA_imp PS_imp PSs_imp OpR_imp PW_imp PG_imp pyOk reads_each any_vals obj_list obj_tup)
def dr (st:aa):AV->AV
 | .ref k=>match st[k]? with
  | some (.al t)=>t
  | _=>.ref k
 | v=>v
def bD (st:aa) (v:AV):Option (List AV):=match dr st v with
 | .fz xs=>some xs
 | .ref k=>match st[k]? with
  | some (.lst xs)=>some xs
  | _=>none
 | _=>none
def iM (st:aa) (v:AV):Option (List AV):=match dr st v with
 | .tup xs=>some xs
 | _=>none
section
variable {mg:Gm}{P:Pr}{φ:List Addr}{st:aa}{H:Hp}{v:AV}{w:V}{xs:List AV}
theorem RA.dr [Lw] (s:Sim mg P φ st H) (r:RA mg P H φ v w):RA mg P H φ (dr st v) w:=by
 cases v with
 | ref k =>
  unfold R.dr;dsimp only;split
  ·rename_i t h
   obtain ⟨a,e,c⟩:=s.at h;simp only [RA] at r;obtain ⟨a',e',rfl⟩:=r;rw [e] at e';cases e';exact c.2.lift
  ·exact r
 | _=>exact r
theorem RA.ls [Lw] (s:Sim mg P φ st H) (r:RA mg P H φ v w) (h:bD st v=some xs):∃ a vs,w=.ref a/\aP mg.K H a vs/\Lz mg P H φ xs vs:=by
 have r:=r.dr s;unfold bD at h;split at h
 ·rename_i ys e
  cases h;rw [e] at r;simp only [RA] at r;obtain ⟨a,vs,e1,e2,q⟩:=r;exact ⟨a,vs,e1,e2.sq,q.lift⟩
 ·rename_i k e
  rw [e] at r;simp only [RA] at r;obtain ⟨a,e1,e2⟩:=r;split at h
  ·rename_i ys e3
   cases h;obtain ⟨a',e4,c⟩:=s.at e3;rw [e1] at e4;cases e4;obtain ⟨_,vs,q1,q2⟩:=c;exact ⟨a,vs,e2,.inl (.inl q1),q2⟩
  ·cases h
 ·cases h
theorem RA.tp [Lw] (s:Sim mg P φ st H) (r:RA mg P H φ v w) (h:iM st v=some xs):∃ a vs,w=.ref a/\H a=some (.tup vs)/\Lz mg P H φ xs vs:=by
 have r:=r.dr s;unfold iM at h;split at h
 ·rename_i ys e
  cases h;rw [e] at r;simp only [RA] at r;obtain ⟨a,vs,e1,_,e2,q⟩:=r;exact ⟨a,vs,e1,e2,q⟩
 ·cases h
end
noncomputable def bJ {α β:Type} (f:α->Option β):List α->Option (List β)
 | []=>some []
 | x::xs=>(f x).bind fun y=>(bJ f xs).map fun ys=>y::ys
theorem jK {α β γ:Type}{f:α->Option β}{i:γ->α}{g:γ->β} (h:∀ x,f (i x)=some (g x)) (xs:List γ):bJ f (xs.map i)=some (xs.map g):=by
 induction xs with
 | nil=>rfl
 | cons x xs ih=>simp only [zO,bJ,h,ih,bind_some,map_some]
def dA:Nat->aa->AV->Option PyData
 | _,_,.non=>some .none
 | _,_,.bl b=>some (.bool b)
 | _,_,.int i=>some (.int i)
 | _,_,.str x=>some (.str x)
 | n + 1,st,.fz xs=>(bJ (dA n st) xs).map .list
 | n + 1,st,.tup xs=>(bJ (dA n st) xs).map .tuple
 | n + 1,st,.ref k=>match st[k]? with
  | some (.lst xs)=>(bJ (dA n st) xs).map .list
  | some (.al t)=>dA n st t
  | _=>none
 | 0,_,_=>none
section
variable {X:Cx}{Lu:List (Addr × Obj)}{σ:St}{H:Hp}{s:Shared}{P:Pr}{φ:List Addr}{st:aa}
theorem p9 [Lw] {n:Nat} (ih:∀ t v p u,RA mg P H φ t v->dA n st t=some p->RelV v u->∃ as,Reads s.heap u p as) :
  ∀ {xs:List AV}{vs:List V}{ps:List PyData}{us:List Value},Lz mg P H φ xs vs->bJ (dA n st) xs=some ps->Vals vs us->∃ as,ReadsAll s.heap us ps as:=by
 intro xs
 induction xs with
 | nil =>
  intro vs ps us r e q;simp only [Lz] at r;subst r;cases e;cases q;exact ⟨_,.nil⟩
 | cons x xs ihx =>
  intro vs ps us r e q;simp only [Lz] at r;obtain ⟨v,ws,rfl,r1,r2⟩:=r;simp only [bJ] at e;obtain ⟨p,e1,e2⟩:=zA e;obtain ⟨qs,e3,e4⟩:=zE.mp e2;subst e4;cases q with
  | cons q1 q2 =>
   obtain ⟨as,ra⟩:=ih x v p _ r1 e1 q1;obtain ⟨bs,rb⟩:=ihx r2 e3 q2;exact ⟨_,.cons ra rb⟩
theorem gy [Lw] (I:L2.Inv X Lu σ H s) (sm:Sim X.gm P φ st H):∀ (n:Nat) (t:AV) (v:V) (p:PyData) (u:Value),RA X.gm P H φ t v->dA n st t=some p->RelV v u->∃ as,Reads s.heap u p as:=by
 have lst:∀ {a:Addr}{vs:List V}{u:Value}{ps:List PyData},aP X.K H a vs->RelV (.ref a) u->(∀ {us:List Value},Vals vs us->∃ as,ReadsAll s.heap us ps as)->∃ as,Reads s.heap u (.list ps) as:=by
  intro a vs u ps h ru k;cases ru;obtain ⟨Lx,ob,m,rv,e1,e2,e3⟩:=obj_list I h;obtain ⟨as,ra⟩:=k rv;exact ⟨_,.list e1 e2 e3 ra⟩
 have di:∀ (n:Nat) (t:AV) (v:V) (p:PyData) (u:Value) (w:V),mL t=some w->RA X.gm P H φ t v->dA n st t=some p->RelV v u->∃ as,Reads s.heap u p as:=by
  intro n t v p u w hs r e ru;cases t with
  | non=>cases n <;> (simp only [dA] at e;cases e;simp only [RA] at r;subst r;cases ru;exact ⟨_,.none⟩)
  | bl b=>cases n <;> (simp only [dA] at e;cases e;simp only [RA] at r;subst r;cases ru;exact ⟨_,.bool b⟩)
  | int i=>cases n <;> (simp only [dA] at e;cases e;simp only [RA] at r;subst r;obtain ⟨t,rfl⟩:=ru;exact ⟨_,.int i t⟩)
  | str x=>cases n <;> (simp only [dA] at e;cases e;simp only [RA] at r;subst r;obtain ⟨t,rfl⟩:=ru;exact ⟨_,.str x t⟩)
  | _=>cases hs
 intro n
 induction n with
 | zero =>
  intro t v p u r e ru;cases t with
  | non=>exact di 0 _ v p u _ rfl r e ru
  | bl b=>exact di 0 _ v p u _ rfl r e ru
  | int i=>exact di 0 _ v p u _ rfl r e ru
  | str x=>exact di 0 _ v p u _ rfl r e ru
  | _=>simp only [dA] at e;cases e
 | succ n ih =>
  intro t v p u r e ru;cases t with
  | non=>exact di _ _ v p u _ rfl r e ru
  | bl b=>exact di _ _ v p u _ rfl r e ru
  | int i=>exact di _ _ v p u _ rfl r e ru
  | str x=>exact di _ _ v p u _ rfl r e ru
  | fz xs =>
   simp only [dA] at e;obtain ⟨ps,e1,e2⟩:=zE.mp e;subst e2;simp only [RA] at r;obtain ⟨a,vs,rfl,h,q⟩:=r;exact lst h.sq ru fun rv=>p9 ih q.lift e1 rv
  | tup xs =>
   simp only [dA] at e;obtain ⟨ps,e1,e2⟩:=zE.mp e;subst e2;simp only [RA] at r;obtain ⟨a,vs,rfl,_,h,q⟩:=r;cases ru;obtain ⟨Lx,ob,m,rv,h1,h2,h3⟩:=obj_tup I (show fU X.K H a vs from .inl (.inl h));obtain ⟨as,ra⟩:=p9 ih q e1 rv;exact ⟨_,.tuple h1 h2 h3 ra⟩
  | ref k =>
   simp only [dA] at e;simp only [RA] at r;obtain ⟨a,ea,rfl⟩:=r;split at e
   ·rename_i xs hk
    obtain ⟨ps,e1,e2⟩:=zE.mp e;subst e2;obtain ⟨a',ea',c⟩:=sm.at hk;rw [ea] at ea';cases ea';obtain ⟨_,vs,h,q⟩:=c;exact lst (.inl (.inl h)) ru fun rv=>p9 ih q e1 rv
   ·rename_i t hk
    obtain ⟨a',ea',c⟩:=sm.at hk;rw [ea] at ea';cases ea';exact ih t _ p u c.2.lift e ru
   ·cases e
end
def oX (st:aa) (x y:AV):Option Bool:=(dA 9 st x).bind fun p=>(dA 9 st y).bind fun q=>if pyOk p q=true then some (PyData.eqv p q) else none
def jM:AV->Option aR
 | .int i=>some (.inl i)
 | .str x=>some (.inr x)
 | _=>none
noncomputable def mo {κ:Type} [DecidableEq κ] (Lv:List (κ × AV)) (k:κ):Option AV:=(Lv.find? fun kv=>decide (kv.1=k)).map (·.2)
def iY (st:aa):AV->Option (List (aR × AV))
 | .ref k=>match st[k]? with
  | some (.dK Lv)=>some Lv
  | _=>none
 | _=>none
def lZ (st:aa):AV->Option (List (List aR × AV))
 | .ref k=>match st[k]? with
  | some (.dT Lv)=>some Lv
  | _=>none
 | _=>none
def mB (st:aa) (y x:AV):Option (Option AV):=match iY st y with
 | some Lv=>(jM x).map fun k=>mo Lv k
 | none=>match lZ st y with
  | some Lv=>match x with
   | .tup xs=>(bJ jM xs).map fun k=>mo Lv k
   | _=>none
  | none=>none
def oT (st:aa) (x y:AV):Option Bool:=match mB st y x with
 | some o=>some o.isSome
 | none=>match x,y with
  | .str a,.str b=>some (!(Builtin.Str.occurrences b a 0 b.length 1).isEmpty)
  | _,_=>(dA 9 st x).bind fun q=>(dA 9 st y).bind fun p=>match p with
   | .list ps=>if (ps.all fun r=>pyOk r q)=true then some (ps.any fun r=>PyData.eqv r q) else none
   | .tuple ps=>if (ps.all fun r=>pyOk r q)=true then some (ps.any fun r=>PyData.eqv r q) else none
   | _=>none
noncomputable def xL:CmpOp->Int->Int->Option Bool
 | .Lt,a,b=>some (decide (a < b))
 | .LtE,a,b=>some (decide (a <= b))
 | .Gt,a,b=>some (decide (b < a))
 | .GtE,a,b=>some (decide (b <= a))
 | _,_,_=>none
noncomputable def Ee:AV->Bool
 | .non=>true
 | _=>false
def EO (x y:AV):Option Bool:=match y with
 | .non=>some (Ee x)
 | .bl b=>(match x with
  | .bl a=>some (a == b)
  | _=>none)
 | _=>none
noncomputable def EA:CmpOp->List AV->List AV->Option Bool
 | .Lt,[.int a,.int b],[.int c,.int d]=>some (if a=c then decide (b < d) else decide (a < c))
 | _,_,_=>none
def cE (o:CmpOp) (st:aa) (x y:AV):Option Bool:=match o with
 | .Eq=>oX st x y
 | .NotEq=>(oX st x y).map (!·)
 | .Is=>EO x y
 | .IsNot=>(EO x y).map (!·)
 | .In=>oT st x y
 | .NotIn=>(oT st x y).map (!·)
 | o=>match x,y with
  | .int a,.int b=>xL o a b
  | .tup xs,.tup ys=>EA o xs ys
  | _,_=>none
def mC (o:CmpOp) (st:aa) (x y:AV):Option AV:=(cE o st x y).map .bl
theorem n9 (h:pyOk p q=true):p.canLay0=true/\q.canLay0=true/\min p.depth q.depth <= 50:=by
 simp only [pyOk,zC,yC] at h;exact ⟨h.1.1,h.1.2,h.2⟩
theorem jH {P:Pr}{H:Hp}{φ:List Addr}{κ:Type} [DecidableEq κ] {Lv:List (κ × AV)}{ws:List (κ × V)} (h:KVR mg P H φ Lv ws) (k:κ) :
  (mo Lv k).isSome=(eF ws k).isSome/\∀ v,mo Lv k=some v->∃ w,eF ws k=some w/\RA mg P H φ v w:=by
 induction Lv generalizing ws with
 | nil =>
  have:ws=[]:=by simpa using h.1.symm
  subst this;exact ⟨rfl,fun v e=>by cases e⟩
 | cons p Lv ih =>
  cases ws with
  | nil=>exact absurd h.1 (by simp)
  | cons q ws =>
   obtain ⟨h1,h2⟩:=h;rw [zO,zO] at h1 h2;injection h1 with h3 h4;simp only [Lz] at h2;obtain ⟨v,vs,h5,h6,h7⟩:=h2;injection h5 with h8 h9;subst h8;subst h9;by_cases e:q.1=k
   ·have e':p.1=k:=h3.trans e
    simp only [mo,eF,List.find?_cons,e,e',decide_true,map_some];refine ⟨rfl,fun v hv=>?_⟩;cases hv;exact ⟨_,rfl,h6⟩
   ·have e':¬ p.1=k:=fun z=>e (h3.symm.trans z)
    have:=ih (ws:=ws) ⟨h4,h7⟩
    simp only [mo,eF,List.find?_cons,e,e',decide_false] at this ⊢;exact this
section
variable {X:Cx}{Lu:List (Addr × Obj)}{σ:St}{H:Hp}{s:Shared}{P:Pr}{φ:List Addr}{st:aa}
theorem my (h:jM x=some k) (r:RA mg P H φ x v):v=kV k:=by
 cases x <;> simp only [jM] at h <;> first | (cases h;done) | skip
 ·cases h;simp only [RA] at r;exact r
 ·cases h;simp only [RA] at r;exact r
theorem oR [Lw]:∀ {xs:List AV}{vs:List V}{k:List aR},bJ jM xs=some k->Lz mg P H φ xs vs->vs=k.map kV:=by
 intro xs
 induction xs with
 | nil=>intro vs k e r;cases e;simp only [Lz] at r;exact r
 | cons x xs ih =>
  intro vs k e r;simp only [bJ] at e;obtain ⟨p,e1,e2⟩:=zA e;obtain ⟨qs,e3,e4⟩:=zE.mp e2;subst e4;simp only [Lz] at r;obtain ⟨v,ws,rfl,r1,r2⟩:=r;rw [my e1 r1,ih e3 r2];rfl
theorem qM [Lw] (sm:Sim X.gm P φ st H) {x y:AV}{v w:V}{o:Option AV} (h:mB st y x=some o) (rx:RA X.gm P H φ x v) (ry:RA X.gm P H φ y w) :
  ∃ a o',w=.ref a/\DGet H a v o'/\o.isSome=o'.isSome/\∀ t,o=some t->∃ u,o'=some u/\RA X.gm P H φ t u:=by
 unfold mB at h;split at h
 ·rename_i Lv e
  obtain ⟨k,e1,e2⟩:=zE.mp h;subst e2;cases y <;> simp only [iY] at e <;> first | (cases e;done) | skip
  split at e
  ·rename_i j kvs' e3
   cases e;simp only [RA] at ry;obtain ⟨a,ea,rfl⟩:=ry;obtain ⟨a',ea',c⟩:=sm.at e3;rw [ea] at ea';cases ea';obtain ⟨_,ws,q1,q2⟩:=c
   have:=my e1 rx
   subst this;exact ⟨a,_,rfl,DGet.k q1,(jH q2 k).1,(jH q2 k).2⟩
  ·cases e
 ·split at h
  ·rename_i Lv e
   split at h
   ·rename_i xs
    obtain ⟨k,e1,e2⟩:=zE.mp h;subst e2;cases y <;> simp only [lZ] at e <;> first | (cases e;done) | skip
    split at e
    ·rename_i j kvs' e3
     cases e;simp only [RA] at ry;obtain ⟨a,ea,rfl⟩:=ry;obtain ⟨a',ea',c⟩:=sm.at e3;rw [ea] at ea';cases ea';obtain ⟨_,ws,q1,q2⟩:=c;simp only [RA] at rx;obtain ⟨b,vs,rfl,_,hb,rr⟩:=rx;rw [oR e1 rr] at hb;exact ⟨a,_,rfl,DGet.t q1 hb,(jH q2 k).1,(jH q2 k).2⟩
    ·cases e
   ·cases h
  ·cases h
theorem qK (hu:X.A.units + 64 < cLine) {v:Value}{q:PyData}{as bs:List Addr}{ps:List PyData}{items:Array Value} (ra:Reads s.heap v q as) (rb:ReadsAll s.heap items.toList ps bs) (hk:(ps.all fun r=>pyOk r q)=true) :
  ∃ e:Value->Bool,(∀ z ∈ items,SeqAt.EqAt X.A.in1 s z v (e z))/\items.any e=ps.any fun r=>PyData.eqv r q:=by
 classical
 have uq:∀ z p' az,Reads s.heap z p' az->decide (∃ p as,Reads s.heap z p as/\PyData.eqv p q=true)=PyData.eqv p' q:=by
  intro z p' az rz;rcases he:PyData.eqv p' q with _ | _
  ·refine yA ?_
   rintro ⟨p2,as',r',e'⟩
   have:=(PySem.Reads.unique rz p2 as' r').1
   rw [<- this,he] at e';cases e'
  ·exact yT ⟨p',az,rz,he⟩
 refine ⟨fun z=>decide (∃ p as,Reads s.heap z p as/\PyData.eqv p q=true),fun z hz=>?_,?_⟩
 ·obtain ⟨pz,az,hpz,rz⟩:=reads_each rb z (by simpa using hz)
  obtain ⟨k1,k2,k3⟩:=n9 (yP.mp hk pz hpz);dsimp only;rw [uq z pz az rz];exact PySem.SeqAt.eqAt_reads pz q _ s z v az as rz ra k1 k2 (by simp only [Around.in1_units];omega)
 ·have hc:=any_vals (q:=q) (e:=fun z=>decide (∃ p as,Reads s.heap z p as/\PyData.eqv p q=true)) (h:=s.heap) (fun v p as rv=>uq v p as rv) rb
  rw [<- hc];simp
theorem sR [Lw] (hu:X.A.units + 64 < cLine) (I:L2.Inv X Lu σ H s) (sm:Sim X.gm P φ st H) {x y:AV}{v w:V}{u r:Value}{b:Bool} (h:oT st x y=some b) (rx:RA X.gm P H φ x v) (ry:RA X.gm P H φ y w) (ru:RelV v u) (rr:RelV w r) {E:Value->Shared->Prop}
  {Q:Value->Shared->Prop}{Q':Value->Shared->Prop} (hQ:∀ s',L2.Inv X Lu σ H s'->Q (.bool b) s') (hQ':∀ s',L2.Inv X Lu σ H s'->Q' (.bool (!b)) s') :
  wpAny (model X.prog X.w) X.A (compareOp .In u r) Q E s/\wpAny (model X.prog X.w) X.A (compareOp .NotIn u r) Q' E s:=by
 unfold oT at h;split at h
 ·rename_i o e
  cases h;obtain ⟨a,o',rfl,g,eo,_⟩:=qM sm e rx ry;cases rr;exact ⟨JO oM I g ru fun s' I'=>by rw [<- eo];exact hQ s' I',Ci oM I g ru fun s' I'=>by rw [<- eo];exact hQ' s' I'⟩
 ·split at h
  ·rename_i a c
   cases h;simp only [RA] at rx ry;subst rx;subst ry;obtain ⟨t,rfl⟩:=ru;obtain ⟨t',rfl⟩:=rr;exact ⟨in_str (hQ s I),notIn_str (hQ' s I)⟩
  ·obtain ⟨q,e1,e2⟩:=zA h
   obtain ⟨p,e3,e4⟩:=zA e2;obtain ⟨as,ra⟩:=gy I sm 9 _ _ _ _ rx e1 ru;obtain ⟨bs,rb⟩:=gy I sm 9 _ _ _ _ ry e3 rr;split at e4
   ·rename_i ps
    split at e4
    ·rename_i hk
     cases e4;cases rb with
     | @list a o items n xs as' hg hc hdt rall =>
      obtain ⟨e,he,ee⟩:=qK hu ra rall hk;have hl:s.heap.IsList a items:=⟨o,hg,hc,n,hdt⟩;exact ⟨SeqAt.in_listAt e hl he (by rw [ee];exact hQ s I),SeqAt.notIn_listAt e hl he (by rw [ee];exact hQ' s I)⟩
    ·cases e4
   ·rename_i ps
    split at e4
    ·rename_i hk
     cases e4;cases rb with
     | @tuple a o items n xs as' hg hc hdt rall =>
      obtain ⟨e,he,ee⟩:=qK hu ra rall hk;have hl:IsTup s.heap a items:=⟨o,hg,hc,n,hdt⟩;exact ⟨SeqAt.in_tupleAt e hl he (by rw [ee];exact hQ s I),SeqAt.notIn_tupleAt e hl he (by rw [ee];exact hQ' s I)⟩
    ·cases e4
   ·cases e4
end
end R
namespace PySem.W
open PySem.Calls PyProof.Rows PySem.Spec
theorem AO (x y:Addr) (a b c d:Int) (t1 t2 t3 t4:Tok) (hp0:Heap) (h1:IsTup hp0 x #[.int a t1,.int b t2]) (h2:IsTup hp0 y #[.int c t3,.int d t4]) :
  Meets (Builtin.«tuple.__lt__» ⟨[.ref x,.ref y],[]⟩)
   (fun _ R s=>s.heap=hp0/\R (.ok (.ret (.bool (if a=c then decide (b < d) else decide (a < c))))) s):=by
 intro prog w A R s h;obtain ⟨hp,g,dd,tk,os⟩:=s;obtain ⟨rfl,h⟩:=h;have f3:=PySem.AutoSeq1.sub_tuple_tuple;obtain ⟨o2,g2,c2,n2,d2⟩:=id h2;show wpAny _ _ _ _ _ _
 wp_walk using PySem.AutoSeq1.wpAny_loadPart' g2
 rw [c2,f3];refine yG ?_;show wpAny (model prog w) A.in1 (Builtin.Tuple.tupleItemsOf (.ref x) >>= _) _ _ _;refine yF (tupleItemsOf_ h1 ?_);refine yF (tupleItemsOf_ h2 ?_);dsimp only [List.zip_cons_cons,List.zip_nil_right];refine yF ?_;rw [List.forIn_cons];refine yF ?_;show wpAny (model prog w) A.in1 (eqBool (.int a t1) (.int c t3) >>= _) _ _ _;refine yF (wpAny_eqBool_int ?_);by_cases e:a=c
 ·rw [yI e] at h
  rw [show (a == c)=true by simp [e]];refine yG ?_;dsimp only;rw [List.forIn_cons];refine yF ?_;show wpAny (model prog w) A.in1 (eqBool (.int b t2) (.int d t4) >>= _) _ _ _;refine yF (wpAny_eqBool_int ?_);by_cases e2:b=d
  ·rw [show (b == d)=true by simp [e2]]
   refine yG ?_;dsimp only;rw [List.zip_nil_right,List.forIn_nil];refine yG ?_;rw [yA oM] at h
   wp_walk
   exact h
  ·rw [show (b == d)=false by simpa using e2]
   wp_walk using HT.rcLt_int A.in1 ⟨hp,g,dd,tk,os⟩ b t2 d t4 prog w
   exact h
 ·rw [yH e] at h
  rw [show (a == c)=false by simpa using e]
  wp_walk using HT.rcLt_int A.in1 ⟨hp,g,dd,tk,os⟩ a t1 c t3 prog w
  exact h
end PySem.W
namespace R
open PySem PySem.Spec PyProof.Rows L2 PySem.W
theorem B0 {prog:Program}{w:World}{A:Around}{Q:Value->Shared->Prop}{E:Value->Shared->Prop}{s:Shared}{x y:Addr}{a b c d:Int}{t1 t2 t3 t4:Tok} (hu:A.units < cLine) (h1:IsTup s.heap x #[.int a t1,.int b t2]) (h2:IsTup s.heap y #[.int c t3,.int d t4])
  (h:Q (.bool (if a=c then decide (b < d) else decide (a < c))) s):wpAny (model prog w) A (compareOp .Lt (.ref x) (.ref y)) Q E s:=by
 obtain ⟨o1,g1,c1,_⟩:=id h1;obtain ⟨o2,g2,c2,_⟩:=id h2;exact cmp_ofLt (richCompare_meets_room (op:=.Lt) (T:="tuple") ⟨o1,g1,c1⟩ ⟨o2,g2,c2⟩ PySem.F.slot_tuple_lt PySem.F.entry_tuple_lt (PySem.F.args_tuple_lt_2 _ _) (AO x y a b c d t1 t2 t3 t4 s.heap h1 h2) ⟨rfl,(fun e=>nomatch e),h⟩ hu)
end R
namespace R
open PySem PySem.Spec PyProof.Rows L2
open DD (PE_imp PT_imp PA_imp PS_imp PSs_imp OpR_imp PW_imp PG_imp pyOk)
section
variable {X:Cx}
theorem vM [Lw] (hu:X.A.units + 64 < cLine) (o:CmpOp):lq X (compareOp o) (r2 X.gm (kx (mC o))):=by
 rintro Lu s σ H v w u r Q I ru rr ⟨P,φ,st,x,y,sm,rx,ry,k⟩;obtain ⟨z,e,k⟩:=k.map;obtain ⟨b,e1,e2⟩:=zE.mp e;subst e2;have aE:∀ s',L2.Inv X Lu σ H s'->EP X Lu σ Q (.bool b) s':=fun s' I'=>⟨.bl b,H,I',rfl,k.pure sm (by simp only [RA])⟩
 have neg:∀ {o:Option Bool},o.map (!·)=some b->∃ c,o=some c/\b=!c:=fun h=>by
  obtain ⟨c,h1,h2⟩:=zE.mp h;exact ⟨c,h1,h2.symm⟩
 have eq:∀ {c:Bool},oX st x y=some c->∀ {Q:Value->Shared->Prop}{E:Value->Shared->Prop},(Q (.bool c) s->wpAny (model X.prog X.w) X.A (compareOp .Eq u r) Q E s)/\(Q (.bool (!c)) s->wpAny (model X.prog X.w) X.A (compareOp .NotEq u r) Q E s):=by
  intro c h Q E;unfold oX at h;obtain ⟨p,h1,h2⟩:=zA h;obtain ⟨q,h3,h4⟩:=zA h2;split at h4
  ·rename_i hk
   cases h4;obtain ⟨c1,c2,hd⟩:=n9 hk;obtain ⟨as,ra⟩:=gy I sm 9 _ _ _ _ rx h1 ru;obtain ⟨bs,rb⟩:=gy I sm 9 _ _ _ _ ry h3 rr;exact ⟨fun q=>SeqAt.eqOverData _ _ _ _ _ _ _ _ _ _ _ _ ra rb c1 c2 oM q,fun q=>SeqAt.neOverData _ _ _ _ _ _ _ _ _ _ _ _ ra rb c1 c2 oM q⟩
  ·cases h4
 have is:∀ {c:Bool},EO x y=some c->∀ {Q:Value->Shared->Prop}{E:Value->Shared->Prop},(Q (.bool c) s->wpAny (model X.prog X.w) X.A (compareOp .Is u r) Q E s)/\(Q (.bool (!c)) s->wpAny (model X.prog X.w) X.A (compareOp .IsNot u r) Q E s):=by
  intro c h Q E;have nn:y=.non->c=(u == Value.none)->(Q (.bool c) s->wpAny (model X.prog X.w) X.A (compareOp .Is u r) Q E s)/\(Q (.bool (!c)) s->wpAny (model X.prog X.w) X.A (compareOp .IsNot u r) Q E s):=fun hy hc=>by
   subst hy;simp only [RA] at ry;subst ry;cases rr;exact ⟨fun q=>is_none_gen (by rw [<- hc];exact q),fun q=>isnot_none_gen (by rw [<- hc];exact q)⟩
  cases y with
  | non =>
   have h:some (Ee x)=some c:=h;cases h;refine nn rfl ?_;cases x with
   | non=>simp only [RA] at rx;subst rx;cases ru;rfl
   | _=>rw [RelV.none_iff ru];refine (yA fun hv=>?_).symm;subst hv;simp only [RA] at rx;first | (cases rx;done) | (obtain ⟨_,_,z,_⟩:=rx;cases z;done) | (obtain ⟨_,_,z⟩:=rx;cases z;done)
  | bl d=>cases x with
   | bl a =>
    cases h;simp only [RA] at rx ry;subst rx;subst ry;cases ru;cases rr;cases a <;> cases d <;> exact ⟨fun q=>yG q,fun q=>yG q⟩
   | _=>exact nomatch h
  | _=>exact nomatch h
 have qg:∀ {a c:Int},x=.int a->y=.int c->xL o a c=some b->wpAny (model X.prog X.w) X.A (compareOp o u r) (EP X Lu σ Q) X.xe s:=by
  intro a c hx hy ho;subst hx;subst hy;simp only [RA] at rx ry;subst rx;subst ry;obtain ⟨t,rfl⟩:=ru;obtain ⟨t',rfl⟩:=rr;cases o <;> simp only [xL] at ho <;> first | (cases ho;done) | skip
  ·cases ho;exact lt_int (aE s I)
  ·cases ho;exact le_int (aE s I)
  ·cases ho;exact gt_int (aE s I)
  ·cases ho;exact ge_int (aE s I)
 have tl:∀ {as cs:List AV},x=.tup as->y=.tup cs->EA o as cs=some b->wpAny (model X.prog X.w) X.A (compareOp o u r) (EP X Lu σ Q) X.xe s:=by
  intro as cs hx hy ho;unfold EA at ho;split at ho
  ·cases ho
   subst hx;subst hy;obtain ⟨_,ra⟩:=gy I sm 9 _ _ _ _ rx rfl ru;obtain ⟨_,rb⟩:=gy I sm 9 _ _ _ _ ry rfl rr;cases ra with
   | @tuple a1 o1 i1 n1 x1 as1 g1 c1 d1 q1 =>
   cases rb with
   | @tuple a2 o2 i2 n2 x2 as2 g2 c2 d2 q2 =>
   obtain ⟨l1⟩:=i1;obtain ⟨l2⟩:=i2;rcases q1 with _ | ⟨p1,_ | ⟨p2,_ | _⟩⟩;rcases q2 with _ | ⟨p3,_ | ⟨p4,_ | _⟩⟩;cases p1;cases p2;cases p3;cases p4;exact B0 oM ⟨o1,g1,c1,n1,d1⟩ ⟨o2,g2,c2,n2,d2⟩ (aE s I)
  ·cases ho
 cases o <;> simp only [cE] at e1
 case Eq=>exact (eq e1).1 (aE s I)
 case NotEq=>obtain ⟨c,h1,rfl⟩:=neg e1;exact (eq h1).2 (aE s I)
 case Is=>exact (is e1).1 (aE s I)
 case IsNot=>obtain ⟨c,h1,rfl⟩:=neg e1;exact (is h1).2 (aE s I)
 case In=>exact (sR hu I sm e1 rx ry ru rr (Q':=fun _ _=>True) aE fun _ _=>trivial).1
 case NotIn=>obtain ⟨c,h1,rfl⟩:=neg e1;exact (sR hu I sm h1 rx ry ru rr (Q:=fun _ _=>True) (fun _ _=>trivial) aE).2
 all_goals
  split at e1
  ·exact qg rfl rfl e1
  ·exact tl rfl rfl e1
  ·cases e1
noncomputable def lB (op:CmpOp) (b:Expr):Bool:=!(behindInMarks op b)
theorem qB (h:lB op b=true):behindInMarks op b=false:=by simpa [lB] using h
theorem Dk [Lw] (hu:X.A.units + 64 < cLine) (ha:QE X a f) (hb:QE X b g) (hm:lB o b=true):QE X (.Compare a [o] [b] pos) (a2 f g (kx (mC o))) :=
 PE_imp (BE (vM hu o) ha hb (qB hm)) fun _ _ _ q=>uT q
def CL (f g:EF) (o:CmpOp):TF:=fun sl st=>(f sl st).bind fun p=>(g sl p.2).bind fun q=>(cE o q.2 p.1 q.1).map fun b=>(b,q.2)
theorem C2 [Lw] (hu:X.A.units + 64 < cLine) (ha:QE X a f) (hb:QE X b g) (hm:lB o b=true):QT X (.Compare a [o] [b] pos) (CL f g o) :=
 PT_imp (Bm (vM hu o) ha hb (qB hm)) fun σ H Q hq0=>by
  obtain ⟨P,φ,sl,st,rs,s,k⟩:=hq0;refine uT (k:=kx (mC o)) ⟨P,φ,sl,st,rs,s,?_⟩;obtain ⟨b,st',e,q⟩:=k;unfold CL at e;obtain ⟨p,e1,e2⟩:=zA e;obtain ⟨r,e3,e4⟩:=zA e2;obtain ⟨c,e5,e6⟩:=zE.mp e4;injection e6 with e7 e8;subst e7;subst e8;refine ⟨.bl c,r.2,by simp only [a2,e1,bind_some,e3,kx,mC,e5,map_some],fun P' φ' H' w f' s' r'=>?_⟩;simp only [RA] at r';exact ⟨c,r',q P' φ' H' c f' s' rfl⟩
def se (o:UnaryOp) (_:aa):AV->Option AV
 | .int i=>match o with
  | .USub=>some (.int (-i))
  | .Invert=>some (.int (Builtin.bitNot i))
  | _=>none
 | _=>none
theorem Gg [Lw] (ha:QE X a f):QE X (.UnaryOp o a pos) (a1 f (CQ (se o))):=by
 have h:wM X (unaryOp o) (r1 X.gm (CQ (se o))):=by
  rintro Lu s σ H v u Q I ru ⟨P,φ,st,x,sm,rx,k⟩;obtain ⟨z,e,k⟩:=k.map;cases x <;> simp only [se] at e <;> first | (cases e;done) | skip
  rename_i i;simp only [RA] at rx;subst rx;cases o <;> first | (cases e;done) | skip
  ·cases e
   exact CA Lu s σ H _ u Q I ru ⟨i,rfl,k.pure sm (by simp only [RA])⟩
  ·cases e
   exact Cz Lu s σ H _ u Q I ru ⟨i,rfl,k.pure sm (by simp only [RA])⟩
 exact PE_imp (Gr h ha) fun _ _ _ q=>JZ q
def fA (st:aa) (v:AV):Option Bool:=match bD st v with
 | some xs=>some !xs.isEmpty
 | none=>match v with
  | .non=>some false
  | .bl b=>some b
  | .int i=>some (i != 0)
  | .str x=>if Nat.ble x.length 1000000=true then some ((x.length:Int) != 0) else none
  | .tup xs=>some !xs.isEmpty
  | v=>(iY st v).map fun Lv=>!Lv.isEmpty
theorem oY (r:Lz mg P H φ xs vs):vs.isEmpty=xs.isEmpty:=by
 cases xs with
 | nil=>simp only [Lz] at r;subst r;rfl
 | cons x xs=>simp only [Lz] at r;obtain ⟨v,ws,rfl,_⟩:=r;rfl
theorem xa [Lw] {P:Pr}{H:Hp}{φ:List Addr}{st:aa} (sm:Sim X.gm P φ st H) {v:AV}{w:V}{b:Bool} (h:fA st v=some b) (r:RA X.gm P H φ v w):zb X.K w H b:=by
 unfold fA at h;split at h
 ·rename_i xs e
  cases h;obtain ⟨a,vs,rfl,rd,q⟩:=r.ls sm e;exact .inl ⟨vs,rd,by rw [oY q]⟩
 ·cases v <;> simp only at h
  case non=>cases h;simp only [RA] at r;subst r;exact rfl
  case bl=>cases h;simp only [RA] at r;subst r;exact rfl
  case int=>cases h;simp only [RA] at r;subst r;exact rfl
  case str x =>
   simp only [RA] at r;subst r;split at h
   ·rename_i hl;cases h;exact ⟨z0 (zS hl) dC,rfl⟩
   ·cases h
  case tup xs =>
   cases h;simp only [RA] at r;obtain ⟨a,vs,rfl,_,e,q⟩:=r;exact .inr (.inl ⟨vs,.inl (.inl e),by rw [oY q]⟩)
  case fz=>obtain ⟨_,z,_⟩:=zE.mp h;simp [iY] at z
  case ref k =>
   obtain ⟨Lv,e1,e2⟩:=zE.mp h;subst e2;simp only [iY] at e1;split at e1
   ·rename_i kvs' hk
    cases e1;simp only [RA] at r;obtain ⟨a,ea,rfl⟩:=r;obtain ⟨a',ea',c⟩:=sm.at hk;rw [ea] at ea';cases ea';obtain ⟨_,ws,q1,q2,q3⟩:=c;refine .inr (.inr ⟨ws,q1,?_⟩)
    have:=congrArg List.isEmpty q2
    simpa using this
   ·cases e1
def tV (f:EF):TF:=fun sl st=>(f sl st).bind fun p=>(fA p.2 p.1).map fun b=>(b,p.2)
theorem CZ [Lw] (ha:QE X a f) (he:∀ whole,isTrue a X.env whole=(do let v <- whole;standAt a.pos;holding [v] (truthy v))):QT X a (tV f) :=
 PT_imp (xx ha he) fun σ H Q ⟨P,φ,sl,st,rs,s,k⟩=>⟨P,φ,sl,st,rs,s,by
  obtain ⟨a,st',e1,q⟩:=k.bind (Ra:=RA);refine ⟨a,st',e1,fun P1 φ1 H1 b f1 s1 r1=>?_⟩;obtain ⟨P2,φ2,st2,x,f2,s2,r2,k2⟩:=q P1 φ1 H1 b f1 s1 r1;obtain ⟨c,e2,k2⟩:=k2.map;exact ⟨c,xa s2 e2 r2,k2.pure s2 rfl⟩⟩
def HN (f g:TF):TF:=fun sl st=>(f sl st).bind fun p=>if p.1=true then g sl p.2 else some (false,p.2)
def CH (f g:TF):TF:=fun sl st=>(f sl st).bind fun p=>if p.1=true then some (true,p.2) else g sl p.2
def HL (f:TF):TF:=fun sl st=>(f sl st).bind fun p=>some (!p.1,p.2)
section
variable {a b:Expr}{rest:List Expr}{pos:Pos}{f g:TF}
theorem mN [Lw] (op:BoolOp) (ha:QT X a f):QW X (.BoolOp op [a] pos) f:=by
 cases op
 ·exact Bl ha
 ·exact Dm ha
theorem mO [Lw] (ha:QT X a f) (hb:QW X (.BoolOp .And (b::rest) pos) g):QW X (.BoolOp .And (a::b::rest) pos) (HN f g) :=
 PW_imp (Dn ha hb) fun σ H Q ⟨P,φ,sl,st,rs,s,k⟩=>⟨P,φ,sl,st,rs,s,by
  obtain ⟨a,st',e1,q⟩:=k.bind (Ra:=RB);refine ⟨a,st',e1,fun P1 φ1 H1 c f1 s1 r1=>?_⟩;obtain ⟨P2,φ2,st2,x,f2,s2,r2,k2⟩:=q P1 φ1 H1 c f1 s1 r1;cases r2;cases c with
  | true=>exact ⟨P2,φ2,sl,st2,rs.frm f2,s2,k2⟩
  | false=>exact k2.pure s2 rfl⟩
theorem px [Lw] (ha:QT X a f) (hb:QW X (.BoolOp .Or (b::rest) pos) g):QW X (.BoolOp .Or (a::b::rest) pos) (CH f g) :=
 PW_imp (Gn ha hb) fun σ H Q ⟨P,φ,sl,st,rs,s,k⟩=>⟨P,φ,sl,st,rs,s,by
  obtain ⟨a,st',e1,q⟩:=k.bind (Ra:=RB);refine ⟨a,st',e1,fun P1 φ1 H1 c f1 s1 r1=>?_⟩;obtain ⟨P2,φ2,st2,x,f2,s2,r2,k2⟩:=q P1 φ1 H1 c f1 s1 r1;cases r2;cases c with
  | false=>exact ⟨P2,φ2,sl,st2,rs.frm f2,s2,k2⟩
  | true=>exact k2.pure s2 rfl⟩
theorem C1 [Lw] (ha:QT X a f):QT X (.UnaryOp .Not a pos) (HL f) :=
 PT_imp (Do ha) fun σ H Q ⟨P,φ,sl,st,rs,s,k⟩=>⟨P,φ,sl,st,rs,s,by
  obtain ⟨a,st',e1,q⟩:=k.bind (Ra:=RB);refine ⟨a,st',e1,fun P1 φ1 H1 c f1 s1 r1=>?_⟩;obtain ⟨P2,φ2,st2,x,f2,s2,r2,k2⟩:=q P1 φ1 H1 c f1 s1 r1;cases r2;exact k2.pure s2 rfl⟩
end
def AA (f g:EF):EF:=fun sl st=>(f sl st).bind fun p=>match p.1 with
 | .bl true=>g sl p.2
 | .bl false=>some (.bl false,p.2)
 | _=>none
def Ax (f g:EF):EF:=fun sl st=>(f sl st).bind fun p=>match p.1 with
 | .bl false=>g sl p.2
 | .bl true=>some (.bl true,p.2)
 | _=>none
def Az (f:EF):EF:=fun sl st=>(f sl st).bind fun p=>match p.1 with
 | .bl b=>some (.bl !b,p.2)
 | _=>none
def IC (t:TF) (f g:EF):EF:=fun sl st=>(t sl st).bind fun p=>if p.1=true then f sl p.2 else g sl p.2
section
variable {a b c:Expr}{rest:List Expr}{pos:Pos}{f g:EF}{t:TF}
theorem KG.no [Lw] {α β:Type}{Ra:Gm->Pr->Hp->List Addr->α->β->Prop}{Q:β->Hp->Prop} (h:KG mg Ra P φ H none Q):False:=by obtain ⟨_,_,e,_⟩:=h;cases e
theorem vq [Lw] (ha:QE X a f) (hb:QE X (.BoolOp .And (b::rest) pos) g):QE X (.BoolOp .And (a::b::rest) pos) (AA f g) :=
 PE_imp (DJ ha hb) fun σ H Q ⟨P,φ,sl,st,rs,s,k⟩=>⟨P,φ,sl,st,rs,s,by
  obtain ⟨a,st',e1,q⟩:=k.bind (Ra:=RA);refine ⟨a,st',e1,fun P1 φ1 H1 c f1 s1 r1=>?_⟩;obtain ⟨P2,φ2,st2,x,f2,s2,r2,k2⟩:=q P1 φ1 H1 c f1 s1 r1;cases x <;> first | exact k2.no.elim | skip
  rename_i d;simp only [RA] at r2;refine ⟨d,r2,?_⟩;cases d with
  | true=>exact ⟨P2,φ2,sl,st2,rs.frm f2,s2,k2⟩
  | false=>exact k2.pure s2 (by simp only [RA])⟩
theorem zu [Lw] (ha:QE X a f) (hb:QE X (.BoolOp .Or (b::rest) pos) g):QE X (.BoolOp .Or (a::b::rest) pos) (Ax f g) :=
 PE_imp (Gs ha hb) fun σ H Q ⟨P,φ,sl,st,rs,s,k⟩=>⟨P,φ,sl,st,rs,s,by
  obtain ⟨a,st',e1,q⟩:=k.bind (Ra:=RA);refine ⟨a,st',e1,fun P1 φ1 H1 c f1 s1 r1=>?_⟩;obtain ⟨P2,φ2,st2,x,f2,s2,r2,k2⟩:=q P1 φ1 H1 c f1 s1 r1;cases x <;> first | exact k2.no.elim | skip
  rename_i d;simp only [RA] at r2;refine ⟨d,r2,?_⟩;cases d with
  | false=>exact ⟨P2,φ2,sl,st2,rs.frm f2,s2,k2⟩
  | true=>exact k2.pure s2 (by simp only [RA])⟩
theorem Dh [Lw] (ha:QE X a f):QE X (.UnaryOp .Not a pos) (Az f) :=
 PE_imp (DC ha) fun σ H Q ⟨P,φ,sl,st,rs,s,k⟩=>⟨P,φ,sl,st,rs,s,by
  obtain ⟨a,st',e1,q⟩:=k.bind (Ra:=RA);refine ⟨a,st',e1,fun P1 φ1 H1 c f1 s1 r1=>?_⟩;obtain ⟨P2,φ2,st2,x,f2,s2,r2,k2⟩:=q P1 φ1 H1 c f1 s1 r1;cases x <;> first | exact k2.no.elim | skip
  rename_i d;simp only [RA] at r2;exact ⟨d,r2,k2.pure s2 (by simp only [RA])⟩⟩
theorem Gk [Lw] (hc:QT X c t) (ha:QE X a f) (hb:QE X b g):QE X (.IfExp c a b pos) (IC t f g) :=
 PE_imp (xI hc ha hb) fun σ H Q ⟨P,φ,sl,st,rs,s,k⟩=>⟨P,φ,sl,st,rs,s,by
  obtain ⟨a,st',e1,q⟩:=k.bind (Ra:=RB);refine ⟨a,st',e1,fun P1 φ1 H1 c f1 s1 r1=>?_⟩;obtain ⟨P2,φ2,st2,x,f2,s2,r2,k2⟩:=q P1 φ1 H1 c f1 s1 r1;cases r2;cases c with
  | true=>exact ⟨P2,φ2,sl,st2,rs.frm f2,s2,k2⟩
  | false=>exact ⟨P2,φ2,sl,st2,rs.frm f2,s2,k2⟩⟩
end
def bM (st:aa) (x y:AV):Option AV:=match mB st x y with
 | some o=>o
 | none=>match y with
  | .int i=>match bD st x with
   | some xs=>fL xs i
   | none=>match iM st x with
    | some xs=>fL xs i
    | none=>match x with
     | .str z=>if Nat.ble z.length 1000000=true then (fL z.cps.toList i).map fun c=>.str ⟨#[c]⟩ else none
     | _=>none
  | _=>none
theorem oC {i:Int} (r:Lz mg P H φ xs vs) (h:fL xs i=some x):∃ v,fL vs i=some v/\RA mg P H φ x v:=by
 unfold fL at h ⊢;rw [<- r.length];obtain ⟨j,e1,e2⟩:=zA h;rw [e1,bind_some];exact r.get e2
theorem B6 (hu:X.A.units + 64 < cLine):IxR X (fun x y H Q=>∃ a v,x=.ref a/\DGet H a y (some v)/\Q v H):=by
 rintro value slice Lu s σ H x y v u Q I rx ry ⟨a,t,ex,g,q⟩ hs;subst ex;cases rx;have hT:=rX I g;unfold subscriptTail;refine yF ?_;rw [getitemInPython_of_ne hT.not_modules];refine yF (wpAny_specialOf hT PySem.F.slot_dict_getitem.lookup ?_);have aE:wpAny (model X.prog X.w) X.A (subscripted slice false (.ref a) u) (fun r s₃=>wpAny (model X.prog X.w) X.A (letTemporaryGo value (.ref a) r >>= fun _=>pure r) (EP X Lu σ Q) X.xe s₃) X.xe s:=by
  rw [hs];exact wpAny_operating (wx oM I g ry fun w' s3 I3 rw'=>yF (wpAny_letTemporaryGo (yG ⟨t,H,I3,rw',q⟩)))
 first
  | exact yG (yF aE)
  | exact yF (yG (yF aE))
  | exact yF aE
theorem JC [Lw] (hu:X.A.units + 64 < cLine):IxR X (r2 X.gm (kx bM)):=by
 rintro value slice Lu s σ H v w u r Q I ru rr ⟨P,φ,st,x,y,sm,rx,ry,k0⟩ hs;obtain ⟨z,e,k⟩:=k0.map;clear k0;unfold bM at e;split at e
 ·rename_i o eo
  subst e;obtain ⟨a,o',rfl,g,_,g2⟩:=qM sm eo ry rx;obtain ⟨t,rfl,rt⟩:=g2 z rfl;exact B6 hu value slice Lu s σ H _ _ u r Q I ru rr ⟨a,t,rfl,g,k.pure sm rt⟩ hs
 ·cases y with
  | int i =>
   simp only [RA] at ry;subst ry;dsimp only at e;split at e
   ·rename_i xs el
    obtain ⟨a,vs,rfl,rd,q⟩:=rx.ls sm el;obtain ⟨t,e2,rt⟩:=oC q e;exact qI value slice Lu s σ H _ _ u r Q I ru rr (.inl ⟨a,vs,i,t,rfl,rfl,rd,e2,k.pure sm rt⟩) hs
   ·split at e
    ·rename_i xs el
     obtain ⟨a,vs,rfl,rd,q⟩:=rx.tp sm el;obtain ⟨t,e2,rt⟩:=oC q e;exact qI value slice Lu s σ H _ _ u r Q I ru rr (.inr (.inl ⟨a,vs,i,t,rfl,rfl,.inl (.inl rd),e2,k.pure sm rt⟩)) hs
    ·cases x with
     | str x =>
      dsimp only at e;split at e
      ·rename_i hl
       obtain ⟨c,e1,e2⟩:=zE.mp e;subst e2;simp only [RA] at rx;subst rx;exact qI value slice Lu s σ H _ _ u r Q I ru rr (.inr (.inr ⟨x,i,c,rfl,rfl,z0 (zS hl) dC,e1,k.pure sm (by simp only [RA])⟩)) hs
      ·cases e
     | _=>cases e
  | _=>cases e
theorem Gj [Lw] (hu:X.A.units + 64 < cLine) (ha:QE X a f) (hb:QE X b g) (hs:oG b):QE X (.Subscript a b pos) (a2 f g (kx bM)) :=
 PE_imp (Gw (JC hu) ha hb hs) fun _ _ _ q=>uT q
def IA (g:AF):EF:=fun sl st=>(g sl st).bind fun p=>if Nat.ble p.1.length 1000=true then some (.tup p.1,p.2) else none
theorem Dg [Lw] {x1:Nat} (h:QA X es g):QE X (.Tuple es x1 pos) (IA g) :=
 PE_imp (DA h) fun σ H Q ⟨P,φ,sl,st,rs,s,k⟩=>⟨P,φ,sl,st,rs,s,by
  obtain ⟨a,st',e1,q⟩:=k.bind (Ra:=Lz);refine ⟨a,st',e1,fun P1 φ1 H1 vs f1 s1 r1=>?_⟩;obtain ⟨P2,φ2,st2,xs,f2,s2,r2,k2⟩:=q P1 φ1 H1 vs f1 s1 r1;dsimp only at k2;split at k2
  ·rename_i hl
   refine ⟨by rw [<- r2.length];exact z0 (zS hl) dC,fun p hp=>?_⟩;obtain ⟨f3,s3⟩:=kF (o:=.tup vs) s2 hp;obtain ⟨_,_,e5,q5⟩:=k2;cases e5;refine q5 _ _ _ _ f3 s3 ?_;simp only [RA];exact ⟨p,vs,rfl,.inr rfl,aq,r2.frm f3⟩
  ·exact k2.no.elim⟩
end
mutual
noncomputable def cA:AV->AV->Bool
 | .non,.non=>true
 | .bl a,.bl b=>a == b
 | .int a,.int b=>a == b
 | .str a,.str b=>a == b
 | .ref a,.ref b=>a == b
 | .tup a,.tup b=>fH a b
 | .fz a,.fz b=>fH a b
 | _,_=>false
noncomputable def fH:List AV->List AV->Bool
 | [],[]=>true
 | x::xs,y::ys=>cA x y && fH xs ys
 | _,_=>false
end
mutual
theorem lJ:∀ {x y:AV},cA x y=true->x=y
 | .non,y,h=>by cases y <;> simp only [cA] at h <;> first | rfl | cases h
 | .bl a,y,h=>by cases y <;> simp only [cA] at h <;> first | (rw [yK h]) | cases h
 | .int a,y,h=>by cases y <;> simp only [cA] at h <;> first | (rw [yK h]) | cases h
 | .str a,y,h=>by cases y <;> simp only [cA] at h <;> first | (rw [yK h]) | cases h
 | .ref a,y,h=>by cases y <;> simp only [cA] at h <;> first | (rw [yK h]) | cases h
 | .tup a,y,h=>by cases y <;> simp only [cA] at h <;> first | (rw [lI h]) | cases h
 | .fz a,y,h=>by cases y <;> simp only [cA] at h <;> first | (rw [lI h]) | cases h
theorem lI:∀ {xs ys:List AV},fH xs ys=true->xs=ys
 | [],ys,h=>by cases ys <;> simp only [fH] at h <;> first | rfl | cases h
 | x::xs,ys,h=>by
  cases ys with
  | nil=>simp only [fH] at h;cases h
  | cons y ys =>
   simp only [fH,zC] at h;rw [lJ h.1,lI h.2]
end
mutual
theorem wF:∀ x:AV,cA x x=true
 | .non=>by simp only [cA]
 | .bl a=>by simp [cA]
 | .int a=>by simp [cA]
 | .str a=>by simp [cA]
 | .ref a=>by simp [cA]
 | .tup a=>by simp only [cA];exact i6 a
 | .fz a=>by simp only [cA];exact i6 a
theorem i6:∀ xs:List AV,fH xs xs=true
 | []=>by simp only [fH]
 | x::xs=>by simp only [fH,wF x,i6 xs,Bool.and_self]
end
abbrev Gd:=List (Nat × Ly)
def uL:Ly->Ly->Bool
 | .lst a,.lst b=>fH a b
 | .dK a,.dK b=>decide (a.map (·.1)=b.map (·.1)) && fH (a.map (·.2)) (b.map (·.2))
 | _,_=>false
def ci:Gd->aa->Bool
 | [],_=>true
 | g::gs,st=>(match st[g.1]? with | some c=>uL c g.2 | none=>false) && ci gs st
theorem yr {k:Nat}{xs:List AV}{gs:Gd}{st:aa} (h:ci ((k,.lst xs)::gs) st=true):st[k]?=some (.lst xs)/\ci gs st=true:=by
 simp only [ci,zC] at h;refine ⟨?_,h.2⟩;have h:=h.1;split at h
 ·rename_i c e
  cases c <;> simp only [uL] at h <;> first | (cases h;done) | skip
  rw [e,lI h]
 ·cases h
theorem fm {a b:Gd}{st:aa} (h:ci (a++b) st=true):ci a st=true/\ci b st=true:=by
 induction a with
 | nil=>exact ⟨rfl,h⟩
 | cons g a ih =>
  simp only [List.cons_append,ci,zC] at h ⊢;exact ⟨⟨h.1,(ih h.2).1⟩,(ih h.2).2⟩
structure Iv where
 Lx:List AV
 gd:Gd
abbrev IF:=Sl->aa->Option (Iv × aa)
structure tD [Lw] (mg:Gm) (J:It) (iv:Iv) (P:Pr) (φ:List Addr) (H:Hp):Prop where
 go:∀ P2 φ2 H2 st2 (i:Nat) x,Frm P φ H P2 φ2 H2->Sim mg P2 φ2 st2 H2->ci iv.gd st2=true->iv.Lx[i]?=some x->J.go i H2/\∀ v H3,J.yld i H2 v H3->∃ P3,Frm P2 φ2 H2 P3 φ2 H3/\Sim mg P3 φ2 st2 H3/\RA mg P3 H3 φ2 x v
 stop:∀ P2 φ2 H2 st2,Frm P φ H P2 φ2 H2->Sim mg P2 φ2 st2 H2->ci iv.gd st2=true->J.stop iv.Lx.length H2
def rI [Lw] (mg:Gm) (f:IF):TI:=fun σ H R=>∃ P φ sl st,LG mg P H φ sl σ/\Sim mg P φ st H/\∃ iv st',f sl st=some (iv,st')/\∀ P' φ' H' J,Frm P φ H P' φ' H'->Sim mg P' φ' st' H'->tD mg J iv P' φ' H'->R J H'
def QI [Lw] (X:Cx) (tg iter:Expr) (f:IF):Prop:=PI X tg iter (rI X.gm f)
theorem gk (h:PI X tg iter t) (i:∀ σ H R,t' σ H R->t σ H R):PI X tg iter t':=fun Lu s σ H R I h'=>h Lu s σ H R I (i σ H R h')
def fF (st:aa) (v:AV):Option Iv:=match dr st v with
 | .fz xs=>some ⟨xs,[]⟩
 | .ref k=>match st[k]? with
  | some (.lst xs)=>some ⟨xs,[(k,.lst xs)]⟩
  | _=>none
 | _=>none
section
variable {mg:Gm}{P:Pr}{φ:List Addr}{st:aa}{H:Hp}{v:AV}{w:V}{iv:Iv}
theorem fE [Lw] (s:Sim mg P φ st H) (r:RA mg P H φ v w) (h:fF st v=some iv):∃ a,w=.ref a/\∀ P2 φ2 H2 st2,Frm P φ H P2 φ2 H2->Sim mg P2 φ2 st2 H2->ci iv.gd st2=true->∃ vs,aP mg.K H2 a vs/\Lz mg P2 H2 φ2 iv.Lx vs:=by
 have r:=r.dr s;unfold fF at h;split at h
 ·rename_i ys e
  cases h;rw [e] at r;simp only [RA] at r;obtain ⟨a,vs,e1,e2,q⟩:=r;refine ⟨a,e1,fun P2 φ2 H2 st2 f _ _=>⟨vs,(e2.mono f.ext).sq,?_⟩⟩;exact Lz.lift (q.mono f.ext fun k a e=>by simp at e)
 ·rename_i k e
  rw [e] at r;simp only [RA] at r;obtain ⟨a,e1,e2⟩:=r;split at h
  ·rename_i ys e3
   cases h;refine ⟨a,e2,fun P2 φ2 H2 st2 f s2 g=>?_⟩;obtain ⟨g1,_⟩:=yr g;obtain ⟨a',e4,c⟩:=s2.at g1;rw [f.ix k a e1] at e4;cases e4;obtain ⟨_,vs,q1,q2⟩:=c;exact ⟨vs,.inl (.inl q1),q2⟩
  ·cases h
 ·cases h
end
section
variable {X:Cx}{tg e a b:Expr}{es:List Expr}{pos p:Pos}
def m7 (st:aa) (v:AV):Option Iv:=match v with
 | .str x=>if x.cps.all (· < 128)=true then some ⟨x.cps.toList.map fun c=>.str ⟨#[c]⟩,[]⟩ else none
 | v=>match iM st v with
  | some xs=>some ⟨xs,[]⟩
  | none=>fF st v
def iE (f:EF):IF:=fun sl st=>(f sl st).bind fun p=>(m7 p.2 p.1).map fun iv=>(iv,p.2)
theorem Dw [Lw] (hl:PE X e tl):PI X tg e (fun σ H R=>tl σ H fun x H1=>(∃ a,x=.ref a/\(∃ xs,aP X.K H1 a xs)/\R (AI X.K a) H1)\/(∃ a,x=.ref a/\(∃ xs,fU X.K H1 a xs)/\R (AG X.K a) H1)\/∃ x':Str,x=.str x'/\x'.cps.all (· < 128)=true/\R (AH x') H1):=by
 intro Lu s σ H R I h;refine aA (hl Lu s σ H _ I h) fun v s1 hq0=>?_
 obtain ⟨x,H1,I1,r1,q1⟩:=hq0;have fp:∀ b ∈ [s1.heap.objs.size],dl X Lu H1 b:=fun b hb=>by
  have e:b=s1.heap.objs.size:=by simpa using hb
  subst e;exact I1.fpOk (zP _) (I1.LA.fresh (zP _))
 rcases q1 with ⟨a,e,⟨xs,hq⟩,q⟩ | ⟨a,e,⟨xs,hq⟩,q⟩ | ⟨y,e,hy,q⟩
 ·subst e
  cases r1;obtain ⟨Lx,rv,p,hz⟩:=I1.list hq;refine wpAny_pyIter_list p.isList ?_;exact ⟨s1.heap.objs.size,[s1.heap.objs.size],_,_,H1,rfl,I1.kept (t':=s1.toks) fun b o e=>zG _ e,u5 a _,⟨_,zY _ rfl,rfl,rfl⟩,fp,q⟩
 ·subst e
  cases r1;obtain ⟨Lx,rv,p,hz⟩:=I1.tuple hq;refine wpAny_pyIter_tuple (show s1.heap.IsTuple a Lx.toArray from p) ?_;exact ⟨s1.heap.objs.size,[s1.heap.objs.size],_,_,H1,rfl,I1.kept (t':=s1.toks) fun b o e=>zG _ e,tK a _,⟨_,zY _ rfl,rfl,rfl⟩,fp,q⟩
 ·subst e
  obtain ⟨t,rfl⟩:=r1;refine wpAny_pyIter_ascii hy ?_;exact ⟨s1.heap.objs.size,[s1.heap.objs.size],_,_,H1,rfl,I1.kept (t':=s1.toks) fun b o e=>zG _ e,w6 y t _,⟨_,zY _ rfl,rfl,rfl⟩,fp,q⟩
theorem yj [Lw] {mg:Gm}{P:Pr}{φ:List Addr}{H:Hp}{K:Frag}{a:Addr}{iv:Iv} (h:∀ P2 φ2 H2 st2,Frm P φ H P2 φ2 H2->Sim mg P2 φ2 st2 H2->ci iv.gd st2=true->∃ vs,aP K H2 a vs/\Lz mg P2 H2 φ2 iv.Lx vs):tD mg (AI K a) iv P φ H where
 go:=fun P2 φ2 H2 st2 i x f s g e=>by
  obtain ⟨vs,rd,ra⟩:=h P2 φ2 H2 st2 f s g;obtain ⟨v,e1,r1⟩:=ra.get e;refine ⟨⟨vs,v,rd,e1⟩,fun w H3 hq0=>?_⟩;obtain ⟨hH,hx⟩:=hq0;subst hH
  have:=hx vs rd
  rw [e1] at this;cases this;exact ⟨P2,Frm.refl,s,r1⟩
 stop:=fun P2 φ2 H2 st2 f s g=>by
  obtain ⟨vs,rd,ra⟩:=h P2 φ2 H2 st2 f s g;exact ⟨vs,rd,by rw [<- ra.length];exact zP _⟩
theorem B7 [Lw] {mg:Gm}{P:Pr}{φ:List Addr}{H:Hp}{K:Frag}{a:Addr}{xs:List AV}{vs:List V} (pa:P a) (ea:H a=some (.tup vs)) (ra:Lz mg P H φ xs vs):tD mg (AG K a) ⟨xs,[]⟩ P φ H where
 go:=fun P2 φ2 H2 st2 i x f s g e=>by
  obtain ⟨v,e1,r1⟩:=(ra.frm f).get e;have e2:fU K H2 a vs:=.inl (.inl ((f.ext a pa).2.trans ea));refine ⟨⟨vs,v,e2,e1⟩,fun w H3 hq0=>?_⟩;obtain ⟨hH,hx⟩:=hq0;subst hH
  have:=hx vs e2
  rw [e1] at this;cases this;exact ⟨P2,Frm.refl,s,r1⟩
 stop:=fun P2 φ2 H2 st2 f s g=>⟨vs,.inl (.inl ((f.ext a pa).2.trans ea)),by rw [<- ra.length];exact zP _⟩
theorem B8 [Lw]:tD mg (AH x) ⟨x.cps.toList.map fun c=>.str ⟨#[c]⟩,[]⟩ P φ H where
 go:=fun P2 φ2 H2 st2 i y f s g e=>by
  rw [zR] at e;obtain ⟨c,e1,e2⟩:=zE.mp e;rw [Array.getElem?_toList] at e1;subst e2;refine ⟨⟨c,e1⟩,fun w H3 hq0=>?_⟩;obtain ⟨hH,c',e3,hw⟩:=hq0;subst hH;rw [e1] at e3;cases e3;exact ⟨P2,Frm.refl,s,by simp only [RA];exact hw⟩
 stop:=fun P2 φ2 H2 st2 f s g=>by
  show x.cps[_]?=none;simp
theorem fD {st:aa}{v:AV}{iv:Iv} (h:fF st v=some iv):ci iv.gd st=true:=by
 unfold fF at h;split at h
 ·cases h;rfl
 ·split at h
  ·rename_i k _ xs hk
   cases h;simp only [ci];rw [hk];simp only [uL,i6,Bool.and_self]
  ·cases h
 ·cases h
theorem Jm [Lw] (ha:QE X e f):QI X tg e (iE f):=gk (Dw ha) fun σ H R ⟨P,φ,sl,st,rs,s,iv,st',ef,k⟩=>⟨P,φ,sl,st,rs,s,by
 unfold iE at ef;obtain ⟨p,e1,e2⟩:=zA ef;obtain ⟨iv',e3,e4⟩:=zE.mp e2;cases e4;refine ⟨p.1,p.2,e1,fun P1 φ1 H1 w f1 s1 r1=>?_⟩;unfold m7 at e3;have gen:∀ v:AV,p.1=v->(match iM p.2 v with | some xs=>some ⟨xs,[]⟩ | none=>fF p.2 v)=some iv->((∃ a,w=.ref a/\(∃ xs,aP X.K H1 a xs)/\R (AI X.K a) H1)\/(∃ a,w=.ref a/\(∃ xs,fU X.K H1 a xs)/\R (AG X.K a) H1)\/∃ x':Str,w=.str x'/\x'.cps.all (· < 128)=true/\R (AH x') H1):=by
  intro v ev e3;rw [ev] at r1;split at e3
  ·rename_i xs et
   cases e3;have r2:=r1.dr s1;unfold iM at et;split at et
   ·rename_i ys ed
    cases et;rw [ed] at r2;simp only [RA] at r2;obtain ⟨a,vs,rfl,pa,ea,ra⟩:=r2;exact .inr (.inl ⟨a,rfl,⟨vs,.inl (.inl ea)⟩,k P1 φ1 H1 _ f1 s1 (B7 pa ea ra)⟩)
   ·cases et
  ·obtain ⟨a,rfl,h⟩:=fE s1 r1 e3
   obtain ⟨vs,rd,_⟩:=h P1 φ1 H1 p.2 Frm.refl s1 (fD e3);exact .inl ⟨a,rfl,⟨vs,rd⟩,k P1 φ1 H1 _ f1 s1 (yj h)⟩
 cases hv:p.1 with
 | str x =>
  rw [hv] at e3 r1;simp only at e3;split at e3
  ·rename_i hx
   cases e3;simp only [RA] at r1;exact .inr (.inr ⟨x,r1,hx,k P1 φ1 H1 _ f1 s1 B8⟩)
  ·cases e3
 | _=>rw [hv] at e3;exact gen _ hv e3⟩
noncomputable def eZ (i:Int):Bool:=Nat.ble i.natAbs.log2 60
noncomputable def df (i:Int) (n:Nat):List AV:=(List.range n).map fun k=>.int (i + (k:Nat))
def Aj (f:EF):IF:=fun sl st=>(f sl st).bind fun p=>match p.1 with
 | .int j=>if eZ j=true then some (⟨df 0 j.toNat,[]⟩,p.2) else none
 | _=>none
def Ai (f g:EF):IF:=fun sl st=>(f sl st).bind fun p=>(g sl p.2).bind fun q=>match p.1,q.1 with
 | .int i,.int j=>if (eZ i && eZ j)=true then some (⟨df i (j - i).toNat,[]⟩,q.2) else none
 | _,_=>none
theorem fi {i:Int} (h:eZ i=true):-(2 ^ 62) <= i/\i < 2 ^ 62:=by
 have:=log2_lt h
 have e:(2:Nat) ^ (60 + 1)=2305843009213693952:=by decide
 rw [e] at this;omega
theorem sO [Lw] {i:Int}{n:Nat}:tD mg (wQ i n) ⟨df i n,[]⟩ P φ H where
 go:=fun P2 φ2 H2 st2 k y f s g e=>by
  unfold df at e;rw [zR] at e;obtain ⟨c,e1,e2⟩:=zE.mp e;obtain ⟨h1,h2⟩:=zB.mp e1;rw [List.getElem_range] at h2;subst h2 e2;rw [List.length_range] at h1;refine ⟨h1,fun w H3 hq0=>?_⟩;obtain ⟨hH,hw⟩:=hq0;subst hH;exact ⟨P2,Frm.refl,s,by simp only [RA];exact hw⟩
 stop:=fun P2 φ2 H2 st2 f s g=>by
  show n <= (df i n).length;simp [df]
theorem vm [Lw] {mg:Gm}{f:EF}{σ:St}{H:Hp}{Q:List V->Hp->Prop}{P:Pr}{φ:List Addr}{sl:Sl}{st:aa} (rs:LG mg P H φ sl σ) (s:Sim mg P φ st H)
  (h:∃ v st1,f sl st=some (v,st1)/\∀ P1 φ1 H1 w,Frm P φ H P1 φ1 H1->Sim mg P1 φ1 st1 H1->RA mg P1 H1 φ1 v w->Q [w] H1):rA mg (de f dR) σ H Q:=by
 obtain ⟨v,st1,e,k⟩:=h;refine ⟨P,φ,sl,st,rs,s,[v],st1,by simp only [de,dR,e,bind_some],fun P1 φ1 H1 ws f1 s1 r1=>?_⟩;simp only [Lz] at r1;obtain ⟨w,us,rfl,r,rfl⟩:=r1;exact k P1 φ1 H1 w f1 s1 r
theorem CY [Lw] {mg:Gm}{f g:EF}{σ:St}{H:Hp}{Q:List V->Hp->Prop}{P:Pr}{φ:List Addr}{sl:Sl}{st:aa} (rs:LG mg P H φ sl σ) (s:Sim mg P φ st H)
  (h:∃ v st1 u st2,f sl st=some (v,st1)/\g sl st1=some (u,st2)/\∀ P1 φ1 H1 w w',Frm P φ H P1 φ1 H1->Sim mg P1 φ1 st2 H1->RA mg P1 H1 φ1 v w->RA mg P1 H1 φ1 u w'->Q [w,w'] H1):rA mg (de f (de g dR)) σ H Q:=by
 obtain ⟨v,st1,u,st2,e,e',k⟩:=h;refine ⟨P,φ,sl,st,rs,s,[v,u],st2,by simp only [de,dR,e,e',bind_some],fun P1 φ1 H1 ws f1 s1 r1=>?_⟩;simp only [Lz] at r1;obtain ⟨w,us,rfl,r,w',us',rfl,r',rfl⟩:=r1;exact k P1 φ1 H1 w w' f1 s1 r r'
theorem Gc [Lw] (hg:Gl X "range") (hm:X.mg "range"=none) (ha:QE X a f) (hs:starEach [a] X.env=[(false,eval a X.env)]):QI X tg (.Call (.Name "range" p) [a] [] pos) (Aj f) :=
 gk (vD hg hm (bZ ha d7 (by rw [hs];rfl)) hs) fun σ H R hq0=>by
  obtain ⟨P,φ,sl,st,rs,s,iv,st',ef,k⟩:=hq0;obtain ⟨q,e1,e2⟩:=zA ef;refine vm rs s ⟨q.1,q.2,e1,fun P1 φ1 H1 w f1 s1 r1=>?_⟩;split at e2
  ·rename_i j ej
   rw [ej] at r1;split at e2
   ·rename_i hb
    cases e2;simp only [RA] at r1;subst r1;exact ⟨j,rfl,(fi hb).1,(fi hb).2,k P1 φ1 H1 _ f1 s1 sO⟩
   ·cases e2
  ·cases e2
theorem Gb [Lw] (hg:Gl X "range") (hm:X.mg "range"=none) (ha:QE X a f) (hb:QE X b g) (hs:starEach [a,b] X.env=[(false,eval a X.env),(false,eval b X.env)]) (hs2:starEach [b] X.env=[(false,eval b X.env)]) :
  QI X tg (.Call (.Name "range" p) [a,b] [] pos) (Ai f g) :=
 gk (vC hg hm (bZ ha (bZ hb d7 (by rw [hs2];rfl)) (by rw [hs,hs2])) hs hs2) fun σ H R hq0=>by
  obtain ⟨P,φ,sl,st,rs,s,iv,st',ef,k⟩:=hq0;obtain ⟨q,e1,e2⟩:=zA ef;obtain ⟨r,e3,e4⟩:=zA e2;refine CY rs s ⟨q.1,q.2,r.1,r.2,e1,e3,fun P1 φ1 H1 w w' f1 s1 r1 r2=>?_⟩;split at e4
  ·rename_i i j ei ej
   rw [ei] at r1;rw [ej] at r2;split at e4
   ·rename_i hb
    cases e4;obtain ⟨h1,h2⟩:=Bool.and_eq_true_iff.mp hb;simp only [RA] at r1 r2;subst r1;subst r2;exact ⟨i,j,rfl,⟨(fi h1).1,(fi h1).2,(fi h2).1,(fi h2).2⟩,k P1 φ1 H1 _ f1 s1 sO⟩
   ·cases e4
  ·cases e4
def iZ (f g:EF):IF:=fun sl st=>(f sl st).bind fun p=>(g sl p.2).bind fun q=>(fF q.2 p.1).bind fun x=>(fF q.2 q.1).bind fun y=>some (⟨(x.Lx.zip y.Lx).map fun z=>.tup [z.1,z.2],x.gd++y.gd⟩,q.2)
theorem sH [Lw] {mg:Gm}{P:Pr}{φ:List Addr}{st:aa}{H:Hp}{p:Addr}{x y:AV}{u w:V} (s:Sim mg P φ st H) (hp:H p=none) (rx:RA mg P H φ x u) (ry:RA mg P H φ y w) :
  ∃ P3,Frm P φ H P3 φ (af H p (.tup [u,w]))/\Sim mg P3 φ st (af H p (.tup [u,w]))/\RA mg P3 (af H p (.tup [u,w])) φ (.tup [x,y]) (.ref p):=by
 obtain ⟨f3,s3⟩:=kF (o:=.tup [u,w]) s hp;refine ⟨_,f3,s3,?_⟩;simp only [RA];exact ⟨p,[u,w],rfl,.inr rfl,aq,aI (rx.frm f3) (aI (ry.frm f3) aX)⟩
theorem Db [Lw] {x1:Nat} (hg:Gl X "zip") (hm:X.mg "zip"=none) (ha:QE X a f) (hb:QE X b g) (hs:starEach [a,b] X.env=[(false,eval a X.env),(false,eval b X.env)]) (hs2:starEach [b] X.env=[(false,eval b X.env)]) :
  QI X (.Tuple elts x1 tpos) (.Call (.Name "zip" p) [a,b] [] pos) (iZ f g) :=
 gk (Dv hg hm (bZ ha (bZ hb d7 (by rw [hs2];rfl)) (by rw [hs,hs2])) hs hs2) fun σ H R hq0=>by
  obtain ⟨P,φ,sl,st,rs,s,iv,st',ef,k⟩:=hq0;obtain ⟨q,e1,e2⟩:=zA ef;obtain ⟨r,e3,e4⟩:=zA e2;obtain ⟨x,e5,e6⟩:=zA e4;obtain ⟨y,e7,e8⟩:=zA e6;cases e8;refine CY rs s ⟨q.1,q.2,r.1,r.2,e1,e3,fun P1 φ1 H1 w w' f1 s1 r1 r2=>?_⟩;obtain ⟨a1,rfl,h1⟩:=fE s1 r1 e5;obtain ⟨a2,rfl,h2⟩:=fE s1 r2 e7;obtain ⟨vs,rd1,_⟩:=h1 P1 φ1 H1 r.2 Frm.refl s1 (fD e5);obtain ⟨us,rd2,_⟩:=h2 P1 φ1 H1 r.2 Frm.refl s1 (fD e7);refine ⟨a1,a2,rfl,⟨vs,rd1⟩,⟨us,rd2⟩,k P1 φ1 H1 _ f1 s1 ⟨fun P2 φ2 H2 st2 i t f2 s2 g2 et=>?_,fun P2 φ2 H2 st2 f2 s2 g2=>?_⟩⟩
  ·obtain ⟨ga,gb⟩:=fm g2
   obtain ⟨vs2,d1,q1⟩:=h1 P2 φ2 H2 st2 f2 s2 ga;obtain ⟨us2,d2,q2⟩:=h2 P2 φ2 H2 st2 f2 s2 gb;rw [zR] at et;obtain ⟨z,ez,et⟩:=zE.mp et;subst et;obtain ⟨hx,hy⟩:=List.getElem?_zip_eq_some.mp ez;obtain ⟨u1,c1,b1⟩:=q1.get hx;obtain ⟨u2,c2,b2⟩:=q2.get hy;refine ⟨⟨vs2,us2,u1,u2,d1,d2,c1,c2⟩,fun v H3 hq0=>?_⟩;obtain ⟨pp,u,w,k1,k2,hp,hH,hv⟩:=hq0;have k1:=k1 vs2 d1;have k2:=k2 us2 d2;rw [c1] at k1;rw [c2] at k2;cases k1;cases k2;subst hH;subst hv;exact sH s2 hp b1 b2
  ·obtain ⟨ga,gb⟩:=fm g2
   obtain ⟨vs2,d1,q1⟩:=h1 P2 φ2 H2 st2 f2 s2 ga;obtain ⟨us2,d2,q2⟩:=h2 P2 φ2 H2 st2 f2 s2 gb;refine ⟨vs2,us2,d1,d2,?_⟩;rw [<- q1.length,<- q2.length];simp only [zH,List.length_zip];omega
noncomputable def bT (n0:Nat) (xs:List AV):List AV:=(xs.zipIdx n0).map fun z=>.tup [.int ((z.2:Nat):Int),z.1]
theorem qJ [Lw] {mg:Gm}{P:Pr}{φ:List Addr}{H:Hp}{K:Frag}{a:Addr}{iv:Iv}{n0:Nat} (h:∀ P2 φ2 H2 st2,Frm P φ H P2 φ2 H2->Sim mg P2 φ2 st2 H2->ci iv.gd st2=true->∃ vs,aP K H2 a vs/\Lz mg P2 H2 φ2 iv.Lx vs):tD mg (wR K a n0) ⟨bT n0 iv.Lx,iv.gd⟩ P φ H where
 go:=fun P2 φ2 H2 st2 i x f s g e=>by
  obtain ⟨vs,rd,ra⟩:=h P2 φ2 H2 st2 f s g;unfold bT at e;rw [zR,List.getElem?_zipIdx] at e;cases hz:iv.Lx[i]? with
  | none=>rw [hz] at e;cases e
  | some y =>
   rw [hz] at e;cases e;obtain ⟨v,e1,r1⟩:=ra.get hz;refine ⟨⟨vs,v,rd,e1⟩,fun w H3 hq0=>?_⟩;obtain ⟨pp,u,hx,hp,hH,hw⟩:=hq0
   have:=hx vs rd
   rw [e1] at this;cases this;subst hH;subst hw;exact sH s hp (by simp only [RA]) r1
 stop:=fun P2 φ2 H2 st2 f s g=>by
  obtain ⟨vs,rd,ra⟩:=h P2 φ2 H2 st2 f s g;exact ⟨vs,rd,by rw [<- ra.length];simp [bT]⟩
def Iq (f:EF):IF:=fun sl st=>(f sl st).bind fun p=>(fF p.2 p.1).map fun iv=>(⟨bT 0 iv.Lx,iv.gd⟩,p.2)
theorem Gf [Lw] {x1:Nat} (hg:Gl X "enumerate") (hm:X.mg "enumerate"=none) (ha:QE X a f) (hs:starEach [a] X.env=[(false,eval a X.env)]) :
  QI X (.Tuple elts x1 tpos) (.Call (.Name "enumerate" p) [a] [] pos) (Iq f) :=
 gk (Bw hg hm (bZ ha d7 (by rw [hs];rfl)) hs) fun σ H R hq0=>by
  obtain ⟨P,φ,sl,st,rs,s,iv,st',ef,k⟩:=hq0;obtain ⟨q,e1,e2⟩:=zA ef;obtain ⟨iv',e3,e4⟩:=zE.mp e2;cases e4;refine vm rs s ⟨q.1,q.2,e1,fun P1 φ1 H1 w f1 s1 r1=>?_⟩;obtain ⟨a1,rfl,h1⟩:=fE s1 r1 e3;obtain ⟨vs,rd1,_⟩:=h1 P1 φ1 H1 q.2 Frm.refl s1 (fD e3);exact ⟨a1,rfl,⟨vs,rd1⟩,k P1 φ1 H1 _ f1 s1 (qJ h1)⟩
end
end R
namespace L2
open PySem PySem.Spec PyProof.Rows
section
variable {prog:Program}{w:World}{A:Around}{E:Value->Shared->Prop}{s:Shared}
theorem wv (l:Addr) (items:Array Value) (n:Nat) (dct:Option Addr) (sl:Array (Option Value)) (t:Tok) (i:Int) (hf:Builtin.SmallTypes.fitsIndex i=true) :
  Meets (Builtin.«enumerate.__new__» ⟨[.type "enumerate",.ref l],[("start",.int i t)]⟩) (fun _ R s=>s.heap.get? l=some { cls:=.type "list",dict:=dct,data:=.seq items n,slots:=sl } /\
   R (.ok (.ret (.ref (s.heap.push { cls:=.type "list_iterator",data:=.fields #[.ref l,.int 0 0] }).objs.size)))
    { s with heap:=(s.heap.push { cls:=.type "list_iterator",data:=.fields #[.ref l,.int 0 0] }).push { cls:=.type "enumerate",data:=.fields #[.none,.bool false,.ref s.heap.objs.size,rawInt i,.none,.none] } }):=Meets.of_wp fun prog w A R s h=>by
  obtain ⟨hp,g,d,tk,os⟩:=s;obtain ⟨hl,h⟩:=h;have hsub:=sub_enumerate;have hL:Heap.IsList (Shared.heap ⟨hp,g,d,tk,os⟩) l items:=⟨_,hl,rfl,n,rfl⟩
  wp_walk using AutoSeq1.wpAny_loadPart' hl
  refine wpAny_stack_any fun st=>yG ?_
  split
  ·rename_i c _ _ _ _ _
   cases (c == Value.type "enumerate")
   ·wp_walk using AutoSeq1.wpAny_loadPart' hl,wpAny_pyIter_list hL
    exact ⟨_,rfl,h⟩
   ·wp_walk using AutoSeq1.wpAny_loadPart' hl,wpAny_pyIter_list hL
    exact ⟨_,rfl,h⟩
  ·wp_walk using AutoSeq1.wpAny_loadPart' hl,wpAny_pyIter_list hL
   exact ⟨_,rfl,h⟩
theorem uJ {l:Addr}{items:Array Value}{t:Tok}{i:Int}{Q:Value->Shared->Prop} (hf:Builtin.SmallTypes.fitsIndex i=true) (hL:s.heap.IsList l items)
  (h:∀ h',IsEnum h' (s.heap.objs.size + 1) s.heap.objs.size i .none->h'.IsListIter s.heap.objs.size l 0->(∀ b o,s.heap.get? b=some o->h'.get? b=some o)->Q (.ref (s.heap.objs.size + 1)) { s with heap:=h' }) :
  wpAny (model prog w) A (call (.type "enumerate") [.ref l] [("start",.int i t)]) Q E s:=by
 obtain ⟨⟨c0,dct,dt,sl⟩,hl,hc0,n,hd⟩:=hL;dsimp only at hc0 hd;subst hc0 hd;have ft:=F.called_enumerate;obtain ⟨c,tl,hmro⟩:=ft.mro;have hmade:=ft.made;have hsub:=ft.sub;have h1:=ft.notType;have h2:=ft.canCreate;have hct:=pQ (.ref l) (.int i t);have hcn:=pq (.ref l) (.int i t);refine wpAny_call (codeAny_of_tree ?_);show wpAny _ _ (callAny (.type "enumerate") _) _ _ _;refine yG ⟨Code.quiet_builtin _ (by decide +kernel),codeAny_builtin F.entry_type_call ?_⟩;rw [Around.under_plain (weight_type_call_type "enumerate" _ _) (units_type_call_type "enumerate" _ _)]
 repeat (any_goals (first | assumption | wp_step))
 have hz:(s.heap.push { cls:=.type "list_iterator",data:=.fields #[.ref l,.int 0 0] }).objs.size=s.heap.objs.size + 1:=Heap.size_push ..;have he:=zY (s.heap.push { cls:=.type "list_iterator",data:=.fields #[.ref l,.int 0 0] }) (o:={ cls:=.type "enumerate",data:=.fields #[.none,.bool false,.ref s.heap.objs.size,rawInt i,.none,.none] }) rfl;rw [hz] at he;refine codeAny_mono (codeAny_call_builtin (R:=wants (fun obj s₁=>s₁.TypeIs obj "enumerate"/\Q obj s₁) E) ft.plain F.entry_enumerate_new (wpAny_of_eq hcn (wv l items n dct sl t i hf prog w A.in1 _ s ⟨hl,?_⟩))) fun r s₁ hr=>?_
 ·show _/\_
  rw [hz];exact ⟨⟨_,he,rfl⟩,h _ he ⟨_,zG _ (zY _ rfl),rfl,rfl⟩ fun b o x=>zG _ (zG _ x)⟩
 ·cases r with
  | error e=>exact hr
  | ok fl =>
   cases fl with
   | ret obj =>
    obtain ⟨hT,hq0⟩:=hr;have hli:=ft.init.lookup;have hbi:=ft.init.bind obj
    repeat (any_goals (first | assumption | wp_step))
    refine codeAny_mono (codeAny_call_builtin (R:=wants (fun r s₂=>r=.none/\Q obj s₂) E) ft.init.plain F.entry_object_init (ft.init.check _ _ _ _ _ _ _ _ hT (ou obj (.ref l) (.int i t)) (uz ft.init.lookup ft.made dC prog w A.in1 _ s₁ ⟨hT,rfl,hq0⟩))) fun r₂ s₂ hr₂=>?_
    cases r₂ with
    | error e=>exact hr₂
    | ok fl₂ =>
     cases fl₂ with
     | ret r =>
      obtain ⟨rfl,hq⟩:=hr₂
      repeat (any_goals (first | assumption | wp_step))
     | _=>exact hr₂.elim
   | _=>exact hr.elim
end
end L2
namespace R
open PySem PySem.Spec PyProof.Rows L2
open DD (PE_imp PT_imp PA_imp PS_imp PSs_imp OpR_imp PW_imp PG_imp pyOk)
section
variable {X:Cx}{tg e a b:Expr}{es:List Expr}{pos p kp:Pos}
theorem xB [Lw] {x1:Nat} (hg:Gl X "enumerate") (hm:X.mg "enumerate"=none) (ha:PA X [a] ta) (hb:PE X b tb) (hs:starEach [a] X.env=[(false,eval a X.env)]) :
  PI X (.Tuple elts x1 tpos) (.Call (.Name "enumerate" p) [a] [⟨some "start",b,kp⟩] pos) (fun σ H R=>ta σ H fun vs H1=>tb σ H1 fun y H2=>∃ l n0,vs=[.ref l]/\y=.int ((n0:Nat):Int)/\n0 <= 1000000/\(∃ xs,aP X.K H2 l xs)/\R (wR X.K l n0) H2):=by
 intro Lu s σ H R I h;refine wpAny_Call_Name_kw (cV I hg hm o8 (rj (by rw [hs];rfl) (by rfl) ?_));have hA:=ha pos Lu s σ H _ I h;rw [hs] at hA ⊢;refine PyProof.Rows.evalArgs_kwB (by rfl) (xb hA fun us s1 hq0=>?_);obtain ⟨vs,H1,I1,r1,q1⟩:=hq0;refine PyProof.Rows.kws_cons (aA (hb Lu s1 σ H1 _ I1 q1) fun u s2 ⟨y,H2,I2,r2,l,n0,e1,e2,hn,⟨xs,hq⟩,q⟩=>PyProof.Rows.kws_nil ?_);subst e1;subst e2;obtain ⟨t,rfl⟩:=r2;cases r1 with
 | cons r rr =>
  cases rr;cases r;obtain ⟨Lx,rv,p1,_⟩:=I2.list hq;show wpAny _ _ (call (.type "enumerate") [.ref l] [("start",.int ((n0:Nat):Int) t)]) _ _ _;refine uJ (s:=s2) ?_ p1.isList fun h' he hi hk=>?_
  ·unfold Builtin.SmallTypes.fitsIndex
   simp only [zC,yC];omega
  refine wpAny_pyIter_enum (s:={ s2 with heap:=h' }) he ?_;exact qU (t':=s2.toks) (n0:=n0) I2 he hi hk q
def uA (f g:EF):IF:=fun sl st=>(f sl st).bind fun p=>(g sl p.2).bind fun q=>match q.1 with
 | .int i=>if (decide (0 <= i) && Nat.ble i.natAbs 1000000)=true then (fF q.2 p.1).map fun iv=>(⟨bT i.toNat iv.Lx,iv.gd⟩,q.2) else none
 | _=>none
theorem Dc [Lw] {x1:Nat} (hg:Gl X "enumerate") (hm:X.mg "enumerate"=none) (ha:QE X a f) (hb:QE X b g) (hs:starEach [a] X.env=[(false,eval a X.env)]) :
  QI X (.Tuple elts x1 tpos) (.Call (.Name "enumerate" p) [a] [⟨some "start",b,kp⟩] pos) (uA f g) :=
 gk (xB hg hm (bZ ha d7 (by rw [hs];rfl)) hb hs) fun σ H R hq0=>by
  obtain ⟨P,φ,sl,st,rs,s,iv,st',ef,k⟩:=hq0;obtain ⟨q,e1,e2⟩:=zA ef;obtain ⟨r,e3,e4⟩:=zA e2;refine vm rs s ⟨q.1,q.2,e1,fun P1 φ1 H1 w f1 s1 r1=>⟨P1,φ1,sl,q.2,rs.frm f1,s1,r.1,r.2,e3,fun P2 φ2 H2 w2 f2 s2 r2=>?_⟩⟩;split at e4
  ·rename_i i ei
   rw [ei] at r2;simp only [RA] at r2;subst r2;split at e4
   ·rename_i hc
    simp only [zC,yC] at hc;have hc2:=zS hc.2;obtain ⟨iv',e5,e6⟩:=zE.mp e4;cases e6;obtain ⟨a1,rfl,h1⟩:=fE s2 (r1.frm f2) e5;obtain ⟨vs,rd1,_⟩:=h1 P2 φ2 H2 r.2 Frm.refl s2 (fD e5);exact ⟨a1,i.toNat,rfl,by rw [Int.toNat_of_nonneg hc.1],by omega,⟨vs,rd1⟩,k P2 φ2 H2 _ (f1.trans f2) s2 (qJ h1)⟩
   ·cases e4
  ·cases e4
end
mutual
noncomputable def rf:AV->Bool
 | .ref _=>false
 | .tup xs=>rfs xs
 | _=>true
noncomputable def rfs:List AV->Bool
 | []=>true
 | x::xs=>rf x && rfs xs
end
mutual
theorem RA.rf:∀ {t:AV}{v:V},R.rf t=true->RA mg P H φ t v->RA mg P H ψ t v
 | .non,_,_,h=>by simp only [RA] at h ⊢;exact h
 | .bl _,_,_,h=>by simp only [RA] at h ⊢;exact h
 | .int _,_,_,h=>by simp only [RA] at h ⊢;exact h
 | .str _,_,_,h=>by simp only [RA] at h ⊢;exact h
 | .fz _,_,_,h=>by simp only [RA] at h ⊢;exact h
 | .ref k,_,e,_=>by simp only [R.rf] at e;cases e
 | .tup xs,_,e,h=>by
  simp only [RA,R.rf] at h e ⊢;obtain ⟨a,vs,r,p,e',q⟩:=h;exact ⟨a,vs,r,p,e',Lz.rf e q⟩
theorem Lz.rf:∀ {ts:List AV}{vs:List V},R.rfs ts=true->Lz mg P H φ ts vs->Lz mg P H ψ ts vs
 | [],_,_,h=>by simp only [Lz] at h ⊢;exact h
 | t::ts,_,e,h=>by
  simp only [Lz,R.rfs,zC] at h e ⊢;obtain ⟨v,ws,e',r,q⟩:=h;exact ⟨v,ws,e',RA.rf e.1 r,Lz.rf e.2 q⟩
end
abbrev NF:=Sl->aa->Option (List AV × aa)
def rN [Lw] (mg:Gm) (f:NF):TE:=fun σ H Q=>∃ P φ sl st,LG mg P H φ sl σ/\Sim mg P φ st H/\∃ xs st',f sl st=some (xs,st') /\
 ∀ P' φ' H' p vs,Frm P φ H P' φ' H'->Sim mg P' φ' st' H'->H' p=none->Lz mg P' H' φ' xs vs->Q (.ref p) (af H' p (.lst vs))
def QN [Lw] (X:Cx) (e:Expr) (f:NF):Prop:=PE X e (rN X.gm f)
def KC (f:NF):EF:=fun sl st=>(f sl st).bind fun p=>if rfs p.1=true then some (.fz p.1,p.2) else none
def KB (f:NF):EF:=fun sl st=>(f sl st).bind fun p=>some (.ref p.2.length,p.2++[.lst p.1])
theorem E4 [Lw] {mg:Gm}{P:Pr}{φ:List Addr}{st:aa}{H:Hp}{p:Addr}{xs:List AV}{vs:List V} (s:Sim mg P φ st H) (hp:H p=none) (hr:rfs xs=true) (r:Lz mg P H φ xs vs) :
  ∃ P3,Frm P φ H P3 φ (af H p (.lst vs))/\Sim mg P3 φ st (af H p (.lst vs))/\RA mg P3 (af H p (.lst vs)) φ (.fz xs) (.ref p):=by
 obtain ⟨f3,s3⟩:=kF (o:=.lst vs) s hp;refine ⟨_,f3,s3,?_⟩;simp only [RA];exact ⟨p,vs,rfl,.inl ⟨.inr rfl,.inl aq⟩,Lz.rf hr (r.frm f3)⟩
theorem Ej [Lw] {mg:Gm}{P:Pr}{φ:List Addr}{st:aa}{H:Hp}{p:Addr}{xs:List AV}{vs:List V} (s:Sim mg P φ st H) (hp:H p=none) (r:Lz mg P H φ xs vs) :
  Frm P φ H P (φ++[p]) (af H p (.lst vs))/\Sim mg P (φ++[p]) (st++[.lst xs]) (af H p (.lst vs))/\RA mg P (af H p (.lst vs)) (φ++[p]) (.ref st.length) (.ref p):=by
 have ne:∀ a,H a ≠ none->a ≠ p:=fun a h e=>h (by rw [e];exact hp)
 obtain ⟨f3,s3⟩:=mv (c:=.lst xs) (o:=.lst vs) s hp ⟨fun z=>s.dom p z hp,vs,aq,r.mono (fun a h=>⟨h,ad (ne a (s.dom a h))⟩) fun k a e=>by rw [zN (zB.mp e).1];exact e⟩;refine ⟨f3,s3,?_⟩;simp only [RA];exact ⟨p,by rw [<- s.len];simp,rfl⟩
section
variable {X:Cx}{e a b:Expr}{es:List Expr}{pos:Pos}{f:NF}
noncomputable def bv (n:Nat):Bool:=Nat.ble n 1000000
theorem jp {n:Nat} (h:bv n=true):n <= sizeLine:=z0 (zS h) dC
def Ie (g:AF):NF:=fun sl st=>(g sl st).bind fun p=>if bv p.1.length=true then some p else none
theorem A8 [Lw] (h:QA X es g):QN X (.List es pos) (Ie g) :=
 PE_imp (vF h) fun σ H Q hq0=>by
  obtain ⟨P,φ,sl,st,rs,s,xs,st',ef,k⟩:=hq0;obtain ⟨q,e1,e2⟩:=zA ef;split at e2
  ·rename_i hz
   cases e2;exact ⟨P,φ,sl,st,rs,s,xs,st',e1,fun P1 φ1 H1 vs f1 s1 r1=>⟨by rw [<- r1.length];exact jp hz,fun p hp=>k P1 φ1 H1 p vs f1 s1 hp r1⟩⟩
  ·cases e2
def ue (f g:EF):NF:=fun sl st=>(f sl st).bind fun p=>(g sl p.2).bind fun q=>(bD q.2 p.1).bind fun xs=>(bD q.2 q.1).bind fun ys=>if bv (xs.length + ys.length)=true then some (xs++ys,q.2) else none
theorem Da [Lw] {f g:EF} (ha:QE X a f) (hb:QE X b g):QN X (.BinOp a .Add b pos) (ue f g) :=
 PE_imp (tW BJ ha hb) fun σ H Q hq0=>by
  obtain ⟨P,φ,sl,st,rs,s,xs,st',ef,k⟩:=hq0;obtain ⟨q,e1,e2⟩:=zA ef;obtain ⟨r,e3,e4⟩:=zA e2;obtain ⟨x,e5,e6⟩:=zA e4;obtain ⟨y,e7,e8⟩:=zA e6;split at e8
  ·rename_i hz
   cases e8;refine ⟨P,φ,sl,st,rs,s,q.1,q.2,e1,fun P1 φ1 H1 w f1 s1 r1=>⟨P1,φ1,sl,q.2,rs.frm f1,s1,r.1,r.2,e3,fun P2 φ2 H2 w2 f2 s2 r2=>?_⟩⟩;obtain ⟨a1,vs,rfl,d1,q1⟩:=(r1.frm f2).ls s2 e5;obtain ⟨a2,us,rfl,d2,q2⟩:=r2.ls s2 e7;exact ⟨a1,a2,vs,us,rfl,rfl,d1,d2,by rw [<- q1.length,<- q2.length];exact jp hz,fun p hp=>k P2 φ2 H2 p _ (f1.trans f2) s2 hp (q1.app q2)⟩
  ·cases e8
def t0 (g:AF) (f:EF):NF:=fun sl st=>(g sl st).bind fun p=>(f sl p.2).bind fun q=>match q.1 with
 | .int k=>if (eZ k && bv (p.1.length * k.toNat) && bv p.1.length)=true then some ((List.replicate k.toNat p.1).flatten,q.2) else none
 | _=>none
theorem Lz.rep (h:Lz mg P H φ xs vs):∀ k:Nat,Lz mg P H φ (List.replicate k xs).flatten (List.replicate k vs).flatten
 | 0=>aX
 | k + 1=>by rw [List.replicate_succ,List.replicate_succ,List.flatten_cons,List.flatten_cons];exact h.app (Lz.rep h k)
theorem C6 [Lw] {g:AF}{f:EF}{pos':Pos} (h:QA X es g) (hb:QE X b f):QN X (.BinOp (.List es pos') .Mult b pos) (t0 g f) :=
 PE_imp (tW DN (vF h) hb) fun σ H Q hq0=>by
  obtain ⟨P,φ,sl,st,rs,s,xs,st',ef,k⟩:=hq0;obtain ⟨q,e1,e2⟩:=zA ef;obtain ⟨r,e3,e4⟩:=zA e2;split at e4
  ·rename_i j ej
   split at e4
   ·rename_i hc
    cases e4;simp only [zC] at hc;refine ⟨P,φ,sl,st,rs,s,q.1,q.2,e1,fun P1 φ1 H1 vs f1 s1 r1=>⟨by rw [<- r1.length];exact jp hc.2,fun p hp=>?_⟩⟩
    -- the list itself is a cell that nobody has
    obtain ⟨f2,s2⟩:=kF (o:=.lst vs) s1 hp;refine ⟨_,φ1,sl,q.2,(rs.frm f1).frm f2,s2,r.1,r.2,e3,fun P3 φ3 H3 w f3 s3 r3=>?_⟩;rw [ej] at r3;simp only [RA] at r3;subst r3;have hH:H3 p=some (.lst vs):=by rw [(f3.ext p (.inr rfl)).2,aq]
    have hj:=fi hc.1.1;refine ⟨p,j,vs,rfl,rfl,hH,by omega,by omega,by rw [<- r1.length];exact jp hc.1.2,fun p' hp'=>?_⟩;exact k P3 φ3 H3 p' _ ((f1.trans f2).trans f3) s3 hp' (Lz.rep ((r1.frm f2).frm f3) _)
   ·cases e4
  ·cases e4
abbrev OF:=Sl->aa->Option (Option Int × aa)
def rO [Lw] (mg:Gm) (f:OF):TO:=fun σ H Q=>∃ P φ sl st,LG mg P H φ sl σ/\Sim mg P φ st H/\KG mg RB P φ H (f sl st) Q
def QO [Lw] (X:Cx) (e:Option Expr) (f:OF):Prop:=PO X e (rO X.gm f)
def Ic:OF:=fun _ st=>some (none,st)
def sG (f:EF):OF:=fun sl st=>(f sl st).bind fun p=>match p.1 with
 | .int i=>some (some i,p.2)
 | _=>none
theorem tz (h:PO X eo t) (i:∀ σ H Q,t' σ H Q->t σ H Q):PO X eo t':=fun Lu s σ H Q I h'=>h Lu s σ H Q I (i σ H Q h')
theorem A7 [Lw]:QO X none Ic:=tz Bs fun σ H Q ⟨P,φ,sl,st,rs,s,k⟩=>k.pure s rfl
theorem A6 [Lw] {f:EF} (h:QE X e f):QO X (some e) (sG f):=tz (Br h) fun σ H Q ⟨P,φ,sl,st,rs,s,k⟩=>⟨P,φ,sl,st,rs,s,by
 obtain ⟨a,st',e1,q⟩:=k.bind (Ra:=RA);refine ⟨a,st',e1,fun P1 φ1 H1 c f1 s1 r1=>?_⟩;obtain ⟨P2,φ2,st2,x,f2,s2,r2,k2⟩:=q P1 φ1 H1 c f1 s1 r1;cases x <;> first | exact k2.no.elim | skip
 rename_i i;simp only [RA] at r2;exact ⟨i,r2,k2.pure s2 rfl⟩⟩
def cut {α:Type} (xs:List α) (lo hi:Option Int):List α:=(xs.drop (HT.Mg xs.length 0 lo)).take (HT.Mg xs.length xs.length hi - HT.Mg xs.length 0 lo)
theorem Lz.cut (h:Lz mg P H φ xs vs) (lo hi:Option Int):Lz mg P H φ (R.cut xs lo hi) (oz vs lo hi):=by
 unfold R.cut oz;rw [h.length];exact (h.drop _).take _
theorem Jf [Lw] {mg:Gm}{f:EF}{l h:OF}{σ:St}{H:Hp}{P:Pr}{φ:List Addr}{sl:Sl}{st:aa} (rs:LG mg P H φ sl σ) (s:Sim mg P φ st H) {r:V->Option Int->Option Int->Hp->VK->Prop}{Q:VK}
  (k:∃ v st1 lo st2 hi st3,f sl st=some (v,st1)/\l sl st1=some (lo,st2)/\h sl st2=some (hi,st3)/\∀ P' φ' H' w,Frm P φ H P' φ' H'->Sim mg P' φ' st3 H'->RA mg P' H' φ' v w->r w lo hi H' Q):HK r (rE mg f) (rO mg l) (rO mg h) σ H Q:=by
 obtain ⟨v,st1,lo,st2,hi,st3,e1,e2,e3,k⟩:=k;refine ⟨P,φ,sl,st,rs,s,v,st1,e1,fun P1 φ1 H1 w f1 s1 r1=>⟨P1,φ1,sl,st1,rs.frm f1,s1,lo,st2,e2,fun P2 φ2 H2 lo' f2 s2 r2=>⟨P2,φ2,sl,st2,(rs.frm f1).frm f2,s2,hi,st3,e3,fun P3 φ3 H3 hi' f3 s3 r3=>?_⟩⟩⟩;cases r2;cases r3;exact k P3 φ3 H3 w ((f1.trans f2).trans f3) s3 ((r1.frm f2).frm f3)
def sI (f:EF) (l h:OF):NF:=fun sl st=>(f sl st).bind fun p=>(l sl p.2).bind fun q=>(h sl q.2).bind fun r=>(bD r.2 p.1).map fun xs=>(cut xs q.1 r.1,r.2)
theorem F9 [Lw] {f:EF}{l h:OF}{lo hi:Option Expr}{p2:Pos} (ha:QE X a f) (hl:QO X lo l) (hh:QO X hi h):QN X (.Subscript a (.Slice lo hi none p2) pos) (sI f l h) :=
 PE_imp (xF AX ha hl hh) fun σ H Q hq0=>by
  obtain ⟨P,φ,sl,st,rs,s,xs,st',ef,k⟩:=hq0;obtain ⟨q,e1,e2⟩:=zA ef;obtain ⟨r,e3,e4⟩:=zA e2;obtain ⟨t,e5,e6⟩:=zA e4;obtain ⟨ys,e7,e8⟩:=zE.mp e6;cases e8;refine Jf rs s ⟨q.1,q.2,r.1,r.2,t.1,t.2,e1,e3,e5,fun P1 φ1 H1 w f1 s1 r1=>?_⟩;obtain ⟨a1,vs,rfl,d1,q1⟩:=r1.ls s1 e7;exact ⟨a1,vs,rfl,d1,fun p hp=>k P1 φ1 H1 p _ f1 s1 hp (q1.cut _ _)⟩
def og (f:EF):NF:=fun sl st=>(f sl st).bind fun p=>match bD p.2 p.1 with
 | some xs=>some (xs,p.2)
 | none=>(iM p.2 p.1).map fun xs=>(xs,p.2)
theorem C9 [Lw] {f:EF}{p pos:Pos} (hg:Gl X "list") (hm:X.mg "list"=none) (ha:QE X a f) (hs:starEach [a] X.env=[(false,eval a X.env)]):QN X (.Call (.Name "list" p) [a] [] pos) (og f) :=
 PE_imp (oO rg hg hm jS (bZ ha d7 (by rw [hs];rfl)) (he:=by rw [hs];rfl) (hpl:=rfl)) fun σ H Q hq0=>by
  obtain ⟨P,φ,sl,st,rs,s,xs,st',ef,k⟩:=hq0;obtain ⟨q,e1,e2⟩:=zA ef;refine vm rs s ⟨q.1,q.2,e1,fun P1 φ1 H1 w f1 s1 r1=>?_⟩;split at e2
  ·rename_i ys e3
   cases e2;obtain ⟨a1,vs,rfl,d1,q1⟩:=r1.ls s1 e3;exact ⟨a1,vs,rfl,.inl d1,fun p hp=>k P1 φ1 H1 p vs f1 s1 hp q1⟩
  ·obtain ⟨ys,e3,e4⟩:=zE.mp e2
   cases e4;obtain ⟨a1,vs,rfl,d1,q1⟩:=r1.tp s1 e3;exact ⟨a1,vs,rfl,.inr (.inl (.inl d1)),fun p hp=>k P1 φ1 H1 p vs f1 s1 hp q1⟩
end
abbrev GF:=AV->Sl->aa->Option (Sl × aa)
abbrev rP:=List AV->Sl->aa->Option (Sl × aa)
def KS [Lw] (mg:Gm) (P:Pr) (φ:List Addr) (H:Hp) (r:Option (Sl × aa)) (Q:St->Hp->Prop):Prop :=
 ∃ sl' st',r=some (sl',st')/\∀ P' φ' H' σ',Frm P φ H P' φ' H'->Sim mg P' φ' st' H'->LG mg P' H' φ' sl' σ'->Q σ' H'
def rG [Lw] (mg:Gm) (f:GF):TG:=fun v σ H Q=>∃ P φ sl st x,LG mg P H φ sl σ/\Sim mg P φ st H/\RA mg P H φ x v/\KS mg P φ H (f x sl st) Q
def Ki [Lw] (mg:Gm) (f:rP):mi:=fun vs σ H Q=>∃ P φ sl st xs,LG mg P H φ sl σ/\Sim mg P φ st H/\Lz mg P H φ xs vs/\KS mg P φ H (f xs sl st) Q
def QG [Lw] (X:Cx) (tg:Expr) (f:GF):Prop:=PG X tg (rG X.gm f)
def wO [Lw] (X:Cx) (tgs:List Expr) (f:rP):Prop:=pi X tgs (Ki X.gm f)
def wo (i:Nat):GF:=fun x sl st=>some (sl.set i (some x),st)
def EY:rP:=fun xs sl st=>match xs with
 | []=>some (sl,st)
 | _=>none
def E1 (f:GF) (g:rP):rP:=fun xs sl st=>match xs with
 | x::xs=>(f x sl st).bind fun p=>g xs p.1 p.2
 | []=>none
def wn (n:Nat) (g:rP):GF:=fun x sl st=>match iM st x with
 | some xs=>if xs.length=n then g xs sl st else none
 | none=>match bD st x with
  | some xs=>if xs.length=n then g xs sl st else none
  | none=>none
theorem rK (h:pi X tgs t) (i:∀ v σ H Q,t' v σ H Q->t v σ H Q):pi X tgs t':=fun Lu s σ H v u Q I rv h'=>h Lu s σ H v u Q I rv (i v σ H Q h')
section
variable {X:Cx}{e a b:Expr}{es:List Expr}{pos:Pos}
theorem KS.pure [Lw] {mg:Gm}{P:Pr}{φ:List Addr}{H:Hp}{sl:Sl}{st:aa}{σ:St}{Q:St->Hp->Prop} (h:KS mg P φ H (some (sl,st)) Q) (s:Sim mg P φ st H) (r:LG mg P H φ sl σ):Q σ H:=by
 obtain ⟨_,_,e,q⟩:=h;cases e;exact q P φ H σ Frm.refl s r
theorem Be [Lw] {i:Nat} (hN:X.N.Nodup) (hi:X.N[i]?=some x) (hx:Loc X.env.scope x) (hf:X.fn x=true\/X.env.scope.names.lookup x=some .local):QG X (.Name x pos) (wo i) :=
 PG_imp (BA hN hi hx hf) fun v σ H Q ⟨P,φ,sl,st,x,rs,s,rx,k⟩=>k.pure s (rs.set rx i)
theorem Bc [Lw]:wO X [] EY:=rK By fun v σ H Q hq0=>by
 obtain ⟨P,φ,sl,st,xs,rs,s,rx,k⟩:=hq0;cases xs with
 | nil=>simp only [Lz] at rx;exact ⟨rx,k.pure s rs⟩
 | cons _ _=>obtain ⟨_,_,e,_⟩:=k;cases e
theorem xt [Lw] (h1:QG X e f) (h2:wO X es g) (hs:(assignEach (e::es) X.env).map (·.2)=assign e X.env::(assignEach es X.env).map (·.2)):wO X (e::es) (E1 f g) :=
 rK (xC h1 h2 hs) fun v σ H Q hq0=>by
  obtain ⟨P,φ,sl,st,xs,rs,s,rx,k⟩:=hq0;cases xs with
  | nil=>obtain ⟨_,_,e,_⟩:=k;cases e
  | cons x xs =>
   simp only [Lz] at rx;obtain ⟨w,ws,rfl,r1,r2⟩:=rx;obtain ⟨sl',st',e,q⟩:=k;obtain ⟨p,e1,e2⟩:=zA e;exact ⟨w,ws,rfl,P,φ,sl,st,x,rs,s,r1,p.1,p.2,e1,fun P1 φ1 H1 σ1 f1 s1 rs1=>⟨P1,φ1,p.1,p.2,xs,rs1,s1,r2.frm f1,sl',st',e2,fun P2 φ2 H2 σ2 f2 s2 rs2=>q P2 φ2 H2 σ2 (f1.trans f2) s2 rs2⟩⟩
theorem Gq (h:PG X tg t) (h':PG X tg t'):PG X tg (fun v σ H Q=>t v σ H Q\/t' v σ H Q):=fun Lu s σ H v u Q I r q=>by
 rcases q with q | q
 ·exact h Lu s σ H v u Q I r q
 ·exact h' Lu s σ H v u Q I r q
theorem Dd [Lw] {k n:Nat} (hc:X.calm=true) (h:wO X es g) (hn:(assignEach es X.env).length=n) (hst:(assignEach es X.env).findIdx? (·.1)=none):QG X (.Tuple es k pos) (wn n g) :=
 PG_imp (Gq (Dx (k:=k) hc h hn hst) (Bz (k:=k) hc h hn hst)) fun v σ H Q hq0=>by
  obtain ⟨P,φ,sl,st,x,rs,s,rx,kk⟩:=hq0;obtain ⟨sl',st',e,q⟩:=kk;unfold wn at e;split at e
  ·rename_i xs ex
   split at e
   ·rename_i hl
    obtain ⟨a1,vs,rfl,d1,q1⟩:=rx.tp s ex;exact .inl ⟨a1,vs,rfl,.inl (.inl d1),by rw [<- q1.length];exact hl,P,φ,sl,st,xs,rs,s,q1,sl',st',e,q⟩
   ·cases e
  ·split at e
   ·rename_i xs ex
    split at e
    ·rename_i hl
     obtain ⟨a1,vs,rfl,d1,q1⟩:=rx.ls s ex;exact .inr ⟨a1,vs,rfl,d1,by rw [<- q1.length];exact hl,P,φ,sl,st,xs,rs,s,q1,sl',st',e,q⟩
    ·cases e
   ·cases e
noncomputable def mr {κ:Type} [DecidableEq κ] (Lv:List (κ × AV)) (k:κ) (v:AV):List (κ × AV) :=
 if (Lv.any fun kv=>decide (kv.1=k))=true then Lv.map fun kv=>if kv.1=k then (kv.1,v) else kv else Lv++[(k,v)]
theorem qd {P:Pr}{H:Hp}{φ:List Addr}{κ:Type} [DecidableEq κ] {Lv:List (κ × AV)}{ws:List (κ × V)}{k:κ}{v:AV}{w:V} (h:KVR mg P H φ Lv ws) (r:RA mg P H φ v w):KVR mg P H φ (mr Lv k v) (eI ws k w):=by
 have hany:(Lv.any fun kv=>decide (kv.1=k))=(ws.any fun kv=>decide (kv.1=k)):=by
  have h1:∀ {α:Type} (l:List (κ × α)),(l.any fun kv=>decide (kv.1=k))=((l.map (·.1)).any fun x=>decide (x=k)):=fun l=>by rw [List.any_map];rfl
  rw [h1 Lv,h1 ws,h.1]
 unfold mr eI;rw [hany];split
 ·clear hany
  rename_i hh;clear hh
  induction Lv generalizing ws with
  | nil =>
   have:ws=[]:=by simpa using h.1.symm
   subst this;exact ⟨rfl,aX⟩
  | cons p Lv ih =>
   cases ws with
   | nil=>exact absurd h.1 (by simp)
   | cons q ws =>
    obtain ⟨h1,h2⟩:=h;rw [zO,zO] at h1 h2;injection h1 with h3 h4;simp only [Lz] at h2;obtain ⟨u,us,h5,h6,h7⟩:=h2;injection h5 with h8 h9;subst h8;subst h9;have ih:=ih (ws:=ws) ⟨h4,h7⟩;have h3':p.1=q.1:=h3;by_cases e:q.1=k
    ·rw [zO,zO,yI e,yI (h3'.trans e)]
     exact ⟨by rw [zO,zO,ih.1,h3'],aI r ih.2⟩
    ·rw [zO,zO,yH e,yH (fun z=>e (h3'.symm.trans z))]
     exact ⟨by rw [zO,zO,ih.1,h3'],aI h6 ih.2⟩
 ·refine ⟨by rw [List.map_append,List.map_append,h.1];rfl,?_⟩
  rw [List.map_append,List.map_append];exact h.2.app (aI r aX)
def ii (st:aa) (o i v:AV):Option aa:=match o with
 | .ref k=>match st[k]? with
  | some (.lst xs)=>match i with
   | .int j=>(jv xs.length j).map fun n=>st.set k (.lst (xs.set n v))
   | _=>none
  | some (.dK Lv)=>(jM i).bind fun x=>if bv Lv.length=true then some (st.set k (.dK (mr Lv x v))) else none
  | some (.dT Lv)=>match i with
   | .tup is=>(bJ jM is).bind fun x=>if bv Lv.length=true then some (st.set k (.dT (mr Lv x v))) else none
   | _=>none
  | _=>none
 | _=>none
theorem zo [Lw] (hu:X.A.units + 64 < cLine):uU X (fun o i v H Q=>∃ P φ st x y z st',Sim X.gm P φ st H/\RA X.gm P H φ x o/\RA X.gm P H φ y i/\RA X.gm P H φ z v/\ii st x y z=some st'/\∀ P' φ' H',Frm P φ H P' φ' H'->Sim X.gm P' φ' st' H'->Q H'):=by
 rintro Lu s σ H o i v ov iv u Q I ro ri rv ⟨P,φ,st,x,y,z,st',sm,rx,ry,rz,e,k⟩;unfold ii at e;cases x with
 | ref j =>
  simp only [RA] at rx;obtain ⟨a,ea,rfl⟩:=rx;dsimp only at e;split at e
  ·rename_i xs hk
   obtain ⟨a',ea',c⟩:=sm.at hk;rw [ea] at ea';cases ea';obtain ⟨na,vs,q1,q2⟩:=c;cases y with
   | int n =>
    simp only [RA] at ry;subst ry;obtain ⟨m,e1,e2⟩:=zE.mp e;subst e2;have hp:P a->False:=na;obtain ⟨f3,s3⟩:=ia (c:=.lst (xs.set m z)) (o:=.lst (vs.set m v)) sm ea na ⟨na,_,aq,(q2.set rz m).mono (fun b h=>⟨h,ad fun e=>na (e ▸ h)⟩) fun _ _ z=>z⟩ (fun _ _ z=>by rw [q1] at z;cases z);exact xj Lu s σ H _ _ v ov iv u Q I ro ri rv ⟨a,vs,n,m,rfl,rfl,q1,by rw [<- q2.length];exact e1,k P φ _ f3 s3⟩
   | _=>cases e
  ·rename_i Lv hk
   obtain ⟨a',ea',c⟩:=sm.at hk;rw [ea] at ea';cases ea';obtain ⟨na,ws,q1,q2⟩:=c;obtain ⟨x,e1,e2⟩:=zA e;split at e2
   ·rename_i hz
    cases e2
    have:=my e1 ry
    subst this;cases ro;obtain ⟨f3,s3⟩:=ia (c:=.dK (mr Lv x z)) (o:=.dK (eI ws x v)) sm ea na ⟨na,_,aq,(qd q2 rz).mono (fun b h=>⟨h,ad fun e=>na (e ▸ h)⟩) fun _ _ z=>z⟩ (fun _ _ z=>by rw [q1] at z;cases z);refine o7 oM I (DPut.k q1 ?_) ri rv fun s' I'=>⟨_,I',k P φ _ f3 s3⟩
    have:=congrArg List.length q2.1
    rw [zH,zH] at this;rw [<- this];have h1:=zS hz;have h2:(1000000:Nat) < sizeLine:=by decide
    omega
   ·cases e2
  ·rename_i Lv hk
   obtain ⟨a',ea',c⟩:=sm.at hk;rw [ea] at ea';cases ea';obtain ⟨na,ws,q1,q2⟩:=c;cases y with
   | tup is =>
    dsimp only at e;obtain ⟨x,e1,e2⟩:=zA e;split at e2
    ·rename_i hz
     cases e2;simp only [RA] at ry;obtain ⟨b,us,rfl,_,hb,rr⟩:=ry;rw [oR e1 rr] at hb;cases ro;obtain ⟨f3,s3⟩:=ia (c:=.dT (mr Lv x z)) (o:=.dT (eI ws x v)) sm ea na ⟨na,_,aq,(qd q2 rz).mono (fun b h=>⟨h,ad fun e=>na (e ▸ h)⟩) fun _ _ z=>z⟩ (fun _ _ z=>by rw [q1] at z;cases z);refine o7 oM I (DPut.t q1 hb ?_) ri rv fun s' I'=>⟨_,I',k P φ _ f3 s3⟩
     have:=congrArg List.length q2.1
     rw [zH,zH] at this;rw [<- this];have h1:=zS hz;have h2:(1000000:Nat) < sizeLine:=by decide
     omega
    ·cases e2
   | _=>cases e
  ·cases e
 | _=>cases e
def Ir (f g:EF):GF:=fun x sl st=>(f sl st).bind fun p=>(g sl p.2).bind fun q=>(ii q.2 p.1 q.1 x).map fun st'=>(sl,st')
theorem De [Lw] (hu:X.A.units + 64 < cLine) (ho:QE X o f) (hi:QE X i g)
  (ha:∀ v,assign (.Subscript o i pos) X.env v=(do
   let ov <- holding [v] (eval o X.env)
   let iv <- holding [v,ov] (eval i X.env)
   standAt pos
   holding [v,ov,iv] (setItem ov iv v)
   release [v,ov,iv] [])):QG X (.Subscript o i pos) (Ir f g) :=
 PG_imp (Dy ho hi (zo hu) ha) fun v σ H Q hq0=>by
  obtain ⟨P,φ,sl,st,x,rs,s,rx,sl',st',e,k⟩:=hq0;obtain ⟨q,e1,e2⟩:=zA e;obtain ⟨r,e3,e4⟩:=zA e2;obtain ⟨z,e5,e6⟩:=zE.mp e4;cases e6;exact ⟨P,φ,sl,st,rs,s,q.1,q.2,e1,fun P1 φ1 H1 w f1 s1 r1=>⟨P1,φ1,sl,q.2,rs.frm f1,s1,r.1,r.2,e3,fun P2 φ2 H2 w2 f2 s2 r2=>⟨P2,φ2,r.2,q.1,r.1,x,st',s2,r1.frm f2,r2,(rx.frm f1).frm f2,e5,fun P3 φ3 H3 f3 s3=>k P3 φ3 H3 σ ((f1.trans f2).trans f3) s3 (((rs.frm f1).frm f2).frm f3)⟩⟩⟩
end
def hid (H:Hp) (p:Addr):Hp:=fun b=>if b=p then none else H b
theorem bo (h:b ≠ p):hid H p b=H b:=yH h
theorem dg:hid H p p=none:=yI rfl
theorem AL (h:H p=some o):af (hid H p) p o=H:=by
 funext b;by_cases e:b=p
 ·subst e;rw [aq,h]
 ·rw [ad e,bo e]
theorem sU:hid (af H p o) p=hid H p:=by
 funext b;by_cases e:b=p
 ·subst e;rw [dg,dg]
 ·rw [bo e,bo e,ad e]
theorem ym (h:H p=none):hid H p=H:=by
 funext b;by_cases e:b=p
 ·subst e;rw [dg,h]
 ·rw [bo e]
section
variable {mg:Gm}{P P':Pr}{φ φ':List Addr}{st st':aa}{H H':Hp}{p:Addr}
theorem _root_.L2.fy.sh {P:Addr}{pos:Pos}{q:Str} (h:fy (hid H p) P pos q):fy H P pos q:=by
 obtain ⟨ps,e,t,c⟩:=h;have ne:∀ {a o},hid H p a=some o->H a=some o:=fun {a o} e=>by
  by_cases z:a=p
  ·rw [z,dg] at e;cases e
  ·rw [bo z] at e;exact e
 refine ⟨ps,ne e,t,?_⟩;rcases c with c | ⟨c',c1,c2⟩
 ·exact .inl c
 ·exact .inr ⟨c',c1,ne c2⟩
theorem _root_.L2.fy.hd {P:Addr}{pos:Pos}{q:Str} (h:fy H P pos q) (hl:∃ vs,H p=some (.lst vs)):fy (hid H p) P pos q:=by
 obtain ⟨ps,e,t,c⟩:=h;obtain ⟨vs,hv⟩:=hl;refine ⟨ps,by rw [bo (tY e hv fun z=>nomatch z)];exact e,t,?_⟩;rcases c with c | ⟨c',c1,c2⟩
 ·exact .inl c
 ·exact .inr ⟨c',c1,by rw [bo (tY c2 hv fun z=>nomatch z)];exact c2⟩
theorem Sim.sh [Lw] (s:Sim mg P φ st (hid H p)) (o:HO) (ho:H p=some o):Sim mg P φ st H/\∀ a,P a->P a/\H a=hid H p a:=by
 have nP:∀ a,P a->a ≠ p:=fun a h e=>s.dom a h (by rw [e];exact dg)
 have nC:∀ a ∈ φ,a ≠ p:=fun a h e=>s.cd a h (by rw [e];exact dg)
 have ex:∀ a,P a->P a/\H a=hid H p a:=fun a h=>⟨h,(bo (nP a h)).symm⟩
 exact ⟨s.stay ex (fun a h=>(bo (nC a h)).symm) (fun _ _ h=>h) (fun a h=>by rw [(ex a h).2];exact s.dom a h) fun t ht=>⟨(s.tb t ht).1.sh,(s.tb t ht).2⟩,ex⟩
theorem Frm.hd [Lw] (s0:Sim mg P φ st (hid H p)) (hl:∃ vs,H p=some (.lst vs)) (f:Frm P φ H P' φ' H') (s:Sim mg P' φ' st' H'):Frm P φ (hid H p) P' φ' (hid H' p)/\Sim mg P' φ' st' (hid H' p)/\(∀ a,P' a->P' a/\hid H' p a=H' a)/\H' p=H p:=by
 have nP:∀ a,P a->a ≠ p:=fun a h e=>s0.dom a h (by rw [e];exact dg)
 have nC:∀ a ∈ φ,a ≠ p:=fun a h e=>s0.cd a h (by rw [e];exact dg)
 have hp:H p ≠ none:=fun z=>by obtain ⟨vs,e⟩:=hl;rw [z] at e;cases e
 have kp:H' p=H p:=f.keep p hp (fun h=>nC p h rfl) fun ps z=>by obtain ⟨vs,e⟩:=hl;rw [z] at e;cases e
 obtain ⟨m,em,nm⟩:=f.new;have nP':∀ a,P' a->a ≠ p:=fun a h e=>by
  rcases f.pn a h with z | z | z
  ·exact nP a z e
  ·exact hp (by rw [<- e];exact z)
  ·exact nC a z e
 have nC':∀ a ∈ φ',a ≠ p:=fun a h e=>by
  rw [em] at h;rcases zZ.mp h with z | z
  ·exact nC a z e
  ·exact hp (by rw [<- e];exact nm a z)
 have hn:∀ a,hid H p a ≠ none->a ≠ p:=fun a h e=>h (by rw [e];exact dg)
 have ex:∀ a,P' a->P' a/\hid H' p a=H' a:=fun a h=>⟨h,bo (nP' a h)⟩
 refine ⟨⟨fun a h=>⟨(f.ext a h).1,by rw [bo (nP a h),bo (nP a h)];exact (f.ext a h).2⟩,⟨m,em,fun a h=>?_⟩,fun a h n z=>?_,fun a h=>?_,fun a h=>?_,fun a o u h=>?_⟩,s.stay ex (fun a h=>bo (nC' a h)) (fun _ _ h=>h) (fun a h=>by rw [(ex a h).2];exact s.dom a h) (fun t ht=>⟨(s.tb t ht).1.hd (by rw [kp];exact hl),(s.tb t ht).2⟩),ex,kp⟩
 ·rw [bo (nC' a (by rw [em];exact zK _ h))];exact nm a h
 ·rw [bo (hn a h),bo (hn a h)]
  rw [bo (hn a h)] at z;rw [bo (hn a h)] at h;exact f.keep a h n z
 ·rcases f.pn a h with z | z | z
  ·exact .inl z
  ·exact .inr (.inl (by rw [bo (nP' a h)];exact z))
  ·exact .inr (.inr z)
 ·rw [bo (hn a h)]
  rw [bo (hn a h)] at h;exact f.sm a h
 ·have ne:=hn a (by rw [h];exact fun z=>nomatch z)
  rw [bo ne] at h ⊢;exact f.fz a o u h
end
def fQ (gd:Gd) (g:GF) (t:TF) (f:EF) (sl:Sl):List AV->aa->Option (List AV × aa)
 | [],st=>if ci gd st=true then some ([],st) else none
 | x::xs,st=>if ci gd st=true then (g x sl st).bind fun p=>(t p.1 p.2).bind fun q=>if q.1=true then (f p.1 q.2).bind fun r=>(fQ gd g t f sl xs r.2).map fun z=>(r.1::z.1,z.2) else fQ gd g t f sl xs q.2 else none
def Aa (k:Nat) (it:IF) (g:GF) (t:TF) (f:EF):NF:=fun sl st=>(it sl st).bind fun p=>if bv p.1.Lx.length=true then fQ p.1.gd g t f (sl++List.replicate k none) p.1.Lx p.2 else none
def HJ:TF:=fun _ st=>some (true,st)
theorem LG.ext0 (h:LG mg P H φ sl σ) (k:Nat):LG mg P H φ (sl++List.replicate k none) (σ++List.replicate k none):=by
 refine ⟨by rw [zV,zV,h.1,List.length_replicate,List.length_replicate],fun i v e=>?_⟩;have hi:i < sl.length:=by
  rcases yS i sl.length with z | z
  ·exact z
  ·rw [z7 z,List.getElem?_replicate] at e
   split at e <;> cases e
 rw [zN hi] at e;rw [zN (by rw [<- h.1];exact hi)];exact h.2 i v e
def pK (n:Nat) (g:GF):Prop:=∀ x sl st sl' st',g x sl st=some (sl',st')->sl'.length=sl.length/\∀ j,j < n->sl'[j]?=sl[j]?
theorem LG.back {k:Nat} (h:LG mg P H φ sl' σ) (hl:sl'.length=(sl++List.replicate k none).length) (hj:∀ j,j < sl.length->sl'[j]?=(sl++List.replicate k none)[j]?):LG mg P H φ (sl++List.replicate k none) σ:=by
 refine ⟨by rw [<- hl];exact h.1,fun i v e=>?_⟩;have hi:i < sl.length:=by
  rcases yS i sl.length with z | z
  ·exact z
  ·rw [z7 z,List.getElem?_replicate] at e
   split at e <;> cases e
 exact h.2 i v (by rw [hj i hi];exact e)
theorem EE [Lw] {n k:Nat} (hk:pK n g) (hn:σ.length=n) (h:rN mg (Aa k it g t f) σ H Q):CJ k (rI mg it) (rG mg g) (rT mg t) (rE mg f) σ H Q:=by
 obtain ⟨P,φ,sl,st,rs,s,out,stE,ef,kk⟩:=h;obtain ⟨q,e1,e2⟩:=zA ef;split at e2
 ·rename_i hz
  refine ⟨P,φ,sl,st,rs,s,q.1,q.2,e1,fun P1 φ1 H1 J f1 s1 ij=>fun p hp=>?_⟩;have hsl:sl.length=n:=by rw [rs.1];exact hn
  refine ⟨fun i m σ' H'=>m=q.1.Lx.length - i/\i <= q.1.Lx.length/\∃ P' φ' st' xs vs zs,Frm P1 φ1 H1 P' φ' (hid H' p)/\Sim mg P' φ' st' (hid H' p)/\LG mg P' (hid H' p) φ' (sl++List.replicate k none) σ'/\H' p=some (.lst vs)/\Lz mg P' (hid H' p) φ' xs vs/\xs.length <= i /\
    fQ q.1.gd g t f (sl++List.replicate k none) (q.1.Lx.drop i) st'=some (zs,stE)/\out=xs++zs,⟨_,rfl,Nat.zero_le _,P1,φ1,q.2,[],[],out,?_⟩,?_⟩
  ·have e:hid (af H1 p (.lst [])) p=H1:=by rw [sU,ym hp]
   rw [e];exact ⟨Frm.refl,s1,(rs.frm f1).ext0 k,aq,aX,zP _,by simpa using e2,rfl⟩
  ·rintro i m σ' H' ⟨rfl,hle,P2,φ2,st2,xs,vs,zs,f2,s2,rs2,hv,rx,hlen,eg,eo⟩
   obtain ⟨s2v,ex2⟩:=s2.sh _ hv;have rs2v:LG mg P2 H' φ2 (sl++List.replicate k none) σ':=⟨rs2.1,fun i v e=>let ⟨w,e',r⟩:=rs2.2 i v e;⟨w,e',r.mono ex2 fun _ _ z=>z⟩⟩;have hpn:H' p ≠ none:=by rw [hv];exact fun z=>nomatch z
   -- the iterator's rules hold at the whole heap: it keeps what is out of sight as it is
   have f2v:Frm P1 φ1 H1 P2 φ2 H':=by
    refine ⟨fun a h=>⟨(f2.ext a h).1,?_⟩,f2.new,fun a h n z=>?_,fun a h=>f2.pn a h,fun a h=>?_,fun a o u h=>?_⟩
    ·have ne:a ≠ p:=fun e=>s1.dom a h (by rw [e];exact hp)
     rw [<- bo (H:=H') ne];exact (f2.ext a h).2
    ·have ne:a ≠ p:=fun e=>h (by rw [e];exact hp)
     rw [<- bo (H:=H') ne];exact f2.keep a h n z
    ·have ne:a ≠ p:=fun e=>h (by rw [e];exact hp)
     rw [<- bo (H:=H') ne];exact f2.sm a h
    ·have ne:a ≠ p:=aH h hp
     rw [<- bo (H:=H') ne];exact f2.fz a o u h
   rcases yS i q.1.Lx.length with hi | hi
   ·right
    rw [List.drop_eq_getElem_cons hi] at eg;simp only [fQ] at eg;split at eg
    ·rename_i hgd
     obtain ⟨go,yl⟩:=ij.go P2 φ2 H' st2 i _ f2v s2v hgd (zF hi);refine ⟨go,fun x H3 hy=>?_⟩;obtain ⟨P3,f3,s3,r3⟩:=yl x H3 hy;obtain ⟨q4,e4,e5⟩:=zA eg;obtain ⟨q6,e6,e7⟩:=zA e5;obtain ⟨kl,kj⟩:=hk _ _ _ _ _ e4;refine ⟨P3,φ2,sl++List.replicate k none,st2,q.1.Lx[i],rs2v.frm f3,s3,r3,q4.1,q4.2,e4,fun P4 φ4 H4 σ4 f4 s4 rs4=>⟨P4,φ4,q4.1,q4.2,rs4,s4,q6.1,q6.2,e6,fun P5 φ5 H5 c f5 s5 r5=>?_⟩⟩;cases r5;have f35:=(f3.trans f4).trans f5;have back:∀ {P6:Pr}{φ6:List Addr}{H6:Hp},Frm P5 φ5 H5 P6 φ6 H6->LG mg P6 H6 φ6 (sl++List.replicate k none) σ4:=fun f6=>((rs4.frm f5).frm f6).back kl fun j hj=>kj j oM
     cases hc:q6.1 with
     | true =>
      rw [hc] at e7;simp only [if_true] at e7 ⊢;obtain ⟨q8,e8,e9⟩:=zA e7;obtain ⟨z,e10,e11⟩:=zE.mp e9;cases e11;refine ⟨P5,φ5,q4.1,q6.2,rs4.frm f5,s5,q8.1,q8.2,e8,fun P6 φ6 H6 y f6 s6 r6=>?_⟩;obtain ⟨fh,sh,exh,hpe⟩:=Frm.hd s2 ⟨_,hv⟩ (f35.trans f6) s6;refine ⟨vs,by rw [hpe];exact hv,?_,q.1.Lx.length - (i + 1),by omega,rfl,hi,P6,φ6,q8.2,xs++[q8.1],vs++[y],z.1,?_⟩
      ·rw [<- rx.length]
       have h1:=zS hz;have h2:(1000000:Nat) < sizeLine:=by decide
       omega
      ·have eh:hid (af H6 p (.lst (vs++[y]))) p=hid H6 p:=sU
       rw [eh];refine ⟨f2.trans fh,sh,?_,aq,(rx.frm fh).app (aI (r6.mono exh fun _ _ z=>z) aX),by rw [zV];simp;omega,e10,by rw [eo,yN];rfl⟩
       have:=back f6
       exact ⟨this.1,fun i v e=>let ⟨w,e',r⟩:=this.2 i v e;⟨w,e',r.mono exh fun _ _ z=>z⟩⟩
     | false =>
      rw [hc] at e7;simp only [yB,if_false] at e7 ⊢;obtain ⟨fh,sh,exh,hpe⟩:=Frm.hd s2 ⟨_,hv⟩ f35 s5;refine ⟨q.1.Lx.length - (i + 1),by omega,rfl,hi,P5,φ5,q6.2,xs,vs,zs,f2.trans fh,sh,?_,by rw [hpe];exact hv,rx.frm fh,by omega,e7,eo⟩
      have:=back Frm.refl
      exact ⟨this.1,fun i v e=>let ⟨w,e',r⟩:=this.2 i v e;⟨w,e',r.mono exh fun _ _ z=>z⟩⟩
    ·cases eg
   ·left
    have ei:i=q.1.Lx.length:=Nat.le_antisymm hle hi;subst ei;rw [List.drop_length] at eg;simp only [fQ] at eg;split at eg
    ·rename_i hgd
     cases eg;refine ⟨ij.stop P2 φ2 H' _ f2v s2v hgd,?_⟩
     have:=kk P2 φ2 (hid H' p) p vs (f1.trans f2) s2 dg (by rw [eo,List.append_nil];exact rx)
     rw [AL hv] at this;exact this
    ·cases eg
 ·cases e2
def wN [Lw] (X:Cx) (ifs:List Expr) (t:TF):Prop:=tB X ifs (rT X.gm t)
section
variable {X:Cx}{elt iter tg:Expr}{ifs:List Expr}{N':List Str}{scope:Scope}{pos:Pos}{it:IF}{g:GF}{t:TF}{f:EF}
theorem Ba [Lw]:wN X [] HJ:=fun Lu s σ H Q I ⟨P,φ,sl,st,rs,sm,k⟩=>Bu Lu s σ H Q I (k.pure sm rfl)
theorem A9 [Lw] (h:QT X e t):wN X [e] t:=Bt h
theorem Fz {e:Expr}{t t':TE} (h:PE X e t) (i:∀ σ H Q,σ.length=X.N.length->t' σ H Q->t σ H Q):PE X e t':=fun Lu s σ H Q I h'=>h Lu s σ H Q I (i σ H Q I.len h')
theorem Fx {st:Stmt}{t t':TS} (h:PS X st t) (i:∀ D σ H,σ.length=X.N.length->t' D σ H->t D σ H):PS X st t':=fun Lu s σ H D I h'=>h Lu s σ H D I (i D σ H I.len h')
theorem Ga [Lw] (hc:X.calm=true) (T:jX X N' scope) (hi:QI X tg iter it) (hg:∀ cl s H fp Lu,QG (cz X N' scope cl s H fp Lu) tg g) (ht:∀ cl s H fp Lu,wN (cz X N' scope cl s H fp Lu) ifs t)
  (he:∀ cl s H fp Lu,QE (cz X N' scope cl s H fp Lu) elt f) (hk:pK X.N.length g) (hs:∀ x,foldedSetIterable iter X.env x=pure x):QN X (.ListComp elt [⟨tg,iter,ifs,0⟩] scope pos) (Aa (N'.length - X.N.length) it g t f) :=
 Fz (Gu (g:=rG X.gm g) (tt:=rT X.gm t) (te:=rE X.gm f) hc T hi (fun cl s H fp Lu=>hg cl s H fp Lu) (fun cl s H fp Lu=>ht cl s H fp Lu) (fun cl s H fp Lu=>he cl s H fp Lu) hs) fun σ H Q hl h=>EE hk hl h
end
inductive Out where
 | nx (sl:Sl) (st:aa) | rt (v:AV) (st:aa) | bk (sl:Sl) (st:aa) | ct (sl:Sl) (st:aa)
abbrev SF:=Sl->aa->Option Out
def ThO [Lw] (mg:Gm) (P:Pr) (φ:List Addr) (H:Hp) (D:jm):Out->Prop
 | .nx sl st=>∀ P' φ' H' σ',Frm P φ H P' φ' H'->Sim mg P' φ' st H'->LG mg P' H' φ' sl σ'->D.nx σ' H'
 | .bk sl st=>∀ P' φ' H' σ',Frm P φ H P' φ' H'->Sim mg P' φ' st H'->LG mg P' H' φ' sl σ'->D.bk σ' H'
 | .ct sl st=>∀ P' φ' H' σ',Frm P φ H P' φ' H'->Sim mg P' φ' st H'->LG mg P' H' φ' sl σ'->D.ct σ' H'
 | .rt v st=>∀ P' φ' H' w,Frm P φ H P' φ' H'->Sim mg P' φ' st H'->RA mg P' H' φ' v w->D.rt w H'
def KO [Lw] (mg:Gm) (P:Pr) (φ:List Addr) (H:Hp) (r:Option Out) (D:jm):Prop:=∃ o,r=some o/\ThO mg P φ H D o
def rS [Lw] (mg:Gm) (f:SF):TS:=fun D σ H=>∃ P φ sl st,LG mg P H φ sl σ/\Sim mg P φ st H/\KO mg P φ H (f sl st) D
def QS [Lw] (X:Cx) (st:Stmt) (f:SF):Prop:=PS X st (rS X.gm f)
def lm [Lw] (X:Cx) (sts:List Stmt) (f:SF):Prop:=PSs X sts (rS X.gm f)
theorem ThO.frm [Lw] (h:ThO mg P φ H D o) (f:Frm P φ H P1 φ1 H1):ThO mg P1 φ1 H1 D o:=by
 cases o with
 | nx sl st=>exact fun P' φ' H' σ' f'=>h P' φ' H' σ' (f.trans f')
 | bk sl st=>exact fun P' φ' H' σ' f'=>h P' φ' H' σ' (f.trans f')
 | ct sl st=>exact fun P' φ' H' σ' f'=>h P' φ' H' σ' (f.trans f')
 | rt v st=>exact fun P' φ' H' σ' f'=>h P' φ' H' σ' (f.trans f')
theorem KO.bindE [Lw] {α β:Type}{Ra:Gm->Pr->Hp->List Addr->α->β->Prop}{m:Option (α × aa)}{k:α × aa->Option Out} (h:KO mg P φ H (m.bind k) D) :
  KG mg Ra P φ H m fun b H1=>∃ P1 φ1 st1 a,Frm P φ H P1 φ1 H1/\Sim mg P1 φ1 st1 H1/\Ra mg P1 H1 φ1 a b/\KO mg P1 φ1 H1 (k (a,st1)) D:=by
 obtain ⟨o,e,q⟩:=h;cases m with
 | none=>cases e
 | some p=>exact ⟨p.1,p.2,rfl,fun P1 φ1 H1 b f s r=>⟨P1,φ1,p.2,p.1,f,s,r,o,e,q.frm f⟩⟩
theorem KO.nx [Lw] {mg:Gm}{P:Pr}{φ:List Addr}{H:Hp}{sl:Sl}{st:aa}{D:jm}{σ:St} (h:KO mg P φ H (some (.nx sl st)) D) (s:Sim mg P φ st H) (r:LG mg P H φ sl σ):D.nx σ H:=by
 obtain ⟨o,e,q⟩:=h;cases e;exact q P φ H σ Frm.refl s r
theorem KO.no [Lw] (h:KO mg P φ H none D):False:=by obtain ⟨_,e,_⟩:=h;cases e
section
variable {X:Cx}{st:Stmt}{rest:List Stmt}{e c tg:Expr}{pos:Pos}{s t:SF}{f:EF}{g:GF}{b:TF}
def HV:SF:=fun sl st=>some (.nx sl st)
def HS (s t:SF):SF:=fun sl st=>(s sl st).bind fun o=>match o with
 | .nx sl st=>t sl st
 | o=>some o
theorem A1 [Lw]:lm X [] HV:=PSs_imp Bn fun D σ H ⟨P,φ,sl,st,rs,s,k⟩=>k.nx s rs
theorem xq [Lw] (h1:QS X st s) (h2:lm X rest t):lm X (st::rest) (HS s t):=PSs_imp (xy h1 h2) fun D σ H hq0=>by
 obtain ⟨P,φ,sl,st,rs,sm,o,e,q⟩:=hq0;obtain ⟨o1,e1,e2⟩:=zA e;refine ⟨P,φ,sl,st,rs,sm,o1,e1,?_⟩;cases o1 with
 | nx sl1 st1=>exact fun P' φ' H' σ' f' s' rs'=>⟨P',φ',sl1,st1,rs',s',o,e2,q.frm f'⟩
 | bk sl1 st1=>cases e2;exact q
 | ct sl1 st1=>cases e2;exact q
 | rt v st1=>cases e2;exact q
def zp:SF:=fun _ _=>none
theorem A4 [Lw]:QS X st zp:=PS_imp xA fun D σ H ⟨P,φ,sl,st,rs,s,k⟩=>k.no
theorem xp [Lw]:lm X sts zp:=PSs_imp vv fun D σ H ⟨P,φ,sl,st,rs,s,k⟩=>k.no
def HY (f:EF):SF:=fun sl st=>(f sl st).bind fun p=>some (.nx sl p.2)
theorem A3 [Lw] (he:QE X e f) (hs:swapsWith e none pos.line X.env=pure false):QS X (.Expr e pos) (HY f):=PS_imp (Bp he hs) fun D σ H ⟨P,φ,sl,st,rs,s,k⟩=>⟨P,φ,sl,st,rs,s,by
 obtain ⟨a,st',e1,q⟩:=k.bindE (Ra:=RA);refine ⟨a,st',e1,fun P1 φ1 H1 w f1 s1 r1=>?_⟩;obtain ⟨P2,φ2,st2,x,f2,s2,r2,k2⟩:=q P1 φ1 H1 w f1 s1 r1;exact k2.nx s2 (rs.frm f2)⟩
def HU (f:EF):SF:=fun sl st=>(f sl st).bind fun p=>some (.rt p.1 p.2)
theorem C3 [Lw] (he:QE X e f):QS X (.Return (some e) pos) (HU f):=PS_imp (Dq he) fun D σ H ⟨P,φ,sl,st,rs,s,k⟩=>⟨P,φ,sl,st,rs,s,by
 obtain ⟨a,st',e1,q⟩:=k.bindE (Ra:=RA);refine ⟨a,st',e1,fun P1 φ1 H1 w f1 s1 r1=>?_⟩;obtain ⟨P2,φ2,st2,x,f2,s2,r2,o,eo,q2⟩:=q P1 φ1 H1 w f1 s1 r1;cases eo;exact q2 P2 φ2 H1 w Frm.refl s2 r2⟩
def HW (b:TF) (s t:SF):SF:=fun sl st=>(b sl st).bind fun p=>if p.1=true then s sl p.2 else t sl p.2
theorem F8 [Lw] (hc:QT X c b) (ha:lm X x s) (hb:lm X y t):QS X (.If c x y pos) (HW b s t):=PS_imp (Go hc ha hb) fun D σ H ⟨P,φ,sl,st,rs,sm,k⟩=>⟨P,φ,sl,st,rs,sm,by
 obtain ⟨a,st',e1,q⟩:=k.bindE (Ra:=RB);refine ⟨a,st',e1,fun P1 φ1 H1 w f1 s1 r1=>?_⟩;obtain ⟨P2,φ2,st2,x,f2,s2,r2,k2⟩:=q P1 φ1 H1 w f1 s1 r1;cases r2;cases w with
 | true=>exact ⟨P2,φ2,sl,st2,rs.frm f2,s2,k2⟩
 | false=>exact ⟨P2,φ2,sl,st2,rs.frm f2,s2,k2⟩⟩
def vk (f:EF) (g:GF):SF:=fun sl st=>(f sl st).bind fun p=>(g p.1 sl p.2).bind fun q=>some (.nx q.1 q.2)
theorem uQ [Lw] (h:rS mg (vk f g) D σ H):tP (rE mg f) (rG mg g) D σ H:=by
 obtain ⟨P,φ,sl,st,rs,s,o,e,q⟩:=h;obtain ⟨p,e1,e2⟩:=zA e;obtain ⟨r,e3,e4⟩:=zA e2;cases e4;exact ⟨P,φ,sl,st,rs,s,p.1,p.2,e1,fun P1 φ1 H1 w f1 s1 r1=>⟨P1,φ1,sl,p.2,p.1,rs.frm f1,s1,r1,r.1,r.2,e3,fun P2 φ2 H2 σ2 f2 s2 rs2=>q P2 φ2 H2 σ2 (f1.trans f2) s2 rs2⟩⟩
theorem vp [Lw] (he:QE X e f) (hg:QG X tg g) (hs:swapsWithSole [tg] e pos.line X.env=pure false) (hw:swappedStores [tg] e X.env=pure none) (h1:(assignEach [tg] X.env).map (·.2)=[assign tg X.env]):QS X (.Assign [tg] e pos) (vk f g) :=
 PS_imp (Ds he hg hs hw h1) fun D σ H h=>uQ h
theorem Eh [Lw] {i:Nat} (h:rG mg (wo i) v σ H Q):ni i v σ H Q:=by
 obtain ⟨P,φ,sl,st,x,rs,s,rx,k⟩:=h;exact k.pure s (rs.set rx i)
theorem vo [Lw] {i:Nat} (hN:X.N.Nodup) (hi:X.N[i]?=some x) (hx:Loc X.env.scope x) (he:QE X e f) (hs:swapsWith e (some (.Name x pos')) pos.line X.env=pure false) (hf:X.fn x=true\/X.env.scope.names.lookup x=some .local) :
  QS X (.Assign [.Name x pos'] e pos) (vk f (wo i)):=PS_imp (Dp hN hi hx he hs hf) fun D σ H h=>by
 obtain ⟨P,φ,sl,st,rs,s,p1,p2,e1,k⟩:=uQ h;exact ⟨P,φ,sl,st,rs,s,p1,p2,e1,fun P1 φ1 H1 w f1 s1 r1=>Eh (k P1 φ1 H1 w f1 s1 r1)⟩
def Ay (m:Bool) (f:NF):EF:=if m=true then KB f else KC f
theorem Ed [Lw] {mg:Gm}{m:Bool}{f:NF}{σ:St}{H:Hp}{Q:VK} (h:rE mg (Ay m f) σ H Q):rN mg f σ H Q:=by
 obtain ⟨P,φ,sl,st,rs,s,v,st',ev,k⟩:=h;cases m with
 | true =>
  obtain ⟨q,e1,e2⟩:=zA ev;cases e2;refine ⟨P,φ,sl,st,rs,s,q.1,q.2,e1,fun P1 φ1 H1 p vs f1 s1 hp r1=>?_⟩;obtain ⟨f3,s3,r3⟩:=Ej s1 hp r1;exact k P1 _ _ _ (f1.trans f3) s3 r3
 | false =>
  obtain ⟨q,e1,e2⟩:=zA ev;split at e2
  ·rename_i hr
   cases e2;refine ⟨P,φ,sl,st,rs,s,q.1,q.2,e1,fun P1 φ1 H1 p vs f1 s1 hp r1=>?_⟩;obtain ⟨P3,f3,s3,r3⟩:=E4 s1 hp hr r1;exact k P3 φ1 _ _ (f1.trans f3) s3 r3
  ·cases e2
theorem Gi [Lw] {m:Bool}{f:NF} (h:QN X e f):QE X e (Ay m f):=PE_imp h fun _ _ _ q=>Ed q
theorem vn [Lw] {i:Nat}{y:Str}{py:Pos}{elt iter tg:Expr}{ifs:List Expr}{N':List Str}{scope:Scope}{pos spos:Pos}{it:IF}{g:GF}{t:TF}{f:EF}{m:Bool} (hN:X.N.Nodup) (hiN:X.N[i]?=some y) (hx:Loc X.env.scope y)
  (hsw:swapsWith (.ListComp elt [⟨tg,iter,ifs,0⟩] scope pos) (some (.Name y py)) spos.line X.env=pure true)
  (hc:X.calm=true) (T:jX X N' scope) (hi:QI X tg iter it) (hg:∀ cl s H fp Lu,QG (cz X N' scope cl s H fp Lu) tg g) (ht:∀ cl s H fp Lu,wN (cz X N' scope cl s H fp Lu) ifs t)
  (he:∀ cl s H fp Lu,QE (cz X N' scope cl s H fp Lu) elt f) (hk:pK X.N.length g) (hs:∀ x,foldedSetIterable iter X.env x=pure x) (hf:X.fn y=true\/X.env.scope.names.lookup y=some .local) :
  QS X (.Assign [.Name y py] (.ListComp elt [⟨tg,iter,ifs,0⟩] scope pos) spos) (vk (Ay m (Aa (N'.length - X.N.length) it g t f)) (wo i)) :=
 Fx (vw (g:=rG X.gm g) (tt:=rT X.gm t) (te:=rE X.gm f) hN hiN hx hsw hc T hi (fun cl s H fp Lu=>hg cl s H fp Lu) (fun cl s H fp Lu=>ht cl s H fp Lu) (fun cl s H fp Lu=>he cl s H fp Lu) hs hf) fun D σ H hl h=>by
  obtain ⟨P,φ,sl,st,rs,s,p1,p2,e1,k⟩:=uQ h;exact EE hk hl (Ed (m:=m) ⟨P,φ,sl,st,rs,s,p1,p2,e1,fun P1 φ1 H1 w f1 s1 r1=>Eh (k P1 φ1 H1 w f1 s1 r1)⟩)
def uP (o:Operator) (_:aa):AV->AV->Option AV
 | .int a,.int b=>match o with
  | .Add=>some (.int (a + b))
  | .Sub=>some (.int (a - b))
  | _=>none
 | _,_=>none
theorem JD [Lw] (o:Operator):AD X o (fun x y H Q=>∃ P φ st a b c,Sim X.gm P φ st H/\RA X.gm P H φ a x/\RA X.gm P H φ b y/\uP o st a b=some c/\∀ w,RA X.gm P H φ c w->Q w H):=by
 rintro Lu s σ H x y v u Q I rx ry ⟨P,φ,st,a,b,c,sm,ra,rb,e,k⟩;cases a <;> cases b <;> simp only [uP] at e <;> first | (cases e;done) | skip
 rename_i i j;simp only [RA] at ra rb;subst ra;subst rb;cases o <;> first | (cases e;done) | skip
 ·cases e
  exact ER Lu s σ H _ _ v u Q I rx ry ⟨i,j,rfl,rfl,k _ (by simp only [RA])⟩
 ·cases e
  exact EQ Lu s σ H _ _ v u Q I rx ry ⟨i,j,rfl,rfl,k _ (by simp only [RA])⟩
theorem G1 [Lw]:zc X (fun x y H Q=>∃ P φ st a b c,Sim X.gm P φ st H/\RA X.gm P H φ a x/\RA X.gm P H φ (.int b) y/\(∃ xs,bD st a=some xs/\fL xs b=some c)/\∀ w,RA X.gm P H φ c w->Q w H):=by
 rintro Lu s σ H x y v u Q I rx ry ⟨P,φ,st,a,b,c,sm,ra,rb,⟨xs,e1,e2⟩,k⟩;obtain ⟨p,vs,rfl,d1,q1⟩:=ra.ls sm e1;obtain ⟨w,e3,r3⟩:=oC q1 e2;simp only [RA] at rb;exact yp Lu s σ H _ y v u Q I rx ry ⟨p,vs,b,w,rfl,rb,d1,e3,k w r3⟩
def tS (o:Operator) (f g h:EF):SF:=fun sl st=>(f sl st).bind fun p=>(g sl p.2).bind fun q=>match q.1 with
 | .int i=>(bD q.2 p.1).bind fun xs=>(fL xs i).bind fun x=>(h sl q.2).bind fun r=>(uP o r.2 x r.1).bind fun z=>(ii r.2 p.1 (.int i) z).bind fun st'=>some (.nx sl st')
 | _=>none
theorem A5 [Lw] {a i:Expr}{f g h:EF}{o:Operator}{tpos:Pos} (hu:X.A.units + 64 < cLine) (ho:QE X a f) (hi:QE X i g) (he:QE X e h)
  (ha:∀ ov iv new,augStore i ov iv new=(do holding [new,ov,iv] (setItem ov iv new);release [new,ov,iv] [];pure .next)):QS X (.AugAssign (.Subscript a i tpos) o e pos) (tS o f g h) :=
 PS_imp (Bq ho hi G1 he (JD o) (zo hu) ha) fun D σ H hq0=>by
  obtain ⟨P,φ,sl,st,rs,s,out,eo,q⟩:=hq0;obtain ⟨p,e1,e2⟩:=zA eo;obtain ⟨r,e3,e4⟩:=zA e2;split at e4
  ·rename_i j hj
   obtain ⟨xs,e5,e6⟩:=zA e4;obtain ⟨x,e7,e8⟩:=zA e6;obtain ⟨t,e9,e10⟩:=zA e8;obtain ⟨z,e11,e12⟩:=zA e10;obtain ⟨st',e13,e14⟩:=zA e12;cases e14;refine ⟨P,φ,sl,st,rs,s,p.1,p.2,e1,fun P1 φ1 H1 w1 f1 s1 r1=>⟨P1,φ1,sl,p.2,rs.frm f1,s1,r.1,r.2,e3,fun P2 φ2 H2 w2 f2 s2 r2=>?_⟩⟩;rw [hj] at r2;refine ⟨P2,φ2,r.2,p.1,j,x,s2,r1.frm f2,r2,⟨xs,e5,e7⟩,fun w3 r3=>⟨P2,φ2,sl,r.2,(rs.frm f1).frm f2,s2,t.1,t.2,e9,fun P3 φ3 H3 w4 f3 s3 r4=>⟨P3,φ3,t.2,x,t.1,z,s3,r3.frm f3,r4,e11,fun w5 r5=>⟨P3,φ3,t.2,p.1,.int j,z,st',s3,(r1.frm f2).frm f3,r2.frm f3,r5,e13,fun P4 φ4 H4 f4 s4=>?_⟩⟩⟩⟩;exact q P4 φ4 H4 σ (((f1.trans f2).trans f3).trans f4) s4 ((((rs.frm f1).frm f2).frm f3).frm f4)
  ·cases e4
end
def dh (gd:Gd) (g:GF) (s:SF):List AV->Sl->aa->Option Out
 | [],sl,st=>if ci gd st=true then some (.nx sl st) else none
 | x::xs,sl,st=>if ci gd st=true then (g x sl st).bind fun p=>(s p.1 p.2).bind fun o=>match o with
  | .nx sl st=>dh gd g s xs sl st
  | .ct sl st=>dh gd g s xs sl st
  | .bk sl st=>some (.nx sl st)
  | .rt v st=>some (.rt v st) else none
def HX (it:IF) (g:GF) (s:SF):SF:=fun sl st=>(it sl st).bind fun p=>dh p.1.gd g s p.1.Lx sl p.2
def dJ (t:TF) (s:SF):Nat->Sl->aa->Option Out
 | 0,_,_=>none
 | n + 1,sl,st=>(t sl st).bind fun p=>if p.1=true then (s sl p.2).bind fun o=>match o with
  | .nx sl st=>dJ t s n sl st
  | .ct sl st=>dJ t s n sl st
  | .bk sl st=>some (.nx sl st)
  | .rt v st=>some (.rt v st) else some (.nx sl p.2)
open Classical in
def pZ (t:TF) (s:SF):SF:=fun sl st=>if h:∃ n,(dJ t s n sl st).isSome=true then dJ t s (Classical.choose h) sl st else none
theorem dH:∀ {n m:Nat}{sl:Sl}{st:aa}{o:Out},n <= m->dJ t s n sl st=some o->dJ t s m sl st=some o:=by
 intro n
 induction n with
 | zero=>intro m sl st o _ h;cases h
 | succ n ih =>
  intro m sl st o hm h;cases m with
  | zero=>omega
  | succ m =>
   simp only [dJ] at h ⊢;obtain ⟨p,e1,e2⟩:=zA h;rw [e1,bind_some];split at e2
   ·rename_i hc
    rw [yI hc];obtain ⟨q,e3,e4⟩:=zA e2;rw [e3,bind_some];cases q with
    | nx sl st=>exact ih oM e4
    | ct sl st=>exact ih oM e4
    | bk sl st=>exact e4
    | rt v st=>exact e4
   ·rename_i hc
    rw [yH hc];exact e2
theorem kz {t:TF}{s:SF}{n:Nat}{sl:Sl}{st:aa}{o:Out} (h:dJ t s n sl st=some o):pZ t s sl st=some o:=by
 have hx:∃ n,(dJ t s n sl st).isSome=true:=⟨n,by rw [h];rfl⟩;unfold pZ;rw [dif_pos hx];obtain ⟨o',e'⟩:=Option.isSome_iff_exists.mp (Classical.choose_spec hx);have h1:=dH (Nat.le_max_left n (Classical.choose hx)) h;have h2:=dH (Nat.le_max_right n (Classical.choose hx)) e';rw [e',<- h1,h2]
theorem vK {t:TF}{s:SF}{sl:Sl}{st:aa}{o:Out} (h:pZ t s sl st=some o):∃ n,dJ t s n sl st=some o:=by
 unfold pZ at h;split at h
 ·exact ⟨_,h⟩
 ·cases h
section
variable {X:Cx}{tg iter c:Expr}{body:List Stmt}{pos:Pos}{it:IF}{g:GF}{s:SF}{t:TF}
theorem C4 [Lw] (hp:PassesOwn (model X.prog X.w) X.A X.env X.xe) (hc:X.calm=true) (hi:QI X tg iter it) (hg:QG X tg g) (hb:lm X body s) (hs:∀ x,foldedSetIterable iter X.env x=pure x):QS X (.For tg iter body [] pos) (HX it g s) :=
 PS_imp (vx hp hc hi hg hb hs) fun D σ H hq0=>by
  obtain ⟨P,φ,sl,st,rs,sm,o,e,q⟩:=hq0;obtain ⟨p,e1,e2⟩:=zA e;refine ⟨P,φ,sl,st,rs,sm,p.1,p.2,e1,fun P1 φ1 H1 J f1 s1 ij=>?_⟩;have q1:=q.frm f1;refine ⟨fun i m σ' H'=>m=p.1.Lx.length - i/\i <= p.1.Lx.length/\∃ P' φ' sl' st',Frm P1 φ1 H1 P' φ' H'/\Sim X.gm P' φ' st' H'/\LG X.gm P' H' φ' sl' σ'/\dh p.1.gd g s (p.1.Lx.drop i) sl' st'=some o,⟨_,rfl,Nat.zero_le _,P1,φ1,sl,p.2,Frm.refl,s1,rs.frm f1,by simpa using e2⟩,?_⟩;rintro i m σ' H' ⟨rfl,hle,P2,φ2,sl2,st2,f2,s2,rs2,eg⟩;rcases yS i p.1.Lx.length with hlt | hge
  ·right
   rw [List.drop_eq_getElem_cons hlt] at eg;simp only [dh] at eg;split at eg
   ·rename_i hgd
    obtain ⟨go,yl⟩:=ij.go P2 φ2 H' st2 i _ f2 s2 hgd (zF hlt);obtain ⟨q4,e4,e5⟩:=zA eg;obtain ⟨o1,e6,e7⟩:=zA e5;refine ⟨go,fun σ' H'=>∃ P' φ' sl' st',Frm P1 φ1 H1 P' φ' H'/\Sim X.gm P' φ' st' H'/\LG X.gm P' H' φ' sl' σ'/\dh p.1.gd g s (p.1.Lx.drop (i + 1)) sl' st'=some o,fun σ' H' z=>⟨_,by omega,rfl,hlt,z⟩,fun x H3 hy=>?_⟩;obtain ⟨P3,f3,s3,r3⟩:=yl x H3 hy;refine ⟨P3,φ2,sl2,st2,_,rs2.frm f3,s3,r3,q4.1,q4.2,e4,fun P4 φ4 H4 σ4 f4 s4 rs4=>⟨P4,φ4,q4.1,q4.2,rs4,s4,o1,e6,?_⟩⟩;have fa:=(f2.trans f3).trans f4;cases o1 with
    | nx sl5 st5=>exact fun P5 φ5 H5 σ5 f5 s5 rs5=>⟨P5,φ5,sl5,st5,fa.trans f5,s5,rs5,e7⟩
    | ct sl5 st5=>exact fun P5 φ5 H5 σ5 f5 s5 rs5=>⟨P5,φ5,sl5,st5,fa.trans f5,s5,rs5,e7⟩
    | bk sl5 st5=>cases e7;exact fun P5 φ5 H5 σ5 f5 s5 rs5=>q1 P5 φ5 H5 σ5 (fa.trans f5) s5 rs5
    | rt v st5=>cases e7;exact fun P5 φ5 H5 w f5 s5 r5=>q1 P5 φ5 H5 w (fa.trans f5) s5 r5
   ·cases eg
  ·left
   have ei:i=p.1.Lx.length:=Nat.le_antisymm hle hge;subst ei;rw [List.drop_length] at eg;simp only [dh] at eg;split at eg
   ·rename_i hgd
    cases eg;exact ⟨ij.stop P2 φ2 H' _ f2 s2 hgd,q1 P2 φ2 H' σ' f2 s2 rs2⟩
   ·cases eg
theorem xr [Lw] (hp:PassesOwn (model X.prog X.w) X.A X.env X.xe) (hc:QT X c t) (hb:lm X body s):QS X (.While c body [] pos) (pZ t s) :=
 PS_imp (xz hp hc hb) fun D σ H hq0=>by
  obtain ⟨P,φ,sl,st,rs,sm,o,e,q⟩:=hq0;obtain ⟨n0,e0⟩:=vK e;refine ⟨fun m σ' H'=>∃ P' φ' sl' st',Frm P φ H P' φ' H'/\Sim X.gm P' φ' st' H'/\LG X.gm P' H' φ' sl' σ'/\dJ t s m sl' st'=some o,⟨n0,P,φ,sl,st,Frm.refl,sm,rs,e0⟩,?_⟩;rintro m σ' H' ⟨P2,φ2,sl2,st2,f2,s2,rs2,eg⟩;cases m with
  | zero=>cases eg
  | succ m =>
   simp only [dJ] at eg;obtain ⟨p,e1,e2⟩:=zA eg;refine ⟨P2,φ2,sl2,st2,rs2,s2,p.1,p.2,e1,fun P3 φ3 H3 b f3 s3 r3=>?_⟩;cases r3;cases hb':p.1 with
   | true =>
    rw [hb'] at e2;simp only [if_true] at e2 ⊢;obtain ⟨o1,e6,e7⟩:=zA e2;refine ⟨fun σ' H'=>∃ P' φ' sl' st',Frm P φ H P' φ' H'/\Sim X.gm P' φ' st' H'/\LG X.gm P' H' φ' sl' σ'/\dJ t s m sl' st'=some o,fun σ' H' z=>⟨m,Nat.lt_succ_self m,z⟩,P3,φ3,sl2,p.2,rs2.frm f3,s3,o1,e6,?_⟩;have fa:=f2.trans f3;cases o1 with
    | nx sl5 st5=>exact fun P5 φ5 H5 σ5 f5 s5 rs5=>⟨P5,φ5,sl5,st5,fa.trans f5,s5,rs5,e7⟩
    | ct sl5 st5=>exact fun P5 φ5 H5 σ5 f5 s5 rs5=>⟨P5,φ5,sl5,st5,fa.trans f5,s5,rs5,e7⟩
    | bk sl5 st5=>cases e7;exact fun P5 φ5 H5 σ5 f5 s5 rs5=>q P5 φ5 H5 σ5 (fa.trans f5) s5 rs5
    | rt v st5=>cases e7;exact fun P5 φ5 H5 w f5 s5 r5=>q P5 φ5 H5 w (fa.trans f5) s5 r5
   | false =>
    rw [hb'] at e2;simp only [yB,if_false] at e2 ⊢;cases e2;exact q P3 φ3 H3 σ' (f2.trans f3) s3 (rs2.frm f3)
end
abbrev Fn:=List AV->aa->Option (AV × aa)
def dz [Lw] (mg:Gm) (n:Nat) (fn:Fn):Sp:=fun vs H Q _=>vs.length=n/\∃ P φ args st,Lz mg P H φ args vs/\Sim mg P φ st H/\KG mg RA P φ H (fn args st) Q
def eG:Nat->aa->AV->Option AV
 | n + 1,st,.ref k=>match st[k]? with
  | some (.lst xs)=>(bJ (eG n st) xs).map .fz
  | some (.al t)=>some t
  | _=>none
 | n + 1,st,.tup xs=>(bJ (eG n st) xs).map .tup
 | 0,_,.ref _=>none
 | 0,_,.tup _=>none
 | _,_,t=>some t
def eM:aa->AV->Option AV:=eG 6
mutual
noncomputable def di:AV->Bool
 | .ref _=>false
 | .fz _=>false
 | .tup xs=>ny xs
 | _=>true
noncomputable def ny:List AV->Bool
 | []=>true
 | x::xs=>di x && ny xs
end
def oU (st:aa) (x:AV):Option (AV × aa):=if rf x=true then some (x,st) else match x with
 | .ref k=>match st[k]? with
  | some (.lst xs)=>if rfs xs=true then some (.fz xs,st.set k (.al (.fz xs))) else none
  | some (.al t)=>some (t,st)
  | _=>none
 | _=>none
def nj:aa->List AV->Option (List AV × aa)
 | st,[]=>some ([],st)
 | st,x::xs=>(oU st x).bind fun p=>(nj p.2 xs).map fun q=>(p.1::q.1,q.2)
def pm (fn:Fn):Fn:=fun args st=>if rfs args=true then (fn args []).bind fun p=>(eM p.2 p.1).map fun t=>(t,st)
 else (bJ (eM st) args).bind fun ts=>(fn ts []).bind fun p=>(eM p.2 p.1).bind fun t=>if di t=true then some (t,st) else
  (nj st args).bind fun q=>(fn q.1 []).bind fun p=>(eM p.2 p.1).map fun t=>(t,q.2)
section
variable {mg:Gm}{P:Pr}{φ:List Addr}{st:aa}{H:Hp}
theorem xn [Lw] {n:Nat} (ih:∀ v w t,eG n st v=some t->RA mg P H φ v w->RA mg P' H [] t w):∀ {xs:List AV}{vs:List V}{ts:List AV},bJ (eG n st) xs=some ts->Lz mg P H φ xs vs->Lz mg P' H [] ts vs:=by
 intro xs
 induction xs with
 | nil=>intro vs ts e r;cases e;simp only [Lz] at r ⊢;exact r
 | cons x xs ihx =>
  intro vs ts e r;simp only [bJ] at e;obtain ⟨y,e1,e2⟩:=zA e;obtain ⟨ys,e3,e4⟩:=zE.mp e2;subst e4;simp only [Lz] at r;obtain ⟨v,ws,rfl,r1,r2⟩:=r;exact aI (ih x v y e1 r1) (ihx e3 r2)
theorem p8 [Lw] (s:Sim mg P φ st H):∀ (n:Nat) (v:AV) (w:V) (t:AV),eG n st v=some t->RA mg P H φ v w->RA mg (fun a=>P a\/a ∈ φ) H [] t w:=by
 have ex:∀ a,P a->(P a\/a ∈ φ)/\H a=H a:=fun a h=>⟨.inl h,rfl⟩
 have pl:∀ {t:AV}{w:V},R.rf t=true->RA mg P H φ t w->RA mg (fun a=>P a\/a ∈ φ) H [] t w:=fun h r=>(RA.rf (ψ:=[]) h r).mono ex fun _ _ z=>z
 intro n
 induction n with
 | zero =>
  intro v w t e r;cases v <;> simp only [eG] at e <;> first | (cases e;done) | skip
  all_goals cases e;exact pl rfl r
 | succ n ih =>
  intro v w t e r;cases v with
  | ref k =>
   simp only [eG] at e;simp only [RA] at r;obtain ⟨a,ea,rfl⟩:=r;split at e
   ·rename_i xs hk
    obtain ⟨ts,e1,e2⟩:=zE.mp e;subst e2;obtain ⟨a',ea',c⟩:=s.at hk;rw [ea] at ea';cases ea';obtain ⟨_,vs,h1,h2⟩:=c;simp only [RA];exact ⟨a,vs,rfl,.inl ⟨.inr (zW ea),.inl h1⟩,xn ih e1 h2⟩
   ·rename_i t' hk
    cases e;obtain ⟨a',ea',c⟩:=s.at hk;rw [ea] at ea';cases ea';exact c.2.mono ex fun _ _ z=>z
   ·cases e
  | tup xs =>
   simp only [eG] at e;obtain ⟨ts,e1,e2⟩:=zE.mp e;subst e2;simp only [RA] at r;obtain ⟨a,vs,rfl,p,h1,h2⟩:=r;simp only [RA];exact ⟨a,vs,rfl,.inl p,h1,xn ih e1 h2⟩
  | _=>simp only [eG] at e;cases e;exact pl rfl r
mutual
theorem RA.fl [Lw] (h:∀ a vs,P a->H a=some (.tup vs)->P' a):∀ {t:AV}{w:V},di t=true->RA mg P H φ t w->RA mg P' H ψ t w
 | .non,_,_,r=>by simp only [RA] at r ⊢;exact r
 | .bl _,_,_,r=>by simp only [RA] at r ⊢;exact r
 | .int _,_,_,r=>by simp only [RA] at r ⊢;exact r
 | .str _,_,_,r=>by simp only [RA] at r ⊢;exact r
 | .ref _,_,e,_=>by simp only [di] at e;cases e
 | .fz _,_,e,_=>by simp only [di] at e;cases e
 | .tup xs,_,e,r=>by
  simp only [RA,di] at r e ⊢;obtain ⟨a,vs,rfl,p,h1,h2⟩:=r;exact ⟨a,vs,rfl,h a vs p h1,h1,Lz.fl h e h2⟩
theorem Lz.fl [Lw] (h:∀ a vs,P a->H a=some (.tup vs)->P' a):∀ {ts:List AV}{ws:List V},ny ts=true->Lz mg P H φ ts ws->Lz mg P' H ψ ts ws
 | [],_,_,r=>by simp only [Lz] at r ⊢;exact r
 | t::ts,_,e,r=>by
  simp only [Lz,ny,zC] at r e ⊢;obtain ⟨v,ws,rfl,r1,r2⟩:=r;exact ⟨v,ws,rfl,RA.fl h e.1 r1,Lz.fl h e.2 r2⟩
end
theorem E5 [Lw] (s:Sim mg P φ st H) (e:oU st x=some (t,st')) (r:RA mg P H φ x v):∃ P',Frm P φ H P' φ H/\Sim mg P' φ st' H/\RA mg P' H [] t v:=by
 unfold oU at e;split at e
 ·rename_i h
  cases e;exact ⟨P,Frm.refl,s,RA.rf h r⟩
 ·cases x with
  | ref k =>
   simp only [RA] at r;obtain ⟨a,ea,rfl⟩:=r;dsimp only at e;split at e
   ·rename_i xs hk
    split at e
    ·rename_i hr
     cases e;obtain ⟨a',ea',c⟩:=s.at hk;rw [ea] at ea';cases ea';obtain ⟨na,vs,h1,h2⟩:=c;have ex:∀ b,P b->(P b\/b=a)/\H b=H b:=fun b h=>⟨.inl h,rfl⟩
     have hm:=zW ea;have rr:RA mg (fun b=>P b\/b=a) H [] (.fz xs) (.ref a):=by
      simp only [RA];exact ⟨a,vs,rfl,.inl ⟨.inr rfl,.inl h1⟩,(Lz.rf hr h2).mono ex fun _ _ z=>z⟩
     have dm:∀ b,(P b\/b=a)->H b ≠ none:=fun b h=>by
      rcases h with h | h
      ·exact s.dom b h
      ·rw [h];exact s.cd a hm
     refine ⟨fun b=>P b\/b=a,⟨ex,⟨[],by simp,by simp⟩,fun _ _ _ _=>rfl,fun b h=>?_,fun _ h=>h,fun _ _ _ h=>h⟩,⟨by rw [List.length_set];exact s.len,s.nd,dm,s.cd,fun j c b e1 e2=>?_,fun t ht=>⟨(s.tb t ht).1,fun z=>z.elim (s.tb t ht).2 fun z=>s.tnc ht (by rw [z];exact hm)⟩⟩,rr⟩
     ·rcases h with h | h
      ·exact .inl h
      ·exact .inr (.inr (by rw [h];exact hm))
     ·by_cases hj:j=k
      ·subst hj
       rw [ea] at e2;cases e2;rw [List.getElem?_set_self (by rw [<- s.len];exact (zB.mp ea).1)] at e1;cases e1;exact ⟨.inr rfl,rr⟩
      ·rw [List.getElem?_set_ne (Ne.symm hj)] at e1
       refine (s.cell j c b e1 e2).mono ex (fun _ _ z=>z) rfl fun n z=>?_
       rcases z with z | z
       ·exact n z
       ·refine hj ?_
        subst z;obtain ⟨h1,e1⟩:=zB.mp e2;obtain ⟨h2,e2⟩:=zB.mp ea;exact (List.getElem_inj s.nd).mp (e1.trans e2.symm)
    ·cases e
   ·rename_i t' hk
    cases e;obtain ⟨a',ea',c⟩:=s.at hk;rw [ea] at ea';cases ea';exact ⟨P,Frm.refl,s,c.2⟩
   ·cases e
  | _=>cases e
theorem E3 [Lw]:∀ {xs ts:List AV}{st st':aa}{P:Pr}{vs:List V},Sim mg P φ st H->nj st xs=some (ts,st')->Lz mg P H φ xs vs->∃ P',Frm P φ H P' φ H/\Sim mg P' φ st' H/\Lz mg P' H [] ts vs:=by
 intro xs
 induction xs with
 | nil=>intro ts st st' P vs s e r;cases e;simp only [Lz] at r;subst r;exact ⟨P,Frm.refl,s,aX⟩
 | cons x xs ih =>
  intro ts st st' P vs s e r;simp only [nj] at e;obtain ⟨p,e1,e2⟩:=zA e;obtain ⟨q,e3,e4⟩:=zE.mp e2;cases e4;simp only [Lz] at r;obtain ⟨v,ws,rfl,r1,r2⟩:=r;obtain ⟨P1,f1,s1,q1⟩:=E5 s e1 r1;obtain ⟨P2,f2,s2,q2⟩:=ih s1 e3 (r2.frm f1);exact ⟨P2,f1.trans f2,s2,aI (q1.mono f2.ext fun _ _ z=>z) q2⟩
theorem HZ [Lw] {fn:Fn}{args:List AV}{vs:List V}{Q:VK} (s:Sim mg P φ st H) (r:Lz mg P H [] args vs) (h:KG mg RA P φ H ((fn args []).bind fun p=>(eM p.2 p.1).map fun t=>(t,st)) Q):∃ P φ args st,Lz mg P H φ args vs/\Sim mg P φ st H/\KG mg RA P φ H (fn args st) Q:=by
 obtain ⟨t,st',e,k⟩:=h;obtain ⟨p,e1,e2⟩:=zA e;obtain ⟨t',e3,e4⟩:=zE.mp e2;cases e4;refine ⟨P,[],args,[],r,Sim.nil s.dom s.tb,p.1,p.2,e1,fun P1 φ1 H1 w f1 s1 r1=>?_⟩;obtain ⟨m,em,nm⟩:=f1.new;have kp:∀ a,H a ≠ none->(∀ ps,H a ≠ some (.tbl ps))->H1 a=H a:=fun a h=>f1.keep a h (by simp)
 have kc:=s.ckeep (fun a h=>(f1.ext a h).2) kp;have nn:∀ a,(P1 a\/a ∈ φ1)->P a\/H a=none:=fun a h=>by
  rcases h with h | h
  ·rcases f1.pn a h with z | z | z
   ·exact .inl z
   ·exact .inr z
   ·cases z
  ·rw [em] at h;exact .inr (nm a h)
 refine k (fun a=>P1 a\/a ∈ φ1) φ H1 w ⟨fun a h=>⟨.inl (f1.ext a h).1,(f1.ext a h).2⟩,⟨[],by simp,by simp⟩,fun a h _ z=>kp a h z,fun a h=>?_,f1.sm,f1.fz⟩ (s.stay (fun a h=>⟨.inl (f1.ext a h).1,(f1.ext a h).2⟩) kc (fun a h n z=>?_) (fun a h=>?_) fun t ht=>⟨(s1.tb t ht).1,fun z=>z.elim (s1.tb t ht).2 (s1.tnc ht)⟩) (RA.lift (p8 s1 6 _ _ _ e3 r1))
 ·rcases nn a h with z | z
  ·exact .inl z
  ·exact .inr (.inl z)
 ·rcases nn a z with z | z
  ·exact n z
  ·exact s.cd a h z
 ·rcases h with h | h
  ·exact s1.dom a h
  ·exact s1.cd a h
theorem Gp [Lw] {n:Nat} (h:dz mg n (pm fn) vs H Q E):dz mg n fn vs H Q E:=by
 obtain ⟨hl,P,φ,args,st,r,s,k⟩:=h;refine ⟨hl,?_⟩;unfold pm at k;split at k
 ·rename_i hr
  exact HZ s (Lz.rf hr r) k
 ·obtain ⟨t,st',e,k⟩:=k
  obtain ⟨ts,e1,e2⟩:=zA e;obtain ⟨p,e3,e4⟩:=zA e2;obtain ⟨t',e5,e6⟩:=zA e4;split at e6
  ·rename_i hf
   cases e6;have dm:∀ a,(P a\/a ∈ φ)->H a ≠ none:=fun a h=>by
    rcases h with h | h
    ·exact s.dom a h
    ·exact s.cd a h
   refine ⟨fun a=>P a\/a ∈ φ,[],ts,[],xn (fun v w t e r=>p8 s 6 v w t e r) e1 r,Sim.nil dm (fun t ht=>⟨(s.tb t ht).1,fun z=>z.elim (s.tb t ht).2 (s.tnc ht)⟩),p.1,p.2,e3,fun P1 φ1 H1 w f1 s1 r1=>?_⟩;obtain ⟨m,em,nm⟩:=f1.new;have kp:∀ a,H a ≠ none->(∀ ps,H a ≠ some (.tbl ps))->H1 a=H a:=fun a h=>f1.keep a h (by simp)
   have kc:=s.ckeep (fun a h=>(f1.ext a (.inl h)).2) kp;have ext:∀ a,P a->((P1 a\/a ∈ φ1)/\(a ∈ φ->P a))/\H1 a=H a:=fun a h=>⟨⟨.inl (f1.ext a (.inl h)).1,fun _=>h⟩,(f1.ext a (.inl h)).2⟩
   refine k (fun a=>(P1 a\/a ∈ φ1)/\(a ∈ φ->P a)) φ H1 w ⟨ext,⟨[],by simp,by simp⟩,fun a h _ z=>kp a h z,fun a h=>?_,f1.sm,f1.fz⟩ (s.stay ext kc (fun a h n z=>n (z.2 h)) (fun a h=>?_) fun t ht=>⟨(s1.tb t ht).1,fun z=>z.1.elim (s1.tb t ht).2 (s1.tnc ht)⟩) (RA.fl (fun a us hP hT=>⟨hP,fun hm=>?_⟩) hf (p8 s1 6 _ _ _ e5 r1))
   ·rcases h.1 with z | z
    ·rcases f1.pn a z with z | z | z
     ·rcases z with z | z
      ·exact .inl z
      ·exact .inr (.inr z)
     ·exact .inr (.inl z)
     ·cases z
    ·rw [em] at z;exact .inr (.inl (nm a z))
   ·rcases h.1 with h | h
    ·exact s1.dom a h
    ·exact s1.cd a h
   ·obtain ⟨j,hj⟩:=z9 hm
    obtain ⟨c,hc⟩:∃ c,st[j]?=some c:=⟨_,zF (by rw [<- s.len];exact (zB.mp hj).1)⟩;have cr:=s.cell j c a hc hj;have hT':H a=some (.tup us):=by rw [<- kc a hm];exact hT
    cases c with
    | lst xs=>obtain ⟨_,_,z,_⟩:=cr;rw [hT'] at z;cases z
    | al t=>exact cr.1
    | dK Lv=>obtain ⟨_,_,z,_⟩:=cr;rw [hT'] at z;cases z
    | dT Lv=>obtain ⟨_,_,z,_⟩:=cr;rw [hT'] at z;cases z
    | ins c fs=>obtain ⟨_,_,_,_,_,z,_⟩:=cr;rw [hT'] at z;cases z
    | wk Lv=>obtain ⟨_,_,_,z,_⟩:=cr;rw [hT'] at z;cases z
  ·obtain ⟨q,e7,e8⟩:=zA e6
   obtain ⟨P1,f1,s1,r1⟩:=E3 s e7 r;exact HZ s1 r1 ⟨t,st',e8,fun P2 φ2 H2 w f2 s2 r2=>k P2 φ2 H2 w (f1.trans f2) s2 r2⟩
end
theorem FnOk.pm [Lw] {P:Program}{w:World}{K:Frag}{mg:Str->Option Value}{base:Heap}{k:Nat}{f:Addr}{fd:FuncData}{ps:List Str}{n:Nat}{fn:Fn} (F:FnOk P w K mg base eE k f fd ps (dz ⟨K,mg⟩ n fn)):FnOk P w K mg base eE k f fd ps (dz ⟨K,mg⟩ n (R.pm fn)) :=
 F.imp fun _ _ _ _ h=>Gp h
def run (n:Nat) (b:SF):Fn:=fun args st=>(b (args.map some++List.replicate (n - args.length) none) st).bind fun o=>match o with
 | .rt v st=>some (v,st)
 | .nx _ st=>some (.non,st)
 | _=>none
theorem AW [Lw] (h:Lz mg P H φ args vs):LG mg P H φ (args.map some++List.replicate (N.length - args.length) none) (L2.start N vs):=by
 have hl:=h.length;unfold L2.start;refine ⟨by simp [hl],fun i v e=>?_⟩;have hi:i < args.length:=by
  rcases yS i args.length with z | z
  ·exact z
  ·rw [z7 (by simpa using z),List.getElem?_replicate] at e
   split at e <;> cases e
 rw [zN (by simpa using hi),zR] at e;rw [zN (by rw [zH,<- hl];exact hi),zR];cases ha:args[i]? with
 | none=>rw [ha] at e;cases e
 | some x =>
  rw [ha] at e;cases e;obtain ⟨w,e1,r1⟩:=h.get ha;exact ⟨w,by rw [e1];rfl,r1⟩
def wK (fn:Fn) (g:AF):EF:=fun sl st=>(g sl st).bind fun p=>fn p.1 p.2
section
variable {X:Cx}{x:Str}{p pos:Pos}{e o:Expr}{es:List Expr}{k:Nat}{f:Addr}{fd:FuncData}{ps:List Str}{fn:Fn}{g:AF}{h:EF}
theorem JR [Lw] {n:Nat} (hn:∀ sl st xs st',g sl st=some (xs,st')->xs.length=n) (q:rE mg (wK fn g) σ H Q):tO (dz mg n fn) [] E (rA mg g) σ H Q:=by
 obtain ⟨P,φ,sl,st,rs,s,kk⟩:=q;refine ⟨P,φ,sl,st,rs,s,?_⟩;obtain ⟨a,st',e1,q⟩:=kk.bind (Ra:=Lz);refine ⟨a,st',e1,fun P1 φ1 H1 b f1 s1 r1=>?_⟩;obtain ⟨P2,φ2,st2,xs,f2,s2,r2,k2⟩:=q P1 φ1 H1 b f1 s1 r1;rw [List.append_nil];exact ⟨by rw [<- r1.length];exact hn _ _ _ _ e1,P2,φ2,xs,st2,r2,s2,k2⟩
theorem Bk [Lw] (F:FnOk X.prog X.w X.K X.mg X.base eE k f fd ps (dz X.gm ps.length fn)) (hr:Room k X.A) (hg:Gl X x) (hm:X.mg x=some (.ref f)) (hk:keepIn X.K (.ref f)=true) (hb:Binds X.K fd ps [])
  (ha:QA X (e::es) g) (hn:∀ sl st xs st',g sl st=some (xs,st')->xs.length=ps.length) (hdb:(x == ("__debug__":Str))=false) (he:starEach (e::es) X.env=(false,eval e X.env)::starEach es X.env) (hpl:(backTo pos (starEach es X.env)).any (·.1)=false) :
  QE X (.Call (.Name x p) (e::es) [] pos) (wK fn g):=PE_imp (BG (E:=E0) F hr hg hm hk hb .nil mQ ha hdb he hpl) fun _ _ _ q=>JR hn q
theorem xw [Lw] (F:FnOk X.prog X.w X.K X.mg X.base eE k f fd ps (dz X.gm ps.length fn)) (hr:Room k X.A) (hg:Gl X x) (hm:X.mg x=some (.ref f)) (hk:keepIn X.K (.ref f)=true) (hb:Binds X.K fd ps [])
  (hn:ps.length=0) (hdb:(x == ("__debug__":Str))=false):QE X (.Call (.Name x p) [] [] pos) (wK fn dR):=PE_imp (xK (E:=E0) F hr hg hm hk hb .nil mQ hdb) fun σ H Q q=>by
 obtain ⟨P,φ,sl,st,rs,s,kk⟩:=q;exact ⟨by simp [hn],P,φ,[],st,aX,s,kk⟩
def jc (st:aa) (c:Str):AV->Option (List (Str × AV))
 | .ref k=>match st[k]? with
  | some (.ins c' fs)=>if c'=c then some fs else none
  | _=>none
 | _=>none
theorem mZ (h:KVR mg P H φ fs ws) (f:Str):(fs.lookup f=none->ws.lookup f=none)/\∀ v,fs.lookup f=some v->∃ w,ws.lookup f=some w/\RA mg P H φ v w:=by
 induction fs generalizing ws with
 | nil =>
  have:ws=[]:=by simpa using h.1.symm
  subst this;exact ⟨fun _=>rfl,fun v e=>by cases e⟩
 | cons p fs ih =>
  cases ws with
  | nil=>exact absurd h.1 (by simp)
  | cons q ws =>
   obtain ⟨h1,h2⟩:=h;rw [zO,zO] at h1 h2;injection h1 with h3 h4;simp only [Lz] at h2;obtain ⟨v,vs,h5,h6,h7⟩:=h2;injection h5 with h8 h9;subst h8;subst h9;obtain ⟨a,b⟩:=p;obtain ⟨c,d⟩:=q;dsimp only at h3 h6;subst h3;rw [yO,yO];cases hb:f == a with
   | true=>exact ⟨fun z=>(by cases z),fun v z=>(by cases z;exact ⟨d,rfl,h6⟩)⟩
   | false=>exact ih ⟨h4,h7⟩
theorem mz [Lw] {mg:Gm}{P:Pr}{φ:List Addr}{st:aa}{H:Hp}{c:Str}{v:AV}{w:V}{fs:List (Str × AV)} (s:Sim mg P φ st H) (h:jc st c v=some fs) (r:RA mg P H φ v w) :
  ∃ k a C dx ws,v=.ref k/\φ[k]?=some a/\¬ P a/\w=.ref a/\mg.mg c=some (.ref C)/\H a=some (.ins C dx ws)/\KVR mg P H φ fs ws:=by
 cases v with
 | ref k =>
  simp only [jc] at h;split at h
  ·rename_i c' fs' hk
   split at h
   ·rename_i hc
    cases h;subst hc;simp only [RA] at r;obtain ⟨a,ea,rfl⟩:=r;obtain ⟨a',ea',cr⟩:=s.at hk;rw [ea] at ea';cases ea';obtain ⟨na,C,dx,ws,h1,h2,h3⟩:=cr;exact ⟨k,a,C,dx,ws,rfl,ea,na,rfl,h1,h2,h3⟩
   ·cases h
  ·cases h
 | _=>cases h
def wJ (c m:Str) (fn:Fn) (h:EF) (g:AF):EF:=fun sl st=>(h sl st).bind fun p=>(jc p.2 c p.1).bind fun fs=>if (fs.lookup m).isNone=true then (g sl p.2).bind fun q=>fn (p.1::q.1) q.2 else none
theorem Ew [Lw] {n:Nat} (hC:mg.mg c=some (.ref C)) (hn:∀ sl st xs st',g sl st=some (xs,st')->xs.length + 1=n) (q:rE mg (wJ c m fn h g) σ H Q):tN C m (dz mg n fn) [] E (rE mg h) (rA mg g) σ H Q:=by
 obtain ⟨P,φ,sl,st,rs,s,v,st',e,k⟩:=q;obtain ⟨p,e1,e2⟩:=zA e;obtain ⟨fs,e3,e4⟩:=zA e2;split at e4
 ·rename_i hm
  obtain ⟨q,e5,e6⟩:=zA e4;refine ⟨P,φ,sl,st,rs,s,p.1,p.2,e1,fun P1 φ1 H1 w f1 s1 r1=>?_⟩;obtain ⟨j,a,C',dx,ws,h1,h2,h3,rfl,h5,h6,h7⟩:=mz s1 e3 r1;rw [hC] at h5;cases h5;refine ⟨a,dx,ws,rfl,h6,(mZ h7 m).1 (by simpa using hm),P1,φ1,sl,p.2,rs.frm f1,s1,q.1,q.2,e5,fun P2 φ2 H2 vs f2 s2 r2=>?_⟩;show dz mg n fn (V.ref a::(vs++[])) H2 Q E;rw [List.append_nil];exact ⟨by rw [yV,<- r2.length];exact hn _ _ _ _ e5,P2,φ2,p.1::q.1,q.2,aI (r1.frm f2) r2,s2,v,st',e6,fun P3 φ3 H3 w3 f3 s3 r3=>k P3 φ3 H3 w3 ((f1.trans f2).trans f3) s3 r3⟩
 ·cases e4
theorem Bh [Lw] (ho:QE X o h) (cl:Cls X.K C) (hC:X.mg c=some (.ref C)) (hm:jT X.K C m f) (F:FnOk X.prog X.w X.K X.mg X.base eE k f fd ps (dz X.gm ps.length fn)) (hr:Room k X.A) (hb:Binds X.K fd ps [])
  (ha:QA X (e::es) g) (hn:∀ sl st xs st',g sl st=some (xs,st')->xs.length + 1=ps.length) (hst:starEach (e::es) X.env=(false,eval e X.env)::starEach es X.env) (hpl:(backTo pos (starEach es X.env)).any (·.1)=false)
  (ht:eval (.Call (.Attribute o m apos) (e::es) [] pos) X.env=(do
   let ov <- eval o X.env
   standAt apos.atName
   let (f,first) <- holding [ov] (getMethod ov m pl)
   callWith pos f first (backTo pos (starEach (e::es) X.env)) (backToKw pos (keywordEach [] X.env)))):QE X (.Call (.Attribute o m apos) (e::es) [] pos) (wJ c m fn h g) :=
 PE_imp (BB (E:=E0) ho cl hm F hr hb .nil mQ ha hst hpl ht) fun _ _ _ q=>Ew hC hn q
theorem xu [Lw] (ho:QE X o h) (cl:Cls X.K C) (hC:X.mg c=some (.ref C)) (hm:jT X.K C m f) (F:FnOk X.prog X.w X.K X.mg X.base eE k f fd ps (dz X.gm ps.length fn)) (hr:Room k X.A) (hb:Binds X.K fd ps [])
  (hn:ps.length=1)
  (ht:eval (.Call (.Attribute o m apos) [] [] pos) X.env=(do
   let ov <- eval o X.env
   standAt apos.atName
   let (f,first) <- holding [ov] (getMethod ov m pl)
   callWith pos f first (backTo pos (starEach [] X.env)) (backToKw pos (keywordEach [] X.env)))):QE X (.Call (.Attribute o m apos) [] [] pos) (wJ c m fn h dR) :=
 PE_imp (xG (E:=E0) ho cl hm F hr hb .nil mQ ht) fun σ H Q q=>by
  obtain ⟨P,φ,sl,st,rs,s,v,st',e,k⟩:=Ew (E:=E0) (C:=C) hC (g:=dR) (n:=1) (fun sl st xs st' e=>by cases e;rfl) q;refine ⟨P,φ,sl,st,rs,s,v,st',e,fun P1 φ1 H1 w f1 s1 r1=>?_⟩;obtain ⟨a,dx,fs,h1,h2,h3,h4⟩:=k P1 φ1 H1 w f1 s1 r1;refine ⟨a,dx,fs,h1,h2,h3,?_⟩;obtain ⟨P2,φ2,sl2,st2,rs2,s2,xs,st3,e3,k3⟩:=h4;cases e3
  have:=k3 P2 φ2 H1 [] Frm.refl s2 aX
  rw [hn];exact this
def wI (c:Str) (fn:Fn) (g:AF):EF:=fun sl st=>(g sl st).bind fun p=>(fn (.ref p.2.length::p.1) (p.2++[.ins c []])).bind fun q=>match q.1 with
 | .non=>some (.ref p.2.length,q.2)
 | _=>none
theorem BU [Lw] {mg:Gm}{P:Pr}{φ:List Addr}{st:aa}{H:Hp}{c:Str}{C x dx:Addr} (s:Sim mg P φ st H) (hC:mg.mg c=some (.ref C)) (hx:H x=none) (hd:H dx=none) (ne:dx ≠ x) :
  Frm P φ H P (φ++[x]) (af (af H dx (.own x)) x (.ins C dx []))/\Sim mg P (φ++[x]) (st++[.ins c []]) (af (af H dx (.own x)) x (.ins C dx [])):=by
 have nd:∀ a,H a ≠ none->a ≠ dx:=fun a h e=>h (by rw [e];exact hd)
 have f1:Frm P φ H P φ (af H dx (.own x)):=⟨fun a h=>⟨h,ad (nd a (s.dom a h))⟩,⟨[],by simp,by simp⟩,fun a h _ _=>ad (nd a h),fun a h=>.inl h,fun a h=>by rw [ad (nd a h)];exact h,fun a o u h=>by rw [ad (aH h hd)];exact h⟩;have s1:Sim mg P φ st (af H dx (.own x)):=s.stay f1.ext (fun a h=>ad (nd a (s.cd a h))) (fun _ _ h=>h) (fun a h=>f1.sm a (s.dom a h)) fun t ht=>⟨(s.tb t ht).1.new hd,(s.tb t ht).2⟩
 have hx1:af H dx (.own x) x=none:=by rw [ad (Ne.symm ne)];exact hx
 obtain ⟨f2,s2⟩:=mv (c:=.ins c []) (o:=.ins C dx []) s1 hx1 ⟨fun z=>s1.dom x z hx1,C,dx,[],hC,aq,rfl,aX⟩;exact ⟨f1.trans f2,s2⟩
theorem Jp [Lw] {mg:Gm}{c:Str}{C:Addr}{n:Nat}{E:XK}{σ:St}{H:Hp}{Q:VK} (hC:mg.mg c=some (.ref C)) (hn:∀ sl st xs st',g sl st=some (xs,st')->xs.length + 1=n) (q:rE mg (wI c fn g) σ H Q):zm C (dz mg n fn) [] E (rA mg g) σ H Q:=by
 obtain ⟨P,φ,sl,st,rs,s,v,st',e,k⟩:=q;obtain ⟨p,e1,e2⟩:=zA e;obtain ⟨q,e3,e4⟩:=zA e2;refine ⟨P,φ,sl,st,rs,s,p.1,p.2,e1,fun P1 φ1 H1 vs f1 s1 r1=>fun x dx hx hd ne=>?_⟩;obtain ⟨f2,s2⟩:=BU s1 hC hx hd ne;have rx:RA mg P1 (af (af H1 dx (.own x)) x (.ins C dx [])) (φ1++[x]) (.ref p.2.length) (.ref x):=by simp only [RA];exact ⟨x,by rw [<- s1.len];simp,rfl⟩
 rw [List.append_nil];refine ⟨by rw [yV,<- r1.length];exact hn _ _ _ _ e1,P1,φ1++[x],_,_,aI rx (r1.frm f2),s2,q.1,q.2,e3,fun P3 φ3 H3 w f3 s3 r3=>?_⟩;cases hq:q.1 with
 | non =>
  rw [hq] at e4 r3;cases e4;simp only [RA] at r3;exact ⟨r3,k P3 φ3 H3 (.ref x) ((f1.trans f2).trans f3) s3 (rx.frm f3)⟩
 | _=>rw [hq] at e4;cases e4
theorem Di [Lw] (M:Mk X.K C f) (F:FnOk X.prog X.w X.K X.mg X.base eE k f fd ps (dz X.gm ps.length fn)) (hr:Room (k + 1) X.A) (hg:Gl X c) (hm:X.mg c=some (.ref C)) (hb:Binds X.K fd ps [])
  (ha:QA X (e::es) g) (hn:∀ sl st xs st',g sl st=some (xs,st')->xs.length + 1=ps.length) (hdb:(c == ("__debug__":Str))=false) (he:starEach (e::es) X.env=(false,eval e X.env)::starEach es X.env) (hpl:(backTo pos (starEach es X.env)).any (·.1)=false) :
  QE X (.Call (.Name c p) (e::es) [] pos) (wI c fn g):=PE_imp (BC (E:=E0) M F hr hg hm hb .nil mQ ha hdb he hpl) fun _ _ _ q=>Jp hm hn q
def ID (c fl:Str) (h:EF):EF:=fun sl st=>(h sl st).bind fun p=>(jc p.2 c p.1).bind fun fs=>(fs.lookup fl).map fun v=>(v,p.2)
theorem Dj [Lw] (ho:QE X o h) (cl:Cls X.K C) (hC:X.mg c=some (.ref C)) (na:NoAttr X.K C fl) (hb:attributeBase o fl X.env (eval o X.env)=eval o X.env):QE X (.Attribute o fl apos) (ID c fl h) :=
 PE_imp (DH ho hb) fun σ H Q hq0=>by
  obtain ⟨P,φ,sl,st,rs,s,v,st',e,k⟩:=hq0;obtain ⟨p,e1,e2⟩:=zA e;obtain ⟨fs,e3,e4⟩:=zA e2;obtain ⟨t,e5,e6⟩:=zE.mp e4;cases e6;refine ⟨P,φ,sl,st,rs,s,p.1,p.2,e1,fun P1 φ1 H1 w f1 s1 r1=>?_⟩;obtain ⟨j,a,C',dx,ws,h1,h2,h3,rfl,h5,h6,h7⟩:=mz s1 e3 r1;have:C'=C:=by rw [show X.gm.mg c=X.mg c from rfl,hC] at h5;cases h5;rfl
  subst this;obtain ⟨w,hw,rw'⟩:=(mZ h7 fl).2 _ e5;exact ⟨a,C',dx,ws,w,rfl,h6,cl,na,hw,k P1 φ1 H1 w f1 s1 rw'⟩
noncomputable def iN (f:Str) (v:AV):List (Str × AV)->List (Str × AV)
 | []=>[(f,v)]
 | (g,x)::r=>if g=f then (g,v)::r else (g,x)::iN f v r
theorem vt {mg:Gm}{P:Pr}{H:Hp}{φ:List Addr}{f:Str}{v:AV}{w:V} (r:RA mg P H φ v w):∀ {fs:List (Str × AV)}{ws:List (Str × V)},KVR mg P H φ fs ws->KVR mg P H φ (iN f v fs) (dM f w ws):=by
 intro fs
 induction fs with
 | nil =>
  intro ws h;have:ws=[]:=by simpa using h.1.symm
  subst this;exact ⟨rfl,aI r aX⟩
 | cons p fs ih =>
  intro ws h;cases ws with
  | nil=>exact absurd h.1 (by simp)
  | cons q ws =>
   obtain ⟨h1,h2⟩:=h;rw [zO,zO] at h1 h2;injection h1 with h3 h4;simp only [Lz] at h2;obtain ⟨u,us,h5,h6,h7⟩:=h2;injection h5 with h8 h9;subst h8;subst h9;obtain ⟨a,b⟩:=p;obtain ⟨c,d⟩:=q;dsimp only at h3 h6;subst h3;have i:=ih (ws:=ws) ⟨h4,h7⟩;unfold iN dM;by_cases e:a=f
   ·rw [yI e,yI e]
    exact ⟨by rw [zO,zO,h4],aI r h7⟩
   ·rw [yH e,yH e]
    exact ⟨by rw [zO,zO,i.1],aI h6 i.2⟩
def vj (c fl:Str) (h f:EF):SF:=fun sl st=>(f sl st).bind fun p=>(h sl p.2).bind fun q=>match q.1 with
 | .ref k=>(jc q.2 c (.ref k)).bind fun fs=>if Nat.ble fs.length 900=true then some (.nx sl (q.2.set k (.ins c (iN fl p.1 fs)))) else none
 | _=>none
theorem C5 [Lw] (ho:QE X o h) (hv:QE X e f') (cl:Cls X.K C) (hC:X.mg c=some (.ref C)) (na:NoAttr X.K C fl) (hs:swapsWith e (some (.Attribute o fl pos')) pos.line X.env=pure false):QS X (.Assign [.Attribute o fl pos'] e pos) (vj c fl h f') :=
 PS_imp (Dr ho hv hs) fun D σ H hq0=>by
  obtain ⟨P,φ,sl,st,rs,s,out,eo,q⟩:=hq0;obtain ⟨p,e1,e2⟩:=zA eo;obtain ⟨r,e3,e4⟩:=zA e2;split at e4
  ·rename_i j hj
   obtain ⟨fs,e5,e6⟩:=zA e4;split at e6
   ·rename_i hl
    cases e6;refine ⟨P,φ,sl,st,rs,s,p.1,p.2,e1,fun P1 φ1 H1 w1 f1 s1 r1=>⟨P1,φ1,sl,p.2,rs.frm f1,s1,r.1,r.2,e3,fun P2 φ2 H2 w2 f2 s2 r2=>?_⟩⟩;rw [hj] at r2;obtain ⟨j',a,C',dx,ws,h1,h2,h3,rfl,h5,h6,h7⟩:=mz s2 e5 r2;cases h1;have:C'=C:=by rw [show X.gm.mg c=X.mg c from rfl,hC] at h5;cases h5;rfl
    subst this;have ln:ws.length < 1000:=by
     have z:=congrArg List.length h7.1;rw [zH,zH] at z
     have:=zS hl
     omega
    obtain ⟨f3,s3⟩:=ia (c:=.ins c (iN fl p.1 fs)) (o:=.ins C' dx (dM fl w1 ws)) s2 h2 h3 ⟨h3,C',dx,_,hC,aq,(vt (r1.frm f2) h7).mono (fun b h=>⟨h,ad fun e=>h3 (e ▸ h)⟩) fun _ _ z=>z⟩ (fun _ _ z=>by rw [h6] at z;cases z);exact ⟨a,C',dx,ws,rfl,h6,cl,na,ln,q P2 φ2 _ σ ((f1.trans f2).trans f3) s3 (((rs.frm f1).frm f2).frm f3)⟩
   ·cases e6
  ·cases e4
end
end R
namespace R
open PySem PySem.Spec PyProof.Rows L2
open DD (PE_imp PT_imp PA_imp PS_imp PSs_imp OpR_imp PW_imp PG_imp pyOk obj_list obj_tup minL minL_eq cnt_vals)
abbrev BF:=List AV->aa->Option (AV × aa)
def rB [Lw] (mg:Gm) (k:BF):List V->Hp->VK->Prop:=fun vs H Q=>∃ P φ st xs,Sim mg P φ st H/\Lz mg P H φ xs vs/\KG mg RA P φ H (k xs st) Q
def rH (k:BF) (g:AF):EF:=fun sl st=>(g sl st).bind fun p=>k p.1 p.2
theorem y9 [Lw] (q:rE mg (rH k g) σ H Q):CK (rB mg k) (rA mg g) σ H Q:=by
 obtain ⟨P,φ,sl,st,rs,s,kk⟩:=q;refine ⟨P,φ,sl,st,rs,s,?_⟩;obtain ⟨a,st',e1,q⟩:=kk.bind (Ra:=Lz);refine ⟨a,st',e1,fun P1 φ1 H1 b f1 s1 r1=>?_⟩;obtain ⟨P2,φ2,st2,xs,f2,s2,r2,k2⟩:=q P1 φ1 H1 b f1 s1 r1;exact ⟨P2,φ2,st2,xs,s2,r2,k2⟩
def bC (h:aa->List AV->Option AV):BF:=fun xs st=>(h st xs).map fun z=>(z,st)
section
variable {X:Cx}{x:Str}{p pos:Pos}{e o a:Expr}{es:List Expr}{g:AF}{k:BF}{bid T:String}
theorem jI [Lw] (hc:cb X (.builtin bid) (rB X.gm k)) (hg:Gl X x) (hm:X.mg x=none) (hv:bootBuiltins x=some (.builtin bid)) (ha:QA X (e::es) g) (hn:x ≠ "__name__") (hdb:(x == ("__debug__":Str))=false)
  (he:starEach (e::es) X.env=(false,eval e X.env)::starEach es X.env) (hpl:(backTo pos (starEach es X.env)).any (·.1)=false):QE X (.Call (.Name x p) (e::es) [] pos) (rH k g) :=
 PE_imp (qe hc hg hm hv ha hn hdb he hpl) fun _ _ _ q=>y9 q
theorem Gh [Lw] (hc:cb X (.type T) (rB X.gm k)) (hg:Gl X x) (hm:X.mg x=none) (hv:bootBuiltins x=some (.type T)) (ha:QA X (e::es) g) (hn:x ≠ "__name__") (hdb:(x == ("__debug__":Str))=false)
  (he:starEach (e::es) X.env=(false,eval e X.env)::starEach es X.env) (hpl:(backTo pos (starEach es X.env)).any (·.1)=false):QE X (.Call (.Name x p) (e::es) [] pos) (rH k g) :=
 PE_imp (oO hc hg hm hv ha hn hdb he hpl) fun _ _ _ q=>y9 q
theorem Lz.one {mg:Gm}{P:Pr}{H:Hp}{φ:List Addr}{x:AV}{vs:List V} (h:Lz mg P H φ [x] vs):∃ v,vs=[v]/\RA mg P H φ x v:=by
 simp only [Lz] at h;obtain ⟨v,ws,rfl,r,rfl⟩:=h;exact ⟨v,rfl,r⟩
theorem Lz.two {mg:Gm}{P:Pr}{H:Hp}{φ:List Addr}{x y:AV}{vs:List V} (h:Lz mg P H φ [x,y] vs):∃ v w,vs=[v,w]/\RA mg P H φ x v/\RA mg P H φ y w:=by
 simp only [Lz] at h;obtain ⟨v,ws,rfl,r,w,us,rfl,r',rfl⟩:=h;exact ⟨v,w,rfl,r,r'⟩
theorem nW (h:cb X f r) (i:∀ xs H Q,r' xs H Q->r xs H Q):cb X f r':=fun Lu s σ H xs us Q I rv h'=>h Lu s σ H xs us Q I rv (i xs H Q h')
def dZ (st:aa):List AV->Option AV
 | [v]=>match bD st v with
  | some xs=>some (.int xs.length)
  | none=>match iM st v with
   | some xs=>some (.int xs.length)
   | none=>match v with
    | .str x=>if bv x.length=true then some (.int x.length) else none
    | v=>match iY st v with
     | some Lv=>some (.int Lv.length)
     | none=>(lZ st v).map fun Lv=>.int Lv.length
 | _=>none
theorem uI:cb X (.builtin "len") (fun xs H Q=>∃ a Lv,xs=[V.ref a]/\H a=some (.dK Lv)/\Q (.int Lv.length) H):=by
 intro Lu s σ H xs us Q I r h;obtain ⟨a,Lv,rfl,ha,q⟩:=h;obtain ⟨u,rfl,ru⟩:=dL r;cases ru;obtain ⟨z,hd,vs,rel,dd⟩:=Aq I.LA ha;have hl:Lv.length=vs.length:=Paired.length rel;have hz:sizeLine=16777216:=sizeLine_eq;exact call_len_dict hd dd oM ⟨.int _,H,I.tok _,⟨_,by rw [hl]⟩,q⟩
theorem Hk [Lw]:cb X (.builtin "len") (rB X.gm (bC dZ)):=by
 rintro Lu s σ H vs us Q I rv ⟨P,φ,st,xs,sm,r,k0⟩;obtain ⟨z,e,k⟩:=k0.map;clear k0;unfold dZ at e;split at e
 ·rename_i v
  obtain ⟨w,ew,r9⟩:=r.one;clear r;subst ew;have r:=r9;clear r9;have aE:∀ n:Nat,z=.int n->Q (.int n) H:=fun n h=>by subst h;exact k.pure sm (by simp only [RA])
  split at e
  ·rename_i ys e1
   cases e;obtain ⟨a,vs,rfl,d1,q1⟩:=r.ls sm e1;exact k8 Lu s σ H _ us Q I rv ⟨a,vs,rfl,.inl d1,by rw [<- q1.length];exact aE _ rfl⟩
  ·split at e
   ·rename_i ys e1
    cases e;obtain ⟨a,vs,rfl,d1,q1⟩:=r.tp sm e1;exact k8 Lu s σ H _ us Q I rv ⟨a,vs,rfl,.inr (.inl (.inl d1)),by rw [<- q1.length];exact aE _ rfl⟩
   ·cases v with
    | str x =>
     dsimp only at e;split at e
     ·rename_i hz
      cases e;simp only [RA] at r;subst r;exact rh Lu s σ H _ us Q I rv ⟨x,rfl,jp hz,aE _ rfl⟩
     ·cases e
    | ref j =>
     simp only [RA] at r;obtain ⟨a,ea,rfl⟩:=r;dsimp only [iY,lZ] at e;cases hj:st[j]? with
     | none=>rw [hj] at e;cases e
     | some c =>
      rw [hj] at e;obtain ⟨a',ea',c'⟩:=sm.at hj;rw [ea] at ea';cases ea';cases c with
      | dK Lv =>
       cases e;obtain ⟨_,ws,q1,q2⟩:=c'
       have:=congrArg List.length q2.1
       rw [zH,zH] at this;exact uI Lu s σ H _ us Q I rv ⟨a,ws,rfl,q1,by rw [<- this];exact aE _ rfl⟩
      | dT Lv =>
       cases e;obtain ⟨_,ws,q1,q2⟩:=c'
       have:=congrArg List.length q2.1
       rw [zH,zH] at this;exact wC Lu s σ H _ us Q I rv ⟨a,ws,rfl,q1,by rw [<- this];exact aE _ rfl⟩
      | _=>cases e
    | _=>cases e
 ·cases e
def jO:List AV->Option (List Int):=bJ fun x=>match x with
 | .int i=>some i
 | _=>none
theorem wg (h:jO xs=some ns):xs=ns.map .int:=by
 unfold jO at h
 induction xs generalizing ns with
 | nil=>cases h;rfl
 | cons x xs ih =>
  simp only [bJ] at h;obtain ⟨y,e1,e2⟩:=zA h;obtain ⟨ys,e3,e4⟩:=zE.mp e2;subst e4;cases x <;> first | (cases e1;done) | skip
  cases e1;rw [ih e3];rfl
def lsI (st:aa) (v:AV):Option (List Int):=(bD st v).bind jO
theorem RA.lsI [Lw] {mg:Gm}{P:Pr}{H:Hp}{φ:List Addr}{st:aa}{v:AV}{w:V}{ns:List Int} (s:Sim mg P φ st H) (r:RA mg P H φ v w) (h:R.lsI st v=some ns):∃ a,w=.ref a/\aP mg.K H a (ns.map .int):=by
 obtain ⟨xs,e1,e2⟩:=zA h;obtain ⟨a,vs,rfl,d1,q1⟩:=r.ls s e1
 have:=wg e2
 subst this;rw [q1.ints] at d1;exact ⟨a,rfl,d1⟩
def pV (st:aa):List AV->Option AV
 | [v]=>(lsI st v).map fun ns=>.int ns.sum
 | _=>none
theorem Hh [Lw] (hc:X.calm=true):cb X (.builtin "sum") (rB X.gm (bC pV)):=by
 rintro Lu s σ H vs us Q I rv ⟨P,φ,st,xs,sm,r,k0⟩;obtain ⟨z,e,k⟩:=k0.map;clear k0;unfold pV at e;split at e
 ·rename_i v
  obtain ⟨w,ew,r9⟩:=r.one;clear r;subst ew;have r:=r9;clear r9;obtain ⟨ns,e1,rfl⟩:=zE.mp e;obtain ⟨a,rfl,d1⟩:=r.lsI sm e1;obtain ⟨u,rfl,ru⟩:=dL rv;cases ru;obtain ⟨Lx,r',pl,_⟩:=I.list d1;have hi:IntsAre Lx ns:=jN r';obtain ⟨ys,hy⟩:=hi.allInts.items;refine sum_intListG (xs:=ys) (I.ok.hd hc) (by rw [<- hy];exact pl.isList) fun h' tk t' hk=>⟨.int ns.sum,H,I.kept hk,?_,k.pure sm (by simp only [RA])⟩
  have:(preSum (numAt ys) ys.size)=ns.sum:=by
   rw [preSum_eq,List.take_of_length_le (by simp),<- nums_intItems,<- hy];rw [show Lx.toArray.toList=Lx from rfl,hi.numsOf]
  rw [this];exact ⟨t',rfl⟩
 ·cases e
noncomputable def CF:AV->Option Bool
 | .bl b=>some b
 | .int i=>some (i != 0)
 | _=>none
def rF (st:aa):List AV->Option AV
 | [v]=>(bD st v).bind fun xs=>(bJ CF xs).map fun bs=>.bl (bs.all id)
 | _=>none
def uR (st:aa):List AV->Option AV
 | [v]=>(bD st v).bind fun xs=>(bJ CF xs).map fun bs=>.bl (bs.any id)
 | _=>none
theorem u8 [Lw]:∀ {xs:List AV}{vs:List V}{us:List Value}{bs:List Bool},bJ CF xs=some bs->Lz mg P H φ xs vs->Vals vs us->bs.length=us.length/\∀ (i:Nat) u,us[i]?=some u->u=.bool (bs.getD i true)\/∃ n t,u=.int n t/\(n != 0)=bs.getD i true:=by
 intro xs
 induction xs with
 | nil=>intro vs us bs e r q;cases e;simp only [Lz] at r;subst r;cases q;exact ⟨rfl,fun i u h=>by simp at h⟩
 | cons x xs ih =>
  intro vs us bs e r q;simp only [bJ] at e;obtain ⟨y,e1,e2⟩:=zA e;obtain ⟨ys,e3,e4⟩:=zE.mp e2;subst e4;simp only [Lz] at r;obtain ⟨v,ws,rfl,r1,r2⟩:=r;cases q with
  | cons q1 q2 =>
   obtain ⟨h1,h2⟩:=ih e3 r2 q2;refine ⟨by simp [h1],fun i u h=>?_⟩;cases i with
   | zero =>
    simp at h;subst h;cases x <;> first | (cases e1;done) | skip
    ·cases e1;simp only [RA] at r1;subst r1;cases q1;exact .inl rfl
    ·cases e1;simp only [RA] at r1;subst r1;obtain ⟨t,rfl⟩:=q1;exact .inr ⟨_,t,rfl,rfl⟩
   | succ i=>simpa using h2 i u (by simpa using h)
theorem Cp (bs:List Bool) (n:Nat) (h:bs.length=n):(List.range n).all (fun i=>bs.getD i true)=bs.all id:=by
 subst h;rw [Bool.eq_iff_iff,yP,yP];constructor
 ·intro h x hx
  obtain ⟨i,hi,rfl⟩:=List.getElem_of_mem hx
  have:=h i (by simp [hi])
  simpa [hi] using this
 ·intro h i hi
  have hi':i < bs.length:=by simpa using hi
  have:=h bs[i] (List.getElem_mem hi')
  simpa [hi'] using this
theorem Co (bs:List Bool) (n:Nat) (h:bs.length=n):(List.range n).any (fun i=>bs.getD i true)=bs.any id:=by
 subst h;rw [Bool.eq_iff_iff,List.any_eq_true,List.any_eq_true];constructor
 ·rintro ⟨i,hi,h⟩
  have hi':i < bs.length:=by simpa using hi
  exact ⟨bs[i],List.getElem_mem hi',by simpa [hi'] using h⟩
 ·rintro ⟨x,hx,h⟩
  obtain ⟨i,hi,rfl⟩:=List.getElem_of_mem hx;exact ⟨i,by simp [hi],by simpa [hi] using h⟩
theorem Hn [Lw] (hc:X.calm=true):cb X (.builtin "all") (rB X.gm (bC rF)):=by
 rintro Lu s σ H vs us Q I rv ⟨P,φ,st,xs,sm,r,k0⟩;obtain ⟨z,e,k⟩:=k0.map;clear k0;unfold rF at e;split at e
 ·rename_i v
  obtain ⟨w,ew,r9⟩:=r.one;clear r;subst ew;have r:=r9;clear r9;obtain ⟨ys,e1,e2⟩:=zA e;obtain ⟨bs,e3,rfl⟩:=zE.mp e2;obtain ⟨a,vs,rfl,d1,q1⟩:=r.ls sm e1;obtain ⟨u,rfl,ru⟩:=dL rv;cases ru;obtain ⟨Lx,r',pl,_⟩:=I.list d1;obtain ⟨hl1,hat⟩:=u8 e3 q1 r';have hl:=pl.isList;have hlt:a < s.heap.objs.size:=by obtain ⟨_,e,_⟩:=hl;exact yJ e
  refine call_all_walk (wpAny_pyIter_list hl ⟨_,_,_,_,_,_,fun i=>bs.getD i true,rfl,Walks.list (A:=X.A.in1) (I.ok.hd hc) _ a (zU hlt) Lx.toArray,⟨⟨_,zY _ rfl,rfl,rfl⟩,hl.push _⟩,?_,fun h' tk hk=>?_⟩)
  ·intro i v s2 Q2 E2 hP hQ
   rcases hat i v (by simpa using hP) with rfl | ⟨n,t,rfl,hn⟩
   ·exact wpAny_truthy_bool hQ
   ·exact PySem.P.truthy_int (by rw [hn];exact hQ)
  ·refine ⟨.bl (bs.all id),H,I.kept (old_kept hk),?_,k.pure sm (by simp only [RA])⟩
   rw [Cp bs _ (by simpa using hl1)];rfl
 ·cases e
theorem Hm [Lw] (hc:X.calm=true):cb X (.builtin "any") (rB X.gm (bC uR)):=by
 rintro Lu s σ H vs us Q I rv ⟨P,φ,st,xs,sm,r,k0⟩;obtain ⟨z,e,k⟩:=k0.map;clear k0;unfold uR at e;split at e
 ·rename_i v
  obtain ⟨w,ew,r9⟩:=r.one;clear r;subst ew;have r:=r9;clear r9;obtain ⟨ys,e1,e2⟩:=zA e;obtain ⟨bs,e3,rfl⟩:=zE.mp e2;obtain ⟨a,vs,rfl,d1,q1⟩:=r.ls sm e1;obtain ⟨u,rfl,ru⟩:=dL rv;cases ru;obtain ⟨Lx,r',pl,_⟩:=I.list d1;obtain ⟨hl1,hat⟩:=u8 e3 q1 r';have hl:=pl.isList;have hlt:a < s.heap.objs.size:=by obtain ⟨_,e,_⟩:=hl;exact yJ e
  refine call_any_walk (wpAny_pyIter_list hl ⟨_,_,_,_,_,_,fun i=>bs.getD i true,rfl,Walks.list (A:=X.A.in1) (I.ok.hd hc) _ a (zU hlt) Lx.toArray,⟨⟨_,zY _ rfl,rfl,rfl⟩,hl.push _⟩,?_,fun h' tk hk=>?_⟩)
  ·intro i v s2 Q2 E2 hP hQ
   rcases hat i v (by simpa using hP) with rfl | ⟨n,t,rfl,hn⟩
   ·exact wpAny_truthy_bool hQ
   ·exact PySem.P.truthy_int (by rw [hn];exact hQ)
  ·refine ⟨.bl (bs.any id),H,I.kept (old_kept hk),?_,k.pure sm (by simp only [RA])⟩
   rw [Co bs _ (by simpa using hl1)];rfl
 ·cases e
def mF (_:aa):List AV->Option AV
 | [.int i]=>some (.int (if i < 0 then -i else i))
 | _=>none
theorem Ho [Lw]:cb X (.builtin "abs") (rB X.gm (bC mF)):=nW yZ fun vs H Q hq0=>by
 obtain ⟨P,φ,st,xs,sm,r,k0⟩:=hq0;obtain ⟨z,e,k⟩:=k0.map;unfold mF at e;split at e
 ·cases e
  obtain ⟨w,ew,r9⟩:=r.one;clear r;subst ew;have r:=r9;clear r9;simp only [RA] at r;exact ⟨_,by rw [r],k.pure sm (by simp only [RA])⟩
 ·cases e
def uf (st:aa):List AV->Option AV
 | [.int i,.int j]=>some (.int (if j < i then j else i))
 | [v]=>(lsI st v).bind fun ns=>(minL ns).map .int
 | _=>none
noncomputable def Ey:List Int->Option Int
 | []=>none
 | x::xs=>some (xs.foldl (fun a b=>if a < b then b else a) x)
theorem Jr:∀ (xs:List Int) (x:Int),(xs.foldl (fun a b=>if a < b then b else a) x ∈ x::xs)/\∀ a ∈ x::xs,a <= xs.foldl (fun a b=>if a < b then b else a) x:=by
 intro xs
 induction xs with
 | nil=>intro x;exact ⟨by simp,by simp⟩
 | cons y xs ih =>
  intro x;rw [List.foldl_cons];obtain ⟨h1,h2⟩:=ih (if x < y then y else x);refine ⟨?_,fun a ha=>?_⟩
  ·rcases zT.mp h1 with h | h
   ·rw [h];split <;> simp
   ·exact zQ _ (zQ _ h)
  ·have h3:=h2 _ z8
   rcases zT.mp ha with rfl | ha
   ·refine Int.le_trans ?_ h3;split <;> omega
   ·rcases zT.mp ha with rfl | ha
    ·refine Int.le_trans ?_ h3;split <;> omega
    ·exact h2 a (zQ _ ha)
theorem BZ {m x:Int} (h:Ey ns=some m) (h1:x ∈ ns) (h2:∀ a ∈ ns,a <= x):x=m:=by
 cases ns with
 | nil=>cases h
 | cons y ns =>
  obtain ⟨a,b⟩:=Jr ns y;have e:ns.foldl (fun a b=>if a < b then b else a) y=m:=by injection h
  rw [e] at a b
  have:=h2 m a
  have:=b x h1
  omega
def uh (st:aa):List AV->Option AV
 | [.int i,.int j]=>some (.int (if j > i then j else i))
 | [v]=>(lsI st v).bind fun ns=>(Ey ns).map .int
 | _=>none
theorem Hi [Lw] (hc:X.calm=true):cb X (.builtin "min") (rB X.gm (bC uf)):=by
 rintro Lu s σ H vs us Q I rv ⟨P,φ,st,xs,sm,r,k0⟩;obtain ⟨z,e,k⟩:=k0.map;clear k0;unfold uf at e;split at e
 ·rename_i i j
  cases e;obtain ⟨w,w',ew,r8,r9⟩:=r.two;clear r;subst ew;have r:=r8;have r':=r9;clear r8 r9;simp only [RA] at r r';subst r;subst r';exact wA hc Lu s σ H _ us Q I rv ⟨i,j,rfl,k.pure sm (by simp only [RA])⟩
 ·rename_i v
  obtain ⟨w,ew,r9⟩:=r.one;clear r;subst ew;have r:=r9;clear r9;obtain ⟨ns,e1,e2⟩:=zA e;obtain ⟨m,hm,rfl⟩:=zE.mp e2;obtain ⟨a,rfl,d1⟩:=r.lsI sm e1;obtain ⟨u,rfl,ru⟩:=dL rv;cases ru;obtain ⟨Lx,r',pl,_⟩:=I.list d1;have hi:IntsAre Lx ns:=jN r';obtain ⟨ys,hy⟩:=hi.allInts.items;have hns':ns=ys.toList.map (·.1):=by rw [<- hi.numsOf,<- nums_intItems,<- hy]
  have hsz:0 < ys.size:=by
   cases ns with
   | nil=>cases hm
   | cons n ns =>
    have:(n::ns).length=ys.size:=by rw [hns',zH,Array.length_toList]
    simp at this;omega
  refine min_intList (xs:=ys) (I.ok.hd hc) (by rw [<- hy];exact pl.isList) hsz fun v h' tk hv hk=>?_
  obtain ⟨t,rfl⟩:=intItems_at hv;obtain ⟨h1,h2⟩:=argBest_lt (numAt ys) (ys.size - 1);refine ⟨.int m,H,I.kept hk,?_,k.pure sm (by simp only [RA])⟩;have e:numAt ys (argBest (fun i j=>decide (numAt ys i < numAt ys j)) (ys.size - 1))=m:=by
   refine minL_eq hm ?_ fun a ha=>?_
   ·rw [hns',numAt_eq];exact getD_mem (by rw [zH,Array.length_toList];omega)
   ·rw [hns'] at ha
    obtain ⟨j,hj,rfl⟩:=mem_getD ha;rw [zH,Array.length_toList] at hj;rw [<- numAt_eq];exact h2 j oM
  exact ⟨t,by rw [e]⟩
 ·cases e
theorem Hj [Lw] (hc:X.calm=true):cb X (.builtin "max") (rB X.gm (bC uh)):=by
 rintro Lu s σ H vs us Q I rv ⟨P,φ,st,xs,sm,r,k0⟩;obtain ⟨z,e,k⟩:=k0.map;clear k0;unfold uh at e;split at e
 ·rename_i i j
  cases e;obtain ⟨w,w',ew,r8,r9⟩:=r.two;clear r;subst ew;have r:=r8;have r':=r9;clear r8 r9;simp only [RA] at r r';subst r;subst r';exact wB hc Lu s σ H _ us Q I rv ⟨i,j,rfl,k.pure sm (by simp only [RA])⟩
 ·rename_i v
  obtain ⟨w,ew,r9⟩:=r.one;clear r;subst ew;have r:=r9;clear r9;obtain ⟨ns,e1,e2⟩:=zA e;obtain ⟨m,hm,rfl⟩:=zE.mp e2;obtain ⟨a,rfl,d1⟩:=r.lsI sm e1;obtain ⟨u,rfl,ru⟩:=dL rv;cases ru;obtain ⟨Lx,r',pl,_⟩:=I.list d1;have hi:IntsAre Lx ns:=jN r';obtain ⟨ys,hy⟩:=hi.allInts.items;have hns':ns=ys.toList.map (·.1):=by rw [<- hi.numsOf,<- nums_intItems,<- hy]
  have hsz:0 < ys.size:=by
   cases ns with
   | nil=>cases hm
   | cons n ns =>
    have:(n::ns).length=ys.size:=by rw [hns',zH,Array.length_toList]
    simp at this;omega
  refine max_intList (xs:=ys) (I.ok.hd hc) (by rw [<- hy];exact pl.isList) hsz fun v h' tk hv hk=>?_
  obtain ⟨t,rfl⟩:=intItems_at hv;obtain ⟨h1,h2⟩:=argBest_gt (numAt ys) (ys.size - 1);refine ⟨.int m,H,I.kept hk,?_,k.pure sm (by simp only [RA])⟩;have e:numAt ys (argBest (fun i j=>decide (numAt ys i > numAt ys j)) (ys.size - 1))=m:=by
   refine BZ hm ?_ fun a ha=>?_
   ·rw [hns',numAt_eq];exact getD_mem (by rw [zH,Array.length_toList];omega)
   ·rw [hns'] at ha
    obtain ⟨j,hj,rfl⟩:=mem_getD ha;rw [zH,Array.length_toList] at hj;rw [<- numAt_eq];exact h2 j oM
  exact ⟨t,by rw [e]⟩
 ·cases e
def ot (_:aa):List AV->Option AV
 | [.int i]=>some (.int i)
 | [.bl b]=>some (.int (if b then 1 else 0))
 | _=>none
theorem Hl [Lw]:cb X (.type "int") (rB X.gm (bC ot)):=nW wD fun vs H Q hq0=>by
 obtain ⟨P,φ,st,xs,sm,r,k0⟩:=hq0;obtain ⟨z,e,k⟩:=k0.map;unfold ot at e;split at e
 ·cases e
  obtain ⟨w,ew,r9⟩:=r.one;clear r;subst ew;have r:=r9;clear r9;simp only [RA] at r;exact .inl ⟨_,by rw [r],k.pure sm (by simp only [RA])⟩
 ·cases e
  obtain ⟨w,ew,r9⟩:=r.one;clear r;subst ew;have r:=r9;clear r9;simp only [RA] at r;exact .inr ⟨_,by rw [r],k.pure sm (by simp only [RA])⟩
 ·cases e
def pE (st:aa) (v:AV):Option String:=match dr st v with
 | .non=>some "NoneType"
 | .bl _=>some "bool"
 | .int _=>some "int"
 | .str _=>some "str"
 | .tup _=>some "tuple"
 | .fz _=>some "list"
 | .ref k=>match st[k]? with
  | some (.lst _)=>some "list"
  | _=>none
def IB (T:String) (f:EF):EF:=fun sl st=>(f sl st).bind fun p=>(pE p.2 p.1).bind fun a=>(DD.isiT a T).map fun b=>(.bl b,p.2)
theorem GQ [Lw] {Lu:List (Addr × Obj)}{σ:St}{H:Hp}{s:Shared}{P:Pr}{φ:List Addr}{st:aa}{x:AV}{v:V}{u c:Value}{t:String}{b:Bool}{Q:Value->Shared->Prop}{E:Value->Shared->Prop} (I:L2.Inv X Lu σ H s) (sm:Sim X.gm P φ st H) (r:RA X.gm P H φ x v) (rv:RelV v u) (hk:pE st x=some t)
  (e:kitOne X.K (.type t) c=some b) (h:∀ tk,Q (.bool b) { s with toks:=tk }):wpAny (model X.prog X.w) X.A (call (.builtin "isinstance") [u,c]) Q E s:=by
 have lst:∀ {a:Addr}{vs:List V},v=.ref a->aP X.K H a vs->t="list"->wpAny (model X.prog X.w) X.A (call (.builtin "isinstance") [u,c]) Q E s:=fun ev sq et=>by
  subst ev;subst et;cases rv;obtain ⟨Lx,o,n,_,e1,e2,e3⟩:=obj_list I sq;exact kia_one kitx_list I.kIn ⟨_,e1,e2⟩ e (fun z=>nomatch z) h
 have rd:=r.dr sm;unfold pE at hk;cases hx:dr st x with
 | non=>rw [hx] at hk rd;cases hk;simp only [RA] at rd;subst rd;exact iP I rv .non e h
 | bl _=>rw [hx] at hk rd;cases hk;simp only [RA] at rd;subst rd;exact iP I rv (.bl _) e h
 | int _=>rw [hx] at hk rd;cases hk;simp only [RA] at rd;subst rd;exact iP I rv (.int _) e h
 | str _=>rw [hx] at hk rd;cases hk;simp only [RA] at rd;subst rd;exact iP I rv (.str _) e h
 | fz _ =>
  rw [hx] at hk rd;cases hk;simp only [RA] at rd;obtain ⟨a,vs,ev,fl,_⟩:=rd;exact lst ev fl.sq rfl
 | tup _ =>
  rw [hx] at hk rd;cases hk;simp only [RA] at rd;obtain ⟨a,vs,rfl,_,h1,_⟩:=rd;cases rv;obtain ⟨Lx,o,n,_,e1,e2,e3⟩:=obj_tup I (show fU X.K H a vs from .inl (.inl h1));exact kia_one kitx_tuple I.kIn ⟨_,e1,e2⟩ e (fun z=>nomatch z) h
 | ref k =>
  rw [hx] at hk rd;dsimp only at hk;split at hk
  ·rename_i ys hj
   cases hk;simp only [RA] at rd;obtain ⟨a,ea,ev⟩:=rd;obtain ⟨a',ea',c'⟩:=sm.at hj;rw [ea] at ea';cases ea';obtain ⟨_,vs,q1,_⟩:=c';exact lst ev (.inl (.inl q1)) rfl
  ·cases hk
theorem kC [Lw] (hg:Gl X "isinstance") (hm:X.mg "isinstance"=none) (hgy:Gl X y) (hmy:X.mg y=none) (hvy:bootBuiltins y=some (.type T)) (ha:QE X e f) (hny:y ≠ "__name__") (hdy:(y == ("__debug__":Str))=false)
  (he:starEach [e,.Name y p2] X.env=(false,eval e X.env)::starEach [.Name y p2] X.env) (hn:bootBuiltins "isinstance"=some (.builtin "isinstance")):QE X (.Call (.Name "isinstance" p) [e,.Name y p2] [] pos) (IB T f):=by
 have hc:cb X (.builtin "isinstance") (fun vs H Q=>∃ P φ st x v a b,Sim X.gm P φ st H/\vs=[v,.ty T]/\RA X.gm P H φ x v/\pE st x=some a/\DD.isiT a T=some b/\Q (.bl b) H):=by
  rintro Lu s σ H vs us Q I rv ⟨P,φ,st,x,v,a,b,sm,ev,r,h1,h2,q⟩;subst ev;obtain ⟨u1,u2,rfl,r1,r2⟩:=tF rv;cases r2;exact GQ I sm r r1 h1 (DD.isiT_kit h2) fun tk=>⟨.bl b,H,I.tok tk,rfl,q⟩
 refine PE_imp (qe hc hg hm hn (ly ha (ly (BH (v:=.ty T) hgy hmy hvy rfl hny hdy) qf rfl) he) dC dC he (by rfl)) fun σ H Q ⟨P,φ,sl,st,rs,s,kk⟩=>⟨P,φ,sl,st,rs,s,?_⟩
 obtain ⟨a,st',e1,q⟩:=kk.bind (Ra:=RA);refine ⟨a,st',e1,fun P1 φ1 H1 w f1 s1 r1=>?_⟩;obtain ⟨P2,φ2,st2,x,f2,s2,r2,k2⟩:=q P1 φ1 H1 w f1 s1 r1;obtain ⟨z,st3,e3,q3⟩:=k2;obtain ⟨t,e4,e5⟩:=zA e3;obtain ⟨b,e6,e7⟩:=zE.mp e5;cases e7;exact ⟨P2,φ2,st2,x,w,t,b,s2,rfl,r2,e4,e6,q3 P2 φ2 H1 _ Frm.refl s2 (by simp only [RA])⟩
end
end R
namespace R
open PySem PySem.Spec PyProof.Rows L2
open DD (PE_imp PT_imp PA_imp PS_imp PSs_imp OpR_imp PW_imp PG_imp pyOk reads_each cnt_vals)
abbrev MF:=AV->List AV->aa->Option (AV × aa)
def rM [Lw] (mg:Gm) (k:MF):V->List V->Hp->VK->Prop:=fun x vs H Q=>∃ P φ st a xs,Sim mg P φ st H/\RA mg P H φ a x/\Lz mg P H φ xs vs/\KG mg RA P φ H (k a xs st) Q
def pR (T:String) (st:aa) (v:AV):Bool:=match v with
 | .str _=>T == "str"
 | .int _=>T == "int"
 | v=>if T="list" then (bD st v).isSome else if T="dict" then (iY st v).isSome || (lZ st v).isSome else false
def mh (T:String) (k:MF) (f:EF) (g:AF):EF:=fun sl st=>(f sl st).bind fun p=>if pR T p.2 p.1=true then (g sl p.2).bind fun q=>k p.1 q.1 q.2 else none
section
variable {X:Cx}{e o:Expr}{es:List Expr}{f:EF}{g:AF}{k:MF}{name:Str}{apos cpos:Pos}{T mid:String}
theorem AN [Lw] {P:Pr}{φ:List Addr}{st:aa}{H:Hp}{v:AV}{w:V} (s:Sim X.gm P φ st H) (r:RA X.gm P H φ v w) (h:pR T st v=true):uZ X.K T w H:=by
 have gen:(if T="list" then (bD st v).isSome else if T="dict" then (iY st v).isSome || (lZ st v).isSome else false)=true->uZ X.K T w H:=fun h=>by
  split at h
  ·rename_i hT
   obtain ⟨xs,e⟩:=Option.isSome_iff_exists.mp h;obtain ⟨a,vs,rfl,d1,_⟩:=r.ls s e;exact .inl ⟨hT,vs,d1⟩
  ·split at h
   ·rename_i hT
    cases v with
    | ref j =>
     simp only [RA] at r;obtain ⟨a,ea,rfl⟩:=r;simp only [iY,lZ] at h;cases hj:st[j]? with
     | none=>rw [hj] at h;simp at h
     | some c =>
      rw [hj] at h;obtain ⟨a',ea',c'⟩:=s.at hj;rw [ea] at ea';cases ea';cases c with
      | dK Lv=>obtain ⟨_,ws,q1,_⟩:=c';exact .inr (.inr (.inl ⟨hT,.inl ⟨ws,q1⟩⟩))
      | dT Lv=>obtain ⟨_,ws,q1,_⟩:=c';exact .inr (.inr (.inl ⟨hT,.inr ⟨ws,q1⟩⟩))
      | _=>simp at h
    | _=>simp [iY,lZ] at h
   ·cases h
 unfold pR at h;cases v with
 | str x=>simp only [RA] at r;subst r;exact yK h
 | int x=>simp only [RA] at r;subst r;exact yK h
 | _=>exact gen h
theorem Ek [Lw] (q:rE X.gm (mh T k f g) σ H Q):HM X.K T (rM X.gm k) (rE X.gm f) (rA X.gm g) σ H Q:=by
 obtain ⟨P,φ,sl,st,rs,s,v,st',ev,kk⟩:=q;obtain ⟨p,e1,e2⟩:=zA ev;split at e2
 ·rename_i hT
  obtain ⟨r,e3,e4⟩:=zA e2;exact ⟨P,φ,sl,st,rs,s,p.1,p.2,e1,fun P1 φ1 H1 w f1 s1 r1=>⟨AN s1 r1 hT,P1,φ1,sl,p.2,rs.frm f1,s1,r.1,r.2,e3,fun P2 φ2 H2 ws f2 s2 r2=>⟨P2,φ2,r.2,p.1,r.1,s2,r1.frm f2,r2,v,st',e4,fun P3 φ3 H3 w3 f3 s3 r3=>kk P3 φ3 H3 w3 ((f1.trans f2).trans f3) s3 r3⟩⟩⟩
 ·cases e2
theorem pA [Lw] (pa:PlainAttrs T) (slot:Slot T name mid) (hty:typeOf (.builtin mid)=pure (.type "method_descriptor")) (hm:mj X mid (rM X.gm k)) (ho:QE X o f) (ha:QA X (e::es) g)
  (hbase:attributeBase o name X.env (eval o X.env)=eval o X.env)
  (hfew:((backTo cpos (starEach (e::es) X.env)).all (fun x=>!x.1) && (backToKw cpos (keywordEach [] X.env)).all (fun x=>x.1.isSome)
   && decide ((e::es).length + ([]:List Keyword).length + (if ([]:List Keyword).isEmpty then 0 else 1) < 30))=true)
  (hline:(apos.endLine == cpos.line)=true) (hs:starEach (e::es) X.env=(false,eval e X.env)::starEach es X.env) (hplain:(backTo cpos (starEach es X.env)).any (·.1)=false) :
  QE X (.Call (.Attribute o name apos) (e::es) [] cpos) (mh T k f g):=PE_imp (Gx pa slot hty hm ho ha hbase hfew hline hs hplain) fun _ _ _ q=>Ek q
theorem mP [Lw] (pa:PlainAttrs T) (slot:Slot T name mid) (hty:typeOf (.builtin mid)=pure (.type "method_descriptor")) (hm:mj X mid (rM X.gm k)) (ho:QE X o f)
  (hbase:attributeBase o name X.env (eval o X.env)=eval o X.env) (hline:(apos.endLine == cpos.line)=true):QE X (.Call (.Attribute o name apos) [] [] cpos) (mh T k f dR) :=
 PE_imp (DI pa slot hty hm ho hbase hline) fun σ H Q q=>by
  obtain ⟨P,φ,sl,st,rs,s,v,st',ev,kk⟩:=Ek q;refine ⟨P,φ,sl,st,rs,s,v,st',ev,fun P1 φ1 H1 w f1 s1 r1=>?_⟩;obtain ⟨h1,P2,φ2,sl2,st2,rs2,s2,xs,st3,e3,k3⟩:=kk P1 φ1 H1 w f1 s1 r1;cases e3;exact ⟨h1,k3 P2 φ2 H1 [] Frm.refl s2 aX⟩
theorem mG (h:mj X mid r) (i:∀ x xs H Q,r' x xs H Q->r x xs H Q):mj X mid r':=fun Lu s σ H x xs v us Q I rx rv h'=>h Lu s σ H x xs v us Q I rx rv (i x xs H Q h')
def hZ (st:aa):AV->Option (Nat × List AV)
 | .ref k=>match st[k]? with
  | some (.lst xs)=>some (k,xs)
  | _=>none
 | _=>none
theorem k6 [Lw] {mg:Gm}{P:Pr}{φ:List Addr}{st:aa}{H:Hp}{v:AV}{w:V}{j:Nat}{xs:List AV} (s:Sim mg P φ st H) (r:RA mg P H φ v w) (h:hZ st v=some (j,xs)):∃ a vs,w=.ref a/\φ[j]?=some a/\¬ P a/\H a=some (.lst vs)/\Lz mg P H φ xs vs:=by
 cases v with
 | ref i =>
  simp only [hZ] at h;split at h
  ·rename_i ys hj
   cases h;simp only [RA] at r;obtain ⟨a,ea,rfl⟩:=r;obtain ⟨a',ea',na,vs,h1,h2⟩:=s.at hj;rw [ea] at ea';cases ea';exact ⟨a,vs,rfl,ea,na,h1,h2⟩
  ·cases h
 | _=>cases h
theorem nX [Lw] {mg:Gm}{P:Pr}{φ:List Addr}{st:aa}{H:Hp}{j:Nat}{a:Addr}{ys:List AV}{us:List V} (s:Sim mg P φ st H) (ea:φ[j]?=some a) (na:¬ P a) (nz:∃ vs,H a=some (.lst vs)) (r:Lz mg P H φ ys us) :
  Frm P φ H P φ (af H a (.lst us))/\Sim mg P φ (st.set j (.lst ys)) (af H a (.lst us))/\∀ {t:AV}{w:V},RA mg P H φ t w->RA mg P (af H a (.lst us)) φ t w:=by
 have ex:∀ b,P b->P b/\af H a (.lst us) b=H b:=fun b h=>⟨h,ad fun e=>na (e ▸ h)⟩
 obtain ⟨f3,s3⟩:=ia (c:=.lst ys) (o:=.lst us) s ea na ⟨na,us,aq,r.mono ex fun _ _ z=>z⟩ (fun _ _ z=>by obtain ⟨vs,q⟩:=nz;rw [q] at z;cases z);exact ⟨f3,s3,fun h=>h.mono ex fun _ _ z=>z⟩
def oi:MF:=fun x xs st=>match xs with
 | [y]=>(hZ st x).bind fun c=>if bv c.2.length=true then some (.non,st.set c.1 (.lst (c.2++[y]))) else none
 | _=>none
theorem F0 {n:Nat} (h:bv n=true):n < sizeLine:=yM (zS h) dC
theorem Af [Lw]:mj X "list.append" (rM X.gm oi):=mG oP fun x vs H Q hq0=>by
 obtain ⟨P,φ,st,a,xs,s,r,rr,v,st',e,kk⟩:=hq0;unfold oi at e;split at e
 ·rename_i y
  obtain ⟨c,e1,e2⟩:=zA e;split at e2
  ·rename_i hz
   cases e2;obtain ⟨b,us,rfl,ea,na,h1,h2⟩:=k6 s r e1;obtain ⟨w,rfl,r1⟩:=rr.one;obtain ⟨f3,s3,_⟩:=nX s ea na ⟨_,h1⟩ (h2.app (aI r1 aX));exact ⟨b,us,w,rfl,rfl,h1,by rw [<- h2.length];exact F0 hz,kk P φ _ _ f3 s3 (by simp only [RA])⟩
  ·cases e2
 ·cases e
def mY:MF:=fun x xs st=>match xs with
 | [.int i]=>(hZ st x).bind fun c=>if eZ i=true then (jv c.2.length i).bind fun j=>(c.2[j]?).map fun y=>(y,st.set c.1 (.lst (c.2.eraseIdx j))) else none
 | _=>none
theorem Lz.erase:∀ {xs:List AV}{vs:List V} (n:Nat),Lz mg P H φ xs vs->Lz mg P H φ (xs.eraseIdx n) (vs.eraseIdx n)
 | [],_,_,h=>by simp only [Lz] at h;subst h;exact aX
 | x::xs,_,n,h=>by
  simp only [Lz] at h;obtain ⟨v,ws,rfl,r,q⟩:=h;cases n with
  | zero=>exact q
  | succ n=>exact aI r (Lz.erase n q)
theorem vW [Lw]:mj X "list.pop" (rM X.gm mY):=mG xV fun x vs H Q hq0=>by
 obtain ⟨P,φ,st,a,xs,s,r,rr,v,st',e,kk⟩:=hq0;unfold mY at e;split at e
 ·rename_i i
  obtain ⟨c,e1,e2⟩:=zA e;split at e2
  ·rename_i hi
   obtain ⟨j,e3,e4⟩:=zA e2;obtain ⟨y,e5,e6⟩:=zE.mp e4;cases e6;obtain ⟨b,us,rfl,ea,na,h1,h2⟩:=k6 s r e1;obtain ⟨w,rfl,r1⟩:=rr.one;simp only [RA] at r1;subst r1;obtain ⟨w,e7,r7⟩:=h2.get e5;obtain ⟨f3,s3,lf⟩:=nX s ea na ⟨_,h1⟩ (h2.erase j);have hb:=fi hi;exact ⟨b,us,i,j,w,rfl,rfl,h1,by omega,by omega,by rw [<- h2.length];exact (om e3).1,e7,kk P φ _ _ f3 s3 (lf r7)⟩
  ·cases e2
 ·cases e
def ul:MF:=fun x xs st=>match xs with
 | [y]=>(hZ st x).bind fun c=>(bD st y).bind fun ys=>if bv (c.2.length + ys.length)=true then some (.non,st.set c.1 (.lst (c.2++ys))) else none
 | _=>none
theorem Ad [Lw]:mj X "list.extend" (rM X.gm ul):=mG BX fun x vs H Q hq0=>by
 obtain ⟨P,φ,st,a,xs,s,r,rr,v,st',e,kk⟩:=hq0;unfold ul at e;split at e
 ·rename_i y
  obtain ⟨c,e1,e2⟩:=zA e;obtain ⟨ys,e3,e4⟩:=zA e2;split at e4
  ·rename_i hz
   cases e4;obtain ⟨b,us,rfl,ea,na,h1,h2⟩:=k6 s r e1;obtain ⟨w,rfl,r1⟩:=rr.one;obtain ⟨b2,us2,rfl,d2,q2⟩:=r1.ls s e3;obtain ⟨f3,s3,_⟩:=nX s ea na ⟨_,h1⟩ (h2.app q2);exact ⟨b,b2,us,us2,rfl,rfl,h1,d2,by rw [<- h2.length,<- q2.length];exact jp hz,kk P φ _ _ f3 s3 (by simp only [RA])⟩
  ·cases e4
 ·cases e
def ya:MF:=fun x xs st=>match xs with
 | [y]=>(dA 9 st x).bind fun p=>(dA 9 st y).bind fun q=>match p with
  | .list ps=>if (ps.all fun r=>pyOk r q)=true then some (.int ((ps.countP fun r=>PyData.eqv r q:Nat):Int),st) else none
  | _=>none
 | _=>none
theorem Ae [Lw] (hu:X.A.units + 64 < cLine):mj X "list.count" (rM X.gm ya):=by
 rintro Lu s σ H x vs v us Q I rx rv ⟨P,φ,st,a,xs,sm,r,rr,z,st',e,kk⟩;unfold ya at e;split at e
 ·rename_i y
  obtain ⟨p,e1,e2⟩:=zA e;obtain ⟨q,e3,e4⟩:=zA e2;split at e4
  ·rename_i ps
   split at e4
   ·rename_i LA
    cases e4;obtain ⟨w,rfl,r1⟩:=rr.one;obtain ⟨u,rfl,ru⟩:=rv.one;obtain ⟨as,ra⟩:=gy I sm 9 _ _ _ _ r e1 rx;obtain ⟨bs,rb⟩:=gy I sm 9 _ _ _ _ r1 e3 ru;cases ra with
    | @list a o items n xs as' hg hc hdt rall =>
     obtain ⟨ocl,odi,oda,osl⟩:=o;dsimp only at hc hdt;subst hc;subst hdt
     classical
     have uq:∀ z p' az,Reads s.heap z p' az->decide (∃ p as,Reads s.heap z p as/\PyData.eqv p q=true)=PyData.eqv p' q:=by
      intro z p' az rz;rcases he:PyData.eqv p' q with _ | _
      ·refine yA ?_
       rintro ⟨p2,as',r',e'⟩
       have:=(PySem.Reads.unique rz p2 as' r').1
       rw [<- this,he] at e';cases e'
      ·exact yT ⟨p',az,rz,he⟩
     refine call_meets PySem.F.slot_list_count ⟨_,hg,rfl⟩ PySem.F.entry_list_count (PySem.F.args_list_count_2 _ _) (PySem.SeqAt.list_countAt a items n odi osl u (fun z=>decide (∃ p as,Reads s.heap z p as/\PyData.eqv p q=true))) ⟨hg,?_,?_⟩
     ·intro z hz
      obtain ⟨pz,az,hpz,rz⟩:=reads_each rall z (by simpa using hz);obtain ⟨k1,k2,k3⟩:=n9 (yP.mp LA pz hpz);rw [uq z pz az rz];exact PySem.SeqAt.eqAt_reads pz q _ s z u az bs rz rb k1 k2 (by simp only [Around.in1_units];omega)
     ·have hc:=cnt_vals (q:=q) (e:=fun z=>decide (∃ p as,Reads s.heap z p as/\PyData.eqv p q=true)) (h:=s.heap) (vs:=items.toList) (ps:=ps) (fun v p as rv=>uq v p as rv) rall
      rw [hc];exact ⟨.int _,H,I.kept (fun _ _ e=>e),⟨_,rfl⟩,kk P φ H _ Frm.refl sm (by simp only [RA])⟩
   ·cases e4
  ·cases e4
 ·cases e
def IE (t:Bool):EF:=fun _ st=>some (.ref st.length,st++[if t=true then .dT [] else .dK []])
theorem Bj [Lw] (hm:PE X (.Dict [] [] pos) ve):QE X (.Dict [] [] pos) (IE false):=PE_imp hm fun σ H Q hq0=>by
 obtain ⟨P,φ,sl,st,rs,s,v,st',e,kk⟩:=hq0;cases e;intro d hd;obtain ⟨f3,s3⟩:=mv (c:=.dK []) (o:=.dK []) s hd ⟨fun z=>s.dom d z hd,[],aq,rfl,aX⟩;refine kk P _ _ _ f3 s3 ?_;simp only [RA];exact ⟨d,by rw [<- s.len];simp,rfl⟩
end
end R
namespace R
open PySem PySem.Spec PyProof.Rows L2
open DD (PE_imp PT_imp PA_imp PS_imp PSs_imp OpR_imp PW_imp PG_imp pyOk obj_list obj_tup minL minL_eq cnt_vals)
theorem rn:bootBuiltins "min"=some (.builtin "min"):=by decide +kernel
def x8 (ns:List Int):AV:=match minL ns with
 | some m=>.int m
 | none=>.non
def mX (st:aa):List AV->Option AV
 | [v]=>(lsI st v).map x8
 | _=>none
theorem Er (a:Value):argsOk "min" ⟨[a],[(Str.ofString "default",.none)]⟩:=by unfold argsOk;kernel_rfl
theorem Ep (a v:Value):argsOk "min" ⟨[a],[(Str.ofString "key",v),(Str.ofString "default",.none)]⟩:=by unfold argsOk;kernel_rfl
theorem Eu {α:Type}{l:List α}{x:α} (h:x ∈ l):∃ i:Nat,l[i]?=some x:=z9 h
section
variable {X:Cx}{a:Expr}{f:EF}{p pos kp pc:Pos}{j:Nat}
theorem Bg [Lw] (hc:X.calm=true) (hg:Gl X "min") (hm:X.mg "min"=none) (ha:QE X a f) (hs:starEach [a] X.env=[(false,eval a X.env)]) :
  QE X (.Call (.Name "min" p) [a] [⟨some "default",.Constant .none j pc,kp⟩] pos) (rH (bC mX) (de f dR)):=by
 intro Lu s σ H Q I h;have hb:=y9 h;refine wpAny_Call_Name_kw (cV I hg hm rn (callWith_kw (aA ((bZ ha d7 (by rw [hs];rfl)) pos Lu s σ H _ I hb) fun us s1 ⟨vs,H1,I1,r1,q1⟩=>?_) (by rw [hs];rfl) (by rw [hs];rfl) (by rfl) (by rfl)));refine kws_cons (Constant_none (kws_nil ?_));obtain ⟨P,φ,st,xs,sm,r,k0⟩:=q1;obtain ⟨z,e,k⟩:=k0.map;unfold mX at e;split at e
 ·rename_i v
  obtain ⟨w,rfl,rv⟩:=r.one;obtain ⟨ns,e1,e2⟩:=zE.mp e;obtain ⟨l,rfl,hl⟩:=rv.lsI sm e1;obtain ⟨u,rfl,ru⟩:=dL r1;cases ru;refine qz (ko:=none) (ns:=ns) (I.ok.hd hc) (fun i=>ns.getD i 0) (fun _ H=>H=H1) (fun i H e=>by rw [e];exact hl) rfl (Er _) (fun i n u pl s H en ru eH I=>.inl ⟨rfl,by simp [en],eH⟩) (fun i n H en hmin eH=>?_) (fun en=>?_) I1 rfl
  ·subst eH
   have:minL ns=some n:=by
    cases hM:minL ns with
    | none =>
     cases ns with
     | nil=>simp at en
     | cons _ _=>cases hM
    | some m =>
     rw [minL_eq hM (zW en) fun b hb=>?_];obtain ⟨i',hi'⟩:=Eu hb;have h1:=(hmin i' (zB.mp hi').1).1;simpa [en,hi'] using h1
   have ez:z=.int n:=by rw [<- e2];unfold x8;rw [this]
   subst ez;exact k.pure sm (by simp only [RA])
  ·subst en
   have ez:z=.non:=by rw [<- e2];rfl
   subst ez;exact k.pure sm (by simp only [RA])
 ·cases e
end
def v6 (key:EF) (sl:Sl) (st:aa) (n:Int):Option Int:=match key (sl++[some (.int n)]) st with
 | some (.int k,_)=>some k
 | _=>none
noncomputable def jj:Int->Int->List (Int × Int)->Int
 | n,_,[]=>n
 | n,k,(m,j)::r=>if j < k then jj m j r else jj n k r
def oE:List (Int × Int)->AV
 | []=>.non
 | (n,k)::r=>.int (jj n k r)
def pH (f key:EF):EF:=fun sl st=>(f sl st).bind fun p=>(lsI p.2 p.1).bind fun ns=>(bJ (v6 key sl p.2) ns).map fun ks=>(oE (ns.zip ks),p.2)
def AC (f:EF):Prop:=∀ sl st v st',f sl st=some (v,st')->st'=st
theorem oF:∀ (r:List (Int × Int)) (n k:Int),∃ (i:Nat) (κ:Int),((n,k)::r)[i]?=some (jj n k r,κ)/\∀ (j:Nat) q,((n,k)::r)[j]?=some q->κ <= q.2/\(j < i->κ < q.2)
 | [],n,k=>⟨0,k,rfl,fun j q e=>by
   cases j with
   | zero=>cases e;exact ⟨Int.le_refl _,fun h=>absurd h (yX _)⟩
   | succ j=>simp at e⟩
 | (m,j0)::r,n,k=>by
  by_cases hb:j0 < k
  ·obtain ⟨i,κ,e1,e2⟩:=oF r m j0
   refine ⟨i + 1,κ,by rw [List.getElem?_cons_succ];simpa [jj,hb] using e1,fun j q e=>?_⟩;cases j with
   | zero =>
    cases e
    have:=(e2 0 (m,j0) rfl).1
    exact ⟨by show κ <= k;omega,fun _=>by show κ < k;omega⟩
   | succ j =>
    rw [List.getElem?_cons_succ] at e;exact ⟨(e2 j q e).1,fun h=>(e2 j q e).2 oM⟩
  ·obtain ⟨i,κ,e1,e2⟩:=oF r n k
   have ea:jj n k ((m,j0)::r)=jj n k r:=by simp [jj,hb]
   have hk:=(e2 0 (n,k) rfl).1;refine ⟨if i=0 then 0 else i + 1,κ,?_,fun j q e=>?_⟩
   ·rw [ea]
    cases i with
    | zero=>simpa using e1
    | succ i=>simpa using e1
   ·cases j with
    | zero =>
     cases e;refine ⟨hk,fun h=>?_⟩;cases i with
     | zero=>simp at h
     | succ i=>exact (e2 0 (n,k) rfl).2 (Nat.succ_pos i)
    | succ j =>
     rw [List.getElem?_cons_succ] at e;cases j with
     | zero =>
      cases e;refine ⟨by show κ <= j0;omega,fun h=>?_⟩;cases i with
      | zero=>simp at h
      | succ i =>
       have:=(e2 0 (n,k) rfl).2 (Nat.succ_pos i)
       show κ < j0;have:κ < k:=this;omega
     | succ j =>
      rw [List.getElem?_cons_succ] at e
      have:=e2 (j + 1) q (by rw [List.getElem?_cons_succ];exact e)
      refine ⟨this.1,fun h=>this.2 ?_⟩;cases i with
      | zero=>simp at h
      | succ i=>simp at h;omega
theorem Cn {ns ks:List Int}{i:Nat}{n:Int} (hl:ns.length=ks.length) (hn:ns[i]?=some n) (hm:∀ j,j < ns.length->ks.getD i 0 <= ks.getD j 0/\(j < i->ks.getD i 0 < ks.getD j 0)):oE (ns.zip ks)=.int n:=by
 have hi:i < ns.length:=(zB.mp hn).1;obtain ⟨k,hk⟩:∃ k,ks[i]?=some k:=⟨_,zF oM⟩;have hz:(ns.zip ks)[i]?=some (n,k):=by rw [List.getElem?_zip_eq_some];exact ⟨hn,hk⟩
 have hd:ks.getD i 0=k:=by simp [hk]
 cases e:ns.zip ks with
 | nil=>rw [e] at hz;simp at hz
 | cons q r =>
  obtain ⟨n0,k0⟩:=q;obtain ⟨i',κ,e1,e2⟩:=oF r n0 k0;rw [<- e] at e1 e2;have e3:=List.getElem?_zip_eq_some.mp e1;have hi':i' < ns.length:=(zB.mp e3.1).1;have hd':ks.getD i' 0=κ:=by simp [e3.2]
  have m1:=hm i' hi';have m2:=e2 i (n,k) hz;rw [hd,hd'] at m1;have m2a:κ <= k:=m2.1;have m2b:i < i'->κ < k:=m2.2;have:i=i':=by
   rcases Nat.lt_trichotomy i i' with h | h | h
   ·have:=m2b h;omega
   ·exact h
   ·have:=m1.2 h;omega
  subst this;rw [hn] at e3
  have:=e3.1
  simp only [oE];cases this;rfl
theorem qC {α β:Type}{f:α->Option β}:∀ {l:List α}{r:List β},bJ f l=some r->l.length=r.length/\∀ (i:Nat) x,l[i]?=some x->∃ y,r[i]?=some y/\f x=some y
 | [],r,h=>by cases h;exact ⟨rfl,fun i x e=>by simp at e⟩
 | x::l,r,h=>by
  simp only [bJ] at h;obtain ⟨y,e1,e2⟩:=zA h;obtain ⟨ys,e3,e4⟩:=zE.mp e2;subst e4;obtain ⟨h1,h2⟩:=qC e3;refine ⟨by simp [h1],fun i z e=>?_⟩;cases i with
  | zero=>cases e;exact ⟨y,rfl,e1⟩
  | succ i=>exact h2 i z (by simpa using e)
section
variable {X:Cx}{a body:Expr}{f key:EF}{p pos kp lp kp2 pc:Pos}{j:Nat}{params:Arguments}{scope:Scope}{N':List Str}{x:Str}{c P:Addr}
theorem LG.snoc [Lw] {mg:Gm}{P:Pr}{H:Hp}{φ:List Addr}{sl:Sl}{σ:St}{v:AV}{w:V} (h:LG mg P H φ sl σ) (r:RA mg P H φ v w):LG mg P H φ (sl++[some v]) (σ++[some w]):=by
 refine ⟨by rw [zV,zV,h.1];rfl,fun i u e=>?_⟩;rcases yS i sl.length with hi | hi
 ·rw [zN hi] at e
  rw [zN (by rw [<- h.1];exact hi)];exact h.2 i u e
 ·rw [z7 hi] at e
  rw [z7 (by rw [<- h.1];exact hi),<- h.1];cases hk:i - sl.length with
  | zero=>rw [hk] at e;cases e;exact ⟨w,rfl,r⟩
  | succ m=>rw [hk] at e;simp at e
theorem Bf [Lw] (hc:X.calm=true) (hg:Gl X "min") (hm:X.mg "min"=none) (ha:QE X a f) (hs:starEach [a] X.env=[(false,eval a X.env)]) (hdef:defaultsOf params X.env=([],[])) (hcode:X.env.code=.ref c) (C:CodeHd X.base c P) (B:iK X.mg X.base)
  (ht:(P,lp,X.env.qual++"<lambda>") ∈ Lw.tb) (T:uV X N' scope x) (hp:plainA params=true) (hps:params.args.map (·.arg)=[x]) (hd:X.A.in1.depth < recursionLimit) (pu:AC key)
  (he:∀ cl f c' s H,QE (qY X N' scope cl f (X.env.qual++"<lambda>") (.ref c') X.A.in1 s H) body key)
  (hdj:∀ t ∈ Lw.tb,t.1=P->t=(P,lp,X.env.qual++"<lambda>")) :
  QE X (.Call (.Name "min" p) [a] [⟨some "key",.Lambda params body scope lp,kp⟩,⟨some "default",.Constant .none j pc,kp2⟩] pos) (pH f key):=by
 rintro Lu s σ H Q I ⟨Pr0,φ,sl,st,rs,sm,v,st',ev,k⟩;obtain ⟨p1,e1,e2⟩:=zA ev;obtain ⟨ns,e3,e4⟩:=zA e2;obtain ⟨ks,e5,e6⟩:=zE.mp e4;cases e6;have hra:rA X.gm (de f dR) σ H (fun vs H1=>∃ P1 φ1 w,vs=[w]/\Frm Pr0 φ H P1 φ1 H1/\Sim X.gm P1 φ1 p1.2 H1/\RA X.gm P1 H1 φ1 p1.1 w) :=
  vm rs sm ⟨p1.1,p1.2,e1,fun P1 φ1 H1 w f1 s1 r1=>⟨P1,φ1,w,rfl,f1,s1,r1⟩⟩
 refine wpAny_Call_Name_kw (cV I hg hm rn (callWith_kw (aA ((bZ ha d7 (by rw [hs];rfl)) pos Lu s σ H _ I hra) fun us s1 ⟨vs,H1,I1,r1,P1,φ1,w,ew,f1,s1',rw1⟩=>?_) (by rw [hs];rfl) (by rw [hs];rfl) (by rfl) (by rfl)));subst ew;obtain ⟨l,rfl,hl0⟩:=rw1.lsI s1' e3;obtain ⟨u,rfl,ru⟩:=dL r1;cases ru;obtain ⟨cl,hcl,hcl1,hcl2⟩:=jR (scope:=scope) (env:=X.env) (fun y hy=>by
  rcases T.cy.free y hy with h | h
  ·exact I1.ok.has y (.inl h)
  ·exact I1.ok.has y (.inr h))
 refine kws_cons (yf I1 hdef hcode C B hcl (s1'.tb _ ht).1 fun q c' ctv H2 s2 hH2 tb2 hx2 I2=>kws_cons (Constant_none (kws_nil ?_)))
 -- the heap behind the making
 have fs:Frm P1 φ1 H1 P1 φ1 H2/\Sim X.gm P1 φ1 p1.2 H2:=by
  rcases hH2 with rfl | ⟨ps,more,hP,hn,hne,rfl⟩
  ·exact ⟨Frm.refl,s1'⟩
  ·have nP:∀ b,P1 b->b ≠ P:=fun b h e=>(s1'.tb _ ht).2 (by rw [<- e];exact h)
   have nc:∀ b,H1 b ≠ none->b ≠ c':=fun b h e=>h (by rw [e];exact hn)
   have ncell:∀ b ∈ φ1,b ≠ P:=fun b h e=>s1'.tnc ht (by rw [<- e];exact h)
   have eq:∀ b,b ≠ P->b ≠ c'->af (af H1 P (.tbl (ps++more))) c' (fG c' (X.env.qual++"<lambda>")) b=H1 b:=fun b h1 h2=>by rw [ad h2,ad h1]
   have ex:∀ b,P1 b->P1 b/\af (af H1 P (.tbl (ps++more))) c' (fG c' (X.env.qual++"<lambda>")) b=H1 b:=fun b h=>⟨h,eq b (nP b h) (nc b (s1'.dom b h))⟩
   refine ⟨⟨ex,⟨[],by simp,by simp⟩,fun b h _ z=>eq b (fun e=>z ps (by rw [e];exact hP)) (nc b h),fun b h=>.inl h,fun b h=>?_,fun b o u h=>?_⟩,s1'.stay ex (fun b h=>eq b (ncell b h) (nc b (s1'.cd b h))) (fun _ _ h=>h) (fun b h=>by rw [(ex b h).2];exact s1'.dom b h) fun t ht'=>⟨?_,(s1'.tb t ht').2⟩⟩
   ·by_cases e:b=P
    ·subst e;rw [ad hne,aq];exact fun z=>nomatch z
    ·rw [eq b e (nc b h)];exact h
   ·rw [eq b (fun e=>by rw [e,hP] at h;cases h) (nc b (by rw [h];exact fun z=>nomatch z))];exact h
   ·by_cases e:t.1=P
    ·rw [hdj t ht' e];exact tb2
    ·obtain ⟨qs,g1,g2,g3⟩:=(s1'.tb t ht').1
     refine ⟨qs,by rw [eq t.1 e (nc _ (by rw [g1];exact fun z=>nomatch z))];exact g1,g2,?_⟩;rcases g3 with g3 | ⟨c2,g4,g5⟩
     ·exact .inl g3
     ·exact .inr ⟨c2,g4,by rw [eq c2 (fun z=>by rw [z,hP] at g5;cases g5) (nc _ (by rw [g5];exact fun z=>nomatch z))];exact g5⟩
 obtain ⟨hlen,hget⟩:=qC e5;have aE:∀ H',(∃ P' φ',Frm P1 φ1 H2 P' φ' H'/\Sim X.gm P' φ' p1.2 H')->∀ z,oE (ns.zip ks)=z->∀ w,(∀ P' φ',RA X.gm P' H' φ' z w)->Q w H':=fun H' hq0 z hz w r=>by
  obtain ⟨P',φ',f',s'⟩:=hq0;rw [hz] at k;exact k P' φ' H' w ((f1.trans fs.1).trans f') s' (r P' φ')
 have hmc:=qz (X:=X) (Lu:=Lu++[(q,ut X.mg (X.env.qual++"<lambda>") params body scope cl (.ref c') ctv)]) (σ:=σ) (ko:=some (.ref q)) (kws:=[(Str.ofString "key",.ref q),(Str.ofString "default",.none)]) (l:=l) (ns:=ns) (H:=H2) (s:=s2) (Q:=Q) (E:=X.xe)
  (I.ok.hd hc) (fun i=>ks.getD i 0) (fun _ H'=>∃ P' φ',Frm P1 φ1 H2 P' φ' H'/\Sim X.gm P' φ' p1.2 H') (fun i H' ⟨P',φ',f',s'⟩=>?_) rfl (Ep _ _) (fun i n u pl s3 H3 en ru ⟨P3,φ3,f3,s3'⟩ I3=>.inr ⟨q,rfl,?_⟩) (fun i n H' en hmin hJ=>?_) (fun en=>?_) I2 ⟨P1,φ1,Frm.refl,fs.2⟩
 ·exact aA hmc fun u s9 ⟨v9,H9,I9,r9,q9⟩=>⟨v9,H9,I9.pins_of fun p hp=>I9.pin p (zK _ (zL _ hp)),r9,q9⟩
 ·obtain ⟨b,eb,hb⟩:=(rw1.frm (fs.1.trans f')).lsI s' e3
  cases eb;exact hb
 ·obtain ⟨kv,ek,hk⟩:=hget i n en
  unfold v6 at hk;split at hk
  ·rename_i k0 st0 ekey
   cases hk
   have:=pu _ _ _ _ ekey
   subst this;have hpin:=I3.pin (q,ut X.mg (X.env.qual++"<lambda>") params body scope cl (.ref c') ctv) (zK _ (zL _ (zK _ (zM.mpr rfl))));have hcx:H3 c'=some (fG c' (X.env.qual++"<lambda>")):=fs.2.okeep f3 hx2;have hcr:s3.heap.CodeRec (.ref c') (X.env.qual++"<lambda>"):=(I3.LA c' _ hcx).1;refine yg (te:=rE X.gm key) T I3 I.ok.frames (I.ok.hd hc) hd hcl1 hcl2 hp hps hpin.1 hcr (fun s H=>he cl q c' s H) ru ?_;have ksl:LG X.gm P3 H3 φ3 (sl++[some (.int n)]) (σ++[some (.int n)]):=LG.snoc (((rs.frm f1).frm fs.1).frm f3) (by simp only [RA]);refine ⟨P3,φ3,sl++[some (.int n)],p1.2,ksl,s3',.int kv,p1.2,ekey,fun P4 φ4 H4 b f4 s4 r4=>?_⟩;simp only [RA] at r4;exact ⟨by rw [r4];simp [ek],P4,φ4,f3.trans f4,s4⟩
  ·cases hk
 ·exact aE H' hJ _ (Cn hlen en hmin) _ fun P' φ'=>by simp only [RA]
 ·subst en
  exact aE H2 ⟨P1,φ1,Frm.refl,fs.2⟩ _ rfl _ fun P' φ'=>by simp only [List.zip_nil_left,oE,RA]
end
section
variable {X:Cx}{a b:Expr}{f g:EF}{pos p1 p2 pos2:Pos}
noncomputable def oK (i:Int):Bool:=decide (0 <= i) && decide (i <= 1000)
def t9 (f:EF):NF:=fun sl st=>(f sl st).bind fun p=>match p.1 with
 | .int j=>if oK j=true then some (df 0 j.toNat,p.2) else none
 | _=>none
def t8 (f g:EF):NF:=fun sl st=>(f sl st).bind fun p=>(g sl p.2).bind fun q=>match p.1,q.1 with
 | .int i,.int j=>if (oK i && oK j && decide (i <= j))=true then some (df i (j - i).toNat,q.2) else none
 | _,_=>none
theorem Lz.rng (i:Nat):∀ n:Nat,Lz mg P H φ (df (i:Int) n) ((List.range' i n).map fun (q:Nat)=>V.int (q:Int)):=by
 have key:∀ (l:List Nat),Lz mg P H φ (l.map fun (k:Nat)=>AV.int ((i:Int) + (k:Int))) (l.map fun (k:Nat)=>V.int ((i:Int) + (k:Int))):=by
  intro l
  induction l with
  | nil=>exact aX
  | cons x l ih=>exact aI (by simp only [RA]) ih
 intro n;have:((List.range' i n).map fun (q:Nat)=>V.int (q:Int))=(List.range n).map fun (k:Nat)=>V.int ((i:Int) + (k:Int)):=by
  rw [List.range'_eq_map_range,List.map_map];refine List.map_congr_left fun k _=>?_
  simp
 rw [this];exact key _
theorem C8 [Lw] (hc:X.calm=true) (hgl:Gl X "list") (hml:X.mg "list"=none) (hgr:Gl X "range") (hmr:X.mg "range"=none) (ha:QE X a f)
  (hs:starEach [a] X.env=[(false,eval a X.env)]):QN X (.Call (.Name "list" p1) [.Call (.Name "range" p2) [a] [] pos2] [] pos) (t9 f) :=
 PE_imp (xH hc hgl hml hgr hmr ha hs) fun σ H Q hq0=>by
  obtain ⟨P,φ,sl,st,rs,s,xs,st',ef,k⟩:=hq0;obtain ⟨q,e1,e2⟩:=zA ef;refine ⟨P,φ,sl,st,rs,s,q.1,q.2,e1,fun P1 φ1 H1 w f1 s1 r1=>?_⟩;show ∃ j:Nat,[w]=[.int (j:Int)]/\j <= 1000/\∀ p,H1 p=none->Q (.ref p) (af H1 p (.lst ((List.range' 0 j).map fun (q:Nat)=>V.int (q:Int))));split at e2
  ·rename_i j ej
   split at e2
   ·rename_i hb
    cases e2;rw [ej] at r1;simp only [RA] at r1;subst r1;obtain ⟨h1,h2⟩:=Bool.and_eq_true_iff.mp hb;have h1:=of_decide_eq_true h1;have h2:=of_decide_eq_true h2;refine ⟨j.toNat,by rw [Int.toNat_of_nonneg h1],by omega,fun p hp=>?_⟩;exact k P1 φ1 H1 p _ f1 s1 hp (Lz.rng 0 j.toNat)
   ·cases e2
  ·cases e2
theorem C7 [Lw] (hc:X.calm=true) (hgl:Gl X "list") (hml:X.mg "list"=none) (hgr:Gl X "range") (hmr:X.mg "range"=none) (ha:QE X a f) (hb:QE X b g)
  (hs:starEach [a,b] X.env=[(false,eval a X.env),(false,eval b X.env)]) (hs2:starEach [b] X.env=[(false,eval b X.env)]):QN X (.Call (.Name "list" p1) [.Call (.Name "range" p2) [a,b] [] pos2] [] pos) (t8 f g) :=
 PE_imp (vG hc hgl hml hgr hmr (bZ ha (bZ hb d7 (by rw [hs2];rfl)) (by rw [hs,hs2])) hs hs2) fun σ H Q hq0=>by
  obtain ⟨P,φ,sl,st,rs,s,xs,st',ef,k⟩:=hq0;obtain ⟨q,e1,e2⟩:=zA ef;obtain ⟨r,e3,e4⟩:=zA e2;refine CY rs s ⟨q.1,q.2,r.1,r.2,e1,e3,fun P1 φ1 H1 w w' f1 s1 r1 r2=>?_⟩;split at e4
  ·rename_i i j ei ej
   split at e4
   ·rename_i hb
    cases e4;rw [ei] at r1;rw [ej] at r2;simp only [RA] at r1 r2;subst r1;subst r2;simp only [oK,zC,yC] at hb;obtain ⟨⟨⟨h1,h2⟩,h3,h4⟩,h5⟩:=hb;refine ⟨i.toNat,j.toNat,by rw [Int.toNat_of_nonneg h1,Int.toNat_of_nonneg h3],by omega,by omega,fun p hp=>?_⟩;refine k P1 φ1 H1 p _ f1 s1 hp ?_;have e1:(j - i).toNat=j.toNat - i.toNat:=by omega
    have e2:i=((i.toNat:Nat):Int):=by omega
    have:=Lz.rng (mg:=X.gm) (P:=P1) (H:=H1) (φ:=φ1) i.toNat (j.toNat - i.toNat)
    rw [<- e2,<- e1] at this;rw [<- e1];exact this
   ·cases e4
  ·cases e4
end
def m5:aR->AV
 | .inl i=>.int i
 | .inr x=>.str x
noncomputable def zk (k:Nat):Out->Option Out
 | .nx sl st=>match st[k]? with
  | some (.wk Lv)=>some (.nx sl (st.set k (.dK Lv)))
  | _=>none
 | .rt v st=>match st[k]? with
  | some (.wk Lv)=>some (.rt v (st.set k (.dK Lv)))
  | _=>none
 | _=>none
def tR (f:EF) (g:GF) (s:SF):SF:=fun sl st=>(f sl st).bind fun p=>match p.1 with
 | .ref k=>match p.2[k]? with
  | some (.dK Lv)=>(dh [] g s (Lv.map fun q=>m5 q.1) sl (p.2.set k (.wk Lv))).bind (zk k)
  | _=>none
 | _=>none
section
variable {X:Cx}{tg iter:Expr}{body:List Stmt}{pos:Pos}{f:EF}{g:GF}{s:SF}
theorem A2 [Lw] (hp:PassesOwn (model X.prog X.w) X.A X.env X.xe) (hc:X.calm=true) (hi:QE X iter f) (hg:QG X tg g) (hb:lm X body s) (hs:∀ x,foldedSetIterable iter X.env x=pure x):QS X (.For tg iter body [] pos) (tR f g s) :=
 PS_imp (Bo (vx hp hc (Bx hi) hg hb hs)) fun D σ H hq0=>by
  obtain ⟨P,φ,sl,st,rs,sm,o,e,q⟩:=hq0;obtain ⟨p,e1,e2⟩:=zA e;refine ⟨P,φ,sl,st,rs,sm,p.1,p.2,e1,fun P1 φ1 H1 w f1 s1 r1=>?_⟩;split at e2
  ·rename_i k ek
   rw [ek] at r1;simp only [RA] at r1;obtain ⟨a,ea,rfl⟩:=r1;split at e2
   ·rename_i Lv hk
    obtain ⟨o1,e3,e4⟩:=zA e2;obtain ⟨na,ws,h1,h2⟩:=s1.cell k _ a hk ea;refine ⟨a,ws,rfl,h1,fun ob hn=>?_⟩;have hkeys:(Lv.map fun q=>m5 q.1).length=ws.length:=by
     have:=congrArg List.length h2.1
     rw [zH,zH] at this;rw [zH];exact this
    obtain ⟨fw,sw⟩:=ia (c:=.wk Lv) (o:=.frz ob (.dK ws)) s1 ea na ⟨na,ob,ws,aq,h2.mono (fun b h=>⟨h,ad fun e=>na (e ▸ h)⟩) fun _ _ z=>z⟩ (fun _ _ z=>by rw [h1] at z;cases z);have rsw:LG X.gm P1 (af H1 a (.frz ob (.dK ws))) φ1 sl σ:=(rs.frm f1).frm fw
    -- behind the loop
    have back:∀ {P5 φ5 H5 st5},Frm P1 φ1 (af H1 a (.frz ob (.dK ws))) P5 φ5 H5->Sim X.gm P5 φ5 st5 H5->∀ {kvs'},st5[k]?=some (.wk kvs')->∃ o5 ws5,H5 a=some (.frz o5 (.dK ws5)) /\
      Frm P φ H P5 φ5 (af H5 a (.dK ws5))/\Sim X.gm P5 φ5 (st5.set k (.dK kvs')) (af H5 a (.dK ws5))/\∀ b,P5 b->P5 b/\af H5 a (.dK ws5) b=H5 b:=by
     intro P5 φ5 H5 st5 f5 s5 kvs' hw;have ea5:φ5[k]?=some a:=f5.ix k a ea;obtain ⟨na5,o5,ws5,g1,g2⟩:=s5.cell k _ a hw ea5;have ex5:∀ b,P5 b->P5 b/\af H5 a (.dK ws5) b=H5 b:=fun b h=>⟨h,ad fun e=>na5 (e ▸ h)⟩
     refine ⟨o5,ws5,g1,?_,?_,ex5⟩
     ·have fall:=(f1.trans fw).trans f5
      obtain ⟨m,em,nm⟩:=fall.new;have hna:H a=none\/a ∈ φ:=by
       rcases zZ.mp (show a ∈ φ++f1.new.choose by rw [<- f1.new.choose_spec.1];exact zW ea) with z | z
       ·exact .inr z
       ·exact .inl (f1.new.choose_spec.2 a z)
      refine ⟨fun b h=>⟨(fall.ext b h).1,?_⟩,⟨m,em,nm⟩,fun b h n z=>?_,fall.pn,fun b h=>?_,fun b o u h=>?_⟩
      ·rw [(ex5 b (fall.ext b h).1).2];exact (fall.ext b h).2
      ·have nb:b ≠ a:=fun e=>by
        rcases hna with y | y
        ·exact h (by rw [e];exact y)
        ·exact n (by rw [e];exact y)
       rw [ad nb];exact fall.keep b h n z
      ·by_cases e:b=a
       ·rw [e,aq];exact fun z=>nomatch z
       ·rw [ad e];exact fall.sm b h
      ·have nb:b ≠ a:=fun e=>by
        have:=f1.fz b o u h
        rw [e,h1] at this;cases this
       rw [ad nb];exact fall.fz b o u h
     ·have hs5:st5[k]?=some (.wk kvs'):=hw
      refine ⟨by rw [List.length_set];exact s5.len,s5.nd,fun b h=>by rw [(ex5 b h).2];exact s5.dom b h,fun b h=>?_,fun j c b e5 e6=>?_,fun t ht=>⟨(s5.tb t ht).1.wr (s5.notb ea5 na5),(s5.tb t ht).2⟩⟩
      ·by_cases e:b=a
       ·rw [e,aq];exact fun z=>nomatch z
       ·rw [ad e];exact s5.cd b h
      ·by_cases hj:j=k
       ·subst hj
        rw [ea5] at e6;cases e6;rw [List.getElem?_set_self (by rw [<- s5.len];exact (zB.mp ea5).1)] at e5;cases e5;exact ⟨na5,ws5,aq,g2.mono ex5 fun _ _ z=>z⟩
       ·rw [List.getElem?_set_ne (Ne.symm hj)] at e5
        have hb:b ≠ a:=fun e=>hj (by
         subst e;obtain ⟨l1,q1⟩:=zB.mp e6;obtain ⟨l2,q2⟩:=zB.mp ea5;exact (List.getElem_inj s5.nd).mp (q1.trans q2.symm))
        exact (s5.cell j c b e5 e6).mono ex5 (fun _ _ z=>z) (ad hb) fun z=>z
    have endN:∀ {P5 φ5 H5 σ5 sl5 st5},o1=.nx sl5 st5->Frm P1 φ1 (af H1 a (.frz ob (.dK ws))) P5 φ5 H5->Sim X.gm P5 φ5 st5 H5->LG X.gm P5 H5 φ5 sl5 σ5->(pv X.H₀ D).nx σ5 H5:=by
     intro P5 φ5 H5 σ5 sl5 st5 eo f5 s5 rs5;subst eo;simp only [zk] at e4;split at e4
     ·rename_i kvs' hw
      cases e4;obtain ⟨o5,ws5,g1,g2,g3,g4⟩:=back f5 s5 hw;exact ⟨a,o5,ws5,g1,hn,q P5 φ5 _ σ5 g2 g3 ⟨rs5.1,fun i v e=>let ⟨w,e',r⟩:=rs5.2 i v e;⟨w,e',r.mono g4 fun _ _ z=>z⟩⟩⟩
     ·cases e4
    have endR:∀ {P5 φ5 H5 v5 st5 w5},o1=.rt v5 st5->Frm P1 φ1 (af H1 a (.frz ob (.dK ws))) P5 φ5 H5->Sim X.gm P5 φ5 st5 H5->RA X.gm P5 H5 φ5 v5 w5->(pv X.H₀ D).rt w5 H5:=by
     intro P5 φ5 H5 v5 st5 w5 eo f5 s5 r5;subst eo;simp only [zk] at e4;split at e4
     ·rename_i kvs' hw
      cases e4;obtain ⟨o5,ws5,g1,g2,g3,g4⟩:=back f5 s5 hw;exact ⟨a,o5,ws5,g1,hn,q P5 φ5 _ w5 g2 g3 (r5.mono g4 fun _ _ z=>z)⟩
     ·cases e4
    refine ⟨fun i m σ' H'=>m=ws.length - i/\i <= ws.length/\∃ P' φ' sl' st',Frm P1 φ1 (af H1 a (.frz ob (.dK ws))) P' φ' H'/\Sim X.gm P' φ' st' H'/\LG X.gm P' H' φ' sl' σ'/\dh [] g s ((Lv.map fun q=>m5 q.1).drop i) sl' st'=some o1,
     ⟨_,rfl,Nat.zero_le _,P1,φ1,sl,_,Frm.refl,sw,rsw,by simpa using e3⟩,?_⟩
    rintro i m σ' H' ⟨rfl,hle,P2,φ2,sl2,st2,f2,s2,rs2,eg⟩;have hfz:H' a=some (.frz ob (.dK ws)):=f2.fz a _ _ aq;rcases yS i ws.length with hlt | hge
    ·right
     rw [List.drop_eq_getElem_cons (by rw [hkeys];exact hlt)] at eg;simp only [dh,ci,if_true] at eg;obtain ⟨q4,e5,e6⟩:=zA eg;obtain ⟨o2,e7,e8⟩:=zA e6;refine ⟨⟨hfz,hlt⟩,fun σ' H'=>∃ P' φ' sl' st',Frm P1 φ1 (af H1 a (.frz ob (.dK ws))) P' φ' H'/\Sim X.gm P' φ' st' H'/\LG X.gm P' H' φ' sl' σ'/\dh [] g s ((Lv.map fun q=>m5 q.1).drop (i + 1)) sl' st'=some o1,fun σ' H' z=>⟨_,by omega,rfl,hlt,z⟩,fun x H3 hy=>?_⟩;obtain ⟨rfl,hx⟩:=hy;have rx:RA X.gm P2 H3 φ2 ((Lv.map fun q=>m5 q.1)[i]'(by rw [hkeys];exact hlt)) x:=by
      have hkw:Lv[i]?.map (·.1)=ws[i]?.map (·.1):=by rw [<- zR,<- zR,h2.1]
      have hlt':i < Lv.length:=by rw [zH] at hkeys;omega
      rw [zR,zF hlt] at hx;rw [zF hlt',zF hlt] at hkw;simp only [map_some,Option.some.injEq] at hx hkw;rw [List.getElem_map,hkw,<- hx];cases ws[i].1 with
      | inl n=>simp only [m5,RA,kV]
      | inr z=>simp only [m5,RA,kV]
     refine ⟨P2,φ2,sl2,st2,_,rs2,s2,rx,q4.1,q4.2,e5,fun P4 φ4 H4 σ4 f4 s4 rs4=>⟨P4,φ4,q4.1,q4.2,rs4,s4,o2,e7,?_⟩⟩;have fa:=f2.trans f4;cases o2 with
     | nx sl5 st5=>exact fun P5 φ5 H5 σ5 f5 s5 rs5=>⟨P5,φ5,sl5,st5,fa.trans f5,s5,rs5,e8⟩
     | ct sl5 st5=>exact fun P5 φ5 H5 σ5 f5 s5 rs5=>⟨P5,φ5,sl5,st5,fa.trans f5,s5,rs5,e8⟩
     | bk sl5 st5=>exact fun P5 φ5 H5 σ5 f5 s5 rs5=>endN (yE e8).symm (fa.trans f5) s5 rs5
     | rt v st5=>exact fun P5 φ5 H5 w f5 s5 r5=>endR (yE e8).symm (fa.trans f5) s5 r5
    ·left
     have ei:i=ws.length:=Nat.le_antisymm hle hge;subst ei;rw [<- hkeys,List.drop_length] at eg;simp only [dh,ci,if_true] at eg;exact ⟨⟨hfz,zP _⟩,endN (yE eg).symm f2 s2 rs2⟩
   ·cases e2
  ·cases e2
end
end R
namespace R
open PySem PySem.Spec PyProof.Rows L2
noncomputable def aT:Expr->Bool
 | .Starred _ _=>false
 | _=>true
noncomputable def jt:Expr->Bool
 | .Slice _ _ _ _=>false
 | _=>true
noncomputable def tZ:Expr->Bool
 | .Set _ _ _=>false
 | _=>true
noncomputable def mw:Expr->Bool
 | .Call (.Name _ _) [] [] _=>false
 | _=>true
noncomputable def lA:Expr->Bool
 | .ListComp _ _ _ _=>false
 | .SetComp _ _ _ _=>false
 | .DictComp _ _ _ _ _=>false
 | _=>true
noncomputable def xU:Expr->Bool
 | .Tuple _ _ _=>false
 | _=>true
noncomputable def vA:Expr->Bool
 | .UnaryOp .Not _ _=>false
 | .BoolOp _ _ _=>false
 | .IfExp _ _ _ _=>false
 | .Compare _ _ _ _=>false
 | _=>true
section
variable {env:Env}{e o i a b:Expr}{es:List Expr}{pos cpos apos:Pos}{f:Str}
theorem am (h:aT e=true):starEach (e::es) env=(false,eval e env)::starEach es env:=by
 cases e <;> first | rfl | cases h
theorem ig (h:es.all aT=true):(backTo pos (starEach es env)).any (·.1)=false:=by
 induction es with
 | nil=>rfl
 | cons e es ih =>
  rw [List.all_cons,zC] at h;rw [am h.1];show (false || (backTo pos (starEach es env)).any (·.1))=false;rw [ih h.2];rfl
theorem xh (h:es.all aT=true):(backTo pos (starEach es env)).all (fun x=>!x.1)=true:=by
 induction es with
 | nil=>rfl
 | cons e es ih =>
  rw [List.all_cons,zC] at h;rw [am h.1];show (true && (backTo pos (starEach es env)).all (fun x=>!x.1))=true;rw [ih h.2];rfl
theorem Iy (h:es.all aT=true) (hl:es.length < 30):((backTo cpos (starEach es env)).all (fun x=>!x.1) && (backToKw cpos (keywordEach [] env)).all (fun x=>x.1.isSome) && decide (es.length + ([]:List Keyword).length + (if ([]:List Keyword).isEmpty then 0 else 1) < 30))=true:=by
 rw [xh h];have:decide (es.length + ([]:List Keyword).length + (if ([]:List Keyword).isEmpty then 0 else 1) < 30)=true:=yT (by simpa using hl);rw [this];rfl
theorem fv (w:Sem Value) (h:mw o=true):attributeBase o f env w=w:=by
 unfold attributeBase;split
 ·simp [mw] at h
 ·rfl
theorem sL (hb:mw o=true) (hs:es.all aT=true) (hl:es.length < 30) (hline:(apos.endLine == pos.line)=true):eval (.Call (.Attribute o f apos) es [] pos) env=(do
   let ov <- eval o env
   standAt apos.atName
   let (f,first) <- holding [ov] (getMethod ov f (do return (<- importBound o env).getD true))
   callWith pos f first (backTo pos (starEach es env)) (backToKw pos (keywordEach [] env))):=by
 rw [arm_eval_Call,fv _ hb];have hform:methodCallForm (es.length + ([]:List Keyword).length) (backTo pos (starEach es env)) (backToKw pos (keywordEach [] env))=true:=Iy hs hl;have hpos:methodCallPos true o env apos pos=pure pos:=by unfold methodCallPos;simp [hline]
 unfold methodCall;rw [hform,hpos];rfl
theorem mK (h:tZ e=true) (x:Value):foldedSetIterable e env x=pure x:=by
 cases e <;> first | rfl | cases h
theorem GP (h:jt i=true):oG i:=fun _ _=>by
 cases i <;> first | rfl | cases h
theorem CN (h:jt i=true) (v:Value):assign (.Subscript o i pos) env v=(do
   let ov <- holding [v] (eval o env)
   let iv <- holding [v,ov] (eval i env)
   standAt pos
   holding [v,ov,iv] (setItem ov iv v)
   release [v,ov,iv] []):=by
 cases i <;> first | rfl | cases h
theorem Fu (h:jt i=true) (ov iv new:Value):augStore i ov iv new=(do holding [new,ov,iv] (setItem ov iv new);release [new,ov,iv] [];pure .next):=by
 cases i <;> first | rfl | cases h
theorem sj {l:Nat} (h:lA e=true):swapsWith e t l env=pure false:=by
 cases e <;> first | rfl | cases h
theorem xc {l:Nat}:swapsWith e (some (.Attribute o f p)) l env=pure false:=by
 cases e <;> rfl
noncomputable def HP (nm:List (Str × NameKind)) (t:Str) (tl:Nat) (sc:Scope) (vl:Nat):Bool:=decide (nm.lookup t=some .local) && (tl == vl) && !(sc.names.any fun (n,k)=>n == t && (k == .local || k == .cell))
theorem CM {l:Nat} (hk:env.scope.kind=.function) :
  swapsWith (.ListComp elt gens sc pos) (some (.Name t p)) l env=pure (HP env.scope.names t p.line sc pos.line):=by
 have hb:env.blockKind=.function:=by unfold Env.blockKind;rw [hk];rfl
 show (pure (env.blockKind == .function && env.kindOf t == some .local && p.line == pos.line && !(sc.names.any fun (n,k)=>n == t && (k == .local || k == .cell))):Sem Bool)=_;rw [hb];have:(env.kindOf t == some NameKind.local)=decide (env.scope.names.lookup t=some .local):=by
  show (env.scope.names.lookup t == some NameKind.local)=_;cases h:env.scope.names.lookup t with
  | none=>rfl
  | some k=>cases k <;> rfl
 rw [this];rfl
theorem xg:swappedStores [.Subscript a b p] e env=pure none:=by cases e <;> rfl
theorem xf {k:Nat} (h:xU e=true):swappedStores [.Tuple ts k p] e env=pure none:=by cases e <;> first | rfl | cases h
theorem sZ (h:aT e=true):(assignEach [e] env).map (·.2)=[assign e env]:=by
 cases e <;> first | rfl | cases h
theorem yu (h:aT e=true):(assignEach (e::es) env).map (·.2)=assign e env::(assignEach es env).map (·.2):=by
 cases e <;> first | rfl | cases h
theorem yw:(assignEach es env).length=es.length:=by
 induction es with
 | nil=>rfl
 | cons e es ih=>cases e <;> (show (assignEach es env).length + 1=es.length + 1;rw [ih])
theorem yx (h:es.all aT=true):(assignEach es env).findIdx? (·.1)=none:=by
 have:∀ p ∈ assignEach es env,p.1=false:=by
  induction es with
  | nil=>intro p hp;cases hp
  | cons e es ih =>
   rw [List.all_cons,zC] at h;have e1:assignEach (e::es) env=(false,assign e env)::assignEach es env:=by
    cases e <;> first | rfl | cases h.1
   rw [e1];intro p hp;rcases zT.mp hp with rfl | hp
   ·rfl
   ·exact ih h.2 p hp
 rw [List.findIdx?_eq_none_iff];intro p hp;rw [this p hp]
theorem AQ (h:vA e=true) (whole:Sem Value):isTrue e env whole=(do let v <- whole;standAt e.pos;holding [v] (truthy v)):=by
 cases e with
 | UnaryOp op x p=>cases op <;> first | rfl | cases h
 | BoolOp=>cases h
 | IfExp=>cases h
 | Compare=>cases h
 | _=>rfl
end
end R
namespace R
open PySem PySem.Spec PyProof.Rows L2 DD
section
variable {X:Cx}{a b c d:Expr}{f g h l:EF}{p pos tpos:Pos}{elts:List Expr}{mg:Gm}{P:Pr}{φ:List Addr}{H:Hp}
noncomputable def zd (x y z w:List AV):List AV:=(List.range x.length).map fun i=>.tup [x.getD i .non,y.getD i .non,z.getD i .non,w.getD i .non]
noncomputable def Ct (x y z w:List AV):Bool:=Nat.ble x.length y.length && Nat.ble x.length z.length && Nat.ble x.length w.length
def EU (f g h l:EF):IF:=fun sl st=>(f sl st).bind fun p=>(g sl p.2).bind fun q=>(h sl q.2).bind fun r=>(l sl r.2).bind fun t=>(fF t.2 p.1).bind fun x=>(fF t.2 q.1).bind fun y=>(fF t.2 r.1).bind fun z=>(fF t.2 t.1).bind fun w=>if Ct x.Lx y.Lx z.Lx w.Lx=true then some (⟨zd x.Lx y.Lx z.Lx w.Lx,(x.gd++y.gd)++(z.gd++w.gd)⟩,t.2) else none
theorem Kj [Lw] {σ:St}{Q:List V->Hp->Prop}{sl:Sl}{st:aa} (rs:LG mg P H φ sl σ) (s:Sim mg P φ st H)
  (hh:∃ v st1 u st2 x st3 y st4,f sl st=some (v,st1)/\g sl st1=some (u,st2)/\h sl st2=some (x,st3)/\l sl st3=some (y,st4)/\∀ P1 φ1 H1 w w' w'' w3,Frm P φ H P1 φ1 H1->Sim mg P1 φ1 st4 H1->RA mg P1 H1 φ1 v w->RA mg P1 H1 φ1 u w'->RA mg P1 H1 φ1 x w''->RA mg P1 H1 φ1 y w3->Q [w,w',w'',w3] H1):rA mg (de f (de g (de h (de l dR)))) σ H Q:=by
 obtain ⟨v,st1,u,st2,x,st3,y,st4,e,e',e'',e3,k⟩:=hh;refine ⟨P,φ,sl,st,rs,s,[v,u,x,y],st4,by simp only [de,dR,e,e',e'',e3,bind_some],fun P1 φ1 H1 ws f1 s1 r1=>?_⟩;simp only [Lz] at r1;obtain ⟨w,us,rfl,r,w',us',rfl,r',w'',us'',rfl,r'',w3,us3,rfl,r3,rfl⟩:=r1;exact k P1 φ1 H1 w w' w'' w3 f1 s1 r r' r'' r3
theorem xR [Lw] {st:aa}{p:Addr}{x y z w:AV}{u1 u2 u3 u4:V} (s:Sim mg P φ st H) (hp:H p=none) (r1:RA mg P H φ x u1) (r2:RA mg P H φ y u2) (r3:RA mg P H φ z u3) (r4:RA mg P H φ w u4) :
  ∃ P3,Frm P φ H P3 φ (af H p (.tup [u1,u2,u3,u4]))/\Sim mg P3 φ st (af H p (.tup [u1,u2,u3,u4]))/\RA mg P3 (af H p (.tup [u1,u2,u3,u4])) φ (.tup [x,y,z,w]) (.ref p):=by
 obtain ⟨f3,s3⟩:=kF (o:=.tup [u1,u2,u3,u4]) s hp;refine ⟨_,f3,s3,?_⟩;simp only [RA];exact ⟨p,[u1,u2,u3,u4],rfl,.inr rfl,aq,aI (r1.frm f3) (aI (r2.frm f3) (aI (r3.frm f3) (aI (r4.frm f3) aX)))⟩
theorem Bb [Lw] {x1:Nat} (hg:Gl X "zip") (hm:X.mg "zip"=none) (ha:QE X a f) (hb:QE X b g) (hc:QE X c h) (hd:QE X d l) (hs:starEach [a,b,c,d] X.env=[(false,eval a X.env),(false,eval b X.env),(false,eval c X.env),(false,eval d X.env)]) (hs2:starEach [b,c,d] X.env=[(false,eval b X.env),(false,eval c X.env),(false,eval d X.env)]) (hs3:starEach [c,d] X.env=[(false,eval c X.env),(false,eval d X.env)]) (hs4:starEach [d] X.env=[(false,eval d X.env)]) :
  QI X (.Tuple elts x1 tpos) (.Call (.Name "zip" p) [a,b,c,d] [] pos) (EU f g h l) :=
 gk (Bv hg hm (bZ ha (bZ hb (bZ hc (bZ hd d7 (by rw [hs4];rfl)) (by rw [hs3,hs4])) (by rw [hs2,hs3])) (by rw [hs,hs2])) hs hs2) fun σ H R hq0=>by
  obtain ⟨P,φ,sl,st,rs,s,iv,st',ef,k⟩:=hq0;obtain ⟨q,e1,e2⟩:=zA ef;obtain ⟨r,e3,e4⟩:=zA e2;obtain ⟨t,e5,e6⟩:=zA e4;obtain ⟨m,e7,e8⟩:=zA e6;obtain ⟨x,ex,e9⟩:=zA e8;obtain ⟨y,ey,e10⟩:=zA e9;obtain ⟨z,ez,e11⟩:=zA e10;obtain ⟨w,ew,e12⟩:=zA e11;by_cases hz:Ct x.Lx y.Lx z.Lx w.Lx=true
  ·rw [yI hz] at e12
   cases e12;unfold Ct at hz;rw [zC,zC] at hz;obtain ⟨⟨l2,l3⟩,l4⟩:=hz;have l2:=zS l2;have l3:=zS l3;have l4:=zS l4;refine Kj rs s ⟨q.1,q.2,r.1,r.2,t.1,t.2,m.1,m.2,e1,e3,e5,e7,fun P1 φ1 H1 w1 w2 w3 w4 f1 s1 r1 r2 r3 r4=>?_⟩;obtain ⟨a1,rfl,h1⟩:=fE s1 r1 ex;obtain ⟨a2,rfl,h2⟩:=fE s1 r2 ey;obtain ⟨a3,rfl,h3⟩:=fE s1 r3 ez;obtain ⟨a4,rfl,h4⟩:=fE s1 r4 ew;obtain ⟨v1,d1,_⟩:=h1 P1 φ1 H1 m.2 Frm.refl s1 (fD ex);obtain ⟨v2,d2,_⟩:=h2 P1 φ1 H1 m.2 Frm.refl s1 (fD ey);obtain ⟨v3,d3,_⟩:=h3 P1 φ1 H1 m.2 Frm.refl s1 (fD ez);obtain ⟨v4,d4,_⟩:=h4 P1 φ1 H1 m.2 Frm.refl s1 (fD ew);refine ⟨a1,a2,a3,a4,rfl,⟨⟨v1,d1⟩,⟨v2,d2⟩,⟨v3,d3⟩,⟨v4,d4⟩⟩,k P1 φ1 H1 _ f1 s1 ⟨fun P2 φ2 H2 st2 i u f2 s2 g2 et=>?_,fun P2 φ2 H2 st2 f2 s2 g2=>?_⟩⟩
   ·obtain ⟨g12,g34⟩:=fm g2
    obtain ⟨ga,gb⟩:=fm g12;obtain ⟨gc,gd⟩:=fm g34;obtain ⟨v1,d1,q1⟩:=h1 P2 φ2 H2 st2 f2 s2 ga;obtain ⟨v2,d2,q2⟩:=h2 P2 φ2 H2 st2 f2 s2 gb;obtain ⟨v3,d3,q3⟩:=h3 P2 φ2 H2 st2 f2 s2 gc;obtain ⟨v4,d4,q4⟩:=h4 P2 φ2 H2 st2 f2 s2 gd;have hi:i < x.Lx.length:=by
     have:=(zB.mp et).1
     simpa [zd] using this
    have hu:u=.tup [x.Lx.getD i .non,y.Lx.getD i .non,z.Lx.getD i .non,w.Lx.getD i .non]:=by
     unfold zd at et;rw [zR,List.getElem?_range hi] at et;exact (yE et).symm
    have gt:∀ {L:List AV},i < L.length->L[i]?=some (L.getD i .non):=fun {L} h=>by rw [zD,zF h];rfl
    subst hu;obtain ⟨u1,c1,b1⟩:=q1.get (gt hi);obtain ⟨u2,c2,b2⟩:=q2.get (gt oM);obtain ⟨u3,c3,b3⟩:=q3.get (gt oM);obtain ⟨u4,c4,b4⟩:=q4.get (gt oM);refine ⟨⟨v1,v2,v3,v4,u1,u2,u3,u4,⟨d1,d2,d3,d4⟩,c1,c2,c3,c4⟩,fun v H3 hq0=>?_⟩;obtain ⟨pp,n1,n2,n3,n4,k1,k2,k3,k4,hp,hH,hv⟩:=hq0;have k1:=k1 v1 d1;have k2:=k2 v2 d2;have k3:=k3 v3 d3;have k4:=k4 v4 d4;rw [c1] at k1;rw [c2] at k2;rw [c3] at k3;rw [c4] at k4;cases k1;cases k2;cases k3;cases k4;subst hH;subst hv;exact xR s2 hp b1 b2 b3 b4
   ·obtain ⟨g12,g34⟩:=fm g2
    obtain ⟨ga,gb⟩:=fm g12;obtain ⟨gc,gd⟩:=fm g34;obtain ⟨v1,d1,q1⟩:=h1 P2 φ2 H2 st2 f2 s2 ga;obtain ⟨v2,d2,q2⟩:=h2 P2 φ2 H2 st2 f2 s2 gb;obtain ⟨v3,d3,q3⟩:=h3 P2 φ2 H2 st2 f2 s2 gc;obtain ⟨v4,d4,q4⟩:=h4 P2 φ2 H2 st2 f2 s2 gd;refine ⟨v1,v2,v3,v4,⟨d1,d2,d3,d4⟩,?_⟩;rw [<- q1.length];simp [zd]
  ·rw [yH hz] at e12;cases e12
end
end R
namespace R
open PySem PySem.Spec PyProof.Rows L2
set_option genInjectivity false
set_option genSizeOf false
set_option genSizeOfSpec false
inductive Bi where
 | len | sum | all | any | abs | min | max | int
inductive Mi where
 | app | popA | ext | cnt
mutual
inductive Ex where
 | n | b (x:Bool) | i (x:Int) | s (x:Str) | v (k:Nat) | g (x:Str) (c:AV) | bin (o:Operator) (a b:Ex) | cmp (o:CmpOp) (a b:Ex) | un (o:UnaryOp) (a:Ex) | no (a:Ex) | an (a b:Ex) | or (a b:Ex) | ife (t:Tx) (a b:Ex) | ix (a b:Ex) | tu (es:Exs) | nw (m:Bool) (x:Nx) | ca (p:Bool) (j:Nat) (es:Exs) | me (c m:Str) (j:Nat) (o:Ex) (es:Exs) | ne (c:Str) (j:Nat) (es:Exs) | fd (c f:Str) (o:Ex) | bi (b:Bi) (es:Exs) | is (T:String) (a:Ex) | mt (m:Mi) (o:Ex) (es:Exs) | dn | mnd (a:Ex) | mnk (a key:Ex)
inductive Tx where
 | va (e:Ex) | cmp (o:CmpOp) (a b:Ex) | no (t:Tx) | an (t u:Tx) | or (t u:Tx)
inductive Exs where
 | nil | cons (e:Ex) (es:Exs)
inductive Nx where
 | li (es:Exs) | cat (a b:Ex) | rep (es:Exs) (b:Ex) | sl (a:Ex) (l h:Ox) | lof (a:Ex) | lc (k:Nat) (it:Ix) (t:Tg) (c:Cx') (e:Ex) | lr1 (a:Ex) | lr2 (a b:Ex)
inductive Ox where
 | no | so (e:Ex)
inductive Cx' where
 | no | so (t:Tx)
inductive Ix where
 | e (a:Ex) | r1 (a:Ex) | r2 (a b:Ex) | zi (a b:Ex) | en (a:Ex) | es (a b:Ex) | z4 (a b c d:Ex)
inductive Tg where
 | nm (k:Nat) | tu (n:Nat) (ts:Tgs) | su (a b:Ex)
inductive Tgs where
 | nil | cons (t:Tg) (ts:Tgs)
end
mutual
inductive Sx where
 | ex (e:Ex) | as (e:Ex) (t:Tg) | aus (o:Operator) (a b e:Ex) | fl (c f:Str) (o e:Ex) | rt (e:Ex) | iff (t:Tx) (a b:LB) | fo (it:Ix) (t:Tg) (b:LB) | wh (t:Tx) (b:LB) | dead | fd (a:Ex) (t:Tg) (b:LB)
inductive LB where
 | nil | cons (s:Sx) (ss:LB) | dead
end
def k9:Bi->BF
 | .len=>bC dZ
 | .sum=>bC pV
 | .all=>bC rF
 | .any=>bC uR
 | .abs=>bC mF
 | .min=>bC uf
 | .max=>bC uh
 | .int=>bC ot
def vV:Mi->MF
 | .app=>oi
 | .popA=>mY
 | .ext=>ul
 | .cnt=>ya
noncomputable def qA:Mi->String
 | _=>"list"
def kf (ks:List Fn) (j:Nat):Fn:=ks.getD j fun _ _=>none
def vz (p:Bool) (fn:Fn):Fn:=if p=true then pm fn else fn
section
variable (ks:List Fn)
mutual
noncomputable def ev:Ex->EF
 | .n=>aC .non
 | .b x=>aC (.bl x)
 | .i x=>aC (.int x)
 | .s x=>aC (.str x)
 | .v k=>aV k
 | .g _ c=>aC c
 | .bin o a b=>a2 (ev a) (ev b) (kx (gh o))
 | .cmp o a b=>a2 (ev a) (ev b) (kx (mC o))
 | .un o a=>a1 (ev a) (CQ (se o))
 | .no a=>Az (ev a)
 | .an a b=>AA (ev a) (ev b)
 | .or a b=>Ax (ev a) (ev b)
 | .ife t a b=>IC (tv t) (ev a) (ev b)
 | .ix a b=>a2 (ev a) (ev b) (kx bM)
 | .tu es=>IA (dI es)
 | .nw m x=>Ay m (iS x)
 | .ca p j es=>wK (vz p (kf ks j)) (dI es)
 | .me c m j o es=>wJ c m (kf ks j) (ev o) (dI es)
 | .ne c j es=>wI c (kf ks j) (dI es)
 | .fd c f o=>ID c f (ev o)
 | .bi b es=>rH (k9 b) (dI es)
 | .is T a=>IB T (ev a)
 | .mt m o es=>mh (qA m) (vV m) (ev o) (dI es)
 | .dn=>IE false
 | .mnd a=>rH (bC mX) (de (ev a) dR)
 | .mnk a key=>pH (ev a) (ev key)
noncomputable def tv:Tx->TF
 | .va e=>tV (ev e)
 | .cmp o a b=>CL (ev a) (ev b) o
 | .no a=>HL (tv a)
 | .an a b=>HN (tv a) (tv b)
 | .or a b=>CH (tv a) (tv b)
noncomputable def dI:Exs->AF
 | .nil=>dR
 | .cons e es=>de (ev e) (dI es)
noncomputable def iS:Nx->NF
 | .li es=>Ie (dI es)
 | .cat a b=>ue (ev a) (ev b)
 | .rep es b=>t0 (dI es) (ev b)
 | .sl a l h=>sI (ev a) (qT l) (qT h)
 | .lof a=>og (ev a)
 | .lc k it t c e=>Aa k (fR it) (cB t) (io c) (ev e)
 | .lr1 a=>t9 (ev a)
 | .lr2 a b=>t8 (ev a) (ev b)
noncomputable def qT:Ox->OF
 | .no=>Ic
 | .so e=>sG (ev e)
noncomputable def io:Cx'->TF
 | .no=>HJ
 | .so e=>tv e
noncomputable def fR:Ix->IF
 | .e a=>iE (ev a)
 | .r1 a=>Aj (ev a)
 | .r2 a b=>Ai (ev a) (ev b)
 | .zi a b=>iZ (ev a) (ev b)
 | .en a=>Iq (ev a)
 | .es a b=>uA (ev a) (ev b)
 | .z4 a b c d=>EU (ev a) (ev b) (ev c) (ev d)
noncomputable def cB:Tg->GF
 | .nm k=>wo k
 | .tu n ts=>wn n (je ts)
 | .su a b=>Ir (ev a) (ev b)
noncomputable def je:Tgs->rP
 | .nil=>EY
 | .cons t ts=>E1 (cB t) (je ts)
end
mutual
noncomputable def cL:Sx->SF
 | .ex e=>HY (ev ks e)
 | .as e t=>vk (ev ks e) (cB ks t)
 | .aus o a b e=>tS o (ev ks a) (ev ks b) (ev ks e)
 | .fl c f o e=>vj c f (ev ks o) (ev ks e)
 | .rt e=>HU (ev ks e)
 | .iff t a b=>HW (tv ks t) (ak a) (ak b)
 | .fo it t b=>HX (fR ks it) (cB ks t) (ak b)
 | .wh t b=>pZ (tv ks t) (ak b)
 | .dead=>zp
 | .fd a t b=>tR (ev ks a) (cB ks t) (ak b)
noncomputable def ak:LB->SF
 | .nil=>HV
 | .cons s ss=>HS (cL s) (ak ss)
 | .dead=>zp
end
end
inductive Ke where
 | f (x:Str) (n:Nat) | m (c m:Str) (n:Nat) | k (c:Str) (n:Nat)
structure SC where
 N:List Str
 nm:List (Str × NameKind)
 cf:List Str
 ke:List Ke
 gs:List (Str × AV)
 cl:List (Str × List Str)
 la:List Pos
noncomputable def kd (C:SC) (x:Str):Option NameKind:=C.nm.lookup x
def wX (C:SC) (x:Str):Bool:=match kd C x with
 | some .local=>true
 | some .cell=>true
 | some .free=>true
 | _=>false
def um (C:SC) (x:Str):Bool:=match kd C x with
 | some .local=>true
 | some .cell=>C.cf.contains x
 | _=>false
def eD (C:SC) (x:Str):Bool:=(match kd C x with
 | some .globalImplicit=>true
 | _=>false) && !(x == ("__debug__":Str))
noncomputable def vQ (C:SC) (k:Nat) (x:Str):Bool:=(match C.N[k]? with
 | some y=>y == x
 | none=>false) && !(x == ("__debug__":Str)) && !(x == ("__classdict__":Str))
def EW (C:SC) (x:Str) (c:AV):Bool:=C.gs.any fun p=>p.1 == x && cA p.2 c && (mL c).isSome
noncomputable def As (C:SC) (c f:Str):Bool:=C.cl.any fun p=>p.1 == c && p.2.contains f
noncomputable def qH (C:SC) (j:Nat) (x:Str) (n:Nat):Bool:=match C.ke[j]? with
 | some (.f y m)=>y == x && m == n
 | _=>false
noncomputable def Ik (C:SC) (j:Nat) (c m:Str) (n:Nat):Bool:=match C.ke[j]? with
 | some (.m c' m' k)=>c' == c && m' == m && k == n
 | _=>false
noncomputable def Il (C:SC) (j:Nat) (c:Str) (n:Nat):Bool:=match C.ke[j]? with
 | some (.k c' k)=>c' == c && k == n
 | _=>false
noncomputable def bnames:List Str:=["len","sum","all","any","abs","min","max","int","tuple","range","zip","enumerate","list","isinstance","bool","str","sorted"]
noncomputable def Bi.nm:Bi->Str
 | .len=>"len"
 | .sum=>"sum"
 | .all=>"all"
 | .any=>"any"
 | .abs=>"abs"
 | .min=>"min"
 | .max=>"max"
 | .int=>"int"
noncomputable def Mi.nm:Mi->Str
 | .app=>"append"
 | .popA=>"pop"
 | .ext=>"extend"
 | .cnt=>"count"
noncomputable def HH (T:String) (y:Str):Bool:=(y == ("int":Str) && T == "int") || (y == ("bool":Str) && T == "bool") || (y == ("list":Str) && T == "list") || (y == ("tuple":Str) && T == "tuple") || (y == ("str":Str) && T == "str")
noncomputable def DK (sc:Scope):List Str:=(sc.names.filter fun p=>(match p.2 with | .local=>true | .cell=>true | _=>false) && !(p.1 == (".0":Str))).map (·.1)
noncomputable def we (sc:Scope) (x:Str):Bool:=match sc.names.lookup x with
 | some .free=>true
 | _=>false
def d8 (C:SC) (sc:Scope):List Str:=(C.N.map fun x=>if we sc x=true then x else x++("!":Str))++DK sc
noncomputable def Iu:NameKind->Bool
 | .free=>true
 | _=>false
noncomputable def At:Option NameKind->Bool
 | some .cell=>true
 | _=>false
def blk (C:SC) (sc:Scope):SC:={ C with N:=d8 C sc,nm:=sc.names.map fun p=>if (Iu p.2 && At (kd C p.1))=true then (p.1,.cell) else (p.1,p.2),cf:=(sc.names.filter fun p=>At (some p.2)).map (·.1),la:=[] }
def rp (C:SC) (sc:Scope):Bool :=
 (match sc.kind with | .function=>true | _=>false) && decide (sc.names.map (·.1)).Nodup && decide (d8 C sc).Nodup &&
 (sc.names.all fun p=>match p.2 with | .free=>(match kd C p.1 with | some .cell=>true | some .free=>true | _=>false) | _=>true) &&
 ((List.range C.N.length).all fun i=>match (d8 C sc)[i]? with
  | some x=>(match sc.names.lookup x with
   | some .free=>decide (C.N[i]?=some x)
   | some _=>false
   | none=>true)
  | none=>false)
mutual
noncomputable def nZ (n:Nat):Tg->Bool
 | .nm k=>Nat.ble n k
 | .tu _ ts=>pw n ts
 | .su _ _=>false
noncomputable def pw (n:Nat):Tgs->Bool
 | .nil=>true
 | .cons t ts=>nZ n t && pw n ts
end
def EG (C:SC) (sc:Scope):SC:={ C with N:=d8 C sc,nm:=sc.names,cf:=[],ke:=[],la:=[] }
noncomputable def Kn (C:SC) (p:Pos):Bool:=C.la.any fun q=>q.line == p.line && q.col == p.col && q.endLine == p.endLine && q.endCol == p.endCol
def yh (C:SC) (sc:Scope) (ps:Arguments):Bool:=rp C sc && !sc.isCoroutine && !sc.isGenerator && plainA ps && ps.defaults.isEmpty && ps.kw_defaults.isEmpty &&
 (match DK sc,ps.args.map (·.arg) with
  | [x],[y]=>x == y && (match sc.names.lookup x with | some .local=>true | _=>false)
  | _,_=>false) && sc.names.all fun p=>!(At (some p.2))
noncomputable def lx:Ex->Bool
 | .v _=>true
 | .i _=>true
 | .ix a b=>lx a && lx b
 | .fd _ _ o=>lx o
 | _=>false
theorem aL {P:Prop} (h:false=true):P:=nomatch h
theorem bw {a b:Bool}{P:Prop} (h:(a && b)=true) (H:a=true->b=true->P):P:=by cases a;exact aL h;exact H rfl h
section
variable {e:Expr}{s:Stmt}
noncomputable def mT (e:Expr) (k:Str->Bool):Bool:=match e with | .Name x _=>k x | _=>false
@[elab_as_elim] theorem gz {k:Str->Bool}{P:Expr->Prop} (h:mT e k=true) (H:∀ x p,k x=true->P (.Name x p)):P e:=by cases e with | Name x p=>exact H x p h | _=>exact aL h
noncomputable def qp (e:Expr) (k:Const->Bool):Bool:=match e with | .Constant c _ _=>k c | _=>false
@[elab_as_elim] theorem jr {k:Const->Bool}{P:Expr->Prop} (h:qp e k=true) (H:∀ c a p,k c=true->P (.Constant c a p)):P e:=by cases e with | Constant c a p=>exact H c a p h | _=>exact aL h
noncomputable def kN (c:Const):Bool:=match c with | .none=>true | _=>false
noncomputable def kB (x:Bool) (c:Const):Bool:=match c with | .bool y=>x == y | _=>false
noncomputable def kI (x:Int) (c:Const):Bool:=match c with | .int y=>x == y | _=>false
noncomputable def kS (x:Str) (c:Const):Bool:=match c with | .str y=>x == y | _=>false
theorem ux {c:Const} (h:kN c=true):c=.none:=by cases c with | none=>rfl | _=>exact aL h
theorem GO {x:Bool}{c:Const} (h:kB x c=true):c=.bool x:=by cases c with | bool y=>rw [yK h] | _=>exact aL h
theorem GN {x:Int}{c:Const} (h:kI x c=true):c=.int x:=by cases c with | int y=>rw [yK h] | _=>exact aL h
theorem GM {x:Str}{c:Const} (h:kS x c=true):c=.str x:=by cases c with | str y=>rw [yK h] | _=>exact aL h
noncomputable def zx (e:Expr) (k:Expr->Operator->Expr->Bool):Bool:=match e with | .BinOp a o b _=>k a o b | _=>false
@[elab_as_elim] theorem qr {k:Expr->Operator->Expr->Bool}{P:Expr->Prop} (h:zx e k=true) (H:∀ a o b p,k a o b=true->P (.BinOp a o b p)):P e:=by cases e with | BinOp a o b p=>exact H a o b p h | _=>exact aL h
noncomputable def dN {α:Type} (l:List α) (k:α->Bool):Bool:=match l with | []=>false | a::r=>r.isEmpty && k a
@[elab_as_elim] theorem bO {α:Type}{l:List α}{k:α->Bool}{P:List α->Prop} (h:dN l k=true) (H:∀ a,k a=true->P ([a])):P l:=by
 rcases l with _ | ⟨a,_ | ⟨b,r⟩⟩
 ·exact aL h
 ·exact H a h
 ·exact aL h
def ms {α:Type} (l:List α) (k:α->α->Bool):Bool:=match l with | []=>false | a::r=>dN r (k a)
@[elab_as_elim] theorem ib {α:Type}{l:List α}{k:α->α->Bool}{P:List α->Prop} (h:ms l k=true) (H:∀ a b,k a b=true->P ([a,b])):P l:=by
 cases l with
 | nil=>exact aL h
 | cons a r=>exact bO h fun b h=>H a b h
def DU (e:Expr) (k:Expr->CmpOp->Expr->Bool):Bool:=match e with | .Compare a os bs _=>dN os fun o=>dN bs fun b=>k a o b | _=>false
@[elab_as_elim] theorem vI {k:Expr->CmpOp->Expr->Bool}{P:Expr->Prop} (h:DU e k=true) (H:∀ a o b p,k a o b=true->P (.Compare a [o] [b] p)):P e:=by
 cases e with
 | Compare a os bs p=>refine bO h fun o h=>?_;refine bO h fun b h=>?_;exact H a o b p h
 | _=>exact aL h
def DX {α:Type} (l:List α) (k:α->α->α->Bool):Bool:=match l with | []=>false | a::r=>ms r (k a)
@[elab_as_elim] theorem BP {α:Type}{l:List α}{k:α->α->α->Bool}{P:List α->Prop} (h:DX l k=true) (H:∀ a b c,k a b c=true->P [a,b,c]):P l:=by
 cases l with
 | nil=>exact aL h
 | cons a r=>exact ib h fun b c h=>H a b c h
def DW {α:Type} (l:List α) (k:α->α->α->α->Bool):Bool:=match l with | []=>false | a::r=>DX r (k a)
@[elab_as_elim] theorem BO {α:Type}{l:List α}{k:α->α->α->α->Bool}{P:List α->Prop} (h:DW l k=true) (H:∀ a b c d,k a b c d=true->P [a,b,c,d]):P l:=by
 cases l with
 | nil=>cases h
 | cons a r=>exact BP h fun b c d h=>H a b c d h
noncomputable def zw (e:Expr) (k:UnaryOp->Expr->Bool):Bool:=match e with | .UnaryOp o a _=>k o a | _=>false
@[elab_as_elim] theorem qh {k:UnaryOp->Expr->Bool}{P:Expr->Prop} (h:zw e k=true) (H:∀ o a p,k o a=true->P (.UnaryOp o a p)):P e:=by cases e with | UnaryOp o a p=>exact H o a p h | _=>exact aL h
noncomputable def sy (o:BoolOp) (e:Expr) (k:Expr->Expr->Bool):Bool:=match e with | .BoolOp o' es p=>decide (o=o') && (match es with | x::y::r=>k x (if r.isEmpty=true then y else .BoolOp o (y::r) p) | _=>false) | _=>false
noncomputable def qj (e:Expr) (k:List Expr->Bool):Bool:=match e with | .Tuple es _ _=>k es | _=>false
@[elab_as_elim] theorem jq {k:List Expr->Bool}{P:Expr->Prop} (h:qj e k=true) (H:∀ es a p,k es=true->P (.Tuple es a p)):P e:=by cases e with | Tuple es a p=>exact H es a p h | _=>exact aL h
noncomputable def xM (e:Expr) (k:List Expr->Bool):Bool:=match e with | .List es _=>k es | _=>false
@[elab_as_elim] theorem sB {k:List Expr->Bool}{P:Expr->Prop} (h:xM e k=true) (H:∀ es p,k es=true->P (.List es p)):P e:=by cases e with | List es p=>exact H es p h | _=>exact aL h
noncomputable def vH (e:Expr) (k:Expr->Expr->Bool):Bool:=match e with | .Subscript a b _=>k a b | _=>false
@[elab_as_elim] theorem mR {k:Expr->Expr->Bool}{P:Expr->Prop} (h:vH e k=true) (H:∀ a b p,k a b=true->P (.Subscript a b p)):P e:=by cases e with | Subscript a b p=>exact H a b p h | _=>exact aL h
noncomputable def H0 (e:Expr) (k:Option Expr->Option Expr->Option Expr->Bool):Bool:=match e with | .Slice a b c _=>k a b c | _=>false
@[elab_as_elim] theorem DS {k:Option Expr->Option Expr->Option Expr->Bool}{P:Expr->Prop} (h:H0 e k=true) (H:∀ a b c p,k a b c=true->P (.Slice a b c p)):P e:=by cases e with | Slice a b c p=>exact H a b c p h | _=>exact aL h
noncomputable def sD (e:Expr) (k:Expr->List Expr->List Keyword->Pos->Bool):Bool:=match e with | .Call f es ks p=>k f es ks p | _=>false
@[elab_as_elim] theorem kE {k:Expr->List Expr->List Keyword->Pos->Bool}{P:Expr->Prop} (h:sD e k=true) (H:∀ f es ks p,k f es ks p=true->P (.Call f es ks p)):P e:=by cases e with | Call f es ks p=>exact H f es ks p h | _=>exact aL h
noncomputable def zy (e:Expr) (k:Expr->Str->Pos->Bool):Bool:=match e with | .Attribute o f p=>k o f p | _=>false
@[elab_as_elim] theorem qt {k:Expr->Str->Pos->Bool}{P:Expr->Prop} (h:zy e k=true) (H:∀ o f p,k o f p=true->P (.Attribute o f p)):P e:=by cases e with | Attribute o f p=>exact H o f p h | _=>exact aL h
def il (e:Expr) (k:Str->List Expr->Bool):Bool:=sD e fun f es ks _=>mT f fun x=>ks.isEmpty && k x es
@[elab_as_elim] theorem c6 {k:Str->List Expr->Bool}{P:Expr->Prop} (h:il e k=true) (H:∀ x p es q,k x es=true->P (.Call (.Name x p) es [] q)):P e:=by
 refine kE h fun f es ks q h=>?_
 refine gz h fun x p h=>?_
 cases ks with
 | nil=>exact H x p es q h
 | cons _ _=>exact aL h
def xO (e:Expr) (k:Expr->Str->Pos->List Expr->Pos->Bool):Bool:=sD e fun f es ks p=>zy f fun o m ap=>ks.isEmpty && k o m ap es p
@[elab_as_elim] theorem sE {k:Expr->Str->Pos->List Expr->Pos->Bool}{P:Expr->Prop} (h:xO e k=true) (H:∀ o m ap es p,k o m ap es p=true->P (.Call (.Attribute o m ap) es [] p)):P e:=by
 refine kE h fun f es ks q h=>?_
 refine qt h fun o m p h=>?_
 cases ks with
 | nil=>exact H o m p es q h
 | cons _ _=>exact aL h
def DR (e:Expr) (k:Expr->Option Expr->Option Expr->Bool):Bool:=vH e fun a b=>H0 b fun l h c=>c.isNone && k a l h
@[elab_as_elim] theorem BL {k:Expr->Option Expr->Option Expr->Bool}{P:Expr->Prop} (h:DR e k=true) (H:∀ a l r p q,k a l r=true->P (.Subscript a (.Slice l r none p) q)):P e:=by
 refine mR h fun a b q h=>?_
 refine DS h fun l r c p h=>?_
 cases c with
 | none=>exact H a l r p q h
 | some _=>exact aL h
noncomputable def qo (w:Keyword) (k:Str->Expr->Bool):Bool:=match w with | ⟨some y,v,_⟩=>k y v | ⟨none,_,_⟩=>false
@[elab_as_elim] theorem lz {w:Keyword}{k:Str->Expr->Bool}{P:Keyword->Prop} (h:qo w k=true) (H:∀ y v p,k y v=true->P (⟨some y,v,p⟩)):P w:=by
 obtain ⟨o,v,p⟩:=w;cases o with
 | some y=>exact H y v p h
 | none=>exact aL h
noncomputable def DY (e:Expr) (k:Expr->Expr->Expr->Bool):Bool:=match e with | .IfExp a b c _=>k a b c | _=>false
@[elab_as_elim] theorem BQ {k:Expr->Expr->Expr->Bool}{P:Expr->Prop} (h:DY e k=true) (H:∀ a b c p,k a b c=true->P (.IfExp a b c p)):P e:=by cases e with | IfExp a b c p=>exact H a b c p h | _=>exact aL h
noncomputable def EN (e:Expr):Bool:=match e with | .Dict a b _=>a.isEmpty && b.isEmpty | _=>false
theorem Cb (h:EN e=true):∃ p,e=.Dict [] [] p:=by
 cases e with
 | Dict a b p =>
  cases a with
  | nil=>cases b with
   | nil=>exact ⟨p,rfl⟩
   | cons _ _=>exact aL h
  | cons _ _=>exact aL h
 | _=>exact aL h
noncomputable def DV (e:Expr) (k:Arguments->Expr->Scope->Pos->Bool):Bool:=match e with | .Lambda a b s p=>k a b s p | _=>false
@[elab_as_elim] theorem BN {k:Arguments->Expr->Scope->Pos->Bool}{P:Expr->Prop} (h:DV e k=true) (H:∀ a b s p,k a b s p=true->P (.Lambda a b s p)):P e:=by cases e with | Lambda a b s p=>exact H a b s p h | _=>exact aL h
def Ib (e:Expr) (k:Expr->Expr->Expr->List Expr->Scope->Bool):Bool:=match e with | .ListComp a gs sc _=>dN gs (fun g=>decide (g.is_async=0) && k a g.target g.iter g.ifs sc) | _=>false
@[elab_as_elim] theorem D0 {k:Expr->Expr->Expr->List Expr->Scope->Bool}{P:Expr->Prop} (h:Ib e k=true) (H:∀ a t it cs sc p,k a t it cs sc=true->P (.ListComp a [⟨t,it,cs,0⟩] sc p)):P e:=by
 cases e with
 | ListComp a gs sc p =>
  refine bO h fun g h=>?_
  obtain ⟨t,it,cs,i⟩:=g;refine bw h fun h1 h=>?_
  cases of_decide_eq_true h1;exact H a t it cs sc p h
 | _=>exact aL h
theorem iC {a b c:Bool}{P:Prop} (h:(a && b && c)=true) (H:a=true->b=true->c=true->P):P:=bw h fun x y=>bw x fun h0 h1=>H h0 h1 y
theorem fx {a b c d:Bool}{P:Prop} (h:(a && b && c && d)=true) (H:a=true->b=true->c=true->d=true->P):P:=bw h fun x y=>iC x fun h0 h1 h2=>H h0 h1 h2 y
theorem iB {a b c d e:Bool}{P:Prop} (h:(a && b && c && d && e)=true) (H:a=true->b=true->c=true->d=true->e=true->P):P:=bw h fun x y=>fx x fun h0 h1 h2 h3=>H h0 h1 h2 h3 y
end
mutual
noncomputable def aU:Ex->SC->Expr->Bool
 | .n,_,e=>qp e kN
 | .b x,_,e=>qp e (kB x)
 | .i x,_,e=>qp e (kI x)
 | .s x,_,e=>qp e (kS x)
 | .v k,C,e=>mT e fun x=>vQ C k x && wX C x
 | .g x c,C,e=>mT e fun y=>x == y && eD C x && EW C x c
 | .bin o a b,C,e=>zx e fun a' o' b'=>decide (o=o') && aU a C a' && aU b C b'
 | .cmp o a b,C,e=>DU e fun a' o' b'=>decide (o=o') && aU a C a' && aU b C b' && lB o b'
 | .un o a,C,e=>zw e fun o' a'=>decide (o=o') && aU a C a'
 | .no a,C,e=>zw e fun o' a'=>decide (UnaryOp.Not=o') && aU a C a'
 | .an a b,C,e=>sy .And e fun x y=>aU a C x && aU b C y
 | .or a b,C,e=>sy .Or e fun x y=>aU a C x && aU b C y
 | .ife t a b,C,e=>DY e fun t' a' b'=>kG t C t' && aU a C a' && aU b C b'
 | .ix a b,C,e=>vH e fun a' b'=>aU a C a' && aU b C b' && jt b'
 | .tu es,C,e=>qj e fun es'=>jY es C es'
 | .nw _ x,C,e=>Ac x C e
 | .ca _ j es,C,e=>il e fun x es'=>qH C j x es'.length && eD C x && jY es C es' && es'.all aT
 | .me c m j o es,C,e=>xO e fun o' m' ap es' p=>m == m' && Ik C j c m (es'.length + 1) && aU o C o' && jY es C es' && (es'.all aT && Nat.blt es'.length 30 && mw o' && (ap.endLine == p.line))
 | .ne c j es,C,e=>il e fun x es'=>c == x && Il C j c (es'.length + 1) && eD C c && jY es C es' && (es'.all aT && !es'.isEmpty)
 | .fd c f o,C,e=>zy e fun o' f' _=>f == f' && As C c f && aU o C o' && mw o'
 | .bi b es,C,e=>il e fun x es'=>x == b.nm && eD C x && jY es C es' && es'.all aT && !es'.isEmpty
 | .is T a,C,e=>il e fun x es'=>ms es' fun e1 e2=>mT e2 fun y=>x == ("isinstance":Str) && eD C x && (eD C y && HH T y) && aU a C e1 && aT e1
 | .mt m o es,C,e=>xO e fun o' m' ap es' p=>m.nm == m' && aU o C o' && jY es C es' && (es'.all aT && Nat.blt es'.length 30 && mw o' && (ap.endLine == p.line))
 | .dn,_,e=>EN e
 | .mnd a,C,e=>sD e fun f es ks _=>mT f fun x=>dN es fun a'=>dN ks fun w=>qo w fun y d=>qp d fun c=>kN c && (x == ("min":Str) && y == ("default":Str) && eD C x && aU a C a' && aT a')
 | .mnk a key,C,e=>sD e fun f es ks _=>mT f fun x=>dN es fun a'=>ms ks fun w u=>qo w fun y l=>qo u fun z d=>DV l fun ps body sc lp=>qp d fun c=>kN c && (x == ("min":Str) && y == ("key":Str) && z == ("default":Str) && eD C x && aU a C a') && (aT a' && Kn C lp && yh C sc ps && lx key && aU key (EG C sc) body)
noncomputable def kG:Tx->SC->Expr->Bool
 | .va a,C,e=>vA e && aU a C e
 | .cmp o a b,C,e=>DU e fun a' o' b'=>decide (o=o') && aU a C a' && aU b C b' && lB o b'
 | .no a,C,e=>zw e fun o' a'=>decide (UnaryOp.Not=o') && kG a C a'
 | .an a b,C,e=>sy .And e fun x y=>kG a C x && kG b C y
 | .or a b,C,e=>sy .Or e fun x y=>kG a C x && kG b C y
noncomputable def jY:Exs->SC->List Expr->Bool
 | .nil,_,es=>es.isEmpty
 | .cons a as,C,es=>match es with
  | e::es=>aT e && aU a C e && jY as C es
  | _=>false
noncomputable def Ac:Nx->SC->Expr->Bool
 | .li es,C,e=>xM e fun es'=>jY es C es'
 | .cat a b,C,e=>zx e fun a' o' b'=>decide (Operator.Add=o') && aU a C a' && aU b C b'
 | .rep es b,C,e=>zx e fun a' o' b'=>decide (Operator.Mult=o') && xM a' fun es'=>jY es C es' && aU b C b'
 | .sl a l h,C,e=>DR e fun a' l' h'=>aU a C a' && Ab l C l' && Ab h C h'
 | .lof a,C,e=>il e fun x es=>dN es fun a'=>x == ("list":Str) && eD C x && aU a C a' && aT a'
 | .lc k it t c a,C,e=>Ib e fun a' t' it' cs sc=>En it C t' it' && tZ it' && rp C sc && (k == (d8 C sc).length - C.N.length) && (nZ C.N.length t && sK t (blk C sc) t' && Ih c (blk C sc) cs && aU a (blk C sc) a')
 | .lr1 a,C,e=>il e fun x es=>dN es fun d=>il d fun y es=>dN es fun a'=>(x == ("list":Str) && y == ("range":Str)) && eD C x && eD C y && aU a C a' && aT a'
 | .lr2 a b,C,e=>il e fun x es=>dN es fun d=>il d fun y es=>ms es fun a' b'=>(x == ("list":Str) && y == ("range":Str)) && (eD C x && eD C y) && aU a C a' && aU b C b' && (aT a' && aT b')
noncomputable def Ab:Ox->SC->Option Expr->Bool
 | .no,_,e=>e.isNone
 | .so a,C,e=>match e with
  | some e=>aU a C e
  | none=>false
noncomputable def Ih:Cx'->SC->List Expr->Bool
 | .no,_,e=>e.isEmpty
 | .so t,C,e=>dN e fun e=>kG t C e
noncomputable def En:Ix->SC->Expr->Expr->Bool
 | .e a,C,_,e=>aU a C e
 | .r1 a,C,_,e=>il e fun x es=>dN es fun a'=>x == ("range":Str) && eD C x && aU a C a' && aT a'
 | .r2 a b,C,_,e=>il e fun x es=>ms es fun a' b'=>x == ("range":Str) && eD C x && aU a C a' && aU b C b' && (aT a' && aT b')
 | .zi a b,C,t,e=>qj t fun _=>il e fun x es=>ms es fun a' b'=>x == ("zip":Str) && eD C x && aU a C a' && aU b C b' && (aT a' && aT b')
 | .en a,C,t,e=>qj t fun _=>il e fun x es=>dN es fun a'=>x == ("enumerate":Str) && eD C x && aU a C a' && aT a'
 | .es a b,C,t,e=>qj t fun _=>sD e fun f es ks _=>mT f fun x=>dN es fun a'=>dN ks fun w=>qo w fun y b'=>(x == ("enumerate":Str) && y == ("start":Str)) && eD C x && aU a C a' && aU b C b' && aT a'
 | .z4 a b c d,C,t,e=>qj t fun _=>il e fun x es=>DW es fun a' b' c' d'=>x == ("zip":Str) && eD C x && (aU a C a' && aU b C b' && aU c C c' && aU d C d') && (aT a' && aT b' && aT c' && aT d')
noncomputable def sK:Tg->SC->Expr->Bool
 | .nm k,C,e=>mT e fun x=>vQ C k x && um C x
 | .tu n ts,C,e=>qj e fun es=>(es.length == n) && es.all aT && xW ts C es
 | .su a b,C,e=>vH e fun a' b'=>aU a C a' && aU b C b' && jt b'
noncomputable def xW:Tgs->SC->List Expr->Bool
 | .nil,_,es=>es.isEmpty
 | .cons t ts,C,es=>match es with
  | e::es=>aT e && sK t C e && xW ts C es
  | _=>false
end
theorem qk {o:BoolOp}{e:Expr}{k:Expr->Expr->Bool}{Q:Prop} (h:sy o e k=true) (H1:∀ x y p,e=.BoolOp o [x,y] p->k x y=true->Q) (H2:∀ x y z r p,e=.BoolOp o (x::y::z::r) p->k x (.BoolOp o (y::z::r) p)=true->Q):Q:=by
 cases e with
 | BoolOp o' es p =>
  refine bw h fun h1 h2=>?_
  clear h;cases of_decide_eq_true h1;rcases es with _ | ⟨x,_ | ⟨y,_ | ⟨z,r⟩⟩⟩
  ·exact aL h2
  ·exact aL h2
  ·exact H1 x y p rfl h2
  ·exact H2 x y z r p rfl h2
 | _=>exact aL h
@[elab_as_elim] theorem mS {o:BoolOp}{e:Expr}{k:Expr->Expr->Bool}{P:Expr->Prop} (h:sy o e k=true) (H1:∀ x y p,k x y=true->P (.BoolOp o [x,y] p)) (H2:∀ x y z r p,k x (.BoolOp o (y::z::r) p)=true->P (.BoolOp o (x::y::z::r) p)):P e :=
 qk h (fun x y p e h=>e ▸ H1 x y p h) fun x y z r p e h=>e ▸ H2 x y z r p h
section
variable {s:Stmt}
def xP (s:Stmt) (k:Expr->Expr->Bool):Bool:=match s with | .Assign ts e _=>dN ts fun t=>k t e | _=>false
@[elab_as_elim] theorem sF {k:Expr->Expr->Bool}{P:Stmt->Prop} (h:xP s k=true) (H:∀ t e p,k t e=true->P (.Assign [t] e p)):P s:=by
 cases s with
 | Assign ts e p=>exact bO h fun t h=>H t e p h
 | _=>exact aL h
noncomputable def Eb (s:Stmt) (k:Expr->Operator->Expr->Bool):Bool:=match s with | .AugAssign t o e _=>k t o e | _=>false
@[elab_as_elim] theorem BS {k:Expr->Operator->Expr->Bool}{P:Stmt->Prop} (h:Eb s k=true) (H:∀ t o e p,k t o e=true->P (.AugAssign t o e p)):P s:=by cases s with | AugAssign t o e p=>exact H t o e p h | _=>exact aL h
noncomputable def xN (s:Stmt) (k:Expr->Expr->List Stmt->Bool):Bool:=match s with | .For t it b r _=>r.isEmpty && k t it b | _=>false
@[elab_as_elim] theorem sC {k:Expr->Expr->List Stmt->Bool}{P:Stmt->Prop} (h:xN s k=true) (H:∀ t it b p,k t it b=true->P (.For t it b [] p)):P s:=by
 cases s with
 | For t it b r p=>cases r with
  | nil=>exact H t it b p h
  | cons _ _=>exact aL h
 | _=>exact aL h
noncomputable def DQ (s:Stmt) (k:Expr->List Stmt->Bool):Bool:=match s with | .While t b r _=>r.isEmpty && k t b | _=>false
@[elab_as_elim] theorem BK {k:Expr->List Stmt->Bool}{P:Stmt->Prop} (h:DQ s k=true) (H:∀ t b p,k t b=true->P (.While t b [] p)):P s:=by
 cases s with
 | While t b r p=>cases r with
  | nil=>exact H t b p h
  | cons _ _=>exact aL h
 | _=>exact aL h
noncomputable def Ia (s:Stmt) (k:Expr->List Stmt->List Stmt->Bool):Bool:=match s with | .If t a b _=>k t a b | _=>false
@[elab_as_elim] theorem DZ {k:Expr->List Stmt->List Stmt->Bool}{P:Stmt->Prop} (h:Ia s k=true) (H:∀ t a b p,k t a b=true->P (.If t a b p)):P s:=by cases s with | If t a b p=>exact H t a b p h | _=>exact aL h
noncomputable def Ea (s:Stmt) (k:Expr->Bool):Bool:=match s with | .Expr e _=>k e | _=>false
@[elab_as_elim] theorem BR {k:Expr->Bool}{P:Stmt->Prop} (h:Ea s k=true) (H:∀ e p,k e=true->P (.Expr e p)):P s:=by cases s with | Expr e p=>exact H e p h | _=>exact aL h
noncomputable def DT (s:Stmt) (k:Option Expr->Bool):Bool:=match s with | .Return e _=>k e | _=>false
@[elab_as_elim] theorem BM {k:Option Expr->Bool}{P:Stmt->Prop} (h:DT s k=true) (H:∀ e p,k e=true->P (.Return e p)):P s:=by cases s with | Return e p=>exact H e p h | _=>exact aL h
end
noncomputable def yk (e:Expr):Bool:=match e with | .ListComp _ _ _ _=>true | _=>false
@[elab_as_elim] theorem B9 {e:Expr}{P:Expr->Prop} (h:yk e=true) (H:∀ a g s p,P (.ListComp a g s p)):P e:=by cases e with | ListComp a g s p=>exact H a g s p | _=>exact aL h
def Iz (t e:Expr):Bool:=match t with | .Name _ _=>lA e || yk e | .Subscript _ _ _=>true | .Tuple _ _ _=>xU e && lA e | _=>false
@[elab_as_elim] theorem Fv {t e:Expr}{P:Expr->Prop} (h:Iz t e=true) (H1:(lA e || yk e)=true->∀ x p,P (.Name x p)) (H2:∀ a b p,P (.Subscript a b p)) (H3:(xU e && lA e)=true->∀ es k p,P (.Tuple es k p)):P t:=by
 cases t with
 | Name x p=>exact H1 h x p
 | Subscript a b p=>exact H2 a b p
 | Tuple es k p=>exact H3 h es k p
 | _=>exact aL h
@[elab_as_elim] theorem Km {a:Ex}{C:SC}{elt:Expr}{g:List Comprehension}{sc:Scope}{p:Pos}{P:Ex->Prop} (h:aU a C (.ListComp elt g sc p)=true) (H:∀ m k it t c b,Ac (.lc k it t c b) C (.ListComp elt g sc p)=true->P (.nw m (.lc k it t c b))):P a:=by
 cases a with
 | nw m n=>cases n with
  | lc k it t c b=>exact H m k it t c b h
  | _=>exact aL h
 | _=>exact aL h
mutual
noncomputable def Ig:Sx->SC->Stmt->Bool
 | .ex a,C,s=>Ea s fun e=>aU a C e && lA e
 | .as a t,C,s=>xP s fun t' e=>aU a C e && sK t C t' && Iz t' e
 | .aus o a b c,C,s=>Eb s fun t o' e=>vH t fun a' b'=>decide (o=o') && aU a C a' && aU b C b' && aU c C e && jt b'
 | .fl c f o a,C,s=>xP s fun t e=>zy t fun o' f' _=>f == f' && As C c f && aU o C o' && aU a C e
 | .rt a,C,s=>DT s fun e=>Ab (.so a) C e
 | .iff t a b,C,s=>Ia s fun e x y=>kG t C e && kH a C x && kH b C y
 | .fo it t b,C,s=>xN s fun t' it' x=>En it C t' it' && tZ it' && sK t C t' && kH b C x
 | .wh t b,C,s=>DQ s fun e x=>kG t C e && kH b C x
 | .dead,_,_=>true
 | .fd a t b,C,s=>xN s fun t' it' x=>aU a C it' && tZ it' && sK t C t' && kH b C x
noncomputable def kH:LB->SC->List Stmt->Bool
 | .nil,_,s=>s.isEmpty
 | .cons a as,C,s=>match s with
  | s::ss=>Ig a C s && kH as C ss
  | _=>false
 | .dead,_,_=>true
end
def FF [Lw] (P:Program) (w:World) (K:Frag) (mg:Str->Option Value) (base:Heap) (A:Around) (fn:Fn):Ke->Prop
 | .f x n=>∃ d f fd ps,ps.length=n/\FnOk P w K mg base eE d f fd ps (dz ⟨K,mg⟩ ps.length fn)/\Room d A/\mg x=some (.ref f)/\keepIn K (.ref f)=true/\Binds K fd ps []
 | .m c m n=>∃ d f fd ps C,ps.length=n/\FnOk P w K mg base eE d f fd ps (dz ⟨K,mg⟩ ps.length fn)/\Room d A/\mg c=some (.ref C)/\Cls K C/\jT K C m f/\Binds K fd ps []
 | .k c n=>∃ d f fd ps C,ps.length=n/\FnOk P w K mg base eE d f fd ps (dz ⟨K,mg⟩ ps.length fn)/\Room (d + 1) A/\mg c=some (.ref C)/\Mk K C f/\Binds K fd ps []
structure Fit [Lw] (X:Cx) (C:SC) (ks:List Fn):Prop where
 N:X.N=C.N
 nm:X.env.scope.names=C.nm
 nd:C.N.Nodup
 kind:X.env.scope.kind=.function
 calm:X.calm=true
 cf:∀ x ∈ C.cf,X.fn x=true
 hu:X.A.units + 64 < cLine
 bl:∀ x ∈ bnames,X.mg x=none
 po:PassesOwn (model X.prog X.w) X.A X.env X.xe
 ke:∀ (j:Nat) k,C.ke[j]?=some k->FF X.prog X.w X.K X.mg X.base X.A (kf ks j) k
 gs:∀ p ∈ C.gs,∀ w,mL p.2=some w->∃ u,X.mg p.1=some u/\RelV w u
 cl:∀ p ∈ C.cl,∃ Ca,X.mg p.1=some (.ref Ca)/\Cls X.K Ca/\∀ f ∈ p.2,NoAttr X.K Ca f
 la:∀ p ∈ C.la,Room 2 X.A/\∃ c P,X.env.code=.ref c/\CodeHd X.base c P/\iK X.mg X.base/\(P,p,X.env.qual++"<lambda>") ∈ Lw.tb/\∀ t ∈ Lw.tb,t.1=P->t=(P,p,X.env.qual++"<lambda>")
section
variable {X:Cx}{C:SC}{ks:List Fn}
theorem Fit.kdO [Lw] (F:Fit X C ks) (x:Str):X.env.kindOf x=kd C x:=by unfold kd;rw [<- F.nm];rfl
theorem Fit.vis [Lw] (F:Fit X C ks) (h:wX C x=true):wL X.env.scope x:=by
 unfold wX kd at h;rw [<- F.nm] at h;unfold wL;split at h
 ·rename_i e;exact .inl e
 ·rename_i e;exact .inr (.inl e)
 ·rename_i e;exact .inr (.inr e)
 ·cases h
theorem Fit.loc [Lw] (F:Fit X C ks) (h:um C x=true):L2.Loc X.env.scope x/\(X.fn x=true\/X.env.scope.names.lookup x=some .local):=by
 unfold um kd at h;rw [<- F.nm] at h;unfold L2.Loc;split at h
 ·rename_i e;exact ⟨.inl e,.inr e⟩
 ·rename_i e;exact ⟨.inr e,.inl (F.cf x (by simpa using h))⟩
 ·cases h
theorem Fit.gl [Lw] (F:Fit X C ks) (h:eD C x=true):Gl X x/\(x == ("__debug__":Str))=false:=by
 unfold eD at h;obtain ⟨h1,h2⟩:=Bool.and_eq_true_iff.mp h;refine ⟨?_,by simpa using h2⟩;unfold Gl;rw [F.kdO];split at h1
 ·rename_i e;exact e
 ·cases h1
theorem Fit.nmb [Lw] (F:Fit X C ks) {k:Nat} (h:vQ C k x=true):X.N[k]?=some x/\(x == ("__debug__":Str))=false/\(x == ("__classdict__":Str))=false:=by
 unfold vQ at h;obtain ⟨h12,h3⟩:=Bool.and_eq_true_iff.mp h;obtain ⟨h1,h2⟩:=Bool.and_eq_true_iff.mp h12;refine ⟨?_,by simpa using h2,by simpa using h3⟩;rw [F.N];split at h1
 ·rename_i y e;rw [e,yK h1]
 ·cases h1
theorem Fit.gc [Lw] (F:Fit X C ks) (h:EW C x c=true):∃ w u,mL c=some w/\X.mg x=some u/\RelV w u:=by
 unfold EW at h;obtain ⟨p,hp,e⟩:=List.any_eq_true.mp h;simp only [zC] at e;obtain ⟨⟨e1,e2⟩,e3⟩:=e;obtain ⟨w,hw⟩:=Option.isSome_iff_exists.mp e3;have e4:=lJ e2;obtain ⟨u,h1,h2⟩:=F.gs p hp w (by rw [e4];exact hw);exact ⟨w,u,hw,by rw [<- yK e1];exact h1,h2⟩
theorem Fit.clb [Lw] (F:Fit X C ks) (h:As C c f=true):∃ Ca,X.mg c=some (.ref Ca)/\Cls X.K Ca/\NoAttr X.K Ca f:=by
 unfold As at h;obtain ⟨p,hp,e⟩:=List.any_eq_true.mp h;simp only [zC] at e;obtain ⟨Ca,h1,h2,h3⟩:=F.cl p hp;exact ⟨Ca,by rw [<- yK e.1];exact h1,h2,h3 f (by simpa using e.2)⟩
theorem Fit.blt [Lw] (F:Fit X C ks) (h:x ∈ bnames):X.mg x=none:=F.bl x h
theorem E9 (b:NameKind):Iu b=(b == NameKind.free):=by cases b <;> rfl
theorem Fk (o:Option NameKind):At o=(o == some NameKind.cell):=by
 cases o with
 | none=>rfl
 | some k=>cases k <;> rfl
theorem Fit.blk [Lw] (F:Fit X C ks) (h:rp C sc=true):jX X (d8 C sc) sc/\∀ cl s H fp Lu,Fit (cz X (d8 C sc) sc cl s H fp Lu) (R.blk C sc) ks:=by
 unfold rp at h;simp only [zC,yC] at h;obtain ⟨⟨⟨⟨h1,h2⟩,h3⟩,h4⟩,h5⟩:=h;have hk:sc.kind=.function:=by
  split at h1
  ·rename_i e;exact e
  ·cases h1
 have hlen:C.N.length <= (d8 C sc).length:=by unfold d8;rw [zV,zH];omega
 have free:∀ x,(x,NameKind.free) ∈ sc.names->X.env.kindOf x=some .cell\/X.env.kindOf x=some .free:=fun x hx=>by
  have:=yP.mp h4 _ hx
  simp only at this;rw [F.kdO];split at this
  ·rename_i e;exact .inl e
  ·rename_i e;exact .inr e
  ·cases this
 have at5:∀ i x,i < X.N.length->(d8 C sc)[i]?=some x->(∀ k,(x,k) ∈ sc.names->k=.free/\X.N[i]?=some x):=fun i x hi e k hm=>by
  rw [F.N] at hi ⊢
  have:=yP.mp h5 i (List.mem_range.mpr hi)
  rw [e] at this;simp only at this;have hl:=cQ h2 hm;rw [hl] at this;cases k <;> simp only at this <;> first | (cases this;done) | exact ⟨rfl,of_decide_eq_true this⟩
 refine ⟨⟨hk,h2,by rw [F.N];exact hlen,free,fun i x hi e hm=>(at5 i x hi e _ hm).2,fun i x hi e hq0=>by obtain ⟨k,hm⟩:=hq0;have:=(at5 i x hi e k hm).1;subst this;exact hm⟩,fun cl s H fp Lu=>?_⟩;refine ⟨rfl,?_,h3,hk,F.calm,fun x hx=>?_,F.hu,F.bl,PassesOwn.never,F.ke,F.gs,F.cl,fun p hp=>absurd (show p ∈ ([]:List Pos) from hp) (by simp)⟩
 ·show (relabel sc X.env).names=_
  unfold relabel R.blk;dsimp only;rw [F.kind];apply List.map_congr_left;intro p _;obtain ⟨a,b⟩:=p;simp only [F.kdO,E9,Fk];simp
 ·unfold R.blk at hx
  obtain ⟨p,hp,e⟩:=yD.mp hx;obtain ⟨hp1,hp2⟩:=List.mem_filter.mp hp;obtain ⟨a,b⟩:=p;dsimp only at e hp2;subst e;have:b=.cell:=by cases b <;> first | rfl | cases hp2
  subst this;show (sc.names.lookup a == some NameKind.cell)=true;rw [cQ h2 hp1];rfl
end
section
variable {X:Cx}{C:SC}{ks:List Fn}
theorem Fit.lam [Lw] (F:Fit X C ks) (rm:Room 2 X.A) (h:yh C sc ps=true):∃ x,uV X (d8 C sc) sc x/\plainA ps=true/\ps.args.map (·.arg)=[x]/\defaultsOf ps X.env=([],[]) /\
  ∀ cl f q cd s H,Fit (qY X (d8 C sc) sc cl f q cd X.A.in1 s H) (EG C sc) ks:=by
 unfold yh at h;simp only [zC] at h;obtain ⟨⟨⟨⟨⟨⟨⟨h1,h2⟩,h3⟩,h4⟩,h5⟩,h6⟩,h7⟩,h8⟩:=h;obtain ⟨cy,_⟩:=F.blk h1;split at h7
 ·rename_i x y ex ey
  simp only [zC] at h7;have exy:=yK h7.1;subst exy;have hl:sc.names.lookup x=some .local:=by
   have:=h7.2
   split at this
   ·rename_i e;exact e
   ·cases this
  have hN:d8 C sc=(C.N.map fun x=>if we sc x=true then x else x++("!":Str))++[x]:=by unfold d8;rw [ex]
  refine ⟨x,⟨cy,by simpa using h2,by simpa using h3,by rw [hN,F.N];simp,by rw [hN,F.N];simp,hl,fun y hy e=>?_⟩,h4,ey,?_,fun cl f q cd s H=>?_⟩
  ·have:=yP.mp h8 y hy
   rw [e] at this;cases this
  ·obtain ⟨a1,a2,a3,a4,a5,a6,a7⟩:=ps
   have e5:a7=[]:=List.isEmpty_iff.mp h5;have e6:a5=[]:=List.isEmpty_iff.mp h6;subst e5;subst e6;rfl
  ·have hnd:(d8 C sc).Nodup:=by
    unfold rp at h1;simp only [zC,yC] at h1;exact h1.1.1.2
   have hkd:sc.kind=.function:=cy.kind;have r1:Room 1 X.A.in1:=rm.in1;have r0:=Room.deeper r1 (newEnv sc s.heap.objs.size mainGlobals cl (q++".<locals>.") (some f) cd none builtinsNs);refine ⟨rfl,rfl,hnd,hkd,rfl,fun x hx=>absurd (show x ∈ ([]:List Str) from hx) (by simp),r0.units,F.bl,PassesOwn.never,fun j k e=>absurd (show ([]:List Ke)[j]?=some k from e) (by simp),F.gs,F.cl,fun p hp=>absurd (show p ∈ ([]:List Pos) from hp) (by simp)⟩
 ·cases h7
end
mutual
theorem nY {n:Nat}:∀ {t:Tg},nZ n t=true->pK n (cB ks t)
 | .nm k,h=>by
  simp only [nZ] at h;have hk:=zS h;simp only [cB];intro x sl st sl' st' e;cases e;exact ⟨List.length_set,fun j hj=>List.getElem?_set_ne oM⟩
 | .tu m ts,h=>by
  simp only [nZ] at h;simp only [cB];intro x sl st sl' st' e;unfold wn at e;split at e
  ·split at e
   ·exact mq h _ _ _ _ _ e
   ·cases e
  ·split at e
   ·split at e
    ·exact mq h _ _ _ _ _ e
    ·cases e
   ·cases e
 | .su _ _,h=>by simp only [nZ] at h;cases h
theorem mq {n:Nat}:∀ {ts:Tgs},pw n ts=true->∀ xs sl st sl' st',je ks ts xs sl st=some (sl',st')->sl'.length=sl.length/\∀ j,j < n->sl'[j]?=sl[j]?
 | .nil,_,xs,sl,st,sl',st',e=>by
  simp only [je] at e;cases xs with
  | nil=>cases e;exact ⟨rfl,fun _ _=>rfl⟩
  | cons _ _=>cases e
 | .cons t ts,h,xs,sl,st,sl',st',e=>by
  simp only [pw,zC] at h;simp only [je] at e;cases xs with
  | nil=>cases e
  | cons x xs =>
   obtain ⟨p,e1,e2⟩:=zA e;obtain ⟨a1,a2⟩:=nY h.1 _ _ _ _ _ e1;obtain ⟨b1,b2⟩:=mq h.2 _ _ _ _ _ e2;exact ⟨b1.trans a1,fun j hj=>(b2 j hj).trans (a2 j hj)⟩
end
theorem lF:∀ (as:Exs) {es:List Expr},jY as C es=true->∀ sl st xs st',dI ks as sl st=some (xs,st')->xs.length=es.length
 | .nil,es,h,sl,st,xs,st',e=>by
  cases e;cases es with
  | nil=>rfl
  | cons _ _=>exact aL h
 | .cons a as,es,h,sl,st,xs,st',e=>by
  cases es with
  | nil=>exact aL h
  | cons x es =>
   obtain ⟨p,e1,e2⟩:=zA e;obtain ⟨q,e3,e4⟩:=zA e2;cases e4;rw [yV,yV,lF as (bw h fun _ x=>x) _ _ _ _ e3]
theorem Hx:bootBuiltins "len"=some (.builtin "len"):=by decide +kernel
theorem Hs:bootBuiltins "sum"=some (.builtin "sum"):=by decide +kernel
theorem Hz:bootBuiltins "all"=some (.builtin "all"):=by decide +kernel
theorem Hy:bootBuiltins "any"=some (.builtin "any"):=by decide +kernel
theorem HB:bootBuiltins "abs"=some (.builtin "abs"):=by decide +kernel
theorem Hv:bootBuiltins "min"=some (.builtin "min"):=by decide +kernel
theorem Hw:bootBuiltins "max"=some (.builtin "max"):=by decide +kernel
theorem Au:bootBuiltins "int"=some (.type "int"):=by decide +kernel
theorem Hr:bootBuiltins "tuple"=some (.type "tuple"):=by decide +kernel
theorem nQ:bootBuiltins "isinstance"=some (.builtin "isinstance"):=by decide +kernel
theorem Fq:bootBuiltins "list"=some (.type "list"):=by decide +kernel
theorem Ft:bootBuiltins "bool"=some (.type "bool"):=by decide +kernel
theorem Hu:bootBuiltins "str"=some (.type "str"):=by decide +kernel
section
variable {X:Cx}{C:SC}{ks:List Fn}
theorem Hq [Lw] (F:Fit X C ks) (b:Bi) {e:Expr}{es:List Expr}{g:AF}{p pos:Pos} (hg:eD C b.nm=true) (ha:QA X (e::es) g) (hs:(e::es).all aT=true):QE X (.Call (.Name b.nm p) (e::es) [] pos) (rH (k9 b) g):=by
 have gl:=F.gl hg;rw [List.all_cons,zC] at hs;have he:=am (env:=X.env) (es:=es) hs.1;have hpl:=ig (env:=X.env) (pos:=pos) hs.2;cases b with
 | len=>exact jI Hk gl.1 (F.blt dC) Hx ha dC gl.2 he hpl
 | sum=>exact jI (Hh F.calm) gl.1 (F.blt dC) Hs ha dC gl.2 he hpl
 | all=>exact jI (Hn F.calm) gl.1 (F.blt dC) Hz ha dC gl.2 he hpl
 | any=>exact jI (Hm F.calm) gl.1 (F.blt dC) Hy ha dC gl.2 he hpl
 | abs=>exact jI Ho gl.1 (F.blt dC) HB ha dC gl.2 he hpl
 | min=>exact jI (Hi F.calm) gl.1 (F.blt dC) Hv ha dC gl.2 he hpl
 | max=>exact jI (Hj F.calm) gl.1 (F.blt dC) Hw ha dC gl.2 he hpl
 | int=>exact Gh Hl gl.1 (F.blt dC) Au ha dC gl.2 he hpl
theorem GD [Lw] (F:Fit X C ks) (m:Mi) {o:Expr}{es:List Expr}{f:EF}{g:AF}{ap p:Pos} (ho:QE X o f) (ha:QA X es g) (h0:es=[]->g=dR) (hs:es.all aT=true) (hl:es.length < 30) (hb:mw o=true) (hline:(ap.endLine == p.line)=true) :
  QE X (.Call (.Attribute o m.nm ap) es [] p) (mh (qA m) (vV m) f g):=by
 cases es with
 | nil =>
  have:=h0 rfl
  subst this;have hbase:=fv (env:=X.env) (f:=m.nm) (eval o X.env) hb;cases m with
  | app=>exact mP PySem.F.plainAttrs_list PySem.F.slot_list_append PySem.F.type_list_append Af ho hbase hline
  | popA=>exact mP PySem.F.plainAttrs_list PySem.F.slot_list_pop PySem.F.type_list_pop vW ho hbase hline
  | ext=>exact mP PySem.F.plainAttrs_list PySem.F.slot_list_extend PySem.F.type_list_extend Ad ho hbase hline
  | cnt=>exact mP PySem.F.plainAttrs_list PySem.F.slot_list_count PySem.F.type_list_count (Ae F.hu) ho hbase hline
 | cons e es =>
  have hbase:=fv (env:=X.env) (f:=m.nm) (eval o X.env) hb;have hfew:=Iy (env:=X.env) (cpos:=p) hs hl;rw [List.all_cons,zC] at hs;have he:=am (env:=X.env) (es:=es) hs.1;have hpl:=ig (env:=X.env) (pos:=p) hs.2;cases m with
  | app=>exact pA PySem.F.plainAttrs_list PySem.F.slot_list_append PySem.F.type_list_append Af ho ha hbase hfew hline he hpl
  | popA=>exact pA PySem.F.plainAttrs_list PySem.F.slot_list_pop PySem.F.type_list_pop vW ho ha hbase hfew hline he hpl
  | ext=>exact pA PySem.F.plainAttrs_list PySem.F.slot_list_extend PySem.F.type_list_extend Ad ho ha hbase hfew hline he hpl
  | cnt=>exact pA PySem.F.plainAttrs_list PySem.F.slot_list_count PySem.F.type_list_count (Ae F.hu) ho ha hbase hfew hline he hpl
theorem Du [Lw] {P:Program}{w:World}{K:Frag}{mg:Str->Option Value}{base:Heap}{k:Nat}{f:Addr}{fd:FuncData}{ps:List Str}{n:Nat}{fn:Fn} (b:Bool) (F:FnOk P w K mg base eE k f fd ps (dz ⟨K,mg⟩ n fn)):FnOk P w K mg base eE k f fd ps (dz ⟨K,mg⟩ n (vz b fn)):=by
 cases b
 ·exact F
 ·exact FnOk.pm F
theorem ox {as:Exs}{es:List Expr} (h:jY as C es=true) (he:es=[]):dI ks as=dR:=by
 subst he;cases as with
 | nil=>rfl
 | cons a as=>exact aL h
end
theorem jJ {ks:List Fn}:∀ {e:Ex},lx e=true->AC (ev ks e)
 | .v k,_=>fun sl st v st' e=>by
  have e:aV k sl st=some (v,st'):=e;unfold aV at e;split at e
  ·cases e;rfl
  ·cases e
 | .i k,_=>fun sl st v st' e=>by
  cases e;rfl
 | .ix a b,h=>fun sl st v st' e=>by
  refine bw h fun h1 h2=>?_
  obtain ⟨p,e1,e2⟩:=zA e;obtain ⟨q,e3,e4⟩:=zA e2;obtain ⟨z,e5,e6⟩:=zE.mp e4;cases e6;rw [jJ h2 _ _ _ _ e3,jJ h1 _ _ _ _ e1]
 | .fd c f o,h=>fun sl st v st' e=>by
  obtain ⟨p,e1,e2⟩:=zA e;obtain ⟨q,e3,e4⟩:=zA e2;obtain ⟨z,e5,e6⟩:=zE.mp e4;cases e6;rw [jJ (show lx o=true from h) _ _ _ _ e1]
mutual
theorem ah [Lw] {ks:List Fn}:∀ (a:Ex) {X:Cx}{C:SC} (_:Fit X C ks) {e:Expr},aU a C e=true->QE X e (ev ks a)
 | .n,X,C,F,e,h=>by
  refine jr h fun c a p h=>?_
  rw [ux h];exact qc (w:=.non) rfl DF fun _ _ _ h=>h
 | .b x,X,C,F,e,h=>by
  refine jr h fun c a p h=>?_
  rw [GO h];exact qc rfl Gy fun _ _ _ h=>h
 | .i x,X,C,F,e,h=>by
  refine jr h fun c a p h=>?_
  rw [GN h];exact qc rfl DG fun _ _ _ h=>h
 | .s x,X,C,F,e,h=>by
  refine jr h fun c a p h=>?_
  rw [GM h];exact qc rfl DB fun _ _ _ h=>h
 | .v k,X,C,F,e,h=>by
  refine gz h fun x p h=>?_
  refine bw h fun h0 h=>?_
  obtain ⟨h1,h2,h3⟩:=F.nmb h0;exact Df h1 (F.vis h) h2 h3
 | .g x c,X,C,F,e,h=>by
  refine gz h fun y p h=>?_
  refine iC h fun h0 h1 h2=>?_
  rw [<- yK h0];obtain ⟨w,u,h1',h2',h3⟩:=F.gc h2;obtain ⟨g1,g2⟩:=F.gl h1;exact qc h1' (BD g1 h2' h3 g2) fun _ _ _ h=>h
 | .bin o a b,X,C,F,e,h=>by
  refine qr h fun a' o' b' p h=>?_
  refine iC h fun h0 h1 h2=>?_
  cases of_decide_eq_true h0;exact Dl (ah a F h1) (ah b F h2)
 | .cmp o a b,X,C,F,e,h=>by
  refine vI h fun a' o' b' p h=>?_
  refine fx h fun h0 h1 h2 h3=>?_
  cases of_decide_eq_true h0;exact Dk F.hu (ah a F h1) (ah b F h2) h3
 | .un o a,X,C,F,e,h=>by
  refine qh h fun o' a' p h=>?_
  refine bw h fun h0 h1=>?_
  cases of_decide_eq_true h0;exact Gg (ah a F h1)
 | .no a,X,C,F,e,h=>by
  refine qh h fun o' a' p h=>?_
  refine bw h fun h0 h1=>?_
  cases of_decide_eq_true h0;exact Dh (ah a F h1)
 | .an a b,X,C,F,e,h=>by
  refine mS h (fun x y p h=>?_) fun x y z r p h=>?_
  ·refine bw h fun h0 h1=>?_
   exact vq (ah a F h0) (vE (ah b F h1))
  ·refine bw h fun h0 h1=>?_
   exact vq (ah a F h0) (ah b F h1)
 | .or a b,X,C,F,e,h=>by
  refine mS h (fun x y p h=>?_) fun x y z r p h=>?_
  ·refine bw h fun h0 h1=>?_
   exact zu (ah a F h0) (vE (ah b F h1))
  ·refine bw h fun h0 h1=>?_
   exact zu (ah a F h0) (ah b F h1)
 | .ife t a b,X,C,F,e,h=>by
  refine BQ h fun t' a' b' p h=>?_
  refine iC h fun h0 h1 h2=>?_
  exact Gk (cD t F h0) (ah a F h1) (ah b F h2)
 | .ix a b,X,C,F,e,h=>by
  refine mR h fun a' b' p h=>?_
  refine iC h fun h0 h1 h2=>?_
  exact Gj F.hu (ah a F h0) (ah b F h1) (GP h2)
 | .tu es,X,C,F,e,h=>by
  refine jq h fun es' a p h=>?_
  exact Dg (fC es F h)
 | .nw m x,X,C,F,e,h=>Gi (Em x F h)
 | .ca p j es,X,C,F,e,h=>by
  refine c6 h fun x p1 es' p2 h=>?_
  refine fx h fun h1 h2 h3 h4=>?_
  unfold qH at h1;split at h1
  ·rename_i y m hk
   refine bw h1 fun h1 h0=>?_
   obtain ⟨d,f,fd,ps,hl,Fn,hr,hm,kp,hb⟩:=F.ke j _ hk;obtain ⟨g1,g2⟩:=F.gl h2;rw [yK h1] at hm;have hn:ps.length=es'.length:=by rw [hl];exact yK h0
   cases es' with
   | nil=>show QE X _ (wK _ (dI ks es));rw [ox h3 rfl];exact xw (Du p Fn) hr g1 hm kp hb hn g2
   | cons e1 es1 =>
    refine bw h4 fun h4 h5=>?_
    exact Bk (Du p Fn) hr g1 hm kp hb (fC es F h3) (fun sl st xs st' e=>by rw [hn];exact lF es h3 _ _ _ _ e) g2 (am h4) (ig h5)
  ·exact aL h1
 | .me c m j o es,X,C,F,e,h=>by
  refine sE h fun o' m' ap es' p h=>?_
  refine iB h fun h0 h1 h2 h3 h=>?_
  refine fx h fun h4 h5 h6 h7=>?_
  rw [<- yK h0];unfold Ik at h1;split at h1
  ·rename_i c' m'' k hk
   refine iC h1 fun a1 a2 a3=>?_
   obtain ⟨d,f,fd,ps,Ca,hl,Fn,hr,hC,cl,hm,hb⟩:=F.ke j _ hk;rw [yK a1] at hC;rw [yK a2] at hm;have hn:ps.length=es'.length + 1:=by rw [hl];exact yK a3
   have h5:es'.length < 30:=zJ (Nat.lt_succ_self _) (zS h5);cases es' with
   | nil=>show QE X _ (wJ _ _ _ _ (dI ks es));rw [ox h3 rfl];exact xu (ah o F h2) cl hC hm Fn hr hb hn (sL h6 h4 h5 h7)
   | cons e1 es1 =>
    have ht:=sL (env:=X.env) (f:=m) (o:=o') (es:=e1::es1) h6 h4 h5 h7;refine bw h4 fun h4 h8=>?_
    exact Bh (ah o F h2) cl hC hm Fn hr hb (fC es F h3) (fun sl st xs st' e=>by rw [hn,lF es h3 _ _ _ _ e]) (am h4) (ig h8) ht
  ·exact aL h1
 | .ne c j es,X,C,F,e,h=>by
  refine c6 h fun x p1 es' p2 h=>?_
  refine iB h fun h0 h1 h2 h3 h=>?_
  refine bw h fun h4 h5=>?_
  rw [<- yK h0];unfold Il at h1;split at h1
  ·rename_i c' k hk
   refine bw h1 fun a1 a2=>?_
   obtain ⟨d,f,fd,ps,Ca,hl,Fn,hr,hC,M,hb⟩:=F.ke j _ hk;rw [yK a1] at hC;obtain ⟨g1,g2⟩:=F.gl h2;cases es' with
   | nil=>exact aL h5
   | cons e1 es1 =>
    have hn:ps.length=es1.length + 2:=by rw [hl];exact yK a2
    refine bw h4 fun h4 h6=>?_
    exact Di M Fn hr g1 hC hb (fC es F h3) (fun sl st xs st' e=>by rw [hn,lF es h3 _ _ _ _ e];rfl) g2 (am h4) (ig h6)
  ·exact aL h1
 | .fd c f o,X,C,F,e,h=>by
  refine qt h fun o' f' p h=>?_
  refine fx h fun h0 h1 h2 h3=>?_
  rw [<- yK h0];obtain ⟨Ca,hC,cl,na⟩:=F.clb h1;exact Dj (ah o F h2) cl hC na (fv _ h3)
 | .bi b es,X,C,F,e,h=>by
  refine c6 h fun x p1 es' p2 h=>?_
  refine iB h fun h0 h1 h2 h3 h4=>?_
  cases es' with
  | nil=>exact aL h4
  | cons e1 es1 =>
   have e0:=yK h0;subst e0;exact Hq F b h1 (fC es F h2) h3
 | .is T a,X,C,F,e,h=>by
  refine c6 h fun x p1 es' p2 h=>?_
  refine ib h fun e1 e2 h=>?_
  refine gz h fun y p3 h=>?_
  refine iB h fun h0 h1 h2 h4 h5=>?_
  refine bw h2 fun h2 h3=>?_
  have e0:=yK h0;subst e0;obtain ⟨g1,g2⟩:=F.gl h1;obtain ⟨g3,g4⟩:=F.gl h2;unfold HH at h3;simp only [Bool.or_eq_true] at h3;rcases h3 with (((h3 | h3) | h3) | h3) | h3 <;> (refine bw h3 fun a1 a2=>?_;have e1:=yK a1;have e2:=yK a2;subst e1;subst e2)
  ·exact kC g1 (F.blt dC) g3 (F.blt dC) Au (ah a F h4) dC g4 (am h5) nQ
  ·exact kC g1 (F.blt dC) g3 (F.blt dC) Ft (ah a F h4) dC g4 (am h5) nQ
  ·exact kC g1 (F.blt dC) g3 (F.blt dC) Fq (ah a F h4) dC g4 (am h5) nQ
  ·exact kC g1 (F.blt dC) g3 (F.blt dC) Hr (ah a F h4) dC g4 (am h5) nQ
  ·exact kC g1 (F.blt dC) g3 (F.blt dC) Hu (ah a F h4) dC g4 (am h5) nQ
 | .mt m o es,X,C,F,e,h=>by
  refine sE h fun o' m' ap es' p h=>?_
  refine fx h fun h0 h1 h2 h=>?_
  refine fx h fun h3 h4 h5 h6=>?_
  rw [<- yK h0];exact GD F m (ah o F h1) (fC es F h2) (fun e=>ox h2 e) h3 (zJ (Nat.lt_succ_self _) (zS h4)) h5 h6
 | .mnd a,X,C,F,e,h=>by
  refine kE h fun f es kws p h=>?_
  refine gz h fun x p1 h=>?_
  refine bO h fun a' h=>?_
  refine bO h fun w h=>?_
  refine lz h fun y d p2 h=>?_
  refine jr h fun c c1 c2 h=>?_
  refine bw h fun hc h=>?_
  refine iB h fun h0 h1 h2 h3 h4=>?_
  have e0:=yK h0;have e1:=yK h1;subst e0;subst e1;rw [ux hc];exact Bg F.calm (F.gl h2).1 (F.blt dC) (ah a F h3) (am h4)
 | .mnk a key,X,C,F,e,h=>by
  refine kE h fun f es kws p h=>?_
  refine gz h fun x p1 h=>?_
  refine bO h fun a' h=>?_
  refine ib h fun w u h=>?_
  refine lz h fun y l p2 h=>?_
  refine lz h fun z d p3 h=>?_
  refine BN h fun ps body sc lp h=>?_
  refine jr h fun c c1 c2 h=>?_
  refine iC h fun hc h h'=>?_
  refine iB h fun h0 h1 h2 h3 h4=>?_
  refine iB h' fun h5 h6 h7 h8 h9=>?_
  have e0:=yK h0;have e1:=yK h1;have e2:=yK h2;subst e0;subst e1;subst e2;rw [ux hc];obtain ⟨q,hq,hqe⟩:=List.any_eq_true.mp h6;have eqp:q=lp:=by
   refine fx hqe fun q1 q2 q3 q4=>?_
   cases q;cases lp;cases yK q1;cases yK q2;cases yK q3;cases yK q4;rfl
  subst eqp;obtain ⟨rm,c,P,g1,g2,g3,g4,g5⟩:=F.la q hq;obtain ⟨x,T,hp,hps,hdef,FL⟩:=F.lam rm h7;exact Bf F.calm (F.gl h3).1 (F.blt dC) (ah a F h4) (am h5) hdef g1 g2 g3 g4 T hp hps rm.in1.depth (jJ h8) (fun cl f c' s H=>ah key (FL cl f _ _ s H) h9) g5
 | .dn,X,C,F,e,h=>by
  obtain ⟨p,rfl⟩:=Cb h;exact Bj xJ
theorem cD [Lw] {ks:List Fn}:∀ (a:Tx) {X:Cx}{C:SC} (_:Fit X C ks) {e:Expr},kG a C e=true->QT X e (tv ks a)
 | .va a,X,C,F,e,h=>by
  refine bw h fun h0 h1=>?_
  exact CZ (ah a F h1) (AQ h0)
 | .cmp o a b,X,C,F,e,h=>by
  refine vI h fun a' o' b' p h=>?_
  refine fx h fun h0 h1 h2 h3=>?_
  cases of_decide_eq_true h0;exact C2 F.hu (ah a F h1) (ah b F h2) h3
 | .no a,X,C,F,e,h=>by
  refine qh h fun o' a' p h=>?_
  refine bw h fun h0 h1=>?_
  cases of_decide_eq_true h0;exact C1 (cD a F h1)
 | .an a b,X,C,F,e,h=>by
  refine mS h (fun x y p h=>?_) fun x y z r p h=>?_
  ·refine bw h fun h0 h1=>?_
   exact PW.pt (mO (cD a F h0) (mN .And (cD b F h1)))
  ·refine bw h fun h0 h1=>?_
   exact PW.pt (mO (cD a F h0) (mW b F h1))
 | .or a b,X,C,F,e,h=>by
  refine mS h (fun x y p h=>?_) fun x y z r p h=>?_
  ·refine bw h fun h0 h1=>?_
   exact PW.pt (px (cD a F h0) (mN .Or (cD b F h1)))
  ·refine bw h fun h0 h1=>?_
   exact PW.pt (px (cD a F h0) (mW b F h1))
theorem mW [Lw] {ks:List Fn}:∀ (a:Tx) {X:Cx}{C:SC} (_:Fit X C ks) {op:BoolOp}{x y:Expr}{r:List Expr}{p:Pos},kG a C (.BoolOp op (x::y::r) p)=true->QW X (.BoolOp op (x::y::r) p) (tv ks a)
 | .va a,X,C,F,op,x,y,r,p,h=>aL h
 | .cmp o a b,X,C,F,op,x,y,r,p,h=>aL h
 | .no a,X,C,F,op,x,y,r,p,h=>aL h
 | .an a b,X,C,F,op,x,y,r,p,h=>by
  refine qk h (fun _ _ _ e h=>?_) fun _ _ _ _ _ e h=>?_
  ·cases e
   refine bw h fun h0 h1=>?_
   exact mO (cD a F h0) (mN .And (cD b F h1))
  ·cases e
   refine bw h fun h0 h1=>?_
   exact mO (cD a F h0) (mW b F h1)
 | .or a b,X,C,F,op,x,y,r,p,h=>by
  refine qk h (fun _ _ _ e h=>?_) fun _ _ _ _ _ e h=>?_
  ·cases e
   refine bw h fun h0 h1=>?_
   exact px (cD a F h0) (mN .Or (cD b F h1))
  ·cases e
   refine bw h fun h0 h1=>?_
   exact px (cD a F h0) (mW b F h1)
theorem fC [Lw] {ks:List Fn}:∀ (as:Exs) {X:Cx}{C:SC} (_:Fit X C ks) {es:List Expr},jY as C es=true->QA X es (dI ks as)
 | .nil,X,C,F,es,h=>by cases es with | nil=>exact d7 | cons _ _=>exact aL h
 | .cons a as,X,C,F,es,h=>by
  cases es with
  | nil=>exact aL h
  | cons e es =>
   refine iC h fun h0 h1 h2=>?_
   exact bZ (ah a F h1) (fC as F h2) (am h0)
theorem Em [Lw] {ks:List Fn}:∀ (a:Nx) {X:Cx}{C:SC} (_:Fit X C ks) {e:Expr},Ac a C e=true->QN X e (iS ks a)
 | .li es,X,C,F,e,h=>by
  refine sB h fun es' p h=>?_
  exact A8 (fC es F h)
 | .cat a b,X,C,F,e,h=>by
  refine qr h fun a' o' b' p h=>?_
  refine iC h fun h0 h1 h2=>?_
  cases of_decide_eq_true h0;exact Da (ah a F h1) (ah b F h2)
 | .rep es b,X,C,F,e,h=>by
  refine qr h fun a' o' b' p h=>?_
  refine bw h fun h0 h=>?_
  cases of_decide_eq_true h0;refine sB h fun es' p1 h=>?_
  refine bw h fun h1 h2=>?_
  exact C6 (fC es F h1) (ah b F h2)
 | .sl a l h',X,C,F,e,h=>by
  refine BL h fun a' l' r' p q h=>?_
  refine iC h fun h0 h1 h2=>?_
  exact F9 (ah a F h0) (vT l F h1) (vT h' F h2)
 | .lof a,X,C,F,e,h=>by
  refine c6 h fun x p1 es p2 h=>?_
  refine bO h fun a' h=>?_
  refine fx h fun h0 h1 h2 h3=>?_
  have e0:=yK h0;subst e0;exact C9 (F.gl h1).1 (F.blt dC) (ah a F h2) (am h3)
 | .lc k it t c a,X,C,F,e,h=>by
  simp only [Ac] at h;refine D0 h fun a' t' it' cs sc p h=>?_
  refine iB h fun h0 h1 h2 h3 h=>?_
  refine fx h fun h4 h5 h6 h7=>?_
  obtain ⟨T,FB⟩:=F.blk h2;have ek:k=(d8 C sc).length - X.N.length:=by rw [yK h3,F.N]
  subst ek;exact Ga F.calm T (qx it F h0) (fun cl s H fp Lu=>im t (FB cl s H fp Lu) h5) (fun cl s H fp Lu=>vU c (FB cl s H fp Lu) h6) (fun cl s H fp Lu=>ah a (FB cl s H fp Lu) h7) (by rw [F.N];exact nY h4) (mK h1)
 | .lr1 a,X,C,F,e,h=>by
  refine c6 h fun x p1 es p2 h1=>?_
  clear h;refine bO h1 fun d h2=>?_
  clear h1;refine c6 h2 fun y p3 es p4 h=>?_
  clear h2;refine bO h fun a' h=>?_
  refine iB h fun h0 h2 h3 h4 h5=>?_
  refine bw h0 fun h0 h1=>?_
  have e0:=yK h0;have e1:=yK h1;subst e0;subst e1;exact C8 F.calm (F.gl h2).1 (F.blt dC) (F.gl h3).1 (F.blt dC) (ah a F h4) (am h5)
 | .lr2 a b,X,C,F,e,h=>by
  refine c6 h fun x p1 es p2 h1=>?_
  clear h;refine bO h1 fun d h2=>?_
  clear h1;refine c6 h2 fun y p3 es p4 h=>?_
  clear h2;refine ib h fun a' b' h=>?_
  refine iB h fun h0 h23 h4 h5 h6=>?_
  refine bw h0 fun h0 h1=>?_
  refine bw h23 fun h2 h3=>?_
  refine bw h6 fun h6 h7=>?_
  have e0:=yK h0;have e1:=yK h1;subst e0;subst e1;exact C7 F.calm (F.gl h2).1 (F.blt dC) (F.gl h3).1 (F.blt dC) (ah a F h4) (ah b F h5) ((am h6).trans (by rw [am h7];rfl)) (am h7)
theorem vT [Lw] {ks:List Fn}:∀ (a:Ox) {X:Cx}{C:SC} (_:Fit X C ks) {e:Option Expr},Ab a C e=true->QO X e (qT ks a)
 | .no,X,C,F,e,h=>by cases e with | none=>exact A7 | some _=>exact aL h
 | .so a,X,C,F,e,h=>by cases e with | none=>exact aL h | some e=>exact A6 (ah a F h)
theorem vU [Lw] {ks:List Fn}:∀ (a:Cx') {X:Cx}{C:SC} (_:Fit X C ks) {es:List Expr},Ih a C es=true->wN X es (io ks a)
 | .no,X,C,F,e,h=>by cases e with | nil=>exact Ba | cons _ _=>exact aL h
 | .so a,X,C,F,e,h=>by
  refine bO h fun e h=>?_
  exact A9 (cD a F h)
theorem qx [Lw] {ks:List Fn}:∀ (a:Ix) {X:Cx}{C:SC} (_:Fit X C ks) {t e:Expr},En a C t e=true->QI X t e (fR ks a)
 | .e a,X,C,F,t,e,h=>Jm (ah a F h)
 | .r1 a,X,C,F,t,e,h=>by
  refine c6 h fun x p1 es p2 h=>?_
  refine bO h fun a' h=>?_
  refine fx h fun h0 h1 h2 h3=>?_
  have e0:=yK h0;subst e0;exact Gc (F.gl h1).1 (F.blt dC) (ah a F h2) (am h3)
 | .r2 a b,X,C,F,t,e,h=>by
  refine c6 h fun x p1 es p2 h=>?_
  refine ib h fun a' b' h=>?_
  refine iB h fun h0 h1 h2 h3 h4=>?_
  refine bw h4 fun h4 h5=>?_
  have e0:=yK h0;subst e0;exact Gb (F.gl h1).1 (F.blt dC) (ah a F h2) (ah b F h3) (by rw [am h4,am h5];rfl) (am h5)
 | .zi a b,X,C,F,t,e,h=>by
  refine jq h fun ts k p h=>?_
  refine c6 h fun x p1 es p2 h=>?_
  refine ib h fun a' b' h=>?_
  refine iB h fun h0 h1 h2 h3 h4=>?_
  refine bw h4 fun h4 h5=>?_
  have e0:=yK h0;subst e0;exact Db (F.gl h1).1 (F.blt dC) (ah a F h2) (ah b F h3) (by rw [am h4,am h5];rfl) (am h5)
 | .en a,X,C,F,t,e,h=>by
  refine jq h fun ts k p h=>?_
  refine c6 h fun x p1 es p2 h=>?_
  refine bO h fun a' h=>?_
  refine fx h fun h0 h1 h2 h3=>?_
  have e0:=yK h0;subst e0;exact Gf (F.gl h1).1 (F.blt dC) (ah a F h2) (am h3)
 | .es a b,X,C,F,t,e,h=>by
  refine jq h fun ts k p h=>?_
  refine kE h fun f es kws p0 h=>?_
  refine gz h fun x p1 h=>?_
  refine bO h fun a' h=>?_
  refine bO h fun w h=>?_
  refine lz h fun y d p2 h=>?_
  refine iB h fun h0 h2 h3 h4 h5=>?_
  refine bw h0 fun h0 h1=>?_
  have e0:=yK h0;have e1:=yK h1;subst e0;subst e1;exact Dc (F.gl h2).1 (F.blt dC) (ah a F h3) (ah b F h4) (am h5)
 | .z4 a b c d,X,C,F,t,e,h=>by
  refine jq h fun ts k p h=>?_
  refine c6 h fun x p1 es p2 h=>?_
  refine BO h fun a' b' c' d' h=>?_
  refine fx h fun h0 h1 h2 h3=>?_
  refine fx h2 fun h2 h4 h5 h6=>?_
  refine fx h3 fun h7 h8 h9 h10=>?_
  have e0:=yK h0;subst e0;exact Bb (F.gl h1).1 (F.blt dC) (ah a F h2) (ah b F h4) (ah c F h5) (ah d F h6) (by rw [am h7,am h8,am h9,am h10];rfl) (by rw [am h8,am h9,am h10];rfl) (by rw [am h9,am h10];rfl) (am h10)
theorem im [Lw] {ks:List Fn}:∀ (t:Tg) {X:Cx}{C:SC} (_:Fit X C ks) {e:Expr},sK t C e=true->QG X e (cB ks t)
 | .nm k,X,C,F,e,h=>by
  refine gz h fun x p h=>?_
  refine bw h fun h0 h=>?_
  obtain ⟨h1,h2⟩:=F.loc h;exact Be (by rw [F.N];exact F.nd) (F.nmb h0).1 h1 h2
 | .tu n ts,X,C,F,e,h=>by
  refine jq h fun es k p h=>?_
  refine iC h fun h0 h1 h2=>?_
  exact Dd F.calm (sJ ts F h2) (by rw [yw];exact yK h0) (yx h1)
 | .su a b,X,C,F,e,h=>by
  refine mR h fun a' b' p h=>?_
  refine iC h fun h0 h1 h2=>?_
  exact De F.hu (ah a F h0) (ah b F h1) (CN h2)
theorem sJ [Lw] {ks:List Fn}:∀ (ts:Tgs) {X:Cx}{C:SC} (_:Fit X C ks) {es:List Expr},xW ts C es=true->wO X es (je ks ts)
 | .nil,X,C,F,es,h=>by cases es with | nil=>exact Bc | cons _ _=>exact aL h
 | .cons t ts,X,C,F,es,h=>by
  cases es with
  | nil=>exact aL h
  | cons e es =>
   refine iC h fun h0 h1 h2=>?_
   exact xt (im t F h1) (sJ ts F h2) (yu h0)
end
theorem vg {env:Env}{e o i:Expr}{p:Pos}{l:Nat}:swapsWithSole [.Subscript o i p] e l env=pure false:=by cases e <;> rfl
theorem vf {env:Env}{e:Expr}{es:List Expr}{k:Nat}{p:Pos}{l:Nat}:swapsWithSole [.Tuple es k p] e l env=pure false:=by cases e <;> rfl
mutual
theorem El [Lw] {ks:List Fn}:∀ (a:Sx) {X:Cx}{C:SC} (_:Fit X C ks) {s:Stmt},Ig a C s=true->QS X s (cL ks a)
 | .ex a,X,C,F,s,h=>by
  refine BR h fun e p h=>bw h fun h0 h1=>?_
  exact A3 (ah a F h0) (sj h1)
 | .as a t,X,C,F,s,h=>by
  refine sF h fun t' e p2 h=>iC h fun h0 h1 h2=>?_
  refine Fv h2 (fun h2 x p h1=>?_) (fun o i q h1=>?_) (fun h2 es k q h1=>?_) h1
  ·cases t with
   | nm k =>
    refine bw (show (vQ C k x && um C x)=true from h1) fun g0 g1=>?_
    obtain ⟨l1,l2⟩:=F.loc g1;have hN:X.N.Nodup:=by rw [F.N];exact F.nd
    rcases Bool.or_eq_true_iff.mp h2 with hc | hc
    ·exact vo hN (F.nmb g0).1 l1 (ah a F h0) (sj hc) l2
    ·refine B9 hc (fun elt gens sc pos h0=>?_) h0
     have hsw:=CM (env:=X.env) (elt:=elt) (gens:=gens) (sc:=sc) (pos:=pos) (t:=x) (p:=p) (l:=p2.line) F.kind;cases hsb:HP X.env.scope.names x p.line sc pos.line with
     | false=>rw [hsb] at hsw;exact vo hN (F.nmb g0).1 l1 (ah a F h0) hsw l2
     | true =>
      rw [hsb] at hsw;refine Km h0 fun m k' it t c a' h0=>?_
      have h0:dN gens _=true:=h0;refine bO h0 fun g h0=>?_
      obtain ⟨t',it',cs,i⟩:=g;refine bw h0 fun h9 h0=>?_
      cases of_decide_eq_true h9;refine iB h0 fun q0 h1' h2' h3 h=>?_
      refine fx h fun h4 h5 h6 h7=>?_
      obtain ⟨T,FB⟩:=F.blk h2';have ek:k'=(d8 C sc).length - X.N.length:=by rw [yK h3,F.N]
      subst ek;exact vn hN (F.nmb g0).1 l1 hsw F.calm T (qx it F q0) (fun cl s H fp Lu=>im t (FB cl s H fp Lu) h5) (fun cl s H fp Lu=>vU c (FB cl s H fp Lu) h6) (fun cl s H fp Lu=>ah a' (FB cl s H fp Lu) h7) (by rw [F.N];exact nY h4) (mK h1') l2
   | _=>exact aL h1
  ·exact vp (ah a F h0) (im t F h1) vg xg (sZ rfl)
  ·exact bw h2 fun h2 h3=>vp (ah a F h0) (im t F h1) vf (xf h2) (sZ rfl)
 | .aus o a b c,X,C,F,s,h=>by
  refine BS h fun t o' e p h=>mR h fun a' b' p h=>iB h fun h0 h1 h2 h3 h4=>?_
  cases of_decide_eq_true h0;exact A5 F.hu (ah a F h1) (ah b F h2) (ah c F h3) (Fu h4)
 | .fl c f o a,X,C,F,s,h=>by
  refine sF h fun t e p h=>qt h fun o' f' p h=>fx h fun h0 h1 h2 h3=>?_
  rw [<- yK h0];obtain ⟨Ca,hC,cl,na⟩:=F.clb h1;exact C5 (ah o F h2) (ah a F h3) cl hC na xc
 | .rt a,X,C,F,s,h=>by
  refine BM h fun e p h=>?_
  cases e with
  | none=>exact aL h
  | some e=>exact C3 (ah a F h)
 | .iff t a b,X,C,F,s,h=>by
  refine DZ h fun e x y p h=>iC h fun h0 h1 h2=>?_
  exact F8 (cD t F h0) (f7 a F h1) (f7 b F h2)
 | .fo it t b,X,C,F,s,h=>by
  refine sC h fun t' it' x p h=>fx h fun h0 h1 h2 h3=>?_
  exact C4 F.po F.calm (qx it F h0) (im t F h2) (f7 b F h3) (mK h1)
 | .fd a t b,X,C,F,s,h=>by
  refine sC h fun t' it' x p h=>fx h fun h0 h1 h2 h3=>?_
  exact A2 F.po F.calm (ah a F h0) (im t F h2) (f7 b F h3) (mK h1)
 | .wh t b,X,C,F,s,h=>by
  refine BK h fun e x p h=>bw h fun h0 h1=>?_
  exact xr F.po (cD t F h0) (f7 b F h1)
 | .dead,X,C,F,s,h=>A4
theorem f7 [Lw] {ks:List Fn}:∀ (as:LB) {X:Cx}{C:SC} (_:Fit X C ks) {ss:List Stmt},kH as C ss=true->lm X ss (ak ks as)
 | .nil,X,C,F,s,h=>by cases s with | nil=>exact A1 | cons _ _=>exact aL h
 | .cons a as,X,C,F,s,h=>by
  cases s with
  | nil=>exact aL h
  | cons s ss=>exact bw h fun h0 h1=>xq (El a F h0) (f7 as F h1)
 | .dead,X,C,F,s,h=>xp
end
section
variable (P:Program) (w:World) (K:Frag) (mg:Str->Option Value) (base:Heap)
def KI [Lw] (d:Nat) (x:Str) (n:Nat) (fn:Fn):Prop:=∃ f fd ps,ps.length=n/\FnOk P w K mg base eE d f fd ps (dz ⟨K,mg⟩ ps.length fn)/\mg x=some (.ref f)/\keepIn K (.ref f)=true/\Binds K fd ps []
def KH [Lw] (d:Nat) (c m:Str) (n:Nat) (fn:Fn):Prop:=∃ f fd ps C,ps.length=n/\FnOk P w K mg base eE d f fd ps (dz ⟨K,mg⟩ ps.length fn)/\mg c=some (.ref C)/\Cls K C/\jT K C m f/\Binds K fd ps []
def KF [Lw] (d:Nat) (c:Str) (n:Nat) (fn:Fn):Prop:=∃ f fd ps C,ps.length=n/\FnOk P w K mg base eE d f fd ps (dz ⟨K,mg⟩ ps.length fn)/\mg c=some (.ref C)/\Mk K C f/\Binds K fd ps []
def KOk [Lw] (d:Nat) (fn:Fn):Ke->Prop
 | .f x n=>KI P w K mg base d x n fn
 | .m c m n=>KH P w K mg base d c m n fn
 | .k c n=>KF P w K mg base d c n fn
def KsOk [Lw] (d:Nat):List Ke->List Fn->Prop
 | [],_=>True
 | k::ke,fn::ks=>KOk P w K mg base d fn k/\KsOk d ke ks
 | _::_,[]=>False
structure Ev (gs:List (Str × AV)) (cl:List (Str × List Str)):Prop where
 bl:∀ x ∈ bnames,mg x=none
 gs:∀ p ∈ gs,∀ w,mL p.2=some w->∃ u,mg p.1=some u/\RelV w u
 cl:∀ p ∈ cl,∃ Ca,mg p.1=some (.ref Ca)/\Cls K Ca/\∀ f ∈ p.2,NoAttr K Ca f
end
section
variable {P:Program}{w:World}{K:Frag}{mg:Str->Option Value}{base:Heap}{d d':Nat}{fn:Fn}
theorem KOk.mono [Lw] (h:d <= d'):∀ {k:Ke},KOk P w K mg base d fn k->KOk P w K mg base d' fn k
 | .f _ _,⟨f,fd,ps,e,F,r⟩=>⟨f,fd,ps,e,F.mono h,r⟩
 | .m _ _ _,⟨f,fd,ps,C,e,F,r⟩=>⟨f,fd,ps,C,e,F.mono h,r⟩
 | .k _ _,⟨f,fd,ps,C,e,F,r⟩=>⟨f,fd,ps,C,e,F.mono h,r⟩
theorem KsOk.at [Lw]:∀ {ke:List Ke}{ks:List Fn}{j:Nat}{k:Ke},KsOk P w K mg base d ke ks->ke[j]?=some k->KOk P w K mg base d (kf ks j) k
 | [],_,_,_,_,e=>by simp at e
 | k::ke,[],_,_,h,_=>h.elim
 | k::ke,fn::ks,0,_,h,e=>by simp at e;subst e;exact h.1
 | k::ke,fn::ks,j + 1,_,h,e=>by
  have:=KsOk.at (j:=j) h.2 (by simpa using e)
  exact this
theorem KOk.ok [Lw] (hr:Room (d + 1) A):∀ {k:Ke},KOk P w K mg base d fn k->FF P w K mg base A fn k
 | .f _ _,⟨f,fd,ps,e,F,m,kp,b⟩=>⟨d,f,fd,ps,e,F,hr.mono (Nat.le_succ d),m,kp,b⟩
 | .m _ _ _,⟨f,fd,ps,C,e,F,m,c,me,b⟩=>⟨d,f,fd,ps,C,e,F,hr.mono (Nat.le_succ d),m,c,me,b⟩
 | .k _ _,⟨f,fd,ps,C,e,F,m,mk,b⟩=>⟨d,f,fd,ps,C,e,F,hr,m,mk,b⟩
end
def fY (st:Stmt):List Str:=(dD st).args.map (·.arg)
noncomputable def E7 (N ps:List Str) (sc:Scope):Bool:=(match sc.kind with | .function=>true | _=>false) && !sc.isCoroutine && !sc.isGenerator && decide N.Nodup && decide (N.take ps.length=ps) &&
 (ps.all fun x=>match sc.names.lookup x with | some .local=>true | some .cell=>true | _=>false) && (sc.names.all fun p=>match p.2 with | .free=>false | _=>true)
theorem E6 (h:E7 N ps sc=true):lM N ps sc:=by
 unfold E7 at h;simp only [zC,yC] at h;obtain ⟨⟨⟨⟨⟨⟨h1,h2⟩,h3⟩,h4⟩,h5⟩,h6⟩,h7⟩:=h;refine ⟨?_,by simpa using h2,by simpa using h3,h4,h5,fun x hx=>?_,fun y hy e=>?_⟩
 ·split at h1
  ·rename_i e;exact e
  ·cases h1
 ·have:=yP.mp h6 x hx
  split at this
  ·rename_i e;exact .inl e
  ·rename_i e;exact .inr e
  ·cases this
 ·have:=yP.mp h7 y hy
  rw [e] at this;cases this
def chk (N:List Str) (ke:List Ke) (gs:List (Str × AV)) (cl:List (Str × List Str)) (la:List Pos) (b:LB) (st:Stmt):Bool :=
 E7 N (fY st) (cx st) && plainA (dD st) && decide (fY st).Nodup && kH b ⟨N,(cx st).names,N,ke,gs,cl,la⟩ (dX st)
section
variable {P:Program}{w:World}{K:Frag}{mg:Str->Option Value}{base:Heap}{d:Nat}{x qual:Str}{st:Stmt}{f:Addr}{fd:FuncData}{N:List Str}{ke:List Ke}{ks:List Fn}{gs:List (Str × AV)}{cl:List (Str × List Str)}{la:List Pos}{b:LB}
theorem G7 [Lw] {N ps:List Str}{k:Nat}{b:SF} (F:Fun K x qual st f fd) (S:lM N ps (cx st))
  (hbody:∀ (A:Around) (outer:List Env) (s:Shared) (H:Hp) (E:XK),Room k (A.deeper (envOfC qual (cx st) s.heap.objs.size f fd.code))->lm (oy eE P w K mg base N qual (cx st) f fd.code A outer s H E).nox (dX st) b) :
  FnOk P w K mg base eE (k + 1) f fd ps (dz ⟨K,mg⟩ ps.length (run N.length b)):=by
 obtain ⟨oc,od,kV,doc,pm,an,cdv,ct,osl,rfl,lk,hcd⟩:=F.ex;refine G6 lk hcd S (fun vs H Q E h=>h.1) fun A outer s H vs Q E hr h=>?_
 obtain ⟨hl,P,φ,args,st,r,sm,k⟩:=h;have hb:=hbody A outer s H E hr;refine ⟨_,PSs.nox hb,?_⟩;obtain ⟨v,st',e,q⟩:=k;obtain ⟨o,e1,e2⟩:=zA e;refine ⟨P,φ,_,st,AW r,sm,o,e1,?_⟩;cases o with
 | nx sl st1=>cases e2;exact fun P' φ' H' σ' f' s' _=>q P' φ' H' .non f' s' (by simp only [RA])
 | rt v st1=>cases e2;exact fun P' φ' H' w f' s' r'=>q P' φ' H' w f' s' r'
 | bk sl st1=>cases e2
 | ct sl st1=>cases e2
def rL [Lw] (mg:Str->Option Value) (base:Heap) (qual:Str) (cd:Value) (la:List Pos):Prop:=∀ p ∈ la,∃ c P,cd=.ref c/\CodeHd base c P/\iK mg base/\(P,p,qual++".<locals>."++"<lambda>") ∈ Lw.tb/\∀ t ∈ Lw.tb,t.1=P->t=(P,p,qual++".<locals>."++"<lambda>")
theorem nk [Lw] (F:Fun K x qual st f fd) (E:Ev K mg gs cl) (hl:rL mg base qual fd.code la) (hk:KsOk P w K mg base d ke ks) (h:chk N ke gs cl la b st=true) :
  FnOk P w K mg base eE (d + 3) f fd (fY st) (dz ⟨K,mg⟩ (fY st).length (run N.length (ak ks b)))/\Binds K fd (fY st) []:=by
 unfold chk at h;simp only [zC,yC] at h;obtain ⟨⟨⟨h1,h2⟩,h3⟩,h4⟩:=h;have S:=E6 h1;refine ⟨G7 F S fun A outer s H E' hr=>?_,F.binds fun kV doc pm an cdv ct us hl=>bind_plain h2 rfl h3 hl⟩;refine f7 b ⟨rfl,rfl,S.nd,S.kind,rfl,fun _ _=>rfl,hr.units,E.bl,PassesOwn.never,fun j k e=>(hk.at e).ok (hr.mono oM),E.gs,E.cl,fun p hp=>⟨hr.mono oM,hl p hp⟩⟩ h4
end
structure FE where
 ke:Ke
 qual:Str
 st:Stmt
 N:List Str
 cs:List Nat
 d:Nat
 la:List Pos
 b:LB
def FE.fn (e:FE) (fs:List Fn):Fn:=run e.N.length (ak (e.cs.map (kf fs)) e.b)
def FE.ok [Lw] (e:FE) (K:Frag) (mg:Str->Option Value) (base:Heap):Prop:=match e.ke with
 | .f x _=>∃ f fd,mg x=some (.ref f)/\Fun K x e.qual e.st f fd/\rL mg base e.qual fd.code e.la
 | .m c m _=>∃ f fd C,mg c=some (.ref C)/\Cls K C/\jT K C m f/\Fun K m e.qual e.st f fd/\rL mg base e.qual fd.code e.la
 | .k c _=>∃ f fd C,mg c=some (.ref C)/\Mk K C f/\Fun K "__init__" e.qual e.st f fd/\rL mg base e.qual fd.code e.la
noncomputable def Ke.n:Ke->Nat
 | .f _ n=>n
 | .m _ _ n=>n
 | .k _ n=>n
noncomputable def yi (pre:List FE) (j:Nat):Ke:=match pre[j]? with
 | some e=>e.ke
 | none=>.f "" 0
def FE.chk (gs:List (Str × AV)) (cl:List (Str × List Str)) (pre:List FE) (e:FE):Bool :=
 R.chk e.N (e.cs.map (yi pre)) gs cl e.la e.b e.st && (e.ke.n == (fY e.st).length) && e.cs.all (fun j=>match pre[j]? with | some g=>Nat.ble (g.d + 3) e.d | none=>false) && Nat.ble 3 e.d
def kZ (gs:List (Str × AV)) (cl:List (Str × List Str)):List FE->List FE->Bool
 | _,[]=>true
 | pre,e::r=>e.chk gs cl pre && kZ gs cl (pre++[e]) r
def iR:List Fn->List FE->List Fn
 | fs,[]=>fs
 | fs,e::r=>iR (fs++[e.fn fs]) r
section
variable {P:Program}{w:World}{K:Frag}{mg:Str->Option Value}{base:Heap}{gs:List (Str × AV)}{cl:List (Str × List Str)}
def pJ [Lw] (P:Program) (w:World) (K:Frag) (mg:Str->Option Value) (base:Heap) (pre:List FE) (fs:List Fn):Prop:=pre.length=fs.length/\∀ (j:Nat) e,pre[j]?=some e->KOk P w K mg base e.d (kf fs j) e.ke
theorem uu [Lw] {d:Nat} (h:pJ P w K mg base pre fs):∀ cs:List Nat,(cs.all fun j=>match pre[j]? with | some g=>Nat.ble (g.d + 3) (d + 3) | none=>false)=true->KsOk P w K mg base d (cs.map (yi pre)) (cs.map (kf fs))
 | [],_=>trivial
 | j::cs,hc=>by
  rw [List.all_cons,zC] at hc;refine ⟨?_,uu h cs hc.2⟩;have h1:=hc.1;split at h1
  ·rename_i g hg
   have:=h.2 j g hg
   unfold yi;rw [hg];exact this.mono (by have:=zS h1;omega)
  ·cases h1
theorem G9 [Lw] {pre:List FE}{fs:List Fn}{e:FE} (E:Ev K mg gs cl) (h:pJ P w K mg base pre fs) (hf:e.ok K mg base) (hc:e.chk gs cl pre=true):KOk P w K mg base e.d (e.fn fs) e.ke:=by
 unfold FE.chk at hc;simp only [zC] at hc;obtain ⟨⟨⟨h1,h2⟩,h3⟩,h4⟩:=hc;have hn:=yK h2;obtain ⟨d,hd⟩:∃ d,e.d=d + 3:=⟨e.d - 3,by have:=zS h4;omega⟩;rw [hd] at h3 ⊢;have hk:=uu h e.cs h3;unfold FE.fn;unfold FE.ok at hf;split at hf
 ·rename_i x n ek
  obtain ⟨f,fd,m,F,L⟩:=hf;obtain ⟨a1,a2⟩:=nk F E L hk h1;rw [ek] at hn ⊢;exact ⟨f,fd,fY e.st,hn.symm,a1,m,F.kp,a2⟩
 ·rename_i c m n ek
  obtain ⟨f,fd,C,hC,hc,hm,F,L⟩:=hf;obtain ⟨a1,a2⟩:=nk F E L hk h1;rw [ek] at hn ⊢;exact ⟨f,fd,fY e.st,C,hn.symm,a1,hC,hc,hm,a2⟩
 ·rename_i c n ek
  obtain ⟨f,fd,C,hC,hm,F,L⟩:=hf;obtain ⟨a1,a2⟩:=nk F E L hk h1;rw [ek] at hn ⊢;exact ⟨f,fd,fY e.st,C,hn.symm,a1,hC,hm,a2⟩
theorem v7 {j:Nat} (h:j < fs.length):kf (fs++[g]) j=kf fs j:=by
 unfold kf;rw [zD,zD,zN h]
theorem B5:kf (fs++[g]) fs.length=g:=by
 unfold kf;rw [zD];simp
theorem sv [Lw] (E:Ev K mg gs cl):∀ (rest pre:List FE) (fs:List Fn),pJ P w K mg base pre fs->(∀ e ∈ rest,e.ok K mg base)->kZ gs cl pre rest=true->pJ P w K mg base (pre++rest) (iR fs rest)
 | [],pre,fs,h,_,_=>by rw [List.append_nil];exact h
 | e::r,pre,fs,h,hf,hc=>by
  unfold kZ at hc;rw [zC] at hc;have h1:=G9 E h (hf e z8) hc.1
  have:=sv E r (pre++[e]) (fs++[e.fn fs]) ⟨by simp [h.1],fun j g hg=>?_⟩ (fun g hg=>hf g (zQ _ hg)) hc.2
  ·rw [yN] at this;exact this
  ·rcases yS j pre.length with hj | hj
   ·rw [zN hj] at hg
    rw [v7 (by rw [<- h.1];exact hj)];exact h.2 j g hg
   ·have ej:j=pre.length:=by
     have:=(zB.mp hg).1
     rw [zV] at this;simp at this;omega
    subst ej;simp at hg;subst hg;rw [h.1,B5];exact h1
end
theorem GI [Lw] {K:Frag}{mg:Str->Option Value}{H:Hp}{a:Addr}{ns:List Int}{fn:Fn}{E:XK} (hg:∃ st,fn [.fz (ns.map .int)] []=some (.bl true,st)) (hS:aP K H a (ns.map V.int)) (tb:∀ t ∈ Lw.tb,fy H t.1 t.2.1 t.2.2):dz ⟨K,mg⟩ 1 fn [.ref a] H (fun v _=>v=.bl true) E:=by
 obtain ⟨st,e⟩:=hg;refine ⟨rfl,fun c=>∃ vs,Rd H c (.lst vs),[],[.fz (ns.map .int)],[],aI ?_ aX,Sim.nil (fun c h=>?_) (fun t ht=>⟨tb t ht,fun hq0=>by obtain ⟨vs,z⟩:=hq0;obtain ⟨ps,e,_⟩:=tb t ht;rcases z with z | ⟨o,z⟩ <;> (rw [e] at z;cases z)⟩),.bl true,st,e,fun P' φ' H' w f s r=>by simpa only [RA] using r⟩
 ·simp only [RA]
  refine ⟨a,ns.map V.int,rfl,?_,Lz.of_ints⟩;rcases hS with h | h
  ·exact .inl ⟨⟨_,h⟩,h⟩
  ·exact .inr fun H'=>.inr h
 ·obtain ⟨vs,h | ⟨o,h⟩⟩:=h <;> (rw [h];exact fun z=>nomatch z)
end R
namespace L2
open PySem PySem.Spec PyProof.Rows
theorem v0 {P:Program}{w:World}{K:Frag}{mg mb:Str->Option Value}{CX:lu}{k:Nat}{fa a:Addr}{fd:FuncData}{x:Str}{sp:Sp}{s₁:Shared}{vs:List Value}{ns:List Int}{tabs:List (Addr × Addr)}
  (KX:K.In s₁.heap) (hns:s₁.heap.Ns mainGlobals mg) (hb:s₁.heap.Ns builtinsNs mb) (hbb:∀ x:Str,x ≠ "__name__"->mb x=bootBuiltins x) (hlim:s₁.heap.NoLimit) (hg:s₁.gens=#[])
  (bm:∃ bm ob,mg "__builtins__"=some (.ref bm)/\bm ≠ builtinsNs/\s₁.heap.get? bm=some ob/\ob.cls=.type "module"/\ob.dict=some builtinsNs/\ob.data=.plain)
  (hT:TabsAt tabs s₁.heap) (hK0:noTabs K=true)
  (ha:s₁.heap.get? a=some { cls:=.type "list",data:=.seq vs.toArray }) (hi:IntsAre vs ns) (hl:ns.length <= sizeLine) (hr:Room k callerA)
  (F:∀ base:Heap,K.In base->base.Ns mainGlobals mg->iK mg base->FnOk P w K mg base CX k fa fd [x] sp) (hbind:∀ (s:Shared) (u:Value),BindsTo s fd ⟨[u],[]⟩ [(x,u)])
  (hsp:∀ H:Hp,(∀ q ∈ tabs,H q.2=some (.tbl #[]))->aP K H a (ns.map V.int)->sp [.ref a] H (fun v _=>v=.bl true) fun _ _ _=>False)
  (hCX:∀ H e s',CX [] H s₁ (fun _ _ _=>False) e s'->False) :
  codeAny (model P w) callerA (.call (.ref fa) ⟨[.ref a],[]⟩) (fun r s'=>r=.ok (.ret (.bool true))/\OldK s₁.heap s'.heap/\s'.os=s₁.os/\AllBare s'.gens) s₁:=by
 have rv:=uX hi;have lenV:=hi.length;have core:∀ H:Hp,aP K H a (ns.map V.int)->HOk P w H s₁.heap->(∀ b,H b=none\/(b=a/\K.lookup a=none/\∃ o xs,H b=some (.frz o (.lst xs)))\/(∃ q ∈ tabs,b=q.2/\H b=some (.tbl #[])))->(∀ q ∈ tabs,H q.2=some (.tbl #[])) ->
   codeAny (model P w) callerA (.call (.ref fa) ⟨[.ref a],[]⟩) (fun r s'=>r=.ok (.ret (.bool true))/\OldK s₁.heap s'.heap/\s'.os=s₁.os/\AllBare s'.gens) s₁:=by
  intro H hS LA hA hTb;have fv:∀ {b:Addr}{o:Obj},s₁.heap.get? b=some o->H b=none->(jd s₁.heap H).get? b=some o:=fun e n=>yn e n
  have none_of:∀ {b:Addr}{o:Obj},s₁.heap.get? b=some o->o.cls ≠ .type "list"->o ≠ tabObj #[]->H b=none:=fun {b o} e n1 n2=>by
   rcases hA b with z | ⟨rfl,_⟩ | ⟨q,hq,rfl,_⟩
   ·exact z
   ·rw [ha] at e;cases e;exact absurd rfl n1
   ·rw [(hT q hq).2] at e;cases e;exact absurd rfl n2
  have dict_of:∀ {b:Addr}{o:Obj}{es:Array DictEntry}{ep:Nat},s₁.heap.get? b=some o->o.data=.dict es ep->H b=none:=fun {b o es ep} e d=>by
   rcases hA b with z | ⟨rfl,_⟩ | ⟨q,hq,rfl,_⟩
   ·exact z
   ·rw [ha] at e;cases e;cases d
   ·rw [(hT q hq).2] at e;cases e;cases d
  have nsK:∀ {b:Addr}{m:Str->Option Value},s₁.heap.Ns b m->(jd s₁.heap H).Ns b m:=fun {b m} ⟨o,es,ep,e,d,r⟩=>⟨o,es,ep,fv e (dict_of e d),d,r⟩
  have hKb:K.In (jd s₁.heap H):=fun b o e=>fv (KX b o e) (by
   rcases hA b with z | ⟨rfl,z,_⟩ | ⟨q,hq,rfl,_⟩
   ·exact z
   ·rw [z] at e;cases e
   ·have e1:=KX _ o e
    rw [(hT q hq).2] at e1;cases e1;have h2:=yP.mp hK0 _ (mem_of_lookupK e);exact absurd (show false=true from h2) Bool.false_ne_true)
  have hM:Mod K mg (jd s₁.heap H):=⟨hKb,nsK hns,⟨mb,nsK hb,hbb⟩,let ⟨mc,h1,h2⟩:=hlim;⟨mc,nsK h1,h2⟩⟩;have hBM:iK mg (jd s₁.heap H):=by
   obtain ⟨bm,ob,b1,b2,b3,b4,b5,b6⟩:=bm;refine ⟨bm,ob,b1,b2,fun z=>?_,fv b3 (none_of b3 (by rw [b4];intro z;injection z with z;exact absurd z dC) (fun z=>by rw [z] at b4;cases b4)),b4,b5,b6⟩;obtain ⟨o,es,ep,e,d,_⟩:=hns;rw [z,e] at b3;cases b3;rw [d] at b6;cases b6
  have e0:Env0 P w K mg (jd s₁.heap H) callerA [] s₁ H:=⟨rfl,hM,fun b o e=>BT e,Nat.le_of_eq (wl _ _),trivial,fun b hb=>absurd (show b ∈ ([]:List Addr) from hb) (by simp),LA,.of_eq hg⟩;refine codeAny_mono ((F _ hKb (nsK hns) hBM).run callerA [] s₁ H ⟨[.ref a],[]⟩ [.ref a] [.ref a] _ _ hr e0 (hbind s₁ (.ref a)) (.cons rfl .nil) (hsp H hTb hS)) fun r s' h=>?_
  cases r with
  | error e=>exact (hCX H e s' h).elim
  | ok fl =>
   cases fl with
   | next=>exact False.elim h
   | brk=>exact False.elim h
   | cont=>exact False.elim h
   | ret u =>
    obtain ⟨v,H',os,bare,un,hok',r',q⟩:=h;have q':v=.bl true:=q;subst q';obtain rfl:u=Value.bool true:=r';have old:∀ b o,s₁.heap.get? b=some o->asItWas s₁.heap s'.heap b o:=fun b o e=>by
     rcases hA b with z | ⟨rfl,_,ob,xs,z⟩ | ⟨q,hq,rfl,z⟩
     ·exact .inl (un.keep b o e z (by intro z;exact absurd (show b ∈ ([]:List Addr) from z) (by simp)) (by simp))
     ·have z2:=un.frzs b ob _ z
      obtain ⟨e1,_⟩:=LA b _ z;obtain ⟨e2,_⟩:=hok' b _ z2;rw [e] at e1;cases e1;exact .inl e2
     ·obtain ⟨more,z2⟩:=un.tbls _ _ z
      have e2:=hok' _ _ z2;rw [(hT q hq).2] at e;cases e;exact .inr (.inl ⟨((hT q hq).1.tab (hT q hq).2).isCodeTable,rfl,#[],more,rfl,e2⟩)
    refine ⟨rfl,⟨old,fun b o e=>?_⟩,os,bare⟩;exact un.there b o e (by simp)
 have natab:∀ q ∈ tabs,q.2 ≠ a:=fun q hq e=>by
  have:=(hT q hq).2
  rw [e,ha] at this;cases this
 cases hk:K.lookup a with
 | some o =>
  have e:=KX a o hk;rw [ha] at e;cases e;refine core (fun b=>if b ∈ tabs.map (·.2) then some (.tbl #[]) else none) (.inr ⟨_,vs.toArray,_,hk,rfl,rfl,rfl,by rw [zI,lenV];exact hl,by simpa using rv⟩) (fun b u z=>?_) (fun b=>?_) fun q hq=>yI (List.mem_map_of_mem hq)
  ·dsimp only at z
   by_cases hb:b ∈ tabs.map (·.2)
   ·rw [yI hb] at z;cases z
    obtain ⟨q,hq,rfl⟩:=yD.mp hb;exact (hT q hq).2
   ·rw [yH hb] at z;cases z
  ·by_cases hb:b ∈ tabs.map (·.2)
   ·obtain ⟨q,hq,rfl⟩:=yD.mp hb
    exact .inr (.inr ⟨q,hq,rfl,yI hb⟩)
   ·exact .inl (yH hb)
 | none =>
  refine core (fun b=>if b ∈ tabs.map (·.2) then some (.tbl #[]) else if b=a then some (.frz { cls:=.type "list",data:=.seq vs.toArray } (.lst (ns.map V.int))) else none) (.inl (.inr ⟨{ cls:=.type "list",data:=.seq vs.toArray },?_⟩)) (fun b u z=>?_) (fun b=>?_) fun q hq=>yI (List.mem_map_of_mem hq)
  ·dsimp only
   rw [yH (fun z=>by obtain ⟨q,hq,e⟩:=yD.mp z;exact natab q hq e),yI rfl]
  ·dsimp only at z
   by_cases hb:b ∈ tabs.map (·.2)
   ·rw [yI hb] at z;cases z
    obtain ⟨q,hq,rfl⟩:=yD.mp hb;exact (hT q hq).2
   ·rw [yH hb] at z
    by_cases hb':b=a
    ·rw [yI hb'] at z;cases z
     subst hb';exact ⟨ha,by rw [zH];exact hl,vs,_,rv,ha⟩
    ·rw [yH hb'] at z;cases z
  ·by_cases hb:b ∈ tabs.map (·.2)
   ·obtain ⟨q,hq,rfl⟩:=yD.mp hb
    exact .inr (.inr ⟨q,hq,rfl,yI hb⟩)
   ·by_cases hb':b=a
    ·exact .inr (.inl ⟨hb',hk,_,_,(yH hb).trans (yI hb')⟩)
    ·exact .inl ((yH hb).trans (yH hb'))
theorem Cu {l:PySem.W.OpenLaw}{n k:Nat}{q:Program}{bL:List Str}{XP:(Str->Option Value)->Heap->Prop}{YP:World->Heap->Prop}{d:DefRec}{K:Params->Frag}{sp:World->Sp}{x:Str}{tabs:List (Addr × Addr)}
  (hn:l.most=some n) (hn2:n <= sizeLine) (hdf:d.params.defaults=[]) (hr:Room k callerA)
  (hY:∀ (w:World) (h:Heap),YP w h->(K w.params).In h/\∀ q ∈ tabs,h.get? q.2=some (tabObj #[])) (hc:∀ (w:World),∀ q ∈ tabs,codeHdIn (K w.params) q.1 q.2=true) (hK0:∀ (w:World),noTabs (K w.params)=true)
  (F:∀ (w:World) (mg:Str->Option Value) (fa:Addr) (h:Heap),(K w.params).In h->h.Ns mainGlobals mg->mg d.name=some (.ref fa) ->
   ∃ fd:FuncData,(∀ (s:Shared) (u:Value),BindsTo s fd ⟨[u],[]⟩ [(x,u)]) /\
    ∀ base:Heap,(K w.params).In base->base.Ns mainGlobals mg->iK mg base->FnOk l.prog w (K w.params) mg base eE k fa fd [x] (sp w))
  (hsp:∀ (w:World) (H:Hp) (a:Addr) (ns:List Int),ns.length <= n->(∀ q ∈ tabs,H q.2=some (.tbl #[]))->aP (K w.params) H a (ns.map V.int)->sp w [.ref a] H (fun v _=>v=.bl true) fun _ _ _=>False) :
  PySem.W.WalkO q bL XP YP l.row.toRowW d [] (fun f vs=>PySem.call f vs):=by
 refine Att.attach_call hn hdf fun w s₀ s₁ mg mb fa o pm cd doc a vs ns G Y ho hd hcd hmg hobj hints hlen hg=>?_
 obtain ⟨KX,hT0⟩:=hY w _ Y;obtain ⟨fd,hb,hF⟩:=F w mg fa _ KX G.T.g hmg;exact v0 (tabs:=tabs) KX G.T.g G.T.b G.T.builtins G.T.nolimit hg G.T.bmain (fun q hq=>⟨codeHd_of_K KX (hc w q hq),hT0 q hq⟩) (hK0 w) hobj hints (z0 hlen hn2) hr hF hb (fun H hO hS=>hsp w H a ns hlen hO hS) fun H e s' z=>z
end L2
namespace R
open PySem PySem.Spec PyProof.Rows L2
abbrev FD [Lw] (K:Frag) (qual:Str) (cd:Value) (la:List Pos):Prop:=la=[]\/∃ p c P,la=[p]/\cd=.ref c/\codeHdIn K c P=true/\Lw.tb=[(P,p,qual++".<locals>."++"<lambda>")]
abbrev FactF [Lw] (K:Frag) (x:Str) (e:FE):Prop:=∃ (f:Addr) (oc:Value) (od:Option Addr) (sl:Array (Option Value)) (kV dc pm:Value) (an:Option Addr) (cd ct:Value),nsIn K mainGlobals x=some (some (.ref f)) /\
 K.lookup f=some ⟨oc,od,.func (fnOf x e.qual (dD e.st) (dX e.st) (cx e.st) .none kV dc pm an cd ct),sl⟩/\codeIn K cd e.qual=true/\keepIn K (.ref f)=true/\FD K e.qual cd e.la
abbrev FactM [Lw] (K:Frag) (c m:Str) (e:FE):Prop:=∃ (C f:Addr) (oc:Value) (od:Option Addr) (sl:Array (Option Value)) (kV dc pm:Value) (an:Option Addr) (cd ct:Value),nsIn K mainGlobals c=some (some (.ref C))/\findIn K (.ref C) m=some (some (.ref f)) /\
 K.lookup f=some ⟨oc,od,.func (fnOf m e.qual (dD e.st) (dX e.st) (cx e.st) .none kV dc pm an cd ct),sl⟩/\codeIn K cd e.qual=true/\keepIn K (.ref f)=true/\isFn K (.ref f)=true/\FD K e.qual cd e.la
abbrev FactN (K:Frag) (c:Str):Prop:=∃ C:Addr,nsIn K mainGlobals c=some (some (.ref C))/\makesIn K C=true/\keepIn K (.ref C)=true
abbrev nU (K:Frag) (c:Str):Prop:=∃ C:Addr,nsIn K mainGlobals c=some (some (.ref C))/\plainGet K C Str.empty=true/\hasDictIn K C=true/\plainOver K C=true/\findIn K (.ref C) "__setattr__"=some (some (.builtin "object.__setattr__"))
abbrev AK (K:Frag) (c:Str) (fs:List Str):Prop:=∃ C:Addr,nsIn K mainGlobals c=some (some (.ref C))/\(fs.all fun f=>match findIn K (.ref C) f with | some none=>true | _=>false)=true
abbrev AE (K:Frag):Prop:=(bnames.all fun x=>match nsIn K mainGlobals x with | some none=>true | _=>false)=true
section
variable [Lw] {K:Frag}{h base:Heap}{mg:Str->Option Value}
theorem pD (B:K.In base) (hb:iK mg base) (L:FD K qual cd la):rL mg base qual cd la:=by
 intro p hp;rcases L with rfl | ⟨q,c,P,rfl,e,hc,ht⟩
 ·cases hp
 ·rw [zM.mp hp]
  exact ⟨c,P,e,codeHd_of_K B hc,hb,by rw [ht];simp,fun t h1 _=>by rw [ht] at h1;exact zM.mp h1⟩
theorem FactF.ok {n:Nat} (hk:e.ke=.f x n) (F:FactF K x e) (X:K.In h) (G:h.Ns mainGlobals mg) (B:K.In base) (hb:iK mg base):e.ok K mg base:=by
 obtain ⟨f,oc,od,sl,kV,dc,pm,an,cd,ct,a,l,c,k,L⟩:=F;unfold FE.ok;rw [hk];exact ⟨f,_,mg_of X G a,nq l c k,pD B hb L⟩
theorem wy (F:nU K c) (X:K.In h) (G:h.Ns mainGlobals mg) (hC:nsIn K mainGlobals c=some (some (.ref C))):mg c=some (.ref C)/\Cls K C:=by
 obtain ⟨C',a,f1,f2,f3,f4⟩:=F;rw [hC] at a;cases a;exact ⟨mg_of X G hC,⟨f1,f2,f3,f4⟩⟩
theorem FactM.ok {n:Nat} (hk:e.ke=.m c m n) (F:FactM K c m e) (C0:nU K c) (X:K.In h) (G:h.Ns mainGlobals mg) (B:K.In base) (hb:iK mg base):e.ok K mg base:=by
 obtain ⟨C,f,oc,od,sl,kV,dc,pm,an,cd,ct,a,g,l,cc,k,i,L⟩:=F;unfold FE.ok;rw [hk];obtain ⟨m1,m2⟩:=wy C0 X G a;exact ⟨f,_,C,m1,m2,⟨g,i,k⟩,nq l cc k,pD B hb L⟩
theorem FactN.ok {n:Nat} (hk:e.ke=.k c n) (F:FactM K c "__init__" e) (N:FactN K c) (X:K.In h) (G:h.Ns mainGlobals mg) (B:K.In base) (hb:iK mg base):e.ok K mg base:=by
 obtain ⟨C,f,oc,od,sl,kV,dc,pm,an,cd,ct,a,g,l,cc,k,i,L⟩:=F;obtain ⟨C',a',m1,m2⟩:=N;rw [a] at a';cases a';unfold FE.ok;rw [hk];exact ⟨f,_,C,mg_of X G a,⟨m1,g,i,m2⟩,nq l cc k,pD B hb L⟩
abbrev FactG (K:Frag) (p:Str × AV):Prop:=match p.2 with
 | .int i=>∃ t,nsIn K mainGlobals p.1=some (some (.int i t))
 | .str x=>∃ t,nsIn K mainGlobals p.1=some (some (.str x t))
 | _=>False
theorem FactG.ok (F:FactG K p) (X:K.In h) (G:h.Ns mainGlobals mg):∀ w,mL p.2=some w->∃ u,mg p.1=some u/\RelV w u:=by
 obtain ⟨x,c⟩:=p;intro w hw;cases c with
 | int i=>obtain ⟨t,e⟩:=F;cases hw;exact ⟨_,mg_of X G e,t,rfl⟩
 | str y=>obtain ⟨t,e⟩:=F;cases hw;exact ⟨_,mg_of X G e,t,rfl⟩
 | _=>exact F.elim
theorem Hc (X:K.In h) (G:h.Ns mainGlobals mg) (hb:AE K) (hg:∀ p ∈ gs,FactG K p) (hc:∀ p ∈ cl,nU K p.1/\AK K p.1 p.2):Ev K mg gs cl:=by
 refine ⟨fun x hx=>?_,fun p hp=>(hg p hp).ok X G,fun p hp=>?_⟩
 ·have:=yP.mp hb x hx
  split at this
  ·rename_i e;exact mg_none_of X G e
  ·cases this
 ·obtain ⟨C0,C,a,fs⟩:=hc p hp
  obtain ⟨m1,m2⟩:=wy C0 X G a;refine ⟨C,m1,m2,fun f hf=>?_⟩
  have:=yP.mp fs f hf
  split at this
  ·rename_i e;exact e
  ·cases this
end
theorem law_F [Lw] {P:Program}{w:World}{K:Frag}{h:Heap}{mg:Str->Option Value}{fa:Addr}{gs:List (Str × AV)}{cl:List (Str × List Str)}{pre:List FE}{e:FE}{fn:Fn} (X:K.In h) (G:h.Ns mainGlobals mg) (hfa:mg "law"=some (.ref fa))
  (hb:AE K) (hg:∀ p ∈ gs,FactG K p) (hc:∀ p ∈ cl,nU K p.1/\AK K p.1 p.2) (hchk:kZ gs cl [] pre=true) (hce:e.chk gs cl pre=true)
  (facts:∀ base:Heap,K.In base->iK mg base->∀ e ∈ pre,e.ok K mg base) (hF:FactF K "law" e) (hps:fY e.st=[("_law_script":Str)]) (hfn:e.fn (iR [] pre)=fn) :
  ∃ fd:FuncData,(∀ (s:Shared) (v:Value),BindsTo s fd ⟨[v],[]⟩ [("_law_script",v)])/\∀ base:Heap,K.In base->base.Ns mainGlobals mg->iK mg base ->
   FnOk P w K mg base eE e.d fa fd ["_law_script"] (fun vs H Q E=>∀ mg,dz ⟨K,mg⟩ 1 fn vs H Q E):=by
 have E:=Hc X G hb hg hc;unfold FE.chk at hce;simp only [zC] at hce;obtain ⟨⟨⟨h1,h2⟩,h3⟩,h4⟩:=hce;obtain ⟨d,hd⟩:∃ d,e.d=d + 3:=⟨e.d - 3,by have:=zS h4;omega⟩;rw [hd] at h3 ⊢;obtain ⟨f,oc,od,sl,kV,dc,pm,an,cd,ct,a,l,c,k,L⟩:=hF;have m:=mg_of X G a;rw [hfa] at m;cases m;have F:=nq l c k;refine ⟨fnOf "law" e.qual (dD e.st) (dX e.st) (cx e.st) .none kV dc pm an cd ct,fun s v=>?_,fun base B _ hbm=>?_⟩
 ·have hp:plainA (dD e.st)=true:=by
   unfold R.chk at h1;simp only [zC] at h1;exact h1.1.1.2
  refine .of_eq ?_
  have:=bind_plain (fd:=fnOf "law" e.qual (dD e.st) (dX e.st) (cx e.st) .none kV dc pm an cd ct) (us:=[v]) hp rfl (by show (fY e.st).Nodup;rw [hps];simp) (by show _=(fY e.st).length;rw [hps];rfl)
  rw [this];show pure ((fY e.st).zip [v])=_;rw [hps];rfl
 ·have pk:=sv (P:=P) (w:=w) E pre [] [] ⟨rfl,fun j g hg=>by simp at hg⟩ (facts base B hbm) hchk
  have hk:=uu (d:=d) pk e.cs h3
  have:=(nk F E (pD B hbm L) hk h1).1
  rw [hps] at this;have hfn':run e.N.length (ak (e.cs.map (kf (iR [] pre))) e.b)=fn:=hfn;rw [hfn'] at this;exact this.imp fun vs H Q E q=>q mg
theorem walk_R [Lw] {l:PySem.W.OpenLaw}{k:Nat}{q:Program}{bL:List Str}{XP:(Str->Option Value)->Heap->Prop}{YP:World->Heap->Prop}{d:DefRec}{K:Params->Frag}{fn:Fn}{tabs:List (Addr × Addr)}
  (hn:l.most=some 63) (hdf:d.params.defaults=[]) (hr:Room k callerA)
  (hY:∀ (w:World) (h:Heap),YP w h->(K w.params).In h/\∀ q ∈ tabs,h.get? q.2=some (tabObj #[])) (hc:∀ (w:World),∀ q ∈ tabs,codeHdIn (K w.params) q.1 q.2=true) (hK0:∀ (w:World),noTabs (K w.params)=true)
  (ht:∀ t ∈ Lw.tb,t.1 ∈ tabs.map (·.2)) (hg:∀ ns:List Int,ns.length <= 63->∃ st,fn [.fz (ns.map .int)] []=some (.bl true,st))
  (F:∀ (w:World) (mg:Str->Option Value) (fa:Addr) (h:Heap),(K w.params).In h->h.Ns mainGlobals mg->mg d.name=some (.ref fa) ->
   ∃ fd:FuncData,(∀ (s:Shared) (u:Value),BindsTo s fd ⟨[u],[]⟩ [("_law_script",u)]) /\
    ∀ base:Heap,(K w.params).In base->base.Ns mainGlobals mg->iK mg base->FnOk l.prog w (K w.params) mg base eE k fa fd ["_law_script"] (fun vs H Q E=>∀ mg,dz ⟨K w.params,mg⟩ 1 fn vs H Q E)) :
  PySem.W.WalkO q bL XP YP l.row.toRowW d [] (fun f vs=>PySem.call f vs) :=
 Cu (sp:=fun w vs H Q E=>∀ mg,dz ⟨K w.params,mg⟩ 1 fn vs H Q E) hn dC hdf hr hY hc hK0 F fun w H a ns hl hT hS mg=>GI (hg ns hl) hS fun t h=>by
  obtain ⟨q,hq,e⟩:=yD.mp (ht t h);exact ⟨#[],by rw [<- e];exact hT q hq,trivial,.inl rfl⟩
end R
namespace SX
def LM:Nat->(Nat->Int)->Int
 | 0,_=>0
 | n + 1,f=>LM n f + f n
theorem HQ {n:Nat}{f g:Nat->Int} (h:∀ i,i < n->f i=g i):LM n f=LM n g:=by
 induction n with
 | zero=>rfl
 | succ n ih=>simp only [LM];rw [ih fun i hi=>h i oM,h n oM]
theorem abs_sum {n:Nat}{f:Nat->Int}{M:Nat} (h:∀ i,i < n->(f i).natAbs <= M):(LM n f).natAbs <= n * M:=by
 induction n with
 | zero=>simp [LM]
 | succ n ih =>
  simp only [LM];have h1:=ih fun i hi=>h i oM
  have h2:=h n oM;rw [Nat.succ_mul]
  have:=Int.natAbs_add_le (LM n f) (f n)
  omega
structure Pm (w m:Nat) (h s:Nat->Nat):Prop where
 hl:∀ j,j < w->h j < w + m
 sl:∀ i,i < m->s i < w + m
 hi:∀ j k,j < w->k < w->h j=h k->j=k
 si:∀ j k,j < m->k < m->s j=s k->j=k
 hs:∀ j i,j < w->i < m->h j ≠ s i
 cov:∀ q,q < w + m->(∃ i,i < m/\s i=q)\/∃ j,j < w/\h j=q
structure Sh where
 d:Int
 ls:List (List Int)
 hd:List Nat
 sd:List Nat
 gd:List Nat
 nl:List Nat
 tn:List Nat
noncomputable def gI (xs:List Int) (j:Nat):Int:=xs.getD j 0
noncomputable def row (S:Sh) (i:Nat):List Int:=S.ls.getD i []
def Sh.t (S:Sh) (i j:Nat):Int:=gI (row S i) j
noncomputable def Sh.h (S:Sh) (j:Nat):Nat:=S.hd.getD j 0
noncomputable def Sh.s (S:Sh) (i:Nat):Nat:=S.sd.getD i 0
noncomputable def fdvS (a b:Int):Int:=if 0 < b then a / b else a.fdiv b
def chLine (l P:List Int) (c:Nat) (sg d:Int):List Int :=
 if gI l c=0 then (if gI P c=d then l else l.map fun x=>fdvS (x * gI P c) d) else ((l.zip P).map fun z=>fdvS (z.1 * gI P c - gI l c * z.2) d).set c (sg * gI l c)
noncomputable def sgn (x:Int):Int:=if x < 0 then -1 else 1
def pvl (S:Sh) (r c:Nat):List Int:=(row S r).map fun x=>sgn (S.t r c) * x
def LI (S:Sh) (r c:Nat):Sh:={ S with
 d:=gI (pvl S r c) c
 ls:=(S.ls.map fun l=>chLine l (pvl S r c) c (sgn (S.t r c)) S.d).set r (((pvl S r c).map fun x=>- x).set c (sgn (S.t r c) * S.d))
 hd:=S.hd.set c (S.s r)
 sd:=S.sd.set r (S.h c) }
structure LC (w m:Nat) (S:Sh):Prop where
 ls:S.ls.length=m
 row:∀ l ∈ S.ls,l.length=w + 1
 hd:S.hd.length=w
 sd:S.sd.length=m
theorem gI_set_at {xs:List Int}{j:Nat}{x:Int} (h:j < xs.length):gI (xs.set j x) j=x:=by
 unfold gI;simp [zD,h]
theorem gI_set_ne {j k:Nat}{x:Int} (h:k ≠ j):gI (xs.set j x) k=gI xs k:=by
 unfold gI;simp [zD,yU,h.symm]
theorem getD_mem {α:Type}{xs:List α}{i:Nat}{a:α} (h:i < xs.length):xs.getD i a ∈ xs:=by
 simp [zD,zF h]
theorem LC.rl {w m:Nat} (P:LC w m S) {i:Nat} (h:i < m):(SX.row S i).length=w + 1:=P.row _ (getD_mem (by rw [P.ls];exact h))
theorem uG {c:Nat}{sg d:Int} (h:l.length=P.length):(chLine l P c sg d).length=l.length:=by
 unfold chLine;split
 ·split
  ·rfl
  ·simp
 ·simp [h]
theorem exch_shp {w m:Nat}{r c:Nat} (P:LC w m S) (hr:r < m):LC w m (LI S r c):=by
 have hp:(pvl S r c).length=w + 1:=by unfold pvl;rw [zH];exact P.rl hr
 refine ⟨by simp [LI,P.ls],fun l hl=>?_,by simp [LI,P.hd],by simp [LI,P.sd]⟩;rcases List.mem_or_eq_of_mem_set hl with h | h
 ·obtain ⟨l',h1,rfl⟩:=yD.mp h
  rw [uG (by rw [P.row _ h1,hp])];exact P.row _ h1
 ·rw [h];simp [hp]
def trn (S:Sh) (p:Nat):Sh:={ S with ls:=S.ls.set p ((row S p).map fun x=>- x),tn:=if S.s p ∈ S.tn then S.tn else S.tn++[S.s p] }
theorem trn_shp {w m p:Nat} (P:LC w m S) (hp:p < m):LC w m (trn S p):=by
 refine ⟨by simp [trn,P.ls],fun l hl=>?_,P.hd,P.sd⟩;rcases List.mem_or_eq_of_mem_set hl with h | h
 ·exact P.row _ h
 ·rw [h,zH];exact P.rl hp
def IH (S:Sh) (w q r i:Nat):Prop:=S.t r w * - S.t i q < S.t i w * - S.t r q\/(S.t r w * - S.t i q=S.t i w * - S.t r q/\S.s r <= S.s i)
def LD (S:Sh) (w q k:Nat) (o:Option Nat):Prop:=(o=none->∀ i,i < k->S.s i ∈ S.gd->¬ S.t i q < 0)/\∀ r,o=some r->r < k/\S.s r ∈ S.gd/\S.t r q < 0/\∀ i,i < k->S.s i ∈ S.gd->S.t i q < 0->IH S w q r i
theorem Ka {A B C x y z:Int}{a b c:Nat} (hx:0 < x) (hy:0 < y) (hz:0 < z) (h1:A * y < B * x\/(A * y=B * x/\a <= b)) (h2:B * z < C * y\/(B * z=C * y/\b <= c)):A * z < C * x\/(A * z=C * x/\a <= c):=by
 have l1:A * y <= B * x:=by omega
 have l2:B * z <= C * y:=by omega
 have l3:(A * y) * z <= (B * x) * z:=Int.mul_le_mul_of_nonneg_right l1 oM;have l4:(B * z) * x <= (C * y) * x:=Int.mul_le_mul_of_nonneg_right l2 oM;have e1:(B * x) * z=(B * z) * x:=by grind
 have e2:(A * y) * z=(A * z) * y:=by grind
 have e3:(C * y) * x=(C * x) * y:=by grind
 have l5:(A * z) * y <= (C * x) * y:=by omega
 have l6:A * z <= C * x:=Int.le_of_mul_le_mul_right l5 hy;by_cases e:A * z=C * x
 ·right
  refine ⟨e,?_⟩;have e4:(A * z) * y=(C * x) * y:=by rw [e]
  have q1:A * y=B * x:=by
   have:(A * y) * z=(B * x) * z:=by omega
   exact Int.eq_of_mul_eq_mul_right oM this
  have q2:B * z=C * y:=by
   have:(B * z) * x=(C * y) * x:=by omega
   exact Int.eq_of_mul_eq_mul_right oM this
  rcases h1 with h1 | h1
  ·omega
  ·rcases h2 with h2 | h2
   ·omega
   ·omega
 ·left;omega
section
variable {S:Sh}{w q k r:Nat}{o:Option Nat}
theorem tt_zero:LD S w q 0 none:=⟨fun _ i h=>by omega,fun r h=>nomatch h⟩
theorem tt_skip (h:¬ (S.t k q < 0/\S.s k ∈ S.gd)) (T:LD S w q k o):LD S w q (k + 1) o:=by
 refine ⟨fun e i hi hg ht=>?_,fun r e=>?_⟩
 ·by_cases z:i=k
  ·subst z;exact h ⟨ht,hg⟩
  ·exact T.1 e i oM hg ht
 ·obtain ⟨a,b,c,d⟩:=T.2 r e
  refine ⟨by omega,b,c,fun i hi hg ht=>?_⟩;by_cases z:i=k
  ·subst z;exact absurd ⟨ht,hg⟩ h
  ·exact d i oM hg ht
theorem tt_first (h:S.t k q < 0) (hg:S.s k ∈ S.gd) (T:LD S w q k none):LD S w q (k + 1) (some k):=by
 refine ⟨(fun e=>nomatch e),fun r e=>?_⟩;cases e;refine ⟨by omega,hg,h,fun i hi hg ht=>?_⟩;by_cases z:i=k
 ·subst z;exact .inr ⟨rfl,zP _⟩
 ·exact absurd ht (T.1 rfl i oM hg)
theorem tt_new (h:S.t k q < 0) (hg:S.s k ∈ S.gd) (ht:S.t k w * - S.t r q < S.t r w * - S.t k q\/(S.t k w * - S.t r q=S.t r w * - S.t k q/\S.s k < S.s r)) (T:LD S w q k (some r)):LD S w q (k + 1) (some k):=by
 refine ⟨(fun e=>nomatch e),fun r' e=>?_⟩;cases e;obtain ⟨a,b,c,d⟩:=T.2 r rfl;refine ⟨by omega,hg,h,fun i hi hg' ht'=>?_⟩;by_cases z:i=k
 ·subst z;exact .inr ⟨rfl,zP _⟩
 ·exact Ka (x:=- S.t k q) (y:=- S.t r q) (z:=- S.t i q) oM oM oM (ht.imp id fun x=>⟨x.1,by omega⟩) (d i oM hg' ht')
theorem tt_old (h:S.t k q < 0) (ht:¬ (S.t k w * - S.t r q < S.t r w * - S.t k q\/(S.t k w * - S.t r q=S.t r w * - S.t k q/\S.s k < S.s r))) (T:LD S w q k (some r)):LD S w q (k + 1) (some r):=by
 refine ⟨(fun e=>nomatch e),fun r' e=>?_⟩;cases e;obtain ⟨a,b,c,d⟩:=T.2 r rfl;refine ⟨by omega,b,c,fun i hi hg' ht'=>?_⟩;by_cases z:i=k
 ·subst z
  unfold IH;have h1:¬ (S.t i w * - S.t r q < S.t r w * - S.t i q):=fun x=>ht (.inl x)
  by_cases e:S.t i w * - S.t r q=S.t r w * - S.t i q
  ·exact .inr ⟨e.symm,Nat.le_of_not_lt fun x=>ht (.inr ⟨e,x⟩)⟩
  ·left;omega
 ·exact d i oM hg' ht'
end
noncomputable def openS (w:Nat) (L:List (List Int)) (k:Nat):Sh:=⟨1,L,List.range w,(List.range L.length).map (w + ·),List.range k,[],[]⟩
end SX
namespace R
open PySem PySem.Spec L2
open DD (pyOk)
section
variable {ks:List Fn}{sl:Sl}{st:aa}
@[simp] theorem Lr:ev ks .n sl st=some (.non,st):=rfl
@[simp] theorem jn {x:Bool}:ev ks (.b x) sl st=some (.bl x,st):=rfl
@[simp] theorem cT {x:Int}:ev ks (.i x) sl st=some (.int x,st):=rfl
@[simp] theorem ie {x:Str}:ev ks (.s x) sl st=some (.str x,st):=rfl
@[simp] theorem Ls {x:Str}{c:AV}:ev ks (.g x c) sl st=some (c,st):=rfl
@[simp] theorem cu {k:Nat}:ev ks (.v k) sl st=aV k sl st:=rfl
@[simp] theorem bH {v:AV}:aV 0 (some v::sl) st=some (v,st):=rfl
@[simp] theorem bU {k:Nat}{x:Option AV}:aV (k + 1) (x::sl) st=aV k sl st:=rfl
@[simp] theorem gq {o:Operator}{a b:Ex}:ev ks (.bin o a b) sl st=(ev ks a sl st).bind fun p=>(ev ks b sl p.2).bind fun q=>(gh o q.2 p.1 q.1).map fun z=>(z,q.2):=rfl
@[simp] theorem tG {o:CmpOp}{a b:Ex}:ev ks (.cmp o a b) sl st=(ev ks a sl st).bind fun p=>(ev ks b sl p.2).bind fun q=>(mC o q.2 p.1 q.1).map fun z=>(z,q.2):=rfl
@[simp] theorem K0 {o:UnaryOp}{a:Ex}:ev ks (.un o a) sl st=(ev ks a sl st).bind fun p=>(se o p.2 p.1).map fun z=>(z,p.2):=rfl
def Eg (x:AV) (st:aa):Option (AV × aa):=match x with
 | .bl b=>some (.bl !b,st)
 | _=>none
def Fw (x:AV) (st:aa) (r:Option (AV × aa)):Option (AV × aa):=match x with
 | .bl b=>if b=true then r else some (.bl false,st)
 | _=>none
def DL (x:AV) (st:aa) (r:Option (AV × aa)):Option (AV × aa):=match x with
 | .bl b=>if b=true then some (.bl true,st) else r
 | _=>none
@[simp] theorem KP {b:Bool}:Eg (.bl b) st=some (.bl !b,st):=rfl
@[simp] theorem Aw {b:Bool}{r:Option (AV × aa)}:Fw (.bl b) st r=if b=true then r else some (.bl false,st):=rfl
@[simp] theorem Gz {b:Bool}{r:Option (AV × aa)}:DL (.bl b) st r=if b=true then some (.bl true,st) else r:=rfl
@[simp] theorem K1 {a:Ex}:ev ks (.no a) sl st=(ev ks a sl st).bind fun p=>Eg p.1 p.2:=by
 show Az (ev ks a) sl st=_;unfold Az Eg;congr 1
@[simp] theorem Cw {a b:Ex}:ev ks (.an a b) sl st=(ev ks a sl st).bind fun p=>Fw p.1 p.2 (ev ks b sl p.2):=by
 show AA (ev ks a) (ev ks b) sl st=_;unfold AA Fw;congr 1;funext p;cases p.1 <;> first | rfl | skip
 rename_i x;cases x <;> rfl
@[simp] theorem IM {a b:Ex}:ev ks (.or a b) sl st=(ev ks a sl st).bind fun p=>DL p.1 p.2 (ev ks b sl p.2):=by
 show Ax (ev ks a) (ev ks b) sl st=_;unfold Ax DL;congr 1;funext p;cases p.1 <;> first | rfl | skip
 rename_i x;cases x <;> rfl
@[simp] theorem zg {t:Tx}{a b:Ex}:ev ks (.ife t a b) sl st=(tv ks t sl st).bind fun p=>if p.1=true then ev ks a sl p.2 else ev ks b sl p.2:=rfl
@[simp] theorem cM {a b:Ex}:ev ks (.ix a b) sl st=(ev ks a sl st).bind fun p=>(ev ks b sl p.2).bind fun q=>(bM q.2 p.1 q.1).map fun z=>(z,q.2):=rfl
@[simp] theorem cN {p:Bool}{j:Nat}{es:Exs}:ev ks (.ca p j es) sl st=(dI ks es sl st).bind fun q=>vz p (kf ks j) q.1 q.2:=rfl
@[simp] theorem cP {f:Fn}:vz true f=pm f:=rfl
@[simp] theorem du {f:Fn}:vz false f=f:=rfl
@[simp] theorem cW {f:Fn}:kf (f::ks) 0=f:=rfl
@[simp] theorem dO {f:Fn}{j:Nat}:kf (f::ks) (j + 1)=kf ks j:=rfl
@[simp] theorem a0:dI ks .nil sl st=some ([],st):=rfl
@[simp] theorem aN {e:Ex}{es:Exs}:dI ks (.cons e es) sl st=(ev ks e sl st).bind fun p=>(dI ks es sl p.2).bind fun q=>some (p.1::q.1,q.2):=rfl
@[simp] theorem IL {es:Exs}:ev ks (.tu es) sl st=(dI ks es sl st).bind fun p=>if Nat.ble p.1.length 1000=true then some (.tup p.1,p.2) else none:=rfl
@[simp] theorem dy {x:Nx}:ev ks (.nw false x) sl st=(iS ks x sl st).bind fun p=>if rfs p.1=true then some (.fz p.1,p.2) else none:=rfl
@[simp] theorem wY {x:Nx}:ev ks (.nw true x) sl st=(iS ks x sl st).bind fun p=>some (.ref p.2.length,p.2++[.lst p.1]):=rfl
@[simp] theorem K3 {c m:Str}{j:Nat}{o:Ex}{es:Exs}:ev ks (.me c m j o es) sl st=(ev ks o sl st).bind fun p=>(jc p.2 c p.1).bind fun fs=>if (fs.lookup m).isNone=true then (dI ks es sl p.2).bind fun q=>kf ks j (p.1::q.1) q.2 else none:=rfl
@[simp] theorem K2 {c:Str}{j:Nat}{es:Exs}:ev ks (.ne c j es) sl st=wI c (kf ks j) (dI ks es) sl st:=rfl
@[simp] theorem K4 {c f:Str}{o:Ex}:ev ks (.fd c f o) sl st=(ev ks o sl st).bind fun p=>(jc p.2 c p.1).bind fun fs=>(fs.lookup f).map fun v=>(v,p.2):=rfl
@[simp] theorem tH {b:Bi}{es:Exs}:ev ks (.bi b es) sl st=(dI ks es sl st).bind fun p=>k9 b p.1 p.2:=rfl
@[simp] theorem wE:k9 .len=bC dZ:=rfl
@[simp] theorem Fo:k9 .sum=bC pV:=rfl
@[simp] theorem KA:k9 .abs=bC mF:=rfl
@[simp] theorem Kw:k9 .min=bC uf:=rfl
@[simp] theorem Kx:k9 .max=bC uh:=rfl
@[simp] theorem Ky:k9 .int=bC ot:=rfl
@[simp] theorem Fp:k9 .all=bC rF:=rfl
@[simp] theorem Kz:k9 .any=bC uR:=rfl
@[simp] theorem Cv {m:Mi}{o:Ex}{es:Exs}:ev ks (.mt m o es) sl st=mh (qA m) (vV m) (ev ks o) (dI ks es) sl st:=rfl
@[simp] theorem K5:ev ks .dn sl st=some (.ref st.length,st++[.dK []]):=rfl
@[simp] theorem KK {a:Ex}:ev ks (.mnd a) sl st=(ev ks a sl st).bind fun p=>bC mX [p.1] p.2:=by
 show (de (ev ks a) dR sl st).bind _=_;unfold de dR;cases ev ks a sl st <;> rfl
@[simp] theorem KJ {a k:Ex}:ev ks (.mnk a k) sl st=pH (ev ks a) (ev ks k) sl st:=rfl
@[simp] theorem Lj {a b c d:Ex}:fR ks (.z4 a b c d) sl st=EU (ev ks a) (ev ks b) (ev ks c) (ev ks d) sl st:=rfl
@[simp] theorem gK {es:Exs}:iS ks (.li es) sl st=(dI ks es sl st).bind fun p=>if bv p.1.length=true then some p else none:=rfl
@[simp] theorem zz {a b:Ex}:iS ks (.cat a b) sl st=ue (ev ks a) (ev ks b) sl st:=rfl
@[simp] theorem GA {es:Exs}{b:Ex}:iS ks (.rep es b) sl st=t0 (dI ks es) (ev ks b) sl st:=rfl
@[simp] theorem Lh {a:Ex}{l h:Ox}:iS ks (.sl a l h) sl st=sI (ev ks a) (qT ks l) (qT ks h) sl st:=rfl
@[simp] theorem KU {a:Ex}:iS ks (.lof a) sl st=og (ev ks a) sl st:=rfl
@[simp] theorem KR {a:Ex}:iS ks (.lr1 a) sl st=t9 (ev ks a) sl st:=rfl
@[simp] theorem KQ {a b:Ex}:iS ks (.lr2 a b) sl st=t8 (ev ks a) (ev ks b) sl st:=rfl
@[simp] theorem xT {k:Nat}{it:Ix}{t:Tg}{c:Cx'}{e:Ex}:iS ks (.lc k it t c e) sl st=(fR ks it sl st).bind fun p=>if bv p.1.Lx.length=true then fQ p.1.gd (cB ks t) (io ks c) (ev ks e) (sl++List.replicate k none) p.1.Lx p.2 else none:=rfl
@[simp] theorem Lg:qT ks .no sl st=some (none,st):=rfl
@[simp] theorem Lf {e:Ex}:qT ks (.so e) sl st=sG (ev ks e) sl st:=rfl
@[simp] theorem Lp:io ks .no sl st=some (true,st):=rfl
@[simp] theorem Lo {t:Tx}:io ks (.so t) sl st=tv ks t sl st:=rfl
@[simp] theorem Ip {a:Ex}:fR ks (.e a) sl st=(ev ks a sl st).bind fun p=>(m7 p.2 p.1).map fun iv=>(iv,p.2):=rfl
@[simp] theorem Ll {a:Ex}:fR ks (.r1 a) sl st=Aj (ev ks a) sl st:=rfl
@[simp] theorem Lk {a b:Ex}:fR ks (.r2 a b) sl st=Ai (ev ks a) (ev ks b) sl st:=rfl
@[simp] theorem Li {a b:Ex}:fR ks (.zi a b) sl st=iZ (ev ks a) (ev ks b) sl st:=rfl
@[simp] theorem JE {a:Ex}:fR ks (.en a) sl st=(ev ks a sl st).bind fun p=>(fF p.2 p.1).map fun iv=>(⟨bT 0 iv.Lx,iv.gd⟩,p.2):=rfl
@[simp] theorem Lm {a b:Ex}:fR ks (.es a b) sl st=uA (ev ks a) (ev ks b) sl st:=rfl
@[simp] theorem d5 {k:Nat}{x:AV}:cB ks (.nm k) x sl st=some (sl.set k (some x),st):=rfl
@[simp] theorem Ln {n:Nat}{ts:Tgs}{x:AV}:cB ks (.tu n ts) x sl st=wn n (je ks ts) x sl st:=rfl
@[simp] theorem EX {a b:Ex}{x:AV}:cB ks (.su a b) x sl st=(ev ks a sl st).bind fun p=>(ev ks b sl p.2).bind fun q=>(ii q.2 p.1 q.1 x).map fun st'=>(sl,st'):=rfl
@[simp] theorem Kp {xs:List AV}:je ks .nil xs sl st=EY xs sl st:=rfl
@[simp] theorem J8 {t:Tg}{ts:Tgs}{xs:List AV}:je ks (.cons t ts) xs sl st=E1 (cB ks t) (je ks ts) xs sl st:=rfl
@[simp] theorem IR {e:Ex}:tv ks (.va e) sl st=(ev ks e sl st).bind fun p=>(fA p.2 p.1).map fun b=>(b,p.2):=rfl
@[simp] theorem cF {o:CmpOp}{a b:Ex}:tv ks (.cmp o a b) sl st=(ev ks a sl st).bind fun p=>(ev ks b sl p.2).bind fun q=>(cE o q.2 p.1 q.1).map fun b=>(b,q.2):=rfl
@[simp] theorem IS {t:Tx}:tv ks (.no t) sl st=(tv ks t sl st).bind fun p=>some (!p.1,p.2):=rfl
@[simp] theorem K6 {t u:Tx}:tv ks (.an t u) sl st=(tv ks t sl st).bind fun p=>if p.1=true then tv ks u sl p.2 else some (false,p.2):=rfl
@[simp] theorem fW {t u:Tx}:tv ks (.or t u) sl st=(tv ks t sl st).bind fun p=>if p.1=true then some (true,p.2) else tv ks u sl p.2:=rfl
@[simp] theorem eA:ak ks .nil sl st=some (.nx sl st):=rfl
def vP (o:Out) (k:Sl->aa->Option Out):Option Out:=match o with
 | .nx sl st=>k sl st
 | o=>some o
@[simp] theorem vO {k:Sl->aa->Option Out}:vP (.nx sl st) k=k sl st:=rfl
@[simp] theorem vN {v:AV}{k:Sl->aa->Option Out}:vP (.rt v st) k=some (.rt v st):=rfl
@[simp] theorem Kl {k:Sl->aa->Option Out}:vP (.bk sl st) k=some (.bk sl st):=rfl
@[simp] theorem Kk {k:Sl->aa->Option Out}:vP (.ct sl st) k=some (.ct sl st):=rfl
@[simp] theorem mH {s:Sx}{ss:LB}:ak ks (.cons s ss) sl st=(cL ks s sl st).bind fun o=>vP o (ak ks ss):=by
 show (cL ks s sl st).bind _=(cL ks s sl st).bind _;congr 1
@[simp] theorem xk {e:Ex}:cL ks (.ex e) sl st=(ev ks e sl st).bind fun p=>some (.nx sl p.2):=rfl
@[simp] theorem cO {e:Ex}{t:Tg}:cL ks (.as e t) sl st=(ev ks e sl st).bind fun p=>(cB ks t p.1 sl p.2).bind fun q=>some (.nx q.1 q.2):=rfl
@[simp] theorem F2 {o:Operator}{a b e:Ex}:cL ks (.aus o a b e) sl st=tS o (ev ks a) (ev ks b) (ev ks e) sl st:=rfl
@[simp] theorem K7 {c f:Str}{o e:Ex}:cL ks (.fl c f o e) sl st=vj c f (ev ks o) (ev ks e) sl st:=rfl
@[simp] theorem pY {e:Ex}:cL ks (.rt e) sl st=(ev ks e sl st).bind fun p=>some (.rt p.1 p.2):=rfl
@[simp] theorem cZ {t:Tx}{a b:LB}:cL ks (.iff t a b) sl st=(tv ks t sl st).bind fun p=>if p.1=true then ak ks a sl p.2 else ak ks b sl p.2:=rfl
@[simp] theorem n8 {it:Ix}{t:Tg}{b:LB}:cL ks (.fo it t b) sl st=(fR ks it sl st).bind fun p=>dh p.1.gd (cB ks t) (ak ks b) p.1.Lx sl p.2:=rfl
@[simp] theorem KM {a:Ex}{t:Tg}{b:LB}:cL ks (.fd a t b) sl st=tR (ev ks a) (cB ks t) (ak ks b) sl st:=rfl
@[simp] theorem Jg {t:Tx}{b:LB}:cL ks (.wh t b) sl st=pZ (tv ks t) (ak ks b) sl st:=rfl
@[simp] theorem Kg:cL ks .dead sl st=none:=rfl
def aE (o:Out):Option (AV × aa):=match o with
 | .rt v st=>some (v,st)
 | .nx _ st=>some (.non,st)
 | _=>none
@[simp] theorem Kr {v:AV}:aE (.rt v st)=some (v,st):=rfl
@[simp] theorem Ks:aE (.nx sl st)=some (.non,st):=rfl
theorem aD {n:Nat}{b:LB}{args:List AV}:R.run n (ak ks b) args st=(ak ks b (args.map some++List.replicate (n - args.length) none) st).bind aE:=by
 unfold R.run;congr 1
end
@[simp] theorem eR:rfs []=true:=rfl
@[simp] theorem KN {x:AV}{xs:List AV}:rfs (x::xs)=(rf x && rfs xs):=by simp only [rfs]
@[simp] theorem Lb {i:Int}:rf (.int i)=true:=rfl
@[simp] theorem Ld {i:Bool}:rf (.bl i)=true:=rfl
@[simp] theorem K9 {i:Str}:rf (.str i)=true:=rfl
@[simp] theorem La:rf .non=true:=rfl
@[simp] theorem Lc {xs:List AV}:rf (.fz xs)=true:=rfl
@[simp] theorem K8 {xs:List AV}:rf (.tup xs)=rfs xs:=by simp only [rf]
section
variable {st:aa}{a b:Int}
theorem An:oX st (.int a) (.int b)=some (decide (a=b)):=by
 show (if pyOk (.int a) (.int b)=true then some (PyData.eqv (.int a) (.int b)) else none)=_;rw [yI (by simp [pyOk,PyData.canLay0,PyData.depth])];congr 1
@[simp] theorem JV:cE .Eq st (.int a) (.int b)=some (decide (a=b)):=An
@[simp] theorem Fm:cE .NotEq st (.int a) (.int b)=some (!decide (a=b)):=by show ((oX st (.int a) (.int b)).map fun x=>!x)=_;rw [An];rfl
@[simp] theorem JS:cE .Lt st (.int a) (.int b)=some (decide (a < b)):=rfl
@[simp] theorem Lq:cE .LtE st (.int a) (.int b)=some (decide (a <= b)):=rfl
@[simp] theorem JT:cE .Gt st (.int a) (.int b)=some (decide (b < a)):=rfl
@[simp] theorem JU:cE .GtE st (.int a) (.int b)=some (decide (b <= a)):=rfl
@[simp] theorem Fl {o:CmpOp}{x y:AV}:mC o st x y=(cE o st x y).map .bl:=rfl
@[simp] theorem KY:cE .Is st .non .non=some true:=rfl
@[simp] theorem KZ:cE .Is st (.int a) .non=some false:=rfl
@[simp] theorem Ku:cE .IsNot st .non .non=some false:=rfl
@[simp] theorem Kv:cE .IsNot st (.int a) .non=some true:=rfl
@[simp] theorem uO:gh .Add st (.int a) (.int b)=some (.int (a + b)):=rfl
@[simp] theorem Ht:gh .Sub st (.int a) (.int b)=some (.int (a - b)):=rfl
theorem cq (h:cH a b=true):gh .Mult st (.int a) (.int b)=some (.int (a * b)):=by
 show (if cH a b=true then _ else _:Option Int).map _=_;rw [yI h];rfl
theorem pG (h:jQ b=true):gh .FloorDiv st (.int a) (.int b)=some (.int (sY a b)):=by
 show (if jQ b=true then _ else _:Option Int).map _=_;rw [yI h];rfl
theorem lK (h:b ≠ 0):gh .Mod st (.int a) (.int b)=some (.int (qR a b)):=by
 show (if b=0 then _ else _:Option Int).map _=_;rw [yH h];rfl
@[simp] theorem KL:se .USub st (.int a)=some (.int (-a)):=rfl
theorem eN {x y:Int} (h1:x.natAbs < 2 ^ 9000) (h2:y.natAbs < 2 ^ 9000):cH x y=true:=by
 have lg:∀ z:Nat,z < 2 ^ 9000->Nat.ble z.log2 1000000=true:=fun z hz=>by
  by_cases h0:z=0
  ·subst h0;rfl
  ·exact yL (z0 (yW ((Nat.log2_lt h0).mpr hz)) oM)
 unfold cH;rw [lg _ h1,lg _ h2,Bool.and_true,Bool.or_true]
theorem qX {y:Int} (h0:y ≠ 0) (h2:y.natAbs < 2 ^ 9000):jQ y=true:=by
 unfold jQ;have:Nat.ble y.natAbs.log2 8999=true:=yL (by have:=(Nat.log2_lt (n:=y.natAbs) oM).mpr h2;omega);rw [this];simp [h0]
end
end R
namespace R
open PySem PySem.Spec L2
open SX (Sh gI)
noncomputable def iL (l:List Int):List AV:=l.map .int
noncomputable def nL (l:List Nat):List AV:=l.map fun q=>.int ((q:Nat):Int)
def kL (l:List Nat):List (aR × AV):=l.map fun q=>(.inl ((q:Nat):Int),.bl true)
def cK (d:Int) (a b c g n u:Nat):List (Str × AV):=[("below",.int d),("lines",.ref a),("heads",.ref b),("sides",.ref c),("guarded",.ref g),("nailed",.ref n),("turned",.ref u)]
section
variable {d:Int}{a b c g n u:Nat}
@[simp] theorem Jw:(cK d a b c g n u).lookup ("below":Str)=some (AV.int d):=rfl
@[simp] theorem Ju:(cK d a b c g n u).lookup ("lines":Str)=some (AV.ref a):=rfl
@[simp] theorem Jv:(cK d a b c g n u).lookup ("heads":Str)=some (AV.ref b):=rfl
@[simp] theorem Jt:(cK d a b c g n u).lookup ("sides":Str)=some (AV.ref c):=rfl
@[simp] theorem GE:(cK d a b c g n u).lookup ("guarded":Str)=some (AV.ref g):=rfl
@[simp] theorem Ij:(cK d a b c g n u).lookup ("nailed":Str)=some (AV.ref n):=rfl
@[simp] theorem Ii:(cK d a b c g n u).lookup ("turned":Str)=some (AV.ref u):=rfl
@[simp] theorem yc:(cK d a b c g n u).lookup ("loose_columns":Str)=none:=rfl
@[simp] theorem wU:(cK d a b c g n u).lookup ("raising_column":Str)=none:=rfl
@[simp] theorem wT:(cK d a b c g n u).lookup ("tightest_place":Str)=none:=rfl
@[simp] theorem Cr:(cK d a b c g n u).lookup ("is_tighter":Str)=none:=rfl
@[simp] theorem B1:(cK d a b c g n u).lookup ("is_up_first":Str)=none:=rfl
@[simp] theorem FK:(cK d a b c g n u).lookup ("exchange":Str)=none:=rfl
@[simp] theorem J7:(cK d a b c g n u).lookup ("lift":Str)=none:=rfl
@[simp] theorem FM:(cK d a b c g n u).lookup ("drive_up":Str)=none:=rfl
@[simp] theorem yb:(cK d a b c g n u).lookup ("moving_column":Str)=none:=rfl
@[simp] theorem Js:(cK d a b c g n u).lookup ("guard":Str)=none:=rfl
@[simp] theorem J6:(cK d a b c g n u).lookup ("nail":Str)=none:=rfl
@[simp] theorem EC:(cK d a b c g n u).lookup ("turn_line":Str)=none:=rfl
end
def RowR (st:aa) (x:AV) (l:List Int):Prop:=x=.fz (iL l)\/∃ r,x=.ref r/\(st[r]?=some (.lst (iL l))\/st[r]?=some (.al (.fz (iL l))))
structure Rep (st:aa) (k a b c g n u:Nat) (rows:List AV) (S:Sh):Prop where
 hk:st[k]?=some (.ins "Sheet" (cK S.d a b c g n u))
 ha:st[a]?=some (.lst rows)
 hb:st[b]?=some (.lst (nL S.hd))
 hc:st[c]?=some (.lst (nL S.sd))
 hg:st[g]?=some (.dK (kL S.gd))
 hn:st[n]?=some (.dK (kL S.nl))
 hu:st[u]?=some (.dK (kL S.tn))
 len:rows.length=S.ls.length
 row:∀ i x,rows[i]?=some x->RowR st x (SX.row S i)
 ab:a ≠ b
 ac:a ≠ c
 bc:b ≠ c
 gn:g ≠ n
 gu:g ≠ u
 nu:n ≠ u
 ra:∀ (i r:Nat),rows[i]?=some (.ref r)->r ≠ a/\r ≠ b/\r ≠ c
section
variable {st:aa}{x:AV}{xs:List AV}{l:List Int}{i:Int}
theorem RowR.ls (h:RowR st x l):bD st x=some (iL l):=by
 rcases h with rfl | ⟨r,rfl,h | h⟩
 ·rfl
 ·unfold bD dr;simp only [h]
 ·unfold bD dr;simp only [h]
theorem cg (h:bD st x=some xs):bM st x (.int i)=fL xs i:=by
 have hd:mB st x (.int i)=none:=by
  unfold mB;have h1:iY st x=none:=by
   cases x <;> first | rfl | skip
   rename_i k;unfold bD dr at h;unfold iY;dsimp only at h ⊢;cases e:st[k]? with
   | none=>rfl
   | some c=>cases c <;> first | rfl | (rw [e] at h;simp only [e] at h;cases h)
  have h2:lZ st x=none:=by
   cases x <;> first | rfl | skip
   rename_i k;unfold bD dr at h;unfold lZ;dsimp only at h ⊢;cases e:st[k]? with
   | none=>rfl
   | some c=>cases c <;> first | rfl | (rw [e] at h;simp only [e] at h;cases h)
  rw [h1,h2]
 unfold bM;rw [hd];dsimp only;rw [h]
theorem db {α:Type}{xs:List α}{j:Nat}:fL xs ((j:Nat):Int)=xs[j]?:=by
 unfold fL jv;rw [yI oM];by_cases h:j < xs.length
 ·rw [yI oM];simp
 ·rw [yH oM,List.getElem?_eq_none oM];rfl
theorem oB {α:Type}{xs:List α}{n:Nat} (h:xs.length=n + 1):fL xs (-1)=xs[n]?:=by
 unfold fL jv;rw [yH oM,yI oM,h,bind_some];congr 1;omega
theorem cw {j:Nat} (h:j < l.length):(iL l)[j]?=some (.int (gI l j)):=by
 unfold iL gI;simp [h,zD]
theorem fZ {l:List Nat}{j:Nat} (h:j < l.length):(nL l)[j]?=some (.int ((l.getD j 0:Nat):Int)):=by
 unfold nL;simp [h,zD]
theorem ba {k:Nat} (h:st[k]?=some (.lst xs)):bD st (.ref k)=some xs:=by unfold bD dr;simp only [h]
theorem sQ {g:Nat}{l:List Nat}{q:Nat} (h:st[g]?=some (.dK (kL l))):oT st (.int q) (.ref g)=some (decide (q ∈ l)):=by
 unfold oT mB iY;simp only [h,jM,map_some];congr 1;unfold mo kL;rw [Option.isSome_map,List.find?_map,Option.isSome_map,Bool.eq_iff_iff,List.isSome_find?,List.any_eq_true];simp [Int.ofNat_inj]
end
noncomputable def kA (rows:List AV) (i:Nat):AV:=rows.getD i .non
section
variable {st:aa}{k a b c g n u w m:Nat}{rows:List AV}{S:Sh}{i j:Nat}
theorem Rep.ins (R:Rep st k a b c g n u rows S):jc st "Sheet" (.ref k)=some (cK S.d a b c g n u):=by
 unfold jc;simp only [R.hk];rfl
theorem Rep.rx (R:Rep st k a b c g n u rows S) (P:SX.LC w m S) (hi:i < m):rows[i]?=some (kA rows i):=by
 have:i < rows.length:=by rw [R.len,P.ls];exact hi
 unfold kA;rw [zD,zF this];rfl
theorem Rep.line (R:Rep st k a b c g n u rows S) (P:SX.LC w m S) (hi:i < m):bM st (.ref a) (.int (i:Int))=some (kA rows i):=by
 rw [cg (ba R.ha),db];exact R.rx P hi
theorem Rep.rowl (R:Rep st k a b c g n u rows S) (P:SX.LC w m S) (hi:i < m):bD st (kA rows i)=some (iL (SX.row S i)):=(R.row i _ (R.rx P hi)).ls
theorem Rep.cell (R:Rep st k a b c g n u rows S) (P:SX.LC w m S) (hi:i < m) (hj:j < w + 1):bM st (kA rows i) (.int (j:Int))=some (.int (S.t i j)):=by
 rw [cg (R.rowl P hi),db,cw (by rw [P.rl hi];exact hj)];rfl
theorem Rep.last (R:Rep st k a b c g n u rows S) (P:SX.LC w m S) (hi:i < m):bM st (kA rows i) (.int (-1))=some (.int (S.t i w)):=by
 rw [cg (R.rowl P hi),oB (n:=w) (by unfold iL;rw [zH];exact P.rl hi),cw (by rw [P.rl hi];omega)];rfl
theorem Rep.side (R:Rep st k a b c g n u rows S) (P:SX.LC w m S) (hi:i < m):bM st (.ref c) (.int (i:Int))=some (.int (S.s i:Int)):=by
 rw [cg (ba R.hc),db,fZ (by rw [P.sd];exact hi)];rfl
theorem Rep.head (R:Rep st k a b c g n u rows S) (P:SX.LC w m S) (hj:j < w):bM st (.ref b) (.int (j:Int))=some (.int (S.h j:Int)):=by
 rw [cg (ba R.hb),db,fZ (by rw [P.hd];exact hj)];rfl
theorem Rep.ing (R:Rep st k a b c g n u rows S) {q:Nat}:cE .In st (.int q) (.ref g)=some (decide (q ∈ S.gd)):=sQ R.hg
theorem Rep.nin (R:Rep st k a b c g n u rows S) {q:Nat}:cE .NotIn st (.int q) (.ref n)=some (!decide (q ∈ S.nl)):=by show (oT st _ _).map _=_;rw [sQ R.hn];rfl
end
theorem f9 {α:Type}{em:α->AV}{B:α->Bool}{F:α->AV} (hg:ci gd st=true):∀ {xs:List α},(∀ x ∈ xs,∃ sl1,g (em x) sl st=some (sl1,st)/\t sl1 st=some (B x,st)/\(B x=true->f sl1 st=some (F x,st)))->fQ gd g t f sl (xs.map em) st=some ((xs.filter B).map F,st)
 | [],_=>by show (if ci gd st=true then _ else _)=_;rw [yI hg];rfl
 | x::xs,h=>by
  obtain ⟨sl1,h1,h2,h3⟩:=h x z8;have ih:=f9 hg (xs:=xs) fun y hy=>h y (zQ _ hy)
  show (if ci gd st=true then (g (em x) sl st).bind _ else none)=_;rw [yI hg,h1,bind_some];dsimp only;rw [h2,bind_some];cases hB:B x with
  | true=>rw [yI rfl];dsimp only;rw [h3 hB,bind_some];dsimp only;rw [ih,List.filter_cons,hB];rfl
  | false=>rw [yH (by simp)];dsimp only;rw [ih,List.filter_cons,hB];rfl
theorem lw:∀ {xs:List AV},(∀ x ∈ xs,rf x=true)->rfs xs=true
 | [],_=>rfl
 | x::xs,h=>by simp only [rfs,zC];exact ⟨h x z8,lw fun y hy=>h y (zQ _ hy)⟩
theorem xo:rfs (iL l)=true:=lw fun x hx=>by obtain ⟨i,_,rfl⟩:=yD.mp hx;rfl
theorem ik:rfs (nL l)=true:=lw fun x hx=>by obtain ⟨i,_,rfl⟩:=yD.mp hx;rfl
mutual
theorem wG:∀ (x:AV),cA x x=true
 | .non=>rfl
 | .bl _=>by simp [cA]
 | .int _=>by simp [cA]
 | .str _=>by simp [cA]
 | .ref _=>by simp [cA]
 | .tup a=>by simp only [cA];exact i7 a
 | .fz a=>by simp only [cA];exact i7 a
theorem i7:∀ (xs:List AV),fH xs xs=true
 | []=>rfl
 | x::xs=>by simp only [fH,wG x,i7 xs,Bool.and_self]
end
theorem gf {k:Nat} (h:st[k]?=some (.lst xs)):ci [(k,.lst xs)] st=true:=by
 simp only [ci,h,uL,i7,Bool.and_self]
theorem He:bT 0 (nL l)=l.zipIdx.map fun z=>.tup [.int ((z.2:Nat):Int),.int ((z.1:Nat):Int)]:=by
 unfold bT nL;rw [List.zipIdx_map,List.map_map];rfl
@[simp] theorem Kb:iM st (.tup xs)=some xs:=rfl
@[simp] theorem wd:m7 st (.fz xs)=some ⟨xs,[]⟩:=rfl
@[simp] theorem EM:fF st (.fz xs)=some ⟨xs,[]⟩:=rfl
@[simp] theorem hU:bD st (.fz xs)=some xs:=rfl
theorem jw {k:Nat} (h:st[k]?=some (.lst xs)):fF st (.ref k)=some ⟨xs,[(k,.lst xs)]⟩:=by
 unfold fF dr;simp only [h]
theorem oo {k:Nat} (h:st[k]?=some (.lst xs)):m7 st (.ref k)=some ⟨xs,[(k,.lst xs)]⟩:=by
 have:iM st (.ref k)=none:=by unfold iM dr;simp only [h]
 unfold m7;dsimp only;rw [this];exact jw h
@[simp] theorem dW:ci [] st=true:=rfl
theorem sP:jO (nL l)=some (l.map fun q=>((q:Nat):Int)):=by
 unfold jO nL;exact jK (f:=fun x=>match x with | .int i=>some i | _=>none) (i:=fun q:Nat=>AV.int q) (g:=fun q=>((q:Nat):Int)) (fun _=>rfl) l
theorem Cc:jO (iL l)=some l:=by
 unfold jO iL
 have:=jK (f:=fun x:AV=>match x with | .int i=>some i | _=>none) (i:=fun q:Int=>AV.int q) (g:=fun q=>q) (fun _=>rfl) l
 rw [List.map_id'] at this;exact this
noncomputable def oN:Option Nat->AV
 | none=>.non
 | some c=>.int (c:Int)
noncomputable def bL (S:Sh):List Nat:=(S.hd.zipIdx.filter fun z=>!decide (z.1 ∈ S.nl)).map (·.2)
theorem gA {w m:Nat} (P:SX.LC w m S) {j:Nat}:j ∈ bL S ↔ j < w/\S.h j ∉ S.nl:=by
 unfold bL;simp only [yD,List.mem_filter,Prod.exists];constructor
 ·rintro ⟨q,i,⟨h1,h2⟩,rfl⟩
  have h3:=List.mem_zipIdx' h1;have hi:i < S.hd.length:=h3.1;refine ⟨by rw [<- P.hd];exact hi,?_⟩;have:S.h i=q:=by
   show S.hd.getD i 0=q;rw [zD,zF hi,h3.2];rfl
  rw [this];simpa using h2
 ·rintro ⟨h1,h2⟩
  have hi:j < S.hd.length:=by rw [P.hd];exact h1
  refine ⟨S.h j,j,⟨?_,by simpa using h2⟩,rfl⟩;have e:S.h j=S.hd[j]:=by
   show S.hd.getD j 0=_;rw [zD,zF hi];rfl
  rw [e,List.mem_zipIdx_iff_getElem?];exact zF hi
theorem cp {n:Nat} (h:n <= 1000):bv n=true:=yL oM
theorem Ez {l:List Nat}{key:EF}{sl:Sl}{st:aa}{f:Nat->Nat} (h:∀ q ∈ l,key (sl++[some (.int ((q:Nat):Int))]) st=some (.int ((f q:Nat):Int),st)):bJ (v6 key sl st) (l.map fun q=>((q:Nat):Int))=some (l.map fun q=>((f q:Nat):Int)):=by
 induction l with
 | nil=>rfl
 | cons x l ih =>
  have h1:v6 key sl st (x:Int)=some ((f x:Nat):Int):=by unfold v6;rw [h x z8]
  simp only [zO,bJ,h1,ih fun q hq=>h q (zQ _ hq),bind_some,map_some]
def fk (gd:Gd) (g:GF) (s:SF) (xs:List AV):Out->Option Out
 | .nx sl st=>dh gd g s xs sl st
 | .ct sl st=>dh gd g s xs sl st
 | .bk sl st=>some (.nx sl st)
 | .rt v st=>some (.rt v st)
theorem kO (hg:ci gd st=true) (h1:g x sl st=some p) (h2:s p.1 p.2=some o):dh gd g s (x::xs) sl st=fk gd g s xs o:=by
 show (if ci gd st=true then (g x sl st).bind _ else none)=_;rw [yI hg,h1,bind_some,h2,bind_some];cases o <;> rfl
theorem ow {gd:Gd}{g:GF}{s:SF}{I:Nat->Sl->aa->Prop}{Post:AV->aa->Prop}{xs:List AV} (hg:∀ i sl st,i <= xs.length->I i sl st->ci gd st=true)
  (h:∀ i x sl st,xs[i]?=some x->I i sl st->∃ p o,g x sl st=some p/\s p.1 p.2=some o/\((∃ sl2 st2,o=.nx sl2 st2/\I (i + 1) sl2 st2)\/∃ v st2,o=.rt v st2/\Post v st2)) :
  ∀ {sl:Sl}{st:aa},I 0 sl st->(∃ sl' st',dh gd g s xs sl st=some (.nx sl' st')/\I xs.length sl' st')\/∃ v st',dh gd g s xs sl st=some (.rt v st')/\Post v st':=by
 have go:∀ (r:Nat) (j:Nat) {sl:Sl}{st:aa},j + r=xs.length->I j sl st->(∃ sl' st',dh gd g s (xs.drop j) sl st=some (.nx sl' st')/\I xs.length sl' st')\/∃ v st',dh gd g s (xs.drop j) sl st=some (.rt v st')/\Post v st':=fun r=>by
  induction r with
  | zero =>
   intro j sl st hj hI;left;rw [List.drop_of_length_le oM];refine ⟨sl,st,?_,by rw [show xs.length=j by omega];exact hI⟩;show (if ci gd st=true then _ else _)=_;rw [yI (hg j sl st oM hI)]
  | succ r ih =>
   intro j sl st hj hI;have hl:j < xs.length:=by omega
   obtain ⟨p,o,h1,h2,h3⟩:=h j xs[j] sl st (zF hl) hI;rw [List.drop_eq_getElem_cons hl];have e:=kO (xs:=xs.drop (j + 1)) (hg j sl st oM hI) h1 h2;rw [e];rcases h3 with ⟨sl2,st2,rfl,h3⟩ | ⟨v,st2,rfl,h3⟩
   ·exact ih (j + 1) oM h3
   ·exact .inr ⟨v,st2,rfl,h3⟩
 intro sl st h0
 have:=go xs.length 0 oM h0
 rw [List.drop_zero] at this;exact this
theorem gg {gd:Gd}{g:GF}{s:SF}{I:Nat->Sl->aa->Prop}{xs:List AV} (hg:∀ i sl st,i <= xs.length->I i sl st->ci gd st=true)
  (h:∀ i x sl st,xs[i]?=some x->I i sl st->∃ p sl2 st2,g x sl st=some p/\s p.1 p.2=some (.nx sl2 st2)/\I (i + 1) sl2 st2) {sl:Sl}{st:aa} (h0:I 0 sl st):∃ sl' st',dh gd g s xs sl st=some (.nx sl' st')/\I xs.length sl' st':=by
 rcases ow (Post:=fun _ _=>False) hg (fun i x sl st hx hI=>by
  obtain ⟨p,sl2,st2,a,b,c⟩:=h i x sl st hx hI;exact ⟨p,_,a,b,.inl ⟨sl2,st2,rfl,c⟩⟩) h0 with h | ⟨_,_,_,h⟩
 ·exact h
 ·exact h.elim
theorem nA {i:Nat} (h:(bT 0 xs)[i]?=some y):∃ x,xs[i]?=some x/\y=.tup [.int ((i:Nat):Int),x]:=by
 unfold bT at h;rw [zR] at h;obtain ⟨z,h1,rfl⟩:=zE.mp h;rw [List.getElem?_zipIdx] at h1;obtain ⟨x,h2,rfl⟩:=zE.mp h1;exact ⟨x,h2,by simp⟩
theorem lG:(bT 0 xs).length=xs.length:=by unfold bT;simp
section
variable {st:aa}{k a b c g n u w m:Nat}{rows:List AV}{S:Sh}{i j q:Nat}{x:AV}{l:List Int}{e e':Ly}
theorem ao (h:q ≠ j):(st.set q e')[j]?=st[j]?:=by rw [yU];simp [h]
theorem dP (h:st[q]?=some e):(st.set q e')[q]?=some e':=by
 rw [yU];simp [(zB.mp h).1]
theorem ga (h:st[j]?=some e):(st++ys)[j]?=some e:=by
 rw [zN (zB.mp h).1];exact h
theorem gl:(st++[e])[st.length]?=some e:=by simp
theorem bn (h1:st[i]?=some e) (h2:st[j]?=some e') (h:e ≠ e'):i ≠ j:=fun z=>h (by rw [z,h2] at h1;injection h1 with h1;exact h1.symm)
theorem RowR.set (h:RowR st x l) (hq:∀ r,x=.ref r->q ≠ r):RowR (st.set q e') x l:=by
 rcases h with h | ⟨r,h1,h2⟩
 ·exact .inl h
 ·exact .inr ⟨r,h1,by rw [ao (hq r h1)];exact h2⟩
theorem RowR.app (h:RowR st x l):RowR (st++ys) x l:=by
 rcases h with h | ⟨r,h1,h2 | h2⟩
 ·exact .inl h
 ·exact .inr ⟨r,h1,.inl (ga h2)⟩
 ·exact .inr ⟨r,h1,.inr (ga h2)⟩
theorem Rep.app (R:Rep st k a b c g n u rows S):Rep (st++ys) k a b c g n u rows S :=
 ⟨ga R.hk,ga R.ha,ga R.hb,ga R.hc,ga R.hg,ga R.hn,ga R.hu,R.len,fun i x h=>(R.row i x h).app,R.ab,R.ac,R.bc,R.gn,R.gu,R.nu,R.ra⟩
theorem Rep.rowk (R:Rep st k a b c g n u rows S) {r:Nat} (h:rows[i]?=some (.ref r)):r ≠ k/\r ≠ g/\r ≠ n/\r ≠ u:=by
 have hr:=R.row i _ h;rcases hr with h | ⟨r',h1,h2⟩
 ·cases h
 ·cases h1
  rcases h2 with h2 | h2
  ·exact ⟨bn h2 R.hk (fun z=>nomatch z),bn h2 R.hg (fun z=>nomatch z),bn h2 R.hn (fun z=>nomatch z),bn h2 R.hu (fun z=>nomatch z)⟩
  ·exact ⟨bn h2 R.hk (fun z=>nomatch z),bn h2 R.hg (fun z=>nomatch z),bn h2 R.hn (fun z=>nomatch z),bn h2 R.hu (fun z=>nomatch z)⟩
theorem Rep.fields {a':Nat} (R:Rep st k a b c g n u rows S) (ha:st[a']?=some (.lst rows')) (hb:S'.hd=S.hd) (hc:S'.sd=S.sd) (hg:S'.gd=S.gd) (hn:S'.nl=S.nl) (hu:S'.tn=S.tn) (len:rows'.length=S'.ls.length)
  (row:∀ i x,rows'[i]?=some x->RowR st x (SX.row S' i)) (ab:a' ≠ b) (ac:a' ≠ c) (ra:∀ (i r:Nat),rows'[i]?=some (.ref r)->r ≠ a'/\r ≠ b/\r ≠ c):Rep (st.set k (.ins "Sheet" (cK S'.d a' b c g n u))) k a' b c g n u rows' S':=by
 have na:k ≠ a':=bn R.hk ha (fun z=>nomatch z);refine ⟨dP R.hk,by rw [ao na];exact ha,?_,?_,?_,?_,?_,len,fun i x h=>(row i x h).set fun r e=>?_,ab,ac,R.bc,R.gn,R.gu,R.nu,ra⟩
 ·rw [ao (bn R.hk R.hb (fun z=>nomatch z)),hb];exact R.hb
 ·rw [ao (bn R.hk R.hc (fun z=>nomatch z)),hc];exact R.hc
 ·rw [ao (bn R.hk R.hg (fun z=>nomatch z)),hg];exact R.hg
 ·rw [ao (bn R.hk R.hn (fun z=>nomatch z)),hn];exact R.hn
 ·rw [ao (bn R.hk R.hu (fun z=>nomatch z)),hu];exact R.hu
 ·subst e
  rcases row i _ h with z | ⟨r',h1,h2⟩
  ·cases z
  ·cases h1
   rcases h2 with h2 | h2
   ·exact bn R.hk h2 (fun z=>nomatch z)
   ·exact bn R.hk h2 (fun z=>nomatch z)
theorem Rep.heads (R:Rep st k a b c g n u rows S):Rep (st.set b (.lst (nL hd'))) k a b c g n u rows { S with hd:=hd' } :=
 ⟨by rw [ao (bn R.hb R.hk (fun z=>nomatch z))];exact R.hk,by rw [ao (Ne.symm R.ab)];exact R.ha,dP R.hb,by rw [ao R.bc];exact R.hc,by rw [ao (bn R.hb R.hg (fun z=>nomatch z))];exact R.hg,by rw [ao (bn R.hb R.hn (fun z=>nomatch z))];exact R.hn,
  by rw [ao (bn R.hb R.hu (fun z=>nomatch z))];exact R.hu,R.len,fun i x h=>(R.row i x h).set fun r e=>Ne.symm (R.ra i r (by rw [<- e];exact h)).2.1,R.ab,R.ac,R.bc,R.gn,R.gu,R.nu,R.ra⟩
theorem Rep.sides (R:Rep st k a b c g n u rows S):Rep (st.set c (.lst (nL sd'))) k a b c g n u rows { S with sd:=sd' } :=
 ⟨by rw [ao (bn R.hc R.hk (fun z=>nomatch z))];exact R.hk,by rw [ao (Ne.symm R.ac)];exact R.ha,by rw [ao (Ne.symm R.bc)];exact R.hb,dP R.hc,by rw [ao (bn R.hc R.hg (fun z=>nomatch z))];exact R.hg,by rw [ao (bn R.hc R.hn (fun z=>nomatch z))];exact R.hn,
  by rw [ao (bn R.hc R.hu (fun z=>nomatch z))];exact R.hu,R.len,fun i x h=>(R.row i x h).set fun r e=>Ne.symm (R.ra i r (by rw [<- e];exact h)).2.2,R.ab,R.ac,R.bc,R.gn,R.gu,R.nu,R.ra⟩
theorem Rep.guard (R:Rep st k a b c g n u rows S):Rep (st.set g (.dK (kL gd'))) k a b c g n u rows { S with gd:=gd' } :=
 ⟨by rw [ao (bn R.hg R.hk (fun z=>nomatch z))];exact R.hk,by rw [ao (bn R.hg R.ha (fun z=>nomatch z))];exact R.ha,by rw [ao (bn R.hg R.hb (fun z=>nomatch z))];exact R.hb,by rw [ao (bn R.hg R.hc (fun z=>nomatch z))];exact R.hc,dP R.hg,by rw [ao R.gn];exact R.hn,by rw [ao R.gu];exact R.hu,
  R.len,fun i x h=>(R.row i x h).set fun r e=>Ne.symm (R.rowk (i:=i) (by rw [<- e];exact h)).2.1,R.ab,R.ac,R.bc,R.gn,R.gu,R.nu,R.ra⟩
theorem Rep.nail (R:Rep st k a b c g n u rows S):Rep (st.set n (.dK (kL nl'))) k a b c g n u rows { S with nl:=nl' } :=
 ⟨by rw [ao (bn R.hn R.hk (fun z=>nomatch z))];exact R.hk,by rw [ao (bn R.hn R.ha (fun z=>nomatch z))];exact R.ha,by rw [ao (bn R.hn R.hb (fun z=>nomatch z))];exact R.hb,by rw [ao (bn R.hn R.hc (fun z=>nomatch z))];exact R.hc,by rw [ao (Ne.symm R.gn)];exact R.hg,dP R.hn,by rw [ao R.nu];exact R.hu,
  R.len,fun i x h=>(R.row i x h).set fun r e=>Ne.symm (R.rowk (i:=i) (by rw [<- e];exact h)).2.2.1,R.ab,R.ac,R.bc,R.gn,R.gu,R.nu,R.ra⟩
theorem Rep.turned (R:Rep st k a b c g n u rows S):Rep (st.set u (.dK (kL tn'))) k a b c g n u rows { S with tn:=tn' } :=
 ⟨by rw [ao (bn R.hu R.hk (fun z=>nomatch z))];exact R.hk,by rw [ao (bn R.hu R.ha (fun z=>nomatch z))];exact R.ha,by rw [ao (bn R.hu R.hb (fun z=>nomatch z))];exact R.hb,by rw [ao (bn R.hu R.hc (fun z=>nomatch z))];exact R.hc,by rw [ao (Ne.symm R.gu)];exact R.hg,by rw [ao (Ne.symm R.nu)];exact R.hn,dP R.hu,
  R.len,fun i x h=>(R.row i x h).set fun r e=>Ne.symm (R.rowk (i:=i) (by rw [<- e];exact h)).2.2.2,R.ab,R.ac,R.bc,R.gn,R.gu,R.nu,R.ra⟩
theorem sn {p i:Nat}:SX.row { S with ls:=S.ls.set p l } i=if i=p/\p < S.ls.length then l else SX.row S i:=by
 unfold SX.row;simp only [zD,yU];by_cases h:i=p
 ·subst h
  by_cases h2:i < S.ls.length
  ·simp [h2]
  ·simp [h2]
 ·rw [yH fun z=>h z.symm,yH fun z=>h z.1]
theorem Rep.rowset {p:Nat} (R:Rep st k a b c g n u rows S) (hx:RowR st x l) (hr:∀ r,x=.ref r->r ≠ a/\r ≠ b/\r ≠ c):Rep (st.set a (.lst (rows.set p x))) k a b c g n u (rows.set p x) { S with ls:=S.ls.set p l }:=by
 have hs:∀ i y,(rows.set p x)[i]?=some y->(i=p/\p < rows.length/\y=x)\/(i ≠ p/\rows[i]?=some y):=fun i y h=>by
  rw [yU] at h;by_cases e:p=i
  ·rw [yI e] at h
   split at h
   ·cases h;exact .inl ⟨e.symm,by assumption,rfl⟩
   ·cases h
  ·rw [yH e] at h;exact .inr ⟨fun z=>e z.symm,h⟩
 refine ⟨by rw [ao (bn R.ha R.hk (fun z=>nomatch z))];exact R.hk,dP R.ha,by rw [ao R.ab];exact R.hb,by rw [ao R.ac];exact R.hc,by rw [ao (bn R.ha R.hg (fun z=>nomatch z))];exact R.hg,by rw [ao (bn R.ha R.hn (fun z=>nomatch z))];exact R.hn,
  by rw [ao (bn R.ha R.hu (fun z=>nomatch z))];exact R.hu,by simp [R.len],fun i y h=>?_,R.ab,R.ac,R.bc,R.gn,R.gu,R.nu,fun i r h=>?_⟩
 ·rw [sn]
  rcases hs i y h with ⟨h1,h2,rfl⟩ | ⟨h1,h2⟩
  ·rw [yI ⟨h1,by rw [<- R.len];exact h2⟩];exact hx.set fun r e=>Ne.symm (hr r e).1
  ·rw [yH fun z=>h1 z.1];exact (R.row i y h2).set fun r e=>Ne.symm (R.ra i r (by rw [<- e];exact h2)).1
 ·rcases hs i _ h with ⟨h1,h2,h3⟩ | ⟨h1,h2⟩
  ·exact hr r h3.symm
  ·exact R.ra i r h2
theorem Rep.cellset {p r:Nat} (R:Rep st k a b c g n u rows S) (hp:rows[p]?=some (.ref r)) (ho:∀ i,i ≠ p->rows[i]? ≠ some (.ref r)):Rep (st.set r (.lst (iL l))) k a b c g n u rows { S with ls:=S.ls.set p l }:=by
 obtain ⟨n1,n2,n3⟩:=R.ra p r hp;obtain ⟨n4,n5,n6,n7⟩:=R.rowk hp;have hlt:p < S.ls.length:=by rw [<- R.len];exact (zB.mp hp).1
 refine ⟨by rw [ao n4];exact R.hk,by rw [ao n1];exact R.ha,by rw [ao n2];exact R.hb,by rw [ao n3];exact R.hc,by rw [ao n5];exact R.hg,by rw [ao n6];exact R.hn,by rw [ao n7];exact R.hu,by simp [R.len],fun i y h=>?_,R.ab,R.ac,R.bc,R.gn,R.gu,R.nu,R.ra⟩;rw [sn];by_cases e:i=p
 ·subst e
  rw [yI ⟨rfl,hlt⟩];rw [hp] at h;cases h;rcases R.row i _ hp with z | ⟨r',h1,h2⟩
  ·cases z
  ·cases h1
   rcases h2 with h2 | h2
   ·exact .inr ⟨r,rfl,.inl (dP h2)⟩
   ·exact .inr ⟨r,rfl,.inl (dP h2)⟩
 ·rw [yH fun z=>e z.1]
  exact (R.row i y h).set fun r' e' z=>ho i e (by rw [z,<- e'];exact h)
theorem Rep.freeze {r:Nat} (R:Rep st k a b c g n u rows S) (hp:rows[i]?=some (.ref r)) (hr:st[r]?=some (.lst (iL l))):Rep (st.set r (.al (.fz (iL l)))) k a b c g n u rows S:=by
 obtain ⟨n1,n2,n3⟩:=R.ra i r hp;obtain ⟨n4,n5,n6,n7⟩:=R.rowk hp;refine ⟨by rw [ao n4];exact R.hk,by rw [ao n1];exact R.ha,by rw [ao n2];exact R.hb,by rw [ao n3];exact R.hc,by rw [ao n5];exact R.hg,by rw [ao n6];exact R.hn,by rw [ao n7];exact R.hu,R.len,fun j y h=>?_,R.ab,R.ac,R.bc,R.gn,R.gu,R.nu,R.ra⟩;rcases R.row j y h with z | ⟨r',h1,h2⟩
 ·exact .inl z
 ·by_cases e:r=r'
  ·subst e
   refine .inr ⟨r,h1,.inr ?_⟩;rw [dP hr];rcases h2 with h2 | h2
   ·rw [hr] at h2;injection h2 with h2;injection h2 with h2;rw [h2]
   ·rw [hr] at h2;cases h2
  ·exact .inr ⟨r',h1,by rw [ao e];exact h2⟩
theorem RowR.it (h:RowR st x l):∃ gd,m7 st x=some ⟨iL l,gd⟩/\ci gd st=true:=by
 rcases h with rfl | ⟨r,rfl,h | h⟩
 ·exact ⟨[],rfl,rfl⟩
 ·exact ⟨_,oo h,gf h⟩
 ·refine ⟨[],?_,rfl⟩
  have:iM st (.ref r)=none:=by unfold iM dr;simp only [h]
  unfold m7;dsimp only;rw [this];unfold fF dr;simp only [h]
end
theorem ED {gd:Gd}{g:GF}{t:TF}{f:EF}{sl:Sl}{J:Nat->aa->Prop}{F:Nat->AV}{xs:List AV} (hg:∀ i st,i <= xs.length->J i st->ci gd st=true)
  (h:∀ i x st,xs[i]?=some x->J i st->∃ sl1 st1,g x sl st=some (sl1,st)/\t sl1 st=some (true,st)/\f sl1 st=some (F i,st1)/\J (i + 1) st1) {st:aa} (h0:J 0 st):∃ st',fQ gd g t f sl xs st=some ((List.range xs.length).map F,st')/\J xs.length st':=by
 have go:∀ (r j:Nat) {st:aa},j + r=xs.length->J j st->∃ st',fQ gd g t f sl (xs.drop j) st=some ((List.range' j r).map F,st')/\J xs.length st':=fun r=>by
  induction r with
  | zero =>
   intro j st hj hJ;rw [List.drop_of_length_le oM];refine ⟨st,?_,by rw [show xs.length=j by omega];exact hJ⟩;show (if ci gd st=true then _ else _)=_;rw [yI (hg j st oM hJ)];rfl
  | succ r ih =>
   intro j st hj hJ;have hl:j < xs.length:=by omega
   obtain ⟨sl1,st1,h1,h2,h3,h4⟩:=h j xs[j] st (zF hl) hJ;obtain ⟨st',e,hJ'⟩:=ih (j + 1) oM h4;refine ⟨st',?_,hJ'⟩;rw [List.drop_eq_getElem_cons hl];show (if ci gd st=true then (g xs[j] sl st).bind _ else none)=_;rw [yI (hg j st oM hJ),h1,bind_some];dsimp only;rw [h2,bind_some,yI rfl];dsimp only;rw [h3,bind_some];dsimp only;rw [e];rfl
 obtain ⟨st',e,hJ⟩:=go xs.length 0 oM h0;rw [List.drop_zero] at e;rw [<- List.range_eq_range'] at e;exact ⟨st',e,hJ⟩
@[simp] theorem jx:(iL l).length=l.length:=by unfold iL;simp
@[simp] theorem ju:(nL l).length=l.length:=by unfold nL;simp
@[simp] theorem cG:rfs (iL l)=true:=xo
theorem gC {q:Nat}{x:Int}:(iL l).set q (.int x)=iL (l.set q x):=by unfold iL;rw [List.map_set]
theorem vS {q x:Nat}:(nL l).set q (.int (x:Int))=nL (l.set q x):=by unfold nL;rw [List.map_set]
theorem qF {α:Type}{em:α->AV}{F:α->Int}{xs:List α} (hg:ci gd st=true) (h:∀ x ∈ xs,∃ sl1,g (em x) sl st=some (sl1,st)/\t sl1 st=some (true,st)/\f sl1 st=some (.int (F x),st)):fQ gd g t f sl (xs.map em) st=some (iL (xs.map F),st):=by
 rw [f9 (B:=fun _=>true) (F:=fun x=>.int (F x)) hg fun x hx=>by obtain ⟨s,a,b,c⟩:=h x hx;exact ⟨s,a,b,fun _=>c⟩];unfold iL;rw [List.map_map,List.filter_eq_self.mpr fun _ _=>rfl];rfl
theorem jL (hg:ci gd st=true) (h:∀ x ∈ l,∃ sl1,g (.int x) sl st=some (sl1,st)/\t sl1 st=some (true,st)/\f sl1 st=some (.int (F x),st)):fQ gd g t f sl (iL l) st=some (iL (l.map F),st):=qF hg h
theorem c8 {k q:Nat} (h:st[k]?=some (.lst xs)) (hq:q < xs.length):ii st (.ref k) (.int (q:Int)) x=some (st.set k (.lst (xs.set q x))):=by
 unfold ii;simp only [h];have:jv xs.length (q:Int)=some q:=by unfold jv;rw [yI oM,yI oM];simp
 rw [this];rfl
theorem oj {k q:Nat} (h:st[k]?=some (.dK (kL l))) (hl:l.length <= 1000):ii st (.ref k) (.int (q:Int)) (.bl true)=some (st.set k (.dK (kL (if q ∈ l then l else l++[q])))):=by
 unfold ii;simp only [h,jM,bind_some];rw [yI (cp (by unfold kL;rw [zH];exact hl))];congr 2;unfold mr kL;by_cases hq:q ∈ l
 ·rw [yI hq,yI (by simp only [List.any_map,List.any_eq_true];exact ⟨q,hq,by simp⟩),List.map_map]
  congr 1;refine List.map_congr_left fun x hx=>?_
  show (if _ then _ else _)=_;split
  ·rfl
  ·rfl
 ·rw [yH hq,yH (by
   simp only [List.any_map,List.any_eq_true,Function.comp];rintro ⟨x,hx,e⟩;have:x=q:=by have:((x:Nat):Int)=((q:Nat):Int):=(by simpa using e);omega
   exact hq (this ▸ hx)),List.map_append]
  rfl
theorem ag (h:cL ks s sl st=some (.nx sl' st')) (h2:(ak ks ss sl' st').bind aE=r):(ak ks (.cons s ss) sl st).bind aE=r:=by
 rw [mH,h,bind_some,vO];exact h2
theorem bG (h:cL ks s sl st=some (.nx sl' st')) (h2:ak ks ss sl' st'=r):ak ks (.cons s ss) sl st=r:=by
 rw [mH,h,bind_some,vO];exact h2
theorem bY (h:cL ks s sl st=some (.rt v st')):(ak ks (.cons s ss) sl st).bind aE=some (v,st'):=by
 rw [mH,h,bind_some,vN];rfl
theorem bA (h:rfs args=true) (h1:fn args []=some (v,st')) (h2:eM st' v=some t):pm fn args st=some (t,st):=by
 unfold pm;rw [yI h,h1,bind_some];dsimp only;rw [h2];rfl
section
variable {d:Int}{a b c g n u:Nat}
theorem xE {d':Int}:iN "below" (.int d') (cK d a b c g n u)=cK d' a b c g n u:=rfl
theorem xD {a':Nat}:iN "lines" (.ref a') (cK d a b c g n u)=cK d a' b c g n u:=rfl
theorem g9 {k:Nat} (h1:ev ks e sl st=some (v,st')) (h2:ev ks o sl st'=some (.ref k,st')) (h3:jc st' cn (.ref k)=some fs) (h4:Nat.ble fs.length 900=true):cL ks (.fl cn f o e) sl st=some (.nx sl (st'.set k (.ins cn (iN f v fs)))):=by
 show vj cn f (ev ks o) (ev ks e) sl st=_;unfold vj;rw [h1,bind_some];dsimp only;rw [h2,bind_some];dsimp only;rw [h3,bind_some,yI h4]
end
theorem lv (h:t sl st=some (false,st')):dJ t s 1 sl st=some (.nx sl st'):=by
 show (t sl st).bind _=_;rw [h,bind_some,yH (by simp)]
theorem mJ (h:t sl st=some (true,st')) (h2:s sl st'=some (.rt v st2)):dJ t s 1 sl st=some (.rt v st2):=by
 show (t sl st).bind _=_;rw [h,bind_some,yI rfl];dsimp only;rw [h2];rfl
theorem fV {n:Nat} (h:t sl st=some (true,st')) (h2:s sl st'=some (.nx sl2 st2)) (h3:dJ t s n sl2 st2=some o):dJ t s (n + 1) sl st=some o:=by
 show (t sl st).bind _=_;rw [h,bind_some,yI rfl];dsimp only;rw [h2];exact h3
theorem pO (h:cL ks s sl st=some (.rt v st')):ak ks (.cons s ss) sl st=some (.rt v st'):=by
 rw [mH,h,bind_some,vN]
theorem bX {ks:List Fn}{s:Sx}{ss:LB}{sl sl':Sl}{st st':aa}{Q:AV × aa->Prop} (h:cL ks s sl st=some (.nx sl' st')) (h2:∃ r,(ak ks ss sl' st').bind aE=some r/\Q r):∃ r,(ak ks (.cons s ss) sl st).bind aE=some r/\Q r:=by
 obtain ⟨r,e,q⟩:=h2;exact ⟨r,ag h e,q⟩
def aB (L:List (List Int)):List AV:=L.map fun l=>.fz (iL l)
@[simp] theorem J9:(aB L).length=L.length:=by unfold aB;simp
@[simp] theorem Kq:rfs (aB L)=true:=lw fun x hx=>by obtain ⟨l,_,rfl⟩:=yD.mp hx;rfl
theorem EV:iL a++iL b=iL (a++b):=by unfold iL;rw [List.map_append]
theorem ur {α:Type}{em:α->AV}{F:α->List Int}{xs:List α} (hg:ci gd st=true) (h:∀ x ∈ xs,∃ sl1,g (em x) sl st=some (sl1,st)/\t sl1 st=some (true,st)/\f sl1 st=some (.fz (iL (F x)),st)):fQ gd g t f sl (xs.map em) st=some (aB (xs.map F),st):=by
 rw [f9 (B:=fun _=>true) (F:=fun x=>.fz (iL (F x))) hg fun x hx=>by obtain ⟨s,a,b,c⟩:=h x hx;exact ⟨s,a,b,fun _=>c⟩];unfold aB;rw [List.map_map,List.filter_eq_self.mpr fun _ _=>rfl];rfl
theorem k7 (h1:ev ks a sl st=some (x,s1)) (h2:ev ks b sl s1=some (y,s2)) (h3:bD s2 x=some (iL l)) (h4:bD s2 y=some (iL l')) (hl:l.length + l'.length <= 1000):iS ks (.cat a b) sl st=some (iL (l++l'),s2):=by
 rw [zz];unfold ue;rw [h1,bind_some];dsimp only;rw [h2,bind_some];dsimp only;rw [h3,bind_some,h4,bind_some,yI (cp (by simpa using hl)),EV]
theorem tT {n:Nat}:df 0 n=nL (List.range n):=by unfold df nL;simp
theorem F3 {w n:Nat}:df (w:Int) n=nL ((List.range n).map (w + ·)):=by unfold df nL;simp [List.map_map,Function.comp_def]
theorem AZ {n:Nat}:bJ (eG n st) (iL l)=some (iL l):=jK (f:=eG n st) (i:=AV.int) (g:=AV.int) (fun x=>by cases n <;> rfl) l
theorem sk {k:Nat} (h:st[k]?=some (.lst (iL l))):eM st (.ref k)=some (.fz (iL l)):=by
 show eG 6 st (.ref k)=_;unfold eG;simp only [h,AZ,map_some]
theorem CS {k:Nat} (h:st[k]?=some (.al t)):eM st (.ref k)=some t:=by
 show eG 6 st (.ref k)=_;unfold eG;simp only [h]
theorem kD {fn:Fn}{rest:List AV}{st st':aa}{x v t:AV}{l:List Int} (hx:RowR st x l) (h0:rfs rest=true) (hm:bJ (eM st) rest=some rest) (hf:∀ s,nj s rest=some (rest,s)) (e1:fn (.fz (iL l)::rest) []=some (v,st')) (e2:eM st' v=some t) (ht:di t=false) :
  ∃ st1,pm fn (x::rest) st=some (t,st1)/\(st1=st\/∃ r,x=.ref r/\st[r]?=some (.lst (iL l))/\st1=st.set r (.al (.fz (iL l)))):=by
 have aE:∀ r st1,x=.ref r->eM st (.ref r)=some (.fz (iL l))->oU st (.ref r)=some (.fz (iL l),st1)->pm fn (x::rest) st=some (t,st1):=fun r st1 ex h1 h2=>by
  subst ex;have m:bJ (eM st) (.ref r::rest)=some (.fz (iL l)::rest):=by simp only [bJ,h1,hm];rfl
  have f:nj st (.ref r::rest)=some (.fz (iL l)::rest,st1):=by simp only [nj,h2,bind_some,hf];rfl
  unfold pm;rw [yH (by simp [rf]),m,bind_some,e1,bind_some];dsimp only;rw [e2,bind_some,yH (by rw [ht];simp),f,bind_some];dsimp only;rw [e1,bind_some];dsimp only;rw [e2];rfl
 rcases hx with rfl | ⟨r,rfl,h | h⟩
 ·exact ⟨st,bA (by simp [h0]) e1 e2,.inl rfl⟩
 ·exact ⟨_,aE r (st.set r (.al (.fz (iL l)))) rfl (sk h) (by unfold oU;simp [rf,h]),.inr ⟨r,rfl,h,rfl⟩⟩
 ·exact ⟨_,aE r st rfl (CS h) (by unfold oU;simp [rf,h]),.inl rfl⟩
theorem eY:(st++[x]).set st.length y=st++[y]:=by simp
end R
namespace LW
open PySem L2 R
def top (i:Nat):Stmt:=PySem.Challenge.pw_telltight_k68_whole_no_weights_prove_it.main.body.getD i (.Pass ⟨0,0,0,0⟩)
def Hg (s:Stmt):List Stmt:=match s with
 | .ClassDef _ _ _ b _ _ _ _ _ _ _=>b
 | _=>[]
def f8 (i j:Nat):Stmt:=(Hg (top i)).getD j (.Pass ⟨0,0,0,0⟩)
def ji:LB:=(.cons (.as (.i 0) (.nm 2))
 (.cons (.iff (.cmp .Lt (.v 1) (.bi .len (.cons (.v 0) .nil)))
 (.cons (.as (.ix (.v 0) (.v 1)) (.nm 2))
 .nil)
 .nil)
 (.cons (.rt (.nw true (.li (.cons (.bin .Mult (.v 2) (.bi .int (.cons (.cmp .GtE (.bi .abs (.cons (.v 2) .nil)) (.bin .Pow (.i 10) (.i 18))) .nil))) (.cons (.v 2) (.cons (.bin .Mult (.i 97) (.v 1)) .nil))))))
 .nil)))
def lY:FE:=⟨.f "_law_pile" 2,"_law_pile",top 63,["_law_script","_law_k","_law_cell"],[],3,[],ji⟩
def iH:LB:=(.cons (.as (.bin .Mod (.bin .Add (.bin .Add (.bin .Mult (.bin .Mod (.v 0) (.i 2147483647)) (.i 48271)) (.bin .Mult (.v 1) (.i 69621))) (.i 11)) (.i 2147483647)) (.nm 2))
 (.cons (.as (.bin .Mod (.bin .Mult (.v 2) (.v 2)) (.i 2147483629)) (.nm 2))
 (.cons (.rt (.bin .Mod (.bin .Mult (.v 2) (.v 2)) (.i 2147483587)))
 .nil)))
def kU:FE:=⟨.f "_law_mixed" 2,"_law_mixed",top 62,["_law_cell","_law_k","_law_number"],[],3,[],iH⟩
def jh:LB:=(.cons (.iff (.cmp .In (.ix (.v 0) (.i 0)) (.nw false (.li (.cons (.i 0) (.cons (.un .USub (.i 1)) .nil)))))
 (.cons (.as (.bin .Add (.ix (.v 0) (.i 2)) (.i 1)) (.su (.v 0) (.i 2)))
 (.cons (.rt (.bin .Mod (.ca true 0 (.cons (.ix (.v 0) (.i 1)) (.cons (.ix (.v 0) (.i 2)) .nil))) (.v 1)))
 .nil))
 .nil)
 (.cons (.as (.bin .Mod (.ix (.v 0) (.i 0)) (.v 1)) (.nm 2))
 (.cons (.as (.bin .FloorDiv (.ix (.v 0) (.i 0)) (.v 1)) (.su (.v 0) (.i 0)))
 (.cons (.rt (.v 2))
 .nil))))
def lX:FE:=⟨.f "_law_take" 2,"_law_take",top 64,["_law_pile_here","_law_many","_law_digit"],[1],6,[],jh⟩
def iG:LB:=(.cons (.as (.nw true (.lr1 (.v 1))) (.nm 2))
 (.cons (.as (.nw true (.li .nil)) (.nm 3))
 (.cons (.wh (.cmp .NotEq (.v 2) (.nw false (.li .nil)))
 (.cons (.ex (.mt .app (.v 3) (.cons (.mt .popA (.v 2) (.cons (.ca false 0 (.cons (.v 0) (.cons (.bi .len (.cons (.v 2) .nil)) .nil))) .nil)) .nil)))
 .nil))
 (.cons (.rt (.v 3))
 .nil))))
def kT:FE:=⟨.f "_law_order" 2,"_law_order",top 65,["_law_pile_here","_law_n","_law_left","_law_found"],[2],9,[],iG⟩
def mf:LB:=(.cons (.rt (.bin .Sub (.bin .LShift (.i 1) (.v 0)) (.i 1)))
 .nil)
def lW:FE:=⟨.f "all_names" 1,"all_names",top 1,["n"],[],3,[],mf⟩
def jF:LB:=(.cons (.as (.nw true (.rep (.cons (.i 0) .nil) (.ca true 0 (.cons (.v 0) .nil)))) (.nm 2))
 (.cons (.fo (.e (.v 1)) (.tu 2 (.cons (.nm 3) (.cons (.nm 4) .nil)))
 (.cons (.iff (.cmp .NotEq (.v 3) (.i 0))
 (.cons (.aus .Add (.v 2) (.bin .Sub (.v 3) (.i 1)) (.v 4))
 .nil)
 .nil)
 .nil))
 (.cons (.rt (.v 2))
 .nil)))
def jz:FE:=⟨.f "row_of_terms" 2,"row_of_terms",top 2,["n","terms","row","group","number"],[4],6,[],jF⟩
def lb:LB:=(.cons (.rt (.ca true 0 (.cons (.v 0) (.cons (.nw false (.li (.cons (.tu (.cons (.bin .BitOr (.v 1) (.v 3)) (.cons (.i 1) .nil))) (.cons (.tu (.cons (.bin .BitOr (.v 2) (.v 3)) (.cons (.i 1) .nil))) (.cons (.tu (.cons (.bin .BitOr (.bin .BitOr (.v 1) (.v 2)) (.v 3)) (.cons (.un .USub (.i 1)) .nil))) (.cons (.tu (.cons (.v 3) (.cons (.un .USub (.i 1)) .nil))) .nil)))))) .nil))))
 .nil)
def kQ:FE:=⟨.f "shared_row" 4,"shared_row",top 4,["n","a","b","c"],[5],9,[],lb⟩
def nR:LB:=(.cons (.as (.ca true 0 (.cons (.g "NAMES" (.int 4)) (.cons (.bin .LShift (.i 1) (.v 0)) (.cons (.bin .LShift (.i 1) (.v 1)) (.cons (.bin .LShift (.i 1) (.v 2)) .nil))))) (.nm 4))
 (.cons (.as (.ca true 0 (.cons (.g "NAMES" (.int 4)) (.cons (.bin .LShift (.i 1) (.v 0)) (.cons (.bin .LShift (.i 1) (.v 1)) (.cons (.bin .LShift (.i 1) (.v 3)) .nil))))) (.nm 5))
 (.cons (.as (.ca true 0 (.cons (.g "NAMES" (.int 4)) (.cons (.bin .LShift (.i 1) (.v 2)) (.cons (.bin .LShift (.i 1) (.v 3)) (.cons (.i 0) .nil))))) (.nm 6))
 (.cons (.as (.ca true 0 (.cons (.g "NAMES" (.int 4)) (.cons (.bin .LShift (.i 1) (.v 0)) (.cons (.bin .LShift (.i 1) (.v 1)) (.cons (.i 0) .nil))))) (.nm 7))
 (.cons (.rt (.nw false (.lc 4 (.z4 (.v 4) (.v 5) (.v 6) (.v 7)) (.tu 4 (.cons (.nm 8) (.cons (.nm 9) (.cons (.nm 10) (.cons (.nm 11) .nil))))) .no (.bin .Sub (.bin .Add (.bin .Add (.v 8) (.v 9)) (.v 10)) (.v 11)))))
 .nil)))))
def nF:FE:=⟨.f "four_row" 4,"four_row",top 20,["i","j","k","l","by_k","by_l","both","whole"],[6],12,[],nR⟩
def nO:LB:=(.cons (.rt (.nw false (.lc 1 (.r1 (.v 0)) (.nm 2) (.so (.cmp .NotEq (.bin .BitAnd (.v 1) (.bin .LShift (.i 1) (.v 2))) (.i 0))) (.v 2))))
 .nil)
def nE:FE:=⟨.f "names_in" 2,"names_in",top 13,["n","group"],[],3,[],nO⟩
def kt:LB:=(.cons (.iff (.cmp .Eq (.v 0) (.v 1))
 (.cons (.rt (.i 4))
 .nil)
 .nil)
 (.cons (.rt (.bi .min (.cons (.i 4) (.cons (.bin .Add (.bi .len (.cons (.ca true 0 (.cons (.g "NAMES" (.int 4)) (.cons (.v 0) .nil))) .nil)) (.i 1)) .nil))))
 .nil))
def ka:FE:=⟨.f "four_number" 2,"four_number",top 21,["group","apart"],[8],6,[],kt⟩
def ld:LB:=(.cons (.rt (.nw false (.lc 1 (.r2 (.i 1) (.bin .Add (.ca true 0 (.cons (.g "NAMES" (.int 4)) .nil)) (.i 1))) (.nm 4) .no (.ca true 1 (.cons (.v 4) (.cons (.bin .BitOr (.bin .LShift (.i 1) (.v 2)) (.bin .LShift (.i 1) (.v 3))) .nil))))))
 .nil)
def kR:FE:=⟨.f "four_table" 4,"four_table",top 22,["i","j","k","l"],[4,9],9,[],ld⟩
def gG:LB:=(.cons (.as (.bin .BitOr (.bin .LShift (.i 1) (.v 1)) (.bin .LShift (.i 1) (.v 2))) (.nm 3))
 (.cons (.rt (.nw false (.lc 1 (.r1 (.bin .Add (.ca true 0 (.cons (.v 0) .nil)) (.i 1))) (.nm 4) (.so (.cmp .Eq (.bin .BitAnd (.v 4) (.v 3)) (.i 0))) (.tu (.cons (.s "pair") (.cons (.v 1) (.cons (.v 2) (.cons (.v 4) .nil))))))))
 .nil))
def gD:FE:=⟨.f "pairs_with_known" 3,"pairs_with_known",top 7,["n","i","j","both"],[4],6,[],gG⟩
def tw:LB:=(.cons (.as (.nw true (.lc 1 (.r1 (.v 0)) (.nm 4) .no (.tu (.cons (.s "last") (.cons (.v 4) .nil))))) (.nm 1))
 (.cons (.fo (.r1 (.v 0)) (.nm 2)
 (.cons (.fo (.r2 (.bin .Add (.v 2) (.i 1)) (.v 0)) (.nm 3)
 (.cons (.ex (.mt .ext (.v 1) (.cons (.ca true 0 (.cons (.v 0) (.cons (.v 2) (.cons (.v 3) .nil)))) .nil)))
 .nil))
 .nil))
 (.cons (.rt (.v 1))
 .nil)))
def tf:FE:=⟨.f "rules" 1,"rules",top 8,["n","found","i","j"],[11],9,[],tw⟩
def nN:LB:=(.cons (.rt (.ca true 0 (.cons (.v 0) (.cons (.nw false (.li (.cons (.tu (.cons (.bin .BitOr (.v 1) (.v 2)) (.cons (.i 1) .nil))) (.cons (.tu (.cons (.v 2) (.cons (.un .USub (.i 1)) .nil))) .nil)))) .nil))))
 .nil)
def nD:FE:=⟨.f "rest_row" 3,"rest_row",top 3,["n","a","b"],[5],9,[],nN⟩
def nM:LB:=(.cons (.as (.bin .LShift (.i 1) (.ix (.v 1) (.i 1))) (.nm 2))
 (.cons (.iff (.cmp .Eq (.ix (.v 1) (.i 0)) (.s "last"))
 (.cons (.rt (.ca true 1 (.cons (.v 0) (.cons (.v 2) (.cons (.bin .Sub (.ca true 0 (.cons (.v 0) .nil)) (.v 2)) .nil)))))
 .nil)
 .nil)
 (.cons (.rt (.ca true 2 (.cons (.v 0) (.cons (.v 2) (.cons (.bin .LShift (.i 1) (.ix (.v 1) (.i 2))) (.cons (.ix (.v 1) (.i 3)) .nil))))))
 .nil)))
def nB:FE:=⟨.f "rule_row" 2,"rule_row",top 9,["n","rule","one"],[4,13,6],12,[],nM⟩
def l8:LB:=(.cons (.rt (.nw false (.lc 1 (.e (.ca true 0 (.cons (.v 0) .nil))) (.nm 1) .no (.ca true 1 (.cons (.v 0) (.cons (.v 1) .nil))))))
 .nil)
def lR:FE:=⟨.f "rule_rows" 1,"rule_rows",top 10,["n"],[12,14],15,[],l8⟩
def fg:LB:=(.cons (.fl "Sheet" "below" (.v 0) (.i 1))
 (.cons (.fl "Sheet" "lines" (.v 0) (.nw true (.lc 1 (.e (.v 2)) (.nm 3) .no (.nw false (.lof (.v 3))))))
 (.cons (.fl "Sheet" "heads" (.v 0) (.nw true (.lr1 (.v 1))))
 (.cons (.fl "Sheet" "sides" (.v 0) (.nw true (.lr2 (.v 1) (.bin .Add (.v 1) (.bi .len (.cons (.v 2) .nil))))))
 (.cons (.fl "Sheet" "guarded" (.v 0) .dn)
 (.cons (.fl "Sheet" "nailed" (.v 0) .dn)
 (.cons (.fl "Sheet" "turned" (.v 0) .dn)
 .nil)))))))
def iA:FE:=⟨.k "Sheet" 3,"Sheet.__init__",f8 36 0,["self","width","lines"],[],3,[],fg⟩
def gR:LB:=(.cons (.as (.b true) (.su (.fd "Sheet" "guarded" (.v 0)) (.v 1)))
 .nil)
def kg:FE:=⟨.m "Sheet" "guard" 2,"Sheet.guard",f8 36 1,["self","quantity"],[],3,[],gR⟩
def fJ:LB:=(.cons (.as (.nw true (.lc 1 (.e (.ca true 0 (.cons (.v 0) .nil))) (.nm 7) .no (.nw false (.cat (.v 7) (.nw false (.li (.cons (.i 0) .nil))))))) (.nm 3))
 (.cons (.as (.bin .Add (.ca true 1 (.cons (.v 0) .nil)) (.bi .len (.cons (.v 3) .nil))) (.nm 4))
 (.cons (.ex (.mt .ext (.v 3) (.cons (.nw false (.lc 3 (.e (.v 1)) (.tu 3 (.cons (.nm 7) (.cons (.nm 8) (.cons (.nm 9) .nil)))) .no (.nw false (.cat (.nw false (.lof (.v 7))) (.nw false (.li (.cons (.un .USub (.v 9)) .nil))))))) .nil)))
 (.cons (.ex (.mt .app (.v 3) (.cons (.nw false (.cat (.nw false (.lc 1 (.e (.v 2)) (.nm 7) .no (.un .USub (.v 7)))) (.nw false (.li (.cons (.i 0) .nil))))) .nil)))
 (.cons (.as (.ne "Sheet" 2 (.cons (.ca true 1 (.cons (.v 0) .nil)) (.cons (.v 3) .nil))) (.nm 5))
 (.cons (.fo (.r1 (.v 4)) (.nm 6)
 (.cons (.ex (.me "Sheet" "guard" 3 (.v 5) (.cons (.v 6) .nil)))
 .nil))
 (.cons (.rt (.v 5))
 .nil)))))))
def iV:FE:=⟨.f "opening_sheet" 3,"opening_sheet",top 42,["n","givens","goal","lines","guarded","sheet","quantity"],[15,4,16,17],18,[],fJ⟩
def eL:LB:=(.cons (.as (.nw false (.lc 1 (.e (.ix (.fd "Sheet" "lines" (.v 0)) (.v 1))) (.nm 2) .no (.un .USub (.v 2)))) (.su (.fd "Sheet" "lines" (.v 0)) (.v 1)))
 (.cons (.as (.b true) (.su (.fd "Sheet" "turned" (.v 0)) (.ix (.fd "Sheet" "sides" (.v 0)) (.v 1))))
 .nil))
def g8:FE:=⟨.m "Sheet" "turn_line" 2,"Sheet.turn_line",f8 36 3,["self","place"],[],3,[],eL⟩
def dG:LB:=(.cons (.rt (.nw false (.lc 2 (.en (.fd "Sheet" "heads" (.v 0))) (.tu 2 (.cons (.nm 1) (.cons (.nm 2) .nil))) (.so (.cmp .NotIn (.v 2) (.fd "Sheet" "nailed" (.v 0)))) (.v 1))))
 .nil)
def fu:FE:=⟨.m "Sheet" "loose_columns" 1,"Sheet.loose_columns",f8 36 5,["self"],[],3,[],dG⟩
def dk:LB:=(.cons (.as (.ix (.fd "Sheet" "lines" (.v 0)) (.v 1)) (.nm 2))
 (.cons (.as (.nw false (.lc 1 (.e (.me "Sheet" "loose_columns" 0 (.v 0) .nil)) (.nm 4) (.so (.cmp .Gt (.ix (.v 2) (.v 4)) (.i 0))) (.v 4))) (.nm 3))
 (.cons (.rt (.mnk (.v 3) (.ix (.fd "Sheet" "heads" (.v 0)) (.v 4))))
 .nil)))
def eQ:FE:=⟨.m "Sheet" "raising_column" 2,"Sheet.raising_column",f8 36 6,["self","place","line","found"],[20],6,[⟨170,30,170,63⟩],dk⟩
def er:LB:=(.cons (.as (.bin .Mult (.ix (.ix (.fd "Sheet" "lines" (.v 0)) (.v 1)) (.un .USub (.i 1))) (.un .USub (.ix (.ix (.fd "Sheet" "lines" (.v 0)) (.v 2)) (.v 3)))) (.nm 4))
 (.cons (.as (.bin .Mult (.ix (.ix (.fd "Sheet" "lines" (.v 0)) (.v 2)) (.un .USub (.i 1))) (.un .USub (.ix (.ix (.fd "Sheet" "lines" (.v 0)) (.v 1)) (.v 3)))) (.nm 5))
 (.cons (.rt (.or (.cmp .Lt (.v 4) (.v 5)) (.an (.cmp .Eq (.v 4) (.v 5)) (.cmp .Lt (.ix (.fd "Sheet" "sides" (.v 0)) (.v 1)) (.ix (.fd "Sheet" "sides" (.v 0)) (.v 2))))))
 .nil)))
def gF:FE:=⟨.m "Sheet" "is_tighter" 4,"Sheet.is_tighter",f8 36 8,["self","one","other","column","ahead","behind"],[],3,[],er⟩
def dj:LB:=(.cons (.as .n (.nm 2))
 (.cons (.fo (.en (.fd "Sheet" "lines" (.v 0))) (.tu 2 (.cons (.nm 3) (.cons (.nm 4) .nil)))
 (.cons (.iff (.an (.cmp .Lt (.ix (.v 4) (.v 1)) (.i 0)) (.cmp .In (.ix (.fd "Sheet" "sides" (.v 0)) (.v 3)) (.fd "Sheet" "guarded" (.v 0))))
 (.cons (.iff (.or (.cmp .Is (.v 2) .n) (.va (.me "Sheet" "is_tighter" 0 (.v 0) (.cons (.v 3) (.cons (.v 2) (.cons (.v 1) .nil))))))
 (.cons (.as (.v 3) (.nm 2))
 .nil)
 .nil)
 .nil)
 .nil)
 .nil))
 (.cons (.rt (.v 2))
 .nil)))
def eP:FE:=⟨.m "Sheet" "tightest_place" 2,"Sheet.tightest_place",f8 36 9,["self","column","best","place","line"],[22],6,[],dj⟩
def d6:LB:=(.cons (.as (.bin .Mult (.ix (.ix (.fd "Sheet" "lines" (.v 0)) (.v 1)) (.un .USub (.i 1))) (.ix (.ix (.fd "Sheet" "lines" (.v 0)) (.v 2)) (.v 3))) (.nm 4))
 (.cons (.rt (.cmp .LtE (.v 4) (.bin .Mult (.ix (.ix (.fd "Sheet" "lines" (.v 0)) (.v 2)) (.un .USub (.i 1))) (.ix (.ix (.fd "Sheet" "lines" (.v 0)) (.v 1)) (.v 3)))))
 .nil))
def fT:FE:=⟨.m "Sheet" "is_up_first" 4,"Sheet.is_up_first",f8 36 10,["self","place","tight","column","up"],[],3,[],d6⟩
def dE:LB:=(.cons (.as (.ix (.v 1) (.v 2)) (.nm 5))
 (.cons (.as (.ix (.v 0) (.v 2)) (.nm 6))
 (.cons (.iff (.cmp .Eq (.v 6) (.i 0))
 (.cons (.rt (.ife (.cmp .Eq (.v 5) (.v 4)) (.v 0) (.nw false (.lc 1 (.e (.v 0)) (.nm 8) .no (.bin .FloorDiv (.bin .Mult (.v 8) (.v 5)) (.v 4))))))
 .nil)
 .nil)
 (.cons (.as (.nw true (.lc 2 (.zi (.v 0) (.v 1)) (.tu 2 (.cons (.nm 8) (.cons (.nm 9) .nil))) .no (.bin .FloorDiv (.bin .Sub (.bin .Mult (.v 8) (.v 5)) (.bin .Mult (.v 6) (.v 9))) (.v 4)))) (.nm 7))
 (.cons (.as (.bin .Mult (.v 3) (.v 6)) (.su (.v 7) (.v 2)))
 (.cons (.rt (.v 7))
 .nil))))))
def jD:FE:=⟨.f "changed_line" 5,"changed_line",top 35,["line","pivot_line","column","sign","below","pivot","factor","changed"],[],3,[],dE⟩
def fe:LB:=(.cons (.as (.ife (.cmp .Lt (.ix (.ix (.fd "Sheet" "lines" (.v 0)) (.v 1)) (.v 2)) (.i 0)) (.un .USub (.i 1)) (.i 1)) (.nm 3))
 (.cons (.as (.nw false (.lc 1 (.e (.ix (.fd "Sheet" "lines" (.v 0)) (.v 1))) (.nm 7) .no (.bin .Mult (.v 3) (.v 7)))) (.nm 4))
 (.cons (.as (.fd "Sheet" "below" (.v 0)) (.nm 5))
 (.cons (.fl "Sheet" "lines" (.v 0) (.nw true (.lc 1 (.e (.fd "Sheet" "lines" (.v 0))) (.nm 7) .no (.ca true 0 (.cons (.v 7) (.cons (.v 4) (.cons (.v 2) (.cons (.v 3) (.cons (.v 5) .nil)))))))))
 (.cons (.as (.nw true (.lc 1 (.e (.v 4)) (.nm 7) .no (.un .USub (.v 7)))) (.su (.fd "Sheet" "lines" (.v 0)) (.v 1)))
 (.cons (.as (.bin .Mult (.v 3) (.v 5)) (.su (.ix (.fd "Sheet" "lines" (.v 0)) (.v 1)) (.v 2)))
 (.cons (.fl "Sheet" "below" (.v 0) (.ix (.v 4) (.v 2)))
 (.cons (.as (.ix (.fd "Sheet" "sides" (.v 0)) (.v 1)) (.nm 6))
 (.cons (.as (.ix (.fd "Sheet" "heads" (.v 0)) (.v 2)) (.su (.fd "Sheet" "sides" (.v 0)) (.v 1)))
 (.cons (.as (.v 6) (.su (.fd "Sheet" "heads" (.v 0)) (.v 2)))
 .nil))))))))))
def iy:FE:=⟨.m "Sheet" "exchange" 3,"Sheet.exchange",f8 36 4,["self","place","column","sign","pivot_line","below","freed"],[25],6,[],fe⟩
def fK:LB:=(.cons (.wh (.cmp .Lt (.ix (.ix (.fd "Sheet" "lines" (.v 0)) (.v 1)) (.un .USub (.i 1))) (.i 0))
 (.cons (.as (.me "Sheet" "raising_column" 0 (.v 0) (.cons (.v 1) .nil)) (.nm 2))
 (.cons (.iff (.cmp .Is (.v 2) .n)
 (.cons (.rt (.b false))
 .nil)
 .nil)
 (.cons (.as (.me "Sheet" "tightest_place" 1 (.v 0) (.cons (.v 2) .nil)) (.nm 3))
 (.cons (.iff (.or (.cmp .Is (.v 3) .n) (.va (.me "Sheet" "is_up_first" 2 (.v 0) (.cons (.v 1) (.cons (.v 3) (.cons (.v 2) .nil))))))
 (.cons (.ex (.me "Sheet" "exchange" 3 (.v 0) (.cons (.v 1) (.cons (.v 2) .nil))))
 (.cons (.rt (.b true))
 .nil))
 .nil)
 (.cons (.ex (.me "Sheet" "exchange" 3 (.v 0) (.cons (.v 3) (.cons (.v 2) .nil))))
 .nil))))))
 (.cons (.rt (.b true))
 .nil))
def kY:FE:=⟨.m "Sheet" "lift" 2,"Sheet.lift",f8 36 11,["self","place","column","tight"],[21,23,24,26],9,[],fK⟩
def dF:LB:=(.cons (.as (.ix (.fd "Sheet" "lines" (.v 0)) (.v 1)) (.nm 2))
 (.cons (.rt (.mnd (.nw false (.lc 1 (.e (.me "Sheet" "loose_columns" 0 (.v 0) .nil)) (.nm 3) (.so (.cmp .NotEq (.ix (.v 2) (.v 3)) (.i 0))) (.v 3)))))
 .nil))
def fq:FE:=⟨.m "Sheet" "moving_column" 2,"Sheet.moving_column",f8 36 7,["self","place","line"],[20],6,[],dF⟩
def iI:LB:=(.cons (.as (.b true) (.su (.fd "Sheet" "nailed" (.v 0)) (.v 1)))
 .nil)
def kW:FE:=⟨.m "Sheet" "nail" 2,"Sheet.nail",f8 36 2,["self","quantity"],[],3,[],iI⟩
def jg:LB:=(.cons (.as (.ix (.fd "Sheet" "sides" (.v 0)) (.v 1)) (.nm 2))
 (.cons (.iff (.cmp .Gt (.ix (.ix (.fd "Sheet" "lines" (.v 0)) (.v 1)) (.un .USub (.i 1))) (.i 0))
 (.cons (.ex (.me "Sheet" "turn_line" 0 (.v 0) (.cons (.v 1) .nil)))
 .nil)
 .nil)
 (.cons (.iff (.cmp .Lt (.ix (.ix (.fd "Sheet" "lines" (.v 0)) (.v 1)) (.un .USub (.i 1))) (.i 0))
 (.cons (.iff (.no (.va (.me "Sheet" "lift" 1 (.v 0) (.cons (.v 1) .nil))))
 (.cons (.rt (.b false))
 .nil)
 .nil)
 .nil)
 (.cons (.as (.me "Sheet" "moving_column" 2 (.v 0) (.cons (.v 1) .nil)) (.nm 3))
 (.cons (.iff (.cmp .IsNot (.v 3) .n)
 (.cons (.ex (.me "Sheet" "exchange" 3 (.v 0) (.cons (.v 1) (.cons (.v 3) .nil))))
 .nil)
 .nil)
 .nil)))
 (.cons (.ex (.me "Sheet" "nail" 4 (.v 0) (.cons (.v 2) .nil)))
 (.cons (.rt (.b true))
 .nil)))))
def lU:FE:=⟨.f "keep_just" 2,"keep_just",top 43,["sheet","place","quantity","column"],[19,27,28,26,29],12,[],jg⟩
def eB:LB:=(.cons (.as (.ix (.fd "Sheet" "sides" (.v 0)) (.v 1)) (.nm 2))
 (.cons (.iff (.no (.va (.me "Sheet" "lift" 0 (.v 0) (.cons (.v 1) .nil))))
 (.cons (.rt (.b false))
 .nil)
 .nil)
 (.cons (.ex (.me "Sheet" "guard" 1 (.v 0) (.cons (.v 2) .nil)))
 (.cons (.rt (.b true))
 .nil))))
def jB:FE:=⟨.f "keep_no_less" 2,"keep_no_less",top 44,["sheet","place","quantity"],[27,17],12,[],eB⟩
def ma:LB:=(.cons (.rt (.tu (.cons (.s "pair") (.cons (.bi .min (.cons (.v 0) (.cons (.v 1) .nil))) (.cons (.bi .max (.cons (.v 0) (.cons (.v 1) .nil))) (.cons (.v 2) .nil))))))
 .nil)
def lS:FE:=⟨.f "pair_rule" 3,"pair_rule",top 14,["one","other","known"],[],3,[],ma⟩
def i9:LB:=(.cons (.as (.nw true (.li .nil)) (.nm 3))
 (.cons (.fo (.e (.ca true 0 (.cons (.v 0) (.cons (.un .Invert (.bin .BitOr (.v 2) (.bin .LShift (.i 1) (.v 1)))) .nil)))) (.nm 4)
 (.cons (.ex (.mt .app (.v 3) (.cons (.ca true 1 (.cons (.v 1) (.cons (.v 4) (.cons (.v 2) .nil)))) .nil)))
 (.cons (.as (.bin .BitOr (.v 2) (.bin .LShift (.i 1) (.v 4))) (.nm 2))
 .nil)))
 (.cons (.ex (.mt .app (.v 3) (.cons (.tu (.cons (.s "last") (.cons (.v 1) .nil))) .nil)))
 (.cons (.rt (.v 3))
 .nil))))
def iU:FE:=⟨.f "rules_of_name" 3,"rules_of_name",top 15,["n","k","known","used","j"],[8,32],6,[],i9⟩
def i8:LB:=(.cons (.as (.nw true (.li .nil)) (.nm 3))
 (.cons (.as (.v 2) (.nm 4))
 (.cons (.fo (.e (.ca true 0 (.cons (.v 0) (.cons (.bin .BitAnd (.v 1) (.un .Invert (.v 2))) .nil)))) (.nm 5)
 (.cons (.ex (.mt .ext (.v 3) (.cons (.ca true 1 (.cons (.v 0) (.cons (.v 5) (.cons (.v 4) .nil)))) .nil)))
 (.cons (.as (.bin .BitOr (.v 4) (.bin .LShift (.i 1) (.v 5))) (.nm 4))
 .nil)))
 (.cons (.rt (.v 3))
 .nil))))
def iT:FE:=⟨.f "rules_of_rest" 3,"rules_of_rest",top 16,["n","a","b","used","known","k"],[8,33],9,[],i8⟩
def md:LB:=(.cons (.rt (.nw false (.lc 1 (.e (.ca true 0 (.cons (.v 0) .nil))) (.nm 2) .no (.mt .cnt (.v 1) (.cons (.v 2) .nil)))))
 .nil)
def lV:FE:=⟨.f "how_often" 2,"how_often",top 17,["n","used"],[12],12,[],md⟩
def eJ:LB:=(.cons (.as (.nw true (.rep (.cons (.i 0) .nil) (.bin .Add (.bi .len (.cons (.fd "Sheet" "heads" (.v 1)) .nil)) (.bi .len (.cons (.fd "Sheet" "sides" (.v 1)) .nil))))) (.nm 3))
 (.cons (.fo (.en (.fd "Sheet" "heads" (.v 1))) (.tu 2 (.cons (.nm 4) (.cons (.nm 5) .nil)))
 (.cons (.as (.un .USub (.ix (.ix (.fd "Sheet" "lines" (.v 1)) (.v 2)) (.v 4))) (.su (.v 3) (.v 5)))
 .nil))
 (.cons (.as (.fd "Sheet" "below" (.v 1)) (.su (.v 3) (.ix (.fd "Sheet" "sides" (.v 1)) (.v 2))))
 (.cons (.fd (.fd "Sheet" "turned" (.v 1)) (.nm 5)
 (.cons (.as (.un .USub (.ix (.v 3) (.v 5))) (.su (.v 3) (.v 5)))
 .nil))
 (.cons (.as (.nw true (.sl (.v 3) (.so (.ca true 0 (.cons (.v 0) .nil))) (.so (.un .USub (.i 1))))) (.nm 6))
 (.cons (.fo (.r2 (.i 1) (.bin .Add (.ca true 0 (.cons (.v 0) .nil)) (.i 1))) (.nm 7)
 (.cons (.as (.ix (.v 3) (.bin .Sub (.v 7) (.i 1))) (.nm 8))
 (.cons (.iff (.cmp .NotEq (.v 8) (.i 0))
 (.cons (.fo (.en (.ca true 2 (.cons (.v 0) (.cons (.ca true 1 (.cons (.v 0) (.cons (.v 7) (.cons (.i 0) .nil)))) .nil)))) (.tu 2 (.cons (.nm 9) (.cons (.nm 10) .nil)))
 (.cons (.aus .Add (.v 6) (.v 9) (.bin .Mult (.v 8) (.v 10)))
 .nil))
 .nil)
 .nil)
 .nil)))
 (.cons (.rt (.v 6))
 .nil)))))))
def gX:FE:=⟨.f "weights_by_line" 3,"weights_by_line",top 45,["n","sheet","place","taken","column","quantity","weights","group","often","rule","count"],[4,34,35],15,[],eJ⟩
def dQ:LB:=(.cons (.as (.i 0) (.nm 1))
 (.cons (.fo (.e (.v 0)) (.nm 2)
 (.cons (.as (.bi .abs (.cons (.v 2) .nil)) (.nm 3))
 (.cons (.wh (.cmp .NotEq (.v 3) (.i 0))
 (.cons (.as (.bin .Mod (.v 1) (.v 3)) (.nm 4))
 (.cons (.as (.v 3) (.nm 1))
 (.cons (.as (.v 4) (.nm 3))
 .nil))))
 (.cons (.iff (.cmp .Eq (.v 1) (.i 1))
 (.cons (.rt (.i 1))
 .nil)
 .nil)
 .nil))))
 (.cons (.rt (.v 1))
 .nil)))
def iw:FE:=⟨.f "common_divisor" 1,"common_divisor",top 38,["numbers","divisor","number","other","left"],[],3,[],dQ⟩
def dw:LB:=(.cons (.as (.ca true 0 (.cons (.v 0) .nil)) (.nm 1))
 (.cons (.iff (.cmp .Eq (.v 1) (.i 0))
 (.cons (.rt (.nw false (.lof (.v 0))))
 .nil)
 .nil)
 (.cons (.rt (.nw false (.lc 1 (.e (.v 0)) (.nm 2) .no (.bin .FloorDiv (.v 2) (.v 1)))))
 .nil)))
def gZ:FE:=⟨.f "in_lowest_terms" 1,"in_lowest_terms",top 39,["numbers","divisor"],[37],6,[],dw⟩
def ff:LB:=(.cons (.as (.me "Sheet" "raising_column" 0 (.v 0) (.cons (.v 1) .nil)) (.nm 2))
 (.cons (.wh (.cmp .IsNot (.v 2) .n)
 (.cons (.as (.me "Sheet" "tightest_place" 1 (.v 0) (.cons (.v 2) .nil)) (.nm 3))
 (.cons (.iff (.cmp .Is (.v 3) .n)
 (.cons (.rt (.v 2))
 .nil)
 .nil)
 (.cons (.ex (.me "Sheet" "exchange" 2 (.v 0) (.cons (.v 3) (.cons (.v 2) .nil))))
 (.cons (.as (.me "Sheet" "raising_column" 0 (.v 0) (.cons (.v 1) .nil)) (.nm 2))
 .nil)))))
 (.cons (.rt .n)
 .nil)))
def iz:FE:=⟨.m "Sheet" "drive_up" 2,"Sheet.drive_up",f8 36 12,["self","place","column","tight"],[21,23,26],9,[],ff⟩
def eK:LB:=(.cons (.as (.ca true 0 (.cons (.nw false (.li (.cons (.v 0) (.cons (.v 1) .nil)))) .nil)) (.nm 2))
 (.cons (.rt (.tu (.cons (.ix (.v 2) (.i 0)) (.cons (.ix (.v 2) (.i 1)) .nil))))
 .nil))
def gY:FE:=⟨.f "lowest_fraction" 2,"lowest_fraction",top 40,["top","bottom","numbers"],[38],9,[],eK⟩
def d9:LB:=(.cons (.as (.nw true (.rep (.cons (.i 0) .nil) (.ca true 0 (.cons (.v 0) .nil)))) (.nm 3))
 (.cons (.fo (.en (.fd "Sheet" "sides" (.v 1))) (.tu 2 (.cons (.nm 4) (.cons (.nm 5) .nil)))
 (.cons (.iff (.cmp .Lt (.v 5) (.bi .len (.cons (.v 3) .nil)))
 (.cons (.as (.ix (.ix (.fd "Sheet" "lines" (.v 1)) (.v 4)) (.v 2)) (.su (.v 3) (.v 5)))
 .nil)
 .nil)
 .nil))
 (.cons (.rt (.v 3))
 .nil)))
def gE:FE:=⟨.f "groups_in_column" 3,"groups_in_column",top 46,["n","sheet","column","found","place","quantity"],[4],6,[],d9⟩
def gi:LB:=(.cons (.as (.ca true 0 (.cons (.nw false (.cat (.v 0) (.nw false (.li (.cons (.v 1) .nil))))) .nil)) (.nm 2))
 (.cons (.rt (.tu (.cons (.nw false (.sl (.v 2) .no (.so (.un .USub (.i 1))))) (.cons (.ix (.v 2) (.un .USub (.i 1))) .nil))))
 .nil))
def jA:FE:=⟨.f "lowest_table" 2,"lowest_table",top 41,["numbers","below","found"],[38],9,[],gi⟩
def fb:LB:=(.cons (.rt (.ca true 1 (.cons (.ca false 0 (.cons (.v 0) (.cons (.v 1) (.cons (.un .USub (.i 1)) .nil)))) (.cons (.fd "Sheet" "below" (.v 1)) .nil))))
 .nil)
def iq:FE:=⟨.f "table_of_sheet" 2,"table_of_sheet",top 47,["n","sheet"],[41,42],12,[],fb⟩
def fc:LB:=(.cons (.as (.ca true 0 (.cons (.un .USub (.ix (.ix (.fd "Sheet" "lines" (.v 1)) (.v 2)) (.un .USub (.i 1)))) (.cons (.fd "Sheet" "below" (.v 1)) .nil))) (.nm 3))
 (.cons (.as (.ca true 2 (.cons (.nw false (.cat (.ca false 1 (.cons (.v 0) (.cons (.v 1) (.cons (.v 2) .nil)))) (.nw false (.li (.cons (.fd "Sheet" "below" (.v 1)) .nil))))) .nil)) (.nm 4))
 (.cons (.rt (.tu (.cons (.s "least") (.cons (.v 3) (.cons (.ca false 3 (.cons (.v 0) (.cons (.v 1) .nil))) (.cons (.ix (.v 4) (.un .USub (.i 1))) (.cons (.nw false (.sl (.v 4) .no (.so (.un .USub (.i 1))))) .nil)))))))
 .nil)))
def iu:FE:=⟨.f "least_of_sheet" 3,"least_of_sheet",top 49,["n","sheet","place","least","weights"],[40,36,38,43],18,[],fc⟩
def gw:LB:=(.cons (.as (.ca false 0 (.cons (.v 0) (.cons (.v 1) (.cons (.v 2) .nil)))) (.nm 3))
 (.cons (.iff (.cmp .Lt (.ix (.fd "Sheet" "heads" (.v 1)) (.v 2)) (.bi .len (.cons (.v 3) .nil)))
 (.cons (.as (.fd "Sheet" "below" (.v 1)) (.su (.v 3) (.ix (.fd "Sheet" "heads" (.v 1)) (.v 2))))
 .nil)
 .nil)
 (.cons (.rt (.ca true 1 (.cons (.v 3) .nil)))
 .nil)))
def lQ:FE:=⟨.f "way_along" 3,"way_along",top 48,["n","sheet","column","way"],[41,38],9,[],gw⟩
def mE:LB:=(.cons (.as (.ca false 0 (.cons (.v 0) (.cons (.v 1) (.cons (.v 2) .nil)))) (.nm 3))
 (.cons (.as (.bin .Sub (.bi .len (.cons (.fd "Sheet" "lines" (.v 3)) .nil)) (.i 1)) (.nm 4))
 (.cons (.fo (.es (.v 1) (.bin .Sub (.v 4) (.bi .len (.cons (.v 1) .nil)))) (.tu 2 (.cons (.nm 5) (.cons (.nm 6) .nil)))
 (.cons (.as (.ife (.cmp .Eq (.ix (.v 6) (.i 1)) (.s "=")) (.ca false 1 (.cons (.v 3) (.cons (.v 5) .nil))) (.ca false 2 (.cons (.v 3) (.cons (.v 5) .nil)))) (.nm 7))
 (.cons (.iff (.no (.va (.v 7)))
 (.cons (.rt (.tu (.cons (.s "never") (.cons (.ca true 4 (.cons (.ca false 3 (.cons (.v 0) (.cons (.v 3) (.cons (.v 5) .nil)))) .nil)) .nil))))
 .nil)
 .nil)
 .nil)))
 (.cons (.as (.me "Sheet" "drive_up" 5 (.v 3) (.cons (.v 4) .nil)) (.nm 8))
 (.cons (.iff (.cmp .Is (.v 8) .n)
 (.cons (.rt (.ca false 6 (.cons (.v 0) (.cons (.v 3) (.cons (.v 4) .nil)))))
 .nil)
 .nil)
 (.cons (.rt (.tu (.cons (.s "endless") (.cons (.ca false 7 (.cons (.v 0) (.cons (.v 3) .nil))) (.cons (.ca false 8 (.cons (.v 0) (.cons (.v 3) (.cons (.v 8) .nil)))) .nil)))))
 .nil))))))
def qW:FE:=⟨.f "answer" 3,"answer",top 50,["n","givens","goal","sheet","last","place","given","kept","column"],[18,30,31,36,38,39,44,43,45],21,[],mE⟩
def ku:LB:=(.cons (.as (.nw false (.cat (.nw false (.lc 1 (.e (.ca true 0 (.cons (.v 0) .nil))) (.nm 4) .no (.s ">"))) (.nw false (.lc 3 (.e (.v 1)) (.tu 3 (.cons (.nm 4) (.cons (.nm 5) (.cons (.nm 6) .nil)))) .no (.v 5))))) (.nm 3))
 (.cons (.iff (.cmp .NotEq (.bi .len (.cons (.v 2) .nil)) (.bi .len (.cons (.v 3) .nil)))
 (.cons (.rt (.b false))
 .nil)
 .nil)
 (.cons (.rt (.bi .all (.cons (.nw false (.lc 2 (.zi (.v 2) (.v 3)) (.tu 2 (.cons (.nm 4) (.cons (.nm 5) .nil))) .no (.or (.cmp .GtE (.v 4) (.i 0)) (.cmp .Eq (.v 5) (.s "="))))) .nil)))
 .nil)))
def kb:FE:=⟨.f "are_weights" 3,"are_weights",top 24,["n","givens","weights","signs"],[12],12,[],ku⟩
def oA:LB:=(.cons (.rt (.bi .sum (.cons (.nw false (.lc 2 (.zi (.v 0) (.v 1)) (.tu 2 (.cons (.nm 2) (.cons (.nm 3) .nil))) .no (.bin .Mult (.v 2) (.v 3)))) .nil)))
 .nil)
def td:FE:=⟨.f "value" 2,"value",top 5,["row","table"],[],3,[],oA⟩
def gO:LB:=(.cons (.rt (.bi .all (.cons (.nw false (.lc 1 (.e (.ca true 0 (.cons (.v 0) .nil))) (.nm 2) .no (.cmp .GtE (.ca true 1 (.cons (.v 2) (.cons (.v 1) .nil))) (.i 0)))) .nil)))
 .nil)
def j8:FE:=⟨.f "keeps_rules" 2,"keeps_rules",top 11,["n","table"],[15,48],18,[],gO⟩
def gQ:LB:=(.cons (.as (.ca true 0 (.cons (.ix (.v 0) (.i 0)) (.cons (.v 1) .nil))) (.nm 3))
 (.cons (.as (.bin .Mult (.ix (.v 0) (.i 2)) (.v 2)) (.nm 4))
 (.cons (.rt (.or (.cmp .Eq (.v 3) (.v 4)) (.an (.cmp .Eq (.ix (.v 0) (.i 1)) (.s ">")) (.cmp .Gt (.v 3) (.v 4)))))
 .nil)))
def j9:FE:=⟨.f "keeps_given" 3,"keeps_given",top 27,["given","numbers","below","found","wanted"],[48],6,[],gQ⟩
def jf:LB:=(.cons (.as (.ix (.v 2) (.i 0)) (.nm 3))
 (.cons (.as (.ix (.v 2) (.i 1)) (.nm 4))
 (.cons (.iff (.or (.cmp .Lt (.v 4) (.i 1)) (.or (.cmp .NotEq (.bi .len (.cons (.v 3) .nil)) (.ca true 1 (.cons (.v 0) .nil))) (.no (.va (.ca true 0 (.cons (.v 0) (.cons (.v 3) .nil)))))))
 (.cons (.rt (.b false))
 .nil)
 .nil)
 (.cons (.rt (.bi .all (.cons (.nw false (.lc 1 (.e (.v 1)) (.nm 5) .no (.ca true 2 (.cons (.v 5) (.cons (.v 3) (.cons (.v 4) .nil)))))) .nil)))
 .nil))))
def lT:FE:=⟨.f "keeps_all" 3,"keeps_all",top 28,["n","givens","table","numbers","below"],[49,4,50],21,[],jf⟩
def kh:LB:=(.cons (.as (.nw false (.cat (.ca true 0 (.cons (.v 0) .nil)) (.nw false (.lc 3 (.e (.v 1)) (.tu 3 (.cons (.nm 7) (.cons (.nm 8) (.cons (.nm 9) .nil)))) .no (.v 7))))) (.nm 3))
 (.cons (.as (.nw false (.rep (.cons (.i 0) .nil) (.ca true 1 (.cons (.v 0) .nil)))) (.nm 4))
 (.cons (.fo (.zi (.v 3) (.v 2)) (.tu 2 (.cons (.nm 5) (.cons (.nm 6) .nil)))
 (.cons (.as (.nw false (.lc 2 (.zi (.v 4) (.v 5)) (.tu 2 (.cons (.nm 7) (.cons (.nm 8) .nil))) .no (.bin .Add (.v 7) (.bin .Mult (.v 6) (.v 8))))) (.nm 4))
 .nil))
 (.cons (.rt (.v 4))
 .nil))))
def j3:FE:=⟨.f "row_come_to" 3,"row_come_to",top 25,["n","givens","weights","rows","total","row","weight"],[15,4],18,[],kh⟩
def iF:LB:=(.cons (.as (.nw false (.sl (.v 2) (.so (.bi .len (.cons (.ca true 0 (.cons (.v 0) .nil)) .nil))) .no)) (.nm 3))
 (.cons (.rt (.bi .sum (.cons (.nw false (.lc 2 (.zi (.v 3) (.v 1)) (.tu 2 (.cons (.nm 4) (.cons (.nm 5) .nil))) .no (.bin .Mult (.v 4) (.ix (.v 5) (.i 2))))) .nil)))
 .nil))
def ir:FE:=⟨.f "number_come_to" 3,"number_come_to",top 26,["n","givens","weights","often"],[12],12,[],iF⟩
def kq:LB:=(.cons (.as (.ix (.ix (.v 3) (.i 1)) (.i 0)) (.nm 4))
 (.cons (.as (.ix (.ix (.v 3) (.i 1)) (.i 1)) (.nm 5))
 (.cons (.as (.ix (.v 3) (.i 2)) (.nm 6))
 (.cons (.as (.ix (.v 3) (.i 3)) (.nm 7))
 (.cons (.as (.ix (.v 3) (.i 4)) (.nm 8))
 (.cons (.iff (.or (.cmp .Lt (.v 5) (.i 1)) (.or (.cmp .Lt (.v 7) (.i 1)) (.or (.no (.va (.ca true 1 (.cons (.v 0) (.cons (.v 1) (.cons (.v 6) .nil)))))) (.no (.va (.ca true 0 (.cons (.v 0) (.cons (.v 1) (.cons (.v 8) .nil)))))))))
 (.cons (.rt (.b false))
 .nil)
 .nil)
 (.cons (.iff (.cmp .NotEq (.bin .Mult (.ca true 2 (.cons (.v 2) (.cons (.ix (.v 6) (.i 0)) .nil))) (.v 5)) (.bin .Mult (.v 4) (.ix (.v 6) (.i 1))))
 (.cons (.rt (.b false))
 .nil)
 .nil)
 (.cons (.iff (.cmp .NotEq (.ca true 3 (.cons (.v 0) (.cons (.v 1) (.cons (.v 8) .nil)))) (.nw false (.lc 1 (.e (.v 2)) (.nm 9) .no (.bin .Mult (.v 9) (.v 7)))))
 (.cons (.rt (.b false))
 .nil)
 .nil)
 (.cons (.rt (.cmp .Eq (.bin .Mult (.ca true 4 (.cons (.v 0) (.cons (.v 1) (.cons (.v 8) .nil)))) (.v 5)) (.bin .Mult (.v 4) (.v 7))))
 .nil)))))))))
def j7:FE:=⟨.f "least_holds" 4,"least_holds",top 30,["n","givens","goal","found","top","bottom","table","times","weights"],[47,51,48,52,53],24,[],kq⟩
def ph:LB:=(.cons (.rt (.ca true 0 (.cons (.v 0) (.cons (.nw false (.lc 3 (.e (.v 1)) (.tu 3 (.cons (.nm 3) (.cons (.nm 4) (.cons (.nm 5) .nil)))) .no (.tu (.cons (.v 3) (.cons (.v 4) (.cons (.i 0) .nil)))))) (.cons (.tu (.cons (.v 2) (.cons (.i 1) .nil))) .nil)))))
 .nil)
def oZ:FE:=⟨.f "goes_on" 3,"goes_on",top 29,["n","givens","way"],[51],24,[],ph⟩
def jb:LB:=(.cons (.rt (.an (.ca true 2 (.cons (.v 0) (.cons (.v 1) (.cons (.ix (.v 3) (.i 1)) .nil)))) (.an (.ca true 1 (.cons (.v 0) (.cons (.v 1) (.cons (.ix (.v 3) (.i 2)) .nil)))) (.cmp .Lt (.ca true 0 (.cons (.v 2) (.cons (.ix (.v 3) (.i 2)) .nil))) (.i 0)))))
 .nil)
def iX:FE:=⟨.f "endless_holds" 4,"endless_holds",top 31,["n","givens","goal","found"],[48,55,51],27,[],jb⟩
def kn:LB:=(.cons (.iff (.no (.va (.ca true 0 (.cons (.v 0) (.cons (.v 1) (.cons (.v 2) .nil))))))
 (.cons (.rt (.b false))
 .nil)
 .nil)
 (.cons (.rt (.an (.no (.bi .any (.cons (.ca true 2 (.cons (.v 0) (.cons (.v 1) (.cons (.v 2) .nil)))) .nil))) (.cmp .Gt (.ca true 1 (.cons (.v 0) (.cons (.v 1) (.cons (.v 2) .nil)))) (.i 0))))
 .nil))
def j6:FE:=⟨.f "never_holds" 3,"never_holds",top 32,["n","givens","weights"],[47,53,52],21,[],kn⟩
def tx:LB:=(.cons (.iff (.cmp .Eq (.ix (.v 3) (.i 0)) (.s "least"))
 (.cons (.rt (.ca true 0 (.cons (.v 0) (.cons (.v 1) (.cons (.v 2) (.cons (.v 3) .nil))))))
 .nil)
 .nil)
 (.cons (.iff (.cmp .Eq (.ix (.v 3) (.i 0)) (.s "endless"))
 (.cons (.rt (.ca true 1 (.cons (.v 0) (.cons (.v 1) (.cons (.v 2) (.cons (.v 3) .nil))))))
 .nil)
 .nil)
 (.cons (.rt (.an (.cmp .Eq (.ix (.v 3) (.i 0)) (.s "never")) (.ca true 2 (.cons (.v 0) (.cons (.v 1) (.cons (.ix (.v 3) (.i 1)) .nil))))))
 .nil)))
def tj:FE:=⟨.f "holds" 4,"holds",top 33,["n","givens","goal","found"],[54,56,57],30,[],tx⟩
def iD:LB:=(.cons (.as (.ix (.v 0) (.i 0)) (.nm 1))
 (.cons (.as (.ix (.v 0) (.i 2)) (.nm 2))
 (.cons (.as (.nw true (.li (.cons (.tu (.cons (.v 1) (.cons (.s ">") (.cons (.v 2) .nil)))) .nil))) (.nm 3))
 (.cons (.iff (.cmp .Eq (.ix (.v 0) (.i 1)) (.s "="))
 (.cons (.ex (.mt .app (.v 3) (.cons (.tu (.cons (.nw false (.lc 1 (.e (.v 1)) (.nm 4) .no (.un .USub (.v 4)))) (.cons (.s ">") (.cons (.un .USub (.v 2)) .nil)))) .nil)))
 .nil)
 .nil)
 (.cons (.rt (.v 3))
 .nil)))))
def ip:FE:=⟨.f "upward_sayings" 1,"upward_sayings",top 52,["saying","row","number","upward"],[],3,[],iD⟩
def gN:LB:=(.cons (.as (.ix (.v 0) (.i 1)) (.nm 4))
 (.cons (.as (.bin .Sub (.ca true 0 (.cons (.v 2) (.cons (.ix (.v 0) (.i 0)) .nil))) (.bin .Mult (.v 3) (.v 4))) (.nm 5))
 (.cons (.as (.bin .Mult (.un .USub (.ca true 0 (.cons (.v 2) (.cons (.v 1) .nil)))) (.v 4)) (.nm 6))
 (.cons (.as (.bi .max (.cons (.i 0) (.cons (.bin .Add (.bin .FloorDiv (.v 5) (.v 6)) (.i 1)) .nil))) (.nm 7))
 (.cons (.rt (.ca true 1 (.cons (.nw false (.lc 2 (.zi (.ix (.v 0) (.i 0)) (.v 1)) (.tu 2 (.cons (.nm 8) (.cons (.nm 9) .nil))) .no (.bin .Add (.v 8) (.bin .Mult (.bin .Mult (.v 7) (.v 4)) (.v 9))))) (.cons (.v 4) .nil))))
 .nil)))))
def jZ:FE:=⟨.f "table_along" 4,"table_along",top 53,["table","way","row","number","below","above","fall","steps"],[48,42],12,[],gN⟩
def c9:LB:=(.cons (.as (.ca true 0 (.cons (.v 0) (.cons (.v 1) (.cons (.v 2) .nil)))) (.nm 4))
 (.cons (.iff (.cmp .Eq (.ix (.v 4) (.i 0)) (.s "never"))
 (.cons (.rt (.tu (.cons (.b true) (.cons (.v 4) .nil))))
 .nil)
 .nil)
 (.cons (.iff (.cmp .Eq (.ix (.v 4) (.i 0)) (.s "endless"))
 (.cons (.rt (.tu (.cons (.b false) (.cons (.ca true 1 (.cons (.ix (.v 4) (.i 1)) (.cons (.ix (.v 4) (.i 2)) (.cons (.v 2) (.cons (.v 3) .nil))))) .nil))))
 .nil)
 .nil)
 (.cons (.iff (.cmp .Lt (.ix (.ix (.v 4) (.i 1)) (.i 0)) (.bin .Mult (.v 3) (.ix (.ix (.v 4) (.i 1)) (.i 1))))
 (.cons (.rt (.tu (.cons (.b false) (.cons (.ix (.v 4) (.i 2)) .nil))))
 .nil)
 .nil)
 (.cons (.rt (.tu (.cons (.b true) (.cons (.tu (.cons (.s "by") (.cons (.ix (.v 4) (.i 3)) (.cons (.ix (.v 4) (.i 4)) .nil)))) .nil))))
 .nil)))))
def iW:FE:=⟨.f "follow_upward" 4,"follow_upward",top 54,["n","givens","row","number","found"],[46,60],24,[],c9⟩
def ja:LB:=(.cons (.as (.nw true (.li .nil)) (.nm 3))
 (.cons (.fo (.e (.ca true 0 (.cons (.v 2) .nil))) (.tu 3 (.cons (.nm 4) (.cons (.nm 5) (.cons (.nm 6) .nil))))
 (.cons (.as (.ca true 1 (.cons (.v 0) (.cons (.v 1) (.cons (.v 4) (.cons (.v 6) .nil))))) (.nm 7))
 (.cons (.iff (.no (.va (.ix (.v 7) (.i 0))))
 (.cons (.rt (.v 7))
 .nil)
 .nil)
 (.cons (.ex (.mt .app (.v 3) (.cons (.ix (.v 7) (.i 1)) .nil)))
 .nil))))
 (.cons (.rt (.tu (.cons (.b true) (.cons (.v 3) .nil))))
 .nil)))
def o0:FE:=⟨.f "follows" 3,"follows",top 55,["n","givens","saying","papers","row","sign","number","told"],[59,61],27,[],ja⟩
def nT:LB:=(.cons (.iff (.or (.cmp .Lt (.v 3) (.i 1)) (.no (.va (.ca true 0 (.cons (.v 0) (.cons (.v 1) (.cons (.v 4) .nil)))))))
 (.cons (.rt (.b false))
 .nil)
 .nil)
 (.cons (.iff (.cmp .NotEq (.ca true 1 (.cons (.v 0) (.cons (.v 1) (.cons (.v 4) .nil)))) (.nw false (.lc 1 (.e (.ix (.v 2) (.i 0))) (.nm 5) .no (.bin .Mult (.v 5) (.v 3)))))
 (.cons (.rt (.b false))
 .nil)
 .nil)
 (.cons (.rt (.cmp .GtE (.ca true 2 (.cons (.v 0) (.cons (.v 1) (.cons (.v 4) .nil)))) (.bin .Mult (.ix (.v 2) (.i 2)) (.v 3))))
 .nil)))
def nG:FE:=⟨.f "by_holds" 5,"by_holds",top 56,["n","givens","saying","times","weights"],[47,52,53],21,[],nT⟩
def km:LB:=(.cons (.iff (.an (.cmp .Eq (.ix (.v 3) (.i 0)) (.s "never")) (.cmp .Eq (.bi .len (.cons (.v 3) .nil)) (.i 2)))
 (.cons (.rt (.ca true 0 (.cons (.v 0) (.cons (.v 1) (.cons (.ix (.v 3) (.i 1)) .nil)))))
 .nil)
 .nil)
 (.cons (.rt (.an (.cmp .Eq (.ix (.v 3) (.i 0)) (.s "by")) (.an (.cmp .Eq (.bi .len (.cons (.v 3) .nil)) (.i 3)) (.ca true 1 (.cons (.v 0) (.cons (.v 1) (.cons (.v 2) (.cons (.ix (.v 3) (.i 1)) (.cons (.ix (.v 3) (.i 2)) .nil)))))))))
 .nil))
def j5:FE:=⟨.f "paper_holds" 4,"paper_holds",top 57,["n","givens","saying","paper"],[57,63],24,[],km⟩
def ki:LB:=(.cons (.as (.ca true 0 (.cons (.v 2) .nil)) (.nm 4))
 (.cons (.iff (.cmp .NotEq (.bi .len (.cons (.v 3) .nil)) (.bi .len (.cons (.v 4) .nil)))
 (.cons (.rt (.b false))
 .nil)
 .nil)
 (.cons (.rt (.bi .all (.cons (.nw false (.lc 2 (.zi (.v 4) (.v 3)) (.tu 2 (.cons (.nm 5) (.cons (.nm 6) .nil))) .no (.ca true 1 (.cons (.v 0) (.cons (.v 1) (.cons (.v 5) (.cons (.v 6) .nil))))))) .nil)))
 .nil)))
def j4:FE:=⟨.f "papers_hold" 4,"papers_hold",top 58,["n","givens","saying","papers","upward"],[59,64],27,[],ki⟩
def mD:LB:=(.cons (.rt (.an (.ca true 1 (.cons (.v 0) (.cons (.v 1) (.cons (.v 3) .nil)))) (.no (.ca true 0 (.cons (.v 2) (.cons (.ix (.v 3) (.i 0)) (.cons (.ix (.v 3) (.i 1)) .nil)))))))
 .nil)
def qV:FE:=⟨.f "breaks" 4,"breaks",top 59,["n","givens","saying","table"],[50,51],24,[],mD⟩
def gj:LB:=(.cons (.iff (.va (.ix (.v 3) (.i 0)))
 (.cons (.rt (.an (.is "list" (.ix (.v 3) (.i 1))) (.ca true 0 (.cons (.v 0) (.cons (.v 1) (.cons (.v 2) (.cons (.ix (.v 3) (.i 1)) .nil)))))))
 .nil)
 .nil)
 (.cons (.rt (.an (.is "tuple" (.ix (.v 3) (.i 1))) (.ca true 1 (.cons (.v 0) (.cons (.v 1) (.cons (.v 2) (.cons (.ix (.v 3) (.i 1)) .nil)))))))
 .nil))
def jC:FE:=⟨.f "follow_holds" 4,"follow_holds",top 60,["n","givens","saying","found"],[65,66],30,[],gj⟩
def uN:LB:=(.cons (.as (.ca false 1 (.cons (.ca false 0 (.cons (.v 0) (.cons (.i 0) .nil))) (.cons (.i 4) .nil))) (.nm 1))
 (.cons (.as (.bin .Add (.i 1) (.ca false 2 (.cons (.ca false 0 (.cons (.v 0) (.cons (.i 1) .nil))) (.cons (.bin .Pow (.i 10) (.i 6)) .nil)))) (.nm 2))
 (.cons (.as (.ca true 3 (.cons (.ix (.v 1) (.i 0)) (.cons (.ix (.v 1) (.i 1)) (.cons (.ix (.v 1) (.i 2)) (.cons (.ix (.v 1) (.i 3)) .nil))))) (.nm 3))
 (.cons (.as (.ca true 4 (.cons (.ix (.v 1) (.i 0)) (.cons (.ix (.v 1) (.i 1)) (.cons (.ix (.v 1) (.i 2)) (.cons (.ix (.v 1) (.i 3)) .nil))))) (.nm 4))
 (.cons (.as (.ca true 5 (.cons (.i 4) (.cons (.nw false (.li .nil)) (.cons (.v 3) .nil)))) (.nm 5))
 (.cons (.iff (.or (.cmp .IsNot (.ca true 7 (.cons (.i 4) (.cons (.v 4) .nil))) (.b true)) (.or (.cmp .NotEq (.ix (.v 5) (.i 0)) (.s "endless")) (.cmp .IsNot (.ca true 6 (.cons (.i 4) (.cons (.nw false (.li .nil)) (.cons (.v 3) (.cons (.v 5) .nil))))) (.b true))))
 (.cons (.rt (.b false))
 .nil)
 .nil)
 (.cons (.iff (.cmp .IsNot (.ca true 6 (.cons (.i 4) (.cons (.nw false (.li .nil)) (.cons (.v 3) (.cons (.tu (.cons (.s "endless") (.cons (.tu (.cons (.nw false (.rep (.cons (.i 0) .nil) (.i 15))) (.cons (.i 1) .nil))) (.cons (.v 4) .nil)))) .nil))))) (.b true))
 (.cons (.rt (.b false))
 .nil)
 .nil)
 (.cons (.as (.tu (.cons (.v 3) (.cons (.s ">") (.cons (.i 0) .nil)))) (.nm 6))
 (.cons (.as (.ca true 8 (.cons (.i 4) (.cons (.nw false (.li .nil)) (.cons (.v 6) .nil)))) (.nm 7))
 (.cons (.iff (.or (.cmp .IsNot (.ix (.v 7) (.i 0)) (.b false)) (.cmp .IsNot (.ca true 9 (.cons (.i 4) (.cons (.nw false (.li .nil)) (.cons (.v 6) (.cons (.v 7) .nil))))) (.b true)))
 (.cons (.rt (.b false))
 .nil)
 .nil)
 (.cons (.iff (.cmp .IsNot (.ca true 9 (.cons (.i 4) (.cons (.nw false (.li .nil)) (.cons (.v 6) (.cons (.tu (.cons (.b false) (.cons (.tu (.cons (.nw false (.lc 1 (.e (.v 4)) (.nm 8) .no (.bin .Mult (.v 2) (.v 8)))) (.cons (.bin .Add (.v 2) (.i 1)) .nil))) .nil))) .nil))))) (.b true))
 (.cons (.rt (.b false))
 .nil)
 .nil)
 (.cons (.as (.ca true 8 (.cons (.i 4) (.cons (.nw false (.li (.cons (.v 6) .nil))) (.cons (.v 6) .nil)))) (.nm 7))
 (.cons (.rt (.an (.cmp .Is (.ix (.v 7) (.i 0)) (.b true)) (.cmp .Is (.ca true 9 (.cons (.i 4) (.cons (.nw false (.li (.cons (.v 6) .nil))) (.cons (.v 6) (.cons (.v 7) .nil))))) (.b true))))
 .nil)))))))))))))
def e_law:FE:=⟨.f "law" 1,"law",top 66,["_law_script","_law_order_here","_law_times","_law_row","_law_table","_law_found","_law_saying","_law_told"],[0,3,2,7,10,46,58,49,62,67],33,[],uN⟩
noncomputable def gs:List (Str × AV):=[("NAMES",.int 4)]
noncomputable def cl:List (Str × List Str):=[("Sheet",["below","guarded","heads","lines","nailed","sides","turned"])]
noncomputable def pre:List FE:=[lY,kU,lX,kT,lW,jz,kQ,nF,nE,ka,kR,gD,tf,nD,nB,lR,iA,kg,iV,g8,fu,eQ,gF,eP,fT,jD,iy,kY,fq,kW,lU,jB,lS,iU,iT,lV,gX,iw,gZ,iz,gY,gE,jA,iq,iu,lQ,qW,kb,td,j8,j9,lT,j3,ir,j7,oZ,iX,j6,tj,ip,jZ,iW,o0,nG,j5,j4,qV,jC]
theorem Ck:kZ gs cl [] pre=true:=by decide +kernel
theorem Cl:e_law.chk gs cl pre=true:=by decide +kernel
instance:Lw:=⟨[(228,⟨170,30,170,63⟩,("Sheet.raising_column":Str)++".<locals>."++"<lambda>")]⟩
theorem Dt {K:Frag}{h:Heap}{mg:Str->Option Value} (X:K.In h) (G:h.Ns mainGlobals mg) (LF:nU K "Sheet") (MU:FactN K "Sheet") (MJ:FactF K "_law_pile" lY) (Mz:FactF K "_law_mixed" kU) (MI:FactF K "_law_take" lX) (Mv:FactF K "_law_order" kT) (MD:FactF K "all_names" lW) (Md:FactF K "row_of_terms" jz) (Mw:FactF K "shared_row" kQ) (MO:FactF K "four_row" nF) (MK:FactF K "names_in" nE) (Mn:FactF K "four_number" ka) (Mu:FactF K "four_table" kR) (LP:FactF K "pairs_with_known" gD) (MW:FactF K "rules" tf) (ML:FactF K "rest_row" nD) (MM:FactF K "rule_row" nB) (MG:FactF K "rule_rows" lR) (L4:FactM K "Sheet" "__init__" iA) (Mh:FactM K "Sheet" "guard" kg) (L6:FactF K "opening_sheet" iV) (LS:FactM K "Sheet" "turn_line" g8) (LL:FactM K "Sheet" "loose_columns" fu) (LJ:FactM K "Sheet" "raising_column" eQ) (LO:FactM K "Sheet" "is_tighter" gF) (LH:FactM K "Sheet" "tightest_place" eP) (LN:FactM K "Sheet" "is_up_first" fT) (Mb:FactF K "changed_line" jD) (L0:FactM K "Sheet" "exchange" iy) (My:FactM K "Sheet" "lift" kY) (LK:FactM K "Sheet" "moving_column" fq) (Mx:FactM K "Sheet" "nail" kW) (MB:FactF K "keep_just" lU) (Mf:FactF K "keep_no_less" jB) (ME:FactF K "pair_rule" lS) (Ma:FactF K "rules_of_name" iU) (L8:FactF K "rules_of_rest" iT) (MA:FactF K "how_often" lV) (LV:FactF K "weights_by_line" gX) (LX:FactF K "common_divisor" iw) (LR:FactF K "in_lowest_terms" gZ) (LZ:FactM K "Sheet" "drive_up" iz) (LU:FactF K "lowest_fraction" gY) (LQ:FactF K "groups_in_column" gE) (Mc:FactF K "lowest_table" jA) (LY:FactF K "table_of_sheet" iq) (L1:FactF K "least_of_sheet" iu) (MC:FactF K "way_along" lQ) (MS:FactF K "answer" qW) (Mp:FactF K "are_weights" kb) (MT:FactF K "value" td) (Mr:FactF K "keeps_rules" j8) (Mj:FactF K "keeps_given" j9) (MH:FactF K "keeps_all" lT) (Mq:FactF K "row_come_to" j3) (L5:FactF K "number_come_to" ir) (Mo:FactF K "least_holds" j7) (MP:FactF K "goes_on" oZ) (L9:FactF K "endless_holds" iX) (Mm:FactF K "never_holds" j6) (MV:FactF K "holds" tj) (L3:FactF K "upward_sayings" ip) (Mt:FactF K "table_along" jZ) (L7:FactF K "follow_upward" iW) (MQ:FactF K "follows" o0) (MN:FactF K "by_holds" nG) (Ms:FactF K "paper_holds" j5) (Ml:FactF K "papers_hold" j4) (MR:FactF K "breaks" qV) (Me:FactF K "follow_holds" jC):∀ base:Heap,K.In base->iK mg base->∀ e ∈ pre,e.ok K mg base:=by
 intro base B hb e he;simp only [pre,zT,zX,or_false] at he;rcases he with rfl | rfl | rfl | rfl | rfl | rfl | rfl | rfl | rfl | rfl | rfl | rfl | rfl | rfl | rfl | rfl | rfl | rfl | rfl | rfl | rfl | rfl | rfl | rfl | rfl | rfl | rfl | rfl | rfl | rfl | rfl | rfl | rfl | rfl | rfl | rfl | rfl | rfl | rfl | rfl | rfl | rfl | rfl | rfl | rfl | rfl | rfl | rfl | rfl | rfl | rfl | rfl | rfl | rfl | rfl | rfl | rfl | rfl | rfl | rfl | rfl | rfl | rfl | rfl | rfl | rfl | rfl | rfl
 ·exact FactF.ok rfl MJ X G B hb
 ·exact FactF.ok rfl Mz X G B hb
 ·exact FactF.ok rfl MI X G B hb
 ·exact FactF.ok rfl Mv X G B hb
 ·exact FactF.ok rfl MD X G B hb
 ·exact FactF.ok rfl Md X G B hb
 ·exact FactF.ok rfl Mw X G B hb
 ·exact FactF.ok rfl MO X G B hb
 ·exact FactF.ok rfl MK X G B hb
 ·exact FactF.ok rfl Mn X G B hb
 ·exact FactF.ok rfl Mu X G B hb
 ·exact FactF.ok rfl LP X G B hb
 ·exact FactF.ok rfl MW X G B hb
 ·exact FactF.ok rfl ML X G B hb
 ·exact FactF.ok rfl MM X G B hb
 ·exact FactF.ok rfl MG X G B hb
 ·exact FactN.ok rfl L4 MU X G B hb
 ·exact FactM.ok rfl Mh LF X G B hb
 ·exact FactF.ok rfl L6 X G B hb
 ·exact FactM.ok rfl LS LF X G B hb
 ·exact FactM.ok rfl LL LF X G B hb
 ·exact FactM.ok rfl LJ LF X G B hb
 ·exact FactM.ok rfl LO LF X G B hb
 ·exact FactM.ok rfl LH LF X G B hb
 ·exact FactM.ok rfl LN LF X G B hb
 ·exact FactF.ok rfl Mb X G B hb
 ·exact FactM.ok rfl L0 LF X G B hb
 ·exact FactM.ok rfl My LF X G B hb
 ·exact FactM.ok rfl LK LF X G B hb
 ·exact FactM.ok rfl Mx LF X G B hb
 ·exact FactF.ok rfl MB X G B hb
 ·exact FactF.ok rfl Mf X G B hb
 ·exact FactF.ok rfl ME X G B hb
 ·exact FactF.ok rfl Ma X G B hb
 ·exact FactF.ok rfl L8 X G B hb
 ·exact FactF.ok rfl MA X G B hb
 ·exact FactF.ok rfl LV X G B hb
 ·exact FactF.ok rfl LX X G B hb
 ·exact FactF.ok rfl LR X G B hb
 ·exact FactM.ok rfl LZ LF X G B hb
 ·exact FactF.ok rfl LU X G B hb
 ·exact FactF.ok rfl LQ X G B hb
 ·exact FactF.ok rfl Mc X G B hb
 ·exact FactF.ok rfl LY X G B hb
 ·exact FactF.ok rfl L1 X G B hb
 ·exact FactF.ok rfl MC X G B hb
 ·exact FactF.ok rfl MS X G B hb
 ·exact FactF.ok rfl Mp X G B hb
 ·exact FactF.ok rfl MT X G B hb
 ·exact FactF.ok rfl Mr X G B hb
 ·exact FactF.ok rfl Mj X G B hb
 ·exact FactF.ok rfl MH X G B hb
 ·exact FactF.ok rfl Mq X G B hb
 ·exact FactF.ok rfl L5 X G B hb
 ·exact FactF.ok rfl Mo X G B hb
 ·exact FactF.ok rfl MP X G B hb
 ·exact FactF.ok rfl L9 X G B hb
 ·exact FactF.ok rfl Mm X G B hb
 ·exact FactF.ok rfl MV X G B hb
 ·exact FactF.ok rfl L3 X G B hb
 ·exact FactF.ok rfl Mt X G B hb
 ·exact FactF.ok rfl L7 X G B hb
 ·exact FactF.ok rfl MQ X G B hb
 ·exact FactF.ok rfl MN X G B hb
 ·exact FactF.ok rfl Ms X G B hb
 ·exact FactF.ok rfl Ml X G B hb
 ·exact FactF.ok rfl MR X G B hb
 ·exact FactF.ok rfl Me X G B hb
def bj:Fn:=run 3 (ak [] ji)
def cY:Fn:=run 3 (ak [] iH)
def aF:Fn:=run 3 (ak [cY] jh)
def bh:Fn:=run 4 (ak [aF] iG)
def aj:Fn:=run 1 (ak [] mf)
def eC:Fn:=run 5 (ak [aj] jF)
def fM:Fn:=run 4 (ak [eC] lb)
def bS:Fn:=run 8 (ak [fM] nR)
def fO:Fn:=run 2 (ak [] nO)
def gV:Fn:=run 2 (ak [fO] kt)
def bu:Fn:=run 4 (ak [aj,gV] ld)
def eu:Fn:=run 4 (ak [aj] gG)
def ic:Fn:=run 4 (ak [eu] tw)
def jV:Fn:=run 3 (ak [eC] nN)
def jU:Fn:=run 3 (ak [aj,jV,fM] nM)
def ar:Fn:=run 1 (ak [ic,jU] l8)
def ay:Fn:=run 3 (ak [] fg)
def aG:Fn:=run 2 (ak [] gR)
def bx:Fn:=run 7 (ak [ar,aj,ay,aG] fJ)
def aZ:Fn:=run 2 (ak [] eL)
def bB:Fn:=run 1 (ak [] dG)
def ax:Fn:=run 4 (ak [bB] dk)
def bF:Fn:=run 6 (ak [] er)
def aw:Fn:=run 5 (ak [bF] dj)
def aY:Fn:=run 5 (ak [] d6)
def bg:Fn:=run 8 (ak [] dE)
def au:Fn:=run 7 (ak [bg] fe)
def bE:Fn:=run 4 (ak [ax,aw,aY,au] fK)
def aK:Fn:=run 3 (ak [bB] dF)
def ck:Fn:=run 2 (ak [] iI)
def bR:Fn:=run 4 (ak [aZ,bE,aK,au,ck] jg)
def be:Fn:=run 3 (ak [bE,aG] eB)
def jl:Fn:=run 3 (ak [] ma)
def fN:Fn:=run 5 (ak [fO,jl] i9)
def cj:Fn:=run 6 (ak [fO,fN] i8)
def dq:Fn:=run 2 (ak [ic] md)
def aJ:Fn:=run 11 (ak [aj,cj,dq] eJ)
def bW:Fn:=run 5 (ak [] dQ)
def ai:Fn:=run 2 (ak [bW] dw)
def bt:Fn:=run 4 (ak [ax,aw,au] ff)
def cm:Fn:=run 3 (ak [ai] eK)
def b8:Fn:=run 6 (ak [aj] d9)
def bI:Fn:=run 3 (ak [ai] gi)
def aS:Fn:=run 2 (ak [b8,bI] fb)
def bq:Fn:=run 5 (ak [cm,aJ,ai,aS] fc)
def ce:Fn:=run 4 (ak [b8,ai] gw)
def bK:Fn:=run 9 (ak [bx,bR,be,aJ,ai,bt,bq,aS,ce] mE)
def dU:Fn:=run 4 (ak [ic] ku)
def b0:Fn:=run 2 (ak [] oA)
def aW:Fn:=run 2 (ak [ar,b0] gO)
def c5:Fn:=run 5 (ak [b0] gQ)
def cS:Fn:=run 5 (ak [aW,aj,c5] jf)
def dS:Fn:=run 7 (ak [ar,aj] kh)
def cX:Fn:=run 4 (ak [ic] iF)
def gU:Fn:=run 9 (ak [dU,cS,b0,dS,cX] kq)
def lr:Fn:=run 3 (ak [cS] ph)
def fP:Fn:=run 4 (ak [b0,lr,cS] jb)
def eV:Fn:=run 3 (ak [dU,cX,dS] kn)
def dY:Fn:=run 4 (ak [gU,fP,eV] tx)
def bV:Fn:=run 4 (ak [] iD)
def cJ:Fn:=run 8 (ak [b0,bI] gN)
def bz:Fn:=run 5 (ak [bK,cJ] c9)
def b9:Fn:=run 8 (ak [bV,bz] ja)
def jW:Fn:=run 5 (ak [dU,dS,cX] nT)
def gT:Fn:=run 4 (ak [eV,jW] km)
def eU:Fn:=run 5 (ak [bV,gT] ki)
def gp:Fn:=run 4 (ak [c5,cS] mD)
def aQ:Fn:=run 4 (ak [eU,gp] gj)
def nV:Fn:=run 8 (ak [bj,bh,aF,bS,bu,bK,dY,aW,b9,aQ] uN)
def Fs:List Fn:=[bj,cY,aF,bh,aj,eC,fM,bS,fO,gV,bu,eu,ic,jV,jU,ar,ay,aG,bx,aZ,bB,ax,bF,aw,aY,bg,au,bE,aK,ck,bR,be,jl,fN,cj,dq,aJ,bW,ai,bt,cm,b8,bI,aS,bq,ce,bK,dU,b0,aW,c5,cS,dS,cX,gU,lr,fP,eV,dY,bV,cJ,bz,b9,jW,gT,eU,gp,aQ]
theorem ae {fs:List Fn}{e:FE}{r:List FE}{F:Fn} (h:e.fn fs=F):iR fs (e::r)=iR (fs++[F]) r:=by rw [<- h];rfl
theorem G5:iR [] pre=Fs:=(ae (F:=bj) rfl).trans <| (ae (F:=cY) rfl).trans <| (ae (F:=aF) rfl).trans <| (ae (F:=bh) rfl).trans <| (ae (F:=aj) rfl).trans <| (ae (F:=eC) rfl).trans <| (ae (F:=fM) rfl).trans <| (ae (F:=bS) rfl).trans <| (ae (F:=fO) rfl).trans <| (ae (F:=gV) rfl).trans <| (ae (F:=bu) rfl).trans <| (ae (F:=eu) rfl).trans <| (ae (F:=ic) rfl).trans <| (ae (F:=jV) rfl).trans <| (ae (F:=jU) rfl).trans <| (ae (F:=ar) rfl).trans <| (ae (F:=ay) rfl).trans <| (ae (F:=aG) rfl).trans <| (ae (F:=bx) rfl).trans <| (ae (F:=aZ) rfl).trans <| (ae (F:=bB) rfl).trans <| (ae (F:=ax) rfl).trans <| (ae (F:=bF) rfl).trans <| (ae (F:=aw) rfl).trans <| (ae (F:=aY) rfl).trans <| (ae (F:=bg) rfl).trans <| (ae (F:=au) rfl).trans <| (ae (F:=bE) rfl).trans <| (ae (F:=aK) rfl).trans <| (ae (F:=ck) rfl).trans <| (ae (F:=bR) rfl).trans <| (ae (F:=be) rfl).trans <| (ae (F:=jl) rfl).trans <| (ae (F:=fN) rfl).trans <| (ae (F:=cj) rfl).trans <| (ae (F:=dq) rfl).trans <| (ae (F:=aJ) rfl).trans <| (ae (F:=bW) rfl).trans <| (ae (F:=ai) rfl).trans <| (ae (F:=bt) rfl).trans <| (ae (F:=cm) rfl).trans <| (ae (F:=b8) rfl).trans <| (ae (F:=bI) rfl).trans <| (ae (F:=aS) rfl).trans <| (ae (F:=bq) rfl).trans <| (ae (F:=ce) rfl).trans <| (ae (F:=bK) rfl).trans <| (ae (F:=dU) rfl).trans <| (ae (F:=b0) rfl).trans <| (ae (F:=aW) rfl).trans <| (ae (F:=c5) rfl).trans <| (ae (F:=cS) rfl).trans <| (ae (F:=dS) rfl).trans <| (ae (F:=cX) rfl).trans <| (ae (F:=gU) rfl).trans <| (ae (F:=lr) rfl).trans <| (ae (F:=fP) rfl).trans <| (ae (F:=eV) rfl).trans <| (ae (F:=dY) rfl).trans <| (ae (F:=bV) rfl).trans <| (ae (F:=cJ) rfl).trans <| (ae (F:=bz) rfl).trans <| (ae (F:=b9) rfl).trans <| (ae (F:=jW) rfl).trans <| (ae (F:=gT) rfl).trans <| (ae (F:=eU) rfl).trans <| (ae (F:=gp) rfl).trans <| (ae (F:=aQ) rfl).trans <| rfl
theorem GH:e_law.fn (iR [] pre)=nV:=by rw [G5];rfl
def Iw:Fn:=nV
end LW
namespace LW
open PySem PySem.Spec L2 R
open SX (Sh LC)
def Bd (w m:Nat) (S:Sh):Prop:=S.d.natAbs < 2 ^ 9000/\∀ i,i < m->∀ j,j < w + 1->(S.t i j).natAbs < 2 ^ 9000
section
variable {st:aa}{k a b c g n u w m:Nat}{rows:List AV}{S:Sh}
theorem GS (R:Rep st k a b c g n u rows S) (P:LC w m S) (B:Bd w m S) {i r q:Nat} (hi:i < m) (hr:r < m) (hq:q < w) :
  bF [.ref k,.int i,.int r,.int q] st=some (.bl (decide (S.t i w * - S.t r q < S.t r w * - S.t i q) || (decide (S.t i w * - S.t r q=S.t r w * - S.t i q) && decide (S.s i < S.s r))),st):=by
 have m1:cH (S.t i w) (- S.t r q)=true:=eN (B.2 i hi w oM) (by rw [Int.natAbs_neg];exact B.2 r hr q oM);have m2:cH (S.t r w) (- S.t i q)=true:=eN (B.2 r hr w oM) (by rw [Int.natAbs_neg];exact B.2 i hi q oM);simp [bF,aD,er,R.ins,R.line P hi,R.line P hr,R.last P hi,R.last P hr,R.cell P hi (show q < w + 1 by omega),R.cell P hr (show q < w + 1 by omega),cq m1,cq m2,R.side P hi,R.side P hr];by_cases h1:S.t i w * -S.t r q < S.t r w * -S.t i q <;> by_cases h2:S.t i w * -S.t r q=S.t r w * -S.t i q <;> simp [h1,h2]
theorem FP (R:Rep st k a b c g n u rows S) (P:LC w m S) (B:Bd w m S) {i r q:Nat} (hi:i < m) (hr:r < m) (hq:q < w) :
  aY [.ref k,.int i,.int r,.int q] st=some (.bl (decide (S.t i w * S.t r q <= S.t r w * S.t i q)),st):=by
 have m1:cH (S.t i w) (S.t r q)=true:=eN (B.2 i hi w oM) (B.2 r hr q oM);have m2:cH (S.t r w) (S.t i q)=true:=eN (B.2 r hr w oM) (B.2 i hi q oM);simp [aY,aD,d6,R.ins,R.line P hi,R.line P hr,R.last P hi,R.last P hr,R.cell P hi (show q < w + 1 by omega),R.cell P hr (show q < w + 1 by omega),cq m1,cq m2]
theorem sM (R:Rep st k a b c g n u rows S) (P:LC w m S) (hw:w <= 100):bB [.ref k] st=some (.fz (nL (bL S)),st):=by
 have he:nL (bL S)=(S.hd.zipIdx.filter fun z=>!decide (z.1 ∈ S.nl)).map fun z=>(AV.int ((z.2:Nat):Int)):=by unfold nL bL;rw [List.map_map];rfl
 have hf:=ik (l:=bL S);rw [he] at hf ⊢;simp [bB,aD,dG,R.ins,jw R.hb,He,cp (show S.hd.length <= 1000 by rw [P.hd];omega)];rw [f9 (B:=fun z=>!decide (z.1 ∈ S.nl)) (F:=fun z=>.int ((z.2:Nat):Int)) (gf R.hb) fun z _=>⟨_,rfl,by simp [R.ins,R.nin],fun _=>rfl⟩];simp [hf]
end
end LW
namespace LW
open PySem PySem.Spec L2 R
open SX (Sh LC gI chLine pvl sgn)
theorem Cs:((iL l).zip (iL P)).map (fun z=>AV.tup [z.1,z.2])=(l.zip P).map fun z=>.tup [.int z.1,.int z.2]:=by
 unfold iL;rw [List.zip_map,List.map_map];rfl
section
variable {l P:List Int}{q w:Nat}{sg d:Int}
theorem Al {M:Nat} (h:∀ x ∈ l,x.natAbs < M) (hM:0 < M) (j:Nat):(gI l j).natAbs < M:=by
 unfold gI;rw [zD];cases e:l[j]? with
 | none=>exact hM
 | some x=>exact h x (zW e)
theorem JP (hl:l.length=w + 1) (hP:P.length=w + 1) (hq:q < w + 1) (hw:w <= 100) (bl:∀ x ∈ l,x.natAbs < 2 ^ 9000) (bP:∀ x ∈ P,x.natAbs < 2 ^ 9000) (hd:d ≠ 0) (bd:d.natAbs < 2 ^ 9000) (bs:sg.natAbs < 2 ^ 9000) :
  ∃ v st',bg [.fz (iL l),.fz (iL P),.int q,.int sg,.int d] []=some (v,st')/\eM st' v=some (.fz (iL (chLine l P q sg d))):=by
 have hM:(0:Nat) < 2 ^ 9000:=Nat.two_pow_pos _;have x1:∀ st:aa,bM st (.fz (iL P)) (.int (q:Int))=some (.int (gI P q)):=fun st=>by rw [cg hU,db,cw oM]
 have x2:∀ st:aa,bM st (.fz (iL l)) (.int (q:Int))=some (.int (gI l q)):=fun st=>by rw [cg hU,db,cw oM]
 have bp:=Al bP hM q;have bf:=Al bl hM q;have dv:=qX hd bd;unfold chLine;by_cases h1:gI l q=0
 ·by_cases h2:gI P q=d
  ·refine ⟨.fz (iL l),[],?_,by rw [yI h1,yI h2];rfl⟩
   simp [bg,aD,dE,x1,x2,h1,h2]
  ·refine ⟨.fz (iL (l.map fun x=>SX.fdvS (x * gI P q) d)),[],?_,by rw [yI h1,yH h2];rfl⟩
   simp [bg,aD,dE,x1,x2,h1,h2,cp (show l.length <= 1000 by omega)];rw [jL (F:=fun x=>SX.fdvS (x * gI P q) d) dW fun x hx=>⟨_,rfl,rfl,by simp [cq (eN (bl x hx) bp),pG dv];rfl⟩];simp
 ·refine ⟨.ref 0,[.lst (iL (((l.zip P).map fun z=>SX.fdvS (z.1 * gI P q - gI l q * z.2) d).set q (sg * gI l q)))],?_,by rw [yH h1];exact sk rfl⟩
  have ml:=eN bs bf;have hz:((l.zip P).length) <= 1000:=by rw [List.length_zip];omega
  simp [bg,aD,dE,x1,x2,h1,iZ,Cs];rw [yI (cp oM),qF (F:=fun z=>SX.fdvS (z.1 * gI P q - gI l q * z.2) d) dW fun z hz=>⟨_,rfl,rfl,by
   have:=List.of_mem_zip hz
   simp [cq (eN (bl _ this.1) bp),cq (eN bf (bP _ this.2)),pG dv];rfl⟩]
  simp [cq ml];rw [c8 (xs:=iL ((l.zip P).map fun z=>SX.fdvS (z.1 * gI P q - gI l q * z.2) d)) rfl (by simp;omega),gC];simp
theorem Hf (hx:RowR st x l) (hl:l.length=w + 1) (hP:P.length=w + 1) (hq:q < w + 1) (hw:w <= 100) (bl:∀ x ∈ l,x.natAbs < 2 ^ 9000) (bP:∀ x ∈ P,x.natAbs < 2 ^ 9000) (hd:d ≠ 0) (bd:d.natAbs < 2 ^ 9000) (bs:sg.natAbs < 2 ^ 9000) :
  ∃ st1,pm bg [x,.fz (iL P),.int q,.int sg,.int d] st=some (.fz (iL (chLine l P q sg d)),st1)/\(st1=st\/∃ r,x=.ref r/\st[r]?=some (.lst (iL l))/\st1=st.set r (.al (.fz (iL l)))):=by
 obtain ⟨v,st',e1,e2⟩:=JP hl hP hq hw bl bP hd bd bs;exact kD (rest:=[.fz (iL P),.int q,.int sg,.int d]) hx (by simp) rfl (fun s=>by simp [nj,oU,rf]) e1 e2 (by simp [di])
end
section
variable {st:aa}{k a b c g n u w m:Nat}{rows:List AV}{S:Sh}
theorem Bd.row (B:Bd w m S) (P:LC w m S) {i:Nat} (hi:i < m):∀ x ∈ SX.row S i,x.natAbs < 2 ^ 9000:=fun x hx=>by
 obtain ⟨j,hj⟩:=z9 hx;have hl:=(zB.mp hj).1;rw [P.rl hi] at hl
 have:=B.2 i hi j hl
 have e:S.t i j=x:=by show (SX.row S i).getD j 0=x;rw [zD,hj];rfl
 rw [e] at this;exact this
theorem kP (R:Rep st k a b c g n u rows S) (P:LC w m S) (B:Bd w m S) (hd:S.d ≠ 0) (hw:w <= 100) (hm:m <= 1000) {p q:Nat} (hp:p < m) (hq:q < w) :
  ∃ st' a' rows',au [.ref k,.int p,.int q] st=some (.non,st')/\Rep st' k a' b c g n u rows' (SX.LI S p q):=by
 have rl:rows.length=m:=by rw [R.len,P.ls]
 obtain ⟨sg,hsg⟩:∃ x,x=sgn (S.t p q):=⟨_,rfl⟩;obtain ⟨pl,hpl⟩:∃ x,x=pvl S p q:=⟨_,rfl⟩;have hpl':pl=(SX.row S p).map fun x=>sg * x:=by rw [hpl,hsg];rfl
 have lp:pl.length=w + 1:=by rw [hpl',zH];exact P.rl hp
 have sa:sg.natAbs=1:=by rw [hsg];unfold sgn;split <;> rfl
 have bs:sg.natAbs < 2 ^ 9000:=by rw [sa];exact Nat.one_lt_two_pow oM
 have bP:∀ x ∈ pl,x.natAbs < 2 ^ 9000:=fun x hx=>by
  rw [hpl'] at hx;obtain ⟨y,hy,rfl⟩:=yD.mp hx;rw [Int.natAbs_mul,sa,Nat.one_mul];exact B.row P hp y hy
 have s1:∃ st1,fQ [(a,.lst rows)] (cB [bg] (.nm 7)) (io [bg] .no) (ev [bg] (.ca true 0 (.cons (.v 7) (.cons (.v 4) (.cons (.v 2) (.cons (.v 3) (.cons (.v 5) .nil))))))) [some (.ref k),some (.int p),some (.int q),some (.int sg),some (.fz (iL pl)),some (.int S.d),none,none] rows st
   = some ((List.range rows.length).map fun i=>.fz (iL (chLine (SX.row S i) pl q sg S.d)),st1)/\Rep st1 k a b c g n u rows S:=by
  refine ED (J:=fun _ s=>Rep s k a b c g n u rows S) (fun _ s _ R'=>gf R'.ha) (fun i x s hx R'=>?_) R;have hi:i < m:=by rw [<- rl];exact (zB.mp hx).1
  obtain ⟨s1,e1,h1⟩:=Hf (R'.row i x hx) (P.rl hi) lp (show q < w + 1 by omega) hw (B.row P hi) bP hd B.1 bs;refine ⟨_,s1,rfl,rfl,by simp [e1],?_⟩;rcases h1 with rfl | ⟨r,rfl,h2,rfl⟩
  ·exact R'
  ·exact R'.freeze hx h2
 obtain ⟨st1,e1,R1⟩:=s1;obtain ⟨rows2,hr2⟩:∃ x,x=(List.range rows.length).map fun i=>AV.fz (iL (chLine (SX.row S i) pl q sg S.d)):=⟨_,rfl⟩
 rw [<- hr2] at e1;have fz2:∀ i x,rows2[i]?=some x->i < m/\x=.fz (iL (chLine (SX.row S i) pl q sg S.d)):=fun i x h=>by
  rw [hr2,zR] at h;obtain ⟨j,h1,rfl⟩:=zE.mp h;have hl:=(zB.mp h1).1;rw [List.length_range] at hl;rw [List.getElem?_range hl] at h1;cases h1;exact ⟨by omega,rfl⟩
 have l2:rows2.length=m:=by rw [hr2,zH,List.length_range,rl]
 have lt:∀ {s:aa}{i:Nat}{x:Ly},s[i]?=some x->i < s.length:=fun h=>(zB.mp h).1
 -- the new lines
 have R2:Rep ((st1++[Ly.lst rows2]).set k (.ins "Sheet" (cK S.d st1.length b c g n u))) k st1.length b c g n u rows2 { S with ls:=S.ls.map fun l=>chLine l pl q sg S.d }:=by
  refine Rep.fields (S':={ S with ls:=S.ls.map fun l=>chLine l pl q sg S.d }) (R1.app (ys:=[Ly.lst rows2])) gl rfl rfl rfl rfl rfl (by simp [l2,P.ls]) (fun i x h=>?_) (Nat.ne_of_gt (lt R1.hb)) (Nat.ne_of_gt (lt R1.hc)) fun i r h=>?_
  ·obtain ⟨hi,rfl⟩:=fz2 i x h
   left;unfold SX.row;simp [zD,zF (show i < S.ls.length by rw [P.ls];exact hi)]
  ·have:=(fz2 i _ h).2;cases this
 obtain ⟨t2,ht2⟩:∃ x,x=(st1++[Ly.lst rows2]).set k (.ins "Sheet" (cK S.d st1.length b c g n u)):=⟨_,rfl⟩;rw [<- ht2] at R2;obtain ⟨a',ha'⟩:∃ x,x=st1.length:=⟨_,rfl⟩;rw [<- ha'] at R2 ht2;have R3:=Rep.rowset (p:=p) (x:=.ref t2.length) (l:=pl.map fun x=>- x) (R2.app (ys:=[Ly.lst (iL (pl.map fun x=>- x))])) (.inr ⟨t2.length,rfl,.inl gl⟩) fun r e=>by cases e;exact ⟨Nat.ne_of_gt (lt R2.ha),Nat.ne_of_gt (lt R2.hb),Nat.ne_of_gt (lt R2.hc)⟩
 obtain ⟨t3,ht3⟩:∃ x,x=(t2++[Ly.lst (iL (pl.map fun x=>- x))]).set a' (.lst (rows2.set p (.ref t2.length))):=⟨_,rfl⟩;rw [<- ht3] at R3;have g3:t3[t2.length]?=some (.lst (iL (pl.map fun x=>- x))):=by rw [ht3,ao (zU (lt R2.ha))];exact gl
 have p3:(rows2.set p (.ref t2.length))[p]?=some (.ref t2.length):=by simp [l2,hp]
 have R4:=Rep.cellset (l:=(pl.map fun x=>- x).set q (sg * S.d)) R3 p3 fun i ne h=>by
  rw [yU,yH (fun z=>ne z.symm)] at h
  have:=(fz2 i _ h).2;cases this
 obtain ⟨t4,ht4⟩:∃ x,x=t3.set t2.length (.lst (iL ((pl.map fun x=>- x).set q (sg * S.d)))):=⟨_,rfl⟩;rw [<- ht4] at R4;have R5:=Rep.fields (S':={ d:=gI pl q,ls:=_,hd:=S.hd,sd:=S.sd,gd:=S.gd,nl:=S.nl,tn:=S.tn }) R4 R4.ha rfl rfl rfl rfl rfl R4.len R4.row R4.ab R4.ac R4.ra;obtain ⟨t5,ht5⟩:∃ x,x=t4.set k (.ins "Sheet" (cK (gI pl q) a' b c g n u)):=⟨_,rfl⟩;have R5:=ht5 ▸ R5;have R6:=Rep.sides (sd':=S.sd.set p (S.h q)) R5;obtain ⟨t6,ht6⟩:∃ x,x=t5.set c (.lst (nL (S.sd.set p (S.h q)))):=⟨_,rfl⟩;rw [<- ht6] at R6;have R7:=Rep.heads (hd':=S.hd.set q (S.s p)) R6;obtain ⟨t7,ht7⟩:∃ x,x=t6.set b (.lst (nL (S.hd.set q (S.s p)))):=⟨_,rfl⟩;rw [<- ht7] at R7;refine ⟨t7,a',rows2.set p (.ref t2.length),?_,?_⟩
 rotate_left
 ·have e:SX.LI S p q={ d:=gI pl q,ls:=((S.ls.map fun l=>chLine l pl q sg S.d).set p (pl.map fun x=>- x)).set p ((pl.map fun x=>- x).set q (sg * S.d)),hd:=S.hd.set q (S.s p),sd:=S.sd.set p (S.h q),gd:=S.gd,nl:=S.nl,tn:=S.tn }:=by
   unfold SX.LI;rw [List.set_set,hpl,hsg]
  rw [e];exact R7
 rw [au,aD];unfold fe;refine ag (sl':=[some (.ref k),some (.int p),some (.int q),some (.int sg),none,none,none]) (st':=st) ?_ ?_
 ·by_cases h:S.t p q < 0
  ·simp [R.ins,R.line P hp,R.cell P hp (show q < w + 1 by omega),h,hsg,sgn]
  ·simp [R.ins,R.line P hp,R.cell P hp (show q < w + 1 by omega),h,hsg,sgn]
 refine ag (sl':=[some (.ref k),some (.int p),some (.int q),some (.int sg),some (.fz (iL pl)),none,none]) (st':=st) ?_ ?_
 ·obtain ⟨gd,i1,i2⟩:=(R.row p _ (R.rx P hp)).it
  simp [R.ins,R.line P hp,i1,cp (show (SX.row S p).length <= 1000 by rw [P.rl hp];omega)];rw [jL (F:=fun x=>sg * x) i2 fun x hx=>⟨_,rfl,rfl,by simp [cq (eN bs (B.row P hp x hx))]⟩];simp [hpl']
 refine ag (sl':=[some (.ref k),some (.int p),some (.int q),some (.int sg),some (.fz (iL pl)),some (.int S.d),none]) (st':=st) (by simp [R.ins]) ?_;refine ag (sl':=[some (.ref k),some (.int p),some (.int q),some (.int sg),some (.fz (iL pl)),some (.int S.d),none]) (st':=t2) ?_ ?_
 ·rw [g9 (v:=.ref a') (st':=st1++[.lst rows2]) (k:=k) (by simp [R.ins,oo R.ha,rl,cp hm,e1,ha']) (by simp) R1.app.ins rfl,xD,ht2]
 refine ag (sl':=[some (.ref k),some (.int p),some (.int q),some (.int sg),some (.fz (iL pl)),some (.int S.d),none]) (st':=t3) ?_ ?_
 ·simp [cp (show pl.length <= 1000 by omega)]
  rw [jL (F:=fun x=>- x) dW fun x hx=>⟨_,rfl,rfl,by simp⟩];simp [R2.app.ins,c8 (R2.app (ys:=[Ly.lst (iL (pl.map fun x=>- x))])).ha (show p < rows2.length by omega),ht3]
 have P4:LC w m { S with ls:=((S.ls.map fun l=>chLine l pl q sg S.d).set p (pl.map fun x=>- x)).set p ((pl.map fun x=>- x).set q (sg * S.d)) }:=by
  have:=SX.exch_shp (c:=q) P hp
  refine ⟨by simp [P.ls],fun l hl=>this.row l ?_,P.hd,P.sd⟩;show l ∈ (S.ls.map fun l=>chLine l (pvl S p q) q (sgn (S.t p q)) S.d).set p _;rw [<- hpl,<- hsg];rw [List.set_set] at hl;exact hl
 have rx:kA (rows2.set p (.ref t2.length)) p=.ref t2.length:=by unfold kA;rw [zD,p3];rfl
 refine ag (sl':=[some (.ref k),some (.int p),some (.int q),some (.int sg),some (.fz (iL pl)),some (.int S.d),none]) (st':=t4) ?_ ?_
 ·have li:bM t3 (.ref a') (.int (p:Int))=some (.ref t2.length):=by rw [cg (ba R3.ha),db];exact p3
  simp [cq (eN bs B.1),R3.ins,li,c8 g3 (show q < (iL (pl.map fun x=>- x)).length by simp;omega),gC,ht4]
 refine ag (sl':=[some (.ref k),some (.int p),some (.int q),some (.int sg),some (.fz (iL pl)),some (.int S.d),none]) (st':=t5) ?_ ?_
 ·have xi:bM t4 (.fz (iL pl)) (.int (q:Int))=some (.int (gI pl q)):=by rw [cg hU,db,cw oM]
  rw [g9 (v:=.int (gI pl q)) (st':=t4) (k:=k) (by simp [xi]) (by simp) R4.ins rfl,xE,ht5]
 have P5:LC w m { S with d:=gI pl q,ls:=((S.ls.map fun l=>chLine l pl q sg S.d).set p (pl.map fun x=>- x)).set p ((pl.map fun x=>- x).set q (sg * S.d)) }:=⟨P4.ls,P4.row,P4.hd,P4.sd⟩;refine ag (sl':=[some (.ref k),some (.int p),some (.int q),some (.int sg),some (.fz (iL pl)),some (.int S.d),some (.int (S.s p:Int))]) (st':=t5) ?_ ?_
 ·have:=R5.side P5 hp
  simp [R5.ins,this];rfl
 refine ag (sl':=[some (.ref k),some (.int p),some (.int q),some (.int sg),some (.fz (iL pl)),some (.int S.d),some (.int (S.s p:Int))]) (st':=t6) ?_ ?_
 ·have:=R5.head P5 hq
  simp [R5.ins,this,c8 R5.hc (show p < (nL S.sd).length by simp [P.sd,hp]),ht6];rw [<- vS];rfl
 refine ag (sl':=[some (.ref k),some (.int p),some (.int q),some (.int sg),some (.fz (iL pl)),some (.int S.d),some (.int (S.s p:Int))]) (st':=t7) ?_ rfl;simp [R6.ins,c8 R6.hb (show q < (nL S.hd).length by simp [P.hd,hq]),ht7,vS]
end
end LW
namespace LW
open PySem PySem.Spec L2 R
open SX (Sh LC LD LI)
noncomputable def ins (l:List Nat) (q:Nat):List Nat:=if q ∈ l then l else l++[q]
section
variable {st:aa}{k a b c g n u w m:Nat}{rows:List AV}{S:Sh}{p q:Nat}
theorem sV (R:Rep st k a b c g n u rows S) (hl:S.gd.length <= 1000):∃ st',aG [.ref k,.int q] st=some (.non,st')/\Rep st' k a b c g n u rows { S with gd:=ins S.gd q }:=by
 refine ⟨_,?_,R.guard⟩;simp [aG,aD,gR,R.ins,oj R.hg hl,ins]
theorem Ei (R:Rep st k a b c g n u rows S) (hl:S.nl.length <= 1000):∃ st',ck [.ref k,.int q] st=some (.non,st')/\Rep st' k a b c g n u rows { S with nl:=ins S.nl q }:=by
 refine ⟨_,?_,R.nail⟩;simp [ck,aD,iI,R.ins,oj R.hn hl,ins]
theorem CC (R:Rep st k a b c g n u rows S) (P:LC w m S) (hw:w <= 100) (hp:p < m) (hl:S.tn.length <= 1000):∃ st' rows',aZ [.ref k,.int p] st=some (.non,st')/\Rep st' k a b c g n u rows' (SX.trn S p):=by
 have R1:=Rep.rowset (p:=p) (x:=.fz (iL ((SX.row S p).map fun x=>- x))) (l:=(SX.row S p).map fun x=>- x) R (.inl rfl) fun r e=>nomatch e
 have R2:=Rep.turned (tn':=if S.s p ∈ S.tn then S.tn else S.tn++[S.s p]) R1;refine ⟨_,_,?_,R2⟩;obtain ⟨gd,i1,i2⟩:=(R.row p _ (R.rx P hp)).it;have P1:LC w m { S with ls:=S.ls.set p ((SX.row S p).map fun x=>- x) }:=⟨(SX.trn_shp P hp).ls,(SX.trn_shp P hp).row,P.hd,P.sd⟩;rw [aZ,aD];unfold eL;refine ag (sl':=[some (.ref k),some (.int p)]) (st':=st.set a (.lst (rows.set p (.fz (iL ((SX.row S p).map fun x=>- x)))))) ?_ ?_
 ·simp [R.ins,R.line P hp,i1,cp (show (SX.row S p).length <= 1000 by rw [P.rl hp];omega)]
  rw [jL (F:=fun x=>- x) i2 fun x hx=>⟨_,rfl,rfl,by simp⟩];simp [R.ins,c8 R.ha (show p < rows.length by rw [R.len,P.ls];exact hp)]
 ·have:=R1.side P1 hp
  simp [R1.ins,this];rw [oj R1.hu hl];rfl
end
end LW
namespace LW
open PySem PySem.Spec L2 R
open SX (Sh LC openS)
structure Gv where
 row:List Int
 eq:Bool
 num:Int
def Gv.av (x:Gv):AV:=.tup [.fz (iL x.row),.str (if x.eq then "=" else ">"),.int x.num]
def aO (RR:List (List Int)) (gv:List Gv) (goal:List Int):List (List Int):=RR.map (·++[0])++gv.map (fun x=>x.row++[-x.num])++[goal.map (fun x=>- x)++[0]]
section
variable {w:Nat}{L RR:List (List Int)}{gv:List Gv}{goal:List Int}
abbrev oW:List (Str × AV):=[("below",.int 1)]
abbrev Fg:List (Str × AV):=[("below",.int 1),("lines",.ref 2)]
abbrev Ff:List (Str × AV):=[("below",.int 1),("lines",.ref 2),("heads",.ref 3)]
abbrev Fe:List (Str × AV):=[("below",.int 1),("lines",.ref 2),("heads",.ref 3),("sides",.ref 4)]
abbrev Fd:List (Str × AV):=[("below",.int 1),("lines",.ref 2),("heads",.ref 3),("sides",.ref 4),("guarded",.ref 5)]
abbrev Fc:List (Str × AV):=[("below",.int 1),("lines",.ref 2),("heads",.ref 3),("sides",.ref 4),("guarded",.ref 5),("nailed",.ref 6)]
abbrev Kf (w:Nat) (L:List (List Int)):aa:=[.lst (aB L),.ins "Sheet" (cK 1 2 3 4 5 6 7),.lst (aB L),.lst (nL (List.range w)),.lst (nL ((List.range L.length).map (w + ·))),.dK [],.dK [],.dK []]
theorem ES (hw:w <= 100) (hL:L.length <= 400):ay [.ref 1,.int w,.ref 0] [.lst (aB L),.ins "Sheet" []]=some (.non,[.lst (aB L),.ins "Sheet" (cK 1 2 3 4 5 6 7),.lst (aB L),.lst (nL (List.range w)),.lst (nL ((List.range L.length).map (w + ·))),.dK [],.dK [],.dK []]):=by
 have sm:oK (w:Int)=true:=by unfold oK;simp;omega
 have sm2:oK ((w:Int) + (L.length:Int))=true:=by unfold oK;simp;omega
 have l0:∀ X:aa,bD (.lst (aB L)::X) (.ref 0)=some (aB L):=fun X=>ba rfl
 rw [ay,aD];unfold fg;refine ag (st':=[.lst (aB L),.ins "Sheet" oW]) (g9 (v:=.int 1) (st':=[.lst (aB L),.ins "Sheet" []]) (k:=1) (fs:=[]) rfl rfl rfl rfl) ?_;refine ag (st':=[.lst (aB L),.ins "Sheet" Fg,.lst (aB L)]) (g9 (v:=.ref 2) (st':=[.lst (aB L),.ins "Sheet" oW,.lst (aB L)]) (k:=1) (fs:=oW) ?_ rfl rfl rfl) ?_
 ·have e:=ur (gd:=[(0,.lst (aB L))]) (g:=cB [] (.nm 3)) (t:=io [] .no) (f:=ev [] (.nw false (.lof (.v 3)))) (sl:=[some (.ref 1),some (.int w),some (.ref 0),none]) (st:=[.lst (aB L),.ins "Sheet" oW]) (em:=fun l=>.fz (iL l)) (F:=fun l=>l) (xs:=L) (gf rfl) fun l hl=>⟨_,rfl,rfl,by simp [og]⟩
  rw [List.map_id'] at e;have e':fQ [(0,.lst (aB L))] (cB [] (.nm 3)) (io [] .no) (ev [] (.nw false (.lof (.v 3)))) [some (.ref 1),some (.int w),some (.ref 0),none] (aB L) [.lst (aB L),.ins "Sheet" oW]=some (aB L,[.lst (aB L),.ins "Sheet" oW]):=e;have i0:m7 [.lst (aB L),.ins "Sheet" oW] (.ref 0)=some ⟨aB L,[(0,.lst (aB L))]⟩:=oo rfl;show ev [] (.nw true (.lc 1 (.e (.v 2)) (.nm 3) .no (.nw false (.lof (.v 3))))) [some (.ref 1),some (.int w),some (.ref 0)] [.lst (aB L),.ins "Sheet" oW]=_;simp [-aB,i0,cp (show L.length <= 1000 by omega),e']
 refine ag (st':=[.lst (aB L),.ins "Sheet" Ff,.lst (aB L),.lst (nL (List.range w))]) (g9 (v:=.ref 3) (st':=[.lst (aB L),.ins "Sheet" Fg,.lst (aB L),.lst (nL (List.range w))]) (k:=1) (fs:=Fg) ?_ rfl rfl rfl) ?_
 ·simp [t9,sm,tT]
 refine ag (st':=[.lst (aB L),.ins "Sheet" Fe,.lst (aB L),.lst (nL (List.range w)),.lst (nL ((List.range L.length).map (w + ·)))]) (g9 (v:=.ref 4) (st':=[.lst (aB L),.ins "Sheet" Ff,.lst (aB L),.lst (nL (List.range w)),.lst (nL ((List.range L.length).map (w + ·)))]) (k:=1) (fs:=Ff) ?_ rfl rfl rfl) ?_
 ·simp [t8,sm,sm2,bC,dZ,l0]
  have e:((w:Int) + (L.length:Int)).toNat - w=L.length:=by omega
  rw [e,F3,yI oM];simp
 refine ag (st':=[.lst (aB L),.ins "Sheet" Fd,.lst (aB L),.lst (nL (List.range w)),.lst (nL ((List.range L.length).map (w + ·))),.dK []]) (g9 (v:=.ref 5) (st':=[.lst (aB L),.ins "Sheet" Fe,.lst (aB L),.lst (nL (List.range w)),.lst (nL ((List.range L.length).map (w + ·))),.dK []]) (k:=1) (fs:=Fe) rfl rfl rfl rfl) ?_;refine ag (st':=[.lst (aB L),.ins "Sheet" Fc,.lst (aB L),.lst (nL (List.range w)),.lst (nL ((List.range L.length).map (w + ·))),.dK [],.dK []]) (g9 (v:=.ref 6) (st':=[.lst (aB L),.ins "Sheet" Fd,.lst (aB L),.lst (nL (List.range w)),.lst (nL ((List.range L.length).map (w + ·))),.dK [],.dK []]) (k:=1) (fs:=Fd) rfl rfl rfl rfl) ?_;refine ag (st':=[.lst (aB L),.ins "Sheet" (cK 1 2 3 4 5 6 7),.lst (aB L),.lst (nL (List.range w)),.lst (nL ((List.range L.length).map (w + ·))),.dK [],.dK [],.dK []]) (g9 (v:=.ref 7) (st':=[.lst (aB L),.ins "Sheet" Fc,.lst (aB L),.lst (nL (List.range w)),.lst (nL ((List.range L.length).map (w + ·))),.dK [],.dK [],.dK []]) (k:=1) (fs:=Fc) rfl rfl rfl rfl) ?_;rfl
theorem Hb {k:Nat} (h1:ev ks a sl st=some (.ref k,st)) (h2:ev ks e sl st=some (y,st)) (h3:st[k]?=some (.lst xs)) (h4:bD st y=some ys) (hl:xs.length + ys.length <= 1000):ev ks (.mt .ext a (.cons e .nil)) sl st=some (.non,st.set k (.lst (xs++ys))):=by
 simp [mh,qA,vV,h1,pR,ba h3,h2,ul,hZ,h3,h4,cp hl]
theorem HD {k:Nat} (h1:ev ks a sl st=some (.ref k,st)) (h2:ev ks e sl st=some (y,st)) (h3:st[k]?=some (.lst xs)) (hl:xs.length <= 1000):ev ks (.mt .app a (.cons e .nil)) sl st=some (.non,st.set k (.lst (xs++[y]))):=by
 simp [mh,qA,vV,h1,pR,ba h3,h2,oi,hZ,h3,cp hl]
theorem DM {n:Int} (HR:∀ st,pm ar [.int n] st=some (.fz (aB RR),st)) (HA:∀ st,pm aj [.int n] st=some (.int w,st)) (hw:w <= 15) (hR:RR.length <= 100) (hr:∀ l ∈ RR,l.length=w) (hg:gv.length <= 100) (hgr:∀ x ∈ gv,x.row.length=w) (hgo:goal.length=w) :
  ∃ st',bx [.int n,.fz (gv.map Gv.av),.fz (iL goal)] []=some (.ref 1,st')/\Rep st' 1 2 3 4 5 6 7 (aB (aO RR gv goal)) (openS w (aO RR gv goal) (w + RR.length)):=by
 have hL:(aO RR gv goal).length=RR.length + gv.length + 1:=by simp [aO];omega
 -- the loop that guards
 have R0:Rep [.lst (aB (aO RR gv goal)),.ins "Sheet" (cK 1 2 3 4 5 6 7),.lst (aB (aO RR gv goal)),.lst (nL (List.range w)),.lst (nL ((List.range (aO RR gv goal).length).map (w + ·))),.dK [],.dK [],.dK []] 1 2 3 4 5 6 7 (aB (aO RR gv goal)) (openS w (aO RR gv goal) 0):=by
  refine ⟨rfl,rfl,rfl,rfl,rfl,rfl,rfl,by simp [openS],fun i x h=>.inl ?_,by decide,by decide,by decide,by decide,by decide,by decide,fun i r h=>?_⟩
  ·unfold aB at h
   rw [zR] at h;obtain ⟨l,h1,rfl⟩:=zE.mp h;show _=AV.fz (iL ((aO RR gv goal).getD i []));rw [zD,h1];rfl
  ·unfold aB at h
   rw [zR] at h;obtain ⟨l,h1,h2⟩:=zE.mp h;cases h2
 obtain ⟨sl',st',e,x,rfl,R'⟩:=gg (gd:=[]) (g:=cB [ar,aj,ay,aG] (.nm 6)) (s:=ak [ar,aj,ay,aG] (.cons (.ex (.me "Sheet" "guard" 3 (.v 5) (.cons (.v 6) .nil))) .nil))
  (I:=fun i sl s=>∃ x,sl=[some (.int n),some (.fz (gv.map Gv.av)),some (.fz (iL goal)),some (.ref 0),some (.int ((w:Int) + (RR.length:Int))),some (.ref 1),x]/\Rep s 1 2 3 4 5 6 7 (aB (aO RR gv goal)) (openS w (aO RR gv goal) i)) (xs:=df 0 (w + RR.length)) (fun _ _ _ _ _=>rfl)
  (fun i y sl s hy hI=>by
   obtain ⟨x,rfl,R⟩:=hI;rw [tT] at hy;have hi:i < w + RR.length:=by have:=(zB.mp hy).1;simpa using this
   have ey:y=.int ((i:Nat):Int):=by
    rw [fZ (by simpa using hi)] at hy;injection hy with hy;rw [<- hy];simp [zD,hi]
   subst ey;obtain ⟨s',e1,R1⟩:=sV (q:=i) R (by simp [openS];omega);refine ⟨_,[some (.int n),some (.fz (gv.map Gv.av)),some (.fz (iL goal)),some (.ref 0),some (.int ((w:Int) + (RR.length:Int))),some (.ref 1),some (.int ((i:Nat):Int))],s',rfl,?_,_,rfl,?_⟩
   ·simp [R.ins,e1]
   ·have:ins (List.range i) i=List.range (i + 1):=by unfold ins;rw [yH (by simp),List.range_succ]
    have h2:{ openS w (aO RR gv goal) i with gd:=ins (openS w (aO RR gv goal) i).gd i }=openS w (aO RR gv goal) (i + 1):=by show Sh.mk _ _ _ _ (ins (List.range i) i) _ _=_;rw [this];rfl
    rw [h2] at R1;exact R1) (sl:=[some (.int n),some (.fz (gv.map Gv.av)),some (.fz (iL goal)),some (.ref 0),some (.int ((w:Int) + (RR.length:Int))),some (.ref 1),none]) (st:=_) ⟨none,rfl,R0⟩
 have ll:(df 0 (w + RR.length)).length=w + RR.length:=by rw [tT];simp
 rw [ll] at R';refine ⟨st',?_,R'⟩;rw [bx,aD];unfold fJ;refine ag (sl':=[some (.int n),some (.fz (gv.map Gv.av)),some (.fz (iL goal)),some (.ref 0),none,none,none]) (st':=[.lst (aB (RR.map (·++[0])))]) ?_ ?_
 ·have lc:=ur (gd:=[]) (g:=cB [ar,aj,ay,aG] (.nm 7)) (t:=io [ar,aj,ay,aG] .no) (f:=ev [ar,aj,ay,aG] (.nw false (.cat (.v 7) (.nw false (.li (.cons (.i 0) .nil))))))
   (sl:=[some (.int n),some (.fz (gv.map Gv.av)),some (.fz (iL goal)),none,none,none,none,none]) (st:=[]) (em:=fun l=>.fz (iL l)) (F:=fun l=>l++[0]) (xs:=RR) rfl fun l hl=>⟨_,rfl,rfl,by
    rw [dy,k7 (l:=l) (l':=[0]) (s1:=[]) (s2:=[]) (y:=.fz (iL [0])) rfl (by simp [bv,iL]) rfl rfl (by rw [hr l hl];simp;omega)];simp⟩
  have lc':fQ [] (cB [ar,aj,ay,aG] (.nm 7)) (io [ar,aj,ay,aG] .no) (ev [ar,aj,ay,aG] (.nw false (.cat (.v 7) (.nw false (.li (.cons (.i 0) .nil)))))) [some (.int n),some (.fz (gv.map Gv.av)),some (.fz (iL goal)),none,none,none,none,none] (aB RR) []=some (aB (RR.map (·++[0])),[]):=lc;simp [HR,cp (show RR.length <= 1000 by omega),lc']
 have l0:∀ (x:List AV) (X:aa),bD (.lst x::X) (.ref 0)=some x:=fun x X=>ba rfl
 refine ag (sl':=[some (.int n),some (.fz (gv.map Gv.av)),some (.fz (iL goal)),some (.ref 0),some (.int ((w:Int) + (RR.length:Int))),none,none]) (st':=[.lst (aB (RR.map (·++[0])))]) (by simp [HA,bC,dZ,l0]) ?_;refine ag (sl':=[some (.int n),some (.fz (gv.map Gv.av)),some (.fz (iL goal)),some (.ref 0),some (.int ((w:Int) + (RR.length:Int))),none,none]) (st':=[.lst (aB (RR.map (·++[0]))++aB (gv.map fun x=>x.row++[-x.num]))]) ?_ ?_
 ·rw [xk,Hb (k:=0) (xs:=aB (RR.map (·++[0]))) (ys:=aB (gv.map fun x=>x.row++[-x.num])) (y:=.fz (aB (gv.map fun x=>x.row++[-x.num]))) rfl ?_ rfl rfl (by simp;omega)]
  ·rfl
  ·have lc:=ur (gd:=[]) (g:=cB [ar,aj,ay,aG] (.tu 3 (.cons (.nm 7) (.cons (.nm 8) (.cons (.nm 9) .nil))))) (t:=io [ar,aj,ay,aG] .no) (f:=ev [ar,aj,ay,aG] (.nw false (.cat (.nw false (.lof (.v 7))) (.nw false (.li (.cons (.un .USub (.v 9)) .nil))))))
    (sl:=[some (.int n),some (.fz (gv.map Gv.av)),some (.fz (iL goal)),some (.ref 0),some (.int ((w:Int) + (RR.length:Int))),none,none,none,none,none]) (st:=[.lst (aB (RR.map (·++[0])))]) (em:=Gv.av) (F:=fun x=>x.row++[-x.num]) (xs:=gv) rfl fun x hx=>⟨_,rfl,rfl,by
     rw [dy,k7 (l:=x.row) (l':=[-x.num]) (s1:=[.lst (aB (RR.map (·++[0])))]) (s2:=[.lst (aB (RR.map (·++[0])))]) (x:=.fz (iL x.row)) (y:=.fz (iL [-x.num])) (by simp [og]) (by simp [bv,iL]) rfl rfl (by rw [hgr x hx];simp;omega)];simp⟩
   simp [cp (show gv.length <= 1000 by omega),lc]
 refine ag (sl':=[some (.int n),some (.fz (gv.map Gv.av)),some (.fz (iL goal)),some (.ref 0),some (.int ((w:Int) + (RR.length:Int))),none,none]) (st':=[.lst (aB (aO RR gv goal))]) ?_ ?_
 ·rw [xk,HD (k:=0) (xs:=aB (RR.map (·++[0]))++aB (gv.map fun x=>x.row++[-x.num])) (y:=.fz (iL (goal.map (fun x=>- x)++[0]))) rfl ?_ rfl (by simp;omega)]
  ·rw [bind_some]
   have:aB (RR.map (·++[0]))++aB (gv.map fun x=>x.row++[-x.num])++[AV.fz (iL (goal.map (fun x=>- x)++[0]))]=aB (aO RR gv goal):=by
    simp [aO,aB]
   show some (Out.nx _ [.lst (_++[_])])=_;rw [this]
  ·rw [dy,k7 (l:=goal.map fun x=>- x) (l':=[0]) (s1:=[.lst (aB (RR.map (·++[0]))++aB (gv.map fun x=>x.row++[-x.num]))]) (s2:=[.lst (aB (RR.map (·++[0]))++aB (gv.map fun x=>x.row++[-x.num]))]) (x:=.fz (iL (goal.map fun x=>- x))) (y:=.fz (iL [0])) ?_ (by simp [bv,iL]) rfl rfl (by simp [hgo];omega)]
   ·simp
   ·simp [cp (show goal.length <= 1000 by omega)]
    rw [jL (F:=fun x=>- x) dW fun x hx=>⟨_,rfl,rfl,by simp⟩];simp
 refine ag (sl':=[some (.int n),some (.fz (gv.map Gv.av)),some (.fz (iL goal)),some (.ref 0),some (.int ((w:Int) + (RR.length:Int))),some (.ref 1),none]) (st':=Kf w (aO RR gv goal)) ?_ ?_
 ·have:=ES (w:=w) (L:=aO RR gv goal) oM oM
  simp [wI,HA,this]
 ·refine ag (sl':=[some (.int n),some (.fz (gv.map Gv.av)),some (.fz (iL goal)),some (.ref 0),some (.int ((w:Int) + (RR.length:Int))),some (.ref 1),x]) (st':=st') ?_ (by simp)
  have rb:eZ ((w:Int) + (RR.length:Int))=true:=by
   unfold eZ;refine yL ?_;have:((w:Int) + (RR.length:Int)).natAbs=w + RR.length:=by omega
   rw [this];by_cases h0:w + RR.length=0
   ·rw [h0];decide
   ·exact yW ((Nat.log2_lt h0).mpr oM)
  simp [Aj,rb];rw [show ((w:Int) + (RR.length:Int)).toNat=w + RR.length by omega];exact e
end
end LW
namespace LW
open PySem PySem.Spec L2 R
open SX (gI)
noncomputable def gL (l:List Int):Nat:=l.foldl (fun g x=>Nat.gcd g x.natAbs) 0
def aM (l:List Int):List Int:=if gL l=0 then l else l.map fun x=>x / (gL l:Int)
theorem yq {d o:Nat}:Nat.gcd o (d % o)=Nat.gcd d o:=by rw [Nat.gcd_comm,<- Nat.gcd_rec,Nat.gcd_comm]
theorem Kt:∀ (o d:Nat) (y:Option AV),∃ y',cL [] (.wh (.cmp .NotEq (.v 3) (.i 0)) (.cons (.as (.bin .Mod (.v 1) (.v 3)) (.nm 4)) (.cons (.as (.v 3) (.nm 1)) (.cons (.as (.v 4) (.nm 3)) .nil)))) [l,some (.int d),x,some (.int o),y] st=some (.nx [l,some (.int (Nat.gcd d o:Nat)),x,some (.int 0),y'] st):=by
 intro o
 induction o using Nat.strongRecOn with
 | _ o ih =>
  intro d y;by_cases h:o=0
  ·subst h
   refine ⟨y,?_⟩;rw [Nat.gcd_zero_right];exact kz (n:=1) (lv (by simp))
  ·obtain ⟨y',e⟩:=ih (d % o) (Nat.mod_lt _ oM) o (some (.int ((d % o:Nat):Int)))
   obtain ⟨n,e'⟩:=vK e;refine ⟨y',?_⟩;rw [yq] at e';refine kz (n:=n + 1) (fV (st':=st) (by simp;omega) ?_ e');have h0:(o:Int) ≠ 0:=by omega
   have hm:qR (d:Int) (o:Int)=((d % o:Nat):Int):=by unfold qR;rw [yI oM];simp
   simp [lK h0,hm]
theorem wq:gL (a++b)=b.foldl (fun g x=>Nat.gcd g x.natAbs) (gL a):=by unfold gL;rw [List.foldl_append]
theorem qQ:∀ b:List Int,b.foldl (fun g x=>Nat.gcd g x.natAbs) 1=1
 | []=>rfl
 | x::b=>by rw [List.foldl_cons,Nat.gcd_one_left];exact qQ b
theorem JQ:∃ r,bW [.fz (iL l)] st=some (r,st)/\r=.int (gL l:Int):=by
 have hl:=ow (gd:=[]) (g:=cB [] (.nm 2)) (s:=ak [] (.cons (.as (.bi .abs (.cons (.v 2) .nil)) (.nm 3)) (.cons (.wh (.cmp .NotEq (.v 3) (.i 0)) (.cons (.as (.bin .Mod (.v 1) (.v 3)) (.nm 4)) (.cons (.as (.v 3) (.nm 1)) (.cons (.as (.v 4) (.nm 3)) .nil)))) (.cons (.iff (.cmp .Eq (.v 1) (.i 1)) (.cons (.rt (.i 1)) .nil) .nil) .nil))))
  (I:=fun i sl s=>s=st/\∃ x y z,sl=[some (.fz (iL l)),some (.int (gL (l.take i):Nat)),x,y,z]) (Post:=fun v s=>s=st/\v=.int (gL l:Nat)) (xs:=iL l) (fun _ _ _ _ _=>rfl)
  (fun i x sl s hx hI=>by
   obtain ⟨rfl,x1,x2,x3,rfl⟩:=hI;have hi:i < l.length:=by have:=(zB.mp hx).1;simpa using this
   rw [cw hi] at hx;injection hx with hx;subst hx;have ht:l.take (i + 1)=l.take i++[gI l i]:=by
    rw [List.take_succ,zF hi];unfold gI;rw [zD,zF hi];rfl
   have hg:gL (l.take (i + 1))=Nat.gcd (gL (l.take i)) (gI l i).natAbs:=by rw [ht,wq];rfl
   obtain ⟨y',e⟩:=Kt (l:=some (.fz (iL l))) (x:=some (.int (gI l i))) (st:=s) (gI l i).natAbs (gL (l.take i)) x3;rw [<- hg] at e;have ea:mF s [.int (gI l i)]=some (.int ((gI l i).natAbs:Nat)):=by
    show some (AV.int (if gI l i < 0 then - gI l i else gI l i))=_;congr 2;split <;> omega
   have st1:cL [] (.as (.bi .abs (.cons (.v 2) .nil)) (.nm 3)) [some (.fz (iL l)),some (.int (gL (l.take i):Nat)),some (.int (gI l i)),x2,x3] s=some (.nx [some (.fz (iL l)),some (.int (gL (l.take i):Nat)),some (.int (gI l i)),some (.int ((gI l i).natAbs:Nat)),x3] s):=by
    simp [bC,ea]
   by_cases h1:gL (l.take (i + 1))=1
   ·refine ⟨_,.rt (.int 1) s,rfl,bG st1 (bG e ?_),.inr ⟨_,s,rfl,rfl,?_⟩⟩
    ·simp [h1]
    ·have:gL l=1:=by
      have:l=l.take (i + 1)++l.drop (i + 1):=(List.take_append_drop _ _).symm;rw [this,wq,h1,qQ]
     rw [this];rfl
   ·refine ⟨_,.nx [some (.fz (iL l)),some (.int (gL (l.take (i + 1)):Nat)),some (.int (gI l i)),some (.int 0),y'] s,rfl,bG st1 (bG e ?_),.inl ⟨_,s,rfl,rfl,_,_,_,rfl⟩⟩
    have:¬ ((gL (l.take (i + 1)):Nat):Int)=1:=by omega
    simp [this]) (sl:=[some (.fz (iL l)),some (.int 0),none,none,none]) (st:=st) ⟨rfl,none,none,none,rfl⟩
 rcases hl with ⟨sl',st',e,rfl,x,y,z,rfl⟩ | ⟨v,st',e,rfl,rfl⟩
 ·refine ⟨_,?_,rfl⟩
  rw [jx,List.take_length] at e;simp [bW,aD,dQ,e]
 ·refine ⟨_,?_,rfl⟩
  simp [bW,aD,dQ,e]
theorem EZ:∀ x ∈ l,gL l ∣ x.natAbs:=by
 have go:∀ (b:List Int) (g:Nat),(b.foldl (fun g x=>Nat.gcd g x.natAbs) g) ∣ g/\∀ x ∈ b,(b.foldl (fun g x=>Nat.gcd g x.natAbs) g) ∣ x.natAbs:=fun b=>by
  induction b with
  | nil=>intro g;exact ⟨Nat.dvd_refl g,fun x hx=>by cases hx⟩
  | cons y b ih =>
   intro g;obtain ⟨h1,h2⟩:=ih (Nat.gcd g y.natAbs);refine ⟨Nat.dvd_trans h1 (Nat.gcd_dvd_left _ _),fun x hx=>?_⟩;rcases zT.mp hx with rfl | hx
   ·exact Nat.dvd_trans h1 (Nat.gcd_dvd_right _ _)
   ·exact h2 x hx
 exact (go l 0).2
theorem G3 {B:Nat} (hB:0 < B) (h:∀ x ∈ l,x.natAbs < B):gL l < B:=by
 by_cases hz:∃ x ∈ l,x ≠ 0
 ·obtain ⟨x,hx,h0⟩:=hz
  exact yM (Nat.le_of_dvd oM (EZ x hx)) (h x hx)
 ·have:∀ (b:List Int),(∀ x ∈ b,x=0)->b.foldl (fun g x=>Nat.gcd g x.natAbs) 0=0:=fun b=>by
   induction b with
   | nil=>intro _;rfl
   | cons y b ih=>intro hb;rw [List.foldl_cons,hb y z8];exact ih fun x hx=>hb x (zQ _ hx)
  have e:gL l=0:=this l fun x hx=>Classical.byContradiction fun z=>hz ⟨x,hx,z⟩
  omega
theorem pC (hl:l.length <= 1000) (hb:∀ x ∈ l,x.natAbs < 2 ^ 9000):ai [.fz (iL l)] []=some (.fz (iL (aM l)),[]):=by
 obtain ⟨r,e,rfl⟩:=JQ (l:=l) (st:=[]);have ep:∀ st,pm bW [.fz (iL l)] st=some (.int (gL l:Int),st):=fun st=>bA rfl e rfl
 unfold aM;by_cases h:gL l=0
 ·rw [yI h]
  simp [ai,aD,dw,ep,h,og]
 ·rw [yH h]
  have h':¬ ((gL l:Nat):Int)=0:=by omega
  have dv:jQ ((gL l:Nat):Int)=true:=qX h' (by rw [Int.natAbs_natCast];exact G3 (Nat.two_pow_pos _) hb);simp [ai,aD,dw,ep,h,cp hl];rw [jL (F:=fun x=>x / (gL l:Int)) dW fun x hx=>⟨_,rfl,rfl,by
   simp [pG dv];unfold sY;rw [yI oM]⟩]
  simp
theorem qD (hl:l.length <= 1000) (hb:∀ x ∈ l,x.natAbs < 2 ^ 9000):pm ai [.fz (iL l)] st=some (.fz (iL (aM l)),st):=bA rfl (pC hl hb) rfl
theorem mx:(aM l).length=l.length:=by unfold aM;split <;> simp
theorem E8 {a b:Int} (ha:a.natAbs < 2 ^ 9000) (hb:b.natAbs < 2 ^ 9000):pm cm [.int a,.int b] st=some (.tup [.int (gI (aM [a,b]) 0),.int (gI (aM [a,b]) 1)],st):=by
 have e:=qD (l:=[a,b]) (st:=[]) (by simp) (fun x hx=>by simp at hx;rcases hx with rfl | rfl <;> assumption);have h2:(aM [a,b]).length=2:=mx;have x0:bM [] (.fz (iL (aM [a,b]))) (.int 0)=some (.int (gI (aM [a,b]) 0)):=by
  have:=cg (st:=[]) (x:=.fz (iL (aM [a,b]))) (i:=((0:Nat):Int)) hU;rw [db,cw oM] at this;exact this
 have x1:bM [] (.fz (iL (aM [a,b]))) (.int 1)=some (.int (gI (aM [a,b]) 1)):=by
  have:=cg (st:=[]) (x:=.fz (iL (aM [a,b]))) (i:=((1:Nat):Int)) hU;rw [db,cw oM] at this;exact this
 refine bA rfl (v:=.tup [.int (gI (aM [a,b]) 0),.int (gI (aM [a,b]) 1)]) (st':=[]) ?_ rfl;have e':pm ai [.fz [.int a,.int b]] []=some (.fz (iL (aM [a,b])),[]):=e;simp [cm,aD,eK,bv,e',x0,x1]
end LW
namespace LW
open PySem PySem.Spec L2 R
open SX (Sh LC gI)
structure GX (S:Sh) (w cc k:Nat) (X:List Int):Prop where
 len:X.length=w
 at_:∀ i,i < k->S.s i < w->gI X (S.s i)=S.t i cc
 no:∀ q,q < w->(∀ i,i < k->S.s i ≠ q)->gI X q=0
section
variable {st:aa}{k a b c g n u w m:Nat}{rows:List AV}{S:Sh}{v:Nat->Nat->Int}{nn:Int}
theorem zr {j:Nat} (h:ev ks e sl st=some (.int (j:Int),st)) (hj:j <= 1000):iS ks (.rep (.cons (.i 0) .nil) e) sl st=some (iL (List.replicate j 0),st):=by
 rw [GA];unfold t0;have h1:dI ks (.cons (.i 0) .nil) sl st=some ([.int 0],st):=rfl;rw [h1,bind_some];dsimp only;rw [h,bind_some];dsimp only;have rb:eZ (j:Int)=true:=by
  unfold eZ;refine yL ?_;rw [Int.natAbs_natCast];by_cases h0:j=0
  ·rw [h0];decide
  ·exact yW ((Nat.log2_lt h0).mpr (yM hj dC))
 rw [rb,cp (n:=[AV.int 0].length * ((j:Int)).toNat) (by simp;omega),cp (n:=[AV.int 0].length) (by simp)];show some _=some _;congr 2;show (List.replicate j [AV.int 0]).flatten=iL (List.replicate j 0);unfold iL
 induction j with
 | zero=>rfl
 | succ j ih=>rw [List.replicate_succ,List.flatten_cons,List.replicate_succ,zO];simp
theorem wu {j q:Nat}:gI (List.replicate j 0) q=0:=by
 unfold gI;rw [zD,List.getElem?_replicate];split <;> rfl
theorem Ak (R:Rep st k a b c g n u rows S) (P:LC w m S) (Q:SX.Pm w m S.h S.s) (HA:∀ st,pm aj [.int nn] st=some (.int w,st)) (hw:w <= 100) (hm:m <= 1000) {cI:Int}{cc:Nat}
  (hx:∀ {s:aa}{a:Nat}{rows:List AV},Rep s k a b c g n u rows S->∀ i,i < m->bM s (kA rows i) (.int cI)=some (.int (S.t i cc))) :
  ∃ X,b8 [.int nn,.ref k,.int cI] st=some (.ref st.length,st++[.lst (iL X)])/\GX S w cc m X:=by
 have sl:S.sd.length=m:=P.sd;obtain ⟨sl',st',e,X,x1,x2,rfl,rfl,hX⟩:=gg (gd:=[(c,.lst (nL S.sd))]) (g:=cB [aj] (.tu 2 (.cons (.nm 4) (.cons (.nm 5) .nil)))) (s:=ak [aj] (.cons (.iff (.cmp .Lt (.v 5) (.bi .len (.cons (.v 3) .nil))) (.cons (.as (.ix (.ix (.fd "Sheet" "lines" (.v 1)) (.v 4)) (.v 2)) (.su (.v 3) (.v 5))) .nil) .nil) .nil))
  (I:=fun i sl s=>∃ X x1 x2,s=st++[.lst (iL X)]/\sl=[some (.int nn),some (.ref k),some (.int cI),some (.ref st.length),x1,x2]/\GX S w cc i X) (xs:=bT 0 (nL S.sd)) (fun i sl s _ hI=>by obtain ⟨X,_,_,rfl,_⟩:=hI;exact gf (R.app (ys:=[_])).hc)
  (fun i y sl s hy hI=>by
   obtain ⟨X,x1,x2,rfl,rfl,hX⟩:=hI;obtain ⟨x,hx',rfl⟩:=nA hy;have hi:i < m:=by have:=(zB.mp hx').1;simpa [sl] using this
   have hs0:(nL S.sd)[i]?=some (.int ((S.s i:Nat):Int)):=fZ oM;rw [hs0] at hx';injection hx' with hx';subst hx';have Ra:=R.app (ys:=[Ly.lst (iL X)]);have ll:bD (st++[Ly.lst (iL X)]) (.ref st.length)=some (iL X):=ba gl;by_cases h:S.s i < w
   ·refine ⟨_,[some (.int nn),some (.ref k),some (.int cI),some (.ref st.length),some (.int i),some (.int (S.s i:Int))],st++[.lst (iL (X.set (S.s i) (S.t i cc)))],rfl,?_,X.set (S.s i) (S.t i cc),_,_,rfl,rfl,?_⟩
    ·have hs:=c8 (x:=.int (S.t i cc)) (gl (st:=st) (e:=Ly.lst (iL X))) (show S.s i < (iL X).length by simp [hX.len,h])
     rw [gC,eY] at hs;have lt':S.s i < X.length:=by rw [hX.len];exact h
     simp [bC,dZ,ll,lt',Ra.ins,Ra.line P hi,hx Ra i hi,hs]
    ·refine ⟨by simp [hX.len],fun j hj hs=>?_,fun q hq hn=>?_⟩
     ·by_cases e:j=i
      ·subst e;rw [SX.gI_set_at (by rw [hX.len];exact h)]
      ·rw [SX.gI_set_ne (fun z=>e (Q.si j i oM hi z))];exact hX.at_ j oM hs
     ·rw [SX.gI_set_ne (fun z=>hn i oM z.symm)];exact hX.no q hq fun j hj=>hn j oM
   ·refine ⟨_,[some (.int nn),some (.ref k),some (.int cI),some (.ref st.length),some (.int i),some (.int (S.s i:Int))],st++[.lst (iL X)],rfl,?_,X,_,_,rfl,rfl,?_⟩
    ·have lt':¬ S.s i < X.length:=by rw [hX.len];exact h
     simp [bC,dZ,ll,lt']
    ·refine ⟨hX.len,fun j hj hs=>?_,fun q hq hn=>hX.no q hq fun j hj=>hn j oM⟩
     by_cases e:j=i
     ·subst e;exact absurd hs h
     ·exact hX.at_ j oM hs) (sl:=[some (.int nn),some (.ref k),some (.int cI),some (.ref st.length),none,none]) (st:=st++[.lst (iL (List.replicate w 0))]) ⟨_,none,none,rfl,rfl,by simp,fun i hi=>by omega,fun q _ _=>wu⟩
 rw [lG,ju,sl] at hX;refine ⟨X,?_,hX⟩;rw [b8,aD];unfold d9;refine ag (sl':=[some (.int nn),some (.ref k),some (.int cI),some (.ref st.length),none,none]) (st':=st++[.lst (iL (List.replicate w 0))]) ?_ ?_
 ·rw [cO,wY,zr (j:=w) (by simp [HA]) oM];rfl
 refine ag (sl':=[some (.int nn),some (.ref k),some (.int cI),some (.ref st.length),x1,x2]) (st':=st++[.lst (iL X)]) ?_ (by simp);have Ra:=R.app (ys:=[Ly.lst (iL (List.replicate w 0))]);simp [Ra.ins,jw Ra.hc];exact e
theorem sS {n:Nat}:(iL l).take n=iL (l.take n):=by unfold iL;rw [List.map_take]
theorem Cd {n:Nat}:(iL l).drop n=iL (l.drop n):=by unfold iL;rw [List.map_drop]
theorem qZ {n:Nat} (hl:l.length=n + 1):cut (iL l) none (some (-1))=iL (l.take n):=by
 unfold cut;rw [jx,hl,HT.sIx_none,List.drop_zero];have:HT.Mg (n + 1) (n + 1) (some (-1))=n:=by
  show (if (-1:Int) < 0 then ((-1:Int) + ((n + 1:Nat):Int)).toNat else min (-1:Int).toNat (n + 1))=n;rw [yI dC];omega
 rw [this,Nat.sub_zero,sS]
theorem Cj {w m:Nat} (hl:l.length=w + (m + 1)):cut (iL l) (some (w:Int)) (some (-1))=iL ((l.drop w).take m):=by
 unfold cut;rw [jx,hl,HT.sIx_nat];have:HT.Mg (w + (m + 1)) (w + (m + 1)) (some (-1))=w + m:=by
  show (if (-1:Int) < 0 then ((-1:Int) + ((w + (m + 1):Nat):Int)).toNat else min (-1:Int).toNat (w + (m + 1)))=w + m;rw [yI dC];omega
 rw [this,Nat.min_eq_left oM,Cd,sS,show w + m - w=m by omega]
theorem vX {d:Int} (hl:X.length <= 100) (hb:∀ x ∈ X,x.natAbs < 2 ^ 9000) (hd:d.natAbs < 2 ^ 9000):bI [.fz (iL X),.int d] []=some (.tup [.fz (iL ((aM (X++[d])).take X.length)),.int (gI (aM (X++[d])) X.length)],[]):=by
 have ll:(aM (X++[d])).length=X.length + 1:=by rw [mx];simp
 have e:=qD (l:=X++[d]) (st:=[]) (by simp;omega) fun x hx=>by
  rcases zZ.mp hx with h | h
  ·exact hb x h
  ·rw [zM.mp h];exact hd
 have xl:bM [] (.fz (iL (aM (X++[d])))) (.int (-1))=some (.int (gI (aM (X++[d])) X.length)):=by
  rw [cg hU,oB (n:=X.length) (by simp [ll]),cw oM]
 rw [bI,aD];unfold gi;refine ag (sl':=[some (.fz (iL X)),some (.int d),some (.fz (iL (aM (X++[d]))))]) (st':=[]) ?_ ?_
 ·have c:=k7 (ks:=[ai]) (a:=.v 0) (b:=.nw false (.li (.cons (.v 1) .nil))) (sl:=[some (.fz (iL X)),some (.int d),none]) (st:=[]) (s1:=[]) (s2:=[]) (x:=.fz (iL X)) (y:=.fz (iL [d])) (l:=X) (l':=[d]) rfl (by simp [bv,iL]) rfl rfl (by simp;omega)
  simp [-zz,c,e]
 ·simp [sI,sG,qZ ll,xl]
theorem zl (R:Rep st k a b c g n u rows S) (P:LC w m S) (Q:SX.Pm w m S.h S.s) (B:Bd w m S) (HA:∀ st,pm aj [.int nn] st=some (.int w,st)) (hw:w <= 100) (hm:m <= 1000) :
  ∃ X T st1,aS [.int nn,.ref k] st=some (.tup [.fz (iL T),.int (gI (aM (X++[S.d])) w)],st1)/\T=(aM (X++[S.d])).take w/\GX S w w m X/\Rep st1 k a b c g n u rows S:=by
 obtain ⟨X,e,hX⟩:=Ak (cI:=-1) (cc:=w) R P Q HA hw hm fun R' i hi=>R'.last P hi
 have hb:∀ x ∈ X,x.natAbs < 2 ^ 9000:=fun x hx=>by
  obtain ⟨q,hq⟩:=z9 hx;have hl:=(zB.mp hq).1;rw [hX.len] at hl;have eg:gI X q=x:=by unfold gI;rw [zD,hq];rfl
  by_cases h:∃ i,i < m/\S.s i=q
  ·obtain ⟨i,hi,rfl⟩:=h
   rw [<- eg,hX.at_ i hi hl];exact B.2 i hi w oM
  ·rw [<- eg,hX.no q hl fun i hi z=>h ⟨i,hi,z⟩];exact Nat.two_pow_pos _
 obtain ⟨st1,e1,h1⟩:=kD (fn:=bI) (rest:=[.int S.d]) (x:=.ref st.length) (l:=X) (.inr ⟨_,rfl,.inl (gl (st:=st) (e:=.lst (iL X)))⟩) rfl rfl (fun s=>by simp [nj,oU]) (vX (by rw [hX.len];omega) hb B.1) rfl (by simp [di,ny]);refine ⟨X,_,st1,?_,rfl,hX,?_⟩
 ·have Ra:=R.app (ys:=[Ly.lst (iL X)])
  rw [hX.len] at e1;simp [aS,aD,fb,e,Ra.ins,e1]
 ·rcases h1 with rfl | ⟨r,hr,_,rfl⟩
  ·exact R.app
  ·cases hr;rw [eY];exact R.app
theorem FO (R:Rep st k a b c g n u rows S) (P:LC w m S) (Q:SX.Pm w m S.h S.s) (B:Bd w m S) (HA:∀ st,pm aj [.int nn] st=some (.int w,st)) (hw:w <= 100) (hm:m <= 1000) {q:Nat} (hq:q < w) :
  ∃ X st1,ce [.int nn,.ref k,.int q] st=some (.fz (iL (aM (if S.h q < w then X.set (S.h q) S.d else X))),st1)/\GX S w q m X:=by
 obtain ⟨X,e,hX⟩:=Ak (cI:=q) (cc:=q) R P Q HA hw hm fun R' i hi=>R'.cell P hi oM
 have hb:∀ x ∈ X,x.natAbs < 2 ^ 9000:=fun x hx=>by
  obtain ⟨j,hj⟩:=z9 hx;have hl:=(zB.mp hj).1;rw [hX.len] at hl;have eg:gI X j=x:=by unfold gI;rw [zD,hj];rfl
  by_cases h:∃ i,i < m/\S.s i=j
  ·obtain ⟨i,hi,rfl⟩:=h
   rw [<- eg,hX.at_ i hi hl];exact B.2 i hi q oM
  ·rw [<- eg,hX.no j hl fun i hi z=>h ⟨i,hi,z⟩];exact Nat.two_pow_pos _
 have Ra:=R.app (ys:=[Ly.lst (iL X)]);have ll:bD (st++[Ly.lst (iL X)]) (.ref st.length)=some (iL X):=ba gl;by_cases h:S.h q < w
 ·have hb2:∀ x ∈ X.set (S.h q) S.d,x.natAbs < 2 ^ 9000:=fun x hx=>by
   rcases List.mem_or_eq_of_mem_set hx with h | h
   ·exact hb x h
   ·rw [h];exact B.1
  obtain ⟨st1,e1,h1⟩:=kD (fn:=ai) (rest:=[]) (st:=st++[.lst (iL (X.set (S.h q) S.d))]) (x:=.ref st.length) (l:=X.set (S.h q) S.d) (.inr ⟨_,rfl,.inl gl⟩) rfl rfl (fun s=>rfl) (pC (by simp [hX.len];omega) hb2) rfl (by simp [di]);refine ⟨X,st1,?_,hX⟩;rw [yI h];have hs:=c8 (x:=.int S.d) (gl (st:=st) (e:=Ly.lst (iL X))) (show S.h q < (iL X).length by simp [hX.len,h]);rw [gC,eY] at hs;have lt':S.h q < X.length:=by rw [hX.len];exact h
  simp [ce,aD,gw,e,Ra.ins,Ra.head P hq,bC,dZ,ll,lt',hs,e1]
 ·obtain ⟨st1,e1,h1⟩:=kD (fn:=ai) (rest:=[]) (st:=st++[.lst (iL X)]) (x:=.ref st.length) (l:=X) (.inr ⟨_,rfl,.inl gl⟩) rfl rfl (fun s=>rfl) (pC (by simp [hX.len];omega) hb) rfl (by simp [di])
  refine ⟨X,st1,?_,hX⟩;rw [yH h];have lt':¬ S.h q < X.length:=by rw [hX.len];exact h
  simp [ce,aD,gw,e,Ra.ins,Ra.head P hq,bC,dZ,ll,lt',e1]
end
end LW
namespace LW
open PySem PySem.Spec L2 R
open SX (Sh LC gI LM)
structure TK (S:Sh) (w m p:Nat) (T:List Int):Prop where
 len:T.length=w + m
 hd:∀ j,j < w->gI T (S.h j)=if S.h j ∈ S.tn then S.t p j else - S.t p j
 sd:gI T (S.s p)=if S.s p ∈ S.tn then - S.d else S.d
 no:∀ q,q < w + m->(∀ j,j < w->S.h j ≠ q)->q ≠ S.s p->gI T q=0
def wt (T:List Int) (HO:Nat->List Int) (w j k:Nat):Int:=gI T (w + k) + LM j fun x=>gI T x * gI (HO (x + 1)) k
section
variable {st:aa}{k a b c g n u w m p:Nat}{rows:List AV}{S:Sh}{nn:Int}{HO:Nat->List Int}
abbrev KW:List Fn:=[aj,cj,dq]
theorem qL {q x:Nat}{y:Int} (h:q < T.length):gI (T.set q y) x=if x=q then y else gI T x:=by
 by_cases e:x=q
 ·subst e;rw [yI rfl,SX.gI_set_at h]
 ·rw [yH e,SX.gI_set_ne e]
theorem AR (R:Rep st k a b c g n u rows S) (P:LC w m S) (Q:SX.Pm w m S.h S.s) (hp:p < m) (nt:S.tn.Nodup) (ht:∀ q ∈ S.tn,q < w + m) (hw:w <= 100) (hm:m <= 800) {ss:LB}{r:AV × aa->Prop}
  (h:∀ T x1 x2,TK S w m p T->∃ z,(ak KW ss [some (.int nn),some (.ref k),some (.int p),some (.ref st.length),x1,x2,none,none,none,none,none] (st++[Ly.lst (iL T)])).bind aE=some z/\r z) :
  ∃ z,(ak KW (.cons (.as (.nw true (.rep (.cons (.i 0) .nil) (.bin .Add (.bi .len (.cons (.fd "Sheet" "heads" (.v 1)) .nil)) (.bi .len (.cons (.fd "Sheet" "sides" (.v 1)) .nil))))) (.nm 3))
   (.cons (.fo (.en (.fd "Sheet" "heads" (.v 1))) (.tu 2 (.cons (.nm 4) (.cons (.nm 5) .nil))) (.cons (.as (.un .USub (.ix (.ix (.fd "Sheet" "lines" (.v 1)) (.v 2)) (.v 4))) (.su (.v 3) (.v 5))) .nil))
   (.cons (.as (.fd "Sheet" "below" (.v 1)) (.su (.v 3) (.ix (.fd "Sheet" "sides" (.v 1)) (.v 2))))
   (.cons (.fd (.fd "Sheet" "turned" (.v 1)) (.nm 5) (.cons (.as (.un .USub (.ix (.v 3) (.v 5))) (.su (.v 3) (.v 5))) .nil)) ss)))) [some (.int nn),some (.ref k),some (.int p),none,none,none,none,none,none,none,none] st).bind aE=some z/\r z:=by
 have lh:bD st (.ref b)=some (nL S.hd):=ba R.hb;have lsd:bD st (.ref c)=some (nL S.sd):=ba R.hc;refine bX (sl':=[some (.int nn),some (.ref k),some (.int p),some (.ref st.length),none,none,none,none,none,none,none]) (st':=st++[Ly.lst (iL (List.replicate (w + m) 0))]) ?_ ?_
 ·rw [cO,wY,zr (j:=w + m) ?_ oM]
  ·rfl
  ·simp [R.ins,bC,dZ,lh,lsd,P.hd,P.sd]
 -- the heads
 obtain ⟨sl',st',e,T,x1,x2,rfl,rfl,hl,h1,h2⟩:=gg (gd:=[(b,.lst (nL S.hd))]) (g:=cB KW (.tu 2 (.cons (.nm 4) (.cons (.nm 5) .nil)))) (s:=ak KW (.cons (.as (.un .USub (.ix (.ix (.fd "Sheet" "lines" (.v 1)) (.v 2)) (.v 4))) (.su (.v 3) (.v 5))) .nil))
  (I:=fun i sl s=>∃ T x1 x2,s=st++[Ly.lst (iL T)]/\sl=[some (.int nn),some (.ref k),some (.int p),some (.ref st.length),x1,x2,none,none,none,none,none]/\T.length=w + m/\(∀ j,j < i->gI T (S.h j)=- S.t p j)/\∀ q,(∀ j,j < i->S.h j ≠ q)->gI T q=0) (xs:=bT 0 (nL S.hd)) (fun i sl s _ hI=>by obtain ⟨X,_,_,rfl,_⟩:=hI;exact gf (R.app (ys:=[_])).hb)
  (fun i y sl s hy hI=>by
   obtain ⟨T,x1,x2,rfl,rfl,hl,h1,h2⟩:=hI;obtain ⟨x,hx',rfl⟩:=nA hy;have hi:i < w:=by have:=(zB.mp hx').1;simpa [P.hd] using this
   have hs0:(nL S.hd)[i]?=some (.int ((S.h i:Nat):Int)):=fZ (by rw [P.hd];exact hi);rw [hs0] at hx';injection hx' with hx';subst hx';have Ra:=R.app (ys:=[Ly.lst (iL T)]);have hb:=Q.hl i hi;have hs:=c8 (x:=.int (- S.t p i)) (gl (st:=st) (e:=Ly.lst (iL T))) (show S.h i < (iL T).length by simp [hl,hb]);rw [gC,eY] at hs;refine ⟨_,[some (.int nn),some (.ref k),some (.int p),some (.ref st.length),some (.int i),some (.int (S.h i:Int)),none,none,none,none,none],st++[Ly.lst (iL (T.set (S.h i) (- S.t p i)))],rfl,?_,T.set (S.h i) (- S.t p i),_,_,rfl,rfl,by simp [hl],fun j hj=>?_,fun q hq=>?_⟩
   ·simp [Ra.ins,Ra.line P hp,Ra.cell P hp (show i < w + 1 by omega),hs]
   ·rw [qL (by rw [hl];exact hb)]
    by_cases e:j=i
    ·subst e;rw [yI rfl]
    ·rw [yH fun z=>e (Q.hi j i oM hi z)];exact h1 j oM
   ·rw [qL (by rw [hl];exact hb),yH fun z=>hq i oM z.symm];exact h2 q fun j hj=>hq j oM) (sl:=[some (.int nn),some (.ref k),some (.int p),some (.ref st.length),none,none,none,none,none,none,none]) (st:=st++[Ly.lst (iL (List.replicate (w + m) 0))]) ⟨_,none,none,rfl,rfl,by simp,fun j hj=>by omega,fun q _=>wu⟩
 rw [lG,ju,P.hd] at h1 h2;refine bX (sl':=[some (.int nn),some (.ref k),some (.int p),some (.ref st.length),x1,x2,none,none,none,none,none]) (st':=st++[Ly.lst (iL T)]) ?_ ?_
 ·have Ra:=R.app (ys:=[Ly.lst (iL (List.replicate (w + m) 0))])
  simp [Ra.ins,jw Ra.hb];exact e
 have Ra:=R.app (ys:=[Ly.lst (iL T)]);have sb:=Q.sl p hp;have hs:=c8 (x:=.int S.d) (gl (st:=st) (e:=Ly.lst (iL T))) (show S.s p < (iL T).length by simp [hl,sb]);rw [gC,eY] at hs;refine bX (sl':=[some (.int nn),some (.ref k),some (.int p),some (.ref st.length),x1,x2,none,none,none,none,none]) (st':=st++[Ly.lst (iL (T.set (S.s p) S.d))]) (by simp [Ra.ins,Ra.side P hp,hs]) ?_;have l2:(T.set (S.s p) S.d).length=w + m:=by simp [hl]
 obtain ⟨T2,hT2⟩:∃ x,x=T.set (S.s p) S.d:=⟨_,rfl⟩;rw [<- hT2] at l2 ⊢
 -- the turned
 have Ru:=(R.app (ys:=[Ly.lst (iL T2)])).hu;have ult:u < st.length:=(zB.mp R.hu).1;obtain ⟨sl',st',e,T3,x2,rfl,rfl,l3,h3⟩:=gg (gd:=[]) (g:=cB KW (.nm 5)) (s:=ak KW (.cons (.as (.un .USub (.ix (.v 3) (.v 5))) (.su (.v 3) (.v 5))) .nil))
  (I:=fun i sl s=>∃ T3 x2,s=(st++[Ly.lst (iL T3)]).set u (.wk (kL S.tn))/\sl=[some (.int nn),some (.ref k),some (.int p),some (.ref st.length),x1,x2,none,none,none,none,none]/\T3.length=w + m/\∀ q,gI T3 q=if q ∈ S.tn.take i then - gI T2 q else gI T2 q) (xs:=nL S.tn) (fun _ _ _ _ _=>rfl)
  (fun i y sl s hy hI=>by
   obtain ⟨T3,x2,rfl,rfl,l3,h3⟩:=hI;have hi:i < S.tn.length:=by have:=(zB.mp hy).1;simpa using this
   rw [fZ hi] at hy;injection hy with hy;subst hy;obtain ⟨q,hq⟩:∃ q,q=S.tn.getD i 0:=⟨_,rfl⟩;rw [<- hq];have qi:S.tn[i]=q:=by rw [hq,zD,zF hi];rfl
   have qm:q ∈ S.tn:=by rw [<- qi];exact List.getElem_mem hi
   have ql:=ht q qm;have tk:S.tn.take (i + 1)=S.tn.take i++[q]:=by rw [List.take_succ,zF hi,qi];rfl
   have qn:q ∉ S.tn.take i:=fun z=>by
    have:=nt.sublist (List.take_sublist (i + 1) S.tn)
    rw [tk,List.nodup_append] at this;exact this.2.2 q z q (by simp) rfl
   have gc:((st++[Ly.lst (iL T3)]).set u (.wk (kL S.tn)))[st.length]?=some (.lst (iL T3)):=by rw [ao (zU ult)];exact gl
   have hs:=c8 (x:=.int (- gI T3 q)) gc (show q < (iL T3).length by simp [l3,ql]);have sc:((st++[Ly.lst (iL T3)]).set u (.wk (kL S.tn))).set st.length (.lst (iL (T3.set q (- gI T3 q))))=(st++[Ly.lst (iL (T3.set q (- gI T3 q)))]).set u (.wk (kL S.tn)):=by
    rw [List.set_comm _ _ (zU ult),eY]
   rw [gC,sc] at hs;have xi:bM ((st++[Ly.lst (iL T3)]).set u (.wk (kL S.tn))) (.ref st.length) (.int (q:Int))=some (.int (gI T3 q)):=by rw [cg (ba gc),db,cw oM]
   refine ⟨_,[some (.int nn),some (.ref k),some (.int p),some (.ref st.length),x1,some (.int q),none,none,none,none,none],(st++[Ly.lst (iL (T3.set q (- gI T3 q)))]).set u (.wk (kL S.tn)),rfl,?_,_,_,rfl,rfl,by simp [l3],fun x=>?_⟩
   ·simp [xi,hs]
   ·rw [qL oM,tk]
    by_cases e:x=q
    ·subst e;rw [yI rfl,yI (by simp),h3 x,yH qn]
    ·rw [yH e,h3 x];simp [e]) (sl:=[some (.int nn),some (.ref k),some (.int p),some (.ref st.length),x1,x2,none,none,none,none,none]) (st:=(st++[Ly.lst (iL T2)]).set u (.wk (kL S.tn))) ⟨T2,x2,rfl,rfl,l2,fun q=>by simp⟩
 rw [ju,List.take_length] at h3;refine bX (sl':=[some (.int nn),some (.ref k),some (.int p),some (.ref st.length),x1,x2,none,none,none,none,none]) (st':=st++[Ly.lst (iL T3)]) ?_ (h T3 x1 x2 ?_)
 ·have Rb:=R.app (ys:=[Ly.lst (iL T2)])
  have ky:(kL S.tn).map (fun q=>m5 q.1)=nL S.tn:=by unfold kL nL;rw [List.map_map];rfl
  have f1:(((st++[Ly.lst (iL T3)]).set u (.wk (kL S.tn))))[u]?=some (.wk (kL S.tn)):=dP (R.app (ys:=[Ly.lst (iL T3)])).hu;have f2:((st++[Ly.lst (iL T3)]).set u (.wk (kL S.tn))).set u (.dK (kL S.tn))=st++[Ly.lst (iL T3)]:=by
   rw [List.set_set]
   have:=(R.app (ys:=[Ly.lst (iL T3)])).hu
   obtain ⟨hlt,hget⟩:=zB.mp this;rw [<- hget,List.set_getElem_self]
  simp [tR,Rb.ins,Rb.hu];rw [show (kL S.tn).map ((fun q=>m5 q.1))=nL S.tn from ky] at *;rw [e];simp [zk,f1,f2]
 ·have e2:∀ q,gI T2 q=if q=S.s p then S.d else gI T q:=fun q=>by rw [hT2,qL (by rw [hl];exact sb)]
  refine ⟨l3,fun j hj=>?_,?_,fun q hq hn hns=>?_⟩
  ·rw [h3,e2,yH (Q.hs j p hj hp),h1 j hj];split <;> omega
  ·rw [h3,e2,yI rfl]
  ·rw [h3,e2,yH hns,h2 q hn];split <;> rfl
end
structure HOk (nn:Int) (w nr:Nat) (HO:Nat->List Int):Prop where
 ex:∀ grp:Nat,1 <= grp->grp <= w->∃ rr,(∀ st,pm cj [.int nn,.int grp,.int 0] st=some (rr,st))/\∀ st,pm dq [.int nn,rr] st=some (.fz (iL (HO grp)),st)
 len:∀ grp:Nat,1 <= grp->grp <= w->(HO grp).length=nr
 bd:∀ (grp:Nat),1 <= grp->grp <= w->∀ x ∈ HO grp,x.natAbs <= 15
section
variable {st:aa}{k a b c g n u w m p nr:Nat}{rows:List AV}{S:Sh}{nn:Int}{HO:Nat->List Int}
theorem HC {r q:Nat}{x:Int} (h1:ev ks ea sl s=some (.ref r,s)) (h2:ev ks eb sl s=some (.int (q:Int),s)) (h3:ev ks ec sl s=some (.int x,s)) (hr:s[r]?=some (.lst (iL l))) (hq:q < l.length):cL ks (.aus .Add ea eb ec) sl s=some (.nx sl (s.set r (.lst (iL (l.set q (gI l q + x)))))):=by
 rw [F2];unfold tS;rw [h1,bind_some];dsimp only;rw [h2,bind_some];dsimp only;rw [ba hr,bind_some,db,cw hq,bind_some,h3,bind_some];dsimp only;have:uP .Add s (.int (gI l q)) (.int x)=some (.int (gI l q + x)):=rfl;rw [this,bind_some,c8 hr (by simp [hq]),gC,bind_some]
theorem ze (R:Rep st k a b c g n u rows S) (P:LC w (m + 1) S) (Q:SX.Pm w (m + 1) S.h S.s) (hp:p < m + 1) (nt:S.tn.Nodup) (ht:∀ q ∈ S.tn,q < w + (m + 1)) (hw:w <= 100) (hm:m + 1 <= 800) (HA:∀ st,pm aj [.int nn] st=some (.int w,st)) (H:HOk nn w nr HO) (hnr:nr <= m) :
  ∃ z,aJ [.int nn,.ref k,.int p] st=some z/\∃ T W,TK S w (m + 1) p T/\W.length=m/\(∀ x,x < m->gI W x=wt T HO w w x)/\z.1=.ref (st.length + 1)/\z.2=st++[Ly.lst (iL T)]++[Ly.lst (iL W)]:=by
 rw [aJ];simp only [aD];unfold eJ;refine AR R P Q hp nt ht hw hm fun T x1 x2 hT=>?_
 have sT:(st++[Ly.lst (iL T)])[st.length]?=some (.lst (iL T)):=gl;refine bX (sl':=[some (.int nn),some (.ref k),some (.int p),some (.ref st.length),x1,x2,some (.ref (st.length + 1)),none,none,none,none]) (st':=st++[Ly.lst (iL T)]++[Ly.lst (iL ((T.drop w).take m))]) ?_ ?_
 ·simp [sI,sG,HA,ba sT,Cj hT.len]
 have ll:(st++[Ly.lst (iL T)]).length=st.length + 1:=by simp
 have sT2:∀ W:List Int,(st++[Ly.lst (iL T)]++[Ly.lst (iL W)])[st.length]?=some (.lst (iL T)):=fun W=>ga sT
 have sW:∀ W:List Int,(st++[Ly.lst (iL T)]++[Ly.lst (iL W)])[st.length + 1]?=some (.lst (iL W)):=fun W=>by rw [<- ll];exact gl
 have sSet:∀ W W':List Int,(st++[Ly.lst (iL T)]++[Ly.lst (iL W)]).set (st.length + 1) (.lst (iL W'))=st++[Ly.lst (iL T)]++[Ly.lst (iL W')]:=fun W W'=>by rw [<- ll];exact eY
 have hW0:∀ x,x < m->gI ((T.drop w).take m) x=wt T HO w 0 x:=fun x hx=>by
  unfold wt gI;rw [zD,List.getElem?_take_of_lt hx,List.getElem?_drop,zD];simp [LM]
 obtain ⟨sl',st',e,W,y1,y2,y3,y4,rfl,rfl,hl,hW⟩:=gg (gd:=[]) (g:=cB KW (.nm 7)) (s:=ak KW (.cons (.as (.ix (.v 3) (.bin .Sub (.v 7) (.i 1))) (.nm 8)) (.cons (.iff (.cmp .NotEq (.v 8) (.i 0))
   (.cons (.fo (.en (.ca true 2 (.cons (.v 0) (.cons (.ca true 1 (.cons (.v 0) (.cons (.v 7) (.cons (.i 0) .nil)))) .nil)))) (.tu 2 (.cons (.nm 9) (.cons (.nm 10) .nil))) (.cons (.aus .Add (.v 6) (.v 9) (.bin .Mult (.v 8) (.v 10))) .nil)) .nil) .nil) .nil)))
  (I:=fun i sl s=>∃ W y1 y2 y3 y4,s=st++[Ly.lst (iL T)]++[Ly.lst (iL W)]/\sl=[some (.int nn),some (.ref k),some (.int p),some (.ref st.length),x1,x2,some (.ref (st.length + 1)),y1,y2,y3,y4]/\W.length=m/\∀ x,x < m->gI W x=wt T HO w i x) (xs:=df 1 w) (fun _ _ _ _ _=>rfl)
  (fun i y sl s hy hI=>by
   obtain ⟨W,y1,y2,y3,y4,rfl,rfl,hl,hW⟩:=hI;have hi:i < w:=by have:=(zB.mp hy).1;unfold df at this;simpa using this
   have ey:y=.int (((i + 1:Nat)):Int):=by
    unfold df at hy;rw [zR,List.getElem?_range hi] at hy;injection hy with hy;rw [<- hy];show AV.int (1 + (i:Int))=_;congr 1;omega
   subst ey;have xi:bM (st++[Ly.lst (iL T)]++[Ly.lst (iL W)]) (.ref st.length) (.int (i:Int))=some (.int (gI T i)):=by rw [cg (ba (sT2 W)),db,cw (by rw [hT.len];omega)]
   have st1:cL KW (.as (.ix (.v 3) (.bin .Sub (.v 7) (.i 1))) (.nm 8)) [some (.int nn),some (.ref k),some (.int p),some (.ref st.length),x1,x2,some (.ref (st.length + 1)),some (.int ((i + 1:Nat):Int)),y2,y3,y4] (st++[Ly.lst (iL T)]++[Ly.lst (iL W)])=some (.nx [some (.int nn),some (.ref k),some (.int p),some (.ref st.length),x1,x2,some (.ref (st.length + 1)),some (.int ((i + 1:Nat):Int)),some (.int (gI T i)),y3,y4] (st++[Ly.lst (iL T)]++[Ly.lst (iL W)])):=by
    have e0:((i + 1:Nat):Int) - 1=(i:Int):=by omega
    have hb:gh .Sub (st++[Ly.lst (iL T)]++[Ly.lst (iL W)]) (.int ((i + 1:Nat):Int)) (.int 1)=some (.int (i:Int)):=by rw [Ht,e0]
    simp only [cO,cM,gq,cu,cT,bH,bU,bind_some,hb,map_some,xi];rfl
   by_cases h0:gI T i=0
   ·refine ⟨_,_,_,rfl,bG st1 ?_,W,some (.int ((i + 1:Nat):Int)),some (.int (gI T i)),y3,y4,rfl,rfl,hl,fun x hx=>?_⟩
    ·simp [h0]
    ·rw [hW x hx];unfold wt;simp only [LM,h0];omega
   ·obtain ⟨rr,r1,r2⟩:=H.ex (i + 1) oM oM
    have hlen:=H.len (i + 1) oM oM;obtain ⟨sl',st',e,W',z3,z4,rfl,rfl,hl',hW'⟩:=gg (gd:=[]) (g:=cB KW (.tu 2 (.cons (.nm 9) (.cons (.nm 10) .nil)))) (s:=ak KW (.cons (.aus .Add (.v 6) (.v 9) (.bin .Mult (.v 8) (.v 10))) .nil))
     (I:=fun j sl s=>∃ W' z3 z4,s=st++[Ly.lst (iL T)]++[Ly.lst (iL W')]/\sl=[some (.int nn),some (.ref k),some (.int p),some (.ref st.length),x1,x2,some (.ref (st.length + 1)),some (.int ((i + 1:Nat):Int)),some (.int (gI T i)),z3,z4]/\W'.length=m/\∀ x,x < m->gI W' x=gI W x + if x < j then gI T i * gI (HO (i + 1)) x else 0) (xs:=bT 0 (iL (HO (i + 1)))) (fun _ _ _ _ _=>rfl)
     (fun j y sl s hy hI=>by
      obtain ⟨W',z3,z4,rfl,rfl,hl',hW'⟩:=hI;obtain ⟨x,hx',rfl⟩:=nA hy;have hj:j < nr:=by have:=(zB.mp hx').1;simpa [hlen] using this
      rw [cw oM] at hx';injection hx' with hx';subst hx';have hc:(gI (HO (i + 1)) j).natAbs <= 15:=by
       refine H.bd (i + 1) oM oM _ ?_;unfold gI;exact SX.getD_mem oM
      have mb:cH (gI T i) (gI (HO (i + 1)) j)=true:=by
       unfold cH;have:Nat.ble (gI (HO (i + 1)) j).natAbs.log2 62=true:=yL (by
        by_cases hz:(gI (HO (i + 1)) j).natAbs=0
        ·rw [hz];decide
        ·exact yW ((Nat.log2_lt hz).mpr (yM hc dC)))
       rw [this];simp
      refine ⟨_,_,_,rfl,bG (HC (r:=st.length + 1) (q:=j) (l:=W') (x:=gI T i * gI (HO (i + 1)) j) rfl rfl (by simp [cq mb]) (sW W') oM) rfl,W'.set j (gI W' j + gI T i * gI (HO (i + 1)) j),_,_,sSet _ _,rfl,by simp [hl'],fun x hx=>?_⟩;rw [qL oM];by_cases e:x=j
      ·subst e;rw [yI rfl,hW' x hx,yH oM,yI oM];omega
      ·rw [yH e,hW' x hx]
       by_cases e2:x < j
       ·rw [yI e2,yI oM]
       ·rw [yH e2,yH oM]) (sl:=[some (.int nn),some (.ref k),some (.int p),some (.ref st.length),x1,x2,some (.ref (st.length + 1)),some (.int ((i + 1:Nat):Int)),some (.int (gI T i)),y3,y4]) (st:=st++[Ly.lst (iL T)]++[Ly.lst (iL W)]) ⟨W,y3,y4,rfl,rfl,hl,fun x hx=>by simp⟩
    rw [lG,jx,hlen] at hW';refine ⟨_,_,_,rfl,bG st1 (bG (sl':=[some (.int nn),some (.ref k),some (.int p),some (.ref st.length),x1,x2,some (.ref (st.length + 1)),some (.int ((i + 1:Nat):Int)),some (.int (gI T i)),z3,z4]) (st':=st++[Ly.lst (iL T)]++[Ly.lst (iL W')]) ?_ rfl),W',some (.int ((i + 1:Nat):Int)),some (.int (gI T i)),z3,z4,rfl,rfl,hl',fun x hx=>?_⟩
    ·have r1':=r1 (st++[Ly.lst (iL T)]++[Ly.lst (iL W)])
     have r2':=r2 (st++[Ly.lst (iL T)]++[Ly.lst (iL W)]);simp only [cZ,cF,cu,cT,bH,bU,bind_some,Fm,map_some,yA h0,Bool.not_false,ite_true];refine bG (sl':=[some (.int nn),some (.ref k),some (.int p),some (.ref st.length),x1,x2,some (.ref (st.length + 1)),some (.int ((i + 1:Nat):Int)),some (.int (gI T i)),z3,z4]) (st':=st++[Ly.lst (iL T)]++[Ly.lst (iL W')]) ?_ rfl;rw [n8,JE];simp only [cN,aN,a0,cu,cT,bH,bU,bind_some,cP,cW,dO];rw [r1'];simp only [bind_some];rw [r2'];simp only [bind_some,EM,map_some];exact e
    ·rw [hW' x hx,hW x hx]
     unfold wt;simp only [LM];by_cases e:x < nr
     ·rw [yI e];omega
     ·rw [yH e]
      have:gI (HO (i + 1)) x=0:=by unfold gI;rw [zD,List.getElem?_eq_none oM];rfl
      rw [this,Int.mul_zero];omega) (sl:=[some (.int nn),some (.ref k),some (.int p),some (.ref st.length),x1,x2,some (.ref (st.length + 1)),none,none,none,none]) (st:=st++[Ly.lst (iL T)]++[Ly.lst (iL ((T.drop w).take m))]) ⟨_,none,none,none,none,rfl,rfl,by simp [hT.len],hW0⟩
 have rl:(df 1 w).length=w:=by unfold df;simp
 rw [rl] at hW;refine ⟨(.ref (st.length + 1),st++[Ly.lst (iL T)]++[Ly.lst (iL W)]),?_,T,W,hT,hl,hW,rfl,rfl⟩;refine ag (sl':=[some (.int nn),some (.ref k),some (.int p),some (.ref st.length),x1,x2,some (.ref (st.length + 1)),y1,y2,y3,y4]) (st':=st++[Ly.lst (iL T)]++[Ly.lst (iL W)]) ?_ (by simp);have rb1:eZ 1=true:=by decide
 have rb2:eZ ((w:Int) + 1)=true:=by
  unfold eZ;refine yL ?_;rw [show ((w:Int) + 1).natAbs=w + 1 by omega];exact yW ((Nat.log2_lt oM).mpr oM)
 rw [n8];have ei:fR KW (.r2 (.i 1) (.bin .Add (.ca true 0 (.cons (.v 0) .nil)) (.i 1))) [some (.int nn),some (.ref k),some (.int p),some (.ref st.length),x1,x2,some (.ref (st.length + 1)),none,none,none,none] (st++[Ly.lst (iL T)]++[Ly.lst (iL ((T.drop w).take m))])=some (⟨df 1 w,[]⟩,st++[Ly.lst (iL T)]++[Ly.lst (iL ((T.drop w).take m))]):=by
  have e2:((w:Int) + 1 - 1).toNat=w:=by omega
  simp [-List.append_assoc,Ai,HA,rb1,rb2]
 rw [ei,bind_some];exact e
end
section
variable {st:aa}{k a b c g n u w m p nr:Nat}{rows:List AV}{S:Sh}{nn:Int}{HO:Nat->List Int}{v:Nat->Nat->Int}
theorem TK.bd (hT:TK S w m p T) (hp:p < m) (Q:SX.Pm w m S.h S.s) (B:S.d.natAbs < 2 ^ 8900/\∀ i,i < m->∀ j,j < w + 1->(S.t i j).natAbs < 2 ^ 8900) (q:Nat):(gI T q).natAbs < 2 ^ 8900:=by
 by_cases hq:q < w + m
 ·by_cases h1:∃ j,j < w/\S.h j=q
  ·obtain ⟨j,hj,rfl⟩:=h1
   rw [hT.hd j hj]
   have:=B.2 p hp j oM
   split
   ·exact this
   ·rw [Int.natAbs_neg];exact this
  ·by_cases h2:q=S.s p
   ·rw [h2,hT.sd]
    split
    ·rw [Int.natAbs_neg];exact B.1
    ·exact B.1
   ·rw [hT.no q hq (fun j hj z=>h1 ⟨j,hj,z⟩) h2];exact Nat.two_pow_pos _
 ·have:gI T q=0:=by unfold gI;rw [zD,List.getElem?_eq_none (by rw [hT.len];omega)];rfl
  rw [this];exact Nat.two_pow_pos _
theorem FN (hb:∀ q,(gI T q).natAbs < 2 ^ 8900) (H:HOk nn w nr HO) (hw:w <= 15) (x:Nat):(wt T HO w w x).natAbs < 2 ^ 9000:=by
 unfold wt;have h1:=SX.abs_sum (n:=w) (f:=fun y=>gI T y * gI (HO (y + 1)) x) (M:=2 ^ 8900 * 15) fun i hi=>by
  rw [Int.natAbs_mul];refine Nat.mul_le_mul (yW (hb i)) ?_;unfold gI;rw [zD];cases e:(HO (i + 1))[x]? with
  | none=>simp
  | some z=>exact H.bd (i + 1) oM oM z (zW e)
 have h2:=hb (w + x);have h3:=Int.natAbs_add_le (gI T (w + x)) (LM w fun y=>gI T y * gI (HO (y + 1)) x);have h4:w * (2 ^ 8900 * 15) <= 15 * (2 ^ 8900 * 15):=Nat.mul_le_mul_right _ hw;have h5:(2:Nat) ^ 9000=2 ^ 8900 * 2 ^ 100:=by rw [<- Nat.pow_add]
 have h6:(2:Nat) ^ 100=1267650600228229401496703205376:=by decide
 rw [h5,h6];generalize (2:Nat) ^ 8900=B at *;omega
end
end LW
namespace LW
open PySem PySem.Spec L2 R
open SX (Sh LC gI LM LD)
section
variable {w nr i:Nat}{RR:List (List Int)}{gv:List Gv}{goal:List Int}{S:Sh}{Y:Nat->Int}{e:Int}
theorem HF:(aO RR gv goal).length=RR.length + gv.length + 1:=by simp [aO];omega
end
section
variable {w:Nat}{RR:List (List Int)}{gv:List Gv}{goal:List Int}{nn:Int}{HO:Nat->List Int}
theorem Cf {n0:Nat}{i:Nat} (h:(bT n0 xs)[i]?=some y):∃ x,xs[i]?=some x/\y=.tup [.int ((n0 + i:Nat):Int),x]:=by
 unfold bT at h;rw [zR] at h;obtain ⟨z,h1,rfl⟩:=zE.mp h;rw [List.getElem?_zipIdx] at h1;obtain ⟨x,h2,rfl⟩:=zE.mp h1;exact ⟨x,h2,rfl⟩
theorem Hd:cE .Eq s (.str "=") (.str "=")=some true:=by kernel_rfl
theorem G0:cE .Eq s (.str ">") (.str "=")=some false:=by kernel_rfl
end
end LW
namespace LW
open PySem PySem.Spec L2 R
open SX (Sh LC LI)
noncomputable def i5 (key:Nat->Nat):Nat->Nat->List Nat->Nat
 | x,_,[]=>x
 | x,k,y::l=>if key y < k then i5 key y (key y) l else i5 key x k l
def uK (key:Nat->Nat):List Nat->Option Nat
 | []=>none
 | x::l=>some (i5 key x (key x) l)
def hG (S:Sh) (p:Nat):Option Nat:=uK S.h ((bL S).filter fun j=>decide (0 < S.t p j))
def jo (w:Nat) (S:Sh) (q:Nat) (o:Option Nat) (i:Nat):Option Nat:=(if S.t i q < 0/\S.s i ∈ S.gd then (match o with | none=>some i | some r=>if S.t i w * - S.t r q < S.t r w * - S.t i q\/(S.t i w * - S.t r q=S.t r w * - S.t i q/\S.s i < S.s r) then some i else some r) else o)
def gx (w m:Nat) (S:Sh) (q:Nat):Option Nat:=(List.range m).foldl (jo w S q) none
theorem pU {w i:Nat}{S:Sh}{q:Nat}:gx w (i + 1) S q=jo w S q (gx w i S q) i:=by
 unfold gx;rw [List.range_succ,List.foldl_append];rfl
noncomputable def rC (S:Sh):Bool:=decide (S.d.natAbs < 1000000000) && !(S.d == 0) && S.ls.all fun l=>l.all fun x=>decide (x.natAbs < 1000000000)
def iO (w m p:Nat):Nat->Sh->Option (Bool × Sh)
 | 0,_=>none
 | n + 1,S=>if rC S=true then (if S.t p w < 0 then (match hG S p with
  | none=>some (false,S)
  | some q=>(match gx w m S q with
   | none=>some (true,LI S p q)
   | some r=>if S.t p w * S.t r q <= S.t r w * S.t p q then some (true,LI S p q) else iO w m p n (LI S r q))) else some (true,S)) else none
def jE (w m p:Nat):Nat->Sh->Option (Option Nat × Sh)
 | 0,_=>none
 | n + 1,S=>if rC S=true then (match hG S p with
  | none=>some (none,S)
  | some q=>(match gx w m S q with
   | none=>some (some q,S)
   | some r=>jE w m p n (LI S r q))) else none
theorem wH {key:Nat->Nat}{l:List Nat}:oE ((l.map fun q=>((q:Nat):Int)).zip (l.map fun q=>((key q:Nat):Int)))=oN (uK key l):=by
 cases l with
 | nil=>rfl
 | cons x l =>
  have go:∀ (l:List Nat) (x k:Nat),jj (x:Int) (k:Int) ((l.map fun q=>((q:Nat):Int)).zip (l.map fun q=>((key q:Nat):Int)))=((i5 key x k l:Nat):Int):=by
   intro l
   induction l with
   | nil=>intro x k;rfl
   | cons y l ih =>
    intro x k;simp only [zO,List.zip_cons_cons,jj,i5];by_cases h:key y < k
    ·rw [yI oM,yI h];exact ih y (key y)
    ·rw [yH oM,yH h];exact ih x k
  exact congrArg AV.int (go l x (key x))
section
variable {st:aa}{k a b c g n u w m:Nat}{rows:List AV}{S:Sh}{p:Nat}
theorem uM (P:LC w m S) (h:rC S=true):Bd w m S/\S.d ≠ 0:=by
 unfold rC at h;rw [zC,zC,yC,yP] at h;obtain ⟨⟨h1,h2⟩,h3⟩:=h;have big:1000000000 < 2 ^ 9000:=zJ (show 1000000000 < 2 ^ 30 by decide) (Nat.pow_le_pow_right dC dC);refine ⟨⟨Nat.lt_trans h1 big,fun i hi j hj=>?_⟩,by simpa using h2⟩;have hl:S.ls[i]?=some (SX.row S i):=by
  have:i < S.ls.length:=by rw [P.ls];exact hi
  unfold SX.row;rw [zD,zF this];rfl
 have:=h3 _ (zW hl)
 rw [yP] at this;have hlen:j < (SX.row S i).length:=by rw [P.rl hi];exact hj
 have hm:S.t i j ∈ SX.row S i:=by
  show (SX.row S i).getD j 0 ∈ _;rw [zD,zF hlen];exact List.getElem_mem hlen
 exact Nat.lt_trans (of_decide_eq_true (this _ hm)) big
theorem za {key:Nat->Nat}{l:List Nat}{x:Nat} (h:uK key l=some x):x ∈ l:=by
 have go:∀ (l:List Nat) (x k:Nat),i5 key x k l ∈ x::l:=by
  intro l
  induction l with
  | nil=>intro x k;simp [i5]
  | cons y l ih =>
   intro x k;simp only [i5];split
   ·exact zQ _ (ih y (key y))
   ·rcases zT.mp (ih x k) with e | e
    ·rw [e];exact z8 ..
    ·exact zQ _ (zQ _ e)
 cases l with
 | nil=>cases h
 | cons y l=>cases h;exact go l y (key y)
theorem sr (P:LC w m S) {q:Nat} (h:hG S p=some q):q < w:=by
 have:=List.mem_filter.mp (za h)
 exact ((gA P).mp this.1).1
theorem pT {q r:Nat}:∀ {m:Nat},gx w m S q=some r->r < m:=by
 intro m
 induction m with
 | zero=>intro h;cases h
 | succ m ih =>
  rw [pU];unfold jo;intro h;split at h
  ·split at h
   ·cases h;omega
   ·rename_i e
    split at h
    ·cases h;omega
    ·cases h;have:=ih e;omega
  ·have:=ih h;omega
theorem qb (R:Rep st k a b c g n u rows S) (P:LC w m S) (hw:w <= 100) {p:Nat} (hp:p < m):ax [.ref k,.int p] st=some (oN (hG S p),st):=by
 have ll:(bL S).length <= 1000:=by
  unfold bL;rw [zH]
  have:=List.length_filter_le (fun z:Nat × Nat=>!decide (z.1 ∈ S.nl)) S.hd.zipIdx
  rw [List.length_zipIdx,P.hd] at this;omega
 have inl:∀ j,j ∈ (bL S).filter (fun j=>decide (0 < S.t p j)) ↔ (j < w/\S.h j ∉ S.nl)/\0 < S.t p j:=fun j=>by rw [List.mem_filter,gA P];simp
 have ho:=wH (key:=S.h) (l:=(bL S).filter fun j=>decide (0 < S.t p j));simp [ax,aD,dk,R.ins,R.line P hp,sM R P hw,nL,cp ll];rw [f9 (B:=fun j=>decide (0 < S.t p j)) (F:=fun j:Nat=>.int (j:Int)) dW fun j hj=>⟨_,rfl,by simp [R.cell P hp (show j < w + 1 by have:=(gA P).mp hj;omega)],fun _=>rfl⟩];have hf:rfs (((bL S).filter fun j=>decide (0 < S.t p j)).map fun j:Nat=>(AV.int (j:Int)))=true:=ik;have hi:=sP (l:=(bL S).filter fun j=>decide (0 < S.t p j));unfold nL at hi;simp [hf,pH,lsI,hi];rw [Ez (f:=S.h) fun q hq=>by simp [R.ins,R.head P ((inl q).mp hq).1.1]];simp [ho,hG]
theorem sf (R:Rep st k a b c g n u rows S) (P:LC w m S) (B:Bd w m S) {q:Nat} (hq:q < w):aw [.ref k,.int q] st=some (oN (gx w m S q),st):=by
 have rl:rows.length=m:=by rw [R.len,P.ls]
 obtain ⟨sl',st',e,rfl,o,x,y,rfl,T,To⟩:=gg (gd:=[(a,.lst rows)]) (g:=cB [bF] (.tu 2 (.cons (.nm 3) (.cons (.nm 4) .nil)))) (s:=ak [bF] (.cons (.iff (.an (.cmp .Lt (.ix (.v 4) (.v 1)) (.i 0)) (.cmp .In (.ix (.fd "Sheet" "sides" (.v 0)) (.v 3)) (.fd "Sheet" "guarded" (.v 0))))
   (.cons (.iff (.or (.cmp .Is (.v 2) .n) (.va (.me "Sheet" "is_tighter" 0 (.v 0) (.cons (.v 3) (.cons (.v 2) (.cons (.v 1) .nil)))))) (.cons (.as (.v 3) (.nm 2)) .nil) .nil) .nil) .nil) .nil))
  (I:=fun i sl s=>s=st/\∃ o x y,sl=[some (.ref k),some (.int q),some (oN o),x,y]/\SX.LD S w q i o/\o=gx w i S q) (xs:=bT 0 rows) (fun i sl s _ hI=>by rw [hI.1];exact gf R.ha)
  (fun i y sl s hy hI=>by
   obtain ⟨rfl,o,x1,x2,rfl,T,To⟩:=hI;obtain ⟨x,hx,rfl⟩:=nA hy;have hi:i < m:=by rw [<- rl];exact (zB.mp hx).1
   have ex:x=kA rows i:=by have:=R.rx P hi;rw [hx] at this;injection this
   subst ex;refine ⟨_,[some (.ref k),some (.int q),some (oN (jo w S q o i)),some (.int i),some (kA rows i)],s,rfl,?_,rfl,_,_,_,rfl,?_,by rw [pU,<- To]⟩
   ·unfold jo
    by_cases h1:S.t i q < 0
    ·by_cases h2:S.s i ∈ S.gd
     ·cases o with
      | none=>simp [R.cell P hi (show q < w + 1 by omega),h1,R.side P hi,R.ins,R.ing,h2,oN]
      | some r =>
       have hr:=(T.2 r rfl).1
       have:=GS R P B hi (show r < m by omega) hq
       simp [R.cell P hi (show q < w + 1 by omega),h1,R.side P hi,R.ins,R.ing,h2,oN,this,fA,bD,dr];split <;> rfl
     ·simp [R.cell P hi (show q < w + 1 by omega),h1,R.side P hi,R.ins,R.ing,h2]
    ·simp [R.cell P hi (show q < w + 1 by omega),h1]
   ·unfold jo
    by_cases h1:S.t i q < 0/\S.s i ∈ S.gd
    ·rw [yI h1]
     cases o with
     | none=>exact SX.tt_first h1.1 h1.2 T
     | some r =>
      dsimp only;split
      ·rename_i h2;exact SX.tt_new h1.1 h1.2 h2 T
      ·rename_i h2;exact SX.tt_old h1.1 h2 T
    ·rw [yH h1];exact SX.tt_skip h1 T) (sl:=[some (.ref k),some (.int q),some .non,none,none]) (st:=st) ⟨rfl,none,none,none,rfl,SX.tt_zero,rfl⟩
 rw [lG,rl] at To;rw [<- To];simp [aw,aD,dj,R.ins,jw R.ha];rw [e];simp
end
section
variable {k b c g n u w m:Nat}{p:Nat}
theorem yd (hw:w <= 100) (hm:m <= 1000) (hp:p < m):∀ (N:Nat) (S:Sh) {bb:Bool}{S':Sh}{st:aa}{a:Nat}{rows:List AV} (x y:Option AV),iO w m p N S=some (bb,S')->LC w m S->Rep st k a b c g n u rows S ->
  ∃ o st' a' rows',dJ (tv [ax,aw,aY,au] (.cmp .Lt (.ix (.ix (.fd "Sheet" "lines" (.v 0)) (.v 1)) (.un .USub (.i 1))) (.i 0)))
   (ak [ax,aw,aY,au] (.cons (.as (.me "Sheet" "raising_column" 0 (.v 0) (.cons (.v 1) .nil)) (.nm 2))
    (.cons (.iff (.cmp .Is (.v 2) .n) (.cons (.rt (.b false)) .nil) .nil)
    (.cons (.as (.me "Sheet" "tightest_place" 1 (.v 0) (.cons (.v 2) .nil)) (.nm 3))
    (.cons (.iff (.or (.cmp .Is (.v 3) .n) (.va (.me "Sheet" "is_up_first" 2 (.v 0) (.cons (.v 1) (.cons (.v 3) (.cons (.v 2) .nil)))))) (.cons (.ex (.me "Sheet" "exchange" 3 (.v 0) (.cons (.v 1) (.cons (.v 2) .nil)))) (.cons (.rt (.b true)) .nil)) .nil)
    (.cons (.ex (.me "Sheet" "exchange" 3 (.v 0) (.cons (.v 3) (.cons (.v 2) .nil)))) .nil)))))) N [some (.ref k),some (.int p),x,y] st=some o/\Rep st' k a' b c g n u rows' S'/\LC w m S'/\(o=.rt (.bl bb) st'\/(bb=true/\∃ sl,o=.nx sl st')):=by
 intro N
 induction N with
 | zero=>intro S bb S' st a rows x y h;cases h
 | succ N ih =>
  intro S bb S' st a rows x y h P R;simp only [iO] at h;split at h
  ·rename_i hb
   obtain ⟨B,d0⟩:=uM P hb;have ht:tv [ax,aw,aY,au] (.cmp .Lt (.ix (.ix (.fd "Sheet" "lines" (.v 0)) (.v 1)) (.un .USub (.i 1))) (.i 0)) [some (.ref k),some (.int p),x,y] st=some (decide (S.t p w < 0),st):=by
    simp [R.ins,R.line P hp,R.last P hp]
   split at h
   ·rename_i low
    rw [yT low] at ht;have e1:=qb R P hw hp;split at h
    ·rename_i hr
     cases h;rw [hr] at e1;refine ⟨_,st,a,rows,dH (show 1 <= N + 1 by omega) (mJ (v:=.bl false) (st2:=st) ht ?_),R,P,.inl rfl⟩;simp [R.ins,e1,oN]
    ·rename_i q hr
     rw [hr] at e1;have q1:=sr P hr;have e2:=sf R P B q1;split at h
     ·rename_i hti
      cases h;rw [hti] at e2;obtain ⟨st',a2,rows2,e3,R2⟩:=kP R P B d0 hw hm hp q1;refine ⟨_,st',a2,rows2,dH (show 1 <= N + 1 by omega) (mJ (v:=.bl true) (st2:=st') ht ?_),R2,SX.exch_shp P hp,.inl rfl⟩;simp [R.ins,e1,e2,e3,oN]
     ·rename_i r hti
      rw [hti] at e2;have r1:=pT hti;have e4:=FP R P B hp r1 q1;split at h
      ·rename_i hu
       cases h;rw [yT hu] at e4;obtain ⟨st',a2,rows2,e3,R2⟩:=kP R P B d0 hw hm hp q1;refine ⟨_,st',a2,rows2,dH (show 1 <= N + 1 by omega) (mJ (v:=.bl true) (st2:=st') ht ?_),R2,SX.exch_shp P hp,.inl rfl⟩;simp [R.ins,e1,e2,e3,e4,oN,fA,bD,dr]
      ·rename_i hu
       rw [yA hu] at e4;obtain ⟨st',a2,rows2,e3,R2⟩:=kP R P B d0 hw hm r1 q1;obtain ⟨o,st2,a3,rows3,e5,R3,P3,h3⟩:=ih (LI S r q) (some (.int q)) (some (.int r)) h (SX.exch_shp P r1) R2;refine ⟨o,st2,a3,rows3,fV (st':=st) (sl2:=[some (.ref k),some (.int p),some (.int q),some (.int r)]) (st2:=st') ht ?_ e5,R3,P3,h3⟩;simp [R.ins,e1,e2,e3,e4,oN,fA,bD,dr]
   ·rename_i low
    cases h;rw [yA low] at ht;exact ⟨_,st,a,rows,dH (show 1 <= N + 1 by omega) (lv ht),R,P,.inr ⟨rfl,_,rfl⟩⟩
  ·cases h
theorem vZ (hw:w <= 100) (hm:m <= 1000) (hp:p < m) {N:Nat}{S S':Sh}{bb:Bool}{st:aa}{a:Nat}{rows:List AV} (h:iO w m p N S=some (bb,S')) (P:LC w m S) (R:Rep st k a b c g n u rows S) :
  ∃ st' a' rows',bE [.ref k,.int p] st=some (.bl bb,st')/\Rep st' k a' b c g n u rows' S'/\LC w m S':=by
 obtain ⟨o,st',a',rows',e,R',P',h'⟩:=yd hw hm hp N S none none h P R;have e:=kz e;refine ⟨st',a',rows',?_,R',P'⟩;rcases h' with rfl | ⟨rfl,sl,rfl⟩
 ·simp [bE,aD,fK,e]
 ·simp [bE,aD,fK,e]
theorem ww (hw:w <= 100) (hm:m <= 1000) (hp:p < m):∀ (N:Nat) (S:Sh) {oq:Option Nat}{S':Sh}{st:aa}{a:Nat}{rows:List AV} (x:Option AV),jE w m p N S=some (oq,S')->LC w m S->Rep st k a b c g n u rows S ->
  ∃ o st' a' rows',dJ (tv [ax,aw,au] (.cmp .IsNot (.v 2) .n)) (ak [ax,aw,au] (.cons (.as (.me "Sheet" "tightest_place" 1 (.v 0) (.cons (.v 2) .nil)) (.nm 3)) (.cons (.iff (.cmp .Is (.v 3) .n) (.cons (.rt (.v 2)) .nil) .nil) (.cons (.ex (.me "Sheet" "exchange" 2 (.v 0) (.cons (.v 3) (.cons (.v 2) .nil)))) (.cons (.as (.me "Sheet" "raising_column" 0 (.v 0) (.cons (.v 1) .nil)) (.nm 2)) .nil))))) N [some (.ref k),some (.int p),some (oN (hG S p)),x] st=some o/\Rep st' k a' b c g n u rows' S'/\LC w m S'/\((oq=none/\∃ sl,o=.nx sl st')\/∃ q,oq=some q/\q < w/\o=.rt (.int ((q:Nat):Int)) st'):=by
 intro N
 induction N with
 | zero=>intro S oq S' st a rows x h;cases h
 | succ N ih =>
  intro S oq S' st a rows x h P R;simp only [jE] at h;split at h
  ·rename_i hb
   obtain ⟨B,d0⟩:=uM P hb;split at h
   ·rename_i hr
    cases h;rw [hr];exact ⟨_,st,a,rows,dH (show 1 <= N + 1 by omega) (lv (by simp [oN])),R,P,.inl ⟨rfl,_,rfl⟩⟩
   ·rename_i q hr
    rw [hr];have q1:=sr P hr;have e2:=sf R P B q1;split at h
    ·rename_i hti
     cases h;rw [hti] at e2;refine ⟨_,st,a,rows,dH (show 1 <= N + 1 by omega) (mJ (v:=.int q) (st':=st) (st2:=st) (by simp [oN]) ?_),R,P,.inr ⟨q,rfl,q1,rfl⟩⟩;simp [R.ins,oN,e2]
    ·rename_i r hti
     rw [hti] at e2;have r1:=pT hti;obtain ⟨st',a2,rows2,e3,R2⟩:=kP R P B d0 hw hm r1 q1;have P2:=SX.exch_shp (c:=q) P r1;have e4:=qb R2 P2 hw hp;obtain ⟨o,st2,a3,rows3,e5,R3,P3,h3⟩:=ih (LI S r q) (some (.int r)) h P2 R2;refine ⟨o,st2,a3,rows3,fV (st':=st) (sl2:=[some (.ref k),some (.int p),some (oN (hG (LI S r q) p)),some (.int r)]) (st2:=st') (by simp [oN]) ?_ e5,R3,P3,h3⟩;refine bG (sl':=[some (.ref k),some (.int p),some (.int q),some (.int r)]) (st':=st) (by simp [R.ins,oN,e2]) (bG (sl':=[some (.ref k),some (.int p),some (.int q),some (.int r)]) (st':=st) (by simp) (bG (sl':=[some (.ref k),some (.int p),some (.int q),some (.int r)]) (st':=st') (by simp [R.ins,e3]) (bG (sl':=[some (.ref k),some (.int p),some (oN (hG (LI S r q) p)),some (.int r)]) (st':=st') (by simp [R2.ins,e4]) rfl)))
  ·cases h
theorem Cg (hw:w <= 100) (hm:m <= 1000) (hp:p < m) {N:Nat}{S S':Sh}{oq:Option Nat}{st:aa}{a:Nat}{rows:List AV} (h:jE w m p N S=some (oq,S')) (P:LC w m S) (R:Rep st k a b c g n u rows S) :
  ∃ st' a' rows',bt [.ref k,.int p] st=some (oN oq,st')/\Rep st' k a' b c g n u rows' S'/\LC w m S'/\∀ q,oq=some q->q < w:=by
 have e1:=qb R P hw hp;obtain ⟨o,st',a',rows',e,R',P',h'⟩:=ww hw hm hp N S none h P R;have e:=kz e;refine ⟨st',a',rows',?_,R',P',fun q hq=>?_⟩
 ·rw [bt,aD]
  show (ak [ax,aw,au] ff [some (.ref k),some (.int p),none,none] st).bind aE=_;refine ag (sl':=[some (.ref k),some (.int p),some (oN (hG S p)),none]) (st':=st) (by simp [R.ins,e1]) ?_;rcases h' with ⟨rfl,sl,rfl⟩ | ⟨q,rfl,_,rfl⟩
  ·exact ag e (bY rfl)
  ·exact bY e
 ·rcases h' with ⟨rfl,_⟩ | ⟨q',rfl,h,_⟩
  ·cases hq
  ·cases hq;exact h
end
noncomputable def xZ:List Nat->Option Nat
 | []=>none
 | x::l=>some (l.foldl (fun a b=>if b < a then b else a) x)
def qy (S:Sh) (p:Nat):Option Nat:=xZ ((bL S).filter fun j=>!decide (S.t p j=0))
def uv (w m p N:Nat) (S:Sh):Option (Bool × Sh):=if Nat.ble S.gd.length 1000=true then (iO w m p N S).map fun r=>if r.1=true then (true,{ r.2 with gd:=ins r.2.gd (S.s p) }) else r else none
def lD (w p:Nat) (S:Sh):Sh:=if 0 < S.t p w then SX.trn S p else S
def Ah (w m p N:Nat) (S:Sh):Option (Bool × Sh):=if S.t p w < 0 then iO w m p N S else if rC S=true then some (true,match qy S p with | none=>S | some q=>LI S p q) else none
def uw (w m p N:Nat) (S:Sh):Option (Bool × Sh):=if Nat.ble S.nl.length 1000 && Nat.ble S.tn.length 1000 then (Ah w m p N (lD w p S)).map fun r=>if r.1=true then (true,{ r.2 with nl:=ins r.2.nl (S.s p) }) else r else none
section
variable {st:aa}{k a b c g n u w m:Nat}{rows:List AV}{S:Sh}{p:Nat}
theorem Et {l:List Nat}:x8 (l.map fun j=>((j:Nat):Int))=oN (xZ l):=by
 cases l with
 | nil=>rfl
 | cons x l =>
  have go:∀ (l:List Nat) (x:Nat),(l.map fun j=>((j:Nat):Int)).foldl (fun a b=>if b < a then b else a) (x:Int)=((l.foldl (fun a b=>if b < a then b else a) x:Nat):Int):=by
   intro l
   induction l with
   | nil=>intro x;rfl
   | cons y l ih =>
    intro x;rw [zO,List.foldl_cons,List.foldl_cons];by_cases h:y < x
    ·rw [yI oM,yI h];exact ih y
    ·rw [yH oM,yH h];exact ih x
  exact congrArg AV.int (go l x)
theorem xY {l:List Nat}{x:Nat} (h:xZ l=some x):x ∈ l:=by
 have go:∀ (l:List Nat) (x:Nat),l.foldl (fun a b=>if b < a then b else a) x ∈ x::l:=by
  intro l
  induction l with
  | nil=>intro x;simp
  | cons y l ih =>
   intro x;rw [List.foldl_cons];rcases zT.mp (ih (if y < x then y else x)) with e | e
   ·rw [e];split <;> simp
   ·exact zQ _ (zQ _ e)
 cases l with
 | nil=>cases h
 | cons y l=>cases h;exact go l y
theorem GC (R:Rep st k a b c g n u rows S) (P:LC w m S) (hw:w <= 100) (hp:p < m):aK [.ref k,.int p] st=some (oN (qy S p),st):=by
 have ll:(bL S).length <= 1000:=by
  unfold bL;rw [zH]
  have:=List.length_filter_le (fun z:Nat × Nat=>!decide (z.1 ∈ S.nl)) S.hd.zipIdx
  rw [List.length_zipIdx,P.hd] at this;omega
 have ho:=Et (l:=(bL S).filter fun j=>!decide (S.t p j=0));simp [aK,aD,dF,R.ins,R.line P hp,sM R P hw,nL,cp ll];rw [f9 (B:=fun j=>!decide (S.t p j=0)) (F:=fun j:Nat=>.int (j:Int)) dW fun j hj=>⟨_,rfl,by simp [R.cell P hp (show j < w + 1 by have:=(gA P).mp hj;omega)],fun _=>rfl⟩];have hf:rfs (((bL S).filter fun j=>!decide (S.t p j=0)).map fun j:Nat=>(AV.int (j:Int)))=true:=ik;have hi:=sP (l:=(bL S).filter fun j=>!decide (S.t p j=0));unfold nL at hi;simp [hf,bC,mX,lsI,hi,ho,qy]
theorem Eo (P:LC w m S) {q:Nat} (h:qy S p=some q):q < w:=by
 have:=List.mem_filter.mp (xY h)
 exact ((gA P).mp this.1).1
theorem CP {S:Sh}{l:List Nat} (P:LC w m S):LC w m { S with gd:=l }:=⟨P.ls,P.row,P.hd,P.sd⟩
theorem CO {S:Sh}{l:List Nat} (P:LC w m S):LC w m { S with nl:=l }:=⟨P.ls,P.row,P.hd,P.sd⟩
theorem sN (hb:True):∀ (N:Nat) (S:Sh) {bb:Bool}{S':Sh},iO w m p N S=some (bb,S')->S'.gd=S.gd/\S'.nl=S.nl/\S'.tn=S.tn:=by
 intro N
 induction N with
 | zero=>intro S bb S' h;cases h
 | succ N ih =>
  intro S bb S' h;simp only [iO] at h;split at h
  ·split at h
   ·split at h
    ·cases h;exact ⟨rfl,rfl,rfl⟩
    ·split at h
     ·cases h;exact ⟨rfl,rfl,rfl⟩
     ·split at h
      ·cases h;exact ⟨rfl,rfl,rfl⟩
      ·obtain ⟨a,b,c⟩:=ih _ h;exact ⟨a,b,c⟩
   ·cases h;exact ⟨rfl,rfl,rfl⟩
  ·cases h
theorem GK (hw:w <= 100) (hm:m <= 1000) (hp:p < m) {N:Nat}{S':Sh}{bb:Bool} (h:uv w m p N S=some (bb,S')) (P:LC w m S) (R:Rep st k a b c g n u rows S) :
  ∃ st' a' rows',be [.ref k,.int p] st=some (.bl bb,st')/\Rep st' k a' b c g n u rows' S'/\LC w m S':=by
 unfold uv at h;split at h
 ·rename_i hl
  have hl:=zS hl;obtain ⟨⟨b1,S1⟩,h1,h2⟩:=zE.mp h;obtain ⟨st1,a1,rows1,e1,R1,P1⟩:=vZ hw hm hp h1 P R;dsimp only at h2;cases b1 with
  | false =>
   rw [yH (by simp)] at h2;cases h2;refine ⟨st1,a1,rows1,?_,R1,P1⟩;simp [be,aD,eB,R.ins,R.side P hp,e1,fA,bD,dr]
  | true =>
   rw [yI rfl] at h2;cases h2;have g1:=(sN trivial N S h1).1;obtain ⟨st2,e2,R2⟩:=sV (q:=S.s p) R1 (by rw [g1];exact hl);refine ⟨st2,a1,rows1,?_,R2,CP P1⟩;simp [be,aD,eB,R.ins,R.side P hp,e1,fA,bD,dr,R1.ins,e2]
 ·cases h
theorem GL (hw:w <= 100) (hm:m <= 1000) (hp:p < m) {N:Nat}{S':Sh}{bb:Bool} (h:uw w m p N S=some (bb,S')) (P:LC w m S) (R:Rep st k a b c g n u rows S) :
  ∃ st' a' rows',bR [.ref k,.int p] st=some (.bl bb,st')/\Rep st' k a' b c g n u rows' S'/\LC w m S':=by
 unfold uw at h;split at h
 ·rename_i hl
  rw [zC] at hl;have hl1:=zS hl.1;have hl2:=zS hl.2;obtain ⟨⟨b1,S2⟩,h1,h2⟩:=zE.mp h;dsimp only at h2;have s1:∃ (st1:aa) (rows1:List AV),cL [aZ,bE,aK,au,ck] (.iff (.cmp .Gt (.ix (.ix (.fd "Sheet" "lines" (.v 0)) (.v 1)) (.un .USub (.i 1))) (.i 0)) (.cons (.ex (.me "Sheet" "turn_line" 0 (.v 0) (.cons (.v 1) .nil))) .nil) .nil) [some (.ref k),some (.int p),some (.int (S.s p:Int)),none] st=some (.nx [some (.ref k),some (.int p),some (.int (S.s p:Int)),none] st1) /\
    Rep st1 k a b c g n u rows1 (lD w p S)/\LC w m (lD w p S)/\(lD w p S).nl=S.nl:=by
   unfold lD;by_cases h:0 < S.t p w
   ·rw [yI h]
    obtain ⟨st1,rows1,e1,R1⟩:=CC R P hw hp hl2;refine ⟨st1,rows1,?_,R1,SX.trn_shp P hp,rfl⟩;simp [R.ins,R.line P hp,R.last P hp,h,e1]
   ·rw [yH h]
    refine ⟨st,rows,?_,R,P,rfl⟩;simp [R.ins,R.line P hp,R.last P hp,h]
  obtain ⟨st1,rows1,e1,R1,P1,n1⟩:=s1;obtain ⟨S1,hS1⟩:∃ S1,S1=lD w p S:=⟨_,rfl⟩;rw [<- hS1] at h1 R1 P1 n1;have e0:cL [aZ,bE,aK,au,ck] (.as (.ix (.fd "Sheet" "sides" (.v 0)) (.v 1)) (.nm 2)) [some (.ref k),some (.int p),none,none] st=some (.nx [some (.ref k),some (.int p),some (.int (S.s p:Int)),none] st):=by simp [R.ins,R.side P hp]
  have mid:∃ (st2:aa) (a2:Nat) (rows2:List AV),Rep st2 k a2 b c g n u rows2 S2/\LC w m S2/\S2.nl=S.nl/\∃ y3,cL [aZ,bE,aK,au,ck] (.iff (.cmp .Lt (.ix (.ix (.fd "Sheet" "lines" (.v 0)) (.v 1)) (.un .USub (.i 1))) (.i 0)) (.cons (.iff (.no (.va (.me "Sheet" "lift" 1 (.v 0) (.cons (.v 1) .nil)))) (.cons (.rt (.b false)) .nil) .nil) .nil) (.cons (.as (.me "Sheet" "moving_column" 2 (.v 0) (.cons (.v 1) .nil)) (.nm 3)) (.cons (.iff (.cmp .IsNot (.v 3) .n) (.cons (.ex (.me "Sheet" "exchange" 3 (.v 0) (.cons (.v 1) (.cons (.v 3) .nil)))) .nil) .nil) .nil))) [some (.ref k),some (.int p),some (.int (S.s p:Int)),none] st1=some (if b1=true then .nx [some (.ref k),some (.int p),some (.int (S.s p:Int)),y3] st2 else .rt (.bl false) st2):=by
   unfold Ah at h1;split at h1
   ·rename_i low
    obtain ⟨st2,a2,rows2,e2,R2,P2⟩:=vZ hw hm hp h1 P1 R1;refine ⟨st2,a2,rows2,R2,P2,by rw [(sN trivial N S1 h1).2.1,n1],none,?_⟩;cases b1 <;> simp [R1.ins,R1.line P1 hp,R1.last P1 hp,low,e2,fA,bD,dr]
   ·rename_i low
    split at h1
    ·rename_i hb
     obtain ⟨B,d0⟩:=uM P1 hb;have e2:=GC R1 P1 hw hp;cases hmv:qy S1 p with
     | none =>
      rw [hmv] at h1 e2;cases h1;refine ⟨st1,a,rows1,R1,P1,n1,some .non,?_⟩;simp [R1.ins,R1.line P1 hp,R1.last P1 hp,low,e2,oN]
     | some q =>
      rw [hmv] at h1 e2;cases h1;obtain ⟨st2,a2,rows2,e3,R2⟩:=kP R1 P1 B d0 hw hm hp (Eo P1 hmv);refine ⟨st2,a2,rows2,R2,SX.exch_shp P1 hp,n1,some (.int q),?_⟩;simp [R1.ins,R1.line P1 hp,R1.last P1 hp,low,e2,oN,e3]
    ·cases h1
  obtain ⟨st2,a2,rows2,R2,P2,n2,y3,e2⟩:=mid;have go:bR [.ref k,.int p] st=(ak [aZ,bE,aK,au,ck] jg [some (.ref k),some (.int p),none,none] st).bind aE:=by rw [bR,aD];rfl
  cases b1 with
  | false =>
   rw [yH (by simp)] at h2;cases h2;refine ⟨st2,a2,rows2,?_,R2,P2⟩;rw [go];exact ag e0 (ag e1 (bY e2))
  | true =>
   rw [yI rfl] at h2;cases h2;obtain ⟨st3,e3,R3⟩:=Ei (q:=S.s p) R2 (by rw [n2];exact hl1);refine ⟨st3,a2,rows2,?_,R3,CO P2⟩;rw [go];exact ag e0 (ag e1 (ag e2 (ag (sl':=[some (.ref k),some (.int p),some (.int (S.s p:Int)),y3]) (st':=st3) (by simp [R2.ins,e3]) (bY rfl))))
 ·cases h
end
end LW
namespace LW
open PySem PySem.Spec L2 R
open SX (Sh LC LI gI LM)
noncomputable def qw:List Nat->Bool
 | []=>true
 | x::l=>!decide (x ∈ l) && qw l
def vJ (w m:Nat) (S:Sh):Bool:=rC S && qw (S.hd++S.sd) && qw S.tn && (S.hd++S.sd++S.tn).all (fun q=>Nat.blt q (w + m)) && (List.range (w + m)).all fun q=>decide (q ∈ S.hd++S.sd)
def ng (S:Sh) (w m cc:Nat):List Int:=(List.range w).map fun q=>match (List.range m).find? fun i=>S.s i == q with
 | some i=>S.t i cc
 | none=>0
def zj (S:Sh) (w m p:Nat):List Int:=(List.range (w + m)).map fun q=>match (List.range w).find? fun j=>S.h j == q with
 | some j=>if q ∈ S.tn then S.t p j else - S.t p j
 | none=>if q=S.s p then (if q ∈ S.tn then - S.d else S.d) else 0
def mI (S:Sh) (w m p:Nat) (HO:Nat->List Int):List Int:=(List.range m).map fun x=>wt (zj S w (m + 1) p) HO w w x
def qH (w m p N:Nat) (z:Gv) (S:Sh):Option (Bool × Sh):=if z.eq=true then uw w m p N S else uv w m p N S
def uC (w m N:Nat):Nat->List Gv->Sh->Option (Option Nat × Sh)
 | _,[],S=>some (none,S)
 | p,z::l,S=>match qH w m p N z S with
  | none=>none
  | some (true,S')=>uC w m N (p + 1) l S'
  | some (false,S')=>some (some p,S')
def xS (w m:Nat) (HO:Nat->List Int) (p:Nat) (S:Sh):Option AV:=if vJ w (m + 1) S=true then some (.tup [.str "never",.fz (iL (aM (mI S w m p HO)))]) else none
def uo (w m:Nat) (HO:Nat->List Int) (S:Sh):Option AV:=if vJ w (m + 1) S=true then some (.tup [.str "least",.tup [.int (gI (aM [- S.t m w,S.d]) 0),.int (gI (aM [- S.t m w,S.d]) 1)],.tup [.fz (iL ((aM (ng S w (m + 1) w++[S.d])).take w)),.int (gI (aM (ng S w (m + 1) w++[S.d])) w)],.int (gI (aM (mI S w m m HO++[S.d])) m),.fz (iL ((aM (mI S w m m HO++[S.d])).take m))]) else none
def uF (w m:Nat) (q:Nat) (S:Sh):Option AV:=if vJ w (m + 1) S=true then some (.tup [.str "endless",.tup [.fz (iL ((aM (ng S w (m + 1) w++[S.d])).take w)),.int (gI (aM (ng S w (m + 1) w++[S.d])) w)],.fz (iL (aM (if S.h q < w then (ng S w (m + 1) q).set (S.h q) S.d else ng S w (m + 1) q)))]) else none
def JN (w m N:Nat) (HO:Nat->List Int):Option Nat × Sh->Option AV
 | (some p,S)=>xS w m HO p S
 | (none,S)=>(jE w (m + 1) m N S).bind fun r=>match r with
  | (none,S')=>uo w m HO S'
  | (some q,S')=>uF w m q S'
def uS (w:Nat) (RR:List (List Int)) (HO:Nat->List Int) (gv:List Gv) (goal:List Int) (N:Nat):Option AV :=
 (uC w (RR.length + gv.length + 1) N RR.length gv (SX.openS w (aO RR gv goal) (w + RR.length))).bind (JN w (RR.length + gv.length) N HO)
section
variable {w m:Nat}{S:Sh}{st:aa}{k a b c g n u p:Nat}{rows:List AV}{HO:Nat->List Int}
theorem oa:∀ {l:List Nat},qw l=true->l.Nodup
 | [],_=>List.nodup_nil
 | x::l,h=>by
  unfold qw at h;rw [zC] at h;exact List.nodup_cons.mpr ⟨by simpa using h.1,oa h.2⟩
structure OkS (w m:Nat) (S:Sh):Prop where
 pm:SX.Pm w m S.h S.s
 bd:S.d.natAbs < 1000000000/\∀ i,i < m->∀ j,j < w + 1->(S.t i j).natAbs < 1000000000
 nt:S.tn.Nodup
 ht:∀ q ∈ S.tn,q < w + m
theorem qu (P:LC w m S) (h:vJ w m S=true):OkS w m S:=by
 unfold vJ at h;simp only [zC,yP] at h;obtain ⟨⟨⟨⟨h1,h2⟩,h3⟩,h4⟩,h5⟩:=h;have h2:=oa h2;have h4:∀ q ∈ S.hd++S.sd++S.tn,q < w + m:=fun q hq=>by simpa using h4 q hq
 have hh:∀ j,j < w->S.hd[j]?=some (S.h j):=fun j hj=>by
  show S.hd[j]?=some (S.hd.getD j 0);rw [zD,zF (by rw [P.hd];exact hj)];rfl
 have hs:∀ j,j < m->S.sd[j]?=some (S.s j):=fun j hj=>by
  show S.sd[j]?=some (S.sd.getD j 0);rw [zD,zF (by rw [P.sd];exact hj)];rfl
 rw [List.nodup_append] at h2;obtain ⟨n1,n2,n3⟩:=h2;have inj:∀ {l:List Nat}{i j x:Nat},l.Nodup->l[i]?=some x->l[j]?=some x->i=j:=fun {l i j x} hn e1 e2=>by
  obtain ⟨a1,a2⟩:=zB.mp e1;obtain ⟨b1,b2⟩:=zB.mp e2;have hp:=List.pairwise_iff_getElem.mp hn;rcases Nat.lt_trichotomy i j with h | h | h
  ·exact absurd (a2.trans b2.symm) (hp i j a1 b1 h)
  ·exact h
  ·exact absurd (b2.trans a2.symm) (hp j i b1 a1 h)
 refine ⟨⟨fun j hj=>h4 _ ?_,fun j hj=>h4 _ ?_,fun i j hi hj e=>inj n1 (hh i hi) (by rw [e];exact hh j hj),fun i j hi hj e=>inj n2 (hs i hi) (by rw [e];exact hs j hj),fun j i hj hi=>n3 _ (zW (hh j hj)) _ (zW (hs i hi)),fun q hq=>?_⟩,?_,oa h3,fun q hq=>h4 q (zK _ hq)⟩
 ·exact zL _ (zL _ (zW (hh j hj)))
 ·exact zL _ (zK _ (zW (hs j hj)))
 ·have:=h5 q (List.mem_range.mpr hq)
  rw [yC,zZ] at this;rcases this with h | h
  ·obtain ⟨j,hj⟩:=z9 h
   have hl:=(zB.mp hj).1;rw [P.hd] at hl;rw [hh j hl] at hj;exact .inr ⟨j,hl,yE hj⟩
  ·obtain ⟨j,hj⟩:=z9 h
   have hl:=(zB.mp hj).1;rw [P.sd] at hl;rw [hs j hl] at hj;exact .inl ⟨j,hl,yE hj⟩
 ·unfold rC at h1
  rw [zC,zC,yC,yP] at h1;obtain ⟨⟨h1,_⟩,h3⟩:=h1;refine ⟨h1,fun i hi j hj=>?_⟩;have hl:S.ls[i]?=some (SX.row S i):=by
   show S.ls[i]?=some (S.ls.getD i []);rw [zD,zF (by rw [P.ls];exact hi)];rfl
  have:=h3 _ (zW hl)
  rw [yP] at this;show (gI (SX.row S i) j).natAbs < _;unfold gI;rw [zD];cases e:(SX.row S i)[j]? with
  | none=>decide
  | some x=>simpa using this x (zW e)
theorem OkS.b89 (O:OkS w m S):S.d.natAbs < 2 ^ 8900/\∀ i,i < m->∀ j,j < w + 1->(S.t i j).natAbs < 2 ^ 8900:=by
 have big:1000000000 < 2 ^ 8900:=zJ (show 1000000000 < 2 ^ 30 by decide) (Nat.pow_le_pow_right dC dC);exact ⟨Nat.lt_trans O.bd.1 big,fun i hi j hj=>Nat.lt_trans (O.bd.2 i hi j hj) big⟩
theorem OkS.b90 (O:OkS w m S):Bd w m S:=by
 have big:1000000000 < 2 ^ 9000:=zJ (show 1000000000 < 2 ^ 30 by decide) (Nat.pow_le_pow_right dC dC);exact ⟨Nat.lt_trans O.bd.1 big,fun i hi j hj=>Nat.lt_trans (O.bd.2 i hi j hj) big⟩
theorem qS {l l':List Int} (h1:l.length=l'.length) (h2:∀ q,q < l.length->gI l q=gI l' q):l=l':=by
 refine List.ext_getElem h1 fun q h h'=>?_
 have:=h2 q h
 unfold gI at this;rw [zD,zD,zF h,zF h'] at this;exact this
theorem qN {f:Nat->Int}{N q:Nat} (h:q < N):gI ((List.range N).map f) q=f q:=by
 unfold gI;rw [zD,zR,List.getElem?_range h];rfl
theorem uB {cc:Nat}{X:List Int} (h:GX S w cc m X):X=ng S w m cc:=by
 refine qS (by simp [ng,h.len]) fun q hq=>?_
 rw [h.len] at hq;unfold ng;rw [qN hq];split
 ·rename_i i hi
  have h1:=List.find?_some hi;have h2:=List.mem_range.mp (List.mem_of_find?_eq_some hi);rw [beq_iff_eq] at h1;subst h1;exact h.at_ i h2 hq
 ·rename_i hi
  exact h.no q hq fun i hi' e=>by
   have:=List.find?_eq_none.mp hi i (List.mem_range.mpr hi')
   simp [e] at this
theorem FQ {T:List Int} (h:TK S w m p T):T=zj S w m p:=by
 refine qS (by simp [zj,h.len]) fun q hq=>?_
 rw [h.len] at hq;unfold zj;rw [qN hq];split
 ·rename_i i hi
  have h1:=List.find?_some hi;have h2:=List.mem_range.mp (List.mem_of_find?_eq_some hi);rw [beq_iff_eq] at h1;subst h1;exact h.hd i h2
 ·rename_i hi
  by_cases e:q=S.s p
  ·rw [yI e];subst e;exact h.sd
  ·rw [yH e]
   exact h.no q hq (fun i hi' e=>by
    have:=List.find?_eq_none.mp hi i (List.mem_range.mpr hi')
    simp [e] at this) e
theorem tE {T W:List Int} (h:TK S w (m + 1) p T) (hl:W.length=m) (hW:∀ x,x < m->gI W x=wt T HO w w x):W=mI S w m p HO:=by
 refine qS (by simp [mI,hl]) fun q hq=>?_
 rw [hl] at hq;unfold mI;rw [qN hq,hW q hq,FQ h]
end
structure KD (nn:Int) (w:Nat) (RR:List (List Int)) (HO:Nat->List Int) (gv:List Gv) (goal:List Int):Prop where
 HR:∀ st,pm ar [.int nn] st=some (.fz (aB RR),st)
 HA:∀ st,pm aj [.int nn] st=some (.int w,st)
 H:HOk nn w RR.length HO
 r:∀ l ∈ RR,l.length=w
 g:∀ z ∈ gv,z.row.length=w
 o:goal.length=w
 hw:w <= 15
 hR:RR.length <= 100
 hg:gv.length <= 100
section
variable {w m:Nat}{RR:List (List Int)}{gv:List Gv}{goal:List Int}{nn:Int}{HO:Nat->List Int}{S:Sh}{st:aa}{k a b c g n u p nr:Nat}{rows:List AV}
theorem zf (O:OkS w (m + 1) S) (hp:p < m + 1) (H:HOk nn w nr HO) (hw:w <= 15) {T W:List Int} (hT:TK S w (m + 1) p T) (hl:W.length=m) (hW:∀ x,x < m->gI W x=wt T HO w w x):∀ x ∈ W,x.natAbs < 2 ^ 9000:=fun x hx=>by
 obtain ⟨j,hj⟩:=z9 hx;have hjl:=(zB.mp hj).1;have eg:gI W j=x:=by unfold gI;rw [zD,hj];rfl
 rw [<- eg,hW j oM];exact FN (hT.bd hp O.pm O.b89) H hw j
theorem BV (R:Rep st k a b c g n u rows S) (P:LC w (m + 1) S) (hp:p < m + 1) (HA:∀ st,pm aj [.int nn] st=some (.int w,st)) (H:HOk nn w nr HO) (hnr:nr <= m) (hw:w <= 15) (hm:m + 1 <= 400) (h:xS w m HO p S=some t) :
  ∃ st1 st2,aJ [.int nn,.ref k,.int p] st=some (.ref (st.length + 1),st1)/\pm ai [.ref (st.length + 1)] st1=some (.fz (iL (aM (mI S w m p HO))),st2)/\t=.tup [.str "never",.fz (iL (aM (mI S w m p HO)))]:=by
 unfold xS at h;split at h
 ·rename_i ok
  cases h;have O:=qu P ok;obtain ⟨z,e1,T,W,hT,hl,hW,hz1,hz2⟩:=ze R P O.pm hp O.nt O.ht oM oM HA H hnr;obtain ⟨z1,z2⟩:=z;dsimp only at hz1 hz2;subst hz1;subst hz2;have gW:(st++[Ly.lst (iL T)]++[Ly.lst (iL W)])[st.length + 1]?=some (.lst (iL W)):=by
   have:(st++[Ly.lst (iL T)]).length=st.length + 1:=by simp
   rw [<- this];exact gl
  obtain ⟨st2,e2,_⟩:=kD (fn:=ai) (rest:=[]) (st:=st++[Ly.lst (iL T)]++[Ly.lst (iL W)]) (x:=.ref (st.length + 1)) (l:=W) (.inr ⟨_,rfl,.inl gW⟩) rfl rfl (fun s=>rfl) (pC oM (zf O hp H hw hT hl hW)) rfl (by simp [di]);rw [tE hT hl hW] at e2;exact ⟨_,st2,e1,by rw [tE hT hl hW];exact e2,rfl⟩
 ·cases h
theorem ye (R:Rep st k a b c g n u rows S) (P:LC w (m + 1) S) (HA:∀ st,pm aj [.int nn] st=some (.int w,st)) (H:HOk nn w nr HO) (hnr:nr <= m) (hw:w <= 15) (hm:m + 1 <= 400) (h:uo w m HO S=some t) :
  ∃ st2,bq [.int nn,.ref k,.int m] st=some (t,st2)/\eM st2 t=some t:=by
 unfold uo at h;split at h
 ·rename_i ok
  cases h;have O:=qu P ok;have B:=O.b90;have hp:m < m + 1:=by omega
  obtain ⟨z,e1,T,W,hT,hl,hW,hz1,hz2⟩:=ze R P O.pm hp O.nt O.ht oM oM HA H hnr;obtain ⟨z1,z2⟩:=z;dsimp only at hz1 hz2;subst hz1;subst hz2;have R2:=(R.app (ys:=[Ly.lst (iL T)])).app (ys:=[Ly.lst (iL W)]);have wb:∀ x ∈ W++[S.d],x.natAbs < 2 ^ 9000:=fun x hx=>by
   rcases zZ.mp hx with h | h
   ·exact zf O hp H hw hT hl hW x h
   ·rw [zM.mp h];exact B.1
  have e2:=qD (l:=W++[S.d]) (st:=st++[Ly.lst (iL T)]++[Ly.lst (iL W)]) (by simp [hl];omega) wb;obtain ⟨X,T',st3,e3,rfl,hX,R3⟩:=zl R2 P O.pm B HA oM oM;have fr:=E8 (a:=- S.t m w) (b:=S.d) (st:=st) (by rw [Int.natAbs_neg];exact B.2 m hp w oM) B.1;rw [<- uB hX,<- tE hT hl hW];refine ⟨st3,?_,rfl⟩;have ll:(aM (W++[S.d])).length=m + 1:=by rw [mx];simp [hl]
  rw [bq,aD];unfold fc;refine ag (sl':=[some (.int nn),some (.ref k),some (.int m),some (.tup [.int (gI (aM [- S.t m w,S.d]) 0),.int (gI (aM [- S.t m w,S.d]) 1)]),none]) (st':=st) (by simp [R.ins,R.line P hp,R.last P hp,fr]) ?_;refine ag (sl':=[some (.int nn),some (.ref k),some (.int m),some (.tup [.int (gI (aM [- S.t m w,S.d]) 0),.int (gI (aM [- S.t m w,S.d]) 1)]),some (.fz (iL (aM (W++[S.d]))))]) (st':=st++[Ly.lst (iL T)]++[Ly.lst (iL W)]) ?_ ?_
  ·have gW:(st++[Ly.lst (iL T)]++[Ly.lst (iL W)])[st.length + 1]?=some (.lst (iL W)):=by
    have:(st++[Ly.lst (iL T)]).length=st.length + 1:=by simp
    rw [<- this];exact gl
   have c:=k7 (ks:=[cm,aJ,ai,aS]) (a:=.ca false 1 (.cons (.v 0) (.cons (.v 1) (.cons (.v 2) .nil)))) (b:=.nw false (.li (.cons (.fd "Sheet" "below" (.v 1)) .nil)))
    (sl:=[some (.int nn),some (.ref k),some (.int m),some (.tup [.int (gI (aM [- S.t m w,S.d]) 0),.int (gI (aM [- S.t m w,S.d]) 1)]),none]) (st:=st) (s1:=st++[Ly.lst (iL T)]++[Ly.lst (iL W)]) (s2:=st++[Ly.lst (iL T)]++[Ly.lst (iL W)]) (x:=.ref (st.length + 1)) (y:=.fz [AV.int S.d]) (l:=W) (l':=[S.d])
    (by simp only [cN,aN,a0,cu,bH,bU,bind_some,du,cW,dO];exact e1) (by simp [-List.append_assoc,bv,R2.ins]) (ba gW) rfl (by simp [hl];omega)
   simp only [cO,cN,aN,a0,dy,c,bind_some,cG,ite_true,cP,cW,dO,e2,d5];rfl
  ·have xl:bM st3 (.fz (iL (aM (W++[S.d])))) (.int (-1))=some (.int (gI (aM (W++[S.d])) m)):=by rw [cg hU,oB (n:=m) (by simp [ll]),cw oM]
   simp [-List.append_assoc,e3,sI,sG,qZ ll,xl]
 ·cases h
theorem JA (hw:w <= 100) (hm:m <= 1000) (hp:p < m) {N:Nat}{z:Gv}{S':Sh}{bb:Bool} (h:qH w m p N z S=some (bb,S')) (P:LC w m S) (R:Rep st k a b c g n u rows S) :
  ∃ st' a' rows',(if z.eq=true then bR else be) [.ref k,.int p] st=some (.bl bb,st')/\Rep st' k a' b c g n u rows' S'/\LC w m S':=by
 unfold qH at h;by_cases e:z.eq=true
 ·rw [yI e] at h ⊢;exact GL hw hm hp h P R
 ·rw [yH e] at h ⊢;exact GK hw hm hp h P R
end
section
variable {w m:Nat}{RR:List (List Int)}{gv:List Gv}{goal:List Int}{nn:Int}{HO:Nat->List Int}
theorem rD (q:KD nn w RR HO gv goal) {N:Nat}{t:AV} (h:uS w RR HO gv goal N=some t):∃ z,bK [.int nn,.fz (gv.map Gv.av),.fz (iL goal)] []=some z/\eM z.2 z.1=some t:=by
 obtain ⟨m,hm⟩:∃ m,m=RR.length + gv.length:=⟨_,rfl⟩;have hLl:(aO RR gv goal).length=m + 1:=by rw [HF,hm]
 obtain ⟨st1,e1,R1⟩:=DM (gv:=gv) (goal:=goal) q.HR q.HA q.hw q.hR q.r q.hg q.g q.o;have P1:LC w (m + 1) (SX.openS w (aO RR gv goal) (w + RR.length)):=by
  have hLen:∀ l ∈ aO RR gv goal,l.length=w + 1:=fun l hl=>by
   unfold aO at hl;simp only [zZ,yD,zM] at hl;rcases hl with (⟨r,hr,rfl⟩ | ⟨z,hz,rfl⟩) | rfl
   ·simp [q.r r hr]
   ·simp [q.g z hz]
   ·simp [q.o]
  exact ⟨hLl,hLen,by simp [SX.openS],by simp [SX.openS,hLl]⟩
 unfold uS at h;rw [<- hm] at h;obtain ⟨rr,h1,h2⟩:=zA h;have sm:=q.hg;have sm2:=q.hR;have sm3:=q.hw;rw [bK];simp only [aD];unfold mE;refine bX (sl':=[some (.int nn),some (.fz (gv.map Gv.av)),some (.fz (iL goal)),some (.ref 1),none,none,none,none,none]) (st':=st1) (by simp [e1]) ?_;have l2:bD st1 (.ref 2)=some (aB (aO RR gv goal)):=ba R1.ha;refine bX (sl':=[some (.int nn),some (.fz (gv.map Gv.av)),some (.fz (iL goal)),some (.ref 1),some (.int (m:Int)),none,none,none,none]) (st':=st1) (by simp [R1.ins,bC,dZ,l2,hLl]) ?_;have loop:=ow (gd:=[]) (g:=cB [bx,bR,be,aJ,ai,bt,bq,aS,ce] (.tu 2 (.cons (.nm 5) (.cons (.nm 6) .nil))))
  (s:=ak [bx,bR,be,aJ,ai,bt,bq,aS,ce] (.cons (.as (.ife (.cmp .Eq (.ix (.v 6) (.i 1)) (.s "=")) (.ca false 1 (.cons (.v 3) (.cons (.v 5) .nil))) (.ca false 2 (.cons (.v 3) (.cons (.v 5) .nil)))) (.nm 7))
   (.cons (.iff (.no (.va (.v 7))) (.cons (.rt (.tu (.cons (.s "never") (.cons (.ca true 4 (.cons (.ca false 3 (.cons (.v 0) (.cons (.v 3) (.cons (.v 5) .nil)))) .nil)) .nil)))) .nil) .nil) .nil)))
  (I:=fun i sl s=>∃ a rows S x5 x6 x7,sl=[some (.int nn),some (.fz (gv.map Gv.av)),some (.fz (iL goal)),some (.ref 1),some (.int (m:Int)),x5,x6,x7,none]/\Rep s 1 a 3 4 5 6 7 rows S/\LC w (m + 1) S/\uC w (m + 1) N (RR.length + i) (gv.drop i) S=some rr)
  (Post:=fun v s=>eM s v=some t) (xs:=bT RR.length (gv.map Gv.av)) (fun _ _ _ _ _=>rfl)
  (fun i y sl s hy hI=>by
   obtain ⟨a,rows,S,x5,x6,x7,rfl,R,P,hv⟩:=hI;obtain ⟨x,hx,rfl⟩:=Cf hy;rw [zR] at hx;obtain ⟨z,hz,rfl⟩:=zE.mp hx;have hi:=(zB.mp hz).1;have hp:RR.length + i < m + 1:=by omega
   have hd:gv.drop i=z::gv.drop (i + 1):=by rw [List.drop_eq_getElem_cons hi,(zB.mp hz).2]
   rw [hd] at hv;unfold uC at hv;cases hk:qH w (m + 1) (RR.length + i) N z S with
   | none=>rw [hk] at hv;cases hv
   | some rk =>
    rw [hk] at hv;obtain ⟨bb,S'⟩:=rk;obtain ⟨s2,a2,rows2,e2,R2,P2⟩:=JA oM oM hp hk P R;have es:cL [bx,bR,be,aJ,ai,bt,bq,aS,ce] (.as (.ife (.cmp .Eq (.ix (.v 6) (.i 1)) (.s "=")) (.ca false 1 (.cons (.v 3) (.cons (.v 5) .nil))) (.ca false 2 (.cons (.v 3) (.cons (.v 5) .nil)))) (.nm 7)) [some (.int nn),some (.fz (gv.map Gv.av)),some (.fz (iL goal)),some (.ref 1),some (.int (m:Int)),some (.int ((RR.length + i:Nat):Int)),some z.av,x7,none] s
      = some (.nx [some (.int nn),some (.fz (gv.map Gv.av)),some (.fz (iL goal)),some (.ref 1),some (.int (m:Int)),some (.int ((RR.length + i:Nat):Int)),some z.av,some (.bl bb),none] s2):=by
     cases hze:z.eq with
     | true =>
      rw [hze,yI rfl] at e2;have xi:bM s z.av (.int 1)=some (.str "="):=by
       have:z.av=.tup [.fz (iL z.row),.str "=",.int z.num]:=by unfold Gv.av;rw [hze];rfl
       rw [this];rfl
      simp only [cO,zg,cF,cM,cu,cT,ie,bH,bU,bind_some,xi,map_some,Hd,ite_true,cN,aN,a0,du,cW,dO,e2,d5];rfl
     | false =>
      rw [hze,yH (by simp)] at e2;have xi:bM s z.av (.int 1)=some (.str ">"):=by
       have:z.av=.tup [.fz (iL z.row),.str ">",.int z.num]:=by unfold Gv.av;rw [hze];rfl
       rw [this];rfl
      simp only [cO,zg,cF,cM,cu,cT,ie,bH,bU,bind_some,xi,map_some,G0,yB,ite_false,cN,aN,a0,du,cW,dO,e2,d5];rfl
    cases bb with
    | true =>
     refine ⟨_,.nx [some (.int nn),some (.fz (gv.map Gv.av)),some (.fz (iL goal)),some (.ref 1),some (.int (m:Int)),some (.int ((RR.length + i:Nat):Int)),some z.av,some (.bl true),none] s2,rfl,bG es ?_,.inl ⟨_,s2,rfl,a2,rows2,S',_,_,_,rfl,R2,P2,hv⟩⟩;simp [fA,bD,dr]
    | false =>
     cases hv;obtain ⟨s3,s4,e3,e4,rfl⟩:=BV R2 P2 hp q.HA q.H oM q.hw oM h2;refine ⟨_,.rt (.tup [.str "never",.fz (iL (aM (mI S' w m (RR.length + i) HO)))]) s4,rfl,bG es ?_,.inr ⟨_,s4,rfl,rfl⟩⟩;rw [Int.natCast_add] at e3;simp [fA,bD,dr,e3,e4]) (sl:=[some (.int nn),some (.fz (gv.map Gv.av)),some (.fz (iL goal)),some (.ref 1),some (.int (m:Int)),none,none,none,none]) (st:=st1) ⟨2,_,_,none,none,none,rfl,R1,P1,h1⟩
 have ei:fR [bx,bR,be,aJ,ai,bt,bq,aS,ce] (.es (.v 1) (.bin .Sub (.v 4) (.bi .len (.cons (.v 1) .nil)))) [some (.int nn),some (.fz (gv.map Gv.av)),some (.fz (iL goal)),some (.ref 1),some (.int (m:Int)),none,none,none,none] st1=some (⟨bT RR.length (gv.map Gv.av),[]⟩,st1):=by
  have h1:(m:Int) - (gv.length:Int)=(RR.length:Int):=by omega
  have h2:Nat.ble RR.length 1000000=true:=yL oM;simp [uA,bC,dZ,h1];omega
 rcases loop with ⟨sl',st2,e2,a,rows,S,x5,x6,x7,rfl,R,P,hv⟩ | ⟨v,st2,e2,ht⟩
 ·rw [show (bT RR.length (gv.map Gv.av)).length=gv.length by unfold bT;simp,List.drop_length] at hv
  cases hv;refine bX (sl':=[some (.int nn),some (.fz (gv.map Gv.av)),some (.fz (iL goal)),some (.ref 1),some (.int (m:Int)),x5,x6,x7,none]) (st':=st2) (by rw [n8,ei,bind_some];exact e2) ?_;have h2:((jE w (m + 1) m N S).bind fun r=>match r with
   | (none,S')=>uo w m HO S'
   | (some q,S')=>uF w m q S')=some t:=h2
  obtain ⟨⟨oq,S2⟩,h3,h4⟩:=zA h2;obtain ⟨st3,a3,rows3,e3,R3,P3,hq⟩:=Cg oM oM oM h3 P R;cases oq with
  | none =>
   obtain ⟨st4,e4,h5⟩:=ye R3 P3 q.HA q.H oM q.hw oM h4;refine bX (sl':=[some (.int nn),some (.fz (gv.map Gv.av)),some (.fz (iL goal)),some (.ref 1),some (.int (m:Int)),x5,x6,x7,some .non]) (st':=st3) (by simp [R.ins,e3,oN]) ?_;exact ⟨(t,st4),by simp [e4],h5⟩
  | some qq =>
   have q1:=hq qq rfl;refine bX (sl':=[some (.int nn),some (.fz (gv.map Gv.av)),some (.fz (iL goal)),some (.ref 1),some (.int (m:Int)),x5,x6,x7,some (.int (qq:Int))]) (st':=st3) (by simp [R.ins,e3,oN]) ?_;have h4:uF w m qq S2=some t:=h4;unfold uF at h4;split at h4
   ·rename_i ok
    have O:=qu P3 ok;obtain ⟨X,T,st4,e4,rfl,hX,R4⟩:=zl R3 P3 O.pm O.b90 q.HA oM oM;obtain ⟨X2,st5,e5,hX2⟩:=FO R4 P3 O.pm O.b90 q.HA oM oM q1;rw [<- uB hX,<- uB hX2] at h4;cases h4;exact ⟨(_,st5),by simp [e4,e5];rfl,rfl⟩
   ·cases h4
 ·exact ⟨(v,st2),bY (by rw [n8,ei,bind_some];exact e2),ht⟩
end
end LW
namespace LW
open PySem PySem.Spec L2 R
open SX (gI LM)
theorem dB (hr:rfs args=true) (h:((fn args []).bind fun p=>eM p.2 p.1)=some t):pm fn args st=some (t,st):=by
 obtain ⟨p,h1,h2⟩:=zA h;exact bA hr h1 h2
theorem GZ {nn:Int}{grp:Nat} (h:(((cj [.int nn,.int grp,.int 0] []).bind fun p=>eM p.2 p.1).bind fun rr=>if rf rr=true then (dq [.int nn,rr] []).bind fun p=>eM p.2 p.1 else none)=some (.fz (iL l))) :
  ∃ rr,(∀ st,pm cj [.int nn,.int grp,.int 0] st=some (rr,st))/\∀ st,pm dq [.int nn,rr] st=some (.fz (iL l),st):=by
 obtain ⟨rr,h1,h2⟩:=zA h;split at h2
 ·rename_i hr
  exact ⟨rr,fun st=>dB rfl h1,fun st=>dB (by simp [hr]) h2⟩
 ·cases h2
noncomputable def RR4:List (List Int):=[[0,0,0,0,0,0,0,0,0,0,0,0,0,-1,1],[0,0,0,0,0,0,0,0,0,0,0,0,-1,0,1],[0,0,0,0,0,0,0,0,0,0,-1,0,0,0,1],[0,0,0,0,0,0,-1,0,0,0,0,0,0,0,1],[1,1,-1,0,0,0,0,0,0,0,0,0,0,0,0],[0,0,0,-1,1,1,-1,0,0,0,0,0,0,0,0],[0,0,0,0,0,0,0,-1,1,1,-1,0,0,0,0],[0,0,0,0,0,0,0,0,0,0,0,-1,1,1,-1],[1,0,0,1,-1,0,0,0,0,0,0,0,0,0,0],[0,-1,1,0,0,1,-1,0,0,0,0,0,0,0,0],[0,0,0,0,0,0,0,-1,1,0,0,1,-1,0,0],[0,0,0,0,0,0,0,0,0,-1,1,0,0,1,-1],[1,0,0,0,0,0,0,1,-1,0,0,0,0,0,0],[0,-1,1,0,0,0,0,0,0,1,-1,0,0,0,0],[0,0,0,-1,1,0,0,0,0,0,0,1,-1,0,0],[0,0,0,0,0,-1,1,0,0,0,0,0,0,1,-1],[0,1,0,1,0,-1,0,0,0,0,0,0,0,0,0],[-1,0,1,0,1,0,-1,0,0,0,0,0,0,0,0],[0,0,0,0,0,0,0,-1,0,1,0,1,0,-1,0],[0,0,0,0,0,0,0,0,-1,0,1,0,1,0,-1],[0,1,0,0,0,0,0,1,0,-1,0,0,0,0,0],[-1,0,1,0,0,0,0,0,1,0,-1,0,0,0,0],[0,0,0,-1,0,1,0,0,0,0,0,1,0,-1,0],[0,0,0,0,-1,0,1,0,0,0,0,0,1,0,-1],[0,0,0,1,0,0,0,1,0,0,0,-1,0,0,0],[-1,0,0,0,1,0,0,0,1,0,0,0,-1,0,0],[0,-1,0,0,0,1,0,0,0,1,0,0,0,-1,0],[0,0,-1,0,0,0,1,0,0,0,1,0,0,0,-1]]
noncomputable def wS:Nat->List Int
 | 1=>[1,0,0,0,1,0,0,0,0,1,0,0,0,0,0,1,0,0,0,0,0,0,0,0,0,0,0,0]
 | 2=>[0,1,0,0,1,0,0,0,0,0,0,0,0,0,0,0,0,1,0,0,0,0,0,1,0,0,0,0]
 | 3=>[1,1,0,0,1,0,0,0,0,1,0,0,0,0,0,1,0,1,0,0,0,0,0,1,0,0,0,0]
 | 4=>[0,0,1,0,0,0,0,0,1,0,0,0,0,0,0,0,0,1,0,0,0,0,0,0,0,0,0,1]
 | 5=>[1,0,1,0,1,0,0,0,0,1,0,0,0,0,0,1,0,1,0,0,0,0,0,0,0,0,0,1]
 | 6=>[0,1,1,0,1,0,0,0,0,1,0,0,0,0,0,0,0,1,0,0,0,0,0,1,0,0,0,1]
 | 7=>[1,1,1,0,1,0,0,0,0,1,0,0,0,0,0,1,0,1,0,0,0,0,0,1,0,0,0,1]
 | 8=>[0,0,0,1,0,0,0,0,0,0,0,0,1,0,0,0,0,0,0,0,0,1,0,0,0,0,0,1]
 | 9=>[1,0,0,1,1,0,0,0,0,1,0,0,0,0,0,1,0,0,0,0,0,1,0,0,0,0,0,1]
 | 10=>[0,1,0,1,1,0,0,0,0,0,0,0,0,1,0,0,0,1,0,0,0,0,0,1,0,0,0,1]
 | 11=>[1,1,0,1,1,0,0,0,0,1,0,0,0,0,0,1,0,1,0,0,0,0,0,1,0,0,0,1]
 | 12=>[0,0,1,1,0,0,0,0,1,0,0,0,0,0,1,0,0,1,0,0,0,0,0,1,0,0,0,1]
 | 13=>[1,0,1,1,1,0,0,0,0,1,0,0,0,0,0,1,0,1,0,0,0,0,0,1,0,0,0,1]
 | 14=>[0,1,1,1,1,0,0,0,0,1,0,0,0,0,0,1,0,1,0,0,0,0,0,1,0,0,0,1]
 | _=>[1,1,1,1,1,0,0,0,0,1,0,0,0,0,0,1,0,1,0,0,0,0,0,1,0,0,0,1]
theorem FI:∀ st,pm aj [.int 4] st=some (.int ((15:Nat):Int),st):=fun st=>dB rfl (by kernel_rfl)
theorem FH:∀ st,pm ar [.int 4] st=some (.fz (aB RR4),st):=fun st=>dB rfl (by kernel_rfl)
theorem IK:HOk 4 15 RR4.length wS:=by
 refine ⟨fun grp h1 h2=>?_,fun grp h1 h2=>?_,fun grp h1 h2=>?_⟩ <;> have:grp=1\/grp=2\/grp=3\/grp=4\/grp=5\/grp=6\/grp=7\/grp=8\/grp=9\/grp=10\/grp=11\/grp=12\/grp=13\/grp=14\/grp=15:=by omega
 ·rcases this with rfl | rfl | rfl | rfl | rfl | rfl | rfl | rfl | rfl | rfl | rfl | rfl | rfl | rfl | rfl <;> exact GZ (by kernel_rfl)
 ·rcases this with rfl | rfl | rfl | rfl | rfl | rfl | rfl | rfl | rfl | rfl | rfl | rfl | rfl | rfl | rfl <;> rfl
 ·rcases this with rfl | rfl | rfl | rfl | rfl | rfl | rfl | rfl | rfl | rfl | rfl | rfl | rfl | rfl | rfl <;> decide
end LW
namespace LW
open PySem PySem.Spec L2 R
noncomputable def lj:List Int:=List.replicate 15 0
noncomputable def IG:List Int:=List.replicate 28 0++[1]
noncomputable def D6:List (List Int × List Int):=[([-1,-1,1,0,1,1,-1,0,1,1,-1,-1,0,0,0],[2,2,3,2,3,3,4,2,3,3,4,4,4,4,4]),([-1,0,1,-1,1,1,-1,0,1,-1,0,1,-1,0,0],[2,2,3,2,3,3,4,2,3,4,4,3,4,4,4]),([-1,0,1,0,1,-1,0,-1,1,1,-1,1,-1,0,0],[2,2,3,2,3,4,4,2,3,3,4,3,4,4,4]),([0,-1,1,-1,1,1,-1,0,-1,1,0,1,0,-1,0],[2,2,3,2,3,3,4,2,4,3,4,3,4,4,4]),([0,-1,1,0,-1,1,0,-1,1,1,-1,1,0,-1,0],[2,2,3,2,4,3,4,2,3,3,4,3,4,4,4]),([0,0,-1,-1,1,1,0,-1,1,1,0,1,-1,-1,0],[2,2,4,2,3,3,4,2,3,3,4,3,4,4,4])]
def bT (d:List Int × List Int):AV:=.tup [.str "endless",.tup [.fz (iL lj),.int 1],.fz (iL d.2)]
def Ag:AV:=.tup [.str "least",.tup [.int 0,.int 1],.tup [.fz (iL lj),.int 1],.int 1,.fz (iL IG)]
def sA (d:List Int × List Int):AV:=.tup [.fz (iL d.1),.str ">",.int 0]
theorem JX:∀ d ∈ D6,uS 15 RR4 wS [] d.1 200=some (bT d):=by
 intro d hd;simp only [D6,zT,zX,or_false] at hd;rcases hd with rfl | rfl | rfl | rfl | rfl | rfl <;> kernel_rfl
theorem JW:∀ d ∈ D6,uS 15 RR4 wS [⟨d.1,false,0⟩] d.1 200=some Ag:=by
 intro d hd;simp only [D6,zT,zX,or_false] at hd;rcases hd with rfl | rfl | rfl | rfl | rfl | rfl <;> kernel_rfl
theorem iJ:∀ d ∈ D6,d.1.length=15/\d.2.length=15:=by decide
section
variable {st:aa}{d:List Int × List Int}
theorem Av (hd:d ∈ D6):pm bK [.int 4,.fz [],.fz (iL d.1)] st=some (bT d,st):=by
 obtain ⟨z,e4,e5⟩:=rD (nn:=4) (w:=15) (RR:=RR4) (HO:=wS) (gv:=[]) (goal:=d.1) ⟨FH,FI,IK,by decide,by simp,(iJ d hd).1,by decide,by decide,by simp⟩ (JX d hd);exact bA (by simp [rfs,rf,cG]) e4 e5
theorem HE (hd:d ∈ D6):pm bK [.int 4,.fz [sA d],.fz (iL d.1)] st=some (Ag,st):=by
 obtain ⟨z,e4,e5⟩:=rD (nn:=4) (w:=15) (RR:=RR4) (HO:=wS) (gv:=[⟨d.1,false,0⟩]) (goal:=d.1) ⟨FH,FI,IK,by decide,by simp [(iJ d hd).1],(iJ d hd).1,by decide,by decide,by simp⟩ (JW d hd);exact bA (by simp [rfs,rf,cG,sA]) e4 e5
end
def FS:LB->LB
 | .cons _ r=>r
 | s=>s
def iQ (d:List Int × List Int):AV:=.tup [.bl false,.tup [.fz (iL d.2),.int 1]]
def l7:AV:=.tup [.str "by",.int 1,.fz (iL IG)]
def Am:AV:=.tup [.bl true,.fz [l7]]
section
variable {st:aa}{d:List Int × List Int}
theorem Jx (hd:d ∈ D6):pm aW [.int 4,.fz (iL d.2)] st=some (.bl true,st):=by
 simp only [D6,zT,zX,or_false] at hd;rcases hd with rfl | rfl | rfl | rfl | rfl | rfl <;> exact dB rfl (by kernel_rfl)
theorem wj (hd:d ∈ D6):pm dY [.int 4,.fz [],.fz (iL d.1),bT d] st=some (.bl true,st):=by
 simp only [D6,zT,zX,or_false] at hd;rcases hd with rfl | rfl | rfl | rfl | rfl | rfl <;> exact dB rfl (by kernel_rfl)
theorem JM (hd:d ∈ D6):pm aQ [.int 4,.fz [],sA d,iQ d] st=some (.bl true,st):=by
 simp only [D6,zT,zX,or_false] at hd;rcases hd with rfl | rfl | rfl | rfl | rfl | rfl <;> exact dB rfl (by kernel_rfl)
theorem JL (hd:d ∈ D6):pm aQ [.int 4,.fz [sA d],sA d,Am] st=some (.bl true,st):=by
 simp only [D6,zT,zX,or_false] at hd;rcases hd with rfl | rfl | rfl | rfl | rfl | rfl <;> exact dB rfl (by kernel_rfl)
theorem EB:∀ d ∈ D6,aM (d.2++[1])=d.2++[1]/\∀ x ∈ d.2,x.natAbs < 10:=by decide +kernel
theorem IQ (hd:d ∈ D6):pm cJ [.tup [.fz (iL lj),.int 1],.fz (iL d.2),.fz (iL d.1),.int 0] st=some (.tup [.fz (iL d.2),.int 1],st):=by
 obtain ⟨l1,l2⟩:=EB d hd;have e1:=vX (X:=d.2) (d:=1) (by rw [(iJ d hd).2];decide) (fun x hx=>Nat.lt_trans (l2 x hx) (by
  have:2 ^ 4 < 2 ^ 9000:=Nat.pow_lt_pow_right dC dC;omega)) (zJ (show (1:Int).natAbs < 2 ^ 1 by decide) (Nat.pow_le_pow_right dC dC))
 rw [l1,List.take_left',show SX.gI (d.2++[1]) d.2.length=1 by simp [SX.gI]] at e1
 ·have e2:pm bI [.fz (iL d.2),.int 1] []=some (.tup [.fz (iL d.2),.int 1],[]):=bA (by simp [rfs,rf,cG]) e1 rfl
  refine bA (by simp [rfs,rf,cG]) (v:=.tup [.fz (iL d.2),.int 1]) (st':=[]) ?_ rfl;rw [cJ,aD];unfold gN;refine ag (sl':=[some (.tup [.fz (iL lj),.int 1]),some (.fz (iL d.2)),some (.fz (iL d.1)),some (.int 0),some (.int 1),none,none,none]) (st':=[]) rfl ?_;refine ag (sl':=[some (.tup [.fz (iL lj),.int 1]),some (.fz (iL d.2)),some (.fz (iL d.1)),some (.int 0),some (.int 1),some (.int 0),none,none]) (st':=[]) ?_ ?_
  ·simp only [D6,zT,zX,or_false] at hd
   rcases hd with rfl | rfl | rfl | rfl | rfl | rfl <;> kernel_rfl
  refine ag (sl':=[some (.tup [.fz (iL lj),.int 1]),some (.fz (iL d.2)),some (.fz (iL d.1)),some (.int 0),some (.int 1),some (.int 0),some (.int 1),none]) (st':=[]) ?_ ?_
  ·simp only [D6,zT,zX,or_false] at hd
   rcases hd with rfl | rfl | rfl | rfl | rfl | rfl <;> kernel_rfl
  refine ag (sl':=[some (.tup [.fz (iL lj),.int 1]),some (.fz (iL d.2)),some (.fz (iL d.1)),some (.int 0),some (.int 1),some (.int 0),some (.int 1),some (.int 1)]) (st':=[]) (by kernel_rfl) (bY ?_);have e3:ev [b0,bI] (.nw false (.lc 2 (.zi (.ix (.v 0) (.i 0)) (.v 1)) (.tu 2 (.cons (.nm 8) (.cons (.nm 9) .nil))) .no (.bin .Add (.v 8) (.bin .Mult (.bin .Mult (.v 7) (.v 4)) (.v 9))))) [some (.tup [.fz (iL lj),.int 1]),some (.fz (iL d.2)),some (.fz (iL d.1)),some (.int 0),some (.int 1),some (.int 0),some (.int 1),some (.int 1)] []=some (.fz (iL d.2),[]):=by
   simp only [D6,zT,zX,or_false] at hd;rcases hd with rfl | rfl | rfl | rfl | rfl | rfl <;> kernel_rfl
  simp [-dy,e3,e2]
 ·rfl
theorem IP (hd:d ∈ D6):pm bz [.int 4,.fz [],.fz (iL d.1),.int 0] st=some (iQ d,st):=by
 refine bA (by simp [rfs,rf,cG]) (v:=iQ d) (st':=[]) ?_ rfl;rw [bz,aD];unfold c9;refine ag (sl':=[some (.int 4),some (.fz []),some (.fz (iL d.1)),some (.int 0),some (bT d)]) (st':=[]) (by simp [Av hd]) (ag (sl':=[some (.int 4),some (.fz []),some (.fz (iL d.1)),some (.int 0),some (bT d)]) (st':=[]) (by kernel_rfl) (bY ?_));rw [cZ,show tv [bK,cJ] (.cmp .Eq (.ix (.v 4) (.i 0)) (.s "endless")) [some (.int 4),some (.fz []),some (.fz (iL d.1)),some (.int 0),some (bT d)] []=some (true,[]) by kernel_rfl,bind_some];dsimp only;rw [yI rfl];refine pO ?_;have e:=IQ (st:=[]) hd;simp [bT,show bM ([]:aa) (.tup [.str "endless",.tup [.fz (iL lj),.int 1],.fz (iL d.2)]) (.int 1)=some (.tup [.fz (iL lj),.int 1]) from rfl,show bM ([]:aa) (.tup [.str "endless",.tup [.fz (iL lj),.int 1],.fz (iL d.2)]) (.int 2)=some (.fz (iL d.2)) from rfl,e,iQ]
theorem IN (hd:d ∈ D6):pm bz [.int 4,.fz [sA d],.fz (iL d.1),.int 0] st=some (.tup [.bl true,l7],st):=by
 have h:((ak [bK,cJ] (FS c9) [some (.int 4),some (.fz [sA d]),some (.fz (iL d.1)),some (.int 0),some Ag] []).bind aE)=some (.tup [.bl true,l7],[]):=by
  kernel_rfl
 refine bA (by simp [rfs,rf,cG,sA]) (v:=.tup [.bl true,l7]) (st':=[]) ?_ rfl;rw [bz,aD];unfold c9;refine ag (sl':=[some (.int 4),some (.fz [sA d]),some (.fz (iL d.1)),some (.int 0),some Ag]) (st':=[]) ?_ h;simp [HE hd]
theorem Cy:pm bV [sA d] st=some (.fz [sA d],st):=dB (by simp [rfs,rf,cG,sA]) (by kernel_rfl)
theorem JK (hd:d ∈ D6):pm b9 [.int 4,.fz [],sA d] st=some (iQ d,st):=by
 refine bA (by simp [rfs,rf,cG,sA]) (v:=iQ d) (st':=[.lst []]) ?_ rfl;rw [b9,aD];unfold ja;refine ag (sl':=[some (.int 4),some (.fz []),some (sA d),some (.ref 0),none,none,none,none]) (st':=[.lst []]) rfl (bY ?_);rw [n8,show fR [bV,bz] (.e (.ca true 0 (.cons (.v 2) .nil))) [some (.int 4),some (.fz []),some (sA d),some (.ref 0),none,none,none,none] [.lst []]=some (⟨[sA d],[]⟩,[.lst []]) by simp [Cy],bind_some];refine (kO (p:=([some (.int 4),some (.fz []),some (sA d),some (.ref 0),some (.fz (iL d.1)),some (.str ">"),some (.int 0),none],[.lst []])) (o:=.rt (iQ d) [.lst []]) rfl rfl ?_).trans rfl;refine bG (sl':=[some (.int 4),some (.fz []),some (sA d),some (.ref 0),some (.fz (iL d.1)),some (.str ">"),some (.int 0),some (iQ d)]) (st':=[.lst []]) ?_ (pO ?_)
 ·simp [IP hd]
 ·simp [iQ,fA,dr];rfl
theorem JJ (hd:d ∈ D6):pm b9 [.int 4,.fz [sA d],sA d] st=some (Am,st):=by
 refine bA (by simp [rfs,rf,cG,sA]) (v:=.tup [.bl true,.ref 0]) (st':=[.lst [l7]]) ?_ rfl;rw [b9,aD];unfold ja;refine ag (sl':=[some (.int 4),some (.fz [sA d]),some (sA d),some (.ref 0),none,none,none,none]) (st':=[.lst []]) rfl (ag (sl':=[some (.int 4),some (.fz [sA d]),some (sA d),some (.ref 0),some (.fz (iL d.1)),some (.str ">"),some (.int 0),some (.tup [.bl true,l7])]) (st':=[.lst [l7]]) ?_ (bY rfl));rw [n8,show fR [bV,bz] (.e (.ca true 0 (.cons (.v 2) .nil))) [some (.int 4),some (.fz [sA d]),some (sA d),some (.ref 0),none,none,none,none] [.lst []]=some (⟨[sA d],[]⟩,[.lst []]) by simp [Cy],bind_some];refine (kO (p:=([some (.int 4),some (.fz [sA d]),some (sA d),some (.ref 0),some (.fz (iL d.1)),some (.str ">"),some (.int 0),none],[.lst []])) (o:=.nx [some (.int 4),some (.fz [sA d]),some (sA d),some (.ref 0),some (.fz (iL d.1)),some (.str ">"),some (.int 0),some (.tup [.bl true,l7])] [.lst [l7]]) rfl rfl ?_).trans rfl;refine bG (sl':=[some (.int 4),some (.fz [sA d]),some (sA d),some (.ref 0),some (.fz (iL d.1)),some (.str ">"),some (.int 0),some (.tup [.bl true,l7])]) (st':=[.lst []]) ?_ ?_
 ·simp [IN hd]
 ·rfl
end
def qg (r1 r2 r3 r4:Nat):List Nat :=
 let l1:=[0,1,2,3];let l2:=l1.eraseIdx r1;let l3:=l2.eraseIdx r2;let l4:=l3.eraseIdx r3
 [l1.getD r1 0,l2.getD r2 0,l3.getD r3 0,l4.getD r4 0]
def pF (o:List Nat):Bool:=D6.any fun d=>(match (bS (nL o) []).bind fun p=>eM p.2 p.1 with | some x=>cA x (.fz (iL d.1)) | none=>false) && (match (bu (nL o) []).bind fun p=>eM p.2 p.1 with | some x=>cA x (.fz (iL d.2)) | none=>false)
theorem yt:∀ r1,r1 < 4->∀ r2,r2 < 3->∀ r3,r3 < 2->∀ r4,r4 < 1->pF (qg r1 r2 r3 r4)=true:=by
 have h:((List.range 4).all fun r1=>(List.range 3).all fun r2=>(List.range 2).all fun r3=>(List.range 1).all fun r4=>pF (qg r1 r2 r3 r4))=true:=by kernel_rfl
 intro r1 h1 r2 h2 r3 h3 r4 h4;exact yP.mp (yP.mp (yP.mp (yP.mp h r1 (List.mem_range.mpr h1)) r2 (List.mem_range.mpr h2)) r3 (List.mem_range.mpr h3)) r4 (List.mem_range.mpr h4)
theorem Fa {o:List Nat} (h:pF o=true):∃ d ∈ D6,∀ st,pm bS (nL o) st=some (.fz (iL d.1),st)/\pm bu (nL o) st=some (.fz (iL d.2),st):=by
 unfold pF at h;obtain ⟨d,hd,h⟩:=List.any_eq_true.mp h;rw [zC] at h;obtain ⟨h1,h2⟩:=h;refine ⟨d,hd,fun st=>⟨?_,?_⟩⟩
 ·split at h1
  ·rename_i x e
   rw [lJ h1] at e;exact dB ik e
  ·cases h1
 ·split at h2
  ·rename_i x e
   rw [lJ h2] at e;exact dB ik e
  ·cases h2
section
variable {st:aa}
theorem mV {a b:Int} (h:a.natAbs < 2 ^ 62):cH a b=true:=by
 unfold cH;have:Nat.ble a.natAbs.log2 62=true:=yL (by
  by_cases hz:a.natAbs=0
  ·rw [hz];decide
  ·exact yW ((Nat.log2_lt hz).mpr h))
 rw [this];simp
theorem mU {a b:Int} (h:b.natAbs < 2 ^ 62):cH a b=true:=by
 unfold cH;have:Nat.ble b.natAbs.log2 62=true:=yL (by
  by_cases hz:b.natAbs=0
  ·rw [hz];decide
  ·exact yW ((Nat.log2_lt hz).mpr h))
 rw [this];simp
theorem nv {a b:Int} (h:0 < b):qR a b=a % b:=yI h
theorem Ha {a b:Int} (h:0 < b):sY a b=a / b:=yI h
theorem kJ {a:Int}{b:Nat} (h:0 < b):∃ r:Nat,a % (b:Int)=(r:Int)/\r < b:=by
 have h1:=Int.emod_nonneg a (b:=(b:Int)) oM;have h2:=Int.emod_lt_of_pos a (b:=(b:Int)) oM;exact ⟨(a % (b:Int)).toNat,by omega,by omega⟩
theorem zv:gh .Pow st (.int 10) (.int 18)=some (.int 1000000000000000000):=by kernel_rfl
theorem Jo:gh .Pow st (.int 10) (.int 6)=some (.int 1000000):=by kernel_rfl
theorem bN {ks:List Fn}{s:Sx}{ss:LB}{sl sl':Sl}{st':aa}{P:AV × aa->Prop} (h:cL ks s sl st=some (.nx sl' st')) (h2:∃ r,(ak ks ss sl' st').bind aE=some r/\P r):∃ r,(ak ks (.cons s ss) sl st).bind aE=some r/\P r:=bX h h2
theorem fX {ks:List Fn}{s:Sx}{ss:LB}{sl:Sl}{v:AV}{st':aa}{P:AV × aa->Prop} (h:cL ks s sl st=some (.rt v st')) (hp:P (v,st')):∃ r,(ak ks (.cons s ss) sl st).bind aE=some r/\P r:=⟨_,bY h,hp⟩
theorem vB {ns:List Int}{k:Nat}:∃ a b c:Int,bj [.fz (iL ns),.int (k:Int)] st=some (.ref st.length,st++[.lst [.int a,.int b,.int c]]):=by
 have key:∃ r,bj [.fz (iL ns),.int (k:Int)] st=some r/\∃ a b c:Int,r=(.ref st.length,st++[.lst [.int a,.int b,.int c]]):=by
  rw [bj,aD];show ∃ r,(ak [] ji [some (.fz (iL ns)),some (.int (k:Int)),none] st).bind aE=some r/\_;refine bX (sl':=[some (.fz (iL ns)),some (.int (k:Int)),some (.int 0)]) (st':=st) rfl ?_;obtain ⟨b,hb⟩:∃ b:Int,cL [] (.iff (.cmp .Lt (.v 1) (.bi .len (.cons (.v 0) .nil))) (.cons (.as (.ix (.v 0) (.v 1)) (.nm 2)) .nil) .nil) [some (.fz (iL ns)),some (.int (k:Int)),some (.int 0)] st=some (.nx [some (.fz (iL ns)),some (.int (k:Int)),some (.int b)] st):=by
   by_cases h:k < ns.length
   ·refine ⟨SX.gI ns k,?_⟩
    have xi:bM st (.fz (iL ns)) (.int (k:Int))=some (.int (SX.gI ns k)):=by rw [cg hU,db,cw h]
    simp [bC,dZ,h,xi]
   ·exact ⟨0,by simp [bC,dZ,h]⟩
  refine bX hb ?_;have m97:cH 97 (k:Int)=true:=mV dC;by_cases h1:1000000000000000000 <= (if b < 0 then -b else b)
  ·have m1:cH b 1=true:=mU dC
   exact fX (v:=.ref st.length) (st':=st++[.lst [.int (b * 1),.int b,.int (97 * (k:Int))]]) (by simp [bC,mF,zv,h1,ot,cq m1,cq m97,bv]) ⟨_,_,_,rfl⟩
  ·have m1:cH b 0=true:=mU dC
   exact fX (v:=.ref st.length) (st':=st++[.lst [.int (b * 0),.int b,.int (97 * (k:Int))]]) (by simp [bC,mF,zv,h1,ot,cq m1,cq m97,bv]) ⟨_,_,_,rfl⟩
 obtain ⟨r,e,a,b,c,rfl⟩:=key;exact ⟨a,b,c,e⟩
theorem BY {b c:Int}:∃ m:Int,pm cY [.int b,.int c] st=some (.int m,st):=by
 obtain ⟨x,hx,x2⟩:=kJ (a:=b) (b:=2147483647) dC;obtain ⟨y,hy,y2⟩:=kJ (a:=(x:Int) * 48271 + c * 69621 + 11) (b:=2147483647) dC;obtain ⟨z,hz,z2⟩:=kJ (a:=(y:Int) * (y:Int)) (b:=2147483629) dC;have two:(2:Nat) ^ 62=4611686018427387904:=by decide
 have m1:cH (x:Int) 48271=true:=mU dC;have m2:cH c 69621=true:=mU dC;have m3:cH (y:Int) (y:Int)=true:=mV oM;have m4:cH (z:Int) (z:Int)=true:=mV oM;have hx:b % 2147483647=(x:Int):=hx;have hy:((x:Int) * 48271 + c * 69621 + 11) % 2147483647=(y:Int):=hy;have hz:((y:Int) * (y:Int)) % 2147483629=(z:Int):=hz;have n1:(2147483647:Int) ≠ 0:=by decide
 have n2:(2147483629:Int) ≠ 0:=by decide
 have n3:(2147483587:Int) ≠ 0:=by decide
 have p1:(0:Int) < 2147483647:=by decide
 have p2:(0:Int) < 2147483629:=by decide
 have p3:(0:Int) < 2147483587:=by decide
 refine ⟨(z:Int) * (z:Int) % 2147483587,bA rfl (v:=.int ((z:Int) * (z:Int) % 2147483587)) (st':=[]) ?_ rfl⟩;rw [cY,aD];unfold iH;refine ag (sl':=[some (.int b),some (.int c),some (.int (y:Int))]) (st':=[]) (by simp [cq m1,cq m2,lK n1,nv p1,hx,hy]) (ag (sl':=[some (.int b),some (.int c),some (.int (z:Int))]) (st':=[]) (by simp [cq m3,lK n2,nv p2,hz]) (bY ?_));simp [cq m4,lK n3,nv p3]
end
section
variable {st:aa}
theorem ET {a:Int}:cE .In st (.int a) (.fz [.int 0,.int (-1)])=some (decide (a=0) || decide (a=-1)):=by
 change oT st (.int a) (.fz [.int 0,.int (-1)])=_;change (if ([PyData.int 0,PyData.int (-1)]).all (fun r=>DD.pyOk r (PyData.int a))=true then some (([PyData.int 0,PyData.int (-1)]).any fun r=>r.eqv (PyData.int a)) else none)=_;rw [yI (by simp [DD.pyOk,PyData.canLay0,PyData.depth])];congr 1;change ((0 == a) || ((-1 == a) || false))=_;rw [Bool.or_false,Bool.eq_iff_iff];simp only [Bool.or_eq_true,beq_iff_eq,yC];omega
theorem Im {p:Nat}{a b c:AV} (h:st[p]?=some (.lst [a,b,c])):bM st (.ref p) (.int 0)=some a/\bM st (.ref p) (.int 1)=some b/\bM st (.ref p) (.int 2)=some c:=by
 refine ⟨?_,?_,?_⟩
 ·rw [cg (ba h)];rfl
 ·rw [cg (ba h)];rfl
 ·rw [cg (ba h)];rfl
theorem u9 {p:Nat}{a b c:Int}{m:Nat} (hm:0 < m) (hm2:m < 2 ^ 62) (hp:st[p]?=some (.lst [.int a,.int b,.int c])):∃ r:Nat,r < m/\∃ a' c':Int,aF [.ref p,.int (m:Int)] st=some (.int (r:Int),st.set p (.lst [.int a',.int b,.int c'])):=by
 have key:∃ z,aF [.ref p,.int (m:Int)] st=some z/\∃ r:Nat,r < m/\∃ a' c':Int,z=(.int (r:Int),st.set p (.lst [.int a',.int b,.int c'])):=by
  obtain ⟨i0,i1,i2⟩:=Im hp;have m0:(m:Int) ≠ 0:=by omega
  have mp:(0:Int) < (m:Int):=by omega
  rw [aF,aD];show ∃ z,(ak [cY] jh [some (.ref p),some (.int (m:Int)),none] st).bind aE=some z/\_;have nf:ev [cY] (.nw false (.li (.cons (.i 0) (.cons (.un .USub (.i 1)) .nil)))) [some (.ref p),some (.int (m:Int)),none] st=some (.fz [.int 0,.int (-1)],st):=rfl;by_cases ha:a=0\/a=-1
  ·have hp':(st.set p (.lst [.int a,.int b,.int (c + 1)]))[p]?=some (.lst [.int a,.int b,.int (c + 1)]):=dP hp
   obtain ⟨j0,j1,j2⟩:=Im hp';obtain ⟨w,hw⟩:=BY (st:=st.set p (.lst [.int a,.int b,.int (c + 1)])) (b:=b) (c:=c + 1);obtain ⟨r,hr,hr2⟩:=kJ (a:=w) (b:=m) hm;refine fX (v:=.int (r:Int)) (st':=st.set p (.lst [.int a,.int b,.int (c + 1)])) ?_ ⟨r,hr2,a,c + 1,rfl⟩;have sa:ii st (.ref p) (.int 2) (.int (c + 1))=some (st.set p (.lst [.int a,.int b,.int (c + 1)])):=c8 (q:=2) hp (by simp);rw [cZ,cF];simp only [cM,cu,cT,bH,bind_some,i0,map_some,nf,ET];rw [show (decide (a=0) || decide (a=-1))=true by simpa using ha,yI rfl];refine bG (sl':=[some (.ref p),some (.int (m:Int)),none]) (st':=st.set p (.lst [.int a,.int b,.int (c + 1)])) ?_ (pO ?_)
   ·simp only [cO,gq,cM,cu,cT,bH,bind_some,i2,map_some,uO,EX,sa]
   ·simp only [pY,gq,cN,aN,a0,cM,cu,cT,bH,bU,bind_some,j1,j2,map_some,cP,cW,hw,lK m0,nv mp,hr]
  ·obtain ⟨r,hr,hr2⟩:=kJ (a:=a) (b:=m) hm
   have sa:ii st (.ref p) (.int 0) (.int (a / (m:Int)))=some (st.set p (.lst [.int (a / (m:Int)),.int b,.int c])):=c8 (q:=0) hp (by simp);have dv:jQ (m:Int)=true:=qX m0 (zJ (by rw [Int.natAbs_natCast];exact hm2) (Nat.pow_le_pow_right dC dC));refine bN (sl':=[some (.ref p),some (.int (m:Int)),none]) (st':=st) ?_ (bN (sl':=[some (.ref p),some (.int (m:Int)),some (.int (r:Int))]) (st':=st) ?_ (bN (sl':=[some (.ref p),some (.int (m:Int)),some (.int (r:Int))]) (st':=st.set p (.lst [.int (a / (m:Int)),.int b,.int c])) ?_ (fX (v:=.int (r:Int)) (st':=st.set p (.lst [.int (a / (m:Int)),.int b,.int c])) rfl ⟨r,hr2,_,_,rfl⟩)))
   ·rw [cZ,cF]
    simp only [cM,cu,cT,bH,bind_some,i0,map_some,nf,ET];rw [show (decide (a=0) || decide (a=-1))=false by
     have h1:a ≠ 0:=fun h=>ha (.inl h)
     have h2:a ≠ -1:=fun h=>ha (.inr h)
     simp [h1,h2]]
    rfl
   ·simp only [cO,gq,cM,cu,cT,bH,bU,bind_some,i0,map_some,lK m0,nv mp,hr,d5];rfl
   ·simp only [cO,gq,cM,cu,cT,bH,bU,bind_some,i0,map_some,pG dv,Ha mp,EX,sa]
 obtain ⟨z,e,r,h1,a',c',rfl⟩:=key;exact ⟨r,h1,a',c',e⟩
end
section
variable {st:aa}
theorem B3 {q:Nat}{xs:List AV} (h:st[q]?=some (.lst xs)):bC dZ [.ref q] st=some (.int (xs.length:Int),st):=by
 simp [bC,dZ,ba h]
theorem Ko {n q:Nat} (h:q < n):jv n (q:Int)=some q:=by unfold jv;rw [yI oM,yI oM];simp
theorem F4 {r:Nat} (h:r < 1000):eZ (r:Int)=true:=by
 unfold eZ;refine yL ?_;rw [Int.natAbs_natCast];by_cases hz:r=0
 ·subst hz;decide
 ·exact yW ((Nat.log2_lt hz).mpr (zJ h dC))
theorem CB {q:Nat}{xs:List AV} (h:st[q]?=some (.lst xs)):pR "list" st (.ref q)=true:=by
 simp [pR,ba h]
theorem GB:∀ {l:List Nat}{r:Nat},(nL l).eraseIdx r=nL (l.eraseIdx r):=by
 intro l
 induction l with
 | nil=>intro r;rfl
 | cons x l ih =>
  intro r;cases r with
  | zero=>rfl
  | succ r=>exact congrArg (AV.int (x:Int)::·) ih
theorem pB {p q t:Nat}{a b c:Int}{L D:List Nat}{y:AV} (hpq:p ≠ q) (hpt:p ≠ t) (hqt:q ≠ t) (hp:st[p]?=some (.lst [.int a,.int b,.int c])) (hq:st[q]?=some (.lst (nL L))) (ht:st[t]?=some (.lst (nL D))) (h0:0 < L.length) (h1:L.length <= 4) (h2:D.length <= 10):∃ r,r < L.length/\∃ (st':aa) (a' c':Int),ak [aF] (.cons (.ex (.mt .app (.v 3) (.cons (.mt .popA (.v 2) (.cons (.ca false 0 (.cons (.v 0) (.cons (.bi .len (.cons (.v 2) .nil)) .nil))) .nil)) .nil))) .nil) [some (.ref p),some y,some (.ref q),some (.ref t)] st=some (.nx [some (.ref p),some y,some (.ref q),some (.ref t)] st')/\st'[p]?=some (.lst [.int a',.int b,.int c'])/\st'[q]?=some (.lst (nL (L.eraseIdx r)))/\st'[t]?=some (.lst (nL (D++[L.getD r 0]))):=by
 obtain ⟨r,hr,a',c',e⟩:=u9 (st:=st) (p:=p) (m:=L.length) h0 (yM h1 dC) hp;have q1:(st.set p (.lst [.int a',.int b,.int c']))[q]?=some (.lst (nL L)):=by rw [ao hpq];exact hq
 have t1:(st.set p (.lst [.int a',.int b,.int c']))[t]?=some (.lst (nL D)):=by rw [ao hpt];exact ht
 have t2:((st.set p (.lst [.int a',.int b,.int c'])).set q (.lst (nL (L.eraseIdx r))))[t]?=some (.lst (nL D)):=by rw [ao hqt];exact t1
 refine ⟨r,hr,((st.set p (.lst [.int a',.int b,.int c'])).set q (.lst (nL (L.eraseIdx r)))).set t (.lst (nL (D++[L.getD r 0]))),a',c',bG (sl':=[some (.ref p),some y,some (.ref q),some (.ref t)]) (st':=((st.set p (.lst [.int a',.int b,.int c'])).set q (.lst (nL (L.eraseIdx r)))).set t (.lst (nL (D++[L.getD r 0])))) ?_ rfl,?_,?_,?_⟩
 ·have e1:ev [aF] (.ca false 0 (.cons (.v 0) (.cons (.bi .len (.cons (.v 2) .nil)) .nil))) [some (.ref p),some y,some (.ref q),some (.ref t)] st=some (.int (r:Int),st.set p (.lst [.int a',.int b,.int c'])):=by
   simp only [cN,aN,a0,tH,cu,bH,bU,bind_some,wE,B3 hq,ju,du,cW,e]
  have e2:ev [aF] (.mt .popA (.v 2) (.cons (.ca false 0 (.cons (.v 0) (.cons (.bi .len (.cons (.v 2) .nil)) .nil))) .nil)) [some (.ref p),some y,some (.ref q),some (.ref t)] st=some (.int ((L.getD r 0:Nat):Int),(st.set p (.lst [.int a',.int b,.int c'])).set q (.lst (nL (L.eraseIdx r)))):=by
   rw [Cv];unfold mh;rw [cu,show aV 2 [some (AV.ref p),some y,some (.ref q),some (.ref t)] st=some (.ref q,st) from rfl,bind_some];dsimp only;rw [show qA .popA="list" from rfl,yI (CB hq),aN,e1,bind_some,a0,bind_some,bind_some];show mY (.ref q) [.int (r:Int)] (st.set p (.lst [.int a',.int b,.int c']))=_;unfold mY hZ;simp only [q1,bind_some,F4 (show r < 1000 by omega),_root_.if_true,ju,Ko hr,fZ hr,map_some,GB]
  rw [xk,Cv];unfold mh;rw [cu,show aV 3 [some (AV.ref p),some y,some (.ref q),some (.ref t)] st=some (.ref t,st) from rfl,bind_some];dsimp only;rw [show qA .app="list" from rfl,yI (CB ht),aN,e2,bind_some,a0,bind_some,bind_some];show (oi (.ref t) [.int ((L.getD r 0:Nat):Int)] _).bind _=_;have e3:nL D++[AV.int ((L.getD r 0:Nat):Int)]=nL (D++[L.getD r 0]):=by unfold nL;simp
  unfold oi hZ;simp only [t2,bind_some,ju,cp (show D.length <= 1000 by omega),_root_.if_true,e3]
 ·rw [ao (Ne.symm hpt),ao (Ne.symm hpq)];exact dP hp
 ·rw [ao (Ne.symm hqt)];exact dP q1
 ·exact dP t2
theorem Jn {q:Nat}{l:List Nat} (h:st[q]?=some (.lst (nL l))):dA 9 st (.ref q)=some (.list (l.map fun z:Nat=>PyData.int (z:Int))):=by
 have:bJ (dA 8 st) (nL l)=some (l.map fun z:Nat=>PyData.int (z:Int)):=jK (f:=dA 8 st) (i:=fun z:Nat=>AV.int (z:Int)) (g:=fun z:Nat=>PyData.int (z:Int)) (fun _=>rfl) l;unfold dA;simp only [h,this,map_some]
theorem Jq {q:Nat}{l:List Nat} (h:st[q]?=some (.lst (nL l))):cE .NotEq st (.ref q) (.fz [])=some (!l.isEmpty):=by
 change (oX st (.ref q) (.fz [])).map (fun b=>!b)=_;have lk:(PyData.list (l.map fun q:Nat=>PyData.int (q:Int))).canLay0=true/\(PyData.list (l.map fun q:Nat=>PyData.int (q:Int))).depth <= 1:=by
  have:PyData.canLayAll0 (l.map fun q:Nat=>PyData.int (q:Int))=true/\PyData.depthAll (l.map fun q:Nat=>PyData.int (q:Int)) <= 0:=by
   clear h
   induction l with
   | nil=>exact ⟨rfl,zP _⟩
   | cons x l ih=>exact ⟨by simp only [zO,PyData.canLayAll0,PyData.canLay0,ih.1,Bool.and_self],by simp only [zO,PyData.depthAll,PyData.depth];omega⟩
  exact ⟨by simp only [PyData.canLay0,this.1],by simp only [PyData.depth];omega⟩
 unfold oX;rw [Jn h,bind_some,show dA 9 st (.fz [])=some (.list []) from rfl,bind_some,yI (by unfold DD.pyOk;rw [lk.1,yT (by have:=lk.2;omega)];rfl)];cases l <;> simp [PyData.eqv,PyData.eqvAll]
theorem BI {p:Nat}{a b c:Int} (hp:st[p]?=some (.lst [.int a,.int b,.int c])):∃ r1 r2 r3 r4,(r1 < 4/\r2 < 3/\r3 < 2/\r4 < 1)/\∃ t st',bh [.ref p,.int 4] st=some (.ref t,st')/\st'[t]?=some (.lst (nL (qg r1 r2 r3 r4))):=by
 have key:∃ z,bh [.ref p,.int 4] st=some z/\∃ r1 r2 r3 r4,(r1 < 4/\r2 < 3/\r3 < 2/\r4 < 1)/\∃ t st',z=(.ref t,st')/\st'[t]?=some (.lst (nL (qg r1 r2 r3 r4))):=by
  rw [bh,aD];show ∃ z,(ak [aF] iG [some (.ref p),some (.int 4),none,none] st).bind aE=some z/\_;have pl:p < st.length:=(zB.mp hp).1;refine bN (sl':=[some (.ref p),some (.int 4),some (.ref st.length),none]) (st':=st++[.lst (nL [0,1,2,3])]) rfl ?_;refine bN (sl':=[some (.ref p),some (.int 4),some (.ref st.length),some (.ref (st.length + 1))]) (st':=(st++[.lst (nL [0,1,2,3])])++[.lst (nL [])]) (by
   rw [cO,wY];show some (Out.nx [some (AV.ref p),some (.int 4),some (.ref st.length),some (.ref (st++[Ly.lst (nL [0,1,2,3])]).length)] _)=_;rw [zV];rfl) ?_
  obtain ⟨sl,hsl⟩:∃ sl:Sl,sl=[some (.ref p),some (.int 4),some (.ref st.length),some (.ref (st.length + 1))]:=⟨_,rfl⟩;rw [<- hsl];have hp0:((st++[Ly.lst (nL [0,1,2,3])])++[.lst (nL [])])[p]?=some (.lst [.int a,.int b,.int c]):=ga (ga hp);have hq0:((st++[Ly.lst (nL [0,1,2,3])])++[.lst (nL [])])[st.length]?=some (.lst (nL [0,1,2,3])):=ga gl;have ht0:((st++[Ly.lst (nL [0,1,2,3])])++[.lst (nL [])])[st.length + 1]?=some (.lst (nL [])):=by
   have:=gl (st:=st++[Ly.lst (nL [0,1,2,3])]) (e:=Ly.lst (nL []))
   rwa [zV] at this
  have tt:∀ {s:aa}{l:List Nat},s[st.length]?=some (.lst (nL l))->tv [aF] (.cmp .NotEq (.v 2) (.nw false (.li .nil))) sl s=some (!l.isEmpty,s):=fun {s l} h=>by
   rw [hsl,cF,cu,show aV 2 [some (AV.ref p),some (.int 4),some (.ref st.length),some (.ref (st.length + 1))] s=some (.ref st.length,s) from rfl,bind_some,show ev [aF] (.nw false (.li .nil)) [some (AV.ref p),some (.int 4),some (.ref st.length),some (.ref (st.length + 1))] s=some (.fz [],s) from rfl,bind_some];dsimp only;rw [Jq h];rfl
  obtain ⟨r1,h1,s1,a1,c1,x1,p1,q1,t1⟩:=pB (y:=.int 4) oM oM oM hp0 hq0 ht0 dC dC dC;have l1:([0,1,2,3].eraseIdx r1).length=3:=by rw [List.length_eraseIdx,yI h1];rfl
  obtain ⟨r2,h2,s2,a2,c2,x2,p2,q2,t2⟩:=pB (y:=.int 4) oM oM oM p1 q1 t1 oM oM (by simp);have l2:(([0,1,2,3].eraseIdx r1).eraseIdx r2).length=2:=by rw [List.length_eraseIdx,yI h2,l1]
  obtain ⟨r3,h3,s3,a3,c3,x3,p3,q3,t3⟩:=pB (y:=.int 4) oM oM oM p2 q2 t2 oM oM (by simp);have l3:((([0,1,2,3].eraseIdx r1).eraseIdx r2).eraseIdx r3).length=1:=by rw [List.length_eraseIdx,yI h3,l2]
  obtain ⟨r4,h4,s4,a4,c4,x4,p4,q4,t4⟩:=pB (y:=.int 4) oM oM oM p3 q3 t3 oM oM (by simp);have l4:(((([0,1,2,3].eraseIdx r1).eraseIdx r2).eraseIdx r3).eraseIdx r4)=[]:=List.length_eq_zero_iff.mp (by rw [List.length_eraseIdx,yI h4,l3]);rw [l4] at q4;rw [<- hsl] at x1 x2 x3 x4;have ne:∀ {l:List Nat}{k:Nat},l.length=k + 1->(!l.isEmpty)=true:=fun {l k} h=>by cases l with | nil=>cases h | cons=>rfl
  have w:=fV (tt hq0) x1 (fV ((tt q1).trans (by rw [ne l1])) x2 (fV ((tt q2).trans (by rw [ne l2])) x3 (fV ((tt q3).trans (by rw [ne l3])) x4 (lv (s:=ak [aF] (.cons (.ex (.mt .app (.v 3) (.cons (.mt .popA (.v 2) (.cons (.ca false 0 (.cons (.v 0) (.cons (.bi .len (.cons (.v 2) .nil)) .nil))) .nil)) .nil))) .nil)) (tt q4)))));refine bN (s:=.wh _ _) (sl':=sl) (st':=s4) (by rw [Jg];exact kz w) ?_;rw [hsl];refine fX (v:=.ref (st.length + 1)) (st':=s4) rfl ⟨r1,r2,r3,r4,⟨h1,by omega,by omega,by omega⟩,_,_,rfl,?_⟩;rw [t4];rfl
 obtain ⟨z,e,r1,r2,r3,r4,h,t,st',rfl,h2⟩:=key;exact ⟨r1,r2,r3,r4,h,t,st',e,h2⟩
end
noncomputable def gM (a b:List Int):Int:=((a.zip b).map fun z=>z.1 * z.2).sum
section
variable {st:aa}{d:List Int × List Int}
theorem F1 {l:List Int}:bC pV [.fz (iL l)] st=some (.int l.sum,st):=by
 have e:lsI st (.fz (iL l))=some l:=by
  show (bD st (.fz (iL l))).bind _=_;rw [hU,bind_some];exact Cc
 show (((lsI st (.fz (iL l))).map fun ns=>AV.int ns.sum).map _)=_;rw [e];rfl
theorem rZ {a b:List Int} (ha:∀ x ∈ a,x.natAbs < 100) (hl:a.length <= 1000):pm b0 [.fz (iL a),.fz (iL b)] st=some (.int (gM a b),st):=by
 refine bA (by simp [rfs,rf,cG]) (v:=.int (gM a b)) (st':=[]) ?_ rfl;rw [b0,aD];unfold oA;refine bY ?_;have hi:fR [] (.zi (.v 0) (.v 1)) [some (.fz (iL a)),some (.fz (iL b))] []=some (⟨(a.zip b).map fun z=>AV.tup [.int z.1,.int z.2],[]⟩,[]):=by
  show some (Iv.mk (((iL a).zip (iL b)).map fun z=>AV.tup [z.1,z.2]) ([]++[]),([]:aa))=_;unfold iL;rw [List.zip_map,List.map_map];rfl
 have e:=qF (gd:=[]) (st:=[]) (g:=cB [] (.tu 2 (.cons (.nm 2) (.cons (.nm 3) .nil)))) (t:=io [] .no) (f:=ev [] (.bin .Mult (.v 2) (.v 3))) (sl:=[some (.fz (iL a)),some (.fz (iL b)),none,none]) (em:=fun z:Int × Int=>AV.tup [.int z.1,.int z.2]) (F:=fun z=>z.1 * z.2) (xs:=a.zip b) dW fun z hz=>⟨[some (.fz (iL a)),some (.fz (iL b)),some (.int z.1),some (.int z.2)],rfl,rfl,by
  have h1:=ha z.1 (List.of_mem_zip hz).1;simp only [gq,cu,bH,bU,bind_some,cq (mV (Nat.lt_trans h1 dC)),map_some]⟩
 have hz:bv ((a.zip b).map fun z:Int × Int=>AV.tup [.int z.1,.int z.2]).length=true:=cp (by rw [zH,List.length_zip];omega);rw [pY,tH,aN,dy,xT,show fR [] (.zi (.v 0) (.v 1)) ([AV.fz (iL a),AV.fz (iL b)].map some++List.replicate (2 - [AV.fz (iL a),AV.fz (iL b)].length) none) []=_ from hi,bind_some];dsimp only;rw [yI hz];show (Option.bind (Option.bind (Option.bind (Option.bind (fQ [] _ _ _ [some (.fz (iL a)),some (.fz (iL b)),none,none] _ []) _) _) _) _)=_;rw [e];simp only [bind_some,cG,_root_.if_true,a0,Fo,F1];rfl
theorem tm {k:Int}:∀ {a b:List Int},gM a (b.map fun x=>k * x)=k * gM a b:=by
 intro a
 induction a with
 | nil=>intro b;simp [gM]
 | cons x a ih =>
  intro b;cases b with
  | nil=>simp [gM]
  | cons y b =>
   have ih:=ih (b:=b);unfold gM at ih ⊢;simp only [zO,List.zip_cons_cons,List.sum_cons,ih];rw [Int.mul_add,Int.mul_left_comm]
theorem Ar:∀ d ∈ D6,(∀ r ∈ RR4,0 <= gM r d.2)/\gM d.1 d.2 < 0/\∀ x ∈ d.1,x.natAbs < 100:=by decide +kernel
theorem zq:∀ r ∈ RR4,r.length <= 1000/\∀ x ∈ r,x.natAbs < 100:=by decide +kernel
theorem GJ (hd:d ∈ D6) {k:Nat}:pm aW [.int 4,.fz (iL (d.2.map fun x=>(k:Int) * x))] st=some (.bl true,st):=by
 refine bA (by simp [rfs,rf,cG]) (v:=.bl true) (st':=[]) ?_ rfl;rw [aW,aD];unfold gO;refine bY ?_;have e:=f9 (gd:=[]) (st:=[]) (g:=cB [ar,b0] (.nm 2)) (t:=io [ar,b0] .no) (f:=ev [ar,b0] (.cmp .GtE (.ca true 1 (.cons (.v 2) (.cons (.v 1) .nil))) (.i 0))) (sl:=[some (.int 4),some (.fz (iL (d.2.map fun x=>(k:Int) * x))),none]) (em:=fun r:List Int=>AV.fz (iL r)) (B:=fun _=>true) (F:=fun _=>.bl true) dW (xs:=RR4) fun r hr=>⟨[some (.int 4),some (.fz (iL (d.2.map fun x=>(k:Int) * x))),some (.fz (iL r))],rfl,rfl,fun _=>by
  have v:=rZ (st:=[]) (a:=r) (b:=d.2.map fun x=>(k:Int) * x) (zq r hr).2 (zq r hr).1;rw [tm] at v;have p:0 <= (k:Int) * gM r d.2:=Int.mul_nonneg oM ((Ar d hd).1 r hr);simp only [tG,cN,aN,a0,cu,cT,bH,bU,bind_some,cP,cW,dO,v,Fl,JU,yT p,map_some]⟩
 rw [List.filter_eq_self.mpr fun _ _=>rfl] at e;have e:fQ [] (cB [ar,b0] (.nm 2)) (io [ar,b0] .no) (ev [ar,b0] (.cmp .GtE (.ca true 1 (.cons (.v 2) (.cons (.v 1) .nil))) (.i 0))) [some (.int 4),some (.fz (iL (d.2.map fun x=>(k:Int) * x))),none] (aB RR4) []=some (RR4.map fun _=>AV.bl true,[]):=e;have hf:rfs (RR4.map fun _=>AV.bl true)=true:=rfl;have hs:bv (aB RR4).length=true:=rfl;have ha:bC rF [.fz (RR4.map fun _=>AV.bl true)] []=some (.bl true,[]):=rfl;have hr4:=FH [];show cL [ar,b0] (.rt (.bi .all (.cons (.nw false (.lc 1 (.e (.ca true 0 (.cons (.v 0) .nil))) (.nm 2) .no (.cmp .GtE (.ca true 1 (.cons (.v 2) (.cons (.v 1) .nil))) (.i 0)))) .nil))) [some (.int 4),some (.fz (iL (d.2.map fun x=>(k:Int) * x)))] []=_;simp only [pY,tH,aN,a0,dy,xT,Ip,cN,cT,cu,zO,List.map_nil,List.cons_append,List.nil_append,yV,List.length_nil,List.replicate,bH,bU,bind_some,cP,cW,hr4,wd,map_some,hs,_root_.if_true,e,hf,Fp,ha]
theorem JB (hd:d ∈ D6) {k:Nat}:pm cS [.int 4,.fz [],.tup [.fz (iL (d.2.map fun x=>(k:Int) * x)),.int ((k:Int) + 1)]] st=some (.bl true,st):=by
 refine bA (by simp [rfs,rf,cG]) (v:=.bl true) (st':=[]) ?_ rfl;rw [cS,aD];unfold jf;have hl:(iL (d.2.map fun x=>(k:Int) * x)).length=15:=by rw [jx,zH];exact (iJ d hd).2
 have h1:¬ ((k:Int) + 1 < 1):=by omega
 have kr:=GJ (st:=[]) hd (k:=k);have an:=FI [];refine ag (sl':=[some (.int 4),some (.fz []),some (.tup [.fz (iL (d.2.map fun x=>(k:Int) * x)),.int ((k:Int) + 1)]),some (.fz (iL (d.2.map fun x=>(k:Int) * x))),none]) (st':=[]) rfl ?_;refine ag (sl':=[some (.int 4),some (.fz []),some (.tup [.fz (iL (d.2.map fun x=>(k:Int) * x)),.int ((k:Int) + 1)]),some (.fz (iL (d.2.map fun x=>(k:Int) * x))),some (.int ((k:Int) + 1))]) (st':=[]) rfl ?_;refine ag (sl':=[some (.int 4),some (.fz []),some (.tup [.fz (iL (d.2.map fun x=>(k:Int) * x)),.int ((k:Int) + 1)]),some (.fz (iL (d.2.map fun x=>(k:Int) * x))),some (.int ((k:Int) + 1))]) (st':=[]) ?_ (bY rfl);have ln:bC dZ [AV.fz (iL (d.2.map fun x=>(k:Int) * x))] ([]:aa)=some (.int 15,[]):=by
  show some (AV.int ((iL (d.2.map fun x=>(k:Int) * x)).length:Int),([]:aa))=_;rw [hl];rfl
 simp only [cZ,fW,cF,IS,IR,cu,cT,tH,cN,aN,a0,bH,bU,bind_some,JS,yA h1,map_some,yB,if_false,wE,ln,cP,cW,dO,an,Fm,show decide ((15:Int)=((15:Nat):Int))=true from rfl,Bool.not_true,kr,fA,eA];rfl
theorem Jy (hd:d ∈ D6) {k:Nat} (hk:0 < k):pm c5 [sA d,.fz (iL (d.2.map fun x=>(k:Int) * x)),.int ((k:Int) + 1)] st=some (.bl false,st):=by
 refine bA (by simp [rfs,rf,cG,sA]) (v:=.bl false) (st':=[]) ?_ rfl;rw [c5,aD];unfold gQ;obtain ⟨_,hn,h100⟩:=Ar d hd;have v:=rZ (st:=[]) (a:=d.1) (b:=d.2.map fun x=>(k:Int) * x) h100 (by rw [(iJ d hd).1];decide);rw [tm] at v;have neg:(k:Int) * gM d.1 d.2 < 0:=Int.mul_neg_of_pos_of_neg oM hn;obtain ⟨w,hw⟩:∃ w,w=(k:Int) * gM d.1 d.2:=⟨_,rfl⟩;rw [<- hw] at v neg;have m0:cH 0 ((k:Int) + 1)=true:=mV dC;refine ag (sl':=[some (sA d),some (.fz (iL (d.2.map fun x=>(k:Int) * x))),some (.int ((k:Int) + 1)),some (.int w),none]) (st':=[]) ?_ ?_
 ·simp only [cO,cN,aN,a0,cM,cu,cT,zO,List.map_nil,List.cons_append,List.nil_append,bH,bU,bind_some,show bM ([]:aa) (sA d) (.int 0)=some (.fz (iL d.1)) from rfl,map_some,cP,cW,v,d5];rfl
 refine ag (sl':=[some (sA d),some (.fz (iL (d.2.map fun x=>(k:Int) * x))),some (.int ((k:Int) + 1)),some (.int w),some (.int 0)]) (st':=[]) ?_ (bY ?_)
 ·simp only [cO,gq,cM,cu,cT,bH,bU,bind_some,show bM ([]:aa) (sA d) (.int 2)=some (.int 0) from rfl,map_some,cq m0,Int.zero_mul,d5];rfl
 ·have g1:cE .Eq ([]:aa) (.str ">") (.str ">")=some true:=by kernel_rfl
  simp only [pY,IM,Cw,tG,cM,cu,cT,ie,bH,bU,bind_some,Fl,JV,yA (show ¬ w=0 by omega),map_some,Gz,yB,if_false,show bM ([]:aa) (sA d) (.int 1)=some (.str ">") from rfl,g1,Aw,_root_.if_true,JT,yA (show ¬ (0:Int) < w by omega)]
theorem G8 (hd:d ∈ D6) {k:Nat} (hk:0 < k):pm aQ [.int 4,.fz [],sA d,.tup [.bl false,.tup [.fz (iL (d.2.map fun x=>(k:Int) * x)),.int ((k:Int) + 1)]]] st=some (.bl true,st):=by
 have br:pm gp [.int 4,.fz [],sA d,.tup [.fz (iL (d.2.map fun x=>(k:Int) * x)),.int ((k:Int) + 1)]] []=some (.bl true,[]):=by
  refine bA (by simp [rfs,rf,cG,sA]) (v:=.bl true) (st':=[]) ?_ rfl;rw [gp,aD];unfold mD;refine bY ?_;simp [JB hd,Jy hd hk,show bM ([]:aa) (.tup [.fz (iL (d.2.map fun x=>(k:Int) * x)),.int ((k:Int) + 1)]) (.int 0)=some (.fz (iL (d.2.map fun x=>(k:Int) * x))) from rfl,show bM ([]:aa) (.tup [.fz (iL (d.2.map fun x=>(k:Int) * x)),.int ((k:Int) + 1)]) (.int 1)=some (.int ((k:Int) + 1)) from rfl]
 refine bA (by simp [rfs,rf,cG,sA]) (v:=.bl true) (st':=[]) ?_ rfl;rw [aQ,aD];unfold gj;refine ag (sl':=[some (.int 4),some (.fz []),some (sA d),some (.tup [.bl false,.tup [.fz (iL (d.2.map fun x=>(k:Int) * x)),.int ((k:Int) + 1)]])]) (st':=[]) rfl (bY ?_);have ty:ev [eU,gp] (.is "tuple" (.ix (.v 3) (.i 1))) [some (.int 4),some (.fz []),some (sA d),some (.tup [.bl false,.tup [.fz (iL (d.2.map fun x=>(k:Int) * x)),.int ((k:Int) + 1)]])] []=some (.bl true,[]):=by kernel_rfl
 simp [ty,br,show bM ([]:aa) (.tup [.bl false,.tup [.fz (iL (d.2.map fun x=>(k:Int) * x)),.int ((k:Int) + 1)]]) (.int 1)=some (.tup [.fz (iL (d.2.map fun x=>(k:Int) * x)),.int ((k:Int) + 1)]) from rfl]
end
section
variable {st:aa}{d:List Int × List Int}
theorem eS:cE .IsNot st (.bl true) (.bl true)=some false:=rfl
theorem eT:cE .IsNot st (.bl false) (.bl false)=some false:=rfl
theorem GR:cE .Is st (.bl true) (.bl true)=some true:=rfl
theorem FR {k:Nat}{y0 y1 y3 y5 y6 y7:Option AV} (hd:d ∈ D6):ev [bj,bh,aF,bS,bu,bK,dY,aW,b9,aQ] (.tu (.cons (.b false) (.cons (.tu (.cons (.nw false (.lc 1 (.e (.v 4)) (.nm 8) .no (.bin .Mult (.v 2) (.v 8)))) (.cons (.bin .Add (.v 2) (.i 1)) .nil))) .nil))) [y0,y1,some (.int (k:Int)),y3,some (.fz (iL d.2)),y5,y6,y7] st=some (.tup [.bl false,.tup [.fz (iL (d.2.map fun x=>(k:Int) * x)),.int ((k:Int) + 1)]],st):=by
 have hl:=(iJ d hd).2;have e:=jL (gd:=[]) (st:=st) (g:=cB [bj,bh,aF,bS,bu,bK,dY,aW,b9,aQ] (.nm 8)) (t:=io [bj,bh,aF,bS,bu,bK,dY,aW,b9,aQ] .no) (f:=ev [bj,bh,aF,bS,bu,bK,dY,aW,b9,aQ] (.bin .Mult (.v 2) (.v 8))) (sl:=[y0,y1,some (.int (k:Int)),y3,some (.fz (iL d.2)),y5,y6,y7,none]) (l:=d.2) (F:=fun x=>(k:Int) * x) dW fun x hx=>⟨[y0,y1,some (.int (k:Int)),y3,some (.fz (iL d.2)),y5,y6,y7,some (.int x)],rfl,rfl,by
  simp only [gq,cu,bH,bU,bind_some,cq (mU (Nat.lt_trans ((EB d hd).2 x hx) dC)),map_some]⟩
 simp only [IL,aN,a0,jn,dy,xT,Ip,cu,gq,cT,bH,bU,bind_some,wd,map_some,jx,hl,show bv 15=true from rfl,_root_.if_true,List.replicate,List.cons_append,List.nil_append,e,cG,uO,yV,List.length_nil,show Nat.ble (0 + 1 + 1) 1000=true from rfl]
theorem GG {ns:List Int}:∃ st,nV [.fz (iL ns)] []=some (.bl true,st):=by
 have key:∃ r,nV [.fz (iL ns)] []=some r/\r.1=.bl true:=by
  rw [nV,aD];show ∃ r,(ak [bj,bh,aF,bS,bu,bK,dY,aW,b9,aQ] uN [some (.fz (iL ns)),none,none,none,none,none,none,none] []).bind aE=some r/\_;obtain ⟨a,b,c,hp1⟩:=vB (st:=[]) (ns:=ns) (k:=0);obtain ⟨r1,r2,r3,r4,⟨h1,h2,h3,h4⟩,t,st1,ho,ht⟩:=BI (st:=[]++[.lst [.int a,.int b,.int c]]) (p:=0) (a:=a) (b:=b) (c:=c) rfl;obtain ⟨d,hd,hf⟩:=Fa (yt r1 h1 r2 h2 r3 h3 r4 h4);obtain ⟨w0,w1,w2,w3,hw⟩:∃ w0 w1 w2 w3,qg r1 r2 r3 r4=[w0,w1,w2,w3]:=⟨_,_,_,_,rfl⟩;rw [hw] at hf ht;obtain ⟨a',b',c',hp2⟩:=vB (st:=st1) (ns:=ns) (k:=1);obtain ⟨r,hr,a2,c2,ht2⟩:=u9 (st:=st1++[.lst [.int a',.int b',.int c']]) (p:=st1.length) (m:=1000000) dC dC gl;obtain ⟨st2,hst2⟩:∃ s,s=(st1++[Ly.lst [.int a',.int b',.int c']]).set st1.length (.lst [.int a2,.int b',.int c2]):=⟨_,rfl⟩;have tl:t < st1.length:=(zB.mp ht).1;have g2:st2[t]?=some (.lst (nL [w0,w1,w2,w3])):=by rw [hst2,ao oM];exact ga ht
  rw [<- hst2] at ht2;obtain ⟨k,hk'⟩:∃ k,k=r + 1:=⟨_,rfl⟩;have k0:0 < k:=by omega
  have hk:(1:Int) + (r:Int)=(k:Int):=by omega
  have hp1:bj [.fz (iL ns),.int 0] []=some (.ref 0,[.lst [.int a,.int b,.int c]]):=hp1;have ho:bh [.ref 0,.int 4] [.lst [.int a,.int b,.int c]]=some (.ref t,st1):=ho;have hp2:bj [.fz (iL ns),.int 1] st1=some (.ref st1.length,st1++[.lst [.int a',.int b',.int c']]):=hp2;have ht2:aF [.ref st1.length,.int 1000000] (st1++[.lst [.int a',.int b',.int c']])=some (.int (r:Int),st2):=ht2;have i0:bM st2 (.ref t) (.int 0)=some (.int (w0:Int)):=by rw [cg (ba g2)];rfl
  have i1:bM st2 (.ref t) (.int 1)=some (.int (w1:Int)):=by rw [cg (ba g2)];rfl
  have i2:bM st2 (.ref t) (.int 2)=some (.int (w2:Int)):=by rw [cg (ba g2)];rfl
  have i3:bM st2 (.ref t) (.int 3)=some (.int (w3:Int)):=by rw [cg (ba g2)];rfl
  have fr:pm bS [.int (w0:Int),.int (w1:Int),.int (w2:Int),.int (w3:Int)] st2=some (.fz (iL d.1),st2):=(hf st2).1;have ft:pm bu [.int (w0:Int),.int (w1:Int),.int (w2:Int),.int (w3:Int)] st2=some (.fz (iL d.2),st2):=(hf st2).2;have ne5:cE .NotEq st2 (.str "endless") (.str "endless")=some false:=by kernel_rfl
  have e7:ev [bj,bh,aF,bS,bu,bK,dY,aW,b9,aQ] (.tu (.cons (.s "endless") (.cons (.tu (.cons (.nw false (.rep (.cons (.i 0) .nil) (.i 15))) (.cons (.i 1) .nil))) (.cons (.v 4) .nil)))) [some (.fz (iL ns)),some (.ref t),some (.int ((k:Nat):Int)),some (.fz (iL d.1)),some (.fz (iL d.2)),some (bT d),none,none] st2=some (bT d,st2):=rfl;have e11:=FR (st:=st2) (k:=k) (y0:=some (.fz (iL ns))) (y1:=some (.ref t)) (y3:=some (.fz (iL d.1))) (y5:=some (bT d)) (y6:=some (sA d)) (y7:=some (iQ d)) hd;refine bN (sl':=[some (.fz (iL ns)),some (.ref t),none,none,none,none,none,none]) (st':=st1) ?_ ?_
  ·simp only [cO,cZ,fW,cF,cN,aN,a0,cM,cu,cT,ie,jn,bH,bU,bind_some,map_some,cP,du,cW,dO,d5,dy,gK,List.length_nil,yV,show bv 0=true from rfl,show bv (0 + 1)=true from rfl,_root_.if_true,eR,yB,if_false,eA,eS,eT,hp1,ho];rfl
  refine bN (sl':=[some (.fz (iL ns)),some (.ref t),some (.int ((k:Nat):Int)),none,none,none,none,none]) (st':=st2) ?_ ?_
  ·simp only [cO,cZ,fW,cF,cN,aN,a0,cM,cu,cT,ie,jn,bH,bU,bind_some,map_some,cP,du,cW,dO,d5,dy,gK,List.length_nil,yV,show bv 0=true from rfl,show bv (0 + 1)=true from rfl,_root_.if_true,eR,yB,if_false,eA,eS,eT,gq,hp2,Jo,ht2,uO,hk];rfl
  refine bN (sl':=[some (.fz (iL ns)),some (.ref t),some (.int ((k:Nat):Int)),some (.fz (iL d.1)),none,none,none,none]) (st':=st2) ?_ ?_
  ·simp only [cO,cZ,fW,cF,cN,aN,a0,cM,cu,cT,ie,jn,bH,bU,bind_some,map_some,cP,du,cW,dO,d5,dy,gK,List.length_nil,yV,show bv 0=true from rfl,show bv (0 + 1)=true from rfl,_root_.if_true,eR,yB,if_false,eA,eS,eT,i0,i1,i2,i3,fr];rfl
  refine bN (sl':=[some (.fz (iL ns)),some (.ref t),some (.int ((k:Nat):Int)),some (.fz (iL d.1)),some (.fz (iL d.2)),none,none,none]) (st':=st2) ?_ ?_
  ·simp only [cO,cZ,fW,cF,cN,aN,a0,cM,cu,cT,ie,jn,bH,bU,bind_some,map_some,cP,du,cW,dO,d5,dy,gK,List.length_nil,yV,show bv 0=true from rfl,show bv (0 + 1)=true from rfl,_root_.if_true,eR,yB,if_false,eA,eS,eT,i0,i1,i2,i3,ft];rfl
  refine bN (sl':=[some (.fz (iL ns)),some (.ref t),some (.int ((k:Nat):Int)),some (.fz (iL d.1)),some (.fz (iL d.2)),some (bT d),none,none]) (st':=st2) ?_ ?_
  ·simp only [cO,cZ,fW,cF,cN,aN,a0,cM,cu,cT,ie,jn,bH,bU,bind_some,map_some,cP,du,cW,dO,d5,dy,gK,List.length_nil,yV,show bv 0=true from rfl,show bv (0 + 1)=true from rfl,_root_.if_true,eR,yB,if_false,eA,eS,eT,Av hd];rfl
  refine bN (sl':=[some (.fz (iL ns)),some (.ref t),some (.int ((k:Nat):Int)),some (.fz (iL d.1)),some (.fz (iL d.2)),some (bT d),none,none]) (st':=st2) ?_ ?_
  ·simp only [cO,cZ,fW,cF,cN,aN,a0,cM,cu,cT,ie,jn,bH,bU,bind_some,map_some,cP,du,cW,dO,d5,dy,gK,List.length_nil,yV,show bv 0=true from rfl,show bv (0 + 1)=true from rfl,_root_.if_true,eR,yB,if_false,eA,eS,eT,Jx hd,ne5,wj hd,show bM st2 (bT d) (.int 0)=some (.str "endless") from rfl]
  refine bN (sl':=[some (.fz (iL ns)),some (.ref t),some (.int ((k:Nat):Int)),some (.fz (iL d.1)),some (.fz (iL d.2)),some (bT d),none,none]) (st':=st2) ?_ ?_
  ·rw [cZ,cF,cN,aN,cT,bind_some];simp only [cO,cZ,fW,cF,cN,aN,a0,cM,cu,cT,ie,jn,bH,bU,bind_some,map_some,cP,du,cW,dO,d5,dy,gK,List.length_nil,yV,show bv 0=true from rfl,show bv (0 + 1)=true from rfl,_root_.if_true,eR,yB,if_false,eA,eS,eT,e7,wj hd]
  refine bN (sl':=[some (.fz (iL ns)),some (.ref t),some (.int ((k:Nat):Int)),some (.fz (iL d.1)),some (.fz (iL d.2)),some (bT d),some (sA d),none]) (st':=st2) ?_ ?_
  ·rfl
  refine bN (sl':=[some (.fz (iL ns)),some (.ref t),some (.int ((k:Nat):Int)),some (.fz (iL d.1)),some (.fz (iL d.2)),some (bT d),some (sA d),some (iQ d)]) (st':=st2) ?_ ?_
  ·simp only [cO,cZ,fW,cF,cN,aN,a0,cM,cu,cT,ie,jn,bH,bU,bind_some,map_some,cP,du,cW,dO,d5,dy,gK,List.length_nil,yV,show bv 0=true from rfl,show bv (0 + 1)=true from rfl,_root_.if_true,eR,yB,if_false,eA,eS,eT,JK hd];rfl
  refine bN (sl':=[some (.fz (iL ns)),some (.ref t),some (.int ((k:Nat):Int)),some (.fz (iL d.1)),some (.fz (iL d.2)),some (bT d),some (sA d),some (iQ d)]) (st':=st2) ?_ ?_
  ·simp only [cO,cZ,fW,cF,cN,aN,a0,cM,cu,cT,ie,jn,bH,bU,bind_some,map_some,cP,du,cW,dO,d5,dy,gK,List.length_nil,yV,show bv 0=true from rfl,show bv (0 + 1)=true from rfl,_root_.if_true,eR,yB,if_false,eA,eS,eT,JM hd,show bM st2 (iQ d) (.int 0)=some (.bl false) from rfl]
  refine bN (sl':=[some (.fz (iL ns)),some (.ref t),some (.int ((k:Nat):Int)),some (.fz (iL d.1)),some (.fz (iL d.2)),some (bT d),some (sA d),some (iQ d)]) (st':=st2) ?_ ?_
  ·simp only [cO,cZ,fW,cF,cN,aN,a0,cM,cu,cT,ie,jn,bH,bU,bind_some,map_some,cP,du,cW,dO,d5,dy,gK,List.length_nil,yV,show bv 0=true from rfl,show bv (0 + 1)=true from rfl,_root_.if_true,eR,yB,if_false,eA,eS,eT,e11,G8 hd k0]
  refine bN (sl':=[some (.fz (iL ns)),some (.ref t),some (.int ((k:Nat):Int)),some (.fz (iL d.1)),some (.fz (iL d.2)),some (bT d),some (sA d),some (Am)]) (st':=st2) ?_ (fX (v:=.bl true) (st':=st2) ?_ rfl)
  ·simp only [cO,cZ,fW,cF,cN,aN,a0,cM,cu,cT,ie,jn,bH,bU,bind_some,map_some,cP,du,cW,dO,d5,dy,gK,List.length_nil,yV,show bv 0=true from rfl,show bv (0 + 1)=true from rfl,_root_.if_true,eR,yB,if_false,eA,eS,eT,show rfs [sA d]=true by simp [rfs,rf,cG,sA],JJ hd];rfl
  ·simp only [pY,Cw,tG,Fl,Aw,cO,cZ,fW,cF,cN,aN,a0,cM,cu,cT,ie,jn,bH,bU,bind_some,map_some,cP,du,cW,dO,d5,dy,gK,List.length_nil,yV,show bv 0=true from rfl,show bv (0 + 1)=true from rfl,_root_.if_true,eR,yB,if_false,eA,eS,eT,show rfs [sA d]=true by simp [rfs,rf,cG,sA],show bM st2 Am (.int 0)=some (.bl true) from rfl,GR,JL hd]
 obtain ⟨⟨v,s⟩,e,h⟩:=key;have h:v=.bl true:=h;subst h;exact ⟨s,e⟩
theorem Ji:Room e_law.d callerA:=⟨rfl,by decide,by decide,rfl⟩
theorem AS:∀ t ∈ (Lw.tb:List (Addr × Pos × Str)),t.1 ∈ ([(230,228)]:List (Addr × Addr)).map (·.2):=by
 intro t ht
 have:=zM.mp ht
 rw [this];exact zM.mpr rfl
theorem holds:∀ ns:List Int,ns.length <= 63->∃ st,Iw [.fz (ns.map .int)] []=some (.bl true,st):=fun _ _=>GG
end
end LW
def PySem.W.Fast.tw13965407580430864210:=()
def PySem.W.Fast.tw13166900561529576624:=()
def PySem.W.Fast.tw16438046603342138978:=()
def PySem.W.Fast.tw13668330373554873399:=()
def PySem.W.Fast.tw8790101181321611907:=()
def PySem.W.Fast.tw13508138172422036309:=()
def PySem.W.Fast.tw3639602708465292164:=()
def PySem.W.Fast.tw13678432202645988708:=()
def PySem.W.Fast.tw4661920802726540484:=()
def PySem.W.Fast.tw7107969884382378585:=()
def PySem.W.Fast.tw4378749640887748831:=()
def PySem.W.Fast.tw11179231191624671456:=()
def PySem.W.Fast.tw13364483634956824708:=()
def PySem.W.Fast.tw12589220419723715456:=()
def PySem.W.Fast.tw11772471254119040043:=()
def PySem.W.Fast.tw8456578047434581770:=()
def PySem.W.Fast.tw8496145741766001344:=()
def PySem.W.Fast.tw6672811603417521049:=()
def PySem.W.Fast.tw16522307298803286233:=()
def PySem.W.Fast.tw2641231929058147954:=()
def PySem.W.Fast.tw7098260161667800461:=()
def PySem.W.Fast.tw5448294473166180765:=()
def PySem.W.Fast.tw5199059942387123995:=()
def PySem.W.Fast.tw8391886443002200153:=()
def PySem.W.Fast.tw3971337924564323400:=()
def PySem.W.Fast.tw18150958396063430074:=()
def PySem.W.Fast.tw7218953305664734934:=()
def PySem.W.Fast.tw3413909993642668368:=()
def PySem.W.Fast.tw10853763454354323943:=()
def PySem.W.Fast.tw15505269685061529827:=()
def PySem.W.Fast.tw3743729275490431085:=()
def PySem.W.Fast.tw1750364950305677262:=()
def PySem.W.Fast.tw9491316543299793790:=()
def PySem.W.Fast.tw4700982270385249858:=()
def PySem.W.Fast.tw12501991135655116936:=()
def PySem.W.Fast.tw3362002540383549982:=()
def PySem.W.Fast.tw8075348044953865727:=()
def PySem.W.Fast.tw8969847928119361628:=()
def PySem.W.Fast.tw18436165212178137381:=()
def PySem.W.Fast.tw1087083999940991672:=()
def PySem.W.Fast.tw766597220221487824:=()
def PySem.W.Fast.tw17325373931083612650:=()
def PySem.W.Fast.tw14237461121859194912:=()
def PySem.W.Fast.tw6150465534884855442:=()
def PySem.W.Fast.tw11386205025449899706:=()
def PySem.W.Fast.tw1173184860955505649:=()
def PySem.W.Fast.tw2991161175736859786:=()
def PySem.W.Fast.tw16778205096128392814:=()
def PySem.W.Fast.tw962538780787273235:=()
def PySem.W.Fast.tw10292587281229160868:=()
def PySem.W.Fast.tw12977683380338725955:=()
def PySem.W.Fast.tw4707667128952633673:=()
def PySem.W.Fast.tw7491654509743436889:=()
def PySem.W.Fast.tw3577597991465117236:=()
def PySem.W.Fast.tw5775441310373848508:=()
def PySem.W.Fast.tw2429606294865207853:=()
def PySem.W.Fast.tw17124508661589972789:=()
def PySem.W.Fast.tw9860802553975710557:=()
def PySem.W.Fast.tw14751443708159938835:=()
def PySem.W.Fast.tw15995071079699673697:=()
def PySem.W.Fast.tw9753948764923635750:=()
def PySem.W.Fast.tw9184277313510256778:=()
def PySem.W.Fast.tw16446980315231669481:=()
def PySem.W.Fast.tw8756436010505248859:=()
def PySem.W.Fast.tw5524092404871957544:=()
def PySem.W.Fast.tw4258416866549529788:=()
def PySem.W.Fast.tw13607670719244413075:=()
def PySem.W.Fast.tw3108610325193369857:=()
def PySem.W.Fast.tw9743493444972638507:=()
def PySem.W.Fast.tw8154836753849412900:=()
def PySem.W.Fast.tw11422210450153018760:=()
def PySem.W.Fast.tw8002741042653692897:=()
def PySem.W.Fast.tw12721364033910126363:=()
def PySem.W.Fast.tw7400807205049613959:=()
def PySem.W.Fast.tw15634903760095114407:=()
def PySem.W.Fast.tw1672263340535691732:=()
def PySem.W.Fast.tw1300985179567862328:=()
def PySem.W.Fast.tw3941644523675487091:=()
def PySem.W.Fast.tw3103940988131656689:=()
def PySem.W.Fast.tw2923675843432663478:=()
def PySem.W.Fast.tw13083314280069325340:=()
def PySem.W.Fast.tw7111568097048093164:=()
def PySem.W.Fast.tw12659695381451232780:=()
def PySem.W.Fast.tw145478553795264742:=()
def PySem.W.Fast.tw14826866723254978965:=()
def PySem.W.Fast.tw8182926978921486896:=()
def PySem.W.Fast.tw895619674492028636:=()
def PySem.W.Fast.tw17087248479458876230:=()
def PySem.W.Fast.tw5440170232884756144:=()
def PySem.W.Fast.tw3320946649511376913:=()
def PySem.W.Fast.tw8120773811603383813:=()
def PySem.W.Fast.tw14417594461319399262:=()
def PySem.W.Fast.tw10173584731621072864:=()
def PySem.W.Fast.tw16657662724359204806:=()
def PySem.W.Fast.tw1487499219956353847:=()
def PySem.W.Fast.tw6454930982019755584:=()
def PySem.W.Fast.tw6705629893510398276:=()
def PySem.W.Fast.tw9998274674352489020:=()
def PySem.W.Fast.tw12926663836309871092:=()
def PySem.W.Fast.tw11495239473223099154:=()
def PySem.W.Fast.tw7747708447173590553:=()
def PySem.W.Fast.tw5076272945861469151:=()
def PySem.W.Fast.tw15530255689428863845:=()
def PySem.W.Fast.tw11992422122405422391:=()
def PySem.W.Fast.tw3300578570817635438:=()
def PySem.W.Fast.tw9406668244605941544:=()
def PySem.W.Fast.tw2631345050946157687:=()
def PySem.W.Fast.tw15632884085322514799:=()
def PySem.W.Fast.tw15549687987665648682:=()
def PySem.W.Fast.tw7046453722129255067:=()
def PySem.W.Fast.tw14446816446449819518:=()
def PySem.W.Fast.tw4734499316519028805:=()
def PySem.W.Fast.tw15062771288971744278:=()
def PySem.W.Fast.tw18420566428398761435:=()
def PySem.W.Fast.tw9960356952733746704:=()
def PySem.W.Fast.tw15780314047104758291:=()
def PySem.W.Fast.tw13028148578577982162:=()
def PySem.W.Fast.tw8343699447145420223:=()
def PySem.W.Fast.tw14477912895666071027:=()
def PySem.W.Fast.tw11310099172544510777:=()
def PySem.W.Fast.tw10809171090809182900:=()
def PySem.W.Fast.tw13535288365553865714:=()
def PySem.W.Fast.tw3597642771499339697:=()
def PySem.W.Fast.tw6873784483555511831:=()
def PySem.W.Fast.tw10289508657081258789:=()
def PySem.W.Fast.tw16807762325250628644:=()
def PySem.W.Fast.tw11703874319550278407:=()
def PySem.W.Fast.tw3785286372209722292:=()
def PySem.W.Fast.tw9804481473094311634:=()
def PySem.W.Fast.tw6617789859399040389:=()
def PySem.W.Fast.tw10365984449462946461:=()
def PySem.W.Fast.tw16900649056067946339:=()
def PySem.W.Fast.tw16599566808208989870:=()
def PySem.W.Fast.tw6682474229779246128:=()
def PySem.W.Fast.tw17304062196435478963:=()
def PySem.W.Fast.tw13791519202363643453:=()
def PySem.W.Fast.tw11142938209028038527:=()
def PySem.W.Fast.tw7076852243151397072:=()
def PySem.W.Fast.tw4803201916325309485:=()
def PySem.W.Fast.tw14835806695237194304:=()
def PySem.W.Fast.tw15388593516796879945:=()
def PySem.W.Fast.tw17358651147111690527:=()
def PySem.W.Fast.tw16906534817388178356:=()
def PySem.W.Fast.tw10608873394385923052:=()
def PySem.W.Fast.tw7011889232959775987:=()
def PySem.W.Fast.tw10191891681975231650:=()
def PySem.W.Fast.tw16546757426204864772:=()
def PySem.W.Fast.tw13028046990589921522:=()
def PySem.W.Fast.tw192318972179642545:=()
def PySem.W.Fast.tw15655988653318683567:=()
def PySem.W.Fast.tw2490655931158514971:=()
def PySem.W.Fast.tw2396925719468438069:=()
def PySem.W.Fast.tw1476045083787943237:=()
def PySem.W.Fast.tw10447131710576644047:=()
def PySem.W.Fast.tw14445792177168234806:=()
def PySem.W.Fast.tw14285438029009511536:=()
def PySem.W.Fast.tw14183593546845908421:=()
def PySem.W.Fast.tw10185234377377146168:=()
def PySem.W.Fast.tw10347055468548311878:=()
def PySem.W.Fast.tw17251755445118749772:=()
def PySem.W.Fast.tw3525390725281915353:=()
def PySem.W.Fast.tw14658890566075774342:=()
def PySem.W.Fast.tw3731888924457412902:=()
def PySem.W.Fast.tw15304390754209363358:=()
def PySem.W.Fast.tw7943928563731640204:=()
def PySem.W.Fast.tw12512070050725136868:=()
def PySem.W.Fast.tw8001477645033724574:=()
def PySem.W.Fast.tw13739731508703341884:=()
def PySem.W.Fast.tw5148505434288582757:=()
def PySem.W.Fast.tw701244238570611565:=()
def PySem.W.Fast.tw2702972077603839748:=()
def PySem.W.Fast.tw12106604293599248549:=()
def PySem.W.Fast.tw15602593318855907106:=()
def PySem.W.Fast.tw10568270502111347936:=()
def PySem.W.Fast.tw10332547041835612350:=()
def PySem.W.Fast.tw15448855361911376026:=()
def PySem.W.Fast.tw16431084500699405187:=()
def PySem.W.Fast.tw4282871692355243908:=()
def PySem.W.Fast.tw12111941031798011597:=()
def PySem.W.Fast.tw2249833946919072134:=()
def PySem.W.Fast.tw11755523327685892782:=()
def PySem.W.Fast.tw912038165142968707:=()
def PySem.W.Fast.tw8044001367724633261:=()
def PySem.W.Fast.tw11548544136377582587:=()
def PySem.W.Fast.tw4439064572439877832:=()
def PySem.W.Fast.tw16257348424121177679:=()
def PySem.W.Fast.tw16465549474586167109:=()
def PySem.W.Fast.tw17618905521971895365:=()
def PySem.W.Fast.tw8549772776837147888:=()
def PySem.W.Fast.tw5695060601758150172:=()
def PySem.W.Fast.tw7846876297872953821:=()
def PySem.W.Fast.tw15609605360561104896:=()
def PySem.W.Fast.tw11524728722968050201:=()
def PySem.W.Fast.tw10918856335178039069:=()
def PySem.W.Fast.tw7949458711752863801:=()
def PySem.W.Fast.tw780780415156537958:=()
def PySem.W.Fast.tw3168356091737375933:=()
def PySem.W.Fast.tw2189013452140603712:=()
def PySem.W.Fast.tw17041801814193352218:=()
def PySem.W.Fast.tw15577203920354505682:=()
def PySem.W.Fast.tw9637776639874563213:=()
def PySem.W.Fast.tw13367928642172364306:=()
def PySem.W.Fast.tw9315720646617342836:=()
def PySem.W.Fast.tw3732610993232071530:=()
def PySem.W.Fast.tw2180810889579041108:=()
def PySem.W.Fast.tw10942623566397621131:=()
def PySem.W.Fast.tw11672270241075996951:=()
def PySem.W.Fast.tw5518660543271123253:=()
def PySem.W.Fast.tw16479537347188740794:=()
def PySem.W.Fast.tw5586061588589112499:=()
def PySem.W.Fast.tw13819417245523949653:=()
def PySem.W.Fast.tw10042895278071017311:=()
def PySem.W.Fast.tw5145488266097939367:=()
def PySem.W.Fast.tw7383809783185733340:=()
def PySem.W.Fast.tw4054797032548313051:=()
def PySem.W.Fast.tw2630881420328377754:=()
def PySem.W.Fast.tw16374078479606928615:=()
def PySem.W.Fast.tw13057726921500408486:=()
def PySem.W.Fast.tw11479559640158588958:=()
def PySem.W.Fast.tw14045047452275828504:=()
def PySem.W.Fast.tw9491450175144265701:=()
def PySem.W.Fast.tw13176038012733149095:=()
def PySem.W.Fast.tw9333983187121715508:=()
def PySem.W.Fast.tw7647767650956727869:=()
def PySem.W.Fast.tw3003255058804937933:=()
def PySem.W.Fast.tw17041730916348594557:=()
def PySem.W.Fast.tw229966738700355962:=()
def PySem.W.Fast.tw255476366963501744:=()
def PySem.W.Fast.tw4508243682573445400:=()
def PySem.W.Fast.tw3136323238214067430:=()
def PySem.W.Fast.tw265294201020033340:=()
def PySem.W.Fast.tw15049569537800821668:=()
def PySem.W.Fast.tw13796431819729865757:=()
def PySem.W.Fast.tw13621975125761397441:=()
def PySem.W.Fast.tw9954185037253104292:=()
def PySem.W.Fast.tw4514489410027653794:=()
def PySem.W.Fast.tw1827865579584178852:=()
def PySem.W.Fast.tw10822272942614228253:=()
def PySem.W.Fast.tw17345418109443215182:=()
def PySem.W.Fast.tw8320455044447579169:=()
def PySem.W.Fast.tw7817133576583154497:=()
def PySem.W.Fast.tw5919329827879111171:=()
def PySem.W.Fast.tw1771325232540855882:=()
def PySem.W.Fast.tw16699019656235846435:=()
def PySem.W.Fast.tw1124388364671095626:=()
def PySem.W.Fast.tw9886167688347483736:=()
def PySem.W.Fast.tw9269024784992803185:=()
def PySem.W.Fast.tw9099538238609420438:=()
def PySem.W.Fast.tw8447645507305280788:=()
def PySem.W.Fast.tw6130708149846871680:=()
def PySem.W.Fast.tw4836959310224638872:=()
def PySem.W.Fast.tw4726868050518733950:=()
def PySem.W.Fast.tw4448753665424028567:=()
def PySem.W.Fast.tw3907095278107949961:=()
def PySem.W.Fast.tw3667733642562113925:=()
def PySem.W.Fast.tw3536466318301735032:=()
def PySem.W.Fast.tw3325330337886065163:=()
def PySem.W.Fast.tw2458072876728368549:=()
def PySem.W.Fast.tw2245025194193694702:=()
def PySem.W.Fast.tw2101953618358144232:=()
def PySem.W.Fast.tw2016698583859504069:=()
def PySem.W.Fast.tw188495969304488142:=()
def PySem.W.Fast.tw18012623123701158584:=()
def PySem.W.Fast.tw17221156046584638666:=()
def PySem.W.Fast.tw17105722240934015378:=()
def PySem.W.Fast.tw16865507456253310242:=()
def PySem.W.Fast.tw16485606437819927075:=()
def PySem.W.Fast.tw16071389693687883357:=()
def PySem.W.Fast.tw15490739728358211423:=()
def PySem.W.Fast.tw1423242426580632131:=()
def PySem.W.Fast.tw13923321505571280769:=()
def PySem.W.Fast.tw13214660744401339630:=()
def PySem.W.Fast.tw12822735880524802114:=()
def PySem.W.Fast.tw1266796403376285781:=()
def PySem.W.Fast.tw12141209732170402586:=()
def PySem.W.Fast.tw12137888950702386631:=()
def PySem.W.Fast.tw11487653532881291851:=()
def PySem.W.Fast.tw1086397011286929739:=()
def PySem.W.Fast.tw10488613817160890439:=()
def PySem.W.Fast.tw8379400270731879734:=()
def PySem.W.Fast.tw16546941506327736747:=()
def PySem.W.Fast.tw7541145527008472096:=()
def PySem.W.Fast.tw624372186985194538:=()
def PySem.W.Fast.tw1522455993401100430:=()
def PySem.W.Fast.tw17525318590463916295:=()
def PySem.W.Fast.tw17206211329616369614:=()
def PySem.W.Fast.tw11333073928083021653:=()
def PySem.W.Fast.tw9329880484593137587:=()
def PySem.W.Fast.tw4553949170215931133:=()
def PySem.W.Fast.tw3994956129627971972:=()
def PySem.W.Fast.tw11075061991657809636:=()
def PySem.W.Fast.tw10734343036397167292:=()
def PySem.W.Fast.tw7543600599811347929:=()
def PySem.W.Fast.tw7069542347385839211:=()
def PySem.W.Fast.tw10548369677565575929:=()
def PySem.W.Fast.tw9679695291447641633:=()
def PySem.W.Fast.tw7754084135790430418:=()
def PySem.W.Fast.tw15292254095386620565:=()
def PySem.W.Fast.tw13777764138046525063:=()
def PySem.W.Fast.tw13136472874021047382:=()
open PySem PySem.W PyProof.Rows
set_option maxRecDepth 100000 in
set_option maxHeartbeats 0 in
theorem PySem.Challenge.cw_telltight_k68_whole_no_weights_prove_it_holds : PySem.Challenge.rw_telltight_k68_whole_no_weights_prove_it.Holds := by
 w_on; o_law; k_head; (case hw => w_witness2)
 k_fill
 refine R.walk_R (l := PySem.Challenge.rw_telltight_k68_whole_no_weights_prove_it) (k := LW.e_law.d) (fn := LW.Iw) (tabs := [(230, 228)]) rfl rfl ?hrr (fun w h Y => ⟨km_in_of Y, fun q hq => km_tabs_of Y q.2 (by simp only [zM] at hq ⊢; rw [hq])⟩) ?hcc ?hKK ?htt LW.holds ?F
 case hrr => exact LW.Ji
 case hcc => intro w q hq; simp only [zM] at hq; rw [hq]; kernel_rfl
 case hKK => intro w; kernel_rfl
 case htt => intro t ht; exact LW.AS t ht
 case F =>
  intro w mg fa h KX G hmg;refine R.law_F (gs := LW.gs) (cl := LW.cl) (pre := LW.pre) (e := LW.e_law) KX G hmg ?nb ?gs ?cl LW.Ck LW.Cl (LW.Dt KX G ?h0 ?h1 ?h2 ?h3 ?h4 ?h5 ?h6 ?h7 ?h8 ?h9 ?h10 ?h11 ?h12 ?h13 ?h14 ?h15 ?h16 ?h17 ?h18 ?h19 ?h20 ?h21 ?h22 ?h23 ?h24 ?h25 ?h26 ?h27 ?h28 ?h29 ?h30 ?h31 ?h32 ?h33 ?h34 ?h35 ?h36 ?h37 ?h38 ?h39 ?h40 ?h41 ?h42 ?h43 ?h44 ?h45 ?h46 ?h47 ?h48 ?h49 ?h50 ?h51 ?h52 ?h53 ?h54 ?h55 ?h56 ?h57 ?h58 ?h59 ?h60 ?h61 ?h62 ?h63 ?h64 ?h65 ?h66 ?h67 ?h68 ?h69) ?law rfl LW.GH
  case nb => kernel_rfl
  case gs => intro p hp; simp only [LW.gs, zT, zX, or_false] at hp; rcases hp with rfl <;> exact ⟨_, by k_is⟩
  case cl => intro p hp; simp only [LW.cl, zT, zX, or_false] at hp; rcases hp with rfl <;> exact ⟨⟨_, by k_is, by kernel_rfl, by kernel_rfl, by kernel_rfl, by kernel_rfl⟩, ⟨_, by k_is, by kernel_rfl⟩⟩
  case law => exact ⟨_, _, _, _, _, _, _, _, _, _, by k_is, by k_is, by k_is, by k_is, .inl rfl⟩
  case h0 => exact ⟨_, by k_is, by kernel_rfl, by kernel_rfl, by kernel_rfl, by kernel_rfl⟩
  case h1 => exact ⟨_, by k_is, by kernel_rfl, by kernel_rfl⟩
  case h23 => exact ⟨_, _, _, _, _, _, _, _, _, _, _, by k_is, by k_is, by k_is, by k_is, by k_is, by k_is, .inr ⟨_, _, _, rfl, rfl, by kernel_rfl, rfl⟩⟩
  all_goals first | exact ⟨_, _, _, _, _, _, _, _, _, _, by k_is, by k_is, by k_is, by k_is, .inl rfl⟩ | exact ⟨_, _, _, _, _, _, _, _, _, _, _, by k_is, by k_is, by k_is, by k_is, by k_is, by k_is, .inl rfl⟩
#print axioms PySem.Challenge.cw_telltight_k68_whole_no_weights_prove_it_holds
