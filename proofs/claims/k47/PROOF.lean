import PyProof.Rows.All
import Wide.All
import OpenK.AllK
import Wide.FinOn
import PySem.Challenge.RW_telltight_k47_known_looked_at
set_option bootstrap.genMatcherCode false
set_option compiler.extract_closed false
noncomputable section
open Option (bind_some map_some)
open PySem.W (CodeHd Frag InitBack InstAt TabsAt any_some bind_fn callWith_K cellsFrom_some codeHdIn codeHd_of_K codeIn codeRec_of emptyDict findIn findObj_own fnOf get_value handedIn hasDictIn hideAll hideAll_get hideAll_none hideAll_size instObj isFn kIn_of keepIn ki_setAt ki_setBack kia_one kitOne kitx_bool kitx_dict kitx_float kitx_int kitx_list kitx_none kitx_own kitx_str kitx_tuple lookIn looks_clsIn looks_findIn make_core makesIn makes_of mem_of_lookupK methodCall_KW methodObj method_fn mg_none_of mg_of mroIn noTabs nsIn of_hideAll osa_open plainGet plainGet_of plainOver set_plain specialIn tabObj takerIn takesIn truthy_bytes typeIn)
theorem oM {p:Prop} (h:p:=by first | omega | (refine @id (@Ne Nat _ _) ?_;omega)):p:=h
theorem dC {p:Prop} (h:p:=by decide):p:=h
set_option Elab.async false
set_option linter.all false
set_option maxRecDepth 100000
theorem zA{α β}{o:Option α}{f:α->Option β}{b}:o.bind f=some b->∃a,o=some a∧f a=some b:=Option.bind_eq_some_iff.mp
theorem zB:type_of% @List.getElem?_eq_some_iff:=@List.getElem?_eq_some_iff
theorem zC:type_of% @Bool.and_eq_true:=@Bool.and_eq_true
theorem zD:type_of% @List.getD_eq_getElem?_getD:=@List.getD_eq_getElem?_getD
theorem zE:type_of% @Option.map_eq_some_iff:=@Option.map_eq_some_iff
theorem zF:type_of% @List.getElem?_eq_getElem:=@List.getElem?_eq_getElem
theorem zG:type_of% @PySem.Heap.get?_push_of_some:=@PySem.Heap.get?_push_of_some
theorem zH:type_of% @List.length_map:=@List.length_map
theorem zI:type_of% @List.size_toArray:=@List.size_toArray
theorem zJ:type_of% @Nat.lt_of_lt_of_le:=@Nat.lt_of_lt_of_le
theorem zK:type_of% @List.mem_append_right:=@List.mem_append_right
theorem zL:type_of% @List.mem_singleton:=@List.mem_singleton
theorem zM:type_of% @List.getElem?_append_left:=@List.getElem?_append_left
theorem zN:type_of% @List.map_cons:=@List.map_cons
theorem zO:type_of% @Nat.le_refl:=@Nat.le_refl
theorem zP:type_of% @List.mem_cons_of_mem:=@List.mem_cons_of_mem
theorem zQ:type_of% @List.getElem?_map:=@List.getElem?_map
theorem zR:type_of% @Nat.le_of_ble_eq_true:=@Nat.le_of_ble_eq_true
theorem zS:type_of% @List.mem_cons:=@List.mem_cons
theorem zT:type_of% @Nat.ne_of_lt:=@Nat.ne_of_lt
theorem zU:type_of% @List.length_append:=@List.length_append
theorem zV:type_of% @List.mem_of_getElem?:=@List.mem_of_getElem?
theorem zW:type_of% @List.not_mem_nil:=@List.not_mem_nil
theorem zX:type_of% @PySem.Heap.get?_push_size:=@PySem.Heap.get?_push_size
theorem zY:type_of% @List.mem_append:=@List.mem_append
theorem zZ:type_of% @Nat.le_trans:=@Nat.le_trans
theorem z0:type_of% @List.getElem?_append_right:=@List.getElem?_append_right
theorem z3:type_of% @List.mem_cons_self:=@List.mem_cons_self
theorem z4:type_of% @decide_eq_false:=@decide_eq_false
theorem z5:type_of% @Bool.false_eq_true:=@Bool.false_eq_true
theorem z6:type_of% @decide_eq_true_eq:=@decide_eq_true_eq
theorem z7:type_of% @List.mem_map:=@List.mem_map
theorem yA:type_of% @Option.some.inj:=@Option.some.inj
theorem yB:type_of% @PySem.wpAny_bind:=@PySem.wpAny_bind
theorem yC:type_of% @PySem.wpAny_pure:=@PySem.wpAny_pure
theorem yD:type_of% @if_neg:=@if_neg
theorem yE:type_of% @if_pos:=@if_pos
theorem yF:type_of% @PySem.Heap.lt_size:=@PySem.Heap.lt_size
theorem yG:type_of% @eq_of_beq:=@eq_of_beq
theorem yH:type_of% @Nat.ble_eq_true_of_le:=@Nat.ble_eq_true_of_le
theorem yI:type_of% @List.append_assoc:=@List.append_assoc
theorem yJ:type_of% @List.lookup_cons:=@List.lookup_cons
theorem yK:type_of% @List.all_eq_true:=@List.all_eq_true
theorem yL:type_of% @PySem.wpAny_holding:=@PySem.wpAny_holding
theorem yM:type_of% @PySem.wpAny_mono:=@PySem.wpAny_mono
theorem yN:type_of% @Nat.lt_or_ge:=@Nat.lt_or_ge
theorem yO:type_of% @decide_eq_true:=@decide_eq_true
theorem yP:type_of% @List.length_cons:=@List.length_cons
theorem yQ:type_of% @Nat.le_of_lt:=@Nat.le_of_lt
theorem yR:type_of% @Nat.lt_irrefl:=@Nat.lt_irrefl
namespace L2
open PySem PySem.Spec PyProof.Rows
abbrev aZ:=Sum Int Str
def dW:aZ->Value->Bool
 | .inl k,v=>Value.isInt k v
 | .inr x,v=>Value.isStrOf x v
def Ef (w:World):aZ->Int
 | .inl k=>hashInt k
 | .inr x=>hashStr w x
theorem bV:∀ {k:aZ}{v:Value},dW k v=true->(∃ i t,k=Sum.inl i/\v=Value.int i t)\/(∃ x t,k=Sum.inr x/\v=Value.str x t)
 | .inl i,v,h=>by
  obtain ⟨t,e⟩:=Value.isInt_shape (k:=i) (v:=v) h;exact .inl ⟨i,t,rfl,e⟩
 | .inr x,v,h=>by
  obtain ⟨t,e⟩:=Value.isStrOf_shape (x:=x) (v:=v) h;exact .inr ⟨x,t,rfl,e⟩
theorem qi (i:Int) (t:Tok):dW (.inl i) (.int i t)=true:=by simp [dW,Value.isInt]
theorem qg (x:Str) (t:Tok):dW (.inr x) (.str x t)=true:=by simp [dW,Value.isStrOf]
theorem zb (a b:Int):decide ((Sum.inl a:aZ)=Sum.inl b)=(a == b):=by
 by_cases e:a=b
 ·subst e;simp
 ·have h:¬ (Sum.inl a:aZ)=Sum.inl b:=fun q=>e (Sum.inl.inj q)
  rw [z4 h];exact (beq_eq_false_iff_ne.mpr e).symm
theorem yY (a b:Str):decide ((Sum.inr a:aZ)=Sum.inr b)=decide (a=b):=by
 by_cases e:a=b
 ·subst e;simp
 ·have h:¬ (Sum.inr a:aZ)=Sum.inr b:=fun q=>e (Sum.inr.inj q)
  rw [z4 h,z4 e]
theorem za (a:Int) (b:Str):decide ((Sum.inl a:aZ)=Sum.inr b)=false:=z4 (fun q=>nomatch q)
theorem yZ (a:Str) (b:Int):decide ((Sum.inr a:aZ)=Sum.inl b)=false:=z4 (fun q=>nomatch q)
def bE (prog:Program) (w:World):PySem.KeyKind prog w aZ where
 is:=dW
 hash:=Ef w
 inj:=fun v a b ha hb=>by
  rcases bV ha with ⟨i,t,rfl,rfl⟩ | ⟨x,t,rfl,rfl⟩
  ·rcases bV hb with ⟨j,u,rfl,e⟩ | ⟨y,u,rfl,e⟩
   ·injection e with e1 _;rw [e1]
   ·exact nomatch e
  ·rcases bV hb with ⟨j,u,rfl,e⟩ | ⟨y,u,rfl,e⟩
   ·exact nomatch e
   ·injection e with e1 _;rw [e1]
 byValue:=fun k v h=>by
  rcases bV h with ⟨i,t,rfl,rfl⟩ | ⟨x,t,rfl,rfl⟩ <;> rfl
 pyHash:=fun hv h=>by
  rcases bV hv with ⟨i,t,rfl,rfl⟩ | ⟨x,t,rfl,rfl⟩
  ·exact wpAny_pyHash_int h
  ·exact wpAny_pyHash_str h
 eqBool:=fun hu hv h=>by
  rcases bV hu with ⟨i,t,rfl,rfl⟩ | ⟨x,t,rfl,rfl⟩
  ·rcases bV hv with ⟨j,u,rfl,rfl⟩ | ⟨y,u,rfl,rfl⟩
   ·rw [zb] at h;exact wpAny_eqBool_int h
   ·rw [za] at h;exact SeqAt.EqAt.int_str i t y u _ _ _ _ h
  ·rcases bV hv with ⟨j,u,rfl,rfl⟩ | ⟨y,u,rfl,rfl⟩
   ·rw [yZ] at h;exact SeqAt.EqAt.str_int x t j u _ _ _ _ h
   ·rw [yY] at h;exact wpAny_eqBool_str h
 «strs»:=fun k x t v h=>by
  rcases bV h with ⟨i,u,rfl,e⟩ | ⟨y,u,rfl,e⟩
  ·exact nomatch e
  ·injection e with e1 _
   subst e1;cases v <;> rfl
theorem my (prog:Program) (w:World) (i:Int) (t:Tok):(bE prog w).is (.inl i) (.int i t)=true:=qi i t
theorem mx (prog:Program) (w:World) (x:Str) (t:Tok):(bE prog w).is (.inr x) (.str x t)=true:=qg x t
inductive V where
 | non | bl (b:Bool) | int (i:Int) | str (x:Str) | byt (b:Array UInt8) | flt (b:UInt64) | ref (a:Addr) | ty (n:String)
 deriving DecidableEq
def RelV:V->Value->Prop
 | .non,u=>u=Value.none
 | .bl b,u=>u=Value.bool b
 | .int i,u=>∃ t,u=Value.int i t
 | .str x,u=>∃ t,u=Value.str x t
 | .byt b,u=>∃ t,u=Value.bytes b t
 | .flt b,u=>∃ t,u=Value.float b t
 | .ref a,u=>u=Value.ref a
 | .ty n,u=>u=Value.type n
abbrev Vals:List V->List Value->Prop:=Paired RelV
theorem Vals.length {xs:List V}{us:List Value} (r:Vals xs us):xs.length=us.length:=Paired.length r
theorem Vals.get:∀ {xs:List V}{us:List Value}{i:Nat}{x:V},Vals xs us->xs[i]?=some x->∃ u,us[i]?=some u/\RelV x u
 | _,_,_,_,.nil,e=>by simp at e
 | _,_,0,_,.cons r _,e=>by simp at e;subst e;exact ⟨_,rfl,r⟩
 | _,_,i + 1,x,.cons _ t,e=>by
  obtain ⟨u,h1,h2⟩:=Vals.get (i:=i) (x:=x) t (by simpa using e);exact ⟨u,by simpa using h1,h2⟩
theorem Vals.set {x:V}{u:Value} (r:RelV x u):∀ {xs:List V}{us:List Value} (i:Nat),Vals xs us->Vals (xs.set i x) (us.set i u)
 | _,_,_,.nil=>.nil
 | _,_,0,.cons _ t=>.cons r t
 | _,_,i + 1,.cons q t=>.cons q (Vals.set r i t)
theorem Vals.append:∀ {xs ys:List V}{us ws:List Value},Vals xs us->Vals ys ws->Vals (xs++ys) (us++ws):=by
 intro xs ys us ws h s
 induction h with
 | nil=>exact s
 | cons r t ih=>exact .cons r ih
theorem Vals.take:∀ {xs:List V}{us:List Value} (n:Nat),Vals xs us->Vals (xs.take n) (us.take n):=by
 intro xs us n h
 induction h generalizing n with
 | nil=>cases n <;> exact .nil
 | cons r t ih=>cases n with
  | zero=>exact .nil
  | succ n=>exact .cons r (ih n)
theorem Vals.drop:∀ {xs:List V}{us:List Value} (n:Nat),Vals xs us->Vals (xs.drop n) (us.drop n):=by
 intro xs us n h
 induction h generalizing n with
 | nil=>cases n <;> exact .nil
 | cons r t ih=>cases n with
  | zero=>exact .cons r t
  | succ n=>exact ih n
def RelO:Option V->Option Value->Prop
 | some v,some u=>RelV v u
 | none,none=>True
 | _,_=>False
def KV {κ:Type}:List (κ × V)->List (κ × Value)->Prop:=Paired fun (p:κ × V) (q:κ × Value)=>p.1=q.1/\RelV p.2 q.2
def kV:aZ->V
 | .inl i=>.int i
 | .inr x=>.str x
inductive HO where
  | lst (xs:List V)
  | tup (xs:List V)
  | dK (FP:List (aZ × V)) | dT (FP:List (List aZ × V))
  | set (S:Int->Bool) (n:Nat)
  | ins (C dx:Addr) (fs:List (Str × V))
  | own (x:Addr)
  | xd (fs:List (Str × V))
  | met (f x:Addr)
  | rng (lo hi:Int)
  | frz (o:Obj) (u:HO)
  | tbl (ps:Array Value)
  | ext (φ:Heap->Prop)
abbrev Hp:=Addr->Option HO
def ak (H:Hp) (a:Addr) (o:HO):Hp:=fun b=>if b=a then some o else H b
theorem aK {H:Hp}{a:Addr}{o:HO}:ak H a o a=some o:=by unfold ak;rw [yE rfl]
theorem ae {H:Hp}{a b:Addr}{o:HO} (h:b ≠ a):ak H a o b=H b:=by unfold ak;rw [yD h]
theorem n5 {H:Hp}{a b:Addr}{o u:HO} (h:H a=some o) (h':H b=some u) (d:o ≠ u):a ≠ b:=by
 intro e;subst e;rw [h] at h';exact d (yA h')
theorem bc {H:Hp}{a b:Addr}{o:HO} (h:H a=some o) (h':H b=none):a ≠ b:=by
 intro e;subst e;rw [h] at h';cases h'
section
variable (P:Program) (w:World)
def ObjOk (H:Hp) (h:Heap) (a:Addr):HO->Prop
 | .lst xs=>xs.length <= sizeLine/\∃ (FR:List Value) (n:Nat),Vals xs FR/\h.get? a=some { cls:=.type "list",data:=.seq FR.toArray n }
 | .tup xs=>xs.length <= sizeLine/\∃ FR:List Value,Vals xs FR/\IsTup h a FR.toArray
 | .dK FP=>FP.length <= sizeLine/\(a == sysModules)=false/\∃ vs,KV FP vs/\h.DictOf (bE P w) a vs
 | .dT FP=>FP.length <= sizeLine/\(a == sysModules)=false/\∃ xs:List (List aZ × Addr × Value),
   Paired (fun (p:List aZ × V) (q:List aZ × Addr × Value)=>p.1=q.1/\H q.2.1=some (.tup (p.1.map kV))/\RelV p.2 q.2.2) FP xs /\
   ∃ o es ep,h.get? a=some o/\o.ExactDict/\o.data=.dict es ep/\es.toList=xs.map (entryOfKey (tupleKind (bE P w)))/\(xs.map (·.1)).Nodup
 | .set S n=>h.SetOf (intKind P w) a S n
 | .ins C dx fs=>H dx=some (.own a)/\fs.length <= 1000/\dx ≠ a/\h.get? a=some (instObj C dx) /\
   ∃ mA,h.Ns1 dx mA/\(∀ f,RelO (fs.lookup f) (mA f))/\PySem.Within mA (fs.map (·.1))
 | .own _=>∃ o,h.get? a=some o
 | .xd fs=>∃ mA,h.Ns1 a mA/\∀ f,RelO (fs.lookup f) (mA f)
 | .rng lo hi=>∃ t u v,h.get? a=some { cls:=.type "range",data:=.fields #[.int lo t,.int hi u,.int 1 v] }
 | .frz o u=>h.get? a=some o/\ObjOk H h a u
 | .tbl ps=>h.get? a=some { cls:=.none,data:=.fields ps }
 | .met f x=>h.get? a=some (methodObj (.ref f) (.ref x))
 | .ext φ=>φ h/\(∃ o,h.get? a=some o)/\∀ h1 h2:Heap,φ h1->(∀ o,h1.get? a=some o->h2.get? a=some o)->φ h2
def HOk (H:Hp) (h:Heap):Prop:=∀ a o,H a=some o->ObjOk P w H h a o
end
section
variable {P:Program}{w:World}{H H':Hp}{h h':Heap}{a:Addr}{o:HO}
theorem ObjOk.lt (x:ObjOk P w H h a o):a < h.objs.size:=by
 cases o with
 | lst xs=>obtain ⟨_,_,_,_,e⟩:=x;exact yF e
 | tup xs=>obtain ⟨_,_,_,p⟩:=x;exact p.lt
 | dK FP=>obtain ⟨_,_,_,_,o,_,_,e,_⟩:=x;exact yF e
 | dT FP=>obtain ⟨_,_,_,_,o,_,_,e,_⟩:=x;exact yF e
 | set S n=>obtain ⟨o,_,_,_,e,_⟩:=x;exact yF e
 | ins C dx fs=>obtain ⟨_,_,_,e,_⟩:=x;exact yF e
 | own y=>obtain ⟨_,e⟩:=x;exact yF e
 | xd fs=>obtain ⟨_,⟨_,_,_,e,_⟩,_⟩:=x;exact yF e
 | rng lo hi=>obtain ⟨_,_,_,e⟩:=x;exact yF e
 | frz ob u=>obtain ⟨e,_⟩:=x;exact yF e
 | tbl ps=>exact yF (show h.get? a=some _ from x)
 | met f y=>exact yF (show h.get? a=some _ from x)
 | ext φ=>obtain ⟨_,⟨_,e⟩,_⟩:=x;exact yF e
theorem Paired.mapP {α β:Type}{F G:α->β->Prop}:∀ {l₁:List α}{l₂:List β},Paired F l₁ l₂->(∀ a b,F a b->G a b)->Paired G l₁ l₂:=by
 intro l₁ l₂ h f
 induction h with
 | nil=>exact .nil
 | cons r t ih=>exact .cons (f _ _ r) ih
theorem ObjOk.stay (x:ObjOk P w H h a o) (k:∀ b u,(b=a\/H b=some (.own a))->h.get? b=some u->h'.get? b=some u)
  (ho:∀ b,H b=some (.own a)->H' b=some (.own a)) (ht:∀ b xs,H b=some (.tup xs)->H' b=some (.tup xs)):ObjOk P w H' h' a o:=by
 induction o with
 | lst xs=>obtain ⟨z,FR,n,r,e⟩:=x;exact ⟨z,FR,n,r,k _ _ (.inl rfl) e⟩
 | tup xs=>obtain ⟨z,FR,r,ob,e,c⟩:=x;exact ⟨z,FR,r,ob,k _ _ (.inl rfl) e,c⟩
 | dK FP=>obtain ⟨z,y,vs,r,ob,es,ep,e,c⟩:=x;exact ⟨z,y,vs,r,ob,es,ep,k _ _ (.inl rfl) e,c⟩
 | dT FP =>
  obtain ⟨z,y,xs,r,ob,es,ep,e,c⟩:=x;exact ⟨z,y,xs,Paired.mapP r fun p q z=>⟨z.1,ht _ _ z.2.1,z.2.2⟩,ob,es,ep,k _ _ (.inl rfl) e,c⟩
 | set S n=>obtain ⟨ob,es,ep,t,e,c⟩:=x;exact ⟨ob,es,ep,t,k _ _ (.inl rfl) e,c⟩
 | ins C dx fs =>
  obtain ⟨d,z,ne,e,mA,⟨od,es,ep,e2,c⟩,r⟩:=x;exact ⟨ho _ d,z,ne,k _ _ (.inl rfl) e,mA,⟨od,es,ep,k _ _ (.inr d) e2,c⟩,r⟩
 | own y=>obtain ⟨ob,e⟩:=x;exact ⟨ob,k _ _ (.inl rfl) e⟩
 | xd fs=>obtain ⟨mA,⟨od,es,ep,e,c⟩,r⟩:=x;exact ⟨mA,⟨od,es,ep,k _ _ (.inl rfl) e,c⟩,r⟩
 | rng lo hi=>obtain ⟨t,u,v,e⟩:=x;exact ⟨t,u,v,k _ _ (.inl rfl) e⟩
 | frz ob u ih=>obtain ⟨e,q⟩:=x;exact ⟨k _ _ (.inl rfl) e,ih q⟩
 | tbl ps =>
  have e:h.get? a=some { cls:=.none,data:=.fields ps }:=x;show h'.get? a=some { cls:=.none,data:=.fields ps };exact k a _ (.inl rfl) e
 | met f y =>
  have e:h.get? a=some (methodObj (.ref f) (.ref y)):=x;show h'.get? a=some (methodObj (.ref f) (.ref y));exact k a _ (.inl rfl) e
 | ext φ=>obtain ⟨p,⟨o,e⟩,st⟩:=x;exact ⟨st _ _ p fun o q=>k _ _ (.inl rfl) q,⟨o,k _ _ (.inl rfl) e⟩,st⟩
theorem HOk.lt (x:HOk P w H h) (e:H a=some o):a < h.objs.size:=(x a o e).lt
theorem HOk.fresh (x:HOk P w H h) (e:h.objs.size <= a):H a=none:=by
 cases q:H a with
 | none=>rfl
 | some u=>exact absurd (zJ (x.lt q) e) (yR _)
theorem HOk.kept (x:HOk P w H h) (k:∀ b u,h.get? b=some u->h'.get? b=some u):HOk P w H h':=fun a o e =>
 (x a o e).stay (fun b u _ q=>k b u q) (fun _ q=>q) fun _ _ q=>q
theorem HOk.laid (x:HOk P w H h) (k:∀ b u,h.get? b=some u->h'.get? b=some u) (hp:h.objs.size <= a) (new:ObjOk P w (ak H a o) h' a o):HOk P w (ak H a o) h':=fun b u e=>by
 have hn:=x.fresh hp;by_cases hb:b=a
 ·subst hb;rw [aK] at e;cases e;exact new
 ·rw [ae hb] at e
  exact (x b u e).stay (fun c v _ q=>k c v q) (fun c q=>by rw [ae (bc q hn)];exact q) fun c xs q=>by rw [ae (bc q hn)];exact q
end
def Rd (H:Hp) (a:Addr) (u:HO):Prop:=H a=some u\/∃ o,H a=some (.frz o u)
theorem Rd.ok {P:Program}{w:World}{H:Hp}{h:Heap}{a:Addr}{u:HO} (r:Rd H a u) (x:HOk P w H h):ObjOk P w H h a u:=by
 rcases r with r | ⟨o,r⟩
 ·exact x a u r
 ·obtain ⟨_,q⟩:=x a _ r
  exact q
def qN:Option HO->Prop
 | some (.lst _)=>True
 | some (.dK _)=>True
 | some (.dT _)=>True
 | some (.set _ _)=>True
 | some (.ins _ _ _)=>True
 | some (.ext _)=>True
 | _=>False
section
variable {P:Program}{w:World}{H:Hp}{h h':Heap}{x e:Addr}{o':HO}
theorem HOk.write (ok:HOk P w H h) (mu:qN (H x)) (he:e=x\/H e=some (.own x)) (k:∀ b u,b ≠ e->h.get? b=some u->h'.get? b=some u) (heo:∃ u,h'.get? e=some u)
  (new:ObjOk P w (ak H x o') h' x o'):HOk P w (ak H x o') h':=fun b u q=>by
 have nown:∀ c y,H c=some (.own y)->c ≠ x:=fun c y r z=>by subst z;rw [r] at mu;exact mu
 have ntup:∀ c xs,H c=some (.tup xs)->c ≠ x:=fun c xs r z=>by subst z;rw [r] at mu;exact mu
 by_cases hb:b=x
 ·subst hb;rw [aK] at q;cases q;exact new
 ·rw [ae hb] at q
  by_cases hbe:b=e
  ·have q':H b=some (.own x):=by
    rcases he with z | z
    ·exact absurd (hbe.trans z) hb
    ·rw [hbe];exact z
   rw [q] at q';cases q';obtain ⟨v,hv⟩:=heo;exact ⟨v,by rw [hbe];exact hv⟩
  ·refine (ok b u q).stay (fun c v hc r=>k c v ?_ r) (fun c r=>by rw [ae (nown c b r)];exact r) fun c xs r=>by rw [ae (ntup c xs r)];exact r
   rcases hc with rfl | hc
   ·exact hbe
   ·rintro rfl
    rcases he with z | z
    ·exact nown c b hc z
    ·rw [hc] at z;cases z;exact hb rfl
end
structure Un (fs ex:List Addr) (H H':Hp) (h h':Heap):Prop where
 keep:∀ b o,h.get? b=some o->H b=none->b ∉ fs->b ∉ ex->h'.get? b=some o
 slot:∀ b o,h.get? b=some o->H b=none->b ∈ fs->b ∉ ex->∃ sl,h'.get? b=some { o with slots:=sl }
 free:∀ b o,h.get? b=some o->H b=none->b ∉ ex->H' b=none
 there:∀ b o,h.get? b=some o->b ∉ ex->∃ o',h'.get? b=some o'
 tups:∀ b xs,H b=some (.tup xs)->H' b=some (.tup xs)
 frzs:∀ b o u,H b=some (.frz o u)->H' b=some (.frz o u)
 tbls:∀ b ps,H b=some (.tbl ps)->∃ more,H' b=some (.tbl (ps++more))
section
variable {fs fs' ex ex':List Addr}{H H1 H2:Hp}{h h1 h2 h':Heap}{a x e:Addr}{o:HO}
theorem Un.any (u:Un fs ex H H1 h h1) {b:Addr}{ob:Obj} (q:h.get? b=some ob) (n:H b=none) (hx:b ∉ ex):∃ sl,h1.get? b=some { ob with slots:=sl }:=by
 by_cases hb:b ∈ fs
 ·exact u.slot b ob q n hb hx
 ·exact ⟨ob.slots,u.keep b ob q n hb hx⟩
theorem Un.kept (k:∀ b u,h.get? b=some u->h'.get? b=some u):Un fs ex H H h h' :=
 ⟨fun b ob q _ _ _=>k b ob q,fun b ob q _ _ _=>⟨ob.slots,k b ob q⟩,fun _ _ _ n _=>n,fun b ob q _=>⟨ob,k b ob q⟩,fun _ _ q=>q,fun _ _ _ q=>q,fun _ ps q=>⟨#[],by rw [q];simp⟩⟩
theorem Un.refl:Un fs ex H H h h:=Un.kept fun _ _ q=>q
theorem Un.laid (k:∀ b u,h.get? b=some u->h'.get? b=some u) (hp:h.objs.size <= a) (hn:H a=none):Un fs ex H (ak H a o) h h' where
 keep:=fun b u q _ _ _=>k b u q
 slot:=fun b u q _ _ _=>⟨u.slots,k b u q⟩
 free:=fun b u q n _=>by rw [ae (zT (zJ (yF q) hp))];exact n
 there:=fun b u q _=>⟨u,k b u q⟩
 tups:=fun b xs q=>by rw [ae (bc q hn)];exact q
 frzs:=fun b u xs q=>by rw [ae (bc q hn)];exact q
 tbls:=fun b ps q=>⟨#[],by rw [ae (bc q hn),q];simp⟩
theorem Un.write (mu:qN (H x)) (he:e=x\/H e=some (.own x)) (k:∀ b u,b ≠ e->h.get? b=some u->h'.get? b=some u) (heo:∃ u,h'.get? e=some u):Un fs ex H (ak H x o) h h':=by
 have hx:∀ b,H b=none->b ≠ x:=fun b n z=>by subst z;rw [n] at mu;exact mu
 have hb:∀ b,H b=none->b ≠ e:=fun b n z=>by
  subst z;rcases he with r | r
  ·exact hx b n r
  ·rw [n] at r;cases r
 have hm:∀ b u,H b=some u->¬ qN (some u)->b ≠ x:=fun b u q nm z=>by subst z;rw [q] at mu;exact nm mu
 refine ⟨fun b u q n _ _=>k b u (hb b n) q,fun b u q n _ _=>⟨u.slots,k b u (hb b n) q⟩,fun b u q n _=>by rw [ae (hx b n)];exact n,fun b u q _=>?_,
  fun b xs q=>by rw [ae (hm b _ q fun z=>z)];exact q,fun b u xs q=>by rw [ae (hm b _ q fun z=>z)];exact q,fun b ps q=>⟨#[],by rw [ae (hm b _ q fun z=>z),q];simp⟩⟩
 by_cases hbe:b=e
 ·subst hbe;exact heo
 ·exact ⟨u,k b u hbe q⟩
end
def tE (h:Heap) (H:Hp):List Addr:=(List.range h.objs.size).filter fun a=>(H a).isSome
def fq (h:Heap) (H:Hp):Heap:=hideAll h (tE h H)
theorem qk (h:Heap) (H:Hp):(fq h H).objs.size=h.objs.size:=hideAll_size _ _
theorem sS {h:Heap}{H:Hp}{b:Addr}{o:Obj} (e:h.get? b=some o) (n:H b=none):(fq h H).get? b=some o :=
 hideAll_get _ e fun hm=>by
  have q:(H b).isSome=true:=(List.mem_filter.mp hm).2;rw [n] at q;simp at q
theorem vE {h:Heap}{H:Hp}{b:Addr}{o:Obj} (e:(fq h H).get? b=some o):h.get? b=some o/\H b=none:=by
 have e':h.get? b=some o:=of_hideAll (tE h H) e;refine ⟨e',?_⟩;cases q:H b with
 | none=>rfl
 | some x =>
  have hm:b ∈ tE h H:=List.mem_filter.mpr ⟨List.mem_range.mpr (yF e'),by simp [q]⟩;have z:(fq h H).get? b=none:=hideAll_none (tE h H) hm;rw [z] at e;cases e
structure Mod (K:Frag) (mg:Str->Option Value) (base:Heap):Prop where
 kin:K.In base
 glob:base.Ns mainGlobals mg
 blt:∃ mb,base.Ns builtinsNs mb/\∀ x:Str,x ≠ "__name__"->mb x=bootBuiltins x
 nolimit:base.NoLimit
structure Cx where
 prog:Program
 w:World
 K:Frag
 mg:Str->Option Value
 base:Heap
 A:Around
 N:List Str
 s₀:Shared
 H₀:Hp
 env:Env
 outer:List Env
 stack:List Env
 ex:List Addr
 fn:Str->Bool
 calm:Bool
 pn:List (Addr × Obj)
 xe:Value->Shared->Prop
noncomputable def fH (l:List Env):List Addr:=l.filterMap (·.frame)
abbrev Cx.fs (X:Cx):List Addr:=fH X.outer
def qH (sc:Scope) (x:Str):Prop:=sc.names.lookup x=some .local\/sc.names.lookup x=some .cell\/sc.names.lookup x=some .free
def Loc (sc:Scope) (x:Str):Prop:=sc.names.lookup x=some .local\/sc.names.lookup x=some .cell
def EB (env:Env) (h:Heap) (m:Str->Option Value) (x:Str) (u:Value):Prop :=
 (env.kindOf x=some .local/\m x=some u)\/((env.kindOf x=some .cell\/env.kindOf x=some .free)/\∃ c,env.cells.lookup x=some c/\h.IsCell c (some u))
structure Cx.Ok (X:Cx):Prop where
 mod:Mod X.K X.mg X.base
 kind:X.env.scope.kind=.function
 glob:X.env.globals=mainGlobals
 blt:X.env.builtins=builtinsNs
 above:X.s₀.heap.objs.size <= X.env.locals
 inj:∀ x y c,X.env.cells.lookup x=some c->X.env.cells.lookup y=some c->x=y
 has:∀ x,(X.env.kindOf x=some .cell\/X.env.kindOf x=some .free)->∃ c,X.env.cells.lookup x=some c
 cab:∀ x c,X.fn x=true->X.env.cells.lookup x=some c->X.s₀.heap.objs.size <= c
 hd:X.calm=true->X.A.handled=none
 frames:X.A.frames=some X.stack
 stk:X.stack=X.outer\/(X.stack=X.env::X.outer/\X.env.frame=some X.env.locals)
 exf:∀ b ∈ X.ex,b ≠ X.env.locals/\∀ x c,X.env.cells.lookup x=some c->c ≠ b
 bs:∀ b o,X.base.get? b=some o->X.s₀.heap.get? b=some o/\X.H₀ b=none
 bsz:X.base.objs.size <= X.s₀.heap.objs.size
 noex:∀ b o,X.base.get? b=some o->b ∉ X.ex
 exfs:∀ b ∈ X.ex,b ∉ X.fs
 funs:X.s₀.heap.FunFrames X.base X.outer
 frf:∀ b ∈ X.fs,X.H₀ b=none
structure Inv (X:Cx) (FO:List (Addr × Obj)) (σ:List (Option V)) (H:Hp) (s:Shared):Prop where
 ok:X.Ok
 os:s.os=X.s₀.os
 bare:AllBare s.gens
 base:Un X.fs X.ex X.H₀ H X.s₀.heap s.heap
 loc:∃ m,s.heap.Ns X.env.locals m/\∀ (i:Nat) (x:Str) (v:V),X.N[i]?=some x->σ[i]?=some (some v)->qH X.env.scope x->∃ u,RelV v u/\EB X.env s.heap m x u
 cell:∀ x c,X.env.cells.lookup x=some c->∃ v,s.heap.IsCell c v
 free:H X.env.locals=none
 freeC:∀ x c,X.env.cells.lookup x=some c->H c=none
 pin:∀ p ∈ X.pn++FO,s.heap.get? p.1=some p.2/\H p.1=none/\p.1 ≠ X.env.locals/\p.1 ∉ X.fs/\∀ v,p.2.data ≠ .cell v
 FT:HOk X.prog X.w H s.heap
 len:σ.length=X.N.length
section
variable {X:Cx}{FO:List (Addr × Obj)}{σ:List (Option V)}{H H':Hp}{s:Shared}{h':Heap}
theorem Cx.Ok.nofr (ok:X.Ok) {b:Addr}{o:Obj} (e:X.base.get? b=some o):b ∉ X.fs:=fun hb=>by
 have:=(ok.funs.mem hb).1
 rw [e] at this;cases this
theorem Inv.bs (I:Inv X FO σ H s):∀ b o,X.base.get? b=some o->s.heap.get? b=some o/\H b=none:=fun b o e =>
 ⟨I.base.keep b o (I.ok.bs b o e).1 (I.ok.bs b o e).2 (I.ok.nofr e) (I.ok.noex b o e),I.base.free b o (I.ok.bs b o e).1 (I.ok.bs b o e).2 (I.ok.noex b o e)⟩
theorem Inv.bk (I:Inv X FO σ H s):∀ b o,X.base.get? b=some o->s.heap.get? b=some o:=fun b o e=>(I.bs b o e).1
theorem Inv.mod (I:Inv X FO σ H s):Mod X.K X.mg X.base:=I.ok.mod
theorem Inv.kIn (I:Inv X FO σ H s):X.K.In s.heap:=I.ok.mod.kin.keeps I.bk
theorem Inv.lt (I:Inv X FO σ H s):X.env.locals < s.heap.objs.size:=let ⟨_,hn,_⟩:=I.loc;hn.lt
theorem Inv.sz (I:Inv X FO σ H s):X.s₀.heap.objs.size <= s.heap.objs.size:=zZ I.ok.above (yQ I.lt)
theorem Inv.nofs (I:Inv X FO σ H s) {a:Addr} (h:s.heap.objs.size <= a):a ∉ X.fs:=fun hb=>by
 obtain ⟨_,o,ho,_⟩:=I.ok.funs.mem hb;exact absurd (zJ (yF ho) (zZ I.sz h)) (yR _)
theorem Inv.cne (I:Inv X FO σ H s):∀ x c,X.env.cells.lookup x=some c->c ≠ X.env.locals:=fun x c e z=>by
 obtain ⟨v,o,ho,hd⟩:=I.cell x c e;obtain ⟨m,⟨o',es,ep,ho',hd',_⟩,_⟩:=I.loc;rw [z,ho'] at ho;cases ho;rw [hd'] at hd;cases hd
theorem Inv.funs (I:Inv X FO σ H s):s.heap.FunFrames X.base X.outer:=by
 have all:∀ (l:List Env),(∀ b ∈ fH l,b ∈ X.fs)->X.s₀.heap.FunFrames X.base l->s.heap.FunFrames X.base l:=by
  intro l
  induction l with
  | nil=>intro _ _;trivial
  | cons env r ih =>
   intro hs hl;obtain ⟨hk,⟨L,o,hf,hn,ho,hd⟩,hr⟩:=hl;have hL:L ∈ X.fs:=hs L (by unfold fH;rw [List.filterMap_cons,hf];exact z3);obtain ⟨sl,e⟩:=I.base.slot L o ho (I.ok.frf L hL) hL fun z=>I.ok.exfs L z hL
   exact ⟨hk,⟨L,_,hf,hn,e,hd⟩,ih (fun b hb=>hs b (by unfold fH;rw [List.filterMap_cons,hf];exact zP _ hb)) hr⟩
 exact all X.outer (fun _ hb=>hb) I.ok.funs
theorem Inv.stack (I:Inv X FO σ H s):s.heap.FunFrames X.base X.stack:=by
 rcases I.ok.stk with e | ⟨e,hf⟩
 ·rw [e];exact I.funs
 ·rw [e]
  obtain ⟨m,hn,_⟩:=I.loc;refine .cons (by rw [I.ok.kind];decide) hf hn ?_ I.funs;exact Heap.get?_none_of_le (zZ I.ok.bsz I.ok.above)
theorem Inv.stkSub (I:Inv X FO σ H s):∀ b ∈ fH X.stack,b ∈ X.env.locals::X.fs:=fun b hb=>by
 rcases I.ok.stk with e | ⟨e,hf⟩
 ·rw [e] at hb;exact zP _ hb
 ·rw [e] at hb
  unfold fH at hb;rw [List.filterMap_cons,hf] at hb;exact hb
theorem Inv.stkFree (I:Inv X FO σ H s):∀ b ∈ fH X.stack,H b=none:=fun b hb=>by
 rcases zS.mp (I.stkSub b hb) with e | hb
 ·rw [e];exact I.free
 ·obtain ⟨_,o,ho,_⟩:=I.ok.funs.mem hb
  exact I.base.free b o ho (I.ok.frf b hb) fun z=>I.ok.exfs b z hb
theorem Inv.step {g':Array GenState}{t':Nat}{d':Drawn}{ch:List Addr} (I:Inv X FO σ H s)
  (hch:∀ b ∈ ch,(b ∈ X.ex\/X.s₀.heap.objs.size <= b)/\b ≠ X.env.locals/\(∀ x c,X.env.cells.lookup x=some c->c ≠ b)/\∀ p ∈ X.pn++FO,p.1 ≠ b)
  (keep:∀ b o,b ≠ X.env.locals->b ∉ X.fs->b ∉ ch->s.heap.get? b=some o->H b=none->h'.get? b=some o)
  (slot:∀ b o,b ≠ X.env.locals->b ∈ X.fs->b ∉ ch->s.heap.get? b=some o->H b=none->∃ sl,h'.get? b=some { o with slots:=sl }) (free:∀ b o,b ∉ ch->s.heap.get? b=some o->H b=none->H' b=none)
  (there:∀ b o,b ∉ ch->s.heap.get? b=some o->∃ o',h'.get? b=some o')
  (tups:∀ b xs,H b=some (.tup xs)->H' b=some (.tup xs)) (frzs:∀ b o u,H b=some (.frz o u)->H' b=some (.frz o u)) (tbls:∀ b ps,H b=some (.tbl ps)->∃ more,H' b=some (.tbl (ps++more)))
  (ns:∀ m,s.heap.Ns X.env.locals m->h'.Ns X.env.locals m) (FT:HOk X.prog X.w H' h') (hg:AllBare g') :
  Inv X FO σ H' { s with heap:=h',gens:=g',drawn:=d',toks:=t' }:=by
 have neL:∀ b o,X.s₀.heap.get? b=some o->b ≠ X.env.locals:=fun b o e=>zT (zJ (yF e) I.ok.above)
 have neC:∀ b o,X.s₀.heap.get? b=some o->b ∉ X.ex->b ∉ ch:=fun b o e hx hb=>by
  rcases (hch b hb).1 with z | z
  ·exact hx z
  ·exact absurd (zJ (yF e) z) (yR _)
 have cellK:∀ x c,X.env.cells.lookup x=some c->∀ v,s.heap.IsCell c v->h'.IsCell c v:=fun x c e v hq0=>by
  obtain ⟨o,ho,hd⟩:=hq0;have nch:c ∉ ch:=fun z=>(hch c z).2.2.1 x c e rfl
  by_cases hc:c ∈ X.fs
  ·obtain ⟨sl,q⟩:=slot c o (I.cne x c e) hc nch ho (I.freeC x c e)
   exact ⟨_,q,hd⟩
  ·exact ⟨o,keep c o (I.cne x c e) hc nch ho (I.freeC x c e),hd⟩
 refine ⟨I.ok,I.os,hg,⟨fun b o e n hb hx=>?_,fun b o e n hb hx=>?_,fun b o e n hx=>?_,fun b o e hx=>?_,fun b xs e=>tups b xs (I.base.tups b xs e),fun b o xs e=>frzs b o xs (I.base.frzs b o xs e),fun b ps e=>?_⟩,?_,fun x c e=>?_,?_,fun x c e=>?_,fun p hp=>?_,FT,I.len⟩
 ·exact keep b o (neL b o e) hb (neC b o e hx) (I.base.keep b o e n hb hx) (I.base.free b o e n hx)
 ·obtain ⟨sl,e1⟩:=I.base.slot b o e n hb hx
  obtain ⟨sl',e2⟩:=slot b _ (neL b o e) hb (neC b o e hx) e1 (I.base.free b o e n hx);exact ⟨sl',e2⟩
 ·obtain ⟨o',e1⟩:=I.base.there b o e hx
  exact free b o' (neC b o e hx) e1 (I.base.free b o e n hx)
 ·obtain ⟨o',e1⟩:=I.base.there b o e hx
  exact there b o' (neC b o e hx) e1
 ·obtain ⟨m1,e1⟩:=I.base.tbls b ps e
  obtain ⟨m2,e2⟩:=tbls b _ e1;exact ⟨m1++m2,by rw [e2,Array.append_assoc]⟩
 ·obtain ⟨m,hn,hl⟩:=I.loc
  refine ⟨m,ns m hn,fun i x v e1 e2 e3=>?_⟩;obtain ⟨u,r,l⟩:=hl i x v e1 e2 e3;refine ⟨u,r,?_⟩;rcases l with l | ⟨k,c,e,z⟩
  ·exact .inl l
  ·exact .inr ⟨k,c,e,cellK x c e _ z⟩
 ·obtain ⟨v,z⟩:=I.cell x c e
  exact ⟨v,cellK x c e v z⟩
 ·obtain ⟨m,⟨o,_,_,ho,_⟩,_⟩:=I.loc
  exact free _ o (fun z=>(hch _ z).2.1 rfl) ho I.free
 ·obtain ⟨v,o,ho,hd⟩:=I.cell x c e
  exact free c o (fun z=>(hch c z).2.2.1 x c e rfl) ho (I.freeC x c e)
 ·obtain ⟨e,n,ne,nf,d⟩:=I.pin p hp
  have nch:p.1 ∉ ch:=fun z=>(hch p.1 z).2.2.2 p hp rfl
  exact ⟨keep p.1 p.2 ne nf nch e n,free p.1 p.2 nch e n,ne,nf,d⟩
theorem Inv.un {t':Nat} (I:Inv X FO σ H s) (u:Un X.fs [] H H' s.heap h') (FT:HOk X.prog X.w H' h'):Inv X FO σ H' { s with heap:=h',toks:=t' }:=by
 obtain ⟨m,⟨o,es,ep,ho,r⟩,_⟩:=id I.loc;obtain ⟨sl,hL⟩:=u.any ho I.free (by simp);exact I.step (g':=s.gens) (d':=s.drawn) (ch:=[]) (fun _ z=>nomatch z) (fun b o _ hb _ e n=>u.keep b o e n hb (by simp)) (fun b o _ hb _ e n=>u.slot b o e n hb (by simp)) (fun b o _ e n=>u.free b o e n (by simp)) (fun b o _ e=>u.there b o e (by simp)) u.tups u.frzs u.tbls (fun m' hm=>by
  obtain ⟨o',es',ep',ho',r'⟩:=hm;rw [ho] at ho';cases ho';exact ⟨_,es',ep',hL,r'⟩) FT I.bare
theorem Inv.call {g':Array GenState}{t':Nat}{d':Drawn}{ch:List Addr} (I:Inv X FO σ H s) (u:Un (fH X.stack) ch H H' s.heap h') (FT:HOk X.prog X.w H' h') (hg:AllBare g')
  (hch:∀ b ∈ ch,(b ∈ X.ex\/X.s₀.heap.objs.size <= b)/\b ≠ X.env.locals/\(∀ x c,X.env.cells.lookup x=some c->c ≠ b)/\∀ p ∈ X.pn++FO,p.1 ≠ b) :
  Inv X FO σ H' { s with heap:=h',gens:=g',drawn:=d',toks:=t' }:=by
 obtain ⟨m,⟨o,es,ep,ho,r⟩,_⟩:=id I.loc;obtain ⟨sl,hL⟩:=u.any ho I.free fun z=>(hch _ z).2.1 rfl
 exact I.step (ch:=ch) hch (fun b o hL hb hc e n=>u.keep b o e n (fun z=>(zS.mp (I.stkSub b z)).elim hL hb) hc) (fun b o _ _ hc e n=>u.any e n hc) (fun b o hc e n=>u.free b o e n hc) (fun b o hc e=>u.there b o e hc) u.tups u.frzs u.tbls (fun m' hm=>by
  obtain ⟨o',es',ep',ho',r'⟩:=hm;rw [ho] at ho';cases ho';exact ⟨_,es',ep',hL,r'⟩) FT hg
theorem Inv.turned {t':Nat}{it:Addr} (I:Inv X FO σ H s) (k:∀ b o,b ≠ it->s.heap.get? b=some o->h'.get? b=some o) (hn:H it=none) (hL:it ≠ X.env.locals)
  (h1:it ∈ X.ex\/X.s₀.heap.objs.size <= it) (h2:∀ x c,X.env.cells.lookup x=some c->c ≠ it) (h3:∀ p ∈ X.pn++FO,p.1 ≠ it):Inv X FO σ H { s with heap:=h',toks:=t' }:=by
 have nit:∀ b u,H b=some u->b ≠ it:=fun b u e z=>by rw [z,hn] at e;cases e
 refine I.step (g':=s.gens) (d':=s.drawn) (ch:=[it]) (fun b hb=>?_) (fun b o _ _ hc e _=>k b o (fun z=>hc (by simp [z])) e) (fun b o _ _ hc e _=>⟨o.slots,k b o (fun z=>hc (by simp [z])) e⟩) (fun _ _ _ _ n=>n)
  (fun b o hc e=>⟨o,k b o (fun z=>hc (by simp [z])) e⟩) (fun _ _ e=>e) (fun _ _ _ e=>e) (fun b ps e=>⟨#[],by rw [e];simp⟩) (fun m hm=>?_) (fun b u e=>?_) I.bare
 ·have e:b=it:=by simpa using hb
  subst e;exact ⟨h1,hL,h2,h3⟩
 ·obtain ⟨o,es,ep,ho,r⟩:=hm
  exact ⟨o,es,ep,k _ o (Ne.symm hL) ho,r⟩
 ·refine (I.FT b u e).stay (fun c v hc q=>k c v ?_ q) (fun _ q=>q) fun _ _ q=>q
  rcases hc with z | z
  ·rw [z];exact nit b u e
  ·exact nit c _ z
theorem Inv.tok (I:Inv X FO σ H s) (t:Nat):Inv X FO σ H { s with toks:=t }:=I.un (h':=s.heap) (t':=t) Un.refl I.FT
theorem Inv.kept {t':Nat} (I:Inv X FO σ H s) (k:∀ b u,s.heap.get? b=some u->h'.get? b=some u):Inv X FO σ H { s with heap:=h',toks:=t' }:=I.un (Un.kept k) (I.FT.kept k)
theorem Inv.laid {a:Addr}{o:HO}{t':Nat} (I:Inv X FO σ H s) (k:∀ b u,s.heap.get? b=some u->h'.get? b=some u) (hp:s.heap.objs.size <= a) (new:ObjOk X.prog X.w (ak H a o) h' a o) :
  Inv X FO σ (ak H a o) { s with heap:=h',toks:=t' }:=I.un (Un.laid k hp (I.FT.fresh hp)) (I.FT.laid k hp new)
theorem Inv.write {x e:Addr}{o:HO}{t':Nat} (I:Inv X FO σ H s) (mu:qN (H x)) (he:e=x\/H e=some (.own x)) (k:∀ b u,b ≠ e->s.heap.get? b=some u->h'.get? b=some u) (heo:∃ u,h'.get? e=some u)
  (new:ObjOk X.prog X.w (ak H x o) h' x o):Inv X FO σ (ak H x o) { s with heap:=h',toks:=t' }:=I.un (Un.write mu he k heo) (I.FT.write mu he k heo new)
theorem Inv.pins_of {pins':List (Addr × Obj)} (I:Inv X FO σ H s) (h:∀ p ∈ pins',s.heap.get? p.1=some p.2/\H p.1=none/\p.1 ≠ X.env.locals/\p.1 ∉ X.fs/\∀ v,p.2.data ≠ .cell v):Inv X pins' σ H s :=
 ⟨I.ok,I.os,I.bare,I.base,I.loc,I.cell,I.free,I.freeC,fun p hp=>(zY.mp hp).elim (fun z=>I.pin p (List.mem_append_left _ z)) (h p),I.FT,I.len⟩
theorem lK {N:List Str} (hN:N.Nodup) {i j:Nat}{x:Str} (a:N[i]?=some x) (b:N[j]?=some x):i=j:=by
 obtain ⟨h1,e1⟩:=zB.mp a;obtain ⟨h2,e2⟩:=zB.mp b;exact (List.getElem_inj hN).mp (e1.trans e2.symm)
theorem ki {M:Model}{A:Around}{E:Value->Shared->Prop}{i:Nat}{x:Str}{v:V}{u:Value}{Q:Unit->Shared->Prop} (I:Inv X FO σ H s) (hN:X.N.Nodup) (hi:X.N[i]?=some x) (hx:Loc X.env.scope x) (r:RelV v u)
  (h:∀ s',Inv X FO (σ.set i (some v)) H s'->(∃ a,Heap.SameBut a s.heap s'.heap/\(a=X.env.locals\/X.env.cells.lookup x=some a))->Q () s') (hf:X.fn x=true\/X.env.scope.names.lookup x=some .local:=by first | exact .inl rfl | exact .inr rfl | assumption):wpAny M A (storeName X.env x u) Q E s:=by
 obtain ⟨m,hn,hl⟩:=id I.loc;have hcls:(X.env.scope.kind == .class || (X.env.scope.kind == .module && X.env.locals != X.env.globals))=false:=by rw [I.ok.kind];rfl
 have hiσ:i < σ.length:=by rw [I.len];exact (zB.mp hi).1
 have cne:=I.cne;have tracked:∀ {a:Addr}{h':Heap},(∃ o,s.heap.get? a=some o/\H a=none)->Heap.SameBut a s.heap h'->HOk X.prog X.w H h':=fun {a h'} ha hs b ob e=>by
  obtain ⟨_,_,hfree⟩:=ha;refine (I.FT b ob e).stay (fun c w' hc q=>(hs.2 c ?_).trans q) (fun _ q=>q) fun _ _ q=>q
  rintro rfl;rcases hc with rfl | hc
  ·rw [hfree] at e;cases e
  ·rw [hfree] at hc;cases hc
 rcases hx with hk | hk
 ·refine wpAny_storeName_local hk hn (fun h' hn' hs=>?_) hcls
  obtain ⟨oL,_,_,hoL,_⟩:=id hn;refine h _ ⟨I.ok,I.os,I.bare,⟨fun b o e n hb hx=>?_,fun b o e n hb hx=>?_,I.base.free,fun b o e hx=>?_,I.base.tups,I.base.frzs,I.base.tbls⟩,⟨_,hn',fun j y v' e1 e2 e3=>?_⟩,fun y c e=>?_,I.free,I.freeC,fun p hp=>?_,tracked ⟨oL,hoL,I.free⟩ hs,by simpa using I.len⟩ ⟨_,hs,.inl rfl⟩
  ·exact (hs.2 b (zT (zJ (yF e) I.ok.above))).trans (I.base.keep b o e n hb hx)
  ·obtain ⟨sl,e1⟩:=I.base.slot b o e n hb hx
   exact ⟨sl,(hs.2 b (zT (zJ (yF e) I.ok.above))).trans e1⟩
  ·obtain ⟨o',e1⟩:=I.base.there b o e hx
   exact ⟨o',(hs.2 b (zT (zJ (yF e) I.ok.above))).trans e1⟩
  ·by_cases hj:j=i
   ·subst hj
    rw [hi] at e1;cases e1;rw [List.getElem?_set_self hiσ] at e2;cases e2;exact ⟨u,r,.inl ⟨hk,by simp⟩⟩
   ·rw [List.getElem?_set_ne (Ne.symm hj)] at e2
    obtain ⟨u',r',q⟩:=hl j y v' e1 e2 e3;refine ⟨u',r',?_⟩;rcases q with ⟨k,e⟩ | ⟨k,c,e,z⟩
    ·refine .inl ⟨k,?_⟩
     have:y ≠ x:=fun e=>hj (lK hN e1 (e ▸ hi))
     simp [this,e]
    ·exact .inr ⟨k,c,e,z.sameBut hs (cne y c e)⟩
  ·obtain ⟨w',z⟩:=I.cell y c e
   exact ⟨w',z.sameBut hs (cne y c e)⟩
  ·obtain ⟨e,n,ne,nf,d⟩:=I.pin p hp
   exact ⟨(hs.2 p.1 ne).trans e,n,ne,nf,d⟩
 ·have hfn:X.fn x=true:=by
   rcases hf with z | z
   ·exact z
   ·rw [z] at hk;cases hk
  obtain ⟨c,hc⟩:=I.ok.has x (.inl hk);obtain ⟨w',z⟩:=I.cell x c hc;refine wpAny_storeName_cell I.ok.kind hk hc z (fun h' hc' hs=>?_);obtain ⟨oc,hoc,hocd⟩:=id z;refine h { s with heap:=h' } ⟨I.ok,I.os,I.bare,⟨fun b o e n hb hx=>?_,fun b o e n hb hx=>?_,I.base.free,fun b o e hx=>?_,I.base.tups,I.base.frzs,I.base.tbls⟩,⟨m,hn.sameBut hs (Ne.symm (cne x c hc)),fun j y v' e1 e2 e3=>?_⟩,fun y c' e=>?_,I.free,I.freeC,fun p hp=>?_,tracked ⟨oc,hoc,I.freeC x c hc⟩ hs,by simpa using I.len⟩ ⟨c,hs,.inr hc⟩
  ·exact (hs.2 b (zT (zJ (yF e) (I.ok.cab x c hfn hc)))).trans (I.base.keep b o e n hb hx)
  ·obtain ⟨sl,e1⟩:=I.base.slot b o e n hb hx
   exact ⟨sl,(hs.2 b (zT (zJ (yF e) (I.ok.cab x c hfn hc)))).trans e1⟩
  ·obtain ⟨o',e1⟩:=I.base.there b o e hx
   exact ⟨o',(hs.2 b (zT (zJ (yF e) (I.ok.cab x c hfn hc)))).trans e1⟩
  ·by_cases hj:j=i
   ·subst hj
    rw [hi] at e1;cases e1;rw [List.getElem?_set_self hiσ] at e2;cases e2;exact ⟨u,r,.inr ⟨.inl hk,c,hc,hc'⟩⟩
   ·rw [List.getElem?_set_ne (Ne.symm hj)] at e2
    obtain ⟨u',r',q⟩:=hl j y v' e1 e2 e3;refine ⟨u',r',?_⟩;rcases q with q | ⟨k,c',e,z'⟩
    ·exact .inl q
    ·refine .inr ⟨k,c',e,z'.sameBut hs ?_⟩
     rintro rfl;exact hj (lK hN e1 (I.ok.inj _ _ _ e hc ▸ hi))
  ·by_cases hcc:c'=c
   ·subst hcc;exact ⟨_,hc'⟩
   ·obtain ⟨w2,z2⟩:=I.cell y c' e
    exact ⟨w2,z2.sameBut hs hcc⟩
  ·obtain ⟨e,n,ne,nf,d⟩:=I.pin p hp
   refine ⟨(hs.2 p.1 ?_).trans e,n,ne,nf,d⟩;intro q;rw [q,hoc] at e;have q':oc=p.2:=yA e;exact d w' (by rw [<- q'];exact hocd)
theorem lx {M:Model}{A:Around}{E:Value->Shared->Prop}{i:Nat}{x:Str}{v:V}{u:Value}{Q:Unit->Shared->Prop} (I:Inv X FO σ H s) (hN:X.N.Nodup) (hi:X.N[i]?=some x) (hx:Loc X.env.scope x) (r:RelV v u)
  (h:∀ s',Inv X FO (σ.set i (some v)) H s'->Q () s') (hf:X.fn x=true\/X.env.scope.names.lookup x=some .local:=by first | exact .inl rfl | exact .inr rfl | assumption):wpAny M A (storeName X.env x u) Q E s :=
 ki I hN hi hx r (fun s' I' _=>h s' I') hf
theorem Inv.call' {s':Shared}{ch:List Addr} (I:Inv X FO σ H s) (ho:s'.os=s.os) (u:Un (fH X.stack) ch H H' s.heap s'.heap) (FT:HOk X.prog X.w H' s'.heap) (hg:AllBare s'.gens)
  (hch:∀ b ∈ ch,(b ∈ X.ex\/X.s₀.heap.objs.size <= b)/\b ≠ X.env.locals/\(∀ x c,X.env.cells.lookup x=some c->c ≠ b)/\∀ p ∈ X.pn++FO,p.1 ≠ b):Inv X FO σ H' s':=by
 obtain ⟨h',g',d',t',o'⟩:=s';have e:o'=s.os:=ho;subst e;exact I.call (g':=g') (t':=t') (d':=d') u FT hg hch
end
abbrev XK:=Value->Option Addr->Hp->Prop
abbrev St:=List (Option V)
abbrev VK:=V->Hp->Prop
abbrev TE:=St->Hp->VK->Prop
abbrev TT:=St->Hp->(Bool->Hp->Prop)->Prop
abbrev TA:=St->Hp->(List V->Hp->Prop)->Prop
structure fB where
 nx:St->Hp->Prop
 rt:VK
 bk:St->Hp->Prop:=fun _ _=>False
 ct:St->Hp->Prop:=fun _ _=>False
abbrev TS:=fB->St->Hp->Prop
def EP (X:Cx) (FO:List (Addr × Obj)) (σ:St) (Q:VK) (u:Value) (s':Shared):Prop:=∃ v H',Inv X FO σ H' s'/\RelV v u/\Q v H'
def TP (X:Cx) (FO:List (Addr × Obj)) (σ:St) (Q:Bool->Hp->Prop) (b:Bool) (s':Shared):Prop:=∃ H',Inv X FO σ H' s'/\Q b H'
def AP (X:Cx) (FO:List (Addr × Obj)) (σ:St) (Q:List V->Hp->Prop) (us:List Value) (s':Shared):Prop:=∃ vs H',Inv X FO σ H' s'/\Vals vs us/\Q vs H'
def SP (X:Cx) (FO:List (Addr × Obj)) (D:fB) (f:Flow) (s':Shared):Prop :=
 match f with
 | .next=>∃ σ' H',Inv X FO σ' H' s'/\D.nx σ' H'
 | .brk=>∃ σ' H',Inv X FO σ' H' s'/\D.bk σ' H'
 | .cont=>∃ σ' H',Inv X FO σ' H' s'/\D.ct σ' H'
 | .ret u=>∃ v σ' H',Inv X FO σ' H' s'/\RelV v u/\D.rt v H'
def PE (X:Cx) (e:Expr) (t:TE):Prop :=
 ∀ (FO:List (Addr × Obj)) (s:Shared) (σ:St) (H:Hp) (Q:VK),Inv X FO σ H s->t σ H Q->wpAny (model X.prog X.w) X.A (eval e X.env) (EP X FO σ Q) X.xe s
def PT (X:Cx) (e:Expr) (t:TT):Prop :=
 ∀ (FO:List (Addr × Obj)) (s:Shared) (σ:St) (H:Hp) (Q:Bool->Hp->Prop),Inv X FO σ H s->t σ H Q->wpAny (model X.prog X.w) X.A (isTrue e X.env (eval e X.env)) (TP X FO σ Q) X.xe s
def PW (X:Cx) (e:Expr) (t:TT):Prop :=
 ∀ (whole:Sem Value) (FO:List (Addr × Obj)) (s:Shared) (σ:St) (H:Hp) (Q:Bool->Hp->Prop),Inv X FO σ H s->t σ H Q->wpAny (model X.prog X.w) X.A (isTrue e X.env whole) (TP X FO σ Q) X.xe s
theorem PW.pt {X:Cx}{e:Expr}{t:TT} (h:PW X e t):PT X e t:=h _
def PA (X:Cx) (es:List Expr) (t:TA):Prop :=
 ∀ (pos:Pos) (FO:List (Addr × Obj)) (s:Shared) (σ:St) (H:Hp) (Q:List V->Hp->Prop),Inv X FO σ H s->t σ H Q->wpAny (model X.prog X.w) X.A (spliced (backTo pos (starEach es X.env))) (AP X FO σ Q) X.xe s
def PS (X:Cx) (st:Stmt) (t:TS):Prop :=
 ∀ (FO:List (Addr × Obj)) (s:Shared) (σ:St) (H:Hp) (D:fB),Inv X FO σ H s->t D σ H->wpAny (model X.prog X.w) X.A (exec st X.env) (SP X FO D) X.xe s
def PSs (X:Cx) (st:List Stmt) (t:TS):Prop :=
 ∀ (FO:List (Addr × Obj)) (s:Shared) (σ:St) (H:Hp) (D:fB),Inv X FO σ H s->t D σ H->wpAny (model X.prog X.w) X.A (execs st X.env) (SP X FO D) X.xe s
theorem aH {α:Type}{t:Sem α}{Q Q':α->Shared->Prop}{M:Model}{A:Around}{E:Value->Shared->Prop}{s:Shared} (h:wpAny M A t Q E s) (hQ:∀ a s,Q a s->Q' a s):wpAny M A t Q' E s:=yM h hQ fun _ _ x=>x
section
variable {X:Cx}
theorem bin {a b:Expr}{ta tb:TE} (ha:PE X a ta) (hb:PE X b tb) {FO:List (Addr × Obj)}{s:Shared}{σ:St}{H:Hp}{R:V->V->Hp->Prop} (I:Inv X FO σ H s) (h:ta σ H fun x H1=>tb σ H1 fun y H2=>R x y H2)
  {α:Type}{Q:α->Shared->Prop}{f:Value->Value->Sem α}
  (hf:∀ v u s2 x y H2,Inv X FO σ H2 s2->RelV x v->RelV y u->R x y H2->wpAny (model X.prog X.w) X.A (f v u) Q X.xe s2) :
  wpAny (model X.prog X.w) X.A (eval a X.env) (fun v s₁=>wpAny (model X.prog X.w) X.A (eval b X.env) (fun u s₂=>wpAny (model X.prog X.w) X.A (f v u) Q X.xe s₂) X.xe s₁) X.xe s:=by
 refine aH (ha FO s σ H _ I h) fun v s1 hq0=>?_
 obtain ⟨x,H1,I1,r1,q1⟩:=hq0;refine aH (hb FO s1 σ H1 _ I1 q1) fun u s2 hq0=>?_
 obtain ⟨y,H2,I2,r2,q2⟩:=hq0;exact hf v u s2 x y H2 I2 r1 r2 q2
noncomputable def Dt (i:Nat):TE:=fun σ H Q=>∃ v,σ[i]?=some (some v)/\Q v H
noncomputable def tC (v:V):TE:=fun _ H Q=>Q v H
theorem xL {i:Nat}{x:Str}{pos:Pos} (hN:X.N[i]?=some x) (hv:qH X.env.scope x) (hd:(x == ("__debug__":Str))=false:=by decide) (hcd:(x == ("__classdict__":Str))=false:=by decide):PE X (.Name x pos) (Dt i):=by
 intro FO s σ H Q I h;obtain ⟨v,e,h⟩:=h;obtain ⟨m,hn,hl⟩:=I.loc;obtain ⟨u,r,l⟩:=hl i x v hN e hv;have aA:EP X FO σ Q u s:=⟨v,H,I,r,h⟩;rcases l with ⟨hk,hm⟩ | ⟨hk,c,hc,hcell⟩
 ·exact wpAny_Name (wpAny_loadName_local I.ok.kind hk hn hm aA) hd
 ·rcases hk with hk | hk
  ·exact wpAny_Name (wpAny_loadName_cell I.ok.kind hk hc hcell aA) hd
  ·exact wpAny_Name (wpAny_loadName_free I.ok.kind hk hc hcell aA hcd) hd
theorem xQ {i j pos}:PE X (.Constant (.int i) j pos) (tC (.int i)):=fun _ _ _ H _ I h=>wpAny_Constant_int ⟨.int i,H,I.tok _,⟨_,rfl⟩,h⟩
theorem BD {b j pos}:PE X (.Constant (.bool b) j pos) (tC (.bl b)):=fun _ _ _ H _ I h=>Constant_bool ⟨.bl b,H,I,rfl,h⟩
theorem xP {j pos}:PE X (.Constant .none j pos) (tC .non):=fun _ _ _ H _ I h=>Constant_none ⟨.non,H,I,rfl,h⟩
theorem xN {x j pos}:PE X (.Constant (.str x) j pos) (tC (.str x)):=fun _ _ _ H _ I h=>Calls.Constant_str ⟨.str x,H,I.tok _,⟨_,rfl⟩,h⟩
def Gl (X:Cx) (x:Str):Prop:=X.env.kindOf x=some .globalImplicit
theorem hR {E:Value->Shared->Prop}{FO:List (Addr × Obj)}{s:Shared}{σ:St}{H:Hp}{x:Str}{u:Value}{pos:Pos}{Q:Value->Shared->Prop} (I:Inv X FO σ H s) (hg:Gl X x) (hm:X.mg x=some u) (h:Q u s)
  (hd:(x == ("__debug__":Str))=false:=by decide):wpAny (model X.prog X.w) X.A (eval (.Name x pos) X.env) Q E s :=
 Calls.Name_function_global I.ok.kind hg (Calls.loadGlobal_global (by rw [I.ok.glob];exact I.mod.glob.keeps I.bk) hm h) hd
theorem eI {E:Value->Shared->Prop}{FO:List (Addr × Obj)}{s:Shared}{σ:St}{H:Hp}{x:Str}{u:Value}{pos:Pos}{Q:Value->Shared->Prop} (I:Inv X FO σ H s) (hg:Gl X x) (hm:X.mg x=none) (hv:bootBuiltins x=some u) (h:Q u s)
  (hn:x ≠ "__name__":=by decide) (hd:(x == ("__debug__":Str))=false:=by decide):wpAny (model X.prog X.w) X.A (eval (.Name x pos) X.env) Q E s:=by
 obtain ⟨mb,h1,h2⟩:=I.mod.blt;exact Calls.Name_function_global I.ok.kind hg (Calls.loadGlobal_builtin (by rw [I.ok.glob];exact I.mod.glob.keeps I.bk) hm (by rw [I.ok.blt];exact h1.keeps I.bk) ((h2 x hn).trans hv) h) hd
theorem vp {x:Str}{v:V}{u:Value}{pos:Pos} (hg:Gl X x) (hm:X.mg x=some u) (r:RelV v u) (hd:(x == ("__debug__":Str))=false:=by decide):PE X (.Name x pos) (tC v) :=
 fun _ _ _ H _ I h=>hR I hg hm ⟨v,H,I,r,h⟩ hd
theorem vv {x:Str}{v:V}{u:Value}{pos:Pos} (hg:Gl X x) (hm:X.mg x=none) (hv:bootBuiltins x=some u) (r:RelV v u) (hn:x ≠ "__name__":=by decide) (hd:(x == ("__debug__":Str))=false:=by decide):PE X (.Name x pos) (tC v) :=
 fun _ _ _ H _ I h=>eI I hg hm hv ⟨v,H,I,r,h⟩ hn hd
variable {a b:Expr}{ta tb:TE}{pos:Pos}
theorem RelV.none_iff {x:V}{v:Value} (r:RelV x v):(v == Value.none)=decide (x=.non):=by
 cases x with
 | non=>cases r;rfl
 | bl _=>cases r;rfl
 | int _=>obtain ⟨t,rfl⟩:=r;rfl
 | str _=>obtain ⟨t,rfl⟩:=r;rfl
 | byt _=>obtain ⟨t,rfl⟩:=r;rfl
 | flt _=>obtain ⟨t,rfl⟩:=r;rfl
 | ref _=>cases r;rfl
 | ty _=>cases r;rfl
variable {tA tB':TT}{rest:List Expr}
noncomputable def DG (t u:TT):TT:=fun σ H Q=>t σ H fun c H1=>if c=true then u σ H1 Q else Q false H1
noncomputable def EJ (t u:TT):TT:=fun σ H Q=>t σ H fun c H1=>if c=true then Q true H1 else u σ H1 Q
noncomputable def Dy (t:TT):TT:=fun σ H Q=>t σ H fun c H1=>Q (!c) H1
theorem u0 (ha:PT X a tA):PW X (.BoolOp .And [a] pos) tA:=by
 intro wh FO s σ H Q I h;refine isTrue_and (aH (ha FO s σ H Q I h) fun c s1 e=>?_);cases c with
 | true=>exact isTrue_and_nil e
 | false=>exact e
theorem xy (ha:PT X a tA):PW X (.BoolOp .Or [a] pos) tA:=by
 intro wh FO s σ H Q I h;refine isTrue_or (aH (ha FO s σ H Q I h) fun c s1 e=>?_);cases c with
 | false=>exact isTrue_or_nil e
 | true=>exact e
theorem xz (ha:PT X a tA) (hb:PW X (.BoolOp .And (b::rest) pos) tB'):PW X (.BoolOp .And (a::b::rest) pos) (DG tA tB'):=by
 intro wh FO s σ H Q I h;refine isTrue_and (aH (ha FO s σ H _ I h) fun c s1 hq0=>?_);obtain ⟨H1,I1,q1⟩:=hq0;cases c with
 | true=>exact hb wh FO s1 σ H1 Q I1 q1
 | false=>exact ⟨H1,I1,q1⟩
theorem Br (ha:PT X a tA) (hb:PW X (.BoolOp .Or (b::rest) pos) tB'):PW X (.BoolOp .Or (a::b::rest) pos) (EJ tA tB'):=by
 intro wh FO s σ H Q I h;refine isTrue_or (aH (ha FO s σ H _ I h) fun c s1 hq0=>?_);obtain ⟨H1,I1,q1⟩:=hq0;cases c with
 | true=>exact ⟨H1,I1,q1⟩
 | false=>exact hb wh FO s1 σ H1 Q I1 q1
theorem xA (ha:PT X a tA):PT X (.UnaryOp .Not a pos) (Dy tA):=by
 intro FO s σ H Q I h;exact isTrue_not (ha FO s σ H (fun c H1=>Q (!c) H1) I h)
noncomputable def AY (ta tb:TE):TE:=fun σ H Q=>ta σ H fun x H1=>∃ c,x=.bl c/\if c=true then tb σ H1 Q else Q (.bl false) H1
noncomputable def Dx (ta tb:TE):TE:=fun σ H Q=>ta σ H fun x H1=>∃ c,x=.bl c/\if c=true then Q (.bl true) H1 else tb σ H1 Q
noncomputable def AT (ta:TE):TE:=fun σ H Q=>ta σ H fun x H1=>∃ c,x=.bl c/\Q (.bl (!c)) H1
theorem pL {op}{t:TE} (h:PE X a t):PE X (.BoolOp op [a] pos) t:=fun FO s σ H Q I hw=>BoolOp_one (h FO s σ H Q I hw)
theorem xT (ha:PE X a ta) (hb:PE X (.BoolOp .And (b::rest) pos) tb):PE X (.BoolOp .And (a::b::rest) pos) (AY ta tb):=by
 intro FO s σ H Q I h;refine BoolOp_and (aH (ha FO s σ H _ I h) fun v s1 hq0=>?_);obtain ⟨x,H1,I1,r1,q1⟩:=hq0;obtain ⟨c,rfl,q1⟩:=q1;cases r1;refine wpAny_truthy_bool ?_;cases c with
 | true=>exact hb FO s1 σ H1 Q I1 q1
 | false=>exact ⟨.bl false,H1,I1,rfl,q1⟩
theorem Bz (ha:PE X a ta) (hb:PE X (.BoolOp .Or (b::rest) pos) tb):PE X (.BoolOp .Or (a::b::rest) pos) (Dx ta tb):=by
 intro FO s σ H Q I h;refine BoolOp_or (aH (ha FO s σ H _ I h) fun v s1 hq0=>?_);obtain ⟨x,H1,I1,r1,q1⟩:=hq0;obtain ⟨c,rfl,q1⟩:=q1;cases r1;refine wpAny_truthy_bool ?_;cases c with
 | false=>exact hb FO s1 σ H1 Q I1 q1
 | true=>exact ⟨.bl true,H1,I1,rfl,q1⟩
theorem xO (ha:PE X a ta):PE X (.UnaryOp .Not a pos) (AT ta):=by
 intro FO s σ H Q I h;refine UnaryOp_ (aH (ha FO s σ H _ I h) fun v s1 hq0=>?_);obtain ⟨x,H1,I1,r1,q1⟩:=hq0;obtain ⟨c,rfl,q1⟩:=q1;cases r1;exact not_of (wpAny_truthy_bool ⟨.bl (!c),H1,I1,rfl,q1⟩)
noncomputable def EK (t:TT) (ta tb:TE):TE:=fun σ H Q=>t σ H fun c H1=>if c=true then ta σ H1 Q else tb σ H1 Q
theorem sf {c:Expr} (hc:PT X c tA) (ha:PE X a ta) (hb:PE X b tb):PE X (.IfExp c a b pos) (EK tA ta tb):=by
 intro FO s σ H Q I h;refine wpAny_IfExp (aH (hc FO s σ H _ I h) fun d s1 hq0=>?_);obtain ⟨H1,I1,q1⟩:=hq0;cases d with
 | true=>exact ha FO s1 σ H1 Q I1 q1
 | false=>exact hb FO s1 σ H1 Q I1 q1
end
def bx (K:Frag) (H:Hp) (a:Addr) (xs:List V):Prop :=
 Rd H a (.lst xs) \/
  ∃ (o:Obj) (FR:Array Value) (n:Nat),K.lookup a=some o/\o.cls=.type "list"/\o.dict=none/\o.data=.seq FR n/\FR.size <= sizeLine/\Vals xs FR.toList
def dh (K:Frag) (H:Hp) (a:Addr) (xs:List V):Prop :=
 Rd H a (.tup xs) \/
  ∃ (o:Obj) (FR:Array Value) (n:Nat),K.lookup a=some o/\o.cls=.type "tuple"/\o.data=.seq FR n/\FR.size <= sizeLine/\Vals xs FR.toList
noncomputable def Ey:Value->Option V
 | .none=>some .non
 | .bool b=>some (.bl b)
 | .int i _=>some (.int i)
 | .str x _=>some (.str x)
 | .bytes b _=>some (.byt b)
 | .float b _=>some (.flt b)
 | .ref a=>some (.ref a)
 | .type n=>some (.ty n)
 | _=>none
theorem RelV.abs {x:V}{u:Value} (r:RelV x u):Ey u=some x:=by
 cases x with
 | non=>cases r;rfl
 | bl _=>cases r;rfl
 | int _=>obtain ⟨t,rfl⟩:=r;rfl
 | str _=>obtain ⟨t,rfl⟩:=r;rfl
 | byt _=>obtain ⟨t,rfl⟩:=r;rfl
 | flt _=>obtain ⟨t,rfl⟩:=r;rfl
 | ref _=>cases r;rfl
 | ty _=>cases r;rfl
theorem RelV.inj {x y:V}{u:Value} (r:RelV x u) (q:RelV y u):x=y:=yA (r.abs.symm.trans q.abs)
theorem Vals.inj {xs ys:List V}{us:List Value} (h:Vals xs us):Vals ys us->xs=ys:=by
 induction h generalizing ys with
 | nil=>intro h';cases h';rfl
 | cons r t ih =>
  intro h';cases h' with
  | cons r' t'=>rw [r.inj r',ih t']
section
variable {X:Cx}{FO:List (Addr × Obj)}{σ:St}{H:Hp}{s:Shared}{a:Addr}{xs ys:List V}
theorem Inv.list (I:Inv X FO σ H s) (h:bx X.K H a xs):∃ FR:List Value,Vals xs FR/\PlainL s.heap a FR.toArray/\xs.length <= sizeLine:=by
 rcases h with h | ⟨o,FR,n,hk,hc,hd,hs,hz,r⟩
 ·obtain ⟨z,FR,n,r,e⟩:=h.ok I.FT
  exact ⟨FR,r,⟨_,n,e,rfl,rfl,rfl⟩,z⟩
 ·refine ⟨FR.toList,r,⟨o,n,I.kIn a o hk,hc,hd,by simpa using hs⟩,?_⟩
  have e:=r.length;simp only [Array.length_toList] at e;omega
theorem Inv.tuple (I:Inv X FO σ H s) (h:dh X.K H a xs):∃ FR:List Value,Vals xs FR/\IsTup s.heap a FR.toArray/\xs.length <= sizeLine:=by
 rcases h with h | ⟨o,FR,n,hk,hc,hs,hz,r⟩
 ·obtain ⟨z,FR,r,p⟩:=h.ok I.FT
  exact ⟨FR,r,p,z⟩
 ·refine ⟨FR.toList,r,⟨o,I.kIn a o hk,hc,n,by simpa using hs⟩,?_⟩
  have e:=r.length;simp only [Array.length_toList] at e;omega
theorem Inv.list_inj (I:Inv X FO σ H s) (h:bx X.K H a xs) (h':bx X.K H a ys):xs=ys:=by
 obtain ⟨FR,r,⟨o,n,e,_,_,d⟩,_⟩:=I.list h;obtain ⟨its',r',⟨o',n',e',_,_,d'⟩,_⟩:=I.list h';rw [e] at e';cases e';rw [d] at d';injection d' with d1 _;have:FR=its':=by simpa using congrArg Array.toList d1
 subst this;exact r.inj r'
theorem Inv.tuple_inj (I:Inv X FO σ H s) (h:dh X.K H a xs) (h':dh X.K H a ys):xs=ys:=by
 obtain ⟨FR,r,⟨o,e,_,n,d⟩,_⟩:=I.tuple h;obtain ⟨its',r',⟨o',e',_,n',d'⟩,_⟩:=I.tuple h';rw [e] at e';cases e';rw [d] at d';injection d' with d1 _;have:FR=its':=by simpa using congrArg Array.toList d1
 subst this;exact r.inj r'
end
abbrev Cx.wish (X:Cx) (E:Value->Shared->Prop):Cx:={ X with xe:=E }
abbrev Cx.nox (X:Cx):Cx:=X.wish fun _ _=>False
theorem Cx.Ok.wish {X:Cx} (ok:X.Ok) (E:Value->Shared->Prop):(X.wish E).Ok :=
 ⟨ok.mod,ok.kind,ok.glob,ok.blt,ok.above,ok.inj,ok.has,ok.cab,ok.hd,ok.frames,ok.stk,ok.exf,ok.bs,ok.bsz,ok.noex,ok.exfs,ok.funs,ok.frf⟩
theorem Cx.Ok.unwish {X:Cx}{E:Value->Shared->Prop} (ok:(X.wish E).Ok):X.Ok :=
 ⟨ok.mod,ok.kind,ok.glob,ok.blt,ok.above,ok.inj,ok.has,ok.cab,ok.hd,ok.frames,ok.stk,ok.exf,ok.bs,ok.bsz,ok.noex,ok.exfs,ok.funs,ok.frf⟩
section
variable {X:Cx}{FO:List (Addr × Obj)}{σ:St}{H:Hp}{s:Shared}{E:Value->Shared->Prop}
theorem Inv.wish (I:Inv X FO σ H s) (E:Value->Shared->Prop):Inv (X.wish E) FO σ H s:=⟨I.ok.wish E,I.os,I.bare,I.base,I.loc,I.cell,I.free,I.freeC,I.pin,I.FT,I.len⟩
theorem Inv.unwish (I:Inv (X.wish E) FO σ H s):Inv X FO σ H s:=⟨I.ok.unwish,I.os,I.bare,I.base,I.loc,I.cell,I.free,I.freeC,I.pin,I.FT,I.len⟩
theorem SP.unwish {D:fB}{f:Flow}{s':Shared} (h:SP (X.wish E) FO D f s'):SP X FO D f s':=by
 cases f with
 | next=>obtain ⟨σ',H',I,q⟩:=h;exact ⟨σ',H',I.unwish,q⟩
 | brk=>obtain ⟨σ',H',I,q⟩:=h;exact ⟨σ',H',I.unwish,q⟩
 | cont=>obtain ⟨σ',H',I,q⟩:=h;exact ⟨σ',H',I.unwish,q⟩
 | ret u=>obtain ⟨v,σ',H',I,r,q⟩:=h;exact ⟨v,σ',H',I.unwish,r,q⟩
theorem PSs.nox {st:List Stmt}{t:TS} (h:PSs X.nox st t):PSs X st t:=fun FO s σ H D I hw =>
 yM (h FO s σ H D (I.wish _) hw) (fun _ _ q=>q.unwish) fun _ _ z=>False.elim z
end
section
variable {X:Cx}{st:Stmt}{rest:List Stmt}{t u:TS}{e:Expr}{te:TE}{pos:Pos}
noncomputable def AU:TS:=fun D σ H=>D.nx σ H
noncomputable def Dv (t u:TS):TS:=fun D σ H=>t { D with nx:=u D } σ H
theorem u5:PSs X [] AU:=fun _ _ σ H _ I h=>wpAny_execs_nil ⟨σ,H,I,h⟩
theorem rQ (h1:PS X st t) (h2:PSs X rest u):PSs X (st::rest) (Dv t u):=by
 intro FO s σ H D I h;refine wpAny_execs_cons (aH (h1 FO s σ H { D with nx:=u D } I h) fun f s1 q=>?_);cases f with
 | next =>
  obtain ⟨σ',H',I',q⟩:=q;exact h2 FO s1 σ' H' D I' q
 | ret v=>exact q
 | brk=>exact q
 | cont=>exact q
theorem Inv.quiet {FO:List (Addr × Obj)}{σ:St}{H:Hp}{s:Shared} (I:Inv X FO σ H s):interactive X.env=false:=by simp [interactive,I.ok.kind]
noncomputable def AW (te:TE):TS:=fun D σ H=>te σ H fun _ H1=>D.nx σ H1
theorem u7 (he:PE X e te) (hs:swapsWith e none pos.line X.env=pure false:=by rfl):PS X (.Expr e pos) (AW te):=by
 intro FO s σ H D I h;exact wpAny_Expr_any (aH (he FO s σ H _ I h) fun v s1 ⟨x,H1,I1,r1,q1⟩=>⟨σ,H1,I1,q1⟩) I.quiet hs
noncomputable def Dw (te:TE):TS:=fun D σ H=>te σ H D.rt
theorem xC (he:PE X e te):PS X (.Return (some e) pos) (Dw te):=by
 intro FO s σ H D I h;exact wpAny_Return_some (aH (he FO s σ H _ I h) fun v s1 ⟨x,H1,I1,r1,q1⟩=>⟨x,σ,H1,I1,r1,q1⟩)
noncomputable def DA (c:TT) (t u:TS):TS:=fun D σ H=>c σ H fun b H1=>if b=true then t D σ H1 else u D σ H1
theorem Bs {c:Expr}{a b:List Stmt}{tc:TT} (hc:PT X c tc) (ha:PSs X a t) (hb:PSs X b u):PS X (.If c a b pos) (DA tc t u):=by
 intro FO s σ H D I h;refine wpAny_If (aH (hc FO s σ H _ I h) fun d s1 hq0=>?_);obtain ⟨H1,I1,q1⟩:=hq0;cases d with
 | true=>exact ha FO s1 σ H1 D I1 q1
 | false=>exact hb FO s1 σ H1 D I1 q1
noncomputable def o0:TS:=fun _ _ _=>False
theorem rV:PS X st o0:=fun _ _ _ _ _ _ h=>h.elim
theorem pC {sts:List Stmt}:PSs X sts o0:=fun _ _ _ _ _ _ h=>h.elim
end
abbrev TG:=V->St->Hp->(St->Hp->Prop)->Prop
abbrev iN:=List V->St->Hp->(St->Hp->Prop)->Prop
def PG (X:Cx) (target:Expr) (t:TG):Prop :=
 ∀ (FO:List (Addr × Obj)) (s:Shared) (σ:St) (H:Hp) (v:V) (u:Value) (Q:St->Hp->Prop),Inv X FO σ H s->RelV v u->t v σ H Q ->
  wpAny (model X.prog X.w) X.A (assign target X.env u) (fun _ s'=>∃ σ' H',Inv X FO σ' H' s'/\Q σ' H') X.xe s
def kO (X:Cx) (ts:List Expr) (t:iN):Prop :=
 ∀ (FO:List (Addr × Obj)) (s:Shared) (σ:St) (H:Hp) (vs:List V) (us:List Value) (Q:St->Hp->Prop),Inv X FO σ H s->Vals vs us->t vs σ H Q ->
  wpAny (model X.prog X.w) X.A (assignInOrder ((assignEach ts X.env).map (·.2)) us) (fun _ s'=>∃ σ' H',Inv X FO σ' H' s'/\Q σ' H') X.xe s
abbrev tz:=V->V->V->Hp->(Hp->Prop)->Prop
def tD (X:Cx) (t:tz):Prop :=
 ∀ (FO:List (Addr × Obj)) (s:Shared) (σ:St) (H:Hp) (o i v:V) (ov iv u:Value) (Q:Hp->Prop),Inv X FO σ H s->RelV o ov->RelV i iv->RelV v u->t o i v H Q ->
  wpAny (model X.prog X.w) X.A (setItem ov iv u) (fun _ s'=>∃ H',Inv X FO σ H' s'/\Q H') X.xe s
section
variable {X:Cx}{pos:Pos}
noncomputable def jw (i:Nat):TG:=fun v σ H Q=>Q (σ.set i (some v)) H
theorem vm {i:Nat}{x:Str} (hN:X.N.Nodup) (hi:X.N[i]?=some x) (hx:Loc X.env.scope x) (hf:X.fn x=true\/X.env.scope.names.lookup x=some .local:=by first | exact .inl rfl | exact .inr rfl | assumption):PG X (.Name x pos) (jw i):=by
 intro FO s σ H v u Q I r h;exact wpAny_assign_Name (lx I hN hi hx r (fun s' I'=>⟨_,H,I',h⟩) hf)
noncomputable def En:iN:=fun vs σ H Q=>vs=[]/\Q σ H
noncomputable def B5 (t:TG) (u:iN):iN:=fun vs σ H Q=>∃ v r,vs=v::r/\t v σ H fun σ' H'=>u r σ' H' Q
theorem vi:kO X [] En:=by
 intro FO s σ H vs us Q I r h;obtain ⟨e,h⟩:=h;subst e;cases r;exact assignInOrder_nil ⟨σ,H,I,h⟩
theorem rY {e:Expr}{es:List Expr}{t:TG}{u:iN} (h1:PG X e t) (h2:kO X es u)
  (hs:(assignEach (e::es) X.env).map (·.2)=assign e X.env::(assignEach es X.env).map (·.2):=by rfl):kO X (e::es) (B5 t u):=by
 intro FO s σ H vs us Q I r h;obtain ⟨v,vr,e1,h⟩:=h;subst e1;cases r with
 | cons r rr =>
  rw [hs];refine assignInOrder_cons (aH (h1 FO s σ H _ _ _ I r h) fun _ s1 hq0=>?_);obtain ⟨σ1,H1,I1,q1⟩:=hq0;exact h2 FO s1 σ1 H1 _ _ Q I1 rr q1
noncomputable def El (K:Frag) (n:Nat) (t:iN):TG:=fun v σ H Q=>∃ a xs,v=.ref a/\dh K H a xs/\xs.length=n/\t xs σ H Q
theorem xJ {es:List Expr}{k:Nat}{t:iN}{n:Nat} (hc:X.calm=true) (h:kO X es t)
  (hn:(assignEach es X.env).length=n:=by rfl) (hst:(assignEach es X.env).findIdx? (·.1)=none:=by rfl):PG X (.Tuple es k pos) (El X.K n t):=by
 intro FO s σ H v u Q I r hw;obtain ⟨a,xs,e1,hq,hl,hw⟩:=hw;subst e1;cases r;obtain ⟨FR,rv,ht,hz⟩:=I.tuple hq;refine assign_Tuple_tuple (I.ok.hd hc) ht (by simp [hn,<- hl,rv.length]) hst fun h' hx=>?_
 have I1:Inv X FO σ H { s with heap:=h' }:=I.kept (t':=s.toks) fun b o e=>hx b o (zT (yF e)) e
 exact h FO _ σ H xs _ Q I1 (by simpa using rv) hw
noncomputable def Em (to ti:TE) (t:tz):TG:=fun v σ H Q=>to σ H fun o H1=>ti σ H1 fun i H2=>t o i v H2 fun H3=>Q σ H3
theorem xK {o i:Expr}{to ti:TE}{t:tz} (ho:PE X o to) (hi:PE X i ti) (hs:tD X t)
  (ha:∀ v,assign (.Subscript o i pos) X.env v=(do
   let ov <- holding [v] (eval o X.env)
   let iv <- holding [v,ov] (eval i X.env)
   standAt pos
   holding [v,ov,iv] (setItem ov iv v)
   release [v,ov,iv] []):=by intro _;rfl):PG X (.Subscript o i pos) (Em to ti t):=by
 intro FO s σ H v u Q I r h;rw [ha];refine yB (yL (aH (ho FO s σ H _ I h) fun ov s1 hq0=>?_));obtain ⟨x,H1,I1,r1,q1⟩:=hq0;refine yB (yL (aH (hi FO s1 σ H1 _ I1 q1) fun iv s2 hq0=>?_));obtain ⟨y,H2,I2,r2,q2⟩:=hq0;refine yB (wpAny_standAt (yB (yL (aH (hs FO s2 σ H2 x y v ov iv u _ I2 r1 r2 r q2) fun _ s3 hq0=>?_))));obtain ⟨H3,I3,q3⟩:=hq0;exact wpAny_release ⟨σ,H3,I3,q3⟩
noncomputable def nR (te:TE) (g:TG):TS:=fun D σ H=>te σ H fun x H1=>g x σ H1 D.nx
theorem xE {tg e:Expr}{te:TE}{g:TG} (he:PE X e te) (hg:PG X tg g) (hs:swapsWithSole [tg] e pos.line X.env=pure false:=by rfl) (hw:swappedStores [tg] e X.env=pure none:=by rfl)
  (h1:(assignEach [tg] X.env).map (·.2)=[assign tg X.env]:=by rfl):PS X (.Assign [tg] e pos) (nR te g):=by
 intro FO s σ H D I h;refine wpAny_Assign_stores (aH (he FO s σ H _ I h) fun v s1 hq0=>?_) hs hw;obtain ⟨x,H1,I1,r1,q1⟩:=hq0;rw [h1];exact aH (hg FO s1 σ H1 x v _ I1 r1 q1) fun _ s2 q=>q
theorem xB {i:Nat}{x:Str}{e:Expr}{te:TE}{pos':Pos} (hN:X.N.Nodup) (hi:X.N[i]?=some x) (hx:Loc X.env.scope x) (he:PE X e te) (hs:swapsWith e (some (.Name x pos')) pos.line X.env=pure false:=by rfl) (hf:X.fn x=true\/X.env.scope.names.lookup x=some .local:=by first | exact .inl rfl | exact .inr rfl | assumption) :
  PS X (.Assign [.Name x pos'] e pos) (nR te (jw i)):=by
 intro FO s σ H D I h;refine wpAny_Assign_Name (aH (he FO s σ H _ I h) fun v s1 hq0=>?_) hs;obtain ⟨y,H1,I1,r1,q1⟩:=hq0;exact lx I1 hN hi hx r1 (fun s2 I2=>⟨_,H1,I2,q1⟩) hf
end
section
variable {X:Cx}{pos:Pos}
def wF (c:TT) (tb:TS):TS:=fun D σ H=>∃ W:Nat->St->Hp->Prop,(∃ m,W m σ H)/\∀ m σ H,W m σ H ->
 c σ H fun b H1=>if b=true then ∃ N:St->Hp->Prop,(∀ σ' H',N σ' H'->∃ m',m' < m/\W m' σ' H')/\tb { D with nx:=N,ct:=N,bk:=D.nx } σ H1 else D.nx σ H1
theorem rR {c:Expr}{body:List Stmt}{tc:TT}{tb:TS} (hp:PassesOwn (model X.prog X.w) X.A X.env X.xe) (hc:PT X c tc) (hb:PSs X body tb):PS X (.While c body [] pos) (wF tc tb):=by
 intro FO s σ H D I h;obtain ⟨W,⟨m0,w0⟩,turn⟩:=h;refine wpAny_While (codeAny_whileLoop (fun n s'=>∃ σ' H',Inv X FO σ' H' s'/\W n σ' H') ?_ m0 ⟨σ,H,I,w0⟩);rintro n s1 ⟨σ1,H1,I1,w1⟩;refine wpAny_passesOwn hp (aH (hc FO s1 σ1 H1 _ I1 (turn n σ1 H1 w1)) fun b s2 hq0=>?_);obtain ⟨H2,I2,q2⟩:=hq0;cases b with
 | true =>
  obtain ⟨N,hN,q2⟩:=q2;rw [yE rfl];refine wpAny_passesOwn hp (aH (hb FO s2 σ1 H2 _ I2 q2) fun f s3 q3=>?_);cases f with
  | next =>
   obtain ⟨σ3,H3,I3,n3⟩:=q3;obtain ⟨m',hm,w3⟩:=hN σ3 H3 n3;exact ⟨m',hm,σ3,H3,I3,w3⟩
  | cont =>
   obtain ⟨σ3,H3,I3,n3⟩:=q3;obtain ⟨m',hm,w3⟩:=hN σ3 H3 n3;exact ⟨m',hm,σ3,H3,I3,w3⟩
  | brk=>exact q3
  | ret v=>exact q3
 | false =>
  rw [yD Bool.false_ne_true];exact wpAny_execs_nil ⟨σ1,H2,I2,q2⟩
end
structure It where
 go:Nat->Hp->Prop
 yld:Nat->Hp->V->Hp->Prop
 stop:Nat->Hp->Prop
def cL (X:Cx) (FO:List (Addr × Obj)) (H:Hp) (b:Addr):Prop :=
 H b=none/\b ≠ X.env.locals/\b ∉ X.fs/\(b ∈ X.ex\/X.s₀.heap.objs.size <= b)/\(∀ x c,X.env.cells.lookup x=some c->c ≠ b)/\∀ p ∈ X.pn++FO,p.1 ≠ b
theorem Inv.fpOk {X:Cx}{FO:List (Addr × Obj)}{σ:St}{H H':Hp}{s:Shared}{b:Addr} (I:Inv X FO σ H s) (hb:s.heap.objs.size <= b) (hn:H' b=none):cL X FO H' b:=by
 refine ⟨hn,Nat.ne_of_gt (zJ I.lt hb),I.nofs hb,.inr (zZ I.sz hb),fun x c e z=>?_,fun p hp z=>?_⟩
 ·obtain ⟨v,q⟩:=I.cell x c e
  exact absurd (zJ q.lt (by rw [z];exact hb)) (yR _)
 ·exact absurd (zJ (yF (I.pin p hp).1) (by rw [z];exact hb)) (yR _)
structure f9 (P:Program) (w:World) (K:Frag) (tg:Expr) (J:It) (fp:List Addr) (it:Addr) (tn:Nat->Heap->Prop):Prop where
 mem:it ∈ fp
 obj:∀ i h,tn i h->∀ b ∈ fp,∃ o,h.get? b=some o/\∀ v,o.data ≠ .cell v
 keep:∀ i h h',tn i h->(∀ b ∈ fp,∀ o,h.get? b=some o->h'.get? b=some o)->tn i h'
 item:∀ (X:Cx),X.prog=P->X.w=w->X.K=K->X.calm=true->∀ (i:Nat) (FO:List (Addr × Obj)) (s:Shared) (σ:St) (H:Hp) (E:Value->Shared->Prop),Inv X FO σ H s->(∀ b ∈ fp,cL X FO H b)->tn i s.heap->J.go i H ->
  wpAny (model P w) X.A (pyNext (.ref it)) (fun r s1=>∃ u,r=some u /\
   wpAny (model P w) X.A (letOwnedTupleGo tg (.ref it) u) (fun _ s2=>∃ x H',Inv X FO σ H' s2/\RelV x u/\J.yld i H x H'/\tn (i + 1) s2.heap/\∀ b ∈ fp,H' b=none) E s1) E s
 done:∀ (X:Cx),X.prog=P->X.w=w->X.K=K->X.calm=true->∀ (i:Nat) (FO:List (Addr × Obj)) (s:Shared) (σ:St) (H:Hp) (E:Value->Shared->Prop),Inv X FO σ H s->(∀ b ∈ fp,cL X FO H b)->tn i s.heap->J.stop i H ->
  wpAny (model P w) X.A (pyNext (.ref it)) (fun r s1=>r=none/\Inv X FO σ H s1) E s
 self:∀ (A:Around) (i:Nat) (s:Shared) (Q:Value->Shared->Prop) (E:Value->Shared->Prop),tn i s.heap->Q (.ref it) s->wpAny (model P w) A (pyIter (.ref it)) Q E s
abbrev TI:=St->Hp->(It->Hp->Prop)->Prop
def Dj (X:Cx) (FO:List (Addr × Obj)) (σ:St) (tg:Expr) (R:It->Hp->Prop) (itv:Value) (s2:Shared):Prop :=
 ∃ (it:Addr) (fp:List Addr) (tn:Nat->Heap->Prop) (J:It) (H':Hp),itv=.ref it/\Inv X FO σ H' s2/\f9 X.prog X.w X.K tg J fp it tn/\tn 0 s2.heap/\(∀ b ∈ fp,cL X FO H' b)/\R J H'
def PI (X:Cx) (tg iter:Expr) (wi:TI):Prop :=
 ∀ (FO:List (Addr × Obj)) (s:Shared) (σ:St) (H:Hp) (R:It->Hp->Prop),Inv X FO σ H s->wi σ H R ->
  wpAny (model X.prog X.w) X.A (eval iter X.env) (fun v s1=>wpAny (model X.prog X.w) X.A (pyIter v) (Dj X FO σ tg R) X.xe s1) X.xe s
theorem ia {M:Model}{A:Around}{E:Value->Shared->Prop}{s:Shared}{tg:Expr}{it:Addr}{u:Value}{o:Obj}{n:String}{vs:Array Value}{Q:Unit->Shared->Prop} (ho:s.heap.get? it=some o) (hc:o.cls=.type n) (hd:o.data=.fields vs)
  (hn:["enumerate","zip","dict_itemiterator","dict_reverseitemiterator","odict_iterator","itertools.zip_longest","itertools.pairwise"].contains n=false) (hQ:Q () s):wpAny M A (letOwnedTupleGo tg (.ref it) u) Q E s:=by
 unfold letOwnedTupleGo;cases tg <;> first
  | exact yC hQ
  | (cases u <;> first
    | exact yC hQ
    | (refine yB (wpAny_load ho ?_)
       rw [hc,hd];show wpAny M A (if (["enumerate","zip","dict_itemiterator","dict_reverseitemiterator","odict_iterator","itertools.zip_longest","itertools.pairwise"].contains n && vs[0]? == some (rawInt _))=true then _ else _) Q E s;rw [yD (by intro h;rw [hn,Bool.false_and] at h;cases h)];exact yC hQ))
noncomputable def ux (K:Frag) (a:Addr):It :=
 ⟨fun i H=>∃ xs x,bx K H a xs/\xs[i]?=some x,fun i H x H'=>H'=H/\∀ xs,bx K H a xs->xs[i]?=some x,fun i H=>∃ xs,bx K H a xs/\xs.length <= i⟩
noncomputable def uv (K:Frag) (a:Addr):It :=
 ⟨fun i H=>∃ xs x,dh K H a xs/\xs[i]?=some x,fun i H x H'=>H'=H/\∀ xs,dh K H a xs->xs[i]?=some x,fun i H=>∃ xs,dh K H a xs/\xs.length <= i⟩
noncomputable def qO (lo:Int) (n:Nat):It:=⟨fun i _=>i < n,fun i H x H'=>H'=H/\x=.int (lo + i),fun i _=>n <= i⟩
theorem oV {P:Program}{w:World}{K:Frag}{tg:Expr} (a it:Addr):f9 P w K tg (ux K a) [it] it (fun i h=>h.IsListIter it a i) where
 mem:=by simp
 obj:=fun i h st b hb=>by
  have e:b=it:=by simpa using hb
  subst e;obtain ⟨o,e,c,d⟩:=st;exact ⟨o,e,fun v z=>by rw [d] at z;cases z⟩
 keep:=fun i h h' st k=>st.at fun o e=>k it (by simp) o e
 item:=by
  intro X hP hw hK hc i FO s σ H E I hf st hg;subst hP hw hK;obtain ⟨xs,x,hq,hx⟩:=hg;obtain ⟨FR,rv,p,hz⟩:=I.list hq;obtain ⟨u,hu,ru⟩:=rv.get hx;obtain ⟨f0,f1,f2,f3,f4,f5⟩:=hf it (by simp);refine wpAny_pyNext_list_item st p.isList (x:=u) (by simpa using hu) fun h' st' sb=>?_
  have I1:Inv X FO σ H { s with heap:=h' }:=I.turned (t':=s.toks) (fun b o hb e=>(sb.2 b hb).trans e) f0 f1 f3 f4 f5;obtain ⟨o,e,c,d⟩:=id st';exact ⟨u,rfl,ia (s:={ s with heap:=h' }) e c d dC ⟨x,H,I1,ru,⟨rfl,fun ys hy=>by rw [I.list_inj hy hq];exact hx⟩,st',fun b hb=>(hf b hb).1⟩⟩
 done:=by
  intro X hP hw hK hc i FO s σ H E I hf st hg;subst hP hw hK;obtain ⟨xs,hq,hx⟩:=hg;obtain ⟨FR,rv,p,hz⟩:=I.list hq;obtain ⟨f0,f1,f2,f3,f4,f5⟩:=hf it (by simp);have hl:=rv.length;exact wpAny_pyNext_list_end (I.ok.hd hc) st p.isList (by simp;omega) fun h' eb=>⟨rfl,I.turned (t':=s.toks) (fun b o hb e=>eb b o hb e) f0 f1 f3 f4 f5⟩
 self:=fun _ _ _ _ _ st h=>wpAny_pyIter_listiter st h
theorem nK {P:Program}{w:World}{K:Frag}{tg:Expr} (a it:Addr):f9 P w K tg (uv K a) [it] it (fun i h=>h.IsTupleIter it a i) where
 mem:=by simp
 obj:=fun i h st b hb=>by
  have e:b=it:=by simpa using hb
  subst e;obtain ⟨o,e,c,d⟩:=st;exact ⟨o,e,fun v z=>by rw [d] at z;cases z⟩
 keep:=fun i h h' st k=>st.at fun o e=>k it (by simp) o e
 item:=by
  intro X hP hw hK hc i FO s σ H E I hf st hg;subst hP hw hK;obtain ⟨xs,x,hq,hx⟩:=hg;obtain ⟨FR,rv,p,hz⟩:=I.tuple hq;obtain ⟨u,hu,ru⟩:=rv.get hx;obtain ⟨f0,f1,f2,f3,f4,f5⟩:=hf it (by simp);refine wpAny_pyNext_tuple_item st (show s.heap.IsTuple a FR.toArray from p) (x:=u) (by simpa using hu) fun h' st' sb=>?_
  have I1:Inv X FO σ H { s with heap:=h' }:=I.turned (t':=s.toks) (fun b o hb e=>(sb.2 b hb).trans e) f0 f1 f3 f4 f5;obtain ⟨o,e,c,d⟩:=id st';exact ⟨u,rfl,ia (s:={ s with heap:=h' }) e c d dC ⟨x,H,I1,ru,⟨rfl,fun ys hy=>by rw [I.tuple_inj hy hq];exact hx⟩,st',fun b hb=>(hf b hb).1⟩⟩
 done:=by
  intro X hP hw hK hc i FO s σ H E I hf st hg;subst hP hw hK;obtain ⟨xs,hq,hx⟩:=hg;obtain ⟨FR,rv,p,hz⟩:=I.tuple hq;obtain ⟨f0,f1,f2,f3,f4,f5⟩:=hf it (by simp);have hl:=rv.length;exact wpAny_pyNext_tuple_end (I.ok.hd hc) st (show s.heap.IsTuple a FR.toArray from p) (by simp;omega) fun h' eb=>⟨rfl,I.turned (t':=s.toks) (fun b o hb e=>eb b o hb e) f0 f1 f3 f4 f5⟩
 self:=fun _ _ _ _ _ st h=>wpAny_pyIter_tupleiter st h
theorem nM {P:Program}{w:World}{K:Frag}{tg:Expr} (it:Addr) (lo:Int) (n:Nat):f9 P w K tg (qO lo n) [it] it (fun i h=>IsRangeIter h it (lo + (i:Nat) * 1) ((n:Int) - (i:Nat)) 1) where
 mem:=by simp
 obj:=fun i h st b hb=>by
  have e:b=it:=by simpa using hb
  subst e;exact ⟨_,st,fun v z=>by
   have z':Data.fields _=Data.cell v:=z;cases z'⟩
 keep:=fun i h h' st k=>k it (by simp) _ st
 item:=by
  intro X hP hw hK hc i FO s σ H E I hf st hg;subst hP hw hK;obtain ⟨f0,f1,f2,f3,f4,f5⟩:=hf it (by simp);have W:=Walks.range (prog:=X.prog) (w:=X.w) (I.ok.hd hc) it lo 1 n;refine W.item i s _ _ hg st fun v h' tk hv st' kk=>?_
  obtain ⟨t,rfl⟩:=hv;have I1:Inv X FO σ H { s with heap:=h',toks:=tk }:=I.turned (fun b o hb e=>kk b o (by simpa using hb) e) f0 f1 f3 f4 f5;refine ⟨_,rfl,ia (s:={ s with heap:=h',toks:=tk }) (n:="range_iterator") st' rfl rfl dC ⟨.int (lo + i),H,I1,⟨t,?_⟩,⟨rfl,rfl⟩,st',fun b hb=>(hf b hb).1⟩⟩;rw [Int.mul_one]
 done:=by
  intro X hP hw hK hc i FO s σ H E I hf st hg;subst hP hw hK;obtain ⟨f0,f1,f2,f3,f4,f5⟩:=hf it (by simp);exact wpAny_pyNext_range_end (I.ok.hd hc) st (by have:n <= i:=hg;omega) fun h' eb=>⟨rfl,I.turned (t':=s.toks) (fun b o hb e=>eb b o hb e) f0 f1 f3 f4 f5⟩
 self:=fun _ _ _ _ _ st h=>wpAny_pyIter_rangeiter st h
section
variable {X:Cx}{tg:Expr}
theorem lB {FO:List (Addr × Obj)}{σ:St}{H:Hp}{s:Shared}{R:It->Hp->Prop}{E:Value->Shared->Prop}{lo hi:Int}{t u v:Tok}{tk:Nat} (I:Inv X FO σ H s) (h1:-(2 ^ 62) <= lo) (h2:lo < 2 ^ 62) (h3:-(2 ^ 62) <= hi) (h4:hi < 2 ^ 62)
  (q:R (qO lo (hi - lo).toNat) H):wpAny (model X.prog X.w) X.A (pyIter (.ref s.heap.objs.size)) (Dj X FO σ tg R) E { s with heap:=s.heap.push { cls:=.type "range",data:=.fields #[.int lo t,.int hi u,.int 1 v] },toks:=tk }:=by
 refine wpAny_pyIter_range (IsRange.new ..) (small_one h1 h2 h3 h4) ?_;have I1:Inv X FO σ H { s with heap:=s.heap.push { cls:=.type "range",data:=.fields #[.int lo t,.int hi u,.int 1 v] },toks:=tk }:=I.kept fun b o e=>zG _ e
 refine ⟨(s.heap.push { cls:=.type "range",data:=.fields #[.int lo t,.int hi u,.int 1 v] }).objs.size,[(s.heap.push { cls:=.type "range",data:=.fields #[.int lo t,.int hi u,.int 1 v] }).objs.size],_,_,H,rfl,
  I1.kept (t':=tk) fun b o e=>zG _ e,nM _ lo (hi - lo).toNat,?_,fun b hb=>?_,q⟩
 ·have e1:lo + ((0:Nat):Int) * 1=lo:=by simp
  have e2:(((hi - lo).toNat:Nat):Int) - ((0:Nat):Int)=Builtin.Range.rangeSize lo hi 1:=by rw [rangeSize_one];split <;> omega
  show IsRangeIter _ _ (lo + ((0:Nat):Int) * 1) ((((hi - lo).toNat:Nat):Int) - ((0:Nat):Int)) 1;rw [e1,e2];exact zX _ rfl
 ·have e:b=(s.heap.push { cls:=.type "range",data:=.fields #[.int lo t,.int hi u,.int 1 v] }).objs.size:=by simpa using hb
  subst e;exact I1.fpOk (zO _) (I1.FT.fresh (zO _))
def B1 (ta:TA):TI:=fun σ H R=>ta σ H fun vs H1=>∃ j:Int,vs=[.int j]/\-(2 ^ 62) <= j/\j < 2 ^ 62/\R (qO 0 j.toNat) H1
def B0 (ta:TA):TI:=fun σ H R=>ta σ H fun vs H1=>∃ i j:Int,vs=[.int i,.int j]/\(-(2 ^ 62) <= i/\i < 2 ^ 62/\-(2 ^ 62) <= j/\j < 2 ^ 62)/\R (qO i (j - i).toNat) H1
theorem pK {a:Expr}{ta:TA}{p pos:Pos} (hg:Gl X "range") (hm:X.mg "range"=none) (ha:PA X [a] ta) (hs:starEach [a] X.env=[(false,eval a X.env)]:=by rfl):PI X tg (.Call (.Name "range" p) [a] [] pos) (B1 ta):=by
 intro FO s σ H R I h;refine Call_ (eI I hg hm boot_range (PyProof.Rows.callWith_type1 (aH (ha pos FO s σ H _ I h) fun us s1 hq0=>?_) hs rfl));obtain ⟨vs,H1,I1,r1,q1⟩:=hq0;obtain ⟨j,e,q1,q2,q⟩:=q1;subst e;cases r1 with
 | cons r rr =>
  cases rr;obtain ⟨t,rfl⟩:=r;exact call_range_1 (lB I1 oM oM q1 q2 (by simpa using q))
theorem pJ {a b:Expr}{ta:TA}{p pos:Pos} (hg:Gl X "range") (hm:X.mg "range"=none) (ha:PA X [a,b] ta) (hs:starEach [a,b] X.env=[(false,eval a X.env),(false,eval b X.env)]:=by rfl) (hs2:starEach [b] X.env=[(false,eval b X.env)]:=by rfl) :
  PI X tg (.Call (.Name "range" p) [a,b] [] pos) (B0 ta):=by
 intro FO s σ H R I h;refine Call_ (eI I hg hm boot_range (PyProof.Rows.callWith_type1 (aH (ha pos FO s σ H _ I h) fun us s1 ⟨vs,H1,I1,r1,q1⟩=>?_) (by rw [hs,hs2]) (by rw [hs2];rfl)));obtain ⟨i,j,e,⟨q1,q2,q3,q4⟩,q⟩:=q1;subst e;cases r1 with
 | cons r rr =>
  cases rr with
  | cons r' rr =>
   cases rr;obtain ⟨t,rfl⟩:=r;obtain ⟨t',rfl⟩:=r';exact call_range_2 (lB I1 q1 q2 q3 q4 q)
def DB (wi:TI) (g:TG) (tb:TS):TS:=fun D σ H=>wi σ H fun J H1=>∃ W:Nat->Nat->St->Hp->Prop,(∃ m,W 0 m σ H1)/\∀ i m σ H,W i m σ H ->
 (J.stop i H/\D.nx σ H)\/(J.go i H/\∃ N:St->Hp->Prop,(∀ σ' H',N σ' H'->∃ m',m' < m/\W (i + 1) m' σ' H')/\∀ x H',J.yld i H x H'->g x σ H' fun σ2 H2=>tb { D with nx:=N,ct:=N,bk:=D.nx } σ2 H2)
noncomputable def gy (fp:List Addr) (h:Heap):List (Addr × Obj):=fp.filterMap fun b=>(h.get? b).map fun o=>(b,o)
theorem dU {fp:List Addr}{h:Heap}{b:Addr}{o:Obj} (hb:b ∈ fp) (e:h.get? b=some o):(b,o) ∈ gy fp h:=List.mem_filterMap.mpr ⟨b,hb,by rw [e];rfl⟩
theorem pU {fp:List Addr}{h:Heap}{p:Addr × Obj} (hp:p ∈ gy fp h):p.1 ∈ fp/\h.get? p.1=some p.2:=by
 obtain ⟨b,hb,e⟩:=List.mem_filterMap.mp hp;cases q:h.get? b with
 | none=>rw [q] at e;cases e
 | some o =>
  rw [q] at e;have e':(b,o)=p:=yA e;subst e';exact ⟨hb,q⟩
theorem Inv.pinned {FO:List (Addr × Obj)}{σ:St}{H:Hp}{s:Shared}{fp:List Addr} (I:Inv X FO σ H s) (hf:∀ b ∈ fp,cL X FO H b) (ho:∀ b ∈ fp,∃ o,s.heap.get? b=some o/\∀ v,o.data ≠ .cell v):Inv X (FO++gy fp s.heap) σ H s :=
 I.pins_of fun p hp=>(zY.mp hp).elim (fun z=>I.pin p (zK _ z)) fun z=>by
  obtain ⟨hb,e⟩:=pU z;obtain ⟨f0,f1,f2,_⟩:=hf p.1 hb;obtain ⟨o,e',d⟩:=ho p.1 hb;rw [e] at e';cases e';exact ⟨e,f0,f1,f2,d⟩
theorem Inv.unpinned {FO pl:List (Addr × Obj)}{σ:St}{H:Hp}{s:Shared} (I:Inv X (FO++pl) σ H s):Inv X FO σ H s:=I.pins_of fun p hp=>I.pin p (zK _ (List.mem_append_left _ hp))
theorem pE {iter:Expr}{body:List Stmt}{wi:TI}{g:TG}{tb:TS}{pos:Pos} (hp:PassesOwn (model X.prog X.w) X.A X.env X.xe) (hc:X.calm=true) (hi:PI X tg iter wi) (hg:PG X tg g) (hb:PSs X body tb)
  (hs:∀ x,foldedSetIterable iter X.env x=pure x:=by intro _;rfl):PS X (.For tg iter body [] pos) (DB wi g tb):=by
 intro FO s σ H D I h;refine wpAny_For (aH (hi FO s σ H _ I h) fun v s1 h1=>aH h1 fun itv s2 h2=>?_) hs;obtain ⟨it,fp,tn,J,H2,e,I2,T,st2,f2,W,⟨m0,w0⟩,turn⟩:=h2;subst e
 -- what stays true of the iterator's objects through the loop
 have stat:∀ {H':Hp},(∀ b ∈ fp,H' b=none)->∀ b ∈ fp,cL X FO H' b:=fun hn b hb=>⟨hn b hb,(f2 b hb).2⟩
 refine codeAny_forLoop_any (fun n s'=>∃ i σ' H',Inv X FO σ' H' s'/\tn i s'.heap/\(∀ b ∈ fp,H' b=none)/\W i n σ' H') ?_ m0 ⟨0,σ,H2,I2,st2,fun b hb=>(f2 b hb).1,w0⟩;rintro n s3 ⟨i,σ3,H3,I3,st3,fr3,w3⟩;rcases turn i n σ3 H3 w3 with ⟨stop,qn⟩ | ⟨go,N,hN,step⟩
 ·refine wpAny_passesOwn hp (aH (T.done X rfl rfl rfl hc i FO s3 σ3 H3 X.xe I3 (stat fr3) st3 stop) fun r s4 hq0=>?_)
  obtain ⟨hr,I4⟩:=hq0;subst hr;exact wpAny_execs_nil ⟨σ3,H3,I4,qn⟩
 ·refine wpAny_passesOwn hp (aH (T.item X rfl rfl rfl hc i FO s3 σ3 H3 X.xe I3 (stat fr3) st3 go) fun r s4 hq0=>?_)
  obtain ⟨u,hr,h4⟩:=hq0;subst hr;refine wpAny_passesOwn hp (aH h4 fun _ s5 hq0=>?_);obtain ⟨x,H5,I5,r5,y5,st5,fr5⟩:=hq0;have I5':=I5.pinned (stat fr5) (T.obj _ _ st5);refine wpAny_passesOwn hp (aH (hg _ s5 σ3 H5 x u _ I5' r5 (step x H5 y5)) fun _ s6 hq0=>?_);obtain ⟨σ6,H6,I6,q6⟩:=hq0;refine wpAny_passesOwn hp (aH (hb _ s6 σ6 H6 _ I6 q6) fun f s7 q7=>?_);have again:∀ {σ7:St}{H7:Hp},Inv X (FO++gy fp s5.heap) σ7 H7 s7->N σ7 H7->∃ m,m < n/\∃ i σ' H',Inv X FO σ' H' s7/\tn i s7.heap/\(∀ b ∈ fp,H' b=none)/\W i m σ' H':=fun {σ7 H7} I7 n7=>by
   obtain ⟨m',hm,w7⟩:=hN σ7 H7 n7;refine ⟨m',hm,i + 1,σ7,H7,I7.unpinned,T.keep _ _ _ st5 fun b hb o e=>(I7.pin (b,o) (zK _ (zK _ (dU hb e)))).1,fun b hb=>?_,w7⟩;obtain ⟨o,e,d⟩:=T.obj _ _ st5 b hb;exact (I7.pin (b,o) (zK _ (zK _ (dU hb e)))).2.1
  cases f with
  | next=>obtain ⟨σ7,H7,I7,n7⟩:=q7;exact again I7 n7
  | cont=>obtain ⟨σ7,H7,I7,n7⟩:=q7;exact again I7 n7
  | brk=>obtain ⟨σ7,H7,I7,q7⟩:=q7;exact ⟨σ7,H7,I7.unpinned,q7⟩
  | ret v=>obtain ⟨x7,σ7,H7,I7,r7,q7⟩:=q7;exact ⟨x7,σ7,H7,I7.unpinned,r7,q7⟩
end
abbrev R2:=V->V->Hp->VK->Prop
def eY (X:Cx) (f:Value->Value->Sem Value) (r:R2):Prop :=
 ∀ (FO:List (Addr × Obj)) (s:Shared) (σ:St) (H:Hp) (x y:V) (v u:Value) (Q:VK),Inv X FO σ H s->RelV x v->RelV y u->r x y H Q ->
  wpAny (model X.prog X.w) X.A (f v u) (EP X FO σ Q) X.xe s
def qI (X:Cx) (f:Value->Sem Value) (r:V->Hp->VK->Prop):Prop :=
 ∀ (FO:List (Addr × Obj)) (s:Shared) (σ:St) (H:Hp) (x:V) (v:Value) (Q:VK),Inv X FO σ H s->RelV x v->r x H Q ->
  wpAny (model X.prog X.w) X.A (f v) (EP X FO σ Q) X.xe s
def bA (X:Cx) (f:Value) (r:List V->Hp->VK->Prop):Prop :=
 ∀ (FO:List (Addr × Obj)) (s:Shared) (σ:St) (H:Hp) (xs:List V) (us:List Value) (Q:VK),Inv X FO σ H s->Vals xs us->r xs H Q ->
  wpAny (model X.prog X.w) X.A (call f us) (EP X FO σ Q) X.xe s
def EA (X:Cx) (r:V->Hp->(Bool->Hp->Prop)->Prop):Prop :=
 ∀ (FO:List (Addr × Obj)) (s:Shared) (σ:St) (H:Hp) (x:V) (v:Value) (Q:Bool->Hp->Prop),Inv X FO σ H s->RelV x v->r x H Q ->
  wpAny (model X.prog X.w) X.A (truthy v) (TP X FO σ Q) X.xe s
noncomputable def oZ (r:R2) (ta tb:TE):TE:=fun σ H Q=>ta σ H fun x H1=>tb σ H1 fun y H2=>r x y H2 Q
def CC (r:V->Hp->VK->Prop) (ta:TE):TE:=fun σ H Q=>ta σ H fun x H1=>r x H1 Q
def rU (g:Int->V):V->Hp->VK->Prop:=fun x H Q=>∃ i,x=.int i/\Q (g i) H
section
variable {X:Cx}{a b c:Expr}{ta tb tc:TE}{pos:Pos}
theorem tm (ha:PE X a ta) (hb:PE X b tb) {FO:List (Addr × Obj)}{s:Shared}{σ:St}{H:Hp}{R:V->V->Hp->Prop} (I:Inv X FO σ H s)
  (h:ta σ H fun x H1=>tb σ H1 fun y H2=>R x y H2) {Q:Value->Shared->Prop}{f:Value->Value->Sem Value}
  (hf:∀ v u s2 x y H2,Inv X FO σ H2 s2->RelV x v->RelV y u->R x y H2->wpAny (model X.prog X.w) X.A (f v u) Q X.xe s2) :
  wpAny (model X.prog X.w) X.A (eval a X.env) (fun v s₁=>wpAny (model X.prog X.w) X.A (eval b X.env) (fun u s₂=>wpAny (model X.prog X.w) X.A (f v u) Q X.xe s₂) X.xe s₁) X.xe s:=by
 refine aH (ha FO s σ H _ I h) fun v s1 hq0=>?_
 obtain ⟨x,H1,I1,r1,q1⟩:=hq0;refine aH (hb FO s1 σ H1 _ I1 q1) fun u s2 hq0=>?_
 obtain ⟨y,H2,I2,r2,q2⟩:=hq0;exact hf v u s2 x y H2 I2 r1 r2 q2
theorem nX {op:Operator}{r:R2} (ho:eY X (binaryOp op) r) (ha:PE X a ta) (hb:PE X b tb):PE X (.BinOp a op b pos) (oZ r ta tb):=by
 intro FO s σ H Q I h;exact wpAny_BinOp (tm ha hb I h fun v u s2 x y H2 I2 rx ry q=>ho FO s2 σ H2 x y v u Q I2 rx ry q)
theorem By {op:UnaryOp}{r:V->Hp->VK->Prop} (ho:qI X (unaryOp op) r) (ha:PE X a ta):PE X (.UnaryOp op a pos) (CC r ta):=by
 intro FO s σ H Q I h;exact UnaryOp_ (aH (ha FO s σ H _ I h) fun v s1 ⟨x,H1,I1,r1,q1⟩=>ho FO s1 σ H1 x v Q I1 r1 q1)
def EC (i j:Int):Prop:=0 <= j/\j <= 1000000/\i.natAbs < 2 ^ 64
theorem nJ (k:Nat):(0:Int) <= 2 ^ k:=by
 rw [two_pow_cast];exact Int.natCast_nonneg _
theorem CA {f:Value->Sem Value}{g:Int->Int}
  (rule:∀ (i:Int) (t:Tok) (s:Shared) (Q:Value->Shared->Prop) (E:Value->Shared->Prop),Q (.int (g i) s.toks) { s with toks:=s.toks + 1 }->wpAny (model X.prog X.w) X.A (f (.int i t)) Q E s) :
  qI X f (rU fun i=>.int (g i)):=by
 intro FO s σ H x v Q I rx h;obtain ⟨i,rfl,q⟩:=h;obtain ⟨t,rfl⟩:=rx;exact rule i t s _ _ ⟨.int (g i),H,I.tok _,⟨_,rfl⟩,q⟩
theorem wy:qI X (unaryOp .USub) (rU fun i=>.int (-i)):=CA fun _ _ _ _ _ q=>neg_int q
theorem wz:qI X (unaryOp .Invert) (rU fun i=>.int (Builtin.bitNot i)):=CA fun _ _ _ _ _ q=>invert_int q
end
section
variable {X:Cx}{a b c:Expr}{ta tb tc:TE}{pos:Pos}
theorem vq {op:CmpOp}{r:R2} (ho:eY X (compareOp op) r) (ha:PE X a ta) (hb:PE X b tb) (hm:behindInMarks op b=false):PE X (.Compare a [op] [b] pos) (oZ r ta tb):=by
 intro FO s σ H Q I h;exact wpAny_Compare1 (tm ha hb I h fun v u s2 x y H2 I2 rx ry q=>ho FO s2 σ H2 x y v u Q I2 rx ry q) hm
noncomputable def tF (t:TE):TT:=fun σ H Q=>t σ H fun x H'=>∃ k,x=.bl k/\Q k H'
theorem u4 {op:CmpOp}{r:R2} (ho:eY X (compareOp op) r) (ha:PE X a ta) (hb:PE X b tb) (hm:behindInMarks op b=false):PT X (.Compare a [op] [b] pos) (tF (oZ r ta tb)):=by
 intro FO s σ H Q I h;refine wpAny_isTrue_Compare1 (aH (ha FO s σ H _ I h) fun v s1 ⟨x,H1,I1,r1,q1⟩=>aH (hb FO s1 σ H1 _ I1 q1) fun u s2 ⟨y,H2,I2,r2,q2⟩ =>
  aH (ho FO s2 σ H2 x y v u _ I2 r1 r2 q2) fun c s3 ⟨z,H3,I3,r3,k,e,q3⟩=>?_) hm
 subst e;cases r3;exact wpAny_truthy_bool ⟨H3,I3,q3⟩
noncomputable def lv (r r':R2) (ta tb tc:TE):TE:=fun σ H Q=>ta σ H fun x H1=>tb σ H1 fun y H2=>r x y H2 fun z H3=>∃ k,z=.bl k /\
 (if k=true then tc σ H3 fun w' H4=>r' y w' H4 Q else Q (.bl false) H3)
theorem si {op op':CmpOp}{r r':R2} (ho:eY X (compareOp op) r) (ho':eY X (compareOp op') r') (ha:PE X a ta) (hb:PE X b tb) (hc:PE X c tc)
  (hm:lastMarks [op,op'] [b,c]=false:=by with_unfolding_all rfl):PE X (.Compare a [op,op'] [b,c] pos) (lv r r' ta tb tc):=by
 intro FO s σ H Q I h;refine Compare_chain (aH (ha FO s σ H _ I h) fun v s1 ⟨x,H1,I1,r1,q1⟩=>chain_link (aH (hb FO s1 σ H1 _ I1 q1) fun u s2 ⟨y,H2,I2,r2,q2⟩ =>
  aH (ho FO s2 σ H2 x y v u _ I2 r1 r2 q2) fun d s3 ⟨z,H3,I3,r3,k,e,q3⟩=>?_)) hm
 subst e;cases r3;refine wpAny_truthy_bool ?_;cases k with
 | false=>exact ite_ff ⟨.bl false,H3,I3,rfl,q3⟩
 | true=>exact ite_tt (chain_last (aH (hc FO s3 σ H3 _ I3 q3) fun w' s4 ⟨z',H4,I4,r4,q4⟩=>ho' FO s4 σ H4 y z' u w' Q I4 r2 r4 q4))
theorem rP {op op':CmpOp}{r r':R2} (ho:eY X (compareOp op) r) (ho':eY X (compareOp op') r') (ha:PE X a ta) (hb:PE X b tb) (hc:PE X c tc)
  (hm:lastMarks [op,op'] [b,c]=false:=by with_unfolding_all rfl):PT X (.Compare a [op,op'] [b,c] pos) (tF (lv r r' ta tb tc)):=by
 intro FO s σ H Q I h;refine isTrue_chain (aH (ha FO s σ H _ I h) fun v s1 ⟨x,H1,I1,r1,q1⟩=>test_link (aH (hb FO s1 σ H1 _ I1 q1) fun u s2 ⟨y,H2,I2,r2,q2⟩ =>
  aH (ho FO s2 σ H2 x y v u _ I2 r1 r2 q2) fun d s3 ⟨z,H3,I3,r3,k,e,q3⟩=>?_)) hm
 subst e;cases r3;refine wpAny_truthy_bool ?_;cases k with
 | false =>
  obtain ⟨k',e',q'⟩:=q3;cases e';exact ite_ff ⟨H3,I3,q'⟩
 | true =>
  refine ite_tt (test_last (aH (hc FO s3 σ H3 _ I3 q3) fun w' s4 ⟨z',H4,I4,r4,q4⟩=>aH (ho' FO s4 σ H4 y z' u w' _ I4 r2 r4 q4) fun d' s5 hq0=>?_));obtain ⟨z2,H5,I5,r5,k2,e2,q5⟩:=hq0;subst e2;cases r5;exact wpAny_truthy_bool ⟨H5,I5,q5⟩
def tx (K:Frag) (x:V) (H:Hp) (k:Bool):Prop :=
 match x with
 | .non=>k=false
 | .bl b=>k=b
 | .int i=>k=(i != 0)
 | .str y=>y.length <= sizeLine/\k=((y.length:Int) != 0)
 | .byt y=>y.size <= sizeLine/\k=((y.size:Int) != 0)
 | .ref p=>(∃ xs,bx K H p xs/\k=!xs.isEmpty)\/(∃ xs,dh K H p xs/\k=!xs.isEmpty)\/∃ FP,H p=some (.dK FP)/\k=!FP.isEmpty
 | _=>False
theorem ow {κ:Type}{FP:List (κ × V)}{vs:List (κ × Value)} (r:KV FP vs):(!vs.isEmpty)=!FP.isEmpty:=by
 cases r <;> rfl
theorem jt {xs:List V}{FR:List Value} (r:Vals xs FR):(!FR.toArray.isEmpty)=!xs.isEmpty:=by
 cases r <;> simp
theorem eG:(sizeLine:Nat) < 2 ^ 63:=by rw [sizeLine_eq];decide
theorem wD:EA X (fun x H Q=>∃ k,tx X.K x H k/\Q k H):=by
 intro FO s σ H x v Q I rx h;obtain ⟨k,e,q⟩:=h;have hl:=eG;have hs:sizeLine=16777216:=sizeLine_eq;cases x with
 | non =>
  cases rx;have e':k=false:=e;subst e';exact truthy_none ⟨H,I,q⟩
 | bl b =>
  cases rx;have e':k=b:=e;subst e';exact wpAny_truthy_bool ⟨H,I,q⟩
 | int i =>
  obtain ⟨t,rfl⟩:=rx;have e':k=(i != 0):=e;subst e';exact PySem.P.truthy_int ⟨H,I,q⟩
 | str y =>
  obtain ⟨t,rfl⟩:=rx;obtain ⟨hy,e'⟩:y.length <= sizeLine/\k=((y.length:Int) != 0):=e;subst e';exact PySem.P.truthy_str oM ⟨H,I.tok _,q⟩
 | byt y =>
  obtain ⟨t,rfl⟩:=rx;obtain ⟨hy,e'⟩:y.size <= sizeLine/\k=((y.size:Int) != 0):=e;subst e';exact truthy_bytes oM ⟨H,I.tok _,q⟩
 | ref p =>
  cases rx;have e':(∃ xs,bx X.K H p xs/\k=!xs.isEmpty)\/(∃ xs,dh X.K H p xs/\k=!xs.isEmpty)\/∃ FP,H p=some (.dK FP)/\k=!FP.isEmpty:=e;rcases e' with ⟨xs,hx,e'⟩ | ⟨xs,hx,e'⟩ | ⟨FP,hx,e'⟩
  ·subst e'
   obtain ⟨FR,r,pl,hz⟩:=I.list hx;have hlen:=r.length;exact wpAny_truthy_list pl.isList (by simp only [zI];omega) ⟨H,I.tok _,by rw [jt r];exact q⟩
  ·subst e'
   obtain ⟨FR,r,pl,hz⟩:=I.tuple hx;have hlen:=r.length;exact truthy_tuple pl (by simp only [zI];omega) ⟨H,I.tok _,by rw [jt r];exact q⟩
  ·subst e'
   obtain ⟨hz,hS,vs,r,m⟩:FP.length <= sizeLine/\(p == sysModules)=false/\∃ vs,KV FP vs/\s.heap.DictOf (bE X.prog X.w) p vs:=I.FT p _ hx;have hlen:FP.length=vs.length:=Paired.length r;exact wpAny_truthy_dict hS m oM ⟨H,I.tok _,by rw [ow r];exact q⟩
 | _=>exact (show False from e).elim
theorem rL (ha:PE X a ta) (he:∀ whole,isTrue a X.env whole=(do let v <- whole;standAt a.pos;holding [v] (truthy v))) :
  PT X a (fun σ H Q=>ta σ H fun x H'=>∃ k,tx X.K x H' k/\Q k H'):=by
 intro FO s σ H Q I h;exact isTrue_plain (aH (ha FO s σ H _ I h) fun v s1 ⟨x,H1,I1,r1,q1⟩=>wD FO s1 σ H1 x v Q I1 r1 q1) (he _)
theorem nY:eY X (binaryOp .Add) (fun x y H Q=>∃ i j,x=.str i/\y=.str j/\i.length + j.length <= sizeLine/\Q (.str (i++j)) H):=by
 intro FO s σ H x y v u Q I rx ry h;obtain ⟨i,j,rfl,rfl,hz,q⟩:=h;obtain ⟨t,rfl⟩:=rx;obtain ⟨t',rfl⟩:=ry;exact add_str (fun t' tk=>⟨.str (i++j),H,I.tok _,⟨_,rfl⟩,q⟩) hz
theorem cB {x:V}{us:List Value} (r:Vals [x] us):∃ u,us=[u]/\RelV x u:=by
 cases r with
 | cons r1 r2=>cases r2;exact ⟨_,rfl,r1⟩
theorem nF {x y:V}{us:List Value} (r:Vals [x,y] us):∃ u w',us=[u,w']/\RelV x u/\RelV y w':=by
 cases r with
 | cons r1 r2 =>
  cases r2 with
  | cons r3 r4=>cases r4;exact ⟨_,_,rfl,r1,r3⟩
theorem tf:bA X (.builtin "abs") (fun xs H Q=>∃ i,xs=[.int i]/\Q (.int (if i < 0 then -i else i)) H):=by
 intro FO s σ H xs us Q I r h;obtain ⟨i,rfl,q⟩:=h;obtain ⟨u,rfl,t,rfl⟩:=cB r;exact call_abs_int fun u tk=>⟨.int (if i < 0 then -i else i),H,I.tok _,⟨_,rfl⟩,q⟩
theorem qv (hc:X.calm=true):bA X (.builtin "max") (fun xs H Q=>∃ i j,xs=[.int i,.int j]/\Q (.int (if j > i then j else i)) H):=by
 intro FO s σ H xs us Q I r h;obtain ⟨i,j,rfl,q⟩:=h;obtain ⟨u,w',rfl,⟨t,rfl⟩,⟨t',rfl⟩⟩:=nF r;refine max_two_ints (I.ok.hd hc) fun h' tk k=>⟨_,H,I.kept k,?_,q⟩
 by_cases hj:j > i
 ·rw [yE hj,yE hj];exact ⟨_,rfl⟩
 ·rw [yD hj,yD hj];exact ⟨_,rfl⟩
theorem qu (hc:X.calm=true):bA X (.builtin "min") (fun xs H Q=>∃ i j,xs=[.int i,.int j]/\Q (.int (if j < i then j else i)) H):=by
 intro FO s σ H xs us Q I r h;obtain ⟨i,j,rfl,q⟩:=h;obtain ⟨u,w',rfl,⟨t,rfl⟩,⟨t',rfl⟩⟩:=nF r;refine min_two_ints (I.ok.hd hc) fun h' tk k=>⟨_,H,I.kept k,?_,q⟩
 by_cases hj:j < i
 ·rw [yE hj,yE hj];exact ⟨_,rfl⟩
 ·rw [yD hj,yD hj];exact ⟨_,rfl⟩
theorem qx:bA X (.type "int") (fun xs H Q=>(∃ i,xs=[.int i]/\Q (.int i) H)\/∃ k,xs=[.bl k]/\Q (.int (if k then 1 else 0)) H):=by
 intro FO s σ H xs us Q I r h;rcases h with ⟨i,rfl,q⟩ | ⟨k,rfl,q⟩
 ·obtain ⟨u,rfl,t,rfl⟩:=cB r
  exact call_int_int ⟨.int i,H,I,⟨_,rfl⟩,q⟩
 ·obtain ⟨u,rfl,r1⟩:=cB r
  cases r1;exact call_int_bool ⟨.int (if k then 1 else 0),H,I.tok _,⟨_,rfl⟩,q⟩
end
structure ObjM (h:Heap) (x dx C:Addr) (mA:Str->Option Value):Prop where
 obj:h.get? x=some (instObj C dx)
 ns:h.Ns1 dx mA
 ne:dx ≠ x
theorem qd {h:Heap}{dx:Addr}{mA:Str->Option Value} (n:h.Ns1 dx mA):∃ od,h.get? dx=some od/\∀ name,lookIn name od=some (mA name):=by
 obtain ⟨o,es,ep,ho,hd,hk,_,hm⟩:=n;refine ⟨o,ho,fun name=>?_⟩;have e:=hm name;unfold nsFind findBy at e;rw [<- Array.find?_toList] at e;unfold lookIn;rw [hd];dsimp only;split
 ·rename_i y q
  rw [q] at e;exact congrArg some e
 ·rename_i q
  rw [q] at e;have a:es.toList.any (·.refKey)=false:=by
   rw [List.any_eq_false];intro y hy;obtain ⟨z,t,hkey⟩:=hk y (Array.mem_toList_iff.mp hy);simp [DictEntry.refKey,hkey]
  have a':¬ es.toList.any (·.refKey)=true:=by rw [a];exact Bool.false_ne_true
  rw [yD a'];exact congrArg some e
theorem ObjM.look {h:Heap}{x dx C:Addr}{mA:Str->Option Value} (I:ObjM h x dx C mA):∃ od,InstAt h x (instObj C dx) C (some od)/\∀ name,lookIn name od=some (mA name) :=
 let ⟨od,ho,hl⟩:=qd I.ns
 ⟨od,⟨I.obj,rfl,rfl,ho⟩,hl⟩
section
variable {prog:Program}{w:World}{A:Around}{E:Value->Shared->Prop}{s:Shared}{K:Frag}{x dx C f:Addr}{mA:Str->Option Value}{name:Str}{v:Value}
theorem v6 {expr:Bool}{Q:Value->Shared->Prop} (X:K.In s.heap) (I:ObjM s.heap x dx C mA) (hg:plainGet K C name=true) (hh:hasDictIn K C=true)
  (ha:findIn K (.ref C) name=some none) (hv:mA name=some v) (hv':handedIn v=true) (h:Q v { s with toks:=s.toks + 1 }) :
  wpAny (model prog w) A (getAttr (.ref x) name expr) Q E s:=by
 obtain ⟨od,J,hl⟩:=I.look;exact get_value X J (plainGet_of hg).1 (findObj_own hh ha rfl (by rw [hl,hv])) hv' h
theorem sT {pl:Sem Bool}{Q:Value × List Value->Shared->Prop} (X:K.In s.heap) (I:ObjM s.heap x dx C mA) (hg:plainGet K C name=true)
  (hf:findIn K (.ref C) name=some (some (.ref f))) (ht:isFn K (.ref f)=true) (hv:mA name=none) (h:Q (.ref f,[.ref x]) s) :
  wpAny (model prog w) A (getMethod (.ref x) name pl) Q E s:=by
 obtain ⟨od,J,hl⟩:=I.look;exact method_fn X J (plainGet_of hg).1 (plainGet_of hg).2 hf (beq_iff_eq.mp ht) (by show (lookIn name od).map (·.isSome)=some false;rw [hl,hv];rfl) h
theorem uJ {ns:List Str}{Q:Unit->Shared->Prop} (X:K.In s.heap) (I:ObjM s.heap x dx C mA)
  (hs:findIn K (.ref C) "__setattr__"=some (some (.builtin "object.__setattr__"))) (hp:plainOver K C=true) (ht:takerIn K C name=some none) (hh:hasDictIn K C=true)
  (hw:PySem.Within mA ns) (hsz:ns.length <= sizeLine)
  (h:∀ h',ObjM h' x dx C (fun y=>if y=name then some v else mA y)->Heap.SameBut dx s.heap h'->Q () { s with heap:=h',toks:=s.toks + 2 }) :
  wpAny (model prog w) A (setAttr (.ref x) name v) Q E s:=by
 obtain ⟨od,J,hl⟩:=I.look;refine set_plain X J hs (osa_open (s:={ s with toks:=s.toks + 1 }) (r:=none) X J hp ht fun b=>?_);obtain ⟨cd,hc,hd'⟩:=any_some hh;have hx:s.heap.get? x=some ⟨.ref C,some dx,.plain,#[]⟩:=I.obj;refine yB (yC (yB (yB (wpAny_loadPart hx (yB (PySem.W.Looks.here (s:={ s with toks:=s.toks + 1 }) (looks_clsIn X hc) ?_))))));rw [hd'];refine yC (a:=some dx) (yB (yC (yB ?_)));refine wpAny_nsSet1 (s:={ s with toks:=s.toks + 1 }) I.ns fun h' hn2 hs2=>?_
 obtain ⟨oD,esD,epD,hoD,hdD,hcD⟩:=hn2.count (PySem.Within.cons name v hw);refine yB (wpAny_lookBehind hoD (by rw [hdD];exact pastItsLine_dict (zZ hcD (by rw [yP];omega))) ?_);exact yC (h _ ⟨(hs2.2 _ (Ne.symm I.ne)).trans I.obj,hn2,I.ne⟩ hs2)
theorem sH {R:Result->Shared->Prop}{vs:List Value}{kw:List (Str × Value)} (X:K.In s.heap) (hm:makesIn K C=true)
  (hi:findIn K (.ref C) "__init__"=some (some (.ref f))) (hf:typeIn K (.ref f)=some (.type "function"))
  (h:codeAny (model prog w) (A.under (.builtin "type.__call__" ⟨.ref C::vs,kw⟩)) (.call (.ref f) ⟨.ref (s.heap.objs.size + 1)::vs,kw⟩) (InitBack (s.heap.objs.size + 1) R)
   { s with heap:=(s.heap.push emptyDict).push (instObj C s.heap.objs.size) }) :
  codeAny (model prog w) A (.call (.ref C) ⟨vs,kw⟩) R s:=by
 obtain ⟨hh,g,d,t,os⟩:=s;exact make_core (makes_of X hm) (looks_findIn X hi) (fun self=>bind_fn X self hf) (.inl rfl) h
end
noncomputable def cC (f:Str) (v:V):List (Str × V)->List (Str × V)
 | []=>[(f,v)]
 | (g,x)::r=>if g=f then (g,v)::r else (g,x)::cC f v r
theorem iw (f g:Str) (v:V):∀ fs:List (Str × V),(cC f v fs).lookup g=if g=f then some v else fs.lookup g
 | []=>by
  show List.lookup g [(f,v)]=_;by_cases h:g=f
  ·have hb:(g == f)=true:=beq_iff_eq.mpr h
   simp only [List.lookup,hb,yE h]
  ·have hb:(g == f)=false:=beq_eq_false_iff_ne.mpr h
   simp only [List.lookup,hb,yD h]
 | (k,x)::r=>by
  have ih:=iw f g v r;rw [show cC f v ((k,x)::r)=(if k=f then (k,v)::r else (k,x)::cC f v r) from rfl];by_cases hk:k=f
  ·rw [yE hk]
   by_cases h:g=k
   ·have hb:(g == k)=true:=beq_iff_eq.mpr h
    simp only [List.lookup,hb,yE (h.trans hk)]
   ·have hb:(g == k)=false:=beq_eq_false_iff_ne.mpr h
    simp only [List.lookup,hb,yD (fun e:g=f=>h (e.trans hk.symm))]
  ·rw [yD hk]
   by_cases h:g=k
   ·have hb:(g == k)=true:=beq_iff_eq.mpr h
    simp only [List.lookup,hb,yD (fun e:g=f=>hk (h.symm.trans e))]
   ·have hb:(g == k)=false:=beq_eq_false_iff_ne.mpr h
    simp only [List.lookup,hb];exact ih
theorem gH (f:Str) (v:V):∀ fs:List (Str × V),f ∈ (cC f v fs).map (·.1)/\∀ g,g ∈ fs.map (·.1)->g ∈ (cC f v fs).map (·.1)
 | []=>⟨by simp [cC],fun g h=>by simp at h⟩
 | (k,x)::r=>by
  obtain ⟨i1,i2⟩:=gH f v r;rw [show cC f v ((k,x)::r)=(if k=f then (k,v)::r else (k,x)::cC f v r) from rfl];by_cases hk:k=f
  ·rw [yE hk]
   subst hk;exact ⟨by simp,fun g h=>by simpa using h⟩
  ·rw [yD hk]
   refine ⟨?_,fun g h=>?_⟩
   ·rw [zN]
    exact zP _ i1
   ·rw [zN] at h ⊢
    rcases zS.mp h with e | e
    ·exact zS.mpr (.inl e)
    ·exact zP _ (i2 g e)
theorem iz (f:Str) (v:V):∀ fs:List (Str × V),(cC f v fs).length <= fs.length + 1
 | []=>by simp [cC]
 | (k,x)::r=>by
  have ih:=iz f v r;rw [show cC f v ((k,x)::r)=(if k=f then (k,v)::r else (k,x)::cC f v r) from rfl];by_cases hk:k=f
  ·rw [yE hk,yP,yP];omega
  ·rw [yD hk,yP,yP];omega
theorem RelO.some_of {v:V}{o:Option Value} (r:RelO (some v) o):∃ u,o=some u/\RelV v u:=by
 cases o with
 | none=>exact (show False from r).elim
 | some u=>exact ⟨u,rfl,r⟩
theorem RelO.none_of {o:Option Value} (r:RelO none o):o=none:=by
 cases o with
 | none=>rfl
 | some u=>exact (show False from r).elim
theorem ql {v:V}{u:Value} (r:RelV v u):handedIn u=true:=by
 cases v with
 | non=>cases (show u=Value.none from r);rfl
 | bl b=>cases (show u=Value.bool b from r);rfl
 | int i=>obtain ⟨t,e⟩:=(show ∃ t,u=Value.int i t from r);cases e;rfl
 | str x=>obtain ⟨t,e⟩:=(show ∃ t,u=Value.str x t from r);cases e;rfl
 | byt b=>obtain ⟨t,e⟩:=(show ∃ t,u=Value.bytes b t from r);cases e;rfl
 | flt b=>obtain ⟨t,e⟩:=(show ∃ t,u=Value.float b t from r);cases e;rfl
 | ref a=>cases (show u=Value.ref a from r);rfl
 | ty n=>cases (show u=Value.type n from r);rfl
section
variable {P:Program}{w:World}{H H':Hp}{h h':Heap}{a C dx:Addr}{fs fs':List (Str × V)}
theorem hZ (FT:HOk P w H h) (e:H a=some (.ins C dx fs)):∃ mA,ObjM h a dx C mA/\(∀ f,RelO (fs.lookup f) (mA f))/\PySem.Within mA (fs.map (·.1))/\fs.length <= 1000/\H dx=some (.own a):=by
 obtain ⟨d,z,ne,ob,mA,n,r,q⟩:=(show ObjOk P w H h a (.ins C dx fs) from FT a _ e);exact ⟨mA,⟨ob,n,ne⟩,r,q,z,d⟩
end
structure Cls (K:Frag) (C:Addr):Prop where
 pg:plainGet K C Str.empty=true
 hd:hasDictIn K C=true
 po:plainOver K C=true
 sa:findIn K (.ref C) "__setattr__"=some (some (.builtin "object.__setattr__"))
theorem Cls.get {K:Frag}{C:Addr} (c:Cls K C) (f:Str):plainGet K C f=true:=c.pg
def NoAttr (K:Frag) (C:Addr) (f:Str):Prop:=findIn K (.ref C) f=some none
theorem NoAttr.taker {K:Frag}{C:Addr}{f:Str} (n:NoAttr K C f):takerIn K C f=some none:=by
 unfold takerIn;rw [show findIn K (.ref C) f=some none from n];rfl
structure gf (K:Frag) (C:Addr) (m:Str) (f:Addr):Prop where
 at_:findIn K (.ref C) m=some (some (.ref f))
 fn:isFn K (.ref f)=true
 kp:keepIn K (.ref f)=true
section
variable {X:Cx}{FO:List (Addr × Obj)}{σ:St}{H:Hp}{s:Shared}{a C dx:Addr}{fs:List (Str × V)}{f:Str}{v:V}{A:Around}{E:Value->Shared->Prop}
theorem oy {b:Bool}{Q:Value->Shared->Prop} (I:Inv X FO σ H s) (e:H a=some (.ins C dx fs)) (c:Cls X.K C) (n:NoAttr X.K C f) (l:fs.lookup f=some v)
  (h:∀ u s',Inv X FO σ H s'->RelV v u->Q u s'):wpAny (model X.prog X.w) A (getAttr (.ref a) f b) Q E s:=by
 obtain ⟨mA,O,r,_,_,_⟩:=hZ I.FT e;obtain ⟨u,hu,ru⟩:=RelO.some_of (v:=v) (o:=mA f) (by rw [<- l];exact r f);exact v6 I.kIn O (c.get f) c.hd n hu (ql ru) (h u _ (I.tok _) ru)
theorem fU {m:Str}{g:Addr}{pl:Sem Bool}{Q:Value × List Value->Shared->Prop} (I:Inv X FO σ H s) (e:H a=some (.ins C dx fs)) (c:Cls X.K C) (k:gf X.K C m g) (l:fs.lookup m=none)
  (h:Q (.ref g,[.ref a]) s):wpAny (model X.prog X.w) A (getMethod (.ref a) m pl) Q E s:=by
 obtain ⟨mA,O,r,_,_,_⟩:=hZ I.FT e;have hn:mA m=none:=RelO.none_of (by rw [<- l];exact r m);exact sT I.kIn O (c.get m) k.at_ k.fn hn h
theorem nT {y:V}{u:Value}{Q:Unit->Shared->Prop} (I:Inv X FO σ H s) (e:H a=some (.ins C dx fs)) (c:Cls X.K C) (n:NoAttr X.K C f) (hl:fs.length < 1000) (ry:RelV y u)
  (h:∀ s',Inv X FO σ (ak H a (.ins C dx (cC f y fs))) s'->Q () s'):wpAny (model X.prog X.w) A (setAttr (.ref a) f u) Q E s:=by
 obtain ⟨mA,O,r,wi,_,ho⟩:=hZ I.FT e;have hz:(fs.map (·.1)).length <= sizeLine:=by rw [zH,sizeLine_eq];omega
 refine uJ I.kIn O c.sa c.po n.taker c.hd wi hz fun h' O' sb=>h _ ?_
 have hd:∃ o,h'.get? dx=some o:=let ⟨o,_,_,e',_⟩:=O'.ns;⟨o,e'⟩;refine I.write (x:=a) (e:=dx) (by rw [e];exact True.intro) (.inr ho) (fun b q hb z=>(sb.2 b hb).trans z) hd ?_;refine ⟨by rw [ae O.ne];exact ho,?_,O.ne,O'.obj,_,O'.ns,fun g=>?_,fun g hg=>?_⟩
 ·have:=iz f y fs;omega
 ·show RelO ((cC f y fs).lookup g) (if g=f then some u else mA g)
  rw [iw];by_cases q:g=f
  ·rw [yE q,yE q];exact ry
  ·rw [yD q,yD q];exact r g
 ·by_cases q:g=f
  ·rw [q];exact (gH f y fs).1
  ·refine (gH f y fs).2 g (wi g fun z=>hg ?_)
   show (if g=f then some u else mA g)=none;rw [yD q];exact z
theorem Inv.made (I:Inv X FO σ H s):Inv X FO σ (ak (ak H s.heap.objs.size (.own (s.heap.objs.size + 1))) (s.heap.objs.size + 1) (.ins C s.heap.objs.size []))
  { s with heap:=(s.heap.push emptyDict).push (instObj C s.heap.objs.size) }:=by
 have e1:(s.heap.push emptyDict).get? s.heap.objs.size=some emptyDict:=zX s.heap rfl;have e2:((s.heap.push emptyDict).push (instObj C s.heap.objs.size)).get? (s.heap.objs.size + 1)=some (instObj C s.heap.objs.size):=by
  have:=zX (s.heap.push emptyDict) (o:=instObj C s.heap.objs.size) rfl
  rwa [Heap.size_push] at this
 have e3:(s.heap.push emptyDict).Ns s.heap.objs.size (fun _=>none):=⟨emptyDict,#[],_,e1,rfl,(fun e he=>absurd he (by simp)),fun _=>rfl⟩;have I1:=I.laid (a:=s.heap.objs.size) (o:=.own (s.heap.objs.size + 1)) (h':=s.heap.push emptyDict) (t':=s.toks) (fun b u q=>zG _ q) (zO _) ⟨_,e1⟩;refine I1.laid (a:=s.heap.objs.size + 1) (o:=.ins C s.heap.objs.size []) (t':=s.toks) (fun b u q=>zG _ q) (Nat.le_of_eq (Heap.size_push _ _)) ?_;have ne:s.heap.objs.size ≠ s.heap.objs.size + 1:=zT (Nat.lt_succ_self _);refine ⟨by rw [ae ne,aK],Nat.zero_le _,ne,e2,fun _=>none,(Heap.Ns1.of_empty e3).at fun o q=>zG _ q,fun _=>True.intro,fun y hy=>absurd rfl hy⟩
theorem wj {prog:Program}{w:World}{env:Env}{e:Expr}{f:Str}{pos:Pos}{s:Shared}{Q:Value->Shared->Prop} (hb:attributeBase e f env (eval e env)=eval e env)
  (h:wpAny (model prog w) A (eval e env) (fun o s₁=>wpAny (model prog w) A (getAttr o f true) Q E s₁) E s):wpAny (model prog w) A (eval (.Attribute e f pos) env) Q E s :=
 Attribute_any_ h (by rw [arm_eval_Attribute,hb])
end
def DC (K:Frag) (ta:TE) (f:Str):TE:=fun σ H Q=>ta σ H fun x H1=>∃ a C dx fs v,x=.ref a/\H1 a=some (.ins C dx fs)/\Cls K C/\NoAttr K C f/\fs.lookup f=some v/\Q v H1
def DK (K:Frag) (ta tv:TE) (f:Str):TS:=fun D σ H=>tv σ H fun y H1=>ta σ H1 fun x H2=>∃ a C dx fs,x=.ref a/\H2 a=some (.ins C dx fs)/\Cls K C/\NoAttr K C f/\fs.length < 1000 /\
 D.nx σ (ak H2 a (.ins C dx (cC f y fs)))
section
variable {X:Cx}{o e value:Expr}{f:Str}{pos pos' tpos:Pos}{ta tv:TE}
theorem xR (he:PE X e ta) (hb:attributeBase e f X.env (eval e X.env)=eval e X.env):PE X (.Attribute e f pos) (DC X.K ta f):=by
 intro FO s σ H Q I h;refine wj hb (aH (he FO s σ H _ I h) fun u s1 hq0=>?_);obtain ⟨x,H1,I1,rx,a,C,dx,fs,v,ex,ea,c,n,l,q⟩:=hq0;subst ex;obtain rfl:u=Value.ref a:=rx;exact oy I1 ea c n l fun u' s2 I2 ru=>⟨v,H1,I2,ru,q⟩
theorem xD (ha:PE X o ta) (hv:PE X value tv) (hs:swapsWith value (some (.Attribute o f pos')) pos.line X.env=pure false):PS X (.Assign [.Attribute o f pos'] value pos) (DK X.K ta tv f):=by
 intro FO s σ H D I h;refine plainObj_wpAny_Assign_Attribute (aH (hv FO s σ H _ I h) fun u s1 ⟨y,H1,I1,ry,q⟩=>aH (ha FO s1 σ H1 _ I1 q) fun ov s2 hq0=>?_) hs;obtain ⟨x,H2,I2,rx,a,C,dx,fs,ex,ea,c,n,l,q2⟩:=hq0;subst ex;obtain rfl:ov=Value.ref a:=rx;exact nT I2 ea c n l ry fun s3 I3=>⟨σ,_,I3,q2⟩
theorem AK {pl:Sem Bool}{m:Str}{apos:Pos}{args:List Expr}{FO:List (Addr × Obj)}{s:Shared}{σ:St}{H:Hp}{Q:Value->Shared->Prop}{te:TE} (he:PE X e te) (I:Inv X FO σ H s)
  (h:te σ H fun x H1=>∃ a C dx fs g,x=.ref a/\H1 a=some (.ins C dx fs)/\Cls X.K C/\gf X.K C m g/\fs.lookup m=none /\
   ∀ s1,Inv X FO σ H1 s1->wpAny (model X.prog X.w) X.A (callWith pos (.ref g) [.ref a] (backTo pos (starEach args X.env)) (backToKw pos (keywordEach [] X.env))) Q X.xe s1)
  (ht:eval (.Call (.Attribute e m apos) args [] pos) X.env=(do
   let ov <- eval e X.env
   standAt apos.atName
   let (f,first) <- holding [ov] (getMethod ov m pl)
   callWith pos f first (backTo pos (starEach args X.env)) (backToKw pos (keywordEach [] X.env)))) :
  wpAny (model X.prog X.w) X.A (eval (.Call (.Attribute e m apos) args [] pos) X.env) Q X.xe s:=by
 refine methodCall_KW (pl:=pl) (aH (he FO s σ H _ I h) fun u s1 hq0=>?_) ht;obtain ⟨x,H1,I1,rx,a,C,dx,fs,g,ex,ea,c,k,l,q⟩:=hq0;subst ex;obtain rfl:u=Value.ref a:=rx;exact fU I1 ea c k l (q s1 I1)
end
section
variable {X:Cx}{FO:List (Addr × Obj)}{σ:St}{H:Hp}{s:Shared}{A:Around}{E:Value->Shared->Prop}{Q:Value->Shared->Prop}{c:Value}{b:Bool}
inductive TyOf (K:Frag) (H:Hp):V->Value->Prop where
 | non:TyOf K H .non (.type "NoneType")
 | bl (x:Bool):TyOf K H (.bl x) (.type "bool")
 | int (i:Int):TyOf K H (.int i) (.type "int")
 | str (x:Str):TyOf K H (.str x) (.type "str")
 | flt (x:UInt64):TyOf K H (.flt x) (.type "float")
 | lst {a:Addr}{xs:List V} (e:H a=some (.lst xs)):TyOf K H (.ref a) (.type "list")
 | frz {a:Addr}{o:Obj}{xs:List V} (e:H a=some (.frz o (.lst xs))):TyOf K H (.ref a) (.type "list")
 | tup {a:Addr}{xs:List V} (e:H a=some (.tup xs)):TyOf K H (.ref a) (.type "tuple")
 | dK {a:Addr}{FP:List (aZ × V)} (e:H a=some (.dK FP)):TyOf K H (.ref a) (.type "dict")
 | dT {a:Addr}{FP:List (List aZ × V)} (e:H a=some (.dT FP)):TyOf K H (.ref a) (.type "dict")
 | ins {a C dx:Addr}{fs:List (Str × V)} (e:H a=some (.ins C dx fs)) (cl:Cls K C) (ha:findIn K (.ref C) "__class__"=some (some (.builtin "object.__class__")))
   (hn:specialIn K (.builtin "object.__class__") "__get__"=some (some (.builtin "getset_descriptor.__get__"))) (htk:takesIn K (.builtin "object.__class__")=some true)
   (hm:mroIn K C (.type "object")=some true):TyOf K H (.ref a) (.ref C)
theorem fb {x:V}{u t:Value} (I:Inv X FO σ H s) (rx:RelV x u) (ty:TyOf X.K H x t) (e:kitOne X.K t c=some b) (h:∀ tk,Q (.bool b) { s with toks:=tk }) :
  wpAny (model X.prog X.w) A (call (.builtin "isinstance") [u,c]) Q E s:=by
 cases ty with
 | non=>cases (show u=Value.none from rx);exact kia_one kitx_none I.kIn True.intro e (fun z=>nomatch z) h
 | bl y=>cases (show u=Value.bool y from rx);exact kia_one kitx_bool I.kIn True.intro e (fun z=>nomatch z) h
 | int i=>obtain ⟨t,q⟩:=(show ∃ t,u=Value.int i t from rx);cases q;exact kia_one kitx_int I.kIn True.intro e (fun z=>nomatch z) h
 | str y=>obtain ⟨t,q⟩:=(show ∃ t,u=Value.str y t from rx);cases q;exact kia_one kitx_str I.kIn True.intro e (fun z=>nomatch z) h
 | flt y=>obtain ⟨t,q⟩:=(show ∃ t,u=Value.float y t from rx);cases q;exact kia_one kitx_float I.kIn True.intro e (fun z=>nomatch z) h
 | @lst a xs ea =>
  cases (show u=Value.ref a from rx);obtain ⟨_,_,n,_,h1⟩:=(show ObjOk X.prog X.w H s.heap a (.lst xs) from I.FT a _ ea);exact kia_one kitx_list I.kIn ⟨_,h1,rfl⟩ e (fun z=>nomatch z) h
 | @frz a ob xs ea =>
  cases (show u=Value.ref a from rx);obtain ⟨_,_,_,n,_,h1⟩:=(show ObjOk X.prog X.w H s.heap a (.frz ob (.lst xs)) from I.FT a _ ea);exact kia_one kitx_list I.kIn ⟨_,h1,rfl⟩ e (fun z=>nomatch z) h
 | @tup a xs ea =>
  cases (show u=Value.ref a from rx);obtain ⟨_,_,_,p⟩:=(show ObjOk X.prog X.w H s.heap a (.tup xs) from I.FT a _ ea);obtain ⟨o,h1,h2,_⟩:=p;exact kia_one kitx_tuple I.kIn ⟨o,h1,h2⟩ e (fun z=>nomatch z) h
 | @dK a FP ea =>
  cases (show u=Value.ref a from rx);obtain ⟨_,_,vs,_,p⟩:=(show ObjOk X.prog X.w H s.heap a (.dK FP) from I.FT a _ ea);obtain ⟨o,es,ep,h1,h2,_⟩:=p;exact kia_one kitx_dict I.kIn ⟨o,h1,h2.1⟩ e (fun z=>nomatch z) h
 | @dT a FP ea =>
  cases (show u=Value.ref a from rx);obtain ⟨_,_,xs,_,o,es,ep,h1,h2,_⟩:=(show ObjOk X.prog X.w H s.heap a (.dT FP) from I.FT a _ ea);exact kia_one kitx_dict I.kIn ⟨o,h1,h2.1⟩ e (fun z=>nomatch z) h
 | @ins a C dx fs ea cl ha hn htk hm =>
  cases (show u=Value.ref a from rx);obtain ⟨mA,O,_⟩:=hZ I.FT ea;obtain ⟨od,J,_⟩:=O.look;exact kia_one (kitx_own (cl.get _) cl.hd ha hn htk hm) I.kIn J e (fun z=>nomatch z) h
end
structure Room (k:Nat) (A:Around):Prop where
 hd:A.handled=none
 dp:A.depth + 3 * k + 5 < recursionLimit
 un:A.units + 16 * k + 200 < cLine
 gd:A.guards=some []
theorem Room.mono {j k:Nat}{A:Around} (r:Room k A) (h:j <= k):Room j A:=⟨r.hd,by have:=r.dp;omega,by have:=r.un;omega,r.gd⟩
theorem Room.deeper {k:Nat}{A:Around} (r:Room (k + 1) A) (env:Env):Room k (A.deeper env) :=
 ⟨r.hd,by have:=r.dp;show A.depth + 1 + 3 * k + 5 < _;omega,by have:=r.un;show A.units + 3 + 16 * k + 200 < _;omega,r.gd⟩
theorem ol {A:Around}{C:Addr}{us:List Value}{kw:List (Str × Value)}:(A.under (.builtin "type.__call__" ⟨.ref C::us,kw⟩)).depth=A.depth + 1:=by
 first | rfl | simp [Around.under,Code.weight,Code.isCreation,Code.isGuard,Code.isCaller,Code.frames,Code.isFrame,guardIds]
theorem oj {A:Around}{C:Addr}{us:List Value}{kw:List (Str × Value)}:(A.under (.builtin "type.__call__" ⟨.ref C::us,kw⟩)).units=A.units + 1:=by
 first | rfl | simp [Around.under,Code.cUnits,Code.frames,Code.isFrame]
theorem mz {A:Around}{C:Addr}{us:List Value}{kw:List (Str × Value)}:(A.under (.builtin "type.__call__" ⟨.ref C::us,kw⟩)).guards=A.guards:=by
 first | rfl | simp [Around.under,Code.guards,Code.isGuard,guardIds,pushGuards]
theorem Room.make {k:Nat}{A:Around} (r:Room (k + 1) A) (C:Addr) (us:List Value) (kw:List (Str × Value)):Room k (A.under (.builtin "type.__call__" ⟨.ref C::us,kw⟩)) :=
 ⟨r.hd,by have:=r.dp;rw [ol];omega,by have:=r.un;rw [oj];omega,by rw [mz];exact r.gd⟩
theorem Room.depth {k:Nat}{A:Around} (r:Room k A):A.depth < recursionLimit:=by have:=r.dp;omega
theorem Room.units {k:Nat}{A:Around} (r:Room k A):A.units + 64 < cLine:=by have:=r.un;omega
noncomputable def qX:TA:=fun _ H Q=>Q [] H
noncomputable def AX (ta:TE) (tr:TA):TA:=fun σ H Q=>ta σ H fun x H1=>tr σ H1 fun xs H2=>Q (x::xs) H2
section
variable {X:Cx}{e:Expr}{es:List Expr}{te:TE}{t:TA}{pos:Pos}
theorem pO:PA X [] qX:=fun _ _ _ _ H Q I h=>Calls.spliced_nil ⟨[],H,I,.nil,h⟩
theorem jX (ha:PE X e te) (hr:PA X es t) (hs:starEach (e::es) X.env=(false,eval e X.env)::starEach es X.env:=by rfl):PA X (e::es) (AX te t):=by
 intro pos FO s σ H Q I h;rw [hs];show wpAny _ _ (spliced ((false,eval e X.env)::backTo pos (starEach es X.env))) _ _ s;refine Calls.spliced_cons (aH (ha FO s σ H _ I h) fun u s1 hq0=>?_);obtain ⟨x,H1,I1,r1,q1⟩:=hq0;exact aH (hr pos FO s1 σ H1 _ I1 q1) fun us s2 ⟨xs,H2,I2,r2,q2⟩=>⟨x::xs,H2,I2,.cons r1 r2,q2⟩
def Du (t:TA):TE:=fun σ H Q=>t σ H fun xs H1=>xs.length <= sizeLine/\∀ p,H1 p=none->Q (.ref p) (ak H1 p (.tup xs))
def Dz (t:TA):TE:=fun σ H Q=>t σ H fun xs H1=>xs.length <= sizeLine/\∀ p,H1 p=none->Q (.ref p) (ak H1 p (.lst xs))
theorem xM {x1} (h:PA X es t):PE X (.Tuple es x1 pos) (Du t):=by
 intro FO s σ H Q I hq;refine wpAny_Tuple_spliced (aH (h pos FO s σ H _ I hq) fun us s1 ⟨xs,H1,I1,r,z,q⟩=>⟨by rw [<- r.length];exact z,?_⟩);have hf:H1 s1.heap.objs.size=none:=I1.FT.fresh (zO _);refine ⟨.ref s1.heap.objs.size,ak H1 s1.heap.objs.size (.tup xs),I1.laid (t':=s1.toks) (fun b u e=>zG _ e) (zO _) ?_,rfl,q _ hf⟩;exact ⟨z,us,r,⟨_,zX _ rfl,rfl,_,rfl⟩⟩
theorem pM (h:PA X es t):PE X (.List es pos) (Dz t):=by
 intro FO s σ H Q I hq;refine wpAny_List_spliced (aH (h pos FO s σ H _ I hq) fun us s1 ⟨xs,H1,I1,r,z,q⟩=>⟨by rw [<- r.length];exact z,?_⟩);have hf:H1 s1.heap.objs.size=none:=I1.FT.fresh (zO _);refine ⟨.ref s1.heap.objs.size,ak H1 s1.heap.objs.size (.lst xs),I1.laid (t':=s1.toks) (fun b u e=>zG _ e) (zO _) ?_,rfl,q _ hf⟩;exact ⟨z,us,0,r,zX _ rfl⟩
end
abbrev Sp:=List V->Hp->VK->XK->Prop
abbrev gZ:=List Env->Hp->Shared->XK->Value->Shared->Prop
structure Env0 (P:Program) (w:World) (K:Frag) (mg:Str->Option Value) (base:Heap) (A:Around) (outer:List Env) (s:Shared) (H:Hp):Prop where
 frames:A.frames=some outer
 mod:Mod K mg base
 bs:∀ b o,base.get? b=some o->s.heap.get? b=some o/\H b=none
 bsz:base.objs.size <= s.heap.objs.size
 funs:s.heap.FunFrames base outer
 frf:∀ b ∈ fH outer,H b=none
 FT:HOk P w H s.heap
 bare:AllBare s.gens
def CE (outer:List Env) (P:Program) (w:World) (H:Hp) (s:Shared) (Q:VK) (u:Value) (s':Shared):Prop :=
 ∃ v H',s'.os=s.os/\AllBare s'.gens/\Un (fH outer) [] H H' s.heap s'.heap/\HOk P w H' s'.heap/\RelV v u/\Q v H'
def CR (CX:gZ) (outer:List Env) (P:Program) (w:World) (H:Hp) (s:Shared) (Q:VK) (E:XK) (r:Result) (s':Shared):Prop :=
 match r with
 | .ok (.ret u)=>CE outer P w H s Q u s'
 | .ok _=>False
 | .error e=>CX outer H s E e s'
structure FnOk (P:Program) (w:World) (K:Frag) (mg:Str->Option Value) (base:Heap) (CX:gZ) (k:Nat) (f:Addr) (fd:FuncData) (ps:List Str) (sp:Sp):Prop where
 len:∀ vs H Q E,sp vs H Q E->vs.length=ps.length
 run:∀ (A:Around) (outer:List Env) (s:Shared) (H:Hp) (args:Args) (us:List Value) (vs:List V) (Q:VK) (E:XK),Room k A->Env0 P w K mg base A outer s H->BindsTo s fd args (ps.zip us)->Vals vs us->sp vs H Q E ->
  codeAny (model P w) A (.call (.ref f) args) (CR CX outer P w H s Q E) s
theorem FnOk.mono {P:Program}{w:World}{K:Frag}{mg:Str->Option Value}{base:Heap}{CX:gZ}{j k:Nat}{f:Addr}{fd:FuncData}{ps:List Str}{sp:Sp} (F:FnOk P w K mg base CX j f fd ps sp) (h:j <= k) :
  FnOk P w K mg base CX k f fd ps sp:=⟨F.len,fun A outer s H args us vs Q E hr=>F.run A outer s H args us vs Q E (hr.mono h)⟩
theorem FnOk.imp {P:Program}{w:World}{K:Frag}{mg:Str->Option Value}{base:Heap}{CX:gZ}{k:Nat}{f:Addr}{fd:FuncData}{ps:List Str}{sp sp':Sp} (F:FnOk P w K mg base CX k f fd ps sp)
  (h:∀ vs H Q E,sp' vs H Q E->sp vs H Q E):FnOk P w K mg base CX k f fd ps sp' :=
 ⟨fun vs H Q E q=>F.len vs H Q E (h _ _ _ _ q),fun A outer s H args us vs Q E hr he hb hv hs=>F.run A outer s H args us vs Q E hr he hb hv (h _ _ _ _ hs)⟩
theorem Env0.make {P:Program}{w:World}{K:Frag}{mg:Str->Option Value}{base:Heap}{A:Around}{outer:List Env}{s:Shared}{H:Hp} (e:Env0 P w K mg base A outer s H) (C:Addr) (us:List Value) (kw:List (Str × Value)) :
  Env0 P w K mg base (A.under (.builtin "type.__call__" ⟨.ref C::us,kw⟩)) outer s H:=⟨by first | exact e.frames | (simpa [Around.under,Code.envs,Code.isFrame,pushEnvs] using e.frames),e.mod,e.bs,e.bsz,e.funs,e.frf,e.FT,e.bare⟩
section
variable {X:Cx}{FO:List (Addr × Obj)}{σ:St}{H:Hp}{s s':Shared}
theorem Inv.env0 (I:Inv X FO σ H s):Env0 X.prog X.w X.K X.mg X.base X.A X.stack s H :=
 ⟨I.ok.frames,I.ok.mod,I.bs,zZ I.ok.bsz I.sz,I.stack,I.stkFree,I.FT,I.bare⟩
theorem Inv.after {Q:VK}{u:Value} (I:Inv X FO σ H s) (h:CE X.stack X.prog X.w H s Q u s'):EP X FO σ Q u s':=by
 obtain ⟨v,H',os,bare,un,FT,r,q⟩:=h;obtain ⟨hh,g,d,t,os'⟩:=s';obtain rfl:os'=s.os:=os;exact ⟨v,H',I.call (h':=hh) (g':=g) (d':=d) (t':=t) (ch:=[]) un FT bare (fun b z=>absurd z (by simp)),r,q⟩
end
noncomputable def nQ (sp:Sp) (dvs:List V) (E:XK) (t:TA):TE:=fun σ H Q=>t σ H fun vs H1=>sp (vs++dvs) H1 Q E
def nO (C:Addr) (m:Str) (sp:Sp) (dvs:List V) (E:XK) (ta:TE) (t:TA):TE:=fun σ H Q=>ta σ H fun x H1=>∃ a dx fs,x=.ref a/\H1 a=some (.ins C dx fs)/\fs.lookup m=none /\
 t σ H1 fun vs H2=>sp (x::(vs++dvs)) H2 Q E
def tG (C:Addr) (sp:Sp) (dvs:List V) (E:XK) (t:TA):TE:=fun σ H Q=>t σ H fun vs H1=>∀ x dx,H1 x=none->H1 dx=none->dx ≠ x ->
 sp (.ref x::(vs++dvs)) (ak (ak H1 dx (.own x)) x (.ins C dx [])) (fun v H2=>v=.non/\Q (.ref x) H2) E
def Binds (K:Frag) (fd:FuncData) (ps:List Str) (ds:List Value):Prop :=
 ∀ (s:Shared) (us:List Value),K.In s.heap->(us++ds).length=ps.length->BindsTo s fd ⟨us,[]⟩ (ps.zip (us++ds))
theorem Binds.all {K:Frag}{fd:FuncData}{ps:List Str} (h:∀ us:List Value,us.length=ps.length->bindArgs fd ⟨us,[]⟩=pure (ps.zip us)):Binds K fd ps []:=fun s us _ hl=>by
 rw [List.append_nil] at hl ⊢;exact .of_eq (h us hl)
def dH (CX:gZ) (X:Cx) (E:XK):Prop:=∀ (FO:List (Addr × Obj)) (σ:St) (H:Hp) (s:Shared) (e:Value) (s':Shared),Inv X FO σ H s->CX X.stack H s E e s'->X.xe e s'
section
variable {X:Cx}{CX:gZ}{k:Nat}{f C:Addr}{fd:FuncData}{ps:List Str}{sp:Sp}{dvs:List V}{ds:List Value}{E:XK}{x m:Str}{p pos apos:Pos}{e o:Expr}{es:List Expr}{ta:TE}{t:TA}
theorem jb {FO:List (Addr × Obj)}{σ:St}{H:Hp}{s:Shared}{Q:VK}{us:List Value}{vs:List V} (F:FnOk X.prog X.w X.K X.mg X.base CX k f fd ps sp) (hr:Room k X.A) (hb:Binds X.K fd ps ds) (hd:Vals dvs ds) (hx:dH CX X E)
  (I:Inv X FO σ H s) (r:Vals vs us) (h:sp (vs++dvs) H Q E):wpAny (model X.prog X.w) X.A (call (.ref f) us) (EP X FO σ Q) X.xe s:=by
 have r2:Vals (vs++dvs) (us++ds):=r.append hd;have hl:(us++ds).length=ps.length:=by rw [<- r2.length];exact F.len _ _ _ _ h
 refine wpAny_call (codeAny_mono (F.run X.A X.stack s H ⟨us,[]⟩ (us++ds) (vs++dvs) Q E hr I.env0 (hb s us I.kIn hl) r2 h) fun r s' hq=>?_);cases r with
 | error e=>exact hx FO σ H s e s' I hq
 | ok fl =>
  cases fl with
  | ret u=>exact I.after hq
  | next=>exact False.elim hq
  | brk=>exact False.elim hq
  | cont=>exact False.elim hq
theorem vt (F:FnOk X.prog X.w X.K X.mg X.base CX k f fd ps sp) (hr:Room k X.A) (hg:Gl X x) (hm:X.mg x=some (.ref f)) (hk:keepIn X.K (.ref f)=true) (hb:Binds X.K fd ps ds) (hd:Vals dvs ds) (hx:dH CX X E)
  (ha:PA X (e::es) t) (hdb:(x == ("__debug__":Str))=false:=by decide) (he:starEach (e::es) X.env=(false,eval e X.env)::starEach es X.env:=by rfl) (hpl:(backTo pos (starEach es X.env)).any (·.1)=false:=by rfl) :
  PE X (.Call (.Name x p) (e::es) [] pos) (nQ sp dvs E t):=by
 intro FO s σ H Q I h;refine wpAny_Call_Name_kw (hR I hg hm ?_ hdb);refine callWith_K (h₀:=X.base) I.ok.mod.kin hk (aH (ha pos FO s σ H _ I h) fun us s1 ⟨vs,H1,I1,r,q⟩=>⟨I1.kIn,?_⟩) he hpl;exact jb F hr hb hd hx I1 r q
theorem sj (F:FnOk X.prog X.w X.K X.mg X.base CX k f fd ps sp) (hr:Room k X.A) (hg:Gl X x) (hm:X.mg x=some (.ref f)) (hk:keepIn X.K (.ref f)=true) (hb:Binds X.K fd ps ds) (hd:Vals dvs ds) (hx:dH CX X E)
  (hdb:(x == ("__debug__":Str))=false:=by decide):PE X (.Call (.Name x p) [] [] pos) (nQ sp dvs E qX):=by
 intro FO s σ H Q I h;refine wpAny_Call_Name_kw (hR I hg hm ?_ hdb);exact PySem.W.callWith_K0 I.kIn hk (jb (us:=[]) F hr hb hd hx I .nil h)
theorem vn {pl:Sem Bool} (he:PE X o ta) (c:Cls X.K C) (hm:gf X.K C m f) (F:FnOk X.prog X.w X.K X.mg X.base CX k f fd ps sp) (hr:Room k X.A) (hb:Binds X.K fd ps ds) (hd:Vals dvs ds) (hx:dH CX X E) (ha:PA X (e::es) t)
  (hst:starEach (e::es) X.env=(false,eval e X.env)::starEach es X.env:=by rfl) (hpl:(backTo pos (starEach es X.env)).any (·.1)=false:=by rfl)
  (ht:eval (.Call (.Attribute o m apos) (e::es) [] pos) X.env=(do
   let ov <- eval o X.env
   standAt apos.atName
   let (f,first) <- holding [ov] (getMethod ov m pl)
   callWith pos f first (backTo pos (starEach (e::es) X.env)) (backToKw pos (keywordEach [] X.env))):=by rfl) :
  PE X (.Call (.Attribute o m apos) (e::es) [] pos) (nO C m sp dvs E ta t):=by
 intro FO s σ H Q I h;refine methodCall_KW (pl:=pl) (aH (he FO s σ H _ I h) fun u s1 hq0=>?_) ht;obtain ⟨x,H1,I1,rx,a,dx,fs,ex,ea,l,q⟩:=hq0;subst ex;obtain rfl:u=Value.ref a:=rx;refine fU I1 ea c hm l ?_;refine callWith_K (first:=[.ref a]) (h₀:=X.base) I.ok.mod.kin hm.kp (aH (ha pos FO s1 σ H1 _ I1 q) fun us s2 ⟨vs,H2,I2,r,q2⟩=>⟨I2.kIn,?_⟩) hst hpl;exact jb (us:=.ref a::us) (vs:=.ref a::vs) F hr hb hd hx I2 (.cons rfl r) q2
theorem se {pl:Sem Bool} (he:PE X o ta) (c:Cls X.K C) (hm:gf X.K C m f) (F:FnOk X.prog X.w X.K X.mg X.base CX k f fd ps sp) (hr:Room k X.A) (hb:Binds X.K fd ps ds) (hd:Vals dvs ds) (hx:dH CX X E)
  (ht:eval (.Call (.Attribute o m apos) [] [] pos) X.env=(do
   let ov <- eval o X.env
   standAt apos.atName
   let (f,first) <- holding [ov] (getMethod ov m pl)
   callWith pos f first (backTo pos (starEach [] X.env)) (backToKw pos (keywordEach [] X.env))):=by rfl) :
  PE X (.Call (.Attribute o m apos) [] [] pos) (nO C m sp dvs E ta qX):=by
 intro FO s σ H Q I h;refine methodCall_KW (pl:=pl) (aH (he FO s σ H _ I h) fun u s1 hq0=>?_) ht;obtain ⟨x,H1,I1,rx,a,dx,fs,ex,ea,l,q⟩:=hq0;subst ex;obtain rfl:u=Value.ref a:=rx;refine fU I1 ea c hm l ?_;exact PySem.W.callWith_K0 (first:=[.ref a]) I1.kIn hm.kp (jb (us:=[.ref a]) (vs:=[.ref a]) F hr hb hd hx I1 (.cons rfl .nil) q)
structure Mk (K:Frag) (C f:Addr):Prop where
 makes:makesIn K C=true
 init:findIn K (.ref C) "__init__"=some (some (.ref f))
 fn:isFn K (.ref f)=true
 kp:keepIn K (.ref C)=true
theorem rm {FO:List (Addr × Obj)}{σ:St}{H:Hp}{s:Shared}{Q:VK}{us:List Value}{vs:List V} (M:Mk X.K C f) (F:FnOk X.prog X.w X.K X.mg X.base CX k f fd ps sp) (hr:Room (k + 1) X.A) (hb:Binds X.K fd ps ds) (hd:Vals dvs ds)
  (hx:dH CX X E) (I:Inv X FO σ H s) (r:Vals vs us)
  (h:∀ x dx,H x=none->H dx=none->dx ≠ x->sp (.ref x::(vs++dvs)) (ak (ak H dx (.own x)) x (.ins C dx [])) (fun v H2=>v=.non/\Q (.ref x) H2) E) :
  wpAny (model X.prog X.w) X.A (call (.ref C) us) (EP X FO σ Q) X.xe s:=by
 have hq:=h (s.heap.objs.size + 1) s.heap.objs.size (I.FT.fresh (Nat.le_succ _)) (I.FT.fresh (zO _)) (zT (Nat.lt_succ_self _));have I2:=Inv.made (C:=C) I;have r2:Vals (V.ref (s.heap.objs.size + 1)::(vs++dvs)) (Value.ref (s.heap.objs.size + 1)::(us++ds)):=.cons rfl (r.append hd);have hl:(Value.ref (s.heap.objs.size + 1)::us++ds).length=ps.length:=by
  have e:=r2.length;rw [F.len _ _ _ _ hq] at e;exact e.symm
 refine wpAny_call (sH (f:=f) I.kIn M.makes M.init (beq_iff_eq.mp M.fn) (codeAny_mono (F.run _ X.stack _ _ ⟨Value.ref (s.heap.objs.size + 1)::us,[]⟩ (Value.ref (s.heap.objs.size + 1)::(us++ds)) _ _ E (hr.make C us [])
  (I2.env0.make C us []) (hb _ (Value.ref (s.heap.objs.size + 1)::us) I2.kIn hl) r2 hq) fun r s' hq'=>?_))
 cases r with
 | error e=>exact hx FO σ _ _ e s' I2 hq'
 | ok fl =>
  cases fl with
  | ret u =>
   obtain ⟨v,H',I3,rv,ev,q3⟩:=I2.after hq';subst ev;exact ⟨rv,⟨V.ref (s.heap.objs.size + 1),H',I3,rfl,q3⟩⟩
  | next=>exact False.elim hq'
  | brk=>exact False.elim hq'
  | cont=>exact False.elim hq'
theorem vo (M:Mk X.K C f) (F:FnOk X.prog X.w X.K X.mg X.base CX k f fd ps sp) (hr:Room (k + 1) X.A) (hg:Gl X x) (hm:X.mg x=some (.ref C)) (hb:Binds X.K fd ps ds) (hd:Vals dvs ds) (hx:dH CX X E)
  (ha:PA X (e::es) t) (hdb:(x == ("__debug__":Str))=false:=by decide) (he:starEach (e::es) X.env=(false,eval e X.env)::starEach es X.env:=by rfl) (hpl:(backTo pos (starEach es X.env)).any (·.1)=false:=by rfl) :
  PE X (.Call (.Name x p) (e::es) [] pos) (tG C sp dvs E t):=by
 intro FO s σ H Q I h;refine wpAny_Call_Name_kw (hR I hg hm ?_ hdb);refine callWith_K (h₀:=X.base) I.ok.mod.kin M.kp (aH (ha pos FO s σ H _ I h) fun us s1 ⟨vs,H1,I1,r,q⟩=>⟨I1.kIn,?_⟩) he hpl;exact rm M F hr hb hd hx I1 r q
end
structure ip (N P:List Str) (sc:Scope):Prop where
 kind:sc.kind=.function
 co:sc.isCoroutine=false
 gen:sc.isGenerator=false
 nd:N.Nodup
 pre:N.take P.length=P
 par:∀ x ∈ P,sc.names.lookup x=some .local\/sc.names.lookup x=some .cell
 nofree:∀ y ∈ sc.names,y.2 ≠ .free
theorem kG {kindOf:Str->Option NameKind}{x:Str}:∀ {binds:List (Str × Value)}{m:Str->Option Value},(∀ v,(x,v) ∉ binds)->bindL kindOf binds m x=m x
 | [],_,_=>rfl
 | (n,v)::r,m,h=>by
  unfold bindL;rw [kG fun w hw=>h w (zP _ hw)];split
  ·have:x ≠ n:=by rintro rfl;exact h v z3
   simp [this]
  ·rfl
theorem kJ {kindOf:Str->Option NameKind}{x:Str}:∀ {binds:List (Str × Value)}{m:Str->Option Value},(∀ v,(x,v) ∉ binds)->bindC kindOf binds m x=m x
 | [],_,_=>rfl
 | (n,v)::r,m,h=>by
  unfold bindC;rw [kJ fun w hw=>h w (zP _ hw)];split
  ·rfl
  ·have:x ≠ n:=by rintro rfl;exact h v z3
   simp [this]
theorem kH {kindOf:Str->Option NameKind}{x:Str}{v:Value}:∀ {P:List Str}{vs:List Value}{i:Nat}{m:Str->Option Value},P.Nodup->P[i]?=some x->vs[i]?=some v->kindOf x=some .local ->
  bindL kindOf (P.zip vs) m x=some v
 | [],_,_,_,_,h,_,_=>by simp at h
 | _::_,[],_,_,_,_,h,_=>by simp at h
 | p::P,w::vs,0,m,nd,h1,h2,hk=>by
  simp at h1 h2;subst h1;subst h2;show bindL kindOf ((p,w)::P.zip vs) m p=_;unfold bindL;rw [kG fun v hv=>(List.nodup_cons.mp nd).1 (List.of_mem_zip hv).1,yE hk];simp
 | p::P,w::vs,i + 1,m,nd,h1,h2,hk=>by
  show bindL kindOf ((p,w)::P.zip vs) m x=_;unfold bindL;exact kH (i:=i) (List.nodup_cons.mp nd).2 (by simpa using h1) (by simpa using h2) hk
theorem kK {kindOf:Str->Option NameKind}{x:Str}{v:Value}:∀ {P:List Str}{vs:List Value}{i:Nat}{m:Str->Option Value},P.Nodup->P[i]?=some x->vs[i]?=some v->kindOf x ≠ some .local ->
  bindC kindOf (P.zip vs) m x=some v
 | [],_,_,_,_,h,_,_=>by simp at h
 | _::_,[],_,_,_,_,h,_=>by simp at h
 | p::P,w::vs,0,m,nd,h1,h2,hk=>by
  simp at h1 h2;subst h1;subst h2;show bindC kindOf ((p,w)::P.zip vs) m p=_;unfold bindC;rw [kJ fun v hv=>(List.nodup_cons.mp nd).1 (List.of_mem_zip hv).1,yD hk];simp
 | p::P,w::vs,i + 1,m,nd,h1,h2,hk=>by
  show bindC kindOf ((p,w)::P.zip vs) m x=_;unfold bindC;exact kK (i:=i) (List.nodup_cons.mp nd).2 (by simpa using h1) (by simpa using h2) hk
def start (N:List Str) (vs:List V):St:=vs.map some++List.replicate (N.length - vs.length) none
def j6 (CX:gZ) (P:Program) (w:World) (K:Frag) (mg:Str->Option Value) (base:Heap) (N:List Str) (qual:Str) (scope:Scope) (f:Addr) (cd:Value) (A:Around) (outer:List Env) (s:Shared) (H:Hp) (E:XK):Cx where
 prog:=P
 w:=w
 K:=K
 mg:=mg
 base:=base
 A:=A.deeper (envOfC qual scope s.heap.objs.size f cd)
 N:=N
 s₀:=s
 H₀:=H
 env:=envOfC qual scope s.heap.objs.size f cd
 outer:=outer
 stack:=envOfC qual scope s.heap.objs.size f cd::outer
 ex:=[]
 calm:=true
 fn:=fun _=>true
 pn:=[]
 xe:=fun e s'=>wpAny (model P w) (A.deeper (envOfC qual scope s.heap.objs.size f cd)) (leaving (envOfC qual scope s.heap.objs.size f cd) e) (fun _ s''=>CX outer H s E e s'') (fun e' s''=>CX outer H s E e' s'') s'
theorem ma {sc:Scope}{n:Nat}{x:Str} (h:sc.names.lookup x=some .cell):∃ c,(cellsFrom n sc.names []).lookup x=some c:=by
 have q:=cellsFrom_some sc.names n [] (.inl h);exact Option.isSome_iff_exists.mp q
theorem qj {CX:gZ}{P:Program}{w:World}{K:Frag}{mg:Str->Option Value}{base:Heap}{N ps:List Str}{qual:Str}{scope:Scope}{f:Addr}{cd:Value}{A:Around}{outer:List Env}{s s1:Shared}{H:Hp}{E:XK}{us:List Value}{vs:List V}
  (S:ip N ps scope) (hd:A.handled=none) (e0:Env0 P w K mg base A outer s H) (hl:vs.length=ps.length) (r:Vals vs us)
  (x:InCallC s s.heap.objs.size (bindL (envOfC qual scope s.heap.objs.size f cd).kindOf (ps.zip us) fun _=>none) (cellsFrom (s.heap.objs.size + 1) scope.names []) (bindC (envOfC qual scope s.heap.objs.size f cd).kindOf (ps.zip us) fun _=>none) s1) :
  Inv (j6 CX P w K mg base N qual scope f cd A outer s H E) [] (start N vs) H s1:=by
 have hpl:ps.length <= N.length:=by have:=congrArg List.length S.pre;rw [List.length_take] at this;omega
 obtain ⟨h1,tk,rfl,hk⟩:=x.done;have noA:∀ b:Addr,b ∉ (j6 CX P w K mg base N qual scope f cd A outer s H E).ex:=fun b z=>absurd (show b ∈ ([]:List Addr) from z) (by simp)
 refine ⟨⟨e0.mod,S.kind,rfl,rfl,zO _,fun y z c h1 h2=>?_,fun y hy=>?_,fun y c _ h=>?_,fun _=>hd,Around.frames_deeper e0.frames,.inr ⟨rfl,rfl⟩,fun b z=>absurd z (noA b),e0.bs,e0.bsz,fun b _ _=>noA b,fun b z=>absurd z (noA b),e0.funs,e0.frf⟩,
  rfl,e0.bare,Un.kept hk,⟨_,x.toInCall.ns,fun i y v h1 h2 h3=>?_⟩,fun y c h=>⟨_,x.cell y c h⟩,e0.FT.fresh (zO _),fun y c h=>?_,fun p hp=>absurd (show p ∈ ([]:List (Addr × Obj)) from hp) (by simp),e0.FT.kept hk,?_⟩
 ·exact name_of_addr x.apart (PySem.mem_of_lookup h1) (PySem.mem_of_lookup h2)
 ·have hy:scope.names.lookup y=some .cell\/scope.names.lookup y=some .free:=hy
  rcases hy with hy | hy
  ·exact ma hy
  ·exact absurd rfl (S.nofree _ (PySem.mem_of_lookup hy))
 ·exact yQ (x.above y c (PySem.mem_of_lookup h))
 ·have hi:i < vs.length:=by
   unfold start at h2;by_cases hi:i < vs.length
   ·exact hi
   ·rw [z0 (by simpa using hi)] at h2
    rw [List.getElem?_replicate] at h2;split at h2 <;> cases h2
  have ha:vs[i]?=some v:=by
   unfold start at h2;rw [zM (by simpa using hi),zQ] at h2;cases e:vs[i]? with
   | none=>rw [e] at h2;cases h2
   | some a=>rw [e] at h2;cases h2;rfl
  obtain ⟨u,hu,rv⟩:=r.get ha;have hp:ps[i]?=some y:=by
   rw [<- S.pre,List.getElem?_take_of_lt oM];exact h1
  have ndP:ps.Nodup:=by rw [<- S.pre];exact S.nd.sublist (List.take_sublist _ _)
  refine ⟨u,rv,?_⟩;rcases S.par y (zV hp) with k | k
  ·exact .inl ⟨k,kH ndP hp hu k⟩
  ·obtain ⟨c,e⟩:=ma (n:=s.heap.objs.size + 1) k
   refine .inr ⟨.inl k,c,e,?_⟩;have q:=x.cell y c e;rw [kK ndP hp hu (by show scope.names.lookup y ≠ _;rw [k];decide)] at q;exact q
 ·exact e0.FT.fresh (yQ (x.above y c (PySem.mem_of_lookup h)))
 ·unfold start
  show _=N.length;rw [zU,zH,List.length_replicate];omega
theorem B7 {CX:gZ}{P:Program}{w:World}{K:Frag}{mg:Str->Option Value}{base:Heap}{k:Nat}{f:Addr}{name qual:Str}{params:Arguments}{body:List Stmt}{scope:Scope}{dV kV doc pm cdv ct oc:Value}{an od:Option Addr}
  {osl:Array (Option Value)}{N ps:List Str}{sp:Sp} (lk:K.lookup f=some ⟨oc,od,.func (fnOf name qual params body scope dV kV doc pm an cdv ct),osl⟩) (hcd:codeIn K cdv qual=true) (S:ip N ps scope)
  (len:∀ vs H Q E,sp vs H Q E->vs.length=ps.length)
  (hbody:∀ (A:Around) (outer:List Env) (s:Shared) (H:Hp) (vs:List V) (Q:VK) (E:XK),Room k (A.deeper (envOfC qual scope s.heap.objs.size f cdv))->sp vs H Q E ->
   ∃ t,PSs (j6 CX P w K mg base N qual scope f cdv A outer s H E) body t/\t { nx:=fun _ H'=>Q .non H',rt:=Q } (start N vs) H) :
  FnOk P w K mg base CX (k + 1) f (fnOf name qual params body scope dV kV doc pm an cdv ct) ps sp:=by
 refine ⟨len,fun A outer s H args us vs Q E hr e0 hb r hsp=>?_⟩;have hl:=len _ _ _ _ hsp;have KX:K.In s.heap:=e0.mod.kin.keeps fun b o e=>(e0.bs b o e).1
 have lim:s.heap.NoLimit:=e0.mod.nolimit.keeps fun b o e=>(e0.bs b o e).1
 have hkind:∀ y ∈ ps.zip us,scope.names.lookup y.1=some .local\/(scope.names.lookup y.1=some .cell/\((cellsFrom (s.heap.objs.size + 1) scope.names []).lookup y.1).isSome=true):=fun hq0 hy=>by
  obtain ⟨n,v⟩:=hq0;rcases S.par n (List.of_mem_zip hy).1 with q | q
  ·exact .inl q
  ·exact .inr ⟨q,cellsFrom_some _ _ _ (.inl q)⟩
 refine codeAny_call_function hr.depth (KX _ _ lk) rfl S.co S.gen rfl (codeRec_of KX hcd) (hb _ _ _ _ ?_);refine wpAny_newFunctionEnv_cells S.kind hkind fun env he s1 x=>?_
 subst he;refine ⟨lim.keeps x.toInCall.keep,codeAny_func ?_⟩;obtain ⟨t,ht,hq⟩:=hbody A outer s H vs Q E (hr.deeper _) hsp;have I:Inv (j6 CX P w K mg base N qual scope f cdv A outer s H E) [] (start N vs) H s1:=qj S hr.hd e0 hl r x;refine yM (ht [] s1 (start N vs) H _ I hq) (fun fl s' hs=>?_) fun e s' hs=>hs
 have aA:∀ {σ':St}{H':Hp}{v:V}{u:Value},Inv (j6 CX P w K mg base N qual scope f cdv A outer s H E) [] σ' H' s'->RelV v u->Q v H'->CE outer P w H s Q u s' :=
  fun {σ' H' v u} J rv q=>⟨v,H',J.os,J.bare,J.base,J.FT,rv,q⟩
 cases fl with
 | ret u =>
  obtain ⟨v,σ',H',J,rv,q⟩:=hs;exact aA J rv q
 | next =>
  obtain ⟨σ',H',J,q⟩:=hs;exact aA (v:=V.non) (u:=Value.none) J rfl q
 | brk =>
  obtain ⟨_,_,_,q⟩:=hs;exact False.elim q
 | cont =>
  obtain ⟨_,_,_,q⟩:=hs;exact False.elim q
section
variable {X:Cx}{x:Str}{p pos:Pos}{e:Expr}{es:List Expr}{t:TA}{id T:String}{r:List V->Hp->VK->Prop}
def wJ (r:List V->Hp->VK->Prop) (t:TA):TE:=fun σ H Q=>t σ H fun vs H1=>r vs H1 Q
theorem iS (hc:bA X (.builtin id) r) (hg:Gl X x) (hm:X.mg x=none) (hv:bootBuiltins x=some (.builtin id)) (ha:PA X (e::es) t) (hn:x ≠ "__name__":=by decide) (hdb:(x == ("__debug__":Str))=false:=by decide)
  (he:starEach (e::es) X.env=(false,eval e X.env)::starEach es X.env:=by rfl) (hpl:(backTo pos (starEach es X.env)).any (·.1)=false:=by rfl):PE X (.Call (.Name x p) (e::es) [] pos) (wJ r t):=by
 intro FO s σ H Q I h;refine wpAny_Call_Name_kw (eI I hg hm hv ?_ hn hdb);exact PyProof.Rows.callWith_builtin1 (aH (ha pos FO s σ H _ I h) fun us s1 ⟨vs,H1,I1,r1,q1⟩=>hc FO s1 σ H1 vs us Q I1 r1 q1) he hpl
theorem kn (hc:bA X (.type T) r) (hg:Gl X x) (hm:X.mg x=none) (hv:bootBuiltins x=some (.type T)) (ha:PA X (e::es) t) (hn:x ≠ "__name__":=by decide) (hdb:(x == ("__debug__":Str))=false:=by decide)
  (he:starEach (e::es) X.env=(false,eval e X.env)::starEach es X.env:=by rfl) (hpl:(backTo pos (starEach es X.env)).any (·.1)=false:=by rfl):PE X (.Call (.Name x p) (e::es) [] pos) (wJ r t):=by
 intro FO s σ H Q I h;refine wpAny_Call_Name_kw (eI I hg hm hv ?_ hn hdb);exact PyProof.Rows.callWith_type1 (aH (ha pos FO s σ H _ I h) fun us s1 ⟨vs,H1,I1,r1,q1⟩=>hc FO s1 σ H1 vs us Q I1 r1 q1) he hpl
end
end L2
namespace HT
open PySem PyProof.Rows
theorem rcLt_int (A:Around) (s:Shared) (a:Int) (t:Tok) (c:Int) (u:Tok) (prog:Program) (w:World) (E:Value->Shared->Prop) (Q:Value->Shared->Prop) (h:Q (.bool (decide (a < c))) s) :
  wpAny (model prog w) A (richCompare .Lt (.int a t) (.int c u)) Q E s :=
 (PyProof.Rows.lt_int h:wpAny (model prog w) A (compareOp .Lt (.int a t) (.int c u)) Q E s)
section
variable {prog:Program}{w:World}{A:Around}{E:Value->Shared->Prop}{s:Shared}
noncomputable def FZ (n d:Nat):Option Int->Nat
 | none=>d
 | some v=>if v < 0 then (v + (n:Int)).toNat else min v.toNat n
end
end HT
namespace L2
open PySem PySem.Spec PyProof.Rows
abbrev TO:=St->Hp->(Option Int->Hp->Prop)->Prop
def PO (X:Cx) (e:Option Expr) (t:TO):Prop :=
 ∀ (FO:List (Addr × Obj)) (s:Shared) (σ:St) (H:Hp) (Q:Option Int->Hp->Prop),Inv X FO σ H s->t σ H Q ->
  wpAny (model X.prog X.w) X.A (evalPart e X.env) (fun u s'=>∃ o H',Inv X FO σ H' s'/\IsPart u o/\Q o H') X.xe s
noncomputable def uF:TO:=fun _ H Q=>Q none H
noncomputable def AS (t:TE):TO:=fun σ H Q=>t σ H fun x H1=>∃ i,x=.int i/\Q (some i) H1
theorem dX {ns:List Int}:∀ {us:List Value},Vals (ns.map V.int) us->IntsAre us ns:=by
 induction ns with
 | nil=>intro us r;rw [List.map_nil] at r;cases r;exact .nil
 | cons n ns ih =>
  intro us r;rw [zN] at r;cases r with
  | cons r1 r2 =>
   obtain ⟨t,e⟩:=r1;subst e;exact .cons n t (ih r2)
section
variable {X:Cx}{e:Expr}{te:TE}{lo hi:Option Expr}{tl th:TO}{pos p2:Pos}
theorem u9:PO X none uF:=by
 intro FO s σ H Q I h;rw [evalPart_none];exact yC ⟨none,H,I,.none,h⟩
theorem u8 (h:PE X e te):PO X (some e) (AS te):=by
 intro FO s σ H Q I hw;rw [evalPart_some];refine aH (h FO s σ H _ I hw) fun u s1 hq0=>?_
 obtain ⟨x,H1,I1,r1,q1⟩:=hq0;obtain ⟨i,rfl,q⟩:=q1;obtain ⟨t,rfl⟩:=r1;exact ⟨some i,H1,I1,.int i t,q⟩
def FV (X:Cx) (r:V->Option Int->Option Int->Hp->VK->Prop):Prop :=
 ∀ (FO:List (Addr × Obj)) (s:Shared) (σ:St) (H:Hp) (x:V) (v vl vu:Value) (lo hi:Option Int) (sl:Addr) (Q:VK),Inv X FO σ H s->RelV x v->s.heap.IsSliceOf sl vl vu .none->IsPart vl lo->IsPart vu hi->r x lo hi H Q ->
  ∃ T id,typeLookup (.type T) "__getitem__"=pure (some (.builtin id))/\s.TypeIs v T/\wpAny (model X.prog X.w) X.A (getItem v (.ref sl)) (EP X FO σ Q) X.xe s
def CF (r:V->Option Int->Option Int->Hp->VK->Prop) (te:TE) (tl th:TO):TE:=fun σ H Q=>te σ H fun x H1=>tl σ H1 fun l H2=>th σ H2 fun u H3=>r x l u H3 Q
theorem rZ {r:V->Option Int->Option Int->Hp->VK->Prop} (hr:FV X r) (he:PE X e te) (hl:PO X lo tl) (hu:PO X hi th):PE X (.Subscript e (.Slice lo hi none p2) pos) (CF r te tl th):=by
 intro FO s σ H Q I h;refine Subscript_ (aH (he FO s σ H _ I h) fun v s1 hq0=>?_);obtain ⟨x,H1,I1,r1,q1⟩:=hq0;refine wpAny_Slice (aH (hl FO s1 σ H1 _ I1 q1) fun vl s2 ⟨l,H2,I2,pl,q2⟩=>aH (hu FO s2 σ H2 _ I2 q2) fun vu s3 hq0=>?_);obtain ⟨u,H3,I3,pu,q3⟩:=hq0;rw [evalPart_none];refine yC ?_;have I4:Inv X FO σ H3 { s3 with heap:=s3.heap.push { cls:=.type "slice",data:=.fields #[vl,vu,.none] } }:=I3.kept (t':=s3.toks) fun b ob q=>zG _ q
 obtain ⟨T,id,hT,ht,hg⟩:=hr FO { s3 with heap:=s3.heap.push { cls:=.type "slice",data:=.fields #[vl,vu,.none] } } σ H3 x v vl vu l u s3.heap.objs.size Q I4 r1 (Heap.IsSliceOf.new ..) pl pu q3;show wpAny (model X.prog X.w) X.A (subscriptTail e (.Slice lo hi none p2) v (.ref s3.heap.objs.size)) (EP X FO σ Q) X.xe { s3 with heap:=s3.heap.push { cls:=.type "slice",data:=.fields #[vl,vu,.none] } };exact tail_any (ops:=[.ref s3.heap.objs.size,v]) ht hT hg (by with_unfolding_all rfl)
def j7 (xs:List V) (lo hi:Option Int):List V:=(xs.drop (HT.FZ xs.length 0 lo)).take (HT.FZ xs.length xs.length hi - HT.FZ xs.length 0 lo)
theorem mC (xs:List V) (lo hi:Option Int):(j7 xs lo hi).length <= xs.length:=by
 unfold j7;rw [List.length_take,List.length_drop];omega
end
noncomputable def lW (n:Nat) (i:Int):Option Nat:=if 0 <= i then (if i < n then some i.toNat else none) else if -(n:Int) <= i then some (i + n).toNat else none
def fj {α:Type} (xs:List α) (i:Int):Option α:=(lW xs.length i).bind fun j=>xs[j]?
theorem mZ {n:Nat}{i:Int}{j:Nat} (h:lW n i=some j):seqIndex? i n=some j/\j < n/\-(n:Int) <= i/\i < n:=by
 unfold lW at h;by_cases h0:0 <= i
 ·rw [yE h0] at h
  by_cases h1:i < n
  ·rw [yE h1] at h
   have e:i.toNat=j:=yA h;exact ⟨by rw [seqIndex_of h0 h1,e],by omega,by omega,h1⟩
  ·rw [yD h1] at h;cases h
 ·rw [yD h0] at h
  by_cases h1:-(n:Int) <= i
  ·rw [yE h1] at h
   have e:(i + n).toNat=j:=yA h;exact ⟨by rw [seqIndex_neg oM h1,e],by omega,h1,by omega⟩
  ·rw [yD h1] at h;cases h
theorem ka {α:Type}{xs:List α}{i:Int}{v:α} (h:fj xs i=some v):∃ j,seqIndex? i xs.length=some j/\xs[j]?=some v/\j < xs.length/\-(xs.length:Int) <= i/\i < xs.length:=by
 unfold fj at h;cases e:lW xs.length i with
 | none=>rw [e] at h;cases h
 | some j =>
  rw [e] at h;obtain ⟨h1,h2,h3,h4⟩:=mZ e;exact ⟨j,h1,h,h2,h3,h4⟩
def kb (b:Expr):Prop:=∀ o i,subscripted b false o i=operate [o,i] (getItem o i)
def IxR (X:Cx) (r:R2):Prop :=
 ∀ (value slice:Expr) (FO:List (Addr × Obj)) (s:Shared) (σ:St) (H:Hp) (x y:V) (v u:Value) (Q:VK),Inv X FO σ H s->RelV x v->RelV y u->r x y H Q ->
  subscripted slice false v u=operate [v,u] (getItem v u)->wpAny (model X.prog X.w) X.A (subscriptTail value slice v u) (EP X FO σ Q) X.xe s
def kP (X:Cx) (id:String) (r:V->List V->Hp->VK->Prop):Prop :=
 ∀ (FO:List (Addr × Obj)) (s:Shared) (σ:St) (H:Hp) (x:V) (xs:List V) (v:Value) (us:List Value) (Q:VK),Inv X FO σ H s->RelV x v->Vals xs us->r x xs H Q ->
  wpAny (model X.prog X.w) X.A (call (.builtin id) (v::us)) (EP X FO σ Q) X.xe s
section
variable {X:Cx}{a b:Expr}{ta tb:TE}{pos:Pos}
theorem IxR.or {r r':R2} (h:IxR X r) (h':IxR X r'):IxR X (fun x y H Q=>r x y H Q\/r' x y H Q):=by
 intro value slice FO s σ H x y v u Q I rx ry q hs;rcases q with q | q
 ·exact h value slice FO s σ H x y v u Q I rx ry q hs
 ·exact h' value slice FO s σ H x y v u Q I rx ry q hs
theorem BB {r:R2} (hr:IxR X r) (ha:PE X a ta) (hb:PE X b tb) (hs:kb b):PE X (.Subscript a b pos) (oZ r ta tb):=by
 intro FO s σ H Q I h;exact Subscript_ (tm ha hb I h fun v u s2 x y H2 I2 rx ry q=>hr a b FO s2 σ H2 x y v u Q I2 rx ry q (hs _ _))
def wY (K:Frag):R2:=fun x y H Q=>∃ p xs i v,x=.ref p/\y=.int i/\bx K H p xs/\fj xs i=some v/\Q v H
def wW (K:Frag):R2:=fun x y H Q=>∃ p xs i v,x=.ref p/\y=.int i/\dh K H p xs/\fj xs i=some v/\Q v H
def wX:R2:=fun x y H Q=>∃ z i c,x=.str z/\y=.int i/\z.length <= sizeLine/\fj z.cps.toList i=some c/\Q (.str ⟨#[c]⟩) H
theorem ix_list:IxR X (wY X.K):=by
 intro value slice FO s σ H x y v u Q I rx ry h hs;obtain ⟨p,xs,i,z,rfl,rfl,hq,he,q⟩:=h;cases rx;obtain ⟨t,rfl⟩:=ry;obtain ⟨FR,r,pl,hz⟩:=I.list hq;obtain ⟨j,h1,h2,h3,h4,h5⟩:=ka he;obtain ⟨w,ew,rw'⟩:=r.get h2;have hl:=r.length;have hn:=eG;have aA:EP X FO σ Q w s:=⟨z,H,I,rw',q⟩;by_cases h0:0 <= i
 ·have hj:i.toNat=j:=by
   rw [seqIndex_of h0 h5] at h1;exact yA h1
  exact item_listR pl.isList h0 oM (by rw [hj];simpa using ew) aA hs
 ·have hj:(i + (FR.toArray.size:Int)).toNat=j:=by
   rw [seqIndex_neg oM h4] at h1;rw [zI,<- hl];exact yA h1
  exact subscriptTail_builtinR (x:=w) pl.isList.typeIs slot_list_getitem.lookup
   (wpAny_getItem_list_neg (Q:=fun r s'=>r=w/\EP X FO σ Q r s') pl.isList oM (by rw [zI] <;> omega) oM (by rw [hj];simpa using ew) ⟨rfl,aA⟩) hs
theorem ix_tup:IxR X (wW X.K):=by
 intro value slice FO s σ H x y v u Q I rx ry h hs;obtain ⟨p,xs,i,z,rfl,rfl,hq,he,q⟩:=h;cases rx;obtain ⟨t,rfl⟩:=ry;obtain ⟨FR,r,pl,hz⟩:=I.tuple hq;obtain ⟨j,h1,h2,h3,h4,h5⟩:=ka he;obtain ⟨w,ew,rw'⟩:=r.get h2;have hl:=r.length;have hn:=eG;have aA:EP X FO σ Q w s:=⟨z,H,I,rw',q⟩;exact subscriptTail_builtinR (x:=w) pl.typeIs slot_tuple_getitem.lookup
  (getItem_tuple (j:=j) (Q:=fun r s'=>r=w/\EP X FO σ Q r s') pl oM oM (by rw [zI,<- hl];exact h1) (by simpa using ew) ⟨rfl,aA⟩) hs
theorem zc:IxR X wX:=by
 intro value slice FO s σ H x y v u Q I rx ry h hs;obtain ⟨z,i,c,rfl,rfl,hz,he,q⟩:=h;obtain ⟨t,rfl⟩:=rx;obtain ⟨t',rfl⟩:=ry;obtain ⟨j,h1,h2,h3,h4,h5⟩:=ka he;have hl:z.cps.toList.length=z.length:=by simp [Str.length]
 rw [hl] at h1 h4 h5;have hn:=eG;exact tail_any (typeIs_str s z t) slot_str_getitem.lookup (getItem_str (c:=c) (by
  have e1:decide (i < -(2 ^ 63:Int))=false:=z4 oM;have e2:decide (i ≥ 2 ^ 63)=false:=z4 oM;rw [e1,e2,Bool.or_false]) (by rw [h1];simpa using h2) ⟨.str ⟨#[c]⟩,H,I.tok _,⟨_,rfl⟩,q⟩) hs
def EM (K:Frag):R2:=fun x y H Q=>wY K x y H Q\/wW K x y H Q\/wX x y H Q
theorem lV:IxR X (EM X.K):=ix_list.or (ix_tup.or zc)
theorem oi (FR:List Value) (n j:Nat) (u:Value):Obj.mapSeq (·.setIfInBounds j u) { cls:=.type "list",data:=.seq FR.toArray n }={ cls:=.type "list",data:=.seq (FR.set j u).toArray n }:=by
 simp [Obj.mapSeq]
theorem Inv.lst {FO:List (Addr × Obj)}{σ:St}{H:Hp}{s:Shared}{p:Addr}{xs:List V} (I:Inv X FO σ H s) (h:H p=some (.lst xs)) :
  ∃ (FR:List Value) (n:Nat),Vals xs FR/\s.heap.get? p=some { cls:=.type "list",data:=.seq FR.toArray n }/\xs.length <= sizeLine:=by
 obtain ⟨z,FR,n,r,e⟩:=I.FT p _ h;exact ⟨FR,n,r,e,z⟩
theorem Inv.lstUpd {FO:List (Addr × Obj)}{σ:St}{H:Hp}{s:Shared}{p:Addr}{xs ys:List V}{FR its':List Value}{n n':Nat}{f:Obj->Obj} (I:Inv X FO σ H s) (h:H p=some (.lst xs))
  (ho:s.heap.get? p=some { cls:=.type "list",data:=.seq FR.toArray n }) (hf:f { cls:=.type "list",data:=.seq FR.toArray n }={ cls:=.type "list",data:=.seq its'.toArray n' }) (r:Vals ys its') (hz:ys.length <= sizeLine) (t:Nat) :
  Inv X FO σ (ak H p (.lst ys)) { s with heap:=s.heap.update p f,toks:=t }:=by
 have e:(s.heap.update p f).get? p=some { cls:=.type "list",data:=.seq its'.toArray n' }:=by
  rw [Heap.get?_update_self f ho (by rw [hf] <;> rfl),hf]
 refine I.write (x:=p) (e:=p) (by rw [h];trivial) (.inl rfl) (fun b u hb q=>(Heap.get?_update_other _ _ (Ne.symm hb)).trans q) ⟨_,e⟩ ?_;exact ⟨hz,its',n',r,e⟩
def A7:V->V->V->Hp->(Hp->Prop)->Prop:=fun o i v H Q=>∃ p xs k j,o=.ref p/\i=.int k/\H p=some (.lst xs)/\lW xs.length k=some j/\Q (ak H p (.lst (xs.set j v)))
theorem rk:tD X A7:=by
 intro FO s σ H o i v ov iv u Q I ro ri rv h;obtain ⟨p,xs,k,j,rfl,rfl,hp,hj,q⟩:=h;cases ro;obtain ⟨t,rfl⟩:=ri;obtain ⟨FR,n,r,ho,hz⟩:=I.lst hp;obtain ⟨h1,h2,h3,h4⟩:=mZ hj;have hl:=r.length;have hn:=eG;have I':Inv X FO σ (ak H p (.lst (xs.set j v))) { s with heap:=s.heap.update p (Obj.mapSeq (·.setIfInBounds j u)) } :=
  I.lstUpd hp ho (oi FR n j u) (r.set rv j) (by rw [List.length_set];exact hz) s.toks
 by_cases h0:0 <= k
 ·have hk:k.toNat=j:=by
   rw [seqIndex_of h0 h4] at h1;exact yA h1
  exact ki_setAt ho h0 oM (by rw [zI,<- hl];exact h4) (by rw [hk];exact ⟨_,I',q⟩)
 ·have hk:(k + (FR.toArray.size:Int)).toNat=j:=by
   rw [seqIndex_neg oM h3] at h1;rw [zI,<- hl];exact yA h1
  exact ki_setBack ho oM (by rw [zI,<- hl];exact h3) oM (by rw [hk];exact ⟨_,I',q⟩)
theorem ly (lo hi:Option Int) (n:Nat):(sliceBounds lo hi none n).1=((HT.FZ n 0 lo:Nat):Int)/\(sliceBounds lo hi none n).2.1=((HT.FZ n n hi:Nat):Int)/\(sliceBounds lo hi none n).2.2=1:=by
 refine ⟨?_,?_,rfl⟩
 ·cases lo with
  | none=>simp [sliceBounds,HT.FZ]
  | some i =>
   simp only [sliceBounds,HT.FZ,Option.getD_none,show (1:Int) > 0 by decide,if_true];by_cases h:i < 0
   ·simp only [h,if_true] <;> omega
   ·simp only [h,if_false] <;> omega
 ·cases hi with
  | none=>simp [sliceBounds,HT.FZ]
  | some i =>
   simp only [sliceBounds,HT.FZ,Option.getD_none,show (1:Int) > 0 by decide,if_true];by_cases h:i < 0
   ·simp only [h,if_true] <;> omega
   ·simp only [h,if_false] <;> omega
theorem kQ (FR:List Value) (lo hi:Option Int):slicePick FR.toArray lo hi none=((FR.drop (HT.FZ FR.length 0 lo)).take (HT.FZ FR.length FR.length hi - HT.FZ FR.length 0 lo)).toArray:=by
 obtain ⟨h1,h2,h3⟩:=ly lo hi FR.toArray.size;unfold slicePick;rw [h1,h2,h3];simp only [sliceRange_one,pick_run,zI] <;> rfl
def DM (K:Frag):V->Option Int->Option Int->Hp->VK->Prop:=fun x lo hi H Q=>∃ a xs,x=.ref a/\bx K H a xs/\∀ p,H p=none->Q (.ref p) (ak H p (.lst (j7 xs lo hi)))
theorem uH:FV X (DM X.K):=by
 intro FO s σ H x v vl vu lo hi sl Q I rx hs pl pu h;obtain ⟨a,xs,rfl,hx,q⟩:=h;cases rx;obtain ⟨FR,r,ht,hz⟩:=I.list hx;have hlen:=r.length;refine ⟨"list",_,slot_list_getitem.lookup,ht.isList.typeIs,?_⟩;refine wpAny_getItem_list_slice ht.isList hs pl pu .none (by simp) ?_ (by rw [zI] <;> omega);rw [kQ,<- hlen];refine ⟨.ref s.heap.objs.size,_,I.laid (t':=s.toks) (o:=.lst (j7 xs lo hi)) (fun b ob q=>zG _ q) (zO _) ?_,rfl,q _ (I.FT.fresh (zO _))⟩;exact ⟨zZ (mC xs lo hi) hz,_,0,(r.drop (HT.FZ xs.length 0 lo)).take (HT.FZ xs.length xs.length hi - HT.FZ xs.length 0 lo),zX _ rfl⟩
theorem gR:bA X (.builtin "len") (fun xs H Q=>∃ p ys,xs=[.ref p]/\(bx X.K H p ys\/dh X.K H p ys)/\Q (.int ys.length) H):=by
 intro FO s σ H xs us Q I r h;obtain ⟨p,ys,rfl,hq,q⟩:=h;obtain ⟨u,rfl,rx⟩:=cB r;cases rx;have hn:=eG;rcases hq with hq | hq
 ·obtain ⟨FR,r',pl,hz⟩:=I.list hq
  have hlen:=r'.length;exact Calls.call_len_list pl.isList (by simp only [zI] <;> omega) ⟨.int ys.length,H,I.tok _,⟨s.toks + 1,by rw [zI,hlen]⟩,q⟩
 ·obtain ⟨FR,r',pl,hz⟩:=I.tuple hq
  have hlen:=r'.length;exact len_tuple pl (by simp only [zI] <;> omega) ⟨.int ys.length,H,I.tok _,⟨s.toks + 1,by rw [zI,hlen]⟩,q⟩
theorem mf:bA X (.builtin "len") (fun xs H Q=>∃ z,xs=[.str z]/\z.length <= sizeLine/\Q (.int z.length) H):=by
 intro FO s σ H xs us Q I r h;obtain ⟨z,rfl,hz,q⟩:=h;obtain ⟨u,rfl,t,rfl⟩:=cB r;have hn:=eG;exact len_str oM ⟨.int z.length,H,I.tok _,⟨_,rfl⟩,q⟩
theorem md:bA X (.type "list") (fun xs H Q=>∃ p ys,xs=[.ref p]/\(bx X.K H p ys\/dh X.K H p ys)/\∀ l,H l=none->Q (.ref l) (ak H l (.lst ys))):=by
 intro FO s σ H xs us Q I r h;obtain ⟨p,ys,rfl,hq,q⟩:=h;obtain ⟨u,rfl,rx⟩:=cB r;cases rx;have aA:∀ (FR:List Value),Vals ys FR->ys.length <= sizeLine->∀ (h':Heap) (c':Nat),(∀ b o',s.heap.get? b=some o'->h'.get? b=some o') ->
   h'.get? s.heap.objs.size=some { cls:=.type "list",dict:=none,data:=.seq FR.toArray c',slots:=#[] }->EP X FO σ Q (.ref s.heap.objs.size) { s with heap:=h' }:=fun FR r' hz h' c' kp e =>
  ⟨.ref s.heap.objs.size,_,I.laid (t':=s.toks) kp (zO _) (show ObjOk X.prog X.w _ h' _ (.lst ys) from ⟨hz,FR,c',r',e⟩),rfl,q _ (I.FT.fresh (zO _))⟩
 rcases hq with hq | hq
 ·obtain ⟨FR,r',pl,hz⟩:=I.list hq
  have hlen:=r'.length;obtain ⟨o,ho,hc,n,hd⟩:=pl.isList;exact call_list_seq p (.inl rfl) ho hc hd (fun h' c' kp e=>aA FR r' hz h' c' kp e) (by simp only [zI] <;> omega)
 ·obtain ⟨FR,r',pl,hz⟩:=I.tuple hq
  have hlen:=r'.length;obtain ⟨o,ho,hc,n,hd⟩:=pl;exact call_list_seq p (.inr rfl) ho hc hd (fun h' c' kp e=>aA FR r' hz h' c' kp e) (by simp only [zI] <;> omega)
def oT (K:Frag) (T:String) (x:V) (H:Hp):Prop:=match x with
 | .str _=>T="str"
 | .int _=>T="int"
 | .ref p=>(T="list"/\∃ xs,bx K H p xs)\/(T="tuple"/\∃ o,K.lookup p=some o/\o.cls=.type "tuple"/\o.dict=none) \/
   (T="dict"/\((∃ FP,H p=some (.dK FP))\/∃ FP,H p=some (.dT FP)))\/(T="set"/\∃ S n,H p=some (.set S n))
 | _=>False
theorem oS {FO:List (Addr × Obj)}{σ:St}{H:Hp}{s:Shared}{T:String}{x:V}{v:Value} (I:Inv X FO σ H s) (r:RelV x v) (ty:oT X.K T x H) :
  s.TypeIs v T/\∀ a,v=.ref a->∃ ob,s.heap.get? a=some ob/\ob.dict=none:=by
 cases x with
 | str z =>
  obtain ⟨t,rfl⟩:=r;cases (show T="str" from ty);exact ⟨typeIs_str s z t,fun _ e=>nomatch e⟩
 | int i =>
  obtain ⟨t,rfl⟩:=r;cases (show T="int" from ty);exact ⟨typeIs_int s i t,fun _ e=>nomatch e⟩
 | ref p =>
  cases r;rcases ty with ⟨rfl,xs,hq⟩ | ⟨rfl,o,hk,hc,hd⟩ | ⟨rfl,hk⟩ | ⟨rfl,S,n,hk⟩
  ·obtain ⟨FR,_,pl,_⟩:=I.list hq
   refine ⟨pl.isList.typeIs,fun a e=>?_⟩;cases e;obtain ⟨o,n,e,c,hd,_⟩:=pl;exact ⟨o,e,hd⟩
  ·refine ⟨⟨o,I.kIn p o hk,hc⟩,fun a e=>?_⟩
   cases e;exact ⟨o,I.kIn _ o hk,hd⟩
  ·have z:∃ o,s.heap.get? p=some o/\o.ExactDict:=by
    rcases hk with ⟨FP,hk⟩ | ⟨FP,hk⟩
    ·obtain ⟨_,_,_,_,o,_,_,e,ex,_⟩:=I.FT p _ hk
     exact ⟨o,e,ex⟩
    ·obtain ⟨_,_,_,_,o,_,_,e,ex,_⟩:=I.FT p _ hk
     exact ⟨o,e,ex⟩
   obtain ⟨o,e,ex⟩:=z;refine ⟨⟨o,e,ex.1⟩,fun a e2=>?_⟩;cases e2;exact ⟨o,e,ex.2.1⟩
  ·obtain ⟨o,_,_,_,e,ex,_⟩:=I.FT p _ hk
   refine ⟨⟨o,e,ex.1⟩,fun a e2=>?_⟩;cases e2;exact ⟨o,e,ex.2.1⟩
 | _=>exact False.elim ty
def DF (K:Frag) (T:String) (r:V->List V->Hp->VK->Prop) (to:TE):TE:=fun σ H Q=>to σ H fun x H1=>oT K T x H1/\r x [] H1 Q
def CH (K:Frag) (T:String) (r:V->List V->Hp->VK->Prop) (to:TE) (t:TA):TE:=fun σ H Q=>to σ H fun x H1=>oT K T x H1/\t σ H1 fun xs H2=>r x xs H2 Q
variable {o e:Expr}{es:List Expr}{to:TE}{t:TA}{name:Str}{apos cpos:Pos}{T id:String}{r:V->List V->Hp->VK->Prop}
theorem xS (pa:PlainAttrs T) (slot:Slot T name id) (hty:typeOf (.builtin id)=pure (.type "method_descriptor")) (hm:kP X id r) (ho:PE X o to)
  (hbase:attributeBase o name X.env (eval o X.env)=eval o X.env:=by rfl) (hline:(apos.endLine == cpos.line)=true:=by rfl):PE X (.Call (.Attribute o name apos) [] [] cpos) (DF X.K T r to):=by
 intro FO s σ H Q I h;refine wpAny_Call_method0_late hbase hline (aH (ho FO s σ H _ I h) fun v s1 hq0=>?_);obtain ⟨x,H1,I1,r1,ty,q1⟩:=hq0;obtain ⟨h1,h2⟩:=oS I1 r1 ty;exact ⟨T,id,pa,slot,hty,h1,h2,Calls.callWith_builtin rfl (PySem.evalArgs_none (hm FO s1 σ H1 x [] v [] Q I1 r1 .nil q1))⟩
theorem BC (pa:PlainAttrs T) (slot:Slot T name id) (hty:typeOf (.builtin id)=pure (.type "method_descriptor")) (hm:kP X id r) (ho:PE X o to) (ha:PA X (e::es) t)
  (hbase:attributeBase o name X.env (eval o X.env)=eval o X.env:=by rfl)
  (hfew:((backTo cpos (starEach (e::es) X.env)).all (fun x=>!x.1) && (backToKw cpos (keywordEach [] X.env)).all (fun x=>x.1.isSome)
   && decide ((e::es).length + ([]:List Keyword).length + (if ([]:List Keyword).isEmpty then 0 else 1) < 30))=true:=by rfl)
  (hline:(apos.endLine == cpos.line)=true:=by rfl) (hs:starEach (e::es) X.env=(false,eval e X.env)::starEach es X.env:=by rfl) (hplain:(backTo cpos (starEach es X.env)).any (·.1)=false:=by rfl) :
  PE X (.Call (.Attribute o name apos) (e::es) [] cpos) (CH X.K T r to t):=by
 intro FO s σ H Q I h;refine wpAny_Call_method_late hbase hfew hline rfl (aH (ho FO s σ H _ I h) fun v s1 hq0=>?_);obtain ⟨x,H1,I1,r1,ty,q1⟩:=hq0;obtain ⟨h1,h2⟩:=oS I1 r1 ty;refine ⟨T,id,pa,slot,hty,h1,h2,?_⟩;have hA:=ha cpos FO s1 σ H1 _ I1 q1;rw [hs] at hA ⊢;refine Calls.callWith_builtin (by show (false || (backTo cpos (starEach es X.env)).any (·.1))=false;rw [hplain] <;> rfl) (Calls.evalArgs_plain ?_);exact aH hA fun us s2 ⟨vs,H2,I2,r2,q2⟩=>hm FO s2 σ H2 x vs v us Q I2 r1 r2 q2
end
def Dk (X:Cx) (id:String) (r:V->List V->Hp->VK->Prop):Prop :=
 ∀ (FO:List (Addr × Obj)) (s:Shared) (σ:St) (H:Hp) (x:V) (xs:List V) (v:Value) (us:List Value) (Q:VK),Inv X FO σ H s->RelV x v->Vals xs us->r x xs H Q ->
  wpAny (model X.prog X.w) X.A (call (.builtin id) (v::us)) (EP X FO σ Q) X.xe s
theorem Vals.one {x:V}{us:List Value} (h:Vals [x] us):∃ u,us=[u]/\RelV x u:=by
 cases h with
 | cons r h=>cases h;exact ⟨_,rfl,r⟩
theorem Vals.reverse {xs:List V}{us:List Value} (h:Vals xs us):Vals xs.reverse us.reverse:=by
 induction h with
 | nil=>exact .nil
 | cons r t ih=>rw [List.reverse_cons,List.reverse_cons];exact Vals.append ih (.cons r .nil)
theorem Vals.rep {xs:List V}{us:List Value} (h:Vals xs us):∀ k:Nat,Vals (List.replicate k xs).flatten (List.replicate k us).flatten
 | 0=>.nil
 | k + 1=>by
  rw [List.replicate_succ,List.replicate_succ,List.flatten_cons,List.flatten_cons];exact Vals.append h (Vals.rep h k)
theorem ky (FR:List Value):∀ (k:Nat) (acc:List Value),
  List.foldl (fun x1 x2=>x1++x2) acc.toArray (List.replicate k FR.toArray)=(acc++(List.replicate k FR).flatten).toArray
 | 0,acc=>by simp
 | k + 1,acc=>by
  have e:acc.toArray++FR.toArray=(acc++FR).toArray:=by simp
  have e2:(acc++FR)++(List.replicate k FR).flatten=acc++(List.replicate (k + 1) FR).flatten:=by
   rw [List.replicate_succ,List.flatten_cons,yI]
  rw [<- e2,<- ky FR k (acc++FR),<- e,List.replicate_succ,List.foldl_cons]
section
variable {X:Cx}{FO:List (Addr × Obj)}{σ:St}{H:Hp}{s:Shared}{l b:Addr}{xs ys zs:List V}
theorem Inv.lset {FR its':List Value}{n:Nat}{f:Array Value->Array Value}{t':Nat} (I:Inv X FO σ H s) (hH:H l=some (.lst xs))
  (e:s.heap.get? l=some { cls:=.type "list",data:=.seq FR.toArray n }) (hf:f FR.toArray=its'.toArray) (hv:Vals ys its') (hz:ys.length <= sizeLine) :
  Inv X FO σ (ak H l (.lst ys)) { s with heap:=s.heap.update l (Obj.mapSeq f),toks:=t' }:=by
 have q:=PySem.IsL.update e f;rw [hf] at q;refine I.write (x:=l) (e:=l) (by rw [hH];exact trivial) (.inl rfl) (fun b' u hb hu=>(Heap.get?_update_other s.heap (Obj.mapSeq f) (Ne.symm hb)).trans hu) ⟨_,q⟩ ?_;exact ⟨hz,its',_,hv,q⟩
theorem Inv.lnew {FR:List Value}{t':Nat} (I:Inv X FO σ H s) (hv:Vals ys FR) (hz:ys.length <= sizeLine) :
  Inv X FO σ (ak H s.heap.objs.size (.lst ys)) { s with heap:=s.heap.push { cls:=.type "list",data:=.seq FR.toArray },toks:=t' } :=
 I.laid (fun _ _ q=>zG _ q) (zO _) ⟨hz,FR,0,hv,zX _ rfl⟩
theorem Inv.fresh (I:Inv X FO σ H s):H s.heap.objs.size=none:=I.FT.fresh (zO _)
theorem Inv.lstM (I:Inv X FO σ H s) (hH:H l=some (.lst xs)):xs.length <= sizeLine/\∃ (FR:List Value) (n:Nat),Vals xs FR/\xs.length=FR.length/\s.heap.get? l=some { cls:=.type "list",data:=.seq FR.toArray n }:=by
 obtain ⟨z,FR,n,r,e⟩:=I.FT l _ hH;exact ⟨z,FR,n,r,r.length,e⟩
theorem notLongL {n:Nat} (h:n <= sizeLine):Builtin.List.listTooLong n=false:=by
 unfold Builtin.List.listTooLong;exact z4 oM
end
section
variable {X:Cx}
def uL:V->List V->Hp->VK->Prop:=fun x vs H Q=>∃ l xs y,x=.ref l/\vs=[y]/\H l=some (.lst xs)/\xs.length < sizeLine/\Q .non (ak H l (.lst (xs++[y])))
theorem ko:Dk X "list.append" uL:=by
 intro FO s σ H x vs v us Q I rx rv h;obtain ⟨l,xs,y,rfl,rfl,hH,hz,q⟩:=h;cases rx;obtain ⟨u,rfl,ru⟩:=rv.one;obtain ⟨z,FR,n,r,hl,e⟩:=I.lstM hH;refine call_meets F.slot_list_append ⟨_,e,rfl⟩ F.entry_list_append (F.args_list_append_2 _ _) (PySem.list_append l FR.toArray n u (by rw [zI];omega)) ⟨e,?_⟩;refine ⟨.non,_,I.lset (its':=FR++[u]) hH e (by simp) (r.append (.cons ru .nil)) ?_,rfl,q⟩;rw [zU,List.length_singleton];omega
def DN:R2:=fun x y H Q=>∃ l k xs,x=.ref l/\y=.int k/\H l=some (.lst xs)/\-(2 ^ 63) <= k/\k < 2 ^ 63/\xs.length * k.toNat <= sizeLine /\
 ∀ p,H p=none->Q (.ref p) (ak H p (.lst (List.replicate k.toNat xs).flatten))
theorem vO {α:Type} (xs:List α) (k:Nat):(List.replicate k xs).flatten.length=k * xs.length:=by
 induction k with
 | zero=>simp
 | succ k ih=>rw [List.replicate_succ,List.flatten_cons,zU,ih,Nat.succ_mul,Nat.add_comm]
theorem xV:eY X (binaryOp .Mult) DN:=by
 intro FO s σ H x y v u Q I rx ry h;obtain ⟨l,k,xs,rfl,rfl,hH,h1,h2,hz,q⟩:=h;cases rx;obtain ⟨t,rfl⟩:=ry;obtain ⟨z,FR,n,r,hl,e⟩:=I.lstM hH;have hlen:FR.toArray.size * k.toNat <= sizeLine:=by rw [zI,<- hl];exact hz
 have hcap:¬ FR.toArray.size * k.toNat > (2 ^ 63 - 1) / 8:=by
  have:(sizeLine:Nat) <= (2 ^ 63 - 1) / 8:=by decide
  omega
 have hfit:¬ (!Builtin.List.listFitsIndex k)=true:=by
  rw [fitsIndex_both h1 h2];exact Bool.false_ne_true
 have hlong:¬ Builtin.List.listTooLong (FR.toArray.size * k.toNat)=true:=by
  rw [notLongL hlen];exact Bool.false_ne_true
 have hnew:List.foldl (fun x1 x2=>x1++x2) #[] (List.replicate (if FR.toArray.isEmpty=true then 0 else k.toNat) FR.toArray)=(List.replicate k.toNat FR).flatten.toArray:=by
  have f0:∀ m:Nat,List.foldl (fun x1 x2=>x1++x2) #[] (List.replicate m FR.toArray)=(List.replicate m FR).flatten.toArray:=fun m=>by
   have:=ky FR m []
   rw [List.nil_append] at this;exact this
  rw [f0];cases FR with
  | nil=>simp
  | cons a r'=>rw [yD (by simp)]
 refine wpAny_binaryOp_repeat_ref (T:="list") (U:="int") dC ⟨_,e,rfl⟩ (fun s'=>typeIs_int s' k t) noFill_list_mul F.fills_int_mul F.slot_int_rmul repeat_list F.slot_int_index.lookup
  (call_meets F.slot_int_rmul (typeIs_int s k t) F.entry_int_rmul (F.args_int_rmul_2 _ _) (int___rmul___int_list k t l FR.toArray n)
   ⟨e,rfl,⟨_,e,rfl⟩,call_meets F.slot_list_mul ⟨_,e,rfl⟩ F.entry_list_mul (F.args_list_mul_2 _ _) (AutoListH.list___mul___list_int_3 l FR.toArray n k t hfit hcap hlong) ⟨e,?_⟩⟩)
 rw [hnew];exact ⟨.ref _,_,I.lnew (t':=s.toks) (r.rep k.toNat) (by rw [vO,Nat.mul_comm];exact hz),rfl,q _ I.fresh⟩
end
end L2
namespace Att
open PySem PySem.W PySem.Calls PyProof.Rows
theorem ju {P:Params}{h:Heap}:∀ (ns:List Int) (vs:List Value),WellAll P h vs (ns.map WData.int)->IntsAre vs ns:=by
 intro ns
 induction ns with
 | nil =>
  intro vs w;rw [List.map_nil] at w;cases w;exact .nil
 | cons n ns ih =>
  intro vs w;rw [zN] at w;cases w with
  | cons a b =>
   cases a;exact .cons _ _ (ih _ b)
theorem pb {l:OpenLaw}{n:Nat} (hn:l.most=some n) {P:Params}{h:Heap}{args:List WData}{vals:List Value}
  (hpre:l.row.toRowW.claim.pre args=true) (hwl:WellAll P h vals args) :
  ∃ a vs ns,vals=[Value.ref a]/\args=[WData.list (ns.map WData.int)]/\h.get? a=some { cls:=.type "list",data:=.seq vs.toArray }/\IntsAre vs ns/\ns.length <= n:=by
 have hsh:WShape.hasAll [] args [.list .int]=true:=(pre_splitW hpre).1;have hc:l.pre.holds [] { args:=args }=true:=(pre_splitW hpre).2;obtain ⟨d,r,rfl,h1,h2⟩:=hasAllW_cons hsh;obtain rfl:=hasAllW_nil h2;obtain ⟨xs,rfl,h3⟩:=hasW_list h1;obtain ⟨ns,rfl⟩:=items_int h3;have hlen:ns.length <= n:=by
  unfold OpenLaw.pre at hc;have h4:(WTm.not (.lt (.lit (.int (n:Int))) (.len (.arg 0)))).holds [] { args:=[.list (ns.map .int)] }=true:=by
   have h4:=(holds_andW hc).1;rw [hn] at h4;exact h4
  have h5:=condW_of h4 (w_not (w_lt w_lit (w_len_list (w_arg rfl))));rw [zH] at h5;refine Nat.le_of_not_lt fun q=>?_
  have q':(n:Int) < ((ns.length:Nat):Int):=by omega
  first
   | (rw [yO q'] at h5;exact absurd h5 dC)
   | (simp at h5;omega)
 cases hwl with
 | cons w1 w2 =>
  cases w2;cases w1 with
  | list ho hall=>exact ⟨_,_,ns,rfl,rfl,ho,ju ns _ hall,hlen⟩
theorem pF (l:OpenLaw) (args:List WData):l.row.toRowW.claim.post args (.bool true) args=true :=
 postW_of (r:=l.row.toRowW) (X:=(true == true))
  (show WShape.has [] (.bool true) .bool=true by first | rfl | decide | simp [WShape.has,WShape.arms,WShape.armsAll])
  (show (WTm.eq .res (.lit (.bool true))).value [] { args:=args,res:=some (.bool true),after:=args }=some (.bool (true == true)) from w_eq_bool (w_res rfl) w_lit) rfl
theorem attach_call {l:OpenLaw}{n:Nat}{q:Program}{loose:List Str}{XP:(Str->Option Value)->Heap->Prop}{YP:World->Heap->Prop}{d:DefRec}
  (hn:l.most=some n) (hdf:d.params.defaults=[])
  (call:∀ (w:World) (s₀ s₁:Shared) (mg mb:Str->Option Value) (fa:Addr) (o:Obj) (pm cd doc:Value) (a:Addr) (vs:List Value) (ns:List Int),
   Ground q loose [] XP w s₀ mg mb s₁.heap->YP w s₁.heap ->
   s₁.heap.get? fa=some o->o.data=.func (docDef d.name d.params d.body d.scope pm cd doc)->s₁.heap.CodeRec cd d.name->mg d.name=some (.ref fa) ->
   s₁.heap.get? a=some { cls:=.type "list",data:=.seq vs.toArray }->IntsAre vs ns->ns.length <= n->s₁.gens=#[] ->
   codeAny (model l.prog w) callerA (.call (.ref fa) ⟨[.ref a],[]⟩) (fun r s'=>r=.ok (.ret (.bool true))/\OldK s₁.heap s'.heap/\s'.os=s₁.os/\AllBare s'.gens) s₁) :
  WalkO q loose XP YP l.row.toRowW d [] (fun f vs=>PySem.call f vs):=by
 intro w s₀ s₁ mg mb G Y fa o pm cd doc dV kV ho hd hcd hD hmg hg args vals as hpre hlay hrd hwl hlo;obtain rfl:dV=.none:=Dflts.none hD hdf;obtain rfl:kV=.none:=Dflts.noKw hD;obtain ⟨a,vs,ns,rfl,rfl,hobj,hints,hlen⟩:=pb hn hpre hwl;refine enter_call (codeAny_mono (call w s₀ s₁ mg mb fa o pm cd doc a vs ns G Y ho (fd_plain hd) hcd hmg hobj hints hlen hg) fun r s' hq=>?_);obtain ⟨rfl,h2,h3,h4⟩:=hq;exact ⟨.inl ⟨.bool true,.bool true,[],rfl,fun _=>rfl,.bool true,pF l _,fun _=>⟨List.Pairwise.nil,fun _ hm=>(nomatch hm)⟩⟩,h2,h3,h4⟩
end Att
namespace L2
open PySem PySem.Spec PyProof.Rows
theorem oR:∀ {vs:List Value}{ns:List Int},IntsAre vs ns->Vals (ns.map V.int) vs:=by
 intro vs ns h
 induction h with
 | nil=>exact .nil
 | cons n t h ih=>exact .cons ⟨t,rfl⟩ ih
noncomputable def cH (s:Stmt):Arguments:=match s with
 | .FunctionDef _ a _ _ _ _ _ _ _ _=>a
 | _=>{ posonlyargs:=[],args:=[],vararg:=none,kwonlyargs:=[],kw_defaults:=[],kwarg:=none,defaults:=[] }
noncomputable def cN (s:Stmt):List Stmt:=match s with
 | .FunctionDef _ _ b _ _ _ _ _ _ _=>b
 | _=>[]
noncomputable def b8 (s:Stmt):Scope:=match s with
 | .FunctionDef _ _ _ _ _ _ sc _ _ _=>sc
 | _=>{ kind:=.function,names:=[],isGenerator:=false,isCoroutine:=false }
abbrev cP:gZ:=fun _ _ _ _ _ _=>False
abbrev E0:XK:=fun _ _ _=>False
theorem jg {X:Cx}:dH cP X E0:=fun _ _ _ _ _ _ _ h=>h.elim
structure Fun (K:Frag) (x qual:Str) (st:Stmt) (f:Addr) (fd:FuncData):Prop where
 ex:∃ (oc:Value) (od:Option Addr) (kV doc pm:Value) (an:Option Addr) (cdv ct:Value) (osl:Array (Option Value)),
  fd=fnOf x qual (cH st) (cN st) (b8 st) .none kV doc pm an cdv ct/\K.lookup f=some ⟨oc,od,.func fd,osl⟩/\codeIn K cdv qual=true
 kp:keepIn K (.ref f)=true
section
variable {P:Program}{w:World}{K:Frag}{mg:Str->Option Value}{base:Heap}
theorem Fun.binds {x qual:Str}{st:Stmt}{f:Addr}{fd:FuncData}{ps:List Str} (F:Fun K x qual st f fd)
  (h:∀ (kV doc pm:Value) (an:Option Addr) (cdv ct:Value) (us:List Value),us.length=ps.length->bindArgs (fnOf x qual (cH st) (cN st) (b8 st) .none kV doc pm an cdv ct) ⟨us,[]⟩=pure (ps.zip us)):Binds K fd ps []:=by
 obtain ⟨oc,od,kV,doc,pm,an,cdv,ct,osl,rfl,lk,hcd⟩:=F.ex;exact .all (h kV doc pm an cdv ct)
theorem qp {x qual:Str}{st:Stmt}{f:Addr}{oc:Value}{od an:Option Addr}{osl:Array (Option Value)}{kV doc pm cdv ct:Value} (l:K.lookup f=some ⟨oc,od,.func (fnOf x qual (cH st) (cN st) (b8 st) .none kV doc pm an cdv ct),osl⟩)
  (c:codeIn K cdv qual=true) (k:keepIn K (.ref f)=true):Fun K x qual st f (fnOf x qual (cH st) (cN st) (b8 st) .none kV doc pm an cdv ct):=⟨⟨oc,od,kV,doc,pm,an,cdv,ct,osl,rfl,l,c⟩,k⟩
end
end L2
set_option maxHeartbeats 4000000
namespace DD
open PySem PySem.Spec PyProof.Rows L2
abbrev St:=L2.St
section
variable {X:Cx}{e:Expr}{es:List Expr}{st:Stmt}{sts:List Stmt}
theorem PE_imp {t t':TE} (h:PE X e t) (i:∀ σ H Q,t' σ H Q->t σ H Q):PE X e t':=fun FO s σ H Q I h'=>h FO s σ H Q I (i σ H Q h')
theorem PT_imp {t t':TT} (h:PT X e t) (i:∀ σ H Q,t' σ H Q->t σ H Q):PT X e t':=fun FO s σ H Q I h'=>h FO s σ H Q I (i σ H Q h')
theorem PW_imp {t t':TT} (h:PW X e t) (i:∀ σ H Q,t' σ H Q->t σ H Q):PW X e t':=fun wh FO s σ H Q I h'=>h wh FO s σ H Q I (i σ H Q h')
theorem PA_imp {t t':TA} (h:PA X es t) (i:∀ σ H Q,t' σ H Q->t σ H Q):PA X es t':=fun p FO s σ H Q I h'=>h p FO s σ H Q I (i σ H Q h')
theorem PS_imp {t t':TS} (h:PS X st t) (i:∀ D σ H,t' D σ H->t D σ H):PS X st t':=fun FO s σ H D I h'=>h FO s σ H D I (i D σ H h')
theorem PSs_imp {t t':TS} (h:PSs X sts t) (i:∀ D σ H,t' D σ H->t D σ H):PSs X sts t':=fun FO s σ H D I h'=>h FO s σ H D I (i D σ H h')
theorem OpR_imp {f:Value->Value->Sem Value}{r r':R2} (h:eY X f r) (i:∀ x y H Q,r' x y H Q->r x y H Q):eY X f r':=fun FO s σ H x y v u Q I a b h'=>h FO s σ H x y v u Q I a b (i x y H Q h')
end
theorem PG_imp {X:Cx}{tg:Expr}{t t':TG} (h:PG X tg t) (i:∀ v σ H Q,t' v σ H Q->t v σ H Q):PG X tg t':=fun FO s σ H v u Q I rv h'=>h FO s σ H v u Q I rv (i v σ H Q h')
end DD
namespace L2
open PySem PySem.Spec PyProof.Rows
theorem jI:∀ (names:List (Str × NameKind)) (n:Nat) (acc:List (Str × Addr)),∃ own,cellsFrom n names acc=own++acc/\(∀ p ∈ own,n <= p.2/\(p.1,NameKind.cell) ∈ names) /\
  (∀ x,(x,NameKind.cell) ∈ names->∃ c,(x,c) ∈ own)/\own.Pairwise fun x y=>x.2 ≠ y.2
 | [],n,acc=>⟨[],rfl,(fun _ h=>by cases h),(fun _ h=>by cases h),List.Pairwise.nil⟩
 | (name,kind)::r,n,acc=>by
  unfold cellsFrom;by_cases hk:kind=.cell
  ·subst hk
   obtain ⟨own,e,h1,h2,h3⟩:=jI r (n + 1) ((name,n)::acc);refine ⟨own++[(name,n)],?_,?_,?_,?_⟩
   ·rw [yE dC,e,yI];rfl
   ·intro p hp
    rcases zY.mp hp with hp | hp
    ·exact ⟨Nat.le_of_succ_le (h1 p hp).1,zP _ (h1 p hp).2⟩
    ·rw [zL.mp hp];exact ⟨zO _,z3⟩
   ·intro x hx
    rcases zS.mp hx with hx | hx
    ·cases hx;exact ⟨n,zK _ z3⟩
    ·obtain ⟨c,hc⟩:=h2 x hx;exact ⟨c,List.mem_append_left _ hc⟩
   ·refine List.pairwise_append.mpr ⟨h3,List.pairwise_singleton _ _,fun a ha b hb e=>?_⟩
    rw [zL.mp hb] at e;have h5:=(h1 a ha).1;rw [show a.2=n from e] at h5;exact absurd h5 (Nat.not_succ_le_self n)
  ·obtain ⟨own,e,h1,h2,h3⟩:=jI r n acc
   have hk':(kind == NameKind.cell)=false:=by cases kind <;> first | rfl | exact absurd rfl hk
   refine ⟨own,by rw [hk'];exact e,fun p hp=>⟨(h1 p hp).1,zP _ (h1 p hp).2⟩,fun x hx=>?_,h3⟩;rcases zS.mp hx with hx | hx
   ·cases hx;exact absurd rfl hk
   ·exact h2 x hx
theorem jH {scope:Scope}{env:Env} (h:∀ x,(x,NameKind.free) ∈ scope.names->∃ c,env.cells.lookup x=some c) :
  ∃ cl,closureFor scope env=pure cl/\(∀ p ∈ cl,env.cells.lookup p.1=some p.2)/\∀ x,(x,NameKind.free) ∈ scope.names->∃ c,(x,c) ∈ cl:=by
 have all:∀ (names:List (Str × NameKind)) (acc:List (Str × Addr)),(∀ x,(x,NameKind.free) ∈ names->∃ c,env.cells.lookup x=some c)->(∀ p ∈ acc,env.cells.lookup p.1=some p.2) ->
   ∃ cl,(forIn (m:=Sem) names acc fun (p:Str × NameKind) (cs:List (Str × Addr))=>if (p.2 == NameKind.free)=true then do let __do_lift <- cellOf env p.1;pure (ForInStep.yield ((p.1,__do_lift)::cs)) else pure (ForInStep.yield cs))=pure cl /\
    (∀ p ∈ cl,env.cells.lookup p.1=some p.2)/\(∀ p ∈ acc,p ∈ cl)/\∀ x,(x,NameKind.free) ∈ names->∃ c,(x,c) ∈ cl:=by
  intro names
  induction names with
  | nil=>intro acc _ ha;exact ⟨acc,by rw [List.forIn_nil],ha,fun _ h=>h,(fun _ h=>by cases h)⟩
  | cons p r ih =>
   obtain ⟨name,kind⟩:=p;intro acc hn ha;by_cases hk:kind=.free
   ·subst hk
    obtain ⟨c,hc⟩:=hn name z3;obtain ⟨cl,e,h1,h2,h3⟩:=ih ((name,c)::acc) (fun x hx=>hn x (zP _ hx)) (fun p hp=>by
     rcases zS.mp hp with rfl | hp
     ·exact hc
     ·exact ha p hp)
    refine ⟨cl,?_,h1,fun p hp=>h2 p (zP _ hp),fun x hx=>?_⟩
    ·rw [List.forIn_cons]
     have ec:cellOf env name=pure c:=by unfold cellOf;rw [hc]
     simp only [ec];exact e
    ·rcases zS.mp hx with hx | hx
     ·cases hx;exact ⟨c,h2 _ z3⟩
     ·exact h3 x hx
   ·obtain ⟨cl,e,h1,h2,h3⟩:=ih acc (fun x hx=>hn x (zP _ hx)) ha
    have hk':(kind == NameKind.free)=false:=by cases kind <;> first | rfl | exact absurd rfl hk
    refine ⟨cl,?_,h1,h2,fun x hx=>?_⟩
    ·rw [List.forIn_cons];simp only [hk',z5,if_false];exact e
    ·rcases zS.mp hx with hx | hx
     ·cases hx;exact absurd rfl hk
     ·exact h3 x hx
 obtain ⟨cl,e,h1,_,h3⟩:=all scope.names [] h (fun _ h=>by cases h);refine ⟨cl,?_,h1,h3⟩;simp only [closureFor];rw [e];rfl
theorem sC {M:Model}{A:Around}{E:Value->Shared->Prop}{s:Shared}{scope:Scope}{env:Env}{cl:List (Str × Addr)}{Q:Env->Shared->Prop}
  (hQ:Q (newEnv scope s.heap.objs.size env.globals (cellsFrom (s.heap.objs.size + 1) scope.names cl) env.qual none .none (some env) builtinsNs) { s with heap:=pushCells (s.heap.push { cls:=.type "dict",data:=.dict #[] }) scope.names }) :
  wpAny M A (newFunctionEnv scope env.globals cl [] env.qual none .none (some env)) Q E s:=by
 simp only [newFunctionEnv,Option.isSome_some,if_true];refine yB (wpAny_alloc ?_);refine yB (wpAny_layCells _ (fun name kind cells=>by cases hkc:kind == NameKind.cell <;> simp [hkc]) _ _ _ _ ?_);rw [show ({ s with heap:=s.heap.push { cls:=.type "dict",data:=.dict #[] } }:Shared).heap.objs.size=s.heap.objs.size + 1 from Heap.size_push ..];refine yB ?_;rw [List.forIn_nil];exact yC (yC hQ)
def bU (X:Cx) (N':List Str) (scope:Scope) (cl:List (Str × Addr)) (s:Shared) (H:Hp) (fp:List Addr) (FO:List (Addr × Obj)):Cx :=
 { X with N:=N',s₀:=s,H₀:=H,env:=compEnvC scope (cellsFrom (s.heap.objs.size + 1) scope.names cl) s.heap.objs.size X.env,outer:=X.stack,stack:=X.stack,ex:=fp,
          fn:=fun x=>scope.names.lookup x == some .cell,pn:=X.pn++FO,xe:=fun _ _=>False }
structure gY (X:Cx) (N':List Str) (scope:Scope):Prop where
 kind:scope.kind=.function
 nd:(scope.names.map (·.1)).Nodup
 len:X.N.length <= N'.length
 free:∀ x,(x,NameKind.free) ∈ scope.names->X.env.kindOf x=some .cell\/X.env.kindOf x=some .free
 same:∀ i x,i < X.N.length->N'[i]?=some x->(x,NameKind.free) ∈ scope.names->X.N[i]?=some x
 hid:∀ i x,i < X.N.length->N'[i]?=some x->(∃ k,(x,k) ∈ scope.names)->(x,NameKind.free) ∈ scope.names
theorem ck {α:Type}:∀ {l:List (Str × α)}{x:Str}{k:α},(l.map (·.1)).Nodup->(x,k) ∈ l->l.lookup x=some k
 | (y,j)::r,x,k,nd,h=>by
  rw [zN,List.nodup_cons] at nd;rcases zS.mp h with h | h
  ·cases h;rw [yJ];simp
  ·have ne:x ≠ y:=fun e=>nd.1 (e ▸ List.mem_map_of_mem (f:=(·.1)) h)
   rw [yJ];have:(x == y)=false:=by simpa using ne
   rw [this];exact ck nd.2 h
theorem dE {α:Type}:∀ {l:List (Str × α)}{x:Str}{k:α},(x,k) ∈ l->∃ k',l.lookup x=some k'
 | (y,j)::r,x,k,h=>by
  rw [yJ];cases hb:x == y with
  | true=>exact ⟨j,rfl⟩
  | false =>
   rcases zS.mp h with h | h
   ·cases h;simp at hb
   ·exact dE h
theorem dw {scope:Scope}{env:Env}{x:Str}{k:NameKind} (h:(relabel scope env).names.lookup x=some k):(x,k) ∈ scope.names\/((x,NameKind.free) ∈ scope.names/\k=.cell):=by
 have h1:=mem_of_lookup h;unfold relabel at h1;obtain ⟨⟨n,j⟩,hm,e⟩:=z7.mp h1;dsimp only at e;split at e
 ·rename_i hc
  cases e;refine .inr ⟨?_,rfl⟩;have:j=.free:=by
   cases j <;> simp at hc <;> rfl
  subst this;exact hm
 ·cases e;exact .inl hm
theorem kR {α:Type}{a b:List (Str × α)}{x:Str} (h:∀ p ∈ a,p.1 ≠ x):(a++b).lookup x=b.lookup x:=by
 induction a with
 | nil=>rfl
 | cons p r ih =>
  obtain ⟨y,j⟩:=p;rw [List.cons_append,yJ];have:(x == y)=false:=by
   have:=h (y,j) z3
   simpa using fun e:x=y=>this e.symm
  rw [this];exact ih fun p hp=>h p (zP _ hp)
section
variable {X:Cx}{N':List Str}{scope:Scope}{cl:List (Str × Addr)}{s:Shared}{H:Hp}{fp:List Addr}{FO:List (Addr × Obj)}{σ:St}
theorem td (T:gY X N' scope) (I:Inv X FO σ H s) (hcl:∀ p ∈ cl,X.env.cells.lookup p.1=some p.2) (hfr:∀ x,(x,NameKind.free) ∈ scope.names->∃ c,(x,c) ∈ cl)
  (hf:∀ b ∈ fp,cL X FO H b) (ho:∀ b ∈ fp,∃ o,s.heap.get? b=some o) :
  Inv (bU X N' scope cl s H fp FO) [] (σ++List.replicate (N'.length - X.N.length) none) H { s with heap:=pushCells (s.heap.push { cls:=.type "dict",data:=.dict #[] }) scope.names }:=by
 obtain ⟨own,eo,o1,o2,o3⟩:=jI scope.names (s.heap.objs.size + 1) cl;have keep:∀ b o,s.heap.get? b=some o->(pushCells (s.heap.push { cls:=.type "dict",data:=.dict #[] }) scope.names).get? b=some o:=fun b o e=>pushCells_keeps _ _ b o (zG _ e)
 have clt:∀ x c,(x,c) ∈ cl->c < s.heap.objs.size:=fun x c h=>by
  obtain ⟨v,z⟩:=I.cell x c (hcl _ h);exact z.lt
 -- what a cell of the block is
 have cases_:∀ x c,(own++cl).lookup x=some c->(s.heap.objs.size + 1 <= c/\(x,c) ∈ own)\/X.env.cells.lookup x=some c:=fun x c h=>by
  rcases zY.mp (mem_of_lookup h) with h | h
  ·exact .inl ⟨(o1 _ h).1,h⟩
  ·exact .inr (hcl _ h)
 have hst:∀ b ∈ fp,b ∉ fH X.stack:=fun b hb z=>by
  rcases zS.mp (I.stkSub b z) with e | e
  ·exact (hf b hb).2.1 e
  ·exact (hf b hb).2.2.1 e
 have okc:CellsOk (pushCells (s.heap.push { cls:=.type "dict",data:=.dict #[] }) scope.names) (s.heap.objs.size + 1) (cellsFrom (s.heap.objs.size + 1) scope.names []):=by
  have q:=cellsFrom_ok scope.names (s.heap.push { cls:=.type "dict",data:=.dict #[] }) (s.heap.objs.size + 1) [] ⟨(fun _ _ hm=>by cases hm),List.Pairwise.nil⟩ (by rw [Heap.size_push];exact zO _);rw [Heap.size_push] at q;exact q
 have eown:cellsFrom (s.heap.objs.size + 1) scope.names []=own:=by
  obtain ⟨own',e',_⟩:=jI scope.names (s.heap.objs.size + 1) [];have gen:∀ (names:List (Str × NameKind)) (n:Nat) (acc:List (Str × Addr)),cellsFrom n names acc=cellsFrom n names []++acc:=by
   intro names
   induction names with
   | nil=>intro n acc;rfl
   | cons p r ih =>
    obtain ⟨name,kind⟩:=p;intro n acc;unfold cellsFrom;split
    ·rw [ih (n + 1) ((name,n)::acc),ih (n + 1) [(name,n)],yI];rfl
    ·exact ih n acc
  have:=gen scope.names (s.heap.objs.size + 1) cl
  rw [eo] at this;exact (List.append_cancel_right this).symm
 have ok:(bU X N' scope cl s H fp FO).Ok:=by
  refine ⟨I.ok.mod,T.kind,I.ok.glob,I.ok.blt,zO _,fun x y c h1 h2=>?_,fun x h=>?_,fun x c h1 h2=>?_,I.ok.hd,I.ok.frames,.inl rfl,fun b hb=>⟨?_,fun x c h=>?_⟩,I.bs,zZ I.ok.bsz I.sz,fun b o e hb=>?_,hst,I.stack,I.stkFree⟩
  ·have h1:(own++cl).lookup x=some c:=eo ▸ h1
   have h2:(own++cl).lookup y=some c:=eo ▸ h2;rcases cases_ x c h1 with ⟨l1,m1⟩ | e1
   ·rcases cases_ y c h2 with ⟨l2,m2⟩ | e2
    ·exact name_of_addr o3 m1 m2
    ·obtain ⟨v,z⟩:=I.cell y c e2
     exact absurd (zJ z.lt (Nat.le_of_succ_le (by first | exact l2 | exact l1))) (yR _)
   ·rcases cases_ y c h2 with ⟨l2,m2⟩ | e2
    ·obtain ⟨v,z⟩:=I.cell x c e1
     exact absurd (zJ z.lt (Nat.le_of_succ_le (by first | exact l2 | exact l1))) (yR _)
    ·exact I.ok.inj x y c e1 e2
  ·show ∃ c,(cellsFrom (s.heap.objs.size + 1) scope.names cl).lookup x=some c
   rw [eo];have fromFree:(x,NameKind.free) ∈ scope.names->∃ c,(own++cl).lookup x=some c:=fun hm=>by
    obtain ⟨c,hc⟩:=hfr x hm;exact dE (zK own hc)
   have fromCell:(x,NameKind.cell) ∈ scope.names->∃ c,(own++cl).lookup x=some c:=fun hm=>by
    obtain ⟨c,hc⟩:=o2 x hm;exact dE (List.mem_append_left cl hc)
   rcases h with h | h
   ·rcases dw h with h | ⟨h,_⟩
    ·exact fromCell h
    ·exact fromFree h
   ·rcases dw h with h | ⟨h,e⟩
    ·exact fromFree h
    ·cases e
  ·have h2:(own++cl).lookup x=some c:=eo ▸ h2
   have hc:scope.names.lookup x=some .cell:=by
    have:(scope.names.lookup x == some NameKind.cell)=true:=h1;simpa using this
   rcases cases_ x c h2 with ⟨l1,m1⟩ | e1
   ·exact Nat.le_of_succ_le l1
   ·-- x is one of the block's own: FR cell stands ahead
    obtain ⟨c',hc'⟩:=o2 x (mem_of_lookup hc);obtain ⟨c2,hc2⟩:=dE hc';have:(own++cl).lookup x=some c2:=by
     have gen:∀ l:List (Str × Addr),l.lookup x=some c2->(l++cl).lookup x=some c2:=by
      intro l
      induction l with
      | nil=>intro h;cases h
      | cons p r ih =>
       obtain ⟨y,j⟩:=p;intro h;rw [List.cons_append,yJ];rw [yJ] at h;cases hb:x == y with
       | true=>rw [hb] at h;exact h
       | false=>rw [hb] at h;exact ih h
     exact gen own hc2
    rw [this] at h2;cases h2;exact Nat.le_of_succ_le (o1 _ (mem_of_lookup hc2)).1
  ·obtain ⟨o,e⟩:=ho b hb
   exact zT (yF e)
  ·have h:(own++cl).lookup x=some c:=eo ▸ h
   obtain ⟨o,e⟩:=ho b hb;have hlt:=yF e;rcases cases_ x c h with ⟨l1,m1⟩ | e1
   ·intro z
    rw [z] at l1;exact absurd (zJ hlt (Nat.le_of_succ_le l1)) (yR _)
   ·exact (hf b hb).2.2.2.2.1 x c e1
  ·rcases (hf b hb).2.2.2.1 with z | z
   ·exact I.ok.noex b o e z
   ·exact absurd (zJ (yF e) (zZ I.ok.bsz z)) (yR _)
 refine ⟨ok,rfl,I.bare,Un.kept keep,⟨fun _=>none,(Heap.Ns.new s.heap (.type "dict")).keeps (pushCells_keeps _ _),fun i x v e1 e2 e3=>?_⟩,fun x c h=>?_,I.FT.fresh (zO _),fun x c h=>?_,fun p hp=>?_,I.FT.kept keep,?_⟩
 ·-- a name of the code around
  have hlen:=I.len;have hi:i < σ.length:=by
   rcases yN i σ.length with h | h
   ·exact h
   ·rw [z0 h] at e2
    rw [List.getElem?_replicate] at e2;split at e2 <;> cases e2
  rw [zM hi] at e2;have hmem:∃ k,(x,k) ∈ scope.names:=by
   have:∃ k,(relabel scope X.env).names.lookup x=some k:=by
    rcases e3 with h | h | h <;> exact ⟨_,h⟩
   obtain ⟨k,h⟩:=this;rcases dw h with h | ⟨h,_⟩ <;> exact ⟨_,h⟩
  have hfree:=T.hid i x oM e1 hmem;have eX:=T.same i x oM e1 hfree;have kX:=T.free x hfree;obtain ⟨m,hn,hl⟩:=I.loc;obtain ⟨u,ru,lk⟩:=hl i x v eX e2 (by rcases kX with h | h;exact .inr (.inl h);exact .inr (.inr h));refine ⟨u,ru,.inr ⟨?_,?_⟩⟩
  ·-- FR kind in the block
   have:∃ k,(relabel scope X.env).names.lookup x=some k:=by
    rcases e3 with h | h | h <;> exact ⟨_,h⟩
   obtain ⟨k,h⟩:=this;rcases dw h with h' | ⟨h',e⟩
   ·have e5:=ck T.nd h'
    have e6:=ck T.nd hfree;rw [e5] at e6;cases e6;exact .inr h
   ·subst e;exact .inl h
  ·rcases lk with ⟨k1,_⟩ | ⟨_,c,hc,z⟩
   ·rcases kX with h | h <;> rw [h] at k1 <;> cases k1
   ·refine ⟨c,?_,z.keeps keep⟩
    show (cellsFrom (s.heap.objs.size + 1) scope.names cl).lookup x=some c;rw [eo,kR fun p hp e=>?_]
    ·obtain ⟨c',hc'⟩:=hfr x hfree
     obtain ⟨c2,hc2⟩:=dE hc'
     have:=hcl _ (mem_of_lookup hc2)
     rw [hc] at this;cases this;exact hc2
    ·have e5:=ck T.nd (o1 p hp).2
     rw [e] at e5;have e6:=ck T.nd hfree;rw [e5] at e6;cases e6
 ·have h:(own++cl).lookup x=some c:=eo ▸ h
  rcases cases_ x c h with ⟨l1,m1⟩ | e1
  ·exact ⟨none,(okc.empty x c (eown ▸ m1)).1⟩
  ·obtain ⟨v,z⟩:=I.cell x c e1
   exact ⟨v,z.keeps keep⟩
 ·have h:(own++cl).lookup x=some c:=eo ▸ h
  rcases cases_ x c h with ⟨l1,m1⟩ | e1
  ·exact I.FT.fresh (Nat.le_of_succ_le l1)
  ·exact I.freeC x c e1
 ·rw [List.append_nil] at hp
  obtain ⟨e,n,ne,nf,d⟩:=I.pin p hp;refine ⟨keep _ _ e,n,zT (yF e),fun z=>?_,d⟩;rcases zS.mp (I.stkSub p.1 z) with z | z
  ·exact ne z
  ·exact nf z
 ·show (σ++List.replicate (N'.length - X.N.length) none).length=N'.length
  rw [zU,List.length_replicate,I.len]
  have:=T.len
  omega
theorem Ah {σ1:St}{H1:Hp}{s1:Shared}{h':Heap}{pins1:List (Addr × Obj)} (I:Inv X FO σ H s) (hf:∀ b ∈ fp,cL X FO H b) (I1:Inv (bU X N' scope cl s H fp FO) pins1 σ1 H1 s1) (hs:Heap.SameBut s.heap.objs.size s1.heap h') :
  Inv X FO σ H1 { s1 with heap:=h' }:=by
 have hC:∀ b o,s.heap.get? b=some o->b ≠ s.heap.objs.size:=fun b o e=>zT (yF e)
 have u:=I1.base;have u2:Un (fH X.stack) fp H H1 s.heap h':=by
  refine ⟨fun b o e n hb hx=>?_,fun b o e n hb hx=>?_,u.free,fun b o e hx=>?_,u.tups,u.frzs,u.tbls⟩
  ·rw [hs.2 b (hC b o e)];exact u.keep b o e n hb hx
  ·obtain ⟨sl,q⟩:=u.slot b o e n hb hx
   exact ⟨sl,by rw [hs.2 b (hC b o e)];exact q⟩
  ·obtain ⟨o',q⟩:=u.there b o e hx
   exact ⟨o',by rw [hs.2 b (hC b o e)];exact q⟩
 have hCf:H1 s.heap.objs.size=none:=I1.free;refine I.call' (s':={ s1 with heap:=h' }) I1.os u2 (fun b o e=>?_) I1.bare fun b hb=>⟨(hf b hb).2.2.2.1,(hf b hb).2.1,(hf b hb).2.2.2.2.1,(hf b hb).2.2.2.2.2⟩
 refine (I1.FT b o e).stay (fun c v hc q=>(hs.2 c ?_).trans q) (fun _ q=>q) fun _ _ q=>q
 rintro rfl;rcases hc with z | z
 ·rw [<- z,hCf] at e;cases e
 ·rw [hCf] at z;cases z
def nD (X:Cx) (ifs:List Expr) (t:TT):Prop :=
 ∀ (FO:List (Addr × Obj)) (s:Shared) (σ:St) (H:Hp) (Q:Bool->Hp->Prop),Inv X FO σ H s->t σ H Q ->
  wpAny (model X.prog X.w) X.A (forIn ifs true fun c r=>if r=true then do let ok <- isTrue c X.env (eval c X.env);pure (ForInStep.yield ok) else pure (ForInStep.yield r)) (TP X FO σ Q) X.xe s
theorem vg:nD X [] (fun _ H Q=>Q true H):=fun FO s σ H Q I h=>wpAny_tests_nil ⟨H,I,h⟩
theorem vf {c:Expr}{t:TT} (h:PT X c t):nD X [c] t:=fun FO s σ H Q I h'=>wpAny_tests_one (h FO s σ H Q I h')
def wI (k:Nat) (wi:TI) (g:TG) (tt:TT) (te:TE):TE:=fun σ H Q=>wi σ H fun J H1=>∀ p,H1 p=none ->
 ∃ W:Nat->Nat->St->Hp->Prop,(∃ m,W 0 m (σ++List.replicate k none) (ak H1 p (.lst [])))/\∀ i m σ' H',W i m σ' H' ->
  (J.stop i H'/\Q (.ref p) H')\/(J.go i H'/\∀ x H2,J.yld i H' x H2->g x σ' H2 fun σ2 H3=>tt σ2 H3 fun ok H4=>if ok=true then
   te σ2 H4 fun y H5=>∃ ys,H5 p=some (.lst ys)/\ys.length < sizeLine/\∃ m',m' < m/\W (i + 1) m' σ2 (ak H5 p (.lst (ys++[y])))
   else ∃ m',m' < m/\W (i + 1) m' σ2 H4)
theorem l7 {prog:Program}{w:World}{A:Around}{R:Result->Shared->Prop}{s:Shared}{elt target iter:Expr}{ifs:List Expr}{scope:Scope}{pos:Pos}{it acc:Value}{env:Env} (I:Nat->Shared->Prop)
  (turn:∀ n s,I n s->wpAny (model prog w) A (pyNext it) (fun r s₁=>match r with
   | none=>R (.ok .next) s₁
   | some v=>wpAny (model prog w) A (letOwnedTupleGo target it v) (fun _ s₁'=>wpAny (model prog w) A (assign target env v) (fun _ s₂ =>
     wpAny (model prog w) A (forIn ifs true fun c r=>if r=true then do let ok <- isTrue c env (eval c env);pure (ForInStep.yield ok) else pure (ForInStep.yield r)) (fun ok s₃ =>
      if ok=true then wpAny (model prog w) A (eval elt env) (fun x s₄ =>
       wpAny (model prog w) A (call (.builtin "list.append") [acc,x]) (fun _ s₅=>∃ m,m < n/\I m s₅) (fun _ _=>False) s₄) (fun _ _=>False) s₃
      else ∃ m,m < n/\I m s₃) (fun _ _=>False) s₂) (fun _ _=>False) s₁') (fun _ _=>False) s₁) (fun _ _=>False) s)
  (n:Nat) (h:I n s):codeAny (model prog w) A (.compLoop (.ListComp elt [⟨target,iter,ifs,0⟩] scope pos) 0 it acc env) R s:=by
 refine codeAny_loop rfl I (fun n s hI=>?_) n h;show wpAny _ A ((compTurn (.ListComp elt [⟨target,iter,ifs,0⟩] scope pos) 0 it acc env).onRaise (fun x=>do noteFrame x env;theTreesLotGoes x)) _ _ s;refine wpAny_noted ?_;rw [compTurn_list];refine yB (wpAny_standAt (yB (yM (turn n s hI) (fun r s₁ h₁=>?_) fun _ _ h'=>h'.elim)));cases r with
 | none=>exact yC h₁
 | some v =>
  refine yB (yM h₁ (fun _ s₁' h₁'=>?_) fun _ _ h'=>h'.elim);refine yB (yM h₁' (fun _ s₂ h₂=>yB (yM h₂ (fun ok s₃ h₃=>?_) fun _ _ h'=>h'.elim)) fun _ _ h'=>h'.elim);cases ok with
  | false=>exact yC ⟨rfl,h₃⟩
  | true =>
   exact yB (yB (yM h₃ (fun x s₄ h₄=>yB (yM h₄ (fun _ s₅ h₅=>yC (yC ⟨rfl,h₅⟩)) fun _ _ h'=>h'.elim)) fun _ _ h'=>h'.elim))
theorem lS {elt iter tg:Expr}{ifs:List Expr}{pos:Pos}{g:TG}{tt:TT}{te:TE}{J:It}{it:Addr}{tn:Nat->Heap->Prop}{Q:VK}{E:Value->Shared->Prop}{RR:Value->Addr->Result->Shared->Prop}
  (hc:X.calm=true) (T:gY X N' scope) (hcl:∀ p ∈ cl,X.env.cells.lookup p.1=some p.2) (hfr:∀ x,(x,NameKind.free) ∈ scope.names->∃ c,(x,c) ∈ cl)
  (hg:∀ cl s H fp FO,PG (bU X N' scope cl s H fp FO) tg g) (ht:∀ cl s H fp FO,nD (bU X N' scope cl s H fp FO) ifs tt) (he:∀ cl s H fp FO,PE (bU X N' scope cl s H fp FO) elt te)
  (I:Inv X FO σ H s) (Tn:f9 X.prog X.w X.K tg J fp it tn) (st0:tn 0 s.heap) (hf:∀ b ∈ fp,cL X FO H b)
  (h:∀ p,H p=none->∃ W:Nat->Nat->St->Hp->Prop,(∃ m,W 0 m (σ++List.replicate (N'.length - X.N.length) none) (ak H p (.lst [])))/\∀ i m σ' H',W i m σ' H' ->
   (J.stop i H'/\Q (.ref p) H')\/(J.go i H'/\∀ x H2,J.yld i H' x H2->g x σ' H2 fun σ2 H3=>tt σ2 H3 fun ok H4=>if ok=true then
    te σ2 H4 fun y H5=>∃ ys,H5 p=some (.lst ys)/\ys.length < sizeLine/\∃ m',m' < m/\W (i + 1) m' σ2 (ak H5 p (.lst (ys++[y])))
    else ∃ m',m' < m/\W (i + 1) m' σ2 H4))
  (hRR:∀ p C s1 H1,Inv X FO σ H1 s1->Q (.ref p) H1->(∃ m,s1.heap.Ns C m)->H1 C=none->s.heap.objs.size <= C->RR (.ref p) C (.ok .next) s1) :
  wpAny (model X.prog X.w) X.A (newList []) (fun acc s₃=>wpAny (model X.prog X.w) X.A (newFunctionEnv scope X.env.globals cl [] X.env.qual none .none (some X.env)) (fun cenv s₄ =>
   codeAny (model X.prog X.w) X.A (.compStart (.ListComp elt [⟨tg,iter,ifs,0⟩] scope pos) 0 (.ref it) acc { cenv with scope:=relabel scope X.env }) (RR acc cenv.locals) s₄) E s₃) E s:=by
 refine wpAny_newObj_type (sC ?_);have hp:H s.heap.objs.size=none:=I.fresh;obtain ⟨W,⟨m0,w0⟩,turn⟩:=h _ hp;have I2:Inv X FO σ (ak H s.heap.objs.size (.lst [])) { s with heap:=s.heap.push { cls:=.type "list",data:=.seq ([]:List Value).toArray } }:=Inv.lnew (t':=s.toks) (FR:=[]) (ys:=[]) I .nil (Nat.zero_le _);have hf2:∀ b ∈ fp,cL X FO (ak H s.heap.objs.size (.lst [])) b:=fun b hb=>by
  obtain ⟨o,e,_⟩:=Tn.obj _ _ st0 b hb;exact ⟨by rw [ae (zT (yF e))];exact (hf b hb).1,(hf b hb).2⟩
 have ho2:∀ b ∈ fp,∃ o,(s.heap.push { cls:=.type "list",data:=.seq ([]:List Value).toArray }:Heap).get? b=some o:=fun b hb=>by
  obtain ⟨o,e,_⟩:=Tn.obj _ _ st0 b hb;exact ⟨o,zG _ e⟩
 have I3:=td T I2 hcl hfr hf2 ho2;have st3:tn 0 (pushCells ((s.heap.push { cls:=.type "list",data:=.seq ([]:List Value).toArray }).push { cls:=.type "dict",data:=.dict #[] }) scope.names) :=
  Tn.keep _ _ _ st0 fun b hb o e=>pushCells_keeps _ _ b o (zG _ (zG _ e))
 generalize hs2:({ s with heap:=s.heap.push { cls:=.type "list",data:=.seq ([]:List Value).toArray } }:Shared)=s2 at I2 I3;have hC:s.heap.objs.size <= s2.heap.objs.size:=by rw [<- hs2];exact yQ (by show _ < (s.heap.push _).objs.size;rw [Heap.size_push];exact Nat.lt_succ_self _)
 have stat:∀ {H':Hp},(∀ b ∈ fp,H' b=none)->∀ b ∈ fp,cL (bU X N' scope cl s2 (ak H s.heap.objs.size (.lst [])) fp FO) [] H' b:=fun {H'} hn b hb=>by
  refine ⟨hn b hb,(I3.ok.exf b hb).1,I3.ok.exfs b hb,.inl hb,(I3.ok.exf b hb).2,fun p hp=>?_⟩;rw [List.append_nil] at hp;exact (hf b hb).2.2.2.2.2 p hp
 have loop:∀ s4,s4=({ s2 with heap:=pushCells (s2.heap.push { cls:=.type "dict",data:=.dict #[] }) scope.names }:Shared) ->
   codeAny (model X.prog X.w) X.A (.compLoop (.ListComp elt [⟨tg,iter,ifs,0⟩] scope pos) 0 (.ref it) (.ref s.heap.objs.size) (bU X N' scope cl s2 (ak H s.heap.objs.size (.lst [])) fp FO).env) (RR (.ref s.heap.objs.size) s2.heap.objs.size) s4:=by
  rintro s4 rfl;refine l7 (fun n s'=>∃ i σ' H',Inv (bU X N' scope cl s2 (ak H s.heap.objs.size (.lst [])) fp FO) [] σ' H' s'/\tn i s'.heap/\(∀ b ∈ fp,H' b=none)/\W i n σ' H') ?_ m0
   ⟨0,_,_,I3,by subst hs2;exact st3,fun b hb=>(hf2 b hb).1,w0⟩
  rintro n s3 ⟨i,σ3,H3,I4,st4,fr4,w4⟩;rcases turn i n σ3 H3 w4 with ⟨stop,qn⟩ | ⟨go,step⟩
  ·refine aH (Tn.done (bU X N' scope cl s2 (ak H s.heap.objs.size (.lst [])) fp FO) rfl rfl rfl hc i [] s3 σ3 H3 (fun _ _=>False) I4 (stat fr4) st4 stop) fun r s5 hq0=>?_
   obtain ⟨hr,I5⟩:=hq0;subst hr;obtain ⟨m,hn,_⟩:=I5.loc;exact hRR _ _ s5 H3 (Ah I2 hf2 I5 (Heap.SameBut.refl _ _)) qn ⟨m,hn⟩ I5.free hC
  ·refine aH (Tn.item (bU X N' scope cl s2 (ak H s.heap.objs.size (.lst [])) fp FO) rfl rfl rfl hc i [] s3 σ3 H3 (fun _ _=>False) I4 (stat fr4) st4 go) fun r s5 hq0=>?_
   obtain ⟨u,hr,h5⟩:=hq0;subst hr;refine aH h5 fun _ s6 hq0=>?_
   obtain ⟨x,H6,I6,r6,y6,st6,fr6⟩:=hq0;have I6':=I6.pinned (stat fr6) (Tn.obj _ _ st6);have again:∀ {σ7:St}{H7:Hp}{s7:Shared}{m':Nat},Inv (bU X N' scope cl s2 (ak H s.heap.objs.size (.lst [])) fp FO) ([]++gy fp s6.heap) σ7 H7 s7->m' < n->W (i + 1) m' σ7 H7 ->
     ∃ m,m < n/\∃ i σ' H',Inv (bU X N' scope cl s2 (ak H s.heap.objs.size (.lst [])) fp FO) [] σ' H' s7/\tn i s7.heap/\(∀ b ∈ fp,H' b=none)/\W i m σ' H':=fun {σ7 H7 s7 m'} I7 hm w7=>by
    refine ⟨m',hm,i + 1,σ7,H7,I7.unpinned,Tn.keep _ _ _ st6 fun b hb o e=>(I7.pin (b,o) (zK _ (zK _ (dU hb e)))).1,fun b hb=>?_,w7⟩;obtain ⟨o,e,d⟩:=Tn.obj _ _ st6 b hb;exact (I7.pin (b,o) (zK _ (zK _ (dU hb e)))).2.1
   refine aH (hg _ _ _ _ _ _ s6 σ3 H6 x u _ I6' r6 (step x H6 y6)) fun _ s7 hq0=>?_
   obtain ⟨σ7,H7,I7,q7⟩:=hq0;refine aH (ht _ _ _ _ _ _ s7 σ7 H7 _ I7 q7) fun ok s8 hq0=>?_
   obtain ⟨H8,I8,q8⟩:=hq0;cases ok with
   | false =>
    simp only [z5,if_false] at q8 ⊢;obtain ⟨m',hm,w8⟩:=q8;exact again I8 hm w8
   | true =>
    simp only [if_true] at q8 ⊢;refine aH (he _ _ _ _ _ _ s8 σ7 H8 _ I8 q8) fun y s9 hq0=>?_
    obtain ⟨yv,H9,I9,r9,ys,e9,l9,m',hm,w9⟩:=hq0;refine aH (ko _ s9 σ7 H9 (.ref s.heap.objs.size) [yv] (.ref s.heap.objs.size) [y] (fun _ H'=>H'=ak H9 s.heap.objs.size (.lst (ys++[yv]))) I9 rfl (.cons r9 .nil) ⟨_,ys,yv,rfl,rfl,e9,l9,rfl⟩) fun _ s10 hq0=>?_
    obtain ⟨_,H10,I10,_,e10⟩:=hq0;subst e10;exact again I10 hm w9
 have st5:tn 0 (pushCells (s2.heap.push { cls:=.type "dict",data:=.dict #[] }) scope.names):=by subst hs2;exact st3
 have aA:=codeAny_compStart_list (loop _ rfl) (Tn.self X.A 0 _ _ (notedBy (model X.prog X.w) X.A (bU X N' scope cl s2 (ak H s.heap.objs.size (.lst [])) fp FO).env fun x s'=>RR (.ref s.heap.objs.size) s2.heap.objs.size (.error x) s') st5 (loop _ rfl));subst hs2;exact aA
end
section
variable {X:Cx}{N':List Str}{scope:Scope}{FO:List (Addr × Obj)}{σ:St}{elt iter tg:Expr}{ifs:List Expr}{pos:Pos}{wi:TI}{g:TG}{tt:TT}{te:TE}
theorem lR (T:gY X N' scope):∀ x ∈ scope.names,x.2=.local->scope.names.lookup x.1=some .local:=fun x hx e=>by
 obtain ⟨n,k⟩:=x;cases e;exact ck T.nd hx
theorem BA (hc:X.calm=true) (T:gY X N' scope) (hi:PI X tg iter wi) (hg:∀ cl s H fp FO,PG (bU X N' scope cl s H fp FO) tg g) (ht:∀ cl s H fp FO,nD (bU X N' scope cl s H fp FO) ifs tt)
  (he:∀ cl s H fp FO,PE (bU X N' scope cl s H fp FO) elt te) (hs:∀ x,foldedSetIterable iter X.env x=pure x:=by intro _;rfl) :
  PE X (.ListComp elt [⟨tg,iter,ifs,0⟩] scope pos) (wI (N'.length - X.N.length) wi g tt te):=by
 intro FO s σ H Q I h;obtain ⟨cl,hclos,hcl,hfr⟩:=jH (scope:=scope) (env:=X.env) fun x hx=>I.ok.has x (T.free x hx)
 rw [eval_ListComp];refine wpAny_comprehension_free (use:=none) rfl hs hclos T.kind (lR T) (yM (hi FO s σ H _ I h) (fun xv s1 h1=>yM h1 (fun itv s2 h2=>?_) fun _ _ e=>e) fun _ _ e=>e);obtain ⟨it,fp,tn,J,H2,rfl,I2,Tn,st2,f2,R⟩:=h2;refine lS (Q:=Q) (RR:=fun acc C=>compPost (model X.prog X.w) X.A X.xe none (EP X FO σ Q) acc C) hc T hcl hfr hg ht he I2 Tn st2 f2 R ?_;rintro p C s3 H3 I3 q ⟨m,hn⟩ hC hle;refine ⟨m,hn,fun h' hs'=>⟨.ref p,H3,?_,rfl,q⟩⟩;refine I3.turned (t':=s3.toks) (it:=C) (fun b o hb e=>(hs'.2 b hb).trans e) hC ?_ (.inr (zZ I2.sz hle)) (fun x c e=>?_) fun p hp=>?_
 ·exact Ne.symm (zT (zJ I2.lt hle))
 ·obtain ⟨v,z⟩:=I2.cell x c e
  exact zT (zJ z.lt hle)
 ·exact zT (zJ (yF (I2.pin p hp).1) hle)
theorem pD {i:Nat}{y:Str}{py spos:Pos} (hN:X.N.Nodup) (hiN:X.N[i]?=some y) (hx:Loc X.env.scope y) (hsw:swapsWith (.ListComp elt [⟨tg,iter,ifs,0⟩] scope pos) (some (.Name y py)) spos.line X.env=pure true)
  (hc:X.calm=true) (T:gY X N' scope) (hi:PI X tg iter wi) (hg:∀ cl s H fp FO,PG (bU X N' scope cl s H fp FO) tg g) (ht:∀ cl s H fp FO,nD (bU X N' scope cl s H fp FO) ifs tt)
  (he:∀ cl s H fp FO,PE (bU X N' scope cl s H fp FO) elt te) (hs:∀ x,foldedSetIterable iter X.env x=pure x:=by intro _;rfl) (hf:X.fn y=true\/X.env.scope.names.lookup y=some .local:=by first | exact .inl rfl | exact .inr rfl | assumption) :
  PS X (.Assign [.Name y py] (.ListComp elt [⟨tg,iter,ifs,0⟩] scope pos) spos) (nR (wI (N'.length - X.N.length) wi g tt te) (jw i)):=by
 intro FO s σ H D I h;obtain ⟨cl,hclos,hcl,hfr⟩:=jH (scope:=scope) (env:=X.env) fun x hx=>I.ok.has x (T.free x hx)
 rw [exec_Assign_Name_used _ _ _ _ hsw];refine yB (wpAny_standAt (yB ?_));show wpAny _ X.A (do let _ <- comprehension (.ListComp elt [⟨tg,iter,ifs,0⟩] scope pos) scope X.env _ (newList []) false (eval iter X.env) (some (assign (.Name y py) X.env))) _ _ s;refine yB (yM (wpAny_comprehension_free (use:=some (assign (.Name y py) X.env)) (Q:=fun _ s'=>SP X FO D .next s') rfl hs hclos T.kind (lR T)
  (yM (hi FO s σ H _ I h) (fun xv s1 h1=>yM h1 (fun itv s2 h2=>?_) fun _ _ e=>e) fun _ _ e=>e)) (fun _ s' hq=>yC (yC hq)) fun _ _ e=>e)
 obtain ⟨it,fp,tn,J,H2,rfl,I2,Tn,st2,f2,R⟩:=h2;refine lS (Q:=fun x H1=>jw i x σ H1 D.nx) (RR:=fun acc C=>compPost (model X.prog X.w) X.A X.xe (some (assign (.Name y py) X.env)) (fun _ s'=>SP X FO D .next s') acc C) hc T hcl hfr hg ht he I2 Tn st2 f2 R ?_;rintro p C s3 H3 I3 q ⟨m,hn⟩ hC hle;have hCL:C ≠ X.env.locals:=Ne.symm (zT (zJ I2.lt hle));have hCc:∀ x c,X.env.cells.lookup x=some c->c ≠ C:=fun x c e=>by
  obtain ⟨v,z⟩:=I2.cell x c e;exact zT (zJ z.lt hle)
 show wpAny _ X.A (assign (.Name y py) X.env (.ref p)) _ _ _;refine wpAny_assign_Name (ki (v:=.ref p) I3 hN hiN hx rfl (fun s4 I4 hq0=>?_) hf);obtain ⟨a,sb,ha⟩:=hq0;have hne:C ≠ a:=by
  rcases ha with e | e
  ·rw [e];exact hCL
  ·exact (hCc _ _ e).symm
 refine ⟨m,hn.sameBut sb hne,fun h' hs'=>⟨_,H3,?_,q⟩⟩;refine I4.turned (t':=s4.toks) (it:=C) (fun b o hb e=>(hs'.2 b hb).trans e) hC hCL (.inr (zZ I2.sz hle)) hCc fun p hp=>?_
 exact zT (zJ (yF (I2.pin p hp).1) hle)
end
end L2
namespace DD
open PySem PySem.Spec PyProof.Rows L2
section
variable {X:Cx}{FO:List (Addr × Obj)}{σ:St}{H:Hp}{s:Shared}{F:Addr->Prop}
theorem obj_list (I:L2.Inv X FO σ H s) {a:Addr}{vs:List V} (h:bx X.K H a vs):∃ FR o n,Vals vs FR/\s.heap.get? a=some o/\o.cls=.type "list"/\o.data=.seq FR.toArray n:=by
 obtain ⟨FR,r,⟨o,n,e,c,_,d⟩,_⟩:=I.list h;exact ⟨FR,o,n,r,e,c,d⟩
theorem obj_tup (I:L2.Inv X FO σ H s) {a:Addr}{vs:List V} (h:dh X.K H a vs):∃ FR o n,Vals vs FR/\s.heap.get? a=some o/\o.cls=.type "tuple"/\o.data=.seq FR.toArray n:=by
 obtain ⟨FR,r,⟨o,e,c,n,d⟩,_⟩:=I.tuple h;exact ⟨FR,o,n,r,e,c,d⟩
end
noncomputable def pyOk (p q:PyData):Bool:=p.canLay0 && q.canLay0 && decide (min p.depth q.depth <= 50)
section
variable {X:Cx}
noncomputable def isiA:List String:=["NoneType","bool","int","str","list","tuple"]
noncomputable def isiB:List String:=["int","bool","str","list","tuple"]
def isiT (a b:String):Option Bool:=if (isiA.contains a && isiB.contains b)=true then some (a == b || (a == "bool" && b == "int")) else none
theorem isiT_kit {K:Frag}{a b:String}{k:Bool} (h:isiT a b=some k):kitOne K (.type a) (.type b)=some k:=by
 unfold isiT at h;split at h
 ·rename_i hc
  rw [zC,List.contains_iff_mem,List.contains_iff_mem] at hc;obtain ⟨ha,hb⟩:=hc;simp only [isiA,isiB,zS,zW,or_false] at ha hb;rcases ha with rfl | rfl | rfl | rfl | rfl | rfl <;> rcases hb with rfl | rfl | rfl | rfl | rfl <;> (cases h;rfl)
 ·cases h
end
end DD
namespace L2
open PySem PySem.Spec PyProof.Rows
def Dm (K:Frag) (a b:Addr):It :=
 ⟨fun i H=>∃ xs ys x y,bx K H a xs/\bx K H b ys/\xs[i]?=some x/\ys[i]?=some y,
  fun i H x H'=>∃ p u w,(∀ xs,bx K H a xs->xs[i]?=some u)/\(∀ ys,bx K H b ys->ys[i]?=some w)/\H p=none/\H'=ak H p (.tup [u,w])/\x=.ref p,
  fun i H=>∃ xs ys,bx K H a xs/\bx K H b ys/\(xs.length <= i\/ys.length <= i)⟩
theorem Inv.turnT {X:Cx}{FO:List (Addr × Obj)}{σ:St}{H:Hp}{s:Shared}{h':Heap}{ch:List Addr}{u w:V}{x y:Value} (I:Inv X FO σ H s) (hf:∀ b ∈ ch,cL X FO H b) (ru:RelV u x) (rw':RelV w y)
  (hk:∀ c o,c ∉ ch->s.heap.get? c=some o->h'.get? c=some o) (hT:IsPair h' s.heap.objs.size x y) (hth:∀ b ∈ ch,∃ o,h'.get? b=some o):Inv X FO σ (ak H s.heap.objs.size (.tup [u,w])) { s with heap:=h' }:=by
 have hfr:H s.heap.objs.size=none:=I.fresh;have nch:∀ b o,H b=some o->b ∉ ch:=fun b o e hb=>by rw [(hf b hb).1] at e;cases e
 have ne:∀ b o,s.heap.get? b=some o->b ≠ s.heap.objs.size:=fun b o e=>zT (yF e)
 refine I.step (g':=s.gens) (d':=s.drawn) (t':=s.toks) (ch:=ch) (fun b hb=>⟨(hf b hb).2.2.2.1,(hf b hb).2.1,(hf b hb).2.2.2.2.1,(hf b hb).2.2.2.2.2⟩) (fun b o _ _ hc e _=>hk b o hc e)
  (fun b o _ _ hc e _=>⟨o.slots,hk b o hc e⟩) (fun b o _ e n=>by rw [ae (ne b o e)];exact n) (fun b o hc e=>⟨o,hk b o hc e⟩) (fun b xs e=>by rw [ae (bc e hfr)];exact e)
  (fun b o v e=>by rw [ae (bc e hfr)];exact e) (fun b ps e=>⟨#[],by rw [ae (bc e hfr),e];simp⟩) (fun m hm=>?_) (fun b o e=>?_) I.bare
 ·obtain ⟨o,es,ep,ho,r⟩:=hm
  exact ⟨o,es,ep,hk _ o (fun z=>(hf _ z).2.1 rfl) ho,r⟩
 ·by_cases hb:b=s.heap.objs.size
  ·subst hb
   rw [aK] at e;cases e;refine ⟨by show 2 <= sizeLine;decide,[x,y],.cons ru (.cons rw' .nil),⟨_,hT,rfl,_,rfl⟩⟩
  ·rw [ae hb] at e
   refine (I.FT b o e).stay (fun c v hc q=>hk c v ?_ q) (fun c q=>by rw [ae (bc q hfr)];exact q) fun c xs q=>by rw [ae (bc q hfr)];exact q
   rcases hc with rfl | hc
   ·exact nch _ _ e
   ·exact nch _ _ hc
theorem Inv.turnN {X:Cx}{FO:List (Addr × Obj)}{σ:St}{H:Hp}{s:Shared}{h':Heap}{ch:List Addr} (I:Inv X FO σ H s) (hf:∀ b ∈ ch,cL X FO H b)
  (hk:∀ c o,c ∉ ch->s.heap.get? c=some o->h'.get? c=some o):Inv X FO σ H { s with heap:=h' }:=by
 have nch:∀ b o,H b=some o->b ∉ ch:=fun b o e hb=>by rw [(hf b hb).1] at e;cases e
 refine I.step (g':=s.gens) (d':=s.drawn) (t':=s.toks) (ch:=ch) (fun b hb=>⟨(hf b hb).2.2.2.1,(hf b hb).2.1,(hf b hb).2.2.2.2.1,(hf b hb).2.2.2.2.2⟩) (fun b o _ _ hc e _=>hk b o hc e)
  (fun b o _ _ hc e _=>⟨o.slots,hk b o hc e⟩) (fun b o _ e n=>n) (fun b o hc e=>⟨o,hk b o hc e⟩) (fun b xs e=>e)
  (fun b o v e=>e) (fun b ps e=>⟨#[],by rw [e];simp⟩) (fun m hm=>?_) (fun b o e=>?_) I.bare
 ·obtain ⟨o,es,ep,ho,r⟩:=hm
  exact ⟨o,es,ep,hk _ o (fun z=>(hf _ z).2.1 rfl) ho,r⟩
 ·refine (I.FT b o e).stay (fun c v hc q=>hk c v ?_ q) (fun c q=>q) fun c xs q=>q
  rcases hc with rfl | hc
  ·exact nch _ _ e
  ·exact nch _ _ hc
theorem c7 {X:Cx}{FO:List (Addr × Obj)}{σ:St}{H:Hp}{s:Shared}{a b:Addr}{xs:List V} (I:Inv X FO σ H s) (h:bx X.K H a xs) (hb:cL X FO H b) (hob:∃ o,s.heap.get? b=some o/\o.cls ≠ .type "list"):a ≠ b:=by
 rintro rfl;obtain ⟨FR,r,⟨o,n,e,c,_⟩,_⟩:=I.list h;obtain ⟨o',e',c'⟩:=hob;rw [e] at e';cases e';exact c' c
theorem qU {P:Program}{w:World}{K:Frag}{elts:List Expr}{x1:Nat}{tpos:Pos} (a b z TI TO i1 i2:Addr) (D1:TI ≠ z) (D2:TO ≠ z) (D3:i1 ≠ z) (D4:i2 ≠ z) (D5:TI ≠ TO) (D6:TI ≠ i1) (D7:TI ≠ i2) (D8:TO ≠ i1) (D9:TO ≠ i2) (D10:i1 ≠ i2) :
  f9 P w K (.Tuple elts x1 tpos) (Dm K a b) [z,TI,TO,i1,i2] z (fun i h=>IsZip h z TI TO .none/\IsPair h TI (.ref i1) (.ref i2)/\(∃ u v,IsPair h TO u v)/\h.IsListIter i1 a i/\h.IsListIter i2 b i) where
 mem:=by simp
 obj:=fun i h hq0 c hc=>by
  obtain ⟨hz,hTI,⟨u,v,hTO⟩,⟨o1,e1,c1,d1⟩,⟨o2,e2,c2,d2⟩⟩:=hq0;simp only [zS,zW,or_false] at hc;rcases hc with rfl | rfl | rfl | rfl | rfl
  ·exact ⟨_,hz,fun v z=>nomatch z⟩
  ·exact ⟨_,hTI,fun v z=>nomatch z⟩
  ·exact ⟨_,hTO,fun v z=>nomatch z⟩
  ·exact ⟨_,e1,fun v z=>by rw [d1] at z;cases z⟩
  ·exact ⟨_,e2,fun v z=>by rw [d2] at z;cases z⟩
 keep:=fun i h h' ⟨hz,hTI,⟨u,v,hTO⟩,h1,h2⟩ k=>⟨k z (by simp) _ hz,k TI (by simp) _ hTI,⟨u,v,k TO (by simp) _ hTO⟩,h1.at fun o e=>k i1 (by simp) o e,h2.at fun o e=>k i2 (by simp) o e⟩
 item:=by
  rintro X hP hw hK hc i FO s σ H E I hf ⟨hz,hTI,⟨ua,ub,hTO⟩,h1,h2⟩ ⟨xs,ys,x,y,hq1,hq2,hx,hy⟩;subst hP hw hK;obtain ⟨its1,rv1,p1,_⟩:=I.list hq1;obtain ⟨its2,rv2,p2,_⟩:=I.list hq2;obtain ⟨u1,hu1,ru1⟩:=rv1.get hx;obtain ⟨u2,hu2,ru2⟩:=rv2.get hy;have ob:∀ c ∈ [z,TO,i1,i2],∃ o,s.heap.get? c=some o/\o.cls ≠ .type "list":=fun c hc=>by
   obtain ⟨o1,e1,c1,d1⟩:=id h1;obtain ⟨o2,e2,c2,d2⟩:=id h2;simp only [zS,zW,or_false] at hc;rcases hc with rfl | rfl | rfl | rfl
   ·exact ⟨_,hz,by simp⟩
   ·exact ⟨_,hTO,by simp⟩
   ·exact ⟨_,e1,by rw [c1];simp⟩
   ·exact ⟨_,e2,by rw [c2];simp⟩
  have na:∀ c ∈ [z,TO,i1,i2],a ≠ c:=fun c hc=>c7 I hq1 (hf c (by simp at hc ⊢;rcases hc with h | h | h | h <;> simp [h])) (ob c hc)
  have nb:∀ c ∈ [z,TO,i1,i2],b ≠ c:=fun c hc=>c7 I hq2 (hf c (by simp at hc ⊢;rcases hc with h | h | h | h <;> simp [h])) (ob c hc)
  have D:ZipApart z TI TO i1 i2 a b:=⟨D1,D2,D3,D4,D5,D6,D7,D8,D9,D10,na z (by simp),na TO (by simp),na i1 (by simp),na i2 (by simp),nb z (by simp),nb TO (by simp),nb i1 (by simp),nb i2 (by simp)⟩;refine wpAny_pyNext_zip_item D hz hTI hTO h1 h2 p1.isList p2.isList (x:=u1) (y:=u2) (by simpa using hu1) (by simpa using hu2) fun h' a1 a2 a3 a4 a5 a6 hk=>?_
  have hf4:∀ c ∈ [z,TO,i1,i2],cL X FO H c:=fun c hc=>hf c (by simp at hc ⊢;rcases hc with h | h | h | h <;> simp [h])
  have hk':∀ c o,c ∉ [z,TO,i1,i2]->s.heap.get? c=some o->h'.get? c=some o:=fun c o hc e=>hk c o (fun q=>hc (by simp [q])) (fun q=>hc (by simp [q])) (fun q=>hc (by simp [q])) (fun q=>hc (by simp [q])) e
  have I1:Inv X FO σ (ak H s.heap.objs.size (.tup [x,y])) { s with heap:=h' }:=I.turnT hf4 ru1 ru2 hk' a5 (fun c hc=>by
   obtain ⟨o1,e1,_⟩:=id a3;obtain ⟨o2,e2,_⟩:=id a4;simp only [zS,zW,or_false] at hc;rcases hc with rfl | rfl | rfl | rfl
   ·exact ⟨_,a1⟩
   ·exact ⟨_,a2⟩
   ·exact ⟨_,e1⟩
   ·exact ⟨_,e2⟩)
  have hfr:H s.heap.objs.size=none:=I.fresh;refine ⟨_,rfl,wpAny_letOwnedTupleGo_zip (s:={ s with heap:=h' }) a1 fun h'' z1 sb=>?_⟩;have hf5:∀ c ∈ [z,TI,TO,i1,i2],(ak H s.heap.objs.size (.tup [x,y])) c=none:=fun c hc=>by
   have lt:c < s.heap.objs.size:=by
    obtain ⟨o1,e1,_⟩:=id h1;obtain ⟨o2,e2,_⟩:=id h2;simp only [zS,zW,or_false] at hc;rcases hc with rfl | rfl | rfl | rfl | rfl
    ·exact yF hz
    ·exact yF hTI
    ·exact yF hTO
    ·exact yF e1
    ·exact yF e2
   rw [ae (zT lt)];exact (hf c hc).1
  have I2:Inv X FO σ (ak H s.heap.objs.size (.tup [x,y])) { s with heap:=h'' }:=Inv.turnN (s:={ s with heap:=h' }) (ch:=[z]) I1 (fun c hc=>by
   have:c=z:=by simpa using hc
   subst this;exact ⟨hf5 c (by simp),(hf c (by simp)).2⟩) (fun c o hc e=>(sb.2 c (fun q=>hc (by simp [q]))).trans e)
  refine ⟨.ref s.heap.objs.size,_,I2,rfl,⟨_,x,y,fun zs hzs=>by rw [I.list_inj hzs hq1];exact hx,fun zs hzs=>by rw [I.list_inj hzs hq2];exact hy,hfr,rfl,rfl⟩,⟨z1,?_,⟨u1,u2,?_⟩,?_,?_⟩,hf5⟩
  ·exact (sb.2 TI D1).trans (hk' TI _ (by simp [D1,D5,D6,D7]) hTI)
  ·exact (sb.2 TO D2).trans a2
  ·exact a3.at fun o e=>(sb.2 i1 D3).trans e
  ·exact a4.at fun o e=>(sb.2 i2 D4).trans e
 done:=by
  rintro X hP hw hK hc i FO s σ H E I hf ⟨hz,hTI,⟨ua,ub,hTO⟩,h1,h2⟩ ⟨xs,ys,hq1,hq2,hend⟩;subst hP hw hK;obtain ⟨its1,rv1,p1,_⟩:=I.list hq1;obtain ⟨its2,rv2,p2,_⟩:=I.list hq2;have ob:∀ c ∈ [z,TO,i1,i2],∃ o,s.heap.get? c=some o/\o.cls ≠ .type "list":=fun c hc=>by
   obtain ⟨o1,e1,c1,d1⟩:=id h1;obtain ⟨o2,e2,c2,d2⟩:=id h2;simp only [zS,zW,or_false] at hc;rcases hc with rfl | rfl | rfl | rfl
   ·exact ⟨_,hz,by simp⟩
   ·exact ⟨_,hTO,by simp⟩
   ·exact ⟨_,e1,by rw [c1];simp⟩
   ·exact ⟨_,e2,by rw [c2];simp⟩
  have hf4:∀ c ∈ [z,TO,i1,i2],cL X FO H c:=fun c hc=>hf c (by simp at hc ⊢;rcases hc with h | h | h | h <;> simp [h])
  have na:∀ c ∈ [z,TO,i1,i2],a ≠ c:=fun c hc=>c7 I hq1 (hf4 c hc) (ob c hc)
  have nb:∀ c ∈ [z,TO,i1,i2],b ≠ c:=fun c hc=>c7 I hq2 (hf4 c hc) (ob c hc)
  have D:ZipApart z TI TO i1 i2 a b:=⟨D1,D2,D3,D4,D5,D6,D7,D8,D9,D10,na z (by simp),na TO (by simp),na i1 (by simp),na i2 (by simp),nb z (by simp),nb TO (by simp),nb i1 (by simp),nb i2 (by simp)⟩;have hl1:=rv1.length;have hl2:=rv2.length;refine wpAny_pyNext_zip_end (I.ok.hd hc) D hz hTI hTO h1 h2 p1.isList p2.isList (by rcases hend with h | h;(left;simp;omega);(right;simp;omega)) fun h' hk=>⟨rfl,?_⟩
  exact I.turnN hf4 fun c o hc e=>hk c o (fun q=>hc (by simp [q])) (fun q=>hc (by simp [q])) (fun q=>hc (by simp [q])) (fun q=>hc (by simp [q])) e
 self:=fun _ _ _ _ _ ⟨hz,_⟩ h=>wpAny_pyIter_zip hz h
def Ek (K:Frag) (ta:TA):TI:=fun σ H R=>ta σ H fun vs H1=>∃ a b,vs=[.ref a,.ref b]/\(∃ xs,bx K H1 a xs)/\(∃ ys,bx K H1 b ys)/\R (Dm K a b) H1
theorem xH {X:Cx}{elts:List Expr}{x1:Nat}{tpos:Pos}{a b:Expr}{ta:TA}{p pos:Pos} (hg:Gl X "zip") (hm:X.mg "zip"=none) (ha:PA X [a,b] ta) (hs:starEach [a,b] X.env=[(false,eval a X.env),(false,eval b X.env)]:=by rfl) (hs2:starEach [b] X.env=[(false,eval b X.env)]:=by rfl) :
  PI X (.Tuple elts x1 tpos) (.Call (.Name "zip" p) [a,b] [] pos) (Ek X.K ta):=by
 intro FO s σ H R I h;refine Call_ (eI I hg hm boot_zip (PyProof.Rows.callWith_type1 (aH (ha pos FO s σ H _ I h) fun us s1 ⟨vs,H1,I1,r1,q1⟩=>?_) (by rw [hs,hs2]) (by rw [hs2];rfl)));obtain ⟨l1,l2,e,⟨xs,hq1⟩,⟨ys,hq2⟩,q⟩:=q1;subst e;cases r1 with
 | cons r rr =>
  cases rr with
  | cons r' rr =>
   cases rr;cases r;cases r';obtain ⟨its1,rv1,p1,_⟩:=I1.list hq1;obtain ⟨its2,rv2,p2,_⟩:=I1.list hq2;refine call_zip_2 p1.isList p2.isList fun h' hz hTI hTO h1 h2 hsz hk=>?_
   have I2:Inv X FO σ H1 { s1 with heap:=h' }:=I1.kept (t':=s1.toks) hk;refine wpAny_pyIter_zip (s:={ s1 with heap:=h' }) hz ?_;have lt:∀ k:Nat,s1.heap.objs.size <= s1.heap.objs.size + k:=fun k=>Nat.le_add_right _ _
   refine ⟨_,[s1.heap.objs.size + 4,s1.heap.objs.size + 2,s1.heap.objs.size + 3,s1.heap.objs.size,s1.heap.objs.size + 1],_,_,H1,rfl,I2,
    qU l1 l2 (s1.heap.objs.size + 4) (s1.heap.objs.size + 2) (s1.heap.objs.size + 3) s1.heap.objs.size (s1.heap.objs.size + 1) ?_ ?_ ?_ ?_ ?_ ?_ ?_ ?_ ?_ ?_,⟨hz,hTI,⟨_,_,hTO⟩,h1,h2⟩,fun c hc=>?_,q⟩
   all_goals first
    | (show _ + _ ≠ _ + _;intro z;exact absurd (Nat.add_left_cancel z) dC)
    | (show _ ≠ _ + _;intro z;exact absurd z (by have:=Nat.lt_add_of_pos_right (n:=s1.heap.objs.size) (k:=4) dC;have:=Nat.lt_add_of_pos_right (n:=s1.heap.objs.size) (k:=1) dC;exact zT (by assumption)))
    | (show _ + _ ≠ _;exact Nat.ne_of_gt (Nat.lt_add_of_pos_right dC))
    | skip
   have hle:s1.heap.objs.size <= c:=by
    simp only [zS,zW,or_false] at hc;rcases hc with rfl | rfl | rfl | rfl | rfl
    ·exact lt 4
    ·exact lt 2
    ·exact lt 3
    ·exact zO _
    ·exact lt 1
   obtain ⟨f0,f1,f2,f3,f4,f5⟩:=I1.fpOk hle (I1.FT.fresh hle);exact ⟨f0,f1,f2,f3,f4,f5⟩
end L2
namespace DD
open PySem PySem.Spec PyProof.Rows L2
section
variable {X:Cx}{e o a b:Expr}{es:List Expr}{p q:DP}{c c':DE}{pos apos cpos:Pos}{i:Nat}{js:List DP}
theorem reads_each {h:Heap}:∀ {vs:List Value}{ps:List PyData}{as:List Addr},ReadsAll h vs ps as->∀ v ∈ vs,∃ p as',p ∈ ps/\Reads h v p as':=by
 intro vs
 induction vs with
 | nil=>intro ps as h v hv;cases hv
 | cons v vs ih =>
  intro ps as h v hv;cases h with
  | cons r rs =>
   rcases zS.mp hv with rfl | hv
   ·exact ⟨_,_,z3,r⟩
   ·obtain ⟨p,as',hp,h⟩:=ih rs v hv
    exact ⟨p,as',zP _ hp,h⟩
noncomputable def minL:List Int->Option Int
 | []=>none
 | x::xs=>some (xs.foldl (fun a b=>if b < a then b else a) x)
theorem yy:∀ (xs:List Int) (x:Int),(xs.foldl (fun a b=>if b < a then b else a) x ∈ x::xs)/\∀ a ∈ x::xs,xs.foldl (fun a b=>if b < a then b else a) x <= a
 | [],x=>⟨by simp,by simp⟩
 | y::xs,x=>by
  obtain ⟨h1,h2⟩:=yy xs (if y < x then y else x);rw [List.foldl_cons];constructor
  ·rcases zS.mp h1 with h | h
   ·rw [h];split <;> simp
   ·simp [h]
  ·intro a ha
   have hm:=h2 (if y < x then y else x) (by simp);have hx:(if y < x then y else x) <= x:=by split <;> omega
   have hy:(if y < x then y else x) <= y:=by split <;> omega
   rcases zS.mp ha with rfl | ha
   ·exact Int.le_trans hm hx
   ·rcases zS.mp ha with rfl | ha
    ·exact Int.le_trans hm hy
    ·exact h2 a (by simp [ha])
theorem minL_eq {ns:List Int}{m M:Int} (h:minL ns=some m) (h1:M ∈ ns) (h2:∀ a ∈ ns,M <= a):M=m:=by
 cases ns with
 | nil=>cases h1
 | cons x xs =>
  cases h;obtain ⟨g1,g2⟩:=yy xs x;have a1:=g2 M h1;have a2:=h2 _ g1;omega
end
section
variable {X:Cx}{e o a b:Expr}{es:List Expr}{p q:DP}{c c':DE}{pos apos cpos:Pos}{i:Nat}{js:List DP}
theorem any_vals {h:Heap}{q:PyData}{e:Value->Bool} (he:∀ v p as,Reads h v p as->e v=PyData.eqv p q):∀ {vs:List Value}{ps:List PyData}{as:List Addr},ReadsAll h vs ps as->vs.any e=ps.any fun r=>PyData.eqv r q
 | _,_,_,.nil=>rfl
 | _,_,_,.cons r rs=>by rw [List.any_cons,List.any_cons,any_vals he rs,he _ _ _ r]
end
end DD
namespace L2
open PySem PySem.Spec PyProof.Rows
section
variable {prog:Program}{w:World}{A:Around}{E:Value->Shared->Prop}{s:Shared}
theorem uf {it t:Addr}{items:Array Value} (hne:t ≠ it):∀ (n i:Nat) (s:Shared) (Q:List Value->Shared->Prop),s.heap.IsListIter it t i->s.heap.IsList t items->i + n <= items.size ->
  (∀ h',h'.IsListIter it t (i + n)->Heap.SameBut it s.heap h'->Q ((items.toList.drop i).take n) { s with heap:=h' })->wpAny (model prog w) A (draw (.ref it) n) Q E s
 | 0,i,s,Q,hit,_,_,hQ=>yC (by simpa using hQ s.heap hit (Heap.SameBut.refl ..))
 | n + 1,i,s,Q,hit,ht,hle,hQ=>by
  have hlt:i < items.size:=by omega
  refine yB (m:=pyNext (.ref it)) (wpAny_pyNext_list_item hit ht (x:=items[i]) (by simp [hlt]) fun h₁ hit₁ hs₁=>?_);refine yB (yL (uf hne n (i + 1) _ _ hit₁ (ht.extBut hs₁.extBut hne) oM fun h₂ hit₂ hs₂=>yC ?_));have q:=hQ h₂ (by rw [show i + (n + 1)=i + 1 + n by omega];exact hit₂) (hs₁.trans hs₂);rw [show items.toList.drop i=items[i]::items.toList.drop (i + 1) by simp [List.drop_eq_getElem_cons,hlt],List.take_succ_cons] at q;exact q
theorem uB {t:Addr}{items:Array Value}{targets:List (Bool × (Value->Sem Unit))}{Q:Unit->Shared->Prop} (hh:A.handled=none) (ht:s.heap.IsList t items) (hn:targets.length=items.size) (hstar:targets.findIdx? (·.1)=none)
  (h:∀ h',Heap.ExtBut s.heap.objs.size s.heap h'->wpAny (model prog w) A (assignInOrder (targets.map (·.2)) items.toList) Q E { s with heap:=h' }):wpAny (model prog w) A (unpack (.ref t) targets) Q E s:=by
 have hlt:t ≠ s.heap.objs.size:=by obtain ⟨o,ho,_⟩:=ht;exact zT (yF ho)
 unfold unpack;rw [hn,hstar];refine yB (yL ?_);unfold unpackItems;refine yB ?_;unfold notIterableAtAll;refine yB (wpAny_specialOf ht.typeIs slot_list_iter.lookup (yC ?_));simp only [z5,if_false];refine yB (yL (wpAny_pyIter_list ht (yB (yL (uf hlt items.size 0 _ _ ⟨_,zX _ rfl,rfl,rfl⟩ (ht.push _) oM fun h₁ hit₁ hs₁=>?_)))));rw [show List.take items.size (List.drop 0 items.toList)=items.toList by rw [List.drop_zero];exact List.take_of_length_le (by simp),yD (by simp)];refine yB (yL (wpAny_pyNext_list_end hh hit₁ ((ht.push _).extBut hs₁.extBut hlt) (by simp) fun h₂ he₂=>?_));simp only [Option.isSome_none,z5,if_false];exact yC (h h₂ fun b o hb e=>he₂ b o hb (hs₁.extBut b o hb (zG _ e)))
end
section
variable {X:Cx}{pos:Pos}
noncomputable def B4 (K:Frag) (n:Nat) (t:iN):TG:=fun v σ H Q=>∃ a xs,v=.ref a/\bx K H a xs/\xs.length=n/\t xs σ H Q
theorem vj {es:List Expr}{k:Nat}{t:iN}{n:Nat} (hc:X.calm=true) (h:kO X es t) (hn:(assignEach es X.env).length=n:=by rfl) (hst:(assignEach es X.env).findIdx? (·.1)=none:=by rfl):PG X (.Tuple es k pos) (B4 X.K n t):=by
 intro FO s σ H v u Q I r hw;obtain ⟨a,xs,e1,hq,hl,hw⟩:=hw;subst e1;cases r;obtain ⟨FR,rv,pl,hz⟩:=I.list hq;rw [arm_assign_Tuple];refine yB (wpAny_standAt (uB (I.ok.hd hc) pl.isList (by simp [hn,<- hl,rv.length]) hst fun h' hx=>?_));have I1:Inv X FO σ H { s with heap:=h' }:=I.kept (t':=s.toks) fun b o e=>hx b o (zT (yF e)) e
 exact h FO _ σ H xs _ Q I1 (by simpa using rv) hw
theorem oG:bootBuiltins "list"=some (.type "list"):=by decide +kernel
end
theorem i8 (n:Nat):sliceRange ((n:Int) - 1) (-1) (-1)=(List.range n).map fun k=>n - 1 - k:=by
 unfold sliceRange;rcases n with _ | n
 ·rfl
 ·have e:((n + 1:Nat):Int) - 1 - -1 - -1 - 1=((n + 1:Nat):Int):=by omega
  simp only [show ¬ ((-1:Int) > 0) by decide,if_false,show ((n + 1:Nat):Int) - 1 > -1 by omega,if_true,e,Int.neg_neg,Int.ediv_one,Int.toNat_natCast];apply List.map_congr_left;intro k hk;rw [List.mem_range] at hk;omega
theorem rW {α:Type} (m:List α):(List.range m.length).filterMap (fun k=>m[k]?)=m:=by
 induction m with
 | nil=>rfl
 | cons a m ih =>
  rw [yP,List.range_succ_eq_map,List.filterMap_cons];simp only [List.getElem?_cons_zero,List.filterMap_map];congr 1
theorem nW {α β:Type}{f g:α->Option β} (l:List α) (h:∀ x ∈ l,f x=g x):l.filterMap f=l.filterMap g:=by
 induction l with
 | nil=>rfl
 | cons a l ih=>rw [List.filterMap_cons,List.filterMap_cons,h a (by simp),ih fun x hx=>h x (by simp [hx])]
theorem pI {α:Type} (l:List α):((List.range l.length).map fun k=>l.length - 1 - k).filterMap (l[·]?)=l.reverse:=by
 rw [List.filterMap_map];have h:(List.range l.length).filterMap ((fun x=>l[x]?) ∘ fun k=>l.length - 1 - k)=(List.range l.length).filterMap (fun k=>l.reverse[k]?):=by
  apply nW;intro k hk;rw [List.mem_range] at hk;simp only [Function.comp,List.getElem?_reverse hk]
 rw [h];have h3:=rW l.reverse;rw [List.length_reverse] at h3;rw [h3]
theorem jU (FR:List Value):slicePick FR.toArray none none (some (-1))=FR.reverse.toArray:=by
 have e:sliceBounds none none (some (-1)) FR.toArray.size=((FR.length:Int) - 1,-1,-1):=by
  simp [sliceBounds]
 unfold slicePick;rw [e];simp only [i8,List.getElem?_toArray];rw [pI]
section
variable {X:Cx}{e st:Expr}{te ts:TE}{pos p2:Pos}
def wG (K:Frag) (te ts:TE):TE:=fun σ H Q=>te σ H fun x H1=>ts σ H1 fun y H2=>y=.int (-1)/\∃ a xs,x=.ref a/\bx K H2 a xs/\∀ p,H2 p=none->Q (.ref p) (ak H2 p (.lst xs.reverse))
theorem sd (he:PE X e te) (hs:PE X st ts):PE X (.Subscript e (.Slice none none (some st) p2) pos) (wG X.K te ts):=by
 intro FO s σ H Q I h;refine Subscript_ (aH (he FO s σ H _ I h) fun v s1 hq=>?_);obtain ⟨x,H1,I1,r1,q1⟩:=hq;refine wpAny_Slice ?_;rw [evalPart_none];refine yC (yC ?_);rw [evalPart_some];refine aH (hs FO s1 σ H1 _ I1 q1) fun vk s2 hq=>?_
 obtain ⟨y,H2,I2,r2,ey,a,xs,ex,sq,q⟩:=hq;subst ey;subst ex;obtain ⟨t,rfl⟩:=r2;cases r1;have I4:Inv X FO σ H2 { s2 with heap:=s2.heap.push { cls:=.type "slice",data:=.fields #[.none,.none,.int (-1) t] } }:=I2.kept (t':=s2.toks) fun b ob q=>zG _ q
 obtain ⟨FR,r,ht,hz⟩:=I4.list sq;have hlen:=r.length;show wpAny (model X.prog X.w) X.A (subscriptTail e (.Slice none none (some st) p2) (.ref a) (.ref s2.heap.objs.size)) (EP X FO σ Q) X.xe { s2 with heap:=s2.heap.push { cls:=.type "slice",data:=.fields #[.none,.none,.int (-1) t] } };refine tail_any (ops:=[.ref a,.ref s2.heap.objs.size]) ht.isList.typeIs slot_list_getitem.lookup ?_ (by with_unfolding_all rfl);refine wpAny_getItem_list_slice ht.isList (Heap.IsSliceOf.new ..) .none .none (.int (-1) t) dC ?_ (by rw [zI] <;> omega);rw [jU];refine ⟨.ref _,_,I4.laid (t':=s2.toks) (o:=.lst xs.reverse) (fun b ob q=>zG _ q) (zO _) ?_,rfl,q _ (I4.FT.fresh (zO _))⟩;exact ⟨by rw [List.length_reverse];exact hz,_,0,r.reverse,zX _ rfl⟩
end
end L2
namespace PySem.AutoSeq1
theorem oz (l:Addr) (items:Array Value) (n:Nat) (b:Addr) (items2:Array Value) (n2:Nat) (sl:Array (Option Value)) (hc0:¬(!items.isEmpty && Builtin.List.listTooLong (items.size + items2.size))=true) (hc1:items.size <= sizeLine) (hs2:items.size + items2.size <= sizeLine + 1) :
  Meets (Builtin.«list.extend» ⟨[.ref l,.ref b],[]⟩) (fun _ R s=>s.heap.get? l=some { cls:=.type "list",dict:=none,data:=.seq items n,slots:=#[] }/\s.heap.get? b=some { cls:=.type "list",dict:=none,data:=.seq items2 n2,slots:=sl }/\R (.ok (.ret Value.none)) { s with heap:=s.heap.update l (Obj.mapSeq fun x=>x++items2),toks:=s.toks }) :=
 .of_wp fun prog w A R s h=>by
  obtain ⟨hp,g,d,tk,os⟩:=s;obtain ⟨hl,hb,h⟩:=h;have f1:=idx_int;have f2:=sub_tuple_tuple;have f3:=sub_list_list;have f4:=sub_tuple_list;have f5:=sub_list_tuple;have hz':(items++items2).size <= sizeLine + 1:=by rw [Array.size_append];exact hs2
  wp_walk using (wpAny_updateSeq hl rfl (hz:=hc1) (_hz':=hz')),wpAny_loadPart' hl,wpAny_loadPart' hb;exact ⟨_,rfl,h⟩
end PySem.AutoSeq1
namespace L2
open PySem PySem.Spec PyProof.Rows
section
variable {X:Cx}
def A8 (K:Frag):V->List V->Hp->VK->Prop:=fun x vs H Q=>∃ l b xs zs,x=.ref l/\vs=[.ref b]/\H l=some (.lst xs)/\bx K H b zs/\xs.length + zs.length <= sizeLine/\Q .non (ak H l (.lst (xs++zs)))
theorem vK:Dk X "list.extend" (A8 X.K):=by
 intro FO s σ H x vs v us Q I rx rv h;obtain ⟨l,b,xs,zs,rfl,rfl,hH,hB,hz,q⟩:=h;cases rx;obtain ⟨u,rfl,ru⟩:=rv.one;cases ru;obtain ⟨z,FR,n,r,hl,e⟩:=I.lstM hH;obtain ⟨its2,r2,pl,hz2⟩:=I.list hB;obtain ⟨o,n2,e2,c2,d2,s2⟩:=pl;obtain ⟨oc,od,odt,osl⟩:=o;dsimp only at c2 d2 s2;subst c2;subst d2;subst s2;have hl2:=r2.length;have hsz:FR.toArray.size + its2.toArray.size <= sizeLine:=by rw [zI,zI];omega
 have hlong:¬ (!FR.toArray.isEmpty && Builtin.List.listTooLong (FR.toArray.size + its2.toArray.size))=true:=by
  rw [notLongL hsz,Bool.and_false];exact Bool.false_ne_true
 refine call_meets F.slot_list_extend ⟨_,e,rfl⟩ F.entry_list_extend (F.args_list_extend_2 _ _)
  (PySem.AutoSeq1.oz l FR.toArray n b its2.toArray n2 osl hlong (by rw [zI];omega) oM) ⟨e,e2,?_⟩
 refine ⟨.non,_,I.lset (its':=FR++its2) hH e (by simp) (r.append r2) ?_,rfl,q⟩;rw [zU];omega
end
end L2
namespace PySem.AutoSeq1
theorem wn (l:Addr) (items:Array Value) (n:Nat) (sl1:Array (Option Value)) (b:Addr) (items2:Array Value) (n2:Nat) (sl:Array (Option Value)) (hs2:items.size + items2.size <= sizeLine) :
  Meets (Builtin.«list.__add__» ⟨[.ref l,.ref b],[]⟩) (fun _ R s=>s.heap.get? l=some { cls:=.type "list",dict:=none,data:=.seq items n,slots:=sl1 }/\s.heap.get? b=some { cls:=.type "list",dict:=none,data:=.seq items2 n2,slots:=sl }/\R (.ok (.ret (Value.ref s.heap.objs.size))) { s with heap:=s.heap.push { cls:=.type "list",data:=.seq (items++items2) },toks:=s.toks }) :=
 .of_wp fun prog w A R s h=>by
  obtain ⟨hp,g,d,tk,os⟩:=s;obtain ⟨hl,hb,h⟩:=h;have f1:=idx_int;have f2:=sub_tuple_tuple;have f3:=sub_list_list;have f4:=sub_tuple_list;have f5:=sub_list_tuple;have hz':(items++items2).size <= sizeLine + 1:=by rw [Array.size_append];omega
  have hlong:Builtin.List.listTooLong (items.size + items2.size)=false:=L2.notLongL hs2
  wp_walk using wpAny_loadPart' hl,wpAny_loadPart' hb
  all_goals first | exact ⟨_,rfl,h⟩ | skip
end PySem.AutoSeq1
namespace L2
open PySem PySem.Spec PyProof.Rows
section
variable {X:Cx}
def A9 (K:Frag):R2:=fun x y H Q=>∃ l b xs zs,x=.ref l/\y=.ref b/\bx K H l xs/\bx K H b zs/\xs.length + zs.length <= sizeLine/\∀ p,H p=none->Q (.ref p) (ak H p (.lst (xs++zs)))
theorem vx:eY X (binaryOp .Add) (A9 X.K):=by
 intro FO s σ H x y v u Q I rx ry h;obtain ⟨l,b,xs,zs,rfl,rfl,hH,hB,hz,q⟩:=h;cases rx;cases ry;obtain ⟨FR,r,⟨o1,n1,e1,c1,d1,s1⟩,_⟩:=I.list hH;obtain ⟨its2,r2,⟨o2,n2,e2,c2,d2,s2⟩,_⟩:=I.list hB;obtain ⟨oc,od,odt,osl⟩:=o1;obtain ⟨pc,pd,pdt,psl⟩:=o2;dsimp only at c1 d1 s1 c2 d2 s2;subst c1;subst d1;subst s1;subst c2;subst d2;subst s2;have hl1:=r.length;have hl2:=r2.length;have hsz:FR.toArray.size + its2.toArray.size <= sizeLine:=by rw [zI,zI];omega
 refine wpAny_binaryOp_concat (T:="list") (id:="list.__add__") ⟨_,e1,rfl⟩ ⟨_,e2,rfl⟩ noFill_list_add (by rfl) ?_;refine call_meets F.slot_list_add ⟨_,e1,rfl⟩ F.entry_list_add (F.args_list_add_2 _ _) (PySem.AutoSeq1.wn l FR.toArray n1 osl b its2.toArray n2 psl hsz) ⟨e1,e2,?_⟩;have ea:FR.toArray++its2.toArray=(FR++its2).toArray:=by simp
 rw [ea];exact ⟨.ref _,_,I.lnew (t':=s.toks) (r.append r2) (by rw [zU];omega),rfl,q _ I.fresh⟩
end
section
variable {κ:Type} [DecidableEq κ]
noncomputable def cQ (FP:List (κ × V)) (k:κ):Option V:=(FP.find? fun kv=>decide (kv.1=k)).map (·.2)
noncomputable def cR (FP:List (κ × V)) (k:κ) (v:V):List (κ × V) :=
 if (FP.any fun kv=>decide (kv.1=k))=true then FP.map (fun kv=>if kv.1=k then (kv.1,v) else kv) else FP++[(k,v)]
theorem iO {p:κ × V}{r:List (κ × V)}{k:κ} (e:p.1=k):cQ (p::r) k=some p.2:=by simp [cQ,List.find?_cons,e]
theorem iP {p:κ × V}{r:List (κ × V)}{k:κ} (e:¬ p.1=k):cQ (p::r) k=cQ r k:=by simp [cQ,List.find?_cons,e]
theorem lp (k:κ):∀ FP:List (κ × V),(FP.any fun kv=>decide (kv.1=k))=(cQ FP k).isSome
 | []=>rfl
 | p::r=>by
  rw [List.any_cons];by_cases e:p.1=k
  ·simp only [iO e,yO e,Bool.true_or,Option.isSome_some]
  ·rw [iP e,z4 e,Bool.false_or];exact lp k r
theorem iy (FP:List (κ × V)) (k:κ) (v:V):(cR FP k v).length <= FP.length + 1:=by
 unfold cR;split
 ·rw [zH];omega
 ·rw [zU,yP,List.length_nil];omega
theorem RelO.isSome_eq {o:Option V}{u:Option Value} (r:RelO o u):o.isSome=u.isSome:=by
 cases o with
 | none=>cases u with
  | none=>rfl
  | some _=>exact (show False from r).elim
 | some _=>cases u with
  | none=>exact (show False from r).elim
  | some _=>rfl
theorem KV.val {FP:List (κ × V)}{vs:List (κ × Value)} (r:KV FP vs) (k:κ):RelO (cQ FP k) (valueAt vs k):=by
 unfold KV at r
 induction r with
 | nil=>exact True.intro
 | @cons p q ps qs h t ih =>
  obtain ⟨h1,h2⟩:=h;by_cases e:p.1=k
  ·have e':q.1=k:=h1.symm.trans e
   have b:valueAt (q::qs) k=some q.2:=by simp [valueAt,List.find?_cons,e']
   rw [iO e,b];exact h2
  ·have e':¬ q.1=k:=fun z=>e (h1.trans z)
   have b:valueAt (q::qs) k=valueAt qs k:=by simp [valueAt,List.find?_cons,e']
   rw [iP e,b];exact ih
theorem KV.any {FP:List (κ × V)}{vs:List (κ × Value)} (r:KV FP vs) (k:κ):(FP.any fun kv=>decide (kv.1=k))=vs.any fun kv=>decide (kv.1=k):=by
 unfold KV at r
 induction r with
 | nil=>rfl
 | cons h t ih=>rw [List.any_cons,List.any_cons,ih,h.1]
theorem KV.repl {FP:List (κ × V)}{vs:List (κ × Value)} (r:KV FP vs) (k:κ) {y:V}{u:Value} (ry:RelV y u) :
  KV (FP.map fun kv=>if kv.1=k then (kv.1,y) else kv) (vs.map fun kv=>if kv.1=k then (kv.1,u) else kv):=by
 unfold KV at r ⊢
 induction r with
 | nil=>exact .nil
 | @cons p q ps qs h t ih =>
  rw [zN,zN];refine .cons ?_ ih;obtain ⟨h1,h2⟩:=h;by_cases e:p.1=k
  ·rw [yE e,yE (h1.symm.trans e)];exact ⟨h1,ry⟩
  ·rw [yD e,yD (fun z=>e (h1.trans z))];exact ⟨h1,h2⟩
theorem KV.put {FP:List (κ × V)}{vs:List (κ × Value)} (r:KV FP vs) (k:κ) {y:V}{u:Value} (ry:RelV y u):KV (cR FP k y) (stored vs k u):=by
 unfold cR stored;rw [r.any k];by_cases e:(vs.any fun kv=>decide (kv.1=k))=true
 ·rw [yE e,yE e];exact r.repl k ry
 ·rw [yD e,yD e];exact Paired.snoc r ⟨rfl,ry⟩
theorem KV.length {FP:List (κ × V)}{vs:List (κ × Value)} (r:KV FP vs):FP.length=vs.length:=Paired.length r
end
theorem jq {P:Program}{w:World}{k:aZ}{u:Value} (r:RelV (kV k) u):(bE P w).is k u=true:=by
 cases k with
 | inl i=>obtain ⟨t,e⟩:=(show ∃ t,u=Value.int i t from r);subst e;exact my P w i t
 | inr x=>obtain ⟨t,e⟩:=(show ∃ t,u=Value.str x t from r);subst e;exact mx P w x t
theorem kx {P:Program}{w:World}:∀ {ks:List aZ}{us:List Value},Vals (ks.map kV) us->ItemsAre (bE P w) ks us
 | [],_,r=>by rw [List.map_nil] at r;cases r;exact .nil
 | k::ks,_,r=>by
  rw [zN] at r;cases r with
  | cons h t=>exact .cons (jq h) (kx t)
abbrev KT (H:Hp):List (List aZ × V)->List (List aZ × Addr × Value)->Prop:=Paired fun p q=>p.1=q.1/\H q.2.1=some (.tup (p.1.map kV))/\RelV p.2 q.2.2
theorem KT.val {H:Hp}{FP:List (List aZ × V)}{xs:List (List aZ × Addr × Value)} (r:KT H FP xs) (k:List aZ):RelO (cQ FP k) ((atKey xs k).map (·.2)):=by
 induction r with
 | nil=>exact True.intro
 | @cons p q ps qs h t ih =>
  obtain ⟨h1,_,h2⟩:=h;by_cases e:p.1=k
  ·have e':q.1=k:=h1.symm.trans e
   have b:atKey (q::qs) k=some q.2:=by simp [atKey,List.find?_cons,e']
   rw [iO e,b];exact h2
  ·have e':¬ q.1=k:=fun z=>e (h1.trans z)
   have b:atKey (q::qs) k=atKey qs k:=by simp [atKey,List.find?_cons,e']
   rw [iP e,b];exact ih
theorem KT.repl {H:Hp}{FP:List (List aZ × V)}{xs:List (List aZ × Addr × Value)} (r:KT H FP xs) (k:List aZ) {y:V}{u:Value} (ry:RelV y u) :
  KT H (FP.map fun kv=>if kv.1=k then (kv.1,y) else kv) (xs.map (putAt k u)):=by
 induction r with
 | nil=>exact .nil
 | @cons p q ps qs h t ih =>
  rw [zN,zN];refine .cons ?_ ih;obtain ⟨h1,h2,h3⟩:=h;unfold putAt;by_cases e:p.1=k
  ·rw [yE e,yE (h1.symm.trans e)];exact ⟨h1,h2,ry⟩
  ·rw [yD e,yD (fun z=>e (h1.trans z))];exact ⟨h1,h2,h3⟩
theorem KT.put {H:Hp}{FP:List (List aZ × V)}{xs:List (List aZ × Addr × Value)} (r:KT H FP xs) (k:List aZ) {b:Addr}{y:V}{u:Value} (hb:H b=some (.tup (k.map kV))) (ry:RelV y u) :
  KT H (cR FP k y) (storedH xs k b u):=by
 have e:(FP.any fun kv=>decide (kv.1=k))=(atKey xs k).isSome:=by
  rw [lp,(r.val k).isSome_eq,Option.isSome_map]
 unfold cR storedH;rw [e];by_cases q:(atKey xs k).isSome=true
 ·rw [yE q,yE q];exact r.repl k ry
 ·rw [yD q,yD q];exact Paired.snoc r ⟨rfl,hb,ry⟩
theorem KT.keeps {H H':Hp}{FP:List (List aZ × V)}{xs:List (List aZ × Addr × Value)} (r:KT H FP xs) (ht:∀ b ys,H b=some (.tup ys)->H' b=some (.tup ys)):KT H' FP xs :=
 Paired.mapP r fun _ _ z=>⟨z.1,ht _ _ z.2.1,z.2.2⟩
section
variable {P:Program}{w:World}{H:Hp}{h:Heap}{a:Addr}
theorem tJ {u:HO} (ok:HOk P w H h) (e:Rd H a u):ObjOk P w H h a u:=e.ok ok
theorem jG {FP:List (aZ × V)} (ok:HOk P w H h) (e:Rd H a (.dK FP)):FP.length <= sizeLine/\(a == sysModules)=false/\∃ vs,KV FP vs/\h.DictOf (bE P w) a vs :=
 show ObjOk P w H h a (.dK FP) from tJ ok e
theorem ug {FP:List (aZ × V)} (ok:HOk P w H h) (e:H a=some (.dK FP)):FP.length <= sizeLine/\(a == sysModules)=false/\∃ vs,KV FP vs/\h.DictOf (bE P w) a vs:=jG ok (.inl e)
theorem gJ {ks:List aZ} (ok:HOk P w H h) (e:H a=some (.tup (ks.map kV))):(tupleKind (bE P w)).is h ks a:=by
 obtain ⟨_,FR,r,o,h1,h2,n,h3⟩:=(show ObjOk P w H h a (.tup (ks.map kV)) from ok a _ e);exact ⟨o,FR.toArray,n,h1,h2,h3,by simpa using kx r⟩
theorem jF {FP:List (List aZ × V)} (ok:HOk P w H h) (e:Rd H a (.dT FP)):FP.length <= sizeLine/\(a == sysModules)=false /\
  ∃ xs,KT H FP xs/\h.DictOfH (tupleKind (bE P w)) a xs:=by
 obtain ⟨z,y,xs,r,o,es,ep,h1,h2,h3,h4,h5⟩:=(show ObjOk P w H h a (.dT FP) from tJ ok e);refine ⟨z,y,xs,r,o,es,ep,h1,h2,h3,h4,fun x hx=>?_,h5⟩;have all:∀ {l:List (List aZ × V)}{m:List (List aZ × Addr × Value)},KT H l m->∀ x ∈ m,(tupleKind (bE P w)).is h x.1 x.2.1:=by
  intro l m q
  induction q with
  | nil=>intro x hx;exact nomatch hx
  | @cons p q ps qs hq t ih =>
   intro x hx;rcases zS.mp hx with e | hx
   ·subst e
    exact gJ ok (by rw [<- hq.1];exact hq.2.1)
   ·exact ih x hx
 exact all r x hx
theorem ue {FP:List (List aZ × V)} (ok:HOk P w H h) (e:H a=some (.dT FP)):FP.length <= sizeLine/\(a == sysModules)=false /\
  ∃ xs,KT H FP xs/\h.DictOfH (tupleKind (bE P w)) a xs:=jF ok (.inl e)
end
def DGet (H:Hp) (a:Addr) (y:V) (r:Option V):Prop :=
 (∃ FP k,Rd H a (.dK FP)/\y=kV k/\r=cQ FP k)\/∃ FP k b,Rd H a (.dT FP)/\y=.ref b/\H b=some (.tup (k.map kV))/\r=cQ FP k
def DPut (H:Hp) (a:Addr) (y v:V) (H':Hp):Prop :=
 (∃ FP k,H a=some (.dK FP)/\y=kV k/\FP.length < sizeLine/\H'=ak H a (.dK (cR FP k v))) \/
 ∃ FP k b,H a=some (.dT FP)/\y=.ref b/\H b=some (.tup (k.map kV))/\FP.length < sizeLine/\H'=ak H a (.dT (cR FP k v))
theorem DGet.k {H:Hp}{a:Addr}{FP:List (aZ × V)}{k:aZ} (e:H a=some (.dK FP)):DGet H a (kV k) (cQ FP k):=.inl ⟨FP,k,.inl e,rfl,rfl⟩
theorem DGet.t {H:Hp}{a b:Addr}{FP:List (List aZ × V)}{k:List aZ} (e:H a=some (.dT FP)) (eb:H b=some (.tup (k.map kV))):DGet H a (.ref b) (cQ FP k):=.inr ⟨FP,k,b,.inl e,rfl,eb,rfl⟩
theorem DPut.k {H:Hp}{a:Addr}{FP:List (aZ × V)}{k:aZ}{v:V} (e:H a=some (.dK FP)) (hl:FP.length < sizeLine):DPut H a (kV k) v (ak H a (.dK (cR FP k v))):=.inl ⟨FP,k,e,rfl,hl,rfl⟩
theorem DPut.t {H:Hp}{a b:Addr}{FP:List (List aZ × V)}{k:List aZ}{v:V} (e:H a=some (.dT FP)) (eb:H b=some (.tup (k.map kV))) (hl:FP.length < sizeLine) :
  DPut H a (.ref b) v (ak H a (.dT (cR FP k v))):=.inr ⟨FP,k,b,e,rfl,eb,hl,rfl⟩
section
variable {X:Cx}{FO:List (Addr × Obj)}{σ:St}{H:Hp}{s:Shared}{a:Addr}{y v:V}{u r:Value}{o:Option V}{A:Around}{E:Value->Shared->Prop}
theorem Inv.big (I:Inv X FO σ H s):sysModules < s.heap.objs.size:=by
 have h:mainGlobals < s.heap.objs.size:=(I.mod.glob.keeps I.bk).lt;exact Nat.lt_trans dC h
theorem qt {Q:Value->Shared->Prop} (hu:A.units + 1 < cLine) (I:Inv X FO σ H s) (g:DGet H a y (some v)) (ry:RelV y u) (h:∀ w' s',Inv X FO σ H s'->RelV v w'->Q w' s') :
  wpAny (model X.prog X.w) A (getItem (.ref a) u) Q E s:=by
 rcases g with ⟨FP,k,e,ey,l⟩ | ⟨FP,k,b,e,ey,eb,l⟩
 ·subst ey
  obtain ⟨z,hd,vs,rel,dd⟩:=jG I.FT e;obtain ⟨w',hw,rw'⟩:=RelO.some_of (v:=v) (o:=valueAt vs k) (by rw [l];exact rel.val k);exact wpAny_getItem_of (jq ry) dd.mapOf hw (h w' _ (I.tok _) rw')
 ·subst ey
  cases (show u=Value.ref b from ry);obtain ⟨z,hd,xs,rel,dd⟩:=jF I.FT e;obtain ⟨w',hw,rw'⟩:=RelO.some_of (v:=v) (o:=(atKey xs k).map (·.2)) (by rw [l];exact rel.val k);obtain ⟨p,hp,hp2⟩:=zE.mp hw;refine wpAny_getItem_heap (tupleKind_room_in1 hu) (gJ I.FT eb) dd hp ?_;rw [hp2];exact h w' _ (I.tok _) rw'
theorem Eo {Q:Value->Shared->Prop} (hu:A.units + 1 < cLine) (I:Inv X FO σ H s) (g:DGet H a y o) (ry:RelV y u) (h:∀ s',Inv X FO σ H s'->Q (.bool o.isSome) s') :
  wpAny (model X.prog X.w) A (compareOp .In u (.ref a)) Q E s:=by
 rcases g with ⟨FP,k,e,ey,l⟩ | ⟨FP,k,b,e,ey,eb,l⟩
 ·subst ey
  obtain ⟨z,hd,vs,rel,dd⟩:=jG I.FT e;refine wpAny_in_of (jq ry) hd dd.mapOf ?_;rw [<- (rel.val k).isSome_eq,<- l];exact h _ (I.tok _)
 ·subst ey
  cases (show u=Value.ref b from ry);obtain ⟨z,hd,xs,rel,dd⟩:=jF I.FT e;refine wpAny_in_heap (tupleKind_room_in1 hu) (gJ I.FT eb) hd dd ?_;have q:=(rel.val k).isSome_eq;rw [Option.isSome_map] at q;rw [<- q,<- l];exact h _ (I.tok _)
theorem wb {Q:Value->Shared->Prop} (hu:A.units + 1 < cLine) (I:Inv X FO σ H s) (g:DGet H a y o) (ry:RelV y u) (h:∀ s',Inv X FO σ H s'->Q (.bool (!o.isSome)) s') :
  wpAny (model X.prog X.w) A (compareOp .NotIn u (.ref a)) Q E s:=by
 rcases g with ⟨FP,k,e,ey,l⟩ | ⟨FP,k,b,e,ey,eb,l⟩
 ·subst ey
  obtain ⟨z,hd,vs,rel,dd⟩:=jG I.FT e;refine wpAny_notIn_of (jq ry) hd dd.mapOf ?_;rw [<- (rel.val k).isSome_eq,<- l];exact h _ (I.tok _)
 ·subst ey
  cases (show u=Value.ref b from ry);obtain ⟨z,hd,xs,rel,dd⟩:=jF I.FT e;refine wpAny_notIn_heap (tupleKind_room_in1 hu) (gJ I.FT eb) hd dd ?_;have q:=(rel.val k).isSome_eq;rw [Option.isSome_map] at q;rw [<- q,<- l];exact h _ (I.tok _)
theorem nu {h':Heap}{t':Nat}{ob:HO} (I:Inv X FO σ H s) (mu:qN (H a)) (hs:Heap.SameBut a s.heap h') (he:∃ q,h'.get? a=some q) (new:ObjOk X.prog X.w (ak H a ob) h' a ob) :
  Inv X FO σ (ak H a ob) { s with heap:=h',toks:=t' } :=
 I.write (x:=a) (e:=a) mu (.inl rfl) (fun b q hb z=>(hs.2 b hb).trans z) he new
theorem Af {P:Program}{w:World}{H':Hp}{h':Heap}{FP:List (aZ × V)}{vs:List (aZ × Value)} (z:FP.length <= sizeLine) (hd:(a == sysModules)=false) (rel:KV FP vs) (dd:h'.DictOf (bE P w) a vs) :
  ObjOk P w H' h' a (.dK FP):=⟨z,hd,vs,rel,dd⟩
theorem kE {H':Hp}{Q:Unit->Shared->Prop} (hu:A.units + 1 < cLine) (I:Inv X FO σ H s) (g:DPut H a y v H') (ry:RelV y u) (rv:RelV v r) (h:∀ s',Inv X FO σ H' s'->Q () s') :
  wpAny (model X.prog X.w) A (setItem (.ref a) u r) Q E s:=by
 rcases g with ⟨FP,k,e,ey,l,eH⟩ | ⟨FP,k,b,e,ey,eb,l,eH⟩
 ·subst ey eH
  obtain ⟨z,hd,vs,rel,dd⟩:=ug I.FT e;have hz:vs.length <= sizeLine:=by rw [<- rel.length];exact z
  have hl:(cR FP k v).length <= sizeLine:=by have:=iy FP k v;omega
  refine wpAny_setItem_pairs (hsz:=hz) (jq ry) dd fun h' dd' hs=>h _ ?_
  have he:∃ q,h'.get? a=some q:=let ⟨q,_,_,hq,_⟩:=dd';⟨q,hq⟩;exact nu I (by rw [e];exact True.intro) hs he (Af hl hd (rel.put k rv) dd')
 ·subst ey eH
  cases (show u=Value.ref b from ry);obtain ⟨z,hd,xs,rel,dd⟩:=ue I.FT e;have hz:xs.length <= sizeLine:=by rw [<- Paired.length rel];exact z
  have hl:(cR FP k v).length <= sizeLine:=by have:=iy FP k v;omega
  refine wpAny_setItem_heap (hsz:=hz) (tupleKind_room_in1 hu) (gJ I.FT eb) dd fun h' dd' hs=>h _ ?_
  obtain ⟨q,es,ep,hq,h2,h3,h4,_,h5⟩:=dd';refine nu I (by rw [e];exact True.intro) hs ⟨q,hq⟩ ⟨hl,hd,_,(rel.put k eb rv).keeps fun c ys ec=>?_,q,es,ep,hq,h2,h3,h4,h5⟩;rw [ae (n5 ec e (fun z=>nomatch z))];exact ec
end
theorem mB {X:Cx}{FO:List (Addr × Obj)}{σ:St}{H:Hp}{s:Shared}{a:Addr}{y:V}{o:Option V} (I:Inv X FO σ H s) (g:DGet H a y o):s.TypeIs (.ref a) "dict":=by
 rcases g with ⟨FP,k,e,_,_⟩ | ⟨FP,k,b,e,_,_,_⟩
 ·obtain ⟨_,_,vs,_,dd⟩:=jG I.FT e
  exact dd.typeIs
 ·obtain ⟨_,_,xs,_,dd⟩:=jF I.FT e
  exact dd.typeIs
theorem sZ {P:Program}{w:World}{H:Hp} (h:Heap) (hb:sysModules < h.objs.size):ObjOk P w H (h.push { cls:=.type "dict",data:=.dict #[] }) h.objs.size (.dK []) :=
 ⟨Nat.zero_le _,beq_eq_false_iff_ne.mpr (Ne.symm (zT hb)),[],.nil,Heap.DictOf.new h⟩
def o4:TE:=fun _ H Q=>∀ p,H p=none->Q (.ref p) (ak H p (.dK []))
section
variable {X:Cx}{pos:Pos}
theorem sg:PE X (.Dict [] [] pos) o4:=fun FO s σ H Q I h =>
 wpAny_Dict_empty ⟨.ref s.heap.objs.size,_,I.laid (a:=s.heap.objs.size) (o:=.dK []) (t':=s.toks) (fun _ _ q=>zG _ q) (zO _) (sZ s.heap I.big),rfl,h _ (I.FT.fresh (zO _))⟩
end
end L2
namespace L2
open PySem PySem.Spec PySem.Calls PyProof.Rows
section
variable {prog:Program}{w:World}{A:Around}{E:Value->Shared->Prop}{s:Shared}
theorem oh (d:Addr) (hd:(d == sysModules)=false) :
  MeetsIn prog w (Builtin.«dict.__len__» ⟨[.ref d],[]⟩) (fun _ R s=>∃ xs:List (List aZ × Addr × Value),s.heap.DictOfH (tupleKind (bE prog w)) d xs/\R (.ok (.ret (.int xs.length s.toks))) { s with toks:=s.toks + 1 }) :=
 .of_wp fun A R s hq0=>by
  obtain ⟨FP,hm,h⟩:=hq0;obtain ⟨o,es,ep,ho,hc,hdat,hk,hp,hn⟩:=hm;show wpAny _ _ (dictSize d >>= _) _ _ s;unfold dictSize;refine yB (yB (wpAny_dictEntries ho hdat (yC ?_)));show wpAny _ _ (Builtin.Dict.pendingCount d >>= _) _ _ s;refine yB (wpAny_pendingCount_other hd ?_);refine wpAny_ret_mkInt ?_;have:es.size=FP.length:=size_of_entries hk;simpa [this] using h
theorem oC {d:Addr}{xs:List (List aZ × Addr × Value)}{Q:Value->Shared->Prop} (hd:(d == sysModules)=false) (hm:s.heap.DictOfH (tupleKind (bE prog w)) d xs) (hfit:(xs.length:Int) < 2 ^ 63)
  (h:Q (.int xs.length (s.toks + 1)) { s with toks:=s.toks + 1 + 1 }):wpAny (model prog w) A (call (.builtin "len") [.ref d]) Q E s:=by
 refine Calls.call_function_entry kind_len plain_len entry_len (args_len1 _) ?_;unfold Builtin.«len»;refine yB (m:=oneArg "len" _) (yC ?_);refine yB (m:=callSpecial? (.ref d) (Str.ofString "__len__")) (wpAny_callSpecial?_slot (name:=Str.ofString "__len__") hm.typeIs PySem.F.slot_dict_len
  (call_meetsIn PySem.F.slot_dict_len hm.typeIs PySem.F.entry_dict_len (PySem.F.args_dict_len_1 _) (oh d hd) ⟨xs,hm,?_⟩))
 show wpAny _ _ _ _ _ { s with toks:=s.toks + 1 };refine yB (yL (yC ?_));refine yB (wpAny_letGo ?_);show wpAny _ _ (if ((xs.length:Nat):Int) < 0 then _ else _) _ _ _;rw [yD oM];show wpAny _ _ (if ((xs.length:Nat):Int) ≥ 2 ^ 63 then _ else _) _ _ _;rw [yD oM];exact yB (wpAny_mkInt (yC ⟨_,rfl,h⟩))
end
section
variable {X:Cx}
theorem qw:bA X (.builtin "len") (fun xs H Q=>∃ a FP,xs=[V.ref a]/\H a=some (.dT FP)/\Q (.int FP.length) H):=by
 intro FO s σ H xs us Q I r h;obtain ⟨a,FP,rfl,ha,q⟩:=h;obtain ⟨u,rfl,ru⟩:=cB r;cases ru;obtain ⟨z,hd,xs,rel,dd⟩:=ue I.FT ha;have hl:=Paired.length rel;refine oC hd dd (by rw [<- hl];rw [sizeLine_eq] at z;omega) ?_;rw [<- hl];exact ⟨.int FP.length,H,I.tok _,⟨_,rfl⟩,q⟩
end
end L2
namespace PySem.W
open PySem PySem.Calls PyProof.Rows
noncomputable def b7 {α:Type} (lt:Nat->Nat->Option Bool):KasT α->Option α
 | .ret a=>some a
 | .ask i j k=>(lt i j).bind fun b=>b7 lt (k b)
theorem mY {α:Type}{lt:Nat->Nat->Option Bool}{cmp:Nat->Nat->(Bool->Shared->Prop)->Shared->Prop}{Q:α->Shared->Prop}{s:Shared} (hc:∀ i j b,lt i j=some b->∀ C:Bool->Shared->Prop,C b s->cmp i j C s):∀ {t:KasT α}{a:α},b7 lt t=some a->Q a s->t.kasWp cmp Q s
 | .ret a,b,e,q=>by cases e;exact q
 | .ask i j k,b,e,q=>by
  simp only [b7] at e;rcases h:lt i j with _ | c
  ·rw [h] at e;cases e
  ·rw [h] at e
   exact hc i j c h _ (mY (t:=k c) hc e q)
def Kp (h h':Heap):Prop:=∀ b o,h.get? b=some o->h'.get? b=some o
theorem Kp.but {h₀ h h':Heap}{a:Addr} (k:Kp h₀ h) (hs:Heap.SameBut a h h') (h0:h₀.get? a=none):Kp h₀ h':=fun b o e=>(hs.2 b (fun q=>by rw [q,h0] at e;cases e)).trans (k b o e)
section
variable {prog:Program}{w:World}{A:Around}{E:Value->Shared->Prop}{s:Shared}{h₀:Heap}{a:Addr}{vs:List Value}{κ:SortKind}{lt:Nat->Nat->Option Bool}{p:Array Nat}
theorem mw {n:Nat}{P:PySem.Fin->Shared->Prop} (kp:Kp h₀ s.heap) (ho:s.heap.get? a=some (seqObj "list" vs.toArray n)) (ha0:h₀.get? a=none) (h2:2 <= vs.length) (h64:vs.length < 64)
  (hk:∀ h',Kp h₀ h'->∀ Q:SortKind->Shared->Prop,Q κ { s with heap:=h' }->wpAny (model prog w) A (keyKind' vs.toArray) Q E { s with heap:=h' })
  (hlt:∀ h',Kp h₀ h'->∀ i j b,lt i j=some b->∀ C:Bool->Shared->Prop,C b { s with heap:=h' }->kas_ask prog w A κ vs i j C { s with heap:=h' })
  (hr:b7 lt (kas_sort vs.length)=some p)
  (hP:∀ h' c,p.size=vs.length->Kp h₀ h'->h'.get? a=some (seqObj "list" (List.toArray (p.toList.map fun i=>vs.getD i Value.none)) c)->P (.done (.ret .none)) { s with heap:=h' }) :
  wpAny (model prog w) A (Builtin.«list.sort» ⟨[.ref a],[]⟩) P E s:=by
 have ha:a < s.heap.objs.size:=yF ho;have s1:=Heap.SameBut.update s.heap a (Obj.mapSeq fun _=>(#[]:Array Value));obtain ⟨e1,ho1⟩:∃ e1,(s.heap.update a (Obj.mapSeq fun _=>(#[]:Array Value))).get? a=some (seqObj "list" #[] e1):=⟨_,get?_update_seq ho fun _=>#[]⟩;have k3:Kp h₀ (((s.heap.update a (Obj.mapSeq fun _=>(#[]:Array Value))).push (seqObj "tuple" vs.toArray 0)).push (seqObj "list" #[] 0)):=fun b o e=>zG _ (zG _ (kp.but s1 ha0 b o e))
 have ho3:(((s.heap.update a (Obj.mapSeq fun _=>(#[]:Array Value))).push (seqObj "tuple" vs.toArray 0)).push (seqObj "list" #[] 0)).get? a=some (seqObj "list" #[] e1):=zG _ (zG _ ho1);generalize hh3:((s.heap.update a (Obj.mapSeq fun _=>(#[]:Array Value))).push (seqObj "tuple" vs.toArray 0)).push (seqObj "list" #[] 0)=h3 at k3 ho3;have ask:(kas_sort vs.length).kasWp (kas_ask prog w A κ vs) (fun q s'=>q=p/\s'={ s with heap:=h3 }) { s with heap:=h3 }:=mY (hlt h3 k3) hr ⟨rfl,rfl⟩;rw [kas_ask_eq] at ask;rw [list_sort_plain];refine yB (listItems_at ho rfl ?_);refine yB (listUpdate_at ho rfl ?_ (by rw [zI,sizeLine_eq];omega) (Nat.zero_le _));refine yB (seqEpoch_at ho1 rfl ?_);refine yB (wpAny_newTuple ?_ (by show vs.length <= _;rw [sizeLine_eq];omega));refine yB (wpAny_newList ?_ (Nat.zero_le _));refine yL ?_;show wpAny (model prog w) A _ P E { s with heap:=((s.heap.update a (Obj.mapSeq fun _=>(#[]:Array Value))).push (seqObj "tuple" vs.toArray 0)).push (seqObj "list" #[] 0) };rw [hh3];dsimp only;have hn2:¬ vs.toArray.size < 2:=by rw [zI];omega
 rw [yD hn2,yD hn2];refine yB (hk h3 k3 _ ?_);have est:SortSt.mk' κ (vs.toArray.zip vs.toArray) #[] 7 none=kas_st κ (pairsOf vs) (List.toArray (List.range vs.length)):=by
  have e:=kas_range (pairsOf vs);rw [pairsOf_size] at e;show SortSt.mk' κ (pairsOf vs) #[] 7 none=SortSt.mk' κ ((List.toArray (List.range vs.length)).map (kas_item (pairsOf vs))) #[] 7 none;rw [e]
 have run:=kas_runs (E:=E) (Q:=fun _ st' s'=>p.size=vs.length/\arrOf st'=p.map (kas_item (pairsOf vs))/\failedOf st'=none/\s'={ s with heap:=h3 })
  h2 h64 (fun p' st' s' a1 a2 a3 a4=>by obtain ⟨rfl,rfl⟩:=a4;exact ⟨a1,a2,a3,rfl⟩) ask
 rw [<- est] at run;refine yB (yM run ?_ fun _ _ e=>e);rintro ⟨⟨⟩,st'⟩ s' ⟨hp,har,hf,rfl⟩;dsimp only;have hout:(arrOf st').map (·.2)=List.toArray (p.toList.map fun i=>vs.getD i Value.none):=by
  apply Array.toList_inj.mp;rw [har,Array.map_map,Array.toList_map];exact List.map_congr_left fun i _=>by show (kas_item (pairsOf vs) i).2=_;rw [kas_item_eq]
 have hsz:(List.toArray (p.toList.map fun i=>vs.getD i Value.none)).size=vs.length:=by rw [zI,zH,Array.length_toList,hp]
 rw [hout];have s2:=Heap.SameBut.update h3 a (Obj.mapSeq fun _=>List.toArray (p.toList.map fun i=>vs.getD i Value.none));obtain ⟨c2,hc2⟩:∃ c2,(h3.update a (Obj.mapSeq fun _=>List.toArray (p.toList.map fun i=>vs.getD i Value.none))).get? a=some (seqObj "list" (List.toArray (p.toList.map fun i=>vs.getD i Value.none)) c2):=⟨_,get?_update_seq ho3 fun _=>List.toArray (p.toList.map fun i=>vs.getD i Value.none)⟩;refine yB (seqEpoch_at ho3 rfl ?_);refine yB (listUpdate_at ho3 rfl ?_ (Nat.zero_le _) (zZ (Nat.le_of_eq hsz) (by rw [sizeLine_eq];omega)));rw [hf];simp only [bne_self_eq_false,z5,if_false];exact yC (hP _ c2 hp (k3.but s2 ha0) hc2)
theorem lm {n:Nat}{P:PySem.Fin->Shared->Prop} (kp:Kp h₀ s.heap) (ho:s.heap.get? a=some (seqObj "list" vs.toArray n)) (ha0:h₀.get? a=none) (h2:vs.length < 2)
  (hP:∀ h' c,Kp h₀ h'->h'.get? a=some (seqObj "list" vs.toArray c)->P (.done (.ret .none)) { s with heap:=h' }) :
  wpAny (model prog w) A (Builtin.«list.sort» ⟨[.ref a],[]⟩) P E s:=by
 have ha:a < s.heap.objs.size:=yF ho;have s1:=Heap.SameBut.update s.heap a (Obj.mapSeq fun _=>(#[]:Array Value));obtain ⟨e1,ho1⟩:∃ e1,(s.heap.update a (Obj.mapSeq fun _=>(#[]:Array Value))).get? a=some (seqObj "list" #[] e1):=⟨_,get?_update_seq ho fun _=>#[]⟩;have k3:Kp h₀ (((s.heap.update a (Obj.mapSeq fun _=>(#[]:Array Value))).push (seqObj "tuple" vs.toArray 0)).push (seqObj "list" #[] 0)):=fun b o e=>zG _ (zG _ (kp.but s1 ha0 b o e))
 have ho3:(((s.heap.update a (Obj.mapSeq fun _=>(#[]:Array Value))).push (seqObj "tuple" vs.toArray 0)).push (seqObj "list" #[] 0)).get? a=some (seqObj "list" #[] e1):=zG _ (zG _ ho1);generalize hh3:((s.heap.update a (Obj.mapSeq fun _=>(#[]:Array Value))).push (seqObj "tuple" vs.toArray 0)).push (seqObj "list" #[] 0)=h3 at k3 ho3;rw [list_sort_plain];refine yB (listItems_at ho rfl ?_);refine yB (listUpdate_at ho rfl ?_ (by rw [zI,sizeLine_eq];omega) (Nat.zero_le _));refine yB (seqEpoch_at ho1 rfl ?_);refine yB (wpAny_newTuple ?_ (by show vs.length <= _;rw [sizeLine_eq];omega));refine yB (wpAny_newList ?_ (Nat.zero_le _));refine yL ?_;show wpAny (model prog w) A _ P E { s with heap:=((s.heap.update a (Obj.mapSeq fun _=>(#[]:Array Value))).push (seqObj "tuple" vs.toArray 0)).push (seqObj "list" #[] 0) };rw [hh3];dsimp only;have hn2:vs.toArray.size < 2:=by rw [zI];omega
 rw [yE hn2,yE hn2];refine yB (yC ?_);rw [StateT.run_pure];refine yB (yC ?_);dsimp only;have hout:(arrOf (SortSt.mk' general' (vs.toArray.zip vs.toArray) #[] 7 none)).map (·.2)=vs.toArray:=by
  show (pairsOf vs).map (·.2)=_;apply Array.toList_inj.mp;simp [pairsOf];exact List.map_snd_zip (zO _)
 rw [hout];have s2:=Heap.SameBut.update h3 a (Obj.mapSeq fun _=>vs.toArray);obtain ⟨c2,hc2⟩:∃ c2,(h3.update a (Obj.mapSeq fun _=>vs.toArray)).get? a=some (seqObj "list" vs.toArray c2):=⟨_,get?_update_seq ho3 fun _=>vs.toArray⟩;refine yB (seqEpoch_at ho3 rfl ?_);refine yB (listUpdate_at ho3 rfl ?_ (Nat.zero_le _) (by rw [zI,sizeLine_eq];omega));simp only [bne_self_eq_false,z5,if_false];exact yC (hP _ c2 (k3.but s2 ha0) hc2)
def sortBy (lt:Nat->Nat->Option Bool) (n:Nat):Option (List Nat):=if n < 2 then some (List.range n) else if n < 64 then (b7 lt (kas_sort n)).map fun p=>p.toList else none
theorem ll {l:Addr}{Q:Value->Shared->Prop}{q:List Nat} (hl:s.heap.IsList l vs.toArray)
  (hk:2 <= vs.length->∀ h',Kp s.heap h'->∀ Q:SortKind->Shared->Prop,Q κ { s with heap:=h' }->wpAny (model prog w) A.in1.in1 (keyKind' vs.toArray) Q (fun _ _=>False) { s with heap:=h' })
  (hlt:∀ h',Kp s.heap h'->∀ i j b,lt i j=some b->∀ C:Bool->Shared->Prop,C b { s with heap:=h' }->kas_ask prog w A.in1.in1 κ vs i j C { s with heap:=h' })
  (hr:sortBy lt vs.length=some q)
  (hQ:∀ D h' c,q.length=vs.length->s.heap.objs.size <= D->Kp s.heap h'->h'.get? D=some (seqObj "list" (List.toArray (q.map fun i=>vs.getD i Value.none)) c)->Q (.ref D) { s with heap:=h' }) :
  wpAny (model prog w) A (call (.builtin "sorted") [.ref l]) Q E s:=by
 have h64:vs.length < 64:=by
  unfold sortBy at hr;split at hr
  ·omega
  ·split at hr
   ·assumption
   ·cases hr
 refine Calls.call_function_entry kind_sorted plain_sorted entry_sorted (args_sorted1 _) ?_;unfold Builtin.«sorted»;refine yB (m:=checkCount "sorted" 1 1 _) (yC ?_);refine yB (collect_list hl ?_ (by rw [sizeLine_eq];omega));refine yB (wpAny_newList ?_ (by rw [sizeLine_eq];omega));have hsz:((s.heap.push (seqObj "list" #[] 0)).update s.heap.objs.size (Obj.mapSeq (·++vs.toArray))).objs.size=s.heap.objs.size + 1:=by
  rw [Heap.size_update,size_push']
 have hoL:(((s.heap.push (seqObj "list" #[] 0)).update s.heap.objs.size (Obj.mapSeq (·++vs.toArray))).push (seqObj "list" vs.toArray 0)).get? (s.heap.objs.size + 1)=some (seqObj "list" vs.toArray 0):=by
  rw [<- hsz];exact zX _ rfl
 have keep:Kp s.heap (((s.heap.push (seqObj "list" #[] 0)).update s.heap.objs.size (Obj.mapSeq (·++vs.toArray))).push (seqObj "list" vs.toArray 0)):=fun b o q=>by
  have hlt:b < s.heap.objs.size:=yF q;rw [Heap.get?_push_ne _ _ _ (by rw [hsz];exact zT (Nat.lt_succ_of_lt hlt)),Heap.get?_update_ne _ _ _ _ (zT hlt),Heap.get?_push_ne _ _ _ (zT hlt)];exact q
 have hD0:s.heap.get? (s.heap.objs.size + 1)=none:=Heap.get?_none_of_le (Nat.le_succ _);show wpAny _ _ _ _ _ { s with heap:=((s.heap.push (seqObj "list" #[] 0)).update s.heap.objs.size (Obj.mapSeq (·++vs.toArray))).push (seqObj "list" vs.toArray 0) };rw [hsz];refine yB (yL (wpAny_call_entry slot_list_sort ⟨_,hoL,rfl⟩ entry_list_sort ?body (args_list_sort _)))
 case body =>
  unfold sortBy at hr;split at hr
  ·rename_i hs
   cases hr;have e:((List.range vs.length).map fun i=>vs.getD i Value.none)=vs:=by
    apply List.ext_getElem
    ·simp
    ·intro i h1 h2
     simp at h1;simp [h1]
   refine lm (h₀:=s.heap) keep hoL hD0 hs fun h' c k' g'=>⟨_,rfl,yC ⟨_,rfl,?_⟩⟩
   exact hQ _ h' c (by simp) (Nat.le_succ _) k' (by rw [e];exact g')
  ·rename_i hs
   rcases hz:b7 lt (kas_sort vs.length) with _ | p
   ·rw [hz] at hr;cases hr
   ·rw [hz] at hr
    cases hr;exact mw (h₀:=s.heap) keep hoL hD0 oM h64 (fun h' k' Q' hq=>yM (hk oM h' k' Q' hq) (fun _ _ z=>z) fun _ _ z=>z.elim) (fun h' k' i j b e C hC=>hlt h' k' i j b e C hC) hz fun h' c hp k' g'=>⟨_,rfl,yC ⟨_,rfl,hQ _ h' c (by rw [Array.length_toList];exact hp) (Nat.le_succ _) k' g'⟩⟩
end
noncomputable def gG (aA:Bool):List Int->List Int->Bool
 | x::xs,y::ys=>if (x == y)=true then gG aA xs ys else decide (x < y)
 | _,_=>aA
section
variable {prog:Program}{w:World}{A:Around}{E:Value->Shared->Prop}{s:Shared}{aA:Bool}{Q:Bool->Shared->Prop}
theorem lP:∀ {vs us:List Value}{xs ys:List Int}{i:Nat},L2.Vals (xs.map .int) vs->L2.Vals (ys.map .int) us->Q (gG aA xs ys) s->KatLex prog w A true aA Q (vs.zip us) i s
 | vs,us,[],ys,i,h1,h2,q=>by
  cases h1;simp only [List.zip_nil_left];exact kat_nil (by cases ys <;> simpa [gG] using q)
 | vs,us,x::xs,[],i,h1,h2,q=>by
  cases h2;simp only [List.zip_nil_right];exact kat_nil (by simpa [gG] using q)
 | _,_,x::xs,y::ys,i,h1,h2,q=>by
  cases h1 with | cons r1 h1 =>
  cases h2 with | cons r2 h2 =>
  obtain ⟨t,rfl⟩:=r1;obtain ⟨u,rfl⟩:=r2;rw [List.zip_cons_cons];refine kat_cons (wpAny_eqBool_int ?_);refine kat_go (fun e=>?_) (fun e=>?_)
  ·refine kat_yes (lP h1 h2 ?_)
   simp only [gG,e,if_true] at q;exact q
  ·refine kat_no ?_
   simp only [gG,e,z5,if_false] at q;rcases hi:(true && i == 0) with _ | _
   ·exact kat_one _ _ (lt_int q)
   ·exact oneLt_int q
end
end PySem.W
namespace L2
open PySem PySem.Spec PyProof.Rows PySem.W
def jN (K:Frag) (H:Hp) (x:V) (k:List Int):Prop:=k ≠ []/\∃ a,x=.ref a/\dh K H a (k.map .int)
def kq (ks:List (List Int)) (i j:Nat):Option Bool:=(ks[i]?).bind fun x=>(ks[j]?).map fun y=>gG (decide (x.length < y.length)) x y
section
variable {X:Cx}{FO:List (Addr × Obj)}{σ:St}{H:Hp}{s:Shared}{h':Heap}
theorem jR (I:Inv X FO σ H s):∀ {xs:List V}{ks:List (List Int)}{vs:List Value},Paired (jN X.K H) xs ks->Vals xs vs->∀ (i:Nat) k,ks[i]?=some k->∃ a o FR n,vs[i]?=some (.ref a)/\s.heap.get? a=some o/\o.cls=.type "tuple"/\o.data=.seq FR n/\Vals (k.map .int) FR.toList
 | _,_,_,.nil,_,i,k,e=>by simp at e
 | _,_,_,.cons ⟨_,a,rfl,sq⟩ h,rv,i,k,e=>by
  cases rv with | cons r1 r2 =>
  cases r1;cases i with
  | zero =>
   cases e;obtain ⟨FR,r,⟨o,g,hc,n,hd⟩,_⟩:=I.tuple sq;exact ⟨a,o,FR.toArray,n,rfl,g,hc,hd,by simpa using r⟩
  | succ i=>exact jR I h r2 i k e
theorem ir (I:Inv X FO σ H s) (kp:Kp s.heap h'):∀ {xs:List V}{ks:List (List Int)}{vs:List Value},Paired (jN X.K H) xs ks->Vals xs vs->∃ fs,KatTups h' vs fs/\fs.length=vs.length/\∀ v ∈ fs,∃ x t,v=Value.int x t
 | _,_,_,.nil,rv=>by cases rv;exact ⟨[],KatTups.nil,rfl,fun v hv=>by cases hv⟩
 | _,_,_,.cons (b:=k) ⟨hk,a,rfl,sq⟩ h,rv=>by
  cases rv with | cons r1 r2 =>
  cases r1;obtain ⟨fs,t,hl,hf⟩:=ir I kp h r2;obtain ⟨FR,r,⟨o,g,hc,n,hd⟩,_⟩:=I.tuple sq;obtain ⟨x,k',rfl⟩:∃ x k',k=x::k':=by cases k with | nil=>exact absurd rfl hk | cons x k'=>exact ⟨x,k',rfl⟩
  cases r with | cons q1 q2 =>
  obtain ⟨t1,rfl⟩:=q1;exact ⟨.int x t1::fs,KatTups.cons (kp _ _ g) hc hd (by simp) t,by simp [hl],fun v hv=>by
   rcases zS.mp hv with rfl | hv
   ·exact ⟨_,_,rfl⟩
   ·exact hf v hv⟩
theorem kh {xs:List V}{vs:List Value} (r:Vals xs vs) (q:List Nat):Vals (q.map fun i=>xs.getD i .non) (q.map fun i=>vs.getD i Value.none):=by
 induction q with
 | nil=>exact .nil
 | cons i q ih =>
  refine .cons ?_ ih;by_cases h:i < xs.length
  ·obtain ⟨u,hu,ru⟩:=r.get (i:=i) (x:=xs[i]) (by simp [h])
   have h2:=(zB.mp hu);obtain ⟨h3,rfl⟩:=h2;simpa [List.getD,h,h3] using ru
  ·have h2:¬ i < vs.length:=by rw [<- r.length];exact h
   simp only [List.getD,List.getElem?_eq_none (Nat.le_of_not_lt h),List.getElem?_eq_none (Nat.le_of_not_lt h2),Option.getD_none];rfl
theorem oA:bA X (.builtin "sorted") (fun vs H Q=>∃ a xs ks q,vs=[.ref a]/\bx X.K H a xs/\Paired (jN X.K H) xs ks/\sortBy (kq ks) xs.length=some q/\∀ p,H p=none->Q (.ref p) (ak H p (.lst (q.map fun i=>xs.getD i .non)))):=by
 rintro FO s σ H vs us Q I rv ⟨a,xs,ks,q,e,sq,hK,hq,k⟩;subst e;obtain ⟨u,rfl,ru⟩:=cB rv;cases ru;obtain ⟨FR,r,⟨o,n,hg,hc,hsl,hd⟩,hz⟩:=I.list sq;have hlen:=r.length;refine ll (κ:=tuples' true) (lt:=kq ks) (q:=q) ⟨o,hg,hc,n,hd⟩ (fun h2 h' kp Q' hQ'=>?_) (fun h' kp i j b hb C hC=>?_) (by rw [<- hlen];exact hq) (fun D h' c hl2 hD kp g=>?_)
 ·obtain ⟨fs,t,hl,hf⟩:=ir I kp hK r
  refine kat_kind (s:={ s with heap:=h' }) (T:=.type "int") t oM (fun v hv=>?_) rfl hQ';obtain ⟨x,t',rfl⟩:=hf v hv;exact Looks.of_pure rfl
 ·unfold kq at hb
  rcases hi:ks[i]? with _ | x
  ·rw [hi] at hb;cases hb
  ·rw [hi] at hb
   rcases hj:ks[j]? with _ | y
   ·rw [hj] at hb;cases hb
   ·rw [hj] at hb
    cases hb;obtain ⟨a1,o1,i1,n1,e1,g1,c1,d1,v1⟩:=jR I hK r i x hi;obtain ⟨a2,o2,i2,n2,e2,g2,c2,d2,v2⟩:=jR I hK r j y hj;unfold kas_ask;rw [show FR.getD i Value.none=.ref a1 by simp [List.getD,e1],show FR.getD j Value.none=.ref a2 by simp [List.getD,e2]];have l1:=v1.length;have l2:=v2.length;simp only [zH,Array.length_toList] at l1 l2;refine kat_lt (s:={ s with heap:=h' }) (kp _ _ g1) d1 (kp _ _ g2) d2 ?_;rw [<- l1,<- l2];exact lP v1 v2 hC
 ·exact ⟨.ref D,_,I.laid (o:=.lst (q.map fun i=>xs.getD i .non)) kp hD ⟨by rw [zH,hl2,<- hlen];exact hz,_,c,kh r q,g⟩,rfl,k _ (I.FT.fresh hD)⟩
end
end L2
namespace DD
open PySem PySem.Spec PyProof.Rows L2
section
variable {K:Frag}{F F':Addr->Prop}{H H':Hp}{A:List Addr}
open Classical in
variable {σD:DSt}{σ:L2.St}{R:Ro}{d:D}{v:V}
end
end DD
namespace PySem.W
open PySem.Calls PyProof.Rows PySem.Spec PySem.MeetsSeq3
section
theorem sP {vs:List Value}{ns:List Int} (h:IntsAre vs ns):∀ (i:Nat) (n:Int),ns[i]?=some n->∃ t,vs[i]?=some (.int n t):=by
 induction h with
 | nil=>intro i n e;simp at e
 | cons m t _ ih =>
  intro i n e;cases i with
  | zero=>simp at e;subst e;exact ⟨t,rfl⟩
  | succ i=>simpa using ih i n (by simpa using e)
end
end PySem.W
namespace L2
open PySem PySem.Spec PyProof.Rows
noncomputable def uw (x:Str):It:=⟨fun i _=>∃ c,x.cps[i]?=some c,fun i H v H'=>H'=H/\∃ c,x.cps[i]?=some c/\v=.str ⟨#[c]⟩,fun i _=>x.cps[i]?=none⟩
theorem qV {P:Program}{w:World}{K:Frag}{tg:Expr} (x:Str) (t:Tok) (it:Addr):f9 P w K tg (uw x) [it] it (fun i h=>h.IsStrIter it "str_ascii_iterator" x t i) where
 mem:=by simp
 obj:=fun i h st b hb=>by
  have e:b=it:=by simpa using hb
  subst e;obtain ⟨o,e,c,d⟩:=st;exact ⟨o,e,fun v z=>by rw [d] at z;cases z⟩
 keep:=fun i h h' st k=>by
  obtain ⟨o,e,r⟩:=st;exact ⟨o,k it (by simp) o e,r⟩
 item:=by
  intro X hP hw hK hc i FO s σ H E I hf st hg;subst hP hw hK;obtain ⟨c,hx⟩:=hg;obtain ⟨f0,f1,f2,f3,f4,f5⟩:=hf it (by simp);refine wpAny_pyNext_ascii_item st hx fun h' st' sb=>?_
  have I1:Inv X FO σ H { s with heap:=h',toks:=s.toks + 1 }:=I.turned (fun b o hb e=>(sb.2 b hb).trans e) f0 f1 f3 f4 f5;obtain ⟨o,e,cl,d⟩:=id st';exact ⟨_,rfl,ia (s:={ s with heap:=h',toks:=s.toks + 1 }) e cl d dC ⟨.str ⟨#[c]⟩,H,I1,⟨_,rfl⟩,⟨rfl,c,hx,rfl⟩,st',fun b hb=>(hf b hb).1⟩⟩
 done:=by
  intro X hP hw hK hc i FO s σ H E I hf st hg;subst hP hw hK;obtain ⟨f0,f1,f2,f3,f4,f5⟩:=hf it (by simp);exact wpAny_pyNext_ascii_end (I.ok.hd hc) st hg fun h' eb=>⟨rfl,I.turned (t':=s.toks) (fun b o hb e=>eb b o hb e) f0 f1 f3 f4 f5⟩
 self:=fun _ _ _ _ _ st h=>wpAny_pyIter_striter_ascii st h
end L2
namespace R
open PySem PySem.Spec PyProof.Rows L2
theorem qR:∀ {ps:List Str}{us:List Value},ps.Nodup->us.length=ps.length->ps.filterMap (fun n=>((ps.zip us).lookup n).map fun v=>(n,v))=ps.zip us/\ps.filter (fun n=>((ps.zip us).lookup n).isNone)=[]:=by
 have key:∀ {ps:List Str}{us:List Value},us.length=ps.length->∀ n ∈ ps,((ps.zip us).lookup n).isSome=true:=by
  intro ps
  induction ps with
  | nil=>intro us _ n hn;cases hn
  | cons p ps ih =>
   intro us hl n hn;cases us with
   | nil=>cases hl
   | cons u us =>
    rw [List.zip_cons_cons,yJ];cases hb:n == p with
    | true=>rfl
    | false =>
     rcases zS.mp hn with rfl | hn
     ·simp at hb
     ·exact ih (by simpa using hl) n hn
 intro ps us nd hl;refine ⟨?_,List.filter_eq_nil_iff.mpr fun n hn=>by
  have:=key hl n hn
  cases h:(ps.zip us).lookup n with
  | none=>rw [h] at this;cases this
  | some v=>simp⟩
 -- the names ahead don't matter
 have gen:∀ (qs:List Str) (vs:List Value),qs.Nodup->vs.length=qs.length->∀ l:List (Str × Value),(∀ q ∈ qs,l.lookup q=(qs.zip vs).lookup q)->qs.filterMap (fun n=>(l.lookup n).map fun v=>(n,v))=qs.zip vs:=by
  intro qs
  induction qs with
  | nil=>intro vs _ _ l _;rfl
  | cons q qs ih =>
   intro vs nd hl l h;cases vs with
   | nil=>cases hl
   | cons v vs =>
    have h0:=h q z3;rw [List.zip_cons_cons,yJ] at h0;simp only [beq_self_eq_true] at h0;rw [List.filterMap_cons,h0];rw [List.nodup_cons] at nd
    have:=ih vs nd.2 (by simpa using hl) l fun p hp=>by
     have:=h p (zP _ hp)
     rw [List.zip_cons_cons,yJ] at this;have ne:(p == q)=false:=by
      have:p ≠ q:=fun e=>nd.1 (e ▸ hp)
      simpa using this
     rw [ne] at this;exact this
    simp only [map_some];rw [this];rfl
 exact gen ps us nd hl _ fun _ _=>rfl
noncomputable def gx (a:Arguments):Bool:=a.posonlyargs.isEmpty && a.vararg.isNone && a.kwonlyargs.isEmpty && a.kwarg.isNone
theorem jJ (hp:gx fd.params=true) (hd:fd.defaults=.none) (nd:(fd.params.args.map (·.arg)).Nodup) (hl:us.length=(fd.params.args.map (·.arg)).length):bindArgs fd ⟨us,[]⟩=pure ((fd.params.args.map (·.arg)).zip us):=by
 unfold gx at hp;simp only [zC,List.isEmpty_iff,Option.isNone_iff_eq_none] at hp;obtain ⟨⟨⟨h1,h2⟩,h3⟩,h4⟩:=hp;obtain ⟨z1,z2⟩:=qR nd hl;have hs:seqItems? fd.defaults=(do notAStandIn Value.none;pure none):=by rw [hd];rfl
 have hn:notAStandIn Value.none=pure ():=rfl;unfold bindArgs;simp only [h1,h2,h3,h4,hs,hn];simp only [List.map_nil,List.nil_append,List.forIn_nil,pure_bind,List.append_nil];rw [yD (by simp [hl])];simp only [Option.getD_none,List.length_nil,Nat.sub_zero,List.drop_nil,List.take_length,z2,List.isEmpty_nil,Bool.not_true,z5,if_false,List.drop_length,List.zip_nil_left,List.forIn_nil,pure_bind,z1]
end R
namespace L2
open PySem PySem.Spec PyProof.Rows
def g5 (mg:Str->Option Value) (base:Heap):Prop:=∃ bm o,mg "__builtins__"=some (.ref bm)/\bm ≠ builtinsNs/\bm ≠ mainGlobals/\base.get? bm=some o/\o.cls=.type "module"/\o.dict=some builtinsNs/\o.data=.plain
noncomputable def Ce (c:Addr) (q:Str):HO:=.ext fun h=>h.CodeRec (.ref c) q
section
variable {X:Cx}{FO:List (Addr × Obj)}{σ:St}{H:Hp}{s:Shared}
def di (H:Hp) (P:Addr) (pos:Pos) (q:Str):Prop:=∃ ps,H P=some (.tbl ps)/\TriplesOk ps.toList/\(codeAmong pos ps.toList=none\/∃ c,codeAmong pos ps.toList=some (.ref c)/\H c=some (Ce c q))
end
theorem qh (h:dW k v=true):RelV (kV k) v:=by
 cases k with
 | inl i =>
  cases v <;> first | (cases h;done) | skip
  rename_i j t;have e:j=i:=by simpa [dW,Value.isInt] using h
  subst e;exact ⟨t,rfl⟩
 | inr x =>
  cases v <;> first | (cases h;done) | skip
  rename_i y t;have e:y=x:=by simpa [dW,Value.isStrOf] using h
  subst e;exact ⟨t,rfl⟩
theorem vP {κ:Type}{FP:List (κ × V)}{vs:List (κ × Value)} (r:KV FP vs):FP.map (·.1)=vs.map (·.1):=by
 induction r with
 | nil=>rfl
 | cons h t ih=>simp only [zN];rw [h.1,ih]
def Dn (d:Addr) (o:Obj) (FP:List (aZ × V)):It :=
 ⟨fun i H=>H d=some (.frz o (.dK FP))/\i < FP.length,fun i H x H'=>H'=H/\(FP.map fun p=>kV p.1)[i]?=some x,fun i H=>H d=some (.frz o (.dK FP))/\FP.length <= i⟩
theorem l5 {ep:Nat} (I:Inv X FO σ H s) (h:H d=some (.frz o (.dK FP))) (ho:o.data=.dict es ep) :
  ∃ vs,KV FP vs/\s.heap.DictAt (bE X.prog X.w) d vs ep:=by
 obtain ⟨e1,_,_,vs,r,ob,es',ep',e2,c1,c2,c3⟩:=I.FT d _ h;rw [e1] at e2;cases e2;rw [ho] at c2;cases c2;exact ⟨vs,r,o,es,e1,c1,ho,c3⟩
theorem oW {P:Program}{w:World}{K:Frag}{tg:Expr}{d:Addr}{o:Obj}{FP:List (aZ × V)}{es:Array DictEntry}{ep:Nat} (it:Addr) (hd:o.data=.dict es ep):f9 P w K tg (Dn d o FP) [it] it (fun i h=>h.IsKeyIter it d i FP.length ep) where
 mem:=by simp
 obj:=fun i h st b hb=>by
  obtain rfl:b=it:=by simpa using hb
  obtain ⟨o,e,c,d⟩:=st;exact ⟨o,e,fun v z=>by rw [d] at z;cases z⟩
 keep:=fun i h h' st k=>let ⟨o,e,r⟩:=st;⟨o,k it (by simp) _ e,r⟩
 item:=by
  intro X hP hw hK hc i FO s σ H E I hf st hg;subst hP hw hK;obtain ⟨hg,hi⟩:=hg;obtain ⟨vs,r,da⟩:=l5 I hg hd;have hl:FP.length=vs.length:=Paired.length r;obtain ⟨f0,f1,f2,f3,f4,f5⟩:=hf it (by simp);obtain ⟨q,hq⟩:∃ q,vs[i]?=some q:=⟨_,zF oM⟩;have hk:FP[i]?.map (·.1)=vs[i]?.map (·.1):=by
   rw [<- zQ,<- zQ,vP r]
  rw [hl] at st;refine wpAny_pyNext_dict_item st da (k:=q.1) (v:=q.2) hq fun key h' hkey st' sb=>?_
  have I1:Inv X FO σ H { s with heap:=h' }:=I.turned (t':=s.toks) (fun b o hb e=>(sb.2 b hb).trans e) f0 f1 f3 f4 f5;obtain ⟨o',e,c,dd⟩:=id st';refine ⟨key,rfl,ia (s:={ s with heap:=h' }) e c dd dC ⟨kV q.1,H,I1,qh hkey,⟨rfl,?_⟩,by rw [hl];exact st',fun b hb=>(hf b hb).1⟩⟩;rw [zQ];rw [hq] at hk;cases hkv:FP[i]? with
  | none=>rw [hkv] at hk;cases hk
  | some p=>rw [hkv] at hk;simp at hk;simp [hk]
 done:=by
  intro X hP hw hK hc i FO s σ H E I hf st hg;subst hP hw hK;obtain ⟨hg,hi⟩:=hg;obtain ⟨vs,r,da⟩:=l5 I hg hd;have hl:FP.length=vs.length:=Paired.length r;obtain ⟨f0,f1,f2,f3,f4,f5⟩:=hf it (by simp);rw [hl] at st;exact wpAny_pyNext_dict_end (I.ok.hd hc) st da (List.getElem?_eq_none oM) fun h' eb=>⟨rfl,I.turned (t':=s.toks) (fun b o hb e=>eb b o hb e) f0 f1 f3 f4 f5⟩
 self:=fun A i s Q E st h=>wpAny_pyIter_keyiter st h
section
variable {X:Cx}{FO:List (Addr × Obj)}{σ:St}{H:Hp}{s:Shared}{d:Addr}{FP:List (aZ × V)}{o:Obj}
theorem Inv.frzD (I:Inv X FO σ H s) (h:H d=some (.dK FP)) (e:s.heap.get? d=some o):Inv X FO σ (ak H d (.frz o (.dK FP))) { s with toks:=s.toks }:=by
 have ne:∀ b u,H b=some u->(∀ FP,u ≠ .dK FP)->b ≠ d:=fun b u q n z=>by rw [z,h] at q;cases q;exact n _ rfl
 refine I.un (h':=s.heap) ⟨fun b o e _ _ _=>e,fun b o e _ _ _=>⟨o.slots,e⟩,fun b o e n _=>by rw [ae (fun z=>by rw [z,h] at n;cases n)];exact n,fun b o e _=>⟨o,e⟩,fun b xs q=>by rw [ae (ne b _ q fun _ z=>nomatch z)];exact q,fun b o u q=>by rw [ae (ne b _ q fun _ z=>nomatch z)];exact q,
  fun b ps q=>⟨#[],by rw [ae (ne b _ q fun _ z=>nomatch z),q];simp⟩⟩ fun b u q=>?_
 have st:∀ b u,H b=some u->ObjOk X.prog X.w (ak H d (.frz o (.dK FP))) s.heap b u:=fun b u q=>(I.FT b u q).stay (fun _ _ _ z=>z) (fun c z=>by rw [ae (ne c _ z fun _ y=>nomatch y)];exact z) fun c xs z=>by rw [ae (ne c _ z fun _ y=>nomatch y)];exact z
 by_cases hb:b=d
 ·subst hb;rw [aK] at q;cases q;exact ⟨e,st _ _ h⟩
 ·rw [ae hb] at q;exact st b u q
theorem Inv.thawD (I:Inv X FO σ H s) (h:H d=some (.frz o (.dK FP))) (hn:∀ o u,X.H₀ d ≠ some (.frz o u)):Inv X FO σ (ak H d (.dK FP)) s:=by
 have ne:∀ b u,H b=some u->(∀ o u',u ≠ .frz o u')->b ≠ d:=fun b u q n z=>by rw [z,h] at q;cases q;exact n _ _ rfl
 have nn:∀ b,H b=none->b ≠ d:=fun b q z=>by rw [z,h] at q;cases q
 have FT:HOk X.prog X.w (ak H d (.dK FP)) s.heap:=fun b u q=>by
  have st:∀ b u,H b=some u->ObjOk X.prog X.w (ak H d (.dK FP)) s.heap b u:=fun b u q=>(I.FT b u q).stay (fun _ _ _ z=>z) (fun c z=>by rw [ae (ne c _ z fun _ _ y=>nomatch y)];exact z) fun c xs z=>by rw [ae (ne c _ z fun _ _ y=>nomatch y)];exact z
  by_cases hb:b=d
  ·subst hb;rw [aK] at q;cases q;exact (st _ _ h).2
  ·rw [ae hb] at q;exact st b u q
 refine ⟨I.ok,I.os,I.bare,⟨I.base.keep,I.base.slot,fun b o e n hx=>by rw [ae (nn b (I.base.free b o e n hx))];exact I.base.free b o e n hx,I.base.there,fun b xs e=>by rw [ae (ne b _ (I.base.tups b xs e) fun _ _ y=>nomatch y)];exact I.base.tups b xs e,
  fun b o u e=>by rw [ae (fun z=>hn o u (by rw [<- z];exact e))];exact I.base.frzs b o u e,fun b ps e=>?_⟩,I.loc,I.cell,by rw [ae (nn _ I.free)];exact I.free,fun x c e=>by rw [ae (nn _ (I.freeC x c e))];exact I.freeC x c e,
  fun p hp=>by obtain ⟨a1,a2,a3⟩:=I.pin p hp;exact ⟨a1,by rw [ae (nn _ a2)];exact a2,a3⟩,FT,I.len⟩
 obtain ⟨more,q⟩:=I.base.tbls b ps e;exact ⟨more,by rw [ae (ne b _ q fun _ _ y=>nomatch y)];exact q⟩
end
section
variable {X:Cx}{tg iter:Expr}{te:TE}
def B3 (n0:Hp) (te:TE):TI:=fun σ H R=>te σ H fun x H1=>∃ d FP,x=.ref d/\H1 d=some (.dK FP)/\∀ o,(∀ o u,n0 d ≠ some (.frz o u))->R (Dn d o FP) (ak H1 d (.frz o (.dK FP)))
theorem vh (hl:PE X iter te):PI X tg iter (B3 X.H₀ te):=by
 intro FO s σ H R I h;refine aH (hl FO s σ H _ I h) fun v s1 hq0=>?_
 obtain ⟨x,H1,I1,r1,d,FP,e,hd,q⟩:=hq0;subst e;cases r1;obtain ⟨hz,hsys,vs,rv,ob,es,ep,e1,c1,c2,c3⟩:=I1.FT d _ hd;have hl:FP.length=vs.length:=Paired.length rv;have hn:∀ o u,X.H₀ d ≠ some (.frz o u):=fun o u z=>by
  have:=I1.base.frzs d o u z
  rw [hd] at this;cases this
 have I2:=I1.frzD hd e1;refine wpAny_pyIter_dict hsys (knd:=bE X.prog X.w) ⟨ob,es,e1,c1,c2,c3⟩ ?_;have I3:Inv X FO σ (ak H1 d (.frz ob (.dK FP))) { s1 with heap:=s1.heap.push { cls:=.type "dict_keyiterator",data:=.fields #[.ref d,.int 0 0,.int vs.length 0,.int ep 0] },toks:=s1.toks }:=I2.kept fun b o e=>zG _ e
 refine ⟨s1.heap.objs.size,[s1.heap.objs.size],_,_,_,rfl,I3,oW (FP:=FP) _ c2,⟨_,zX _ rfl,rfl,by rw [hl];rfl⟩,fun b hb=>?_,q ob hn⟩;obtain rfl:b=s1.heap.objs.size:=by simpa using hb
 exact I2.fpOk (zO _) I2.fresh
def kU (n0:Hp) (D:fB):fB:={ nx:=fun σ H=>∃ d o FP,H d=some (.frz o (.dK FP))/\(∀ o u,n0 d ≠ some (.frz o u))/\D.nx σ (ak H d (.dK FP)),rt:=fun v H=>∃ d o FP,H d=some (.frz o (.dK FP))/\(∀ o u,n0 d ≠ some (.frz o u))/\D.rt v (ak H d (.dK FP)) }
theorem u6 {st:Stmt}{t:TS} (h:PS X st t):PS X st (fun D σ H=>t (kU X.H₀ D) σ H):=by
 intro FO s σ H D I q;refine aH (h FO s σ H (kU X.H₀ D) I q) fun f s' hs=>?_
 cases f with
 | next=>obtain ⟨σ',H',J,d,o,FP,e,n,q⟩:=hs;exact ⟨σ',_,J.thawD e n,q⟩
 | ret u=>obtain ⟨v,σ',H',J,r,d,o,FP,e,n,q⟩:=hs;exact ⟨v,σ',_,J.thawD e n,r,q⟩
 | brk=>obtain ⟨_,_,_,q⟩:=hs;exact q.elim
 | cont=>obtain ⟨_,_,_,q⟩:=hs;exact q.elim
end
end L2
namespace R
open PySem L2
inductive AV where
 | non | bl (b:Bool) | int (i:Int) | str (x:Str) | ref (k:Nat) | tup (xs:List AV) | fz (xs:List AV)
inductive F1 where
 | lst (xs:List AV) | al (t:AV) | dK (FP:List (aZ × AV)) | dT (FP:List (List aZ × AV)) | ins (c:Str) (fs:List (Str × AV)) | wk (FP:List (aZ × AV))
abbrev aa:=List F1
abbrev Sl:=List (Option AV)
abbrev Pr:=Addr->Prop
class FQ where
 tb:List (Addr × Pos × Str)
structure Gm where
 K:Frag
 mg:Str->Option Value
def FLk (mg:Gm) (P:Pr) (H:Hp) (a:Addr) (vs:List V):Prop:=(P a/\Rd H a (.lst vs))\/∀ H',bx mg.K H' a vs
mutual
def RA (mg:Gm) (P:Pr) (H:Hp) (φ:List Addr):AV->V->Prop
 | .non,v=>v=.non
 | .bl b,v=>v=.bl b
 | .int i,v=>v=.int i
 | .str x,v=>v=.str x
 | .ref k,v=>∃ a,φ[k]?=some a/\v=.ref a
 | .tup xs,v=>∃ a vs,v=.ref a/\P a/\H a=some (.tup vs)/\FS mg P H φ xs vs
 | .fz xs,v=>∃ a vs,v=.ref a/\FLk mg P H a vs/\FS mg P H [] xs vs
def FS (mg:Gm) (P:Pr) (H:Hp) (φ:List Addr):List AV->List V->Prop
 | [],vs=>vs=[]
 | x::xs,vs=>∃ v ws,vs=v::ws/\RA mg P H φ x v/\FS mg P H φ xs ws
end
theorem be:FS mg P H φ [] []:=by simp only [FS]
theorem aY (h:RA mg P H φ x v) (t:FS mg P H φ xs vs):FS mg P H φ (x::xs) (v::vs):=by simp only [FS];exact ⟨v,vs,rfl,h,t⟩
structure Frm (P:Pr) (φ:List Addr) (H:Hp) (P':Pr) (φ':List Addr) (H':Hp):Prop where
 ext:∀ a,P a->P' a/\H' a=H a
 new:∃ more,φ'=φ++more/\∀ a ∈ more,H a=none
 keep:∀ a,H a ≠ none->a ∉ φ->(∀ ps,H a ≠ some (.tbl ps))->H' a=H a
 pn:∀ a,P' a->P a\/H a=none\/a ∈ φ
 sm:∀ a,H a ≠ none->H' a ≠ none
 fz:∀ a o u,H a=some (.frz o u)->H' a=some (.frz o u)
theorem Frm.refl:Frm P φ H P φ H:=⟨fun _ h=>⟨h,rfl⟩,⟨[],by simp,by simp⟩,fun _ _ _ _=>rfl,fun _ h=>.inl h,fun _ h=>h,fun _ _ _ h=>h⟩
theorem Frm.trans {P P1 P2:Pr}{φ φ1 φ2:List Addr}{H H1 H2:Hp} (a:Frm P φ H P1 φ1 H1) (b:Frm P1 φ1 H1 P2 φ2 H2):Frm P φ H P2 φ2 H2:=by
 obtain ⟨m1,e1,n1⟩:=a.new;obtain ⟨m2,e2,n2⟩:=b.new;have nn:∀ x,H1 x=none->H x=none:=fun x h=>by
  cases e:H x with
  | none=>rfl
  | some o=>exact absurd h (a.sm x (by rw [e];exact fun z=>nomatch z))
 refine ⟨fun x h=>?_,⟨m1++m2,by rw [e2,e1,yI],fun x h=>?_⟩,fun x h1 h2 h3=>?_,fun x h=>?_,fun x h=>b.sm x (a.sm x h),fun x o u h=>b.fz x o u (a.fz x o u h)⟩
 ·obtain ⟨h1,e⟩:=a.ext x h
  obtain ⟨h2,e'⟩:=b.ext x h1;exact ⟨h2,e'.trans e⟩
 ·rcases zY.mp h with h | h
  ·exact n1 x h
  ·exact nn x (n2 x h)
 ·have e:=a.keep x h1 h2 h3
  refine (b.keep x (by rw [e];exact h1) (fun z=>?_) (by rw [e];exact h3)).trans e;rw [e1] at z;rcases zY.mp z with z | z
  ·exact h2 z
  ·exact h1 (n1 x z)
 ·rcases b.pn x h with h | h | h
  ·exact a.pn x h
  ·exact .inr (.inl (nn x h))
  ·rw [e1] at h
   rcases zY.mp h with h | h
   ·exact .inr (.inr h)
   ·exact .inr (.inl (n1 x h))
theorem Rd.at (h:Rd H a u) (e:H' a=H a):Rd H' a u:=by
 rcases h with h | ⟨o,h⟩
 ·exact .inl (e.trans h)
 ·exact .inr ⟨o,e.trans h⟩
theorem FLk.mono {mg:Gm}{P P':Pr}{H H':Hp}{a:Addr}{vs:List V} (h:FLk mg P H a vs) (x:∀ a,P a->P' a/\H' a=H a):FLk mg P' H' a vs:=by
 rcases h with ⟨p,r⟩ | h
 ·exact .inl ⟨(x a p).1,Rd.at r (x a p).2⟩
 ·exact .inr h
theorem FLk.sq (h:FLk mg P H a vs):bx mg.K H a vs:=by
 rcases h with ⟨_,r⟩ | h
 ·exact .inl r
 ·exact h H
section
variable {mg:Gm}{P P':Pr}{H H':Hp}{φ φ':List Addr}
mutual
theorem RA.mono' (x:∀ a,P a->P' a/\H' a=H a):∀ {t:AV}{v:V}{φ φ':List Addr},(∀ (k:Nat) a,φ[k]?=some a->φ'[k]?=some a)->RA mg P H φ t v->RA mg P' H' φ' t v
 | .non,_,_,_,_,h=>by simp only [RA] at h ⊢;exact h
 | .bl _,_,_,_,_,h=>by simp only [RA] at h ⊢;exact h
 | .int _,_,_,_,_,h=>by simp only [RA] at h ⊢;exact h
 | .str _,_,_,_,_,h=>by simp only [RA] at h ⊢;exact h
 | .ref k,_,_,_,hφ,h=>by simp only [RA] at h ⊢;obtain ⟨a,e,r⟩:=h;exact ⟨a,hφ k a e,r⟩
 | .tup xs,_,_,_,hφ,h=>by
  simp only [RA] at h ⊢;obtain ⟨a,vs,r,p,e,q⟩:=h;exact ⟨a,vs,r,(x a p).1,(x a p).2.trans e,FS.mono' x hφ q⟩
 | .fz xs,_,_,_,hφ,h=>by
  simp only [RA] at h ⊢;obtain ⟨a,vs,r,e,q⟩:=h;exact ⟨a,vs,r,e.mono x,FS.mono' x (fun _ _ z=>z) q⟩
theorem FS.mono' (x:∀ a,P a->P' a/\H' a=H a):∀ {ts:List AV}{vs:List V}{φ φ':List Addr},(∀ (k:Nat) a,φ[k]?=some a->φ'[k]?=some a)->FS mg P H φ ts vs->FS mg P' H' φ' ts vs
 | [],_,_,_,_,h=>by simp only [FS] at h ⊢;exact h
 | t::ts,_,_,_,hφ,h=>by
  simp only [FS] at h ⊢;obtain ⟨v,ws,e,r,q⟩:=h;exact ⟨v,ws,e,RA.mono' x hφ r,FS.mono' x hφ q⟩
end
theorem RA.mono {t:AV}{v:V} (h:RA mg P H φ t v) (x:∀ a,P a->P' a/\H' a=H a) (hφ:∀ (k:Nat) a,φ[k]?=some a->φ'[k]?=some a):RA mg P' H' φ' t v:=RA.mono' x hφ h
theorem FS.mono {ts:List AV}{vs:List V} (h:FS mg P H φ ts vs) (x:∀ a,P a->P' a/\H' a=H a) (hφ:∀ (k:Nat) a,φ[k]?=some a->φ'[k]?=some a):FS mg P' H' φ' ts vs:=FS.mono' x hφ h
theorem Frm.ix (f:Frm P φ H P' φ' H'):∀ (k:Nat) a,φ[k]?=some a->φ'[k]?=some a:=fun k a e=>by
 obtain ⟨m,rfl,_⟩:=f.new;rw [zM (zB.mp e).1];exact e
theorem RA.frm (h:RA mg P H φ t v) (f:Frm P φ H P' φ' H'):RA mg P' H' φ' t v:=h.mono f.ext f.ix
theorem FS.frm (h:FS mg P H φ ts vs) (f:Frm P φ H P' φ' H'):FS mg P' H' φ' ts vs:=h.mono f.ext f.ix
theorem RA.lift (h:RA mg P H [] t v):RA mg P H φ t v:=h.mono (fun _ h=>⟨h,rfl⟩) fun k a e=>by simp at e
theorem FS.lift (h:FS mg P H [] ts vs):FS mg P H φ ts vs:=h.mono (fun _ h=>⟨h,rfl⟩) fun k a e=>by simp at e
theorem FS.length:∀ {ts:List AV}{vs:List V},FS mg P H φ ts vs->ts.length=vs.length
 | [],_,h=>by simp only [FS] at h;subst h;rfl
 | t::ts,_,h=>by
  simp only [FS] at h;obtain ⟨v,ws,rfl,_,q⟩:=h;rw [yP,yP,FS.length q]
theorem FS.get:∀ {ts:List AV}{vs:List V}{i:Nat}{t:AV},FS mg P H φ ts vs->ts[i]?=some t->∃ v,vs[i]?=some v/\RA mg P H φ t v
 | [],_,_,_,_,e=>by simp at e
 | x::ts,_,i,t,h,e=>by
  simp only [FS] at h;obtain ⟨v,ws,rfl,r,q⟩:=h;cases i with
  | zero=>simp at e;subst e;exact ⟨v,rfl,r⟩
  | succ i=>simpa using FS.get (i:=i) q (by simpa using e)
theorem FS.app:∀ {xs ys:List AV}{vs ws:List V},FS mg P H φ xs vs->FS mg P H φ ys ws->FS mg P H φ (xs++ys) (vs++ws)
 | [],_,_,_,h,g=>by simp only [FS] at h;subst h;exact g
 | x::xs,_,_,_,h,g=>by
  simp only [FS] at h;obtain ⟨v,ws,rfl,r,q⟩:=h;exact aY r (FS.app q g)
theorem FS.take:∀ {xs:List AV}{vs:List V} (n:Nat),FS mg P H φ xs vs->FS mg P H φ (xs.take n) (vs.take n)
 | xs,vs,0,_=>by rw [List.take_zero,List.take_zero];exact be
 | [],vs,n + 1,h=>by simp only [FS] at h;subst h;exact be
 | x::xs,vs,n + 1,h=>by
  simp only [FS] at h;obtain ⟨v,ws,rfl,r,q⟩:=h;exact aY r (FS.take n q)
theorem FS.drop:∀ {xs:List AV}{vs:List V} (n:Nat),FS mg P H φ xs vs->FS mg P H φ (xs.drop n) (vs.drop n)
 | xs,vs,0,h=>h
 | [],vs,n + 1,h=>by simp only [FS] at h;subst h;exact be
 | x::xs,vs,n + 1,h=>by
  simp only [FS] at h;obtain ⟨v,ws,rfl,r,q⟩:=h;exact FS.drop n q
theorem FS.set (r:RA mg P H φ x v):∀ {xs:List AV}{vs:List V} (n:Nat),FS mg P H φ xs vs->FS mg P H φ (xs.set n x) (vs.set n v)
 | [],vs,_,h=>by simp only [FS] at h;subst h;exact be
 | y::xs,vs,n,h=>by
  simp only [FS] at h;obtain ⟨w,ws,rfl,q,t⟩:=h;cases n with
  | zero=>exact aY r t
  | succ n=>exact aY q (FS.set r n t)
theorem FS.rev (h:FS mg P H φ xs vs):FS mg P H φ xs.reverse vs.reverse:=by
 induction xs generalizing vs with
 | nil=>simp only [FS] at h;subst h;exact be
 | cons x xs ih =>
  simp only [FS] at h;obtain ⟨v,ws,rfl,r,q⟩:=h;rw [List.reverse_cons,List.reverse_cons];exact (ih q).app (aY r be)
theorem FS.ints:∀ {ns:List Int}{vs:List V},FS mg P H φ (ns.map .int) vs->vs=ns.map .int
 | [],_,h=>by simpa only [List.map_nil,FS] using h
 | n::ns,_,h=>by
  simp only [zN,FS,RA] at h;obtain ⟨v,ws,rfl,rfl,q⟩:=h;rw [FS.ints q];rfl
theorem FS.of_ints:∀ {ns:List Int},FS mg P H φ (ns.map .int) (ns.map V.int)
 | []=>be
 | n::ns=>aY (by simp only [RA]) FS.of_ints
end
def KVR (mg:Gm) (P:Pr) (H:Hp) (φ:List Addr) {κ:Type} (FP:List (κ × AV)) (ws:List (κ × V)):Prop:=FP.map (·.1)=ws.map (·.1)/\FS mg P H φ (FP.map (·.2)) (ws.map (·.2))
def CellR (mg:Gm) (P:Pr) (H:Hp) (φ:List Addr) (a:Addr):F1->Prop
 | .lst xs=>¬ P a/\∃ vs,H a=some (.lst vs)/\FS mg P H φ xs vs
 | .al t=>P a/\RA mg P H [] t (.ref a)
 | .dK FP=>¬ P a/\∃ ws,H a=some (.dK ws)/\KVR mg P H φ FP ws
 | .dT FP=>¬ P a/\∃ ws,H a=some (.dT ws)/\KVR mg P H φ FP ws
 | .ins c fs=>¬ P a/\∃ C dx ws,mg.mg c=some (.ref C)/\H a=some (.ins C dx ws)/\KVR mg P H φ fs ws
 | .wk FP=>¬ P a/\∃ o ws,H a=some (.frz o (.dK ws))/\KVR mg P H φ FP ws
def AG (o:Option HO):Prop:=(∀ ps,o ≠ some (.tbl ps))/\∀ f,o ≠ some (.ext f)
theorem _root_.L2.di.new (h:di H P pos q) (hp:H p=none):di (ak H p o) P pos q:=by
 obtain ⟨ps,e,t,c⟩:=h;refine ⟨ps,by rw [ae (bc e hp)];exact e,t,?_⟩;rcases c with c | ⟨c',c1,c2⟩
 ·exact .inl c
 ·exact .inr ⟨c',c1,by rw [ae (bc c2 hp)];exact c2⟩
theorem _root_.L2.di.ne (h:di H P pos q) (hp:H p=none):P ≠ p:=by
 obtain ⟨ps,e,_⟩:=h;exact bc e hp
theorem _root_.L2.di.wr (h:di H P pos q) (hp:AG (H p)):di (ak H p o) P pos q:=by
 obtain ⟨ps,e,t,c⟩:=h;refine ⟨ps,by rw [ae fun z=>hp.1 ps (by rw [<- z];exact e)];exact e,t,?_⟩;rcases c with c | ⟨c',c1,c2⟩
 ·exact .inl c
 ·exact .inr ⟨c',c1,by rw [ae fun z=>hp.2 _ (by rw [<- z];exact c2)];exact c2⟩
structure Sim [FQ] (mg:Gm) (P:Pr) (φ:List Addr) (st:aa) (H:Hp):Prop where
 len:φ.length=st.length
 nd:φ.Nodup
 dom:∀ a,P a->H a ≠ none
 cd:∀ a ∈ φ,H a ≠ none
 cell:∀ (k:Nat) c a,st[k]?=some c->φ[k]?=some a->CellR mg P H φ a c
 tb:∀ t ∈ FQ.tb,di H t.1 t.2.1 t.2.2/\¬ P t.1
section
variable {mg:Gm}{P P':Pr}{H H':Hp}{φ φ':List Addr}{st st':aa}{a:Addr}
theorem KVR.mono {κ:Type}{FP:List (κ × AV)}{ws:List (κ × V)} (h:KVR mg P H φ FP ws) (x:∀ a,P a->P' a/\H' a=H a) (hφ:∀ (k:Nat) a,φ[k]?=some a->φ'[k]?=some a):KVR mg P' H' φ' FP ws:=⟨h.1,h.2.mono x hφ⟩
theorem CellR.mono {c:F1} (h:CellR mg P H φ a c) (x:∀ a,P a->P' a/\H' a=H a) (hφ:∀ (k:Nat) a,φ[k]?=some a->φ'[k]?=some a) (e:H' a=H a) (np:¬ P a->¬ P' a):CellR mg P' H' φ' a c:=by
 cases c with
 | lst xs=>obtain ⟨n,vs,r,q⟩:=h;exact ⟨np n,vs,e.trans r,q.mono x hφ⟩
 | al t=>exact ⟨(x a h.1).1,h.2.mono x fun _ _ z=>z⟩
 | dK FP=>obtain ⟨n,vs,r,q⟩:=h;exact ⟨np n,vs,e.trans r,q.mono x hφ⟩
 | dT FP=>obtain ⟨n,vs,r,q⟩:=h;exact ⟨np n,vs,e.trans r,q.mono x hφ⟩
 | ins c fs=>obtain ⟨n,C,dx,ws,m,r,q⟩:=h;exact ⟨np n,C,dx,ws,m,e.trans r,q.mono x hφ⟩
 | wk FP=>obtain ⟨n,o,ws,r,q⟩:=h;exact ⟨np n,o,ws,e.trans r,q.mono x hφ⟩
theorem Sim.at [FQ] (s:Sim mg P φ st H) {k:Nat} (e:st[k]?=some c):∃ a,φ[k]?=some a/\CellR mg P H φ a c:=by
 have hk:k < φ.length:=by rw [s.len];exact (zB.mp e).1
 exact ⟨φ[k],zF hk,s.cell k c _ e (zF hk)⟩
theorem Sim.notb [FQ] (s:Sim mg P φ st H) {k:Nat} (ea:φ[k]?=some a) (na:¬ P a):AG (H a):=by
 obtain ⟨c,hc⟩:∃ c,st[k]?=some c:=⟨_,zF (by rw [<- s.len];exact (zB.mp ea).1)⟩;have h:=s.cell k c a hc ea;cases c with
 | lst xs=>obtain ⟨n,vs,r,q⟩:=h;rw [r];exact ⟨fun _ z=>(nomatch z),fun _ z=>(nomatch z)⟩
 | al t=>exact absurd h.1 na
 | dK FP=>obtain ⟨n,vs,r,q⟩:=h;rw [r];exact ⟨fun _ z=>(nomatch z),fun _ z=>(nomatch z)⟩
 | dT FP=>obtain ⟨n,vs,r,q⟩:=h;rw [r];exact ⟨fun _ z=>(nomatch z),fun _ z=>(nomatch z)⟩
 | ins c fs=>obtain ⟨n,C,dx,ws,m,r,q⟩:=h;rw [r];exact ⟨fun _ z=>(nomatch z),fun _ z=>(nomatch z)⟩
 | wk FP=>obtain ⟨n,o,ws,r,q⟩:=h;rw [r];exact ⟨fun _ z=>(nomatch z),fun _ z=>(nomatch z)⟩
theorem Sim.tnc [FQ] (s:Sim mg P φ st H) (ht:t ∈ FQ.tb):t.1 ∉ φ:=fun h=>by
 obtain ⟨j,hj⟩:=List.getElem?_of_mem h;obtain ⟨ps,e,_⟩:=(s.tb t ht).1;exact (s.notb hj (s.tb t ht).2).1 ps e
theorem Sim.ckeep [FQ] (s:Sim mg P φ st H) (x:∀ a,P a->H' a=H a) (k:∀ a,H a ≠ none->(∀ ps,H a ≠ some (.tbl ps))->H' a=H a):∀ a ∈ φ,H' a=H a:=fun a h=>by
 by_cases hP:P a
 ·exact x a hP
 ·obtain ⟨j,hj⟩:=List.getElem?_of_mem h
  exact k a (s.cd a h) (s.notb hj hP).1
theorem Sim.stay [FQ] (s:Sim mg P φ st H) (x:∀ a,P a->P' a/\H' a=H a) (hc:∀ a ∈ φ,H' a=H a) (np:∀ a ∈ φ,¬ P a->¬ P' a) (dm:∀ a,P' a->H' a ≠ none) (tb:∀ t ∈ FQ.tb,di H' t.1 t.2.1 t.2.2/\¬ P' t.1):Sim mg P' φ st H' :=
 ⟨s.len,s.nd,dm,fun a h=>by rw [hc a h];exact s.cd a h,fun k c a e1 e2=>(s.cell k c a e1 e2).mono x (fun _ _ z=>z) (hc a (zV e2)) (np a (zV e2)),tb⟩
theorem Sim.nil [FQ] (dm:∀ a,P a->H a ≠ none) (tb:∀ t ∈ FQ.tb,di H t.1 t.2.1 t.2.2/\¬ P t.1):Sim mg P [] [] H:=⟨rfl,List.nodup_nil,dm,fun _ h=>by simp at h,fun k c a e _=>by simp at e,tb⟩
theorem jk [FQ] (s:Sim mg P φ st H) (hp:H p=none):Frm P φ H (fun a=>P a\/a=p) φ (ak H p o)/\Sim mg (fun a=>P a\/a=p) φ st (ak H p o):=by
 have ne:∀ a,H a ≠ none->a ≠ p:=fun a h e=>h (by rw [e];exact hp)
 have f:Frm P φ H (fun a=>P a\/a=p) φ (ak H p o):=by
  refine ⟨fun a h=>⟨.inl h,ae (ne a (s.dom a h))⟩,⟨[],by simp,by simp⟩,fun a h _ _=>ae (ne a h),fun a h=>?_,fun a h=>by rw [ae (ne a h)];exact h,fun a o u h=>by rw [ae (bc h hp)];exact h⟩;rcases h with h | h
  ·exact .inl h
  ·exact .inr (.inl (by rw [h];exact hp))
 refine ⟨f,s.stay f.ext (fun a h=>ae (ne a (s.cd a h))) (fun a h n z=>?_) (fun a h=>?_) fun t ht=>⟨(s.tb t ht).1.new hp,fun z=>z.elim (s.tb t ht).2 (fun e=>(s.tb t ht).1.ne hp e)⟩⟩
 ·rcases z with z | z
  ·exact n z
  ·exact ne a (s.cd a h) z
 ·rcases h with h | h
  ·rw [ae (ne a (s.dom a h))];exact s.dom a h
  ·rw [h,aK];exact fun z=>nomatch z
theorem iU [FQ] (s:Sim mg P φ st H) (hp:H p=none) (hc:CellR mg P (ak H p o) (φ++[p]) p c):Frm P φ H P (φ++[p]) (ak H p o)/\Sim mg P (φ++[p]) (st++[c]) (ak H p o):=by
 have ne:∀ a,H a ≠ none->a ≠ p:=fun a h e=>h (by rw [e];exact hp)
 have ex:∀ a,P a->P a/\ak H p o a=H a:=fun a h=>⟨h,ae (ne a (s.dom a h))⟩
 have ix:∀ (k:Nat) a,φ[k]?=some a->(φ++[p])[k]?=some a:=fun k a e=>by rw [zM (zB.mp e).1];exact e
 have sm:∀ a,H a ≠ none->ak H p o a ≠ none:=fun a h=>by rw [ae (ne a h)];exact h
 refine ⟨⟨ex,⟨[p],rfl,fun a h=>by rw [zL.mp h];exact hp⟩,fun a h _ _=>ae (ne a h),fun a h=>.inl h,sm,fun a o u h=>by rw [ae (bc h hp)];exact h⟩,?_,?_,fun a h=>sm a (s.dom a h),fun a h=>?_,fun k d a e1 e2=>?_,fun t ht=>⟨(s.tb t ht).1.new hp,(s.tb t ht).2⟩⟩
 ·rw [zU,zU,s.len];rfl
 ·exact List.nodup_append.mpr ⟨s.nd,(by simp),fun a h b hb e=>ne a (s.cd a h) (by rw [e];exact zL.mp hb)⟩
 ·rcases zY.mp h with h | h
  ·exact sm a (s.cd a h)
  ·rw [zL.mp h,aK];exact fun z=>nomatch z
 ·by_cases hk:k < st.length
  ·rw [zM hk] at e1
   rw [zM (by rw [s.len];exact hk)] at e2;exact (s.cell k d a e1 e2).mono ex ix (ae (ne a (s.cd a (zV e2)))) fun z=>z
  ·have hk':k=st.length:=by
    have:=(zB.mp e1).1
    rw [zU] at this;simp at this;omega
   subst hk';simp at e1;rw [<- s.len] at e2;simp at e2;subst e1;subst e2;exact hc
theorem dZ [FQ] {k:Nat} (s:Sim mg P φ st H) (ea:φ[k]?=some a) (na:¬ P a) (hc:CellR mg P (ak H a o) φ a c) (nz:∀ o u,H a ≠ some (.frz o u)):Frm P φ H P φ (ak H a o)/\Sim mg P φ (st.set k c) (ak H a o):=by
 have hm:a ∈ φ:=zV ea;have ne:∀ b,P b->b ≠ a:=fun b h e=>na (by rw [<- e];exact h)
 have sm:∀ b,H b ≠ none->ak H a o b ≠ none:=fun b h=>by
  by_cases e:b=a
  ·rw [e,aK];exact fun z=>nomatch z
  ·rw [ae e];exact h
 have ex:∀ b,P b->P b/\ak H a o b=H b:=fun b h=>⟨h,ae (ne b h)⟩
 refine ⟨⟨ex,⟨[],by simp,by simp⟩,fun b _ h _=>ae fun e=>h (by rw [e];exact hm),fun b h=>.inl h,sm,fun b o u h=>by rw [ae (fun e=>nz o u (by rw [<- e];exact h))];exact h⟩,by rw [List.length_set];exact s.len,s.nd,fun b h=>sm b (s.dom b h),fun b h=>sm b (s.cd b h),fun j d b e1 e2=>?_,fun t ht=>⟨(s.tb t ht).1.wr (s.notb ea na),(s.tb t ht).2⟩⟩;by_cases hj:j=k
 ·subst hj
  rw [ea] at e2;cases e2;rw [List.getElem?_set_self (by rw [<- s.len];exact (zB.mp ea).1)] at e1;cases e1;exact hc
 ·rw [List.getElem?_set_ne (Ne.symm hj)] at e1
  have hb:b ≠ a:=fun e=>hj (by
   subst e;exact nodup_ix' s.nd e2 ea)
  exact (s.cell j d b e1 e2).mono ex (fun _ _ z=>z) (ae hb) fun z=>z
where
 nodup_ix' {l:List Addr} (hN:l.Nodup) {i j:Nat}{x:Addr} (a:l[i]?=some x) (b:l[j]?=some x):i=j:=by
  obtain ⟨h1,e1⟩:=zB.mp a;obtain ⟨h2,e2⟩:=zB.mp b;exact (List.getElem_inj hN).mp (e1.trans e2.symm)
end
end R
namespace R
open PySem PySem.Spec PyProof.Rows L2
open DD (PE_imp PT_imp PA_imp PS_imp PSs_imp OpR_imp PW_imp PG_imp)
abbrev St:=L2.St
abbrev _root_.L2.Cx.gm (X:Cx):Gm:=⟨X.K,X.mg⟩
def KG [FQ] {α β:Type} (mg:Gm) (Rl:Gm->Pr->Hp->List Addr->α->β->Prop) (P:Pr) (φ:List Addr) (H:Hp) (r:Option (α × aa)) (Q:β->Hp->Prop):Prop :=
 ∃ a st',r=some (a,st')/\∀ P' φ' H' b,Frm P φ H P' φ' H'->Sim mg P' φ' st' H'->Rl mg P' H' φ' a b->Q b H'
def RB {α:Type} (_:Gm) (_:Pr) (_:Hp) (_:List Addr) (a b:α):Prop:=a=b
section
variable {α β γ δ:Type}{mg:Gm}{Ra:Gm->Pr->Hp->List Addr->α->β->Prop}{Rc:Gm->Pr->Hp->List Addr->γ->δ->Prop}{P:Pr}{φ:List Addr}{H:Hp}
theorem KG.bind [FQ] {m:Option (α × aa)}{k:α × aa->Option (γ × aa)}{Q:δ->Hp->Prop} (h:KG mg Rc P φ H (m.bind k) Q) :
  KG mg Ra P φ H m fun b H1=>∃ P1 φ1 st1 a,Frm P φ H P1 φ1 H1/\Sim mg P1 φ1 st1 H1/\Ra mg P1 H1 φ1 a b/\KG mg Rc P1 φ1 H1 (k (a,st1)) Q:=by
 obtain ⟨c,st',e,q⟩:=h;cases m with
 | none=>cases e
 | some p =>
  obtain ⟨a,st1⟩:=p;refine ⟨a,st1,rfl,fun P1 φ1 H1 b f s r=>⟨P1,φ1,st1,a,f,s,r,c,st',e,fun P' φ' H' d f' s' r'=>q P' φ' H' d (f.trans f') s' r'⟩⟩
theorem KG.pure [FQ] {a:α}{st:aa}{Q:β->Hp->Prop}{b:β} (h:KG mg Ra P φ H (some (a,st)) Q) (s:Sim mg P φ st H) (r:Ra mg P H φ a b):Q b H:=by
 obtain ⟨_,_,e,q⟩:=h;cases e;exact q P φ H b Frm.refl s r
theorem KG.map [FQ] {m:Option α}{st:aa}{Q:β->Hp->Prop} (h:KG mg Ra P φ H (m.map fun a=>(a,st)) Q):∃ a,m=some a/\KG mg Ra P φ H (some (a,st)) Q:=by
 obtain ⟨b,st',e,q⟩:=h;cases m with
 | none=>cases e
 | some a=>exact ⟨a,rfl,b,st',e,q⟩
end
def FV (mg:Gm) (P:Pr) (H:Hp) (φ:List Addr) (sl:Sl) (σ:St):Prop:=sl.length=σ.length/\∀ (i:Nat) v,sl[i]?=some (some v)->∃ w,σ[i]?=some (some w)/\RA mg P H φ v w
section
variable {mg:Gm}{P P':Pr}{H H':Hp}{φ φ':List Addr}{sl:Sl}{σ:St}
theorem FV.frm (h:FV mg P H φ sl σ) (f:Frm P φ H P' φ' H'):FV mg P' H' φ' sl σ:=⟨h.1,fun i v e=>let ⟨w,e',r⟩:=h.2 i v e;⟨w,e',r.frm f⟩⟩
theorem FV.set (h:FV mg P H φ sl σ) (r:RA mg P H φ v w) (i:Nat):FV mg P H φ (sl.set i (some v)) (σ.set i (some w)):=by
 refine ⟨by rw [List.length_set,List.length_set];exact h.1,fun j u e=>?_⟩;by_cases hj:i=j
 ·subst hj
  by_cases hi:i < sl.length
  ·rw [List.getElem?_set_self hi] at e
   cases e;exact ⟨w,List.getElem?_set_self (by rw [<- h.1];exact hi),r⟩
  ·rw [List.getElem?_eq_none (by rw [List.length_set];omega)] at e;cases e
 ·rw [List.getElem?_set_ne hj] at e
  rw [List.getElem?_set_ne hj];exact h.2 j u e
end
abbrev EF:=Sl->aa->Option (AV × aa)
abbrev TF:=Sl->aa->Option (Bool × aa)
abbrev AF:=Sl->aa->Option (List AV × aa)
def rE [FQ] (mg:Gm) (f:EF):TE:=fun σ H Q=>∃ P φ sl st,FV mg P H φ sl σ/\Sim mg P φ st H/\KG mg RA P φ H (f sl st) Q
def rT [FQ] (mg:Gm) (f:TF):TT:=fun σ H Q=>∃ P φ sl st,FV mg P H φ sl σ/\Sim mg P φ st H/\KG mg RB P φ H (f sl st) Q
def rA [FQ] (mg:Gm) (f:AF):TA:=fun σ H Q=>∃ P φ sl st,FV mg P H φ sl σ/\Sim mg P φ st H/\KG mg FS P φ H (f sl st) Q
def QE [FQ] (X:Cx) (e:Expr) (f:EF):Prop:=PE X e (rE X.gm f)
def QT [FQ] (X:Cx) (e:Expr) (f:TF):Prop:=PT X e (rT X.gm f)
def QW [FQ] (X:Cx) (e:Expr) (f:TF):Prop:=PW X e (rT X.gm f)
def QA [FQ] (X:Cx) (es:List Expr) (f:AF):Prop:=PA X es (rA X.gm f)
def aV (i:Nat):EF:=fun sl st=>match sl[i]? with
 | some (some v)=>some (v,st)
 | _=>none
def aC (v:AV):EF:=fun _ st=>some (v,st)
def df:AF:=fun _ st=>some ([],st)
def dg (f:EF) (g:AF):AF:=fun sl st=>(f sl st).bind fun p=>(g sl p.2).bind fun q=>some (p.1::q.1,q.2)
noncomputable def ja:AV->Option V
 | .non=>some .non
 | .bl b=>some (.bl b)
 | .int i=>some (.int i)
 | .str x=>some (.str x)
 | _=>none
theorem RA.sc (h:ja v=some w):RA mg P H φ v w:=by
 cases v <;> simp only [ja] at h <;> cases h <;> simp only [RA]
section
variable {X:Cx}{e:Expr}{es:List Expr}{pos:Pos}
theorem xp [FQ] {i:Nat} (hN:X.N[i]?=some x) (hv:qH X.env.scope x) (hd:(x == ("__debug__":Str))=false) (hcd:(x == ("__classdict__":Str))=false):QE X (.Name x pos) (aV i) :=
 PE_imp (xL hN hv hd hcd) fun σ H Q hq0=>by
  obtain ⟨P,φ,sl,st,r,s,k⟩:=hq0;unfold aV at k;cases h:sl[i]? with
  | none=>rw [h] at k;obtain ⟨_,_,e,_⟩:=k;cases e
  | some o =>
   cases o with
   | none=>rw [h] at k;obtain ⟨_,_,e,_⟩:=k;cases e
   | some v =>
    rw [h] at k;obtain ⟨w,e,ra⟩:=r.2 i v h;exact ⟨w,e,k.pure s ra⟩
theorem lC [FQ] (hw:ja v=some w) (h:PE X e t) (ht:∀ σ H Q,Q w H->t σ H Q):QE X e (aC v) :=
 PE_imp h fun σ H Q ⟨P,φ,sl,st,r,s,k⟩=>ht σ H Q (k.pure s (RA.sc hw))
theorem er [FQ]:QA X [] df:=PA_imp pO fun σ H Q ⟨P,φ,sl,st,r,s,k⟩=>k.pure s be
theorem cw [FQ] (ha:QE X e f) (hr:QA X es g) (hs:starEach (e::es) X.env=(false,eval e X.env)::starEach es X.env):QA X (e::es) (dg f g) :=
 PA_imp (jX ha hr hs) fun σ H Q ⟨P,φ,sl,st,r,s,k⟩=>⟨P,φ,sl,st,r,s,by
  obtain ⟨a,st',e1,q⟩:=k.bind (Ra:=RA);refine ⟨a,st',e1,fun P1 φ1 H1 b f1 s1 r1=>?_⟩;obtain ⟨P2,φ2,st2,a2,f2,s2,r2,k2⟩:=q P1 φ1 H1 b f1 s1 r1;refine ⟨P2,φ2,sl,st2,r.frm f2,s2,?_⟩;obtain ⟨xs,st3,e3,q3⟩:=k2.bind (Ra:=FS);refine ⟨xs,st3,e3,fun P4 φ4 H4 bs f4 s4 r4=>?_⟩;obtain ⟨P5,φ5,st5,a5,f5,s5,r5,k5⟩:=q3 P4 φ4 H4 bs f4 s4 r4;exact k5.pure s5 (aY (r2.frm f5) r5)⟩
end
def a2 (f g:EF) (k:AV->AV->aa->Option (AV × aa)):EF:=fun sl st=>(f sl st).bind fun p=>(g sl p.2).bind fun q=>k p.1 q.1 q.2
def a1 (f:EF) (k:AV->aa->Option (AV × aa)):EF:=fun sl st=>(f sl st).bind fun p=>k p.1 p.2
def r2 [FQ] (mg:Gm) (k:AV->AV->aa->Option (AV × aa)):R2:=fun v w H Q=>∃ P φ st x y,Sim mg P φ st H/\RA mg P H φ x v/\RA mg P H φ y w/\KG mg RA P φ H (k x y st) Q
def r1 [FQ] (mg:Gm) (k:AV->aa->Option (AV × aa)):V->Hp->VK->Prop:=fun v H Q=>∃ P φ st x,Sim mg P φ st H/\RA mg P H φ x v/\KG mg RA P φ H (k x st) Q
section
variable {mg:Gm}{k:AV->AV->aa->Option (AV × aa)}{k1:AV->aa->Option (AV × aa)}{f g:EF}
theorem oO [FQ] (q:rE mg (a2 f g k) σ H Q):oZ (r2 mg k) (rE mg f) (rE mg g) σ H Q:=by
 obtain ⟨P,φ,sl,st,rs,s,kk⟩:=q;refine ⟨P,φ,sl,st,rs,s,?_⟩;obtain ⟨a,st',e1,q⟩:=kk.bind (Ra:=RA);refine ⟨a,st',e1,fun P1 φ1 H1 b f1 s1 r1=>?_⟩;obtain ⟨P2,φ2,st2,x,f2,s2,r2,k2⟩:=q P1 φ1 H1 b f1 s1 r1;refine ⟨P2,φ2,sl,st2,rs.frm f2,s2,?_⟩;obtain ⟨a',st3,e3,q3⟩:=k2.bind (Ra:=RA);refine ⟨a',st3,e3,fun P4 φ4 H4 b' f4 s4 r4=>?_⟩;obtain ⟨P5,φ5,st5,y,f5,s5,r5,k5⟩:=q3 P4 φ4 H4 b' f4 s4 r4;exact ⟨P5,φ5,st5,x,y,s5,r2.frm f5,r5,k5⟩
theorem Ez [FQ] (q:rE mg (a1 f k1) σ H Q):CC (r1 mg k1) (rE mg f) σ H Q:=by
 obtain ⟨P,φ,sl,st,rs,s,kk⟩:=q;refine ⟨P,φ,sl,st,rs,s,?_⟩;obtain ⟨a,st',e1,q⟩:=kk.bind (Ra:=RA);refine ⟨a,st',e1,fun P1 φ1 H1 b f1 s1 r1=>?_⟩;obtain ⟨P2,φ2,st2,x,f2,s2,r2,k2⟩:=q P1 φ1 H1 b f1 s1 r1;exact ⟨P2,φ2,st2,x,s2,r2,k2⟩
end
def d8 (h:aa->AV->AV->Option AV):AV->AV->aa->Option (AV × aa):=fun x y st=>(h st x y).map fun z=>(z,st)
def wR (h:aa->AV->Option AV):AV->aa->Option (AV × aa):=fun x st=>(h st x).map fun z=>(z,st)
noncomputable def cx (a b:Int):Bool:=(Nat.ble a.natAbs.log2 62 || Nat.ble b.natAbs.log2 62) || (Nat.ble a.natAbs.log2 1000000 && Nat.ble b.natAbs.log2 1000000)
noncomputable def eP (b:Int):Bool:=!(b == 0) && Nat.ble b.natAbs.log2 8999
noncomputable def jW (a b:Int):Bool:=decide (0 <= b) && Nat.ble b.natAbs 100000 && Nat.ble a.natAbs.log2 62
noncomputable def nl (a b:Int):Int:=if 0 < b then a / b else a.fdiv b
noncomputable def nk (a b:Int):Int:=if 0 < b then a % b else a.fmod b
def i6:Operator->Int->Int->Option Int
 | .Add,a,b=>some (a + b)
 | .Sub,a,b=>some (a - b)
 | .Mult,a,b=>if cx a b=true then some (a * b) else none
 | .FloorDiv,a,b=>if eP b=true then some (nl a b) else none
 | .Mod,a,b=>if b=0 then none else some (nk a b)
 | .Pow,a,b=>if jW a b=true then some (a ^ b.toNat) else none
 | .LShift,a,b=>if jW a b=true then some (a * 2 ^ b.toNat) else none
 | .RShift,a,b=>if 0 <= b then some (a / 2 ^ b.toNat) else none
 | .BitAnd,a,b=>some (Builtin.bitAnd a b)
 | .BitOr,a,b=>some (Builtin.bitOr a b)
 | .BitXor,a,b=>some (Builtin.bitXor a b)
 | _,_,_=>none
def bn (o:Operator) (_:aa):AV->AV->Option AV
 | .int a,.int b=>(i6 o a b).map .int
 | .str a,.str b=>if (decide (o=.Add) && Nat.ble (a.length + b.length) 1000000)=true then some (.str (a++b)) else none
 | _,_=>none
theorem log2_lt {n k:Nat} (h:Nat.ble n.log2 k=true):n < 2 ^ (k + 1):=by
 by_cases h0:n=0
 ·subst h0;exact Nat.two_pow_pos _
 ·exact (Nat.log2_lt h0).mp (Nat.lt_succ_of_le (zR h))
theorem il {a:Int}{k:Nat} (h:a.natAbs < 2 ^ k):Builtin.Int.intBits a <= k:=by
 unfold Builtin.Int.intBits;split
 ·omega
 ·rename_i h0
  have:a.natAbs.log2 < k:=(Nat.log2_lt (by simpa using h0)).mpr h;omega
theorem vJ {a b:Int} (h:cx a b=true):IntMulOk a b:=by
 unfold cx at h;rcases Bool.or_eq_true_iff.mp h with h | h
 ·rcases Bool.or_eq_true_iff.mp h with h | h
  ·exact .of_left (zZ (il (log2_lt h)) dC)
  ·exact .of_right (zZ (il (log2_lt h)) dC)
 ·obtain ⟨h1,h2⟩:=Bool.and_eq_true_iff.mp h
  exact .of_bits (zZ (il (log2_lt h1)) dC) (zZ (il (log2_lt h2)) dC)
theorem wa {b:Int} (h:eP b=true):b ≠ 0/\b.natAbs.log2 < 9000:=by
 unfold eP at h;obtain ⟨h1,h2⟩:=Bool.and_eq_true_iff.mp h;exact ⟨by simpa using h1,Nat.lt_succ_of_le (zR h2)⟩
theorem Aa (a b:Int):a.fdiv b=nl a b:=by
 unfold nl;split
 ·exact Int.fdiv_eq_ediv_of_nonneg _ oM
 ·rfl
theorem zz (a b:Int):a.fmod b=nk a b:=by
 unfold nk;split
 ·exact Int.fmod_eq_emod_of_nonneg _ oM
 ·rfl
theorem mI {a b:Int} (h:jW a b=true):EC a b:=by
 unfold jW at h;simp only [zC,z6] at h;obtain ⟨⟨h1,h2⟩,h3⟩:=h;have h2:=zR h2;exact ⟨h1,by omega,zJ (log2_lt h3) dC⟩
def DO (o:Operator):R2:=fun x y H Q=>(∃ i j k,x=.int i/\y=.int j/\i6 o i j=some k/\Q (.int k) H)\/(o=.Add/\∃ i j,x=.str i/\y=.str j/\i.length + j.length <= sizeLine/\Q (.str (i++j)) H)
section
variable {X:Cx}
theorem xW (o:Operator):eY X (binaryOp o) (DO o):=by
 have hI:∀ (h:∀ i j k t u s (Q:Value->Shared->Prop) (E:Value->Shared->Prop),i6 o i j=some k->Q (.int k s.toks) { s with toks:=s.toks + 1 }->wpAny (model X.prog X.w) X.A (binaryOp o (.int i t) (.int j u)) Q E s)
   (FO:List (Addr × Obj)) (s:Shared) (σ:St) (H:Hp) (x y:V) (v u:Value) (Q:VK),Inv X FO σ H s->RelV x v->RelV y u->(∃ i j k,x=.int i/\y=.int j/\i6 o i j=some k/\Q (.int k) H) ->
   wpAny (model X.prog X.w) X.A (binaryOp o v u) (EP X FO σ Q) X.xe s:=by
  rintro h FO s σ H x y v u Q I rx ry ⟨i,j,k,e1,e2,e3,q⟩;subst e1;subst e2;obtain ⟨t,rfl⟩:=rx;obtain ⟨t',rfl⟩:=ry;exact h i j k t t' s _ _ e3 ⟨.int k,H,I.tok _,⟨_,rfl⟩,q⟩
 intro FO s σ H x y v u Q I rx ry h;rcases h with h | ⟨rfl,h⟩
 ·refine hI ?_ FO s σ H x y v u Q I rx ry h
  intro i j k t u s Q E e q;cases o <;> simp only [i6] at e
  case Add=>cases e;exact add_int q
  case Sub=>cases e;exact sub_int q
  case Mult =>
   split at e
   ·rename_i hm;cases e;exact mul_int q (vJ hm)
   ·cases e
  case FloorDiv =>
   split at e
   ·rename_i hm;cases e
    obtain ⟨h1,h2⟩:=wa hm;exact floordiv_int h1 (by rw [Aa];exact q) (.inl (PyProof.noPylong_of_log2 h2))
   ·cases e
  case Mod =>
   split at e
   ·cases e
   ·rename_i hm;cases e
    exact mod_int' hm (by rw [zz];exact q)
  case Pow =>
   split at e
   ·rename_i hm;cases e
    have c:=mI hm;exact pow_int_small c.1 c.2.1 c.2.2 q
   ·cases e
  case LShift =>
   split at e
   ·rename_i hm;cases e
    have c:=mI hm;exact lshift_int_small c.1 c.2.1 c.2.2 q
   ·cases e
  case RShift =>
   split at e
   ·rename_i hm;cases e
    exact rshift_int hm (by rw [Int.fdiv_eq_ediv_of_nonneg _ (nJ _)];exact q)
   ·cases e
  case BitAnd=>cases e;exact and_int q
  case BitOr=>cases e;exact or_int q
  case BitXor=>cases e;exact xor_int q
  all_goals cases e
 ·exact nY FO s σ H x y v u Q I rx ry h
theorem yi [FQ] (o:Operator):eY X (binaryOp o) (r2 X.gm (d8 (bn o))):=OpR_imp (xW o) fun v w H Q hq0=>by
 obtain ⟨P,φ,st,x,y,s,r1,r2,k⟩:=hq0;obtain ⟨z,e,k⟩:=k.map;cases x <;> cases y <;> simp only [bn] at e <;> first | (cases e;done) | skip
 ·rename_i a b
  simp only [RA] at r1 r2;obtain ⟨c,e1,e2⟩:=zE.mp e;subst e2;exact .inl ⟨a,b,c,r1,r2,e1,k.pure s (by simp only [RA])⟩
 ·rename_i a b
  simp only [RA] at r1 r2;split at e
  ·rename_i hc
   cases e;simp only [zC,z6] at hc;exact .inr ⟨hc.1,a,b,r1,r2,zZ (zR hc.2) dC,k.pure s (by simp only [RA])⟩
  ·cases e
theorem xx [FQ] (ha:QE X a f) (hb:QE X b g):QE X (.BinOp a o b pos) (a2 f g (d8 (bn o))) :=
 PE_imp (nX (yi o) ha hb) fun _ _ _ q=>oO q
end
end R
namespace R
open PySem PySem.Spec PyProof.Rows L2
open DD (PE_imp PT_imp PA_imp PS_imp PSs_imp OpR_imp PW_imp PG_imp pyOk reads_each any_vals obj_list obj_tup)
def dr (st:aa):AV->AV
 | .ref k=>match st[k]? with
  | some (.al t)=>t
  | _=>.ref k
 | v=>v
def cy (st:aa) (v:AV):Option (List AV):=match dr st v with
 | .fz xs=>some xs
 | .ref k=>match st[k]? with
  | some (.lst xs)=>some xs
  | _=>none
 | _=>none
def gg (st:aa) (v:AV):Option (List AV):=match dr st v with
 | .tup xs=>some xs
 | _=>none
section
variable {mg:Gm}{P:Pr}{φ:List Addr}{st:aa}{H:Hp}{v:AV}{w:V}{xs:List AV}
theorem RA.dr [FQ] (s:Sim mg P φ st H) (r:RA mg P H φ v w):RA mg P H φ (dr st v) w:=by
 cases v with
 | ref k =>
  unfold R.dr;dsimp only;split
  ·rename_i t h
   obtain ⟨a,e,c⟩:=s.at h;simp only [RA] at r;obtain ⟨a',e',rfl⟩:=r;rw [e] at e';cases e';exact c.2.lift
  ·exact r
 | _=>exact r
theorem RA.ls [FQ] (s:Sim mg P φ st H) (r:RA mg P H φ v w) (h:cy st v=some xs):∃ a vs,w=.ref a/\bx mg.K H a vs/\FS mg P H φ xs vs:=by
 have r:=r.dr s;unfold cy at h;split at h
 ·rename_i ys e
  cases h;rw [e] at r;simp only [RA] at r;obtain ⟨a,vs,e1,e2,q⟩:=r;exact ⟨a,vs,e1,e2.sq,q.lift⟩
 ·rename_i k e
  rw [e] at r;simp only [RA] at r;obtain ⟨a,e1,e2⟩:=r;split at h
  ·rename_i ys e3
   cases h;obtain ⟨a',e4,c⟩:=s.at e3;rw [e1] at e4;cases e4;obtain ⟨_,vs,q1,q2⟩:=c;exact ⟨a,vs,e2,.inl (.inl q1),q2⟩
  ·cases h
 ·cases h
theorem RA.tp [FQ] (s:Sim mg P φ st H) (r:RA mg P H φ v w) (h:gg st v=some xs):∃ a vs,w=.ref a/\H a=some (.tup vs)/\FS mg P H φ xs vs:=by
 have r:=r.dr s;unfold gg at h;split at h
 ·rename_i ys e
  cases h;rw [e] at r;simp only [RA] at r;obtain ⟨a,vs,e1,_,e2,q⟩:=r;exact ⟨a,vs,e1,e2,q⟩
 ·cases h
end
noncomputable def aT {α β:Type} (f:α->Option β):List α->Option (List β)
 | []=>some []
 | x::xs=>(f x).bind fun y=>(aT f xs).map fun ys=>y::ys
theorem bO {α β γ:Type}{f:α->Option β}{i:γ->α}{g:γ->β} (h:∀ x,f (i x)=some (g x)) (xs:List γ):aT f (xs.map i)=some (xs.map g):=by
 induction xs with
 | nil=>rfl
 | cons x xs ih=>simp only [zN,aT,h,ih,bind_some,map_some]
def a7:Nat->aa->AV->Option PyData
 | _,_,.non=>some .none
 | _,_,.bl b=>some (.bool b)
 | _,_,.int i=>some (.int i)
 | _,_,.str x=>some (.str x)
 | n + 1,st,.fz xs=>(aT (a7 n st) xs).map .list
 | n + 1,st,.tup xs=>(aT (a7 n st) xs).map .tuple
 | n + 1,st,.ref k=>match st[k]? with
  | some (.lst xs)=>(aT (a7 n st) xs).map .list
  | some (.al t)=>a7 n st t
  | _=>none
 | 0,_,_=>none
section
variable {X:Cx}{FO:List (Addr × Obj)}{σ:St}{H:Hp}{s:Shared}{P:Pr}{φ:List Addr}{st:aa}
theorem lA [FQ] {n:Nat} (ih:∀ t v p u,RA mg P H φ t v->a7 n st t=some p->RelV v u->∃ as,Reads s.heap u p as) :
  ∀ {xs:List AV}{vs:List V}{ps:List PyData}{us:List Value},FS mg P H φ xs vs->aT (a7 n st) xs=some ps->Vals vs us->∃ as,ReadsAll s.heap us ps as:=by
 intro xs
 induction xs with
 | nil =>
  intro vs ps us r e q;simp only [FS] at r;subst r;cases e;cases q;exact ⟨_,.nil⟩
 | cons x xs ihx =>
  intro vs ps us r e q;simp only [FS] at r;obtain ⟨v,ws,rfl,r1,r2⟩:=r;simp only [aT] at e;obtain ⟨p,e1,e2⟩:=zA e;obtain ⟨qs,e3,e4⟩:=zE.mp e2;subst e4;cases q with
  | cons q1 q2 =>
   obtain ⟨as,ra⟩:=ih x v p _ r1 e1 q1;obtain ⟨bs,rb⟩:=ihx r2 e3 q2;exact ⟨_,.cons ra rb⟩
theorem fD [FQ] (I:L2.Inv X FO σ H s) (sm:Sim X.gm P φ st H):∀ (n:Nat) (t:AV) (v:V) (p:PyData) (u:Value),RA X.gm P H φ t v->a7 n st t=some p->RelV v u->∃ as,Reads s.heap u p as:=by
 have lst:∀ {a:Addr}{vs:List V}{u:Value}{ps:List PyData},bx X.K H a vs->RelV (.ref a) u->(∀ {us:List Value},Vals vs us->∃ as,ReadsAll s.heap us ps as)->∃ as,Reads s.heap u (.list ps) as:=by
  intro a vs u ps h ru k;cases ru;obtain ⟨FR,ob,m,rv,e1,e2,e3⟩:=obj_list I h;obtain ⟨as,ra⟩:=k rv;exact ⟨_,.list e1 e2 e3 ra⟩
 have cV:∀ (n:Nat) (t:AV) (v:V) (p:PyData) (u:Value) (w:V),ja t=some w->RA X.gm P H φ t v->a7 n st t=some p->RelV v u->∃ as,Reads s.heap u p as:=by
  intro n t v p u w hs r e ru;cases t with
  | non=>cases n <;> (simp only [a7] at e;cases e;simp only [RA] at r;subst r;cases ru;exact ⟨_,.none⟩)
  | bl b=>cases n <;> (simp only [a7] at e;cases e;simp only [RA] at r;subst r;cases ru;exact ⟨_,.bool b⟩)
  | int i=>cases n <;> (simp only [a7] at e;cases e;simp only [RA] at r;subst r;obtain ⟨t,rfl⟩:=ru;exact ⟨_,.int i t⟩)
  | str x=>cases n <;> (simp only [a7] at e;cases e;simp only [RA] at r;subst r;obtain ⟨t,rfl⟩:=ru;exact ⟨_,.str x t⟩)
  | _=>cases hs
 intro n
 induction n with
 | zero =>
  intro t v p u r e ru;cases t with
  | non=>exact cV 0 _ v p u _ rfl r e ru
  | bl b=>exact cV 0 _ v p u _ rfl r e ru
  | int i=>exact cV 0 _ v p u _ rfl r e ru
  | str x=>exact cV 0 _ v p u _ rfl r e ru
  | _=>simp only [a7] at e;cases e
 | succ n ih =>
  intro t v p u r e ru;cases t with
  | non=>exact cV _ _ v p u _ rfl r e ru
  | bl b=>exact cV _ _ v p u _ rfl r e ru
  | int i=>exact cV _ _ v p u _ rfl r e ru
  | str x=>exact cV _ _ v p u _ rfl r e ru
  | fz xs =>
   simp only [a7] at e;obtain ⟨ps,e1,e2⟩:=zE.mp e;subst e2;simp only [RA] at r;obtain ⟨a,vs,rfl,h,q⟩:=r;exact lst h.sq ru fun rv=>lA ih q.lift e1 rv
  | tup xs =>
   simp only [a7] at e;obtain ⟨ps,e1,e2⟩:=zE.mp e;subst e2;simp only [RA] at r;obtain ⟨a,vs,rfl,_,h,q⟩:=r;cases ru;obtain ⟨FR,ob,m,rv,h1,h2,h3⟩:=obj_tup I (show dh X.K H a vs from .inl (.inl h));obtain ⟨as,ra⟩:=lA ih q e1 rv;exact ⟨_,.tuple h1 h2 h3 ra⟩
  | ref k =>
   simp only [a7] at e;simp only [RA] at r;obtain ⟨a,ea,rfl⟩:=r;split at e
   ·rename_i xs hk
    obtain ⟨ps,e1,e2⟩:=zE.mp e;subst e2;obtain ⟨a',ea',c⟩:=sm.at hk;rw [ea] at ea';cases ea';obtain ⟨_,vs,h,q⟩:=c;exact lst (.inl (.inl h)) ru fun rv=>lA ih q e1 rv
   ·rename_i t hk
    obtain ⟨a',ea',c⟩:=sm.at hk;rw [ea] at ea';cases ea';exact ih t _ p u c.2.lift e ru
   ·cases e
end
def gN (st:aa) (x y:AV):Option Bool:=(a7 9 st x).bind fun p=>(a7 9 st y).bind fun q=>if pyOk p q=true then some (PyData.eqv p q) else none
def iY:AV->Option aZ
 | .int i=>some (.inl i)
 | .str x=>some (.inr x)
 | _=>none
noncomputable def jQ {κ:Type} [DecidableEq κ] (FP:List (κ × AV)) (k:κ):Option AV:=(FP.find? fun kv=>decide (kv.1=k)).map (·.2)
def fJ (st:aa):AV->Option (List (aZ × AV))
 | .ref k=>match st[k]? with
  | some (.dK FP)=>some FP
  | _=>none
 | _=>none
def iI (st:aa):AV->Option (List (List aZ × AV))
 | .ref k=>match st[k]? with
  | some (.dT FP)=>some FP
  | _=>none
 | _=>none
def j3 (st:aa) (y x:AV):Option (Option AV):=match fJ st y with
 | some FP=>(iY x).map fun k=>jQ FP k
 | none=>match iI st y with
  | some FP=>match x with
   | .tup xs=>(aT iY xs).map fun k=>jQ FP k
   | _=>none
  | none=>none
def jv (st:aa) (x y:AV):Option Bool:=match j3 st y x with
 | some o=>some o.isSome
 | none=>match x,y with
  | .str a,.str b=>some (!(Builtin.Str.occurrences b a 0 b.length 1).isEmpty)
  | _,_=>(a7 9 st x).bind fun q=>(a7 9 st y).bind fun p=>match p with
   | .list ps=>if (ps.all fun r=>pyOk r q)=true then some (ps.any fun r=>PyData.eqv r q) else none
   | .tuple ps=>if (ps.all fun r=>pyOk r q)=true then some (ps.any fun r=>PyData.eqv r q) else none
   | _=>none
noncomputable def sn:CmpOp->Int->Int->Option Bool
 | .Lt,a,b=>some (decide (a < b))
 | .LtE,a,b=>some (decide (a <= b))
 | .Gt,a,b=>some (decide (b < a))
 | .GtE,a,b=>some (decide (b <= a))
 | _,_,_=>none
noncomputable def yk:AV->Bool
 | .non=>true
 | _=>false
def zg (x y:AV):Option Bool:=match y with
 | .non=>some (yk x)
 | .bl b=>(match x with
  | .bl a=>some (a == b)
  | _=>none)
 | _=>none
noncomputable def yT:CmpOp->List AV->List AV->Option Bool
 | .Lt,[.int a,.int b],[.int c,.int d]=>some (if a=c then decide (b < d) else decide (a < c))
 | _,_,_=>none
def bj (o:CmpOp) (st:aa) (x y:AV):Option Bool:=match o with
 | .Eq=>gN st x y
 | .NotEq=>(gN st x y).map (!·)
 | .Is=>zg x y
 | .IsNot=>(zg x y).map (!·)
 | .In=>jv st x y
 | .NotIn=>(jv st x y).map (!·)
 | o=>match x,y with
  | .int a,.int b=>sn o a b
  | .tup xs,.tup ys=>yT o xs ys
  | _,_=>none
def eR (o:CmpOp) (st:aa) (x y:AV):Option AV:=(bj o st x y).map .bl
theorem mG (h:pyOk p q=true):p.canLay0=true/\q.canLay0=true/\min p.depth q.depth <= 50:=by
 simp only [pyOk,zC,z6] at h;exact ⟨h.1.1,h.1.2,h.2⟩
theorem fP {P:Pr}{H:Hp}{φ:List Addr}{κ:Type} [DecidableEq κ] {FP:List (κ × AV)}{ws:List (κ × V)} (h:KVR mg P H φ FP ws) (k:κ) :
  (jQ FP k).isSome=(cQ ws k).isSome/\∀ v,jQ FP k=some v->∃ w,cQ ws k=some w/\RA mg P H φ v w:=by
 induction FP generalizing ws with
 | nil =>
  have:ws=[]:=by simpa using h.1.symm
  subst this;exact ⟨rfl,fun v e=>by cases e⟩
 | cons p FP ih =>
  cases ws with
  | nil=>exact absurd h.1 (by simp)
  | cons q ws =>
   obtain ⟨h1,h2⟩:=h;rw [zN,zN] at h1 h2;injection h1 with h3 h4;simp only [FS] at h2;obtain ⟨v,vs,h5,h6,h7⟩:=h2;injection h5 with h8 h9;subst h8;subst h9;by_cases e:q.1=k
   ·have e':p.1=k:=h3.trans e
    simp only [jQ,cQ,List.find?_cons,e,e',decide_true,map_some];refine ⟨rfl,fun v hv=>?_⟩;cases hv;exact ⟨_,rfl,h6⟩
   ·have e':¬ p.1=k:=fun z=>e (h3.symm.trans z)
    have:=ih (ws:=ws) ⟨h4,h7⟩
    simp only [jQ,cQ,List.find?_cons,e,e',decide_false] at this ⊢;exact this
section
variable {X:Cx}{FO:List (Addr × Obj)}{σ:St}{H:Hp}{s:Shared}{P:Pr}{φ:List Addr}{st:aa}
theorem iX (h:iY x=some k) (r:RA mg P H φ x v):v=kV k:=by
 cases x <;> simp only [iY] at h <;> first | (cases h;done) | skip
 ·cases h;simp only [RA] at r;exact r
 ·cases h;simp only [RA] at r;exact r
theorem ku [FQ]:∀ {xs:List AV}{vs:List V}{k:List aZ},aT iY xs=some k->FS mg P H φ xs vs->vs=k.map kV:=by
 intro xs
 induction xs with
 | nil=>intro vs k e r;cases e;simp only [FS] at r;exact r
 | cons x xs ih =>
  intro vs k e r;simp only [aT] at e;obtain ⟨p,e1,e2⟩:=zA e;obtain ⟨qs,e3,e4⟩:=zE.mp e2;subst e4;simp only [FS] at r;obtain ⟨v,ws,rfl,r1,r2⟩:=r;rw [iX e1 r1,ih e3 r2];rfl
theorem l4 [FQ] (sm:Sim X.gm P φ st H) {x y:AV}{v w:V}{o:Option AV} (h:j3 st y x=some o) (rx:RA X.gm P H φ x v) (ry:RA X.gm P H φ y w) :
  ∃ a o',w=.ref a/\DGet H a v o'/\o.isSome=o'.isSome/\∀ t,o=some t->∃ u,o'=some u/\RA X.gm P H φ t u:=by
 unfold j3 at h;split at h
 ·rename_i FP e
  obtain ⟨k,e1,e2⟩:=zE.mp h;subst e2;cases y <;> simp only [fJ] at e <;> first | (cases e;done) | skip
  split at e
  ·rename_i j kvs' e3
   cases e;simp only [RA] at ry;obtain ⟨a,ea,rfl⟩:=ry;obtain ⟨a',ea',c⟩:=sm.at e3;rw [ea] at ea';cases ea';obtain ⟨_,ws,q1,q2⟩:=c
   have:=iX e1 rx
   subst this;exact ⟨a,_,rfl,DGet.k q1,(fP q2 k).1,(fP q2 k).2⟩
  ·cases e
 ·split at h
  ·rename_i FP e
   split at h
   ·rename_i xs
    obtain ⟨k,e1,e2⟩:=zE.mp h;subst e2;cases y <;> simp only [iI] at e <;> first | (cases e;done) | skip
    split at e
    ·rename_i j kvs' e3
     cases e;simp only [RA] at ry;obtain ⟨a,ea,rfl⟩:=ry;obtain ⟨a',ea',c⟩:=sm.at e3;rw [ea] at ea';cases ea';obtain ⟨_,ws,q1,q2⟩:=c;simp only [RA] at rx;obtain ⟨b,vs,rfl,_,hb,rr⟩:=rx;rw [ku e1 rr] at hb;exact ⟨a,_,rfl,DGet.t q1 hb,(fP q2 k).1,(fP q2 k).2⟩
    ·cases e
   ·cases h
  ·cases h
theorem l3 (hu:X.A.units + 64 < cLine) {v:Value}{q:PyData}{as bs:List Addr}{ps:List PyData}{items:Array Value} (ra:Reads s.heap v q as) (rb:ReadsAll s.heap items.toList ps bs) (hk:(ps.all fun r=>pyOk r q)=true) :
  ∃ e:Value->Bool,(∀ z ∈ items,SeqAt.EqAt X.A.in1 s z v (e z))/\items.any e=ps.any fun r=>PyData.eqv r q:=by
 classical
 have uq:∀ z p' az,Reads s.heap z p' az->decide (∃ p as,Reads s.heap z p as/\PyData.eqv p q=true)=PyData.eqv p' q:=by
  intro z p' az rz;rcases he:PyData.eqv p' q with _ | _
  ·refine z4 ?_
   rintro ⟨p2,as',r',e'⟩
   have:=(PySem.Reads.unique rz p2 as' r').1
   rw [<- this,he] at e';cases e'
  ·exact yO ⟨p',az,rz,he⟩
 refine ⟨fun z=>decide (∃ p as,Reads s.heap z p as/\PyData.eqv p q=true),fun z hz=>?_,?_⟩
 ·obtain ⟨pz,az,hpz,rz⟩:=reads_each rb z (by simpa using hz)
  obtain ⟨k1,k2,k3⟩:=mG (yK.mp hk pz hpz);dsimp only;rw [uq z pz az rz];exact PySem.SeqAt.eqAt_reads pz q _ s z v az as rz ra k1 k2 (by simp only [Around.in1_units];omega)
 ·have hc:=any_vals (q:=q) (e:=fun z=>decide (∃ p as,Reads s.heap z p as/\PyData.eqv p q=true)) (h:=s.heap) (fun v p as rv=>uq v p as rv) rb
  rw [<- hc];simp
theorem m8 [FQ] (hu:X.A.units + 64 < cLine) (I:L2.Inv X FO σ H s) (sm:Sim X.gm P φ st H) {x y:AV}{v w:V}{u r:Value}{b:Bool} (h:jv st x y=some b) (rx:RA X.gm P H φ x v) (ry:RA X.gm P H φ y w) (ru:RelV v u) (rr:RelV w r) {E:Value->Shared->Prop}
  {Q:Value->Shared->Prop}{Q':Value->Shared->Prop} (hQ:∀ s',L2.Inv X FO σ H s'->Q (.bool b) s') (hQ':∀ s',L2.Inv X FO σ H s'->Q' (.bool (!b)) s') :
  wpAny (model X.prog X.w) X.A (compareOp .In u r) Q E s/\wpAny (model X.prog X.w) X.A (compareOp .NotIn u r) Q' E s:=by
 unfold jv at h;split at h
 ·rename_i o e
  cases h;obtain ⟨a,o',rfl,g,eo,_⟩:=l4 sm e rx ry;cases rr;exact ⟨Eo oM I g ru fun s' I'=>by rw [<- eo];exact hQ s' I',wb oM I g ru fun s' I'=>by rw [<- eo];exact hQ' s' I'⟩
 ·split at h
  ·rename_i a c
   cases h;simp only [RA] at rx ry;subst rx;subst ry;obtain ⟨t,rfl⟩:=ru;obtain ⟨t',rfl⟩:=rr;exact ⟨in_str (hQ s I),notIn_str (hQ' s I)⟩
  ·obtain ⟨q,e1,e2⟩:=zA h
   obtain ⟨p,e3,e4⟩:=zA e2;obtain ⟨as,ra⟩:=fD I sm 9 _ _ _ _ rx e1 ru;obtain ⟨bs,rb⟩:=fD I sm 9 _ _ _ _ ry e3 rr;split at e4
   ·rename_i ps
    split at e4
    ·rename_i hk
     cases e4;cases rb with
     | @list a o items n xs as' hg hc hdt rall =>
      obtain ⟨e,he,ee⟩:=l3 hu ra rall hk;have hl:s.heap.IsList a items:=⟨o,hg,hc,n,hdt⟩;exact ⟨SeqAt.in_listAt e hl he (by rw [ee];exact hQ s I),SeqAt.notIn_listAt e hl he (by rw [ee];exact hQ' s I)⟩
    ·cases e4
   ·rename_i ps
    split at e4
    ·rename_i hk
     cases e4;cases rb with
     | @tuple a o items n xs as' hg hc hdt rall =>
      obtain ⟨e,he,ee⟩:=l3 hu ra rall hk;have hl:IsTup s.heap a items:=⟨o,hg,hc,n,hdt⟩;exact ⟨SeqAt.in_tupleAt e hl he (by rw [ee];exact hQ s I),SeqAt.notIn_tupleAt e hl he (by rw [ee];exact hQ' s I)⟩
    ·cases e4
   ·cases e4
end
end R
namespace PySem.W
open PySem.Calls PyProof.Rows PySem.Spec
theorem uD (x y:Addr) (a b c d:Int) (t1 t2 t3 t4:Tok) (hp0:Heap) (h1:IsTup hp0 x #[.int a t1,.int b t2]) (h2:IsTup hp0 y #[.int c t3,.int d t4]) :
  Meets (Builtin.«tuple.__lt__» ⟨[.ref x,.ref y],[]⟩)
   (fun _ R s=>s.heap=hp0/\R (.ok (.ret (.bool (if a=c then decide (b < d) else decide (a < c))))) s):=by
 intro prog w A R s h;obtain ⟨hp,g,dd,tk,os⟩:=s;obtain ⟨rfl,h⟩:=h;have f3:=PySem.AutoSeq1.sub_tuple_tuple;obtain ⟨o2,g2,c2,n2,d2⟩:=id h2;show wpAny _ _ _ _ _ _
 wp_walk using PySem.AutoSeq1.wpAny_loadPart' g2
 rw [c2,f3];refine yC ?_;show wpAny (model prog w) A.in1 (Builtin.Tuple.tupleItemsOf (.ref x) >>= _) _ _ _;refine yB (tupleItemsOf_ h1 ?_);refine yB (tupleItemsOf_ h2 ?_);dsimp only [List.zip_cons_cons,List.zip_nil_right];refine yB ?_;rw [List.forIn_cons];refine yB ?_;show wpAny (model prog w) A.in1 (eqBool (.int a t1) (.int c t3) >>= _) _ _ _;refine yB (wpAny_eqBool_int ?_);by_cases e:a=c
 ·rw [yE e] at h
  rw [show (a == c)=true by simp [e]];refine yC ?_;dsimp only;rw [List.forIn_cons];refine yB ?_;show wpAny (model prog w) A.in1 (eqBool (.int b t2) (.int d t4) >>= _) _ _ _;refine yB (wpAny_eqBool_int ?_);by_cases e2:b=d
  ·rw [show (b == d)=true by simp [e2]]
   refine yC ?_;dsimp only;rw [List.zip_nil_right,List.forIn_nil];refine yC ?_;rw [z4 oM] at h
   wp_walk
   exact h
  ·rw [show (b == d)=false by simpa using e2]
   wp_walk using HT.rcLt_int A.in1 ⟨hp,g,dd,tk,os⟩ b t2 d t4 prog w
   exact h
 ·rw [yD e] at h
  rw [show (a == c)=false by simpa using e]
  wp_walk using HT.rcLt_int A.in1 ⟨hp,g,dd,tk,os⟩ a t1 c t3 prog w
  exact h
end PySem.W
namespace R
open PySem PySem.Spec PyProof.Rows L2 PySem.W
theorem vM {prog:Program}{w:World}{A:Around}{Q:Value->Shared->Prop}{E:Value->Shared->Prop}{s:Shared}{x y:Addr}{a b c d:Int}{t1 t2 t3 t4:Tok} (hu:A.units < cLine) (h1:IsTup s.heap x #[.int a t1,.int b t2]) (h2:IsTup s.heap y #[.int c t3,.int d t4])
  (h:Q (.bool (if a=c then decide (b < d) else decide (a < c))) s):wpAny (model prog w) A (compareOp .Lt (.ref x) (.ref y)) Q E s:=by
 obtain ⟨o1,g1,c1,_⟩:=id h1;obtain ⟨o2,g2,c2,_⟩:=id h2;exact cmp_ofLt (richCompare_meets_room (op:=.Lt) (T:="tuple") ⟨o1,g1,c1⟩ ⟨o2,g2,c2⟩ PySem.F.slot_tuple_lt PySem.F.entry_tuple_lt (PySem.F.args_tuple_lt_2 _ _) (uD x y a b c d t1 t2 t3 t4 s.heap h1 h2) ⟨rfl,(fun e=>nomatch e),h⟩ hu)
end R
namespace R
open PySem PySem.Spec PyProof.Rows L2
open DD (PE_imp PT_imp PA_imp PS_imp PSs_imp OpR_imp PW_imp PG_imp pyOk)
section
variable {X:Cx}
theorem fE [FQ] (hu:X.A.units + 64 < cLine) (o:CmpOp):eY X (compareOp o) (r2 X.gm (d8 (eR o))):=by
 rintro FO s σ H v w u r Q I ru rr ⟨P,φ,st,x,y,sm,rx,ry,k⟩;obtain ⟨z,e,k⟩:=k.map;obtain ⟨b,e1,e2⟩:=zE.mp e;subst e2;have aA:∀ s',L2.Inv X FO σ H s'->EP X FO σ Q (.bool b) s':=fun s' I'=>⟨.bl b,H,I',rfl,k.pure sm (by simp only [RA])⟩
 have neg:∀ {o:Option Bool},o.map (!·)=some b->∃ c,o=some c/\b=!c:=fun h=>by
  obtain ⟨c,h1,h2⟩:=zE.mp h;exact ⟨c,h1,h2.symm⟩
 have eq:∀ {c:Bool},gN st x y=some c->∀ {Q:Value->Shared->Prop}{E:Value->Shared->Prop},(Q (.bool c) s->wpAny (model X.prog X.w) X.A (compareOp .Eq u r) Q E s)/\(Q (.bool (!c)) s->wpAny (model X.prog X.w) X.A (compareOp .NotEq u r) Q E s):=by
  intro c h Q E;unfold gN at h;obtain ⟨p,h1,h2⟩:=zA h;obtain ⟨q,h3,h4⟩:=zA h2;split at h4
  ·rename_i hk
   cases h4;obtain ⟨c1,c2,hd⟩:=mG hk;obtain ⟨as,ra⟩:=fD I sm 9 _ _ _ _ rx h1 ru;obtain ⟨bs,rb⟩:=fD I sm 9 _ _ _ _ ry h3 rr;exact ⟨fun q=>SeqAt.eqOverData _ _ _ _ _ _ _ _ _ _ _ _ ra rb c1 c2 oM q,fun q=>SeqAt.neOverData _ _ _ _ _ _ _ _ _ _ _ _ ra rb c1 c2 oM q⟩
  ·cases h4
 have is:∀ {c:Bool},zg x y=some c->∀ {Q:Value->Shared->Prop}{E:Value->Shared->Prop},(Q (.bool c) s->wpAny (model X.prog X.w) X.A (compareOp .Is u r) Q E s)/\(Q (.bool (!c)) s->wpAny (model X.prog X.w) X.A (compareOp .IsNot u r) Q E s):=by
  intro c h Q E;have nn:y=.non->c=(u == Value.none)->(Q (.bool c) s->wpAny (model X.prog X.w) X.A (compareOp .Is u r) Q E s)/\(Q (.bool (!c)) s->wpAny (model X.prog X.w) X.A (compareOp .IsNot u r) Q E s):=fun hy hc=>by
   subst hy;simp only [RA] at ry;subst ry;cases rr;exact ⟨fun q=>is_none_gen (by rw [<- hc];exact q),fun q=>isnot_none_gen (by rw [<- hc];exact q)⟩
  cases y with
  | non =>
   have h:some (yk x)=some c:=h;cases h;refine nn rfl ?_;cases x with
   | non=>simp only [RA] at rx;subst rx;cases ru;rfl
   | _=>rw [RelV.none_iff ru];refine (z4 fun hv=>?_).symm;subst hv;simp only [RA] at rx;first | (cases rx;done) | (obtain ⟨_,_,z,_⟩:=rx;cases z;done) | (obtain ⟨_,_,z⟩:=rx;cases z;done)
  | bl d=>cases x with
   | bl a =>
    cases h;simp only [RA] at rx ry;subst rx;subst ry;cases ru;cases rr;cases a <;> cases d <;> exact ⟨fun q=>yC q,fun q=>yC q⟩
   | _=>exact nomatch h
  | _=>exact nomatch h
 have ord:∀ {a c:Int},x=.int a->y=.int c->sn o a c=some b->wpAny (model X.prog X.w) X.A (compareOp o u r) (EP X FO σ Q) X.xe s:=by
  intro a c hx hy ho;subst hx;subst hy;simp only [RA] at rx ry;subst rx;subst ry;obtain ⟨t,rfl⟩:=ru;obtain ⟨t',rfl⟩:=rr;cases o <;> simp only [sn] at ho <;> first | (cases ho;done) | skip
  ·cases ho;exact lt_int (aA s I)
  ·cases ho;exact le_int (aA s I)
  ·cases ho;exact gt_int (aA s I)
  ·cases ho;exact ge_int (aA s I)
 have tl:∀ {as cs:List AV},x=.tup as->y=.tup cs->yT o as cs=some b->wpAny (model X.prog X.w) X.A (compareOp o u r) (EP X FO σ Q) X.xe s:=by
  intro as cs hx hy ho;unfold yT at ho;split at ho
  ·cases ho
   subst hx;subst hy;obtain ⟨_,ra⟩:=fD I sm 9 _ _ _ _ rx rfl ru;obtain ⟨_,rb⟩:=fD I sm 9 _ _ _ _ ry rfl rr;cases ra with
   | @tuple a1 o1 i1 n1 x1 as1 g1 c1 d1 q1 =>
   cases rb with
   | @tuple a2 o2 i2 n2 x2 as2 g2 c2 d2 q2 =>
   obtain ⟨l1⟩:=i1;obtain ⟨l2⟩:=i2;rcases q1 with _ | ⟨p1,_ | ⟨p2,_ | _⟩⟩;rcases q2 with _ | ⟨p3,_ | ⟨p4,_ | _⟩⟩;cases p1;cases p2;cases p3;cases p4;exact vM oM ⟨o1,g1,c1,n1,d1⟩ ⟨o2,g2,c2,n2,d2⟩ (aA s I)
  ·cases ho
 cases o <;> simp only [bj] at e1
 case Eq=>exact (eq e1).1 (aA s I)
 case NotEq=>obtain ⟨c,h1,rfl⟩:=neg e1;exact (eq h1).2 (aA s I)
 case Is=>exact (is e1).1 (aA s I)
 case IsNot=>obtain ⟨c,h1,rfl⟩:=neg e1;exact (is h1).2 (aA s I)
 case In=>exact (m8 hu I sm e1 rx ry ru rr (Q':=fun _ _=>True) aA fun _ _=>trivial).1
 case NotIn=>obtain ⟨c,h1,rfl⟩:=neg e1;exact (m8 hu I sm h1 rx ry ru rr (Q:=fun _ _=>True) (fun _ _=>trivial) aA).2
 all_goals
  split at e1
  ·exact ord rfl rfl e1
  ·exact tl rfl rfl e1
  ·cases e1
noncomputable def hE (op:CmpOp) (b:Expr):Bool:=!(behindInMarks op b)
theorem lO (h:hE op b=true):behindInMarks op b=false:=by simpa [hE] using h
theorem xw [FQ] (hu:X.A.units + 64 < cLine) (ha:QE X a f) (hb:QE X b g) (hm:hE o b=true):QE X (.Compare a [o] [b] pos) (a2 f g (d8 (eR o))) :=
 PE_imp (vq (fE hu o) ha hb (lO hm)) fun _ _ _ q=>oO q
def wL (f g:EF) (o:CmpOp):TF:=fun sl st=>(f sl st).bind fun p=>(g sl p.2).bind fun q=>(bj o q.2 p.1 q.1).map fun b=>(b,q.2)
theorem xb [FQ] (hu:X.A.units + 64 < cLine) (ha:QE X a f) (hb:QE X b g) (hm:hE o b=true):QT X (.Compare a [o] [b] pos) (wL f g o) :=
 PT_imp (u4 (fE hu o) ha hb (lO hm)) fun σ H Q hq0=>by
  obtain ⟨P,φ,sl,st,rs,s,k⟩:=hq0;refine oO (k:=d8 (eR o)) ⟨P,φ,sl,st,rs,s,?_⟩;obtain ⟨b,st',e,q⟩:=k;unfold wL at e;obtain ⟨p,e1,e2⟩:=zA e;obtain ⟨r,e3,e4⟩:=zA e2;obtain ⟨c,e5,e6⟩:=zE.mp e4;injection e6 with e7 e8;subst e7;subst e8;refine ⟨.bl c,r.2,by simp only [a2,e1,bind_some,e3,d8,eR,e5,map_some],fun P' φ' H' w f' s' r'=>?_⟩;simp only [RA] at r';exact ⟨c,r',q P' φ' H' c f' s' rfl⟩
def iq (o:UnaryOp) (_:aa):AV->Option AV
 | .int i=>match o with
  | .USub=>some (.int (-i))
  | .Invert=>some (.int (Builtin.bitNot i))
  | _=>none
 | _=>none
theorem Bj [FQ] (ha:QE X a f):QE X (.UnaryOp o a pos) (a1 f (wR (iq o))):=by
 have h:qI X (unaryOp o) (r1 X.gm (wR (iq o))):=by
  rintro FO s σ H v u Q I ru ⟨P,φ,st,x,sm,rx,k⟩;obtain ⟨z,e,k⟩:=k.map;cases x <;> simp only [iq] at e <;> first | (cases e;done) | skip
  rename_i i;simp only [RA] at rx;subst rx;cases o <;> first | (cases e;done) | skip
  ·cases e
   exact wz FO s σ H _ u Q I ru ⟨i,rfl,k.pure sm (by simp only [RA])⟩
  ·cases e
   exact wy FO s σ H _ u Q I ru ⟨i,rfl,k.pure sm (by simp only [RA])⟩
 exact PE_imp (By h ha) fun _ _ _ q=>Ez q
def lu (st:aa) (v:AV):Option Bool:=match cy st v with
 | some xs=>some !xs.isEmpty
 | none=>match v with
  | .non=>some false
  | .bl b=>some b
  | .int i=>some (i != 0)
  | .str x=>if Nat.ble x.length 1000000=true then some ((x.length:Int) != 0) else none
  | .tup xs=>some !xs.isEmpty
  | v=>(fJ st v).map fun FP=>!FP.isEmpty
theorem kA (r:FS mg P H φ xs vs):vs.isEmpty=xs.isEmpty:=by
 cases xs with
 | nil=>simp only [FS] at r;subst r;rfl
 | cons x xs=>simp only [FS] at r;obtain ⟨v,ws,rfl,_⟩:=r;rfl
theorem qW [FQ] {P:Pr}{H:Hp}{φ:List Addr}{st:aa} (sm:Sim X.gm P φ st H) {v:AV}{w:V}{b:Bool} (h:lu st v=some b) (r:RA X.gm P H φ v w):tx X.K w H b:=by
 unfold lu at h;split at h
 ·rename_i xs e
  cases h;obtain ⟨a,vs,rfl,rd,q⟩:=r.ls sm e;exact .inl ⟨vs,rd,by rw [kA q]⟩
 ·cases v <;> simp only at h
  case non=>cases h;simp only [RA] at r;subst r;exact rfl
  case bl=>cases h;simp only [RA] at r;subst r;exact rfl
  case int=>cases h;simp only [RA] at r;subst r;exact rfl
  case str x =>
   simp only [RA] at r;subst r;split at h
   ·rename_i hl;cases h;exact ⟨zZ (zR hl) dC,rfl⟩
   ·cases h
  case tup xs =>
   cases h;simp only [RA] at r;obtain ⟨a,vs,rfl,_,e,q⟩:=r;exact .inr (.inl ⟨vs,.inl (.inl e),by rw [kA q]⟩)
  case fz=>obtain ⟨_,z,_⟩:=zE.mp h;simp [fJ] at z
  case ref k =>
   obtain ⟨FP,e1,e2⟩:=zE.mp h;subst e2;simp only [fJ] at e1;split at e1
   ·rename_i kvs' hk
    cases e1;simp only [RA] at r;obtain ⟨a,ea,rfl⟩:=r;obtain ⟨a',ea',c⟩:=sm.at hk;rw [ea] at ea';cases ea';obtain ⟨_,ws,q1,q2,q3⟩:=c;refine .inr (.inr ⟨ws,q1,?_⟩)
    have:=congrArg List.isEmpty q2
    simpa using this
   ·cases e1
def tV (f:EF):TF:=fun sl st=>(f sl st).bind fun p=>(lu p.2 p.1).map fun b=>(b,p.2)
theorem w6 [FQ] (ha:QE X a f) (he:∀ whole,isTrue a X.env whole=(do let v <- whole;standAt a.pos;holding [v] (truthy v))):QT X a (tV f) :=
 PT_imp (rL ha he) fun σ H Q ⟨P,φ,sl,st,rs,s,k⟩=>⟨P,φ,sl,st,rs,s,by
  obtain ⟨a,st',e1,q⟩:=k.bind (Ra:=RA);refine ⟨a,st',e1,fun P1 φ1 H1 b f1 s1 r1=>?_⟩;obtain ⟨P2,φ2,st2,x,f2,s2,r2,k2⟩:=q P1 φ1 H1 b f1 s1 r1;obtain ⟨c,e2,k2⟩:=k2.map;exact ⟨c,qW s2 e2 r2,k2.pure s2 rfl⟩⟩
def CI (f g:TF):TF:=fun sl st=>(f sl st).bind fun p=>if p.1=true then g sl p.2 else some (false,p.2)
def wH (f g:TF):TF:=fun sl st=>(f sl st).bind fun p=>if p.1=true then some (true,p.2) else g sl p.2
def CG (f:TF):TF:=fun sl st=>(f sl st).bind fun p=>some (!p.1,p.2)
section
variable {a b:Expr}{rest:List Expr}{pos:Pos}{f g:TF}
theorem jd [FQ] (op:BoolOp) (ha:QT X a f):QW X (.BoolOp op [a] pos) f:=by
 cases op
 ·exact u0 ha
 ·exact xy ha
theorem je [FQ] (ha:QT X a f) (hb:QW X (.BoolOp .And (b::rest) pos) g):QW X (.BoolOp .And (a::b::rest) pos) (CI f g) :=
 PW_imp (xz ha hb) fun σ H Q ⟨P,φ,sl,st,rs,s,k⟩=>⟨P,φ,sl,st,rs,s,by
  obtain ⟨a,st',e1,q⟩:=k.bind (Ra:=RB);refine ⟨a,st',e1,fun P1 φ1 H1 c f1 s1 r1=>?_⟩;obtain ⟨P2,φ2,st2,x,f2,s2,r2,k2⟩:=q P1 φ1 H1 c f1 s1 r1;cases r2;cases c with
  | true=>exact ⟨P2,φ2,sl,st2,rs.frm f2,s2,k2⟩
  | false=>exact k2.pure s2 rfl⟩
theorem kY [FQ] (ha:QT X a f) (hb:QW X (.BoolOp .Or (b::rest) pos) g):QW X (.BoolOp .Or (a::b::rest) pos) (wH f g) :=
 PW_imp (Br ha hb) fun σ H Q ⟨P,φ,sl,st,rs,s,k⟩=>⟨P,φ,sl,st,rs,s,by
  obtain ⟨a,st',e1,q⟩:=k.bind (Ra:=RB);refine ⟨a,st',e1,fun P1 φ1 H1 c f1 s1 r1=>?_⟩;obtain ⟨P2,φ2,st2,x,f2,s2,r2,k2⟩:=q P1 φ1 H1 c f1 s1 r1;cases r2;cases c with
  | false=>exact ⟨P2,φ2,sl,st2,rs.frm f2,s2,k2⟩
  | true=>exact k2.pure s2 rfl⟩
theorem xa [FQ] (ha:QT X a f):QT X (.UnaryOp .Not a pos) (CG f) :=
 PT_imp (xA ha) fun σ H Q ⟨P,φ,sl,st,rs,s,k⟩=>⟨P,φ,sl,st,rs,s,by
  obtain ⟨a,st',e1,q⟩:=k.bind (Ra:=RB);refine ⟨a,st',e1,fun P1 φ1 H1 c f1 s1 r1=>?_⟩;obtain ⟨P2,φ2,st2,x,f2,s2,r2,k2⟩:=q P1 φ1 H1 c f1 s1 r1;cases r2;exact k2.pure s2 rfl⟩
end
def ut (f g:EF):EF:=fun sl st=>(f sl st).bind fun p=>match p.1 with
 | .bl true=>g sl p.2
 | .bl false=>some (.bl false,p.2)
 | _=>none
def Dd (f g:EF):EF:=fun sl st=>(f sl st).bind fun p=>match p.1 with
 | .bl false=>g sl p.2
 | .bl true=>some (.bl true,p.2)
 | _=>none
def uo (f:EF):EF:=fun sl st=>(f sl st).bind fun p=>match p.1 with
 | .bl b=>some (.bl !b,p.2)
 | _=>none
def Df (t:TF) (f g:EF):EF:=fun sl st=>(t sl st).bind fun p=>if p.1=true then f sl p.2 else g sl p.2
section
variable {a b c:Expr}{rest:List Expr}{pos:Pos}{f g:EF}{t:TF}
theorem KG.no [FQ] {α β:Type}{Ra:Gm->Pr->Hp->List Addr->α->β->Prop}{Q:β->Hp->Prop} (h:KG mg Ra P φ H none Q):False:=by obtain ⟨_,_,e,_⟩:=h;cases e
theorem px [FQ] (ha:QE X a f) (hb:QE X (.BoolOp .And (b::rest) pos) g):QE X (.BoolOp .And (a::b::rest) pos) (ut f g) :=
 PE_imp (xT ha hb) fun σ H Q ⟨P,φ,sl,st,rs,s,k⟩=>⟨P,φ,sl,st,rs,s,by
  obtain ⟨a,st',e1,q⟩:=k.bind (Ra:=RA);refine ⟨a,st',e1,fun P1 φ1 H1 c f1 s1 r1=>?_⟩;obtain ⟨P2,φ2,st2,x,f2,s2,r2,k2⟩:=q P1 φ1 H1 c f1 s1 r1;cases x <;> first | exact k2.no.elim | skip
  rename_i d;simp only [RA] at r2;refine ⟨d,r2,?_⟩;cases d with
  | true=>exact ⟨P2,φ2,sl,st2,rs.frm f2,s2,k2⟩
  | false=>exact k2.pure s2 (by simp only [RA])⟩
theorem tK [FQ] (ha:QE X a f) (hb:QE X (.BoolOp .Or (b::rest) pos) g):QE X (.BoolOp .Or (a::b::rest) pos) (Dd f g) :=
 PE_imp (Bz ha hb) fun σ H Q ⟨P,φ,sl,st,rs,s,k⟩=>⟨P,φ,sl,st,rs,s,by
  obtain ⟨a,st',e1,q⟩:=k.bind (Ra:=RA);refine ⟨a,st',e1,fun P1 φ1 H1 c f1 s1 r1=>?_⟩;obtain ⟨P2,φ2,st2,x,f2,s2,r2,k2⟩:=q P1 φ1 H1 c f1 s1 r1;cases x <;> first | exact k2.no.elim | skip
  rename_i d;simp only [RA] at r2;refine ⟨d,r2,?_⟩;cases d with
  | false=>exact ⟨P2,φ2,sl,st2,rs.frm f2,s2,k2⟩
  | true=>exact k2.pure s2 (by simp only [RA])⟩
theorem xr [FQ] (ha:QE X a f):QE X (.UnaryOp .Not a pos) (uo f) :=
 PE_imp (xO ha) fun σ H Q ⟨P,φ,sl,st,rs,s,k⟩=>⟨P,φ,sl,st,rs,s,by
  obtain ⟨a,st',e1,q⟩:=k.bind (Ra:=RA);refine ⟨a,st',e1,fun P1 φ1 H1 c f1 s1 r1=>?_⟩;obtain ⟨P2,φ2,st2,x,f2,s2,r2,k2⟩:=q P1 φ1 H1 c f1 s1 r1;cases x <;> first | exact k2.no.elim | skip
  rename_i d;simp only [RA] at r2;exact ⟨d,r2,k2.pure s2 (by simp only [RA])⟩⟩
theorem Bn [FQ] (hc:QT X c t) (ha:QE X a f) (hb:QE X b g):QE X (.IfExp c a b pos) (Df t f g) :=
 PE_imp (sf hc ha hb) fun σ H Q ⟨P,φ,sl,st,rs,s,k⟩=>⟨P,φ,sl,st,rs,s,by
  obtain ⟨a,st',e1,q⟩:=k.bind (Ra:=RB);refine ⟨a,st',e1,fun P1 φ1 H1 c f1 s1 r1=>?_⟩;obtain ⟨P2,φ2,st2,x,f2,s2,r2,k2⟩:=q P1 φ1 H1 c f1 s1 r1;cases r2;cases c with
  | true=>exact ⟨P2,φ2,sl,st2,rs.frm f2,s2,k2⟩
  | false=>exact ⟨P2,φ2,sl,st2,rs.frm f2,s2,k2⟩⟩
end
def cg (st:aa) (x y:AV):Option AV:=match j3 st x y with
 | some o=>o
 | none=>match y with
  | .int i=>match cy st x with
   | some xs=>fj xs i
   | none=>match gg st x with
    | some xs=>fj xs i
    | none=>match x with
     | .str z=>if Nat.ble z.length 1000000=true then (fj z.cps.toList i).map fun c=>.str ⟨#[c]⟩ else none
     | _=>none
  | _=>none
theorem ny {i:Int} (r:FS mg P H φ xs vs) (h:fj xs i=some x):∃ v,fj vs i=some v/\RA mg P H φ x v:=by
 unfold fj at h ⊢;rw [<- r.length];obtain ⟨j,e1,e2⟩:=zA h;rw [e1,bind_some];exact r.get e2
theorem vR (hu:X.A.units + 64 < cLine):IxR X (fun x y H Q=>∃ a v,x=.ref a/\DGet H a y (some v)/\Q v H):=by
 rintro value slice FO s σ H x y v u Q I rx ry ⟨a,t,ex,g,q⟩ hs;subst ex;cases rx;have hT:=mB I g;unfold subscriptTail;refine yB ?_;rw [getitemInPython_of_ne hT.not_modules];refine yB (wpAny_specialOf hT PySem.F.slot_dict_getitem.lookup ?_);have aA:wpAny (model X.prog X.w) X.A (subscripted slice false (.ref a) u) (fun r s₃=>wpAny (model X.prog X.w) X.A (letTemporaryGo value (.ref a) r >>= fun _=>pure r) (EP X FO σ Q) X.xe s₃) X.xe s:=by
  rw [hs];exact wpAny_operating (qt oM I g ry fun w' s3 I3 rw'=>yB (wpAny_letTemporaryGo (yC ⟨t,H,I3,rw',q⟩)))
 first
  | exact yC (yB aA)
  | exact yB (yC (yB aA))
  | exact yB aA
theorem Eg [FQ] (hu:X.A.units + 64 < cLine):IxR X (r2 X.gm (d8 cg)):=by
 rintro value slice FO s σ H v w u r Q I ru rr ⟨P,φ,st,x,y,sm,rx,ry,k0⟩ hs;obtain ⟨z,e,k⟩:=k0.map;clear k0;unfold cg at e;split at e
 ·rename_i o eo
  subst e;obtain ⟨a,o',rfl,g,_,g2⟩:=l4 sm eo ry rx;obtain ⟨t,rfl,rt⟩:=g2 z rfl;exact vR hu value slice FO s σ H _ _ u r Q I ru rr ⟨a,t,rfl,g,k.pure sm rt⟩ hs
 ·cases y with
  | int i =>
   simp only [RA] at ry;subst ry;dsimp only at e;split at e
   ·rename_i xs el
    obtain ⟨a,vs,rfl,rd,q⟩:=rx.ls sm el;obtain ⟨t,e2,rt⟩:=ny q e;exact lV value slice FO s σ H _ _ u r Q I ru rr (.inl ⟨a,vs,i,t,rfl,rfl,rd,e2,k.pure sm rt⟩) hs
   ·split at e
    ·rename_i xs el
     obtain ⟨a,vs,rfl,rd,q⟩:=rx.tp sm el;obtain ⟨t,e2,rt⟩:=ny q e;exact lV value slice FO s σ H _ _ u r Q I ru rr (.inr (.inl ⟨a,vs,i,t,rfl,rfl,.inl (.inl rd),e2,k.pure sm rt⟩)) hs
    ·cases x with
     | str x =>
      dsimp only at e;split at e
      ·rename_i hl
       obtain ⟨c,e1,e2⟩:=zE.mp e;subst e2;simp only [RA] at rx;subst rx;exact lV value slice FO s σ H _ _ u r Q I ru rr (.inr (.inr ⟨x,i,c,rfl,rfl,zZ (zR hl) dC,e1,k.pure sm (by simp only [RA])⟩)) hs
      ·cases e
     | _=>cases e
  | _=>cases e
theorem Bm [FQ] (hu:X.A.units + 64 < cLine) (ha:QE X a f) (hb:QE X b g) (hs:kb b):QE X (.Subscript a b pos) (a2 f g (d8 cg)) :=
 PE_imp (BB (Eg hu) ha hb hs) fun _ _ _ q=>oO q
def Dc (g:AF):EF:=fun sl st=>(g sl st).bind fun p=>if Nat.ble p.1.length 1000=true then some (.tup p.1,p.2) else none
theorem xq [FQ] {x1:Nat} (h:QA X es g):QE X (.Tuple es x1 pos) (Dc g) :=
 PE_imp (xM h) fun σ H Q ⟨P,φ,sl,st,rs,s,k⟩=>⟨P,φ,sl,st,rs,s,by
  obtain ⟨a,st',e1,q⟩:=k.bind (Ra:=FS);refine ⟨a,st',e1,fun P1 φ1 H1 vs f1 s1 r1=>?_⟩;obtain ⟨P2,φ2,st2,xs,f2,s2,r2,k2⟩:=q P1 φ1 H1 vs f1 s1 r1;dsimp only at k2;split at k2
  ·rename_i hl
   refine ⟨by rw [<- r2.length];exact zZ (zR hl) dC,fun p hp=>?_⟩;obtain ⟨f3,s3⟩:=jk (o:=.tup vs) s2 hp;obtain ⟨_,_,e5,q5⟩:=k2;cases e5;refine q5 _ _ _ _ f3 s3 ?_;simp only [RA];exact ⟨p,vs,rfl,.inr rfl,aK,r2.frm f3⟩
  ·exact k2.no.elim⟩
end
mutual
noncomputable def b9:AV->AV->Bool
 | .non,.non=>true
 | .bl a,.bl b=>a == b
 | .int a,.int b=>a == b
 | .str a,.str b=>a == b
 | .ref a,.ref b=>a == b
 | .tup a,.tup b=>c9 a b
 | .fz a,.fz b=>c9 a b
 | _,_=>false
noncomputable def c9:List AV->List AV->Bool
 | [],[]=>true
 | x::xs,y::ys=>b9 x y && c9 xs ys
 | _,_=>false
end
mutual
theorem nv:∀ {x y:AV},b9 x y=true->x=y
 | .non,y,h=>by cases y <;> simp only [b9] at h <;> first | rfl | cases h
 | .bl a,y,h=>by cases y <;> simp only [b9] at h <;> first | (rw [yG h]) | cases h
 | .int a,y,h=>by cases y <;> simp only [b9] at h <;> first | (rw [yG h]) | cases h
 | .str a,y,h=>by cases y <;> simp only [b9] at h <;> first | (rw [yG h]) | cases h
 | .ref a,y,h=>by cases y <;> simp only [b9] at h <;> first | (rw [yG h]) | cases h
 | .tup a,y,h=>by cases y <;> simp only [b9] at h <;> first | (rw [im h]) | cases h
 | .fz a,y,h=>by cases y <;> simp only [b9] at h <;> first | (rw [im h]) | cases h
theorem im:∀ {xs ys:List AV},c9 xs ys=true->xs=ys
 | [],ys,h=>by cases ys <;> simp only [c9] at h <;> first | rfl | cases h
 | x::xs,ys,h=>by
  cases ys with
  | nil=>simp only [c9] at h;cases h
  | cons y ys =>
   simp only [c9,zC] at h;rw [nv h.1,im h.2]
end
mutual
theorem qA:∀ x:AV,b9 x x=true
 | .non=>by simp only [b9]
 | .bl a=>by simp [b9]
 | .int a=>by simp [b9]
 | .str a=>by simp [b9]
 | .ref a=>by simp [b9]
 | .tup a=>by simp only [b9];exact ff a
 | .fz a=>by simp only [b9];exact ff a
theorem ff:∀ xs:List AV,c9 xs xs=true
 | []=>by simp only [c9]
 | x::xs=>by simp only [c9,qA x,ff xs,Bool.and_self]
end
abbrev Gd:=List (Nat × F1)
def oI:F1->F1->Bool
 | .lst a,.lst b=>c9 a b
 | .dK a,.dK b=>decide (a.map (·.1)=b.map (·.1)) && c9 (a.map (·.2)) (b.map (·.2))
 | _,_=>false
def bQ:Gd->aa->Bool
 | [],_=>true
 | g::gs,st=>(match st[g.1]? with | some c=>oI c g.2 | none=>false) && bQ gs st
theorem sU {k:Nat}{xs:List AV}{gs:Gd}{st:aa} (h:bQ ((k,.lst xs)::gs) st=true):st[k]?=some (.lst xs)/\bQ gs st=true:=by
 simp only [bQ,zC] at h;refine ⟨?_,h.2⟩;have h:=h.1;split at h
 ·rename_i c e
  cases c <;> simp only [oI] at h <;> first | (cases h;done) | skip
  rw [e,im h]
 ·cases h
theorem ng {a b:Gd}{st:aa} (h:bQ (a++b) st=true):bQ a st=true/\bQ b st=true:=by
 induction a with
 | nil=>exact ⟨rfl,h⟩
 | cons g a ih =>
  simp only [List.cons_append,bQ,zC] at h ⊢;exact ⟨⟨h.1,(ih h.2).1⟩,(ih h.2).2⟩
structure Iv where
 FR:List AV
 gd:Gd
abbrev IF:=Sl->aa->Option (Iv × aa)
structure nE [FQ] (mg:Gm) (J:It) (iv:Iv) (P:Pr) (φ:List Addr) (H:Hp):Prop where
 go:∀ P2 φ2 H2 st2 (i:Nat) x,Frm P φ H P2 φ2 H2->Sim mg P2 φ2 st2 H2->bQ iv.gd st2=true->iv.FR[i]?=some x->J.go i H2/\∀ v H3,J.yld i H2 v H3->∃ P3,Frm P2 φ2 H2 P3 φ2 H3/\Sim mg P3 φ2 st2 H3/\RA mg P3 H3 φ2 x v
 stop:∀ P2 φ2 H2 st2,Frm P φ H P2 φ2 H2->Sim mg P2 φ2 st2 H2->bQ iv.gd st2=true->J.stop iv.FR.length H2
def rI [FQ] (mg:Gm) (f:IF):TI:=fun σ H R=>∃ P φ sl st,FV mg P H φ sl σ/\Sim mg P φ st H/\∃ iv st',f sl st=some (iv,st')/\∀ P' φ' H' J,Frm P φ H P' φ' H'->Sim mg P' φ' st' H'->nE mg J iv P' φ' H'->R J H'
def QI [FQ] (X:Cx) (tg iter:Expr) (f:IF):Prop:=PI X tg iter (rI X.gm f)
theorem fM (h:PI X tg iter t) (i:∀ σ H R,t' σ H R->t σ H R):PI X tg iter t':=fun FO s σ H R I h'=>h FO s σ H R I (i σ H R h')
def gj (st:aa) (v:AV):Option Iv:=match dr st v with
 | .fz xs=>some ⟨xs,[]⟩
 | .ref k=>match st[k]? with
  | some (.lst xs)=>some ⟨xs,[(k,.lst xs)]⟩
  | _=>none
 | _=>none
section
variable {mg:Gm}{P:Pr}{φ:List Addr}{st:aa}{H:Hp}{v:AV}{w:V}{iv:Iv}
theorem lY [FQ] (s:Sim mg P φ st H) (r:RA mg P H φ v w) (h:gj st v=some iv):∃ a,w=.ref a/\∀ P2 φ2 H2 st2,Frm P φ H P2 φ2 H2->Sim mg P2 φ2 st2 H2->bQ iv.gd st2=true->∃ vs,bx mg.K H2 a vs/\FS mg P2 H2 φ2 iv.FR vs:=by
 have r:=r.dr s;unfold gj at h;split at h
 ·rename_i ys e
  cases h;rw [e] at r;simp only [RA] at r;obtain ⟨a,vs,e1,e2,q⟩:=r;refine ⟨a,e1,fun P2 φ2 H2 st2 f _ _=>⟨vs,(e2.mono f.ext).sq,?_⟩⟩;exact FS.lift (q.mono f.ext fun k a e=>by simp at e)
 ·rename_i k e
  rw [e] at r;simp only [RA] at r;obtain ⟨a,e1,e2⟩:=r;split at h
  ·rename_i ys e3
   cases h;refine ⟨a,e2,fun P2 φ2 H2 st2 f s2 g=>?_⟩;obtain ⟨g1,_⟩:=sU g;obtain ⟨a',e4,c⟩:=s2.at g1;rw [f.ix k a e1] at e4;cases e4;obtain ⟨_,vs,q1,q2⟩:=c;exact ⟨vs,.inl (.inl q1),q2⟩
  ·cases h
 ·cases h
end
section
variable {X:Cx}{tg e a b:Expr}{es:List Expr}{pos p:Pos}
def m7 (st:aa) (v:AV):Option Iv:=match v with
 | .str x=>if x.cps.all (· < 128)=true then some ⟨x.cps.toList.map fun c=>.str ⟨#[c]⟩,[]⟩ else none
 | v=>match gg st v with
  | some xs=>some ⟨xs,[]⟩
  | none=>gj st v
def iE (f:EF):IF:=fun sl st=>(f sl st).bind fun p=>(m7 p.2 p.1).map fun iv=>(iv,p.2)
theorem xI [FQ] (hl:PE X e tl):PI X tg e (fun σ H R=>tl σ H fun x H1=>(∃ a,x=.ref a/\(∃ xs,bx X.K H1 a xs)/\R (ux X.K a) H1)\/(∃ a,x=.ref a/\(∃ xs,dh X.K H1 a xs)/\R (uv X.K a) H1)\/∃ x':Str,x=.str x'/\x'.cps.all (· < 128)=true/\R (uw x') H1):=by
 intro FO s σ H R I h;refine aH (hl FO s σ H _ I h) fun v s1 hq0=>?_
 obtain ⟨x,H1,I1,r1,q1⟩:=hq0;have fp:∀ b ∈ [s1.heap.objs.size],cL X FO H1 b:=fun b hb=>by
  have e:b=s1.heap.objs.size:=by simpa using hb
  subst e;exact I1.fpOk (zO _) (I1.FT.fresh (zO _))
 rcases q1 with ⟨a,e,⟨xs,hq⟩,q⟩ | ⟨a,e,⟨xs,hq⟩,q⟩ | ⟨y,e,hy,q⟩
 ·subst e
  cases r1;obtain ⟨FR,rv,p,hz⟩:=I1.list hq;refine wpAny_pyIter_list p.isList ?_;exact ⟨s1.heap.objs.size,[s1.heap.objs.size],_,_,H1,rfl,I1.kept (t':=s1.toks) fun b o e=>zG _ e,oV a _,⟨_,zX _ rfl,rfl,rfl⟩,fp,q⟩
 ·subst e
  cases r1;obtain ⟨FR,rv,p,hz⟩:=I1.tuple hq;refine wpAny_pyIter_tuple (show s1.heap.IsTuple a FR.toArray from p) ?_;exact ⟨s1.heap.objs.size,[s1.heap.objs.size],_,_,H1,rfl,I1.kept (t':=s1.toks) fun b o e=>zG _ e,nK a _,⟨_,zX _ rfl,rfl,rfl⟩,fp,q⟩
 ·subst e
  obtain ⟨t,rfl⟩:=r1;refine wpAny_pyIter_ascii hy ?_;exact ⟨s1.heap.objs.size,[s1.heap.objs.size],_,_,H1,rfl,I1.kept (t':=s1.toks) fun b o e=>zG _ e,qV y t _,⟨_,zX _ rfl,rfl,rfl⟩,fp,q⟩
theorem sN [FQ] {mg:Gm}{P:Pr}{φ:List Addr}{H:Hp}{K:Frag}{a:Addr}{iv:Iv} (h:∀ P2 φ2 H2 st2,Frm P φ H P2 φ2 H2->Sim mg P2 φ2 st2 H2->bQ iv.gd st2=true->∃ vs,bx K H2 a vs/\FS mg P2 H2 φ2 iv.FR vs):nE mg (ux K a) iv P φ H where
 go:=fun P2 φ2 H2 st2 i x f s g e=>by
  obtain ⟨vs,rd,ra⟩:=h P2 φ2 H2 st2 f s g;obtain ⟨v,e1,r1⟩:=ra.get e;refine ⟨⟨vs,v,rd,e1⟩,fun w H3 hq0=>?_⟩;obtain ⟨hH,hx⟩:=hq0;subst hH
  have:=hx vs rd
  rw [e1] at this;cases this;exact ⟨P2,Frm.refl,s,r1⟩
 stop:=fun P2 φ2 H2 st2 f s g=>by
  obtain ⟨vs,rd,ra⟩:=h P2 φ2 H2 st2 f s g;exact ⟨vs,rd,by rw [<- ra.length];exact zO _⟩
theorem vS [FQ] {mg:Gm}{P:Pr}{φ:List Addr}{H:Hp}{K:Frag}{a:Addr}{xs:List AV}{vs:List V} (pa:P a) (ea:H a=some (.tup vs)) (ra:FS mg P H φ xs vs):nE mg (uv K a) ⟨xs,[]⟩ P φ H where
 go:=fun P2 φ2 H2 st2 i x f s g e=>by
  obtain ⟨v,e1,r1⟩:=(ra.frm f).get e;have e2:dh K H2 a vs:=.inl (.inl ((f.ext a pa).2.trans ea));refine ⟨⟨vs,v,e2,e1⟩,fun w H3 hq0=>?_⟩;obtain ⟨hH,hx⟩:=hq0;subst hH
  have:=hx vs e2
  rw [e1] at this;cases this;exact ⟨P2,Frm.refl,s,r1⟩
 stop:=fun P2 φ2 H2 st2 f s g=>⟨vs,.inl (.inl ((f.ext a pa).2.trans ea)),by rw [<- ra.length];exact zO _⟩
theorem vT [FQ]:nE mg (uw x) ⟨x.cps.toList.map fun c=>.str ⟨#[c]⟩,[]⟩ P φ H where
 go:=fun P2 φ2 H2 st2 i y f s g e=>by
  rw [zQ] at e;obtain ⟨c,e1,e2⟩:=zE.mp e;rw [Array.getElem?_toList] at e1;subst e2;refine ⟨⟨c,e1⟩,fun w H3 hq0=>?_⟩;obtain ⟨hH,c',e3,hw⟩:=hq0;subst hH;rw [e1] at e3;cases e3;exact ⟨P2,Frm.refl,s,by simp only [RA];exact hw⟩
 stop:=fun P2 φ2 H2 st2 f s g=>by
  show x.cps[_]?=none;simp
theorem lX {st:aa}{v:AV}{iv:Iv} (h:gj st v=some iv):bQ iv.gd st=true:=by
 unfold gj at h;split at h
 ·cases h;rfl
 ·split at h
  ·rename_i k _ xs hk
   cases h;simp only [bQ];rw [hk];simp only [oI,ff,Bool.and_self]
  ·cases h
 ·cases h
theorem DQ [FQ] (ha:QE X e f):QI X tg e (iE f):=fM (xI ha) fun σ H R ⟨P,φ,sl,st,rs,s,iv,st',ef,k⟩=>⟨P,φ,sl,st,rs,s,by
 unfold iE at ef;obtain ⟨p,e1,e2⟩:=zA ef;obtain ⟨iv',e3,e4⟩:=zE.mp e2;cases e4;refine ⟨p.1,p.2,e1,fun P1 φ1 H1 w f1 s1 r1=>?_⟩;unfold m7 at e3;have gen:∀ v:AV,p.1=v->(match gg p.2 v with | some xs=>some ⟨xs,[]⟩ | none=>gj p.2 v)=some iv->((∃ a,w=.ref a/\(∃ xs,bx X.K H1 a xs)/\R (ux X.K a) H1)\/(∃ a,w=.ref a/\(∃ xs,dh X.K H1 a xs)/\R (uv X.K a) H1)\/∃ x':Str,w=.str x'/\x'.cps.all (· < 128)=true/\R (uw x') H1):=by
  intro v ev e3;rw [ev] at r1;split at e3
  ·rename_i xs et
   cases e3;have r2:=r1.dr s1;unfold gg at et;split at et
   ·rename_i ys ed
    cases et;rw [ed] at r2;simp only [RA] at r2;obtain ⟨a,vs,rfl,pa,ea,ra⟩:=r2;exact .inr (.inl ⟨a,rfl,⟨vs,.inl (.inl ea)⟩,k P1 φ1 H1 _ f1 s1 (vS pa ea ra)⟩)
   ·cases et
  ·obtain ⟨a,rfl,h⟩:=lY s1 r1 e3
   obtain ⟨vs,rd,_⟩:=h P1 φ1 H1 p.2 Frm.refl s1 (lX e3);exact .inl ⟨a,rfl,⟨vs,rd⟩,k P1 φ1 H1 _ f1 s1 (sN h)⟩
 cases hv:p.1 with
 | str x =>
  rw [hv] at e3 r1;simp only at e3;split at e3
  ·rename_i hx
   cases e3;simp only [RA] at r1;exact .inr (.inr ⟨x,r1,hx,k P1 φ1 H1 _ f1 s1 vT⟩)
  ·cases e3
 | _=>rw [hv] at e3;exact gen _ hv e3⟩
noncomputable def en (i:Int):Bool:=Nat.ble i.natAbs.log2 60
noncomputable def fR (i:Int) (n:Nat):List AV:=(List.range n).map fun k=>.int (i + (k:Nat))
def zk (f:EF):IF:=fun sl st=>(f sl st).bind fun p=>match p.1 with
 | .int j=>if en j=true then some (⟨fR 0 j.toNat,[]⟩,p.2) else none
 | _=>none
def zj (f g:EF):IF:=fun sl st=>(f sl st).bind fun p=>(g sl p.2).bind fun q=>match p.1,q.1 with
 | .int i,.int j=>if (en i && en j)=true then some (⟨fR i (j - i).toNat,[]⟩,q.2) else none
 | _,_=>none
theorem dk {i:Int} (h:en i=true):-(2 ^ 62) <= i/\i < 2 ^ 62:=by
 have:=log2_lt h
 have e:(2:Nat) ^ (60 + 1)=2305843009213693952:=by decide
 rw [e] at this;omega
theorem m6 [FQ] {i:Int}{n:Nat}:nE mg (qO i n) ⟨fR i n,[]⟩ P φ H where
 go:=fun P2 φ2 H2 st2 k y f s g e=>by
  unfold fR at e;rw [zQ] at e;obtain ⟨c,e1,e2⟩:=zE.mp e;obtain ⟨h1,h2⟩:=zB.mp e1;rw [List.getElem_range] at h2;subst h2 e2;rw [List.length_range] at h1;refine ⟨h1,fun w H3 hq0=>?_⟩;obtain ⟨hH,hw⟩:=hq0;subst hH;exact ⟨P2,Frm.refl,s,by simp only [RA];exact hw⟩
 stop:=fun P2 φ2 H2 st2 f s g=>by
  show n <= (fR i n).length;simp [fR]
theorem wZ [FQ] {mg:Gm}{f:EF}{σ:St}{H:Hp}{Q:List V->Hp->Prop}{P:Pr}{φ:List Addr}{sl:Sl}{st:aa} (rs:FV mg P H φ sl σ) (s:Sim mg P φ st H)
  (h:∃ v st1,f sl st=some (v,st1)/\∀ P1 φ1 H1 w,Frm P φ H P1 φ1 H1->Sim mg P1 φ1 st1 H1->RA mg P1 H1 φ1 v w->Q [w] H1):rA mg (dg f df) σ H Q:=by
 obtain ⟨v,st1,e,k⟩:=h;refine ⟨P,φ,sl,st,rs,s,[v],st1,by simp only [dg,df,e,bind_some],fun P1 φ1 H1 ws f1 s1 r1=>?_⟩;simp only [FS] at r1;obtain ⟨w,us,rfl,r,rfl⟩:=r1;exact k P1 φ1 H1 w f1 s1 r
theorem CQ [FQ] {mg:Gm}{f g:EF}{σ:St}{H:Hp}{Q:List V->Hp->Prop}{P:Pr}{φ:List Addr}{sl:Sl}{st:aa} (rs:FV mg P H φ sl σ) (s:Sim mg P φ st H)
  (h:∃ v st1 u st2,f sl st=some (v,st1)/\g sl st1=some (u,st2)/\∀ P1 φ1 H1 w w',Frm P φ H P1 φ1 H1->Sim mg P1 φ1 st2 H1->RA mg P1 H1 φ1 v w->RA mg P1 H1 φ1 u w'->Q [w,w'] H1):rA mg (dg f (dg g df)) σ H Q:=by
 obtain ⟨v,st1,u,st2,e,e',k⟩:=h;refine ⟨P,φ,sl,st,rs,s,[v,u],st2,by simp only [dg,df,e,e',bind_some],fun P1 φ1 H1 ws f1 s1 r1=>?_⟩;simp only [FS] at r1;obtain ⟨w,us,rfl,r,w',us',rfl,r',rfl⟩:=r1;exact k P1 φ1 H1 w w' f1 s1 r r'
theorem Bh [FQ] (hg:Gl X "range") (hm:X.mg "range"=none) (ha:QE X a f) (hs:starEach [a] X.env=[(false,eval a X.env)]):QI X tg (.Call (.Name "range" p) [a] [] pos) (zk f) :=
 fM (pK hg hm (cw ha er (by rw [hs];rfl)) hs) fun σ H R hq0=>by
  obtain ⟨P,φ,sl,st,rs,s,iv,st',ef,k⟩:=hq0;obtain ⟨q,e1,e2⟩:=zA ef;refine wZ rs s ⟨q.1,q.2,e1,fun P1 φ1 H1 w f1 s1 r1=>?_⟩;split at e2
  ·rename_i j ej
   rw [ej] at r1;split at e2
   ·rename_i hb
    cases e2;simp only [RA] at r1;subst r1;exact ⟨j,rfl,(dk hb).1,(dk hb).2,k P1 φ1 H1 _ f1 s1 m6⟩
   ·cases e2
  ·cases e2
theorem Bg [FQ] (hg:Gl X "range") (hm:X.mg "range"=none) (ha:QE X a f) (hb:QE X b g) (hs:starEach [a,b] X.env=[(false,eval a X.env),(false,eval b X.env)]) (hs2:starEach [b] X.env=[(false,eval b X.env)]) :
  QI X tg (.Call (.Name "range" p) [a,b] [] pos) (zj f g) :=
 fM (pJ hg hm (cw ha (cw hb er (by rw [hs2];rfl)) (by rw [hs,hs2])) hs hs2) fun σ H R hq0=>by
  obtain ⟨P,φ,sl,st,rs,s,iv,st',ef,k⟩:=hq0;obtain ⟨q,e1,e2⟩:=zA ef;obtain ⟨r,e3,e4⟩:=zA e2;refine CQ rs s ⟨q.1,q.2,r.1,r.2,e1,e3,fun P1 φ1 H1 w w' f1 s1 r1 r2=>?_⟩;split at e4
  ·rename_i i j ei ej
   rw [ei] at r1;rw [ej] at r2;split at e4
   ·rename_i hb
    cases e4;obtain ⟨h1,h2⟩:=Bool.and_eq_true_iff.mp hb;simp only [RA] at r1 r2;subst r1;subst r2;exact ⟨i,j,rfl,⟨(dk h1).1,(dk h1).2,(dk h2).1,(dk h2).2⟩,k P1 φ1 H1 _ f1 s1 m6⟩
   ·cases e4
  ·cases e4
def iZ (f g:EF):IF:=fun sl st=>(f sl st).bind fun p=>(g sl p.2).bind fun q=>(gj q.2 p.1).bind fun x=>(gj q.2 q.1).bind fun y=>some (⟨(x.FR.zip y.FR).map fun z=>.tup [z.1,z.2],x.gd++y.gd⟩,q.2)
theorem vF [FQ] {mg:Gm}{P:Pr}{φ:List Addr}{st:aa}{H:Hp}{p:Addr}{x y:AV}{u w:V} (s:Sim mg P φ st H) (hp:H p=none) (rx:RA mg P H φ x u) (ry:RA mg P H φ y w) :
  ∃ P3,Frm P φ H P3 φ (ak H p (.tup [u,w]))/\Sim mg P3 φ st (ak H p (.tup [u,w]))/\RA mg P3 (ak H p (.tup [u,w])) φ (.tup [x,y]) (.ref p):=by
 obtain ⟨f3,s3⟩:=jk (o:=.tup [u,w]) s hp;refine ⟨_,f3,s3,?_⟩;simp only [RA];exact ⟨p,[u,w],rfl,.inr rfl,aK,aY (rx.frm f3) (aY (ry.frm f3) be)⟩
theorem xm [FQ] {x1:Nat} (hg:Gl X "zip") (hm:X.mg "zip"=none) (ha:QE X a f) (hb:QE X b g) (hs:starEach [a,b] X.env=[(false,eval a X.env),(false,eval b X.env)]) (hs2:starEach [b] X.env=[(false,eval b X.env)]) :
  QI X (.Tuple elts x1 tpos) (.Call (.Name "zip" p) [a,b] [] pos) (iZ f g) :=
 fM (xH hg hm (cw ha (cw hb er (by rw [hs2];rfl)) (by rw [hs,hs2])) hs hs2) fun σ H R hq0=>by
  obtain ⟨P,φ,sl,st,rs,s,iv,st',ef,k⟩:=hq0;obtain ⟨q,e1,e2⟩:=zA ef;obtain ⟨r,e3,e4⟩:=zA e2;obtain ⟨x,e5,e6⟩:=zA e4;obtain ⟨y,e7,e8⟩:=zA e6;cases e8;refine CQ rs s ⟨q.1,q.2,r.1,r.2,e1,e3,fun P1 φ1 H1 w w' f1 s1 r1 r2=>?_⟩;obtain ⟨a1,rfl,h1⟩:=lY s1 r1 e5;obtain ⟨a2,rfl,h2⟩:=lY s1 r2 e7;obtain ⟨vs,rd1,_⟩:=h1 P1 φ1 H1 r.2 Frm.refl s1 (lX e5);obtain ⟨us,rd2,_⟩:=h2 P1 φ1 H1 r.2 Frm.refl s1 (lX e7);refine ⟨a1,a2,rfl,⟨vs,rd1⟩,⟨us,rd2⟩,k P1 φ1 H1 _ f1 s1 ⟨fun P2 φ2 H2 st2 i t f2 s2 g2 et=>?_,fun P2 φ2 H2 st2 f2 s2 g2=>?_⟩⟩
  ·obtain ⟨ga,gb⟩:=ng g2
   obtain ⟨vs2,d1,q1⟩:=h1 P2 φ2 H2 st2 f2 s2 ga;obtain ⟨us2,d2,q2⟩:=h2 P2 φ2 H2 st2 f2 s2 gb;rw [zQ] at et;obtain ⟨z,ez,et⟩:=zE.mp et;subst et;obtain ⟨hx,hy⟩:=List.getElem?_zip_eq_some.mp ez;obtain ⟨u1,c1,b1⟩:=q1.get hx;obtain ⟨u2,c2,b2⟩:=q2.get hy;refine ⟨⟨vs2,us2,u1,u2,d1,d2,c1,c2⟩,fun v H3 hq0=>?_⟩;obtain ⟨pp,u,w,k1,k2,hp,hH,hv⟩:=hq0;have k1:=k1 vs2 d1;have k2:=k2 us2 d2;rw [c1] at k1;rw [c2] at k2;cases k1;cases k2;subst hH;subst hv;exact vF s2 hp b1 b2
  ·obtain ⟨ga,gb⟩:=ng g2
   obtain ⟨vs2,d1,q1⟩:=h1 P2 φ2 H2 st2 f2 s2 ga;obtain ⟨us2,d2,q2⟩:=h2 P2 φ2 H2 st2 f2 s2 gb;refine ⟨vs2,us2,d1,d2,?_⟩;rw [<- q1.length,<- q2.length];simp only [zH,List.length_zip];omega
noncomputable def EY (n0:Nat) (xs:List AV):List AV:=(xs.zipIdx n0).map fun z=>.tup [.int ((z.2:Nat):Int),z.1]
end
section
variable {X:Cx}{tg e a b:Expr}{es:List Expr}{pos p kp:Pos}
def FI (f g:EF):IF:=fun sl st=>(f sl st).bind fun p=>(g sl p.2).bind fun q=>match q.1 with
 | .int i=>if (decide (0 <= i) && Nat.ble i.natAbs 1000000)=true then (gj q.2 p.1).map fun iv=>(⟨EY i.toNat iv.FR,iv.gd⟩,q.2) else none
 | _=>none
end
mutual
noncomputable def rf:AV->Bool
 | .ref _=>false
 | .tup xs=>rfs xs
 | _=>true
noncomputable def rfs:List AV->Bool
 | []=>true
 | x::xs=>rf x && rfs xs
end
mutual
theorem RA.rf:∀ {t:AV}{v:V},R.rf t=true->RA mg P H φ t v->RA mg P H ψ t v
 | .non,_,_,h=>by simp only [RA] at h ⊢;exact h
 | .bl _,_,_,h=>by simp only [RA] at h ⊢;exact h
 | .int _,_,_,h=>by simp only [RA] at h ⊢;exact h
 | .str _,_,_,h=>by simp only [RA] at h ⊢;exact h
 | .fz _,_,_,h=>by simp only [RA] at h ⊢;exact h
 | .ref k,_,e,_=>by simp only [R.rf] at e;cases e
 | .tup xs,_,e,h=>by
  simp only [RA,R.rf] at h e ⊢;obtain ⟨a,vs,r,p,e',q⟩:=h;exact ⟨a,vs,r,p,e',FS.rf e q⟩
theorem FS.rf:∀ {ts:List AV}{vs:List V},R.rfs ts=true->FS mg P H φ ts vs->FS mg P H ψ ts vs
 | [],_,_,h=>by simp only [FS] at h ⊢;exact h
 | t::ts,_,e,h=>by
  simp only [FS,R.rfs,zC] at h e ⊢;obtain ⟨v,ws,e',r,q⟩:=h;exact ⟨v,ws,e',RA.rf e.1 r,FS.rf e.2 q⟩
end
abbrev NF:=Sl->aa->Option (List AV × aa)
def rN [FQ] (mg:Gm) (f:NF):TE:=fun σ H Q=>∃ P φ sl st,FV mg P H φ sl σ/\Sim mg P φ st H/\∃ xs st',f sl st=some (xs,st') /\
 ∀ P' φ' H' p vs,Frm P φ H P' φ' H'->Sim mg P' φ' st' H'->H' p=none->FS mg P' H' φ' xs vs->Q (.ref p) (ak H' p (.lst vs))
def QN [FQ] (X:Cx) (e:Expr) (f:NF):Prop:=PE X e (rN X.gm f)
def E6 (f:NF):EF:=fun sl st=>(f sl st).bind fun p=>if rfs p.1=true then some (.fz p.1,p.2) else none
def E5 (f:NF):EF:=fun sl st=>(f sl st).bind fun p=>some (.ref p.2.length,p.2++[.lst p.1])
theorem zt [FQ] {mg:Gm}{P:Pr}{φ:List Addr}{st:aa}{H:Hp}{p:Addr}{xs:List AV}{vs:List V} (s:Sim mg P φ st H) (hp:H p=none) (hr:rfs xs=true) (r:FS mg P H φ xs vs) :
  ∃ P3,Frm P φ H P3 φ (ak H p (.lst vs))/\Sim mg P3 φ st (ak H p (.lst vs))/\RA mg P3 (ak H p (.lst vs)) φ (.fz xs) (.ref p):=by
 obtain ⟨f3,s3⟩:=jk (o:=.lst vs) s hp;refine ⟨_,f3,s3,?_⟩;simp only [RA];exact ⟨p,vs,rfl,.inl ⟨.inr rfl,.inl aK⟩,FS.rf hr (r.frm f3)⟩
theorem yr [FQ] {mg:Gm}{P:Pr}{φ:List Addr}{st:aa}{H:Hp}{p:Addr}{xs:List AV}{vs:List V} (s:Sim mg P φ st H) (hp:H p=none) (r:FS mg P H φ xs vs) :
  Frm P φ H P (φ++[p]) (ak H p (.lst vs))/\Sim mg P (φ++[p]) (st++[.lst xs]) (ak H p (.lst vs))/\RA mg P (ak H p (.lst vs)) (φ++[p]) (.ref st.length) (.ref p):=by
 have ne:∀ a,H a ≠ none->a ≠ p:=fun a h e=>h (by rw [e];exact hp)
 obtain ⟨f3,s3⟩:=iU (c:=.lst xs) (o:=.lst vs) s hp ⟨fun z=>s.dom p z hp,vs,aK,r.mono (fun a h=>⟨h,ae (ne a (s.dom a h))⟩) fun k a e=>by rw [zM (zB.mp e).1];exact e⟩;refine ⟨f3,s3,?_⟩;simp only [RA];exact ⟨p,by rw [<- s.len];simp,rfl⟩
section
variable {X:Cx}{e a b:Expr}{es:List Expr}{pos:Pos}{f:NF}
noncomputable def d6 (n:Nat):Bool:=Nat.ble n 1000000
theorem fC {n:Nat} (h:d6 n=true):n <= sizeLine:=zZ (zR h) dC
def CW (g:AF):NF:=fun sl st=>(g sl st).bind fun p=>if d6 p.1.length=true then some p else none
theorem uS [FQ] (h:QA X es g):QN X (.List es pos) (CW g) :=
 PE_imp (pM h) fun σ H Q hq0=>by
  obtain ⟨P,φ,sl,st,rs,s,xs,st',ef,k⟩:=hq0;obtain ⟨q,e1,e2⟩:=zA ef;split at e2
  ·rename_i hz
   cases e2;exact ⟨P,φ,sl,st,rs,s,xs,st',e1,fun P1 φ1 H1 vs f1 s1 r1=>⟨by rw [<- r1.length];exact fC hz,fun p hp=>k P1 φ1 H1 p vs f1 s1 hp r1⟩⟩
  ·cases e2
def j0 (f g:EF):NF:=fun sl st=>(f sl st).bind fun p=>(g sl p.2).bind fun q=>(cy q.2 p.1).bind fun xs=>(cy q.2 q.1).bind fun ys=>if d6 (xs.length + ys.length)=true then some (xs++ys,q.2) else none
theorem xl [FQ] {f g:EF} (ha:QE X a f) (hb:QE X b g):QN X (.BinOp a .Add b pos) (j0 f g) :=
 PE_imp (nX vx ha hb) fun σ H Q hq0=>by
  obtain ⟨P,φ,sl,st,rs,s,xs,st',ef,k⟩:=hq0;obtain ⟨q,e1,e2⟩:=zA ef;obtain ⟨r,e3,e4⟩:=zA e2;obtain ⟨x,e5,e6⟩:=zA e4;obtain ⟨y,e7,e8⟩:=zA e6;split at e8
  ·rename_i hz
   cases e8;refine ⟨P,φ,sl,st,rs,s,q.1,q.2,e1,fun P1 φ1 H1 w f1 s1 r1=>⟨P1,φ1,sl,q.2,rs.frm f1,s1,r.1,r.2,e3,fun P2 φ2 H2 w2 f2 s2 r2=>?_⟩⟩;obtain ⟨a1,vs,rfl,d1,q1⟩:=(r1.frm f2).ls s2 e5;obtain ⟨a2,us,rfl,d2,q2⟩:=r2.ls s2 e7;exact ⟨a1,a2,vs,us,rfl,rfl,d1,d2,by rw [<- q1.length,<- q2.length];exact fC hz,fun p hp=>k P2 φ2 H2 p _ (f1.trans f2) s2 hp (q1.app q2)⟩
  ·cases e8
def sE (g:AF) (f:EF):NF:=fun sl st=>(g sl st).bind fun p=>(f sl p.2).bind fun q=>match q.1 with
 | .int k=>if (en k && d6 (p.1.length * k.toNat) && d6 p.1.length)=true then some ((List.replicate k.toNat p.1).flatten,q.2) else none
 | _=>none
theorem FS.rep (h:FS mg P H φ xs vs):∀ k:Nat,FS mg P H φ (List.replicate k xs).flatten (List.replicate k vs).flatten
 | 0=>be
 | k + 1=>by rw [List.replicate_succ,List.replicate_succ,List.flatten_cons,List.flatten_cons];exact h.app (FS.rep h k)
theorem xj [FQ] {g:AF}{f:EF}{pos':Pos} (h:QA X es g) (hb:QE X b f):QN X (.BinOp (.List es pos') .Mult b pos) (sE g f) :=
 PE_imp (nX xV (pM h) hb) fun σ H Q hq0=>by
  obtain ⟨P,φ,sl,st,rs,s,xs,st',ef,k⟩:=hq0;obtain ⟨q,e1,e2⟩:=zA ef;obtain ⟨r,e3,e4⟩:=zA e2;split at e4
  ·rename_i j ej
   split at e4
   ·rename_i hc
    cases e4;simp only [zC] at hc;refine ⟨P,φ,sl,st,rs,s,q.1,q.2,e1,fun P1 φ1 H1 vs f1 s1 r1=>⟨by rw [<- r1.length];exact fC hc.2,fun p hp=>?_⟩⟩
    -- the list itself is a cell that nobody has
    obtain ⟨f2,s2⟩:=jk (o:=.lst vs) s1 hp;refine ⟨_,φ1,sl,q.2,(rs.frm f1).frm f2,s2,r.1,r.2,e3,fun P3 φ3 H3 w f3 s3 r3=>?_⟩;rw [ej] at r3;simp only [RA] at r3;subst r3;have hH:H3 p=some (.lst vs):=by rw [(f3.ext p (.inr rfl)).2,aK]
    have hj:=dk hc.1.1;refine ⟨p,j,vs,rfl,rfl,hH,by omega,by omega,by rw [<- r1.length];exact fC hc.1.2,fun p' hp'=>?_⟩;exact k P3 φ3 H3 p' _ ((f1.trans f2).trans f3) s3 hp' (FS.rep ((r1.frm f2).frm f3) _)
   ·cases e4
  ·cases e4
abbrev OF:=Sl->aa->Option (Option Int × aa)
def rO [FQ] (mg:Gm) (f:OF):TO:=fun σ H Q=>∃ P φ sl st,FV mg P H φ sl σ/\Sim mg P φ st H/\KG mg RB P φ H (f sl st) Q
def QO [FQ] (X:Cx) (e:Option Expr) (f:OF):Prop:=PO X e (rO X.gm f)
def CV:OF:=fun _ st=>some (none,st)
def yh (f:EF):OF:=fun sl st=>(f sl st).bind fun p=>match p.1 with
 | .int i=>some (some i,p.2)
 | _=>none
theorem nB (h:PO X eo t) (i:∀ σ H Q,t' σ H Q->t σ H Q):PO X eo t':=fun FO s σ H Q I h'=>h FO s σ H Q I (i σ H Q h')
theorem uR [FQ]:QO X none CV:=nB u9 fun σ H Q ⟨P,φ,sl,st,rs,s,k⟩=>k.pure s rfl
theorem uQ [FQ] {f:EF} (h:QE X e f):QO X (some e) (yh f):=nB (u8 h) fun σ H Q ⟨P,φ,sl,st,rs,s,k⟩=>⟨P,φ,sl,st,rs,s,by
 obtain ⟨a,st',e1,q⟩:=k.bind (Ra:=RA);refine ⟨a,st',e1,fun P1 φ1 H1 c f1 s1 r1=>?_⟩;obtain ⟨P2,φ2,st2,x,f2,s2,r2,k2⟩:=q P1 φ1 H1 c f1 s1 r1;cases x <;> first | exact k2.no.elim | skip
 rename_i i;simp only [RA] at r2;exact ⟨i,r2,k2.pure s2 rfl⟩⟩
def cut {α:Type} (xs:List α) (lo hi:Option Int):List α:=(xs.drop (HT.FZ xs.length 0 lo)).take (HT.FZ xs.length xs.length hi - HT.FZ xs.length 0 lo)
theorem FS.cut (h:FS mg P H φ xs vs) (lo hi:Option Int):FS mg P H φ (R.cut xs lo hi) (j7 vs lo hi):=by
 unfold R.cut j7;rw [h.length];exact (h.drop _).take _
theorem DJ [FQ] {mg:Gm}{f:EF}{l h:OF}{σ:St}{H:Hp}{P:Pr}{φ:List Addr}{sl:Sl}{st:aa} (rs:FV mg P H φ sl σ) (s:Sim mg P φ st H) {r:V->Option Int->Option Int->Hp->VK->Prop}{Q:VK}
  (k:∃ v st1 lo st2 hi st3,f sl st=some (v,st1)/\l sl st1=some (lo,st2)/\h sl st2=some (hi,st3)/\∀ P' φ' H' w,Frm P φ H P' φ' H'->Sim mg P' φ' st3 H'->RA mg P' H' φ' v w->r w lo hi H' Q):CF r (rE mg f) (rO mg l) (rO mg h) σ H Q:=by
 obtain ⟨v,st1,lo,st2,hi,st3,e1,e2,e3,k⟩:=k;refine ⟨P,φ,sl,st,rs,s,v,st1,e1,fun P1 φ1 H1 w f1 s1 r1=>⟨P1,φ1,sl,st1,rs.frm f1,s1,lo,st2,e2,fun P2 φ2 H2 lo' f2 s2 r2=>⟨P2,φ2,sl,st2,(rs.frm f1).frm f2,s2,hi,st3,e3,fun P3 φ3 H3 hi' f3 s3 r3=>?_⟩⟩⟩;cases r2;cases r3;exact k P3 φ3 H3 w ((f1.trans f2).trans f3) s3 ((r1.frm f2).frm f3)
def pZ (f:EF) (l h:OF):NF:=fun sl st=>(f sl st).bind fun p=>(l sl p.2).bind fun q=>(h sl q.2).bind fun r=>(cy r.2 p.1).map fun xs=>(cut xs q.1 r.1,r.2)
theorem Bd [FQ] {f:EF}{l h:OF}{lo hi:Option Expr}{p2:Pos} (ha:QE X a f) (hl:QO X lo l) (hh:QO X hi h):QN X (.Subscript a (.Slice lo hi none p2) pos) (pZ f l h) :=
 PE_imp (rZ uH ha hl hh) fun σ H Q hq0=>by
  obtain ⟨P,φ,sl,st,rs,s,xs,st',ef,k⟩:=hq0;obtain ⟨q,e1,e2⟩:=zA ef;obtain ⟨r,e3,e4⟩:=zA e2;obtain ⟨t,e5,e6⟩:=zA e4;obtain ⟨ys,e7,e8⟩:=zE.mp e6;cases e8;refine DJ rs s ⟨q.1,q.2,r.1,r.2,t.1,t.2,e1,e3,e5,fun P1 φ1 H1 w f1 s1 r1=>?_⟩;obtain ⟨a1,vs,rfl,d1,q1⟩:=r1.ls s1 e7;exact ⟨a1,vs,rfl,d1,fun p hp=>k P1 φ1 H1 p _ f1 s1 hp (q1.cut _ _)⟩
def n9 (f g:EF):NF:=fun sl st=>(f sl st).bind fun p=>(g sl p.2).bind fun q=>match q.1 with
 | .int i=>if i=-1 then (cy q.2 p.1).map fun xs=>(xs.reverse,q.2) else none
 | _=>none
theorem xh [FQ] {f g:EF}{p2:Pos} (ha:QE X a f) (hb:QE X b g):QN X (.Subscript a (.Slice none none (some b) p2) pos) (n9 f g) :=
 PE_imp (sd ha hb) fun σ H Q hq0=>by
  obtain ⟨P,φ,sl,st,rs,s,xs,st',ef,k⟩:=hq0;obtain ⟨q,e1,e2⟩:=zA ef;obtain ⟨r,e3,e4⟩:=zA e2;split at e4
  ·rename_i i ei
   split at e4
   ·rename_i hi
    obtain ⟨ys,e7,e8⟩:=zE.mp e4;cases e8;refine ⟨P,φ,sl,st,rs,s,q.1,q.2,e1,fun P1 φ1 H1 w f1 s1 r1=>⟨P1,φ1,sl,q.2,rs.frm f1,s1,r.1,r.2,e3,fun P2 φ2 H2 w2 f2 s2 r2=>?_⟩⟩;rw [ei] at r2;simp only [RA] at r2;obtain ⟨a1,vs,rfl,d1,q1⟩:=(r1.frm f2).ls s2 e7;exact ⟨by rw [r2,hi],a1,vs,rfl,d1,fun p hp=>k P2 φ2 H2 p _ (f1.trans f2) s2 hp q1.rev⟩
   ·cases e4
  ·cases e4
def oa (f:EF):NF:=fun sl st=>(f sl st).bind fun p=>match cy p.2 p.1 with
 | some xs=>some (xs,p.2)
 | none=>(gg p.2 p.1).map fun xs=>(xs,p.2)
theorem xk [FQ] {f:EF}{p pos:Pos} (hg:Gl X "list") (hm:X.mg "list"=none) (ha:QE X a f) (hs:starEach [a] X.env=[(false,eval a X.env)]):QN X (.Call (.Name "list" p) [a] [] pos) (oa f) :=
 PE_imp (kn md hg hm oG (cw ha er (by rw [hs];rfl)) (he:=by rw [hs];rfl) (hpl:=rfl)) fun σ H Q hq0=>by
  obtain ⟨P,φ,sl,st,rs,s,xs,st',ef,k⟩:=hq0;obtain ⟨q,e1,e2⟩:=zA ef;refine wZ rs s ⟨q.1,q.2,e1,fun P1 φ1 H1 w f1 s1 r1=>?_⟩;split at e2
  ·rename_i ys e3
   cases e2;obtain ⟨a1,vs,rfl,d1,q1⟩:=r1.ls s1 e3;exact ⟨a1,vs,rfl,.inl d1,fun p hp=>k P1 φ1 H1 p vs f1 s1 hp q1⟩
  ·obtain ⟨ys,e3,e4⟩:=zE.mp e2
   cases e4;obtain ⟨a1,vs,rfl,d1,q1⟩:=r1.tp s1 e3;exact ⟨a1,vs,rfl,.inr (.inl (.inl d1)),fun p hp=>k P1 φ1 H1 p vs f1 s1 hp q1⟩
end
abbrev GF:=AV->Sl->aa->Option (Sl × aa)
abbrev mv:=List AV->Sl->aa->Option (Sl × aa)
def KS [FQ] (mg:Gm) (P:Pr) (φ:List Addr) (H:Hp) (r:Option (Sl × aa)) (Q:St->Hp->Prop):Prop :=
 ∃ sl' st',r=some (sl',st')/\∀ P' φ' H' σ',Frm P φ H P' φ' H'->Sim mg P' φ' st' H'->FV mg P' H' φ' sl' σ'->Q σ' H'
def rG [FQ] (mg:Gm) (f:GF):TG:=fun v σ H Q=>∃ P φ sl st x,FV mg P H φ sl σ/\Sim mg P φ st H/\RA mg P H φ x v/\KS mg P φ H (f x sl st) Q
def EN [FQ] (mg:Gm) (f:mv):iN:=fun vs σ H Q=>∃ P φ sl st xs,FV mg P H φ sl σ/\Sim mg P φ st H/\FS mg P H φ xs vs/\KS mg P φ H (f xs sl st) Q
def QG [FQ] (X:Cx) (tg:Expr) (f:GF):Prop:=PG X tg (rG X.gm f)
def qM [FQ] (X:Cx) (tgs:List Expr) (f:mv):Prop:=kO X tgs (EN X.gm f)
def qo (i:Nat):GF:=fun x sl st=>some (sl.set i (some x),st)
def zp:mv:=fun xs sl st=>match xs with
 | []=>some (sl,st)
 | _=>none
def zq (f:GF) (g:mv):mv:=fun xs sl st=>match xs with
 | x::xs=>(f x sl st).bind fun p=>g xs p.1 p.2
 | []=>none
def qm (n:Nat) (g:mv):GF:=fun x sl st=>match gg st x with
 | some xs=>if xs.length=n then g xs sl st else none
 | none=>match cy st x with
  | some xs=>if xs.length=n then g xs sl st else none
  | none=>none
theorem mo (h:kO X tgs t) (i:∀ v σ H Q,t' v σ H Q->t v σ H Q):kO X tgs t':=fun FO s σ H v u Q I rv h'=>h FO s σ H v u Q I rv (i v σ H Q h')
section
variable {X:Cx}{e a b:Expr}{es:List Expr}{pos:Pos}
theorem KS.pure [FQ] {mg:Gm}{P:Pr}{φ:List Addr}{H:Hp}{sl:Sl}{st:aa}{σ:St}{Q:St->Hp->Prop} (h:KS mg P φ H (some (sl,st)) Q) (s:Sim mg P φ st H) (r:FV mg P H φ sl σ):Q σ H:=by
 obtain ⟨_,_,e,q⟩:=h;cases e;exact q P φ H σ Frm.refl s r
theorem uW [FQ] {i:Nat} (hN:X.N.Nodup) (hi:X.N[i]?=some x) (hx:Loc X.env.scope x) (hf:X.fn x=true\/X.env.scope.names.lookup x=some .local):QG X (.Name x pos) (qo i) :=
 PG_imp (vm hN hi hx hf) fun v σ H Q ⟨P,φ,sl,st,x,rs,s,rx,k⟩=>k.pure s (rs.set rx i)
theorem uV [FQ]:qM X [] zp:=mo vi fun v σ H Q hq0=>by
 obtain ⟨P,φ,sl,st,xs,rs,s,rx,k⟩:=hq0;cases xs with
 | nil=>simp only [FS] at rx;exact ⟨rx,k.pure s rs⟩
 | cons _ _=>obtain ⟨_,_,e,_⟩:=k;cases e
theorem rH [FQ] (h1:QG X e f) (h2:qM X es g) (hs:(assignEach (e::es) X.env).map (·.2)=assign e X.env::(assignEach es X.env).map (·.2)):qM X (e::es) (zq f g) :=
 mo (rY h1 h2 hs) fun v σ H Q hq0=>by
  obtain ⟨P,φ,sl,st,xs,rs,s,rx,k⟩:=hq0;cases xs with
  | nil=>obtain ⟨_,_,e,_⟩:=k;cases e
  | cons x xs =>
   simp only [FS] at rx;obtain ⟨w,ws,rfl,r1,r2⟩:=rx;obtain ⟨sl',st',e,q⟩:=k;obtain ⟨p,e1,e2⟩:=zA e;exact ⟨w,ws,rfl,P,φ,sl,st,x,rs,s,r1,p.1,p.2,e1,fun P1 φ1 H1 σ1 f1 s1 rs1=>⟨P1,φ1,p.1,p.2,xs,rs1,s1,r2.frm f1,sl',st',e2,fun P2 φ2 H2 σ2 f2 s2 rs2=>q P2 φ2 H2 σ2 (f1.trans f2) s2 rs2⟩⟩
theorem Bx (h:PG X tg t) (h':PG X tg t'):PG X tg (fun v σ H Q=>t v σ H Q\/t' v σ H Q):=fun FO s σ H v u Q I r q=>by
 rcases q with q | q
 ·exact h FO s σ H v u Q I r q
 ·exact h' FO s σ H v u Q I r q
theorem xn [FQ] {k n:Nat} (hc:X.calm=true) (h:qM X es g) (hn:(assignEach es X.env).length=n) (hst:(assignEach es X.env).findIdx? (·.1)=none):QG X (.Tuple es k pos) (qm n g) :=
 PG_imp (Bx (xJ (k:=k) hc h hn hst) (vj (k:=k) hc h hn hst)) fun v σ H Q hq0=>by
  obtain ⟨P,φ,sl,st,x,rs,s,rx,kk⟩:=hq0;obtain ⟨sl',st',e,q⟩:=kk;unfold qm at e;split at e
  ·rename_i xs ex
   split at e
   ·rename_i hl
    obtain ⟨a1,vs,rfl,d1,q1⟩:=rx.tp s ex;exact .inl ⟨a1,vs,rfl,.inl (.inl d1),by rw [<- q1.length];exact hl,P,φ,sl,st,xs,rs,s,q1,sl',st',e,q⟩
   ·cases e
  ·split at e
   ·rename_i xs ex
    split at e
    ·rename_i hl
     obtain ⟨a1,vs,rfl,d1,q1⟩:=rx.ls s ex;exact .inr ⟨a1,vs,rfl,d1,by rw [<- q1.length];exact hl,P,φ,sl,st,xs,rs,s,q1,sl',st',e,q⟩
    ·cases e
   ·cases e
noncomputable def jV {κ:Type} [DecidableEq κ] (FP:List (κ × AV)) (k:κ) (v:AV):List (κ × AV) :=
 if (FP.any fun kv=>decide (kv.1=k))=true then FP.map fun kv=>if kv.1=k then (kv.1,v) else kv else FP++[(k,v)]
theorem lE {P:Pr}{H:Hp}{φ:List Addr}{κ:Type} [DecidableEq κ] {FP:List (κ × AV)}{ws:List (κ × V)}{k:κ}{v:AV}{w:V} (h:KVR mg P H φ FP ws) (r:RA mg P H φ v w):KVR mg P H φ (jV FP k v) (cR ws k w):=by
 have hany:(FP.any fun kv=>decide (kv.1=k))=(ws.any fun kv=>decide (kv.1=k)):=by
  have h1:∀ {α:Type} (l:List (κ × α)),(l.any fun kv=>decide (kv.1=k))=((l.map (·.1)).any fun x=>decide (x=k)):=fun l=>by rw [List.any_map];rfl
  rw [h1 FP,h1 ws,h.1]
 unfold jV cR;rw [hany];split
 ·clear hany
  rename_i hh;clear hh
  induction FP generalizing ws with
  | nil =>
   have:ws=[]:=by simpa using h.1.symm
   subst this;exact ⟨rfl,be⟩
  | cons p FP ih =>
   cases ws with
   | nil=>exact absurd h.1 (by simp)
   | cons q ws =>
    obtain ⟨h1,h2⟩:=h;rw [zN,zN] at h1 h2;injection h1 with h3 h4;simp only [FS] at h2;obtain ⟨u,us,h5,h6,h7⟩:=h2;injection h5 with h8 h9;subst h8;subst h9;have ih:=ih (ws:=ws) ⟨h4,h7⟩;have h3':p.1=q.1:=h3;by_cases e:q.1=k
    ·rw [zN,zN,yE e,yE (h3'.trans e)]
     exact ⟨by rw [zN,zN,ih.1,h3'],aY r ih.2⟩
    ·rw [zN,zN,yD e,yD (fun z=>e (h3'.symm.trans z))]
     exact ⟨by rw [zN,zN,ih.1,h3'],aY h6 ih.2⟩
 ·refine ⟨by rw [List.map_append,List.map_append,h.1];rfl,?_⟩
  rw [List.map_append,List.map_append];exact h.2.app (aY r be)
def nU (st:aa) (o i v:AV):Option aa:=match o with
 | .ref k=>match st[k]? with
  | some (.lst xs)=>match i with
   | .int j=>(lW xs.length j).map fun n=>st.set k (.lst (xs.set n v))
   | _=>none
  | some (.dK FP)=>(iY i).bind fun x=>if d6 FP.length=true then some (st.set k (.dK (jV FP x v))) else none
  | some (.dT FP)=>match i with
   | .tup is=>(aT iY is).bind fun x=>if d6 FP.length=true then some (st.set k (.dT (jV FP x v))) else none
   | _=>none
  | _=>none
 | _=>none
theorem A2 [FQ] (hu:X.A.units + 64 < cLine):tD X (fun o i v H Q=>∃ P φ st x y z st',Sim X.gm P φ st H/\RA X.gm P H φ x o/\RA X.gm P H φ y i/\RA X.gm P H φ z v/\nU st x y z=some st'/\∀ P' φ' H',Frm P φ H P' φ' H'->Sim X.gm P' φ' st' H'->Q H'):=by
 rintro FO s σ H o i v ov iv u Q I ro ri rv ⟨P,φ,st,x,y,z,st',sm,rx,ry,rz,e,k⟩;unfold nU at e;cases x with
 | ref j =>
  simp only [RA] at rx;obtain ⟨a,ea,rfl⟩:=rx;dsimp only at e;split at e
  ·rename_i xs hk
   obtain ⟨a',ea',c⟩:=sm.at hk;rw [ea] at ea';cases ea';obtain ⟨na,vs,q1,q2⟩:=c;cases y with
   | int n =>
    simp only [RA] at ry;subst ry;obtain ⟨m,e1,e2⟩:=zE.mp e;subst e2;have hp:P a->False:=na;obtain ⟨f3,s3⟩:=dZ (c:=.lst (xs.set m z)) (o:=.lst (vs.set m v)) sm ea na ⟨na,_,aK,(q2.set rz m).mono (fun b h=>⟨h,ae fun e=>na (e ▸ h)⟩) fun _ _ z=>z⟩ (fun _ _ z=>by rw [q1] at z;cases z);exact rk FO s σ H _ _ v ov iv u Q I ro ri rv ⟨a,vs,n,m,rfl,rfl,q1,by rw [<- q2.length];exact e1,k P φ _ f3 s3⟩
   | _=>cases e
  ·rename_i FP hk
   obtain ⟨a',ea',c⟩:=sm.at hk;rw [ea] at ea';cases ea';obtain ⟨na,ws,q1,q2⟩:=c;obtain ⟨x,e1,e2⟩:=zA e;split at e2
   ·rename_i hz
    cases e2
    have:=iX e1 ry
    subst this;cases ro;obtain ⟨f3,s3⟩:=dZ (c:=.dK (jV FP x z)) (o:=.dK (cR ws x v)) sm ea na ⟨na,_,aK,(lE q2 rz).mono (fun b h=>⟨h,ae fun e=>na (e ▸ h)⟩) fun _ _ z=>z⟩ (fun _ _ z=>by rw [q1] at z;cases z);refine kE oM I (DPut.k q1 ?_) ri rv fun s' I'=>⟨_,I',k P φ _ f3 s3⟩
    have:=congrArg List.length q2.1
    rw [zH,zH] at this;rw [<- this];have h1:=zR hz;have h2:(1000000:Nat) < sizeLine:=by decide
    omega
   ·cases e2
  ·rename_i FP hk
   obtain ⟨a',ea',c⟩:=sm.at hk;rw [ea] at ea';cases ea';obtain ⟨na,ws,q1,q2⟩:=c;cases y with
   | tup is =>
    dsimp only at e;obtain ⟨x,e1,e2⟩:=zA e;split at e2
    ·rename_i hz
     cases e2;simp only [RA] at ry;obtain ⟨b,us,rfl,_,hb,rr⟩:=ry;rw [ku e1 rr] at hb;cases ro;obtain ⟨f3,s3⟩:=dZ (c:=.dT (jV FP x z)) (o:=.dT (cR ws x v)) sm ea na ⟨na,_,aK,(lE q2 rz).mono (fun b h=>⟨h,ae fun e=>na (e ▸ h)⟩) fun _ _ z=>z⟩ (fun _ _ z=>by rw [q1] at z;cases z);refine kE oM I (DPut.t q1 hb ?_) ri rv fun s' I'=>⟨_,I',k P φ _ f3 s3⟩
     have:=congrArg List.length q2.1
     rw [zH,zH] at this;rw [<- this];have h1:=zR hz;have h2:(1000000:Nat) < sizeLine:=by decide
     omega
    ·cases e2
   | _=>cases e
  ·cases e
 | _=>cases e
def C6 (f g:EF):GF:=fun x sl st=>(f sl st).bind fun p=>(g sl p.2).bind fun q=>(nU q.2 p.1 q.1 x).map fun st'=>(sl,st')
theorem xo [FQ] (hu:X.A.units + 64 < cLine) (ho:QE X o f) (hi:QE X i g)
  (ha:∀ v,assign (.Subscript o i pos) X.env v=(do
   let ov <- holding [v] (eval o X.env)
   let iv <- holding [v,ov] (eval i X.env)
   standAt pos
   holding [v,ov,iv] (setItem ov iv v)
   release [v,ov,iv] [])):QG X (.Subscript o i pos) (C6 f g) :=
 PG_imp (xK ho hi (A2 hu) ha) fun v σ H Q hq0=>by
  obtain ⟨P,φ,sl,st,x,rs,s,rx,sl',st',e,k⟩:=hq0;obtain ⟨q,e1,e2⟩:=zA e;obtain ⟨r,e3,e4⟩:=zA e2;obtain ⟨z,e5,e6⟩:=zE.mp e4;cases e6;exact ⟨P,φ,sl,st,rs,s,q.1,q.2,e1,fun P1 φ1 H1 w f1 s1 r1=>⟨P1,φ1,sl,q.2,rs.frm f1,s1,r.1,r.2,e3,fun P2 φ2 H2 w2 f2 s2 r2=>⟨P2,φ2,r.2,q.1,r.1,x,st',s2,r1.frm f2,r2,(rx.frm f1).frm f2,e5,fun P3 φ3 H3 f3 s3=>k P3 φ3 H3 σ ((f1.trans f2).trans f3) s3 (((rs.frm f1).frm f2).frm f3)⟩⟩⟩
end
def hid (H:Hp) (p:Addr):Hp:=fun b=>if b=p then none else H b
theorem bo (h:b ≠ p):hid H p b=H b:=yD h
theorem cn:hid H p p=none:=yE rfl
theorem uA (h:H p=some o):ak (hid H p) p o=H:=by
 funext b;by_cases e:b=p
 ·subst e;rw [aK,h]
 ·rw [ae e,bo e]
theorem nc:hid (ak H p o) p=hid H p:=by
 funext b;by_cases e:b=p
 ·subst e;rw [cn,cn]
 ·rw [bo e,bo e,ae e]
theorem sR (h:H p=none):hid H p=H:=by
 funext b;by_cases e:b=p
 ·subst e;rw [cn,h]
 ·rw [bo e]
section
variable {mg:Gm}{P P':Pr}{φ φ':List Addr}{st st':aa}{H H':Hp}{p:Addr}
theorem _root_.L2.di.sh {P:Addr}{pos:Pos}{q:Str} (h:di (hid H p) P pos q):di H P pos q:=by
 obtain ⟨ps,e,t,c⟩:=h;have ne:∀ {a o},hid H p a=some o->H a=some o:=fun {a o} e=>by
  by_cases z:a=p
  ·rw [z,cn] at e;cases e
  ·rw [bo z] at e;exact e
 refine ⟨ps,ne e,t,?_⟩;rcases c with c | ⟨c',c1,c2⟩
 ·exact .inl c
 ·exact .inr ⟨c',c1,ne c2⟩
theorem _root_.L2.di.hd {P:Addr}{pos:Pos}{q:Str} (h:di H P pos q) (hl:∃ vs,H p=some (.lst vs)):di (hid H p) P pos q:=by
 obtain ⟨ps,e,t,c⟩:=h;obtain ⟨vs,hv⟩:=hl;refine ⟨ps,by rw [bo (n5 e hv fun z=>nomatch z)];exact e,t,?_⟩;rcases c with c | ⟨c',c1,c2⟩
 ·exact .inl c
 ·exact .inr ⟨c',c1,by rw [bo (n5 c2 hv fun z=>nomatch z)];exact c2⟩
theorem Sim.sh [FQ] (s:Sim mg P φ st (hid H p)) (o:HO) (ho:H p=some o):Sim mg P φ st H/\∀ a,P a->P a/\H a=hid H p a:=by
 have nP:∀ a,P a->a ≠ p:=fun a h e=>s.dom a h (by rw [e];exact cn)
 have nC:∀ a ∈ φ,a ≠ p:=fun a h e=>s.cd a h (by rw [e];exact cn)
 have ex:∀ a,P a->P a/\H a=hid H p a:=fun a h=>⟨h,(bo (nP a h)).symm⟩
 exact ⟨s.stay ex (fun a h=>(bo (nC a h)).symm) (fun _ _ h=>h) (fun a h=>by rw [(ex a h).2];exact s.dom a h) fun t ht=>⟨(s.tb t ht).1.sh,(s.tb t ht).2⟩,ex⟩
theorem Frm.hd [FQ] (s0:Sim mg P φ st (hid H p)) (hl:∃ vs,H p=some (.lst vs)) (f:Frm P φ H P' φ' H') (s:Sim mg P' φ' st' H'):Frm P φ (hid H p) P' φ' (hid H' p)/\Sim mg P' φ' st' (hid H' p)/\(∀ a,P' a->P' a/\hid H' p a=H' a)/\H' p=H p:=by
 have nP:∀ a,P a->a ≠ p:=fun a h e=>s0.dom a h (by rw [e];exact cn)
 have nC:∀ a ∈ φ,a ≠ p:=fun a h e=>s0.cd a h (by rw [e];exact cn)
 have hp:H p ≠ none:=fun z=>by obtain ⟨vs,e⟩:=hl;rw [z] at e;cases e
 have kp:H' p=H p:=f.keep p hp (fun h=>nC p h rfl) fun ps z=>by obtain ⟨vs,e⟩:=hl;rw [z] at e;cases e
 obtain ⟨m,em,nm⟩:=f.new;have nP':∀ a,P' a->a ≠ p:=fun a h e=>by
  rcases f.pn a h with z | z | z
  ·exact nP a z e
  ·exact hp (by rw [<- e];exact z)
  ·exact nC a z e
 have nC':∀ a ∈ φ',a ≠ p:=fun a h e=>by
  rw [em] at h;rcases zY.mp h with z | z
  ·exact nC a z e
  ·exact hp (by rw [<- e];exact nm a z)
 have hn:∀ a,hid H p a ≠ none->a ≠ p:=fun a h e=>h (by rw [e];exact cn)
 have ex:∀ a,P' a->P' a/\hid H' p a=H' a:=fun a h=>⟨h,bo (nP' a h)⟩
 refine ⟨⟨fun a h=>⟨(f.ext a h).1,by rw [bo (nP a h),bo (nP a h)];exact (f.ext a h).2⟩,⟨m,em,fun a h=>?_⟩,fun a h n z=>?_,fun a h=>?_,fun a h=>?_,fun a o u h=>?_⟩,s.stay ex (fun a h=>bo (nC' a h)) (fun _ _ h=>h) (fun a h=>by rw [(ex a h).2];exact s.dom a h) (fun t ht=>⟨(s.tb t ht).1.hd (by rw [kp];exact hl),(s.tb t ht).2⟩),ex,kp⟩
 ·rw [bo (nC' a (by rw [em];exact zK _ h))];exact nm a h
 ·rw [bo (hn a h),bo (hn a h)]
  rw [bo (hn a h)] at z;rw [bo (hn a h)] at h;exact f.keep a h n z
 ·rcases f.pn a h with z | z | z
  ·exact .inl z
  ·exact .inr (.inl (by rw [bo (nP' a h)];exact z))
  ·exact .inr (.inr z)
 ·rw [bo (hn a h)]
  rw [bo (hn a h)] at h;exact f.sm a h
 ·have ne:=hn a (by rw [h];exact fun z=>nomatch z)
  rw [bo ne] at h ⊢;exact f.fz a o u h
end
def kt (gd:Gd) (g:GF) (t:TF) (f:EF) (sl:Sl):List AV->aa->Option (List AV × aa)
 | [],st=>if bQ gd st=true then some ([],st) else none
 | x::xs,st=>if bQ gd st=true then (g x sl st).bind fun p=>(t p.1 p.2).bind fun q=>if q.1=true then (f p.1 q.2).bind fun r=>(kt gd g t f sl xs r.2).map fun z=>(r.1::z.1,z.2) else kt gd g t f sl xs q.2 else none
def tS (k:Nat) (it:IF) (g:GF) (t:TF) (f:EF):NF:=fun sl st=>(it sl st).bind fun p=>if d6 p.1.FR.length=true then kt p.1.gd g t f (sl++List.replicate k none) p.1.FR p.2 else none
def CD:TF:=fun _ st=>some (true,st)
theorem FV.ext0 (h:FV mg P H φ sl σ) (k:Nat):FV mg P H φ (sl++List.replicate k none) (σ++List.replicate k none):=by
 refine ⟨by rw [zU,zU,h.1,List.length_replicate,List.length_replicate],fun i v e=>?_⟩;have hi:i < sl.length:=by
  rcases yN i sl.length with z | z
  ·exact z
  ·rw [z0 z,List.getElem?_replicate] at e
   split at e <;> cases e
 rw [zM hi] at e;rw [zM (by rw [<- h.1];exact hi)];exact h.2 i v e
def lj (n:Nat) (g:GF):Prop:=∀ x sl st sl' st',g x sl st=some (sl',st')->sl'.length=sl.length/\∀ j,j < n->sl'[j]?=sl[j]?
theorem FV.back {k:Nat} (h:FV mg P H φ sl' σ) (hl:sl'.length=(sl++List.replicate k none).length) (hj:∀ j,j < sl.length->sl'[j]?=(sl++List.replicate k none)[j]?):FV mg P H φ (sl++List.replicate k none) σ:=by
 refine ⟨by rw [<- hl];exact h.1,fun i v e=>?_⟩;have hi:i < sl.length:=by
  rcases yN i sl.length with z | z
  ·exact z
  ·rw [z0 z,List.getElem?_replicate] at e
   split at e <;> cases e
 exact h.2 i v (by rw [hj i hi];exact e)
theorem yX [FQ] {n k:Nat} (hk:lj n g) (hn:σ.length=n) (h:rN mg (tS k it g t f) σ H Q):wI k (rI mg it) (rG mg g) (rT mg t) (rE mg f) σ H Q:=by
 obtain ⟨P,φ,sl,st,rs,s,out,stE,ef,kk⟩:=h;obtain ⟨q,e1,e2⟩:=zA ef;split at e2
 ·rename_i hz
  refine ⟨P,φ,sl,st,rs,s,q.1,q.2,e1,fun P1 φ1 H1 J f1 s1 ij=>fun p hp=>?_⟩;have hsl:sl.length=n:=by rw [rs.1];exact hn
  refine ⟨fun i m σ' H'=>m=q.1.FR.length - i/\i <= q.1.FR.length/\∃ P' φ' st' xs vs zs,Frm P1 φ1 H1 P' φ' (hid H' p)/\Sim mg P' φ' st' (hid H' p)/\FV mg P' (hid H' p) φ' (sl++List.replicate k none) σ'/\H' p=some (.lst vs)/\FS mg P' (hid H' p) φ' xs vs/\xs.length <= i /\
    kt q.1.gd g t f (sl++List.replicate k none) (q.1.FR.drop i) st'=some (zs,stE)/\out=xs++zs,⟨_,rfl,Nat.zero_le _,P1,φ1,q.2,[],[],out,?_⟩,?_⟩
  ·have e:hid (ak H1 p (.lst [])) p=H1:=by rw [nc,sR hp]
   rw [e];exact ⟨Frm.refl,s1,(rs.frm f1).ext0 k,aK,be,zO _,by simpa using e2,rfl⟩
  ·rintro i m σ' H' ⟨rfl,hle,P2,φ2,st2,xs,vs,zs,f2,s2,rs2,hv,rx,hlen,eg,eo⟩
   obtain ⟨s2v,ex2⟩:=s2.sh _ hv;have rs2v:FV mg P2 H' φ2 (sl++List.replicate k none) σ':=⟨rs2.1,fun i v e=>let ⟨w,e',r⟩:=rs2.2 i v e;⟨w,e',r.mono ex2 fun _ _ z=>z⟩⟩;have hpn:H' p ≠ none:=by rw [hv];exact fun z=>nomatch z
   -- the iterator's rules hold at the whole heap: it keeps what is out of sight as it is
   have f2v:Frm P1 φ1 H1 P2 φ2 H':=by
    refine ⟨fun a h=>⟨(f2.ext a h).1,?_⟩,f2.new,fun a h n z=>?_,fun a h=>f2.pn a h,fun a h=>?_,fun a o u h=>?_⟩
    ·have ne:a ≠ p:=fun e=>s1.dom a h (by rw [e];exact hp)
     rw [<- bo (H:=H') ne];exact (f2.ext a h).2
    ·have ne:a ≠ p:=fun e=>h (by rw [e];exact hp)
     rw [<- bo (H:=H') ne];exact f2.keep a h n z
    ·have ne:a ≠ p:=fun e=>h (by rw [e];exact hp)
     rw [<- bo (H:=H') ne];exact f2.sm a h
    ·have ne:a ≠ p:=bc h hp
     rw [<- bo (H:=H') ne];exact f2.fz a o u h
   rcases yN i q.1.FR.length with hi | hi
   ·right
    rw [List.drop_eq_getElem_cons hi] at eg;simp only [kt] at eg;split at eg
    ·rename_i hgd
     obtain ⟨go,yl⟩:=ij.go P2 φ2 H' st2 i _ f2v s2v hgd (zF hi);refine ⟨go,fun x H3 hy=>?_⟩;obtain ⟨P3,f3,s3,r3⟩:=yl x H3 hy;obtain ⟨q4,e4,e5⟩:=zA eg;obtain ⟨q6,e6,e7⟩:=zA e5;obtain ⟨kl,kj⟩:=hk _ _ _ _ _ e4;refine ⟨P3,φ2,sl++List.replicate k none,st2,q.1.FR[i],rs2v.frm f3,s3,r3,q4.1,q4.2,e4,fun P4 φ4 H4 σ4 f4 s4 rs4=>⟨P4,φ4,q4.1,q4.2,rs4,s4,q6.1,q6.2,e6,fun P5 φ5 H5 c f5 s5 r5=>?_⟩⟩;cases r5;have f35:=(f3.trans f4).trans f5;have back:∀ {P6:Pr}{φ6:List Addr}{H6:Hp},Frm P5 φ5 H5 P6 φ6 H6->FV mg P6 H6 φ6 (sl++List.replicate k none) σ4:=fun f6=>((rs4.frm f5).frm f6).back kl fun j hj=>kj j oM
     cases hc:q6.1 with
     | true =>
      rw [hc] at e7;simp only [if_true] at e7 ⊢;obtain ⟨q8,e8,e9⟩:=zA e7;obtain ⟨z,e10,e11⟩:=zE.mp e9;cases e11;refine ⟨P5,φ5,q4.1,q6.2,rs4.frm f5,s5,q8.1,q8.2,e8,fun P6 φ6 H6 y f6 s6 r6=>?_⟩;obtain ⟨fh,sh,exh,hpe⟩:=Frm.hd s2 ⟨_,hv⟩ (f35.trans f6) s6;refine ⟨vs,by rw [hpe];exact hv,?_,q.1.FR.length - (i + 1),by omega,rfl,hi,P6,φ6,q8.2,xs++[q8.1],vs++[y],z.1,?_⟩
      ·rw [<- rx.length]
       have h1:=zR hz;have h2:(1000000:Nat) < sizeLine:=by decide
       omega
      ·have eh:hid (ak H6 p (.lst (vs++[y]))) p=hid H6 p:=nc
       rw [eh];refine ⟨f2.trans fh,sh,?_,aK,(rx.frm fh).app (aY (r6.mono exh fun _ _ z=>z) be),by rw [zU];simp;omega,e10,by rw [eo,yI];rfl⟩
       have:=back f6
       exact ⟨this.1,fun i v e=>let ⟨w,e',r⟩:=this.2 i v e;⟨w,e',r.mono exh fun _ _ z=>z⟩⟩
     | false =>
      rw [hc] at e7;simp only [z5,if_false] at e7 ⊢;obtain ⟨fh,sh,exh,hpe⟩:=Frm.hd s2 ⟨_,hv⟩ f35 s5;refine ⟨q.1.FR.length - (i + 1),by omega,rfl,hi,P5,φ5,q6.2,xs,vs,zs,f2.trans fh,sh,?_,by rw [hpe];exact hv,rx.frm fh,by omega,e7,eo⟩
      have:=back Frm.refl
      exact ⟨this.1,fun i v e=>let ⟨w,e',r⟩:=this.2 i v e;⟨w,e',r.mono exh fun _ _ z=>z⟩⟩
    ·cases eg
   ·left
    have ei:i=q.1.FR.length:=Nat.le_antisymm hle hi;subst ei;rw [List.drop_length] at eg;simp only [kt] at eg;split at eg
    ·rename_i hgd
     cases eg;refine ⟨ij.stop P2 φ2 H' _ f2v s2v hgd,?_⟩
     have:=kk P2 φ2 (hid H' p) p vs (f1.trans f2) s2 cn (by rw [eo,List.append_nil];exact rx)
     rw [uA hv] at this;exact this
    ·cases eg
 ·cases e2
def qL [FQ] (X:Cx) (ifs:List Expr) (t:TF):Prop:=nD X ifs (rT X.gm t)
section
variable {X:Cx}{elt iter tg:Expr}{ifs:List Expr}{N':List Str}{scope:Scope}{pos:Pos}{it:IF}{g:GF}{t:TF}{f:EF}
theorem uU [FQ]:qL X [] CD:=fun FO s σ H Q I ⟨P,φ,sl,st,rs,sm,k⟩=>vg FO s σ H Q I (k.pure sm rfl)
theorem uT [FQ] (h:QT X e t):qL X [e] t:=vf h
theorem AE {e:Expr}{t t':TE} (h:PE X e t) (i:∀ σ H Q,σ.length=X.N.length->t' σ H Q->t σ H Q):PE X e t':=fun FO s σ H Q I h'=>h FO s σ H Q I (i σ H Q I.len h')
theorem AD {st:Stmt}{t t':TS} (h:PS X st t) (i:∀ D σ H,σ.length=X.N.length->t' D σ H->t D σ H):PS X st t':=fun FO s σ H D I h'=>h FO s σ H D I (i D σ H I.len h')
theorem Be [FQ] (hc:X.calm=true) (T:gY X N' scope) (hi:QI X tg iter it) (hg:∀ cl s H fp FO,QG (bU X N' scope cl s H fp FO) tg g) (ht:∀ cl s H fp FO,qL (bU X N' scope cl s H fp FO) ifs t)
  (he:∀ cl s H fp FO,QE (bU X N' scope cl s H fp FO) elt f) (hk:lj X.N.length g) (hs:∀ x,foldedSetIterable iter X.env x=pure x):QN X (.ListComp elt [⟨tg,iter,ifs,0⟩] scope pos) (tS (N'.length - X.N.length) it g t f) :=
 AE (BA (g:=rG X.gm g) (tt:=rT X.gm t) (te:=rE X.gm f) hc T hi (fun cl s H fp FO=>hg cl s H fp FO) (fun cl s H fp FO=>ht cl s H fp FO) (fun cl s H fp FO=>he cl s H fp FO) hs) fun σ H Q hl h=>yX hk hl h
end
inductive Out where
 | nx (sl:Sl) (st:aa) | rt (v:AV) (st:aa) | bk (sl:Sl) (st:aa) | ct (sl:Sl) (st:aa)
abbrev SF:=Sl->aa->Option Out
def ThO [FQ] (mg:Gm) (P:Pr) (φ:List Addr) (H:Hp) (D:fB):Out->Prop
 | .nx sl st=>∀ P' φ' H' σ',Frm P φ H P' φ' H'->Sim mg P' φ' st H'->FV mg P' H' φ' sl σ'->D.nx σ' H'
 | .bk sl st=>∀ P' φ' H' σ',Frm P φ H P' φ' H'->Sim mg P' φ' st H'->FV mg P' H' φ' sl σ'->D.bk σ' H'
 | .ct sl st=>∀ P' φ' H' σ',Frm P φ H P' φ' H'->Sim mg P' φ' st H'->FV mg P' H' φ' sl σ'->D.ct σ' H'
 | .rt v st=>∀ P' φ' H' w,Frm P φ H P' φ' H'->Sim mg P' φ' st H'->RA mg P' H' φ' v w->D.rt w H'
def KO [FQ] (mg:Gm) (P:Pr) (φ:List Addr) (H:Hp) (r:Option Out) (D:fB):Prop:=∃ o,r=some o/\ThO mg P φ H D o
def rS [FQ] (mg:Gm) (f:SF):TS:=fun D σ H=>∃ P φ sl st,FV mg P H φ sl σ/\Sim mg P φ st H/\KO mg P φ H (f sl st) D
def QS [FQ] (X:Cx) (st:Stmt) (f:SF):Prop:=PS X st (rS X.gm f)
def gX [FQ] (X:Cx) (sts:List Stmt) (f:SF):Prop:=PSs X sts (rS X.gm f)
theorem ThO.frm [FQ] (h:ThO mg P φ H D o) (f:Frm P φ H P1 φ1 H1):ThO mg P1 φ1 H1 D o:=by
 cases o with
 | nx sl st=>exact fun P' φ' H' σ' f'=>h P' φ' H' σ' (f.trans f')
 | bk sl st=>exact fun P' φ' H' σ' f'=>h P' φ' H' σ' (f.trans f')
 | ct sl st=>exact fun P' φ' H' σ' f'=>h P' φ' H' σ' (f.trans f')
 | rt v st=>exact fun P' φ' H' σ' f'=>h P' φ' H' σ' (f.trans f')
theorem KO.bindE [FQ] {α β:Type}{Ra:Gm->Pr->Hp->List Addr->α->β->Prop}{m:Option (α × aa)}{k:α × aa->Option Out} (h:KO mg P φ H (m.bind k) D) :
  KG mg Ra P φ H m fun b H1=>∃ P1 φ1 st1 a,Frm P φ H P1 φ1 H1/\Sim mg P1 φ1 st1 H1/\Ra mg P1 H1 φ1 a b/\KO mg P1 φ1 H1 (k (a,st1)) D:=by
 obtain ⟨o,e,q⟩:=h;cases m with
 | none=>cases e
 | some p=>exact ⟨p.1,p.2,rfl,fun P1 φ1 H1 b f s r=>⟨P1,φ1,p.2,p.1,f,s,r,o,e,q.frm f⟩⟩
theorem KO.nx [FQ] {mg:Gm}{P:Pr}{φ:List Addr}{H:Hp}{sl:Sl}{st:aa}{D:fB}{σ:St} (h:KO mg P φ H (some (.nx sl st)) D) (s:Sim mg P φ st H) (r:FV mg P H φ sl σ):D.nx σ H:=by
 obtain ⟨o,e,q⟩:=h;cases e;exact q P φ H σ Frm.refl s r
theorem KO.no [FQ] (h:KO mg P φ H none D):False:=by obtain ⟨_,e,_⟩:=h;cases e
section
variable {X:Cx}{st:Stmt}{rest:List Stmt}{e c tg:Expr}{pos:Pos}{s t:SF}{f:EF}{g:GF}{b:TF}
def CM:SF:=fun sl st=>some (.nx sl st)
def CK (s t:SF):SF:=fun sl st=>(s sl st).bind fun o=>match o with
 | .nx sl st=>t sl st
 | o=>some o
theorem uM [FQ]:gX X [] CM:=PSs_imp u5 fun D σ H ⟨P,φ,sl,st,rs,s,k⟩=>k.nx s rs
theorem rD [FQ] (h1:QS X st s) (h2:gX X rest t):gX X (st::rest) (CK s t):=PSs_imp (rQ h1 h2) fun D σ H hq0=>by
 obtain ⟨P,φ,sl,st,rs,sm,o,e,q⟩:=hq0;obtain ⟨o1,e1,e2⟩:=zA e;refine ⟨P,φ,sl,st,rs,sm,o1,e1,?_⟩;cases o1 with
 | nx sl1 st1=>exact fun P' φ' H' σ' f' s' rs'=>⟨P',φ',sl1,st1,rs',s',o,e2,q.frm f'⟩
 | bk sl1 st1=>cases e2;exact q
 | ct sl1 st1=>cases e2;exact q
 | rt v st1=>cases e2;exact q
def tI:SF:=fun _ _=>none
theorem uP [FQ]:QS X st tI:=PS_imp rV fun D σ H ⟨P,φ,sl,st,rs,s,k⟩=>k.no
theorem rC [FQ]:gX X sts tI:=PSs_imp pC fun D σ H ⟨P,φ,sl,st,rs,s,k⟩=>k.no
def CP (f:EF):SF:=fun sl st=>(f sl st).bind fun p=>some (.nx sl p.2)
theorem uO [FQ] (he:QE X e f) (hs:swapsWith e none pos.line X.env=pure false):QS X (.Expr e pos) (CP f):=PS_imp (u7 he hs) fun D σ H ⟨P,φ,sl,st,rs,s,k⟩=>⟨P,φ,sl,st,rs,s,by
 obtain ⟨a,st',e1,q⟩:=k.bindE (Ra:=RA);refine ⟨a,st',e1,fun P1 φ1 H1 w f1 s1 r1=>?_⟩;obtain ⟨P2,φ2,st2,x,f2,s2,r2,k2⟩:=q P1 φ1 H1 w f1 s1 r1;exact k2.nx s2 (rs.frm f2)⟩
def CL (f:EF):SF:=fun sl st=>(f sl st).bind fun p=>some (.rt p.1 p.2)
theorem xc [FQ] (he:QE X e f):QS X (.Return (some e) pos) (CL f):=PS_imp (xC he) fun D σ H ⟨P,φ,sl,st,rs,s,k⟩=>⟨P,φ,sl,st,rs,s,by
 obtain ⟨a,st',e1,q⟩:=k.bindE (Ra:=RA);refine ⟨a,st',e1,fun P1 φ1 H1 w f1 s1 r1=>?_⟩;obtain ⟨P2,φ2,st2,x,f2,s2,r2,o,eo,q2⟩:=q P1 φ1 H1 w f1 s1 r1;cases eo;exact q2 P2 φ2 H1 w Frm.refl s2 r2⟩
def CN (b:TF) (s t:SF):SF:=fun sl st=>(b sl st).bind fun p=>if p.1=true then s sl p.2 else t sl p.2
theorem Bb [FQ] (hc:QT X c b) (ha:gX X x s) (hb:gX X y t):QS X (.If c x y pos) (CN b s t):=PS_imp (Bs hc ha hb) fun D σ H ⟨P,φ,sl,st,rs,sm,k⟩=>⟨P,φ,sl,st,rs,sm,by
 obtain ⟨a,st',e1,q⟩:=k.bindE (Ra:=RB);refine ⟨a,st',e1,fun P1 φ1 H1 w f1 s1 r1=>?_⟩;obtain ⟨P2,φ2,st2,x,f2,s2,r2,k2⟩:=q P1 φ1 H1 w f1 s1 r1;cases r2;cases w with
 | true=>exact ⟨P2,φ2,sl,st2,rs.frm f2,s2,k2⟩
 | false=>exact ⟨P2,φ2,sl,st2,rs.frm f2,s2,k2⟩⟩
def pf (f:EF) (g:GF):SF:=fun sl st=>(f sl st).bind fun p=>(g p.1 sl p.2).bind fun q=>some (.nx q.1 q.2)
theorem oK [FQ] (h:rS mg (pf f g) D σ H):nR (rE mg f) (rG mg g) D σ H:=by
 obtain ⟨P,φ,sl,st,rs,s,o,e,q⟩:=h;obtain ⟨p,e1,e2⟩:=zA e;obtain ⟨r,e3,e4⟩:=zA e2;cases e4;exact ⟨P,φ,sl,st,rs,s,p.1,p.2,e1,fun P1 φ1 H1 w f1 s1 r1=>⟨P1,φ1,sl,p.2,p.1,rs.frm f1,s1,r1,r.1,r.2,e3,fun P2 φ2 H2 σ2 f2 s2 rs2=>q P2 φ2 H2 σ2 (f1.trans f2) s2 rs2⟩⟩
theorem pr [FQ] (he:QE X e f) (hg:QG X tg g) (hs:swapsWithSole [tg] e pos.line X.env=pure false) (hw:swappedStores [tg] e X.env=pure none) (h1:(assignEach [tg] X.env).map (·.2)=[assign tg X.env]):QS X (.Assign [tg] e pos) (pf f g) :=
 PS_imp (xE he hg hs hw h1) fun D σ H h=>oK h
theorem yn [FQ] {i:Nat} (h:rG mg (qo i) v σ H Q):jw i v σ H Q:=by
 obtain ⟨P,φ,sl,st,x,rs,s,rx,k⟩:=h;exact k.pure s (rs.set rx i)
theorem pq [FQ] {i:Nat} (hN:X.N.Nodup) (hi:X.N[i]?=some x) (hx:Loc X.env.scope x) (he:QE X e f) (hs:swapsWith e (some (.Name x pos')) pos.line X.env=pure false) (hf:X.fn x=true\/X.env.scope.names.lookup x=some .local) :
  QS X (.Assign [.Name x pos'] e pos) (pf f (qo i)):=PS_imp (xB hN hi hx he hs hf) fun D σ H h=>by
 obtain ⟨P,φ,sl,st,rs,s,p1,p2,e1,k⟩:=oK h;exact ⟨P,φ,sl,st,rs,s,p1,p2,e1,fun P1 φ1 H1 w f1 s1 r1=>yn (k P1 φ1 H1 w f1 s1 r1)⟩
def um (m:Bool) (f:NF):EF:=if m=true then E5 f else E6 f
theorem yj [FQ] {mg:Gm}{m:Bool}{f:NF}{σ:St}{H:Hp}{Q:VK} (h:rE mg (um m f) σ H Q):rN mg f σ H Q:=by
 obtain ⟨P,φ,sl,st,rs,s,v,st',ev,k⟩:=h;cases m with
 | true =>
  obtain ⟨q,e1,e2⟩:=zA ev;cases e2;refine ⟨P,φ,sl,st,rs,s,q.1,q.2,e1,fun P1 φ1 H1 p vs f1 s1 hp r1=>?_⟩;obtain ⟨f3,s3,r3⟩:=yr s1 hp r1;exact k P1 _ _ _ (f1.trans f3) s3 r3
 | false =>
  obtain ⟨q,e1,e2⟩:=zA ev;split at e2
  ·rename_i hr
   cases e2;refine ⟨P,φ,sl,st,rs,s,q.1,q.2,e1,fun P1 φ1 H1 p vs f1 s1 hp r1=>?_⟩;obtain ⟨P3,f3,s3,r3⟩:=zt s1 hp hr r1;exact k P3 φ1 _ _ (f1.trans f3) s3 r3
  ·cases e2
theorem Bl [FQ] {m:Bool}{f:NF} (h:QN X e f):QE X e (um m f):=PE_imp h fun _ _ _ q=>yj q
theorem pj [FQ] {i:Nat}{y:Str}{py:Pos}{elt iter tg:Expr}{ifs:List Expr}{N':List Str}{scope:Scope}{pos spos:Pos}{it:IF}{g:GF}{t:TF}{f:EF}{m:Bool} (hN:X.N.Nodup) (hiN:X.N[i]?=some y) (hx:Loc X.env.scope y)
  (hsw:swapsWith (.ListComp elt [⟨tg,iter,ifs,0⟩] scope pos) (some (.Name y py)) spos.line X.env=pure true)
  (hc:X.calm=true) (T:gY X N' scope) (hi:QI X tg iter it) (hg:∀ cl s H fp FO,QG (bU X N' scope cl s H fp FO) tg g) (ht:∀ cl s H fp FO,qL (bU X N' scope cl s H fp FO) ifs t)
  (he:∀ cl s H fp FO,QE (bU X N' scope cl s H fp FO) elt f) (hk:lj X.N.length g) (hs:∀ x,foldedSetIterable iter X.env x=pure x) (hf:X.fn y=true\/X.env.scope.names.lookup y=some .local) :
  QS X (.Assign [.Name y py] (.ListComp elt [⟨tg,iter,ifs,0⟩] scope pos) spos) (pf (um m (tS (N'.length - X.N.length) it g t f)) (qo i)) :=
 AD (pD (g:=rG X.gm g) (tt:=rT X.gm t) (te:=rE X.gm f) hN hiN hx hsw hc T hi (fun cl s H fp FO=>hg cl s H fp FO) (fun cl s H fp FO=>ht cl s H fp FO) (fun cl s H fp FO=>he cl s H fp FO) hs hf) fun D σ H hl h=>by
  obtain ⟨P,φ,sl,st,rs,s,p1,p2,e1,k⟩:=oK h;exact yX hk hl (yj (m:=m) ⟨P,φ,sl,st,rs,s,p1,p2,e1,fun P1 φ1 H1 w f1 s1 r1=>yn (k P1 φ1 H1 w f1 s1 r1)⟩)
end
def cp (gd:Gd) (g:GF) (s:SF):List AV->Sl->aa->Option Out
 | [],sl,st=>if bQ gd st=true then some (.nx sl st) else none
 | x::xs,sl,st=>if bQ gd st=true then (g x sl st).bind fun p=>(s p.1 p.2).bind fun o=>match o with
  | .nx sl st=>cp gd g s xs sl st
  | .ct sl st=>cp gd g s xs sl st
  | .bk sl st=>some (.nx sl st)
  | .rt v st=>some (.rt v st) else none
def CO (it:IF) (g:GF) (s:SF):SF:=fun sl st=>(it sl st).bind fun p=>cp p.1.gd g s p.1.FR sl p.2
def gr (t:TF) (s:SF):Nat->Sl->aa->Option Out
 | 0,_,_=>none
 | n + 1,sl,st=>(t sl st).bind fun p=>if p.1=true then (s sl p.2).bind fun o=>match o with
  | .nx sl st=>gr t s n sl st
  | .ct sl st=>gr t s n sl st
  | .bk sl st=>some (.nx sl st)
  | .rt v st=>some (.rt v st) else some (.nx sl p.2)
open Classical in
def pe (t:TF) (s:SF):SF:=fun sl st=>if h:∃ n,(gr t s n sl st).isSome=true then gr t s (Classical.choose h) sl st else none
theorem yg {t:TF}{s:SF}{sl:Sl}{st:aa}{o:Out} (h:pe t s sl st=some o):∃ n,gr t s n sl st=some o:=by
 unfold pe at h;split at h
 ·exact ⟨_,h⟩
 ·cases h
section
variable {X:Cx}{tg iter c:Expr}{body:List Stmt}{pos:Pos}{it:IF}{g:GF}{s:SF}{t:TF}
theorem xf [FQ] (hp:PassesOwn (model X.prog X.w) X.A X.env X.xe) (hc:X.calm=true) (hi:QI X tg iter it) (hg:QG X tg g) (hb:gX X body s) (hs:∀ x,foldedSetIterable iter X.env x=pure x):QS X (.For tg iter body [] pos) (CO it g s) :=
 PS_imp (pE hp hc hi hg hb hs) fun D σ H hq0=>by
  obtain ⟨P,φ,sl,st,rs,sm,o,e,q⟩:=hq0;obtain ⟨p,e1,e2⟩:=zA e;refine ⟨P,φ,sl,st,rs,sm,p.1,p.2,e1,fun P1 φ1 H1 J f1 s1 ij=>?_⟩;have q1:=q.frm f1;refine ⟨fun i m σ' H'=>m=p.1.FR.length - i/\i <= p.1.FR.length/\∃ P' φ' sl' st',Frm P1 φ1 H1 P' φ' H'/\Sim X.gm P' φ' st' H'/\FV X.gm P' H' φ' sl' σ'/\cp p.1.gd g s (p.1.FR.drop i) sl' st'=some o,⟨_,rfl,Nat.zero_le _,P1,φ1,sl,p.2,Frm.refl,s1,rs.frm f1,by simpa using e2⟩,?_⟩;rintro i m σ' H' ⟨rfl,hle,P2,φ2,sl2,st2,f2,s2,rs2,eg⟩;rcases yN i p.1.FR.length with hlt | hge
  ·right
   rw [List.drop_eq_getElem_cons hlt] at eg;simp only [cp] at eg;split at eg
   ·rename_i hgd
    obtain ⟨go,yl⟩:=ij.go P2 φ2 H' st2 i _ f2 s2 hgd (zF hlt);obtain ⟨q4,e4,e5⟩:=zA eg;obtain ⟨o1,e6,e7⟩:=zA e5;refine ⟨go,fun σ' H'=>∃ P' φ' sl' st',Frm P1 φ1 H1 P' φ' H'/\Sim X.gm P' φ' st' H'/\FV X.gm P' H' φ' sl' σ'/\cp p.1.gd g s (p.1.FR.drop (i + 1)) sl' st'=some o,fun σ' H' z=>⟨_,by omega,rfl,hlt,z⟩,fun x H3 hy=>?_⟩;obtain ⟨P3,f3,s3,r3⟩:=yl x H3 hy;refine ⟨P3,φ2,sl2,st2,_,rs2.frm f3,s3,r3,q4.1,q4.2,e4,fun P4 φ4 H4 σ4 f4 s4 rs4=>⟨P4,φ4,q4.1,q4.2,rs4,s4,o1,e6,?_⟩⟩;have fa:=(f2.trans f3).trans f4;cases o1 with
    | nx sl5 st5=>exact fun P5 φ5 H5 σ5 f5 s5 rs5=>⟨P5,φ5,sl5,st5,fa.trans f5,s5,rs5,e7⟩
    | ct sl5 st5=>exact fun P5 φ5 H5 σ5 f5 s5 rs5=>⟨P5,φ5,sl5,st5,fa.trans f5,s5,rs5,e7⟩
    | bk sl5 st5=>cases e7;exact fun P5 φ5 H5 σ5 f5 s5 rs5=>q1 P5 φ5 H5 σ5 (fa.trans f5) s5 rs5
    | rt v st5=>cases e7;exact fun P5 φ5 H5 w f5 s5 r5=>q1 P5 φ5 H5 w (fa.trans f5) s5 r5
   ·cases eg
  ·left
   have ei:i=p.1.FR.length:=Nat.le_antisymm hle hge;subst ei;rw [List.drop_length] at eg;simp only [cp] at eg;split at eg
   ·rename_i hgd
    cases eg;exact ⟨ij.stop P2 φ2 H' _ f2 s2 hgd,q1 P2 φ2 H' σ' f2 s2 rs2⟩
   ·cases eg
theorem rF [FQ] (hp:PassesOwn (model X.prog X.w) X.A X.env X.xe) (hc:QT X c t) (hb:gX X body s):QS X (.While c body [] pos) (pe t s) :=
 PS_imp (rR hp hc hb) fun D σ H hq0=>by
  obtain ⟨P,φ,sl,st,rs,sm,o,e,q⟩:=hq0;obtain ⟨n0,e0⟩:=yg e;refine ⟨fun m σ' H'=>∃ P' φ' sl' st',Frm P φ H P' φ' H'/\Sim X.gm P' φ' st' H'/\FV X.gm P' H' φ' sl' σ'/\gr t s m sl' st'=some o,⟨n0,P,φ,sl,st,Frm.refl,sm,rs,e0⟩,?_⟩;rintro m σ' H' ⟨P2,φ2,sl2,st2,f2,s2,rs2,eg⟩;cases m with
  | zero=>cases eg
  | succ m =>
   simp only [gr] at eg;obtain ⟨p,e1,e2⟩:=zA eg;refine ⟨P2,φ2,sl2,st2,rs2,s2,p.1,p.2,e1,fun P3 φ3 H3 b f3 s3 r3=>?_⟩;cases r3;cases hb':p.1 with
   | true =>
    rw [hb'] at e2;simp only [if_true] at e2 ⊢;obtain ⟨o1,e6,e7⟩:=zA e2;refine ⟨fun σ' H'=>∃ P' φ' sl' st',Frm P φ H P' φ' H'/\Sim X.gm P' φ' st' H'/\FV X.gm P' H' φ' sl' σ'/\gr t s m sl' st'=some o,fun σ' H' z=>⟨m,Nat.lt_succ_self m,z⟩,P3,φ3,sl2,p.2,rs2.frm f3,s3,o1,e6,?_⟩;have fa:=f2.trans f3;cases o1 with
    | nx sl5 st5=>exact fun P5 φ5 H5 σ5 f5 s5 rs5=>⟨P5,φ5,sl5,st5,fa.trans f5,s5,rs5,e7⟩
    | ct sl5 st5=>exact fun P5 φ5 H5 σ5 f5 s5 rs5=>⟨P5,φ5,sl5,st5,fa.trans f5,s5,rs5,e7⟩
    | bk sl5 st5=>cases e7;exact fun P5 φ5 H5 σ5 f5 s5 rs5=>q P5 φ5 H5 σ5 (fa.trans f5) s5 rs5
    | rt v st5=>cases e7;exact fun P5 φ5 H5 w f5 s5 r5=>q P5 φ5 H5 w (fa.trans f5) s5 r5
   | false =>
    rw [hb'] at e2;simp only [z5,if_false] at e2 ⊢;cases e2;exact q P3 φ3 H3 σ' (f2.trans f3) s3 (rs2.frm f3)
end
abbrev Fn:=List AV->aa->Option (AV × aa)
def cu [FQ] (mg:Gm) (n:Nat) (fn:Fn):Sp:=fun vs H Q _=>vs.length=n/\∃ P φ args st,FS mg P H φ args vs/\Sim mg P φ st H/\KG mg RA P φ H (fn args st) Q
def bZ:Nat->aa->AV->Option AV
 | n + 1,st,.ref k=>match st[k]? with
  | some (.lst xs)=>(aT (bZ n st) xs).map .fz
  | some (.al t)=>some t
  | _=>none
 | n + 1,st,.tup xs=>(aT (bZ n st) xs).map .tup
 | 0,_,.ref _=>none
 | 0,_,.tup _=>none
 | _,_,t=>some t
def km:aa->AV->Option AV:=bZ 6
mutual
noncomputable def cV:AV->Bool
 | .ref _=>false
 | .fz _=>false
 | .tup xs=>k8 xs
 | _=>true
noncomputable def k8:List AV->Bool
 | []=>true
 | x::xs=>cV x && k8 xs
end
def zv (st:aa) (x:AV):Option (AV × aa):=if rf x=true then some (x,st) else match x with
 | .ref k=>match st[k]? with
  | some (.lst xs)=>if rfs xs=true then some (.fz xs,st.set k (.al (.fz xs))) else none
  | some (.al t)=>some (t,st)
  | _=>none
 | _=>none
def t8:aa->List AV->Option (List AV × aa)
 | st,[]=>some ([],st)
 | st,x::xs=>(zv st x).bind fun p=>(t8 p.2 xs).map fun q=>(p.1::q.1,q.2)
def pm (fn:Fn):Fn:=fun args st=>if rfs args=true then (fn args []).bind fun p=>(km p.2 p.1).map fun t=>(t,st)
 else (aT (km st) args).bind fun ts=>(fn ts []).bind fun p=>(km p.2 p.1).bind fun t=>if cV t=true then some (t,st) else
  (t8 st args).bind fun q=>(fn q.1 []).bind fun p=>(km p.2 p.1).map fun t=>(t,q.2)
section
variable {mg:Gm}{P:Pr}{φ:List Addr}{st:aa}{H:Hp}
theorem rn [FQ] {n:Nat} (ih:∀ v w t,bZ n st v=some t->RA mg P H φ v w->RA mg P' H [] t w):∀ {xs:List AV}{vs:List V}{ts:List AV},aT (bZ n st) xs=some ts->FS mg P H φ xs vs->FS mg P' H [] ts vs:=by
 intro xs
 induction xs with
 | nil=>intro vs ts e r;cases e;simp only [FS] at r ⊢;exact r
 | cons x xs ihx =>
  intro vs ts e r;simp only [aT] at e;obtain ⟨y,e1,e2⟩:=zA e;obtain ⟨ys,e3,e4⟩:=zE.mp e2;subst e4;simp only [FS] at r;obtain ⟨v,ws,rfl,r1,r2⟩:=r;exact aY (ih x v y e1 r1) (ihx e3 r2)
theorem lz [FQ] (s:Sim mg P φ st H):∀ (n:Nat) (v:AV) (w:V) (t:AV),bZ n st v=some t->RA mg P H φ v w->RA mg (fun a=>P a\/a ∈ φ) H [] t w:=by
 have ex:∀ a,P a->(P a\/a ∈ φ)/\H a=H a:=fun a h=>⟨.inl h,rfl⟩
 have pl:∀ {t:AV}{w:V},R.rf t=true->RA mg P H φ t w->RA mg (fun a=>P a\/a ∈ φ) H [] t w:=fun h r=>(RA.rf (ψ:=[]) h r).mono ex fun _ _ z=>z
 intro n
 induction n with
 | zero =>
  intro v w t e r;cases v <;> simp only [bZ] at e <;> first | (cases e;done) | skip
  all_goals cases e;exact pl rfl r
 | succ n ih =>
  intro v w t e r;cases v with
  | ref k =>
   simp only [bZ] at e;simp only [RA] at r;obtain ⟨a,ea,rfl⟩:=r;split at e
   ·rename_i xs hk
    obtain ⟨ts,e1,e2⟩:=zE.mp e;subst e2;obtain ⟨a',ea',c⟩:=s.at hk;rw [ea] at ea';cases ea';obtain ⟨_,vs,h1,h2⟩:=c;simp only [RA];exact ⟨a,vs,rfl,.inl ⟨.inr (zV ea),.inl h1⟩,rn ih e1 h2⟩
   ·rename_i t' hk
    cases e;obtain ⟨a',ea',c⟩:=s.at hk;rw [ea] at ea';cases ea';exact c.2.mono ex fun _ _ z=>z
   ·cases e
  | tup xs =>
   simp only [bZ] at e;obtain ⟨ts,e1,e2⟩:=zE.mp e;subst e2;simp only [RA] at r;obtain ⟨a,vs,rfl,p,h1,h2⟩:=r;simp only [RA];exact ⟨a,vs,rfl,.inl p,h1,rn ih e1 h2⟩
  | _=>simp only [bZ] at e;cases e;exact pl rfl r
mutual
theorem RA.fl [FQ] (h:∀ a vs,P a->H a=some (.tup vs)->P' a):∀ {t:AV}{w:V},cV t=true->RA mg P H φ t w->RA mg P' H ψ t w
 | .non,_,_,r=>by simp only [RA] at r ⊢;exact r
 | .bl _,_,_,r=>by simp only [RA] at r ⊢;exact r
 | .int _,_,_,r=>by simp only [RA] at r ⊢;exact r
 | .str _,_,_,r=>by simp only [RA] at r ⊢;exact r
 | .ref _,_,e,_=>by simp only [cV] at e;cases e
 | .fz _,_,e,_=>by simp only [cV] at e;cases e
 | .tup xs,_,e,r=>by
  simp only [RA,cV] at r e ⊢;obtain ⟨a,vs,rfl,p,h1,h2⟩:=r;exact ⟨a,vs,rfl,h a vs p h1,h1,FS.fl h e h2⟩
theorem FS.fl [FQ] (h:∀ a vs,P a->H a=some (.tup vs)->P' a):∀ {ts:List AV}{ws:List V},k8 ts=true->FS mg P H φ ts ws->FS mg P' H ψ ts ws
 | [],_,_,r=>by simp only [FS] at r ⊢;exact r
 | t::ts,_,e,r=>by
  simp only [FS,k8,zC] at r e ⊢;obtain ⟨v,ws,rfl,r1,r2⟩:=r;exact ⟨v,ws,rfl,RA.fl h e.1 r1,FS.fl h e.2 r2⟩
end
theorem zu [FQ] (s:Sim mg P φ st H) (e:zv st x=some (t,st')) (r:RA mg P H φ x v):∃ P',Frm P φ H P' φ H/\Sim mg P' φ st' H/\RA mg P' H [] t v:=by
 unfold zv at e;split at e
 ·rename_i h
  cases e;exact ⟨P,Frm.refl,s,RA.rf h r⟩
 ·cases x with
  | ref k =>
   simp only [RA] at r;obtain ⟨a,ea,rfl⟩:=r;dsimp only at e;split at e
   ·rename_i xs hk
    split at e
    ·rename_i hr
     cases e;obtain ⟨a',ea',c⟩:=s.at hk;rw [ea] at ea';cases ea';obtain ⟨na,vs,h1,h2⟩:=c;have ex:∀ b,P b->(P b\/b=a)/\H b=H b:=fun b h=>⟨.inl h,rfl⟩
     have hm:=zV ea;have rr:RA mg (fun b=>P b\/b=a) H [] (.fz xs) (.ref a):=by
      simp only [RA];exact ⟨a,vs,rfl,.inl ⟨.inr rfl,.inl h1⟩,(FS.rf hr h2).mono ex fun _ _ z=>z⟩
     have dm:∀ b,(P b\/b=a)->H b ≠ none:=fun b h=>by
      rcases h with h | h
      ·exact s.dom b h
      ·rw [h];exact s.cd a hm
     refine ⟨fun b=>P b\/b=a,⟨ex,⟨[],by simp,by simp⟩,fun _ _ _ _=>rfl,fun b h=>?_,fun _ h=>h,fun _ _ _ h=>h⟩,⟨by rw [List.length_set];exact s.len,s.nd,dm,s.cd,fun j c b e1 e2=>?_,fun t ht=>⟨(s.tb t ht).1,fun z=>z.elim (s.tb t ht).2 fun z=>s.tnc ht (by rw [z];exact hm)⟩⟩,rr⟩
     ·rcases h with h | h
      ·exact .inl h
      ·exact .inr (.inr (by rw [h];exact hm))
     ·by_cases hj:j=k
      ·subst hj
       rw [ea] at e2;cases e2;rw [List.getElem?_set_self (by rw [<- s.len];exact (zB.mp ea).1)] at e1;cases e1;exact ⟨.inr rfl,rr⟩
      ·rw [List.getElem?_set_ne (Ne.symm hj)] at e1
       refine (s.cell j c b e1 e2).mono ex (fun _ _ z=>z) rfl fun n z=>?_
       rcases z with z | z
       ·exact n z
       ·refine hj ?_
        subst z;obtain ⟨h1,e1⟩:=zB.mp e2;obtain ⟨h2,e2⟩:=zB.mp ea;exact (List.getElem_inj s.nd).mp (e1.trans e2.symm)
    ·cases e
   ·rename_i t' hk
    cases e;obtain ⟨a',ea',c⟩:=s.at hk;rw [ea] at ea';cases ea';exact ⟨P,Frm.refl,s,c.2⟩
   ·cases e
  | _=>cases e
theorem zr [FQ]:∀ {xs ts:List AV}{st st':aa}{P:Pr}{vs:List V},Sim mg P φ st H->t8 st xs=some (ts,st')->FS mg P H φ xs vs->∃ P',Frm P φ H P' φ H/\Sim mg P' φ st' H/\FS mg P' H [] ts vs:=by
 intro xs
 induction xs with
 | nil=>intro ts st st' P vs s e r;cases e;simp only [FS] at r;subst r;exact ⟨P,Frm.refl,s,be⟩
 | cons x xs ih =>
  intro ts st st' P vs s e r;simp only [t8] at e;obtain ⟨p,e1,e2⟩:=zA e;obtain ⟨q,e3,e4⟩:=zE.mp e2;cases e4;simp only [FS] at r;obtain ⟨v,ws,rfl,r1,r2⟩:=r;obtain ⟨P1,f1,s1,q1⟩:=zu s e1 r1;obtain ⟨P2,f2,s2,q2⟩:=ih s1 e3 (r2.frm f1);exact ⟨P2,f1.trans f2,s2,aY (q1.mono f2.ext fun _ _ z=>z) q2⟩
theorem CS [FQ] {fn:Fn}{args:List AV}{vs:List V}{Q:VK} (s:Sim mg P φ st H) (r:FS mg P H [] args vs) (h:KG mg RA P φ H ((fn args []).bind fun p=>(km p.2 p.1).map fun t=>(t,st)) Q):∃ P φ args st,FS mg P H φ args vs/\Sim mg P φ st H/\KG mg RA P φ H (fn args st) Q:=by
 obtain ⟨t,st',e,k⟩:=h;obtain ⟨p,e1,e2⟩:=zA e;obtain ⟨t',e3,e4⟩:=zE.mp e2;cases e4;refine ⟨P,[],args,[],r,Sim.nil s.dom s.tb,p.1,p.2,e1,fun P1 φ1 H1 w f1 s1 r1=>?_⟩;obtain ⟨m,em,nm⟩:=f1.new;have kp:∀ a,H a ≠ none->(∀ ps,H a ≠ some (.tbl ps))->H1 a=H a:=fun a h=>f1.keep a h (by simp)
 have kc:=s.ckeep (fun a h=>(f1.ext a h).2) kp;have nn:∀ a,(P1 a\/a ∈ φ1)->P a\/H a=none:=fun a h=>by
  rcases h with h | h
  ·rcases f1.pn a h with z | z | z
   ·exact .inl z
   ·exact .inr z
   ·cases z
  ·rw [em] at h;exact .inr (nm a h)
 refine k (fun a=>P1 a\/a ∈ φ1) φ H1 w ⟨fun a h=>⟨.inl (f1.ext a h).1,(f1.ext a h).2⟩,⟨[],by simp,by simp⟩,fun a h _ z=>kp a h z,fun a h=>?_,f1.sm,f1.fz⟩ (s.stay (fun a h=>⟨.inl (f1.ext a h).1,(f1.ext a h).2⟩) kc (fun a h n z=>?_) (fun a h=>?_) fun t ht=>⟨(s1.tb t ht).1,fun z=>z.elim (s1.tb t ht).2 (s1.tnc ht)⟩) (RA.lift (lz s1 6 _ _ _ e3 r1))
 ·rcases nn a h with z | z
  ·exact .inl z
  ·exact .inr (.inl z)
 ·rcases nn a z with z | z
  ·exact n z
  ·exact s.cd a h z
 ·rcases h with h | h
  ·exact s1.dom a h
  ·exact s1.cd a h
theorem Bv [FQ] {n:Nat} (h:cu mg n (pm fn) vs H Q E):cu mg n fn vs H Q E:=by
 obtain ⟨hl,P,φ,args,st,r,s,k⟩:=h;refine ⟨hl,?_⟩;unfold pm at k;split at k
 ·rename_i hr
  exact CS s (FS.rf hr r) k
 ·obtain ⟨t,st',e,k⟩:=k
  obtain ⟨ts,e1,e2⟩:=zA e;obtain ⟨p,e3,e4⟩:=zA e2;obtain ⟨t',e5,e6⟩:=zA e4;split at e6
  ·rename_i hf
   cases e6;have dm:∀ a,(P a\/a ∈ φ)->H a ≠ none:=fun a h=>by
    rcases h with h | h
    ·exact s.dom a h
    ·exact s.cd a h
   refine ⟨fun a=>P a\/a ∈ φ,[],ts,[],rn (fun v w t e r=>lz s 6 v w t e r) e1 r,Sim.nil dm (fun t ht=>⟨(s.tb t ht).1,fun z=>z.elim (s.tb t ht).2 (s.tnc ht)⟩),p.1,p.2,e3,fun P1 φ1 H1 w f1 s1 r1=>?_⟩;obtain ⟨m,em,nm⟩:=f1.new;have kp:∀ a,H a ≠ none->(∀ ps,H a ≠ some (.tbl ps))->H1 a=H a:=fun a h=>f1.keep a h (by simp)
   have kc:=s.ckeep (fun a h=>(f1.ext a (.inl h)).2) kp;have ext:∀ a,P a->((P1 a\/a ∈ φ1)/\(a ∈ φ->P a))/\H1 a=H a:=fun a h=>⟨⟨.inl (f1.ext a (.inl h)).1,fun _=>h⟩,(f1.ext a (.inl h)).2⟩
   refine k (fun a=>(P1 a\/a ∈ φ1)/\(a ∈ φ->P a)) φ H1 w ⟨ext,⟨[],by simp,by simp⟩,fun a h _ z=>kp a h z,fun a h=>?_,f1.sm,f1.fz⟩ (s.stay ext kc (fun a h n z=>n (z.2 h)) (fun a h=>?_) fun t ht=>⟨(s1.tb t ht).1,fun z=>z.1.elim (s1.tb t ht).2 (s1.tnc ht)⟩) (RA.fl (fun a us hP hT=>⟨hP,fun hm=>?_⟩) hf (lz s1 6 _ _ _ e5 r1))
   ·rcases h.1 with z | z
    ·rcases f1.pn a z with z | z | z
     ·rcases z with z | z
      ·exact .inl z
      ·exact .inr (.inr z)
     ·exact .inr (.inl z)
     ·cases z
    ·rw [em] at z;exact .inr (.inl (nm a z))
   ·rcases h.1 with h | h
    ·exact s1.dom a h
    ·exact s1.cd a h
   ·obtain ⟨j,hj⟩:=List.getElem?_of_mem hm
    obtain ⟨c,hc⟩:∃ c,st[j]?=some c:=⟨_,zF (by rw [<- s.len];exact (zB.mp hj).1)⟩;have cr:=s.cell j c a hc hj;have hT':H a=some (.tup us):=by rw [<- kc a hm];exact hT
    cases c with
    | lst xs=>obtain ⟨_,_,z,_⟩:=cr;rw [hT'] at z;cases z
    | al t=>exact cr.1
    | dK FP=>obtain ⟨_,_,z,_⟩:=cr;rw [hT'] at z;cases z
    | dT FP=>obtain ⟨_,_,z,_⟩:=cr;rw [hT'] at z;cases z
    | ins c fs=>obtain ⟨_,_,_,_,_,z,_⟩:=cr;rw [hT'] at z;cases z
    | wk FP=>obtain ⟨_,_,_,z,_⟩:=cr;rw [hT'] at z;cases z
  ·obtain ⟨q,e7,e8⟩:=zA e6
   obtain ⟨P1,f1,s1,r1⟩:=zr s e7 r;exact CS s1 r1 ⟨t,st',e8,fun P2 φ2 H2 w f2 s2 r2=>k P2 φ2 H2 w (f1.trans f2) s2 r2⟩
end
theorem FnOk.pm [FQ] {P:Program}{w:World}{K:Frag}{mg:Str->Option Value}{base:Heap}{k:Nat}{f:Addr}{fd:FuncData}{ps:List Str}{n:Nat}{fn:Fn} (F:FnOk P w K mg base cP k f fd ps (cu ⟨K,mg⟩ n fn)):FnOk P w K mg base cP k f fd ps (cu ⟨K,mg⟩ n (R.pm fn)) :=
 F.imp fun _ _ _ _ h=>Bv h
def run (n:Nat) (b:SF):Fn:=fun args st=>(b (args.map some++List.replicate (n - args.length) none) st).bind fun o=>match o with
 | .rt v st=>some (v,st)
 | .nx _ st=>some (.non,st)
 | _=>none
theorem uG [FQ] (h:FS mg P H φ args vs):FV mg P H φ (args.map some++List.replicate (N.length - args.length) none) (L2.start N vs):=by
 have hl:=h.length;unfold L2.start;refine ⟨by simp [hl],fun i v e=>?_⟩;have hi:i < args.length:=by
  rcases yN i args.length with z | z
  ·exact z
  ·rw [z0 (by simpa using z),List.getElem?_replicate] at e
   split at e <;> cases e
 rw [zM (by simpa using hi),zQ] at e;rw [zM (by rw [zH,<- hl];exact hi),zQ];cases ha:args[i]? with
 | none=>rw [ha] at e;cases e
 | some x =>
  rw [ha] at e;cases e;obtain ⟨w,e1,r1⟩:=h.get ha;exact ⟨w,by rw [e1];rfl,r1⟩
def qF (fn:Fn) (g:AF):EF:=fun sl st=>(g sl st).bind fun p=>fn p.1 p.2
section
variable {X:Cx}{x:Str}{p pos:Pos}{e o:Expr}{es:List Expr}{k:Nat}{f:Addr}{fd:FuncData}{ps:List Str}{fn:Fn}{g:AF}{h:EF}
theorem Er [FQ] {n:Nat} (hn:∀ sl st xs st',g sl st=some (xs,st')->xs.length=n) (q:rE mg (qF fn g) σ H Q):nQ (cu mg n fn) [] E (rA mg g) σ H Q:=by
 obtain ⟨P,φ,sl,st,rs,s,kk⟩:=q;refine ⟨P,φ,sl,st,rs,s,?_⟩;obtain ⟨a,st',e1,q⟩:=kk.bind (Ra:=FS);refine ⟨a,st',e1,fun P1 φ1 H1 b f1 s1 r1=>?_⟩;obtain ⟨P2,φ2,st2,xs,f2,s2,r2,k2⟩:=q P1 φ1 H1 b f1 s1 r1;rw [List.append_nil];exact ⟨by rw [<- r1.length];exact hn _ _ _ _ e1,P2,φ2,xs,st2,r2,s2,k2⟩
theorem uZ [FQ] (F:FnOk X.prog X.w X.K X.mg X.base cP k f fd ps (cu X.gm ps.length fn)) (hr:Room k X.A) (hg:Gl X x) (hm:X.mg x=some (.ref f)) (hk:keepIn X.K (.ref f)=true) (hb:Binds X.K fd ps [])
  (ha:QA X (e::es) g) (hn:∀ sl st xs st',g sl st=some (xs,st')->xs.length=ps.length) (hdb:(x == ("__debug__":Str))=false) (he:starEach (e::es) X.env=(false,eval e X.env)::starEach es X.env) (hpl:(backTo pos (starEach es X.env)).any (·.1)=false) :
  QE X (.Call (.Name x p) (e::es) [] pos) (qF fn g):=PE_imp (vt (E:=E0) F hr hg hm hk hb .nil jg ha hdb he hpl) fun _ _ _ q=>Er hn q
theorem rK [FQ] (F:FnOk X.prog X.w X.K X.mg X.base cP k f fd ps (cu X.gm ps.length fn)) (hr:Room k X.A) (hg:Gl X x) (hm:X.mg x=some (.ref f)) (hk:keepIn X.K (.ref f)=true) (hb:Binds X.K fd ps [])
  (hn:ps.length=0) (hdb:(x == ("__debug__":Str))=false):QE X (.Call (.Name x p) [] [] pos) (qF fn df):=PE_imp (sj (E:=E0) F hr hg hm hk hb .nil jg hdb) fun σ H Q q=>by
 obtain ⟨P,φ,sl,st,rs,s,kk⟩:=q;exact ⟨by simp [hn],P,φ,[],st,be,s,kk⟩
def i5 (st:aa) (c:Str):AV->Option (List (Str × AV))
 | .ref k=>match st[k]? with
  | some (.ins c' fs)=>if c'=c then some fs else none
  | _=>none
 | _=>none
theorem jo (h:KVR mg P H φ fs ws) (f:Str):(fs.lookup f=none->ws.lookup f=none)/\∀ v,fs.lookup f=some v->∃ w,ws.lookup f=some w/\RA mg P H φ v w:=by
 induction fs generalizing ws with
 | nil =>
  have:ws=[]:=by simpa using h.1.symm
  subst this;exact ⟨fun _=>rfl,fun v e=>by cases e⟩
 | cons p fs ih =>
  cases ws with
  | nil=>exact absurd h.1 (by simp)
  | cons q ws =>
   obtain ⟨h1,h2⟩:=h;rw [zN,zN] at h1 h2;injection h1 with h3 h4;simp only [FS] at h2;obtain ⟨v,vs,h5,h6,h7⟩:=h2;injection h5 with h8 h9;subst h8;subst h9;obtain ⟨a,b⟩:=p;obtain ⟨c,d⟩:=q;dsimp only at h3 h6;subst h3;rw [yJ,yJ];cases hb:f == a with
   | true=>exact ⟨fun z=>(by cases z),fun v z=>(by cases z;exact ⟨d,rfl,h6⟩)⟩
   | false=>exact ih ⟨h4,h7⟩
theorem i4 [FQ] {mg:Gm}{P:Pr}{φ:List Addr}{st:aa}{H:Hp}{c:Str}{v:AV}{w:V}{fs:List (Str × AV)} (s:Sim mg P φ st H) (h:i5 st c v=some fs) (r:RA mg P H φ v w) :
  ∃ k a C dx ws,v=.ref k/\φ[k]?=some a/\¬ P a/\w=.ref a/\mg.mg c=some (.ref C)/\H a=some (.ins C dx ws)/\KVR mg P H φ fs ws:=by
 cases v with
 | ref k =>
  simp only [i5] at h;split at h
  ·rename_i c' fs' hk
   split at h
   ·rename_i hc
    cases h;subst hc;simp only [RA] at r;obtain ⟨a,ea,rfl⟩:=r;obtain ⟨a',ea',cr⟩:=s.at hk;rw [ea] at ea';cases ea';obtain ⟨na,C,dx,ws,h1,h2,h3⟩:=cr;exact ⟨k,a,C,dx,ws,rfl,ea,na,rfl,h1,h2,h3⟩
   ·cases h
  ·cases h
 | _=>cases h
def qE (c m:Str) (fn:Fn) (h:EF) (g:AF):EF:=fun sl st=>(h sl st).bind fun p=>(i5 p.2 c p.1).bind fun fs=>if (fs.lookup m).isNone=true then (g sl p.2).bind fun q=>fn (p.1::q.1) q.2 else none
theorem yz [FQ] {n:Nat} (hC:mg.mg c=some (.ref C)) (hn:∀ sl st xs st',g sl st=some (xs,st')->xs.length + 1=n) (q:rE mg (qE c m fn h g) σ H Q):nO C m (cu mg n fn) [] E (rE mg h) (rA mg g) σ H Q:=by
 obtain ⟨P,φ,sl,st,rs,s,v,st',e,k⟩:=q;obtain ⟨p,e1,e2⟩:=zA e;obtain ⟨fs,e3,e4⟩:=zA e2;split at e4
 ·rename_i hm
  obtain ⟨q,e5,e6⟩:=zA e4;refine ⟨P,φ,sl,st,rs,s,p.1,p.2,e1,fun P1 φ1 H1 w f1 s1 r1=>?_⟩;obtain ⟨j,a,C',dx,ws,h1,h2,h3,rfl,h5,h6,h7⟩:=i4 s1 e3 r1;rw [hC] at h5;cases h5;refine ⟨a,dx,ws,rfl,h6,(jo h7 m).1 (by simpa using hm),P1,φ1,sl,p.2,rs.frm f1,s1,q.1,q.2,e5,fun P2 φ2 H2 vs f2 s2 r2=>?_⟩;show cu mg n fn (V.ref a::(vs++[])) H2 Q E;rw [List.append_nil];exact ⟨by rw [yP,<- r2.length];exact hn _ _ _ _ e5,P2,φ2,p.1::q.1,q.2,aY (r1.frm f2) r2,s2,v,st',e6,fun P3 φ3 H3 w3 f3 s3 r3=>k P3 φ3 H3 w3 ((f1.trans f2).trans f3) s3 r3⟩
 ·cases e4
theorem uX [FQ] (ho:QE X o h) (cl:Cls X.K C) (hC:X.mg c=some (.ref C)) (hm:gf X.K C m f) (F:FnOk X.prog X.w X.K X.mg X.base cP k f fd ps (cu X.gm ps.length fn)) (hr:Room k X.A) (hb:Binds X.K fd ps [])
  (ha:QA X (e::es) g) (hn:∀ sl st xs st',g sl st=some (xs,st')->xs.length + 1=ps.length) (hst:starEach (e::es) X.env=(false,eval e X.env)::starEach es X.env) (hpl:(backTo pos (starEach es X.env)).any (·.1)=false)
  (ht:eval (.Call (.Attribute o m apos) (e::es) [] pos) X.env=(do
   let ov <- eval o X.env
   standAt apos.atName
   let (f,first) <- holding [ov] (getMethod ov m pl)
   callWith pos f first (backTo pos (starEach (e::es) X.env)) (backToKw pos (keywordEach [] X.env)))):QE X (.Call (.Attribute o m apos) (e::es) [] pos) (qE c m fn h g) :=
 PE_imp (vn (E:=E0) ho cl hm F hr hb .nil jg ha hst hpl ht) fun _ _ _ q=>yz hC hn q
theorem rJ [FQ] (ho:QE X o h) (cl:Cls X.K C) (hC:X.mg c=some (.ref C)) (hm:gf X.K C m f) (F:FnOk X.prog X.w X.K X.mg X.base cP k f fd ps (cu X.gm ps.length fn)) (hr:Room k X.A) (hb:Binds X.K fd ps [])
  (hn:ps.length=1)
  (ht:eval (.Call (.Attribute o m apos) [] [] pos) X.env=(do
   let ov <- eval o X.env
   standAt apos.atName
   let (f,first) <- holding [ov] (getMethod ov m pl)
   callWith pos f first (backTo pos (starEach [] X.env)) (backToKw pos (keywordEach [] X.env)))):QE X (.Call (.Attribute o m apos) [] [] pos) (qE c m fn h df) :=
 PE_imp (se (E:=E0) ho cl hm F hr hb .nil jg ht) fun σ H Q q=>by
  obtain ⟨P,φ,sl,st,rs,s,v,st',e,k⟩:=yz (E:=E0) (C:=C) hC (g:=df) (n:=1) (fun sl st xs st' e=>by cases e;rfl) q;refine ⟨P,φ,sl,st,rs,s,v,st',e,fun P1 φ1 H1 w f1 s1 r1=>?_⟩;obtain ⟨a,dx,fs,h1,h2,h3,h4⟩:=k P1 φ1 H1 w f1 s1 r1;refine ⟨a,dx,fs,h1,h2,h3,?_⟩;obtain ⟨P2,φ2,sl2,st2,rs2,s2,xs,st3,e3,k3⟩:=h4;cases e3
  have:=k3 P2 φ2 H1 [] Frm.refl s2 be
  rw [hn];exact this
def ur (c:Str) (fn:Fn) (g:AF):EF:=fun sl st=>(g sl st).bind fun p=>(fn (.ref p.2.length::p.1) (p.2++[.ins c []])).bind fun q=>match q.1 with
 | .non=>some (.ref p.2.length,q.2)
 | _=>none
theorem vG [FQ] {mg:Gm}{P:Pr}{φ:List Addr}{st:aa}{H:Hp}{c:Str}{C x dx:Addr} (s:Sim mg P φ st H) (hC:mg.mg c=some (.ref C)) (hx:H x=none) (hd:H dx=none) (ne:dx ≠ x) :
  Frm P φ H P (φ++[x]) (ak (ak H dx (.own x)) x (.ins C dx []))/\Sim mg P (φ++[x]) (st++[.ins c []]) (ak (ak H dx (.own x)) x (.ins C dx [])):=by
 have nd:∀ a,H a ≠ none->a ≠ dx:=fun a h e=>h (by rw [e];exact hd)
 have f1:Frm P φ H P φ (ak H dx (.own x)):=⟨fun a h=>⟨h,ae (nd a (s.dom a h))⟩,⟨[],by simp,by simp⟩,fun a h _ _=>ae (nd a h),fun a h=>.inl h,fun a h=>by rw [ae (nd a h)];exact h,fun a o u h=>by rw [ae (bc h hd)];exact h⟩;have s1:Sim mg P φ st (ak H dx (.own x)):=s.stay f1.ext (fun a h=>ae (nd a (s.cd a h))) (fun _ _ h=>h) (fun a h=>f1.sm a (s.dom a h)) fun t ht=>⟨(s.tb t ht).1.new hd,(s.tb t ht).2⟩
 have hx1:ak H dx (.own x) x=none:=by rw [ae (Ne.symm ne)];exact hx
 obtain ⟨f2,s2⟩:=iU (c:=.ins c []) (o:=.ins C dx []) s1 hx1 ⟨fun z=>s1.dom x z hx1,C,dx,[],hC,aK,rfl,be⟩;exact ⟨f1.trans f2,s2⟩
theorem DU [FQ] {mg:Gm}{c:Str}{C:Addr}{n:Nat}{E:XK}{σ:St}{H:Hp}{Q:VK} (hC:mg.mg c=some (.ref C)) (hn:∀ sl st xs st',g sl st=some (xs,st')->xs.length + 1=n) (q:rE mg (ur c fn g) σ H Q):tG C (cu mg n fn) [] E (rA mg g) σ H Q:=by
 obtain ⟨P,φ,sl,st,rs,s,v,st',e,k⟩:=q;obtain ⟨p,e1,e2⟩:=zA e;obtain ⟨q,e3,e4⟩:=zA e2;refine ⟨P,φ,sl,st,rs,s,p.1,p.2,e1,fun P1 φ1 H1 vs f1 s1 r1=>fun x dx hx hd ne=>?_⟩;obtain ⟨f2,s2⟩:=vG s1 hC hx hd ne;have rx:RA mg P1 (ak (ak H1 dx (.own x)) x (.ins C dx [])) (φ1++[x]) (.ref p.2.length) (.ref x):=by simp only [RA];exact ⟨x,by rw [<- s1.len];simp,rfl⟩
 rw [List.append_nil];refine ⟨by rw [yP,<- r1.length];exact hn _ _ _ _ e1,P1,φ1++[x],_,_,aY rx (r1.frm f2),s2,q.1,q.2,e3,fun P3 φ3 H3 w f3 s3 r3=>?_⟩;cases hq:q.1 with
 | non =>
  rw [hq] at e4 r3;cases e4;simp only [RA] at r3;exact ⟨r3,k P3 φ3 H3 (.ref x) ((f1.trans f2).trans f3) s3 (rx.frm f3)⟩
 | _=>rw [hq] at e4;cases e4
theorem xt [FQ] (M:Mk X.K C f) (F:FnOk X.prog X.w X.K X.mg X.base cP k f fd ps (cu X.gm ps.length fn)) (hr:Room (k + 1) X.A) (hg:Gl X c) (hm:X.mg c=some (.ref C)) (hb:Binds X.K fd ps [])
  (ha:QA X (e::es) g) (hn:∀ sl st xs st',g sl st=some (xs,st')->xs.length + 1=ps.length) (hdb:(c == ("__debug__":Str))=false) (he:starEach (e::es) X.env=(false,eval e X.env)::starEach es X.env) (hpl:(backTo pos (starEach es X.env)).any (·.1)=false) :
  QE X (.Call (.Name c p) (e::es) [] pos) (ur c fn g):=PE_imp (vo (E:=E0) M F hr hg hm hb .nil jg ha hdb he hpl) fun _ _ _ q=>DU hm hn q
def Dg (c fl:Str) (h:EF):EF:=fun sl st=>(h sl st).bind fun p=>(i5 p.2 c p.1).bind fun fs=>(fs.lookup fl).map fun v=>(v,p.2)
theorem xu [FQ] (ho:QE X o h) (cl:Cls X.K C) (hC:X.mg c=some (.ref C)) (na:NoAttr X.K C fl) (hb:attributeBase o fl X.env (eval o X.env)=eval o X.env):QE X (.Attribute o fl apos) (Dg c fl h) :=
 PE_imp (xR ho hb) fun σ H Q hq0=>by
  obtain ⟨P,φ,sl,st,rs,s,v,st',e,k⟩:=hq0;obtain ⟨p,e1,e2⟩:=zA e;obtain ⟨fs,e3,e4⟩:=zA e2;obtain ⟨t,e5,e6⟩:=zE.mp e4;cases e6;refine ⟨P,φ,sl,st,rs,s,p.1,p.2,e1,fun P1 φ1 H1 w f1 s1 r1=>?_⟩;obtain ⟨j,a,C',dx,ws,h1,h2,h3,rfl,h5,h6,h7⟩:=i4 s1 e3 r1;have:C'=C:=by rw [show X.gm.mg c=X.mg c from rfl,hC] at h5;cases h5;rfl
  subst this;obtain ⟨w,hw,rw'⟩:=(jo h7 fl).2 _ e5;exact ⟨a,C',dx,ws,w,rfl,h6,cl,na,hw,k P1 φ1 H1 w f1 s1 rw'⟩
noncomputable def jf (f:Str) (v:AV):List (Str × AV)->List (Str × AV)
 | []=>[(f,v)]
 | (g,x)::r=>if g=f then (g,v)::r else (g,x)::jf f v r
theorem pB {mg:Gm}{P:Pr}{H:Hp}{φ:List Addr}{f:Str}{v:AV}{w:V} (r:RA mg P H φ v w):∀ {fs:List (Str × AV)}{ws:List (Str × V)},KVR mg P H φ fs ws->KVR mg P H φ (jf f v fs) (cC f w ws):=by
 intro fs
 induction fs with
 | nil =>
  intro ws h;have:ws=[]:=by simpa using h.1.symm
  subst this;exact ⟨rfl,aY r be⟩
 | cons p fs ih =>
  intro ws h;cases ws with
  | nil=>exact absurd h.1 (by simp)
  | cons q ws =>
   obtain ⟨h1,h2⟩:=h;rw [zN,zN] at h1 h2;injection h1 with h3 h4;simp only [FS] at h2;obtain ⟨u,us,h5,h6,h7⟩:=h2;injection h5 with h8 h9;subst h8;subst h9;obtain ⟨a,b⟩:=p;obtain ⟨c,d⟩:=q;dsimp only at h3 h6;subst h3;have i:=ih (ws:=ws) ⟨h4,h7⟩;unfold jf cC;by_cases e:a=f
   ·rw [yE e,yE e]
    exact ⟨by rw [zN,zN,h4],aY r h7⟩
   ·rw [yD e,yD e]
    exact ⟨by rw [zN,zN,i.1],aY h6 i.2⟩
def wT (c fl:Str) (h f:EF):SF:=fun sl st=>(f sl st).bind fun p=>(h sl p.2).bind fun q=>match q.1 with
 | .ref k=>(i5 q.2 c (.ref k)).bind fun fs=>if Nat.ble fs.length 900=true then some (.nx sl (q.2.set k (.ins c (jf fl p.1 fs)))) else none
 | _=>none
theorem xg [FQ] (ho:QE X o h) (hv:QE X e f') (cl:Cls X.K C) (hC:X.mg c=some (.ref C)) (na:NoAttr X.K C fl) (hs:swapsWith e (some (.Attribute o fl pos')) pos.line X.env=pure false):QS X (.Assign [.Attribute o fl pos'] e pos) (wT c fl h f') :=
 PS_imp (xD ho hv hs) fun D σ H hq0=>by
  obtain ⟨P,φ,sl,st,rs,s,out,eo,q⟩:=hq0;obtain ⟨p,e1,e2⟩:=zA eo;obtain ⟨r,e3,e4⟩:=zA e2;split at e4
  ·rename_i j hj
   obtain ⟨fs,e5,e6⟩:=zA e4;split at e6
   ·rename_i hl
    cases e6;refine ⟨P,φ,sl,st,rs,s,p.1,p.2,e1,fun P1 φ1 H1 w1 f1 s1 r1=>⟨P1,φ1,sl,p.2,rs.frm f1,s1,r.1,r.2,e3,fun P2 φ2 H2 w2 f2 s2 r2=>?_⟩⟩;rw [hj] at r2;obtain ⟨j',a,C',dx,ws,h1,h2,h3,rfl,h5,h6,h7⟩:=i4 s2 e5 r2;cases h1;have:C'=C:=by rw [show X.gm.mg c=X.mg c from rfl,hC] at h5;cases h5;rfl
    subst this;have ln:ws.length < 1000:=by
     have z:=congrArg List.length h7.1;rw [zH,zH] at z
     have:=zR hl
     omega
    obtain ⟨f3,s3⟩:=dZ (c:=.ins c (jf fl p.1 fs)) (o:=.ins C' dx (cC fl w1 ws)) s2 h2 h3 ⟨h3,C',dx,_,hC,aK,(pB (r1.frm f2) h7).mono (fun b h=>⟨h,ae fun e=>h3 (e ▸ h)⟩) fun _ _ z=>z⟩ (fun _ _ z=>by rw [h6] at z;cases z);exact ⟨a,C',dx,ws,rfl,h6,cl,na,ln,q P2 φ2 _ σ ((f1.trans f2).trans f3) s3 (((rs.frm f1).frm f2).frm f3)⟩
   ·cases e6
  ·cases e4
end
end R
namespace R
open PySem PySem.Spec PyProof.Rows L2
open DD (PE_imp PT_imp PA_imp PS_imp PSs_imp OpR_imp PW_imp PG_imp pyOk obj_list obj_tup minL minL_eq)
abbrev BF:=List AV->aa->Option (AV × aa)
def rB [FQ] (mg:Gm) (k:BF):List V->Hp->VK->Prop:=fun vs H Q=>∃ P φ st xs,Sim mg P φ st H/\FS mg P H φ xs vs/\KG mg RA P φ H (k xs st) Q
def qG (k:BF) (g:AF):EF:=fun sl st=>(g sl st).bind fun p=>k p.1 p.2
theorem As [FQ] (q:rE mg (qG k g) σ H Q):wJ (rB mg k) (rA mg g) σ H Q:=by
 obtain ⟨P,φ,sl,st,rs,s,kk⟩:=q;refine ⟨P,φ,sl,st,rs,s,?_⟩;obtain ⟨a,st',e1,q⟩:=kk.bind (Ra:=FS);refine ⟨a,st',e1,fun P1 φ1 H1 b f1 s1 r1=>?_⟩;obtain ⟨P2,φ2,st2,xs,f2,s2,r2,k2⟩:=q P1 φ1 H1 b f1 s1 r1;exact ⟨P2,φ2,st2,xs,s2,r2,k2⟩
def bM (h:aa->List AV->Option AV):BF:=fun xs st=>(h st xs).map fun z=>(z,st)
section
variable {X:Cx}{x:Str}{p pos:Pos}{e o a:Expr}{es:List Expr}{g:AF}{k:BF}{bid T:String}
theorem fS [FQ] (hc:bA X (.builtin bid) (rB X.gm k)) (hg:Gl X x) (hm:X.mg x=none) (hv:bootBuiltins x=some (.builtin bid)) (ha:QA X (e::es) g) (hn:x ≠ "__name__") (hdb:(x == ("__debug__":Str))=false)
  (he:starEach (e::es) X.env=(false,eval e X.env)::starEach es X.env) (hpl:(backTo pos (starEach es X.env)).any (·.1)=false):QE X (.Call (.Name x p) (e::es) [] pos) (qG k g) :=
 PE_imp (iS hc hg hm hv ha hn hdb he hpl) fun _ _ _ q=>As q
theorem Bk [FQ] (hc:bA X (.type T) (rB X.gm k)) (hg:Gl X x) (hm:X.mg x=none) (hv:bootBuiltins x=some (.type T)) (ha:QA X (e::es) g) (hn:x ≠ "__name__") (hdb:(x == ("__debug__":Str))=false)
  (he:starEach (e::es) X.env=(false,eval e X.env)::starEach es X.env) (hpl:(backTo pos (starEach es X.env)).any (·.1)=false):QE X (.Call (.Name x p) (e::es) [] pos) (qG k g) :=
 PE_imp (kn hc hg hm hv ha hn hdb he hpl) fun _ _ _ q=>As q
theorem FS.one {mg:Gm}{P:Pr}{H:Hp}{φ:List Addr}{x:AV}{vs:List V} (h:FS mg P H φ [x] vs):∃ v,vs=[v]/\RA mg P H φ x v:=by
 simp only [FS] at h;obtain ⟨v,ws,rfl,r,rfl⟩:=h;exact ⟨v,rfl,r⟩
theorem FS.two {mg:Gm}{P:Pr}{H:Hp}{φ:List Addr}{x y:AV}{vs:List V} (h:FS mg P H φ [x,y] vs):∃ v w,vs=[v,w]/\RA mg P H φ x v/\RA mg P H φ y w:=by
 simp only [FS] at h;obtain ⟨v,ws,rfl,r,w,us,rfl,r',rfl⟩:=h;exact ⟨v,w,rfl,r,r'⟩
theorem jP (h:bA X f r) (i:∀ xs H Q,r' xs H Q->r xs H Q):bA X f r':=fun FO s σ H xs us Q I rv h'=>h FO s σ H xs us Q I rv (i xs H Q h')
def fm (st:aa):List AV->Option AV
 | [v]=>match cy st v with
  | some xs=>some (.int xs.length)
  | none=>match gg st v with
   | some xs=>some (.int xs.length)
   | none=>match v with
    | .str x=>if d6 x.length=true then some (.int x.length) else none
    | v=>match fJ st v with
     | some FP=>some (.int FP.length)
     | none=>(iI st v).map fun FP=>.int FP.length
 | _=>none
theorem oE:bA X (.builtin "len") (fun xs H Q=>∃ a FP,xs=[V.ref a]/\H a=some (.dK FP)/\Q (.int FP.length) H):=by
 intro FO s σ H xs us Q I r h;obtain ⟨a,FP,rfl,ha,q⟩:=h;obtain ⟨u,rfl,ru⟩:=cB r;cases ru;obtain ⟨z,hd,vs,rel,dd⟩:=ug I.FT ha;have hl:FP.length=vs.length:=Paired.length rel;have hz:sizeLine=16777216:=sizeLine_eq;exact call_len_dict hd dd oM ⟨.int _,H,I.tok _,⟨_,by rw [hl]⟩,q⟩
theorem Ci [FQ]:bA X (.builtin "len") (rB X.gm (bM fm)):=by
 rintro FO s σ H vs us Q I rv ⟨P,φ,st,xs,sm,r,k0⟩;obtain ⟨z,e,k⟩:=k0.map;clear k0;unfold fm at e;split at e
 ·rename_i v
  obtain ⟨w,ew,r9⟩:=r.one;clear r;subst ew;have r:=r9;clear r9;have aA:∀ n:Nat,z=.int n->Q (.int n) H:=fun n h=>by subst h;exact k.pure sm (by simp only [RA])
  split at e
  ·rename_i ys e1
   cases e;obtain ⟨a,vs,rfl,d1,q1⟩:=r.ls sm e1;exact gR FO s σ H _ us Q I rv ⟨a,vs,rfl,.inl d1,by rw [<- q1.length];exact aA _ rfl⟩
  ·split at e
   ·rename_i ys e1
    cases e;obtain ⟨a,vs,rfl,d1,q1⟩:=r.tp sm e1;exact gR FO s σ H _ us Q I rv ⟨a,vs,rfl,.inr (.inl (.inl d1)),by rw [<- q1.length];exact aA _ rfl⟩
   ·cases v with
    | str x =>
     dsimp only at e;split at e
     ·rename_i hz
      cases e;simp only [RA] at r;subst r;exact mf FO s σ H _ us Q I rv ⟨x,rfl,fC hz,aA _ rfl⟩
     ·cases e
    | ref j =>
     simp only [RA] at r;obtain ⟨a,ea,rfl⟩:=r;dsimp only [fJ,iI] at e;cases hj:st[j]? with
     | none=>rw [hj] at e;cases e
     | some c =>
      rw [hj] at e;obtain ⟨a',ea',c'⟩:=sm.at hj;rw [ea] at ea';cases ea';cases c with
      | dK FP =>
       cases e;obtain ⟨_,ws,q1,q2⟩:=c'
       have:=congrArg List.length q2.1
       rw [zH,zH] at this;exact oE FO s σ H _ us Q I rv ⟨a,ws,rfl,q1,by rw [<- this];exact aA _ rfl⟩
      | dT FP =>
       cases e;obtain ⟨_,ws,q1,q2⟩:=c'
       have:=congrArg List.length q2.1
       rw [zH,zH] at this;exact qw FO s σ H _ us Q I rv ⟨a,ws,rfl,q1,by rw [<- this];exact aA _ rfl⟩
      | _=>cases e
    | _=>cases e
 ·cases e
def dz:List AV->Option (List Int):=aT fun x=>match x with
 | .int i=>some i
 | _=>none
theorem gK (h:dz xs=some ns):xs=ns.map .int:=by
 unfold dz at h
 induction xs generalizing ns with
 | nil=>cases h;rfl
 | cons x xs ih =>
  simp only [aT] at h;obtain ⟨y,e1,e2⟩:=zA h;obtain ⟨ys,e3,e4⟩:=zE.mp e2;subst e4;cases x <;> first | (cases e1;done) | skip
  cases e1;rw [ih e3];rfl
def lsI (st:aa) (v:AV):Option (List Int):=(cy st v).bind dz
theorem RA.lsI [FQ] {mg:Gm}{P:Pr}{H:Hp}{φ:List Addr}{st:aa}{v:AV}{w:V}{ns:List Int} (s:Sim mg P φ st H) (r:RA mg P H φ v w) (h:R.lsI st v=some ns):∃ a,w=.ref a/\bx mg.K H a (ns.map .int):=by
 obtain ⟨xs,e1,e2⟩:=zA h;obtain ⟨a,vs,rfl,d1,q1⟩:=r.ls s e1
 have:=gK e2
 subst this;rw [q1.ints] at d1;exact ⟨a,rfl,d1⟩
def lw (st:aa):List AV->Option AV
 | [v]=>(lsI st v).map fun ns=>.int ns.sum
 | _=>none
theorem Cf [FQ] (hc:X.calm=true):bA X (.builtin "sum") (rB X.gm (bM lw)):=by
 rintro FO s σ H vs us Q I rv ⟨P,φ,st,xs,sm,r,k0⟩;obtain ⟨z,e,k⟩:=k0.map;clear k0;unfold lw at e;split at e
 ·rename_i v
  obtain ⟨w,ew,r9⟩:=r.one;clear r;subst ew;have r:=r9;clear r9;obtain ⟨ns,e1,rfl⟩:=zE.mp e;obtain ⟨a,rfl,d1⟩:=r.lsI sm e1;obtain ⟨u,rfl,ru⟩:=cB rv;cases ru;obtain ⟨FR,r',pl,_⟩:=I.list d1;have hi:IntsAre FR ns:=dX r';obtain ⟨ys,hy⟩:=hi.allInts.items;refine sum_intListG (xs:=ys) (I.ok.hd hc) (by rw [<- hy];exact pl.isList) fun h' tk t' hk=>⟨.int ns.sum,H,I.kept hk,?_,k.pure sm (by simp only [RA])⟩
  have:(preSum (numAt ys) ys.size)=ns.sum:=by
   rw [preSum_eq,List.take_of_length_le (by simp),<- nums_intItems,<- hy];rw [show FR.toArray.toList=FR from rfl,hi.numsOf]
  rw [this];exact ⟨t',rfl⟩
 ·cases e
noncomputable def i7:AV->Option Bool
 | .bl b=>some b
 | .int i=>some (i != 0)
 | _=>none
def mn (st:aa):List AV->Option AV
 | [v]=>(cy st v).bind fun xs=>(aT i7 xs).map fun bs=>.bl (bs.all id)
 | _=>none
def mm (st:aa):List AV->Option AV
 | [v]=>(cy st v).bind fun xs=>(aT i7 xs).map fun bs=>.bl (bs.any id)
 | _=>none
theorem oX [FQ]:∀ {xs:List AV}{vs:List V}{us:List Value}{bs:List Bool},aT i7 xs=some bs->FS mg P H φ xs vs->Vals vs us->bs.length=us.length/\∀ (i:Nat) u,us[i]?=some u->u=.bool (bs.getD i true)\/∃ n t,u=.int n t/\(n != 0)=bs.getD i true:=by
 intro xs
 induction xs with
 | nil=>intro vs us bs e r q;cases e;simp only [FS] at r;subst r;cases q;exact ⟨rfl,fun i u h=>by simp at h⟩
 | cons x xs ih =>
  intro vs us bs e r q;simp only [aT] at e;obtain ⟨y,e1,e2⟩:=zA e;obtain ⟨ys,e3,e4⟩:=zE.mp e2;subst e4;simp only [FS] at r;obtain ⟨v,ws,rfl,r1,r2⟩:=r;cases q with
  | cons q1 q2 =>
   obtain ⟨h1,h2⟩:=ih e3 r2 q2;refine ⟨by simp [h1],fun i u h=>?_⟩;cases i with
   | zero =>
    simp at h;subst h;cases x <;> first | (cases e1;done) | skip
    ·cases e1;simp only [RA] at r1;subst r1;cases q1;exact .inl rfl
    ·cases e1;simp only [RA] at r1;subst r1;obtain ⟨t,rfl⟩:=q1;exact .inr ⟨_,t,rfl,rfl⟩
   | succ i=>simpa using h2 i u (by simpa using h)
theorem wm (bs:List Bool) (n:Nat) (h:bs.length=n):(List.range n).all (fun i=>bs.getD i true)=bs.all id:=by
 subst h;rw [Bool.eq_iff_iff,yK,yK];constructor
 ·intro h x hx
  obtain ⟨i,hi,rfl⟩:=List.getElem_of_mem hx
  have:=h i (by simp [hi])
  simpa [hi] using this
 ·intro h i hi
  have hi':i < bs.length:=by simpa using hi
  have:=h bs[i] (List.getElem_mem hi')
  simpa [hi'] using this
theorem wl (bs:List Bool) (n:Nat) (h:bs.length=n):(List.range n).any (fun i=>bs.getD i true)=bs.any id:=by
 subst h;rw [Bool.eq_iff_iff,List.any_eq_true,List.any_eq_true];constructor
 ·rintro ⟨i,hi,h⟩
  have hi':i < bs.length:=by simpa using hi
  exact ⟨bs[i],List.getElem_mem hi',by simpa [hi'] using h⟩
 ·rintro ⟨x,hx,h⟩
  obtain ⟨i,hi,rfl⟩:=List.getElem_of_mem hx;exact ⟨i,by simp [hi],by simpa [hi] using h⟩
theorem Cl [FQ] (hc:X.calm=true):bA X (.builtin "all") (rB X.gm (bM mn)):=by
 rintro FO s σ H vs us Q I rv ⟨P,φ,st,xs,sm,r,k0⟩;obtain ⟨z,e,k⟩:=k0.map;clear k0;unfold mn at e;split at e
 ·rename_i v
  obtain ⟨w,ew,r9⟩:=r.one;clear r;subst ew;have r:=r9;clear r9;obtain ⟨ys,e1,e2⟩:=zA e;obtain ⟨bs,e3,rfl⟩:=zE.mp e2;obtain ⟨a,vs,rfl,d1,q1⟩:=r.ls sm e1;obtain ⟨u,rfl,ru⟩:=cB rv;cases ru;obtain ⟨FR,r',pl,_⟩:=I.list d1;obtain ⟨hl1,hat⟩:=oX e3 q1 r';have hl:=pl.isList;have hlt:a < s.heap.objs.size:=by obtain ⟨_,e,_⟩:=hl;exact yF e
  refine call_all_walk (wpAny_pyIter_list hl ⟨_,_,_,_,_,_,fun i=>bs.getD i true,rfl,Walks.list (A:=X.A.in1) (I.ok.hd hc) _ a (zT hlt) FR.toArray,⟨⟨_,zX _ rfl,rfl,rfl⟩,hl.push _⟩,?_,fun h' tk hk=>?_⟩)
  ·intro i v s2 Q2 E2 hP hQ
   rcases hat i v (by simpa using hP) with rfl | ⟨n,t,rfl,hn⟩
   ·exact wpAny_truthy_bool hQ
   ·exact PySem.P.truthy_int (by rw [hn];exact hQ)
  ·refine ⟨.bl (bs.all id),H,I.kept (old_kept hk),?_,k.pure sm (by simp only [RA])⟩
   rw [wm bs _ (by simpa using hl1)];rfl
 ·cases e
theorem Ck [FQ] (hc:X.calm=true):bA X (.builtin "any") (rB X.gm (bM mm)):=by
 rintro FO s σ H vs us Q I rv ⟨P,φ,st,xs,sm,r,k0⟩;obtain ⟨z,e,k⟩:=k0.map;clear k0;unfold mm at e;split at e
 ·rename_i v
  obtain ⟨w,ew,r9⟩:=r.one;clear r;subst ew;have r:=r9;clear r9;obtain ⟨ys,e1,e2⟩:=zA e;obtain ⟨bs,e3,rfl⟩:=zE.mp e2;obtain ⟨a,vs,rfl,d1,q1⟩:=r.ls sm e1;obtain ⟨u,rfl,ru⟩:=cB rv;cases ru;obtain ⟨FR,r',pl,_⟩:=I.list d1;obtain ⟨hl1,hat⟩:=oX e3 q1 r';have hl:=pl.isList;have hlt:a < s.heap.objs.size:=by obtain ⟨_,e,_⟩:=hl;exact yF e
  refine call_any_walk (wpAny_pyIter_list hl ⟨_,_,_,_,_,_,fun i=>bs.getD i true,rfl,Walks.list (A:=X.A.in1) (I.ok.hd hc) _ a (zT hlt) FR.toArray,⟨⟨_,zX _ rfl,rfl,rfl⟩,hl.push _⟩,?_,fun h' tk hk=>?_⟩)
  ·intro i v s2 Q2 E2 hP hQ
   rcases hat i v (by simpa using hP) with rfl | ⟨n,t,rfl,hn⟩
   ·exact wpAny_truthy_bool hQ
   ·exact PySem.P.truthy_int (by rw [hn];exact hQ)
  ·refine ⟨.bl (bs.any id),H,I.kept (old_kept hk),?_,k.pure sm (by simp only [RA])⟩
   rw [wl bs _ (by simpa using hl1)];rfl
 ·cases e
def gW (_:aa):List AV->Option AV
 | [.int i]=>some (.int (if i < 0 then -i else i))
 | _=>none
theorem Cm [FQ]:bA X (.builtin "abs") (rB X.gm (bM gW)):=jP tf fun vs H Q hq0=>by
 obtain ⟨P,φ,st,xs,sm,r,k0⟩:=hq0;obtain ⟨z,e,k⟩:=k0.map;unfold gW at e;split at e
 ·cases e
  obtain ⟨w,ew,r9⟩:=r.one;clear r;subst ew;have r:=r9;clear r9;simp only [RA] at r;exact ⟨_,by rw [r],k.pure sm (by simp only [RA])⟩
 ·cases e
def og (st:aa):List AV->Option AV
 | [.int i,.int j]=>some (.int (if j < i then j else i))
 | [v]=>(lsI st v).bind fun ns=>(minL ns).map .int
 | _=>none
noncomputable def yS:List Int->Option Int
 | []=>none
 | x::xs=>some (xs.foldl (fun a b=>if a < b then b else a) x)
theorem DY:∀ (xs:List Int) (x:Int),(xs.foldl (fun a b=>if a < b then b else a) x ∈ x::xs)/\∀ a ∈ x::xs,a <= xs.foldl (fun a b=>if a < b then b else a) x:=by
 intro xs
 induction xs with
 | nil=>intro x;exact ⟨by simp,by simp⟩
 | cons y xs ih =>
  intro x;rw [List.foldl_cons];obtain ⟨h1,h2⟩:=ih (if x < y then y else x);refine ⟨?_,fun a ha=>?_⟩
  ·rcases zS.mp h1 with h | h
   ·rw [h];split <;> simp
   ·exact zP _ (zP _ h)
  ·have h3:=h2 _ z3
   rcases zS.mp ha with rfl | ha
   ·refine Int.le_trans ?_ h3;split <;> omega
   ·rcases zS.mp ha with rfl | ha
    ·refine Int.le_trans ?_ h3;split <;> omega
    ·exact h2 a (zP _ ha)
theorem vL {m x:Int} (h:yS ns=some m) (h1:x ∈ ns) (h2:∀ a ∈ ns,a <= x):x=m:=by
 cases ns with
 | nil=>cases h
 | cons y ns =>
  obtain ⟨a,b⟩:=DY ns y;have e:ns.foldl (fun a b=>if a < b then b else a) y=m:=by injection h
  rw [e] at a b
  have:=h2 m a
  have:=b x h1
  omega
def j2 (st:aa):List AV->Option AV
 | [.int i,.int j]=>some (.int (if j > i then j else i))
 | [v]=>(lsI st v).bind fun ns=>(yS ns).map .int
 | _=>none
theorem Cg [FQ] (hc:X.calm=true):bA X (.builtin "min") (rB X.gm (bM og)):=by
 rintro FO s σ H vs us Q I rv ⟨P,φ,st,xs,sm,r,k0⟩;obtain ⟨z,e,k⟩:=k0.map;clear k0;unfold og at e;split at e
 ·rename_i i j
  cases e;obtain ⟨w,w',ew,r8,r9⟩:=r.two;clear r;subst ew;have r:=r8;have r':=r9;clear r8 r9;simp only [RA] at r r';subst r;subst r';exact qu hc FO s σ H _ us Q I rv ⟨i,j,rfl,k.pure sm (by simp only [RA])⟩
 ·rename_i v
  obtain ⟨w,ew,r9⟩:=r.one;clear r;subst ew;have r:=r9;clear r9;obtain ⟨ns,e1,e2⟩:=zA e;obtain ⟨m,hm,rfl⟩:=zE.mp e2;obtain ⟨a,rfl,d1⟩:=r.lsI sm e1;obtain ⟨u,rfl,ru⟩:=cB rv;cases ru;obtain ⟨FR,r',pl,_⟩:=I.list d1;have hi:IntsAre FR ns:=dX r';obtain ⟨ys,hy⟩:=hi.allInts.items;have hns':ns=ys.toList.map (·.1):=by rw [<- hi.numsOf,<- nums_intItems,<- hy]
  have hsz:0 < ys.size:=by
   cases ns with
   | nil=>cases hm
   | cons n ns =>
    have:(n::ns).length=ys.size:=by rw [hns',zH,Array.length_toList]
    simp at this;omega
  refine min_intList (xs:=ys) (I.ok.hd hc) (by rw [<- hy];exact pl.isList) hsz fun v h' tk hv hk=>?_
  obtain ⟨t,rfl⟩:=intItems_at hv;obtain ⟨h1,h2⟩:=argBest_lt (numAt ys) (ys.size - 1);refine ⟨.int m,H,I.kept hk,?_,k.pure sm (by simp only [RA])⟩;have e:numAt ys (argBest (fun i j=>decide (numAt ys i < numAt ys j)) (ys.size - 1))=m:=by
   refine minL_eq hm ?_ fun a ha=>?_
   ·rw [hns',numAt_eq];exact getD_mem (by rw [zH,Array.length_toList];omega)
   ·rw [hns'] at ha
    obtain ⟨j,hj,rfl⟩:=mem_getD ha;rw [zH,Array.length_toList] at hj;rw [<- numAt_eq];exact h2 j oM
  exact ⟨t,by rw [e]⟩
 ·cases e
theorem Ch [FQ] (hc:X.calm=true):bA X (.builtin "max") (rB X.gm (bM j2)):=by
 rintro FO s σ H vs us Q I rv ⟨P,φ,st,xs,sm,r,k0⟩;obtain ⟨z,e,k⟩:=k0.map;clear k0;unfold j2 at e;split at e
 ·rename_i i j
  cases e;obtain ⟨w,w',ew,r8,r9⟩:=r.two;clear r;subst ew;have r:=r8;have r':=r9;clear r8 r9;simp only [RA] at r r';subst r;subst r';exact qv hc FO s σ H _ us Q I rv ⟨i,j,rfl,k.pure sm (by simp only [RA])⟩
 ·rename_i v
  obtain ⟨w,ew,r9⟩:=r.one;clear r;subst ew;have r:=r9;clear r9;obtain ⟨ns,e1,e2⟩:=zA e;obtain ⟨m,hm,rfl⟩:=zE.mp e2;obtain ⟨a,rfl,d1⟩:=r.lsI sm e1;obtain ⟨u,rfl,ru⟩:=cB rv;cases ru;obtain ⟨FR,r',pl,_⟩:=I.list d1;have hi:IntsAre FR ns:=dX r';obtain ⟨ys,hy⟩:=hi.allInts.items;have hns':ns=ys.toList.map (·.1):=by rw [<- hi.numsOf,<- nums_intItems,<- hy]
  have hsz:0 < ys.size:=by
   cases ns with
   | nil=>cases hm
   | cons n ns =>
    have:(n::ns).length=ys.size:=by rw [hns',zH,Array.length_toList]
    simp at this;omega
  refine max_intList (xs:=ys) (I.ok.hd hc) (by rw [<- hy];exact pl.isList) hsz fun v h' tk hv hk=>?_
  obtain ⟨t,rfl⟩:=intItems_at hv;obtain ⟨h1,h2⟩:=argBest_gt (numAt ys) (ys.size - 1);refine ⟨.int m,H,I.kept hk,?_,k.pure sm (by simp only [RA])⟩;have e:numAt ys (argBest (fun i j=>decide (numAt ys i > numAt ys j)) (ys.size - 1))=m:=by
   refine vL hm ?_ fun a ha=>?_
   ·rw [hns',numAt_eq];exact getD_mem (by rw [zH,Array.length_toList];omega)
   ·rw [hns'] at ha
    obtain ⟨j,hj,rfl⟩:=mem_getD ha;rw [zH,Array.length_toList] at hj;rw [<- numAt_eq];exact h2 j oM
  exact ⟨t,by rw [e]⟩
 ·cases e
def ox (_:aa):List AV->Option AV
 | [.int i]=>some (.int i)
 | [.bl b]=>some (.int (if b then 1 else 0))
 | _=>none
theorem Cj [FQ]:bA X (.type "int") (rB X.gm (bM ox)):=jP qx fun vs H Q hq0=>by
 obtain ⟨P,φ,st,xs,sm,r,k0⟩:=hq0;obtain ⟨z,e,k⟩:=k0.map;unfold ox at e;split at e
 ·cases e
  obtain ⟨w,ew,r9⟩:=r.one;clear r;subst ew;have r:=r9;clear r9;simp only [RA] at r;exact .inl ⟨_,by rw [r],k.pure sm (by simp only [RA])⟩
 ·cases e
  obtain ⟨w,ew,r9⟩:=r.one;clear r;subst ew;have r:=r9;clear r9;simp only [RA] at r;exact .inr ⟨_,by rw [r],k.pure sm (by simp only [RA])⟩
 ·cases e
def jp (st:aa) (v:AV):Option String:=match dr st v with
 | .non=>some "NoneType"
 | .bl _=>some "bool"
 | .int _=>some "int"
 | .str _=>some "str"
 | .tup _=>some "tuple"
 | .fz _=>some "list"
 | .ref k=>match st[k]? with
  | some (.lst _)=>some "list"
  | _=>none
def De (T:String) (f:EF):EF:=fun sl st=>(f sl st).bind fun p=>(jp p.2 p.1).bind fun a=>(DD.isiT a T).map fun b=>(.bl b,p.2)
theorem BZ [FQ] {FO:List (Addr × Obj)}{σ:St}{H:Hp}{s:Shared}{P:Pr}{φ:List Addr}{st:aa}{x:AV}{v:V}{u c:Value}{t:String}{b:Bool}{Q:Value->Shared->Prop}{E:Value->Shared->Prop} (I:L2.Inv X FO σ H s) (sm:Sim X.gm P φ st H) (r:RA X.gm P H φ x v) (rv:RelV v u) (hk:jp st x=some t)
  (e:kitOne X.K (.type t) c=some b) (h:∀ tk,Q (.bool b) { s with toks:=tk }):wpAny (model X.prog X.w) X.A (call (.builtin "isinstance") [u,c]) Q E s:=by
 have lst:∀ {a:Addr}{vs:List V},v=.ref a->bx X.K H a vs->t="list"->wpAny (model X.prog X.w) X.A (call (.builtin "isinstance") [u,c]) Q E s:=fun ev sq et=>by
  subst ev;subst et;cases rv;obtain ⟨FR,o,n,_,e1,e2,e3⟩:=obj_list I sq;exact kia_one kitx_list I.kIn ⟨_,e1,e2⟩ e (fun z=>nomatch z) h
 have rd:=r.dr sm;unfold jp at hk;cases hx:dr st x with
 | non=>rw [hx] at hk rd;cases hk;simp only [RA] at rd;subst rd;exact fb I rv .non e h
 | bl _=>rw [hx] at hk rd;cases hk;simp only [RA] at rd;subst rd;exact fb I rv (.bl _) e h
 | int _=>rw [hx] at hk rd;cases hk;simp only [RA] at rd;subst rd;exact fb I rv (.int _) e h
 | str _=>rw [hx] at hk rd;cases hk;simp only [RA] at rd;subst rd;exact fb I rv (.str _) e h
 | fz _ =>
  rw [hx] at hk rd;cases hk;simp only [RA] at rd;obtain ⟨a,vs,ev,fl,_⟩:=rd;exact lst ev fl.sq rfl
 | tup _ =>
  rw [hx] at hk rd;cases hk;simp only [RA] at rd;obtain ⟨a,vs,rfl,_,h1,_⟩:=rd;cases rv;obtain ⟨FR,o,n,_,e1,e2,e3⟩:=obj_tup I (show dh X.K H a vs from .inl (.inl h1));exact kia_one kitx_tuple I.kIn ⟨_,e1,e2⟩ e (fun z=>nomatch z) h
 | ref k =>
  rw [hx] at hk rd;dsimp only at hk;split at hk
  ·rename_i ys hj
   cases hk;simp only [RA] at rd;obtain ⟨a,ea,ev⟩:=rd;obtain ⟨a',ea',c'⟩:=sm.at hj;rw [ea] at ea';cases ea';obtain ⟨_,vs,q1,_⟩:=c';exact lst ev (.inl (.inl q1)) rfl
  ·cases hk
theorem gw [FQ] (hg:Gl X "isinstance") (hm:X.mg "isinstance"=none) (hgy:Gl X y) (hmy:X.mg y=none) (hvy:bootBuiltins y=some (.type T)) (ha:QE X e f) (hny:y ≠ "__name__") (hdy:(y == ("__debug__":Str))=false)
  (he:starEach [e,.Name y p2] X.env=(false,eval e X.env)::starEach [.Name y p2] X.env) (hn:bootBuiltins "isinstance"=some (.builtin "isinstance")):QE X (.Call (.Name "isinstance" p) [e,.Name y p2] [] pos) (De T f):=by
 have hc:bA X (.builtin "isinstance") (fun vs H Q=>∃ P φ st x v a b,Sim X.gm P φ st H/\vs=[v,.ty T]/\RA X.gm P H φ x v/\jp st x=some a/\DD.isiT a T=some b/\Q (.bl b) H):=by
  rintro FO s σ H vs us Q I rv ⟨P,φ,st,x,v,a,b,sm,ev,r,h1,h2,q⟩;subst ev;obtain ⟨u1,u2,rfl,r1,r2⟩:=nF rv;cases r2;exact BZ I sm r r1 h1 (DD.isiT_kit h2) fun tk=>⟨.bl b,H,I.tok tk,rfl,q⟩
 refine PE_imp (iS hc hg hm hn (jX ha (jX (vv (v:=.ty T) hgy hmy hvy rfl hny hdy) pO rfl) he) dC dC he (by rfl)) fun σ H Q ⟨P,φ,sl,st,rs,s,kk⟩=>⟨P,φ,sl,st,rs,s,?_⟩
 obtain ⟨a,st',e1,q⟩:=kk.bind (Ra:=RA);refine ⟨a,st',e1,fun P1 φ1 H1 w f1 s1 r1=>?_⟩;obtain ⟨P2,φ2,st2,x,f2,s2,r2,k2⟩:=q P1 φ1 H1 w f1 s1 r1;obtain ⟨z,st3,e3,q3⟩:=k2;obtain ⟨t,e4,e5⟩:=zA e3;obtain ⟨b,e6,e7⟩:=zE.mp e5;cases e7;exact ⟨P2,φ2,st2,x,w,t,b,s2,rfl,r2,e4,e6,q3 P2 φ2 H1 _ Frm.refl s2 (by simp only [RA])⟩
end
end R
namespace R
open PySem PySem.Spec PyProof.Rows L2
open DD (PE_imp PT_imp PA_imp PS_imp PSs_imp OpR_imp PW_imp PG_imp pyOk reads_each)
abbrev MF:=AV->List AV->aa->Option (AV × aa)
def rM [FQ] (mg:Gm) (k:MF):V->List V->Hp->VK->Prop:=fun x vs H Q=>∃ P φ st a xs,Sim mg P φ st H/\RA mg P H φ a x/\FS mg P H φ xs vs/\KG mg RA P φ H (k a xs st) Q
def oU (T:String) (st:aa) (v:AV):Bool:=match v with
 | .str _=>T == "str"
 | .int _=>T == "int"
 | v=>if T="list" then (cy st v).isSome else if T="dict" then (fJ st v).isSome || (iI st v).isSome else false
def kM (T:String) (k:MF) (f:EF) (g:AF):EF:=fun sl st=>(f sl st).bind fun p=>if oU T p.2 p.1=true then (g sl p.2).bind fun q=>k p.1 q.1 q.2 else none
section
variable {X:Cx}{e o:Expr}{es:List Expr}{f:EF}{g:AF}{k:MF}{name:Str}{apos cpos:Pos}{T mid:String}
theorem uC [FQ] {P:Pr}{φ:List Addr}{st:aa}{H:Hp}{v:AV}{w:V} (s:Sim X.gm P φ st H) (r:RA X.gm P H φ v w) (h:oU T st v=true):oT X.K T w H:=by
 have gen:(if T="list" then (cy st v).isSome else if T="dict" then (fJ st v).isSome || (iI st v).isSome else false)=true->oT X.K T w H:=fun h=>by
  split at h
  ·rename_i hT
   obtain ⟨xs,e⟩:=Option.isSome_iff_exists.mp h;obtain ⟨a,vs,rfl,d1,_⟩:=r.ls s e;exact .inl ⟨hT,vs,d1⟩
  ·split at h
   ·rename_i hT
    cases v with
    | ref j =>
     simp only [RA] at r;obtain ⟨a,ea,rfl⟩:=r;simp only [fJ,iI] at h;cases hj:st[j]? with
     | none=>rw [hj] at h;simp at h
     | some c =>
      rw [hj] at h;obtain ⟨a',ea',c'⟩:=s.at hj;rw [ea] at ea';cases ea';cases c with
      | dK FP=>obtain ⟨_,ws,q1,_⟩:=c';exact .inr (.inr (.inl ⟨hT,.inl ⟨ws,q1⟩⟩))
      | dT FP=>obtain ⟨_,ws,q1,_⟩:=c';exact .inr (.inr (.inl ⟨hT,.inr ⟨ws,q1⟩⟩))
      | _=>simp at h
    | _=>simp [fJ,iI] at h
   ·cases h
 unfold oU at h;cases v with
 | str x=>simp only [RA] at r;subst r;exact yG h
 | int x=>simp only [RA] at r;subst r;exact yG h
 | _=>exact gen h
theorem yt [FQ] (q:rE X.gm (kM T k f g) σ H Q):CH X.K T (rM X.gm k) (rE X.gm f) (rA X.gm g) σ H Q:=by
 obtain ⟨P,φ,sl,st,rs,s,v,st',ev,kk⟩:=q;obtain ⟨p,e1,e2⟩:=zA ev;split at e2
 ·rename_i hT
  obtain ⟨r,e3,e4⟩:=zA e2;exact ⟨P,φ,sl,st,rs,s,p.1,p.2,e1,fun P1 φ1 H1 w f1 s1 r1=>⟨uC s1 r1 hT,P1,φ1,sl,p.2,rs.frm f1,s1,r.1,r.2,e3,fun P2 φ2 H2 ws f2 s2 r2=>⟨P2,φ2,r.2,p.1,r.1,s2,r1.frm f2,r2,v,st',e4,fun P3 φ3 H3 w3 f3 s3 r3=>kk P3 φ3 H3 w3 ((f1.trans f2).trans f3) s3 r3⟩⟩⟩
 ·cases e2
theorem tL [FQ] (pa:PlainAttrs T) (slot:Slot T name mid) (hty:typeOf (.builtin mid)=pure (.type "method_descriptor")) (hm:kP X mid (rM X.gm k)) (ho:QE X o f) (ha:QA X (e::es) g)
  (hbase:attributeBase o name X.env (eval o X.env)=eval o X.env)
  (hfew:((backTo cpos (starEach (e::es) X.env)).all (fun x=>!x.1) && (backToKw cpos (keywordEach [] X.env)).all (fun x=>x.1.isSome)
   && decide ((e::es).length + ([]:List Keyword).length + (if ([]:List Keyword).isEmpty then 0 else 1) < 30))=true)
  (hline:(apos.endLine == cpos.line)=true) (hs:starEach (e::es) X.env=(false,eval e X.env)::starEach es X.env) (hplain:(backTo cpos (starEach es X.env)).any (·.1)=false) :
  QE X (.Call (.Attribute o name apos) (e::es) [] cpos) (kM T k f g):=PE_imp (BC pa slot hty hm ho ha hbase hfew hline hs hplain) fun _ _ _ q=>yt q
theorem pv [FQ] (pa:PlainAttrs T) (slot:Slot T name mid) (hty:typeOf (.builtin mid)=pure (.type "method_descriptor")) (hm:kP X mid (rM X.gm k)) (ho:QE X o f)
  (hbase:attributeBase o name X.env (eval o X.env)=eval o X.env) (hline:(apos.endLine == cpos.line)=true):QE X (.Call (.Attribute o name apos) [] [] cpos) (kM T k f df) :=
 PE_imp (xS pa slot hty hm ho hbase hline) fun σ H Q q=>by
  obtain ⟨P,φ,sl,st,rs,s,v,st',ev,kk⟩:=yt q;refine ⟨P,φ,sl,st,rs,s,v,st',ev,fun P1 φ1 H1 w f1 s1 r1=>?_⟩;obtain ⟨h1,P2,φ2,sl2,st2,rs2,s2,xs,st3,e3,k3⟩:=kk P1 φ1 H1 w f1 s1 r1;cases e3;exact ⟨h1,k3 P2 φ2 H1 [] Frm.refl s2 be⟩
theorem mq (h:kP X mid r) (i:∀ x xs H Q,r' x xs H Q->r x xs H Q):kP X mid r':=fun FO s σ H x xs v us Q I rx rv h'=>h FO s σ H x xs v us Q I rx rv (i x xs H Q h')
def ig (st:aa):AV->Option (Nat × List AV)
 | .ref k=>match st[k]? with
  | some (.lst xs)=>some (k,xs)
  | _=>none
 | _=>none
theorem kF [FQ] {mg:Gm}{P:Pr}{φ:List Addr}{st:aa}{H:Hp}{v:AV}{w:V}{j:Nat}{xs:List AV} (s:Sim mg P φ st H) (r:RA mg P H φ v w) (h:ig st v=some (j,xs)):∃ a vs,w=.ref a/\φ[j]?=some a/\¬ P a/\H a=some (.lst vs)/\FS mg P H φ xs vs:=by
 cases v with
 | ref i =>
  simp only [ig] at h;split at h
  ·rename_i ys hj
   cases h;simp only [RA] at r;obtain ⟨a,ea,rfl⟩:=r;obtain ⟨a',ea',na,vs,h1,h2⟩:=s.at hj;rw [ea] at ea';cases ea';exact ⟨a,vs,rfl,ea,na,h1,h2⟩
  ·cases h
 | _=>cases h
theorem mD [FQ] {mg:Gm}{P:Pr}{φ:List Addr}{st:aa}{H:Hp}{j:Nat}{a:Addr}{ys:List AV}{us:List V} (s:Sim mg P φ st H) (ea:φ[j]?=some a) (na:¬ P a) (nz:∃ vs,H a=some (.lst vs)) (r:FS mg P H φ ys us) :
  Frm P φ H P φ (ak H a (.lst us))/\Sim mg P φ (st.set j (.lst ys)) (ak H a (.lst us))/\∀ {t:AV}{w:V},RA mg P H φ t w->RA mg P (ak H a (.lst us)) φ t w:=by
 have ex:∀ b,P b->P b/\ak H a (.lst us) b=H b:=fun b h=>⟨h,ae fun e=>na (e ▸ h)⟩
 obtain ⟨f3,s3⟩:=dZ (c:=.lst ys) (o:=.lst us) s ea na ⟨na,us,aK,r.mono ex fun _ _ z=>z⟩ (fun _ _ z=>by obtain ⟨vs,q⟩:=nz;rw [q] at z;cases z);exact ⟨f3,s3,fun h=>h.mono ex fun _ _ z=>z⟩
def oo:MF:=fun x xs st=>match xs with
 | [y]=>(ig st x).bind fun c=>if d6 c.2.length=true then some (.non,st.set c.1 (.lst (c.2++[y]))) else none
 | _=>none
theorem AZ {n:Nat} (h:d6 n=true):n < sizeLine:=Nat.lt_of_le_of_lt (zR h) dC
theorem tY [FQ]:kP X "list.append" (rM X.gm oo):=mq ko fun x vs H Q hq0=>by
 obtain ⟨P,φ,st,a,xs,s,r,rr,v,st',e,kk⟩:=hq0;unfold oo at e;split at e
 ·rename_i y
  obtain ⟨c,e1,e2⟩:=zA e;split at e2
  ·rename_i hz
   cases e2;obtain ⟨b,us,rfl,ea,na,h1,h2⟩:=kF s r e1;obtain ⟨w,rfl,r1⟩:=rr.one;obtain ⟨f3,s3,_⟩:=mD s ea na ⟨_,h1⟩ (h2.app (aY r1 be));exact ⟨b,us,w,rfl,rfl,h1,by rw [<- h2.length];exact AZ hz,kk P φ _ _ f3 s3 (by simp only [RA])⟩
  ·cases e2
 ·cases e
def om:MF:=fun x xs st=>match xs with
 | [y]=>(ig st x).bind fun c=>(cy st y).bind fun ys=>if d6 (c.2.length + ys.length)=true then some (.non,st.set c.1 (.lst (c.2++ys))) else none
 | _=>none
theorem tX [FQ]:kP X "list.extend" (rM X.gm om):=mq vK fun x vs H Q hq0=>by
 obtain ⟨P,φ,st,a,xs,s,r,rr,v,st',e,kk⟩:=hq0;unfold om at e;split at e
 ·rename_i y
  obtain ⟨c,e1,e2⟩:=zA e;obtain ⟨ys,e3,e4⟩:=zA e2;split at e4
  ·rename_i hz
   cases e4;obtain ⟨b,us,rfl,ea,na,h1,h2⟩:=kF s r e1;obtain ⟨w,rfl,r1⟩:=rr.one;obtain ⟨b2,us2,rfl,d2,q2⟩:=r1.ls s e3;obtain ⟨f3,s3,_⟩:=mD s ea na ⟨_,h1⟩ (h2.app q2);exact ⟨b,b2,us,us2,rfl,rfl,h1,d2,by rw [<- h2.length,<- q2.length];exact fC hz,kk P φ _ _ f3 s3 (by simp only [RA])⟩
  ·cases e4
 ·cases e
def Dh (t:Bool):EF:=fun _ st=>some (.ref st.length,st++[if t=true then .dT [] else .dK []])
theorem uY [FQ] (hm:PE X (.Dict [] [] pos) o4):QE X (.Dict [] [] pos) (Dh false):=PE_imp hm fun σ H Q hq0=>by
 obtain ⟨P,φ,sl,st,rs,s,v,st',e,kk⟩:=hq0;cases e;intro d hd;obtain ⟨f3,s3⟩:=iU (c:=.dK []) (o:=.dK []) s hd ⟨fun z=>s.dom d z hd,[],aK,rfl,be⟩;refine kk P _ _ _ f3 s3 ?_;simp only [RA];exact ⟨d,by rw [<- s.len];simp,rfl⟩
end
end R
namespace R
open PySem PySem.Spec PyProof.Rows L2
open DD (PE_imp PT_imp PA_imp PS_imp PSs_imp OpR_imp PW_imp PG_imp pyOk obj_list obj_tup minL minL_eq)
def lT:aZ->AV
 | .inl i=>.int i
 | .inr x=>.str x
noncomputable def wE (k:Nat):Out->Option Out
 | .nx sl st=>match st[k]? with
  | some (.wk FP)=>some (.nx sl (st.set k (.dK FP)))
  | _=>none
 | .rt v st=>match st[k]? with
  | some (.wk FP)=>some (.rt v (st.set k (.dK FP)))
  | _=>none
 | _=>none
def rl (f:EF) (g:GF) (s:SF):SF:=fun sl st=>(f sl st).bind fun p=>match p.1 with
 | .ref k=>match p.2[k]? with
  | some (.dK FP)=>(cp [] g s (FP.map fun q=>lT q.1) sl (p.2.set k (.wk FP))).bind (wE k)
  | _=>none
 | _=>none
section
variable {X:Cx}{tg iter:Expr}{body:List Stmt}{pos:Pos}{f:EF}{g:GF}{s:SF}
theorem uN [FQ] (hp:PassesOwn (model X.prog X.w) X.A X.env X.xe) (hc:X.calm=true) (hi:QE X iter f) (hg:QG X tg g) (hb:gX X body s) (hs:∀ x,foldedSetIterable iter X.env x=pure x):QS X (.For tg iter body [] pos) (rl f g s) :=
 PS_imp (u6 (pE hp hc (vh hi) hg hb hs)) fun D σ H hq0=>by
  obtain ⟨P,φ,sl,st,rs,sm,o,e,q⟩:=hq0;obtain ⟨p,e1,e2⟩:=zA e;refine ⟨P,φ,sl,st,rs,sm,p.1,p.2,e1,fun P1 φ1 H1 w f1 s1 r1=>?_⟩;split at e2
  ·rename_i k ek
   rw [ek] at r1;simp only [RA] at r1;obtain ⟨a,ea,rfl⟩:=r1;split at e2
   ·rename_i FP hk
    obtain ⟨o1,e3,e4⟩:=zA e2;obtain ⟨na,ws,h1,h2⟩:=s1.cell k _ a hk ea;refine ⟨a,ws,rfl,h1,fun ob hn=>?_⟩;have hkeys:(FP.map fun q=>lT q.1).length=ws.length:=by
     have:=congrArg List.length h2.1
     rw [zH,zH] at this;rw [zH];exact this
    obtain ⟨fw,sw⟩:=dZ (c:=.wk FP) (o:=.frz ob (.dK ws)) s1 ea na ⟨na,ob,ws,aK,h2.mono (fun b h=>⟨h,ae fun e=>na (e ▸ h)⟩) fun _ _ z=>z⟩ (fun _ _ z=>by rw [h1] at z;cases z);have rsw:FV X.gm P1 (ak H1 a (.frz ob (.dK ws))) φ1 sl σ:=(rs.frm f1).frm fw
    -- behind the loop
    have back:∀ {P5 φ5 H5 st5},Frm P1 φ1 (ak H1 a (.frz ob (.dK ws))) P5 φ5 H5->Sim X.gm P5 φ5 st5 H5->∀ {kvs'},st5[k]?=some (.wk kvs')->∃ o5 ws5,H5 a=some (.frz o5 (.dK ws5)) /\
      Frm P φ H P5 φ5 (ak H5 a (.dK ws5))/\Sim X.gm P5 φ5 (st5.set k (.dK kvs')) (ak H5 a (.dK ws5))/\∀ b,P5 b->P5 b/\ak H5 a (.dK ws5) b=H5 b:=by
     intro P5 φ5 H5 st5 f5 s5 kvs' hw;have ea5:φ5[k]?=some a:=f5.ix k a ea;obtain ⟨na5,o5,ws5,g1,g2⟩:=s5.cell k _ a hw ea5;have ex5:∀ b,P5 b->P5 b/\ak H5 a (.dK ws5) b=H5 b:=fun b h=>⟨h,ae fun e=>na5 (e ▸ h)⟩
     refine ⟨o5,ws5,g1,?_,?_,ex5⟩
     ·have fall:=(f1.trans fw).trans f5
      obtain ⟨m,em,nm⟩:=fall.new;have hna:H a=none\/a ∈ φ:=by
       rcases zY.mp (show a ∈ φ++f1.new.choose by rw [<- f1.new.choose_spec.1];exact zV ea) with z | z
       ·exact .inr z
       ·exact .inl (f1.new.choose_spec.2 a z)
      refine ⟨fun b h=>⟨(fall.ext b h).1,?_⟩,⟨m,em,nm⟩,fun b h n z=>?_,fall.pn,fun b h=>?_,fun b o u h=>?_⟩
      ·rw [(ex5 b (fall.ext b h).1).2];exact (fall.ext b h).2
      ·have nb:b ≠ a:=fun e=>by
        rcases hna with y | y
        ·exact h (by rw [e];exact y)
        ·exact n (by rw [e];exact y)
       rw [ae nb];exact fall.keep b h n z
      ·by_cases e:b=a
       ·rw [e,aK];exact fun z=>nomatch z
       ·rw [ae e];exact fall.sm b h
      ·have nb:b ≠ a:=fun e=>by
        have:=f1.fz b o u h
        rw [e,h1] at this;cases this
       rw [ae nb];exact fall.fz b o u h
     ·have hs5:st5[k]?=some (.wk kvs'):=hw
      refine ⟨by rw [List.length_set];exact s5.len,s5.nd,fun b h=>by rw [(ex5 b h).2];exact s5.dom b h,fun b h=>?_,fun j c b e5 e6=>?_,fun t ht=>⟨(s5.tb t ht).1.wr (s5.notb ea5 na5),(s5.tb t ht).2⟩⟩
      ·by_cases e:b=a
       ·rw [e,aK];exact fun z=>nomatch z
       ·rw [ae e];exact s5.cd b h
      ·by_cases hj:j=k
       ·subst hj
        rw [ea5] at e6;cases e6;rw [List.getElem?_set_self (by rw [<- s5.len];exact (zB.mp ea5).1)] at e5;cases e5;exact ⟨na5,ws5,aK,g2.mono ex5 fun _ _ z=>z⟩
       ·rw [List.getElem?_set_ne (Ne.symm hj)] at e5
        have hb:b ≠ a:=fun e=>hj (by
         subst e;obtain ⟨l1,q1⟩:=zB.mp e6;obtain ⟨l2,q2⟩:=zB.mp ea5;exact (List.getElem_inj s5.nd).mp (q1.trans q2.symm))
        exact (s5.cell j c b e5 e6).mono ex5 (fun _ _ z=>z) (ae hb) fun z=>z
    have endN:∀ {P5 φ5 H5 σ5 sl5 st5},o1=.nx sl5 st5->Frm P1 φ1 (ak H1 a (.frz ob (.dK ws))) P5 φ5 H5->Sim X.gm P5 φ5 st5 H5->FV X.gm P5 H5 φ5 sl5 σ5->(kU X.H₀ D).nx σ5 H5:=by
     intro P5 φ5 H5 σ5 sl5 st5 eo f5 s5 rs5;subst eo;simp only [wE] at e4;split at e4
     ·rename_i kvs' hw
      cases e4;obtain ⟨o5,ws5,g1,g2,g3,g4⟩:=back f5 s5 hw;exact ⟨a,o5,ws5,g1,hn,q P5 φ5 _ σ5 g2 g3 ⟨rs5.1,fun i v e=>let ⟨w,e',r⟩:=rs5.2 i v e;⟨w,e',r.mono g4 fun _ _ z=>z⟩⟩⟩
     ·cases e4
    have endR:∀ {P5 φ5 H5 v5 st5 w5},o1=.rt v5 st5->Frm P1 φ1 (ak H1 a (.frz ob (.dK ws))) P5 φ5 H5->Sim X.gm P5 φ5 st5 H5->RA X.gm P5 H5 φ5 v5 w5->(kU X.H₀ D).rt w5 H5:=by
     intro P5 φ5 H5 v5 st5 w5 eo f5 s5 r5;subst eo;simp only [wE] at e4;split at e4
     ·rename_i kvs' hw
      cases e4;obtain ⟨o5,ws5,g1,g2,g3,g4⟩:=back f5 s5 hw;exact ⟨a,o5,ws5,g1,hn,q P5 φ5 _ w5 g2 g3 (r5.mono g4 fun _ _ z=>z)⟩
     ·cases e4
    refine ⟨fun i m σ' H'=>m=ws.length - i/\i <= ws.length/\∃ P' φ' sl' st',Frm P1 φ1 (ak H1 a (.frz ob (.dK ws))) P' φ' H'/\Sim X.gm P' φ' st' H'/\FV X.gm P' H' φ' sl' σ'/\cp [] g s ((FP.map fun q=>lT q.1).drop i) sl' st'=some o1,
     ⟨_,rfl,Nat.zero_le _,P1,φ1,sl,_,Frm.refl,sw,rsw,by simpa using e3⟩,?_⟩
    rintro i m σ' H' ⟨rfl,hle,P2,φ2,sl2,st2,f2,s2,rs2,eg⟩;have hfz:H' a=some (.frz ob (.dK ws)):=f2.fz a _ _ aK;rcases yN i ws.length with hlt | hge
    ·right
     rw [List.drop_eq_getElem_cons (by rw [hkeys];exact hlt)] at eg;simp only [cp,bQ,if_true] at eg;obtain ⟨q4,e5,e6⟩:=zA eg;obtain ⟨o2,e7,e8⟩:=zA e6;refine ⟨⟨hfz,hlt⟩,fun σ' H'=>∃ P' φ' sl' st',Frm P1 φ1 (ak H1 a (.frz ob (.dK ws))) P' φ' H'/\Sim X.gm P' φ' st' H'/\FV X.gm P' H' φ' sl' σ'/\cp [] g s ((FP.map fun q=>lT q.1).drop (i + 1)) sl' st'=some o1,fun σ' H' z=>⟨_,by omega,rfl,hlt,z⟩,fun x H3 hy=>?_⟩;obtain ⟨rfl,hx⟩:=hy;have rx:RA X.gm P2 H3 φ2 ((FP.map fun q=>lT q.1)[i]'(by rw [hkeys];exact hlt)) x:=by
      have hkw:FP[i]?.map (·.1)=ws[i]?.map (·.1):=by rw [<- zQ,<- zQ,h2.1]
      have hlt':i < FP.length:=by rw [zH] at hkeys;omega
      rw [zQ,zF hlt] at hx;rw [zF hlt',zF hlt] at hkw;simp only [map_some,Option.some.injEq] at hx hkw;rw [List.getElem_map,hkw,<- hx];cases ws[i].1 with
      | inl n=>simp only [lT,RA,kV]
      | inr z=>simp only [lT,RA,kV]
     refine ⟨P2,φ2,sl2,st2,_,rs2,s2,rx,q4.1,q4.2,e5,fun P4 φ4 H4 σ4 f4 s4 rs4=>⟨P4,φ4,q4.1,q4.2,rs4,s4,o2,e7,?_⟩⟩;have fa:=f2.trans f4;cases o2 with
     | nx sl5 st5=>exact fun P5 φ5 H5 σ5 f5 s5 rs5=>⟨P5,φ5,sl5,st5,fa.trans f5,s5,rs5,e8⟩
     | ct sl5 st5=>exact fun P5 φ5 H5 σ5 f5 s5 rs5=>⟨P5,φ5,sl5,st5,fa.trans f5,s5,rs5,e8⟩
     | bk sl5 st5=>exact fun P5 φ5 H5 σ5 f5 s5 rs5=>endN (yA e8).symm (fa.trans f5) s5 rs5
     | rt v st5=>exact fun P5 φ5 H5 w f5 s5 r5=>endR (yA e8).symm (fa.trans f5) s5 r5
    ·left
     have ei:i=ws.length:=Nat.le_antisymm hle hge;subst ei;rw [<- hkeys,List.drop_length] at eg;simp only [cp,bQ,if_true] at eg;exact ⟨⟨hfz,zO _⟩,endN (yA eg).symm f2 s2 rs2⟩
   ·cases e2
  ·cases e2
end
end R
namespace R
open PySem PySem.Spec PyProof.Rows L2
noncomputable def bu:Expr->Bool
 | .Starred _ _=>false
 | _=>true
noncomputable def jl:Expr->Bool
 | .Slice _ _ _ _=>false
 | _=>true
noncomputable def n8:Expr->Bool
 | .Set _ _ _=>false
 | _=>true
noncomputable def iV:Expr->Bool
 | .Call (.Name _ _) [] [] _=>false
 | _=>true
noncomputable def g8:Expr->Bool
 | .ListComp _ _ _ _=>false
 | .SetComp _ _ _ _=>false
 | .DictComp _ _ _ _ _=>false
 | _=>true
noncomputable def sD:Expr->Bool
 | .Tuple _ _ _=>false
 | _=>true
noncomputable def pH:Expr->Bool
 | .UnaryOp .Not _ _=>false
 | .BoolOp _ _ _=>false
 | .IfExp _ _ _ _=>false
 | .Compare _ _ _ _=>false
 | _=>true
section
variable {env:Env}{e o i a b:Expr}{es:List Expr}{pos cpos apos:Pos}{f:Str}
theorem aE (h:bu e=true):starEach (e::es) env=(false,eval e env)::starEach es env:=by
 cases e <;> first | rfl | cases h
theorem d7 (h:es.all bu=true):(backTo pos (starEach es env)).any (·.1)=false:=by
 induction es with
 | nil=>rfl
 | cons e es ih =>
  rw [List.all_cons,zC] at h;rw [aE h.1];show (false || (backTo pos (starEach es env)).any (·.1))=false;rw [ih h.2];rfl
theorem re (h:es.all bu=true):(backTo pos (starEach es env)).all (fun x=>!x.1)=true:=by
 induction es with
 | nil=>rfl
 | cons e es ih =>
  rw [List.all_cons,zC] at h;rw [aE h.1];show (true && (backTo pos (starEach es env)).all (fun x=>!x.1))=true;rw [ih h.2];rfl
theorem C9 (h:es.all bu=true) (hl:es.length < 30):((backTo cpos (starEach es env)).all (fun x=>!x.1) && (backToKw cpos (keywordEach [] env)).all (fun x=>x.1.isSome) && decide (es.length + ([]:List Keyword).length + (if ([]:List Keyword).isEmpty then 0 else 1) < 30))=true:=by
 rw [re h];have:decide (es.length + ([]:List Keyword).length + (if ([]:List Keyword).isEmpty then 0 else 1) < 30)=true:=yO (by simpa using hl);rw [this];rfl
theorem cY (w:Sem Value) (h:iV o=true):attributeBase o f env w=w:=by
 unfold attributeBase;split
 ·simp [iV] at h
 ·rfl
theorem mV (hb:iV o=true) (hs:es.all bu=true) (hl:es.length < 30) (hline:(apos.endLine == pos.line)=true):eval (.Call (.Attribute o f apos) es [] pos) env=(do
   let ov <- eval o env
   standAt apos.atName
   let (f,first) <- holding [ov] (getMethod ov f (do return (<- importBound o env).getD true))
   callWith pos f first (backTo pos (starEach es env)) (backToKw pos (keywordEach [] env))):=by
 rw [arm_eval_Call,cY _ hb];have hform:methodCallForm (es.length + ([]:List Keyword).length) (backTo pos (starEach es env)) (backToKw pos (keywordEach [] env))=true:=C9 hs hl;have hpos:methodCallPos true o env apos pos=pure pos:=by unfold methodCallPos;simp [hline]
 unfold methodCall;rw [hform,hpos];rfl
theorem i9 (h:n8 e=true) (x:Value):foldedSetIterable e env x=pure x:=by
 cases e <;> first | rfl | cases h
theorem BX (h:jl i=true):kb i:=fun _ _=>by
 cases i <;> first | rfl | cases h
theorem wP (h:jl i=true) (v:Value):assign (.Subscript o i pos) env v=(do
   let ov <- holding [v] (eval o env)
   let iv <- holding [v,ov] (eval i env)
   standAt pos
   holding [v,ov,iv] (setItem ov iv v)
   release [v,ov,iv] []):=by
 cases i <;> first | rfl | cases h
theorem mF {l:Nat} (h:g8 e=true):swapsWith e t l env=pure false:=by
 cases e <;> first | rfl | cases h
theorem qY {l:Nat}:swapsWith e (some (.Attribute o f p)) l env=pure false:=by
 cases e <;> rfl
noncomputable def CJ (nm:List (Str × NameKind)) (t:Str) (tl:Nat) (sc:Scope) (vl:Nat):Bool:=decide (nm.lookup t=some .local) && (tl == vl) && !(sc.names.any fun (n,k)=>n == t && (k == .local || k == .cell))
theorem wM {l:Nat} (hk:env.scope.kind=.function) :
  swapsWith (.ListComp elt gens sc pos) (some (.Name t p)) l env=pure (CJ env.scope.names t p.line sc pos.line):=by
 have hb:env.blockKind=.function:=by unfold Env.blockKind;rw [hk];rfl
 show (pure (env.blockKind == .function && env.kindOf t == some .local && p.line == pos.line && !(sc.names.any fun (n,k)=>n == t && (k == .local || k == .cell))):Sem Bool)=_;rw [hb];have:(env.kindOf t == some NameKind.local)=decide (env.scope.names.lookup t=some .local):=by
  show (env.scope.names.lookup t == some NameKind.local)=_;cases h:env.scope.names.lookup t with
  | none=>rfl
  | some k=>cases k <;> rfl
 rw [this];rfl
theorem rc:swappedStores [.Subscript a b p] e env=pure none:=by cases e <;> rfl
theorem q9 {k:Nat} (h:sD e=true):swappedStores [.Tuple ts k p] e env=pure none:=by cases e <;> first | rfl | cases h
theorem nr (h:bu e=true):(assignEach [e] env).map (·.2)=[assign e env]:=by
 cases e <;> first | rfl | cases h
theorem sW (h:bu e=true):(assignEach (e::es) env).map (·.2)=assign e env::(assignEach es env).map (·.2):=by
 cases e <;> first | rfl | cases h
theorem sX:(assignEach es env).length=es.length:=by
 induction es with
 | nil=>rfl
 | cons e es ih=>cases e <;> (show (assignEach es env).length + 1=es.length + 1;rw [ih])
theorem sY (h:es.all bu=true):(assignEach es env).findIdx? (·.1)=none:=by
 have:∀ p ∈ assignEach es env,p.1=false:=by
  induction es with
  | nil=>intro p hp;cases hp
  | cons e es ih =>
   rw [List.all_cons,zC] at h;have e1:assignEach (e::es) env=(false,assign e env)::assignEach es env:=by
    cases e <;> first | rfl | cases h.1
   rw [e1];intro p hp;rcases zS.mp hp with rfl | hp
   ·rfl
   ·exact ih h.2 p hp
 rw [List.findIdx?_eq_none_iff];intro p hp;rw [this p hp]
theorem uE (h:pH e=true) (whole:Sem Value):isTrue e env whole=(do let v <- whole;standAt e.pos;holding [v] (truthy v)):=by
 cases e with
 | UnaryOp op x p=>cases op <;> first | rfl | cases h
 | BoolOp=>cases h
 | IfExp=>cases h
 | Compare=>cases h
 | _=>rfl
end
noncomputable def AJ (a c:Int) (n:Nat):It:=⟨fun i _=>i < n,fun i H x H'=>H'=H/\x=.int (a + (i:Int) * c),fun i _=>n <= i⟩
theorem wB {P:Program}{w:World}{K:Frag}{tg:Expr} (it:Addr) (a c:Int) (n:Nat):f9 P w K tg (AJ a c n) [it] it (fun i h=>IsRangeIter h it (a + (i:Nat) * c) ((n:Int) - (i:Nat)) c) where
 mem:=by simp
 obj:=fun i h st b hb=>by
  obtain rfl:b=it:=by simpa using hb
  exact ⟨_,st,fun v z=>nomatch (show Data.fields _=Data.cell v from z)⟩
 keep:=fun i h h' st k=>k it (by simp) _ st
 item:=by
  intro X hP hw hK hc i FO s σ H E I hf st hg;subst hP hw hK;obtain ⟨f0,f1,f2,f3,f4,f5⟩:=hf it (by simp);refine (Walks.range (prog:=X.prog) (w:=X.w) (I.ok.hd hc) it a c n).item i s _ _ hg st fun v h' tk hv st' kk=>?_
  obtain ⟨t,rfl⟩:=hv;have I1:Inv X FO σ H { s with heap:=h',toks:=tk }:=I.turned (fun b o hb e=>kk b o (by simpa using hb) e) f0 f1 f3 f4 f5;exact ⟨_,rfl,ia (s:={ s with heap:=h',toks:=tk }) (n:="range_iterator") st' rfl rfl dC ⟨.int (a + (i:Int) * c),H,I1,⟨t,rfl⟩,⟨rfl,rfl⟩,st',fun b hb=>(hf b hb).1⟩⟩
 done:=by
  intro X hP hw hK hc i FO s σ H E I hf st hg;subst hP hw hK;obtain ⟨f0,f1,f2,f3,f4,f5⟩:=hf it (by simp);exact wpAny_pyNext_range_end (I.ok.hd hc) st (by have:n <= i:=hg;omega) fun h' eb=>⟨rfl,I.turned (t':=s.toks) (fun b o hb e=>eb b o hb e) f0 f1 f3 f4 f5⟩
 self:=fun _ _ _ _ _ st h=>wpAny_pyIter_rangeiter st h
noncomputable def jc (a b c:Int):Bool:=decide (0 < c) && Nat.ble c.natAbs 1000000 && Builtin.Range.small a b c
noncomputable def du (a b c:Int):Nat:=(Builtin.Range.rangeSize a b c).toNat
def iR (a b c:Int):List AV:=(List.range (du a b c)).map fun (i:Nat)=>.int (a + (i:Int) * c)
theorem uI {a b c:Int} (hc:0 < c):0 <= Builtin.Range.rangeSize a b c:=by
 unfold Builtin.Range.rangeSize;rw [yE (show c > 0 from hc)];split
 ·have:=Int.ediv_nonneg (a:=b - a - 1) (b:=c) oM oM;omega
 ·exact Int.le_refl _
section
variable {X:Cx}{tg:Expr}{mg:Gm}{P:Pr}{φ:List Addr}{H:Hp}{a b c:Expr}{f g h:EF}{p pos:Pos}
def EU (ta:TA):TI:=fun σ H R=>ta σ H fun vs H1=>∃ i j k:Int,vs=[.int i,.int j,.int k]/\jc i j k=true/\R (AJ i k (du i j k)) H1
theorem DT {ta:TA} (hg:Gl X "range") (hm:X.mg "range"=none) (ha:PA X [a,b,c] ta) (hs:starEach [a,b,c] X.env=[(false,eval a X.env),(false,eval b X.env),(false,eval c X.env)])
  (hs2:starEach [b,c] X.env=[(false,eval b X.env),(false,eval c X.env)]):PI X tg (.Call (.Name "range" p) [a,b,c] [] pos) (EU ta):=by
 intro FO s σ H R I h;refine Call_ (eI I hg hm boot_range (PyProof.Rows.callWith_type1 (aH (ha pos FO s σ H _ I h) fun us s1 hq0=>?_) (by rw [hs,hs2]) (by rw [hs2];rfl)));obtain ⟨vs,H1,I1,r1,i,j,k,e,hb,q⟩:=hq0;subst e;unfold jc at hb;simp only [zC,z6] at hb;obtain ⟨⟨h1,h2⟩,h3⟩:=hb;have h2:=zR h2;obtain ⟨u1,us1,rfl,ru1,r2⟩:∃ u us',us=u::us'/\RelV (.int i) u/\Vals [.int j,.int k] us':=by cases r1 with | cons r rr=>exact ⟨_,_,rfl,r,rr⟩
 obtain ⟨u2,us2,rfl,ru2,r3⟩:∃ u us',us1=u::us'/\RelV (.int j) u/\Vals [.int k] us':=by cases r2 with | cons r rr=>exact ⟨_,_,rfl,r,rr⟩
 obtain ⟨u3,us3,rfl,ru3,r4⟩:∃ u us',us2=u::us'/\RelV (.int k) u/\Vals [] us':=by cases r3 with | cons r rr=>exact ⟨_,_,rfl,r,rr⟩
 cases r4;obtain ⟨t1,rfl⟩:=ru1;obtain ⟨t2,rfl⟩:=ru2;obtain ⟨t3,rfl⟩:=ru3;refine call_range_3 oM ?_ (Or.inl (PyProof.noPylong_small oM));refine wpAny_pyIter_range (IsRange.new ..) h3 ?_;have I2:Inv X FO σ H1 { s1 with heap:=s1.heap.push { cls:=.type "range",data:=.fields #[.int i t1,.int j t2,.int k t3] },toks:=s1.toks }:=I1.kept fun b o e=>zG _ e
 refine ⟨(s1.heap.push { cls:=.type "range",data:=.fields #[.int i t1,.int j t2,.int k t3] }).objs.size,[(s1.heap.push { cls:=.type "range",data:=.fields #[.int i t1,.int j t2,.int k t3] }).objs.size],_,_,H1,rfl,I2.kept (t':=s1.toks) fun b o e=>zG _ e,wB _ i k (du i j k),?_,fun b hb=>?_,q⟩
 ·have e1:i + ((0:Nat):Int) * k=i:=by simp
  have e2:((du i j k:Nat):Int) - ((0:Nat):Int)=Builtin.Range.rangeSize i j k:=by have:=uI (a:=i) (b:=j) h1;unfold du;omega
  show IsRangeIter _ _ (i + ((0:Nat):Int) * k) (((du i j k:Nat):Int) - ((0:Nat):Int)) k;rw [e1,e2];exact zX _ rfl
 ·obtain rfl:b=(s1.heap.push { cls:=.type "range",data:=.fields #[.int i t1,.int j t2,.int k t3] }).objs.size:=by simpa using hb
  exact I2.fpOk (zO _) (I2.FT.fresh (zO _))
theorem BY [FQ] {i k:Int}{j:Int}:nE mg (AJ i k (du i j k)) ⟨iR i j k,[]⟩ P φ H where
 go:=fun P2 φ2 H2 st2 m y f s g e=>by
  unfold iR at e;rw [zQ] at e;obtain ⟨c,e1,e2⟩:=zE.mp e;obtain ⟨h1,h2⟩:=zB.mp e1;rw [List.getElem_range] at h2;subst h2 e2;rw [List.length_range] at h1;refine ⟨h1,fun w H3 hq=>?_⟩;obtain ⟨hH,hw⟩:=hq;subst hH;exact ⟨P2,Frm.refl,s,by simp only [RA];exact hw⟩
 stop:=fun P2 φ2 H2 st2 f s g=>by
  show du i j k <= (iR i j k).length;simp [iR]
theorem EO [FQ] {σ:St}{Q:List V->Hp->Prop}{sl:Sl}{st:aa} (rs:FV mg P H φ sl σ) (s:Sim mg P φ st H)
  (hh:∃ v st1 u st2 x st3,f sl st=some (v,st1)/\g sl st1=some (u,st2)/\h sl st2=some (x,st3)/\∀ P1 φ1 H1 w w' w'',Frm P φ H P1 φ1 H1->Sim mg P1 φ1 st3 H1->RA mg P1 H1 φ1 v w->RA mg P1 H1 φ1 u w'->RA mg P1 H1 φ1 x w''->Q [w,w',w''] H1):rA mg (dg f (dg g (dg h df))) σ H Q:=by
 obtain ⟨v,st1,u,st2,x,st3,e,e',e'',k⟩:=hh;refine ⟨P,φ,sl,st,rs,s,[v,u,x],st3,by simp only [dg,df,e,e',e'',bind_some],fun P1 φ1 H1 ws f1 s1 r1=>?_⟩;simp only [FS] at r1;obtain ⟨w,us,rfl,r,w',us',rfl,r',w'',us'',rfl,r'',rfl⟩:=r1;exact k P1 φ1 H1 w w' w'' f1 s1 r r' r''
def t7 (f g h:EF):IF:=fun sl st=>(f sl st).bind fun p=>(g sl p.2).bind fun q=>(h sl q.2).bind fun r=>match p.1,q.1,r.1 with
 | .int i,.int j,.int k=>if jc i j k=true then some (⟨iR i j k,[]⟩,r.2) else none
 | _,_,_=>none
theorem Bf [FQ] (hg:Gl X "range") (hm:X.mg "range"=none) (ha:QE X a f) (hb:QE X b g) (hc:QE X c h) (hs:starEach [a,b,c] X.env=[(false,eval a X.env),(false,eval b X.env),(false,eval c X.env)]) (hs2:starEach [b,c] X.env=[(false,eval b X.env),(false,eval c X.env)]) (hs3:starEach [c] X.env=[(false,eval c X.env)]) :
  QI X tg (.Call (.Name "range" p) [a,b,c] [] pos) (t7 f g h) :=
 fM (DT hg hm (cw ha (cw hb (cw hc er (by rw [hs3];rfl)) (by rw [hs2,hs3])) (by rw [hs,hs2])) hs hs2) fun σ H R hq=>by
  obtain ⟨P,φ,sl,st,rs,s,iv,st',ef,k⟩:=hq;obtain ⟨q,e1,e2⟩:=zA ef;obtain ⟨r,e3,e4⟩:=zA e2;obtain ⟨t,e5,e6⟩:=zA e4;refine EO rs s ⟨q.1,q.2,r.1,r.2,t.1,t.2,e1,e3,e5,fun P1 φ1 H1 w w' w'' f1 s1 r1 r2 r3=>?_⟩;split at e6
  ·rename_i i j m ei ej em
   rw [ei] at r1;rw [ej] at r2;rw [em] at r3;split at e6
   ·rename_i hb
    cases e6;simp only [RA] at r1 r2 r3;subst r1;subst r2;subst r3;exact ⟨i,j,m,rfl,hb,k P1 φ1 H1 _ f1 s1 BY⟩
   ·cases e6
  ·cases e6
end
end R
namespace R
open PySem PySem.Spec PyProof.Rows L2
open DD (PE_imp PT_imp)
def tH (o o':CmpOp) (f g h:EF):TF:=fun sl st=>(f sl st).bind fun p=>(g sl p.2).bind fun q=>(bj o q.2 p.1 q.1).bind fun b=>if b=true then (h sl q.2).bind fun r=>(bj o' r.2 q.1 r.1).map fun c=>(c,r.2) else some (false,q.2)
def Di (o o':CmpOp) (f g h:EF):EF:=fun sl st=>(tH o o' f g h sl st).map fun p=>(.bl p.1,p.2)
section
variable {X:Cx}{a b c:Expr}{f g h:EF}{o o':CmpOp}{pos:Pos}
theorem Am [FQ] {mg:Gm}{P:Pr}{φ:List Addr}{H:Hp}{sl:Sl}{st st':aa}{σ:St}{d:Bool}{Q:VK} (rs:FV mg P H φ sl σ) (s:Sim mg P φ st H) (e:tH o o' f g h sl st=some (d,st'))
  (k:∀ P' φ' H',Frm P φ H P' φ' H'->Sim mg P' φ' st' H'->Q (.bl d) H'):lv (r2 mg (d8 (eR o))) (r2 mg (d8 (eR o'))) (rE mg f) (rE mg g) (rE mg h) σ H Q:=by
 obtain ⟨p,e1,e⟩:=zA e;obtain ⟨q,e2,e⟩:=zA e;obtain ⟨v,e3,e⟩:=zA e;refine ⟨P,φ,sl,st,rs,s,p.1,p.2,e1,fun P1 φ1 H1 x f1 s1 r1=>⟨P1,φ1,sl,p.2,rs.frm f1,s1,q.1,q.2,e2,fun P2 φ2 H2 y f2 s2 r2 =>
  ⟨P2,φ2,q.2,p.1,q.1,s2,r1.frm f2,r2,.bl v,q.2,by simp only [d8,eR,e3,map_some],fun P3 φ3 H3 z f3 s3 r3=>⟨v,by simpa only [RA] using r3,?_⟩⟩⟩⟩
 have f03:=(f1.trans f2).trans f3;cases v with
 | false =>
  cases e;rw [yD dC];exact k P3 φ3 H3 f03 s3
 | true =>
  obtain ⟨r,e4,e⟩:=zA e;obtain ⟨w,e5,e⟩:=zE.mp e;cases e;rw [yE rfl];refine ⟨P3,φ3,sl,q.2,rs.frm f03,s3,r.1,r.2,e4,fun P4 φ4 H4 z f4 s4 r4=>⟨P4,φ4,r.2,q.1,r.1,s4,(r2.frm f3).frm f4,r4,.bl d,r.2,by simp only [d8,eR,e5,map_some],fun P5 φ5 H5 z f5 s5 r5=>?_⟩⟩;have:z=.bl d:=by simpa only [RA] using r5
  subst this;exact k P5 φ5 H5 ((f03.trans f4).trans f5) s5
theorem Ba [FQ] (hu:X.A.units + 64 < cLine) (ha:QE X a f) (hb:QE X b g) (hc:QE X c h) (hm:lastMarks [o,o'] [b,c]=false):QT X (.Compare a [o,o'] [b,c] pos) (tH o o' f g h) :=
 PT_imp (rP (fE hu o) (fE hu o') ha hb hc hm) fun σ H Q hq=>by
  obtain ⟨P,φ,sl,st,rs,s,d,st',e,k⟩:=hq;exact Am rs s e fun P' φ' H' f' s'=>⟨d,rfl,k P' φ' H' d f' s' rfl⟩
theorem Bo [FQ] (hu:X.A.units + 64 < cLine) (ha:QE X a f) (hb:QE X b g) (hc:QE X c h) (hm:lastMarks [o,o'] [b,c]=false):QE X (.Compare a [o,o'] [b,c] pos) (Di o o' f g h) :=
 PE_imp (si (fE hu o) (fE hu o') ha hb hc hm) fun σ H Q hq=>by
  obtain ⟨P,φ,sl,st,rs,s,d,st',e,k⟩:=hq;obtain ⟨p,e1,e2⟩:=zE.mp e;cases e2;exact Am rs s e1 fun P' φ' H' f' s'=>k P' φ' H' _ f' s' (by simp only [RA])
end
end R
namespace L2
open PySem PySem.Spec PyProof.Rows PySem.W
noncomputable def kr (ns:List Int) (i j:Nat):Option Bool:=(ns[i]?).bind fun x=>(ns[j]?).map fun y=>decide (x < y)
theorem oB {X:Cx}:bA X (.builtin "sorted") (fun vs H Q=>∃ a ns q,vs=[.ref a]/\bx X.K H a (ns.map .int)/\sortBy (kr ns) ns.length=some q/\∀ p,H p=none->Q (.ref p) (ak H p (.lst (q.map fun i=>(ns.map V.int).getD i .non)))):=by
 rintro FO s σ H vs us Q I rv ⟨a,ns,q,e,sq,hq,k⟩;subst e;obtain ⟨u,rfl,ru⟩:=cB rv;cases ru;obtain ⟨FR,r,⟨o,n,hg,hc,hsl,hd⟩,hz⟩:=I.list sq;have hlen:=r.length;rw [zH] at hlen;have hi:IntsAre FR ns:=dX r;have at':∀ (i:Nat) (m:Int),ns[i]?=some m->∃ t,FR[i]?=some (.int m t):=sP hi;refine ll (κ:=oneType') (lt:=kr ns) (q:=q) ⟨o,hg,hc,n,hd⟩ (fun h2 h' kp Q' hQ'=>?_) (fun h' kp i j b hb C hC=>?_) (by rw [<- hlen];exact hq) (fun D h' c hl2 hD kp g=>?_)
 ·rw [ksk_kind (kz:=ns) (by simpa using hi) (by simpa using h2)]
  exact yC hQ'
 ·unfold kr at hb
  rcases hi:ns[i]? with _ | x
  ·rw [hi] at hb;cases hb
  ·rw [hi] at hb
   rcases hj:ns[j]? with _ | y
   ·rw [hj] at hb;cases hb
   ·rw [hj] at hb
    cases hb;obtain ⟨t1,e1⟩:=at' i x hi;obtain ⟨t2,e2⟩:=at' j y hj;unfold kas_ask;rw [show FR.getD i Value.none=.int x t1 by simp [List.getD,e1],show FR.getD j Value.none=.int y t2 by simp [List.getD,e2]];exact kat_lt_int hC
 ·exact ⟨.ref D,_,I.laid (o:=.lst (q.map fun i=>(ns.map V.int).getD i .non)) kp hD ⟨by rw [zH,hl2,<- hlen];simpa using hz,_,c,kh r q,g⟩,rfl,k _ (I.FT.fresh hD)⟩
end L2
namespace R
open PySem PySem.Spec PyProof.Rows L2
open PySem.W (sortBy)
open DD (PE_imp)
def lr:AV->Option (List Int)
 | .tup xs=>if xs.isEmpty=true then none else dz xs
 | _=>none
def iu (xs:List AV):Option (Nat->Nat->Option Bool):=match dz xs with
 | some ns=>some (kr ns)
 | none=>(aT lr xs).map kq
def tR (f:EF):NF:=fun sl st=>(f sl st).bind fun p=>(cy p.2 p.1).bind fun xs=>(iu xs).bind fun lt=>(sortBy lt xs.length).map fun q=>(q.map fun i=>xs.getD i .non,p.2)
theorem FS.pick {mg:Gm}{P:Pr}{H:Hp}{φ:List Addr}{xs:List AV}{vs:List V} (r:FS mg P H φ xs vs) (q:List Nat):FS mg P H φ (q.map fun i=>xs.getD i .non) (q.map fun i=>vs.getD i .non):=by
 induction q with
 | nil=>exact be
 | cons i q ih =>
  refine aY ?_ ih;dsimp only;rw [zD,zD];cases e:xs[i]? with
  | none =>
   rw [List.getElem?_eq_none (by rw [<- r.length];exact List.getElem?_eq_none_iff.mp e)];simp only [Option.getD_none,RA]
  | some x =>
   obtain ⟨w,e1,r1⟩:=r.get e;rw [e1];exact r1
theorem wC {mg:Gm}{P:Pr}{H:Hp}{φ:List Addr}:∀ {xs:List AV}{vs:List V}{ks:List (List Int)},FS mg P H φ xs vs->aT lr xs=some ks->Paired (jN mg.K H) vs ks:=by
 intro xs
 induction xs with
 | nil=>intro vs ks r e;simp only [FS] at r;subst r;cases e;exact .nil
 | cons x xs ih =>
  intro vs ks r e;simp only [FS] at r;obtain ⟨v,ws,rfl,r1,r2⟩:=r;obtain ⟨k,e1,e2⟩:=zA e;obtain ⟨ks',e3,rfl⟩:=zE.mp e2;refine .cons ?_ (ih r2 e3);cases x <;> first | (cases e1;done) | skip
  rename_i ys;simp only [lr] at e1;split at e1
  ·cases e1
  ·rename_i hne
   simp only [RA] at r1;obtain ⟨a,us,rfl,_,h2,r3⟩:=r1
   have:=gK e1
   subst this;rw [r3.ints] at h2;exact ⟨fun z=>by subst z;exact hne rfl,a,rfl,.inl (.inl h2)⟩
theorem tw:bootBuiltins "sorted"=some (.builtin "sorted"):=by decide +kernel
theorem Bc [FQ] {X:Cx}{a:Expr}{f:EF}{p pos:Pos} (hg:Gl X "sorted") (hm:X.mg "sorted"=none) (ha:QE X a f) (hs:starEach [a] X.env=[(false,eval a X.env)]):QN X (.Call (.Name "sorted" p) [a] [] pos) (tR f):=by
 have cr:bA X (.builtin "sorted") (fun vs H Q=>(∃ a ns q,vs=[.ref a]/\bx X.K H a (ns.map .int)/\sortBy (kr ns) ns.length=some q/\∀ p,H p=none->Q (.ref p) (ak H p (.lst (q.map fun i=>(ns.map V.int).getD i .non)))) \/
   ∃ a xs ks q,vs=[.ref a]/\bx X.K H a xs/\Paired (jN X.K H) xs ks/\sortBy (kq ks) xs.length=some q/\∀ p,H p=none->Q (.ref p) (ak H p (.lst (q.map fun i=>xs.getD i .non)))):=by
  intro FO s σ H vs us Q I rv h;rcases h with h | h
  ·exact oB FO s σ H vs us Q I rv h
  ·exact oA FO s σ H vs us Q I rv h
 refine PE_imp (iS cr hg hm tw (cw ha er (by rw [hs];rfl)) (he:=by rw [hs];rfl) (hpl:=rfl)) fun σ H Q ⟨P,φ,sl,st,rs,s,xs,st',ef,k⟩=>?_
 obtain ⟨q,e1,e2⟩:=zA ef;refine wZ rs s ⟨q.1,q.2,e1,fun P1 φ1 H1 w f1 s1 r1=>?_⟩;obtain ⟨ys,e3,e4⟩:=zA e2;obtain ⟨lt,e5,e6⟩:=zA e4;obtain ⟨z,e7,e8⟩:=zE.mp e6;cases e8;obtain ⟨a1,vs,rfl,d1,q1⟩:=r1.ls s1 e3;unfold iu at e5;split at e5
 ·rename_i ns hn
  cases e5
  have:=gK hn
  subst this;have hv:=q1.ints;subst hv;rw [zH] at e7;exact .inl ⟨a1,ns,z,rfl,d1,e7,fun p hp=>k P1 φ1 H1 p _ f1 s1 hp (q1.pick z)⟩
 ·obtain ⟨ks,e9,rfl⟩:=zE.mp e5
  exact .inr ⟨a1,vs,ks,z,rfl,d1,wC q1 e9,by rw [<- q1.length];exact e7,fun p hp=>k P1 φ1 H1 p _ f1 s1 hp (q1.pick z)⟩
end R
namespace R
open PySem PySem.Spec PyProof.Rows L2
set_option genInjectivity false
set_option genSizeOf false
set_option genSizeOfSpec false
inductive Bi where
 | len | sum | all | any | abs | min | max | int
inductive Mi where
 | app | ext
mutual
inductive Ex where
 | n | b (x:Bool) | i (x:Int) | s (x:Str) | v (k:Nat) | g (x:Str) (c:AV) | bin (o:Operator) (a b:Ex) | cmp (o:CmpOp) (a b:Ex) | un (o:UnaryOp) (a:Ex) | no (a:Ex) | an (a b:Ex) | or (a b:Ex) | ife (t:Tx) (a b:Ex) | ix (a b:Ex) | tu (es:Exs) | nw (m:Bool) (x:Nx) | ca (p:Bool) (j:Nat) (es:Exs) | me (c m:Str) (j:Nat) (o:Ex) (es:Exs) | ne (c:Str) (j:Nat) (es:Exs) | fd (c f:Str) (o:Ex) | bi (b:Bi) (es:Exs) | is (T:String) (a:Ex) | mt (m:Mi) (o:Ex) (es:Exs) | dn | ch (o o':CmpOp) (a b c:Ex)
inductive Tx where
 | va (e:Ex) | cmp (o:CmpOp) (a b:Ex) | no (t:Tx) | an (t u:Tx) | or (t u:Tx) | ch (o o':CmpOp) (a b c:Ex)
inductive Exs where
 | nil | cons (e:Ex) (es:Exs)
inductive Nx where
 | li (es:Exs) | cat (a b:Ex) | rep (es:Exs) (b:Ex) | sl (a:Ex) (l h:Ox) | rev (a b:Ex) | lof (a:Ex) | lc (k:Nat) (it:Ix) (t:Tg) (c:Cx') (e:Ex) | srt (a:Ex)
inductive Ox where
 | no | so (e:Ex)
inductive Cx' where
 | no | so (t:Tx)
inductive Ix where
 | e (a:Ex) | r1 (a:Ex) | r2 (a b:Ex) | zi (a b:Ex) | r3 (a b c:Ex)
inductive Tg where
 | nm (k:Nat) | tu (n:Nat) (ts:Tgs) | su (a b:Ex)
inductive Tgs where
 | nil | cons (t:Tg) (ts:Tgs)
end
mutual
inductive Sx where
 | ex (e:Ex) | as (e:Ex) (t:Tg) | fl (c f:Str) (o e:Ex) | rt (e:Ex) | iff (t:Tx) (a b:FU) | fo (it:Ix) (t:Tg) (b:FU) | wh (t:Tx) (b:FU) | dead | fd (a:Ex) (t:Tg) (b:FU)
inductive FU where
 | nil | cons (s:Sx) (ss:FU) | dead
end
def gV:Bi->BF
 | .len=>bM fm
 | .sum=>bM lw
 | .all=>bM mn
 | .any=>bM mm
 | .abs=>bM gW
 | .min=>bM og
 | .max=>bM j2
 | .int=>bM ox
def p7:Mi->MF
 | .app=>oo
 | .ext=>om
noncomputable def p8:Mi->String
 | _=>"list"
def kf (ks:List Fn) (j:Nat):Fn:=ks.getD j fun _ _=>none
def pG (p:Bool) (fn:Fn):Fn:=if p=true then pm fn else fn
section
variable (ks:List Fn)
mutual
noncomputable def ev:Ex->EF
 | .n=>aC .non
 | .b x=>aC (.bl x)
 | .i x=>aC (.int x)
 | .s x=>aC (.str x)
 | .v k=>aV k
 | .g _ c=>aC c
 | .bin o a b=>a2 (ev a) (ev b) (d8 (bn o))
 | .cmp o a b=>a2 (ev a) (ev b) (d8 (eR o))
 | .un o a=>a1 (ev a) (wR (iq o))
 | .no a=>uo (ev a)
 | .an a b=>ut (ev a) (ev b)
 | .or a b=>Dd (ev a) (ev b)
 | .ife t a b=>Df (tv t) (ev a) (ev b)
 | .ix a b=>a2 (ev a) (ev b) (d8 cg)
 | .tu es=>Dc (cz es)
 | .nw m x=>um m (dR x)
 | .ca p j es=>qF (pG p (kf ks j)) (cz es)
 | .me c m j o es=>qE c m (kf ks j) (ev o) (cz es)
 | .ne c j es=>ur c (kf ks j) (cz es)
 | .fd c f o=>Dg c f (ev o)
 | .bi b es=>qG (gV b) (cz es)
 | .is T a=>De T (ev a)
 | .mt m o es=>kM (p8 m) (p7 m) (ev o) (cz es)
 | .dn=>Dh false
 | .ch o o' a b c=>Di o o' (ev a) (ev b) (ev c)
noncomputable def tv:Tx->TF
 | .va e=>tV (ev e)
 | .cmp o a b=>wL (ev a) (ev b) o
 | .no a=>CG (tv a)
 | .an a b=>CI (tv a) (tv b)
 | .or a b=>wH (tv a) (tv b)
 | .ch o o' a b c=>tH o o' (ev a) (ev b) (ev c)
noncomputable def cz:Exs->AF
 | .nil=>df
 | .cons e es=>dg (ev e) (cz es)
noncomputable def dR:Nx->NF
 | .li es=>CW (cz es)
 | .cat a b=>j0 (ev a) (ev b)
 | .rep es b=>sE (cz es) (ev b)
 | .sl a l h=>pZ (ev a) (gL l) (gL h)
 | .rev a b=>n9 (ev a) (ev b)
 | .lof a=>oa (ev a)
 | .lc k it t c e=>tS k (bR it) (cA t) (nq c) (ev e)
 | .srt a=>tR (ev a)
noncomputable def gL:Ox->OF
 | .no=>CV
 | .so e=>yh (ev e)
noncomputable def nq:Cx'->TF
 | .no=>CD
 | .so e=>tv e
noncomputable def bR:Ix->IF
 | .e a=>iE (ev a)
 | .r1 a=>zk (ev a)
 | .r2 a b=>zj (ev a) (ev b)
 | .zi a b=>iZ (ev a) (ev b)
 | .r3 a b c=>t7 (ev a) (ev b) (ev c)
noncomputable def cA:Tg->GF
 | .nm k=>qo k
 | .tu n ts=>qm n (fr ts)
 | .su a b=>C6 (ev a) (ev b)
noncomputable def fr:Tgs->mv
 | .nil=>zp
 | .cons t ts=>zq (cA t) (fr ts)
end
mutual
noncomputable def cq:Sx->SF
 | .ex e=>CP (ev ks e)
 | .as e t=>pf (ev ks e) (cA ks t)
 | .fl c f o e=>wT c f (ev ks o) (ev ks e)
 | .rt e=>CL (ev ks e)
 | .iff t a b=>CN (tv ks t) (av a) (av b)
 | .fo it t b=>CO (bR ks it) (cA ks t) (av b)
 | .wh t b=>pe (tv ks t) (av b)
 | .dead=>tI
 | .fd a t b=>rl (ev ks a) (cA ks t) (av b)
noncomputable def av:FU->SF
 | .nil=>CM
 | .cons s ss=>CK (cq s) (av ss)
 | .dead=>tI
end
end
inductive Ke where
 | f (x:Str) (n:Nat) | m (c m:Str) (n:Nat) | k (c:Str) (n:Nat)
structure SC where
 N:List Str
 nm:List (Str × NameKind)
 cf:List Str
 ke:List Ke
 gs:List (Str × AV)
 cl:List (Str × List Str)
 la:List Pos
noncomputable def kd (C:SC) (x:Str):Option NameKind:=C.nm.lookup x
def qT (C:SC) (x:Str):Bool:=match kd C x with
 | some .local=>true
 | some .cell=>true
 | some .free=>true
 | _=>false
def oq (C:SC) (x:Str):Bool:=match kd C x with
 | some .local=>true
 | some .cell=>C.cf.contains x
 | _=>false
def eJ (C:SC) (x:Str):Bool:=(match kd C x with
 | some .globalImplicit=>true
 | _=>false) && !(x == ("__debug__":Str))
noncomputable def pX (C:SC) (k:Nat) (x:Str):Bool:=(match C.N[k]? with
 | some y=>y == x
 | none=>false) && !(x == ("__debug__":Str)) && !(x == ("__classdict__":Str))
def zo (C:SC) (x:Str) (c:AV):Bool:=C.gs.any fun p=>p.1 == x && b9 p.2 c && (ja c).isSome
noncomputable def uh (C:SC) (c f:Str):Bool:=C.cl.any fun p=>p.1 == c && p.2.contains f
noncomputable def C5 (C:SC) (j:Nat) (x:Str) (n:Nat):Bool:=match C.ke[j]? with
 | some (.f y m)=>y == x && m == n
 | _=>false
noncomputable def C3 (C:SC) (j:Nat) (c m:Str) (n:Nat):Bool:=match C.ke[j]? with
 | some (.m c' m' k)=>c' == c && m' == m && k == n
 | _=>false
noncomputable def C4 (C:SC) (j:Nat) (c:Str) (n:Nat):Bool:=match C.ke[j]? with
 | some (.k c' k)=>c' == c && k == n
 | _=>false
noncomputable def bnames:List Str:=["len","sum","all","any","abs","min","max","int","tuple","range","zip","enumerate","list","isinstance","bool","str","sorted"]
noncomputable def Bi.nm:Bi->Str
 | .len=>"len"
 | .sum=>"sum"
 | .all=>"all"
 | .any=>"any"
 | .abs=>"abs"
 | .min=>"min"
 | .max=>"max"
 | .int=>"int"
noncomputable def Mi.nm:Mi->Str
 | .app=>"append"
 | .ext=>"extend"
noncomputable def CB (T:String) (y:Str):Bool:=(y == ("int":Str) && T == "int") || (y == ("bool":Str) && T == "bool") || (y == ("list":Str) && T == "list") || (y == ("tuple":Str) && T == "tuple") || (y == ("str":Str) && T == "str")
noncomputable def xU (sc:Scope):List Str:=(sc.names.filter fun p=>(match p.2 with | .local=>true | .cell=>true | _=>false) && !(p.1 == (".0":Str))).map (·.1)
noncomputable def ze (sc:Scope) (x:Str):Bool:=match sc.names.lookup x with
 | some .free=>true
 | _=>false
def eS (C:SC) (sc:Scope):List Str:=(C.N.map fun x=>if ze sc x=true then x else x++("!":Str))++xU sc
noncomputable def C7:NameKind->Bool
 | .free=>true
 | _=>false
noncomputable def ui:Option NameKind->Bool
 | some .cell=>true
 | _=>false
def blk (C:SC) (sc:Scope):SC:={ C with N:=eS C sc,nm:=sc.names.map fun p=>if (C7 p.2 && ui (kd C p.1))=true then (p.1,.cell) else (p.1,p.2),cf:=(sc.names.filter fun p=>ui (some p.2)).map (·.1),la:=[] }
def oH (C:SC) (sc:Scope):Bool :=
 (match sc.kind with | .function=>true | _=>false) && decide (sc.names.map (·.1)).Nodup && decide (eS C sc).Nodup &&
 (sc.names.all fun p=>match p.2 with | .free=>(match kd C p.1 with | some .cell=>true | some .free=>true | _=>false) | _=>true) &&
 ((List.range C.N.length).all fun i=>match (eS C sc)[i]? with
  | some x=>(match sc.names.lookup x with
   | some .free=>decide (C.N[i]?=some x)
   | some _=>false
   | none=>true)
  | none=>false)
mutual
noncomputable def jT (n:Nat):Tg->Bool
 | .nm k=>Nat.ble n k
 | .tu _ ts=>kW n ts
 | .su _ _=>false
noncomputable def kW (n:Nat):Tgs->Bool
 | .nil=>true
 | .cons t ts=>jT n t && kW n ts
end
def FG (C:SC) (sc:Scope) (ps:Arguments):Bool:=oH C sc && !sc.isCoroutine && !sc.isGenerator && gx ps && ps.defaults.isEmpty && ps.kw_defaults.isEmpty &&
 (match xU sc,ps.args.map (·.arg) with
  | [x],[y]=>x == y && (match sc.names.lookup x with | some .local=>true | _=>false)
  | _,_=>false) && sc.names.all fun p=>!(ui (some p.2))
theorem aQ {P:Prop} (h:false=true):P:=nomatch h
theorem bw {a b:Bool}{P:Prop} (h:(a && b)=true) (H:a=true->b=true->P):P:=by cases a;exact aQ h;exact H rfl h
section
variable {e:Expr}{s:Stmt}
noncomputable def mL (e:Expr) (k:Str->Bool):Bool:=match e with | .Name x _=>k x | _=>false
@[elab_as_elim] theorem gz {k:Str->Bool}{P:Expr->Prop} (h:mL e k=true) (H:∀ x p,k x=true->P (.Name x p)):P e:=by cases e with | Name x p=>exact H x p h | _=>exact aQ h
noncomputable def pS (e:Expr) (k:Const->Bool):Bool:=match e with | .Constant c _ _=>k c | _=>false
@[elab_as_elim] theorem jj {k:Const->Bool}{P:Expr->Prop} (h:pS e k=true) (H:∀ c a p,k c=true->P (.Constant c a p)):P e:=by cases e with | Constant c a p=>exact H c a p h | _=>exact aQ h
noncomputable def kN (c:Const):Bool:=match c with | .none=>true | _=>false
noncomputable def kB (x:Bool) (c:Const):Bool:=match c with | .bool y=>x == y | _=>false
noncomputable def kI (x:Int) (c:Const):Bool:=match c with | .int y=>x == y | _=>false
noncomputable def kS (x:Str) (c:Const):Bool:=match c with | .str y=>x == y | _=>false
theorem BU {c:Const} (h:kN c=true):c=.none:=by cases c with | none=>rfl | _=>exact aQ h
theorem BW {x:Bool}{c:Const} (h:kB x c=true):c=.bool x:=by cases c with | bool y=>rw [yG h] | _=>exact aQ h
theorem BV {x:Int}{c:Const} (h:kI x c=true):c=.int x:=by cases c with | int y=>rw [yG h] | _=>exact aQ h
theorem BT {x:Str}{c:Const} (h:kS x c=true):c=.str x:=by cases c with | str y=>rw [yG h] | _=>exact aQ h
noncomputable def tO (e:Expr) (k:Expr->Operator->Expr->Bool):Bool:=match e with | .BinOp a o b _=>k a o b | _=>false
@[elab_as_elim] theorem lI {k:Expr->Operator->Expr->Bool}{P:Expr->Prop} (h:tO e k=true) (H:∀ a o b p,k a o b=true->P (.BinOp a o b p)):P e:=by cases e with | BinOp a o b p=>exact H a o b p h | _=>exact aQ h
noncomputable def eu {α:Type} (l:List α) (k:α->Bool):Bool:=match l with | []=>false | a::r=>r.isEmpty && k a
@[elab_as_elim] theorem cG {α:Type}{l:List α}{k:α->Bool}{P:List α->Prop} (h:eu l k=true) (H:∀ a,k a=true->P ([a])):P l:=by
 rcases l with _ | ⟨a,_ | ⟨b,r⟩⟩
 ·exact aQ h
 ·exact H a h
 ·exact aQ h
def iT {α:Type} (l:List α) (k:α->α->Bool):Bool:=match l with | []=>false | a::r=>eu r (k a)
@[elab_as_elim] theorem d0 {α:Type}{l:List α}{k:α->α->Bool}{P:List α->Prop} (h:iT l k=true) (H:∀ a b,k a b=true->P ([a,b])):P l:=by
 cases l with
 | nil=>exact aQ h
 | cons a r=>exact cG h fun b h=>H a b h
def x9 (e:Expr) (k:Expr->CmpOp->Expr->Bool):Bool:=match e with | .Compare a os bs _=>eu os fun o=>eu bs fun b=>k a o b | _=>false
@[elab_as_elim] theorem pR {k:Expr->CmpOp->Expr->Bool}{P:Expr->Prop} (h:x9 e k=true) (H:∀ a o b p,k a o b=true->P (.Compare a [o] [b] p)):P e:=by
 cases e with
 | Compare a os bs p=>refine cG h fun o h=>?_;refine cG h fun b h=>?_;exact H a o b p h
 | _=>exact aQ h
def ya {α:Type} (l:List α) (k:α->α->α->Bool):Bool:=match l with | []=>false | a::r=>iT r (k a)
@[elab_as_elim] theorem vB {α:Type}{l:List α}{k:α->α->α->Bool}{P:List α->Prop} (h:ya l k=true) (H:∀ a b c,k a b c=true->P [a,b,c]):P l:=by
 cases l with
 | nil=>exact aQ h
 | cons a r=>exact d0 h fun b c h=>H a b c h
def sy (e:Expr) (k:Expr->CmpOp->CmpOp->Expr->Expr->Bool):Bool:=match e with | .Compare a os bs _=>iT os fun o o'=>iT bs fun b c=>k a o o' b c | _=>false
@[elab_as_elim] theorem mO {k:Expr->CmpOp->CmpOp->Expr->Expr->Bool}{P:Expr->Prop} (h:sy e k=true) (H:∀ a o o' b c p,k a o o' b c=true->P (.Compare a [o,o'] [b,c] p)):P e:=by
 cases e with
 | Compare a os bs p=>exact d0 h fun o o' h=>d0 h fun b c h=>H a o o' b c p h
 | _=>exact aQ h
noncomputable def tM (e:Expr) (k:UnaryOp->Expr->Bool):Bool:=match e with | .UnaryOp o a _=>k o a | _=>false
@[elab_as_elim] theorem lF {k:UnaryOp->Expr->Bool}{P:Expr->Prop} (h:tM e k=true) (H:∀ o a p,k o a=true->P (.UnaryOp o a p)):P e:=by cases e with | UnaryOp o a p=>exact H o a p h | _=>exact aQ h
noncomputable def mK (o:BoolOp) (e:Expr) (k:Expr->Expr->Bool):Bool:=match e with | .BoolOp o' es p=>decide (o=o') && (match es with | x::y::r=>k x (if r.isEmpty=true then y else .BoolOp o (y::r) p) | _=>false) | _=>false
noncomputable def tN (e:Expr) (k:List Expr->Bool):Bool:=match e with | .Tuple es _ _=>k es | _=>false
@[elab_as_elim] theorem lG {k:List Expr->Bool}{P:Expr->Prop} (h:tN e k=true) (H:∀ es a p,k es=true->P (.Tuple es a p)):P e:=by cases e with | Tuple es a p=>exact H es a p h | _=>exact aQ h
noncomputable def sv (e:Expr) (k:List Expr->Bool):Bool:=match e with | .List es _=>k es | _=>false
@[elab_as_elim] theorem mM {k:List Expr->Bool}{P:Expr->Prop} (h:sv e k=true) (H:∀ es p,k es=true->P (.List es p)):P e:=by cases e with | List es p=>exact H es p h | _=>exact aQ h
noncomputable def pP (e:Expr) (k:Expr->Expr->Bool):Bool:=match e with | .Subscript a b _=>k a b | _=>false
@[elab_as_elim] theorem jh {k:Expr->Expr->Bool}{P:Expr->Prop} (h:pP e k=true) (H:∀ a b p,k a b=true->P (.Subscript a b p)):P e:=by cases e with | Subscript a b p=>exact H a b p h | _=>exact aQ h
noncomputable def xZ (e:Expr) (k:Option Expr->Option Expr->Option Expr->Bool):Bool:=match e with | .Slice a b c _=>k a b c | _=>false
@[elab_as_elim] theorem pQ {k:Option Expr->Option Expr->Option Expr->Bool}{P:Expr->Prop} (h:xZ e k=true) (H:∀ a b c p,k a b c=true->P (.Slice a b c p)):P e:=by cases e with | Slice a b c p=>exact H a b c p h | _=>exact aQ h
noncomputable def yf (e:Expr) (k:Expr->List Expr->List Keyword->Pos->Bool):Bool:=match e with | .Call f es ks p=>k f es ks p | _=>false
@[elab_as_elim] theorem pT {k:Expr->List Expr->List Keyword->Pos->Bool}{P:Expr->Prop} (h:yf e k=true) (H:∀ f es ks p,k f es ks p=true->P (.Call f es ks p)):P e:=by cases e with | Call f es ks p=>exact H f es ks p h | _=>exact aQ h
noncomputable def tP (e:Expr) (k:Expr->Str->Pos->Bool):Bool:=match e with | .Attribute o f p=>k o f p | _=>false
@[elab_as_elim] theorem lJ {k:Expr->Str->Pos->Bool}{P:Expr->Prop} (h:tP e k=true) (H:∀ o f p,k o f p=true->P (.Attribute o f p)):P e:=by cases e with | Attribute o f p=>exact H o f p h | _=>exact aQ h
def gA (e:Expr) (k:Str->List Expr->Bool):Bool:=yf e fun f es ks _=>mL f fun x=>ks.isEmpty && k x es
@[elab_as_elim] theorem cS {k:Str->List Expr->Bool}{P:Expr->Prop} (h:gA e k=true) (H:∀ x p es q,k x es=true->P (.Call (.Name x p) es [] q)):P e:=by
 refine pT h fun f es ks q h=>?_
 refine gz h fun x p h=>?_
 cases ks with
 | nil=>exact H x p es q h
 | cons _ _=>exact aQ h
def sA (e:Expr) (k:Expr->Str->Pos->List Expr->Pos->Bool):Bool:=yf e fun f es ks p=>tP f fun o m ap=>ks.isEmpty && k o m ap es p
@[elab_as_elim] theorem mP {k:Expr->Str->Pos->List Expr->Pos->Bool}{P:Expr->Prop} (h:sA e k=true) (H:∀ o m ap es p,k o m ap es p=true->P (.Call (.Attribute o m ap) es [] p)):P e:=by
 refine pT h fun f es ks q h=>?_
 refine lJ h fun o m p h=>?_
 cases ks with
 | nil=>exact H o m p es q h
 | cons _ _=>exact aQ h
def xY (e:Expr) (k:Expr->Option Expr->Option Expr->Bool):Bool:=pP e fun a b=>xZ b fun l h c=>c.isNone && k a l h
@[elab_as_elim] theorem vz {k:Expr->Option Expr->Option Expr->Bool}{P:Expr->Prop} (h:xY e k=true) (H:∀ a l r p q,k a l r=true->P (.Subscript a (.Slice l r none p) q)):P e:=by
 refine jh h fun a b q h=>?_
 refine pQ h fun l r c p h=>?_
 cases c with
 | none=>exact H a l r p q h
 | some _=>exact aQ h
noncomputable def yb (e:Expr) (k:Expr->Expr->Expr->Bool):Bool:=match e with | .IfExp a b c _=>k a b c | _=>false
@[elab_as_elim] theorem vC {k:Expr->Expr->Expr->Bool}{P:Expr->Prop} (h:yb e k=true) (H:∀ a b c p,k a b c=true->P (.IfExp a b c p)):P e:=by cases e with | IfExp a b c p=>exact H a b c p h | _=>exact aQ h
noncomputable def zf (e:Expr):Bool:=match e with | .Dict a b _=>a.isEmpty && b.isEmpty | _=>false
theorem vX (h:zf e=true):∃ p,e=.Dict [] [] p:=by
 cases e with
 | Dict a b p =>
  cases a with
  | nil=>cases b with
   | nil=>exact ⟨p,rfl⟩
   | cons _ _=>exact aQ h
  | cons _ _=>exact aQ h
 | _=>exact aQ h
def CU (e:Expr) (k:Expr->Expr->Expr->List Expr->Scope->Bool):Bool:=match e with | .ListComp a gs sc _=>eu gs (fun g=>decide (g.is_async=0) && k a g.target g.iter g.ifs sc) | _=>false
@[elab_as_elim] theorem yd {k:Expr->Expr->Expr->List Expr->Scope->Bool}{P:Expr->Prop} (h:CU e k=true) (H:∀ a t it cs sc p,k a t it cs sc=true->P (.ListComp a [⟨t,it,cs,0⟩] sc p)):P e:=by
 cases e with
 | ListComp a gs sc p =>
  refine cG h fun g h=>?_
  obtain ⟨t,it,cs,i⟩:=g;refine bw h fun h1 h=>?_
  cases of_decide_eq_true h1;exact H a t it cs sc p h
 | _=>exact aQ h
theorem dG {a b c:Bool}{P:Prop} (h:(a && b && c)=true) (H:a=true->b=true->c=true->P):P:=bw h fun x y=>bw x fun h0 h1=>H h0 h1 y
theorem dF {a b c d:Bool}{P:Prop} (h:(a && b && c && d)=true) (H:a=true->b=true->c=true->d=true->P):P:=bw h fun x y=>dG x fun h0 h1 h2=>H h0 h1 h2 y
theorem iK {a b c d e:Bool}{P:Prop} (h:(a && b && c && d && e)=true) (H:a=true->b=true->c=true->d=true->e=true->P):P:=bw h fun x y=>dF x fun h0 h1 h2 h3=>H h0 h1 h2 h3 y
end
mutual
noncomputable def bg:Ex->SC->Expr->Bool
 | .n,_,e=>pS e kN
 | .b x,_,e=>pS e (kB x)
 | .i x,_,e=>pS e (kI x)
 | .s x,_,e=>pS e (kS x)
 | .v k,C,e=>mL e fun x=>pX C k x && qT C x
 | .g x c,C,e=>mL e fun y=>x == y && eJ C x && zo C x c
 | .bin o a b,C,e=>tO e fun a' o' b'=>decide (o=o') && bg a C a' && bg b C b'
 | .cmp o a b,C,e=>x9 e fun a' o' b'=>decide (o=o') && bg a C a' && bg b C b' && hE o b'
 | .un o a,C,e=>tM e fun o' a'=>decide (o=o') && bg a C a'
 | .no a,C,e=>tM e fun o' a'=>decide (UnaryOp.Not=o') && bg a C a'
 | .an a b,C,e=>mK .And e fun x y=>bg a C x && bg b C y
 | .or a b,C,e=>mK .Or e fun x y=>bg a C x && bg b C y
 | .ife t a b,C,e=>yb e fun t' a' b'=>gC t C t' && bg a C a' && bg b C b'
 | .ix a b,C,e=>pP e fun a' b'=>bg a C a' && bg b C b' && jl b'
 | .tu es,C,e=>tN e fun es'=>gh es C es'
 | .nw _ x,C,e=>tW x C e
 | .ca _ j es,C,e=>gA e fun x es'=>C5 C j x es'.length && eJ C x && gh es C es' && es'.all bu
 | .me c m j o es,C,e=>sA e fun o' m' ap es' p=>m == m' && C3 C j c m (es'.length + 1) && bg o C o' && gh es C es' && (es'.all bu && Nat.blt es'.length 30 && iV o' && (ap.endLine == p.line))
 | .ne c j es,C,e=>gA e fun x es'=>c == x && C4 C j c (es'.length + 1) && eJ C c && gh es C es' && (es'.all bu && !es'.isEmpty)
 | .fd c f o,C,e=>tP e fun o' f' _=>f == f' && uh C c f && bg o C o' && iV o'
 | .bi b es,C,e=>gA e fun x es'=>x == b.nm && eJ C x && gh es C es' && es'.all bu && !es'.isEmpty
 | .is T a,C,e=>gA e fun x es'=>iT es' fun e1 e2=>mL e2 fun y=>x == ("isinstance":Str) && eJ C x && (eJ C y && CB T y) && bg a C e1 && bu e1
 | .mt m o es,C,e=>sA e fun o' m' ap es' p=>m.nm == m' && bg o C o' && gh es C es' && (es'.all bu && Nat.blt es'.length 30 && iV o' && (ap.endLine == p.line))
 | .dn,_,e=>zf e
 | .ch o o' a b c,C,e=>sy e fun a' o1 o2 b' c'=>decide (o=o1) && decide (o'=o2) && bg a C a' && bg b C b' && (bg c C c' && !lastMarks [o,o'] [b',c'])
noncomputable def gC:Tx->SC->Expr->Bool
 | .va a,C,e=>pH e && bg a C e
 | .cmp o a b,C,e=>x9 e fun a' o' b'=>decide (o=o') && bg a C a' && bg b C b' && hE o b'
 | .no a,C,e=>tM e fun o' a'=>decide (UnaryOp.Not=o') && gC a C a'
 | .an a b,C,e=>mK .And e fun x y=>gC a C x && gC b C y
 | .or a b,C,e=>mK .Or e fun x y=>gC a C x && gC b C y
 | .ch o o' a b c,C,e=>sy e fun a' o1 o2 b' c'=>decide (o=o1) && decide (o'=o2) && bg a C a' && bg b C b' && (bg c C c' && !lastMarks [o,o'] [b',c'])
noncomputable def gh:Exs->SC->List Expr->Bool
 | .nil,_,es=>es.isEmpty
 | .cons a as,C,es=>match es with
  | e::es=>bu e && bg a C e && gh as C es
  | _=>false
noncomputable def tW:Nx->SC->Expr->Bool
 | .li es,C,e=>sv e fun es'=>gh es C es'
 | .cat a b,C,e=>tO e fun a' o' b'=>decide (Operator.Add=o') && bg a C a' && bg b C b'
 | .rep es b,C,e=>tO e fun a' o' b'=>decide (Operator.Mult=o') && sv a' fun es'=>gh es C es' && bg b C b'
 | .sl a l h,C,e=>xY e fun a' l' h'=>bg a C a' && tU l C l' && tU h C h'
 | .rev a b,C,e=>pP e fun a' s=>xZ s fun l h c=>l.isNone && h.isNone && (match c with | some b'=>bg a C a' && bg b C b' | none=>false)
 | .lof a,C,e=>gA e fun x es=>eu es fun a'=>x == ("list":Str) && eJ C x && bg a C a' && bu a'
 | .lc k it t c a,C,e=>CU e fun a' t' it' cs sc=>yx it C t' it' && n8 it' && oH C sc && (k == (eS C sc).length - C.N.length) && (jT C.N.length t && mU t (blk C sc) t' && CZ c (blk C sc) cs && bg a (blk C sc) a')
 | .srt a,C,e=>gA e fun x es=>eu es fun a'=>x == ("sorted":Str) && eJ C x && bg a C a' && bu a'
noncomputable def tU:Ox->SC->Option Expr->Bool
 | .no,_,e=>e.isNone
 | .so a,C,e=>match e with
  | some e=>bg a C e
  | none=>false
noncomputable def CZ:Cx'->SC->List Expr->Bool
 | .no,_,e=>e.isEmpty
 | .so t,C,e=>eu e fun e=>gC t C e
noncomputable def yx:Ix->SC->Expr->Expr->Bool
 | .e a,C,_,e=>bg a C e
 | .r1 a,C,_,e=>gA e fun x es=>eu es fun a'=>x == ("range":Str) && eJ C x && bg a C a' && bu a'
 | .r2 a b,C,_,e=>gA e fun x es=>iT es fun a' b'=>x == ("range":Str) && eJ C x && bg a C a' && bg b C b' && (bu a' && bu b')
 | .zi a b,C,t,e=>tN t fun _=>gA e fun x es=>iT es fun a' b'=>x == ("zip":Str) && eJ C x && bg a C a' && bg b C b' && (bu a' && bu b')
 | .r3 a b c,C,_,e=>gA e fun x es=>ya es fun a' b' c'=>x == ("range":Str) && eJ C x && (bg a C a' && bg b C b' && bg c C c') && (bu a' && bu b' && bu c')
noncomputable def mU:Tg->SC->Expr->Bool
 | .nm k,C,e=>mL e fun x=>pX C k x && oq C x
 | .tu n ts,C,e=>tN e fun es=>(es.length == n) && es.all bu && sF ts C es
 | .su a b,C,e=>pP e fun a' b'=>bg a C a' && bg b C b' && jl b'
noncomputable def sF:Tgs->SC->List Expr->Bool
 | .nil,_,es=>es.isEmpty
 | .cons t ts,C,es=>match es with
  | e::es=>bu e && mU t C e && sF ts C es
  | _=>false
end
theorem lH {o:BoolOp}{e:Expr}{k:Expr->Expr->Bool}{Q:Prop} (h:mK o e k=true) (H1:∀ x y p,e=.BoolOp o [x,y] p->k x y=true->Q) (H2:∀ x y z r p,e=.BoolOp o (x::y::z::r) p->k x (.BoolOp o (y::z::r) p)=true->Q):Q:=by
 cases e with
 | BoolOp o' es p =>
  refine bw h fun h1 h2=>?_
  clear h;cases of_decide_eq_true h1;rcases es with _ | ⟨x,_ | ⟨y,_ | ⟨z,r⟩⟩⟩
  ·exact aQ h2
  ·exact aQ h2
  ·exact H1 x y p rfl h2
  ·exact H2 x y z r p rfl h2
 | _=>exact aQ h
@[elab_as_elim] theorem ji {o:BoolOp}{e:Expr}{k:Expr->Expr->Bool}{P:Expr->Prop} (h:mK o e k=true) (H1:∀ x y p,k x y=true->P (.BoolOp o [x,y] p)) (H2:∀ x y z r p,k x (.BoolOp o (y::z::r) p)=true->P (.BoolOp o (x::y::z::r) p)):P e :=
 lH h (fun x y p e h=>e ▸ H1 x y p h) fun x y z r p e h=>e ▸ H2 x y z r p h
section
variable {s:Stmt}
def sB (s:Stmt) (k:Expr->Expr->Bool):Bool:=match s with | .Assign ts e _=>eu ts fun t=>k t e | _=>false
@[elab_as_elim] theorem mQ {k:Expr->Expr->Bool}{P:Stmt->Prop} (h:sB s k=true) (H:∀ t e p,k t e=true->P (.Assign [t] e p)):P s:=by
 cases s with
 | Assign ts e p=>exact cG h fun t h=>H t e p h
 | _=>exact aQ h
noncomputable def sx (s:Stmt) (k:Expr->Expr->List Stmt->Bool):Bool:=match s with | .For t it b r _=>r.isEmpty && k t it b | _=>false
@[elab_as_elim] theorem mN {k:Expr->Expr->List Stmt->Bool}{P:Stmt->Prop} (h:sx s k=true) (H:∀ t it b p,k t it b=true->P (.For t it b [] p)):P s:=by
 cases s with
 | For t it b r p=>cases r with
  | nil=>exact H t it b p h
  | cons _ _=>exact aQ h
 | _=>exact aQ h
noncomputable def xX (s:Stmt) (k:Expr->List Stmt->Bool):Bool:=match s with | .While t b r _=>r.isEmpty && k t b | _=>false
@[elab_as_elim] theorem vy {k:Expr->List Stmt->Bool}{P:Stmt->Prop} (h:xX s k=true) (H:∀ t b p,k t b=true->P (.While t b [] p)):P s:=by
 cases s with
 | While t b r p=>cases r with
  | nil=>exact H t b p h
  | cons _ _=>exact aQ h
 | _=>exact aQ h
noncomputable def CT (s:Stmt) (k:Expr->List Stmt->List Stmt->Bool):Bool:=match s with | .If t a b _=>k t a b | _=>false
@[elab_as_elim] theorem yc {k:Expr->List Stmt->List Stmt->Bool}{P:Stmt->Prop} (h:CT s k=true) (H:∀ t a b p,k t a b=true->P (.If t a b p)):P s:=by cases s with | If t a b p=>exact H t a b p h | _=>exact aQ h
noncomputable def ye (s:Stmt) (k:Expr->Bool):Bool:=match s with | .Expr e _=>k e | _=>false
@[elab_as_elim] theorem vD {k:Expr->Bool}{P:Stmt->Prop} (h:ye s k=true) (H:∀ e p,k e=true->P (.Expr e p)):P s:=by cases s with | Expr e p=>exact H e p h | _=>exact aQ h
noncomputable def x8 (s:Stmt) (k:Option Expr->Bool):Bool:=match s with | .Return e _=>k e | _=>false
@[elab_as_elim] theorem vA {k:Option Expr->Bool}{P:Stmt->Prop} (h:x8 s k=true) (H:∀ e p,k e=true->P (.Return e p)):P s:=by cases s with | Return e p=>exact H e p h | _=>exact aQ h
end
noncomputable def sO (e:Expr):Bool:=match e with | .ListComp _ _ _ _=>true | _=>false
@[elab_as_elim] theorem vW {e:Expr}{P:Expr->Prop} (h:sO e=true) (H:∀ a g s p,P (.ListComp a g s p)):P e:=by cases e with | ListComp a g s p=>exact H a g s p | _=>exact aQ h
def Db (t e:Expr):Bool:=match t with | .Name _ _=>g8 e || sO e | .Subscript _ _ _=>true | .Tuple _ _ _=>sD e && g8 e | _=>false
@[elab_as_elim] theorem AA {t e:Expr}{P:Expr->Prop} (h:Db t e=true) (H1:(g8 e || sO e)=true->∀ x p,P (.Name x p)) (H2:∀ a b p,P (.Subscript a b p)) (H3:(sD e && g8 e)=true->∀ es k p,P (.Tuple es k p)):P t:=by
 cases t with
 | Name x p=>exact H1 h x p
 | Subscript a b p=>exact H2 a b p
 | Tuple es k p=>exact H3 h es k p
 | _=>exact aQ h
@[elab_as_elim] theorem ET {a:Ex}{C:SC}{elt:Expr}{g:List Comprehension}{sc:Scope}{p:Pos}{P:Ex->Prop} (h:bg a C (.ListComp elt g sc p)=true) (H:∀ m k it t c b,tW (.lc k it t c b) C (.ListComp elt g sc p)=true->P (.nw m (.lc k it t c b))):P a:=by
 cases a with
 | nw m n=>cases n with
  | lc k it t c b=>exact H m k it t c b h
  | _=>exact aQ h
 | _=>exact aQ h
mutual
noncomputable def CY:Sx->SC->Stmt->Bool
 | .ex a,C,s=>ye s fun e=>bg a C e && g8 e
 | .as a t,C,s=>sB s fun t' e=>bg a C e && mU t C t' && Db t' e
 | .fl c f o a,C,s=>sB s fun t e=>tP t fun o' f' _=>f == f' && uh C c f && bg o C o' && bg a C e
 | .rt a,C,s=>x8 s fun e=>tU (.so a) C e
 | .iff t a b,C,s=>CT s fun e x y=>gC t C e && gD a C x && gD b C y
 | .fo it t b,C,s=>sx s fun t' it' x=>yx it C t' it' && n8 it' && mU t C t' && gD b C x
 | .wh t b,C,s=>xX s fun e x=>gC t C e && gD b C x
 | .dead,_,_=>true
 | .fd a t b,C,s=>sx s fun t' it' x=>bg a C it' && n8 it' && mU t C t' && gD b C x
noncomputable def gD:FU->SC->List Stmt->Bool
 | .nil,_,s=>s.isEmpty
 | .cons a as,C,s=>match s with
  | s::ss=>CY a C s && gD as C ss
  | _=>false
 | .dead,_,_=>true
end
def AI [FQ] (P:Program) (w:World) (K:Frag) (mg:Str->Option Value) (base:Heap) (A:Around) (fn:Fn):Ke->Prop
 | .f x n=>∃ d f fd ps,ps.length=n/\FnOk P w K mg base cP d f fd ps (cu ⟨K,mg⟩ ps.length fn)/\Room d A/\mg x=some (.ref f)/\keepIn K (.ref f)=true/\Binds K fd ps []
 | .m c m n=>∃ d f fd ps C,ps.length=n/\FnOk P w K mg base cP d f fd ps (cu ⟨K,mg⟩ ps.length fn)/\Room d A/\mg c=some (.ref C)/\Cls K C/\gf K C m f/\Binds K fd ps []
 | .k c n=>∃ d f fd ps C,ps.length=n/\FnOk P w K mg base cP d f fd ps (cu ⟨K,mg⟩ ps.length fn)/\Room (d + 1) A/\mg c=some (.ref C)/\Mk K C f/\Binds K fd ps []
structure Fit [FQ] (X:Cx) (C:SC) (ks:List Fn):Prop where
 N:X.N=C.N
 nm:X.env.scope.names=C.nm
 nd:C.N.Nodup
 kind:X.env.scope.kind=.function
 calm:X.calm=true
 cf:∀ x ∈ C.cf,X.fn x=true
 hu:X.A.units + 64 < cLine
 bl:∀ x ∈ bnames,X.mg x=none
 po:PassesOwn (model X.prog X.w) X.A X.env X.xe
 ke:∀ (j:Nat) k,C.ke[j]?=some k->AI X.prog X.w X.K X.mg X.base X.A (kf ks j) k
 gs:∀ p ∈ C.gs,∀ w,ja p.2=some w->∃ u,X.mg p.1=some u/\RelV w u
 cl:∀ p ∈ C.cl,∃ Ca,X.mg p.1=some (.ref Ca)/\Cls X.K Ca/\∀ f ∈ p.2,NoAttr X.K Ca f
 la:∀ p ∈ C.la,Room 2 X.A/\∃ c P,X.env.code=.ref c/\CodeHd X.base c P/\g5 X.mg X.base/\(P,p,X.env.qual++"<lambda>") ∈ FQ.tb/\∀ t ∈ FQ.tb,t.1=P->t=(P,p,X.env.qual++"<lambda>")
section
variable {X:Cx}{C:SC}{ks:List Fn}
theorem Fit.kdO [FQ] (F:Fit X C ks) (x:Str):X.env.kindOf x=kd C x:=by unfold kd;rw [<- F.nm];rfl
theorem Fit.vis [FQ] (F:Fit X C ks) (h:qT C x=true):qH X.env.scope x:=by
 unfold qT kd at h;rw [<- F.nm] at h;unfold qH;split at h
 ·rename_i e;exact .inl e
 ·rename_i e;exact .inr (.inl e)
 ·rename_i e;exact .inr (.inr e)
 ·cases h
theorem Fit.loc [FQ] (F:Fit X C ks) (h:oq C x=true):L2.Loc X.env.scope x/\(X.fn x=true\/X.env.scope.names.lookup x=some .local):=by
 unfold oq kd at h;rw [<- F.nm] at h;unfold L2.Loc;split at h
 ·rename_i e;exact ⟨.inl e,.inr e⟩
 ·rename_i e;exact ⟨.inr e,.inl (F.cf x (by simpa using h))⟩
 ·cases h
theorem Fit.gl [FQ] (F:Fit X C ks) (h:eJ C x=true):Gl X x/\(x == ("__debug__":Str))=false:=by
 unfold eJ at h;obtain ⟨h1,h2⟩:=Bool.and_eq_true_iff.mp h;refine ⟨?_,by simpa using h2⟩;unfold Gl;rw [F.kdO];split at h1
 ·rename_i e;exact e
 ·cases h1
theorem Fit.nmb [FQ] (F:Fit X C ks) {k:Nat} (h:pX C k x=true):X.N[k]?=some x/\(x == ("__debug__":Str))=false/\(x == ("__classdict__":Str))=false:=by
 unfold pX at h;obtain ⟨h12,h3⟩:=Bool.and_eq_true_iff.mp h;obtain ⟨h1,h2⟩:=Bool.and_eq_true_iff.mp h12;refine ⟨?_,by simpa using h2,by simpa using h3⟩;rw [F.N];split at h1
 ·rename_i y e;rw [e,yG h1]
 ·cases h1
theorem Fit.gc [FQ] (F:Fit X C ks) (h:zo C x c=true):∃ w u,ja c=some w/\X.mg x=some u/\RelV w u:=by
 unfold zo at h;obtain ⟨p,hp,e⟩:=List.any_eq_true.mp h;simp only [zC] at e;obtain ⟨⟨e1,e2⟩,e3⟩:=e;obtain ⟨w,hw⟩:=Option.isSome_iff_exists.mp e3;have e4:=nv e2;obtain ⟨u,h1,h2⟩:=F.gs p hp w (by rw [e4];exact hw);exact ⟨w,u,hw,by rw [<- yG e1];exact h1,h2⟩
theorem Fit.clb [FQ] (F:Fit X C ks) (h:uh C c f=true):∃ Ca,X.mg c=some (.ref Ca)/\Cls X.K Ca/\NoAttr X.K Ca f:=by
 unfold uh at h;obtain ⟨p,hp,e⟩:=List.any_eq_true.mp h;simp only [zC] at e;obtain ⟨Ca,h1,h2,h3⟩:=F.cl p hp;exact ⟨Ca,by rw [<- yG e.1];exact h1,h2,h3 f (by simpa using e.2)⟩
theorem Fit.blt [FQ] (F:Fit X C ks) (h:x ∈ bnames):X.mg x=none:=F.bl x h
theorem zy (b:NameKind):C7 b=(b == NameKind.free):=by cases b <;> rfl
theorem An (o:Option NameKind):ui o=(o == some NameKind.cell):=by
 cases o with
 | none=>rfl
 | some k=>cases k <;> rfl
theorem Fit.blk [FQ] (F:Fit X C ks) (h:oH C sc=true):gY X (eS C sc) sc/\∀ cl s H fp FO,Fit (bU X (eS C sc) sc cl s H fp FO) (R.blk C sc) ks:=by
 unfold oH at h;simp only [zC,z6] at h;obtain ⟨⟨⟨⟨h1,h2⟩,h3⟩,h4⟩,h5⟩:=h;have hk:sc.kind=.function:=by
  split at h1
  ·rename_i e;exact e
  ·cases h1
 have hlen:C.N.length <= (eS C sc).length:=by unfold eS;rw [zU,zH];omega
 have free:∀ x,(x,NameKind.free) ∈ sc.names->X.env.kindOf x=some .cell\/X.env.kindOf x=some .free:=fun x hx=>by
  have:=yK.mp h4 _ hx
  simp only at this;rw [F.kdO];split at this
  ·rename_i e;exact .inl e
  ·rename_i e;exact .inr e
  ·cases this
 have at5:∀ i x,i < X.N.length->(eS C sc)[i]?=some x->(∀ k,(x,k) ∈ sc.names->k=.free/\X.N[i]?=some x):=fun i x hi e k hm=>by
  rw [F.N] at hi ⊢
  have:=yK.mp h5 i (List.mem_range.mpr hi)
  rw [e] at this;simp only at this;have hl:=ck h2 hm;rw [hl] at this;cases k <;> simp only at this <;> first | (cases this;done) | exact ⟨rfl,of_decide_eq_true this⟩
 refine ⟨⟨hk,h2,by rw [F.N];exact hlen,free,fun i x hi e hm=>(at5 i x hi e _ hm).2,fun i x hi e hq0=>by obtain ⟨k,hm⟩:=hq0;have:=(at5 i x hi e k hm).1;subst this;exact hm⟩,fun cl s H fp FO=>?_⟩;refine ⟨rfl,?_,h3,hk,F.calm,fun x hx=>?_,F.hu,F.bl,PassesOwn.never,F.ke,F.gs,F.cl,fun p hp=>absurd (show p ∈ ([]:List Pos) from hp) (by simp)⟩
 ·show (relabel sc X.env).names=_
  unfold relabel R.blk;dsimp only;rw [F.kind];apply List.map_congr_left;intro p _;obtain ⟨a,b⟩:=p;simp only [F.kdO,zy,An];simp
 ·unfold R.blk at hx
  obtain ⟨p,hp,e⟩:=z7.mp hx;obtain ⟨hp1,hp2⟩:=List.mem_filter.mp hp;obtain ⟨a,b⟩:=p;dsimp only at e hp2;subst e;have:b=.cell:=by cases b <;> first | rfl | cases hp2
  subst this;show (sc.names.lookup a == some NameKind.cell)=true;rw [ck h2 hp1];rfl
end
mutual
theorem jS {n:Nat}:∀ {t:Tg},jT n t=true->lj n (cA ks t)
 | .nm k,h=>by
  simp only [jT] at h;have hk:=zR h;simp only [cA];intro x sl st sl' st' e;cases e;exact ⟨List.length_set,fun j hj=>List.getElem?_set_ne oM⟩
 | .tu m ts,h=>by
  simp only [jT] at h;simp only [cA];intro x sl st sl' st' e;unfold qm at e;split at e
  ·split at e
   ·exact iQ h _ _ _ _ _ e
   ·cases e
  ·split at e
   ·split at e
    ·exact iQ h _ _ _ _ _ e
    ·cases e
   ·cases e
 | .su _ _,h=>by simp only [jT] at h;cases h
theorem iQ {n:Nat}:∀ {ts:Tgs},kW n ts=true->∀ xs sl st sl' st',fr ks ts xs sl st=some (sl',st')->sl'.length=sl.length/\∀ j,j < n->sl'[j]?=sl[j]?
 | .nil,_,xs,sl,st,sl',st',e=>by
  simp only [fr] at e;cases xs with
  | nil=>cases e;exact ⟨rfl,fun _ _=>rfl⟩
  | cons _ _=>cases e
 | .cons t ts,h,xs,sl,st,sl',st',e=>by
  simp only [kW,zC] at h;simp only [fr] at e;cases xs with
  | nil=>cases e
  | cons x xs =>
   obtain ⟨p,e1,e2⟩:=zA e;obtain ⟨a1,a2⟩:=jS h.1 _ _ _ _ _ e1;obtain ⟨b1,b2⟩:=iQ h.2 _ _ _ _ _ e2;exact ⟨b1.trans a1,fun j hj=>(b2 j hj).trans (a2 j hj)⟩
end
theorem ic:∀ (as:Exs) {es:List Expr},gh as C es=true->∀ sl st xs st',cz ks as sl st=some (xs,st')->xs.length=es.length
 | .nil,es,h,sl,st,xs,st',e=>by
  cases e;cases es with
  | nil=>rfl
  | cons _ _=>exact aQ h
 | .cons a as,es,h,sl,st,xs,st',e=>by
  cases es with
  | nil=>exact aQ h
  | cons x es =>
   obtain ⟨p,e1,e2⟩:=zA e;obtain ⟨q,e3,e4⟩:=zA e2;cases e4;rw [yP,yP,ic as (bw h fun _ x=>x) _ _ _ _ e3]
theorem Cu:bootBuiltins "len"=some (.builtin "len"):=by decide +kernel
theorem Cq:bootBuiltins "sum"=some (.builtin "sum"):=by decide +kernel
theorem Cw:bootBuiltins "all"=some (.builtin "all"):=by decide +kernel
theorem Cv:bootBuiltins "any"=some (.builtin "any"):=by decide +kernel
theorem Cy:bootBuiltins "abs"=some (.builtin "abs"):=by decide +kernel
theorem Cs:bootBuiltins "min"=some (.builtin "min"):=by decide +kernel
theorem Ct:bootBuiltins "max"=some (.builtin "max"):=by decide +kernel
theorem uk:bootBuiltins "int"=some (.type "int"):=by decide +kernel
theorem Cp:bootBuiltins "tuple"=some (.type "tuple"):=by decide +kernel
theorem jK:bootBuiltins "isinstance"=some (.builtin "isinstance"):=by decide +kernel
theorem Ay:bootBuiltins "list"=some (.type "list"):=by decide +kernel
theorem Az:bootBuiltins "bool"=some (.type "bool"):=by decide +kernel
theorem Cr:bootBuiltins "str"=some (.type "str"):=by decide +kernel
section
variable {X:Cx}{C:SC}{ks:List Fn}
theorem Co [FQ] (F:Fit X C ks) (b:Bi) {e:Expr}{es:List Expr}{g:AF}{p pos:Pos} (hg:eJ C b.nm=true) (ha:QA X (e::es) g) (hs:(e::es).all bu=true):QE X (.Call (.Name b.nm p) (e::es) [] pos) (qG (gV b) g):=by
 have gl:=F.gl hg;rw [List.all_cons,zC] at hs;have he:=aE (env:=X.env) (es:=es) hs.1;have hpl:=d7 (env:=X.env) (pos:=pos) hs.2;cases b with
 | len=>exact fS Ci gl.1 (F.blt dC) Cu ha dC gl.2 he hpl
 | sum=>exact fS (Cf F.calm) gl.1 (F.blt dC) Cq ha dC gl.2 he hpl
 | all=>exact fS (Cl F.calm) gl.1 (F.blt dC) Cw ha dC gl.2 he hpl
 | any=>exact fS (Ck F.calm) gl.1 (F.blt dC) Cv ha dC gl.2 he hpl
 | abs=>exact fS Cm gl.1 (F.blt dC) Cy ha dC gl.2 he hpl
 | min=>exact fS (Cg F.calm) gl.1 (F.blt dC) Cs ha dC gl.2 he hpl
 | max=>exact fS (Ch F.calm) gl.1 (F.blt dC) Ct ha dC gl.2 he hpl
 | int=>exact Bk Cj gl.1 (F.blt dC) uk ha dC gl.2 he hpl
theorem BM [FQ] (F:Fit X C ks) (m:Mi) {o:Expr}{es:List Expr}{f:EF}{g:AF}{ap p:Pos} (ho:QE X o f) (ha:QA X es g) (h0:es=[]->g=df) (hs:es.all bu=true) (hl:es.length < 30) (hb:iV o=true) (hline:(ap.endLine == p.line)=true) :
  QE X (.Call (.Attribute o m.nm ap) es [] p) (kM (p8 m) (p7 m) f g):=by
 cases es with
 | nil =>
  have:=h0 rfl
  subst this;have hbase:=cY (env:=X.env) (f:=m.nm) (eval o X.env) hb;cases m with
  | app=>exact pv PySem.F.plainAttrs_list PySem.F.slot_list_append PySem.F.type_list_append tY ho hbase hline
  | ext=>exact pv PySem.F.plainAttrs_list PySem.F.slot_list_extend PySem.F.type_list_extend tX ho hbase hline
 | cons e es =>
  have hbase:=cY (env:=X.env) (f:=m.nm) (eval o X.env) hb;have hfew:=C9 (env:=X.env) (cpos:=p) hs hl;rw [List.all_cons,zC] at hs;have he:=aE (env:=X.env) (es:=es) hs.1;have hpl:=d7 (env:=X.env) (pos:=p) hs.2;cases m with
  | app=>exact tL PySem.F.plainAttrs_list PySem.F.slot_list_append PySem.F.type_list_append tY ho ha hbase hfew hline he hpl
  | ext=>exact tL PySem.F.plainAttrs_list PySem.F.slot_list_extend PySem.F.type_list_extend tX ho ha hbase hfew hline he hpl
theorem xG [FQ] {P:Program}{w:World}{K:Frag}{mg:Str->Option Value}{base:Heap}{k:Nat}{f:Addr}{fd:FuncData}{ps:List Str}{n:Nat}{fn:Fn} (b:Bool) (F:FnOk P w K mg base cP k f fd ps (cu ⟨K,mg⟩ n fn)):FnOk P w K mg base cP k f fd ps (cu ⟨K,mg⟩ n (pG b fn)):=by
 cases b
 ·exact F
 ·exact FnOk.pm F
theorem j4 {as:Exs}{es:List Expr} (h:gh as C es=true) (he:es=[]):cz ks as=df:=by
 subst he;cases as with
 | nil=>rfl
 | cons a as=>exact aQ h
end
mutual
theorem ah [FQ] {ks:List Fn}:∀ (a:Ex) {X:Cx}{C:SC} (_:Fit X C ks) {e:Expr},bg a C e=true->QE X e (ev ks a)
 | .n,X,C,F,e,h=>by
  refine jj h fun c a p h=>?_
  rw [BU h];exact lC (w:=.non) rfl xP fun _ _ _ h=>h
 | .b x,X,C,F,e,h=>by
  refine jj h fun c a p h=>?_
  rw [BW h];exact lC rfl BD fun _ _ _ h=>h
 | .i x,X,C,F,e,h=>by
  refine jj h fun c a p h=>?_
  rw [BV h];exact lC rfl xQ fun _ _ _ h=>h
 | .s x,X,C,F,e,h=>by
  refine jj h fun c a p h=>?_
  rw [BT h];exact lC rfl xN fun _ _ _ h=>h
 | .v k,X,C,F,e,h=>by
  refine gz h fun x p h=>?_
  refine bw h fun h0 h=>?_
  obtain ⟨h1,h2,h3⟩:=F.nmb h0;exact xp h1 (F.vis h) h2 h3
 | .g x c,X,C,F,e,h=>by
  refine gz h fun y p h=>?_
  refine dG h fun h0 h1 h2=>?_
  rw [<- yG h0];obtain ⟨w,u,h1',h2',h3⟩:=F.gc h2;obtain ⟨g1,g2⟩:=F.gl h1;exact lC h1' (vp g1 h2' h3 g2) fun _ _ _ h=>h
 | .bin o a b,X,C,F,e,h=>by
  refine lI h fun a' o' b' p h=>?_
  refine dG h fun h0 h1 h2=>?_
  cases of_decide_eq_true h0;exact xx (ah a F h1) (ah b F h2)
 | .cmp o a b,X,C,F,e,h=>by
  refine pR h fun a' o' b' p h=>?_
  refine dF h fun h0 h1 h2 h3=>?_
  cases of_decide_eq_true h0;exact xw F.hu (ah a F h1) (ah b F h2) h3
 | .un o a,X,C,F,e,h=>by
  refine lF h fun o' a' p h=>?_
  refine bw h fun h0 h1=>?_
  cases of_decide_eq_true h0;exact Bj (ah a F h1)
 | .no a,X,C,F,e,h=>by
  refine lF h fun o' a' p h=>?_
  refine bw h fun h0 h1=>?_
  cases of_decide_eq_true h0;exact xr (ah a F h1)
 | .an a b,X,C,F,e,h=>by
  refine ji h (fun x y p h=>?_) fun x y z r p h=>?_
  ·refine bw h fun h0 h1=>?_
   exact px (ah a F h0) (pL (ah b F h1))
  ·refine bw h fun h0 h1=>?_
   exact px (ah a F h0) (ah b F h1)
 | .or a b,X,C,F,e,h=>by
  refine ji h (fun x y p h=>?_) fun x y z r p h=>?_
  ·refine bw h fun h0 h1=>?_
   exact tK (ah a F h0) (pL (ah b F h1))
  ·refine bw h fun h0 h1=>?_
   exact tK (ah a F h0) (ah b F h1)
 | .ife t a b,X,C,F,e,h=>by
  refine vC h fun t' a' b' p h=>?_
  refine dG h fun h0 h1 h2=>?_
  exact Bn (bW t F h0) (ah a F h1) (ah b F h2)
 | .ix a b,X,C,F,e,h=>by
  refine jh h fun a' b' p h=>?_
  refine dG h fun h0 h1 h2=>?_
  exact Bm F.hu (ah a F h0) (ah b F h1) (BX h2)
 | .tu es,X,C,F,e,h=>by
  refine lG h fun es' a p h=>?_
  exact xq (c6 es F h)
 | .nw m x,X,C,F,e,h=>Bl (yw x F h)
 | .ca p j es,X,C,F,e,h=>by
  refine cS h fun x p1 es' p2 h=>?_
  refine dF h fun h1 h2 h3 h4=>?_
  unfold C5 at h1;split at h1
  ·rename_i y m hk
   refine bw h1 fun h1 h0=>?_
   obtain ⟨d,f,fd,ps,hl,Fn,hr,hm,kp,hb⟩:=F.ke j _ hk;obtain ⟨g1,g2⟩:=F.gl h2;rw [yG h1] at hm;have hn:ps.length=es'.length:=by rw [hl];exact yG h0
   cases es' with
   | nil=>show QE X _ (qF _ (cz ks es));rw [j4 h3 rfl];exact rK (xG p Fn) hr g1 hm kp hb hn g2
   | cons e1 es1 =>
    refine bw h4 fun h4 h5=>?_
    exact uZ (xG p Fn) hr g1 hm kp hb (c6 es F h3) (fun sl st xs st' e=>by rw [hn];exact ic es h3 _ _ _ _ e) g2 (aE h4) (d7 h5)
  ·exact aQ h1
 | .me c m j o es,X,C,F,e,h=>by
  refine mP h fun o' m' ap es' p h=>?_
  refine iK h fun h0 h1 h2 h3 h=>?_
  refine dF h fun h4 h5 h6 h7=>?_
  rw [<- yG h0];unfold C3 at h1;split at h1
  ·rename_i c' m'' k hk
   refine dG h1 fun a1 a2 a3=>?_
   obtain ⟨d,f,fd,ps,Ca,hl,Fn,hr,hC,cl,hm,hb⟩:=F.ke j _ hk;rw [yG a1] at hC;rw [yG a2] at hm;have hn:ps.length=es'.length + 1:=by rw [hl];exact yG a3
   have h5:es'.length < 30:=zJ (Nat.lt_succ_self _) (zR h5);cases es' with
   | nil=>show QE X _ (qE _ _ _ _ (cz ks es));rw [j4 h3 rfl];exact rJ (ah o F h2) cl hC hm Fn hr hb hn (mV h6 h4 h5 h7)
   | cons e1 es1 =>
    have ht:=mV (env:=X.env) (f:=m) (o:=o') (es:=e1::es1) h6 h4 h5 h7;refine bw h4 fun h4 h8=>?_
    exact uX (ah o F h2) cl hC hm Fn hr hb (c6 es F h3) (fun sl st xs st' e=>by rw [hn,ic es h3 _ _ _ _ e]) (aE h4) (d7 h8) ht
  ·exact aQ h1
 | .ne c j es,X,C,F,e,h=>by
  refine cS h fun x p1 es' p2 h=>?_
  refine iK h fun h0 h1 h2 h3 h=>?_
  refine bw h fun h4 h5=>?_
  rw [<- yG h0];unfold C4 at h1;split at h1
  ·rename_i c' k hk
   refine bw h1 fun a1 a2=>?_
   obtain ⟨d,f,fd,ps,Ca,hl,Fn,hr,hC,M,hb⟩:=F.ke j _ hk;rw [yG a1] at hC;obtain ⟨g1,g2⟩:=F.gl h2;cases es' with
   | nil=>exact aQ h5
   | cons e1 es1 =>
    have hn:ps.length=es1.length + 2:=by rw [hl];exact yG a2
    refine bw h4 fun h4 h6=>?_
    exact xt M Fn hr g1 hC hb (c6 es F h3) (fun sl st xs st' e=>by rw [hn,ic es h3 _ _ _ _ e];rfl) g2 (aE h4) (d7 h6)
  ·exact aQ h1
 | .fd c f o,X,C,F,e,h=>by
  refine lJ h fun o' f' p h=>?_
  refine dF h fun h0 h1 h2 h3=>?_
  rw [<- yG h0];obtain ⟨Ca,hC,cl,na⟩:=F.clb h1;exact xu (ah o F h2) cl hC na (cY _ h3)
 | .bi b es,X,C,F,e,h=>by
  refine cS h fun x p1 es' p2 h=>?_
  refine iK h fun h0 h1 h2 h3 h4=>?_
  cases es' with
  | nil=>exact aQ h4
  | cons e1 es1 =>
   have e0:=yG h0;subst e0;exact Co F b h1 (c6 es F h2) h3
 | .is T a,X,C,F,e,h=>by
  refine cS h fun x p1 es' p2 h=>?_
  refine d0 h fun e1 e2 h=>?_
  refine gz h fun y p3 h=>?_
  refine iK h fun h0 h1 h2 h4 h5=>?_
  refine bw h2 fun h2 h3=>?_
  have e0:=yG h0;subst e0;obtain ⟨g1,g2⟩:=F.gl h1;obtain ⟨g3,g4⟩:=F.gl h2;unfold CB at h3;simp only [Bool.or_eq_true] at h3;rcases h3 with (((h3 | h3) | h3) | h3) | h3 <;> (refine bw h3 fun a1 a2=>?_;have e1:=yG a1;have e2:=yG a2;subst e1;subst e2)
  ·exact gw g1 (F.blt dC) g3 (F.blt dC) uk (ah a F h4) dC g4 (aE h5) jK
  ·exact gw g1 (F.blt dC) g3 (F.blt dC) Az (ah a F h4) dC g4 (aE h5) jK
  ·exact gw g1 (F.blt dC) g3 (F.blt dC) Ay (ah a F h4) dC g4 (aE h5) jK
  ·exact gw g1 (F.blt dC) g3 (F.blt dC) Cp (ah a F h4) dC g4 (aE h5) jK
  ·exact gw g1 (F.blt dC) g3 (F.blt dC) Cr (ah a F h4) dC g4 (aE h5) jK
 | .mt m o es,X,C,F,e,h=>by
  refine mP h fun o' m' ap es' p h=>?_
  refine dF h fun h0 h1 h2 h=>?_
  refine dF h fun h3 h4 h5 h6=>?_
  rw [<- yG h0];exact BM F m (ah o F h1) (c6 es F h2) (fun e=>j4 h2 e) h3 (zJ (Nat.lt_succ_self _) (zR h4)) h5 h6
 | .dn,X,C,F,e,h=>by
  obtain ⟨p,rfl⟩:=vX h;exact uY sg
 | .ch o o' a b c,X,C,F,e,h=>by
  refine mO h fun a' o1 o2 b' c' p h=>?_
  refine iK h fun h0 h1 h2 h3 h=>?_
  refine bw h fun h4 h5=>?_
  cases of_decide_eq_true h0;cases of_decide_eq_true h1;exact Bo F.hu (ah a F h2) (ah b F h3) (ah c F h4) (by simpa using h5)
theorem bW [FQ] {ks:List Fn}:∀ (a:Tx) {X:Cx}{C:SC} (_:Fit X C ks) {e:Expr},gC a C e=true->QT X e (tv ks a)
 | .va a,X,C,F,e,h=>by
  refine bw h fun h0 h1=>?_
  exact w6 (ah a F h1) (uE h0)
 | .cmp o a b,X,C,F,e,h=>by
  refine pR h fun a' o' b' p h=>?_
  refine dF h fun h0 h1 h2 h3=>?_
  cases of_decide_eq_true h0;exact xb F.hu (ah a F h1) (ah b F h2) h3
 | .no a,X,C,F,e,h=>by
  refine lF h fun o' a' p h=>?_
  refine bw h fun h0 h1=>?_
  cases of_decide_eq_true h0;exact xa (bW a F h1)
 | .an a b,X,C,F,e,h=>by
  refine ji h (fun x y p h=>?_) fun x y z r p h=>?_
  ·refine bw h fun h0 h1=>?_
   exact PW.pt (je (bW a F h0) (jd .And (bW b F h1)))
  ·refine bw h fun h0 h1=>?_
   exact PW.pt (je (bW a F h0) (jn b F h1))
 | .or a b,X,C,F,e,h=>by
  refine ji h (fun x y p h=>?_) fun x y z r p h=>?_
  ·refine bw h fun h0 h1=>?_
   exact PW.pt (kY (bW a F h0) (jd .Or (bW b F h1)))
  ·refine bw h fun h0 h1=>?_
   exact PW.pt (kY (bW a F h0) (jn b F h1))
 | .ch o o' a b c,X,C,F,e,h=>by
  refine mO h fun a' o1 o2 b' c' p h=>?_
  refine iK h fun h0 h1 h2 h3 h=>?_
  refine bw h fun h4 h5=>?_
  cases of_decide_eq_true h0;cases of_decide_eq_true h1;exact Ba F.hu (ah a F h2) (ah b F h3) (ah c F h4) (by simpa using h5)
theorem jn [FQ] {ks:List Fn}:∀ (a:Tx) {X:Cx}{C:SC} (_:Fit X C ks) {op:BoolOp}{x y:Expr}{r:List Expr}{p:Pos},gC a C (.BoolOp op (x::y::r) p)=true->QW X (.BoolOp op (x::y::r) p) (tv ks a)
 | .va a,X,C,F,op,x,y,r,p,h=>aQ h
 | .cmp o a b,X,C,F,op,x,y,r,p,h=>aQ h
 | .no a,X,C,F,op,x,y,r,p,h=>aQ h
 | .ch o o' a b c,X,C,F,op,x,y,r,p,h=>aQ h
 | .an a b,X,C,F,op,x,y,r,p,h=>by
  refine lH h (fun _ _ _ e h=>?_) fun _ _ _ _ _ e h=>?_
  ·cases e
   refine bw h fun h0 h1=>?_
   exact je (bW a F h0) (jd .And (bW b F h1))
  ·cases e
   refine bw h fun h0 h1=>?_
   exact je (bW a F h0) (jn b F h1)
 | .or a b,X,C,F,op,x,y,r,p,h=>by
  refine lH h (fun _ _ _ e h=>?_) fun _ _ _ _ _ e h=>?_
  ·cases e
   refine bw h fun h0 h1=>?_
   exact kY (bW a F h0) (jd .Or (bW b F h1))
  ·cases e
   refine bw h fun h0 h1=>?_
   exact kY (bW a F h0) (jn b F h1)
theorem c6 [FQ] {ks:List Fn}:∀ (as:Exs) {X:Cx}{C:SC} (_:Fit X C ks) {es:List Expr},gh as C es=true->QA X es (cz ks as)
 | .nil,X,C,F,es,h=>by cases es with | nil=>exact er | cons _ _=>exact aQ h
 | .cons a as,X,C,F,es,h=>by
  cases es with
  | nil=>exact aQ h
  | cons e es =>
   refine dG h fun h0 h1 h2=>?_
   exact cw (ah a F h1) (c6 as F h2) (aE h0)
theorem yw [FQ] {ks:List Fn}:∀ (a:Nx) {X:Cx}{C:SC} (_:Fit X C ks) {e:Expr},tW a C e=true->QN X e (dR ks a)
 | .li es,X,C,F,e,h=>by
  refine mM h fun es' p h=>?_
  exact uS (c6 es F h)
 | .cat a b,X,C,F,e,h=>by
  refine lI h fun a' o' b' p h=>?_
  refine dG h fun h0 h1 h2=>?_
  cases of_decide_eq_true h0;exact xl (ah a F h1) (ah b F h2)
 | .rep es b,X,C,F,e,h=>by
  refine lI h fun a' o' b' p h=>?_
  refine bw h fun h0 h=>?_
  cases of_decide_eq_true h0;refine mM h fun es' p1 h=>?_
  refine bw h fun h1 h2=>?_
  exact xj (c6 es F h1) (ah b F h2)
 | .sl a l h',X,C,F,e,h=>by
  refine vz h fun a' l' r' p q h=>?_
  refine dG h fun h0 h1 h2=>?_
  exact Bd (ah a F h0) (p0 l F h1) (p0 h' F h2)
 | .rev a b,X,C,F,e,h=>by
  refine jh h fun a' s p h=>?_
  refine pQ h fun l r c q h=>?_
  refine dG h fun h0 h1 hq=>?_
  cases l with
  | some _=>exact aQ h0
  | none=>cases r with
   | some _=>exact aQ h1
   | none=>cases c with
    | none=>exact aQ hq
    | some b' =>
     refine bw hq fun h2 h3=>?_
     exact xh (ah a F h2) (ah b F h3)
 | .lof a,X,C,F,e,h=>by
  refine cS h fun x p1 es p2 h=>?_
  refine cG h fun a' h=>?_
  refine dF h fun h0 h1 h2 h3=>?_
  have e0:=yG h0;subst e0;exact xk (F.gl h1).1 (F.blt dC) (ah a F h2) (aE h3)
 | .lc k it t c a,X,C,F,e,h=>by
  simp only [tW] at h;refine yd h fun a' t' it' cs sc p h=>?_
  refine iK h fun h0 h1 h2 h3 h=>?_
  refine dF h fun h4 h5 h6 h7=>?_
  obtain ⟨T,FB⟩:=F.blk h2;have ek:k=(eS C sc).length - X.N.length:=by rw [yG h3,F.N]
  subst ek;exact Be F.calm T (lN it F h0) (fun cl s H fp FO=>eF t (FB cl s H fp FO) h5) (fun cl s H fp FO=>p5 c (FB cl s H fp FO) h6) (fun cl s H fp FO=>ah a (FB cl s H fp FO) h7) (by rw [F.N];exact jS h4) (i9 h1)
 | .srt a,X,C,F,e,h=>by
  refine cS h fun x p1 es p2 h=>?_
  refine cG h fun a' h=>?_
  refine dF h fun h0 h1 h2 h3=>?_
  have e0:=yG h0;subst e0;exact Bc (F.gl h1).1 (F.blt dC) (ah a F h2) (aE h3)
theorem p0 [FQ] {ks:List Fn}:∀ (a:Ox) {X:Cx}{C:SC} (_:Fit X C ks) {e:Option Expr},tU a C e=true->QO X e (gL ks a)
 | .no,X,C,F,e,h=>by cases e with | none=>exact uR | some _=>exact aQ h
 | .so a,X,C,F,e,h=>by cases e with | none=>exact aQ h | some e=>exact uQ (ah a F h)
theorem p5 [FQ] {ks:List Fn}:∀ (a:Cx') {X:Cx}{C:SC} (_:Fit X C ks) {es:List Expr},CZ a C es=true->qL X es (nq ks a)
 | .no,X,C,F,e,h=>by cases e with | nil=>exact uU | cons _ _=>exact aQ h
 | .so a,X,C,F,e,h=>by
  refine cG h fun e h=>?_
  exact uT (bW a F h)
theorem lN [FQ] {ks:List Fn}:∀ (a:Ix) {X:Cx}{C:SC} (_:Fit X C ks) {t e:Expr},yx a C t e=true->QI X t e (bR ks a)
 | .e a,X,C,F,t,e,h=>DQ (ah a F h)
 | .r1 a,X,C,F,t,e,h=>by
  refine cS h fun x p1 es p2 h=>?_
  refine cG h fun a' h=>?_
  refine dF h fun h0 h1 h2 h3=>?_
  have e0:=yG h0;subst e0;exact Bh (F.gl h1).1 (F.blt dC) (ah a F h2) (aE h3)
 | .r2 a b,X,C,F,t,e,h=>by
  refine cS h fun x p1 es p2 h=>?_
  refine d0 h fun a' b' h=>?_
  refine iK h fun h0 h1 h2 h3 h4=>?_
  refine bw h4 fun h4 h5=>?_
  have e0:=yG h0;subst e0;exact Bg (F.gl h1).1 (F.blt dC) (ah a F h2) (ah b F h3) (by rw [aE h4,aE h5];rfl) (aE h5)
 | .zi a b,X,C,F,t,e,h=>by
  refine lG h fun ts k p h=>?_
  refine cS h fun x p1 es p2 h=>?_
  refine d0 h fun a' b' h=>?_
  refine iK h fun h0 h1 h2 h3 h4=>?_
  refine bw h4 fun h4 h5=>?_
  have e0:=yG h0;subst e0;exact xm (F.gl h1).1 (F.blt dC) (ah a F h2) (ah b F h3) (by rw [aE h4,aE h5];rfl) (aE h5)
 | .r3 a b c,X,C,F,t,e,h=>by
  refine cS h fun x p1 es p2 h=>?_
  refine vB h fun a' b' c' h=>?_
  refine dF h fun h0 h1 h2 h3=>?_
  refine dG h2 fun h2 h4 h5=>?_
  refine dG h3 fun h6 h7 h8=>?_
  have e0:=yG h0;subst e0;exact Bf (F.gl h1).1 (F.blt dC) (ah a F h2) (ah b F h4) (ah c F h5) (by rw [aE h6,aE h7,aE h8];rfl) (by rw [aE h7,aE h8];rfl) (aE h8)
theorem eF [FQ] {ks:List Fn}:∀ (t:Tg) {X:Cx}{C:SC} (_:Fit X C ks) {e:Expr},mU t C e=true->QG X e (cA ks t)
 | .nm k,X,C,F,e,h=>by
  refine gz h fun x p h=>?_
  refine bw h fun h0 h=>?_
  obtain ⟨h1,h2⟩:=F.loc h;exact uW (by rw [F.N];exact F.nd) (F.nmb h0).1 h1 h2
 | .tu n ts,X,C,F,e,h=>by
  refine lG h fun es k p h=>?_
  refine dG h fun h0 h1 h2=>?_
  exact xn F.calm (mT ts F h2) (by rw [sX];exact yG h0) (sY h1)
 | .su a b,X,C,F,e,h=>by
  refine jh h fun a' b' p h=>?_
  refine dG h fun h0 h1 h2=>?_
  exact xo F.hu (ah a F h0) (ah b F h1) (wP h2)
theorem mT [FQ] {ks:List Fn}:∀ (ts:Tgs) {X:Cx}{C:SC} (_:Fit X C ks) {es:List Expr},sF ts C es=true->qM X es (fr ks ts)
 | .nil,X,C,F,es,h=>by cases es with | nil=>exact uV | cons _ _=>exact aQ h
 | .cons t ts,X,C,F,es,h=>by
  cases es with
  | nil=>exact aQ h
  | cons e es =>
   refine dG h fun h0 h1 h2=>?_
   exact rH (eF t F h1) (mT ts F h2) (sW h0)
end
theorem o9 {env:Env}{e o i:Expr}{p:Pos}{l:Nat}:swapsWithSole [.Subscript o i p] e l env=pure false:=by cases e <;> rfl
theorem o6 {env:Env}{e:Expr}{es:List Expr}{k:Nat}{p:Pos}{l:Nat}:swapsWithSole [.Tuple es k p] e l env=pure false:=by cases e <;> rfl
mutual
theorem yu [FQ] {ks:List Fn}:∀ (a:Sx) {X:Cx}{C:SC} (_:Fit X C ks) {s:Stmt},CY a C s=true->QS X s (cq ks a)
 | .ex a,X,C,F,s,h=>by
  refine vD h fun e p h=>bw h fun h0 h1=>?_
  exact uO (ah a F h0) (mF h1)
 | .as a t,X,C,F,s,h=>by
  refine mQ h fun t' e p2 h=>dG h fun h0 h1 h2=>?_
  refine AA h2 (fun h2 x p h1=>?_) (fun o i q h1=>?_) (fun h2 es k q h1=>?_) h1
  ·cases t with
   | nm k =>
    refine bw (show (pX C k x && oq C x)=true from h1) fun g0 g1=>?_
    obtain ⟨l1,l2⟩:=F.loc g1;have hN:X.N.Nodup:=by rw [F.N];exact F.nd
    rcases Bool.or_eq_true_iff.mp h2 with hc | hc
    ·exact pq hN (F.nmb g0).1 l1 (ah a F h0) (mF hc) l2
    ·refine vW hc (fun elt gens sc pos h0=>?_) h0
     have hsw:=wM (env:=X.env) (elt:=elt) (gens:=gens) (sc:=sc) (pos:=pos) (t:=x) (p:=p) (l:=p2.line) F.kind;cases hsb:CJ X.env.scope.names x p.line sc pos.line with
     | false=>rw [hsb] at hsw;exact pq hN (F.nmb g0).1 l1 (ah a F h0) hsw l2
     | true =>
      rw [hsb] at hsw;refine ET h0 fun m k' it t c a' h0=>?_
      have h0:eu gens _=true:=h0;refine cG h0 fun g h0=>?_
      obtain ⟨t',it',cs,i⟩:=g;refine bw h0 fun h9 h0=>?_
      cases of_decide_eq_true h9;refine iK h0 fun q0 h1' h2' h3 h=>?_
      refine dF h fun h4 h5 h6 h7=>?_
      obtain ⟨T,FB⟩:=F.blk h2';have ek:k'=(eS C sc).length - X.N.length:=by rw [yG h3,F.N]
      subst ek;exact pj hN (F.nmb g0).1 l1 hsw F.calm T (lN it F q0) (fun cl s H fp FO=>eF t (FB cl s H fp FO) h5) (fun cl s H fp FO=>p5 c (FB cl s H fp FO) h6) (fun cl s H fp FO=>ah a' (FB cl s H fp FO) h7) (by rw [F.N];exact jS h4) (i9 h1') l2
   | _=>exact aQ h1
  ·exact pr (ah a F h0) (eF t F h1) o9 rc (nr rfl)
  ·exact bw h2 fun h2 h3=>pr (ah a F h0) (eF t F h1) o6 (q9 h2) (nr rfl)
 | .fl c f o a,X,C,F,s,h=>by
  refine mQ h fun t e p h=>lJ h fun o' f' p h=>dF h fun h0 h1 h2 h3=>?_
  rw [<- yG h0];obtain ⟨Ca,hC,cl,na⟩:=F.clb h1;exact xg (ah o F h2) (ah a F h3) cl hC na qY
 | .rt a,X,C,F,s,h=>by
  refine vA h fun e p h=>?_
  cases e with
  | none=>exact aQ h
  | some e=>exact xc (ah a F h)
 | .iff t a b,X,C,F,s,h=>by
  refine yc h fun e x y p h=>dG h fun h0 h1 h2=>?_
  exact Bb (bW t F h0) (dq a F h1) (dq b F h2)
 | .fo it t b,X,C,F,s,h=>by
  refine mN h fun t' it' x p h=>dF h fun h0 h1 h2 h3=>?_
  exact xf F.po F.calm (lN it F h0) (eF t F h2) (dq b F h3) (i9 h1)
 | .fd a t b,X,C,F,s,h=>by
  refine mN h fun t' it' x p h=>dF h fun h0 h1 h2 h3=>?_
  exact uN F.po F.calm (ah a F h0) (eF t F h2) (dq b F h3) (i9 h1)
 | .wh t b,X,C,F,s,h=>by
  refine vy h fun e x p h=>bw h fun h0 h1=>?_
  exact rF F.po (bW t F h0) (dq b F h1)
 | .dead,X,C,F,s,h=>uP
theorem dq [FQ] {ks:List Fn}:∀ (as:FU) {X:Cx}{C:SC} (_:Fit X C ks) {ss:List Stmt},gD as C ss=true->gX X ss (av ks as)
 | .nil,X,C,F,s,h=>by cases s with | nil=>exact uM | cons _ _=>exact aQ h
 | .cons a as,X,C,F,s,h=>by
  cases s with
  | nil=>exact aQ h
  | cons s ss=>exact bw h fun h0 h1=>rD (yu a F h0) (dq as F h1)
 | .dead,X,C,F,s,h=>rC
end
section
variable (P:Program) (w:World) (K:Frag) (mg:Str->Option Value) (base:Heap)
def E9 [FQ] (d:Nat) (x:Str) (n:Nat) (fn:Fn):Prop:=∃ f fd ps,ps.length=n/\FnOk P w K mg base cP d f fd ps (cu ⟨K,mg⟩ ps.length fn)/\mg x=some (.ref f)/\keepIn K (.ref f)=true/\Binds K fd ps []
def E8 [FQ] (d:Nat) (c m:Str) (n:Nat) (fn:Fn):Prop:=∃ f fd ps C,ps.length=n/\FnOk P w K mg base cP d f fd ps (cu ⟨K,mg⟩ ps.length fn)/\mg c=some (.ref C)/\Cls K C/\gf K C m f/\Binds K fd ps []
def E7 [FQ] (d:Nat) (c:Str) (n:Nat) (fn:Fn):Prop:=∃ f fd ps C,ps.length=n/\FnOk P w K mg base cP d f fd ps (cu ⟨K,mg⟩ ps.length fn)/\mg c=some (.ref C)/\Mk K C f/\Binds K fd ps []
def KOk [FQ] (d:Nat) (fn:Fn):Ke->Prop
 | .f x n=>E9 P w K mg base d x n fn
 | .m c m n=>E8 P w K mg base d c m n fn
 | .k c n=>E7 P w K mg base d c n fn
def KsOk [FQ] (d:Nat):List Ke->List Fn->Prop
 | [],_=>True
 | k::ke,fn::ks=>KOk P w K mg base d fn k/\KsOk d ke ks
 | _::_,[]=>False
structure Ev (gs:List (Str × AV)) (cl:List (Str × List Str)):Prop where
 bl:∀ x ∈ bnames,mg x=none
 gs:∀ p ∈ gs,∀ w,ja p.2=some w->∃ u,mg p.1=some u/\RelV w u
 cl:∀ p ∈ cl,∃ Ca,mg p.1=some (.ref Ca)/\Cls K Ca/\∀ f ∈ p.2,NoAttr K Ca f
end
section
variable {P:Program}{w:World}{K:Frag}{mg:Str->Option Value}{base:Heap}{d d':Nat}{fn:Fn}
theorem KOk.mono [FQ] (h:d <= d'):∀ {k:Ke},KOk P w K mg base d fn k->KOk P w K mg base d' fn k
 | .f _ _,⟨f,fd,ps,e,F,r⟩=>⟨f,fd,ps,e,F.mono h,r⟩
 | .m _ _ _,⟨f,fd,ps,C,e,F,r⟩=>⟨f,fd,ps,C,e,F.mono h,r⟩
 | .k _ _,⟨f,fd,ps,C,e,F,r⟩=>⟨f,fd,ps,C,e,F.mono h,r⟩
theorem KsOk.at [FQ]:∀ {ke:List Ke}{ks:List Fn}{j:Nat}{k:Ke},KsOk P w K mg base d ke ks->ke[j]?=some k->KOk P w K mg base d (kf ks j) k
 | [],_,_,_,_,e=>by simp at e
 | k::ke,[],_,_,h,_=>h.elim
 | k::ke,fn::ks,0,_,h,e=>by simp at e;subst e;exact h.1
 | k::ke,fn::ks,j + 1,_,h,e=>by
  have:=KsOk.at (j:=j) h.2 (by simpa using e)
  exact this
theorem KOk.ok [FQ] (hr:Room (d + 1) A):∀ {k:Ke},KOk P w K mg base d fn k->AI P w K mg base A fn k
 | .f _ _,⟨f,fd,ps,e,F,m,kp,b⟩=>⟨d,f,fd,ps,e,F,hr.mono (Nat.le_succ d),m,kp,b⟩
 | .m _ _ _,⟨f,fd,ps,C,e,F,m,c,me,b⟩=>⟨d,f,fd,ps,C,e,F,hr.mono (Nat.le_succ d),m,c,me,b⟩
 | .k _ _,⟨f,fd,ps,C,e,F,m,mk,b⟩=>⟨d,f,fd,ps,C,e,F,hr,m,mk,b⟩
end
def dl (st:Stmt):List Str:=(cH st).args.map (·.arg)
noncomputable def zx (N ps:List Str) (sc:Scope):Bool:=(match sc.kind with | .function=>true | _=>false) && !sc.isCoroutine && !sc.isGenerator && decide N.Nodup && decide (N.take ps.length=ps) &&
 (ps.all fun x=>match sc.names.lookup x with | some .local=>true | some .cell=>true | _=>false) && (sc.names.all fun p=>match p.2 with | .free=>false | _=>true)
theorem zw (h:zx N ps sc=true):ip N ps sc:=by
 unfold zx at h;simp only [zC,z6] at h;obtain ⟨⟨⟨⟨⟨⟨h1,h2⟩,h3⟩,h4⟩,h5⟩,h6⟩,h7⟩:=h;refine ⟨?_,by simpa using h2,by simpa using h3,h4,h5,fun x hx=>?_,fun y hy e=>?_⟩
 ·split at h1
  ·rename_i e;exact e
  ·cases h1
 ·have:=yK.mp h6 x hx
  split at this
  ·rename_i e;exact .inl e
  ·rename_i e;exact .inr e
  ·cases this
 ·have:=yK.mp h7 y hy
  rw [e] at this;cases this
def chk (N:List Str) (ke:List Ke) (gs:List (Str × AV)) (cl:List (Str × List Str)) (la:List Pos) (b:FU) (st:Stmt):Bool :=
 zx N (dl st) (b8 st) && gx (cH st) && decide (dl st).Nodup && gD b ⟨N,(b8 st).names,N,ke,gs,cl,la⟩ (cN st)
section
variable {P:Program}{w:World}{K:Frag}{mg:Str->Option Value}{base:Heap}{d:Nat}{x qual:Str}{st:Stmt}{f:Addr}{fd:FuncData}{N:List Str}{ke:List Ke}{ks:List Fn}{gs:List (Str × AV)}{cl:List (Str × List Str)}{la:List Pos}{b:FU}
theorem B8 [FQ] {N ps:List Str}{k:Nat}{b:SF} (F:Fun K x qual st f fd) (S:ip N ps (b8 st))
  (hbody:∀ (A:Around) (outer:List Env) (s:Shared) (H:Hp) (E:XK),Room k (A.deeper (envOfC qual (b8 st) s.heap.objs.size f fd.code))->gX (j6 cP P w K mg base N qual (b8 st) f fd.code A outer s H E).nox (cN st) b) :
  FnOk P w K mg base cP (k + 1) f fd ps (cu ⟨K,mg⟩ ps.length (run N.length b)):=by
 obtain ⟨oc,od,kV,doc,pm,an,cdv,ct,osl,rfl,lk,hcd⟩:=F.ex;refine B7 lk hcd S (fun vs H Q E h=>h.1) fun A outer s H vs Q E hr h=>?_
 obtain ⟨hl,P,φ,args,st,r,sm,k⟩:=h;have hb:=hbody A outer s H E hr;refine ⟨_,PSs.nox hb,?_⟩;obtain ⟨v,st',e,q⟩:=k;obtain ⟨o,e1,e2⟩:=zA e;refine ⟨P,φ,_,st,uG r,sm,o,e1,?_⟩;cases o with
 | nx sl st1=>cases e2;exact fun P' φ' H' σ' f' s' _=>q P' φ' H' .non f' s' (by simp only [RA])
 | rt v st1=>cases e2;exact fun P' φ' H' w f' s' r'=>q P' φ' H' w f' s' r'
 | bk sl st1=>cases e2
 | ct sl st1=>cases e2
def mr [FQ] (mg:Str->Option Value) (base:Heap) (qual:Str) (cd:Value) (la:List Pos):Prop:=∀ p ∈ la,∃ c P,cd=.ref c/\CodeHd base c P/\g5 mg base/\(P,p,qual++".<locals>."++"<lambda>") ∈ FQ.tb/\∀ t ∈ FQ.tb,t.1=P->t=(P,p,qual++".<locals>."++"<lambda>")
theorem jx [FQ] (F:Fun K x qual st f fd) (E:Ev K mg gs cl) (hl:mr mg base qual fd.code la) (hk:KsOk P w K mg base d ke ks) (h:chk N ke gs cl la b st=true) :
  FnOk P w K mg base cP (d + 3) f fd (dl st) (cu ⟨K,mg⟩ (dl st).length (run N.length (av ks b)))/\Binds K fd (dl st) []:=by
 unfold chk at h;simp only [zC,z6] at h;obtain ⟨⟨⟨h1,h2⟩,h3⟩,h4⟩:=h;have S:=zw h1;refine ⟨B8 F S fun A outer s H E' hr=>?_,F.binds fun kV doc pm an cdv ct us hl=>jJ h2 rfl h3 hl⟩;refine dq b ⟨rfl,rfl,S.nd,S.kind,rfl,fun _ _=>rfl,hr.units,E.bl,PassesOwn.never,fun j k e=>(hk.at e).ok (hr.mono oM),E.gs,E.cl,fun p hp=>⟨hr.mono oM,hl p hp⟩⟩ h4
end
structure FE where
 ke:Ke
 qual:Str
 st:Stmt
 N:List Str
 cs:List Nat
 d:Nat
 la:List Pos
 b:FU
def FE.fn (e:FE) (fs:List Fn):Fn:=run e.N.length (av (e.cs.map (kf fs)) e.b)
def FE.ok [FQ] (e:FE) (K:Frag) (mg:Str->Option Value) (base:Heap):Prop:=match e.ke with
 | .f x _=>∃ f fd,mg x=some (.ref f)/\Fun K x e.qual e.st f fd/\mr mg base e.qual fd.code e.la
 | .m c m _=>∃ f fd C,mg c=some (.ref C)/\Cls K C/\gf K C m f/\Fun K m e.qual e.st f fd/\mr mg base e.qual fd.code e.la
 | .k c _=>∃ f fd C,mg c=some (.ref C)/\Mk K C f/\Fun K "__init__" e.qual e.st f fd/\mr mg base e.qual fd.code e.la
noncomputable def Ke.n:Ke->Nat
 | .f _ n=>n
 | .m _ _ n=>n
 | .k _ n=>n
noncomputable def sM (pre:List FE) (j:Nat):Ke:=match pre[j]? with
 | some e=>e.ke
 | none=>.f "" 0
def FE.chk (gs:List (Str × AV)) (cl:List (Str × List Str)) (pre:List FE) (e:FE):Bool :=
 R.chk e.N (e.cs.map (sM pre)) gs cl e.la e.b e.st && (e.ke.n == (dl e.st).length) && e.cs.all (fun j=>match pre[j]? with | some g=>Nat.ble (g.d + 3) e.d | none=>false) && Nat.ble 3 e.d
def gQ (gs:List (Str × AV)) (cl:List (Str × List Str)):List FE->List FE->Bool
 | _,[]=>true
 | pre,e::r=>e.chk gs cl pre && gQ gs cl (pre++[e]) r
def fc:List Fn->List FE->List Fn
 | fs,[]=>fs
 | fs,e::r=>fc (fs++[e.fn fs]) r
section
variable {P:Program}{w:World}{K:Frag}{mg:Str->Option Value}{base:Heap}{gs:List (Str × AV)}{cl:List (Str × List Str)}
def lh [FQ] (P:Program) (w:World) (K:Frag) (mg:Str->Option Value) (base:Heap) (pre:List FE) (fs:List Fn):Prop:=pre.length=fs.length/\∀ (j:Nat) e,pre[j]?=some e->KOk P w K mg base e.d (kf fs j) e.ke
theorem ot [FQ] {d:Nat} (h:lh P w K mg base pre fs):∀ cs:List Nat,(cs.all fun j=>match pre[j]? with | some g=>Nat.ble (g.d + 3) (d + 3) | none=>false)=true->KsOk P w K mg base d (cs.map (sM pre)) (cs.map (kf fs))
 | [],_=>trivial
 | j::cs,hc=>by
  rw [List.all_cons,zC] at hc;refine ⟨?_,ot h cs hc.2⟩;have h1:=hc.1;split at h1
  ·rename_i g hg
   have:=h.2 j g hg
   unfold sM;rw [hg];exact this.mono (by have:=zR h1;omega)
  ·cases h1
theorem B9 [FQ] {pre:List FE}{fs:List Fn}{e:FE} (E:Ev K mg gs cl) (h:lh P w K mg base pre fs) (hf:e.ok K mg base) (hc:e.chk gs cl pre=true):KOk P w K mg base e.d (e.fn fs) e.ke:=by
 unfold FE.chk at hc;simp only [zC] at hc;obtain ⟨⟨⟨h1,h2⟩,h3⟩,h4⟩:=hc;have hn:=yG h2;obtain ⟨d,hd⟩:∃ d,e.d=d + 3:=⟨e.d - 3,by have:=zR h4;omega⟩;rw [hd] at h3 ⊢;have hk:=ot h e.cs h3;unfold FE.fn;unfold FE.ok at hf;split at hf
 ·rename_i x n ek
  obtain ⟨f,fd,m,F,L⟩:=hf;obtain ⟨a1,a2⟩:=jx F E L hk h1;rw [ek] at hn ⊢;exact ⟨f,fd,dl e.st,hn.symm,a1,m,F.kp,a2⟩
 ·rename_i c m n ek
  obtain ⟨f,fd,C,hC,hc,hm,F,L⟩:=hf;obtain ⟨a1,a2⟩:=jx F E L hk h1;rw [ek] at hn ⊢;exact ⟨f,fd,dl e.st,C,hn.symm,a1,hC,hc,hm,a2⟩
 ·rename_i c n ek
  obtain ⟨f,fd,C,hC,hm,F,L⟩:=hf;obtain ⟨a1,a2⟩:=jx F E L hk h1;rw [ek] at hn ⊢;exact ⟨f,fd,dl e.st,C,hn.symm,a1,hC,hm,a2⟩
theorem qf {j:Nat} (h:j < fs.length):kf (fs++[g]) j=kf fs j:=by
 unfold kf;rw [zD,zD,zM h]
theorem vQ:kf (fs++[g]) fs.length=g:=by
 unfold kf;rw [zD];simp
theorem mH [FQ] (E:Ev K mg gs cl):∀ (rest pre:List FE) (fs:List Fn),lh P w K mg base pre fs->(∀ e ∈ rest,e.ok K mg base)->gQ gs cl pre rest=true->lh P w K mg base (pre++rest) (fc fs rest)
 | [],pre,fs,h,_,_=>by rw [List.append_nil];exact h
 | e::r,pre,fs,h,hf,hc=>by
  unfold gQ at hc;rw [zC] at hc;have h1:=B9 E h (hf e z3) hc.1
  have:=mH E r (pre++[e]) (fs++[e.fn fs]) ⟨by simp [h.1],fun j g hg=>?_⟩ (fun g hg=>hf g (zP _ hg)) hc.2
  ·rw [yI] at this;exact this
  ·rcases yN j pre.length with hj | hj
   ·rw [zM hj] at hg
    rw [qf (by rw [<- h.1];exact hj)];exact h.2 j g hg
   ·have ej:j=pre.length:=by
     have:=(zB.mp hg).1
     rw [zU] at this;simp at this;omega
    subst ej;simp at hg;subst hg;rw [h.1,vQ];exact h1
end
theorem BS [FQ] {K:Frag}{mg:Str->Option Value}{H:Hp}{a:Addr}{ns:List Int}{fn:Fn}{E:XK} (hg:∃ st,fn [.fz (ns.map .int)] []=some (.bl true,st)) (hS:bx K H a (ns.map V.int)) (tb:∀ t ∈ FQ.tb,di H t.1 t.2.1 t.2.2):cu ⟨K,mg⟩ 1 fn [.ref a] H (fun v _=>v=.bl true) E:=by
 obtain ⟨st,e⟩:=hg;refine ⟨rfl,fun c=>∃ vs,Rd H c (.lst vs),[],[.fz (ns.map .int)],[],aY ?_ be,Sim.nil (fun c h=>?_) (fun t ht=>⟨tb t ht,fun hq0=>by obtain ⟨vs,z⟩:=hq0;obtain ⟨ps,e,_⟩:=tb t ht;rcases z with z | ⟨o,z⟩ <;> (rw [e] at z;cases z)⟩),.bl true,st,e,fun P' φ' H' w f s r=>by simpa only [RA] using r⟩
 ·simp only [RA]
  refine ⟨a,ns.map V.int,rfl,?_,FS.of_ints⟩;rcases hS with h | h
  ·exact .inl ⟨⟨_,h⟩,h⟩
  ·exact .inr fun H'=>.inr h
 ·obtain ⟨vs,h | ⟨o,h⟩⟩:=h <;> (rw [h];exact fun z=>nomatch z)
end R
namespace L2
open PySem PySem.Spec PyProof.Rows
theorem qe {P:Program}{w:World}{K:Frag}{mg mb:Str->Option Value}{CX:gZ}{k:Nat}{fa a:Addr}{fd:FuncData}{x:Str}{sp:Sp}{s₁:Shared}{vs:List Value}{ns:List Int}{tabs:List (Addr × Addr)}
  (KX:K.In s₁.heap) (hns:s₁.heap.Ns mainGlobals mg) (hb:s₁.heap.Ns builtinsNs mb) (hbb:∀ x:Str,x ≠ "__name__"->mb x=bootBuiltins x) (hlim:s₁.heap.NoLimit) (hg:s₁.gens=#[])
  (bm:∃ bm ob,mg "__builtins__"=some (.ref bm)/\bm ≠ builtinsNs/\s₁.heap.get? bm=some ob/\ob.cls=.type "module"/\ob.dict=some builtinsNs/\ob.data=.plain)
  (hT:TabsAt tabs s₁.heap) (hK0:noTabs K=true)
  (ha:s₁.heap.get? a=some { cls:=.type "list",data:=.seq vs.toArray }) (hi:IntsAre vs ns) (hl:ns.length <= sizeLine) (hr:Room k callerA)
  (F:∀ base:Heap,K.In base->base.Ns mainGlobals mg->g5 mg base->FnOk P w K mg base CX k fa fd [x] sp) (hbind:∀ (s:Shared) (u:Value),BindsTo s fd ⟨[u],[]⟩ [(x,u)])
  (hsp:∀ H:Hp,(∀ q ∈ tabs,H q.2=some (.tbl #[]))->bx K H a (ns.map V.int)->sp [.ref a] H (fun v _=>v=.bl true) fun _ _ _=>False)
  (hCX:∀ H e s',CX [] H s₁ (fun _ _ _=>False) e s'->False) :
  codeAny (model P w) callerA (.call (.ref fa) ⟨[.ref a],[]⟩) (fun r s'=>r=.ok (.ret (.bool true))/\OldK s₁.heap s'.heap/\s'.os=s₁.os/\AllBare s'.gens) s₁:=by
 have rv:=oR hi;have lenV:=hi.length;have core:∀ H:Hp,bx K H a (ns.map V.int)->HOk P w H s₁.heap->(∀ b,H b=none\/(b=a/\K.lookup a=none/\∃ o xs,H b=some (.frz o (.lst xs)))\/(∃ q ∈ tabs,b=q.2/\H b=some (.tbl #[])))->(∀ q ∈ tabs,H q.2=some (.tbl #[])) ->
   codeAny (model P w) callerA (.call (.ref fa) ⟨[.ref a],[]⟩) (fun r s'=>r=.ok (.ret (.bool true))/\OldK s₁.heap s'.heap/\s'.os=s₁.os/\AllBare s'.gens) s₁:=by
  intro H hS FT hA hTb;have cY:∀ {b:Addr}{o:Obj},s₁.heap.get? b=some o->H b=none->(fq s₁.heap H).get? b=some o:=fun e n=>sS e n
  have none_of:∀ {b:Addr}{o:Obj},s₁.heap.get? b=some o->o.cls ≠ .type "list"->o ≠ tabObj #[]->H b=none:=fun {b o} e n1 n2=>by
   rcases hA b with z | ⟨rfl,_⟩ | ⟨q,hq,rfl,_⟩
   ·exact z
   ·rw [ha] at e;cases e;exact absurd rfl n1
   ·rw [(hT q hq).2] at e;cases e;exact absurd rfl n2
  have dict_of:∀ {b:Addr}{o:Obj}{es:Array DictEntry}{ep:Nat},s₁.heap.get? b=some o->o.data=.dict es ep->H b=none:=fun {b o es ep} e d=>by
   rcases hA b with z | ⟨rfl,_⟩ | ⟨q,hq,rfl,_⟩
   ·exact z
   ·rw [ha] at e;cases e;cases d
   ·rw [(hT q hq).2] at e;cases e;cases d
  have nsK:∀ {b:Addr}{m:Str->Option Value},s₁.heap.Ns b m->(fq s₁.heap H).Ns b m:=fun {b m} ⟨o,es,ep,e,d,r⟩=>⟨o,es,ep,cY e (dict_of e d),d,r⟩
  have hKb:K.In (fq s₁.heap H):=fun b o e=>cY (KX b o e) (by
   rcases hA b with z | ⟨rfl,z,_⟩ | ⟨q,hq,rfl,_⟩
   ·exact z
   ·rw [z] at e;cases e
   ·have e1:=KX _ o e
    rw [(hT q hq).2] at e1;cases e1;have h2:=yK.mp hK0 _ (mem_of_lookupK e);exact absurd (show false=true from h2) Bool.false_ne_true)
  have hM:Mod K mg (fq s₁.heap H):=⟨hKb,nsK hns,⟨mb,nsK hb,hbb⟩,let ⟨mc,h1,h2⟩:=hlim;⟨mc,nsK h1,h2⟩⟩;have hBM:g5 mg (fq s₁.heap H):=by
   obtain ⟨bm,ob,b1,b2,b3,b4,b5,b6⟩:=bm;refine ⟨bm,ob,b1,b2,fun z=>?_,cY b3 (none_of b3 (by rw [b4];intro z;injection z with z;exact absurd z dC) (fun z=>by rw [z] at b4;cases b4)),b4,b5,b6⟩;obtain ⟨o,es,ep,e,d,_⟩:=hns;rw [z,e] at b3;cases b3;rw [d] at b6;cases b6
  have e0:Env0 P w K mg (fq s₁.heap H) callerA [] s₁ H:=⟨rfl,hM,fun b o e=>vE e,Nat.le_of_eq (qk _ _),trivial,fun b hb=>absurd (show b ∈ ([]:List Addr) from hb) (by simp),FT,.of_eq hg⟩;refine codeAny_mono ((F _ hKb (nsK hns) hBM).run callerA [] s₁ H ⟨[.ref a],[]⟩ [.ref a] [.ref a] _ _ hr e0 (hbind s₁ (.ref a)) (.cons rfl .nil) (hsp H hTb hS)) fun r s' h=>?_
  cases r with
  | error e=>exact (hCX H e s' h).elim
  | ok fl =>
   cases fl with
   | next=>exact False.elim h
   | brk=>exact False.elim h
   | cont=>exact False.elim h
   | ret u =>
    obtain ⟨v,H',os,bare,un,hok',r',q⟩:=h;have q':v=.bl true:=q;subst q';obtain rfl:u=Value.bool true:=r';have old:∀ b o,s₁.heap.get? b=some o->asItWas s₁.heap s'.heap b o:=fun b o e=>by
     rcases hA b with z | ⟨rfl,_,ob,xs,z⟩ | ⟨q,hq,rfl,z⟩
     ·exact .inl (un.keep b o e z (by intro z;exact absurd (show b ∈ ([]:List Addr) from z) (by simp)) (by simp))
     ·have z2:=un.frzs b ob _ z
      obtain ⟨e1,_⟩:=FT b _ z;obtain ⟨e2,_⟩:=hok' b _ z2;rw [e] at e1;cases e1;exact .inl e2
     ·obtain ⟨more,z2⟩:=un.tbls _ _ z
      have e2:=hok' _ _ z2;rw [(hT q hq).2] at e;cases e;exact .inr (.inl ⟨((hT q hq).1.tab (hT q hq).2).isCodeTable,rfl,#[],more,rfl,e2⟩)
    refine ⟨rfl,⟨old,fun b o e=>?_⟩,os,bare⟩;exact un.there b o e (by simp)
 have natab:∀ q ∈ tabs,q.2 ≠ a:=fun q hq e=>by
  have:=(hT q hq).2
  rw [e,ha] at this;cases this
 cases hk:K.lookup a with
 | some o =>
  have e:=KX a o hk;rw [ha] at e;cases e;refine core (fun b=>if b ∈ tabs.map (·.2) then some (.tbl #[]) else none) (.inr ⟨_,vs.toArray,_,hk,rfl,rfl,rfl,by rw [zI,lenV];exact hl,by simpa using rv⟩) (fun b u z=>?_) (fun b=>?_) fun q hq=>yE (List.mem_map_of_mem hq)
  ·dsimp only at z
   by_cases hb:b ∈ tabs.map (·.2)
   ·rw [yE hb] at z;cases z
    obtain ⟨q,hq,rfl⟩:=z7.mp hb;exact (hT q hq).2
   ·rw [yD hb] at z;cases z
  ·by_cases hb:b ∈ tabs.map (·.2)
   ·obtain ⟨q,hq,rfl⟩:=z7.mp hb
    exact .inr (.inr ⟨q,hq,rfl,yE hb⟩)
   ·exact .inl (yD hb)
 | none =>
  refine core (fun b=>if b ∈ tabs.map (·.2) then some (.tbl #[]) else if b=a then some (.frz { cls:=.type "list",data:=.seq vs.toArray } (.lst (ns.map V.int))) else none) (.inl (.inr ⟨{ cls:=.type "list",data:=.seq vs.toArray },?_⟩)) (fun b u z=>?_) (fun b=>?_) fun q hq=>yE (List.mem_map_of_mem hq)
  ·dsimp only
   rw [yD (fun z=>by obtain ⟨q,hq,e⟩:=z7.mp z;exact natab q hq e),yE rfl]
  ·dsimp only at z
   by_cases hb:b ∈ tabs.map (·.2)
   ·rw [yE hb] at z;cases z
    obtain ⟨q,hq,rfl⟩:=z7.mp hb;exact (hT q hq).2
   ·rw [yD hb] at z
    by_cases hb':b=a
    ·rw [yE hb'] at z;cases z
     subst hb';exact ⟨ha,by rw [zH];exact hl,vs,_,rv,ha⟩
    ·rw [yD hb'] at z;cases z
  ·by_cases hb:b ∈ tabs.map (·.2)
   ·obtain ⟨q,hq,rfl⟩:=z7.mp hb
    exact .inr (.inr ⟨q,hq,rfl,yE hb⟩)
   ·by_cases hb':b=a
    ·exact .inr (.inl ⟨hb',hk,_,_,(yD hb).trans (yE hb')⟩)
    ·exact .inl ((yD hb).trans (yD hb'))
theorem wq {l:PySem.W.OpenLaw}{n k:Nat}{q:Program}{loose:List Str}{XP:(Str->Option Value)->Heap->Prop}{YP:World->Heap->Prop}{d:DefRec}{K:Params->Frag}{sp:World->Sp}{x:Str}{tabs:List (Addr × Addr)}
  (hn:l.most=some n) (hn2:n <= sizeLine) (hdf:d.params.defaults=[]) (hr:Room k callerA)
  (hY:∀ (w:World) (h:Heap),YP w h->(K w.params).In h/\∀ q ∈ tabs,h.get? q.2=some (tabObj #[])) (hc:∀ (w:World),∀ q ∈ tabs,codeHdIn (K w.params) q.1 q.2=true) (hK0:∀ (w:World),noTabs (K w.params)=true)
  (F:∀ (w:World) (mg:Str->Option Value) (fa:Addr) (h:Heap),(K w.params).In h->h.Ns mainGlobals mg->mg d.name=some (.ref fa) ->
   ∃ fd:FuncData,(∀ (s:Shared) (u:Value),BindsTo s fd ⟨[u],[]⟩ [(x,u)]) /\
    ∀ base:Heap,(K w.params).In base->base.Ns mainGlobals mg->g5 mg base->FnOk l.prog w (K w.params) mg base cP k fa fd [x] (sp w))
  (hsp:∀ (w:World) (H:Hp) (a:Addr) (ns:List Int),ns.length <= n->(∀ q ∈ tabs,H q.2=some (.tbl #[]))->bx (K w.params) H a (ns.map V.int)->sp w [.ref a] H (fun v _=>v=.bl true) fun _ _ _=>False) :
  PySem.W.WalkO q loose XP YP l.row.toRowW d [] (fun f vs=>PySem.call f vs):=by
 refine Att.attach_call hn hdf fun w s₀ s₁ mg mb fa o pm cd doc a vs ns G Y ho hd hcd hmg hobj hints hlen hg=>?_
 obtain ⟨KX,hT0⟩:=hY w _ Y;obtain ⟨fd,hb,hF⟩:=F w mg fa _ KX G.T.g hmg;exact qe (tabs:=tabs) KX G.T.g G.T.b G.T.builtins G.T.nolimit hg G.T.bmain (fun q hq=>⟨codeHd_of_K KX (hc w q hq),hT0 q hq⟩) (hK0 w) hobj hints (zZ hlen hn2) hr hF hb (fun H hO hS=>hsp w H a ns hlen hO hS) fun H e s' z=>z
end L2
namespace R
open PySem PySem.Spec PyProof.Rows L2
abbrev Dl [FQ] (K:Frag) (qual:Str) (cd:Value) (la:List Pos):Prop:=la=[]\/∃ p c P,la=[p]/\cd=.ref c/\codeHdIn K c P=true/\FQ.tb=[(P,p,qual++".<locals>."++"<lambda>")]
abbrev FactF [FQ] (K:Frag) (x:Str) (e:FE):Prop:=∃ (f:Addr) (oc:Value) (od:Option Addr) (sl:Array (Option Value)) (kV dc pm:Value) (an:Option Addr) (cd ct:Value),nsIn K mainGlobals x=some (some (.ref f)) /\
 K.lookup f=some ⟨oc,od,.func (fnOf x e.qual (cH e.st) (cN e.st) (b8 e.st) .none kV dc pm an cd ct),sl⟩/\codeIn K cd e.qual=true/\keepIn K (.ref f)=true/\Dl K e.qual cd e.la
abbrev oP (K:Frag) (c:Str):Prop:=∃ C:Addr,nsIn K mainGlobals c=some (some (.ref C))/\plainGet K C Str.empty=true/\hasDictIn K C=true/\plainOver K C=true/\findIn K (.ref C) "__setattr__"=some (some (.builtin "object.__setattr__"))
abbrev uy (K:Frag) (c:Str) (fs:List Str):Prop:=∃ C:Addr,nsIn K mainGlobals c=some (some (.ref C))/\(fs.all fun f=>match findIn K (.ref C) f with | some none=>true | _=>false)=true
abbrev uu (K:Frag):Prop:=(bnames.all fun x=>match nsIn K mainGlobals x with | some none=>true | _=>false)=true
section
variable [FQ] {K:Frag}{h base:Heap}{mg:Str->Option Value}
theorem tZ (B:K.In base) (hb:g5 mg base) (L:Dl K qual cd la):mr mg base qual cd la:=by
 intro p hp;rcases L with rfl | ⟨q,c,P,rfl,e,hc,ht⟩
 ·cases hp
 ·rw [zL.mp hp]
  exact ⟨c,P,e,codeHd_of_K B hc,hb,by rw [ht];simp,fun t h1 _=>by rw [ht] at h1;exact zL.mp h1⟩
theorem FactF.ok {n:Nat} (hk:e.ke=.f x n) (F:FactF K x e) (X:K.In h) (G:h.Ns mainGlobals mg) (B:K.In base) (hb:g5 mg base):e.ok K mg base:=by
 obtain ⟨f,oc,od,sl,kV,dc,pm,an,cd,ct,a,l,c,k,L⟩:=F;unfold FE.ok;rw [hk];exact ⟨f,_,mg_of X G a,qp l c k,tZ B hb L⟩
theorem Al (F:oP K c) (X:K.In h) (G:h.Ns mainGlobals mg) (hC:nsIn K mainGlobals c=some (some (.ref C))):mg c=some (.ref C)/\Cls K C:=by
 obtain ⟨C',a,f1,f2,f3,f4⟩:=F;rw [hC] at a;cases a;exact ⟨mg_of X G hC,⟨f1,f2,f3,f4⟩⟩
abbrev FactG (K:Frag) (p:Str × AV):Prop:=match p.2 with
 | .int i=>∃ t,nsIn K mainGlobals p.1=some (some (.int i t))
 | .str x=>∃ t,nsIn K mainGlobals p.1=some (some (.str x t))
 | _=>False
theorem FactG.ok (F:FactG K p) (X:K.In h) (G:h.Ns mainGlobals mg):∀ w,ja p.2=some w->∃ u,mg p.1=some u/\RelV w u:=by
 obtain ⟨x,c⟩:=p;intro w hw;cases c with
 | int i=>obtain ⟨t,e⟩:=F;cases hw;exact ⟨_,mg_of X G e,t,rfl⟩
 | str y=>obtain ⟨t,e⟩:=F;cases hw;exact ⟨_,mg_of X G e,t,rfl⟩
 | _=>exact F.elim
theorem Cc (X:K.In h) (G:h.Ns mainGlobals mg) (hb:uu K) (hg:∀ p ∈ gs,FactG K p) (hc:∀ p ∈ cl,oP K p.1/\uy K p.1 p.2):Ev K mg gs cl:=by
 refine ⟨fun x hx=>?_,fun p hp=>(hg p hp).ok X G,fun p hp=>?_⟩
 ·have:=yK.mp hb x hx
  split at this
  ·rename_i e;exact mg_none_of X G e
  ·cases this
 ·obtain ⟨C0,C,a,fs⟩:=hc p hp
  obtain ⟨m1,m2⟩:=Al C0 X G a;refine ⟨C,m1,m2,fun f hf=>?_⟩
  have:=yK.mp fs f hf
  split at this
  ·rename_i e;exact e
  ·cases this
end
theorem law_F [FQ] {P:Program}{w:World}{K:Frag}{h:Heap}{mg:Str->Option Value}{fa:Addr}{gs:List (Str × AV)}{cl:List (Str × List Str)}{pre:List FE}{e:FE}{fn:Fn} (X:K.In h) (G:h.Ns mainGlobals mg) (hfa:mg "law"=some (.ref fa))
  (hb:uu K) (hg:∀ p ∈ gs,FactG K p) (hc:∀ p ∈ cl,oP K p.1/\uy K p.1 p.2) (hchk:gQ gs cl [] pre=true) (hce:e.chk gs cl pre=true)
  (facts:∀ base:Heap,K.In base->g5 mg base->∀ e ∈ pre,e.ok K mg base) (hF:FactF K "law" e) (hps:dl e.st=[("_law_script":Str)]) (hfn:e.fn (fc [] pre)=fn) :
  ∃ fd:FuncData,(∀ (s:Shared) (v:Value),BindsTo s fd ⟨[v],[]⟩ [("_law_script",v)])/\∀ base:Heap,K.In base->base.Ns mainGlobals mg->g5 mg base ->
   FnOk P w K mg base cP e.d fa fd ["_law_script"] (fun vs H Q E=>∀ mg,cu ⟨K,mg⟩ 1 fn vs H Q E):=by
 have E:=Cc X G hb hg hc;unfold FE.chk at hce;simp only [zC] at hce;obtain ⟨⟨⟨h1,h2⟩,h3⟩,h4⟩:=hce;obtain ⟨d,hd⟩:∃ d,e.d=d + 3:=⟨e.d - 3,by have:=zR h4;omega⟩;rw [hd] at h3 ⊢;obtain ⟨f,oc,od,sl,kV,dc,pm,an,cd,ct,a,l,c,k,L⟩:=hF;have m:=mg_of X G a;rw [hfa] at m;cases m;have F:=qp l c k;refine ⟨fnOf "law" e.qual (cH e.st) (cN e.st) (b8 e.st) .none kV dc pm an cd ct,fun s v=>?_,fun base B _ hbm=>?_⟩
 ·have hp:gx (cH e.st)=true:=by
   unfold R.chk at h1;simp only [zC] at h1;exact h1.1.1.2
  refine .of_eq ?_
  have:=jJ (fd:=fnOf "law" e.qual (cH e.st) (cN e.st) (b8 e.st) .none kV dc pm an cd ct) (us:=[v]) hp rfl (by show (dl e.st).Nodup;rw [hps];simp) (by show _=(dl e.st).length;rw [hps];rfl)
  rw [this];show pure ((dl e.st).zip [v])=_;rw [hps];rfl
 ·have pk:=mH (P:=P) (w:=w) E pre [] [] ⟨rfl,fun j g hg=>by simp at hg⟩ (facts base B hbm) hchk
  have hk:=ot (d:=d) pk e.cs h3
  have:=(jx F E (tZ B hbm L) hk h1).1
  rw [hps] at this;have hfn':run e.N.length (av (e.cs.map (kf (fc [] pre))) e.b)=fn:=hfn;rw [hfn'] at this;exact this.imp fun vs H Q E q=>q mg
theorem walk_R [FQ] {l:PySem.W.OpenLaw}{k:Nat}{q:Program}{loose:List Str}{XP:(Str->Option Value)->Heap->Prop}{YP:World->Heap->Prop}{d:DefRec}{K:Params->Frag}{fn:Fn}{tabs:List (Addr × Addr)}
  (hn:l.most=some 63) (hdf:d.params.defaults=[]) (hr:Room k callerA)
  (hY:∀ (w:World) (h:Heap),YP w h->(K w.params).In h/\∀ q ∈ tabs,h.get? q.2=some (tabObj #[])) (hc:∀ (w:World),∀ q ∈ tabs,codeHdIn (K w.params) q.1 q.2=true) (hK0:∀ (w:World),noTabs (K w.params)=true)
  (ht:∀ t ∈ FQ.tb,t.1 ∈ tabs.map (·.2)) (hg:∀ ns:List Int,ns.length <= 63->∃ st,fn [.fz (ns.map .int)] []=some (.bl true,st))
  (F:∀ (w:World) (mg:Str->Option Value) (fa:Addr) (h:Heap),(K w.params).In h->h.Ns mainGlobals mg->mg d.name=some (.ref fa) ->
   ∃ fd:FuncData,(∀ (s:Shared) (u:Value),BindsTo s fd ⟨[u],[]⟩ [("_law_script",u)]) /\
    ∀ base:Heap,(K w.params).In base->base.Ns mainGlobals mg->g5 mg base->FnOk l.prog w (K w.params) mg base cP k fa fd ["_law_script"] (fun vs H Q E=>∀ mg,cu ⟨K w.params,mg⟩ 1 fn vs H Q E)) :
  PySem.W.WalkO q loose XP YP l.row.toRowW d [] (fun f vs=>PySem.call f vs) :=
 wq (sp:=fun w vs H Q E=>∀ mg,cu ⟨K w.params,mg⟩ 1 fn vs H Q E) hn dC hdf hr hY hc hK0 F fun w H a ns hl hT hS mg=>BS (hg ns hl) hS fun t h=>by
  obtain ⟨q,hq,e⟩:=z7.mp (ht t h);exact ⟨#[],by rw [<- e];exact hT q hq,trivial,.inl rfl⟩
end R
namespace SX
noncomputable def gI (xs:List Int) (j:Nat):Int:=xs.getD j 0
end SX
namespace R
open PySem PySem.Spec L2
open DD (pyOk)
section
variable {ks:List Fn}{sl:Sl}{st:aa}
@[simp] theorem FM:ev ks .n sl st=some (.non,st):=rfl
@[simp] theorem wx {x:Bool}:ev ks (.b x) sl st=some (.bl x,st):=rfl
@[simp] theorem aW {x:Int}:ev ks (.i x) sl st=some (.int x,st):=rfl
@[simp] theorem cW {x:Str}:ev ks (.s x) sl st=some (.str x,st):=rfl
@[simp] theorem FN {x:Str}{c:AV}:ev ks (.g x c) sl st=some (c,st):=rfl
@[simp] theorem ax {k:Nat}:ev ks (.v k) sl st=aV k sl st:=rfl
@[simp] theorem am {v:AV}:aV 0 (some v::sl) st=some (v,st):=rfl
@[simp] theorem aq {k:Nat}{x:Option AV}:aV (k + 1) (x::sl) st=aV k sl st:=rfl
@[simp] theorem aP {o:Operator}{a b:Ex}:ev ks (.bin o a b) sl st=(ev ks a sl st).bind fun p=>(ev ks b sl p.2).bind fun q=>(bn o q.2 p.1 q.1).map fun z=>(z,q.2):=rfl
@[simp] theorem bX {o:CmpOp}{a b:Ex}:ev ks (.cmp o a b) sl st=(ev ks a sl st).bind fun p=>(ev ks b sl p.2).bind fun q=>(eR o q.2 p.1 q.1).map fun z=>(z,q.2):=rfl
@[simp] theorem Dp {o:UnaryOp}{a:Ex}:ev ks (.un o a) sl st=(ev ks a sl st).bind fun p=>(iq o p.2 p.1).map fun z=>(z,p.2):=rfl
def ym (x:AV) (st:aa):Option (AV × aa):=match x with
 | .bl b=>some (.bl !b,st)
 | _=>none
def AB (x:AV) (st:aa) (r:Option (AV × aa)):Option (AV × aa):=match x with
 | .bl b=>if b=true then r else some (.bl false,st)
 | _=>none
def EQ (x:AV) (st:aa) (r:Option (AV × aa)):Option (AV × aa):=match x with
 | .bl b=>if b=true then some (.bl true,st) else r
 | _=>none
@[simp] theorem BE {b:Bool}:ym (.bl b) st=some (.bl !b,st):=rfl
@[simp] theorem io {b:Bool}{r:Option (AV × aa)}:AB (.bl b) st r=if b=true then r else some (.bl false,st):=rfl
@[simp] theorem Fe {b:Bool}{r:Option (AV × aa)}:EQ (.bl b) st r=if b=true then some (.bl true,st) else r:=rfl
@[simp] theorem Dq {a:Ex}:ev ks (.no a) sl st=(ev ks a sl st).bind fun p=>ym p.1 p.2:=by
 show uo (ev ks a) sl st=_;unfold uo ym;congr 1
@[simp] theorem gu {a b:Ex}:ev ks (.an a b) sl st=(ev ks a sl st).bind fun p=>AB p.1 p.2 (ev ks b sl p.2):=by
 show ut (ev ks a) (ev ks b) sl st=_;unfold ut AB;congr 1;funext p;cases p.1 <;> first | rfl | skip
 rename_i x;cases x <;> rfl
@[simp] theorem Fa {t:Tx}{a b:Ex}:ev ks (.ife t a b) sl st=(tv ks t sl st).bind fun p=>if p.1=true then ev ks a sl p.2 else ev ks b sl p.2:=rfl
@[simp] theorem bf {a b:Ex}:ev ks (.ix a b) sl st=(ev ks a sl st).bind fun p=>(ev ks b sl p.2).bind fun q=>(cg q.2 p.1 q.1).map fun z=>(z,q.2):=rfl
@[simp] theorem a9 {p:Bool}{j:Nat}{es:Exs}:ev ks (.ca p j es) sl st=(cz ks es sl st).bind fun q=>pG p (kf ks j) q.1 q.2:=rfl
@[simp] theorem aO {f:Fn}:pG true f=pm f:=rfl
@[simp] theorem Bw {f:Fn}:pG false f=f:=rfl
@[simp] theorem bd {f:Fn}:kf (f::ks) 0=f:=rfl
@[simp] theorem bz {f:Fn}{j:Nat}:kf (f::ks) (j + 1)=kf ks j:=rfl
@[simp] theorem aj:cz ks .nil sl st=some ([],st):=rfl
@[simp] theorem ad {e:Ex}{es:Exs}:cz ks (.cons e es) sl st=(ev ks e sl st).bind fun p=>(cz ks es sl p.2).bind fun q=>some (p.1::q.1,q.2):=rfl
@[simp] theorem nG {es:Exs}:ev ks (.tu es) sl st=(cz ks es sl st).bind fun p=>if Nat.ble p.1.length 1000=true then some (.tup p.1,p.2) else none:=rfl
@[simp] theorem ce {x:Nx}:ev ks (.nw false x) sl st=(dR ks x sl st).bind fun p=>if rfs p.1=true then some (.fz p.1,p.2) else none:=rfl
@[simp] theorem Dr {x:Nx}:ev ks (.nw true x) sl st=(dR ks x sl st).bind fun p=>some (.ref p.2.length,p.2++[.lst p.1]):=rfl
@[simp] theorem Fl {c m:Str}{j:Nat}{o:Ex}{es:Exs}:ev ks (.me c m j o es) sl st=(ev ks o sl st).bind fun p=>(i5 p.2 c p.1).bind fun fs=>if (fs.lookup m).isNone=true then (cz ks es sl p.2).bind fun q=>kf ks j (p.1::q.1) q.2 else none:=rfl
@[simp] theorem Fj {c:Str}{j:Nat}{es:Exs}:ev ks (.ne c j es) sl st=ur c (kf ks j) (cz ks es) sl st:=rfl
@[simp] theorem Fm {c f:Str}{o:Ex}:ev ks (.fd c f o) sl st=(ev ks o sl st).bind fun p=>(i5 p.2 c p.1).bind fun fs=>(fs.lookup f).map fun v=>(v,p.2):=rfl
@[simp] theorem bK {b:Bi}{es:Exs}:ev ks (.bi b es) sl st=(cz ks es sl st).bind fun p=>gV b p.1 p.2:=rfl
@[simp] theorem cF:gV .len=bM fm:=rfl
@[simp] theorem At:gV .sum=bM lw:=rfl
@[simp] theorem E4:gV .abs=bM gW:=rfl
@[simp] theorem Au:gV .min=bM og:=rfl
@[simp] theorem qz:gV .max=bM j2:=rfl
@[simp] theorem E3:gV .int=bM ox:=rfl
@[simp] theorem gU:gV .all=bM mn:=rfl
@[simp] theorem Av:gV .any=bM mm:=rfl
@[simp] theorem Fk {m:Mi}{o:Ex}{es:Exs}:ev ks (.mt m o es) sl st=kM (p8 m) (p7 m) (ev ks o) (cz ks es) sl st:=rfl
@[simp] theorem Fo:ev ks .dn sl st=some (.ref st.length,st++[.dK []]):=rfl
@[simp] theorem Ds {o o':CmpOp}{a b c:Ex}:tv ks (.ch o o' a b c) sl st=(ev ks a sl st).bind fun p=>(ev ks b sl p.2).bind fun q=>(bj o q.2 p.1 q.1).bind fun z=>if z=true then (ev ks c sl q.2).bind fun r=>(bj o' r.2 q.1 r.1).map fun w=>(w,r.2) else some (false,q.2):=rfl
@[simp] theorem Fp {o o':CmpOp}{a b c:Ex}:ev ks (.ch o o' a b c) sl st=(tv ks (.ch o o' a b c) sl st).map fun p=>(.bl p.1,p.2):=rfl
@[simp] theorem Ei {a b c:Ex}:bR ks (.r3 a b c) sl st=t7 (ev ks a) (ev ks b) (ev ks c) sl st:=rfl
@[simp] theorem eC {es:Exs}:dR ks (.li es) sl st=(cz ks es sl st).bind fun p=>if d6 p.1.length=true then some p else none:=rfl
@[simp] theorem n6 {a b:Ex}:dR ks (.cat a b) sl st=j0 (ev ks a) (ev ks b) sl st:=rfl
@[simp] theorem Ff {es:Exs}{b:Ex}:dR ks (.rep es b) sl st=sE (cz ks es) (ev ks b) sl st:=rfl
@[simp] theorem yp {a:Ex}{l h:Ox}:dR ks (.sl a l h) sl st=pZ (ev ks a) (gL ks l) (gL ks h) sl st:=rfl
@[simp] theorem tQ {a:Ex}:dR ks (.lof a) sl st=oa (ev ks a) sl st:=rfl
@[simp] theorem BK {a:Ex}:dR ks (.srt a) sl st=tR (ev ks a) sl st:=rfl
@[simp] theorem DW {k:Nat}{it:Ix}{t:Tg}{c:Cx'}{e:Ex}:dR ks (.lc k it t c e) sl st=(bR ks it sl st).bind fun p=>if d6 p.1.FR.length=true then kt p.1.gd (cA ks t) (nq ks c) (ev ks e) (sl++List.replicate k none) p.1.FR p.2 else none:=rfl
@[simp] theorem FF:gL ks .no sl st=some (none,st):=rfl
@[simp] theorem FD {e:Ex}:gL ks (.so e) sl st=yh (ev ks e) sl st:=rfl
@[simp] theorem FL:nq ks .no sl st=some (true,st):=rfl
@[simp] theorem fV {t:Tx}:nq ks (.so t) sl st=tv ks t sl st:=rfl
@[simp] theorem m9 {a:Ex}:bR ks (.e a) sl st=(ev ks a sl st).bind fun p=>(m7 p.2 p.1).map fun iv=>(iv,p.2):=rfl
@[simp] theorem FH {a:Ex}:bR ks (.r1 a) sl st=zk (ev ks a) sl st:=rfl
@[simp] theorem Ej {a b:Ex}:bR ks (.r2 a b) sl st=zj (ev ks a) (ev ks b) sl st:=rfl
@[simp] theorem zh {a b:Ex}:bR ks (.zi a b) sl st=iZ (ev ks a) (ev ks b) sl st:=rfl
@[simp] theorem bT {k:Nat}{x:AV}:cA ks (.nm k) x sl st=some (sl.set k (some x),st):=rfl
@[simp] theorem FJ {n:Nat}{ts:Tgs}{x:AV}:cA ks (.tu n ts) x sl st=qm n (fr ks ts) x sl st:=rfl
@[simp] theorem FK {a b:Ex}{x:AV}:cA ks (.su a b) x sl st=(ev ks a sl st).bind fun p=>(ev ks b sl p.2).bind fun q=>(nU q.2 p.1 q.1 x).map fun st'=>(sl,st'):=rfl
@[simp] theorem EV {xs:List AV}:fr ks .nil xs sl st=zp xs sl st:=rfl
@[simp] theorem EG {t:Tg}{ts:Tgs}{xs:List AV}:fr ks (.cons t ts) xs sl st=zq (cA ks t) (fr ks ts) xs sl st:=rfl
@[simp] theorem d5 {e:Ex}:tv ks (.va e) sl st=(ev ks e sl st).bind fun p=>(lu p.2 p.1).map fun b=>(b,p.2):=rfl
@[simp] theorem a8 {o:CmpOp}{a b:Ex}:tv ks (.cmp o a b) sl st=(ev ks a sl st).bind fun p=>(ev ks b sl p.2).bind fun q=>(bj o q.2 p.1 q.1).map fun b=>(b,q.2):=rfl
@[simp] theorem fQ {t:Tx}:tv ks (.no t) sl st=(tv ks t sl st).bind fun p=>some (!p.1,p.2):=rfl
@[simp] theorem Fq {t u:Tx}:tv ks (.an t u) sl st=(tv ks t sl st).bind fun p=>if p.1=true then tv ks u sl p.2 else some (false,p.2):=rfl
@[simp] theorem dj {t u:Tx}:tv ks (.or t u) sl st=(tv ks t sl st).bind fun p=>if p.1=true then some (true,p.2) else tv ks u sl p.2:=rfl
@[simp] theorem fO:av ks .nil sl st=some (.nx sl st):=rfl
def mR (o:Out) (k:Sl->aa->Option Out):Option Out:=match o with
 | .nx sl st=>k sl st
 | o=>some o
@[simp] theorem pW {k:Sl->aa->Option Out}:mR (.nx sl st) k=k sl st:=rfl
@[simp] theorem fF {v:AV}{k:Sl->aa->Option Out}:mR (.rt v st) k=some (.rt v st):=rfl
@[simp] theorem ES {k:Sl->aa->Option Out}:mR (.bk sl st) k=some (.bk sl st):=rfl
@[simp] theorem ER {k:Sl->aa->Option Out}:mR (.ct sl st) k=some (.ct sl st):=rfl
@[simp] theorem c0 {s:Sx}{ss:FU}:av ks (.cons s ss) sl st=(cq ks s sl st).bind fun o=>mR o (av ks ss):=by
 show (cq ks s sl st).bind _=(cq ks s sl st).bind _;congr 1
@[simp] theorem Fv {e:Ex}:cq ks (.ex e) sl st=(ev ks e sl st).bind fun p=>some (.nx sl p.2):=rfl
@[simp] theorem bB {e:Ex}{t:Tg}:cq ks (.as e t) sl st=(ev ks e sl st).bind fun p=>(cA ks t p.1 sl p.2).bind fun q=>some (.nx q.1 q.2):=rfl
@[simp] theorem Fu {c f:Str}{o e:Ex}:cq ks (.fl c f o e) sl st=wT c f (ev ks o) (ev ks e) sl st:=rfl
@[simp] theorem ci {e:Ex}:cq ks (.rt e) sl st=(ev ks e sl st).bind fun p=>some (.rt p.1 p.2):=rfl
@[simp] theorem aI {t:Tx}{a b:FU}:cq ks (.iff t a b) sl st=(tv ks t sl st).bind fun p=>if p.1=true then av ks a sl p.2 else av ks b sl p.2:=rfl
@[simp] theorem nV {it:Ix}{t:Tg}{b:FU}:cq ks (.fo it t b) sl st=(bR ks it sl st).bind fun p=>cp p.1.gd (cA ks t) (av ks b) p.1.FR sl p.2:=rfl
@[simp] theorem Fb {a:Ex}{t:Tg}{b:FU}:cq ks (.fd a t b) sl st=rl (ev ks a) (cA ks t) (av ks b) sl st:=rfl
@[simp] theorem Ft {t:Tx}{b:FU}:cq ks (.wh t b) sl st=pe (tv ks t) (av ks b) sl st:=rfl
@[simp] theorem EL:cq ks .dead sl st=none:=rfl
def aA (o:Out):Option (AV × aa):=match o with
 | .rt v st=>some (v,st)
 | .nx _ st=>some (.non,st)
 | _=>none
@[simp] theorem EW {v:AV}:aA (.rt v st)=some (v,st):=rfl
@[simp] theorem EX:aA (.nx sl st)=some (.non,st):=rfl
theorem bv {n:Nat}{b:FU}{args:List AV}:R.run n (av ks b) args st=(av ks b (args.map some++List.replicate (n - args.length) none) st).bind aA:=by
 unfold R.run;congr 1
end
@[simp] theorem Fc:rfs []=true:=rfl
@[simp] theorem Fd {x:AV}{xs:List AV}:rfs (x::xs)=(rf x && rfs xs):=by simp only [rfs]
@[simp] theorem Fz {i:Int}:rf (.int i)=true:=rfl
@[simp] theorem FC {i:Bool}:rf (.bl i)=true:=rfl
@[simp] theorem Fx {i:Str}:rf (.str i)=true:=rfl
@[simp] theorem Fy:rf .non=true:=rfl
@[simp] theorem FA {xs:List AV}:rf (.fz xs)=true:=rfl
@[simp] theorem Fw {xs:List AV}:rf (.tup xs)=rfs xs:=by simp only [rf]
section
variable {st:aa}{a b:Int}
theorem uc:gN st (.int a) (.int b)=some (decide (a=b)):=by
 show (if pyOk (.int a) (.int b)=true then some (PyData.eqv (.int a) (.int b)) else none)=_;rw [yE (by simp [pyOk,PyData.canLay0,PyData.depth])];congr 1
@[simp] theorem dN:bj .Eq st (.int a) (.int b)=some (decide (a=b)):=uc
@[simp] theorem Ao:bj .NotEq st (.int a) (.int b)=some (!decide (a=b)):=by show ((gN st (.int a) (.int b)).map fun x=>!x)=_;rw [uc];rfl
@[simp] theorem j8:bj .Lt st (.int a) (.int b)=some (decide (a < b)):=rfl
@[simp] theorem Es:bj .LtE st (.int a) (.int b)=some (decide (a <= b)):=rfl
@[simp] theorem Ap:bj .Gt st (.int a) (.int b)=some (decide (b < a)):=rfl
@[simp] theorem oF:bj .GtE st (.int a) (.int b)=some (decide (b <= a)):=rfl
@[simp] theorem gS {o:CmpOp}{x y:AV}:eR o st x y=(bj o st x y).map .bl:=rfl
@[simp] theorem Fh:bj .Is st .non .non=some true:=rfl
@[simp] theorem Fi:bj .Is st (.int a) .non=some false:=rfl
@[simp] theorem EZ:bj .IsNot st .non .non=some false:=rfl
@[simp] theorem E1:bj .IsNot st (.int a) .non=some true:=rfl
@[simp] theorem dB:bn .Add st (.int a) (.int b)=some (.int (a + b)):=rfl
@[simp] theorem ld:bn .Sub st (.int a) (.int b)=some (.int (a - b)):=rfl
theorem db (h:cx a b=true):bn .Mult st (.int a) (.int b)=some (.int (a * b)):=by
 show (if cx a b=true then _ else _:Option Int).map _=_;rw [yE h];rfl
theorem fY (h:eP b=true):bn .FloorDiv st (.int a) (.int b)=some (.int (nl a b)):=by
 show (if eP b=true then _ else _:Option Int).map _=_;rw [yE h];rfl
theorem de (h:b ≠ 0):bn .Mod st (.int a) (.int b)=some (.int (nk a b)):=by
 show (if b=0 then _ else _:Option Int).map _=_;rw [yD h];rfl
@[simp] theorem AR:iq .USub st (.int a)=some (.int (-a)):=rfl
theorem qr {y:Int} (h0:y ≠ 0) (h2:y.natAbs < 2 ^ 9000):eP y=true:=by
 unfold eP;have:Nat.ble y.natAbs.log2 8999=true:=yH (by have:=(Nat.log2_lt (n:=y.natAbs) oM).mpr h2;omega);rw [this];simp [h0]
end
end R
namespace R
open PySem PySem.Spec L2
open SX (gI)
noncomputable def iL (l:List Int):List AV:=l.map .int
noncomputable def nL (l:List Nat):List AV:=l.map fun q=>.int ((q:Nat):Int)
def c5 (d:Int) (a b c g n u:Nat):List (Str × AV):=[("below",.int d),("lines",.ref a),("heads",.ref b),("sides",.ref c),("guarded",.ref g),("nailed",.ref n),("turned",.ref u)]
section
variable {d:Int}{a b c g n u:Nat}
@[simp] theorem Ed:(c5 d a b c g n u).lookup ("below":Str)=some (AV.int d):=rfl
@[simp] theorem Eb:(c5 d a b c g n u).lookup ("lines":Str)=some (AV.ref a):=rfl
@[simp] theorem Ec:(c5 d a b c g n u).lookup ("heads":Str)=some (AV.ref b):=rfl
@[simp] theorem D0:(c5 d a b c g n u).lookup ("sides":Str)=some (AV.ref c):=rfl
@[simp] theorem BP:(c5 d a b c g n u).lookup ("guarded":Str)=some (AV.ref g):=rfl
@[simp] theorem C2:(c5 d a b c g n u).lookup ("nailed":Str)=some (AV.ref n):=rfl
@[simp] theorem C1:(c5 d a b c g n u).lookup ("turned":Str)=some (AV.ref u):=rfl
@[simp] theorem sL:(c5 d a b c g n u).lookup ("loose_columns":Str)=none:=rfl
@[simp] theorem qQ:(c5 d a b c g n u).lookup ("raising_column":Str)=none:=rfl
@[simp] theorem qP:(c5 d a b c g n u).lookup ("tightest_place":Str)=none:=rfl
@[simp] theorem wo:(c5 d a b c g n u).lookup ("is_tighter":Str)=none:=rfl
@[simp] theorem vN:(c5 d a b c g n u).lookup ("is_up_first":Str)=none:=rfl
@[simp] theorem AL:(c5 d a b c g n u).lookup ("exchange":Str)=none:=rfl
@[simp] theorem EE:(c5 d a b c g n u).lookup ("lift":Str)=none:=rfl
@[simp] theorem AM:(c5 d a b c g n u).lookup ("drive_up":Str)=none:=rfl
@[simp] theorem sK:(c5 d a b c g n u).lookup ("moving_column":Str)=none:=rfl
@[simp] theorem DZ:(c5 d a b c g n u).lookup ("guard":Str)=none:=rfl
@[simp] theorem ED:(c5 d a b c g n u).lookup ("nail":Str)=none:=rfl
@[simp] theorem yV:(c5 d a b c g n u).lookup ("turn_line":Str)=none:=rfl
end
section
variable {st:aa}{x:AV}{xs:List AV}{l:List Int}{i:Int}
theorem hV (h:cy st x=some xs):cg st x (.int i)=fj xs i:=by
 have hd:j3 st x (.int i)=none:=by
  unfold j3;have h1:fJ st x=none:=by
   cases x <;> first | rfl | skip
   rename_i k;unfold cy dr at h;unfold fJ;dsimp only at h ⊢;cases e:st[k]? with
   | none=>rfl
   | some c=>cases c <;> first | rfl | (rw [e] at h;simp only [e] at h;cases h)
  have h2:iI st x=none:=by
   cases x <;> first | rfl | skip
   rename_i k;unfold cy dr at h;unfold iI;dsimp only at h ⊢;cases e:st[k]? with
   | none=>rfl
   | some c=>cases c <;> first | rfl | (rw [e] at h;simp only [e] at h;cases h)
  rw [h1,h2]
 unfold cg;rw [hd];dsimp only;rw [h]
theorem fL {α:Type}{xs:List α}{j:Nat}:fj xs ((j:Nat):Int)=xs[j]?:=by
 unfold fj lW;rw [yE oM];by_cases h:j < xs.length
 ·rw [yE oM];simp
 ·rw [yD oM,List.getElem?_eq_none oM];rfl
theorem vY {j:Nat} (h:j < l.length):(iL l)[j]?=some (.int (gI l j)):=by
 unfold iL gI;simp [h,zD]
theorem vH {l:List Nat}{j:Nat} (h:j < l.length):(nL l)[j]?=some (.int ((l.getD j 0:Nat):Int)):=by
 unfold nL;simp [h,zD]
theorem qc {k:Nat} (h:st[k]?=some (.lst xs)):cy st (.ref k)=some xs:=by unfold cy dr;simp only [h]
end
theorem mX {α:Type}{em:α->AV}{B:α->Bool}{F:α->AV} (hg:bQ gd st=true):∀ {xs:List α},(∀ x ∈ xs,∃ sl1,g (em x) sl st=some (sl1,st)/\t sl1 st=some (B x,st)/\(B x=true->f sl1 st=some (F x,st)))->kt gd g t f sl (xs.map em) st=some ((xs.filter B).map F,st)
 | [],_=>by show (if bQ gd st=true then _ else _)=_;rw [yE hg];rfl
 | x::xs,h=>by
  obtain ⟨sl1,h1,h2,h3⟩:=h x z3;have ih:=mX hg (xs:=xs) fun y hy=>h y (zP _ hy)
  show (if bQ gd st=true then (g (em x) sl st).bind _ else none)=_;rw [yE hg,h1,bind_some];dsimp only;rw [h2,bind_some];cases hB:B x with
  | true=>rw [yE rfl];dsimp only;rw [h3 hB,bind_some];dsimp only;rw [ih,List.filter_cons,hB];rfl
  | false=>rw [yD (by simp)];dsimp only;rw [ih,List.filter_cons,hB];rfl
theorem cv:∀ {xs:List AV},(∀ x ∈ xs,rf x=true)->rfs xs=true
 | [],_=>rfl
 | x::xs,h=>by simp only [rfs,zC];exact ⟨h x z3,cv fun y hy=>h y (zP _ hy)⟩
theorem bS:rfs (iL l)=true:=cv fun x hx=>by obtain ⟨i,_,rfl⟩:=z7.mp hx;rfl
theorem cU:rfs (nL l)=true:=cv fun x hx=>by obtain ⟨i,_,rfl⟩:=z7.mp hx;rfl
mutual
theorem qB:∀ (x:AV),b9 x x=true
 | .non=>rfl
 | .bl _=>by simp [b9]
 | .int _=>by simp [b9]
 | .str _=>by simp [b9]
 | .ref _=>by simp [b9]
 | .tup a=>by simp only [b9];exact fg a
 | .fz a=>by simp only [b9];exact fg a
theorem fg:∀ (xs:List AV),c9 xs xs=true
 | []=>rfl
 | x::xs=>by simp only [c9,qB x,fg xs,Bool.and_self]
end
theorem v8 {k:Nat} (h:st[k]?=some (.lst xs)):bQ [(k,.lst xs)] st=true:=by
 simp only [bQ,h,oI,fg,Bool.and_self]
@[simp] theorem EI:gg st (.tup xs)=some xs:=rfl
@[simp] theorem lZ:m7 st (.fz xs)=some ⟨xs,[]⟩:=rfl
@[simp] theorem zd:gj st (.fz xs)=some ⟨xs,[]⟩:=rfl
@[simp] theorem cD:cy st (.fz xs)=some xs:=rfl
theorem vU {k:Nat} (h:st[k]?=some (.lst xs)):gj st (.ref k)=some ⟨xs,[(k,.lst xs)]⟩:=by
 unfold gj dr;simp only [h]
theorem vV {k:Nat} (h:st[k]?=some (.lst xs)):m7 st (.ref k)=some ⟨xs,[(k,.lst xs)]⟩:=by
 have:gg st (.ref k)=none:=by unfold gg dr;simp only [h]
 unfold m7;dsimp only;rw [this];exact vU h
@[simp] theorem EH:bQ [] st=true:=rfl
theorem vZ:dz (nL l)=some (l.map fun q=>((q:Nat):Int)):=by
 unfold dz nL;exact bO (f:=fun x=>match x with | .int i=>some i | _=>none) (i:=fun q:Nat=>AV.int q) (g:=fun q=>((q:Nat):Int)) (fun _=>rfl) l
theorem v3:dz (iL l)=some l:=by
 unfold dz iL
 have:=bO (f:=fun x:AV=>match x with | .int i=>some i | _=>none) (i:=fun q:Int=>AV.int q) (g:=fun q=>q) (fun _=>rfl) l
 rw [List.map_id'] at this;exact this
theorem g6 {n:Nat} (h:n <= 1000):d6 n=true:=yH oM
def fk (gd:Gd) (g:GF) (s:SF) (xs:List AV):Out->Option Out
 | .nx sl st=>cp gd g s xs sl st
 | .ct sl st=>cp gd g s xs sl st
 | .bk sl st=>some (.nx sl st)
 | .rt v st=>some (.rt v st)
theorem qq (hg:bQ gd st=true) (h1:g x sl st=some p) (h2:s p.1 p.2=some o):cp gd g s (x::xs) sl st=fk gd g s xs o:=by
 show (if bQ gd st=true then (g x sl st).bind _ else none)=_;rw [yE hg,h1,bind_some,h2,bind_some];cases o <;> rfl
theorem nh {gd:Gd}{g:GF}{s:SF}{I:Nat->Sl->aa->Prop}{Post:AV->aa->Prop}{xs:List AV} (hg:∀ i sl st,i <= xs.length->I i sl st->bQ gd st=true)
  (h:∀ i x sl st,xs[i]?=some x->I i sl st->∃ p o,g x sl st=some p/\s p.1 p.2=some o/\((∃ sl2 st2,o=.nx sl2 st2/\I (i + 1) sl2 st2)\/∃ v st2,o=.rt v st2/\Post v st2)) :
  ∀ {sl:Sl}{st:aa},I 0 sl st->(∃ sl' st',cp gd g s xs sl st=some (.nx sl' st')/\I xs.length sl' st')\/∃ v st',cp gd g s xs sl st=some (.rt v st')/\Post v st':=by
 have go:∀ (r:Nat) (j:Nat) {sl:Sl}{st:aa},j + r=xs.length->I j sl st->(∃ sl' st',cp gd g s (xs.drop j) sl st=some (.nx sl' st')/\I xs.length sl' st')\/∃ v st',cp gd g s (xs.drop j) sl st=some (.rt v st')/\Post v st':=fun r=>by
  induction r with
  | zero =>
   intro j sl st hj hI;left;rw [List.drop_of_length_le oM];refine ⟨sl,st,?_,by rw [show xs.length=j by omega];exact hI⟩;show (if bQ gd st=true then _ else _)=_;rw [yE (hg j sl st oM hI)]
  | succ r ih =>
   intro j sl st hj hI;have hl:j < xs.length:=by omega
   obtain ⟨p,o,h1,h2,h3⟩:=h j xs[j] sl st (zF hl) hI;rw [List.drop_eq_getElem_cons hl];have e:=qq (xs:=xs.drop (j + 1)) (hg j sl st oM hI) h1 h2;rw [e];rcases h3 with ⟨sl2,st2,rfl,h3⟩ | ⟨v,st2,rfl,h3⟩
   ·exact ih (j + 1) oM h3
   ·exact .inr ⟨v,st2,rfl,h3⟩
 intro sl st h0
 have:=go xs.length 0 oM h0
 rw [List.drop_zero] at this;exact this
theorem ni {gd:Gd}{g:GF}{s:SF}{I:Nat->Sl->aa->Prop}{xs:List AV} (hg:∀ i sl st,i <= xs.length->I i sl st->bQ gd st=true)
  (h:∀ i x sl st,xs[i]?=some x->I i sl st->∃ p sl2 st2,g x sl st=some p/\s p.1 p.2=some (.nx sl2 st2)/\I (i + 1) sl2 st2) {sl:Sl}{st:aa} (h0:I 0 sl st):∃ sl' st',cp gd g s xs sl st=some (.nx sl' st')/\I xs.length sl' st':=by
 rcases nh (Post:=fun _ _=>False) hg (fun i x sl st hx hI=>by
  obtain ⟨p,sl2,st2,a,b,c⟩:=h i x sl st hx hI;exact ⟨p,_,a,b,.inl ⟨sl2,st2,rfl,c⟩⟩) h0 with h | ⟨_,_,_,h⟩
 ·exact h
 ·exact h.elim
section
variable {st:aa}{k a b c g n u w m:Nat}{rows:List AV}{S:Sh}{i j q:Nat}{x:AV}{l:List Int}{e e':F1}
theorem gl:(st++[e])[st.length]?=some e:=by simp
end
@[simp] theorem zm:(iL l).length=l.length:=by unfold iL;simp
@[simp] theorem gB:(nL l).length=l.length:=by unfold nL;simp
@[simp] theorem B2:rfs (iL l)=true:=bS
@[simp] theorem tT:rfs (nL l)=true:=cU
theorem bN (h:cq ks s sl st=some (.nx sl' st')) (h2:(av ks ss sl' st').bind aA=r):(av ks (.cons s ss) sl st).bind aA=r:=by
 rw [c0,h,bind_some,pW];exact h2
theorem aw (h:cq ks s sl st=some (.nx sl' st')) (h2:av ks ss sl' st'=r):av ks (.cons s ss) sl st=r:=by
 rw [c0,h,bind_some,pW];exact h2
theorem aU (h:cq ks s sl st=some (.rt v st')):(av ks (.cons s ss) sl st).bind aA=some (v,st'):=by
 rw [c0,h,bind_some,fF];rfl
theorem a0 (h:rfs args=true) (h1:fn args []=some (v,st')) (h2:km st' v=some t):pm fn args st=some (t,st):=by
 unfold pm;rw [yE h,h1,bind_some];dsimp only;rw [h2];rfl
theorem gq (h:cq ks s sl st=some (.rt v st')):av ks (.cons s ss) sl st=some (.rt v st'):=by
 rw [c0,h,bind_some,fF]
theorem aN {ks:List Fn}{s:Sx}{ss:FU}{sl sl':Sl}{st st':aa}{Q:AV × aa->Prop} (h:cq ks s sl st=some (.nx sl' st')) (h2:∃ r,(av ks ss sl' st').bind aA=some r/\Q r):∃ r,(av ks (.cons s ss) sl st).bind aA=some r/\Q r:=by
 obtain ⟨r,e,q⟩:=h2;exact ⟨r,bN h e,q⟩
theorem A4 {n:Nat}:fR 0 n=nL (List.range n):=by unfold fR nL;simp
end R
namespace RK
open PySem
theorem sr:∀ a b:Nat,(a &&& b) + (a ^^^ b)=a ||| b:=by
 intro a
 induction a using Nat.strongRecOn with
 | ind a ih =>
  intro b;rcases Nat.eq_zero_or_pos a with rfl | h
  ·simp
  ·have h1:=ih (a / 2) oM (b / 2)
   rw [<- Nat.and_div_two,<- Nat.xor_div_two,<- Nat.or_div_two] at h1;have hm:(a &&& b) % 2 + (a ^^^ b) % 2=(a ||| b) % 2:=by
    rw [Nat.and_mod_two_pow (n:=1) (a:=a) (b:=b) |> fun h=>h,Nat.xor_mod_two_pow (n:=1) (a:=a) (b:=b),Nat.or_mod_two_pow (n:=1) (a:=a) (b:=b)];rcases Nat.mod_two_eq_zero_or_one a with e | e <;> rcases Nat.mod_two_eq_zero_or_one b with f | f <;> rw [show (2:Nat) ^ 1=2 from rfl,e,f] <;> rfl
   have d1:=Nat.div_add_mod (a &&& b) 2;have d2:=Nat.div_add_mod (a ^^^ b) 2;have d3:=Nat.div_add_mod (a ||| b) 2;omega
theorem mj (a b:Nat):Builtin.bitAnd (a:Int) (b:Int)=((a &&& b:Nat):Int):=by
 unfold Builtin.bitAnd;simp
theorem wg (a b:Nat):Builtin.bitOr (a:Int) (b:Int)=((a ||| b:Nat):Int):=by
 unfold Builtin.bitOr Builtin.bitAnd Builtin.bitNot;rw [show decide ((0:Int) <= -(a:Int) - 1)=false from z4 oM,show decide ((0:Int) <= -(b:Int) - 1)=false from z4 oM];dsimp only;rw [show (-(-(a:Int) - 1) - 1).toNat=a by omega,show (-(-(b:Int) - 1) - 1).toNat=b by omega];omega
theorem tj (a b:Nat):Builtin.bitXor (a:Int) (b:Int)=((a ^^^ b:Nat):Int):=by
 have h:=sr a b;unfold Builtin.bitXor;rw [wg,mj];omega
end RK
namespace RK
noncomputable def par:Nat->Nat->Bool
 | 0,_=>false
 | N + 1,x=>par N x ^^ x.testBit N
theorem sk (N:Nat):par N 0=false:=by
 induction N with
 | zero=>rfl
 | succ N ih=>simp [par,ih]
theorem mJ (N x:Nat):par N x=(((List.range N).filter fun i=>x.testBit i).length % 2 == 1):=by
 induction N with
 | zero=>rfl
 | succ N ih =>
  rw [List.range_succ,List.filter_append,zU];simp only [par,ih];cases h:x.testBit N
  ·simp [h]
  ·simp only [h,List.filter_cons,if_true,List.filter_nil,yP,List.length_nil]
   generalize (List.filter _ _).length=n;have:n % 2=0\/n % 2=1:=by omega
   rcases this with e | e
   ·rw [e,show (n + (0 + 1)) % 2=1 by omega];rfl
   ·rw [e,show (n + (0 + 1)) % 2=0 by omega];rfl
noncomputable def fK (l:List Nat):Nat:=l.foldr (fun t x=>2 ^ t ^^^ x) 0
theorem iJ {l:List Nat} (h:l.Nodup) (i:Nat):(fK l).testBit i=decide (i ∈ l):=by
 induction l with
 | nil=>simp [fK]
 | cons t l ih =>
  obtain ⟨h1,h2⟩:=List.nodup_cons.mp h;show (2 ^ t ^^^ fK l).testBit i=_;rw [Nat.testBit_xor,ih h2,Nat.testBit_two_pow];by_cases e:t=i
  ·subst e;simp [h1]
  ·have:¬ i=t:=fun z=>e z.symm
   simp [e,this]
theorem qD:∀ a b:Nat,a + b=(a ^^^ b) + 2 * (a &&& b):=by
 intro a
 induction a using Nat.strongRecOn with
 | ind a ih =>
  intro b;by_cases h:a=0
  ·subst h;simp
  ·have e:=ih (a / 2) oM (b / 2)
   have x1:(a ^^^ b) / 2=a / 2 ^^^ b / 2:=Nat.xor_div_two;have x2:(a &&& b) / 2=a / 2 &&& b / 2:=Nat.and_div_two;have m1:(a ^^^ b) % 2=(a + b) % 2:=by
    have:=Nat.xor_mod_two_pow (a:=a) (b:=b) (n:=1)
    simp only [Nat.pow_one] at this;rw [this];rcases Nat.mod_two_eq_zero_or_one a with h1 | h1 <;> rcases Nat.mod_two_eq_zero_or_one b with h2 | h2 <;> rw [h1,h2,Nat.add_mod,h1,h2] <;> rfl
   have m2:(a &&& b) % 2=(a % 2) * (b % 2):=by
    have:=Nat.and_mod_two_pow (a:=a) (b:=b) (n:=1)
    simp only [Nat.pow_one] at this;rw [this];rcases Nat.mod_two_eq_zero_or_one a with h1 | h1 <;> rcases Nat.mod_two_eq_zero_or_one b with h2 | h2 <;> rw [h1,h2] <;> rfl
   rcases Nat.mod_two_eq_zero_or_one a with h1 | h1 <;> rcases Nat.mod_two_eq_zero_or_one b with h2 | h2 <;> rw [h1,h2] at m2 <;> omega
theorem qZ:∀ {l:List Nat},l.Nodup->∀ i,((l.map fun t=>2 ^ t).sum).testBit i=decide (i ∈ l):=by
 intro l hn;have:(l.map fun t=>2 ^ t).sum=fK l:=by
  induction l with
  | nil=>rfl
  | cons t l ih =>
   obtain ⟨h1,h2⟩:=List.nodup_cons.mp hn;rw [zN,List.sum_cons,ih h2,qD];have:2 ^ t &&& fK l=0:=by
    rw [Nat.and_comm];have e:(fK l).testBit t=false:=by rw [iJ h2];simp [h1]
    apply Nat.eq_of_testBit_eq;intro j;rw [Nat.testBit_and,Nat.testBit_two_pow,Nat.zero_testBit];by_cases hj:t=j
    ·subst hj;rw [e];rfl
    ·simp [hj]
   rw [this];rfl
 intro i;rw [this,iJ hn]
end RK
namespace RK
open PySem PySem.W PyProof.Rows
theorem cX {α β:Type}{lt:Nat->Nat->Option Bool}{f:α->KasT β}:∀ t:KasT α,b7 lt (t.bind f)=(b7 lt t).bind fun a=>b7 lt (f a)
 | .ret _=>rfl
 | .ask i j k=>by
  show ((lt i j).bind fun b=>b7 lt ((k b).bind f))=((lt i j).bind fun b=>b7 lt (k b)).bind fun a=>b7 lt (f a)
  cases lt i j with
  | none=>rfl
  | some b=>exact cX (k b)
def Pm (n:Nat) (p:Array Nat):Prop:=p.toList.Perm (List.range n)
section
variable {n:Nat}{p:Array Nat}
theorem Pm.size (h:Pm n p):p.size=n:=by simpa using h.length_eq
theorem Pm.lt (h:Pm n p) {a:Nat} (ha:a < n):p.getD a 0 < n:=by
 have hs:=h.size;have e:p.getD a 0=p[a]'(by omega):=by simp [Array.getD,show a < p.size by omega]
 have hm:p[a]'(by omega) ∈ p.toList:=by simp
 have:=h.mem_iff.mp hm
 rw [e];simpa using this
theorem Pm.rev (h:Pm n p) (i j:Nat):Pm n (kas_rev p i j):=(Array.perm_iff_toList_perm.mp (mirror_perm p i j ((j - i) / 2))).trans h
theorem Pm.bub (h:Pm n p) (i j:Nat):Pm n (bubble p i j):=(Array.perm_iff_toList_perm.mp (bubble_perm p i j)).trans h
end
end RK
namespace RK
open PySem PySem.W
section
variable {n:Nat}{lt:Nat->Nat->Option Bool}{lb:Nat->Nat->Bool} (hlt:∀ i j,i < n->j < n->lt i j=some (lb i j))
include hlt
theorem jL {p:Array Nat} (h:Pm n p) {a b:Nat} (ha:a < n) (hb:b < n):lt (p.getD a 0) (p.getD b 0)=some (lb (p.getD a 0) (p.getD b 0)):=hlt _ _ (h.lt ha) (h.lt hb)
theorem ul {p:Array Nat} (h:Pm n p):∀ f m,1 <= m->m + f=n->∃ m',b7 (lt) (kas_asc p f m)=some m'/\1 <= m'/\m' <= n:=by
 intro f
 induction f with
 | zero=>exact fun m h1 h2=>⟨m,rfl,h1,by omega⟩
 | succ f ih =>
  intro m h1 h2;simp only [kas_asc,b7,jL hlt h (show m < n by omega) (show m - 1 < n by omega),bind_some];split
  ·exact ⟨m,rfl,h1,by omega⟩
  ·exact ih (m + 1) oM oM
theorem Ag:∀ f (p:Array Nat) m q,Pm n p->1 <= m->m + f=n->∃ r,b7 (lt) (kas_desc f p m q)=some r/\Pm n r.1/\1 <= r.2.1/\r.2.1 <= n:=by
 intro f
 induction f with
 | zero=>exact fun p m q h h1 h2=>⟨_,rfl,h,h1,by dsimp only;omega⟩
 | succ f ih =>
  intro p m q h h1 h2;simp only [kas_desc,b7,jL hlt h (show m < n by omega) (show m - 1 < n by omega),bind_some];split
  ·split
   ·exact ih _ (m + 1) 0 (h.rev _ _) oM oM
   ·exact ih p (m + 1) 0 h oM oM
  ·simp only [b7,jL hlt h (show m - 1 < n by omega) (show m < n by omega),bind_some]
   split
   ·exact ⟨_,rfl,h,h1,by dsimp only;omega⟩
   ·exact ih p (m + 1) (q + 1) h oM oM
theorem oY {p:Array Nat} (h:Pm n p) {d:Nat} (h1:1 <= d) (h2:d <= n):∃ r,b7 (lt) (kas_tail3 d n p)=some r/\1 <= r.1/\r.1 <= n/\Pm n r.2:=by
 unfold kas_tail3;rw [cX];obtain ⟨m,e,g1,g2⟩:=ul hlt (h.rev 0 d) (n - d) d h1 oM;rw [e];exact ⟨_,rfl,g1,g2,h.rev 0 d⟩
theorem pN {p:Array Nat} (h:Pm n p) {m:Nat} (h1:1 <= m) (h2:m < n):∃ r,b7 (lt) (kas_descPart m n p)=some r/\1 <= r.1/\r.1 <= n/\Pm n r.2:=by
 unfold kas_descPart;rw [cX];obtain ⟨r,e,g1,g2,g3⟩:=Ag hlt (n - (m + 1)) p (m + 1) 0 h oM oM;rw [e];simp only [bind_some];split
 ·exact oY hlt (g1.rev _ _) g2 g3
 ·exact oY hlt g1 g2 g3
theorem wd {p:Array Nat} (h:Pm n p) (h2:2 <= n):∃ r,b7 (lt) (kas_count n p)=some r/\1 <= r.1/\r.1 <= n/\Pm n r.2:=by
 unfold kas_count;rw [cX];obtain ⟨m,e,g1,g2⟩:=ul hlt h (n - 1) 1 oM oM;rw [e];simp only [bind_some];by_cases hm:m=n
 ·rw [yE (by simp [hm])]
  exact ⟨_,rfl,g1,g2,h⟩
 ·rw [yD (by simpa using hm)]
  split
  ·simp only [b7,jL hlt h (show 0 < n by omega) (show m - 1 < n by omega),bind_some]
   split
   ·exact ⟨_,rfl,g1,g2,h⟩
   ·exact pN hlt (h.rev _ _) g1 oM
  ·exact pN hlt h g1 oM
theorem vd {p:Array Nat} (h:Pm n p) {k:Nat} (hkn:k < n):∀ f l r,r <= k->∃ l',b7 (lt) (kas_place p k f l r)=some l':=by
 intro f
 induction f with
 | zero=>exact fun l r _=>⟨l,rfl⟩
 | succ f ih =>
  intro l r h2;unfold kas_place;by_cases hlr:l ≥ r
  ·rw [yE hlr];exact ⟨l,rfl⟩
  ·rw [yD hlr]
   have hm:(l + r) / 2 < r:=by omega
   generalize (l + r) / 2=mid at hm;simp only [b7,jL hlt h hkn (show mid < n by omega),bind_some];split
   ·exact ih l mid oM
   ·exact ih (mid + 1) r h2
theorem Cn:∀ f (p:Array Nat) k,Pm n p->k + f=n->∃ q,b7 (lt) (kas_bin f p k)=some q/\Pm n q:=by
 intro f
 induction f with
 | zero=>exact fun p k h _=>⟨p,rfl,h⟩
 | succ f ih =>
  intro p k h h2;unfold kas_bin;rw [cX];obtain ⟨l,e⟩:=vd hlt h (show k < n by omega) k 0 k (zO _);rw [e];exact ih _ (k + 1) (h.bub _ _) oM
theorem rg (h64:n < 64):∃ q,sortBy (lt) n=some q/\q.Perm (List.range n):=by
 unfold sortBy;by_cases h2:n < 2
 ·rw [yE h2];exact ⟨_,rfl,List.Perm.refl _⟩
 ·rw [yD h2,yE h64]
  have hr:Pm n (List.toArray (List.range n)):=List.Perm.refl _;obtain ⟨r,e,g1,g2,g3⟩:=wd hlt hr oM;have:∃ q,b7 (lt) (kas_sort n)=some q/\Pm n q:=by
   unfold kas_sort;rw [cX,e];simp only [bind_some];split
   ·rw [show max r.1 1=r.1 by omega];exact Cn hlt _ _ _ g3 oM
   ·exact ⟨_,rfl,g3⟩
  obtain ⟨q,e2,g⟩:=this;rw [e2];exact ⟨q.toList,rfl,g⟩
end
end RK
namespace LW
open PySem L2 R
def cI (i:Nat):Stmt:=PySem.Challenge.pw_telltight_k47_known_looked_at.main.body.getD i (.Pass ⟨0,0,0,0⟩)
def dt:FU:=(.cons (.iff (.cmp .Lt (.v 1) (.bi .len (.cons (.v 0) .nil)))
 (.cons (.rt (.ix (.v 0) (.v 1)))
 .nil)
 .nil)
 (.cons (.rt (.i 0))
 .nil))
def fI:FE:=⟨.f "_law_cell_at" 2,"_law_cell_at",cI 13,["_law_script","_law_k"],[],3,[],dt⟩
def eW:FU:=(.cons (.as (.nw true (.li .nil)) (.nm 3))
 (.cons (.as (.v 0) (.nm 4))
 (.cons (.fo (.r1 (.v 1)) (.nm 5)
 (.cons (.iff (.an (.cmp .GtE (.bi .abs (.cons (.v 0) .nil)) (.bin .Pow (.i 10) (.i 18))) (.an (.cmp .NotEq (.v 4) (.i 0)) (.cmp .NotEq (.v 4) (.un .USub (.i 1)))))
 (.cons (.ex (.mt .app (.v 3) (.cons (.bin .Mod (.v 4) (.v 2)) .nil)))
 (.cons (.as (.bin .FloorDiv (.v 4) (.v 2)) (.nm 4))
 .nil))
 (.cons (.as (.bin .Mod (.bin .Add (.bin .Mult (.bin .Add (.v 0) (.i 1009)) (.i 69621)) (.bin .Mult (.i 7919) (.v 5))) (.i 2147483629)) (.nm 6))
 (.cons (.as (.bin .Mod (.bin .Add (.bin .Add (.bin .Mult (.v 6) (.v 6)) (.bin .Mult (.i 17) (.v 5))) (.i 5)) (.i 2147483629)) (.nm 6))
 (.cons (.ex (.mt .app (.v 3) (.cons (.bin .Mod (.bin .FloorDiv (.bin .Mod (.bin .Mult (.v 6) (.v 6)) (.i 2147483587)) (.i 64)) (.v 2)) .nil)))
 .nil))))
 .nil))
 (.cons (.rt (.v 3))
 .nil))))
def gP:FE:=⟨.f "_law_draws" 3,"_law_draws",cI 14,["_law_cell","_law_many","_law_base","_law_found","_law_left","_law_k","_law_number"],[],3,[],eW⟩
def fy:FU:=(.cons (.rt (.nw false (.lc 1 (.r1 (.i 41)) (.nm 1) (.so (.cmp .Eq (.bin .Mod (.bin .FloorDiv (.v 0) (.bin .LShift (.i 1) (.v 1))) (.i 2)) (.i 1))) (.v 1))))
 .nil)
def iG:FE:=⟨.f "_law_bits" 1,"_law_bits",cI 15,["_law_mask_here"],[],3,[],fy⟩
def fv:FU:=(.cons (.as (.ca true 0 (.cons (.v 0) (.cons (.i 18) (.cons (.i 65536) .nil)))) (.nm 3))
 (.cons (.as (.bin .Mod (.ix (.v 3) (.i 0)) (.bin .Add (.v 2) (.i 1))) (.nm 4))
 (.cons (.as (.nw true (.li .nil)) (.nm 5))
 (.cons (.fo (.r1 (.v 1)) (.nm 6)
 (.cons (.as (.nw true (.li .nil)) (.nm 7))
 (.cons (.fo (.r1 (.bin .Mod (.ix (.v 3) (.bin .Add (.i 1) (.v 6))) (.i 4))) (.nm 8)
 (.cons (.as (.ix (.v 3) (.bin .Add (.bin .Add (.i 5) (.bin .Mult (.i 3) (.v 6))) (.v 8))) (.nm 9))
 (.cons (.as (.bin .Mod (.v 9) (.bin .LShift (.i 1) (.v 4))) (.nm 10))
 (.cons (.iff (.cmp .Gt (.v 4) (.i 16))
 (.cons (.as (.bin .Mod (.bin .Mult (.bin .Add (.bin .Mult (.bin .Mult (.v 9) (.v 9)) (.i 48271)) (.v 9)) (.bin .Add (.v 9) (.i 77))) (.bin .LShift (.i 1) (.v 4))) (.nm 10))
 .nil)
 .nil)
 (.cons (.ex (.mt .app (.v 7) (.cons (.ca true 1 (.cons (.v 10) .nil)) .nil)))
 .nil)))))
 (.cons (.ex (.mt .app (.v 5) (.cons (.v 7) .nil)))
 .nil))))
 (.cons (.rt (.tu (.cons (.v 4) (.cons (.v 5) .nil))))
 .nil)))))
def iD:FE:=⟨.f "_law_heap" 3,"_law_heap",cI 17,["_law_cell","_law_n","_law_most","_law_digits","_law_many","_law_views","_law_name","_law_row","_law_j","_law_digit","_law_mask_here"],[1,2],6,[],fv⟩
def fx:FU:=(.cons (.rt (.tu (.cons (.ix (.v 0) (.i 0)) (.cons (.nw false (.lc 1 (.e (.ix (.v 0) (.i 1))) (.nm 1) .no (.nw false (.lc 1 (.e (.v 1)) (.nm 2) .no (.nw false (.lof (.v 2))))))) .nil))))
 .nil)
def iF:FE:=⟨.f "_law_copy" 1,"_law_copy",cI 21,["_law_heap_here"],[],3,[],fx⟩
def dQ:FU:=(.cons (.as (.nw false (.li .nil)) (.nm 2))
 (.cons (.fo (.r1 (.bi .len (.cons (.ix (.v 0) (.i 1)) .nil))) (.nm 3)
 (.cons (.iff (.cmp .Eq (.bin .Mod (.bin .FloorDiv (.v 1) (.bin .LShift (.i 1) (.v 3))) (.i 2)) (.i 1))
 (.cons (.as (.nw false (.cat (.v 2) (.nw false (.lc 1 (.r1 (.bi .len (.cons (.ix (.ix (.v 0) (.i 1)) (.v 3)) .nil))) (.nm 4) .no (.tu (.cons (.v 3) (.cons (.v 4) .nil))))))) (.nm 2))
 .nil)
 .nil)
 .nil))
 (.cons (.rt (.v 2))
 .nil)))
def gp:FE:=⟨.f "_law_places" 2,"_law_places",cI 24,["_law_heap_here","_law_g","_law_found","_law_name"],[],3,[],dQ⟩
def iM:FU:=(.cons (.rt (.bi .sum (.cons (.nw false (.lc 1 (.e (.v 0)) (.nm 1) .no (.bin .LShift (.i 1) (.v 1)))) .nil)))
 .nil)
def iC:FE:=⟨.f "_law_mask" 1,"_law_mask",cI 16,["_law_view"],[],3,[],iM⟩
def fZ:FU:=(.cons (.as (.i 0) (.nm 2))
 (.cons (.fo (.e (.v 1)) (.tu 2 (.cons (.nm 3) (.cons (.nm 4) .nil)))
 (.cons (.as (.bin .BitXor (.v 2) (.ca true 0 (.cons (.ix (.ix (.ix (.v 0) (.i 1)) (.v 3)) (.v 4)) .nil))) (.nm 2))
 .nil))
 (.cons (.rt (.v 2))
 .nil)))
def jC:FE:=⟨.f "_law_sum" 2,"_law_sum",cI 25,["_law_heap_here","_law_places_here","_law_total","_law_name","_law_number"],[6],6,[],fZ⟩
def eV:FU:=(.cons (.as (.nw false (.li .nil)) (.nm 2))
 (.cons (.fo (.r1 (.bi .len (.cons (.ix (.v 0) (.i 1)) .nil))) (.nm 3)
 (.cons (.iff (.cmp .Eq (.bin .Mod (.bin .FloorDiv (.v 1) (.bin .LShift (.i 1) (.v 3))) (.i 2)) (.i 1))
 (.cons (.as (.nw false (.cat (.v 2) (.nw false (.lc 1 (.e (.ix (.ix (.v 0) (.i 1)) (.v 3))) (.nm 4) .no (.ca true 0 (.cons (.v 4) .nil)))))) (.nm 2))
 .nil)
 .nil)
 .nil))
 (.cons (.rt (.v 2))
 .nil)))
def gO:FE:=⟨.f "_law_masks" 2,"_law_masks",cI 18,["_law_heap_here","_law_g","_law_found","_law_name"],[6],6,[],eV⟩
def f7:FU:=(.cons (.rt (.cmp .Eq (.bin .Mod (.bi .len (.cons (.ca true 0 (.cons (.v 0) .nil)) .nil)) (.i 2)) (.i 1)))
 .nil)
def jD:FE:=⟨.f "_law_odd" 1,"_law_odd",cI 23,["_law_mask_here"],[2],6,[],f7⟩
def dP:FU:=(.cons (.as (.bin .Mod (.ix (.ca true 0 (.cons (.v 2) (.cons (.i 1) (.cons (.i 65536) .nil)))) (.i 0)) (.bin .LShift (.i 1) (.v 1))) (.nm 3))
 (.cons (.fo (.r1 (.i 2)) (.nm 4)
 (.cons (.fo (.e (.v 0)) (.nm 5)
 (.cons (.iff (.va (.ca true 1 (.cons (.bin .BitAnd (.v 5) (.v 3)) .nil)))
 (.cons (.as (.ca true 2 (.cons (.v 5) .nil)) (.nm 6))
 (.cons (.as (.bin .BitXor (.v 3) (.bin .LShift (.i 1) (.ix (.v 6) (.bin .Mod (.bin .Add (.v 4) (.v 2)) (.bi .len (.cons (.v 6) .nil)))))) (.nm 3))
 .nil))
 .nil)
 .nil))
 .nil))
 (.cons (.rt (.ca true 2 (.cons (.v 3) .nil)))
 .nil)))
def gn:FE:=⟨.f "_law_turned" 3,"_law_turned",cI 26,["_law_masks_here","_law_many","_law_cell","_law_mask_here","_law_time","_law_one","_law_bits_here"],[1,9,2],9,[],dP⟩
def fA:FU:=(.cons (.as (.v 0) (.tu 2 (.cons (.nm 4) (.cons (.nm 5) .nil))))
 (.cons (.as (.bin .Mod (.v 1) (.i 14)) (.nm 6))
 (.cons (.as (.bin .Mod (.bin .FloorDiv (.v 1) (.i 14)) (.bi .max (.cons (.i 1) (.cons (.bi .len (.cons (.v 5) .nil)) .nil)))) (.nm 7))
 (.cons (.as (.bin .Mod (.bin .FloorDiv (.v 1) (.i 70)) (.i 5)) (.nm 8))
 (.cons (.iff (.cmp .Eq (.v 6) (.i 1))
 (.cons (.rt (.tu (.cons (.v 4) (.cons (.nw false (.cat (.nw false (.sl (.v 5) .no (.so (.v 7)))) (.nw false (.sl (.v 5) (.so (.bin .Add (.v 7) (.i 1))) .no)))) .nil))))
 .nil)
 .nil)
 (.cons (.iff (.cmp .Eq (.v 6) (.i 2))
 (.cons (.rt (.tu (.cons (.v 4) (.cons (.nw false (.cat (.nw false (.cat (.nw false (.sl (.v 5) .no (.so (.v 7)))) (.nw false (.sl (.v 5) (.so (.v 7)) (.so (.bin .Add (.v 7) (.i 1))))))) (.nw false (.sl (.v 5) (.so (.v 7)) .no)))) .nil))))
 .nil)
 .nil)
 (.cons (.iff (.cmp .Eq (.v 6) (.i 3))
 (.cons (.rt (.tu (.cons (.v 4) (.cons (.nw false (.rev (.v 5) (.un .USub (.i 1)))) .nil))))
 .nil)
 .nil)
 (.cons (.iff (.cmp .Eq (.v 6) (.i 4))
 (.cons (.rt (.tu (.cons (.ix (.nw false (.li (.cons (.s "open") (.cons (.s "known") .nil)))) (.bi .int (.cons (.cmp .Eq (.v 4) (.s "open")) .nil))) (.cons (.v 5) .nil))))
 .nil)
 .nil)
 (.cons (.iff (.cmp .Eq (.v 6) (.i 5))
 (.cons (.rt (.tu (.cons (.ix (.nw false (.li (.cons (.s "") (.cons (.s "Known") (.cons (.s "opened") (.cons (.s "o") .nil)))))) (.bin .Mod (.v 8) (.i 4))) (.cons (.v 5) .nil))))
 .nil)
 .nil)
 (.cons (.iff (.cmp .Eq (.v 4) (.s "known"))
 (.cons (.as (.ix (.nw false (.li (.cons (.tu (.cons (.v 8) (.cons (.i 0) .nil))) (.cons (.tu (.cons (.i 0) (.cons (.bin .Add (.i 3) (.v 8)) .nil))) (.cons (.tu (.cons (.i 0) (.cons (.un .USub (.i 1)) .nil))) (.cons (.tu (.cons (.un .USub (.i 1)) (.cons (.i 0) .nil))) (.cons (.tu (.cons (.v 2) (.cons (.i 0) .nil))) (.cons (.tu (.cons (.i 0) (.cons (.v 8) .nil))) (.cons (.tu (.cons (.i 1) (.cons (.v 8) .nil))) (.cons (.tu (.cons (.i 2) (.cons (.v 8) .nil))) .nil)))))))))) (.bin .Mod (.bin .FloorDiv (.v 1) (.i 350)) (.i 8))) (.nm 9))
 .nil)
 (.cons (.as (.ix (.nw false (.li (.cons (.v 8) (.cons (.v 3) (.cons (.bin .Sub (.un .USub (.i 1)) (.v 8)) (.cons (.bin .Add (.v 3) (.v 8)) (.cons (.bin .Pow (.i 10) (.i 30)) (.cons (.bin .Mult (.v 8) (.i 2)) (.cons (.bin .Mult (.v 8) (.i 3)) (.cons (.i 0) .nil)))))))))) (.bin .Mod (.bin .FloorDiv (.v 1) (.i 350)) (.i 8))) (.nm 9))
 .nil))
 (.cons (.iff (.cmp .Lt (.v 6) (.i 10))
 (.cons (.rt (.tu (.cons (.v 4) (.cons (.nw false (.srt (.nw false (.cat (.v 5) (.nw false (.li (.cons (.v 9) .nil))))))) .nil))))
 .nil)
 .nil)
 (.cons (.rt (.v 0))
 .nil))))))))))))
def iH:FE:=⟨.f "_law_bent" 4,"_law_bent",cI 27,["_law_given","_law_cell","_law_n","_law_many","_law_word","_law_row","_law_way","_law_at","_law_one","_law_more"],[],3,[],fA⟩
def fu:FU:=(.cons (.rt (.bi .all (.cons (.nw false (.lc 2 (.zi (.v 0) (.nw false (.sl (.v 0) (.so (.i 1)) .no))) (.tu 2 (.cons (.nm 1) (.cons (.nm 2) .nil))) .no (.cmp .Lt (.v 1) (.v 2)))) .nil)))
 .nil)
def iB:FE:=⟨.f "is_rising" 1,"is_rising",cI 5,["things"],[],3,[],fu⟩
def dY:FU:=(.cons (.iff (.or (.no (.va (.is "tuple" (.v 2)))) (.cmp .NotEq (.bi .len (.cons (.v 2) .nil)) (.i 2)))
 (.cons (.rt (.b false))
 .nil)
 .nil)
 (.cons (.as (.ix (.v 2) (.i 0)) (.nm 3))
 (.cons (.iff (.or (.cmp .Lt (.v 3) (.i 0)) (.or (.cmp .GtE (.v 3) (.bi .len (.cons (.ix (.v 0) (.i 1)) .nil))) (.cmp .Eq (.bin .BitAnd (.v 1) (.bin .LShift (.i 1) (.v 3))) (.i 0))))
 (.cons (.rt (.b false))
 .nil)
 .nil)
 (.cons (.rt (.an (.cmp .GtE (.ix (.v 2) (.i 1)) (.i 0)) (.cmp .Lt (.ix (.v 2) (.i 1)) (.bi .len (.cons (.ix (.ix (.v 0) (.i 1)) (.v 3)) .nil)))))
 .nil))))
def jB:FE:=⟨.f "is_place" 3,"is_place",cI 6,["heap","g","place","name"],[],3,[],dY⟩
def kL:FU:=(.cons (.rt (.bi .sum (.cons (.nw false (.lc 1 (.e (.v 0)) (.nm 1) .no (.bin .LShift (.i 1) (.v 1)))) .nil)))
 .nil)
def kC:FE:=⟨.f "mask_of" 1,"mask_of",cI 4,["view"],[],3,[],kL⟩
def cJ:FU:=(.cons (.iff (.or (.no (.va (.bi .all (.cons (.nw false (.lc 1 (.e (.v 3)) (.nm 7) .no (.ca true 1 (.cons (.v 0) (.cons (.v 1) (.cons (.v 7) .nil)))))) .nil)))) (.no (.va (.ca true 0 (.cons (.v 3) .nil)))))
 (.cons (.rt (.b false))
 .nil)
 .nil)
 (.cons (.as (.i 0) (.nm 4))
 (.cons (.fo (.e (.v 3)) (.tu 2 (.cons (.nm 5) (.cons (.nm 6) .nil)))
 (.cons (.as (.bin .BitXor (.v 4) (.ca true 2 (.cons (.ix (.ix (.ix (.v 0) (.i 1)) (.v 5)) (.v 6)) .nil))) (.nm 4))
 .nil))
 (.cons (.rt (.cmp .Eq (.v 4) (.ca true 2 (.cons (.v 2) .nil))))
 .nil))))
def fe:FE:=⟨.f "places_settle" 4,"places_settle",cI 7,["heap","g","view","places","together","name","number"],[12,13,14],6,[],cJ⟩
def fi:FU:=(.cons (.rt (.an (.is "int" (.v 1)) (.an (.cmp .GtE (.v 1) (.i 0)) (.cmp .Lt (.v 1) (.ix (.v 0) (.i 0))))))
 .nil)
def kD:FE:=⟨.f "is_coin" 2,"is_coin",cI 8,["heap","coin"],[],3,[],fi⟩
def fX:FU:=(.cons (.rt (.nw true (.lc 1 (.r1 (.v 0)) (.nm 2) (.so (.cmp .NotEq (.bin .BitAnd (.v 1) (.bin .LShift (.i 1) (.v 2))) (.i 0))) (.v 2))))
 .nil)
def jA:FE:=⟨.f "names_in" 2,"names_in",cI 1,["n","group"],[],3,[],fX⟩
def fW:FU:=(.cons (.as (.nw true (.li .nil)) (.nm 2))
 (.cons (.fo (.e (.ca false 0 (.cons (.bi .len (.cons (.ix (.v 0) (.i 1)) .nil)) (.cons (.v 1) .nil)))) (.nm 3)
 (.cons (.ex (.mt .ext (.v 2) (.cons (.ix (.ix (.v 0) (.i 1)) (.v 3)) .nil)))
 .nil))
 (.cons (.rt (.v 2))
 .nil)))
def jz:FE:=⟨.f "views_of" 2,"views_of",cI 3,["heap","g","found","name"],[17],6,[],fW⟩
def ft:FU:=(.cons (.rt (.cmp .Eq (.bin .Mod (.bi .len (.cons (.nw false (.lc 1 (.e (.v 0)) (.nm 2) (.so (.cmp .In (.v 2) (.v 1))) (.v 2))) .nil)) (.i 2)) (.i 1)))
 .nil)
def iA:FE:=⟨.f "is_turned" 2,"is_turned",cI 9,["view","coins"],[],3,[],ft⟩
def cE:FU:=(.cons (.iff (.or (.no (.va (.bi .all (.cons (.nw false (.lc 1 (.e (.v 3)) (.nm 4) .no (.ca true 1 (.cons (.v 0) (.cons (.v 4) .nil))))) .nil)))) (.no (.va (.ca true 0 (.cons (.v 3) .nil)))))
 (.cons (.rt (.b false))
 .nil)
 .nil)
 (.cons (.rt (.an (.ca true 3 (.cons (.v 2) (.cons (.v 3) .nil))) (.no (.bi .any (.cons (.nw false (.lc 1 (.e (.ca true 2 (.cons (.v 0) (.cons (.v 1) .nil)))) (.nm 4) .no (.ca true 3 (.cons (.v 4) (.cons (.v 3) .nil))))) .nil)))))
 .nil))
def eN:FE:=⟨.f "coins_unsettle" 4,"coins_unsettle",cI 10,["heap","g","view","coins"],[12,16,18,19],9,[],cE⟩
def dO:FU:=(.cons (.iff (.cmp .Eq (.ix (.v 3) (.i 0)) (.s "known"))
 (.cons (.rt (.ca true 0 (.cons (.v 0) (.cons (.v 1) (.cons (.v 2) (.cons (.ix (.v 3) (.i 1)) .nil))))))
 .nil)
 .nil)
 (.cons (.rt (.an (.cmp .Eq (.ix (.v 3) (.i 0)) (.s "open")) (.ca true 1 (.cons (.v 0) (.cons (.v 1) (.cons (.v 2) (.cons (.ix (.v 3) (.i 1)) .nil)))))))
 .nil))
def gk:FE:=⟨.f "known_holds" 4,"known_holds",cI 11,["heap","g","view","answer"],[15,20],12,[],dO⟩
def f8:FU:=(.cons (.as (.v 3) (.tu 2 (.cons (.nm 4) (.cons (.nm 5) .nil))))
 (.cons (.iff (.or (.cmp .NotIn (.v 4) (.tu (.cons (.s "known") (.cons (.s "open") .nil)))) (.cmp .NotEq (.nw false (.lc 1 (.r2 (.i 1) (.bi .len (.cons (.v 5) .nil))) (.nm 9) (.so (.no (.cmp .Lt (.ix (.v 5) (.bin .Sub (.v 9) (.i 1))) (.ix (.v 5) (.v 9))))) (.v 9))) (.nw false (.li .nil))))
 (.cons (.rt (.b false))
 .nil)
 .nil)
 (.cons (.iff (.cmp .Eq (.v 4) (.s "known"))
 (.cons (.as (.ca true 0 (.cons (.v 0) (.cons (.v 1) .nil))) (.nm 6))
 (.cons (.iff (.cmp .NotEq (.nw false (.lc 1 (.e (.v 5)) (.nm 9) (.so (.cmp .NotIn (.v 9) (.v 6))) (.v 9))) (.nw false (.li .nil)))
 (.cons (.rt (.b false))
 .nil)
 .nil)
 (.cons (.rt (.cmp .Eq (.ca true 1 (.cons (.v 0) (.cons (.v 5) .nil))) (.ca true 2 (.cons (.v 2) .nil))))
 .nil)))
 .nil)
 (.cons (.iff (.cmp .NotEq (.nw false (.lc 1 (.e (.v 5)) (.nm 9) (.so (.or (.va (.is "tuple" (.v 9))) (.no (.ch .LtE .Lt (.i 0) (.v 9) (.ix (.v 0) (.i 0)))))) (.v 9))) (.nw false (.li .nil)))
 (.cons (.rt (.b false))
 .nil)
 .nil)
 (.cons (.as (.ca true 2 (.cons (.v 5) .nil)) (.nm 7))
 (.cons (.fo (.e (.ca true 3 (.cons (.v 0) (.cons (.v 1) .nil)))) (.nm 8)
 (.cons (.iff (.va (.ca true 4 (.cons (.bin .BitAnd (.v 8) (.v 7)) .nil)))
 (.cons (.rt (.b false))
 .nil)
 .nil)
 .nil))
 (.cons (.rt (.ca true 4 (.cons (.bin .BitAnd (.ca true 2 (.cons (.v 2) .nil)) (.v 7)) .nil)))
 .nil)))))))
def jE:FE:=⟨.f "_law_due" 4,"_law_due",cI 28,["_law_heap_here","_law_g","_law_view","_law_given","_law_word","_law_row","_law_places_here","_law_flipped","_law_mask_here"],[5,7,6,8,9],9,[],f8⟩
def oJ:FU:=(.cons (.fo (.r3 (.i 0) (.bi .max (.cons (.i 3) (.cons (.bi .min (.cons (.i 42) (.cons (.bin .Sub (.bi .len (.cons (.v 0) .nil)) (.i 2)) .nil))) .nil))) (.i 3)) (.nm 1)
 (.cons (.as (.ca true 0 (.cons (.v 0) (.cons (.v 1) .nil))) (.nm 2))
 (.cons (.as (.bin .Add (.i 1) (.bin .Mod (.v 2) (.i 4))) (.nm 3))
 (.cons (.as (.ca true 1 (.cons (.bin .FloorDiv (.v 2) (.i 4)) (.cons (.v 3) (.cons (.i 12) .nil)))) (.nm 4))
 (.cons (.as (.ca true 2 (.cons (.v 4) .nil)) (.nm 5))
 (.cons (.as (.ca true 0 (.cons (.v 0) (.cons (.bin .Add (.v 1) (.i 1)) .nil))) (.nm 6))
 (.cons (.as (.bin .Add (.i 1) (.bin .Mod (.v 6) (.bin .Sub (.bin .LShift (.i 1) (.v 3)) (.i 1)))) (.nm 7))
 (.cons (.as (.ca true 3 (.cons (.bin .FloorDiv (.v 6) (.i 16)) (.cons (.i 16) (.cons (.i 65536) .nil)))) (.nm 8))
 (.cons (.as (.nw false (.lc 2 (.zi (.ca true 4 (.cons (.v 5) (.cons (.v 7) .nil))) (.v 8)) (.tu 2 (.cons (.nm 17) (.cons (.nm 18) .nil))) (.so (.cmp .Eq (.bin .Mod (.v 18) (.i 2)) (.i 1))) (.v 17))) (.nm 9))
 (.cons (.as (.ca true 6 (.cons (.ca true 5 (.cons (.v 5) (.cons (.v 9) .nil))) .nil)) (.nm 10))
 (.cons (.iff (.cmp .Eq (.bin .Mod (.ix (.v 8) (.i 13)) (.i 3)) (.i 0))
 (.cons (.as (.ca true 6 (.cons (.bin .Mod (.ix (.v 8) (.i 14)) (.bin .LShift (.i 1) (.ix (.v 4) (.i 0)))) .nil)) (.nm 10))
 .nil)
 .nil)
 (.cons (.as (.ca true 8 (.cons (.ca true 7 (.cons (.v 5) (.cons (.v 7) .nil))) (.cons (.ix (.v 4) (.i 0)) (.cons (.bin .FloorDiv (.v 6) (.i 32)) .nil)))) (.nm 11))
 (.cons (.fo (.e (.nw false (.li (.cons (.tu (.cons (.s "known") (.cons (.v 9) .nil))) (.cons (.tu (.cons (.s "open") (.cons (.v 11) .nil))) .nil))))) (.nm 12)
 (.cons (.fo (.e (.ca true 3 (.cons (.ca true 0 (.cons (.v 0) (.cons (.bin .Add (.v 1) (.i 2)) .nil))) (.cons (.i 6) (.cons (.bin .Pow (.i 10) (.i 6)) .nil))))) (.nm 13)
 (.cons (.as (.ca true 9 (.cons (.v 12) (.cons (.v 13) (.cons (.v 3) (.cons (.ix (.v 4) (.i 0)) .nil))))) (.nm 14))
 (.cons (.as (.tu (.cons (.ix (.v 14) (.i 0)) (.cons (.nw false (.lof (.ix (.v 14) (.i 1)))) .nil))) (.nm 15))
 (.cons (.as (.ca true 10 (.cons (.v 4) (.cons (.v 7) (.cons (.v 10) (.cons (.v 15) .nil))))) (.nm 16))
 (.cons (.iff (.or (.no (.va (.is "bool" (.v 16)))) (.cmp .NotEq (.v 16) (.ca true 11 (.cons (.v 5) (.cons (.v 7) (.cons (.v 10) (.cons (.v 14) .nil)))))))
 (.cons (.rt (.b false))
 .nil)
 .nil)
 (.cons (.iff (.or (.cmp .NotEq (.v 15) (.v 14)) (.cmp .NotEq (.v 4) (.v 5)))
 (.cons (.rt (.b false))
 .nil)
 .nil)
 .nil))))))
 .nil))
 .nil)))))))))))))
 (.cons (.rt (.b true))
 .nil))
def e_law:FE:=⟨.f "law" 1,"law",cI 29,["_law_script","_law_k","_law_cell","_law_n","_law_heap_here","_law_kept","_law_more","_law_g","_law_digits","_law_places_here","_law_view","_law_flipped","_law_given","_law_way","_law_bent_here","_law_handed","_law_told"],[0,3,4,1,5,7,2,8,10,11,21,22],15,[],oJ⟩
noncomputable def gs:List (Str × AV):=[]
noncomputable def cl:List (Str × List Str):=[]
noncomputable def pre:List FE:=[fI,gP,iG,iD,iF,gp,iC,jC,gO,jD,gn,iH,iB,jB,kC,fe,kD,jA,jz,iA,eN,gk,jE]
theorem we:gQ gs cl [] pre=true:=by decide +kernel
theorem wf:e_law.chk gs cl pre=true:=by decide +kernel
instance:FQ:=⟨[]⟩
theorem xF {K:Frag}{h:Heap}{mg:Str->Option Value} (X:K.In h) (G:h.Ns mainGlobals mg) (FY:FactF K "_law_cell_at" fI) (F4:FactF K "_law_draws" gP) (Gc:FactF K "_law_bits" iG) (F6:FactF K "_law_heap" iD) (F9:FactF K "_law_copy" iF) (F2:FactF K "_law_places" gp) (Gb:FactF K "_law_mask" iC) (Gk:FactF K "_law_sum" jC) (F5:FactF K "_law_masks" gO) (Gi:FactF K "_law_odd" jD) (F3:FactF K "_law_turned" gn) (F7:FactF K "_law_bent" iH) (F8:FactF K "is_rising" iB) (Gh:FactF K "is_place" jB) (Gn:FactF K "mask_of" kC) (FX:FactF K "places_settle" fe) (Go:FactF K "is_coin" kD) (Gf:FactF K "names_in" jA) (Gg:FactF K "views_of" jz) (Ga:FactF K "is_turned" iA) (FW:FactF K "coins_unsettle" eN) (F0:FactF K "known_holds" gk) (Gj:FactF K "_law_due" jE):∀ base:Heap,K.In base->g5 mg base->∀ e ∈ pre,e.ok K mg base:=by
 intro base B hb e he;simp only [pre,zS,zW,or_false] at he;rcases he with rfl | rfl | rfl | rfl | rfl | rfl | rfl | rfl | rfl | rfl | rfl | rfl | rfl | rfl | rfl | rfl | rfl | rfl | rfl | rfl | rfl | rfl | rfl
 ·exact FactF.ok rfl FY X G B hb
 ·exact FactF.ok rfl F4 X G B hb
 ·exact FactF.ok rfl Gc X G B hb
 ·exact FactF.ok rfl F6 X G B hb
 ·exact FactF.ok rfl F9 X G B hb
 ·exact FactF.ok rfl F2 X G B hb
 ·exact FactF.ok rfl Gb X G B hb
 ·exact FactF.ok rfl Gk X G B hb
 ·exact FactF.ok rfl F5 X G B hb
 ·exact FactF.ok rfl Gi X G B hb
 ·exact FactF.ok rfl F3 X G B hb
 ·exact FactF.ok rfl F7 X G B hb
 ·exact FactF.ok rfl F8 X G B hb
 ·exact FactF.ok rfl Gh X G B hb
 ·exact FactF.ok rfl Gn X G B hb
 ·exact FactF.ok rfl FX X G B hb
 ·exact FactF.ok rfl Go X G B hb
 ·exact FactF.ok rfl Gf X G B hb
 ·exact FactF.ok rfl Gg X G B hb
 ·exact FactF.ok rfl Ga X G B hb
 ·exact FactF.ok rfl FW X G B hb
 ·exact FactF.ok rfl F0 X G B hb
 ·exact FactF.ok rfl Gj X G B hb
def aD:Fn:=run 2 (av [] dt)
def ag:Fn:=run 7 (av [] eW)
def ao:Fn:=run 1 (av [] fy)
def aL:Fn:=run 11 (av [ag,ao] fv)
def aS:Fn:=run 1 (av [] fx)
def af:Fn:=run 4 (av [] dQ)
def ar:Fn:=run 1 (av [] iM)
def au:Fn:=run 5 (av [ar] fZ)
def ai:Fn:=run 4 (av [ar] eV)
def aM:Fn:=run 1 (av [ao] f7)
def aF:Fn:=run 7 (av [ag,aM,ao] dP)
def aJ:Fn:=run 10 (av [] fA)
def aR:Fn:=run 1 (av [] fu)
def bH:Fn:=run 4 (av [] dY)
def bP:Fn:=run 1 (av [] kL)
def bh:Fn:=run 7 (av [aR,bH,bP] cJ)
def bJ:Fn:=run 2 (av [] fi)
def cc:Fn:=run 2 (av [] fX)
def bG:Fn:=run 4 (av [cc] fW)
def bF:Fn:=run 2 (av [] ft)
def bq:Fn:=run 4 (av [aR,bJ,bG,bF] cE)
def ay:Fn:=run 4 (av [bh,bq] dO)
def aB:Fn:=run 9 (av [af,au,ar,ai,aM] f8)
def jO:Fn:=run 17 (av [aD,aL,aS,ag,af,au,ao,ai,aF,aJ,ay,aB] oJ)
def Fs:List Fn:=[aD,ag,ao,aL,aS,af,ar,au,ai,aM,aF,aJ,aR,bH,bP,bh,bJ,cc,bG,bF,bq,ay,aB]
theorem aX {fs:List Fn}{e:FE}{r:List FE}{F:Fn} (h:e.fn fs=F):fc fs (e::r)=fc (fs++[F]) r:=by rw [<- h];rfl
theorem B6:fc [] pre=Fs:=(aX (F:=aD) rfl).trans <| (aX (F:=ag) rfl).trans <| (aX (F:=ao) rfl).trans <| (aX (F:=aL) rfl).trans <| (aX (F:=aS) rfl).trans <| (aX (F:=af) rfl).trans <| (aX (F:=ar) rfl).trans <| (aX (F:=au) rfl).trans <| (aX (F:=ai) rfl).trans <| (aX (F:=aM) rfl).trans <| (aX (F:=aF) rfl).trans <| (aX (F:=aJ) rfl).trans <| (aX (F:=aR) rfl).trans <| (aX (F:=bH) rfl).trans <| (aX (F:=bP) rfl).trans <| (aX (F:=bh) rfl).trans <| (aX (F:=bJ) rfl).trans <| (aX (F:=cc) rfl).trans <| (aX (F:=bG) rfl).trans <| (aX (F:=bF) rfl).trans <| (aX (F:=bq) rfl).trans <| (aX (F:=ay) rfl).trans <| (aX (F:=aB) rfl).trans <| rfl
theorem BR:e_law.fn (fc [] pre)=jO:=by rw [B6];rfl
def C8:Fn:=jO
end LW
namespace LW
open PySem PySem.Spec L2 R
section
variable {st:aa}
theorem DS {k:Nat} (hk:k <= 1000):jW 1 (k:Int)=true:=by
 unfold jW;have:Nat.ble (k:Int).natAbs 100000=true:=yH oM;rw [this];simp;decide
theorem dJ {k:Nat} (hk:k <= 1000):bn .LShift st (.int 1) (.int (k:Int))=some (.int ((2 ^ k:Nat):Int)):=by
 show (i6 .LShift 1 (k:Int)).map AV.int=_;simp only [i6,DS hk,_root_.if_true,map_some];congr 2;simp
theorem Cd {k:Nat} (hk:k <= 1000):eP ((2 ^ k:Nat):Int)=true:=by
 unfold eP;have h1:(((2 ^ k:Nat):Int) == 0)=false:=by
  have:=Nat.two_pow_pos k
  rw [beq_eq_false_iff_ne];omega
 have h2:Nat.ble (((2 ^ k:Nat):Int).natAbs.log2) 8999=true:=yH (by rw [Int.natAbs_natCast,Nat.log2_two_pow];omega);rw [h1,h2];rfl
theorem mi {m k:Nat} (hk:k <= 1000):bn .FloorDiv st (.int (m:Int)) (.int ((2 ^ k:Nat):Int))=some (.int ((m / 2 ^ k:Nat):Int)):=by
 rw [fY (Cd hk)]
 have:=Nat.two_pow_pos k
 rw [show nl (m:Int) ((2 ^ k:Nat):Int)=(m:Int) / ((2 ^ k:Nat):Int) from yE oM];rfl
theorem j1 {m:Nat}:bn .Mod st (.int (m:Int)) (.int 2)=some (.int ((m % 2:Nat):Int)):=by
 rw [de dC,show nk (m:Int) 2=(m:Int) % 2 from yE dC];rfl
theorem mh {m k:Nat}:decide (((m / 2 ^ k % 2:Nat):Int)=1)=m.testBit k:=by
 rw [Nat.testBit_eq_decide_div_mod_eq];apply decide_eq_decide.mpr;omega
noncomputable def bI (m:Nat):List Nat:=(List.range 41).filter fun i=>m.testBit i
theorem nA {g k:Nat}:(g &&& 2 ^ k=0) ↔ g.testBit k=false:=by
 have key:(g &&& 2 ^ k).testBit k=g.testBit k:=by rw [Nat.testBit_and,Nat.testBit_two_pow_self,Bool.and_true]
 constructor
 ·intro h;rw [<- key,h,Nat.zero_testBit]
 ·intro h
  apply Nat.eq_of_testBit_eq;intro i;rw [Nat.testBit_and,Nat.testBit_two_pow,Nat.zero_testBit];by_cases e:k=i
  ·subst e;rw [h];rfl
  ·simp [e]
theorem dM {α:Type}{ks:List Fn}{k:Nat}{it:Ix}{t:Tg}{c:Cx'}{e:Ex}{sl:Sl}{gd:Gd}{em:α->AV}{B:α->Bool}{F:α->AV}{xs:List α} (hi:bR ks it sl st=some (⟨xs.map em,gd⟩,st)) (hg:bQ gd st=true) (hz:xs.length <= 1000)
  (h:∀ x ∈ xs,∃ sl1,cA ks t (em x) (sl++List.replicate k none) st=some (sl1,st)/\nq ks c sl1 st=some (B x,st)/\(B x=true->ev ks e sl1 st=some (F x,st))):dR ks (.lc k it t c e) sl st=some ((xs.filter B).map F,st):=by
 rw [DW,hi,bind_some];dsimp only;rw [yE (g6 (by rw [zH];exact hz))];exact mX hg h
theorem dS {ks:List Fn}{a:Ex}{sl:Sl}{n:Nat} (h:ev ks a sl st=some (.int (n:Int),st)) (hn:n <= 1000):bR ks (.r1 a) sl st=some (⟨(List.range n).map fun q:Nat=>AV.int (q:Int),[]⟩,st):=by
 show (ev ks a sl st).bind _=_;rw [h,bind_some];dsimp only;have:en (n:Int)=true:=by
  unfold en;refine yH ?_;rw [Int.natAbs_natCast];by_cases hz:n=0
  ·subst hz;decide
  ·exact yQ ((Nat.log2_lt hz).mpr (Nat.lt_of_le_of_lt hn dC))
 rw [yE this,Int.toNat_natCast,A4];rfl
theorem gT {m:Nat}:pm ao [.int (m:Int)] st=some (.fz (nL (bI m)),st):=by
 refine a0 rfl (v:=.fz (nL (bI m))) (st':=[]) ?_ rfl;rw [ao,bv];show (av [] fy [some (.int (m:Int))] []).bind aA=_;refine aU ?_;rw [ci,ce,dM (dS (n:=41) rfl dC) rfl dC (B:=fun q=>m.testBit q) (F:=fun q=>AV.int (q:Int)) fun q hq=>⟨[some (.int (m:Int)),some (.int (q:Int))],rfl,by
   have hq:=List.mem_range.mp hq;simp only [fV,a8,aP,ax,aW,am,aq,bind_some,dJ (show q <= 1000 by omega),mi (show q <= 1000 by omega),j1,map_some,dN,mh],fun _=>rfl⟩]
 have hr:rfs (nL (bI m))=true:=cU;show (Option.bind (if rfs (nL (bI m))=true then some (AV.fz (nL (bI m)),([]:aa)) else none) _)=_;rw [yE hr];rfl
theorem vI {n g:Nat} (hn:n <= 100):cc [.int (n:Int),.int (g:Int)] st=some (.ref st.length,st++[.lst (nL ((List.range n).filter fun i=>g.testBit i))]):=by
 have ba:∀ k:Nat,bn .BitAnd st (.int (g:Int)) (.int ((2 ^ k:Nat):Int))=some (.int ((g &&& 2 ^ k:Nat):Int)):=fun k=>by
  show some (AV.int (Builtin.bitAnd (g:Int) ((2 ^ k:Nat):Int)))=_;rfl
 have te:∀ k:Nat,(!decide (((g &&& 2 ^ k:Nat):Int)=0))=g.testBit k:=fun k=>by
  have:(g &&& 2 ^ k=0) ↔ g.testBit k=false:=nA;cases h:g.testBit k
  ·rw [this.mpr h];rfl
  ·have:¬ g &&& 2 ^ k=0:=fun z=>by rw [this.mp z] at h;cases h
   rw [z4 oM];rfl
 rw [cc,bv];show (av [] fX [some (.int (n:Int)),some (.int (g:Int))] st).bind aA=_;refine aU ?_;rw [ci,Dr,dM (dS (n:=n) rfl oM) rfl (by rw [List.length_range];omega) (B:=fun q=>g.testBit q) (F:=fun q=>AV.int (q:Int)) fun q hq=>⟨[some (.int (n:Int)),some (.int (g:Int)),some (.int (q:Int))],rfl,by
   have hq:=List.mem_range.mp hq;simp only [fV,a8,aP,ax,aW,am,aq,bind_some,dJ (show q <= 1000 by omega),ba,map_some,Ao,te],fun _=>rfl⟩]
 rfl
noncomputable def S2 (l:List Nat):Nat:=(l.map fun c=>2 ^ c).sum
theorem wN {l:List Nat}:lw st [.fz (nL l)]=some (.int ((l.sum:Nat):Int)):=by
 show (lsI st (.fz (nL l))).map _=_;have:lsI st (.fz (nL l))=some (l.map fun q:Nat=>(q:Int)):=by unfold lsI;rw [cD,bind_some,vZ]
 rw [this];have:∀ l:List Nat,(l.map fun q:Nat=>(q:Int)).sum=((l.sum:Nat):Int):=fun l=>by
  induction l with
  | nil=>rfl
  | cons x l ih=>rw [zN,List.sum_cons,List.sum_cons,ih];omega
 simp only [map_some,this]
theorem p9 {l:List Nat} (hl:∀ c ∈ l,c <= 1000) (hz:l.length <= 1000):pm bP [.fz (nL l)] st=some (.int ((S2 l:Nat):Int),st)/\pm ar [.fz (nL l)] st=some (.int ((S2 l:Nat):Int),st):=by
 have go:ev ([]:List Fn) (.nw false (.lc 1 (.e (.v 0)) (.nm 1) .no (.bin .LShift (.i 1) (.v 1)))) [some (.fz (nL l))] []=some (.fz (nL (l.map fun c=>2 ^ c)),[]):=by
  have hi:bR ([]:List Fn) (.e (.v 0)) [some (.fz (nL l))] []=some (⟨l.map fun q:Nat=>AV.int (q:Int),[]⟩,[]):=rfl;rw [ce,dM hi rfl hz (B:=fun _=>true) (F:=fun q=>AV.int ((2 ^ q:Nat):Int)) fun q hq=>⟨[some (.fz (nL l)),some (.int (q:Int))],rfl,rfl,fun _=>by
   simp only [aP,ax,aW,am,aq,bind_some,dJ (hl q hq),map_some]⟩]
  rw [List.filter_eq_self.mpr fun _ _=>rfl];have:(l.map fun q=>AV.int ((2 ^ q:Nat):Int))=nL (l.map fun c=>2 ^ c):=by unfold nL;rw [List.map_map];rfl
  rw [this,bind_some];dsimp only;rw [yE cU]
 have rt:∀ sl:Sl,sl=[some (.fz (nL l))]->cq ([]:List Fn) (.rt (.bi .sum (.cons (.nw false (.lc 1 (.e (.v 0)) (.nm 1) .no (.bin .LShift (.i 1) (.v 1)))) .nil))) sl []=some (.rt (.int ((S2 l:Nat):Int)) []):=fun sl hs=>by
  subst hs;simp only [ci,bK,ad,aj,go,bind_some,At,bM,wN,map_some];rfl
 constructor
 ·refine a0 (by simp [rfs,rf,tT]) (v:=.int _) (st':=[]) ?_ rfl
  rw [bP,bv];exact aU (rt _ rfl)
 ·refine a0 (by simp [rfs,rf,tT]) (v:=.int _) (st':=[]) ?_ rfl
  rw [ar,bv];exact aU (rt _ rfl)
end
section
variable {ks:List Fn}{sl:Sl}{st:aa}{ss:FU}{P:AV × aa->Prop}
theorem br {s:Sx}{v:AV}{st':aa} (h:cq ks s sl st=some (.rt v st')) (hp:P (v,st')):∃ r,(av ks (.cons s ss) sl st).bind aA=some r/\P r:=⟨_,aU h,hp⟩
theorem gv {α:Type}{em:α->AV}{it:Ix}{t:Tg}{b:FU}{xs:List α}{gd:Gd}{st0:aa} (I:Nat->Sl->aa->Prop) (hi:bR ks it sl st=some (⟨xs.map em,gd⟩,st0)) (hg:∀ i sl st,I i sl st->bQ gd st=true) (h0:I 0 sl st0)
  (h:∀ i x sl st,xs[i]?=some x->I i sl st->∃ p sl2 st2,cA ks t (em x) sl st=some p/\av ks b p.1 p.2=some (.nx sl2 st2)/\I (i + 1) sl2 st2)
  (hr:∀ sl' st',I xs.length sl' st'->∃ r,(av ks ss sl' st').bind aA=some r/\P r):∃ r,(av ks (.cons (.fo it t b) ss) sl st).bind aA=some r/\P r:=by
 obtain ⟨sl',st',e,hI⟩:=ni (gd:=gd) (g:=cA ks t) (s:=av ks b) (I:=I) (xs:=xs.map em) (fun i sl st _ hI=>hg i sl st hI) (fun i y sl st hy hI=>by
  rw [zQ] at hy;obtain ⟨x,hx,rfl⟩:=zE.mp hy;exact h i x sl st hx hI) h0
 rw [zH] at hI;obtain ⟨r,e2,hp⟩:=hr sl' st' hI;exact ⟨r,bN (by rw [nV,hi,bind_some];exact e) e2,hp⟩
theorem kT {α:Type}{em:α->AV}{it:Ix}{t:Tg}{b:FU}{xs:List α}{gd:Gd}{st0:aa}{Q:Out->Prop} (I:Nat->Sl->aa->Prop) (hi:bR ks it sl st=some (⟨xs.map em,gd⟩,st0)) (hg:∀ i sl st,I i sl st->bQ gd st=true) (h0:I 0 sl st0)
  (h:∀ i x sl st,xs[i]?=some x->I i sl st->∃ p sl2 st2,cA ks t (em x) sl st=some p/\av ks b p.1 p.2=some (.nx sl2 st2)/\I (i + 1) sl2 st2)
  (hr:∀ sl' st',I xs.length sl' st'->∃ r,av ks ss sl' st'=some r/\Q r):∃ r,av ks (.cons (.fo it t b) ss) sl st=some r/\Q r:=by
 obtain ⟨sl',st',e,hI⟩:=ni (gd:=gd) (g:=cA ks t) (s:=av ks b) (I:=I) (xs:=xs.map em) (fun i sl st _ hI=>hg i sl st hI) (fun i y sl st hy hI=>by
  rw [zQ] at hy;obtain ⟨x,hx,rfl⟩:=zE.mp hy;exact h i x sl st hx hI) h0
 rw [zH] at hI;obtain ⟨r,e2,hp⟩:=hr sl' st' hI;exact ⟨r,aw (by rw [nV,hi,bind_some];exact e) e2,hp⟩
theorem bY {s:Sx}{sl':Sl}{st':aa}{Q:Out->Prop} (h:cq ks s sl st=some (.nx sl' st')) (h2:∃ r,av ks ss sl' st'=some r/\Q r):∃ r,av ks (.cons s ss) sl st=some r/\Q r:=by
 obtain ⟨r,e,q⟩:=h2;exact ⟨r,aw h e,q⟩
end
section
variable {st:aa}
theorem tB (m:Nat):∀ n,S2 ((List.range n).filter fun i=>m.testBit i)=m % 2 ^ n:=by
 intro n
 induction n with
 | zero=>simp [S2,Nat.mod_one]
 | succ n ih =>
  rw [List.range_succ,List.filter_append];unfold S2 at ih ⊢;rw [List.map_append,List.sum_append,ih,Nat.pow_succ,Nat.mod_mul];have hb:m.testBit n=decide (m / 2 ^ n % 2=1):=Nat.testBit_eq_decide_div_mod_eq;have:m / 2 ^ n % 2=0\/m / 2 ^ n % 2=1:=by omega
  rcases this with h | h <;> simp [List.filter_cons,hb,h]
theorem qJ {m:Nat} (h:m < 2 ^ 41):S2 (bI m)=m:=by unfold bI;rw [tB,Nat.mod_eq_of_lt h]
theorem qy {m:Nat}:∀ c ∈ bI m,c < 41:=fun c hc=>List.mem_range.mp (List.mem_filter.mp hc).1
theorem j9 {m:Nat}:(bI m).length <= 41:=by unfold bI;exact zZ (List.length_filter_le ..) (by simp)
theorem fG {m:Nat} (h:m < 2 ^ 41):pm bP [.fz (nL (bI m))] st=some (.int (m:Int),st)/\pm ar [.fz (nL (bI m))] st=some (.int (m:Int),st):=by
 have:=p9 (st:=st) (l:=bI m) (fun c hc=>by have:=qy c hc;omega) (by have:=j9 (m:=m);omega)
 rw [qJ h] at this;exact this
theorem l8 {ns:List Int}{k:Nat}:pm aD [.fz (iL ns),.int (k:Int)] st=some (.int (SX.gI ns k),st):=by
 refine a0 (by simp [rfs,rf,B2]) (v:=.int (SX.gI ns k)) (st':=[]) ?_ rfl;rw [aD,bv];show (av [] dt [some (.fz (iL ns)),some (.int (k:Int))] []).bind aA=_;by_cases h:k < ns.length
 ·refine aU (s:=.iff _ _ _) ?_
  have hl:decide ((k:Int) < ((ns.length:Nat):Int))=true:=yO oM;have xi:cg ([]:aa) (.fz (iL ns)) (.int (k:Int))=some (.int (SX.gI ns k)):=by rw [hV cD,fL,vY h]
  simp [bM,fm,h,xi,mR]
 ·have hg:SX.gI ns k=0:=by unfold SX.gI;rw [zD,List.getElem?_eq_none oM];rfl
  refine bN (sl':=[some (.fz (iL ns)),some (.int (k:Int))]) (st':=[]) ?_ (aU (by rw [hg];rfl));simp [bM,fm,h]
theorem lg {ks:List Fn}{a e:Ex}{sl:Sl}{y:AV}{xs:List AV}{k:Nat} (h1:ev ks a sl st=some (.ref k,st)) (h2:ev ks e sl st=some (y,st)) (h3:st[k]?=some (.lst xs)) (hl:xs.length <= 1000):cq ks (.ex (.mt .app a (.cons e .nil))) sl st=some (.nx sl (st.set k (.lst (xs++[y])))):=by
 simp [kM,p8,p7,h1,oU,qc h3,h2,oo,ig,h3,g6 hl]
theorem g9 {a b:Int} (h:a.natAbs < 2 ^ 62):cx a b=true:=by
 unfold cx;have:Nat.ble a.natAbs.log2 62=true:=yH (by
  by_cases hz:a.natAbs=0
  ·rw [hz];decide
  ·exact yQ ((Nat.log2_lt hz).mpr h))
 rw [this];simp
theorem jm {a b:Int} (h:b.natAbs < 2 ^ 62):cx a b=true:=by
 unfold cx;have:Nat.ble b.natAbs.log2 62=true:=yH (by
  by_cases hz:b.natAbs=0
  ·rw [hz];decide
  ·exact yQ ((Nat.log2_lt hz).mpr h))
 rw [this];simp
theorem dA {a b:Int} (h:0 < b):nk a b=a % b:=yE h
theorem ib {a b:Int} (h:0 < b):nl a b=a / b:=yE h
theorem dD {a:Int}{b:Nat} (h:0 < b):∃ r:Nat,a % (b:Int)=(r:Int)/\r < b:=by
 have h1:=Int.emod_nonneg a (b:=(b:Int)) oM;have h2:=Int.emod_lt_of_pos a (b:=(b:Int)) oM;exact ⟨(a % (b:Int)).toNat,by omega,by omega⟩
theorem A3 {k:Nat}{l:List Nat} (h:st[k]?=some (.lst (nL l))):km st (.ref k)=some (.fz (nL l)):=by
 show bZ 6 st (.ref k)=_;unfold bZ;have:aT (bZ 5 st) (nL l)=some (nL l):=bO (f:=bZ 5 st) (i:=fun q:Nat=>AV.int (q:Int)) (g:=fun q:Nat=>AV.int (q:Int)) (fun x=>rfl) l;simp only [h,this,map_some]
theorem kZ:bn .Pow st (.int 10) (.int 18)=some (.int 1000000000000000000):=by kernel_rfl
theorem nt {c:Int}{many base:Nat} (hm:many <= 100) (h0:0 < base) (hbs:base < 2 ^ 62):∃ D:List Nat,pm ag [.int c,.int (many:Int),.int (base:Int)] st=some (.fz (nL D),st)/\D.length=many/\∀ x ∈ D,x < base:=by
 have b0:(base:Int) ≠ 0:=by omega
 have bp:(0:Int) < (base:Int):=by omega
 have bdv:eP (base:Int)=true:=qr b0 (zJ (by rw [Int.natAbs_natCast];exact hbs) (Nat.pow_le_pow_right dC dC));have key:∃ r,ag [.int c,.int (many:Int),.int (base:Int)] []=some r/\∃ D:List Nat,r=(.ref 0,[.lst (nL D)])/\D.length=many/\∀ x ∈ D,x < base:=by
  rw [ag,bv];show ∃ r,(av [] eW [some (.int c),some (.int (many:Int)),some (.int (base:Int)),none,none,none,none] []).bind aA=some r/\_;refine aN (sl':=[some (.int c),some (.int (many:Int)),some (.int (base:Int)),some (.ref 0),none,none,none]) (st':=[.lst []]) rfl ?_;refine aN (sl':=[some (.int c),some (.int (many:Int)),some (.int (base:Int)),some (.ref 0),some (.int c),none,none]) (st':=[.lst []]) rfl ?_;refine gv (xs:=List.range many) (em:=fun q:Nat=>AV.int (q:Int)) (fun i sl st=>∃ l y5 y6 D,sl=[some (.int c),some (.int (many:Int)),some (.int (base:Int)),some (.ref 0),some (.int l),y5,y6]/\st=[.lst (nL D)]/\D.length=i/\∀ x ∈ D,x < base) (dS (n:=many) rfl oM) (fun _ _ _ _=>rfl) ⟨c,none,none,[],rfl,rfl,rfl,by simp⟩ (fun i x sl st hx hI=>?_) fun sl' st' hI=>?_
  ·obtain ⟨l,y5,y6,D,rfl,rfl,hD,hb⟩:=hI
   have hi:i < many:=by have:=(zB.mp hx).1;simpa using this
   have ex:x=i:=by have:=(zB.mp hx).2;simpa using this.symm
   subst ex;by_cases hc:1000000000000000000 <= (if c < 0 then -c else c)/\l ≠ 0/\l ≠ -1
   ·obtain ⟨r,hr,hr2⟩:=dD (a:=l) (b:=base) h0
    refine ⟨_,[some (.int c),some (.int (many:Int)),some (.int (base:Int)),some (.ref 0),some (.int (l / (base:Int))),some (.int (x:Int)),y6],[.lst (nL (D++[r]))],rfl,?_,_,_,_,_,rfl,rfl,by simp [hD],fun z hz=>?_⟩
    ·refine aw (sl':=[some (.int c),some (.int (many:Int)),some (.int (base:Int)),some (.ref 0),some (.int (l / (base:Int))),some (.int (x:Int)),y6]) (st':=[.lst (nL (D++[r]))]) ?_ rfl
     have t0:tv [] (.an (.cmp .GtE (.bi .abs (.cons (.v 0) .nil)) (.bin .Pow (.i 10) (.i 18))) (.an (.cmp .NotEq (.v 4) (.i 0)) (.cmp .NotEq (.v 4) (.un .USub (.i 1))))) [some (.int c),some (.int (many:Int)),some (.int (base:Int)),some (.ref 0),some (.int l),some (.int (x:Int)),y6] [.lst (nL D)]=some (true,[.lst (nL D)]):=by
      simp [bM,gW,kZ,hc.1,hc.2.1,hc.2.2,iq]
     show (Option.bind (tv [] _ [some (.int c),some (.int (many:Int)),some (.int (base:Int)),some (.ref 0),some (.int l),some (.int (x:Int)),y6] [.lst (nL D)]) _)=_;rw [t0,bind_some];dsimp only;rw [yE rfl];refine aw (lg (k:=0) (xs:=nL D) (y:=.int (r:Int)) rfl (by simp [de b0,dA bp];exact hr) rfl (by simp;omega)) ?_;refine aw (sl':=[some (.int c),some (.int (many:Int)),some (.int (base:Int)),some (.ref 0),some (.int (l / (base:Int))),some (.int (x:Int)),y6]) (st':=[.lst (nL (D++[r]))]) ?_ rfl;have e1:nL D++[AV.int (r:Int)]=nL (D++[r]):=by unfold nL;simp
     simp [fY bdv,ib bp,e1]
    ·rcases zY.mp hz with h | h
     ·exact hb z h
     ·rw [zL.mp h];exact hr2
   ·obtain ⟨a,ha,ha2⟩:=dD (a:=(c + 1009) * 69621 + 7919 * (x:Int)) (b:=2147483629) dC
    obtain ⟨b,hb',hb2⟩:=dD (a:=(a:Int) * (a:Int) + 17 * (x:Int) + 5) (b:=2147483629) dC;obtain ⟨d,hd,hd2⟩:=dD (a:=(b:Int) * (b:Int)) (b:=2147483587) dC;obtain ⟨r,hr,hr2⟩:=dD (a:=(d:Int) / 64) (b:=base) h0;have two:(2:Nat) ^ 62=4611686018427387904:=by decide
    refine ⟨_,[some (.int c),some (.int (many:Int)),some (.int (base:Int)),some (.ref 0),some (.int l),some (.int (x:Int)),some (.int (b:Int))],[.lst (nL (D++[r]))],rfl,?_,_,_,_,_,rfl,rfl,by simp [hD],fun z hz=>?_⟩
    ·refine aw (sl':=[some (.int c),some (.int (many:Int)),some (.int (base:Int)),some (.ref 0),some (.int l),some (.int (x:Int)),some (.int (b:Int))]) (st':=[.lst (nL (D++[r]))]) ?_ rfl
     have t0:tv [] (.an (.cmp .GtE (.bi .abs (.cons (.v 0) .nil)) (.bin .Pow (.i 10) (.i 18))) (.an (.cmp .NotEq (.v 4) (.i 0)) (.cmp .NotEq (.v 4) (.un .USub (.i 1))))) [some (.int c),some (.int (many:Int)),some (.int (base:Int)),some (.ref 0),some (.int l),some (.int (x:Int)),y6] [.lst (nL D)]=some (false,[.lst (nL D)]):=by
      by_cases h1:1000000000000000000 <= (if c < 0 then -c else c)
      ·by_cases h2:l=0
       ·simp [bM,gW,kZ,h1,h2,iq]
       ·have h3:l=-1:=Classical.byContradiction fun h3=>hc ⟨h1,h2,h3⟩
        simp [bM,gW,kZ,h1,h3,iq]
      ·simp [bM,gW,kZ,h1,iq]
     show (Option.bind (tv [] _ [some (.int c),some (.int (many:Int)),some (.int (base:Int)),some (.ref 0),some (.int l),some (.int (x:Int)),y6] [.lst (nL D)]) _)=_;rw [t0,bind_some];dsimp only;rw [yD dC];have m1:cx (c + 1009) 69621=true:=jm dC;have m2:cx 7919 (x:Int)=true:=g9 dC;have m3:cx (a:Int) (a:Int)=true:=g9 oM;have m4:cx 17 (x:Int)=true:=g9 dC;have m5:cx (b:Int) (b:Int)=true:=g9 oM;have ha:((c + 1009) * 69621 + 7919 * (x:Int)) % 2147483629=(a:Int):=ha;have hb':((a:Int) * (a:Int) + 17 * (x:Int) + 5) % 2147483629=(b:Int):=hb';have hd:((b:Int) * (b:Int)) % 2147483587=(d:Int):=hd;have hr:((d:Int) / 64) % (base:Int)=(r:Int):=hr;have n1:(2147483629:Int) ≠ 0:=by decide
     have n2:(2147483587:Int) ≠ 0:=by decide
     have n3:=b0;have p1:(0:Int) < 2147483629:=by decide
     have p2:(0:Int) < 2147483587:=by decide
     have p3:=bp;have dv:eP 64=true:=by decide
     refine aw (sl':=[some (.int c),some (.int (many:Int)),some (.int (base:Int)),some (.ref 0),some (.int l),some (.int (x:Int)),some (.int (a:Int))]) (st':=[.lst (nL D)]) (by simp [db m1,db m2,de n1,dA p1,ha]) ?_;refine aw (sl':=[some (.int c),some (.int (many:Int)),some (.int (base:Int)),some (.ref 0),some (.int l),some (.int (x:Int)),some (.int (b:Int))]) (st':=[.lst (nL D)]) (by simp [db m3,db m4,de n1,dA p1,hb']) ?_;refine (aw (lg (k:=0) (xs:=nL D) (y:=.int (r:Int)) rfl (by simp [db m5,de n2,de n3,dA p2,dA p3,hd,fY dv,ib (show (0:Int) < 64 by decide),hr]) rfl (by simp;omega)) rfl).trans ?_;have e1:nL D++[AV.int (r:Int)]=nL (D++[r]):=by unfold nL;simp
     rw [e1];rfl
    ·rcases zY.mp hz with h | h
     ·exact hb z h
     ·rw [zL.mp h];exact hr2
  ·obtain ⟨l,y5,y6,D,rfl,rfl,hD,hb⟩:=hI
   refine br (v:=.ref 0) (st':=[.lst (nL D)]) rfl ⟨D,rfl,by simpa using hD,hb⟩
 obtain ⟨r,e,D,rfl,h1,h2⟩:=key;refine ⟨D,a0 rfl e (A3 rfl),h1,h2⟩
theorem j5 {c:Int}{many:Nat} (hm:many <= 100):∃ D:List Nat,pm ag [.int c,.int (many:Int),.int 65536] st=some (.fz (nL D),st)/\D.length=many/\∀ x ∈ D,x < 65536:=nt (base:=65536) hm dC dC
end
def vw (m:Nat):AV:=.fz (nL (bI m))
def cj (r:List Nat):AV:=.fz (r.map vw)
def ab (M:Nat) (hs:List (List Nat)):AV:=.tup [.int (M:Int),.fz (hs.map cj)]
section
variable {st:aa}
theorem k4 {a:Nat}{k:Nat}:bn .Mod st (.int (a:Int)) (.int ((2 ^ k:Nat):Int))=some (.int ((a % 2 ^ k:Nat):Int)):=by
 have:=Nat.two_pow_pos k
 rw [de oM,dA oM];rfl
theorem eZ {a b:Nat} (h:0 < b):bn .Mod st (.int (a:Int)) (.int (b:Int))=some (.int ((a % b:Nat):Int)):=by
 rw [de oM,dA oM];rfl
theorem lU {D:List Nat}{k:Nat} (h:k < D.length):cg st (.fz (nL D)) (.int (k:Int))=some (.int ((D.getD k 0:Nat):Int)):=by rw [hV cD,fL,vH h]
theorem v7 {D:List Nat}{b:Nat} (hb:0 < b) (h:∀ x ∈ D,x < b) (k:Nat):D.getD k 0 < b:=by
 rw [zD];cases e:D[k]? with
 | none=>exact hb
 | some x=>exact h x (zV e)
def bC (rows:List (List Nat)):aa:=.lst ((List.range rows.length).map fun j:Nat=>AV.ref (j + 1))::rows.map fun r=>F1.lst (r.map vw)
theorem oQ {n:Nat}{l:List Nat}{s:aa}:aT (bZ (n + 1) s) (l.map vw)=some (l.map vw):=bO (f:=bZ (n + 1) s) (i:=vw) (g:=vw) (fun x=>rfl) l
theorem sG {α:Type}{f:AV->Option AV}{i g:α->AV}:∀ {l:List α},(∀ x ∈ l,f (i x)=some (g x))->aT f (l.map i)=some (l.map g):=by
 intro l
 induction l with
 | nil=>intro _;rfl
 | cons x l ih =>
  intro h;rw [zN,zN];show (f (i x)).bind _=_;rw [h x (z3 ..),bind_some,ih fun y hy=>h y (zP _ hy)];rfl
theorem rp {M:Nat}{hs:List (List Nat)} (hl:hs.length <= 100):km (bC hs) (.tup [.int (M:Int),.ref 0])=some (ab M hs):=by
 have row:∀ j ∈ List.range hs.length,bZ 4 (bC hs) (.ref (j + 1))=some (cj (hs.getD j [])):=fun j hj=>by
  have hj:=List.mem_range.mp hj;have:(bC hs)[j + 1]?=some (.lst ((hs.getD j []).map vw)):=by
   show (hs.map fun r=>F1.lst (r.map vw))[j]?=_;rw [zQ,zD,zF hj];rfl
  show (match (bC hs)[j + 1]? with
   | some (.lst xs)=>(aT (bZ 3 (bC hs)) xs).map AV.fz
   | some (.al t)=>some t
   | _=>none)=_
  rw [this];show (aT (bZ 3 (bC hs)) ((hs.getD j []).map vw)).map AV.fz=_;rw [oQ];rfl
 have refs:=sG (f:=bZ 4 (bC hs)) (i:=fun j:Nat=>AV.ref (j + 1)) (g:=fun j=>cj (hs.getD j [])) row;have e:(List.range hs.length).map (fun j=>cj (hs.getD j []))=hs.map cj:=by
  apply List.ext_getElem
  ·simp
  ·intro i h1 h2
   simp at h1;simp [zD,h1]
 rw [e] at refs;have r0:bZ 5 (bC hs) (.ref 0)=some (.fz (hs.map cj)):=by
  show (aT (bZ 4 (bC hs)) ((List.range hs.length).map fun j:Nat=>AV.ref (j + 1))).map AV.fz=_;rw [refs];rfl
 show (aT (bZ 5 (bC hs)) [.int (M:Int),.ref 0]).map AV.tup=_;have i0:bZ 5 (bC hs) (.int (M:Int))=some (.int (M:Int)):=rfl;simp only [aT,r0,i0,bind_some,map_some];rfl
theorem zn {c:Int}{n most:Nat} (hn:n <= 4) (hm:most <= 40):∃ M hs,pm aL [.int c,.int (n:Int),.int (most:Int)] st=some (ab M hs,st)/\M <= most/\hs.length=n/\∀ r ∈ hs,r.length <= 3/\∀ m ∈ r,m < 2 ^ M:=by
 obtain ⟨D,eD,lD,bD⟩:=j5 (c:=c) (many:=18) (st:=[]) dC;have eD:pm ag [.int c,.int 18,.int 65536] []=some (.fz (nL D),[]):=eD;obtain ⟨M,hM⟩:∃ M,M=D.getD 0 0 % (most + 1):=⟨_,rfl⟩;have M1:M <= most:=by have:=Nat.mod_lt (D.getD 0 0) (show 0 < most + 1 by omega);omega
 have key:∃ r,aL [.int c,.int (n:Int),.int (most:Int)] []=some r/\∃ hs:List (List Nat),r=(.tup [.int (M:Int),.ref 0],bC hs)/\hs.length=n/\∀ r ∈ hs,r.length <= 3/\∀ m ∈ r,m < 2 ^ M:=by
  rw [aL,bv];show ∃ r,(av [ag,ao] fv [some (.int c),some (.int (n:Int)),some (.int (most:Int)),none,none,none,none,none,none,none,none] []).bind aA=some r/\_;refine aN (sl':=[some (.int c),some (.int (n:Int)),some (.int (most:Int)),some (.fz (nL D)),none,none,none,none,none,none,none]) (st':=[]) (by simp [eD]) ?_;refine aN (sl':=[some (.int c),some (.int (n:Int)),some (.int (most:Int)),some (.fz (nL D)),some (.int (M:Int)),none,none,none,none,none,none]) (st':=[]) ?_ ?_
  ·have e1:bn .Mod ([]:aa) (.int ((D.getD 0 0:Nat):Int)) (.int ((most:Int) + 1))=some (.int (M:Int)):=by rw [hM];exact eZ (b:=most + 1) oM
   have e0:cg ([]:aa) (.fz (nL D)) (.int 0)=some (.int ((D.getD 0 0:Nat):Int)):=lU (k:=0) oM;simp only [bB,aP,bf,ax,aW,am,aq,bind_some,e0,map_some,dB,e1,bT];rfl
  refine aN (sl':=[some (.int c),some (.int (n:Int)),some (.int (most:Int)),some (.fz (nL D)),some (.int (M:Int)),some (.ref 0),none,none,none,none,none]) (st':=bC []) rfl ?_;refine gv (xs:=List.range n) (em:=fun q:Nat=>AV.int (q:Int)) (fun i sl st=>∃ hs y6 y7 y8 y9 y10,sl=[some (.int c),some (.int (n:Int)),some (.int (most:Int)),some (.fz (nL D)),some (.int (M:Int)),some (.ref 0),y6,y7,y8,y9,y10]/\st=bC hs/\hs.length=i/\∀ r ∈ hs,r.length <= 3/\∀ m ∈ r,m < 2 ^ M)
   (dS (n:=n) rfl oM) (fun _ _ _ _=>rfl) ⟨[],none,none,none,none,none,rfl,rfl,rfl,by simp⟩ (fun i x sl st hx hI=>?_) fun sl' st' hI=>?_
  ·obtain ⟨hs,y6,y7,y8,y9,y10,rfl,rfl,hl,hb⟩:=hI
   have hi:i < n:=by have:=(zB.mp hx).1;simpa using this
   have ex:x=i:=by have:=(zB.mp hx).2;simpa using this.symm
   subst ex;have ls:(bC hs).length=x + 1:=by simp [bC,hl]
   have body:∃ r,av [ag,ao] (.cons (.as (.nw true (.li .nil)) (.nm 7)) (.cons (.fo (.r1 (.bin .Mod (.ix (.v 3) (.bin .Add (.i 1) (.v 6))) (.i 4))) (.nm 8) (.cons (.as (.ix (.v 3) (.bin .Add (.bin .Add (.i 5) (.bin .Mult (.i 3) (.v 6))) (.v 8))) (.nm 9)) (.cons (.as (.bin .Mod (.v 9) (.bin .LShift (.i 1) (.v 4))) (.nm 10)) (.cons (.iff (.cmp .Gt (.v 4) (.i 16)) (.cons (.as (.bin .Mod (.bin .Mult (.bin .Add (.bin .Mult (.bin .Mult (.v 9) (.v 9)) (.i 48271)) (.v 9)) (.bin .Add (.v 9) (.i 77))) (.bin .LShift (.i 1) (.v 4))) (.nm 10)) .nil) .nil) (.cons (.ex (.mt .app (.v 7) (.cons (.ca true 1 (.cons (.v 10) .nil)) .nil))) .nil))))) (.cons (.ex (.mt .app (.v 5) (.cons (.v 7) .nil))) .nil)))
     [some (.int c),some (.int (n:Int)),some (.int (most:Int)),some (.fz (nL D)),some (.int (M:Int)),some (.ref 0),some (.int (x:Int)),y7,y8,y9,y10] (bC hs)=some r/\∃ (row:List Nat) (z8 z9 z10:Option AV),r=.nx [some (.int c),some (.int (n:Int)),some (.int (most:Int)),some (.fz (nL D)),some (.int (M:Int)),some (.ref 0),some (.int (x:Int)),some (.ref (x + 1)),z8,z9,z10] (bC (hs++[row]))/\row.length <= 3/\∀ m ∈ row,m < 2 ^ M:=by
    refine bY (sl':=[some (.int c),some (.int (n:Int)),some (.int (most:Int)),some (.fz (nL D)),some (.int (M:Int)),some (.ref 0),some (.int (x:Int)),some (.ref (x + 1)),y8,y9,y10]) (st':=bC hs++[.lst []]) (by rw [<- ls];rfl) ?_;obtain ⟨q,hq⟩:∃ q,q=D.getD (1 + x) 0 % 4:=⟨_,rfl⟩;have q4:q < 4:=by omega
    have e1:cg (bC hs++[.lst []]) (.fz (nL D)) (.int (1 + (x:Int)))=some (.int ((D.getD (1 + x) 0:Nat):Int)):=by
     rw [show (1:Int) + (x:Int)=((1 + x:Nat):Int) by omega];exact lU oM
    have e2:bn .Mod (bC hs++[.lst []]) (.int ((D.getD (1 + x) 0:Nat):Int)) (.int 4)=some (.int (q:Int)):=by rw [hq];exact eZ (b:=4) dC
    refine kT (xs:=List.range q) (em:=fun q:Nat=>AV.int (q:Int)) (fun j sl st=>∃ row z8 z9 z10,sl=[some (.int c),some (.int (n:Int)),some (.int (most:Int)),some (.fz (nL D)),some (.int (M:Int)),some (.ref 0),some (.int (x:Int)),some (.ref (x + 1)),z8,z9,z10]/\st=bC hs++[.lst (row.map vw)]/\row.length=j/\∀ m ∈ row,m < 2 ^ M)
     (dS (n:=q) (by simp only [aP,bf,ax,aW,am,aq,bind_some,map_some,dB,e1,e2]) oM) (fun _ _ _ _=>rfl) ⟨[],y8,y9,y10,rfl,rfl,rfl,by simp⟩ (fun j y sl st hy hJ=>?_) fun sl' st' hJ=>?_
    ·obtain ⟨row,z8,z9,z10,rfl,rfl,hj,hrow⟩:=hJ
     have hy1:j < q:=by have:=(zB.mp hy).1;simpa using this
     have ey:y=j:=by have:=(zB.mp hy).2;simpa using this.symm
     subst ey;obtain ⟨d,hd⟩:∃ d,d=D.getD (5 + 3 * x + y) 0:=⟨_,rfl⟩;have d1:d < 65536:=by rw [hd];exact v7 dC bD _
     obtain ⟨S,hS⟩:∃ S,S=bC hs++[F1.lst (row.map vw)]:=⟨_,rfl⟩;have i1:cg S (.fz (nL D)) (.int (5 + 3 * (x:Int) + (y:Int)))=some (.int (d:Int)):=by
      rw [show (5:Int) + 3 * (x:Int) + (y:Int)=((5 + 3 * x + y:Nat):Int) by omega,hd];exact lU oM
     have m3:cx 3 (x:Int)=true:=g9 dC;have two:(2:Nat) ^ 62=4611686018427387904:=by decide
     have gM:S[x + 1]?=some (.lst (row.map vw)):=by rw [hS,<- ls];exact gl
     have aA:∀ m:Nat,m < 2 ^ M->∀ z9:Option AV,∃ sl2 st2,av [ag,ao] (.cons (.ex (.mt .app (.v 7) (.cons (.ca true 1 (.cons (.v 10) .nil)) .nil))) .nil) [some (.int c),some (.int (n:Int)),some (.int (most:Int)),some (.fz (nL D)),some (.int (M:Int)),some (.ref 0),some (.int (x:Int)),some (.ref (x + 1)),some (.int (y:Int)),z9,some (.int (m:Int))] S=some (.nx sl2 st2) /\
       ∃ (row:List Nat) (z8 z9 z10:Option AV),sl2=[some (.int c),some (.int (n:Int)),some (.int (most:Int)),some (.fz (nL D)),some (.int (M:Int)),some (.ref 0),some (.int (x:Int)),some (.ref (x + 1)),z8,z9,z10]/\st2=bC hs++[.lst (row.map vw)]/\row.length=y + 1/\∀ m ∈ row,m < 2 ^ M:=fun m hm' z9=>by
      refine ⟨_,_,aw (lg (k:=x + 1) (xs:=row.map vw) (y:=vw m) rfl (by simp only [a9,ad,aj,ax,am,aq,bind_some,aO,bd,bz,gT];rfl) gM (by simp;omega)) rfl,row++[m],_,_,_,rfl,?_,by simp [hj],fun z hz=>?_⟩
      ·rw [hS,<- ls,List.set_append_right _ _ (zO _)];simp
      ·rcases zY.mp hz with h | h
       ·exact hrow z h
       ·rw [zL.mp h];exact hm'
     rw [<- hS];have st1:cq [ag,ao] (.as (.ix (.v 3) (.bin .Add (.bin .Add (.i 5) (.bin .Mult (.i 3) (.v 6))) (.v 8))) (.nm 9)) [some (.int c),some (.int (n:Int)),some (.int (most:Int)),some (.fz (nL D)),some (.int (M:Int)),some (.ref 0),some (.int (x:Int)),some (.ref (x + 1)),some (.int (y:Int)),z9,z10] S=some (.nx [some (.int c),some (.int (n:Int)),some (.int (most:Int)),some (.fz (nL D)),some (.int (M:Int)),some (.ref 0),some (.int (x:Int)),some (.ref (x + 1)),some (.int (y:Int)),some (.int (d:Int)),z10] S):=by
      simp only [bB,bf,aP,ax,aW,am,aq,bind_some,db m3,map_some,dB,i1,bT];rfl
     have st2:cq [ag,ao] (.as (.bin .Mod (.v 9) (.bin .LShift (.i 1) (.v 4))) (.nm 10)) [some (.int c),some (.int (n:Int)),some (.int (most:Int)),some (.fz (nL D)),some (.int (M:Int)),some (.ref 0),some (.int (x:Int)),some (.ref (x + 1)),some (.int (y:Int)),some (.int (d:Int)),z10] S=some (.nx [some (.int c),some (.int (n:Int)),some (.int (most:Int)),some (.fz (nL D)),some (.int (M:Int)),some (.ref 0),some (.int (x:Int)),some (.ref (x + 1)),some (.int (y:Int)),some (.int (d:Int)),some (.int ((d % 2 ^ M:Nat):Int))] S):=by
      simp only [bB,aP,ax,aW,am,aq,bind_some,dJ (show M <= 1000 by omega),map_some,k4,bT];rfl
     by_cases h16:16 < M
     ·obtain ⟨m,hm2⟩:∃ m,m=(d * d * 48271 + d) * (d + 77) % 2 ^ M:=⟨_,rfl⟩
      obtain ⟨sl2,st2',e,I'⟩:=aA m (by rw [hm2];exact Nat.mod_lt _ (Nat.two_pow_pos _)) (some (.int (d:Int)));refine ⟨_,sl2,st2',rfl,aw st1 (aw st2 (aw (sl':=[some (.int c),some (.int (n:Int)),some (.int (most:Int)),some (.fz (nL D)),some (.int (M:Int)),some (.ref 0),some (.int (x:Int)),some (.ref (x + 1)),some (.int (y:Int)),some (.int (d:Int)),some (.int (m:Int))]) (st':=S) ?_ e)),I'⟩;have n1:cx (d:Int) (d:Int)=true:=g9 oM;have n2:cx ((d:Int) * (d:Int)) 48271=true:=jm dC;have n3:cx ((d:Int) * (d:Int) * 48271 + (d:Int)) ((d:Int) + 77)=true:=jm oM;have n4:bn .Mod S (.int (((d:Int) * (d:Int) * 48271 + (d:Int)) * ((d:Int) + 77))) (.int ((2 ^ M:Nat):Int))=some (.int (m:Int)):=by
       rw [hm2,show ((d:Int) * (d:Int) * 48271 + (d:Int)) * ((d:Int) + 77)=(((d * d * 48271 + d) * (d + 77):Nat):Int) by simp];exact k4
      have gt:decide ((16:Int) < (M:Int))=true:=yO oM;simp only [aI,a8,ax,aW,am,aq,bind_some,Ap,gt,map_some,c0,bB,aP,db n1,db n2,dB,db n3,dJ (show M <= 1000 by omega),n4,bT];rfl
     ·obtain ⟨sl2,st2',e,I'⟩:=aA (d % 2 ^ M) (Nat.mod_lt _ (Nat.two_pow_pos _)) (some (.int (d:Int)))
      refine ⟨_,sl2,st2',rfl,aw st1 (aw st2 (aw (sl':=[some (.int c),some (.int (n:Int)),some (.int (most:Int)),some (.fz (nL D)),some (.int (M:Int)),some (.ref 0),some (.int (x:Int)),some (.ref (x + 1)),some (.int (y:Int)),some (.int (d:Int)),some (.int ((d % 2 ^ M:Nat):Int))]) (st':=S) ?_ e)),I'⟩;have gt:decide ((16:Int) < (M:Int))=false:=z4 oM;simp only [aI,a8,ax,aW,am,aq,bind_some,Ap,gt,map_some];rfl
    ·obtain ⟨row,z8,z9,z10,rfl,rfl,hj,hrow⟩:=hJ
     rw [List.length_range] at hj;refine ⟨_,aw (lg (k:=0) (xs:=(List.range hs.length).map fun j:Nat=>AV.ref (j + 1)) (y:=.ref (x + 1)) rfl rfl rfl (by simp;omega)) rfl,row,z8,z9,z10,?_,by omega,hrow⟩;congr 1;simp [bC,List.range_succ,hl]
   obtain ⟨r,e,row,z8,z9,z10,rfl,h1,h2⟩:=body;exact ⟨_,_,_,rfl,e,hs++[row],_,_,_,_,_,rfl,rfl,by simp [hl],fun r hr=>by
    rcases zY.mp hr with h | h
    ·exact hb r h
    ·rw [zL.mp h];exact ⟨h1,h2⟩⟩
  ·obtain ⟨hs,y6,y7,y8,y9,y10,rfl,rfl,hl,hb⟩:=hI
   exact br (v:=.tup [.int (M:Int),.ref 0]) (st':=bC hs) rfl ⟨hs,rfl,by simpa using hl,hb⟩
 obtain ⟨r,e,hs,rfl,h1,h2⟩:=key;exact ⟨M,hs,a0 rfl e (rp oM),M1,h1,h2⟩
end
end LW
namespace LW
open PySem PySem.Spec L2 R RK
section
variable {ks:List Fn}{sl:Sl}{st:aa}{ss:FU}{P:AV × aa->Prop}
theorem d9 {α β:Type}{em:β->AV}{it:Ix}{t:Tg}{b:FU}{xs:List β}{gd:Gd}{st0:aa} (I:Nat->α->Sl->aa->Prop) (f:α->β->α) (a:α) (hi:bR ks it sl st=some (⟨xs.map em,gd⟩,st0)) (h0:I 0 a sl st0) (hg:∀ i a sl st,I i a sl st->bQ gd st=true)
  (h:∀ i a x sl st,xs[i]?=some x->I i a sl st->∃ p sl2 st2,cA ks t (em x) sl st=some p/\av ks b p.1 p.2=some (.nx sl2 st2)/\I (i + 1) (f a x) sl2 st2)
  (hr:∀ sl' st',I xs.length (xs.foldl f a) sl' st'->∃ r,(av ks ss sl' st').bind aA=some r/\P r):∃ r,(av ks (.cons (.fo it t b) ss) sl st).bind aA=some r/\P r:=by
 refine gv (fun i=>I i ((xs.take i).foldl f a)) hi (fun i=>hg _ _) h0 (fun i x sl st hx hI=>?_) fun sl' st' hI=>hr sl' st' (by rwa [List.take_length] at hI)
 obtain ⟨p,sl2,st2,h1,h2,h3⟩:=h i _ x sl st hx hI;refine ⟨p,sl2,st2,h1,h2,?_⟩;rw [List.take_add_one,hx,Option.toList_some,List.foldl_append];exact h3
theorem ph {n i x:Nat} (h:(List.range n)[i]?=some x):i < n/\i=x:=by
 obtain ⟨h1,h2⟩:=zB.mp h;exact ⟨by simpa using h1,by simpa using h2⟩
theorem oN {a b:Nat}:bn .BitAnd st (.int (a:Int)) (.int (b:Int))=some (.int ((a &&& b:Nat):Int)):=by
 show some (AV.int (Builtin.bitAnd (a:Int) (b:Int)))=_;rw [mj]
theorem qS {a b:Nat}:bn .BitXor st (.int (a:Int)) (.int (b:Int))=some (.int ((a ^^^ b:Nat):Int)):=by
 show some (AV.int (Builtin.bitXor (a:Int) (b:Int)))=_;rw [tj]
theorem Ew {g k:Nat}:(!decide (((g &&& 2 ^ k:Nat):Int)=0))=g.testBit k:=by
 have:(g &&& 2 ^ k=0) ↔ g.testBit k=false:=nA;cases h:g.testBit k
 ·rw [this.mpr h];rfl
 ·have:¬ g &&& 2 ^ k=0:=fun z=>by rw [this.mp z] at h;cases h
  rw [z4 oM];rfl
theorem dy {M:Nat}{hs:List (List Nat)}:cg st (ab M hs) (.int 1)=some (.fz (hs.map cj)):=rfl
theorem hW {M:Nat}{hs:List (List Nat)}:cg st (ab M hs) (.int 0)=some (.int (M:Int)):=rfl
theorem hU {hs:List (List Nat)}{k:Nat} (h:k < hs.length):cg st (.fz (hs.map cj)) (.int (k:Int))=some (cj (hs.getD k [])):=by
 rw [hV cD,fL,zQ,zD,zF h];rfl
theorem t5 {r:List Nat}{k:Nat} (h:k < r.length):cg st (cj r) (.int (k:Int))=some (vw (r.getD k 0)):=by
 rw [cj,hV cD,fL,zQ,zD,zF h];rfl
theorem cK {xs:List AV}:bM fm [.fz xs] st=some (.int ((xs.length:Nat):Int),st):=rfl
theorem AQ {l:List Nat}:rfs (l.map vw)=true:=cv fun x hx=>by obtain ⟨i,_,rfl⟩:=z7.mp hx;rfl
theorem wU {l:List (List Nat)}:rfs (l.map cj)=true:=cv fun x hx=>by obtain ⟨i,_,rfl⟩:=z7.mp hx;rfl
@[simp] theorem Fg {M:Nat}{hs:List (List Nat)}:rf (ab M hs)=true:=by simp [ab]
def eA (n g:Nat):List Nat:=(List.range n).filter fun i=>g.testBit i
def gm (hs:List (List Nat)) (g:Nat):List Nat:=(eA hs.length g).flatMap fun k=>hs.getD k []
def cb (hs:List (List Nat)) (g:Nat):List (Nat × Nat):=(eA hs.length g).flatMap fun k=>(List.range (hs.getD k []).length).map fun j=>(k,j)
noncomputable def pV (p:Nat × Nat):AV:=.tup [.int (p.1:Int),.int (p.2:Int)]
structure HK (M:Nat) (hs:List (List Nat)):Prop where
 m:M <= 40
 n:hs.length <= 4
 r:∀ r ∈ hs,r.length <= 3/\∀ m ∈ r,m < 2 ^ M
theorem HK.row {M:Nat}{hs:List (List Nat)} (h:HK M hs) (k:Nat):(hs.getD k []).length <= 3/\∀ m ∈ hs.getD k [],m < 2 ^ M:=by
 rw [zD];cases e:hs[k]? with
 | none=>exact ⟨by simp,by simp⟩
 | some r=>exact h.r r (zV e)
theorem HK.lt {M:Nat}{hs:List (List Nat)} (h:HK M hs) {g m:Nat} (hm:m ∈ gm hs g):m < 2 ^ M:=by
 obtain ⟨k,_,h2⟩:=List.mem_flatMap.mp hm;exact (h.row k).2 m h2
theorem lM {n g:Nat}:(eA n g).length <= n:=by unfold eA;exact zZ (List.length_filter_le ..) (by simp)
theorem t9 {α β:Type}{f:α->List β}{c:Nat}:∀ {l:List α},(∀ x ∈ l,(f x).length <= c)->(l.flatMap f).length <= c * l.length:=by
 intro l
 induction l with
 | nil=>intro _;simp
 | cons x l ih =>
  intro h;rw [List.flatMap_cons,zU,yP,Nat.mul_succ]
  have:=h x (z3 ..)
  have:=ih fun y hy=>h y (zP _ hy)
  omega
theorem HK.len {M:Nat}{hs:List (List Nat)} (h:HK M hs) (g:Nat):(gm hs g).length <= 12:=by
 have h1:(gm hs g).length <= 3 * (eA hs.length g).length:=t9 fun k _=>(h.row k).1
 have:=lM (n:=hs.length) (g:=g)
 have:=h.n
 omega
theorem v9 {α β:Type}{f:α->List β}:∀ (l:List α) (a:List β),l.foldl (fun a k=>a++f k) a=a++l.flatMap f:=by
 intro l
 induction l with
 | nil=>intro a;simp
 | cons x l ih=>intro a;rw [List.foldl_cons,ih,List.flatMap_cons,yI]
theorem nj {α β:Type}{f:α->List β}{p:α->Bool}:∀ (l:List α) (a:List β),l.foldl (fun a k=>if p k=true then a++f k else a) a=a++(l.filter p).flatMap f:=by
 intro l
 induction l with
 | nil=>intro a;simp
 | cons x l ih =>
  intro a;rw [List.foldl_cons,ih,List.filter_cons];split
  ·rw [List.flatMap_cons,yI]
  ·rfl
theorem iW {m M:Nat} (h:m < 2 ^ M) (hM:M <= 40):m < 2 ^ 41:=zJ h (Nat.pow_le_pow_right dC oM)
theorem yq {a b:List Nat}:nL a++nL b=nL (a++b):=by unfold nL;rw [List.map_append]
theorem yU {r:List Nat}:cy st (cj r)=some (r.map vw):=rfl
theorem mW {M:Nat}{hs:List (List Nat)} (hk:HK M hs) {g:Nat}:pm ai [ab M hs,.int (g:Int)] st=some (.fz (nL (gm hs g)),st):=by
 have key:∃ r,ai [ab M hs,.int (g:Int)] []=some r/\r=(.fz (nL (gm hs g)),[]):=by
  rw [ai,bv];show ∃ r,(av [ar] eV [some (ab M hs),some (.int (g:Int)),none,none] []).bind aA=some r/\_;refine aN (sl':=[some (ab M hs),some (.int (g:Int)),some (.fz (nL [])),none]) (st':=[]) rfl ?_;refine d9 (gd:=[]) (xs:=List.range hs.length) (em:=fun q:Nat=>AV.int (q:Int)) (fun i (a:List Nat) sl st=>(∃ y,sl=[some (ab M hs),some (.int (g:Int)),some (.fz (nL a)),y])/\st=[]/\a.length <= 3 * i) (fun a k=>if g.testBit k=true then a++hs.getD k [] else a) [] ?_ ⟨⟨none,rfl⟩,rfl,by simp⟩ (fun _ _ _ _ _=>rfl) (fun i a x sl st hx hI=>?_) fun sl' st' hI=>?_
  ·refine dS (n:=hs.length) ?_ (by have:=hk.n;omega)
   simp only [bK,ad,aj,bf,ax,aW,am,dy,bind_some,map_some,cF,cK,zH]
  ·obtain ⟨⟨y,rfl⟩,rfl,ha⟩:=hI
   obtain ⟨hi,rfl⟩:=ph hx;have hn:=hk.n;have hr:=hk.row i;have t0:tv [ar] (.cmp .Eq (.bin .Mod (.bin .FloorDiv (.v 1) (.bin .LShift (.i 1) (.v 3))) (.i 2)) (.i 1)) [some (ab M hs),some (.int (g:Int)),some (.fz (nL a)),some (.int (i:Int))] []=some (g.testBit i,[]):=by
    simp only [a8,aP,ax,aW,am,aq,bind_some,dJ (show i <= 1000 by omega),mi (show i <= 1000 by omega),j1,map_some,dN,mh]
   cases hb:g.testBit i with
   | false =>
    refine ⟨_,[some (ab M hs),some (.int (g:Int)),some (.fz (nL a)),some (.int (i:Int))],[],rfl,?_,?_⟩
    ·refine aw (sl':=[some (ab M hs),some (.int (g:Int)),some (.fz (nL a)),some (.int (i:Int))]) (st':=[]) ?_ rfl
     show (tv _ _ [some (ab M hs),some (.int (g:Int)),some (.fz (nL a)),some (.int (i:Int))] []).bind _=_;rw [t0,hb];rfl
    ·exact ⟨⟨_,rfl⟩,rfl,by simp;omega⟩
   | true =>
    refine ⟨([some (ab M hs),some (.int (g:Int)),some (.fz (nL a)),some (.int (i:Int))],[]),[some (ab M hs),some (.int (g:Int)),some (.fz (nL (a++hs.getD i []))),some (.int (i:Int))],[],rfl,?_,?_⟩
    ·refine aw (sl':=[some (ab M hs),some (.int (g:Int)),some (.fz (nL (a++hs.getD i []))),some (.int (i:Int))]) (st':=[]) ?_ rfl
     show (tv _ _ [some (ab M hs),some (.int (g:Int)),some (.fz (nL a)),some (.int (i:Int))] []).bind _=_;rw [t0,hb,bind_some];dsimp only;rw [yE rfl];refine aw (sl':=[some (ab M hs),some (.int (g:Int)),some (.fz (nL (a++hs.getD i []))),some (.int (i:Int))]) (st':=[]) ?_ rfl;have hi2:bR [ar] (.e (.ix (.ix (.v 0) (.i 1)) (.v 3))) [some (ab M hs),some (.int (g:Int)),some (.fz (nL a)),some (.int (i:Int))] []=some (⟨(hs.getD i []).map vw,[]⟩,[]):=by
      simp only [m9,bf,ax,aW,am,aq,bind_some,map_some,dy,hU hi];rfl
     have go:=dM (ks:=[ar]) (k:=1) (t:=.nm 4) (c:=.no) (e:=.ca true 0 (.cons (.v 4) .nil)) (xs:=hs.getD i []) (em:=vw) hi2 rfl oM (B:=fun _=>true) (F:=fun q:Nat=>AV.int (q:Int)) fun q hq=>⟨[some (ab M hs),some (.int (g:Int)),some (.fz (nL a)),some (.int (i:Int)),some (vw q)],rfl,rfl,fun _=>by
      simp only [a9,ad,aj,ax,am,aq,bind_some,aO,bd];exact (fG (iW (hr.2 q hq) hk.m)).2⟩
     rw [List.filter_eq_self.mpr fun _ _=>rfl] at go;have go:_=some (nL (hs.getD i []),[]):=go;have lf:∀ xs:List AV,rfs xs=true->(if rfs xs=true then some (AV.fz xs,([]:aa)) else none)=some (.fz xs,[]):=fun xs h=>yE h
     have h2:ev [ar] (.nw false (.lc 1 (.e (.ix (.ix (.v 0) (.i 1)) (.v 3))) (.nm 4) .no (.ca true 0 (.cons (.v 4) .nil)))) [some (ab M hs),some (.int (g:Int)),some (.fz (nL a)),some (.int (i:Int))] []=some (.fz (nL (hs.getD i [])),[]):=by rw [ce,go,bind_some];exact lf _ cU
     have h3:dR [ar] (.cat (.v 2) (.nw false (.lc 1 (.e (.ix (.ix (.v 0) (.i 1)) (.v 3))) (.nm 4) .no (.ca true 0 (.cons (.v 4) .nil))))) [some (ab M hs),some (.int (g:Int)),some (.fz (nL a)),some (.int (i:Int))] []=some (nL (a++hs.getD i []),[]):=by
      rw [n6];unfold j0;rw [show ev [ar] (.v 2) [some (ab M hs),some (.int (g:Int)),some (.fz (nL a)),some (.int (i:Int))] []=some (.fz (nL a),[]) from rfl,bind_some];dsimp only;rw [h2,bind_some];dsimp only;rw [cD,bind_some,cD,bind_some,yE (g6 (by rw [gB,gB];omega)),yq]
     rw [bB,ce,h3,bind_some];dsimp only;rw [lf _ cU];rfl
    ·exact ⟨⟨_,rfl⟩,rfl,by rw [yE rfl,zU];omega⟩
  ·obtain ⟨⟨y,rfl⟩,rfl,_⟩:=hI
   rw [nj,List.nil_append];exact br (v:=.fz (nL (gm hs g))) (st':=[]) rfl rfl
 obtain ⟨r,e,rfl⟩:=key;exact a0 (by simp) e rfl
end
section
variable {ks:List Fn}{sl:Sl}{st:aa}
theorem Cb {a e:Ex}{y:AV}{xs ys:List AV}{k:Nat} (h1:ev ks a sl st=some (.ref k,st)) (h2:ev ks e sl st=some (y,st)) (h3:st[k]?=some (.lst xs)) (hy:cy st y=some ys) (hl:xs.length + ys.length <= 1000):cq ks (.ex (.mt .ext a (.cons e .nil))) sl st=some (.nx sl (st.set k (.lst (xs++ys)))):=by
 simp [kM,p8,p7,h1,oU,qc h3,h2,om,ig,h3,hy,g6 hl]
theorem Ee {M:Nat}{hs:List (List Nat)} (h:ev ks (.v 0) sl st=some (ab M hs,st)):ev ks (.bi .len (.cons (.ix (.v 0) (.i 1)) .nil)) sl st=some (.int ((hs.length:Nat):Int),st):=by
 simp only [bK,ad,aj,bf,aW,h,dy,bind_some,map_some,cF,cK,zH]
theorem BG {M:Nat}{hs:List (List Nat)}{g:Nat} (hk:HK M hs) (h0:ev (cc::ks) (.v 0) sl st=some (ab M hs,st)) (h1:ev (cc::ks) (.v 1) sl st=some (.int (g:Int),st)) :
  bR (cc::ks) (.e (.ca false 0 (.cons (.bi .len (.cons (.ix (.v 0) (.i 1)) .nil)) (.cons (.v 1) .nil)))) sl st=some (⟨(eA hs.length g).map fun q:Nat=>AV.int (q:Int),[(st.length,.lst (nL (eA hs.length g)))]⟩,st++[.lst (nL (eA hs.length g))]):=by
 have hn:=hk.n;rw [m9,a9,ad,Ee h0,bind_some];dsimp only;rw [ad,h1,bind_some];dsimp only;rw [aj,bind_some,bind_some,bind_some];dsimp only;rw [Bw,bd,vI oM,bind_some];dsimp only;rw [vV gl];rfl
theorem lL {n g k:Nat} (h:k ∈ eA n g):k < n/\g.testBit k=true:=by
 obtain ⟨h1,h2⟩:=List.mem_filter.mp h;exact ⟨List.mem_range.mp h1,h2⟩
theorem wu {a b:List Nat}:a.map vw++b.map vw=(a++b).map vw:=by rw [List.map_append]
theorem uz {M:Nat}{hs:List (List Nat)} (hk:HK M hs) {g:Nat}:pm bG [ab M hs,.int (g:Int)] st=some (.fz ((gm hs g).map vw),st):=by
 have key:∃ r,bG [ab M hs,.int (g:Int)] []=some r/\r=(.ref 0,[.lst ((gm hs g).map vw),.lst (nL (eA hs.length g))]):=by
  rw [bG,bv];show ∃ r,(av [cc] fW [some (ab M hs),some (.int (g:Int)),none,none] []).bind aA=some r/\_;refine aN (sl':=[some (ab M hs),some (.int (g:Int)),some (.ref 0),none]) (st':=[.lst []]) rfl ?_;refine d9 (gd:=[(1,.lst (nL (eA hs.length g)))]) (xs:=eA hs.length g) (em:=fun q:Nat=>AV.int (q:Int)) (fun i (a:List Nat) sl st=>(∃ y,sl=[some (ab M hs),some (.int (g:Int)),some (.ref 0),y])/\st=[.lst (a.map vw),.lst (nL (eA hs.length g))]/\a.length <= 3 * i) (fun a k=>a++hs.getD k []) [] (BG hk rfl rfl) ⟨⟨none,rfl⟩,rfl,by simp⟩ (fun i a sl st hI=>?_) (fun i a x sl st hx hI=>?_) fun sl' st' hI=>?_
  ·obtain ⟨_,rfl,_⟩:=hI;exact v8 rfl
  ·obtain ⟨⟨y,rfl⟩,rfl,ha⟩:=hI
   have hm:=lL (zV hx);have hi:i < hs.length:=by have:=(zB.mp hx).1;have:=lM (n:=hs.length) (g:=g);omega
   have hn:=hk.n;have hr:=hk.row x;refine ⟨([some (ab M hs),some (.int (g:Int)),some (.ref 0),some (.int (x:Int))],[.lst (a.map vw),.lst (nL (eA hs.length g))]),_,_,rfl,aw (Cb (k:=0) (xs:=a.map vw) (y:=cj (hs.getD x [])) (ys:=(hs.getD x []).map vw) rfl ?_ rfl yU (by rw [zH,zH];omega)) rfl,⟨_,rfl⟩,?_,by rw [zU];omega⟩
   ·simp only [bf,ax,aW,am,aq,bind_some,map_some,dy,hU hm.1]
   ·rw [wu];rfl
  ·obtain ⟨⟨y,rfl⟩,rfl,_⟩:=hI
   rw [v9,List.nil_append];exact br (v:=.ref 0) rfl rfl
 obtain ⟨r,e,rfl⟩:=key;refine a0 (by simp) e ?_;show (aT (bZ 5 _) ((gm hs g).map vw)).map AV.fz=_;rw [oQ];rfl
theorem jr {a b:AV}:cg st (.tup [a,b]) (.int 0)=some a:=rfl
theorem ou {a b:AV}:cg st (.tup [a,b]) (.int 1)=some b:=rfl
theorem cm {xs:List AV}{s:aa} (h:rfs xs=true):(if rfs xs=true then some (AV.fz xs,s) else none)=some (.fz xs,s):=yE h
theorem vb {M:Nat}{hs:List (List Nat)} (h:HK M hs) (g:Nat):(cb hs g).length <= 12:=by
 have h1:(cb hs g).length <= 3 * (eA hs.length g).length:=t9 fun k _=>by simpa using (h.row k).1
 have:=lM (n:=hs.length) (g:=g)
 have:=h.n
 omega
theorem i3 {T a:String}{e:Ex}{x:AV}{b:Bool} (h:ev ks e sl st=some (x,st)) (h1:jp st x=some a) (h2:DD.isiT a T=some b):ev ks (.is T e) sl st=some (.bl b,st):=by
 show (ev ks e sl st).bind _=_;rw [h,bind_some];dsimp only;rw [h1,bind_some,h2];rfl
theorem tt:DD.isiT "tuple" "tuple"=some true:=by kernel_rfl
theorem ii:DD.isiT "int" "int"=some true:=by kernel_rfl
theorem it:DD.isiT "int" "tuple"=some false:=by kernel_rfl
theorem ti:DD.isiT "tuple" "int"=some false:=by kernel_rfl
theorem cT {b:Bool}:lu st (.bl b)=some b:=rfl
theorem nZ {x:Nat}:pm aM [.int (x:Int)] st=some (.bl (par 41 x),st):=by
 refine a0 rfl (v:=.bl (par 41 x)) (st':=[]) ?_ rfl;rw [aM,bv];show (av [ao] f7 [some (.int (x:Int))] []).bind aA=_;refine aU ?_;have e1:decide ((((bI x).length % 2:Nat):Int)=1)=par 41 x:=by
  rw [mJ];show _=((bI x).length % 2 == 1);rw [Bool.eq_iff_iff,beq_iff_eq,z6];omega
 simp only [ci,bX,aP,bK,ad,aj,a9,ax,aW,am,bind_some,aO,bd,gT,cF,cK,gB,j1,map_some,gS,dN,e1]
theorem g7 {hs:List (List Nat)}{g:Nat}{p:Nat × Nat} (h:p ∈ cb hs g):p.1 < hs.length/\g.testBit p.1=true/\p.2 < (hs.getD p.1 []).length:=by
 obtain ⟨k,h1,h2⟩:=List.mem_flatMap.mp h;obtain ⟨j,h3,rfl⟩:=z7.mp h2;exact ⟨(lL h1).1,(lL h1).2,List.mem_range.mp h3⟩
noncomputable def gE (hs:List (List Nat)) (p:Nat × Nat):Nat:=(hs.getD p.1 []).getD p.2 0
theorem fT {α:Type}{k:Nat}{it:Ix}{t:Tg}{e:Ex}{gd:Gd}{em F:α->AV}{xs:List α} (hi:bR ks it sl st=some (⟨xs.map em,gd⟩,st)) (hg:bQ gd st=true) (hz:xs.length <= 1000) (hr:rfs (xs.map F)=true)
  (h:∀ x ∈ xs,∃ sl1,cA ks t (em x) (sl++List.replicate k none) st=some (sl1,st)/\ev ks e sl1 st=some (F x,st)):ev ks (.nw false (.lc k it t .no e)) sl st=some (.fz (xs.map F),st):=by
 rw [ce,dM (B:=fun _=>true) (F:=F) hi hg hz fun x hx=>by obtain ⟨s,a,b⟩:=h x hx;exact ⟨s,a,rfl,fun _=>b⟩];rw [List.filter_eq_self.mpr fun _ _=>rfl];exact cm hr
theorem jM {α:Type}{f:α->Bool}:∀ {l:List α},bM mn [.fz (l.map fun x=>AV.bl (f x))] st=some (.bl (l.all f),st):=by
 intro l;have:aT i7 (l.map fun x=>AV.bl (f x))=some (l.map f):=bO (f:=i7) (i:=fun x=>AV.bl (f x)) (g:=f) (fun _=>rfl) l;show (((aT i7 (l.map fun x=>AV.bl (f x))).map fun bs=>AV.bl (bs.all id)).map fun z=>(z,st))=_;rw [this];show some (AV.bl ((l.map f).all id),st)=_;rw [List.all_map];rfl
theorem Cz {α:Type}{f:α->Bool}:∀ {l:List α},bM mm [.fz (l.map fun x=>AV.bl (f x))] st=some (.bl (l.any f),st):=by
 intro l;have:aT i7 (l.map fun x=>AV.bl (f x))=some (l.map f):=bO (f:=i7) (i:=fun x=>AV.bl (f x)) (g:=f) (fun _=>rfl) l;show (((aT i7 (l.map fun x=>AV.bl (f x))).map fun bs=>AV.bl (bs.any id)).map fun z=>(z,st))=_;rw [this];show some (AV.bl ((l.map f).any id),st)=_;rw [List.any_map];rfl
theorem ik {α:Type}{f:α->Bool}{l:List α}:rfs (l.map fun x=>AV.bl (f x))=true:=cv fun x hx=>by obtain ⟨i,_,rfl⟩:=z7.mp hx;rfl
theorem Ep {X:List AV}:cut X (some 1) none=X.drop 1:=by
 unfold cut;cases X with
 | nil=>rfl
 | cons x X =>
  have h1:HT.FZ (x::X).length 0 (some 1)=1:=by simp [HT.FZ]
  have h2:HT.FZ (x::X).length (x::X).length none=(x::X).length:=by simp [HT.FZ]
  rw [h1,h2];simp
theorem Eh {c:Nat}{l:List Nat}:bj .In st (.int (c:Int)) (.fz (nL l))=some (decide (c ∈ l)):=by
 change jv st (.int (c:Int)) (.fz (nL l))=_;have h1:a7 9 st (.fz (nL l))=some (.list (l.map fun q:Nat=>PyData.int (q:Int))):=by
  show (aT (a7 8 st) _).map _=_;rw [show nL l=l.map fun q:Nat=>AV.int (q:Int) from rfl,bO (f:=a7 8 st) (i:=fun q:Nat=>AV.int (q:Int)) (g:=fun q:Nat=>PyData.int (q:Int)) (fun _=>rfl)];rfl
 show (some (PyData.int (c:Int))).bind (fun q=>(a7 9 st _).bind _)=_;rw [show a7 9 st (AV.int (c:Int))=some (PyData.int (c:Int)) from rfl,h1,bind_some];change (if (l.map fun q:Nat=>PyData.int (q:Int)).all (fun r=>DD.pyOk r (PyData.int (c:Int)))=true then some ((l.map fun q:Nat=>PyData.int (q:Int)).any fun r=>r.eqv (PyData.int (c:Int))) else none)=_;rw [yE (yK.mpr fun x hx=>by obtain ⟨_,_,rfl⟩:=z7.mp hx;simp [DD.pyOk,PyData.canLay0,PyData.depth])];congr 1;rw [List.any_map,Bool.eq_iff_iff,List.any_eq_true,z6];constructor
 ·rintro ⟨x,hx,e⟩
  have e:((x:Int) == (c:Int))=true:=e;have:x=c:=by have:=yG e;omega
  rwa [<- this]
 ·intro h
  exact ⟨c,h,show ((c:Int) == (c:Int))=true from beq_self_eq_true _⟩
end
end LW
namespace R
open PySem PySem.Spec L2
def LK (k:Nat) (p:PyData):Prop:=p.canLay0=true/\p.depth <= k
theorem AH {α:Type}{f:α->PyData}{k:Nat} (h:∀ x,LK k (f x)):∀ l:List α,PyData.canLayAll0 (l.map f)=true/\PyData.depthAll (l.map f) <= k:=by
 intro l
 induction l with
 | nil=>exact ⟨rfl,Nat.zero_le _⟩
 | cons x l ih =>
  rw [zN];obtain ⟨a,b⟩:=h x;exact ⟨by simp only [PyData.canLayAll0,a,ih.1,Bool.and_self],by simp only [PyData.depthAll];omega⟩
theorem fN {α:Type}{f:α->PyData}{k:Nat} (h:∀ x,LK k (f x)) (l:List α):LK (k + 1) (.list (l.map f)):=by
 obtain ⟨a,b⟩:=AH h l;exact ⟨by simp only [PyData.canLay0,a],by simp only [PyData.depth];omega⟩
theorem sV {st:aa}{x:AV}{p:PyData} (h:a7 9 st x=some p) (hk:LK 9 p):gN st x x=some true:=by
 obtain ⟨a,b⟩:=hk;unfold gN;rw [h,bind_some,bind_some,yE (by unfold DD.pyOk;rw [a,yO oM];rfl),SeqAt.eqv_refl p a]
end R
namespace LW
open PySem PySem.Spec L2 R RK
section
variable {ks:List Fn}{sl:Sl}{st:aa}
theorem jY {x:AV}{p:PyData} (h:a7 9 st x=some p) (hk:LK 9 p):bj .NotEq st x x=some false:=by
 change (gN st x x).map (fun b=>!b)=_;rw [sV h hk];rfl
theorem DR {n:Nat}{l:List Nat}:aT (a7 n st) (nL l)=some (l.map fun q:Nat=>PyData.int (q:Int)):=bO (f:=a7 n st) (i:=fun q:Nat=>AV.int (q:Int)) (g:=fun q:Nat=>PyData.int (q:Int)) (fun _=>by cases n <;> rfl) l
theorem Bp {n m:Nat}:a7 (n + 1) st (vw m)=some (.list ((bI m).map fun q:Nat=>PyData.int (q:Int))):=by
 show (aT (a7 n st) (nL (bI m))).map _=_;rw [DR];rfl
theorem Ea (l:List Nat):LK 1 (.list (l.map fun q:Nat=>PyData.int (q:Int))):=fN (k:=0) (f:=fun q:Nat=>PyData.int (q:Int)) (fun _=>⟨rfl,zO _⟩) l
theorem Bq {M:Nat}{hs:List (List Nat)}:∃ p,a7 9 st (ab M hs)=some p/\LK 9 p:=by
 have h1:∀ r:List Nat,a7 7 st (cj r)=some (.list (r.map fun m=>.list ((bI m).map fun q:Nat=>PyData.int (q:Int)))):=fun r=>by
  show (aT (a7 6 st) (r.map vw)).map _=_;rw [bO (f:=a7 6 st) (i:=vw) (g:=fun m=>.list ((bI m).map fun q:Nat=>PyData.int (q:Int))) fun m=>Bp];rfl
 have h2:a7 8 st (.fz (hs.map cj))=some (.list (hs.map fun r=>.list (r.map fun m=>.list ((bI m).map fun q:Nat=>PyData.int (q:Int))))):=by
  show (aT (a7 7 st) (hs.map cj)).map _=_;rw [bO (f:=a7 7 st) (i:=cj) (g:=fun r=>.list (r.map fun m=>.list ((bI m).map fun q:Nat=>PyData.int (q:Int)))) h1];rfl
 refine ⟨.tuple [.int (M:Int),.list (hs.map fun r=>.list (r.map fun m=>.list ((bI m).map fun q:Nat=>PyData.int (q:Int))))],?_,?_⟩
 ·show (aT (a7 8 st) [.int (M:Int),.fz (hs.map cj)]).map PyData.tuple=_
  simp only [aT,h2,bind_some,map_some,show a7 8 st (.int (M:Int))=some (.int (M:Int)) from rfl]
 ·obtain ⟨a,b⟩:=fN (fun r:List Nat=>fN (fun m=>Ea (bI m)) r) hs
  exact ⟨by simp only [PyData.canLay0,PyData.canLayAll0] at a ⊢;simp [a],by simp only [PyData.depth,PyData.depthAll] at b ⊢;omega⟩
theorem BJ {M:Nat}{hs:List (List Nat)}:bj .NotEq st (ab M hs) (ab M hs)=some false:=by
 obtain ⟨p,h,k⟩:=Bq (st:=st) (M:=M) (hs:=hs);exact jY h k
theorem Ai {M:Nat}{hs:List (List Nat)} (hk:HK M hs):pm aS [ab M hs] st=some (ab M hs,st):=by
 refine a0 (by simp) (v:=ab M hs) (st':=[]) ?_ rfl;rw [aS,bv];show (av [] fx [some (ab M hs)] []).bind aA=_;refine aU ?_;have hn:=hk.n;have hi:bR ([]:List Fn) (.e (.ix (.v 0) (.i 1))) [some (ab M hs)] []=some (⟨hs.map cj,[]⟩,[]):=rfl;have go:=fT (k:=1) (t:=.nm 1) (e:=.nw false (.lc 1 (.e (.v 1)) (.nm 2) .no (.nw false (.lof (.v 2))))) (F:=cj) hi rfl oM wU fun r hr=>⟨[some (ab M hs),some (cj r)],rfl,by
  have h3:=(hk.r r hr).1;have hi2:bR ([]:List Fn) (.e (.v 1)) [some (ab M hs),some (cj r)] []=some (⟨r.map vw,[]⟩,[]):=rfl;exact fT (F:=vw) hi2 rfl oM AQ fun m _=>⟨[some (ab M hs),some (cj r),some (vw m)],rfl,by
   rw [ce,tQ];show (if rfs (nL (bI m))=true then some (AV.fz (nL (bI m)),([]:aa)) else none)=_;exact cm cU⟩⟩
 rw [ci,nG,ad,bf];simp only [ax,aW,am,bind_some,hW,map_some,ad,aj,go];rfl
theorem BN {e:Ex}{x:AV}{xs:List AV} (h:ev ks e sl st=some (x,st)) (hx:cy st x=some xs) (hr:rfs xs=true):ev ks (.nw false (.lof e)) sl st=some (.fz xs,st):=by
 rw [ce,tQ];unfold oa;rw [h,bind_some];dsimp only;rw [hx];exact cm hr
end
noncomputable def aG (p:Int × Int):AV:=.tup [.int p.1,.int p.2]
noncomputable def qa (p q:Int × Int):Bool:=if p.1=q.1 then decide (p.2 < q.2) else decide (p.1 < q.1)
noncomputable def gi (a b:Int):Bool:=decide (a < b)
noncomputable def RB (α:Type) (lt:α->α->Bool) (l:List α):Bool:=(l.zip (l.drop 1)).all fun z=>lt z.1 z.2
section
variable {ks:List Fn}{sl:Sl}{st:aa}
theorem k7 {p q:Int × Int}:bj .Lt st (aG p) (aG q)=some (qa p q):=rfl
theorem k6 {a b:Int}:bj .Lt st (.int a) (.int b)=some (gi a b):=rfl
theorem cM {l:List (Int × Int)}:rfs (l.map aG)=true:=cv fun x hx=>by obtain ⟨i,_,rfl⟩:=z7.mp hx;rfl
theorem qK {α:Type}{lt:α->α->Bool}{l:List α}:RB α lt l=true ↔ ∀ (i:Nat) x y,l[i]?=some x->l[i + 1]?=some y->lt x y=true:=by
 unfold RB;rw [yK];constructor
 ·intro h i x y hx hy
  refine h (x,y) (zV (i:=i) ?_);rw [List.getElem?_zip_eq_some];exact ⟨hx,by rw [List.getElem?_drop,Nat.add_comm];exact hy⟩
 ·intro h z hz
  obtain ⟨i,hi⟩:=List.getElem?_of_mem hz;rw [List.getElem?_zip_eq_some] at hi;obtain ⟨a,b⟩:=hi;rw [List.getElem?_drop,Nat.add_comm] at b;exact h i _ _ a b
theorem pi {α:Type}{f:α->AV}{lt:α->α->Bool} (hlt:∀ a b st,bj .Lt st (f a) (f b)=some (lt a b)) (hf:∀ l:List α,rfs (l.map f)=true) {l:List α} (hl:l.length <= 300):pm aR [.fz (l.map f)] st=some (.bl (RB α lt l),st):=by
 refine a0 (by simp) (v:=.bl (RB α lt l)) (st':=[]) ?_ rfl;rw [aR,bv];show (av [] fu [some (.fz (l.map f))] []).bind aA=_;refine aU ?_;have h1:ev ([]:List Fn) (.nw false (.sl (.v 0) (.so (.i 1)) .no)) [some (.fz (l.map f))] []=some (.fz ((l.drop 1).map f),[]):=by
  rw [ce,yp];unfold pZ;show (Option.bind (some (cut (l.map f) (some 1) none,([]:aa))) _)=_;rw [Ep,<- List.map_drop,bind_some];exact cm (hf _)
 have hi:bR ([]:List Fn) (.zi (.v 0) (.nw false (.sl (.v 0) (.so (.i 1)) .no))) [some (.fz (l.map f))] []=some (⟨(l.zip (l.drop 1)).map fun z=>AV.tup [f z.1,f z.2],[]⟩,[]):=by
  rw [zh];unfold iZ;rw [show ev ([]:List Fn) (.v 0) [some (.fz (l.map f))] []=some (.fz (l.map f),[]) from rfl,bind_some];dsimp only;rw [h1,bind_some];show some (Iv.mk (((l.map f).zip ((l.drop 1).map f)).map fun z=>AV.tup [z.1,z.2]) ([]++[]),([]:aa))=_;rw [List.zip_map,List.map_map];rfl
 have go:=fT (k:=2) (t:=.tu 2 (.cons (.nm 1) (.cons (.nm 2) .nil))) (e:=.cmp .Lt (.v 1) (.v 2)) (F:=fun z=>AV.bl (lt z.1 z.2)) hi rfl (by simp;omega) ik fun z hz=>⟨[some (.fz (l.map f)),some (f z.1),some (f z.2)],rfl,by
  simp only [bX,ax,am,aq,bind_some,gS,hlt,map_some]⟩
 rw [ci,bK,ad,go,bind_some];dsimp only;rw [aj,bind_some,bind_some];dsimp only;rw [gU,jM (f:=fun z:α × α=>lt z.1 z.2),bind_some];rfl
theorem pY {α:Type}{f:α->AV}{g:α->PyData} (h:∀ x,a7 8 st (f x)=some (g x)) (hk:∀ x,LK 8 (g x)) {l:List α}:bj .NotEq st (.fz (l.map f)) (.fz [])=some (!l.isEmpty):=by
 change (gN st (.fz (l.map f)) (.fz [])).map (fun b=>!b)=_;have h1:a7 9 st (.fz (l.map f))=some (.list (l.map g)):=by
  show (aT (a7 8 st) (l.map f)).map _=_;rw [bO (f:=a7 8 st) (i:=f) (g:=g) h];rfl
 obtain ⟨a,b⟩:=fN hk l;unfold gN;rw [h1,show a7 9 st (.fz [])=some (.list []) from rfl,bind_some,bind_some,yE (by unfold DD.pyOk;rw [a,yO (zZ (Nat.min_le_right _ _) dC)];rfl)];cases l <;> rfl
theorem jZ {l:List Int}:bj .NotEq st (.fz (iL l)) (.fz [])=some (!l.isEmpty):=pY (f:=AV.int) (g:=PyData.int) (fun _=>rfl) fun _=>⟨rfl,Nat.zero_le _⟩
theorem BO (p:Int × Int):LK 8 (.tuple [.int p.1,.int p.2]):=⟨rfl,by show 1 <= 8;decide⟩
theorem mS {l:List (Int × Int)}:bj .NotEq st (.fz (l.map aG)) (.fz [])=some (!l.isEmpty):=pY (g:=fun p=>.tuple [.int p.1,.int p.2]) (fun _=>rfl) BO
def cO (hs:List (List Nat)) (g:Nat) (p:Int × Int):Bool:=decide (∃ q ∈ cb hs g,((q.1:Int),(q.2:Int))=p)
theorem isP_iff {hs:List (List Nat)}{g:Nat}{p:Int × Int}:cO hs g p=true ↔ 0 <= p.1/\p.1 < hs.length/\g.testBit p.1.toNat=true/\0 <= p.2/\p.2 < (hs.getD p.1.toNat []).length:=by
 unfold cO;rw [z6];constructor
 ·rintro ⟨q,hq,rfl⟩
  obtain ⟨h1,h2,h3⟩:=g7 hq;simp only [Int.toNat_natCast];exact ⟨by omega,by omega,h2,by omega,by omega⟩
 ·rintro ⟨h1,h2,h3,h4,h5⟩
  refine ⟨(p.1.toNat,p.2.toNat),?_,by ext <;> dsimp only <;> omega⟩;unfold cb;refine List.mem_flatMap.mpr ⟨p.1.toNat,List.mem_filter.mpr ⟨List.mem_range.mpr oM,h3⟩,z7.mpr ⟨p.2.toNat,List.mem_range.mpr oM,rfl⟩⟩
theorem vc {M:Nat}{hs:List (List Nat)} (hk:HK M hs) {g:Nat}{p:Int × Int}:pm bH [ab M hs,.int (g:Int),aG p] st=some (.bl (cO hs g p),st):=by
 have hn:=hk.n;refine a0 (by simp [aG]) (v:=.bl (cO hs g p)) (st':=[]) ?_ rfl;rw [bH,bv];show (av [] dY [some (ab M hs),some (.int (g:Int)),some (aG p),none] []).bind aA=_;have hlen:∀ st:aa,bM fm [aG p] st=some (.int 2,st):=fun _=>rfl
 have h0:∀ st:aa,cg st (aG p) (.int 0)=some (.int p.1):=fun _=>rfl
 have h1:∀ st:aa,cg st (aG p) (.int 1)=some (.int p.2):=fun _=>rfl
 refine bN (sl':=[some (ab M hs),some (.int (g:Int)),some (aG p),none]) (st':=[]) ?_ ?_
 ·rw [aI,dj,fQ,d5,i3 (x:=aG p) rfl rfl tt]
  simp only [bind_some,cT,map_some,Bool.not_true,z5,if_false,a8,bK,ad,aj,ax,aW,am,aq,cF,hlen,Ao,decide_true,fO]
 refine bN (sl':=[some (ab M hs),some (.int (g:Int)),some (aG p),some (.int p.1)]) (st':=[]) rfl ?_;have tst:∀ b:Bool,((p.1 < 0\/(hs.length:Int) <= p.1\/g.testBit p.1.toNat=false) ↔ b=true)->tv [] (.or (.cmp .Lt (.v 3) (.i 0)) (.or (.cmp .GtE (.v 3) (.bi .len (.cons (.ix (.v 0) (.i 1)) .nil))) (.cmp .Eq (.bin .BitAnd (.v 1) (.bin .LShift (.i 1) (.v 3))) (.i 0)))) [some (ab M hs),some (.int (g:Int)),some (aG p),some (.int p.1)] []=some (b,[]):=fun b hb=>by
  rw [dj,a8];simp only [ax,aW,am,aq,bind_some,j8,map_some];by_cases c1:p.1 < 0
  ·rw [yO c1,hb.mp (.inl c1)];rfl
  ·rw [z4 c1]
   simp only [z5,if_false];rw [dj,a8];simp only [bK,ad,aj,bf,ax,aW,am,aq,bind_some,map_some,dy,cF,cK,zH,oF];by_cases c2:(hs.length:Int) <= p.1
   ·rw [yO c2,hb.mp (.inr (.inl c2))];rfl
   ·rw [z4 c2]
    simp only [z5,if_false];obtain ⟨k,hk'⟩:∃ k:Nat,p.1=(k:Int):=⟨p.1.toNat,by omega⟩;rw [hk'] at hb c2 ⊢;rw [Int.toNat_natCast] at hb;simp only [a8,aP,ax,aW,am,aq,bind_some,dJ (show k <= 1000 by omega),oN,map_some,dN];have e:=Ew (g:=g) (k:=k);cases hbit:g.testBit k
    ·rw [hbit] at e
     rw [hb.mp (.inr (.inr hbit))];have:decide (((g &&& 2 ^ k:Nat):Int)=0)=true:=by simpa using e
     rw [this]
    ·rw [hbit] at e
     have:decide (((g &&& 2 ^ k:Nat):Int)=0)=false:=by simpa using e
     rw [this];have:b=false:=by
      cases b
      ·rfl
      ·rcases hb.mpr rfl with h | h | h
       ·omega
       ·omega
       ·rw [hbit] at h;cases h
     rw [this]
 by_cases hc:p.1 < 0\/(hs.length:Int) <= p.1\/g.testBit p.1.toNat=false
 ·have hf:cO hs g p=false:=by
   cases h:cO hs g p
   ·rfl
   ·obtain ⟨a,b,c,_⟩:=isP_iff.mp h
    rcases hc with h | h | h
    ·omega
    ·omega
    ·rw [c] at h;cases h
  refine aU (s:=.iff _ _ _) ?_;rw [aI,tst true (by simp [hc]),hf];rfl
 ·refine bN (sl':=[some (ab M hs),some (.int (g:Int)),some (aG p),some (.int p.1)]) (st':=[]) ?_ (aU ?_)
  ·rw [aI,tst false (by simp [hc])];rfl
  ·have c1:¬ p.1 < 0:=fun h=>hc (.inl h)
   have c2:¬ (hs.length:Int) <= p.1:=fun h=>hc (.inr (.inl h))
   have c3:g.testBit p.1.toNat=true:=by cases h:g.testBit p.1.toNat with
    | false=>exact absurd (.inr (.inr h)) hc
    | true=>rfl
   obtain ⟨k,hk'⟩:∃ k:Nat,p.1=(k:Int):=⟨p.1.toNat,by omega⟩;have hi:cO hs g p=(decide (0 <= p.2) && decide (p.2 < ((hs.getD k []).length:Int))):=by
    rw [Bool.eq_iff_iff,isP_iff,zC,z6,z6];rw [show p.1.toNat=k by omega] at c3 ⊢;constructor
    ·rintro ⟨_,_,_,h4,h5⟩;exact ⟨h4,h5⟩
    ·rintro ⟨h4,h5⟩;exact ⟨by omega,by omega,c3,h4,h5⟩
   have len2:∀ st:aa,bM fm [cj (hs.getD k [])] st=some (.int (((hs.getD k []).length:Nat):Int),st):=fun st=>by rw [cj,cK,zH]
   rw [hk',hi];simp only [ci,gu,bX,bK,ad,aj,bf,ax,aW,am,aq,bind_some,map_some,h1,gS,oF,io];by_cases d1:0 <= p.2
   ·simp only [yO d1,_root_.if_true,dy,hU (show k < hs.length by omega),bind_some,map_some,cF,len2,j8,Bool.true_and]
   ·simp only [z4 d1,z5,if_false,Bool.false_and];rfl
theorem ve {M:Nat}{hs:List (List Nat)}{g:Nat}{i:Int}:pm bH [ab M hs,.int (g:Int),.int i] st=some (.bl false,st):=by
 refine a0 (by simp) (v:=.bl false) (st':=[]) ?_ rfl;rw [bH,bv];show (av [] dY [some (ab M hs),some (.int (g:Int)),some (.int i),none] []).bind aA=_;refine aU (s:=.iff _ _ _) ?_;rw [aI,dj,fQ,d5,i3 (x:=.int i) rfl rfl it];simp only [bind_some,cT,map_some,Bool.not_false,_root_.if_true,c0,ci,wx,fF]
noncomputable def c8 (M:Nat) (i:Int):Bool:=decide (0 <= i) && decide (i < (M:Int))
theorem Aj {M:Nat}{hs:List (List Nat)}{i:Int}:pm bJ [ab M hs,.int i] st=some (.bl (c8 M i),st):=by
 refine a0 (by simp) (v:=.bl (c8 M i)) (st':=[]) ?_ rfl;rw [bJ,bv];show (av [] fi [some (ab M hs),some (.int i)] []).bind aA=_;refine aU ?_;rw [ci,gu,i3 (x:=.int i) rfl rfl ii];unfold c8;by_cases d1:0 <= i
 ·simp only [bind_some,io,_root_.if_true,gu,bX,bf,ax,aW,am,aq,map_some,gS,oF,yO d1,hW,j8,Bool.true_and]
 ·simp only [bind_some,io,_root_.if_true,gu,bX,bf,ax,aW,am,aq,map_some,gS,oF,z4 d1,z5,if_false,Bool.false_and]
theorem Ak {M:Nat}{hs:List (List Nat)}{p:Int × Int}:pm bJ [ab M hs,aG p] st=some (.bl false,st):=by
 refine a0 (by simp [aG]) (v:=.bl false) (st':=[]) ?_ rfl;rw [bJ,bv];show (av [] fi [some (ab M hs),some (aG p)] []).bind aA=_;refine aU ?_;rw [ci,gu,i3 (x:=aG p) rfl rfl ti];rfl
theorem lq {F m:Nat}{l:List Nat} (hF:∀ i,F.testBit i=decide (i ∈ l)):pm bF [vw m,.fz (nL l)] st=some (.bl (par 41 (m &&& F)),st):=by
 refine a0 (by simp [vw]) (v:=.bl (par 41 (m &&& F))) (st':=[]) ?_ rfl;rw [bF,bv];show (av [] ft [some (vw m),some (.fz (nL l))] []).bind aA=_;refine aU ?_;have hi:bR ([]:List Fn) (.e (.v 0)) [some (vw m),some (.fz (nL l))] []=some (⟨(bI m).map fun q:Nat=>AV.int (q:Int),[]⟩,[]):=rfl;have go:=dM (ks:=[]) (k:=1) (t:=.nm 2) (c:=.so (.cmp .In (.v 2) (.v 1))) (e:=.v 2) hi rfl (by have:=j9 (m:=m);omega) (B:=fun q=>decide (q ∈ l)) (F:=fun q:Nat=>AV.int (q:Int)) fun q _=>⟨[some (vw m),some (.fz (nL l)),some (.int (q:Int))],rfl,by
  simp only [fV,a8,ax,am,aq,bind_some,Eh,map_some],fun _=>rfl⟩
 have e1:(bI m).filter (fun q=>decide (q ∈ l))=bI (m &&& F):=by
  unfold bI;rw [List.filter_filter];apply List.filter_congr;intro q _;rw [Nat.testBit_and,hF,Bool.and_comm]
 rw [e1] at go;have e2:decide ((((bI (m &&& F)).length % 2:Nat):Int)=1)=par 41 (m &&& F):=by
  rw [mJ];show _=((bI (m &&& F)).length % 2 == 1);rw [Bool.eq_iff_iff,beq_iff_eq,z6];omega
 have go:dR _ _ _ _=some (nL (bI (m &&& F)),[]):=go;simp only [ci,bX,aP,bK,ad,aj,ce,go,bind_some,cm cU,cF,cK,gB,aW,j1,map_some,gS,dN,e2]
end
section
variable {ks:List Fn}{sl:Sl}{st:aa}
noncomputable def mE (q:Nat × Nat):Int × Int:=((q.1:Int),(q.2:Int))
theorem wv {hs:List (List Nat)}{g:Nat}:∀ {P:List (Int × Int)},(∀ p ∈ P,cO hs g p=true)->∃ Q:List (Nat × Nat),P=Q.map mE/\∀ q ∈ Q,q ∈ cb hs g:=by
 intro P
 induction P with
 | nil=>intro _;exact ⟨[],rfl,by simp⟩
 | cons p P ih =>
  intro h;obtain ⟨Q,rfl,hQ⟩:=ih fun x hx=>h x (zP _ hx)
  have:=h p (z3 ..)
  unfold cO at this;rw [z6] at this;obtain ⟨q,hq,rfl⟩:=this;exact ⟨q::Q,rfl,fun x hx=>by
   rcases zS.mp hx with rfl | hx
   ·exact hq
   ·exact hQ x hx⟩
theorem nN {Q:List (Nat × Nat)}:(Q.map mE).map aG=Q.map pV:=by rw [List.map_map];rfl
def cZ (hs:List (List Nat)) (Q:List (Nat × Nat)):Nat:=Q.foldl (fun a p=>a ^^^ gE hs p) 0
theorem oe {M:Nat}{hs:List (List Nat)} (hk:HK M hs) {g:Nat}{p:Nat × Nat} (h:p ∈ cb hs g):gE hs p < 2 ^ M:=by
 obtain ⟨p1,p2,p3⟩:=g7 h;exact (hk.row p.1).2 _ (by unfold gE;rw [zD (l:=hs.getD p.1 []),zF p3];exact List.getElem_mem p3)
def dL (hs:List (List Nat)) (g v:Nat) (P:List (Int × Int)):Bool:=(P.all (cO hs g)) && RB _ qa P && decide (cZ hs (P.map fun p=>(p.1.toNat,p.2.toNat))=v)
theorem back {Q:List (Nat × Nat)}:(Q.map mE).map (fun p=>(p.1.toNat,p.2.toNat))=Q:=by
 rw [List.map_map];simp [mE,Function.comp_def]
theorem rh {M:Nat}{hs:List (List Nat)} (hk:HK M hs) {g v:Nat} (hv:v < 2 ^ M) {P:List (Int × Int)} (hl:P.length <= 200):pm bh [ab M hs,.int (g:Int),vw v,.fz (P.map aG)] st=some (.bl (dL hs g v P),st):=by
 have key:∃ r,bh [ab M hs,.int (g:Int),vw v,.fz (P.map aG)] []=some r/\r=(.bl (dL hs g v P),[]):=by
  rw [bh,bv];show ∃ r,(av [aR,bH,bP] cJ [some (ab M hs),some (.int (g:Int)),some (vw v),some (.fz (P.map aG)),none,none,none] []).bind aA=some r/\_;have hi:bR [aR,bH,bP] (.e (.v 3)) [some (ab M hs),some (.int (g:Int)),some (vw v),some (.fz (P.map aG)),none,none,none] []=some (⟨P.map aG,[]⟩,[]):=rfl;have go:=fT (k:=1) (t:=.nm 7) (e:=.ca true 1 (.cons (.v 0) (.cons (.v 1) (.cons (.v 7) .nil)))) (F:=fun p=>AV.bl (cO hs g p)) hi rfl oM ik fun p hp=>⟨[some (ab M hs),some (.int (g:Int)),some (vw v),some (.fz (P.map aG)),none,none,none,some (aG p)],rfl,by
    simp only [a9,ad,aj,ax,am,aq,bind_some,aO,bd,bz,vc hk]⟩
  have tst:tv [aR,bH,bP] (.or (.no (.va (.bi .all (.cons (.nw false (.lc 1 (.e (.v 3)) (.nm 7) .no (.ca true 1 (.cons (.v 0) (.cons (.v 1) (.cons (.v 7) .nil)))))) .nil)))) (.no (.va (.ca true 0 (.cons (.v 3) .nil))))) [some (ab M hs),some (.int (g:Int)),some (vw v),some (.fz (P.map aG)),none,none,none] []=some (!(P.all (cO hs g) && RB _ qa P),[]):=by
   simp only [dj,fQ,d5,bK,ad,aj,go,bind_some,gU,jM (f:=cO hs g),cT,map_some];cases P.all (cO hs g) with
   | false=>rfl
   | true=>simp only [Bool.not_true,z5,if_false,a9,ad,aj,ax,am,aq,bind_some,aO,bd,pi (f:=aG) (lt:=qa) (fun _ _ _=>k7) (fun _=>cM) (show P.length <= 300 by omega),cT,map_some,Bool.true_and]
  by_cases hc:(P.all (cO hs g) && RB _ qa P)=true
  ·rw [hc] at tst
   have hall:∀ p ∈ P,cO hs g p=true:=by rw [zC] at hc;exact yK.mp hc.1
   have es:dL hs g v P=decide (cZ hs (P.map fun p=>(p.1.toNat,p.2.toNat))=v):=by unfold dL;rw [hc];rfl
   rw [es];obtain ⟨Q,rfl,hQ⟩:=wv hall;rw [back,nN] at *;refine aN (sl':=[some (ab M hs),some (.int (g:Int)),some (vw v),some (.fz (Q.map pV)),none,none,none]) (st':=[]) (by rw [aI,tst];rfl) ?_;refine aN (sl':=[some (ab M hs),some (.int (g:Int)),some (vw v),some (.fz (Q.map pV)),some (.int ((0:Nat):Int)),none,none]) (st':=[]) rfl ?_;refine d9 (gd:=[]) (xs:=Q) (em:=pV) (fun _ (a:Nat) sl st=>(∃ y z,sl=[some (ab M hs),some (.int (g:Int)),some (vw v),some (.fz (Q.map pV)),some (.int (a:Int)),y,z])/\st=[]) (fun a p=>a ^^^ gE hs p) 0 rfl ⟨⟨none,none,rfl⟩,rfl⟩ (fun _ _ _ _ _=>rfl) (fun i a p sl st hp hI=>?_) fun sl' st' hI=>?_
   ·obtain ⟨⟨y,z,rfl⟩,rfl⟩:=hI
    have hm:=hQ p (zV hp);obtain ⟨p1,p2,p3⟩:=g7 hm;refine ⟨([some (ab M hs),some (.int (g:Int)),some (vw v),some (.fz (Q.map pV)),some (.int (a:Int)),some (.int (p.1:Int)),some (.int (p.2:Int))],[]),[some (ab M hs),some (.int (g:Int)),some (vw v),some (.fz (Q.map pV)),some (.int ((a ^^^ gE hs p:Nat):Int)),some (.int (p.1:Int)),some (.int (p.2:Int))],[],rfl,aw ?_ rfl,⟨_,_,rfl⟩,rfl⟩;have e0:=(fG (st:=[]) (iW (oe hk hm) hk.m)).1;have e1:cg ([]:aa) (cj (hs.getD p.1 [])) (.int (p.2:Int))=some (AV.fz (nL (bI (gE hs p)))):=t5 p3;simp only [bB,aP,a9,ad,aj,bf,ax,aW,am,aq,bind_some,dy,hU p1,map_some,e1,aO,bd,bz,e0,qS,bT];rfl
   ·obtain ⟨⟨y,z,rfl⟩,rfl⟩:=hI
    refine br (v:=.bl (decide (cZ hs Q=v))) (st':=[]) ?_ rfl;have e0:=(fG (st:=[]) (iW hv hk.m)).1;have e0:pm bP [vw v] []=_:=e0;have e2:decide (((Q.foldl (fun a p=>a ^^^ gE hs p) 0:Nat):Int)=(v:Int))=decide (cZ hs Q=v):=decide_eq_decide.mpr (by unfold cZ;omega);simp only [ci,bX,a9,ad,aj,ax,am,aq,bind_some,aO,bd,bz,e0,gS,dN,map_some,e2]
  ·rw [Bool.not_eq_true] at hc
   rw [hc] at tst;have es:dL hs g v P=false:=by unfold dL;rw [hc];rfl
   rw [es];refine br (s:=.iff _ _ _) (v:=.bl false) (st':=[]) ?_ rfl;rw [aI,tst];rfl
 obtain ⟨r,e,rfl⟩:=key;exact a0 (by simp [vw,cM]) e rfl
theorem rj {M:Nat}{hs:List (List Nat)}{g v:Nat}{l:List Int} (h:l ≠ []) (hl:l.length <= 300):pm bh [ab M hs,.int (g:Int),vw v,.fz (iL l)] st=some (.bl false,st):=by
 refine a0 (by simp [vw]) (v:=.bl false) (st':=[]) ?_ rfl;rw [bh,bv];show (av [aR,bH,bP] cJ [some (ab M hs),some (.int (g:Int)),some (vw v),some (.fz (iL l)),none,none,none] []).bind aA=_;refine aU (s:=.iff _ _ _) ?_;have hi:bR [aR,bH,bP] (.e (.v 3)) [some (ab M hs),some (.int (g:Int)),some (vw v),some (.fz (iL l)),none,none,none] []=some (⟨l.map AV.int,[]⟩,[]):=rfl;have go:=fT (k:=1) (t:=.nm 7) (e:=.ca true 1 (.cons (.v 0) (.cons (.v 1) (.cons (.v 7) .nil)))) (F:=fun _=>AV.bl false) hi rfl oM ik fun p hp=>⟨[some (ab M hs),some (.int (g:Int)),some (vw v),some (.fz (iL l)),none,none,none,some (.int p)],rfl,by
  simp only [a9,ad,aj,ax,am,aq,bind_some,aO,bd,bz,ve]⟩
 have al:l.all (fun _=>false)=false:=by cases l with
  | nil=>exact absurd rfl h
  | cons=>simp
 simp only [aI,dj,fQ,d5,bK,ad,aj,go,bind_some,gU,jM (f:=fun _:Int=>false),al,cT,map_some,Bool.not_false,_root_.if_true,c0,ci,wx,fF]
theorem ww {M:Nat}:∀ {l:List Int},(∀ i ∈ l,c8 M i=true)->∃ m:List Nat,l=m.map (fun q:Nat=>(q:Int))/\∀ q ∈ m,q < M:=by
 intro l
 induction l with
 | nil=>intro _;exact ⟨[],rfl,by simp⟩
 | cons i l ih =>
  intro h;obtain ⟨m,rfl,hm⟩:=ih fun x hx=>h x (zP _ hx)
  have:=h i (z3 ..)
  unfold c8 at this;rw [zC,z6,z6] at this;exact ⟨i.toNat::m,by rw [zN,Int.toNat_of_nonneg this.1],fun x hx=>by
   rcases zS.mp hx with rfl | hx
   ·omega
   ·exact hm x hx⟩
theorem sQ {m:List Nat}:iL (m.map (fun q:Nat=>(q:Int)))=nL m:=by unfold iL nL;rw [List.map_map];rfl
theorem rq {m:List Nat} (h:RB Int gi (m.map fun q:Nat=>(q:Int))=true):m.Nodup:=by
 rw [qK] at h;have h':∀ (i:Nat) x y,m[i]?=some x->m[i + 1]?=some y->x < y:=fun i x y hx hy=>by
  have:=h i (x:Int) (y:Int) (by rw [zQ,hx];rfl) (by rw [zQ,hy];rfl)
  unfold gi at this;rw [z6] at this;omega
 have pw:m.Pairwise (· < ·):=by
  rw [List.pairwise_iff_getElem];intro i j hi hj hij;have:∀ d:Nat,∀ hd:i + d + 1 < m.length,m[i] < m[i + d + 1]:=fun d=>by
   induction d with
   | zero=>intro hd;exact h' i _ _ (zF hi) (zF hd)
   | succ d ih =>
    intro hd;exact Nat.lt_trans (ih oM) (h' (i + d + 1) _ _ (zF oM) (zF hd))
  have e:=this (j - i - 1) oM;simpa [show i + (j - i - 1) + 1=j by omega] using e
 exact pw.imp fun h=>zT h
def dI (M:Nat) (hs:List (List Nat)) (g v:Nat) (l:List Int):Bool:=(l.all (c8 M)) && RB _ gi l && (par 41 (v &&& S2 (l.map Int.toNat)) && !(gm hs g).any fun m=>par 41 (m &&& S2 (l.map Int.toNat)))
theorem uj {m:List Nat}:(m.map (fun q:Nat=>(q:Int))).map Int.toNat=m:=by rw [List.map_map];simp [Function.comp_def]
theorem nH {M:Nat}{hs:List (List Nat)} (hk:HK M hs) {g v:Nat}{l:List Int} (hl:l.length <= 200):pm bq [ab M hs,.int (g:Int),vw v,.fz (iL l)] st=some (.bl (dI M hs g v l),st):=by
 have hM:=hk.m;have hL:=hk.len g;refine a0 (by simp [vw]) (v:=.bl (dI M hs g v l)) (st':=[]) ?_ rfl;rw [bq,bv];show (av [aR,bJ,bG,bF] cE [some (ab M hs),some (.int (g:Int)),some (vw v),some (.fz (iL l))] []).bind aA=_;have hi:bR [aR,bJ,bG,bF] (.e (.v 3)) [some (ab M hs),some (.int (g:Int)),some (vw v),some (.fz (iL l))] []=some (⟨l.map AV.int,[]⟩,[]):=rfl;have go:=fT (k:=1) (t:=.nm 4) (e:=.ca true 1 (.cons (.v 0) (.cons (.v 4) .nil))) (F:=fun i=>AV.bl (c8 M i)) hi rfl oM ik fun p hp=>⟨[some (ab M hs),some (.int (g:Int)),some (vw v),some (.fz (iL l)),some (.int p)],rfl,by
   simp only [a9,ad,aj,ax,am,aq,bind_some,aO,bd,bz,Aj]⟩
 have tst:tv [aR,bJ,bG,bF] (.or (.no (.va (.bi .all (.cons (.nw false (.lc 1 (.e (.v 3)) (.nm 4) .no (.ca true 1 (.cons (.v 0) (.cons (.v 4) .nil))))) .nil)))) (.no (.va (.ca true 0 (.cons (.v 3) .nil))))) [some (ab M hs),some (.int (g:Int)),some (vw v),some (.fz (iL l))] []=some (!(l.all (c8 M) && RB _ gi l),[]):=by
  simp only [dj,fQ,d5,bK,ad,aj,go,bind_some,gU,jM (f:=c8 M),cT,map_some];have rs:pm aR [.fz (iL l)] ([]:aa)=some (.bl (RB _ gi l),[]):=pi (f:=AV.int) (lt:=gi) (fun _ _ _=>k6) (fun _=>bS) (show l.length <= 300 by omega);cases l.all (c8 M) with
  | false=>rfl
  | true=>simp only [Bool.not_true,z5,if_false,a9,ad,aj,ax,am,aq,bind_some,aO,bd,rs,cT,map_some,Bool.true_and]
 by_cases hc:(l.all (c8 M) && RB _ gi l)=true
 ·rw [hc] at tst
  have hall:∀ p ∈ l,c8 M p=true:=by rw [zC] at hc;exact yK.mp hc.1
  have hr:RB _ gi l=true:=by rw [zC] at hc;exact hc.2
  have es:dI M hs g v l=(par 41 (v &&& S2 (l.map Int.toNat)) && !(gm hs g).any fun m=>par 41 (m &&& S2 (l.map Int.toNat))):=by unfold dI;rw [hc];rfl
  rw [es];obtain ⟨m,rfl,hm⟩:=ww hall;have hF:∀ i,(S2 m).testBit i=decide (i ∈ m):=fun i=>qZ (rq hr) i
  rw [uj];rw [sQ] at tst ⊢;refine bN (sl':=[some (ab M hs),some (.int (g:Int)),some (vw v),some (.fz (nL m))]) (st':=[]) (by rw [aI,tst];rfl) (aU ?_);have hi:bR [aR,bJ,bG,bF] (.e (.ca true 2 (.cons (.v 0) (.cons (.v 1) .nil)))) [some (ab M hs),some (.int (g:Int)),some (vw v),some (.fz (nL m))] []=some (⟨(gm hs g).map vw,[]⟩,[]):=by
   simp only [m9,a9,ad,aj,ax,am,aq,bind_some,aO,bd,bz,uz hk,lZ,map_some]
  have go:=fT (k:=1) (t:=.nm 4) (e:=.ca true 3 (.cons (.v 4) (.cons (.v 3) .nil))) (F:=fun x=>AV.bl (par 41 (x &&& S2 m))) hi rfl oM ik fun x hx=>⟨[some (ab M hs),some (.int (g:Int)),some (vw v),some (.fz (nL m)),some (vw x)],rfl,by
   simp only [a9,ad,aj,ax,am,aq,bind_some,aO,bd,bz,lq hF]⟩
  simp only [ci,gu,a9,ad,aj,ax,am,aq,bind_some,aO,bd,bz,lq hF,io];cases par 41 (v &&& S2 m) with
  | false=>simp only [z5,if_false,Bool.false_and];rfl
  | true=>simp only [_root_.if_true,Dq,bK,ad,aj,go,bind_some,Av,Cz (f:=fun x=>par 41 (x &&& S2 m)),BE,Bool.true_and]
 ·rw [Bool.not_eq_true] at hc
  rw [hc] at tst;have es:dI M hs g v l=false:=by unfold dI;rw [hc];rfl
  rw [es];refine aU (s:=.iff _ _ _) ?_;rw [aI,tst];rfl
theorem nI {M:Nat}{hs:List (List Nat)}{g v:Nat}{l:List (Int × Int)} (h:l ≠ []) (hl:l.length <= 300):pm bq [ab M hs,.int (g:Int),vw v,.fz (l.map aG)] st=some (.bl false,st):=by
 refine a0 (by simp [vw,cM]) (v:=.bl false) (st':=[]) ?_ rfl;rw [bq,bv];show (av [aR,bJ,bG,bF] cE [some (ab M hs),some (.int (g:Int)),some (vw v),some (.fz (l.map aG))] []).bind aA=_;have hi:bR [aR,bJ,bG,bF] (.e (.v 3)) [some (ab M hs),some (.int (g:Int)),some (vw v),some (.fz (l.map aG))] []=some (⟨l.map aG,[]⟩,[]):=rfl;have go:=fT (k:=1) (t:=.nm 4) (e:=.ca true 1 (.cons (.v 0) (.cons (.v 4) .nil))) (F:=fun _=>AV.bl false) hi rfl oM ik fun p hp=>⟨[some (ab M hs),some (.int (g:Int)),some (vw v),some (.fz (l.map aG)),some (aG p)],rfl,by
   simp only [a9,ad,aj,ax,am,aq,bind_some,aO,bd,bz,Ak]⟩
 refine aU (s:=.iff _ _ _) ?_;have al:l.all (fun _=>false)=false:=by cases l with
  | nil=>exact absurd rfl h
  | cons=>simp
 simp only [aI,dj,fQ,d5,bK,ad,aj,go,bind_some,gU,jM (f:=fun _:Int × Int=>false),al,cT,map_some,Bool.not_false,_root_.if_true,c0,ci,wx,fF]
end
section
variable {ks:List Fn}{sl:Sl}{st:aa}
theorem uK {ss:FU}{P:AV × aa->Prop}{α:Type}{em:α->AV}{it:Ix}{t:Tg}{b:FU}{xs:List α}{gd:Gd}{st0:aa} (I:Nat->Sl->aa->Prop) (Post:AV->aa->Prop) (hi:bR ks it sl st=some (⟨xs.map em,gd⟩,st0)) (hg:∀ i sl st,I i sl st->bQ gd st=true) (h0:I 0 sl st0)
  (h:∀ i x sl st,xs[i]?=some x->I i sl st->∃ p o,cA ks t (em x) sl st=some p/\av ks b p.1 p.2=some o/\((∃ sl2 st2,o=.nx sl2 st2/\I (i + 1) sl2 st2)\/∃ v st2,o=.rt v st2/\Post v st2))
  (hr:∀ sl' st',I xs.length sl' st'->∃ r,(av ks ss sl' st').bind aA=some r/\P r) (hp:∀ v st',Post v st'->P (v,st')):∃ r,(av ks (.cons (.fo it t b) ss) sl st).bind aA=some r/\P r:=by
 rcases nh (gd:=gd) (g:=cA ks t) (s:=av ks b) (I:=I) (Post:=Post) (xs:=xs.map em) (fun i sl st _ hI=>hg i sl st hI) (fun i y sl st hy hI=>by
  rw [zQ] at hy;obtain ⟨x,hx,rfl⟩:=zE.mp hy;exact h i x sl st hx hI) h0 with ⟨sl',st',e,hI⟩ | ⟨v,st',e,hP⟩
 ·rw [zH] at hI
  obtain ⟨r,e2,hp⟩:=hr sl' st' hI;exact ⟨r,bN (by rw [nV,hi,bind_some];exact e) e2,hp⟩
 ·exact ⟨_,aU (by rw [nV,hi,bind_some];exact e),hp v st' hP⟩
theorem gF {M:Nat}{hs:List (List Nat)} (hk:HK M hs) {g:Nat}:pm af [ab M hs,.int (g:Int)] st=some (.fz ((cb hs g).map pV),st):=by
 have rfp:∀ l:List (Nat × Nat),rfs (l.map pV)=true:=fun l=>cv fun x hx=>by obtain ⟨i,_,rfl⟩:=z7.mp hx;rfl
 have key:∃ r,af [ab M hs,.int (g:Int)] []=some r/\r=(.fz ((cb hs g).map pV),[]):=by
  rw [af,bv];show ∃ r,(av [] dQ [some (ab M hs),some (.int (g:Int)),none,none] []).bind aA=some r/\_;refine aN (sl':=[some (ab M hs),some (.int (g:Int)),some (.fz (([]:List (Nat × Nat)).map pV)),none]) (st':=[]) rfl ?_;refine d9 (gd:=[]) (xs:=List.range hs.length) (em:=fun q:Nat=>AV.int (q:Int)) (fun i (a:List (Nat × Nat)) sl st=>(∃ y,sl=[some (ab M hs),some (.int (g:Int)),some (.fz (a.map pV)),y])/\st=[]/\a.length <= 3 * i) (fun a k=>if g.testBit k=true then a++(List.range (hs.getD k []).length).map (fun j=>(k,j)) else a) [] ?_ ⟨⟨none,rfl⟩,rfl,by simp⟩ (fun _ _ _ _ _=>rfl) (fun i a x sl st hx hI=>?_) fun sl' st' hI=>?_
  ·refine dS (n:=hs.length) ?_ (by have:=hk.n;omega)
   simp only [bK,ad,aj,bf,ax,aW,am,dy,bind_some,map_some,cF,cK,zH]
  ·obtain ⟨⟨y,rfl⟩,rfl,ha⟩:=hI
   obtain ⟨hi,rfl⟩:=ph hx;have hn:=hk.n;have hr:=hk.row i;have t0:tv [] (.cmp .Eq (.bin .Mod (.bin .FloorDiv (.v 1) (.bin .LShift (.i 1) (.v 3))) (.i 2)) (.i 1)) [some (ab M hs),some (.int (g:Int)),some (.fz (a.map pV)),some (.int (i:Int))] []=some (g.testBit i,[]):=by
    simp only [a8,aP,ax,aW,am,aq,bind_some,dJ (show i <= 1000 by omega),mi (show i <= 1000 by omega),j1,map_some,dN,mh]
   cases hb:g.testBit i with
   | false =>
    refine ⟨([some (ab M hs),some (.int (g:Int)),some (.fz (a.map pV)),some (.int (i:Int))],[]),[some (ab M hs),some (.int (g:Int)),some (.fz (a.map pV)),some (.int (i:Int))],[],rfl,?_,?_⟩
    ·refine aw (sl':=[some (ab M hs),some (.int (g:Int)),some (.fz (a.map pV)),some (.int (i:Int))]) (st':=[]) ?_ rfl
     rw [aI,t0,hb];rfl
    ·exact ⟨⟨_,rfl⟩,rfl,by simp;omega⟩
   | true =>
    refine ⟨([some (ab M hs),some (.int (g:Int)),some (.fz (a.map pV)),some (.int (i:Int))],[]),[some (ab M hs),some (.int (g:Int)),some (.fz ((a++(List.range (hs.getD i []).length).map fun j=>(i,j)).map pV)),some (.int (i:Int))],[],rfl,?_,?_⟩
    ·refine aw (sl':=[some (ab M hs),some (.int (g:Int)),some (.fz ((a++(List.range (hs.getD i []).length).map fun j=>(i,j)).map pV)),some (.int (i:Int))]) (st':=[]) ?_ rfl
     rw [aI,t0,hb,bind_some];dsimp only;rw [yE rfl];refine aw (sl':=[some (ab M hs),some (.int (g:Int)),some (.fz ((a++(List.range (hs.getD i []).length).map fun j=>(i,j)).map pV)),some (.int (i:Int))]) (st':=[]) ?_ rfl;have hl:ev ([]:List Fn) (.bi .len (.cons (.ix (.ix (.v 0) (.i 1)) (.v 3)) .nil)) [some (ab M hs),some (.int (g:Int)),some (.fz (a.map pV)),some (.int (i:Int))] []=some (.int (((hs.getD i []).length:Nat):Int),[]):=by
      simp only [bK,ad,aj,bf,ax,aW,am,aq,bind_some,map_some,dy,hU hi,cF];rw [cj,cK,zH]
     have h2:=fT (k:=1) (t:=.nm 4) (e:=.tu (.cons (.v 3) (.cons (.v 4) .nil))) (F:=fun j=>pV (i,j)) (dS hl oM) rfl (by rw [List.length_range];omega) (cv fun x hx=>by obtain ⟨i,_,rfl⟩:=z7.mp hx;rfl) fun q hq=>⟨[some (ab M hs),some (.int (g:Int)),some (.fz (a.map pV)),some (.int (i:Int)),some (.int (q:Int))],rfl,rfl⟩
     have h3:dR [] (.cat (.v 2) (.nw false (.lc 1 (.r1 (.bi .len (.cons (.ix (.ix (.v 0) (.i 1)) (.v 3)) .nil))) (.nm 4) .no (.tu (.cons (.v 3) (.cons (.v 4) .nil)))))) [some (ab M hs),some (.int (g:Int)),some (.fz (a.map pV)),some (.int (i:Int))] []=some ((a++(List.range (hs.getD i []).length).map fun j=>(i,j)).map pV,[]):=by
      rw [n6];unfold j0;rw [show ev ([]:List Fn) (.v 2) [some (ab M hs),some (.int (g:Int)),some (.fz (a.map pV)),some (.int (i:Int))] []=some (.fz (a.map pV),[]) from rfl,bind_some];dsimp only;rw [h2,bind_some];dsimp only;rw [cD,bind_some,cD,bind_some,yE (g6 (by simp only [zH,List.length_range];omega)),List.map_append,List.map_map];rfl
     rw [bB,ce,h3,bind_some];dsimp only;rw [cm (rfp _)];rfl
    ·exact ⟨⟨_,rfl⟩,rfl,by rw [yE rfl,zU,zH,List.length_range];omega⟩
  ·obtain ⟨⟨y,rfl⟩,rfl,_⟩:=hI
   rw [nj,List.nil_append];exact br (v:=.fz ((cb hs g).map pV)) (st':=[]) rfl rfl
 obtain ⟨r,e,rfl⟩:=key;exact a0 (by simp) e rfl
theorem qb {M:Nat}{hs:List (List Nat)} (hk:HK M hs) {g:Nat}{Q:List (Nat × Nat)} (hQ:∀ q ∈ Q,q ∈ cb hs g):pm au [ab M hs,.fz (Q.map pV)] st=some (.int ((cZ hs Q:Nat):Int),st):=by
 have key:∃ r,au [ab M hs,.fz (Q.map pV)] []=some r/\r=(.int ((cZ hs Q:Nat):Int),[]):=by
  rw [au,bv];show ∃ r,(av [ar] fZ [some (ab M hs),some (.fz (Q.map pV)),none,none,none] []).bind aA=some r/\_;refine aN (sl':=[some (ab M hs),some (.fz (Q.map pV)),some (.int ((0:Nat):Int)),none,none]) (st':=[]) rfl ?_;refine d9 (gd:=[]) (xs:=Q) (em:=pV) (fun _ (a:Nat) sl st=>(∃ y z,sl=[some (ab M hs),some (.fz (Q.map pV)),some (.int (a:Int)),y,z])/\st=[]) (fun a p=>a ^^^ gE hs p) 0 rfl ⟨⟨none,none,rfl⟩,rfl⟩ (fun _ _ _ _ _=>rfl) (fun i a p sl st hp hI=>?_) fun sl' st' hI=>?_
  ·obtain ⟨⟨y,z,rfl⟩,rfl⟩:=hI
   have hm:=hQ p (zV hp);obtain ⟨p1,p2,p3⟩:=g7 hm;refine ⟨([some (ab M hs),some (.fz (Q.map pV)),some (.int (a:Int)),some (.int (p.1:Int)),some (.int (p.2:Int))],[]),[some (ab M hs),some (.fz (Q.map pV)),some (.int ((a ^^^ gE hs p:Nat):Int)),some (.int (p.1:Int)),some (.int (p.2:Int))],[],rfl,aw ?_ rfl,⟨_,_,rfl⟩,rfl⟩;have e0:=(fG (st:=[]) (iW (oe hk hm) hk.m)).2;have e1:cg ([]:aa) (cj (hs.getD p.1 [])) (.int (p.2:Int))=some (AV.fz (nL (bI (gE hs p)))):=t5 p3;simp only [bB,aP,a9,ad,aj,bf,ax,aW,am,aq,bind_some,dy,hU p1,map_some,e1,aO,bd,e0,qS,bT];rfl
  ·obtain ⟨⟨y,z,rfl⟩,rfl⟩:=hI
   exact br (v:=.int ((cZ hs Q:Nat):Int)) (st':=[]) rfl rfl
 obtain ⟨r,e,rfl⟩:=key;exact a0 (by simp) e rfl
theorem wV {α:Type}{f:α->AV}{lt:α->α->Bool} (hlt:∀ a b st,bj .Lt st (f a) (f b)=some (lt a b)) {l:List α} (hl:l.length <= 200) {a b c d e f' g h:Option AV}{K:List Fn} :
  ∃ L:List Int,ev K (.nw false (.lc 1 (.r2 (.i 1) (.bi .len (.cons (.v 5) .nil))) (.nm 9) (.so (.no (.cmp .Lt (.ix (.v 5) (.bin .Sub (.v 9) (.i 1))) (.ix (.v 5) (.v 9))))) (.v 9))) [a,b,c,d,e,some (.fz (l.map f)),f',g,h] []=some (.fz (iL L),[])/\(!L.isEmpty)=!RB α lt l:=by
 have hi:bR K (.r2 (.i 1) (.bi .len (.cons (.v 5) .nil))) [a,b,c,d,e,some (.fz (l.map f)),f',g,h] []=some (⟨(List.range (l.length - 1)).map fun q:Nat=>AV.int (1 + (q:Int)),[]⟩,[]):=by
  rw [Ej];show (if (en 1 && en (((l.map f).length:Nat):Int))=true then some (Iv.mk (fR 1 ((((l.map f).length:Nat):Int) - 1).toNat) [],([]:aa)) else none)=_;rw [zH];have:en ((l.length:Nat):Int)=true:=by
   unfold en;refine yH ?_;rw [Int.natAbs_natCast];by_cases hz:l.length=0
   ·rw [hz];decide
   ·exact yQ ((Nat.log2_lt hz).mpr (Nat.lt_of_le_of_lt hl dC))
  rw [yE (by rw [this];rfl),show (((l.length:Nat):Int) - 1).toNat=l.length - 1 by omega];rfl
 have go:=dM (k:=1) (t:=.nm 9) (c:=.so (.no (.cmp .Lt (.ix (.v 5) (.bin .Sub (.v 9) (.i 1))) (.ix (.v 5) (.v 9))))) (e:=.v 9) hi rfl (by rw [List.length_range];omega) (B:=fun q=>match l[q]?,l[q + 1]? with | some x,some y=>!lt x y | _,_=>false) (F:=fun q:Nat=>AV.int (1 + (q:Int))) fun q hq=>by
  have hq:=List.mem_range.mp hq;have h1:l[q]?=some l[q]:=zF oM;have h2:l[q + 1]?=some l[q + 1]:=zF oM;have i1:cg ([]:aa) (.fz (l.map f)) (.int (q:Int))=some (f l[q]):=by rw [hV cD,fL,zQ,h1];rfl
  have i2:cg ([]:aa) (.fz (l.map f)) (.int (1 + (q:Int)))=some (f l[q + 1]):=by rw [show 1 + (q:Int)=((q + 1:Nat):Int) by omega,hV cD,fL,zQ,h2];rfl
  refine ⟨[a,b,c,d,e,some (.fz (l.map f)),f',g,h,some (.int (1 + (q:Int)))],rfl,?_,fun _=>rfl⟩;rw [h1,h2];simp only [fV,fQ,a8,bf,aP,ax,aW,aq,am,bind_some,ld,show 1 + (q:Int) - 1=(q:Int) by omega,i1,i2,map_some,hlt]
 refine ⟨((List.range (l.length - 1)).filter (fun q=>match l[q]?,l[q + 1]? with | some x,some y=>!lt x y | _,_=>false)).map fun q:Nat=>1 + (q:Int),?_,?_⟩
 ·rw [ce,go,bind_some]
  unfold iL;rw [List.map_map];exact cm (cv fun x hx=>by obtain ⟨i,_,rfl⟩:=z7.mp hx;rfl)
 ·congr 1
  rw [Bool.eq_iff_iff,qK,List.isEmpty_iff,List.map_eq_nil_iff,List.filter_eq_nil_iff];constructor
  ·intro h i x y hx hy
   have:=h i (List.mem_range.mpr (by have:=(zB.mp hy).1;omega))
   rw [hx,hy] at this;simpa using this
  ·intro h q hq
   have hq:=List.mem_range.mp hq;have h1:l[q]?=some l[q]:=zF oM;have h2:l[q + 1]?=some l[q + 1]:=zF oM;rw [h1,h2];simpa using h q _ _ h1 h2
theorem pA {L:List (Nat × Nat)}:a7 9 st (.fz (L.map pV))=some (.list (L.map fun q=>PyData.tuple [.int (q.1:Int),.int (q.2:Int)])):=by
 show (aT (a7 8 st) _).map _=_;rw [bO (f:=a7 8 st) (i:=pV) (g:=fun q:Nat × Nat=>PyData.tuple [.int (q.1:Int),.int (q.2:Int)]) (fun _=>rfl)];rfl
theorem BH {hs:List (List Nat)}{g:Nat}{p:Int × Int}:bj .NotIn st (aG p) (.fz ((cb hs g).map pV))=some (!cO hs g p):=by
 change (jv st (aG p) (.fz ((cb hs g).map pV))).map (fun b=>!b)=_;have:jv st (aG p) (.fz ((cb hs g).map pV))=some (cO hs g p):=by
  show (a7 9 st (aG p)).bind (fun q=>(a7 9 st _).bind _)=_;rw [show a7 9 st (aG p)=some (PyData.tuple [.int p.1,.int p.2]) from rfl,pA,bind_some];change (if ((cb hs g).map fun q=>PyData.tuple [.int (q.1:Int),.int (q.2:Int)]).all (fun r=>DD.pyOk r (PyData.tuple [.int p.1,.int p.2]))=true then some (((cb hs g).map fun q=>PyData.tuple [.int (q.1:Int),.int (q.2:Int)]).any fun r=>r.eqv (PyData.tuple [.int p.1,.int p.2])) else none)=_;rw [yE (yK.mpr fun x hx=>by obtain ⟨_,_,rfl⟩:=z7.mp hx;simp [DD.pyOk,PyData.canLay0,PyData.canLayAll0,PyData.depth,PyData.depthAll])];congr 1;unfold cO;rw [List.any_map,Bool.eq_iff_iff,List.any_eq_true,z6];refine exists_congr fun q=>and_congr_right fun _=>?_
  show (PyData.tuple [.int (q.1:Int),.int (q.2:Int)]).eqv (PyData.tuple [.int p.1,.int p.2])=true ↔ _;simp [PyData.eqv,PyData.eqvAll,Prod.ext_iff]
 rw [this];rfl
theorem BI {hs:List (List Nat)}{g:Nat}{i:Int}:bj .NotIn st (.int i) (.fz ((cb hs g).map pV))=some true:=by
 change (jv st (.int i) (.fz ((cb hs g).map pV))).map (fun b=>!b)=_;have:jv st (.int i) (.fz ((cb hs g).map pV))=some false:=by
  show (a7 9 st (.int i)).bind (fun q=>(a7 9 st _).bind _)=_;rw [show a7 9 st (.int i)=some (PyData.int i) from rfl,pA,bind_some];change (if ((cb hs g).map fun q=>PyData.tuple [.int (q.1:Int),.int (q.2:Int)]).all (fun r=>DD.pyOk r (PyData.int i))=true then some (((cb hs g).map fun q=>PyData.tuple [.int (q.1:Int),.int (q.2:Int)]).any fun r=>r.eqv (PyData.int i)) else none)=_;rw [yE (yK.mpr fun x hx=>by obtain ⟨_,_,rfl⟩:=z7.mp hx;simp [DD.pyOk,PyData.canLay0,PyData.canLayAll0,PyData.depth,PyData.depthAll])];congr 1;rw [List.any_eq_false];intro x hx;obtain ⟨_,_,rfl⟩:=z7.mp hx;simp [PyData.eqv]
 rw [this];rfl
end
inductive Wo where
 | k | o | a | b | c | d
noncomputable def wS:Wo->Str
 | .k=>"known" | .o=>"open" | .a=>"" | .b=>"Known" | .c=>"opened" | .d=>"o"
noncomputable def wK:Wo->Bool
 | .k=>true
 | _=>false
noncomputable def wO:Wo->Bool
 | .o=>true
 | _=>false
section
variable {ks:List Fn}{sl:Sl}{st:aa}
theorem kg {w:Wo}:bj .Eq st (.str (wS w)) (.str "known")=some (wK w):=by cases w <;> kernel_rfl
theorem wt {w:Wo}:bj .Eq st (.str (wS w)) (.str "open")=some (wO w):=by cases w <;> kernel_rfl
theorem Do {w:Wo}:bj .NotIn st (.str (wS w)) (.tup [.str "known",.str "open"])=some (!(wK w || wO w)):=by cases w <;> kernel_rfl
theorem jy {K:List Fn}{S:Sl}:ev K (.nw false (.li .nil)) S []=some (.fz [],[]):=rfl
theorem eO {M:Nat}{hs:List (List Nat)}{g v:Nat}{w:Wo}{α:Type}{f:α->AV}{lt:α->α->Bool} (hlt:∀ a b st,bj .Lt st (f a) (f b)=some (lt a b)) (hf:∀ l:List α,rfs (l.map f)=true) {l:List α} (hl:l.length <= 200) {r:Bool}
  (h0:(wK w || wO w)=false->r=false) (h1:RB α lt l=false->r=false)
  (h2:RB α lt l=true->(wK w || wO w)=true->(av [af,au,ar,ai,aM] (.cons (.iff (.cmp .Eq (.v 4) (.s "known")) (.cons (.as (.ca true 0 (.cons (.v 0) (.cons (.v 1) .nil))) (.nm 6)) (.cons (.iff (.cmp .NotEq (.nw false (.lc 1 (.e (.v 5)) (.nm 9) (.so (.cmp .NotIn (.v 9) (.v 6))) (.v 9))) (.nw false (.li .nil))) (.cons (.rt (.b false)) .nil) .nil) (.cons (.rt (.cmp .Eq (.ca true 1 (.cons (.v 0) (.cons (.v 5) .nil))) (.ca true 2 (.cons (.v 2) .nil)))) .nil))) .nil) (.cons (.iff (.cmp .NotEq (.nw false (.lc 1 (.e (.v 5)) (.nm 9) (.so (.or (.va (.is "tuple" (.v 9))) (.no (.ch .LtE .Lt (.i 0) (.v 9) (.ix (.v 0) (.i 0)))))) (.v 9))) (.nw false (.li .nil))) (.cons (.rt (.b false)) .nil) .nil) (.cons (.as (.ca true 2 (.cons (.v 5) .nil)) (.nm 7)) (.cons (.fo (.e (.ca true 3 (.cons (.v 0) (.cons (.v 1) .nil)))) (.nm 8) (.cons (.iff (.va (.ca true 4 (.cons (.bin .BitAnd (.v 8) (.v 7)) .nil))) (.cons (.rt (.b false)) .nil) .nil) .nil)) (.cons (.rt (.ca true 4 (.cons (.bin .BitAnd (.ca true 2 (.cons (.v 2) .nil)) (.v 7)) .nil))) .nil))))) [some (ab M hs),some (.int (g:Int)),some (vw v),some (.tup [.str (wS w),.fz (l.map f)]),some (.str (wS w)),some (.fz (l.map f)),none,none,none] []).bind aA=some (.bl r,[])) :
  pm aB [ab M hs,.int (g:Int),vw v,.tup [.str (wS w),.fz (l.map f)]] st=some (.bl r,st):=by
 refine a0 (by simp [vw]) (v:=.bl r) (st':=[]) ?_ rfl;rw [aB,bv];show (av [af,au,ar,ai,aM] f8 [some (ab M hs),some (.int (g:Int)),some (vw v),some (.tup [.str (wS w),.fz (l.map f)]),none,none,none,none,none] []).bind aA=_;refine bN (sl':=[some (ab M hs),some (.int (g:Int)),some (vw v),some (.tup [.str (wS w),.fz (l.map f)]),some (.str (wS w)),some (.fz (l.map f)),none,none,none]) (st':=[]) rfl ?_;obtain ⟨L,eL,bL⟩:=wV hlt hl (a:=some (ab M hs)) (b:=some (.int (g:Int))) (c:=some (vw v)) (d:=some (.tup [.str (wS w),.fz (l.map f)])) (e:=some (.str (wS w))) (f':=none) (g:=none) (h:=none) (K:=[af,au,ar,ai,aM]);have tst:tv [af,au,ar,ai,aM] (.or (.cmp .NotIn (.v 4) (.tu (.cons (.s "known") (.cons (.s "open") .nil)))) (.cmp .NotEq (.nw false (.lc 1 (.r2 (.i 1) (.bi .len (.cons (.v 5) .nil))) (.nm 9) (.so (.no (.cmp .Lt (.ix (.v 5) (.bin .Sub (.v 9) (.i 1))) (.ix (.v 5) (.v 9))))) (.v 9))) (.nw false (.li .nil)))) [some (ab M hs),some (.int (g:Int)),some (vw v),some (.tup [.str (wS w),.fz (l.map f)]),some (.str (wS w)),some (.fz (l.map f)),none,none,none] []=some (!((wK w || wO w) && RB α lt l),[]):=by
  rw [dj,a8];have e1:ev [af,au,ar,ai,aM] (.tu (.cons (.s "known") (.cons (.s "open") .nil))) [some (ab M hs),some (.int (g:Int)),some (vw v),some (.tup [.str (wS w),.fz (l.map f)]),some (.str (wS w)),some (.fz (l.map f)),none,none,none] []=some (.tup [.str "known",.str "open"],[]):=rfl;simp only [ax,am,aq,bind_some,e1,Do,map_some];cases (wK w || wO w) with
  | false=>rfl
  | true =>
   simp only [Bool.not_true,z5,if_false,a8,eL,jy,bind_some,jZ,bL,map_some,Bool.true_and]
 by_cases hc:((wK w || wO w) && RB α lt l)=true
 ·rw [hc] at tst
  rw [zC] at hc;refine bN (sl':=[some (ab M hs),some (.int (g:Int)),some (vw v),some (.tup [.str (wS w),.fz (l.map f)]),some (.str (wS w)),some (.fz (l.map f)),none,none,none]) (st':=[]) (by rw [aI,tst];rfl) (h2 hc.2 hc.1)
 ·rw [Bool.not_eq_true] at hc
  rw [hc] at tst;have:r=false:=by
   cases hw:(wK w || wO w) with
   | false=>exact h0 hw
   | true=>rw [hw,Bool.true_and] at hc;exact h1 hc
  rw [this];refine aU (s:=.iff _ _ _) ?_;rw [aI,tst];rfl
theorem Ad {M:Nat}{hs:List (List Nat)} (hk:HK M hs) {g v:Nat} (hv:v < 2 ^ M) {P:List (Int × Int)} (hl:P.length <= 200):pm aB [ab M hs,.int (g:Int),vw v,.tup [.str (wS .k),.fz (P.map aG)]] st=some (.bl (dL hs g v P),st):=by
 refine eO (w:=.k) (fun _ _ _=>k7) (fun _=>cM) hl (fun h=>by cases h) (fun h=>by unfold dL;rw [h];simp) fun hr _=>?_
 refine aU (s:=.iff _ _ _) ?_;rw [aI,a8];simp only [ax,cW,am,aq,bind_some,kg,map_some,wK,_root_.if_true];refine aw (sl':=[some (ab M hs),some (.int (g:Int)),some (vw v),some (.tup [.str (wS .k),.fz (P.map aG)]),some (.str (wS .k)),some (.fz (P.map aG)),some (.fz ((cb hs g).map pV)),none,none]) (st':=[]) ?_ ?_
 ·simp only [bB,a9,ad,aj,ax,am,aq,bind_some,aO,bd,gF hk,bT];rfl
 have hi:bR [af,au,ar,ai,aM] (.e (.v 5)) [some (ab M hs),some (.int (g:Int)),some (vw v),some (.tup [.str (wS .k),.fz (P.map aG)]),some (.str (wS .k)),some (.fz (P.map aG)),some (.fz ((cb hs g).map pV)),none,none] []=some (⟨P.map aG,[]⟩,[]):=rfl;have go:=dM (k:=1) (t:=.nm 9) (c:=.so (.cmp .NotIn (.v 9) (.v 6))) (e:=.v 9) hi rfl oM (B:=fun p=>!cO hs g p) (F:=aG) fun p _=>⟨[some (ab M hs),some (.int (g:Int)),some (vw v),some (.tup [.str (wS .k),.fz (P.map aG)]),some (.str (wS .k)),some (.fz (P.map aG)),some (.fz ((cb hs g).map pV)),none,none,some (aG p)],rfl,by
  simp only [fV,a8,ax,am,aq,bind_some,BH,map_some],fun _=>rfl⟩
 have tst:tv [af,au,ar,ai,aM] (.cmp .NotEq (.nw false (.lc 1 (.e (.v 5)) (.nm 9) (.so (.cmp .NotIn (.v 9) (.v 6))) (.v 9))) (.nw false (.li .nil))) [some (ab M hs),some (.int (g:Int)),some (vw v),some (.tup [.str (wS .k),.fz (P.map aG)]),some (.str (wS .k)),some (.fz (P.map aG)),some (.fz ((cb hs g).map pV)),none,none] []=some (!(P.all (cO hs g)),[]):=by
  rw [a8,ce,go,bind_some,cm cM,bind_some];dsimp only;rw [jy,bind_some];dsimp only;rw [mS,map_some];congr 3;rw [Bool.eq_iff_iff,List.isEmpty_iff,List.filter_eq_nil_iff,yK];simp
 cases ha:P.all (cO hs g) with
 | false =>
  rw [ha] at tst;have:dL hs g v P=false:=by unfold dL;rw [ha];rfl
  rw [this];exact gq (s:=.iff _ _ _) (by rw [aI,tst];rfl)
 | true =>
  rw [ha] at tst;have:dL hs g v P=decide (cZ hs (P.map fun p=>(p.1.toNat,p.2.toNat))=v):=by unfold dL;rw [ha,hr];rfl
  rw [this];obtain ⟨Q,rfl,hQ⟩:=wv (yK.mp ha);rw [back];refine aw (by rw [aI,tst];rfl) (gq ?_);have e1:pm au [ab M hs,.fz ((Q.map mE).map aG)] ([]:aa)=some (.int ((cZ hs Q:Nat):Int),[]):=by rw [nN];exact qb hk hQ
  have e0:pm ar [vw v] ([]:aa)=some (.int (v:Int),[]):=(fG (iW hv hk.m)).2;have e2:decide (((cZ hs Q:Nat):Int)=(v:Int))=decide (cZ hs Q=v):=decide_eq_decide.mpr oM;simp only [ci,bX,a9,ad,aj,ax,am,aq,bind_some,aO,bd,bz,e1,e0,gS,dN,e2,map_some]
theorem Ae {M:Nat}{hs:List (List Nat)} (hk:HK M hs) {g v:Nat}{l:List Int} (h:l ≠ []) (hl:l.length <= 200):pm aB [ab M hs,.int (g:Int),vw v,.tup [.str (wS .k),.fz (iL l)]] st=some (.bl false,st):=by
 refine eO (w:=.k) (f:=AV.int) (lt:=gi) (fun _ _ _=>k6) (fun _=>bS) hl (fun _=>rfl) (fun _=>rfl) fun hr _=>?_
 refine aU (s:=.iff _ _ _) ?_;rw [aI,a8];simp only [ax,cW,am,aq,bind_some,kg,map_some,wK,_root_.if_true];refine aw (sl':=[some (ab M hs),some (.int (g:Int)),some (vw v),some (.tup [.str (wS .k),.fz (iL l)]),some (.str (wS .k)),some (.fz (iL l)),some (.fz ((cb hs g).map pV)),none,none]) (st':=[]) ?_ ?_
 ·simp only [bB,a9,ad,aj,ax,am,aq,bind_some,aO,bd,gF hk,bT];rfl
 have hi:bR [af,au,ar,ai,aM] (.e (.v 5)) [some (ab M hs),some (.int (g:Int)),some (vw v),some (.tup [.str (wS .k),.fz (iL l)]),some (.str (wS .k)),some (.fz (iL l)),some (.fz ((cb hs g).map pV)),none,none] []=some (⟨l.map AV.int,[]⟩,[]):=rfl;have go:=dM (k:=1) (t:=.nm 9) (c:=.so (.cmp .NotIn (.v 9) (.v 6))) (e:=.v 9) hi rfl oM (B:=fun _=>true) (F:=AV.int) fun p _=>⟨[some (ab M hs),some (.int (g:Int)),some (vw v),some (.tup [.str (wS .k),.fz (iL l)]),some (.str (wS .k)),some (.fz (iL l)),some (.fz ((cb hs g).map pV)),none,none,some (.int p)],rfl,by
  simp only [fV,a8,ax,am,aq,bind_some,BI,map_some],fun _=>rfl⟩
 rw [List.filter_eq_self.mpr fun _ _=>rfl] at go;have go:dR _ _ _ _=some (iL l,[]):=go;refine gq (s:=.iff _ _ _) ?_;rw [aI,a8,ce,go,bind_some,cm bS,bind_some];dsimp only;rw [jy,bind_some];dsimp only;rw [jZ];cases l with
 | nil=>exact absurd rfl h
 | cons=>rfl
theorem Ab {M:Nat}{hs:List (List Nat)}{g v:Nat}{P:List (Int × Int)} (h:P ≠ []) (hl:P.length <= 200):pm aB [ab M hs,.int (g:Int),vw v,.tup [.str (wS .o),.fz (P.map aG)]] st=some (.bl false,st):=by
 refine eO (w:=.o) (fun _ _ _=>k7) (fun _=>cM) hl (fun _=>rfl) (fun _=>rfl) fun hr _=>?_
 refine bN (sl':=[some (ab M hs),some (.int (g:Int)),some (vw v),some (.tup [.str (wS .o),.fz (P.map aG)]),some (.str (wS .o)),some (.fz (P.map aG)),none,none,none]) (st':=[]) ?_ (aU (s:=.iff _ _ _) ?_)
 ·rw [aI,a8]
  simp only [ax,cW,am,aq,bind_some,kg,map_some,wK,z5,if_false,fO]
 have hi:bR [af,au,ar,ai,aM] (.e (.v 5)) [some (ab M hs),some (.int (g:Int)),some (vw v),some (.tup [.str (wS .o),.fz (P.map aG)]),some (.str (wS .o)),some (.fz (P.map aG)),none,none,none] []=some (⟨P.map aG,[]⟩,[]):=rfl;have go:=dM (k:=1) (t:=.nm 9) (c:=.so (.or (.va (.is "tuple" (.v 9))) (.no (.ch .LtE .Lt (.i 0) (.v 9) (.ix (.v 0) (.i 0)))))) (e:=.v 9) hi rfl oM (B:=fun _=>true) (F:=aG) fun p _=>⟨[some (ab M hs),some (.int (g:Int)),some (vw v),some (.tup [.str (wS .o),.fz (P.map aG)]),some (.str (wS .o)),some (.fz (P.map aG)),none,none,none,some (aG p)],rfl,by
  rw [fV,dj,d5,i3 (x:=aG p) rfl rfl tt];rfl,fun _=>rfl⟩
 rw [List.filter_eq_self.mpr fun _ _=>rfl] at go;rw [aI,a8,ce,go,bind_some,cm cM,bind_some];dsimp only;rw [jy,bind_some];dsimp only;rw [mS];cases P with
 | nil=>exact absurd rfl h
 | cons=>rfl
theorem Ac {M:Nat}{hs:List (List Nat)} (hk:HK M hs) {g v:Nat} (hv:v < 2 ^ M) {l:List Int} (hl:l.length <= 200):pm aB [ab M hs,.int (g:Int),vw v,.tup [.str (wS .o),.fz (iL l)]] st=some (.bl (dI M hs g v l),st):=by
 have hM:=hk.m;refine eO (w:=.o) (f:=AV.int) (lt:=gi) (fun _ _ _=>k6) (fun _=>bS) hl (fun h=>by cases h) (fun h=>by unfold dI;rw [h];simp) fun hr _=>?_
 refine bN (sl':=[some (ab M hs),some (.int (g:Int)),some (vw v),some (.tup [.str (wS .o),.fz (iL l)]),some (.str (wS .o)),some (.fz (iL l)),none,none,none]) (st':=[]) ?_ ?_
 ·rw [aI,a8]
  simp only [ax,cW,am,aq,bind_some,kg,map_some,wK,z5,if_false,fO];rfl
 have hi:bR [af,au,ar,ai,aM] (.e (.v 5)) [some (ab M hs),some (.int (g:Int)),some (vw v),some (.tup [.str (wS .o),.fz (iL l)]),some (.str (wS .o)),some (.fz (iL l)),none,none,none] []=some (⟨l.map AV.int,[]⟩,[]):=rfl;have go:=dM (k:=1) (t:=.nm 9) (c:=.so (.or (.va (.is "tuple" (.v 9))) (.no (.ch .LtE .Lt (.i 0) (.v 9) (.ix (.v 0) (.i 0)))))) (e:=.v 9) hi rfl oM (B:=fun i=>!c8 M i) (F:=AV.int) fun i _=>⟨[some (ab M hs),some (.int (g:Int)),some (vw v),some (.tup [.str (wS .o),.fz (iL l)]),some (.str (wS .o)),some (.fz (iL l)),none,none,none,some (.int i)],rfl,by
  rw [fV,dj,d5,i3 (x:=.int i) rfl rfl it];simp only [bind_some,cT,map_some,z5,if_false,fQ,Ds,ax,aW,bf,am,aq,Es];unfold c8;by_cases d1:0 <= i
  ·simp only [yO d1,_root_.if_true,hW,map_some,bind_some,j8,Bool.true_and]
  ·simp only [z4 d1,z5,if_false,bind_some,Bool.false_and],fun _=>rfl⟩
 have tst:tv [af,au,ar,ai,aM] (.cmp .NotEq (.nw false (.lc 1 (.e (.v 5)) (.nm 9) (.so (.or (.va (.is "tuple" (.v 9))) (.no (.ch .LtE .Lt (.i 0) (.v 9) (.ix (.v 0) (.i 0)))))) (.v 9))) (.nw false (.li .nil))) [some (ab M hs),some (.int (g:Int)),some (vw v),some (.tup [.str (wS .o),.fz (iL l)]),some (.str (wS .o)),some (.fz (iL l)),none,none,none] []=some (!(l.all (c8 M)),[]):=by
  rw [a8,ce,go,bind_some,cm (xs:=(l.filter fun i=>!c8 M i).map AV.int) bS,bind_some];dsimp only;rw [jy,bind_some];dsimp only;have:bj .NotEq ([]:aa) (.fz ((l.filter fun i=>!c8 M i).map AV.int)) (.fz [])=some (!(l.filter fun i=>!c8 M i).isEmpty):=jZ;rw [this,map_some];congr 3;rw [Bool.eq_iff_iff,List.isEmpty_iff,List.filter_eq_nil_iff,yK];simp
 cases ha:l.all (c8 M) with
 | false =>
  rw [ha] at tst;have:dI M hs g v l=false:=by unfold dI;rw [ha];rfl
  rw [this];exact aU (s:=.iff _ _ _) (by rw [aI,tst];rfl)
 | true =>
  rw [ha] at tst;have es:dI M hs g v l=(par 41 (v &&& S2 (l.map Int.toNat)) && !(gm hs g).any fun m=>par 41 (m &&& S2 (l.map Int.toNat))):=by unfold dI;rw [ha,hr];rfl
  rw [es];refine bN (by rw [aI,tst];rfl) ?_;obtain ⟨m,rfl,hm⟩:=ww (yK.mp ha);rw [uj,sQ];rw [zH] at hl;have eM:pm ar [.fz (nL m)] ([]:aa)=some (.int ((S2 m:Nat):Int),[]):=(p9 (fun c hc=>by have:=hm c hc;omega) oM).2;have key:∃ r,(av [af,au,ar,ai,aM] (.cons (.as (.ca true 2 (.cons (.v 5) .nil)) (.nm 7)) (.cons (.fo (.e (.ca true 3 (.cons (.v 0) (.cons (.v 1) .nil)))) (.nm 8) (.cons (.iff (.va (.ca true 4 (.cons (.bin .BitAnd (.v 8) (.v 7)) .nil))) (.cons (.rt (.b false)) .nil) .nil) .nil)) (.cons (.rt (.ca true 4 (.cons (.bin .BitAnd (.ca true 2 (.cons (.v 2) .nil)) (.v 7)) .nil))) .nil))) [some (ab M hs),some (.int (g:Int)),some (vw v),some (.tup [.str (wS .o),.fz (nL m)]),some (.str (wS .o)),some (.fz (nL m)),none,none,none] []).bind aA=some r/\r=(.bl (par 41 (v &&& S2 m) && !(gm hs g).any fun x=>par 41 (x &&& S2 m)),[]):=by
   refine aN (sl':=[some (ab M hs),some (.int (g:Int)),some (vw v),some (.tup [.str (wS .o),.fz (nL m)]),some (.str (wS .o)),some (.fz (nL m)),none,some (.int ((S2 m:Nat):Int)),none]) (st':=[]) ?_ ?_
   ·simp only [bB,a9,ad,aj,ax,am,aq,bind_some,aO,bd,bz,eM,bT];rfl
   refine uK (gd:=[]) (xs:=gm hs g) (em:=fun q:Nat=>AV.int (q:Int)) (fun i sl st=>(∃ y,sl=[some (ab M hs),some (.int (g:Int)),some (vw v),some (.tup [.str (wS .o),.fz (nL m)]),some (.str (wS .o)),some (.fz (nL m)),none,some (.int ((S2 m:Nat):Int)),y])/\st=[]/\∀ j x,j < i->(gm hs g)[j]?=some x->par 41 (x &&& S2 m)=false) (fun r st=>r=.bl false/\st=[]/\∃ x ∈ gm hs g,par 41 (x &&& S2 m)=true) ?_ (fun _ _ _ _=>rfl) ⟨⟨none,rfl⟩,rfl,fun j x h=>by omega⟩ (fun i x sl st hx hI=>?_) (fun sl' st' hI=>?_) fun r st' hP=>?_
   ·simp only [m9,a9,ad,aj,ax,am,aq,bind_some,aO,bd,bz,mW hk,lZ,map_some];rfl
   ·obtain ⟨⟨y,rfl⟩,rfl,hj⟩:=hI
    have tt:tv [af,au,ar,ai,aM] (.va (.ca true 4 (.cons (.bin .BitAnd (.v 8) (.v 7)) .nil))) [some (ab M hs),some (.int (g:Int)),some (vw v),some (.tup [.str (wS .o),.fz (nL m)]),some (.str (wS .o)),some (.fz (nL m)),none,some (.int ((S2 m:Nat):Int)),some (.int (x:Int))] []=some (par 41 (x &&& S2 m),[]):=by
     simp only [d5,a9,ad,aj,aP,ax,am,aq,bind_some,oN,map_some,aO,bd,bz,nZ,cT]
    cases hb:par 41 (x &&& S2 m) with
    | false =>
     rw [hb] at tt;refine ⟨([some (ab M hs),some (.int (g:Int)),some (vw v),some (.tup [.str (wS .o),.fz (nL m)]),some (.str (wS .o)),some (.fz (nL m)),none,some (.int ((S2 m:Nat):Int)),some (.int (x:Int))],[]),_,rfl,aw (by rw [aI,tt];rfl) rfl,.inl ⟨_,_,rfl,⟨_,rfl⟩,rfl,fun j z h hz=>?_⟩⟩;by_cases e:j=i
     ·subst e;rw [hx] at hz;cases hz;exact hb
     ·exact hj j z oM hz
    | true =>
     rw [hb] at tt;exact ⟨([some (ab M hs),some (.int (g:Int)),some (vw v),some (.tup [.str (wS .o),.fz (nL m)]),some (.str (wS .o)),some (.fz (nL m)),none,some (.int ((S2 m:Nat):Int)),some (.int (x:Int))],[]),_,rfl,gq (s:=.iff _ _ _) (by rw [aI,tt];rfl),.inr ⟨_,_,rfl,rfl,rfl,x,zV hx,hb⟩⟩
   ·obtain ⟨⟨y,rfl⟩,rfl,hj⟩:=hI
    have an:(gm hs g).any (fun x=>par 41 (x &&& S2 m))=false:=by
     rw [List.any_eq_false];intro x hx;obtain ⟨j,hj'⟩:=List.getElem?_of_mem hx;rw [hj j x (zB.mp hj').1 hj'];simp
    rw [an];refine br (v:=.bl (par 41 (v &&& S2 m))) (st':=[]) ?_ (by simp);have e0:pm ar [vw v] ([]:aa)=some (.int (v:Int),[]):=(fG (iW hv hM)).2;simp only [ci,a9,ad,aj,aP,ax,am,aq,bind_some,oN,map_some,aO,bd,bz,e0,nZ]
   ·obtain ⟨rfl,rfl,x,hx,hb⟩:=hP
    have an:(gm hs g).any (fun x=>par 41 (x &&& S2 m))=true:=List.any_eq_true.mpr ⟨x,hx,hb⟩;rw [an];simp
  obtain ⟨r,e,rfl⟩:=key;exact e
theorem ud {M:Nat}{hs:List (List Nat)}{g v:Nat}{w:Wo} (hw:(wK w || wO w)=false) {α:Type}{f:α->AV}{lt:α->α->Bool} (hlt:∀ a b st,bj .Lt st (f a) (f b)=some (lt a b)) (hf:∀ l:List α,rfs (l.map f)=true) {l:List α} (hl:l.length <= 200):pm aB [ab M hs,.int (g:Int),vw v,.tup [.str (wS w),.fz (l.map f)]] st=some (.bl false,st) :=
 eO hlt hf hl (fun _=>rfl) (fun _=>rfl) fun _ h=>by rw [hw] at h;cases h
theorem d4 {M:Nat}{hs:List (List Nat)}{g v:Nat}{w:Wo}{X:List AV}{r:Bool} (hx:rfs X=true) (h1:wK w=true->pm bh [ab M hs,.int (g:Int),vw v,.fz X] ([]:aa)=some (.bl r,[])) (h2:wO w=true->pm bq [ab M hs,.int (g:Int),vw v,.fz X] ([]:aa)=some (.bl r,[])) (h3:(wK w || wO w)=false->r=false):pm ay [ab M hs,.int (g:Int),vw v,.tup [.str (wS w),.fz X]] st=some (.bl r,st):=by
 refine a0 (by simp [vw]) (v:=.bl r) (st':=[]) ?_ rfl;rw [ay,bv];show (av [bh,bq] dO [some (ab M hs),some (.int (g:Int)),some (vw v),some (.tup [.str (wS w),.fz X])] []).bind aA=_;cases hk:wK w with
 | true =>
  refine aU (s:=.iff _ _ _) ?_;simp only [aI,a8,bf,ax,aW,cW,am,aq,bind_some,jr,ou,map_some,kg,hk,_root_.if_true,c0,ci,a9,ad,aj,aO,bd,h1 hk,fF]
 | false =>
  refine bN (sl':=[some (ab M hs),some (.int (g:Int)),some (vw v),some (.tup [.str (wS w),.fz X])]) (st':=[]) ?_ (aU ?_)
  ·simp only [aI,a8,bf,ax,aW,cW,am,aq,bind_some,jr,map_some,kg,hk,z5,if_false,fO]
  ·cases ho:wO w with
   | true=>simp only [ci,gu,bX,bf,ax,aW,cW,am,aq,bind_some,jr,ou,map_some,gS,wt,ho,io,_root_.if_true,a9,ad,aj,aO,bd,bz,h2 ho]
   | false =>
    have:r=false:=h3 (by rw [hk,ho];rfl);simp only [ci,gu,bX,bf,ax,aW,cW,am,aq,bind_some,jr,ou,map_some,gS,wt,ho,io,z5,if_false,this]
def AC (n:Nat) (X:List AV):Prop:=(∃ P:List (Int × Int),X=P.map aG/\P.length <= n)\/∃ l:List Int,X=iL l/\l.length <= n
theorem Aq {M:Nat}{hs:List (List Nat)} (hk:HK M hs) {g v:Nat} (hv:v < 2 ^ M) (w:Wo) {X:List AV} (hX:AC 200 X):∃ r,pm ay [ab M hs,.int (g:Int),vw v,.tup [.str (wS w),.fz X]] st=some (.bl r,st)/\pm aB [ab M hs,.int (g:Int),vw v,.tup [.str (wS w),.fz X]] st=some (.bl r,st):=by
 have pairs:∀ P:List (Int × Int),P.length <= 200->wO w=false\/P ≠ []->∃ r,pm ay [ab M hs,.int (g:Int),vw v,.tup [.str (wS w),.fz (P.map aG)]] st=some (.bl r,st)/\pm aB [ab M hs,.int (g:Int),vw v,.tup [.str (wS w),.fz (P.map aG)]] st=some (.bl r,st):=fun P hl hP=>by
  cases w with
  | k=>exact ⟨_,d4 cM (fun _=>rh hk hv hl) (fun h=>by cases h) (fun h=>by cases h),Ad hk hv hl⟩
  | o =>
   have hP:P ≠ []:=hP.resolve_left fun h=>by cases h
   exact ⟨false,d4 cM (fun h=>by cases h) (fun _=>nI hP oM) (fun h=>by cases h),Ab hP hl⟩
  | _=>exact ⟨false,d4 cM (fun h=>by cases h) (fun h=>by cases h) (fun _=>rfl),ud rfl (fun _ _ _=>k7) (fun _=>cM) hl⟩
 have ins:∀ l:List Int,l.length <= 200->wK w=false\/l ≠ []->∃ r,pm ay [ab M hs,.int (g:Int),vw v,.tup [.str (wS w),.fz (iL l)]] st=some (.bl r,st)/\pm aB [ab M hs,.int (g:Int),vw v,.tup [.str (wS w),.fz (iL l)]] st=some (.bl r,st):=fun l hl hP=>by
  cases w with
  | k =>
   have hP:l ≠ []:=hP.resolve_left fun h=>by cases h
   exact ⟨false,d4 bS (fun _=>rj hP oM) (fun h=>by cases h) (fun h=>by cases h),Ae hk hP hl⟩
  | o=>exact ⟨_,d4 bS (fun h=>by cases h) (fun _=>nH hk hl) (fun h=>by cases h),Ac hk hv hl⟩
  | _=>exact ⟨false,d4 bS (fun h=>by cases h) (fun h=>by cases h) (fun _=>rfl),ud (f:=AV.int) (lt:=gi) rfl (fun _ _ _=>k6) (fun _=>bS) hl⟩
 rcases hX with ⟨P,rfl,hl⟩ | ⟨l,rfl,hl⟩
 ·by_cases h:P=[]
  ·subst h
   cases hw:wO w with
   | false=>exact pairs [] hl (.inl hw)
   | true=>exact ins [] (by simp) (.inl (by cases w <;> first | rfl | cases hw))
  ·exact pairs P hl (.inr h)
 ·by_cases h:l=[]
  ·subst h
   cases hw:wK w with
   | false=>exact ins [] hl (.inl hw)
   | true=>exact pairs [] (by simp) (.inl (by cases w <;> first | rfl | cases hw))
  ·exact ins l hl (.inr h)
end
section
variable {ks:List Fn}{sl:Sl}{st:aa}
theorem wc {α:Type}{f:α->AV}{l:List α}{a b:Option Int}:cut (l.map f) a b=(cut l a b).map f:=by
 unfold cut;rw [zH,List.map_take,List.map_drop]
theorem ie {α:Type}{l:List α}{a b:Option Int}:(cut l a b).length <= l.length:=by
 unfold cut;simp only [List.length_take,List.length_drop];omega
theorem wQ {α:Type}{f:α->AV}{l:List α}{lt:Nat->Nat->Option Bool}{lb:Nat->Nat->Bool}{a:Ex} (h:ev ks a sl st=some (.fz (l.map f),st)) (hf:∀ l:List α,rfs (l.map f)=true) (hs:iu (l.map f)=some lt) (hl:l.length < 64) (hlt:∀ i j,i < l.length->j < l.length->lt i j=some (lb i j)):∃ l':List α,ev ks (.nw false (.srt a)) sl st=some (.fz (l'.map f),st)/\l'.length=l.length:=by
 obtain ⟨q,e,hp⟩:=rg hlt hl;have hq:∀ i ∈ q,i < l.length:=fun i hi=>List.mem_range.mp (hp.mem_iff.mp hi)
 have:∀ q:List Nat,(∀ i ∈ q,i < l.length)->∃ l':List α,(q.map fun i=>(l.map f).getD i .non)=l'.map f/\l'.length=q.length:=fun q=>by
  induction q with
  | nil=>intro _;exact ⟨[],rfl,rfl⟩
  | cons i q ih =>
   intro h;obtain ⟨l',e,hl'⟩:=ih fun j hj=>h j (zP _ hj)
   have hi:=h i (z3 ..);refine ⟨l[i]::l',?_,by simp [hl']⟩;rw [zN,e,zD,zQ,zF hi];rfl
 obtain ⟨l',e',hl'⟩:=this q hq;refine ⟨l',?_,by rw [hl',hp.length_eq,List.length_range]⟩;rw [ce,BK];unfold tR;rw [h,bind_some];dsimp only;rw [cD,bind_some,hs,bind_some,zH,e,map_some,bind_some,e'];exact cm (hf l')
theorem A1 {l:List Int}:iu (l.map AV.int)=some (kr l):=by unfold iu;rw [show l.map AV.int=iL l from rfl,v3]
theorem A0 {l:List (Int × Int)} (h:l ≠ []):iu (l.map aG)=some (kq (l.map fun p=>[p.1,p.2])):=by
 unfold iu;cases l with
 | nil=>exact absurd rfl h
 | cons p l =>
  have h1:dz ((p::l).map aG)=none:=rfl;have h2:aT lr ((p::l).map aG)=some ((p::l).map fun p=>[p.1,p.2]):=bO (f:=lr) (i:=aG) (g:=fun p=>[p.1,p.2]) (fun _=>rfl) _;rw [h1,h2];rfl
theorem sJ {l:List Int} (i j:Nat) (hi:i < l.length) (hj:j < l.length):kr l i j=some (decide (l.getD i 0 < l.getD j 0)):=by
 unfold kr;rw [zF hi,zF hj,zD,zD,zF hi,zF hj];rfl
theorem sI {l:List (List Int)} (i j:Nat) (hi:i < l.length) (hj:j < l.length):kq l i j=some (PySem.W.gG (decide ((l.getD i []).length < (l.getD j []).length)) (l.getD i []) (l.getD j [])):=by
 unfold kq;rw [zF hi,zF hj,zD,zD,zF hi,zF hj];rfl
theorem k9 {α:Type}{f:α->AV}{l l':List α}{a b:Ex} (h1:ev ks a sl st=some (.fz (l.map f),st)) (h2:ev ks b sl st=some (.fz (l'.map f),st)) (hf:∀ l:List α,rfs (l.map f)=true) (hl:l.length + l'.length <= 1000):ev ks (.nw false (.cat a b)) sl st=some (.fz ((l++l').map f),st):=by
 rw [ce,n6];unfold j0;rw [h1,bind_some];dsimp only;rw [h2,bind_some];dsimp only;rw [cD,bind_some,cD,bind_some,yE (g6 (by simpa using hl)),<- List.map_append,bind_some];exact cm (hf _)
theorem nS {α:Type}{f:α->AV}{l:List α}{a:Ex}{lo hi:Ox}{x y:Option Int} (h1:ev ks a sl st=some (.fz (l.map f),st)) (h2:gL ks lo sl st=some (x,st)) (h3:gL ks hi sl st=some (y,st)) (hf:∀ l:List α,rfs (l.map f)=true):ev ks (.nw false (.sl a lo hi)) sl st=some (.fz ((cut l x y).map f),st):=by
 rw [ce,yp];unfold pZ;rw [h1,bind_some];dsimp only;rw [h2,bind_some];dsimp only;rw [h3,bind_some];dsimp only;rw [cD,map_some,wc,bind_some];exact cm (hf _)
theorem A6 {α:Type}{f:α->AV}{l:List α}{a:Ex} (h1:ev ks a sl st=some (.fz (l.map f),st)) (hf:∀ l:List α,rfs (l.map f)=true):ev ks (.nw false (.rev a (.un .USub (.i 1)))) sl st=some (.fz (l.reverse.map f),st):=by
 rw [ce];show ((n9 (ev ks a) (ev ks (.un .USub (.i 1))) sl st).bind _)=_;unfold n9;rw [h1,bind_some];show (Option.bind (some ((l.map f).reverse,st)) _)=_;rw [<- List.map_reverse,bind_some];exact cm (hf _)
theorem AO {w:Wo} (h:ev ks (.v 4) sl st=some (.str (wS w),st)):ev ks (.ix (.nw false (.li (.cons (.s "open") (.cons (.s "known") .nil)))) (.bi .int (.cons (.cmp .Eq (.v 4) (.s "open")) .nil))) sl st=some (.str (wS (if wO w=true then .k else .o)),st):=by
 rw [bf,show ev ks (.nw false (.li (.cons (.s "open") (.cons (.s "known") .nil)))) sl st=some (.fz [.str "open",.str "known"],st) from rfl,bind_some];dsimp only;simp only [bK,ad,aj,bX,h,cW,bind_some,gS,wt,map_some];cases wO w <;> rfl
theorem AN (o:Nat):∃ w':Wo,∀ (ks:List Fn) (sl:Sl) (st:aa),ev ks (.v 8) sl st=some (.int (o:Int),st)->ev ks (.ix (.nw false (.li (.cons (.s "") (.cons (.s "Known") (.cons (.s "opened") (.cons (.s "o") .nil)))))) (.bin .Mod (.v 8) (.i 4))) sl st=some (.str (wS w'),st):=by
 obtain ⟨w',hw'⟩:∃ w':Wo,∀ st:aa,cg st (.fz [.str "",.str "Known",.str "opened",.str "o"]) (.int ((o % 4:Nat):Int))=some (.str (wS w')):=by
  have:o % 4=0\/o % 4=1\/o % 4=2\/o % 4=3:=by omega
  rcases this with e | e | e | e <;> rw [e]
  ·exact ⟨.a,fun _=>rfl⟩
  ·exact ⟨.b,fun _=>rfl⟩
  ·exact ⟨.c,fun _=>rfl⟩
  ·exact ⟨.d,fun _=>rfl⟩
 refine ⟨w',fun ks sl st h=>?_⟩;have e:bn .Mod st (.int (o:Int)) (.int 4)=some (.int ((o % 4:Nat):Int)):=eZ (b:=4) dC;rw [bf,show ev ks (.nw false (.li (.cons (.s "") (.cons (.s "Known") (.cons (.s "opened") (.cons (.s "o") .nil)))))) sl st=some (.fz [.str "",.str "Known",.str "opened",.str "o"],st) from rfl,bind_some];dsimp only;simp only [aP,h,aW,bind_some,e,map_some,hw']
theorem DX {a b:Nat}:bM j2 [.int (a:Int),.int (b:Int)] st=some (.int ((max a b:Nat):Int),st):=by
 show some (AV.int (if (b:Int) > (a:Int) then (b:Int) else (a:Int)),st)=_;have:(if (b:Int) > (a:Int) then (b:Int) else (a:Int))=((max a b:Nat):Int):=by split <;> omega
 rw [this]
theorem l6 {a b:Nat} (h:0 < b) (hb:b < 2 ^ 62):bn .FloorDiv st (.int (a:Int)) (.int (b:Int))=some (.int ((a / b:Nat):Int)):=by
 rw [fY (qr oM (zJ (by rw [Int.natAbs_natCast];exact hb) (Nat.pow_le_pow_right dC dC))),ib oM];rfl
theorem Bu:bn .Pow st (.int 10) (.int 30)=some (.int 1000000000000000000000000000000):=by kernel_rfl
theorem Da {α:Type}{x0 x1 x2 x3 x4 x5 x6 x7:α}{f:α->AV}{i:Nat} (h:i < 8):∃ x ∈ [x0,x1,x2,x3,x4,x5,x6,x7],cg st (.fz [f x0,f x1,f x2,f x3,f x4,f x5,f x6,f x7]) (.int (i:Int))=some (f x):=by
 have:i=0\/i=1\/i=2\/i=3\/i=4\/i=5\/i=6\/i=7:=by omega
 rcases this with rfl | rfl | rfl | rfl | rfl | rfl | rfl | rfl
 ·exact ⟨x0,by simp,rfl⟩
 ·exact ⟨x1,by simp,rfl⟩
 ·exact ⟨x2,by simp,rfl⟩
 ·exact ⟨x3,by simp,rfl⟩
 ·exact ⟨x4,by simp,rfl⟩
 ·exact ⟨x5,by simp,rfl⟩
 ·exact ⟨x6,by simp,rfl⟩
 ·exact ⟨x7,by simp,rfl⟩
theorem qC {α:Type}{f:α->AV} (hf:∀ l:List α,rfs (l.map f)=true) {l:List α} (hl:l.length <= 41) {w:Wo}{c n M:Nat}
  (hm:∃ x:α,∀ y9,cq [] (.iff (.cmp .Eq (.v 4) (.s "known")) (.cons (.as (.ix (.nw false (.li (.cons (.tu (.cons (.v 8) (.cons (.i 0) .nil))) (.cons (.tu (.cons (.i 0) (.cons (.bin .Add (.i 3) (.v 8)) .nil))) (.cons (.tu (.cons (.i 0) (.cons (.un .USub (.i 1)) .nil))) (.cons (.tu (.cons (.un .USub (.i 1)) (.cons (.i 0) .nil))) (.cons (.tu (.cons (.v 2) (.cons (.i 0) .nil))) (.cons (.tu (.cons (.i 0) (.cons (.v 8) .nil))) (.cons (.tu (.cons (.i 1) (.cons (.v 8) .nil))) (.cons (.tu (.cons (.i 2) (.cons (.v 8) .nil))) .nil)))))))))) (.bin .Mod (.bin .FloorDiv (.v 1) (.i 350)) (.i 8))) (.nm 9)) .nil) (.cons (.as (.ix (.nw false (.li (.cons (.v 8) (.cons (.v 3) (.cons (.bin .Sub (.un .USub (.i 1)) (.v 8)) (.cons (.bin .Add (.v 3) (.v 8)) (.cons (.bin .Pow (.i 10) (.i 30)) (.cons (.bin .Mult (.v 8) (.i 2)) (.cons (.bin .Mult (.v 8) (.i 3)) (.cons (.i 0) .nil)))))))))) (.bin .Mod (.bin .FloorDiv (.v 1) (.i 350)) (.i 8))) (.nm 9)) .nil)) [some (.tup [.str (wS w),.fz (l.map f)]),some (.int (c:Int)),some (.int (n:Int)),some (.int (M:Int)),some (.str (wS w)),some (.fz (l.map f)),some (.int ((c % 14:Nat):Int)),some (.int ((c / 14 % max 1 l.length:Nat):Int)),some (.int ((c / 70 % 5:Nat):Int)),y9] []=some (.nx [some (.tup [.str (wS w),.fz (l.map f)]),some (.int (c:Int)),some (.int (n:Int)),some (.int (M:Int)),some (.str (wS w)),some (.fz (l.map f)),some (.int ((c % 14:Nat):Int)),some (.int ((c / 14 % max 1 l.length:Nat):Int)),some (.int ((c / 70 % 5:Nat):Int)),some (f x)] []))
  (hso:∀ l:List α,l ≠ []->l.length <= 60->∃ (lt:Nat->Nat->Option Bool) (lb:Nat->Nat->Bool),iu (l.map f)=some lt/\∀ i j,i < l.length->j < l.length->lt i j=some (lb i j)) :
  ∃ (w':Wo) (l':List α),l'.length <= 200/\pm aJ [.tup [.str (wS w),.fz (l.map f)],.int (c:Int),.int (n:Int),.int (M:Int)] st=some (.tup [.str (wS w'),.fz (l'.map f)],st):=by
 have key:∃ r,aJ [.tup [.str (wS w),.fz (l.map f)],.int (c:Int),.int (n:Int),.int (M:Int)] []=some r/\∃ (w':Wo) (l':List α),l'.length <= 200/\r=(.tup [.str (wS w'),.fz (l'.map f)],[]):=by
  rw [aJ,bv];show ∃ r,(av [] fA [some (.tup [.str (wS w),.fz (l.map f)]),some (.int (c:Int)),some (.int (n:Int)),some (.int (M:Int)),none,none,none,none,none,none] []).bind aA=some r/\_;obtain ⟨t,ht⟩:∃ t,t=c / 14 % max 1 l.length:=⟨_,rfl⟩;obtain ⟨o,ho⟩:∃ o,o=c / 70 % 5:=⟨_,rfl⟩;obtain ⟨y,hy⟩:∃ y,y=c % 14:=⟨_,rfl⟩;rw [<- ht,<- ho,<- hy] at hm;refine aN (sl':=[some (.tup [.str (wS w),.fz (l.map f)]),some (.int (c:Int)),some (.int (n:Int)),some (.int (M:Int)),some (.str (wS w)),some (.fz (l.map f)),none,none,none,none]) (st':=[]) rfl ?_;refine aN (sl':=[some (.tup [.str (wS w),.fz (l.map f)]),some (.int (c:Int)),some (.int (n:Int)),some (.int (M:Int)),some (.str (wS w)),some (.fz (l.map f)),some (.int (y:Int)),none,none,none]) (st':=[]) ?_ ?_
  ·have e:bn .Mod ([]:aa) (.int (c:Int)) (.int 14)=some (.int (y:Int)):=by rw [hy];exact eZ (b:=14) dC
   simp only [bB,aP,ax,aW,am,aq,bind_some,e,map_some,bT];rfl
  refine aN (sl':=[some (.tup [.str (wS w),.fz (l.map f)]),some (.int (c:Int)),some (.int (n:Int)),some (.int (M:Int)),some (.str (wS w)),some (.fz (l.map f)),some (.int (y:Int)),some (.int (t:Int)),none,none]) (st':=[]) ?_ ?_
  ·have e:bn .FloorDiv ([]:aa) (.int (c:Int)) (.int 14)=some (.int ((c / 14:Nat):Int)):=l6 (b:=14) dC dC
   have e1:bM j2 [.int 1,.int ((l.length:Nat):Int)] ([]:aa)=some (.int ((max 1 l.length:Nat):Int),[]):=DX (a:=1);have e2:bn .Mod ([]:aa) (.int ((c / 14:Nat):Int)) (.int ((max 1 l.length:Nat):Int))=some (.int (t:Int)):=by rw [ht];exact eZ oM
   simp only [bB,aP,bK,ad,aj,ax,aW,am,aq,bind_some,e,cF,cK,zH,qz,e1,e2,map_some,bT];rfl
  refine aN (sl':=[some (.tup [.str (wS w),.fz (l.map f)]),some (.int (c:Int)),some (.int (n:Int)),some (.int (M:Int)),some (.str (wS w)),some (.fz (l.map f)),some (.int (y:Int)),some (.int (t:Int)),some (.int (o:Int)),none]) (st':=[]) ?_ ?_
  ·have e:bn .FloorDiv ([]:aa) (.int (c:Int)) (.int 70)=some (.int ((c / 70:Nat):Int)):=l6 (b:=70) dC dC
   have e2:bn .Mod ([]:aa) (.int ((c / 70:Nat):Int)) (.int 5)=some (.int (o:Int)):=by rw [ho];exact eZ (b:=5) dC
   simp only [bB,aP,ax,aW,am,aq,bind_some,e,e2,map_some,bT];rfl
  have x5:∀ y9,ev ([]:List Fn) (.v 5) [some (.tup [.str (wS w),.fz (l.map f)]),some (.int (c:Int)),some (.int (n:Int)),some (.int (M:Int)),some (.str (wS w)),some (.fz (l.map f)),some (.int (y:Int)),some (.int (t:Int)),some (.int (o:Int)),y9] []=some (.fz (l.map f),[]):=fun _=>rfl
  have o7:gL ([]:List Fn) (.so (.v 7)) [some (.tup [.str (wS w),.fz (l.map f)]),some (.int (c:Int)),some (.int (n:Int)),some (.int (M:Int)),some (.str (wS w)),some (.fz (l.map f)),some (.int (y:Int)),some (.int (t:Int)),some (.int (o:Int)),none] []=some (some (t:Int),[]):=rfl;have o8:gL ([]:List Fn) (.so (.bin .Add (.v 7) (.i 1))) [some (.tup [.str (wS w),.fz (l.map f)]),some (.int (c:Int)),some (.int (n:Int)),some (.int (M:Int)),some (.str (wS w)),some (.fz (l.map f)),some (.int (y:Int)),some (.int (t:Int)),some (.int (o:Int)),none] []=some (some ((t:Int) + 1),[]):=rfl;have rt:∀ (w':Wo) (l':List α) {e1 e2:Ex}{s:Sl}{ss:FU},ev ([]:List Fn) e1 s []=some (.str (wS w'),[])->ev ([]:List Fn) e2 s []=some (.fz (l'.map f),[])->av ([]:List Fn) (.cons (.rt (.tu (.cons e1 (.cons e2 .nil)))) ss) s []=some (.rt (.tup [.str (wS w'),.fz (l'.map f)]) []):=fun w' l' e1 e2 s ss h1 h2=>by
   refine gq ?_;rw [ci,nG,ad,h1,bind_some];dsimp only;rw [ad,h2,bind_some];rfl
  have tq:∀ (q:Nat) (y9:Option AV),tv ([]:List Fn) (.cmp .Eq (.v 6) (.i (q:Int))) [some (.tup [.str (wS w),.fz (l.map f)]),some (.int (c:Int)),some (.int (n:Int)),some (.int (M:Int)),some (.str (wS w)),some (.fz (l.map f)),some (.int (y:Int)),some (.int (t:Int)),some (.int (o:Int)),y9] []=some (decide (y=q),[]):=fun q y9=>by
   have:decide ((y:Int)=(q:Int))=decide (y=q):=decide_eq_decide.mpr oM;simp only [a8,ax,aW,am,aq,bind_some,dN,map_some,this]
  have c1:=ie (l:=l) (a:=none) (b:=some (t:Int));have c2:=ie (l:=l) (a:=some ((t:Int) + 1)) (b:=none);have c3:=ie (l:=l) (a:=some (t:Int)) (b:=some ((t:Int) + 1));have c4:=ie (l:=l) (a:=some (t:Int)) (b:=none);have s1:=nS (lo:=.no) (hi:=.so (.v 7)) (x5 none) rfl o7 hf;have s2:=nS (lo:=.so (.bin .Add (.v 7) (.i 1))) (hi:=.no) (x5 none) o8 rfl hf;have s3:=nS (lo:=.so (.v 7)) (hi:=.so (.bin .Add (.v 7) (.i 1))) (x5 none) o7 o8 hf;have s4:=nS (lo:=.so (.v 7)) (hi:=.no) (x5 none) o7 rfl hf;by_cases h1:y=1
  ·have:=tq 1 none;rw [yO h1] at this
   have this:tv ([]:List Fn) (.cmp .Eq (.v 6) (.i 1)) _ _=_:=this;exact br (s:=.iff _ _ _) (by rw [aI,this];exact rt w _ rfl (k9 s1 s2 hf oM)) ⟨w,_,by rw [zU];omega,rfl⟩
  refine aN (by have:=tq 1 none;rw [z4 h1] at this;have this:tv ([]:List Fn) (.cmp .Eq (.v 6) (.i 1)) _ _=_:=this;rw [aI,this];rfl) ?_;by_cases h2:y=2
  ·have:=tq 2 none;rw [yO h2] at this
   have this:tv ([]:List Fn) (.cmp .Eq (.v 6) (.i 2)) _ _=_:=this;exact br (s:=.iff _ _ _) (by rw [aI,this];exact rt w _ rfl (k9 (k9 s1 s3 hf oM) s4 hf (by rw [zU];omega))) ⟨w,_,by rw [zU,zU];omega,rfl⟩
  refine aN (by have:=tq 2 none;rw [z4 h2] at this;have this:tv ([]:List Fn) (.cmp .Eq (.v 6) (.i 2)) _ _=_:=this;rw [aI,this];rfl) ?_;by_cases h3:y=3
  ·have:=tq 3 none;rw [yO h3] at this
   have this:tv ([]:List Fn) (.cmp .Eq (.v 6) (.i 3)) _ _=_:=this;exact br (s:=.iff _ _ _) (by rw [aI,this];exact rt w l.reverse rfl (A6 (x5 none) hf)) ⟨w,_,by rw [List.length_reverse];omega,rfl⟩
  refine aN (by have:=tq 3 none;rw [z4 h3] at this;have this:tv ([]:List Fn) (.cmp .Eq (.v 6) (.i 3)) _ _=_:=this;rw [aI,this];rfl) ?_;by_cases h4:y=4
  ·have:=tq 4 none;rw [yO h4] at this
   have this:tv ([]:List Fn) (.cmp .Eq (.v 6) (.i 4)) _ _=_:=this;exact br (s:=.iff _ _ _) (by rw [aI,this];exact rt (if wO w=true then .k else .o) l (AO rfl) (x5 none)) ⟨_,l,by omega,rfl⟩
  refine aN (by have:=tq 4 none;rw [z4 h4] at this;have this:tv ([]:List Fn) (.cmp .Eq (.v 6) (.i 4)) _ _=_:=this;rw [aI,this];rfl) ?_;by_cases h5:y=5
  ·have:=tq 5 none;rw [yO h5] at this
   have this:tv ([]:List Fn) (.cmp .Eq (.v 6) (.i 5)) _ _=_:=this;obtain ⟨w',hw'⟩:=AN o;exact br (s:=.iff _ _ _) (by rw [aI,this];exact rt w' l (hw' _ _ _ rfl) (x5 none)) ⟨w',l,by omega,rfl⟩
  refine aN (by have:=tq 5 none;rw [z4 h5] at this;have this:tv ([]:List Fn) (.cmp .Eq (.v 6) (.i 5)) _ _=_:=this;rw [aI,this];rfl) ?_;obtain ⟨x,hx⟩:=hm;refine aN (hx none) ?_;by_cases h6:y < 10
  ·obtain ⟨lt,lb,k1,k2⟩:=hso (l++[x]) (by simp) (by rw [zU,List.length_singleton];omega)
   have e9:ev ([]:List Fn) (.nw false (.li (.cons (.v 9) .nil))) [some (.tup [.str (wS w),.fz (l.map f)]),some (.int (c:Int)),some (.int (n:Int)),some (.int (M:Int)),some (.str (wS w)),some (.fz (l.map f)),some (.int (y:Int)),some (.int (t:Int)),some (.int (o:Int)),some (f x)] []=some (.fz ([x].map f),[]):=by
    rw [ce];show (Option.bind (some ([f x],([]:aa))) _)=_;rw [bind_some];exact cm (hf [x])
   obtain ⟨l',e',hl'⟩:=wQ (k9 (x5 (some (f x))) e9 hf (by rw [List.length_singleton];omega)) hf k1 (by rw [zU,List.length_singleton];omega) k2;refine br (s:=.iff _ _ _) ?_ ⟨w,l',by rw [hl',zU,List.length_singleton];omega,rfl⟩;rw [aI,a8];simp only [ax,aW,am,aq,bind_some,j8,map_some,yO (show (y:Int) < 10 by omega),_root_.if_true];exact rt w l' rfl e'
  ·refine aN (sl':=[some (.tup [.str (wS w),.fz (l.map f)]),some (.int (c:Int)),some (.int (n:Int)),some (.int (M:Int)),some (.str (wS w)),some (.fz (l.map f)),some (.int (y:Int)),some (.int (t:Int)),some (.int (o:Int)),some (f x)]) (st':=[]) ?_ (br rfl ⟨w,l,by omega,rfl⟩)
   rw [aI,a8];simp only [ax,aW,am,aq,bind_some,j8,map_some,z4 (show ¬ (y:Int) < 10 by omega),z5,if_false,fO]
 obtain ⟨r,e,w',l',h,rfl⟩:=key;exact ⟨w',l',h,a0 (by simp) e rfl⟩
end
section
variable {ks:List Fn}{sl:Sl}{st:aa}
theorem DH:∀ l:List (Int × Int),l ≠ []->l.length <= 60->∃ (lt:Nat->Nat->Option Bool) (lb:Nat->Nat->Bool),iu (l.map aG)=some lt/\∀ i j,i < l.length->j < l.length->lt i j=some (lb i j):=fun l h _ =>
 ⟨_,_,A0 h,fun i j hi hj=>sI i j (by simpa using hi) (by simpa using hj)⟩
theorem DI:∀ l:List Int,l ≠ []->l.length <= 60->∃ (lt:Nat->Nat->Option Bool) (lb:Nat->Nat->Bool),iu (l.map AV.int)=some lt/\∀ i j,i < l.length->j < l.length->lt i j=some (lb i j):=fun l _ _ =>
 ⟨_,_,A1,sJ⟩
theorem t6 {c:Nat}{sl:Sl} (h:ev ([]:List Fn) (.v 1) sl []=some (.int (c:Int),[])):ev ([]:List Fn) (.bin .Mod (.bin .FloorDiv (.v 1) (.i 350)) (.i 8)) sl []=some (.int ((c / 350 % 8:Nat):Int),[]):=by
 have e:bn .FloorDiv ([]:aa) (.int (c:Int)) (.int 350)=some (.int ((c / 350:Nat):Int)):=l6 (b:=350) dC dC;have e2:bn .Mod ([]:aa) (.int ((c / 350:Nat):Int)) (.int 8)=some (.int ((c / 350 % 8:Nat):Int)):=eZ (b:=8) dC;simp only [aP,h,aW,bind_some,e,e2,map_some]
theorem Aw {l:List (Int × Int)} (hl:l.length <= 41) {c n M:Nat}:∃ (w':Wo) (l':List (Int × Int)),l'.length <= 200/\pm aJ [.tup [.str (wS .k),.fz (l.map aG)],.int (c:Int),.int (n:Int),.int (M:Int)] st=some (.tup [.str (wS w'),.fz (l'.map aG)],st):=by
 refine qC (fun _=>cM) hl ?_ DH;obtain ⟨o,ho⟩:∃ o,o=c / 70 % 5:=⟨_,rfl⟩;rw [<- ho];obtain ⟨x,_,hx⟩:=Da (st:=[]) (f:=aG) (x0:=((o:Int),0)) (x1:=(0,3 + (o:Int))) (x2:=(0,-1)) (x3:=(-1,0)) (x4:=((n:Int),0)) (x5:=(0,(o:Int))) (x6:=(1,(o:Int))) (x7:=(2,(o:Int))) (i:=c / 350 % 8) oM;refine ⟨x,fun y9=>?_⟩;have ct:=fun (S:Sl) (h:ev ([]:List Fn) (.v 1) S []=some (.int (c:Int),[]))=>t6 h
 rw [aI,a8];simp only [ax,cW,am,aq,bind_some,kg,map_some,wK,_root_.if_true];refine aw ?_ rfl;rw [bB,bf];have tu2:∀ {a b:Ex}{x y:Int}{S:Sl},ev ([]:List Fn) a S []=some (.int x,[])->ev ([]:List Fn) b S []=some (.int y,[])->ev ([]:List Fn) (.tu (.cons a (.cons b .nil))) S []=some (aG (x,y),[]):=fun {a b x y S} h1 h2=>by
  rw [nG,ad,h1,bind_some];dsimp only;rw [ad,h2,bind_some];rfl
 have vsc:∀ {e:Ex}{es:Exs}{S:Sl}{x:AV}{xs:List AV},ev ([]:List Fn) e S []=some (x,[])->cz ([]:List Fn) es S []=some (xs,[])->cz ([]:List Fn) (.cons e es) S []=some (x::xs,[]):=fun h1 h2=>by
  rw [ad,h1,bind_some];dsimp only;rw [h2];rfl
 have el:∀ y4 y5 y6 y7:Option AV,∀ y0,ev ([]:List Fn) (.nw false (.li (.cons (.tu (.cons (.v 8) (.cons (.i 0) .nil))) (.cons (.tu (.cons (.i 0) (.cons (.bin .Add (.i 3) (.v 8)) .nil))) (.cons (.tu (.cons (.i 0) (.cons (.un .USub (.i 1)) .nil))) (.cons (.tu (.cons (.un .USub (.i 1)) (.cons (.i 0) .nil))) (.cons (.tu (.cons (.v 2) (.cons (.i 0) .nil))) (.cons (.tu (.cons (.i 0) (.cons (.v 8) .nil))) (.cons (.tu (.cons (.i 1) (.cons (.v 8) .nil))) (.cons (.tu (.cons (.i 2) (.cons (.v 8) .nil))) .nil)))))))))) [y0,some (.int (c:Int)),some (.int (n:Int)),some (.int (M:Int)),y4,y5,y6,y7,some (.int (o:Int)),y9] []=some (.fz [aG ((o:Int),0),aG (0,3 + (o:Int)),aG (0,-1),aG (-1,0),aG ((n:Int),0),aG (0,(o:Int)),aG (1,(o:Int)),aG (2,(o:Int))],[]):=fun y4 y5 y6 y7 y0=>by
  rw [ce,eC,vsc (tu2 rfl rfl) (vsc (tu2 rfl rfl) (vsc (tu2 rfl rfl) (vsc (tu2 rfl rfl) (vsc (tu2 rfl rfl) (vsc (tu2 rfl rfl) (vsc (tu2 rfl rfl) (vsc (tu2 rfl rfl) rfl)))))))];rfl
 rw [el,bind_some];dsimp only;rw [ct _ rfl,bind_some];dsimp only;rw [hx];rfl
theorem Ax {l:List Int} (hl:l.length <= 41) {c n M:Nat}:∃ (w':Wo) (l':List Int),l'.length <= 200/\pm aJ [.tup [.str (wS .o),.fz (l.map AV.int)],.int (c:Int),.int (n:Int),.int (M:Int)] st=some (.tup [.str (wS w'),.fz (l'.map AV.int)],st):=by
 refine qC (fun _=>bS) hl ?_ DI;obtain ⟨o,ho⟩:∃ o,o=c / 70 % 5:=⟨_,rfl⟩;rw [<- ho];obtain ⟨x,_,hx⟩:=Da (st:=[]) (f:=AV.int) (x0:=(o:Int)) (x1:=(M:Int)) (x2:=-1 - (o:Int)) (x3:=(M:Int) + (o:Int)) (x4:=1000000000000000000000000000000) (x5:=(o:Int) * 2) (x6:=(o:Int) * 3) (x7:=0) (i:=c / 350 % 8) oM;refine ⟨x,fun y9=>?_⟩;have ct:=fun (S:Sl) (h:ev ([]:List Fn) (.v 1) S []=some (.int (c:Int),[]))=>t6 h
 rw [aI,a8];simp only [ax,cW,am,aq,bind_some,kg,map_some,wK,z5,if_false];refine aw ?_ rfl;rw [bB,bf];have m2:cx (o:Int) 2=true:=jm dC;have m3:cx (o:Int) 3=true:=jm dC;have rr:∀ xs:List Int,rfs (xs.map AV.int)=true:=fun _=>bS
 have el:∀ y4 y5 y6 y7:Option AV,∀ y0,ev ([]:List Fn) (.nw false (.li (.cons (.v 8) (.cons (.v 3) (.cons (.bin .Sub (.un .USub (.i 1)) (.v 8)) (.cons (.bin .Add (.v 3) (.v 8)) (.cons (.bin .Pow (.i 10) (.i 30)) (.cons (.bin .Mult (.v 8) (.i 2)) (.cons (.bin .Mult (.v 8) (.i 3)) (.cons (.i 0) .nil)))))))))) [y0,some (.int (c:Int)),some (.int (n:Int)),some (.int (M:Int)),y4,y5,y6,y7,some (.int (o:Int)),y9] []=some (.fz [AV.int (o:Int),AV.int (M:Int),AV.int (-1 - (o:Int)),AV.int ((M:Int) + (o:Int)),AV.int 1000000000000000000000000000000,AV.int ((o:Int) * 2),AV.int ((o:Int) * 3),AV.int 0],[]):=fun y4 y5 y6 y7 y0=>by
  rw [ce,eC];simp only [ad,aj,aP,Dp,ax,aW,am,aq,bind_some,AR,map_some,ld,dB,Bu,db m2,db m3];rfl
 rw [el,bind_some];dsimp only;rw [ct _ rfl,bind_some];dsimp only;rw [hx];rfl
def Bt (G:AV) (n M:Nat):Prop:=∀ (c:Nat) (st:aa),∃ (w':Wo) (X:List AV),AC 200 X/\rfs X=true/\pm aJ [G,.int (c:Int),.int (n:Int),.int (M:Int)] st=some (.tup [.str (wS w'),.fz X],st)
theorem Et {Q:List (Nat × Nat)} (hl:Q.length <= 41) {n M:Nat}:Bt (.tup [.str "known",.fz (Q.map pV)]) n M:=fun c st=>by
 obtain ⟨w',l',h,e⟩:=Aw (st:=st) (l:=Q.map mE) (by simpa using hl) (c:=c) (n:=n) (M:=M);rw [nN] at e;exact ⟨w',_,.inl ⟨l',rfl,h⟩,cM,e⟩
theorem Eu {l:List Nat} (hl:l.length <= 41) {n M:Nat}:Bt (.tup [.str "open",.fz (nL l)]) n M:=fun c st=>by
 obtain ⟨w',l',h,e⟩:=Ax (st:=st) (l:=l.map (fun q:Nat=>(q:Int))) (by simpa using hl) (c:=c) (n:=n) (M:=M);have:(l.map (fun q:Nat=>(q:Int))).map AV.int=nL l:=sQ;rw [this] at e;exact ⟨w',_,.inr ⟨l',rfl,h⟩,bS,e⟩
theorem yW {w:Wo}:(PyData.str (wS w)).canLay0=true:=by cases w <;> kernel_rfl
theorem yo {w:Wo}{X:List AV}{n:Nat} (h:AC n X):bj .NotEq st (.tup [.str (wS w),.fz X]) (.tup [.str (wS w),.fz X])=some false:=by
 have go:∀ {α:Type}{f:α->AV}{g:α->PyData} (l:List α),(∀ x,a7 7 st (f x)=some (g x))->(∀ x,LK 7 (g x))->bj .NotEq st (.tup [.str (wS w),.fz (l.map f)]) (.tup [.str (wS w),.fz (l.map f)])=some false:=fun {α f g} l h1 h2=>by
  have e1:a7 8 st (.fz (l.map f))=some (.list (l.map g)):=by
   show (aT (a7 7 st) (l.map f)).map _=_;rw [bO (f:=a7 7 st) (i:=f) (g:=g) h1];rfl
  have e2:a7 9 st (.tup [.str (wS w),.fz (l.map f)])=some (.tuple [.str (wS w),.list (l.map g)]):=by
   show (aT (a7 8 st) [.str (wS w),.fz (l.map f)]).map PyData.tuple=_;simp only [aT,e1,show a7 8 st (.str (wS w))=some (.str (wS w)) from rfl,bind_some,map_some]
  obtain ⟨a,b⟩:=fN h2 l;refine jY e2 ⟨?_,?_⟩
  ·simp only [PyData.canLay0,PyData.canLayAll0,yW] at a ⊢
   have:=yW (w:=w)
   simp only [PyData.canLay0] at this;simp [a,this]
  ·simp only [PyData.depth,PyData.depthAll] at b ⊢;omega
 rcases h with ⟨P,rfl,_⟩ | ⟨l,rfl,_⟩
 ·exact go (f:=aG) (g:=fun p=>.tuple [.int p.1,.int p.2]) P (fun _=>rfl) fun _=>⟨rfl,by show 1 <= 7;decide⟩
 ·exact go (f:=AV.int) (g:=PyData.int) l (fun _=>rfl) fun _=>⟨rfl,Nat.zero_le _⟩
theorem DV {r:Bool}:bj .NotEq st (.bl r) (.bl r)=some false:=jY (p:=.bool r) rfl ⟨rfl,Nat.zero_le _⟩
theorem bb:DD.isiT "bool" "bool"=some true:=by kernel_rfl
theorem wA {M:Nat}{ms:List Nat} (hm:∀ m ∈ ms,m < 2 ^ 41) (hM:M <= 40) {c:Int}:∃ x,pm aF [.fz (nL ms),.int (M:Int),.int c] st=some (vw x,st):=by
 obtain ⟨D,eD,lD,bD⟩:=j5 (c:=c) (many:=1) (st:=[]) dC;have eD:pm ag [.int c,.int 1,.int 65536] []=some (.fz (nL D),[]):=eD;have key:∃ r,aF [.fz (nL ms),.int (M:Int),.int c] []=some r/\∃ x,r=(vw x,[]):=by
  rw [aF,bv];show ∃ r,(av [ag,aM,ao] dP [some (.fz (nL ms)),some (.int (M:Int)),some (.int c),none,none,none,none] []).bind aA=some r/\_;refine aN (sl':=[some (.fz (nL ms)),some (.int (M:Int)),some (.int c),some (.int ((D.getD 0 0 % 2 ^ M:Nat):Int)),none,none,none]) (st':=[]) ?_ ?_
  ·have i0:cg ([]:aa) (.fz (nL D)) (.int 0)=some (.int ((D.getD 0 0:Nat):Int)):=lU (k:=0) oM
   simp only [bB,aP,bf,a9,ad,aj,ax,aW,am,aq,bind_some,aO,bd,eD,i0,map_some,dJ (show M <= 1000 by omega),k4,bT];rfl
  refine gv (gd:=[]) (xs:=List.range 2) (em:=fun q:Nat=>AV.int (q:Int)) (fun _ sl st=>(∃ (x:Nat) (y4 y5 y6:Option AV),sl=[some (.fz (nL ms)),some (.int (M:Int)),some (.int c),some (.int (x:Int)),y4,y5,y6])/\st=[]) (dS (n:=2) rfl dC) (fun _ _ _ _=>rfl) ⟨⟨_,_,_,_,rfl⟩,rfl⟩ (fun i t sl st ht hI=>?_) fun sl' st' hI=>?_
  ·obtain ⟨⟨x,y4,y5,y6,rfl⟩,rfl⟩:=hI
   have body:∃ r,av [ag,aM,ao] (.cons (.fo (.e (.v 0)) (.nm 5) (.cons (.iff (.va (.ca true 1 (.cons (.bin .BitAnd (.v 5) (.v 3)) .nil))) (.cons (.as (.ca true 2 (.cons (.v 5) .nil)) (.nm 6)) (.cons (.as (.bin .BitXor (.v 3) (.bin .LShift (.i 1) (.ix (.v 6) (.bin .Mod (.bin .Add (.v 4) (.v 2)) (.bi .len (.cons (.v 6) .nil)))))) (.nm 3)) .nil)) .nil) .nil)) .nil) [some (.fz (nL ms)),some (.int (M:Int)),some (.int c),some (.int (x:Int)),some (.int (t:Int)),y5,y6] []=some r/\∃ (x:Nat) (y4 y5 y6:Option AV),r=.nx [some (.fz (nL ms)),some (.int (M:Int)),some (.int c),some (.int (x:Int)),y4,y5,y6] []:=by
    refine kT (gd:=[]) (xs:=ms) (em:=fun q:Nat=>AV.int (q:Int)) (fun _ sl st=>(∃ (x:Nat) (y5 y6:Option AV),sl=[some (.fz (nL ms)),some (.int (M:Int)),some (.int c),some (.int (x:Int)),some (.int (t:Int)),y5,y6])/\st=[]) rfl (fun _ _ _ _=>rfl) ⟨⟨x,_,_,rfl⟩,rfl⟩ (fun j m sl st hj hI=>?_) fun sl' st' hI=>?_
    ·obtain ⟨⟨x,y5,y6,rfl⟩,rfl⟩:=hI
     have ml:=hm m (zV hj);have tt:tv [ag,aM,ao] (.va (.ca true 1 (.cons (.bin .BitAnd (.v 5) (.v 3)) .nil))) [some (.fz (nL ms)),some (.int (M:Int)),some (.int c),some (.int (x:Int)),some (.int (t:Int)),some (.int (m:Int)),y6] []=some (par 41 (m &&& x),[]):=by
      simp only [d5,a9,ad,aj,aP,ax,am,aq,bind_some,oN,map_some,aO,bd,bz,nZ,cT]
     cases hb:par 41 (m &&& x) with
     | false =>
      rw [hb] at tt;exact ⟨([some (.fz (nL ms)),some (.int (M:Int)),some (.int c),some (.int (x:Int)),some (.int (t:Int)),some (.int (m:Int)),y6],[]),_,_,rfl,aw (by rw [aI,tt];rfl) rfl,⟨_,_,_,rfl⟩,rfl⟩
     | true =>
      rw [hb] at tt;have ne:bI m ≠ []:=fun e=>by
       have:m=0:=by rw [<- qJ ml,e];rfl
       rw [this,Nat.zero_and,sk] at hb;cases hb
      have pos:0 < (bI m).length:=List.length_pos_iff.mpr ne;obtain ⟨q,hq,q2⟩:=dD (a:=(t:Int) + c) (b:=(bI m).length) pos;obtain ⟨z,hz⟩:∃ z,z=(bI m).getD q 0:=⟨_,rfl⟩;have zl:z < 41:=by
       rw [hz,zD,zF q2];exact qy _ (List.getElem_mem q2)
      have e1:bn .Mod ([]:aa) (.int ((t:Int) + c)) (.int (((bI m).length:Nat):Int))=some (.int (q:Int)):=by
       rw [de oM,dA oM,hq]
      have e2:cg ([]:aa) (vw m) (.int (q:Int))=some (.int (z:Int)):=by rw [hz];exact lU q2
      have e3:pm ao [.int (m:Int)] ([]:aa)=some (vw m,[]):=gT;have e4:bM fm [vw m] ([]:aa)=some (.int (((bI m).length:Nat):Int),[]):=by rw [vw,cK,gB]
      refine ⟨([some (.fz (nL ms)),some (.int (M:Int)),some (.int c),some (.int (x:Int)),some (.int (t:Int)),some (.int (m:Int)),y6],[]),[some (.fz (nL ms)),some (.int (M:Int)),some (.int c),some (.int ((x ^^^ 2 ^ z:Nat):Int)),some (.int (t:Int)),some (.int (m:Int)),some (vw m)],[],rfl,aw ?_ rfl,⟨_,_,_,rfl⟩,rfl⟩;rw [aI,tt,bind_some];dsimp only;rw [yE rfl];refine aw (sl':=[some (.fz (nL ms)),some (.int (M:Int)),some (.int c),some (.int (x:Int)),some (.int (t:Int)),some (.int (m:Int)),some (vw m)]) (st':=[]) ?_ (aw ?_ rfl)
      ·simp only [bB,a9,ad,aj,ax,am,aq,bind_some,aO,bd,bz,e3,bT];rfl
      ·simp only [bB,aP,bf,bK,ad,aj,ax,aW,am,aq,bind_some,dB,map_some,cF,e4,e1,e2,dJ (show z <= 1000 by omega),qS,bT];rfl
    ·obtain ⟨⟨x,y5,y6,rfl⟩,rfl⟩:=hI
     exact ⟨_,rfl,x,_,_,_,rfl⟩
   obtain ⟨r,e,x',y4',y5',y6',rfl⟩:=body;exact ⟨([some (.fz (nL ms)),some (.int (M:Int)),some (.int c),some (.int (x:Int)),some (.int (t:Int)),y5,y6],[]),_,_,rfl,e,⟨x',_,_,_,rfl⟩,rfl⟩
  ·obtain ⟨⟨x,y4,y5,y6,rfl⟩,rfl⟩:=hI
   have e3:pm ao [.int (x:Int)] ([]:aa)=some (vw x,[]):=gT;refine br (v:=vw x) (st':=[]) ?_ ⟨x,rfl⟩;simp only [ci,a9,ad,aj,ax,am,aq,bind_some,aO,bd,bz,e3]
 obtain ⟨r,e,x,rfl⟩:=key;exact ⟨x,a0 (by simp) e rfl⟩
end
section
variable {ks:List Fn}{sl:Sl}{st:aa}
theorem wp {M:Nat}{hs:List (List Nat)} (hk:HK M hs) {g:Nat}:∀ {Q:List (Nat × Nat)},(∀ q ∈ Q,q ∈ cb hs g)->cZ hs Q < 2 ^ M:=by
 have go:∀ (Q:List (Nat × Nat)) (a:Nat),a < 2 ^ M->(∀ q ∈ Q,q ∈ cb hs g)->Q.foldl (fun a p=>a ^^^ gE hs p) a < 2 ^ M:=by
  intro Q
  induction Q with
  | nil=>intro a h _;exact h
  | cons q Q ih =>
   intro a h hQ;exact ih _ (Nat.xor_lt_two_pow h (oe hk (hQ q (z3 ..)))) fun x hx=>hQ x (zP _ hx)
 intro Q hQ;exact go Q 0 (Nat.two_pow_pos _) hQ
theorem A5 {ns:List Int} (hl:ns.length <= 63) (h:ev ks (.v 0) sl st=some (.fz (iL ns),st)):∃ N,bR ks (.r3 (.i 0) (.bi .max (.cons (.i 3) (.cons (.bi .min (.cons (.i 42) (.cons (.bin .Sub (.bi .len (.cons (.v 0) .nil)) (.i 2)) .nil))) .nil))) (.i 3)) sl st=some (⟨(List.range N).map fun q:Nat=>AV.int ((3 * q:Nat):Int),[]⟩,st):=by
 obtain ⟨j,hj⟩:∃ j:Int,j=(if (if ((ns.length:Nat):Int) - 2 < 42 then ((ns.length:Nat):Int) - 2 else 42) > 3 then (if ((ns.length:Nat):Int) - 2 < 42 then ((ns.length:Nat):Int) - 2 else 42) else 3):=⟨_,rfl⟩;have b:∃ q:Nat,q <= 42/\j=(q:Int):=⟨j.toNat,by rw [hj];split <;> split <;> omega,by rw [hj];split <;> split <;> omega⟩;have e:ev ks (.bi .max (.cons (.i 3) (.cons (.bi .min (.cons (.i 42) (.cons (.bin .Sub (.bi .len (.cons (.v 0) .nil)) (.i 2)) .nil))) .nil))) sl st=some (.int j,st):=by
  simp only [bK,ad,aj,aP,aW,h,bind_some,cF,cK,zm,ld,map_some,Au,qz];rw [hj];rfl
 obtain ⟨q,q1,rfl⟩:=b;refine ⟨du 0 (q:Int) 3,?_⟩;rw [Ei];unfold t7;rw [aW,bind_some];dsimp only;rw [e,bind_some];dsimp only;rw [aW,bind_some];dsimp only;have ok:jc 0 (q:Int) 3=true:=by
  have:∀ q:Nat,q <= 42->jc 0 (q:Int) 3=true:=by decide
  exact this q q1
 rw [yE ok];have:iR 0 (q:Int) 3=(List.range (du 0 (q:Int) 3)).map fun q:Nat=>AV.int ((3 * q:Nat):Int):=by
  unfold iR;refine List.map_congr_left fun i _=>?_
  rw [show (0:Int) + (i:Int) * 3=((3 * i:Nat):Int) by omega]
 rw [this]
theorem v4 {ns:List Int}{k M n g v x:Nat}{c1 c2:Int}{hs:List (List Nat)}{D:List Nat}{Q:List (Nat × Nat)}{G:AV}{c:Nat}{y14 y15 y16:Option AV} (hk:HK M hs) (hv:v < 2 ^ M) (hG:Bt G n M):∃ sl2 st2,av [aD,aL,aS,ag,af,au,ao,ai,aF,aJ,ay,aB] (.cons (.as (.ca true 9 (.cons (.v 12) (.cons (.v 13) (.cons (.v 3) (.cons (.ix (.v 4) (.i 0)) .nil))))) (.nm 14)) (.cons (.as (.tu (.cons (.ix (.v 14) (.i 0)) (.cons (.nw false (.lof (.ix (.v 14) (.i 1)))) .nil))) (.nm 15)) (.cons (.as (.ca true 10 (.cons (.v 4) (.cons (.v 7) (.cons (.v 10) (.cons (.v 15) .nil))))) (.nm 16)) (.cons (.iff (.or (.no (.va (.is "bool" (.v 16)))) (.cmp .NotEq (.v 16) (.ca true 11 (.cons (.v 5) (.cons (.v 7) (.cons (.v 10) (.cons (.v 14) .nil))))))) (.cons (.rt (.b false)) .nil) .nil) (.cons (.iff (.or (.cmp .NotEq (.v 15) (.v 14)) (.cmp .NotEq (.v 4) (.v 5))) (.cons (.rt (.b false)) .nil) .nil) .nil))))) [some (.fz (iL ns)),some (.int ((k:Nat):Int)),some (.int c1),some (.int (n:Int)),some (ab M hs),some (ab M hs),some (.int c2),some (.int (g:Int)),some (.fz (nL D)),some (.fz (Q.map pV)),some (vw v),some (vw x),some (G),some (.int (c:Int)),y14,y15,y16] st=some (.nx sl2 st2)/\(∃ y13 y14 y15 y16,sl2=[some (.fz (iL ns)),some (.int ((k:Nat):Int)),some (.int c1),some (.int (n:Int)),some (ab M hs),some (ab M hs),some (.int c2),some (.int (g:Int)),some (.fz (nL D)),some (.fz (Q.map pV)),some (vw v),some (vw x),some (G),y13,y14,y15,y16]):=by
 obtain ⟨w',X,hX,rX,eB⟩:=hG c st;obtain ⟨r,eK,eU⟩:=Aq (st:=st) hk (g:=g) hv w' hX;refine ⟨_,_,aw (sl':=[some (.fz (iL ns)),some (.int ((k:Nat):Int)),some (.int c1),some (.int (n:Int)),some (ab M hs),some (ab M hs),some (.int c2),some (.int (g:Int)),some (.fz (nL D)),some (.fz (Q.map pV)),some (vw v),some (vw x),some (G),some (.int (c:Int)),some (.tup [.str (wS w'),.fz X]),y15,y16]) (st':=st) ?_ (aw (sl':=[some (.fz (iL ns)),some (.int ((k:Nat):Int)),some (.int c1),some (.int (n:Int)),some (ab M hs),some (ab M hs),some (.int c2),some (.int (g:Int)),some (.fz (nL D)),some (.fz (Q.map pV)),some (vw v),some (vw x),some (G),some (.int (c:Int)),some (.tup [.str (wS w'),.fz X]),some (.tup [.str (wS w'),.fz X]),y16]) (st':=st) ?_ (aw (sl':=[some (.fz (iL ns)),some (.int ((k:Nat):Int)),some (.int c1),some (.int (n:Int)),some (ab M hs),some (ab M hs),some (.int c2),some (.int (g:Int)),some (.fz (nL D)),some (.fz (Q.map pV)),some (vw v),some (vw x),some (G),some (.int (c:Int)),some (.tup [.str (wS w'),.fz X]),some (.tup [.str (wS w'),.fz X]),some (.bl r)]) (st':=st) ?_ (aw (sl':=[some (.fz (iL ns)),some (.int ((k:Nat):Int)),some (.int c1),some (.int (n:Int)),some (ab M hs),some (ab M hs),some (.int c2),some (.int (g:Int)),some (.fz (nL D)),some (.fz (Q.map pV)),some (vw v),some (vw x),some (G),some (.int (c:Int)),some (.tup [.str (wS w'),.fz X]),some (.tup [.str (wS w'),.fz X]),some (.bl r)]) (st':=st) ?_ (aw (sl':=[some (.fz (iL ns)),some (.int ((k:Nat):Int)),some (.int c1),some (.int (n:Int)),some (ab M hs),some (ab M hs),some (.int c2),some (.int (g:Int)),some (.fz (nL D)),some (.fz (Q.map pV)),some (vw v),some (vw x),some (G),some (.int (c:Int)),some (.tup [.str (wS w'),.fz X]),some (.tup [.str (wS w'),.fz X]),some (.bl r)]) (st':=st) ?_ rfl)))),_,_,_,_,rfl⟩
 ·simp only [bB,a9,ad,aj,bf,ax,aW,am,aq,bind_some,map_some,hW,aO,bd,bz,eB,bT];rfl
 ·have e9:ev [aD,aL,aS,ag,af,au,ao,ai,aF,aJ,ay,aB] (.nw false (.lof (.ix (.v 14) (.i 1)))) [some (.fz (iL ns)),some (.int ((k:Nat):Int)),some (.int c1),some (.int (n:Int)),some (ab M hs),some (ab M hs),some (.int c2),some (.int (g:Int)),some (.fz (nL D)),some (.fz (Q.map pV)),some (vw v),some (vw x),some (G),some (.int (c:Int)),some (.tup [.str (wS w'),.fz X]),y15,y16] st=some (.fz X,st):=BN (x:=.fz X) (xs:=X) rfl rfl rX
  simp only [bB,nG,ad,aj,e9,bf,ax,aW,am,aq,bind_some,map_some,jr];rfl
 ·simp only [bB,a9,ad,aj,ax,am,aq,bind_some,aO,bd,bz,eK,bT];rfl
 ·rw [aI,dj,fQ,d5,i3 (x:=.bl r) rfl rfl bb]
  simp only [bind_some,cT,map_some,Bool.not_true,z5,if_false,a8,a9,ad,aj,ax,am,aq,aO,bd,bz,eU,DV,fO]
 ·simp only [aI,dj,a8,ax,am,aq,bind_some,yo hX,BJ,map_some,z5,if_false,fO]
theorem BL {ns:List Int}{k M n g v x:Nat}{c1 c2:Int}{hs:List (List Nat)}{D:List Nat}{Q:List (Nat × Nat)}{G:AV}{y13 y14 y15 y16:Option AV} (hk:HK M hs) (hv:v < 2 ^ M) (hG:Bt G n M):∃ sl2 st2,av [aD,aL,aS,ag,af,au,ao,ai,aF,aJ,ay,aB] (.cons (.fo (.e (.ca true 3 (.cons (.ca true 0 (.cons (.v 0) (.cons (.bin .Add (.v 1) (.i 2)) .nil))) (.cons (.i 6) (.cons (.bin .Pow (.i 10) (.i 6)) .nil))))) (.nm 13) (.cons (.as (.ca true 9 (.cons (.v 12) (.cons (.v 13) (.cons (.v 3) (.cons (.ix (.v 4) (.i 0)) .nil))))) (.nm 14)) (.cons (.as (.tu (.cons (.ix (.v 14) (.i 0)) (.cons (.nw false (.lof (.ix (.v 14) (.i 1)))) .nil))) (.nm 15)) (.cons (.as (.ca true 10 (.cons (.v 4) (.cons (.v 7) (.cons (.v 10) (.cons (.v 15) .nil))))) (.nm 16)) (.cons (.iff (.or (.no (.va (.is "bool" (.v 16)))) (.cmp .NotEq (.v 16) (.ca true 11 (.cons (.v 5) (.cons (.v 7) (.cons (.v 10) (.cons (.v 14) .nil))))))) (.cons (.rt (.b false)) .nil) .nil) (.cons (.iff (.or (.cmp .NotEq (.v 15) (.v 14)) (.cmp .NotEq (.v 4) (.v 5))) (.cons (.rt (.b false)) .nil) .nil) .nil)))))) .nil) [some (.fz (iL ns)),some (.int ((k:Nat):Int)),some (.int c1),some (.int (n:Int)),some (ab M hs),some (ab M hs),some (.int c2),some (.int (g:Int)),some (.fz (nL D)),some (.fz (Q.map pV)),some (vw v),some (vw x),some (G),y13,y14,y15,y16] st=some (.nx sl2 st2)/\(∃ y12 y13 y14 y15 y16,sl2=[some (.fz (iL ns)),some (.int ((k:Nat):Int)),some (.int c1),some (.int (n:Int)),some (ab M hs),some (ab M hs),some (.int c2),some (.int (g:Int)),some (.fz (nL D)),some (.fz (Q.map pV)),some (vw v),some (vw x),y12,y13,y14,y15,y16]):=by
 obtain ⟨E,eE,_,_⟩:=nt (st:=st) (c:=SX.gI ns (k + 2)) (many:=6) (base:=1000000) dC dC dC;have eE:pm ag [.int (SX.gI ns (k + 2)),.int 6,.int 1000000] st=some (.fz (nL E),st):=eE;have p6:bn .Pow st (.int 10) (.int 6)=some (.int 1000000):=by kernel_rfl
 have k2:(k:Int) + 2=((k + 2:Nat):Int):=by omega
 have key:∃ r,av [aD,aL,aS,ag,af,au,ao,ai,aF,aJ,ay,aB] (.cons (.fo (.e (.ca true 3 (.cons (.ca true 0 (.cons (.v 0) (.cons (.bin .Add (.v 1) (.i 2)) .nil))) (.cons (.i 6) (.cons (.bin .Pow (.i 10) (.i 6)) .nil))))) (.nm 13) (.cons (.as (.ca true 9 (.cons (.v 12) (.cons (.v 13) (.cons (.v 3) (.cons (.ix (.v 4) (.i 0)) .nil))))) (.nm 14)) (.cons (.as (.tu (.cons (.ix (.v 14) (.i 0)) (.cons (.nw false (.lof (.ix (.v 14) (.i 1)))) .nil))) (.nm 15)) (.cons (.as (.ca true 10 (.cons (.v 4) (.cons (.v 7) (.cons (.v 10) (.cons (.v 15) .nil))))) (.nm 16)) (.cons (.iff (.or (.no (.va (.is "bool" (.v 16)))) (.cmp .NotEq (.v 16) (.ca true 11 (.cons (.v 5) (.cons (.v 7) (.cons (.v 10) (.cons (.v 14) .nil))))))) (.cons (.rt (.b false)) .nil) .nil) (.cons (.iff (.or (.cmp .NotEq (.v 15) (.v 14)) (.cmp .NotEq (.v 4) (.v 5))) (.cons (.rt (.b false)) .nil) .nil) .nil)))))) .nil) [some (.fz (iL ns)),some (.int ((k:Nat):Int)),some (.int c1),some (.int (n:Int)),some (ab M hs),some (ab M hs),some (.int c2),some (.int (g:Int)),some (.fz (nL D)),some (.fz (Q.map pV)),some (vw v),some (vw x),some (G),y13,y14,y15,y16] st=some r/\∃ st2,∃ y13 y14 y15 y16,r=.nx [some (.fz (iL ns)),some (.int ((k:Nat):Int)),some (.int c1),some (.int (n:Int)),some (ab M hs),some (ab M hs),some (.int c2),some (.int (g:Int)),some (.fz (nL D)),some (.fz (Q.map pV)),some (vw v),some (vw x),some (G),y13,y14,y15,y16] st2:=by
  refine kT (gd:=[]) (st0:=st) (xs:=E) (em:=fun q:Nat=>AV.int (q:Int)) (fun _ sl _=>∃ y13 y14 y15 y16,sl=[some (.fz (iL ns)),some (.int ((k:Nat):Int)),some (.int c1),some (.int (n:Int)),some (ab M hs),some (ab M hs),some (.int c2),some (.int (g:Int)),some (.fz (nL D)),some (.fz (Q.map pV)),some (vw v),some (vw x),some (G),y13,y14,y15,y16]) ?_ (fun _ _ _ _=>rfl) ⟨_,_,_,_,rfl⟩ (fun i c sl st hc hI=>?_) fun sl' st' hI=>?_
  ·simp only [m9,a9,ad,aj,aP,ax,aW,am,aq,bind_some,aO,bd,bz,dB,k2,l8,p6,eE,lZ,map_some];rfl
  ·obtain ⟨y13,y14,y15,y16,rfl⟩:=hI
   obtain ⟨sl2,st2,e,h⟩:=v4 (ns:=ns) (k:=k) (x:=x) (c1:=c1) (c2:=c2) (D:=D) (Q:=Q) (G:=G) (c:=c) (y14:=y14) (y15:=y15) (y16:=y16) (st:=st) (g:=g) hk hv hG;exact ⟨([some (.fz (iL ns)),some (.int ((k:Nat):Int)),some (.int c1),some (.int (n:Int)),some (ab M hs),some (ab M hs),some (.int c2),some (.int (g:Int)),some (.fz (nL D)),some (.fz (Q.map pV)),some (vw v),some (vw x),some (G),some (.int (c:Int)),y14,y15,y16],st),sl2,st2,rfl,e,h⟩
  ·obtain ⟨y13,y14,y15,y16,rfl⟩:=hI
   exact ⟨_,rfl,st',_,_,_,_,rfl⟩
 obtain ⟨r,e,st2,y13,y14,y15,y16,rfl⟩:=key;exact ⟨_,st2,e,_,_,_,_,_,rfl⟩
theorem Ar {ns:List Int}{k:Nat}{y2 y3 y4 y5 y6 y7 y8 y9 y10 y11 y12 y13 y14 y15 y16:Option AV}:∃ sl2 st2,av [aD,aL,aS,ag,af,au,ao,ai,aF,aJ,ay,aB] (.cons (.as (.ca true 0 (.cons (.v 0) (.cons (.v 1) .nil))) (.nm 2)) (.cons (.as (.bin .Add (.i 1) (.bin .Mod (.v 2) (.i 4))) (.nm 3)) (.cons (.as (.ca true 1 (.cons (.bin .FloorDiv (.v 2) (.i 4)) (.cons (.v 3) (.cons (.i 12) .nil)))) (.nm 4)) (.cons (.as (.ca true 2 (.cons (.v 4) .nil)) (.nm 5)) (.cons (.as (.ca true 0 (.cons (.v 0) (.cons (.bin .Add (.v 1) (.i 1)) .nil))) (.nm 6)) (.cons (.as (.bin .Add (.i 1) (.bin .Mod (.v 6) (.bin .Sub (.bin .LShift (.i 1) (.v 3)) (.i 1)))) (.nm 7)) (.cons (.as (.ca true 3 (.cons (.bin .FloorDiv (.v 6) (.i 16)) (.cons (.i 16) (.cons (.i 65536) .nil)))) (.nm 8)) (.cons (.as (.nw false (.lc 2 (.zi (.ca true 4 (.cons (.v 5) (.cons (.v 7) .nil))) (.v 8)) (.tu 2 (.cons (.nm 17) (.cons (.nm 18) .nil))) (.so (.cmp .Eq (.bin .Mod (.v 18) (.i 2)) (.i 1))) (.v 17))) (.nm 9)) (.cons (.as (.ca true 6 (.cons (.ca true 5 (.cons (.v 5) (.cons (.v 9) .nil))) .nil)) (.nm 10)) (.cons (.iff (.cmp .Eq (.bin .Mod (.ix (.v 8) (.i 13)) (.i 3)) (.i 0)) (.cons (.as (.ca true 6 (.cons (.bin .Mod (.ix (.v 8) (.i 14)) (.bin .LShift (.i 1) (.ix (.v 4) (.i 0)))) .nil)) (.nm 10)) .nil) .nil) (.cons (.as (.ca true 8 (.cons (.ca true 7 (.cons (.v 5) (.cons (.v 7) .nil))) (.cons (.ix (.v 4) (.i 0)) (.cons (.bin .FloorDiv (.v 6) (.i 32)) .nil)))) (.nm 11)) (.cons (.fo (.e (.nw false (.li (.cons (.tu (.cons (.s "known") (.cons (.v 9) .nil))) (.cons (.tu (.cons (.s "open") (.cons (.v 11) .nil))) .nil))))) (.nm 12) (.cons (.fo (.e (.ca true 3 (.cons (.ca true 0 (.cons (.v 0) (.cons (.bin .Add (.v 1) (.i 2)) .nil))) (.cons (.i 6) (.cons (.bin .Pow (.i 10) (.i 6)) .nil))))) (.nm 13) (.cons (.as (.ca true 9 (.cons (.v 12) (.cons (.v 13) (.cons (.v 3) (.cons (.ix (.v 4) (.i 0)) .nil))))) (.nm 14)) (.cons (.as (.tu (.cons (.ix (.v 14) (.i 0)) (.cons (.nw false (.lof (.ix (.v 14) (.i 1)))) .nil))) (.nm 15)) (.cons (.as (.ca true 10 (.cons (.v 4) (.cons (.v 7) (.cons (.v 10) (.cons (.v 15) .nil))))) (.nm 16)) (.cons (.iff (.or (.no (.va (.is "bool" (.v 16)))) (.cmp .NotEq (.v 16) (.ca true 11 (.cons (.v 5) (.cons (.v 7) (.cons (.v 10) (.cons (.v 14) .nil))))))) (.cons (.rt (.b false)) .nil) .nil) (.cons (.iff (.or (.cmp .NotEq (.v 15) (.v 14)) (.cmp .NotEq (.v 4) (.v 5))) (.cons (.rt (.b false)) .nil) .nil) .nil)))))) .nil)) .nil)))))))))))) [some (.fz (iL ns)),some (.int ((k:Nat):Int)),y2,y3,y4,y5,y6,y7,y8,y9,y10,y11,y12,y13,y14,y15,y16] st=some (.nx sl2 st2)/\∃ y1 y2 y3 y4 y5 y6 y7 y8 y9 y10 y11 y12 y13 y14 y15 y16,sl2=[some (.fz (iL ns)),y1,y2,y3,y4,y5,y6,y7,y8,y9,y10,y11,y12,y13,y14,y15,y16]:=by
 obtain ⟨c1,hc1⟩:∃ c,c=SX.gI ns k:=⟨_,rfl⟩;obtain ⟨c2,hc2⟩:∃ c,c=SX.gI ns (k + 1):=⟨_,rfl⟩;obtain ⟨r1,h1,b1⟩:=dD (a:=c1) (b:=4) dC;obtain ⟨n,hn⟩:∃ n,n=1 + r1:=⟨_,rfl⟩;have n4:n <= 4:=by omega
 have e3:bn .Mod st (.int c1) (.int 4)=some (.int (r1:Int)):=by rw [de dC,dA dC];exact congrArg (fun z=>some (AV.int z)) h1
 have e3b:(1:Int) + (r1:Int)=(n:Int):=by omega
 have f4:∀ c:Int,bn .FloorDiv st (.int c) (.int 4)=some (.int (c / 4)):=fun c=>by rw [fY dC,ib dC]
 have f16:∀ c:Int,bn .FloorDiv st (.int c) (.int 16)=some (.int (c / 16)):=fun c=>by rw [fY dC,ib dC]
 have f32:∀ c:Int,bn .FloorDiv st (.int c) (.int 32)=some (.int (c / 32)):=fun c=>by rw [fY dC,ib dC]
 obtain ⟨M,hs,eH,M1,M2,M3⟩:=zn (c:=c1 / 4) (n:=n) (most:=12) (st:=st) n4 dC;have eH:pm aL [.int (c1 / 4),.int (n:Int),.int 12] st=some (ab M hs,st):=eH;have hk:HK M hs:=⟨by omega,by omega,M3⟩;have p2:2 <= 2 ^ n:=by have:=Nat.pow_le_pow_right (n:=2) (show 0 < 2 by decide) (show 1 <= n by omega);simpa using this
 obtain ⟨r3,h3,b3⟩:=dD (a:=c2) (b:=2 ^ n - 1) oM;obtain ⟨g,hg⟩:∃ g,g=1 + r3:=⟨_,rfl⟩;have e7:bn .Mod st (.int c2) (.int (((2 ^ n:Nat):Int) - 1))=some (.int (r3:Int)):=by
  rw [show ((2 ^ n:Nat):Int) - 1=((2 ^ n - 1:Nat):Int) by omega,de oM,dA oM];exact congrArg (fun z=>some (AV.int z)) h3
 have e7b:(1:Int) + (r3:Int)=(g:Int):=by omega
 have k1:(k:Int) + 1=((k + 1:Nat):Int):=by omega
 obtain ⟨D,eD,lD,bD⟩:=j5 (st:=st) (c:=c2 / 16) (many:=16) dC;have eD:pm ag [.int (c2 / 16),.int 16,.int 65536] st=some (.fz (nL D),st):=eD;have hpl:=vb hk g;obtain ⟨Q,hQ,lQ,eQ⟩:∃ Q:List (Nat × Nat),(∀ q ∈ Q,q ∈ cb hs g)/\Q.length <= 41/\∀ y9 y10 y11 y12 y13 y14 y15 y16,ev [aD,aL,aS,ag,af,au,ao,ai,aF,aJ,ay,aB] (.nw false (.lc 2 (.zi (.ca true 4 (.cons (.v 5) (.cons (.v 7) .nil))) (.v 8)) (.tu 2 (.cons (.nm 17) (.cons (.nm 18) .nil))) (.so (.cmp .Eq (.bin .Mod (.v 18) (.i 2)) (.i 1))) (.v 17))) [some (.fz (iL ns)),some (.int ((k:Nat):Int)),some (.int c1),some (.int (n:Int)),some (ab M hs),some (ab M hs),some (.int c2),some (.int (g:Int)),some (.fz (nL D)),y9,y10,y11,y12,y13,y14,y15,y16] st=some (.fz (Q.map pV),st):=by
  refine ⟨(((cb hs g).zip D).filter fun z=>decide (z.2 % 2=1)).map (·.1),fun q hq=>?_,?_,fun y9 y10 y11 y12 y13 y14 y15 y16=>?_⟩
  ·obtain ⟨z,hz,rfl⟩:=z7.mp hq
   exact (List.of_mem_zip (List.mem_filter.mp hz).1).1
  ·rw [zH];refine zZ (List.length_filter_le ..) ?_;simp;omega
  ·have hi:bR [aD,aL,aS,ag,af,au,ao,ai,aF,aJ,ay,aB] (.zi (.ca true 4 (.cons (.v 5) (.cons (.v 7) .nil))) (.v 8)) [some (.fz (iL ns)),some (.int ((k:Nat):Int)),some (.int c1),some (.int (n:Int)),some (ab M hs),some (ab M hs),some (.int c2),some (.int (g:Int)),some (.fz (nL D)),y9,y10,y11,y12,y13,y14,y15,y16] st=some (⟨((cb hs g).zip D).map fun z=>AV.tup [pV z.1,.int ((z.2:Nat):Int)],[]⟩,st):=by
    rw [zh];unfold iZ;simp only [a9,ad,aj,ax,am,aq,bind_some,aO,bd,bz,gF hk,zd];unfold nL;rw [List.zip_map,List.map_map];rfl
   have go:=dM (k:=2) (t:=.tu 2 (.cons (.nm 17) (.cons (.nm 18) .nil))) (c:=.so (.cmp .Eq (.bin .Mod (.v 18) (.i 2)) (.i 1))) (e:=.v 17) hi rfl (by simp;omega) (B:=fun z=>decide (z.2 % 2=1)) (F:=fun z=>pV z.1) fun z _=>⟨[some (.fz (iL ns)),some (.int ((k:Nat):Int)),some (.int c1),some (.int (n:Int)),some (ab M hs),some (ab M hs),some (.int c2),some (.int (g:Int)),some (.fz (nL D)),y9,y10,y11,y12,y13,y14,y15,y16,some (pV z.1),some (.int ((z.2:Nat):Int))],rfl,by
    have e:decide (((z.2 % 2:Nat):Int)=1)=decide (z.2 % 2=1):=decide_eq_decide.mpr oM;simp only [fV,a8,aP,ax,aW,am,aq,bind_some,j1,map_some,dN,e],fun _=>rfl⟩
   rw [ce,go,bind_some,List.map_map];exact cm (cv fun x hx=>by obtain ⟨i,_,rfl⟩:=z7.mp hx;rfl)
 have bt:∀ x:Nat,pm ao [.int (x:Int)] st=some (vw x,st):=fun x=>gT
 obtain ⟨v0,hv0⟩:∃ v,v=cZ hs Q:=⟨_,rfl⟩;have l0:v0 < 2 ^ M:=by rw [hv0];exact wp hk hQ
 have i13:cg st (.fz (nL D)) (.int 13)=some (.int ((D.getD 13 0:Nat):Int)):=lU (k:=13) oM;have i14:cg st (.fz (nL D)) (.int 14)=some (.int ((D.getD 14 0:Nat):Int)):=lU (k:=14) oM;have m3:∀ n:Nat,bn .Mod st (.int (n:Int)) (.int 3)=some (.int ((n % 3:Nat):Int)):=fun n=>eZ (b:=3) dC
 have hM:=hk.m;obtain ⟨v,hv,e10⟩:∃ v,v < 2 ^ M/\∀ y11 y12 y13 y14 y15 y16,cq [aD,aL,aS,ag,af,au,ao,ai,aF,aJ,ay,aB] (.iff (.cmp .Eq (.bin .Mod (.ix (.v 8) (.i 13)) (.i 3)) (.i 0)) (.cons (.as (.ca true 6 (.cons (.bin .Mod (.ix (.v 8) (.i 14)) (.bin .LShift (.i 1) (.ix (.v 4) (.i 0)))) .nil)) (.nm 10)) .nil) .nil) [some (.fz (iL ns)),some (.int ((k:Nat):Int)),some (.int c1),some (.int (n:Int)),some (ab M hs),some (ab M hs),some (.int c2),some (.int (g:Int)),some (.fz (nL D)),some (.fz (Q.map pV)),some (vw v0),y11,y12,y13,y14,y15,y16] st=some (.nx [some (.fz (iL ns)),some (.int ((k:Nat):Int)),some (.int c1),some (.int (n:Int)),some (ab M hs),some (ab M hs),some (.int c2),some (.int (g:Int)),some (.fz (nL D)),some (.fz (Q.map pV)),some (vw v),y11,y12,y13,y14,y15,y16] st):=by
  by_cases h:D.getD 13 0 % 3=0
  ·refine ⟨D.getD 14 0 % 2 ^ M,Nat.mod_lt _ (Nat.two_pow_pos _),fun y11 y12 y13 y14 y15 y16=>?_⟩
   simp only [aI,a8,aP,bf,ax,aW,am,aq,bind_some,i13,m3,map_some,dN,yO (show ((D.getD 13 0 % 3:Nat):Int)=0 by omega),_root_.if_true];refine aw ?_ rfl;simp only [bB,a9,ad,aj,aP,bf,ax,aW,am,aq,bind_some,i14,hW,map_some,dJ (show M <= 1000 by omega),k4,aO,bd,bz,bt,bT];rfl
  ·refine ⟨v0,l0,fun y11 y12 y13 y14 y15 y16=>?_⟩
   simp only [aI,a8,aP,bf,ax,aW,am,aq,bind_some,i13,m3,map_some,dN];rw [z4 oM];rfl
 obtain ⟨x,eT⟩:=wA (st:=st) (ms:=gm hs g) (M:=M) (c:=c2 / 32) (fun m hm=>iW (hk.lt hm) hM) hM;have key:∃ r,av [aD,aL,aS,ag,af,au,ao,ai,aF,aJ,ay,aB] (.cons (.as (.ca true 0 (.cons (.v 0) (.cons (.v 1) .nil))) (.nm 2)) (.cons (.as (.bin .Add (.i 1) (.bin .Mod (.v 2) (.i 4))) (.nm 3)) (.cons (.as (.ca true 1 (.cons (.bin .FloorDiv (.v 2) (.i 4)) (.cons (.v 3) (.cons (.i 12) .nil)))) (.nm 4)) (.cons (.as (.ca true 2 (.cons (.v 4) .nil)) (.nm 5)) (.cons (.as (.ca true 0 (.cons (.v 0) (.cons (.bin .Add (.v 1) (.i 1)) .nil))) (.nm 6)) (.cons (.as (.bin .Add (.i 1) (.bin .Mod (.v 6) (.bin .Sub (.bin .LShift (.i 1) (.v 3)) (.i 1)))) (.nm 7)) (.cons (.as (.ca true 3 (.cons (.bin .FloorDiv (.v 6) (.i 16)) (.cons (.i 16) (.cons (.i 65536) .nil)))) (.nm 8)) (.cons (.as (.nw false (.lc 2 (.zi (.ca true 4 (.cons (.v 5) (.cons (.v 7) .nil))) (.v 8)) (.tu 2 (.cons (.nm 17) (.cons (.nm 18) .nil))) (.so (.cmp .Eq (.bin .Mod (.v 18) (.i 2)) (.i 1))) (.v 17))) (.nm 9)) (.cons (.as (.ca true 6 (.cons (.ca true 5 (.cons (.v 5) (.cons (.v 9) .nil))) .nil)) (.nm 10)) (.cons (.iff (.cmp .Eq (.bin .Mod (.ix (.v 8) (.i 13)) (.i 3)) (.i 0)) (.cons (.as (.ca true 6 (.cons (.bin .Mod (.ix (.v 8) (.i 14)) (.bin .LShift (.i 1) (.ix (.v 4) (.i 0)))) .nil)) (.nm 10)) .nil) .nil) (.cons (.as (.ca true 8 (.cons (.ca true 7 (.cons (.v 5) (.cons (.v 7) .nil))) (.cons (.ix (.v 4) (.i 0)) (.cons (.bin .FloorDiv (.v 6) (.i 32)) .nil)))) (.nm 11)) (.cons (.fo (.e (.nw false (.li (.cons (.tu (.cons (.s "known") (.cons (.v 9) .nil))) (.cons (.tu (.cons (.s "open") (.cons (.v 11) .nil))) .nil))))) (.nm 12) (.cons (.fo (.e (.ca true 3 (.cons (.ca true 0 (.cons (.v 0) (.cons (.bin .Add (.v 1) (.i 2)) .nil))) (.cons (.i 6) (.cons (.bin .Pow (.i 10) (.i 6)) .nil))))) (.nm 13) (.cons (.as (.ca true 9 (.cons (.v 12) (.cons (.v 13) (.cons (.v 3) (.cons (.ix (.v 4) (.i 0)) .nil))))) (.nm 14)) (.cons (.as (.tu (.cons (.ix (.v 14) (.i 0)) (.cons (.nw false (.lof (.ix (.v 14) (.i 1)))) .nil))) (.nm 15)) (.cons (.as (.ca true 10 (.cons (.v 4) (.cons (.v 7) (.cons (.v 10) (.cons (.v 15) .nil))))) (.nm 16)) (.cons (.iff (.or (.no (.va (.is "bool" (.v 16)))) (.cmp .NotEq (.v 16) (.ca true 11 (.cons (.v 5) (.cons (.v 7) (.cons (.v 10) (.cons (.v 14) .nil))))))) (.cons (.rt (.b false)) .nil) .nil) (.cons (.iff (.or (.cmp .NotEq (.v 15) (.v 14)) (.cmp .NotEq (.v 4) (.v 5))) (.cons (.rt (.b false)) .nil) .nil) .nil)))))) .nil)) .nil)))))))))))) [some (.fz (iL ns)),some (.int ((k:Nat):Int)),y2,y3,y4,y5,y6,y7,y8,y9,y10,y11,y12,y13,y14,y15,y16] st=some r/\∃ st2,∃ y1 y2 y3 y4 y5 y6 y7 y8 y9 y10 y11 y12 y13 y14 y15 y16,r=.nx [some (.fz (iL ns)),y1,y2,y3,y4,y5,y6,y7,y8,y9,y10,y11,y12,y13,y14,y15,y16] st2:=by
  refine bY (sl':=[some (.fz (iL ns)),some (.int ((k:Nat):Int)),some (.int c1),y3,y4,y5,y6,y7,y8,y9,y10,y11,y12,y13,y14,y15,y16]) (st':=st) ?_ ?_
  ·simp only [bB,a9,ad,aj,aP,bf,bK,ax,aW,cW,bX,eC,am,aq,bind_some,aO,bd,bz,map_some,bT,l8,<- hc1];rfl
  refine bY (sl':=[some (.fz (iL ns)),some (.int ((k:Nat):Int)),some (.int c1),some (.int (n:Int)),y4,y5,y6,y7,y8,y9,y10,y11,y12,y13,y14,y15,y16]) (st':=st) ?_ ?_
  ·simp only [bB,a9,ad,aj,aP,bf,bK,ax,aW,cW,bX,eC,am,aq,bind_some,aO,bd,bz,map_some,bT,e3,dB,e3b];rfl
  refine bY (sl':=[some (.fz (iL ns)),some (.int ((k:Nat):Int)),some (.int c1),some (.int (n:Int)),some (ab M hs),y5,y6,y7,y8,y9,y10,y11,y12,y13,y14,y15,y16]) (st':=st) ?_ ?_
  ·simp only [bB,a9,ad,aj,aP,bf,bK,ax,aW,cW,bX,eC,am,aq,bind_some,aO,bd,bz,map_some,bT,f4,eH];rfl
  refine bY (sl':=[some (.fz (iL ns)),some (.int ((k:Nat):Int)),some (.int c1),some (.int (n:Int)),some (ab M hs),some (ab M hs),y6,y7,y8,y9,y10,y11,y12,y13,y14,y15,y16]) (st':=st) ?_ ?_
  ·simp only [bB,a9,ad,aj,aP,bf,bK,ax,aW,cW,bX,eC,am,aq,bind_some,aO,bd,bz,map_some,bT,Ai hk];rfl
  refine bY (sl':=[some (.fz (iL ns)),some (.int ((k:Nat):Int)),some (.int c1),some (.int (n:Int)),some (ab M hs),some (ab M hs),some (.int c2),y7,y8,y9,y10,y11,y12,y13,y14,y15,y16]) (st':=st) ?_ ?_
  ·simp only [bB,a9,ad,aj,aP,bf,bK,ax,aW,cW,bX,eC,am,aq,bind_some,aO,bd,bz,map_some,bT,dB,k1,l8,<- hc2];rfl
  refine bY (sl':=[some (.fz (iL ns)),some (.int ((k:Nat):Int)),some (.int c1),some (.int (n:Int)),some (ab M hs),some (ab M hs),some (.int c2),some (.int (g:Int)),y8,y9,y10,y11,y12,y13,y14,y15,y16]) (st':=st) ?_ ?_
  ·simp only [bB,a9,ad,aj,aP,bf,bK,ax,aW,cW,bX,eC,am,aq,bind_some,aO,bd,bz,map_some,bT,dJ (show n <= 1000 by omega),ld,e7,dB,e7b];rfl
  refine bY (sl':=[some (.fz (iL ns)),some (.int ((k:Nat):Int)),some (.int c1),some (.int (n:Int)),some (ab M hs),some (ab M hs),some (.int c2),some (.int (g:Int)),some (.fz (nL D)),y9,y10,y11,y12,y13,y14,y15,y16]) (st':=st) ?_ ?_
  ·simp only [bB,a9,ad,aj,aP,bf,bK,ax,aW,cW,bX,eC,am,aq,bind_some,aO,bd,bz,map_some,bT,f16,eD];rfl
  refine bY (sl':=[some (.fz (iL ns)),some (.int ((k:Nat):Int)),some (.int c1),some (.int (n:Int)),some (ab M hs),some (ab M hs),some (.int c2),some (.int (g:Int)),some (.fz (nL D)),some (.fz (Q.map pV)),y10,y11,y12,y13,y14,y15,y16]) (st':=st) ?_ ?_
  ·rw [bB,eQ _ _ _ _ _ _ _ _,bind_some];rfl
  refine bY (sl':=[some (.fz (iL ns)),some (.int ((k:Nat):Int)),some (.int c1),some (.int (n:Int)),some (ab M hs),some (ab M hs),some (.int c2),some (.int (g:Int)),some (.fz (nL D)),some (.fz (Q.map pV)),some (vw v0),y11,y12,y13,y14,y15,y16]) (st':=st) ?_ ?_
  ·simp only [bB,a9,ad,aj,aP,bf,bK,ax,aW,cW,bX,eC,am,aq,bind_some,aO,bd,bz,map_some,bT,qb hk hQ,<- hv0,bt];rfl
  refine bY (sl':=[some (.fz (iL ns)),some (.int ((k:Nat):Int)),some (.int c1),some (.int (n:Int)),some (ab M hs),some (ab M hs),some (.int c2),some (.int (g:Int)),some (.fz (nL D)),some (.fz (Q.map pV)),some (vw v),y11,y12,y13,y14,y15,y16]) (st':=st) ?_ ?_
  ·exact e10 _ _ _ _ _ _
  refine bY (sl':=[some (.fz (iL ns)),some (.int ((k:Nat):Int)),some (.int c1),some (.int (n:Int)),some (ab M hs),some (ab M hs),some (.int c2),some (.int (g:Int)),some (.fz (nL D)),some (.fz (Q.map pV)),some (vw v),some (vw x),y12,y13,y14,y15,y16]) (st':=st) ?_ ?_
  ·simp only [bB,a9,ad,aj,aP,bf,bK,ax,aW,cW,bX,eC,am,aq,bind_some,aO,bd,bz,map_some,bT,mW hk,hW,f32,eT];rfl
  have hi:∀ y12 y13 y14 y15 y16,bR [aD,aL,aS,ag,af,au,ao,ai,aF,aJ,ay,aB] (.e (.nw false (.li (.cons (.tu (.cons (.s "known") (.cons (.v 9) .nil))) (.cons (.tu (.cons (.s "open") (.cons (.v 11) .nil))) .nil))))) [some (.fz (iL ns)),some (.int ((k:Nat):Int)),some (.int c1),some (.int (n:Int)),some (ab M hs),some (ab M hs),some (.int c2),some (.int (g:Int)),some (.fz (nL D)),some (.fz (Q.map pV)),some (vw v),some (vw x),y12,y13,y14,y15,y16] st=some (⟨[AV.tup [.str "known",.fz (Q.map pV)],AV.tup [.str "open",vw x]].map id,[]⟩,st):=fun y12 y13 y14 y15 y16=>by
   have e1:ev [aD,aL,aS,ag,af,au,ao,ai,aF,aJ,ay,aB] (.nw false (.li (.cons (.tu (.cons (.s "known") (.cons (.v 9) .nil))) (.cons (.tu (.cons (.s "open") (.cons (.v 11) .nil))) .nil)))) [some (.fz (iL ns)),some (.int ((k:Nat):Int)),some (.int c1),some (.int (n:Int)),some (ab M hs),some (ab M hs),some (.int c2),some (.int (g:Int)),some (.fz (nL D)),some (.fz (Q.map pV)),some (vw v),some (vw x),y12,y13,y14,y15,y16] st=some (.fz [AV.tup [.str "known",.fz (Q.map pV)],AV.tup [.str "open",vw x]],st):=rfl;rw [m9,e1];rfl
  refine kT (gd:=[]) (xs:=[AV.tup [.str "known",.fz (Q.map pV)],AV.tup [.str "open",vw x]]) (em:=id) (fun _ sl _=>∃ y12 y13 y14 y15 y16,sl=[some (.fz (iL ns)),some (.int ((k:Nat):Int)),some (.int c1),some (.int (n:Int)),some (ab M hs),some (ab M hs),some (.int c2),some (.int (g:Int)),some (.fz (nL D)),some (.fz (Q.map pV)),some (vw v),some (vw x),y12,y13,y14,y15,y16]) (hi _ _ _ _ _) (fun _ _ _ _=>rfl) ⟨_,_,_,_,_,rfl⟩ (fun i G sl st hG hI=>?_) fun sl' st' hI=>?_
  ·obtain ⟨y12,y13,y14,y15,y16,rfl⟩:=hI
   have hB:Bt G n M:=by
    have:=zV hG
    simp only [zS,zW,or_false] at this;rcases this with rfl | rfl
    ·exact Et lQ
    ·exact Eu j9
   obtain ⟨sl2,st2,e,h⟩:=BL (ns:=ns) (k:=k) (x:=x) (c1:=c1) (c2:=c2) (D:=D) (Q:=Q) (G:=G) (y13:=y13) (y14:=y14) (y15:=y15) (y16:=y16) (st:=st) (g:=g) hk hv hB;exact ⟨([some (.fz (iL ns)),some (.int ((k:Nat):Int)),some (.int c1),some (.int (n:Int)),some (ab M hs),some (ab M hs),some (.int c2),some (.int (g:Int)),some (.fz (nL D)),some (.fz (Q.map pV)),some (vw v),some (vw x),some (G),y13,y14,y15,y16],st),sl2,st2,rfl,e,h⟩
  ·obtain ⟨y12,y13,y14,y15,y16,rfl⟩:=hI
   exact ⟨_,rfl,st',_,_,_,_,_,_,_,_,_,_,_,_,_,_,_,_,rfl⟩
 obtain ⟨r,e,st2,y1,y2,y3,y4,y5,y6,y7,y8,y9,y10,y11,y12,y13,y14,y15,y16,rfl⟩:=key;exact ⟨_,st2,e,_,_,_,_,_,_,_,_,_,_,_,_,_,_,_,_,rfl⟩
theorem BQ {ns:List Int} (hl:ns.length <= 63):∃ st,jO [.fz (iL ns)] []=some (.bl true,st):=by
 have key:∃ r,jO [.fz (iL ns)] []=some r/\r.1=.bl true:=by
  rw [jO,bv];show ∃ r,(av [aD,aL,aS,ag,af,au,ao,ai,aF,aJ,ay,aB] oJ [some (.fz (iL ns)),none,none,none,none,none,none,none,none,none,none,none,none,none,none,none,none] []).bind aA=some r/\_;obtain ⟨N,hi⟩:=A5 (ks:=[aD,aL,aS,ag,af,au,ao,ai,aF,aJ,ay,aB]) (sl:=[some (.fz (iL ns)),none,none,none,none,none,none,none,none,none,none,none,none,none,none,none,none]) (st:=[]) (ns:=ns) hl rfl;refine gv (gd:=[]) (xs:=List.range N) (em:=fun q:Nat=>AV.int ((3 * q:Nat):Int)) (fun _ sl _=>∃ y1 y2 y3 y4 y5 y6 y7 y8 y9 y10 y11 y12 y13 y14 y15 y16,sl=[some (.fz (iL ns)),y1,y2,y3,y4,y5,y6,y7,y8,y9,y10,y11,y12,y13,y14,y15,y16]) hi (fun _ _ _ _=>rfl) ⟨none,none,none,none,none,none,none,none,none,none,none,none,none,none,none,none,rfl⟩ (fun i x sl st hx hI=>?_) fun sl' st' hI=>?_
  ·obtain ⟨y1,y2,y3,y4,y5,y6,y7,y8,y9,y10,y11,y12,y13,y14,y15,y16,rfl⟩:=hI
   obtain ⟨sl2,st2,e,h⟩:=Ar (ns:=ns) (k:=3 * x) (st:=st) (y2:=y2) (y3:=y3) (y4:=y4) (y5:=y5) (y6:=y6) (y7:=y7) (y8:=y8) (y9:=y9) (y10:=y10) (y11:=y11) (y12:=y12) (y13:=y13) (y14:=y14) (y15:=y15) (y16:=y16);exact ⟨([some (.fz (iL ns)),some (.int ((3 * x:Nat):Int)),y2,y3,y4,y5,y6,y7,y8,y9,y10,y11,y12,y13,y14,y15,y16],st),sl2,st2,rfl,e,h⟩
  ·obtain ⟨y1,y2,y3,y4,y5,y6,y7,y8,y9,y10,y11,y12,y13,y14,y15,y16,rfl⟩:=hI
   exact br (v:=.bl true) (st':=st') rfl rfl
 obtain ⟨⟨v,s⟩,e,h⟩:=key;have h:v=.bl true:=h;subst h;exact ⟨s,e⟩
theorem DL:Room e_law.d callerA:=⟨rfl,by decide,by decide,rfl⟩
theorem holds:∀ ns:List Int,ns.length <= 63->∃ st,C8 [.fz (ns.map .int)] []=some (.bl true,st):=fun _ h=>BQ h
end
end LW
open PySem PySem.W PyProof.Rows
set_option maxRecDepth 100000 in
set_option maxHeartbeats 0 in
theorem PySem.Challenge.cw_telltight_k47_known_looked_at_holds : PySem.Challenge.rw_telltight_k47_known_looked_at.Holds := by
 w_on; o_law; k_head; (case hw => w_witness2)
 k_fill
 refine R.walk_R (l := PySem.Challenge.rw_telltight_k47_known_looked_at) (k := LW.e_law.d) (fn := LW.C8) (tabs := []) rfl rfl ?hrr (fun w h Y => ⟨kIn_of Y, fun q hq => by cases hq⟩) ?hcc ?hKK ?htt LW.holds ?F
 case hrr => exact LW.DL
 case hcc => intro w q hq; cases hq
 case hKK => intro w; kernel_rfl
 case htt => intro t ht; cases ht
 case F =>
  intro w mg fa h KX G hmg;refine R.law_F (gs := LW.gs) (cl := LW.cl) (pre := LW.pre) (e := LW.e_law) KX G hmg ?nb ?gs ?cl LW.we LW.wf (LW.xF KX G ?h0 ?h1 ?h2 ?h3 ?h4 ?h5 ?h6 ?h7 ?h8 ?h9 ?h10 ?h11 ?h12 ?h13 ?h14 ?h15 ?h16 ?h17 ?h18 ?h19 ?h20 ?h21 ?h22) ?law rfl LW.BR
  case nb => kernel_rfl
  case gs => intro p hp; simp only [LW.gs, zS, zW, or_false] at hp
  case cl => intro p hp; simp only [LW.cl, zS, zW, or_false] at hp
  case law => exact ⟨_, _, _, _, _, _, _, _, _, _, by k_is, by k_is, by k_is, by k_is, .inl rfl⟩
  all_goals first | exact ⟨_, _, _, _, _, _, _, _, _, _, by k_is, by k_is, by k_is, by k_is, .inl rfl⟩ | exact ⟨_, _, _, _, _, _, _, _, _, _, _, by k_is, by k_is, by k_is, by k_is, by k_is, by k_is, .inl rfl⟩
#print axioms PySem.Challenge.cw_telltight_k47_known_looked_at_holds
