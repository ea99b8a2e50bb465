import PyProof.Rows.All
import Wide.All
import OpenK.AllK
import Wide.FinOn
import PySem.Challenge.RW_telltight_k46_whole_known_or_open
set_option bootstrap.genMatcherCode false
set_option compiler.extract_closed false
noncomputable section
open Option (bind_some map_some)
open PySem.W (CodeHd Frag InitBack InstAt TabsAt any_some bind_fn callWith_K cellsFrom_some codeHdIn codeHd_of_K codeIn codeRec_of emptyDict findIn findObj_own fnOf get_value handedIn hasDictIn hideAll hideAll_get hideAll_none hideAll_size instObj isFn kIn_of keepIn ki_setAt ki_setBack kia_one kitOne kitx_bool kitx_dict kitx_float kitx_int kitx_list kitx_none kitx_own kitx_str kitx_tuple lookIn looks_clsIn looks_findIn make_core makesIn makes_of mem_of_lookupK methodCall_KW methodObj method_fn mg_none_of mg_of mroIn noTabs nsIn of_hideAll osa_open plainGet plainGet_of plainOver set_plain specialIn tabObj takerIn takesIn truthy_bytes typeIn)
theorem oM {p:Prop} (h:p:=by first | omega | (refine @id (@Ne Nat _ _) ?_;omega)):p:=h
theorem dC {p:Prop} (h:p:=by decide):p:=h
set_option Elab.async false
set_option linter.all false
set_option maxRecDepth 100000
theorem zA{α β}{o:Option α}{f:α->Option β}{b}:o.bind f=some b->∃a,o=some a∧f a=some b:=Option.bind_eq_some_iff.mp
theorem zB:type_of% @List.getElem?_eq_some_iff:=@List.getElem?_eq_some_iff
theorem zC:type_of% @Bool.and_eq_true:=@Bool.and_eq_true
theorem zD:type_of% @List.getD_eq_getElem?_getD:=@List.getD_eq_getElem?_getD
theorem zE:type_of% @Option.map_eq_some_iff:=@Option.map_eq_some_iff
theorem zF:type_of% @List.getElem?_eq_getElem:=@List.getElem?_eq_getElem
theorem zG:type_of% @PySem.Heap.get?_push_of_some:=@PySem.Heap.get?_push_of_some
theorem zH:type_of% @List.length_map:=@List.length_map
theorem zI:type_of% @List.size_toArray:=@List.size_toArray
theorem zJ:type_of% @Nat.lt_of_lt_of_le:=@Nat.lt_of_lt_of_le
theorem zK:type_of% @List.mem_append_right:=@List.mem_append_right
theorem zL:type_of% @List.mem_singleton:=@List.mem_singleton
theorem zN:type_of% @List.getElem?_append_left:=@List.getElem?_append_left
theorem zO:type_of% @List.map_cons:=@List.map_cons
theorem zP:type_of% @Nat.le_refl:=@Nat.le_refl
theorem zQ:type_of% @List.mem_cons_of_mem:=@List.mem_cons_of_mem
theorem zR:type_of% @List.getElem?_map:=@List.getElem?_map
theorem zS:type_of% @Nat.le_of_ble_eq_true:=@Nat.le_of_ble_eq_true
theorem zT:type_of% @List.mem_cons:=@List.mem_cons
theorem zU:type_of% @Nat.ne_of_lt:=@Nat.ne_of_lt
theorem zV:type_of% @List.length_append:=@List.length_append
theorem zW:type_of% @List.mem_of_getElem?:=@List.mem_of_getElem?
theorem zX:type_of% @List.not_mem_nil:=@List.not_mem_nil
theorem zY:type_of% @PySem.Heap.get?_push_size:=@PySem.Heap.get?_push_size
theorem zZ:type_of% @List.mem_append:=@List.mem_append
theorem z0:type_of% @Nat.le_trans:=@Nat.le_trans
theorem z3:type_of% @List.getElem?_append_right:=@List.getElem?_append_right
theorem z4:type_of% @List.mem_cons_self:=@List.mem_cons_self
theorem z5:type_of% @decide_eq_false:=@decide_eq_false
theorem z6:type_of% @Bool.false_eq_true:=@Bool.false_eq_true
theorem z7:type_of% @decide_eq_true_eq:=@decide_eq_true_eq
theorem yA:type_of% @List.mem_map:=@List.mem_map
theorem yB:type_of% @Option.some.inj:=@Option.some.inj
theorem yC:type_of% @PySem.wpAny_bind:=@PySem.wpAny_bind
theorem yD:type_of% @PySem.wpAny_pure:=@PySem.wpAny_pure
theorem yE:type_of% @if_neg:=@if_neg
theorem yF:type_of% @if_pos:=@if_pos
theorem yG:type_of% @PySem.Heap.lt_size:=@PySem.Heap.lt_size
theorem yH:type_of% @eq_of_beq:=@eq_of_beq
theorem yI:type_of% @Nat.ble_eq_true_of_le:=@Nat.ble_eq_true_of_le
theorem yJ:type_of% @List.append_assoc:=@List.append_assoc
theorem yK:type_of% @List.lookup_cons:=@List.lookup_cons
theorem yL:type_of% @List.all_eq_true:=@List.all_eq_true
theorem yM:type_of% @PySem.wpAny_holding:=@PySem.wpAny_holding
theorem yN:type_of% @PySem.wpAny_mono:=@PySem.wpAny_mono
theorem yO:type_of% @Nat.lt_or_ge:=@Nat.lt_or_ge
theorem yP:type_of% @decide_eq_true:=@decide_eq_true
theorem yQ:type_of% @List.length_cons:=@List.length_cons
theorem yR:type_of% @Nat.le_of_lt:=@Nat.le_of_lt
theorem yS:type_of% @Nat.lt_irrefl:=@Nat.lt_irrefl
namespace L2
open PySem PySem.Spec PyProof.Rows
abbrev a0:=Sum Int Str
def eJ:a0->Value->Bool
 | .inl k,v=>Value.isInt k v
 | .inr x,v=>Value.isStrOf x v
def EX (w:World):a0->Int
 | .inl k=>hashInt k
 | .inr x=>hashStr w x
theorem cb:∀ {k:a0}{v:Value},eJ k v=true->(∃ i t,k=Sum.inl i/\v=Value.int i t)\/(∃ x t,k=Sum.inr x/\v=Value.str x t)
 | .inl i,v,h=>by
  obtain ⟨t,e⟩:=Value.isInt_shape (k:=i) (v:=v) h;exact .inl ⟨i,t,rfl,e⟩
 | .inr x,v,h=>by
  obtain ⟨t,e⟩:=Value.isStrOf_shape (x:=x) (v:=v) h;exact .inr ⟨x,t,rfl,e⟩
theorem qV (i:Int) (t:Tok):eJ (.inl i) (.int i t)=true:=by simp [eJ,Value.isInt]
theorem qT (x:Str) (t:Tok):eJ (.inr x) (.str x t)=true:=by simp [eJ,Value.isStrOf]
theorem AJ (a b:Int):decide ((Sum.inl a:a0)=Sum.inl b)=(a == b):=by
 by_cases e:a=b
 ·subst e;simp
 ·have h:¬ (Sum.inl a:a0)=Sum.inl b:=fun q=>e (Sum.inl.inj q)
  rw [z5 h];exact (beq_eq_false_iff_ne.mpr e).symm
theorem AG (a b:Str):decide ((Sum.inr a:a0)=Sum.inr b)=decide (a=b):=by
 by_cases e:a=b
 ·subst e;simp
 ·have h:¬ (Sum.inr a:a0)=Sum.inr b:=fun q=>e (Sum.inr.inj q)
  rw [z5 h,z5 e]
theorem AI (a:Int) (b:Str):decide ((Sum.inl a:a0)=Sum.inr b)=false:=z5 (fun q=>nomatch q)
theorem AH (a:Str) (b:Int):decide ((Sum.inr a:a0)=Sum.inl b)=false:=z5 (fun q=>nomatch q)
def bL (prog:Program) (w:World):PySem.KeyKind prog w a0 where
 is:=eJ
 hash:=EX w
 inj:=fun v a b ha hb=>by
  rcases cb ha with ⟨i,t,rfl,rfl⟩ | ⟨x,t,rfl,rfl⟩
  ·rcases cb hb with ⟨j,u,rfl,e⟩ | ⟨y,u,rfl,e⟩
   ·injection e with e1 _;rw [e1]
   ·exact nomatch e
  ·rcases cb hb with ⟨j,u,rfl,e⟩ | ⟨y,u,rfl,e⟩
   ·exact nomatch e
   ·injection e with e1 _;rw [e1]
 byValue:=fun k v h=>by
  rcases cb h with ⟨i,t,rfl,rfl⟩ | ⟨x,t,rfl,rfl⟩ <;> rfl
 pyHash:=fun hv h=>by
  rcases cb hv with ⟨i,t,rfl,rfl⟩ | ⟨x,t,rfl,rfl⟩
  ·exact wpAny_pyHash_int h
  ·exact wpAny_pyHash_str h
 eqBool:=fun hu hv h=>by
  rcases cb hu with ⟨i,t,rfl,rfl⟩ | ⟨x,t,rfl,rfl⟩
  ·rcases cb hv with ⟨j,u,rfl,rfl⟩ | ⟨y,u,rfl,rfl⟩
   ·rw [AJ] at h;exact wpAny_eqBool_int h
   ·rw [AI] at h;exact SeqAt.EqAt.int_str i t y u _ _ _ _ h
  ·rcases cb hv with ⟨j,u,rfl,rfl⟩ | ⟨y,u,rfl,rfl⟩
   ·rw [AH] at h;exact SeqAt.EqAt.str_int x t j u _ _ _ _ h
   ·rw [AG] at h;exact wpAny_eqBool_str h
 «strs»:=fun k x t v h=>by
  rcases cb h with ⟨i,u,rfl,e⟩ | ⟨y,u,rfl,e⟩
  ·exact nomatch e
  ·injection e with e1 _
   subst e1;cases v <;> rfl
theorem ng (prog:Program) (w:World) (i:Int) (t:Tok):(bL prog w).is (.inl i) (.int i t)=true:=qV i t
theorem m9 (prog:Program) (w:World) (x:Str) (t:Tok):(bL prog w).is (.inr x) (.str x t)=true:=qT x t
inductive V where
 | non | bl (b:Bool) | int (i:Int) | str (x:Str) | byt (b:Array UInt8) | flt (b:UInt64) | ref (a:Addr) | ty (n:String)
 deriving DecidableEq
def RelV:V->Value->Prop
 | .non,u=>u=Value.none
 | .bl b,u=>u=Value.bool b
 | .int i,u=>∃ t,u=Value.int i t
 | .str x,u=>∃ t,u=Value.str x t
 | .byt b,u=>∃ t,u=Value.bytes b t
 | .flt b,u=>∃ t,u=Value.float b t
 | .ref a,u=>u=Value.ref a
 | .ty n,u=>u=Value.type n
abbrev Vals:List V->List Value->Prop:=Paired RelV
theorem Vals.length {xs:List V}{us:List Value} (r:Vals xs us):xs.length=us.length:=Paired.length r
theorem Vals.get:∀ {xs:List V}{us:List Value}{i:Nat}{x:V},Vals xs us->xs[i]?=some x->∃ u,us[i]?=some u/\RelV x u
 | _,_,_,_,.nil,e=>by simp at e
 | _,_,0,_,.cons r _,e=>by simp at e;subst e;exact ⟨_,rfl,r⟩
 | _,_,i + 1,x,.cons _ t,e=>by
  obtain ⟨u,h1,h2⟩:=Vals.get (i:=i) (x:=x) t (by simpa using e);exact ⟨u,by simpa using h1,h2⟩
theorem Vals.set {x:V}{u:Value} (r:RelV x u):∀ {xs:List V}{us:List Value} (i:Nat),Vals xs us->Vals (xs.set i x) (us.set i u)
 | _,_,_,.nil=>.nil
 | _,_,0,.cons _ t=>.cons r t
 | _,_,i + 1,.cons q t=>.cons q (Vals.set r i t)
theorem Vals.append:∀ {xs ys:List V}{us ws:List Value},Vals xs us->Vals ys ws->Vals (xs++ys) (us++ws):=by
 intro xs ys us ws h s
 induction h with
 | nil=>exact s
 | cons r t ih=>exact .cons r ih
theorem Vals.take:∀ {xs:List V}{us:List Value} (n:Nat),Vals xs us->Vals (xs.take n) (us.take n):=by
 intro xs us n h
 induction h generalizing n with
 | nil=>cases n <;> exact .nil
 | cons r t ih=>cases n with
  | zero=>exact .nil
  | succ n=>exact .cons r (ih n)
theorem Vals.drop:∀ {xs:List V}{us:List Value} (n:Nat),Vals xs us->Vals (xs.drop n) (us.drop n):=by
 intro xs us n h
 induction h generalizing n with
 | nil=>cases n <;> exact .nil
 | cons r t ih=>cases n with
  | zero=>exact .cons r t
  | succ n=>exact ih n
def RelO:Option V->Option Value->Prop
 | some v,some u=>RelV v u
 | none,none=>True
 | _,_=>False
def KV {κ:Type}:List (κ × V)->List (κ × Value)->Prop:=Paired fun (p:κ × V) (q:κ × Value)=>p.1=q.1/\RelV p.2 q.2
def kV:a0->V
 | .inl i=>.int i
 | .inr x=>.str x
inductive HO where
  | lst (xs:List V)
  | tup (xs:List V)
  | dK (GE:List (a0 × V)) | dT (GE:List (List a0 × V))
  | set (S:Int->Bool) (n:Nat)
  | ins (C dx:Addr) (fs:List (Str × V))
  | own (x:Addr)
  | xd (fs:List (Str × V))
  | met (f x:Addr)
  | rng (lo hi:Int)
  | frz (o:Obj) (u:HO)
  | tbl (ps:Array Value)
  | ext (φ:Heap->Prop)
abbrev Hp:=Addr->Option HO
def am (H:Hp) (a:Addr) (o:HO):Hp:=fun b=>if b=a then some o else H b
theorem aE {H:Hp}{a:Addr}{o:HO}:am H a o a=some o:=by unfold am;rw [yF rfl]
theorem af {H:Hp}{a b:Addr}{o:HO} (h:b ≠ a):am H a o b=H b:=by unfold am;rw [yE h]
theorem o4 {H:Hp}{a b:Addr}{o u:HO} (h:H a=some o) (h':H b=some u) (d:o ≠ u):a ≠ b:=by
 intro e;subst e;rw [h] at h';exact d (yB h')
theorem a8 {H:Hp}{a b:Addr}{o:HO} (h:H a=some o) (h':H b=none):a ≠ b:=by
 intro e;subst e;rw [h] at h';cases h'
section
variable (P:Program) (w:World)
def ObjOk (H:Hp) (h:Heap) (a:Addr):HO->Prop
 | .lst xs=>xs.length <= sizeLine/\∃ (GH:List Value) (n:Nat),Vals xs GH/\h.get? a=some { cls:=.type "list",data:=.seq GH.toArray n }
 | .tup xs=>xs.length <= sizeLine/\∃ GH:List Value,Vals xs GH/\IsTup h a GH.toArray
 | .dK GE=>GE.length <= sizeLine/\(a == sysModules)=false/\∃ vs,KV GE vs/\h.DictOf (bL P w) a vs
 | .dT GE=>GE.length <= sizeLine/\(a == sysModules)=false/\∃ xs:List (List a0 × Addr × Value),
   Paired (fun (p:List a0 × V) (q:List a0 × Addr × Value)=>p.1=q.1/\H q.2.1=some (.tup (p.1.map kV))/\RelV p.2 q.2.2) GE xs /\
   ∃ o es ep,h.get? a=some o/\o.ExactDict/\o.data=.dict es ep/\es.toList=xs.map (entryOfKey (tupleKind (bL P w)))/\(xs.map (·.1)).Nodup
 | .set S n=>h.SetOf (intKind P w) a S n
 | .ins C dx fs=>H dx=some (.own a)/\fs.length <= 1000/\dx ≠ a/\h.get? a=some (instObj C dx) /\
   ∃ mA,h.Ns1 dx mA/\(∀ f,RelO (fs.lookup f) (mA f))/\PySem.Within mA (fs.map (·.1))
 | .own _=>∃ o,h.get? a=some o
 | .xd fs=>∃ mA,h.Ns1 a mA/\∀ f,RelO (fs.lookup f) (mA f)
 | .rng lo hi=>∃ t u v,h.get? a=some { cls:=.type "range",data:=.fields #[.int lo t,.int hi u,.int 1 v] }
 | .frz o u=>h.get? a=some o/\ObjOk H h a u
 | .tbl ps=>h.get? a=some { cls:=.none,data:=.fields ps }
 | .met f x=>h.get? a=some (methodObj (.ref f) (.ref x))
 | .ext φ=>φ h/\(∃ o,h.get? a=some o)/\∀ h1 h2:Heap,φ h1->(∀ o,h1.get? a=some o->h2.get? a=some o)->φ h2
def HOk (H:Hp) (h:Heap):Prop:=∀ a o,H a=some o->ObjOk P w H h a o
end
section
variable {P:Program}{w:World}{H H':Hp}{h h':Heap}{a:Addr}{o:HO}
theorem ObjOk.lt (x:ObjOk P w H h a o):a < h.objs.size:=by
 cases o with
 | lst xs=>obtain ⟨_,_,_,_,e⟩:=x;exact yG e
 | tup xs=>obtain ⟨_,_,_,p⟩:=x;exact p.lt
 | dK GE=>obtain ⟨_,_,_,_,o,_,_,e,_⟩:=x;exact yG e
 | dT GE=>obtain ⟨_,_,_,_,o,_,_,e,_⟩:=x;exact yG e
 | set S n=>obtain ⟨o,_,_,_,e,_⟩:=x;exact yG e
 | ins C dx fs=>obtain ⟨_,_,_,e,_⟩:=x;exact yG e
 | own y=>obtain ⟨_,e⟩:=x;exact yG e
 | xd fs=>obtain ⟨_,⟨_,_,_,e,_⟩,_⟩:=x;exact yG e
 | rng lo hi=>obtain ⟨_,_,_,e⟩:=x;exact yG e
 | frz ob u=>obtain ⟨e,_⟩:=x;exact yG e
 | tbl ps=>exact yG (show h.get? a=some _ from x)
 | met f y=>exact yG (show h.get? a=some _ from x)
 | ext φ=>obtain ⟨_,⟨_,e⟩,_⟩:=x;exact yG e
theorem Paired.mapP {α β:Type}{F G:α->β->Prop}:∀ {l₁:List α}{l₂:List β},Paired F l₁ l₂->(∀ a b,F a b->G a b)->Paired G l₁ l₂:=by
 intro l₁ l₂ h f
 induction h with
 | nil=>exact .nil
 | cons r t ih=>exact .cons (f _ _ r) ih
theorem ObjOk.stay (x:ObjOk P w H h a o) (k:∀ b u,(b=a\/H b=some (.own a))->h.get? b=some u->h'.get? b=some u)
  (ho:∀ b,H b=some (.own a)->H' b=some (.own a)) (ht:∀ b xs,H b=some (.tup xs)->H' b=some (.tup xs)):ObjOk P w H' h' a o:=by
 induction o with
 | lst xs=>obtain ⟨z,GH,n,r,e⟩:=x;exact ⟨z,GH,n,r,k _ _ (.inl rfl) e⟩
 | tup xs=>obtain ⟨z,GH,r,ob,e,c⟩:=x;exact ⟨z,GH,r,ob,k _ _ (.inl rfl) e,c⟩
 | dK GE=>obtain ⟨z,y,vs,r,ob,es,ep,e,c⟩:=x;exact ⟨z,y,vs,r,ob,es,ep,k _ _ (.inl rfl) e,c⟩
 | dT GE =>
  obtain ⟨z,y,xs,r,ob,es,ep,e,c⟩:=x;exact ⟨z,y,xs,Paired.mapP r fun p q z=>⟨z.1,ht _ _ z.2.1,z.2.2⟩,ob,es,ep,k _ _ (.inl rfl) e,c⟩
 | set S n=>obtain ⟨ob,es,ep,t,e,c⟩:=x;exact ⟨ob,es,ep,t,k _ _ (.inl rfl) e,c⟩
 | ins C dx fs =>
  obtain ⟨d,z,ne,e,mA,⟨od,es,ep,e2,c⟩,r⟩:=x;exact ⟨ho _ d,z,ne,k _ _ (.inl rfl) e,mA,⟨od,es,ep,k _ _ (.inr d) e2,c⟩,r⟩
 | own y=>obtain ⟨ob,e⟩:=x;exact ⟨ob,k _ _ (.inl rfl) e⟩
 | xd fs=>obtain ⟨mA,⟨od,es,ep,e,c⟩,r⟩:=x;exact ⟨mA,⟨od,es,ep,k _ _ (.inl rfl) e,c⟩,r⟩
 | rng lo hi=>obtain ⟨t,u,v,e⟩:=x;exact ⟨t,u,v,k _ _ (.inl rfl) e⟩
 | frz ob u ih=>obtain ⟨e,q⟩:=x;exact ⟨k _ _ (.inl rfl) e,ih q⟩
 | tbl ps =>
  have e:h.get? a=some { cls:=.none,data:=.fields ps }:=x;show h'.get? a=some { cls:=.none,data:=.fields ps };exact k a _ (.inl rfl) e
 | met f y =>
  have e:h.get? a=some (methodObj (.ref f) (.ref y)):=x;show h'.get? a=some (methodObj (.ref f) (.ref y));exact k a _ (.inl rfl) e
 | ext φ=>obtain ⟨p,⟨o,e⟩,st⟩:=x;exact ⟨st _ _ p fun o q=>k _ _ (.inl rfl) q,⟨o,k _ _ (.inl rfl) e⟩,st⟩
theorem HOk.lt (x:HOk P w H h) (e:H a=some o):a < h.objs.size:=(x a o e).lt
theorem HOk.fresh (x:HOk P w H h) (e:h.objs.size <= a):H a=none:=by
 cases q:H a with
 | none=>rfl
 | some u=>exact absurd (zJ (x.lt q) e) (yS _)
theorem HOk.kept (x:HOk P w H h) (k:∀ b u,h.get? b=some u->h'.get? b=some u):HOk P w H h':=fun a o e =>
 (x a o e).stay (fun b u _ q=>k b u q) (fun _ q=>q) fun _ _ q=>q
theorem HOk.laid (x:HOk P w H h) (k:∀ b u,h.get? b=some u->h'.get? b=some u) (hp:h.objs.size <= a) (new:ObjOk P w (am H a o) h' a o):HOk P w (am H a o) h':=fun b u e=>by
 have hn:=x.fresh hp;by_cases hb:b=a
 ·subst hb;rw [aE] at e;cases e;exact new
 ·rw [af hb] at e
  exact (x b u e).stay (fun c v _ q=>k c v q) (fun c q=>by rw [af (a8 q hn)];exact q) fun c xs q=>by rw [af (a8 q hn)];exact q
end
def Rd (H:Hp) (a:Addr) (u:HO):Prop:=H a=some u\/∃ o,H a=some (.frz o u)
theorem Rd.ok {P:Program}{w:World}{H:Hp}{h:Heap}{a:Addr}{u:HO} (r:Rd H a u) (x:HOk P w H h):ObjOk P w H h a u:=by
 rcases r with r | ⟨o,r⟩
 ·exact x a u r
 ·obtain ⟨_,q⟩:=x a _ r
  exact q
def sf:Option HO->Prop
 | some (.lst _)=>True
 | some (.dK _)=>True
 | some (.dT _)=>True
 | some (.set _ _)=>True
 | some (.ins _ _ _)=>True
 | some (.ext _)=>True
 | _=>False
section
variable {P:Program}{w:World}{H:Hp}{h h':Heap}{x e:Addr}{o':HO}
theorem HOk.write (ok:HOk P w H h) (mu:sf (H x)) (he:e=x\/H e=some (.own x)) (k:∀ b u,b ≠ e->h.get? b=some u->h'.get? b=some u) (heo:∃ u,h'.get? e=some u)
  (new:ObjOk P w (am H x o') h' x o'):HOk P w (am H x o') h':=fun b u q=>by
 have nown:∀ c y,H c=some (.own y)->c ≠ x:=fun c y r z=>by subst z;rw [r] at mu;exact mu
 have ntup:∀ c xs,H c=some (.tup xs)->c ≠ x:=fun c xs r z=>by subst z;rw [r] at mu;exact mu
 by_cases hb:b=x
 ·subst hb;rw [aE] at q;cases q;exact new
 ·rw [af hb] at q
  by_cases hbe:b=e
  ·have q':H b=some (.own x):=by
    rcases he with z | z
    ·exact absurd (hbe.trans z) hb
    ·rw [hbe];exact z
   rw [q] at q';cases q';obtain ⟨v,hv⟩:=heo;exact ⟨v,by rw [hbe];exact hv⟩
  ·refine (ok b u q).stay (fun c v hc r=>k c v ?_ r) (fun c r=>by rw [af (nown c b r)];exact r) fun c xs r=>by rw [af (ntup c xs r)];exact r
   rcases hc with rfl | hc
   ·exact hbe
   ·rintro rfl
    rcases he with z | z
    ·exact nown c b hc z
    ·rw [hc] at z;cases z;exact hb rfl
end
structure Un (fs ex:List Addr) (H H':Hp) (h h':Heap):Prop where
 keep:∀ b o,h.get? b=some o->H b=none->b ∉ fs->b ∉ ex->h'.get? b=some o
 slot:∀ b o,h.get? b=some o->H b=none->b ∈ fs->b ∉ ex->∃ sl,h'.get? b=some { o with slots:=sl }
 free:∀ b o,h.get? b=some o->H b=none->b ∉ ex->H' b=none
 there:∀ b o,h.get? b=some o->b ∉ ex->∃ o',h'.get? b=some o'
 tups:∀ b xs,H b=some (.tup xs)->H' b=some (.tup xs)
 frzs:∀ b o u,H b=some (.frz o u)->H' b=some (.frz o u)
 tbls:∀ b ps,H b=some (.tbl ps)->∃ more,H' b=some (.tbl (ps++more))
section
variable {fs fs' ex ex':List Addr}{H H1 H2:Hp}{h h1 h2 h':Heap}{a x e:Addr}{o:HO}
theorem Un.any (u:Un fs ex H H1 h h1) {b:Addr}{ob:Obj} (q:h.get? b=some ob) (n:H b=none) (hx:b ∉ ex):∃ sl,h1.get? b=some { ob with slots:=sl }:=by
 by_cases hb:b ∈ fs
 ·exact u.slot b ob q n hb hx
 ·exact ⟨ob.slots,u.keep b ob q n hb hx⟩
theorem Un.kept (k:∀ b u,h.get? b=some u->h'.get? b=some u):Un fs ex H H h h' :=
 ⟨fun b ob q _ _ _=>k b ob q,fun b ob q _ _ _=>⟨ob.slots,k b ob q⟩,fun _ _ _ n _=>n,fun b ob q _=>⟨ob,k b ob q⟩,fun _ _ q=>q,fun _ _ _ q=>q,fun _ ps q=>⟨#[],by rw [q];simp⟩⟩
theorem Un.refl:Un fs ex H H h h:=Un.kept fun _ _ q=>q
theorem Un.laid (k:∀ b u,h.get? b=some u->h'.get? b=some u) (hp:h.objs.size <= a) (hn:H a=none):Un fs ex H (am H a o) h h' where
 keep:=fun b u q _ _ _=>k b u q
 slot:=fun b u q _ _ _=>⟨u.slots,k b u q⟩
 free:=fun b u q n _=>by rw [af (zU (zJ (yG q) hp))];exact n
 there:=fun b u q _=>⟨u,k b u q⟩
 tups:=fun b xs q=>by rw [af (a8 q hn)];exact q
 frzs:=fun b u xs q=>by rw [af (a8 q hn)];exact q
 tbls:=fun b ps q=>⟨#[],by rw [af (a8 q hn),q];simp⟩
theorem Un.write (mu:sf (H x)) (he:e=x\/H e=some (.own x)) (k:∀ b u,b ≠ e->h.get? b=some u->h'.get? b=some u) (heo:∃ u,h'.get? e=some u):Un fs ex H (am H x o) h h':=by
 have hx:∀ b,H b=none->b ≠ x:=fun b n z=>by subst z;rw [n] at mu;exact mu
 have hb:∀ b,H b=none->b ≠ e:=fun b n z=>by
  subst z;rcases he with r | r
  ·exact hx b n r
  ·rw [n] at r;cases r
 have hm:∀ b u,H b=some u->¬ sf (some u)->b ≠ x:=fun b u q nm z=>by subst z;rw [q] at mu;exact nm mu
 refine ⟨fun b u q n _ _=>k b u (hb b n) q,fun b u q n _ _=>⟨u.slots,k b u (hb b n) q⟩,fun b u q n _=>by rw [af (hx b n)];exact n,fun b u q _=>?_,
  fun b xs q=>by rw [af (hm b _ q fun z=>z)];exact q,fun b u xs q=>by rw [af (hm b _ q fun z=>z)];exact q,fun b ps q=>⟨#[],by rw [af (hm b _ q fun z=>z),q];simp⟩⟩
 by_cases hbe:b=e
 ·subst hbe;exact heo
 ·exact ⟨u,k b u hbe q⟩
end
def uJ (h:Heap) (H:Hp):List Addr:=(List.range h.objs.size).filter fun a=>(H a).isSome
def fJ (h:Heap) (H:Hp):Heap:=hideAll h (uJ h H)
theorem re (h:Heap) (H:Hp):(fJ h H).objs.size=h.objs.size:=hideAll_size _ _
theorem uk {h:Heap}{H:Hp}{b:Addr}{o:Obj} (e:h.get? b=some o) (n:H b=none):(fJ h H).get? b=some o :=
 hideAll_get _ e fun hm=>by
  have q:(H b).isSome=true:=(List.mem_filter.mp hm).2;rw [n] at q;simp at q
theorem wK {h:Heap}{H:Hp}{b:Addr}{o:Obj} (e:(fJ h H).get? b=some o):h.get? b=some o/\H b=none:=by
 have e':h.get? b=some o:=of_hideAll (uJ h H) e;refine ⟨e',?_⟩;cases q:H b with
 | none=>rfl
 | some x =>
  have hm:b ∈ uJ h H:=List.mem_filter.mpr ⟨List.mem_range.mpr (yG e'),by simp [q]⟩;have z:(fJ h H).get? b=none:=hideAll_none (uJ h H) hm;rw [z] at e;cases e
structure Mod (K:Frag) (mg:Str->Option Value) (base:Heap):Prop where
 kin:K.In base
 glob:base.Ns mainGlobals mg
 blt:∃ mb,base.Ns builtinsNs mb/\∀ x:Str,x ≠ "__name__"->mb x=bootBuiltins x
 nolimit:base.NoLimit
structure Cx where
 prog:Program
 w:World
 K:Frag
 mg:Str->Option Value
 base:Heap
 A:Around
 N:List Str
 s₀:Shared
 H₀:Hp
 env:Env
 outer:List Env
 stack:List Env
 ex:List Addr
 fn:Str->Bool
 calm:Bool
 pn:List (Addr × Obj)
 xe:Value->Shared->Prop
noncomputable def gf (l:List Env):List Addr:=l.filterMap (·.frame)
abbrev Cx.fs (X:Cx):List Addr:=gf X.outer
def rY (sc:Scope) (x:Str):Prop:=sc.names.lookup x=some .local\/sc.names.lookup x=some .cell\/sc.names.lookup x=some .free
def Loc (sc:Scope) (x:Str):Prop:=sc.names.lookup x=some .local\/sc.names.lookup x=some .cell
def Fg (env:Env) (h:Heap) (m:Str->Option Value) (x:Str) (u:Value):Prop :=
 (env.kindOf x=some .local/\m x=some u)\/((env.kindOf x=some .cell\/env.kindOf x=some .free)/\∃ c,env.cells.lookup x=some c/\h.IsCell c (some u))
structure Cx.Ok (X:Cx):Prop where
 mod:Mod X.K X.mg X.base
 kind:X.env.scope.kind=.function
 glob:X.env.globals=mainGlobals
 blt:X.env.builtins=builtinsNs
 above:X.s₀.heap.objs.size <= X.env.locals
 inj:∀ x y c,X.env.cells.lookup x=some c->X.env.cells.lookup y=some c->x=y
 has:∀ x,(X.env.kindOf x=some .cell\/X.env.kindOf x=some .free)->∃ c,X.env.cells.lookup x=some c
 cab:∀ x c,X.fn x=true->X.env.cells.lookup x=some c->X.s₀.heap.objs.size <= c
 hd:X.calm=true->X.A.handled=none
 frames:X.A.frames=some X.stack
 stk:X.stack=X.outer\/(X.stack=X.env::X.outer/\X.env.frame=some X.env.locals)
 exf:∀ b ∈ X.ex,b ≠ X.env.locals/\∀ x c,X.env.cells.lookup x=some c->c ≠ b
 bs:∀ b o,X.base.get? b=some o->X.s₀.heap.get? b=some o/\X.H₀ b=none
 bsz:X.base.objs.size <= X.s₀.heap.objs.size
 noex:∀ b o,X.base.get? b=some o->b ∉ X.ex
 exfs:∀ b ∈ X.ex,b ∉ X.fs
 funs:X.s₀.heap.FunFrames X.base X.outer
 frf:∀ b ∈ X.fs,X.H₀ b=none
structure Inv (X:Cx) (GD:List (Addr × Obj)) (σ:List (Option V)) (H:Hp) (s:Shared):Prop where
 ok:X.Ok
 os:s.os=X.s₀.os
 bare:AllBare s.gens
 base:Un X.fs X.ex X.H₀ H X.s₀.heap s.heap
 loc:∃ m,s.heap.Ns X.env.locals m/\∀ (i:Nat) (x:Str) (v:V),X.N[i]?=some x->σ[i]?=some (some v)->rY X.env.scope x->∃ u,RelV v u/\Fg X.env s.heap m x u
 cell:∀ x c,X.env.cells.lookup x=some c->∃ v,s.heap.IsCell c v
 free:H X.env.locals=none
 freeC:∀ x c,X.env.cells.lookup x=some c->H c=none
 pin:∀ p ∈ X.pn++GD,s.heap.get? p.1=some p.2/\H p.1=none/\p.1 ≠ X.env.locals/\p.1 ∉ X.fs/\∀ v,p.2.data ≠ .cell v
 GJ:HOk X.prog X.w H s.heap
 len:σ.length=X.N.length
section
variable {X:Cx}{GD:List (Addr × Obj)}{σ:List (Option V)}{H H':Hp}{s:Shared}{h':Heap}
theorem Cx.Ok.nofr (ok:X.Ok) {b:Addr}{o:Obj} (e:X.base.get? b=some o):b ∉ X.fs:=fun hb=>by
 have:=(ok.funs.mem hb).1
 rw [e] at this;cases this
theorem Inv.bs (I:Inv X GD σ H s):∀ b o,X.base.get? b=some o->s.heap.get? b=some o/\H b=none:=fun b o e =>
 ⟨I.base.keep b o (I.ok.bs b o e).1 (I.ok.bs b o e).2 (I.ok.nofr e) (I.ok.noex b o e),I.base.free b o (I.ok.bs b o e).1 (I.ok.bs b o e).2 (I.ok.noex b o e)⟩
theorem Inv.bk (I:Inv X GD σ H s):∀ b o,X.base.get? b=some o->s.heap.get? b=some o:=fun b o e=>(I.bs b o e).1
theorem Inv.mod (I:Inv X GD σ H s):Mod X.K X.mg X.base:=I.ok.mod
theorem Inv.kIn (I:Inv X GD σ H s):X.K.In s.heap:=I.ok.mod.kin.keeps I.bk
theorem Inv.lt (I:Inv X GD σ H s):X.env.locals < s.heap.objs.size:=let ⟨_,hn,_⟩:=I.loc;hn.lt
theorem Inv.sz (I:Inv X GD σ H s):X.s₀.heap.objs.size <= s.heap.objs.size:=z0 I.ok.above (yR I.lt)
theorem Inv.nofs (I:Inv X GD σ H s) {a:Addr} (h:s.heap.objs.size <= a):a ∉ X.fs:=fun hb=>by
 obtain ⟨_,o,ho,_⟩:=I.ok.funs.mem hb;exact absurd (zJ (yG ho) (z0 I.sz h)) (yS _)
theorem Inv.cne (I:Inv X GD σ H s):∀ x c,X.env.cells.lookup x=some c->c ≠ X.env.locals:=fun x c e z=>by
 obtain ⟨v,o,ho,hd⟩:=I.cell x c e;obtain ⟨m,⟨o',es,ep,ho',hd',_⟩,_⟩:=I.loc;rw [z,ho'] at ho;cases ho;rw [hd'] at hd;cases hd
theorem Inv.funs (I:Inv X GD σ H s):s.heap.FunFrames X.base X.outer:=by
 have all:∀ (l:List Env),(∀ b ∈ gf l,b ∈ X.fs)->X.s₀.heap.FunFrames X.base l->s.heap.FunFrames X.base l:=by
  intro l
  induction l with
  | nil=>intro _ _;trivial
  | cons env r ih =>
   intro hs hl;obtain ⟨hk,⟨L,o,hf,hn,ho,hd⟩,hr⟩:=hl;have hL:L ∈ X.fs:=hs L (by unfold gf;rw [List.filterMap_cons,hf];exact z4);obtain ⟨sl,e⟩:=I.base.slot L o ho (I.ok.frf L hL) hL fun z=>I.ok.exfs L z hL
   exact ⟨hk,⟨L,_,hf,hn,e,hd⟩,ih (fun b hb=>hs b (by unfold gf;rw [List.filterMap_cons,hf];exact zQ _ hb)) hr⟩
 exact all X.outer (fun _ hb=>hb) I.ok.funs
theorem Inv.stack (I:Inv X GD σ H s):s.heap.FunFrames X.base X.stack:=by
 rcases I.ok.stk with e | ⟨e,hf⟩
 ·rw [e];exact I.funs
 ·rw [e]
  obtain ⟨m,hn,_⟩:=I.loc;refine .cons (by rw [I.ok.kind];decide) hf hn ?_ I.funs;exact Heap.get?_none_of_le (z0 I.ok.bsz I.ok.above)
theorem Inv.stkSub (I:Inv X GD σ H s):∀ b ∈ gf X.stack,b ∈ X.env.locals::X.fs:=fun b hb=>by
 rcases I.ok.stk with e | ⟨e,hf⟩
 ·rw [e] at hb;exact zQ _ hb
 ·rw [e] at hb
  unfold gf at hb;rw [List.filterMap_cons,hf] at hb;exact hb
theorem Inv.stkFree (I:Inv X GD σ H s):∀ b ∈ gf X.stack,H b=none:=fun b hb=>by
 rcases zT.mp (I.stkSub b hb) with e | hb
 ·rw [e];exact I.free
 ·obtain ⟨_,o,ho,_⟩:=I.ok.funs.mem hb
  exact I.base.free b o ho (I.ok.frf b hb) fun z=>I.ok.exfs b z hb
theorem Inv.step {g':Array GenState}{t':Nat}{d':Drawn}{ch:List Addr} (I:Inv X GD σ H s)
  (hch:∀ b ∈ ch,(b ∈ X.ex\/X.s₀.heap.objs.size <= b)/\b ≠ X.env.locals/\(∀ x c,X.env.cells.lookup x=some c->c ≠ b)/\∀ p ∈ X.pn++GD,p.1 ≠ b)
  (keep:∀ b o,b ≠ X.env.locals->b ∉ X.fs->b ∉ ch->s.heap.get? b=some o->H b=none->h'.get? b=some o)
  (slot:∀ b o,b ≠ X.env.locals->b ∈ X.fs->b ∉ ch->s.heap.get? b=some o->H b=none->∃ sl,h'.get? b=some { o with slots:=sl }) (free:∀ b o,b ∉ ch->s.heap.get? b=some o->H b=none->H' b=none)
  (there:∀ b o,b ∉ ch->s.heap.get? b=some o->∃ o',h'.get? b=some o')
  (tups:∀ b xs,H b=some (.tup xs)->H' b=some (.tup xs)) (frzs:∀ b o u,H b=some (.frz o u)->H' b=some (.frz o u)) (tbls:∀ b ps,H b=some (.tbl ps)->∃ more,H' b=some (.tbl (ps++more)))
  (ns:∀ m,s.heap.Ns X.env.locals m->h'.Ns X.env.locals m) (GJ:HOk X.prog X.w H' h') (hg:AllBare g') :
  Inv X GD σ H' { s with heap:=h',gens:=g',drawn:=d',toks:=t' }:=by
 have neL:∀ b o,X.s₀.heap.get? b=some o->b ≠ X.env.locals:=fun b o e=>zU (zJ (yG e) I.ok.above)
 have neC:∀ b o,X.s₀.heap.get? b=some o->b ∉ X.ex->b ∉ ch:=fun b o e hx hb=>by
  rcases (hch b hb).1 with z | z
  ·exact hx z
  ·exact absurd (zJ (yG e) z) (yS _)
 have cellK:∀ x c,X.env.cells.lookup x=some c->∀ v,s.heap.IsCell c v->h'.IsCell c v:=fun x c e v hq0=>by
  obtain ⟨o,ho,hd⟩:=hq0;have nch:c ∉ ch:=fun z=>(hch c z).2.2.1 x c e rfl
  by_cases hc:c ∈ X.fs
  ·obtain ⟨sl,q⟩:=slot c o (I.cne x c e) hc nch ho (I.freeC x c e)
   exact ⟨_,q,hd⟩
  ·exact ⟨o,keep c o (I.cne x c e) hc nch ho (I.freeC x c e),hd⟩
 refine ⟨I.ok,I.os,hg,⟨fun b o e n hb hx=>?_,fun b o e n hb hx=>?_,fun b o e n hx=>?_,fun b o e hx=>?_,fun b xs e=>tups b xs (I.base.tups b xs e),fun b o xs e=>frzs b o xs (I.base.frzs b o xs e),fun b ps e=>?_⟩,?_,fun x c e=>?_,?_,fun x c e=>?_,fun p hp=>?_,GJ,I.len⟩
 ·exact keep b o (neL b o e) hb (neC b o e hx) (I.base.keep b o e n hb hx) (I.base.free b o e n hx)
 ·obtain ⟨sl,e1⟩:=I.base.slot b o e n hb hx
  obtain ⟨sl',e2⟩:=slot b _ (neL b o e) hb (neC b o e hx) e1 (I.base.free b o e n hx);exact ⟨sl',e2⟩
 ·obtain ⟨o',e1⟩:=I.base.there b o e hx
  exact free b o' (neC b o e hx) e1 (I.base.free b o e n hx)
 ·obtain ⟨o',e1⟩:=I.base.there b o e hx
  exact there b o' (neC b o e hx) e1
 ·obtain ⟨m1,e1⟩:=I.base.tbls b ps e
  obtain ⟨m2,e2⟩:=tbls b _ e1;exact ⟨m1++m2,by rw [e2,Array.append_assoc]⟩
 ·obtain ⟨m,hn,hl⟩:=I.loc
  refine ⟨m,ns m hn,fun i x v e1 e2 e3=>?_⟩;obtain ⟨u,r,l⟩:=hl i x v e1 e2 e3;refine ⟨u,r,?_⟩;rcases l with l | ⟨k,c,e,z⟩
  ·exact .inl l
  ·exact .inr ⟨k,c,e,cellK x c e _ z⟩
 ·obtain ⟨v,z⟩:=I.cell x c e
  exact ⟨v,cellK x c e v z⟩
 ·obtain ⟨m,⟨o,_,_,ho,_⟩,_⟩:=I.loc
  exact free _ o (fun z=>(hch _ z).2.1 rfl) ho I.free
 ·obtain ⟨v,o,ho,hd⟩:=I.cell x c e
  exact free c o (fun z=>(hch c z).2.2.1 x c e rfl) ho (I.freeC x c e)
 ·obtain ⟨e,n,ne,nf,d⟩:=I.pin p hp
  have nch:p.1 ∉ ch:=fun z=>(hch p.1 z).2.2.2 p hp rfl
  exact ⟨keep p.1 p.2 ne nf nch e n,free p.1 p.2 nch e n,ne,nf,d⟩
theorem Inv.un {t':Nat} (I:Inv X GD σ H s) (u:Un X.fs [] H H' s.heap h') (GJ:HOk X.prog X.w H' h'):Inv X GD σ H' { s with heap:=h',toks:=t' }:=by
 obtain ⟨m,⟨o,es,ep,ho,r⟩,_⟩:=id I.loc;obtain ⟨sl,hL⟩:=u.any ho I.free (by simp);exact I.step (g':=s.gens) (d':=s.drawn) (ch:=[]) (fun _ z=>nomatch z) (fun b o _ hb _ e n=>u.keep b o e n hb (by simp)) (fun b o _ hb _ e n=>u.slot b o e n hb (by simp)) (fun b o _ e n=>u.free b o e n (by simp)) (fun b o _ e=>u.there b o e (by simp)) u.tups u.frzs u.tbls (fun m' hm=>by
  obtain ⟨o',es',ep',ho',r'⟩:=hm;rw [ho] at ho';cases ho';exact ⟨_,es',ep',hL,r'⟩) GJ I.bare
theorem Inv.call {g':Array GenState}{t':Nat}{d':Drawn}{ch:List Addr} (I:Inv X GD σ H s) (u:Un (gf X.stack) ch H H' s.heap h') (GJ:HOk X.prog X.w H' h') (hg:AllBare g')
  (hch:∀ b ∈ ch,(b ∈ X.ex\/X.s₀.heap.objs.size <= b)/\b ≠ X.env.locals/\(∀ x c,X.env.cells.lookup x=some c->c ≠ b)/\∀ p ∈ X.pn++GD,p.1 ≠ b) :
  Inv X GD σ H' { s with heap:=h',gens:=g',drawn:=d',toks:=t' }:=by
 obtain ⟨m,⟨o,es,ep,ho,r⟩,_⟩:=id I.loc;obtain ⟨sl,hL⟩:=u.any ho I.free fun z=>(hch _ z).2.1 rfl
 exact I.step (ch:=ch) hch (fun b o hL hb hc e n=>u.keep b o e n (fun z=>(zT.mp (I.stkSub b z)).elim hL hb) hc) (fun b o _ _ hc e n=>u.any e n hc) (fun b o hc e n=>u.free b o e n hc) (fun b o hc e=>u.there b o e hc) u.tups u.frzs u.tbls (fun m' hm=>by
  obtain ⟨o',es',ep',ho',r'⟩:=hm;rw [ho] at ho';cases ho';exact ⟨_,es',ep',hL,r'⟩) GJ hg
theorem Inv.turned {t':Nat}{it:Addr} (I:Inv X GD σ H s) (k:∀ b o,b ≠ it->s.heap.get? b=some o->h'.get? b=some o) (hn:H it=none) (hL:it ≠ X.env.locals)
  (h1:it ∈ X.ex\/X.s₀.heap.objs.size <= it) (h2:∀ x c,X.env.cells.lookup x=some c->c ≠ it) (h3:∀ p ∈ X.pn++GD,p.1 ≠ it):Inv X GD σ H { s with heap:=h',toks:=t' }:=by
 have nit:∀ b u,H b=some u->b ≠ it:=fun b u e z=>by rw [z,hn] at e;cases e
 refine I.step (g':=s.gens) (d':=s.drawn) (ch:=[it]) (fun b hb=>?_) (fun b o _ _ hc e _=>k b o (fun z=>hc (by simp [z])) e) (fun b o _ _ hc e _=>⟨o.slots,k b o (fun z=>hc (by simp [z])) e⟩) (fun _ _ _ _ n=>n)
  (fun b o hc e=>⟨o,k b o (fun z=>hc (by simp [z])) e⟩) (fun _ _ e=>e) (fun _ _ _ e=>e) (fun b ps e=>⟨#[],by rw [e];simp⟩) (fun m hm=>?_) (fun b u e=>?_) I.bare
 ·have e:b=it:=by simpa using hb
  subst e;exact ⟨h1,hL,h2,h3⟩
 ·obtain ⟨o,es,ep,ho,r⟩:=hm
  exact ⟨o,es,ep,k _ o (Ne.symm hL) ho,r⟩
 ·refine (I.GJ b u e).stay (fun c v hc q=>k c v ?_ q) (fun _ q=>q) fun _ _ q=>q
  rcases hc with z | z
  ·rw [z];exact nit b u e
  ·exact nit c _ z
theorem Inv.tok (I:Inv X GD σ H s) (t:Nat):Inv X GD σ H { s with toks:=t }:=I.un (h':=s.heap) (t':=t) Un.refl I.GJ
theorem Inv.kept {t':Nat} (I:Inv X GD σ H s) (k:∀ b u,s.heap.get? b=some u->h'.get? b=some u):Inv X GD σ H { s with heap:=h',toks:=t' }:=I.un (Un.kept k) (I.GJ.kept k)
theorem Inv.laid {a:Addr}{o:HO}{t':Nat} (I:Inv X GD σ H s) (k:∀ b u,s.heap.get? b=some u->h'.get? b=some u) (hp:s.heap.objs.size <= a) (new:ObjOk X.prog X.w (am H a o) h' a o) :
  Inv X GD σ (am H a o) { s with heap:=h',toks:=t' }:=I.un (Un.laid k hp (I.GJ.fresh hp)) (I.GJ.laid k hp new)
theorem Inv.write {x e:Addr}{o:HO}{t':Nat} (I:Inv X GD σ H s) (mu:sf (H x)) (he:e=x\/H e=some (.own x)) (k:∀ b u,b ≠ e->s.heap.get? b=some u->h'.get? b=some u) (heo:∃ u,h'.get? e=some u)
  (new:ObjOk X.prog X.w (am H x o) h' x o):Inv X GD σ (am H x o) { s with heap:=h',toks:=t' }:=I.un (Un.write mu he k heo) (I.GJ.write mu he k heo new)
theorem Inv.pins_of {pins':List (Addr × Obj)} (I:Inv X GD σ H s) (h:∀ p ∈ pins',s.heap.get? p.1=some p.2/\H p.1=none/\p.1 ≠ X.env.locals/\p.1 ∉ X.fs/\∀ v,p.2.data ≠ .cell v):Inv X pins' σ H s :=
 ⟨I.ok,I.os,I.bare,I.base,I.loc,I.cell,I.free,I.freeC,fun p hp=>(zZ.mp hp).elim (fun z=>I.pin p (List.mem_append_left _ z)) (h p),I.GJ,I.len⟩
theorem mw {N:List Str} (hN:N.Nodup) {i j:Nat}{x:Str} (a:N[i]?=some x) (b:N[j]?=some x):i=j:=by
 obtain ⟨h1,e1⟩:=zB.mp a;obtain ⟨h2,e2⟩:=zB.mp b;exact (List.getElem_inj hN).mp (e1.trans e2.symm)
theorem kZ {M:Model}{A:Around}{E:Value->Shared->Prop}{i:Nat}{x:Str}{v:V}{u:Value}{Q:Unit->Shared->Prop} (I:Inv X GD σ H s) (hN:X.N.Nodup) (hi:X.N[i]?=some x) (hx:Loc X.env.scope x) (r:RelV v u)
  (h:∀ s',Inv X GD (σ.set i (some v)) H s'->(∃ a,Heap.SameBut a s.heap s'.heap/\(a=X.env.locals\/X.env.cells.lookup x=some a))->Q () s') (hf:X.fn x=true\/X.env.scope.names.lookup x=some .local:=by first | exact .inl rfl | exact .inr rfl | assumption):wpAny M A (storeName X.env x u) Q E s:=by
 obtain ⟨m,hn,hl⟩:=id I.loc;have hcls:(X.env.scope.kind == .class || (X.env.scope.kind == .module && X.env.locals != X.env.globals))=false:=by rw [I.ok.kind];rfl
 have hiσ:i < σ.length:=by rw [I.len];exact (zB.mp hi).1
 have cne:=I.cne;have tracked:∀ {a:Addr}{h':Heap},(∃ o,s.heap.get? a=some o/\H a=none)->Heap.SameBut a s.heap h'->HOk X.prog X.w H h':=fun {a h'} ha hs b ob e=>by
  obtain ⟨_,_,hfree⟩:=ha;refine (I.GJ b ob e).stay (fun c w' hc q=>(hs.2 c ?_).trans q) (fun _ q=>q) fun _ _ q=>q
  rintro rfl;rcases hc with rfl | hc
  ·rw [hfree] at e;cases e
  ·rw [hfree] at hc;cases hc
 rcases hx with hk | hk
 ·refine wpAny_storeName_local hk hn (fun h' hn' hs=>?_) hcls
  obtain ⟨oL,_,_,hoL,_⟩:=id hn;refine h _ ⟨I.ok,I.os,I.bare,⟨fun b o e n hb hx=>?_,fun b o e n hb hx=>?_,I.base.free,fun b o e hx=>?_,I.base.tups,I.base.frzs,I.base.tbls⟩,⟨_,hn',fun j y v' e1 e2 e3=>?_⟩,fun y c e=>?_,I.free,I.freeC,fun p hp=>?_,tracked ⟨oL,hoL,I.free⟩ hs,by simpa using I.len⟩ ⟨_,hs,.inl rfl⟩
  ·exact (hs.2 b (zU (zJ (yG e) I.ok.above))).trans (I.base.keep b o e n hb hx)
  ·obtain ⟨sl,e1⟩:=I.base.slot b o e n hb hx
   exact ⟨sl,(hs.2 b (zU (zJ (yG e) I.ok.above))).trans e1⟩
  ·obtain ⟨o',e1⟩:=I.base.there b o e hx
   exact ⟨o',(hs.2 b (zU (zJ (yG e) I.ok.above))).trans e1⟩
  ·by_cases hj:j=i
   ·subst hj
    rw [hi] at e1;cases e1;rw [List.getElem?_set_self hiσ] at e2;cases e2;exact ⟨u,r,.inl ⟨hk,by simp⟩⟩
   ·rw [List.getElem?_set_ne (Ne.symm hj)] at e2
    obtain ⟨u',r',q⟩:=hl j y v' e1 e2 e3;refine ⟨u',r',?_⟩;rcases q with ⟨k,e⟩ | ⟨k,c,e,z⟩
    ·refine .inl ⟨k,?_⟩
     have:y ≠ x:=fun e=>hj (mw hN e1 (e ▸ hi))
     simp [this,e]
    ·exact .inr ⟨k,c,e,z.sameBut hs (cne y c e)⟩
  ·obtain ⟨w',z⟩:=I.cell y c e
   exact ⟨w',z.sameBut hs (cne y c e)⟩
  ·obtain ⟨e,n,ne,nf,d⟩:=I.pin p hp
   exact ⟨(hs.2 p.1 ne).trans e,n,ne,nf,d⟩
 ·have hfn:X.fn x=true:=by
   rcases hf with z | z
   ·exact z
   ·rw [z] at hk;cases hk
  obtain ⟨c,hc⟩:=I.ok.has x (.inl hk);obtain ⟨w',z⟩:=I.cell x c hc;refine wpAny_storeName_cell I.ok.kind hk hc z (fun h' hc' hs=>?_);obtain ⟨oc,hoc,hocd⟩:=id z;refine h { s with heap:=h' } ⟨I.ok,I.os,I.bare,⟨fun b o e n hb hx=>?_,fun b o e n hb hx=>?_,I.base.free,fun b o e hx=>?_,I.base.tups,I.base.frzs,I.base.tbls⟩,⟨m,hn.sameBut hs (Ne.symm (cne x c hc)),fun j y v' e1 e2 e3=>?_⟩,fun y c' e=>?_,I.free,I.freeC,fun p hp=>?_,tracked ⟨oc,hoc,I.freeC x c hc⟩ hs,by simpa using I.len⟩ ⟨c,hs,.inr hc⟩
  ·exact (hs.2 b (zU (zJ (yG e) (I.ok.cab x c hfn hc)))).trans (I.base.keep b o e n hb hx)
  ·obtain ⟨sl,e1⟩:=I.base.slot b o e n hb hx
   exact ⟨sl,(hs.2 b (zU (zJ (yG e) (I.ok.cab x c hfn hc)))).trans e1⟩
  ·obtain ⟨o',e1⟩:=I.base.there b o e hx
   exact ⟨o',(hs.2 b (zU (zJ (yG e) (I.ok.cab x c hfn hc)))).trans e1⟩
  ·by_cases hj:j=i
   ·subst hj
    rw [hi] at e1;cases e1;rw [List.getElem?_set_self hiσ] at e2;cases e2;exact ⟨u,r,.inr ⟨.inl hk,c,hc,hc'⟩⟩
   ·rw [List.getElem?_set_ne (Ne.symm hj)] at e2
    obtain ⟨u',r',q⟩:=hl j y v' e1 e2 e3;refine ⟨u',r',?_⟩;rcases q with q | ⟨k,c',e,z'⟩
    ·exact .inl q
    ·refine .inr ⟨k,c',e,z'.sameBut hs ?_⟩
     rintro rfl;exact hj (mw hN e1 (I.ok.inj _ _ _ e hc ▸ hi))
  ·by_cases hcc:c'=c
   ·subst hcc;exact ⟨_,hc'⟩
   ·obtain ⟨w2,z2⟩:=I.cell y c' e
    exact ⟨w2,z2.sameBut hs hcc⟩
  ·obtain ⟨e,n,ne,nf,d⟩:=I.pin p hp
   refine ⟨(hs.2 p.1 ?_).trans e,n,ne,nf,d⟩;intro q;rw [q,hoc] at e;have q':oc=p.2:=yB e;exact d w' (by rw [<- q'];exact hocd)
theorem lZ {M:Model}{A:Around}{E:Value->Shared->Prop}{i:Nat}{x:Str}{v:V}{u:Value}{Q:Unit->Shared->Prop} (I:Inv X GD σ H s) (hN:X.N.Nodup) (hi:X.N[i]?=some x) (hx:Loc X.env.scope x) (r:RelV v u)
  (h:∀ s',Inv X GD (σ.set i (some v)) H s'->Q () s') (hf:X.fn x=true\/X.env.scope.names.lookup x=some .local:=by first | exact .inl rfl | exact .inr rfl | assumption):wpAny M A (storeName X.env x u) Q E s :=
 kZ I hN hi hx r (fun s' I' _=>h s' I') hf
theorem Inv.call' {s':Shared}{ch:List Addr} (I:Inv X GD σ H s) (ho:s'.os=s.os) (u:Un (gf X.stack) ch H H' s.heap s'.heap) (GJ:HOk X.prog X.w H' s'.heap) (hg:AllBare s'.gens)
  (hch:∀ b ∈ ch,(b ∈ X.ex\/X.s₀.heap.objs.size <= b)/\b ≠ X.env.locals/\(∀ x c,X.env.cells.lookup x=some c->c ≠ b)/\∀ p ∈ X.pn++GD,p.1 ≠ b):Inv X GD σ H' s':=by
 obtain ⟨h',g',d',t',o'⟩:=s';have e:o'=s.os:=ho;subst e;exact I.call (g':=g') (t':=t') (d':=d') u GJ hg hch
end
abbrev XK:=Value->Option Addr->Hp->Prop
abbrev St:=List (Option V)
abbrev VK:=V->Hp->Prop
abbrev TE:=St->Hp->VK->Prop
abbrev TT:=St->Hp->(Bool->Hp->Prop)->Prop
abbrev TA:=St->Hp->(List V->Hp->Prop)->Prop
structure fW where
 nx:St->Hp->Prop
 rt:VK
 bk:St->Hp->Prop:=fun _ _=>False
 ct:St->Hp->Prop:=fun _ _=>False
abbrev TS:=fW->St->Hp->Prop
def EP (X:Cx) (GD:List (Addr × Obj)) (σ:St) (Q:VK) (u:Value) (s':Shared):Prop:=∃ v H',Inv X GD σ H' s'/\RelV v u/\Q v H'
def TP (X:Cx) (GD:List (Addr × Obj)) (σ:St) (Q:Bool->Hp->Prop) (b:Bool) (s':Shared):Prop:=∃ H',Inv X GD σ H' s'/\Q b H'
def AP (X:Cx) (GD:List (Addr × Obj)) (σ:St) (Q:List V->Hp->Prop) (us:List Value) (s':Shared):Prop:=∃ vs H',Inv X GD σ H' s'/\Vals vs us/\Q vs H'
def SP (X:Cx) (GD:List (Addr × Obj)) (D:fW) (f:Flow) (s':Shared):Prop :=
 match f with
 | .next=>∃ σ' H',Inv X GD σ' H' s'/\D.nx σ' H'
 | .brk=>∃ σ' H',Inv X GD σ' H' s'/\D.bk σ' H'
 | .cont=>∃ σ' H',Inv X GD σ' H' s'/\D.ct σ' H'
 | .ret u=>∃ v σ' H',Inv X GD σ' H' s'/\RelV v u/\D.rt v H'
def PE (X:Cx) (e:Expr) (t:TE):Prop :=
 ∀ (GD:List (Addr × Obj)) (s:Shared) (σ:St) (H:Hp) (Q:VK),Inv X GD σ H s->t σ H Q->wpAny (model X.prog X.w) X.A (eval e X.env) (EP X GD σ Q) X.xe s
def PT (X:Cx) (e:Expr) (t:TT):Prop :=
 ∀ (GD:List (Addr × Obj)) (s:Shared) (σ:St) (H:Hp) (Q:Bool->Hp->Prop),Inv X GD σ H s->t σ H Q->wpAny (model X.prog X.w) X.A (isTrue e X.env (eval e X.env)) (TP X GD σ Q) X.xe s
def PW (X:Cx) (e:Expr) (t:TT):Prop :=
 ∀ (whole:Sem Value) (GD:List (Addr × Obj)) (s:Shared) (σ:St) (H:Hp) (Q:Bool->Hp->Prop),Inv X GD σ H s->t σ H Q->wpAny (model X.prog X.w) X.A (isTrue e X.env whole) (TP X GD σ Q) X.xe s
theorem PW.pt {X:Cx}{e:Expr}{t:TT} (h:PW X e t):PT X e t:=h _
def PA (X:Cx) (es:List Expr) (t:TA):Prop :=
 ∀ (pos:Pos) (GD:List (Addr × Obj)) (s:Shared) (σ:St) (H:Hp) (Q:List V->Hp->Prop),Inv X GD σ H s->t σ H Q->wpAny (model X.prog X.w) X.A (spliced (backTo pos (starEach es X.env))) (AP X GD σ Q) X.xe s
def PS (X:Cx) (st:Stmt) (t:TS):Prop :=
 ∀ (GD:List (Addr × Obj)) (s:Shared) (σ:St) (H:Hp) (D:fW),Inv X GD σ H s->t D σ H->wpAny (model X.prog X.w) X.A (exec st X.env) (SP X GD D) X.xe s
def PSs (X:Cx) (st:List Stmt) (t:TS):Prop :=
 ∀ (GD:List (Addr × Obj)) (s:Shared) (σ:St) (H:Hp) (D:fW),Inv X GD σ H s->t D σ H->wpAny (model X.prog X.w) X.A (execs st X.env) (SP X GD D) X.xe s
theorem aB {α:Type}{t:Sem α}{Q Q':α->Shared->Prop}{M:Model}{A:Around}{E:Value->Shared->Prop}{s:Shared} (h:wpAny M A t Q E s) (hQ:∀ a s,Q a s->Q' a s):wpAny M A t Q' E s:=yN h hQ fun _ _ x=>x
section
variable {X:Cx}
theorem bin {a b:Expr}{ta tb:TE} (ha:PE X a ta) (hb:PE X b tb) {GD:List (Addr × Obj)}{s:Shared}{σ:St}{H:Hp}{R:V->V->Hp->Prop} (I:Inv X GD σ H s) (h:ta σ H fun x H1=>tb σ H1 fun y H2=>R x y H2)
  {α:Type}{Q:α->Shared->Prop}{f:Value->Value->Sem α}
  (hf:∀ v u s2 x y H2,Inv X GD σ H2 s2->RelV x v->RelV y u->R x y H2->wpAny (model X.prog X.w) X.A (f v u) Q X.xe s2) :
  wpAny (model X.prog X.w) X.A (eval a X.env) (fun v s₁=>wpAny (model X.prog X.w) X.A (eval b X.env) (fun u s₂=>wpAny (model X.prog X.w) X.A (f v u) Q X.xe s₂) X.xe s₁) X.xe s:=by
 refine aB (ha GD s σ H _ I h) fun v s1 hq0=>?_
 obtain ⟨x,H1,I1,r1,q1⟩:=hq0;refine aB (hb GD s1 σ H1 _ I1 q1) fun u s2 hq0=>?_
 obtain ⟨y,H2,I2,r2,q2⟩:=hq0;exact hf v u s2 x y H2 I2 r1 r2 q2
noncomputable def Ek (i:Nat):TE:=fun σ H Q=>∃ v,σ[i]?=some (some v)/\Q v H
noncomputable def tC (v:V):TE:=fun _ H Q=>Q v H
theorem zh {i:Nat}{x:Str}{pos:Pos} (hN:X.N[i]?=some x) (hv:rY X.env.scope x) (hd:(x == ("__debug__":Str))=false:=by decide) (hcd:(x == ("__classdict__":Str))=false:=by decide):PE X (.Name x pos) (Ek i):=by
 intro GD s σ H Q I h;obtain ⟨v,e,h⟩:=h;obtain ⟨m,hn,hl⟩:=I.loc;obtain ⟨u,r,l⟩:=hl i x v hN e hv;have aw:EP X GD σ Q u s:=⟨v,H,I,r,h⟩;rcases l with ⟨hk,hm⟩ | ⟨hk,c,hc,hcell⟩
 ·exact wpAny_Name (wpAny_loadName_local I.ok.kind hk hn hm aw) hd
 ·rcases hk with hk | hk
  ·exact wpAny_Name (wpAny_loadName_cell I.ok.kind hk hc hcell aw) hd
  ·exact wpAny_Name (wpAny_loadName_free I.ok.kind hk hc hcell aw hcd) hd
theorem zn {i j pos}:PE X (.Constant (.int i) j pos) (tC (.int i)):=fun _ _ _ H _ I h=>wpAny_Constant_int ⟨.int i,H,I.tok _,⟨_,rfl⟩,h⟩
theorem Ck {b j pos}:PE X (.Constant (.bool b) j pos) (tC (.bl b)):=fun _ _ _ H _ I h=>Constant_bool ⟨.bl b,H,I,rfl,h⟩
theorem zm {j pos}:PE X (.Constant .none j pos) (tC .non):=fun _ _ _ H _ I h=>Constant_none ⟨.non,H,I,rfl,h⟩
theorem zk {x j pos}:PE X (.Constant (.str x) j pos) (tC (.str x)):=fun _ _ _ H _ I h=>Calls.Constant_str ⟨.str x,H,I.tok _,⟨_,rfl⟩,h⟩
def Gl (X:Cx) (x:Str):Prop:=X.env.kindOf x=some .globalImplicit
theorem iC {E:Value->Shared->Prop}{GD:List (Addr × Obj)}{s:Shared}{σ:St}{H:Hp}{x:Str}{u:Value}{pos:Pos}{Q:Value->Shared->Prop} (I:Inv X GD σ H s) (hg:Gl X x) (hm:X.mg x=some u) (h:Q u s)
  (hd:(x == ("__debug__":Str))=false:=by decide):wpAny (model X.prog X.w) X.A (eval (.Name x pos) X.env) Q E s :=
 Calls.Name_function_global I.ok.kind hg (Calls.loadGlobal_global (by rw [I.ok.glob];exact I.mod.glob.keeps I.bk) hm h) hd
theorem d8 {E:Value->Shared->Prop}{GD:List (Addr × Obj)}{s:Shared}{σ:St}{H:Hp}{x:Str}{u:Value}{pos:Pos}{Q:Value->Shared->Prop} (I:Inv X GD σ H s) (hg:Gl X x) (hm:X.mg x=none) (hv:bootBuiltins x=some u) (h:Q u s)
  (hn:x ≠ "__name__":=by decide) (hd:(x == ("__debug__":Str))=false:=by decide):wpAny (model X.prog X.w) X.A (eval (.Name x pos) X.env) Q E s:=by
 obtain ⟨mb,h1,h2⟩:=I.mod.blt;exact Calls.Name_function_global I.ok.kind hg (Calls.loadGlobal_builtin (by rw [I.ok.glob];exact I.mod.glob.keeps I.bk) hm (by rw [I.ok.blt];exact h1.keeps I.bk) ((h2 x hn).trans hv) h) hd
theorem wx {x:Str}{v:V}{u:Value}{pos:Pos} (hg:Gl X x) (hm:X.mg x=some u) (r:RelV v u) (hd:(x == ("__debug__":Str))=false:=by decide):PE X (.Name x pos) (tC v) :=
 fun _ _ _ H _ I h=>iC I hg hm ⟨v,H,I,r,h⟩ hd
theorem wA {x:Str}{v:V}{u:Value}{pos:Pos} (hg:Gl X x) (hm:X.mg x=none) (hv:bootBuiltins x=some u) (r:RelV v u) (hn:x ≠ "__name__":=by decide) (hd:(x == ("__debug__":Str))=false:=by decide):PE X (.Name x pos) (tC v) :=
 fun _ _ _ H _ I h=>d8 I hg hm hv ⟨v,H,I,r,h⟩ hn hd
variable {a b:Expr}{ta tb:TE}{pos:Pos}
theorem RelV.none_iff {x:V}{v:Value} (r:RelV x v):(v == Value.none)=decide (x=.non):=by
 cases x with
 | non=>cases r;rfl
 | bl _=>cases r;rfl
 | int _=>obtain ⟨t,rfl⟩:=r;rfl
 | str _=>obtain ⟨t,rfl⟩:=r;rfl
 | byt _=>obtain ⟨t,rfl⟩:=r;rfl
 | flt _=>obtain ⟨t,rfl⟩:=r;rfl
 | ref _=>cases r;rfl
 | ty _=>cases r;rfl
variable {tA tB':TT}{rest:List Expr}
noncomputable def Ey (t u:TT):TT:=fun σ H Q=>t σ H fun c H1=>if c=true then u σ H1 Q else Q false H1
noncomputable def Fo (t u:TT):TT:=fun σ H Q=>t σ H fun c H1=>if c=true then Q true H1 else u σ H1 Q
noncomputable def Ep (t:TT):TT:=fun σ H Q=>t σ H fun c H1=>Q (!c) H1
theorem wa (ha:PT X a tA):PW X (.BoolOp .And [a] pos) tA:=by
 intro wh GD s σ H Q I h;refine isTrue_and (aB (ha GD s σ H Q I h) fun c s1 e=>?_);cases c with
 | true=>exact isTrue_and_nil e
 | false=>exact e
theorem yT (ha:PT X a tA):PW X (.BoolOp .Or [a] pos) tA:=by
 intro wh GD s σ H Q I h;refine isTrue_or (aB (ha GD s σ H Q I h) fun c s1 e=>?_);cases c with
 | false=>exact isTrue_or_nil e
 | true=>exact e
theorem yU (ha:PT X a tA) (hb:PW X (.BoolOp .And (b::rest) pos) tB'):PW X (.BoolOp .And (a::b::rest) pos) (Ey tA tB'):=by
 intro wh GD s σ H Q I h;refine isTrue_and (aB (ha GD s σ H _ I h) fun c s1 hq0=>?_);obtain ⟨H1,I1,q1⟩:=hq0;cases c with
 | true=>exact hb wh GD s1 σ H1 Q I1 q1
 | false=>exact ⟨H1,I1,q1⟩
theorem Cb (ha:PT X a tA) (hb:PW X (.BoolOp .Or (b::rest) pos) tB'):PW X (.BoolOp .Or (a::b::rest) pos) (Fo tA tB'):=by
 intro wh GD s σ H Q I h;refine isTrue_or (aB (ha GD s σ H _ I h) fun c s1 hq0=>?_);obtain ⟨H1,I1,q1⟩:=hq0;cases c with
 | true=>exact ⟨H1,I1,q1⟩
 | false=>exact hb wh GD s1 σ H1 Q I1 q1
theorem yW (ha:PT X a tA):PT X (.UnaryOp .Not a pos) (Ep tA):=by
 intro GD s σ H Q I h;exact isTrue_not (ha GD s σ H (fun c H1=>Q (!c) H1) I h)
noncomputable def BK (ta tb:TE):TE:=fun σ H Q=>ta σ H fun x H1=>∃ c,x=.bl c/\if c=true then tb σ H1 Q else Q (.bl false) H1
noncomputable def Eo (ta tb:TE):TE:=fun σ H Q=>ta σ H fun x H1=>∃ c,x=.bl c/\if c=true then Q (.bl true) H1 else tb σ H1 Q
noncomputable def BG (ta:TE):TE:=fun σ H Q=>ta σ H fun x H1=>∃ c,x=.bl c/\Q (.bl (!c)) H1
theorem qx {op}{t:TE} (h:PE X a t):PE X (.BoolOp op [a] pos) t:=fun GD s σ H Q I hw=>BoolOp_one (h GD s σ H Q I hw)
theorem zq (ha:PE X a ta) (hb:PE X (.BoolOp .And (b::rest) pos) tb):PE X (.BoolOp .And (a::b::rest) pos) (BK ta tb):=by
 intro GD s σ H Q I h;refine BoolOp_and (aB (ha GD s σ H _ I h) fun v s1 hq0=>?_);obtain ⟨x,H1,I1,r1,q1⟩:=hq0;obtain ⟨c,rfl,q1⟩:=q1;cases r1;refine wpAny_truthy_bool ?_;cases c with
 | true=>exact hb GD s1 σ H1 Q I1 q1
 | false=>exact ⟨.bl false,H1,I1,rfl,q1⟩
theorem Cg (ha:PE X a ta) (hb:PE X (.BoolOp .Or (b::rest) pos) tb):PE X (.BoolOp .Or (a::b::rest) pos) (Eo ta tb):=by
 intro GD s σ H Q I h;refine BoolOp_or (aB (ha GD s σ H _ I h) fun v s1 hq0=>?_);obtain ⟨x,H1,I1,r1,q1⟩:=hq0;obtain ⟨c,rfl,q1⟩:=q1;cases r1;refine wpAny_truthy_bool ?_;cases c with
 | false=>exact hb GD s1 σ H1 Q I1 q1
 | true=>exact ⟨.bl true,H1,I1,rfl,q1⟩
theorem zl (ha:PE X a ta):PE X (.UnaryOp .Not a pos) (BG ta):=by
 intro GD s σ H Q I h;refine UnaryOp_ (aB (ha GD s σ H _ I h) fun v s1 hq0=>?_);obtain ⟨x,H1,I1,r1,q1⟩:=hq0;obtain ⟨c,rfl,q1⟩:=q1;cases r1;exact not_of (wpAny_truthy_bool ⟨.bl (!c),H1,I1,rfl,q1⟩)
noncomputable def Fp (t:TT) (ta tb:TE):TE:=fun σ H Q=>t σ H fun c H1=>if c=true then ta σ H1 Q else tb σ H1 Q
theorem tK {c:Expr} (hc:PT X c tA) (ha:PE X a ta) (hb:PE X b tb):PE X (.IfExp c a b pos) (Fp tA ta tb):=by
 intro GD s σ H Q I h;refine wpAny_IfExp (aB (hc GD s σ H _ I h) fun d s1 hq0=>?_);obtain ⟨H1,I1,q1⟩:=hq0;cases d with
 | true=>exact ha GD s1 σ H1 Q I1 q1
 | false=>exact hb GD s1 σ H1 Q I1 q1
end
def bC (K:Frag) (H:Hp) (a:Addr) (xs:List V):Prop :=
 Rd H a (.lst xs) \/
  ∃ (o:Obj) (GH:Array Value) (n:Nat),K.lookup a=some o/\o.cls=.type "list"/\o.dict=none/\o.data=.seq GH n/\GH.size <= sizeLine/\Vals xs GH.toList
def dP (K:Frag) (H:Hp) (a:Addr) (xs:List V):Prop :=
 Rd H a (.tup xs) \/
  ∃ (o:Obj) (GH:Array Value) (n:Nat),K.lookup a=some o/\o.cls=.type "tuple"/\o.data=.seq GH n/\GH.size <= sizeLine/\Vals xs GH.toList
noncomputable def Fd:Value->Option V
 | .none=>some .non
 | .bool b=>some (.bl b)
 | .int i _=>some (.int i)
 | .str x _=>some (.str x)
 | .bytes b _=>some (.byt b)
 | .float b _=>some (.flt b)
 | .ref a=>some (.ref a)
 | .type n=>some (.ty n)
 | _=>none
theorem RelV.abs {x:V}{u:Value} (r:RelV x u):Fd u=some x:=by
 cases x with
 | non=>cases r;rfl
 | bl _=>cases r;rfl
 | int _=>obtain ⟨t,rfl⟩:=r;rfl
 | str _=>obtain ⟨t,rfl⟩:=r;rfl
 | byt _=>obtain ⟨t,rfl⟩:=r;rfl
 | flt _=>obtain ⟨t,rfl⟩:=r;rfl
 | ref _=>cases r;rfl
 | ty _=>cases r;rfl
theorem RelV.inj {x y:V}{u:Value} (r:RelV x u) (q:RelV y u):x=y:=yB (r.abs.symm.trans q.abs)
theorem Vals.inj {xs ys:List V}{us:List Value} (h:Vals xs us):Vals ys us->xs=ys:=by
 induction h generalizing ys with
 | nil=>intro h';cases h';rfl
 | cons r t ih =>
  intro h';cases h' with
  | cons r' t'=>rw [r.inj r',ih t']
section
variable {X:Cx}{GD:List (Addr × Obj)}{σ:St}{H:Hp}{s:Shared}{a:Addr}{xs ys:List V}
theorem Inv.list (I:Inv X GD σ H s) (h:bC X.K H a xs):∃ GH:List Value,Vals xs GH/\PlainL s.heap a GH.toArray/\xs.length <= sizeLine:=by
 rcases h with h | ⟨o,GH,n,hk,hc,hd,hs,hz,r⟩
 ·obtain ⟨z,GH,n,r,e⟩:=h.ok I.GJ
  exact ⟨GH,r,⟨_,n,e,rfl,rfl,rfl⟩,z⟩
 ·refine ⟨GH.toList,r,⟨o,n,I.kIn a o hk,hc,hd,by simpa using hs⟩,?_⟩
  have e:=r.length;simp only [Array.length_toList] at e;omega
theorem Inv.tuple (I:Inv X GD σ H s) (h:dP X.K H a xs):∃ GH:List Value,Vals xs GH/\IsTup s.heap a GH.toArray/\xs.length <= sizeLine:=by
 rcases h with h | ⟨o,GH,n,hk,hc,hs,hz,r⟩
 ·obtain ⟨z,GH,r,p⟩:=h.ok I.GJ
  exact ⟨GH,r,p,z⟩
 ·refine ⟨GH.toList,r,⟨o,I.kIn a o hk,hc,n,by simpa using hs⟩,?_⟩
  have e:=r.length;simp only [Array.length_toList] at e;omega
theorem Inv.list_inj (I:Inv X GD σ H s) (h:bC X.K H a xs) (h':bC X.K H a ys):xs=ys:=by
 obtain ⟨GH,r,⟨o,n,e,_,_,d⟩,_⟩:=I.list h;obtain ⟨its',r',⟨o',n',e',_,_,d'⟩,_⟩:=I.list h';rw [e] at e';cases e';rw [d] at d';injection d' with d1 _;have:GH=its':=by simpa using congrArg Array.toList d1
 subst this;exact r.inj r'
theorem Inv.tuple_inj (I:Inv X GD σ H s) (h:dP X.K H a xs) (h':dP X.K H a ys):xs=ys:=by
 obtain ⟨GH,r,⟨o,e,_,n,d⟩,_⟩:=I.tuple h;obtain ⟨its',r',⟨o',e',_,n',d'⟩,_⟩:=I.tuple h';rw [e] at e';cases e';rw [d] at d';injection d' with d1 _;have:GH=its':=by simpa using congrArg Array.toList d1
 subst this;exact r.inj r'
end
abbrev Cx.wish (X:Cx) (E:Value->Shared->Prop):Cx:={ X with xe:=E }
abbrev Cx.nox (X:Cx):Cx:=X.wish fun _ _=>False
theorem Cx.Ok.wish {X:Cx} (ok:X.Ok) (E:Value->Shared->Prop):(X.wish E).Ok :=
 ⟨ok.mod,ok.kind,ok.glob,ok.blt,ok.above,ok.inj,ok.has,ok.cab,ok.hd,ok.frames,ok.stk,ok.exf,ok.bs,ok.bsz,ok.noex,ok.exfs,ok.funs,ok.frf⟩
theorem Cx.Ok.unwish {X:Cx}{E:Value->Shared->Prop} (ok:(X.wish E).Ok):X.Ok :=
 ⟨ok.mod,ok.kind,ok.glob,ok.blt,ok.above,ok.inj,ok.has,ok.cab,ok.hd,ok.frames,ok.stk,ok.exf,ok.bs,ok.bsz,ok.noex,ok.exfs,ok.funs,ok.frf⟩
section
variable {X:Cx}{GD:List (Addr × Obj)}{σ:St}{H:Hp}{s:Shared}{E:Value->Shared->Prop}
theorem Inv.wish (I:Inv X GD σ H s) (E:Value->Shared->Prop):Inv (X.wish E) GD σ H s:=⟨I.ok.wish E,I.os,I.bare,I.base,I.loc,I.cell,I.free,I.freeC,I.pin,I.GJ,I.len⟩
theorem Inv.unwish (I:Inv (X.wish E) GD σ H s):Inv X GD σ H s:=⟨I.ok.unwish,I.os,I.bare,I.base,I.loc,I.cell,I.free,I.freeC,I.pin,I.GJ,I.len⟩
theorem SP.unwish {D:fW}{f:Flow}{s':Shared} (h:SP (X.wish E) GD D f s'):SP X GD D f s':=by
 cases f with
 | next=>obtain ⟨σ',H',I,q⟩:=h;exact ⟨σ',H',I.unwish,q⟩
 | brk=>obtain ⟨σ',H',I,q⟩:=h;exact ⟨σ',H',I.unwish,q⟩
 | cont=>obtain ⟨σ',H',I,q⟩:=h;exact ⟨σ',H',I.unwish,q⟩
 | ret u=>obtain ⟨v,σ',H',I,r,q⟩:=h;exact ⟨v,σ',H',I.unwish,r,q⟩
theorem PSs.nox {st:List Stmt}{t:TS} (h:PSs X.nox st t):PSs X st t:=fun GD s σ H D I hw =>
 yN (h GD s σ H D (I.wish _) hw) (fun _ _ q=>q.unwish) fun _ _ z=>False.elim z
end
section
variable {X:Cx}{st:Stmt}{rest:List Stmt}{t u:TS}{e:Expr}{te:TE}{pos:Pos}
noncomputable def BH:TS:=fun D σ H=>D.nx σ H
noncomputable def Em (t u:TS):TS:=fun D σ H=>t { D with nx:=u D } σ H
theorem wc:PSs X [] BH:=fun _ _ σ H _ I h=>wpAny_execs_nil ⟨σ,H,I,h⟩
theorem tD (h1:PS X st t) (h2:PSs X rest u):PSs X (st::rest) (Em t u):=by
 intro GD s σ H D I h;refine wpAny_execs_cons (aB (h1 GD s σ H { D with nx:=u D } I h) fun f s1 q=>?_);cases f with
 | next =>
  obtain ⟨σ',H',I',q⟩:=q;exact h2 GD s1 σ' H' D I' q
 | ret v=>exact q
 | brk=>exact q
 | cont=>exact q
theorem Inv.quiet {GD:List (Addr × Obj)}{σ:St}{H:Hp}{s:Shared} (I:Inv X GD σ H s):interactive X.env=false:=by simp [interactive,I.ok.kind]
noncomputable def BI (te:TE):TS:=fun D σ H=>te σ H fun _ H1=>D.nx σ H1
theorem we (he:PE X e te) (hs:swapsWith e none pos.line X.env=pure false:=by rfl):PS X (.Expr e pos) (BI te):=by
 intro GD s σ H D I h;exact wpAny_Expr_any (aB (he GD s σ H _ I h) fun v s1 ⟨x,H1,I1,r1,q1⟩=>⟨σ,H1,I1,q1⟩) I.quiet hs
noncomputable def En (te:TE):TS:=fun D σ H=>te σ H D.rt
theorem yY (he:PE X e te):PS X (.Return (some e) pos) (En te):=by
 intro GD s σ H D I h;exact wpAny_Return_some (aB (he GD s σ H _ I h) fun v s1 ⟨x,H1,I1,r1,q1⟩=>⟨x,σ,H1,I1,r1,q1⟩)
noncomputable def Es (c:TT) (t u:TS):TS:=fun D σ H=>c σ H fun b H1=>if b=true then t D σ H1 else u D σ H1
theorem Cc {c:Expr}{a b:List Stmt}{tc:TT} (hc:PT X c tc) (ha:PSs X a t) (hb:PSs X b u):PS X (.If c a b pos) (Es tc t u):=by
 intro GD s σ H D I h;refine wpAny_If (aB (hc GD s σ H _ I h) fun d s1 hq0=>?_);obtain ⟨H1,I1,q1⟩:=hq0;cases d with
 | true=>exact ha GD s1 σ H1 D I1 q1
 | false=>exact hb GD s1 σ H1 D I1 q1
noncomputable def p5:TS:=fun _ _ _=>False
theorem tF:PS X st p5:=fun _ _ _ _ _ _ h=>h.elim
theorem qo {sts:List Stmt}:PSs X sts p5:=fun _ _ _ _ _ _ h=>h.elim
end
abbrev TG:=V->St->Hp->(St->Hp->Prop)->Prop
abbrev ja:=List V->St->Hp->(St->Hp->Prop)->Prop
def PG (X:Cx) (target:Expr) (t:TG):Prop :=
 ∀ (GD:List (Addr × Obj)) (s:Shared) (σ:St) (H:Hp) (v:V) (u:Value) (Q:St->Hp->Prop),Inv X GD σ H s->RelV v u->t v σ H Q ->
  wpAny (model X.prog X.w) X.A (assign target X.env u) (fun _ s'=>∃ σ' H',Inv X GD σ' H' s'/\Q σ' H') X.xe s
def lC (X:Cx) (ts:List Expr) (t:ja):Prop :=
 ∀ (GD:List (Addr × Obj)) (s:Shared) (σ:St) (H:Hp) (vs:List V) (us:List Value) (Q:St->Hp->Prop),Inv X GD σ H s->Vals vs us->t vs σ H Q ->
  wpAny (model X.prog X.w) X.A (assignInOrder ((assignEach ts X.env).map (·.2)) us) (fun _ s'=>∃ σ' H',Inv X GD σ' H' s'/\Q σ' H') X.xe s
abbrev uG:=V->V->V->Hp->(Hp->Prop)->Prop
def uH (X:Cx) (t:uG):Prop :=
 ∀ (GD:List (Addr × Obj)) (s:Shared) (σ:St) (H:Hp) (o i v:V) (ov iv u:Value) (Q:Hp->Prop),Inv X GD σ H s->RelV o ov->RelV i iv->RelV v u->t o i v H Q ->
  wpAny (model X.prog X.w) X.A (setItem ov iv u) (fun _ s'=>∃ H',Inv X GD σ H' s'/\Q H') X.xe s
section
variable {X:Cx}{pos:Pos}
noncomputable def jW (i:Nat):TG:=fun v σ H Q=>Q (σ.set i (some v)) H
theorem wu {i:Nat}{x:Str} (hN:X.N.Nodup) (hi:X.N[i]?=some x) (hx:Loc X.env.scope x) (hf:X.fn x=true\/X.env.scope.names.lookup x=some .local:=by first | exact .inl rfl | exact .inr rfl | assumption):PG X (.Name x pos) (jW i):=by
 intro GD s σ H v u Q I r h;exact wpAny_assign_Name (lZ I hN hi hx r (fun s' I'=>⟨_,H,I',h⟩) hf)
noncomputable def E8:ja:=fun vs σ H Q=>vs=[]/\Q σ H
noncomputable def CP (t:TG) (u:ja):ja:=fun vs σ H Q=>∃ v r,vs=v::r/\t v σ H fun σ' H'=>u r σ' H' Q
theorem wq:lC X [] E8:=by
 intro GD s σ H vs us Q I r h;obtain ⟨e,h⟩:=h;subst e;cases r;exact assignInOrder_nil ⟨σ,H,I,h⟩
theorem tH {e:Expr}{es:List Expr}{t:TG}{u:ja} (h1:PG X e t) (h2:lC X es u)
  (hs:(assignEach (e::es) X.env).map (·.2)=assign e X.env::(assignEach es X.env).map (·.2):=by rfl):lC X (e::es) (CP t u):=by
 intro GD s σ H vs us Q I r h;obtain ⟨v,vr,e1,h⟩:=h;subst e1;cases r with
 | cons r rr =>
  rw [hs];refine assignInOrder_cons (aB (h1 GD s σ H _ _ _ I r h) fun _ s1 hq0=>?_);obtain ⟨σ1,H1,I1,q1⟩:=hq0;exact h2 GD s1 σ1 H1 _ _ Q I1 rr q1
noncomputable def E6 (K:Frag) (n:Nat) (t:ja):TG:=fun v σ H Q=>∃ a xs,v=.ref a/\dP K H a xs/\xs.length=n/\t xs σ H Q
theorem zf {es:List Expr}{k:Nat}{t:ja}{n:Nat} (hc:X.calm=true) (h:lC X es t)
  (hn:(assignEach es X.env).length=n:=by rfl) (hst:(assignEach es X.env).findIdx? (·.1)=none:=by rfl):PG X (.Tuple es k pos) (E6 X.K n t):=by
 intro GD s σ H v u Q I r hw;obtain ⟨a,xs,e1,hq,hl,hw⟩:=hw;subst e1;cases r;obtain ⟨GH,rv,ht,hz⟩:=I.tuple hq;refine assign_Tuple_tuple (I.ok.hd hc) ht (by simp [hn,<- hl,rv.length]) hst fun h' hx=>?_
 have I1:Inv X GD σ H { s with heap:=h' }:=I.kept (t':=s.toks) fun b o e=>hx b o (zU (yG e)) e
 exact h GD _ σ H xs _ Q I1 (by simpa using rv) hw
noncomputable def E7 (to ti:TE) (t:uG):TG:=fun v σ H Q=>to σ H fun o H1=>ti σ H1 fun i H2=>t o i v H2 fun H3=>Q σ H3
theorem zg {o i:Expr}{to ti:TE}{t:uG} (ho:PE X o to) (hi:PE X i ti) (hs:uH X t)
  (ha:∀ v,assign (.Subscript o i pos) X.env v=(do
   let ov <- holding [v] (eval o X.env)
   let iv <- holding [v,ov] (eval i X.env)
   standAt pos
   holding [v,ov,iv] (setItem ov iv v)
   release [v,ov,iv] []):=by intro _;rfl):PG X (.Subscript o i pos) (E7 to ti t):=by
 intro GD s σ H v u Q I r h;rw [ha];refine yC (yM (aB (ho GD s σ H _ I h) fun ov s1 hq0=>?_));obtain ⟨x,H1,I1,r1,q1⟩:=hq0;refine yC (yM (aB (hi GD s1 σ H1 _ I1 q1) fun iv s2 hq0=>?_));obtain ⟨y,H2,I2,r2,q2⟩:=hq0;refine yC (wpAny_standAt (yC (yM (aB (hs GD s2 σ H2 x y v ov iv u _ I2 r1 r2 r q2) fun _ s3 hq0=>?_))));obtain ⟨H3,I3,q3⟩:=hq0;exact wpAny_release ⟨σ,H3,I3,q3⟩
noncomputable def oT (te:TE) (g:TG):TS:=fun D σ H=>te σ H fun x H1=>g x σ H1 D.nx
theorem y0 {tg e:Expr}{te:TE}{g:TG} (he:PE X e te) (hg:PG X tg g) (hs:swapsWithSole [tg] e pos.line X.env=pure false:=by rfl) (hw:swappedStores [tg] e X.env=pure none:=by rfl)
  (h1:(assignEach [tg] X.env).map (·.2)=[assign tg X.env]:=by rfl):PS X (.Assign [tg] e pos) (oT te g):=by
 intro GD s σ H D I h;refine wpAny_Assign_stores (aB (he GD s σ H _ I h) fun v s1 hq0=>?_) hs hw;obtain ⟨x,H1,I1,r1,q1⟩:=hq0;rw [h1];exact aB (hg GD s1 σ H1 x v _ I1 r1 q1) fun _ s2 q=>q
theorem yX {i:Nat}{x:Str}{e:Expr}{te:TE}{pos':Pos} (hN:X.N.Nodup) (hi:X.N[i]?=some x) (hx:Loc X.env.scope x) (he:PE X e te) (hs:swapsWith e (some (.Name x pos')) pos.line X.env=pure false:=by rfl) (hf:X.fn x=true\/X.env.scope.names.lookup x=some .local:=by first | exact .inl rfl | exact .inr rfl | assumption) :
  PS X (.Assign [.Name x pos'] e pos) (oT te (jW i)):=by
 intro GD s σ H D I h;refine wpAny_Assign_Name (aB (he GD s σ H _ I h) fun v s1 hq0=>?_) hs;obtain ⟨y,H1,I1,r1,q1⟩:=hq0;exact lZ I1 hN hi hx r1 (fun s2 I2=>⟨_,H1,I2,q1⟩) hf
end
section
variable {X:Cx}{pos:Pos}
def xV (c:TT) (tb:TS):TS:=fun D σ H=>∃ W:Nat->St->Hp->Prop,(∃ m,W m σ H)/\∀ m σ H,W m σ H ->
 c σ H fun b H1=>if b=true then ∃ N:St->Hp->Prop,(∀ σ' H',N σ' H'->∃ m',m' < m/\W m' σ' H')/\tb { D with nx:=N,ct:=N,bk:=D.nx } σ H1 else D.nx σ H1
theorem tE {c:Expr}{body:List Stmt}{tc:TT}{tb:TS} (hp:PassesOwn (model X.prog X.w) X.A X.env X.xe) (hc:PT X c tc) (hb:PSs X body tb):PS X (.While c body [] pos) (xV tc tb):=by
 intro GD s σ H D I h;obtain ⟨W,⟨m0,w0⟩,turn⟩:=h;refine wpAny_While (codeAny_whileLoop (fun n s'=>∃ σ' H',Inv X GD σ' H' s'/\W n σ' H') ?_ m0 ⟨σ,H,I,w0⟩);rintro n s1 ⟨σ1,H1,I1,w1⟩;refine wpAny_passesOwn hp (aB (hc GD s1 σ1 H1 _ I1 (turn n σ1 H1 w1)) fun b s2 hq0=>?_);obtain ⟨H2,I2,q2⟩:=hq0;cases b with
 | true =>
  obtain ⟨N,hN,q2⟩:=q2;rw [yF rfl];refine wpAny_passesOwn hp (aB (hb GD s2 σ1 H2 _ I2 q2) fun f s3 q3=>?_);cases f with
  | next =>
   obtain ⟨σ3,H3,I3,n3⟩:=q3;obtain ⟨m',hm,w3⟩:=hN σ3 H3 n3;exact ⟨m',hm,σ3,H3,I3,w3⟩
  | cont =>
   obtain ⟨σ3,H3,I3,n3⟩:=q3;obtain ⟨m',hm,w3⟩:=hN σ3 H3 n3;exact ⟨m',hm,σ3,H3,I3,w3⟩
  | brk=>exact q3
  | ret v=>exact q3
 | false =>
  rw [yE Bool.false_ne_true];exact wpAny_execs_nil ⟨σ1,H2,I2,q2⟩
end
structure It where
 go:Nat->Hp->Prop
 yld:Nat->Hp->V->Hp->Prop
 stop:Nat->Hp->Prop
def c5 (X:Cx) (GD:List (Addr × Obj)) (H:Hp) (b:Addr):Prop :=
 H b=none/\b ≠ X.env.locals/\b ∉ X.fs/\(b ∈ X.ex\/X.s₀.heap.objs.size <= b)/\(∀ x c,X.env.cells.lookup x=some c->c ≠ b)/\∀ p ∈ X.pn++GD,p.1 ≠ b
theorem Inv.fpOk {X:Cx}{GD:List (Addr × Obj)}{σ:St}{H H':Hp}{s:Shared}{b:Addr} (I:Inv X GD σ H s) (hb:s.heap.objs.size <= b) (hn:H' b=none):c5 X GD H' b:=by
 refine ⟨hn,Nat.ne_of_gt (zJ I.lt hb),I.nofs hb,.inr (z0 I.sz hb),fun x c e z=>?_,fun p hp z=>?_⟩
 ·obtain ⟨v,q⟩:=I.cell x c e
  exact absurd (zJ q.lt (by rw [z];exact hb)) (yS _)
 ·exact absurd (zJ (yG (I.pin p hp).1) (by rw [z];exact hb)) (yS _)
structure fV (P:Program) (w:World) (K:Frag) (tg:Expr) (J:It) (fp:List Addr) (it:Addr) (tn:Nat->Heap->Prop):Prop where
 mem:it ∈ fp
 obj:∀ i h,tn i h->∀ b ∈ fp,∃ o,h.get? b=some o/\∀ v,o.data ≠ .cell v
 keep:∀ i h h',tn i h->(∀ b ∈ fp,∀ o,h.get? b=some o->h'.get? b=some o)->tn i h'
 item:∀ (X:Cx),X.prog=P->X.w=w->X.K=K->X.calm=true->∀ (i:Nat) (GD:List (Addr × Obj)) (s:Shared) (σ:St) (H:Hp) (E:Value->Shared->Prop),Inv X GD σ H s->(∀ b ∈ fp,c5 X GD H b)->tn i s.heap->J.go i H ->
  wpAny (model P w) X.A (pyNext (.ref it)) (fun r s1=>∃ u,r=some u /\
   wpAny (model P w) X.A (letOwnedTupleGo tg (.ref it) u) (fun _ s2=>∃ x H',Inv X GD σ H' s2/\RelV x u/\J.yld i H x H'/\tn (i + 1) s2.heap/\∀ b ∈ fp,H' b=none) E s1) E s
 done:∀ (X:Cx),X.prog=P->X.w=w->X.K=K->X.calm=true->∀ (i:Nat) (GD:List (Addr × Obj)) (s:Shared) (σ:St) (H:Hp) (E:Value->Shared->Prop),Inv X GD σ H s->(∀ b ∈ fp,c5 X GD H b)->tn i s.heap->J.stop i H ->
  wpAny (model P w) X.A (pyNext (.ref it)) (fun r s1=>r=none/\Inv X GD σ H s1) E s
 self:∀ (A:Around) (i:Nat) (s:Shared) (Q:Value->Shared->Prop) (E:Value->Shared->Prop),tn i s.heap->Q (.ref it) s->wpAny (model P w) A (pyIter (.ref it)) Q E s
abbrev TI:=St->Hp->(It->Hp->Prop)->Prop
def Bv (X:Cx) (GD:List (Addr × Obj)) (σ:St) (tg:Expr) (R:It->Hp->Prop) (itv:Value) (s2:Shared):Prop :=
 ∃ (it:Addr) (fp:List Addr) (tn:Nat->Heap->Prop) (J:It) (H':Hp),itv=.ref it/\Inv X GD σ H' s2/\fV X.prog X.w X.K tg J fp it tn/\tn 0 s2.heap/\(∀ b ∈ fp,c5 X GD H' b)/\R J H'
def PI (X:Cx) (tg iter:Expr) (wi:TI):Prop :=
 ∀ (GD:List (Addr × Obj)) (s:Shared) (σ:St) (H:Hp) (R:It->Hp->Prop),Inv X GD σ H s->wi σ H R ->
  wpAny (model X.prog X.w) X.A (eval iter X.env) (fun v s1=>wpAny (model X.prog X.w) X.A (pyIter v) (Bv X GD σ tg R) X.xe s1) X.xe s
theorem iH {M:Model}{A:Around}{E:Value->Shared->Prop}{s:Shared}{tg:Expr}{it:Addr}{u:Value}{o:Obj}{n:String}{vs:Array Value}{Q:Unit->Shared->Prop} (ho:s.heap.get? it=some o) (hc:o.cls=.type n) (hd:o.data=.fields vs)
  (hn:["enumerate","zip","dict_itemiterator","dict_reverseitemiterator","odict_iterator","itertools.zip_longest","itertools.pairwise"].contains n=false) (hQ:Q () s):wpAny M A (letOwnedTupleGo tg (.ref it) u) Q E s:=by
 unfold letOwnedTupleGo;cases tg <;> first
  | exact yD hQ
  | (cases u <;> first
    | exact yD hQ
    | (refine yC (wpAny_load ho ?_)
       rw [hc,hd];show wpAny M A (if (["enumerate","zip","dict_itemiterator","dict_reverseitemiterator","odict_iterator","itertools.zip_longest","itertools.pairwise"].contains n && vs[0]? == some (rawInt _))=true then _ else _) Q E s;rw [yE (by intro h;rw [hn,Bool.false_and] at h;cases h)];exact yD hQ))
noncomputable def vC (K:Frag) (a:Addr):It :=
 ⟨fun i H=>∃ xs x,bC K H a xs/\xs[i]?=some x,fun i H x H'=>H'=H/\∀ xs,bC K H a xs->xs[i]?=some x,fun i H=>∃ xs,bC K H a xs/\xs.length <= i⟩
noncomputable def vA (K:Frag) (a:Addr):It :=
 ⟨fun i H=>∃ xs x,dP K H a xs/\xs[i]?=some x,fun i H x H'=>H'=H/\∀ xs,dP K H a xs->xs[i]?=some x,fun i H=>∃ xs,dP K H a xs/\xs.length <= i⟩
noncomputable def sg (lo:Int) (n:Nat):It:=⟨fun i _=>i < n,fun i H x H'=>H'=H/\x=.int (lo + i),fun i _=>n <= i⟩
theorem pW {P:Program}{w:World}{K:Frag}{tg:Expr} (a it:Addr):fV P w K tg (vC K a) [it] it (fun i h=>h.IsListIter it a i) where
 mem:=by simp
 obj:=fun i h st b hb=>by
  have e:b=it:=by simpa using hb
  subst e;obtain ⟨o,e,c,d⟩:=st;exact ⟨o,e,fun v z=>by rw [d] at z;cases z⟩
 keep:=fun i h h' st k=>st.at fun o e=>k it (by simp) o e
 item:=by
  intro X hP hw hK hc i GD s σ H E I hf st hg;subst hP hw hK;obtain ⟨xs,x,hq,hx⟩:=hg;obtain ⟨GH,rv,p,hz⟩:=I.list hq;obtain ⟨u,hu,ru⟩:=rv.get hx;obtain ⟨f0,f1,f2,f3,f4,f5⟩:=hf it (by simp);refine wpAny_pyNext_list_item st p.isList (x:=u) (by simpa using hu) fun h' st' sb=>?_
  have I1:Inv X GD σ H { s with heap:=h' }:=I.turned (t':=s.toks) (fun b o hb e=>(sb.2 b hb).trans e) f0 f1 f3 f4 f5;obtain ⟨o,e,c,d⟩:=id st';exact ⟨u,rfl,iH (s:={ s with heap:=h' }) e c d dC ⟨x,H,I1,ru,⟨rfl,fun ys hy=>by rw [I.list_inj hy hq];exact hx⟩,st',fun b hb=>(hf b hb).1⟩⟩
 done:=by
  intro X hP hw hK hc i GD s σ H E I hf st hg;subst hP hw hK;obtain ⟨xs,hq,hx⟩:=hg;obtain ⟨GH,rv,p,hz⟩:=I.list hq;obtain ⟨f0,f1,f2,f3,f4,f5⟩:=hf it (by simp);have hl:=rv.length;exact wpAny_pyNext_list_end (I.ok.hd hc) st p.isList (by simp;omega) fun h' eb=>⟨rfl,I.turned (t':=s.toks) (fun b o hb e=>eb b o hb e) f0 f1 f3 f4 f5⟩
 self:=fun _ _ _ _ _ st h=>wpAny_pyIter_listiter st h
theorem oP {P:Program}{w:World}{K:Frag}{tg:Expr} (a it:Addr):fV P w K tg (vA K a) [it] it (fun i h=>h.IsTupleIter it a i) where
 mem:=by simp
 obj:=fun i h st b hb=>by
  have e:b=it:=by simpa using hb
  subst e;obtain ⟨o,e,c,d⟩:=st;exact ⟨o,e,fun v z=>by rw [d] at z;cases z⟩
 keep:=fun i h h' st k=>st.at fun o e=>k it (by simp) o e
 item:=by
  intro X hP hw hK hc i GD s σ H E I hf st hg;subst hP hw hK;obtain ⟨xs,x,hq,hx⟩:=hg;obtain ⟨GH,rv,p,hz⟩:=I.tuple hq;obtain ⟨u,hu,ru⟩:=rv.get hx;obtain ⟨f0,f1,f2,f3,f4,f5⟩:=hf it (by simp);refine wpAny_pyNext_tuple_item st (show s.heap.IsTuple a GH.toArray from p) (x:=u) (by simpa using hu) fun h' st' sb=>?_
  have I1:Inv X GD σ H { s with heap:=h' }:=I.turned (t':=s.toks) (fun b o hb e=>(sb.2 b hb).trans e) f0 f1 f3 f4 f5;obtain ⟨o,e,c,d⟩:=id st';exact ⟨u,rfl,iH (s:={ s with heap:=h' }) e c d dC ⟨x,H,I1,ru,⟨rfl,fun ys hy=>by rw [I.tuple_inj hy hq];exact hx⟩,st',fun b hb=>(hf b hb).1⟩⟩
 done:=by
  intro X hP hw hK hc i GD s σ H E I hf st hg;subst hP hw hK;obtain ⟨xs,hq,hx⟩:=hg;obtain ⟨GH,rv,p,hz⟩:=I.tuple hq;obtain ⟨f0,f1,f2,f3,f4,f5⟩:=hf it (by simp);have hl:=rv.length;exact wpAny_pyNext_tuple_end (I.ok.hd hc) st (show s.heap.IsTuple a GH.toArray from p) (by simp;omega) fun h' eb=>⟨rfl,I.turned (t':=s.toks) (fun b o hb e=>eb b o hb e) f0 f1 f3 f4 f5⟩
 self:=fun _ _ _ _ _ st h=>wpAny_pyIter_tupleiter st h
theorem oQ {P:Program}{w:World}{K:Frag}{tg:Expr} (it:Addr) (lo:Int) (n:Nat):fV P w K tg (sg lo n) [it] it (fun i h=>IsRangeIter h it (lo + (i:Nat) * 1) ((n:Int) - (i:Nat)) 1) where
 mem:=by simp
 obj:=fun i h st b hb=>by
  have e:b=it:=by simpa using hb
  subst e;exact ⟨_,st,fun v z=>by
   have z':Data.fields _=Data.cell v:=z;cases z'⟩
 keep:=fun i h h' st k=>k it (by simp) _ st
 item:=by
  intro X hP hw hK hc i GD s σ H E I hf st hg;subst hP hw hK;obtain ⟨f0,f1,f2,f3,f4,f5⟩:=hf it (by simp);have W:=Walks.range (prog:=X.prog) (w:=X.w) (I.ok.hd hc) it lo 1 n;refine W.item i s _ _ hg st fun v h' tk hv st' kk=>?_
  obtain ⟨t,rfl⟩:=hv;have I1:Inv X GD σ H { s with heap:=h',toks:=tk }:=I.turned (fun b o hb e=>kk b o (by simpa using hb) e) f0 f1 f3 f4 f5;refine ⟨_,rfl,iH (s:={ s with heap:=h',toks:=tk }) (n:="range_iterator") st' rfl rfl dC ⟨.int (lo + i),H,I1,⟨t,?_⟩,⟨rfl,rfl⟩,st',fun b hb=>(hf b hb).1⟩⟩;rw [Int.mul_one]
 done:=by
  intro X hP hw hK hc i GD s σ H E I hf st hg;subst hP hw hK;obtain ⟨f0,f1,f2,f3,f4,f5⟩:=hf it (by simp);exact wpAny_pyNext_range_end (I.ok.hd hc) st (by have:n <= i:=hg;omega) fun h' eb=>⟨rfl,I.turned (t':=s.toks) (fun b o hb e=>eb b o hb e) f0 f1 f3 f4 f5⟩
 self:=fun _ _ _ _ _ st h=>wpAny_pyIter_rangeiter st h
section
variable {X:Cx}{tg:Expr}
theorem ma {GD:List (Addr × Obj)}{σ:St}{H:Hp}{s:Shared}{R:It->Hp->Prop}{E:Value->Shared->Prop}{lo hi:Int}{t u v:Tok}{tk:Nat} (I:Inv X GD σ H s) (h1:-(2 ^ 62) <= lo) (h2:lo < 2 ^ 62) (h3:-(2 ^ 62) <= hi) (h4:hi < 2 ^ 62)
  (q:R (sg lo (hi - lo).toNat) H):wpAny (model X.prog X.w) X.A (pyIter (.ref s.heap.objs.size)) (Bv X GD σ tg R) E { s with heap:=s.heap.push { cls:=.type "range",data:=.fields #[.int lo t,.int hi u,.int 1 v] },toks:=tk }:=by
 refine wpAny_pyIter_range (IsRange.new ..) (small_one h1 h2 h3 h4) ?_;have I1:Inv X GD σ H { s with heap:=s.heap.push { cls:=.type "range",data:=.fields #[.int lo t,.int hi u,.int 1 v] },toks:=tk }:=I.kept fun b o e=>zG _ e
 refine ⟨(s.heap.push { cls:=.type "range",data:=.fields #[.int lo t,.int hi u,.int 1 v] }).objs.size,[(s.heap.push { cls:=.type "range",data:=.fields #[.int lo t,.int hi u,.int 1 v] }).objs.size],_,_,H,rfl,
  I1.kept (t':=tk) fun b o e=>zG _ e,oQ _ lo (hi - lo).toNat,?_,fun b hb=>?_,q⟩
 ·have e1:lo + ((0:Nat):Int) * 1=lo:=by simp
  have e2:(((hi - lo).toNat:Nat):Int) - ((0:Nat):Int)=Builtin.Range.rangeSize lo hi 1:=by rw [rangeSize_one];split <;> omega
  show IsRangeIter _ _ (lo + ((0:Nat):Int) * 1) ((((hi - lo).toNat:Nat):Int) - ((0:Nat):Int)) 1;rw [e1,e2];exact zY _ rfl
 ·have e:b=(s.heap.push { cls:=.type "range",data:=.fields #[.int lo t,.int hi u,.int 1 v] }).objs.size:=by simpa using hb
  subst e;exact I1.fpOk (zP _) (I1.GJ.fresh (zP _))
def CJ (ta:TA):TI:=fun σ H R=>ta σ H fun vs H1=>∃ j:Int,vs=[.int j]/\-(2 ^ 62) <= j/\j < 2 ^ 62/\R (sg 0 j.toNat) H1
def CI (ta:TA):TI:=fun σ H R=>ta σ H fun vs H1=>∃ i j:Int,vs=[.int i,.int j]/\(-(2 ^ 62) <= i/\i < 2 ^ 62/\-(2 ^ 62) <= j/\j < 2 ^ 62)/\R (sg i (j - i).toNat) H1
theorem qw {a:Expr}{ta:TA}{p pos:Pos} (hg:Gl X "range") (hm:X.mg "range"=none) (ha:PA X [a] ta) (hs:starEach [a] X.env=[(false,eval a X.env)]:=by rfl):PI X tg (.Call (.Name "range" p) [a] [] pos) (CJ ta):=by
 intro GD s σ H R I h;refine Call_ (d8 I hg hm boot_range (PyProof.Rows.callWith_type1 (aB (ha pos GD s σ H _ I h) fun us s1 hq0=>?_) hs rfl));obtain ⟨vs,H1,I1,r1,q1⟩:=hq0;obtain ⟨j,e,q1,q2,q⟩:=q1;subst e;cases r1 with
 | cons r rr =>
  cases rr;obtain ⟨t,rfl⟩:=r;exact call_range_1 (ma I1 oM oM q1 q2 (by simpa using q))
theorem qv {a b:Expr}{ta:TA}{p pos:Pos} (hg:Gl X "range") (hm:X.mg "range"=none) (ha:PA X [a,b] ta) (hs:starEach [a,b] X.env=[(false,eval a X.env),(false,eval b X.env)]:=by rfl) (hs2:starEach [b] X.env=[(false,eval b X.env)]:=by rfl) :
  PI X tg (.Call (.Name "range" p) [a,b] [] pos) (CI ta):=by
 intro GD s σ H R I h;refine Call_ (d8 I hg hm boot_range (PyProof.Rows.callWith_type1 (aB (ha pos GD s σ H _ I h) fun us s1 ⟨vs,H1,I1,r1,q1⟩=>?_) (by rw [hs,hs2]) (by rw [hs2];rfl)));obtain ⟨i,j,e,⟨q1,q2,q3,q4⟩,q⟩:=q1;subst e;cases r1 with
 | cons r rr =>
  cases rr with
  | cons r' rr =>
   cases rr;obtain ⟨t,rfl⟩:=r;obtain ⟨t',rfl⟩:=r';exact call_range_2 (ma I1 q1 q2 q3 q4 q)
def Et (wi:TI) (g:TG) (tb:TS):TS:=fun D σ H=>wi σ H fun J H1=>∃ W:Nat->Nat->St->Hp->Prop,(∃ m,W 0 m σ H1)/\∀ i m σ H,W i m σ H ->
 (J.stop i H/\D.nx σ H)\/(J.go i H/\∃ N:St->Hp->Prop,(∀ σ' H',N σ' H'->∃ m',m' < m/\W (i + 1) m' σ' H')/\∀ x H',J.yld i H x H'->g x σ H' fun σ2 H2=>tb { D with nx:=N,ct:=N,bk:=D.nx } σ2 H2)
noncomputable def gZ (fp:List Addr) (h:Heap):List (Addr × Obj):=fp.filterMap fun b=>(h.get? b).map fun o=>(b,o)
theorem eI {fp:List Addr}{h:Heap}{b:Addr}{o:Obj} (hb:b ∈ fp) (e:h.get? b=some o):(b,o) ∈ gZ fp h:=List.mem_filterMap.mpr ⟨b,hb,by rw [e];rfl⟩
theorem qF {fp:List Addr}{h:Heap}{p:Addr × Obj} (hp:p ∈ gZ fp h):p.1 ∈ fp/\h.get? p.1=some p.2:=by
 obtain ⟨b,hb,e⟩:=List.mem_filterMap.mp hp;cases q:h.get? b with
 | none=>rw [q] at e;cases e
 | some o =>
  rw [q] at e;have e':(b,o)=p:=yB e;subst e';exact ⟨hb,q⟩
theorem Inv.pinned {GD:List (Addr × Obj)}{σ:St}{H:Hp}{s:Shared}{fp:List Addr} (I:Inv X GD σ H s) (hf:∀ b ∈ fp,c5 X GD H b) (ho:∀ b ∈ fp,∃ o,s.heap.get? b=some o/\∀ v,o.data ≠ .cell v):Inv X (GD++gZ fp s.heap) σ H s :=
 I.pins_of fun p hp=>(zZ.mp hp).elim (fun z=>I.pin p (zK _ z)) fun z=>by
  obtain ⟨hb,e⟩:=qF z;obtain ⟨f0,f1,f2,_⟩:=hf p.1 hb;obtain ⟨o,e',d⟩:=ho p.1 hb;rw [e] at e';cases e';exact ⟨e,f0,f1,f2,d⟩
theorem Inv.unpinned {GD pl:List (Addr × Obj)}{σ:St}{H:Hp}{s:Shared} (I:Inv X (GD++pl) σ H s):Inv X GD σ H s:=I.pins_of fun p hp=>I.pin p (zK _ (List.mem_append_left _ hp))
theorem qq {iter:Expr}{body:List Stmt}{wi:TI}{g:TG}{tb:TS}{pos:Pos} (hp:PassesOwn (model X.prog X.w) X.A X.env X.xe) (hc:X.calm=true) (hi:PI X tg iter wi) (hg:PG X tg g) (hb:PSs X body tb)
  (hs:∀ x,foldedSetIterable iter X.env x=pure x:=by intro _;rfl):PS X (.For tg iter body [] pos) (Et wi g tb):=by
 intro GD s σ H D I h;refine wpAny_For (aB (hi GD s σ H _ I h) fun v s1 h1=>aB h1 fun itv s2 h2=>?_) hs;obtain ⟨it,fp,tn,J,H2,e,I2,T,st2,f2,W,⟨m0,w0⟩,turn⟩:=h2;subst e
 -- what stays true of the iterator's objects through the loop
 have stat:∀ {H':Hp},(∀ b ∈ fp,H' b=none)->∀ b ∈ fp,c5 X GD H' b:=fun hn b hb=>⟨hn b hb,(f2 b hb).2⟩
 refine codeAny_forLoop_any (fun n s'=>∃ i σ' H',Inv X GD σ' H' s'/\tn i s'.heap/\(∀ b ∈ fp,H' b=none)/\W i n σ' H') ?_ m0 ⟨0,σ,H2,I2,st2,fun b hb=>(f2 b hb).1,w0⟩;rintro n s3 ⟨i,σ3,H3,I3,st3,fr3,w3⟩;rcases turn i n σ3 H3 w3 with ⟨stop,qn⟩ | ⟨go,N,hN,step⟩
 ·refine wpAny_passesOwn hp (aB (T.done X rfl rfl rfl hc i GD s3 σ3 H3 X.xe I3 (stat fr3) st3 stop) fun r s4 hq0=>?_)
  obtain ⟨hr,I4⟩:=hq0;subst hr;exact wpAny_execs_nil ⟨σ3,H3,I4,qn⟩
 ·refine wpAny_passesOwn hp (aB (T.item X rfl rfl rfl hc i GD s3 σ3 H3 X.xe I3 (stat fr3) st3 go) fun r s4 hq0=>?_)
  obtain ⟨u,hr,h4⟩:=hq0;subst hr;refine wpAny_passesOwn hp (aB h4 fun _ s5 hq0=>?_);obtain ⟨x,H5,I5,r5,y5,st5,fr5⟩:=hq0;have I5':=I5.pinned (stat fr5) (T.obj _ _ st5);refine wpAny_passesOwn hp (aB (hg _ s5 σ3 H5 x u _ I5' r5 (step x H5 y5)) fun _ s6 hq0=>?_);obtain ⟨σ6,H6,I6,q6⟩:=hq0;refine wpAny_passesOwn hp (aB (hb _ s6 σ6 H6 _ I6 q6) fun f s7 q7=>?_);have again:∀ {σ7:St}{H7:Hp},Inv X (GD++gZ fp s5.heap) σ7 H7 s7->N σ7 H7->∃ m,m < n/\∃ i σ' H',Inv X GD σ' H' s7/\tn i s7.heap/\(∀ b ∈ fp,H' b=none)/\W i m σ' H':=fun {σ7 H7} I7 n7=>by
   obtain ⟨m',hm,w7⟩:=hN σ7 H7 n7;refine ⟨m',hm,i + 1,σ7,H7,I7.unpinned,T.keep _ _ _ st5 fun b hb o e=>(I7.pin (b,o) (zK _ (zK _ (eI hb e)))).1,fun b hb=>?_,w7⟩;obtain ⟨o,e,d⟩:=T.obj _ _ st5 b hb;exact (I7.pin (b,o) (zK _ (zK _ (eI hb e)))).2.1
  cases f with
  | next=>obtain ⟨σ7,H7,I7,n7⟩:=q7;exact again I7 n7
  | cont=>obtain ⟨σ7,H7,I7,n7⟩:=q7;exact again I7 n7
  | brk=>obtain ⟨σ7,H7,I7,q7⟩:=q7;exact ⟨σ7,H7,I7.unpinned,q7⟩
  | ret v=>obtain ⟨x7,σ7,H7,I7,r7,q7⟩:=q7;exact ⟨x7,σ7,H7,I7.unpinned,r7,q7⟩
end
abbrev R2:=V->V->Hp->VK->Prop
def fr (X:Cx) (f:Value->Value->Sem Value) (r:R2):Prop :=
 ∀ (GD:List (Addr × Obj)) (s:Shared) (σ:St) (H:Hp) (x y:V) (v u:Value) (Q:VK),Inv X GD σ H s->RelV x v->RelV y u->r x y H Q ->
  wpAny (model X.prog X.w) X.A (f v u) (EP X GD σ Q) X.xe s
def rZ (X:Cx) (f:Value->Sem Value) (r:V->Hp->VK->Prop):Prop :=
 ∀ (GD:List (Addr × Obj)) (s:Shared) (σ:St) (H:Hp) (x:V) (v:Value) (Q:VK),Inv X GD σ H s->RelV x v->r x H Q ->
  wpAny (model X.prog X.w) X.A (f v) (EP X GD σ Q) X.xe s
def bU (X:Cx) (f:Value) (r:List V->Hp->VK->Prop):Prop :=
 ∀ (GD:List (Addr × Obj)) (s:Shared) (σ:St) (H:Hp) (xs:List V) (us:List Value) (Q:VK),Inv X GD σ H s->Vals xs us->r xs H Q ->
  wpAny (model X.prog X.w) X.A (call f us) (EP X GD σ Q) X.xe s
def Ff (X:Cx) (r:V->Hp->(Bool->Hp->Prop)->Prop):Prop :=
 ∀ (GD:List (Addr × Obj)) (s:Shared) (σ:St) (H:Hp) (x:V) (v:Value) (Q:Bool->Hp->Prop),Inv X GD σ H s->RelV x v->r x H Q ->
  wpAny (model X.prog X.w) X.A (truthy v) (TP X GD σ Q) X.xe s
noncomputable def p0 (r:R2) (ta tb:TE):TE:=fun σ H Q=>ta σ H fun x H1=>tb σ H1 fun y H2=>r x y H2 Q
def Dm (r:V->Hp->VK->Prop) (ta:TE):TE:=fun σ H Q=>ta σ H fun x H1=>r x H1 Q
def rU (g:Int->V):V->Hp->VK->Prop:=fun x H Q=>∃ i,x=.int i/\Q (g i) H
section
variable {X:Cx}{a b c:Expr}{ta tb tc:TE}{pos:Pos}
theorem uE (ha:PE X a ta) (hb:PE X b tb) {GD:List (Addr × Obj)}{s:Shared}{σ:St}{H:Hp}{R:V->V->Hp->Prop} (I:Inv X GD σ H s)
  (h:ta σ H fun x H1=>tb σ H1 fun y H2=>R x y H2) {Q:Value->Shared->Prop}{f:Value->Value->Sem Value}
  (hf:∀ v u s2 x y H2,Inv X GD σ H2 s2->RelV x v->RelV y u->R x y H2->wpAny (model X.prog X.w) X.A (f v u) Q X.xe s2) :
  wpAny (model X.prog X.w) X.A (eval a X.env) (fun v s₁=>wpAny (model X.prog X.w) X.A (eval b X.env) (fun u s₂=>wpAny (model X.prog X.w) X.A (f v u) Q X.xe s₂) X.xe s₁) X.xe s:=by
 refine aB (ha GD s σ H _ I h) fun v s1 hq0=>?_
 obtain ⟨x,H1,I1,r1,q1⟩:=hq0;refine aB (hb GD s1 σ H1 _ I1 q1) fun u s2 hq0=>?_
 obtain ⟨y,H2,I2,r2,q2⟩:=hq0;exact hf v u s2 x y H2 I2 r1 r2 q2
theorem oZ {op:Operator}{r:R2} (ho:fr X (binaryOp op) r) (ha:PE X a ta) (hb:PE X b tb):PE X (.BinOp a op b pos) (p0 r ta tb):=by
 intro GD s σ H Q I h;exact wpAny_BinOp (uE ha hb I h fun v u s2 x y H2 I2 rx ry q=>ho GD s2 σ H2 x y v u Q I2 rx ry q)
theorem Cf {op:UnaryOp}{r:V->Hp->VK->Prop} (ho:rZ X (unaryOp op) r) (ha:PE X a ta):PE X (.UnaryOp op a pos) (Dm r ta):=by
 intro GD s σ H Q I h;exact UnaryOp_ (aB (ha GD s σ H _ I h) fun v s1 ⟨x,H1,I1,r1,q1⟩=>ho GD s1 σ H1 x v Q I1 r1 q1)
def Fh (i j:Int):Prop:=0 <= j/\j <= 1000000/\i.natAbs < 2 ^ 64
theorem oO (k:Nat):(0:Int) <= 2 ^ k:=by
 rw [two_pow_cast];exact Int.natCast_nonneg _
theorem Dk {f:Value->Sem Value}{g:Int->Int}
  (rule:∀ (i:Int) (t:Tok) (s:Shared) (Q:Value->Shared->Prop) (E:Value->Shared->Prop),Q (.int (g i) s.toks) { s with toks:=s.toks + 1 }->wpAny (model X.prog X.w) X.A (f (.int i t)) Q E s) :
  rZ X f (rU fun i=>.int (g i)):=by
 intro GD s σ H x v Q I rx h;obtain ⟨i,rfl,q⟩:=h;obtain ⟨t,rfl⟩:=rx;exact rule i t s _ _ ⟨.int (g i),H,I.tok _,⟨_,rfl⟩,q⟩
theorem xQ:rZ X (unaryOp .USub) (rU fun i=>.int (-i)):=Dk fun _ _ _ _ _ q=>neg_int q
theorem xR:rZ X (unaryOp .Invert) (rU fun i=>.int (Builtin.bitNot i)):=Dk fun _ _ _ _ _ q=>invert_int q
end
section
variable {X:Cx}{a b c:Expr}{ta tb tc:TE}{pos:Pos}
theorem wy {op:CmpOp}{r:R2} (ho:fr X (compareOp op) r) (ha:PE X a ta) (hb:PE X b tb) (hm:behindInMarks op b=false):PE X (.Compare a [op] [b] pos) (p0 r ta tb):=by
 intro GD s σ H Q I h;exact wpAny_Compare1 (uE ha hb I h fun v u s2 x y H2 I2 rx ry q=>ho GD s2 σ H2 x y v u Q I2 rx ry q) hm
noncomputable def uK (t:TE):TT:=fun σ H Q=>t σ H fun x H'=>∃ k,x=.bl k/\Q k H'
theorem wb {op:CmpOp}{r:R2} (ho:fr X (compareOp op) r) (ha:PE X a ta) (hb:PE X b tb) (hm:behindInMarks op b=false):PT X (.Compare a [op] [b] pos) (uK (p0 r ta tb)):=by
 intro GD s σ H Q I h;refine wpAny_isTrue_Compare1 (aB (ha GD s σ H _ I h) fun v s1 ⟨x,H1,I1,r1,q1⟩=>aB (hb GD s1 σ H1 _ I1 q1) fun u s2 ⟨y,H2,I2,r2,q2⟩ =>
  aB (ho GD s2 σ H2 x y v u _ I2 r1 r2 q2) fun c s3 ⟨z,H3,I3,r3,k,e,q3⟩=>?_) hm
 subst e;cases r3;exact wpAny_truthy_bool ⟨H3,I3,q3⟩
noncomputable def lX (r r':R2) (ta tb tc:TE):TE:=fun σ H Q=>ta σ H fun x H1=>tb σ H1 fun y H2=>r x y H2 fun z H3=>∃ k,z=.bl k /\
 (if k=true then tc σ H3 fun w' H4=>r' y w' H4 Q else Q (.bl false) H3)
theorem tM {op op':CmpOp}{r r':R2} (ho:fr X (compareOp op) r) (ho':fr X (compareOp op') r') (ha:PE X a ta) (hb:PE X b tb) (hc:PE X c tc)
  (hm:lastMarks [op,op'] [b,c]=false:=by with_unfolding_all rfl):PE X (.Compare a [op,op'] [b,c] pos) (lX r r' ta tb tc):=by
 intro GD s σ H Q I h;refine Compare_chain (aB (ha GD s σ H _ I h) fun v s1 ⟨x,H1,I1,r1,q1⟩=>chain_link (aB (hb GD s1 σ H1 _ I1 q1) fun u s2 ⟨y,H2,I2,r2,q2⟩ =>
  aB (ho GD s2 σ H2 x y v u _ I2 r1 r2 q2) fun d s3 ⟨z,H3,I3,r3,k,e,q3⟩=>?_)) hm
 subst e;cases r3;refine wpAny_truthy_bool ?_;cases k with
 | false=>exact ite_ff ⟨.bl false,H3,I3,rfl,q3⟩
 | true=>exact ite_tt (chain_last (aB (hc GD s3 σ H3 _ I3 q3) fun w' s4 ⟨z',H4,I4,r4,q4⟩=>ho' GD s4 σ H4 y z' u w' Q I4 r2 r4 q4))
theorem tB {op op':CmpOp}{r r':R2} (ho:fr X (compareOp op) r) (ho':fr X (compareOp op') r') (ha:PE X a ta) (hb:PE X b tb) (hc:PE X c tc)
  (hm:lastMarks [op,op'] [b,c]=false:=by with_unfolding_all rfl):PT X (.Compare a [op,op'] [b,c] pos) (uK (lX r r' ta tb tc)):=by
 intro GD s σ H Q I h;refine isTrue_chain (aB (ha GD s σ H _ I h) fun v s1 ⟨x,H1,I1,r1,q1⟩=>test_link (aB (hb GD s1 σ H1 _ I1 q1) fun u s2 ⟨y,H2,I2,r2,q2⟩ =>
  aB (ho GD s2 σ H2 x y v u _ I2 r1 r2 q2) fun d s3 ⟨z,H3,I3,r3,k,e,q3⟩=>?_)) hm
 subst e;cases r3;refine wpAny_truthy_bool ?_;cases k with
 | false =>
  obtain ⟨k',e',q'⟩:=q3;cases e';exact ite_ff ⟨H3,I3,q'⟩
 | true =>
  refine ite_tt (test_last (aB (hc GD s3 σ H3 _ I3 q3) fun w' s4 ⟨z',H4,I4,r4,q4⟩=>aB (ho' GD s4 σ H4 y z' u w' _ I4 r2 r4 q4) fun d' s5 hq0=>?_));obtain ⟨z2,H5,I5,r5,k2,e2,q5⟩:=hq0;subst e2;cases r5;exact wpAny_truthy_bool ⟨H5,I5,q5⟩
def uF (K:Frag) (x:V) (H:Hp) (k:Bool):Prop :=
 match x with
 | .non=>k=false
 | .bl b=>k=b
 | .int i=>k=(i != 0)
 | .str y=>y.length <= sizeLine/\k=((y.length:Int) != 0)
 | .byt y=>y.size <= sizeLine/\k=((y.size:Int) != 0)
 | .ref p=>(∃ xs,bC K H p xs/\k=!xs.isEmpty)\/(∃ xs,dP K H p xs/\k=!xs.isEmpty)\/∃ GE,H p=some (.dK GE)/\k=!GE.isEmpty
 | _=>False
theorem pA {κ:Type}{GE:List (κ × V)}{vs:List (κ × Value)} (r:KV GE vs):(!vs.isEmpty)=!GE.isEmpty:=by
 cases r <;> rfl
theorem jT {xs:List V}{GH:List Value} (r:Vals xs GH):(!GH.toArray.isEmpty)=!xs.isEmpty:=by
 cases r <;> simp
theorem eZ:(sizeLine:Nat) < 2 ^ 63:=by rw [sizeLine_eq];decide
theorem xT:Ff X (fun x H Q=>∃ k,uF X.K x H k/\Q k H):=by
 intro GD s σ H x v Q I rx h;obtain ⟨k,e,q⟩:=h;have hl:=eZ;have hs:sizeLine=16777216:=sizeLine_eq;cases x with
 | non =>
  cases rx;have e':k=false:=e;subst e';exact truthy_none ⟨H,I,q⟩
 | bl b =>
  cases rx;have e':k=b:=e;subst e';exact wpAny_truthy_bool ⟨H,I,q⟩
 | int i =>
  obtain ⟨t,rfl⟩:=rx;have e':k=(i != 0):=e;subst e';exact PySem.P.truthy_int ⟨H,I,q⟩
 | str y =>
  obtain ⟨t,rfl⟩:=rx;obtain ⟨hy,e'⟩:y.length <= sizeLine/\k=((y.length:Int) != 0):=e;subst e';exact PySem.P.truthy_str oM ⟨H,I.tok _,q⟩
 | byt y =>
  obtain ⟨t,rfl⟩:=rx;obtain ⟨hy,e'⟩:y.size <= sizeLine/\k=((y.size:Int) != 0):=e;subst e';exact truthy_bytes oM ⟨H,I.tok _,q⟩
 | ref p =>
  cases rx;have e':(∃ xs,bC X.K H p xs/\k=!xs.isEmpty)\/(∃ xs,dP X.K H p xs/\k=!xs.isEmpty)\/∃ GE,H p=some (.dK GE)/\k=!GE.isEmpty:=e;rcases e' with ⟨xs,hx,e'⟩ | ⟨xs,hx,e'⟩ | ⟨GE,hx,e'⟩
  ·subst e'
   obtain ⟨GH,r,pl,hz⟩:=I.list hx;have hlen:=r.length;exact wpAny_truthy_list pl.isList (by simp only [zI];omega) ⟨H,I.tok _,by rw [jT r];exact q⟩
  ·subst e'
   obtain ⟨GH,r,pl,hz⟩:=I.tuple hx;have hlen:=r.length;exact truthy_tuple pl (by simp only [zI];omega) ⟨H,I.tok _,by rw [jT r];exact q⟩
  ·subst e'
   obtain ⟨hz,hS,vs,r,m⟩:GE.length <= sizeLine/\(p == sysModules)=false/\∃ vs,KV GE vs/\s.heap.DictOf (bL X.prog X.w) p vs:=I.GJ p _ hx;have hlen:GE.length=vs.length:=Paired.length r;exact wpAny_truthy_dict hS m oM ⟨H,I.tok _,by rw [pA r];exact q⟩
 | _=>exact (show False from e).elim
theorem tx (ha:PE X a ta) (he:∀ whole,isTrue a X.env whole=(do let v <- whole;standAt a.pos;holding [v] (truthy v))) :
  PT X a (fun σ H Q=>ta σ H fun x H'=>∃ k,uF X.K x H' k/\Q k H'):=by
 intro GD s σ H Q I h;exact isTrue_plain (aB (ha GD s σ H _ I h) fun v s1 ⟨x,H1,I1,r1,q1⟩=>xT GD s1 σ H1 x v Q I1 r1 q1) (he _)
theorem o0:fr X (binaryOp .Add) (fun x y H Q=>∃ i j,x=.str i/\y=.str j/\i.length + j.length <= sizeLine/\Q (.str (i++j)) H):=by
 intro GD s σ H x y v u Q I rx ry h;obtain ⟨i,j,rfl,rfl,hz,q⟩:=h;obtain ⟨t,rfl⟩:=rx;obtain ⟨t',rfl⟩:=ry;exact add_str (fun t' tk=>⟨.str (i++j),H,I.tok _,⟨_,rfl⟩,q⟩) hz
theorem c9 {x:V}{us:List Value} (r:Vals [x] us):∃ u,us=[u]/\RelV x u:=by
 cases r with
 | cons r1 r2=>cases r2;exact ⟨_,rfl,r1⟩
theorem oJ {x y:V}{us:List Value} (r:Vals [x,y] us):∃ u w',us=[u,w']/\RelV x u/\RelV y w':=by
 cases r with
 | cons r1 r2 =>
  cases r2 with
  | cons r3 r4=>cases r4;exact ⟨_,_,rfl,r1,r3⟩
theorem uz:bU X (.builtin "abs") (fun xs H Q=>∃ i,xs=[.int i]/\Q (.int (if i < 0 then -i else i)) H):=by
 intro GD s σ H xs us Q I r h;obtain ⟨i,rfl,q⟩:=h;obtain ⟨u,rfl,t,rfl⟩:=c9 r;exact call_abs_int fun u tk=>⟨.int (if i < 0 then -i else i),H,I.tok _,⟨_,rfl⟩,q⟩
theorem rC (hc:X.calm=true):bU X (.builtin "max") (fun xs H Q=>∃ i j,xs=[.int i,.int j]/\Q (.int (if j > i then j else i)) H):=by
 intro GD s σ H xs us Q I r h;obtain ⟨i,j,rfl,q⟩:=h;obtain ⟨u,w',rfl,⟨t,rfl⟩,⟨t',rfl⟩⟩:=oJ r;refine max_two_ints (I.ok.hd hc) fun h' tk k=>⟨_,H,I.kept k,?_,q⟩
 by_cases hj:j > i
 ·rw [yF hj,yF hj];exact ⟨_,rfl⟩
 ·rw [yE hj,yE hj];exact ⟨_,rfl⟩
theorem rq (hc:X.calm=true):bU X (.builtin "min") (fun xs H Q=>∃ i j,xs=[.int i,.int j]/\Q (.int (if j < i then j else i)) H):=by
 intro GD s σ H xs us Q I r h;obtain ⟨i,j,rfl,q⟩:=h;obtain ⟨u,w',rfl,⟨t,rfl⟩,⟨t',rfl⟩⟩:=oJ r;refine min_two_ints (I.ok.hd hc) fun h' tk k=>⟨_,H,I.kept k,?_,q⟩
 by_cases hj:j < i
 ·rw [yF hj,yF hj];exact ⟨_,rfl⟩
 ·rw [yE hj,yE hj];exact ⟨_,rfl⟩
theorem rF:bU X (.type "int") (fun xs H Q=>(∃ i,xs=[.int i]/\Q (.int i) H)\/∃ k,xs=[.bl k]/\Q (.int (if k then 1 else 0)) H):=by
 intro GD s σ H xs us Q I r h;rcases h with ⟨i,rfl,q⟩ | ⟨k,rfl,q⟩
 ·obtain ⟨u,rfl,t,rfl⟩:=c9 r
  exact call_int_int ⟨.int i,H,I,⟨_,rfl⟩,q⟩
 ·obtain ⟨u,rfl,r1⟩:=c9 r
  cases r1;exact call_int_bool ⟨.int (if k then 1 else 0),H,I.tok _,⟨_,rfl⟩,q⟩
end
structure ObjM (h:Heap) (x dx C:Addr) (mA:Str->Option Value):Prop where
 obj:h.get? x=some (instObj C dx)
 ns:h.Ns1 dx mA
 ne:dx ≠ x
theorem qO {h:Heap}{dx:Addr}{mA:Str->Option Value} (n:h.Ns1 dx mA):∃ od,h.get? dx=some od/\∀ name,lookIn name od=some (mA name):=by
 obtain ⟨o,es,ep,ho,hd,hk,_,hm⟩:=n;refine ⟨o,ho,fun name=>?_⟩;have e:=hm name;unfold nsFind findBy at e;rw [<- Array.find?_toList] at e;unfold lookIn;rw [hd];dsimp only;split
 ·rename_i y q
  rw [q] at e;exact congrArg some e
 ·rename_i q
  rw [q] at e;have a:es.toList.any (·.refKey)=false:=by
   rw [List.any_eq_false];intro y hy;obtain ⟨z,t,hkey⟩:=hk y (Array.mem_toList_iff.mp hy);simp [DictEntry.refKey,hkey]
  have a':¬ es.toList.any (·.refKey)=true:=by rw [a];exact Bool.false_ne_true
  rw [yE a'];exact congrArg some e
theorem ObjM.look {h:Heap}{x dx C:Addr}{mA:Str->Option Value} (I:ObjM h x dx C mA):∃ od,InstAt h x (instObj C dx) C (some od)/\∀ name,lookIn name od=some (mA name) :=
 let ⟨od,ho,hl⟩:=qO I.ns
 ⟨od,⟨I.obj,rfl,rfl,ho⟩,hl⟩
section
variable {prog:Program}{w:World}{A:Around}{E:Value->Shared->Prop}{s:Shared}{K:Frag}{x dx C f:Addr}{mA:Str->Option Value}{name:Str}{v:Value}
theorem xq {expr:Bool}{Q:Value->Shared->Prop} (X:K.In s.heap) (I:ObjM s.heap x dx C mA) (hg:plainGet K C name=true) (hh:hasDictIn K C=true)
  (ha:findIn K (.ref C) name=some none) (hv:mA name=some v) (hv':handedIn v=true) (h:Q v { s with toks:=s.toks + 1 }) :
  wpAny (model prog w) A (getAttr (.ref x) name expr) Q E s:=by
 obtain ⟨od,J,hl⟩:=I.look;exact get_value X J (plainGet_of hg).1 (findObj_own hh ha rfl (by rw [hl,hv])) hv' h
theorem um {pl:Sem Bool}{Q:Value × List Value->Shared->Prop} (X:K.In s.heap) (I:ObjM s.heap x dx C mA) (hg:plainGet K C name=true)
  (hf:findIn K (.ref C) name=some (some (.ref f))) (ht:isFn K (.ref f)=true) (hv:mA name=none) (h:Q (.ref f,[.ref x]) s) :
  wpAny (model prog w) A (getMethod (.ref x) name pl) Q E s:=by
 obtain ⟨od,J,hl⟩:=I.look;exact method_fn X J (plainGet_of hg).1 (plainGet_of hg).2 hf (beq_iff_eq.mp ht) (by show (lookIn name od).map (·.isSome)=some false;rw [hl,hv];rfl) h
theorem vS {ns:List Str}{Q:Unit->Shared->Prop} (X:K.In s.heap) (I:ObjM s.heap x dx C mA)
  (hs:findIn K (.ref C) "__setattr__"=some (some (.builtin "object.__setattr__"))) (hp:plainOver K C=true) (ht:takerIn K C name=some none) (hh:hasDictIn K C=true)
  (hw:PySem.Within mA ns) (hsz:ns.length <= sizeLine)
  (h:∀ h',ObjM h' x dx C (fun y=>if y=name then some v else mA y)->Heap.SameBut dx s.heap h'->Q () { s with heap:=h',toks:=s.toks + 2 }) :
  wpAny (model prog w) A (setAttr (.ref x) name v) Q E s:=by
 obtain ⟨od,J,hl⟩:=I.look;refine set_plain X J hs (osa_open (s:={ s with toks:=s.toks + 1 }) (r:=none) X J hp ht fun b=>?_);obtain ⟨cd,hc,hd'⟩:=any_some hh;have hx:s.heap.get? x=some ⟨.ref C,some dx,.plain,#[]⟩:=I.obj;refine yC (yD (yC (yC (wpAny_loadPart hx (yC (PySem.W.Looks.here (s:={ s with toks:=s.toks + 1 }) (looks_clsIn X hc) ?_))))));rw [hd'];refine yD (a:=some dx) (yC (yD (yC ?_)));refine wpAny_nsSet1 (s:={ s with toks:=s.toks + 1 }) I.ns fun h' hn2 hs2=>?_
 obtain ⟨oD,esD,epD,hoD,hdD,hcD⟩:=hn2.count (PySem.Within.cons name v hw);refine yC (wpAny_lookBehind hoD (by rw [hdD];exact pastItsLine_dict (z0 hcD (by rw [yQ];omega))) ?_);exact yD (h _ ⟨(hs2.2 _ (Ne.symm I.ne)).trans I.obj,hn2,I.ne⟩ hs2)
theorem t8 {R:Result->Shared->Prop}{vs:List Value}{kw:List (Str × Value)} (X:K.In s.heap) (hm:makesIn K C=true)
  (hi:findIn K (.ref C) "__init__"=some (some (.ref f))) (hf:typeIn K (.ref f)=some (.type "function"))
  (h:codeAny (model prog w) (A.under (.builtin "type.__call__" ⟨.ref C::vs,kw⟩)) (.call (.ref f) ⟨.ref (s.heap.objs.size + 1)::vs,kw⟩) (InitBack (s.heap.objs.size + 1) R)
   { s with heap:=(s.heap.push emptyDict).push (instObj C s.heap.objs.size) }) :
  codeAny (model prog w) A (.call (.ref C) ⟨vs,kw⟩) R s:=by
 obtain ⟨hh,g,d,t,os⟩:=s;exact make_core (makes_of X hm) (looks_findIn X hi) (fun self=>bind_fn X self hf) (.inl rfl) h
end
noncomputable def cW (f:Str) (v:V):List (Str × V)->List (Str × V)
 | []=>[(f,v)]
 | (g,x)::r=>if g=f then (g,v)::r else (g,x)::cW f v r
theorem iP (f g:Str) (v:V):∀ fs:List (Str × V),(cW f v fs).lookup g=if g=f then some v else fs.lookup g
 | []=>by
  show List.lookup g [(f,v)]=_;by_cases h:g=f
  ·have hb:(g == f)=true:=beq_iff_eq.mpr h
   simp only [List.lookup,hb,yF h]
  ·have hb:(g == f)=false:=beq_eq_false_iff_ne.mpr h
   simp only [List.lookup,hb,yE h]
 | (k,x)::r=>by
  have ih:=iP f g v r;rw [show cW f v ((k,x)::r)=(if k=f then (k,v)::r else (k,x)::cW f v r) from rfl];by_cases hk:k=f
  ·rw [yF hk]
   by_cases h:g=k
   ·have hb:(g == k)=true:=beq_iff_eq.mpr h
    simp only [List.lookup,hb,yF (h.trans hk)]
   ·have hb:(g == k)=false:=beq_eq_false_iff_ne.mpr h
    simp only [List.lookup,hb,yE (fun e:g=f=>h (e.trans hk.symm))]
  ·rw [yE hk]
   by_cases h:g=k
   ·have hb:(g == k)=true:=beq_iff_eq.mpr h
    simp only [List.lookup,hb,yE (fun e:g=f=>hk (h.symm.trans e))]
   ·have hb:(g == k)=false:=beq_eq_false_iff_ne.mpr h
    simp only [List.lookup,hb];exact ih
theorem hG (f:Str) (v:V):∀ fs:List (Str × V),f ∈ (cW f v fs).map (·.1)/\∀ g,g ∈ fs.map (·.1)->g ∈ (cW f v fs).map (·.1)
 | []=>⟨by simp [cW],fun g h=>by simp at h⟩
 | (k,x)::r=>by
  obtain ⟨i1,i2⟩:=hG f v r;rw [show cW f v ((k,x)::r)=(if k=f then (k,v)::r else (k,x)::cW f v r) from rfl];by_cases hk:k=f
  ·rw [yF hk]
   subst hk;exact ⟨by simp,fun g h=>by simpa using h⟩
  ·rw [yE hk]
   refine ⟨?_,fun g h=>?_⟩
   ·rw [zO]
    exact zQ _ i1
   ·rw [zO] at h ⊢
    rcases zT.mp h with e | e
    ·exact zT.mpr (.inl e)
    ·exact zQ _ (i2 g e)
theorem iR (f:Str) (v:V):∀ fs:List (Str × V),(cW f v fs).length <= fs.length + 1
 | []=>by simp [cW]
 | (k,x)::r=>by
  have ih:=iR f v r;rw [show cW f v ((k,x)::r)=(if k=f then (k,v)::r else (k,x)::cW f v r) from rfl];by_cases hk:k=f
  ·rw [yF hk,yQ,yQ];omega
  ·rw [yE hk,yQ,yQ];omega
theorem RelO.some_of {v:V}{o:Option Value} (r:RelO (some v) o):∃ u,o=some u/\RelV v u:=by
 cases o with
 | none=>exact (show False from r).elim
 | some u=>exact ⟨u,rfl,r⟩
theorem RelO.none_of {o:Option Value} (r:RelO none o):o=none:=by
 cases o with
 | none=>rfl
 | some u=>exact (show False from r).elim
theorem rg {v:V}{u:Value} (r:RelV v u):handedIn u=true:=by
 cases v with
 | non=>cases (show u=Value.none from r);rfl
 | bl b=>cases (show u=Value.bool b from r);rfl
 | int i=>obtain ⟨t,e⟩:=(show ∃ t,u=Value.int i t from r);cases e;rfl
 | str x=>obtain ⟨t,e⟩:=(show ∃ t,u=Value.str x t from r);cases e;rfl
 | byt b=>obtain ⟨t,e⟩:=(show ∃ t,u=Value.bytes b t from r);cases e;rfl
 | flt b=>obtain ⟨t,e⟩:=(show ∃ t,u=Value.float b t from r);cases e;rfl
 | ref a=>cases (show u=Value.ref a from r);rfl
 | ty n=>cases (show u=Value.type n from r);rfl
section
variable {P:Program}{w:World}{H H':Hp}{h h':Heap}{a C dx:Addr}{fs fs':List (Str × V)}
theorem iG (GJ:HOk P w H h) (e:H a=some (.ins C dx fs)):∃ mA,ObjM h a dx C mA/\(∀ f,RelO (fs.lookup f) (mA f))/\PySem.Within mA (fs.map (·.1))/\fs.length <= 1000/\H dx=some (.own a):=by
 obtain ⟨d,z,ne,ob,mA,n,r,q⟩:=(show ObjOk P w H h a (.ins C dx fs) from GJ a _ e);exact ⟨mA,⟨ob,n,ne⟩,r,q,z,d⟩
end
structure Cls (K:Frag) (C:Addr):Prop where
 pg:plainGet K C Str.empty=true
 hd:hasDictIn K C=true
 po:plainOver K C=true
 sa:findIn K (.ref C) "__setattr__"=some (some (.builtin "object.__setattr__"))
theorem Cls.get {K:Frag}{C:Addr} (c:Cls K C) (f:Str):plainGet K C f=true:=c.pg
def NoAttr (K:Frag) (C:Addr) (f:Str):Prop:=findIn K (.ref C) f=some none
theorem NoAttr.taker {K:Frag}{C:Addr}{f:Str} (n:NoAttr K C f):takerIn K C f=some none:=by
 unfold takerIn;rw [show findIn K (.ref C) f=some none from n];rfl
structure gR (K:Frag) (C:Addr) (m:Str) (f:Addr):Prop where
 at_:findIn K (.ref C) m=some (some (.ref f))
 fn:isFn K (.ref f)=true
 kp:keepIn K (.ref f)=true
section
variable {X:Cx}{GD:List (Addr × Obj)}{σ:St}{H:Hp}{s:Shared}{a C dx:Addr}{fs:List (Str × V)}{f:Str}{v:V}{A:Around}{E:Value->Shared->Prop}
theorem pC {b:Bool}{Q:Value->Shared->Prop} (I:Inv X GD σ H s) (e:H a=some (.ins C dx fs)) (c:Cls X.K C) (n:NoAttr X.K C f) (l:fs.lookup f=some v)
  (h:∀ u s',Inv X GD σ H s'->RelV v u->Q u s'):wpAny (model X.prog X.w) A (getAttr (.ref a) f b) Q E s:=by
 obtain ⟨mA,O,r,_,_,_⟩:=iG I.GJ e;obtain ⟨u,hu,ru⟩:=RelO.some_of (v:=v) (o:=mA f) (by rw [<- l];exact r f);exact xq I.kIn O (c.get f) c.hd n hu (rg ru) (h u _ (I.tok _) ru)
theorem gG {m:Str}{g:Addr}{pl:Sem Bool}{Q:Value × List Value->Shared->Prop} (I:Inv X GD σ H s) (e:H a=some (.ins C dx fs)) (c:Cls X.K C) (k:gR X.K C m g) (l:fs.lookup m=none)
  (h:Q (.ref g,[.ref a]) s):wpAny (model X.prog X.w) A (getMethod (.ref a) m pl) Q E s:=by
 obtain ⟨mA,O,r,_,_,_⟩:=iG I.GJ e;have hn:mA m=none:=RelO.none_of (by rw [<- l];exact r m);exact um I.kIn O (c.get m) k.at_ k.fn hn h
theorem oU {y:V}{u:Value}{Q:Unit->Shared->Prop} (I:Inv X GD σ H s) (e:H a=some (.ins C dx fs)) (c:Cls X.K C) (n:NoAttr X.K C f) (hl:fs.length < 1000) (ry:RelV y u)
  (h:∀ s',Inv X GD σ (am H a (.ins C dx (cW f y fs))) s'->Q () s'):wpAny (model X.prog X.w) A (setAttr (.ref a) f u) Q E s:=by
 obtain ⟨mA,O,r,wi,_,ho⟩:=iG I.GJ e;have hz:(fs.map (·.1)).length <= sizeLine:=by rw [zH,sizeLine_eq];omega
 refine vS I.kIn O c.sa c.po n.taker c.hd wi hz fun h' O' sb=>h _ ?_
 have hd:∃ o,h'.get? dx=some o:=let ⟨o,_,_,e',_⟩:=O'.ns;⟨o,e'⟩;refine I.write (x:=a) (e:=dx) (by rw [e];exact True.intro) (.inr ho) (fun b q hb z=>(sb.2 b hb).trans z) hd ?_;refine ⟨by rw [af O.ne];exact ho,?_,O.ne,O'.obj,_,O'.ns,fun g=>?_,fun g hg=>?_⟩
 ·have:=iR f y fs;omega
 ·show RelO ((cW f y fs).lookup g) (if g=f then some u else mA g)
  rw [iP];by_cases q:g=f
  ·rw [yF q,yF q];exact ry
  ·rw [yE q,yE q];exact r g
 ·by_cases q:g=f
  ·rw [q];exact (hG f y fs).1
  ·refine (hG f y fs).2 g (wi g fun z=>hg ?_)
   show (if g=f then some u else mA g)=none;rw [yE q];exact z
theorem Inv.made (I:Inv X GD σ H s):Inv X GD σ (am (am H s.heap.objs.size (.own (s.heap.objs.size + 1))) (s.heap.objs.size + 1) (.ins C s.heap.objs.size []))
  { s with heap:=(s.heap.push emptyDict).push (instObj C s.heap.objs.size) }:=by
 have e1:(s.heap.push emptyDict).get? s.heap.objs.size=some emptyDict:=zY s.heap rfl;have e2:((s.heap.push emptyDict).push (instObj C s.heap.objs.size)).get? (s.heap.objs.size + 1)=some (instObj C s.heap.objs.size):=by
  have:=zY (s.heap.push emptyDict) (o:=instObj C s.heap.objs.size) rfl
  rwa [Heap.size_push] at this
 have e3:(s.heap.push emptyDict).Ns s.heap.objs.size (fun _=>none):=⟨emptyDict,#[],_,e1,rfl,(fun e he=>absurd he (by simp)),fun _=>rfl⟩;have I1:=I.laid (a:=s.heap.objs.size) (o:=.own (s.heap.objs.size + 1)) (h':=s.heap.push emptyDict) (t':=s.toks) (fun b u q=>zG _ q) (zP _) ⟨_,e1⟩;refine I1.laid (a:=s.heap.objs.size + 1) (o:=.ins C s.heap.objs.size []) (t':=s.toks) (fun b u q=>zG _ q) (Nat.le_of_eq (Heap.size_push _ _)) ?_;have ne:s.heap.objs.size ≠ s.heap.objs.size + 1:=zU (Nat.lt_succ_self _);refine ⟨by rw [af ne,aE],Nat.zero_le _,ne,e2,fun _=>none,(Heap.Ns1.of_empty e3).at fun o q=>zG _ q,fun _=>True.intro,fun y hy=>absurd rfl hy⟩
theorem xD {prog:Program}{w:World}{env:Env}{e:Expr}{f:Str}{pos:Pos}{s:Shared}{Q:Value->Shared->Prop} (hb:attributeBase e f env (eval e env)=eval e env)
  (h:wpAny (model prog w) A (eval e env) (fun o s₁=>wpAny (model prog w) A (getAttr o f true) Q E s₁) E s):wpAny (model prog w) A (eval (.Attribute e f pos) env) Q E s :=
 Attribute_any_ h (by rw [arm_eval_Attribute,hb])
end
def Eu (K:Frag) (ta:TE) (f:Str):TE:=fun σ H Q=>ta σ H fun x H1=>∃ a C dx fs v,x=.ref a/\H1 a=some (.ins C dx fs)/\Cls K C/\NoAttr K C f/\fs.lookup f=some v/\Q v H1
def EA (K:Frag) (ta tv:TE) (f:Str):TS:=fun D σ H=>tv σ H fun y H1=>ta σ H1 fun x H2=>∃ a C dx fs,x=.ref a/\H2 a=some (.ins C dx fs)/\Cls K C/\NoAttr K C f/\fs.length < 1000 /\
 D.nx σ (am H2 a (.ins C dx (cW f y fs)))
section
variable {X:Cx}{o e value:Expr}{f:Str}{pos pos' tpos:Pos}{ta tv:TE}
theorem zo (he:PE X e ta) (hb:attributeBase e f X.env (eval e X.env)=eval e X.env):PE X (.Attribute e f pos) (Eu X.K ta f):=by
 intro GD s σ H Q I h;refine xD hb (aB (he GD s σ H _ I h) fun u s1 hq0=>?_);obtain ⟨x,H1,I1,rx,a,C,dx,fs,v,ex,ea,c,n,l,q⟩:=hq0;subst ex;obtain rfl:u=Value.ref a:=rx;exact pC I1 ea c n l fun u' s2 I2 ru=>⟨v,H1,I2,ru,q⟩
theorem yZ (ha:PE X o ta) (hv:PE X value tv) (hs:swapsWith value (some (.Attribute o f pos')) pos.line X.env=pure false):PS X (.Assign [.Attribute o f pos'] value pos) (EA X.K ta tv f):=by
 intro GD s σ H D I h;refine plainObj_wpAny_Assign_Attribute (aB (hv GD s σ H _ I h) fun u s1 ⟨y,H1,I1,ry,q⟩=>aB (ha GD s1 σ H1 _ I1 q) fun ov s2 hq0=>?_) hs;obtain ⟨x,H2,I2,rx,a,C,dx,fs,ex,ea,c,n,l,q2⟩:=hq0;subst ex;obtain rfl:ov=Value.ref a:=rx;exact oU I2 ea c n l ry fun s3 I3=>⟨σ,_,I3,q2⟩
theorem BB {pl:Sem Bool}{m:Str}{apos:Pos}{args:List Expr}{GD:List (Addr × Obj)}{s:Shared}{σ:St}{H:Hp}{Q:Value->Shared->Prop}{te:TE} (he:PE X e te) (I:Inv X GD σ H s)
  (h:te σ H fun x H1=>∃ a C dx fs g,x=.ref a/\H1 a=some (.ins C dx fs)/\Cls X.K C/\gR X.K C m g/\fs.lookup m=none /\
   ∀ s1,Inv X GD σ H1 s1->wpAny (model X.prog X.w) X.A (callWith pos (.ref g) [.ref a] (backTo pos (starEach args X.env)) (backToKw pos (keywordEach [] X.env))) Q X.xe s1)
  (ht:eval (.Call (.Attribute e m apos) args [] pos) X.env=(do
   let ov <- eval e X.env
   standAt apos.atName
   let (f,first) <- holding [ov] (getMethod ov m pl)
   callWith pos f first (backTo pos (starEach args X.env)) (backToKw pos (keywordEach [] X.env)))) :
  wpAny (model X.prog X.w) X.A (eval (.Call (.Attribute e m apos) args [] pos) X.env) Q X.xe s:=by
 refine methodCall_KW (pl:=pl) (aB (he GD s σ H _ I h) fun u s1 hq0=>?_) ht;obtain ⟨x,H1,I1,rx,a,C,dx,fs,g,ex,ea,c,k,l,q⟩:=hq0;subst ex;obtain rfl:u=Value.ref a:=rx;exact gG I1 ea c k l (q s1 I1)
end
section
variable {X:Cx}{GD:List (Addr × Obj)}{σ:St}{H:Hp}{s:Shared}{A:Around}{E:Value->Shared->Prop}{Q:Value->Shared->Prop}{c:Value}{b:Bool}
inductive TyOf (K:Frag) (H:Hp):V->Value->Prop where
 | non:TyOf K H .non (.type "NoneType")
 | bl (x:Bool):TyOf K H (.bl x) (.type "bool")
 | int (i:Int):TyOf K H (.int i) (.type "int")
 | str (x:Str):TyOf K H (.str x) (.type "str")
 | flt (x:UInt64):TyOf K H (.flt x) (.type "float")
 | lst {a:Addr}{xs:List V} (e:H a=some (.lst xs)):TyOf K H (.ref a) (.type "list")
 | frz {a:Addr}{o:Obj}{xs:List V} (e:H a=some (.frz o (.lst xs))):TyOf K H (.ref a) (.type "list")
 | tup {a:Addr}{xs:List V} (e:H a=some (.tup xs)):TyOf K H (.ref a) (.type "tuple")
 | dK {a:Addr}{GE:List (a0 × V)} (e:H a=some (.dK GE)):TyOf K H (.ref a) (.type "dict")
 | dT {a:Addr}{GE:List (List a0 × V)} (e:H a=some (.dT GE)):TyOf K H (.ref a) (.type "dict")
 | ins {a C dx:Addr}{fs:List (Str × V)} (e:H a=some (.ins C dx fs)) (cl:Cls K C) (ha:findIn K (.ref C) "__class__"=some (some (.builtin "object.__class__")))
   (hn:specialIn K (.builtin "object.__class__") "__get__"=some (some (.builtin "getset_descriptor.__get__"))) (htk:takesIn K (.builtin "object.__class__")=some true)
   (hm:mroIn K C (.type "object")=some true):TyOf K H (.ref a) (.ref C)
theorem fx {x:V}{u t:Value} (I:Inv X GD σ H s) (rx:RelV x u) (ty:TyOf X.K H x t) (e:kitOne X.K t c=some b) (h:∀ tk,Q (.bool b) { s with toks:=tk }) :
  wpAny (model X.prog X.w) A (call (.builtin "isinstance") [u,c]) Q E s:=by
 cases ty with
 | non=>cases (show u=Value.none from rx);exact kia_one kitx_none I.kIn True.intro e (fun z=>nomatch z) h
 | bl y=>cases (show u=Value.bool y from rx);exact kia_one kitx_bool I.kIn True.intro e (fun z=>nomatch z) h
 | int i=>obtain ⟨t,q⟩:=(show ∃ t,u=Value.int i t from rx);cases q;exact kia_one kitx_int I.kIn True.intro e (fun z=>nomatch z) h
 | str y=>obtain ⟨t,q⟩:=(show ∃ t,u=Value.str y t from rx);cases q;exact kia_one kitx_str I.kIn True.intro e (fun z=>nomatch z) h
 | flt y=>obtain ⟨t,q⟩:=(show ∃ t,u=Value.float y t from rx);cases q;exact kia_one kitx_float I.kIn True.intro e (fun z=>nomatch z) h
 | @lst a xs ea =>
  cases (show u=Value.ref a from rx);obtain ⟨_,_,n,_,h1⟩:=(show ObjOk X.prog X.w H s.heap a (.lst xs) from I.GJ a _ ea);exact kia_one kitx_list I.kIn ⟨_,h1,rfl⟩ e (fun z=>nomatch z) h
 | @frz a ob xs ea =>
  cases (show u=Value.ref a from rx);obtain ⟨_,_,_,n,_,h1⟩:=(show ObjOk X.prog X.w H s.heap a (.frz ob (.lst xs)) from I.GJ a _ ea);exact kia_one kitx_list I.kIn ⟨_,h1,rfl⟩ e (fun z=>nomatch z) h
 | @tup a xs ea =>
  cases (show u=Value.ref a from rx);obtain ⟨_,_,_,p⟩:=(show ObjOk X.prog X.w H s.heap a (.tup xs) from I.GJ a _ ea);obtain ⟨o,h1,h2,_⟩:=p;exact kia_one kitx_tuple I.kIn ⟨o,h1,h2⟩ e (fun z=>nomatch z) h
 | @dK a GE ea =>
  cases (show u=Value.ref a from rx);obtain ⟨_,_,vs,_,p⟩:=(show ObjOk X.prog X.w H s.heap a (.dK GE) from I.GJ a _ ea);obtain ⟨o,es,ep,h1,h2,_⟩:=p;exact kia_one kitx_dict I.kIn ⟨o,h1,h2.1⟩ e (fun z=>nomatch z) h
 | @dT a GE ea =>
  cases (show u=Value.ref a from rx);obtain ⟨_,_,xs,_,o,es,ep,h1,h2,_⟩:=(show ObjOk X.prog X.w H s.heap a (.dT GE) from I.GJ a _ ea);exact kia_one kitx_dict I.kIn ⟨o,h1,h2.1⟩ e (fun z=>nomatch z) h
 | @ins a C dx fs ea cl ha hn htk hm =>
  cases (show u=Value.ref a from rx);obtain ⟨mA,O,_⟩:=iG I.GJ ea;obtain ⟨od,J,_⟩:=O.look;exact kia_one (kitx_own (cl.get _) cl.hd ha hn htk hm) I.kIn J e (fun z=>nomatch z) h
end
structure Room (k:Nat) (A:Around):Prop where
 hd:A.handled=none
 dp:A.depth + 3 * k + 5 < recursionLimit
 un:A.units + 16 * k + 200 < cLine
 gd:A.guards=some []
theorem Room.mono {j k:Nat}{A:Around} (r:Room k A) (h:j <= k):Room j A:=⟨r.hd,by have:=r.dp;omega,by have:=r.un;omega,r.gd⟩
theorem Room.deeper {k:Nat}{A:Around} (r:Room (k + 1) A) (env:Env):Room k (A.deeper env) :=
 ⟨r.hd,by have:=r.dp;show A.depth + 1 + 3 * k + 5 < _;omega,by have:=r.un;show A.units + 3 + 16 * k + 200 < _;omega,r.gd⟩
theorem pi {A:Around}{C:Addr}{us:List Value}{kw:List (Str × Value)}:(A.under (.builtin "type.__call__" ⟨.ref C::us,kw⟩)).depth=A.depth + 1:=by
 first | rfl | simp [Around.under,Code.weight,Code.isCreation,Code.isGuard,Code.isCaller,Code.frames,Code.isFrame,guardIds]
theorem ph {A:Around}{C:Addr}{us:List Value}{kw:List (Str × Value)}:(A.under (.builtin "type.__call__" ⟨.ref C::us,kw⟩)).units=A.units + 1:=by
 first | rfl | simp [Around.under,Code.cUnits,Code.frames,Code.isFrame]
theorem nh {A:Around}{C:Addr}{us:List Value}{kw:List (Str × Value)}:(A.under (.builtin "type.__call__" ⟨.ref C::us,kw⟩)).guards=A.guards:=by
 first | rfl | simp [Around.under,Code.guards,Code.isGuard,guardIds,pushGuards]
theorem Room.make {k:Nat}{A:Around} (r:Room (k + 1) A) (C:Addr) (us:List Value) (kw:List (Str × Value)):Room k (A.under (.builtin "type.__call__" ⟨.ref C::us,kw⟩)) :=
 ⟨r.hd,by have:=r.dp;rw [pi];omega,by have:=r.un;rw [ph];omega,by rw [nh];exact r.gd⟩
theorem Room.depth {k:Nat}{A:Around} (r:Room k A):A.depth < recursionLimit:=by have:=r.dp;omega
theorem Room.units {k:Nat}{A:Around} (r:Room k A):A.units + 64 < cLine:=by have:=r.un;omega
noncomputable def sG:TA:=fun _ H Q=>Q [] H
noncomputable def BJ (ta:TE) (tr:TA):TA:=fun σ H Q=>ta σ H fun x H1=>tr σ H1 fun xs H2=>Q (x::xs) H2
section
variable {X:Cx}{e:Expr}{es:List Expr}{te:TE}{t:TA}{pos:Pos}
theorem qz:PA X [] sG:=fun _ _ _ _ H Q I h=>Calls.spliced_nil ⟨[],H,I,.nil,h⟩
theorem kA (ha:PE X e te) (hr:PA X es t) (hs:starEach (e::es) X.env=(false,eval e X.env)::starEach es X.env:=by rfl):PA X (e::es) (BJ te t):=by
 intro pos GD s σ H Q I h;rw [hs];show wpAny _ _ (spliced ((false,eval e X.env)::backTo pos (starEach es X.env))) _ _ s;refine Calls.spliced_cons (aB (ha GD s σ H _ I h) fun u s1 hq0=>?_);obtain ⟨x,H1,I1,r1,q1⟩:=hq0;exact aB (hr pos GD s1 σ H1 _ I1 q1) fun us s2 ⟨xs,H2,I2,r2,q2⟩=>⟨x::xs,H2,I2,.cons r1 r2,q2⟩
def El (t:TA):TE:=fun σ H Q=>t σ H fun xs H1=>xs.length <= sizeLine/\∀ p,H1 p=none->Q (.ref p) (am H1 p (.tup xs))
def Er (t:TA):TE:=fun σ H Q=>t σ H fun xs H1=>xs.length <= sizeLine/\∀ p,H1 p=none->Q (.ref p) (am H1 p (.lst xs))
theorem zj {x1} (h:PA X es t):PE X (.Tuple es x1 pos) (El t):=by
 intro GD s σ H Q I hq;refine wpAny_Tuple_spliced (aB (h pos GD s σ H _ I hq) fun us s1 ⟨xs,H1,I1,r,z,q⟩=>⟨by rw [<- r.length];exact z,?_⟩);have hf:H1 s1.heap.objs.size=none:=I1.GJ.fresh (zP _);refine ⟨.ref s1.heap.objs.size,am H1 s1.heap.objs.size (.tup xs),I1.laid (t':=s1.toks) (fun b u e=>zG _ e) (zP _) ?_,rfl,q _ hf⟩;exact ⟨z,us,r,⟨_,zY _ rfl,rfl,_,rfl⟩⟩
theorem qy (h:PA X es t):PE X (.List es pos) (Er t):=by
 intro GD s σ H Q I hq;refine wpAny_List_spliced (aB (h pos GD s σ H _ I hq) fun us s1 ⟨xs,H1,I1,r,z,q⟩=>⟨by rw [<- r.length];exact z,?_⟩);have hf:H1 s1.heap.objs.size=none:=I1.GJ.fresh (zP _);refine ⟨.ref s1.heap.objs.size,am H1 s1.heap.objs.size (.lst xs),I1.laid (t':=s1.toks) (fun b u e=>zG _ e) (zP _) ?_,rfl,q _ hf⟩;exact ⟨z,us,0,r,zY _ rfl⟩
end
abbrev Sp:=List V->Hp->VK->XK->Prop
abbrev ir:=List Env->Hp->Shared->XK->Value->Shared->Prop
structure Env0 (P:Program) (w:World) (K:Frag) (mg:Str->Option Value) (base:Heap) (A:Around) (outer:List Env) (s:Shared) (H:Hp):Prop where
 frames:A.frames=some outer
 mod:Mod K mg base
 bs:∀ b o,base.get? b=some o->s.heap.get? b=some o/\H b=none
 bsz:base.objs.size <= s.heap.objs.size
 funs:s.heap.FunFrames base outer
 frf:∀ b ∈ gf outer,H b=none
 GJ:HOk P w H s.heap
 bare:AllBare s.gens
def CE (outer:List Env) (P:Program) (w:World) (H:Hp) (s:Shared) (Q:VK) (u:Value) (s':Shared):Prop :=
 ∃ v H',s'.os=s.os/\AllBare s'.gens/\Un (gf outer) [] H H' s.heap s'.heap/\HOk P w H' s'.heap/\RelV v u/\Q v H'
def CR (CX:ir) (outer:List Env) (P:Program) (w:World) (H:Hp) (s:Shared) (Q:VK) (E:XK) (r:Result) (s':Shared):Prop :=
 match r with
 | .ok (.ret u)=>CE outer P w H s Q u s'
 | .ok _=>False
 | .error e=>CX outer H s E e s'
structure FnOk (P:Program) (w:World) (K:Frag) (mg:Str->Option Value) (base:Heap) (CX:ir) (k:Nat) (f:Addr) (fd:FuncData) (ps:List Str) (sp:Sp):Prop where
 len:∀ vs H Q E,sp vs H Q E->vs.length=ps.length
 run:∀ (A:Around) (outer:List Env) (s:Shared) (H:Hp) (args:Args) (us:List Value) (vs:List V) (Q:VK) (E:XK),Room k A->Env0 P w K mg base A outer s H->BindsTo s fd args (ps.zip us)->Vals vs us->sp vs H Q E ->
  codeAny (model P w) A (.call (.ref f) args) (CR CX outer P w H s Q E) s
theorem FnOk.mono {P:Program}{w:World}{K:Frag}{mg:Str->Option Value}{base:Heap}{CX:ir}{j k:Nat}{f:Addr}{fd:FuncData}{ps:List Str}{sp:Sp} (F:FnOk P w K mg base CX j f fd ps sp) (h:j <= k) :
  FnOk P w K mg base CX k f fd ps sp:=⟨F.len,fun A outer s H args us vs Q E hr=>F.run A outer s H args us vs Q E (hr.mono h)⟩
theorem FnOk.imp {P:Program}{w:World}{K:Frag}{mg:Str->Option Value}{base:Heap}{CX:ir}{k:Nat}{f:Addr}{fd:FuncData}{ps:List Str}{sp sp':Sp} (F:FnOk P w K mg base CX k f fd ps sp)
  (h:∀ vs H Q E,sp' vs H Q E->sp vs H Q E):FnOk P w K mg base CX k f fd ps sp' :=
 ⟨fun vs H Q E q=>F.len vs H Q E (h _ _ _ _ q),fun A outer s H args us vs Q E hr he hb hv hs=>F.run A outer s H args us vs Q E hr he hb hv (h _ _ _ _ hs)⟩
theorem Env0.make {P:Program}{w:World}{K:Frag}{mg:Str->Option Value}{base:Heap}{A:Around}{outer:List Env}{s:Shared}{H:Hp} (e:Env0 P w K mg base A outer s H) (C:Addr) (us:List Value) (kw:List (Str × Value)) :
  Env0 P w K mg base (A.under (.builtin "type.__call__" ⟨.ref C::us,kw⟩)) outer s H:=⟨by first | exact e.frames | (simpa [Around.under,Code.envs,Code.isFrame,pushEnvs] using e.frames),e.mod,e.bs,e.bsz,e.funs,e.frf,e.GJ,e.bare⟩
section
variable {X:Cx}{GD:List (Addr × Obj)}{σ:St}{H:Hp}{s s':Shared}
theorem Inv.env0 (I:Inv X GD σ H s):Env0 X.prog X.w X.K X.mg X.base X.A X.stack s H :=
 ⟨I.ok.frames,I.ok.mod,I.bs,z0 I.ok.bsz I.sz,I.stack,I.stkFree,I.GJ,I.bare⟩
theorem Inv.after {Q:VK}{u:Value} (I:Inv X GD σ H s) (h:CE X.stack X.prog X.w H s Q u s'):EP X GD σ Q u s':=by
 obtain ⟨v,H',os,bare,un,GJ,r,q⟩:=h;obtain ⟨hh,g,d,t,os'⟩:=s';obtain rfl:os'=s.os:=os;exact ⟨v,H',I.call (h':=hh) (g':=g) (d':=d) (t':=t) (ch:=[]) un GJ bare (fun b z=>absurd z (by simp)),r,q⟩
end
noncomputable def oS (sp:Sp) (dvs:List V) (E:XK) (t:TA):TE:=fun σ H Q=>t σ H fun vs H1=>sp (vs++dvs) H1 Q E
def oR (C:Addr) (m:Str) (sp:Sp) (dvs:List V) (E:XK) (ta:TE) (t:TA):TE:=fun σ H Q=>ta σ H fun x H1=>∃ a dx fs,x=.ref a/\H1 a=some (.ins C dx fs)/\fs.lookup m=none /\
 t σ H1 fun vs H2=>sp (x::(vs++dvs)) H2 Q E
def uL (C:Addr) (sp:Sp) (dvs:List V) (E:XK) (t:TA):TE:=fun σ H Q=>t σ H fun vs H1=>∀ x dx,H1 x=none->H1 dx=none->dx ≠ x ->
 sp (.ref x::(vs++dvs)) (am (am H1 dx (.own x)) x (.ins C dx [])) (fun v H2=>v=.non/\Q (.ref x) H2) E
def Binds (K:Frag) (fd:FuncData) (ps:List Str) (ds:List Value):Prop :=
 ∀ (s:Shared) (us:List Value),K.In s.heap->(us++ds).length=ps.length->BindsTo s fd ⟨us,[]⟩ (ps.zip (us++ds))
theorem Binds.all {K:Frag}{fd:FuncData}{ps:List Str} (h:∀ us:List Value,us.length=ps.length->bindArgs fd ⟨us,[]⟩=pure (ps.zip us)):Binds K fd ps []:=fun s us _ hl=>by
 rw [List.append_nil] at hl ⊢;exact .of_eq (h us hl)
def er (CX:ir) (X:Cx) (E:XK):Prop:=∀ (GD:List (Addr × Obj)) (σ:St) (H:Hp) (s:Shared) (e:Value) (s':Shared),Inv X GD σ H s->CX X.stack H s E e s'->X.xe e s'
section
variable {X:Cx}{CX:ir}{k:Nat}{f C:Addr}{fd:FuncData}{ps:List Str}{sp:Sp}{dvs:List V}{ds:List Value}{E:XK}{x m:Str}{p pos apos:Pos}{e o:Expr}{es:List Expr}{ta:TE}{t:TA}
theorem jB {GD:List (Addr × Obj)}{σ:St}{H:Hp}{s:Shared}{Q:VK}{us:List Value}{vs:List V} (F:FnOk X.prog X.w X.K X.mg X.base CX k f fd ps sp) (hr:Room k X.A) (hb:Binds X.K fd ps ds) (hd:Vals dvs ds) (hx:er CX X E)
  (I:Inv X GD σ H s) (r:Vals vs us) (h:sp (vs++dvs) H Q E):wpAny (model X.prog X.w) X.A (call (.ref f) us) (EP X GD σ Q) X.xe s:=by
 have r2:Vals (vs++dvs) (us++ds):=r.append hd;have hl:(us++ds).length=ps.length:=by rw [<- r2.length];exact F.len _ _ _ _ h
 refine wpAny_call (codeAny_mono (F.run X.A X.stack s H ⟨us,[]⟩ (us++ds) (vs++dvs) Q E hr I.env0 (hb s us I.kIn hl) r2 h) fun r s' hq=>?_);cases r with
 | error e=>exact hx GD σ H s e s' I hq
 | ok fl =>
  cases fl with
  | ret u=>exact I.after hq
  | next=>exact False.elim hq
  | brk=>exact False.elim hq
  | cont=>exact False.elim hq
theorem wz (F:FnOk X.prog X.w X.K X.mg X.base CX k f fd ps sp) (hr:Room k X.A) (hg:Gl X x) (hm:X.mg x=some (.ref f)) (hk:keepIn X.K (.ref f)=true) (hb:Binds X.K fd ps ds) (hd:Vals dvs ds) (hx:er CX X E)
  (ha:PA X (e::es) t) (hdb:(x == ("__debug__":Str))=false:=by decide) (he:starEach (e::es) X.env=(false,eval e X.env)::starEach es X.env:=by rfl) (hpl:(backTo pos (starEach es X.env)).any (·.1)=false:=by rfl) :
  PE X (.Call (.Name x p) (e::es) [] pos) (oS sp dvs E t):=by
 intro GD s σ H Q I h;refine wpAny_Call_Name_kw (iC I hg hm ?_ hdb);refine callWith_K (h₀:=X.base) I.ok.mod.kin hk (aB (ha pos GD s σ H _ I h) fun us s1 ⟨vs,H1,I1,r,q⟩=>⟨I1.kIn,?_⟩) he hpl;exact jB F hr hb hd hx I1 r q
theorem tN (F:FnOk X.prog X.w X.K X.mg X.base CX k f fd ps sp) (hr:Room k X.A) (hg:Gl X x) (hm:X.mg x=some (.ref f)) (hk:keepIn X.K (.ref f)=true) (hb:Binds X.K fd ps ds) (hd:Vals dvs ds) (hx:er CX X E)
  (hdb:(x == ("__debug__":Str))=false:=by decide):PE X (.Call (.Name x p) [] [] pos) (oS sp dvs E sG):=by
 intro GD s σ H Q I h;refine wpAny_Call_Name_kw (iC I hg hm ?_ hdb);exact PySem.W.callWith_K0 I.kIn hk (jB (us:=[]) F hr hb hd hx I .nil h)
theorem wv {pl:Sem Bool} (he:PE X o ta) (c:Cls X.K C) (hm:gR X.K C m f) (F:FnOk X.prog X.w X.K X.mg X.base CX k f fd ps sp) (hr:Room k X.A) (hb:Binds X.K fd ps ds) (hd:Vals dvs ds) (hx:er CX X E) (ha:PA X (e::es) t)
  (hst:starEach (e::es) X.env=(false,eval e X.env)::starEach es X.env:=by rfl) (hpl:(backTo pos (starEach es X.env)).any (·.1)=false:=by rfl)
  (ht:eval (.Call (.Attribute o m apos) (e::es) [] pos) X.env=(do
   let ov <- eval o X.env
   standAt apos.atName
   let (f,first) <- holding [ov] (getMethod ov m pl)
   callWith pos f first (backTo pos (starEach (e::es) X.env)) (backToKw pos (keywordEach [] X.env))):=by rfl) :
  PE X (.Call (.Attribute o m apos) (e::es) [] pos) (oR C m sp dvs E ta t):=by
 intro GD s σ H Q I h;refine methodCall_KW (pl:=pl) (aB (he GD s σ H _ I h) fun u s1 hq0=>?_) ht;obtain ⟨x,H1,I1,rx,a,dx,fs,ex,ea,l,q⟩:=hq0;subst ex;obtain rfl:u=Value.ref a:=rx;refine gG I1 ea c hm l ?_;refine callWith_K (first:=[.ref a]) (h₀:=X.base) I.ok.mod.kin hm.kp (aB (ha pos GD s1 σ H1 _ I1 q) fun us s2 ⟨vs,H2,I2,r,q2⟩=>⟨I2.kIn,?_⟩) hst hpl;exact jB (us:=.ref a::us) (vs:=.ref a::vs) F hr hb hd hx I2 (.cons rfl r) q2
theorem tJ {pl:Sem Bool} (he:PE X o ta) (c:Cls X.K C) (hm:gR X.K C m f) (F:FnOk X.prog X.w X.K X.mg X.base CX k f fd ps sp) (hr:Room k X.A) (hb:Binds X.K fd ps ds) (hd:Vals dvs ds) (hx:er CX X E)
  (ht:eval (.Call (.Attribute o m apos) [] [] pos) X.env=(do
   let ov <- eval o X.env
   standAt apos.atName
   let (f,first) <- holding [ov] (getMethod ov m pl)
   callWith pos f first (backTo pos (starEach [] X.env)) (backToKw pos (keywordEach [] X.env))):=by rfl) :
  PE X (.Call (.Attribute o m apos) [] [] pos) (oR C m sp dvs E ta sG):=by
 intro GD s σ H Q I h;refine methodCall_KW (pl:=pl) (aB (he GD s σ H _ I h) fun u s1 hq0=>?_) ht;obtain ⟨x,H1,I1,rx,a,dx,fs,ex,ea,l,q⟩:=hq0;subst ex;obtain rfl:u=Value.ref a:=rx;refine gG I1 ea c hm l ?_;exact PySem.W.callWith_K0 (first:=[.ref a]) I1.kIn hm.kp (jB (us:=[.ref a]) (vs:=[.ref a]) F hr hb hd hx I1 (.cons rfl .nil) q)
structure Mk (K:Frag) (C f:Addr):Prop where
 makes:makesIn K C=true
 init:findIn K (.ref C) "__init__"=some (some (.ref f))
 fn:isFn K (.ref f)=true
 kp:keepIn K (.ref C)=true
theorem sS {GD:List (Addr × Obj)}{σ:St}{H:Hp}{s:Shared}{Q:VK}{us:List Value}{vs:List V} (M:Mk X.K C f) (F:FnOk X.prog X.w X.K X.mg X.base CX k f fd ps sp) (hr:Room (k + 1) X.A) (hb:Binds X.K fd ps ds) (hd:Vals dvs ds)
  (hx:er CX X E) (I:Inv X GD σ H s) (r:Vals vs us)
  (h:∀ x dx,H x=none->H dx=none->dx ≠ x->sp (.ref x::(vs++dvs)) (am (am H dx (.own x)) x (.ins C dx [])) (fun v H2=>v=.non/\Q (.ref x) H2) E) :
  wpAny (model X.prog X.w) X.A (call (.ref C) us) (EP X GD σ Q) X.xe s:=by
 have hq:=h (s.heap.objs.size + 1) s.heap.objs.size (I.GJ.fresh (Nat.le_succ _)) (I.GJ.fresh (zP _)) (zU (Nat.lt_succ_self _));have I2:=Inv.made (C:=C) I;have r2:Vals (V.ref (s.heap.objs.size + 1)::(vs++dvs)) (Value.ref (s.heap.objs.size + 1)::(us++ds)):=.cons rfl (r.append hd);have hl:(Value.ref (s.heap.objs.size + 1)::us++ds).length=ps.length:=by
  have e:=r2.length;rw [F.len _ _ _ _ hq] at e;exact e.symm
 refine wpAny_call (t8 (f:=f) I.kIn M.makes M.init (beq_iff_eq.mp M.fn) (codeAny_mono (F.run _ X.stack _ _ ⟨Value.ref (s.heap.objs.size + 1)::us,[]⟩ (Value.ref (s.heap.objs.size + 1)::(us++ds)) _ _ E (hr.make C us [])
  (I2.env0.make C us []) (hb _ (Value.ref (s.heap.objs.size + 1)::us) I2.kIn hl) r2 hq) fun r s' hq'=>?_))
 cases r with
 | error e=>exact hx GD σ _ _ e s' I2 hq'
 | ok fl =>
  cases fl with
  | ret u =>
   obtain ⟨v,H',I3,rv,ev,q3⟩:=I2.after hq';subst ev;exact ⟨rv,⟨V.ref (s.heap.objs.size + 1),H',I3,rfl,q3⟩⟩
  | next=>exact False.elim hq'
  | brk=>exact False.elim hq'
  | cont=>exact False.elim hq'
theorem ww (M:Mk X.K C f) (F:FnOk X.prog X.w X.K X.mg X.base CX k f fd ps sp) (hr:Room (k + 1) X.A) (hg:Gl X x) (hm:X.mg x=some (.ref C)) (hb:Binds X.K fd ps ds) (hd:Vals dvs ds) (hx:er CX X E)
  (ha:PA X (e::es) t) (hdb:(x == ("__debug__":Str))=false:=by decide) (he:starEach (e::es) X.env=(false,eval e X.env)::starEach es X.env:=by rfl) (hpl:(backTo pos (starEach es X.env)).any (·.1)=false:=by rfl) :
  PE X (.Call (.Name x p) (e::es) [] pos) (uL C sp dvs E t):=by
 intro GD s σ H Q I h;refine wpAny_Call_Name_kw (iC I hg hm ?_ hdb);refine callWith_K (h₀:=X.base) I.ok.mod.kin M.kp (aB (ha pos GD s σ H _ I h) fun us s1 ⟨vs,H1,I1,r,q⟩=>⟨I1.kIn,?_⟩) he hpl;exact sS M F hr hb hd hx I1 r q
end
structure iN (N P:List Str) (sc:Scope):Prop where
 kind:sc.kind=.function
 co:sc.isCoroutine=false
 gen:sc.isGenerator=false
 nd:N.Nodup
 pre:N.take P.length=P
 par:∀ x ∈ P,sc.names.lookup x=some .local\/sc.names.lookup x=some .cell
 nofree:∀ y ∈ sc.names,y.2 ≠ .free
theorem lx {kindOf:Str->Option NameKind}{x:Str}:∀ {binds:List (Str × Value)}{m:Str->Option Value},(∀ v,(x,v) ∉ binds)->bindL kindOf binds m x=m x
 | [],_,_=>rfl
 | (n,v)::r,m,h=>by
  unfold bindL;rw [lx fun w hw=>h w (zQ _ hw)];split
  ·have:x ≠ n:=by rintro rfl;exact h v z4
   simp [this]
  ·rfl
theorem lz {kindOf:Str->Option NameKind}{x:Str}:∀ {binds:List (Str × Value)}{m:Str->Option Value},(∀ v,(x,v) ∉ binds)->bindC kindOf binds m x=m x
 | [],_,_=>rfl
 | (n,v)::r,m,h=>by
  unfold bindC;rw [lz fun w hw=>h w (zQ _ hw)];split
  ·rfl
  ·have:x ≠ n:=by rintro rfl;exact h v z4
   simp [this]
theorem ly {kindOf:Str->Option NameKind}{x:Str}{v:Value}:∀ {P:List Str}{vs:List Value}{i:Nat}{m:Str->Option Value},P.Nodup->P[i]?=some x->vs[i]?=some v->kindOf x=some .local ->
  bindL kindOf (P.zip vs) m x=some v
 | [],_,_,_,_,h,_,_=>by simp at h
 | _::_,[],_,_,_,_,h,_=>by simp at h
 | p::P,w::vs,0,m,nd,h1,h2,hk=>by
  simp at h1 h2;subst h1;subst h2;show bindL kindOf ((p,w)::P.zip vs) m p=_;unfold bindL;rw [lx fun v hv=>(List.nodup_cons.mp nd).1 (List.of_mem_zip hv).1,yF hk];simp
 | p::P,w::vs,i + 1,m,nd,h1,h2,hk=>by
  show bindL kindOf ((p,w)::P.zip vs) m x=_;unfold bindL;exact ly (i:=i) (List.nodup_cons.mp nd).2 (by simpa using h1) (by simpa using h2) hk
theorem lA {kindOf:Str->Option NameKind}{x:Str}{v:Value}:∀ {P:List Str}{vs:List Value}{i:Nat}{m:Str->Option Value},P.Nodup->P[i]?=some x->vs[i]?=some v->kindOf x ≠ some .local ->
  bindC kindOf (P.zip vs) m x=some v
 | [],_,_,_,_,h,_,_=>by simp at h
 | _::_,[],_,_,_,_,h,_=>by simp at h
 | p::P,w::vs,0,m,nd,h1,h2,hk=>by
  simp at h1 h2;subst h1;subst h2;show bindC kindOf ((p,w)::P.zip vs) m p=_;unfold bindC;rw [lz fun v hv=>(List.nodup_cons.mp nd).1 (List.of_mem_zip hv).1,yE hk];simp
 | p::P,w::vs,i + 1,m,nd,h1,h2,hk=>by
  show bindC kindOf ((p,w)::P.zip vs) m x=_;unfold bindC;exact lA (i:=i) (List.nodup_cons.mp nd).2 (by simpa using h1) (by simpa using h2) hk
def start (N:List Str) (vs:List V):St:=vs.map some++List.replicate (N.length - vs.length) none
def kL (CX:ir) (P:Program) (w:World) (K:Frag) (mg:Str->Option Value) (base:Heap) (N:List Str) (qual:Str) (scope:Scope) (f:Addr) (cd:Value) (A:Around) (outer:List Env) (s:Shared) (H:Hp) (E:XK):Cx where
 prog:=P
 w:=w
 K:=K
 mg:=mg
 base:=base
 A:=A.deeper (envOfC qual scope s.heap.objs.size f cd)
 N:=N
 s₀:=s
 H₀:=H
 env:=envOfC qual scope s.heap.objs.size f cd
 outer:=outer
 stack:=envOfC qual scope s.heap.objs.size f cd::outer
 ex:=[]
 calm:=true
 fn:=fun _=>true
 pn:=[]
 xe:=fun e s'=>wpAny (model P w) (A.deeper (envOfC qual scope s.heap.objs.size f cd)) (leaving (envOfC qual scope s.heap.objs.size f cd) e) (fun _ s''=>CX outer H s E e s'') (fun e' s''=>CX outer H s E e' s'') s'
theorem mP {sc:Scope}{n:Nat}{x:Str} (h:sc.names.lookup x=some .cell):∃ c,(cellsFrom n sc.names []).lookup x=some c:=by
 have q:=cellsFrom_some sc.names n [] (.inl h);exact Option.isSome_iff_exists.mp q
theorem q9 {CX:ir}{P:Program}{w:World}{K:Frag}{mg:Str->Option Value}{base:Heap}{N ps:List Str}{qual:Str}{scope:Scope}{f:Addr}{cd:Value}{A:Around}{outer:List Env}{s s1:Shared}{H:Hp}{E:XK}{us:List Value}{vs:List V}
  (S:iN N ps scope) (hd:A.handled=none) (e0:Env0 P w K mg base A outer s H) (hl:vs.length=ps.length) (r:Vals vs us)
  (x:InCallC s s.heap.objs.size (bindL (envOfC qual scope s.heap.objs.size f cd).kindOf (ps.zip us) fun _=>none) (cellsFrom (s.heap.objs.size + 1) scope.names []) (bindC (envOfC qual scope s.heap.objs.size f cd).kindOf (ps.zip us) fun _=>none) s1) :
  Inv (kL CX P w K mg base N qual scope f cd A outer s H E) [] (start N vs) H s1:=by
 have hpl:ps.length <= N.length:=by have:=congrArg List.length S.pre;rw [List.length_take] at this;omega
 obtain ⟨h1,tk,rfl,hk⟩:=x.done;have noA:∀ b:Addr,b ∉ (kL CX P w K mg base N qual scope f cd A outer s H E).ex:=fun b z=>absurd (show b ∈ ([]:List Addr) from z) (by simp)
 refine ⟨⟨e0.mod,S.kind,rfl,rfl,zP _,fun y z c h1 h2=>?_,fun y hy=>?_,fun y c _ h=>?_,fun _=>hd,Around.frames_deeper e0.frames,.inr ⟨rfl,rfl⟩,fun b z=>absurd z (noA b),e0.bs,e0.bsz,fun b _ _=>noA b,fun b z=>absurd z (noA b),e0.funs,e0.frf⟩,
  rfl,e0.bare,Un.kept hk,⟨_,x.toInCall.ns,fun i y v h1 h2 h3=>?_⟩,fun y c h=>⟨_,x.cell y c h⟩,e0.GJ.fresh (zP _),fun y c h=>?_,fun p hp=>absurd (show p ∈ ([]:List (Addr × Obj)) from hp) (by simp),e0.GJ.kept hk,?_⟩
 ·exact name_of_addr x.apart (PySem.mem_of_lookup h1) (PySem.mem_of_lookup h2)
 ·have hy:scope.names.lookup y=some .cell\/scope.names.lookup y=some .free:=hy
  rcases hy with hy | hy
  ·exact mP hy
  ·exact absurd rfl (S.nofree _ (PySem.mem_of_lookup hy))
 ·exact yR (x.above y c (PySem.mem_of_lookup h))
 ·have hi:i < vs.length:=by
   unfold start at h2;by_cases hi:i < vs.length
   ·exact hi
   ·rw [z3 (by simpa using hi)] at h2
    rw [List.getElem?_replicate] at h2;split at h2 <;> cases h2
  have ha:vs[i]?=some v:=by
   unfold start at h2;rw [zN (by simpa using hi),zR] at h2;cases e:vs[i]? with
   | none=>rw [e] at h2;cases h2
   | some a=>rw [e] at h2;cases h2;rfl
  obtain ⟨u,hu,rv⟩:=r.get ha;have hp:ps[i]?=some y:=by
   rw [<- S.pre,List.getElem?_take_of_lt oM];exact h1
  have ndP:ps.Nodup:=by rw [<- S.pre];exact S.nd.sublist (List.take_sublist _ _)
  refine ⟨u,rv,?_⟩;rcases S.par y (zW hp) with k | k
  ·exact .inl ⟨k,ly ndP hp hu k⟩
  ·obtain ⟨c,e⟩:=mP (n:=s.heap.objs.size + 1) k
   refine .inr ⟨.inl k,c,e,?_⟩;have q:=x.cell y c e;rw [lA ndP hp hu (by show scope.names.lookup y ≠ _;rw [k];decide)] at q;exact q
 ·exact e0.GJ.fresh (yR (x.above y c (PySem.mem_of_lookup h)))
 ·unfold start
  show _=N.length;rw [zV,zH,List.length_replicate];omega
theorem CS {CX:ir}{P:Program}{w:World}{K:Frag}{mg:Str->Option Value}{base:Heap}{k:Nat}{f:Addr}{name qual:Str}{params:Arguments}{body:List Stmt}{scope:Scope}{dV kV doc pm cdv ct oc:Value}{an od:Option Addr}
  {osl:Array (Option Value)}{N ps:List Str}{sp:Sp} (lk:K.lookup f=some ⟨oc,od,.func (fnOf name qual params body scope dV kV doc pm an cdv ct),osl⟩) (hcd:codeIn K cdv qual=true) (S:iN N ps scope)
  (len:∀ vs H Q E,sp vs H Q E->vs.length=ps.length)
  (hbody:∀ (A:Around) (outer:List Env) (s:Shared) (H:Hp) (vs:List V) (Q:VK) (E:XK),Room k (A.deeper (envOfC qual scope s.heap.objs.size f cdv))->sp vs H Q E ->
   ∃ t,PSs (kL CX P w K mg base N qual scope f cdv A outer s H E) body t/\t { nx:=fun _ H'=>Q .non H',rt:=Q } (start N vs) H) :
  FnOk P w K mg base CX (k + 1) f (fnOf name qual params body scope dV kV doc pm an cdv ct) ps sp:=by
 refine ⟨len,fun A outer s H args us vs Q E hr e0 hb r hsp=>?_⟩;have hl:=len _ _ _ _ hsp;have KX:K.In s.heap:=e0.mod.kin.keeps fun b o e=>(e0.bs b o e).1
 have lim:s.heap.NoLimit:=e0.mod.nolimit.keeps fun b o e=>(e0.bs b o e).1
 have hkind:∀ y ∈ ps.zip us,scope.names.lookup y.1=some .local\/(scope.names.lookup y.1=some .cell/\((cellsFrom (s.heap.objs.size + 1) scope.names []).lookup y.1).isSome=true):=fun hq0 hy=>by
  obtain ⟨n,v⟩:=hq0;rcases S.par n (List.of_mem_zip hy).1 with q | q
  ·exact .inl q
  ·exact .inr ⟨q,cellsFrom_some _ _ _ (.inl q)⟩
 refine codeAny_call_function hr.depth (KX _ _ lk) rfl S.co S.gen rfl (codeRec_of KX hcd) (hb _ _ _ _ ?_);refine wpAny_newFunctionEnv_cells S.kind hkind fun env he s1 x=>?_
 subst he;refine ⟨lim.keeps x.toInCall.keep,codeAny_func ?_⟩;obtain ⟨t,ht,hq⟩:=hbody A outer s H vs Q E (hr.deeper _) hsp;have I:Inv (kL CX P w K mg base N qual scope f cdv A outer s H E) [] (start N vs) H s1:=q9 S hr.hd e0 hl r x;refine yN (ht [] s1 (start N vs) H _ I hq) (fun fl s' hs=>?_) fun e s' hs=>hs
 have aw:∀ {σ':St}{H':Hp}{v:V}{u:Value},Inv (kL CX P w K mg base N qual scope f cdv A outer s H E) [] σ' H' s'->RelV v u->Q v H'->CE outer P w H s Q u s' :=
  fun {σ' H' v u} J rv q=>⟨v,H',J.os,J.bare,J.base,J.GJ,rv,q⟩
 cases fl with
 | ret u =>
  obtain ⟨v,σ',H',J,rv,q⟩:=hs;exact aw J rv q
 | next =>
  obtain ⟨σ',H',J,q⟩:=hs;exact aw (v:=V.non) (u:=Value.none) J rfl q
 | brk =>
  obtain ⟨_,_,_,q⟩:=hs;exact False.elim q
 | cont =>
  obtain ⟨_,_,_,q⟩:=hs;exact False.elim q
section
variable {X:Cx}{x:Str}{p pos:Pos}{e:Expr}{es:List Expr}{t:TA}{id T:String}{r:List V->Hp->VK->Prop}
def xY (r:List V->Hp->VK->Prop) (t:TA):TE:=fun σ H Q=>t σ H fun vs H1=>r vs H1 Q
theorem mi (hc:bU X (.builtin id) r) (hg:Gl X x) (hm:X.mg x=none) (hv:bootBuiltins x=some (.builtin id)) (ha:PA X (e::es) t) (hn:x ≠ "__name__":=by decide) (hdb:(x == ("__debug__":Str))=false:=by decide)
  (he:starEach (e::es) X.env=(false,eval e X.env)::starEach es X.env:=by rfl) (hpl:(backTo pos (starEach es X.env)).any (·.1)=false:=by rfl):PE X (.Call (.Name x p) (e::es) [] pos) (xY r t):=by
 intro GD s σ H Q I h;refine wpAny_Call_Name_kw (d8 I hg hm hv ?_ hn hdb);exact PyProof.Rows.callWith_builtin1 (aB (ha pos GD s σ H _ I h) fun us s1 ⟨vs,H1,I1,r1,q1⟩=>hc GD s1 σ H1 vs us Q I1 r1 q1) he hpl
theorem k6 (hc:bU X (.type T) r) (hg:Gl X x) (hm:X.mg x=none) (hv:bootBuiltins x=some (.type T)) (ha:PA X (e::es) t) (hn:x ≠ "__name__":=by decide) (hdb:(x == ("__debug__":Str))=false:=by decide)
  (he:starEach (e::es) X.env=(false,eval e X.env)::starEach es X.env:=by rfl) (hpl:(backTo pos (starEach es X.env)).any (·.1)=false:=by rfl):PE X (.Call (.Name x p) (e::es) [] pos) (xY r t):=by
 intro GD s σ H Q I h;refine wpAny_Call_Name_kw (d8 I hg hm hv ?_ hn hdb);exact PyProof.Rows.callWith_type1 (aB (ha pos GD s σ H _ I h) fun us s1 ⟨vs,H1,I1,r1,q1⟩=>hc GD s1 σ H1 vs us Q I1 r1 q1) he hpl
end
end L2
namespace HT
open PySem PyProof.Rows
theorem rcLt_int (A:Around) (s:Shared) (a:Int) (t:Tok) (c:Int) (u:Tok) (prog:Program) (w:World) (E:Value->Shared->Prop) (Q:Value->Shared->Prop) (h:Q (.bool (decide (a < c))) s) :
  wpAny (model prog w) A (richCompare .Lt (.int a t) (.int c u)) Q E s :=
 (PyProof.Rows.lt_int h:wpAny (model prog w) A (compareOp .Lt (.int a t) (.int c u)) Q E s)
section
variable {prog:Program}{w:World}{A:Around}{E:Value->Shared->Prop}{s:Shared}
noncomputable def GQ (n d:Nat):Option Int->Nat
 | none=>d
 | some v=>if v < 0 then (v + (n:Int)).toNat else min v.toNat n
end
end HT
namespace L2
open PySem PySem.Spec PyProof.Rows
abbrev TO:=St->Hp->(Option Int->Hp->Prop)->Prop
def PO (X:Cx) (e:Option Expr) (t:TO):Prop :=
 ∀ (GD:List (Addr × Obj)) (s:Shared) (σ:St) (H:Hp) (Q:Option Int->Hp->Prop),Inv X GD σ H s->t σ H Q ->
  wpAny (model X.prog X.w) X.A (evalPart e X.env) (fun u s'=>∃ o H',Inv X GD σ H' s'/\IsPart u o/\Q o H') X.xe s
noncomputable def vO:TO:=fun _ H Q=>Q none H
noncomputable def BE (t:TE):TO:=fun σ H Q=>t σ H fun x H1=>∃ i,x=.int i/\Q (some i) H1
theorem gF {ns:List Int}:∀ {us:List Value},Vals (ns.map V.int) us->IntsAre us ns:=by
 induction ns with
 | nil=>intro us r;rw [List.map_nil] at r;cases r;exact .nil
 | cons n ns ih =>
  intro us r;rw [zO] at r;cases r with
  | cons r1 r2 =>
   obtain ⟨t,e⟩:=r1;subst e;exact .cons n t (ih r2)
section
variable {X:Cx}{e:Expr}{te:TE}{lo hi:Option Expr}{tl th:TO}{pos p2:Pos}
theorem wg:PO X none vO:=by
 intro GD s σ H Q I h;rw [evalPart_none];exact yD ⟨none,H,I,.none,h⟩
theorem wf (h:PE X e te):PO X (some e) (BE te):=by
 intro GD s σ H Q I hw;rw [evalPart_some];refine aB (h GD s σ H _ I hw) fun u s1 hq0=>?_
 obtain ⟨x,H1,I1,r1,q1⟩:=hq0;obtain ⟨i,rfl,q⟩:=q1;obtain ⟨t,rfl⟩:=r1;exact ⟨some i,H1,I1,.int i t,q⟩
def GL (X:Cx) (r:V->Option Int->Option Int->Hp->VK->Prop):Prop :=
 ∀ (GD:List (Addr × Obj)) (s:Shared) (σ:St) (H:Hp) (x:V) (v vl vu:Value) (lo hi:Option Int) (sl:Addr) (Q:VK),Inv X GD σ H s->RelV x v->s.heap.IsSliceOf sl vl vu .none->IsPart vl lo->IsPart vu hi->r x lo hi H Q ->
  ∃ T id,typeLookup (.type T) "__getitem__"=pure (some (.builtin id))/\s.TypeIs v T/\wpAny (model X.prog X.w) X.A (getItem v (.ref sl)) (EP X GD σ Q) X.xe s
def Do (r:V->Option Int->Option Int->Hp->VK->Prop) (te:TE) (tl th:TO):TE:=fun σ H Q=>te σ H fun x H1=>tl σ H1 fun l H2=>th σ H2 fun u H3=>r x l u H3 Q
theorem tI {r:V->Option Int->Option Int->Hp->VK->Prop} (hr:GL X r) (he:PE X e te) (hl:PO X lo tl) (hu:PO X hi th):PE X (.Subscript e (.Slice lo hi none p2) pos) (Do r te tl th):=by
 intro GD s σ H Q I h;refine Subscript_ (aB (he GD s σ H _ I h) fun v s1 hq0=>?_);obtain ⟨x,H1,I1,r1,q1⟩:=hq0;refine wpAny_Slice (aB (hl GD s1 σ H1 _ I1 q1) fun vl s2 ⟨l,H2,I2,pl,q2⟩=>aB (hu GD s2 σ H2 _ I2 q2) fun vu s3 hq0=>?_);obtain ⟨u,H3,I3,pu,q3⟩:=hq0;rw [evalPart_none];refine yD ?_;have I4:Inv X GD σ H3 { s3 with heap:=s3.heap.push { cls:=.type "slice",data:=.fields #[vl,vu,.none] } }:=I3.kept (t':=s3.toks) fun b ob q=>zG _ q
 obtain ⟨T,id,hT,ht,hg⟩:=hr GD { s3 with heap:=s3.heap.push { cls:=.type "slice",data:=.fields #[vl,vu,.none] } } σ H3 x v vl vu l u s3.heap.objs.size Q I4 r1 (Heap.IsSliceOf.new ..) pl pu q3;show wpAny (model X.prog X.w) X.A (subscriptTail e (.Slice lo hi none p2) v (.ref s3.heap.objs.size)) (EP X GD σ Q) X.xe { s3 with heap:=s3.heap.push { cls:=.type "slice",data:=.fields #[vl,vu,.none] } };exact tail_any (ops:=[.ref s3.heap.objs.size,v]) ht hT hg (by with_unfolding_all rfl)
def kM (xs:List V) (lo hi:Option Int):List V:=(xs.drop (HT.GQ xs.length 0 lo)).take (HT.GQ xs.length xs.length hi - HT.GQ xs.length 0 lo)
theorem nk (xs:List V) (lo hi:Option Int):(kM xs lo hi).length <= xs.length:=by
 unfold kM;rw [List.length_take,List.length_drop];omega
end
noncomputable def lb (n:Nat) (i:Int):Option Nat:=if 0 <= i then (if i < n then some i.toNat else none) else if -(n:Int) <= i then some (i + n).toNat else none
def fG {α:Type} (xs:List α) (i:Int):Option α:=(lb xs.length i).bind fun j=>xs[j]?
theorem oa {n:Nat}{i:Int}{j:Nat} (h:lb n i=some j):seqIndex? i n=some j/\j < n/\-(n:Int) <= i/\i < n:=by
 unfold lb at h;by_cases h0:0 <= i
 ·rw [yF h0] at h
  by_cases h1:i < n
  ·rw [yF h1] at h
   have e:i.toNat=j:=yB h;exact ⟨by rw [seqIndex_of h0 h1,e],by omega,by omega,h1⟩
  ·rw [yE h1] at h;cases h
 ·rw [yE h0] at h
  by_cases h1:-(n:Int) <= i
  ·rw [yF h1] at h
   have e:(i + n).toNat=j:=yB h;exact ⟨by rw [seqIndex_neg oM h1,e],by omega,h1,by omega⟩
  ·rw [yE h1] at h;cases h
theorem kR {α:Type}{xs:List α}{i:Int}{v:α} (h:fG xs i=some v):∃ j,seqIndex? i xs.length=some j/\xs[j]?=some v/\j < xs.length/\-(xs.length:Int) <= i/\i < xs.length:=by
 unfold fG at h;cases e:lb xs.length i with
 | none=>rw [e] at h;cases h
 | some j =>
  rw [e] at h;obtain ⟨h1,h2,h3,h4⟩:=oa e;exact ⟨j,h1,h,h2,h3,h4⟩
def kW (b:Expr):Prop:=∀ o i,subscripted b false o i=operate [o,i] (getItem o i)
def IxR (X:Cx) (r:R2):Prop :=
 ∀ (value slice:Expr) (GD:List (Addr × Obj)) (s:Shared) (σ:St) (H:Hp) (x y:V) (v u:Value) (Q:VK),Inv X GD σ H s->RelV x v->RelV y u->r x y H Q ->
  subscripted slice false v u=operate [v,u] (getItem v u)->wpAny (model X.prog X.w) X.A (subscriptTail value slice v u) (EP X GD σ Q) X.xe s
def jb (X:Cx) (id:String) (r:V->List V->Hp->VK->Prop):Prop :=
 ∀ (GD:List (Addr × Obj)) (s:Shared) (σ:St) (H:Hp) (x:V) (xs:List V) (v:Value) (us:List Value) (Q:VK),Inv X GD σ H s->RelV x v->Vals xs us->r x xs H Q ->
  wpAny (model X.prog X.w) X.A (call (.builtin id) (v::us)) (EP X GD σ Q) X.xe s
section
variable {X:Cx}{a b:Expr}{ta tb:TE}{pos:Pos}
theorem IxR.or {r r':R2} (h:IxR X r) (h':IxR X r'):IxR X (fun x y H Q=>r x y H Q\/r' x y H Q):=by
 intro value slice GD s σ H x y v u Q I rx ry q hs;rcases q with q | q
 ·exact h value slice GD s σ H x y v u Q I rx ry q hs
 ·exact h' value slice GD s σ H x y v u Q I rx ry q hs
theorem Ci {r:R2} (hr:IxR X r) (ha:PE X a ta) (hb:PE X b tb) (hs:kW b):PE X (.Subscript a b pos) (p0 r ta tb):=by
 intro GD s σ H Q I h;exact Subscript_ (uE ha hb I h fun v u s2 x y H2 I2 rx ry q=>hr a b GD s2 σ H2 x y v u Q I2 rx ry q (hs _ _))
def yc (K:Frag):R2:=fun x y H Q=>∃ p xs i v,x=.ref p/\y=.int i/\bC K H p xs/\fG xs i=some v/\Q v H
def ya (K:Frag):R2:=fun x y H Q=>∃ p xs i v,x=.ref p/\y=.int i/\dP K H p xs/\fG xs i=some v/\Q v H
def yb:R2:=fun x y H Q=>∃ z i c,x=.str z/\y=.int i/\z.length <= sizeLine/\fG z.cps.toList i=some c/\Q (.str ⟨#[c]⟩) H
theorem ix_list:IxR X (yc X.K):=by
 intro value slice GD s σ H x y v u Q I rx ry h hs;obtain ⟨p,xs,i,z,rfl,rfl,hq,he,q⟩:=h;cases rx;obtain ⟨t,rfl⟩:=ry;obtain ⟨GH,r,pl,hz⟩:=I.list hq;obtain ⟨j,h1,h2,h3,h4,h5⟩:=kR he;obtain ⟨w,ew,rw'⟩:=r.get h2;have hl:=r.length;have hn:=eZ;have aw:EP X GD σ Q w s:=⟨z,H,I,rw',q⟩;by_cases h0:0 <= i
 ·have hj:i.toNat=j:=by
   rw [seqIndex_of h0 h5] at h1;exact yB h1
  exact item_listR pl.isList h0 oM (by rw [hj];simpa using ew) aw hs
 ·have hj:(i + (GH.toArray.size:Int)).toNat=j:=by
   rw [seqIndex_neg oM h4] at h1;rw [zI,<- hl];exact yB h1
  exact subscriptTail_builtinR (x:=w) pl.isList.typeIs slot_list_getitem.lookup
   (wpAny_getItem_list_neg (Q:=fun r s'=>r=w/\EP X GD σ Q r s') pl.isList oM (by rw [zI] <;> omega) oM (by rw [hj];simpa using ew) ⟨rfl,aw⟩) hs
theorem ix_tup:IxR X (ya X.K):=by
 intro value slice GD s σ H x y v u Q I rx ry h hs;obtain ⟨p,xs,i,z,rfl,rfl,hq,he,q⟩:=h;cases rx;obtain ⟨t,rfl⟩:=ry;obtain ⟨GH,r,pl,hz⟩:=I.tuple hq;obtain ⟨j,h1,h2,h3,h4,h5⟩:=kR he;obtain ⟨w,ew,rw'⟩:=r.get h2;have hl:=r.length;have hn:=eZ;have aw:EP X GD σ Q w s:=⟨z,H,I,rw',q⟩;exact subscriptTail_builtinR (x:=w) pl.typeIs slot_tuple_getitem.lookup
  (getItem_tuple (j:=j) (Q:=fun r s'=>r=w/\EP X GD σ Q r s') pl oM oM (by rw [zI,<- hl];exact h1) (by simpa using ew) ⟨rfl,aw⟩) hs
theorem AK:IxR X yb:=by
 intro value slice GD s σ H x y v u Q I rx ry h hs;obtain ⟨z,i,c,rfl,rfl,hz,he,q⟩:=h;obtain ⟨t,rfl⟩:=rx;obtain ⟨t',rfl⟩:=ry;obtain ⟨j,h1,h2,h3,h4,h5⟩:=kR he;have hl:z.cps.toList.length=z.length:=by simp [Str.length]
 rw [hl] at h1 h4 h5;have hn:=eZ;exact tail_any (typeIs_str s z t) slot_str_getitem.lookup (getItem_str (c:=c) (by
  have e1:decide (i < -(2 ^ 63:Int))=false:=z5 oM;have e2:decide (i ≥ 2 ^ 63)=false:=z5 oM;rw [e1,e2,Bool.or_false]) (by rw [h1];simpa using h2) ⟨.str ⟨#[c]⟩,H,I.tok _,⟨_,rfl⟩,q⟩) hs
def Ft (K:Frag):R2:=fun x y H Q=>yc K x y H Q\/ya K x y H Q\/yb x y H Q
theorem mH:IxR X (Ft X.K):=ix_list.or (ix_tup.or AK)
theorem pf (GH:List Value) (n j:Nat) (u:Value):Obj.mapSeq (·.setIfInBounds j u) { cls:=.type "list",data:=.seq GH.toArray n }={ cls:=.type "list",data:=.seq (GH.set j u).toArray n }:=by
 simp [Obj.mapSeq]
theorem Inv.lst {GD:List (Addr × Obj)}{σ:St}{H:Hp}{s:Shared}{p:Addr}{xs:List V} (I:Inv X GD σ H s) (h:H p=some (.lst xs)) :
  ∃ (GH:List Value) (n:Nat),Vals xs GH/\s.heap.get? p=some { cls:=.type "list",data:=.seq GH.toArray n }/\xs.length <= sizeLine:=by
 obtain ⟨z,GH,n,r,e⟩:=I.GJ p _ h;exact ⟨GH,n,r,e,z⟩
theorem Inv.lstUpd {GD:List (Addr × Obj)}{σ:St}{H:Hp}{s:Shared}{p:Addr}{xs ys:List V}{GH its':List Value}{n n':Nat}{f:Obj->Obj} (I:Inv X GD σ H s) (h:H p=some (.lst xs))
  (ho:s.heap.get? p=some { cls:=.type "list",data:=.seq GH.toArray n }) (hf:f { cls:=.type "list",data:=.seq GH.toArray n }={ cls:=.type "list",data:=.seq its'.toArray n' }) (r:Vals ys its') (hz:ys.length <= sizeLine) (t:Nat) :
  Inv X GD σ (am H p (.lst ys)) { s with heap:=s.heap.update p f,toks:=t }:=by
 have e:(s.heap.update p f).get? p=some { cls:=.type "list",data:=.seq its'.toArray n' }:=by
  rw [Heap.get?_update_self f ho (by rw [hf] <;> rfl),hf]
 refine I.write (x:=p) (e:=p) (by rw [h];trivial) (.inl rfl) (fun b u hb q=>(Heap.get?_update_other _ _ (Ne.symm hb)).trans q) ⟨_,e⟩ ?_;exact ⟨hz,its',n',r,e⟩
def BR:V->V->V->Hp->(Hp->Prop)->Prop:=fun o i v H Q=>∃ p xs k j,o=.ref p/\i=.int k/\H p=some (.lst xs)/\lb xs.length k=some j/\Q (am H p (.lst (xs.set j v)))
theorem sQ:uH X BR:=by
 intro GD s σ H o i v ov iv u Q I ro ri rv h;obtain ⟨p,xs,k,j,rfl,rfl,hp,hj,q⟩:=h;cases ro;obtain ⟨t,rfl⟩:=ri;obtain ⟨GH,n,r,ho,hz⟩:=I.lst hp;obtain ⟨h1,h2,h3,h4⟩:=oa hj;have hl:=r.length;have hn:=eZ;have I':Inv X GD σ (am H p (.lst (xs.set j v))) { s with heap:=s.heap.update p (Obj.mapSeq (·.setIfInBounds j u)) } :=
  I.lstUpd hp ho (pf GH n j u) (r.set rv j) (by rw [List.length_set];exact hz) s.toks
 by_cases h0:0 <= k
 ·have hk:k.toNat=j:=by
   rw [seqIndex_of h0 h4] at h1;exact yB h1
  exact ki_setAt ho h0 oM (by rw [zI,<- hl];exact h4) (by rw [hk];exact ⟨_,I',q⟩)
 ·have hk:(k + (GH.toArray.size:Int)).toNat=j:=by
   rw [seqIndex_neg oM h3] at h1;rw [zI,<- hl];exact yB h1
  exact ki_setBack ho oM (by rw [zI,<- hl];exact h3) oM (by rw [hk];exact ⟨_,I',q⟩)
theorem l5 (lo hi:Option Int) (n:Nat):(sliceBounds lo hi none n).1=((HT.GQ n 0 lo:Nat):Int)/\(sliceBounds lo hi none n).2.1=((HT.GQ n n hi:Nat):Int)/\(sliceBounds lo hi none n).2.2=1:=by
 refine ⟨?_,?_,rfl⟩
 ·cases lo with
  | none=>simp [sliceBounds,HT.GQ]
  | some i =>
   simp only [sliceBounds,HT.GQ,Option.getD_none,show (1:Int) > 0 by decide,if_true];by_cases h:i < 0
   ·simp only [h,if_true] <;> omega
   ·simp only [h,if_false] <;> omega
 ·cases hi with
  | none=>simp [sliceBounds,HT.GQ]
  | some i =>
   simp only [sliceBounds,HT.GQ,Option.getD_none,show (1:Int) > 0 by decide,if_true];by_cases h:i < 0
   ·simp only [h,if_true] <;> omega
   ·simp only [h,if_false] <;> omega
theorem lE (GH:List Value) (lo hi:Option Int):slicePick GH.toArray lo hi none=((GH.drop (HT.GQ GH.length 0 lo)).take (HT.GQ GH.length GH.length hi - HT.GQ GH.length 0 lo)).toArray:=by
 obtain ⟨h1,h2,h3⟩:=l5 lo hi GH.toArray.size;unfold slicePick;rw [h1,h2,h3];simp only [sliceRange_one,pick_run,zI] <;> rfl
def EC (K:Frag):V->Option Int->Option Int->Hp->VK->Prop:=fun x lo hi H Q=>∃ a xs,x=.ref a/\bC K H a xs/\∀ p,H p=none->Q (.ref p) (am H p (.lst (kM xs lo hi)))
theorem vQ:GL X (EC X.K):=by
 intro GD s σ H x v vl vu lo hi sl Q I rx hs pl pu h;obtain ⟨a,xs,rfl,hx,q⟩:=h;cases rx;obtain ⟨GH,r,ht,hz⟩:=I.list hx;have hlen:=r.length;refine ⟨"list",_,slot_list_getitem.lookup,ht.isList.typeIs,?_⟩;refine wpAny_getItem_list_slice ht.isList hs pl pu .none (by simp) ?_ (by rw [zI] <;> omega);rw [lE,<- hlen];refine ⟨.ref s.heap.objs.size,_,I.laid (t':=s.toks) (o:=.lst (kM xs lo hi)) (fun b ob q=>zG _ q) (zP _) ?_,rfl,q _ (I.GJ.fresh (zP _))⟩;exact ⟨z0 (nk xs lo hi) hz,_,0,(r.drop (HT.GQ xs.length 0 lo)).take (HT.GQ xs.length xs.length hi - HT.GQ xs.length 0 lo),zY _ rfl⟩
theorem ig:bU X (.builtin "len") (fun xs H Q=>∃ p ys,xs=[.ref p]/\(bC X.K H p ys\/dP X.K H p ys)/\Q (.int ys.length) H):=by
 intro GD s σ H xs us Q I r h;obtain ⟨p,ys,rfl,hq,q⟩:=h;obtain ⟨u,rfl,rx⟩:=c9 r;cases rx;have hn:=eZ;rcases hq with hq | hq
 ·obtain ⟨GH,r',pl,hz⟩:=I.list hq
  have hlen:=r'.length;exact Calls.call_len_list pl.isList (by simp only [zI] <;> omega) ⟨.int ys.length,H,I.tok _,⟨s.toks + 1,by rw [zI,hlen]⟩,q⟩
 ·obtain ⟨GH,r',pl,hz⟩:=I.tuple hq
  have hlen:=r'.length;exact len_tuple pl (by simp only [zI] <;> omega) ⟨.int ys.length,H,I.tok _,⟨s.toks + 1,by rw [zI,hlen]⟩,q⟩
theorem mR:bU X (.builtin "len") (fun xs H Q=>∃ z,xs=[.str z]/\z.length <= sizeLine/\Q (.int z.length) H):=by
 intro GD s σ H xs us Q I r h;obtain ⟨z,rfl,hz,q⟩:=h;obtain ⟨u,rfl,t,rfl⟩:=c9 r;have hn:=eZ;exact len_str oM ⟨.int z.length,H,I.tok _,⟨_,rfl⟩,q⟩
theorem mQ:bU X (.type "list") (fun xs H Q=>∃ p ys,xs=[.ref p]/\(bC X.K H p ys\/dP X.K H p ys)/\∀ l,H l=none->Q (.ref l) (am H l (.lst ys))):=by
 intro GD s σ H xs us Q I r h;obtain ⟨p,ys,rfl,hq,q⟩:=h;obtain ⟨u,rfl,rx⟩:=c9 r;cases rx;have aw:∀ (GH:List Value),Vals ys GH->ys.length <= sizeLine->∀ (h':Heap) (c':Nat),(∀ b o',s.heap.get? b=some o'->h'.get? b=some o') ->
   h'.get? s.heap.objs.size=some { cls:=.type "list",dict:=none,data:=.seq GH.toArray c',slots:=#[] }->EP X GD σ Q (.ref s.heap.objs.size) { s with heap:=h' }:=fun GH r' hz h' c' kp e =>
  ⟨.ref s.heap.objs.size,_,I.laid (t':=s.toks) kp (zP _) (show ObjOk X.prog X.w _ h' _ (.lst ys) from ⟨hz,GH,c',r',e⟩),rfl,q _ (I.GJ.fresh (zP _))⟩
 rcases hq with hq | hq
 ·obtain ⟨GH,r',pl,hz⟩:=I.list hq
  have hlen:=r'.length;obtain ⟨o,ho,hc,n,hd⟩:=pl.isList;exact call_list_seq p (.inl rfl) ho hc hd (fun h' c' kp e=>aw GH r' hz h' c' kp e) (by simp only [zI] <;> omega)
 ·obtain ⟨GH,r',pl,hz⟩:=I.tuple hq
  have hlen:=r'.length;obtain ⟨o,ho,hc,n,hd⟩:=pl;exact call_list_seq p (.inr rfl) ho hc hd (fun h' c' kp e=>aw GH r' hz h' c' kp e) (by simp only [zI] <;> omega)
def pT (K:Frag) (T:String) (x:V) (H:Hp):Prop:=match x with
 | .str _=>T="str"
 | .int _=>T="int"
 | .ref p=>(T="list"/\∃ xs,bC K H p xs)\/(T="tuple"/\∃ o,K.lookup p=some o/\o.cls=.type "tuple"/\o.dict=none) \/
   (T="dict"/\((∃ GE,H p=some (.dK GE))\/∃ GE,H p=some (.dT GE)))\/(T="set"/\∃ S n,H p=some (.set S n))
 | _=>False
theorem pS {GD:List (Addr × Obj)}{σ:St}{H:Hp}{s:Shared}{T:String}{x:V}{v:Value} (I:Inv X GD σ H s) (r:RelV x v) (ty:pT X.K T x H) :
  s.TypeIs v T/\∀ a,v=.ref a->∃ ob,s.heap.get? a=some ob/\ob.dict=none:=by
 cases x with
 | str z =>
  obtain ⟨t,rfl⟩:=r;cases (show T="str" from ty);exact ⟨typeIs_str s z t,fun _ e=>nomatch e⟩
 | int i =>
  obtain ⟨t,rfl⟩:=r;cases (show T="int" from ty);exact ⟨typeIs_int s i t,fun _ e=>nomatch e⟩
 | ref p =>
  cases r;rcases ty with ⟨rfl,xs,hq⟩ | ⟨rfl,o,hk,hc,hd⟩ | ⟨rfl,hk⟩ | ⟨rfl,S,n,hk⟩
  ·obtain ⟨GH,_,pl,_⟩:=I.list hq
   refine ⟨pl.isList.typeIs,fun a e=>?_⟩;cases e;obtain ⟨o,n,e,c,hd,_⟩:=pl;exact ⟨o,e,hd⟩
  ·refine ⟨⟨o,I.kIn p o hk,hc⟩,fun a e=>?_⟩
   cases e;exact ⟨o,I.kIn _ o hk,hd⟩
  ·have z:∃ o,s.heap.get? p=some o/\o.ExactDict:=by
    rcases hk with ⟨GE,hk⟩ | ⟨GE,hk⟩
    ·obtain ⟨_,_,_,_,o,_,_,e,ex,_⟩:=I.GJ p _ hk
     exact ⟨o,e,ex⟩
    ·obtain ⟨_,_,_,_,o,_,_,e,ex,_⟩:=I.GJ p _ hk
     exact ⟨o,e,ex⟩
   obtain ⟨o,e,ex⟩:=z;refine ⟨⟨o,e,ex.1⟩,fun a e2=>?_⟩;cases e2;exact ⟨o,e,ex.2.1⟩
  ·obtain ⟨o,_,_,_,e,ex,_⟩:=I.GJ p _ hk
   refine ⟨⟨o,e,ex.1⟩,fun a e2=>?_⟩;cases e2;exact ⟨o,e,ex.2.1⟩
 | _=>exact False.elim ty
def Ew (K:Frag) (T:String) (r:V->List V->Hp->VK->Prop) (to:TE):TE:=fun σ H Q=>to σ H fun x H1=>pT K T x H1/\r x [] H1 Q
def Dq (K:Frag) (T:String) (r:V->List V->Hp->VK->Prop) (to:TE) (t:TA):TE:=fun σ H Q=>to σ H fun x H1=>pT K T x H1/\t σ H1 fun xs H2=>r x xs H2 Q
variable {o e:Expr}{es:List Expr}{to:TE}{t:TA}{name:Str}{apos cpos:Pos}{T id:String}{r:V->List V->Hp->VK->Prop}
theorem zp (pa:PlainAttrs T) (slot:Slot T name id) (hty:typeOf (.builtin id)=pure (.type "method_descriptor")) (hm:jb X id r) (ho:PE X o to)
  (hbase:attributeBase o name X.env (eval o X.env)=eval o X.env:=by rfl) (hline:(apos.endLine == cpos.line)=true:=by rfl):PE X (.Call (.Attribute o name apos) [] [] cpos) (Ew X.K T r to):=by
 intro GD s σ H Q I h;refine wpAny_Call_method0_late hbase hline (aB (ho GD s σ H _ I h) fun v s1 hq0=>?_);obtain ⟨x,H1,I1,r1,ty,q1⟩:=hq0;obtain ⟨h1,h2⟩:=pS I1 r1 ty;exact ⟨T,id,pa,slot,hty,h1,h2,Calls.callWith_builtin rfl (PySem.evalArgs_none (hm GD s1 σ H1 x [] v [] Q I1 r1 .nil q1))⟩
theorem Cj (pa:PlainAttrs T) (slot:Slot T name id) (hty:typeOf (.builtin id)=pure (.type "method_descriptor")) (hm:jb X id r) (ho:PE X o to) (ha:PA X (e::es) t)
  (hbase:attributeBase o name X.env (eval o X.env)=eval o X.env:=by rfl)
  (hfew:((backTo cpos (starEach (e::es) X.env)).all (fun x=>!x.1) && (backToKw cpos (keywordEach [] X.env)).all (fun x=>x.1.isSome)
   && decide ((e::es).length + ([]:List Keyword).length + (if ([]:List Keyword).isEmpty then 0 else 1) < 30))=true:=by rfl)
  (hline:(apos.endLine == cpos.line)=true:=by rfl) (hs:starEach (e::es) X.env=(false,eval e X.env)::starEach es X.env:=by rfl) (hplain:(backTo cpos (starEach es X.env)).any (·.1)=false:=by rfl) :
  PE X (.Call (.Attribute o name apos) (e::es) [] cpos) (Dq X.K T r to t):=by
 intro GD s σ H Q I h;refine wpAny_Call_method_late hbase hfew hline rfl (aB (ho GD s σ H _ I h) fun v s1 hq0=>?_);obtain ⟨x,H1,I1,r1,ty,q1⟩:=hq0;obtain ⟨h1,h2⟩:=pS I1 r1 ty;refine ⟨T,id,pa,slot,hty,h1,h2,?_⟩;have hA:=ha cpos GD s1 σ H1 _ I1 q1;rw [hs] at hA ⊢;refine Calls.callWith_builtin (by show (false || (backTo cpos (starEach es X.env)).any (·.1))=false;rw [hplain] <;> rfl) (Calls.evalArgs_plain ?_);exact aB hA fun us s2 ⟨vs,H2,I2,r2,q2⟩=>hm GD s2 σ H2 x vs v us Q I2 r1 r2 q2
end
def Ef (X:Cx) (id:String) (r:V->List V->Hp->VK->Prop):Prop :=
 ∀ (GD:List (Addr × Obj)) (s:Shared) (σ:St) (H:Hp) (x:V) (xs:List V) (v:Value) (us:List Value) (Q:VK),Inv X GD σ H s->RelV x v->Vals xs us->r x xs H Q ->
  wpAny (model X.prog X.w) X.A (call (.builtin id) (v::us)) (EP X GD σ Q) X.xe s
theorem Vals.one {x:V}{us:List Value} (h:Vals [x] us):∃ u,us=[u]/\RelV x u:=by
 cases h with
 | cons r h=>cases h;exact ⟨_,rfl,r⟩
theorem Vals.rep {xs:List V}{us:List Value} (h:Vals xs us):∀ k:Nat,Vals (List.replicate k xs).flatten (List.replicate k us).flatten
 | 0=>.nil
 | k + 1=>by
  rw [List.replicate_succ,List.replicate_succ,List.flatten_cons,List.flatten_cons];exact Vals.append h (Vals.rep h k)
theorem lg (GH:List Value):∀ (k:Nat) (acc:List Value),
  List.foldl (fun x1 x2=>x1++x2) acc.toArray (List.replicate k GH.toArray)=(acc++(List.replicate k GH).flatten).toArray
 | 0,acc=>by simp
 | k + 1,acc=>by
  have e:acc.toArray++GH.toArray=(acc++GH).toArray:=by simp
  have e2:(acc++GH)++(List.replicate k GH).flatten=acc++(List.replicate (k + 1) GH).flatten:=by
   rw [List.replicate_succ,List.flatten_cons,yJ]
  rw [<- e2,<- lg GH k (acc++GH),<- e,List.replicate_succ,List.foldl_cons]
section
variable {X:Cx}{GD:List (Addr × Obj)}{σ:St}{H:Hp}{s:Shared}{l b:Addr}{xs ys zs:List V}
theorem Inv.lset {GH its':List Value}{n:Nat}{f:Array Value->Array Value}{t':Nat} (I:Inv X GD σ H s) (hH:H l=some (.lst xs))
  (e:s.heap.get? l=some { cls:=.type "list",data:=.seq GH.toArray n }) (hf:f GH.toArray=its'.toArray) (hv:Vals ys its') (hz:ys.length <= sizeLine) :
  Inv X GD σ (am H l (.lst ys)) { s with heap:=s.heap.update l (Obj.mapSeq f),toks:=t' }:=by
 have q:=PySem.IsL.update e f;rw [hf] at q;refine I.write (x:=l) (e:=l) (by rw [hH];exact trivial) (.inl rfl) (fun b' u hb hu=>(Heap.get?_update_other s.heap (Obj.mapSeq f) (Ne.symm hb)).trans hu) ⟨_,q⟩ ?_;exact ⟨hz,its',_,hv,q⟩
theorem Inv.lnew {GH:List Value}{t':Nat} (I:Inv X GD σ H s) (hv:Vals ys GH) (hz:ys.length <= sizeLine) :
  Inv X GD σ (am H s.heap.objs.size (.lst ys)) { s with heap:=s.heap.push { cls:=.type "list",data:=.seq GH.toArray },toks:=t' } :=
 I.laid (fun _ _ q=>zG _ q) (zP _) ⟨hz,GH,0,hv,zY _ rfl⟩
theorem Inv.fresh (I:Inv X GD σ H s):H s.heap.objs.size=none:=I.GJ.fresh (zP _)
theorem Inv.lstM (I:Inv X GD σ H s) (hH:H l=some (.lst xs)):xs.length <= sizeLine/\∃ (GH:List Value) (n:Nat),Vals xs GH/\xs.length=GH.length/\s.heap.get? l=some { cls:=.type "list",data:=.seq GH.toArray n }:=by
 obtain ⟨z,GH,n,r,e⟩:=I.GJ l _ hH;exact ⟨z,GH,n,r,r.length,e⟩
theorem notLongL {n:Nat} (h:n <= sizeLine):Builtin.List.listTooLong n=false:=by
 unfold Builtin.List.listTooLong;exact z5 oM
end
section
variable {X:Cx}
def vU:V->List V->Hp->VK->Prop:=fun x vs H Q=>∃ l xs y,x=.ref l/\vs=[y]/\H l=some (.lst xs)/\xs.length < sizeLine/\Q .non (am H l (.lst (xs++[y])))
theorem k7:Ef X "list.append" vU:=by
 intro GD s σ H x vs v us Q I rx rv h;obtain ⟨l,xs,y,rfl,rfl,hH,hz,q⟩:=h;cases rx;obtain ⟨u,rfl,ru⟩:=rv.one;obtain ⟨z,GH,n,r,hl,e⟩:=I.lstM hH;refine call_meets F.slot_list_append ⟨_,e,rfl⟩ F.entry_list_append (F.args_list_append_2 _ _) (PySem.list_append l GH.toArray n u (by rw [zI];omega)) ⟨e,?_⟩;refine ⟨.non,_,I.lset (its':=GH++[u]) hH e (by simp) (r.append (.cons ru .nil)) ?_,rfl,q⟩;rw [zV,List.length_singleton];omega
def ED:R2:=fun x y H Q=>∃ l k xs,x=.ref l/\y=.int k/\H l=some (.lst xs)/\-(2 ^ 63) <= k/\k < 2 ^ 63/\xs.length * k.toNat <= sizeLine /\
 ∀ p,H p=none->Q (.ref p) (am H p (.lst (List.replicate k.toNat xs).flatten))
theorem wW {α:Type} (xs:List α) (k:Nat):(List.replicate k xs).flatten.length=k * xs.length:=by
 induction k with
 | zero=>simp
 | succ k ih=>rw [List.replicate_succ,List.flatten_cons,zV,ih,Nat.succ_mul,Nat.add_comm]
theorem zt:fr X (binaryOp .Mult) ED:=by
 intro GD s σ H x y v u Q I rx ry h;obtain ⟨l,k,xs,rfl,rfl,hH,h1,h2,hz,q⟩:=h;cases rx;obtain ⟨t,rfl⟩:=ry;obtain ⟨z,GH,n,r,hl,e⟩:=I.lstM hH;have hlen:GH.toArray.size * k.toNat <= sizeLine:=by rw [zI,<- hl];exact hz
 have hcap:¬ GH.toArray.size * k.toNat > (2 ^ 63 - 1) / 8:=by
  have:(sizeLine:Nat) <= (2 ^ 63 - 1) / 8:=by decide
  omega
 have hfit:¬ (!Builtin.List.listFitsIndex k)=true:=by
  rw [fitsIndex_both h1 h2];exact Bool.false_ne_true
 have hlong:¬ Builtin.List.listTooLong (GH.toArray.size * k.toNat)=true:=by
  rw [notLongL hlen];exact Bool.false_ne_true
 have hnew:List.foldl (fun x1 x2=>x1++x2) #[] (List.replicate (if GH.toArray.isEmpty=true then 0 else k.toNat) GH.toArray)=(List.replicate k.toNat GH).flatten.toArray:=by
  have f0:∀ m:Nat,List.foldl (fun x1 x2=>x1++x2) #[] (List.replicate m GH.toArray)=(List.replicate m GH).flatten.toArray:=fun m=>by
   have:=lg GH m []
   rw [List.nil_append] at this;exact this
  rw [f0];cases GH with
  | nil=>simp
  | cons a r'=>rw [yE (by simp)]
 refine wpAny_binaryOp_repeat_ref (T:="list") (U:="int") dC ⟨_,e,rfl⟩ (fun s'=>typeIs_int s' k t) noFill_list_mul F.fills_int_mul F.slot_int_rmul repeat_list F.slot_int_index.lookup
  (call_meets F.slot_int_rmul (typeIs_int s k t) F.entry_int_rmul (F.args_int_rmul_2 _ _) (int___rmul___int_list k t l GH.toArray n)
   ⟨e,rfl,⟨_,e,rfl⟩,call_meets F.slot_list_mul ⟨_,e,rfl⟩ F.entry_list_mul (F.args_list_mul_2 _ _) (AutoListH.list___mul___list_int_3 l GH.toArray n k t hfit hcap hlong) ⟨e,?_⟩⟩)
 rw [hnew];exact ⟨.ref _,_,I.lnew (t':=s.toks) (r.rep k.toNat) (by rw [wW,Nat.mul_comm];exact hz),rfl,q _ I.fresh⟩
end
end L2
namespace Att
open PySem PySem.W PySem.Calls PyProof.Rows
theorem jU {P:Params}{h:Heap}:∀ (ns:List Int) (vs:List Value),WellAll P h vs (ns.map WData.int)->IntsAre vs ns:=by
 intro ns
 induction ns with
 | nil =>
  intro vs w;rw [List.map_nil] at w;cases w;exact .nil
 | cons n ns ih =>
  intro vs w;rw [zO] at w;cases w with
  | cons a b =>
   cases a;exact .cons _ _ (ih _ b)
theorem qd {l:OpenLaw}{n:Nat} (hn:l.most=some n) {P:Params}{h:Heap}{args:List WData}{vals:List Value}
  (hpre:l.row.toRowW.claim.pre args=true) (hwl:WellAll P h vals args) :
  ∃ a vs ns,vals=[Value.ref a]/\args=[WData.list (ns.map WData.int)]/\h.get? a=some { cls:=.type "list",data:=.seq vs.toArray }/\IntsAre vs ns/\ns.length <= n:=by
 have hsh:WShape.hasAll [] args [.list .int]=true:=(pre_splitW hpre).1;have hc:l.pre.holds [] { args:=args }=true:=(pre_splitW hpre).2;obtain ⟨d,r,rfl,h1,h2⟩:=hasAllW_cons hsh;obtain rfl:=hasAllW_nil h2;obtain ⟨xs,rfl,h3⟩:=hasW_list h1;obtain ⟨ns,rfl⟩:=items_int h3;have hlen:ns.length <= n:=by
  unfold OpenLaw.pre at hc;have h4:(WTm.not (.lt (.lit (.int (n:Int))) (.len (.arg 0)))).holds [] { args:=[.list (ns.map .int)] }=true:=by
   have h4:=(holds_andW hc).1;rw [hn] at h4;exact h4
  have h5:=condW_of h4 (w_not (w_lt w_lit (w_len_list (w_arg rfl))));rw [zH] at h5;refine Nat.le_of_not_lt fun q=>?_
  have q':(n:Int) < ((ns.length:Nat):Int):=by omega
  first
   | (rw [yP q'] at h5;exact absurd h5 dC)
   | (simp at h5;omega)
 cases hwl with
 | cons w1 w2 =>
  cases w2;cases w1 with
  | list ho hall=>exact ⟨_,_,ns,rfl,rfl,ho,jU ns _ hall,hlen⟩
theorem qr (l:OpenLaw) (args:List WData):l.row.toRowW.claim.post args (.bool true) args=true :=
 postW_of (r:=l.row.toRowW) (X:=(true == true))
  (show WShape.has [] (.bool true) .bool=true by first | rfl | decide | simp [WShape.has,WShape.arms,WShape.armsAll])
  (show (WTm.eq .res (.lit (.bool true))).value [] { args:=args,res:=some (.bool true),after:=args }=some (.bool (true == true)) from w_eq_bool (w_res rfl) w_lit) rfl
theorem attach_call {l:OpenLaw}{n:Nat}{q:Program}{loose:List Str}{XP:(Str->Option Value)->Heap->Prop}{YP:World->Heap->Prop}{d:DefRec}
  (hn:l.most=some n) (hdf:d.params.defaults=[])
  (call:∀ (w:World) (s₀ s₁:Shared) (mg mb:Str->Option Value) (fa:Addr) (o:Obj) (pm cd doc:Value) (a:Addr) (vs:List Value) (ns:List Int),
   Ground q loose [] XP w s₀ mg mb s₁.heap->YP w s₁.heap ->
   s₁.heap.get? fa=some o->o.data=.func (docDef d.name d.params d.body d.scope pm cd doc)->s₁.heap.CodeRec cd d.name->mg d.name=some (.ref fa) ->
   s₁.heap.get? a=some { cls:=.type "list",data:=.seq vs.toArray }->IntsAre vs ns->ns.length <= n->s₁.gens=#[] ->
   codeAny (model l.prog w) callerA (.call (.ref fa) ⟨[.ref a],[]⟩) (fun r s'=>r=.ok (.ret (.bool true))/\OldK s₁.heap s'.heap/\s'.os=s₁.os/\AllBare s'.gens) s₁) :
  WalkO q loose XP YP l.row.toRowW d [] (fun f vs=>PySem.call f vs):=by
 intro w s₀ s₁ mg mb G Y fa o pm cd doc dV kV ho hd hcd hD hmg hg args vals as hpre hlay hrd hwl hlo;obtain rfl:dV=.none:=Dflts.none hD hdf;obtain rfl:kV=.none:=Dflts.noKw hD;obtain ⟨a,vs,ns,rfl,rfl,hobj,hints,hlen⟩:=qd hn hpre hwl;refine enter_call (codeAny_mono (call w s₀ s₁ mg mb fa o pm cd doc a vs ns G Y ho (fd_plain hd) hcd hmg hobj hints hlen hg) fun r s' hq=>?_);obtain ⟨rfl,h2,h3,h4⟩:=hq;exact ⟨.inl ⟨.bool true,.bool true,[],rfl,fun _=>rfl,.bool true,qr l _,fun _=>⟨List.Pairwise.nil,fun _ hm=>(nomatch hm)⟩⟩,h2,h3,h4⟩
end Att
namespace L2
open PySem PySem.Spec PyProof.Rows
theorem pR:∀ {vs:List Value}{ns:List Int},IntsAre vs ns->Vals (ns.map V.int) vs:=by
 intro vs ns h
 induction h with
 | nil=>exact .nil
 | cons n t h ih=>exact .cons ⟨t,rfl⟩ ih
noncomputable def cZ (s:Stmt):Arguments:=match s with
 | .FunctionDef _ a _ _ _ _ _ _ _ _=>a
 | _=>{ posonlyargs:=[],args:=[],vararg:=none,kwonlyargs:=[],kw_defaults:=[],kwarg:=none,defaults:=[] }
noncomputable def db (s:Stmt):List Stmt:=match s with
 | .FunctionDef _ _ b _ _ _ _ _ _ _=>b
 | _=>[]
noncomputable def cm (s:Stmt):Scope:=match s with
 | .FunctionDef _ _ _ _ _ _ sc _ _ _=>sc
 | _=>{ kind:=.function,names:=[],isGenerator:=false,isCoroutine:=false }
abbrev de:ir:=fun _ _ _ _ _ _=>False
abbrev E0:XK:=fun _ _ _=>False
theorem jG {X:Cx}:er de X E0:=fun _ _ _ _ _ _ _ h=>h.elim
structure Fun (K:Frag) (x qual:Str) (st:Stmt) (f:Addr) (fd:FuncData):Prop where
 ex:∃ (oc:Value) (od:Option Addr) (kV doc pm:Value) (an:Option Addr) (cdv ct:Value) (osl:Array (Option Value)),
  fd=fnOf x qual (cZ st) (db st) (cm st) .none kV doc pm an cdv ct/\K.lookup f=some ⟨oc,od,.func fd,osl⟩/\codeIn K cdv qual=true
 kp:keepIn K (.ref f)=true
section
variable {P:Program}{w:World}{K:Frag}{mg:Str->Option Value}{base:Heap}
theorem Fun.binds {x qual:Str}{st:Stmt}{f:Addr}{fd:FuncData}{ps:List Str} (F:Fun K x qual st f fd)
  (h:∀ (kV doc pm:Value) (an:Option Addr) (cdv ct:Value) (us:List Value),us.length=ps.length->bindArgs (fnOf x qual (cZ st) (db st) (cm st) .none kV doc pm an cdv ct) ⟨us,[]⟩=pure (ps.zip us)):Binds K fd ps []:=by
 obtain ⟨oc,od,kV,doc,pm,an,cdv,ct,osl,rfl,lk,hcd⟩:=F.ex;exact .all (h kV doc pm an cdv ct)
theorem rl {x qual:Str}{st:Stmt}{f:Addr}{oc:Value}{od an:Option Addr}{osl:Array (Option Value)}{kV doc pm cdv ct:Value} (l:K.lookup f=some ⟨oc,od,.func (fnOf x qual (cZ st) (db st) (cm st) .none kV doc pm an cdv ct),osl⟩)
  (c:codeIn K cdv qual=true) (k:keepIn K (.ref f)=true):Fun K x qual st f (fnOf x qual (cZ st) (db st) (cm st) .none kV doc pm an cdv ct):=⟨⟨oc,od,kV,doc,pm,an,cdv,ct,osl,rfl,l,c⟩,k⟩
end
end L2
set_option maxHeartbeats 4000000
namespace DD
open PySem PySem.Spec PyProof.Rows L2
abbrev St:=L2.St
section
variable {X:Cx}{e:Expr}{es:List Expr}{st:Stmt}{sts:List Stmt}
theorem PE_imp {t t':TE} (h:PE X e t) (i:∀ σ H Q,t' σ H Q->t σ H Q):PE X e t':=fun GD s σ H Q I h'=>h GD s σ H Q I (i σ H Q h')
theorem PT_imp {t t':TT} (h:PT X e t) (i:∀ σ H Q,t' σ H Q->t σ H Q):PT X e t':=fun GD s σ H Q I h'=>h GD s σ H Q I (i σ H Q h')
theorem PW_imp {t t':TT} (h:PW X e t) (i:∀ σ H Q,t' σ H Q->t σ H Q):PW X e t':=fun wh GD s σ H Q I h'=>h wh GD s σ H Q I (i σ H Q h')
theorem PA_imp {t t':TA} (h:PA X es t) (i:∀ σ H Q,t' σ H Q->t σ H Q):PA X es t':=fun p GD s σ H Q I h'=>h p GD s σ H Q I (i σ H Q h')
theorem PS_imp {t t':TS} (h:PS X st t) (i:∀ D σ H,t' D σ H->t D σ H):PS X st t':=fun GD s σ H D I h'=>h GD s σ H D I (i D σ H h')
theorem PSs_imp {t t':TS} (h:PSs X sts t) (i:∀ D σ H,t' D σ H->t D σ H):PSs X sts t':=fun GD s σ H D I h'=>h GD s σ H D I (i D σ H h')
theorem OpR_imp {f:Value->Value->Sem Value}{r r':R2} (h:fr X f r) (i:∀ x y H Q,r' x y H Q->r x y H Q):fr X f r':=fun GD s σ H x y v u Q I a b h'=>h GD s σ H x y v u Q I a b (i x y H Q h')
end
theorem PG_imp {X:Cx}{tg:Expr}{t t':TG} (h:PG X tg t) (i:∀ v σ H Q,t' v σ H Q->t v σ H Q):PG X tg t':=fun GD s σ H v u Q I rv h'=>h GD s σ H v u Q I rv (i v σ H Q h')
end DD
namespace L2
open PySem PySem.Spec PyProof.Rows
theorem j8:∀ (names:List (Str × NameKind)) (n:Nat) (acc:List (Str × Addr)),∃ own,cellsFrom n names acc=own++acc/\(∀ p ∈ own,n <= p.2/\(p.1,NameKind.cell) ∈ names) /\
  (∀ x,(x,NameKind.cell) ∈ names->∃ c,(x,c) ∈ own)/\own.Pairwise fun x y=>x.2 ≠ y.2
 | [],n,acc=>⟨[],rfl,(fun _ h=>by cases h),(fun _ h=>by cases h),List.Pairwise.nil⟩
 | (name,kind)::r,n,acc=>by
  unfold cellsFrom;by_cases hk:kind=.cell
  ·subst hk
   obtain ⟨own,e,h1,h2,h3⟩:=j8 r (n + 1) ((name,n)::acc);refine ⟨own++[(name,n)],?_,?_,?_,?_⟩
   ·rw [yF dC,e,yJ];rfl
   ·intro p hp
    rcases zZ.mp hp with hp | hp
    ·exact ⟨Nat.le_of_succ_le (h1 p hp).1,zQ _ (h1 p hp).2⟩
    ·rw [zL.mp hp];exact ⟨zP _,z4⟩
   ·intro x hx
    rcases zT.mp hx with hx | hx
    ·cases hx;exact ⟨n,zK _ z4⟩
    ·obtain ⟨c,hc⟩:=h2 x hx;exact ⟨c,List.mem_append_left _ hc⟩
   ·refine List.pairwise_append.mpr ⟨h3,List.pairwise_singleton _ _,fun a ha b hb e=>?_⟩
    rw [zL.mp hb] at e;have h5:=(h1 a ha).1;rw [show a.2=n from e] at h5;exact absurd h5 (Nat.not_succ_le_self n)
  ·obtain ⟨own,e,h1,h2,h3⟩:=j8 r n acc
   have hk':(kind == NameKind.cell)=false:=by cases kind <;> first | rfl | exact absurd rfl hk
   refine ⟨own,by rw [hk'];exact e,fun p hp=>⟨(h1 p hp).1,zQ _ (h1 p hp).2⟩,fun x hx=>?_,h3⟩;rcases zT.mp hx with hx | hx
   ·cases hx;exact absurd rfl hk
   ·exact h2 x hx
theorem j7 {scope:Scope}{env:Env} (h:∀ x,(x,NameKind.free) ∈ scope.names->∃ c,env.cells.lookup x=some c) :
  ∃ cl,closureFor scope env=pure cl/\(∀ p ∈ cl,env.cells.lookup p.1=some p.2)/\∀ x,(x,NameKind.free) ∈ scope.names->∃ c,(x,c) ∈ cl:=by
 have all:∀ (names:List (Str × NameKind)) (acc:List (Str × Addr)),(∀ x,(x,NameKind.free) ∈ names->∃ c,env.cells.lookup x=some c)->(∀ p ∈ acc,env.cells.lookup p.1=some p.2) ->
   ∃ cl,(forIn (m:=Sem) names acc fun (p:Str × NameKind) (cs:List (Str × Addr))=>if (p.2 == NameKind.free)=true then do let __do_lift <- cellOf env p.1;pure (ForInStep.yield ((p.1,__do_lift)::cs)) else pure (ForInStep.yield cs))=pure cl /\
    (∀ p ∈ cl,env.cells.lookup p.1=some p.2)/\(∀ p ∈ acc,p ∈ cl)/\∀ x,(x,NameKind.free) ∈ names->∃ c,(x,c) ∈ cl:=by
  intro names
  induction names with
  | nil=>intro acc _ ha;exact ⟨acc,by rw [List.forIn_nil],ha,fun _ h=>h,(fun _ h=>by cases h)⟩
  | cons p r ih =>
   obtain ⟨name,kind⟩:=p;intro acc hn ha;by_cases hk:kind=.free
   ·subst hk
    obtain ⟨c,hc⟩:=hn name z4;obtain ⟨cl,e,h1,h2,h3⟩:=ih ((name,c)::acc) (fun x hx=>hn x (zQ _ hx)) (fun p hp=>by
     rcases zT.mp hp with rfl | hp
     ·exact hc
     ·exact ha p hp)
    refine ⟨cl,?_,h1,fun p hp=>h2 p (zQ _ hp),fun x hx=>?_⟩
    ·rw [List.forIn_cons]
     have ec:cellOf env name=pure c:=by unfold cellOf;rw [hc]
     simp only [ec];exact e
    ·rcases zT.mp hx with hx | hx
     ·cases hx;exact ⟨c,h2 _ z4⟩
     ·exact h3 x hx
   ·obtain ⟨cl,e,h1,h2,h3⟩:=ih acc (fun x hx=>hn x (zQ _ hx)) ha
    have hk':(kind == NameKind.free)=false:=by cases kind <;> first | rfl | exact absurd rfl hk
    refine ⟨cl,?_,h1,h2,fun x hx=>?_⟩
    ·rw [List.forIn_cons];simp only [hk',z6,if_false];exact e
    ·rcases zT.mp hx with hx | hx
     ·cases hx;exact absurd rfl hk
     ·exact h3 x hx
 obtain ⟨cl,e,h1,_,h3⟩:=all scope.names [] h (fun _ h=>by cases h);refine ⟨cl,?_,h1,h3⟩;simp only [closureFor];rw [e];rfl
theorem tX {M:Model}{A:Around}{E:Value->Shared->Prop}{s:Shared}{scope:Scope}{env:Env}{cl:List (Str × Addr)}{Q:Env->Shared->Prop}
  (hQ:Q (newEnv scope s.heap.objs.size env.globals (cellsFrom (s.heap.objs.size + 1) scope.names cl) env.qual none .none (some env) builtinsNs) { s with heap:=pushCells (s.heap.push { cls:=.type "dict",data:=.dict #[] }) scope.names }) :
  wpAny M A (newFunctionEnv scope env.globals cl [] env.qual none .none (some env)) Q E s:=by
 simp only [newFunctionEnv,Option.isSome_some,if_true];refine yC (wpAny_alloc ?_);refine yC (wpAny_layCells _ (fun name kind cells=>by cases hkc:kind == NameKind.cell <;> simp [hkc]) _ _ _ _ ?_);rw [show ({ s with heap:=s.heap.push { cls:=.type "dict",data:=.dict #[] } }:Shared).heap.objs.size=s.heap.objs.size + 1 from Heap.size_push ..];refine yC ?_;rw [List.forIn_nil];exact yD (yD hQ)
def b0 (X:Cx) (N':List Str) (scope:Scope) (cl:List (Str × Addr)) (s:Shared) (H:Hp) (fp:List Addr) (GD:List (Addr × Obj)):Cx :=
 { X with N:=N',s₀:=s,H₀:=H,env:=compEnvC scope (cellsFrom (s.heap.objs.size + 1) scope.names cl) s.heap.objs.size X.env,outer:=X.stack,stack:=X.stack,ex:=fp,
          fn:=fun x=>scope.names.lookup x == some .cell,pn:=X.pn++GD,xe:=fun _ _=>False }
structure iq (X:Cx) (N':List Str) (scope:Scope):Prop where
 kind:scope.kind=.function
 nd:(scope.names.map (·.1)).Nodup
 len:X.N.length <= N'.length
 free:∀ x,(x,NameKind.free) ∈ scope.names->X.env.kindOf x=some .cell\/X.env.kindOf x=some .free
 same:∀ i x,i < X.N.length->N'[i]?=some x->(x,NameKind.free) ∈ scope.names->X.N[i]?=some x
 hid:∀ i x,i < X.N.length->N'[i]?=some x->(∃ k,(x,k) ∈ scope.names)->(x,NameKind.free) ∈ scope.names
theorem cE {α:Type}:∀ {l:List (Str × α)}{x:Str}{k:α},(l.map (·.1)).Nodup->(x,k) ∈ l->l.lookup x=some k
 | (y,j)::r,x,k,nd,h=>by
  rw [zO,List.nodup_cons] at nd;rcases zT.mp h with h | h
  ·cases h;rw [yK];simp
  ·have ne:x ≠ y:=fun e=>nd.1 (e ▸ List.mem_map_of_mem (f:=(·.1)) h)
   rw [yK];have:(x == y)=false:=by simpa using ne
   rw [this];exact cE nd.2 h
theorem d7 {α:Type}:∀ {l:List (Str × α)}{x:Str}{k:α},(x,k) ∈ l->∃ k',l.lookup x=some k'
 | (y,j)::r,x,k,h=>by
  rw [yK];cases hb:x == y with
  | true=>exact ⟨j,rfl⟩
  | false =>
   rcases zT.mp h with h | h
   ·cases h;simp at hb
   ·exact d7 h
theorem d0 {scope:Scope}{env:Env}{x:Str}{k:NameKind} (h:(relabel scope env).names.lookup x=some k):(x,k) ∈ scope.names\/((x,NameKind.free) ∈ scope.names/\k=.cell):=by
 have h1:=mem_of_lookup h;unfold relabel at h1;obtain ⟨⟨n,j⟩,hm,e⟩:=yA.mp h1;dsimp only at e;split at e
 ·rename_i hc
  cases e;refine .inr ⟨?_,rfl⟩;have:j=.free:=by
   cases j <;> simp at hc <;> rfl
  subst this;exact hm
 ·cases e;exact .inl hm
theorem lF {α:Type}{a b:List (Str × α)}{x:Str} (h:∀ p ∈ a,p.1 ≠ x):(a++b).lookup x=b.lookup x:=by
 induction a with
 | nil=>rfl
 | cons p r ih =>
  obtain ⟨y,j⟩:=p;rw [List.cons_append,yK];have:(x == y)=false:=by
   have:=h (y,j) z4
   simpa using fun e:x=y=>this e.symm
  rw [this];exact ih fun p hp=>h p (zQ _ hp)
section
variable {X:Cx}{N':List Str}{scope:Scope}{cl:List (Str × Addr)}{s:Shared}{H:Hp}{fp:List Addr}{GD:List (Addr × Obj)}{σ:St}
theorem uy (T:iq X N' scope) (I:Inv X GD σ H s) (hcl:∀ p ∈ cl,X.env.cells.lookup p.1=some p.2) (hfr:∀ x,(x,NameKind.free) ∈ scope.names->∃ c,(x,c) ∈ cl)
  (hf:∀ b ∈ fp,c5 X GD H b) (ho:∀ b ∈ fp,∃ o,s.heap.get? b=some o) :
  Inv (b0 X N' scope cl s H fp GD) [] (σ++List.replicate (N'.length - X.N.length) none) H { s with heap:=pushCells (s.heap.push { cls:=.type "dict",data:=.dict #[] }) scope.names }:=by
 obtain ⟨own,eo,o1,o2,o3⟩:=j8 scope.names (s.heap.objs.size + 1) cl;have keep:∀ b o,s.heap.get? b=some o->(pushCells (s.heap.push { cls:=.type "dict",data:=.dict #[] }) scope.names).get? b=some o:=fun b o e=>pushCells_keeps _ _ b o (zG _ e)
 have clt:∀ x c,(x,c) ∈ cl->c < s.heap.objs.size:=fun x c h=>by
  obtain ⟨v,z⟩:=I.cell x c (hcl _ h);exact z.lt
 -- what a cell of the block is
 have cases_:∀ x c,(own++cl).lookup x=some c->(s.heap.objs.size + 1 <= c/\(x,c) ∈ own)\/X.env.cells.lookup x=some c:=fun x c h=>by
  rcases zZ.mp (mem_of_lookup h) with h | h
  ·exact .inl ⟨(o1 _ h).1,h⟩
  ·exact .inr (hcl _ h)
 have hst:∀ b ∈ fp,b ∉ gf X.stack:=fun b hb z=>by
  rcases zT.mp (I.stkSub b z) with e | e
  ·exact (hf b hb).2.1 e
  ·exact (hf b hb).2.2.1 e
 have okc:CellsOk (pushCells (s.heap.push { cls:=.type "dict",data:=.dict #[] }) scope.names) (s.heap.objs.size + 1) (cellsFrom (s.heap.objs.size + 1) scope.names []):=by
  have q:=cellsFrom_ok scope.names (s.heap.push { cls:=.type "dict",data:=.dict #[] }) (s.heap.objs.size + 1) [] ⟨(fun _ _ hm=>by cases hm),List.Pairwise.nil⟩ (by rw [Heap.size_push];exact zP _);rw [Heap.size_push] at q;exact q
 have eown:cellsFrom (s.heap.objs.size + 1) scope.names []=own:=by
  obtain ⟨own',e',_⟩:=j8 scope.names (s.heap.objs.size + 1) [];have gen:∀ (names:List (Str × NameKind)) (n:Nat) (acc:List (Str × Addr)),cellsFrom n names acc=cellsFrom n names []++acc:=by
   intro names
   induction names with
   | nil=>intro n acc;rfl
   | cons p r ih =>
    obtain ⟨name,kind⟩:=p;intro n acc;unfold cellsFrom;split
    ·rw [ih (n + 1) ((name,n)::acc),ih (n + 1) [(name,n)],yJ];rfl
    ·exact ih n acc
  have:=gen scope.names (s.heap.objs.size + 1) cl
  rw [eo] at this;exact (List.append_cancel_right this).symm
 have ok:(b0 X N' scope cl s H fp GD).Ok:=by
  refine ⟨I.ok.mod,T.kind,I.ok.glob,I.ok.blt,zP _,fun x y c h1 h2=>?_,fun x h=>?_,fun x c h1 h2=>?_,I.ok.hd,I.ok.frames,.inl rfl,fun b hb=>⟨?_,fun x c h=>?_⟩,I.bs,z0 I.ok.bsz I.sz,fun b o e hb=>?_,hst,I.stack,I.stkFree⟩
  ·have h1:(own++cl).lookup x=some c:=eo ▸ h1
   have h2:(own++cl).lookup y=some c:=eo ▸ h2;rcases cases_ x c h1 with ⟨l1,m1⟩ | e1
   ·rcases cases_ y c h2 with ⟨l2,m2⟩ | e2
    ·exact name_of_addr o3 m1 m2
    ·obtain ⟨v,z⟩:=I.cell y c e2
     exact absurd (zJ z.lt (Nat.le_of_succ_le (by first | exact l2 | exact l1))) (yS _)
   ·rcases cases_ y c h2 with ⟨l2,m2⟩ | e2
    ·obtain ⟨v,z⟩:=I.cell x c e1
     exact absurd (zJ z.lt (Nat.le_of_succ_le (by first | exact l2 | exact l1))) (yS _)
    ·exact I.ok.inj x y c e1 e2
  ·show ∃ c,(cellsFrom (s.heap.objs.size + 1) scope.names cl).lookup x=some c
   rw [eo];have fromFree:(x,NameKind.free) ∈ scope.names->∃ c,(own++cl).lookup x=some c:=fun hm=>by
    obtain ⟨c,hc⟩:=hfr x hm;exact d7 (zK own hc)
   have fromCell:(x,NameKind.cell) ∈ scope.names->∃ c,(own++cl).lookup x=some c:=fun hm=>by
    obtain ⟨c,hc⟩:=o2 x hm;exact d7 (List.mem_append_left cl hc)
   rcases h with h | h
   ·rcases d0 h with h | ⟨h,_⟩
    ·exact fromCell h
    ·exact fromFree h
   ·rcases d0 h with h | ⟨h,e⟩
    ·exact fromFree h
    ·cases e
  ·have h2:(own++cl).lookup x=some c:=eo ▸ h2
   have hc:scope.names.lookup x=some .cell:=by
    have:(scope.names.lookup x == some NameKind.cell)=true:=h1;simpa using this
   rcases cases_ x c h2 with ⟨l1,m1⟩ | e1
   ·exact Nat.le_of_succ_le l1
   ·-- x is one of the block's own: GH cell stands ahead
    obtain ⟨c',hc'⟩:=o2 x (mem_of_lookup hc);obtain ⟨c2,hc2⟩:=d7 hc';have:(own++cl).lookup x=some c2:=by
     have gen:∀ l:List (Str × Addr),l.lookup x=some c2->(l++cl).lookup x=some c2:=by
      intro l
      induction l with
      | nil=>intro h;cases h
      | cons p r ih =>
       obtain ⟨y,j⟩:=p;intro h;rw [List.cons_append,yK];rw [yK] at h;cases hb:x == y with
       | true=>rw [hb] at h;exact h
       | false=>rw [hb] at h;exact ih h
     exact gen own hc2
    rw [this] at h2;cases h2;exact Nat.le_of_succ_le (o1 _ (mem_of_lookup hc2)).1
  ·obtain ⟨o,e⟩:=ho b hb
   exact zU (yG e)
  ·have h:(own++cl).lookup x=some c:=eo ▸ h
   obtain ⟨o,e⟩:=ho b hb;have hlt:=yG e;rcases cases_ x c h with ⟨l1,m1⟩ | e1
   ·intro z
    rw [z] at l1;exact absurd (zJ hlt (Nat.le_of_succ_le l1)) (yS _)
   ·exact (hf b hb).2.2.2.2.1 x c e1
  ·rcases (hf b hb).2.2.2.1 with z | z
   ·exact I.ok.noex b o e z
   ·exact absurd (zJ (yG e) (z0 I.ok.bsz z)) (yS _)
 refine ⟨ok,rfl,I.bare,Un.kept keep,⟨fun _=>none,(Heap.Ns.new s.heap (.type "dict")).keeps (pushCells_keeps _ _),fun i x v e1 e2 e3=>?_⟩,fun x c h=>?_,I.GJ.fresh (zP _),fun x c h=>?_,fun p hp=>?_,I.GJ.kept keep,?_⟩
 ·-- a name of the code around
  have hlen:=I.len;have hi:i < σ.length:=by
   rcases yO i σ.length with h | h
   ·exact h
   ·rw [z3 h] at e2
    rw [List.getElem?_replicate] at e2;split at e2 <;> cases e2
  rw [zN hi] at e2;have hmem:∃ k,(x,k) ∈ scope.names:=by
   have:∃ k,(relabel scope X.env).names.lookup x=some k:=by
    rcases e3 with h | h | h <;> exact ⟨_,h⟩
   obtain ⟨k,h⟩:=this;rcases d0 h with h | ⟨h,_⟩ <;> exact ⟨_,h⟩
  have hfree:=T.hid i x oM e1 hmem;have eX:=T.same i x oM e1 hfree;have kX:=T.free x hfree;obtain ⟨m,hn,hl⟩:=I.loc;obtain ⟨u,ru,lk⟩:=hl i x v eX e2 (by rcases kX with h | h;exact .inr (.inl h);exact .inr (.inr h));refine ⟨u,ru,.inr ⟨?_,?_⟩⟩
  ·-- GH kind in the block
   have:∃ k,(relabel scope X.env).names.lookup x=some k:=by
    rcases e3 with h | h | h <;> exact ⟨_,h⟩
   obtain ⟨k,h⟩:=this;rcases d0 h with h' | ⟨h',e⟩
   ·have e5:=cE T.nd h'
    have e6:=cE T.nd hfree;rw [e5] at e6;cases e6;exact .inr h
   ·subst e;exact .inl h
  ·rcases lk with ⟨k1,_⟩ | ⟨_,c,hc,z⟩
   ·rcases kX with h | h <;> rw [h] at k1 <;> cases k1
   ·refine ⟨c,?_,z.keeps keep⟩
    show (cellsFrom (s.heap.objs.size + 1) scope.names cl).lookup x=some c;rw [eo,lF fun p hp e=>?_]
    ·obtain ⟨c',hc'⟩:=hfr x hfree
     obtain ⟨c2,hc2⟩:=d7 hc'
     have:=hcl _ (mem_of_lookup hc2)
     rw [hc] at this;cases this;exact hc2
    ·have e5:=cE T.nd (o1 p hp).2
     rw [e] at e5;have e6:=cE T.nd hfree;rw [e5] at e6;cases e6
 ·have h:(own++cl).lookup x=some c:=eo ▸ h
  rcases cases_ x c h with ⟨l1,m1⟩ | e1
  ·exact ⟨none,(okc.empty x c (eown ▸ m1)).1⟩
  ·obtain ⟨v,z⟩:=I.cell x c e1
   exact ⟨v,z.keeps keep⟩
 ·have h:(own++cl).lookup x=some c:=eo ▸ h
  rcases cases_ x c h with ⟨l1,m1⟩ | e1
  ·exact I.GJ.fresh (Nat.le_of_succ_le l1)
  ·exact I.freeC x c e1
 ·rw [List.append_nil] at hp
  obtain ⟨e,n,ne,nf,d⟩:=I.pin p hp;refine ⟨keep _ _ e,n,zU (yG e),fun z=>?_,d⟩;rcases zT.mp (I.stkSub p.1 z) with z | z
  ·exact ne z
  ·exact nf z
 ·show (σ++List.replicate (N'.length - X.N.length) none).length=N'.length
  rw [zV,List.length_replicate,I.len]
  have:=T.len
  omega
theorem Ba {σ1:St}{H1:Hp}{s1:Shared}{h':Heap}{pins1:List (Addr × Obj)} (I:Inv X GD σ H s) (hf:∀ b ∈ fp,c5 X GD H b) (I1:Inv (b0 X N' scope cl s H fp GD) pins1 σ1 H1 s1) (hs:Heap.SameBut s.heap.objs.size s1.heap h') :
  Inv X GD σ H1 { s1 with heap:=h' }:=by
 have hC:∀ b o,s.heap.get? b=some o->b ≠ s.heap.objs.size:=fun b o e=>zU (yG e)
 have u:=I1.base;have u2:Un (gf X.stack) fp H H1 s.heap h':=by
  refine ⟨fun b o e n hb hx=>?_,fun b o e n hb hx=>?_,u.free,fun b o e hx=>?_,u.tups,u.frzs,u.tbls⟩
  ·rw [hs.2 b (hC b o e)];exact u.keep b o e n hb hx
  ·obtain ⟨sl,q⟩:=u.slot b o e n hb hx
   exact ⟨sl,by rw [hs.2 b (hC b o e)];exact q⟩
  ·obtain ⟨o',q⟩:=u.there b o e hx
   exact ⟨o',by rw [hs.2 b (hC b o e)];exact q⟩
 have hCf:H1 s.heap.objs.size=none:=I1.free;refine I.call' (s':={ s1 with heap:=h' }) I1.os u2 (fun b o e=>?_) I1.bare fun b hb=>⟨(hf b hb).2.2.2.1,(hf b hb).2.1,(hf b hb).2.2.2.2.1,(hf b hb).2.2.2.2.2⟩
 refine (I1.GJ b o e).stay (fun c v hc q=>(hs.2 c ?_).trans q) (fun _ q=>q) fun _ _ q=>q
 rintro rfl;rcases hc with z | z
 ·rw [<- z,hCf] at e;cases e
 ·rw [hCf] at z;cases z
def oH (X:Cx) (ifs:List Expr) (t:TT):Prop :=
 ∀ (GD:List (Addr × Obj)) (s:Shared) (σ:St) (H:Hp) (Q:Bool->Hp->Prop),Inv X GD σ H s->t σ H Q ->
  wpAny (model X.prog X.w) X.A (forIn ifs true fun c r=>if r=true then do let ok <- isTrue c X.env (eval c X.env);pure (ForInStep.yield ok) else pure (ForInStep.yield r)) (TP X GD σ Q) X.xe s
theorem wn:oH X [] (fun _ H Q=>Q true H):=fun GD s σ H Q I h=>wpAny_tests_nil ⟨H,I,h⟩
theorem wm {c:Expr}{t:TT} (h:PT X c t):oH X [c] t:=fun GD s σ H Q I h'=>wpAny_tests_one (h GD s σ H Q I h')
def xX (k:Nat) (wi:TI) (g:TG) (tt:TT) (te:TE):TE:=fun σ H Q=>wi σ H fun J H1=>∀ p,H1 p=none ->
 ∃ W:Nat->Nat->St->Hp->Prop,(∃ m,W 0 m (σ++List.replicate k none) (am H1 p (.lst [])))/\∀ i m σ' H',W i m σ' H' ->
  (J.stop i H'/\Q (.ref p) H')\/(J.go i H'/\∀ x H2,J.yld i H' x H2->g x σ' H2 fun σ2 H3=>tt σ2 H3 fun ok H4=>if ok=true then
   te σ2 H4 fun y H5=>∃ ys,H5 p=some (.lst ys)/\ys.length < sizeLine/\∃ m',m' < m/\W (i + 1) m' σ2 (am H5 p (.lst (ys++[y])))
   else ∃ m',m' < m/\W (i + 1) m' σ2 H4)
theorem mO {prog:Program}{w:World}{A:Around}{R:Result->Shared->Prop}{s:Shared}{elt target iter:Expr}{ifs:List Expr}{scope:Scope}{pos:Pos}{it acc:Value}{env:Env} (I:Nat->Shared->Prop)
  (turn:∀ n s,I n s->wpAny (model prog w) A (pyNext it) (fun r s₁=>match r with
   | none=>R (.ok .next) s₁
   | some v=>wpAny (model prog w) A (letOwnedTupleGo target it v) (fun _ s₁'=>wpAny (model prog w) A (assign target env v) (fun _ s₂ =>
     wpAny (model prog w) A (forIn ifs true fun c r=>if r=true then do let ok <- isTrue c env (eval c env);pure (ForInStep.yield ok) else pure (ForInStep.yield r)) (fun ok s₃ =>
      if ok=true then wpAny (model prog w) A (eval elt env) (fun x s₄ =>
       wpAny (model prog w) A (call (.builtin "list.append") [acc,x]) (fun _ s₅=>∃ m,m < n/\I m s₅) (fun _ _=>False) s₄) (fun _ _=>False) s₃
      else ∃ m,m < n/\I m s₃) (fun _ _=>False) s₂) (fun _ _=>False) s₁') (fun _ _=>False) s₁) (fun _ _=>False) s)
  (n:Nat) (h:I n s):codeAny (model prog w) A (.compLoop (.ListComp elt [⟨target,iter,ifs,0⟩] scope pos) 0 it acc env) R s:=by
 refine codeAny_loop rfl I (fun n s hI=>?_) n h;show wpAny _ A ((compTurn (.ListComp elt [⟨target,iter,ifs,0⟩] scope pos) 0 it acc env).onRaise (fun x=>do noteFrame x env;theTreesLotGoes x)) _ _ s;refine wpAny_noted ?_;rw [compTurn_list];refine yC (wpAny_standAt (yC (yN (turn n s hI) (fun r s₁ h₁=>?_) fun _ _ h'=>h'.elim)));cases r with
 | none=>exact yD h₁
 | some v =>
  refine yC (yN h₁ (fun _ s₁' h₁'=>?_) fun _ _ h'=>h'.elim);refine yC (yN h₁' (fun _ s₂ h₂=>yC (yN h₂ (fun ok s₃ h₃=>?_) fun _ _ h'=>h'.elim)) fun _ _ h'=>h'.elim);cases ok with
  | false=>exact yD ⟨rfl,h₃⟩
  | true =>
   exact yC (yC (yN h₃ (fun x s₄ h₄=>yC (yN h₄ (fun _ s₅ h₅=>yD (yD ⟨rfl,h₅⟩)) fun _ _ h'=>h'.elim)) fun _ _ h'=>h'.elim))
theorem mE {elt iter tg:Expr}{ifs:List Expr}{pos:Pos}{g:TG}{tt:TT}{te:TE}{J:It}{it:Addr}{tn:Nat->Heap->Prop}{Q:VK}{E:Value->Shared->Prop}{RR:Value->Addr->Result->Shared->Prop}
  (hc:X.calm=true) (T:iq X N' scope) (hcl:∀ p ∈ cl,X.env.cells.lookup p.1=some p.2) (hfr:∀ x,(x,NameKind.free) ∈ scope.names->∃ c,(x,c) ∈ cl)
  (hg:∀ cl s H fp GD,PG (b0 X N' scope cl s H fp GD) tg g) (ht:∀ cl s H fp GD,oH (b0 X N' scope cl s H fp GD) ifs tt) (he:∀ cl s H fp GD,PE (b0 X N' scope cl s H fp GD) elt te)
  (I:Inv X GD σ H s) (Tn:fV X.prog X.w X.K tg J fp it tn) (st0:tn 0 s.heap) (hf:∀ b ∈ fp,c5 X GD H b)
  (h:∀ p,H p=none->∃ W:Nat->Nat->St->Hp->Prop,(∃ m,W 0 m (σ++List.replicate (N'.length - X.N.length) none) (am H p (.lst [])))/\∀ i m σ' H',W i m σ' H' ->
   (J.stop i H'/\Q (.ref p) H')\/(J.go i H'/\∀ x H2,J.yld i H' x H2->g x σ' H2 fun σ2 H3=>tt σ2 H3 fun ok H4=>if ok=true then
    te σ2 H4 fun y H5=>∃ ys,H5 p=some (.lst ys)/\ys.length < sizeLine/\∃ m',m' < m/\W (i + 1) m' σ2 (am H5 p (.lst (ys++[y])))
    else ∃ m',m' < m/\W (i + 1) m' σ2 H4))
  (hRR:∀ p C s1 H1,Inv X GD σ H1 s1->Q (.ref p) H1->(∃ m,s1.heap.Ns C m)->H1 C=none->s.heap.objs.size <= C->RR (.ref p) C (.ok .next) s1) :
  wpAny (model X.prog X.w) X.A (newList []) (fun acc s₃=>wpAny (model X.prog X.w) X.A (newFunctionEnv scope X.env.globals cl [] X.env.qual none .none (some X.env)) (fun cenv s₄ =>
   codeAny (model X.prog X.w) X.A (.compStart (.ListComp elt [⟨tg,iter,ifs,0⟩] scope pos) 0 (.ref it) acc { cenv with scope:=relabel scope X.env }) (RR acc cenv.locals) s₄) E s₃) E s:=by
 refine wpAny_newObj_type (tX ?_);have hp:H s.heap.objs.size=none:=I.fresh;obtain ⟨W,⟨m0,w0⟩,turn⟩:=h _ hp;have I2:Inv X GD σ (am H s.heap.objs.size (.lst [])) { s with heap:=s.heap.push { cls:=.type "list",data:=.seq ([]:List Value).toArray } }:=Inv.lnew (t':=s.toks) (GH:=[]) (ys:=[]) I .nil (Nat.zero_le _);have hf2:∀ b ∈ fp,c5 X GD (am H s.heap.objs.size (.lst [])) b:=fun b hb=>by
  obtain ⟨o,e,_⟩:=Tn.obj _ _ st0 b hb;exact ⟨by rw [af (zU (yG e))];exact (hf b hb).1,(hf b hb).2⟩
 have ho2:∀ b ∈ fp,∃ o,(s.heap.push { cls:=.type "list",data:=.seq ([]:List Value).toArray }:Heap).get? b=some o:=fun b hb=>by
  obtain ⟨o,e,_⟩:=Tn.obj _ _ st0 b hb;exact ⟨o,zG _ e⟩
 have I3:=uy T I2 hcl hfr hf2 ho2;have st3:tn 0 (pushCells ((s.heap.push { cls:=.type "list",data:=.seq ([]:List Value).toArray }).push { cls:=.type "dict",data:=.dict #[] }) scope.names) :=
  Tn.keep _ _ _ st0 fun b hb o e=>pushCells_keeps _ _ b o (zG _ (zG _ e))
 generalize hs2:({ s with heap:=s.heap.push { cls:=.type "list",data:=.seq ([]:List Value).toArray } }:Shared)=s2 at I2 I3;have hC:s.heap.objs.size <= s2.heap.objs.size:=by rw [<- hs2];exact yR (by show _ < (s.heap.push _).objs.size;rw [Heap.size_push];exact Nat.lt_succ_self _)
 have stat:∀ {H':Hp},(∀ b ∈ fp,H' b=none)->∀ b ∈ fp,c5 (b0 X N' scope cl s2 (am H s.heap.objs.size (.lst [])) fp GD) [] H' b:=fun {H'} hn b hb=>by
  refine ⟨hn b hb,(I3.ok.exf b hb).1,I3.ok.exfs b hb,.inl hb,(I3.ok.exf b hb).2,fun p hp=>?_⟩;rw [List.append_nil] at hp;exact (hf b hb).2.2.2.2.2 p hp
 have loop:∀ s4,s4=({ s2 with heap:=pushCells (s2.heap.push { cls:=.type "dict",data:=.dict #[] }) scope.names }:Shared) ->
   codeAny (model X.prog X.w) X.A (.compLoop (.ListComp elt [⟨tg,iter,ifs,0⟩] scope pos) 0 (.ref it) (.ref s.heap.objs.size) (b0 X N' scope cl s2 (am H s.heap.objs.size (.lst [])) fp GD).env) (RR (.ref s.heap.objs.size) s2.heap.objs.size) s4:=by
  rintro s4 rfl;refine mO (fun n s'=>∃ i σ' H',Inv (b0 X N' scope cl s2 (am H s.heap.objs.size (.lst [])) fp GD) [] σ' H' s'/\tn i s'.heap/\(∀ b ∈ fp,H' b=none)/\W i n σ' H') ?_ m0
   ⟨0,_,_,I3,by subst hs2;exact st3,fun b hb=>(hf2 b hb).1,w0⟩
  rintro n s3 ⟨i,σ3,H3,I4,st4,fr4,w4⟩;rcases turn i n σ3 H3 w4 with ⟨stop,qn⟩ | ⟨go,step⟩
  ·refine aB (Tn.done (b0 X N' scope cl s2 (am H s.heap.objs.size (.lst [])) fp GD) rfl rfl rfl hc i [] s3 σ3 H3 (fun _ _=>False) I4 (stat fr4) st4 stop) fun r s5 hq0=>?_
   obtain ⟨hr,I5⟩:=hq0;subst hr;obtain ⟨m,hn,_⟩:=I5.loc;exact hRR _ _ s5 H3 (Ba I2 hf2 I5 (Heap.SameBut.refl _ _)) qn ⟨m,hn⟩ I5.free hC
  ·refine aB (Tn.item (b0 X N' scope cl s2 (am H s.heap.objs.size (.lst [])) fp GD) rfl rfl rfl hc i [] s3 σ3 H3 (fun _ _=>False) I4 (stat fr4) st4 go) fun r s5 hq0=>?_
   obtain ⟨u,hr,h5⟩:=hq0;subst hr;refine aB h5 fun _ s6 hq0=>?_
   obtain ⟨x,H6,I6,r6,y6,st6,fr6⟩:=hq0;have I6':=I6.pinned (stat fr6) (Tn.obj _ _ st6);have again:∀ {σ7:St}{H7:Hp}{s7:Shared}{m':Nat},Inv (b0 X N' scope cl s2 (am H s.heap.objs.size (.lst [])) fp GD) ([]++gZ fp s6.heap) σ7 H7 s7->m' < n->W (i + 1) m' σ7 H7 ->
     ∃ m,m < n/\∃ i σ' H',Inv (b0 X N' scope cl s2 (am H s.heap.objs.size (.lst [])) fp GD) [] σ' H' s7/\tn i s7.heap/\(∀ b ∈ fp,H' b=none)/\W i m σ' H':=fun {σ7 H7 s7 m'} I7 hm w7=>by
    refine ⟨m',hm,i + 1,σ7,H7,I7.unpinned,Tn.keep _ _ _ st6 fun b hb o e=>(I7.pin (b,o) (zK _ (zK _ (eI hb e)))).1,fun b hb=>?_,w7⟩;obtain ⟨o,e,d⟩:=Tn.obj _ _ st6 b hb;exact (I7.pin (b,o) (zK _ (zK _ (eI hb e)))).2.1
   refine aB (hg _ _ _ _ _ _ s6 σ3 H6 x u _ I6' r6 (step x H6 y6)) fun _ s7 hq0=>?_
   obtain ⟨σ7,H7,I7,q7⟩:=hq0;refine aB (ht _ _ _ _ _ _ s7 σ7 H7 _ I7 q7) fun ok s8 hq0=>?_
   obtain ⟨H8,I8,q8⟩:=hq0;cases ok with
   | false =>
    simp only [z6,if_false] at q8 ⊢;obtain ⟨m',hm,w8⟩:=q8;exact again I8 hm w8
   | true =>
    simp only [if_true] at q8 ⊢;refine aB (he _ _ _ _ _ _ s8 σ7 H8 _ I8 q8) fun y s9 hq0=>?_
    obtain ⟨yv,H9,I9,r9,ys,e9,l9,m',hm,w9⟩:=hq0;refine aB (k7 _ s9 σ7 H9 (.ref s.heap.objs.size) [yv] (.ref s.heap.objs.size) [y] (fun _ H'=>H'=am H9 s.heap.objs.size (.lst (ys++[yv]))) I9 rfl (.cons r9 .nil) ⟨_,ys,yv,rfl,rfl,e9,l9,rfl⟩) fun _ s10 hq0=>?_
    obtain ⟨_,H10,I10,_,e10⟩:=hq0;subst e10;exact again I10 hm w9
 have st5:tn 0 (pushCells (s2.heap.push { cls:=.type "dict",data:=.dict #[] }) scope.names):=by subst hs2;exact st3
 have aw:=codeAny_compStart_list (loop _ rfl) (Tn.self X.A 0 _ _ (notedBy (model X.prog X.w) X.A (b0 X N' scope cl s2 (am H s.heap.objs.size (.lst [])) fp GD).env fun x s'=>RR (.ref s.heap.objs.size) s2.heap.objs.size (.error x) s') st5 (loop _ rfl));subst hs2;exact aw
end
section
variable {X:Cx}{N':List Str}{scope:Scope}{GD:List (Addr × Obj)}{σ:St}{elt iter tg:Expr}{ifs:List Expr}{pos:Pos}{wi:TI}{g:TG}{tt:TT}{te:TE}
theorem mD (T:iq X N' scope):∀ x ∈ scope.names,x.2=.local->scope.names.lookup x.1=some .local:=fun x hx e=>by
 obtain ⟨n,k⟩:=x;cases e;exact cE T.nd hx
theorem Ch (hc:X.calm=true) (T:iq X N' scope) (hi:PI X tg iter wi) (hg:∀ cl s H fp GD,PG (b0 X N' scope cl s H fp GD) tg g) (ht:∀ cl s H fp GD,oH (b0 X N' scope cl s H fp GD) ifs tt)
  (he:∀ cl s H fp GD,PE (b0 X N' scope cl s H fp GD) elt te) (hs:∀ x,foldedSetIterable iter X.env x=pure x:=by intro _;rfl) :
  PE X (.ListComp elt [⟨tg,iter,ifs,0⟩] scope pos) (xX (N'.length - X.N.length) wi g tt te):=by
 intro GD s σ H Q I h;obtain ⟨cl,hclos,hcl,hfr⟩:=j7 (scope:=scope) (env:=X.env) fun x hx=>I.ok.has x (T.free x hx)
 rw [eval_ListComp];refine wpAny_comprehension_free (use:=none) rfl hs hclos T.kind (mD T) (yN (hi GD s σ H _ I h) (fun xv s1 h1=>yN h1 (fun itv s2 h2=>?_) fun _ _ e=>e) fun _ _ e=>e);obtain ⟨it,fp,tn,J,H2,rfl,I2,Tn,st2,f2,R⟩:=h2;refine mE (Q:=Q) (RR:=fun acc C=>compPost (model X.prog X.w) X.A X.xe none (EP X GD σ Q) acc C) hc T hcl hfr hg ht he I2 Tn st2 f2 R ?_;rintro p C s3 H3 I3 q ⟨m,hn⟩ hC hle;refine ⟨m,hn,fun h' hs'=>⟨.ref p,H3,?_,rfl,q⟩⟩;refine I3.turned (t':=s3.toks) (it:=C) (fun b o hb e=>(hs'.2 b hb).trans e) hC ?_ (.inr (z0 I2.sz hle)) (fun x c e=>?_) fun p hp=>?_
 ·exact Ne.symm (zU (zJ I2.lt hle))
 ·obtain ⟨v,z⟩:=I2.cell x c e
  exact zU (zJ z.lt hle)
 ·exact zU (zJ (yG (I2.pin p hp).1) hle)
theorem qp {i:Nat}{y:Str}{py spos:Pos} (hN:X.N.Nodup) (hiN:X.N[i]?=some y) (hx:Loc X.env.scope y) (hsw:swapsWith (.ListComp elt [⟨tg,iter,ifs,0⟩] scope pos) (some (.Name y py)) spos.line X.env=pure true)
  (hc:X.calm=true) (T:iq X N' scope) (hi:PI X tg iter wi) (hg:∀ cl s H fp GD,PG (b0 X N' scope cl s H fp GD) tg g) (ht:∀ cl s H fp GD,oH (b0 X N' scope cl s H fp GD) ifs tt)
  (he:∀ cl s H fp GD,PE (b0 X N' scope cl s H fp GD) elt te) (hs:∀ x,foldedSetIterable iter X.env x=pure x:=by intro _;rfl) (hf:X.fn y=true\/X.env.scope.names.lookup y=some .local:=by first | exact .inl rfl | exact .inr rfl | assumption) :
  PS X (.Assign [.Name y py] (.ListComp elt [⟨tg,iter,ifs,0⟩] scope pos) spos) (oT (xX (N'.length - X.N.length) wi g tt te) (jW i)):=by
 intro GD s σ H D I h;obtain ⟨cl,hclos,hcl,hfr⟩:=j7 (scope:=scope) (env:=X.env) fun x hx=>I.ok.has x (T.free x hx)
 rw [exec_Assign_Name_used _ _ _ _ hsw];refine yC (wpAny_standAt (yC ?_));show wpAny _ X.A (do let _ <- comprehension (.ListComp elt [⟨tg,iter,ifs,0⟩] scope pos) scope X.env _ (newList []) false (eval iter X.env) (some (assign (.Name y py) X.env))) _ _ s;refine yC (yN (wpAny_comprehension_free (use:=some (assign (.Name y py) X.env)) (Q:=fun _ s'=>SP X GD D .next s') rfl hs hclos T.kind (mD T)
  (yN (hi GD s σ H _ I h) (fun xv s1 h1=>yN h1 (fun itv s2 h2=>?_) fun _ _ e=>e) fun _ _ e=>e)) (fun _ s' hq=>yD (yD hq)) fun _ _ e=>e)
 obtain ⟨it,fp,tn,J,H2,rfl,I2,Tn,st2,f2,R⟩:=h2;refine mE (Q:=fun x H1=>jW i x σ H1 D.nx) (RR:=fun acc C=>compPost (model X.prog X.w) X.A X.xe (some (assign (.Name y py) X.env)) (fun _ s'=>SP X GD D .next s') acc C) hc T hcl hfr hg ht he I2 Tn st2 f2 R ?_;rintro p C s3 H3 I3 q ⟨m,hn⟩ hC hle;have hCL:C ≠ X.env.locals:=Ne.symm (zU (zJ I2.lt hle));have hCc:∀ x c,X.env.cells.lookup x=some c->c ≠ C:=fun x c e=>by
  obtain ⟨v,z⟩:=I2.cell x c e;exact zU (zJ z.lt hle)
 show wpAny _ X.A (assign (.Name y py) X.env (.ref p)) _ _ _;refine wpAny_assign_Name (kZ (v:=.ref p) I3 hN hiN hx rfl (fun s4 I4 hq0=>?_) hf);obtain ⟨a,sb,ha⟩:=hq0;have hne:C ≠ a:=by
  rcases ha with e | e
  ·rw [e];exact hCL
  ·exact (hCc _ _ e).symm
 refine ⟨m,hn.sameBut sb hne,fun h' hs'=>⟨_,H3,?_,q⟩⟩;refine I4.turned (t':=s4.toks) (it:=C) (fun b o hb e=>(hs'.2 b hb).trans e) hC hCL (.inr (z0 I2.sz hle)) hCc fun p hp=>?_
 exact zU (zJ (yG (I2.pin p hp).1) hle)
end
end L2
namespace DD
open PySem PySem.Spec PyProof.Rows L2
section
variable {X:Cx}{GD:List (Addr × Obj)}{σ:St}{H:Hp}{s:Shared}{F:Addr->Prop}
theorem obj_list (I:L2.Inv X GD σ H s) {a:Addr}{vs:List V} (h:bC X.K H a vs):∃ GH o n,Vals vs GH/\s.heap.get? a=some o/\o.cls=.type "list"/\o.data=.seq GH.toArray n:=by
 obtain ⟨GH,r,⟨o,n,e,c,_,d⟩,_⟩:=I.list h;exact ⟨GH,o,n,r,e,c,d⟩
theorem obj_tup (I:L2.Inv X GD σ H s) {a:Addr}{vs:List V} (h:dP X.K H a vs):∃ GH o n,Vals vs GH/\s.heap.get? a=some o/\o.cls=.type "tuple"/\o.data=.seq GH.toArray n:=by
 obtain ⟨GH,r,⟨o,e,c,n,d⟩,_⟩:=I.tuple h;exact ⟨GH,o,n,r,e,c,d⟩
end
noncomputable def pyOk (p q:PyData):Bool:=p.canLay0 && q.canLay0 && decide (min p.depth q.depth <= 50)
section
variable {X:Cx}
noncomputable def isiA:List String:=["NoneType","bool","int","str","list","tuple"]
noncomputable def isiB:List String:=["int","bool","str","list","tuple"]
def isiT (a b:String):Option Bool:=if (isiA.contains a && isiB.contains b)=true then some (a == b || (a == "bool" && b == "int")) else none
theorem isiT_kit {K:Frag}{a b:String}{k:Bool} (h:isiT a b=some k):kitOne K (.type a) (.type b)=some k:=by
 unfold isiT at h;split at h
 ·rename_i hc
  rw [zC,List.contains_iff_mem,List.contains_iff_mem] at hc;obtain ⟨ha,hb⟩:=hc;simp only [isiA,isiB,zT,zX,or_false] at ha hb;rcases ha with rfl | rfl | rfl | rfl | rfl | rfl <;> rcases hb with rfl | rfl | rfl | rfl | rfl <;> (cases h;rfl)
 ·cases h
end
end DD
namespace L2
open PySem PySem.Spec PyProof.Rows
def Eh (K:Frag) (a b:Addr):It :=
 ⟨fun i H=>∃ xs ys x y,bC K H a xs/\bC K H b ys/\xs[i]?=some x/\ys[i]?=some y,
  fun i H x H'=>∃ p u w,(∀ xs,bC K H a xs->xs[i]?=some u)/\(∀ ys,bC K H b ys->ys[i]?=some w)/\H p=none/\H'=am H p (.tup [u,w])/\x=.ref p,
  fun i H=>∃ xs ys,bC K H a xs/\bC K H b ys/\(xs.length <= i\/ys.length <= i)⟩
theorem Inv.turnT {X:Cx}{GD:List (Addr × Obj)}{σ:St}{H:Hp}{s:Shared}{h':Heap}{ch:List Addr}{u w:V}{x y:Value} (I:Inv X GD σ H s) (hf:∀ b ∈ ch,c5 X GD H b) (ru:RelV u x) (rw':RelV w y)
  (hk:∀ c o,c ∉ ch->s.heap.get? c=some o->h'.get? c=some o) (hT:IsPair h' s.heap.objs.size x y) (hth:∀ b ∈ ch,∃ o,h'.get? b=some o):Inv X GD σ (am H s.heap.objs.size (.tup [u,w])) { s with heap:=h' }:=by
 have hfr:H s.heap.objs.size=none:=I.fresh;have nch:∀ b o,H b=some o->b ∉ ch:=fun b o e hb=>by rw [(hf b hb).1] at e;cases e
 have ne:∀ b o,s.heap.get? b=some o->b ≠ s.heap.objs.size:=fun b o e=>zU (yG e)
 refine I.step (g':=s.gens) (d':=s.drawn) (t':=s.toks) (ch:=ch) (fun b hb=>⟨(hf b hb).2.2.2.1,(hf b hb).2.1,(hf b hb).2.2.2.2.1,(hf b hb).2.2.2.2.2⟩) (fun b o _ _ hc e _=>hk b o hc e)
  (fun b o _ _ hc e _=>⟨o.slots,hk b o hc e⟩) (fun b o _ e n=>by rw [af (ne b o e)];exact n) (fun b o hc e=>⟨o,hk b o hc e⟩) (fun b xs e=>by rw [af (a8 e hfr)];exact e)
  (fun b o v e=>by rw [af (a8 e hfr)];exact e) (fun b ps e=>⟨#[],by rw [af (a8 e hfr),e];simp⟩) (fun m hm=>?_) (fun b o e=>?_) I.bare
 ·obtain ⟨o,es,ep,ho,r⟩:=hm
  exact ⟨o,es,ep,hk _ o (fun z=>(hf _ z).2.1 rfl) ho,r⟩
 ·by_cases hb:b=s.heap.objs.size
  ·subst hb
   rw [aE] at e;cases e;refine ⟨by show 2 <= sizeLine;decide,[x,y],.cons ru (.cons rw' .nil),⟨_,hT,rfl,_,rfl⟩⟩
  ·rw [af hb] at e
   refine (I.GJ b o e).stay (fun c v hc q=>hk c v ?_ q) (fun c q=>by rw [af (a8 q hfr)];exact q) fun c xs q=>by rw [af (a8 q hfr)];exact q
   rcases hc with rfl | hc
   ·exact nch _ _ e
   ·exact nch _ _ hc
theorem Inv.turnN {X:Cx}{GD:List (Addr × Obj)}{σ:St}{H:Hp}{s:Shared}{h':Heap}{ch:List Addr} (I:Inv X GD σ H s) (hf:∀ b ∈ ch,c5 X GD H b)
  (hk:∀ c o,c ∉ ch->s.heap.get? c=some o->h'.get? c=some o):Inv X GD σ H { s with heap:=h' }:=by
 have nch:∀ b o,H b=some o->b ∉ ch:=fun b o e hb=>by rw [(hf b hb).1] at e;cases e
 refine I.step (g':=s.gens) (d':=s.drawn) (t':=s.toks) (ch:=ch) (fun b hb=>⟨(hf b hb).2.2.2.1,(hf b hb).2.1,(hf b hb).2.2.2.2.1,(hf b hb).2.2.2.2.2⟩) (fun b o _ _ hc e _=>hk b o hc e)
  (fun b o _ _ hc e _=>⟨o.slots,hk b o hc e⟩) (fun b o _ e n=>n) (fun b o hc e=>⟨o,hk b o hc e⟩) (fun b xs e=>e)
  (fun b o v e=>e) (fun b ps e=>⟨#[],by rw [e];simp⟩) (fun m hm=>?_) (fun b o e=>?_) I.bare
 ·obtain ⟨o,es,ep,ho,r⟩:=hm
  exact ⟨o,es,ep,hk _ o (fun z=>(hf _ z).2.1 rfl) ho,r⟩
 ·refine (I.GJ b o e).stay (fun c v hc q=>hk c v ?_ q) (fun c q=>q) fun c xs q=>q
  rcases hc with rfl | hc
  ·exact nch _ _ e
  ·exact nch _ _ hc
theorem cy {X:Cx}{GD:List (Addr × Obj)}{σ:St}{H:Hp}{s:Shared}{a b:Addr}{xs:List V} (I:Inv X GD σ H s) (h:bC X.K H a xs) (hb:c5 X GD H b) (hob:∃ o,s.heap.get? b=some o/\o.cls ≠ .type "list"):a ≠ b:=by
 rintro rfl;obtain ⟨GH,r,⟨o,n,e,c,_⟩,_⟩:=I.list h;obtain ⟨o',e',c'⟩:=hob;rw [e] at e';cases e';exact c' c
theorem sA {P:Program}{w:World}{K:Frag}{elts:List Expr}{x1:Nat}{tpos:Pos} (a b z TI TO i1 i2:Addr) (D1:TI ≠ z) (D2:TO ≠ z) (D3:i1 ≠ z) (D4:i2 ≠ z) (D5:TI ≠ TO) (D6:TI ≠ i1) (D7:TI ≠ i2) (D8:TO ≠ i1) (D9:TO ≠ i2) (D10:i1 ≠ i2) :
  fV P w K (.Tuple elts x1 tpos) (Eh K a b) [z,TI,TO,i1,i2] z (fun i h=>IsZip h z TI TO .none/\IsPair h TI (.ref i1) (.ref i2)/\(∃ u v,IsPair h TO u v)/\h.IsListIter i1 a i/\h.IsListIter i2 b i) where
 mem:=by simp
 obj:=fun i h hq0 c hc=>by
  obtain ⟨hz,hTI,⟨u,v,hTO⟩,⟨o1,e1,c1,d1⟩,⟨o2,e2,c2,d2⟩⟩:=hq0;simp only [zT,zX,or_false] at hc;rcases hc with rfl | rfl | rfl | rfl | rfl
  ·exact ⟨_,hz,fun v z=>nomatch z⟩
  ·exact ⟨_,hTI,fun v z=>nomatch z⟩
  ·exact ⟨_,hTO,fun v z=>nomatch z⟩
  ·exact ⟨_,e1,fun v z=>by rw [d1] at z;cases z⟩
  ·exact ⟨_,e2,fun v z=>by rw [d2] at z;cases z⟩
 keep:=fun i h h' ⟨hz,hTI,⟨u,v,hTO⟩,h1,h2⟩ k=>⟨k z (by simp) _ hz,k TI (by simp) _ hTI,⟨u,v,k TO (by simp) _ hTO⟩,h1.at fun o e=>k i1 (by simp) o e,h2.at fun o e=>k i2 (by simp) o e⟩
 item:=by
  rintro X hP hw hK hc i GD s σ H E I hf ⟨hz,hTI,⟨ua,ub,hTO⟩,h1,h2⟩ ⟨xs,ys,x,y,hq1,hq2,hx,hy⟩;subst hP hw hK;obtain ⟨its1,rv1,p1,_⟩:=I.list hq1;obtain ⟨its2,rv2,p2,_⟩:=I.list hq2;obtain ⟨u1,hu1,ru1⟩:=rv1.get hx;obtain ⟨u2,hu2,ru2⟩:=rv2.get hy;have ob:∀ c ∈ [z,TO,i1,i2],∃ o,s.heap.get? c=some o/\o.cls ≠ .type "list":=fun c hc=>by
   obtain ⟨o1,e1,c1,d1⟩:=id h1;obtain ⟨o2,e2,c2,d2⟩:=id h2;simp only [zT,zX,or_false] at hc;rcases hc with rfl | rfl | rfl | rfl
   ·exact ⟨_,hz,by simp⟩
   ·exact ⟨_,hTO,by simp⟩
   ·exact ⟨_,e1,by rw [c1];simp⟩
   ·exact ⟨_,e2,by rw [c2];simp⟩
  have na:∀ c ∈ [z,TO,i1,i2],a ≠ c:=fun c hc=>cy I hq1 (hf c (by simp at hc ⊢;rcases hc with h | h | h | h <;> simp [h])) (ob c hc)
  have nb:∀ c ∈ [z,TO,i1,i2],b ≠ c:=fun c hc=>cy I hq2 (hf c (by simp at hc ⊢;rcases hc with h | h | h | h <;> simp [h])) (ob c hc)
  have D:ZipApart z TI TO i1 i2 a b:=⟨D1,D2,D3,D4,D5,D6,D7,D8,D9,D10,na z (by simp),na TO (by simp),na i1 (by simp),na i2 (by simp),nb z (by simp),nb TO (by simp),nb i1 (by simp),nb i2 (by simp)⟩;refine wpAny_pyNext_zip_item D hz hTI hTO h1 h2 p1.isList p2.isList (x:=u1) (y:=u2) (by simpa using hu1) (by simpa using hu2) fun h' a1 a2 a3 a4 a5 a6 hk=>?_
  have hf4:∀ c ∈ [z,TO,i1,i2],c5 X GD H c:=fun c hc=>hf c (by simp at hc ⊢;rcases hc with h | h | h | h <;> simp [h])
  have hk':∀ c o,c ∉ [z,TO,i1,i2]->s.heap.get? c=some o->h'.get? c=some o:=fun c o hc e=>hk c o (fun q=>hc (by simp [q])) (fun q=>hc (by simp [q])) (fun q=>hc (by simp [q])) (fun q=>hc (by simp [q])) e
  have I1:Inv X GD σ (am H s.heap.objs.size (.tup [x,y])) { s with heap:=h' }:=I.turnT hf4 ru1 ru2 hk' a5 (fun c hc=>by
   obtain ⟨o1,e1,_⟩:=id a3;obtain ⟨o2,e2,_⟩:=id a4;simp only [zT,zX,or_false] at hc;rcases hc with rfl | rfl | rfl | rfl
   ·exact ⟨_,a1⟩
   ·exact ⟨_,a2⟩
   ·exact ⟨_,e1⟩
   ·exact ⟨_,e2⟩)
  have hfr:H s.heap.objs.size=none:=I.fresh;refine ⟨_,rfl,wpAny_letOwnedTupleGo_zip (s:={ s with heap:=h' }) a1 fun h'' z1 sb=>?_⟩;have hf5:∀ c ∈ [z,TI,TO,i1,i2],(am H s.heap.objs.size (.tup [x,y])) c=none:=fun c hc=>by
   have lt:c < s.heap.objs.size:=by
    obtain ⟨o1,e1,_⟩:=id h1;obtain ⟨o2,e2,_⟩:=id h2;simp only [zT,zX,or_false] at hc;rcases hc with rfl | rfl | rfl | rfl | rfl
    ·exact yG hz
    ·exact yG hTI
    ·exact yG hTO
    ·exact yG e1
    ·exact yG e2
   rw [af (zU lt)];exact (hf c hc).1
  have I2:Inv X GD σ (am H s.heap.objs.size (.tup [x,y])) { s with heap:=h'' }:=Inv.turnN (s:={ s with heap:=h' }) (ch:=[z]) I1 (fun c hc=>by
   have:c=z:=by simpa using hc
   subst this;exact ⟨hf5 c (by simp),(hf c (by simp)).2⟩) (fun c o hc e=>(sb.2 c (fun q=>hc (by simp [q]))).trans e)
  refine ⟨.ref s.heap.objs.size,_,I2,rfl,⟨_,x,y,fun zs hzs=>by rw [I.list_inj hzs hq1];exact hx,fun zs hzs=>by rw [I.list_inj hzs hq2];exact hy,hfr,rfl,rfl⟩,⟨z1,?_,⟨u1,u2,?_⟩,?_,?_⟩,hf5⟩
  ·exact (sb.2 TI D1).trans (hk' TI _ (by simp [D1,D5,D6,D7]) hTI)
  ·exact (sb.2 TO D2).trans a2
  ·exact a3.at fun o e=>(sb.2 i1 D3).trans e
  ·exact a4.at fun o e=>(sb.2 i2 D4).trans e
 done:=by
  rintro X hP hw hK hc i GD s σ H E I hf ⟨hz,hTI,⟨ua,ub,hTO⟩,h1,h2⟩ ⟨xs,ys,hq1,hq2,hend⟩;subst hP hw hK;obtain ⟨its1,rv1,p1,_⟩:=I.list hq1;obtain ⟨its2,rv2,p2,_⟩:=I.list hq2;have ob:∀ c ∈ [z,TO,i1,i2],∃ o,s.heap.get? c=some o/\o.cls ≠ .type "list":=fun c hc=>by
   obtain ⟨o1,e1,c1,d1⟩:=id h1;obtain ⟨o2,e2,c2,d2⟩:=id h2;simp only [zT,zX,or_false] at hc;rcases hc with rfl | rfl | rfl | rfl
   ·exact ⟨_,hz,by simp⟩
   ·exact ⟨_,hTO,by simp⟩
   ·exact ⟨_,e1,by rw [c1];simp⟩
   ·exact ⟨_,e2,by rw [c2];simp⟩
  have hf4:∀ c ∈ [z,TO,i1,i2],c5 X GD H c:=fun c hc=>hf c (by simp at hc ⊢;rcases hc with h | h | h | h <;> simp [h])
  have na:∀ c ∈ [z,TO,i1,i2],a ≠ c:=fun c hc=>cy I hq1 (hf4 c hc) (ob c hc)
  have nb:∀ c ∈ [z,TO,i1,i2],b ≠ c:=fun c hc=>cy I hq2 (hf4 c hc) (ob c hc)
  have D:ZipApart z TI TO i1 i2 a b:=⟨D1,D2,D3,D4,D5,D6,D7,D8,D9,D10,na z (by simp),na TO (by simp),na i1 (by simp),na i2 (by simp),nb z (by simp),nb TO (by simp),nb i1 (by simp),nb i2 (by simp)⟩;have hl1:=rv1.length;have hl2:=rv2.length;refine wpAny_pyNext_zip_end (I.ok.hd hc) D hz hTI hTO h1 h2 p1.isList p2.isList (by rcases hend with h | h;(left;simp;omega);(right;simp;omega)) fun h' hk=>⟨rfl,?_⟩
  exact I.turnN hf4 fun c o hc e=>hk c o (fun q=>hc (by simp [q])) (fun q=>hc (by simp [q])) (fun q=>hc (by simp [q])) (fun q=>hc (by simp [q])) e
 self:=fun _ _ _ _ _ ⟨hz,_⟩ h=>wpAny_pyIter_zip hz h
def E5 (K:Frag) (ta:TA):TI:=fun σ H R=>ta σ H fun vs H1=>∃ a b,vs=[.ref a,.ref b]/\(∃ xs,bC K H1 a xs)/\(∃ ys,bC K H1 b ys)/\R (Eh K a b) H1
theorem zd {X:Cx}{elts:List Expr}{x1:Nat}{tpos:Pos}{a b:Expr}{ta:TA}{p pos:Pos} (hg:Gl X "zip") (hm:X.mg "zip"=none) (ha:PA X [a,b] ta) (hs:starEach [a,b] X.env=[(false,eval a X.env),(false,eval b X.env)]:=by rfl) (hs2:starEach [b] X.env=[(false,eval b X.env)]:=by rfl) :
  PI X (.Tuple elts x1 tpos) (.Call (.Name "zip" p) [a,b] [] pos) (E5 X.K ta):=by
 intro GD s σ H R I h;refine Call_ (d8 I hg hm boot_zip (PyProof.Rows.callWith_type1 (aB (ha pos GD s σ H _ I h) fun us s1 ⟨vs,H1,I1,r1,q1⟩=>?_) (by rw [hs,hs2]) (by rw [hs2];rfl)));obtain ⟨l1,l2,e,⟨xs,hq1⟩,⟨ys,hq2⟩,q⟩:=q1;subst e;cases r1 with
 | cons r rr =>
  cases rr with
  | cons r' rr =>
   cases rr;cases r;cases r';obtain ⟨its1,rv1,p1,_⟩:=I1.list hq1;obtain ⟨its2,rv2,p2,_⟩:=I1.list hq2;refine call_zip_2 p1.isList p2.isList fun h' hz hTI hTO h1 h2 hsz hk=>?_
   have I2:Inv X GD σ H1 { s1 with heap:=h' }:=I1.kept (t':=s1.toks) hk;refine wpAny_pyIter_zip (s:={ s1 with heap:=h' }) hz ?_;have lt:∀ k:Nat,s1.heap.objs.size <= s1.heap.objs.size + k:=fun k=>Nat.le_add_right _ _
   refine ⟨_,[s1.heap.objs.size + 4,s1.heap.objs.size + 2,s1.heap.objs.size + 3,s1.heap.objs.size,s1.heap.objs.size + 1],_,_,H1,rfl,I2,
    sA l1 l2 (s1.heap.objs.size + 4) (s1.heap.objs.size + 2) (s1.heap.objs.size + 3) s1.heap.objs.size (s1.heap.objs.size + 1) ?_ ?_ ?_ ?_ ?_ ?_ ?_ ?_ ?_ ?_,⟨hz,hTI,⟨_,_,hTO⟩,h1,h2⟩,fun c hc=>?_,q⟩
   all_goals first
    | (show _ + _ ≠ _ + _;intro z;exact absurd (Nat.add_left_cancel z) dC)
    | (show _ ≠ _ + _;intro z;exact absurd z (by have:=Nat.lt_add_of_pos_right (n:=s1.heap.objs.size) (k:=4) dC;have:=Nat.lt_add_of_pos_right (n:=s1.heap.objs.size) (k:=1) dC;exact zU (by assumption)))
    | (show _ + _ ≠ _;exact Nat.ne_of_gt (Nat.lt_add_of_pos_right dC))
    | skip
   have hle:s1.heap.objs.size <= c:=by
    simp only [zT,zX,or_false] at hc;rcases hc with rfl | rfl | rfl | rfl | rfl
    ·exact lt 4
    ·exact lt 2
    ·exact lt 3
    ·exact zP _
    ·exact lt 1
   obtain ⟨f0,f1,f2,f3,f4,f5⟩:=I1.fpOk hle (I1.GJ.fresh hle);exact ⟨f0,f1,f2,f3,f4,f5⟩
end L2
namespace DD
open PySem PySem.Spec PyProof.Rows L2
section
variable {X:Cx}{e o a b:Expr}{es:List Expr}{p q:DP}{c c':DE}{pos apos cpos:Pos}{i:Nat}{js:List DP}
theorem reads_each {h:Heap}:∀ {vs:List Value}{ps:List PyData}{as:List Addr},ReadsAll h vs ps as->∀ v ∈ vs,∃ p as',p ∈ ps/\Reads h v p as':=by
 intro vs
 induction vs with
 | nil=>intro ps as h v hv;cases hv
 | cons v vs ih =>
  intro ps as h v hv;cases h with
  | cons r rs =>
   rcases zT.mp hv with rfl | hv
   ·exact ⟨_,_,z4,r⟩
   ·obtain ⟨p,as',hp,h⟩:=ih rs v hv
    exact ⟨p,as',zQ _ hp,h⟩
noncomputable def minL:List Int->Option Int
 | []=>none
 | x::xs=>some (xs.foldl (fun a b=>if b < a then b else a) x)
theorem As:∀ (xs:List Int) (x:Int),(xs.foldl (fun a b=>if b < a then b else a) x ∈ x::xs)/\∀ a ∈ x::xs,xs.foldl (fun a b=>if b < a then b else a) x <= a
 | [],x=>⟨by simp,by simp⟩
 | y::xs,x=>by
  obtain ⟨h1,h2⟩:=As xs (if y < x then y else x);rw [List.foldl_cons];constructor
  ·rcases zT.mp h1 with h | h
   ·rw [h];split <;> simp
   ·simp [h]
  ·intro a ha
   have hm:=h2 (if y < x then y else x) (by simp);have hx:(if y < x then y else x) <= x:=by split <;> omega
   have hy:(if y < x then y else x) <= y:=by split <;> omega
   rcases zT.mp ha with rfl | ha
   ·exact Int.le_trans hm hx
   ·rcases zT.mp ha with rfl | ha
    ·exact Int.le_trans hm hy
    ·exact h2 a (by simp [ha])
theorem minL_eq {ns:List Int}{m M:Int} (h:minL ns=some m) (h1:M ∈ ns) (h2:∀ a ∈ ns,M <= a):M=m:=by
 cases ns with
 | nil=>cases h1
 | cons x xs =>
  cases h;obtain ⟨g1,g2⟩:=As xs x;have a1:=g2 M h1;have a2:=h2 _ g1;omega
end
section
variable {X:Cx}{e o a b:Expr}{es:List Expr}{p q:DP}{c c':DE}{pos apos cpos:Pos}{i:Nat}{js:List DP}
theorem any_vals {h:Heap}{q:PyData}{e:Value->Bool} (he:∀ v p as,Reads h v p as->e v=PyData.eqv p q):∀ {vs:List Value}{ps:List PyData}{as:List Addr},ReadsAll h vs ps as->vs.any e=ps.any fun r=>PyData.eqv r q
 | _,_,_,.nil=>rfl
 | _,_,_,.cons r rs=>by rw [List.any_cons,List.any_cons,any_vals he rs,he _ _ _ r]
end
end DD
namespace L2
open PySem PySem.Spec PyProof.Rows
def vD (K:Frag) (a:Addr) (n0:Nat):It :=
 ⟨fun i H=>∃ xs x,bC K H a xs/\xs[i]?=some x,
  fun i H x H'=>∃ p u,(∀ xs,bC K H a xs->xs[i]?=some u)/\H p=none/\H'=am H p (.tup [.int ((n0 + i:Nat):Int),u])/\x=.ref p,
  fun i H=>∃ xs,bC K H a xs/\xs.length=i⟩
theorem lq {prog:Program}{w:World}{A:Around} (hh:A.handled=none) (it l:Addr) (hne:l ≠ it) (items:Array Value) (n0:Nat) :
  Draws prog w A it [it,l] (n0 + items.size) (fun i v=>n0 <= i/\items[i - n0]?=some v) (fun i h=>n0 <= i/\h.IsListIter it l (i - n0)/\h.IsList l items) where
 live:=fun _ _ q=>by obtain ⟨o,ho,_⟩:=q.2.1;exact ⟨o,ho⟩
 frame:=fun _ _ _ q hk=>⟨q.1,q.2.1.at fun o e=>hk it (by simp) o e,q.2.2.at fun o e=>hk l (by simp) o e⟩
 item:=fun i s Q E hi q hQ=>by
  have hl:i - n0 < items.size:=by have:=q.1;omega
  refine wpAny_nextOf_list_item q.2.1 q.2.2 (x:=items[i - n0]) (by simp [hl]) fun h' hit' hs'=>?_
  refine hQ _ h' s.toks ⟨q.1,by simp [hl]⟩ ⟨Nat.le_succ_of_le q.1,?_,q.2.2.extBut hs'.extBut hne⟩ hs';rw [show i + 1 - n0=i - n0 + 1 by have:=q.1;omega];exact hit'
 done:=fun s Q E q hE=>wpAny_nextOf_list_end hh q.2.1 q.2.2 (by simp) hE
theorem pX {P:Program}{w:World}{K:Frag}{elts:List Expr}{x1:Nat}{tpos:Pos} (a z it:Addr) (n0:Nat) (D:z ≠ it) :
  fV P w K (.Tuple elts x1 tpos) (vD K a n0) [z,it] z (fun i h=>(∃ old,IsEnum h z it ((n0 + i:Nat):Int) old)/\h.IsListIter it a i) where
 mem:=by simp
 obj:=fun i h hq0 c hc=>by
  obtain ⟨⟨old,hz⟩,⟨o1,e1,c1,d1⟩⟩:=hq0;simp only [zT,zX,or_false] at hc;rcases hc with rfl | rfl
  ·exact ⟨_,hz,fun v z=>nomatch z⟩
  ·exact ⟨_,e1,fun v z=>by rw [d1] at z;cases z⟩
 keep:=fun i h h' ⟨⟨old,hz⟩,h1⟩ k=>⟨⟨old,k z (by simp) _ hz⟩,h1.at fun o e=>k it (by simp) o e⟩
 item:=by
  rintro X hP hw hK hc i GD s σ H E I hf ⟨⟨old,hz⟩,h1⟩ ⟨xs,x,hq,hx⟩;subst hP hw hK;obtain ⟨GH,rv,p1,_⟩:=I.list hq;obtain ⟨u,hu,ru⟩:=rv.get hx;have na:a ≠ z:=cy I hq (hf z (by simp)) ⟨_,hz,by simp⟩;have nb:a ≠ it:=cy I hq (hf it (by simp)) (by obtain ⟨o1,e1,c1,d1⟩:=id h1;exact ⟨_,e1,by rw [c1];simp⟩);have hil:i < GH.length:=(zB.mp hu).1;refine wpAny_pyNext_enum_itemD (lq (A:=X.A.in1) (I.ok.hd hc) it a nb GH.toArray n0) hz ⟨Nat.le_add_right _ _,by rw [Nat.add_sub_cancel_left];exact h1,p1.isList⟩ (by simp [hil]) D (by simp [D,na.symm]) fun v h' tk hv ho hst hT hsz hk=>?_
  have ev:v=u:=by
   have h2:=hv.2;rw [Nat.add_sub_cancel_left] at h2;simp only [List.getElem?_toArray] at h2;rw [hu] at h2;exact (yB h2).symm
  subst ev;have hf2:∀ c ∈ [z,it],c5 X GD H c:=fun c hc=>hf c hc
  have hk':∀ c o,c ∉ [z,it]->s.heap.get? c=some o->h'.get? c=some o:=fun c o hc e=>hk c o (fun q=>hc (by simp [q])) (fun q=>hc (by simp [q])) e
  have I0:Inv X GD σ (am H s.heap.objs.size (.tup [.int ((n0 + i:Nat):Int),x])) { s with heap:=h' }:=I.turnT hf2 (u:=.int ((n0 + i:Nat):Int)) ⟨tk,rfl⟩ ru hk' hT (fun c hc=>by
   obtain ⟨o1,e1,_⟩:=id hst.2.1;simp only [zT,zX,or_false] at hc;rcases hc with rfl | rfl
   ·exact ⟨_,ho⟩
   ·exact ⟨_,e1⟩)
  have I1:Inv X GD σ (am H s.heap.objs.size (.tup [.int ((n0 + i:Nat):Int),x])) { s with heap:=h',toks:=tk + 1 }:=I0.kept (t':=tk + 1) (fun _ _ e=>e);have hfr:H s.heap.objs.size=none:=I.fresh;refine ⟨_,rfl,wpAny_letOwnedTupleGo_enum (s:={ s with heap:=h',toks:=tk + 1 }) ho fun h'' z1 sb=>?_⟩;have hf5:∀ c ∈ [z,it],(am H s.heap.objs.size (.tup [.int ((n0 + i:Nat):Int),x])) c=none:=fun c hc=>by
   have lt:c < s.heap.objs.size:=by
    obtain ⟨o1,e1,_⟩:=id h1;simp only [zT,zX,or_false] at hc;rcases hc with rfl | rfl
    ·exact yG hz
    ·exact yG e1
   rw [af (zU lt)];exact (hf c hc).1
  have I2:Inv X GD σ (am H s.heap.objs.size (.tup [.int ((n0 + i:Nat):Int),x])) { s with heap:=h'',toks:=tk + 1 }:=Inv.turnN (s:={ s with heap:=h',toks:=tk + 1 }) (ch:=[z]) I1 (fun c hc=>by
   have:c=z:=by simpa using hc
   subst this;exact ⟨hf5 c (by simp),(hf c (by simp)).2⟩) (fun c o hc e=>(sb.2 c (fun q=>hc (by simp [q]))).trans e)
  refine ⟨.ref s.heap.objs.size,_,I2,rfl,⟨_,x,fun zs hzs=>by rw [I.list_inj hzs hq];exact hx,hfr,rfl,rfl⟩,⟨⟨_,by rw [show ((n0 + (i + 1):Nat):Int)=((n0 + i:Nat):Int) + 1 by omega];exact z1⟩,?_⟩,hf5⟩;have h3:=hst.2.1;rw [show n0 + i + 1 - n0=i + 1 by omega] at h3;exact h3.at fun o e=>(sb.2 it D.symm).trans e
 done:=by
  rintro X hP hw hK hc i GD s σ H E I hf ⟨⟨old,hz⟩,h1⟩ ⟨xs,hq,hend⟩;subst hP hw hK;obtain ⟨GH,rv,p1,_⟩:=I.list hq;have nb:a ≠ it:=cy I hq (hf it (by simp)) (by obtain ⟨o1,e1,c1,d1⟩:=id h1;exact ⟨_,e1,by rw [c1];simp⟩);have hl:=rv.length;refine wpAny_pyNext_enum_endD (lq (A:=X.A.in1) (I.ok.hd hc) it a nb GH.toArray n0) hz ⟨Nat.le_add_right _ _,?_,p1.isList⟩ fun h' hk=>⟨rfl,?_⟩
  ·rw [Nat.add_sub_cancel_left,zI,<- hl,hend];exact h1
  ·exact I.turnN (ch:=[z,it]) (fun c hc=>hf c hc) fun c o hc e=>hk c o (fun q=>hc (by simp [q])) e
 self:=fun _ _ _ _ _ ⟨⟨_,hz⟩,_⟩ h=>wpAny_pyIter_enum hz h
theorem rH:bootBuiltins "enumerate"=some (.type "enumerate"):=by decide +kernel
def CL (K:Frag) (n0:Nat) (ta:TA):TI:=fun σ H R=>ta σ H fun vs H1=>∃ a,vs=[.ref a]/\(∃ xs,bC K H1 a xs)/\R (vD K a n0) H1
theorem ut {X:Cx}{GD:List (Addr × Obj)}{σ:St}{H1:Hp}{s1:Shared}{h':Heap}{t':Nat}{l:Addr}{n0:Nat}{elts:List Expr}{x1:Nat}{tpos:Pos}{R:It->Hp->Prop} (I1:Inv X GD σ H1 s1) (he:IsEnum h' (s1.heap.objs.size + 1) s1.heap.objs.size (n0:Int) .none) (hi:h'.IsListIter s1.heap.objs.size l 0)
  (hk:∀ b o,s1.heap.get? b=some o->h'.get? b=some o) (q:R (vD X.K l n0) H1):Bv X GD σ (.Tuple elts x1 tpos) R (.ref (s1.heap.objs.size + 1)) { s1 with heap:=h',toks:=t' }:=by
 have I2:Inv X GD σ H1 { s1 with heap:=h',toks:=t' }:=I1.kept (t':=t') hk;refine ⟨_,[s1.heap.objs.size + 1,s1.heap.objs.size],_,_,H1,rfl,I2,pX l (s1.heap.objs.size + 1) s1.heap.objs.size n0 (Nat.ne_of_gt (Nat.lt_succ_self _)),⟨⟨_,by simpa using he⟩,hi⟩,fun c hc=>?_,q⟩;have hle:s1.heap.objs.size <= c:=by
  simp only [zT,zX,or_false] at hc;rcases hc with rfl | rfl
  ·exact Nat.le_succ _
  ·exact zP _
 obtain ⟨f0,f1,f2,f3,f4,f5⟩:=I1.fpOk hle (I1.GJ.fresh hle);exact ⟨f0,f1,f2,f3,f4,f5⟩
theorem wo {X:Cx}{elts:List Expr}{x1:Nat}{tpos:Pos}{a:Expr}{ta:TA}{p pos:Pos} (hg:Gl X "enumerate") (hm:X.mg "enumerate"=none) (ha:PA X [a] ta) (hs:starEach [a] X.env=[(false,eval a X.env)]:=by rfl) :
  PI X (.Tuple elts x1 tpos) (.Call (.Name "enumerate" p) [a] [] pos) (CL X.K 0 ta):=by
 intro GD s σ H R I h;refine Call_ (d8 I hg hm rH (PyProof.Rows.callWith_type1 (aB (ha pos GD s σ H _ I h) fun us s1 ⟨vs,H1,I1,r1,q1⟩=>?_) (by rw [hs];rfl) (by rfl)));obtain ⟨l,e,⟨xs,hq⟩,q⟩:=q1;subst e;cases r1 with
 | cons r rr =>
  cases rr;cases r;obtain ⟨GH,rv,p1,_⟩:=I1.list hq;refine call_enumerate_list p1.isList fun h' he hi hsz hk=>?_
  refine wpAny_pyIter_enum (s:={ s1 with heap:=h' }) he ?_;exact ut (t':=s1.toks) (n0:=0) I1 he hi hk q
section
variable {prog:Program}{w:World}{A:Around}{E:Value->Shared->Prop}{s:Shared}
theorem vm {it t:Addr}{items:Array Value} (hne:t ≠ it):∀ (n i:Nat) (s:Shared) (Q:List Value->Shared->Prop),s.heap.IsListIter it t i->s.heap.IsList t items->i + n <= items.size ->
  (∀ h',h'.IsListIter it t (i + n)->Heap.SameBut it s.heap h'->Q ((items.toList.drop i).take n) { s with heap:=h' })->wpAny (model prog w) A (draw (.ref it) n) Q E s
 | 0,i,s,Q,hit,_,_,hQ=>yD (by simpa using hQ s.heap hit (Heap.SameBut.refl ..))
 | n + 1,i,s,Q,hit,ht,hle,hQ=>by
  have hlt:i < items.size:=by omega
  refine yC (m:=pyNext (.ref it)) (wpAny_pyNext_list_item hit ht (x:=items[i]) (by simp [hlt]) fun h₁ hit₁ hs₁=>?_);refine yC (yM (vm hne n (i + 1) _ _ hit₁ (ht.extBut hs₁.extBut hne) oM fun h₂ hit₂ hs₂=>yD ?_));have q:=hQ h₂ (by rw [show i + (n + 1)=i + 1 + n by omega];exact hit₂) (hs₁.trans hs₂);rw [show items.toList.drop i=items[i]::items.toList.drop (i + 1) by simp [List.drop_eq_getElem_cons,hlt],List.take_succ_cons] at q;exact q
theorem vK {t:Addr}{items:Array Value}{targets:List (Bool × (Value->Sem Unit))}{Q:Unit->Shared->Prop} (hh:A.handled=none) (ht:s.heap.IsList t items) (hn:targets.length=items.size) (hstar:targets.findIdx? (·.1)=none)
  (h:∀ h',Heap.ExtBut s.heap.objs.size s.heap h'->wpAny (model prog w) A (assignInOrder (targets.map (·.2)) items.toList) Q E { s with heap:=h' }):wpAny (model prog w) A (unpack (.ref t) targets) Q E s:=by
 have hlt:t ≠ s.heap.objs.size:=by obtain ⟨o,ho,_⟩:=ht;exact zU (yG ho)
 unfold unpack;rw [hn,hstar];refine yC (yM ?_);unfold unpackItems;refine yC ?_;unfold notIterableAtAll;refine yC (wpAny_specialOf ht.typeIs slot_list_iter.lookup (yD ?_));simp only [z6,if_false];refine yC (yM (wpAny_pyIter_list ht (yC (yM (vm hlt items.size 0 _ _ ⟨_,zY _ rfl,rfl,rfl⟩ (ht.push _) oM fun h₁ hit₁ hs₁=>?_)))));rw [show List.take items.size (List.drop 0 items.toList)=items.toList by rw [List.drop_zero];exact List.take_of_length_le (by simp),yE (by simp)];refine yC (yM (wpAny_pyNext_list_end hh hit₁ ((ht.push _).extBut hs₁.extBut hlt) (by simp) fun h₂ he₂=>?_));simp only [Option.isSome_none,z6,if_false];exact yD (h h₂ fun b o hb e=>he₂ b o hb (hs₁.extBut b o hb (zG _ e)))
end
section
variable {X:Cx}{pos:Pos}
noncomputable def CO (K:Frag) (n:Nat) (t:ja):TG:=fun v σ H Q=>∃ a xs,v=.ref a/\bC K H a xs/\xs.length=n/\t xs σ H Q
theorem wt {es:List Expr}{k:Nat}{t:ja}{n:Nat} (hc:X.calm=true) (h:lC X es t) (hn:(assignEach es X.env).length=n:=by rfl) (hst:(assignEach es X.env).findIdx? (·.1)=none:=by rfl):PG X (.Tuple es k pos) (CO X.K n t):=by
 intro GD s σ H v u Q I r hw;obtain ⟨a,xs,e1,hq,hl,hw⟩:=hw;subst e1;cases r;obtain ⟨GH,rv,pl,hz⟩:=I.list hq;rw [arm_assign_Tuple];refine yC (wpAny_standAt (vK (I.ok.hd hc) pl.isList (by simp [hn,<- hl,rv.length]) hst fun h' hx=>?_));have I1:Inv X GD σ H { s with heap:=h' }:=I.kept (t':=s.toks) fun b o e=>hx b o (zU (yG e)) e
 exact h GD _ σ H xs _ Q I1 (by simpa using rv) hw
theorem pI:bootBuiltins "list"=some (.type "list"):=by decide +kernel
end
end L2
namespace PySem.AutoSeq1
theorem pD (l:Addr) (items:Array Value) (n:Nat) (b:Addr) (items2:Array Value) (n2:Nat) (sl:Array (Option Value)) (hc0:¬(!items.isEmpty && Builtin.List.listTooLong (items.size + items2.size))=true) (hc1:items.size <= sizeLine) (hs2:items.size + items2.size <= sizeLine + 1) :
  Meets (Builtin.«list.extend» ⟨[.ref l,.ref b],[]⟩) (fun _ R s=>s.heap.get? l=some { cls:=.type "list",dict:=none,data:=.seq items n,slots:=#[] }/\s.heap.get? b=some { cls:=.type "list",dict:=none,data:=.seq items2 n2,slots:=sl }/\R (.ok (.ret Value.none)) { s with heap:=s.heap.update l (Obj.mapSeq fun x=>x++items2),toks:=s.toks }) :=
 .of_wp fun prog w A R s h=>by
  obtain ⟨hp,g,d,tk,os⟩:=s;obtain ⟨hl,hb,h⟩:=h;have f1:=idx_int;have f2:=sub_tuple_tuple;have f3:=sub_list_list;have f4:=sub_tuple_list;have f5:=sub_list_tuple;have hz':(items++items2).size <= sizeLine + 1:=by rw [Array.size_append];exact hs2
  wp_walk using (wpAny_updateSeq hl rfl (hz:=hc1) (_hz':=hz')),wpAny_loadPart' hl,wpAny_loadPart' hb;exact ⟨_,rfl,h⟩
end PySem.AutoSeq1
namespace L2
open PySem PySem.Spec PyProof.Rows
section
variable {X:Cx}
def BS (K:Frag):V->List V->Hp->VK->Prop:=fun x vs H Q=>∃ l b xs zs,x=.ref l/\vs=[.ref b]/\H l=some (.lst xs)/\bC K H b zs/\xs.length + zs.length <= sizeLine/\Q .non (am H l (.lst (xs++zs)))
theorem wO:Ef X "list.extend" (BS X.K):=by
 intro GD s σ H x vs v us Q I rx rv h;obtain ⟨l,b,xs,zs,rfl,rfl,hH,hB,hz,q⟩:=h;cases rx;obtain ⟨u,rfl,ru⟩:=rv.one;cases ru;obtain ⟨z,GH,n,r,hl,e⟩:=I.lstM hH;obtain ⟨its2,r2,pl,hz2⟩:=I.list hB;obtain ⟨o,n2,e2,c2,d2,s2⟩:=pl;obtain ⟨oc,od,odt,osl⟩:=o;dsimp only at c2 d2 s2;subst c2;subst d2;subst s2;have hl2:=r2.length;have hsz:GH.toArray.size + its2.toArray.size <= sizeLine:=by rw [zI,zI];omega
 have hlong:¬ (!GH.toArray.isEmpty && Builtin.List.listTooLong (GH.toArray.size + its2.toArray.size))=true:=by
  rw [notLongL hsz,Bool.and_false];exact Bool.false_ne_true
 refine call_meets F.slot_list_extend ⟨_,e,rfl⟩ F.entry_list_extend (F.args_list_extend_2 _ _)
  (PySem.AutoSeq1.pD l GH.toArray n b its2.toArray n2 osl hlong (by rw [zI];omega) oM) ⟨e,e2,?_⟩
 refine ⟨.non,_,I.lset (its':=GH++its2) hH e (by simp) (r.append r2) ?_,rfl,q⟩;rw [zV];omega
end
section
variable {X:Cx}
def BU:V->List V->Hp->VK->Prop:=fun x vs H Q=>∃ i,x=.int i/\vs=[]/\Q (.int ((Builtin.Int.intBits i:Nat):Int)) H
theorem wP:jb X "int.bit_length" BU:=by
 intro GD s σ H x vs v us Q I rx rv h;obtain ⟨i,ex,ev,q⟩:=h;subst ex;subst ev;obtain ⟨t,rfl⟩:=rx;cases rv;exact call_int_bit_length ⟨.int _,H,I.tok _,⟨_,rfl⟩,q⟩
end
end L2
namespace PySem.AutoSeq1
theorem xG (l:Addr) (items:Array Value) (n:Nat) (sl1:Array (Option Value)) (b:Addr) (items2:Array Value) (n2:Nat) (sl:Array (Option Value)) (hs2:items.size + items2.size <= sizeLine) :
  Meets (Builtin.«list.__add__» ⟨[.ref l,.ref b],[]⟩) (fun _ R s=>s.heap.get? l=some { cls:=.type "list",dict:=none,data:=.seq items n,slots:=sl1 }/\s.heap.get? b=some { cls:=.type "list",dict:=none,data:=.seq items2 n2,slots:=sl }/\R (.ok (.ret (Value.ref s.heap.objs.size))) { s with heap:=s.heap.push { cls:=.type "list",data:=.seq (items++items2) },toks:=s.toks }) :=
 .of_wp fun prog w A R s h=>by
  obtain ⟨hp,g,d,tk,os⟩:=s;obtain ⟨hl,hb,h⟩:=h;have f1:=idx_int;have f2:=sub_tuple_tuple;have f3:=sub_list_list;have f4:=sub_tuple_list;have f5:=sub_list_tuple;have hz':(items++items2).size <= sizeLine + 1:=by rw [Array.size_append];omega
  have hlong:Builtin.List.listTooLong (items.size + items2.size)=false:=L2.notLongL hs2
  wp_walk using wpAny_loadPart' hl,wpAny_loadPart' hb
  all_goals first | exact ⟨_,rfl,h⟩ | skip
end PySem.AutoSeq1
namespace L2
open PySem PySem.Spec PyProof.Rows
section
variable {X:Cx}
def BT (K:Frag):R2:=fun x y H Q=>∃ l b xs zs,x=.ref l/\y=.ref b/\bC K H l xs/\bC K H b zs/\xs.length + zs.length <= sizeLine/\∀ p,H p=none->Q (.ref p) (am H p (.lst (xs++zs)))
theorem wD:fr X (binaryOp .Add) (BT X.K):=by
 intro GD s σ H x y v u Q I rx ry h;obtain ⟨l,b,xs,zs,rfl,rfl,hH,hB,hz,q⟩:=h;cases rx;cases ry;obtain ⟨GH,r,⟨o1,n1,e1,c1,d1,s1⟩,_⟩:=I.list hH;obtain ⟨its2,r2,⟨o2,n2,e2,c2,d2,s2⟩,_⟩:=I.list hB;obtain ⟨oc,od,odt,osl⟩:=o1;obtain ⟨pc,pd,pdt,psl⟩:=o2;dsimp only at c1 d1 s1 c2 d2 s2;subst c1;subst d1;subst s1;subst c2;subst d2;subst s2;have hl1:=r.length;have hl2:=r2.length;have hsz:GH.toArray.size + its2.toArray.size <= sizeLine:=by rw [zI,zI];omega
 refine wpAny_binaryOp_concat (T:="list") (id:="list.__add__") ⟨_,e1,rfl⟩ ⟨_,e2,rfl⟩ noFill_list_add (by rfl) ?_;refine call_meets F.slot_list_add ⟨_,e1,rfl⟩ F.entry_list_add (F.args_list_add_2 _ _) (PySem.AutoSeq1.xG l GH.toArray n1 osl b its2.toArray n2 psl hsz) ⟨e1,e2,?_⟩;have ea:GH.toArray++its2.toArray=(GH++its2).toArray:=by simp
 rw [ea];exact ⟨.ref _,_,I.lnew (t':=s.toks) (r.append r2) (by rw [zV];omega),rfl,q _ I.fresh⟩
end
section
variable {κ:Type} [DecidableEq κ]
noncomputable def df (GE:List (κ × V)) (k:κ):Option V:=(GE.find? fun kv=>decide (kv.1=k)).map (·.2)
noncomputable def dh (GE:List (κ × V)) (k:κ) (v:V):List (κ × V) :=
 if (GE.any fun kv=>decide (kv.1=k))=true then GE.map (fun kv=>if kv.1=k then (kv.1,v) else kv) else GE++[(k,v)]
theorem je {p:κ × V}{r:List (κ × V)}{k:κ} (e:p.1=k):df (p::r) k=some p.2:=by simp [df,List.find?_cons,e]
theorem jf {p:κ × V}{r:List (κ × V)}{k:κ} (e:¬ p.1=k):df (p::r) k=df r k:=by simp [df,List.find?_cons,e]
theorem lT (k:κ):∀ GE:List (κ × V),(GE.any fun kv=>decide (kv.1=k))=(df GE k).isSome
 | []=>rfl
 | p::r=>by
  rw [List.any_cons];by_cases e:p.1=k
  ·simp only [je e,yP e,Bool.true_or,Option.isSome_some]
  ·rw [jf e,z5 e,Bool.false_or];exact lT k r
theorem iQ (GE:List (κ × V)) (k:κ) (v:V):(dh GE k v).length <= GE.length + 1:=by
 unfold dh;split
 ·rw [zH];omega
 ·rw [zV,yQ,List.length_nil];omega
theorem RelO.isSome_eq {o:Option V}{u:Option Value} (r:RelO o u):o.isSome=u.isSome:=by
 cases o with
 | none=>cases u with
  | none=>rfl
  | some _=>exact (show False from r).elim
 | some _=>cases u with
  | none=>exact (show False from r).elim
  | some _=>rfl
theorem KV.val {GE:List (κ × V)}{vs:List (κ × Value)} (r:KV GE vs) (k:κ):RelO (df GE k) (valueAt vs k):=by
 unfold KV at r
 induction r with
 | nil=>exact True.intro
 | @cons p q ps qs h t ih =>
  obtain ⟨h1,h2⟩:=h;by_cases e:p.1=k
  ·have e':q.1=k:=h1.symm.trans e
   have b:valueAt (q::qs) k=some q.2:=by simp [valueAt,List.find?_cons,e']
   rw [je e,b];exact h2
  ·have e':¬ q.1=k:=fun z=>e (h1.trans z)
   have b:valueAt (q::qs) k=valueAt qs k:=by simp [valueAt,List.find?_cons,e']
   rw [jf e,b];exact ih
theorem KV.any {GE:List (κ × V)}{vs:List (κ × Value)} (r:KV GE vs) (k:κ):(GE.any fun kv=>decide (kv.1=k))=vs.any fun kv=>decide (kv.1=k):=by
 unfold KV at r
 induction r with
 | nil=>rfl
 | cons h t ih=>rw [List.any_cons,List.any_cons,ih,h.1]
theorem KV.repl {GE:List (κ × V)}{vs:List (κ × Value)} (r:KV GE vs) (k:κ) {y:V}{u:Value} (ry:RelV y u) :
  KV (GE.map fun kv=>if kv.1=k then (kv.1,y) else kv) (vs.map fun kv=>if kv.1=k then (kv.1,u) else kv):=by
 unfold KV at r ⊢
 induction r with
 | nil=>exact .nil
 | @cons p q ps qs h t ih =>
  rw [zO,zO];refine .cons ?_ ih;obtain ⟨h1,h2⟩:=h;by_cases e:p.1=k
  ·rw [yF e,yF (h1.symm.trans e)];exact ⟨h1,ry⟩
  ·rw [yE e,yE (fun z=>e (h1.trans z))];exact ⟨h1,h2⟩
theorem KV.put {GE:List (κ × V)}{vs:List (κ × Value)} (r:KV GE vs) (k:κ) {y:V}{u:Value} (ry:RelV y u):KV (dh GE k y) (stored vs k u):=by
 unfold dh stored;rw [r.any k];by_cases e:(vs.any fun kv=>decide (kv.1=k))=true
 ·rw [yF e,yF e];exact r.repl k ry
 ·rw [yE e,yE e];exact Paired.snoc r ⟨rfl,ry⟩
theorem KV.length {GE:List (κ × V)}{vs:List (κ × Value)} (r:KV GE vs):GE.length=vs.length:=Paired.length r
end
theorem jQ {P:Program}{w:World}{k:a0}{u:Value} (r:RelV (kV k) u):(bL P w).is k u=true:=by
 cases k with
 | inl i=>obtain ⟨t,e⟩:=(show ∃ t,u=Value.int i t from r);subst e;exact ng P w i t
 | inr x=>obtain ⟨t,e⟩:=(show ∃ t,u=Value.str x t from r);subst e;exact m9 P w x t
theorem ld {P:Program}{w:World}:∀ {ks:List a0}{us:List Value},Vals (ks.map kV) us->ItemsAre (bL P w) ks us
 | [],_,r=>by rw [List.map_nil] at r;cases r;exact .nil
 | k::ks,_,r=>by
  rw [zO] at r;cases r with
  | cons h t=>exact .cons (jQ h) (ld t)
abbrev KT (H:Hp):List (List a0 × V)->List (List a0 × Addr × Value)->Prop:=Paired fun p q=>p.1=q.1/\H q.2.1=some (.tup (p.1.map kV))/\RelV p.2 q.2.2
theorem KT.val {H:Hp}{GE:List (List a0 × V)}{xs:List (List a0 × Addr × Value)} (r:KT H GE xs) (k:List a0):RelO (df GE k) ((atKey xs k).map (·.2)):=by
 induction r with
 | nil=>exact True.intro
 | @cons p q ps qs h t ih =>
  obtain ⟨h1,_,h2⟩:=h;by_cases e:p.1=k
  ·have e':q.1=k:=h1.symm.trans e
   have b:atKey (q::qs) k=some q.2:=by simp [atKey,List.find?_cons,e']
   rw [je e,b];exact h2
  ·have e':¬ q.1=k:=fun z=>e (h1.trans z)
   have b:atKey (q::qs) k=atKey qs k:=by simp [atKey,List.find?_cons,e']
   rw [jf e,b];exact ih
theorem KT.repl {H:Hp}{GE:List (List a0 × V)}{xs:List (List a0 × Addr × Value)} (r:KT H GE xs) (k:List a0) {y:V}{u:Value} (ry:RelV y u) :
  KT H (GE.map fun kv=>if kv.1=k then (kv.1,y) else kv) (xs.map (putAt k u)):=by
 induction r with
 | nil=>exact .nil
 | @cons p q ps qs h t ih =>
  rw [zO,zO];refine .cons ?_ ih;obtain ⟨h1,h2,h3⟩:=h;unfold putAt;by_cases e:p.1=k
  ·rw [yF e,yF (h1.symm.trans e)];exact ⟨h1,h2,ry⟩
  ·rw [yE e,yE (fun z=>e (h1.trans z))];exact ⟨h1,h2,h3⟩
theorem KT.put {H:Hp}{GE:List (List a0 × V)}{xs:List (List a0 × Addr × Value)} (r:KT H GE xs) (k:List a0) {b:Addr}{y:V}{u:Value} (hb:H b=some (.tup (k.map kV))) (ry:RelV y u) :
  KT H (dh GE k y) (storedH xs k b u):=by
 have e:(GE.any fun kv=>decide (kv.1=k))=(atKey xs k).isSome:=by
  rw [lT,(r.val k).isSome_eq,Option.isSome_map]
 unfold dh storedH;rw [e];by_cases q:(atKey xs k).isSome=true
 ·rw [yF q,yF q];exact r.repl k ry
 ·rw [yE q,yE q];exact Paired.snoc r ⟨rfl,hb,ry⟩
theorem KT.keeps {H H':Hp}{GE:List (List a0 × V)}{xs:List (List a0 × Addr × Value)} (r:KT H GE xs) (ht:∀ b ys,H b=some (.tup ys)->H' b=some (.tup ys)):KT H' GE xs :=
 Paired.mapP r fun _ _ z=>⟨z.1,ht _ _ z.2.1,z.2.2⟩
section
variable {P:Program}{w:World}{H:Hp}{h:Heap}{a:Addr}
theorem uO {u:HO} (ok:HOk P w H h) (e:Rd H a u):ObjOk P w H h a u:=e.ok ok
theorem j6 {GE:List (a0 × V)} (ok:HOk P w H h) (e:Rd H a (.dK GE)):GE.length <= sizeLine/\(a == sysModules)=false/\∃ vs,KV GE vs/\h.DictOf (bL P w) a vs :=
 show ObjOk P w H h a (.dK GE) from uO ok e
theorem vn {GE:List (a0 × V)} (ok:HOk P w H h) (e:H a=some (.dK GE)):GE.length <= sizeLine/\(a == sysModules)=false/\∃ vs,KV GE vs/\h.DictOf (bL P w) a vs:=j6 ok (.inl e)
theorem hU {ks:List a0} (ok:HOk P w H h) (e:H a=some (.tup (ks.map kV))):(tupleKind (bL P w)).is h ks a:=by
 obtain ⟨_,GH,r,o,h1,h2,n,h3⟩:=(show ObjOk P w H h a (.tup (ks.map kV)) from ok a _ e);exact ⟨o,GH.toArray,n,h1,h2,h3,by simpa using ld r⟩
theorem j5 {GE:List (List a0 × V)} (ok:HOk P w H h) (e:Rd H a (.dT GE)):GE.length <= sizeLine/\(a == sysModules)=false /\
  ∃ xs,KT H GE xs/\h.DictOfH (tupleKind (bL P w)) a xs:=by
 obtain ⟨z,y,xs,r,o,es,ep,h1,h2,h3,h4,h5⟩:=(show ObjOk P w H h a (.dT GE) from uO ok e);refine ⟨z,y,xs,r,o,es,ep,h1,h2,h3,h4,fun x hx=>?_,h5⟩;have all:∀ {l:List (List a0 × V)}{m:List (List a0 × Addr × Value)},KT H l m->∀ x ∈ m,(tupleKind (bL P w)).is h x.1 x.2.1:=by
  intro l m q
  induction q with
  | nil=>intro x hx;exact nomatch hx
  | @cons p q ps qs hq t ih =>
   intro x hx;rcases zT.mp hx with e | hx
   ·subst e
    exact hU ok (by rw [<- hq.1];exact hq.2.1)
   ·exact ih x hx
 exact all r x hx
theorem vk {GE:List (List a0 × V)} (ok:HOk P w H h) (e:H a=some (.dT GE)):GE.length <= sizeLine/\(a == sysModules)=false /\
  ∃ xs,KT H GE xs/\h.DictOfH (tupleKind (bL P w)) a xs:=j5 ok (.inl e)
end
def DGet (H:Hp) (a:Addr) (y:V) (r:Option V):Prop :=
 (∃ GE k,Rd H a (.dK GE)/\y=kV k/\r=df GE k)\/∃ GE k b,Rd H a (.dT GE)/\y=.ref b/\H b=some (.tup (k.map kV))/\r=df GE k
def DPut (H:Hp) (a:Addr) (y v:V) (H':Hp):Prop :=
 (∃ GE k,H a=some (.dK GE)/\y=kV k/\GE.length < sizeLine/\H'=am H a (.dK (dh GE k v))) \/
 ∃ GE k b,H a=some (.dT GE)/\y=.ref b/\H b=some (.tup (k.map kV))/\GE.length < sizeLine/\H'=am H a (.dT (dh GE k v))
theorem DGet.k {H:Hp}{a:Addr}{GE:List (a0 × V)}{k:a0} (e:H a=some (.dK GE)):DGet H a (kV k) (df GE k):=.inl ⟨GE,k,.inl e,rfl,rfl⟩
theorem DGet.t {H:Hp}{a b:Addr}{GE:List (List a0 × V)}{k:List a0} (e:H a=some (.dT GE)) (eb:H b=some (.tup (k.map kV))):DGet H a (.ref b) (df GE k):=.inr ⟨GE,k,b,.inl e,rfl,eb,rfl⟩
theorem DPut.k {H:Hp}{a:Addr}{GE:List (a0 × V)}{k:a0}{v:V} (e:H a=some (.dK GE)) (hl:GE.length < sizeLine):DPut H a (kV k) v (am H a (.dK (dh GE k v))):=.inl ⟨GE,k,e,rfl,hl,rfl⟩
theorem DPut.t {H:Hp}{a b:Addr}{GE:List (List a0 × V)}{k:List a0}{v:V} (e:H a=some (.dT GE)) (eb:H b=some (.tup (k.map kV))) (hl:GE.length < sizeLine) :
  DPut H a (.ref b) v (am H a (.dT (dh GE k v))):=.inr ⟨GE,k,b,e,rfl,eb,hl,rfl⟩
section
variable {X:Cx}{GD:List (Addr × Obj)}{σ:St}{H:Hp}{s:Shared}{a:Addr}{y v:V}{u r:Value}{o:Option V}{A:Around}{E:Value->Shared->Prop}
theorem Inv.big (I:Inv X GD σ H s):sysModules < s.heap.objs.size:=by
 have h:mainGlobals < s.heap.objs.size:=(I.mod.glob.keeps I.bk).lt;exact Nat.lt_trans dC h
theorem rn {Q:Value->Shared->Prop} (hu:A.units + 1 < cLine) (I:Inv X GD σ H s) (g:DGet H a y (some v)) (ry:RelV y u) (h:∀ w' s',Inv X GD σ H s'->RelV v w'->Q w' s') :
  wpAny (model X.prog X.w) A (getItem (.ref a) u) Q E s:=by
 rcases g with ⟨GE,k,e,ey,l⟩ | ⟨GE,k,b,e,ey,eb,l⟩
 ·subst ey
  obtain ⟨z,hd,vs,rel,dd⟩:=j6 I.GJ e;obtain ⟨w',hw,rw'⟩:=RelO.some_of (v:=v) (o:=valueAt vs k) (by rw [l];exact rel.val k);exact wpAny_getItem_of (jQ ry) dd.mapOf hw (h w' _ (I.tok _) rw')
 ·subst ey
  cases (show u=Value.ref b from ry);obtain ⟨z,hd,xs,rel,dd⟩:=j5 I.GJ e;obtain ⟨w',hw,rw'⟩:=RelO.some_of (v:=v) (o:=(atKey xs k).map (·.2)) (by rw [l];exact rel.val k);obtain ⟨p,hp,hp2⟩:=zE.mp hw;refine wpAny_getItem_heap (tupleKind_room_in1 hu) (hU I.GJ eb) dd hp ?_;rw [hp2];exact h w' _ (I.tok _) rw'
theorem E9 {Q:Value->Shared->Prop} (hu:A.units + 1 < cLine) (I:Inv X GD σ H s) (g:DGet H a y o) (ry:RelV y u) (h:∀ s',Inv X GD σ H s'->Q (.bool o.isSome) s') :
  wpAny (model X.prog X.w) A (compareOp .In u (.ref a)) Q E s:=by
 rcases g with ⟨GE,k,e,ey,l⟩ | ⟨GE,k,b,e,ey,eb,l⟩
 ·subst ey
  obtain ⟨z,hd,vs,rel,dd⟩:=j6 I.GJ e;refine wpAny_in_of (jQ ry) hd dd.mapOf ?_;rw [<- (rel.val k).isSome_eq,<- l];exact h _ (I.tok _)
 ·subst ey
  cases (show u=Value.ref b from ry);obtain ⟨z,hd,xs,rel,dd⟩:=j5 I.GJ e;refine wpAny_in_heap (tupleKind_room_in1 hu) (hU I.GJ eb) hd dd ?_;have q:=(rel.val k).isSome_eq;rw [Option.isSome_map] at q;rw [<- q,<- l];exact h _ (I.tok _)
theorem xy {Q:Value->Shared->Prop} (hu:A.units + 1 < cLine) (I:Inv X GD σ H s) (g:DGet H a y o) (ry:RelV y u) (h:∀ s',Inv X GD σ H s'->Q (.bool (!o.isSome)) s') :
  wpAny (model X.prog X.w) A (compareOp .NotIn u (.ref a)) Q E s:=by
 rcases g with ⟨GE,k,e,ey,l⟩ | ⟨GE,k,b,e,ey,eb,l⟩
 ·subst ey
  obtain ⟨z,hd,vs,rel,dd⟩:=j6 I.GJ e;refine wpAny_notIn_of (jQ ry) hd dd.mapOf ?_;rw [<- (rel.val k).isSome_eq,<- l];exact h _ (I.tok _)
 ·subst ey
  cases (show u=Value.ref b from ry);obtain ⟨z,hd,xs,rel,dd⟩:=j5 I.GJ e;refine wpAny_notIn_heap (tupleKind_room_in1 hu) (hU I.GJ eb) hd dd ?_;have q:=(rel.val k).isSome_eq;rw [Option.isSome_map] at q;rw [<- q,<- l];exact h _ (I.tok _)
theorem oz {h':Heap}{t':Nat}{ob:HO} (I:Inv X GD σ H s) (mu:sf (H a)) (hs:Heap.SameBut a s.heap h') (he:∃ q,h'.get? a=some q) (new:ObjOk X.prog X.w (am H a ob) h' a ob) :
  Inv X GD σ (am H a ob) { s with heap:=h',toks:=t' } :=
 I.write (x:=a) (e:=a) mu (.inl rfl) (fun b q hb z=>(hs.2 b hb).trans z) he new
theorem A9 {P:Program}{w:World}{H':Hp}{h':Heap}{GE:List (a0 × V)}{vs:List (a0 × Value)} (z:GE.length <= sizeLine) (hd:(a == sysModules)=false) (rel:KV GE vs) (dd:h'.DictOf (bL P w) a vs) :
  ObjOk P w H' h' a (.dK GE):=⟨z,hd,vs,rel,dd⟩
theorem lr {H':Hp}{Q:Unit->Shared->Prop} (hu:A.units + 1 < cLine) (I:Inv X GD σ H s) (g:DPut H a y v H') (ry:RelV y u) (rv:RelV v r) (h:∀ s',Inv X GD σ H' s'->Q () s') :
  wpAny (model X.prog X.w) A (setItem (.ref a) u r) Q E s:=by
 rcases g with ⟨GE,k,e,ey,l,eH⟩ | ⟨GE,k,b,e,ey,eb,l,eH⟩
 ·subst ey eH
  obtain ⟨z,hd,vs,rel,dd⟩:=vn I.GJ e;have hz:vs.length <= sizeLine:=by rw [<- rel.length];exact z
  have hl:(dh GE k v).length <= sizeLine:=by have:=iQ GE k v;omega
  refine wpAny_setItem_pairs (hsz:=hz) (jQ ry) dd fun h' dd' hs=>h _ ?_
  have he:∃ q,h'.get? a=some q:=let ⟨q,_,_,hq,_⟩:=dd';⟨q,hq⟩;exact oz I (by rw [e];exact True.intro) hs he (A9 hl hd (rel.put k rv) dd')
 ·subst ey eH
  cases (show u=Value.ref b from ry);obtain ⟨z,hd,xs,rel,dd⟩:=vk I.GJ e;have hz:xs.length <= sizeLine:=by rw [<- Paired.length rel];exact z
  have hl:(dh GE k v).length <= sizeLine:=by have:=iQ GE k v;omega
  refine wpAny_setItem_heap (hsz:=hz) (tupleKind_room_in1 hu) (hU I.GJ eb) dd fun h' dd' hs=>h _ ?_
  obtain ⟨q,es,ep,hq,h2,h3,h4,_,h5⟩:=dd';refine oz I (by rw [e];exact True.intro) hs ⟨q,hq⟩ ⟨hl,hd,_,(rel.put k eb rv).keeps fun c ys ec=>?_,q,es,ep,hq,h2,h3,h4,h5⟩;rw [af (o4 ec e (fun z=>nomatch z))];exact ec
end
theorem nj {X:Cx}{GD:List (Addr × Obj)}{σ:St}{H:Hp}{s:Shared}{a:Addr}{y:V}{o:Option V} (I:Inv X GD σ H s) (g:DGet H a y o):s.TypeIs (.ref a) "dict":=by
 rcases g with ⟨GE,k,e,_,_⟩ | ⟨GE,k,b,e,_,_,_⟩
 ·obtain ⟨_,_,vs,_,dd⟩:=j6 I.GJ e
  exact dd.typeIs
 ·obtain ⟨_,_,xs,_,dd⟩:=j5 I.GJ e
  exact dd.typeIs
theorem ux {P:Program}{w:World}{H:Hp} (h:Heap) (hb:sysModules < h.objs.size):ObjOk P w H (h.push { cls:=.type "dict",data:=.dict #[] }) h.objs.size (.dK []) :=
 ⟨Nat.zero_le _,beq_eq_false_iff_ne.mpr (Ne.symm (zU hb)),[],.nil,Heap.DictOf.new h⟩
def p6:TE:=fun _ H Q=>∀ p,H p=none->Q (.ref p) (am H p (.dK []))
section
variable {X:Cx}{pos:Pos}
theorem tL:PE X (.Dict [] [] pos) p6:=fun GD s σ H Q I h =>
 wpAny_Dict_empty ⟨.ref s.heap.objs.size,_,I.laid (a:=s.heap.objs.size) (o:=.dK []) (t':=s.toks) (fun _ _ q=>zG _ q) (zP _) (ux s.heap I.big),rfl,h _ (I.GJ.fresh (zP _))⟩
end
end L2
namespace L2
open PySem PySem.Spec PySem.Calls PyProof.Rows
section
variable {prog:Program}{w:World}{A:Around}{E:Value->Shared->Prop}{s:Shared}
theorem pb (d:Addr) (hd:(d == sysModules)=false) :
  MeetsIn prog w (Builtin.«dict.__len__» ⟨[.ref d],[]⟩) (fun _ R s=>∃ xs:List (List a0 × Addr × Value),s.heap.DictOfH (tupleKind (bL prog w)) d xs/\R (.ok (.ret (.int xs.length s.toks))) { s with toks:=s.toks + 1 }) :=
 .of_wp fun A R s hq0=>by
  obtain ⟨GE,hm,h⟩:=hq0;obtain ⟨o,es,ep,ho,hc,hdat,hk,hp,hn⟩:=hm;show wpAny _ _ (dictSize d >>= _) _ _ s;unfold dictSize;refine yC (yC (wpAny_dictEntries ho hdat (yD ?_)));show wpAny _ _ (Builtin.Dict.pendingCount d >>= _) _ _ s;refine yC (wpAny_pendingCount_other hd ?_);refine wpAny_ret_mkInt ?_;have:es.size=GE.length:=size_of_entries hk;simpa [this] using h
theorem pF {d:Addr}{xs:List (List a0 × Addr × Value)}{Q:Value->Shared->Prop} (hd:(d == sysModules)=false) (hm:s.heap.DictOfH (tupleKind (bL prog w)) d xs) (hfit:(xs.length:Int) < 2 ^ 63)
  (h:Q (.int xs.length (s.toks + 1)) { s with toks:=s.toks + 1 + 1 }):wpAny (model prog w) A (call (.builtin "len") [.ref d]) Q E s:=by
 refine Calls.call_function_entry kind_len plain_len entry_len (args_len1 _) ?_;unfold Builtin.«len»;refine yC (m:=oneArg "len" _) (yD ?_);refine yC (m:=callSpecial? (.ref d) (Str.ofString "__len__")) (wpAny_callSpecial?_slot (name:=Str.ofString "__len__") hm.typeIs PySem.F.slot_dict_len
  (call_meetsIn PySem.F.slot_dict_len hm.typeIs PySem.F.entry_dict_len (PySem.F.args_dict_len_1 _) (pb d hd) ⟨xs,hm,?_⟩))
 show wpAny _ _ _ _ _ { s with toks:=s.toks + 1 };refine yC (yM (yD ?_));refine yC (wpAny_letGo ?_);show wpAny _ _ (if ((xs.length:Nat):Int) < 0 then _ else _) _ _ _;rw [yE oM];show wpAny _ _ (if ((xs.length:Nat):Int) ≥ 2 ^ 63 then _ else _) _ _ _;rw [yE oM];exact yC (wpAny_mkInt (yD ⟨_,rfl,h⟩))
end
section
variable {X:Cx}
theorem rD:bU X (.builtin "len") (fun xs H Q=>∃ a GE,xs=[V.ref a]/\H a=some (.dT GE)/\Q (.int GE.length) H):=by
 intro GD s σ H xs us Q I r h;obtain ⟨a,GE,rfl,ha,q⟩:=h;obtain ⟨u,rfl,ru⟩:=c9 r;cases ru;obtain ⟨z,hd,xs,rel,dd⟩:=vk I.GJ ha;have hl:=Paired.length rel;refine pF hd dd (by rw [<- hl];rw [sizeLine_eq] at z;omega) ?_;rw [<- hl];exact ⟨.int GE.length,H,I.tok _,⟨_,rfl⟩,q⟩
end
end L2
namespace DD
open PySem PySem.Spec PyProof.Rows L2
section
variable {K:Frag}{F F':Addr->Prop}{H H':Hp}{A:List Addr}
open Classical in
variable {σD:DSt}{σ:L2.St}{R:Ro}{d:D}{v:V}
end
end DD
namespace L2
open PySem PySem.Spec PyProof.Rows
noncomputable def vB (x:Str):It:=⟨fun i _=>∃ c,x.cps[i]?=some c,fun i H v H'=>H'=H/\∃ c,x.cps[i]?=some c/\v=.str ⟨#[c]⟩,fun i _=>x.cps[i]?=none⟩
theorem sB {P:Program}{w:World}{K:Frag}{tg:Expr} (x:Str) (t:Tok) (it:Addr):fV P w K tg (vB x) [it] it (fun i h=>h.IsStrIter it "str_ascii_iterator" x t i) where
 mem:=by simp
 obj:=fun i h st b hb=>by
  have e:b=it:=by simpa using hb
  subst e;obtain ⟨o,e,c,d⟩:=st;exact ⟨o,e,fun v z=>by rw [d] at z;cases z⟩
 keep:=fun i h h' st k=>by
  obtain ⟨o,e,r⟩:=st;exact ⟨o,k it (by simp) o e,r⟩
 item:=by
  intro X hP hw hK hc i GD s σ H E I hf st hg;subst hP hw hK;obtain ⟨c,hx⟩:=hg;obtain ⟨f0,f1,f2,f3,f4,f5⟩:=hf it (by simp);refine wpAny_pyNext_ascii_item st hx fun h' st' sb=>?_
  have I1:Inv X GD σ H { s with heap:=h',toks:=s.toks + 1 }:=I.turned (fun b o hb e=>(sb.2 b hb).trans e) f0 f1 f3 f4 f5;obtain ⟨o,e,cl,d⟩:=id st';exact ⟨_,rfl,iH (s:={ s with heap:=h',toks:=s.toks + 1 }) e cl d dC ⟨.str ⟨#[c]⟩,H,I1,⟨_,rfl⟩,⟨rfl,c,hx,rfl⟩,st',fun b hb=>(hf b hb).1⟩⟩
 done:=by
  intro X hP hw hK hc i GD s σ H E I hf st hg;subst hP hw hK;obtain ⟨f0,f1,f2,f3,f4,f5⟩:=hf it (by simp);exact wpAny_pyNext_ascii_end (I.ok.hd hc) st hg fun h' eb=>⟨rfl,I.turned (t':=s.toks) (fun b o hb e=>eb b o hb e) f0 f1 f3 f4 f5⟩
 self:=fun _ _ _ _ _ st h=>wpAny_pyIter_striter_ascii st h
end L2
namespace R
open PySem PySem.Spec PyProof.Rows L2
theorem sk:∀ {ps:List Str}{us:List Value},ps.Nodup->us.length=ps.length->ps.filterMap (fun n=>((ps.zip us).lookup n).map fun v=>(n,v))=ps.zip us/\ps.filter (fun n=>((ps.zip us).lookup n).isNone)=[]:=by
 have key:∀ {ps:List Str}{us:List Value},us.length=ps.length->∀ n ∈ ps,((ps.zip us).lookup n).isSome=true:=by
  intro ps
  induction ps with
  | nil=>intro us _ n hn;cases hn
  | cons p ps ih =>
   intro us hl n hn;cases us with
   | nil=>cases hl
   | cons u us =>
    rw [List.zip_cons_cons,yK];cases hb:n == p with
    | true=>rfl
    | false =>
     rcases zT.mp hn with rfl | hn
     ·simp at hb
     ·exact ih (by simpa using hl) n hn
 intro ps us nd hl;refine ⟨?_,List.filter_eq_nil_iff.mpr fun n hn=>by
  have:=key hl n hn
  cases h:(ps.zip us).lookup n with
  | none=>rw [h] at this;cases this
  | some v=>simp⟩
 -- the names ahead don't matter
 have gen:∀ (qs:List Str) (vs:List Value),qs.Nodup->vs.length=qs.length->∀ l:List (Str × Value),(∀ q ∈ qs,l.lookup q=(qs.zip vs).lookup q)->qs.filterMap (fun n=>(l.lookup n).map fun v=>(n,v))=qs.zip vs:=by
  intro qs
  induction qs with
  | nil=>intro vs _ _ l _;rfl
  | cons q qs ih =>
   intro vs nd hl l h;cases vs with
   | nil=>cases hl
   | cons v vs =>
    have h0:=h q z4;rw [List.zip_cons_cons,yK] at h0;simp only [beq_self_eq_true] at h0;rw [List.filterMap_cons,h0];rw [List.nodup_cons] at nd
    have:=ih vs nd.2 (by simpa using hl) l fun p hp=>by
     have:=h p (zQ _ hp)
     rw [List.zip_cons_cons,yK] at this;have ne:(p == q)=false:=by
      have:p ≠ q:=fun e=>nd.1 (e ▸ hp)
      simpa using this
     rw [ne] at this;exact this
    simp only [map_some];rw [this];rfl
 exact gen ps us nd hl _ fun _ _=>rfl
noncomputable def gY (a:Arguments):Bool:=a.posonlyargs.isEmpty && a.vararg.isNone && a.kwonlyargs.isEmpty && a.kwarg.isNone
theorem ka (hp:gY fd.params=true) (hd:fd.defaults=.none) (nd:(fd.params.args.map (·.arg)).Nodup) (hl:us.length=(fd.params.args.map (·.arg)).length):bindArgs fd ⟨us,[]⟩=pure ((fd.params.args.map (·.arg)).zip us):=by
 unfold gY at hp;simp only [zC,List.isEmpty_iff,Option.isNone_iff_eq_none] at hp;obtain ⟨⟨⟨h1,h2⟩,h3⟩,h4⟩:=hp;obtain ⟨z1,z2⟩:=sk nd hl;have hs:seqItems? fd.defaults=(do notAStandIn Value.none;pure none):=by rw [hd];rfl
 have hn:notAStandIn Value.none=pure ():=rfl;unfold bindArgs;simp only [h1,h2,h3,h4,hs,hn];simp only [List.map_nil,List.nil_append,List.forIn_nil,pure_bind,List.append_nil];rw [yE (by simp [hl])];simp only [Option.getD_none,List.length_nil,Nat.sub_zero,List.drop_nil,List.take_length,z2,List.isEmpty_nil,Bool.not_true,z6,if_false,List.drop_length,List.zip_nil_left,List.forIn_nil,pure_bind,z1]
end R
namespace L2
open PySem PySem.Spec PyProof.Rows
def iu (mg:Str->Option Value) (base:Heap):Prop:=∃ bm o,mg "__builtins__"=some (.ref bm)/\bm ≠ builtinsNs/\bm ≠ mainGlobals/\base.get? bm=some o/\o.cls=.type "module"/\o.dict=some builtinsNs/\o.data=.plain
noncomputable def CZ (c:Addr) (q:Str):HO:=.ext fun h=>h.CodeRec (.ref c) q
section
variable {X:Cx}{GD:List (Addr × Obj)}{σ:St}{H:Hp}{s:Shared}
def dO (H:Hp) (P:Addr) (pos:Pos) (q:Str):Prop:=∃ ps,H P=some (.tbl ps)/\TriplesOk ps.toList/\(codeAmong pos ps.toList=none\/∃ c,codeAmong pos ps.toList=some (.ref c)/\H c=some (CZ c q))
end
theorem qU (h:eJ k v=true):RelV (kV k) v:=by
 cases k with
 | inl i =>
  cases v <;> first | (cases h;done) | skip
  rename_i j t;have e:j=i:=by simpa [eJ,Value.isInt] using h
  subst e;exact ⟨t,rfl⟩
 | inr x =>
  cases v <;> first | (cases h;done) | skip
  rename_i y t;have e:y=x:=by simpa [eJ,Value.isStrOf] using h
  subst e;exact ⟨t,rfl⟩
theorem wY {κ:Type}{GE:List (κ × V)}{vs:List (κ × Value)} (r:KV GE vs):GE.map (·.1)=vs.map (·.1):=by
 induction r with
 | nil=>rfl
 | cons h t ih=>simp only [zO];rw [h.1,ih]
def Ei (d:Addr) (o:Obj) (GE:List (a0 × V)):It :=
 ⟨fun i H=>H d=some (.frz o (.dK GE))/\i < GE.length,fun i H x H'=>H'=H/\(GE.map fun p=>kV p.1)[i]?=some x,fun i H=>H d=some (.frz o (.dK GE))/\GE.length <= i⟩
theorem mK {ep:Nat} (I:Inv X GD σ H s) (h:H d=some (.frz o (.dK GE))) (ho:o.data=.dict es ep) :
  ∃ vs,KV GE vs/\s.heap.DictAt (bL X.prog X.w) d vs ep:=by
 obtain ⟨e1,_,_,vs,r,ob,es',ep',e2,c1,c2,c3⟩:=I.GJ d _ h;rw [e1] at e2;cases e2;rw [ho] at c2;cases c2;exact ⟨vs,r,o,es,e1,c1,ho,c3⟩
theorem pY {P:Program}{w:World}{K:Frag}{tg:Expr}{d:Addr}{o:Obj}{GE:List (a0 × V)}{es:Array DictEntry}{ep:Nat} (it:Addr) (hd:o.data=.dict es ep):fV P w K tg (Ei d o GE) [it] it (fun i h=>h.IsKeyIter it d i GE.length ep) where
 mem:=by simp
 obj:=fun i h st b hb=>by
  obtain rfl:b=it:=by simpa using hb
  obtain ⟨o,e,c,d⟩:=st;exact ⟨o,e,fun v z=>by rw [d] at z;cases z⟩
 keep:=fun i h h' st k=>let ⟨o,e,r⟩:=st;⟨o,k it (by simp) _ e,r⟩
 item:=by
  intro X hP hw hK hc i GD s σ H E I hf st hg;subst hP hw hK;obtain ⟨hg,hi⟩:=hg;obtain ⟨vs,r,da⟩:=mK I hg hd;have hl:GE.length=vs.length:=Paired.length r;obtain ⟨f0,f1,f2,f3,f4,f5⟩:=hf it (by simp);obtain ⟨q,hq⟩:∃ q,vs[i]?=some q:=⟨_,zF oM⟩;have hk:GE[i]?.map (·.1)=vs[i]?.map (·.1):=by
   rw [<- zR,<- zR,wY r]
  rw [hl] at st;refine wpAny_pyNext_dict_item st da (k:=q.1) (v:=q.2) hq fun key h' hkey st' sb=>?_
  have I1:Inv X GD σ H { s with heap:=h' }:=I.turned (t':=s.toks) (fun b o hb e=>(sb.2 b hb).trans e) f0 f1 f3 f4 f5;obtain ⟨o',e,c,dd⟩:=id st';refine ⟨key,rfl,iH (s:={ s with heap:=h' }) e c dd dC ⟨kV q.1,H,I1,qU hkey,⟨rfl,?_⟩,by rw [hl];exact st',fun b hb=>(hf b hb).1⟩⟩;rw [zR];rw [hq] at hk;cases hkv:GE[i]? with
  | none=>rw [hkv] at hk;cases hk
  | some p=>rw [hkv] at hk;simp at hk;simp [hk]
 done:=by
  intro X hP hw hK hc i GD s σ H E I hf st hg;subst hP hw hK;obtain ⟨hg,hi⟩:=hg;obtain ⟨vs,r,da⟩:=mK I hg hd;have hl:GE.length=vs.length:=Paired.length r;obtain ⟨f0,f1,f2,f3,f4,f5⟩:=hf it (by simp);rw [hl] at st;exact wpAny_pyNext_dict_end (I.ok.hd hc) st da (List.getElem?_eq_none oM) fun h' eb=>⟨rfl,I.turned (t':=s.toks) (fun b o hb e=>eb b o hb e) f0 f1 f3 f4 f5⟩
 self:=fun A i s Q E st h=>wpAny_pyIter_keyiter st h
section
variable {X:Cx}{GD:List (Addr × Obj)}{σ:St}{H:Hp}{s:Shared}{d:Addr}{GE:List (a0 × V)}{o:Obj}
theorem Inv.frzD (I:Inv X GD σ H s) (h:H d=some (.dK GE)) (e:s.heap.get? d=some o):Inv X GD σ (am H d (.frz o (.dK GE))) { s with toks:=s.toks }:=by
 have ne:∀ b u,H b=some u->(∀ GE,u ≠ .dK GE)->b ≠ d:=fun b u q n z=>by rw [z,h] at q;cases q;exact n _ rfl
 refine I.un (h':=s.heap) ⟨fun b o e _ _ _=>e,fun b o e _ _ _=>⟨o.slots,e⟩,fun b o e n _=>by rw [af (fun z=>by rw [z,h] at n;cases n)];exact n,fun b o e _=>⟨o,e⟩,fun b xs q=>by rw [af (ne b _ q fun _ z=>nomatch z)];exact q,fun b o u q=>by rw [af (ne b _ q fun _ z=>nomatch z)];exact q,
  fun b ps q=>⟨#[],by rw [af (ne b _ q fun _ z=>nomatch z),q];simp⟩⟩ fun b u q=>?_
 have st:∀ b u,H b=some u->ObjOk X.prog X.w (am H d (.frz o (.dK GE))) s.heap b u:=fun b u q=>(I.GJ b u q).stay (fun _ _ _ z=>z) (fun c z=>by rw [af (ne c _ z fun _ y=>nomatch y)];exact z) fun c xs z=>by rw [af (ne c _ z fun _ y=>nomatch y)];exact z
 by_cases hb:b=d
 ·subst hb;rw [aE] at q;cases q;exact ⟨e,st _ _ h⟩
 ·rw [af hb] at q;exact st b u q
theorem Inv.thawD (I:Inv X GD σ H s) (h:H d=some (.frz o (.dK GE))) (hn:∀ o u,X.H₀ d ≠ some (.frz o u)):Inv X GD σ (am H d (.dK GE)) s:=by
 have ne:∀ b u,H b=some u->(∀ o u',u ≠ .frz o u')->b ≠ d:=fun b u q n z=>by rw [z,h] at q;cases q;exact n _ _ rfl
 have nn:∀ b,H b=none->b ≠ d:=fun b q z=>by rw [z,h] at q;cases q
 have GJ:HOk X.prog X.w (am H d (.dK GE)) s.heap:=fun b u q=>by
  have st:∀ b u,H b=some u->ObjOk X.prog X.w (am H d (.dK GE)) s.heap b u:=fun b u q=>(I.GJ b u q).stay (fun _ _ _ z=>z) (fun c z=>by rw [af (ne c _ z fun _ _ y=>nomatch y)];exact z) fun c xs z=>by rw [af (ne c _ z fun _ _ y=>nomatch y)];exact z
  by_cases hb:b=d
  ·subst hb;rw [aE] at q;cases q;exact (st _ _ h).2
  ·rw [af hb] at q;exact st b u q
 refine ⟨I.ok,I.os,I.bare,⟨I.base.keep,I.base.slot,fun b o e n hx=>by rw [af (nn b (I.base.free b o e n hx))];exact I.base.free b o e n hx,I.base.there,fun b xs e=>by rw [af (ne b _ (I.base.tups b xs e) fun _ _ y=>nomatch y)];exact I.base.tups b xs e,
  fun b o u e=>by rw [af (fun z=>hn o u (by rw [<- z];exact e))];exact I.base.frzs b o u e,fun b ps e=>?_⟩,I.loc,I.cell,by rw [af (nn _ I.free)];exact I.free,fun x c e=>by rw [af (nn _ (I.freeC x c e))];exact I.freeC x c e,
  fun p hp=>by obtain ⟨a1,a2,a3⟩:=I.pin p hp;exact ⟨a1,by rw [af (nn _ a2)];exact a2,a3⟩,GJ,I.len⟩
 obtain ⟨more,q⟩:=I.base.tbls b ps e;exact ⟨more,by rw [af (ne b _ q fun _ _ y=>nomatch y)];exact q⟩
end
section
variable {X:Cx}{tg iter:Expr}{te:TE}
def CM (n0:Hp) (te:TE):TI:=fun σ H R=>te σ H fun x H1=>∃ d GE,x=.ref d/\H1 d=some (.dK GE)/\∀ o,(∀ o u,n0 d ≠ some (.frz o u))->R (Ei d o GE) (am H1 d (.frz o (.dK GE)))
theorem wp (hl:PE X iter te):PI X tg iter (CM X.H₀ te):=by
 intro GD s σ H R I h;refine aB (hl GD s σ H _ I h) fun v s1 hq0=>?_
 obtain ⟨x,H1,I1,r1,d,GE,e,hd,q⟩:=hq0;subst e;cases r1;obtain ⟨hz,hsys,vs,rv,ob,es,ep,e1,c1,c2,c3⟩:=I1.GJ d _ hd;have hl:GE.length=vs.length:=Paired.length rv;have hn:∀ o u,X.H₀ d ≠ some (.frz o u):=fun o u z=>by
  have:=I1.base.frzs d o u z
  rw [hd] at this;cases this
 have I2:=I1.frzD hd e1;refine wpAny_pyIter_dict hsys (knd:=bL X.prog X.w) ⟨ob,es,e1,c1,c2,c3⟩ ?_;have I3:Inv X GD σ (am H1 d (.frz ob (.dK GE))) { s1 with heap:=s1.heap.push { cls:=.type "dict_keyiterator",data:=.fields #[.ref d,.int 0 0,.int vs.length 0,.int ep 0] },toks:=s1.toks }:=I2.kept fun b o e=>zG _ e
 refine ⟨s1.heap.objs.size,[s1.heap.objs.size],_,_,_,rfl,I3,pY (GE:=GE) _ c2,⟨_,zY _ rfl,rfl,by rw [hl];rfl⟩,fun b hb=>?_,q ob hn⟩;obtain rfl:b=s1.heap.objs.size:=by simpa using hb
 exact I2.fpOk (zP _) I2.fresh
def lG (n0:Hp) (D:fW):fW:={ nx:=fun σ H=>∃ d o GE,H d=some (.frz o (.dK GE))/\(∀ o u,n0 d ≠ some (.frz o u))/\D.nx σ (am H d (.dK GE)),rt:=fun v H=>∃ d o GE,H d=some (.frz o (.dK GE))/\(∀ o u,n0 d ≠ some (.frz o u))/\D.rt v (am H d (.dK GE)) }
theorem wd {st:Stmt}{t:TS} (h:PS X st t):PS X st (fun D σ H=>t (lG X.H₀ D) σ H):=by
 intro GD s σ H D I q;refine aB (h GD s σ H (lG X.H₀ D) I q) fun f s' hs=>?_
 cases f with
 | next=>obtain ⟨σ',H',J,d,o,GE,e,n,q⟩:=hs;exact ⟨σ',_,J.thawD e n,q⟩
 | ret u=>obtain ⟨v,σ',H',J,r,d,o,GE,e,n,q⟩:=hs;exact ⟨v,σ',_,J.thawD e n,r,q⟩
 | brk=>obtain ⟨_,_,_,q⟩:=hs;exact q.elim
 | cont=>obtain ⟨_,_,_,q⟩:=hs;exact q.elim
end
end L2
namespace R
open PySem L2
inductive AV where
 | non | bl (b:Bool) | int (i:Int) | str (x:Str) | ref (k:Nat) | tup (xs:List AV) | fz (xs:List AV)
inductive GS where
 | lst (xs:List AV) | al (t:AV) | dK (GE:List (a0 × AV)) | dT (GE:List (List a0 × AV)) | ins (c:Str) (fs:List (Str × AV)) | wk (GE:List (a0 × AV))
abbrev aa:=List GS
abbrev Sl:=List (Option AV)
abbrev Pr:=Addr->Prop
class GG where
 tb:List (Addr × Pos × Str)
structure Gm where
 K:Frag
 mg:Str->Option Value
def FLk (mg:Gm) (P:Pr) (H:Hp) (a:Addr) (vs:List V):Prop:=(P a/\Rd H a (.lst vs))\/∀ H',bC mg.K H' a vs
mutual
def RA (mg:Gm) (P:Pr) (H:Hp) (φ:List Addr):AV->V->Prop
 | .non,v=>v=.non
 | .bl b,v=>v=.bl b
 | .int i,v=>v=.int i
 | .str x,v=>v=.str x
 | .ref k,v=>∃ a,φ[k]?=some a/\v=.ref a
 | .tup xs,v=>∃ a vs,v=.ref a/\P a/\H a=some (.tup vs)/\GI mg P H φ xs vs
 | .fz xs,v=>∃ a vs,v=.ref a/\FLk mg P H a vs/\GI mg P H [] xs vs
def GI (mg:Gm) (P:Pr) (H:Hp) (φ:List Addr):List AV->List V->Prop
 | [],vs=>vs=[]
 | x::xs,vs=>∃ v ws,vs=v::ws/\RA mg P H φ x v/\GI mg P H φ xs ws
end
theorem bv:GI mg P H φ [] []:=by simp only [GI]
theorem bc (h:RA mg P H φ x v) (t:GI mg P H φ xs vs):GI mg P H φ (x::xs) (v::vs):=by simp only [GI];exact ⟨v,vs,rfl,h,t⟩
structure Frm (P:Pr) (φ:List Addr) (H:Hp) (P':Pr) (φ':List Addr) (H':Hp):Prop where
 ext:∀ a,P a->P' a/\H' a=H a
 new:∃ more,φ'=φ++more/\∀ a ∈ more,H a=none
 keep:∀ a,H a ≠ none->a ∉ φ->(∀ ps,H a ≠ some (.tbl ps))->H' a=H a
 pn:∀ a,P' a->P a\/H a=none\/a ∈ φ
 sm:∀ a,H a ≠ none->H' a ≠ none
 fz:∀ a o u,H a=some (.frz o u)->H' a=some (.frz o u)
theorem Frm.refl:Frm P φ H P φ H:=⟨fun _ h=>⟨h,rfl⟩,⟨[],by simp,by simp⟩,fun _ _ _ _=>rfl,fun _ h=>.inl h,fun _ h=>h,fun _ _ _ h=>h⟩
theorem Frm.trans {P P1 P2:Pr}{φ φ1 φ2:List Addr}{H H1 H2:Hp} (a:Frm P φ H P1 φ1 H1) (b:Frm P1 φ1 H1 P2 φ2 H2):Frm P φ H P2 φ2 H2:=by
 obtain ⟨m1,e1,n1⟩:=a.new;obtain ⟨m2,e2,n2⟩:=b.new;have nn:∀ x,H1 x=none->H x=none:=fun x h=>by
  cases e:H x with
  | none=>rfl
  | some o=>exact absurd h (a.sm x (by rw [e];exact fun z=>nomatch z))
 refine ⟨fun x h=>?_,⟨m1++m2,by rw [e2,e1,yJ],fun x h=>?_⟩,fun x h1 h2 h3=>?_,fun x h=>?_,fun x h=>b.sm x (a.sm x h),fun x o u h=>b.fz x o u (a.fz x o u h)⟩
 ·obtain ⟨h1,e⟩:=a.ext x h
  obtain ⟨h2,e'⟩:=b.ext x h1;exact ⟨h2,e'.trans e⟩
 ·rcases zZ.mp h with h | h
  ·exact n1 x h
  ·exact nn x (n2 x h)
 ·have e:=a.keep x h1 h2 h3
  refine (b.keep x (by rw [e];exact h1) (fun z=>?_) (by rw [e];exact h3)).trans e;rw [e1] at z;rcases zZ.mp z with z | z
  ·exact h2 z
  ·exact h1 (n1 x z)
 ·rcases b.pn x h with h | h | h
  ·exact a.pn x h
  ·exact .inr (.inl (nn x h))
  ·rw [e1] at h
   rcases zZ.mp h with h | h
   ·exact .inr (.inr h)
   ·exact .inr (.inl (n1 x h))
theorem Rd.at (h:Rd H a u) (e:H' a=H a):Rd H' a u:=by
 rcases h with h | ⟨o,h⟩
 ·exact .inl (e.trans h)
 ·exact .inr ⟨o,e.trans h⟩
theorem FLk.mono {mg:Gm}{P P':Pr}{H H':Hp}{a:Addr}{vs:List V} (h:FLk mg P H a vs) (x:∀ a,P a->P' a/\H' a=H a):FLk mg P' H' a vs:=by
 rcases h with ⟨p,r⟩ | h
 ·exact .inl ⟨(x a p).1,Rd.at r (x a p).2⟩
 ·exact .inr h
theorem FLk.sq (h:FLk mg P H a vs):bC mg.K H a vs:=by
 rcases h with ⟨_,r⟩ | h
 ·exact .inl r
 ·exact h H
section
variable {mg:Gm}{P P':Pr}{H H':Hp}{φ φ':List Addr}
mutual
theorem RA.mono' (x:∀ a,P a->P' a/\H' a=H a):∀ {t:AV}{v:V}{φ φ':List Addr},(∀ (k:Nat) a,φ[k]?=some a->φ'[k]?=some a)->RA mg P H φ t v->RA mg P' H' φ' t v
 | .non,_,_,_,_,h=>by simp only [RA] at h ⊢;exact h
 | .bl _,_,_,_,_,h=>by simp only [RA] at h ⊢;exact h
 | .int _,_,_,_,_,h=>by simp only [RA] at h ⊢;exact h
 | .str _,_,_,_,_,h=>by simp only [RA] at h ⊢;exact h
 | .ref k,_,_,_,hφ,h=>by simp only [RA] at h ⊢;obtain ⟨a,e,r⟩:=h;exact ⟨a,hφ k a e,r⟩
 | .tup xs,_,_,_,hφ,h=>by
  simp only [RA] at h ⊢;obtain ⟨a,vs,r,p,e,q⟩:=h;exact ⟨a,vs,r,(x a p).1,(x a p).2.trans e,GI.mono' x hφ q⟩
 | .fz xs,_,_,_,hφ,h=>by
  simp only [RA] at h ⊢;obtain ⟨a,vs,r,e,q⟩:=h;exact ⟨a,vs,r,e.mono x,GI.mono' x (fun _ _ z=>z) q⟩
theorem GI.mono' (x:∀ a,P a->P' a/\H' a=H a):∀ {ts:List AV}{vs:List V}{φ φ':List Addr},(∀ (k:Nat) a,φ[k]?=some a->φ'[k]?=some a)->GI mg P H φ ts vs->GI mg P' H' φ' ts vs
 | [],_,_,_,_,h=>by simp only [GI] at h ⊢;exact h
 | t::ts,_,_,_,hφ,h=>by
  simp only [GI] at h ⊢;obtain ⟨v,ws,e,r,q⟩:=h;exact ⟨v,ws,e,RA.mono' x hφ r,GI.mono' x hφ q⟩
end
theorem RA.mono {t:AV}{v:V} (h:RA mg P H φ t v) (x:∀ a,P a->P' a/\H' a=H a) (hφ:∀ (k:Nat) a,φ[k]?=some a->φ'[k]?=some a):RA mg P' H' φ' t v:=RA.mono' x hφ h
theorem GI.mono {ts:List AV}{vs:List V} (h:GI mg P H φ ts vs) (x:∀ a,P a->P' a/\H' a=H a) (hφ:∀ (k:Nat) a,φ[k]?=some a->φ'[k]?=some a):GI mg P' H' φ' ts vs:=GI.mono' x hφ h
theorem Frm.ix (f:Frm P φ H P' φ' H'):∀ (k:Nat) a,φ[k]?=some a->φ'[k]?=some a:=fun k a e=>by
 obtain ⟨m,rfl,_⟩:=f.new;rw [zN (zB.mp e).1];exact e
theorem RA.frm (h:RA mg P H φ t v) (f:Frm P φ H P' φ' H'):RA mg P' H' φ' t v:=h.mono f.ext f.ix
theorem GI.frm (h:GI mg P H φ ts vs) (f:Frm P φ H P' φ' H'):GI mg P' H' φ' ts vs:=h.mono f.ext f.ix
theorem RA.lift (h:RA mg P H [] t v):RA mg P H φ t v:=h.mono (fun _ h=>⟨h,rfl⟩) fun k a e=>by simp at e
theorem GI.lift (h:GI mg P H [] ts vs):GI mg P H φ ts vs:=h.mono (fun _ h=>⟨h,rfl⟩) fun k a e=>by simp at e
theorem GI.length:∀ {ts:List AV}{vs:List V},GI mg P H φ ts vs->ts.length=vs.length
 | [],_,h=>by simp only [GI] at h;subst h;rfl
 | t::ts,_,h=>by
  simp only [GI] at h;obtain ⟨v,ws,rfl,_,q⟩:=h;rw [yQ,yQ,GI.length q]
theorem GI.get:∀ {ts:List AV}{vs:List V}{i:Nat}{t:AV},GI mg P H φ ts vs->ts[i]?=some t->∃ v,vs[i]?=some v/\RA mg P H φ t v
 | [],_,_,_,_,e=>by simp at e
 | x::ts,_,i,t,h,e=>by
  simp only [GI] at h;obtain ⟨v,ws,rfl,r,q⟩:=h;cases i with
  | zero=>simp at e;subst e;exact ⟨v,rfl,r⟩
  | succ i=>simpa using GI.get (i:=i) q (by simpa using e)
theorem GI.app:∀ {xs ys:List AV}{vs ws:List V},GI mg P H φ xs vs->GI mg P H φ ys ws->GI mg P H φ (xs++ys) (vs++ws)
 | [],_,_,_,h,g=>by simp only [GI] at h;subst h;exact g
 | x::xs,_,_,_,h,g=>by
  simp only [GI] at h;obtain ⟨v,ws,rfl,r,q⟩:=h;exact bc r (GI.app q g)
theorem GI.take:∀ {xs:List AV}{vs:List V} (n:Nat),GI mg P H φ xs vs->GI mg P H φ (xs.take n) (vs.take n)
 | xs,vs,0,_=>by rw [List.take_zero,List.take_zero];exact bv
 | [],vs,n + 1,h=>by simp only [GI] at h;subst h;exact bv
 | x::xs,vs,n + 1,h=>by
  simp only [GI] at h;obtain ⟨v,ws,rfl,r,q⟩:=h;exact bc r (GI.take n q)
theorem GI.drop:∀ {xs:List AV}{vs:List V} (n:Nat),GI mg P H φ xs vs->GI mg P H φ (xs.drop n) (vs.drop n)
 | xs,vs,0,h=>h
 | [],vs,n + 1,h=>by simp only [GI] at h;subst h;exact bv
 | x::xs,vs,n + 1,h=>by
  simp only [GI] at h;obtain ⟨v,ws,rfl,r,q⟩:=h;exact GI.drop n q
theorem GI.set (r:RA mg P H φ x v):∀ {xs:List AV}{vs:List V} (n:Nat),GI mg P H φ xs vs->GI mg P H φ (xs.set n x) (vs.set n v)
 | [],vs,_,h=>by simp only [GI] at h;subst h;exact bv
 | y::xs,vs,n,h=>by
  simp only [GI] at h;obtain ⟨w,ws,rfl,q,t⟩:=h;cases n with
  | zero=>exact bc r t
  | succ n=>exact bc q (GI.set r n t)
theorem GI.ints:∀ {ns:List Int}{vs:List V},GI mg P H φ (ns.map .int) vs->vs=ns.map .int
 | [],_,h=>by simpa only [List.map_nil,GI] using h
 | n::ns,_,h=>by
  simp only [zO,GI,RA] at h;obtain ⟨v,ws,rfl,rfl,q⟩:=h;rw [GI.ints q];rfl
theorem GI.of_ints:∀ {ns:List Int},GI mg P H φ (ns.map .int) (ns.map V.int)
 | []=>bv
 | n::ns=>bc (by simp only [RA]) GI.of_ints
end
def KVR (mg:Gm) (P:Pr) (H:Hp) (φ:List Addr) {κ:Type} (GE:List (κ × AV)) (ws:List (κ × V)):Prop:=GE.map (·.1)=ws.map (·.1)/\GI mg P H φ (GE.map (·.2)) (ws.map (·.2))
def CellR (mg:Gm) (P:Pr) (H:Hp) (φ:List Addr) (a:Addr):GS->Prop
 | .lst xs=>¬ P a/\∃ vs,H a=some (.lst vs)/\GI mg P H φ xs vs
 | .al t=>P a/\RA mg P H [] t (.ref a)
 | .dK GE=>¬ P a/\∃ ws,H a=some (.dK ws)/\KVR mg P H φ GE ws
 | .dT GE=>¬ P a/\∃ ws,H a=some (.dT ws)/\KVR mg P H φ GE ws
 | .ins c fs=>¬ P a/\∃ C dx ws,mg.mg c=some (.ref C)/\H a=some (.ins C dx ws)/\KVR mg P H φ fs ws
 | .wk GE=>¬ P a/\∃ o ws,H a=some (.frz o (.dK ws))/\KVR mg P H φ GE ws
def Bx (o:Option HO):Prop:=(∀ ps,o ≠ some (.tbl ps))/\∀ f,o ≠ some (.ext f)
theorem _root_.L2.dO.new (h:dO H P pos q) (hp:H p=none):dO (am H p o) P pos q:=by
 obtain ⟨ps,e,t,c⟩:=h;refine ⟨ps,by rw [af (a8 e hp)];exact e,t,?_⟩;rcases c with c | ⟨c',c1,c2⟩
 ·exact .inl c
 ·exact .inr ⟨c',c1,by rw [af (a8 c2 hp)];exact c2⟩
theorem _root_.L2.dO.ne (h:dO H P pos q) (hp:H p=none):P ≠ p:=by
 obtain ⟨ps,e,_⟩:=h;exact a8 e hp
theorem _root_.L2.dO.wr (h:dO H P pos q) (hp:Bx (H p)):dO (am H p o) P pos q:=by
 obtain ⟨ps,e,t,c⟩:=h;refine ⟨ps,by rw [af fun z=>hp.1 ps (by rw [<- z];exact e)];exact e,t,?_⟩;rcases c with c | ⟨c',c1,c2⟩
 ·exact .inl c
 ·exact .inr ⟨c',c1,by rw [af fun z=>hp.2 _ (by rw [<- z];exact c2)];exact c2⟩
structure Sim [GG] (mg:Gm) (P:Pr) (φ:List Addr) (st:aa) (H:Hp):Prop where
 len:φ.length=st.length
 nd:φ.Nodup
 dom:∀ a,P a->H a ≠ none
 cd:∀ a ∈ φ,H a ≠ none
 cell:∀ (k:Nat) c a,st[k]?=some c->φ[k]?=some a->CellR mg P H φ a c
 tb:∀ t ∈ GG.tb,dO H t.1 t.2.1 t.2.2/\¬ P t.1
section
variable {mg:Gm}{P P':Pr}{H H':Hp}{φ φ':List Addr}{st st':aa}{a:Addr}
theorem KVR.mono {κ:Type}{GE:List (κ × AV)}{ws:List (κ × V)} (h:KVR mg P H φ GE ws) (x:∀ a,P a->P' a/\H' a=H a) (hφ:∀ (k:Nat) a,φ[k]?=some a->φ'[k]?=some a):KVR mg P' H' φ' GE ws:=⟨h.1,h.2.mono x hφ⟩
theorem CellR.mono {c:GS} (h:CellR mg P H φ a c) (x:∀ a,P a->P' a/\H' a=H a) (hφ:∀ (k:Nat) a,φ[k]?=some a->φ'[k]?=some a) (e:H' a=H a) (np:¬ P a->¬ P' a):CellR mg P' H' φ' a c:=by
 cases c with
 | lst xs=>obtain ⟨n,vs,r,q⟩:=h;exact ⟨np n,vs,e.trans r,q.mono x hφ⟩
 | al t=>exact ⟨(x a h.1).1,h.2.mono x fun _ _ z=>z⟩
 | dK GE=>obtain ⟨n,vs,r,q⟩:=h;exact ⟨np n,vs,e.trans r,q.mono x hφ⟩
 | dT GE=>obtain ⟨n,vs,r,q⟩:=h;exact ⟨np n,vs,e.trans r,q.mono x hφ⟩
 | ins c fs=>obtain ⟨n,C,dx,ws,m,r,q⟩:=h;exact ⟨np n,C,dx,ws,m,e.trans r,q.mono x hφ⟩
 | wk GE=>obtain ⟨n,o,ws,r,q⟩:=h;exact ⟨np n,o,ws,e.trans r,q.mono x hφ⟩
theorem Sim.at [GG] (s:Sim mg P φ st H) {k:Nat} (e:st[k]?=some c):∃ a,φ[k]?=some a/\CellR mg P H φ a c:=by
 have hk:k < φ.length:=by rw [s.len];exact (zB.mp e).1
 exact ⟨φ[k],zF hk,s.cell k c _ e (zF hk)⟩
theorem Sim.notb [GG] (s:Sim mg P φ st H) {k:Nat} (ea:φ[k]?=some a) (na:¬ P a):Bx (H a):=by
 obtain ⟨c,hc⟩:∃ c,st[k]?=some c:=⟨_,zF (by rw [<- s.len];exact (zB.mp ea).1)⟩;have h:=s.cell k c a hc ea;cases c with
 | lst xs=>obtain ⟨n,vs,r,q⟩:=h;rw [r];exact ⟨fun _ z=>(nomatch z),fun _ z=>(nomatch z)⟩
 | al t=>exact absurd h.1 na
 | dK GE=>obtain ⟨n,vs,r,q⟩:=h;rw [r];exact ⟨fun _ z=>(nomatch z),fun _ z=>(nomatch z)⟩
 | dT GE=>obtain ⟨n,vs,r,q⟩:=h;rw [r];exact ⟨fun _ z=>(nomatch z),fun _ z=>(nomatch z)⟩
 | ins c fs=>obtain ⟨n,C,dx,ws,m,r,q⟩:=h;rw [r];exact ⟨fun _ z=>(nomatch z),fun _ z=>(nomatch z)⟩
 | wk GE=>obtain ⟨n,o,ws,r,q⟩:=h;rw [r];exact ⟨fun _ z=>(nomatch z),fun _ z=>(nomatch z)⟩
theorem Sim.tnc [GG] (s:Sim mg P φ st H) (ht:t ∈ GG.tb):t.1 ∉ φ:=fun h=>by
 obtain ⟨j,hj⟩:=List.getElem?_of_mem h;obtain ⟨ps,e,_⟩:=(s.tb t ht).1;exact (s.notb hj (s.tb t ht).2).1 ps e
theorem Sim.ckeep [GG] (s:Sim mg P φ st H) (x:∀ a,P a->H' a=H a) (k:∀ a,H a ≠ none->(∀ ps,H a ≠ some (.tbl ps))->H' a=H a):∀ a ∈ φ,H' a=H a:=fun a h=>by
 by_cases hP:P a
 ·exact x a hP
 ·obtain ⟨j,hj⟩:=List.getElem?_of_mem h
  exact k a (s.cd a h) (s.notb hj hP).1
theorem Sim.stay [GG] (s:Sim mg P φ st H) (x:∀ a,P a->P' a/\H' a=H a) (hc:∀ a ∈ φ,H' a=H a) (np:∀ a ∈ φ,¬ P a->¬ P' a) (dm:∀ a,P' a->H' a ≠ none) (tb:∀ t ∈ GG.tb,dO H' t.1 t.2.1 t.2.2/\¬ P' t.1):Sim mg P' φ st H' :=
 ⟨s.len,s.nd,dm,fun a h=>by rw [hc a h];exact s.cd a h,fun k c a e1 e2=>(s.cell k c a e1 e2).mono x (fun _ _ z=>z) (hc a (zW e2)) (np a (zW e2)),tb⟩
theorem Sim.nil [GG] (dm:∀ a,P a->H a ≠ none) (tb:∀ t ∈ GG.tb,dO H t.1 t.2.1 t.2.2/\¬ P t.1):Sim mg P [] [] H:=⟨rfl,List.nodup_nil,dm,fun _ h=>by simp at h,fun k c a e _=>by simp at e,tb⟩
theorem jK [GG] (s:Sim mg P φ st H) (hp:H p=none):Frm P φ H (fun a=>P a\/a=p) φ (am H p o)/\Sim mg (fun a=>P a\/a=p) φ st (am H p o):=by
 have ne:∀ a,H a ≠ none->a ≠ p:=fun a h e=>h (by rw [e];exact hp)
 have f:Frm P φ H (fun a=>P a\/a=p) φ (am H p o):=by
  refine ⟨fun a h=>⟨.inl h,af (ne a (s.dom a h))⟩,⟨[],by simp,by simp⟩,fun a h _ _=>af (ne a h),fun a h=>?_,fun a h=>by rw [af (ne a h)];exact h,fun a o u h=>by rw [af (a8 h hp)];exact h⟩;rcases h with h | h
  ·exact .inl h
  ·exact .inr (.inl (by rw [h];exact hp))
 refine ⟨f,s.stay f.ext (fun a h=>af (ne a (s.cd a h))) (fun a h n z=>?_) (fun a h=>?_) fun t ht=>⟨(s.tb t ht).1.new hp,fun z=>z.elim (s.tb t ht).2 (fun e=>(s.tb t ht).1.ne hp e)⟩⟩
 ·rcases z with z | z
  ·exact n z
  ·exact ne a (s.cd a h) z
 ·rcases h with h | h
  ·rw [af (ne a (s.dom a h))];exact s.dom a h
  ·rw [h,aE];exact fun z=>nomatch z
theorem jm [GG] (s:Sim mg P φ st H) (hp:H p=none) (hc:CellR mg P (am H p o) (φ++[p]) p c):Frm P φ H P (φ++[p]) (am H p o)/\Sim mg P (φ++[p]) (st++[c]) (am H p o):=by
 have ne:∀ a,H a ≠ none->a ≠ p:=fun a h e=>h (by rw [e];exact hp)
 have ex:∀ a,P a->P a/\am H p o a=H a:=fun a h=>⟨h,af (ne a (s.dom a h))⟩
 have ix:∀ (k:Nat) a,φ[k]?=some a->(φ++[p])[k]?=some a:=fun k a e=>by rw [zN (zB.mp e).1];exact e
 have sm:∀ a,H a ≠ none->am H p o a ≠ none:=fun a h=>by rw [af (ne a h)];exact h
 refine ⟨⟨ex,⟨[p],rfl,fun a h=>by rw [zL.mp h];exact hp⟩,fun a h _ _=>af (ne a h),fun a h=>.inl h,sm,fun a o u h=>by rw [af (a8 h hp)];exact h⟩,?_,?_,fun a h=>sm a (s.dom a h),fun a h=>?_,fun k d a e1 e2=>?_,fun t ht=>⟨(s.tb t ht).1.new hp,(s.tb t ht).2⟩⟩
 ·rw [zV,zV,s.len];rfl
 ·exact List.nodup_append.mpr ⟨s.nd,(by simp),fun a h b hb e=>ne a (s.cd a h) (by rw [e];exact zL.mp hb)⟩
 ·rcases zZ.mp h with h | h
  ·exact sm a (s.cd a h)
  ·rw [zL.mp h,aE];exact fun z=>nomatch z
 ·by_cases hk:k < st.length
  ·rw [zN hk] at e1
   rw [zN (by rw [s.len];exact hk)] at e2;exact (s.cell k d a e1 e2).mono ex ix (af (ne a (s.cd a (zW e2)))) fun z=>z
  ·have hk':k=st.length:=by
    have:=(zB.mp e1).1
    rw [zV] at this;simp at this;omega
   subst hk';simp at e1;rw [<- s.len] at e2;simp at e2;subst e1;subst e2;exact hc
theorem eN [GG] {k:Nat} (s:Sim mg P φ st H) (ea:φ[k]?=some a) (na:¬ P a) (hc:CellR mg P (am H a o) φ a c) (nz:∀ o u,H a ≠ some (.frz o u)):Frm P φ H P φ (am H a o)/\Sim mg P φ (st.set k c) (am H a o):=by
 have hm:a ∈ φ:=zW ea;have ne:∀ b,P b->b ≠ a:=fun b h e=>na (by rw [<- e];exact h)
 have sm:∀ b,H b ≠ none->am H a o b ≠ none:=fun b h=>by
  by_cases e:b=a
  ·rw [e,aE];exact fun z=>nomatch z
  ·rw [af e];exact h
 have ex:∀ b,P b->P b/\am H a o b=H b:=fun b h=>⟨h,af (ne b h)⟩
 refine ⟨⟨ex,⟨[],by simp,by simp⟩,fun b _ h _=>af fun e=>h (by rw [e];exact hm),fun b h=>.inl h,sm,fun b o u h=>by rw [af (fun e=>nz o u (by rw [<- e];exact h))];exact h⟩,by rw [List.length_set];exact s.len,s.nd,fun b h=>sm b (s.dom b h),fun b h=>sm b (s.cd b h),fun j d b e1 e2=>?_,fun t ht=>⟨(s.tb t ht).1.wr (s.notb ea na),(s.tb t ht).2⟩⟩;by_cases hj:j=k
 ·subst hj
  rw [ea] at e2;cases e2;rw [List.getElem?_set_self (by rw [<- s.len];exact (zB.mp ea).1)] at e1;cases e1;exact hc
 ·rw [List.getElem?_set_ne (Ne.symm hj)] at e1
  have hb:b ≠ a:=fun e=>hj (by
   subst e;exact nodup_ix' s.nd e2 ea)
  exact (s.cell j d b e1 e2).mono ex (fun _ _ z=>z) (af hb) fun z=>z
where
 nodup_ix' {l:List Addr} (hN:l.Nodup) {i j:Nat}{x:Addr} (a:l[i]?=some x) (b:l[j]?=some x):i=j:=by
  obtain ⟨h1,e1⟩:=zB.mp a;obtain ⟨h2,e2⟩:=zB.mp b;exact (List.getElem_inj hN).mp (e1.trans e2.symm)
end
end R
namespace R
open PySem PySem.Spec PyProof.Rows L2
open DD (PE_imp PT_imp PA_imp PS_imp PSs_imp OpR_imp PW_imp PG_imp)
abbrev St:=L2.St
abbrev _root_.L2.Cx.gm (X:Cx):Gm:=⟨X.K,X.mg⟩
def KG [GG] {α β:Type} (mg:Gm) (Rl:Gm->Pr->Hp->List Addr->α->β->Prop) (P:Pr) (φ:List Addr) (H:Hp) (r:Option (α × aa)) (Q:β->Hp->Prop):Prop :=
 ∃ a st',r=some (a,st')/\∀ P' φ' H' b,Frm P φ H P' φ' H'->Sim mg P' φ' st' H'->Rl mg P' H' φ' a b->Q b H'
def RB {α:Type} (_:Gm) (_:Pr) (_:Hp) (_:List Addr) (a b:α):Prop:=a=b
section
variable {α β γ δ:Type}{mg:Gm}{Ra:Gm->Pr->Hp->List Addr->α->β->Prop}{Rc:Gm->Pr->Hp->List Addr->γ->δ->Prop}{P:Pr}{φ:List Addr}{H:Hp}
theorem KG.bind [GG] {m:Option (α × aa)}{k:α × aa->Option (γ × aa)}{Q:δ->Hp->Prop} (h:KG mg Rc P φ H (m.bind k) Q) :
  KG mg Ra P φ H m fun b H1=>∃ P1 φ1 st1 a,Frm P φ H P1 φ1 H1/\Sim mg P1 φ1 st1 H1/\Ra mg P1 H1 φ1 a b/\KG mg Rc P1 φ1 H1 (k (a,st1)) Q:=by
 obtain ⟨c,st',e,q⟩:=h;cases m with
 | none=>cases e
 | some p =>
  obtain ⟨a,st1⟩:=p;refine ⟨a,st1,rfl,fun P1 φ1 H1 b f s r=>⟨P1,φ1,st1,a,f,s,r,c,st',e,fun P' φ' H' d f' s' r'=>q P' φ' H' d (f.trans f') s' r'⟩⟩
theorem KG.pure [GG] {a:α}{st:aa}{Q:β->Hp->Prop}{b:β} (h:KG mg Ra P φ H (some (a,st)) Q) (s:Sim mg P φ st H) (r:Ra mg P H φ a b):Q b H:=by
 obtain ⟨_,_,e,q⟩:=h;cases e;exact q P φ H b Frm.refl s r
theorem KG.map [GG] {m:Option α}{st:aa}{Q:β->Hp->Prop} (h:KG mg Ra P φ H (m.map fun a=>(a,st)) Q):∃ a,m=some a/\KG mg Ra P φ H (some (a,st)) Q:=by
 obtain ⟨b,st',e,q⟩:=h;cases m with
 | none=>cases e
 | some a=>exact ⟨a,rfl,b,st',e,q⟩
end
def GL (mg:Gm) (P:Pr) (H:Hp) (φ:List Addr) (sl:Sl) (σ:St):Prop:=sl.length=σ.length/\∀ (i:Nat) v,sl[i]?=some (some v)->∃ w,σ[i]?=some (some w)/\RA mg P H φ v w
section
variable {mg:Gm}{P P':Pr}{H H':Hp}{φ φ':List Addr}{sl:Sl}{σ:St}
theorem GL.frm (h:GL mg P H φ sl σ) (f:Frm P φ H P' φ' H'):GL mg P' H' φ' sl σ:=⟨h.1,fun i v e=>let ⟨w,e',r⟩:=h.2 i v e;⟨w,e',r.frm f⟩⟩
theorem GL.set (h:GL mg P H φ sl σ) (r:RA mg P H φ v w) (i:Nat):GL mg P H φ (sl.set i (some v)) (σ.set i (some w)):=by
 refine ⟨by rw [List.length_set,List.length_set];exact h.1,fun j u e=>?_⟩;by_cases hj:i=j
 ·subst hj
  by_cases hi:i < sl.length
  ·rw [List.getElem?_set_self hi] at e
   cases e;exact ⟨w,List.getElem?_set_self (by rw [<- h.1];exact hi),r⟩
  ·rw [List.getElem?_eq_none (by rw [List.length_set];omega)] at e;cases e
 ·rw [List.getElem?_set_ne hj] at e
  rw [List.getElem?_set_ne hj];exact h.2 j u e
end
abbrev EF:=Sl->aa->Option (AV × aa)
abbrev TF:=Sl->aa->Option (Bool × aa)
abbrev AF:=Sl->aa->Option (List AV × aa)
def rE [GG] (mg:Gm) (f:EF):TE:=fun σ H Q=>∃ P φ sl st,GL mg P H φ sl σ/\Sim mg P φ st H/\KG mg RA P φ H (f sl st) Q
def rT [GG] (mg:Gm) (f:TF):TT:=fun σ H Q=>∃ P φ sl st,GL mg P H φ sl σ/\Sim mg P φ st H/\KG mg RB P φ H (f sl st) Q
def rA [GG] (mg:Gm) (f:AF):TA:=fun σ H Q=>∃ P φ sl st,GL mg P H φ sl σ/\Sim mg P φ st H/\KG mg GI P φ H (f sl st) Q
def QE [GG] (X:Cx) (e:Expr) (f:EF):Prop:=PE X e (rE X.gm f)
def QT [GG] (X:Cx) (e:Expr) (f:TF):Prop:=PT X e (rT X.gm f)
def QW [GG] (X:Cx) (e:Expr) (f:TF):Prop:=PW X e (rT X.gm f)
def QA [GG] (X:Cx) (es:List Expr) (f:AF):Prop:=PA X es (rA X.gm f)
def aV (i:Nat):EF:=fun sl st=>match sl[i]? with
 | some (some v)=>some (v,st)
 | _=>none
def aC (v:AV):EF:=fun _ st=>some (v,st)
def dL:AF:=fun _ st=>some ([],st)
def dM (f:EF) (g:AF):AF:=fun sl st=>(f sl st).bind fun p=>(g sl p.2).bind fun q=>some (p.1::q.1,q.2)
noncomputable def jA:AV->Option V
 | .non=>some .non
 | .bl b=>some (.bl b)
 | .int i=>some (.int i)
 | .str x=>some (.str x)
 | _=>none
theorem RA.sc (h:jA v=some w):RA mg P H φ v w:=by
 cases v <;> simp only [jA] at h <;> cases h <;> simp only [RA]
section
variable {X:Cx}{e:Expr}{es:List Expr}{pos:Pos}
theorem yr [GG] {i:Nat} (hN:X.N[i]?=some x) (hv:rY X.env.scope x) (hd:(x == ("__debug__":Str))=false) (hcd:(x == ("__classdict__":Str))=false):QE X (.Name x pos) (aV i) :=
 PE_imp (zh hN hv hd hcd) fun σ H Q hq0=>by
  obtain ⟨P,φ,sl,st,r,s,k⟩:=hq0;unfold aV at k;cases h:sl[i]? with
  | none=>rw [h] at k;obtain ⟨_,_,e,_⟩:=k;cases e
  | some o =>
   cases o with
   | none=>rw [h] at k;obtain ⟨_,_,e,_⟩:=k;cases e
   | some v =>
    rw [h] at k;obtain ⟨w,e,ra⟩:=r.2 i v h;exact ⟨w,e,k.pure s ra⟩
theorem mf [GG] (hw:jA v=some w) (h:PE X e t) (ht:∀ σ H Q,Q w H->t σ H Q):QE X e (aC v) :=
 PE_imp h fun σ H Q ⟨P,φ,sl,st,r,s,k⟩=>ht σ H Q (k.pure s (RA.sc hw))
theorem eT [GG]:QA X [] dL:=PA_imp qz fun σ H Q ⟨P,φ,sl,st,r,s,k⟩=>k.pure s bv
theorem cQ [GG] (ha:QE X e f) (hr:QA X es g) (hs:starEach (e::es) X.env=(false,eval e X.env)::starEach es X.env):QA X (e::es) (dM f g) :=
 PA_imp (kA ha hr hs) fun σ H Q ⟨P,φ,sl,st,r,s,k⟩=>⟨P,φ,sl,st,r,s,by
  obtain ⟨a,st',e1,q⟩:=k.bind (Ra:=RA);refine ⟨a,st',e1,fun P1 φ1 H1 b f1 s1 r1=>?_⟩;obtain ⟨P2,φ2,st2,a2,f2,s2,r2,k2⟩:=q P1 φ1 H1 b f1 s1 r1;refine ⟨P2,φ2,sl,st2,r.frm f2,s2,?_⟩;obtain ⟨xs,st3,e3,q3⟩:=k2.bind (Ra:=GI);refine ⟨xs,st3,e3,fun P4 φ4 H4 bs f4 s4 r4=>?_⟩;obtain ⟨P5,φ5,st5,a5,f5,s5,r5,k5⟩:=q3 P4 φ4 H4 bs f4 s4 r4;exact k5.pure s5 (bc (r2.frm f5) r5)⟩
end
def a2 (f g:EF) (k:AV->AV->aa->Option (AV × aa)):EF:=fun sl st=>(f sl st).bind fun p=>(g sl p.2).bind fun q=>k p.1 q.1 q.2
def a1 (f:EF) (k:AV->aa->Option (AV × aa)):EF:=fun sl st=>(f sl st).bind fun p=>k p.1 p.2
def r2 [GG] (mg:Gm) (k:AV->AV->aa->Option (AV × aa)):R2:=fun v w H Q=>∃ P φ st x y,Sim mg P φ st H/\RA mg P H φ x v/\RA mg P H φ y w/\KG mg RA P φ H (k x y st) Q
def r1 [GG] (mg:Gm) (k:AV->aa->Option (AV × aa)):V->Hp->VK->Prop:=fun v H Q=>∃ P φ st x,Sim mg P φ st H/\RA mg P H φ x v/\KG mg RA P φ H (k x st) Q
section
variable {mg:Gm}{k:AV->AV->aa->Option (AV × aa)}{k1:AV->aa->Option (AV × aa)}{f g:EF}
theorem pN [GG] (q:rE mg (a2 f g k) σ H Q):p0 (r2 mg k) (rE mg f) (rE mg g) σ H Q:=by
 obtain ⟨P,φ,sl,st,rs,s,kk⟩:=q;refine ⟨P,φ,sl,st,rs,s,?_⟩;obtain ⟨a,st',e1,q⟩:=kk.bind (Ra:=RA);refine ⟨a,st',e1,fun P1 φ1 H1 b f1 s1 r1=>?_⟩;obtain ⟨P2,φ2,st2,x,f2,s2,r2,k2⟩:=q P1 φ1 H1 b f1 s1 r1;refine ⟨P2,φ2,sl,st2,rs.frm f2,s2,?_⟩;obtain ⟨a',st3,e3,q3⟩:=k2.bind (Ra:=RA);refine ⟨a',st3,e3,fun P4 φ4 H4 b' f4 s4 r4=>?_⟩;obtain ⟨P5,φ5,st5,y,f5,s5,r5,k5⟩:=q3 P4 φ4 H4 b' f4 s4 r4;exact ⟨P5,φ5,st5,x,y,s5,r2.frm f5,r5,k5⟩
theorem Fe [GG] (q:rE mg (a1 f k1) σ H Q):Dm (r1 mg k1) (rE mg f) σ H Q:=by
 obtain ⟨P,φ,sl,st,rs,s,kk⟩:=q;refine ⟨P,φ,sl,st,rs,s,?_⟩;obtain ⟨a,st',e1,q⟩:=kk.bind (Ra:=RA);refine ⟨a,st',e1,fun P1 φ1 H1 b f1 s1 r1=>?_⟩;obtain ⟨P2,φ2,st2,x,f2,s2,r2,k2⟩:=q P1 φ1 H1 b f1 s1 r1;exact ⟨P2,φ2,st2,x,s2,r2,k2⟩
end
def eS (h:aa->AV->AV->Option AV):AV->AV->aa->Option (AV × aa):=fun x y st=>(h st x y).map fun z=>(z,st)
def x4 (h:aa->AV->Option AV):AV->aa->Option (AV × aa):=fun x st=>(h st x).map fun z=>(z,st)
noncomputable def c4 (a b:Int):Bool:=(Nat.ble a.natAbs.log2 62 || Nat.ble b.natAbs.log2 62) || (Nat.ble a.natAbs.log2 1000000 && Nat.ble b.natAbs.log2 1000000)
noncomputable def gJ (b:Int):Bool:=!(b == 0) && Nat.ble b.natAbs.log2 8999
noncomputable def ku (a b:Int):Bool:=decide (0 <= b) && Nat.ble b.natAbs 100000 && Nat.ble a.natAbs.log2 62
noncomputable def ou (a b:Int):Int:=if 0 < b then a / b else a.fdiv b
noncomputable def ot (a b:Int):Int:=if 0 < b then a % b else a.fmod b
def jv:Operator->Int->Int->Option Int
 | .Add,a,b=>some (a + b)
 | .Sub,a,b=>some (a - b)
 | .Mult,a,b=>if c4 a b=true then some (a * b) else none
 | .FloorDiv,a,b=>if gJ b=true then some (ou a b) else none
 | .Mod,a,b=>if b=0 then none else some (ot a b)
 | .Pow,a,b=>if ku a b=true then some (a ^ b.toNat) else none
 | .LShift,a,b=>if ku a b=true then some (a * 2 ^ b.toNat) else none
 | .RShift,a,b=>if 0 <= b then some (a / 2 ^ b.toNat) else none
 | .BitAnd,a,b=>some (Builtin.bitAnd a b)
 | .BitOr,a,b=>some (Builtin.bitOr a b)
 | .BitXor,a,b=>some (Builtin.bitXor a b)
 | _,_,_=>none
def bM (o:Operator) (_:aa):AV->AV->Option AV
 | .int a,.int b=>(jv o a b).map .int
 | .str a,.str b=>if (decide (o=.Add) && Nat.ble (a.length + b.length) 1000000)=true then some (.str (a++b)) else none
 | _,_=>none
theorem log2_lt {n k:Nat} (h:Nat.ble n.log2 k=true):n < 2 ^ (k + 1):=by
 by_cases h0:n=0
 ·subst h0;exact Nat.two_pow_pos _
 ·exact (Nat.log2_lt h0).mp (Nat.lt_succ_of_le (zS h))
theorem iJ {a:Int}{k:Nat} (h:a.natAbs < 2 ^ k):Builtin.Int.intBits a <= k:=by
 unfold Builtin.Int.intBits;split
 ·omega
 ·rename_i h0
  have:a.natAbs.log2 < k:=(Nat.log2_lt (by simpa using h0)).mpr h;omega
theorem wN {a b:Int} (h:c4 a b=true):IntMulOk a b:=by
 unfold c4 at h;rcases Bool.or_eq_true_iff.mp h with h | h
 ·rcases Bool.or_eq_true_iff.mp h with h | h
  ·exact .of_left (z0 (iJ (log2_lt h)) dC)
  ·exact .of_right (z0 (iJ (log2_lt h)) dC)
 ·obtain ⟨h1,h2⟩:=Bool.and_eq_true_iff.mp h
  exact .of_bits (z0 (iJ (log2_lt h1)) dC) (z0 (iJ (log2_lt h2)) dC)
theorem xx {b:Int} (h:gJ b=true):b ≠ 0/\b.natAbs.log2 < 9000:=by
 unfold gJ at h;obtain ⟨h1,h2⟩:=Bool.and_eq_true_iff.mp h;exact ⟨by simpa using h1,Nat.lt_succ_of_le (zS h2)⟩
theorem A7 (a b:Int):a.fdiv b=ou a b:=by
 unfold ou;split
 ·exact Int.fdiv_eq_ediv_of_nonneg _ oM
 ·rfl
theorem A6 (a b:Int):a.fmod b=ot a b:=by
 unfold ot;split
 ·exact Int.fmod_eq_emod_of_nonneg _ oM
 ·rfl
theorem nH {a b:Int} (h:ku a b=true):Fh a b:=by
 unfold ku at h;simp only [zC,z7] at h;obtain ⟨⟨h1,h2⟩,h3⟩:=h;have h2:=zS h2;exact ⟨h1,by omega,zJ (log2_lt h3) dC⟩
def EE (o:Operator):R2:=fun x y H Q=>(∃ i j k,x=.int i/\y=.int j/\jv o i j=some k/\Q (.int k) H)\/(o=.Add/\∃ i j,x=.str i/\y=.str j/\i.length + j.length <= sizeLine/\Q (.str (i++j)) H)
section
variable {X:Cx}
theorem zu (o:Operator):fr X (binaryOp o) (EE o):=by
 have hI:∀ (h:∀ i j k t u s (Q:Value->Shared->Prop) (E:Value->Shared->Prop),jv o i j=some k->Q (.int k s.toks) { s with toks:=s.toks + 1 }->wpAny (model X.prog X.w) X.A (binaryOp o (.int i t) (.int j u)) Q E s)
   (GD:List (Addr × Obj)) (s:Shared) (σ:St) (H:Hp) (x y:V) (v u:Value) (Q:VK),Inv X GD σ H s->RelV x v->RelV y u->(∃ i j k,x=.int i/\y=.int j/\jv o i j=some k/\Q (.int k) H) ->
   wpAny (model X.prog X.w) X.A (binaryOp o v u) (EP X GD σ Q) X.xe s:=by
  rintro h GD s σ H x y v u Q I rx ry ⟨i,j,k,e1,e2,e3,q⟩;subst e1;subst e2;obtain ⟨t,rfl⟩:=rx;obtain ⟨t',rfl⟩:=ry;exact h i j k t t' s _ _ e3 ⟨.int k,H,I.tok _,⟨_,rfl⟩,q⟩
 intro GD s σ H x y v u Q I rx ry h;rcases h with h | ⟨rfl,h⟩
 ·refine hI ?_ GD s σ H x y v u Q I rx ry h
  intro i j k t u s Q E e q;cases o <;> simp only [jv] at e
  case Add=>cases e;exact add_int q
  case Sub=>cases e;exact sub_int q
  case Mult =>
   split at e
   ·rename_i hm;cases e;exact mul_int q (wN hm)
   ·cases e
  case FloorDiv =>
   split at e
   ·rename_i hm;cases e
    obtain ⟨h1,h2⟩:=xx hm;exact floordiv_int h1 (by rw [A7];exact q) (.inl (PyProof.noPylong_of_log2 h2))
   ·cases e
  case Mod =>
   split at e
   ·cases e
   ·rename_i hm;cases e
    exact mod_int' hm (by rw [A6];exact q)
  case Pow =>
   split at e
   ·rename_i hm;cases e
    have c:=nH hm;exact pow_int_small c.1 c.2.1 c.2.2 q
   ·cases e
  case LShift =>
   split at e
   ·rename_i hm;cases e
    have c:=nH hm;exact lshift_int_small c.1 c.2.1 c.2.2 q
   ·cases e
  case RShift =>
   split at e
   ·rename_i hm;cases e
    exact rshift_int hm (by rw [Int.fdiv_eq_ediv_of_nonneg _ (oO _)];exact q)
   ·cases e
  case BitAnd=>cases e;exact and_int q
  case BitOr=>cases e;exact or_int q
  case BitXor=>cases e;exact xor_int q
  all_goals cases e
 ·exact o0 GD s σ H x y v u Q I rx ry h
theorem Ai [GG] (o:Operator):fr X (binaryOp o) (r2 X.gm (eS (bM o))):=OpR_imp (zu o) fun v w H Q hq0=>by
 obtain ⟨P,φ,st,x,y,s,r1,r2,k⟩:=hq0;obtain ⟨z,e,k⟩:=k.map;cases x <;> cases y <;> simp only [bM] at e <;> first | (cases e;done) | skip
 ·rename_i a b
  simp only [RA] at r1 r2;obtain ⟨c,e1,e2⟩:=zE.mp e;subst e2;exact .inl ⟨a,b,c,r1,r2,e1,k.pure s (by simp only [RA])⟩
 ·rename_i a b
  simp only [RA] at r1 r2;split at e
  ·rename_i hc
   cases e;simp only [zC,z7] at hc;exact .inr ⟨hc.1,a,b,r1,r2,z0 (zS hc.2) dC,k.pure s (by simp only [RA])⟩
  ·cases e
theorem yz [GG] (ha:QE X a f) (hb:QE X b g):QE X (.BinOp a o b pos) (a2 f g (eS (bM o))) :=
 PE_imp (oZ (Ai o) ha hb) fun _ _ _ q=>pN q
end
end R
namespace R
open PySem PySem.Spec PyProof.Rows L2
open DD (PE_imp PT_imp PA_imp PS_imp PSs_imp OpR_imp PW_imp PG_imp pyOk reads_each any_vals obj_list obj_tup)
def dr (st:aa):AV->AV
 | .ref k=>match st[k]? with
  | some (.al t)=>t
  | _=>.ref k
 | v=>v
def cS (st:aa) (v:AV):Option (List AV):=match dr st v with
 | .fz xs=>some xs
 | .ref k=>match st[k]? with
  | some (.lst xs)=>some xs
  | _=>none
 | _=>none
def gS (st:aa) (v:AV):Option (List AV):=match dr st v with
 | .tup xs=>some xs
 | _=>none
section
variable {mg:Gm}{P:Pr}{φ:List Addr}{st:aa}{H:Hp}{v:AV}{w:V}{xs:List AV}
theorem RA.dr [GG] (s:Sim mg P φ st H) (r:RA mg P H φ v w):RA mg P H φ (dr st v) w:=by
 cases v with
 | ref k =>
  unfold R.dr;dsimp only;split
  ·rename_i t h
   obtain ⟨a,e,c⟩:=s.at h;simp only [RA] at r;obtain ⟨a',e',rfl⟩:=r;rw [e] at e';cases e';exact c.2.lift
  ·exact r
 | _=>exact r
theorem RA.ls [GG] (s:Sim mg P φ st H) (r:RA mg P H φ v w) (h:cS st v=some xs):∃ a vs,w=.ref a/\bC mg.K H a vs/\GI mg P H φ xs vs:=by
 have r:=r.dr s;unfold cS at h;split at h
 ·rename_i ys e
  cases h;rw [e] at r;simp only [RA] at r;obtain ⟨a,vs,e1,e2,q⟩:=r;exact ⟨a,vs,e1,e2.sq,q.lift⟩
 ·rename_i k e
  rw [e] at r;simp only [RA] at r;obtain ⟨a,e1,e2⟩:=r;split at h
  ·rename_i ys e3
   cases h;obtain ⟨a',e4,c⟩:=s.at e3;rw [e1] at e4;cases e4;obtain ⟨_,vs,q1,q2⟩:=c;exact ⟨a,vs,e2,.inl (.inl q1),q2⟩
  ·cases h
 ·cases h
theorem RA.tp [GG] (s:Sim mg P φ st H) (r:RA mg P H φ v w) (h:gS st v=some xs):∃ a vs,w=.ref a/\H a=some (.tup vs)/\GI mg P H φ xs vs:=by
 have r:=r.dr s;unfold gS at h;split at h
 ·rename_i ys e
  cases h;rw [e] at r;simp only [RA] at r;obtain ⟨a,vs,e1,_,e2,q⟩:=r;exact ⟨a,vs,e1,e2,q⟩
 ·cases h
end
noncomputable def aM {α β:Type} (f:α->Option β):List α->Option (List β)
 | []=>some []
 | x::xs=>(f x).bind fun y=>(aM f xs).map fun ys=>y::ys
theorem ck {α β γ:Type}{f:α->Option β}{i:γ->α}{g:γ->β} (h:∀ x,f (i x)=some (g x)) (xs:List γ):aM f (xs.map i)=some (xs.map g):=by
 induction xs with
 | nil=>rfl
 | cons x xs ih=>simp only [zO,aM,h,ih,bind_some,map_some]
def bE:Nat->aa->AV->Option PyData
 | _,_,.non=>some .none
 | _,_,.bl b=>some (.bool b)
 | _,_,.int i=>some (.int i)
 | _,_,.str x=>some (.str x)
 | n + 1,st,.fz xs=>(aM (bE n st) xs).map .list
 | n + 1,st,.tup xs=>(aM (bE n st) xs).map .tuple
 | n + 1,st,.ref k=>match st[k]? with
  | some (.lst xs)=>(aM (bE n st) xs).map .list
  | some (.al t)=>bE n st t
  | _=>none
 | 0,_,_=>none
section
variable {X:Cx}{GD:List (Addr × Obj)}{σ:St}{H:Hp}{s:Shared}{P:Pr}{φ:List Addr}{st:aa}
theorem l8 [GG] {n:Nat} (ih:∀ t v p u,RA mg P H φ t v->bE n st t=some p->RelV v u->∃ as,Reads s.heap u p as) :
  ∀ {xs:List AV}{vs:List V}{ps:List PyData}{us:List Value},GI mg P H φ xs vs->aM (bE n st) xs=some ps->Vals vs us->∃ as,ReadsAll s.heap us ps as:=by
 intro xs
 induction xs with
 | nil =>
  intro vs ps us r e q;simp only [GI] at r;subst r;cases e;cases q;exact ⟨_,.nil⟩
 | cons x xs ihx =>
  intro vs ps us r e q;simp only [GI] at r;obtain ⟨v,ws,rfl,r1,r2⟩:=r;simp only [aM] at e;obtain ⟨p,e1,e2⟩:=zA e;obtain ⟨qs,e3,e4⟩:=zE.mp e2;subst e4;cases q with
  | cons q1 q2 =>
   obtain ⟨as,ra⟩:=ih x v p _ r1 e1 q1;obtain ⟨bs,rb⟩:=ihx r2 e3 q2;exact ⟨_,.cons ra rb⟩
theorem fZ [GG] (I:L2.Inv X GD σ H s) (sm:Sim X.gm P φ st H):∀ (n:Nat) (t:AV) (v:V) (p:PyData) (u:Value),RA X.gm P H φ t v->bE n st t=some p->RelV v u->∃ as,Reads s.heap u p as:=by
 have lst:∀ {a:Addr}{vs:List V}{u:Value}{ps:List PyData},bC X.K H a vs->RelV (.ref a) u->(∀ {us:List Value},Vals vs us->∃ as,ReadsAll s.heap us ps as)->∃ as,Reads s.heap u (.list ps) as:=by
  intro a vs u ps h ru k;cases ru;obtain ⟨GH,ob,m,rv,e1,e2,e3⟩:=obj_list I h;obtain ⟨as,ra⟩:=k rv;exact ⟨_,.list e1 e2 e3 ra⟩
 have dt:∀ (n:Nat) (t:AV) (v:V) (p:PyData) (u:Value) (w:V),jA t=some w->RA X.gm P H φ t v->bE n st t=some p->RelV v u->∃ as,Reads s.heap u p as:=by
  intro n t v p u w hs r e ru;cases t with
  | non=>cases n <;> (simp only [bE] at e;cases e;simp only [RA] at r;subst r;cases ru;exact ⟨_,.none⟩)
  | bl b=>cases n <;> (simp only [bE] at e;cases e;simp only [RA] at r;subst r;cases ru;exact ⟨_,.bool b⟩)
  | int i=>cases n <;> (simp only [bE] at e;cases e;simp only [RA] at r;subst r;obtain ⟨t,rfl⟩:=ru;exact ⟨_,.int i t⟩)
  | str x=>cases n <;> (simp only [bE] at e;cases e;simp only [RA] at r;subst r;obtain ⟨t,rfl⟩:=ru;exact ⟨_,.str x t⟩)
  | _=>cases hs
 intro n
 induction n with
 | zero =>
  intro t v p u r e ru;cases t with
  | non=>exact dt 0 _ v p u _ rfl r e ru
  | bl b=>exact dt 0 _ v p u _ rfl r e ru
  | int i=>exact dt 0 _ v p u _ rfl r e ru
  | str x=>exact dt 0 _ v p u _ rfl r e ru
  | _=>simp only [bE] at e;cases e
 | succ n ih =>
  intro t v p u r e ru;cases t with
  | non=>exact dt _ _ v p u _ rfl r e ru
  | bl b=>exact dt _ _ v p u _ rfl r e ru
  | int i=>exact dt _ _ v p u _ rfl r e ru
  | str x=>exact dt _ _ v p u _ rfl r e ru
  | fz xs =>
   simp only [bE] at e;obtain ⟨ps,e1,e2⟩:=zE.mp e;subst e2;simp only [RA] at r;obtain ⟨a,vs,rfl,h,q⟩:=r;exact lst h.sq ru fun rv=>l8 ih q.lift e1 rv
  | tup xs =>
   simp only [bE] at e;obtain ⟨ps,e1,e2⟩:=zE.mp e;subst e2;simp only [RA] at r;obtain ⟨a,vs,rfl,_,h,q⟩:=r;cases ru;obtain ⟨GH,ob,m,rv,h1,h2,h3⟩:=obj_tup I (show dP X.K H a vs from .inl (.inl h));obtain ⟨as,ra⟩:=l8 ih q e1 rv;exact ⟨_,.tuple h1 h2 h3 ra⟩
  | ref k =>
   simp only [bE] at e;simp only [RA] at r;obtain ⟨a,ea,rfl⟩:=r;split at e
   ·rename_i xs hk
    obtain ⟨ps,e1,e2⟩:=zE.mp e;subst e2;obtain ⟨a',ea',c⟩:=sm.at hk;rw [ea] at ea';cases ea';obtain ⟨_,vs,h,q⟩:=c;exact lst (.inl (.inl h)) ru fun rv=>l8 ih q e1 rv
   ·rename_i t hk
    obtain ⟨a',ea',c⟩:=sm.at hk;rw [ea] at ea';cases ea';exact ih t _ p u c.2.lift e ru
   ·cases e
end
def jZ (st:aa) (x y:AV):Option Bool:=(bE 9 st x).bind fun p=>(bE 9 st y).bind fun q=>if pyOk p q=true then some (PyData.eqv p q) else none
def jp:AV->Option a0
 | .int i=>some (.inl i)
 | .str x=>some (.inr x)
 | _=>none
noncomputable def ko {κ:Type} [DecidableEq κ] (GE:List (κ × AV)) (k:κ):Option AV:=(GE.find? fun kv=>decide (kv.1=k)).map (·.2)
def gi (st:aa):AV->Option (List (a0 × AV))
 | .ref k=>match st[k]? with
  | some (.dK GE)=>some GE
  | _=>none
 | _=>none
def i6 (st:aa):AV->Option (List (List a0 × AV))
 | .ref k=>match st[k]? with
  | some (.dT GE)=>some GE
  | _=>none
 | _=>none
def kG (st:aa) (y x:AV):Option (Option AV):=match gi st y with
 | some GE=>(jp x).map fun k=>ko GE k
 | none=>match i6 st y with
  | some GE=>match x with
   | .tup xs=>(aM jp xs).map fun k=>ko GE k
   | _=>none
  | none=>none
def oi (st:aa) (x y:AV):Option Bool:=match kG st y x with
 | some o=>some o.isSome
 | none=>match x,y with
  | .str a,.str b=>some (!(Builtin.Str.occurrences b a 0 b.length 1).isEmpty)
  | _,_=>(bE 9 st x).bind fun q=>(bE 9 st y).bind fun p=>match p with
   | .list ps=>if (ps.all fun r=>pyOk r q)=true then some (ps.any fun r=>PyData.eqv r q) else none
   | .tuple ps=>if (ps.all fun r=>pyOk r q)=true then some (ps.any fun r=>PyData.eqv r q) else none
   | _=>none
noncomputable def tP:CmpOp->Int->Int->Option Bool
 | .Lt,a,b=>some (decide (a < b))
 | .LtE,a,b=>some (decide (a <= b))
 | .Gt,a,b=>some (decide (b < a))
 | .GtE,a,b=>some (decide (b <= a))
 | _,_,_=>none
noncomputable def Ak:AV->Bool
 | .non=>true
 | _=>false
def AN (x y:AV):Option Bool:=match y with
 | .non=>some (Ak x)
 | .bl b=>(match x with
  | .bl a=>some (a == b)
  | _=>none)
 | _=>none
noncomputable def Ax:CmpOp->List AV->List AV->Option Bool
 | .Lt,[.int a,.int b],[.int c,.int d]=>some (if a=c then decide (b < d) else decide (a < c))
 | _,_,_=>none
def bA (o:CmpOp) (st:aa) (x y:AV):Option Bool:=match o with
 | .Eq=>jZ st x y
 | .NotEq=>(jZ st x y).map (!·)
 | .Is=>AN x y
 | .IsNot=>(AN x y).map (!·)
 | .In=>oi st x y
 | .NotIn=>(oi st x y).map (!·)
 | o=>match x,y with
  | .int a,.int b=>tP o a b
  | .tup xs,.tup ys=>Ax o xs ys
  | _,_=>none
def fe (o:CmpOp) (st:aa) (x y:AV):Option AV:=(bA o st x y).map .bl
theorem nD (h:pyOk p q=true):p.canLay0=true/\q.canLay0=true/\min p.depth q.depth <= 50:=by
 simp only [pyOk,zC,z7] at h;exact ⟨h.1.1,h.1.2,h.2⟩
theorem gq {P:Pr}{H:Hp}{φ:List Addr}{κ:Type} [DecidableEq κ] {GE:List (κ × AV)}{ws:List (κ × V)} (h:KVR mg P H φ GE ws) (k:κ) :
  (ko GE k).isSome=(df ws k).isSome/\∀ v,ko GE k=some v->∃ w,df ws k=some w/\RA mg P H φ v w:=by
 induction GE generalizing ws with
 | nil =>
  have:ws=[]:=by simpa using h.1.symm
  subst this;exact ⟨rfl,fun v e=>by cases e⟩
 | cons p GE ih =>
  cases ws with
  | nil=>exact absurd h.1 (by simp)
  | cons q ws =>
   obtain ⟨h1,h2⟩:=h;rw [zO,zO] at h1 h2;injection h1 with h3 h4;simp only [GI] at h2;obtain ⟨v,vs,h5,h6,h7⟩:=h2;injection h5 with h8 h9;subst h8;subst h9;by_cases e:q.1=k
   ·have e':p.1=k:=h3.trans e
    simp only [ko,df,List.find?_cons,e,e',decide_true,map_some];refine ⟨rfl,fun v hv=>?_⟩;cases hv;exact ⟨_,rfl,h6⟩
   ·have e':¬ p.1=k:=fun z=>e (h3.symm.trans z)
    have:=ih (ws:=ws) ⟨h4,h7⟩
    simp only [ko,df,List.find?_cons,e,e',decide_false] at this ⊢;exact this
section
variable {X:Cx}{GD:List (Addr × Obj)}{σ:St}{H:Hp}{s:Shared}{P:Pr}{φ:List Addr}{st:aa}
theorem jo (h:jp x=some k) (r:RA mg P H φ x v):v=kV k:=by
 cases x <;> simp only [jp] at h <;> first | (cases h;done) | skip
 ·cases h;simp only [RA] at r;exact r
 ·cases h;simp only [RA] at r;exact r
theorem k9 [GG]:∀ {xs:List AV}{vs:List V}{k:List a0},aM jp xs=some k->GI mg P H φ xs vs->vs=k.map kV:=by
 intro xs
 induction xs with
 | nil=>intro vs k e r;cases e;simp only [GI] at r;exact r
 | cons x xs ih =>
  intro vs k e r;simp only [aM] at e;obtain ⟨p,e1,e2⟩:=zA e;obtain ⟨qs,e3,e4⟩:=zE.mp e2;subst e4;simp only [GI] at r;obtain ⟨v,ws,rfl,r1,r2⟩:=r;rw [jo e1 r1,ih e3 r2];rfl
theorem mJ [GG] (sm:Sim X.gm P φ st H) {x y:AV}{v w:V}{o:Option AV} (h:kG st y x=some o) (rx:RA X.gm P H φ x v) (ry:RA X.gm P H φ y w) :
  ∃ a o',w=.ref a/\DGet H a v o'/\o.isSome=o'.isSome/\∀ t,o=some t->∃ u,o'=some u/\RA X.gm P H φ t u:=by
 unfold kG at h;split at h
 ·rename_i GE e
  obtain ⟨k,e1,e2⟩:=zE.mp h;subst e2;cases y <;> simp only [gi] at e <;> first | (cases e;done) | skip
  split at e
  ·rename_i j kvs' e3
   cases e;simp only [RA] at ry;obtain ⟨a,ea,rfl⟩:=ry;obtain ⟨a',ea',c⟩:=sm.at e3;rw [ea] at ea';cases ea';obtain ⟨_,ws,q1,q2⟩:=c
   have:=jo e1 rx
   subst this;exact ⟨a,_,rfl,DGet.k q1,(gq q2 k).1,(gq q2 k).2⟩
  ·cases e
 ·split at h
  ·rename_i GE e
   split at h
   ·rename_i xs
    obtain ⟨k,e1,e2⟩:=zE.mp h;subst e2;cases y <;> simp only [i6] at e <;> first | (cases e;done) | skip
    split at e
    ·rename_i j kvs' e3
     cases e;simp only [RA] at ry;obtain ⟨a,ea,rfl⟩:=ry;obtain ⟨a',ea',c⟩:=sm.at e3;rw [ea] at ea';cases ea';obtain ⟨_,ws,q1,q2⟩:=c;simp only [RA] at rx;obtain ⟨b,vs,rfl,_,hb,rr⟩:=rx;rw [k9 e1 rr] at hb;exact ⟨a,_,rfl,DGet.t q1 hb,(gq q2 k).1,(gq q2 k).2⟩
    ·cases e
   ·cases h
  ·cases h
theorem mI (hu:X.A.units + 64 < cLine) {v:Value}{q:PyData}{as bs:List Addr}{ps:List PyData}{items:Array Value} (ra:Reads s.heap v q as) (rb:ReadsAll s.heap items.toList ps bs) (hk:(ps.all fun r=>pyOk r q)=true) :
  ∃ e:Value->Bool,(∀ z ∈ items,SeqAt.EqAt X.A.in1 s z v (e z))/\items.any e=ps.any fun r=>PyData.eqv r q:=by
 classical
 have uq:∀ z p' az,Reads s.heap z p' az->decide (∃ p as,Reads s.heap z p as/\PyData.eqv p q=true)=PyData.eqv p' q:=by
  intro z p' az rz;rcases he:PyData.eqv p' q with _ | _
  ·refine z5 ?_
   rintro ⟨p2,as',r',e'⟩
   have:=(PySem.Reads.unique rz p2 as' r').1
   rw [<- this,he] at e';cases e'
  ·exact yP ⟨p',az,rz,he⟩
 refine ⟨fun z=>decide (∃ p as,Reads s.heap z p as/\PyData.eqv p q=true),fun z hz=>?_,?_⟩
 ·obtain ⟨pz,az,hpz,rz⟩:=reads_each rb z (by simpa using hz)
  obtain ⟨k1,k2,k3⟩:=nD (yL.mp hk pz hpz);dsimp only;rw [uq z pz az rz];exact PySem.SeqAt.eqAt_reads pz q _ s z v az as rz ra k1 k2 (by simp only [Around.in1_units];omega)
 ·have hc:=any_vals (q:=q) (e:=fun z=>decide (∃ p as,Reads s.heap z p as/\PyData.eqv p q=true)) (h:=s.heap) (fun v p as rv=>uq v p as rv) rb
  rw [<- hc];simp
theorem oh [GG] (hu:X.A.units + 64 < cLine) (I:L2.Inv X GD σ H s) (sm:Sim X.gm P φ st H) {x y:AV}{v w:V}{u r:Value}{b:Bool} (h:oi st x y=some b) (rx:RA X.gm P H φ x v) (ry:RA X.gm P H φ y w) (ru:RelV v u) (rr:RelV w r) {E:Value->Shared->Prop}
  {Q:Value->Shared->Prop}{Q':Value->Shared->Prop} (hQ:∀ s',L2.Inv X GD σ H s'->Q (.bool b) s') (hQ':∀ s',L2.Inv X GD σ H s'->Q' (.bool (!b)) s') :
  wpAny (model X.prog X.w) X.A (compareOp .In u r) Q E s/\wpAny (model X.prog X.w) X.A (compareOp .NotIn u r) Q' E s:=by
 unfold oi at h;split at h
 ·rename_i o e
  cases h;obtain ⟨a,o',rfl,g,eo,_⟩:=mJ sm e rx ry;cases rr;exact ⟨E9 oM I g ru fun s' I'=>by rw [<- eo];exact hQ s' I',xy oM I g ru fun s' I'=>by rw [<- eo];exact hQ' s' I'⟩
 ·split at h
  ·rename_i a c
   cases h;simp only [RA] at rx ry;subst rx;subst ry;obtain ⟨t,rfl⟩:=ru;obtain ⟨t',rfl⟩:=rr;exact ⟨in_str (hQ s I),notIn_str (hQ' s I)⟩
  ·obtain ⟨q,e1,e2⟩:=zA h
   obtain ⟨p,e3,e4⟩:=zA e2;obtain ⟨as,ra⟩:=fZ I sm 9 _ _ _ _ rx e1 ru;obtain ⟨bs,rb⟩:=fZ I sm 9 _ _ _ _ ry e3 rr;split at e4
   ·rename_i ps
    split at e4
    ·rename_i hk
     cases e4;cases rb with
     | @list a o items n xs as' hg hc hdt rall =>
      obtain ⟨e,he,ee⟩:=mI hu ra rall hk;have hl:s.heap.IsList a items:=⟨o,hg,hc,n,hdt⟩;exact ⟨SeqAt.in_listAt e hl he (by rw [ee];exact hQ s I),SeqAt.notIn_listAt e hl he (by rw [ee];exact hQ' s I)⟩
    ·cases e4
   ·rename_i ps
    split at e4
    ·rename_i hk
     cases e4;cases rb with
     | @tuple a o items n xs as' hg hc hdt rall =>
      obtain ⟨e,he,ee⟩:=mI hu ra rall hk;have hl:IsTup s.heap a items:=⟨o,hg,hc,n,hdt⟩;exact ⟨SeqAt.in_tupleAt e hl he (by rw [ee];exact hQ s I),SeqAt.notIn_tupleAt e hl he (by rw [ee];exact hQ' s I)⟩
    ·cases e4
   ·cases e4
end
end R
namespace PySem.W
open PySem.Calls PyProof.Rows PySem.Spec
theorem vM (x y:Addr) (a b c d:Int) (t1 t2 t3 t4:Tok) (hp0:Heap) (h1:IsTup hp0 x #[.int a t1,.int b t2]) (h2:IsTup hp0 y #[.int c t3,.int d t4]) :
  Meets (Builtin.«tuple.__lt__» ⟨[.ref x,.ref y],[]⟩)
   (fun _ R s=>s.heap=hp0/\R (.ok (.ret (.bool (if a=c then decide (b < d) else decide (a < c))))) s):=by
 intro prog w A R s h;obtain ⟨hp,g,dd,tk,os⟩:=s;obtain ⟨rfl,h⟩:=h;have f3:=PySem.AutoSeq1.sub_tuple_tuple;obtain ⟨o2,g2,c2,n2,d2⟩:=id h2;show wpAny _ _ _ _ _ _
 wp_walk using PySem.AutoSeq1.wpAny_loadPart' g2
 rw [c2,f3];refine yD ?_;show wpAny (model prog w) A.in1 (Builtin.Tuple.tupleItemsOf (.ref x) >>= _) _ _ _;refine yC (tupleItemsOf_ h1 ?_);refine yC (tupleItemsOf_ h2 ?_);dsimp only [List.zip_cons_cons,List.zip_nil_right];refine yC ?_;rw [List.forIn_cons];refine yC ?_;show wpAny (model prog w) A.in1 (eqBool (.int a t1) (.int c t3) >>= _) _ _ _;refine yC (wpAny_eqBool_int ?_);by_cases e:a=c
 ·rw [yF e] at h
  rw [show (a == c)=true by simp [e]];refine yD ?_;dsimp only;rw [List.forIn_cons];refine yC ?_;show wpAny (model prog w) A.in1 (eqBool (.int b t2) (.int d t4) >>= _) _ _ _;refine yC (wpAny_eqBool_int ?_);by_cases e2:b=d
  ·rw [show (b == d)=true by simp [e2]]
   refine yD ?_;dsimp only;rw [List.zip_nil_right,List.forIn_nil];refine yD ?_;rw [z5 oM] at h
   wp_walk
   exact h
  ·rw [show (b == d)=false by simpa using e2]
   wp_walk using HT.rcLt_int A.in1 ⟨hp,g,dd,tk,os⟩ b t2 d t4 prog w
   exact h
 ·rw [yE e] at h
  rw [show (a == c)=false by simpa using e]
  wp_walk using HT.rcLt_int A.in1 ⟨hp,g,dd,tk,os⟩ a t1 c t3 prog w
  exact h
end PySem.W
namespace R
open PySem PySem.Spec PyProof.Rows L2 PySem.W
theorem wS {prog:Program}{w:World}{A:Around}{Q:Value->Shared->Prop}{E:Value->Shared->Prop}{s:Shared}{x y:Addr}{a b c d:Int}{t1 t2 t3 t4:Tok} (hu:A.units < cLine) (h1:IsTup s.heap x #[.int a t1,.int b t2]) (h2:IsTup s.heap y #[.int c t3,.int d t4])
  (h:Q (.bool (if a=c then decide (b < d) else decide (a < c))) s):wpAny (model prog w) A (compareOp .Lt (.ref x) (.ref y)) Q E s:=by
 obtain ⟨o1,g1,c1,_⟩:=id h1;obtain ⟨o2,g2,c2,_⟩:=id h2;exact cmp_ofLt (richCompare_meets_room (op:=.Lt) (T:="tuple") ⟨o1,g1,c1⟩ ⟨o2,g2,c2⟩ PySem.F.slot_tuple_lt PySem.F.entry_tuple_lt (PySem.F.args_tuple_lt_2 _ _) (vM x y a b c d t1 t2 t3 t4 s.heap h1 h2) ⟨rfl,(fun e=>nomatch e),h⟩ hu)
end R
namespace R
open PySem PySem.Spec PyProof.Rows L2
open DD (PE_imp PT_imp PA_imp PS_imp PSs_imp OpR_imp PW_imp PG_imp pyOk)
section
variable {X:Cx}
theorem f7 [GG] (hu:X.A.units + 64 < cLine) (o:CmpOp):fr X (compareOp o) (r2 X.gm (eS (fe o))):=by
 rintro GD s σ H v w u r Q I ru rr ⟨P,φ,st,x,y,sm,rx,ry,k⟩;obtain ⟨z,e,k⟩:=k.map;obtain ⟨b,e1,e2⟩:=zE.mp e;subst e2;have aw:∀ s',L2.Inv X GD σ H s'->EP X GD σ Q (.bool b) s':=fun s' I'=>⟨.bl b,H,I',rfl,k.pure sm (by simp only [RA])⟩
 have neg:∀ {o:Option Bool},o.map (!·)=some b->∃ c,o=some c/\b=!c:=fun h=>by
  obtain ⟨c,h1,h2⟩:=zE.mp h;exact ⟨c,h1,h2.symm⟩
 have eq:∀ {c:Bool},jZ st x y=some c->∀ {Q:Value->Shared->Prop}{E:Value->Shared->Prop},(Q (.bool c) s->wpAny (model X.prog X.w) X.A (compareOp .Eq u r) Q E s)/\(Q (.bool (!c)) s->wpAny (model X.prog X.w) X.A (compareOp .NotEq u r) Q E s):=by
  intro c h Q E;unfold jZ at h;obtain ⟨p,h1,h2⟩:=zA h;obtain ⟨q,h3,h4⟩:=zA h2;split at h4
  ·rename_i hk
   cases h4;obtain ⟨c1,c2,hd⟩:=nD hk;obtain ⟨as,ra⟩:=fZ I sm 9 _ _ _ _ rx h1 ru;obtain ⟨bs,rb⟩:=fZ I sm 9 _ _ _ _ ry h3 rr;exact ⟨fun q=>SeqAt.eqOverData _ _ _ _ _ _ _ _ _ _ _ _ ra rb c1 c2 oM q,fun q=>SeqAt.neOverData _ _ _ _ _ _ _ _ _ _ _ _ ra rb c1 c2 oM q⟩
  ·cases h4
 have is:∀ {c:Bool},AN x y=some c->∀ {Q:Value->Shared->Prop}{E:Value->Shared->Prop},(Q (.bool c) s->wpAny (model X.prog X.w) X.A (compareOp .Is u r) Q E s)/\(Q (.bool (!c)) s->wpAny (model X.prog X.w) X.A (compareOp .IsNot u r) Q E s):=by
  intro c h Q E;have nn:y=.non->c=(u == Value.none)->(Q (.bool c) s->wpAny (model X.prog X.w) X.A (compareOp .Is u r) Q E s)/\(Q (.bool (!c)) s->wpAny (model X.prog X.w) X.A (compareOp .IsNot u r) Q E s):=fun hy hc=>by
   subst hy;simp only [RA] at ry;subst ry;cases rr;exact ⟨fun q=>is_none_gen (by rw [<- hc];exact q),fun q=>isnot_none_gen (by rw [<- hc];exact q)⟩
  cases y with
  | non =>
   have h:some (Ak x)=some c:=h;cases h;refine nn rfl ?_;cases x with
   | non=>simp only [RA] at rx;subst rx;cases ru;rfl
   | _=>rw [RelV.none_iff ru];refine (z5 fun hv=>?_).symm;subst hv;simp only [RA] at rx;first | (cases rx;done) | (obtain ⟨_,_,z,_⟩:=rx;cases z;done) | (obtain ⟨_,_,z⟩:=rx;cases z;done)
  | bl d=>cases x with
   | bl a =>
    cases h;simp only [RA] at rx ry;subst rx;subst ry;cases ru;cases rr;cases a <;> cases d <;> exact ⟨fun q=>yD q,fun q=>yD q⟩
   | _=>exact nomatch h
  | _=>exact nomatch h
 have ord:∀ {a c:Int},x=.int a->y=.int c->tP o a c=some b->wpAny (model X.prog X.w) X.A (compareOp o u r) (EP X GD σ Q) X.xe s:=by
  intro a c hx hy ho;subst hx;subst hy;simp only [RA] at rx ry;subst rx;subst ry;obtain ⟨t,rfl⟩:=ru;obtain ⟨t',rfl⟩:=rr;cases o <;> simp only [tP] at ho <;> first | (cases ho;done) | skip
  ·cases ho;exact lt_int (aw s I)
  ·cases ho;exact le_int (aw s I)
  ·cases ho;exact gt_int (aw s I)
  ·cases ho;exact ge_int (aw s I)
 have tl:∀ {as cs:List AV},x=.tup as->y=.tup cs->Ax o as cs=some b->wpAny (model X.prog X.w) X.A (compareOp o u r) (EP X GD σ Q) X.xe s:=by
  intro as cs hx hy ho;unfold Ax at ho;split at ho
  ·cases ho
   subst hx;subst hy;obtain ⟨_,ra⟩:=fZ I sm 9 _ _ _ _ rx rfl ru;obtain ⟨_,rb⟩:=fZ I sm 9 _ _ _ _ ry rfl rr;cases ra with
   | @tuple a1 o1 i1 n1 x1 as1 g1 c1 d1 q1 =>
   cases rb with
   | @tuple a2 o2 i2 n2 x2 as2 g2 c2 d2 q2 =>
   obtain ⟨l1⟩:=i1;obtain ⟨l2⟩:=i2;rcases q1 with _ | ⟨p1,_ | ⟨p2,_ | _⟩⟩;rcases q2 with _ | ⟨p3,_ | ⟨p4,_ | _⟩⟩;cases p1;cases p2;cases p3;cases p4;exact wS oM ⟨o1,g1,c1,n1,d1⟩ ⟨o2,g2,c2,n2,d2⟩ (aw s I)
  ·cases ho
 cases o <;> simp only [bA] at e1
 case Eq=>exact (eq e1).1 (aw s I)
 case NotEq=>obtain ⟨c,h1,rfl⟩:=neg e1;exact (eq h1).2 (aw s I)
 case Is=>exact (is e1).1 (aw s I)
 case IsNot=>obtain ⟨c,h1,rfl⟩:=neg e1;exact (is h1).2 (aw s I)
 case In=>exact (oh hu I sm e1 rx ry ru rr (Q':=fun _ _=>True) aw fun _ _=>trivial).1
 case NotIn=>obtain ⟨c,h1,rfl⟩:=neg e1;exact (oh hu I sm h1 rx ry ru rr (Q:=fun _ _=>True) (fun _ _=>trivial) aw).2
 all_goals
  split at e1
  ·exact ord rfl rfl e1
  ·exact tl rfl rfl e1
  ·cases e1
noncomputable def iz (op:CmpOp) (b:Expr):Bool:=!(behindInMarks op b)
theorem mB (h:iz op b=true):behindInMarks op b=false:=by simpa [iz] using h
theorem yy [GG] (hu:X.A.units + 64 < cLine) (ha:QE X a f) (hb:QE X b g) (hm:iz o b=true):QE X (.Compare a [o] [b] pos) (a2 f g (eS (fe o))) :=
 PE_imp (wy (f7 hu o) ha hb (mB hm)) fun _ _ _ q=>pN q
def xZ (f g:EF) (o:CmpOp):TF:=fun sl st=>(f sl st).bind fun p=>(g sl p.2).bind fun q=>(bA o q.2 p.1 q.1).map fun b=>(b,q.2)
theorem yg [GG] (hu:X.A.units + 64 < cLine) (ha:QE X a f) (hb:QE X b g) (hm:iz o b=true):QT X (.Compare a [o] [b] pos) (xZ f g o) :=
 PT_imp (wb (f7 hu o) ha hb (mB hm)) fun σ H Q hq0=>by
  obtain ⟨P,φ,sl,st,rs,s,k⟩:=hq0;refine pN (k:=eS (fe o)) ⟨P,φ,sl,st,rs,s,?_⟩;obtain ⟨b,st',e,q⟩:=k;unfold xZ at e;obtain ⟨p,e1,e2⟩:=zA e;obtain ⟨r,e3,e4⟩:=zA e2;obtain ⟨c,e5,e6⟩:=zE.mp e4;injection e6 with e7 e8;subst e7;subst e8;refine ⟨.bl c,r.2,by simp only [a2,e1,bind_some,e3,eS,fe,e5,map_some],fun P' φ' H' w f' s' r'=>?_⟩;simp only [RA] at r';exact ⟨c,r',q P' φ' H' c f' s' rfl⟩
def iO (o:UnaryOp) (_:aa):AV->Option AV
 | .int i=>match o with
  | .USub=>some (.int (-i))
  | .Invert=>some (.int (Builtin.bitNot i))
  | _=>none
 | _=>none
theorem B3 [GG] (ha:QE X a f):QE X (.UnaryOp o a pos) (a1 f (x4 (iO o))):=by
 have h:rZ X (unaryOp o) (r1 X.gm (x4 (iO o))):=by
  rintro GD s σ H v u Q I ru ⟨P,φ,st,x,sm,rx,k⟩;obtain ⟨z,e,k⟩:=k.map;cases x <;> simp only [iO] at e <;> first | (cases e;done) | skip
  rename_i i;simp only [RA] at rx;subst rx;cases o <;> first | (cases e;done) | skip
  ·cases e
   exact xR GD s σ H _ u Q I ru ⟨i,rfl,k.pure sm (by simp only [RA])⟩
  ·cases e
   exact xQ GD s σ H _ u Q I ru ⟨i,rfl,k.pure sm (by simp only [RA])⟩
 exact PE_imp (Cf h ha) fun _ _ _ q=>Fe q
def lW (st:aa) (v:AV):Option Bool:=match cS st v with
 | some xs=>some !xs.isEmpty
 | none=>match v with
  | .non=>some false
  | .bl b=>some b
  | .int i=>some (i != 0)
  | .str x=>if Nat.ble x.length 1000000=true then some ((x.length:Int) != 0) else none
  | .tup xs=>some !xs.isEmpty
  | v=>(gi st v).map fun GE=>!GE.isEmpty
theorem lj (r:GI mg P H φ xs vs):vs.isEmpty=xs.isEmpty:=by
 cases xs with
 | nil=>simp only [GI] at r;subst r;rfl
 | cons x xs=>simp only [GI] at r;obtain ⟨v,ws,rfl,_⟩:=r;rfl
theorem sC [GG] {P:Pr}{H:Hp}{φ:List Addr}{st:aa} (sm:Sim X.gm P φ st H) {v:AV}{w:V}{b:Bool} (h:lW st v=some b) (r:RA X.gm P H φ v w):uF X.K w H b:=by
 unfold lW at h;split at h
 ·rename_i xs e
  cases h;obtain ⟨a,vs,rfl,rd,q⟩:=r.ls sm e;exact .inl ⟨vs,rd,by rw [lj q]⟩
 ·cases v <;> simp only at h
  case non=>cases h;simp only [RA] at r;subst r;exact rfl
  case bl=>cases h;simp only [RA] at r;subst r;exact rfl
  case int=>cases h;simp only [RA] at r;subst r;exact rfl
  case str x =>
   simp only [RA] at r;subst r;split at h
   ·rename_i hl;cases h;exact ⟨z0 (zS hl) dC,rfl⟩
   ·cases h
  case tup xs =>
   cases h;simp only [RA] at r;obtain ⟨a,vs,rfl,_,e,q⟩:=r;exact .inr (.inl ⟨vs,.inl (.inl e),by rw [lj q]⟩)
  case fz=>obtain ⟨_,z,_⟩:=zE.mp h;simp [gi] at z
  case ref k =>
   obtain ⟨GE,e1,e2⟩:=zE.mp h;subst e2;simp only [gi] at e1;split at e1
   ·rename_i kvs' hk
    cases e1;simp only [RA] at r;obtain ⟨a,ea,rfl⟩:=r;obtain ⟨a',ea',c⟩:=sm.at hk;rw [ea] at ea';cases ea';obtain ⟨_,ws,q1,q2,q3⟩:=c;refine .inr (.inr ⟨ws,q1,?_⟩)
    have:=congrArg List.isEmpty q2
    simpa using this
   ·cases e1
def tV (f:EF):TF:=fun sl st=>(f sl st).bind fun p=>(lW p.2 p.1).map fun b=>(b,p.2)
theorem ye [GG] (ha:QE X a f) (he:∀ whole,isTrue a X.env whole=(do let v <- whole;standAt a.pos;holding [v] (truthy v))):QT X a (tV f) :=
 PT_imp (tx ha he) fun σ H Q ⟨P,φ,sl,st,rs,s,k⟩=>⟨P,φ,sl,st,rs,s,by
  obtain ⟨a,st',e1,q⟩:=k.bind (Ra:=RA);refine ⟨a,st',e1,fun P1 φ1 H1 b f1 s1 r1=>?_⟩;obtain ⟨P2,φ2,st2,x,f2,s2,r2,k2⟩:=q P1 φ1 H1 b f1 s1 r1;obtain ⟨c,e2,k2⟩:=k2.map;exact ⟨c,sC s2 e2 r2,k2.pure s2 rfl⟩⟩
def Dr (f g:TF):TF:=fun sl st=>(f sl st).bind fun p=>if p.1=true then g sl p.2 else some (false,p.2)
def xW (f g:TF):TF:=fun sl st=>(f sl st).bind fun p=>if p.1=true then some (true,p.2) else g sl p.2
def Dp (f:TF):TF:=fun sl st=>(f sl st).bind fun p=>some (!p.1,p.2)
section
variable {a b:Expr}{rest:List Expr}{pos:Pos}{f g:TF}
theorem jD [GG] (op:BoolOp) (ha:QT X a f):QW X (.BoolOp op [a] pos) f:=by
 cases op
 ·exact wa ha
 ·exact yT ha
theorem jE [GG] (ha:QT X a f) (hb:QW X (.BoolOp .And (b::rest) pos) g):QW X (.BoolOp .And (a::b::rest) pos) (Dr f g) :=
 PW_imp (yU ha hb) fun σ H Q ⟨P,φ,sl,st,rs,s,k⟩=>⟨P,φ,sl,st,rs,s,by
  obtain ⟨a,st',e1,q⟩:=k.bind (Ra:=RB);refine ⟨a,st',e1,fun P1 φ1 H1 c f1 s1 r1=>?_⟩;obtain ⟨P2,φ2,st2,x,f2,s2,r2,k2⟩:=q P1 φ1 H1 c f1 s1 r1;cases r2;cases c with
  | true=>exact ⟨P2,φ2,sl,st2,rs.frm f2,s2,k2⟩
  | false=>exact k2.pure s2 rfl⟩
theorem lI [GG] (ha:QT X a f) (hb:QW X (.BoolOp .Or (b::rest) pos) g):QW X (.BoolOp .Or (a::b::rest) pos) (xW f g) :=
 PW_imp (Cb ha hb) fun σ H Q ⟨P,φ,sl,st,rs,s,k⟩=>⟨P,φ,sl,st,rs,s,by
  obtain ⟨a,st',e1,q⟩:=k.bind (Ra:=RB);refine ⟨a,st',e1,fun P1 φ1 H1 c f1 s1 r1=>?_⟩;obtain ⟨P2,φ2,st2,x,f2,s2,r2,k2⟩:=q P1 φ1 H1 c f1 s1 r1;cases r2;cases c with
  | false=>exact ⟨P2,φ2,sl,st2,rs.frm f2,s2,k2⟩
  | true=>exact k2.pure s2 rfl⟩
theorem yf [GG] (ha:QT X a f):QT X (.UnaryOp .Not a pos) (Dp f) :=
 PT_imp (yW ha) fun σ H Q ⟨P,φ,sl,st,rs,s,k⟩=>⟨P,φ,sl,st,rs,s,by
  obtain ⟨a,st',e1,q⟩:=k.bind (Ra:=RB);refine ⟨a,st',e1,fun P1 φ1 H1 c f1 s1 r1=>?_⟩;obtain ⟨P2,φ2,st2,x,f2,s2,r2,k2⟩:=q P1 φ1 H1 c f1 s1 r1;cases r2;exact k2.pure s2 rfl⟩
end
def vy (f g:EF):EF:=fun sl st=>(f sl st).bind fun p=>match p.1 with
 | .bl true=>g sl p.2
 | .bl false=>some (.bl false,p.2)
 | _=>none
def D0 (f g:EF):EF:=fun sl st=>(f sl st).bind fun p=>match p.1 with
 | .bl false=>g sl p.2
 | .bl true=>some (.bl true,p.2)
 | _=>none
def vv (f:EF):EF:=fun sl st=>(f sl st).bind fun p=>match p.1 with
 | .bl b=>some (.bl !b,p.2)
 | _=>none
def Eb (t:TF) (f g:EF):EF:=fun sl st=>(t sl st).bind fun p=>if p.1=true then f sl p.2 else g sl p.2
section
variable {a b c:Expr}{rest:List Expr}{pos:Pos}{f g:EF}{t:TF}
theorem KG.no [GG] {α β:Type}{Ra:Gm->Pr->Hp->List Addr->α->β->Prop}{Q:β->Hp->Prop} (h:KG mg Ra P φ H none Q):False:=by obtain ⟨_,_,e,_⟩:=h;cases e
theorem ql [GG] (ha:QE X a f) (hb:QE X (.BoolOp .And (b::rest) pos) g):QE X (.BoolOp .And (a::b::rest) pos) (vy f g) :=
 PE_imp (zq ha hb) fun σ H Q ⟨P,φ,sl,st,rs,s,k⟩=>⟨P,φ,sl,st,rs,s,by
  obtain ⟨a,st',e1,q⟩:=k.bind (Ra:=RA);refine ⟨a,st',e1,fun P1 φ1 H1 c f1 s1 r1=>?_⟩;obtain ⟨P2,φ2,st2,x,f2,s2,r2,k2⟩:=q P1 φ1 H1 c f1 s1 r1;cases x <;> first | exact k2.no.elim | skip
  rename_i d;simp only [RA] at r2;refine ⟨d,r2,?_⟩;cases d with
  | true=>exact ⟨P2,φ2,sl,st2,rs.frm f2,s2,k2⟩
  | false=>exact k2.pure s2 (by simp only [RA])⟩
theorem uP [GG] (ha:QE X a f) (hb:QE X (.BoolOp .Or (b::rest) pos) g):QE X (.BoolOp .Or (a::b::rest) pos) (D0 f g) :=
 PE_imp (Cg ha hb) fun σ H Q ⟨P,φ,sl,st,rs,s,k⟩=>⟨P,φ,sl,st,rs,s,by
  obtain ⟨a,st',e1,q⟩:=k.bind (Ra:=RA);refine ⟨a,st',e1,fun P1 φ1 H1 c f1 s1 r1=>?_⟩;obtain ⟨P2,φ2,st2,x,f2,s2,r2,k2⟩:=q P1 φ1 H1 c f1 s1 r1;cases x <;> first | exact k2.no.elim | skip
  rename_i d;simp only [RA] at r2;refine ⟨d,r2,?_⟩;cases d with
  | false=>exact ⟨P2,φ2,sl,st2,rs.frm f2,s2,k2⟩
  | true=>exact k2.pure s2 (by simp only [RA])⟩
theorem yu [GG] (ha:QE X a f):QE X (.UnaryOp .Not a pos) (vv f) :=
 PE_imp (zl ha) fun σ H Q ⟨P,φ,sl,st,rs,s,k⟩=>⟨P,φ,sl,st,rs,s,by
  obtain ⟨a,st',e1,q⟩:=k.bind (Ra:=RA);refine ⟨a,st',e1,fun P1 φ1 H1 c f1 s1 r1=>?_⟩;obtain ⟨P2,φ2,st2,x,f2,s2,r2,k2⟩:=q P1 φ1 H1 c f1 s1 r1;cases x <;> first | exact k2.no.elim | skip
  rename_i d;simp only [RA] at r2;exact ⟨d,r2,k2.pure s2 (by simp only [RA])⟩⟩
theorem B7 [GG] (hc:QT X c t) (ha:QE X a f) (hb:QE X b g):QE X (.IfExp c a b pos) (Eb t f g) :=
 PE_imp (tK hc ha hb) fun σ H Q ⟨P,φ,sl,st,rs,s,k⟩=>⟨P,φ,sl,st,rs,s,by
  obtain ⟨a,st',e1,q⟩:=k.bind (Ra:=RB);refine ⟨a,st',e1,fun P1 φ1 H1 c f1 s1 r1=>?_⟩;obtain ⟨P2,φ2,st2,x,f2,s2,r2,k2⟩:=q P1 φ1 H1 c f1 s1 r1;cases r2;cases c with
  | true=>exact ⟨P2,φ2,sl,st2,rs.frm f2,s2,k2⟩
  | false=>exact ⟨P2,φ2,sl,st2,rs.frm f2,s2,k2⟩⟩
end
def cB (st:aa) (x y:AV):Option AV:=match kG st x y with
 | some o=>o
 | none=>match y with
  | .int i=>match cS st x with
   | some xs=>fG xs i
   | none=>match gS st x with
    | some xs=>fG xs i
    | none=>match x with
     | .str z=>if Nat.ble z.length 1000000=true then (fG z.cps.toList i).map fun c=>.str ⟨#[c]⟩ else none
     | _=>none
  | _=>none
theorem oC {i:Int} (r:GI mg P H φ xs vs) (h:fG xs i=some x):∃ v,fG vs i=some v/\RA mg P H φ x v:=by
 unfold fG at h ⊢;rw [<- r.length];obtain ⟨j,e1,e2⟩:=zA h;rw [e1,bind_some];exact r.get e2
theorem xb (hu:X.A.units + 64 < cLine):IxR X (fun x y H Q=>∃ a v,x=.ref a/\DGet H a y (some v)/\Q v H):=by
 rintro value slice GD s σ H x y v u Q I rx ry ⟨a,t,ex,g,q⟩ hs;subst ex;cases rx;have hT:=nj I g;unfold subscriptTail;refine yC ?_;rw [getitemInPython_of_ne hT.not_modules];refine yC (wpAny_specialOf hT PySem.F.slot_dict_getitem.lookup ?_);have aw:wpAny (model X.prog X.w) X.A (subscripted slice false (.ref a) u) (fun r s₃=>wpAny (model X.prog X.w) X.A (letTemporaryGo value (.ref a) r >>= fun _=>pure r) (EP X GD σ Q) X.xe s₃) X.xe s:=by
  rw [hs];exact wpAny_operating (rn oM I g ry fun w' s3 I3 rw'=>yC (wpAny_letTemporaryGo (yD ⟨t,H,I3,rw',q⟩)))
 first
  | exact yD (yC aw)
  | exact yC (yD (yC aw))
  | exact yC aw
theorem EY [GG] (hu:X.A.units + 64 < cLine):IxR X (r2 X.gm (eS cB)):=by
 rintro value slice GD s σ H v w u r Q I ru rr ⟨P,φ,st,x,y,sm,rx,ry,k0⟩ hs;obtain ⟨z,e,k⟩:=k0.map;clear k0;unfold cB at e;split at e
 ·rename_i o eo
  subst e;obtain ⟨a,o',rfl,g,_,g2⟩:=mJ sm eo ry rx;obtain ⟨t,rfl,rt⟩:=g2 z rfl;exact xb hu value slice GD s σ H _ _ u r Q I ru rr ⟨a,t,rfl,g,k.pure sm rt⟩ hs
 ·cases y with
  | int i =>
   simp only [RA] at ry;subst ry;dsimp only at e;split at e
   ·rename_i xs el
    obtain ⟨a,vs,rfl,rd,q⟩:=rx.ls sm el;obtain ⟨t,e2,rt⟩:=oC q e;exact mH value slice GD s σ H _ _ u r Q I ru rr (.inl ⟨a,vs,i,t,rfl,rfl,rd,e2,k.pure sm rt⟩) hs
   ·split at e
    ·rename_i xs el
     obtain ⟨a,vs,rfl,rd,q⟩:=rx.tp sm el;obtain ⟨t,e2,rt⟩:=oC q e;exact mH value slice GD s σ H _ _ u r Q I ru rr (.inr (.inl ⟨a,vs,i,t,rfl,rfl,.inl (.inl rd),e2,k.pure sm rt⟩)) hs
    ·cases x with
     | str x =>
      dsimp only at e;split at e
      ·rename_i hl
       obtain ⟨c,e1,e2⟩:=zE.mp e;subst e2;simp only [RA] at rx;subst rx;exact mH value slice GD s σ H _ _ u r Q I ru rr (.inr (.inr ⟨x,i,c,rfl,rfl,z0 (zS hl) dC,e1,k.pure sm (by simp only [RA])⟩)) hs
      ·cases e
     | _=>cases e
  | _=>cases e
theorem B6 [GG] (hu:X.A.units + 64 < cLine) (ha:QE X a f) (hb:QE X b g) (hs:kW b):QE X (.Subscript a b pos) (a2 f g (eS cB)) :=
 PE_imp (Ci (EY hu) ha hb hs) fun _ _ _ q=>pN q
def DZ (g:AF):EF:=fun sl st=>(g sl st).bind fun p=>if Nat.ble p.1.length 1000=true then some (.tup p.1,p.2) else none
theorem yt [GG] {x1:Nat} (h:QA X es g):QE X (.Tuple es x1 pos) (DZ g) :=
 PE_imp (zj h) fun σ H Q ⟨P,φ,sl,st,rs,s,k⟩=>⟨P,φ,sl,st,rs,s,by
  obtain ⟨a,st',e1,q⟩:=k.bind (Ra:=GI);refine ⟨a,st',e1,fun P1 φ1 H1 vs f1 s1 r1=>?_⟩;obtain ⟨P2,φ2,st2,xs,f2,s2,r2,k2⟩:=q P1 φ1 H1 vs f1 s1 r1;dsimp only at k2;split at k2
  ·rename_i hl
   refine ⟨by rw [<- r2.length];exact z0 (zS hl) dC,fun p hp=>?_⟩;obtain ⟨f3,s3⟩:=jK (o:=.tup vs) s2 hp;obtain ⟨_,_,e5,q5⟩:=k2;cases e5;refine q5 _ _ _ _ f3 s3 ?_;simp only [RA];exact ⟨p,vs,rfl,.inr rfl,aE,r2.frm f3⟩
  ·exact k2.no.elim⟩
end
mutual
noncomputable def cn:AV->AV->Bool
 | .non,.non=>true
 | .bl a,.bl b=>a == b
 | .int a,.int b=>a == b
 | .str a,.str b=>a == b
 | .ref a,.ref b=>a == b
 | .tup a,.tup b=>dH a b
 | .fz a,.fz b=>dH a b
 | _,_=>false
noncomputable def dH:List AV->List AV->Bool
 | [],[]=>true
 | x::xs,y::ys=>cn x y && dH xs ys
 | _,_=>false
end
mutual
theorem oB:∀ {x y:AV},cn x y=true->x=y
 | .non,y,h=>by cases y <;> simp only [cn] at h <;> first | rfl | cases h
 | .bl a,y,h=>by cases y <;> simp only [cn] at h <;> first | (rw [yH h]) | cases h
 | .int a,y,h=>by cases y <;> simp only [cn] at h <;> first | (rw [yH h]) | cases h
 | .str a,y,h=>by cases y <;> simp only [cn] at h <;> first | (rw [yH h]) | cases h
 | .ref a,y,h=>by cases y <;> simp only [cn] at h <;> first | (rw [yH h]) | cases h
 | .tup a,y,h=>by cases y <;> simp only [cn] at h <;> first | (rw [iK h]) | cases h
 | .fz a,y,h=>by cases y <;> simp only [cn] at h <;> first | (rw [iK h]) | cases h
theorem iK:∀ {xs ys:List AV},dH xs ys=true->xs=ys
 | [],ys,h=>by cases ys <;> simp only [dH] at h <;> first | rfl | cases h
 | x::xs,ys,h=>by
  cases ys with
  | nil=>simp only [dH] at h;cases h
  | cons y ys =>
   simp only [dH,zC] at h;rw [oB h.1,iK h.2]
end
mutual
theorem rP:∀ x:AV,cn x x=true
 | .non=>by simp only [cn]
 | .bl a=>by simp [cn]
 | .int a=>by simp [cn]
 | .str a=>by simp [cn]
 | .ref a=>by simp [cn]
 | .tup a=>by simp only [cn];exact fC a
 | .fz a=>by simp only [cn];exact fC a
theorem fC:∀ xs:List AV,dH xs xs=true
 | []=>by simp only [dH]
 | x::xs=>by simp only [dH,rP x,fC xs,Bool.and_self]
end
abbrev Gd:=List (Nat × GS)
def pK:GS->GS->Bool
 | .lst a,.lst b=>dH a b
 | .dK a,.dK b=>decide (a.map (·.1)=b.map (·.1)) && dH (a.map (·.2)) (b.map (·.2))
 | _,_=>false
def bW:Gd->aa->Bool
 | [],_=>true
 | g::gs,st=>(match st[g.1]? with | some c=>pK c g.2 | none=>false) && bW gs st
theorem uo {k:Nat}{xs:List AV}{gs:Gd}{st:aa} (h:bW ((k,.lst xs)::gs) st=true):st[k]?=some (.lst xs)/\bW gs st=true:=by
 simp only [bW,zC] at h;refine ⟨?_,h.2⟩;have h:=h.1;split at h
 ·rename_i c e
  cases c <;> simp only [pK] at h <;> first | (cases h;done) | skip
  rw [e,iK h]
 ·cases h
theorem om {a b:Gd}{st:aa} (h:bW (a++b) st=true):bW a st=true/\bW b st=true:=by
 induction a with
 | nil=>exact ⟨rfl,h⟩
 | cons g a ih =>
  simp only [List.cons_append,bW,zC] at h ⊢;exact ⟨⟨h.1,(ih h.2).1⟩,(ih h.2).2⟩
structure Iv where
 GH:List AV
 gd:Gd
abbrev IF:=Sl->aa->Option (Iv × aa)
structure m7 [GG] (mg:Gm) (J:It) (iv:Iv) (P:Pr) (φ:List Addr) (H:Hp):Prop where
 go:∀ P2 φ2 H2 st2 (i:Nat) x,Frm P φ H P2 φ2 H2->Sim mg P2 φ2 st2 H2->bW iv.gd st2=true->iv.GH[i]?=some x->J.go i H2/\∀ v H3,J.yld i H2 v H3->∃ P3,Frm P2 φ2 H2 P3 φ2 H3/\Sim mg P3 φ2 st2 H3/\RA mg P3 H3 φ2 x v
 stop:∀ P2 φ2 H2 st2,Frm P φ H P2 φ2 H2->Sim mg P2 φ2 st2 H2->bW iv.gd st2=true->J.stop iv.GH.length H2
def rI [GG] (mg:Gm) (f:IF):TI:=fun σ H R=>∃ P φ sl st,GL mg P H φ sl σ/\Sim mg P φ st H/\∃ iv st',f sl st=some (iv,st')/\∀ P' φ' H' J,Frm P φ H P' φ' H'->Sim mg P' φ' st' H'->m7 mg J iv P' φ' H'->R J H'
def QI [GG] (X:Cx) (tg iter:Expr) (f:IF):Prop:=PI X tg iter (rI X.gm f)
theorem eQ (h:PI X tg iter t) (i:∀ σ H R,t' σ H R->t σ H R):PI X tg iter t':=fun GD s σ H R I h'=>h GD s σ H R I (i σ H R h')
def fv (st:aa) (v:AV):Option Iv:=match dr st v with
 | .fz xs=>some ⟨xs,[]⟩
 | .ref k=>match st[k]? with
  | some (.lst xs)=>some ⟨xs,[(k,.lst xs)]⟩
  | _=>none
 | _=>none
section
variable {mg:Gm}{P:Pr}{φ:List Addr}{st:aa}{H:Hp}{v:AV}{w:V}{iv:Iv}
theorem jS [GG] (s:Sim mg P φ st H) (r:RA mg P H φ v w) (h:fv st v=some iv):∃ a,w=.ref a/\∀ P2 φ2 H2 st2,Frm P φ H P2 φ2 H2->Sim mg P2 φ2 st2 H2->bW iv.gd st2=true->∃ vs,bC mg.K H2 a vs/\GI mg P2 H2 φ2 iv.GH vs:=by
 have r:=r.dr s;unfold fv at h;split at h
 ·rename_i ys e
  cases h;rw [e] at r;simp only [RA] at r;obtain ⟨a,vs,e1,e2,q⟩:=r;refine ⟨a,e1,fun P2 φ2 H2 st2 f _ _=>⟨vs,(e2.mono f.ext).sq,?_⟩⟩;exact GI.lift (q.mono f.ext fun k a e=>by simp at e)
 ·rename_i k e
  rw [e] at r;simp only [RA] at r;obtain ⟨a,e1,e2⟩:=r;split at h
  ·rename_i ys e3
   cases h;refine ⟨a,e2,fun P2 φ2 H2 st2 f s2 g=>?_⟩;obtain ⟨g1,_⟩:=uo g;obtain ⟨a',e4,c⟩:=s2.at g1;rw [f.ix k a e1] at e4;cases e4;obtain ⟨_,vs,q1,q2⟩:=c;exact ⟨vs,.inl (.inl q1),q2⟩
  ·cases h
 ·cases h
end
section
variable {X:Cx}{tg e a b:Expr}{es:List Expr}{pos p:Pos}
def og (st:aa) (v:AV):Option Iv:=match v with
 | .str x=>if x.cps.all (· < 128)=true then some ⟨x.cps.toList.map fun c=>.str ⟨#[c]⟩,[]⟩ else none
 | v=>match gS st v with
  | some xs=>some ⟨xs,[]⟩
  | none=>fv st v
def iE (f:EF):IF:=fun sl st=>(f sl st).bind fun p=>(og p.2 p.1).map fun iv=>(iv,p.2)
theorem ze [GG] (hl:PE X e tl):PI X tg e (fun σ H R=>tl σ H fun x H1=>(∃ a,x=.ref a/\(∃ xs,bC X.K H1 a xs)/\R (vC X.K a) H1)\/(∃ a,x=.ref a/\(∃ xs,dP X.K H1 a xs)/\R (vA X.K a) H1)\/∃ x':Str,x=.str x'/\x'.cps.all (· < 128)=true/\R (vB x') H1):=by
 intro GD s σ H R I h;refine aB (hl GD s σ H _ I h) fun v s1 hq0=>?_
 obtain ⟨x,H1,I1,r1,q1⟩:=hq0;have fp:∀ b ∈ [s1.heap.objs.size],c5 X GD H1 b:=fun b hb=>by
  have e:b=s1.heap.objs.size:=by simpa using hb
  subst e;exact I1.fpOk (zP _) (I1.GJ.fresh (zP _))
 rcases q1 with ⟨a,e,⟨xs,hq⟩,q⟩ | ⟨a,e,⟨xs,hq⟩,q⟩ | ⟨y,e,hy,q⟩
 ·subst e
  cases r1;obtain ⟨GH,rv,p,hz⟩:=I1.list hq;refine wpAny_pyIter_list p.isList ?_;exact ⟨s1.heap.objs.size,[s1.heap.objs.size],_,_,H1,rfl,I1.kept (t':=s1.toks) fun b o e=>zG _ e,pW a _,⟨_,zY _ rfl,rfl,rfl⟩,fp,q⟩
 ·subst e
  cases r1;obtain ⟨GH,rv,p,hz⟩:=I1.tuple hq;refine wpAny_pyIter_tuple (show s1.heap.IsTuple a GH.toArray from p) ?_;exact ⟨s1.heap.objs.size,[s1.heap.objs.size],_,_,H1,rfl,I1.kept (t':=s1.toks) fun b o e=>zG _ e,oP a _,⟨_,zY _ rfl,rfl,rfl⟩,fp,q⟩
 ·subst e
  obtain ⟨t,rfl⟩:=r1;refine wpAny_pyIter_ascii hy ?_;exact ⟨s1.heap.objs.size,[s1.heap.objs.size],_,_,H1,rfl,I1.kept (t':=s1.toks) fun b o e=>zG _ e,sB y t _,⟨_,zY _ rfl,rfl,rfl⟩,fp,q⟩
theorem ug [GG] {mg:Gm}{P:Pr}{φ:List Addr}{H:Hp}{K:Frag}{a:Addr}{iv:Iv} (h:∀ P2 φ2 H2 st2,Frm P φ H P2 φ2 H2->Sim mg P2 φ2 st2 H2->bW iv.gd st2=true->∃ vs,bC K H2 a vs/\GI mg P2 H2 φ2 iv.GH vs):m7 mg (vC K a) iv P φ H where
 go:=fun P2 φ2 H2 st2 i x f s g e=>by
  obtain ⟨vs,rd,ra⟩:=h P2 φ2 H2 st2 f s g;obtain ⟨v,e1,r1⟩:=ra.get e;refine ⟨⟨vs,v,rd,e1⟩,fun w H3 hq0=>?_⟩;obtain ⟨hH,hx⟩:=hq0;subst hH
  have:=hx vs rd
  rw [e1] at this;cases this;exact ⟨P2,Frm.refl,s,r1⟩
 stop:=fun P2 φ2 H2 st2 f s g=>by
  obtain ⟨vs,rd,ra⟩:=h P2 φ2 H2 st2 f s g;exact ⟨vs,rd,by rw [<- ra.length];exact zP _⟩
theorem xc [GG] {mg:Gm}{P:Pr}{φ:List Addr}{H:Hp}{K:Frag}{a:Addr}{xs:List AV}{vs:List V} (pa:P a) (ea:H a=some (.tup vs)) (ra:GI mg P H φ xs vs):m7 mg (vA K a) ⟨xs,[]⟩ P φ H where
 go:=fun P2 φ2 H2 st2 i x f s g e=>by
  obtain ⟨v,e1,r1⟩:=(ra.frm f).get e;have e2:dP K H2 a vs:=.inl (.inl ((f.ext a pa).2.trans ea));refine ⟨⟨vs,v,e2,e1⟩,fun w H3 hq0=>?_⟩;obtain ⟨hH,hx⟩:=hq0;subst hH
  have:=hx vs e2
  rw [e1] at this;cases this;exact ⟨P2,Frm.refl,s,r1⟩
 stop:=fun P2 φ2 H2 st2 f s g=>⟨vs,.inl (.inl ((f.ext a pa).2.trans ea)),by rw [<- ra.length];exact zP _⟩
theorem xf [GG]:m7 mg (vB x) ⟨x.cps.toList.map fun c=>.str ⟨#[c]⟩,[]⟩ P φ H where
 go:=fun P2 φ2 H2 st2 i y f s g e=>by
  rw [zR] at e;obtain ⟨c,e1,e2⟩:=zE.mp e;rw [Array.getElem?_toList] at e1;subst e2;refine ⟨⟨c,e1⟩,fun w H3 hq0=>?_⟩;obtain ⟨hH,c',e3,hw⟩:=hq0;subst hH;rw [e1] at e3;cases e3;exact ⟨P2,Frm.refl,s,by simp only [RA];exact hw⟩
 stop:=fun P2 φ2 H2 st2 f s g=>by
  show x.cps[_]?=none;simp
theorem jR {st:aa}{v:AV}{iv:Iv} (h:fv st v=some iv):bW iv.gd st=true:=by
 unfold fv at h;split at h
 ·cases h;rfl
 ·split at h
  ·rename_i k _ xs hk
   cases h;simp only [bW];rw [hk];simp only [pK,fC,Bool.and_self]
  ·cases h
 ·cases h
theorem EG [GG] (ha:QE X e f):QI X tg e (iE f):=eQ (ze ha) fun σ H R ⟨P,φ,sl,st,rs,s,iv,st',ef,k⟩=>⟨P,φ,sl,st,rs,s,by
 unfold iE at ef;obtain ⟨p,e1,e2⟩:=zA ef;obtain ⟨iv',e3,e4⟩:=zE.mp e2;cases e4;refine ⟨p.1,p.2,e1,fun P1 φ1 H1 w f1 s1 r1=>?_⟩;unfold og at e3;have gen:∀ v:AV,p.1=v->(match gS p.2 v with | some xs=>some ⟨xs,[]⟩ | none=>fv p.2 v)=some iv->((∃ a,w=.ref a/\(∃ xs,bC X.K H1 a xs)/\R (vC X.K a) H1)\/(∃ a,w=.ref a/\(∃ xs,dP X.K H1 a xs)/\R (vA X.K a) H1)\/∃ x':Str,w=.str x'/\x'.cps.all (· < 128)=true/\R (vB x') H1):=by
  intro v ev e3;rw [ev] at r1;split at e3
  ·rename_i xs et
   cases e3;have r2:=r1.dr s1;unfold gS at et;split at et
   ·rename_i ys ed
    cases et;rw [ed] at r2;simp only [RA] at r2;obtain ⟨a,vs,rfl,pa,ea,ra⟩:=r2;exact .inr (.inl ⟨a,rfl,⟨vs,.inl (.inl ea)⟩,k P1 φ1 H1 _ f1 s1 (xc pa ea ra)⟩)
   ·cases et
  ·obtain ⟨a,rfl,h⟩:=jS s1 r1 e3
   obtain ⟨vs,rd,_⟩:=h P1 φ1 H1 p.2 Frm.refl s1 (jR e3);exact .inl ⟨a,rfl,⟨vs,rd⟩,k P1 φ1 H1 _ f1 s1 (ug h)⟩
 cases hv:p.1 with
 | str x =>
  rw [hv] at e3 r1;simp only at e3;split at e3
  ·rename_i hx
   cases e3;simp only [RA] at r1;exact .inr (.inr ⟨x,r1,hx,k P1 φ1 H1 _ f1 s1 xf⟩)
  ·cases e3
 | _=>rw [hv] at e3;exact gen _ hv e3⟩
noncomputable def eu (i:Int):Bool:=Nat.ble i.natAbs.log2 60
noncomputable def gw (i:Int) (n:Nat):List AV:=(List.range n).map fun k=>.int (i + (k:Nat))
def AR (f:EF):IF:=fun sl st=>(f sl st).bind fun p=>match p.1 with
 | .int j=>if eu j=true then some (⟨gw 0 j.toNat,[]⟩,p.2) else none
 | _=>none
def AQ (f g:EF):IF:=fun sl st=>(f sl st).bind fun p=>(g sl p.2).bind fun q=>match p.1,q.1 with
 | .int i,.int j=>if (eu i && eu j)=true then some (⟨gw i (j - i).toNat,[]⟩,q.2) else none
 | _,_=>none
theorem dR {i:Int} (h:eu i=true):-(2 ^ 62) <= i/\i < 2 ^ 62:=by
 have:=log2_lt h
 have e:(2:Nat) ^ (60 + 1)=2305843009213693952:=by decide
 rw [e] at this;omega
theorem oe [GG] {i:Int}{n:Nat}:m7 mg (sg i n) ⟨gw i n,[]⟩ P φ H where
 go:=fun P2 φ2 H2 st2 k y f s g e=>by
  unfold gw at e;rw [zR] at e;obtain ⟨c,e1,e2⟩:=zE.mp e;obtain ⟨h1,h2⟩:=zB.mp e1;rw [List.getElem_range] at h2;subst h2 e2;rw [List.length_range] at h1;refine ⟨h1,fun w H3 hq0=>?_⟩;obtain ⟨hH,hw⟩:=hq0;subst hH;exact ⟨P2,Frm.refl,s,by simp only [RA];exact hw⟩
 stop:=fun P2 φ2 H2 st2 f s g=>by
  show n <= (gw i n).length;simp [gw]
theorem yd [GG] {mg:Gm}{f:EF}{σ:St}{H:Hp}{Q:List V->Hp->Prop}{P:Pr}{φ:List Addr}{sl:Sl}{st:aa} (rs:GL mg P H φ sl σ) (s:Sim mg P φ st H)
  (h:∃ v st1,f sl st=some (v,st1)/\∀ P1 φ1 H1 w,Frm P φ H P1 φ1 H1->Sim mg P1 φ1 st1 H1->RA mg P1 H1 φ1 v w->Q [w] H1):rA mg (dM f dL) σ H Q:=by
 obtain ⟨v,st1,e,k⟩:=h;refine ⟨P,φ,sl,st,rs,s,[v],st1,by simp only [dM,dL,e,bind_some],fun P1 φ1 H1 ws f1 s1 r1=>?_⟩;simp only [GI] at r1;obtain ⟨w,us,rfl,r,rfl⟩:=r1;exact k P1 φ1 H1 w f1 s1 r
theorem Dz [GG] {mg:Gm}{f g:EF}{σ:St}{H:Hp}{Q:List V->Hp->Prop}{P:Pr}{φ:List Addr}{sl:Sl}{st:aa} (rs:GL mg P H φ sl σ) (s:Sim mg P φ st H)
  (h:∃ v st1 u st2,f sl st=some (v,st1)/\g sl st1=some (u,st2)/\∀ P1 φ1 H1 w w',Frm P φ H P1 φ1 H1->Sim mg P1 φ1 st2 H1->RA mg P1 H1 φ1 v w->RA mg P1 H1 φ1 u w'->Q [w,w'] H1):rA mg (dM f (dM g dL)) σ H Q:=by
 obtain ⟨v,st1,u,st2,e,e',k⟩:=h;refine ⟨P,φ,sl,st,rs,s,[v,u],st2,by simp only [dM,dL,e,e',bind_some],fun P1 φ1 H1 ws f1 s1 r1=>?_⟩;simp only [GI] at r1;obtain ⟨w,us,rfl,r,w',us',rfl,r',rfl⟩:=r1;exact k P1 φ1 H1 w w' f1 s1 r r'
theorem B1 [GG] (hg:Gl X "range") (hm:X.mg "range"=none) (ha:QE X a f) (hs:starEach [a] X.env=[(false,eval a X.env)]):QI X tg (.Call (.Name "range" p) [a] [] pos) (AR f) :=
 eQ (qw hg hm (cQ ha eT (by rw [hs];rfl)) hs) fun σ H R hq0=>by
  obtain ⟨P,φ,sl,st,rs,s,iv,st',ef,k⟩:=hq0;obtain ⟨q,e1,e2⟩:=zA ef;refine yd rs s ⟨q.1,q.2,e1,fun P1 φ1 H1 w f1 s1 r1=>?_⟩;split at e2
  ·rename_i j ej
   rw [ej] at r1;split at e2
   ·rename_i hb
    cases e2;simp only [RA] at r1;subst r1;exact ⟨j,rfl,(dR hb).1,(dR hb).2,k P1 φ1 H1 _ f1 s1 oe⟩
   ·cases e2
  ·cases e2
theorem B0 [GG] (hg:Gl X "range") (hm:X.mg "range"=none) (ha:QE X a f) (hb:QE X b g) (hs:starEach [a,b] X.env=[(false,eval a X.env),(false,eval b X.env)]) (hs2:starEach [b] X.env=[(false,eval b X.env)]) :
  QI X tg (.Call (.Name "range" p) [a,b] [] pos) (AQ f g) :=
 eQ (qv hg hm (cQ ha (cQ hb eT (by rw [hs2];rfl)) (by rw [hs,hs2])) hs hs2) fun σ H R hq0=>by
  obtain ⟨P,φ,sl,st,rs,s,iv,st',ef,k⟩:=hq0;obtain ⟨q,e1,e2⟩:=zA ef;obtain ⟨r,e3,e4⟩:=zA e2;refine Dz rs s ⟨q.1,q.2,r.1,r.2,e1,e3,fun P1 φ1 H1 w w' f1 s1 r1 r2=>?_⟩;split at e4
  ·rename_i i j ei ej
   rw [ei] at r1;rw [ej] at r2;split at e4
   ·rename_i hb
    cases e4;obtain ⟨h1,h2⟩:=Bool.and_eq_true_iff.mp hb;simp only [RA] at r1 r2;subst r1;subst r2;exact ⟨i,j,rfl,⟨(dR h1).1,(dR h1).2,(dR h2).1,(dR h2).2⟩,k P1 φ1 H1 _ f1 s1 oe⟩
   ·cases e4
  ·cases e4
def iZ (f g:EF):IF:=fun sl st=>(f sl st).bind fun p=>(g sl p.2).bind fun q=>(fv q.2 p.1).bind fun x=>(fv q.2 q.1).bind fun y=>some (⟨(x.GH.zip y.GH).map fun z=>.tup [z.1,z.2],x.gd++y.gd⟩,q.2)
theorem nV [GG] {mg:Gm}{P:Pr}{φ:List Addr}{st:aa}{H:Hp}{p:Addr}{x y:AV}{u w:V} (s:Sim mg P φ st H) (hp:H p=none) (rx:RA mg P H φ x u) (ry:RA mg P H φ y w) :
  ∃ P3,Frm P φ H P3 φ (am H p (.tup [u,w]))/\Sim mg P3 φ st (am H p (.tup [u,w]))/\RA mg P3 (am H p (.tup [u,w])) φ (.tup [x,y]) (.ref p):=by
 obtain ⟨f3,s3⟩:=jK (o:=.tup [u,w]) s hp;refine ⟨_,f3,s3,?_⟩;simp only [RA];exact ⟨p,[u,w],rfl,.inr rfl,aE,bc (rx.frm f3) (bc (ry.frm f3) bv)⟩
theorem yo [GG] {x1:Nat} (hg:Gl X "zip") (hm:X.mg "zip"=none) (ha:QE X a f) (hb:QE X b g) (hs:starEach [a,b] X.env=[(false,eval a X.env),(false,eval b X.env)]) (hs2:starEach [b] X.env=[(false,eval b X.env)]) :
  QI X (.Tuple elts x1 tpos) (.Call (.Name "zip" p) [a,b] [] pos) (iZ f g) :=
 eQ (zd hg hm (cQ ha (cQ hb eT (by rw [hs2];rfl)) (by rw [hs,hs2])) hs hs2) fun σ H R hq0=>by
  obtain ⟨P,φ,sl,st,rs,s,iv,st',ef,k⟩:=hq0;obtain ⟨q,e1,e2⟩:=zA ef;obtain ⟨r,e3,e4⟩:=zA e2;obtain ⟨x,e5,e6⟩:=zA e4;obtain ⟨y,e7,e8⟩:=zA e6;cases e8;refine Dz rs s ⟨q.1,q.2,r.1,r.2,e1,e3,fun P1 φ1 H1 w w' f1 s1 r1 r2=>?_⟩;obtain ⟨a1,rfl,h1⟩:=jS s1 r1 e5;obtain ⟨a2,rfl,h2⟩:=jS s1 r2 e7;obtain ⟨vs,rd1,_⟩:=h1 P1 φ1 H1 r.2 Frm.refl s1 (jR e5);obtain ⟨us,rd2,_⟩:=h2 P1 φ1 H1 r.2 Frm.refl s1 (jR e7);refine ⟨a1,a2,rfl,⟨vs,rd1⟩,⟨us,rd2⟩,k P1 φ1 H1 _ f1 s1 ⟨fun P2 φ2 H2 st2 i t f2 s2 g2 et=>?_,fun P2 φ2 H2 st2 f2 s2 g2=>?_⟩⟩
  ·obtain ⟨ga,gb⟩:=om g2
   obtain ⟨vs2,d1,q1⟩:=h1 P2 φ2 H2 st2 f2 s2 ga;obtain ⟨us2,d2,q2⟩:=h2 P2 φ2 H2 st2 f2 s2 gb;rw [zR] at et;obtain ⟨z,ez,et⟩:=zE.mp et;subst et;obtain ⟨hx,hy⟩:=List.getElem?_zip_eq_some.mp ez;obtain ⟨u1,c1,b1⟩:=q1.get hx;obtain ⟨u2,c2,b2⟩:=q2.get hy;refine ⟨⟨vs2,us2,u1,u2,d1,d2,c1,c2⟩,fun v H3 hq0=>?_⟩;obtain ⟨pp,u,w,k1,k2,hp,hH,hv⟩:=hq0;have k1:=k1 vs2 d1;have k2:=k2 us2 d2;rw [c1] at k1;rw [c2] at k2;cases k1;cases k2;subst hH;subst hv;exact nV s2 hp b1 b2
  ·obtain ⟨ga,gb⟩:=om g2
   obtain ⟨vs2,d1,q1⟩:=h1 P2 φ2 H2 st2 f2 s2 ga;obtain ⟨us2,d2,q2⟩:=h2 P2 φ2 H2 st2 f2 s2 gb;refine ⟨vs2,us2,d1,d2,?_⟩;rw [<- q1.length,<- q2.length];simp only [zH,List.length_zip];omega
noncomputable def lh (n0:Nat) (xs:List AV):List AV:=(xs.zipIdx n0).map fun z=>.tup [.int ((z.2:Nat):Int),z.1]
theorem uh [GG] {mg:Gm}{P:Pr}{φ:List Addr}{H:Hp}{K:Frag}{a:Addr}{iv:Iv}{n0:Nat} (h:∀ P2 φ2 H2 st2,Frm P φ H P2 φ2 H2->Sim mg P2 φ2 st2 H2->bW iv.gd st2=true->∃ vs,bC K H2 a vs/\GI mg P2 H2 φ2 iv.GH vs):m7 mg (vD K a n0) ⟨lh n0 iv.GH,iv.gd⟩ P φ H where
 go:=fun P2 φ2 H2 st2 i x f s g e=>by
  obtain ⟨vs,rd,ra⟩:=h P2 φ2 H2 st2 f s g;unfold lh at e;rw [zR,List.getElem?_zipIdx] at e;cases hz:iv.GH[i]? with
  | none=>rw [hz] at e;cases e
  | some y =>
   rw [hz] at e;cases e;obtain ⟨v,e1,r1⟩:=ra.get hz;refine ⟨⟨vs,v,rd,e1⟩,fun w H3 hq0=>?_⟩;obtain ⟨pp,u,hx,hp,hH,hw⟩:=hq0
   have:=hx vs rd
   rw [e1] at this;cases this;subst hH;subst hw;exact nV s hp (by simp only [RA]) r1
 stop:=fun P2 φ2 H2 st2 f s g=>by
  obtain ⟨vs,rd,ra⟩:=h P2 φ2 H2 st2 f s g;exact ⟨vs,rd,by rw [<- ra.length];simp [lh]⟩
def DT (f:EF):IF:=fun sl st=>(f sl st).bind fun p=>(fv p.2 p.1).map fun iv=>(⟨lh 0 iv.GH,iv.gd⟩,p.2)
theorem B2 [GG] {x1:Nat} (hg:Gl X "enumerate") (hm:X.mg "enumerate"=none) (ha:QE X a f) (hs:starEach [a] X.env=[(false,eval a X.env)]) :
  QI X (.Tuple elts x1 tpos) (.Call (.Name "enumerate" p) [a] [] pos) (DT f) :=
 eQ (wo hg hm (cQ ha eT (by rw [hs];rfl)) hs) fun σ H R hq0=>by
  obtain ⟨P,φ,sl,st,rs,s,iv,st',ef,k⟩:=hq0;obtain ⟨q,e1,e2⟩:=zA ef;obtain ⟨iv',e3,e4⟩:=zE.mp e2;cases e4;refine yd rs s ⟨q.1,q.2,e1,fun P1 φ1 H1 w f1 s1 r1=>?_⟩;obtain ⟨a1,rfl,h1⟩:=jS s1 r1 e3;obtain ⟨vs,rd1,_⟩:=h1 P1 φ1 H1 q.2 Frm.refl s1 (jR e3);exact ⟨a1,rfl,⟨vs,rd1⟩,k P1 φ1 H1 _ f1 s1 (uh h1)⟩
end
section
variable {X:Cx}{tg e a b:Expr}{es:List Expr}{pos p kp:Pos}
def Gx (f g:EF):IF:=fun sl st=>(f sl st).bind fun p=>(g sl p.2).bind fun q=>match q.1 with
 | .int i=>if (decide (0 <= i) && Nat.ble i.natAbs 1000000)=true then (fv q.2 p.1).map fun iv=>(⟨lh i.toNat iv.GH,iv.gd⟩,q.2) else none
 | _=>none
end
mutual
noncomputable def rf:AV->Bool
 | .ref _=>false
 | .tup xs=>rfs xs
 | _=>true
noncomputable def rfs:List AV->Bool
 | []=>true
 | x::xs=>rf x && rfs xs
end
mutual
theorem RA.rf:∀ {t:AV}{v:V},R.rf t=true->RA mg P H φ t v->RA mg P H ψ t v
 | .non,_,_,h=>by simp only [RA] at h ⊢;exact h
 | .bl _,_,_,h=>by simp only [RA] at h ⊢;exact h
 | .int _,_,_,h=>by simp only [RA] at h ⊢;exact h
 | .str _,_,_,h=>by simp only [RA] at h ⊢;exact h
 | .fz _,_,_,h=>by simp only [RA] at h ⊢;exact h
 | .ref k,_,e,_=>by simp only [R.rf] at e;cases e
 | .tup xs,_,e,h=>by
  simp only [RA,R.rf] at h e ⊢;obtain ⟨a,vs,r,p,e',q⟩:=h;exact ⟨a,vs,r,p,e',GI.rf e q⟩
theorem GI.rf:∀ {ts:List AV}{vs:List V},R.rfs ts=true->GI mg P H φ ts vs->GI mg P H ψ ts vs
 | [],_,_,h=>by simp only [GI] at h ⊢;exact h
 | t::ts,_,e,h=>by
  simp only [GI,R.rfs,zC] at h e ⊢;obtain ⟨v,ws,e',r,q⟩:=h;exact ⟨v,ws,e',RA.rf e.1 r,GI.rf e.2 q⟩
end
abbrev NF:=Sl->aa->Option (List AV × aa)
def rN [GG] (mg:Gm) (f:NF):TE:=fun σ H Q=>∃ P φ sl st,GL mg P H φ sl σ/\Sim mg P φ st H/\∃ xs st',f sl st=some (xs,st') /\
 ∀ P' φ' H' p vs,Frm P φ H P' φ' H'->Sim mg P' φ' st' H'->H' p=none->GI mg P' H' φ' xs vs->Q (.ref p) (am H' p (.lst vs))
def QN [GG] (X:Cx) (e:Expr) (f:NF):Prop:=PE X e (rN X.gm f)
def FM (f:NF):EF:=fun sl st=>(f sl st).bind fun p=>if rfs p.1=true then some (.fz p.1,p.2) else none
def FL (f:NF):EF:=fun sl st=>(f sl st).bind fun p=>some (.ref p.2.length,p.2++[.lst p.1])
theorem A0 [GG] {mg:Gm}{P:Pr}{φ:List Addr}{st:aa}{H:Hp}{p:Addr}{xs:List AV}{vs:List V} (s:Sim mg P φ st H) (hp:H p=none) (hr:rfs xs=true) (r:GI mg P H φ xs vs) :
  ∃ P3,Frm P φ H P3 φ (am H p (.lst vs))/\Sim mg P3 φ st (am H p (.lst vs))/\RA mg P3 (am H p (.lst vs)) φ (.fz xs) (.ref p):=by
 obtain ⟨f3,s3⟩:=jK (o:=.lst vs) s hp;refine ⟨_,f3,s3,?_⟩;simp only [RA];exact ⟨p,vs,rfl,.inl ⟨.inr rfl,.inl aE⟩,GI.rf hr (r.frm f3)⟩
theorem An [GG] {mg:Gm}{P:Pr}{φ:List Addr}{st:aa}{H:Hp}{p:Addr}{xs:List AV}{vs:List V} (s:Sim mg P φ st H) (hp:H p=none) (r:GI mg P H φ xs vs) :
  Frm P φ H P (φ++[p]) (am H p (.lst vs))/\Sim mg P (φ++[p]) (st++[.lst xs]) (am H p (.lst vs))/\RA mg P (am H p (.lst vs)) (φ++[p]) (.ref st.length) (.ref p):=by
 have ne:∀ a,H a ≠ none->a ≠ p:=fun a h e=>h (by rw [e];exact hp)
 obtain ⟨f3,s3⟩:=jm (c:=.lst xs) (o:=.lst vs) s hp ⟨fun z=>s.dom p z hp,vs,aE,r.mono (fun a h=>⟨h,af (ne a (s.dom a h))⟩) fun k a e=>by rw [zN (zB.mp e).1];exact e⟩;refine ⟨f3,s3,?_⟩;simp only [RA];exact ⟨p,by rw [<- s.len];simp,rfl⟩
section
variable {X:Cx}{e a b:Expr}{es:List Expr}{pos:Pos}{f:NF}
noncomputable def eB (n:Nat):Bool:=Nat.ble n 1000000
theorem fX {n:Nat} (h:eB n=true):n <= sizeLine:=z0 (zS h) dC
def DJ (g:AF):NF:=fun sl st=>(g sl st).bind fun p=>if eB p.1.length=true then some p else none
theorem v1 [GG] (h:QA X es g):QN X (.List es pos) (DJ g) :=
 PE_imp (qy h) fun σ H Q hq0=>by
  obtain ⟨P,φ,sl,st,rs,s,xs,st',ef,k⟩:=hq0;obtain ⟨q,e1,e2⟩:=zA ef;split at e2
  ·rename_i hz
   cases e2;exact ⟨P,φ,sl,st,rs,s,xs,st',e1,fun P1 φ1 H1 vs f1 s1 r1=>⟨by rw [<- r1.length];exact fX hz,fun p hp=>k P1 φ1 H1 p vs f1 s1 hp r1⟩⟩
  ·cases e2
def kC (f g:EF):NF:=fun sl st=>(f sl st).bind fun p=>(g sl p.2).bind fun q=>(cS q.2 p.1).bind fun xs=>(cS q.2 q.1).bind fun ys=>if eB (xs.length + ys.length)=true then some (xs++ys,q.2) else none
theorem yn [GG] {f g:EF} (ha:QE X a f) (hb:QE X b g):QN X (.BinOp a .Add b pos) (kC f g) :=
 PE_imp (oZ wD ha hb) fun σ H Q hq0=>by
  obtain ⟨P,φ,sl,st,rs,s,xs,st',ef,k⟩:=hq0;obtain ⟨q,e1,e2⟩:=zA ef;obtain ⟨r,e3,e4⟩:=zA e2;obtain ⟨x,e5,e6⟩:=zA e4;obtain ⟨y,e7,e8⟩:=zA e6;split at e8
  ·rename_i hz
   cases e8;refine ⟨P,φ,sl,st,rs,s,q.1,q.2,e1,fun P1 φ1 H1 w f1 s1 r1=>⟨P1,φ1,sl,q.2,rs.frm f1,s1,r.1,r.2,e3,fun P2 φ2 H2 w2 f2 s2 r2=>?_⟩⟩;obtain ⟨a1,vs,rfl,d1,q1⟩:=(r1.frm f2).ls s2 e5;obtain ⟨a2,us,rfl,d2,q2⟩:=r2.ls s2 e7;exact ⟨a1,a2,vs,us,rfl,rfl,d1,d2,by rw [<- q1.length,<- q2.length];exact fX hz,fun p hp=>k P2 φ2 H2 p _ (f1.trans f2) s2 hp (q1.app q2)⟩
  ·cases e8
def tZ (g:AF) (f:EF):NF:=fun sl st=>(g sl st).bind fun p=>(f sl p.2).bind fun q=>match q.1 with
 | .int k=>if (eu k && eB (p.1.length * k.toNat) && eB p.1.length)=true then some ((List.replicate k.toNat p.1).flatten,q.2) else none
 | _=>none
theorem GI.rep (h:GI mg P H φ xs vs):∀ k:Nat,GI mg P H φ (List.replicate k xs).flatten (List.replicate k vs).flatten
 | 0=>bv
 | k + 1=>by rw [List.replicate_succ,List.replicate_succ,List.flatten_cons,List.flatten_cons];exact h.app (GI.rep h k)
theorem yk [GG] {g:AF}{f:EF}{pos':Pos} (h:QA X es g) (hb:QE X b f):QN X (.BinOp (.List es pos') .Mult b pos) (tZ g f) :=
 PE_imp (oZ zt (qy h) hb) fun σ H Q hq0=>by
  obtain ⟨P,φ,sl,st,rs,s,xs,st',ef,k⟩:=hq0;obtain ⟨q,e1,e2⟩:=zA ef;obtain ⟨r,e3,e4⟩:=zA e2;split at e4
  ·rename_i j ej
   split at e4
   ·rename_i hc
    cases e4;simp only [zC] at hc;refine ⟨P,φ,sl,st,rs,s,q.1,q.2,e1,fun P1 φ1 H1 vs f1 s1 r1=>⟨by rw [<- r1.length];exact fX hc.2,fun p hp=>?_⟩⟩
    -- the list itself is a cell that nobody has
    obtain ⟨f2,s2⟩:=jK (o:=.lst vs) s1 hp;refine ⟨_,φ1,sl,q.2,(rs.frm f1).frm f2,s2,r.1,r.2,e3,fun P3 φ3 H3 w f3 s3 r3=>?_⟩;rw [ej] at r3;simp only [RA] at r3;subst r3;have hH:H3 p=some (.lst vs):=by rw [(f3.ext p (.inr rfl)).2,aE]
    have hj:=dR hc.1.1;refine ⟨p,j,vs,rfl,rfl,hH,by omega,by omega,by rw [<- r1.length];exact fX hc.1.2,fun p' hp'=>?_⟩;exact k P3 φ3 H3 p' _ ((f1.trans f2).trans f3) s3 hp' (GI.rep ((r1.frm f2).frm f3) _)
   ·cases e4
  ·cases e4
abbrev OF:=Sl->aa->Option (Option Int × aa)
def rO [GG] (mg:Gm) (f:OF):TO:=fun σ H Q=>∃ P φ sl st,GL mg P H φ sl σ/\Sim mg P φ st H/\KG mg RB P φ H (f sl st) Q
def QO [GG] (X:Cx) (e:Option Expr) (f:OF):Prop:=PO X e (rO X.gm f)
def DG:OF:=fun _ st=>some (none,st)
def Ah (f:EF):OF:=fun sl st=>(f sl st).bind fun p=>match p.1 with
 | .int i=>some (some i,p.2)
 | _=>none
theorem oG (h:PO X eo t) (i:∀ σ H Q,t' σ H Q->t σ H Q):PO X eo t':=fun GD s σ H Q I h'=>h GD s σ H Q I (i σ H Q h')
theorem v0 [GG]:QO X none DG:=oG wg fun σ H Q ⟨P,φ,sl,st,rs,s,k⟩=>k.pure s rfl
theorem vZ [GG] {f:EF} (h:QE X e f):QO X (some e) (Ah f):=oG (wf h) fun σ H Q ⟨P,φ,sl,st,rs,s,k⟩=>⟨P,φ,sl,st,rs,s,by
 obtain ⟨a,st',e1,q⟩:=k.bind (Ra:=RA);refine ⟨a,st',e1,fun P1 φ1 H1 c f1 s1 r1=>?_⟩;obtain ⟨P2,φ2,st2,x,f2,s2,r2,k2⟩:=q P1 φ1 H1 c f1 s1 r1;cases x <;> first | exact k2.no.elim | skip
 rename_i i;simp only [RA] at r2;exact ⟨i,r2,k2.pure s2 rfl⟩⟩
def cut {α:Type} (xs:List α) (lo hi:Option Int):List α:=(xs.drop (HT.GQ xs.length 0 lo)).take (HT.GQ xs.length xs.length hi - HT.GQ xs.length 0 lo)
theorem GI.cut (h:GI mg P H φ xs vs) (lo hi:Option Int):GI mg P H φ (R.cut xs lo hi) (kM vs lo hi):=by
 unfold R.cut kM;rw [h.length];exact (h.drop _).take _
theorem Ez [GG] {mg:Gm}{f:EF}{l h:OF}{σ:St}{H:Hp}{P:Pr}{φ:List Addr}{sl:Sl}{st:aa} (rs:GL mg P H φ sl σ) (s:Sim mg P φ st H) {r:V->Option Int->Option Int->Hp->VK->Prop}{Q:VK}
  (k:∃ v st1 lo st2 hi st3,f sl st=some (v,st1)/\l sl st1=some (lo,st2)/\h sl st2=some (hi,st3)/\∀ P' φ' H' w,Frm P φ H P' φ' H'->Sim mg P' φ' st3 H'->RA mg P' H' φ' v w->r w lo hi H' Q):Do r (rE mg f) (rO mg l) (rO mg h) σ H Q:=by
 obtain ⟨v,st1,lo,st2,hi,st3,e1,e2,e3,k⟩:=k;refine ⟨P,φ,sl,st,rs,s,v,st1,e1,fun P1 φ1 H1 w f1 s1 r1=>⟨P1,φ1,sl,st1,rs.frm f1,s1,lo,st2,e2,fun P2 φ2 H2 lo' f2 s2 r2=>⟨P2,φ2,sl,st2,(rs.frm f1).frm f2,s2,hi,st3,e3,fun P3 φ3 H3 hi' f3 s3 r3=>?_⟩⟩⟩;cases r2;cases r3;exact k P3 φ3 H3 w ((f1.trans f2).trans f3) s3 ((r1.frm f2).frm f3)
def uZ (f:EF) (l h:OF):NF:=fun sl st=>(f sl st).bind fun p=>(l sl p.2).bind fun q=>(h sl q.2).bind fun r=>(cS r.2 p.1).map fun xs=>(cut xs q.1 r.1,r.2)
theorem BX [GG] {f:EF}{l h:OF}{lo hi:Option Expr}{p2:Pos} (ha:QE X a f) (hl:QO X lo l) (hh:QO X hi h):QN X (.Subscript a (.Slice lo hi none p2) pos) (uZ f l h) :=
 PE_imp (tI vQ ha hl hh) fun σ H Q hq0=>by
  obtain ⟨P,φ,sl,st,rs,s,xs,st',ef,k⟩:=hq0;obtain ⟨q,e1,e2⟩:=zA ef;obtain ⟨r,e3,e4⟩:=zA e2;obtain ⟨t,e5,e6⟩:=zA e4;obtain ⟨ys,e7,e8⟩:=zE.mp e6;cases e8;refine Ez rs s ⟨q.1,q.2,r.1,r.2,t.1,t.2,e1,e3,e5,fun P1 φ1 H1 w f1 s1 r1=>?_⟩;obtain ⟨a1,vs,rfl,d1,q1⟩:=r1.ls s1 e7;exact ⟨a1,vs,rfl,d1,fun p hp=>k P1 φ1 H1 p _ f1 s1 hp (q1.cut _ _)⟩
def o8 (f:EF):NF:=fun sl st=>(f sl st).bind fun p=>match cS p.2 p.1 with
 | some xs=>some (xs,p.2)
 | none=>(gS p.2 p.1).map fun xs=>(xs,p.2)
theorem ym [GG] {f:EF}{p pos:Pos} (hg:Gl X "list") (hm:X.mg "list"=none) (ha:QE X a f) (hs:starEach [a] X.env=[(false,eval a X.env)]):QN X (.Call (.Name "list" p) [a] [] pos) (o8 f) :=
 PE_imp (k6 mQ hg hm pI (cQ ha eT (by rw [hs];rfl)) (he:=by rw [hs];rfl) (hpl:=rfl)) fun σ H Q hq0=>by
  obtain ⟨P,φ,sl,st,rs,s,xs,st',ef,k⟩:=hq0;obtain ⟨q,e1,e2⟩:=zA ef;refine yd rs s ⟨q.1,q.2,e1,fun P1 φ1 H1 w f1 s1 r1=>?_⟩;split at e2
  ·rename_i ys e3
   cases e2;obtain ⟨a1,vs,rfl,d1,q1⟩:=r1.ls s1 e3;exact ⟨a1,vs,rfl,.inl d1,fun p hp=>k P1 φ1 H1 p vs f1 s1 hp q1⟩
  ·obtain ⟨ys,e3,e4⟩:=zE.mp e2
   cases e4;obtain ⟨a1,vs,rfl,d1,q1⟩:=r1.tp s1 e3;exact ⟨a1,vs,rfl,.inr (.inl (.inl d1)),fun p hp=>k P1 φ1 H1 p vs f1 s1 hp q1⟩
end
abbrev GF:=AV->Sl->aa->Option (Sl × aa)
abbrev m8:=List AV->Sl->aa->Option (Sl × aa)
def KS [GG] (mg:Gm) (P:Pr) (φ:List Addr) (H:Hp) (r:Option (Sl × aa)) (Q:St->Hp->Prop):Prop :=
 ∃ sl' st',r=some (sl',st')/\∀ P' φ' H' σ',Frm P φ H P' φ' H'->Sim mg P' φ' st' H'->GL mg P' H' φ' sl' σ'->Q σ' H'
def rG [GG] (mg:Gm) (f:GF):TG:=fun v σ H Q=>∃ P φ sl st x,GL mg P H φ sl σ/\Sim mg P φ st H/\RA mg P H φ x v/\KS mg P φ H (f x sl st) Q
def Fu [GG] (mg:Gm) (f:m8):ja:=fun vs σ H Q=>∃ P φ sl st xs,GL mg P H φ sl σ/\Sim mg P φ st H/\GI mg P H φ xs vs/\KS mg P φ H (f xs sl st) Q
def QG [GG] (X:Cx) (tg:Expr) (f:GF):Prop:=PG X tg (rG X.gm f)
def se [GG] (X:Cx) (tgs:List Expr) (f:m8):Prop:=lC X tgs (Fu X.gm f)
def rj (i:Nat):GF:=fun x sl st=>some (sl.set i (some x),st)
def AX:m8:=fun xs sl st=>match xs with
 | []=>some (sl,st)
 | _=>none
def AY (f:GF) (g:m8):m8:=fun xs sl st=>match xs with
 | x::xs=>(f x sl st).bind fun p=>g xs p.1 p.2
 | []=>none
def rh (n:Nat) (g:m8):GF:=fun x sl st=>match gS st x with
 | some xs=>if xs.length=n then g xs sl st else none
 | none=>match cS st x with
  | some xs=>if xs.length=n then g xs sl st else none
  | none=>none
theorem mZ (h:lC X tgs t) (i:∀ v σ H Q,t' v σ H Q->t v σ H Q):lC X tgs t':=fun GD s σ H v u Q I rv h'=>h GD s σ H v u Q I rv (i v σ H Q h')
section
variable {X:Cx}{e a b:Expr}{es:List Expr}{pos:Pos}
theorem KS.pure [GG] {mg:Gm}{P:Pr}{φ:List Addr}{H:Hp}{sl:Sl}{st:aa}{σ:St}{Q:St->Hp->Prop} (h:KS mg P φ H (some (sl,st)) Q) (s:Sim mg P φ st H) (r:GL mg P H φ sl σ):Q σ H:=by
 obtain ⟨_,_,e,q⟩:=h;cases e;exact q P φ H σ Frm.refl s r
theorem v6 [GG] {i:Nat} (hN:X.N.Nodup) (hi:X.N[i]?=some x) (hx:Loc X.env.scope x) (hf:X.fn x=true\/X.env.scope.names.lookup x=some .local):QG X (.Name x pos) (rj i) :=
 PG_imp (wu hN hi hx hf) fun v σ H Q ⟨P,φ,sl,st,x,rs,s,rx,k⟩=>k.pure s (rs.set rx i)
theorem v4 [GG]:se X [] AX:=mZ wq fun v σ H Q hq0=>by
 obtain ⟨P,φ,sl,st,xs,rs,s,rx,k⟩:=hq0;cases xs with
 | nil=>simp only [GI] at rx;exact ⟨rx,k.pure s rs⟩
 | cons _ _=>obtain ⟨_,_,e,_⟩:=k;cases e
theorem tm [GG] (h1:QG X e f) (h2:se X es g) (hs:(assignEach (e::es) X.env).map (·.2)=assign e X.env::(assignEach es X.env).map (·.2)):se X (e::es) (AY f g) :=
 mZ (tH h1 h2 hs) fun v σ H Q hq0=>by
  obtain ⟨P,φ,sl,st,xs,rs,s,rx,k⟩:=hq0;cases xs with
  | nil=>obtain ⟨_,_,e,_⟩:=k;cases e
  | cons x xs =>
   simp only [GI] at rx;obtain ⟨w,ws,rfl,r1,r2⟩:=rx;obtain ⟨sl',st',e,q⟩:=k;obtain ⟨p,e1,e2⟩:=zA e;exact ⟨w,ws,rfl,P,φ,sl,st,x,rs,s,r1,p.1,p.2,e1,fun P1 φ1 H1 σ1 f1 s1 rs1=>⟨P1,φ1,p.1,p.2,xs,rs1,s1,r2.frm f1,sl',st',e2,fun P2 φ2 H2 σ2 f2 s2 rs2=>q P2 φ2 H2 σ2 (f1.trans f2) s2 rs2⟩⟩
theorem Ce (h:PG X tg t) (h':PG X tg t'):PG X tg (fun v σ H Q=>t v σ H Q\/t' v σ H Q):=fun GD s σ H v u Q I r q=>by
 rcases q with q | q
 ·exact h GD s σ H v u Q I r q
 ·exact h' GD s σ H v u Q I r q
theorem yp [GG] {k n:Nat} (hc:X.calm=true) (h:se X es g) (hn:(assignEach es X.env).length=n) (hst:(assignEach es X.env).findIdx? (·.1)=none):QG X (.Tuple es k pos) (rh n g) :=
 PG_imp (Ce (zf (k:=k) hc h hn hst) (wt (k:=k) hc h hn hst)) fun v σ H Q hq0=>by
  obtain ⟨P,φ,sl,st,x,rs,s,rx,kk⟩:=hq0;obtain ⟨sl',st',e,q⟩:=kk;unfold rh at e;split at e
  ·rename_i xs ex
   split at e
   ·rename_i hl
    obtain ⟨a1,vs,rfl,d1,q1⟩:=rx.tp s ex;exact .inl ⟨a1,vs,rfl,.inl (.inl d1),by rw [<- q1.length];exact hl,P,φ,sl,st,xs,rs,s,q1,sl',st',e,q⟩
   ·cases e
  ·split at e
   ·rename_i xs ex
    split at e
    ·rename_i hl
     obtain ⟨a1,vs,rfl,d1,q1⟩:=rx.ls s ex;exact .inr ⟨a1,vs,rfl,d1,by rw [<- q1.length];exact hl,P,φ,sl,st,xs,rs,s,q1,sl',st',e,q⟩
    ·cases e
   ·cases e
noncomputable def kt {κ:Type} [DecidableEq κ] (GE:List (κ × AV)) (k:κ) (v:AV):List (κ × AV) :=
 if (GE.any fun kv=>decide (kv.1=k))=true then GE.map fun kv=>if kv.1=k then (kv.1,v) else kv else GE++[(k,v)]
theorem mh {P:Pr}{H:Hp}{φ:List Addr}{κ:Type} [DecidableEq κ] {GE:List (κ × AV)}{ws:List (κ × V)}{k:κ}{v:AV}{w:V} (h:KVR mg P H φ GE ws) (r:RA mg P H φ v w):KVR mg P H φ (kt GE k v) (dh ws k w):=by
 have hany:(GE.any fun kv=>decide (kv.1=k))=(ws.any fun kv=>decide (kv.1=k)):=by
  have h1:∀ {α:Type} (l:List (κ × α)),(l.any fun kv=>decide (kv.1=k))=((l.map (·.1)).any fun x=>decide (x=k)):=fun l=>by rw [List.any_map];rfl
  rw [h1 GE,h1 ws,h.1]
 unfold kt dh;rw [hany];split
 ·clear hany
  rename_i hh;clear hh
  induction GE generalizing ws with
  | nil =>
   have:ws=[]:=by simpa using h.1.symm
   subst this;exact ⟨rfl,bv⟩
  | cons p GE ih =>
   cases ws with
   | nil=>exact absurd h.1 (by simp)
   | cons q ws =>
    obtain ⟨h1,h2⟩:=h;rw [zO,zO] at h1 h2;injection h1 with h3 h4;simp only [GI] at h2;obtain ⟨u,us,h5,h6,h7⟩:=h2;injection h5 with h8 h9;subst h8;subst h9;have ih:=ih (ws:=ws) ⟨h4,h7⟩;have h3':p.1=q.1:=h3;by_cases e:q.1=k
    ·rw [zO,zO,yF e,yF (h3'.trans e)]
     exact ⟨by rw [zO,zO,ih.1,h3'],bc r ih.2⟩
    ·rw [zO,zO,yE e,yE (fun z=>e (h3'.symm.trans z))]
     exact ⟨by rw [zO,zO,ih.1,h3'],bc h6 ih.2⟩
 ·refine ⟨by rw [List.map_append,List.map_append,h.1];rfl,?_⟩
  rw [List.map_append,List.map_append];exact h.2.app (bc r bv)
def oV (st:aa) (o i v:AV):Option aa:=match o with
 | .ref k=>match st[k]? with
  | some (.lst xs)=>match i with
   | .int j=>(lb xs.length j).map fun n=>st.set k (.lst (xs.set n v))
   | _=>none
  | some (.dK GE)=>(jp i).bind fun x=>if eB GE.length=true then some (st.set k (.dK (kt GE x v))) else none
  | some (.dT GE)=>match i with
   | .tup is=>(aM jp is).bind fun x=>if eB GE.length=true then some (st.set k (.dT (kt GE x v))) else none
   | _=>none
  | _=>none
 | _=>none
theorem BM [GG] (hu:X.A.units + 64 < cLine):uH X (fun o i v H Q=>∃ P φ st x y z st',Sim X.gm P φ st H/\RA X.gm P H φ x o/\RA X.gm P H φ y i/\RA X.gm P H φ z v/\oV st x y z=some st'/\∀ P' φ' H',Frm P φ H P' φ' H'->Sim X.gm P' φ' st' H'->Q H'):=by
 rintro GD s σ H o i v ov iv u Q I ro ri rv ⟨P,φ,st,x,y,z,st',sm,rx,ry,rz,e,k⟩;unfold oV at e;cases x with
 | ref j =>
  simp only [RA] at rx;obtain ⟨a,ea,rfl⟩:=rx;dsimp only at e;split at e
  ·rename_i xs hk
   obtain ⟨a',ea',c⟩:=sm.at hk;rw [ea] at ea';cases ea';obtain ⟨na,vs,q1,q2⟩:=c;cases y with
   | int n =>
    simp only [RA] at ry;subst ry;obtain ⟨m,e1,e2⟩:=zE.mp e;subst e2;have hp:P a->False:=na;obtain ⟨f3,s3⟩:=eN (c:=.lst (xs.set m z)) (o:=.lst (vs.set m v)) sm ea na ⟨na,_,aE,(q2.set rz m).mono (fun b h=>⟨h,af fun e=>na (e ▸ h)⟩) fun _ _ z=>z⟩ (fun _ _ z=>by rw [q1] at z;cases z);exact sQ GD s σ H _ _ v ov iv u Q I ro ri rv ⟨a,vs,n,m,rfl,rfl,q1,by rw [<- q2.length];exact e1,k P φ _ f3 s3⟩
   | _=>cases e
  ·rename_i GE hk
   obtain ⟨a',ea',c⟩:=sm.at hk;rw [ea] at ea';cases ea';obtain ⟨na,ws,q1,q2⟩:=c;obtain ⟨x,e1,e2⟩:=zA e;split at e2
   ·rename_i hz
    cases e2
    have:=jo e1 ry
    subst this;cases ro;obtain ⟨f3,s3⟩:=eN (c:=.dK (kt GE x z)) (o:=.dK (dh ws x v)) sm ea na ⟨na,_,aE,(mh q2 rz).mono (fun b h=>⟨h,af fun e=>na (e ▸ h)⟩) fun _ _ z=>z⟩ (fun _ _ z=>by rw [q1] at z;cases z);refine lr oM I (DPut.k q1 ?_) ri rv fun s' I'=>⟨_,I',k P φ _ f3 s3⟩
    have:=congrArg List.length q2.1
    rw [zH,zH] at this;rw [<- this];have h1:=zS hz;have h2:(1000000:Nat) < sizeLine:=by decide
    omega
   ·cases e2
  ·rename_i GE hk
   obtain ⟨a',ea',c⟩:=sm.at hk;rw [ea] at ea';cases ea';obtain ⟨na,ws,q1,q2⟩:=c;cases y with
   | tup is =>
    dsimp only at e;obtain ⟨x,e1,e2⟩:=zA e;split at e2
    ·rename_i hz
     cases e2;simp only [RA] at ry;obtain ⟨b,us,rfl,_,hb,rr⟩:=ry;rw [k9 e1 rr] at hb;cases ro;obtain ⟨f3,s3⟩:=eN (c:=.dT (kt GE x z)) (o:=.dT (dh ws x v)) sm ea na ⟨na,_,aE,(mh q2 rz).mono (fun b h=>⟨h,af fun e=>na (e ▸ h)⟩) fun _ _ z=>z⟩ (fun _ _ z=>by rw [q1] at z;cases z);refine lr oM I (DPut.t q1 hb ?_) ri rv fun s' I'=>⟨_,I',k P φ _ f3 s3⟩
     have:=congrArg List.length q2.1
     rw [zH,zH] at this;rw [<- this];have h1:=zS hz;have h2:(1000000:Nat) < sizeLine:=by decide
     omega
    ·cases e2
   | _=>cases e
  ·cases e
 | _=>cases e
def DU (f g:EF):GF:=fun x sl st=>(f sl st).bind fun p=>(g sl p.2).bind fun q=>(oV q.2 p.1 q.1 x).map fun st'=>(sl,st')
theorem yq [GG] (hu:X.A.units + 64 < cLine) (ho:QE X o f) (hi:QE X i g)
  (ha:∀ v,assign (.Subscript o i pos) X.env v=(do
   let ov <- holding [v] (eval o X.env)
   let iv <- holding [v,ov] (eval i X.env)
   standAt pos
   holding [v,ov,iv] (setItem ov iv v)
   release [v,ov,iv] [])):QG X (.Subscript o i pos) (DU f g) :=
 PG_imp (zg ho hi (BM hu) ha) fun v σ H Q hq0=>by
  obtain ⟨P,φ,sl,st,x,rs,s,rx,sl',st',e,k⟩:=hq0;obtain ⟨q,e1,e2⟩:=zA e;obtain ⟨r,e3,e4⟩:=zA e2;obtain ⟨z,e5,e6⟩:=zE.mp e4;cases e6;exact ⟨P,φ,sl,st,rs,s,q.1,q.2,e1,fun P1 φ1 H1 w f1 s1 r1=>⟨P1,φ1,sl,q.2,rs.frm f1,s1,r.1,r.2,e3,fun P2 φ2 H2 w2 f2 s2 r2=>⟨P2,φ2,r.2,q.1,r.1,x,st',s2,r1.frm f2,r2,(rx.frm f1).frm f2,e5,fun P3 φ3 H3 f3 s3=>k P3 φ3 H3 σ ((f1.trans f2).trans f3) s3 (((rs.frm f1).frm f2).frm f3)⟩⟩⟩
end
def hid (H:Hp) (p:Addr):Hp:=fun b=>if b=p then none else H b
theorem bp (h:b ≠ p):hid H p b=H b:=yE h
theorem cH:hid H p p=none:=yF rfl
theorem vJ (h:H p=some o):am (hid H p) p o=H:=by
 funext b;by_cases e:b=p
 ·subst e;rw [aE,h]
 ·rw [af e,bp e]
theorem oj:hid (am H p o) p=hid H p:=by
 funext b;by_cases e:b=p
 ·subst e;rw [cH,cH]
 ·rw [bp e,bp e,af e]
theorem uj (h:H p=none):hid H p=H:=by
 funext b;by_cases e:b=p
 ·subst e;rw [cH,h]
 ·rw [bp e]
section
variable {mg:Gm}{P P':Pr}{φ φ':List Addr}{st st':aa}{H H':Hp}{p:Addr}
theorem _root_.L2.dO.sh {P:Addr}{pos:Pos}{q:Str} (h:dO (hid H p) P pos q):dO H P pos q:=by
 obtain ⟨ps,e,t,c⟩:=h;have ne:∀ {a o},hid H p a=some o->H a=some o:=fun {a o} e=>by
  by_cases z:a=p
  ·rw [z,cH] at e;cases e
  ·rw [bp z] at e;exact e
 refine ⟨ps,ne e,t,?_⟩;rcases c with c | ⟨c',c1,c2⟩
 ·exact .inl c
 ·exact .inr ⟨c',c1,ne c2⟩
theorem _root_.L2.dO.hd {P:Addr}{pos:Pos}{q:Str} (h:dO H P pos q) (hl:∃ vs,H p=some (.lst vs)):dO (hid H p) P pos q:=by
 obtain ⟨ps,e,t,c⟩:=h;obtain ⟨vs,hv⟩:=hl;refine ⟨ps,by rw [bp (o4 e hv fun z=>nomatch z)];exact e,t,?_⟩;rcases c with c | ⟨c',c1,c2⟩
 ·exact .inl c
 ·exact .inr ⟨c',c1,by rw [bp (o4 c2 hv fun z=>nomatch z)];exact c2⟩
theorem Sim.sh [GG] (s:Sim mg P φ st (hid H p)) (o:HO) (ho:H p=some o):Sim mg P φ st H/\∀ a,P a->P a/\H a=hid H p a:=by
 have nP:∀ a,P a->a ≠ p:=fun a h e=>s.dom a h (by rw [e];exact cH)
 have nC:∀ a ∈ φ,a ≠ p:=fun a h e=>s.cd a h (by rw [e];exact cH)
 have ex:∀ a,P a->P a/\H a=hid H p a:=fun a h=>⟨h,(bp (nP a h)).symm⟩
 exact ⟨s.stay ex (fun a h=>(bp (nC a h)).symm) (fun _ _ h=>h) (fun a h=>by rw [(ex a h).2];exact s.dom a h) fun t ht=>⟨(s.tb t ht).1.sh,(s.tb t ht).2⟩,ex⟩
theorem Frm.hd [GG] (s0:Sim mg P φ st (hid H p)) (hl:∃ vs,H p=some (.lst vs)) (f:Frm P φ H P' φ' H') (s:Sim mg P' φ' st' H'):Frm P φ (hid H p) P' φ' (hid H' p)/\Sim mg P' φ' st' (hid H' p)/\(∀ a,P' a->P' a/\hid H' p a=H' a)/\H' p=H p:=by
 have nP:∀ a,P a->a ≠ p:=fun a h e=>s0.dom a h (by rw [e];exact cH)
 have nC:∀ a ∈ φ,a ≠ p:=fun a h e=>s0.cd a h (by rw [e];exact cH)
 have hp:H p ≠ none:=fun z=>by obtain ⟨vs,e⟩:=hl;rw [z] at e;cases e
 have kp:H' p=H p:=f.keep p hp (fun h=>nC p h rfl) fun ps z=>by obtain ⟨vs,e⟩:=hl;rw [z] at e;cases e
 obtain ⟨m,em,nm⟩:=f.new;have nP':∀ a,P' a->a ≠ p:=fun a h e=>by
  rcases f.pn a h with z | z | z
  ·exact nP a z e
  ·exact hp (by rw [<- e];exact z)
  ·exact nC a z e
 have nC':∀ a ∈ φ',a ≠ p:=fun a h e=>by
  rw [em] at h;rcases zZ.mp h with z | z
  ·exact nC a z e
  ·exact hp (by rw [<- e];exact nm a z)
 have hn:∀ a,hid H p a ≠ none->a ≠ p:=fun a h e=>h (by rw [e];exact cH)
 have ex:∀ a,P' a->P' a/\hid H' p a=H' a:=fun a h=>⟨h,bp (nP' a h)⟩
 refine ⟨⟨fun a h=>⟨(f.ext a h).1,by rw [bp (nP a h),bp (nP a h)];exact (f.ext a h).2⟩,⟨m,em,fun a h=>?_⟩,fun a h n z=>?_,fun a h=>?_,fun a h=>?_,fun a o u h=>?_⟩,s.stay ex (fun a h=>bp (nC' a h)) (fun _ _ h=>h) (fun a h=>by rw [(ex a h).2];exact s.dom a h) (fun t ht=>⟨(s.tb t ht).1.hd (by rw [kp];exact hl),(s.tb t ht).2⟩),ex,kp⟩
 ·rw [bp (nC' a (by rw [em];exact zK _ h))];exact nm a h
 ·rw [bp (hn a h),bp (hn a h)]
  rw [bp (hn a h)] at z;rw [bp (hn a h)] at h;exact f.keep a h n z
 ·rcases f.pn a h with z | z | z
  ·exact .inl z
  ·exact .inr (.inl (by rw [bp (nP' a h)];exact z))
  ·exact .inr (.inr z)
 ·rw [bp (hn a h)]
  rw [bp (hn a h)] at h;exact f.sm a h
 ·have ne:=hn a (by rw [h];exact fun z=>nomatch z)
  rw [bp ne] at h ⊢;exact f.fz a o u h
end
def k8 (gd:Gd) (g:GF) (t:TF) (f:EF) (sl:Sl):List AV->aa->Option (List AV × aa)
 | [],st=>if bW gd st=true then some ([],st) else none
 | x::xs,st=>if bW gd st=true then (g x sl st).bind fun p=>(t p.1 p.2).bind fun q=>if q.1=true then (f p.1 q.2).bind fun r=>(k8 gd g t f sl xs r.2).map fun z=>(r.1::z.1,z.2) else k8 gd g t f sl xs q.2 else none
def u0 (k:Nat) (it:IF) (g:GF) (t:TF) (f:EF):NF:=fun sl st=>(it sl st).bind fun p=>if eB p.1.GH.length=true then k8 p.1.gd g t f (sl++List.replicate k none) p.1.GH p.2 else none
def Dn:TF:=fun _ st=>some (true,st)
theorem GL.ext0 (h:GL mg P H φ sl σ) (k:Nat):GL mg P H φ (sl++List.replicate k none) (σ++List.replicate k none):=by
 refine ⟨by rw [zV,zV,h.1,List.length_replicate,List.length_replicate],fun i v e=>?_⟩;have hi:i < sl.length:=by
  rcases yO i sl.length with z | z
  ·exact z
  ·rw [z3 z,List.getElem?_replicate] at e
   split at e <;> cases e
 rw [zN hi] at e;rw [zN (by rw [<- h.1];exact hi)];exact h.2 i v e
def lQ (n:Nat) (g:GF):Prop:=∀ x sl st sl' st',g x sl st=some (sl',st')->sl'.length=sl.length/\∀ j,j < n->sl'[j]?=sl[j]?
theorem GL.back {k:Nat} (h:GL mg P H φ sl' σ) (hl:sl'.length=(sl++List.replicate k none).length) (hj:∀ j,j < sl.length->sl'[j]?=(sl++List.replicate k none)[j]?):GL mg P H φ (sl++List.replicate k none) σ:=by
 refine ⟨by rw [<- hl];exact h.1,fun i v e=>?_⟩;have hi:i < sl.length:=by
  rcases yO i sl.length with z | z
  ·exact z
  ·rw [z3 z,List.getElem?_replicate] at e
   split at e <;> cases e
 exact h.2 i v (by rw [hj i hi];exact e)
theorem AC [GG] {n k:Nat} (hk:lQ n g) (hn:σ.length=n) (h:rN mg (u0 k it g t f) σ H Q):xX k (rI mg it) (rG mg g) (rT mg t) (rE mg f) σ H Q:=by
 obtain ⟨P,φ,sl,st,rs,s,out,stE,ef,kk⟩:=h;obtain ⟨q,e1,e2⟩:=zA ef;split at e2
 ·rename_i hz
  refine ⟨P,φ,sl,st,rs,s,q.1,q.2,e1,fun P1 φ1 H1 J f1 s1 ij=>fun p hp=>?_⟩;have hsl:sl.length=n:=by rw [rs.1];exact hn
  refine ⟨fun i m σ' H'=>m=q.1.GH.length - i/\i <= q.1.GH.length/\∃ P' φ' st' xs vs zs,Frm P1 φ1 H1 P' φ' (hid H' p)/\Sim mg P' φ' st' (hid H' p)/\GL mg P' (hid H' p) φ' (sl++List.replicate k none) σ'/\H' p=some (.lst vs)/\GI mg P' (hid H' p) φ' xs vs/\xs.length <= i /\
    k8 q.1.gd g t f (sl++List.replicate k none) (q.1.GH.drop i) st'=some (zs,stE)/\out=xs++zs,⟨_,rfl,Nat.zero_le _,P1,φ1,q.2,[],[],out,?_⟩,?_⟩
  ·have e:hid (am H1 p (.lst [])) p=H1:=by rw [oj,uj hp]
   rw [e];exact ⟨Frm.refl,s1,(rs.frm f1).ext0 k,aE,bv,zP _,by simpa using e2,rfl⟩
  ·rintro i m σ' H' ⟨rfl,hle,P2,φ2,st2,xs,vs,zs,f2,s2,rs2,hv,rx,hlen,eg,eo⟩
   obtain ⟨s2v,ex2⟩:=s2.sh _ hv;have rs2v:GL mg P2 H' φ2 (sl++List.replicate k none) σ':=⟨rs2.1,fun i v e=>let ⟨w,e',r⟩:=rs2.2 i v e;⟨w,e',r.mono ex2 fun _ _ z=>z⟩⟩;have hpn:H' p ≠ none:=by rw [hv];exact fun z=>nomatch z
   -- the iterator's rules hold at the whole heap: it keeps what is out of sight as it is
   have f2v:Frm P1 φ1 H1 P2 φ2 H':=by
    refine ⟨fun a h=>⟨(f2.ext a h).1,?_⟩,f2.new,fun a h n z=>?_,fun a h=>f2.pn a h,fun a h=>?_,fun a o u h=>?_⟩
    ·have ne:a ≠ p:=fun e=>s1.dom a h (by rw [e];exact hp)
     rw [<- bp (H:=H') ne];exact (f2.ext a h).2
    ·have ne:a ≠ p:=fun e=>h (by rw [e];exact hp)
     rw [<- bp (H:=H') ne];exact f2.keep a h n z
    ·have ne:a ≠ p:=fun e=>h (by rw [e];exact hp)
     rw [<- bp (H:=H') ne];exact f2.sm a h
    ·have ne:a ≠ p:=a8 h hp
     rw [<- bp (H:=H') ne];exact f2.fz a o u h
   rcases yO i q.1.GH.length with hi | hi
   ·right
    rw [List.drop_eq_getElem_cons hi] at eg;simp only [k8] at eg;split at eg
    ·rename_i hgd
     obtain ⟨go,yl⟩:=ij.go P2 φ2 H' st2 i _ f2v s2v hgd (zF hi);refine ⟨go,fun x H3 hy=>?_⟩;obtain ⟨P3,f3,s3,r3⟩:=yl x H3 hy;obtain ⟨q4,e4,e5⟩:=zA eg;obtain ⟨q6,e6,e7⟩:=zA e5;obtain ⟨kl,kj⟩:=hk _ _ _ _ _ e4;refine ⟨P3,φ2,sl++List.replicate k none,st2,q.1.GH[i],rs2v.frm f3,s3,r3,q4.1,q4.2,e4,fun P4 φ4 H4 σ4 f4 s4 rs4=>⟨P4,φ4,q4.1,q4.2,rs4,s4,q6.1,q6.2,e6,fun P5 φ5 H5 c f5 s5 r5=>?_⟩⟩;cases r5;have f35:=(f3.trans f4).trans f5;have back:∀ {P6:Pr}{φ6:List Addr}{H6:Hp},Frm P5 φ5 H5 P6 φ6 H6->GL mg P6 H6 φ6 (sl++List.replicate k none) σ4:=fun f6=>((rs4.frm f5).frm f6).back kl fun j hj=>kj j oM
     cases hc:q6.1 with
     | true =>
      rw [hc] at e7;simp only [if_true] at e7 ⊢;obtain ⟨q8,e8,e9⟩:=zA e7;obtain ⟨z,e10,e11⟩:=zE.mp e9;cases e11;refine ⟨P5,φ5,q4.1,q6.2,rs4.frm f5,s5,q8.1,q8.2,e8,fun P6 φ6 H6 y f6 s6 r6=>?_⟩;obtain ⟨fh,sh,exh,hpe⟩:=Frm.hd s2 ⟨_,hv⟩ (f35.trans f6) s6;refine ⟨vs,by rw [hpe];exact hv,?_,q.1.GH.length - (i + 1),by omega,rfl,hi,P6,φ6,q8.2,xs++[q8.1],vs++[y],z.1,?_⟩
      ·rw [<- rx.length]
       have h1:=zS hz;have h2:(1000000:Nat) < sizeLine:=by decide
       omega
      ·have eh:hid (am H6 p (.lst (vs++[y]))) p=hid H6 p:=oj
       rw [eh];refine ⟨f2.trans fh,sh,?_,aE,(rx.frm fh).app (bc (r6.mono exh fun _ _ z=>z) bv),by rw [zV];simp;omega,e10,by rw [eo,yJ];rfl⟩
       have:=back f6
       exact ⟨this.1,fun i v e=>let ⟨w,e',r⟩:=this.2 i v e;⟨w,e',r.mono exh fun _ _ z=>z⟩⟩
     | false =>
      rw [hc] at e7;simp only [z6,if_false] at e7 ⊢;obtain ⟨fh,sh,exh,hpe⟩:=Frm.hd s2 ⟨_,hv⟩ f35 s5;refine ⟨q.1.GH.length - (i + 1),by omega,rfl,hi,P5,φ5,q6.2,xs,vs,zs,f2.trans fh,sh,?_,by rw [hpe];exact hv,rx.frm fh,by omega,e7,eo⟩
      have:=back Frm.refl
      exact ⟨this.1,fun i v e=>let ⟨w,e',r⟩:=this.2 i v e;⟨w,e',r.mono exh fun _ _ z=>z⟩⟩
    ·cases eg
   ·left
    have ei:i=q.1.GH.length:=Nat.le_antisymm hle hi;subst ei;rw [List.drop_length] at eg;simp only [k8] at eg;split at eg
    ·rename_i hgd
     cases eg;refine ⟨ij.stop P2 φ2 H' _ f2v s2v hgd,?_⟩
     have:=kk P2 φ2 (hid H' p) p vs (f1.trans f2) s2 cH (by rw [eo,List.append_nil];exact rx)
     rw [vJ hv] at this;exact this
    ·cases eg
 ·cases e2
def sd [GG] (X:Cx) (ifs:List Expr) (t:TF):Prop:=oH X ifs (rT X.gm t)
section
variable {X:Cx}{elt iter tg:Expr}{ifs:List Expr}{N':List Str}{scope:Scope}{pos:Pos}{it:IF}{g:GF}{t:TF}{f:EF}
theorem v3 [GG]:sd X [] Dn:=fun GD s σ H Q I ⟨P,φ,sl,st,rs,sm,k⟩=>wn GD s σ H Q I (k.pure sm rfl)
theorem v2 [GG] (h:QT X e t):sd X [e] t:=wm h
theorem Bw {e:Expr}{t t':TE} (h:PE X e t) (i:∀ σ H Q,σ.length=X.N.length->t' σ H Q->t σ H Q):PE X e t':=fun GD s σ H Q I h'=>h GD s σ H Q I (i σ H Q I.len h')
theorem Bu {st:Stmt}{t t':TS} (h:PS X st t) (i:∀ D σ H,σ.length=X.N.length->t' D σ H->t D σ H):PS X st t':=fun GD s σ H D I h'=>h GD s σ H D I (i D σ H I.len h')
theorem BY [GG] (hc:X.calm=true) (T:iq X N' scope) (hi:QI X tg iter it) (hg:∀ cl s H fp GD,QG (b0 X N' scope cl s H fp GD) tg g) (ht:∀ cl s H fp GD,sd (b0 X N' scope cl s H fp GD) ifs t)
  (he:∀ cl s H fp GD,QE (b0 X N' scope cl s H fp GD) elt f) (hk:lQ X.N.length g) (hs:∀ x,foldedSetIterable iter X.env x=pure x):QN X (.ListComp elt [⟨tg,iter,ifs,0⟩] scope pos) (u0 (N'.length - X.N.length) it g t f) :=
 Bw (Ch (g:=rG X.gm g) (tt:=rT X.gm t) (te:=rE X.gm f) hc T hi (fun cl s H fp GD=>hg cl s H fp GD) (fun cl s H fp GD=>ht cl s H fp GD) (fun cl s H fp GD=>he cl s H fp GD) hs) fun σ H Q hl h=>AC hk hl h
end
inductive Out where
 | nx (sl:Sl) (st:aa) | rt (v:AV) (st:aa) | bk (sl:Sl) (st:aa) | ct (sl:Sl) (st:aa)
abbrev SF:=Sl->aa->Option Out
def ThO [GG] (mg:Gm) (P:Pr) (φ:List Addr) (H:Hp) (D:fW):Out->Prop
 | .nx sl st=>∀ P' φ' H' σ',Frm P φ H P' φ' H'->Sim mg P' φ' st H'->GL mg P' H' φ' sl σ'->D.nx σ' H'
 | .bk sl st=>∀ P' φ' H' σ',Frm P φ H P' φ' H'->Sim mg P' φ' st H'->GL mg P' H' φ' sl σ'->D.bk σ' H'
 | .ct sl st=>∀ P' φ' H' σ',Frm P φ H P' φ' H'->Sim mg P' φ' st H'->GL mg P' H' φ' sl σ'->D.ct σ' H'
 | .rt v st=>∀ P' φ' H' w,Frm P φ H P' φ' H'->Sim mg P' φ' st H'->RA mg P' H' φ' v w->D.rt w H'
def KO [GG] (mg:Gm) (P:Pr) (φ:List Addr) (H:Hp) (r:Option Out) (D:fW):Prop:=∃ o,r=some o/\ThO mg P φ H D o
def rS [GG] (mg:Gm) (f:SF):TS:=fun D σ H=>∃ P φ sl st,GL mg P H φ sl σ/\Sim mg P φ st H/\KO mg P φ H (f sl st) D
def QS [GG] (X:Cx) (st:Stmt) (f:SF):Prop:=PS X st (rS X.gm f)
def ip [GG] (X:Cx) (sts:List Stmt) (f:SF):Prop:=PSs X sts (rS X.gm f)
theorem ThO.frm [GG] (h:ThO mg P φ H D o) (f:Frm P φ H P1 φ1 H1):ThO mg P1 φ1 H1 D o:=by
 cases o with
 | nx sl st=>exact fun P' φ' H' σ' f'=>h P' φ' H' σ' (f.trans f')
 | bk sl st=>exact fun P' φ' H' σ' f'=>h P' φ' H' σ' (f.trans f')
 | ct sl st=>exact fun P' φ' H' σ' f'=>h P' φ' H' σ' (f.trans f')
 | rt v st=>exact fun P' φ' H' σ' f'=>h P' φ' H' σ' (f.trans f')
theorem KO.bindE [GG] {α β:Type}{Ra:Gm->Pr->Hp->List Addr->α->β->Prop}{m:Option (α × aa)}{k:α × aa->Option Out} (h:KO mg P φ H (m.bind k) D) :
  KG mg Ra P φ H m fun b H1=>∃ P1 φ1 st1 a,Frm P φ H P1 φ1 H1/\Sim mg P1 φ1 st1 H1/\Ra mg P1 H1 φ1 a b/\KO mg P1 φ1 H1 (k (a,st1)) D:=by
 obtain ⟨o,e,q⟩:=h;cases m with
 | none=>cases e
 | some p=>exact ⟨p.1,p.2,rfl,fun P1 φ1 H1 b f s r=>⟨P1,φ1,p.2,p.1,f,s,r,o,e,q.frm f⟩⟩
theorem KO.nx [GG] {mg:Gm}{P:Pr}{φ:List Addr}{H:Hp}{sl:Sl}{st:aa}{D:fW}{σ:St} (h:KO mg P φ H (some (.nx sl st)) D) (s:Sim mg P φ st H) (r:GL mg P H φ sl σ):D.nx σ H:=by
 obtain ⟨o,e,q⟩:=h;cases e;exact q P φ H σ Frm.refl s r
theorem KO.no [GG] (h:KO mg P φ H none D):False:=by obtain ⟨_,e,_⟩:=h;cases e
section
variable {X:Cx}{st:Stmt}{rest:List Stmt}{e c tg:Expr}{pos:Pos}{s t:SF}{f:EF}{g:GF}{b:TF}
def Dv:SF:=fun sl st=>some (.nx sl st)
def Dt (s t:SF):SF:=fun sl st=>(s sl st).bind fun o=>match o with
 | .nx sl st=>t sl st
 | o=>some o
theorem vV [GG]:ip X [] Dv:=PSs_imp wc fun D σ H ⟨P,φ,sl,st,rs,s,k⟩=>k.nx s rs
theorem tf [GG] (h1:QS X st s) (h2:ip X rest t):ip X (st::rest) (Dt s t):=PSs_imp (tD h1 h2) fun D σ H hq0=>by
 obtain ⟨P,φ,sl,st,rs,sm,o,e,q⟩:=hq0;obtain ⟨o1,e1,e2⟩:=zA e;refine ⟨P,φ,sl,st,rs,sm,o1,e1,?_⟩;cases o1 with
 | nx sl1 st1=>exact fun P' φ' H' σ' f' s' rs'=>⟨P',φ',sl1,st1,rs',s',o,e2,q.frm f'⟩
 | bk sl1 st1=>cases e2;exact q
 | ct sl1 st1=>cases e2;exact q
 | rt v st1=>cases e2;exact q
def uN:SF:=fun _ _=>none
theorem vY [GG]:QS X st uN:=PS_imp tF fun D σ H ⟨P,φ,sl,st,rs,s,k⟩=>k.no
theorem td [GG]:ip X sts uN:=PSs_imp qo fun D σ H ⟨P,φ,sl,st,rs,s,k⟩=>k.no
def Dy (f:EF):SF:=fun sl st=>(f sl st).bind fun p=>some (.nx sl p.2)
theorem vX [GG] (he:QE X e f) (hs:swapsWith e none pos.line X.env=pure false):QS X (.Expr e pos) (Dy f):=PS_imp (we he hs) fun D σ H ⟨P,φ,sl,st,rs,s,k⟩=>⟨P,φ,sl,st,rs,s,by
 obtain ⟨a,st',e1,q⟩:=k.bindE (Ra:=RA);refine ⟨a,st',e1,fun P1 φ1 H1 w f1 s1 r1=>?_⟩;obtain ⟨P2,φ2,st2,x,f2,s2,r2,k2⟩:=q P1 φ1 H1 w f1 s1 r1;exact k2.nx s2 (rs.frm f2)⟩
def Du (f:EF):SF:=fun sl st=>(f sl st).bind fun p=>some (.rt p.1 p.2)
theorem yh [GG] (he:QE X e f):QS X (.Return (some e) pos) (Du f):=PS_imp (yY he) fun D σ H ⟨P,φ,sl,st,rs,s,k⟩=>⟨P,φ,sl,st,rs,s,by
 obtain ⟨a,st',e1,q⟩:=k.bindE (Ra:=RA);refine ⟨a,st',e1,fun P1 φ1 H1 w f1 s1 r1=>?_⟩;obtain ⟨P2,φ2,st2,x,f2,s2,r2,o,eo,q2⟩:=q P1 φ1 H1 w f1 s1 r1;cases eo;exact q2 P2 φ2 H1 w Frm.refl s2 r2⟩
def Dw (b:TF) (s t:SF):SF:=fun sl st=>(b sl st).bind fun p=>if p.1=true then s sl p.2 else t sl p.2
theorem BW [GG] (hc:QT X c b) (ha:ip X x s) (hb:ip X y t):QS X (.If c x y pos) (Dw b s t):=PS_imp (Cc hc ha hb) fun D σ H ⟨P,φ,sl,st,rs,sm,k⟩=>⟨P,φ,sl,st,rs,sm,by
 obtain ⟨a,st',e1,q⟩:=k.bindE (Ra:=RB);refine ⟨a,st',e1,fun P1 φ1 H1 w f1 s1 r1=>?_⟩;obtain ⟨P2,φ2,st2,x,f2,s2,r2,k2⟩:=q P1 φ1 H1 w f1 s1 r1;cases r2;cases w with
 | true=>exact ⟨P2,φ2,sl,st2,rs.frm f2,s2,k2⟩
 | false=>exact ⟨P2,φ2,sl,st2,rs.frm f2,s2,k2⟩⟩
def qf (f:EF) (g:GF):SF:=fun sl st=>(f sl st).bind fun p=>(g p.1 sl p.2).bind fun q=>some (.nx q.1 q.2)
theorem pM [GG] (h:rS mg (qf f g) D σ H):oT (rE mg f) (rG mg g) D σ H:=by
 obtain ⟨P,φ,sl,st,rs,s,o,e,q⟩:=h;obtain ⟨p,e1,e2⟩:=zA e;obtain ⟨r,e3,e4⟩:=zA e2;cases e4;exact ⟨P,φ,sl,st,rs,s,p.1,p.2,e1,fun P1 φ1 H1 w f1 s1 r1=>⟨P1,φ1,sl,p.2,p.1,rs.frm f1,s1,r1,r.1,r.2,e3,fun P2 φ2 H2 σ2 f2 s2 rs2=>q P2 φ2 H2 σ2 (f1.trans f2) s2 rs2⟩⟩
theorem qk [GG] (he:QE X e f) (hg:QG X tg g) (hs:swapsWithSole [tg] e pos.line X.env=pure false) (hw:swappedStores [tg] e X.env=pure none) (h1:(assignEach [tg] X.env).map (·.2)=[assign tg X.env]):QS X (.Assign [tg] e pos) (qf f g) :=
 PS_imp (y0 he hg hs hw h1) fun D σ H h=>pM h
theorem Am [GG] {i:Nat} (h:rG mg (rj i) v σ H Q):jW i v σ H Q:=by
 obtain ⟨P,φ,sl,st,x,rs,s,rx,k⟩:=h;exact k.pure s (rs.set rx i)
theorem qj [GG] {i:Nat} (hN:X.N.Nodup) (hi:X.N[i]?=some x) (hx:Loc X.env.scope x) (he:QE X e f) (hs:swapsWith e (some (.Name x pos')) pos.line X.env=pure false) (hf:X.fn x=true\/X.env.scope.names.lookup x=some .local) :
  QS X (.Assign [.Name x pos'] e pos) (qf f (rj i)):=PS_imp (yX hN hi hx he hs hf) fun D σ H h=>by
 obtain ⟨P,φ,sl,st,rs,s,p1,p2,e1,k⟩:=pM h;exact ⟨P,φ,sl,st,rs,s,p1,p2,e1,fun P1 φ1 H1 w f1 s1 r1=>Am (k P1 φ1 H1 w f1 s1 r1)⟩
def vt (m:Bool) (f:NF):EF:=if m=true then FL f else FM f
theorem Aj [GG] {mg:Gm}{m:Bool}{f:NF}{σ:St}{H:Hp}{Q:VK} (h:rE mg (vt m f) σ H Q):rN mg f σ H Q:=by
 obtain ⟨P,φ,sl,st,rs,s,v,st',ev,k⟩:=h;cases m with
 | true =>
  obtain ⟨q,e1,e2⟩:=zA ev;cases e2;refine ⟨P,φ,sl,st,rs,s,q.1,q.2,e1,fun P1 φ1 H1 p vs f1 s1 hp r1=>?_⟩;obtain ⟨f3,s3,r3⟩:=An s1 hp r1;exact k P1 _ _ _ (f1.trans f3) s3 r3
 | false =>
  obtain ⟨q,e1,e2⟩:=zA ev;split at e2
  ·rename_i hr
   cases e2;refine ⟨P,φ,sl,st,rs,s,q.1,q.2,e1,fun P1 φ1 H1 p vs f1 s1 hp r1=>?_⟩;obtain ⟨P3,f3,s3,r3⟩:=A0 s1 hp hr r1;exact k P3 φ1 _ _ (f1.trans f3) s3 r3
  ·cases e2
theorem B5 [GG] {m:Bool}{f:NF} (h:QN X e f):QE X e (vt m f):=PE_imp h fun _ _ _ q=>Aj q
theorem qi [GG] {i:Nat}{y:Str}{py:Pos}{elt iter tg:Expr}{ifs:List Expr}{N':List Str}{scope:Scope}{pos spos:Pos}{it:IF}{g:GF}{t:TF}{f:EF}{m:Bool} (hN:X.N.Nodup) (hiN:X.N[i]?=some y) (hx:Loc X.env.scope y)
  (hsw:swapsWith (.ListComp elt [⟨tg,iter,ifs,0⟩] scope pos) (some (.Name y py)) spos.line X.env=pure true)
  (hc:X.calm=true) (T:iq X N' scope) (hi:QI X tg iter it) (hg:∀ cl s H fp GD,QG (b0 X N' scope cl s H fp GD) tg g) (ht:∀ cl s H fp GD,sd (b0 X N' scope cl s H fp GD) ifs t)
  (he:∀ cl s H fp GD,QE (b0 X N' scope cl s H fp GD) elt f) (hk:lQ X.N.length g) (hs:∀ x,foldedSetIterable iter X.env x=pure x) (hf:X.fn y=true\/X.env.scope.names.lookup y=some .local) :
  QS X (.Assign [.Name y py] (.ListComp elt [⟨tg,iter,ifs,0⟩] scope pos) spos) (qf (vt m (u0 (N'.length - X.N.length) it g t f)) (rj i)) :=
 Bu (qp (g:=rG X.gm g) (tt:=rT X.gm t) (te:=rE X.gm f) hN hiN hx hsw hc T hi (fun cl s H fp GD=>hg cl s H fp GD) (fun cl s H fp GD=>ht cl s H fp GD) (fun cl s H fp GD=>he cl s H fp GD) hs hf) fun D σ H hl h=>by
  obtain ⟨P,φ,sl,st,rs,s,p1,p2,e1,k⟩:=pM h;exact AC hk hl (Aj (m:=m) ⟨P,φ,sl,st,rs,s,p1,p2,e1,fun P1 φ1 H1 w f1 s1 r1=>Am (k P1 φ1 H1 w f1 s1 r1)⟩)
end
def cJ (gd:Gd) (g:GF) (s:SF):List AV->Sl->aa->Option Out
 | [],sl,st=>if bW gd st=true then some (.nx sl st) else none
 | x::xs,sl,st=>if bW gd st=true then (g x sl st).bind fun p=>(s p.1 p.2).bind fun o=>match o with
  | .nx sl st=>cJ gd g s xs sl st
  | .ct sl st=>cJ gd g s xs sl st
  | .bk sl st=>some (.nx sl st)
  | .rt v st=>some (.rt v st) else none
def Dx (it:IF) (g:GF) (s:SF):SF:=fun sl st=>(it sl st).bind fun p=>cJ p.1.gd g s p.1.GH sl p.2
def gV (t:TF) (s:SF):Nat->Sl->aa->Option Out
 | 0,_,_=>none
 | n + 1,sl,st=>(t sl st).bind fun p=>if p.1=true then (s sl p.2).bind fun o=>match o with
  | .nx sl st=>gV t s n sl st
  | .ct sl st=>gV t s n sl st
  | .bk sl st=>some (.nx sl st)
  | .rt v st=>some (.rt v st) else some (.nx sl p.2)
open Classical in
def qe (t:TF) (s:SF):SF:=fun sl st=>if h:∃ n,(gV t s n sl st).isSome=true then gV t s (Classical.choose h) sl st else none
theorem Ag {t:TF}{s:SF}{sl:Sl}{st:aa}{o:Out} (h:qe t s sl st=some o):∃ n,gV t s n sl st=some o:=by
 unfold qe at h;split at h
 ·exact ⟨_,h⟩
 ·cases h
section
variable {X:Cx}{tg iter c:Expr}{body:List Stmt}{pos:Pos}{it:IF}{g:GF}{s:SF}{t:TF}
theorem yi [GG] (hp:PassesOwn (model X.prog X.w) X.A X.env X.xe) (hc:X.calm=true) (hi:QI X tg iter it) (hg:QG X tg g) (hb:ip X body s) (hs:∀ x,foldedSetIterable iter X.env x=pure x):QS X (.For tg iter body [] pos) (Dx it g s) :=
 PS_imp (qq hp hc hi hg hb hs) fun D σ H hq0=>by
  obtain ⟨P,φ,sl,st,rs,sm,o,e,q⟩:=hq0;obtain ⟨p,e1,e2⟩:=zA e;refine ⟨P,φ,sl,st,rs,sm,p.1,p.2,e1,fun P1 φ1 H1 J f1 s1 ij=>?_⟩;have q1:=q.frm f1;refine ⟨fun i m σ' H'=>m=p.1.GH.length - i/\i <= p.1.GH.length/\∃ P' φ' sl' st',Frm P1 φ1 H1 P' φ' H'/\Sim X.gm P' φ' st' H'/\GL X.gm P' H' φ' sl' σ'/\cJ p.1.gd g s (p.1.GH.drop i) sl' st'=some o,⟨_,rfl,Nat.zero_le _,P1,φ1,sl,p.2,Frm.refl,s1,rs.frm f1,by simpa using e2⟩,?_⟩;rintro i m σ' H' ⟨rfl,hle,P2,φ2,sl2,st2,f2,s2,rs2,eg⟩;rcases yO i p.1.GH.length with hlt | hge
  ·right
   rw [List.drop_eq_getElem_cons hlt] at eg;simp only [cJ] at eg;split at eg
   ·rename_i hgd
    obtain ⟨go,yl⟩:=ij.go P2 φ2 H' st2 i _ f2 s2 hgd (zF hlt);obtain ⟨q4,e4,e5⟩:=zA eg;obtain ⟨o1,e6,e7⟩:=zA e5;refine ⟨go,fun σ' H'=>∃ P' φ' sl' st',Frm P1 φ1 H1 P' φ' H'/\Sim X.gm P' φ' st' H'/\GL X.gm P' H' φ' sl' σ'/\cJ p.1.gd g s (p.1.GH.drop (i + 1)) sl' st'=some o,fun σ' H' z=>⟨_,by omega,rfl,hlt,z⟩,fun x H3 hy=>?_⟩;obtain ⟨P3,f3,s3,r3⟩:=yl x H3 hy;refine ⟨P3,φ2,sl2,st2,_,rs2.frm f3,s3,r3,q4.1,q4.2,e4,fun P4 φ4 H4 σ4 f4 s4 rs4=>⟨P4,φ4,q4.1,q4.2,rs4,s4,o1,e6,?_⟩⟩;have fa:=(f2.trans f3).trans f4;cases o1 with
    | nx sl5 st5=>exact fun P5 φ5 H5 σ5 f5 s5 rs5=>⟨P5,φ5,sl5,st5,fa.trans f5,s5,rs5,e7⟩
    | ct sl5 st5=>exact fun P5 φ5 H5 σ5 f5 s5 rs5=>⟨P5,φ5,sl5,st5,fa.trans f5,s5,rs5,e7⟩
    | bk sl5 st5=>cases e7;exact fun P5 φ5 H5 σ5 f5 s5 rs5=>q1 P5 φ5 H5 σ5 (fa.trans f5) s5 rs5
    | rt v st5=>cases e7;exact fun P5 φ5 H5 w f5 s5 r5=>q1 P5 φ5 H5 w (fa.trans f5) s5 r5
   ·cases eg
  ·left
   have ei:i=p.1.GH.length:=Nat.le_antisymm hle hge;subst ei;rw [List.drop_length] at eg;simp only [cJ] at eg;split at eg
   ·rename_i hgd
    cases eg;exact ⟨ij.stop P2 φ2 H' _ f2 s2 hgd,q1 P2 φ2 H' σ' f2 s2 rs2⟩
   ·cases eg
theorem tj [GG] (hp:PassesOwn (model X.prog X.w) X.A X.env X.xe) (hc:QT X c t) (hb:ip X body s):QS X (.While c body [] pos) (qe t s) :=
 PS_imp (tE hp hc hb) fun D σ H hq0=>by
  obtain ⟨P,φ,sl,st,rs,sm,o,e,q⟩:=hq0;obtain ⟨n0,e0⟩:=Ag e;refine ⟨fun m σ' H'=>∃ P' φ' sl' st',Frm P φ H P' φ' H'/\Sim X.gm P' φ' st' H'/\GL X.gm P' H' φ' sl' σ'/\gV t s m sl' st'=some o,⟨n0,P,φ,sl,st,Frm.refl,sm,rs,e0⟩,?_⟩;rintro m σ' H' ⟨P2,φ2,sl2,st2,f2,s2,rs2,eg⟩;cases m with
  | zero=>cases eg
  | succ m =>
   simp only [gV] at eg;obtain ⟨p,e1,e2⟩:=zA eg;refine ⟨P2,φ2,sl2,st2,rs2,s2,p.1,p.2,e1,fun P3 φ3 H3 b f3 s3 r3=>?_⟩;cases r3;cases hb':p.1 with
   | true =>
    rw [hb'] at e2;simp only [if_true] at e2 ⊢;obtain ⟨o1,e6,e7⟩:=zA e2;refine ⟨fun σ' H'=>∃ P' φ' sl' st',Frm P φ H P' φ' H'/\Sim X.gm P' φ' st' H'/\GL X.gm P' H' φ' sl' σ'/\gV t s m sl' st'=some o,fun σ' H' z=>⟨m,Nat.lt_succ_self m,z⟩,P3,φ3,sl2,p.2,rs2.frm f3,s3,o1,e6,?_⟩;have fa:=f2.trans f3;cases o1 with
    | nx sl5 st5=>exact fun P5 φ5 H5 σ5 f5 s5 rs5=>⟨P5,φ5,sl5,st5,fa.trans f5,s5,rs5,e7⟩
    | ct sl5 st5=>exact fun P5 φ5 H5 σ5 f5 s5 rs5=>⟨P5,φ5,sl5,st5,fa.trans f5,s5,rs5,e7⟩
    | bk sl5 st5=>cases e7;exact fun P5 φ5 H5 σ5 f5 s5 rs5=>q P5 φ5 H5 σ5 (fa.trans f5) s5 rs5
    | rt v st5=>cases e7;exact fun P5 φ5 H5 w f5 s5 r5=>q P5 φ5 H5 w (fa.trans f5) s5 r5
   | false =>
    rw [hb'] at e2;simp only [z6,if_false] at e2 ⊢;cases e2;exact q P3 φ3 H3 σ' (f2.trans f3) s3 (rs2.frm f3)
end
abbrev Fn:=List AV->aa->Option (AV × aa)
def cP [GG] (mg:Gm) (n:Nat) (fn:Fn):Sp:=fun vs H Q _=>vs.length=n/\∃ P φ args st,GI mg P H φ args vs/\Sim mg P φ st H/\KG mg RA P φ H (fn args st) Q
def bz:Nat->aa->AV->Option AV
 | n + 1,st,.ref k=>match st[k]? with
  | some (.lst xs)=>(aM (bz n st) xs).map .fz
  | some (.al t)=>some t
  | _=>none
 | n + 1,st,.tup xs=>(aM (bz n st) xs).map .tup
 | 0,_,.ref _=>none
 | 0,_,.tup _=>none
 | _,_,t=>some t
def fY:aa->AV->Option AV:=bz 6
mutual
noncomputable def dt:AV->Bool
 | .ref _=>false
 | .fz _=>false
 | .tup xs=>lN xs
 | _=>true
noncomputable def lN:List AV->Bool
 | []=>true
 | x::xs=>dt x && lN xs
end
def A2 (st:aa) (x:AV):Option (AV × aa):=if rf x=true then some (x,st) else match x with
 | .ref k=>match st[k]? with
  | some (.lst xs)=>if rfs xs=true then some (.fz xs,st.set k (.al (.fz xs))) else none
  | some (.al t)=>some (t,st)
  | _=>none
 | _=>none
def vg:aa->List AV->Option (List AV × aa)
 | st,[]=>some ([],st)
 | st,x::xs=>(A2 st x).bind fun p=>(vg p.2 xs).map fun q=>(p.1::q.1,q.2)
def pm (fn:Fn):Fn:=fun args st=>if rfs args=true then (fn args []).bind fun p=>(fY p.2 p.1).map fun t=>(t,st)
 else (aM (fY st) args).bind fun ts=>(fn ts []).bind fun p=>(fY p.2 p.1).bind fun t=>if dt t=true then some (t,st) else
  (vg st args).bind fun q=>(fn q.1 []).bind fun p=>(fY p.2 p.1).map fun t=>(t,q.2)
section
variable {mg:Gm}{P:Pr}{φ:List Addr}{st:aa}{H:Hp}
theorem sT [GG] {n:Nat} (ih:∀ v w t,bz n st v=some t->RA mg P H φ v w->RA mg P' H [] t w):∀ {xs:List AV}{vs:List V}{ts:List AV},aM (bz n st) xs=some ts->GI mg P H φ xs vs->GI mg P' H [] ts vs:=by
 intro xs
 induction xs with
 | nil=>intro vs ts e r;cases e;simp only [GI] at r ⊢;exact r
 | cons x xs ihx =>
  intro vs ts e r;simp only [aM] at e;obtain ⟨y,e1,e2⟩:=zA e;obtain ⟨ys,e3,e4⟩:=zE.mp e2;subst e4;simp only [GI] at r;obtain ⟨v,ws,rfl,r1,r2⟩:=r;exact bc (ih x v y e1 r1) (ihx e3 r2)
theorem l6 [GG] (s:Sim mg P φ st H):∀ (n:Nat) (v:AV) (w:V) (t:AV),bz n st v=some t->RA mg P H φ v w->RA mg (fun a=>P a\/a ∈ φ) H [] t w:=by
 have ex:∀ a,P a->(P a\/a ∈ φ)/\H a=H a:=fun a h=>⟨.inl h,rfl⟩
 have pl:∀ {t:AV}{w:V},R.rf t=true->RA mg P H φ t w->RA mg (fun a=>P a\/a ∈ φ) H [] t w:=fun h r=>(RA.rf (ψ:=[]) h r).mono ex fun _ _ z=>z
 intro n
 induction n with
 | zero =>
  intro v w t e r;cases v <;> simp only [bz] at e <;> first | (cases e;done) | skip
  all_goals cases e;exact pl rfl r
 | succ n ih =>
  intro v w t e r;cases v with
  | ref k =>
   simp only [bz] at e;simp only [RA] at r;obtain ⟨a,ea,rfl⟩:=r;split at e
   ·rename_i xs hk
    obtain ⟨ts,e1,e2⟩:=zE.mp e;subst e2;obtain ⟨a',ea',c⟩:=s.at hk;rw [ea] at ea';cases ea';obtain ⟨_,vs,h1,h2⟩:=c;simp only [RA];exact ⟨a,vs,rfl,.inl ⟨.inr (zW ea),.inl h1⟩,sT ih e1 h2⟩
   ·rename_i t' hk
    cases e;obtain ⟨a',ea',c⟩:=s.at hk;rw [ea] at ea';cases ea';exact c.2.mono ex fun _ _ z=>z
   ·cases e
  | tup xs =>
   simp only [bz] at e;obtain ⟨ts,e1,e2⟩:=zE.mp e;subst e2;simp only [RA] at r;obtain ⟨a,vs,rfl,p,h1,h2⟩:=r;simp only [RA];exact ⟨a,vs,rfl,.inl p,h1,sT ih e1 h2⟩
  | _=>simp only [bz] at e;cases e;exact pl rfl r
mutual
theorem RA.fl [GG] (h:∀ a vs,P a->H a=some (.tup vs)->P' a):∀ {t:AV}{w:V},dt t=true->RA mg P H φ t w->RA mg P' H ψ t w
 | .non,_,_,r=>by simp only [RA] at r ⊢;exact r
 | .bl _,_,_,r=>by simp only [RA] at r ⊢;exact r
 | .int _,_,_,r=>by simp only [RA] at r ⊢;exact r
 | .str _,_,_,r=>by simp only [RA] at r ⊢;exact r
 | .ref _,_,e,_=>by simp only [dt] at e;cases e
 | .fz _,_,e,_=>by simp only [dt] at e;cases e
 | .tup xs,_,e,r=>by
  simp only [RA,dt] at r e ⊢;obtain ⟨a,vs,rfl,p,h1,h2⟩:=r;exact ⟨a,vs,rfl,h a vs p h1,h1,GI.fl h e h2⟩
theorem GI.fl [GG] (h:∀ a vs,P a->H a=some (.tup vs)->P' a):∀ {ts:List AV}{ws:List V},lN ts=true->GI mg P H φ ts ws->GI mg P' H ψ ts ws
 | [],_,_,r=>by simp only [GI] at r ⊢;exact r
 | t::ts,_,e,r=>by
  simp only [GI,lN,zC] at r e ⊢;obtain ⟨v,ws,rfl,r1,r2⟩:=r;exact ⟨v,ws,rfl,RA.fl h e.1 r1,GI.fl h e.2 r2⟩
end
theorem A1 [GG] (s:Sim mg P φ st H) (e:A2 st x=some (t,st')) (r:RA mg P H φ x v):∃ P',Frm P φ H P' φ H/\Sim mg P' φ st' H/\RA mg P' H [] t v:=by
 unfold A2 at e;split at e
 ·rename_i h
  cases e;exact ⟨P,Frm.refl,s,RA.rf h r⟩
 ·cases x with
  | ref k =>
   simp only [RA] at r;obtain ⟨a,ea,rfl⟩:=r;dsimp only at e;split at e
   ·rename_i xs hk
    split at e
    ·rename_i hr
     cases e;obtain ⟨a',ea',c⟩:=s.at hk;rw [ea] at ea';cases ea';obtain ⟨na,vs,h1,h2⟩:=c;have ex:∀ b,P b->(P b\/b=a)/\H b=H b:=fun b h=>⟨.inl h,rfl⟩
     have hm:=zW ea;have rr:RA mg (fun b=>P b\/b=a) H [] (.fz xs) (.ref a):=by
      simp only [RA];exact ⟨a,vs,rfl,.inl ⟨.inr rfl,.inl h1⟩,(GI.rf hr h2).mono ex fun _ _ z=>z⟩
     have dm:∀ b,(P b\/b=a)->H b ≠ none:=fun b h=>by
      rcases h with h | h
      ·exact s.dom b h
      ·rw [h];exact s.cd a hm
     refine ⟨fun b=>P b\/b=a,⟨ex,⟨[],by simp,by simp⟩,fun _ _ _ _=>rfl,fun b h=>?_,fun _ h=>h,fun _ _ _ h=>h⟩,⟨by rw [List.length_set];exact s.len,s.nd,dm,s.cd,fun j c b e1 e2=>?_,fun t ht=>⟨(s.tb t ht).1,fun z=>z.elim (s.tb t ht).2 fun z=>s.tnc ht (by rw [z];exact hm)⟩⟩,rr⟩
     ·rcases h with h | h
      ·exact .inl h
      ·exact .inr (.inr (by rw [h];exact hm))
     ·by_cases hj:j=k
      ·subst hj
       rw [ea] at e2;cases e2;rw [List.getElem?_set_self (by rw [<- s.len];exact (zB.mp ea).1)] at e1;cases e1;exact ⟨.inr rfl,rr⟩
      ·rw [List.getElem?_set_ne (Ne.symm hj)] at e1
       refine (s.cell j c b e1 e2).mono ex (fun _ _ z=>z) rfl fun n z=>?_
       rcases z with z | z
       ·exact n z
       ·refine hj ?_
        subst z;obtain ⟨h1,e1⟩:=zB.mp e2;obtain ⟨h2,e2⟩:=zB.mp ea;exact (List.getElem_inj s.nd).mp (e1.trans e2.symm)
    ·cases e
   ·rename_i t' hk
    cases e;obtain ⟨a',ea',c⟩:=s.at hk;rw [ea] at ea';cases ea';exact ⟨P,Frm.refl,s,c.2⟩
   ·cases e
  | _=>cases e
theorem AZ [GG]:∀ {xs ts:List AV}{st st':aa}{P:Pr}{vs:List V},Sim mg P φ st H->vg st xs=some (ts,st')->GI mg P H φ xs vs->∃ P',Frm P φ H P' φ H/\Sim mg P' φ st' H/\GI mg P' H [] ts vs:=by
 intro xs
 induction xs with
 | nil=>intro ts st st' P vs s e r;cases e;simp only [GI] at r;subst r;exact ⟨P,Frm.refl,s,bv⟩
 | cons x xs ih =>
  intro ts st st' P vs s e r;simp only [vg] at e;obtain ⟨p,e1,e2⟩:=zA e;obtain ⟨q,e3,e4⟩:=zE.mp e2;cases e4;simp only [GI] at r;obtain ⟨v,ws,rfl,r1,r2⟩:=r;obtain ⟨P1,f1,s1,q1⟩:=A1 s e1 r1;obtain ⟨P2,f2,s2,q2⟩:=ih s1 e3 (r2.frm f1);exact ⟨P2,f1.trans f2,s2,bc (q1.mono f2.ext fun _ _ z=>z) q2⟩
theorem DA [GG] {fn:Fn}{args:List AV}{vs:List V}{Q:VK} (s:Sim mg P φ st H) (r:GI mg P H [] args vs) (h:KG mg RA P φ H ((fn args []).bind fun p=>(fY p.2 p.1).map fun t=>(t,st)) Q):∃ P φ args st,GI mg P H φ args vs/\Sim mg P φ st H/\KG mg RA P φ H (fn args st) Q:=by
 obtain ⟨t,st',e,k⟩:=h;obtain ⟨p,e1,e2⟩:=zA e;obtain ⟨t',e3,e4⟩:=zE.mp e2;cases e4;refine ⟨P,[],args,[],r,Sim.nil s.dom s.tb,p.1,p.2,e1,fun P1 φ1 H1 w f1 s1 r1=>?_⟩;obtain ⟨m,em,nm⟩:=f1.new;have kp:∀ a,H a ≠ none->(∀ ps,H a ≠ some (.tbl ps))->H1 a=H a:=fun a h=>f1.keep a h (by simp)
 have kc:=s.ckeep (fun a h=>(f1.ext a h).2) kp;have nn:∀ a,(P1 a\/a ∈ φ1)->P a\/H a=none:=fun a h=>by
  rcases h with h | h
  ·rcases f1.pn a h with z | z | z
   ·exact .inl z
   ·exact .inr z
   ·cases z
  ·rw [em] at h;exact .inr (nm a h)
 refine k (fun a=>P1 a\/a ∈ φ1) φ H1 w ⟨fun a h=>⟨.inl (f1.ext a h).1,(f1.ext a h).2⟩,⟨[],by simp,by simp⟩,fun a h _ z=>kp a h z,fun a h=>?_,f1.sm,f1.fz⟩ (s.stay (fun a h=>⟨.inl (f1.ext a h).1,(f1.ext a h).2⟩) kc (fun a h n z=>?_) (fun a h=>?_) fun t ht=>⟨(s1.tb t ht).1,fun z=>z.elim (s1.tb t ht).2 (s1.tnc ht)⟩) (RA.lift (l6 s1 6 _ _ _ e3 r1))
 ·rcases nn a h with z | z
  ·exact .inl z
  ·exact .inr (.inl z)
 ·rcases nn a z with z | z
  ·exact n z
  ·exact s.cd a h z
 ·rcases h with h | h
  ·exact s1.dom a h
  ·exact s1.cd a h
theorem Cd [GG] {n:Nat} (h:cP mg n (pm fn) vs H Q E):cP mg n fn vs H Q E:=by
 obtain ⟨hl,P,φ,args,st,r,s,k⟩:=h;refine ⟨hl,?_⟩;unfold pm at k;split at k
 ·rename_i hr
  exact DA s (GI.rf hr r) k
 ·obtain ⟨t,st',e,k⟩:=k
  obtain ⟨ts,e1,e2⟩:=zA e;obtain ⟨p,e3,e4⟩:=zA e2;obtain ⟨t',e5,e6⟩:=zA e4;split at e6
  ·rename_i hf
   cases e6;have dm:∀ a,(P a\/a ∈ φ)->H a ≠ none:=fun a h=>by
    rcases h with h | h
    ·exact s.dom a h
    ·exact s.cd a h
   refine ⟨fun a=>P a\/a ∈ φ,[],ts,[],sT (fun v w t e r=>l6 s 6 v w t e r) e1 r,Sim.nil dm (fun t ht=>⟨(s.tb t ht).1,fun z=>z.elim (s.tb t ht).2 (s.tnc ht)⟩),p.1,p.2,e3,fun P1 φ1 H1 w f1 s1 r1=>?_⟩;obtain ⟨m,em,nm⟩:=f1.new;have kp:∀ a,H a ≠ none->(∀ ps,H a ≠ some (.tbl ps))->H1 a=H a:=fun a h=>f1.keep a h (by simp)
   have kc:=s.ckeep (fun a h=>(f1.ext a (.inl h)).2) kp;have ext:∀ a,P a->((P1 a\/a ∈ φ1)/\(a ∈ φ->P a))/\H1 a=H a:=fun a h=>⟨⟨.inl (f1.ext a (.inl h)).1,fun _=>h⟩,(f1.ext a (.inl h)).2⟩
   refine k (fun a=>(P1 a\/a ∈ φ1)/\(a ∈ φ->P a)) φ H1 w ⟨ext,⟨[],by simp,by simp⟩,fun a h _ z=>kp a h z,fun a h=>?_,f1.sm,f1.fz⟩ (s.stay ext kc (fun a h n z=>n (z.2 h)) (fun a h=>?_) fun t ht=>⟨(s1.tb t ht).1,fun z=>z.1.elim (s1.tb t ht).2 (s1.tnc ht)⟩) (RA.fl (fun a us hP hT=>⟨hP,fun hm=>?_⟩) hf (l6 s1 6 _ _ _ e5 r1))
   ·rcases h.1 with z | z
    ·rcases f1.pn a z with z | z | z
     ·rcases z with z | z
      ·exact .inl z
      ·exact .inr (.inr z)
     ·exact .inr (.inl z)
     ·cases z
    ·rw [em] at z;exact .inr (.inl (nm a z))
   ·rcases h.1 with h | h
    ·exact s1.dom a h
    ·exact s1.cd a h
   ·obtain ⟨j,hj⟩:=List.getElem?_of_mem hm
    obtain ⟨c,hc⟩:∃ c,st[j]?=some c:=⟨_,zF (by rw [<- s.len];exact (zB.mp hj).1)⟩;have cr:=s.cell j c a hc hj;have hT':H a=some (.tup us):=by rw [<- kc a hm];exact hT
    cases c with
    | lst xs=>obtain ⟨_,_,z,_⟩:=cr;rw [hT'] at z;cases z
    | al t=>exact cr.1
    | dK GE=>obtain ⟨_,_,z,_⟩:=cr;rw [hT'] at z;cases z
    | dT GE=>obtain ⟨_,_,z,_⟩:=cr;rw [hT'] at z;cases z
    | ins c fs=>obtain ⟨_,_,_,_,_,z,_⟩:=cr;rw [hT'] at z;cases z
    | wk GE=>obtain ⟨_,_,_,z,_⟩:=cr;rw [hT'] at z;cases z
  ·obtain ⟨q,e7,e8⟩:=zA e6
   obtain ⟨P1,f1,s1,r1⟩:=AZ s e7 r;exact DA s1 r1 ⟨t,st',e8,fun P2 φ2 H2 w f2 s2 r2=>k P2 φ2 H2 w (f1.trans f2) s2 r2⟩
end
theorem FnOk.pm [GG] {P:Program}{w:World}{K:Frag}{mg:Str->Option Value}{base:Heap}{k:Nat}{f:Addr}{fd:FuncData}{ps:List Str}{n:Nat}{fn:Fn} (F:FnOk P w K mg base de k f fd ps (cP ⟨K,mg⟩ n fn)):FnOk P w K mg base de k f fd ps (cP ⟨K,mg⟩ n (R.pm fn)) :=
 F.imp fun _ _ _ _ h=>Cd h
def run (n:Nat) (b:SF):Fn:=fun args st=>(b (args.map some++List.replicate (n - args.length) none) st).bind fun o=>match o with
 | .rt v st=>some (v,st)
 | .nx _ st=>some (.non,st)
 | _=>none
theorem vP [GG] (h:GI mg P H φ args vs):GL mg P H φ (args.map some++List.replicate (N.length - args.length) none) (L2.start N vs):=by
 have hl:=h.length;unfold L2.start;refine ⟨by simp [hl],fun i v e=>?_⟩;have hi:i < args.length:=by
  rcases yO i args.length with z | z
  ·exact z
  ·rw [z3 (by simpa using z),List.getElem?_replicate] at e
   split at e <;> cases e
 rw [zN (by simpa using hi),zR] at e;rw [zN (by rw [zH,<- hl];exact hi),zR];cases ha:args[i]? with
 | none=>rw [ha] at e;cases e
 | some x =>
  rw [ha] at e;cases e;obtain ⟨w,e1,r1⟩:=h.get ha;exact ⟨w,by rw [e1];rfl,r1⟩
def rW (fn:Fn) (g:AF):EF:=fun sl st=>(g sl st).bind fun p=>fn p.1 p.2
section
variable {X:Cx}{x:Str}{p pos:Pos}{e o:Expr}{es:List Expr}{k:Nat}{f:Addr}{fd:FuncData}{ps:List Str}{fn:Fn}{g:AF}{h:EF}
theorem Fb [GG] {n:Nat} (hn:∀ sl st xs st',g sl st=some (xs,st')->xs.length=n) (q:rE mg (rW fn g) σ H Q):oS (cP mg n fn) [] E (rA mg g) σ H Q:=by
 obtain ⟨P,φ,sl,st,rs,s,kk⟩:=q;refine ⟨P,φ,sl,st,rs,s,?_⟩;obtain ⟨a,st',e1,q⟩:=kk.bind (Ra:=GI);refine ⟨a,st',e1,fun P1 φ1 H1 b f1 s1 r1=>?_⟩;obtain ⟨P2,φ2,st2,xs,f2,s2,r2,k2⟩:=q P1 φ1 H1 b f1 s1 r1;rw [List.append_nil];exact ⟨by rw [<- r1.length];exact hn _ _ _ _ e1,P2,φ2,xs,st2,r2,s2,k2⟩
theorem v9 [GG] (F:FnOk X.prog X.w X.K X.mg X.base de k f fd ps (cP X.gm ps.length fn)) (hr:Room k X.A) (hg:Gl X x) (hm:X.mg x=some (.ref f)) (hk:keepIn X.K (.ref f)=true) (hb:Binds X.K fd ps [])
  (ha:QA X (e::es) g) (hn:∀ sl st xs st',g sl st=some (xs,st')->xs.length=ps.length) (hdb:(x == ("__debug__":Str))=false) (he:starEach (e::es) X.env=(false,eval e X.env)::starEach es X.env) (hpl:(backTo pos (starEach es X.env)).any (·.1)=false) :
  QE X (.Call (.Name x p) (e::es) [] pos) (rW fn g):=PE_imp (wz (E:=E0) F hr hg hm hk hb .nil jG ha hdb he hpl) fun _ _ _ q=>Fb hn q
theorem tw [GG] (F:FnOk X.prog X.w X.K X.mg X.base de k f fd ps (cP X.gm ps.length fn)) (hr:Room k X.A) (hg:Gl X x) (hm:X.mg x=some (.ref f)) (hk:keepIn X.K (.ref f)=true) (hb:Binds X.K fd ps [])
  (hn:ps.length=0) (hdb:(x == ("__debug__":Str))=false):QE X (.Call (.Name x p) [] [] pos) (rW fn dL):=PE_imp (tN (E:=E0) F hr hg hm hk hb .nil jG hdb) fun σ H Q q=>by
 obtain ⟨P,φ,sl,st,rs,s,kk⟩:=q;exact ⟨by simp [hn],P,φ,[],st,bv,s,kk⟩
def jr (st:aa) (c:Str):AV->Option (List (Str × AV))
 | .ref k=>match st[k]? with
  | some (.ins c' fs)=>if c'=c then some fs else none
  | _=>none
 | _=>none
theorem jO (h:KVR mg P H φ fs ws) (f:Str):(fs.lookup f=none->ws.lookup f=none)/\∀ v,fs.lookup f=some v->∃ w,ws.lookup f=some w/\RA mg P H φ v w:=by
 induction fs generalizing ws with
 | nil =>
  have:ws=[]:=by simpa using h.1.symm
  subst this;exact ⟨fun _=>rfl,fun v e=>by cases e⟩
 | cons p fs ih =>
  cases ws with
  | nil=>exact absurd h.1 (by simp)
  | cons q ws =>
   obtain ⟨h1,h2⟩:=h;rw [zO,zO] at h1 h2;injection h1 with h3 h4;simp only [GI] at h2;obtain ⟨v,vs,h5,h6,h7⟩:=h2;injection h5 with h8 h9;subst h8;subst h9;obtain ⟨a,b⟩:=p;obtain ⟨c,d⟩:=q;dsimp only at h3 h6;subst h3;rw [yK,yK];cases hb:f == a with
   | true=>exact ⟨fun z=>(by cases z),fun v z=>(by cases z;exact ⟨d,rfl,h6⟩)⟩
   | false=>exact ih ⟨h4,h7⟩
theorem jq [GG] {mg:Gm}{P:Pr}{φ:List Addr}{st:aa}{H:Hp}{c:Str}{v:AV}{w:V}{fs:List (Str × AV)} (s:Sim mg P φ st H) (h:jr st c v=some fs) (r:RA mg P H φ v w) :
  ∃ k a C dx ws,v=.ref k/\φ[k]?=some a/\¬ P a/\w=.ref a/\mg.mg c=some (.ref C)/\H a=some (.ins C dx ws)/\KVR mg P H φ fs ws:=by
 cases v with
 | ref k =>
  simp only [jr] at h;split at h
  ·rename_i c' fs' hk
   split at h
   ·rename_i hc
    cases h;subst hc;simp only [RA] at r;obtain ⟨a,ea,rfl⟩:=r;obtain ⟨a',ea',cr⟩:=s.at hk;rw [ea] at ea';cases ea';obtain ⟨na,C,dx,ws,h1,h2,h3⟩:=cr;exact ⟨k,a,C,dx,ws,rfl,ea,na,rfl,h1,h2,h3⟩
   ·cases h
  ·cases h
 | _=>cases h
def rV (c m:Str) (fn:Fn) (h:EF) (g:AF):EF:=fun sl st=>(h sl st).bind fun p=>(jr p.2 c p.1).bind fun fs=>if (fs.lookup m).isNone=true then (g sl p.2).bind fun q=>fn (p.1::q.1) q.2 else none
theorem At [GG] {n:Nat} (hC:mg.mg c=some (.ref C)) (hn:∀ sl st xs st',g sl st=some (xs,st')->xs.length + 1=n) (q:rE mg (rV c m fn h g) σ H Q):oR C m (cP mg n fn) [] E (rE mg h) (rA mg g) σ H Q:=by
 obtain ⟨P,φ,sl,st,rs,s,v,st',e,k⟩:=q;obtain ⟨p,e1,e2⟩:=zA e;obtain ⟨fs,e3,e4⟩:=zA e2;split at e4
 ·rename_i hm
  obtain ⟨q,e5,e6⟩:=zA e4;refine ⟨P,φ,sl,st,rs,s,p.1,p.2,e1,fun P1 φ1 H1 w f1 s1 r1=>?_⟩;obtain ⟨j,a,C',dx,ws,h1,h2,h3,rfl,h5,h6,h7⟩:=jq s1 e3 r1;rw [hC] at h5;cases h5;refine ⟨a,dx,ws,rfl,h6,(jO h7 m).1 (by simpa using hm),P1,φ1,sl,p.2,rs.frm f1,s1,q.1,q.2,e5,fun P2 φ2 H2 vs f2 s2 r2=>?_⟩;show cP mg n fn (V.ref a::(vs++[])) H2 Q E;rw [List.append_nil];exact ⟨by rw [yQ,<- r2.length];exact hn _ _ _ _ e5,P2,φ2,p.1::q.1,q.2,bc (r1.frm f2) r2,s2,v,st',e6,fun P3 φ3 H3 w3 f3 s3 r3=>k P3 φ3 H3 w3 ((f1.trans f2).trans f3) s3 r3⟩
 ·cases e4
theorem v7 [GG] (ho:QE X o h) (cl:Cls X.K C) (hC:X.mg c=some (.ref C)) (hm:gR X.K C m f) (F:FnOk X.prog X.w X.K X.mg X.base de k f fd ps (cP X.gm ps.length fn)) (hr:Room k X.A) (hb:Binds X.K fd ps [])
  (ha:QA X (e::es) g) (hn:∀ sl st xs st',g sl st=some (xs,st')->xs.length + 1=ps.length) (hst:starEach (e::es) X.env=(false,eval e X.env)::starEach es X.env) (hpl:(backTo pos (starEach es X.env)).any (·.1)=false)
  (ht:eval (.Call (.Attribute o m apos) (e::es) [] pos) X.env=(do
   let ov <- eval o X.env
   standAt apos.atName
   let (f,first) <- holding [ov] (getMethod ov m pl)
   callWith pos f first (backTo pos (starEach (e::es) X.env)) (backToKw pos (keywordEach [] X.env)))):QE X (.Call (.Attribute o m apos) (e::es) [] pos) (rV c m fn h g) :=
 PE_imp (wv (E:=E0) ho cl hm F hr hb .nil jG ha hst hpl ht) fun _ _ _ q=>At hC hn q
theorem tq [GG] (ho:QE X o h) (cl:Cls X.K C) (hC:X.mg c=some (.ref C)) (hm:gR X.K C m f) (F:FnOk X.prog X.w X.K X.mg X.base de k f fd ps (cP X.gm ps.length fn)) (hr:Room k X.A) (hb:Binds X.K fd ps [])
  (hn:ps.length=1)
  (ht:eval (.Call (.Attribute o m apos) [] [] pos) X.env=(do
   let ov <- eval o X.env
   standAt apos.atName
   let (f,first) <- holding [ov] (getMethod ov m pl)
   callWith pos f first (backTo pos (starEach [] X.env)) (backToKw pos (keywordEach [] X.env)))):QE X (.Call (.Attribute o m apos) [] [] pos) (rV c m fn h dL) :=
 PE_imp (tJ (E:=E0) ho cl hm F hr hb .nil jG ht) fun σ H Q q=>by
  obtain ⟨P,φ,sl,st,rs,s,v,st',e,k⟩:=At (E:=E0) (C:=C) hC (g:=dL) (n:=1) (fun sl st xs st' e=>by cases e;rfl) q;refine ⟨P,φ,sl,st,rs,s,v,st',e,fun P1 φ1 H1 w f1 s1 r1=>?_⟩;obtain ⟨a,dx,fs,h1,h2,h3,h4⟩:=k P1 φ1 H1 w f1 s1 r1;refine ⟨a,dx,fs,h1,h2,h3,?_⟩;obtain ⟨P2,φ2,sl2,st2,rs2,s2,xs,st3,e3,k3⟩:=h4;cases e3
  have:=k3 P2 φ2 H1 [] Frm.refl s2 bv
  rw [hn];exact this
def vx (c:Str) (fn:Fn) (g:AF):EF:=fun sl st=>(g sl st).bind fun p=>(fn (.ref p.2.length::p.1) (p.2++[.ins c []])).bind fun q=>match q.1 with
 | .non=>some (.ref p.2.length,q.2)
 | _=>none
theorem wL [GG] {mg:Gm}{P:Pr}{φ:List Addr}{st:aa}{H:Hp}{c:Str}{C x dx:Addr} (s:Sim mg P φ st H) (hC:mg.mg c=some (.ref C)) (hx:H x=none) (hd:H dx=none) (ne:dx ≠ x) :
  Frm P φ H P (φ++[x]) (am (am H dx (.own x)) x (.ins C dx []))/\Sim mg P (φ++[x]) (st++[.ins c []]) (am (am H dx (.own x)) x (.ins C dx [])):=by
 have nd:∀ a,H a ≠ none->a ≠ dx:=fun a h e=>h (by rw [e];exact hd)
 have f1:Frm P φ H P φ (am H dx (.own x)):=⟨fun a h=>⟨h,af (nd a (s.dom a h))⟩,⟨[],by simp,by simp⟩,fun a h _ _=>af (nd a h),fun a h=>.inl h,fun a h=>by rw [af (nd a h)];exact h,fun a o u h=>by rw [af (a8 h hd)];exact h⟩;have s1:Sim mg P φ st (am H dx (.own x)):=s.stay f1.ext (fun a h=>af (nd a (s.cd a h))) (fun _ _ h=>h) (fun a h=>f1.sm a (s.dom a h)) fun t ht=>⟨(s.tb t ht).1.new hd,(s.tb t ht).2⟩
 have hx1:am H dx (.own x) x=none:=by rw [af (Ne.symm ne)];exact hx
 obtain ⟨f2,s2⟩:=jm (c:=.ins c []) (o:=.ins C dx []) s1 hx1 ⟨fun z=>s1.dom x z hx1,C,dx,[],hC,aE,rfl,bv⟩;exact ⟨f1.trans f2,s2⟩
theorem EK [GG] {mg:Gm}{c:Str}{C:Addr}{n:Nat}{E:XK}{σ:St}{H:Hp}{Q:VK} (hC:mg.mg c=some (.ref C)) (hn:∀ sl st xs st',g sl st=some (xs,st')->xs.length + 1=n) (q:rE mg (vx c fn g) σ H Q):uL C (cP mg n fn) [] E (rA mg g) σ H Q:=by
 obtain ⟨P,φ,sl,st,rs,s,v,st',e,k⟩:=q;obtain ⟨p,e1,e2⟩:=zA e;obtain ⟨q,e3,e4⟩:=zA e2;refine ⟨P,φ,sl,st,rs,s,p.1,p.2,e1,fun P1 φ1 H1 vs f1 s1 r1=>fun x dx hx hd ne=>?_⟩;obtain ⟨f2,s2⟩:=wL s1 hC hx hd ne;have rx:RA mg P1 (am (am H1 dx (.own x)) x (.ins C dx [])) (φ1++[x]) (.ref p.2.length) (.ref x):=by simp only [RA];exact ⟨x,by rw [<- s1.len];simp,rfl⟩
 rw [List.append_nil];refine ⟨by rw [yQ,<- r1.length];exact hn _ _ _ _ e1,P1,φ1++[x],_,_,bc rx (r1.frm f2),s2,q.1,q.2,e3,fun P3 φ3 H3 w f3 s3 r3=>?_⟩;cases hq:q.1 with
 | non =>
  rw [hq] at e4 r3;cases e4;simp only [RA] at r3;exact ⟨r3,k P3 φ3 H3 (.ref x) ((f1.trans f2).trans f3) s3 (rx.frm f3)⟩
 | _=>rw [hq] at e4;cases e4
theorem yw [GG] (M:Mk X.K C f) (F:FnOk X.prog X.w X.K X.mg X.base de k f fd ps (cP X.gm ps.length fn)) (hr:Room (k + 1) X.A) (hg:Gl X c) (hm:X.mg c=some (.ref C)) (hb:Binds X.K fd ps [])
  (ha:QA X (e::es) g) (hn:∀ sl st xs st',g sl st=some (xs,st')->xs.length + 1=ps.length) (hdb:(c == ("__debug__":Str))=false) (he:starEach (e::es) X.env=(false,eval e X.env)::starEach es X.env) (hpl:(backTo pos (starEach es X.env)).any (·.1)=false) :
  QE X (.Call (.Name c p) (e::es) [] pos) (vx c fn g):=PE_imp (ww (E:=E0) M F hr hg hm hb .nil jG ha hdb he hpl) fun _ _ _ q=>EK hm hn q
def Ec (c fl:Str) (h:EF):EF:=fun sl st=>(h sl st).bind fun p=>(jr p.2 c p.1).bind fun fs=>(fs.lookup fl).map fun v=>(v,p.2)
theorem yx [GG] (ho:QE X o h) (cl:Cls X.K C) (hC:X.mg c=some (.ref C)) (na:NoAttr X.K C fl) (hb:attributeBase o fl X.env (eval o X.env)=eval o X.env):QE X (.Attribute o fl apos) (Ec c fl h) :=
 PE_imp (zo ho hb) fun σ H Q hq0=>by
  obtain ⟨P,φ,sl,st,rs,s,v,st',e,k⟩:=hq0;obtain ⟨p,e1,e2⟩:=zA e;obtain ⟨fs,e3,e4⟩:=zA e2;obtain ⟨t,e5,e6⟩:=zE.mp e4;cases e6;refine ⟨P,φ,sl,st,rs,s,p.1,p.2,e1,fun P1 φ1 H1 w f1 s1 r1=>?_⟩;obtain ⟨j,a,C',dx,ws,h1,h2,h3,rfl,h5,h6,h7⟩:=jq s1 e3 r1;have:C'=C:=by rw [show X.gm.mg c=X.mg c from rfl,hC] at h5;cases h5;rfl
  subst this;obtain ⟨w,hw,rw'⟩:=(jO h7 fl).2 _ e5;exact ⟨a,C',dx,ws,w,rfl,h6,cl,na,hw,k P1 φ1 H1 w f1 s1 rw'⟩
noncomputable def jF (f:Str) (v:AV):List (Str × AV)->List (Str × AV)
 | []=>[(f,v)]
 | (g,x)::r=>if g=f then (g,v)::r else (g,x)::jF f v r
theorem qm {mg:Gm}{P:Pr}{H:Hp}{φ:List Addr}{f:Str}{v:AV}{w:V} (r:RA mg P H φ v w):∀ {fs:List (Str × AV)}{ws:List (Str × V)},KVR mg P H φ fs ws->KVR mg P H φ (jF f v fs) (cW f w ws):=by
 intro fs
 induction fs with
 | nil =>
  intro ws h;have:ws=[]:=by simpa using h.1.symm
  subst this;exact ⟨rfl,bc r bv⟩
 | cons p fs ih =>
  intro ws h;cases ws with
  | nil=>exact absurd h.1 (by simp)
  | cons q ws =>
   obtain ⟨h1,h2⟩:=h;rw [zO,zO] at h1 h2;injection h1 with h3 h4;simp only [GI] at h2;obtain ⟨u,us,h5,h6,h7⟩:=h2;injection h5 with h8 h9;subst h8;subst h9;obtain ⟨a,b⟩:=p;obtain ⟨c,d⟩:=q;dsimp only at h3 h6;subst h3;have i:=ih (ws:=ws) ⟨h4,h7⟩;unfold jF cW;by_cases e:a=f
   ·rw [yF e,yF e]
    exact ⟨by rw [zO,zO,h4],bc r h7⟩
   ·rw [yE e,yE e]
    exact ⟨by rw [zO,zO,i.1],bc h6 i.2⟩
def x6 (c fl:Str) (h f:EF):SF:=fun sl st=>(f sl st).bind fun p=>(h sl p.2).bind fun q=>match q.1 with
 | .ref k=>(jr q.2 c (.ref k)).bind fun fs=>if Nat.ble fs.length 900=true then some (.nx sl (q.2.set k (.ins c (jF fl p.1 fs)))) else none
 | _=>none
theorem yj [GG] (ho:QE X o h) (hv:QE X e f') (cl:Cls X.K C) (hC:X.mg c=some (.ref C)) (na:NoAttr X.K C fl) (hs:swapsWith e (some (.Attribute o fl pos')) pos.line X.env=pure false):QS X (.Assign [.Attribute o fl pos'] e pos) (x6 c fl h f') :=
 PS_imp (yZ ho hv hs) fun D σ H hq0=>by
  obtain ⟨P,φ,sl,st,rs,s,out,eo,q⟩:=hq0;obtain ⟨p,e1,e2⟩:=zA eo;obtain ⟨r,e3,e4⟩:=zA e2;split at e4
  ·rename_i j hj
   obtain ⟨fs,e5,e6⟩:=zA e4;split at e6
   ·rename_i hl
    cases e6;refine ⟨P,φ,sl,st,rs,s,p.1,p.2,e1,fun P1 φ1 H1 w1 f1 s1 r1=>⟨P1,φ1,sl,p.2,rs.frm f1,s1,r.1,r.2,e3,fun P2 φ2 H2 w2 f2 s2 r2=>?_⟩⟩;rw [hj] at r2;obtain ⟨j',a,C',dx,ws,h1,h2,h3,rfl,h5,h6,h7⟩:=jq s2 e5 r2;cases h1;have:C'=C:=by rw [show X.gm.mg c=X.mg c from rfl,hC] at h5;cases h5;rfl
    subst this;have ln:ws.length < 1000:=by
     have z:=congrArg List.length h7.1;rw [zH,zH] at z
     have:=zS hl
     omega
    obtain ⟨f3,s3⟩:=eN (c:=.ins c (jF fl p.1 fs)) (o:=.ins C' dx (cW fl w1 ws)) s2 h2 h3 ⟨h3,C',dx,_,hC,aE,(qm (r1.frm f2) h7).mono (fun b h=>⟨h,af fun e=>h3 (e ▸ h)⟩) fun _ _ z=>z⟩ (fun _ _ z=>by rw [h6] at z;cases z);exact ⟨a,C',dx,ws,rfl,h6,cl,na,ln,q P2 φ2 _ σ ((f1.trans f2).trans f3) s3 (((rs.frm f1).frm f2).frm f3)⟩
   ·cases e6
  ·cases e4
end
end R
namespace R
open PySem PySem.Spec PyProof.Rows L2
open DD (PE_imp PT_imp PA_imp PS_imp PSs_imp OpR_imp PW_imp PG_imp pyOk obj_list obj_tup minL minL_eq)
abbrev BF:=List AV->aa->Option (AV × aa)
def rB [GG] (mg:Gm) (k:BF):List V->Hp->VK->Prop:=fun vs H Q=>∃ P φ st xs,Sim mg P φ st H/\GI mg P H φ xs vs/\KG mg RA P φ H (k xs st) Q
def rX (k:BF) (g:AF):EF:=fun sl st=>(g sl st).bind fun p=>k p.1 p.2
theorem Bm [GG] (q:rE mg (rX k g) σ H Q):xY (rB mg k) (rA mg g) σ H Q:=by
 obtain ⟨P,φ,sl,st,rs,s,kk⟩:=q;refine ⟨P,φ,sl,st,rs,s,?_⟩;obtain ⟨a,st',e1,q⟩:=kk.bind (Ra:=GI);refine ⟨a,st',e1,fun P1 φ1 H1 b f1 s1 r1=>?_⟩;obtain ⟨P2,φ2,st2,xs,f2,s2,r2,k2⟩:=q P1 φ1 H1 b f1 s1 r1;exact ⟨P2,φ2,st2,xs,s2,r2,k2⟩
def bI (h:aa->List AV->Option AV):BF:=fun xs st=>(h st xs).map fun z=>(z,st)
section
variable {X:Cx}{x:Str}{p pos:Pos}{e o a:Expr}{es:List Expr}{g:AF}{k:BF}{bid T:String}
theorem gy [GG] (hc:bU X (.builtin bid) (rB X.gm k)) (hg:Gl X x) (hm:X.mg x=none) (hv:bootBuiltins x=some (.builtin bid)) (ha:QA X (e::es) g) (hn:x ≠ "__name__") (hdb:(x == ("__debug__":Str))=false)
  (he:starEach (e::es) X.env=(false,eval e X.env)::starEach es X.env) (hpl:(backTo pos (starEach es X.env)).any (·.1)=false):QE X (.Call (.Name x p) (e::es) [] pos) (rX k g) :=
 PE_imp (mi hc hg hm hv ha hn hdb he hpl) fun _ _ _ q=>Bm q
theorem B4 [GG] (hc:bU X (.type T) (rB X.gm k)) (hg:Gl X x) (hm:X.mg x=none) (hv:bootBuiltins x=some (.type T)) (ha:QA X (e::es) g) (hn:x ≠ "__name__") (hdb:(x == ("__debug__":Str))=false)
  (he:starEach (e::es) X.env=(false,eval e X.env)::starEach es X.env) (hpl:(backTo pos (starEach es X.env)).any (·.1)=false):QE X (.Call (.Name x p) (e::es) [] pos) (rX k g) :=
 PE_imp (k6 hc hg hm hv ha hn hdb he hpl) fun _ _ _ q=>Bm q
theorem GI.one {mg:Gm}{P:Pr}{H:Hp}{φ:List Addr}{x:AV}{vs:List V} (h:GI mg P H φ [x] vs):∃ v,vs=[v]/\RA mg P H φ x v:=by
 simp only [GI] at h;obtain ⟨v,ws,rfl,r,rfl⟩:=h;exact ⟨v,rfl,r⟩
theorem GI.two {mg:Gm}{P:Pr}{H:Hp}{φ:List Addr}{x y:AV}{vs:List V} (h:GI mg P H φ [x,y] vs):∃ v w,vs=[v,w]/\RA mg P H φ x v/\RA mg P H φ y w:=by
 simp only [GI] at h;obtain ⟨v,ws,rfl,r,w,us,rfl,r',rfl⟩:=h;exact ⟨v,w,rfl,r,r'⟩
theorem kn (h:bU X f r) (i:∀ xs H Q,r' xs H Q->r xs H Q):bU X f r':=fun GD s σ H xs us Q I rv h'=>h GD s σ H xs us Q I rv (i xs H Q h')
def dF (st:aa):List AV->Option AV
 | [v]=>match cS st v with
  | some xs=>some (.int xs.length)
  | none=>match gS st v with
   | some xs=>some (.int xs.length)
   | none=>match v with
    | .str x=>if eB x.length=true then some (.int x.length) else none
    | v=>match gi st v with
     | some GE=>some (.int GE.length)
     | none=>(i6 st v).map fun GE=>.int GE.length
 | _=>none
theorem pG:bU X (.builtin "len") (fun xs H Q=>∃ a GE,xs=[V.ref a]/\H a=some (.dK GE)/\Q (.int GE.length) H):=by
 intro GD s σ H xs us Q I r h;obtain ⟨a,GE,rfl,ha,q⟩:=h;obtain ⟨u,rfl,ru⟩:=c9 r;cases ru;obtain ⟨z,hd,vs,rel,dd⟩:=vn I.GJ ha;have hl:GE.length=vs.length:=Paired.length rel;have hz:sizeLine=16777216:=sizeLine_eq;exact call_len_dict hd dd oM ⟨.int _,H,I.tok _,⟨_,by rw [hl]⟩,q⟩
theorem C4 [GG]:bU X (.builtin "len") (rB X.gm (bI dF)):=by
 rintro GD s σ H vs us Q I rv ⟨P,φ,st,xs,sm,r,k0⟩;obtain ⟨z,e,k⟩:=k0.map;clear k0;unfold dF at e;split at e
 ·rename_i v
  obtain ⟨w,ew,r9⟩:=r.one;clear r;subst ew;have r:=r9;clear r9;have aw:∀ n:Nat,z=.int n->Q (.int n) H:=fun n h=>by subst h;exact k.pure sm (by simp only [RA])
  split at e
  ·rename_i ys e1
   cases e;obtain ⟨a,vs,rfl,d1,q1⟩:=r.ls sm e1;exact ig GD s σ H _ us Q I rv ⟨a,vs,rfl,.inl d1,by rw [<- q1.length];exact aw _ rfl⟩
  ·split at e
   ·rename_i ys e1
    cases e;obtain ⟨a,vs,rfl,d1,q1⟩:=r.tp sm e1;exact ig GD s σ H _ us Q I rv ⟨a,vs,rfl,.inr (.inl (.inl d1)),by rw [<- q1.length];exact aw _ rfl⟩
   ·cases v with
    | str x =>
     dsimp only at e;split at e
     ·rename_i hz
      cases e;simp only [RA] at r;subst r;exact mR GD s σ H _ us Q I rv ⟨x,rfl,fX hz,aw _ rfl⟩
     ·cases e
    | ref j =>
     simp only [RA] at r;obtain ⟨a,ea,rfl⟩:=r;dsimp only [gi,i6] at e;cases hj:st[j]? with
     | none=>rw [hj] at e;cases e
     | some c =>
      rw [hj] at e;obtain ⟨a',ea',c'⟩:=sm.at hj;rw [ea] at ea';cases ea';cases c with
      | dK GE =>
       cases e;obtain ⟨_,ws,q1,q2⟩:=c'
       have:=congrArg List.length q2.1
       rw [zH,zH] at this;exact pG GD s σ H _ us Q I rv ⟨a,ws,rfl,q1,by rw [<- this];exact aw _ rfl⟩
      | dT GE =>
       cases e;obtain ⟨_,ws,q1,q2⟩:=c'
       have:=congrArg List.length q2.1
       rw [zH,zH] at this;exact rD GD s σ H _ us Q I rv ⟨a,ws,rfl,q1,by rw [<- this];exact aw _ rfl⟩
      | _=>cases e
    | _=>cases e
 ·cases e
def jV:List AV->Option (List Int):=aM fun x=>match x with
 | .int i=>some i
 | _=>none
theorem rc (h:jV xs=some ns):xs=ns.map .int:=by
 unfold jV at h
 induction xs generalizing ns with
 | nil=>cases h;rfl
 | cons x xs ih =>
  simp only [aM] at h;obtain ⟨y,e1,e2⟩:=zA h;obtain ⟨ys,e3,e4⟩:=zE.mp e2;subst e4;cases x <;> first | (cases e1;done) | skip
  cases e1;rw [ih e3];rfl
def lsI (st:aa) (v:AV):Option (List Int):=(cS st v).bind jV
theorem RA.lsI [GG] {mg:Gm}{P:Pr}{H:Hp}{φ:List Addr}{st:aa}{v:AV}{w:V}{ns:List Int} (s:Sim mg P φ st H) (r:RA mg P H φ v w) (h:R.lsI st v=some ns):∃ a,w=.ref a/\bC mg.K H a (ns.map .int):=by
 obtain ⟨xs,e1,e2⟩:=zA h;obtain ⟨a,vs,rfl,d1,q1⟩:=r.ls s e1
 have:=rc e2
 subst this;rw [q1.ints] at d1;exact ⟨a,rfl,d1⟩
def lY (st:aa):List AV->Option AV
 | [v]=>(lsI st v).map fun ns=>.int ns.sum
 | _=>none
theorem C1 [GG] (hc:X.calm=true):bU X (.builtin "sum") (rB X.gm (bI lY)):=by
 rintro GD s σ H vs us Q I rv ⟨P,φ,st,xs,sm,r,k0⟩;obtain ⟨z,e,k⟩:=k0.map;clear k0;unfold lY at e;split at e
 ·rename_i v
  obtain ⟨w,ew,r9⟩:=r.one;clear r;subst ew;have r:=r9;clear r9;obtain ⟨ns,e1,rfl⟩:=zE.mp e;obtain ⟨a,rfl,d1⟩:=r.lsI sm e1;obtain ⟨u,rfl,ru⟩:=c9 rv;cases ru;obtain ⟨GH,r',pl,_⟩:=I.list d1;have hi:IntsAre GH ns:=gF r';obtain ⟨ys,hy⟩:=hi.allInts.items;refine sum_intListG (xs:=ys) (I.ok.hd hc) (by rw [<- hy];exact pl.isList) fun h' tk t' hk=>⟨.int ns.sum,H,I.kept hk,?_,k.pure sm (by simp only [RA])⟩
  have:(preSum (numAt ys) ys.size)=ns.sum:=by
   rw [preSum_eq,List.take_of_length_le (by simp),<- nums_intItems,<- hy];rw [show GH.toArray.toList=GH from rfl,hi.numsOf]
  rw [this];exact ⟨t',rfl⟩
 ·cases e
noncomputable def jy:AV->Option Bool
 | .bl b=>some b
 | .int i=>some (i != 0)
 | _=>none
def kT (st:aa):List AV->Option AV
 | [v]=>(cS st v).bind fun xs=>(aM jy xs).map fun bs=>.bl (bs.all id)
 | _=>none
def mX (st:aa):List AV->Option AV
 | [v]=>(cS st v).bind fun xs=>(aM jy xs).map fun bs=>.bl (bs.any id)
 | _=>none
theorem pZ [GG]:∀ {xs:List AV}{vs:List V}{us:List Value}{bs:List Bool},aM jy xs=some bs->GI mg P H φ xs vs->Vals vs us->bs.length=us.length/\∀ (i:Nat) u,us[i]?=some u->u=.bool (bs.getD i true)\/∃ n t,u=.int n t/\(n != 0)=bs.getD i true:=by
 intro xs
 induction xs with
 | nil=>intro vs us bs e r q;cases e;simp only [GI] at r;subst r;cases q;exact ⟨rfl,fun i u h=>by simp at h⟩
 | cons x xs ih =>
  intro vs us bs e r q;simp only [aM] at e;obtain ⟨y,e1,e2⟩:=zA e;obtain ⟨ys,e3,e4⟩:=zE.mp e2;subst e4;simp only [GI] at r;obtain ⟨v,ws,rfl,r1,r2⟩:=r;cases q with
  | cons q1 q2 =>
   obtain ⟨h1,h2⟩:=ih e3 r2 q2;refine ⟨by simp [h1],fun i u h=>?_⟩;cases i with
   | zero =>
    simp at h;subst h;cases x <;> first | (cases e1;done) | skip
    ·cases e1;simp only [RA] at r1;subst r1;cases q1;exact .inl rfl
    ·cases e1;simp only [RA] at r1;subst r1;obtain ⟨t,rfl⟩:=q1;exact .inr ⟨_,t,rfl,rfl⟩
   | succ i=>simpa using h2 i u (by simpa using h)
theorem xF (bs:List Bool) (n:Nat) (h:bs.length=n):(List.range n).all (fun i=>bs.getD i true)=bs.all id:=by
 subst h;rw [Bool.eq_iff_iff,yL,yL];constructor
 ·intro h x hx
  obtain ⟨i,hi,rfl⟩:=List.getElem_of_mem hx
  have:=h i (by simp [hi])
  simpa [hi] using this
 ·intro h i hi
  have hi':i < bs.length:=by simpa using hi
  have:=h bs[i] (List.getElem_mem hi')
  simpa [hi'] using this
theorem xE (bs:List Bool) (n:Nat) (h:bs.length=n):(List.range n).any (fun i=>bs.getD i true)=bs.any id:=by
 subst h;rw [Bool.eq_iff_iff,List.any_eq_true,List.any_eq_true];constructor
 ·rintro ⟨i,hi,h⟩
  have hi':i < bs.length:=by simpa using hi
  exact ⟨bs[i],List.getElem_mem hi',by simpa [hi'] using h⟩
 ·rintro ⟨x,hx,h⟩
  obtain ⟨i,hi,rfl⟩:=List.getElem_of_mem hx;exact ⟨i,by simp [hi],by simpa [hi] using h⟩
theorem C7 [GG] (hc:X.calm=true):bU X (.builtin "all") (rB X.gm (bI kT)):=by
 rintro GD s σ H vs us Q I rv ⟨P,φ,st,xs,sm,r,k0⟩;obtain ⟨z,e,k⟩:=k0.map;clear k0;unfold kT at e;split at e
 ·rename_i v
  obtain ⟨w,ew,r9⟩:=r.one;clear r;subst ew;have r:=r9;clear r9;obtain ⟨ys,e1,e2⟩:=zA e;obtain ⟨bs,e3,rfl⟩:=zE.mp e2;obtain ⟨a,vs,rfl,d1,q1⟩:=r.ls sm e1;obtain ⟨u,rfl,ru⟩:=c9 rv;cases ru;obtain ⟨GH,r',pl,_⟩:=I.list d1;obtain ⟨hl1,hat⟩:=pZ e3 q1 r';have hl:=pl.isList;have hlt:a < s.heap.objs.size:=by obtain ⟨_,e,_⟩:=hl;exact yG e
  refine call_all_walk (wpAny_pyIter_list hl ⟨_,_,_,_,_,_,fun i=>bs.getD i true,rfl,Walks.list (A:=X.A.in1) (I.ok.hd hc) _ a (zU hlt) GH.toArray,⟨⟨_,zY _ rfl,rfl,rfl⟩,hl.push _⟩,?_,fun h' tk hk=>?_⟩)
  ·intro i v s2 Q2 E2 hP hQ
   rcases hat i v (by simpa using hP) with rfl | ⟨n,t,rfl,hn⟩
   ·exact wpAny_truthy_bool hQ
   ·exact PySem.P.truthy_int (by rw [hn];exact hQ)
  ·refine ⟨.bl (bs.all id),H,I.kept (old_kept hk),?_,k.pure sm (by simp only [RA])⟩
   rw [xF bs _ (by simpa using hl1)];rfl
 ·cases e
theorem C6 [GG] (hc:X.calm=true):bU X (.builtin "any") (rB X.gm (bI mX)):=by
 rintro GD s σ H vs us Q I rv ⟨P,φ,st,xs,sm,r,k0⟩;obtain ⟨z,e,k⟩:=k0.map;clear k0;unfold mX at e;split at e
 ·rename_i v
  obtain ⟨w,ew,r9⟩:=r.one;clear r;subst ew;have r:=r9;clear r9;obtain ⟨ys,e1,e2⟩:=zA e;obtain ⟨bs,e3,rfl⟩:=zE.mp e2;obtain ⟨a,vs,rfl,d1,q1⟩:=r.ls sm e1;obtain ⟨u,rfl,ru⟩:=c9 rv;cases ru;obtain ⟨GH,r',pl,_⟩:=I.list d1;obtain ⟨hl1,hat⟩:=pZ e3 q1 r';have hl:=pl.isList;have hlt:a < s.heap.objs.size:=by obtain ⟨_,e,_⟩:=hl;exact yG e
  refine call_any_walk (wpAny_pyIter_list hl ⟨_,_,_,_,_,_,fun i=>bs.getD i true,rfl,Walks.list (A:=X.A.in1) (I.ok.hd hc) _ a (zU hlt) GH.toArray,⟨⟨_,zY _ rfl,rfl,rfl⟩,hl.push _⟩,?_,fun h' tk hk=>?_⟩)
  ·intro i v s2 Q2 E2 hP hQ
   rcases hat i v (by simpa using hP) with rfl | ⟨n,t,rfl,hn⟩
   ·exact wpAny_truthy_bool hQ
   ·exact PySem.P.truthy_int (by rw [hn];exact hQ)
  ·refine ⟨.bl (bs.any id),H,I.kept (old_kept hk),?_,k.pure sm (by simp only [RA])⟩
   rw [xE bs _ (by simpa using hl1)];rfl
 ·cases e
def io (_:aa):List AV->Option AV
 | [.int i]=>some (.int (if i < 0 then -i else i))
 | _=>none
theorem C8 [GG]:bU X (.builtin "abs") (rB X.gm (bI io)):=kn uz fun vs H Q hq0=>by
 obtain ⟨P,φ,st,xs,sm,r,k0⟩:=hq0;obtain ⟨z,e,k⟩:=k0.map;unfold io at e;split at e
 ·cases e
  obtain ⟨w,ew,r9⟩:=r.one;clear r;subst ew;have r:=r9;clear r9;simp only [RA] at r;exact ⟨_,by rw [r],k.pure sm (by simp only [RA])⟩
 ·cases e
def mz (st:aa):List AV->Option AV
 | [.int i,.int j]=>some (.int (if j < i then j else i))
 | [v]=>(lsI st v).bind fun ns=>(minL ns).map .int
 | _=>none
noncomputable def Au:List Int->Option Int
 | []=>none
 | x::xs=>some (xs.foldl (fun a b=>if a < b then b else a) x)
theorem EQ:∀ (xs:List Int) (x:Int),(xs.foldl (fun a b=>if a < b then b else a) x ∈ x::xs)/\∀ a ∈ x::xs,a <= xs.foldl (fun a b=>if a < b then b else a) x:=by
 intro xs
 induction xs with
 | nil=>intro x;exact ⟨by simp,by simp⟩
 | cons y xs ih =>
  intro x;rw [List.foldl_cons];obtain ⟨h1,h2⟩:=ih (if x < y then y else x);refine ⟨?_,fun a ha=>?_⟩
  ·rcases zT.mp h1 with h | h
   ·rw [h];split <;> simp
   ·exact zQ _ (zQ _ h)
  ·have h3:=h2 _ z4
   rcases zT.mp ha with rfl | ha
   ·refine Int.le_trans ?_ h3;split <;> omega
   ·rcases zT.mp ha with rfl | ha
    ·refine Int.le_trans ?_ h3;split <;> omega
    ·exact h2 a (zQ _ ha)
theorem wR {m x:Int} (h:Au ns=some m) (h1:x ∈ ns) (h2:∀ a ∈ ns,a <= x):x=m:=by
 cases ns with
 | nil=>cases h
 | cons y ns =>
  obtain ⟨a,b⟩:=EQ ns y;have e:ns.foldl (fun a b=>if a < b then b else a) y=m:=by injection h
  rw [e] at a b
  have:=h2 m a
  have:=b x h1
  omega
def pe (st:aa):List AV->Option AV
 | [.int i,.int j]=>some (.int (if j > i then j else i))
 | [v]=>(lsI st v).bind fun ns=>(Au ns).map .int
 | _=>none
theorem C2 [GG] (hc:X.calm=true):bU X (.builtin "min") (rB X.gm (bI mz)):=by
 rintro GD s σ H vs us Q I rv ⟨P,φ,st,xs,sm,r,k0⟩;obtain ⟨z,e,k⟩:=k0.map;clear k0;unfold mz at e;split at e
 ·rename_i i j
  cases e;obtain ⟨w,w',ew,r8,r9⟩:=r.two;clear r;subst ew;have r:=r8;have r':=r9;clear r8 r9;simp only [RA] at r r';subst r;subst r';exact rq hc GD s σ H _ us Q I rv ⟨i,j,rfl,k.pure sm (by simp only [RA])⟩
 ·rename_i v
  obtain ⟨w,ew,r9⟩:=r.one;clear r;subst ew;have r:=r9;clear r9;obtain ⟨ns,e1,e2⟩:=zA e;obtain ⟨m,hm,rfl⟩:=zE.mp e2;obtain ⟨a,rfl,d1⟩:=r.lsI sm e1;obtain ⟨u,rfl,ru⟩:=c9 rv;cases ru;obtain ⟨GH,r',pl,_⟩:=I.list d1;have hi:IntsAre GH ns:=gF r';obtain ⟨ys,hy⟩:=hi.allInts.items;have hns':ns=ys.toList.map (·.1):=by rw [<- hi.numsOf,<- nums_intItems,<- hy]
  have hsz:0 < ys.size:=by
   cases ns with
   | nil=>cases hm
   | cons n ns =>
    have:(n::ns).length=ys.size:=by rw [hns',zH,Array.length_toList]
    simp at this;omega
  refine min_intList (xs:=ys) (I.ok.hd hc) (by rw [<- hy];exact pl.isList) hsz fun v h' tk hv hk=>?_
  obtain ⟨t,rfl⟩:=intItems_at hv;obtain ⟨h1,h2⟩:=argBest_lt (numAt ys) (ys.size - 1);refine ⟨.int m,H,I.kept hk,?_,k.pure sm (by simp only [RA])⟩;have e:numAt ys (argBest (fun i j=>decide (numAt ys i < numAt ys j)) (ys.size - 1))=m:=by
   refine minL_eq hm ?_ fun a ha=>?_
   ·rw [hns',numAt_eq];exact getD_mem (by rw [zH,Array.length_toList];omega)
   ·rw [hns'] at ha
    obtain ⟨j,hj,rfl⟩:=mem_getD ha;rw [zH,Array.length_toList] at hj;rw [<- numAt_eq];exact h2 j oM
  exact ⟨t,by rw [e]⟩
 ·cases e
theorem C3 [GG] (hc:X.calm=true):bU X (.builtin "max") (rB X.gm (bI pe)):=by
 rintro GD s σ H vs us Q I rv ⟨P,φ,st,xs,sm,r,k0⟩;obtain ⟨z,e,k⟩:=k0.map;clear k0;unfold pe at e;split at e
 ·rename_i i j
  cases e;obtain ⟨w,w',ew,r8,r9⟩:=r.two;clear r;subst ew;have r:=r8;have r':=r9;clear r8 r9;simp only [RA] at r r';subst r;subst r';exact rC hc GD s σ H _ us Q I rv ⟨i,j,rfl,k.pure sm (by simp only [RA])⟩
 ·rename_i v
  obtain ⟨w,ew,r9⟩:=r.one;clear r;subst ew;have r:=r9;clear r9;obtain ⟨ns,e1,e2⟩:=zA e;obtain ⟨m,hm,rfl⟩:=zE.mp e2;obtain ⟨a,rfl,d1⟩:=r.lsI sm e1;obtain ⟨u,rfl,ru⟩:=c9 rv;cases ru;obtain ⟨GH,r',pl,_⟩:=I.list d1;have hi:IntsAre GH ns:=gF r';obtain ⟨ys,hy⟩:=hi.allInts.items;have hns':ns=ys.toList.map (·.1):=by rw [<- hi.numsOf,<- nums_intItems,<- hy]
  have hsz:0 < ys.size:=by
   cases ns with
   | nil=>cases hm
   | cons n ns =>
    have:(n::ns).length=ys.size:=by rw [hns',zH,Array.length_toList]
    simp at this;omega
  refine max_intList (xs:=ys) (I.ok.hd hc) (by rw [<- hy];exact pl.isList) hsz fun v h' tk hv hk=>?_
  obtain ⟨t,rfl⟩:=intItems_at hv;obtain ⟨h1,h2⟩:=argBest_gt (numAt ys) (ys.size - 1);refine ⟨.int m,H,I.kept hk,?_,k.pure sm (by simp only [RA])⟩;have e:numAt ys (argBest (fun i j=>decide (numAt ys i > numAt ys j)) (ys.size - 1))=m:=by
   refine wR hm ?_ fun a ha=>?_
   ·rw [hns',numAt_eq];exact getD_mem (by rw [zH,Array.length_toList];omega)
   ·rw [hns'] at ha
    obtain ⟨j,hj,rfl⟩:=mem_getD ha;rw [zH,Array.length_toList] at hj;rw [<- numAt_eq];exact h2 j oM
  exact ⟨t,by rw [e]⟩
 ·cases e
def pB (_:aa):List AV->Option AV
 | [.int i]=>some (.int i)
 | [.bl b]=>some (.int (if b then 1 else 0))
 | _=>none
theorem C5 [GG]:bU X (.type "int") (rB X.gm (bI pB)):=kn rF fun vs H Q hq0=>by
 obtain ⟨P,φ,st,xs,sm,r,k0⟩:=hq0;obtain ⟨z,e,k⟩:=k0.map;unfold pB at e;split at e
 ·cases e
  obtain ⟨w,ew,r9⟩:=r.one;clear r;subst ew;have r:=r9;clear r9;simp only [RA] at r;exact .inl ⟨_,by rw [r],k.pure sm (by simp only [RA])⟩
 ·cases e
  obtain ⟨w,ew,r9⟩:=r.one;clear r;subst ew;have r:=r9;clear r9;simp only [RA] at r;exact .inr ⟨_,by rw [r],k.pure sm (by simp only [RA])⟩
 ·cases e
def jP (st:aa) (v:AV):Option String:=match dr st v with
 | .non=>some "NoneType"
 | .bl _=>some "bool"
 | .int _=>some "int"
 | .str _=>some "str"
 | .tup _=>some "tuple"
 | .fz _=>some "list"
 | .ref k=>match st[k]? with
  | some (.lst _)=>some "list"
  | _=>none
def Ea (T:String) (f:EF):EF:=fun sl st=>(f sl st).bind fun p=>(jP p.2 p.1).bind fun a=>(DD.isiT a T).map fun b=>(.bl b,p.2)
theorem CD [GG] {GD:List (Addr × Obj)}{σ:St}{H:Hp}{s:Shared}{P:Pr}{φ:List Addr}{st:aa}{x:AV}{v:V}{u c:Value}{t:String}{b:Bool}{Q:Value->Shared->Prop}{E:Value->Shared->Prop} (I:L2.Inv X GD σ H s) (sm:Sim X.gm P φ st H) (r:RA X.gm P H φ x v) (rv:RelV v u) (hk:jP st x=some t)
  (e:kitOne X.K (.type t) c=some b) (h:∀ tk,Q (.bool b) { s with toks:=tk }):wpAny (model X.prog X.w) X.A (call (.builtin "isinstance") [u,c]) Q E s:=by
 have lst:∀ {a:Addr}{vs:List V},v=.ref a->bC X.K H a vs->t="list"->wpAny (model X.prog X.w) X.A (call (.builtin "isinstance") [u,c]) Q E s:=fun ev sq et=>by
  subst ev;subst et;cases rv;obtain ⟨GH,o,n,_,e1,e2,e3⟩:=obj_list I sq;exact kia_one kitx_list I.kIn ⟨_,e1,e2⟩ e (fun z=>nomatch z) h
 have rd:=r.dr sm;unfold jP at hk;cases hx:dr st x with
 | non=>rw [hx] at hk rd;cases hk;simp only [RA] at rd;subst rd;exact fx I rv .non e h
 | bl _=>rw [hx] at hk rd;cases hk;simp only [RA] at rd;subst rd;exact fx I rv (.bl _) e h
 | int _=>rw [hx] at hk rd;cases hk;simp only [RA] at rd;subst rd;exact fx I rv (.int _) e h
 | str _=>rw [hx] at hk rd;cases hk;simp only [RA] at rd;subst rd;exact fx I rv (.str _) e h
 | fz _ =>
  rw [hx] at hk rd;cases hk;simp only [RA] at rd;obtain ⟨a,vs,ev,fl,_⟩:=rd;exact lst ev fl.sq rfl
 | tup _ =>
  rw [hx] at hk rd;cases hk;simp only [RA] at rd;obtain ⟨a,vs,rfl,_,h1,_⟩:=rd;cases rv;obtain ⟨GH,o,n,_,e1,e2,e3⟩:=obj_tup I (show dP X.K H a vs from .inl (.inl h1));exact kia_one kitx_tuple I.kIn ⟨_,e1,e2⟩ e (fun z=>nomatch z) h
 | ref k =>
  rw [hx] at hk rd;dsimp only at hk;split at hk
  ·rename_i ys hj
   cases hk;simp only [RA] at rd;obtain ⟨a,ea,ev⟩:=rd;obtain ⟨a',ea',c'⟩:=sm.at hj;rw [ea] at ea';cases ea';obtain ⟨_,vs,q1,_⟩:=c';exact lst ev (.inl (.inl q1)) rfl
  ·cases hk
theorem gX [GG] (hg:Gl X "isinstance") (hm:X.mg "isinstance"=none) (hgy:Gl X y) (hmy:X.mg y=none) (hvy:bootBuiltins y=some (.type T)) (ha:QE X e f) (hny:y ≠ "__name__") (hdy:(y == ("__debug__":Str))=false)
  (he:starEach [e,.Name y p2] X.env=(false,eval e X.env)::starEach [.Name y p2] X.env) (hn:bootBuiltins "isinstance"=some (.builtin "isinstance")):QE X (.Call (.Name "isinstance" p) [e,.Name y p2] [] pos) (Ea T f):=by
 have hc:bU X (.builtin "isinstance") (fun vs H Q=>∃ P φ st x v a b,Sim X.gm P φ st H/\vs=[v,.ty T]/\RA X.gm P H φ x v/\jP st x=some a/\DD.isiT a T=some b/\Q (.bl b) H):=by
  rintro GD s σ H vs us Q I rv ⟨P,φ,st,x,v,a,b,sm,ev,r,h1,h2,q⟩;subst ev;obtain ⟨u1,u2,rfl,r1,r2⟩:=oJ rv;cases r2;exact CD I sm r r1 h1 (DD.isiT_kit h2) fun tk=>⟨.bl b,H,I.tok tk,rfl,q⟩
 refine PE_imp (mi hc hg hm hn (kA ha (kA (wA (v:=.ty T) hgy hmy hvy rfl hny hdy) qz rfl) he) dC dC he (by rfl)) fun σ H Q ⟨P,φ,sl,st,rs,s,kk⟩=>⟨P,φ,sl,st,rs,s,?_⟩
 obtain ⟨a,st',e1,q⟩:=kk.bind (Ra:=RA);refine ⟨a,st',e1,fun P1 φ1 H1 w f1 s1 r1=>?_⟩;obtain ⟨P2,φ2,st2,x,f2,s2,r2,k2⟩:=q P1 φ1 H1 w f1 s1 r1;obtain ⟨z,st3,e3,q3⟩:=k2;obtain ⟨t,e4,e5⟩:=zA e3;obtain ⟨b,e6,e7⟩:=zE.mp e5;cases e7;exact ⟨P2,φ2,st2,x,w,t,b,s2,rfl,r2,e4,e6,q3 P2 φ2 H1 _ Frm.refl s2 (by simp only [RA])⟩
end
end R
namespace R
open PySem PySem.Spec PyProof.Rows L2
open DD (PE_imp PT_imp PA_imp PS_imp PSs_imp OpR_imp PW_imp PG_imp pyOk reads_each)
abbrev MF:=AV->List AV->aa->Option (AV × aa)
def rM [GG] (mg:Gm) (k:MF):V->List V->Hp->VK->Prop:=fun x vs H Q=>∃ P φ st a xs,Sim mg P φ st H/\RA mg P H φ a x/\GI mg P H φ xs vs/\KG mg RA P φ H (k a xs st) Q
def pU (T:String) (st:aa) (v:AV):Bool:=match v with
 | .str _=>T == "str"
 | .int _=>T == "int"
 | v=>if T="list" then (cS st v).isSome else if T="dict" then (gi st v).isSome || (i6 st v).isSome else false
def kh (T:String) (k:MF) (f:EF) (g:AF):EF:=fun sl st=>(f sl st).bind fun p=>if pU T p.2 p.1=true then (g sl p.2).bind fun q=>k p.1 q.1 q.2 else none
section
variable {X:Cx}{e o:Expr}{es:List Expr}{f:EF}{g:AF}{k:MF}{name:Str}{apos cpos:Pos}{T mid:String}
theorem vL [GG] {P:Pr}{φ:List Addr}{st:aa}{H:Hp}{v:AV}{w:V} (s:Sim X.gm P φ st H) (r:RA X.gm P H φ v w) (h:pU T st v=true):pT X.K T w H:=by
 have gen:(if T="list" then (cS st v).isSome else if T="dict" then (gi st v).isSome || (i6 st v).isSome else false)=true->pT X.K T w H:=fun h=>by
  split at h
  ·rename_i hT
   obtain ⟨xs,e⟩:=Option.isSome_iff_exists.mp h;obtain ⟨a,vs,rfl,d1,_⟩:=r.ls s e;exact .inl ⟨hT,vs,d1⟩
  ·split at h
   ·rename_i hT
    cases v with
    | ref j =>
     simp only [RA] at r;obtain ⟨a,ea,rfl⟩:=r;simp only [gi,i6] at h;cases hj:st[j]? with
     | none=>rw [hj] at h;simp at h
     | some c =>
      rw [hj] at h;obtain ⟨a',ea',c'⟩:=s.at hj;rw [ea] at ea';cases ea';cases c with
      | dK GE=>obtain ⟨_,ws,q1,_⟩:=c';exact .inr (.inr (.inl ⟨hT,.inl ⟨ws,q1⟩⟩))
      | dT GE=>obtain ⟨_,ws,q1,_⟩:=c';exact .inr (.inr (.inl ⟨hT,.inr ⟨ws,q1⟩⟩))
      | _=>simp at h
    | _=>simp [gi,i6] at h
   ·cases h
 unfold pU at h;cases v with
 | str x=>simp only [RA] at r;subst r;exact yH h
 | int x=>simp only [RA] at r;subst r;exact yH h
 | _=>exact gen h
theorem Ao [GG] (q:rE X.gm (kh T k f g) σ H Q):Dq X.K T (rM X.gm k) (rE X.gm f) (rA X.gm g) σ H Q:=by
 obtain ⟨P,φ,sl,st,rs,s,v,st',ev,kk⟩:=q;obtain ⟨p,e1,e2⟩:=zA ev;split at e2
 ·rename_i hT
  obtain ⟨r,e3,e4⟩:=zA e2;exact ⟨P,φ,sl,st,rs,s,p.1,p.2,e1,fun P1 φ1 H1 w f1 s1 r1=>⟨vL s1 r1 hT,P1,φ1,sl,p.2,rs.frm f1,s1,r.1,r.2,e3,fun P2 φ2 H2 ws f2 s2 r2=>⟨P2,φ2,r.2,p.1,r.1,s2,r1.frm f2,r2,v,st',e4,fun P3 φ3 H3 w3 f3 s3 r3=>kk P3 φ3 H3 w3 ((f1.trans f2).trans f3) s3 r3⟩⟩⟩
 ·cases e2
theorem oW [GG] (pa:PlainAttrs T) (slot:Slot T name mid) (hty:typeOf (.builtin mid)=pure (.type "method_descriptor")) (hm:jb X mid (rM X.gm k)) (ho:QE X o f) (ha:QA X (e::es) g)
  (hbase:attributeBase o name X.env (eval o X.env)=eval o X.env)
  (hfew:((backTo cpos (starEach (e::es) X.env)).all (fun x=>!x.1) && (backToKw cpos (keywordEach [] X.env)).all (fun x=>x.1.isSome)
   && decide ((e::es).length + ([]:List Keyword).length + (if ([]:List Keyword).isEmpty then 0 else 1) < 30))=true)
  (hline:(apos.endLine == cpos.line)=true) (hs:starEach (e::es) X.env=(false,eval e X.env)::starEach es X.env) (hplain:(backTo cpos (starEach es X.env)).any (·.1)=false) :
  QE X (.Call (.Attribute o name apos) (e::es) [] cpos) (kh T k f g):=PE_imp (Cj pa slot hty hm ho ha hbase hfew hline hs hplain) fun _ _ _ q=>Ao q
theorem md [GG] (pa:PlainAttrs T) (slot:Slot T name mid) (hty:typeOf (.builtin mid)=pure (.type "method_descriptor")) (hm:jb X mid (rM X.gm k)) (ho:QE X o f)
  (hbase:attributeBase o name X.env (eval o X.env)=eval o X.env) (hline:(apos.endLine == cpos.line)=true):QE X (.Call (.Attribute o name apos) [] [] cpos) (kh T k f dL) :=
 PE_imp (zp pa slot hty hm ho hbase hline) fun σ H Q q=>by
  obtain ⟨P,φ,sl,st,rs,s,v,st',ev,kk⟩:=Ao q;refine ⟨P,φ,sl,st,rs,s,v,st',ev,fun P1 φ1 H1 w f1 s1 r1=>?_⟩;obtain ⟨h1,P2,φ2,sl2,st2,rs2,s2,xs,st3,e3,k3⟩:=kk P1 φ1 H1 w f1 s1 r1;cases e3;exact ⟨h1,k3 P2 φ2 H1 [] Frm.refl s2 bv⟩
theorem jx (h:jb X mid r) (i:∀ x xs H Q,r' x xs H Q->r x xs H Q):jb X mid r':=fun GD s σ H x xs v us Q I rx rv h'=>h GD s σ H x xs v us Q I rx rv (i x xs H Q h')
def gK (st:aa):AV->Option (Nat × List AV)
 | .ref k=>match st[k]? with
  | some (.lst xs)=>some (k,xs)
  | _=>none
 | _=>none
theorem lv [GG] {mg:Gm}{P:Pr}{φ:List Addr}{st:aa}{H:Hp}{v:AV}{w:V}{j:Nat}{xs:List AV} (s:Sim mg P φ st H) (r:RA mg P H φ v w) (h:gK st v=some (j,xs)):∃ a vs,w=.ref a/\φ[j]?=some a/\¬ P a/\H a=some (.lst vs)/\GI mg P H φ xs vs:=by
 cases v with
 | ref i =>
  simp only [gK] at h;split at h
  ·rename_i ys hj
   cases h;simp only [RA] at r;obtain ⟨a,ea,rfl⟩:=r;obtain ⟨a',ea',na,vs,h1,h2⟩:=s.at hj;rw [ea] at ea';cases ea';exact ⟨a,vs,rfl,ea,na,h1,h2⟩
  ·cases h
 | _=>cases h
theorem nr [GG] {mg:Gm}{P:Pr}{φ:List Addr}{st:aa}{H:Hp}{j:Nat}{a:Addr}{ys:List AV}{us:List V} (s:Sim mg P φ st H) (ea:φ[j]?=some a) (na:¬ P a) (nz:∃ vs,H a=some (.lst vs)) (r:GI mg P H φ ys us) :
  Frm P φ H P φ (am H a (.lst us))/\Sim mg P φ (st.set j (.lst ys)) (am H a (.lst us))/\∀ {t:AV}{w:V},RA mg P H φ t w->RA mg P (am H a (.lst us)) φ t w:=by
 have ex:∀ b,P b->P b/\am H a (.lst us) b=H b:=fun b h=>⟨h,af fun e=>na (e ▸ h)⟩
 obtain ⟨f3,s3⟩:=eN (c:=.lst ys) (o:=.lst us) s ea na ⟨na,us,aE,r.mono ex fun _ _ z=>z⟩ (fun _ _ z=>by obtain ⟨vs,q⟩:=nz;rw [q] at z;cases z);exact ⟨f3,s3,fun h=>h.mono ex fun _ _ z=>z⟩
def pq:MF:=fun x xs st=>match xs with
 | [y]=>(gK st x).bind fun c=>if eB c.2.length=true then some (.non,st.set c.1 (.lst (c.2++[y]))) else none
 | _=>none
theorem BL {n:Nat} (h:eB n=true):n < sizeLine:=Nat.lt_of_le_of_lt (zS h) dC
theorem u8 [GG]:jb X "list.append" (rM X.gm pq):=jx k7 fun x vs H Q hq0=>by
 obtain ⟨P,φ,st,a,xs,s,r,rr,v,st',e,kk⟩:=hq0;unfold pq at e;split at e
 ·rename_i y
  obtain ⟨c,e1,e2⟩:=zA e;split at e2
  ·rename_i hz
   cases e2;obtain ⟨b,us,rfl,ea,na,h1,h2⟩:=lv s r e1;obtain ⟨w,rfl,r1⟩:=rr.one;obtain ⟨f3,s3,_⟩:=nr s ea na ⟨_,h1⟩ (h2.app (bc r1 bv));exact ⟨b,us,w,rfl,rfl,h1,by rw [<- h2.length];exact BL hz,kk P φ _ _ f3 s3 (by simp only [RA])⟩
  ·cases e2
 ·cases e
def FW:MF:=fun x xs st=>match xs with
 | [.int i]=>(gK st x).bind fun c=>if eu i=true then (lb c.2.length i).bind fun j=>(c.2[j]?).map fun y=>(y,st.set c.1 (.lst (c.2.eraseIdx j))) else none
 | _=>none
def pj:MF:=fun x xs st=>match xs with
 | [y]=>(gK st x).bind fun c=>(cS st y).bind fun ys=>if eB (c.2.length + ys.length)=true then some (.non,st.set c.1 (.lst (c.2++ys))) else none
 | _=>none
theorem u7 [GG]:jb X "list.extend" (rM X.gm pj):=jx wO fun x vs H Q hq0=>by
 obtain ⟨P,φ,st,a,xs,s,r,rr,v,st',e,kk⟩:=hq0;unfold pj at e;split at e
 ·rename_i y
  obtain ⟨c,e1,e2⟩:=zA e;obtain ⟨ys,e3,e4⟩:=zA e2;split at e4
  ·rename_i hz
   cases e4;obtain ⟨b,us,rfl,ea,na,h1,h2⟩:=lv s r e1;obtain ⟨w,rfl,r1⟩:=rr.one;obtain ⟨b2,us2,rfl,d2,q2⟩:=r1.ls s e3;obtain ⟨f3,s3,_⟩:=nr s ea na ⟨_,h1⟩ (h2.app q2);exact ⟨b,b2,us,us2,rfl,rfl,h1,d2,by rw [<- h2.length,<- q2.length];exact fX hz,kk P φ _ _ f3 s3 (by simp only [RA])⟩
  ·cases e4
 ·cases e
def Aw:MF:=fun x xs st=>match x,xs with
 | .int i,[]=>some (.int ((Builtin.Int.intBits i:Nat):Int),st)
 | _,_=>none
theorem Av [GG]:jb X "int.bit_length" (rM X.gm Aw):=jx wP fun x vs H Q hq0=>by
 obtain ⟨P,φ,st,a,xs,s,r,rr,v,st',e,kk⟩:=hq0;unfold Aw at e;split at e
 ·cases e
  simp only [RA] at r;simp only [GI] at rr;exact ⟨_,r,rr,kk P φ H _ Frm.refl s (by simp only [RA])⟩
 ·cases e
def Ed (t:Bool):EF:=fun _ st=>some (.ref st.length,st++[if t=true then .dT [] else .dK []])
theorem v8 [GG] (hm:PE X (.Dict [] [] pos) p6):QE X (.Dict [] [] pos) (Ed false):=PE_imp hm fun σ H Q hq0=>by
 obtain ⟨P,φ,sl,st,rs,s,v,st',e,kk⟩:=hq0;cases e;intro d hd;obtain ⟨f3,s3⟩:=jm (c:=.dK []) (o:=.dK []) s hd ⟨fun z=>s.dom d z hd,[],aE,rfl,bv⟩;refine kk P _ _ _ f3 s3 ?_;simp only [RA];exact ⟨d,by rw [<- s.len];simp,rfl⟩
end
end R
namespace R
open PySem PySem.Spec PyProof.Rows L2
open DD (PE_imp PT_imp PA_imp PS_imp PSs_imp OpR_imp PW_imp PG_imp pyOk obj_list obj_tup minL minL_eq)
def mF:a0->AV
 | .inl i=>.int i
 | .inr x=>.str x
noncomputable def xU (k:Nat):Out->Option Out
 | .nx sl st=>match st[k]? with
  | some (.wk GE)=>some (.nx sl (st.set k (.dK GE)))
  | _=>none
 | .rt v st=>match st[k]? with
  | some (.wk GE)=>some (.rt v (st.set k (.dK GE)))
  | _=>none
 | _=>none
def sR (f:EF) (g:GF) (s:SF):SF:=fun sl st=>(f sl st).bind fun p=>match p.1 with
 | .ref k=>match p.2[k]? with
  | some (.dK GE)=>(cJ [] g s (GE.map fun q=>mF q.1) sl (p.2.set k (.wk GE))).bind (xU k)
  | _=>none
 | _=>none
section
variable {X:Cx}{tg iter:Expr}{body:List Stmt}{pos:Pos}{f:EF}{g:GF}{s:SF}
theorem vW [GG] (hp:PassesOwn (model X.prog X.w) X.A X.env X.xe) (hc:X.calm=true) (hi:QE X iter f) (hg:QG X tg g) (hb:ip X body s) (hs:∀ x,foldedSetIterable iter X.env x=pure x):QS X (.For tg iter body [] pos) (sR f g s) :=
 PS_imp (wd (qq hp hc (wp hi) hg hb hs)) fun D σ H hq0=>by
  obtain ⟨P,φ,sl,st,rs,sm,o,e,q⟩:=hq0;obtain ⟨p,e1,e2⟩:=zA e;refine ⟨P,φ,sl,st,rs,sm,p.1,p.2,e1,fun P1 φ1 H1 w f1 s1 r1=>?_⟩;split at e2
  ·rename_i k ek
   rw [ek] at r1;simp only [RA] at r1;obtain ⟨a,ea,rfl⟩:=r1;split at e2
   ·rename_i GE hk
    obtain ⟨o1,e3,e4⟩:=zA e2;obtain ⟨na,ws,h1,h2⟩:=s1.cell k _ a hk ea;refine ⟨a,ws,rfl,h1,fun ob hn=>?_⟩;have hkeys:(GE.map fun q=>mF q.1).length=ws.length:=by
     have:=congrArg List.length h2.1
     rw [zH,zH] at this;rw [zH];exact this
    obtain ⟨fw,sw⟩:=eN (c:=.wk GE) (o:=.frz ob (.dK ws)) s1 ea na ⟨na,ob,ws,aE,h2.mono (fun b h=>⟨h,af fun e=>na (e ▸ h)⟩) fun _ _ z=>z⟩ (fun _ _ z=>by rw [h1] at z;cases z);have rsw:GL X.gm P1 (am H1 a (.frz ob (.dK ws))) φ1 sl σ:=(rs.frm f1).frm fw
    -- behind the loop
    have back:∀ {P5 φ5 H5 st5},Frm P1 φ1 (am H1 a (.frz ob (.dK ws))) P5 φ5 H5->Sim X.gm P5 φ5 st5 H5->∀ {kvs'},st5[k]?=some (.wk kvs')->∃ o5 ws5,H5 a=some (.frz o5 (.dK ws5)) /\
      Frm P φ H P5 φ5 (am H5 a (.dK ws5))/\Sim X.gm P5 φ5 (st5.set k (.dK kvs')) (am H5 a (.dK ws5))/\∀ b,P5 b->P5 b/\am H5 a (.dK ws5) b=H5 b:=by
     intro P5 φ5 H5 st5 f5 s5 kvs' hw;have ea5:φ5[k]?=some a:=f5.ix k a ea;obtain ⟨na5,o5,ws5,g1,g2⟩:=s5.cell k _ a hw ea5;have ex5:∀ b,P5 b->P5 b/\am H5 a (.dK ws5) b=H5 b:=fun b h=>⟨h,af fun e=>na5 (e ▸ h)⟩
     refine ⟨o5,ws5,g1,?_,?_,ex5⟩
     ·have fall:=(f1.trans fw).trans f5
      obtain ⟨m,em,nm⟩:=fall.new;have hna:H a=none\/a ∈ φ:=by
       rcases zZ.mp (show a ∈ φ++f1.new.choose by rw [<- f1.new.choose_spec.1];exact zW ea) with z | z
       ·exact .inr z
       ·exact .inl (f1.new.choose_spec.2 a z)
      refine ⟨fun b h=>⟨(fall.ext b h).1,?_⟩,⟨m,em,nm⟩,fun b h n z=>?_,fall.pn,fun b h=>?_,fun b o u h=>?_⟩
      ·rw [(ex5 b (fall.ext b h).1).2];exact (fall.ext b h).2
      ·have nb:b ≠ a:=fun e=>by
        rcases hna with y | y
        ·exact h (by rw [e];exact y)
        ·exact n (by rw [e];exact y)
       rw [af nb];exact fall.keep b h n z
      ·by_cases e:b=a
       ·rw [e,aE];exact fun z=>nomatch z
       ·rw [af e];exact fall.sm b h
      ·have nb:b ≠ a:=fun e=>by
        have:=f1.fz b o u h
        rw [e,h1] at this;cases this
       rw [af nb];exact fall.fz b o u h
     ·have hs5:st5[k]?=some (.wk kvs'):=hw
      refine ⟨by rw [List.length_set];exact s5.len,s5.nd,fun b h=>by rw [(ex5 b h).2];exact s5.dom b h,fun b h=>?_,fun j c b e5 e6=>?_,fun t ht=>⟨(s5.tb t ht).1.wr (s5.notb ea5 na5),(s5.tb t ht).2⟩⟩
      ·by_cases e:b=a
       ·rw [e,aE];exact fun z=>nomatch z
       ·rw [af e];exact s5.cd b h
      ·by_cases hj:j=k
       ·subst hj
        rw [ea5] at e6;cases e6;rw [List.getElem?_set_self (by rw [<- s5.len];exact (zB.mp ea5).1)] at e5;cases e5;exact ⟨na5,ws5,aE,g2.mono ex5 fun _ _ z=>z⟩
       ·rw [List.getElem?_set_ne (Ne.symm hj)] at e5
        have hb:b ≠ a:=fun e=>hj (by
         subst e;obtain ⟨l1,q1⟩:=zB.mp e6;obtain ⟨l2,q2⟩:=zB.mp ea5;exact (List.getElem_inj s5.nd).mp (q1.trans q2.symm))
        exact (s5.cell j c b e5 e6).mono ex5 (fun _ _ z=>z) (af hb) fun z=>z
    have endN:∀ {P5 φ5 H5 σ5 sl5 st5},o1=.nx sl5 st5->Frm P1 φ1 (am H1 a (.frz ob (.dK ws))) P5 φ5 H5->Sim X.gm P5 φ5 st5 H5->GL X.gm P5 H5 φ5 sl5 σ5->(lG X.H₀ D).nx σ5 H5:=by
     intro P5 φ5 H5 σ5 sl5 st5 eo f5 s5 rs5;subst eo;simp only [xU] at e4;split at e4
     ·rename_i kvs' hw
      cases e4;obtain ⟨o5,ws5,g1,g2,g3,g4⟩:=back f5 s5 hw;exact ⟨a,o5,ws5,g1,hn,q P5 φ5 _ σ5 g2 g3 ⟨rs5.1,fun i v e=>let ⟨w,e',r⟩:=rs5.2 i v e;⟨w,e',r.mono g4 fun _ _ z=>z⟩⟩⟩
     ·cases e4
    have endR:∀ {P5 φ5 H5 v5 st5 w5},o1=.rt v5 st5->Frm P1 φ1 (am H1 a (.frz ob (.dK ws))) P5 φ5 H5->Sim X.gm P5 φ5 st5 H5->RA X.gm P5 H5 φ5 v5 w5->(lG X.H₀ D).rt w5 H5:=by
     intro P5 φ5 H5 v5 st5 w5 eo f5 s5 r5;subst eo;simp only [xU] at e4;split at e4
     ·rename_i kvs' hw
      cases e4;obtain ⟨o5,ws5,g1,g2,g3,g4⟩:=back f5 s5 hw;exact ⟨a,o5,ws5,g1,hn,q P5 φ5 _ w5 g2 g3 (r5.mono g4 fun _ _ z=>z)⟩
     ·cases e4
    refine ⟨fun i m σ' H'=>m=ws.length - i/\i <= ws.length/\∃ P' φ' sl' st',Frm P1 φ1 (am H1 a (.frz ob (.dK ws))) P' φ' H'/\Sim X.gm P' φ' st' H'/\GL X.gm P' H' φ' sl' σ'/\cJ [] g s ((GE.map fun q=>mF q.1).drop i) sl' st'=some o1,
     ⟨_,rfl,Nat.zero_le _,P1,φ1,sl,_,Frm.refl,sw,rsw,by simpa using e3⟩,?_⟩
    rintro i m σ' H' ⟨rfl,hle,P2,φ2,sl2,st2,f2,s2,rs2,eg⟩;have hfz:H' a=some (.frz ob (.dK ws)):=f2.fz a _ _ aE;rcases yO i ws.length with hlt | hge
    ·right
     rw [List.drop_eq_getElem_cons (by rw [hkeys];exact hlt)] at eg;simp only [cJ,bW,if_true] at eg;obtain ⟨q4,e5,e6⟩:=zA eg;obtain ⟨o2,e7,e8⟩:=zA e6;refine ⟨⟨hfz,hlt⟩,fun σ' H'=>∃ P' φ' sl' st',Frm P1 φ1 (am H1 a (.frz ob (.dK ws))) P' φ' H'/\Sim X.gm P' φ' st' H'/\GL X.gm P' H' φ' sl' σ'/\cJ [] g s ((GE.map fun q=>mF q.1).drop (i + 1)) sl' st'=some o1,fun σ' H' z=>⟨_,by omega,rfl,hlt,z⟩,fun x H3 hy=>?_⟩;obtain ⟨rfl,hx⟩:=hy;have rx:RA X.gm P2 H3 φ2 ((GE.map fun q=>mF q.1)[i]'(by rw [hkeys];exact hlt)) x:=by
      have hkw:GE[i]?.map (·.1)=ws[i]?.map (·.1):=by rw [<- zR,<- zR,h2.1]
      have hlt':i < GE.length:=by rw [zH] at hkeys;omega
      rw [zR,zF hlt] at hx;rw [zF hlt',zF hlt] at hkw;simp only [map_some,Option.some.injEq] at hx hkw;rw [List.getElem_map,hkw,<- hx];cases ws[i].1 with
      | inl n=>simp only [mF,RA,kV]
      | inr z=>simp only [mF,RA,kV]
     refine ⟨P2,φ2,sl2,st2,_,rs2,s2,rx,q4.1,q4.2,e5,fun P4 φ4 H4 σ4 f4 s4 rs4=>⟨P4,φ4,q4.1,q4.2,rs4,s4,o2,e7,?_⟩⟩;have fa:=f2.trans f4;cases o2 with
     | nx sl5 st5=>exact fun P5 φ5 H5 σ5 f5 s5 rs5=>⟨P5,φ5,sl5,st5,fa.trans f5,s5,rs5,e8⟩
     | ct sl5 st5=>exact fun P5 φ5 H5 σ5 f5 s5 rs5=>⟨P5,φ5,sl5,st5,fa.trans f5,s5,rs5,e8⟩
     | bk sl5 st5=>exact fun P5 φ5 H5 σ5 f5 s5 rs5=>endN (yB e8).symm (fa.trans f5) s5 rs5
     | rt v st5=>exact fun P5 φ5 H5 w f5 s5 r5=>endR (yB e8).symm (fa.trans f5) s5 r5
    ·left
     have ei:i=ws.length:=Nat.le_antisymm hle hge;subst ei;rw [<- hkeys,List.drop_length] at eg;simp only [cJ,bW,if_true] at eg;exact ⟨⟨hfz,zP _⟩,endN (yB eg).symm f2 s2 rs2⟩
   ·cases e2
  ·cases e2
end
end R
namespace R
open PySem PySem.Spec PyProof.Rows L2
noncomputable def bx:Expr->Bool
 | .Starred _ _=>false
 | _=>true
noncomputable def jL:Expr->Bool
 | .Slice _ _ _ _=>false
 | _=>true
noncomputable def o7:Expr->Bool
 | .Set _ _ _=>false
 | _=>true
noncomputable def jn:Expr->Bool
 | .Call (.Name _ _) [] [] _=>false
 | _=>true
noncomputable def iy:Expr->Bool
 | .ListComp _ _ _ _=>false
 | .SetComp _ _ _ _=>false
 | .DictComp _ _ _ _ _=>false
 | _=>true
noncomputable def tY:Expr->Bool
 | .Tuple _ _ _=>false
 | _=>true
noncomputable def qu:Expr->Bool
 | .UnaryOp .Not _ _=>false
 | .BoolOp _ _ _=>false
 | .IfExp _ _ _ _=>false
 | .Compare _ _ _ _=>false
 | _=>true
section
variable {env:Env}{e o i a b:Expr}{es:List Expr}{pos cpos apos:Pos}{f:Str}
theorem ay (h:bx e=true):starEach (e::es) env=(false,eval e env)::starEach es env:=by
 cases e <;> first | rfl | cases h
theorem eR (h:es.all bx=true):(backTo pos (starEach es env)).any (·.1)=false:=by
 induction es with
 | nil=>rfl
 | cons e es ih =>
  rw [List.all_cons,zC] at h;rw [ay h.1];show (false || (backTo pos (starEach es env)).any (·.1))=false;rw [ih h.2];rfl
theorem sN (h:es.all bx=true):(backTo pos (starEach es env)).all (fun x=>!x.1)=true:=by
 induction es with
 | nil=>rfl
 | cons e es ih =>
  rw [List.all_cons,zC] at h;rw [ay h.1];show (true && (backTo pos (starEach es env)).all (fun x=>!x.1))=true;rw [ih h.2];rfl
theorem DX (h:es.all bx=true) (hl:es.length < 30):((backTo cpos (starEach es env)).all (fun x=>!x.1) && (backToKw cpos (keywordEach [] env)).all (fun x=>x.1.isSome) && decide (es.length + ([]:List Keyword).length + (if ([]:List Keyword).isEmpty then 0 else 1) < 30))=true:=by
 rw [sN h];have:decide (es.length + ([]:List Keyword).length + (if ([]:List Keyword).isEmpty then 0 else 1) < 30)=true:=yP (by simpa using hl);rw [this];rfl
theorem du (w:Sem Value) (h:jn o=true):attributeBase o f env w=w:=by
 unfold attributeBase;split
 ·simp [jn] at h
 ·rfl
theorem n5 (hb:jn o=true) (hs:es.all bx=true) (hl:es.length < 30) (hline:(apos.endLine == pos.line)=true):eval (.Call (.Attribute o f apos) es [] pos) env=(do
   let ov <- eval o env
   standAt apos.atName
   let (f,first) <- holding [ov] (getMethod ov f (do return (<- importBound o env).getD true))
   callWith pos f first (backTo pos (starEach es env)) (backToKw pos (keywordEach [] env))):=by
 rw [arm_eval_Call,du _ hb];have hform:methodCallForm (es.length + ([]:List Keyword).length) (backTo pos (starEach es env)) (backToKw pos (keywordEach [] env))=true:=DX hs hl;have hpos:methodCallPos true o env apos pos=pure pos:=by unfold methodCallPos;simp [hline]
 unfold methodCall;rw [hform,hpos];rfl
theorem jz (h:o7 e=true) (x:Value):foldedSetIterable e env x=pure x:=by
 cases e <;> first | rfl | cases h
theorem CB (h:jL i=true):kW i:=fun _ _=>by
 cases i <;> first | rfl | cases h
theorem x3 (h:jL i=true) (v:Value):assign (.Subscript o i pos) env v=(do
   let ov <- holding [v] (eval o env)
   let iv <- holding [v,ov] (eval i env)
   standAt pos
   holding [v,ov,iv] (setItem ov iv v)
   release [v,ov,iv] []):=by
 cases i <;> first | rfl | cases h
theorem ny {l:Nat} (h:iy e=true):swapsWith e t l env=pure false:=by
 cases e <;> first | rfl | cases h
theorem sH {l:Nat}:swapsWith e (some (.Attribute o f p)) l env=pure false:=by
 cases e <;> rfl
noncomputable def Ds (nm:List (Str × NameKind)) (t:Str) (tl:Nat) (sc:Scope) (vl:Nat):Bool:=decide (nm.lookup t=some .local) && (tl == vl) && !(sc.names.any fun (n,k)=>n == t && (k == .local || k == .cell))
theorem x0 {l:Nat} (hk:env.scope.kind=.function) :
  swapsWith (.ListComp elt gens sc pos) (some (.Name t p)) l env=pure (Ds env.scope.names t p.line sc pos.line):=by
 have hb:env.blockKind=.function:=by unfold Env.blockKind;rw [hk];rfl
 show (pure (env.blockKind == .function && env.kindOf t == some .local && p.line == pos.line && !(sc.names.any fun (n,k)=>n == t && (k == .local || k == .cell))):Sem Bool)=_;rw [hb];have:(env.kindOf t == some NameKind.local)=decide (env.scope.names.lookup t=some .local):=by
  show (env.scope.names.lookup t == some NameKind.local)=_;cases h:env.scope.names.lookup t with
  | none=>rfl
  | some k=>cases k <;> rfl
 rw [this];rfl
theorem sK:swappedStores [.Subscript a b p] e env=pure none:=by cases e <;> rfl
theorem sJ {k:Nat} (h:tY e=true):swappedStores [.Tuple ts k p] e env=pure none:=by cases e <;> first | rfl | cases h
theorem ow (h:bx e=true):(assignEach [e] env).map (·.2)=[assign e env]:=by
 cases e <;> first | rfl | cases h
theorem uu (h:bx e=true):(assignEach (e::es) env).map (·.2)=assign e env::(assignEach es env).map (·.2):=by
 cases e <;> first | rfl | cases h
theorem uv:(assignEach es env).length=es.length:=by
 induction es with
 | nil=>rfl
 | cons e es ih=>cases e <;> (show (assignEach es env).length + 1=es.length + 1;rw [ih])
theorem uw (h:es.all bx=true):(assignEach es env).findIdx? (·.1)=none:=by
 have:∀ p ∈ assignEach es env,p.1=false:=by
  induction es with
  | nil=>intro p hp;cases hp
  | cons e es ih =>
   rw [List.all_cons,zC] at h;have e1:assignEach (e::es) env=(false,assign e env)::assignEach es env:=by
    cases e <;> first | rfl | cases h.1
   rw [e1];intro p hp;rcases zT.mp hp with rfl | hp
   ·rfl
   ·exact ih h.2 p hp
 rw [List.findIdx?_eq_none_iff];intro p hp;rw [this p hp]
theorem vN (h:qu e=true) (whole:Sem Value):isTrue e env whole=(do let v <- whole;standAt e.pos;holding [v] (truthy v)):=by
 cases e with
 | UnaryOp op x p=>cases op <;> first | rfl | cases h
 | BoolOp=>cases h
 | IfExp=>cases h
 | Compare=>cases h
 | _=>rfl
end
noncomputable def BA (a c:Int) (n:Nat):It:=⟨fun i _=>i < n,fun i H x H'=>H'=H/\x=.int (a + (i:Int) * c),fun i _=>n <= i⟩
theorem xS {P:Program}{w:World}{K:Frag}{tg:Expr} (it:Addr) (a c:Int) (n:Nat):fV P w K tg (BA a c n) [it] it (fun i h=>IsRangeIter h it (a + (i:Nat) * c) ((n:Int) - (i:Nat)) c) where
 mem:=by simp
 obj:=fun i h st b hb=>by
  obtain rfl:b=it:=by simpa using hb
  exact ⟨_,st,fun v z=>nomatch (show Data.fields _=Data.cell v from z)⟩
 keep:=fun i h h' st k=>k it (by simp) _ st
 item:=by
  intro X hP hw hK hc i GD s σ H E I hf st hg;subst hP hw hK;obtain ⟨f0,f1,f2,f3,f4,f5⟩:=hf it (by simp);refine (Walks.range (prog:=X.prog) (w:=X.w) (I.ok.hd hc) it a c n).item i s _ _ hg st fun v h' tk hv st' kk=>?_
  obtain ⟨t,rfl⟩:=hv;have I1:Inv X GD σ H { s with heap:=h',toks:=tk }:=I.turned (fun b o hb e=>kk b o (by simpa using hb) e) f0 f1 f3 f4 f5;exact ⟨_,rfl,iH (s:={ s with heap:=h',toks:=tk }) (n:="range_iterator") st' rfl rfl dC ⟨.int (a + (i:Int) * c),H,I1,⟨t,rfl⟩,⟨rfl,rfl⟩,st',fun b hb=>(hf b hb).1⟩⟩
 done:=by
  intro X hP hw hK hc i GD s σ H E I hf st hg;subst hP hw hK;obtain ⟨f0,f1,f2,f3,f4,f5⟩:=hf it (by simp);exact wpAny_pyNext_range_end (I.ok.hd hc) st (by have:n <= i:=hg;omega) fun h' eb=>⟨rfl,I.turned (t':=s.toks) (fun b o hb e=>eb b o hb e) f0 f1 f3 f4 f5⟩
 self:=fun _ _ _ _ _ st h=>wpAny_pyIter_rangeiter st h
noncomputable def jC (a b c:Int):Bool:=decide (0 < c) && Nat.ble c.natAbs 1000000 && Builtin.Range.small a b c
noncomputable def dZ (a b c:Int):Nat:=(Builtin.Range.rangeSize a b c).toNat
def ji (a b c:Int):List AV:=(List.range (dZ a b c)).map fun (i:Nat)=>.int (a + (i:Int) * c)
theorem vR {a b c:Int} (hc:0 < c):0 <= Builtin.Range.rangeSize a b c:=by
 unfold Builtin.Range.rangeSize;rw [yF (show c > 0 from hc)];split
 ·have:=Int.ediv_nonneg (a:=b - a - 1) (b:=c) oM oM;omega
 ·exact Int.le_refl _
section
variable {X:Cx}{tg:Expr}{mg:Gm}{P:Pr}{φ:List Addr}{H:Hp}{a b c:Expr}{f g h:EF}{p pos:Pos}
def FC (ta:TA):TI:=fun σ H R=>ta σ H fun vs H1=>∃ i j k:Int,vs=[.int i,.int j,.int k]/\jC i j k=true/\R (BA i k (dZ i j k)) H1
theorem EJ {ta:TA} (hg:Gl X "range") (hm:X.mg "range"=none) (ha:PA X [a,b,c] ta) (hs:starEach [a,b,c] X.env=[(false,eval a X.env),(false,eval b X.env),(false,eval c X.env)])
  (hs2:starEach [b,c] X.env=[(false,eval b X.env),(false,eval c X.env)]):PI X tg (.Call (.Name "range" p) [a,b,c] [] pos) (FC ta):=by
 intro GD s σ H R I h;refine Call_ (d8 I hg hm boot_range (PyProof.Rows.callWith_type1 (aB (ha pos GD s σ H _ I h) fun us s1 hq0=>?_) (by rw [hs,hs2]) (by rw [hs2];rfl)));obtain ⟨vs,H1,I1,r1,i,j,k,e,hb,q⟩:=hq0;subst e;unfold jC at hb;simp only [zC,z7] at hb;obtain ⟨⟨h1,h2⟩,h3⟩:=hb;have h2:=zS h2;obtain ⟨u1,us1,rfl,ru1,r2⟩:∃ u us',us=u::us'/\RelV (.int i) u/\Vals [.int j,.int k] us':=by cases r1 with | cons r rr=>exact ⟨_,_,rfl,r,rr⟩
 obtain ⟨u2,us2,rfl,ru2,r3⟩:∃ u us',us1=u::us'/\RelV (.int j) u/\Vals [.int k] us':=by cases r2 with | cons r rr=>exact ⟨_,_,rfl,r,rr⟩
 obtain ⟨u3,us3,rfl,ru3,r4⟩:∃ u us',us2=u::us'/\RelV (.int k) u/\Vals [] us':=by cases r3 with | cons r rr=>exact ⟨_,_,rfl,r,rr⟩
 cases r4;obtain ⟨t1,rfl⟩:=ru1;obtain ⟨t2,rfl⟩:=ru2;obtain ⟨t3,rfl⟩:=ru3;refine call_range_3 oM ?_ (Or.inl (PyProof.noPylong_small oM));refine wpAny_pyIter_range (IsRange.new ..) h3 ?_;have I2:Inv X GD σ H1 { s1 with heap:=s1.heap.push { cls:=.type "range",data:=.fields #[.int i t1,.int j t2,.int k t3] },toks:=s1.toks }:=I1.kept fun b o e=>zG _ e
 refine ⟨(s1.heap.push { cls:=.type "range",data:=.fields #[.int i t1,.int j t2,.int k t3] }).objs.size,[(s1.heap.push { cls:=.type "range",data:=.fields #[.int i t1,.int j t2,.int k t3] }).objs.size],_,_,H1,rfl,I2.kept (t':=s1.toks) fun b o e=>zG _ e,xS _ i k (dZ i j k),?_,fun b hb=>?_,q⟩
 ·have e1:i + ((0:Nat):Int) * k=i:=by simp
  have e2:((dZ i j k:Nat):Int) - ((0:Nat):Int)=Builtin.Range.rangeSize i j k:=by have:=vR (a:=i) (b:=j) h1;unfold dZ;omega
  show IsRangeIter _ _ (i + ((0:Nat):Int) * k) (((dZ i j k:Nat):Int) - ((0:Nat):Int)) k;rw [e1,e2];exact zY _ rfl
 ·obtain rfl:b=(s1.heap.push { cls:=.type "range",data:=.fields #[.int i t1,.int j t2,.int k t3] }).objs.size:=by simpa using hb
  exact I2.fpOk (zP _) (I2.GJ.fresh (zP _))
theorem CC [GG] {i k:Int}{j:Int}:m7 mg (BA i k (dZ i j k)) ⟨ji i j k,[]⟩ P φ H where
 go:=fun P2 φ2 H2 st2 m y f s g e=>by
  unfold ji at e;rw [zR] at e;obtain ⟨c,e1,e2⟩:=zE.mp e;obtain ⟨h1,h2⟩:=zB.mp e1;rw [List.getElem_range] at h2;subst h2 e2;rw [List.length_range] at h1;refine ⟨h1,fun w H3 hq=>?_⟩;obtain ⟨hH,hw⟩:=hq;subst hH;exact ⟨P2,Frm.refl,s,by simp only [RA];exact hw⟩
 stop:=fun P2 φ2 H2 st2 f s g=>by
  show dZ i j k <= (ji i j k).length;simp [ji]
theorem Fv [GG] {σ:St}{Q:List V->Hp->Prop}{sl:Sl}{st:aa} (rs:GL mg P H φ sl σ) (s:Sim mg P φ st H)
  (hh:∃ v st1 u st2 x st3,f sl st=some (v,st1)/\g sl st1=some (u,st2)/\h sl st2=some (x,st3)/\∀ P1 φ1 H1 w w' w'',Frm P φ H P1 φ1 H1->Sim mg P1 φ1 st3 H1->RA mg P1 H1 φ1 v w->RA mg P1 H1 φ1 u w'->RA mg P1 H1 φ1 x w''->Q [w,w',w''] H1):rA mg (dM f (dM g (dM h dL))) σ H Q:=by
 obtain ⟨v,st1,u,st2,x,st3,e,e',e'',k⟩:=hh;refine ⟨P,φ,sl,st,rs,s,[v,u,x],st3,by simp only [dM,dL,e,e',e'',bind_some],fun P1 φ1 H1 ws f1 s1 r1=>?_⟩;simp only [GI] at r1;obtain ⟨w,us,rfl,r,w',us',rfl,r',w'',us'',rfl,r'',rfl⟩:=r1;exact k P1 φ1 H1 w w' w'' f1 s1 r r' r''
def vf (f g h:EF):IF:=fun sl st=>(f sl st).bind fun p=>(g sl p.2).bind fun q=>(h sl q.2).bind fun r=>match p.1,q.1,r.1 with
 | .int i,.int j,.int k=>if jC i j k=true then some (⟨ji i j k,[]⟩,r.2) else none
 | _,_,_=>none
theorem BZ [GG] (hg:Gl X "range") (hm:X.mg "range"=none) (ha:QE X a f) (hb:QE X b g) (hc:QE X c h) (hs:starEach [a,b,c] X.env=[(false,eval a X.env),(false,eval b X.env),(false,eval c X.env)]) (hs2:starEach [b,c] X.env=[(false,eval b X.env),(false,eval c X.env)]) (hs3:starEach [c] X.env=[(false,eval c X.env)]) :
  QI X tg (.Call (.Name "range" p) [a,b,c] [] pos) (vf f g h) :=
 eQ (EJ hg hm (cQ ha (cQ hb (cQ hc eT (by rw [hs3];rfl)) (by rw [hs2,hs3])) (by rw [hs,hs2])) hs hs2) fun σ H R hq=>by
  obtain ⟨P,φ,sl,st,rs,s,iv,st',ef,k⟩:=hq;obtain ⟨q,e1,e2⟩:=zA ef;obtain ⟨r,e3,e4⟩:=zA e2;obtain ⟨t,e5,e6⟩:=zA e4;refine Fv rs s ⟨q.1,q.2,r.1,r.2,t.1,t.2,e1,e3,e5,fun P1 φ1 H1 w w' w'' f1 s1 r1 r2 r3=>?_⟩;split at e6
  ·rename_i i j m ei ej em
   rw [ei] at r1;rw [ej] at r2;rw [em] at r3;split at e6
   ·rename_i hb
    cases e6;simp only [RA] at r1 r2 r3;subst r1;subst r2;subst r3;exact ⟨i,j,m,rfl,hb,k P1 φ1 H1 _ f1 s1 CC⟩
   ·cases e6
  ·cases e6
end
end R
namespace R
open PySem PySem.Spec PyProof.Rows L2
open DD (PE_imp PT_imp)
def uM (o o':CmpOp) (f g h:EF):TF:=fun sl st=>(f sl st).bind fun p=>(g sl p.2).bind fun q=>(bA o q.2 p.1 q.1).bind fun b=>if b=true then (h sl q.2).bind fun r=>(bA o' r.2 q.1 r.1).map fun c=>(c,r.2) else some (false,q.2)
def Ee (o o':CmpOp) (f g h:EF):EF:=fun sl st=>(uM o o' f g h sl st).map fun p=>(.bl p.1,p.2)
section
variable {X:Cx}{a b c:Expr}{f g h:EF}{o o':CmpOp}{pos:Pos}
theorem Bg [GG] {mg:Gm}{P:Pr}{φ:List Addr}{H:Hp}{sl:Sl}{st st':aa}{σ:St}{d:Bool}{Q:VK} (rs:GL mg P H φ sl σ) (s:Sim mg P φ st H) (e:uM o o' f g h sl st=some (d,st'))
  (k:∀ P' φ' H',Frm P φ H P' φ' H'->Sim mg P' φ' st' H'->Q (.bl d) H'):lX (r2 mg (eS (fe o))) (r2 mg (eS (fe o'))) (rE mg f) (rE mg g) (rE mg h) σ H Q:=by
 obtain ⟨p,e1,e⟩:=zA e;obtain ⟨q,e2,e⟩:=zA e;obtain ⟨v,e3,e⟩:=zA e;refine ⟨P,φ,sl,st,rs,s,p.1,p.2,e1,fun P1 φ1 H1 x f1 s1 r1=>⟨P1,φ1,sl,p.2,rs.frm f1,s1,q.1,q.2,e2,fun P2 φ2 H2 y f2 s2 r2 =>
  ⟨P2,φ2,q.2,p.1,q.1,s2,r1.frm f2,r2,.bl v,q.2,by simp only [eS,fe,e3,map_some],fun P3 φ3 H3 z f3 s3 r3=>⟨v,by simpa only [RA] using r3,?_⟩⟩⟩⟩
 have f03:=(f1.trans f2).trans f3;cases v with
 | false =>
  cases e;rw [yE dC];exact k P3 φ3 H3 f03 s3
 | true =>
  obtain ⟨r,e4,e⟩:=zA e;obtain ⟨w,e5,e⟩:=zE.mp e;cases e;rw [yF rfl];refine ⟨P3,φ3,sl,q.2,rs.frm f03,s3,r.1,r.2,e4,fun P4 φ4 H4 z f4 s4 r4=>⟨P4,φ4,r.2,q.1,r.1,s4,(r2.frm f3).frm f4,r4,.bl d,r.2,by simp only [eS,fe,e5,map_some],fun P5 φ5 H5 z f5 s5 r5=>?_⟩⟩;have:z=.bl d:=by simpa only [RA] using r5
  subst this;exact k P5 φ5 H5 ((f03.trans f4).trans f5) s5
theorem BV [GG] (hu:X.A.units + 64 < cLine) (ha:QE X a f) (hb:QE X b g) (hc:QE X c h) (hm:lastMarks [o,o'] [b,c]=false):QT X (.Compare a [o,o'] [b,c] pos) (uM o o' f g h) :=
 PT_imp (tB (f7 hu o) (f7 hu o') ha hb hc hm) fun σ H Q hq=>by
  obtain ⟨P,φ,sl,st,rs,s,d,st',e,k⟩:=hq;exact Bg rs s e fun P' φ' H' f' s'=>⟨d,rfl,k P' φ' H' d f' s' rfl⟩
theorem B8 [GG] (hu:X.A.units + 64 < cLine) (ha:QE X a f) (hb:QE X b g) (hc:QE X c h) (hm:lastMarks [o,o'] [b,c]=false):QE X (.Compare a [o,o'] [b,c] pos) (Ee o o' f g h) :=
 PE_imp (tM (f7 hu o) (f7 hu o') ha hb hc hm) fun σ H Q hq=>by
  obtain ⟨P,φ,sl,st,rs,s,d,st',e,k⟩:=hq;obtain ⟨p,e1,e2⟩:=zE.mp e;cases e2;exact Bg rs s e1 fun P' φ' H' f' s'=>k P' φ' H' _ f' s' (by simp only [RA])
end
end R
namespace R
open PySem PySem.Spec PyProof.Rows L2
set_option genInjectivity false
set_option genSizeOf false
set_option genSizeOfSpec false
inductive Bi where
 | len | sum | all | any | abs | min | max | int
inductive Mi where
 | app | ext | bl
mutual
inductive Ex where
 | n | b (x:Bool) | i (x:Int) | s (x:Str) | v (k:Nat) | g (x:Str) (c:AV) | bin (o:Operator) (a b:Ex) | cmp (o:CmpOp) (a b:Ex) | un (o:UnaryOp) (a:Ex) | no (a:Ex) | an (a b:Ex) | or (a b:Ex) | ife (t:Tx) (a b:Ex) | ix (a b:Ex) | tu (es:Exs) | nw (m:Bool) (x:Nx) | ca (p:Bool) (j:Nat) (es:Exs) | me (c m:Str) (j:Nat) (o:Ex) (es:Exs) | ne (c:Str) (j:Nat) (es:Exs) | fd (c f:Str) (o:Ex) | bi (b:Bi) (es:Exs) | is (T:String) (a:Ex) | mt (m:Mi) (o:Ex) (es:Exs) | dn | ch (o o':CmpOp) (a b c:Ex)
inductive Tx where
 | va (e:Ex) | cmp (o:CmpOp) (a b:Ex) | no (t:Tx) | an (t u:Tx) | or (t u:Tx) | ch (o o':CmpOp) (a b c:Ex)
inductive Exs where
 | nil | cons (e:Ex) (es:Exs)
inductive Nx where
 | li (es:Exs) | cat (a b:Ex) | rep (es:Exs) (b:Ex) | sl (a:Ex) (l h:Ox) | lof (a:Ex) | lc (k:Nat) (it:Ix) (t:Tg) (c:Cx') (e:Ex)
inductive Ox where
 | no | so (e:Ex)
inductive Cx' where
 | no | so (t:Tx)
inductive Ix where
 | e (a:Ex) | r1 (a:Ex) | r2 (a b:Ex) | zi (a b:Ex) | en (a:Ex) | r3 (a b c:Ex)
inductive Tg where
 | nm (k:Nat) | tu (n:Nat) (ts:Tgs) | su (a b:Ex)
inductive Tgs where
 | nil | cons (t:Tg) (ts:Tgs)
end
mutual
inductive Sx where
 | ex (e:Ex) | as (e:Ex) (t:Tg) | fl (c f:Str) (o e:Ex) | rt (e:Ex) | iff (t:Tx) (a b:GK) | fo (it:Ix) (t:Tg) (b:GK) | wh (t:Tx) (b:GK) | dead | fd (a:Ex) (t:Tg) (b:GK)
inductive GK where
 | nil | cons (s:Sx) (ss:GK) | dead
end
def im:Bi->BF
 | .len=>bI dF
 | .sum=>bI lY
 | .all=>bI kT
 | .any=>bI mX
 | .abs=>bI io
 | .min=>bI mz
 | .max=>bI pe
 | .int=>bI pB
def qK:Mi->MF
 | .app=>pq
 | .ext=>pj
 | .bl=>Aw
noncomputable def qL:Mi->String
 | .bl=>"int"
 | _=>"list"
def kf (ks:List Fn) (j:Nat):Fn:=ks.getD j fun _ _=>none
def qt (p:Bool) (fn:Fn):Fn:=if p=true then pm fn else fn
section
variable (ks:List Fn)
mutual
noncomputable def ev:Ex->EF
 | .n=>aC .non
 | .b x=>aC (.bl x)
 | .i x=>aC (.int x)
 | .s x=>aC (.str x)
 | .v k=>aV k
 | .g _ c=>aC c
 | .bin o a b=>a2 (ev a) (ev b) (eS (bM o))
 | .cmp o a b=>a2 (ev a) (ev b) (eS (fe o))
 | .un o a=>a1 (ev a) (x4 (iO o))
 | .no a=>vv (ev a)
 | .an a b=>vy (ev a) (ev b)
 | .or a b=>D0 (ev a) (ev b)
 | .ife t a b=>Eb (tv t) (ev a) (ev b)
 | .ix a b=>a2 (ev a) (ev b) (eS cB)
 | .tu es=>DZ (cT es)
 | .nw m x=>vt m (fA x)
 | .ca p j es=>rW (qt p (kf ks j)) (cT es)
 | .me c m j o es=>rV c m (kf ks j) (ev o) (cT es)
 | .ne c j es=>vx c (kf ks j) (cT es)
 | .fd c f o=>Ec c f (ev o)
 | .bi b es=>rX (im b) (cT es)
 | .is T a=>Ea T (ev a)
 | .mt m o es=>kh (qL m) (qK m) (ev o) (cT es)
 | .dn=>Ed false
 | .ch o o' a b c=>Ee o o' (ev a) (ev b) (ev c)
noncomputable def tv:Tx->TF
 | .va e=>tV (ev e)
 | .cmp o a b=>xZ (ev a) (ev b) o
 | .no a=>Dp (tv a)
 | .an a b=>Dr (tv a) (tv b)
 | .or a b=>xW (tv a) (tv b)
 | .ch o o' a b c=>uM o o' (ev a) (ev b) (ev c)
noncomputable def cT:Exs->AF
 | .nil=>dL
 | .cons e es=>dM (ev e) (cT es)
noncomputable def fA:Nx->NF
 | .li es=>DJ (cT es)
 | .cat a b=>kC (ev a) (ev b)
 | .rep es b=>tZ (cT es) (ev b)
 | .sl a l h=>uZ (ev a) (mL l) (mL h)
 | .lof a=>o8 (ev a)
 | .lc k it t c e=>u0 k (b8 it) (cU t) (mN c) (ev e)
noncomputable def mL:Ox->OF
 | .no=>DG
 | .so e=>Ah (ev e)
noncomputable def mN:Cx'->TF
 | .no=>Dn
 | .so e=>tv e
noncomputable def b8:Ix->IF
 | .e a=>iE (ev a)
 | .r1 a=>AR (ev a)
 | .r2 a b=>AQ (ev a) (ev b)
 | .zi a b=>iZ (ev a) (ev b)
 | .en a=>DT (ev a)
 | .r3 a b c=>vf (ev a) (ev b) (ev c)
noncomputable def cU:Tg->GF
 | .nm k=>rj k
 | .tu n ts=>rh n (fK ts)
 | .su a b=>DU (ev a) (ev b)
noncomputable def fK:Tgs->m8
 | .nil=>AX
 | .cons t ts=>AY (cU t) (fK ts)
end
mutual
noncomputable def cK:Sx->SF
 | .ex e=>Dy (ev ks e)
 | .as e t=>qf (ev ks e) (cU ks t)
 | .fl c f o e=>x6 c f (ev ks o) (ev ks e)
 | .rt e=>Du (ev ks e)
 | .iff t a b=>Dw (tv ks t) (ao a) (ao b)
 | .fo it t b=>Dx (b8 ks it) (cU ks t) (ao b)
 | .wh t b=>qe (tv ks t) (ao b)
 | .dead=>uN
 | .fd a t b=>sR (ev ks a) (cU ks t) (ao b)
noncomputable def ao:GK->SF
 | .nil=>Dv
 | .cons s ss=>Dt (cK s) (ao ss)
 | .dead=>uN
end
end
inductive Ke where
 | f (x:Str) (n:Nat) | m (c m:Str) (n:Nat) | k (c:Str) (n:Nat)
structure SC where
 N:List Str
 nm:List (Str × NameKind)
 cf:List Str
 ke:List Ke
 gs:List (Str × AV)
 cl:List (Str × List Str)
 la:List Pos
noncomputable def kd (C:SC) (x:Str):Option NameKind:=C.nm.lookup x
def sv (C:SC) (x:Str):Bool:=match kd C x with
 | some .local=>true
 | some .cell=>true
 | some .free=>true
 | _=>false
def pr (C:SC) (x:Str):Bool:=match kd C x with
 | some .local=>true
 | some .cell=>C.cf.contains x
 | _=>false
def fb (C:SC) (x:Str):Bool:=(match kd C x with
 | some .globalImplicit=>true
 | _=>false) && !(x == ("__debug__":Str))
noncomputable def qG (C:SC) (k:Nat) (x:Str):Bool:=(match C.N[k]? with
 | some y=>y == x
 | none=>false) && !(x == ("__debug__":Str)) && !(x == ("__classdict__":Str))
def AW (C:SC) (x:Str) (c:AV):Bool:=C.gs.any fun p=>p.1 == x && cn p.2 c && (jA c).isSome
noncomputable def vo (C:SC) (c f:Str):Bool:=C.cl.any fun p=>p.1 == c && p.2.contains f
noncomputable def DS (C:SC) (j:Nat) (x:Str) (n:Nat):Bool:=match C.ke[j]? with
 | some (.f y m)=>y == x && m == n
 | _=>false
noncomputable def DQ (C:SC) (j:Nat) (c m:Str) (n:Nat):Bool:=match C.ke[j]? with
 | some (.m c' m' k)=>c' == c && m' == m && k == n
 | _=>false
noncomputable def DR (C:SC) (j:Nat) (c:Str) (n:Nat):Bool:=match C.ke[j]? with
 | some (.k c' k)=>c' == c && k == n
 | _=>false
noncomputable def bnames:List Str:=["len","sum","all","any","abs","min","max","int","tuple","range","zip","enumerate","list","isinstance","bool","str","sorted"]
noncomputable def Bi.nm:Bi->Str
 | .len=>"len"
 | .sum=>"sum"
 | .all=>"all"
 | .any=>"any"
 | .abs=>"abs"
 | .min=>"min"
 | .max=>"max"
 | .int=>"int"
noncomputable def Mi.nm:Mi->Str
 | .app=>"append"
 | .ext=>"extend"
 | .bl=>"bit_length"
noncomputable def Dl (T:String) (y:Str):Bool:=(y == ("int":Str) && T == "int") || (y == ("bool":Str) && T == "bool") || (y == ("list":Str) && T == "list") || (y == ("tuple":Str) && T == "tuple") || (y == ("str":Str) && T == "str")
noncomputable def zr (sc:Scope):List Str:=(sc.names.filter fun p=>(match p.2 with | .local=>true | .cell=>true | _=>false) && !(p.1 == (".0":Str))).map (·.1)
noncomputable def AL (sc:Scope) (x:Str):Bool:=match sc.names.lookup x with
 | some .free=>true
 | _=>false
def ff (C:SC) (sc:Scope):List Str:=(C.N.map fun x=>if AL sc x=true then x else x++("!":Str))++zr sc
noncomputable def DV:NameKind->Bool
 | .free=>true
 | _=>false
noncomputable def vp:Option NameKind->Bool
 | some .cell=>true
 | _=>false
def blk (C:SC) (sc:Scope):SC:={ C with N:=ff C sc,nm:=sc.names.map fun p=>if (DV p.2 && vp (kd C p.1))=true then (p.1,.cell) else (p.1,p.2),cf:=(sc.names.filter fun p=>vp (some p.2)).map (·.1),la:=[] }
def pJ (C:SC) (sc:Scope):Bool :=
 (match sc.kind with | .function=>true | _=>false) && decide (sc.names.map (·.1)).Nodup && decide (ff C sc).Nodup &&
 (sc.names.all fun p=>match p.2 with | .free=>(match kd C p.1 with | some .cell=>true | some .free=>true | _=>false) | _=>true) &&
 ((List.range C.N.length).all fun i=>match (ff C sc)[i]? with
  | some x=>(match sc.names.lookup x with
   | some .free=>decide (C.N[i]?=some x)
   | some _=>false
   | none=>true)
  | none=>false)
mutual
noncomputable def kr (n:Nat):Tg->Bool
 | .nm k=>Nat.ble n k
 | .tu _ ts=>lH n ts
 | .su _ _=>false
noncomputable def lH (n:Nat):Tgs->Bool
 | .nil=>true
 | .cons t ts=>kr n t && lH n ts
end
def Gv (C:SC) (sc:Scope) (ps:Arguments):Bool:=pJ C sc && !sc.isCoroutine && !sc.isGenerator && gY ps && ps.defaults.isEmpty && ps.kw_defaults.isEmpty &&
 (match zr sc,ps.args.map (·.arg) with
  | [x],[y]=>x == y && (match sc.names.lookup x with | some .local=>true | _=>false)
  | _,_=>false) && sc.names.all fun p=>!(vp (some p.2))
theorem aS {P:Prop} (h:false=true):P:=nomatch h
theorem bF {a b:Bool}{P:Prop} (h:(a && b)=true) (H:a=true->b=true->P):P:=by cases a;exact aS h;exact H rfl h
section
variable {e:Expr}{s:Stmt}
noncomputable def nN (e:Expr) (k:Str->Bool):Bool:=match e with | .Name x _=>k x | _=>false
@[elab_as_elim] theorem g5 {k:Str->Bool}{P:Expr->Prop} (h:nN e k=true) (H:∀ x p,k x=true->P (.Name x p)):P e:=by cases e with | Name x p=>exact H x p h | _=>exact aS h
noncomputable def qD (e:Expr) (k:Const->Bool):Bool:=match e with | .Constant c _ _=>k c | _=>false
@[elab_as_elim] theorem jJ {k:Const->Bool}{P:Expr->Prop} (h:qD e k=true) (H:∀ c a p,k c=true->P (.Constant c a p)):P e:=by cases e with | Constant c a p=>exact H c a p h | _=>exact aS h
noncomputable def kN (c:Const):Bool:=match c with | .none=>true | _=>false
noncomputable def kB (x:Bool) (c:Const):Bool:=match c with | .bool y=>x == y | _=>false
noncomputable def kI (x:Int) (c:Const):Bool:=match c with | .int y=>x == y | _=>false
noncomputable def kS (x:Str) (c:Const):Bool:=match c with | .str y=>x == y | _=>false
theorem Cy {c:Const} (h:kN c=true):c=.none:=by cases c with | none=>rfl | _=>exact aS h
theorem CA {x:Bool}{c:Const} (h:kB x c=true):c=.bool x:=by cases c with | bool y=>rw [yH h] | _=>exact aS h
theorem Cz {x:Int}{c:Const} (h:kI x c=true):c=.int x:=by cases c with | int y=>rw [yH h] | _=>exact aS h
theorem Cw {x:Str}{c:Const} (h:kS x c=true):c=.str x:=by cases c with | str y=>rw [yH h] | _=>exact aS h
noncomputable def uT (e:Expr) (k:Expr->Operator->Expr->Bool):Bool:=match e with | .BinOp a o b _=>k a o b | _=>false
@[elab_as_elim] theorem mq {k:Expr->Operator->Expr->Bool}{P:Expr->Prop} (h:uT e k=true) (H:∀ a o b p,k a o b=true->P (.BinOp a o b p)):P e:=by cases e with | BinOp a o b p=>exact H a o b p h | _=>exact aS h
noncomputable def eU {α:Type} (l:List α) (k:α->Bool):Bool:=match l with | []=>false | a::r=>r.isEmpty && k a
@[elab_as_elim] theorem cY {α:Type}{l:List α}{k:α->Bool}{P:List α->Prop} (h:eU l k=true) (H:∀ a,k a=true->P ([a])):P l:=by
 rcases l with _ | ⟨a,_ | ⟨b,r⟩⟩
 ·exact aS h
 ·exact H a h
 ·exact aS h
def jl {α:Type} (l:List α) (k:α->α->Bool):Bool:=match l with | []=>false | a::r=>eU r (k a)
@[elab_as_elim] theorem eP {α:Type}{l:List α}{k:α->α->Bool}{P:List α->Prop} (h:jl l k=true) (H:∀ a b,k a b=true->P ([a,b])):P l:=by
 cases l with
 | nil=>exact aS h
 | cons a r=>exact cY h fun b h=>H a b h
def zz (e:Expr) (k:Expr->CmpOp->Expr->Bool):Bool:=match e with | .Compare a os bs _=>eU os fun o=>eU bs fun b=>k a o b | _=>false
@[elab_as_elim] theorem qC {k:Expr->CmpOp->Expr->Bool}{P:Expr->Prop} (h:zz e k=true) (H:∀ a o b p,k a o b=true->P (.Compare a [o] [b] p)):P e:=by
 cases e with
 | Compare a os bs p=>refine cY h fun o h=>?_;refine cY h fun b h=>?_;exact H a o b p h
 | _=>exact aS h
def Aa {α:Type} (l:List α) (k:α->α->α->Bool):Bool:=match l with | []=>false | a::r=>jl r (k a)
@[elab_as_elim] theorem wH {α:Type}{l:List α}{k:α->α->α->Bool}{P:List α->Prop} (h:Aa l k=true) (H:∀ a b c,k a b c=true->P [a,b,c]):P l:=by
 cases l with
 | nil=>exact aS h
 | cons a r=>exact eP h fun b c h=>H a b c h
def tT (e:Expr) (k:Expr->CmpOp->CmpOp->Expr->Expr->Bool):Bool:=match e with | .Compare a os bs _=>jl os fun o o'=>jl bs fun b c=>k a o o' b c | _=>false
@[elab_as_elim] theorem nR {k:Expr->CmpOp->CmpOp->Expr->Expr->Bool}{P:Expr->Prop} (h:tT e k=true) (H:∀ a o o' b c p,k a o o' b c=true->P (.Compare a [o,o'] [b,c] p)):P e:=by
 cases e with
 | Compare a os bs p=>exact eP h fun o o' h=>eP h fun b c h=>H a o o' b c p h
 | _=>exact aS h
noncomputable def uS (e:Expr) (k:UnaryOp->Expr->Bool):Bool:=match e with | .UnaryOp o a _=>k o a | _=>false
@[elab_as_elim] theorem mn {k:UnaryOp->Expr->Bool}{P:Expr->Prop} (h:uS e k=true) (H:∀ o a p,k o a=true->P (.UnaryOp o a p)):P e:=by cases e with | UnaryOp o a p=>exact H o a p h | _=>exact aS h
noncomputable def nM (o:BoolOp) (e:Expr) (k:Expr->Expr->Bool):Bool:=match e with | .BoolOp o' es p=>decide (o=o') && (match es with | x::y::r=>k x (if r.isEmpty=true then y else .BoolOp o (y::r) p) | _=>false) | _=>false
noncomputable def qB (e:Expr) (k:List Expr->Bool):Bool:=match e with | .Tuple es _ _=>k es | _=>false
@[elab_as_elim] theorem jH {k:List Expr->Bool}{P:Expr->Prop} (h:qB e k=true) (H:∀ es a p,k es=true->P (.Tuple es a p)):P e:=by cases e with | Tuple es a p=>exact H es a p h | _=>exact aS h
noncomputable def tR (e:Expr) (k:List Expr->Bool):Bool:=match e with | .List es _=>k es | _=>false
@[elab_as_elim] theorem nO {k:List Expr->Bool}{P:Expr->Prop} (h:tR e k=true) (H:∀ es p,k es=true->P (.List es p)):P e:=by cases e with | List es p=>exact H es p h | _=>exact aS h
noncomputable def uR (e:Expr) (k:Expr->Expr->Bool):Bool:=match e with | .Subscript a b _=>k a b | _=>false
@[elab_as_elim] theorem ml {k:Expr->Expr->Bool}{P:Expr->Prop} (h:uR e k=true) (H:∀ a b p,k a b=true->P (.Subscript a b p)):P e:=by cases e with | Subscript a b p=>exact H a b p h | _=>exact aS h
noncomputable def DB (e:Expr) (k:Option Expr->Option Expr->Option Expr->Bool):Bool:=match e with | .Slice a b c _=>k a b c | _=>false
@[elab_as_elim] theorem zx {k:Option Expr->Option Expr->Option Expr->Bool}{P:Expr->Prop} (h:DB e k=true) (H:∀ a b c p,k a b c=true->P (.Slice a b c p)):P e:=by cases e with | Slice a b c p=>exact H a b c p h | _=>exact aS h
noncomputable def Af (e:Expr) (k:Expr->List Expr->List Keyword->Pos->Bool):Bool:=match e with | .Call f es ks p=>k f es ks p | _=>false
@[elab_as_elim] theorem qE {k:Expr->List Expr->List Keyword->Pos->Bool}{P:Expr->Prop} (h:Af e k=true) (H:∀ f es ks p,k f es ks p=true->P (.Call f es ks p)):P e:=by cases e with | Call f es ks p=>exact H f es ks p h | _=>exact aS h
noncomputable def uU (e:Expr) (k:Expr->Str->Pos->Bool):Bool:=match e with | .Attribute o f p=>k o f p | _=>false
@[elab_as_elim] theorem mr {k:Expr->Str->Pos->Bool}{P:Expr->Prop} (h:uU e k=true) (H:∀ o f p,k o f p=true->P (.Attribute o f p)):P e:=by cases e with | Attribute o f p=>exact H o f p h | _=>exact aS h
def g6 (e:Expr) (k:Str->List Expr->Bool):Bool:=Af e fun f es ks _=>nN f fun x=>ks.isEmpty && k x es
@[elab_as_elim] theorem di {k:Str->List Expr->Bool}{P:Expr->Prop} (h:g6 e k=true) (H:∀ x p es q,k x es=true->P (.Call (.Name x p) es [] q)):P e:=by
 refine qE h fun f es ks q h=>?_
 refine g5 h fun x p h=>?_
 cases ks with
 | nil=>exact H x p es q h
 | cons _ _=>exact aS h
def tU (e:Expr) (k:Expr->Str->Pos->List Expr->Pos->Bool):Bool:=Af e fun f es ks p=>uU f fun o m ap=>ks.isEmpty && k o m ap es p
@[elab_as_elim] theorem nS {k:Expr->Str->Pos->List Expr->Pos->Bool}{P:Expr->Prop} (h:tU e k=true) (H:∀ o m ap es p,k o m ap es p=true->P (.Call (.Attribute o m ap) es [] p)):P e:=by
 refine qE h fun f es ks q h=>?_
 refine mr h fun o m p h=>?_
 cases ks with
 | nil=>exact H o m p es q h
 | cons _ _=>exact aS h
def zw (e:Expr) (k:Expr->Option Expr->Option Expr->Bool):Bool:=uR e fun a b=>DB b fun l h c=>c.isNone && k a l h
@[elab_as_elim] theorem wF {k:Expr->Option Expr->Option Expr->Bool}{P:Expr->Prop} (h:zw e k=true) (H:∀ a l r p q,k a l r=true->P (.Subscript a (.Slice l r none p) q)):P e:=by
 refine ml h fun a b q h=>?_
 refine zx h fun l r c p h=>?_
 cases c with
 | none=>exact H a l r p q h
 | some _=>exact aS h
noncomputable def Ab (e:Expr) (k:Expr->Expr->Expr->Bool):Bool:=match e with | .IfExp a b c _=>k a b c | _=>false
@[elab_as_elim] theorem wI {k:Expr->Expr->Expr->Bool}{P:Expr->Prop} (h:Ab e k=true) (H:∀ a b c p,k a b c=true->P (.IfExp a b c p)):P e:=by cases e with | IfExp a b c p=>exact H a b c p h | _=>exact aS h
noncomputable def AM (e:Expr):Bool:=match e with | .Dict a b _=>a.isEmpty && b.isEmpty | _=>false
theorem xk (h:AM e=true):∃ p,e=.Dict [] [] p:=by
 cases e with
 | Dict a b p =>
  cases a with
  | nil=>cases b with
   | nil=>exact ⟨p,rfl⟩
   | cons _ _=>exact aS h
  | cons _ _=>exact aS h
 | _=>exact aS h
def DF (e:Expr) (k:Expr->Expr->Expr->List Expr->Scope->Bool):Bool:=match e with | .ListComp a gs sc _=>eU gs (fun g=>decide (g.is_async=0) && k a g.target g.iter g.ifs sc) | _=>false
@[elab_as_elim] theorem Ad {k:Expr->Expr->Expr->List Expr->Scope->Bool}{P:Expr->Prop} (h:DF e k=true) (H:∀ a t it cs sc p,k a t it cs sc=true->P (.ListComp a [⟨t,it,cs,0⟩] sc p)):P e:=by
 cases e with
 | ListComp a gs sc p =>
  refine cY h fun g h=>?_
  obtain ⟨t,it,cs,i⟩:=g;refine bF h fun h1 h=>?_
  cases of_decide_eq_true h1;exact H a t it cs sc p h
 | _=>exact aS h
theorem eE {a b c:Bool}{P:Prop} (h:(a && b && c)=true) (H:a=true->b=true->c=true->P):P:=bF h fun x y=>bF x fun h0 h1=>H h0 h1 y
theorem d9 {a b c d:Bool}{P:Prop} (h:(a && b && c && d)=true) (H:a=true->b=true->c=true->d=true->P):P:=bF h fun x y=>eE x fun h0 h1 h2=>H h0 h1 h2 y
theorem i8 {a b c d e:Bool}{P:Prop} (h:(a && b && c && d && e)=true) (H:a=true->b=true->c=true->d=true->e=true->P):P:=bF h fun x y=>d9 x fun h0 h1 h2 h3=>H h0 h1 h2 h3 y
end
mutual
noncomputable def bh:Ex->SC->Expr->Bool
 | .n,_,e=>qD e kN
 | .b x,_,e=>qD e (kB x)
 | .i x,_,e=>qD e (kI x)
 | .s x,_,e=>qD e (kS x)
 | .v k,C,e=>nN e fun x=>qG C k x && sv C x
 | .g x c,C,e=>nN e fun y=>x == y && fb C x && AW C x c
 | .bin o a b,C,e=>uT e fun a' o' b'=>decide (o=o') && bh a C a' && bh b C b'
 | .cmp o a b,C,e=>zz e fun a' o' b'=>decide (o=o') && bh a C a' && bh b C b' && iz o b'
 | .un o a,C,e=>uS e fun o' a'=>decide (o=o') && bh a C a'
 | .no a,C,e=>uS e fun o' a'=>decide (UnaryOp.Not=o') && bh a C a'
 | .an a b,C,e=>nM .And e fun x y=>bh a C x && bh b C y
 | .or a b,C,e=>nM .Or e fun x y=>bh a C x && bh b C y
 | .ife t a b,C,e=>Ab e fun t' a' b'=>g8 t C t' && bh a C a' && bh b C b'
 | .ix a b,C,e=>uR e fun a' b'=>bh a C a' && bh b C b' && jL b'
 | .tu es,C,e=>qB e fun es'=>gT es C es'
 | .nw _ x,C,e=>u6 x C e
 | .ca _ j es,C,e=>g6 e fun x es'=>DS C j x es'.length && fb C x && gT es C es' && es'.all bx
 | .me c m j o es,C,e=>tU e fun o' m' ap es' p=>m == m' && DQ C j c m (es'.length + 1) && bh o C o' && gT es C es' && (es'.all bx && Nat.blt es'.length 30 && jn o' && (ap.endLine == p.line))
 | .ne c j es,C,e=>g6 e fun x es'=>c == x && DR C j c (es'.length + 1) && fb C c && gT es C es' && (es'.all bx && !es'.isEmpty)
 | .fd c f o,C,e=>uU e fun o' f' _=>f == f' && vo C c f && bh o C o' && jn o'
 | .bi b es,C,e=>g6 e fun x es'=>x == b.nm && fb C x && gT es C es' && es'.all bx && !es'.isEmpty
 | .is T a,C,e=>g6 e fun x es'=>jl es' fun e1 e2=>nN e2 fun y=>x == ("isinstance":Str) && fb C x && (fb C y && Dl T y) && bh a C e1 && bx e1
 | .mt m o es,C,e=>tU e fun o' m' ap es' p=>m.nm == m' && bh o C o' && gT es C es' && (es'.all bx && Nat.blt es'.length 30 && jn o' && (ap.endLine == p.line))
 | .dn,_,e=>AM e
 | .ch o o' a b c,C,e=>tT e fun a' o1 o2 b' c'=>decide (o=o1) && decide (o'=o2) && bh a C a' && bh b C b' && (bh c C c' && !lastMarks [o,o'] [b',c'])
noncomputable def g8:Tx->SC->Expr->Bool
 | .va a,C,e=>qu e && bh a C e
 | .cmp o a b,C,e=>zz e fun a' o' b'=>decide (o=o') && bh a C a' && bh b C b' && iz o b'
 | .no a,C,e=>uS e fun o' a'=>decide (UnaryOp.Not=o') && g8 a C a'
 | .an a b,C,e=>nM .And e fun x y=>g8 a C x && g8 b C y
 | .or a b,C,e=>nM .Or e fun x y=>g8 a C x && g8 b C y
 | .ch o o' a b c,C,e=>tT e fun a' o1 o2 b' c'=>decide (o=o1) && decide (o'=o2) && bh a C a' && bh b C b' && (bh c C c' && !lastMarks [o,o'] [b',c'])
noncomputable def gT:Exs->SC->List Expr->Bool
 | .nil,_,es=>es.isEmpty
 | .cons a as,C,es=>match es with
  | e::es=>bx e && bh a C e && gT as C es
  | _=>false
noncomputable def u6:Nx->SC->Expr->Bool
 | .li es,C,e=>tR e fun es'=>gT es C es'
 | .cat a b,C,e=>uT e fun a' o' b'=>decide (Operator.Add=o') && bh a C a' && bh b C b'
 | .rep es b,C,e=>uT e fun a' o' b'=>decide (Operator.Mult=o') && tR a' fun es'=>gT es C es' && bh b C b'
 | .sl a l h,C,e=>zw e fun a' l' h'=>bh a C a' && u5 l C l' && u5 h C h'
 | .lof a,C,e=>g6 e fun x es=>eU es fun a'=>x == ("list":Str) && fb C x && bh a C a' && bx a'
 | .lc k it t c a,C,e=>DF e fun a' t' it' cs sc=>Ar it C t' it' && o7 it' && pJ C sc && (k == (ff C sc).length - C.N.length) && (kr C.N.length t && nZ t (blk C sc) t' && DL c (blk C sc) cs && bh a (blk C sc) a')
noncomputable def u5:Ox->SC->Option Expr->Bool
 | .no,_,e=>e.isNone
 | .so a,C,e=>match e with
  | some e=>bh a C e
  | none=>false
noncomputable def DL:Cx'->SC->List Expr->Bool
 | .no,_,e=>e.isEmpty
 | .so t,C,e=>eU e fun e=>g8 t C e
noncomputable def Ar:Ix->SC->Expr->Expr->Bool
 | .e a,C,_,e=>bh a C e
 | .r1 a,C,_,e=>g6 e fun x es=>eU es fun a'=>x == ("range":Str) && fb C x && bh a C a' && bx a'
 | .r2 a b,C,_,e=>g6 e fun x es=>jl es fun a' b'=>x == ("range":Str) && fb C x && bh a C a' && bh b C b' && (bx a' && bx b')
 | .zi a b,C,t,e=>qB t fun _=>g6 e fun x es=>jl es fun a' b'=>x == ("zip":Str) && fb C x && bh a C a' && bh b C b' && (bx a' && bx b')
 | .en a,C,t,e=>qB t fun _=>g6 e fun x es=>eU es fun a'=>x == ("enumerate":Str) && fb C x && bh a C a' && bx a'
 | .r3 a b c,C,_,e=>g6 e fun x es=>Aa es fun a' b' c'=>x == ("range":Str) && fb C x && (bh a C a' && bh b C b' && bh c C c') && (bx a' && bx b' && bx c')
noncomputable def nZ:Tg->SC->Expr->Bool
 | .nm k,C,e=>nN e fun x=>qG C k x && pr C x
 | .tu n ts,C,e=>qB e fun es=>(es.length == n) && es.all bx && t5 ts C es
 | .su a b,C,e=>uR e fun a' b'=>bh a C a' && bh b C b' && jL b'
noncomputable def t5:Tgs->SC->List Expr->Bool
 | .nil,_,es=>es.isEmpty
 | .cons t ts,C,es=>match es with
  | e::es=>bx e && nZ t C e && t5 ts C es
  | _=>false
end
theorem mo {o:BoolOp}{e:Expr}{k:Expr->Expr->Bool}{Q:Prop} (h:nM o e k=true) (H1:∀ x y p,e=.BoolOp o [x,y] p->k x y=true->Q) (H2:∀ x y z r p,e=.BoolOp o (x::y::z::r) p->k x (.BoolOp o (y::z::r) p)=true->Q):Q:=by
 cases e with
 | BoolOp o' es p =>
  refine bF h fun h1 h2=>?_
  clear h;cases of_decide_eq_true h1;rcases es with _ | ⟨x,_ | ⟨y,_ | ⟨z,r⟩⟩⟩
  ·exact aS h2
  ·exact aS h2
  ·exact H1 x y p rfl h2
  ·exact H2 x y z r p rfl h2
 | _=>exact aS h
@[elab_as_elim] theorem jI {o:BoolOp}{e:Expr}{k:Expr->Expr->Bool}{P:Expr->Prop} (h:nM o e k=true) (H1:∀ x y p,k x y=true->P (.BoolOp o [x,y] p)) (H2:∀ x y z r p,k x (.BoolOp o (y::z::r) p)=true->P (.BoolOp o (x::y::z::r) p)):P e :=
 mo h (fun x y p e h=>e ▸ H1 x y p h) fun x y z r p e h=>e ▸ H2 x y z r p h
section
variable {s:Stmt}
def tW (s:Stmt) (k:Expr->Expr->Bool):Bool:=match s with | .Assign ts e _=>eU ts fun t=>k t e | _=>false
@[elab_as_elim] theorem nT {k:Expr->Expr->Bool}{P:Stmt->Prop} (h:tW s k=true) (H:∀ t e p,k t e=true->P (.Assign [t] e p)):P s:=by
 cases s with
 | Assign ts e p=>exact cY h fun t h=>H t e p h
 | _=>exact aS h
noncomputable def tS (s:Stmt) (k:Expr->Expr->List Stmt->Bool):Bool:=match s with | .For t it b r _=>r.isEmpty && k t it b | _=>false
@[elab_as_elim] theorem nQ {k:Expr->Expr->List Stmt->Bool}{P:Stmt->Prop} (h:tS s k=true) (H:∀ t it b p,k t it b=true->P (.For t it b [] p)):P s:=by
 cases s with
 | For t it b r p=>cases r with
  | nil=>exact H t it b p h
  | cons _ _=>exact aS h
 | _=>exact aS h
noncomputable def zv (s:Stmt) (k:Expr->List Stmt->Bool):Bool:=match s with | .While t b r _=>r.isEmpty && k t b | _=>false
@[elab_as_elim] theorem wE {k:Expr->List Stmt->Bool}{P:Stmt->Prop} (h:zv s k=true) (H:∀ t b p,k t b=true->P (.While t b [] p)):P s:=by
 cases s with
 | While t b r p=>cases r with
  | nil=>exact H t b p h
  | cons _ _=>exact aS h
 | _=>exact aS h
noncomputable def DC (s:Stmt) (k:Expr->List Stmt->List Stmt->Bool):Bool:=match s with | .If t a b _=>k t a b | _=>false
@[elab_as_elim] theorem Ac {k:Expr->List Stmt->List Stmt->Bool}{P:Stmt->Prop} (h:DC s k=true) (H:∀ t a b p,k t a b=true->P (.If t a b p)):P s:=by cases s with | If t a b p=>exact H t a b p h | _=>exact aS h
noncomputable def Ae (s:Stmt) (k:Expr->Bool):Bool:=match s with | .Expr e _=>k e | _=>false
@[elab_as_elim] theorem wJ {k:Expr->Bool}{P:Stmt->Prop} (h:Ae s k=true) (H:∀ e p,k e=true->P (.Expr e p)):P s:=by cases s with | Expr e p=>exact H e p h | _=>exact aS h
noncomputable def zy (s:Stmt) (k:Option Expr->Bool):Bool:=match s with | .Return e _=>k e | _=>false
@[elab_as_elim] theorem wG {k:Option Expr->Bool}{P:Stmt->Prop} (h:zy s k=true) (H:∀ e p,k e=true->P (.Return e p)):P s:=by cases s with | Return e p=>exact H e p h | _=>exact aS h
end
noncomputable def ui (e:Expr):Bool:=match e with | .ListComp _ _ _ _=>true | _=>false
@[elab_as_elim] theorem xj {e:Expr}{P:Expr->Prop} (h:ui e=true) (H:∀ a g s p,P (.ListComp a g s p)):P e:=by cases e with | ListComp a g s p=>exact H a g s p | _=>exact aS h
def DY (t e:Expr):Bool:=match t with | .Name _ _=>iy e || ui e | .Subscript _ _ _=>true | .Tuple _ _ _=>tY e && iy e | _=>false
@[elab_as_elim] theorem Br {t e:Expr}{P:Expr->Prop} (h:DY t e=true) (H1:(iy e || ui e)=true->∀ x p,P (.Name x p)) (H2:∀ a b p,P (.Subscript a b p)) (H3:(tY e && iy e)=true->∀ es k p,P (.Tuple es k p)):P t:=by
 cases t with
 | Name x p=>exact H1 h x p
 | Subscript a b p=>exact H2 a b p
 | Tuple es k p=>exact H3 h es k p
 | _=>exact aS h
@[elab_as_elim] theorem FA {a:Ex}{C:SC}{elt:Expr}{g:List Comprehension}{sc:Scope}{p:Pos}{P:Ex->Prop} (h:bh a C (.ListComp elt g sc p)=true) (H:∀ m k it t c b,u6 (.lc k it t c b) C (.ListComp elt g sc p)=true->P (.nw m (.lc k it t c b))):P a:=by
 cases a with
 | nw m n=>cases n with
  | lc k it t c b=>exact H m k it t c b h
  | _=>exact aS h
 | _=>exact aS h
mutual
noncomputable def DK:Sx->SC->Stmt->Bool
 | .ex a,C,s=>Ae s fun e=>bh a C e && iy e
 | .as a t,C,s=>tW s fun t' e=>bh a C e && nZ t C t' && DY t' e
 | .fl c f o a,C,s=>tW s fun t e=>uU t fun o' f' _=>f == f' && vo C c f && bh o C o' && bh a C e
 | .rt a,C,s=>zy s fun e=>u5 (.so a) C e
 | .iff t a b,C,s=>DC s fun e x y=>g8 t C e && g9 a C x && g9 b C y
 | .fo it t b,C,s=>tS s fun t' it' x=>Ar it C t' it' && o7 it' && nZ t C t' && g9 b C x
 | .wh t b,C,s=>zv s fun e x=>g8 t C e && g9 b C x
 | .dead,_,_=>true
 | .fd a t b,C,s=>tS s fun t' it' x=>bh a C it' && o7 it' && nZ t C t' && g9 b C x
noncomputable def g9:GK->SC->List Stmt->Bool
 | .nil,_,s=>s.isEmpty
 | .cons a as,C,s=>match s with
  | s::ss=>DK a C s && g9 as C ss
  | _=>false
 | .dead,_,_=>true
end
def Bz [GG] (P:Program) (w:World) (K:Frag) (mg:Str->Option Value) (base:Heap) (A:Around) (fn:Fn):Ke->Prop
 | .f x n=>∃ d f fd ps,ps.length=n/\FnOk P w K mg base de d f fd ps (cP ⟨K,mg⟩ ps.length fn)/\Room d A/\mg x=some (.ref f)/\keepIn K (.ref f)=true/\Binds K fd ps []
 | .m c m n=>∃ d f fd ps C,ps.length=n/\FnOk P w K mg base de d f fd ps (cP ⟨K,mg⟩ ps.length fn)/\Room d A/\mg c=some (.ref C)/\Cls K C/\gR K C m f/\Binds K fd ps []
 | .k c n=>∃ d f fd ps C,ps.length=n/\FnOk P w K mg base de d f fd ps (cP ⟨K,mg⟩ ps.length fn)/\Room (d + 1) A/\mg c=some (.ref C)/\Mk K C f/\Binds K fd ps []
structure Fit [GG] (X:Cx) (C:SC) (ks:List Fn):Prop where
 N:X.N=C.N
 nm:X.env.scope.names=C.nm
 nd:C.N.Nodup
 kind:X.env.scope.kind=.function
 calm:X.calm=true
 cf:∀ x ∈ C.cf,X.fn x=true
 hu:X.A.units + 64 < cLine
 bl:∀ x ∈ bnames,X.mg x=none
 po:PassesOwn (model X.prog X.w) X.A X.env X.xe
 ke:∀ (j:Nat) k,C.ke[j]?=some k->Bz X.prog X.w X.K X.mg X.base X.A (kf ks j) k
 gs:∀ p ∈ C.gs,∀ w,jA p.2=some w->∃ u,X.mg p.1=some u/\RelV w u
 cl:∀ p ∈ C.cl,∃ Ca,X.mg p.1=some (.ref Ca)/\Cls X.K Ca/\∀ f ∈ p.2,NoAttr X.K Ca f
 la:∀ p ∈ C.la,Room 2 X.A/\∃ c P,X.env.code=.ref c/\CodeHd X.base c P/\iu X.mg X.base/\(P,p,X.env.qual++"<lambda>") ∈ GG.tb/\∀ t ∈ GG.tb,t.1=P->t=(P,p,X.env.qual++"<lambda>")
section
variable {X:Cx}{C:SC}{ks:List Fn}
theorem Fit.kdO [GG] (F:Fit X C ks) (x:Str):X.env.kindOf x=kd C x:=by unfold kd;rw [<- F.nm];rfl
theorem Fit.vis [GG] (F:Fit X C ks) (h:sv C x=true):rY X.env.scope x:=by
 unfold sv kd at h;rw [<- F.nm] at h;unfold rY;split at h
 ·rename_i e;exact .inl e
 ·rename_i e;exact .inr (.inl e)
 ·rename_i e;exact .inr (.inr e)
 ·cases h
theorem Fit.loc [GG] (F:Fit X C ks) (h:pr C x=true):L2.Loc X.env.scope x/\(X.fn x=true\/X.env.scope.names.lookup x=some .local):=by
 unfold pr kd at h;rw [<- F.nm] at h;unfold L2.Loc;split at h
 ·rename_i e;exact ⟨.inl e,.inr e⟩
 ·rename_i e;exact ⟨.inr e,.inl (F.cf x (by simpa using h))⟩
 ·cases h
theorem Fit.gl [GG] (F:Fit X C ks) (h:fb C x=true):Gl X x/\(x == ("__debug__":Str))=false:=by
 unfold fb at h;obtain ⟨h1,h2⟩:=Bool.and_eq_true_iff.mp h;refine ⟨?_,by simpa using h2⟩;unfold Gl;rw [F.kdO];split at h1
 ·rename_i e;exact e
 ·cases h1
theorem Fit.nmb [GG] (F:Fit X C ks) {k:Nat} (h:qG C k x=true):X.N[k]?=some x/\(x == ("__debug__":Str))=false/\(x == ("__classdict__":Str))=false:=by
 unfold qG at h;obtain ⟨h12,h3⟩:=Bool.and_eq_true_iff.mp h;obtain ⟨h1,h2⟩:=Bool.and_eq_true_iff.mp h12;refine ⟨?_,by simpa using h2,by simpa using h3⟩;rw [F.N];split at h1
 ·rename_i y e;rw [e,yH h1]
 ·cases h1
theorem Fit.gc [GG] (F:Fit X C ks) (h:AW C x c=true):∃ w u,jA c=some w/\X.mg x=some u/\RelV w u:=by
 unfold AW at h;obtain ⟨p,hp,e⟩:=List.any_eq_true.mp h;simp only [zC] at e;obtain ⟨⟨e1,e2⟩,e3⟩:=e;obtain ⟨w,hw⟩:=Option.isSome_iff_exists.mp e3;have e4:=oB e2;obtain ⟨u,h1,h2⟩:=F.gs p hp w (by rw [e4];exact hw);exact ⟨w,u,hw,by rw [<- yH e1];exact h1,h2⟩
theorem Fit.clb [GG] (F:Fit X C ks) (h:vo C c f=true):∃ Ca,X.mg c=some (.ref Ca)/\Cls X.K Ca/\NoAttr X.K Ca f:=by
 unfold vo at h;obtain ⟨p,hp,e⟩:=List.any_eq_true.mp h;simp only [zC] at e;obtain ⟨Ca,h1,h2,h3⟩:=F.cl p hp;exact ⟨Ca,by rw [<- yH e.1];exact h1,h2,h3 f (by simpa using e.2)⟩
theorem Fit.blt [GG] (F:Fit X C ks) (h:x ∈ bnames):X.mg x=none:=F.bl x h
theorem A5 (b:NameKind):DV b=(b == NameKind.free):=by cases b <;> rfl
theorem Bh (o:Option NameKind):vp o=(o == some NameKind.cell):=by
 cases o with
 | none=>rfl
 | some k=>cases k <;> rfl
theorem Fit.blk [GG] (F:Fit X C ks) (h:pJ C sc=true):iq X (ff C sc) sc/\∀ cl s H fp GD,Fit (b0 X (ff C sc) sc cl s H fp GD) (R.blk C sc) ks:=by
 unfold pJ at h;simp only [zC,z7] at h;obtain ⟨⟨⟨⟨h1,h2⟩,h3⟩,h4⟩,h5⟩:=h;have hk:sc.kind=.function:=by
  split at h1
  ·rename_i e;exact e
  ·cases h1
 have hlen:C.N.length <= (ff C sc).length:=by unfold ff;rw [zV,zH];omega
 have free:∀ x,(x,NameKind.free) ∈ sc.names->X.env.kindOf x=some .cell\/X.env.kindOf x=some .free:=fun x hx=>by
  have:=yL.mp h4 _ hx
  simp only at this;rw [F.kdO];split at this
  ·rename_i e;exact .inl e
  ·rename_i e;exact .inr e
  ·cases this
 have at5:∀ i x,i < X.N.length->(ff C sc)[i]?=some x->(∀ k,(x,k) ∈ sc.names->k=.free/\X.N[i]?=some x):=fun i x hi e k hm=>by
  rw [F.N] at hi ⊢
  have:=yL.mp h5 i (List.mem_range.mpr hi)
  rw [e] at this;simp only at this;have hl:=cE h2 hm;rw [hl] at this;cases k <;> simp only at this <;> first | (cases this;done) | exact ⟨rfl,of_decide_eq_true this⟩
 refine ⟨⟨hk,h2,by rw [F.N];exact hlen,free,fun i x hi e hm=>(at5 i x hi e _ hm).2,fun i x hi e hq0=>by obtain ⟨k,hm⟩:=hq0;have:=(at5 i x hi e k hm).1;subst this;exact hm⟩,fun cl s H fp GD=>?_⟩;refine ⟨rfl,?_,h3,hk,F.calm,fun x hx=>?_,F.hu,F.bl,PassesOwn.never,F.ke,F.gs,F.cl,fun p hp=>absurd (show p ∈ ([]:List Pos) from hp) (by simp)⟩
 ·show (relabel sc X.env).names=_
  unfold relabel R.blk;dsimp only;rw [F.kind];apply List.map_congr_left;intro p _;obtain ⟨a,b⟩:=p;simp only [F.kdO,A5,Bh];simp
 ·unfold R.blk at hx
  obtain ⟨p,hp,e⟩:=yA.mp hx;obtain ⟨hp1,hp2⟩:=List.mem_filter.mp hp;obtain ⟨a,b⟩:=p;dsimp only at e hp2;subst e;have:b=.cell:=by cases b <;> first | rfl | cases hp2
  subst this;show (sc.names.lookup a == some NameKind.cell)=true;rw [cE h2 hp1];rfl
end
mutual
theorem kq {n:Nat}:∀ {t:Tg},kr n t=true->lQ n (cU ks t)
 | .nm k,h=>by
  simp only [kr] at h;have hk:=zS h;simp only [cU];intro x sl st sl' st' e;cases e;exact ⟨List.length_set,fun j hj=>List.getElem?_set_ne oM⟩
 | .tu m ts,h=>by
  simp only [kr] at h;simp only [cU];intro x sl st sl' st' e;unfold rh at e;split at e
  ·split at e
   ·exact jh h _ _ _ _ _ e
   ·cases e
  ·split at e
   ·split at e
    ·exact jh h _ _ _ _ _ e
    ·cases e
   ·cases e
 | .su _ _,h=>by simp only [kr] at h;cases h
theorem jh {n:Nat}:∀ {ts:Tgs},lH n ts=true->∀ xs sl st sl' st',fK ks ts xs sl st=some (sl',st')->sl'.length=sl.length/\∀ j,j < n->sl'[j]?=sl[j]?
 | .nil,_,xs,sl,st,sl',st',e=>by
  simp only [fK] at e;cases xs with
  | nil=>cases e;exact ⟨rfl,fun _ _=>rfl⟩
  | cons _ _=>cases e
 | .cons t ts,h,xs,sl,st,sl',st',e=>by
  simp only [lH,zC] at h;simp only [fK] at e;cases xs with
  | nil=>cases e
  | cons x xs =>
   obtain ⟨p,e1,e2⟩:=zA e;obtain ⟨a1,a2⟩:=kq h.1 _ _ _ _ _ e1;obtain ⟨b1,b2⟩:=jh h.2 _ _ _ _ _ e2;exact ⟨b1.trans a1,fun j hj=>(b2 j hj).trans (a2 j hj)⟩
end
theorem iI:∀ (as:Exs) {es:List Expr},gT as C es=true->∀ sl st xs st',cT ks as sl st=some (xs,st')->xs.length=es.length
 | .nil,es,h,sl,st,xs,st',e=>by
  cases e;cases es with
  | nil=>rfl
  | cons _ _=>exact aS h
 | .cons a as,es,h,sl,st,xs,st',e=>by
  cases es with
  | nil=>exact aS h
  | cons x es =>
   obtain ⟨p,e1,e2⟩:=zA e;obtain ⟨q,e3,e4⟩:=zA e2;cases e4;rw [yQ,yQ,iI as (bF h fun _ x=>x) _ _ _ _ e3]
theorem Df:bootBuiltins "len"=some (.builtin "len"):=by decide +kernel
theorem Db:bootBuiltins "sum"=some (.builtin "sum"):=by decide +kernel
theorem Dh:bootBuiltins "all"=some (.builtin "all"):=by decide +kernel
theorem Dg:bootBuiltins "any"=some (.builtin "any"):=by decide +kernel
theorem Di:bootBuiltins "abs"=some (.builtin "abs"):=by decide +kernel
theorem Dd:bootBuiltins "min"=some (.builtin "min"):=by decide +kernel
theorem De:bootBuiltins "max"=some (.builtin "max"):=by decide +kernel
theorem vq:bootBuiltins "int"=some (.type "int"):=by decide +kernel
theorem Da:bootBuiltins "tuple"=some (.type "tuple"):=by decide +kernel
theorem kb:bootBuiltins "isinstance"=some (.builtin "isinstance"):=by decide +kernel
theorem Bp:bootBuiltins "list"=some (.type "list"):=by decide +kernel
theorem Bq:bootBuiltins "bool"=some (.type "bool"):=by decide +kernel
theorem Dc:bootBuiltins "str"=some (.type "str"):=by decide +kernel
section
variable {X:Cx}{C:SC}{ks:List Fn}
theorem C9 [GG] (F:Fit X C ks) (b:Bi) {e:Expr}{es:List Expr}{g:AF}{p pos:Pos} (hg:fb C b.nm=true) (ha:QA X (e::es) g) (hs:(e::es).all bx=true):QE X (.Call (.Name b.nm p) (e::es) [] pos) (rX (im b) g):=by
 have gl:=F.gl hg;rw [List.all_cons,zC] at hs;have he:=ay (env:=X.env) (es:=es) hs.1;have hpl:=eR (env:=X.env) (pos:=pos) hs.2;cases b with
 | len=>exact gy C4 gl.1 (F.blt dC) Df ha dC gl.2 he hpl
 | sum=>exact gy (C1 F.calm) gl.1 (F.blt dC) Db ha dC gl.2 he hpl
 | all=>exact gy (C7 F.calm) gl.1 (F.blt dC) Dh ha dC gl.2 he hpl
 | any=>exact gy (C6 F.calm) gl.1 (F.blt dC) Dg ha dC gl.2 he hpl
 | abs=>exact gy C8 gl.1 (F.blt dC) Di ha dC gl.2 he hpl
 | min=>exact gy (C2 F.calm) gl.1 (F.blt dC) Dd ha dC gl.2 he hpl
 | max=>exact gy (C3 F.calm) gl.1 (F.blt dC) De ha dC gl.2 he hpl
 | int=>exact B4 C5 gl.1 (F.blt dC) vq ha dC gl.2 he hpl
theorem Cq [GG] (F:Fit X C ks) (m:Mi) {o:Expr}{es:List Expr}{f:EF}{g:AF}{ap p:Pos} (ho:QE X o f) (ha:QA X es g) (h0:es=[]->g=dL) (hs:es.all bx=true) (hl:es.length < 30) (hb:jn o=true) (hline:(ap.endLine == p.line)=true) :
  QE X (.Call (.Attribute o m.nm ap) es [] p) (kh (qL m) (qK m) f g):=by
 cases es with
 | nil =>
  have:=h0 rfl
  subst this;have hbase:=du (env:=X.env) (f:=m.nm) (eval o X.env) hb;cases m with
  | app=>exact md PySem.F.plainAttrs_list PySem.F.slot_list_append PySem.F.type_list_append u8 ho hbase hline
  | ext=>exact md PySem.F.plainAttrs_list PySem.F.slot_list_extend PySem.F.type_list_extend u7 ho hbase hline
  | bl=>exact md PySem.F.plainAttrs_int PySem.F.slot_int_bit_length PySem.F.type_int_bit_length Av ho hbase hline
 | cons e es =>
  have hbase:=du (env:=X.env) (f:=m.nm) (eval o X.env) hb;have hfew:=DX (env:=X.env) (cpos:=p) hs hl;rw [List.all_cons,zC] at hs;have he:=ay (env:=X.env) (es:=es) hs.1;have hpl:=eR (env:=X.env) (pos:=p) hs.2;cases m with
  | app=>exact oW PySem.F.plainAttrs_list PySem.F.slot_list_append PySem.F.type_list_append u8 ho ha hbase hfew hline he hpl
  | ext=>exact oW PySem.F.plainAttrs_list PySem.F.slot_list_extend PySem.F.type_list_extend u7 ho ha hbase hfew hline he hpl
  | bl=>exact oW PySem.F.plainAttrs_int PySem.F.slot_int_bit_length PySem.F.type_int_bit_length Av ho ha hbase hfew hline he hpl
theorem zb [GG] {P:Program}{w:World}{K:Frag}{mg:Str->Option Value}{base:Heap}{k:Nat}{f:Addr}{fd:FuncData}{ps:List Str}{n:Nat}{fn:Fn} (b:Bool) (F:FnOk P w K mg base de k f fd ps (cP ⟨K,mg⟩ n fn)):FnOk P w K mg base de k f fd ps (cP ⟨K,mg⟩ n (qt b fn)):=by
 cases b
 ·exact F
 ·exact FnOk.pm F
theorem kK {as:Exs}{es:List Expr} (h:gT as C es=true) (he:es=[]):cT ks as=dL:=by
 subst he;cases as with
 | nil=>rfl
 | cons a as=>exact aS h
end
mutual
theorem aj [GG] {ks:List Fn}:∀ (a:Ex) {X:Cx}{C:SC} (_:Fit X C ks) {e:Expr},bh a C e=true->QE X e (ev ks a)
 | .n,X,C,F,e,h=>by
  refine jJ h fun c a p h=>?_
  rw [Cy h];exact mf (w:=.non) rfl zm fun _ _ _ h=>h
 | .b x,X,C,F,e,h=>by
  refine jJ h fun c a p h=>?_
  rw [CA h];exact mf rfl Ck fun _ _ _ h=>h
 | .i x,X,C,F,e,h=>by
  refine jJ h fun c a p h=>?_
  rw [Cz h];exact mf rfl zn fun _ _ _ h=>h
 | .s x,X,C,F,e,h=>by
  refine jJ h fun c a p h=>?_
  rw [Cw h];exact mf rfl zk fun _ _ _ h=>h
 | .v k,X,C,F,e,h=>by
  refine g5 h fun x p h=>?_
  refine bF h fun h0 h=>?_
  obtain ⟨h1,h2,h3⟩:=F.nmb h0;exact yr h1 (F.vis h) h2 h3
 | .g x c,X,C,F,e,h=>by
  refine g5 h fun y p h=>?_
  refine eE h fun h0 h1 h2=>?_
  rw [<- yH h0];obtain ⟨w,u,h1',h2',h3⟩:=F.gc h2;obtain ⟨g1,g2⟩:=F.gl h1;exact mf h1' (wx g1 h2' h3 g2) fun _ _ _ h=>h
 | .bin o a b,X,C,F,e,h=>by
  refine mq h fun a' o' b' p h=>?_
  refine eE h fun h0 h1 h2=>?_
  cases of_decide_eq_true h0;exact yz (aj a F h1) (aj b F h2)
 | .cmp o a b,X,C,F,e,h=>by
  refine qC h fun a' o' b' p h=>?_
  refine d9 h fun h0 h1 h2 h3=>?_
  cases of_decide_eq_true h0;exact yy F.hu (aj a F h1) (aj b F h2) h3
 | .un o a,X,C,F,e,h=>by
  refine mn h fun o' a' p h=>?_
  refine bF h fun h0 h1=>?_
  cases of_decide_eq_true h0;exact B3 (aj a F h1)
 | .no a,X,C,F,e,h=>by
  refine mn h fun o' a' p h=>?_
  refine bF h fun h0 h1=>?_
  cases of_decide_eq_true h0;exact yu (aj a F h1)
 | .an a b,X,C,F,e,h=>by
  refine jI h (fun x y p h=>?_) fun x y z r p h=>?_
  ·refine bF h fun h0 h1=>?_
   exact ql (aj a F h0) (qx (aj b F h1))
  ·refine bF h fun h0 h1=>?_
   exact ql (aj a F h0) (aj b F h1)
 | .or a b,X,C,F,e,h=>by
  refine jI h (fun x y p h=>?_) fun x y z r p h=>?_
  ·refine bF h fun h0 h1=>?_
   exact uP (aj a F h0) (qx (aj b F h1))
  ·refine bF h fun h0 h1=>?_
   exact uP (aj a F h0) (aj b F h1)
 | .ife t a b,X,C,F,e,h=>by
  refine wI h fun t' a' b' p h=>?_
  refine eE h fun h0 h1 h2=>?_
  exact B7 (cg t F h0) (aj a F h1) (aj b F h2)
 | .ix a b,X,C,F,e,h=>by
  refine ml h fun a' b' p h=>?_
  refine eE h fun h0 h1 h2=>?_
  exact B6 F.hu (aj a F h0) (aj b F h1) (CB h2)
 | .tu es,X,C,F,e,h=>by
  refine jH h fun es' a p h=>?_
  exact yt (dB es F h)
 | .nw m x,X,C,F,e,h=>B5 (Aq x F h)
 | .ca p j es,X,C,F,e,h=>by
  refine di h fun x p1 es' p2 h=>?_
  refine d9 h fun h1 h2 h3 h4=>?_
  unfold DS at h1;split at h1
  ·rename_i y m hk
   refine bF h1 fun h1 h0=>?_
   obtain ⟨d,f,fd,ps,hl,Fn,hr,hm,kp,hb⟩:=F.ke j _ hk;obtain ⟨g1,g2⟩:=F.gl h2;rw [yH h1] at hm;have hn:ps.length=es'.length:=by rw [hl];exact yH h0
   cases es' with
   | nil=>show QE X _ (rW _ (cT ks es));rw [kK h3 rfl];exact tw (zb p Fn) hr g1 hm kp hb hn g2
   | cons e1 es1 =>
    refine bF h4 fun h4 h5=>?_
    exact v9 (zb p Fn) hr g1 hm kp hb (dB es F h3) (fun sl st xs st' e=>by rw [hn];exact iI es h3 _ _ _ _ e) g2 (ay h4) (eR h5)
  ·exact aS h1
 | .me c m j o es,X,C,F,e,h=>by
  refine nS h fun o' m' ap es' p h=>?_
  refine i8 h fun h0 h1 h2 h3 h=>?_
  refine d9 h fun h4 h5 h6 h7=>?_
  rw [<- yH h0];unfold DQ at h1;split at h1
  ·rename_i c' m'' k hk
   refine eE h1 fun a1 a2 a3=>?_
   obtain ⟨d,f,fd,ps,Ca,hl,Fn,hr,hC,cl,hm,hb⟩:=F.ke j _ hk;rw [yH a1] at hC;rw [yH a2] at hm;have hn:ps.length=es'.length + 1:=by rw [hl];exact yH a3
   have h5:es'.length < 30:=zJ (Nat.lt_succ_self _) (zS h5);cases es' with
   | nil=>show QE X _ (rV _ _ _ _ (cT ks es));rw [kK h3 rfl];exact tq (aj o F h2) cl hC hm Fn hr hb hn (n5 h6 h4 h5 h7)
   | cons e1 es1 =>
    have ht:=n5 (env:=X.env) (f:=m) (o:=o') (es:=e1::es1) h6 h4 h5 h7;refine bF h4 fun h4 h8=>?_
    exact v7 (aj o F h2) cl hC hm Fn hr hb (dB es F h3) (fun sl st xs st' e=>by rw [hn,iI es h3 _ _ _ _ e]) (ay h4) (eR h8) ht
  ·exact aS h1
 | .ne c j es,X,C,F,e,h=>by
  refine di h fun x p1 es' p2 h=>?_
  refine i8 h fun h0 h1 h2 h3 h=>?_
  refine bF h fun h4 h5=>?_
  rw [<- yH h0];unfold DR at h1;split at h1
  ·rename_i c' k hk
   refine bF h1 fun a1 a2=>?_
   obtain ⟨d,f,fd,ps,Ca,hl,Fn,hr,hC,M,hb⟩:=F.ke j _ hk;rw [yH a1] at hC;obtain ⟨g1,g2⟩:=F.gl h2;cases es' with
   | nil=>exact aS h5
   | cons e1 es1 =>
    have hn:ps.length=es1.length + 2:=by rw [hl];exact yH a2
    refine bF h4 fun h4 h6=>?_
    exact yw M Fn hr g1 hC hb (dB es F h3) (fun sl st xs st' e=>by rw [hn,iI es h3 _ _ _ _ e];rfl) g2 (ay h4) (eR h6)
  ·exact aS h1
 | .fd c f o,X,C,F,e,h=>by
  refine mr h fun o' f' p h=>?_
  refine d9 h fun h0 h1 h2 h3=>?_
  rw [<- yH h0];obtain ⟨Ca,hC,cl,na⟩:=F.clb h1;exact yx (aj o F h2) cl hC na (du _ h3)
 | .bi b es,X,C,F,e,h=>by
  refine di h fun x p1 es' p2 h=>?_
  refine i8 h fun h0 h1 h2 h3 h4=>?_
  cases es' with
  | nil=>exact aS h4
  | cons e1 es1 =>
   have e0:=yH h0;subst e0;exact C9 F b h1 (dB es F h2) h3
 | .is T a,X,C,F,e,h=>by
  refine di h fun x p1 es' p2 h=>?_
  refine eP h fun e1 e2 h=>?_
  refine g5 h fun y p3 h=>?_
  refine i8 h fun h0 h1 h2 h4 h5=>?_
  refine bF h2 fun h2 h3=>?_
  have e0:=yH h0;subst e0;obtain ⟨g1,g2⟩:=F.gl h1;obtain ⟨g3,g4⟩:=F.gl h2;unfold Dl at h3;simp only [Bool.or_eq_true] at h3;rcases h3 with (((h3 | h3) | h3) | h3) | h3 <;> (refine bF h3 fun a1 a2=>?_;have e1:=yH a1;have e2:=yH a2;subst e1;subst e2)
  ·exact gX g1 (F.blt dC) g3 (F.blt dC) vq (aj a F h4) dC g4 (ay h5) kb
  ·exact gX g1 (F.blt dC) g3 (F.blt dC) Bq (aj a F h4) dC g4 (ay h5) kb
  ·exact gX g1 (F.blt dC) g3 (F.blt dC) Bp (aj a F h4) dC g4 (ay h5) kb
  ·exact gX g1 (F.blt dC) g3 (F.blt dC) Da (aj a F h4) dC g4 (ay h5) kb
  ·exact gX g1 (F.blt dC) g3 (F.blt dC) Dc (aj a F h4) dC g4 (ay h5) kb
 | .mt m o es,X,C,F,e,h=>by
  refine nS h fun o' m' ap es' p h=>?_
  refine d9 h fun h0 h1 h2 h=>?_
  refine d9 h fun h3 h4 h5 h6=>?_
  rw [<- yH h0];exact Cq F m (aj o F h1) (dB es F h2) (fun e=>kK h2 e) h3 (zJ (Nat.lt_succ_self _) (zS h4)) h5 h6
 | .dn,X,C,F,e,h=>by
  obtain ⟨p,rfl⟩:=xk h;exact v8 tL
 | .ch o o' a b c,X,C,F,e,h=>by
  refine nR h fun a' o1 o2 b' c' p h=>?_
  refine i8 h fun h0 h1 h2 h3 h=>?_
  refine bF h fun h4 h5=>?_
  cases of_decide_eq_true h0;cases of_decide_eq_true h1;exact B8 F.hu (aj a F h2) (aj b F h3) (aj c F h4) (by simpa using h5)
theorem cg [GG] {ks:List Fn}:∀ (a:Tx) {X:Cx}{C:SC} (_:Fit X C ks) {e:Expr},g8 a C e=true->QT X e (tv ks a)
 | .va a,X,C,F,e,h=>by
  refine bF h fun h0 h1=>?_
  exact ye (aj a F h1) (vN h0)
 | .cmp o a b,X,C,F,e,h=>by
  refine qC h fun a' o' b' p h=>?_
  refine d9 h fun h0 h1 h2 h3=>?_
  cases of_decide_eq_true h0;exact yg F.hu (aj a F h1) (aj b F h2) h3
 | .no a,X,C,F,e,h=>by
  refine mn h fun o' a' p h=>?_
  refine bF h fun h0 h1=>?_
  cases of_decide_eq_true h0;exact yf (cg a F h1)
 | .an a b,X,C,F,e,h=>by
  refine jI h (fun x y p h=>?_) fun x y z r p h=>?_
  ·refine bF h fun h0 h1=>?_
   exact PW.pt (jE (cg a F h0) (jD .And (cg b F h1)))
  ·refine bF h fun h0 h1=>?_
   exact PW.pt (jE (cg a F h0) (jM b F h1))
 | .or a b,X,C,F,e,h=>by
  refine jI h (fun x y p h=>?_) fun x y z r p h=>?_
  ·refine bF h fun h0 h1=>?_
   exact PW.pt (lI (cg a F h0) (jD .Or (cg b F h1)))
  ·refine bF h fun h0 h1=>?_
   exact PW.pt (lI (cg a F h0) (jM b F h1))
 | .ch o o' a b c,X,C,F,e,h=>by
  refine nR h fun a' o1 o2 b' c' p h=>?_
  refine i8 h fun h0 h1 h2 h3 h=>?_
  refine bF h fun h4 h5=>?_
  cases of_decide_eq_true h0;cases of_decide_eq_true h1;exact BV F.hu (aj a F h2) (aj b F h3) (aj c F h4) (by simpa using h5)
theorem jM [GG] {ks:List Fn}:∀ (a:Tx) {X:Cx}{C:SC} (_:Fit X C ks) {op:BoolOp}{x y:Expr}{r:List Expr}{p:Pos},g8 a C (.BoolOp op (x::y::r) p)=true->QW X (.BoolOp op (x::y::r) p) (tv ks a)
 | .va a,X,C,F,op,x,y,r,p,h=>aS h
 | .cmp o a b,X,C,F,op,x,y,r,p,h=>aS h
 | .no a,X,C,F,op,x,y,r,p,h=>aS h
 | .ch o o' a b c,X,C,F,op,x,y,r,p,h=>aS h
 | .an a b,X,C,F,op,x,y,r,p,h=>by
  refine mo h (fun _ _ _ e h=>?_) fun _ _ _ _ _ e h=>?_
  ·cases e
   refine bF h fun h0 h1=>?_
   exact jE (cg a F h0) (jD .And (cg b F h1))
  ·cases e
   refine bF h fun h0 h1=>?_
   exact jE (cg a F h0) (jM b F h1)
 | .or a b,X,C,F,op,x,y,r,p,h=>by
  refine mo h (fun _ _ _ e h=>?_) fun _ _ _ _ _ e h=>?_
  ·cases e
   refine bF h fun h0 h1=>?_
   exact lI (cg a F h0) (jD .Or (cg b F h1))
  ·cases e
   refine bF h fun h0 h1=>?_
   exact lI (cg a F h0) (jM b F h1)
theorem dB [GG] {ks:List Fn}:∀ (as:Exs) {X:Cx}{C:SC} (_:Fit X C ks) {es:List Expr},gT as C es=true->QA X es (cT ks as)
 | .nil,X,C,F,es,h=>by cases es with | nil=>exact eT | cons _ _=>exact aS h
 | .cons a as,X,C,F,es,h=>by
  cases es with
  | nil=>exact aS h
  | cons e es =>
   refine eE h fun h0 h1 h2=>?_
   exact cQ (aj a F h1) (dB as F h2) (ay h0)
theorem Aq [GG] {ks:List Fn}:∀ (a:Nx) {X:Cx}{C:SC} (_:Fit X C ks) {e:Expr},u6 a C e=true->QN X e (fA ks a)
 | .li es,X,C,F,e,h=>by
  refine nO h fun es' p h=>?_
  exact v1 (dB es F h)
 | .cat a b,X,C,F,e,h=>by
  refine mq h fun a' o' b' p h=>?_
  refine eE h fun h0 h1 h2=>?_
  cases of_decide_eq_true h0;exact yn (aj a F h1) (aj b F h2)
 | .rep es b,X,C,F,e,h=>by
  refine mq h fun a' o' b' p h=>?_
  refine bF h fun h0 h=>?_
  cases of_decide_eq_true h0;refine nO h fun es' p1 h=>?_
  refine bF h fun h1 h2=>?_
  exact yk (dB es F h1) (aj b F h2)
 | .sl a l h',X,C,F,e,h=>by
  refine wF h fun a' l' r' p q h=>?_
  refine eE h fun h0 h1 h2=>?_
  exact BX (aj a F h0) (qI l F h1) (qI h' F h2)
 | .lof a,X,C,F,e,h=>by
  refine di h fun x p1 es p2 h=>?_
  refine cY h fun a' h=>?_
  refine d9 h fun h0 h1 h2 h3=>?_
  have e0:=yH h0;subst e0;exact ym (F.gl h1).1 (F.blt dC) (aj a F h2) (ay h3)
 | .lc k it t c a,X,C,F,e,h=>by
  simp only [u6] at h;refine Ad h fun a' t' it' cs sc p h=>?_
  refine i8 h fun h0 h1 h2 h3 h=>?_
  refine d9 h fun h4 h5 h6 h7=>?_
  obtain ⟨T,FB⟩:=F.blk h2;have ek:k=(ff C sc).length - X.N.length:=by rw [yH h3,F.N]
  subst ek;exact BY F.calm T (my it F h0) (fun cl s H fp GD=>eY t (FB cl s H fp GD) h5) (fun cl s H fp GD=>qJ c (FB cl s H fp GD) h6) (fun cl s H fp GD=>aj a (FB cl s H fp GD) h7) (by rw [F.N];exact kq h4) (jz h1)
theorem qI [GG] {ks:List Fn}:∀ (a:Ox) {X:Cx}{C:SC} (_:Fit X C ks) {e:Option Expr},u5 a C e=true->QO X e (mL ks a)
 | .no,X,C,F,e,h=>by cases e with | none=>exact v0 | some _=>exact aS h
 | .so a,X,C,F,e,h=>by cases e with | none=>exact aS h | some e=>exact vZ (aj a F h)
theorem qJ [GG] {ks:List Fn}:∀ (a:Cx') {X:Cx}{C:SC} (_:Fit X C ks) {es:List Expr},DL a C es=true->sd X es (mN ks a)
 | .no,X,C,F,e,h=>by cases e with | nil=>exact v3 | cons _ _=>exact aS h
 | .so a,X,C,F,e,h=>by
  refine cY h fun e h=>?_
  exact v2 (cg a F h)
theorem my [GG] {ks:List Fn}:∀ (a:Ix) {X:Cx}{C:SC} (_:Fit X C ks) {t e:Expr},Ar a C t e=true->QI X t e (b8 ks a)
 | .e a,X,C,F,t,e,h=>EG (aj a F h)
 | .r1 a,X,C,F,t,e,h=>by
  refine di h fun x p1 es p2 h=>?_
  refine cY h fun a' h=>?_
  refine d9 h fun h0 h1 h2 h3=>?_
  have e0:=yH h0;subst e0;exact B1 (F.gl h1).1 (F.blt dC) (aj a F h2) (ay h3)
 | .r2 a b,X,C,F,t,e,h=>by
  refine di h fun x p1 es p2 h=>?_
  refine eP h fun a' b' h=>?_
  refine i8 h fun h0 h1 h2 h3 h4=>?_
  refine bF h4 fun h4 h5=>?_
  have e0:=yH h0;subst e0;exact B0 (F.gl h1).1 (F.blt dC) (aj a F h2) (aj b F h3) (by rw [ay h4,ay h5];rfl) (ay h5)
 | .zi a b,X,C,F,t,e,h=>by
  refine jH h fun ts k p h=>?_
  refine di h fun x p1 es p2 h=>?_
  refine eP h fun a' b' h=>?_
  refine i8 h fun h0 h1 h2 h3 h4=>?_
  refine bF h4 fun h4 h5=>?_
  have e0:=yH h0;subst e0;exact yo (F.gl h1).1 (F.blt dC) (aj a F h2) (aj b F h3) (by rw [ay h4,ay h5];rfl) (ay h5)
 | .en a,X,C,F,t,e,h=>by
  refine jH h fun ts k p h=>?_
  refine di h fun x p1 es p2 h=>?_
  refine cY h fun a' h=>?_
  refine d9 h fun h0 h1 h2 h3=>?_
  have e0:=yH h0;subst e0;exact B2 (F.gl h1).1 (F.blt dC) (aj a F h2) (ay h3)
 | .r3 a b c,X,C,F,t,e,h=>by
  refine di h fun x p1 es p2 h=>?_
  refine wH h fun a' b' c' h=>?_
  refine d9 h fun h0 h1 h2 h3=>?_
  refine eE h2 fun h2 h4 h5=>?_
  refine eE h3 fun h6 h7 h8=>?_
  have e0:=yH h0;subst e0;exact BZ (F.gl h1).1 (F.blt dC) (aj a F h2) (aj b F h4) (aj c F h5) (by rw [ay h6,ay h7,ay h8];rfl) (by rw [ay h7,ay h8];rfl) (ay h8)
theorem eY [GG] {ks:List Fn}:∀ (t:Tg) {X:Cx}{C:SC} (_:Fit X C ks) {e:Expr},nZ t C e=true->QG X e (cU ks t)
 | .nm k,X,C,F,e,h=>by
  refine g5 h fun x p h=>?_
  refine bF h fun h0 h=>?_
  obtain ⟨h1,h2⟩:=F.loc h;exact v6 (by rw [F.N];exact F.nd) (F.nmb h0).1 h1 h2
 | .tu n ts,X,C,F,e,h=>by
  refine jH h fun es k p h=>?_
  refine eE h fun h0 h1 h2=>?_
  exact yp F.calm (nY ts F h2) (by rw [uv];exact yH h0) (uw h1)
 | .su a b,X,C,F,e,h=>by
  refine ml h fun a' b' p h=>?_
  refine eE h fun h0 h1 h2=>?_
  exact yq F.hu (aj a F h0) (aj b F h1) (x3 h2)
theorem nY [GG] {ks:List Fn}:∀ (ts:Tgs) {X:Cx}{C:SC} (_:Fit X C ks) {es:List Expr},t5 ts C es=true->se X es (fK ks ts)
 | .nil,X,C,F,es,h=>by cases es with | nil=>exact v4 | cons _ _=>exact aS h
 | .cons t ts,X,C,F,es,h=>by
  cases es with
  | nil=>exact aS h
  | cons e es =>
   refine eE h fun h0 h1 h2=>?_
   exact tm (eY t F h1) (nY ts F h2) (uu h0)
end
theorem p8 {env:Env}{e o i:Expr}{p:Pos}{l:Nat}:swapsWithSole [.Subscript o i p] e l env=pure false:=by cases e <;> rfl
theorem p7 {env:Env}{e:Expr}{es:List Expr}{k:Nat}{p:Pos}{l:Nat}:swapsWithSole [.Tuple es k p] e l env=pure false:=by cases e <;> rfl
mutual
theorem Ap [GG] {ks:List Fn}:∀ (a:Sx) {X:Cx}{C:SC} (_:Fit X C ks) {s:Stmt},DK a C s=true->QS X s (cK ks a)
 | .ex a,X,C,F,s,h=>by
  refine wJ h fun e p h=>bF h fun h0 h1=>?_
  exact vX (aj a F h0) (ny h1)
 | .as a t,X,C,F,s,h=>by
  refine nT h fun t' e p2 h=>eE h fun h0 h1 h2=>?_
  refine Br h2 (fun h2 x p h1=>?_) (fun o i q h1=>?_) (fun h2 es k q h1=>?_) h1
  ·cases t with
   | nm k =>
    refine bF (show (qG C k x && pr C x)=true from h1) fun g0 g1=>?_
    obtain ⟨l1,l2⟩:=F.loc g1;have hN:X.N.Nodup:=by rw [F.N];exact F.nd
    rcases Bool.or_eq_true_iff.mp h2 with hc | hc
    ·exact qj hN (F.nmb g0).1 l1 (aj a F h0) (ny hc) l2
    ·refine xj hc (fun elt gens sc pos h0=>?_) h0
     have hsw:=x0 (env:=X.env) (elt:=elt) (gens:=gens) (sc:=sc) (pos:=pos) (t:=x) (p:=p) (l:=p2.line) F.kind;cases hsb:Ds X.env.scope.names x p.line sc pos.line with
     | false=>rw [hsb] at hsw;exact qj hN (F.nmb g0).1 l1 (aj a F h0) hsw l2
     | true =>
      rw [hsb] at hsw;refine FA h0 fun m k' it t c a' h0=>?_
      have h0:eU gens _=true:=h0;refine cY h0 fun g h0=>?_
      obtain ⟨t',it',cs,i⟩:=g;refine bF h0 fun h9 h0=>?_
      cases of_decide_eq_true h9;refine i8 h0 fun q0 h1' h2' h3 h=>?_
      refine d9 h fun h4 h5 h6 h7=>?_
      obtain ⟨T,FB⟩:=F.blk h2';have ek:k'=(ff C sc).length - X.N.length:=by rw [yH h3,F.N]
      subst ek;exact qi hN (F.nmb g0).1 l1 hsw F.calm T (my it F q0) (fun cl s H fp GD=>eY t (FB cl s H fp GD) h5) (fun cl s H fp GD=>qJ c (FB cl s H fp GD) h6) (fun cl s H fp GD=>aj a' (FB cl s H fp GD) h7) (by rw [F.N];exact kq h4) (jz h1') l2
   | _=>exact aS h1
  ·exact qk (aj a F h0) (eY t F h1) p8 sK (ow rfl)
  ·exact bF h2 fun h2 h3=>qk (aj a F h0) (eY t F h1) p7 (sJ h2) (ow rfl)
 | .fl c f o a,X,C,F,s,h=>by
  refine nT h fun t e p h=>mr h fun o' f' p h=>d9 h fun h0 h1 h2 h3=>?_
  rw [<- yH h0];obtain ⟨Ca,hC,cl,na⟩:=F.clb h1;exact yj (aj o F h2) (aj a F h3) cl hC na sH
 | .rt a,X,C,F,s,h=>by
  refine wG h fun e p h=>?_
  cases e with
  | none=>exact aS h
  | some e=>exact yh (aj a F h)
 | .iff t a b,X,C,F,s,h=>by
  refine Ac h fun e x y p h=>eE h fun h0 h1 h2=>?_
  exact BW (cg t F h0) (dU a F h1) (dU b F h2)
 | .fo it t b,X,C,F,s,h=>by
  refine nQ h fun t' it' x p h=>d9 h fun h0 h1 h2 h3=>?_
  exact yi F.po F.calm (my it F h0) (eY t F h2) (dU b F h3) (jz h1)
 | .fd a t b,X,C,F,s,h=>by
  refine nQ h fun t' it' x p h=>d9 h fun h0 h1 h2 h3=>?_
  exact vW F.po F.calm (aj a F h0) (eY t F h2) (dU b F h3) (jz h1)
 | .wh t b,X,C,F,s,h=>by
  refine wE h fun e x p h=>bF h fun h0 h1=>?_
  exact tj F.po (cg t F h0) (dU b F h1)
 | .dead,X,C,F,s,h=>vY
theorem dU [GG] {ks:List Fn}:∀ (as:GK) {X:Cx}{C:SC} (_:Fit X C ks) {ss:List Stmt},g9 as C ss=true->ip X ss (ao ks as)
 | .nil,X,C,F,s,h=>by cases s with | nil=>exact vV | cons _ _=>exact aS h
 | .cons a as,X,C,F,s,h=>by
  cases s with
  | nil=>exact aS h
  | cons s ss=>exact bF h fun h0 h1=>tf (Ap a F h0) (dU as F h1)
 | .dead,X,C,F,s,h=>td
end
section
variable (P:Program) (w:World) (K:Frag) (mg:Str->Option Value) (base:Heap)
def FP [GG] (d:Nat) (x:Str) (n:Nat) (fn:Fn):Prop:=∃ f fd ps,ps.length=n/\FnOk P w K mg base de d f fd ps (cP ⟨K,mg⟩ ps.length fn)/\mg x=some (.ref f)/\keepIn K (.ref f)=true/\Binds K fd ps []
def FO [GG] (d:Nat) (c m:Str) (n:Nat) (fn:Fn):Prop:=∃ f fd ps C,ps.length=n/\FnOk P w K mg base de d f fd ps (cP ⟨K,mg⟩ ps.length fn)/\mg c=some (.ref C)/\Cls K C/\gR K C m f/\Binds K fd ps []
def FN [GG] (d:Nat) (c:Str) (n:Nat) (fn:Fn):Prop:=∃ f fd ps C,ps.length=n/\FnOk P w K mg base de d f fd ps (cP ⟨K,mg⟩ ps.length fn)/\mg c=some (.ref C)/\Mk K C f/\Binds K fd ps []
def KOk [GG] (d:Nat) (fn:Fn):Ke->Prop
 | .f x n=>FP P w K mg base d x n fn
 | .m c m n=>FO P w K mg base d c m n fn
 | .k c n=>FN P w K mg base d c n fn
def KsOk [GG] (d:Nat):List Ke->List Fn->Prop
 | [],_=>True
 | k::ke,fn::ks=>KOk P w K mg base d fn k/\KsOk d ke ks
 | _::_,[]=>False
structure Ev (gs:List (Str × AV)) (cl:List (Str × List Str)):Prop where
 bl:∀ x ∈ bnames,mg x=none
 gs:∀ p ∈ gs,∀ w,jA p.2=some w->∃ u,mg p.1=some u/\RelV w u
 cl:∀ p ∈ cl,∃ Ca,mg p.1=some (.ref Ca)/\Cls K Ca/\∀ f ∈ p.2,NoAttr K Ca f
end
section
variable {P:Program}{w:World}{K:Frag}{mg:Str->Option Value}{base:Heap}{d d':Nat}{fn:Fn}
theorem KOk.mono [GG] (h:d <= d'):∀ {k:Ke},KOk P w K mg base d fn k->KOk P w K mg base d' fn k
 | .f _ _,⟨f,fd,ps,e,F,r⟩=>⟨f,fd,ps,e,F.mono h,r⟩
 | .m _ _ _,⟨f,fd,ps,C,e,F,r⟩=>⟨f,fd,ps,C,e,F.mono h,r⟩
 | .k _ _,⟨f,fd,ps,C,e,F,r⟩=>⟨f,fd,ps,C,e,F.mono h,r⟩
theorem KsOk.at [GG]:∀ {ke:List Ke}{ks:List Fn}{j:Nat}{k:Ke},KsOk P w K mg base d ke ks->ke[j]?=some k->KOk P w K mg base d (kf ks j) k
 | [],_,_,_,_,e=>by simp at e
 | k::ke,[],_,_,h,_=>h.elim
 | k::ke,fn::ks,0,_,h,e=>by simp at e;subst e;exact h.1
 | k::ke,fn::ks,j + 1,_,h,e=>by
  have:=KsOk.at (j:=j) h.2 (by simpa using e)
  exact this
theorem KOk.ok [GG] (hr:Room (d + 1) A):∀ {k:Ke},KOk P w K mg base d fn k->Bz P w K mg base A fn k
 | .f _ _,⟨f,fd,ps,e,F,m,kp,b⟩=>⟨d,f,fd,ps,e,F,hr.mono (Nat.le_succ d),m,kp,b⟩
 | .m _ _ _,⟨f,fd,ps,C,e,F,m,c,me,b⟩=>⟨d,f,fd,ps,C,e,F,hr.mono (Nat.le_succ d),m,c,me,b⟩
 | .k _ _,⟨f,fd,ps,C,e,F,m,mk,b⟩=>⟨d,f,fd,ps,C,e,F,hr,m,mk,b⟩
end
def dS (st:Stmt):List Str:=(cZ st).args.map (·.arg)
noncomputable def A4 (N ps:List Str) (sc:Scope):Bool:=(match sc.kind with | .function=>true | _=>false) && !sc.isCoroutine && !sc.isGenerator && decide N.Nodup && decide (N.take ps.length=ps) &&
 (ps.all fun x=>match sc.names.lookup x with | some .local=>true | some .cell=>true | _=>false) && (sc.names.all fun p=>match p.2 with | .free=>false | _=>true)
theorem A3 (h:A4 N ps sc=true):iN N ps sc:=by
 unfold A4 at h;simp only [zC,z7] at h;obtain ⟨⟨⟨⟨⟨⟨h1,h2⟩,h3⟩,h4⟩,h5⟩,h6⟩,h7⟩:=h;refine ⟨?_,by simpa using h2,by simpa using h3,h4,h5,fun x hx=>?_,fun y hy e=>?_⟩
 ·split at h1
  ·rename_i e;exact e
  ·cases h1
 ·have:=yL.mp h6 x hx
  split at this
  ·rename_i e;exact .inl e
  ·rename_i e;exact .inr e
  ·cases this
 ·have:=yL.mp h7 y hy
  rw [e] at this;cases this
def chk (N:List Str) (ke:List Ke) (gs:List (Str × AV)) (cl:List (Str × List Str)) (la:List Pos) (b:GK) (st:Stmt):Bool :=
 A4 N (dS st) (cm st) && gY (cZ st) && decide (dS st).Nodup && g9 b ⟨N,(cm st).names,N,ke,gs,cl,la⟩ (db st)
section
variable {P:Program}{w:World}{K:Frag}{mg:Str->Option Value}{base:Heap}{d:Nat}{x qual:Str}{st:Stmt}{f:Addr}{fd:FuncData}{N:List Str}{ke:List Ke}{ks:List Fn}{gs:List (Str × AV)}{cl:List (Str × List Str)}{la:List Pos}{b:GK}
theorem CT [GG] {N ps:List Str}{k:Nat}{b:SF} (F:Fun K x qual st f fd) (S:iN N ps (cm st))
  (hbody:∀ (A:Around) (outer:List Env) (s:Shared) (H:Hp) (E:XK),Room k (A.deeper (envOfC qual (cm st) s.heap.objs.size f fd.code))->ip (kL de P w K mg base N qual (cm st) f fd.code A outer s H E).nox (db st) b) :
  FnOk P w K mg base de (k + 1) f fd ps (cP ⟨K,mg⟩ ps.length (run N.length b)):=by
 obtain ⟨oc,od,kV,doc,pm,an,cdv,ct,osl,rfl,lk,hcd⟩:=F.ex;refine CS lk hcd S (fun vs H Q E h=>h.1) fun A outer s H vs Q E hr h=>?_
 obtain ⟨hl,P,φ,args,st,r,sm,k⟩:=h;have hb:=hbody A outer s H E hr;refine ⟨_,PSs.nox hb,?_⟩;obtain ⟨v,st',e,q⟩:=k;obtain ⟨o,e1,e2⟩:=zA e;refine ⟨P,φ,_,st,vP r,sm,o,e1,?_⟩;cases o with
 | nx sl st1=>cases e2;exact fun P' φ' H' σ' f' s' _=>q P' φ' H' .non f' s' (by simp only [RA])
 | rt v st1=>cases e2;exact fun P' φ' H' w f' s' r'=>q P' φ' H' w f' s' r'
 | bk sl st1=>cases e2
 | ct sl st1=>cases e2
def m6 [GG] (mg:Str->Option Value) (base:Heap) (qual:Str) (cd:Value) (la:List Pos):Prop:=∀ p ∈ la,∃ c P,cd=.ref c/\CodeHd base c P/\iu mg base/\(P,p,qual++".<locals>."++"<lambda>") ∈ GG.tb/\∀ t ∈ GG.tb,t.1=P->t=(P,p,qual++".<locals>."++"<lambda>")
theorem jX [GG] (F:Fun K x qual st f fd) (E:Ev K mg gs cl) (hl:m6 mg base qual fd.code la) (hk:KsOk P w K mg base d ke ks) (h:chk N ke gs cl la b st=true) :
  FnOk P w K mg base de (d + 3) f fd (dS st) (cP ⟨K,mg⟩ (dS st).length (run N.length (ao ks b)))/\Binds K fd (dS st) []:=by
 unfold chk at h;simp only [zC,z7] at h;obtain ⟨⟨⟨h1,h2⟩,h3⟩,h4⟩:=h;have S:=A3 h1;refine ⟨CT F S fun A outer s H E' hr=>?_,F.binds fun kV doc pm an cdv ct us hl=>ka h2 rfl h3 hl⟩;refine dU b ⟨rfl,rfl,S.nd,S.kind,rfl,fun _ _=>rfl,hr.units,E.bl,PassesOwn.never,fun j k e=>(hk.at e).ok (hr.mono oM),E.gs,E.cl,fun p hp=>⟨hr.mono oM,hl p hp⟩⟩ h4
end
structure FE where
 ke:Ke
 qual:Str
 st:Stmt
 N:List Str
 cs:List Nat
 d:Nat
 la:List Pos
 b:GK
def FE.fn (e:FE) (fs:List Fn):Fn:=run e.N.length (ao (e.cs.map (kf fs)) e.b)
def FE.ok [GG] (e:FE) (K:Frag) (mg:Str->Option Value) (base:Heap):Prop:=match e.ke with
 | .f x _=>∃ f fd,mg x=some (.ref f)/\Fun K x e.qual e.st f fd/\m6 mg base e.qual fd.code e.la
 | .m c m _=>∃ f fd C,mg c=some (.ref C)/\Cls K C/\gR K C m f/\Fun K m e.qual e.st f fd/\m6 mg base e.qual fd.code e.la
 | .k c _=>∃ f fd C,mg c=some (.ref C)/\Mk K C f/\Fun K "__init__" e.qual e.st f fd/\m6 mg base e.qual fd.code e.la
noncomputable def Ke.n:Ke->Nat
 | .f _ n=>n
 | .m _ _ n=>n
 | .k _ n=>n
noncomputable def uf (pre:List FE) (j:Nat):Ke:=match pre[j]? with
 | some e=>e.ke
 | none=>.f "" 0
def FE.chk (gs:List (Str × AV)) (cl:List (Str × List Str)) (pre:List FE) (e:FE):Bool :=
 R.chk e.N (e.cs.map (uf pre)) gs cl e.la e.b e.st && (e.ke.n == (dS e.st).length) && e.cs.all (fun j=>match pre[j]? with | some g=>Nat.ble (g.d + 3) e.d | none=>false) && Nat.ble 3 e.d
def ie (gs:List (Str × AV)) (cl:List (Str × List Str)):List FE->List FE->Bool
 | _,[]=>true
 | pre,e::r=>e.chk gs cl pre && ie gs cl (pre++[e]) r
def fy:List Fn->List FE->List Fn
 | fs,[]=>fs
 | fs,e::r=>fy (fs++[e.fn fs]) r
section
variable {P:Program}{w:World}{K:Frag}{mg:Str->Option Value}{base:Heap}{gs:List (Str × AV)}{cl:List (Str × List Str)}
def lP [GG] (P:Program) (w:World) (K:Frag) (mg:Str->Option Value) (base:Heap) (pre:List FE) (fs:List Fn):Prop:=pre.length=fs.length/\∀ (j:Nat) e,pre[j]?=some e->KOk P w K mg base e.d (kf fs j) e.ke
theorem pw [GG] {d:Nat} (h:lP P w K mg base pre fs):∀ cs:List Nat,(cs.all fun j=>match pre[j]? with | some g=>Nat.ble (g.d + 3) (d + 3) | none=>false)=true->KsOk P w K mg base d (cs.map (uf pre)) (cs.map (kf fs))
 | [],_=>trivial
 | j::cs,hc=>by
  rw [List.all_cons,zC] at hc;refine ⟨?_,pw h cs hc.2⟩;have h1:=hc.1;split at h1
  ·rename_i g hg
   have:=h.2 j g hg
   unfold uf;rw [hg];exact this.mono (by have:=zS h1;omega)
  ·cases h1
theorem CU [GG] {pre:List FE}{fs:List Fn}{e:FE} (E:Ev K mg gs cl) (h:lP P w K mg base pre fs) (hf:e.ok K mg base) (hc:e.chk gs cl pre=true):KOk P w K mg base e.d (e.fn fs) e.ke:=by
 unfold FE.chk at hc;simp only [zC] at hc;obtain ⟨⟨⟨h1,h2⟩,h3⟩,h4⟩:=hc;have hn:=yH h2;obtain ⟨d,hd⟩:∃ d,e.d=d + 3:=⟨e.d - 3,by have:=zS h4;omega⟩;rw [hd] at h3 ⊢;have hk:=pw h e.cs h3;unfold FE.fn;unfold FE.ok at hf;split at hf
 ·rename_i x n ek
  obtain ⟨f,fd,m,F,L⟩:=hf;obtain ⟨a1,a2⟩:=jX F E L hk h1;rw [ek] at hn ⊢;exact ⟨f,fd,dS e.st,hn.symm,a1,m,F.kp,a2⟩
 ·rename_i c m n ek
  obtain ⟨f,fd,C,hC,hc,hm,F,L⟩:=hf;obtain ⟨a1,a2⟩:=jX F E L hk h1;rw [ek] at hn ⊢;exact ⟨f,fd,dS e.st,C,hn.symm,a1,hC,hc,hm,a2⟩
 ·rename_i c n ek
  obtain ⟨f,fd,C,hC,hm,F,L⟩:=hf;obtain ⟨a1,a2⟩:=jX F E L hk h1;rw [ek] at hn ⊢;exact ⟨f,fd,dS e.st,C,hn.symm,a1,hC,hm,a2⟩
theorem qS {j:Nat} (h:j < fs.length):kf (fs++[g]) j=kf fs j:=by
 unfold kf;rw [zD,zD,zN h]
theorem w6:kf (fs++[g]) fs.length=g:=by
 unfold kf;rw [zD];simp
theorem nG [GG] (E:Ev K mg gs cl):∀ (rest pre:List FE) (fs:List Fn),lP P w K mg base pre fs->(∀ e ∈ rest,e.ok K mg base)->ie gs cl pre rest=true->lP P w K mg base (pre++rest) (fy fs rest)
 | [],pre,fs,h,_,_=>by rw [List.append_nil];exact h
 | e::r,pre,fs,h,hf,hc=>by
  unfold ie at hc;rw [zC] at hc;have h1:=CU E h (hf e z4) hc.1
  have:=nG E r (pre++[e]) (fs++[e.fn fs]) ⟨by simp [h.1],fun j g hg=>?_⟩ (fun g hg=>hf g (zQ _ hg)) hc.2
  ·rw [yJ] at this;exact this
  ·rcases yO j pre.length with hj | hj
   ·rw [zN hj] at hg
    rw [qS (by rw [<- h.1];exact hj)];exact h.2 j g hg
   ·have ej:j=pre.length:=by
     have:=(zB.mp hg).1
     rw [zV] at this;simp at this;omega
    subst ej;simp at hg;subst hg;rw [h.1,w6];exact h1
end
theorem Cv [GG] {K:Frag}{mg:Str->Option Value}{H:Hp}{a:Addr}{ns:List Int}{fn:Fn}{E:XK} (hg:∃ st,fn [.fz (ns.map .int)] []=some (.bl true,st)) (hS:bC K H a (ns.map V.int)) (tb:∀ t ∈ GG.tb,dO H t.1 t.2.1 t.2.2):cP ⟨K,mg⟩ 1 fn [.ref a] H (fun v _=>v=.bl true) E:=by
 obtain ⟨st,e⟩:=hg;refine ⟨rfl,fun c=>∃ vs,Rd H c (.lst vs),[],[.fz (ns.map .int)],[],bc ?_ bv,Sim.nil (fun c h=>?_) (fun t ht=>⟨tb t ht,fun hq0=>by obtain ⟨vs,z⟩:=hq0;obtain ⟨ps,e,_⟩:=tb t ht;rcases z with z | ⟨o,z⟩ <;> (rw [e] at z;cases z)⟩),.bl true,st,e,fun P' φ' H' w f s r=>by simpa only [RA] using r⟩
 ·simp only [RA]
  refine ⟨a,ns.map V.int,rfl,?_,GI.of_ints⟩;rcases hS with h | h
  ·exact .inl ⟨⟨_,h⟩,h⟩
  ·exact .inr fun H'=>.inr h
 ·obtain ⟨vs,h | ⟨o,h⟩⟩:=h <;> (rw [h];exact fun z=>nomatch z)
end R
namespace L2
open PySem PySem.Spec PyProof.Rows
theorem qR {P:Program}{w:World}{K:Frag}{mg mb:Str->Option Value}{CX:ir}{k:Nat}{fa a:Addr}{fd:FuncData}{x:Str}{sp:Sp}{s₁:Shared}{vs:List Value}{ns:List Int}{tabs:List (Addr × Addr)}
  (KX:K.In s₁.heap) (hns:s₁.heap.Ns mainGlobals mg) (hb:s₁.heap.Ns builtinsNs mb) (hbb:∀ x:Str,x ≠ "__name__"->mb x=bootBuiltins x) (hlim:s₁.heap.NoLimit) (hg:s₁.gens=#[])
  (bm:∃ bm ob,mg "__builtins__"=some (.ref bm)/\bm ≠ builtinsNs/\s₁.heap.get? bm=some ob/\ob.cls=.type "module"/\ob.dict=some builtinsNs/\ob.data=.plain)
  (hT:TabsAt tabs s₁.heap) (hK0:noTabs K=true)
  (ha:s₁.heap.get? a=some { cls:=.type "list",data:=.seq vs.toArray }) (hi:IntsAre vs ns) (hl:ns.length <= sizeLine) (hr:Room k callerA)
  (F:∀ base:Heap,K.In base->base.Ns mainGlobals mg->iu mg base->FnOk P w K mg base CX k fa fd [x] sp) (hbind:∀ (s:Shared) (u:Value),BindsTo s fd ⟨[u],[]⟩ [(x,u)])
  (hsp:∀ H:Hp,(∀ q ∈ tabs,H q.2=some (.tbl #[]))->bC K H a (ns.map V.int)->sp [.ref a] H (fun v _=>v=.bl true) fun _ _ _=>False)
  (hCX:∀ H e s',CX [] H s₁ (fun _ _ _=>False) e s'->False) :
  codeAny (model P w) callerA (.call (.ref fa) ⟨[.ref a],[]⟩) (fun r s'=>r=.ok (.ret (.bool true))/\OldK s₁.heap s'.heap/\s'.os=s₁.os/\AllBare s'.gens) s₁:=by
 have rv:=pR hi;have lenV:=hi.length;have core:∀ H:Hp,bC K H a (ns.map V.int)->HOk P w H s₁.heap->(∀ b,H b=none\/(b=a/\K.lookup a=none/\∃ o xs,H b=some (.frz o (.lst xs)))\/(∃ q ∈ tabs,b=q.2/\H b=some (.tbl #[])))->(∀ q ∈ tabs,H q.2=some (.tbl #[])) ->
   codeAny (model P w) callerA (.call (.ref fa) ⟨[.ref a],[]⟩) (fun r s'=>r=.ok (.ret (.bool true))/\OldK s₁.heap s'.heap/\s'.os=s₁.os/\AllBare s'.gens) s₁:=by
  intro H hS GJ hA hTb;have du:∀ {b:Addr}{o:Obj},s₁.heap.get? b=some o->H b=none->(fJ s₁.heap H).get? b=some o:=fun e n=>uk e n
  have none_of:∀ {b:Addr}{o:Obj},s₁.heap.get? b=some o->o.cls ≠ .type "list"->o ≠ tabObj #[]->H b=none:=fun {b o} e n1 n2=>by
   rcases hA b with z | ⟨rfl,_⟩ | ⟨q,hq,rfl,_⟩
   ·exact z
   ·rw [ha] at e;cases e;exact absurd rfl n1
   ·rw [(hT q hq).2] at e;cases e;exact absurd rfl n2
  have dict_of:∀ {b:Addr}{o:Obj}{es:Array DictEntry}{ep:Nat},s₁.heap.get? b=some o->o.data=.dict es ep->H b=none:=fun {b o es ep} e d=>by
   rcases hA b with z | ⟨rfl,_⟩ | ⟨q,hq,rfl,_⟩
   ·exact z
   ·rw [ha] at e;cases e;cases d
   ·rw [(hT q hq).2] at e;cases e;cases d
  have nsK:∀ {b:Addr}{m:Str->Option Value},s₁.heap.Ns b m->(fJ s₁.heap H).Ns b m:=fun {b m} ⟨o,es,ep,e,d,r⟩=>⟨o,es,ep,du e (dict_of e d),d,r⟩
  have hKb:K.In (fJ s₁.heap H):=fun b o e=>du (KX b o e) (by
   rcases hA b with z | ⟨rfl,z,_⟩ | ⟨q,hq,rfl,_⟩
   ·exact z
   ·rw [z] at e;cases e
   ·have e1:=KX _ o e
    rw [(hT q hq).2] at e1;cases e1;have h2:=yL.mp hK0 _ (mem_of_lookupK e);exact absurd (show false=true from h2) Bool.false_ne_true)
  have hM:Mod K mg (fJ s₁.heap H):=⟨hKb,nsK hns,⟨mb,nsK hb,hbb⟩,let ⟨mc,h1,h2⟩:=hlim;⟨mc,nsK h1,h2⟩⟩;have hBM:iu mg (fJ s₁.heap H):=by
   obtain ⟨bm,ob,b1,b2,b3,b4,b5,b6⟩:=bm;refine ⟨bm,ob,b1,b2,fun z=>?_,du b3 (none_of b3 (by rw [b4];intro z;injection z with z;exact absurd z dC) (fun z=>by rw [z] at b4;cases b4)),b4,b5,b6⟩;obtain ⟨o,es,ep,e,d,_⟩:=hns;rw [z,e] at b3;cases b3;rw [d] at b6;cases b6
  have e0:Env0 P w K mg (fJ s₁.heap H) callerA [] s₁ H:=⟨rfl,hM,fun b o e=>wK e,Nat.le_of_eq (re _ _),trivial,fun b hb=>absurd (show b ∈ ([]:List Addr) from hb) (by simp),GJ,.of_eq hg⟩;refine codeAny_mono ((F _ hKb (nsK hns) hBM).run callerA [] s₁ H ⟨[.ref a],[]⟩ [.ref a] [.ref a] _ _ hr e0 (hbind s₁ (.ref a)) (.cons rfl .nil) (hsp H hTb hS)) fun r s' h=>?_
  cases r with
  | error e=>exact (hCX H e s' h).elim
  | ok fl =>
   cases fl with
   | next=>exact False.elim h
   | brk=>exact False.elim h
   | cont=>exact False.elim h
   | ret u =>
    obtain ⟨v,H',os,bare,un,hok',r',q⟩:=h;have q':v=.bl true:=q;subst q';obtain rfl:u=Value.bool true:=r';have old:∀ b o,s₁.heap.get? b=some o->asItWas s₁.heap s'.heap b o:=fun b o e=>by
     rcases hA b with z | ⟨rfl,_,ob,xs,z⟩ | ⟨q,hq,rfl,z⟩
     ·exact .inl (un.keep b o e z (by intro z;exact absurd (show b ∈ ([]:List Addr) from z) (by simp)) (by simp))
     ·have z2:=un.frzs b ob _ z
      obtain ⟨e1,_⟩:=GJ b _ z;obtain ⟨e2,_⟩:=hok' b _ z2;rw [e] at e1;cases e1;exact .inl e2
     ·obtain ⟨more,z2⟩:=un.tbls _ _ z
      have e2:=hok' _ _ z2;rw [(hT q hq).2] at e;cases e;exact .inr (.inl ⟨((hT q hq).1.tab (hT q hq).2).isCodeTable,rfl,#[],more,rfl,e2⟩)
    refine ⟨rfl,⟨old,fun b o e=>?_⟩,os,bare⟩;exact un.there b o e (by simp)
 have natab:∀ q ∈ tabs,q.2 ≠ a:=fun q hq e=>by
  have:=(hT q hq).2
  rw [e,ha] at this;cases this
 cases hk:K.lookup a with
 | some o =>
  have e:=KX a o hk;rw [ha] at e;cases e;refine core (fun b=>if b ∈ tabs.map (·.2) then some (.tbl #[]) else none) (.inr ⟨_,vs.toArray,_,hk,rfl,rfl,rfl,by rw [zI,lenV];exact hl,by simpa using rv⟩) (fun b u z=>?_) (fun b=>?_) fun q hq=>yF (List.mem_map_of_mem hq)
  ·dsimp only at z
   by_cases hb:b ∈ tabs.map (·.2)
   ·rw [yF hb] at z;cases z
    obtain ⟨q,hq,rfl⟩:=yA.mp hb;exact (hT q hq).2
   ·rw [yE hb] at z;cases z
  ·by_cases hb:b ∈ tabs.map (·.2)
   ·obtain ⟨q,hq,rfl⟩:=yA.mp hb
    exact .inr (.inr ⟨q,hq,rfl,yF hb⟩)
   ·exact .inl (yE hb)
 | none =>
  refine core (fun b=>if b ∈ tabs.map (·.2) then some (.tbl #[]) else if b=a then some (.frz { cls:=.type "list",data:=.seq vs.toArray } (.lst (ns.map V.int))) else none) (.inl (.inr ⟨{ cls:=.type "list",data:=.seq vs.toArray },?_⟩)) (fun b u z=>?_) (fun b=>?_) fun q hq=>yF (List.mem_map_of_mem hq)
  ·dsimp only
   rw [yE (fun z=>by obtain ⟨q,hq,e⟩:=yA.mp z;exact natab q hq e),yF rfl]
  ·dsimp only at z
   by_cases hb:b ∈ tabs.map (·.2)
   ·rw [yF hb] at z;cases z
    obtain ⟨q,hq,rfl⟩:=yA.mp hb;exact (hT q hq).2
   ·rw [yE hb] at z
    by_cases hb':b=a
    ·rw [yF hb'] at z;cases z
     subst hb';exact ⟨ha,by rw [zH];exact hl,vs,_,rv,ha⟩
    ·rw [yE hb'] at z;cases z
  ·by_cases hb:b ∈ tabs.map (·.2)
   ·obtain ⟨q,hq,rfl⟩:=yA.mp hb
    exact .inr (.inr ⟨q,hq,rfl,yF hb⟩)
   ·by_cases hb':b=a
    ·exact .inr (.inl ⟨hb',hk,_,_,(yE hb).trans (yF hb')⟩)
    ·exact .inl ((yE hb).trans (yE hb'))
theorem xL {l:PySem.W.OpenLaw}{n k:Nat}{q:Program}{loose:List Str}{XP:(Str->Option Value)->Heap->Prop}{YP:World->Heap->Prop}{d:DefRec}{K:Params->Frag}{sp:World->Sp}{x:Str}{tabs:List (Addr × Addr)}
  (hn:l.most=some n) (hn2:n <= sizeLine) (hdf:d.params.defaults=[]) (hr:Room k callerA)
  (hY:∀ (w:World) (h:Heap),YP w h->(K w.params).In h/\∀ q ∈ tabs,h.get? q.2=some (tabObj #[])) (hc:∀ (w:World),∀ q ∈ tabs,codeHdIn (K w.params) q.1 q.2=true) (hK0:∀ (w:World),noTabs (K w.params)=true)
  (F:∀ (w:World) (mg:Str->Option Value) (fa:Addr) (h:Heap),(K w.params).In h->h.Ns mainGlobals mg->mg d.name=some (.ref fa) ->
   ∃ fd:FuncData,(∀ (s:Shared) (u:Value),BindsTo s fd ⟨[u],[]⟩ [(x,u)]) /\
    ∀ base:Heap,(K w.params).In base->base.Ns mainGlobals mg->iu mg base->FnOk l.prog w (K w.params) mg base de k fa fd [x] (sp w))
  (hsp:∀ (w:World) (H:Hp) (a:Addr) (ns:List Int),ns.length <= n->(∀ q ∈ tabs,H q.2=some (.tbl #[]))->bC (K w.params) H a (ns.map V.int)->sp w [.ref a] H (fun v _=>v=.bl true) fun _ _ _=>False) :
  PySem.W.WalkO q loose XP YP l.row.toRowW d [] (fun f vs=>PySem.call f vs):=by
 refine Att.attach_call hn hdf fun w s₀ s₁ mg mb fa o pm cd doc a vs ns G Y ho hd hcd hmg hobj hints hlen hg=>?_
 obtain ⟨KX,hT0⟩:=hY w _ Y;obtain ⟨fd,hb,hF⟩:=F w mg fa _ KX G.T.g hmg;exact qR (tabs:=tabs) KX G.T.g G.T.b G.T.builtins G.T.nolimit hg G.T.bmain (fun q hq=>⟨codeHd_of_K KX (hc w q hq),hT0 q hq⟩) (hK0 w) hobj hints (z0 hlen hn2) hr hF hb (fun H hO hS=>hsp w H a ns hlen hO hS) fun H e s' z=>z
end L2
namespace R
open PySem PySem.Spec PyProof.Rows L2
abbrev Eg [GG] (K:Frag) (qual:Str) (cd:Value) (la:List Pos):Prop:=la=[]\/∃ p c P,la=[p]/\cd=.ref c/\codeHdIn K c P=true/\GG.tb=[(P,p,qual++".<locals>."++"<lambda>")]
abbrev FactF [GG] (K:Frag) (x:Str) (e:FE):Prop:=∃ (f:Addr) (oc:Value) (od:Option Addr) (sl:Array (Option Value)) (kV dc pm:Value) (an:Option Addr) (cd ct:Value),nsIn K mainGlobals x=some (some (.ref f)) /\
 K.lookup f=some ⟨oc,od,.func (fnOf x e.qual (cZ e.st) (db e.st) (cm e.st) .none kV dc pm an cd ct),sl⟩/\codeIn K cd e.qual=true/\keepIn K (.ref f)=true/\Eg K e.qual cd e.la
abbrev pO (K:Frag) (c:Str):Prop:=∃ C:Addr,nsIn K mainGlobals c=some (some (.ref C))/\plainGet K C Str.empty=true/\hasDictIn K C=true/\plainOver K C=true/\findIn K (.ref C) "__setattr__"=some (some (.builtin "object.__setattr__"))
abbrev vE (K:Frag) (c:Str) (fs:List Str):Prop:=∃ C:Addr,nsIn K mainGlobals c=some (some (.ref C))/\(fs.all fun f=>match findIn K (.ref C) f with | some none=>true | _=>false)=true
abbrev vz (K:Frag):Prop:=(bnames.all fun x=>match nsIn K mainGlobals x with | some none=>true | _=>false)=true
section
variable [GG] {K:Frag}{h base:Heap}{mg:Str->Option Value}
theorem vb (B:K.In base) (hb:iu mg base) (L:Eg K qual cd la):m6 mg base qual cd la:=by
 intro p hp;rcases L with rfl | ⟨q,c,P,rfl,e,hc,ht⟩
 ·cases hp
 ·rw [zL.mp hp]
  exact ⟨c,P,e,codeHd_of_K B hc,hb,by rw [ht];simp,fun t h1 _=>by rw [ht] at h1;exact zL.mp h1⟩
theorem FactF.ok {n:Nat} (hk:e.ke=.f x n) (F:FactF K x e) (X:K.In h) (G:h.Ns mainGlobals mg) (B:K.In base) (hb:iu mg base):e.ok K mg base:=by
 obtain ⟨f,oc,od,sl,kV,dc,pm,an,cd,ct,a,l,c,k,L⟩:=F;unfold FE.ok;rw [hk];exact ⟨f,_,mg_of X G a,rl l c k,vb B hb L⟩
theorem Bf (F:pO K c) (X:K.In h) (G:h.Ns mainGlobals mg) (hC:nsIn K mainGlobals c=some (some (.ref C))):mg c=some (.ref C)/\Cls K C:=by
 obtain ⟨C',a,f1,f2,f3,f4⟩:=F;rw [hC] at a;cases a;exact ⟨mg_of X G hC,⟨f1,f2,f3,f4⟩⟩
abbrev FactG (K:Frag) (p:Str × AV):Prop:=match p.2 with
 | .int i=>∃ t,nsIn K mainGlobals p.1=some (some (.int i t))
 | .str x=>∃ t,nsIn K mainGlobals p.1=some (some (.str x t))
 | _=>False
theorem FactG.ok (F:FactG K p) (X:K.In h) (G:h.Ns mainGlobals mg):∀ w,jA p.2=some w->∃ u,mg p.1=some u/\RelV w u:=by
 obtain ⟨x,c⟩:=p;intro w hw;cases c with
 | int i=>obtain ⟨t,e⟩:=F;cases hw;exact ⟨_,mg_of X G e,t,rfl⟩
 | str y=>obtain ⟨t,e⟩:=F;cases hw;exact ⟨_,mg_of X G e,t,rfl⟩
 | _=>exact F.elim
theorem CV (X:K.In h) (G:h.Ns mainGlobals mg) (hb:vz K) (hg:∀ p ∈ gs,FactG K p) (hc:∀ p ∈ cl,pO K p.1/\vE K p.1 p.2):Ev K mg gs cl:=by
 refine ⟨fun x hx=>?_,fun p hp=>(hg p hp).ok X G,fun p hp=>?_⟩
 ·have:=yL.mp hb x hx
  split at this
  ·rename_i e;exact mg_none_of X G e
  ·cases this
 ·obtain ⟨C0,C,a,fs⟩:=hc p hp
  obtain ⟨m1,m2⟩:=Bf C0 X G a;refine ⟨C,m1,m2,fun f hf=>?_⟩
  have:=yL.mp fs f hf
  split at this
  ·rename_i e;exact e
  ·cases this
end
theorem law_F [GG] {P:Program}{w:World}{K:Frag}{h:Heap}{mg:Str->Option Value}{fa:Addr}{gs:List (Str × AV)}{cl:List (Str × List Str)}{pre:List FE}{e:FE}{fn:Fn} (X:K.In h) (G:h.Ns mainGlobals mg) (hfa:mg "law"=some (.ref fa))
  (hb:vz K) (hg:∀ p ∈ gs,FactG K p) (hc:∀ p ∈ cl,pO K p.1/\vE K p.1 p.2) (hchk:ie gs cl [] pre=true) (hce:e.chk gs cl pre=true)
  (facts:∀ base:Heap,K.In base->iu mg base->∀ e ∈ pre,e.ok K mg base) (hF:FactF K "law" e) (hps:dS e.st=[("_law_script":Str)]) (hfn:e.fn (fy [] pre)=fn) :
  ∃ fd:FuncData,(∀ (s:Shared) (v:Value),BindsTo s fd ⟨[v],[]⟩ [("_law_script",v)])/\∀ base:Heap,K.In base->base.Ns mainGlobals mg->iu mg base ->
   FnOk P w K mg base de e.d fa fd ["_law_script"] (fun vs H Q E=>∀ mg,cP ⟨K,mg⟩ 1 fn vs H Q E):=by
 have E:=CV X G hb hg hc;unfold FE.chk at hce;simp only [zC] at hce;obtain ⟨⟨⟨h1,h2⟩,h3⟩,h4⟩:=hce;obtain ⟨d,hd⟩:∃ d,e.d=d + 3:=⟨e.d - 3,by have:=zS h4;omega⟩;rw [hd] at h3 ⊢;obtain ⟨f,oc,od,sl,kV,dc,pm,an,cd,ct,a,l,c,k,L⟩:=hF;have m:=mg_of X G a;rw [hfa] at m;cases m;have F:=rl l c k;refine ⟨fnOf "law" e.qual (cZ e.st) (db e.st) (cm e.st) .none kV dc pm an cd ct,fun s v=>?_,fun base B _ hbm=>?_⟩
 ·have hp:gY (cZ e.st)=true:=by
   unfold R.chk at h1;simp only [zC] at h1;exact h1.1.1.2
  refine .of_eq ?_
  have:=ka (fd:=fnOf "law" e.qual (cZ e.st) (db e.st) (cm e.st) .none kV dc pm an cd ct) (us:=[v]) hp rfl (by show (dS e.st).Nodup;rw [hps];simp) (by show _=(dS e.st).length;rw [hps];rfl)
  rw [this];show pure ((dS e.st).zip [v])=_;rw [hps];rfl
 ·have pk:=nG (P:=P) (w:=w) E pre [] [] ⟨rfl,fun j g hg=>by simp at hg⟩ (facts base B hbm) hchk
  have hk:=pw (d:=d) pk e.cs h3
  have:=(jX F E (vb B hbm L) hk h1).1
  rw [hps] at this;have hfn':run e.N.length (ao (e.cs.map (kf (fy [] pre))) e.b)=fn:=hfn;rw [hfn'] at this;exact this.imp fun vs H Q E q=>q mg
theorem walk_R [GG] {l:PySem.W.OpenLaw}{k:Nat}{q:Program}{loose:List Str}{XP:(Str->Option Value)->Heap->Prop}{YP:World->Heap->Prop}{d:DefRec}{K:Params->Frag}{fn:Fn}{tabs:List (Addr × Addr)}
  (hn:l.most=some 63) (hdf:d.params.defaults=[]) (hr:Room k callerA)
  (hY:∀ (w:World) (h:Heap),YP w h->(K w.params).In h/\∀ q ∈ tabs,h.get? q.2=some (tabObj #[])) (hc:∀ (w:World),∀ q ∈ tabs,codeHdIn (K w.params) q.1 q.2=true) (hK0:∀ (w:World),noTabs (K w.params)=true)
  (ht:∀ t ∈ GG.tb,t.1 ∈ tabs.map (·.2)) (hg:∀ ns:List Int,ns.length <= 63->∃ st,fn [.fz (ns.map .int)] []=some (.bl true,st))
  (F:∀ (w:World) (mg:Str->Option Value) (fa:Addr) (h:Heap),(K w.params).In h->h.Ns mainGlobals mg->mg d.name=some (.ref fa) ->
   ∃ fd:FuncData,(∀ (s:Shared) (u:Value),BindsTo s fd ⟨[u],[]⟩ [("_law_script",u)]) /\
    ∀ base:Heap,(K w.params).In base->base.Ns mainGlobals mg->iu mg base->FnOk l.prog w (K w.params) mg base de k fa fd ["_law_script"] (fun vs H Q E=>∀ mg,cP ⟨K w.params,mg⟩ 1 fn vs H Q E)) :
  PySem.W.WalkO q loose XP YP l.row.toRowW d [] (fun f vs=>PySem.call f vs) :=
 xL (sp:=fun w vs H Q E=>∀ mg,cP ⟨K w.params,mg⟩ 1 fn vs H Q E) hn dC hdf hr hY hc hK0 F fun w H a ns hl hT hS mg=>Cv (hg ns hl) hS fun t h=>by
  obtain ⟨q,hq,e⟩:=yA.mp (ht t h);exact ⟨#[],by rw [<- e];exact hT q hq,trivial,.inl rfl⟩
end R
namespace SX
noncomputable def gI (xs:List Int) (j:Nat):Int:=xs.getD j 0
end SX
namespace R
open PySem PySem.Spec L2
open DD (pyOk)
section
variable {ks:List Fn}{sl:Sl}{st:aa}
@[simp] theorem GB:ev ks .n sl st=some (.non,st):=rfl
@[simp] theorem nv {x:Bool}:ev ks (.b x) sl st=some (.bl x,st):=rfl
@[simp] theorem aH {x:Int}:ev ks (.i x) sl st=some (.int x,st):=rfl
@[simp] theorem dw {x:Str}:ev ks (.s x) sl st=some (.str x,st):=rfl
@[simp] theorem GC {x:Str}{c:AV}:ev ks (.g x c) sl st=some (c,st):=rfl
@[simp] theorem ar {k:Nat}:ev ks (.v k) sl st=aV k sl st:=rfl
@[simp] theorem ai {v:AV}:aV 0 (some v::sl) st=some (v,st):=rfl
@[simp] theorem ak {k:Nat}{x:Option AV}:aV (k + 1) (x::sl) st=aV k sl st:=rfl
@[simp] theorem aK {o:Operator}{a b:Ex}:ev ks (.bin o a b) sl st=(ev ks a sl st).bind fun p=>(ev ks b sl p.2).bind fun q=>(bM o q.2 p.1 q.1).map fun z=>(z,q.2):=rfl
@[simp] theorem cz {o:CmpOp}{a b:Ex}:ev ks (.cmp o a b) sl st=(ev ks a sl st).bind fun p=>(ev ks b sl p.2).bind fun q=>(fe o q.2 p.1 q.1).map fun z=>(z,q.2):=rfl
@[simp] theorem F8 {o:UnaryOp}{a:Ex}:ev ks (.un o a) sl st=(ev ks a sl st).bind fun p=>(iO o p.2 p.1).map fun z=>(z,p.2):=rfl
def Al (x:AV) (st:aa):Option (AV × aa):=match x with
 | .bl b=>some (.bl !b,st)
 | _=>none
def Bs (x:AV) (st:aa) (r:Option (AV × aa)):Option (AV × aa):=match x with
 | .bl b=>if b=true then r else some (.bl false,st)
 | _=>none
def Fw (x:AV) (st:aa) (r:Option (AV × aa)):Option (AV × aa):=match x with
 | .bl b=>if b=true then some (.bl true,st) else r
 | _=>none
@[simp] theorem Cn {b:Bool}:Al (.bl b) st=some (.bl !b,st):=rfl
@[simp] theorem gQ {b:Bool}{r:Option (AV × aa)}:Bs (.bl b) st r=if b=true then r else some (.bl false,st):=rfl
@[simp] theorem FU {b:Bool}{r:Option (AV × aa)}:Fw (.bl b) st r=if b=true then some (.bl true,st) else r:=rfl
@[simp] theorem xO {a:Ex}:ev ks (.no a) sl st=(ev ks a sl st).bind fun p=>Al p.1 p.2:=by
 show vv (ev ks a) sl st=_;unfold vv Al;congr 1
@[simp] theorem gu {a b:Ex}:ev ks (.an a b) sl st=(ev ks a sl st).bind fun p=>Bs p.1 p.2 (ev ks b sl p.2):=by
 show vy (ev ks a) (ev ks b) sl st=_;unfold vy Bs;congr 1;funext p;cases p.1 <;> first | rfl | skip
 rename_i x;cases x <;> rfl
@[simp] theorem FQ {t:Tx}{a b:Ex}:ev ks (.ife t a b) sl st=(tv ks t sl st).bind fun p=>if p.1=true then ev ks a sl p.2 else ev ks b sl p.2:=rfl
@[simp] theorem aP {a b:Ex}:ev ks (.ix a b) sl st=(ev ks a sl st).bind fun p=>(ev ks b sl p.2).bind fun q=>(cB q.2 p.1 q.1).map fun z=>(z,q.2):=rfl
@[simp] theorem aJ {p:Bool}{j:Nat}{es:Exs}:ev ks (.ca p j es) sl st=(cT ks es sl st).bind fun q=>qt p (kf ks j) q.1 q.2:=rfl
@[simp] theorem ax {f:Fn}:qt true f=pm f:=rfl
@[simp] theorem oY {f:Fn}:qt false f=f:=rfl
@[simp] theorem aN {f:Fn}:kf (f::ks) 0=f:=rfl
@[simp] theorem bf {f:Fn}{j:Nat}:kf (f::ks) (j + 1)=kf ks j:=rfl
@[simp] theorem ag:cT ks .nil sl st=some ([],st):=rfl
@[simp] theorem ab {e:Ex}{es:Exs}:cT ks (.cons e es) sl st=(ev ks e sl st).bind fun p=>(cT ks es sl p.2).bind fun q=>some (p.1::q.1,q.2):=rfl
@[simp] theorem lU {es:Exs}:ev ks (.tu es) sl st=(cT ks es sl st).bind fun p=>if Nat.ble p.1.length 1000=true then some (.tup p.1,p.2) else none:=rfl
@[simp] theorem cC {x:Nx}:ev ks (.nw false x) sl st=(fA ks x sl st).bind fun p=>if rfs p.1=true then some (.fz p.1,p.2) else none:=rfl
@[simp] theorem xP {x:Nx}:ev ks (.nw true x) sl st=(fA ks x sl st).bind fun p=>some (.ref p.2.length,p.2++[.lst p.1]):=rfl
@[simp] theorem Ga {c m:Str}{j:Nat}{o:Ex}{es:Exs}:ev ks (.me c m j o es) sl st=(ev ks o sl st).bind fun p=>(jr p.2 c p.1).bind fun fs=>if (fs.lookup m).isNone=true then (cT ks es sl p.2).bind fun q=>kf ks j (p.1::q.1) q.2 else none:=rfl
@[simp] theorem F9 {c:Str}{j:Nat}{es:Exs}:ev ks (.ne c j es) sl st=vx c (kf ks j) (cT ks es) sl st:=rfl
@[simp] theorem Gb {c f:Str}{o:Ex}:ev ks (.fd c f o) sl st=(ev ks o sl st).bind fun p=>(jr p.2 c p.1).bind fun fs=>(fs.lookup f).map fun v=>(v,p.2):=rfl
@[simp] theorem bG {b:Bi}{es:Exs}:ev ks (.bi b es) sl st=(cT ks es sl st).bind fun p=>im b p.1 p.2:=rfl
@[simp] theorem cF:im .len=bI dF:=rfl
@[simp] theorem rK:im .sum=bI lY:=rfl
@[simp] theorem FK:im .abs=bI io:=rfl
@[simp] theorem rL:im .min=bI mz:=rfl
@[simp] theorem Bn:im .max=bI pe:=rfl
@[simp] theorem FJ:im .int=bI pB:=rfl
@[simp] theorem gn:im .all=bI kT:=rfl
@[simp] theorem Bo:im .any=bI mX:=rfl
@[simp] theorem Ej {m:Mi}{o:Ex}{es:Exs}:ev ks (.mt m o es) sl st=kh (qL m) (qK m) (ev ks o) (cT ks es) sl st:=rfl
@[simp] theorem Gc:ev ks .dn sl st=some (.ref st.length,st++[.dK []]):=rfl
@[simp] theorem sF {o o':CmpOp}{a b c:Ex}:tv ks (.ch o o' a b c) sl st=(ev ks a sl st).bind fun p=>(ev ks b sl p.2).bind fun q=>(bA o q.2 p.1 q.1).bind fun z=>if z=true then (ev ks c sl q.2).bind fun r=>(bA o' r.2 q.1 r.1).map fun w=>(w,r.2) else some (false,q.2):=rfl
@[simp] theorem Gf {o o':CmpOp}{a b c:Ex}:ev ks (.ch o o' a b c) sl st=(tv ks (.ch o o' a b c) sl st).map fun p=>(.bl p.1,p.2):=rfl
@[simp] theorem E3 {a b c:Ex}:b8 ks (.r3 a b c) sl st=vf (ev ks a) (ev ks b) (ev ks c) sl st:=rfl
@[simp] theorem g7 {es:Exs}:fA ks (.li es) sl st=(cT ks es sl st).bind fun p=>if eB p.1.length=true then some p else none:=rfl
@[simp] theorem o6 {a b:Ex}:fA ks (.cat a b) sl st=kC (ev ks a) (ev ks b) sl st:=rfl
@[simp] theorem FV {es:Exs}{b:Ex}:fA ks (.rep es b) sl st=tZ (cT ks es) (ev ks b) sl st:=rfl
@[simp] theorem EM {a:Ex}{l h:Ox}:fA ks (.sl a l h) sl st=uZ (ev ks a) (mL ks l) (mL ks h) sl st:=rfl
@[simp] theorem uY {a:Ex}:fA ks (.lof a) sl st=o8 (ev ks a) sl st:=rfl
@[simp] theorem EN {k:Nat}{it:Ix}{t:Tg}{c:Cx'}{e:Ex}:fA ks (.lc k it t c e) sl st=(b8 ks it sl st).bind fun p=>if eB p.1.GH.length=true then k8 p.1.gd (cU ks t) (mN ks c) (ev ks e) (sl++List.replicate k none) p.1.GH p.2 else none:=rfl
@[simp] theorem Gu:mL ks .no sl st=some (none,st):=rfl
@[simp] theorem Gs {e:Ex}:mL ks (.so e) sl st=Ah (ev ks e) sl st:=rfl
@[simp] theorem GA:mN ks .no sl st=some (true,st):=rfl
@[simp] theorem jt {t:Tx}:mN ks (.so t) sl st=tv ks t sl st:=rfl
@[simp] theorem ve {a:Ex}:b8 ks (.e a) sl st=(ev ks a sl st).bind fun p=>(og p.2 p.1).map fun iv=>(iv,p.2):=rfl
@[simp] theorem Gw {a:Ex}:b8 ks (.r1 a) sl st=AR (ev ks a) sl st:=rfl
@[simp] theorem E4 {a b:Ex}:b8 ks (.r2 a b) sl st=AQ (ev ks a) (ev ks b) sl st:=rfl
@[simp] theorem E1 {a b:Ex}:b8 ks (.zi a b) sl st=iZ (ev ks a) (ev ks b) sl st:=rfl
@[simp] theorem AO {a:Ex}:b8 ks (.en a) sl st=(ev ks a sl st).bind fun p=>(fv p.2 p.1).map fun iv=>(⟨lh 0 iv.GH,iv.gd⟩,p.2):=rfl
@[simp] theorem cI {k:Nat}{x:AV}:cU ks (.nm k) x sl st=some (sl.set k (some x),st):=rfl
@[simp] theorem Gy {n:Nat}{ts:Tgs}{x:AV}:cU ks (.tu n ts) x sl st=rh n (fK ks ts) x sl st:=rfl
@[simp] theorem Gz {a b:Ex}{x:AV}:cU ks (.su a b) x sl st=(ev ks a sl st).bind fun p=>(ev ks b sl p.2).bind fun q=>(oV q.2 p.1 q.1 x).map fun st'=>(sl,st'):=rfl
@[simp] theorem FD {xs:List AV}:fK ks .nil xs sl st=AX xs sl st:=rfl
@[simp] theorem Fk {t:Tg}{ts:Tgs}{xs:List AV}:fK ks (.cons t ts) xs sl st=AY (cU ks t) (fK ks ts) xs sl st:=rfl
@[simp] theorem dQ {e:Ex}:tv ks (.va e) sl st=(ev ks e sl st).bind fun p=>(lW p.2 p.1).map fun b=>(b,p.2):=rfl
@[simp] theorem a7 {o:CmpOp}{a b:Ex}:tv ks (.cmp o a b) sl st=(ev ks a sl st).bind fun p=>(ev ks b sl p.2).bind fun q=>(bA o q.2 p.1 q.1).map fun b=>(b,q.2):=rfl
@[simp] theorem dg {t:Tx}:tv ks (.no t) sl st=(tv ks t sl st).bind fun p=>some (!p.1,p.2):=rfl
@[simp] theorem Gg {t u:Tx}:tv ks (.an t u) sl st=(tv ks t sl st).bind fun p=>if p.1=true then tv ks u sl p.2 else some (false,p.2):=rfl
@[simp] theorem c0 {t u:Tx}:tv ks (.or t u) sl st=(tv ks t sl st).bind fun p=>if p.1=true then some (true,p.2) else tv ks u sl p.2:=rfl
@[simp] theorem cL:ao ks .nil sl st=some (.nx sl st):=rfl
def nU (o:Out) (k:Sl->aa->Option Out):Option Out:=match o with
 | .nx sl st=>k sl st
 | o=>some o
@[simp] theorem mv {k:Sl->aa->Option Out}:nU (.nx sl st) k=k sl st:=rfl
@[simp] theorem dA {v:AV}{k:Sl->aa->Option Out}:nU (.rt v st) k=some (.rt v st):=rfl
@[simp] theorem Fy {k:Sl->aa->Option Out}:nU (.bk sl st) k=some (.bk sl st):=rfl
@[simp] theorem Fx {k:Sl->aa->Option Out}:nU (.ct sl st) k=some (.ct sl st):=rfl
@[simp] theorem cO {s:Sx}{ss:GK}:ao ks (.cons s ss) sl st=(cK ks s sl st).bind fun o=>nU o (ao ks ss):=by
 show (cK ks s sl st).bind _=(cK ks s sl st).bind _;congr 1
@[simp] theorem Gj {e:Ex}:cK ks (.ex e) sl st=(ev ks e sl st).bind fun p=>some (.nx sl p.2):=rfl
@[simp] theorem bQ {e:Ex}{t:Tg}:cK ks (.as e t) sl st=(ev ks e sl st).bind fun p=>(cU ks t p.1 sl p.2).bind fun q=>some (.nx q.1 q.2):=rfl
@[simp] theorem Gi {c f:Str}{o e:Ex}:cK ks (.fl c f o e) sl st=x6 c f (ev ks o) (ev ks e) sl st:=rfl
@[simp] theorem bP {e:Ex}:cK ks (.rt e) sl st=(ev ks e sl st).bind fun p=>some (.rt p.1 p.2):=rfl
@[simp] theorem aR {t:Tx}{a b:GK}:cK ks (.iff t a b) sl st=(tv ks t sl st).bind fun p=>if p.1=true then ao ks a sl p.2 else ao ks b sl p.2:=rfl
@[simp] theorem x5 {it:Ix}{t:Tg}{b:GK}:cK ks (.fo it t b) sl st=(b8 ks it sl st).bind fun p=>cJ p.1.gd (cU ks t) (ao ks b) p.1.GH sl p.2:=rfl
@[simp] theorem FS {a:Ex}{t:Tg}{b:GK}:cK ks (.fd a t b) sl st=sR (ev ks a) (cU ks t) (ao ks b) sl st:=rfl
@[simp] theorem Gh {t:Tx}{b:GK}:cK ks (.wh t b) sl st=qe (tv ks t) (ao ks b) sl st:=rfl
@[simp] theorem Fq:cK ks .dead sl st=none:=rfl
def aw (o:Out):Option (AV × aa):=match o with
 | .rt v st=>some (v,st)
 | .nx _ st=>some (.non,st)
 | _=>none
@[simp] theorem FF {v:AV}:aw (.rt v st)=some (v,st):=rfl
@[simp] theorem FG:aw (.nx sl st)=some (.non,st):=rfl
theorem bd {n:Nat}{b:GK}{args:List AV}:R.run n (ao ks b) args st=(ao ks b (args.map some++List.replicate (n - args.length) none) st).bind aw:=by
 unfold R.run;congr 1
end
@[simp] theorem FT:rfs []=true:=rfl
@[simp] theorem BQ {x:AV}{xs:List AV}:rfs (x::xs)=(rf x && rfs xs):=by simp only [rfs]
@[simp] theorem Gp {i:Int}:rf (.int i)=true:=rfl
@[simp] theorem Gr {i:Bool}:rf (.bl i)=true:=rfl
@[simp] theorem Gn {i:Str}:rf (.str i)=true:=rfl
@[simp] theorem Go:rf .non=true:=rfl
@[simp] theorem Gq {xs:List AV}:rf (.fz xs)=true:=rfl
@[simp] theorem Gk {xs:List AV}:rf (.tup xs)=rfs xs:=by simp only [rf]
section
variable {st:aa}{a b:Int}
theorem vj:jZ st (.int a) (.int b)=some (decide (a=b)):=by
 show (if pyOk (.int a) (.int b)=true then some (PyData.eqv (.int a) (.int b)) else none)=_;rw [yF (by simp [pyOk,PyData.canLay0,PyData.depth])];congr 1
@[simp] theorem dW:bA .Eq st (.int a) (.int b)=some (decide (a=b)):=vj
@[simp] theorem fL:bA .NotEq st (.int a) (.int b)=some (!decide (a=b)):=by show ((jZ st (.int a) (.int b)).map fun x=>!x)=_;rw [vj];rfl
@[simp] theorem ju:bA .Lt st (.int a) (.int b)=some (decide (a < b)):=rfl
@[simp] theorem uA:bA .LtE st (.int a) (.int b)=some (decide (a <= b)):=rfl
@[simp] theorem pH:bA .Gt st (.int a) (.int b)=some (decide (b < a)):=rfl
@[simp] theorem uB:bA .GtE st (.int a) (.int b)=some (decide (b <= a)):=rfl
@[simp] theorem ik {o:CmpOp}{x y:AV}:fe o st x y=(bA o st x y).map .bl:=rfl
@[simp] theorem FZ:bA .Is st .non .non=some true:=rfl
@[simp] theorem F7:bA .Is st (.int a) .non=some false:=rfl
@[simp] theorem FH:bA .IsNot st .non .non=some false:=rfl
@[simp] theorem FI:bA .IsNot st (.int a) .non=some true:=rfl
@[simp] theorem fF:bM .Add st (.int a) (.int b)=some (.int (a + b)):=rfl
@[simp] theorem lO:bM .Sub st (.int a) (.int b)=some (.int (a - b)):=rfl
theorem dI (h:c4 a b=true):bM .Mult st (.int a) (.int b)=some (.int (a * b)):=by
 show (if c4 a b=true then _ else _:Option Int).map _=_;rw [yF h];rfl
theorem iM (h:gJ b=true):bM .FloorDiv st (.int a) (.int b)=some (.int (ou a b)):=by
 show (if gJ b=true then _ else _:Option Int).map _=_;rw [yF h];rfl
theorem dJ (h:b ≠ 0):bM .Mod st (.int a) (.int b)=some (.int (ot a b)):=by
 show (if b=0 then _ else _:Option Int).map _=_;rw [yE h];rfl
@[simp] theorem FR:iO .USub st (.int a)=some (.int (-a)):=rfl
end
end R
namespace R
open PySem PySem.Spec L2
open SX (gI)
noncomputable def iL (l:List Int):List AV:=l.map .int
noncomputable def nL (l:List Nat):List AV:=l.map fun q=>.int ((q:Nat):Int)
def dz (d:Int) (a b c g n u:Nat):List (Str × AV):=[("below",.int d),("lines",.ref a),("heads",.ref b),("sides",.ref c),("guarded",.ref g),("nailed",.ref n),("turned",.ref u)]
section
variable {d:Int}{a b c g n u:Nat}
@[simp] theorem EV:(dz d a b c g n u).lookup ("below":Str)=some (AV.int d):=rfl
@[simp] theorem ET:(dz d a b c g n u).lookup ("lines":Str)=some (AV.ref a):=rfl
@[simp] theorem EU:(dz d a b c g n u).lookup ("heads":Str)=some (AV.ref b):=rfl
@[simp] theorem ES:(dz d a b c g n u).lookup ("sides":Str)=some (AV.ref c):=rfl
@[simp] theorem Cs:(dz d a b c g n u).lookup ("guarded":Str)=some (AV.ref g):=rfl
@[simp] theorem DO:(dz d a b c g n u).lookup ("nailed":Str)=some (AV.ref n):=rfl
@[simp] theorem DN:(dz d a b c g n u).lookup ("turned":Str)=some (AV.ref u):=rfl
@[simp] theorem uc:(dz d a b c g n u).lookup ("loose_columns":Str)=none:=rfl
@[simp] theorem sj:(dz d a b c g n u).lookup ("raising_column":Str)=none:=rfl
@[simp] theorem si:(dz d a b c g n u).lookup ("tightest_place":Str)=none:=rfl
@[simp] theorem xI:(dz d a b c g n u).lookup ("is_tighter":Str)=none:=rfl
@[simp] theorem wU:(dz d a b c g n u).lookup ("is_up_first":Str)=none:=rfl
@[simp] theorem BC:(dz d a b c g n u).lookup ("exchange":Str)=none:=rfl
@[simp] theorem Fj:(dz d a b c g n u).lookup ("lift":Str)=none:=rfl
@[simp] theorem BD:(dz d a b c g n u).lookup ("drive_up":Str)=none:=rfl
@[simp] theorem t9:(dz d a b c g n u).lookup ("moving_column":Str)=none:=rfl
@[simp] theorem ER:(dz d a b c g n u).lookup ("guard":Str)=none:=rfl
@[simp] theorem Fi:(dz d a b c g n u).lookup ("nail":Str)=none:=rfl
@[simp] theorem Az:(dz d a b c g n u).lookup ("turn_line":Str)=none:=rfl
end
section
variable {st:aa}{x:AV}{xs:List AV}{l:List Int}{i:Int}
theorem iF (h:cS st x=some xs):cB st x (.int i)=fG xs i:=by
 have hd:kG st x (.int i)=none:=by
  unfold kG;have h1:gi st x=none:=by
   cases x <;> first | rfl | skip
   rename_i k;unfold cS dr at h;unfold gi;dsimp only at h ⊢;cases e:st[k]? with
   | none=>rfl
   | some c=>cases c <;> first | rfl | (rw [e] at h;simp only [e] at h;cases h)
  have h2:i6 st x=none:=by
   cases x <;> first | rfl | skip
   rename_i k;unfold cS dr at h;unfold i6;dsimp only at h ⊢;cases e:st[k]? with
   | none=>rfl
   | some c=>cases c <;> first | rfl | (rw [e] at h;simp only [e] at h;cases h)
  rw [h1,h2]
 unfold cB;rw [hd];dsimp only;rw [h]
theorem gp {α:Type}{xs:List α}{j:Nat}:fG xs ((j:Nat):Int)=xs[j]?:=by
 unfold fG lb;rw [yF oM];by_cases h:j < xs.length
 ·rw [yF oM];simp
 ·rw [yE oM,List.getElem?_eq_none oM];rfl
theorem xl {j:Nat} (h:j < l.length):(iL l)[j]?=some (.int (gI l j)):=by
 unfold iL gI;simp [h,zD]
theorem wM {l:List Nat}{j:Nat} (h:j < l.length):(nL l)[j]?=some (.int ((l.getD j 0:Nat):Int)):=by
 unfold nL;simp [h,zD]
theorem jN {k:Nat} (h:st[k]?=some (.lst xs)):cS st (.ref k)=some xs:=by unfold cS dr;simp only [h]
end
theorem n6 {α:Type}{em:α->AV}{B:α->Bool}{F:α->AV} (hg:bW gd st=true):∀ {xs:List α},(∀ x ∈ xs,∃ sl1,g (em x) sl st=some (sl1,st)/\t sl1 st=some (B x,st)/\(B x=true->f sl1 st=some (F x,st)))->k8 gd g t f sl (xs.map em) st=some ((xs.filter B).map F,st)
 | [],_=>by show (if bW gd st=true then _ else _)=_;rw [yF hg];rfl
 | x::xs,h=>by
  obtain ⟨sl1,h1,h2,h3⟩:=h x z4;have ih:=n6 hg (xs:=xs) fun y hy=>h y (zQ _ hy)
  show (if bW gd st=true then (g (em x) sl st).bind _ else none)=_;rw [yF hg,h1,bind_some];dsimp only;rw [h2,bind_some];cases hB:B x with
  | true=>rw [yF rfl];dsimp only;rw [h3 hB,bind_some];dsimp only;rw [ih,List.filter_cons,hB];rfl
  | false=>rw [yE (by simp)];dsimp only;rw [ih,List.filter_cons,hB];rfl
theorem ci:∀ {xs:List AV},(∀ x ∈ xs,rf x=true)->rfs xs=true
 | [],_=>rfl
 | x::xs,h=>by simp only [rfs,zC];exact ⟨h x z4,ci fun y hy=>h y (zQ _ hy)⟩
theorem sW:rfs (iL l)=true:=ci fun x hx=>by obtain ⟨i,_,rfl⟩:=yA.mp hx;rfl
theorem cj:rfs (nL l)=true:=ci fun x hx=>by obtain ⟨i,_,rfl⟩:=yA.mp hx;rfl
mutual
theorem rQ:∀ (x:AV),cn x x=true
 | .non=>rfl
 | .bl _=>by simp [cn]
 | .int _=>by simp [cn]
 | .str _=>by simp [cn]
 | .ref _=>by simp [cn]
 | .tup a=>by simp only [cn];exact fD a
 | .fz a=>by simp only [cn];exact fD a
theorem fD:∀ (xs:List AV),dH xs xs=true
 | []=>rfl
 | x::xs=>by simp only [dH,rQ x,fD xs,Bool.and_self]
end
theorem kH {k:Nat} (h:st[k]?=some (.lst xs)):bW [(k,.lst xs)] st=true:=by
 simp only [bW,h,pK,fD,Bool.and_self]
@[simp] theorem Fm:gS st (.tup xs)=some xs:=rfl
@[simp] theorem qZ:og st (.fz xs)=some ⟨xs,[]⟩:=rfl
@[simp] theorem qY:fv st (.fz xs)=some ⟨xs,[]⟩:=rfl
@[simp] theorem dE:cS st (.fz xs)=some xs:=rfl
theorem xg {k:Nat} (h:st[k]?=some (.lst xs)):fv st (.ref k)=some ⟨xs,[(k,.lst xs)]⟩:=by
 unfold fv dr;simp only [h]
theorem xh {k:Nat} (h:st[k]?=some (.lst xs)):og st (.ref k)=some ⟨xs,[(k,.lst xs)]⟩:=by
 have:gS st (.ref k)=none:=by unfold gS dr;simp only [h]
 unfold og;dsimp only;rw [this];exact xg h
@[simp] theorem Fl:bW [] st=true:=rfl
theorem xm:jV (nL l)=some (l.map fun q=>((q:Nat):Int)):=by
 unfold jV nL;exact ck (f:=fun x=>match x with | .int i=>some i | _=>none) (i:=fun q:Nat=>AV.int q) (g:=fun q=>((q:Nat):Int)) (fun _=>rfl) l
theorem iw {n:Nat} (h:n <= 1000):eB n=true:=yI oM
def fk (gd:Gd) (g:GF) (s:SF) (xs:List AV):Out->Option Out
 | .nx sl st=>cJ gd g s xs sl st
 | .ct sl st=>cJ gd g s xs sl st
 | .bk sl st=>some (.nx sl st)
 | .rt v st=>some (.rt v st)
theorem rm (hg:bW gd st=true) (h1:g x sl st=some p) (h2:s p.1 p.2=some o):cJ gd g s (x::xs) sl st=fk gd g s xs o:=by
 show (if bW gd st=true then (g x sl st).bind _ else none)=_;rw [yF hg,h1,bind_some,h2,bind_some];cases o <;> rfl
theorem xr {gd:Gd}{g:GF}{s:SF}{I:Nat->Sl->aa->Prop}{Post:AV->aa->Prop}{xs:List AV} (hg:∀ i sl st,i <= xs.length->I i sl st->bW gd st=true)
  (h:∀ i x sl st,xs[i]?=some x->I i sl st->∃ p o,g x sl st=some p/\s p.1 p.2=some o/\((∃ sl2 st2,o=.nx sl2 st2/\I (i + 1) sl2 st2)\/∃ v st2,o=.rt v st2/\Post v st2)) :
  ∀ {sl:Sl}{st:aa},I 0 sl st->(∃ sl' st',cJ gd g s xs sl st=some (.nx sl' st')/\I xs.length sl' st')\/∃ v st',cJ gd g s xs sl st=some (.rt v st')/\Post v st':=by
 have go:∀ (r:Nat) (j:Nat) {sl:Sl}{st:aa},j + r=xs.length->I j sl st->(∃ sl' st',cJ gd g s (xs.drop j) sl st=some (.nx sl' st')/\I xs.length sl' st')\/∃ v st',cJ gd g s (xs.drop j) sl st=some (.rt v st')/\Post v st':=fun r=>by
  induction r with
  | zero =>
   intro j sl st hj hI;left;rw [List.drop_of_length_le oM];refine ⟨sl,st,?_,by rw [show xs.length=j by omega];exact hI⟩;show (if bW gd st=true then _ else _)=_;rw [yF (hg j sl st oM hI)]
  | succ r ih =>
   intro j sl st hj hI;have hl:j < xs.length:=by omega
   obtain ⟨p,o,h1,h2,h3⟩:=h j xs[j] sl st (zF hl) hI;rw [List.drop_eq_getElem_cons hl];have e:=rm (xs:=xs.drop (j + 1)) (hg j sl st oM hI) h1 h2;rw [e];rcases h3 with ⟨sl2,st2,rfl,h3⟩ | ⟨v,st2,rfl,h3⟩
   ·exact ih (j + 1) oM h3
   ·exact .inr ⟨v,st2,rfl,h3⟩
 intro sl st h0
 have:=go xs.length 0 oM h0
 rw [List.drop_zero] at this;exact this
theorem oq {gd:Gd}{g:GF}{s:SF}{I:Nat->Sl->aa->Prop}{xs:List AV} (hg:∀ i sl st,i <= xs.length->I i sl st->bW gd st=true)
  (h:∀ i x sl st,xs[i]?=some x->I i sl st->∃ p sl2 st2,g x sl st=some p/\s p.1 p.2=some (.nx sl2 st2)/\I (i + 1) sl2 st2) {sl:Sl}{st:aa} (h0:I 0 sl st):∃ sl' st',cJ gd g s xs sl st=some (.nx sl' st')/\I xs.length sl' st':=by
 rcases xr (Post:=fun _ _=>False) hg (fun i x sl st hx hI=>by
  obtain ⟨p,sl2,st2,a,b,c⟩:=h i x sl st hx hI;exact ⟨p,_,a,b,.inl ⟨sl2,st2,rfl,c⟩⟩) h0 with h | ⟨_,_,_,h⟩
 ·exact h
 ·exact h.elim
section
variable {st:aa}{k a b c g n u w m:Nat}{rows:List AV}{S:Sh}{i j q:Nat}{x:AV}{l:List Int}{e e':GS}
theorem gl:(st++[e])[st.length]?=some e:=by simp
end
@[simp] theorem AS:(iL l).length=l.length:=by unfold iL;simp
@[simp] theorem dj:(nL l).length=l.length:=by unfold nL;simp
@[simp] theorem CK:rfs (iL l)=true:=sW
@[simp] theorem u4:rfs (nL l)=true:=cj
theorem bV (h:cK ks s sl st=some (.nx sl' st')) (h2:(ao ks ss sl' st').bind aw=r):(ao ks (.cons s ss) sl st).bind aw=r:=by
 rw [cO,h,bind_some,mv];exact h2
theorem aq (h:cK ks s sl st=some (.nx sl' st')) (h2:ao ks ss sl' st'=r):ao ks (.cons s ss) sl st=r:=by
 rw [cO,h,bind_some,mv];exact h2
theorem aW (h:cK ks s sl st=some (.rt v st')):(ao ks (.cons s ss) sl st).bind aw=some (v,st'):=by
 rw [cO,h,bind_some,dA];rfl
theorem aO (h:rfs args=true) (h1:fn args []=some (v,st')) (h2:fY st' v=some t):pm fn args st=some (t,st):=by
 unfold pm;rw [yF h,h1,bind_some];dsimp only;rw [h2];rfl
theorem pP (h:cK ks s sl st=some (.rt v st')):ao ks (.cons s ss) sl st=some (.rt v st'):=by
 rw [cO,h,bind_some,dA]
theorem aD {ks:List Fn}{s:Sx}{ss:GK}{sl sl':Sl}{st st':aa}{Q:AV × aa->Prop} (h:cK ks s sl st=some (.nx sl' st')) (h2:∃ r,(ao ks ss sl' st').bind aw=some r/\Q r):∃ r,(ao ks (.cons s ss) sl st).bind aw=some r/\Q r:=by
 obtain ⟨r,e,q⟩:=h2;exact ⟨r,bV h e,q⟩
theorem BO {n:Nat}:gw 0 n=nL (List.range n):=by unfold gw nL;simp
end R
namespace RK
noncomputable def ad:List Nat->List Nat
 | []=>[0]
 | r::rs=>ad rs++(ad rs).map (r ^^^ ·)
theorem eG:∀ rs,0 ∈ ad rs:=by
 intro rs
 induction rs with
 | nil=>simp [ad]
 | cons r rs ih=>simp only [ad,zZ];exact .inl ih
theorem aQ {r:Nat}:∀ {rs:List Nat},r ∈ rs->r ∈ ad rs:=by
 intro rs
 induction rs with
 | nil=>intro h;cases h
 | cons a rs ih =>
  intro h;simp only [ad,zZ,yA];rcases zT.mp h with rfl | h
  ·exact .inr ⟨0,eG rs,by simp⟩
  ·exact .inl (ih h)
theorem bR:∀ {rs:List Nat}{x y:Nat},x ∈ ad rs->y ∈ ad rs->x ^^^ y ∈ ad rs:=by
 intro rs
 induction rs with
 | nil=>intro x y hx hy;simp only [ad,zL] at hx hy;subst hx;subst hy;simp [ad]
 | cons r rs ih =>
  intro x y hx hy;simp only [ad,zZ,yA] at hx hy ⊢;rcases hx with hx | ⟨a,ha,rfl⟩
  ·rcases hy with hy | ⟨b,hb,rfl⟩
   ·exact .inl (ih hx hy)
   ·exact .inr ⟨x ^^^ b,ih hx hb,by rw [<- Nat.xor_assoc,<- Nat.xor_assoc,Nat.xor_comm r x]⟩
  ·rcases hy with hy | ⟨b,hb,rfl⟩
   ·exact .inr ⟨a ^^^ y,ih ha hy,by rw [Nat.xor_assoc]⟩
   ·refine .inl ?_
    have e:r ^^^ a ^^^ (r ^^^ b)=a ^^^ b:=by
     rw [Nat.xor_comm r a,Nat.xor_assoc,<- Nat.xor_assoc r r b,Nat.xor_self,Nat.zero_xor]
    rw [e];exact ih ha hb
theorem bS {rs ss:List Nat} (h:∀ r ∈ rs,r ∈ ad ss):∀ {x},x ∈ ad rs->x ∈ ad ss:=by
 induction rs with
 | nil=>intro x hx;simp only [ad,zL] at hx;subst hx;exact eG ss
 | cons r rs ih =>
  intro x hx;simp only [ad,zZ,yA] at hx;rcases hx with hx | ⟨a,ha,rfl⟩
  ·exact ih (fun q hq=>h q (by simp [hq])) hx
  ·exact bR (h r (by simp)) (ih (fun q hq=>h q (by simp [hq])) ha)
def ki:List (Nat × Nat)->Prop
 | []=>True
 | b::bs=>b.2.testBit b.1=true/\(∀ c ∈ bs,c.2.testBit b.1=false)/\ki bs
theorem qb {t:Nat}:∀ {rs:List Nat}{x:Nat},(∀ r ∈ rs,r.testBit t=false)->x ∈ ad rs->x.testBit t=false:=by
 intro rs
 induction rs with
 | nil=>intro x _ hx;simp only [ad,zL] at hx;subst hx;simp
 | cons r rs ih =>
  intro x h hx;simp only [ad,zZ,yA] at hx;rcases hx with hx | ⟨a,ha,rfl⟩
  ·exact ih (fun q hq=>h q (by simp [hq])) hx
  ·rw [Nat.testBit_xor,h r (by simp),ih (fun q hq=>h q (by simp [hq])) ha];rfl
theorem sD:∀ {bs:List (Nat × Nat)}{x:Nat},ki bs->x ∈ ad (bs.map (·.2))->(∀ b ∈ bs,x.testBit b.1=false)->x=0:=by
 intro bs
 induction bs with
 | nil=>intro x _ hx _;simpa [ad] using hx
 | cons b bs ih =>
  intro x ht hx hb;obtain ⟨h1,h2,h3⟩:=ht;simp only [zO,ad,zZ,yA] at hx;rcases hx with hx | ⟨y,hy,rfl⟩
  ·exact ih h3 hx fun c hc=>hb c (by simp [hc])
  ·exfalso
   have h4:=hb b (by simp);have h5:=qb (t:=b.1) (fun r hr=>by obtain ⟨c,hc,rfl⟩:=yA.mp hr;exact h2 c hc) hy;rw [Nat.testBit_xor,h1,h5] at h4;cases h4
theorem gx {bs:List (Nat × Nat)} (ht:ki bs) {x z:Nat} (hs:x ^^^ z ∈ ad (bs.map (·.2))) (hz:∀ b ∈ bs,z.testBit b.1=false):z=0 ↔ x ∈ ad (bs.map (·.2)):=by
 constructor
 ·intro h;subst h;simpa using hs
 ·intro h
  refine sD ht ?_ hz;have e:x ^^^ (x ^^^ z)=z:=by rw [<- Nat.xor_assoc,Nat.xor_self,Nat.zero_xor]
  rw [<- e];exact bR h hs
def gr (done:List Nat):List Nat->Nat
 | []=>0
 | m::ms=>(if m ∈ ad done then 0 else 1) + gr (m::done) ms
theorem eO {r:Nat} (h:r ≠ 0):r.testBit r.log2=true:=by
 rw [Nat.testBit_eq_decide_div_mod_eq,z7];have h1:=Nat.log2_self_le h;have h2:r < 2 ^ (r.log2 + 1):=Nat.lt_log2_self;rw [Nat.pow_succ] at h2;have h3:r / 2 ^ r.log2=1:=by
  apply Nat.div_eq_of_lt_le
  ·omega
  ·omega
 rw [h3]
theorem rJ {n m i:Nat} (hn:n.testBit i=false) (hm:m.testBit i=true) (h:∀ j,i < j->n.testBit j=m.testBit j):n < m:=by
 have e:n / 2 ^ (i + 1)=m / 2 ^ (i + 1):=by
  apply Nat.eq_of_testBit_eq;intro j;rw [Nat.testBit_div_two_pow,Nat.testBit_div_two_pow];exact h _ oM
 rw [Nat.testBit_eq_decide_div_mod_eq] at hn hm;have hn1:=of_decide_eq_false hn;have hm1:=of_decide_eq_true hm;have n1:=Nat.mod_pow_succ (x:=n) (b:=2) (k:=i);have m1:=Nat.mod_pow_succ (x:=m) (b:=2) (k:=i);have hn2:n / 2 ^ i % 2=0:=by omega
 rw [hn2,Nat.mul_zero] at n1;rw [hm1,Nat.mul_one] at m1;have n2:=Nat.mod_lt n (show 0 < 2 ^ i from Nat.pow_pos dC);have n3:=Nat.div_add_mod n (2 ^ (i + 1));have m3:=Nat.div_add_mod m (2 ^ (i + 1));rw [e] at n3;omega
theorem wQ {m r:Nat} (h:r ≠ 0):(min m (m ^^^ r)).testBit r.log2=false:=by
 have ht:=eO h;have hi:∀ j,r.log2 < j->r.testBit j=false:=fun j hj=>Nat.testBit_lt_two_pow (zJ (Nat.lt_log2_self) (Nat.pow_le_pow_right dC hj))
 cases hm:m.testBit r.log2
 ·have hlt:m < m ^^^ r:=rJ (i:=r.log2) hm (by rw [Nat.testBit_xor,hm,ht];rfl) fun j hj=>by rw [Nat.testBit_xor,hi j hj];simp
  rw [Nat.min_eq_left (yR hlt)];exact hm
 ·have hlt:m ^^^ r < m:=rJ (i:=r.log2) (by rw [Nat.testBit_xor,hm,ht];rfl) hm fun j hj=>by rw [Nat.testBit_xor,hi j hj];simp
  rw [Nat.min_eq_right (yR hlt),Nat.testBit_xor,hm,ht];rfl
theorem t6 {m r t:Nat} (h1:m.testBit t=false) (h2:r.testBit t=false):(min m (m ^^^ r)).testBit t=false:=by
 rcases Nat.le_total m (m ^^^ r) with h | h
 ·rw [Nat.min_eq_left h];exact h1
 ·rw [Nat.min_eq_right h,Nat.testBit_xor,h1,h2];rfl
noncomputable def aZ (rows:List Nat) (x:Nat):Nat:=rows.foldl (fun m r=>min m (m ^^^ r)) x
noncomputable def nF (rows:List Nat):List (Nat × Nat):=rows.map fun r=>(r.log2,r)
theorem nE (rows:List Nat):(nF rows).map (·.2)=rows:=by
 unfold nF;rw [List.map_map];exact List.map_id' rows
theorem sX:∀ (rows:List Nat) (x:Nat),x ^^^ aZ rows x ∈ ad rows:=by
 intro rows
 induction rows with
 | nil=>intro x;simp [aZ,ad]
 | cons r rows ih =>
  intro x;have h:=ih (min x (x ^^^ r));simp only [aZ,List.foldl_cons] at h ⊢;simp only [ad,zZ,yA];rcases Nat.le_total x (x ^^^ r) with hm | hm
  ·rw [Nat.min_eq_left hm] at h ⊢;exact .inl h
  ·rw [Nat.min_eq_right hm] at h ⊢
   refine .inr ⟨_,h,?_⟩;rw [<- Nat.xor_assoc,<- Nat.xor_assoc,Nat.xor_comm r x,Nat.xor_assoc x r r,Nat.xor_self,Nat.xor_zero]
theorem sY {t:Nat}:∀ (rows:List Nat) (x:Nat),x.testBit t=false->(∀ r ∈ rows,r.testBit t=false)->(aZ rows x).testBit t=false:=by
 intro rows
 induction rows with
 | nil=>intro x h _;exact h
 | cons r rows ih =>
  intro x h hr;simp only [aZ,List.foldl_cons];exact ih _ (t6 h (hr r (by simp))) fun q hq=>hr q (by simp [hq])
theorem sZ:∀ (rows:List Nat) (x:Nat),ki (nF rows)->(∀ r ∈ rows,r ≠ 0)->∀ b ∈ nF rows,(aZ rows x).testBit b.1=false:=by
 intro rows
 induction rows with
 | nil=>intro x _ _ b hb;cases hb
 | cons r rows ih =>
  intro x ht h0 b hb;obtain ⟨h1,h2,h3⟩:=ht;simp only [aZ,List.foldl_cons];rcases zT.mp hb with rfl | hb
  ·exact sY rows _ (wQ (h0 r (by simp))) fun q hq=>h2 (q.log2,q) (yA.mpr ⟨q,hq,rfl⟩)
  ·exact ih _ h3 (fun q hq=>h0 q (by simp [hq])) b hb
theorem sE {b:Nat × Nat}:∀ {bs:List (Nat × Nat)},ki bs->b.2.testBit b.1=true->(∀ c ∈ bs,b.2.testBit c.1=false)->ki (bs++[b]):=by
 intro bs
 induction bs with
 | nil=>intro _ h1 _;exact ⟨h1,(fun c hc=>by cases hc),trivial⟩
 | cons c bs ih =>
  intro ht h1 h2;obtain ⟨t1,t2,t3⟩:=ht;refine ⟨t1,?_,ih t3 h1 fun d hd=>h2 d (by simp [hd])⟩;intro d hd;have hd:d ∈ bs++[b]:=hd;rw [zZ,zL] at hd;rcases hd with hd | rfl
  ·exact t2 d hd
  ·exact h2 c (by simp)
def bZ (rows:List Nat) (m:Nat):List Nat:=if aZ rows m > 0 then rows++[aZ rows m] else rows
theorem gv {rs ss:List Nat} (h1:∀ r ∈ rs,r ∈ ad ss) (h2:∀ s ∈ ss,s ∈ ad rs) (x:Nat):x ∈ ad rs ↔ x ∈ ad ss:=⟨bS h1,bS h2⟩
theorem AE:∀ (ms done rows:List Nat),ki (nF rows)->(∀ r ∈ rows,r ≠ 0)->(∀ r ∈ rows,r ∈ ad done)->(∀ d ∈ done,d ∈ ad rows)->(ms.foldl bZ rows).length=rows.length + gr done ms:=by
 intro ms
 induction ms with
 | nil=>intro done rows _ _ _ _;simp [gr]
 | cons m ms ih =>
  intro done rows ht h0 h1 h2;rw [List.foldl_cons];have hsp:=sX rows m;have hz:=sZ rows m ht h0;have key:aZ rows m=0 ↔ m ∈ ad rows:=by
   have:=gx ht (x:=m) (z:=aZ rows m) (by rw [nE];exact hsp) hz
   rw [nE] at this;exact this
  have hsame:=gv h1 h2;have hd:∀ r ∈ rows,r ∈ ad (m::done):=fun r hr=>by simp only [ad,zZ];exact .inl (h1 r hr)
  by_cases hm:m ∈ ad done
  ·have e0:=key.mpr ((hsame m).mpr hm)
   have es:bZ rows m=rows:=by unfold bZ;rw [e0];rfl
   rw [es,ih (m::done) rows ht h0 hd (fun d hdd=>by
    rcases zT.mp hdd with rfl | hdd
    ·exact (hsame _).mpr hm
    ·exact h2 d hdd)]
   simp only [gr,hm,if_true];omega
  ·have e0:aZ rows m ≠ 0:=fun h=>hm ((hsame m).mp (key.mp h))
   have es:bZ rows m=rows++[aZ rows m]:=by unfold bZ;rw [yF oM]
   have hmz:m=(m ^^^ aZ rows m) ^^^ aZ rows m:=by rw [Nat.xor_assoc,Nat.xor_self,Nat.xor_zero]
   have sub:∀ r ∈ rows,r ∈ ad (rows++[aZ rows m]):=fun r hr=>aQ (by simp [hr])
   rw [es,ih (m::done) _ (by
    unfold nF;rw [List.map_append];exact sE ht (eO e0) hz) (fun r hr=>by
     rw [zZ,zL] at hr;rcases hr with hr | rfl
     ·exact h0 r hr
     ·exact e0) (fun r hr=>by
     rw [zZ,zL] at hr;rcases hr with hr | rfl
     ·exact hd r hr
     ·have a1:m ^^^ aZ rows m ∈ ad (m::done):=bS hd hsp
      have a2:m ∈ ad (m::done):=aQ (by simp);have e:m ^^^ (m ^^^ aZ rows m)=aZ rows m:=by rw [<- Nat.xor_assoc,Nat.xor_self,Nat.zero_xor]
      rw [<- e];exact bR a2 a1) (fun d hdd=>by
     rcases zT.mp hdd with rfl | hdd
     ·have a1:=bS sub hsp
      have a2:aZ rows d ∈ ad (rows++[aZ rows d]):=aQ (by simp);have a3:=bR a1 a2
      rwa [Nat.xor_assoc,Nat.xor_self,Nat.xor_zero] at a3
     ·exact bS sub (h2 d hdd))]
   simp only [gr,hm,if_false,zV,List.length_singleton];omega
theorem ue (ms:List Nat):(ms.foldl bZ []).length=gr [] ms:=by
 have:=AE ms [] [] trivial (fun r hr=>by cases hr) (fun r hr=>by cases hr) (fun d hd=>by cases hd)
 simpa using this
noncomputable def b9 (ls:List (Nat × Nat)) (x:Nat):Nat:=ls.foldl (fun m l=>if m.testBit l.1=true then m ^^^ l.2 else m) x
def Rd (ls:List (Nat × Nat)):Prop:=(∀ l ∈ ls,l.2.testBit l.1=true)/\ls.Pairwise fun a b=>a.2.testBit b.1=false/\b.2.testBit a.1=false
theorem Rd.tri:∀ {ls:List (Nat × Nat)},Rd ls->ki ls:=by
 intro ls
 induction ls with
 | nil=>intro _;trivial
 | cons l ls ih =>
  intro h;obtain ⟨h1,h2⟩:=h;rw [List.pairwise_cons] at h2;exact ⟨h1 l (by simp),fun c hc=>(h2.1 c hc).2,ih ⟨fun c hc=>h1 c (by simp [hc]),h2.2⟩⟩
theorem iA:∀ (ls:List (Nat × Nat)) (x:Nat),x ^^^ b9 ls x ∈ ad (ls.map (·.2)):=by
 intro ls
 induction ls with
 | nil=>intro x;simp [b9,ad]
 | cons l ls ih =>
  intro x;simp only [b9,List.foldl_cons,zO,ad,zZ,yA];by_cases h:x.testBit l.1=true
  ·rw [yF h]
   refine .inr ⟨_,ih (x ^^^ l.2),?_⟩;simp only [b9];rw [<- Nat.xor_assoc,<- Nat.xor_assoc,Nat.xor_comm l.2 x,Nat.xor_assoc x l.2 l.2,Nat.xor_self,Nat.xor_zero]
  ·rw [yE h];exact .inl (ih x)
theorem wT {t:Nat}:∀ (ls:List (Nat × Nat)) (x:Nat),x.testBit t=false->(∀ l ∈ ls,l.2.testBit t=false)->(b9 ls x).testBit t=false:=by
 intro ls
 induction ls with
 | nil=>intro x h _;exact h
 | cons l ls ih =>
  intro x h hr;simp only [b9,List.foldl_cons];refine ih _ ?_ fun q hq=>hr q (by simp [hq])
  split
  ·rw [Nat.testBit_xor,h,hr l (by simp)];rfl
  ·exact h
theorem iB:∀ (ls:List (Nat × Nat)) (x:Nat),ki ls->∀ b ∈ ls,(b9 ls x).testBit b.1=false:=by
 intro ls
 induction ls with
 | nil=>intro x _ b hb;cases hb
 | cons l ls ih =>
  intro x ht b hb;obtain ⟨h1,h2,h3⟩:=ht;simp only [b9,List.foldl_cons];rcases zT.mp hb with rfl | hb
  ·refine wT ls _ ?_ fun q hq=>h2 q hq
   split
   ·rename_i h;rw [Nat.testBit_xor,h,h1];rfl
   ·rename_i h;simpa using h
  ·exact ih _ h3 b hb
noncomputable def eC (m:Nat) (l:Nat × Nat):Nat × Nat:=if l.2.testBit m.log2=true then (l.1,l.2 ^^^ m) else l
theorem pE (m:Nat) (l:Nat × Nat):(eC m l).1=l.1:=by unfold eC;split <;> rfl
theorem kP {m:Nat}{l:Nat × Nat}{t:Nat} (h:m.testBit t=false):(eC m l).2.testBit t=l.2.testBit t:=by
 unfold eC;split
 ·rw [Nat.testBit_xor,h];simp
 ·rfl
theorem xB {m:Nat}{l:Nat × Nat} (h:m ≠ 0):(eC m l).2.testBit m.log2=false:=by
 unfold eC;split
 ·rename_i h1;rw [Nat.testBit_xor,h1,eO h];rfl
 ·rename_i h1;simpa using h1
def cN (ls:List (Nat × Nat)) (m:Nat):List (Nat × Nat):=ls.map (eC m)++[(m.log2,m)]
theorem vH {ls:List (Nat × Nat)}{m:Nat} (h:Rd ls) (h0:m ≠ 0) (hb:∀ l ∈ ls,m.testBit l.1=false):Rd (cN ls m):=by
 obtain ⟨h1,h2⟩:=h;constructor
 ·intro l hl
  unfold cN at hl;rw [zZ,zL] at hl;rcases hl with hl | rfl
  ·obtain ⟨k,hk,rfl⟩:=yA.mp hl
   rw [pE,kP (hb k hk)];exact h1 k hk
  ·exact eO h0
 ·unfold cN
  rw [List.pairwise_append];refine ⟨?_,List.pairwise_singleton _ _,?_⟩
  ·rw [List.pairwise_map]
   refine (List.Pairwise.and_mem.mp h2).imp ?_;rintro a b ⟨ha,hb2,q1,q2⟩;rw [pE,pE,kP (hb b hb2),kP (hb a ha)];exact ⟨q1,q2⟩
  ·intro a ha b hb2
   rw [zL] at hb2;subst hb2;obtain ⟨k,hk,rfl⟩:=yA.mp ha;refine ⟨xB h0,?_⟩;rw [pE];exact hb k hk
def cp (ls:List (Nat × Nat)) (m:Nat):List (Nat × Nat):=if b9 ls m ≠ 0 then cN ls (b9 ls m) else ls
theorem lS (ls:List (Nat × Nat)) (m:Nat):m ∈ ad ((cN ls m).map (·.2)):=aQ (by unfold cN;simp)
theorem lR (ls:List (Nat × Nat)) (m:Nat):∀ r ∈ ls.map (·.2),r ∈ ad ((cN ls m).map (·.2)):=by
 intro r hr;obtain ⟨l,hl,rfl⟩:=yA.mp hr;have h1:(eC m l).2 ∈ ad ((cN ls m).map (·.2)):=aQ (yA.mpr ⟨eC m l,by unfold cN;simp only [zZ,yA];exact .inl ⟨l,hl,rfl⟩,rfl⟩);by_cases h:l.2.testBit m.log2=true
 ·have e:(eC m l).2=l.2 ^^^ m:=by unfold eC;rw [yF h]
  rw [e] at h1;have h3:=bR h1 (lS ls m)
  rwa [Nat.xor_assoc,Nat.xor_self,Nat.xor_zero] at h3
 ·have e:(eC m l).2=l.2:=by unfold eC;rw [yE h]
  rw [e] at h1;exact h1
theorem vI {ls:List (Nat × Nat)}{m:Nat}{ss:List Nat} (h1:∀ r ∈ ls.map (·.2),r ∈ ad ss) (h2:m ∈ ad ss):∀ r ∈ (cN ls m).map (·.2),r ∈ ad ss:=by
 intro r hr;obtain ⟨l,hl,rfl⟩:=yA.mp hr;unfold cN at hl;rw [zZ,zL] at hl;rcases hl with hl | rfl
 ·obtain ⟨k,hk,rfl⟩:=yA.mp hl
  have hk2:=h1 k.2 (yA.mpr ⟨k,hk,rfl⟩);unfold eC;split
  ·exact bR hk2 h2
  ·exact hk2
 ·exact h2
theorem ul:∀ (ms:List Nat) {d e:List Nat},(∀ x,x ∈ ad d ↔ x ∈ ad e)->gr d ms=gr e ms:=by
 intro ms
 induction ms with
 | nil=>intro d e _;rfl
 | cons m ms ih =>
  intro d e h;have h2:∀ x,x ∈ ad (m::d) ↔ x ∈ ad (m::e):=fun x=>by
   simp only [ad,zZ,yA,h]
  simp only [gr,ih h2,h m]
theorem AU:∀ (as bs d:List Nat),gr d (as++bs)=gr d as + gr (as.reverse++d) bs:=by
 intro as
 induction as with
 | nil=>intro bs d;simp [gr]
 | cons a as ih =>
  intro bs d;simp only [List.cons_append,gr,ih,List.reverse_cons,yJ,List.nil_append];omega
theorem c8 {rs ss:List Nat} (h:∀ r ∈ rs,r ∈ ss) {x:Nat} (hx:x ∈ ad rs):x ∈ ad ss:=bS (fun r hr=>aQ (h r hr)) hx
def rk (ms:List Nat):Nat:=gr [] ms
theorem qg (as bs:List Nat):rk (as++bs)=rk as + gr as bs:=by
 unfold rk;rw [AU];congr 1;refine ul bs fun x=>⟨fun h=>c8 (fun r hr=>by simpa using hr) h,fun h=>c8 (fun r hr=>by simpa using hr) h⟩
end RK
namespace RK
open PySem
theorem tQ:∀ a b:Nat,(a &&& b) + (a ^^^ b)=a ||| b:=by
 intro a
 induction a using Nat.strongRecOn with
 | ind a ih =>
  intro b;rcases Nat.eq_zero_or_pos a with rfl | h
  ·simp
  ·have h1:=ih (a / 2) oM (b / 2)
   rw [<- Nat.and_div_two,<- Nat.xor_div_two,<- Nat.or_div_two] at h1;have hm:(a &&& b) % 2 + (a ^^^ b) % 2=(a ||| b) % 2:=by
    rw [Nat.and_mod_two_pow (n:=1) (a:=a) (b:=b) |> fun h=>h,Nat.xor_mod_two_pow (n:=1) (a:=a) (b:=b),Nat.or_mod_two_pow (n:=1) (a:=a) (b:=b)];rcases Nat.mod_two_eq_zero_or_one a with e | e <;> rcases Nat.mod_two_eq_zero_or_one b with f | f <;> rw [show (2:Nat) ^ 1=2 from rfl,e,f] <;> rfl
   have d1:=Nat.div_add_mod (a &&& b) 2;have d2:=Nat.div_add_mod (a ^^^ b) 2;have d3:=Nat.div_add_mod (a ||| b) 2;omega
theorem mW (a b:Nat):Builtin.bitAnd (a:Int) (b:Int)=((a &&& b:Nat):Int):=by
 unfold Builtin.bitAnd;simp
theorem xC (a b:Nat):Builtin.bitOr (a:Int) (b:Int)=((a ||| b:Nat):Int):=by
 unfold Builtin.bitOr Builtin.bitAnd Builtin.bitNot;rw [show decide ((0:Int) <= -(a:Int) - 1)=false from z5 oM,show decide ((0:Int) <= -(b:Int) - 1)=false from z5 oM];dsimp only;rw [show (-(-(a:Int) - 1) - 1).toNat=a by omega,show (-(-(b:Int) - 1) - 1).toNat=b by omega];omega
theorem uC (a b:Nat):Builtin.bitXor (a:Int) (b:Int)=((a ^^^ b:Nat):Int):=by
 have h:=tQ a b;unfold Builtin.bitXor;rw [xC,mW];omega
theorem uD {m:Nat} (h:m ≠ 0):((Builtin.Int.intBits (m:Int):Nat):Int) - 1=((m.log2:Nat):Int):=by
 unfold Builtin.Int.intBits;have:((m:Int) == 0)=false:=by rw [beq_eq_false_iff_ne];omega
 rw [this];simp only [z6,if_false,Int.natAbs_natCast];omega
abbrev L3:=Nat × Nat × Nat
def aY (ls:List L3) (x:Nat × Nat):Nat × Nat:=ls.foldl (fun p l=>if p.1.testBit l.1=true then (p.1 ^^^ l.2.1,p.2 ^^^ l.2.2) else p) x
def cu (l:L3):Nat × Nat:=(l.1,l.2.1)
theorem gB:∀ (ls:List L3) (x:Nat × Nat),(aY ls x).1=b9 (ls.map cu) x.1:=by
 intro ls
 induction ls with
 | nil=>intro x;rfl
 | cons l ls ih =>
  intro x;simp only [aY,b9,List.foldl_cons,zO,cu] at ih ⊢;by_cases h:x.1.testBit l.1=true
  ·rw [yF h,yF h];exact ih _
  ·rw [yE h,yE h];exact ih _
def cR (m q:Nat) (l:L3):L3:=if l.2.1.testBit m.log2=true then (l.1,l.2.1 ^^^ m,l.2.2 ^^^ q) else l
def cq (ls:List L3) (m q:Nat):List L3:=ls.map (cR m q)++[(m.log2,m,q)]
theorem jd (ls:List L3) (m q:Nat):(cq ls m q).map cu=cN (ls.map cu) m:=by
 unfold cq cN;rw [List.map_append,List.map_map,List.map_map];congr 1;apply List.map_congr_left;intro l _;by_cases h:l.2.1.testBit m.log2=true
 ·simp [Function.comp,cR,eC,cu,h]
 ·simp [Function.comp,cR,eC,cu,h]
def cA (ls:List L3) (m q:Nat):List L3:=if (aY ls (m,q)).1 ≠ 0 then cq ls (aY ls (m,q)).1 (aY ls (m,q)).2 else ls
theorem sM (ls:List L3) (m q:Nat):(cA ls m q).map cu=cp (ls.map cu) m:=by
 unfold cA cp;rw [gB];split
 ·rw [jd]
 ·rfl
def au:List L3->Nat->List Nat->List L3
 | ls,_,[]=>ls
 | ls,n,m::ms=>au (cA ls m (2 ^ n)) (n + 1) ms
theorem qP:∀ (ms:List Nat) (ls:List L3) (n:Nat),(au ls n ms).map cu=ms.foldl cp (ls.map cu):=by
 intro ms
 induction ms with
 | nil=>intro ls n;rfl
 | cons m ms ih=>intro ls n;simp only [au,ih,sM,List.foldl_cons]
def Bd (B:Nat) (ls:List L3):Prop:=∀ l ∈ ls,l.2.1 < 2 ^ B
theorem kF {B:Nat}:∀ {ls:List L3},Bd B ls->∀ {x:Nat × Nat},x.1 < 2 ^ B->(aY ls x).1 < 2 ^ B:=by
 intro ls
 induction ls with
 | nil=>intro _ x h;exact h
 | cons l ls ih =>
  intro hb x h;simp only [aY,List.foldl_cons];refine ih (fun k hk=>hb k (by simp [hk])) ?_;split
  ·exact Nat.xor_lt_two_pow h (hb l (by simp))
  ·exact h
theorem sr {B:Nat}{ls:List L3} (h:Bd B ls) {m q:Nat} (hm:m < 2 ^ B):Bd B (cq ls m q):=by
 intro l hl;unfold cq at hl;rw [zZ,zL] at hl;rcases hl with hl | rfl
 ·obtain ⟨k,hk,rfl⟩:=yA.mp hl
  unfold cR;split
  ·exact Nat.xor_lt_two_pow (h k hk) hm
  ·exact h k hk
 ·exact hm
theorem l0 {B:Nat}{ls:List L3} (h:Bd B ls) {m q:Nat} (hm:m < 2 ^ B):Bd B (cA ls m q):=by
 unfold cA;split
 ·exact sr h (kF h hm)
 ·exact h
theorem k4 (ls:List L3) (m q:Nat):(cA ls m q).length <= ls.length + 1:=by
 unfold cA cq;split <;> simp
end RK
namespace RK
theorem nA {ls:List (Nat × Nat)}{m:Nat} (hr:Rd ls):Rd (cp ls m)/\(∀ x,x ∈ ad ((cp ls m).map (·.2)) ↔ x ∈ ad (m::ls.map (·.2))):=by
 have hsp:=iA ls m;have hz:=iB ls m hr.tri;have key:=gx hr.tri (x:=m) (z:=b9 ls m) hsp hz;by_cases e0:b9 ls m=0
 ·have es:cp ls m=ls:=by unfold cp;rw [e0];rfl
  have hm:=key.mp e0;rw [es];refine ⟨hr,gv (fun r h=>aQ (by simp only [zT];exact .inr h)) (fun r h=>?_)⟩;rcases zT.mp h with rfl | h
  ·exact hm
  ·exact aQ h
 ·have es:cp ls m=cN ls (b9 ls m):=by unfold cp;rw [yF e0]
  rw [es];have hx:m ^^^ b9 ls m ∈ ad (m::ls.map (·.2)):=by simp only [ad,zZ];exact .inl hsp
  refine ⟨vH hr e0 hz,gv (vI (fun r h=>aQ (by simp only [zT];exact .inr h)) ?_) (fun r h=>?_)⟩
  ·have a3:=bR (aQ (r:=m) (rs:=m::ls.map (·.2)) (by simp)) hx
   rwa [<- Nat.xor_assoc,Nat.xor_self,Nat.zero_xor] at a3
  ·rcases zT.mp h with rfl | h
   ·have a1:=bS (lR ls (b9 ls r)) hsp
    have a3:=bR a1 (lS ls (b9 ls r))
    rwa [Nat.xor_assoc,Nat.xor_self,Nat.xor_zero] at a3
   ·exact lR ls _ r h
theorem xt:∀ (ms:List Nat) (ls:List (Nat × Nat)),Rd ls->Rd (ms.foldl cp ls)/\(∀ x,x ∈ ad ((ms.foldl cp ls).map (·.2)) ↔ x ∈ ad (ms++ls.map (·.2))):=by
 intro ms
 induction ms with
 | nil=>intro ls h;exact ⟨h,fun x=>Iff.rfl⟩
 | cons m ms ih =>
  intro ls h;obtain ⟨h1,h2⟩:=nA (m:=m) h;obtain ⟨h3,h4⟩:=ih _ h1;refine ⟨h3,fun x=>?_⟩;rw [List.foldl_cons,h4];have sub:∀ r ∈ ms++(cp ls m).map (·.2),r ∈ ad (m::ms++ls.map (·.2)):=fun r hr=>by
   rcases zZ.mp hr with hr | hr
   ·exact aQ (by simp [hr])
   ·exact c8 (fun q hq=>by simp at hq ⊢;rcases hq with h | h <;> simp [h]) ((h2 r).mp (aQ hr))
  have sub2:∀ r ∈ m::ms++ls.map (·.2),r ∈ ad (ms++(cp ls m).map (·.2)):=fun r hr=>by
   have hh:r=m\/r ∈ ms\/r ∈ ls.map (·.2):=by simpa [or_assoc] using hr
   have hin:∀ q,q ∈ ad (m::ls.map (·.2))->q ∈ ad (ms++(cp ls m).map (·.2)):=fun q hq=>c8 (fun z hz=>zK _ hz) ((h2 q).mpr hq)
   rcases hh with rfl | hh | hh
   ·exact hin _ (aQ (by simp))
   ·exact aQ (List.mem_append_left _ hh)
   ·exact hin _ (aQ (zQ _ hh))
  exact ⟨bS sub,bS sub2⟩
theorem mC (ms:List Nat):Rd ((au [] 0 ms).map cu)/\∀ x,x ∈ ad ((au [] 0 ms).map (·.2.1)) ↔ x ∈ ad ms:=by
 have h:=xt ms [] ⟨(fun l hl=>by cases hl),List.Pairwise.nil⟩;have e:=qP ms [] 0;rw [List.map_nil] at e;rw [<- e] at h;refine ⟨h.1,fun x=>?_⟩;have h2:=h.2 x;rw [List.map_map,List.map_nil,List.append_nil] at h2;exact h2
theorem CN:∀ (ms d:List Nat),gr d ms <= ms.length:=by
 intro ms
 induction ms with
 | nil=>intro d;exact zP _
 | cons m ms ih=>intro d;have:=ih (m::d);simp only [gr,yQ];split <;> omega
def lu (ls:List L3) (fs:List Nat):List Nat->List Nat
 | []=>fs
 | m::ms=>if (aY ls (m,0)).1=0 then lu ls (fs++[(aY ls (m,0)).2]) ms else lu (cq ls (aY ls (m,0)).1 (aY ls (m,0)).2) fs ms
theorem qN {as d:List Nat}:∀ (ls:List L3) (x:Nat × Nat),(∀ l ∈ ls,l.2.2 ∈ ad as/\l.2.1 ^^^ l.2.2 ∈ ad d)->∃ u,u ∈ ad as/\(aY ls x).2=x.2 ^^^ u/\(x.1 ^^^ (aY ls x).1) ^^^ u ∈ ad d:=by
 intro ls
 induction ls with
 | nil=>intro x _;exact ⟨0,eG _,by simp [aY],by simp [aY,eG]⟩
 | cons l ls ih =>
  intro x h;have hl:=h l (by simp);simp only [aY,List.foldl_cons];by_cases hb:x.1.testBit l.1=true
  ·rw [yF hb]
   obtain ⟨u,h1,h2,h3⟩:=ih (x.1 ^^^ l.2.1,x.2 ^^^ l.2.2) fun k hk=>h k (by simp [hk])
   simp only [aY] at h2 h3;refine ⟨l.2.2 ^^^ u,bR hl.1 h1,by rw [h2,Nat.xor_assoc],?_⟩;have h4:=bR h3 hl.2;have e:∀ a b c p q:Nat,(((a ^^^ b) ^^^ c) ^^^ p) ^^^ (b ^^^ q)=(a ^^^ c) ^^^ (q ^^^ p):=by
    intro a b c p q;apply Nat.eq_of_testBit_eq;intro i;simp only [Nat.testBit_xor];cases a.testBit i <;> cases b.testBit i <;> cases c.testBit i <;> cases p.testBit i <;> cases q.testBit i <;> rfl
   rw [e] at h4;exact h4
  ·rw [yE hb]
   obtain ⟨u,h1,h2,h3⟩:=ih x fun k hk=>h k (by simp [hk])
   exact ⟨u,h1,h2,h3⟩
theorem FY {as:List Nat}:∀ (ms d:List Nat) (ls:List L3) (fs:List Nat),Rd (ls.map cu)->(∀ l ∈ ls,l.2.2 ∈ ad as/\l.2.1 ^^^ l.2.2 ∈ ad d)->(∀ x,x ∈ ad (ls.map (·.2.1)) ↔ x ∈ ad (d++as)) ->
  (∀ z ∈ fs,z ∈ ad as/\z ∈ ad d)->rk fs=fs.length->gr d ms=ms.length ->
  (∀ z ∈ lu ls fs ms,z ∈ ad as/\z ∈ ad (ms++d))/\rk (lu ls fs ms)=(lu ls fs ms).length/\(lu ls fs ms).length + gr (d++as) ms=fs.length + ms.length:=by
 intro ms
 induction ms with
 | nil=>intro d ls fs _ _ _ h4 h5 _;exact ⟨h4,h5,by simp [lu,gr]⟩
 | cons m ms ih =>
  intro d ls fs h1 h2 h3 h4 h5 h6;have hle:=CN ms (m::d);have hmd:m ∉ ad d:=fun h=>by simp only [gr,h,if_true,yQ] at h6;omega
  have h6':gr (m::d) ms=ms.length:=by simp only [gr,hmd,if_false,yQ] at h6;omega
  have up:∀ x,x ∈ ad d->x ∈ ad (m::d):=fun x h=>by simp only [ad,zZ];exact .inl h
  have aw:∀ y:List Nat,(∀ z ∈ y,z ∈ ad as/\z ∈ ad (ms++m::d))->∀ z ∈ y,z ∈ ad as/\z ∈ ad (m::ms++d):=fun y h z hz=>⟨(h z hz).1,c8 (fun r hr=>by simp at hr ⊢;rcases hr with h | h | h <;> simp [h]) (h z hz).2⟩
  obtain ⟨u,u1,u2,u3⟩:=qN ls (m,0) h2;simp only [Nat.zero_xor] at u2 u3;have hfst:=gB ls (m,0);have em:ls.map (·.2.1)=(ls.map cu).map (·.2):=by rw [List.map_map];rfl
  have key:=gx h1.tri (x:=m) (z:=(aY ls (m,0)).1) (by rw [hfst];exact iA _ _) (by rw [hfst];exact iB _ _ h1.tri);rw [<- em,h3] at key;simp only [lu];by_cases h0:(aY ls (m,0)).1=0
  ·rw [yF h0,u2]
   have hin:=key.mp h0;rw [h0,Nat.xor_zero] at u3;have hum:u ∈ ad (m::d):=by
    simp only [ad,zZ,yA];exact .inr ⟨m ^^^ u,u3,by rw [<- Nat.xor_assoc,Nat.xor_self,Nat.zero_xor]⟩
   have hud:u ∉ ad d:=fun h=>hmd (by
    have:=bR u3 h
    rwa [Nat.xor_assoc,Nat.xor_self,Nat.xor_zero] at this)
   have huf:u ∉ ad fs:=fun h=>hud (bS (fun z hz=>(h4 z hz).2) h)
   obtain ⟨k1,k2,k3⟩:=ih (m::d) ls (fs++[u]) h1 (fun l hl=>⟨(h2 l hl).1,up _ (h2 l hl).2⟩) (fun x=>by
    rw [h3];refine ⟨fun h=>c8 (fun r hr=>by simp at hr ⊢;rcases hr with h | h <;> simp [h]) h,fun h=>bS (fun r hr=>?_) h⟩;rcases zT.mp hr with rfl | hr
    ·exact hin
    ·exact aQ hr) (fun z hz=>by
    rcases zZ.mp hz with h | h
    ·exact ⟨(h4 z h).1,up _ (h4 z h).2⟩
    ·rw [zL.mp h];exact ⟨u1,hum⟩) (by rw [qg,h5];simp [gr,huf]) h6'
   refine ⟨aw _ k1,k2,?_⟩;simp only [gr,List.cons_append,hin,if_true,yQ,zV,List.length_nil] at k3 ⊢;omega
  ·rw [yE h0,u2]
   have hin:m ∉ ad (d++as):=fun h=>h0 (key.mpr h)
   have hst:=nA (m:=m) h1;have est:cp (ls.map cu) m=cN (ls.map cu) (aY ls (m,0)).1:=by unfold cp;rw [<- hfst,yF h0]
   rw [est] at hst;have hmx:(aY ls (m,0)).1 ^^^ u ∈ ad (m::d):=by
    simp only [ad,zZ,yA];refine .inr ⟨_,u3,?_⟩;have e:∀ a b c:Nat,a ^^^ ((a ^^^ b) ^^^ c)=b ^^^ c:=by
     intro a b c;rw [<- Nat.xor_assoc,<- Nat.xor_assoc,Nat.xor_self,Nat.zero_xor]
    rw [e]
   obtain ⟨k1,k2,k3⟩:=ih (m::d) (cq ls (aY ls (m,0)).1 u) fs (by rw [jd];exact hst.1) (fun l hl=>by
    unfold cq at hl;rw [zZ,zL] at hl;rcases hl with hl | rfl
    ·obtain ⟨k,hk,rfl⟩:=yA.mp hl
     have hkk:=h2 k hk;unfold cR;split
     ·refine ⟨bR hkk.1 u1,?_⟩
      have:=bR (up _ hkk.2) hmx
      have e:∀ a b c p:Nat,(a ^^^ b) ^^^ (c ^^^ p)=(a ^^^ c) ^^^ (b ^^^ p):=by
       intro a b c p;rw [Nat.xor_assoc,Nat.xor_assoc,<- Nat.xor_assoc b c p,Nat.xor_comm b c,Nat.xor_assoc c b p]
      rw [e] at this;exact this
     ·exact ⟨hkk.1,up _ hkk.2⟩
    ·exact ⟨u1,hmx⟩) (fun x=>by
    have e2:(cq ls (aY ls (m,0)).1 u).map (·.2.1)=(cN (ls.map cu) (aY ls (m,0)).1).map (·.2):=by rw [<- jd (q:=u),List.map_map];rfl
    rw [e2,hst.2,<- em];refine ⟨fun h=>bS (fun r hr=>?_) h,fun h=>bS (fun r hr=>?_) h⟩
    ·rcases zT.mp hr with rfl | hr
     ·exact aQ (by simp)
     ·exact c8 (fun q hq=>by simp at hq ⊢;rcases hq with h | h <;> simp [h]) ((h3 r).mp (aQ hr))
    ·have hh:r=m\/r ∈ d++as:=by simpa using hr
     rcases hh with rfl | hr
     ·exact aQ (by simp)
     ·have:=(h3 r).mpr (aQ hr)
      simp only [ad,zZ];exact .inl this) (fun z hz=>⟨(h4 z hz).1,up _ (h4 z hz).2⟩) h5 h6'
   refine ⟨aw _ k1,k2,?_⟩;simp only [gr,List.cons_append,hin,if_false,yQ] at k3 ⊢;omega
theorem l3 {B:Nat}:∀ {rs:List Nat}{x:Nat},(∀ r ∈ rs,r < 2 ^ B)->x ∈ ad rs->x < 2 ^ B:=by
 intro rs
 induction rs with
 | nil=>intro x _ h;simp only [ad,zL] at h;subst h;exact Nat.pow_pos dC
 | cons r rs ih =>
  intro x h hx;simp only [ad,zZ,yA] at hx;rcases hx with hx | ⟨a,ha,rfl⟩
  ·exact ih (fun q hq=>h q (by simp [hq])) hx
  ·exact Nat.xor_lt_two_pow (h r (by simp)) (ih (fun q hq=>h q (by simp [hq])) ha)
theorem oE (x y F:Nat):(x ^^^ y) &&& F=(x &&& F) ^^^ (y &&& F):=by
 apply Nat.eq_of_testBit_eq;intro i;simp only [Nat.testBit_and,Nat.testBit_xor];cases x.testBit i <;> cases y.testBit i <;> cases F.testBit i <;> rfl
noncomputable def par:Nat->Nat->Bool
 | 0,_=>false
 | N + 1,x=>par N x ^^ x.testBit N
theorem kz (N x y:Nat):par N (x ^^^ y)=(par N x ^^ par N y):=by
 induction N with
 | zero=>rfl
 | succ N ih=>simp only [par,ih,Nat.testBit_xor];cases par N x <;> cases par N y <;> cases x.testBit N <;> cases y.testBit N <;> rfl
theorem mj (N:Nat):par N 0=false:=by
 induction N with
 | zero=>rfl
 | succ N ih=>simp [par,ih]
theorem nK (N x:Nat):par N x=(((List.range N).filter fun i=>x.testBit i).length % 2 == 1):=by
 induction N with
 | zero=>rfl
 | succ N ih =>
  rw [List.range_succ,List.filter_append,zV];simp only [par,ih];cases h:x.testBit N
  ·simp [h]
  ·simp only [h,List.filter_cons,if_true,List.filter_nil,yQ,List.length_nil]
   generalize (List.filter _ _).length=n;have:n % 2=0\/n % 2=1:=by omega
   rcases this with e | e
   ·rw [e,show (n + (0 + 1)) % 2=1 by omega];rfl
   ·rw [e,show (n + (0 + 1)) % 2=0 by omega];rfl
theorem qc {N F:Nat}:∀ {rs:List Nat}{x:Nat},(∀ r ∈ rs,par N (r &&& F)=false)->x ∈ ad rs->par N (x &&& F)=false:=by
 intro rs
 induction rs with
 | nil=>intro x _ h;simp only [ad,zL] at h;subst h;rw [Nat.zero_and,mj]
 | cons r rs ih =>
  intro x hr h;simp only [ad,zZ,yA] at h;have h1:=hr r (z4 ..);have h2:∀ s ∈ rs,par N (s &&& F)=false:=fun s hs=>hr s (zQ _ hs)
  rcases h with h | ⟨y,hy,rfl⟩
  ·exact ih h2 h
  ·rw [oE,kz,ih h2 hy,h1];rfl
noncomputable def gj (l:List Nat):Nat:=l.foldr (fun t x=>2 ^ t ^^^ x) 0
theorem i7 {l:List Nat} (h:l.Nodup) (i:Nat):(gj l).testBit i=decide (i ∈ l):=by
 induction l with
 | nil=>simp [gj]
 | cons t l ih =>
  obtain ⟨h1,h2⟩:=List.nodup_cons.mp h;show (2 ^ t ^^^ gj l).testBit i=_;rw [Nat.testBit_xor,ih h2,Nat.testBit_two_pow];by_cases e:t=i
  ·subst e;simp [h1]
  ·have:¬ i=t:=fun z=>e z.symm
   simp [e,this]
theorem nJ {N t:Nat} (ht:t < N) {x:Nat} (h:∀ i,x.testBit i=decide (i=t)):par N x=true:=by
 induction N with
 | zero=>omega
 | succ N ih =>
  simp only [par];by_cases e:t=N
  ·subst e
   have:∀ M,M <= t->par M x=false:=fun M=>by
    induction M with
    | zero=>intro _;rfl
    | succ M ihM=>intro hM;simp only [par];rw [ihM oM,h M];simp;omega
   rw [this t (zP _),h t];simp
  ·rw [ih oM,h N]
   have:¬ N=t:=fun z=>e z.symm
   simp [this]
theorem tO {N x:Nat} (h:∀ i,x.testBit i=false):par N x=false:=by
 induction N with
 | zero=>rfl
 | succ N ih=>simp [par,ih,h N]
theorem wB {N t u:Nat} (ht:t < N) (hu:u < N) (hn:t ≠ u) {x:Nat} (h:∀ i,x.testBit i=decide (i=t\/i=u)):par N x=false:=by
 have e:x=2 ^ t ^^^ 2 ^ u:=by
  apply Nat.eq_of_testBit_eq;intro i;rw [h i,Nat.testBit_xor,Nat.testBit_two_pow,Nat.testBit_two_pow];by_cases e1:t=i
  ·subst e1
   have:¬ u=t:=fun z=>hn z.symm
   simp [this]
  ·have e1':¬ i=t:=fun z=>e1 z.symm
   by_cases e2:u=i
   ·subst e2;simp [e1]
   ·have e2':¬ i=u:=fun z=>e2 z.symm
    simp [e1,e2,e1',e2']
 have p:∀ t,t < N->par N (2 ^ t)=true:=fun t ht=>nJ ht fun i=>by
  rw [Nat.testBit_two_pow];by_cases e:t=i
  ·subst e;simp
  ·have:¬ i=t:=fun z=>e z.symm
   simp [e,this]
 rw [e,kz,p t ht,p u hu];rfl
theorem yV {α:Type}{Q:α->α->Prop} (sy:∀ a b,Q a b->Q b a):∀ {l:List α},l.Pairwise Q->∀ a ∈ l,∀ b ∈ l,a ≠ b->Q a b:=by
 intro l
 induction l with
 | nil=>intro _ a ha;cases ha
 | cons x l ih =>
  intro h a ha b hb hn;obtain ⟨h1,h2⟩:=List.pairwise_cons.mp h;rcases zT.mp ha with e | ha'
  ·rcases zT.mp hb with e' | hb'
   ·exact absurd (e.trans e'.symm) hn
   ·rw [e];exact h1 b hb'
  ·rcases zT.mp hb with e' | hb'
   ·rw [e'];exact sy _ _ (h1 a ha')
   ·exact ih h2 a ha' b hb' hn
theorem wC {N:Nat}{ls:List (Nat × Nat)} (hR:Rd ls) (hl:∀ l ∈ ls,l.1 < N) {z c:Nat} (hc:c < N) (hz:z.testBit c=true) (hb:∀ l ∈ ls,z.testBit l.1=false)
  {F:Nat} (hF:∀ i,F.testBit i=decide (i=c\/∃ l ∈ ls,l.1=i/\l.2.testBit c=true)) :
  (∀ x ∈ ad (ls.map (·.2)),par N (x &&& F)=false)/\∀ v,v ^^^ z ∈ ad (ls.map (·.2))->par N (v &&& F)=true:=by
 have nc:∀ l ∈ ls,l.1 ≠ c:=fun l hl' e=>by have:=hb l hl';rw [e,hz] at this;cases this
 have off:∀ l ∈ ls,∀ m ∈ ls,l ≠ m->l.2.testBit m.1=false:=fun l h1 m h2 hn=>(yV (fun a b h=>⟨h.2,h.1⟩) hR.2 l h1 m h2 hn).1
 have line:∀ l ∈ ls,par N (l.2 &&& F)=false:=fun l h1=>by
  cases hcl:l.2.testBit c with
  | false =>
   refine tO fun i=>?_
   rw [Nat.testBit_and,hF i];by_cases hi:l.2.testBit i=true
   ·rw [hi,Bool.true_and]
    refine z5 fun h=>?_
    rcases h with rfl | ⟨m,hm,e,hmc⟩
    ·rw [hcl] at hi;cases hi
    ·by_cases hlm:l=m
     ·subst hlm;rw [hcl] at hmc;cases hmc
     ·have:=off l h1 m hm hlm;rw [e,hi] at this;cases this
   ·rw [Bool.not_eq_true] at hi;rw [hi];rfl
  | true =>
   refine wB hc (hl l h1) (Ne.symm (nc l h1)) fun i=>?_
   rw [Nat.testBit_and,hF i];by_cases e1:i=c
   ·subst e1;simp [hcl]
   ·by_cases e2:i=l.1
    ·subst e2
     rw [hR.1 l h1];have:∃ m ∈ ls,m.1=l.1/\m.2.testBit c=true:=⟨l,h1,rfl,hcl⟩;simp [this]
    ·simp only [e1,e2,or_self,false_or,decide_false]
     by_cases hi:l.2.testBit i=true
     ·rw [hi,Bool.true_and]
      refine z5 fun hq0=>?_
      obtain ⟨m,hm,e,_⟩:=hq0;have hlm:l ≠ m:=fun z=>e2 (by rw [z];exact e.symm)
      have:=off l h1 m hm hlm;rw [e,hi] at this;cases this
     ·rw [Bool.not_eq_true] at hi;rw [hi];rfl
 have even:∀ x ∈ ad (ls.map (·.2)),par N (x &&& F)=false:=fun x hx=>qc (fun r hr=>by obtain ⟨l,h1,rfl⟩:=yA.mp hr;exact line l h1) hx
 refine ⟨even,fun v hv=>?_⟩;have h1:=even _ hv;rw [oE,kz] at h1;have h2:par N (z &&& F)=true:=nJ hc fun i=>by
  rw [Nat.testBit_and,hF i];by_cases e1:i=c
  ·subst e1;simp [hz]
  ·simp only [e1,false_or,decide_false]
   by_cases hi:z.testBit i=true
   ·rw [hi,Bool.true_and]
    refine z5 fun hq0=>?_
    obtain ⟨m,hm,e,_⟩:=hq0
    have:=hb m hm;rw [e,hi] at this;cases this
   ·rw [Bool.not_eq_true] at hi;rw [hi];rfl
 rw [h2] at h1;cases hp:par N (v &&& F)
 ·rw [hp] at h1;cases h1
 ·rfl
def eA:Nat->List Nat->Nat->Nat
 | _,[],_=>0
 | n,m::ms,q=>(if q.testBit n=true then m else 0) ^^^ eA (n + 1) ms q
theorem vF (ms:List Nat):∀ (n q r:Nat),eA n ms (q ^^^ r)=eA n ms q ^^^ eA n ms r:=by
 induction ms with
 | nil=>intro n q r;simp [eA]
 | cons m ms ih =>
  intro n q r;simp only [eA,ih,Nat.testBit_xor];have a:∀ x y z w:Nat,(x ^^^ y) ^^^ (z ^^^ w)=(x ^^^ z) ^^^ (y ^^^ w):=fun x y z w=>by
   rw [Nat.xor_assoc,Nat.xor_assoc,<- Nat.xor_assoc y,Nat.xor_comm y z,Nat.xor_assoc]
  cases q.testBit n <;> cases r.testBit n
  ·simp
  ·simp;rw [<- Nat.xor_assoc,<- Nat.xor_assoc,Nat.xor_comm m]
  ·simp;rw [Nat.xor_assoc]
  ·simp;rw [a,Nat.xor_self,Nat.zero_xor]
theorem nq (ms:List Nat):∀ (n q:Nat),(∀ i,n <= i->q.testBit i=false)->eA n ms q=0:=by
 induction ms with
 | nil=>intro n q _;rfl
 | cons m ms ih =>
  intro n q h;simp only [eA,h n (zP _),ih (n + 1) q fun i hi=>h i oM];simp
theorem vG (ms:List Nat):∀ (n j m:Nat),ms[j]?=some m->eA n ms (2 ^ (n + j))=m:=by
 induction ms with
 | nil=>intro n j m h;simp at h
 | cons x ms ih =>
  intro n j m h;cases j with
  | zero =>
   simp at h;subst h;simp only [eA,Nat.add_zero,Nat.testBit_two_pow_self,if_true];rw [nq _ _ _ fun i hi=>by rw [Nat.testBit_two_pow];exact z5 oM];simp
  | succ j =>
   have:=ih (n + 1) j m (by simpa using h)
   simp only [eA];rw [show n + (j + 1)=n + 1 + j by omega,this,Nat.testBit_two_pow,z5 oM];simp
theorem sn {α:Type} (f:α->Nat):∀ (l:List α) (n q a:Nat),((l.zipIdx n).filter fun z=>q.testBit z.2).foldl (fun a z=>a ^^^ f z.1) a=a ^^^ eA n (l.map f) q:=by
 intro l
 induction l with
 | nil=>intro n q a;simp [eA]
 | cons x l ih =>
  intro n q a;rw [List.zipIdx_cons,List.filter_cons,zO];simp only [eA];split
  ·rw [List.foldl_cons,ih,Nat.xor_assoc]
  ·rw [ih,Nat.zero_xor]
section
variable {X:Nat->Nat} (hX:∀ q r,X (q ^^^ r)=X q ^^^ X r)
include hX
theorem l7:∀ (ls:List L3) (x:Nat × Nat),(∀ l ∈ ls,l.2.1=X l.2.2)->(aY ls x).1 ^^^ X (aY ls x).2=x.1 ^^^ X x.2:=by
 intro ls
 induction ls with
 | nil=>intro x _;rfl
 | cons l ls ih =>
  intro x h;have ih':=fun y=>ih y fun m hm=>h m (zQ _ hm)
  simp only [aY,List.foldl_cons] at ih' ⊢;split
  ·rw [ih' _]
   dsimp only;rw [hX,<- h l (z4 ..)];rw [Nat.xor_assoc,Nat.xor_comm (X x.2),<- Nat.xor_assoc l.2.1,Nat.xor_self,Nat.zero_xor]
  ·exact ih' _
theorem xJ {a b:Nat} (h:a ^^^ b=0):a=b:=by
 have:=congrArg (· ^^^ b) h
 simpa [Nat.xor_assoc] using this
theorem qa {ls:List L3}{m q:Nat} (h:∀ l ∈ ls,l.2.1=X l.2.2) (hq:X q=m):∀ l ∈ cA ls m q,l.2.1=X l.2.2:=by
 have e:=l7 hX ls (m,q) h;dsimp only at e;rw [hq,Nat.xor_self] at e;have e:=xJ hX e;unfold cA;split
 ·intro l hl
  unfold cq at hl;rcases zZ.mp hl with hl | hl
  ·obtain ⟨k,hk,rfl⟩:=yA.mp hl
   unfold cR;split
   ·dsimp only;rw [hX,<- h k hk,<- e]
   ·exact h k hk
  ·rw [zL.mp hl];exact e
 ·exact h
theorem pv:∀ (ms:List Nat) (ls:List L3) (n:Nat),(∀ l ∈ ls,l.2.1=X l.2.2)->(∀ j m,ms[j]?=some m->X (2 ^ (n + j))=m)->∀ l ∈ au ls n ms,l.2.1=X l.2.2:=by
 intro ms
 induction ms with
 | nil=>intro ls n h _;exact h
 | cons m ms ih =>
  intro ls n h hm;exact ih _ (n + 1) (qa hX h (by simpa using hm 0 m rfl)) fun j y hy=>by
   have:=hm (j + 1) y (by simpa using hy)
   rwa [show n + (j + 1)=n + 1 + j by omega] at this
end
theorem px (ms:List Nat) (v:Nat) (h:(aY (au [] 0 ms) (v,0)).1=0):eA 0 ms (aY (au [] 0 ms) (v,0)).2=v:=by
 have hX:=vF ms 0;have hl:=pv hX ms [] 0 (by simp) fun j m hj=>by rw [Nat.zero_add];have:=vG ms 0 j m hj;rwa [Nat.zero_add] at this
 have e:=l7 hX _ (v,0) hl;rw [h,Nat.zero_xor] at e;rw [e];have:eA 0 ms 0=0:=nq _ _ _ fun i _=>Nat.zero_testBit i
 rw [this,Nat.xor_zero]
theorem ni:∀ (ms:List Nat) (ls:List L3) (n m:Nat),au ls n (ms++[m])=cA (au ls n ms) m (2 ^ (n + ms.length)):=by
 intro ms
 induction ms with
 | nil=>intro ls n m;rfl
 | cons x ms ih=>intro ls n m;simp only [List.cons_append,au,ih,yQ];rw [show n + 1 + ms.length=n + (ms.length + 1) by omega]
end RK
namespace LW
open PySem L2 R
def cD (i:Nat):Stmt:=PySem.Challenge.pw_telltight_k46_whole_known_or_open.main.body.getD i (.Pass ⟨0,0,0,0⟩)
def dY:GK:=(.cons (.iff (.cmp .Lt (.v 1) (.bi .len (.cons (.v 0) .nil)))
 (.cons (.rt (.ix (.v 0) (.v 1)))
 .nil)
 .nil)
 (.cons (.rt (.i 0))
 .nil))
def gh:FE:=⟨.f "_law_cell_at" 2,"_law_cell_at",cD 19,["_law_script","_law_k"],[],3,[],dY⟩
def fq:GK:=(.cons (.as (.nw true (.li .nil)) (.nm 3))
 (.cons (.as (.v 0) (.nm 4))
 (.cons (.fo (.r1 (.v 1)) (.nm 5)
 (.cons (.iff (.an (.cmp .GtE (.bi .abs (.cons (.v 0) .nil)) (.bin .Pow (.i 10) (.i 18))) (.an (.cmp .NotEq (.v 4) (.i 0)) (.cmp .NotEq (.v 4) (.un .USub (.i 1)))))
 (.cons (.ex (.mt .app (.v 3) (.cons (.bin .Mod (.v 4) (.v 2)) .nil)))
 (.cons (.as (.bin .FloorDiv (.v 4) (.v 2)) (.nm 4))
 .nil))
 (.cons (.as (.bin .Mod (.bin .Add (.bin .Mult (.bin .Add (.v 0) (.i 1009)) (.i 69621)) (.bin .Mult (.i 7919) (.v 5))) (.i 2147483629)) (.nm 6))
 (.cons (.as (.bin .Mod (.bin .Add (.bin .Add (.bin .Mult (.v 6) (.v 6)) (.bin .Mult (.i 17) (.v 5))) (.i 5)) (.i 2147483629)) (.nm 6))
 (.cons (.ex (.mt .app (.v 3) (.cons (.bin .Mod (.bin .FloorDiv (.bin .Mod (.bin .Mult (.v 6) (.v 6)) (.i 2147483587)) (.i 64)) (.v 2)) .nil)))
 .nil))))
 .nil))
 (.cons (.rt (.v 3))
 .nil))))
def ic:FE:=⟨.f "_law_draws" 3,"_law_draws",cD 20,["_law_cell","_law_many","_law_base","_law_found","_law_left","_law_k","_law_number"],[],3,[],fq⟩
def fU:GK:=(.cons (.rt (.nw false (.lc 1 (.r1 (.i 41)) (.nm 1) (.so (.cmp .Eq (.bin .Mod (.bin .FloorDiv (.v 0) (.bin .LShift (.i 1) (.v 1))) (.i 2)) (.i 1))) (.v 1))))
 .nil)
def i5:FE:=⟨.f "_law_bits" 1,"_law_bits",cD 21,["_law_mask_here"],[],3,[],fU⟩
def fS:GK:=(.cons (.as (.ca true 0 (.cons (.v 0) (.cons (.i 18) (.cons (.i 65536) .nil)))) (.nm 3))
 (.cons (.as (.bin .Mod (.ix (.v 3) (.i 0)) (.bin .Add (.v 2) (.i 1))) (.nm 4))
 (.cons (.as (.nw true (.li .nil)) (.nm 5))
 (.cons (.fo (.r1 (.v 1)) (.nm 6)
 (.cons (.as (.nw true (.li .nil)) (.nm 7))
 (.cons (.fo (.r1 (.bin .Mod (.ix (.v 3) (.bin .Add (.i 1) (.v 6))) (.i 4))) (.nm 8)
 (.cons (.as (.ix (.v 3) (.bin .Add (.bin .Add (.i 5) (.bin .Mult (.i 3) (.v 6))) (.v 8))) (.nm 9))
 (.cons (.as (.bin .Mod (.v 9) (.bin .LShift (.i 1) (.v 4))) (.nm 10))
 (.cons (.iff (.cmp .Gt (.v 4) (.i 16))
 (.cons (.as (.bin .Mod (.bin .Mult (.bin .Add (.bin .Mult (.bin .Mult (.v 9) (.v 9)) (.i 48271)) (.v 9)) (.bin .Add (.v 9) (.i 77))) (.bin .LShift (.i 1) (.v 4))) (.nm 10))
 .nil)
 .nil)
 (.cons (.ex (.mt .app (.v 7) (.cons (.ca true 1 (.cons (.v 10) .nil)) .nil)))
 .nil)))))
 (.cons (.ex (.mt .app (.v 5) (.cons (.v 7) .nil)))
 .nil))))
 (.cons (.rt (.tu (.cons (.v 4) (.cons (.v 5) .nil))))
 .nil)))))
def i3:FE:=⟨.f "_law_heap" 3,"_law_heap",cD 23,["_law_cell","_law_n","_law_most","_law_digits","_law_many","_law_views","_law_name","_law_row","_law_j","_law_digit","_law_mask_here"],[1,2],6,[],fS⟩
def fT:GK:=(.cons (.rt (.tu (.cons (.ix (.v 0) (.i 0)) (.cons (.nw false (.lc 1 (.e (.ix (.v 0) (.i 1))) (.nm 1) .no (.nw false (.lc 1 (.e (.v 1)) (.nm 2) .no (.nw false (.lof (.v 2))))))) .nil))))
 .nil)
def i4:FE:=⟨.f "_law_copy" 1,"_law_copy",cD 27,["_law_heap_here"],[],3,[],fT⟩
def i9:GK:=(.cons (.rt (.bi .sum (.cons (.nw false (.lc 1 (.e (.v 0)) (.nm 1) .no (.bin .LShift (.i 1) (.v 1)))) .nil)))
 .nil)
def iY:FE:=⟨.f "_law_mask" 1,"_law_mask",cD 22,["_law_view_here"],[],3,[],i9⟩
def fm:GK:=(.cons (.as (.nw false (.li .nil)) (.nm 2))
 (.cons (.fo (.r1 (.bi .len (.cons (.ix (.v 0) (.i 1)) .nil))) (.nm 3)
 (.cons (.iff (.cmp .Eq (.bin .Mod (.bin .FloorDiv (.v 1) (.bin .LShift (.i 1) (.v 3))) (.i 2)) (.i 1))
 (.cons (.as (.nw false (.cat (.v 2) (.nw false (.lc 1 (.e (.ix (.ix (.v 0) (.i 1)) (.v 3))) (.nm 4) .no (.ca true 0 (.cons (.v 4) .nil)))))) (.nm 2))
 .nil)
 .nil)
 .nil))
 (.cons (.rt (.v 2))
 .nil)))
def ia:FE:=⟨.f "_law_masks" 2,"_law_masks",cD 24,["_law_heap_here","_law_g","_law_found","_law_name"],[5],6,[],fm⟩
def fQ:GK:=(.cons (.as (.ca true 0 (.cons (.v 0) (.cons (.v 1) .nil))) (.nm 3))
 (.cons (.as (.ca true 1 (.cons (.v 2) (.cons (.i 15) (.cons (.i 65536) .nil)))) (.nm 4))
 (.cons (.as (.i 0) (.nm 5))
 (.cons (.fo (.zi (.v 3) (.v 4)) (.tu 2 (.cons (.nm 6) (.cons (.nm 7) .nil)))
 (.cons (.as (.bin .BitXor (.v 5) (.bin .Mult (.v 6) (.bin .Mod (.v 7) (.i 2)))) (.nm 5))
 .nil))
 (.cons (.iff (.or (.cmp .Eq (.bin .Mod (.ix (.v 4) (.i 13)) (.i 3)) (.i 0)) (.cmp .Eq (.ix (.v 0) (.i 0)) (.i 0)))
 (.cons (.rt (.ca true 2 (.cons (.v 5) .nil)))
 .nil)
 .nil)
 (.cons (.iff (.cmp .Eq (.bin .Mod (.ix (.v 4) (.i 13)) (.i 3)) (.i 1))
 (.cons (.rt (.ca true 2 (.cons (.bin .BitXor (.v 5) (.bin .LShift (.i 1) (.bin .Mod (.ix (.v 4) (.i 14)) (.ix (.v 0) (.i 0))))) .nil)))
 .nil)
 .nil)
 (.cons (.rt (.ca true 2 (.cons (.bin .Mod (.bin .Mult (.ix (.v 4) (.i 14)) (.ix (.v 4) (.i 12))) (.bin .LShift (.i 1) (.ix (.v 0) (.i 0)))) .nil)))
 .nil)))))))
def iW:FE:=⟨.f "_law_view" 3,"_law_view",cD 30,["_law_heap_here","_law_g","_law_cell","_law_masks_here","_law_digits","_law_mask_here","_law_one","_law_digit"],[6,1,2],9,[],fQ⟩
def fR:GK:=(.cons (.as (.nw true (.li .nil)) (.nm 1))
 (.cons (.fo (.e (.v 0)) (.nm 2)
 (.cons (.fo (.e (.v 1)) (.nm 3)
 (.cons (.as (.bi .min (.cons (.v 2) (.cons (.bin .BitXor (.v 2) (.v 3)) .nil))) (.nm 2))
 .nil))
 (.cons (.iff (.cmp .Gt (.v 2) (.i 0))
 (.cons (.ex (.mt .app (.v 1) (.cons (.v 2) .nil)))
 .nil)
 .nil)
 .nil)))
 (.cons (.rt (.bi .len (.cons (.v 1) .nil)))
 .nil)))
def iX:FE:=⟨.f "_law_rank" 1,"_law_rank",cD 25,["_law_masks_here","_law_rows","_law_mask_here","_law_row"],[],3,[],fR⟩
def gN:GK:=(.cons (.rt (.nw true (.lc 1 (.r1 (.v 0)) (.nm 2) (.so (.cmp .NotEq (.bin .BitAnd (.v 1) (.bin .LShift (.i 1) (.v 2))) (.i 0))) (.v 2))))
 .nil)
def j1:FE:=⟨.f "names_in" 2,"names_in",cD 1,["n","group"],[],3,[],gN⟩
def gL:GK:=(.cons (.as (.nw true (.li .nil)) (.nm 2))
 (.cons (.fo (.e (.ca false 0 (.cons (.bi .len (.cons (.ix (.v 0) (.i 1)) .nil)) (.cons (.v 1) .nil)))) (.nm 3)
 (.cons (.ex (.mt .ext (.v 2) (.cons (.ix (.ix (.v 0) (.i 1)) (.v 3)) .nil)))
 .nil))
 (.cons (.rt (.v 2))
 .nil)))
def j0:FE:=⟨.f "views_of" 2,"views_of",cD 3,["heap","g","found","name"],[9],6,[],gL⟩
def lB:GK:=(.cons (.rt (.bi .sum (.cons (.nw false (.lc 1 (.e (.v 0)) (.nm 1) .no (.bin .LShift (.i 1) (.v 1)))) .nil)))
 .nil)
def lm:FE:=⟨.f "mask_of" 1,"mask_of",cD 5,["view"],[],3,[],lB⟩
def fg:GK:=(.cons (.fo (.e (.v 0)) (.tu 3 (.cons (.nm 3) (.cons (.nm 4) (.cons (.nm 5) .nil))))
 (.cons (.iff (.cmp .NotEq (.bin .BitAnd (.v 1) (.v 3)) (.i 0))
 (.cons (.as (.bin .BitXor (.v 1) (.v 4)) (.nm 1))
 (.cons (.as (.bin .BitXor (.v 2) (.v 5)) (.nm 2))
 .nil))
 .nil)
 .nil))
 (.cons (.rt (.tu (.cons (.v 1) (.cons (.v 2) .nil))))
 .nil))
def hV:FE:=⟨.f "less_lines" 3,"less_lines",cD 6,["lines","mask","made","lead","other","how"],[],3,[],fg⟩
def fM:GK:=(.cons (.as (.bin .LShift (.i 1) (.bin .Sub (.mt .bl (.v 1) .nil) (.i 1))) (.nm 3))
 (.cons (.as (.nw true (.li .nil)) (.nm 4))
 (.cons (.fo (.e (.v 0)) (.tu 3 (.cons (.nm 5) (.cons (.nm 6) (.cons (.nm 7) .nil))))
 (.cons (.iff (.cmp .NotEq (.bin .BitAnd (.v 6) (.v 3)) (.i 0))
 (.cons (.ex (.mt .app (.v 4) (.cons (.tu (.cons (.v 5) (.cons (.bin .BitXor (.v 6) (.v 1)) (.cons (.bin .BitXor (.v 7) (.v 2)) .nil)))) .nil)))
 .nil)
 (.cons (.ex (.mt .app (.v 4) (.cons (.tu (.cons (.v 5) (.cons (.v 6) (.cons (.v 7) .nil)))) .nil)))
 .nil))
 .nil))
 (.cons (.rt (.nw false (.cat (.v 4) (.nw false (.li (.cons (.tu (.cons (.v 3) (.cons (.v 1) (.cons (.v 2) .nil)))) .nil))))))
 .nil))))
def iS:FE:=⟨.f "with_line" 3,"with_line",cD 7,["lines","mask","made","lead","changed","other","there","how"],[],3,[],fM⟩
def gO:GK:=(.cons (.as (.nw false (.li .nil)) (.nm 1))
 (.cons (.fo (.en (.v 0)) (.tu 2 (.cons (.nm 2) (.cons (.nm 3) .nil)))
 (.cons (.as (.ca true 1 (.cons (.v 1) (.cons (.ca true 0 (.cons (.v 3) .nil)) (.cons (.bin .LShift (.i 1) (.v 2)) .nil)))) (.nm 4))
 (.cons (.iff (.cmp .NotEq (.ix (.v 4) (.i 0)) (.i 0))
 (.cons (.as (.ca true 2 (.cons (.v 1) (.cons (.ix (.v 4) (.i 0)) (.cons (.ix (.v 4) (.i 1)) .nil)))) (.nm 1))
 .nil)
 .nil)
 .nil)))
 (.cons (.rt (.v 1))
 .nil)))
def j2:FE:=⟨.f "lines_of" 1,"lines_of",cD 8,["views","lines","place","view","left"],[11,12,13],6,[],gO⟩
def fN:GK:=(.cons (.as (.nw true (.li .nil)) (.nm 2))
 (.cons (.fo (.e (.ca false 0 (.cons (.bi .len (.cons (.ix (.v 0) (.i 1)) .nil)) (.cons (.v 1) .nil)))) (.nm 3)
 (.cons (.ex (.mt .ext (.v 2) (.cons (.nw false (.lc 1 (.r1 (.bi .len (.cons (.ix (.ix (.v 0) (.i 1)) (.v 3)) .nil))) (.nm 4) .no (.tu (.cons (.v 3) (.cons (.v 4) .nil))))) .nil)))
 .nil))
 (.cons (.rt (.v 2))
 .nil)))
def iT:FE:=⟨.f "places_of" 2,"places_of",cD 4,["heap","g","found","name"],[9],6,[],fN⟩
def dX:GK:=(.cons (.as (.bin .LShift (.i 1) (.bin .Sub (.mt .bl (.v 1) .nil) (.i 1))) (.nm 2))
 (.cons (.rt (.bin .Add (.v 2) (.bi .sum (.cons (.nw false (.lc 3 (.e (.v 0)) (.tu 3 (.cons (.nm 3) (.cons (.nm 4) (.cons (.nm 5) .nil)))) (.so (.cmp .NotEq (.bin .BitAnd (.v 4) (.v 2)) (.i 0))) (.v 3))) .nil))))
 .nil))
def gg:FE:=⟨.f "turned_coins" 2,"turned_coins",cD 9,["lines","left","coin"],[],3,[],dX⟩
def kQ:GK:=(.cons (.as (.ca true 1 (.cons (.ca true 0 (.cons (.v 0) (.cons (.v 1) .nil))) .nil)) (.nm 3))
 (.cons (.as (.ca true 3 (.cons (.v 3) (.cons (.ca true 2 (.cons (.v 2) .nil)) (.cons (.i 0) .nil)))) (.nm 4))
 (.cons (.iff (.cmp .Eq (.ix (.v 4) (.i 0)) (.i 0))
 (.cons (.rt (.tu (.cons (.s "known") (.cons (.nw true (.lc 2 (.en (.ca true 4 (.cons (.v 0) (.cons (.v 1) .nil)))) (.tu 2 (.cons (.nm 5) (.cons (.nm 6) .nil))) (.so (.cmp .NotEq (.bin .BitAnd (.ix (.v 4) (.i 1)) (.bin .LShift (.i 1) (.v 5))) (.i 0))) (.v 6))) .nil))))
 .nil)
 .nil)
 (.cons (.rt (.tu (.cons (.s "open") (.cons (.ca false 6 (.cons (.ix (.v 0) (.i 0)) (.cons (.ca true 5 (.cons (.v 3) (.cons (.ix (.v 4) (.i 0)) .nil))) .nil))) .nil))))
 .nil))))
def ox:FE:=⟨.f "known" 3,"known",cD 10,["heap","g","view","lines","left"],[10,14,11,12,15,16,9],9,[],kQ⟩
def fi:GK:=(.cons (.rt (.an (.is "int" (.v 0)) (.no (.is "bool" (.v 0)))))
 .nil)
def hW:FE:=⟨.f "_law_whole" 1,"_law_whole",cD 28,["_law_found"],[],3,[],fi⟩
def gP:GK:=(.cons (.rt (.cmp .Eq (.bin .Mod (.bi .len (.cons (.ca true 0 (.cons (.v 0) .nil)) .nil)) (.i 2)) (.i 1)))
 .nil)
def j4:FE:=⟨.f "_law_odd" 1,"_law_odd",cD 29,["_law_mask_here"],[2],6,[],gP⟩
def fj:GK:=(.cons (.iff (.or (.no (.va (.is "tuple" (.v 3)))) (.or (.cmp .NotEq (.bi .len (.cons (.v 3) .nil)) (.i 2)) (.no (.va (.is "list" (.ix (.v 3) (.i 1)))))))
 (.cons (.rt (.b false))
 .nil)
 .nil)
 (.cons (.as (.ix (.v 3) (.i 1)) (.nm 4))
 (.cons (.iff (.cmp .NotEq (.nw false (.lc 1 (.r2 (.i 1) (.bi .len (.cons (.v 4) .nil))) (.nm 11) (.so (.no (.cmp .Lt (.ix (.v 4) (.bin .Sub (.v 11) (.i 1))) (.ix (.v 4) (.v 11))))) (.v 11))) (.nw false (.li .nil)))
 (.cons (.rt (.b false))
 .nil)
 .nil)
 (.cons (.iff (.cmp .Eq (.ix (.v 3) (.i 0)) (.s "known"))
 (.cons (.as (.i 0) (.nm 5))
 (.cons (.fo (.e (.v 4)) (.nm 6)
 (.cons (.iff (.or (.no (.va (.is "tuple" (.v 6)))) (.or (.cmp .NotEq (.bi .len (.cons (.v 6) .nil)) (.i 2)) (.or (.no (.va (.ca true 0 (.cons (.ix (.v 6) (.i 0)) .nil)))) (.no (.va (.ca true 0 (.cons (.ix (.v 6) (.i 1)) .nil)))))))
 (.cons (.rt (.b false))
 .nil)
 .nil)
 (.cons (.as (.v 6) (.tu 2 (.cons (.nm 7) (.cons (.nm 8) .nil))))
 (.cons (.iff (.or (.no (.ch .LtE .Lt (.i 0) (.v 7) (.bi .len (.cons (.ix (.v 0) (.i 1)) .nil)))) (.cmp .NotEq (.bin .Mod (.bin .FloorDiv (.v 1) (.bin .LShift (.i 1) (.v 7))) (.i 2)) (.i 1)))
 (.cons (.rt (.b false))
 .nil)
 .nil)
 (.cons (.iff (.no (.ch .LtE .Lt (.i 0) (.v 8) (.bi .len (.cons (.ix (.ix (.v 0) (.i 1)) (.v 7)) .nil))))
 (.cons (.rt (.b false))
 .nil)
 .nil)
 (.cons (.as (.bin .BitXor (.v 5) (.ca true 1 (.cons (.ix (.ix (.ix (.v 0) (.i 1)) (.v 7)) (.v 8)) .nil))) (.nm 5))
 .nil))))))
 (.cons (.rt (.cmp .Eq (.v 5) (.ca true 1 (.cons (.v 2) .nil))))
 .nil)))
 .nil)
 (.cons (.iff (.or (.cmp .NotEq (.ix (.v 3) (.i 0)) (.s "open")) (.cmp .In (.b false) (.nw false (.lc 1 (.e (.v 4)) (.nm 11) .no (.ca true 0 (.cons (.v 11) .nil))))))
 (.cons (.rt (.b false))
 .nil)
 .nil)
 (.cons (.iff (.cmp .NotEq (.nw false (.lc 1 (.e (.v 4)) (.nm 11) (.so (.no (.ch .LtE .Lt (.i 0) (.v 11) (.ix (.v 0) (.i 0))))) (.v 11))) (.nw false (.li .nil)))
 (.cons (.rt (.b false))
 .nil)
 .nil)
 (.cons (.as (.ca true 1 (.cons (.v 4) .nil)) (.nm 9))
 (.cons (.fo (.e (.ca true 2 (.cons (.v 0) (.cons (.v 1) .nil)))) (.nm 10)
 (.cons (.iff (.va (.ca true 3 (.cons (.bin .BitAnd (.v 10) (.v 9)) .nil)))
 (.cons (.rt (.b false))
 .nil)
 .nil)
 .nil))
 (.cons (.rt (.ca true 3 (.cons (.bin .BitAnd (.ca true 1 (.cons (.v 2) .nil)) (.v 9)) .nil)))
 .nil)))))))))
def hZ:FE:=⟨.f "_law_right" 4,"_law_right",cD 31,["_law_heap_here","_law_g","_law_view_here","_law_told","_law_row","_law_total","_law_one","_law_name","_law_number","_law_flipped","_law_mask_here"],[18,5,6,19],9,[],fj⟩
def fP:GK:=(.cons (.rt (.bi .all (.cons (.nw false (.lc 2 (.zi (.v 0) (.nw false (.sl (.v 0) (.so (.i 1)) .no))) (.tu 2 (.cons (.nm 1) (.cons (.nm 2) .nil))) .no (.cmp .Lt (.v 1) (.v 2)))) .nil)))
 .nil)
def iV:FE:=⟨.f "is_rising" 1,"is_rising",cD 11,["things"],[],3,[],fP⟩
def eK:GK:=(.cons (.iff (.or (.no (.va (.is "tuple" (.v 2)))) (.cmp .NotEq (.bi .len (.cons (.v 2) .nil)) (.i 2)))
 (.cons (.rt (.b false))
 .nil)
 .nil)
 (.cons (.as (.ix (.v 2) (.i 0)) (.nm 3))
 (.cons (.iff (.or (.cmp .Lt (.v 3) (.i 0)) (.or (.cmp .GtE (.v 3) (.bi .len (.cons (.ix (.v 0) (.i 1)) .nil))) (.cmp .Eq (.bin .BitAnd (.v 1) (.bin .LShift (.i 1) (.v 3))) (.i 0))))
 (.cons (.rt (.b false))
 .nil)
 .nil)
 (.cons (.rt (.an (.cmp .GtE (.ix (.v 2) (.i 1)) (.i 0)) (.cmp .Lt (.ix (.v 2) (.i 1)) (.bi .len (.cons (.ix (.ix (.v 0) (.i 1)) (.v 3)) .nil)))))
 .nil))))
def j3:FE:=⟨.f "is_place" 3,"is_place",cD 12,["heap","g","place","name"],[],3,[],eK⟩
def c7:GK:=(.cons (.iff (.or (.no (.va (.bi .all (.cons (.nw false (.lc 1 (.e (.v 3)) (.nm 7) .no (.ca true 1 (.cons (.v 0) (.cons (.v 1) (.cons (.v 7) .nil)))))) .nil)))) (.no (.va (.ca true 0 (.cons (.v 3) .nil)))))
 (.cons (.rt (.b false))
 .nil)
 .nil)
 (.cons (.as (.i 0) (.nm 4))
 (.cons (.fo (.e (.v 3)) (.tu 2 (.cons (.nm 5) (.cons (.nm 6) .nil)))
 (.cons (.as (.bin .BitXor (.v 4) (.ca true 2 (.cons (.ix (.ix (.ix (.v 0) (.i 1)) (.v 5)) (.v 6)) .nil))) (.nm 4))
 .nil))
 (.cons (.rt (.cmp .Eq (.v 4) (.ca true 2 (.cons (.v 2) .nil))))
 .nil))))
def fB:FE:=⟨.f "places_settle" 4,"places_settle",cD 13,["heap","g","view","places","together","name","number"],[21,22,11],6,[],c7⟩
def fE:GK:=(.cons (.rt (.an (.is "int" (.v 1)) (.an (.cmp .GtE (.v 1) (.i 0)) (.cmp .Lt (.v 1) (.ix (.v 0) (.i 0))))))
 .nil)
def lp:FE:=⟨.f "is_coin" 2,"is_coin",cD 14,["heap","coin"],[],3,[],fE⟩
def fO:GK:=(.cons (.rt (.cmp .Eq (.bin .Mod (.bi .len (.cons (.nw false (.lc 1 (.e (.v 0)) (.nm 2) (.so (.cmp .In (.v 2) (.v 1))) (.v 2))) .nil)) (.i 2)) (.i 1)))
 .nil)
def iU:FE:=⟨.f "is_turned" 2,"is_turned",cD 15,["view","coins"],[],3,[],fO⟩
def cX:GK:=(.cons (.iff (.or (.no (.va (.bi .all (.cons (.nw false (.lc 1 (.e (.v 3)) (.nm 4) .no (.ca true 1 (.cons (.v 0) (.cons (.v 4) .nil))))) .nil)))) (.no (.va (.ca true 0 (.cons (.v 3) .nil)))))
 (.cons (.rt (.b false))
 .nil)
 .nil)
 (.cons (.rt (.an (.ca true 3 (.cons (.v 2) (.cons (.v 3) .nil))) (.no (.bi .any (.cons (.nw false (.lc 1 (.e (.ca true 2 (.cons (.v 0) (.cons (.v 1) .nil)))) (.nm 4) .no (.ca true 3 (.cons (.v 4) (.cons (.v 3) .nil))))) .nil)))))
 .nil))
def fc:FE:=⟨.f "coins_unsettle" 4,"coins_unsettle",cD 16,["heap","g","view","coins"],[21,24,10,25],9,[],cX⟩
def dq:GK:=(.cons (.iff (.cmp .Eq (.ix (.v 3) (.i 0)) (.s "known"))
 (.cons (.rt (.ca true 0 (.cons (.v 0) (.cons (.v 1) (.cons (.v 2) (.cons (.ix (.v 3) (.i 1)) .nil))))))
 .nil)
 .nil)
 (.cons (.rt (.an (.cmp .Eq (.ix (.v 3) (.i 0)) (.s "open")) (.ca true 1 (.cons (.v 0) (.cons (.v 1) (.cons (.v 2) (.cons (.ix (.v 3) (.i 1)) .nil)))))))
 .nil))
def gU:FE:=⟨.f "known_holds" 4,"known_holds",cD 17,["heap","g","view","answer"],[23,26],12,[],dq⟩
def pL:GK:=(.cons (.fo (.r3 (.i 0) (.bi .max (.cons (.i 2) (.cons (.bi .min (.cons (.i 40) (.cons (.bin .Sub (.bi .len (.cons (.v 0) .nil)) (.i 1)) .nil))) .nil))) (.i 2)) (.nm 1)
 (.cons (.as (.ca true 0 (.cons (.v 0) (.cons (.v 1) .nil))) (.nm 2))
 (.cons (.as (.bin .Add (.i 1) (.bin .Mod (.v 2) (.i 4))) (.nm 3))
 (.cons (.as (.ca true 1 (.cons (.bin .FloorDiv (.v 2) (.i 4)) (.cons (.v 3) (.cons (.ix (.nw false (.li (.cons (.i 12) (.cons (.i 12) (.cons (.i 40) (.cons (.i 5) .nil)))))) (.bin .FloorDiv (.bin .Mod (.bin .FloorDiv (.v 2) (.i 4)) (.i 8)) (.i 2))) .nil)))) (.nm 4))
 (.cons (.as (.ca true 2 (.cons (.v 4) .nil)) (.nm 5))
 (.cons (.as (.ca true 0 (.cons (.v 0) (.cons (.bin .Add (.v 1) (.i 1)) .nil))) (.nm 6))
 (.cons (.as (.bin .Add (.i 1) (.bin .Mod (.v 6) (.bin .Sub (.bin .LShift (.i 1) (.v 3)) (.i 1)))) (.nm 7))
 (.cons (.as (.ca true 3 (.cons (.v 5) (.cons (.v 7) (.cons (.bin .FloorDiv (.v 6) (.i 16)) .nil)))) (.nm 8))
 (.cons (.as (.nw false (.lof (.v 8))) (.nm 9))
 (.cons (.as (.ca true 4 (.cons (.v 5) (.cons (.v 7) .nil))) (.nm 10))
 (.cons (.as (.ix (.nw false (.li (.cons (.s "open") (.cons (.s "known") .nil)))) (.bi .int (.cons (.cmp .Eq (.ca true 5 (.cons (.v 10) .nil)) (.ca true 5 (.cons (.nw false (.cat (.v 10) (.nw false (.li (.cons (.ca true 6 (.cons (.v 8) .nil)) .nil))))) .nil))) .nil))) (.nm 11))
 (.cons (.as (.ix (.nw false (.li (.cons (.s "known") (.cons (.s "open") .nil)))) (.bi .int (.cons (.cmp .Eq (.v 11) (.s "known")) .nil))) (.nm 12))
 (.cons (.fo (.r1 (.i 2)) (.nm 13)
 (.cons (.as (.ca false 7 (.cons (.v 4) (.cons (.v 7) (.cons (.v 9) .nil)))) (.nm 14))
 (.cons (.iff (.or (.no (.va (.ca true 8 (.cons (.v 5) (.cons (.v 7) (.cons (.v 8) (.cons (.v 14) .nil))))))) (.or (.cmp .NotEq (.ix (.v 14) (.i 0)) (.v 11)) (.or (.cmp .NotEq (.v 4) (.v 5)) (.cmp .NotEq (.v 9) (.v 8)))))
 (.cons (.rt (.b false))
 .nil)
 .nil)
 (.cons (.iff (.cmp .IsNot (.ca true 9 (.cons (.v 4) (.cons (.v 7) (.cons (.v 9) (.cons (.v 14) .nil))))) (.b true))
 (.cons (.rt (.b false))
 .nil)
 .nil)
 (.cons (.iff (.cmp .IsNot (.ca true 9 (.cons (.v 4) (.cons (.v 7) (.cons (.v 9) (.cons (.tu (.cons (.v 12) (.cons (.nw false (.lof (.ix (.v 14) (.i 1)))) .nil))) .nil))))) (.b false))
 (.cons (.rt (.b false))
 .nil)
 .nil)
 (.cons (.ex (.mt .app (.ix (.v 14) (.i 1)) (.cons (.ix (.v 14) (.i 1)) .nil)))
 .nil))))))
 .nil)))))))))))))
 (.cons (.rt (.b true))
 .nil))
def e_law:FE:=⟨.f "law" 1,"law",cD 32,["_law_script","_law_k","_law_cell","_law_n","_law_heap_here","_law_kept","_law_more","_law_g","_law_view_here","_law_handed","_law_masks_here","_law_due","_law_other","_law_time","_law_told"],[0,3,4,7,6,8,5,17,20,27],15,[],pL⟩
noncomputable def gs:List (Str × AV):=[]
noncomputable def cl:List (Str × List Str):=[]
noncomputable def pre:List FE:=[gh,ic,i5,i3,i4,iY,ia,iW,iX,j1,j0,lm,hV,iS,j2,iT,gg,ox,hW,j4,hZ,iV,j3,fB,lp,iU,fc,gU]
theorem xz:ie gs cl [] pre=true:=by decide +kernel
theorem xA:e_law.chk gs cl pre=true:=by decide +kernel
instance:GG:=⟨[]⟩
theorem za {K:Frag}{h:Heap}{mg:Str->Option Value} (X:K.In h) (G:h.Ns mainGlobals mg) (GP:FactF K "_law_cell_at" gh) (GV:FactF K "_law_draws" ic) (G3:FactF K "_law_bits" i5) (G0:FactF K "_law_heap" i3) (G5:FactF K "_law_copy" i4) (GZ:FactF K "_law_mask" iY) (GT:FactF K "_law_masks" ia) (G1:FactF K "_law_view" iW) (G7:FactF K "_law_rank" iX) (G9:FactF K "names_in" j1) (Hc:FactF K "views_of" j0) (He:FactF K "mask_of" lm) (GW:FactF K "less_lines" hV) (GY:FactF K "with_line" iS) (Hb:FactF K "lines_of" j2) (G4:FactF K "places_of" iT) (GO:FactF K "turned_coins" gg) (Hf:FactF K "known" ox) (GU:FactF K "_law_whole" hW) (Ha:FactF K "_law_odd" j4) (GX:FactF K "_law_right" hZ) (G2:FactF K "is_rising" iV) (G8:FactF K "is_place" j3) (GN:FactF K "places_settle" fB) (Hd:FactF K "is_coin" lp) (G6:FactF K "is_turned" iU) (GM:FactF K "coins_unsettle" fc) (GR:FactF K "known_holds" gU):∀ base:Heap,K.In base->iu mg base->∀ e ∈ pre,e.ok K mg base:=by
 intro base B hb e he;simp only [pre,zT,zX,or_false] at he;rcases he with rfl | rfl | rfl | rfl | rfl | rfl | rfl | rfl | rfl | rfl | rfl | rfl | rfl | rfl | rfl | rfl | rfl | rfl | rfl | rfl | rfl | rfl | rfl | rfl | rfl | rfl | rfl | rfl
 ·exact FactF.ok rfl GP X G B hb
 ·exact FactF.ok rfl GV X G B hb
 ·exact FactF.ok rfl G3 X G B hb
 ·exact FactF.ok rfl G0 X G B hb
 ·exact FactF.ok rfl G5 X G B hb
 ·exact FactF.ok rfl GZ X G B hb
 ·exact FactF.ok rfl GT X G B hb
 ·exact FactF.ok rfl G1 X G B hb
 ·exact FactF.ok rfl G7 X G B hb
 ·exact FactF.ok rfl G9 X G B hb
 ·exact FactF.ok rfl Hc X G B hb
 ·exact FactF.ok rfl He X G B hb
 ·exact FactF.ok rfl GW X G B hb
 ·exact FactF.ok rfl GY X G B hb
 ·exact FactF.ok rfl Hb X G B hb
 ·exact FactF.ok rfl G4 X G B hb
 ·exact FactF.ok rfl GO X G B hb
 ·exact FactF.ok rfl Hf X G B hb
 ·exact FactF.ok rfl GU X G B hb
 ·exact FactF.ok rfl Ha X G B hb
 ·exact FactF.ok rfl GX X G B hb
 ·exact FactF.ok rfl G2 X G B hb
 ·exact FactF.ok rfl G8 X G B hb
 ·exact FactF.ok rfl GN X G B hb
 ·exact FactF.ok rfl Hd X G B hb
 ·exact FactF.ok rfl G6 X G B hb
 ·exact FactF.ok rfl GM X G B hb
 ·exact FactF.ok rfl GR X G B hb
def aX:Fn:=run 2 (ao [] dY)
def aL:Fn:=run 7 (ao [] fq)
def aU:Fn:=run 1 (ao [] fU)
def bo:Fn:=run 11 (ao [aL,aU] fS)
def bw:Fn:=run 1 (ao [] fT)
def ah:Fn:=run 1 (ao [] i9)
def av:Fn:=run 4 (ao [ah] fm)
def bn:Fn:=run 8 (ao [av,aL,aU] fQ)
def aA:Fn:=run 4 (ao [] fR)
def br:Fn:=run 2 (ao [] gN)
def bq:Fn:=run 4 (ao [br] gL)
def be:Fn:=run 1 (ao [] lB)
def bg:Fn:=run 6 (ao [] fg)
def cc:Fn:=run 8 (ao [] fM)
def cG:Fn:=run 5 (ao [be,bg,cc] gO)
def cv:Fn:=run 4 (ao [br] fN)
def b7:Fn:=run 3 (ao [] dX)
def cw:Fn:=run 5 (ao [bq,cG,be,bg,cv,b7,br] kQ)
def bN:Fn:=run 1 (ao [] fi)
def ce:Fn:=run 1 (ao [aU] gP)
def a9:Fn:=run 11 (ao [bN,ah,av,ce] fj)
def aT:Fn:=run 1 (ao [] fP)
def bY:Fn:=run 4 (ao [] eK)
def bj:Fn:=run 7 (ao [aT,bY,be] c7)
def bT:Fn:=run 2 (ao [] fE)
def bB:Fn:=run 2 (ao [] fO)
def bu:Fn:=run 4 (ao [aT,bT,bq,bB] cX)
def aI:Fn:=run 4 (ao [bj,bu] dq)
def km:Fn:=run 15 (ao [aX,bo,bw,bn,av,aA,ah,cw,a9,aI] pL)
def Fs:List Fn:=[aX,aL,aU,bo,bw,ah,av,bn,aA,br,bq,be,bg,cc,cG,cv,b7,cw,bN,ce,a9,aT,bY,bj,bT,bB,bu,aI]
theorem aF {fs:List Fn}{e:FE}{r:List FE}{F:Fn} (h:e.fn fs=F):fy fs (e::r)=fy (fs++[F]) r:=by rw [<- h];rfl
theorem CQ:fy [] pre=Fs:=(aF (F:=aX) rfl).trans <| (aF (F:=aL) rfl).trans <| (aF (F:=aU) rfl).trans <| (aF (F:=bo) rfl).trans <| (aF (F:=bw) rfl).trans <| (aF (F:=ah) rfl).trans <| (aF (F:=av) rfl).trans <| (aF (F:=bn) rfl).trans <| (aF (F:=aA) rfl).trans <| (aF (F:=br) rfl).trans <| (aF (F:=bq) rfl).trans <| (aF (F:=be) rfl).trans <| (aF (F:=bg) rfl).trans <| (aF (F:=cc) rfl).trans <| (aF (F:=cG) rfl).trans <| (aF (F:=cv) rfl).trans <| (aF (F:=b7) rfl).trans <| (aF (F:=cw) rfl).trans <| (aF (F:=bN) rfl).trans <| (aF (F:=ce) rfl).trans <| (aF (F:=a9) rfl).trans <| (aF (F:=aT) rfl).trans <| (aF (F:=bY) rfl).trans <| (aF (F:=bj) rfl).trans <| (aF (F:=bT) rfl).trans <| (aF (F:=bB) rfl).trans <| (aF (F:=bu) rfl).trans <| (aF (F:=aI) rfl).trans <| rfl
theorem Cu:e_law.fn (fy [] pre)=km:=by rw [CQ];rfl
def DW:Fn:=km
end LW
namespace LW
open PySem PySem.Spec L2 R
section
variable {st:aa}
theorem EI {k:Nat} (hk:k <= 1000):ku 1 (k:Int)=true:=by
 unfold ku;have:Nat.ble (k:Int).natAbs 100000=true:=yI oM;rw [this];simp;decide
theorem dy {k:Nat} (hk:k <= 1000):bM .LShift st (.int 1) (.int (k:Int))=some (.int ((2 ^ k:Nat):Int)):=by
 show (jv .LShift 1 (k:Int)).map AV.int=_;simp only [jv,EI hk,_root_.if_true,map_some];congr 2;simp
theorem CY {k:Nat} (hk:k <= 1000):gJ ((2 ^ k:Nat):Int)=true:=by
 unfold gJ;have h1:(((2 ^ k:Nat):Int) == 0)=false:=by
  have:=Nat.two_pow_pos k
  rw [beq_eq_false_iff_ne];omega
 have h2:Nat.ble (((2 ^ k:Nat):Int).natAbs.log2) 8999=true:=yI (by rw [Int.natAbs_natCast,Nat.log2_two_pow];omega);rw [h1,h2];rfl
theorem mU {m k:Nat} (hk:k <= 1000):bM .FloorDiv st (.int (m:Int)) (.int ((2 ^ k:Nat):Int))=some (.int ((m / 2 ^ k:Nat):Int)):=by
 rw [iM (CY hk)]
 have:=Nat.two_pow_pos k
 rw [show ou (m:Int) ((2 ^ k:Nat):Int)=(m:Int) / ((2 ^ k:Nat):Int) from yF oM];rfl
theorem kD {m:Nat}:bM .Mod st (.int (m:Int)) (.int 2)=some (.int ((m % 2:Nat):Int)):=by
 rw [dJ dC,show ot (m:Int) 2=(m:Int) % 2 from yF dC];rfl
theorem mT {m k:Nat}:decide (((m / 2 ^ k % 2:Nat):Int)=1)=m.testBit k:=by
 rw [Nat.testBit_eq_decide_div_mod_eq];apply decide_eq_decide.mpr;omega
noncomputable def bX (m:Nat):List Nat:=(List.range 41).filter fun i=>m.testBit i
theorem oF {g k:Nat}:(g &&& 2 ^ k=0) ↔ g.testBit k=false:=by
 have key:(g &&& 2 ^ k).testBit k=g.testBit k:=by rw [Nat.testBit_and,Nat.testBit_two_pow_self,Bool.and_true]
 constructor
 ·intro h;rw [<- key,h,Nat.zero_testBit]
 ·intro h
  apply Nat.eq_of_testBit_eq;intro i;rw [Nat.testBit_and,Nat.testBit_two_pow,Nat.zero_testBit];by_cases e:k=i
  ·subst e;rw [h];rfl
  ·simp [e]
theorem fI {α:Type}{ks:List Fn}{k:Nat}{it:Ix}{t:Tg}{c:Cx'}{e:Ex}{sl:Sl}{gd:Gd}{em:α->AV}{B:α->Bool}{F:α->AV}{xs:List α} (hi:b8 ks it sl st=some (⟨xs.map em,gd⟩,st)) (hg:bW gd st=true) (hz:xs.length <= 1000)
  (h:∀ x ∈ xs,∃ sl1,cU ks t (em x) (sl++List.replicate k none) st=some (sl1,st)/\mN ks c sl1 st=some (B x,st)/\(B x=true->ev ks e sl1 st=some (F x,st))):fA ks (.lc k it t c e) sl st=some ((xs.filter B).map F,st):=by
 rw [EN,hi,bind_some];dsimp only;rw [yF (iw (by rw [zH];exact hz))];exact n6 hg h
theorem ft {ks:List Fn}{a:Ex}{sl:Sl}{n:Nat} (h:ev ks a sl st=some (.int (n:Int),st)) (hn:n <= 1000):b8 ks (.r1 a) sl st=some (⟨(List.range n).map fun q:Nat=>AV.int (q:Int),[]⟩,st):=by
 show (ev ks a sl st).bind _=_;rw [h,bind_some];dsimp only;have:eu (n:Int)=true:=by
  unfold eu;refine yI ?_;rw [Int.natAbs_natCast];by_cases hz:n=0
  ·subst hz;decide
  ·exact yR ((Nat.log2_lt hz).mpr (Nat.lt_of_le_of_lt hn dC))
 rw [yF this,Int.toNat_natCast,BO];rfl
theorem mS {m:Nat}:pm aU [.int (m:Int)] st=some (.fz (nL (bX m)),st):=by
 refine aO rfl (v:=.fz (nL (bX m))) (st':=[]) ?_ rfl;rw [aU,bd];show (ao [] fU [some (.int (m:Int))] []).bind aw=_;refine aW ?_;rw [bP,cC,fI (ft (n:=41) rfl dC) rfl dC (B:=fun q=>m.testBit q) (F:=fun q=>AV.int (q:Int)) fun q hq=>⟨[some (.int (m:Int)),some (.int (q:Int))],rfl,by
   have hq:=List.mem_range.mp hq;simp only [jt,a7,aK,ar,aH,ai,ak,bind_some,dy (show q <= 1000 by omega),mU (show q <= 1000 by omega),kD,map_some,dW,mT],fun _=>rfl⟩]
 have hr:rfs (nL (bX m))=true:=cj;show (Option.bind (if rfs (nL (bX m))=true then some (AV.fz (nL (bX m)),([]:aa)) else none) _)=_;rw [yF hr];rfl
theorem nX {n g:Nat} (hn:n <= 100):br [.int (n:Int),.int (g:Int)] st=some (.ref st.length,st++[.lst (nL ((List.range n).filter fun i=>g.testBit i))]):=by
 have ba:∀ k:Nat,bM .BitAnd st (.int (g:Int)) (.int ((2 ^ k:Nat):Int))=some (.int ((g &&& 2 ^ k:Nat):Int)):=fun k=>by
  show some (AV.int (Builtin.bitAnd (g:Int) ((2 ^ k:Nat):Int)))=_;rfl
 have te:∀ k:Nat,(!decide (((g &&& 2 ^ k:Nat):Int)=0))=g.testBit k:=fun k=>by
  have:(g &&& 2 ^ k=0) ↔ g.testBit k=false:=oF;cases h:g.testBit k
  ·rw [this.mpr h];rfl
  ·have:¬ g &&& 2 ^ k=0:=fun z=>by rw [this.mp z] at h;cases h
   rw [z5 oM];rfl
 rw [br,bd];show (ao [] gN [some (.int (n:Int)),some (.int (g:Int))] st).bind aw=_;refine aW ?_;rw [bP,xP,fI (ft (n:=n) rfl oM) rfl (by rw [List.length_range];omega) (B:=fun q=>g.testBit q) (F:=fun q=>AV.int (q:Int)) fun q hq=>⟨[some (.int (n:Int)),some (.int (g:Int)),some (.int (q:Int))],rfl,by
   have hq:=List.mem_range.mp hq;simp only [jt,a7,aK,ar,aH,ai,ak,bind_some,dy (show q <= 1000 by omega),ba,map_some,fL,te],fun _=>rfl⟩]
 rfl
noncomputable def S2 (l:List Nat):Nat:=(l.map fun c=>2 ^ c).sum
theorem p9 {l:List Nat}:lY st [.fz (nL l)]=some (.int ((l.sum:Nat):Int)):=by
 show (lsI st (.fz (nL l))).map _=_;have:lsI st (.fz (nL l))=some (l.map fun q:Nat=>(q:Int)):=by unfold lsI;rw [dE,bind_some,xm]
 rw [this];have:∀ l:List Nat,(l.map fun q:Nat=>(q:Int)).sum=((l.sum:Nat):Int):=fun l=>by
  induction l with
  | nil=>rfl
  | cons x l ih=>rw [zO,List.sum_cons,List.sum_cons,ih];omega
 simp only [map_some,this]
theorem qM {l:List Nat} (hl:∀ c ∈ l,c <= 1000) (hz:l.length <= 1000):pm be [.fz (nL l)] st=some (.int ((S2 l:Nat):Int),st)/\pm ah [.fz (nL l)] st=some (.int ((S2 l:Nat):Int),st):=by
 have go:ev ([]:List Fn) (.nw false (.lc 1 (.e (.v 0)) (.nm 1) .no (.bin .LShift (.i 1) (.v 1)))) [some (.fz (nL l))] []=some (.fz (nL (l.map fun c=>2 ^ c)),[]):=by
  have hi:b8 ([]:List Fn) (.e (.v 0)) [some (.fz (nL l))] []=some (⟨l.map fun q:Nat=>AV.int (q:Int),[]⟩,[]):=rfl;rw [cC,fI hi rfl hz (B:=fun _=>true) (F:=fun q=>AV.int ((2 ^ q:Nat):Int)) fun q hq=>⟨[some (.fz (nL l)),some (.int (q:Int))],rfl,rfl,fun _=>by
   simp only [aK,ar,aH,ai,ak,bind_some,dy (hl q hq),map_some]⟩]
  rw [List.filter_eq_self.mpr fun _ _=>rfl];have:(l.map fun q=>AV.int ((2 ^ q:Nat):Int))=nL (l.map fun c=>2 ^ c):=by unfold nL;rw [List.map_map];rfl
  rw [this,bind_some];dsimp only;rw [yF cj]
 have rt:∀ sl:Sl,sl=[some (.fz (nL l))]->cK ([]:List Fn) (.rt (.bi .sum (.cons (.nw false (.lc 1 (.e (.v 0)) (.nm 1) .no (.bin .LShift (.i 1) (.v 1)))) .nil))) sl []=some (.rt (.int ((S2 l:Nat):Int)) []):=fun sl hs=>by
  subst hs;simp only [bP,bG,ab,ag,go,bind_some,rK,bI,p9,map_some];rfl
 constructor
 ·refine aO (by simp [rfs,rf,u4]) (v:=.int _) (st':=[]) ?_ rfl
  rw [be,bd];exact aW (rt _ rfl)
 ·refine aO (by simp [rfs,rf,u4]) (v:=.int _) (st':=[]) ?_ rfl
  rw [ah,bd];exact aW (rt _ rfl)
end
section
variable {ks:List Fn}{sl:Sl}{st:aa}{ss:GK}{P:AV × aa->Prop}
theorem bH {s:Sx}{v:AV}{st':aa} (h:cK ks s sl st=some (.rt v st')) (hp:P (v,st')):∃ r,(ao ks (.cons s ss) sl st).bind aw=some r/\P r:=⟨_,aW h,hp⟩
theorem gW {α:Type}{em:α->AV}{it:Ix}{t:Tg}{b:GK}{xs:List α}{gd:Gd}{st0:aa} (I:Nat->Sl->aa->Prop) (hi:b8 ks it sl st=some (⟨xs.map em,gd⟩,st0)) (hg:∀ i sl st,I i sl st->bW gd st=true) (h0:I 0 sl st0)
  (h:∀ i x sl st,xs[i]?=some x->I i sl st->∃ p sl2 st2,cU ks t (em x) sl st=some p/\ao ks b p.1 p.2=some (.nx sl2 st2)/\I (i + 1) sl2 st2)
  (hr:∀ sl' st',I xs.length sl' st'->∃ r,(ao ks ss sl' st').bind aw=some r/\P r):∃ r,(ao ks (.cons (.fo it t b) ss) sl st).bind aw=some r/\P r:=by
 obtain ⟨sl',st',e,hI⟩:=oq (gd:=gd) (g:=cU ks t) (s:=ao ks b) (I:=I) (xs:=xs.map em) (fun i sl st _ hI=>hg i sl st hI) (fun i y sl st hy hI=>by
  rw [zR] at hy;obtain ⟨x,hx,rfl⟩:=zE.mp hy;exact h i x sl st hx hI) h0
 rw [zH] at hI;obtain ⟨r,e2,hp⟩:=hr sl' st' hI;exact ⟨r,bV (by rw [x5,hi,bind_some];exact e) e2,hp⟩
theorem oI {α:Type}{em:α->AV}{it:Ix}{t:Tg}{b:GK}{xs:List α}{gd:Gd}{st0:aa}{Q:Out->Prop} (I:Nat->Sl->aa->Prop) (hi:b8 ks it sl st=some (⟨xs.map em,gd⟩,st0)) (hg:∀ i sl st,I i sl st->bW gd st=true) (h0:I 0 sl st0)
  (h:∀ i x sl st,xs[i]?=some x->I i sl st->∃ p sl2 st2,cU ks t (em x) sl st=some p/\ao ks b p.1 p.2=some (.nx sl2 st2)/\I (i + 1) sl2 st2)
  (hr:∀ sl' st',I xs.length sl' st'->∃ r,ao ks ss sl' st'=some r/\Q r):∃ r,ao ks (.cons (.fo it t b) ss) sl st=some r/\Q r:=by
 obtain ⟨sl',st',e,hI⟩:=oq (gd:=gd) (g:=cU ks t) (s:=ao ks b) (I:=I) (xs:=xs.map em) (fun i sl st _ hI=>hg i sl st hI) (fun i y sl st hy hI=>by
  rw [zR] at hy;obtain ⟨x,hx,rfl⟩:=zE.mp hy;exact h i x sl st hx hI) h0
 rw [zH] at hI;obtain ⟨r,e2,hp⟩:=hr sl' st' hI;exact ⟨r,aq (by rw [x5,hi,bind_some];exact e) e2,hp⟩
theorem bO {s:Sx}{sl':Sl}{st':aa}{Q:Out->Prop} (h:cK ks s sl st=some (.nx sl' st')) (h2:∃ r,ao ks ss sl' st'=some r/\Q r):∃ r,ao ks (.cons s ss) sl st=some r/\Q r:=by
 obtain ⟨r,e,q⟩:=h2;exact ⟨r,aq h e,q⟩
end
section
variable {st:aa}
theorem mY (m:Nat):∀ n,S2 ((List.range n).filter fun i=>m.testBit i)=m % 2 ^ n:=by
 intro n
 induction n with
 | zero=>simp [S2,Nat.mod_one]
 | succ n ih =>
  rw [List.range_succ,List.filter_append];unfold S2 at ih ⊢;rw [List.map_append,List.sum_append,ih,Nat.pow_succ,Nat.mod_mul];have hb:m.testBit n=decide (m / 2 ^ n % 2=1):=Nat.testBit_eq_decide_div_mod_eq;have:m / 2 ^ n % 2=0\/m / 2 ^ n % 2=1:=by omega
  rcases this with h | h <;> simp [List.filter_cons,hb,h]
theorem Bt {m:Nat} (h:m < 2 ^ 41):S2 (bX m)=m:=by unfold bX;rw [mY,Nat.mod_eq_of_lt h]
theorem Bj {m:Nat}:∀ c ∈ bX m,c < 41:=fun c hc=>List.mem_range.mp (List.mem_filter.mp hc).1
theorem oA {m:Nat}:(bX m).length <= 41:=by unfold bX;exact z0 (List.length_filter_le ..) (by simp)
theorem dD {m:Nat} (h:m < 2 ^ 41):pm be [.fz (nL (bX m))] st=some (.int (m:Int),st)/\pm ah [.fz (nL (bX m))] st=some (.int (m:Int),st):=by
 have:=qM (st:=st) (l:=bX m) (fun c hc=>by have:=Bj c hc;omega) (by have:=oA (m:=m);omega)
 rw [Bt h] at this;exact this
theorem rp {ns:List Int}{k:Nat}:pm aX [.fz (iL ns),.int (k:Int)] st=some (.int (SX.gI ns k),st):=by
 refine aO (by simp [rfs,rf,CK]) (v:=.int (SX.gI ns k)) (st':=[]) ?_ rfl;rw [aX,bd];show (ao [] dY [some (.fz (iL ns)),some (.int (k:Int))] []).bind aw=_;by_cases h:k < ns.length
 ·refine aW (s:=.iff _ _ _) ?_
  have hl:decide ((k:Int) < ((ns.length:Nat):Int))=true:=yP oM;have xi:cB ([]:aa) (.fz (iL ns)) (.int (k:Int))=some (.int (SX.gI ns k)):=by rw [iF dE,gp,xl h]
  simp [bI,dF,h,xi,nU]
 ·have hg:SX.gI ns k=0:=by unfold SX.gI;rw [zD,List.getElem?_eq_none oM];rfl
  refine bV (sl':=[some (.fz (iL ns)),some (.int (k:Int))]) (st':=[]) ?_ (aW (by rw [hg];rfl));simp [bI,dF,h]
theorem fH {ks:List Fn}{a e:Ex}{sl:Sl}{y:AV}{xs:List AV}{k:Nat} (h1:ev ks a sl st=some (.ref k,st)) (h2:ev ks e sl st=some (y,st)) (h3:st[k]?=some (.lst xs)) (hl:xs.length <= 1000):cK ks (.ex (.mt .app a (.cons e .nil))) sl st=some (.nx sl (st.set k (.lst (xs++[y])))):=by
 simp [kh,qL,qK,h1,pU,jN h3,h2,pq,gK,h3,iw hl]
theorem gz {a b:Int} (h:a.natAbs < 2 ^ 62):c4 a b=true:=by
 unfold c4;have:Nat.ble a.natAbs.log2 62=true:=yI (by
  by_cases hz:a.natAbs=0
  ·rw [hz];decide
  ·exact yR ((Nat.log2_lt hz).mpr h))
 rw [this];simp
theorem lK {a b:Int} (h:b.natAbs < 2 ^ 62):c4 a b=true:=by
 unfold c4;have:Nat.ble b.natAbs.log2 62=true:=yI (by
  by_cases hz:b.natAbs=0
  ·rw [hz];decide
  ·exact yR ((Nat.log2_lt hz).mpr h))
 rw [this];simp
theorem d4 {a b:Int} (h:0 < b):ot a b=a % b:=yF h
theorem jY {a b:Int} (h:0 < b):ou a b=a / b:=yF h
theorem d6 {a:Int}{b:Nat} (h:0 < b):∃ r:Nat,a % (b:Int)=(r:Int)/\r < b:=by
 have h1:=Int.emod_nonneg a (b:=(b:Int)) oM;have h2:=Int.emod_lt_of_pos a (b:=(b:Int)) oM;exact ⟨(a % (b:Int)).toNat,by omega,by omega⟩
theorem BN {k:Nat}{l:List Nat} (h:st[k]?=some (.lst (nL l))):fY st (.ref k)=some (.fz (nL l)):=by
 show bz 6 st (.ref k)=_;unfold bz;have:aM (bz 5 st) (nL l)=some (nL l):=ck (f:=bz 5 st) (i:=fun q:Nat=>AV.int (q:Int)) (g:=fun q:Nat=>AV.int (q:Int)) (fun x=>rfl) l;simp only [h,this,map_some]
theorem lJ:bM .Pow st (.int 10) (.int 18)=some (.int 1000000000000000000):=by kernel_rfl
theorem oy {c:Int}{many:Nat} (hm:many <= 100):∃ D:List Nat,pm aL [.int c,.int (many:Int),.int 65536] st=some (.fz (nL D),st)/\D.length=many/\∀ x ∈ D,x < 65536:=by
 have key:∃ r,aL [.int c,.int (many:Int),.int 65536] []=some r/\∃ D:List Nat,r=(.ref 0,[.lst (nL D)])/\D.length=many/\∀ x ∈ D,x < 65536:=by
  rw [aL,bd];show ∃ r,(ao [] fq [some (.int c),some (.int (many:Int)),some (.int 65536),none,none,none,none] []).bind aw=some r/\_;refine aD (sl':=[some (.int c),some (.int (many:Int)),some (.int 65536),some (.ref 0),none,none,none]) (st':=[.lst []]) rfl ?_;refine aD (sl':=[some (.int c),some (.int (many:Int)),some (.int 65536),some (.ref 0),some (.int c),none,none]) (st':=[.lst []]) rfl ?_;refine gW (xs:=List.range many) (em:=fun q:Nat=>AV.int (q:Int)) (fun i sl st=>∃ l y5 y6 D,sl=[some (.int c),some (.int (many:Int)),some (.int 65536),some (.ref 0),some (.int l),y5,y6]/\st=[.lst (nL D)]/\D.length=i/\∀ x ∈ D,x < 65536) (ft (n:=many) rfl oM) (fun _ _ _ _=>rfl) ⟨c,none,none,[],rfl,rfl,rfl,by simp⟩ (fun i x sl st hx hI=>?_) fun sl' st' hI=>?_
  ·obtain ⟨l,y5,y6,D,rfl,rfl,hD,hb⟩:=hI
   have hi:i < many:=by have:=(zB.mp hx).1;simpa using this
   have ex:x=i:=by have:=(zB.mp hx).2;simpa using this.symm
   subst ex;by_cases hc:1000000000000000000 <= (if c < 0 then -c else c)/\l ≠ 0/\l ≠ -1
   ·obtain ⟨r,hr,hr2⟩:=d6 (a:=l) (b:=65536) dC
    refine ⟨_,[some (.int c),some (.int (many:Int)),some (.int 65536),some (.ref 0),some (.int (l / 65536)),some (.int (x:Int)),y6],[.lst (nL (D++[r]))],rfl,?_,_,_,_,_,rfl,rfl,by simp [hD],fun z hz=>?_⟩
    ·refine aq (sl':=[some (.int c),some (.int (many:Int)),some (.int 65536),some (.ref 0),some (.int (l / 65536)),some (.int (x:Int)),y6]) (st':=[.lst (nL (D++[r]))]) ?_ rfl
     have t0:tv [] (.an (.cmp .GtE (.bi .abs (.cons (.v 0) .nil)) (.bin .Pow (.i 10) (.i 18))) (.an (.cmp .NotEq (.v 4) (.i 0)) (.cmp .NotEq (.v 4) (.un .USub (.i 1))))) [some (.int c),some (.int (many:Int)),some (.int 65536),some (.ref 0),some (.int l),some (.int (x:Int)),y6] [.lst (nL D)]=some (true,[.lst (nL D)]):=by
      simp [bI,io,lJ,hc.1,hc.2.1,hc.2.2,iO]
     show (Option.bind (tv [] _ [some (.int c),some (.int (many:Int)),some (.int 65536),some (.ref 0),some (.int l),some (.int (x:Int)),y6] [.lst (nL D)]) _)=_;rw [t0,bind_some];dsimp only;rw [yF rfl];refine aq (fH (k:=0) (xs:=nL D) (y:=.int (r:Int)) rfl (by simp [dJ (show (65536:Int) ≠ 0 by decide),d4 (show (0:Int) < 65536 by decide)];exact hr) rfl (by simp;omega)) ?_;refine aq (sl':=[some (.int c),some (.int (many:Int)),some (.int 65536),some (.ref 0),some (.int (l / 65536)),some (.int (x:Int)),y6]) (st':=[.lst (nL (D++[r]))]) ?_ rfl;have dv:gJ 65536=true:=by decide
     have e1:nL D++[AV.int (r:Int)]=nL (D++[r]):=by unfold nL;simp
     simp [iM dv,jY (show (0:Int) < 65536 by decide),e1]
    ·rcases zZ.mp hz with h | h
     ·exact hb z h
     ·rw [zL.mp h];exact hr2
   ·obtain ⟨a,ha,ha2⟩:=d6 (a:=(c + 1009) * 69621 + 7919 * (x:Int)) (b:=2147483629) dC
    obtain ⟨b,hb',hb2⟩:=d6 (a:=(a:Int) * (a:Int) + 17 * (x:Int) + 5) (b:=2147483629) dC;obtain ⟨d,hd,hd2⟩:=d6 (a:=(b:Int) * (b:Int)) (b:=2147483587) dC;obtain ⟨r,hr,hr2⟩:=d6 (a:=(d:Int) / 64) (b:=65536) dC;have two:(2:Nat) ^ 62=4611686018427387904:=by decide
    refine ⟨_,[some (.int c),some (.int (many:Int)),some (.int 65536),some (.ref 0),some (.int l),some (.int (x:Int)),some (.int (b:Int))],[.lst (nL (D++[r]))],rfl,?_,_,_,_,_,rfl,rfl,by simp [hD],fun z hz=>?_⟩
    ·refine aq (sl':=[some (.int c),some (.int (many:Int)),some (.int 65536),some (.ref 0),some (.int l),some (.int (x:Int)),some (.int (b:Int))]) (st':=[.lst (nL (D++[r]))]) ?_ rfl
     have t0:tv [] (.an (.cmp .GtE (.bi .abs (.cons (.v 0) .nil)) (.bin .Pow (.i 10) (.i 18))) (.an (.cmp .NotEq (.v 4) (.i 0)) (.cmp .NotEq (.v 4) (.un .USub (.i 1))))) [some (.int c),some (.int (many:Int)),some (.int 65536),some (.ref 0),some (.int l),some (.int (x:Int)),y6] [.lst (nL D)]=some (false,[.lst (nL D)]):=by
      by_cases h1:1000000000000000000 <= (if c < 0 then -c else c)
      ·by_cases h2:l=0
       ·simp [bI,io,lJ,h1,h2,iO]
       ·have h3:l=-1:=Classical.byContradiction fun h3=>hc ⟨h1,h2,h3⟩
        simp [bI,io,lJ,h1,h3,iO]
      ·simp [bI,io,lJ,h1,iO]
     show (Option.bind (tv [] _ [some (.int c),some (.int (many:Int)),some (.int 65536),some (.ref 0),some (.int l),some (.int (x:Int)),y6] [.lst (nL D)]) _)=_;rw [t0,bind_some];dsimp only;rw [yE dC];have m1:c4 (c + 1009) 69621=true:=lK dC;have m2:c4 7919 (x:Int)=true:=gz dC;have m3:c4 (a:Int) (a:Int)=true:=gz oM;have m4:c4 17 (x:Int)=true:=gz dC;have m5:c4 (b:Int) (b:Int)=true:=gz oM;have ha:((c + 1009) * 69621 + 7919 * (x:Int)) % 2147483629=(a:Int):=ha;have hb':((a:Int) * (a:Int) + 17 * (x:Int) + 5) % 2147483629=(b:Int):=hb';have hd:((b:Int) * (b:Int)) % 2147483587=(d:Int):=hd;have hr:((d:Int) / 64) % 65536=(r:Int):=hr;have n1:(2147483629:Int) ≠ 0:=by decide
     have n2:(2147483587:Int) ≠ 0:=by decide
     have n3:(65536:Int) ≠ 0:=by decide
     have p1:(0:Int) < 2147483629:=by decide
     have p2:(0:Int) < 2147483587:=by decide
     have p3:(0:Int) < 65536:=by decide
     have dv:gJ 64=true:=by decide
     refine aq (sl':=[some (.int c),some (.int (many:Int)),some (.int 65536),some (.ref 0),some (.int l),some (.int (x:Int)),some (.int (a:Int))]) (st':=[.lst (nL D)]) (by simp [dI m1,dI m2,dJ n1,d4 p1,ha]) ?_;refine aq (sl':=[some (.int c),some (.int (many:Int)),some (.int 65536),some (.ref 0),some (.int l),some (.int (x:Int)),some (.int (b:Int))]) (st':=[.lst (nL D)]) (by simp [dI m3,dI m4,dJ n1,d4 p1,hb']) ?_;refine (aq (fH (k:=0) (xs:=nL D) (y:=.int (r:Int)) rfl (by simp [dI m5,dJ n2,dJ n3,d4 p2,d4 p3,hd,iM dv,jY (show (0:Int) < 64 by decide),hr]) rfl (by simp;omega)) rfl).trans ?_;have e1:nL D++[AV.int (r:Int)]=nL (D++[r]):=by unfold nL;simp
     rw [e1];rfl
    ·rcases zZ.mp hz with h | h
     ·exact hb z h
     ·rw [zL.mp h];exact hr2
  ·obtain ⟨l,y5,y6,D,rfl,rfl,hD,hb⟩:=hI
   refine bH (v:=.ref 0) (st':=[.lst (nL D)]) rfl ⟨D,rfl,by simpa using hD,hb⟩
 obtain ⟨r,e,D,rfl,h1,h2⟩:=key;refine ⟨D,aO rfl e (BN rfl),h1,h2⟩
end
def vw (m:Nat):AV:=.fz (nL (bX m))
def cx (r:List Nat):AV:=.fz (r.map vw)
def ae (M:Nat) (hs:List (List Nat)):AV:=.tup [.int (M:Int),.fz (hs.map cx)]
section
variable {st:aa}
theorem o9 {a:Nat}{k:Nat}:bM .Mod st (.int (a:Int)) (.int ((2 ^ k:Nat):Int))=some (.int ((a % 2 ^ k:Nat):Int)):=by
 have:=Nat.two_pow_pos k
 rw [dJ oM,d4 oM];rfl
theorem lL {a b:Nat} (h:0 < b):bM .Mod st (.int (a:Int)) (.int (b:Int))=some (.int ((a % b:Nat):Int)):=by
 rw [dJ oM,d4 oM];rfl
theorem n9 {D:List Nat}{k:Nat} (h:k < D.length):cB st (.fz (nL D)) (.int (k:Int))=some (.int ((D.getD k 0:Nat):Int)):=by rw [iF dE,gp,wM h]
theorem ol {D:List Nat}{b:Nat} (hb:0 < b) (h:∀ x ∈ D,x < b) (k:Nat):D.getD k 0 < b:=by
 rw [zD];cases e:D[k]? with
 | none=>exact hb
 | some x=>exact h x (zW e)
def bJ (rows:List (List Nat)):aa:=.lst ((List.range rows.length).map fun j:Nat=>AV.ref (j + 1))::rows.map fun r=>GS.lst (r.map vw)
theorem pQ {n:Nat}{l:List Nat}{s:aa}:aM (bz (n + 1) s) (l.map vw)=some (l.map vw):=ck (f:=bz (n + 1) s) (i:=vw) (g:=vw) (fun x=>rfl) l
theorem t7 {α:Type}{f:AV->Option AV}{i g:α->AV}:∀ {l:List α},(∀ x ∈ l,f (i x)=some (g x))->aM f (l.map i)=some (l.map g):=by
 intro l
 induction l with
 | nil=>intro _;rfl
 | cons x l ih =>
  intro h;rw [zO,zO];show (f (i x)).bind _=_;rw [h x (z4 ..),bind_some,ih fun y hy=>h y (zQ _ hy)];rfl
theorem sU {M:Nat}{hs:List (List Nat)} (hl:hs.length <= 100):fY (bJ hs) (.tup [.int (M:Int),.ref 0])=some (ae M hs):=by
 have row:∀ j ∈ List.range hs.length,bz 4 (bJ hs) (.ref (j + 1))=some (cx (hs.getD j [])):=fun j hj=>by
  have hj:=List.mem_range.mp hj;have:(bJ hs)[j + 1]?=some (.lst ((hs.getD j []).map vw)):=by
   show (hs.map fun r=>GS.lst (r.map vw))[j]?=_;rw [zR,zD,zF hj];rfl
  show (match (bJ hs)[j + 1]? with
   | some (.lst xs)=>(aM (bz 3 (bJ hs)) xs).map AV.fz
   | some (.al t)=>some t
   | _=>none)=_
  rw [this];show (aM (bz 3 (bJ hs)) ((hs.getD j []).map vw)).map AV.fz=_;rw [pQ];rfl
 have refs:=t7 (f:=bz 4 (bJ hs)) (i:=fun j:Nat=>AV.ref (j + 1)) (g:=fun j=>cx (hs.getD j [])) row;have e:(List.range hs.length).map (fun j=>cx (hs.getD j []))=hs.map cx:=by
  apply List.ext_getElem
  ·simp
  ·intro i h1 h2
   simp at h1;simp [zD,h1]
 rw [e] at refs;have r0:bz 5 (bJ hs) (.ref 0)=some (.fz (hs.map cx)):=by
  show (aM (bz 4 (bJ hs)) ((List.range hs.length).map fun j:Nat=>AV.ref (j + 1))).map AV.fz=_;rw [refs];rfl
 show (aM (bz 5 (bJ hs)) [.int (M:Int),.ref 0]).map AV.tup=_;have i0:bz 5 (bJ hs) (.int (M:Int))=some (.int (M:Int)):=rfl;simp only [aM,r0,i0,bind_some,map_some];rfl
theorem AT {c:Int}{n most:Nat} (hn:n <= 4) (hm:most <= 40):∃ M hs,pm bo [.int c,.int (n:Int),.int (most:Int)] st=some (ae M hs,st)/\M <= most/\hs.length=n/\∀ r ∈ hs,r.length <= 3/\∀ m ∈ r,m < 2 ^ M:=by
 obtain ⟨D,eD,lD,bD⟩:=oy (c:=c) (many:=18) (st:=[]) dC;have eD:pm aL [.int c,.int 18,.int 65536] []=some (.fz (nL D),[]):=eD;obtain ⟨M,hM⟩:∃ M,M=D.getD 0 0 % (most + 1):=⟨_,rfl⟩;have M1:M <= most:=by have:=Nat.mod_lt (D.getD 0 0) (show 0 < most + 1 by omega);omega
 have key:∃ r,bo [.int c,.int (n:Int),.int (most:Int)] []=some r/\∃ hs:List (List Nat),r=(.tup [.int (M:Int),.ref 0],bJ hs)/\hs.length=n/\∀ r ∈ hs,r.length <= 3/\∀ m ∈ r,m < 2 ^ M:=by
  rw [bo,bd];show ∃ r,(ao [aL,aU] fS [some (.int c),some (.int (n:Int)),some (.int (most:Int)),none,none,none,none,none,none,none,none] []).bind aw=some r/\_;refine aD (sl':=[some (.int c),some (.int (n:Int)),some (.int (most:Int)),some (.fz (nL D)),none,none,none,none,none,none,none]) (st':=[]) (by simp [eD]) ?_;refine aD (sl':=[some (.int c),some (.int (n:Int)),some (.int (most:Int)),some (.fz (nL D)),some (.int (M:Int)),none,none,none,none,none,none]) (st':=[]) ?_ ?_
  ·have e1:bM .Mod ([]:aa) (.int ((D.getD 0 0:Nat):Int)) (.int ((most:Int) + 1))=some (.int (M:Int)):=by rw [hM];exact lL (b:=most + 1) oM
   have e0:cB ([]:aa) (.fz (nL D)) (.int 0)=some (.int ((D.getD 0 0:Nat):Int)):=n9 (k:=0) oM;simp only [bQ,aK,aP,ar,aH,ai,ak,bind_some,e0,map_some,fF,e1,cI];rfl
  refine aD (sl':=[some (.int c),some (.int (n:Int)),some (.int (most:Int)),some (.fz (nL D)),some (.int (M:Int)),some (.ref 0),none,none,none,none,none]) (st':=bJ []) rfl ?_;refine gW (xs:=List.range n) (em:=fun q:Nat=>AV.int (q:Int)) (fun i sl st=>∃ hs y6 y7 y8 y9 y10,sl=[some (.int c),some (.int (n:Int)),some (.int (most:Int)),some (.fz (nL D)),some (.int (M:Int)),some (.ref 0),y6,y7,y8,y9,y10]/\st=bJ hs/\hs.length=i/\∀ r ∈ hs,r.length <= 3/\∀ m ∈ r,m < 2 ^ M)
   (ft (n:=n) rfl oM) (fun _ _ _ _=>rfl) ⟨[],none,none,none,none,none,rfl,rfl,rfl,by simp⟩ (fun i x sl st hx hI=>?_) fun sl' st' hI=>?_
  ·obtain ⟨hs,y6,y7,y8,y9,y10,rfl,rfl,hl,hb⟩:=hI
   have hi:i < n:=by have:=(zB.mp hx).1;simpa using this
   have ex:x=i:=by have:=(zB.mp hx).2;simpa using this.symm
   subst ex;have ls:(bJ hs).length=x + 1:=by simp [bJ,hl]
   have body:∃ r,ao [aL,aU] (.cons (.as (.nw true (.li .nil)) (.nm 7)) (.cons (.fo (.r1 (.bin .Mod (.ix (.v 3) (.bin .Add (.i 1) (.v 6))) (.i 4))) (.nm 8) (.cons (.as (.ix (.v 3) (.bin .Add (.bin .Add (.i 5) (.bin .Mult (.i 3) (.v 6))) (.v 8))) (.nm 9)) (.cons (.as (.bin .Mod (.v 9) (.bin .LShift (.i 1) (.v 4))) (.nm 10)) (.cons (.iff (.cmp .Gt (.v 4) (.i 16)) (.cons (.as (.bin .Mod (.bin .Mult (.bin .Add (.bin .Mult (.bin .Mult (.v 9) (.v 9)) (.i 48271)) (.v 9)) (.bin .Add (.v 9) (.i 77))) (.bin .LShift (.i 1) (.v 4))) (.nm 10)) .nil) .nil) (.cons (.ex (.mt .app (.v 7) (.cons (.ca true 1 (.cons (.v 10) .nil)) .nil))) .nil))))) (.cons (.ex (.mt .app (.v 5) (.cons (.v 7) .nil))) .nil)))
     [some (.int c),some (.int (n:Int)),some (.int (most:Int)),some (.fz (nL D)),some (.int (M:Int)),some (.ref 0),some (.int (x:Int)),y7,y8,y9,y10] (bJ hs)=some r/\∃ (row:List Nat) (z8 z9 z10:Option AV),r=.nx [some (.int c),some (.int (n:Int)),some (.int (most:Int)),some (.fz (nL D)),some (.int (M:Int)),some (.ref 0),some (.int (x:Int)),some (.ref (x + 1)),z8,z9,z10] (bJ (hs++[row]))/\row.length <= 3/\∀ m ∈ row,m < 2 ^ M:=by
    refine bO (sl':=[some (.int c),some (.int (n:Int)),some (.int (most:Int)),some (.fz (nL D)),some (.int (M:Int)),some (.ref 0),some (.int (x:Int)),some (.ref (x + 1)),y8,y9,y10]) (st':=bJ hs++[.lst []]) (by rw [<- ls];rfl) ?_;obtain ⟨q,hq⟩:∃ q,q=D.getD (1 + x) 0 % 4:=⟨_,rfl⟩;have q4:q < 4:=by omega
    have e1:cB (bJ hs++[.lst []]) (.fz (nL D)) (.int (1 + (x:Int)))=some (.int ((D.getD (1 + x) 0:Nat):Int)):=by
     rw [show (1:Int) + (x:Int)=((1 + x:Nat):Int) by omega];exact n9 oM
    have e2:bM .Mod (bJ hs++[.lst []]) (.int ((D.getD (1 + x) 0:Nat):Int)) (.int 4)=some (.int (q:Int)):=by rw [hq];exact lL (b:=4) dC
    refine oI (xs:=List.range q) (em:=fun q:Nat=>AV.int (q:Int)) (fun j sl st=>∃ row z8 z9 z10,sl=[some (.int c),some (.int (n:Int)),some (.int (most:Int)),some (.fz (nL D)),some (.int (M:Int)),some (.ref 0),some (.int (x:Int)),some (.ref (x + 1)),z8,z9,z10]/\st=bJ hs++[.lst (row.map vw)]/\row.length=j/\∀ m ∈ row,m < 2 ^ M)
     (ft (n:=q) (by simp only [aK,aP,ar,aH,ai,ak,bind_some,map_some,fF,e1,e2]) oM) (fun _ _ _ _=>rfl) ⟨[],y8,y9,y10,rfl,rfl,rfl,by simp⟩ (fun j y sl st hy hJ=>?_) fun sl' st' hJ=>?_
    ·obtain ⟨row,z8,z9,z10,rfl,rfl,hj,hrow⟩:=hJ
     have hy1:j < q:=by have:=(zB.mp hy).1;simpa using this
     have ey:y=j:=by have:=(zB.mp hy).2;simpa using this.symm
     subst ey;obtain ⟨d,hd⟩:∃ d,d=D.getD (5 + 3 * x + y) 0:=⟨_,rfl⟩;have d1:d < 65536:=by rw [hd];exact ol dC bD _
     obtain ⟨S,hS⟩:∃ S,S=bJ hs++[GS.lst (row.map vw)]:=⟨_,rfl⟩;have i1:cB S (.fz (nL D)) (.int (5 + 3 * (x:Int) + (y:Int)))=some (.int (d:Int)):=by
      rw [show (5:Int) + 3 * (x:Int) + (y:Int)=((5 + 3 * x + y:Nat):Int) by omega,hd];exact n9 oM
     have m3:c4 3 (x:Int)=true:=gz dC;have two:(2:Nat) ^ 62=4611686018427387904:=by decide
     have gM:S[x + 1]?=some (.lst (row.map vw)):=by rw [hS,<- ls];exact gl
     have aw:∀ m:Nat,m < 2 ^ M->∀ z9:Option AV,∃ sl2 st2,ao [aL,aU] (.cons (.ex (.mt .app (.v 7) (.cons (.ca true 1 (.cons (.v 10) .nil)) .nil))) .nil) [some (.int c),some (.int (n:Int)),some (.int (most:Int)),some (.fz (nL D)),some (.int (M:Int)),some (.ref 0),some (.int (x:Int)),some (.ref (x + 1)),some (.int (y:Int)),z9,some (.int (m:Int))] S=some (.nx sl2 st2) /\
       ∃ (row:List Nat) (z8 z9 z10:Option AV),sl2=[some (.int c),some (.int (n:Int)),some (.int (most:Int)),some (.fz (nL D)),some (.int (M:Int)),some (.ref 0),some (.int (x:Int)),some (.ref (x + 1)),z8,z9,z10]/\st2=bJ hs++[.lst (row.map vw)]/\row.length=y + 1/\∀ m ∈ row,m < 2 ^ M:=fun m hm' z9=>by
      refine ⟨_,_,aq (fH (k:=x + 1) (xs:=row.map vw) (y:=vw m) rfl (by simp only [aJ,ab,ag,ar,ai,ak,bind_some,ax,aN,bf,mS];rfl) gM (by simp;omega)) rfl,row++[m],_,_,_,rfl,?_,by simp [hj],fun z hz=>?_⟩
      ·rw [hS,<- ls,List.set_append_right _ _ (zP _)];simp
      ·rcases zZ.mp hz with h | h
       ·exact hrow z h
       ·rw [zL.mp h];exact hm'
     rw [<- hS];have st1:cK [aL,aU] (.as (.ix (.v 3) (.bin .Add (.bin .Add (.i 5) (.bin .Mult (.i 3) (.v 6))) (.v 8))) (.nm 9)) [some (.int c),some (.int (n:Int)),some (.int (most:Int)),some (.fz (nL D)),some (.int (M:Int)),some (.ref 0),some (.int (x:Int)),some (.ref (x + 1)),some (.int (y:Int)),z9,z10] S=some (.nx [some (.int c),some (.int (n:Int)),some (.int (most:Int)),some (.fz (nL D)),some (.int (M:Int)),some (.ref 0),some (.int (x:Int)),some (.ref (x + 1)),some (.int (y:Int)),some (.int (d:Int)),z10] S):=by
      simp only [bQ,aP,aK,ar,aH,ai,ak,bind_some,dI m3,map_some,fF,i1,cI];rfl
     have st2:cK [aL,aU] (.as (.bin .Mod (.v 9) (.bin .LShift (.i 1) (.v 4))) (.nm 10)) [some (.int c),some (.int (n:Int)),some (.int (most:Int)),some (.fz (nL D)),some (.int (M:Int)),some (.ref 0),some (.int (x:Int)),some (.ref (x + 1)),some (.int (y:Int)),some (.int (d:Int)),z10] S=some (.nx [some (.int c),some (.int (n:Int)),some (.int (most:Int)),some (.fz (nL D)),some (.int (M:Int)),some (.ref 0),some (.int (x:Int)),some (.ref (x + 1)),some (.int (y:Int)),some (.int (d:Int)),some (.int ((d % 2 ^ M:Nat):Int))] S):=by
      simp only [bQ,aK,ar,aH,ai,ak,bind_some,dy (show M <= 1000 by omega),map_some,o9,cI];rfl
     by_cases h16:16 < M
     ·obtain ⟨m,hm2⟩:∃ m,m=(d * d * 48271 + d) * (d + 77) % 2 ^ M:=⟨_,rfl⟩
      obtain ⟨sl2,st2',e,I'⟩:=aw m (by rw [hm2];exact Nat.mod_lt _ (Nat.two_pow_pos _)) (some (.int (d:Int)));refine ⟨_,sl2,st2',rfl,aq st1 (aq st2 (aq (sl':=[some (.int c),some (.int (n:Int)),some (.int (most:Int)),some (.fz (nL D)),some (.int (M:Int)),some (.ref 0),some (.int (x:Int)),some (.ref (x + 1)),some (.int (y:Int)),some (.int (d:Int)),some (.int (m:Int))]) (st':=S) ?_ e)),I'⟩;have n1:c4 (d:Int) (d:Int)=true:=gz oM;have n2:c4 ((d:Int) * (d:Int)) 48271=true:=lK dC;have n3:c4 ((d:Int) * (d:Int) * 48271 + (d:Int)) ((d:Int) + 77)=true:=lK oM;have n4:bM .Mod S (.int (((d:Int) * (d:Int) * 48271 + (d:Int)) * ((d:Int) + 77))) (.int ((2 ^ M:Nat):Int))=some (.int (m:Int)):=by
       rw [hm2,show ((d:Int) * (d:Int) * 48271 + (d:Int)) * ((d:Int) + 77)=(((d * d * 48271 + d) * (d + 77):Nat):Int) by simp];exact o9
      have gt:decide ((16:Int) < (M:Int))=true:=yP oM;simp only [aR,a7,ar,aH,ai,ak,bind_some,pH,gt,map_some,cO,bQ,aK,dI n1,dI n2,fF,dI n3,dy (show M <= 1000 by omega),n4,cI];rfl
     ·obtain ⟨sl2,st2',e,I'⟩:=aw (d % 2 ^ M) (Nat.mod_lt _ (Nat.two_pow_pos _)) (some (.int (d:Int)))
      refine ⟨_,sl2,st2',rfl,aq st1 (aq st2 (aq (sl':=[some (.int c),some (.int (n:Int)),some (.int (most:Int)),some (.fz (nL D)),some (.int (M:Int)),some (.ref 0),some (.int (x:Int)),some (.ref (x + 1)),some (.int (y:Int)),some (.int (d:Int)),some (.int ((d % 2 ^ M:Nat):Int))]) (st':=S) ?_ e)),I'⟩;have gt:decide ((16:Int) < (M:Int))=false:=z5 oM;simp only [aR,a7,ar,aH,ai,ak,bind_some,pH,gt,map_some];rfl
    ·obtain ⟨row,z8,z9,z10,rfl,rfl,hj,hrow⟩:=hJ
     rw [List.length_range] at hj;refine ⟨_,aq (fH (k:=0) (xs:=(List.range hs.length).map fun j:Nat=>AV.ref (j + 1)) (y:=.ref (x + 1)) rfl rfl rfl (by simp;omega)) rfl,row,z8,z9,z10,?_,by omega,hrow⟩;congr 1;simp [bJ,List.range_succ,hl]
   obtain ⟨r,e,row,z8,z9,z10,rfl,h1,h2⟩:=body;exact ⟨_,_,_,rfl,e,hs++[row],_,_,_,_,_,rfl,rfl,by simp [hl],fun r hr=>by
    rcases zZ.mp hr with h | h
    ·exact hb r h
    ·rw [zL.mp h];exact ⟨h1,h2⟩⟩
  ·obtain ⟨hs,y6,y7,y8,y9,y10,rfl,rfl,hl,hb⟩:=hI
   exact bH (v:=.tup [.int (M:Int),.ref 0]) (st':=bJ hs) rfl ⟨hs,rfl,by simpa using hl,hb⟩
 obtain ⟨r,e,hs,rfl,h1,h2⟩:=key;exact ⟨M,hs,aO rfl e (sU oM),M1,h1,h2⟩
end
end LW
namespace LW
open PySem PySem.Spec L2 R RK
section
variable {ks:List Fn}{sl:Sl}{st:aa}{ss:GK}{P:AV × aa->Prop}
theorem cV {α β:Type}{em:β->AV}{it:Ix}{t:Tg}{b:GK}{xs:List β}{gd:Gd}{st0:aa} (I:Nat->α->Sl->aa->Prop) (f:α->β->α) (a:α) (hi:b8 ks it sl st=some (⟨xs.map em,gd⟩,st0)) (h0:I 0 a sl st0) (hg:∀ i a sl st,I i a sl st->bW gd st=true)
  (h:∀ i a x sl st,xs[i]?=some x->I i a sl st->∃ p sl2 st2,cU ks t (em x) sl st=some p/\ao ks b p.1 p.2=some (.nx sl2 st2)/\I (i + 1) (f a x) sl2 st2)
  (hr:∀ sl' st',I xs.length (xs.foldl f a) sl' st'->∃ r,(ao ks ss sl' st').bind aw=some r/\P r):∃ r,(ao ks (.cons (.fo it t b) ss) sl st).bind aw=some r/\P r:=by
 refine gW (fun i=>I i ((xs.take i).foldl f a)) hi (fun i=>hg _ _) h0 (fun i x sl st hx hI=>?_) fun sl' st' hI=>hr sl' st' (by rwa [List.take_length] at hI)
 obtain ⟨p,sl2,st2,h1,h2,h3⟩:=h i _ x sl st hx hI;refine ⟨p,sl2,st2,h1,h2,?_⟩;rw [List.take_add_one,hx,Option.toList_some,List.foldl_append];exact h3
theorem nl {α β:Type}{em:β->AV}{it:Ix}{t:Tg}{b:GK}{xs:List β}{gd:Gd}{st0:aa}{Q:Out->Prop} (I:Nat->α->Sl->aa->Prop) (f:α->β->α) (a:α) (hi:b8 ks it sl st=some (⟨xs.map em,gd⟩,st0)) (h0:I 0 a sl st0) (hg:∀ i a sl st,I i a sl st->bW gd st=true)
  (h:∀ i a x sl st,xs[i]?=some x->I i a sl st->∃ p sl2 st2,cU ks t (em x) sl st=some p/\ao ks b p.1 p.2=some (.nx sl2 st2)/\I (i + 1) (f a x) sl2 st2)
  (hr:∀ sl' st',I xs.length (xs.foldl f a) sl' st'->∃ r,ao ks ss sl' st'=some r/\Q r):∃ r,ao ks (.cons (.fo it t b) ss) sl st=some r/\Q r:=by
 refine oI (fun i=>I i ((xs.take i).foldl f a)) hi (fun i=>hg _ _) h0 (fun i x sl st hx hI=>?_) fun sl' st' hI=>hr sl' st' (by rwa [List.take_length] at hI)
 obtain ⟨p,sl2,st2,h1,h2,h3⟩:=h i _ x sl st hx hI;refine ⟨p,sl2,st2,h1,h2,?_⟩;rw [List.take_add_one,hx,Option.toList_some,List.foldl_append];exact h3
theorem x9 {n i x:Nat} (h:(List.range n)[i]?=some x):i < n/\i=x:=by
 obtain ⟨h1,h2⟩:=zB.mp h;exact ⟨by simpa using h1,by simpa using h2⟩
theorem jw {a b:Nat}:bM .BitAnd st (.int (a:Int)) (.int (b:Int))=some (.int ((a &&& b:Nat):Int)):=by
 show some (AV.int (Builtin.bitAnd (a:Int) (b:Int)))=_;rw [mW]
theorem jc {a b:Nat}:bM .BitXor st (.int (a:Int)) (.int (b:Int))=some (.int ((a ^^^ b:Nat):Int)):=by
 show some (AV.int (Builtin.bitXor (a:Int) (b:Int)))=_;rw [uC]
theorem mV {g k:Nat}:(!decide (((g &&& 2 ^ k:Nat):Int)=0))=g.testBit k:=by
 have:(g &&& 2 ^ k=0) ↔ g.testBit k=false:=oF;cases h:g.testBit k
 ·rw [this.mpr h];rfl
 ·have:¬ g &&& 2 ^ k=0:=fun z=>by rw [this.mp z] at h;cases h
  rw [z5 oM];rfl
theorem dG {M:Nat}{hs:List (List Nat)}:cB st (ae M hs) (.int 1)=some (.fz (hs.map cx)):=rfl
theorem fu {M:Nat}{hs:List (List Nat)}:cB st (ae M hs) (.int 0)=some (.int (M:Int)):=rfl
theorem gD {hs:List (List Nat)}{k:Nat} (h:k < hs.length):cB st (.fz (hs.map cx)) (.int (k:Int))=some (cx (hs.getD k [])):=by
 rw [iF dE,gp,zR,zD,zF h];rfl
theorem vd {r:List Nat}{k:Nat} (h:k < r.length):cB st (cx r) (.int (k:Int))=some (vw (r.getD k 0)):=by
 rw [cx,iF dE,gp,zR,zD,zF h];rfl
theorem dk {xs:List AV}:bI dF [.fz xs] st=some (.int ((xs.length:Nat):Int),st):=rfl
theorem uI {l:List Nat}:rfs (l.map vw)=true:=ci fun x hx=>by obtain ⟨i,_,rfl⟩:=yA.mp hx;rfl
theorem x8 {l:List (List Nat)}:rfs (l.map cx)=true:=ci fun x hx=>by obtain ⟨i,_,rfl⟩:=yA.mp hx;rfl
@[simp] theorem FX {M:Nat}{hs:List (List Nat)}:rf (ae M hs)=true:=by simp [ae]
def aG (n g:Nat):List Nat:=(List.range n).filter fun i=>g.testBit i
def gm (hs:List (List Nat)) (g:Nat):List Nat:=(aG hs.length g).flatMap fun k=>hs.getD k []
def dN (hs:List (List Nat)) (g:Nat):List (Nat × Nat):=(aG hs.length g).flatMap fun k=>(List.range (hs.getD k []).length).map fun j=>(k,j)
noncomputable def pV (p:Nat × Nat):AV:=.tup [.int (p.1:Int),.int (p.2:Int)]
structure HK (M:Nat) (hs:List (List Nat)):Prop where
 m:M <= 40
 n:hs.length <= 4
 r:∀ r ∈ hs,r.length <= 3/\∀ m ∈ r,m < 2 ^ M
theorem HK.row {M:Nat}{hs:List (List Nat)} (h:HK M hs) (k:Nat):(hs.getD k []).length <= 3/\∀ m ∈ hs.getD k [],m < 2 ^ M:=by
 rw [zD];cases e:hs[k]? with
 | none=>exact ⟨by simp,by simp⟩
 | some r=>exact h.r r (zW e)
theorem HK.lt {M:Nat}{hs:List (List Nat)} (h:HK M hs) {g m:Nat} (hm:m ∈ gm hs g):m < 2 ^ M:=by
 obtain ⟨k,_,h2⟩:=List.mem_flatMap.mp hm;exact (h.row k).2 m h2
theorem eW {n g:Nat}:(aG n g).length <= n:=by unfold aG;exact z0 (List.length_filter_le ..) (by simp)
theorem vh {α β:Type}{f:α->List β}{c:Nat}:∀ {l:List α},(∀ x ∈ l,(f x).length <= c)->(l.flatMap f).length <= c * l.length:=by
 intro l
 induction l with
 | nil=>intro _;simp
 | cons x l ih =>
  intro h;rw [List.flatMap_cons,zV,yQ,Nat.mul_succ]
  have:=h x (z4 ..)
  have:=ih fun y hy=>h y (zQ _ hy)
  omega
theorem HK.len {M:Nat}{hs:List (List Nat)} (h:HK M hs) (g:Nat):(gm hs g).length <= 12:=by
 have h1:(gm hs g).length <= 3 * (aG hs.length g).length:=vh fun k _=>(h.row k).1
 have:=eW (n:=hs.length) (g:=g)
 have:=h.n
 omega
theorem kJ {α β:Type}{f:α->List β}:∀ (l:List α) (a:List β),l.foldl (fun a k=>a++f k) a=a++l.flatMap f:=by
 intro l
 induction l with
 | nil=>intro a;simp
 | cons x l ih=>intro a;rw [List.foldl_cons,ih,List.flatMap_cons,yJ]
theorem xw {α β:Type}{f:α->List β}{p:α->Bool}:∀ (l:List α) (a:List β),l.foldl (fun a k=>if p k=true then a++f k else a) a=a++(l.filter p).flatMap f:=by
 intro l
 induction l with
 | nil=>intro a;simp
 | cons x l ih =>
  intro a;rw [List.foldl_cons,ih,List.filter_cons];split
  ·rw [List.flatMap_cons,yJ]
  ·rfl
theorem gA {m M:Nat} (h:m < 2 ^ M) (hM:M <= 40):m < 2 ^ 41:=zJ h (Nat.pow_le_pow_right dC oM)
theorem qH {a b:List Nat}:nL a++nL b=nL (a++b):=by unfold nL;rw [List.map_append]
theorem Ay {r:List Nat}:cS st (cx r)=some (r.map vw):=rfl
theorem kE {M:Nat}{hs:List (List Nat)} (hk:HK M hs) {g:Nat}:pm av [ae M hs,.int (g:Int)] st=some (.fz (nL (gm hs g)),st):=by
 have key:∃ r,av [ae M hs,.int (g:Int)] []=some r/\r=(.fz (nL (gm hs g)),[]):=by
  rw [av,bd];show ∃ r,(ao [ah] fm [some (ae M hs),some (.int (g:Int)),none,none] []).bind aw=some r/\_;refine aD (sl':=[some (ae M hs),some (.int (g:Int)),some (.fz (nL [])),none]) (st':=[]) rfl ?_;refine cV (gd:=[]) (xs:=List.range hs.length) (em:=fun q:Nat=>AV.int (q:Int)) (fun i (a:List Nat) sl st=>(∃ y,sl=[some (ae M hs),some (.int (g:Int)),some (.fz (nL a)),y])/\st=[]/\a.length <= 3 * i) (fun a k=>if g.testBit k=true then a++hs.getD k [] else a) [] ?_ ⟨⟨none,rfl⟩,rfl,by simp⟩ (fun _ _ _ _ _=>rfl) (fun i a x sl st hx hI=>?_) fun sl' st' hI=>?_
  ·refine ft (n:=hs.length) ?_ (by have:=hk.n;omega)
   simp only [bG,ab,ag,aP,ar,aH,ai,dG,bind_some,map_some,cF,dk,zH]
  ·obtain ⟨⟨y,rfl⟩,rfl,ha⟩:=hI
   obtain ⟨hi,rfl⟩:=x9 hx;have hn:=hk.n;have hr:=hk.row i;have t0:tv [ah] (.cmp .Eq (.bin .Mod (.bin .FloorDiv (.v 1) (.bin .LShift (.i 1) (.v 3))) (.i 2)) (.i 1)) [some (ae M hs),some (.int (g:Int)),some (.fz (nL a)),some (.int (i:Int))] []=some (g.testBit i,[]):=by
    simp only [a7,aK,ar,aH,ai,ak,bind_some,dy (show i <= 1000 by omega),mU (show i <= 1000 by omega),kD,map_some,dW,mT]
   cases hb:g.testBit i with
   | false =>
    refine ⟨_,[some (ae M hs),some (.int (g:Int)),some (.fz (nL a)),some (.int (i:Int))],[],rfl,?_,?_⟩
    ·refine aq (sl':=[some (ae M hs),some (.int (g:Int)),some (.fz (nL a)),some (.int (i:Int))]) (st':=[]) ?_ rfl
     show (tv _ _ [some (ae M hs),some (.int (g:Int)),some (.fz (nL a)),some (.int (i:Int))] []).bind _=_;rw [t0,hb];rfl
    ·exact ⟨⟨_,rfl⟩,rfl,by simp;omega⟩
   | true =>
    refine ⟨([some (ae M hs),some (.int (g:Int)),some (.fz (nL a)),some (.int (i:Int))],[]),[some (ae M hs),some (.int (g:Int)),some (.fz (nL (a++hs.getD i []))),some (.int (i:Int))],[],rfl,?_,?_⟩
    ·refine aq (sl':=[some (ae M hs),some (.int (g:Int)),some (.fz (nL (a++hs.getD i []))),some (.int (i:Int))]) (st':=[]) ?_ rfl
     show (tv _ _ [some (ae M hs),some (.int (g:Int)),some (.fz (nL a)),some (.int (i:Int))] []).bind _=_;rw [t0,hb,bind_some];dsimp only;rw [yF rfl];refine aq (sl':=[some (ae M hs),some (.int (g:Int)),some (.fz (nL (a++hs.getD i []))),some (.int (i:Int))]) (st':=[]) ?_ rfl;have hi2:b8 [ah] (.e (.ix (.ix (.v 0) (.i 1)) (.v 3))) [some (ae M hs),some (.int (g:Int)),some (.fz (nL a)),some (.int (i:Int))] []=some (⟨(hs.getD i []).map vw,[]⟩,[]):=by
      simp only [ve,aP,ar,aH,ai,ak,bind_some,map_some,dG,gD hi];rfl
     have go:=fI (ks:=[ah]) (k:=1) (t:=.nm 4) (c:=.no) (e:=.ca true 0 (.cons (.v 4) .nil)) (xs:=hs.getD i []) (em:=vw) hi2 rfl oM (B:=fun _=>true) (F:=fun q:Nat=>AV.int (q:Int)) fun q hq=>⟨[some (ae M hs),some (.int (g:Int)),some (.fz (nL a)),some (.int (i:Int)),some (vw q)],rfl,rfl,fun _=>by
      simp only [aJ,ab,ag,ar,ai,ak,bind_some,ax,aN];exact (dD (gA (hr.2 q hq) hk.m)).2⟩
     rw [List.filter_eq_self.mpr fun _ _=>rfl] at go;have go:_=some (nL (hs.getD i []),[]):=go;have lf:∀ xs:List AV,rfs xs=true->(if rfs xs=true then some (AV.fz xs,([]:aa)) else none)=some (.fz xs,[]):=fun xs h=>yF h
     have h2:ev [ah] (.nw false (.lc 1 (.e (.ix (.ix (.v 0) (.i 1)) (.v 3))) (.nm 4) .no (.ca true 0 (.cons (.v 4) .nil)))) [some (ae M hs),some (.int (g:Int)),some (.fz (nL a)),some (.int (i:Int))] []=some (.fz (nL (hs.getD i [])),[]):=by rw [cC,go,bind_some];exact lf _ cj
     have h3:fA [ah] (.cat (.v 2) (.nw false (.lc 1 (.e (.ix (.ix (.v 0) (.i 1)) (.v 3))) (.nm 4) .no (.ca true 0 (.cons (.v 4) .nil))))) [some (ae M hs),some (.int (g:Int)),some (.fz (nL a)),some (.int (i:Int))] []=some (nL (a++hs.getD i []),[]):=by
      rw [o6];unfold kC;rw [show ev [ah] (.v 2) [some (ae M hs),some (.int (g:Int)),some (.fz (nL a)),some (.int (i:Int))] []=some (.fz (nL a),[]) from rfl,bind_some];dsimp only;rw [h2,bind_some];dsimp only;rw [dE,bind_some,dE,bind_some,yF (iw (by rw [dj,dj];omega)),qH]
     rw [bQ,cC,h3,bind_some];dsimp only;rw [lf _ cj];rfl
    ·exact ⟨⟨_,rfl⟩,rfl,by rw [yF rfl,zV];omega⟩
  ·obtain ⟨⟨y,rfl⟩,rfl,_⟩:=hI
   rw [xw,List.nil_append];exact bH (v:=.fz (nL (gm hs g))) (st':=[]) rfl rfl
 obtain ⟨r,e,rfl⟩:=key;exact aO (by simp) e rfl
end
section
variable {ks:List Fn}{sl:Sl}{st:aa}
theorem vi {a e:Ex}{y:AV}{xs ys:List AV}{k:Nat} (h1:ev ks a sl st=some (.ref k,st)) (h2:ev ks e sl st=some (y,st)) (h3:st[k]?=some (.lst xs)) (hy:cS st y=some ys) (hl:xs.length + ys.length <= 1000):cK ks (.ex (.mt .ext a (.cons e .nil))) sl st=some (.nx sl (st.set k (.lst (xs++ys)))):=by
 simp [kh,qL,qK,h1,pU,jN h3,h2,pj,gK,h3,hy,iw hl]
theorem EW {M:Nat}{hs:List (List Nat)} (h:ev ks (.v 0) sl st=some (ae M hs,st)):ev ks (.bi .len (.cons (.ix (.v 0) (.i 1)) .nil)) sl st=some (.int ((hs.length:Nat):Int),st):=by
 simp only [bG,ab,ag,aP,aH,h,dG,bind_some,map_some,cF,dk,zH]
theorem uX {M:Nat}{hs:List (List Nat)}{g:Nat} (hk:HK M hs) (h0:ev (br::ks) (.v 0) sl st=some (ae M hs,st)) (h1:ev (br::ks) (.v 1) sl st=some (.int (g:Int),st)) :
  b8 (br::ks) (.e (.ca false 0 (.cons (.bi .len (.cons (.ix (.v 0) (.i 1)) .nil)) (.cons (.v 1) .nil)))) sl st=some (⟨(aG hs.length g).map fun q:Nat=>AV.int (q:Int),[(st.length,.lst (nL (aG hs.length g)))]⟩,st++[.lst (nL (aG hs.length g))]):=by
 have hn:=hk.n;rw [ve,aJ,ab,EW h0,bind_some];dsimp only;rw [ab,h1,bind_some];dsimp only;rw [ag,bind_some,bind_some,bind_some];dsimp only;rw [oY,aN,nX oM,bind_some];dsimp only;rw [xh gl];rfl
theorem d5 {n g k:Nat} (h:k ∈ aG n g):k < n/\g.testBit k=true:=by
 obtain ⟨h1,h2⟩:=List.mem_filter.mp h;exact ⟨List.mem_range.mp h1,h2⟩
theorem xM {a b:List Nat}:a.map vw++b.map vw=(a++b).map vw:=by rw [List.map_append]
theorem nu {M:Nat}{hs:List (List Nat)} (hk:HK M hs) {g:Nat}:pm bq [ae M hs,.int (g:Int)] st=some (.fz ((gm hs g).map vw),st):=by
 have key:∃ r,bq [ae M hs,.int (g:Int)] []=some r/\r=(.ref 0,[.lst ((gm hs g).map vw),.lst (nL (aG hs.length g))]):=by
  rw [bq,bd];show ∃ r,(ao [br] gL [some (ae M hs),some (.int (g:Int)),none,none] []).bind aw=some r/\_;refine aD (sl':=[some (ae M hs),some (.int (g:Int)),some (.ref 0),none]) (st':=[.lst []]) rfl ?_;refine cV (gd:=[(1,.lst (nL (aG hs.length g)))]) (xs:=aG hs.length g) (em:=fun q:Nat=>AV.int (q:Int)) (fun i (a:List Nat) sl st=>(∃ y,sl=[some (ae M hs),some (.int (g:Int)),some (.ref 0),y])/\st=[.lst (a.map vw),.lst (nL (aG hs.length g))]/\a.length <= 3 * i) (fun a k=>a++hs.getD k []) [] (uX hk rfl rfl) ⟨⟨none,rfl⟩,rfl,by simp⟩ (fun i a sl st hI=>?_) (fun i a x sl st hx hI=>?_) fun sl' st' hI=>?_
  ·obtain ⟨_,rfl,_⟩:=hI;exact kH rfl
  ·obtain ⟨⟨y,rfl⟩,rfl,ha⟩:=hI
   have hm:=d5 (zW hx);have hi:i < hs.length:=by have:=(zB.mp hx).1;have:=eW (n:=hs.length) (g:=g);omega
   have hn:=hk.n;have hr:=hk.row x;refine ⟨([some (ae M hs),some (.int (g:Int)),some (.ref 0),some (.int (x:Int))],[.lst (a.map vw),.lst (nL (aG hs.length g))]),_,_,rfl,aq (vi (k:=0) (xs:=a.map vw) (y:=cx (hs.getD x [])) (ys:=(hs.getD x []).map vw) rfl ?_ rfl Ay (by rw [zH,zH];omega)) rfl,⟨_,rfl⟩,?_,by rw [zV];omega⟩
   ·simp only [aP,ar,aH,ai,ak,bind_some,map_some,dG,gD hm.1]
   ·rw [xM];rfl
  ·obtain ⟨⟨y,rfl⟩,rfl,_⟩:=hI
   rw [kJ,List.nil_append];exact bH (v:=.ref 0) rfl rfl
 obtain ⟨r,e,rfl⟩:=key;refine aO (by simp) e ?_;show (aM (bz 5 _) ((gm hs g).map vw)).map AV.fz=_;rw [pQ];rfl
theorem qA {n:Nat}{l:List (Nat × Nat)}{s:aa}:aM (bz (n + 1) s) (l.map pV)=some (l.map pV):=ck (f:=bz (n + 1) s) (i:=pV) (g:=pV) (fun x=>by cases n <;> rfl) l
theorem tG {M:Nat}{hs:List (List Nat)} (hk:HK M hs) {g:Nat}:pm cv [ae M hs,.int (g:Int)] st=some (.fz ((dN hs g).map pV),st):=by
 have key:∃ r,cv [ae M hs,.int (g:Int)] []=some r/\r=(.ref 0,[.lst ((dN hs g).map pV),.lst (nL (aG hs.length g))]):=by
  rw [cv,bd];show ∃ r,(ao [br] fN [some (ae M hs),some (.int (g:Int)),none,none] []).bind aw=some r/\_;refine aD (sl':=[some (ae M hs),some (.int (g:Int)),some (.ref 0),none]) (st':=[.lst []]) rfl ?_;refine cV (gd:=[(1,.lst (nL (aG hs.length g)))]) (xs:=aG hs.length g) (em:=fun q:Nat=>AV.int (q:Int)) (fun i (a:List (Nat × Nat)) sl st=>(∃ y,sl=[some (ae M hs),some (.int (g:Int)),some (.ref 0),y])/\st=[.lst (a.map pV),.lst (nL (aG hs.length g))]/\a.length <= 3 * i) (fun a k=>a++(List.range (hs.getD k []).length).map fun j=>(k,j)) [] (uX hk rfl rfl) ⟨⟨none,rfl⟩,rfl,by simp⟩ (fun i a sl st hI=>?_) (fun i a x sl st hx hI=>?_) fun sl' st' hI=>?_
  ·obtain ⟨_,rfl,_⟩:=hI;exact kH rfl
  ·obtain ⟨⟨y,rfl⟩,rfl,ha⟩:=hI
   have hm:=d5 (zW hx);have hi:i < hs.length:=by have:=(zB.mp hx).1;have:=eW (n:=hs.length) (g:=g);omega
   have hn:=hk.n;have hr:=hk.row x;refine ⟨([some (ae M hs),some (.int (g:Int)),some (.ref 0),some (.int (x:Int))],[.lst (a.map pV),.lst (nL (aG hs.length g))]),_,_,rfl,aq (vi (k:=0) (xs:=a.map pV) (y:=.fz (((List.range (hs.getD x []).length).map fun j=>(x,j)).map pV)) (ys:=((List.range (hs.getD x []).length).map fun j=>(x,j)).map pV) rfl ?_ rfl rfl (by simp only [zH,List.length_range];omega)) rfl,⟨_,rfl⟩,?_,by simp only [zV,zH,List.length_range];omega⟩
   ·have hl:ev [br] (.bi .len (.cons (.ix (.ix (.v 0) (.i 1)) (.v 3)) .nil)) [some (ae M hs),some (.int (g:Int)),some (.ref 0),some (.int (x:Int))] [.lst (a.map pV),.lst (nL (aG hs.length g))]=some (.int (((hs.getD x []).length:Nat):Int),[.lst (a.map pV),.lst (nL (aG hs.length g))]):=by
     simp only [bG,ab,ag,aP,ar,aH,ai,ak,bind_some,map_some,dG,gD hm.1,cF];rw [cx,dk,zH]
    rw [cC,fI (k:=1) (t:=.nm 4) (c:=.no) (e:=.tu (.cons (.v 3) (.cons (.v 4) .nil))) (xs:=List.range (hs.getD x []).length) (em:=fun q:Nat=>AV.int (q:Int)) (B:=fun _=>true) (F:=fun j=>pV (x,j)) (ft hl oM) rfl (by rw [List.length_range];omega) fun q hq=>⟨[some (ae M hs),some (.int (g:Int)),some (.ref 0),some (.int (x:Int)),some (.int (q:Int))],rfl,rfl,fun _=>rfl⟩];rw [List.filter_eq_self.mpr fun _ _=>rfl,bind_some,List.map_map];dsimp only;exact yF (ci fun z hz=>by obtain ⟨i,_,rfl⟩:=yA.mp hz;rfl)
   ·rw [<- List.map_append];rfl
  ·obtain ⟨⟨y,rfl⟩,rfl,_⟩:=hI
   rw [kJ,List.nil_append];exact bH (v:=.ref 0) rfl rfl
 obtain ⟨r,e,rfl⟩:=key;refine aO (by simp) e ?_;show (aM (bz 5 _) ((dN hs g).map pV)).map AV.fz=_;rw [qA];rfl
theorem sL {rows:List Nat}{m:Nat}:(bZ rows m).length <= rows.length + 1:=by unfold bZ;split <;> simp
theorem EO {a b:Nat}:bI mz [.int (a:Int),.int (b:Int)] st=some (.int ((min a b:Nat):Int),st):=by
 show some (AV.int (if (b:Int) < (a:Int) then (b:Int) else (a:Int)),st)=_;have:(if (b:Int) < (a:Int) then (b:Int) else (a:Int))=((min a b:Nat):Int):=by split <;> omega
 rw [this]
theorem wX {k:Nat}{xs:List AV} (h:st[k]?=some (.lst xs)):bI dF [.ref k] st=some (.int ((xs.length:Nat):Int),st):=by
 unfold bI dF;simp [jN h]
theorem qh {ms:List Nat} (hl:ms.length <= 100):pm aA [.fz (nL ms)] st=some (.int ((rk ms:Nat):Int),st):=by
 have key:∃ r,aA [.fz (nL ms)] []=some r/\r.1=.int ((rk ms:Nat):Int):=by
  rw [aA,bd];show ∃ r,(ao [] fR [some (.fz (nL ms)),none,none,none] []).bind aw=some r/\_;refine aD (sl':=[some (.fz (nL ms)),some (.ref 0),none,none]) (st':=[.lst []]) rfl ?_;refine cV (gd:=[]) (xs:=ms) (em:=fun q:Nat=>AV.int (q:Int)) (fun i (a:List Nat) sl st=>(∃ y z,sl=[some (.fz (nL ms)),some (.ref 0),y,z])/\st=[.lst (nL a)]/\a.length <= i) bZ [] rfl ⟨⟨none,none,rfl⟩,rfl,by simp⟩ (fun _ _ _ _ _=>rfl) (fun i a x sl st hx hI=>?_) fun sl' st' hI=>?_
  ·obtain ⟨⟨y,z,rfl⟩,rfl,ha⟩:=hI
   have hi:i < ms.length:=(zB.mp hx).1;have body:∃ r,ao [] (.cons (.fo (.e (.v 1)) (.nm 3) (.cons (.as (.bi .min (.cons (.v 2) (.cons (.bin .BitXor (.v 2) (.v 3)) .nil))) (.nm 2)) .nil)) (.cons (.iff (.cmp .Gt (.v 2) (.i 0)) (.cons (.ex (.mt .app (.v 1) (.cons (.v 2) .nil))) .nil) .nil) .nil)) [some (.fz (nL ms)),some (.ref 0),some (.int (x:Int)),z] [.lst (nL a)]=some r/\∃ y z,r=.nx [some (.fz (nL ms)),some (.ref 0),y,z] [.lst (nL (bZ a x))]:=by
    refine nl (gd:=[(0,.lst (nL a))]) (xs:=a) (em:=fun q:Nat=>AV.int (q:Int)) (fun i (m:Nat) sl st=>(∃ z,sl=[some (.fz (nL ms)),some (.ref 0),some (.int (m:Int)),z])/\st=[.lst (nL a)]) (fun m r=>min m (m ^^^ r)) x rfl ⟨⟨z,rfl⟩,rfl⟩ (fun i m sl st hI=>?_) (fun i m q sl st hq hI=>?_) fun sl' st' hI=>?_
    ·obtain ⟨_,rfl⟩:=hI;exact kH rfl
    ·obtain ⟨⟨z,rfl⟩,rfl⟩:=hI
     refine ⟨([some (.fz (nL ms)),some (.ref 0),some (.int (m:Int)),some (.int (q:Int))],[.lst (nL a)]),[some (.fz (nL ms)),some (.ref 0),some (.int ((min m (m ^^^ q):Nat):Int)),some (.int (q:Int))],_,rfl,aq ?_ rfl,⟨_,rfl⟩,rfl⟩;simp only [bQ,bG,ab,ag,aK,ar,ai,ak,bind_some,jc,map_some,rL,EO,cI];rfl
    ·obtain ⟨⟨z,rfl⟩,rfl⟩:=hI
     change ∃ r,ao [] _ [some (.fz (nL ms)),some (.ref 0),some (.int ((aZ a x:Nat):Int)),z] _=_/\_;by_cases h:aZ a x > 0
     ·refine bO (sl':=[some (.fz (nL ms)),some (.ref 0),some (.int ((aZ a x:Nat):Int)),z]) (st':=[.lst (nL (a++[aZ a x]))]) ?_ ⟨_,rfl,_,_,by unfold bZ;rw [yF h]⟩
      rw [aR,a7];simp only [ar,aH,ai,ak,bind_some,pH,map_some,yP (show (0:Int) < ((aZ a x:Nat):Int) by omega)];rw [yF trivial];refine (aq (fH (k:=0) (xs:=nL a) (y:=.int ((aZ a x:Nat):Int)) rfl rfl rfl (by simp;omega)) rfl).trans ?_;have e1:nL a++[AV.int ((aZ a x:Nat):Int)]=nL (a++[aZ a x]):=by unfold nL;simp
      rw [e1];rfl
     ·refine bO (sl':=[some (.fz (nL ms)),some (.ref 0),some (.int ((aZ a x:Nat):Int)),z]) (st':=[.lst (nL a)]) ?_ ⟨_,rfl,_,_,by unfold bZ;rw [yE h]⟩
      rw [aR,a7];simp only [ar,aH,ai,ak,bind_some,pH,map_some,z5 (show ¬ (0:Int) < ((aZ a x:Nat):Int) by omega)];rfl
   obtain ⟨r,e,y',z',rfl⟩:=body;exact ⟨([some (.fz (nL ms)),some (.ref 0),some (.int (x:Int)),z],[.lst (nL a)]),_,_,rfl,e,⟨_,_,rfl⟩,rfl,by have:=sL (rows:=a) (m:=x);omega⟩
  ·obtain ⟨⟨y,z,rfl⟩,rfl,_⟩:=hI
   refine bH (v:=.int ((rk ms:Nat):Int)) (st':=[.lst (nL (ms.foldl bZ []))]) ?_ rfl;have:rk ms=(ms.foldl bZ []).length:=(ue ms).symm;rw [this];simp only [bP,bG,ab,ag,ar,ai,ak,bind_some,cF,wX (show ([.lst (nL (ms.foldl bZ []))]:aa)[0]?=_ from rfl),dj]
 obtain ⟨⟨v,s'⟩,e,h⟩:=key;have h:v=.int ((rk ms:Nat):Int):=h;subst h;exact aO (by simp) e rfl
end
def lV (l:L3):AV:=.tup [.int ((2 ^ l.1:Nat):Int),.int (l.2.1:Int),.int (l.2.2:Int)]
section
variable {ks:List Fn}{sl:Sl}{st:aa}
theorem lM {l:List L3}:rfs (l.map lV)=true:=ci fun x hx=>by obtain ⟨i,_,rfl⟩:=yA.mp hx;rfl
theorem c6 {a b:AV}:cB st (.tup [a,b]) (.int 0)=some a:=rfl
theorem iD {a b:AV}:cB st (.tup [a,b]) (.int 1)=some b:=rfl
theorem qQ {ls:List L3}{x y:Nat}:pm bg [.fz (ls.map lV),.int (x:Int),.int (y:Int)] st=some (.tup [.int (((aY ls (x,y)).1:Nat):Int),.int (((aY ls (x,y)).2:Nat):Int)],st):=by
 have key:∃ r,bg [.fz (ls.map lV),.int (x:Int),.int (y:Int)] []=some r/\r=(.tup [.int (((aY ls (x,y)).1:Nat):Int),.int (((aY ls (x,y)).2:Nat):Int)],[]):=by
  rw [bg,bd];show ∃ r,(ao [] fg [some (.fz (ls.map lV)),some (.int (x:Int)),some (.int (y:Int)),none,none,none] []).bind aw=some r/\_;refine cV (gd:=[]) (xs:=ls) (em:=lV) (fun _ (p:Nat × Nat) sl st=>(∃ a b c,sl=[some (.fz (ls.map lV)),some (.int (p.1:Int)),some (.int (p.2:Int)),a,b,c])/\st=[]) (fun p l=>if p.1.testBit l.1=true then (p.1 ^^^ l.2.1,p.2 ^^^ l.2.2) else p) (x,y) rfl ⟨⟨none,none,none,rfl⟩,rfl⟩ (fun _ _ _ _ _=>rfl) (fun i p l sl st hx hI=>?_) fun sl' st' hI=>?_
  ·obtain ⟨⟨a,b,c,rfl⟩,rfl⟩:=hI
   have t0:tv [] (.cmp .NotEq (.bin .BitAnd (.v 1) (.v 3)) (.i 0)) [some (.fz (ls.map lV)),some (.int (p.1:Int)),some (.int (p.2:Int)),some (.int ((2 ^ l.1:Nat):Int)),some (.int (l.2.1:Int)),some (.int (l.2.2:Int))] []=some (p.1.testBit l.1,[]):=by
    simp only [a7,aK,ar,aH,ai,ak,bind_some,jw,map_some,fL,mV]
   cases hb:p.1.testBit l.1 with
   | false =>
    refine ⟨([some (.fz (ls.map lV)),some (.int (p.1:Int)),some (.int (p.2:Int)),some (.int ((2 ^ l.1:Nat):Int)),some (.int (l.2.1:Int)),some (.int (l.2.2:Int))],[]),_,[],rfl,aq (by rw [aR,t0,hb];rfl) rfl,⟨_,_,_,rfl⟩,rfl⟩
   | true =>
    refine ⟨([some (.fz (ls.map lV)),some (.int (p.1:Int)),some (.int (p.2:Int)),some (.int ((2 ^ l.1:Nat):Int)),some (.int (l.2.1:Int)),some (.int (l.2.2:Int))],[]),[some (.fz (ls.map lV)),some (.int ((p.1 ^^^ l.2.1:Nat):Int)),some (.int ((p.2 ^^^ l.2.2:Nat):Int)),some (.int ((2 ^ l.1:Nat):Int)),some (.int (l.2.1:Int)),some (.int (l.2.2:Int))],[],rfl,aq ?_ rfl,⟨_,_,_,rfl⟩,rfl⟩;rw [aR,t0,hb,bind_some];dsimp only;rw [yF rfl];simp only [cO,bQ,aK,ar,ai,ak,bind_some,jc,map_some,cI,mv,List.set_cons_succ,List.set_cons_zero,cL]
  ·obtain ⟨⟨a,b,c,rfl⟩,rfl⟩:=hI
   exact bH (st':=[]) rfl rfl
 obtain ⟨r,e,rfl⟩:=key;exact aO (by simp [lM]) e rfl
theorem Bl {m:Nat} (h:m ≠ 0) (h2:ev ks (.v 1) sl st=some (.int (m:Int),st)) (hm:m < 2 ^ 1000):ev ks (.bin .LShift (.i 1) (.bin .Sub (.mt .bl (.v 1) .nil) (.i 1))) sl st=some (.int ((2 ^ m.log2:Nat):Int),st):=by
 have hlt:m.log2 < 1000:=(Nat.log2_lt h).mpr hm;have hb:ev ks (.mt .bl (.v 1) .nil) sl st=some (.int ((Builtin.Int.intBits (m:Int):Nat):Int),st):=by
  rw [Ej];unfold kh;rw [h2,bind_some];rfl
 have e:=uD h;simp only [aK,aH,hb,bind_some,lO,map_some,e,dy (show m.log2 <= 1000 by omega)]
theorem xK {ls:List L3}{m q:Nat} (h:m ≠ 0) (hm:m < 2 ^ 1000) (hl:ls.length <= 100):pm cc [.fz (ls.map lV),.int (m:Int),.int (q:Int)] st=some (.fz ((cq ls m q).map lV),st):=by
 have key:∃ r,cc [.fz (ls.map lV),.int (m:Int),.int (q:Int)] []=some r/\r.1=.fz ((cq ls m q).map lV):=by
  rw [cc,bd];show ∃ r,(ao [] fM [some (.fz (ls.map lV)),some (.int (m:Int)),some (.int (q:Int)),none,none,none,none,none] []).bind aw=some r/\_;refine aD (sl':=[some (.fz (ls.map lV)),some (.int (m:Int)),some (.int (q:Int)),some (.int ((2 ^ m.log2:Nat):Int)),none,none,none,none]) (st':=[]) (by rw [bQ,Bl h rfl hm];rfl) ?_;refine aD (sl':=[some (.fz (ls.map lV)),some (.int (m:Int)),some (.int (q:Int)),some (.int ((2 ^ m.log2:Nat):Int)),some (.ref 0),none,none,none]) (st':=[.lst []]) rfl ?_;refine cV (gd:=[]) (xs:=ls) (em:=lV) (fun i (p:List L3) sl st=>(∃ a b c,sl=[some (.fz (ls.map lV)),some (.int (m:Int)),some (.int (q:Int)),some (.int ((2 ^ m.log2:Nat):Int)),some (.ref 0),a,b,c])/\st=[.lst (p.map lV)]/\p.length=i) (fun p l=>p++[cR m q l]) [] rfl ⟨⟨none,none,none,rfl⟩,rfl,rfl⟩ (fun _ _ _ _ _=>rfl) (fun i p l sl st hx hI=>?_) fun sl' st' hI=>?_
  ·obtain ⟨⟨a,b,c,rfl⟩,rfl,hp⟩:=hI
   have hi:i < ls.length:=(zB.mp hx).1;have t0:tv [] (.cmp .NotEq (.bin .BitAnd (.v 6) (.v 3)) (.i 0)) [some (.fz (ls.map lV)),some (.int (m:Int)),some (.int (q:Int)),some (.int ((2 ^ m.log2:Nat):Int)),some (.ref 0),some (.int ((2 ^ l.1:Nat):Int)),some (.int (l.2.1:Int)),some (.int (l.2.2:Int))] [.lst (p.map lV)]=some (l.2.1.testBit m.log2,[.lst (p.map lV)]):=by
    simp only [a7,aK,ar,aH,ai,ak,bind_some,jw,map_some,fL,mV]
   refine ⟨([some (.fz (ls.map lV)),some (.int (m:Int)),some (.int (q:Int)),some (.int ((2 ^ m.log2:Nat):Int)),some (.ref 0),some (.int ((2 ^ l.1:Nat):Int)),some (.int (l.2.1:Int)),some (.int (l.2.2:Int))],[.lst (p.map lV)]),[some (.fz (ls.map lV)),some (.int (m:Int)),some (.int (q:Int)),some (.int ((2 ^ m.log2:Nat):Int)),some (.ref 0),some (.int ((2 ^ l.1:Nat):Int)),some (.int (l.2.1:Int)),some (.int (l.2.2:Int))],[.lst ((p++[cR m q l]).map lV)],rfl,aq ?_ rfl,⟨_,_,_,rfl⟩,rfl,by simp [hp]⟩;have ap:∀ y:AV,List.map lV p++[lV (cR m q l)]=List.map lV (p++[cR m q l]):=fun _=>by simp
   rw [aR,t0,bind_some];dsimp only;unfold cR at ap ⊢;cases hb:l.2.1.testBit m.log2 with
   | false =>
    rw [yE (by simp)];rw [hb,yE (by simp)] at ap;rw [yE (by simp),<- ap .non];exact aq (fH (k:=0) (xs:=p.map lV) (y:=lV l) rfl rfl rfl (by simp;omega)) rfl
   | true =>
    rw [yF rfl];rw [hb,yF rfl] at ap;rw [yF rfl,<- ap .non];refine aq (fH (k:=0) (xs:=p.map lV) (y:=lV (l.1,l.2.1 ^^^ m,l.2.2 ^^^ q)) rfl ?_ rfl (by simp;omega)) rfl;simp only [lU,ab,ag,aK,ar,ai,ak,bind_some,jc,map_some];rfl
  ·obtain ⟨⟨a,b,c,rfl⟩,rfl,hp⟩:=hI
   have e1:(ls.foldl (fun p l=>p++[cR m q l]) [])=ls.map (cR m q):=by
    have:=kJ (f:=fun l=>[cR m q l]) ls []
    rw [this,List.nil_append];clear this hp;induction ls with
    | nil=>rfl
    | cons x ls ih=>rw [List.flatMap_cons,zO];exact congrArg (cR m q x::·) (ih (by simp at hl;omega))
   rw [e1];refine bH (v:=.fz ((cq ls m q).map lV)) (st':=[.lst ((ls.map (cR m q)).map lV)]) ?_ rfl;have e2:(ls.map (cR m q)).map lV++[lV (m.log2,m,q)]=(cq ls m q).map lV:=by unfold cq;simp
   have hn:fA [] (.cat (.v 4) (.nw false (.li (.cons (.tu (.cons (.v 3) (.cons (.v 1) (.cons (.v 2) .nil)))) .nil)))) [some (.fz (ls.map lV)),some (.int (m:Int)),some (.int (q:Int)),some (.int ((2 ^ m.log2:Nat):Int)),some (.ref 0),a,b,c] [.lst ((ls.map (cR m q)).map lV)]=some ((cq ls m q).map lV,[.lst ((ls.map (cR m q)).map lV)]):=by
    rw [<- e2,o6];unfold kC;show (if eB (((ls.map (cR m q)).map lV).length + 1)=true then _ else _)=_;rw [yF (iw (by simp;omega))];rfl
   rw [bP,cC,hn,bind_some];dsimp only;rw [yF lM];rfl
 obtain ⟨⟨v,s'⟩,e,h⟩:=key;have h:v=.fz ((cq ls m q).map lV):=h;subst h;exact aO (by simp [lM]) e rfl
theorem wV {ms:List Nat} (hb:∀ m ∈ ms,m < 2 ^ 41) (hl:ms.length <= 50):pm cG [.fz (ms.map vw)] st=some (.fz ((au [] 0 ms).map lV),st):=by
 have key:∃ r,cG [.fz (ms.map vw)] []=some r/\r=(.fz ((au [] 0 ms).map lV),[]):=by
  rw [cG,bd];show ∃ r,(ao [be,bg,cc] gO [some (.fz (ms.map vw)),none,none,none,none] []).bind aw=some r/\_;refine aD (sl':=[some (.fz (ms.map vw)),some (.fz []),none,none,none]) (st':=[]) rfl ?_;refine gW (gd:=[]) (xs:=ms.zipIdx) (em:=fun z:Nat × Nat=>AV.tup [.int (z.2:Int),vw z.1]) (fun i sl st=>(∃ a b c,sl=[some (.fz (ms.map vw)),some (.fz ((au [] 0 (ms.take i)).map lV)),a,b,c])/\st=[]/\(au [] 0 (ms.take i)).length <= i/\Bd 41 (au [] 0 (ms.take i))) ?_ (fun _ _ _ _=>rfl) ⟨⟨none,none,none,rfl⟩,rfl,by simp [au],by intro l hl;cases hl⟩ (fun i z sl st hx hI=>?_) fun sl' st' hI=>?_
  ·simp only [AO,ar,ai,bind_some,qY,map_some]
   unfold lh;rw [List.zipIdx_map,List.map_map];rfl
  ·obtain ⟨⟨a,b,c,rfl⟩,rfl,hL,hB⟩:=hI
   obtain ⟨m,j⟩:=z;rw [List.getElem?_zipIdx] at hx;obtain ⟨m',hm',e⟩:=zE.mp hx;cases e;rw [Nat.zero_add];have hi:i < ms.length:=(zB.mp hm').1;have mm:=hb m (zW hm');obtain ⟨L,eL⟩:∃ L,L=au [] 0 (ms.take i):=⟨_,rfl⟩;have en:au [] 0 (ms.take (i + 1))=cA L m (2 ^ i):=by
    rw [List.take_add_one,hm',Option.toList_some,ni,<- eL];rw [Nat.zero_add,List.length_take,Nat.min_eq_left (yR hi)]
   rw [en];rw [<- eL] at hL hB ⊢;have z1:(aY L (m,2 ^ i)).1 < 2 ^ 41:=kF hB mm;have s1:cK [be,bg,cc] (.as (.ca true 1 (.cons (.v 1) (.cons (.ca true 0 (.cons (.v 3) .nil)) (.cons (.bin .LShift (.i 1) (.v 2)) .nil)))) (.nm 4)) [some (.fz (ms.map vw)),some (.fz (L.map lV)),some (.int (i:Int)),some (vw m),c] []=some (.nx [some (.fz (ms.map vw)),some (.fz (L.map lV)),some (.int (i:Int)),some (vw m),some (.tup [.int (((aY L (m,2 ^ i)).1:Nat):Int),.int (((aY L (m,2 ^ i)).2:Nat):Int)])] []):=by
    have e0:=(dD (st:=[]) mm).1;simp only [bQ,aJ,ab,ag,ar,aH,aK,ai,ak,bind_some,ax,aN,bf];rw [show vw m=AV.fz (nL (bX m)) from rfl,e0,bind_some];dsimp only;rw [dy (show i <= 1000 by omega),map_some,bind_some,bind_some,bind_some,bind_some];dsimp only;rw [qQ];rfl
   have t0:tv [be,bg,cc] (.cmp .NotEq (.ix (.v 4) (.i 0)) (.i 0)) [some (.fz (ms.map vw)),some (.fz (L.map lV)),some (.int (i:Int)),some (vw m),some (.tup [.int (((aY L (m,2 ^ i)).1:Nat):Int),.int (((aY L (m,2 ^ i)).2:Nat):Int)])] []=some (!decide ((((aY L (m,2 ^ i)).1:Nat):Int)=0),[]):=by
    simp only [a7,aP,ar,aH,ai,ak,bind_some,c6,map_some,fL]
   have bl:=k4 L m (2 ^ i);have bb:Bd 41 (cA L m (2 ^ i)):=l0 hB mm;by_cases hz:(aY L (m,2 ^ i)).1=0
   ·have es:cA L m (2 ^ i)=L:=by unfold cA;rw [yE (by simp [hz])]
    rw [es] at bl bb ⊢;refine ⟨([some (.fz (ms.map vw)),some (.fz (L.map lV)),some (.int (i:Int)),some (vw m),c],[]),_,[],rfl,aq s1 (aq (sl':=[some (.fz (ms.map vw)),some (.fz (L.map lV)),some (.int (i:Int)),some (vw m),some (.tup [.int (((aY L (m,2 ^ i)).1:Nat):Int),.int (((aY L (m,2 ^ i)).2:Nat):Int)])]) (st':=[]) ?_ rfl),⟨_,_,_,rfl⟩,rfl,by omega,bb⟩;rw [aR,t0,bind_some];dsimp only;rw [hz];rfl
   ·have es:cA L m (2 ^ i)=cq L (aY L (m,2 ^ i)).1 (aY L (m,2 ^ i)).2:=by unfold cA;rw [yF hz]
    refine ⟨([some (.fz (ms.map vw)),some (.fz (L.map lV)),some (.int (i:Int)),some (vw m),c],[]),_,[],rfl,aq s1 (aq (sl':=[some (.fz (ms.map vw)),some (.fz ((cA L m (2 ^ i)).map lV)),some (.int (i:Int)),some (vw m),some (.tup [.int (((aY L (m,2 ^ i)).1:Nat):Int),.int (((aY L (m,2 ^ i)).2:Nat):Int)])]) (st':=[]) ?_ rfl),⟨_,_,_,rfl⟩,rfl,by omega,bb⟩;rw [aR,t0,bind_some];dsimp only;rw [z5 oM,Bool.not_false,yF rfl];refine aq ?_ rfl;simp only [bQ,aJ,ab,ag,aP,ar,aH,ai,ak,bind_some,ax,aN,bf,c6,iD,map_some];rw [xK hz (zJ z1 (Nat.pow_le_pow_right dC dC)) oM,<- es];rfl
  ·obtain ⟨⟨a,b,c,rfl⟩,rfl,_⟩:=hI
   rw [List.length_zipIdx,List.take_length];exact bH (v:=.fz ((au [] 0 ms).map lV)) (st':=[]) rfl rfl
 obtain ⟨r,e,rfl⟩:=key;exact aO (by simp [uI]) e rfl
end
end LW
namespace RK
theorem rR:∀ a b:Nat,a + b=(a ^^^ b) + 2 * (a &&& b):=by
 intro a
 induction a using Nat.strongRecOn with
 | ind a ih =>
  intro b;by_cases h:a=0
  ·subst h;simp
  ·have e:=ih (a / 2) oM (b / 2)
   have x1:(a ^^^ b) / 2=a / 2 ^^^ b / 2:=Nat.xor_div_two;have x2:(a &&& b) / 2=a / 2 &&& b / 2:=Nat.and_div_two;have m1:(a ^^^ b) % 2=(a + b) % 2:=by
    have:=Nat.xor_mod_two_pow (a:=a) (b:=b) (n:=1)
    simp only [Nat.pow_one] at this;rw [this];rcases Nat.mod_two_eq_zero_or_one a with h1 | h1 <;> rcases Nat.mod_two_eq_zero_or_one b with h2 | h2 <;> rw [h1,h2,Nat.add_mod,h1,h2] <;> rfl
   have m2:(a &&& b) % 2=(a % 2) * (b % 2):=by
    have:=Nat.and_mod_two_pow (a:=a) (b:=b) (n:=1)
    simp only [Nat.pow_one] at this;rw [this];rcases Nat.mod_two_eq_zero_or_one a with h1 | h1 <;> rcases Nat.mod_two_eq_zero_or_one b with h2 | h2 <;> rw [h1,h2] <;> rfl
   rcases Nat.mod_two_eq_zero_or_one a with h1 | h1 <;> rcases Nat.mod_two_eq_zero_or_one b with h2 | h2 <;> rw [h1,h2] at m2 <;> omega
theorem sI:∀ {l:List Nat},l.Nodup->∀ i,((l.map fun t=>2 ^ t).sum).testBit i=decide (i ∈ l):=by
 intro l hn;have:(l.map fun t=>2 ^ t).sum=gj l:=by
  induction l with
  | nil=>rfl
  | cons t l ih =>
   obtain ⟨h1,h2⟩:=List.nodup_cons.mp hn;rw [zO,List.sum_cons,ih h2,rR];have:2 ^ t &&& gj l=0:=by
    rw [Nat.and_comm];have e:(gj l).testBit t=false:=by rw [i7 h2];simp [h1]
    apply Nat.eq_of_testBit_eq;intro j;rw [Nat.testBit_and,Nat.testBit_two_pow,Nat.zero_testBit];by_cases hj:t=j
    ·subst hj;rw [e];rfl
    ·simp [hj]
   rw [this];rfl
 intro i;rw [this,i7 hn]
end RK
namespace LW
open PySem PySem.Spec L2 R RK
def TC (ls:List L3) (z:Nat):Nat:=2 ^ z.log2 + ((ls.filter fun l=>l.2.1.testBit z.log2).map fun l=>2 ^ l.1).sum
theorem xH {ls:List L3}{z:Nat} (hz:z ≠ 0) (hR:Rd (ls.map cu)) (hb:∀ l ∈ ls.map cu,z.testBit l.1=false) (i:Nat):(TC ls z).testBit i=decide (i=z.log2\/∃ l ∈ ls.map cu,l.1=i/\l.2.testBit z.log2=true):=by
 have tz:z.testBit z.log2=true:=eO hz;have nd:(z.log2::(ls.filter fun l=>l.2.1.testBit z.log2).map fun l=>l.1).Nodup:=by
  refine List.nodup_cons.mpr ⟨fun h=>?_,?_⟩
  ·obtain ⟨l,hl,e⟩:=yA.mp h
   have:=hb (cu l) (yA.mpr ⟨l,(List.mem_filter.mp hl).1,rfl⟩)
   rw [show (cu l).1=z.log2 from e,tz] at this;cases this
  ·have h1:(ls.map fun l=>l.1).Nodup:=by
    have h2:=hR.2;rw [List.pairwise_map] at h2;unfold List.Nodup;rw [List.pairwise_map];refine h2.imp_of_mem fun {a b} ha hb' h e=>?_
    have:=hR.1 (cu a) (yA.mpr ⟨a,ha,rfl⟩)
    have h3:=h.1;rw [show (cu b).1=(cu a).1 from e.symm,this] at h3;cases h3
   exact (List.filter_sublist.map _).nodup h1
 have e:TC ls z=((z.log2::(ls.filter fun l=>l.2.1.testBit z.log2).map fun l=>l.1).map fun t=>2 ^ t).sum:=by
  unfold TC;rw [zO,List.sum_cons,List.map_map];rfl
 rw [e,sI nd];apply decide_eq_decide.mpr;simp only [zT,yA,List.mem_filter];constructor
 ·rintro (h | ⟨l,⟨h1,h2⟩,rfl⟩)
  ·exact .inl h
  ·exact .inr ⟨cu l,⟨l,h1,rfl⟩,rfl,h2⟩
 ·rintro (h | ⟨_,⟨l,h1,rfl⟩,rfl,h2⟩)
  ·exact .inl h
  ·exact .inr ⟨l,⟨h1,h2⟩,rfl⟩
section
variable {ks:List Fn}{sl:Sl}{st:aa}
theorem gH {xs:List AV}{s:aa} (h:rfs xs=true):(if rfs xs=true then some (AV.fz xs,s) else none)=some (.fz xs,s):=yF h
theorem sx {ls:List L3}{z:Nat} (hz:z ≠ 0) (hm:z < 2 ^ 1000) (hl:ls.length <= 100):pm b7 [.fz (ls.map lV),.int (z:Int)] st=some (.int ((TC ls z:Nat):Int),st):=by
 refine aO (by simp [lM]) (v:=.int ((TC ls z:Nat):Int)) (st':=[]) ?_ rfl;rw [b7,bd];show (ao [] dX [some (.fz (ls.map lV)),some (.int (z:Int)),none] []).bind aw=_;refine bV (sl':=[some (.fz (ls.map lV)),some (.int (z:Int)),some (.int ((2 ^ z.log2:Nat):Int))]) (st':=[]) (by rw [bQ,Bl hz rfl hm];rfl) (aW ?_);have hi:b8 ([]:List Fn) (.e (.v 0)) [some (.fz (ls.map lV)),some (.int (z:Int)),some (.int ((2 ^ z.log2:Nat):Int))] []=some (⟨ls.map lV,[]⟩,[]):=rfl;have go:=fI (ks:=[]) (k:=3) (t:=.tu 3 (.cons (.nm 3) (.cons (.nm 4) (.cons (.nm 5) .nil)))) (c:=.so (.cmp .NotEq (.bin .BitAnd (.v 4) (.v 2)) (.i 0))) (e:=.v 3) (xs:=ls) (em:=lV) hi rfl oM (B:=fun l=>l.2.1.testBit z.log2) (F:=fun l=>AV.int ((2 ^ l.1:Nat):Int)) fun l _=>⟨[some (.fz (ls.map lV)),some (.int (z:Int)),some (.int ((2 ^ z.log2:Nat):Int)),some (.int ((2 ^ l.1:Nat):Int)),some (.int (l.2.1:Int)),some (.int (l.2.2:Int))],rfl,by
   simp only [jt,a7,aK,ar,aH,ai,ak,bind_some,jw,map_some,fL,mV],fun _=>rfl⟩
 have e1:((ls.filter fun l=>l.2.1.testBit z.log2).map fun l=>AV.int ((2 ^ l.1:Nat):Int))=nL ((ls.filter fun l=>l.2.1.testBit z.log2).map fun l=>2 ^ l.1):=by unfold nL;rw [List.map_map];rfl
 rw [e1] at go;simp only [bP,aK,ar,ai,ak,bind_some,bG,ab,ag,cC,go,gH cj,rK,bI,p9,map_some,fF];unfold TC;rw [Int.natCast_add]
def bK (hs:List (List Nat)) (g v:Nat):Nat × Nat:=aY (au [] 0 (gm hs g)) (v,0)
def kX (hs:List (List Nat)) (g v:Nat):List (Nat × Nat):=((dN hs g).zipIdx.filter fun z=>(bK hs g v).2.testBit z.2).map (·.1)
def oX (M:Nat) (hs:List (List Nat)) (g v:Nat):List Nat:=aG M (TC (au [] 0 (gm hs g)) (bK hs g v).1)
def kV (M:Nat) (hs:List (List Nat)) (g v:Nat):List AV:=if (bK hs g v).1=0 then (kX hs g v).map pV else nL (oX M hs g v)
def kS (hs:List (List Nat)) (g v:Nat):Str:=if (bK hs g v).1=0 then "known" else "open"
theorem ud:∀ (ms:List Nat) (ls:List L3) (n:Nat),Bd 41 ls->(∀ m ∈ ms,m < 2 ^ 41)->Bd 41 (au ls n ms)/\(au ls n ms).length <= ls.length + ms.length:=by
 intro ms
 induction ms with
 | nil=>intro ls n h _;exact ⟨h,by simp [au]⟩
 | cons m ms ih =>
  intro ls n h hm;obtain ⟨h1,h2⟩:=ih (cA ls m (2 ^ n)) (n + 1) (l0 h (hm m (z4 ..))) fun x hx=>hm x (zQ _ hx)
  refine ⟨h1,?_⟩
  have:=k4 ls m (2 ^ n)
  simp only [au,yQ];omega
theorem ky {M:Nat}{hs:List (List Nat)} (h:HK M hs) (g:Nat):(dN hs g).length <= 12:=by
 have h1:(dN hs g).length <= 3 * (aG hs.length g).length:=vh fun k _=>by simpa using (h.row k).1
 have:=eW (n:=hs.length) (g:=g)
 have:=h.n
 omega
theorem wZ {M:Nat}{hs:List (List Nat)} (hk:HK M hs) {g v:Nat} (hv:v < 2 ^ 41):cw [ae M hs,.int (g:Int),vw v] st=some (.tup [.str (kS hs g v),.ref st.length],st++[.lst (kV M hs g v)]):=by
 have hl:=hk.len g;have hp:=ky hk g;have hb:∀ m ∈ gm hs g,m < 2 ^ 41:=fun m hm=>gA (hk.lt hm) hk.m
 obtain ⟨B,L⟩:=ud (gm hs g) [] 0 (fun l hl=>nomatch hl) hb;have z1:(bK hs g v).1 < 2 ^ 41:=kF B hv;have hM:=hk.m;rw [cw,bd];show (ao [bq,cG,be,bg,cv,b7,br] kQ [some (ae M hs),some (.int (g:Int)),some (vw v),none,none] st).bind aw=_;refine bV (sl':=[some (ae M hs),some (.int (g:Int)),some (vw v),some (.fz ((au [] 0 (gm hs g)).map lV)),none]) (st':=st) ?_ ?_
 ·simp only [bQ,aJ,ab,ag,ar,ai,ak,bind_some,ax,aN,bf,nu hk,wV hb oM,cI];rfl
 refine bV (sl':=[some (ae M hs),some (.int (g:Int)),some (vw v),some (.fz ((au [] 0 (gm hs g)).map lV)),some (.tup [.int (((bK hs g v).1:Nat):Int),.int (((bK hs g v).2:Nat):Int)])]) (st':=st) ?_ ?_
 ·have e0:=(dD (st:=st) hv).1
  have e1:=qQ (st:=st) (ls:=au [] 0 (gm hs g)) (x:=v) (y:=0);have e1:pm bg [.fz ((au [] 0 (gm hs g)).map lV),.int (v:Int),.int 0] st=_:=e1;simp only [bQ,aJ,ab,ag,ar,aH,ai,ak,bind_some,ax,aN,bf];rw [show vw v=AV.fz (nL (bX v)) from rfl,e0,bind_some];dsimp only;rw [bind_some,bind_some];dsimp only;rw [e1];rfl
 have t0:∀ ks:List Fn,tv ks (.cmp .Eq (.ix (.v 4) (.i 0)) (.i 0)) [some (ae M hs),some (.int (g:Int)),some (vw v),some (.fz ((au [] 0 (gm hs g)).map lV)),some (.tup [.int (((bK hs g v).1:Nat):Int),.int (((bK hs g v).2:Nat):Int)])] st=some (decide ((((bK hs g v).1:Nat):Int)=0),st):=fun ks=>by
  simp only [a7,aP,ar,aH,ai,ak,bind_some,c6,map_some,dW]
 unfold kV kS;by_cases hz:(bK hs g v).1=0
 ·rw [yF hz,yF hz]
  refine aW (s:=.iff _ _ _) ?_;rw [aR,t0,yP oM,bind_some];dsimp only;rw [yF rfl];refine pP ?_;have hi:b8 [bq,cG,be,bg,cv,b7,br] (.en (.ca true 4 (.cons (.v 0) (.cons (.v 1) .nil)))) [some (ae M hs),some (.int (g:Int)),some (vw v),some (.fz ((au [] 0 (gm hs g)).map lV)),some (.tup [.int (((bK hs g v).1:Nat):Int),.int (((bK hs g v).2:Nat):Int)])] st=some (⟨(dN hs g).zipIdx.map fun z=>AV.tup [.int ((z.2:Nat):Int),pV z.1],[]⟩,st):=by
   simp only [AO,aJ,ab,ag,ar,ai,ak,bind_some,ax,aN,bf,tG hk,qY,map_some];unfold lh;rw [List.zipIdx_map,List.map_map];rfl
  have go:=fI (k:=2) (t:=.tu 2 (.cons (.nm 5) (.cons (.nm 6) .nil))) (c:=.so (.cmp .NotEq (.bin .BitAnd (.ix (.v 4) (.i 1)) (.bin .LShift (.i 1) (.v 5))) (.i 0))) (e:=.v 6) (xs:=(dN hs g).zipIdx) hi rfl (by simp;omega) (B:=fun z=>(bK hs g v).2.testBit z.2) (F:=fun z=>pV z.1) fun z hz'=>⟨[some (ae M hs),some (.int (g:Int)),some (vw v),some (.fz ((au [] 0 (gm hs g)).map lV)),some (.tup [.int (((bK hs g v).1:Nat):Int),.int (((bK hs g v).2:Nat):Int)]),some (.int ((z.2:Nat):Int)),some (pV z.1)],rfl,by
    have hq:z.2 < (dN hs g).length:=by have:=List.mem_zipIdx' (x:=z.1) (i:=z.2) hz';exact this.1
    simp only [jt,a7,aK,aP,ar,aH,ai,ak,bind_some,iD,dy (show z.2 <= 1000 by omega),jw,map_some,fL,mV],fun _=>rfl⟩
  have e2:(((dN hs g).zipIdx.filter fun z=>(bK hs g v).2.testBit z.2).map fun z=>pV z.1)=(kX hs g v).map pV:=by unfold kX;rw [List.map_map];rfl
  rw [e2] at go;rw [bP,lU,ab,dw,bind_some];dsimp only;rw [ab,xP,go,bind_some];rfl
 ·rw [yE hz,yE hz]
  refine bV (sl':=[some (ae M hs),some (.int (g:Int)),some (vw v),some (.fz ((au [] 0 (gm hs g)).map lV)),some (.tup [.int (((bK hs g v).1:Nat):Int),.int (((bK hs g v).2:Nat):Int)])]) (st':=st) ?_ (aW ?_)
  ·rw [aR,t0,z5 oM];rfl
  ·have e3:=sx (st:=st) (ls:=au [] 0 (gm hs g)) hz (zJ z1 (Nat.pow_le_pow_right dC dC)) (by simp at L;omega)
   rw [bP,lU,ab,dw,bind_some];dsimp only;simp only [ab,ag,aJ,aP,ar,aH,ai,ak,bind_some,map_some,fu,c6,ax,oY,aN,bf,e3,nX (show M <= 100 by omega)];rfl
end
section
variable {ks:List Fn}{sl:Sl}{st:aa}
theorem gE {T a:String}{e:Ex}{x:AV}{b:Bool} (h:ev ks e sl st=some (x,st)) (h1:jP st x=some a) (h2:DD.isiT a T=some b):ev ks (.is T e) sl st=some (.bl b,st):=by
 show (ev ks e sl st).bind _=_;rw [h,bind_some];dsimp only;rw [h1,bind_some,h2];rfl
theorem tt:DD.isiT "tuple" "tuple"=some true:=by kernel_rfl
theorem ll:DD.isiT "list" "list"=some true:=by kernel_rfl
theorem ii:DD.isiT "int" "int"=some true:=by kernel_rfl
theorem ib:DD.isiT "int" "bool"=some false:=by kernel_rfl
theorem it:DD.isiT "int" "tuple"=some false:=by kernel_rfl
theorem ti:DD.isiT "tuple" "int"=some false:=by kernel_rfl
theorem kk:bA .Eq st (.str "known") (.str "known")=some true:=by kernel_rfl
theorem uV:bA .Eq st (.str "open") (.str "known")=some false:=by kernel_rfl
theorem oo:bA .Eq st (.str "open") (.str "open")=some true:=by kernel_rfl
theorem DH:bA .NotEq st (.str "open") (.str "open")=some false:=by kernel_rfl
theorem Fz:bA .NotEq st (.str "known") (.str "known")=some false:=by kernel_rfl
theorem DI:bA .NotEq st (.fz []) (.fz [])=some false:=by kernel_rfl
theorem dl {b:Bool}:lW st (.bl b)=some b:=rfl
theorem AB {a b:AV}:bI dF [.tup [a,b]] st=some (.int 2,st):=rfl
theorem nt {i:Int}:pm bN [.int i] st=some (.bl true,st):=by
 refine aO rfl (v:=.bl true) (st':=[]) ?_ rfl;rw [bN,bd];show (ao [] fi [some (.int i)] []).bind aw=_;refine aW ?_;rw [bP,gu,gE (x:=.int i) rfl rfl ii,bind_some];dsimp only;rw [gQ,yF rfl,xO,gE (x:=.int i) rfl rfl ib];rfl
theorem uW {x:Nat}:pm ce [.int (x:Int)] st=some (.bl (par 41 x),st):=by
 refine aO rfl (v:=.bl (par 41 x)) (st':=[]) ?_ rfl;rw [ce,bd];show (ao [aU] gP [some (.int (x:Int))] []).bind aw=_;refine aW ?_;have e1:decide ((((bX x).length % 2:Nat):Int)=1)=par 41 x:=by
  rw [nK];show _=((bX x).length % 2 == 1);rw [Bool.eq_iff_iff,beq_iff_eq,z7];omega
 simp only [bP,cz,aK,bG,ab,ag,aJ,ar,aH,ai,bind_some,ax,aN,mS,cF,dk,dj,kD,map_some,ik,dW,e1]
def kU (xs:List AV):Prop:=∀ (i:Nat) x y,xs[i]?=some x->xs[i + 1]?=some y->∀ st,bA .Lt st x y=some true
theorem nB {α:Type}{f:α->AV}{lt:α->α->Prop} (h:∀ a b,lt a b->∀ st,bA .Lt st (f a) (f b)=some true) {l:List α} (hl:l.Pairwise lt):kU (l.map f):=by
 intro i x y hx hy;rw [zR] at hx hy;obtain ⟨a,ha,rfl⟩:=zE.mp hx;obtain ⟨b,hb,rfl⟩:=zE.mp hy;refine h a b ?_;obtain ⟨h1,e1⟩:=zB.mp ha;obtain ⟨h2,e2⟩:=zB.mp hb
 have:=(List.pairwise_iff_getElem.mp hl) i (i + 1) h1 h2 oM
 rwa [e1,e2] at this
theorem mx {n g:Nat}:kU (nL (aG n g)):=nB (lt:=fun a b:Nat=>a < b) (fun a b h st=>by rw [ju,yP oM]) (List.pairwise_lt_range.filter _)
def DM (a b:Nat × Nat):Prop:=a.1 < b.1\/a.1=b.1/\a.2 < b.2
theorem pls_pw {hs:List (List Nat)}{g:Nat}:(dN hs g).Pairwise DM:=by
 unfold dN;rw [List.pairwise_flatMap];refine ⟨fun k _=>?_,(List.pairwise_lt_range.filter _).imp fun {a b} h x hx y hy=>?_⟩
 ·rw [List.pairwise_map];exact List.pairwise_lt_range.imp fun h=>.inr ⟨rfl,h⟩
 ·obtain ⟨_,_,rfl⟩:=yA.mp hx
  obtain ⟨_,_,rfl⟩:=yA.mp hy;exact .inl h
theorem kX_sub {hs:List (List Nat)}{g v:Nat}:(kX hs g v).Sublist (dN hs g):=by
 have:=(List.filter_sublist (p:=fun z:(Nat × Nat) × Nat=>(bK hs g v).2.testBit z.2) (l:=(dN hs g).zipIdx)).map (·.1)
 rwa [List.zipIdx_map_fst] at this
theorem n8 {hs:List (List Nat)}{g v:Nat}:kU ((kX hs g v).map pV):=nB (lt:=DM) (fun a b h st=>by
 show some (if (a.1:Int)=(b.1:Int) then decide ((a.2:Int) < (b.2:Int)) else decide ((a.1:Int) < (b.1:Int)))=_;rcases h with h | ⟨h1,h2⟩
 ·rw [yE oM,yP oM]
 ·rw [yF oM,yP oM]) (pls_pw.sublist kX_sub)
theorem xa {M:Nat}{hs:List (List Nat)}{g v:Nat}:kU (kV M hs g v):=by
 unfold kV;split
 ·exact n8
 ·exact mx
theorem vc {M:Nat}{hs:List (List Nat)}{g v:Nat}:rfs (kV M hs g v)=true:=by
 unfold kV;split
 ·exact ci fun x hx=>by obtain ⟨i,_,rfl⟩:=yA.mp hx;rfl
 ·exact cj
theorem mG {M:Nat}{hs:List (List Nat)}{g v:Nat} (hk:HK M hs):(kV M hs g v).length <= 41:=by
 unfold kV;split
 ·rw [zH]
  have:=(kX_sub (hs:=hs) (g:=g) (v:=v)).length_le
  have:=ky hk g
  omega
 ·rw [dj]
  have:=eW (n:=M) (g:=TC (au [] 0 (gm hs g)) (bK hs g v).1)
  have:=hk.m
  unfold oX;omega
theorem kx {hs:List (List Nat)}{g:Nat}{p:Nat × Nat} (h:p ∈ dN hs g):p.1 < hs.length/\g.testBit p.1=true/\p.2 < (hs.getD p.1 []).length:=by
 obtain ⟨k,h1,h2⟩:=List.mem_flatMap.mp h;obtain ⟨j,h3,rfl⟩:=yA.mp h2;exact ⟨(d5 h1).1,(d5 h1).2,List.mem_range.mp h3⟩
noncomputable def f9 (hs:List (List Nat)) (p:Nat × Nat):Nat:=(hs.getD p.1 []).getD p.2 0
theorem zc {hs:List (List Nat)}{g:Nat}:(dN hs g).map (f9 hs)=gm hs g:=by
 unfold dN gm;rw [List.map_flatMap];congr 1;funext k;rw [List.map_map];apply List.ext_getElem
 ·simp
 ·intro i h1 h2
  simp only [zH,List.length_range] at h1;simp only [List.getElem_map,List.getElem_range,Function.comp,f9];rw [zD,zF h1];rfl
theorem qW {hs:List (List Nat)}{g v:Nat} (h:(bK hs g v).1=0):(kX hs g v).foldl (fun a p=>a ^^^ f9 hs p) 0=v:=by
 unfold kX;rw [List.foldl_map,sn,zc,Nat.zero_xor];exact px _ _ h
theorem jk {M:Nat}{hs:List (List Nat)} (hk:HK M hs) {g v:Nat} (hv:v < 2 ^ M) (h:(bK hs g v).1 ≠ 0):∃ F,F < 2 ^ M/\(∀ i,F.testBit i=true->i < M)/\F ≠ 0/\oX M hs g v=aG M F/\(∀ m ∈ gm hs g,par 41 (m &&& F)=false)/\par 41 (v &&& F)=true:=by
 obtain ⟨hR,hS⟩:=mC (gm hs g);have ez:(bK hs g v).1=b9 ((au [] 0 (gm hs g)).map cu) v:=gB _ _;have hb:∀ l ∈ (au [] 0 (gm hs g)).map cu,(bK hs g v).1.testBit l.1=false:=by rw [ez];exact iB _ v hR.tri
 have hT:=xH h hR hb;have em:((au [] 0 (gm hs g)).map cu).map (·.2)=(au [] 0 (gm hs g)).map (·.2.1):=by rw [List.map_map];rfl
 have lt:∀ m ∈ gm hs g,m < 2 ^ M:=fun m hm=>hk.lt hm
 have ll:∀ l ∈ (au [] 0 (gm hs g)).map cu,l.1 < M:=fun l hl=>by
  have h1:=hR.1 l hl;have h2:l.2 ∈ ad ((au [] 0 (gm hs g)).map (·.2.1)):=aQ (by rw [<- em];exact yA.mpr ⟨l,hl,rfl⟩);have h3:=l3 lt ((hS _).mp h2);apply Classical.byContradiction;intro hn;rw [Nat.testBit_lt_two_pow (zJ h3 (Nat.pow_le_pow_right dC oM))] at h1;cases h1
 have hs1:v ^^^ (bK hs g v).1 ∈ ad ((au [] 0 (gm hs g)).map (·.2.1)):=by rw [ez,<- em];exact iA _ _
 have zM:(bK hs g v).1 < 2 ^ M:=by
  have h3:=l3 lt ((hS _).mp hs1)
  have:=Nat.xor_lt_two_pow hv h3
  rwa [<- Nat.xor_assoc,Nat.xor_self,Nat.zero_xor] at this
 have cM:(bK hs g v).1.log2 < M:=(Nat.log2_lt h).mpr zM;have hM:=hk.m;have bits:∀ i,(TC (au [] 0 (gm hs g)) (bK hs g v).1).testBit i=true->i < M:=fun i hi=>by
  rw [hT,z7] at hi;rcases hi with rfl | ⟨l,hl,rfl,_⟩
  ·exact cM
  ·exact ll l hl
 obtain ⟨o1,o2⟩:=wC (N:=41) hR (fun l hl=>by have:=ll l hl;omega) (c:=(bK hs g v).1.log2) oM (eO h) hb hT;rw [em] at o1 o2;refine ⟨_,?_,bits,?_,rfl,fun m hm=>o1 m ((hS m).mpr (aQ hm)),o2 v hs1⟩
 ·apply Nat.lt_pow_two_of_testBit
  intro i hi;cases e:(TC (au [] 0 (gm hs g)) (bK hs g v).1).testBit i
  ·rfl
  ·have:=bits i e;omega
 ·intro e0
  have:=hT (bK hs g v).1.log2
  rw [e0,Nat.zero_testBit] at this
  have:=decide_eq_false_iff_not.mp this.symm
  exact this (.inl rfl)
end
section
variable {ks:List Fn}{sl:Sl}{st:aa}
theorem AD {α:Type}{k:Nat}{it:Ix}{t:Tg}{c:Cx'}{e:Ex}{gd:Gd}{em:α->AV}{xs:List α} (hi:b8 ks it sl st=some (⟨xs.map em,gd⟩,st)) (hg:bW gd st=true) (hz:xs.length <= 1000)
  (h:∀ x ∈ xs,∃ sl1,cU ks t (em x) (sl++List.replicate k none) st=some (sl1,st)/\mN ks c sl1 st=some (false,st)):ev ks (.nw false (.lc k it t c e)) sl st=some (.fz [],st):=by
 rw [cC,fI (B:=fun _=>false) (F:=fun _=>.non) hi hg hz fun x hx=>by obtain ⟨s,a,b⟩:=h x hx;exact ⟨s,a,b,fun z=>by cases z⟩];rw [List.filter_eq_nil_iff.mpr (by simp)];rfl
theorem gC {α:Type}{k:Nat}{it:Ix}{t:Tg}{e:Ex}{gd:Gd}{em F:α->AV}{xs:List α} (hi:b8 ks it sl st=some (⟨xs.map em,gd⟩,st)) (hg:bW gd st=true) (hz:xs.length <= 1000) (hr:rfs (xs.map F)=true)
  (h:∀ x ∈ xs,∃ sl1,cU ks t (em x) (sl++List.replicate k none) st=some (sl1,st)/\ev ks e sl1 st=some (F x,st)):ev ks (.nw false (.lc k it t .no e)) sl st=some (.fz (xs.map F),st):=by
 rw [cC,fI (B:=fun _=>true) (F:=F) hi hg hz fun x hx=>by obtain ⟨s,a,b⟩:=h x hx;exact ⟨s,a,rfl,fun _=>b⟩];rw [List.filter_eq_self.mpr fun _ _=>rfl];exact gH hr
theorem sV {X:List AV} (hX:kU X) (hl:X.length <= 41) {a b c d e f g h i j k:Option AV}{K:List Fn} (hs:sl=[a,b,c,d,some (.fz X),e,f,g,h,i,j]) :
  ev K (.nw false (.lc 1 (.r2 (.i 1) (.bi .len (.cons (.v 4) .nil))) (.nm 11) (.so (.no (.cmp .Lt (.ix (.v 4) (.bin .Sub (.v 11) (.i 1))) (.ix (.v 4) (.v 11))))) (.v 11))) sl []=some (.fz [],[]):=by
 subst hs;refine AD (gd:=[]) (xs:=List.range (X.length - 1)) (em:=fun q:Nat=>AV.int (1 + (q:Int))) ?_ rfl (by rw [List.length_range];omega) fun q hq=>?_
 ·rw [E4]
  show (if (eu 1 && eu ((X.length:Nat):Int))=true then some (Iv.mk (gw 1 (((X.length:Nat):Int) - 1).toNat) [],([]:aa)) else none)=_;have:eu ((X.length:Nat):Int)=true:=by
   unfold eu;refine yI ?_;rw [Int.natAbs_natCast];by_cases hz:X.length=0
   ·rw [hz];decide
   ·exact yR ((Nat.log2_lt hz).mpr (Nat.lt_of_le_of_lt hl dC))
  rw [yF (by rw [this];rfl),show (((X.length:Nat):Int) - 1).toNat=X.length - 1 by omega];rfl
 ·have hq:=List.mem_range.mp hq
  have h1:X[q]?=some X[q]:=zF oM;have h2:X[q + 1]?=some X[q + 1]:=zF oM;have i1:cB ([]:aa) (.fz X) (.int (q:Int))=some X[q]:=by rw [iF dE,gp,h1]
  have i2:cB ([]:aa) (.fz X) (.int (1 + (q:Int)))=some X[q + 1]:=by rw [show 1 + (q:Int)=((q + 1:Nat):Int) by omega,iF dE,gp,h2]
  refine ⟨[a,b,c,d,some (.fz X),e,f,g,h,i,j,some (.int (1 + (q:Int)))],rfl,?_⟩;simp only [jt,dg,a7,aP,aK,ar,aH,ak,ai,bind_some,lO,show 1 + (q:Int) - 1=(q:Int) by omega,i1,i2,map_some,hX q _ _ h1 h2,Bool.not_true]
theorem CH {l:List Nat}:bA .In st (.bl false) (.fz (l.map fun _=>AV.bl true))=some false:=by
 change oi st (.bl false) (.fz (l.map fun _=>AV.bl true))=some false;have h1:bE 9 st (.fz (l.map fun _=>AV.bl true))=some (.list (l.map fun _=>PyData.bool true)):=by
  show (aM (bE 8 st) _).map _=_;rw [ck (f:=bE 8 st) (i:=fun _:Nat=>AV.bl true) (g:=fun _=>PyData.bool true) (fun _=>rfl)];rfl
 show (some (PyData.bool false)).bind (fun q=>(bE 9 st _).bind _)=_;rw [show bE 9 st (AV.bl false)=some (PyData.bool false) from rfl,h1,bind_some];change (if (l.map fun _=>PyData.bool true).all (fun r=>DD.pyOk r (PyData.bool false))=true then some ((l.map fun _=>PyData.bool true).any fun r=>r.eqv (PyData.bool false)) else none)=some false;rw [yF (yL.mpr fun x hx=>by obtain ⟨_,_,rfl⟩:=yA.mp hx;kernel_rfl)];congr 1;rw [List.any_eq_false];intro x hx;obtain ⟨_,_,rfl⟩:=yA.mp hx;rw [show PyData.eqv (.bool true) (.bool false)=false by kernel_rfl];simp
theorem vT {M:Nat}{hs:List (List Nat)} (hk:HK M hs) {g v:Nat} (hv:v < 2 ^ M):a9 [ae M hs,.int (g:Int),vw v,.tup [.str (kS hs g v),.fz (kV M hs g v)]] []=some (.bl true,[]):=by
 have hX:=xa (M:=M) (hs:=hs) (g:=g) (v:=v);have hl:=mG (g:=g) (v:=v) hk;have hM:=hk.m;have hn:=hk.n;have key:∃ r,a9 [ae M hs,.int (g:Int),vw v,.tup [.str (kS hs g v),.fz (kV M hs g v)]] []=some r/\r=(.bl true,[]):=by
  rw [a9,bd];show ∃ r,(ao [bN,ah,av,ce] fj [some (ae M hs),some (.int (g:Int)),some (vw v),some (.tup [.str (kS hs g v),.fz (kV M hs g v)]),none,none,none,none,none,none,none] []).bind aw=some r/\_;refine aD (sl':=[some (ae M hs),some (.int (g:Int)),some (vw v),some (.tup [.str (kS hs g v),.fz (kV M hs g v)]),none,none,none,none,none,none,none]) (st':=[]) ?_ ?_
  ·rw [aR,c0,dg,dQ,gE (x:=.tup [.str (kS hs g v),.fz (kV M hs g v)]) rfl rfl tt]
   simp only [bind_some,dl,map_some,Bool.not_true,z6,if_false];rw [c0,a7];simp only [bG,ab,ag,ar,aH,ai,ak,bind_some,cF,AB,map_some,fL,decide_true,Bool.not_true,z6,if_false];rw [dg,dQ,gE (x:=.fz (kV M hs g v)) rfl rfl ll];rfl
  refine aD (sl':=[some (ae M hs),some (.int (g:Int)),some (vw v),some (.tup [.str (kS hs g v),.fz (kV M hs g v)]),some (.fz (kV M hs g v)),none,none,none,none,none,none]) (st':=[]) rfl ?_;refine aD (sl':=[some (ae M hs),some (.int (g:Int)),some (vw v),some (.tup [.str (kS hs g v),.fz (kV M hs g v)]),some (.fz (kV M hs g v)),none,none,none,none,none,none]) (st':=[]) ?_ ?_
  ·rw [aR,a7,sV hX hl (k:=none) rfl,bind_some]
   have:ev [bN,ah,av,ce] (.nw false (.li .nil)) [some (ae M hs),some (.int (g:Int)),some (vw v),some (.tup [.str (kS hs g v),.fz (kV M hs g v)]),some (.fz (kV M hs g v)),none,none,none,none,none,none] []=some (.fz [],[]):=rfl;dsimp only;rw [this,bind_some];dsimp only;rw [DI];rfl
  unfold kS kV;by_cases hz:(bK hs g v).1=0
  ·rw [yF hz,yF hz]
   have body:∃ r,ao [bN,ah,av,ce] (.cons (.as (.i 0) (.nm 5)) (.cons (.fo (.e (.v 4)) (.nm 6) (.cons (.iff (.or (.no (.va (.is "tuple" (.v 6)))) (.or (.cmp .NotEq (.bi .len (.cons (.v 6) .nil)) (.i 2)) (.or (.no (.va (.ca true 0 (.cons (.ix (.v 6) (.i 0)) .nil)))) (.no (.va (.ca true 0 (.cons (.ix (.v 6) (.i 1)) .nil))))))) (.cons (.rt (.b false)) .nil) .nil) (.cons (.as (.v 6) (.tu 2 (.cons (.nm 7) (.cons (.nm 8) .nil)))) (.cons (.iff (.or (.no (.ch .LtE .Lt (.i 0) (.v 7) (.bi .len (.cons (.ix (.v 0) (.i 1)) .nil)))) (.cmp .NotEq (.bin .Mod (.bin .FloorDiv (.v 1) (.bin .LShift (.i 1) (.v 7))) (.i 2)) (.i 1))) (.cons (.rt (.b false)) .nil) .nil) (.cons (.iff (.no (.ch .LtE .Lt (.i 0) (.v 8) (.bi .len (.cons (.ix (.ix (.v 0) (.i 1)) (.v 7)) .nil)))) (.cons (.rt (.b false)) .nil) .nil) (.cons (.as (.bin .BitXor (.v 5) (.ca true 1 (.cons (.ix (.ix (.ix (.v 0) (.i 1)) (.v 7)) (.v 8)) .nil))) (.nm 5)) .nil)))))) (.cons (.rt (.cmp .Eq (.v 5) (.ca true 1 (.cons (.v 2) .nil)))) .nil)))
     [some (ae M hs),some (.int (g:Int)),some (vw v),some (.tup [.str "known",.fz ((kX hs g v).map pV)]),some (.fz ((kX hs g v).map pV)),none,none,none,none,none,none] []=some r/\r=.rt (.bl true) []:=by
    refine bO (sl':=[some (ae M hs),some (.int (g:Int)),some (vw v),some (.tup [.str "known",.fz ((kX hs g v).map pV)]),some (.fz ((kX hs g v).map pV)),some (.int ((0:Nat):Int)),none,none,none,none,none]) (st':=[]) rfl ?_;refine nl (gd:=[]) (xs:=kX hs g v) (em:=pV) (fun _ (a:Nat) sl st=>(∃ x y z,sl=[some (ae M hs),some (.int (g:Int)),some (vw v),some (.tup [.str "known",.fz ((kX hs g v).map pV)]),some (.fz ((kX hs g v).map pV)),some (.int (a:Int)),x,y,z,none,none])/\st=[]) (fun a p=>a ^^^ f9 hs p) 0 rfl ⟨⟨none,none,none,rfl⟩,rfl⟩ (fun _ _ _ _ _=>rfl) (fun i a p sl st hp hI=>?_) fun sl' st' hI=>?_
    ·obtain ⟨⟨x,y,z,rfl⟩,rfl⟩:=hI
     obtain ⟨p1,p2,p3⟩:=kx (kX_sub.subset (zW hp));have mm:f9 hs p < 2 ^ 41:=gA ((hk.row p.1).2 _ (by unfold f9;rw [zD (l:=hs.getD p.1 []),zF p3];exact List.getElem_mem p3)) hM;refine ⟨([some (ae M hs),some (.int (g:Int)),some (vw v),some (.tup [.str "known",.fz ((kX hs g v).map pV)]),some (.fz ((kX hs g v).map pV)),some (.int (a:Int)),some (pV p),y,z,none,none],[]),[some (ae M hs),some (.int (g:Int)),some (vw v),some (.tup [.str "known",.fz ((kX hs g v).map pV)]),some (.fz ((kX hs g v).map pV)),some (.int ((a ^^^ f9 hs p:Nat):Int)),some (pV p),some (.int (p.1:Int)),some (.int (p.2:Int)),none,none],[],rfl,?_,⟨_,_,_,rfl⟩,rfl⟩;refine aq (sl':=[some (ae M hs),some (.int (g:Int)),some (vw v),some (.tup [.str "known",.fz ((kX hs g v).map pV)]),some (.fz ((kX hs g v).map pV)),some (.int (a:Int)),some (pV p),y,z,none,none]) (st':=[]) ?_ ?_
     ·rw [aR,c0,dg,dQ,gE (x:=pV p) rfl rfl tt]
      simp only [bind_some,dl,map_some,Bool.not_true,z6,if_false];rw [c0,a7];have hlen:∀ st:aa,bI dF [pV p] st=some (.int 2,st):=fun _=>rfl
      have h0:∀ st:aa,cB st (pV p) (.int 0)=some (.int (p.1:Int)):=fun _=>rfl
      have h1:∀ st:aa,cB st (pV p) (.int 1)=some (.int (p.2:Int)):=fun _=>rfl
      simp only [bG,ab,ag,ar,aH,ai,ak,bind_some,cF,hlen,map_some,fL,decide_true,Bool.not_true,z6,if_false];simp only [c0,dg,dQ,aJ,ab,ag,aP,ar,aH,ai,ak,bind_some,h0,h1,map_some,ax,aN,nt,dl,Bool.not_true,z6,if_false,cL]
     refine aq (sl':=[some (ae M hs),some (.int (g:Int)),some (vw v),some (.tup [.str "known",.fz ((kX hs g v).map pV)]),some (.fz ((kX hs g v).map pV)),some (.int (a:Int)),some (pV p),some (.int (p.1:Int)),some (.int (p.2:Int)),none,none]) (st':=[]) rfl ?_;refine aq (sl':=[some (ae M hs),some (.int (g:Int)),some (vw v),some (.tup [.str "known",.fz ((kX hs g v).map pV)]),some (.fz ((kX hs g v).map pV)),some (.int (a:Int)),some (pV p),some (.int (p.1:Int)),some (.int (p.2:Int)),none,none]) (st':=[]) ?_ ?_
     ·have d1:decide ((0:Int) <= (p.1:Int))=true:=yP oM
      have d2:decide ((p.1:Int) < ((hs.length:Nat):Int))=true:=yP oM;rw [aR,c0,dg,sF];simp only [bG,ab,ag,aP,dG,cF,dk,zH,ar,aH,ai,ak,bind_some,uA,d1,_root_.if_true,ju,d2,map_some,Bool.not_true,z6,if_false];simp only [a7,aK,ar,aH,ai,ak,bind_some,dy (show p.1 <= 1000 by omega),mU (show p.1 <= 1000 by omega),kD,map_some,fL,mT,p2,Bool.not_true,z6,if_false,cL]
     have len2:∀ st:aa,bI dF [cx (hs.getD p.1 [])] st=some (.int (((hs.getD p.1 []).length:Nat):Int),st):=fun st=>by rw [cx,dk,zH]
     refine aq (sl':=[some (ae M hs),some (.int (g:Int)),some (vw v),some (.tup [.str "known",.fz ((kX hs g v).map pV)]),some (.fz ((kX hs g v).map pV)),some (.int (a:Int)),some (pV p),some (.int (p.1:Int)),some (.int (p.2:Int)),none,none]) (st':=[]) ?_ ?_
     ·have d1:decide ((0:Int) <= (p.2:Int))=true:=yP oM
      have d2:decide ((p.2:Int) < (((hs.getD p.1 []).length:Nat):Int))=true:=yP oM;rw [aR,dg,sF];simp only [bG,ab,ag,aP,ar,aH,ai,ak,bind_some,uA,d1,_root_.if_true,dG,gD p1,map_some,cF,len2,ju,d2,Bool.not_true,z6,if_false,cL]
     refine aq ?_ rfl;have e0:=(dD (st:=[]) mm).2;have e1:cB ([]:aa) (cx (hs.getD p.1 [])) (.int (p.2:Int))=some (AV.fz (nL (bX (f9 hs p)))):=vd p3;simp only [bQ,aK,aJ,ab,ag,aP,ar,aH,ai,ak,bind_some,dG,gD p1,map_some,e1,ax,aN,bf,e0,jc,cI];rfl
    ·obtain ⟨⟨x,y,z,rfl⟩,rfl⟩:=hI
     rw [qW hz];refine ⟨_,pP ?_,rfl⟩;have e0:=(dD (st:=[]) (gA hv hM)).2;have e0:pm ah [vw v] []=_:=e0;simp only [bP,cz,aJ,ab,ag,ar,ai,ak,bind_some,ax,aN,bf,e0,ik,dW,decide_true,map_some]
   obtain ⟨r,e,rfl⟩:=body;refine bH (v:=.bl true) (st':=[]) ?_ rfl;rw [aR,a7];simp only [aP,ar,aH,dw,ai,ak,bind_some,c6,map_some,kk,_root_.if_true];exact e
  ·rw [yE hz,yE hz]
   obtain ⟨F,F1,F2,F3,eF,F4,F5⟩:=jk hk hv hz;rw [eF];obtain ⟨S,hS⟩:∃ S,S=([some (ae M hs),some (.int (g:Int)),some (vw v),some (.tup [.str "open",.fz (nL (aG M F))]),some (.fz (nL (aG M F))),none,none,none,none,none,none]:Sl):=⟨_,rfl⟩;have il:(aG M F).length <= M:=eW;have hi:b8 [bN,ah,av,ce] (.e (.v 4)) [some (ae M hs),some (.int (g:Int)),some (vw v),some (.tup [.str "open",.fz (nL (aG M F))]),some (.fz (nL (aG M F))),none,none,none,none,none,none] []=some (⟨(aG M F).map fun q:Nat=>AV.int (q:Int),[]⟩,[]):=rfl;refine aD (sl':=[some (ae M hs),some (.int (g:Int)),some (vw v),some (.tup [.str "open",.fz (nL (aG M F))]),some (.fz (nL (aG M F))),none,none,none,none,none,none]) (st':=[]) ?_ ?_
   ·rw [aR,a7]
    simp only [aP,ar,aH,dw,ai,ak,bind_some,c6,map_some,uV,z6,if_false,cL]
   refine aD (sl':=[some (ae M hs),some (.int (g:Int)),some (vw v),some (.tup [.str "open",.fz (nL (aG M F))]),some (.fz (nL (aG M F))),none,none,none,none,none,none]) (st':=[]) ?_ ?_
   ·have e1:=gC (k:=1) (t:=.nm 11) (e:=.ca true 0 (.cons (.v 11) .nil)) (xs:=aG M F) (em:=fun q:Nat=>AV.int (q:Int)) (F:=fun _=>AV.bl true) hi rfl oM (ci fun x hx=>by obtain ⟨i,_,rfl⟩:=yA.mp hx;rfl) fun q _=>⟨[some (ae M hs),some (.int (g:Int)),some (vw v),some (.tup [.str "open",.fz (nL (aG M F))]),some (.fz (nL (aG M F))),none,none,none,none,none,none,some (.int (q:Int))],rfl,by
     simp only [aJ,ab,ag,ar,ai,ak,bind_some,ax,aN,nt]⟩
    rw [aR,c0,a7];simp only [aP,ar,aH,dw,ai,ak,bind_some,c6,map_some,DH,z6,if_false];rw [a7,nv,bind_some];dsimp only;rw [e1,bind_some];dsimp only;rw [CH];rfl
   refine aD (sl':=[some (ae M hs),some (.int (g:Int)),some (vw v),some (.tup [.str "open",.fz (nL (aG M F))]),some (.fz (nL (aG M F))),none,none,none,none,none,none]) (st':=[]) ?_ ?_
   ·have e1:=AD (k:=1) (t:=.nm 11) (c:=.so (.no (.ch .LtE .Lt (.i 0) (.v 11) (.ix (.v 0) (.i 0))))) (e:=.v 11) (xs:=aG M F) (em:=fun q:Nat=>AV.int (q:Int)) hi rfl oM fun q hq=>⟨[some (ae M hs),some (.int (g:Int)),some (vw v),some (.tup [.str "open",.fz (nL (aG M F))]),some (.fz (nL (aG M F))),none,none,none,none,none,none,some (.int (q:Int))],rfl,by
     have d1:decide ((0:Int) <= (q:Int))=true:=yP oM;have d2:decide ((q:Int) < (M:Int))=true:=yP (by have:=(d5 hq).1;omega);simp only [jt,dg,sF,aP,ar,aH,ai,ak,bind_some,uA,d1,_root_.if_true,fu,map_some,ju,d2,Bool.not_true]⟩
    rw [aR,a7,e1,bind_some];have:ev [bN,ah,av,ce] (.nw false (.li .nil)) [some (ae M hs),some (.int (g:Int)),some (vw v),some (.tup [.str "open",.fz (nL (aG M F))]),some (.fz (nL (aG M F))),none,none,none,none,none,none] []=some (.fz [],[]):=rfl;dsimp only;rw [this,bind_some];dsimp only;rw [DI];rfl
   have eM:pm ah [.fz (nL (aG M F))] []=some (.int (F:Int),[]):=by
    have:=(qM (st:=[]) (l:=aG M F) (fun c hc=>by have:=(d5 hc).1;omega) oM).2
    rw [show S2 (aG M F)=F by unfold aG;rw [mY,Nat.mod_eq_of_lt F1]] at this;exact this
   refine aD (sl':=[some (ae M hs),some (.int (g:Int)),some (vw v),some (.tup [.str "open",.fz (nL (aG M F))]),some (.fz (nL (aG M F))),none,none,none,none,some (.int (F:Int)),none]) (st':=[]) ?_ ?_
   ·simp only [bQ,aJ,ab,ag,ar,ai,ak,bind_some,ax,aN,bf,eM,cI];rfl
   refine cV (gd:=[]) (xs:=gm hs g) (em:=fun q:Nat=>AV.int (q:Int)) (fun _ (_:Unit) sl st=>(∃ y,sl=[some (ae M hs),some (.int (g:Int)),some (vw v),some (.tup [.str "open",.fz (nL (aG M F))]),some (.fz (nL (aG M F))),none,none,none,none,some (.int (F:Int)),y])/\st=[]) (fun _ _=>()) () ?_ ⟨⟨none,rfl⟩,rfl⟩ (fun _ _ _ _ _=>rfl) (fun i _ m sl st hm hI=>?_) fun sl' st' hI=>?_
   ·simp only [ve,aJ,ab,ag,ar,ai,ak,bind_some,ax,aN,bf,kE hk,qZ,map_some];rfl
   ·obtain ⟨⟨y,rfl⟩,rfl⟩:=hI
    refine ⟨([some (ae M hs),some (.int (g:Int)),some (vw v),some (.tup [.str "open",.fz (nL (aG M F))]),some (.fz (nL (aG M F))),none,none,none,none,some (.int (F:Int)),some (.int (m:Int))],[]),[some (ae M hs),some (.int (g:Int)),some (vw v),some (.tup [.str "open",.fz (nL (aG M F))]),some (.fz (nL (aG M F))),none,none,none,none,some (.int (F:Int)),some (.int (m:Int))],[],rfl,aq ?_ rfl,⟨_,rfl⟩,rfl⟩;simp only [aR,dQ,aJ,ab,ag,aK,ar,ai,ak,bind_some,jw,map_some,ax,aN,bf,uW,F4 m (zW hm),dl,z6,if_false,cL]
   ·obtain ⟨⟨y,rfl⟩,rfl⟩:=hI
    refine bH (v:=.bl true) (st':=[]) ?_ rfl;have e0:=(dD (st:=[]) (gA hv hM)).2;have e0:pm ah [vw v] []=_:=e0;simp only [bP,aJ,ab,ag,aK,ar,ai,ak,bind_some,jw,map_some,ax,aN,bf,e0,uW,F5]
 obtain ⟨r,e,rfl⟩:=key;exact e
end
section
variable {ks:List Fn}{sl:Sl}{st:aa}
theorem kg {α:Type}{f:α->Bool}:∀ {l:List α},bI kT [.fz (l.map fun x=>AV.bl (f x))] st=some (.bl (l.all f),st):=by
 intro l;have:aM jy (l.map fun x=>AV.bl (f x))=some (l.map f):=ck (f:=jy) (i:=fun x=>AV.bl (f x)) (g:=f) (fun _=>rfl) l;show (((aM jy (l.map fun x=>AV.bl (f x))).map fun bs=>AV.bl (bs.all id)).map fun z=>(z,st))=_;rw [this];show some (AV.bl ((l.map f).all id),st)=_;rw [List.all_map];rfl
theorem Dj {α:Type}{f:α->Bool}:∀ {l:List α},bI mX [.fz (l.map fun x=>AV.bl (f x))] st=some (.bl (l.any f),st):=by
 intro l;have:aM jy (l.map fun x=>AV.bl (f x))=some (l.map f):=ck (f:=jy) (i:=fun x=>AV.bl (f x)) (g:=f) (fun _=>rfl) l;show (((aM jy (l.map fun x=>AV.bl (f x))).map fun bs=>AV.bl (bs.any id)).map fun z=>(z,st))=_;rw [this];show some (AV.bl ((l.map f).any id),st)=_;rw [List.any_map];rfl
theorem Fc:bI kT [.fz []] st=some (.bl true,st):=rfl
theorem j9 {α:Type}{f:α->Bool}{l:List α}:rfs (l.map fun x=>AV.bl (f x))=true:=ci fun x hx=>by obtain ⟨i,_,rfl⟩:=yA.mp hx;rfl
theorem Fa {X:List AV}:cut X (some 1) none=X.drop 1:=by
 unfold cut;cases X with
 | nil=>rfl
 | cons x X =>
  have h1:HT.GQ (x::X).length 0 (some 1)=1:=by simp [HT.GQ]
  have h2:HT.GQ (x::X).length (x::X).length none=(x::X).length:=by simp [HT.GQ]
  rw [h1,h2];simp
theorem jj {X:List AV} (hX:kU X) (hr:rfs X=true) (hl:X.length <= 41):pm aT [.fz X] st=some (.bl true,st):=by
 refine aO (by simp) (v:=.bl true) (st':=[]) ?_ rfl;rw [aT,bd];show (ao [] fP [some (.fz X)] []).bind aw=_;refine aW ?_;have hr1:rfs (X.drop 1)=true:=ci fun x hx=>by
  have:∀ xs:List AV,rfs xs=true->∀ x ∈ xs,rf x=true:=fun xs=>by
   induction xs with
   | nil=>intro _ x hx;cases hx
   | cons y ys ih =>
    intro h x hx;rw [BQ,zC] at h;rcases zT.mp hx with rfl | hx
    ·exact h.1
    ·exact ih h.2 x hx
  exact this X hr x (List.mem_of_mem_drop hx)
 have h1:ev ([]:List Fn) (.nw false (.sl (.v 0) (.so (.i 1)) .no)) [some (.fz X)] []=some (.fz (X.drop 1),[]):=by
  rw [cC,EM];unfold uZ;show (Option.bind (some (cut X (some 1) none,([]:aa))) _)=_;rw [Fa,bind_some];exact gH hr1
 have hi:b8 ([]:List Fn) (.zi (.v 0) (.nw false (.sl (.v 0) (.so (.i 1)) .no))) [some (.fz X)] []=some (⟨(X.zip (X.drop 1)).map fun z=>AV.tup [z.1,z.2],[]⟩,[]):=by
  rw [E1];unfold iZ;rw [show ev ([]:List Fn) (.v 0) [some (.fz X)] []=some (.fz X,[]) from rfl,bind_some];dsimp only;rw [h1];rfl
 have go:=gC (k:=2) (t:=.tu 2 (.cons (.nm 1) (.cons (.nm 2) .nil))) (e:=.cmp .Lt (.v 1) (.v 2)) (F:=fun _=>AV.bl true) hi rfl (by simp;omega) (ci fun x hx=>by obtain ⟨i,_,rfl⟩:=yA.mp hx;rfl) fun z hz=>⟨[some (.fz X),some z.1,some z.2],rfl,by
  obtain ⟨i,hi⟩:=List.getElem?_of_mem hz;rw [List.getElem?_zip_eq_some] at hi;obtain ⟨a,b⟩:=hi;rw [List.getElem?_drop,Nat.add_comm] at b;simp only [cz,ar,ai,ak,bind_some,ik,hX i _ _ a b,map_some]⟩
 rw [bP,bG,ab,go,bind_some];dsimp only;rw [ag,bind_some,bind_some];dsimp only;rw [gn,kg (f:=fun _=>true),bind_some];simp
theorem wj {M:Nat}{hs:List (List Nat)} (hk:HK M hs) {g:Nat}{p:Nat × Nat} (h:p ∈ dN hs g):pm bY [ae M hs,.int (g:Int),pV p] st=some (.bl true,st):=by
 obtain ⟨p1,p2,p3⟩:=kx h;have hn:=hk.n;refine aO (by simp [pV]) (v:=.bl true) (st':=[]) ?_ rfl;rw [bY,bd];show (ao [] eK [some (ae M hs),some (.int (g:Int)),some (pV p),none] []).bind aw=_;have hlen:∀ st:aa,bI dF [pV p] st=some (.int 2,st):=fun _=>rfl
 have h0:∀ st:aa,cB st (pV p) (.int 0)=some (.int (p.1:Int)):=fun _=>rfl
 have h1:∀ st:aa,cB st (pV p) (.int 1)=some (.int (p.2:Int)):=fun _=>rfl
 refine bV (sl':=[some (ae M hs),some (.int (g:Int)),some (pV p),none]) (st':=[]) ?_ ?_
 ·rw [aR,c0,dg,dQ,gE (x:=pV p) rfl rfl tt]
  simp only [bind_some,dl,map_some,Bool.not_true,z6,if_false,a7,bG,ab,ag,ar,aH,ai,ak,cF,hlen,fL,decide_true,cL]
 refine bV (sl':=[some (ae M hs),some (.int (g:Int)),some (pV p),some (.int (p.1:Int))]) (st':=[]) rfl ?_;refine bV (sl':=[some (ae M hs),some (.int (g:Int)),some (pV p),some (.int (p.1:Int))]) (st':=[]) ?_ (aW ?_)
 ·have d1:decide ((p.1:Int) < 0)=false:=z5 oM
  have d2:decide (((hs.length:Nat):Int) <= (p.1:Int))=false:=z5 oM;have d3:decide (((g &&& 2 ^ p.1:Nat):Int)=0)=false:=by have:=mV (g:=g) (k:=p.1);rw [p2] at this;simpa using this
  simp only [aR,c0,a7,bG,ab,ag,aP,aK,ar,aH,ai,ak,bind_some,map_some,ju,d1,z6,if_false,dG,cF,dk,zH,uB,d2,dy (show p.1 <= 1000 by omega),jw,dW,d3,cL]
 ·have d1:decide ((0:Int) <= (p.2:Int))=true:=yP oM
  have d2:decide ((p.2:Int) < (((hs.getD p.1 []).length:Nat):Int))=true:=yP oM;have len2:∀ st:aa,bI dF [cx (hs.getD p.1 [])] st=some (.int (((hs.getD p.1 []).length:Nat):Int),st):=fun st=>by rw [cx,dk,zH]
  simp only [bP,gu,cz,bG,ab,ag,aP,ar,aH,ai,ak,bind_some,map_some,h1,ik,uB,d1,gQ,_root_.if_true,dG,gD p1,cF,len2,ju,d2]
theorem wl {M:Nat}{hs:List (List Nat)}{g:Nat}{i:Int}:pm bY [ae M hs,.int (g:Int),.int i] st=some (.bl false,st):=by
 refine aO (by simp) (v:=.bl false) (st':=[]) ?_ rfl;rw [bY,bd];show (ao [] eK [some (ae M hs),some (.int (g:Int)),some (.int i),none] []).bind aw=_;refine aW (s:=.iff _ _ _) ?_;rw [aR,c0,dg,dQ,gE (x:=.int i) rfl rfl it];simp only [bind_some,dl,map_some,Bool.not_false,_root_.if_true,cO,bP,nv,dA]
theorem Bc {M:Nat}{hs:List (List Nat)}{q:Nat} (h:q < M):pm bT [ae M hs,.int (q:Int)] st=some (.bl true,st):=by
 refine aO (by simp) (v:=.bl true) (st':=[]) ?_ rfl;rw [bT,bd];show (ao [] fE [some (ae M hs),some (.int (q:Int))] []).bind aw=_;refine aW ?_;have d1:decide ((0:Int) <= (q:Int))=true:=yP oM;have d2:decide ((q:Int) < (M:Int))=true:=yP oM;rw [bP,gu,gE (x:=.int (q:Int)) rfl rfl ii];simp only [bind_some,gQ,_root_.if_true,gu,cz,aP,ar,aH,ai,ak,map_some,ik,uB,d1,fu,ju,d2]
theorem Be {M:Nat}{hs:List (List Nat)}{p:Nat × Nat}:pm bT [ae M hs,pV p] st=some (.bl false,st):=by
 refine aO (by simp [pV]) (v:=.bl false) (st':=[]) ?_ rfl;rw [bT,bd];show (ao [] fE [some (ae M hs),some (pV p)] []).bind aw=_;refine aW ?_;rw [bP,gu,gE (x:=pV p) rfl rfl ti];rfl
theorem EZ {c:Nat}{l:List Nat}:bA .In st (.int (c:Int)) (.fz (nL l))=some (decide (c ∈ l)):=by
 change oi st (.int (c:Int)) (.fz (nL l))=_;have h1:bE 9 st (.fz (nL l))=some (.list (l.map fun q:Nat=>PyData.int (q:Int))):=by
  show (aM (bE 8 st) _).map _=_;rw [show nL l=l.map fun q:Nat=>AV.int (q:Int) from rfl,ck (f:=bE 8 st) (i:=fun q:Nat=>AV.int (q:Int)) (g:=fun q:Nat=>PyData.int (q:Int)) (fun _=>rfl)];rfl
 show (some (PyData.int (c:Int))).bind (fun q=>(bE 9 st _).bind _)=_;rw [show bE 9 st (AV.int (c:Int))=some (PyData.int (c:Int)) from rfl,h1,bind_some];change (if (l.map fun q:Nat=>PyData.int (q:Int)).all (fun r=>DD.pyOk r (PyData.int (c:Int)))=true then some ((l.map fun q:Nat=>PyData.int (q:Int)).any fun r=>r.eqv (PyData.int (c:Int))) else none)=_;rw [yF (yL.mpr fun x hx=>by obtain ⟨_,_,rfl⟩:=yA.mp hx;simp [DD.pyOk,PyData.canLay0,PyData.depth])];congr 1;rw [List.any_map,Bool.eq_iff_iff,List.any_eq_true,z7];constructor
 ·rintro ⟨x,hx,e⟩
  have e:((x:Int) == (c:Int))=true:=e;have:x=c:=by have:=yH e;omega
  rwa [<- this]
 ·intro h
  exact ⟨c,h,show ((c:Int) == (c:Int))=true from beq_self_eq_true _⟩
theorem jg {M F m:Nat} (hF:∀ i,F.testBit i=true->i < M):pm bB [vw m,.fz (nL (aG M F))] st=some (.bl (par 41 (m &&& F)),st):=by
 refine aO (by simp [vw]) (v:=.bl (par 41 (m &&& F))) (st':=[]) ?_ rfl;rw [bB,bd];show (ao [] fO [some (vw m),some (.fz (nL (aG M F)))] []).bind aw=_;refine aW ?_;have hi:b8 ([]:List Fn) (.e (.v 0)) [some (vw m),some (.fz (nL (aG M F)))] []=some (⟨(bX m).map fun q:Nat=>AV.int (q:Int),[]⟩,[]):=rfl;have go:=fI (ks:=[]) (k:=1) (t:=.nm 2) (c:=.so (.cmp .In (.v 2) (.v 1))) (e:=.v 2) hi rfl (by have:=oA (m:=m);omega) (B:=fun q=>decide (q ∈ aG M F)) (F:=fun q:Nat=>AV.int (q:Int)) fun q _=>⟨[some (vw m),some (.fz (nL (aG M F))),some (.int (q:Int))],rfl,by
  simp only [jt,a7,ar,ai,ak,bind_some,EZ,map_some],fun _=>rfl⟩
 have e1:(bX m).filter (fun q=>decide (q ∈ aG M F))=bX (m &&& F):=by
  unfold bX;rw [List.filter_filter];apply List.filter_congr;intro q _;rw [Nat.testBit_and];cases hq:F.testBit q
  ·rw [z5 (fun h=>by rw [(d5 h).2] at hq;cases hq)];simp
  ·rw [yP (show q ∈ aG M F from List.mem_filter.mpr ⟨List.mem_range.mpr (hF q hq),hq⟩)];simp
 rw [e1] at go;have e2:decide ((((bX (m &&& F)).length % 2:Nat):Int)=1)=par 41 (m &&& F):=by
  rw [nK];show _=((bX (m &&& F)).length % 2 == 1);rw [Bool.eq_iff_iff,beq_iff_eq,z7];omega
 have go:fA _ _ _ _=some (nL (bX (m &&& F)),[]):=go;simp only [bP,cz,aK,bG,ab,ag,cC,go,bind_some,gH cj,cF,dk,dj,aH,kD,map_some,ik,dW,e2]
theorem sO {M:Nat}{hs:List (List Nat)} (hk:HK M hs) {g v:Nat} (hv:v < 2 ^ M) (hz:(bK hs g v).1=0):pm bj [ae M hs,.int (g:Int),vw v,.fz ((kX hs g v).map pV)] st=some (.bl true,st):=by
 have hl:(kX hs g v).length <= 12:=z0 kX_sub.length_le (ky hk g);have hr:rfs ((kX hs g v).map pV)=true:=ci fun x hx=>by obtain ⟨i,_,rfl⟩:=yA.mp hx;rfl
 have key:∃ r,bj [ae M hs,.int (g:Int),vw v,.fz ((kX hs g v).map pV)] []=some r/\r=(.bl true,[]):=by
  rw [bj,bd];show ∃ r,(ao [aT,bY,be] c7 [some (ae M hs),some (.int (g:Int)),some (vw v),some (.fz ((kX hs g v).map pV)),none,none,none] []).bind aw=some r/\_;refine aD (sl':=[some (ae M hs),some (.int (g:Int)),some (vw v),some (.fz ((kX hs g v).map pV)),none,none,none]) (st':=[]) ?_ ?_
  ·have hi:b8 [aT,bY,be] (.e (.v 3)) [some (ae M hs),some (.int (g:Int)),some (vw v),some (.fz ((kX hs g v).map pV)),none,none,none] []=some (⟨(kX hs g v).map pV,[]⟩,[]):=rfl
   have go:=gC (k:=1) (t:=.nm 7) (e:=.ca true 1 (.cons (.v 0) (.cons (.v 1) (.cons (.v 7) .nil)))) (F:=fun _=>AV.bl true) hi rfl oM j9 fun p hp=>⟨[some (ae M hs),some (.int (g:Int)),some (vw v),some (.fz ((kX hs g v).map pV)),none,none,none,some (pV p)],rfl,by
    simp only [aJ,ab,ag,ar,ai,ak,bind_some,ax,aN,bf,wj hk (kX_sub.subset hp)]⟩
   have al:(kX hs g v).all (fun _=>true)=true:=by simp
   simp only [aR,c0,dg,dQ,bG,ab,ag,go,bind_some,gn,kg (f:=fun _:Nat × Nat=>true),al,dl,map_some,Bool.not_true,z6,if_false,aJ,ar,ai,ak,ax,aN,jj (n8 (hs:=hs) (g:=g) (v:=v)) hr (by simp;omega),cL]
  refine aD (sl':=[some (ae M hs),some (.int (g:Int)),some (vw v),some (.fz ((kX hs g v).map pV)),some (.int ((0:Nat):Int)),none,none]) (st':=[]) rfl ?_;refine cV (gd:=[]) (xs:=kX hs g v) (em:=pV) (fun _ (a:Nat) sl st=>(∃ y z,sl=[some (ae M hs),some (.int (g:Int)),some (vw v),some (.fz ((kX hs g v).map pV)),some (.int (a:Int)),y,z])/\st=[]) (fun a p=>a ^^^ f9 hs p) 0 rfl ⟨⟨none,none,rfl⟩,rfl⟩ (fun _ _ _ _ _=>rfl) (fun i a p sl st hp hI=>?_) fun sl' st' hI=>?_
  ·obtain ⟨⟨y,z,rfl⟩,rfl⟩:=hI
   obtain ⟨p1,p2,p3⟩:=kx (kX_sub.subset (zW hp));have mm:f9 hs p < 2 ^ 41:=gA ((hk.row p.1).2 _ (by unfold f9;rw [zD (l:=hs.getD p.1 []),zF p3];exact List.getElem_mem p3)) hk.m;refine ⟨([some (ae M hs),some (.int (g:Int)),some (vw v),some (.fz ((kX hs g v).map pV)),some (.int (a:Int)),some (.int (p.1:Int)),some (.int (p.2:Int))],[]),[some (ae M hs),some (.int (g:Int)),some (vw v),some (.fz ((kX hs g v).map pV)),some (.int ((a ^^^ f9 hs p:Nat):Int)),some (.int (p.1:Int)),some (.int (p.2:Int))],[],rfl,aq ?_ rfl,⟨_,_,rfl⟩,rfl⟩;have e0:=(dD (st:=[]) mm).1;have e1:cB ([]:aa) (cx (hs.getD p.1 [])) (.int (p.2:Int))=some (AV.fz (nL (bX (f9 hs p)))):=vd p3;simp only [bQ,aK,aJ,ab,ag,aP,ar,aH,ai,ak,bind_some,dG,gD p1,map_some,e1,ax,aN,bf,e0,jc,cI];rfl
  ·obtain ⟨⟨y,z,rfl⟩,rfl⟩:=hI
   rw [qW hz];refine bH (v:=.bl true) (st':=[]) ?_ rfl;have e0:=(dD (st:=[]) (gA hv hk.m)).1;have e0:pm be [vw v] []=_:=e0;simp only [bP,cz,aJ,ab,ag,ar,ai,ak,bind_some,ax,aN,bf,e0,ik,dW,decide_true,map_some]
 obtain ⟨r,e,rfl⟩:=key;exact aO (by simp [vw]) e rfl
theorem sP {M:Nat}{hs:List (List Nat)}{g v:Nat}{l:List Nat} (h:l ≠ []) (hl:l.length <= 100):pm bj [ae M hs,.int (g:Int),vw v,.fz (nL l)] st=some (.bl false,st):=by
 refine aO (by simp [vw]) (v:=.bl false) (st':=[]) ?_ rfl;rw [bj,bd];show (ao [aT,bY,be] c7 [some (ae M hs),some (.int (g:Int)),some (vw v),some (.fz (nL l)),none,none,none] []).bind aw=_;refine aW (s:=.iff _ _ _) ?_;have hi:b8 [aT,bY,be] (.e (.v 3)) [some (ae M hs),some (.int (g:Int)),some (vw v),some (.fz (nL l)),none,none,none] []=some (⟨l.map fun q:Nat=>AV.int (q:Int),[]⟩,[]):=rfl;have go:=gC (k:=1) (t:=.nm 7) (e:=.ca true 1 (.cons (.v 0) (.cons (.v 1) (.cons (.v 7) .nil)))) (F:=fun _=>AV.bl false) hi rfl oM j9 fun p hp=>⟨[some (ae M hs),some (.int (g:Int)),some (vw v),some (.fz (nL l)),none,none,none,some (.int (p:Int))],rfl,by
  simp only [aJ,ab,ag,ar,ai,ak,bind_some,ax,aN,bf,wl]⟩
 have al:l.all (fun _=>false)=false:=by cases l with
  | nil=>exact absurd rfl h
  | cons=>simp
 simp only [aR,c0,dg,dQ,bG,ab,ag,go,bind_some,gn,kg (f:=fun _:Nat=>false),al,dl,map_some,Bool.not_false,_root_.if_true,cO,bP,nv,dA]
theorem oK {M:Nat}{hs:List (List Nat)} (hk:HK M hs) {g v:Nat} (hv:v < 2 ^ M) (hz:(bK hs g v).1 ≠ 0):pm bu [ae M hs,.int (g:Int),vw v,.fz (nL (oX M hs g v))] st=some (.bl true,st):=by
 obtain ⟨F,F1,F2,F3,eF,F4,F5⟩:=jk hk hv hz;rw [eF];have hM:=hk.m;have hL:=hk.len g;have il:(aG M F).length <= M:=eW;refine aO (by simp [vw]) (v:=.bl true) (st':=[]) ?_ rfl;rw [bu,bd];show (ao [aT,bT,bq,bB] cX [some (ae M hs),some (.int (g:Int)),some (vw v),some (.fz (nL (aG M F)))] []).bind aw=_;refine bV (sl':=[some (ae M hs),some (.int (g:Int)),some (vw v),some (.fz (nL (aG M F)))]) (st':=[]) ?_ (aW ?_)
 ·have hi:b8 [aT,bT,bq,bB] (.e (.v 3)) [some (ae M hs),some (.int (g:Int)),some (vw v),some (.fz (nL (aG M F)))] []=some (⟨(aG M F).map fun q:Nat=>AV.int (q:Int),[]⟩,[]):=rfl
  have go:=gC (k:=1) (t:=.nm 4) (e:=.ca true 1 (.cons (.v 0) (.cons (.v 4) .nil))) (F:=fun _=>AV.bl true) hi rfl oM j9 fun p hp=>⟨[some (ae M hs),some (.int (g:Int)),some (vw v),some (.fz (nL (aG M F))),some (.int (p:Int))],rfl,by
   simp only [aJ,ab,ag,ar,ai,ak,bind_some,ax,aN,bf,Bc (d5 hp).1]⟩
  have al:(aG M F).all (fun _=>true)=true:=by simp
  simp only [aR,c0,dg,dQ,bG,ab,ag,go,bind_some,gn,kg (f:=fun _:Nat=>true),al,dl,map_some,Bool.not_true,z6,if_false,aJ,ar,ai,ak,ax,aN,jj (mx (n:=M) (g:=F)) cj (by rw [dj];omega),cL]
 ·have hi:b8 [aT,bT,bq,bB] (.e (.ca true 2 (.cons (.v 0) (.cons (.v 1) .nil)))) [some (ae M hs),some (.int (g:Int)),some (vw v),some (.fz (nL (aG M F)))] []=some (⟨(gm hs g).map vw,[]⟩,[]):=by
   simp only [ve,aJ,ab,ag,ar,ai,ak,bind_some,ax,aN,bf,nu hk,qZ,map_some]
  have go:=gC (k:=1) (t:=.nm 4) (e:=.ca true 3 (.cons (.v 4) (.cons (.v 3) .nil))) (F:=fun _=>AV.bl false) hi rfl oM j9 fun m hm=>⟨[some (ae M hs),some (.int (g:Int)),some (vw v),some (.fz (nL (aG M F))),some (vw m)],rfl,by
   simp only [aJ,ab,ag,ar,ai,ak,bind_some,ax,aN,bf,jg F2,F4 m hm]⟩
  have al:(gm hs g).any (fun _=>false)=false:=by simp
  simp only [bP,gu,aJ,ab,ag,ar,ai,ak,bind_some,ax,aN,bf,jg F2,F5,gQ,_root_.if_true,xO,bG,go,Bo,Dj (f:=fun _:Nat=>false),al,Cn,Bool.not_false]
theorem oN {M:Nat}{hs:List (List Nat)}{g v:Nat}{l:List (Nat × Nat)} (hl:l.length <= 100):pm bu [ae M hs,.int (g:Int),vw v,.fz (l.map pV)] st=some (.bl false,st):=by
 have hr:rfs (l.map pV)=true:=ci fun x hx=>by obtain ⟨i,_,rfl⟩:=yA.mp hx;rfl
 refine aO (by simp [vw]) (v:=.bl false) (st':=[]) ?_ rfl;rw [bu,bd];show (ao [aT,bT,bq,bB] cX [some (ae M hs),some (.int (g:Int)),some (vw v),some (.fz (l.map pV))] []).bind aw=_;have hi:b8 [aT,bT,bq,bB] (.e (.v 3)) [some (ae M hs),some (.int (g:Int)),some (vw v),some (.fz (l.map pV))] []=some (⟨l.map pV,[]⟩,[]):=rfl;have go:=gC (k:=1) (t:=.nm 4) (e:=.ca true 1 (.cons (.v 0) (.cons (.v 4) .nil))) (F:=fun _=>AV.bl false) hi rfl oM j9 fun p hp=>⟨[some (ae M hs),some (.int (g:Int)),some (vw v),some (.fz (l.map pV)),some (pV p)],rfl,by
   simp only [aJ,ab,ag,ar,ai,ak,bind_some,ax,aN,bf,Be]⟩
 cases l with
 | nil =>
  have r0:pm aT [.fz []] []=some (.bl true,[]):=jj (fun i x y h=>by simp at h) rfl (by simp);have t0:pm bB [vw v,.fz []] []=some (.bl false,[]):=by
   have:=jg (st:=[]) (M:=0) (F:=0) (m:=v) (fun i hi=>by simp at hi)
   rwa [Nat.and_zero,mj] at this
  refine bV (sl':=[some (ae M hs),some (.int (g:Int)),some (vw v),some (.fz [])]) (st':=[]) ?_ (aW ?_)
  ·have al:([]:List (Nat × Nat)).all (fun _=>false)=true:=rfl
   have go:ev [aT,bT,bq,bB] (.nw false (.lc 1 (.e (.v 3)) (.nm 4) .no (.ca true 1 (.cons (.v 0) (.cons (.v 4) .nil))))) [some (ae M hs),some (.int (g:Int)),some (vw v),some (.fz [])] []=some (.fz [],[]):=go;rw [List.map_nil];simp only [aR,c0,dg,dQ,bG,ab,ag,go,bind_some,gn,Fc,dl,map_some,Bool.not_true,z6,if_false,aJ,ar,ai,ak,ax,aN,r0,cL]
  ·simp only [bP,gu,aJ,ab,ag,ar,ai,ak,bind_some,ax,aN,bf,t0,gQ,z6,if_false]
 | cons p l =>
  refine aW (s:=.iff _ _ _) ?_;have al:(p::l).all (fun _=>false)=false:=by simp
  simp only [aR,c0,dg,dQ,bG,ab,ag,go,bind_some,gn,kg (f:=fun _:Nat × Nat=>false),al,dl,map_some,Bool.not_false,_root_.if_true,cO,bP,nv,dA]
theorem Cm {M:Nat}{hs:List (List Nat)} (hk:HK M hs) {g v:Nat} (hv:v < 2 ^ M) (hz:(bK hs g v).1 ≠ 0):oX M hs g v ≠ []:=by
 obtain ⟨F,F1,F2,F3,eF,F4,F5⟩:=jk hk hv hz;rw [eF];intro e;apply F3;apply Nat.eq_of_testBit_eq;intro i;rw [Nat.zero_testBit];cases h:F.testBit i
 ·rfl
 ·have:i ∈ aG M F:=List.mem_filter.mpr ⟨List.mem_range.mpr (F2 i h),h⟩
  rw [e] at this;cases this
def kO (hs:List (List Nat)) (g v:Nat):Str:=if (bK hs g v).1=0 then "open" else "known"
theorem xo {M:Nat}{hs:List (List Nat)} (hk:HK M hs) {g v:Nat} (hv:v < 2 ^ M):aI [ae M hs,.int (g:Int),vw v,.tup [.str (kS hs g v),.fz (kV M hs g v)]] []=some (.bl true,[]):=by
 rw [aI,bd];show (ao [bj,bu] dq [some (ae M hs),some (.int (g:Int)),some (vw v),some (.tup [.str (kS hs g v),.fz (kV M hs g v)])] []).bind aw=_;unfold kS kV;by_cases hz:(bK hs g v).1=0
 ·rw [yF hz,yF hz]
  refine aW (s:=.iff _ _ _) ?_;simp only [aR,a7,aP,ar,aH,dw,ai,ak,bind_some,c6,iD,map_some,kk,_root_.if_true,cO,bP,aJ,ab,ag,ax,aN,sO hk hv hz,dA]
 ·rw [yE hz,yE hz]
  refine bV (sl':=[some (ae M hs),some (.int (g:Int)),some (vw v),some (.tup [.str "open",.fz (nL (oX M hs g v))])]) (st':=[]) ?_ (aW ?_)
  ·simp only [aR,a7,aP,ar,aH,dw,ai,ak,bind_some,c6,map_some,uV,z6,if_false,cL]
  ·simp only [bP,gu,cz,aP,ar,aH,dw,ai,ak,bind_some,c6,iD,map_some,ik,oo,gQ,_root_.if_true,aJ,ab,ag,ax,aN,bf,oK hk hv hz]
theorem xp {M:Nat}{hs:List (List Nat)} (hk:HK M hs) {g v:Nat} (hv:v < 2 ^ M):aI [ae M hs,.int (g:Int),vw v,.tup [.str (kO hs g v),.fz (kV M hs g v)]] []=some (.bl false,[]):=by
 rw [aI,bd];show (ao [bj,bu] dq [some (ae M hs),some (.int (g:Int)),some (vw v),some (.tup [.str (kO hs g v),.fz (kV M hs g v)])] []).bind aw=_;have hl:=mG (g:=g) (v:=v) hk;unfold kO;unfold kV at hl ⊢;by_cases hz:(bK hs g v).1=0
 ·rw [yF hz,yF hz]
  rw [yF hz,zH] at hl;refine bV (sl':=[some (ae M hs),some (.int (g:Int)),some (vw v),some (.tup [.str "open",.fz ((kX hs g v).map pV)])]) (st':=[]) ?_ (aW ?_)
  ·simp only [aR,a7,aP,ar,aH,dw,ai,ak,bind_some,c6,map_some,uV,z6,if_false,cL]
  ·simp only [bP,gu,cz,aP,ar,aH,dw,ai,ak,bind_some,c6,iD,map_some,ik,oo,gQ,_root_.if_true,aJ,ab,ag,ax,aN,bf,oN (show (kX hs g v).length <= 100 by omega)]
 ·rw [yE hz,yE hz]
  rw [yE hz,dj] at hl;refine aW (s:=.iff _ _ _) ?_;simp only [aR,a7,aP,ar,aH,dw,ai,ak,bind_some,c6,iD,map_some,kk,_root_.if_true,cO,bP,aJ,ab,ag,ax,aN,sP (Cm hk hv hz) (show (oX M hs g v).length <= 100 by omega),dA]
end
end LW
namespace R
open PySem PySem.Spec L2
def LK (k:Nat) (p:PyData):Prop:=p.canLay0=true/\p.depth <= k
theorem By {α:Type}{f:α->PyData}{k:Nat} (h:∀ x,LK k (f x)):∀ l:List α,PyData.canLayAll0 (l.map f)=true/\PyData.depthAll (l.map f) <= k:=by
 intro l
 induction l with
 | nil=>exact ⟨rfl,Nat.zero_le _⟩
 | cons x l ih =>
  rw [zO];obtain ⟨a,b⟩:=h x;exact ⟨by simp only [PyData.canLayAll0,a,ih.1,Bool.and_self],by simp only [PyData.depthAll];omega⟩
theorem kY {α:Type}{f:α->PyData}{k:Nat} (h:∀ x,LK k (f x)) (l:List α):LK (k + 1) (.list (l.map f)):=by
 obtain ⟨a,b⟩:=By h l;exact ⟨by simp only [PyData.canLay0,a],by simp only [PyData.depth];omega⟩
theorem ur {st:aa}{x:AV}{p:PyData} (h:bE 9 st x=some p) (hk:LK 9 p):jZ st x x=some true:=by
 obtain ⟨a,b⟩:=hk;unfold jZ;rw [h,bind_some,bind_some,yF (by unfold DD.pyOk;rw [a,yP oM];rfl),SeqAt.eqv_refl p a]
end R
namespace LW
open PySem PySem.Spec L2 R RK
section
variable {ks:List Fn}{sl:Sl}{st:aa}
theorem nW {x:AV}{p:PyData} (h:bE 9 st x=some p) (hk:LK 9 p):bA .NotEq st x x=some false:=by
 change (jZ st x x).map (fun b=>!b)=_;rw [ur h hk];rfl
theorem EH {n:Nat}{l:List Nat}:aM (bE n st) (nL l)=some (l.map fun q:Nat=>PyData.int (q:Int)):=ck (f:=bE n st) (i:=fun q:Nat=>AV.int (q:Int)) (g:=fun q:Nat=>PyData.int (q:Int)) (fun _=>by cases n <;> rfl) l
theorem uQ {n m:Nat}:bE (n + 1) st (vw m)=some (.list ((bX m).map fun q:Nat=>PyData.int (q:Int))):=by
 show (aM (bE n st) (nL (bX m))).map _=_;rw [EH];rfl
theorem AA (l:List Nat):LK 1 (.list (l.map fun q:Nat=>PyData.int (q:Int))):=kY (k:=0) (f:=fun q:Nat=>PyData.int (q:Int)) (fun _=>⟨rfl,zP _⟩) l
theorem B9 {M:Nat}{hs:List (List Nat)}:∃ p,bE 9 st (ae M hs)=some p/\LK 9 p:=by
 have h1:∀ r:List Nat,bE 7 st (cx r)=some (.list (r.map fun m=>.list ((bX m).map fun q:Nat=>PyData.int (q:Int)))):=fun r=>by
  show (aM (bE 6 st) (r.map vw)).map _=_;rw [ck (f:=bE 6 st) (i:=vw) (g:=fun m=>.list ((bX m).map fun q:Nat=>PyData.int (q:Int))) fun m=>uQ];rfl
 have h2:bE 8 st (.fz (hs.map cx))=some (.list (hs.map fun r=>.list (r.map fun m=>.list ((bX m).map fun q:Nat=>PyData.int (q:Int))))):=by
  show (aM (bE 7 st) (hs.map cx)).map _=_;rw [ck (f:=bE 7 st) (i:=cx) (g:=fun r=>.list (r.map fun m=>.list ((bX m).map fun q:Nat=>PyData.int (q:Int)))) h1];rfl
 refine ⟨.tuple [.int (M:Int),.list (hs.map fun r=>.list (r.map fun m=>.list ((bX m).map fun q:Nat=>PyData.int (q:Int))))],?_,?_⟩
 ·show (aM (bE 8 st) [.int (M:Int),.fz (hs.map cx)]).map PyData.tuple=_
  simp only [aM,h2,bind_some,map_some,show bE 8 st (.int (M:Int))=some (.int (M:Int)) from rfl]
 ·obtain ⟨a,b⟩:=kY (fun r:List Nat=>kY (fun m=>AA (bX m)) r) hs
  exact ⟨by simp only [PyData.canLay0,PyData.canLayAll0] at a ⊢;simp [a],by simp only [PyData.depth,PyData.depthAll] at b ⊢;omega⟩
theorem Cp {M:Nat}{hs:List (List Nat)}:bA .NotEq st (ae M hs) (ae M hs)=some false:=by
 obtain ⟨p,h,k⟩:=B9 (st:=st) (M:=M) (hs:=hs);exact nW h k
theorem Co {m:Nat}:bA .NotEq st (vw m) (vw m)=some false:=nW uQ (by obtain ⟨a,b⟩:=AA (bX m);exact ⟨a,by omega⟩)
theorem Bb {M:Nat}{hs:List (List Nat)} (hk:HK M hs):pm bw [ae M hs] st=some (ae M hs,st):=by
 refine aO (by simp) (v:=ae M hs) (st':=[]) ?_ rfl;rw [bw,bd];show (ao [] fT [some (ae M hs)] []).bind aw=_;refine aW ?_;have hn:=hk.n;have hi:b8 ([]:List Fn) (.e (.ix (.v 0) (.i 1))) [some (ae M hs)] []=some (⟨hs.map cx,[]⟩,[]):=rfl;have go:=gC (k:=1) (t:=.nm 1) (e:=.nw false (.lc 1 (.e (.v 1)) (.nm 2) .no (.nw false (.lof (.v 2))))) (F:=cx) hi rfl oM x8 fun r hr=>⟨[some (ae M hs),some (cx r)],rfl,by
  have h3:=(hk.r r hr).1;have hi2:b8 ([]:List Fn) (.e (.v 1)) [some (ae M hs),some (cx r)] []=some (⟨r.map vw,[]⟩,[]):=rfl;exact gC (F:=vw) hi2 rfl oM uI fun m _=>⟨[some (ae M hs),some (cx r),some (vw m)],rfl,by
   rw [cC,uY];show (if rfs (nL (bX m))=true then some (AV.fz (nL (bX m)),([]:aa)) else none)=_;exact gH cj⟩⟩
 rw [bP,lU,ab,aP];simp only [ar,aH,ai,bind_some,fu,map_some,ab,ag,go];rfl
theorem xu {M:Nat}:∀ (l:List (Nat × Nat)) (a:Nat),a < 2 ^ M->(∀ z ∈ l,z.1 < 2 ^ M)->l.foldl (fun a z=>a ^^^ z.1 * (z.2 % 2)) a < 2 ^ M:=by
 intro l
 induction l with
 | nil=>intro a h _;exact h
 | cons z l ih =>
  intro a h hl;rw [List.foldl_cons];refine ih _ (Nat.xor_lt_two_pow h ?_) fun y hy=>hl y (zQ _ hy)
  have:=hl z (z4 ..)
  have:z.2 % 2=0\/z.2 % 2=1:=by omega
  rcases this with e | e <;> rw [e]
  ·rw [Nat.mul_zero];exact Nat.two_pow_pos _
  ·rw [Nat.mul_one];assumption
theorem xN {M:Nat}{hs:List (List Nat)} (hk:HK M hs) {g:Nat}{c:Int}:∃ v,v < 2 ^ M/\pm bn [ae M hs,.int (g:Int),.int c] st=some (vw v,st):=by
 obtain ⟨D,eD,lD,bD⟩:=oy (c:=c) (many:=15) (st:=[]) dC;have eD:pm aL [.int c,.int 15,.int 65536] []=some (.fz (nL D),[]):=eD;have hL:=hk.len g;have hM:=hk.m;have key:∃ r,bn [ae M hs,.int (g:Int),.int c] []=some r/\∃ v,v < 2 ^ M/\r=(vw v,[]):=by
  rw [bn,bd];show ∃ r,(ao [av,aL,aU] fQ [some (ae M hs),some (.int (g:Int)),some (.int c),none,none,none,none,none] []).bind aw=some r/\_;refine aD (sl':=[some (ae M hs),some (.int (g:Int)),some (.int c),some (.fz (nL (gm hs g))),none,none,none,none]) (st':=[]) ?_ ?_
  ·simp only [bQ,aJ,ab,ag,ar,ai,ak,bind_some,ax,aN,kE hk,cI];rfl
  refine aD (sl':=[some (ae M hs),some (.int (g:Int)),some (.int c),some (.fz (nL (gm hs g))),some (.fz (nL D)),none,none,none]) (st':=[]) ?_ ?_
  ·simp only [bQ,aJ,ab,ag,ar,aH,ai,ak,bind_some,ax,aN,bf,eD,cI];rfl
  refine aD (sl':=[some (ae M hs),some (.int (g:Int)),some (.int c),some (.fz (nL (gm hs g))),some (.fz (nL D)),some (.int ((0:Nat):Int)),none,none]) (st':=[]) rfl ?_;have hi:b8 [av,aL,aU] (.zi (.v 3) (.v 4)) [some (ae M hs),some (.int (g:Int)),some (.int c),some (.fz (nL (gm hs g))),some (.fz (nL D)),some (.int ((0:Nat):Int)),none,none] []=some (⟨((gm hs g).zip D).map fun z=>AV.tup [.int ((z.1:Nat):Int),.int ((z.2:Nat):Int)],[]⟩,[]):=by
   show some (Iv.mk (((nL (gm hs g)).zip (nL D)).map fun z=>AV.tup [z.1,z.2]) ([]++[]),([]:aa))=_;unfold nL;rw [List.zip_map,List.map_map];rfl
  refine cV (gd:=[]) (xs:=(gm hs g).zip D) (fun _ (a:Nat) sl st=>(∃ y z,sl=[some (ae M hs),some (.int (g:Int)),some (.int c),some (.fz (nL (gm hs g))),some (.fz (nL D)),some (.int (a:Int)),y,z])/\st=[]) (fun a z=>a ^^^ z.1 * (z.2 % 2)) 0 hi ⟨⟨none,none,rfl⟩,rfl⟩ (fun _ _ _ _ _=>rfl) (fun i a p sl st hp hI=>?_) fun sl' st' hI=>?_
  ·obtain ⟨⟨y,z,rfl⟩,rfl⟩:=hI
   refine ⟨([some (ae M hs),some (.int (g:Int)),some (.int c),some (.fz (nL (gm hs g))),some (.fz (nL D)),some (.int (a:Int)),some (.int (p.1:Int)),some (.int (p.2:Int))],[]),[some (ae M hs),some (.int (g:Int)),some (.int c),some (.fz (nL (gm hs g))),some (.fz (nL D)),some (.int ((a ^^^ p.1 * (p.2 % 2):Nat):Int)),some (.int (p.1:Int)),some (.int (p.2:Int))],[],rfl,aq ?_ rfl,⟨_,_,rfl⟩,rfl⟩;have m1:bM .Mult ([]:aa) (.int (p.1:Int)) (.int ((p.2 % 2:Nat):Int))=some (.int ((p.1 * (p.2 % 2):Nat):Int)):=by rw [dI (lK oM),Int.natCast_mul]
   simp only [bQ,aK,ar,aH,ai,ak,bind_some,kD,map_some,m1,jc,cI];rfl
  ·obtain ⟨⟨y,z,rfl⟩,rfl⟩:=hI
   obtain ⟨w,hw⟩:∃ w,w=((gm hs g).zip D).foldl (fun a z=>a ^^^ z.1 * (z.2 % 2)) 0:=⟨_,rfl⟩;have lw:w < 2 ^ M:=by
    rw [hw];exact xu _ 0 (Nat.two_pow_pos _) fun z hz=>hk.lt (List.of_mem_zip hz).1
   rw [<- hw];have i13:cB ([]:aa) (.fz (nL D)) (.int 13)=some (.int ((D.getD 13 0:Nat):Int)):=n9 (k:=13) oM;have i14:cB ([]:aa) (.fz (nL D)) (.int 14)=some (.int ((D.getD 14 0:Nat):Int)):=n9 (k:=14) oM;have i12:cB ([]:aa) (.fz (nL D)) (.int 12)=some (.int ((D.getD 12 0:Nat):Int)):=n9 (k:=12) oM;have m3:∀ n:Nat,bM .Mod ([]:aa) (.int (n:Int)) (.int 3)=some (.int ((n % 3:Nat):Int)):=fun n=>lL (b:=3) dC
   have bt:∀ x:Nat,pm aU [.int (x:Int)] ([]:aa)=some (vw x,[]):=fun x=>mS
   by_cases h1:D.getD 13 0 % 3=0\/M=0
   ·refine bH (s:=.iff _ _ _) (v:=vw w) (st':=[]) ?_ ⟨w,lw,rfl⟩
    have tt:tv [av,aL,aU] (.or (.cmp .Eq (.bin .Mod (.ix (.v 4) (.i 13)) (.i 3)) (.i 0)) (.cmp .Eq (.ix (.v 0) (.i 0)) (.i 0))) [some (ae M hs),some (.int (g:Int)),some (.int c),some (.fz (nL (gm hs g))),some (.fz (nL D)),some (.int (w:Int)),y,z] []=some (true,[]):=by
     simp only [c0,a7,aK,aP,ar,aH,ai,ak,bind_some,i13,m3,map_some,dW,fu];by_cases h2:D.getD 13 0 % 3=0
     ·rw [yP oM];rfl
     ·have h3:M=0:=h1.resolve_left h2
      rw [z5 oM,h3];rfl
    rw [aR,tt,bind_some];dsimp only;rw [yF rfl];simp only [cO,bP,aJ,ab,ag,ar,ai,ak,bind_some,ax,aN,bf,bt,dA]
   ·have h2:¬ D.getD 13 0 % 3=0:=fun h=>h1 (.inl h)
    have h3:¬ M=0:=fun h=>h1 (.inr h)
    refine aD (sl':=[some (ae M hs),some (.int (g:Int)),some (.int c),some (.fz (nL (gm hs g))),some (.fz (nL D)),some (.int (w:Int)),y,z]) (st':=[]) ?_ ?_
    ·simp only [aR,c0,a7,aK,aP,ar,aH,ai,ak,bind_some,i13,m3,map_some,dW,fu]
     rw [z5 oM,z5 (show ¬ (M:Int)=0 by omega)];rfl
    have mM:∀ n:Nat,bM .Mod ([]:aa) (.int (n:Int)) (.int (M:Int))=some (.int ((n % M:Nat):Int)):=fun n=>lL (b:=M) oM
    by_cases h4:D.getD 13 0 % 3=1
    ·have lt:D.getD 14 0 % M < M:=Nat.mod_lt _ oM
     refine bH (s:=.iff _ _ _) (v:=vw (w ^^^ 2 ^ (D.getD 14 0 % M))) (st':=[]) ?_ ⟨_,Nat.xor_lt_two_pow lw (Nat.pow_lt_pow_right dC lt),rfl⟩;simp only [aR,a7,aK,aP,ar,aH,ai,ak,bind_some,i13,i14,m3,mM,map_some,dW,fu,yP (show ((D.getD 13 0 % 3:Nat):Int)=1 by omega),_root_.if_true,cO,bP,aJ,ab,ag,dy (show D.getD 14 0 % M <= 1000 by omega),jc,ax,aN,bf,bt,dA]
    ·refine aD (sl':=[some (ae M hs),some (.int (g:Int)),some (.int c),some (.fz (nL (gm hs g))),some (.fz (nL D)),some (.int (w:Int)),y,z]) (st':=[]) ?_ ?_
     ·simp only [aR,a7,aK,aP,ar,aH,ai,ak,bind_some,i13,m3,map_some,dW]
      rw [z5 oM];rfl
     ·refine bH (v:=vw (D.getD 14 0 * D.getD 12 0 % 2 ^ M)) (st':=[]) ?_ ⟨_,Nat.mod_lt _ (Nat.two_pow_pos _),rfl⟩
      have d1:D.getD 14 0 < 65536:=ol dC bD _;have two:(2:Nat) ^ 62=4611686018427387904:=by decide
      have m1:bM .Mult ([]:aa) (.int ((D.getD 14 0:Nat):Int)) (.int ((D.getD 12 0:Nat):Int))=some (.int ((D.getD 14 0 * D.getD 12 0:Nat):Int)):=by rw [dI (gz oM),Int.natCast_mul]
      simp only [bP,aJ,ab,ag,aK,aP,ar,aH,ai,ak,bind_some,i12,i14,m1,fu,map_some,dy (show M <= 1000 by omega),o9,ax,aN,bf,bt]
 obtain ⟨r,e,v,h1,rfl⟩:=key;exact ⟨v,h1,aO (by simp) e rfl⟩
end
section
variable {ks:List Fn}{sl:Sl}{st:aa}
theorem nI {fn:Fn}{a b c:AV}{s:Str}{k:Nat}{X:List AV}{r:Bool}{s':aa} (ha:fY st a=some a) (hb:fY st b=some b) (hc:fY st c=some c) (hk:st[k]?=some (.lst X)) (hX:aM (bz 4 st) X=some X) (h:fn [a,b,c,.tup [.str s,.fz X]] []=some (.bl r,s')):pm fn [a,b,c,.tup [.str s,.ref k]] st=some (.bl r,st):=by
 have h5:bz 5 st (.ref k)=some (.fz X):=by unfold bz;simp only [hk,hX,map_some]
 have h6:fY st (.tup [.str s,.ref k])=some (.tup [.str s,.fz X]):=by
  show (aM (bz 5 st) [.str s,.ref k]).map AV.tup=_;simp only [aM,h5,show bz 5 st (.str s)=some (.str s) from rfl,bind_some,map_some]
 unfold pm;rw [yE (by simp [rf])];have:aM (fY st) [a,b,c,.tup [.str s,.ref k]]=some [a,b,c,.tup [.str s,.fz X]]:=by simp only [aM,ha,hb,hc,h6,bind_some,map_some]
 rw [this,bind_some,h,bind_some];rfl
theorem qX {M:Nat}{hs:List (List Nat)}{g v:Nat}:aM (bz 4 st) (kV M hs g v)=some (kV M hs g v):=by
 unfold kV;split
 ·exact qA
 ·exact ck (f:=bz 4 st) (i:=fun q:Nat=>AV.int (q:Int)) (g:=fun q:Nat=>AV.int (q:Int)) (fun _=>rfl) _
theorem u9 {e:Ex}{x:AV}{xs:List AV} (h:ev ks e sl st=some (x,st)) (hx:cS st x=some xs) (hr:rfs xs=true):ev ks (.nw false (.lof e)) sl st=some (.fz xs,st):=by
 rw [cC,uY];unfold o8;rw [h,bind_some];dsimp only;rw [hx];exact gH hr
theorem Cr {e:Ex}{x:AV}{xs:List AV}{k:Nat}{sl':Sl} (h:ev ks e sl st=some (x,st)) (hx:cS st x=some xs) (hr:rfs xs=true) (hs:sl.set k (some (.fz xs))=sl'):cK ks (.as (.nw false (.lof e)) (.nm k)) sl st=some (.nx sl' st):=by
 rw [bQ,u9 h hx hr,bind_some,<- hs];rfl
theorem CF:bA .IsNot st (.bl true) (.bl true)=some false:=rfl
theorem CG:bA .IsNot st (.bl false) (.bl false)=some false:=rfl
theorem EL {hs:List (List Nat)}{g v:Nat}:bA .NotEq st (.str (kS hs g v)) (.str (kS hs g v))=some false:=by
 unfold kS;split
 ·exact Fz
 ·exact DH
theorem A8 {hs:List (List Nat)}{g v:Nat}:rk (gm hs g)=rk (gm hs g++[v]) ↔ (bK hs g v).1=0:=by
 obtain ⟨hR,hS⟩:=mC (gm hs g);have em:((au [] 0 (gm hs g)).map cu).map (·.2)=(au [] 0 (gm hs g)).map (·.2.1):=by rw [List.map_map];rfl
 have ez:(bK hs g v).1=b9 ((au [] 0 (gm hs g)).map cu) v:=gB _ _;have key:=gx hR.tri (x:=v) (z:=b9 ((au [] 0 (gm hs g)).map cu) v) (iA _ v) (iB _ v hR.tri);rw [em] at key;rw [ez,key,hS,qg];simp only [gr];by_cases h:v ∈ ad (gm hs g)
 ·simp [h]
 ·simp [h]
theorem CW {hs:List (List Nat)}{M g v:Nat}{F0 F1 F2 F3 F4 F5 F6:Fn}{fs:List Fn} (h10:ev (F0::F1::F2::F3::F4::F5::F6::fs) (.v 10) sl st=some (.fz (nL (gm hs g)),st)) (h8:ev (F0::F1::F2::F3::F4::F5::F6::fs) (.v 8) sl st=some (vw v,st)) (e5:F5=aA) (e6:F6=ah) (ek:ks=F0::F1::F2::F3::F4::F5::F6::fs) (hk:HK M hs) (hv:v < 2 ^ M) :
  ev ks (.ix (.nw false (.li (.cons (.s "open") (.cons (.s "known") .nil)))) (.bi .int (.cons (.cmp .Eq (.ca true 5 (.cons (.v 10) .nil)) (.ca true 5 (.cons (.nw false (.cat (.v 10) (.nw false (.li (.cons (.ca true 6 (.cons (.v 8) .nil)) .nil))))) .nil))) .nil))) sl st=some (.str (kS hs g v),st):=by
 subst ek;subst e5;subst e6;have hl:=hk.len g;have m1:pm ah [vw v] st=some (.int (v:Int),st):=(dD (gA hv hk.m)).2;have l1:ev (F0::F1::F2::F3::F4::aA::ah::fs) (.nw false (.li (.cons (.ca true 6 (.cons (.v 8) .nil)) .nil))) sl st=some (.fz (nL [v]),st):=by
  rw [cC,g7,ab,aJ,ab,h8,bind_some];dsimp only;rw [ag,bind_some,bind_some];dsimp only;rw [ax,show kf (F0::F1::F2::F3::F4::aA::ah::fs) 6=ah from rfl,m1];rfl
 have c1:ev (F0::F1::F2::F3::F4::aA::ah::fs) (.nw false (.cat (.v 10) (.nw false (.li (.cons (.ca true 6 (.cons (.v 8) .nil)) .nil))))) sl st=some (.fz (nL (gm hs g++[v])),st):=by
  rw [cC,o6];unfold kC;rw [h10,bind_some];dsimp only;rw [l1,bind_some];dsimp only;rw [dE,bind_some,dE,bind_some,yF (iw (by rw [dj,dj];simp;omega)),qH,bind_some];exact gH cj
 have b1:ev (F0::F1::F2::F3::F4::aA::ah::fs) (.cmp .Eq (.ca true 5 (.cons (.v 10) .nil)) (.ca true 5 (.cons (.nw false (.cat (.v 10) (.nw false (.li (.cons (.ca true 6 (.cons (.v 8) .nil)) .nil))))) .nil))) sl st=some (.bl (decide ((bK hs g v).1=0)),st):=by
  have k5:kf (F0::F1::F2::F3::F4::aA::ah::fs) 5=aA:=rfl;simp only [cz,aJ,ab,ag,h10,c1,bind_some,ax,k5,qh (show (gm hs g).length <= 100 by omega),qh (show (gm hs g++[v]).length <= 100 by simp;omega),ik,dW,map_some];congr 3;exact decide_eq_decide.mpr (by rw [<- A8];omega)
 rw [aP];have l2:ev (F0::F1::F2::F3::F4::aA::ah::fs) (.nw false (.li (.cons (.s "open") (.cons (.s "known") .nil)))) sl st=some (.fz [.str "open",.str "known"],st):=rfl;rw [l2,bind_some];dsimp only;rw [bG,ab,b1,bind_some];unfold kS;by_cases h:(bK hs g v).1=0
 ·rw [yP h,yF h];rfl
 ·rw [z5 h,yE h];rfl
theorem Cl {hs:List (List Nat)}{g v:Nat} (h:ev ks (.v 11) sl st=some (.str (kS hs g v),st)):ev ks (.ix (.nw false (.li (.cons (.s "known") (.cons (.s "open") .nil)))) (.bi .int (.cons (.cmp .Eq (.v 11) (.s "known")) .nil))) sl st=some (.str (kO hs g v),st):=by
 rw [aP];have l2:ev ks (.nw false (.li (.cons (.s "known") (.cons (.s "open") .nil)))) sl st=some (.fz [.str "known",.str "open"],st):=rfl;rw [l2,bind_some];dsimp only;rw [bG,ab,cz,h,bind_some];dsimp only;rw [dw,bind_some];dsimp only;rw [ik];unfold kS kO;by_cases h:(bK hs g v).1=0
 ·rw [yF h,yF h,kk];rfl
 ·rw [yE h,yE h,uV];rfl
theorem BP {ns:List Int} (hl:ns.length <= 63) (h:ev ks (.v 0) sl st=some (.fz (iL ns),st)):∃ N,b8 ks (.r3 (.i 0) (.bi .max (.cons (.i 2) (.cons (.bi .min (.cons (.i 40) (.cons (.bin .Sub (.bi .len (.cons (.v 0) .nil)) (.i 1)) .nil))) .nil))) (.i 2)) sl st=some (⟨(List.range N).map fun q:Nat=>AV.int ((2 * q:Nat):Int),[]⟩,st)/\True:=by
 obtain ⟨j,hj⟩:∃ j:Int,j=(if (if ((ns.length:Nat):Int) - 1 < 40 then ((ns.length:Nat):Int) - 1 else 40) > 2 then (if ((ns.length:Nat):Int) - 1 < 40 then ((ns.length:Nat):Int) - 1 else 40) else 2):=⟨_,rfl⟩;have b:∃ q:Nat,q <= 40/\2 <= q/\j=(q:Int):=⟨j.toNat,by rw [hj];split <;> split <;> omega,by rw [hj];split <;> split <;> omega,by rw [hj];split <;> split <;> omega⟩;have e:ev ks (.bi .max (.cons (.i 2) (.cons (.bi .min (.cons (.i 40) (.cons (.bin .Sub (.bi .len (.cons (.v 0) .nil)) (.i 1)) .nil))) .nil))) sl st=some (.int j,st):=by
  simp only [bG,ab,ag,aK,aH,h,bind_some,cF,dk,AS,lO,map_some,rL,Bn];rw [hj];rfl
 obtain ⟨q,q1,q2,rfl⟩:=b;refine ⟨dZ 0 (q:Int) 2,?_,trivial⟩;rw [E3];unfold vf;rw [aH,bind_some];dsimp only;rw [e,bind_some];dsimp only;rw [aH,bind_some];dsimp only;have ok:jC 0 (q:Int) 2=true:=by
  have:∀ q:Nat,q <= 40->jC 0 (q:Int) 2=true:=by decide
  exact this q q1
 rw [yF ok];have:ji 0 (q:Int) 2=(List.range (dZ 0 (q:Int) 2)).map fun q:Nat=>AV.int ((2 * q:Nat):Int):=by
  unfold ji;refine List.map_congr_left fun i _=>?_
  rw [show (0:Int) + (i:Int) * 2=((2 * i:Nat):Int) by omega]
 rw [this]
theorem xn {ns:List Int}{k M n g v:Nat}{c1 c2:Int}{hs:List (List Nat)}{t:Nat}{y14:Option AV} (hk:HK M hs) (hv:v < 2 ^ M):∃ sl2 st2,ao [aX,bo,bw,bn,av,aA,ah,cw,a9,aI] (.cons (.as (.ca false 7 (.cons (.v 4) (.cons (.v 7) (.cons (.v 9) .nil)))) (.nm 14)) (.cons (.iff (.or (.no (.va (.ca true 8 (.cons (.v 5) (.cons (.v 7) (.cons (.v 8) (.cons (.v 14) .nil))))))) (.or (.cmp .NotEq (.ix (.v 14) (.i 0)) (.v 11)) (.or (.cmp .NotEq (.v 4) (.v 5)) (.cmp .NotEq (.v 9) (.v 8))))) (.cons (.rt (.b false)) .nil) .nil) (.cons (.iff (.cmp .IsNot (.ca true 9 (.cons (.v 4) (.cons (.v 7) (.cons (.v 9) (.cons (.v 14) .nil))))) (.b true)) (.cons (.rt (.b false)) .nil) .nil) (.cons (.iff (.cmp .IsNot (.ca true 9 (.cons (.v 4) (.cons (.v 7) (.cons (.v 9) (.cons (.tu (.cons (.v 12) (.cons (.nw false (.lof (.ix (.v 14) (.i 1)))) .nil))) .nil))))) (.b false)) (.cons (.rt (.b false)) .nil) .nil) (.cons (.ex (.mt .app (.ix (.v 14) (.i 1)) (.cons (.ix (.v 14) (.i 1)) .nil))) .nil))))) [some (.fz (iL ns)),some (.int ((k:Nat):Int)),some (.int c1),some (.int (n:Int)),some (ae M hs),some (ae M hs),some (.int c2),some (.int (g:Int)),some (vw v),some (vw v),some (.fz (nL (gm hs g))),some (.str (kS hs g v)),some (.str (kO hs g v)),some (.int (t:Int)),y14] st=some (.nx sl2 st2)/\∃ y13 y14,sl2=[some (.fz (iL ns)),some (.int ((k:Nat):Int)),some (.int c1),some (.int (n:Int)),some (ae M hs),some (ae M hs),some (.int c2),some (.int (g:Int)),some (vw v),some (vw v),some (.fz (nL (gm hs g))),some (.str (kS hs g v)),some (.str (kO hs g v)),y13,y14]:=by
 have kl:=mG (g:=g) (v:=v) hk;have v41:v < 2 ^ 41:=gA hv hk.m;have gk:(st++[.lst (kV M hs g v)])[st.length]?=some (.lst (kV M hs g v)):=gl;have r1:=nI (st:=st++[.lst (kV M hs g v)]) (a:=ae M hs) (b:=.int (g:Int)) (c:=vw v) (s:=kS hs g v) rfl rfl rfl gk qX (vT hk hv);have r2:=nI (st:=st++[.lst (kV M hs g v)]) (a:=ae M hs) (b:=.int (g:Int)) (c:=vw v) (s:=kS hs g v) rfl rfl rfl gk qX (xo hk hv);have r3:pm aI [ae M hs,.int (g:Int),vw v,.tup [.str (kO hs g v),.fz (kV M hs g v)]] (st++[.lst (kV M hs g v)])=some (.bl false,st++[.lst (kV M hs g v)]):=aO (by simp [vw,vc]) (xp hk hv) rfl;refine ⟨_,_,aq (sl':=[some (.fz (iL ns)),some (.int ((k:Nat):Int)),some (.int c1),some (.int (n:Int)),some (ae M hs),some (ae M hs),some (.int c2),some (.int (g:Int)),some (vw v),some (vw v),some (.fz (nL (gm hs g))),some (.str (kS hs g v)),some (.str (kO hs g v)),some (.int (t:Int)),some (.tup [.str (kS hs g v),.ref st.length])]) (st':=st++[.lst (kV M hs g v)]) ?_ (aq (sl':=[some (.fz (iL ns)),some (.int ((k:Nat):Int)),some (.int c1),some (.int (n:Int)),some (ae M hs),some (ae M hs),some (.int c2),some (.int (g:Int)),some (vw v),some (vw v),some (.fz (nL (gm hs g))),some (.str (kS hs g v)),some (.str (kO hs g v)),some (.int (t:Int)),some (.tup [.str (kS hs g v),.ref st.length])]) (st':=st++[.lst (kV M hs g v)]) ?_ (aq (sl':=[some (.fz (iL ns)),some (.int ((k:Nat):Int)),some (.int c1),some (.int (n:Int)),some (ae M hs),some (ae M hs),some (.int c2),some (.int (g:Int)),some (vw v),some (vw v),some (.fz (nL (gm hs g))),some (.str (kS hs g v)),some (.str (kO hs g v)),some (.int (t:Int)),some (.tup [.str (kS hs g v),.ref st.length])]) (st':=st++[.lst (kV M hs g v)]) ?_ (aq (sl':=[some (.fz (iL ns)),some (.int ((k:Nat):Int)),some (.int c1),some (.int (n:Int)),some (ae M hs),some (ae M hs),some (.int c2),some (.int (g:Int)),some (vw v),some (vw v),some (.fz (nL (gm hs g))),some (.str (kS hs g v)),some (.str (kO hs g v)),some (.int (t:Int)),some (.tup [.str (kS hs g v),.ref st.length])]) (st':=st++[.lst (kV M hs g v)]) ?_ (aq (fH (k:=st.length) (xs:=kV M hs g v) (y:=.ref st.length) rfl rfl gk oM) rfl)))),_,_,rfl⟩
 ·simp only [bQ,aJ,ab,ag,ar,ai,ak,bind_some,oY,aN,bf,wZ hk v41,cI];rfl
 ·simp only [aR,c0,dg,dQ,a7,aJ,ab,ag,aP,ar,aH,ai,ak,bind_some,ax,aN,bf,r1,dl,map_some,Bool.not_true,z6,if_false,c6,EL,Cp,Co,cL]
 ·simp only [aR,a7,aJ,ab,ag,aP,ar,nv,ai,ak,bind_some,ax,aN,bf,r2,CF,map_some,z6,if_false,cL]
 ·have e9:ev [aX,bo,bw,bn,av,aA,ah,cw,a9,aI] (.nw false (.lof (.ix (.v 14) (.i 1)))) [some (.fz (iL ns)),some (.int ((k:Nat):Int)),some (.int c1),some (.int (n:Int)),some (ae M hs),some (ae M hs),some (.int c2),some (.int (g:Int)),some (vw v),some (vw v),some (.fz (nL (gm hs g))),some (.str (kS hs g v)),some (.str (kO hs g v)),some (.int (t:Int)),some (.tup [.str (kS hs g v),.ref st.length])] (st++[.lst (kV M hs g v)])=some (.fz (kV M hs g v),st++[.lst (kV M hs g v)]):=u9 (x:=.ref st.length) (xs:=kV M hs g v) rfl (jN gk) vc
  simp only [aR,a7,aJ,ab,ag,lU,e9,aP,ar,nv,ai,ak,bind_some,ax,aN,bf,show Nat.ble [AV.str (kO hs g v),AV.fz (kV M hs g v)].length 1000=true from rfl,_root_.if_true,r3,CG,map_some,z6,if_false,cL]
theorem Bk {ns:List Int}{k:Nat}{y2 y3 y4 y5 y6 y7 y8 y9 y10 y11 y12 y13 y14:Option AV}:∃ sl2 st2,ao [aX,bo,bw,bn,av,aA,ah,cw,a9,aI] (.cons (.as (.ca true 0 (.cons (.v 0) (.cons (.v 1) .nil))) (.nm 2)) (.cons (.as (.bin .Add (.i 1) (.bin .Mod (.v 2) (.i 4))) (.nm 3)) (.cons (.as (.ca true 1 (.cons (.bin .FloorDiv (.v 2) (.i 4)) (.cons (.v 3) (.cons (.ix (.nw false (.li (.cons (.i 12) (.cons (.i 12) (.cons (.i 40) (.cons (.i 5) .nil)))))) (.bin .FloorDiv (.bin .Mod (.bin .FloorDiv (.v 2) (.i 4)) (.i 8)) (.i 2))) .nil)))) (.nm 4)) (.cons (.as (.ca true 2 (.cons (.v 4) .nil)) (.nm 5)) (.cons (.as (.ca true 0 (.cons (.v 0) (.cons (.bin .Add (.v 1) (.i 1)) .nil))) (.nm 6)) (.cons (.as (.bin .Add (.i 1) (.bin .Mod (.v 6) (.bin .Sub (.bin .LShift (.i 1) (.v 3)) (.i 1)))) (.nm 7)) (.cons (.as (.ca true 3 (.cons (.v 5) (.cons (.v 7) (.cons (.bin .FloorDiv (.v 6) (.i 16)) .nil)))) (.nm 8)) (.cons (.as (.nw false (.lof (.v 8))) (.nm 9)) (.cons (.as (.ca true 4 (.cons (.v 5) (.cons (.v 7) .nil))) (.nm 10)) (.cons (.as (.ix (.nw false (.li (.cons (.s "open") (.cons (.s "known") .nil)))) (.bi .int (.cons (.cmp .Eq (.ca true 5 (.cons (.v 10) .nil)) (.ca true 5 (.cons (.nw false (.cat (.v 10) (.nw false (.li (.cons (.ca true 6 (.cons (.v 8) .nil)) .nil))))) .nil))) .nil))) (.nm 11)) (.cons (.as (.ix (.nw false (.li (.cons (.s "known") (.cons (.s "open") .nil)))) (.bi .int (.cons (.cmp .Eq (.v 11) (.s "known")) .nil))) (.nm 12)) (.cons (.fo (.r1 (.i 2)) (.nm 13) (.cons (.as (.ca false 7 (.cons (.v 4) (.cons (.v 7) (.cons (.v 9) .nil)))) (.nm 14)) (.cons (.iff (.or (.no (.va (.ca true 8 (.cons (.v 5) (.cons (.v 7) (.cons (.v 8) (.cons (.v 14) .nil))))))) (.or (.cmp .NotEq (.ix (.v 14) (.i 0)) (.v 11)) (.or (.cmp .NotEq (.v 4) (.v 5)) (.cmp .NotEq (.v 9) (.v 8))))) (.cons (.rt (.b false)) .nil) .nil) (.cons (.iff (.cmp .IsNot (.ca true 9 (.cons (.v 4) (.cons (.v 7) (.cons (.v 9) (.cons (.v 14) .nil))))) (.b true)) (.cons (.rt (.b false)) .nil) .nil) (.cons (.iff (.cmp .IsNot (.ca true 9 (.cons (.v 4) (.cons (.v 7) (.cons (.v 9) (.cons (.tu (.cons (.v 12) (.cons (.nw false (.lof (.ix (.v 14) (.i 1)))) .nil))) .nil))))) (.b false)) (.cons (.rt (.b false)) .nil) .nil) (.cons (.ex (.mt .app (.ix (.v 14) (.i 1)) (.cons (.ix (.v 14) (.i 1)) .nil))) .nil)))))) .nil)))))))))))) [some (.fz (iL ns)),some (.int ((k:Nat):Int)),y2,y3,y4,y5,y6,y7,y8,y9,y10,y11,y12,y13,y14] st=some (.nx sl2 st2)/\∃ y1 y2 y3 y4 y5 y6 y7 y8 y9 y10 y11 y12 y13 y14,sl2=[some (.fz (iL ns)),y1,y2,y3,y4,y5,y6,y7,y8,y9,y10,y11,y12,y13,y14]:=by
 obtain ⟨c1,hc1⟩:∃ c,c=SX.gI ns k:=⟨_,rfl⟩;obtain ⟨c2,hc2⟩:∃ c,c=SX.gI ns (k + 1):=⟨_,rfl⟩;obtain ⟨r1,h1,b1⟩:=d6 (a:=c1) (b:=4) dC;obtain ⟨n,hn⟩:∃ n,n=1 + r1:=⟨_,rfl⟩;have n4:n <= 4:=by omega
 have e3:bM .Mod st (.int c1) (.int 4)=some (.int (r1:Int)):=by rw [dJ dC,d4 dC];exact congrArg (fun z=>some (AV.int z)) h1
 have e3b:(1:Int) + (r1:Int)=(n:Int):=by omega
 obtain ⟨r2,h2,b2⟩:=d6 (a:=c1 / 4) (b:=8) dC;obtain ⟨most,hm,m40⟩:∃ m:Nat,cB st (.fz [.int 12,.int 12,.int 40,.int 5]) (.int ((r2 / 2:Nat):Int))=some (.int (m:Int))/\m <= 40:=by
  have:r2 / 2=0\/r2 / 2=1\/r2 / 2=2\/r2 / 2=3:=by omega
  rcases this with e | e | e | e <;> rw [e]
  ·exact ⟨12,rfl,by decide⟩
  ·exact ⟨12,rfl,by decide⟩
  ·exact ⟨40,rfl,by decide⟩
  ·exact ⟨5,rfl,by decide⟩
 have f4:∀ c:Int,bM .FloorDiv st (.int c) (.int 4)=some (.int (c / 4)):=fun c=>by rw [iM dC,jY dC]
 have f16:∀ c:Int,bM .FloorDiv st (.int c) (.int 16)=some (.int (c / 16)):=fun c=>by rw [iM dC,jY dC]
 have f2:bM .FloorDiv st (.int (r2:Int)) (.int 2)=some (.int ((r2 / 2:Nat):Int)):=by rw [iM dC,jY dC];rfl
 have f8:bM .Mod st (.int (c1 / 4)) (.int 8)=some (.int (r2:Int)):=by rw [dJ dC,d4 dC];exact congrArg (fun z=>some (AV.int z)) h2
 obtain ⟨M,hs,eH,M1,M2,M3⟩:=AT (c:=c1 / 4) (n:=n) (most:=most) (st:=st) n4 m40;have hk:HK M hs:=⟨by omega,by omega,M3⟩;have p2:2 <= 2 ^ n:=by have:=Nat.pow_le_pow_right (n:=2) (show 0 < 2 by decide) (show 1 <= n by omega);simpa using this
 obtain ⟨r3,h3,b3⟩:=d6 (a:=c2) (b:=2 ^ n - 1) oM;obtain ⟨g,hg⟩:∃ g,g=1 + r3:=⟨_,rfl⟩;have e7:bM .Mod st (.int c2) (.int (((2 ^ n:Nat):Int) - 1))=some (.int (r3:Int)):=by
  rw [show ((2 ^ n:Nat):Int) - 1=((2 ^ n - 1:Nat):Int) by omega,dJ oM,d4 oM];exact congrArg (fun z=>some (AV.int z)) h3
 have e7b:(1:Int) + (r3:Int)=(g:Int):=by omega
 obtain ⟨v,hv,eV⟩:=xN (st:=st) hk (g:=g) (c:=c2 / 16);have e8:=f16 c2;have k1:(k:Int) + 1=((k + 1:Nat):Int):=by omega
 have key:∃ r,ao [aX,bo,bw,bn,av,aA,ah,cw,a9,aI] (.cons (.as (.ca true 0 (.cons (.v 0) (.cons (.v 1) .nil))) (.nm 2)) (.cons (.as (.bin .Add (.i 1) (.bin .Mod (.v 2) (.i 4))) (.nm 3)) (.cons (.as (.ca true 1 (.cons (.bin .FloorDiv (.v 2) (.i 4)) (.cons (.v 3) (.cons (.ix (.nw false (.li (.cons (.i 12) (.cons (.i 12) (.cons (.i 40) (.cons (.i 5) .nil)))))) (.bin .FloorDiv (.bin .Mod (.bin .FloorDiv (.v 2) (.i 4)) (.i 8)) (.i 2))) .nil)))) (.nm 4)) (.cons (.as (.ca true 2 (.cons (.v 4) .nil)) (.nm 5)) (.cons (.as (.ca true 0 (.cons (.v 0) (.cons (.bin .Add (.v 1) (.i 1)) .nil))) (.nm 6)) (.cons (.as (.bin .Add (.i 1) (.bin .Mod (.v 6) (.bin .Sub (.bin .LShift (.i 1) (.v 3)) (.i 1)))) (.nm 7)) (.cons (.as (.ca true 3 (.cons (.v 5) (.cons (.v 7) (.cons (.bin .FloorDiv (.v 6) (.i 16)) .nil)))) (.nm 8)) (.cons (.as (.nw false (.lof (.v 8))) (.nm 9)) (.cons (.as (.ca true 4 (.cons (.v 5) (.cons (.v 7) .nil))) (.nm 10)) (.cons (.as (.ix (.nw false (.li (.cons (.s "open") (.cons (.s "known") .nil)))) (.bi .int (.cons (.cmp .Eq (.ca true 5 (.cons (.v 10) .nil)) (.ca true 5 (.cons (.nw false (.cat (.v 10) (.nw false (.li (.cons (.ca true 6 (.cons (.v 8) .nil)) .nil))))) .nil))) .nil))) (.nm 11)) (.cons (.as (.ix (.nw false (.li (.cons (.s "known") (.cons (.s "open") .nil)))) (.bi .int (.cons (.cmp .Eq (.v 11) (.s "known")) .nil))) (.nm 12)) (.cons (.fo (.r1 (.i 2)) (.nm 13) (.cons (.as (.ca false 7 (.cons (.v 4) (.cons (.v 7) (.cons (.v 9) .nil)))) (.nm 14)) (.cons (.iff (.or (.no (.va (.ca true 8 (.cons (.v 5) (.cons (.v 7) (.cons (.v 8) (.cons (.v 14) .nil))))))) (.or (.cmp .NotEq (.ix (.v 14) (.i 0)) (.v 11)) (.or (.cmp .NotEq (.v 4) (.v 5)) (.cmp .NotEq (.v 9) (.v 8))))) (.cons (.rt (.b false)) .nil) .nil) (.cons (.iff (.cmp .IsNot (.ca true 9 (.cons (.v 4) (.cons (.v 7) (.cons (.v 9) (.cons (.v 14) .nil))))) (.b true)) (.cons (.rt (.b false)) .nil) .nil) (.cons (.iff (.cmp .IsNot (.ca true 9 (.cons (.v 4) (.cons (.v 7) (.cons (.v 9) (.cons (.tu (.cons (.v 12) (.cons (.nw false (.lof (.ix (.v 14) (.i 1)))) .nil))) .nil))))) (.b false)) (.cons (.rt (.b false)) .nil) .nil) (.cons (.ex (.mt .app (.ix (.v 14) (.i 1)) (.cons (.ix (.v 14) (.i 1)) .nil))) .nil)))))) .nil)))))))))))) [some (.fz (iL ns)),some (.int ((k:Nat):Int)),y2,y3,y4,y5,y6,y7,y8,y9,y10,y11,y12,y13,y14] st=some r/\∃ st2,∃ y1 y2 y3 y4 y5 y6 y7 y8 y9 y10 y11 y12 y13 y14,r=.nx [some (.fz (iL ns)),y1,y2,y3,y4,y5,y6,y7,y8,y9,y10,y11,y12,y13,y14] st2:=by
  refine bO (sl':=[some (.fz (iL ns)),some (.int ((k:Nat):Int)),some (.int c1),y3,y4,y5,y6,y7,y8,y9,y10,y11,y12,y13,y14]) (st':=st) ?_ ?_
  ·simp only [bQ,aJ,ab,ag,aK,aP,bG,ar,aH,dw,cC,cz,g7,ai,ak,bind_some,ax,aN,bf,map_some,cI,rp,<- hc1];rfl
  refine bO (sl':=[some (.fz (iL ns)),some (.int ((k:Nat):Int)),some (.int c1),some (.int (n:Int)),y4,y5,y6,y7,y8,y9,y10,y11,y12,y13,y14]) (st':=st) ?_ ?_
  ·simp only [bQ,aJ,ab,ag,aK,aP,bG,ar,aH,dw,cC,cz,g7,ai,ak,bind_some,ax,aN,bf,map_some,cI,e3,fF,e3b];rfl
  have a4:cT [aX,bo,bw,bn,av,aA,ah,cw,a9,aI] (.cons (.bin .FloorDiv (.v 2) (.i 4)) (.cons (.v 3) (.cons (.ix (.nw false (.li (.cons (.i 12) (.cons (.i 12) (.cons (.i 40) (.cons (.i 5) .nil)))))) (.bin .FloorDiv (.bin .Mod (.bin .FloorDiv (.v 2) (.i 4)) (.i 8)) (.i 2))) .nil))) [some (.fz (iL ns)),some (.int ((k:Nat):Int)),some (.int c1),some (.int (n:Int)),y4,y5,y6,y7,y8,y9,y10,y11,y12,y13,y14] st=some ([.int (c1 / 4),.int (n:Int),.int (most:Int)],st):=by
   have l4:ev [aX,bo,bw,bn,av,aA,ah,cw,a9,aI] (.nw false (.li (.cons (.i 12) (.cons (.i 12) (.cons (.i 40) (.cons (.i 5) .nil)))))) [some (.fz (iL ns)),some (.int ((k:Nat):Int)),some (.int c1),some (.int (n:Int)),y4,y5,y6,y7,y8,y9,y10,y11,y12,y13,y14] st=some (.fz [.int 12,.int 12,.int 40,.int 5],st):=rfl;simp only [ab,ag,aK,aP,l4,ar,aH,ai,ak,bind_some,f4,f8,f2,hm,map_some]
  refine bO (sl':=[some (.fz (iL ns)),some (.int ((k:Nat):Int)),some (.int c1),some (.int (n:Int)),some (ae M hs),y5,y6,y7,y8,y9,y10,y11,y12,y13,y14]) (st':=st) ?_ ?_
  ·rw [bQ,aJ,a4,bind_some];dsimp only;rw [ax,bf,aN,eH];rfl
  refine bO (sl':=[some (.fz (iL ns)),some (.int ((k:Nat):Int)),some (.int c1),some (.int (n:Int)),some (ae M hs),some (ae M hs),y6,y7,y8,y9,y10,y11,y12,y13,y14]) (st':=st) ?_ ?_
  ·simp only [bQ,aJ,ab,ag,aK,aP,bG,ar,aH,dw,cC,cz,g7,ai,ak,bind_some,ax,aN,bf,map_some,cI,Bb hk];rfl
  refine bO (sl':=[some (.fz (iL ns)),some (.int ((k:Nat):Int)),some (.int c1),some (.int (n:Int)),some (ae M hs),some (ae M hs),some (.int c2),y7,y8,y9,y10,y11,y12,y13,y14]) (st':=st) ?_ ?_
  ·simp only [bQ,aJ,ab,ag,aK,aP,bG,ar,aH,dw,cC,cz,g7,ai,ak,bind_some,ax,aN,bf,map_some,cI,fF,k1,rp,<- hc2];rfl
  refine bO (sl':=[some (.fz (iL ns)),some (.int ((k:Nat):Int)),some (.int c1),some (.int (n:Int)),some (ae M hs),some (ae M hs),some (.int c2),some (.int (g:Int)),y8,y9,y10,y11,y12,y13,y14]) (st':=st) ?_ ?_
  ·simp only [bQ,aJ,ab,ag,aK,aP,bG,ar,aH,dw,cC,cz,g7,ai,ak,bind_some,ax,aN,bf,map_some,cI,dy (show n <= 1000 by omega),lO,e7,fF,e7b];rfl
  refine bO (sl':=[some (.fz (iL ns)),some (.int ((k:Nat):Int)),some (.int c1),some (.int (n:Int)),some (ae M hs),some (ae M hs),some (.int c2),some (.int (g:Int)),some (vw v),y9,y10,y11,y12,y13,y14]) (st':=st) ?_ ?_
  ·simp only [bQ,aJ,ab,ag,aK,aP,bG,ar,aH,dw,cC,cz,g7,ai,ak,bind_some,ax,aN,bf,map_some,cI,e8,eV];rfl
  refine bO (sl':=[some (.fz (iL ns)),some (.int ((k:Nat):Int)),some (.int c1),some (.int (n:Int)),some (ae M hs),some (ae M hs),some (.int c2),some (.int (g:Int)),some (vw v),some (vw v),y10,y11,y12,y13,y14]) (st':=st) ?_ ?_
  ·exact Cr (x:=vw v) (xs:=nL (bX v)) (by simp only [ar,ai,ak]) rfl cj rfl
  refine bO (sl':=[some (.fz (iL ns)),some (.int ((k:Nat):Int)),some (.int c1),some (.int (n:Int)),some (ae M hs),some (ae M hs),some (.int c2),some (.int (g:Int)),some (vw v),some (vw v),some (.fz (nL (gm hs g))),y11,y12,y13,y14]) (st':=st) ?_ ?_
  ·simp only [bQ,aJ,ab,ag,aK,aP,bG,ar,aH,dw,cC,cz,g7,ai,ak,bind_some,ax,aN,bf,map_some,cI,kE hk];rfl
  refine bO (sl':=[some (.fz (iL ns)),some (.int ((k:Nat):Int)),some (.int c1),some (.int (n:Int)),some (ae M hs),some (ae M hs),some (.int c2),some (.int (g:Int)),some (vw v),some (vw v),some (.fz (nL (gm hs g))),some (.str (kS hs g v)),y12,y13,y14]) (st':=st) ?_ ?_
  ·rw [bQ,CW (hs:=hs) (g:=g) (v:=v) rfl rfl rfl rfl rfl hk hv];rfl
  refine bO (sl':=[some (.fz (iL ns)),some (.int ((k:Nat):Int)),some (.int c1),some (.int (n:Int)),some (ae M hs),some (ae M hs),some (.int c2),some (.int (g:Int)),some (vw v),some (vw v),some (.fz (nL (gm hs g))),some (.str (kS hs g v)),some (.str (kO hs g v)),y13,y14]) (st':=st) ?_ ?_
  ·rw [bQ,Cl (hs:=hs) (g:=g) (v:=v) rfl];rfl
  refine oI (gd:=[]) (xs:=List.range 2) (em:=fun q:Nat=>AV.int (q:Int)) (fun _ sl _=>∃ y13 y14,sl=[some (.fz (iL ns)),some (.int ((k:Nat):Int)),some (.int c1),some (.int (n:Int)),some (ae M hs),some (ae M hs),some (.int c2),some (.int (g:Int)),some (vw v),some (vw v),some (.fz (nL (gm hs g))),some (.str (kS hs g v)),some (.str (kO hs g v)),y13,y14]) (ft (n:=2) rfl dC) (fun _ _ _ _=>rfl) ⟨_,_,rfl⟩ (fun i x sl st hx hI=>?_) fun sl' st' hI=>?_
  ·obtain ⟨y13,y14,rfl⟩:=hI
   obtain ⟨sl2,st2,e,h⟩:=xn (ns:=ns) (k:=k) (n:=n) (c1:=c1) (c2:=c2) (t:=x) (y14:=y14) (st:=st) hk hv;exact ⟨([some (.fz (iL ns)),some (.int ((k:Nat):Int)),some (.int c1),some (.int (n:Int)),some (ae M hs),some (ae M hs),some (.int c2),some (.int (g:Int)),some (vw v),some (vw v),some (.fz (nL (gm hs g))),some (.str (kS hs g v)),some (.str (kO hs g v)),some (.int (x:Int)),y14],st),sl2,st2,rfl,e,h⟩
  ·obtain ⟨y13,y14,rfl⟩:=hI
   exact ⟨_,rfl,st',_,_,_,_,_,_,_,_,_,_,_,_,_,_,rfl⟩
 obtain ⟨r,e,st2,y1,y2,y3,y4,y5,y6,y7,y8,y9,y10,y11,y12,y13,y14,rfl⟩:=key;exact ⟨_,st2,e,_,_,_,_,_,_,_,_,_,_,_,_,_,_,rfl⟩
theorem Ct {ns:List Int} (hl:ns.length <= 63):∃ st,km [.fz (iL ns)] []=some (.bl true,st):=by
 have key:∃ r,km [.fz (iL ns)] []=some r/\r.1=.bl true:=by
  rw [km,bd];show ∃ r,(ao [aX,bo,bw,bn,av,aA,ah,cw,a9,aI] pL [some (.fz (iL ns)),none,none,none,none,none,none,none,none,none,none,none,none,none,none] []).bind aw=some r/\_;obtain ⟨N,hi,hN⟩:=BP (ks:=[aX,bo,bw,bn,av,aA,ah,cw,a9,aI]) (sl:=[some (.fz (iL ns)),none,none,none,none,none,none,none,none,none,none,none,none,none,none]) (st:=[]) (ns:=ns) hl rfl;refine gW (gd:=[]) (xs:=List.range N) (em:=fun q:Nat=>AV.int ((2 * q:Nat):Int)) (fun _ sl _=>∃ y1 y2 y3 y4 y5 y6 y7 y8 y9 y10 y11 y12 y13 y14,sl=[some (.fz (iL ns)),y1,y2,y3,y4,y5,y6,y7,y8,y9,y10,y11,y12,y13,y14]) hi (fun _ _ _ _=>rfl) ⟨none,none,none,none,none,none,none,none,none,none,none,none,none,none,rfl⟩ (fun i x sl st hx hI=>?_) fun sl' st' hI=>?_
  ·obtain ⟨y1,y2,y3,y4,y5,y6,y7,y8,y9,y10,y11,y12,y13,y14,rfl⟩:=hI
   obtain ⟨sl2,st2,e,h⟩:=Bk (ns:=ns) (k:=2 * x) (st:=st) (y2:=y2) (y3:=y3) (y4:=y4) (y5:=y5) (y6:=y6) (y7:=y7) (y8:=y8) (y9:=y9) (y10:=y10) (y11:=y11) (y12:=y12) (y13:=y13) (y14:=y14);exact ⟨([some (.fz (iL ns)),some (.int ((2 * x:Nat):Int)),y2,y3,y4,y5,y6,y7,y8,y9,y10,y11,y12,y13,y14],st),sl2,st2,rfl,e,h⟩
  ·obtain ⟨y1,y2,y3,y4,y5,y6,y7,y8,y9,y10,y11,y12,y13,y14,rfl⟩:=hI
   exact bH (v:=.bl true) (st':=st') rfl rfl
 obtain ⟨⟨v,s⟩,e,h⟩:=key;have h:v=.bl true:=h;subst h;exact ⟨s,e⟩
theorem EB:Room e_law.d callerA:=⟨rfl,by decide,by decide,rfl⟩
theorem holds:∀ ns:List Int,ns.length <= 63->∃ st,DW [.fz (ns.map .int)] []=some (.bl true,st):=fun _ h=>Ct h
end
end LW
open PySem PySem.W PyProof.Rows
set_option maxRecDepth 100000 in
set_option maxHeartbeats 0 in
theorem PySem.Challenge.cw_telltight_k46_whole_known_or_open_holds : PySem.Challenge.rw_telltight_k46_whole_known_or_open.Holds := by
 w_on; o_law; k_head; (case hw => w_witness2)
 k_fill
 refine R.walk_R (l := PySem.Challenge.rw_telltight_k46_whole_known_or_open) (k := LW.e_law.d) (fn := LW.DW) (tabs := []) rfl rfl ?hrr (fun w h Y => ⟨kIn_of Y, fun q hq => by cases hq⟩) ?hcc ?hKK ?htt LW.holds ?F
 case hrr => exact LW.EB
 case hcc => intro w q hq; cases hq
 case hKK => intro w; kernel_rfl
 case htt => intro t ht; cases ht
 case F =>
  intro w mg fa h KX G hmg;refine R.law_F (gs := LW.gs) (cl := LW.cl) (pre := LW.pre) (e := LW.e_law) KX G hmg ?nb ?gs ?cl LW.xz LW.xA (LW.za KX G ?h0 ?h1 ?h2 ?h3 ?h4 ?h5 ?h6 ?h7 ?h8 ?h9 ?h10 ?h11 ?h12 ?h13 ?h14 ?h15 ?h16 ?h17 ?h18 ?h19 ?h20 ?h21 ?h22 ?h23 ?h24 ?h25 ?h26 ?h27) ?law rfl LW.Cu
  case nb => kernel_rfl
  case gs => intro p hp; simp only [LW.gs, zT, zX, or_false] at hp
  case cl => intro p hp; simp only [LW.cl, zT, zX, or_false] at hp
  case law => exact ⟨_, _, _, _, _, _, _, _, _, _, by k_is, by k_is, by k_is, by k_is, .inl rfl⟩
  all_goals first | exact ⟨_, _, _, _, _, _, _, _, _, _, by k_is, by k_is, by k_is, by k_is, .inl rfl⟩ | exact ⟨_, _, _, _, _, _, _, _, _, _, _, by k_is, by k_is, by k_is, by k_is, by k_is, by k_is, .inl rfl⟩
#print axioms PySem.Challenge.cw_telltight_k46_whole_known_or_open_holds
