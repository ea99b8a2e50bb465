import PyProof.Rows.All
import Wide.All
import OpenK.AllK
import Wide.FinOn
import PySem.Challenge.RW_telltight_k21_spare_members
set_option bootstrap.genMatcherCode false
set_option compiler.extract_closed false
noncomputable section
open Array renaming getElem?_toList → v?, length_toList → ò, size_append → Q4, toList → W5, toList_append → J!
open Bool renaming and_eq_true → zC, and_eq_true_iff → Ŕ, and_self → ġ, false → Ã, false_eq_true → yA, false_ne_true → Ĝ, not_eq_true' → S3, or_eq_false_iff → I?, or_eq_true_iff → Ϛ, or_false → W4, true → Â
open Classical renaming axiomOfChoice → a!, byContradiction → Ă, choose → Đ, choose_spec → ě
open ForInStep renaming yield → Į
open Int renaming add_mul → Z4, add_zero → î, dvd_natAbs → ϓ, ediv_mul_cancel → Ş, emod_lt_of_pos → Ą, emod_nonneg → ċ, emod_two_eq → U9, eq_of_mul_eq_mul_left → Ĵ, eq_of_mul_eq_mul_right → ĩ, fdiv_eq_ediv_of_nonneg → j?, le_of_eq → Y5, le_of_lt → ď, le_of_mul_le_mul_left → n!, le_of_mul_le_mul_right → Ĩ, le_refl → Ű, le_trans → ň, lt_or_le → yU, lt_trichotomy → T0, mul_add → O!, mul_assoc → p?, mul_comm → Ţ, mul_ediv_cancel' → N?, mul_eq_zero → U8, mul_le_mul_of_nonneg_right → Ü, mul_lt_mul_of_pos_left → ť, mul_neg_of_pos_of_neg → ũ, mul_nonneg → è, mul_nonpos_of_nonneg_of_nonpos → ľ, mul_nonpos_of_nonpos_of_nonneg → Ľ, mul_one → ϻ, mul_pos → N!, mul_zero → yO, natAbs_add_le → T?, natAbs_mul → yZ, natAbs_natCast → Ť, natAbs_neg → Þ, natCast_add → ž, natCast_dvd_natCast → ł, one_mul → ů, sub_zero → Y4, toNat_natCast → T!, toNat_of_nonneg → ŝ, zero_mul → yP, zero_sub → Y3
open List renaming all_cons → ķ, all_eq_true → yQ, any_cons → Ů, any_eq_true → Ō, any_map → t?, append_assoc → yM, append_nil → í, cons_append → ϳ, contains_iff_mem → G?, countP_cons → S9, dropLast_eq_take → G!, drop_eq_getElem_cons → ù, drop_length → ϲ, drop_nil → W2, drop_of_length_le → t!, drop_zero → Ņ, ext_getElem? → S!, filterMap → U6, filterMap_cons → ř, filter_cons → ϱ, filter_eq_nil_iff → ÿ, filter_eq_self → Ô, find?_cons → ĉ, flatten_cons → Ċ, foldl → Q2, foldl_append → Ϩ, foldl_cons → Ġ, forIn_cons → U0, forIn_nil → U5, getD_eq_getElem?_getD → zD, getElem?_append_left → zN, getElem?_append_right → z6, getElem?_cons_succ → ĕ, getElem?_eq_getElem → zF, getElem?_eq_none → Ù, getElem?_eq_some_iff → zB, getElem?_map → zR, getElem?_of_mem → z8, getElem?_range → ó, getElem?_replicate → ü, getElem?_set → yW, getElem?_set_ne → ï, getElem?_set_self → ñ, getElem?_take_of_lt → ŭ, getElem?_zipIdx → ύ, getElem?_zip_eq_some → Ŧ, getElem_inj → Ÿ, getElem_mem → Ø, isEmpty_iff → ê, length → œ, length_append → zV, length_cons → yX, length_filter_le → Ģ, length_map → zH, length_nil → U', length_range → ģ, length_replicate → Ŋ, length_set → Ĉ, length_singleton → ŉ, length_take → ŷ, length_zip → ļ, length_zipIdx → Q0, lookup → Œ, lookup_cons → yN, map_append → ä, map_congr_left → Ř, map_cons → zO, map_drop → W1, map_map → Ö, map_nil → ń, map_set → s?, map_take → W?, mem_append → zZ, mem_append_left → zL, mem_append_right → zK, mem_cons → zT, mem_cons_of_mem → zQ, mem_cons_self → z7, mem_filter → ć, mem_filterMap → Q?, mem_map → yC, mem_map_of_mem → ϙ, mem_of_getElem? → zW, mem_of_mem_take → I!, mem_or_eq_of_mem_set → ø, mem_range → Ó, mem_singleton → zM, nodup_append → ϧ, nodup_cons → Ļ, nodup_nil → U4, not_mem_nil → zX, of_mem_zip → ý, range → Æ, range' → ĥ, range_succ → Ŗ, replicate → È, replicate_succ → ì, set_append_right → F?, set_comm → W!, set_set → r?, size_toArray → zI, sum_append → U?, sum_cons → ϛ, take_length → Ĭ, take_of_length_le → Ń, take_sublist → R9, take_succ → h!, take_zero → U3, zip_cons_cons → ă
open List.Pairwise renaming nil → Ž
open List.eraseDupsBy renaming loop → U7
open Nat renaming add_assoc → ŵ, add_sub_cancel_left → Ł, ble → å, ble_eq_true_of_le → yK, dvd_trans → X3, eq_one_of_mul_eq_one_left → Ϻ, eq_zero_of_zero_dvd → q?, gcd → Û, gcd_comm → F!, gcd_dvd_left → U!, gcd_dvd_right → S8, gcd_zero_left → S7, gcd_zero_right → Ϣ, le_add_right → ϸ, le_antisymm → g!, le_of_ble_eq_true → zS, le_of_dvd → X1, le_of_eq → Ϯ, le_of_lt → yY, le_of_not_lt → T9, le_of_succ_le → Ď, le_refl → zP, le_succ → Ϲ, le_total → Y2, le_trans → z5, log2_lt → č, lt_add_of_pos_right → ź, lt_irrefl → xA, lt_of_le_of_lt → yL, lt_of_lt_of_le → zJ, lt_or_ge → yT, lt_succ_of_le → ϭ, lt_succ_self → Ĳ, lt_trans → E?, max_self → Y1, min_eq_left → f?, min_le_right → T8, mod_eq_of_lt → T7, mod_lt → j!, mul_le_mul → ţ, mul_le_mul_right → ϑ, ne_of_gt → ı, ne_of_lt → zU, one_le_two_pow → ϡ, one_lt_two_pow → Ϡ, one_mul → ϐ, or_lt_two_pow → Ň, pos_of_ne_zero → R8, pow_add → Ŭ, pow_le_pow_right → Č, pow_lt_pow_right → ħ, pow_succ → E!, strongRecOn → U2, sub_self → D?, sub_zero → Ϭ, succ_mul → D!, succ_pos → C?, two_pow_pos → Ñ, zero_le → ŀ
open Ne renaming symm → ç
open Option renaming bind_some → Ä, getD_none → Q!, getD_some → ū, isSome_iff_exists → ĳ, isSome_map → Ŀ, isSome_some → H?, map_eq_some_iff → zE, map_some → Ð, none → Á, some → À
open Option.some renaming inj → yD
open Prod.mk renaming injEq → S6
open PyProof.Rows renaming AllBare → ϔ, Call_ → Q3, Constant_none → P!, IntsAre → ϒ, assignInOrder_cons → ϵ, assignInOrder_nil → X?, boot_range → A!, callWith_builtin1 → Z3, callWith_type1 → Ú, envOfC → ϴ, evalArgs_kwB → Z2, get?_update_seq → Z!, kws_cons → Z1, kws_nil → Z0, seqObj → ż, sub_tuple_tuple → Y9, subscriptTail → K!, subscriptTail_builtinR → Q8
open PySem renaming Addr → Ç, Arguments → ϩ, Around → ą, BindsTo → v!, BoolOp → H!, Builtin → u?, CmpOp → ϣ, Env → O?, Expr → Í, Fin → R!, FuncData → Ĕ, Heap → é, Keyword → ő, NameKind → Ŷ, Obj → X0, Operator → Ğ, Paired → R?, PassesOwn → Ϧ, PlainAttrs → C!, Pos → ę, Program → Ò, PyData → ņ, Reads → Ż, ReadsAll → c?, Scope → ĝ, Sem → Y?, Shared → É, Stmt → ĺ, Str → Ì, Value → Å, Within → p!, World → à, argsOk → B!, assignEach → â, assignInOrder → ϰ, atKey → A', attributeBase → Ę, backTo → ú, backToKw → Ő, behindInMarks → ϯ, binaryOp → ϋ, bindArgs → A?, bindC → P8, bindL → P7, bindName → T6, bootBuiltins → Õ, builtinsNs → ė, cLine → Š, call → M', callWith → ų, call_list_range → Z?, call_meets → Ų, callerA → ώ, cellsFrom → Ē, closureFor → V7, codeAny → ŏ, codeAny_builtin → Ϙ, codeAny_call_builtin → T5, codeAny_mono → ŧ, compareOp → đ, defaultsOf → V6, foldedForSure → M!, foldedSetIterable → ö, getItem → Q9, getMethod → Ū, isTrue → z?, keywordEach → ē, letOwnedTupleGo → ϗ, mainGlobals → Ï, mem_of_lookup → İ, newEnv → V0, newFunctionEnv → z!, numAt → y?, numAt_eq → T4, nums_intItems → L?, plainId_quiet → L!, pushCells → ϊ, pushCells_keeps → o?, pyNext → x?, rangeSize_one → K?, rawInt → x!, recursionLimit → Ϟ, seqIndex_neg → b?, seqIndex_of → k?, seqItems? → X7, setItem → Ϥ, sizeLine → Ë, sizeLine_eq → ϝ, sliceBounds → ş, small_one → X6, standAt → Ŝ, starEach → Ê, swappedStores → õ, swapsWith → Ĺ, swapsWithSole → ś, sysModules → Ė, tupleKind → ſ, tupleKind_room_in1 → ű, typeIs_int → V?, unaryOp → W8, updateSeq → P?, valueAt → b!, wpAny → Î, wpAny_Call_Name_kw → û, wpAny_Name → V!, wpAny_assign_Name → W7, wpAny_bind → yE, wpAny_call → w?, wpAny_comprehension_free → J?, wpAny_execs_nil → n?, wpAny_getItem_list_neg → Q6, wpAny_holding → yR, wpAny_letGo → Ϝ, wpAny_loadPart' → ϖ, wpAny_mono → yS, wpAny_newObj_type → W6, wpAny_passesOwn → Ĥ, wpAny_pure → yF, wpAny_pyIter_enum → a?, wpAny_pyIter_list → ī, wpAny_pyIter_zip → X5, wpAny_pyNext_list_end → S4, wpAny_pyNext_list_item → Q5, wpAny_seqItems → w!, wpAny_specialOf → Y8, wpAny_standAt → Ś, wpAny_truthy_bool → Ī, wpAny_tryCatch → ĵ, wpAny_updateSeq → ϕ
open PySem.AutoSeq1 renaming wpAny_loadPart' → į
open PySem.Builtin renaming bitNot → S?
open PySem.Builtin.Builtins renaming bindParams → ό
open PySem.Builtin.Dict renaming pendingCount → Z5
open PySem.Builtin.Int renaming intBits → h?
open PySem.Builtin.List renaming listTooLong → ô
open PySem.Builtin.Range renaming rangeSize → Y7
open PySem.Builtin.SmallTypes renaming fitsIndex → ĸ
open PySem.Challenge renaming pw_telltight_k21_spare_members → V9
open PySem.F renaming entry_min_loop → Ŵ, plainAttrs_list → æ, plain_min_loop → þ, slot_dict_len → m?, slot_list_append → e?, slot_list_count → Ũ, slot_list_extend → e!, slot_list_pop → l?, type_list_append → d?, type_list_count → g?, type_list_extend → d!, type_list_pop → l!
open PySem.Heap renaming ExtBut → Y6, SameBut → ĭ, get?_push_of_some → zG, get?_push_size → zY, get?_update_other → u!, lt_size → yI, size_push → Ħ
open PySem.Heap.IsSliceOf renaming new → X4
open PySem.Heap.SameBut renaming refl → k!, update → Ź
open PySem.NameKind renaming cell → Ě, free → Ý
open PySem.Obj renaming mapSeq → ğ
open PySem.PyData renaming canLay0 → ā, canLayAll0 → ð, depth → ŕ, depthAll → Ć, eqv → ß, eqvAll → Ϗ, int → ë, list → ŋ, strOk → U1
open PySem.Reads renaming unique → i?
open PySem.SeqAt renaming eqAt_reads → Ϸ
open PySem.Str renaming ofString → Ā
open PySem.Value renaming bool → c!, bytes → X', float → B', int → ϫ, isInt → B?, isStrOf → i!, none → š, ref → ã, str → Ϫ, type → M?
open PySem.W renaming CodeHd → W3, Frag → á, OpenLaw → P9, WalkO → S5, callWith_K → V8, callWith_K0 → q!, codeIn → ϟ, emptyDict → ŗ, findIn → Ŏ, hasDictIn → P0, instObj → ϥ, keepIn → Ķ, kia_one → ō, kitx_list → Y!, makesIn → X!, methodCall_KW → L', methodObj → X9, mg_of → W9, plainGet → y!, plainGet_of → T1, plainOver → X8, tabObj → Q7
open PySem.W.Looks renaming here → Y0
open PySem.Within renaming cons → Z'
open Option (bind_some map_some)
open PySem.W (CodeHd Frag InitBack InstAt TabsAt any_some bind_fn callWith_K cellsFrom_some codeHdIn codeHd_of_K codeIn codeRec_of emptyDict findIn findObj_own fnOf get_value handedIn hasDictIn hideAll hideAll_get hideAll_none hideAll_size instObj isFn keepIn ki_setAt ki_setBack kia_one kitOne kitx_bool kitx_dict kitx_float kitx_int kitx_list kitx_none kitx_own kitx_str kitx_tuple kla_callFunE kla_codeExpr kla_eval kla_fn kla_makeFunction kla_makeFunctionHit km_in_of km_tabs_of lookIn looks_clsIn looks_findIn make_core makesIn makes_of mem_of_lookupK methodCall_KW methodObj method_fn mg_none_of mg_of mroIn noTabs nsIn of_hideAll osa_open plainGet plainGet_of plainOver set_plain specialIn tabObj takerIn takesIn truthy_bytes typeIn)
theorem oM{p:Prop}(h:p:=by first|lia|omega|(refine @id (@Ne Nat _ _) ?_;omega)):p:=h
theorem dC{p:Prop}(h:p:=by decide):p:=h
set_option Elab.async false
set_option linter.all false
set_option maxRecDepth 100000
theorem zA{α c}{o:Option α}{f:α->Option c}{b}:o.bind f=À b->∃a,o=À a∧f a=À b:=Option.bind_eq_some_iff.mp
theorem z9:type_of% @decide_eq_false:=@decide_eq_false
theorem yB:type_of% @decide_eq_true_eq:=@decide_eq_true_eq
theorem yG:type_of% @if_neg:=@if_neg
theorem yH:type_of% @if_pos:=@if_pos
theorem yJ:type_of% @eq_of_beq:=@eq_of_beq
theorem yV:type_of% @decide_eq_true:=@decide_eq_true
namespace L2
open PySem PySem.Spec PyProof.Rows
abbrev ba:=Sum Int Ì
noncomputable def jr:ba->Å->Bool
 |.inl k,v=>B? k v
 |.inr x,v=>i! x v
noncomputable def MX(w:à):ba->Int
 |.inl k=>hashInt k
 |.inr x=>hashStr w x
theorem dq:∀{k:ba}{v:Å},jr k v=Â->(∃i t,k=Sum.inl i/\v=ϫ i t)\/(∃x t,k=Sum.inr x/\v=Ϫ x t)
 |.inl i,v,h=>by
  obtain⟨t,e⟩:=Value.isInt_shape (k:=i) (v:=v) h;exact .inl ⟨i,t,rfl,e⟩
 |.inr x,v,h=>by
  obtain⟨t,e⟩:=Value.isStrOf_shape (x:=x) (v:=v) h;exact .inr ⟨x,t,rfl,e⟩
theorem Aq(i:Int)(t:Tok):jr (.inl i) (.int i t)=Â:=by simp[jr,B?]
theorem Ao(x:Ì)(t:Tok):jr (.inr x) (.str x t)=Â:=by simp[jr,i!]
theorem Ii(a b:Int):decide ((Sum.inl a:ba)=Sum.inl b)=(a==b):=by
 by_cases e:a=b
 ·subst e;simp
 ·have h:¬(Sum.inl a:ba)=Sum.inl b:=fun q=>e (Sum.inl.inj q)
  rw[z9 h];exact(beq_eq_false_iff_ne.mpr e).symm
theorem Ie(a b:Ì):decide ((Sum.inr a:ba)=Sum.inr b)=decide (a=b):=by
 by_cases e:a=b
 ·subst e;simp
 ·have h:¬(Sum.inr a:ba)=Sum.inr b:=fun q=>e (Sum.inr.inj q)
  rw[z9 h,z9 e]
theorem Ih(a:Int)(b:Ì):decide ((Sum.inl a:ba)=Sum.inr b)=Ã:=z9 (fun q=>nomatch q)
theorem Ig(a:Ì)(b:Int):decide ((Sum.inr a:ba)=Sum.inl b)=Ã:=z9 (fun q=>nomatch q)
def cQ(prog:Ò)(w:à):PySem.KeyKind prog w ba where
 is:=jr
 hash:=MX w
 inj:=fun v a b ha hb=>by
  rcases dq ha with⟨i,t,rfl,rfl⟩|⟨x,t,rfl,rfl⟩
  ·rcases dq hb with⟨j,u,rfl,e⟩|⟨y,u,rfl,e⟩
   ·injection e with e1 _;rw[e1]
   ·exact nomatch e
  ·rcases dq hb with⟨j,u,rfl,e⟩|⟨y,u,rfl,e⟩
   ·exact nomatch e
   ·injection e with e1 _;rw[e1]
 byValue:=fun k v h=>by
  rcases dq h with⟨i,t,rfl,rfl⟩|⟨x,t,rfl,rfl⟩<;>rfl
 pyHash:=fun hv h=>by
  rcases dq hv with⟨i,t,rfl,rfl⟩|⟨x,t,rfl,rfl⟩
  ·exact wpAny_pyHash_int h
  ·exact wpAny_pyHash_str h
 eqBool:=fun hu hv h=>by
  rcases dq hu with⟨i,t,rfl,rfl⟩|⟨x,t,rfl,rfl⟩
  ·rcases dq hv with⟨j,u,rfl,rfl⟩|⟨y,u,rfl,rfl⟩
   ·rw[Ii]at h;exact wpAny_eqBool_int h
   ·rw[Ih]at h;exact SeqAt.EqAt.int_str i t y u _ _ _ _ h
  ·rcases dq hv with⟨j,u,rfl,rfl⟩|⟨y,u,rfl,rfl⟩
   ·rw[Ig]at h;exact SeqAt.EqAt.str_int x t j u _ _ _ _ h
   ·rw[Ie]at h;exact wpAny_eqBool_str h
 «strs»:=fun k x t v h=>by
  rcases dq h with⟨i,u,rfl,e⟩|⟨y,u,rfl,e⟩
  ·exact nomatch e
  ·injection e with e1 _
   subst e1;cases v<;>rfl
theorem vD(prog:Ò)(w:à)(i:Int)(t:Tok):(cQ prog w).is (.inl i) (.int i t)=Â:=Aq i t
theorem vC(prog:Ò)(w:à)(x:Ì)(t:Tok):(cQ prog w).is (.inr x) (.str x t)=Â:=Ao x t
inductive V where
 |non|bl (b:Bool)|int (i:Int)|str (x:Ì)|byt (b:Array UInt8)|flt (b:UInt64)|ref (a:Ç)|ty (n:String)
 deriving DecidableEq
def RelV:V->Å->Prop
 |.non,u=>u=š
 |.bl b,u=>u=c! b
 |.int i,u=>∃t,u=ϫ i t
 |.str x,u=>∃t,u=Ϫ x t
 |.byt b,u=>∃t,u=X' b t
 |.flt b,u=>∃t,u=B' b t
 |.ref a,u=>u=ã a
 |.ty n,u=>u=M? n
abbrev Vals:List V->List Å->Prop:=R? RelV
theorem Vals.length{xs:List V}{us:List Å}(r:Vals xs us):xs.length=us.length:=Paired.length r
theorem Vals.get:∀{xs:List V}{us:List Å}{i:Nat}{x:V},Vals xs us->xs[i]?=À x->∃u,us[i]?=À u/\RelV x u
 |_,_,_,_,.nil,e=>by simp at e
 |_,_,0,_,.cons r _,e=>by simp at e;subst e;exact⟨_,rfl,r⟩
 |_,_,i+1,x,.cons _ t,e=>by
  obtain⟨u,h1,h2⟩:=Vals.get (i:=i) (x:=x) t (by simpa using e);exact⟨u,by simpa using h1,h2⟩
theorem Vals.set(r:RelV x u):∀{xs:List V}{us:List Å} (i:Nat),Vals xs us->Vals (xs.set i x) (us.set i u)
 |_,_,_,.nil=>.nil
 |_,_,0,.cons _ t=>.cons r t
 |_,_,i+1,.cons q t=>.cons q (Vals.set r i t)
theorem Vals.append:∀{xs ys:List V}{us ws:List Å},Vals xs us->Vals ys ws->Vals (xs++ys) (us++ws):=by
 intro xs ys us ws h s
 induction h with
 |nil=>exact s
 |cons r t a=>exact .cons r a
theorem Vals.take:∀{xs:List V}{us:List Å} (n:Nat),Vals xs us->Vals (xs.take n) (us.take n):=by
 intro xs us n h
 induction h generalizing n with
 |nil=>cases n<;>exact .nil
 |cons r t a=>cases n with
  |zero=>exact .nil
  |succ n=>exact .cons r (a n)
theorem Vals.drop:∀{xs:List V}{us:List Å} (n:Nat),Vals xs us->Vals (xs.drop n) (us.drop n):=by
 intro xs us n h
 induction h generalizing n with
 |nil=>cases n<;>exact .nil
 |cons r t a=>cases n with
  |zero=>exact .cons r t
  |succ n=>exact a n
def RelO:Option V->Option Å->Prop
 |some v,À u=>RelV v u
 |none,Á=>True
 |_,_=>False
def KV{a:Type}:List (a×V)->List (a×Value)->Prop:=R? fun(p:a×V)(q:a×Value)=>p.1=q.1/\RelV p.2 q.2
noncomputable def kV:ba->V
 |.inl i=>.int i
 |.inr x=>.str x
inductive HO where
  |lst (xs:List V)
  |tup (xs:List V)
  |dK (Pd:List (ba×V))|dT (Pd:List (List ba×V))
  |set (S:Int->Bool) (n:Nat)
  |ins (C dx:Ç) (fs:List (Ì×V))
  |own (x:Ç)
  |xd (fs:List (Ì×V))
  |met (f x:Ç)
  |rng (lo hi:Int)
  |frz (o:X0) (u:HO)
  |tbl (ps:Array Å)
  |ext (φ:é->Prop)
abbrev Hp:=Ç->Option HO
noncomputable def ah(H:Hp)(a:Ç)(o:HO):Hp:=fun b=>if b=a then À o else H b
theorem aD:ah H a o a=À o:=by unfold ah;rw[yH rfl]
theorem ae(h:b≠a):ah H a o b=H b:=by unfold ah;rw[yG h]
theorem xk{H:Hp}{a b:Ç}{o u:HO}(h:H a=À o)(h':H b=À u)(d:o≠u):a≠b:=by
 intro e;subst e;rw[h]at h';exact d (yD h')
theorem bu{H:Hp}{a b:Ç}{o:HO}(h:H a=À o)(h':H b=Á):a≠b:=by
 intro e;subst e;rw[h]at h';cases h'
section
variable(P:Ò)(w:à)
def ObjOk(H:Hp)(h:é)(a:Ç):HO->Prop
 |.lst xs=>xs.length<=Ë/\∃(Ph:List Å)(n:Nat),Vals xs Ph/\h.get? a=À { cls:=.type "list",data:=.seq Ph.toArray n }
 |.tup xs=>xs.length<=Ë/\∃Ph:List Å,Vals xs Ph/\IsTup h a Ph.toArray
 |.dK Pd=>Pd.length<=Ë/\(a==Ė)=Ã/\∃vs,KV Pd vs/\h.DictOf (cQ P w) a vs
 |.dT Pd=>Pd.length<=Ë/\(a==Ė)=Ã/\∃xs:List (List ba×Addr×Value),
   R? (fun(p:List ba×V)(q:List ba×Addr×Value)=>p.1=q.1/\H q.2.1=À (.tup (p.1.map kV))/\RelV p.2 q.2.2) Pd xs /\
   ∃o es ep,h.get? a=À o/\o.ExactDict/\o.data=.dict es ep/\es.toList=xs.map (entryOfKey (ſ (cQ P w)))/\(xs.map (·.1)).Nodup
 |.set S n=>h.SetOf (intKind P w) a S n
 |.ins C dx fs=>H dx=À (.own a)/\fs.length<=1000/\dx≠a/\h.get? a=À (ϥ C dx) /\
   ∃mA,h.Ns1 dx mA/\(∀f,RelO (fs.lookup f) (mA f))/\p! mA (fs.map (·.1))
 |.own _=>∃o,h.get? a=À o
 |.xd fs=>∃mA,h.Ns1 a mA/\∀f,RelO (fs.lookup f) (mA f)
 |.rng lo hi=>∃t u v,h.get? a=À { cls:=.type "range",data:=.fields #[.int lo t,.int hi u,.int 1 v] }
 |.frz o u=>h.get? a=À o/\ObjOk H h a u
 |.tbl ps=>h.get? a=À { cls:=.none,data:=.fields ps }
 |.met f x=>h.get? a=À (X9 (.ref f) (.ref x))
 |.ext φ=>φ h/\(∃o,h.get? a=À o)/\∀h1 h2:é,φ h1->(∀o,h1.get? a=À o->h2.get? a=À o)->φ h2
def HOk(H:Hp)(h:é):Prop:=∀a o,H a=À o->ObjOk P w H h a o
end
section
variable{P:Ò}{w:à}{H H':Hp}{h h':é}{a:Ç}{o:HO}
theorem ObjOk.lt(x:ObjOk P w H h a o):a<h.objs.size:=by
 cases o with
 |lst xs=>obtain⟨_,_,_,_,e⟩:=x;exact yI e
 |tup xs=>obtain⟨_,_,_,p⟩:=x;exact p.lt
 |dK Pd=>obtain⟨_,_,_,_,o,_,_,e,_⟩:=x;exact yI e
 |dT Pd=>obtain⟨_,_,_,_,o,_,_,e,_⟩:=x;exact yI e
 |set S n=>obtain⟨o,_,_,_,e,_⟩:=x;exact yI e
 |ins C dx fs=>obtain⟨_,_,_,e,_⟩:=x;exact yI e
 |own y=>obtain⟨_,e⟩:=x;exact yI e
 |xd fs=>obtain⟨_,⟨_,_,_,e,_⟩,_⟩:=x;exact yI e
 |rng lo hi=>obtain⟨_,_,_,e⟩:=x;exact yI e
 |frz ob u=>obtain⟨e,_⟩:=x;exact yI e
 | tbl ps=>exact yI (show h.get? a=À _ from x)
 | met f y=>exact yI (show h.get? a=À _ from x)
 |ext φ=>obtain⟨_,⟨_,e⟩,_⟩:=x;exact yI e
theorem Paired.mapP{α c:Type}{F G:α->c->Prop}:∀{l₁:List α}{l₂:List c},R? F l₁ l₂->(∀a b,F a b->G a b)->R? G l₁ l₂:=by
 intro l₁ l₂ h f
 induction h with
 |nil=>exact .nil
 |cons r t d=>exact .cons (f _ _ r) d
theorem ObjOk.stay(x:ObjOk P w H h a o)(k:∀b u,(b=a\/H b=À (.own a))->h.get? b=À u->h'.get? b=À u)
  (E:∀b,H b=À (.own a)->H' b=À (.own a)) (D:∀b xs,H b=À (.tup xs)->H' b=À (.tup xs)):ObjOk P w H' h' a o:=by
 induction o with
 |lst xs=>obtain⟨z,s,n,r,e⟩:=x;exact⟨z,s,n,r,k _ _ (.inl rfl) e⟩
 |tup xs=>obtain⟨z,s,r,g,e,c⟩:=x;exact⟨z,s,r,g,k _ _ (.inl rfl) e,c⟩
 |dK Pd=>obtain⟨z,y,B,r,g,i,j,e,c⟩:=x;exact⟨z,y,B,r,g,i,j,k _ _ (.inl rfl) e,c⟩
 |dT Pd =>
  obtain⟨z,y,xs,r,g,i,j,e,c⟩:=x;exact⟨z,y,xs,Paired.mapP r fun p q z=>⟨z.1,D _ _ z.2.1,z.2.2⟩,g,i,j,k _ _ (.inl rfl) e,c⟩
 |set S n=>obtain⟨g,i,j,t,e,c⟩:=x;exact⟨g,i,j,t,k _ _ (.inl rfl) e,c⟩
 |ins C dx fs =>
  obtain⟨d,z,ne,e,m,⟨l,i,j,F,c⟩,r⟩:=x;exact⟨E _ d,z,ne,k _ _ (.inl rfl) e,m,⟨l,i,j,k _ _ (.inr d) F,c⟩,r⟩
 |own y=>obtain⟨g,e⟩:=x;exact⟨g,k _ _ (.inl rfl) e⟩
 |xd fs=>obtain⟨m,⟨l,i,j,e,c⟩,r⟩:=x;exact⟨m,⟨l,i,j,k _ _ (.inl rfl) e,c⟩,r⟩
 |rng lo hi=>obtain⟨t,u,v,e⟩:=x;exact⟨t,u,v,k _ _ (.inl rfl) e⟩
 |frz g u ih=>obtain⟨e,q⟩:=x;exact⟨k _ _ (.inl rfl) e,ih q⟩
 |tbl ps =>
  have e:h.get? a=À { cls:=.none,data:=.fields ps }:=x;show h'.get? a=À { cls:=.none,data:=.fields ps };exact k a _ (.inl rfl) e
 |met f y =>
  have e:h.get? a=À (X9 (.ref f) (.ref y)):=x;show h'.get? a=À (X9 (.ref f) (.ref y));exact k a _ (.inl rfl) e
 |ext φ=>obtain⟨p,⟨o,e⟩,A⟩:=x;exact⟨A _ _ p fun o q=>k _ _ (.inl rfl) q,⟨o,k _ _ (.inl rfl) e⟩,A⟩
theorem HOk.lt(x:HOk P w H h)(e:H a=À o):a<h.objs.size:=(x a o e).lt
theorem HOk.fresh(x:HOk P w H h)(e:h.objs.size<=a):H a=Á:=by
 cases q:H a with
 |none=>rfl
 |some u=>exact absurd (zJ (x.lt q) e) (xA _)
theorem HOk.kept(x:HOk P w H h)(k:∀b u,h.get? b=À u->h'.get? b=À u):HOk P w H h':=fun a o e =>
 (x a o e).stay (fun b u _ q=>k b u q) (fun _ q=>q) fun _ _ q=>q
theorem HOk.laid(x:HOk P w H h)(k:∀b u,h.get? b=À u->h'.get? b=À u)(g:h.objs.size<=a)(new:ObjOk P w (ah H a o) h' a o):HOk P w (ah H a o) h':=fun b u e=>by
 have d:=x.fresh g;by_cases f:b=a
 ·subst f;rw[aD]at e;cases e;exact new
 ·rw[ae f]at e
  exact(x b u e).stay (fun c v _ q=>k c v q) (fun c q=>by rw[ae (bu q d)];exact q) fun c i q=>by rw[ae (bu q d)];exact q
end
def Rd(H:Hp)(a:Ç)(u:HO):Prop:=H a=À u\/∃o,H a=À (.frz o u)
theorem Rd.ok(r:Rd H a u)(x:HOk P w H h):ObjOk P w H h a u:=by
 rcases r with r|⟨o,r⟩
 ·exact x a u r
 ·obtain⟨_,q⟩:=x a _ r
  exact q
def A1:Option HO->Prop
 |some (.lst _)=>True
 |some (.dK _)=>True
 |some (.dT _)=>True
 |some (.set _ _)=>True
 |some (.ins _ _ _)=>True
 |some (.ext _)=>True
 |_=>False
section
variable{P:Ò}{w:à}{H:Hp}{h h':é}{x e:Ç}{o':HO}
theorem HOk.write(ok:HOk P w H h)(i:A1 (H x))(he:e=x\/H e=À (.own x))(k:∀b u,b≠e->h.get? b=À u->h'.get? b=À u)(m:∃u,h'.get? e=À u)
  (new:ObjOk P w (ah H x o') h' x o'):HOk P w (ah H x o') h':=fun b u q=>by
 have d:∀c y,H c=À (.own y)->c≠x:=fun c y r z=>by subst z;rw[r]at i;exact i
 have f:∀c g,H c=À (.tup g)->c≠x:=fun c g r z=>by subst z;rw[r]at i;exact i
 by_cases l:b=x
 ·subst l;rw[aD]at q;cases q;exact new
 ·rw[ae l]at q
  by_cases a:b=e
  ·have n:H b=À (.own x):=by
    rcases he with z|z
    ·exact absurd (a.trans z) l
    ·rw[a];exact z
   rw[q]at n;cases n;obtain⟨v,o⟩:=m;exact⟨v,by rw[a];exact o⟩
  ·refine(ok b u q).stay (fun c v j r=>k c v ?_ r) (fun c r=>by rw[ae (d c b r)];exact r) fun c g r=>by rw[ae (f c g r)];exact r
   rcases j with rfl|j
   ·exact a
   ·rintro rfl
    rcases he with z|z
    ·exact d c b j z
    ·rw[j]at z;cases z;exact l rfl
end
structure Un(fs ex:List Ç)(H H':Hp)(h h':é):Prop where
 keep:∀b o,h.get? b=À o->H b=Á->b∉fs->b∉ex->h'.get? b=À o
 slot:∀b o,h.get? b=À o->H b=Á->b∈fs->b∉ex->∃sl,h'.get? b=À { o with slots:=sl }
 free:∀b o,h.get? b=À o->H b=Á->b∉ex->H' b=Á
 there:∀b o,h.get? b=À o->b∉ex->∃o',h'.get? b=À o'
 tups:∀b xs,H b=À (.tup xs)->H' b=À (.tup xs)
 frzs:∀b o u,H b=À (.frz o u)->H' b=À (.frz o u)
 tbls:∀b ps,H b=À (.tbl ps)->∃more,H' b=À (.tbl (ps++more))
section
variable{fs fs' ex ex':List Ç}{H H1 H2:Hp}{h h1 h2 h':é}{a x e:Ç}{o:HO}
theorem Un.any(u:Un fs ex H H1 h h1){b:Ç}{a:X0}(q:h.get? b=À a)(n:H b=Á)(c:b∉ex):∃sl,h1.get? b=À { a with slots:=sl }:=by
 by_cases d:b∈fs
 ·exact u.slot b a q n d c
 ·exact⟨a.slots,u.keep b a q n d c⟩
theorem Un.kept(k:∀b u,h.get? b=À u->h'.get? b=À u):Un fs ex H H h h' :=
 ⟨fun b a q _ _ _=>k b a q,fun b a q _ _ _=>⟨a.slots,k b a q⟩,fun _ _ _ n _=>n,fun b a q _=>⟨a,k b a q⟩,fun _ _ q=>q,fun _ _ _ q=>q,fun _ c q=>⟨#[],by rw[q];simp⟩⟩
theorem Un.refl:Un fs ex H H h h:=Un.kept fun _ _ q=>q
theorem Un.laid(k:∀b u,h.get? b=À u->h'.get? b=À u)(e:h.objs.size<=a)(c:H a=Á):Un fs ex H (ah H a o) h h' where
 keep:=fun b u q _ _ _=>k b u q
 slot:=fun b u q _ _ _=>⟨u.slots,k b u q⟩
 free:=fun b u q n _=>by rw[ae (zU (zJ (yI q) e))];exact n
 there:=fun b u q _=>⟨u,k b u q⟩
 tups:=fun b d q=>by rw[ae (bu q c)];exact q
 frzs:=fun b u d q=>by rw[ae (bu q c)];exact q
 tbls:=fun b f q=>⟨#[],by rw[ae (bu q c),q];simp⟩
theorem Un.write(c:A1 (H x))(he:e=x\/H e=À (.own x))(k:∀b u,b≠e->h.get? b=À u->h'.get? b=À u)(f:∃u,h'.get? e=À u):Un fs ex H (ah H x o) h h':=by
 have g:∀b,H b=Á->b≠x:=fun b n z=>by subst z;rw[n]at c;exact c
 have i:∀b,H b=Á->b≠e:=fun b n z=>by
  subst z;rcases he with r|r
  ·exact g b n r
  ·rw[n]at r;cases r
 have d:∀b u,H b=À u->¬A1 (À u)->b≠x:=fun b u q nm z=>by subst z;rw[q]at c;exact nm c
 refine⟨fun b u q n _ _=>k b u (i b n) q,fun b u q n _ _=>⟨u.slots,k b u (i b n) q⟩,fun b u q n _=>by rw[ae (g b n)];exact n,fun b u q _=>?_,
  fun b j q=>by rw[ae (d b _ q fun z=>z)];exact q,fun b u j q=>by rw[ae (d b _ q fun z=>z)];exact q,fun b l q=>⟨#[],by rw[ae (d b _ q fun z=>z),q];simp⟩⟩
 by_cases a:b=e
 ·subst a;exact f
 ·exact⟨u,k b u a q⟩
end
noncomputable def CL(h:é)(H:Hp):List Ç:=(Æ h.objs.size).filter fun a=>(H a).isSome
def kD(h:é)(H:Hp):é:=hideAll h (CL h H)
theorem Au(h:é)(H:Hp):(kD h H).objs.size=h.objs.size:=hideAll_size _ _
theorem Ci(e:h.get? b=À o)(n:H b=Á):(kD h H).get? b=À o :=
 hideAll_get _ e fun a=>by
  have q:(H b).isSome=Â:=(ć.mp a).2;rw[n]at q;simp at q
theorem E4(e:(kD h H).get? b=À o):h.get? b=À o/\H b=Á:=by
 have a:h.get? b=À o:=of_hideAll (CL h H) e;refine⟨a,?_⟩;cases q:H b with
 |none=>rfl
 |some x =>
  have c:b∈CL h H:=ć.mpr ⟨Ó.mpr (yI a),by simp[q]⟩;have z:(kD h H).get? b=Á:=hideAll_none (CL h H) c;rw[z]at e;cases e
structure Mod(K:á)(mg:Ì->Option Å)(base:é):Prop where
 kin:K.In base
 glob:base.Ns Ï mg
 blt:∃mb,base.Ns ė mb/\∀x:Ì,x≠"__name__"->mb x=Õ x
 nolimit:base.NoLimit
structure Cx where
 prog:Ò
 w:à
 K:á
 mg:Ì->Option Å
 base:é
 A:ą
 N:List Ì
 s₀:É
 H₀:Hp
 env:O?
 outer:List O?
 stack:List O?
 ex:List Ç
 fn:Ì->Bool
 calm:Bool
 pn:List (Ç×Obj)
 xe:Å->É->Prop
noncomputable def k7(l:List O?):List Ç:=l.filterMap (·.frame)
abbrev Cx.fs(X:Cx):List Ç:=k7 X.outer
def AU(sc:ĝ)(x:Ì):Prop:=sc.names.lookup x=À .local\/sc.names.lookup x=À .cell\/sc.names.lookup x=À .free
def Loc(sc:ĝ)(x:Ì):Prop:=sc.names.lookup x=À .local\/sc.names.lookup x=À .cell
def Nj(env:O?)(h:é)(m:Ì->Option Å)(x:Ì)(u:Å):Prop :=
 (env.kindOf x=À .local/\m x=À u)\/((env.kindOf x=À .cell\/env.kindOf x=À .free)/\∃c,env.cells.lookup x=À c/\h.IsCell c (À u))
structure Cx.Ok(X:Cx):Prop where
 mod:Mod X.K X.mg X.base
 kind:X.env.scope.kind=.function
 glob:X.env.globals=Ï
 blt:X.env.builtins=ė
 above:X.s₀.heap.objs.size<=X.env.locals
 inj:∀x y c,X.env.cells.lookup x=À c->X.env.cells.lookup y=À c->x=y
 has:∀x,(X.env.kindOf x=À .cell\/X.env.kindOf x=À .free)->∃c,X.env.cells.lookup x=À c
 cab:∀x c,X.fn x=Â->X.env.cells.lookup x=À c->X.s₀.heap.objs.size<=c
 hd:X.calm=Â->X.A.handled=Á
 frames:X.A.frames=À X.stack
 stk:X.stack=X.outer\/(X.stack=X.env::X.outer/\X.env.frame=À X.env.locals)
 exf:∀b∈X.ex,b≠X.env.locals/\∀x c,X.env.cells.lookup x=À c->c≠b
 bs:∀b o,X.base.get? b=À o->X.s₀.heap.get? b=À o/\X.H₀ b=Á
 bsz:X.base.objs.size<=X.s₀.heap.objs.size
 noex:∀b o,X.base.get? b=À o->b∉X.ex
 exfs:∀b∈X.ex,b∉X.fs
 funs:X.s₀.heap.FunFrames X.base X.outer
 frf:∀b∈X.fs,X.H₀ b=Á
structure Inv(X:Cx)(Pc:List (Ç×Obj))(σ:List (Option V))(H:Hp)(s:É):Prop where
 ok:X.Ok
 os:s.os=X.s₀.os
 bare:ϔ s.gens
 base:Un X.fs X.ex X.H₀ H X.s₀.heap s.heap
 loc:∃m,s.heap.Ns X.env.locals m/\∀(i:Nat)(x:Ì)(v:V),X.N[i]?=À x->σ[i]?=À (À v)->AU X.env.scope x->∃u,RelV v u/\Nj X.env s.heap m x u
 cell:∀x c,X.env.cells.lookup x=À c->∃v,s.heap.IsCell c v
 free:H X.env.locals=Á
 freeC:∀x c,X.env.cells.lookup x=À c->H c=Á
 pin:∀p∈X.pn++Pc,s.heap.get? p.1=À p.2/\H p.1=Á/\p.1≠X.env.locals/\p.1∉X.fs/\∀v,p.2.data≠.cell v
 Pk:HOk X.prog X.w H s.heap
 len:σ.length=X.N.length
section
variable{X:Cx}{Pc:List (Ç×Obj)}{σ:List (Option V)}{H H':Hp}{s:É}{h':é}
theorem Cx.Ok.nofr(ok:X.Ok)(e:X.base.get? b=À o):b∉X.fs:=fun a=>by
 have:=(ok.funs.mem a).1
 rw[e]at this;cases this
theorem Inv.bs(I:Inv X Pc σ H s):∀b o,X.base.get? b=À o->s.heap.get? b=À o/\H b=Á:=fun b o e =>
 ⟨I.base.keep b o (I.ok.bs b o e).1 (I.ok.bs b o e).2 (I.ok.nofr e) (I.ok.noex b o e),I.base.free b o (I.ok.bs b o e).1 (I.ok.bs b o e).2 (I.ok.noex b o e)⟩
theorem Inv.bk(I:Inv X Pc σ H s):∀b o,X.base.get? b=À o->s.heap.get? b=À o:=fun b o e=>(I.bs b o e).1
theorem Inv.mod(I:Inv X Pc σ H s):Mod X.K X.mg X.base:=I.ok.mod
theorem Inv.kIn(I:Inv X Pc σ H s):X.K.In s.heap:=I.ok.mod.kin.keeps I.bk
theorem Inv.nolimit(I:Inv X Pc σ H s):s.heap.NoLimit:=I.ok.mod.nolimit.keeps I.bk
theorem Inv.lt(I:Inv X Pc σ H s):X.env.locals<s.heap.objs.size:=let⟨_,a,_⟩:=I.loc;a.lt
theorem Inv.sz(I:Inv X Pc σ H s):X.s₀.heap.objs.size<=s.heap.objs.size:=z5 I.ok.above (yY I.lt)
theorem Inv.nofs(I:Inv X Pc σ H s)(h:s.heap.objs.size<=a):a∉X.fs:=fun c=>by
 obtain⟨_,o,b,_⟩:=I.ok.funs.mem c;exact absurd (zJ (yI b) (z5 I.sz h)) (xA _)
theorem Inv.cne(I:Inv X Pc σ H s):∀x c,X.env.cells.lookup x=À c->c≠X.env.locals:=fun x c e z=>by
 obtain⟨v,o,d,hd⟩:=I.cell x c e;obtain⟨m,⟨f,g,h,a,b,_⟩,_⟩:=I.loc;rw[z,a]at d;cases d;rw[b]at hd;cases hd
theorem Inv.funs(I:Inv X Pc σ H s):s.heap.FunFrames X.base X.outer:=by
 have all:∀(l:List O?),(∀b∈k7 l,b∈X.fs)->X.s₀.heap.FunFrames X.base l->s.heap.FunFrames X.base l:=by
  intro l
  induction l with
  |nil=>intro _ _;trivial
  |cons n r g =>
   intro f k;obtain⟨m,⟨L,o,a,j,i,hd⟩,h⟩:=k;have d:L∈X.fs:=f L (by unfold k7;rw[ř,a];exact z7);obtain⟨p,e⟩:=I.base.slot L o i (I.ok.frf L d) d fun z=>I.ok.exfs L z d
   exact⟨m,⟨L,_,a,j,e,hd⟩,g (fun b c=>f b (by unfold k7;rw[ř,a];exact zQ _ c)) h⟩
 exact all X.outer (fun _ c=>c) I.ok.funs
theorem Inv.stack(I:Inv X Pc σ H s):s.heap.FunFrames X.base X.stack:=by
 rcases I.ok.stk with e|⟨e,b⟩
 ·rw[e];exact I.funs
 ·rw[e]
  obtain⟨m,a,_⟩:=I.loc;refine .cons (by rw[I.ok.kind];decide) b a ?_ I.funs;exact Heap.get?_none_of_le (z5 I.ok.bsz I.ok.above)
theorem Inv.stkSub(I:Inv X Pc σ H s):∀b∈k7 X.stack,b∈X.env.locals::X.fs:=fun b a=>by
 rcases I.ok.stk with e|⟨e,c⟩
 ·rw[e]at a;exact zQ _ a
 ·rw[e]at a
  unfold k7 at a;rw[ř,c]at a;exact a
theorem Inv.stkFree(I:Inv X Pc σ H s):∀b∈k7 X.stack,H b=Á:=fun b a=>by
 rcases zT.mp (I.stkSub b a) with e|a
 ·rw[e];exact I.free
 ·obtain⟨_,o,c,_⟩:=I.ok.funs.mem a
  exact I.base.free b o c (I.ok.frf b a) fun z=>I.ok.exfs b z a
theorem Inv.step{g':Array GenState}{t':Nat}{d':Drawn}{ch:List Ç}(I:Inv X Pc σ H s)
  (j:∀b∈ch,(b∈X.ex\/X.s₀.heap.objs.size<=b)/\b≠X.env.locals/\(∀x c,X.env.cells.lookup x=À c->c≠b)/\∀p∈X.pn++Pc,p.1≠b)
  (h:∀b o,b≠X.env.locals->b∉X.fs->b∉ch->s.heap.get? b=À o->H b=Á->h'.get? b=À o)
  (A:∀b o,b≠X.env.locals->b∈X.fs->b∉ch->s.heap.get? b=À o->H b=Á->∃sl,h'.get? b=À { o with slots:=sl }) (f:∀b o,b∉ch->s.heap.get? b=À o->H b=Á->H' b=Á)
  (B:∀b o,b∉ch->s.heap.get? b=À o->∃o',h'.get? b=À o')
  (E:∀b xs,H b=À (.tup xs)->H' b=À (.tup xs)) (J:∀b o u,H b=À (.frz o u)->H' b=À (.frz o u)) (F:∀b ps,H b=À (.tbl ps)->∃more,H' b=À (.tbl (ps++more)))
  (ns:∀m,s.heap.Ns X.env.locals m->h'.Ns X.env.locals m) (V:HOk X.prog X.w H' h') (T:ϔ g') :
  Inv X Pc σ H' { s with heap:=h',gens:=g',drawn:=d',toks:=t' }:=by
 have G:∀b o,X.s₀.heap.get? b=À o->b≠X.env.locals:=fun b o e=>zU (zJ (yI e) I.ok.above)
 have w:∀b o,X.s₀.heap.get? b=À o->b∉X.ex->b∉ch:=fun b o e a C=>by
  rcases(j b C).1 with z|z
  ·exact a z
  ·exact absurd (zJ (yI e) z) (xA _)
 have t:∀x c,X.env.cells.lookup x=À c->∀v,s.heap.IsCell c v->h'.IsCell c v:=fun x c e v M=>by
  obtain⟨o,D,hd⟩:=M;have g:c∉ch:=fun z=>(j c z).2.2.1 x c e rfl
  by_cases P:c∈X.fs
  ·obtain⟨sl,q⟩:=A c o (I.cne x c e) P g D (I.freeC x c e)
   exact⟨_,q,hd⟩
  ·exact⟨o,h c o (I.cne x c e) P g D (I.freeC x c e),hd⟩
 refine⟨I.ok,I.os,T,⟨fun b o e n C a=>?_,fun b o e n C a=>?_,fun b o e n a=>?_,fun b o e a=>?_,fun b xs e=>E b xs (I.base.tups b xs e),fun b o xs e=>J b o xs (I.base.frzs b o xs e),fun b ps e=>?_⟩,?_,fun x c e=>?_,?_,fun x c e=>?_,fun p O=>?_,V,I.len⟩
 ·exact h b o (G b o e) C (w b o e a) (I.base.keep b o e n C a) (I.base.free b o e n a)
 ·obtain⟨sl,y⟩:=I.base.slot b o e n C a
  obtain⟨L,K⟩:=A b _ (G b o e) C (w b o e a) y (I.base.free b o e n a);exact⟨L,K⟩
 ·obtain⟨o',y⟩:=I.base.there b o e a
  exact f b o' (w b o e a) y (I.base.free b o e n a)
 ·obtain⟨o',y⟩:=I.base.there b o e a
  exact B b o' (w b o e a) y
 ·obtain⟨Q,y⟩:=I.base.tbls b ps e
  obtain⟨m2,K⟩:=F b _ y;exact⟨Q++m2,by rw[K,Array.append_assoc]⟩
 ·obtain⟨m,R,S⟩:=I.loc
  refine⟨m,ns m R,fun i x v y K U=>?_⟩;obtain⟨u,r,l⟩:=S i x v y K U;refine⟨u,r,?_⟩;rcases l with l|⟨k,c,e,z⟩
  ·exact .inl l
  ·exact .inr ⟨k,c,e,t x c e _ z⟩
 ·obtain⟨v,z⟩:=I.cell x c e
  exact⟨v,t x c e v z⟩
 ·obtain⟨m,⟨o,_,_,D,_⟩,_⟩:=I.loc
  exact f _ o (fun z=>(j _ z).2.1 rfl) D I.free
 ·obtain⟨v,o,D,hd⟩:=I.cell x c e
  exact f c o (fun z=>(j c z).2.2.1 x c e rfl) D (I.freeC x c e)
 ·obtain⟨e,n,ne,N,d⟩:=I.pin p O
  have g:p.1∉ch:=fun z=>(j p.1 z).2.2.2 p O rfl
  exact⟨h p.1 p.2 ne N g e n,f p.1 p.2 g e n,ne,N,d⟩
theorem Inv.un{t':Nat}(I:Inv X Pc σ H s)(u:Un X.fs [] H H' s.heap h')(k:HOk X.prog X.w H' h'):Inv X Pc σ H' { s with heap:=h',toks:=t' }:=by
 obtain⟨m,⟨o,t,v,g,r⟩,_⟩:=id I.loc;obtain⟨l,j⟩:=u.any g I.free (by simp);exact I.step (g':=s.gens) (d':=s.drawn) (ch:=[]) (fun _ z=>nomatch z) (fun b o _ c _ e n=>u.keep b o e n c (by simp)) (fun b o _ c _ e n=>u.slot b o e n c (by simp)) (fun b o _ e n=>u.free b o e n (by simp)) (fun b o _ e=>u.there b o e (by simp)) u.tups u.frzs u.tbls (fun q i=>by
  obtain⟨p,d,f,a,h⟩:=i;rw[g]at a;cases a;exact⟨_,d,f,j,h⟩) k I.bare
theorem Inv.call{g':Array GenState}{t':Nat}{d':Drawn}{ch:List Ç}(I:Inv X Pc σ H s)(u:Un (k7 X.stack) ch H H' s.heap h')(v:HOk X.prog X.w H' h')(q:ϔ g')
  (f:∀b∈ch,(b∈X.ex\/X.s₀.heap.objs.size<=b)/\b≠X.env.locals/\(∀x c,X.env.cells.lookup x=À c->c≠b)/\∀p∈X.pn++Pc,p.1≠b) :
  Inv X Pc σ H' { s with heap:=h',gens:=g',drawn:=d',toks:=t' }:=by
 obtain⟨m,⟨o,B,C,j,r⟩,_⟩:=id I.loc;obtain⟨w,g⟩:=u.any j I.free fun z=>(f _ z).2.1 rfl
 exact I.step (ch:=ch) f (fun b o g t a e n=>u.keep b o e n (fun z=>(zT.mp (I.stkSub b z)).elim g t) a) (fun b o _ _ a e n=>u.any e n a) (fun b o a e n=>u.free b o e n a) (fun b o a e=>u.there b o e a) u.tups u.frzs u.tbls (fun A l=>by
  obtain⟨y,h,i,d,k⟩:=l;rw[j]at d;cases d;exact⟨_,h,i,g,k⟩) v q
theorem Inv.turned{t':Nat}{it:Ç}(I:Inv X Pc σ H s)(k:∀b o,b≠it->s.heap.get? b=À o->h'.get? b=À o)(h:H it=Á)(f:it≠X.env.locals)
  (w:it∈X.ex\/X.s₀.heap.objs.size<=it) (t:∀x c,X.env.cells.lookup x=À c->c≠it) (l:∀p∈X.pn++Pc,p.1≠it):Inv X Pc σ H { s with heap:=h',toks:=t' }:=by
 have d:∀b u,H b=À u->b≠it:=fun b u e z=>by rw[z,h]at e;cases e
 refine I.step (g':=s.gens) (d':=s.drawn) (ch:=[it]) (fun b j=>?_) (fun b o _ _ a e _=>k b o (fun z=>a (by simp[z])) e) (fun b o _ _ a e _=>⟨o.slots,k b o (fun z=>a (by simp[z])) e⟩) (fun _ _ _ _ n=>n)
  (fun b o a e=>⟨o,k b o (fun z=>a (by simp[z])) e⟩) (fun _ _ e=>e) (fun _ _ _ e=>e) (fun b B e=>⟨#[],by rw[e];simp⟩) (fun m i=>?_) (fun b u e=>?_) I.bare
 ·have e:b=it:=by simpa using j
  subst e;exact⟨w,f,t,l⟩
 ·obtain⟨o,y,A,g,r⟩:=i
  exact⟨o,y,A,k _ o (ç f) g,r⟩
 ·refine(I.Pk b u e).stay (fun c v a q=>k c v ?_ q) (fun _ q=>q) fun _ _ q=>q
  rcases a with z|z
  ·rw[z];exact d b u e
  ·exact d c _ z
theorem Inv.tok(I:Inv X Pc σ H s)(t:Nat):Inv X Pc σ H { s with toks:=t }:=I.un (h':=s.heap) (t':=t) Un.refl I.Pk
theorem Inv.kept{t':Nat}(I:Inv X Pc σ H s)(k:∀b u,s.heap.get? b=À u->h'.get? b=À u):Inv X Pc σ H { s with heap:=h',toks:=t' }:=I.un (Un.kept k) (I.Pk.kept k)
theorem Inv.laid{t':Nat}(I:Inv X Pc σ H s)(k:∀b u,s.heap.get? b=À u->h'.get? b=À u)(c:s.heap.objs.size<=a)(new:ObjOk X.prog X.w (ah H a o) h' a o) :
  Inv X Pc σ (ah H a o) { s with heap:=h',toks:=t' }:=I.un (Un.laid k c (I.Pk.fresh c)) (I.Pk.laid k c new)
theorem Inv.write{t':Nat}(I:Inv X Pc σ H s)(c:A1 (H x))(he:e=x\/H e=À (.own x))(k:∀b u,b≠e->s.heap.get? b=À u->h'.get? b=À u)(a:∃u,h'.get? e=À u)
  (new:ObjOk X.prog X.w (ah H x o) h' x o):Inv X Pc σ (ah H x o) { s with heap:=h',toks:=t' }:=I.un (Un.write c he k a) (I.Pk.write c he k a new)
theorem Inv.pins_of(I:Inv X Pc σ H s)(h:∀p∈pins',s.heap.get? p.1=À p.2/\H p.1=Á/\p.1≠X.env.locals/\p.1∉X.fs/\∀v,p.2.data≠.cell v):Inv X pins' σ H s :=
 ⟨I.ok,I.os,I.bare,I.base,I.loc,I.cell,I.free,I.freeC,fun p a=>(zZ.mp a).elim (fun z=>I.pin p (zL _ z)) (h p),I.Pk,I.len⟩
theorem t8{N:List Ì}(c:N.Nodup){i j:Nat}{x:Ì}(a:N[i]?=À x)(b:N[j]?=À x):i=j:=by
 obtain⟨g,e⟩:=zB.mp a;obtain⟨f,d⟩:=zB.mp b;exact(Ÿ c).mp (e.trans d.symm)
theorem rR{M:Model}{A:ą}{E:Å->É->Prop}{i:Nat}{x:Ì}{v:V}{u:Å}{Q:Unit->É->Prop}(I:Inv X Pc σ H s)(hN:X.N.Nodup)(P:X.N[i]?=À x)(w:Loc X.env.scope x)(r:RelV v u)
  (h:∀s',Inv X Pc (σ.set i (À v)) H s'->(∃a,ĭ a s.heap s'.heap/\(a=X.env.locals\/X.env.cells.lookup x=À a))->Q () s') (hf:X.fn x=Â\/X.env.scope.names.lookup x=À .local:=by first|exact .inl rfl|exact .inr rfl|assumption):Î M A (storeName X.env x u) Q E s:=by
 obtain⟨m,hn,hl⟩:=id I.loc;have R:(X.env.scope.kind==.class||(X.env.scope.kind==.module&&X.env.locals !=X.env.globals))=Ã:=by rw[I.ok.kind];rfl
 have F:i<σ.length:=by rw[I.len];exact(zB.mp P).1
 have cne:=I.cne;have g:∀{a:Ç}{L:é},(∃o,s.heap.get? a=À o/\H a=Á)->ĭ a s.heap L->HOk X.prog X.w H L:=fun {a L} ha f b ob e=>by
  obtain⟨_,_,B⟩:=ha;refine(I.Pk b ob e).stay (fun c U t q=>(f.2 c ?_).trans q) (fun _ q=>q) fun _ _ q=>q
  rintro rfl;rcases t with rfl|t
  ·rw[B]at e;cases e
  ·rw[B]at t;cases t
 rcases w with D|D
 ·refine wpAny_storeName_local D hn (fun L hn' f=>?_) R
  obtain⟨oL,_,_,hoL,_⟩:=id hn;refine h _ ⟨I.ok,I.os,I.bare,⟨fun b o e n K w=>?_,fun b o e n K w=>?_,I.base.free,fun b o e w=>?_,I.base.tups,I.base.frzs,I.base.tbls⟩,⟨_,hn',fun j y Y l C e3=>?_⟩,fun y c e=>?_,I.free,I.freeC,fun p hp=>?_,g ⟨oL,hoL,I.free⟩ f,by simpa using I.len⟩ ⟨_,f,.inl rfl⟩
  ·exact(f.2 b (zU (zJ (yI e) I.ok.above))).trans (I.base.keep b o e n K w)
  ·obtain⟨sl,l⟩:=I.base.slot b o e n K w
   exact⟨sl,(f.2 b (zU (zJ (yI e) I.ok.above))).trans l⟩
  ·obtain⟨o',l⟩:=I.base.there b o e w
   exact⟨o',(f.2 b (zU (zJ (yI e) I.ok.above))).trans l⟩
  ·by_cases G:j=i
   ·subst G
    rw[P]at l;cases l;rw[ñ F]at C;cases C;exact⟨u,r,.inl ⟨D,by simp⟩⟩
   ·rw[ï (ç G)]at C
    obtain⟨Z,r',q⟩:=hl j y Y l C e3;refine⟨Z,r',?_⟩;rcases q with⟨k,e⟩|⟨k,c,e,z⟩
    ·refine .inl ⟨k,?_⟩
     have:y≠x:=fun e=>G (t8 hN l (e▸P))
     simp[this,e]
    ·exact .inr ⟨k,c,e,z.sameBut f (cne y c e)⟩
  ·obtain⟨U,z⟩:=I.cell y c e
   exact⟨U,z.sameBut f (cne y c e)⟩
  ·obtain⟨e,n,ne,nf,d⟩:=I.pin p hp
   exact⟨(f.2 p.1 ne).trans e,n,ne,nf,d⟩
 ·have J:X.fn x=Â:=by
   rcases hf with z|z
   ·exact z
   ·rw[z]at D;cases D
  obtain⟨c,t⟩:=I.ok.has x (.inl D);obtain⟨U,z⟩:=I.cell x c t;refine wpAny_storeName_cell I.ok.kind D t z (fun L T f=>?_);obtain⟨oc,O,N⟩:=id z;refine h { s with heap:=L } ⟨I.ok,I.os,I.bare,⟨fun b o e n K w=>?_,fun b o e n K w=>?_,I.base.free,fun b o e w=>?_,I.base.tups,I.base.frzs,I.base.tbls⟩,⟨m,hn.sameBut f (ç (cne x c t)),fun j y Y l C e3=>?_⟩,fun y W e=>?_,I.free,I.freeC,fun p hp=>?_,g ⟨oc,O,I.freeC x c t⟩ f,by simpa using I.len⟩ ⟨c,f,.inr t⟩
  ·exact(f.2 b (zU (zJ (yI e) (I.ok.cab x c J t)))).trans (I.base.keep b o e n K w)
  ·obtain⟨sl,l⟩:=I.base.slot b o e n K w
   exact⟨sl,(f.2 b (zU (zJ (yI e) (I.ok.cab x c J t)))).trans l⟩
  ·obtain⟨o',l⟩:=I.base.there b o e w
   exact⟨o',(f.2 b (zU (zJ (yI e) (I.ok.cab x c J t)))).trans l⟩
  ·by_cases G:j=i
   ·subst G
    rw[P]at l;cases l;rw[ñ F]at C;cases C;exact⟨u,r,.inr ⟨.inl D,c,t,T⟩⟩
   ·rw[ï (ç G)]at C
    obtain⟨Z,r',q⟩:=hl j y Y l C e3;refine⟨Z,r',?_⟩;rcases q with q|⟨k,W,e,z'⟩
    ·exact .inl q
    ·refine .inr ⟨k,W,e,z'.sameBut f ?_⟩
     rintro rfl;exact G (t8 hN l (I.ok.inj _ _ _ e t▸P))
  ·by_cases S:W=c
   ·subst S;exact⟨_,T⟩
   ·obtain⟨w2,z2⟩:=I.cell y W e
    exact⟨w2,z2.sameBut f S⟩
  ·obtain⟨e,n,ne,nf,d⟩:=I.pin p hp
   refine⟨(f.2 p.1 ?_).trans e,n,ne,nf,d⟩;intro q;rw[q,O]at e;have q':oc=p.2:=yD e;exact d U (by rw[<- q'];exact N)
theorem lB{i:Nat}(I:Inv X Pc σ H s)(d:X.N.Nodup)(b:X.N[i]?=À x)(a:Loc X.env.scope x)(r:RelV v u)
  (h:∀s',Inv X Pc (σ.set i (À v)) H s'->Q () s') (c:X.fn x=Â\/X.env.scope.names.lookup x=À .local:=by first|exact .inl rfl|exact .inr rfl|assumption):Î M A (storeName X.env x u) Q E s :=
 rR I d b a r (fun s' e _=>h s' e) c
theorem Inv.call'(I:Inv X Pc σ H s)(f:s'.os=s.os)(u:Un (k7 X.stack) ch H H' s.heap s'.heap)(h:HOk X.prog X.w H' s'.heap)(g:ϔ s'.gens)
  (a:∀b∈ch,(b∈X.ex\/X.s₀.heap.objs.size<=b)/\b≠X.env.locals/\(∀x c,X.env.cells.lookup x=À c->c≠b)/\∀p∈X.pn++Pc,p.1≠b):Inv X Pc σ H' s':=by
 obtain⟨i,g',d',t',d⟩:=s';have e:d=s.os:=f;subst e;exact I.call (g':=g') (t':=t') (d':=d') u h g a
end
abbrev XK:=Å->Option Ç->Hp->Prop
abbrev St:=List (Option V)
abbrev VK:=V->Hp->Prop
abbrev TE:=St->Hp->VK->Prop
abbrev TT:=St->Hp->(Bool->Hp->Prop)->Prop
abbrev TA:=St->Hp->(List V->Hp->Prop)->Prop
structure lT where
 nx:St->Hp->Prop
 rt:VK
 bk:St->Hp->Prop:=fun _ _=>False
 ct:St->Hp->Prop:=fun _ _=>False
abbrev TS:=lT->St->Hp->Prop
def EP(X:Cx)(Pc:List (Ç×Obj))(σ:St)(Q:VK)(u:Å)(s':É):Prop:=∃v a,Inv X Pc σ a s'/\RelV v u/\Q v a
def TP(X:Cx)(Pc:List (Ç×Obj))(σ:St)(Q:Bool->Hp->Prop)(b:Bool)(s':É):Prop:=∃a,Inv X Pc σ a s'/\Q b a
def AP(X:Cx)(Pc:List (Ç×Obj))(σ:St)(Q:List V->Hp->Prop)(us:List Å)(s':É):Prop:=∃a b,Inv X Pc σ b s'/\Vals a us/\Q a b
def SP(X:Cx)(Pc:List (Ç×Obj))(D:lT)(f:Flow)(s':É):Prop :=
 match f with
 |.next=>∃a b,Inv X Pc a b s'/\D.nx a b
 |.brk=>∃a b,Inv X Pc a b s'/\D.bk a b
 |.cont=>∃a b,Inv X Pc a b s'/\D.ct a b
 |.ret u=>∃v a b,Inv X Pc a b s'/\RelV v u/\D.rt v b
def PE(X:Cx)(e:Í)(t:TE):Prop :=
 ∀(b:List (Ç×Obj))(s:É)(a:St)(H:Hp)(Q:VK),Inv X b a H s->t a H Q->Î (model X.prog X.w) X.A (eval e X.env) (EP X b a Q) X.xe s
def PT(X:Cx)(e:Í)(t:TT):Prop :=
 ∀(b:List (Ç×Obj))(s:É)(a:St)(H:Hp)(Q:Bool->Hp->Prop),Inv X b a H s->t a H Q->Î (model X.prog X.w) X.A (z? e X.env (eval e X.env)) (TP X b a Q) X.xe s
def PW(X:Cx)(e:Í)(t:TT):Prop :=
 ∀(a:Y? Å)(c:List (Ç×Obj))(s:É)(b:St)(H:Hp)(Q:Bool->Hp->Prop),Inv X c b H s->t b H Q->Î (model X.prog X.w) X.A (z? e X.env a) (TP X c b Q) X.xe s
theorem PW.pt(h:PW X e t):PT X e t:=h _
def PA(X:Cx)(es:List Í)(t:TA):Prop :=
 ∀(b:ę)(c:List (Ç×Obj))(s:É)(a:St)(H:Hp)(Q:List V->Hp->Prop),Inv X c a H s->t a H Q->Î (model X.prog X.w) X.A (spliced (ú b (Ê es X.env))) (AP X c a Q) X.xe s
def PS(X:Cx)(st:ĺ)(t:TS):Prop :=
 ∀(b:List (Ç×Obj))(s:É)(a:St)(H:Hp)(D:lT),Inv X b a H s->t D a H->Î (model X.prog X.w) X.A (exec st X.env) (SP X b D) X.xe s
def PSs(X:Cx)(st:List ĺ)(t:TS):Prop :=
 ∀(b:List (Ç×Obj))(s:É)(a:St)(H:Hp)(D:lT),Inv X b a H s->t D a H->Î (model X.prog X.w) X.A (execs st X.env) (SP X b D) X.xe s
theorem aE{α:Type}{t:Y? α}{Q Q':α->É->Prop}(h:Î M A t Q E s)(b:∀a s,Q a s->Q' a s):Î M A t Q' E s:=yS h b fun _ _ x=>x
section
variable{X:Cx}
theorem bin{a b:Í}{e d:TE}(m:PE X a e)(l:PE X b d){Pc:List (Ç×Obj)}{s:É}{σ:St}{H:Hp}{R:V->V->Hp->Prop}(I:Inv X Pc σ H s)(h:e σ H fun x H1=>d σ H1 fun y H2=>R x y H2)
  {α:Type}{Q:α->É->Prop}{f:Å->Å->Y? α}
  (k:∀v u s2 x y H2,Inv X Pc σ H2 s2->RelV x v->RelV y u->R x y H2->Î (model X.prog X.w) X.A (f v u) Q X.xe s2) :
  Î (model X.prog X.w) X.A (eval a X.env) (fun v s₁=>Î (model X.prog X.w) X.A (eval b X.env) (fun u s₂=>Î (model X.prog X.w) X.A (f v u) Q X.xe s₂) X.xe s₁) X.xe s:=by
 refine aE (m Pc s σ H _ I h) fun v g c=>?_
 obtain⟨x,H1,o,r1,j⟩:=c;refine aE (l Pc g σ H1 _ o j) fun u s2 c=>?_
 obtain⟨y,H2,n,r2,i⟩:=c;exact k v u s2 x y H2 n r1 r2 i
noncomputable def Mr(i:Nat):TE:=fun a H Q=>∃v,a[i]?=À (À v)/\Q v H
noncomputable def tC(v:V):TE:=fun _ H Q=>Q v H
theorem Hi{i:Nat}(p:X.N[i]?=À x)(j:AU X.env.scope x)(hd:(x==("__debug__":Ì))=Ã:=by decide)(d:(x==("__classdict__":Ì))=Ã:=by decide):PE X (.Name x pos) (Mr i):=by
 intro q s g H Q I h;obtain⟨v,e,h⟩:=h;obtain⟨m,k,o⟩:=I.loc;obtain⟨u,r,l⟩:=o i x v p e j;have ay:EP X q g Q u s:=⟨v,H,I,r,h⟩;rcases l with⟨b,n⟩|⟨b,c,f,a⟩
 ·exact V! (wpAny_loadName_local I.ok.kind b k n ay) hd
 ·rcases b with b|b
  ·exact V! (wpAny_loadName_cell I.ok.kind b f a ay) hd
  ·exact V! (wpAny_loadName_free I.ok.kind b f a ay d) hd
theorem Ho{i j pos}:PE X (.Constant (.int i) j pos) (tC (.int i)):=fun _ _ _ H _ I h=>wpAny_Constant_int ⟨.int i,H,I.tok _,⟨_,rfl⟩,h⟩
theorem Ka{b j pos}:PE X (.Constant (.bool b) j pos) (tC (.bl b)):=fun _ _ _ H _ I h=>Constant_bool ⟨.bl b,H,I,rfl,h⟩
theorem Hn{j pos}:PE X (.Constant .none j pos) (tC .non):=fun _ _ _ H _ I h=>P! ⟨.non,H,I,rfl,h⟩
theorem Hk{x j pos}:PE X (.Constant (.str x) j pos) (tC (.str x)):=fun _ _ _ H _ I h=>Calls.Constant_str ⟨.str x,H,I.tok _,⟨_,rfl⟩,h⟩
def Gl(X:Cx)(x:Ì):Prop:=X.env.kindOf x=À .globalImplicit
theorem nF(I:Inv X Pc σ H s)(b:Gl X x)(a:X.mg x=À u)(h:Q u s)
  (hd:(x==("__debug__":Ì))=Ã:=by decide):Î (model X.prog X.w) X.A (eval (.Name x pos) X.env) Q E s :=
 Calls.Name_function_global I.ok.kind b (Calls.loadGlobal_global (by rw[I.ok.glob];exact I.mod.glob.keeps I.bk) a h) hd
theorem d7(I:Inv X Pc σ H s)(d:Gl X x)(c:X.mg x=Á)(a:Õ x=À u)(h:Q u s)
  (b:x≠"__name__":=by decide) (hd:(x==("__debug__":Ì))=Ã:=by decide):Î (model X.prog X.w) X.A (eval (.Name x pos) X.env) Q E s:=by
 obtain⟨g,f,e⟩:=I.mod.blt;exact Calls.Name_function_global I.ok.kind d (Calls.loadGlobal_builtin (by rw[I.ok.glob];exact I.mod.glob.keeps I.bk) c (by rw[I.ok.blt];exact f.keeps I.bk) ((e x b).trans a) h) hd
theorem EY(b:Gl X x)(a:X.mg x=À u)(r:RelV v u)(hd:(x==("__debug__":Ì))=Ã:=by decide):PE X (.Name x pos) (tC v) :=
 fun _ _ _ H _ I h=>nF I b a ⟨v,H,I,r,h⟩ hd
theorem E2(d:Gl X x)(c:X.mg x=Á)(a:Õ x=À u)(r:RelV v u)(b:x≠"__name__":=by decide)(hd:(x==("__debug__":Ì))=Ã:=by decide):PE X (.Name x pos) (tC v) :=
 fun _ _ _ H _ I h=>d7 I d c a ⟨v,H,I,r,h⟩ b hd
variable{a b:Í}{ta tb:TE}{pos:ę}
theorem RelV.none_iff(r:RelV x v):(v==š)=decide (x=.non):=by
 cases x with
 |non=>cases r;rfl
 |bl _=>cases r;rfl
 |int _=>obtain⟨t,rfl⟩:=r;rfl
 |str _=>obtain⟨t,rfl⟩:=r;rfl
 |byt _=>obtain⟨t,rfl⟩:=r;rfl
 |flt _=>obtain⟨t,rfl⟩:=r;rfl
 |ref _=>cases r;rfl
 |ty _=>cases r;rfl
variable{tA tB':TT}{rest:List Í}
noncomputable def MD(t u:TT):TT:=fun a H Q=>t a H fun c b=>if c=Â then u a b Q else Q Ã b
noncomputable def ND(t u:TT):TT:=fun a H Q=>t a H fun c b=>if c=Â then Q Â b else u a b Q
noncomputable def Mx(t:TT):TT:=fun a H Q=>t a H fun c b=>Q (!c) b
theorem EE(d:PT X a tA):PW X (.BoolOp .And [a] pos) tA:=by
 intro g f s b H Q I h;refine isTrue_and (aE (d f s b H Q I h) fun c i e=>?_);cases c with
 |true=>exact isTrue_and_nil e
 |false=>exact e
theorem G3(d:PT X a tA):PW X (.BoolOp .Or [a] pos) tA:=by
 intro g f s b H Q I h;refine isTrue_or (aE (d f s b H Q I h) fun c i e=>?_);cases c with
 |false=>exact isTrue_or_nil e
 |true=>exact e
theorem G4(n:PT X a tA)(m:PW X (.BoolOp .And (b::rest) pos) tB'):PW X (.BoolOp .And (a::b::rest) pos) (MD tA tB'):=by
 intro k g s e H Q I h;refine isTrue_and (aE (n g s e H _ I h) fun c l d=>?_);obtain⟨j,i,f⟩:=d;cases c with
 |true=>exact m k g l e j Q i f
 |false=>exact⟨j,i,f⟩
theorem JT(n:PT X a tA)(m:PW X (.BoolOp .Or (b::rest) pos) tB'):PW X (.BoolOp .Or (a::b::rest) pos) (ND tA tB'):=by
 intro k g s e H Q I h;refine isTrue_or (aE (n g s e H _ I h) fun c l d=>?_);obtain⟨j,i,f⟩:=d;cases c with
 |true=>exact⟨j,i,f⟩
 |false=>exact m k g l e j Q i f
theorem G5(d:PT X a tA):PT X (.UnaryOp .Not a pos) (Mx tA):=by
 intro e s b H Q I h;exact isTrue_not (d e s b H (fun c f=>Q (!c) f) I h)
noncomputable def Jz(e d:TE):TE:=fun a H Q=>e a H fun x b=>∃c,x=.bl c/\if c=Â then d a b Q else Q (.bl Ã) b
noncomputable def Mw(e d:TE):TE:=fun a H Q=>e a H fun x b=>∃c,x=.bl c/\if c=Â then Q (.bl Â) b else d a b Q
noncomputable def Jv(b:TE):TE:=fun a H Q=>b a H fun x d=>∃c,x=.bl c/\Q (.bl (!c)) d
theorem Hl{c}(h:PE X a t):PE X (.BoolOp c [a] pos) t:=fun e s b H Q I d=>BoolOp_one (h e s b H Q I d)
theorem Hs(m:PE X a ta)(l:PE X (.BoolOp .And (b::rest) pos) tb):PE X (.BoolOp .And (a::b::rest) pos) (Jz ta tb):=by
 intro g s f H Q I h;refine BoolOp_and (aE (m g s f H _ I h) fun v k e=>?_);obtain⟨x,j,i,r1,d⟩:=e;obtain⟨c,rfl,d⟩:=d;cases r1;refine Ī ?_;cases c with
 |true=>exact l g k f j Q i d
 |false=>exact⟨.bl Ã,j,i,rfl,d⟩
theorem J6(m:PE X a ta)(l:PE X (.BoolOp .Or (b::rest) pos) tb):PE X (.BoolOp .Or (a::b::rest) pos) (Mw ta tb):=by
 intro g s f H Q I h;refine BoolOp_or (aE (m g s f H _ I h) fun v k e=>?_);obtain⟨x,j,i,r1,d⟩:=e;obtain⟨c,rfl,d⟩:=d;cases r1;refine Ī ?_;cases c with
 |false=>exact l g k f j Q i d
 |true=>exact⟨.bl Â,j,i,rfl,d⟩
theorem Hm(f:PE X a ta):PE X (.UnaryOp .Not a pos) (Jv ta):=by
 intro g s e H Q I h;refine UnaryOp_ (aE (f g s e H _ I h) fun v k d=>?_);obtain⟨x,j,i,r1,b⟩:=d;obtain⟨c,rfl,b⟩:=b;cases r1;exact not_of (Ī ⟨.bl (!c),j,i,rfl,b⟩)
noncomputable def NE(t:TT)(e d:TE):TE:=fun a H Q=>t a H fun c b=>if c=Â then e a b Q else d a b Q
theorem BS(m:PT X c tA)(o:PE X a ta)(n:PE X b tb):PE X (.IfExp c a b pos) (NE tA ta tb):=by
 intro g s e H Q I h;refine wpAny_IfExp (aE (m g s e H _ I h) fun d i f=>?_);obtain⟨l,k,j⟩:=f;cases d with
 |true=>exact o g i e l Q k j
 |false=>exact n g i e l Q k j
end
def cb(K:á)(H:Hp)(a:Ç)(xs:List V):Prop :=
 Rd H a (.lst xs) \/
  ∃(o:X0)(b:Array Å)(n:Nat),K.lookup a=À o/\o.cls=.type "list"/\o.dict=Á/\o.data=.seq b n/\b.size<=Ë/\Vals xs b.toList
def iA(K:á)(H:Hp)(a:Ç)(xs:List V):Prop :=
 Rd H a (.tup xs) \/
  ∃(o:X0)(b:Array Å)(n:Nat),K.lookup a=À o/\o.cls=.type "tuple"/\o.data=.seq b n/\b.size<=Ë/\Vals xs b.toList
noncomputable def Ng:Å->Option V
 |.none=>À .non
 |.bool b=>À (.bl b)
 |.int i _=>À (.int i)
 |.str x _=>À (.str x)
 |.bytes b _=>À (.byt b)
 |.float b _=>À (.flt b)
 |.ref a=>À (.ref a)
 |.type n=>À (.ty n)
 |_=>Á
theorem RelV.abs(r:RelV x u):Ng u=À x:=by
 cases x with
 |non=>cases r;rfl
 |bl _=>cases r;rfl
 |int _=>obtain⟨t,rfl⟩:=r;rfl
 |str _=>obtain⟨t,rfl⟩:=r;rfl
 |byt _=>obtain⟨t,rfl⟩:=r;rfl
 |flt _=>obtain⟨t,rfl⟩:=r;rfl
 |ref _=>cases r;rfl
 |ty _=>cases r;rfl
theorem RelV.inj(r:RelV x u)(q:RelV y u):x=y:=yD (r.abs.symm.trans q.abs)
theorem Vals.inj{xs ys:List V}{us:List Å}(h:Vals xs us):Vals ys us->xs=ys:=by
 induction h generalizing ys with
 |nil=>intro a;cases a;rfl
 |cons r t d =>
  intro a;cases a with
  |cons c b=>rw[r.inj c,d b]
section
variable{X:Cx}{Pc:List (Ç×Obj)}{σ:St}{H:Hp}{s:É}{a:Ç}{xs ys:List V}
theorem Inv.list(I:Inv X Pc σ H s)(h:cb X.K H a xs):∃Ph:List Å,Vals xs Ph/\PlainL s.heap a Ph.toArray/\xs.length<=Ë:=by
 rcases h with h|⟨o,Ph,n,c,d,hd,b,hz,r⟩
 ·obtain⟨z,Ph,n,r,e⟩:=h.ok I.Pk
  exact⟨Ph,r,⟨_,n,e,rfl,rfl,rfl⟩,z⟩
 ·refine⟨Ph.toList,r,⟨o,n,I.kIn a o c,d,hd,by simpa using b⟩,?_⟩
  have e:=r.length;simp only[ò]at e;lia
theorem Inv.tuple(I:Inv X Pc σ H s)(h:iA X.K H a xs):∃Ph:List Å,Vals xs Ph/\IsTup s.heap a Ph.toArray/\xs.length<=Ë:=by
 rcases h with h|⟨o,Ph,n,c,d,b,hz,r⟩
 ·obtain⟨z,Ph,r,p⟩:=h.ok I.Pk
  exact⟨Ph,r,p,z⟩
 ·refine⟨Ph.toList,r,⟨o,I.kIn a o c,d,n,by simpa using b⟩,?_⟩
  have e:=r.length;simp only[ò]at e;lia
theorem Inv.list_inj(I:Inv X Pc σ H s)(h:cb X.K H a xs)(h':cb X.K H a ys):xs=ys:=by
 obtain⟨i,r,⟨o,n,e,_,_,d⟩,_⟩:=I.list h;obtain⟨b,g,⟨j,k,c,_,_,f⟩,_⟩:=I.list h';rw[e]at c;cases c;rw[d]at f;injection f with d1 _;have:i=b:=by simpa using congrArg W5 d1
 subst this;exact r.inj g
theorem Inv.tuple_inj(I:Inv X Pc σ H s)(h:iA X.K H a xs)(h':iA X.K H a ys):xs=ys:=by
 obtain⟨i,r,⟨o,e,_,n,d⟩,_⟩:=I.tuple h;obtain⟨b,g,⟨j,c,_,k,f⟩,_⟩:=I.tuple h';rw[e]at c;cases c;rw[d]at f;injection f with d1 _;have:i=b:=by simpa using congrArg W5 d1
 subst this;exact r.inj g
end
noncomputable abbrev Cx.wish(X:Cx)(E:Å->É->Prop):Cx:={ X with xe:=E }
abbrev Cx.nox(X:Cx):Cx:=X.wish fun _ _=>False
theorem Cx.Ok.wish{X:Cx}(ok:X.Ok)(E:Å->É->Prop):(X.wish E).Ok :=
 ⟨ok.mod,ok.kind,ok.glob,ok.blt,ok.above,ok.inj,ok.has,ok.cab,ok.hd,ok.frames,ok.stk,ok.exf,ok.bs,ok.bsz,ok.noex,ok.exfs,ok.funs,ok.frf⟩
theorem Cx.Ok.unwish{X:Cx}{E:Å->É->Prop}(ok:(X.wish E).Ok):X.Ok :=
 ⟨ok.mod,ok.kind,ok.glob,ok.blt,ok.above,ok.inj,ok.has,ok.cab,ok.hd,ok.frames,ok.stk,ok.exf,ok.bs,ok.bsz,ok.noex,ok.exfs,ok.funs,ok.frf⟩
section
variable{X:Cx}{Pc:List (Ç×Obj)}{σ:St}{H:Hp}{s:É}{E:Å->É->Prop}
theorem Inv.wish(I:Inv X Pc σ H s)(E:Å->É->Prop):Inv (X.wish E) Pc σ H s:=⟨I.ok.wish E,I.os,I.bare,I.base,I.loc,I.cell,I.free,I.freeC,I.pin,I.Pk,I.len⟩
theorem Inv.unwish(I:Inv (X.wish E) Pc σ H s):Inv X Pc σ H s:=⟨I.ok.unwish,I.os,I.bare,I.base,I.loc,I.cell,I.free,I.freeC,I.pin,I.Pk,I.len⟩
theorem SP.unwish(h:SP (X.wish E) Pc D f s'):SP X Pc D f s':=by
 cases f with
 |next=>obtain⟨a,b,I,q⟩:=h;exact⟨a,b,I.unwish,q⟩
 |brk=>obtain⟨a,b,I,q⟩:=h;exact⟨a,b,I.unwish,q⟩
 |cont=>obtain⟨a,b,I,q⟩:=h;exact⟨a,b,I.unwish,q⟩
 |ret u=>obtain⟨v,a,b,I,r,q⟩:=h;exact⟨v,a,b,I.unwish,r,q⟩
theorem PSs.nox{st:List ĺ}{t:TS}(h:PSs X.nox st t):PSs X st t:=fun c s a H D I b =>
 yS (h c s a H D (I.wish _) b) (fun _ _ q=>q.unwish) fun _ _ z=>False.elim z
end
section
variable{X:Cx}{st:ĺ}{rest:List ĺ}{t u:TS}{e:Í}{te:TE}{pos:ę}
noncomputable def Jw:TS:=fun D a H=>D.nx a H
noncomputable def Mt(t u:TS):TS:=fun D a H=>t { D with nx:=u D } a H
theorem EH:PSs X [] Jw:=fun _ _ a H _ I h=>n? ⟨a,H,I,h⟩
theorem BH(g:PS X st t)(e:PSs X rest u):PSs X (st::rest) (Mt t u):=by
 intro b s c H D I h;refine wpAny_execs_cons (aE (g b s c H { D with nx:=u D } I h) fun f d q=>?_);cases f with
 |next =>
  obtain⟨a,j,i,q⟩:=q;exact e b d a j D i q
 |ret v=>exact q
 |brk=>exact q
 |cont=>exact q
theorem Inv.quiet(I:Inv X Pc σ H s):interactive X.env=Ã:=by simp[interactive,I.ok.kind]
noncomputable def Jx(te:TE):TS:=fun D a H=>te a H fun _ b=>D.nx a b
theorem EJ(he:PE X e te)(c:Ĺ e Á pos.line X.env=pure Ã:=by rfl):PS X (.Expr e pos) (Jx te):=by
 intro d s a H D I h;exact wpAny_Expr_any (aE (he d s a H _ I h) fun v i ⟨x,g,f,r1,b⟩=>⟨a,g,f,b⟩) I.quiet c
noncomputable def Mu(te:TE):TS:=fun D a H=>te a H D.rt
theorem G7(he:PE X e te):PS X (.Return (À e) pos) (Mu te):=by
 intro c s a H D I h;exact wpAny_Return_some (aE (he c s a H _ I h) fun v g ⟨x,f,d,r1,b⟩=>⟨x,a,f,d,r1,b⟩)
noncomputable def Mz(c:TT)(t u:TS):TS:=fun D a H=>c a H fun b d=>if b=Â then t D a d else u D a d
theorem JU(m:PT X c tc)(o:PSs X a t)(n:PSs X b u):PS X (.If c a b pos) (Mz tc t u):=by
 intro g s e H D I h;refine wpAny_If (aE (m g s e H _ I h) fun d i f=>?_);obtain⟨l,k,j⟩:=f;cases d with
 |true=>exact o g i e l D k j
 |false=>exact n g i e l D k j
noncomputable def Ga:TS:=fun _ _ _=>False
theorem BJ:PS X st Ga:=fun _ _ _ _ _ _ h=>h.elim
end
abbrev TG:=V->St->Hp->(St->Hp->Prop)->Prop
abbrev vw:=List V->St->Hp->(St->Hp->Prop)->Prop
def PG(X:Cx)(a:Í)(t:TG):Prop :=
 ∀(d:List (Ç×Obj))(s:É)(c:St)(H:Hp)(v:V)(u:Å)(Q:St->Hp->Prop),Inv X d c H s->RelV v u->t v c H Q ->
  Î (model X.prog X.w) X.A (assign a X.env u) (fun _ f=>∃b e,Inv X d b e f/\Q b e) X.xe s
def sO(X:Cx)(ts:List Í)(t:vw):Prop :=
 ∀(e:List (Ç×Obj))(s:É)(b:St)(H:Hp)(c:List V)(d:List Å)(Q:St->Hp->Prop),Inv X e b H s->Vals c d->t c b H Q ->
  Î (model X.prog X.w) X.A (ϰ ((â ts X.env).map (·.2)) d) (fun _ g=>∃a f,Inv X e a f g/\Q a f) X.xe s
abbrev CF:=V->V->V->Hp->(Hp->Prop)->Prop
def xY(X:Cx)(t:CF):Prop :=
 ∀(d:List (Ç×Obj))(s:É)(a:St)(H:Hp)(o i v:V)(b c u:Å)(Q:Hp->Prop),Inv X d a H s->RelV o b->RelV i c->RelV v u->t o i v H Q ->
  Î (model X.prog X.w) X.A (Ϥ b c u) (fun _ f=>∃e,Inv X d a e f/\Q e) X.xe s
abbrev Jf:=V->V->Hp->VK->Prop
def DG(X:Cx)(c:Ğ)(t:Jf):Prop :=
 ∀(b:List (Ç×Obj))(s:É)(a:St)(H:Hp)(x y:V)(v u:Å)(Q:VK),Inv X b a H s->RelV x v->RelV y u->t x y H Q ->
  Î (model X.prog X.w) X.A (inplaceOp c v u) (EP X b a Q) X.xe s
section
variable{X:Cx}{pos:ę}
noncomputable def qa(i:Nat):TG:=fun v a H Q=>Q (a.set i (À v)) H
theorem EV{i:Nat}(d:X.N.Nodup)(b:X.N[i]?=À x)(a:Loc X.env.scope x)(c:X.fn x=Â\/X.env.scope.names.lookup x=À .local:=by first|exact .inl rfl|exact .inr rfl|assumption):PG X (.Name x pos) (qa i):=by
 intro j s f H v u Q I r h;exact W7 (lB I d b a r (fun g e=>⟨_,H,e,h⟩) c)
noncomputable def M7:vw:=fun b a H Q=>b=[]/\Q a H
noncomputable def KK(t:TG)(u:vw):vw:=fun c b H Q=>∃v r,c=v::r/\t v b H fun a d=>u r a d Q
theorem ET:sO X [] M7:=by
 intro d s a H b c Q I r h;obtain⟨e,h⟩:=h;subst e;cases r;exact X? ⟨a,H,I,h⟩
theorem BM(l:PG X e t)(k:sO X es u)
  (j:(â (e::es) X.env).map (·.2)=assign e X.env::(â es X.env).map (·.2):=by rfl):sO X (e::es) (KK t u):=by
 intro c s d H p w Q I r h;obtain⟨v,q,m,h⟩:=h;subst m;cases r with
 |cons r g =>
  rw[j];refine ϵ (aE (l c s d H _ _ _ I r h) fun _ f b=>?_);obtain⟨a,o,n,i⟩:=b;exact k c f a o _ _ Q n g i
noncomputable def M5(K:á)(n:Nat)(t:vw):TG:=fun v c H Q=>∃a b,v=.ref a/\iA K H a b/\b.length=n/\t b c H Q
theorem Hg{k:Nat}{n:Nat}(x:X.calm=Â)(h:sO X es t)
  (q:(â es X.env).length=n:=by rfl) (d:(â es X.env).findIdx? (·.1)=Á:=by rfl):PG X (.Tuple es k pos) (M5 X.K n t):=by
 intro i s f H v u Q I r c;obtain⟨a,j,z,p,w,c⟩:=c;subst z;cases r;obtain⟨B,g,m,hz⟩:=I.tuple p;refine assign_Tuple_tuple (I.ok.hd x) m (by simp[q,<- w,g.length]) d fun y l=>?_
 have A:Inv X i f H { s with heap:=y }:=I.kept (t':=s.toks) fun b o e=>l b o (zU (yI e)) e
 exact h i _ f H j _ Q A (by simpa using g) c
noncomputable def M6(to b:TE)(t:CF):TG:=fun v a H Q=>to a H fun o e=>b a e fun i d=>t o i v d fun c=>Q a c
theorem Hh(l:PE X o to)(m:PE X i ti)(k:xY X t)
  (n:∀v,assign (.Subscript o i pos) X.env v=(do
   let ov <- holding [v] (eval o X.env)
   let iv <- holding [v,ov] (eval i X.env)
   Ŝ pos
   holding [v,ov,iv] (Ϥ ov iv v)
   release [v,ov,iv] []):=by intro _;rfl):PG X (.Subscript o i pos) (M6 to ti t):=by
 intro c s b H v u Q I r h;rw[n];refine yE (yR (aE (l c s b H _ I h) fun ov e a=>?_));obtain⟨x,B,w,r1,j⟩:=a;refine yE (yR (aE (m c e b B _ w j) fun iv d a=>?_));obtain⟨y,A,q,r2,g⟩:=a;refine yE (Ś (yE (yR (aE (k c d b A x y v ov iv u _ q r1 r2 r g) fun _ C a=>?_))));obtain⟨z,p,f⟩:=a;exact wpAny_release ⟨b,z,p,f⟩
noncomputable def wZ(te:TE)(g:TG):TS:=fun D a H=>te a H fun x b=>g x a b D.nx
theorem Ha(he:PE X e te)(k:PG X tg g)(j:ś [tg] e pos.line X.env=pure Ã:=by rfl)(i:õ [tg] e X.env=pure Á:=by rfl)
  (l:(â [tg] X.env).map (·.2)=[assign tg X.env]:=by rfl):PS X (.Assign [tg] e pos) (wZ te g):=by
 intro c s b H D I h;refine wpAny_Assign_stores (aE (he c s b H _ I h) fun v d a=>?_) j i;obtain⟨x,n,m,r1,f⟩:=a;rw[l];exact aE (k c d b n x v _ m r1 f) fun _ o q=>q
theorem G6{i:Nat}(k:X.N.Nodup)(g:X.N[i]?=À x)(d:Loc X.env.scope x)(he:PE X e te)(f:Ĺ e (À (.Name x pos')) pos.line X.env=pure Ã:=by rfl)(j:X.fn x=Â\/X.env.scope.names.lookup x=À .local:=by first|exact .inl rfl|exact .inr rfl|assumption) :
  PS X (.Assign [.Name x pos'] e pos) (wZ te (qa i)):=by
 intro l s b H D I h;refine wpAny_Assign_Name (aE (he l s b H _ I h) fun v q a=>?_) f;obtain⟨y,o,n,r1,c⟩:=a;exact lB n k g d r1 (fun p m=>⟨_,o,m,c⟩) j
noncomputable def Mv(i j:Nat)(c:TA):TS:=fun D a H=>c a H fun b d=>∃v w,b=[v,w]/\D.nx ((a.set i (À v)).set j (À w)) d
theorem G8{i j:Nat}{m n c}(R:X.calm=Â)(C:X.N.Nodup)(Q:X.N[i]?=À x)(P:X.N[j]?=À y)(u:i≠j)
  (B:X.env.scope.names.lookup x=À .local) (A:X.env.scope.names.lookup y=À .local) (S:PA X [a,b] ta)
  (N:õ [.Tuple [.Name x px,.Name y py] m pt] (.Tuple [a,b] n c) X.env=pure (À [x,y]))
  (O:ś [.Tuple [.Name x px,.Name y py] m pt] (.Tuple [a,b] n c) pos.line X.env=pure Ã:=by rfl) :
  PS X (.Assign [.Tuple [.Name x px,.Name y py] m pt] (.Tuple [a,b] n c) pos) (Mv i j ta):=by
 intro E s z H D I h;rw[exec_Assign_arm];refine yE (Ś ?_);rw[O];refine yE (yF ?_);rw[yG dC];refine yE (Tuple_ (aE (S _ E s z H _ I h) fun J g t=>?_));obtain⟨Z,G,Y,r1,l⟩:=t;obtain⟨v,w,T,l⟩:=l;subst T;obtain⟨f,d,rfl,K,k⟩:∃f d,J=[f,d]/\RelV v f/\RelV w d:=by
  cases r1 with
  |cons p q =>
   cases q with
   |cons M L =>
    cases L;exact⟨_,_,rfl,p,M⟩
 refine W6 ?_ (by show 2<=Ë;decide);have W:Inv X E z G { g with heap:=g.heap.push { cls:=.type "tuple",data:=.seq [f,d].toArray } }:=Y.kept (t':=g.toks) fun b o e=>zG _ e
 rw[N];refine yE (yF ?_);show Î (model X.prog X.w) X.A (do rule "assign.swapped-stores";let items <- unpackItems (.ref g.heap.objs.size) 2 Á;ϰ [fun v=>T6 X.env y v,fun v=>T6 X.env x v] items.reverse;pure Flow.next) _ _ _;refine yE (wpAny_rule (yE (unpackItems_tuple (items:=#[f,d]) (I.ok.hd R) (IsTup.new g.heap _) fun h' r=>?_)));have V:=W.kept (h':=h') (t':=g.toks) fun b o e=>r b o (zU (yI e)) e
 show Î _ _ (ϰ [fun v=>T6 X.env y v,fun v=>T6 X.env x v] [d,f]>>=fun _=>pure Flow.next) _ _ _;refine yE (ϵ (wpAny_bindName (lB V C P (.inl A) k (fun s2 U=>?_) (.inr A))));refine ϵ (wpAny_bindName (lB U C Q (.inl B) K (fun s3 F=>X? (yF ?_)) (.inr B)));rw[W! _ _ (ç u)]at F;exact⟨_,G,F,l⟩
def Jy(to e te:TE)(b:V->V->Hp->VK->Prop)(d:Jf)(a:CF):TS:=fun D c H=>to c H fun o l=>e c l fun i k=>b o i k fun x j=>te c j fun y h=>d x y h fun z g=>a o i z g fun f=>D.nx c f
def CG(X:Cx)(t:V->V->Hp->VK->Prop):Prop :=
 ∀(d:List (Ç×Obj))(s:É)(a:St)(H:Hp)(o i:V)(b c:Å)(Q:VK),Inv X d a H s->RelV o b->RelV i c->t o i H Q ->
  Î (model X.prog X.w) X.A (Q9 b c) (EP X d a Q) X.xe s
theorem EK(G:PE X o to)(J:PE X i ti)(K:CG X tget)(he:PE X e te)(F:DG X op tip)(E:xY X tset)
  (L:∀ov iv new,augStore i ov iv new=(do holding [new,ov,iv] (Ϥ ov iv new);release [new,ov,iv] [];pure .next):=by intros;rfl):PS X (.AugAssign (.Subscript o i tpos) op e pos) (Jy to ti te tget tip tset):=by
 intro c s b H D I h;refine wpAny_AugAssign_SubscriptAny (aE (G c s b H _ I h) fun ov r a=>?_) L;obtain⟨g,Y,R,r1,C⟩:=a;refine aE (J c r b Y _ R C) fun iv q a=>?_
 obtain⟨f,W,Q,r2,B⟩:=a;refine aE (K c q b W g f ov iv _ Q r1 r2 B) fun d p a=>?_
 obtain⟨l,V,P,w,A⟩:=a;refine aE (he c p b V _ P A) fun v n a=>?_
 obtain⟨k,U,O,u,z⟩:=a;refine aE (F c n b U l k d v _ O w u z) fun new m a=>?_
 obtain⟨j,T,N,t,y⟩:=a;exact aE (E c m b T g f j ov iv new _ N r1 r2 t y) fun _ Z ⟨S,M,x⟩=>⟨b,S,M,x⟩
noncomputable def LY(f:Int->Int->Int):Jf:=fun x y H Q=>∃i j,x=.int i/\y=.int j/\Q (.int (f i j)) H
theorem Io:DG X .Add (LY fun i j=>i+j):=by
 intro e s c H x y v u Q I r1 r2 h;obtain⟨i,j,b,a,q⟩:=h;subst b;subst a;obtain⟨t,rfl⟩:=r1;obtain⟨d,rfl⟩:=r2;exact iadd_int ⟨.int _,H,I.tok _,⟨_,rfl⟩,q⟩
theorem Im:DG X .Sub (LY fun i j=>i-j):=by
 intro e s c H x y v u Q I r1 r2 h;obtain⟨i,j,b,a,q⟩:=h;subst b;subst a;obtain⟨t,rfl⟩:=r1;obtain⟨d,rfl⟩:=r2;exact isub_int ⟨.int _,H,I.tok _,⟨_,rfl⟩,q⟩
end
section
variable{X:Cx}{pos:ę}
def F8(c:TT)(h:TS):TS:=fun D a H=>∃W:Nat->St->Hp->Prop,(∃m,W m a H)/\∀m a H,W m a H ->
 c a H fun b f=>if b=Â then ∃N:St->Hp->Prop,(∀d g,N d g->∃e,e<m/\W e d g)/\h { D with nx:=N,ct:=N,bk:=D.nx } a f else D.nx a f
theorem BI(t:Ϧ (model X.prog X.w) X.A X.env X.xe)(K:PT X c tc)(L:PSs X body tb):PS X (.While c body [] pos) (F8 tc tb):=by
 intro q s A H D I h;obtain⟨W,⟨J,C⟩,turn⟩:=h;refine wpAny_While (codeAny_whileLoop (fun n G=>∃e z,Inv X q e z G/\W n e z) ?_ J ⟨A,H,I,C⟩);rintro n F ⟨d,y,M,B⟩;refine Ĥ t (aE (K q F d y _ M (turn n d y B)) fun b E o=>?_);obtain⟨x,w,j⟩:=o;cases b with
 |true =>
  obtain⟨N,u,j⟩:=j;rw[yH rfl];refine Ĥ t (aE (L q E d x _ w j) fun f O i=>?_);cases f with
  |next =>
   obtain⟨a,g,r,l⟩:=i;obtain⟨m,p,k⟩:=u a g l;exact⟨m,p,a,g,r,k⟩
  |cont =>
   obtain⟨a,g,r,l⟩:=i;obtain⟨m,p,k⟩:=u a g l;exact⟨m,p,a,g,r,k⟩
  |brk=>exact i
  |ret v=>exact i
 |false =>
  rw[yG Ĝ];exact n? ⟨d,x,w,j⟩
end
structure It where
 go:Nat->Hp->Prop
 yld:Nat->Hp->V->Hp->Prop
 stop:Nat->Hp->Prop
def eQ(X:Cx)(Pc:List (Ç×Obj))(H:Hp)(b:Ç):Prop :=
 H b=Á/\b≠X.env.locals/\b∉X.fs/\(b∈X.ex\/X.s₀.heap.objs.size<=b)/\(∀x c,X.env.cells.lookup x=À c->c≠b)/\∀p∈X.pn++Pc,p.1≠b
theorem Inv.fpOk(I:Inv X Pc σ H s)(a:s.heap.objs.size<=b)(f:H' b=Á):eQ X Pc H' b:=by
 refine⟨f,ı (zJ I.lt a),I.nofs a,.inr (z5 I.sz a),fun x c e z=>?_,fun p d z=>?_⟩
 ·obtain⟨v,q⟩:=I.cell x c e
  exact absurd (zJ q.lt (by rw[z];exact a)) (xA _)
 ·exact absurd (zJ (yI (I.pin p d).1) (by rw[z];exact a)) (xA _)
structure lQ(P:Ò)(w:à)(K:á)(tg:Í)(J:It)(fp:List Ç)(it:Ç)(tn:Nat->é->Prop):Prop where
 mem:it∈fp
 obj:∀i h,tn i h->∀b∈fp,∃o,h.get? b=À o/\∀v,o.data≠.cell v
 keep:∀i h h',tn i h->(∀b∈fp,∀o,h.get? b=À o->h'.get? b=À o)->tn i h'
 item:∀(X:Cx),X.prog=P->X.w=w->X.K=K->X.calm=Â->∀(i:Nat)(Pc:List (Ç×Obj))(s:É)(σ:St)(H:Hp)(E:Å->É->Prop),Inv X Pc σ H s->(∀b∈fp,eQ X Pc H b)->tn i s.heap->J.go i H ->
  Î (model P w) X.A (x? (.ref it)) (fun r s1=>∃u,r=À u /\
   Î (model P w) X.A (ϗ tg (.ref it) u) (fun _ s2=>∃x H',Inv X Pc σ H' s2/\RelV x u/\J.yld i H x H'/\tn (i+1) s2.heap/\∀b∈fp,H' b=Á) E s1) E s
 done:∀(X:Cx),X.prog=P->X.w=w->X.K=K->X.calm=Â->∀(i:Nat)(Pc:List (Ç×Obj))(s:É)(σ:St)(H:Hp)(E:Å->É->Prop),Inv X Pc σ H s->(∀b∈fp,eQ X Pc H b)->tn i s.heap->J.stop i H ->
  Î (model P w) X.A (x? (.ref it)) (fun r s1=>r=Á/\Inv X Pc σ H s1) E s
 self:∀(A:ą)(i:Nat)(s:É)(Q:Å->É->Prop)(E:Å->É->Prop),tn i s.heap->Q (.ref it) s->Î (model P w) A (pyIter (.ref it)) Q E s
abbrev TI:=St->Hp->(It->Hp->Prop)->Prop
def Jh(X:Cx)(Pc:List (Ç×Obj))(σ:St)(f:Í)(R:It->Hp->Prop)(a:Å)(s2:É):Prop :=
 ∃(it:Ç)(e:List Ç)(d:Nat->é->Prop)(J:It)(c:Hp),a=.ref it/\Inv X Pc σ c s2/\lQ X.prog X.w X.K f J e it d/\d 0 s2.heap/\(∀b∈e,eQ X Pc c b)/\R J c
def PI(X:Cx)(e a:Í)(d:TI):Prop :=
 ∀(c:List (Ç×Obj))(s:É)(b:St)(H:Hp)(R:It->Hp->Prop),Inv X c b H s->d b H R ->
  Î (model X.prog X.w) X.A (eval a X.env) (fun v f=>Î (model X.prog X.w) X.A (pyIter v) (Jh X c b e R) X.xe f) X.xe s
theorem p9(b:s.heap.get? it=À o)(d:o.cls=.type n)(hd:o.data=.fields vs)
  (c:["enumerate","zip","dict_itemiterator","dict_reverseitemiterator","odict_iterator","itertools.zip_longest","itertools.pairwise"].contains n=Ã) (a:Q () s):Î M A (ϗ tg (.ref it) u) Q E s:=by
 unfold ϗ;cases tg<;>first
  |exact yF a
  | (cases u <;> first
    |exact yF a
    | (refine yE (wpAny_load b ?_)
       rw[d,hd];show Î M A (if(["enumerate","zip","dict_itemiterator","dict_reverseitemiterator","odict_iterator","itertools.zip_longest","itertools.pairwise"].contains n&&vs[0]?==À (x! _))=Â then _ else _) Q E s;rw[yG (by intro h;rw[c,Bool.false_and]at h;cases h)];exact yF a))
noncomputable def DK(K:á)(a:Ç):It :=
 ⟨fun i H=>∃b x,cb K H a b/\b[i]?=À x,fun i H x c=>c=H/\∀b,cb K H a b->b[i]?=À x,fun i H=>∃b,cb K H a b/\b.length<=i⟩
noncomputable def DI(K:á)(a:Ç):It :=
 ⟨fun i H=>∃b x,iA K H a b/\b[i]?=À x,fun i H x c=>c=H/\∀b,iA K H a b->b[i]?=À x,fun i H=>∃b,iA K H a b/\b.length<=i⟩
noncomputable def A4(a:Int)(n:Nat):It:=⟨fun i _=>i<n,fun i H x b=>b=H/\x=.int (a+i),fun i _=>n<=i⟩
theorem yi{P:Ò}{w:à}{K:á}{Q:Í}(a it:Ç):lQ P w K Q (DK K a) [it] it (fun i h=>h.IsListIter it a i) where
 mem:=by simp
 obj:=fun i h f b g=>by
  have e:b=it:=by simpa using g
  subst e;obtain⟨o,e,c,d⟩:=f;exact⟨o,e,fun v z=>by rw[d]at z;cases z⟩
 keep:=fun i h n f k=>f.at fun o e=>k it (by simp) o e
 item:=by
  intro X A t B M i N s L H E I m f y;subst A t B;obtain⟨O,x,l,r⟩:=y;obtain⟨Y,q,p,hz⟩:=I.list l;obtain⟨u,U,S⟩:=q.get r;obtain⟨J,G,V,F,D,C⟩:=m it (by simp);refine Q5 f p.isList (x:=u) (by simpa using U) fun n j R=>?_
  have Z:Inv X N L H { s with heap:=n }:=I.turned (t':=s.toks) (fun b o g e=>(R.2 b g).trans e) J G F D C;obtain⟨o,e,c,d⟩:=id j;exact⟨u,rfl,p9 (s:={ s with heap:=n }) e c d dC ⟨x,H,Z,S,⟨rfl,fun ys T=>by rw[I.list_inj T l];exact r⟩,j,fun b g=>(m b g).1⟩⟩
 done:=by
  intro X A t B M i N s L H E I m f y;subst A t B;obtain⟨O,l,r⟩:=y;obtain⟨Y,q,p,hz⟩:=I.list l;obtain⟨J,G,V,F,D,C⟩:=m it (by simp);have hl:=q.length;exact S4 (I.ok.hd M) f p.isList (by simp;lia) fun n W=>⟨rfl,I.turned (t':=s.toks) (fun b o g e=>W b o g e) J G F D C⟩
 self:=fun _ _ _ _ _ f h=>wpAny_pyIter_listiter f h
theorem wQ{P:Ò}{w:à}{K:á}{R:Í}(a it:Ç):lQ P w K R (DI K a) [it] it (fun i h=>h.IsTupleIter it a i) where
 mem:=by simp
 obj:=fun i h f b g=>by
  have e:b=it:=by simpa using g
  subst e;obtain⟨o,e,c,d⟩:=f;exact⟨o,e,fun v z=>by rw[d]at z;cases z⟩
 keep:=fun i h n f k=>f.at fun o e=>k it (by simp) o e
 item:=by
  intro X A t B N i O s M H E I m f y;subst A t B;obtain ⟨Q,x,l,r⟩:=y;obtain ⟨L,q,p,hz⟩:=I.tuple l;obtain ⟨u,V,T⟩:=q.get r;obtain ⟨J,G,W,F,D,C⟩:=m it (by simp);refine wpAny_pyNext_tuple_item f (show s.heap.IsTuple a L.toArray from p) (x:=u) (by simpa using V) fun n j S=>?_
  have Z:Inv X O M H { s with heap:=n }:=I.turned (t':=s.toks) (fun b o g e=>(S.2 b g).trans e) J G F D C;obtain⟨o,e,c,d⟩:=id j;exact⟨u,rfl,p9 (s:={ s with heap:=n }) e c d dC ⟨x,H,Z,T,⟨rfl,fun ys U=>by rw[I.tuple_inj U l];exact r⟩,j,fun b g=>(m b g).1⟩⟩
 done:=by
  intro X A t B N i O s M H E I m f y;subst A t B;obtain ⟨Q,l,r⟩:=y;obtain ⟨L,q,p,hz⟩:=I.tuple l;obtain ⟨J,G,W,F,D,C⟩:=m it (by simp);have hl:=q.length;exact wpAny_pyNext_tuple_end (I.ok.hd N) f (show s.heap.IsTuple a L.toArray from p) (by simp;lia) fun n Y=>⟨rfl,I.turned (t':=s.toks) (fun b o g e=>Y b o g e) J G F D C⟩
 self:=fun _ _ _ _ _ f h=>wpAny_pyIter_tupleiter f h
theorem wR{P:Ò}{w:à}{K:á}{J:Í}(it:Ç)(f:Int)(n:Nat):lQ P w K J (A4 f n) [it] it (fun i h=>IsRangeIter h it (f+(i:Nat)*1) ((n:Int)-(i:Nat)) 1) where
 mem:=by simp
 obj:=fun i h a b c=>by
  have e:b=it:=by simpa using c
  subst e;exact⟨_,a,fun v z=>by
   have G:Data.fields _=Data.cell v:=z;cases G⟩
 keep:=fun i h j a k=>k it (by simp) _ a
 item:=by
  intro X q l r p i F s C H E I g a m;subst q l r;obtain⟨B,A,N,y,x,u⟩:=g it (by simp);have W:=Walks.range (prog:=X.prog) (w:=X.w) (I.ok.hd p) it f 1 n;refine W.item i s _ _ m a fun v j D M d L=>?_
  obtain⟨t,rfl⟩:=M;have Q:Inv X F C H { s with heap:=j,toks:=D }:=I.turned (fun b o c e=>L b o (by simpa using c) e) B A y x u;refine⟨_,rfl,p9 (s:={ s with heap:=j,toks:=D }) (n:="range_iterator") d rfl rfl dC ⟨.int (f+i),H,Q,⟨t,?_⟩,⟨rfl,rfl⟩,d,fun b c=>(g b c).1⟩⟩;rw[ϻ]
 done:=by
  intro X q l r p i F s C H E I g a m;subst q l r;obtain⟨B,A,N,y,x,u⟩:=g it (by simp);exact wpAny_pyNext_range_end (I.ok.hd p) a (by have:n<=i:=m;lia) fun j O=>⟨rfl,I.turned (t':=s.toks) (fun b o c e=>O b o c e) B A y x u⟩
 self:=fun _ _ _ _ _ a h=>wpAny_pyIter_rangeiter a h
section
variable{X:Cx}{tg:Í}
theorem tR{a c:Int}{d:Nat}(I:Inv X Pc σ H s)(k:-(2^62)<=a)(j:a<2^62)(i:-(2^62)<=c)(h:c<2^62)
  (q:R (A4 a (c-a).toNat) H):Î (model X.prog X.w) X.A (pyIter (.ref s.heap.objs.size)) (Jh X Pc σ tg R) E { s with heap:=s.heap.push { cls:=.type "range",data:=.fields #[.int a t,.int c u,.int 1 v] },toks:=d }:=by
 refine wpAny_pyIter_range (IsRange.new ..) (X6 k j i h) ?_;have f:Inv X Pc σ H { s with heap:=s.heap.push { cls:=.type "range",data:=.fields #[.int a t,.int c u,.int 1 v] },toks:=d }:=I.kept fun b o e=>zG _ e
 refine⟨(s.heap.push { cls:=.type "range",data:=.fields #[.int a t,.int c u,.int 1 v] }).objs.size,[(s.heap.push { cls:=.type "range",data:=.fields #[.int a t,.int c u,.int 1 v] }).objs.size],_,_,H,rfl,
  f.kept (t':=d) fun b o e=>zG _ e,wR _ a (c-a).toNat,?_,fun b g=>?_,q⟩
 ·have m:a+((0:Nat):Int)*1=a:=by simp
  have l:(((c-a).toNat:Nat):Int)-((0:Nat):Int)=Y7 a c 1:=by rw[K?];split<;>lia
  show IsRangeIter _ _ (a+((0:Nat):Int)*1) ((((c-a).toNat:Nat):Int)-((0:Nat):Int)) 1;rw[m,l];exact zY _ rfl
 ·have e:b=(s.heap.push { cls:=.type "range",data:=.fields #[.int a t,.int c u,.int 1 v] }).objs.size:=by simpa using g
  subst e;exact f.fpOk (zP _) (f.Pk.fresh (zP _))
def Ky(c:TA):TI:=fun a H R=>c a H fun b d=>∃j:Int,b=[.int j]/\-(2^62)<=j/\j<2^62/\R (A4 0 j.toNat) d
def Kx(c:TA):TI:=fun a H R=>c a H fun b d=>∃i j:Int,b=[.int i,.int j]/\(-(2^62)<=i/\i<2^62/\-(2^62)<=j/\j<2^62)/\R (A4 i (j-i).toNat) d
theorem zo(l:Gl X "range")(k:X.mg "range"=Á)(m:PA X [a] ta)(i:Ê [a] X.env=[(Ã,eval a X.env)]:=by rfl):PI X tg (.Call (.Name "range" p) [a] [] pos) (Ky ta):=by
 intro n s d H R I h;refine Q3 (d7 I l k A! (Ú (aE (m pos n s d H _ I h) fun v w c=>?_) i rfl));obtain⟨u,x,o,r1,b⟩:=c;obtain⟨j,e,b,g,q⟩:=b;subst e;cases r1 with
 |cons r f =>
  cases f;obtain⟨t,rfl⟩:=r;exact call_range_1 (tR o oM oM b g (by simpa using q))
theorem zn(v:Gl X "range")(u:X.mg "range"=Á)(w:PA X [a,b] ta)(o:Ê [a,b] X.env=[(Ã,eval a X.env),(Ã,eval b X.env)]:=by rfl)(c:Ê [b] X.env=[(Ã,eval b X.env)]:=by rfl) :
  PI X tg (.Call (.Name "range" p) [a,b] [] pos) (Kx ta):=by
 intro x s g H R I h;refine Q3 (d7 I v u A! (Ú (aE (w pos x s g H _ I h) fun A C ⟨z,D,y,r1,f⟩=>?_) (by rw[o,c]) (by rw[c];rfl)));obtain⟨i,j,e,⟨f,n,m,l⟩,q⟩:=f;subst e;cases r1 with
 |cons r d =>
  cases d with
  |cons k d =>
   cases d;obtain⟨t,rfl⟩:=r;obtain⟨B,rfl⟩:=k;exact call_range_2 (tR y f n m l q)
def MA(f:TI)(g:TG)(h:TS):TS:=fun D a H=>f a H fun J k=>∃W:Nat->Nat->St->Hp->Prop,(∃m,W 0 m a k)/\∀i m a H,W i m a H ->
 (J.stop i H/\D.nx a H)\/(J.go i H/\∃N:St->Hp->Prop,(∀b c,N b c->∃e,e<m/\W (i+1) e b c)/\∀x c,J.yld i H x c->g x a c fun d j=>h { D with nx:=N,ct:=N,bk:=D.nx } d j)
noncomputable def g8(a:List Ç)(h:é):List (Ç×Obj):=a.filterMap fun b=>(h.get? b).map fun o=>(b,o)
theorem d6(a:b∈fp)(e:h.get? b=À o):(b,o)∈g8 fp h:=Q?.mpr ⟨b,a,by rw[e];rfl⟩
theorem zu(a:p∈g8 fp h):p.1∈fp/\h.get? p.1=À p.2:=by
 obtain⟨b,c,e⟩:=Q?.mp a;cases q:h.get? b with
 |none=>rw[q]at e;cases e
 |some o =>
  rw[q]at e;have d:(b,o)=p:=yD e;subst d;exact⟨c,q⟩
theorem Inv.pinned(I:Inv X Pc σ H s)(h:∀b∈fp,eQ X Pc H b)(g:∀b∈fp,∃o,s.heap.get? b=À o/\∀v,o.data≠.cell v):Inv X (Pc++g8 fp s.heap) σ H s :=
 I.pins_of fun p f=>(zZ.mp f).elim (fun z=>I.pin p (zK _ z)) fun z=>by
  obtain⟨a,e⟩:=zu z;obtain⟨k,j,i,_⟩:=h p.1 a;obtain⟨o,c,d⟩:=g p.1 a;rw[e]at c;cases c;exact⟨e,k,j,i,d⟩
theorem Inv.unpinned(I:Inv X (Pc++pl) σ H s):Inv X Pc σ H s:=I.pins_of fun p a=>I.pin p (zK _ (zL _ a))
theorem zj(G:Ϧ (model X.prog X.w) X.A X.env X.xe)(hc:X.calm=Â)(hi:PI X tg iter wi)(hg:PG X tg g)(p:PSs X body tb)
  (hs:∀x,ö iter X.env x=pure x:=by intro _;rfl):PS X (.For tg iter body [] pos) (MA wi g tb):=by
 intro B s V H D I h;refine wpAny_For (aE (hi B s V H _ I h) fun v s1 h1=>aE h1 fun itv s2 h2=>?_) hs;obtain⟨it,L,Y,J,H2,e,I2,T,P,f2,W,⟨m0,w0⟩,turn⟩:=h2;subst e
 have l:∀{y:Hp},(∀b∈L,y b=Á)->∀b∈L,eQ X B y b:=fun hn b p=>⟨hn b p,(f2 b p).2⟩
 refine codeAny_forLoop_any (fun n s'=>∃i k y,Inv X B k y s'/\Y i s'.heap/\(∀b∈L,y b=Á)/\W i n k y) ?_ m0 ⟨0,V,H2,I2,P,fun b p=>(f2 b p).1,w0⟩;rintro n s3 ⟨i,j,M,I3,E,K,w3⟩;rcases turn i n j M w3 with⟨C,qn⟩|⟨go,N,hN,step⟩
 ·refine Ĥ G (aE (T.done X rfl rfl rfl hc i B s3 j M X.xe I3 (l K) E C) fun r s4 c=>?_)
  obtain⟨R,I4⟩:=c;subst R;exact n? ⟨j,M,I4,qn⟩
 ·refine Ĥ G (aE (T.item X rfl rfl rfl hc i B s3 j M X.xe I3 (l K) E go) fun r s4 c=>?_)
  obtain⟨u,R,h4⟩:=c;subst R;refine Ĥ G (aE h4 fun _ Z c=>?_);obtain⟨x,H5,I5,r5,y5,A,S⟩:=c;have U:=I5.pinned (l S) (T.obj _ _ A);refine Ĥ G (aE (hg _ Z j H5 x u _ U r5 (step x H5 y5)) fun _ s6 c=>?_);obtain⟨O,H6,I6,q6⟩:=c;refine Ĥ G (aE (p _ s6 O H6 _ I6 q6) fun f Q z=>?_);have q:∀{a:St}{w:Hp},Inv X (B++g8 L Z.heap) a w Q->N a w->∃m,m<n/\∃i k y,Inv X B k y Q/\Y i Q.heap/\(∀b∈L,y b=Á)/\W i m k y:=fun {a w} t F=>by
   obtain⟨m',hm,w7⟩:=hN a w F;refine⟨m',hm,i+1,a,w,t.unpinned,T.keep _ _ _ A fun b p o e=>(t.pin (b,o) (zK _ (zK _ (d6 p e)))).1,fun b p=>?_,w7⟩;obtain⟨o,e,d⟩:=T.obj _ _ A b p;exact(t.pin (b,o) (zK _ (zK _ (d6 p e)))).2.1
  cases f with
  |next=>obtain⟨a,w,t,F⟩:=z;exact q t F
  |cont=>obtain⟨a,w,t,F⟩:=z;exact q t F
  |brk=>obtain⟨a,w,t,z⟩:=z;exact⟨a,w,t.unpinned,z⟩
  |ret v=>obtain⟨x7,a,w,t,r7,z⟩:=z;exact⟨x7,a,w,t.unpinned,r7,z⟩
end
abbrev R2:=V->V->Hp->VK->Prop
def mY(X:Cx)(f:Å->Å->Y? Å)(r:R2):Prop :=
 ∀(b:List (Ç×Obj))(s:É)(a:St)(H:Hp)(x y:V)(v u:Å)(Q:VK),Inv X b a H s->RelV x v->RelV y u->r x y H Q ->
  Î (model X.prog X.w) X.A (f v u) (EP X b a Q) X.xe s
def AW(X:Cx)(f:Å->Y? Å)(r:V->Hp->VK->Prop):Prop :=
 ∀(b:List (Ç×Obj))(s:É)(a:St)(H:Hp)(x:V)(v:Å)(Q:VK),Inv X b a H s->RelV x v->r x H Q ->
  Î (model X.prog X.w) X.A (f v) (EP X b a Q) X.xe s
def di(X:Cx)(f:Å)(r:List V->Hp->VK->Prop):Prop :=
 ∀(d:List (Ç×Obj))(s:É)(a:St)(H:Hp)(b:List V)(c:List Å)(Q:VK),Inv X d a H s->Vals b c->r b H Q ->
  Î (model X.prog X.w) X.A (call f c) (EP X d a Q) X.xe s
def Ni(X:Cx)(r:V->Hp->(Bool->Hp->Prop)->Prop):Prop :=
 ∀(b:List (Ç×Obj))(s:É)(a:St)(H:Hp)(x:V)(v:Å)(Q:Bool->Hp->Prop),Inv X b a H s->RelV x v->r x H Q ->
  Î (model X.prog X.w) X.A (truthy v) (TP X b a Q) X.xe s
noncomputable def yu(r:R2)(c b:TE):TE:=fun a H Q=>c a H fun x e=>b a e fun y d=>r x y d Q
def Lz(r:V->Hp->VK->Prop)(b:TE):TE:=fun a H Q=>b a H fun x c=>r x c Q
def rU(g:Int->V):V->Hp->VK->Prop:=fun x H Q=>∃i,x=.int i/\Q (g i) H
section
variable{X:Cx}{a b c:Í}{ta tb tc:TE}{pos:ę}
theorem Cz(k:PE X a ta)(j:PE X b tb){Pc:List (Ç×Obj)}{s:É}{σ:St}{H:Hp}{R:V->V->Hp->Prop}(I:Inv X Pc σ H s)
  (h:ta σ H fun x H1=>tb σ H1 fun y H2=>R x y H2) {Q:Å->É->Prop}{f:Å->Å->Y? Å}
  (i:∀v u s2 x y H2,Inv X Pc σ H2 s2->RelV x v->RelV y u->R x y H2->Î (model X.prog X.w) X.A (f v u) Q X.xe s2) :
  Î (model X.prog X.w) X.A (eval a X.env) (fun v s₁=>Î (model X.prog X.w) X.A (eval b X.env) (fun u s₂=>Î (model X.prog X.w) X.A (f v u) Q X.xe s₂) X.xe s₁) X.xe s:=by
 refine aE (k Pc s σ H _ I h) fun v d c=>?_
 obtain⟨x,H1,m,r1,g⟩:=c;refine aE (j Pc d σ H1 _ m g) fun u s2 c=>?_
 obtain⟨y,H2,l,r2,e⟩:=c;exact i v u s2 x y H2 l r1 r2 e
theorem xg{c:Ğ}{r:R2}(g:mY X (ϋ c) r)(j:PE X a ta)(i:PE X b tb):PE X (.BinOp a c b pos) (yu r ta tb):=by
 intro k s d H Q I h;exact wpAny_BinOp (Cz j i I h fun v u e x y m l rx f q=>g k e d m x y v u Q l rx f q)
theorem J5(f:AW X (W8 op) r)(g:PE X a ta):PE X (.UnaryOp op a pos) (Lz r ta):=by
 intro c s b H Q I h;exact UnaryOp_ (aE (g c s b H _ I h) fun v d ⟨x,j,i,r1,e⟩=>f c d b j x v Q i r1 e)
def Nk(i j:Int):Prop:=0<=j/\j<=1000000/\i.natAbs<2^64
theorem wP(k:Nat):(0:Int)<=2^k:=by
 rw[two_pow_cast];exact Int.natCast_nonneg _
theorem Ly{f:Å->Y? Å}{g:Int->Int}
  (a:∀(i:Int)(t:Tok)(s:É)(Q:Å->É->Prop)(E:Å->É->Prop),Q (.int (g i) s.toks) { s with toks:=s.toks+1 }->Î (model X.prog X.w) X.A (f (.int i t)) Q E s) :
  AW X f (rU fun i=>.int (g i)):=by
 intro c s b H x v Q I rx h;obtain⟨i,rfl,q⟩:=h;obtain⟨t,rfl⟩:=rx;exact a i t s _ _ ⟨.int (g i),H,I.tok _,⟨_,rfl⟩,q⟩
theorem FQ:AW X (W8 .USub) (rU fun i=>.int (-i)):=Ly fun _ _ _ _ _ q=>neg_int q
theorem FR:AW X (W8 .Invert) (rU fun i=>.int (S? i)):=Ly fun _ _ _ _ _ q=>invert_int q
end
section
variable{X:Cx}{a b c:Í}{ta tb tc:TE}{pos:ę}
theorem EZ(f:mY X (đ op) r)(j:PE X a ta)(i:PE X b tb)(g:ϯ op b=Ã):PE X (.Compare a [op] [b] pos) (yu r ta tb):=by
 intro k s c H Q I h;exact wpAny_Compare1 (Cz j i I h fun v u d x y m l rx e q=>f k d c m x y v u Q l rx e q) g
noncomputable def Jt(t:TE):TT:=fun a H Q=>t a H fun x b=>∃k,x=.bl k/\Q k b
theorem EG(o:mY X (đ op) r)(t:PE X a ta)(q:PE X b tb)(p:ϯ op b=Ã):PT X (.Compare a [op] [b] pos) (Jt (yu r ta tb)):=by
 intro f s d H Q I h;refine wpAny_isTrue_Compare1 (aE (t f s d H _ I h) fun v i ⟨x,E,B,r1,n⟩=>aE (q f i d E _ B n) fun u g ⟨y,D,A,r2,m⟩ =>
  aE (o f g d D x y v u _ A r1 r2 m) fun c F ⟨z,C,w,j,k,e,l⟩=>?_) p
 subst e;cases j;exact Ī ⟨C,w,l⟩
def CC(K:á)(x:V)(H:Hp)(k:Bool):Prop :=
 match x with
 |.non=>k=Ã
 |.bl b=>k=b
 |.int i=>k=(i !=0)
 |.str y=>y.length<=Ë/\k=((y.length:Int) !=0)
 |.byt y=>y.size<=Ë/\k=((y.size:Int) !=0)
 |.ref p=>(∃a,cb K H p a/\k=!a.isEmpty)\/(∃a,iA K H p a/\k=!a.isEmpty)\/∃c,H p=À (.dK c)/\k=!c.isEmpty
 |_=>False
theorem xG{a:Type}{Pd:List (a×V)}{vs:List (a×Value)}(r:KV Pd vs):(!vs.isEmpty)=!Pd.isEmpty:=by
 cases r<;>rfl
theorem pZ{xs:List V}{Ph:List Å}(r:Vals xs Ph):(!Ph.toArray.isEmpty)=!xs.isEmpty:=by
 cases r<;>simp
theorem iV:(Ë:Nat)<2^63:=by rw[ϝ];decide
theorem FW:Ni X (fun x H Q=>∃k,CC X.K x H k/\Q k H):=by
 intro B s w H x v Q I rx h;obtain⟨k,e,q⟩:=h;have A:=iV;have z:Ë=16777216:=ϝ;cases x with
 |non =>
  cases rx;have a:k=Ã:=e;subst a;exact truthy_none ⟨H,I,q⟩
 |bl b =>
  cases rx;have a:k=b:=e;subst a;exact Ī ⟨H,I,q⟩
 |int i =>
  obtain⟨t,rfl⟩:=rx;have a:k=(i !=0):=e;subst a;exact PySem.P.truthy_int ⟨H,I,q⟩
 |str y =>
  obtain⟨t,rfl⟩:=rx;obtain⟨n,a⟩:y.length<=Ë/\k=((y.length:Int) !=0):=e;subst a;exact PySem.P.truthy_str oM ⟨H,I.tok _,q⟩
 |byt y =>
  obtain⟨t,rfl⟩:=rx;obtain⟨n,a⟩:y.size<=Ë/\k=((y.size:Int) !=0):=e;subst a;exact truthy_bytes oM ⟨H,I.tok _,q⟩
 |ref p =>
  cases rx;have a:(∃d,cb X.K H p d/\k=!d.isEmpty)\/(∃d,iA X.K H p d/\k=!d.isEmpty)\/∃f,H p=À (.dK f)/\k=!f.isEmpty:=e;rcases a with⟨d,g,a⟩|⟨d,g,a⟩|⟨f,g,a⟩
  ·subst a
   obtain⟨u,r,l,hz⟩:=I.list g;have c:=r.length;exact wpAny_truthy_list l.isList (by simp only[zI];lia) ⟨H,I.tok _,by rw[pZ r];exact q⟩
  ·subst a
   obtain⟨u,r,l,hz⟩:=I.tuple g;have c:=r.length;exact truthy_tuple l (by simp only[zI];lia) ⟨H,I.tok _,by rw[pZ r];exact q⟩
  ·subst a
   obtain⟨hz,o,j,r,m⟩:f.length<=Ë/\(p==Ė)=Ã/\∃j,KV f j/\s.heap.DictOf (cQ X.prog X.w) p j:=I.Pk p _ g;have c:f.length=j.length:=Paired.length r;exact wpAny_truthy_dict o m oM ⟨H,I.tok _,by rw[xG r];exact q⟩
 | _=>exact (show False from e).elim
theorem BG(e:PE X a ta)(he:∀whole,z? a X.env whole=(do let v <- whole;Ŝ a.pos;holding [v] (truthy v))) :
  PT X a (fun σ H Q=>ta σ H fun x H'=>∃k,CC X.K x H' k/\Q k H'):=by
 intro b s σ H Q I h;exact isTrue_plain (aE (e b s σ H _ I h) fun v c ⟨x,g,f,r1,d⟩=>FW b c σ g x v Q f r1 d) (he _)
theorem xh:mY X (ϋ .Add) (fun x y H Q=>∃i j,x=.str i/\y=.str j/\i.length+j.length<=Ë/\Q (.str (i++j)) H):=by
 intro e s c H x y v u Q I rx b h;obtain⟨i,j,rfl,rfl,hz,q⟩:=h;obtain⟨t,rfl⟩:=rx;obtain⟨a,rfl⟩:=b;exact add_str (fun a d=>⟨.str (i++j),H,I.tok _,⟨_,rfl⟩,q⟩) hz
theorem fK(r:Vals [x] us):∃u,us=[u]/\RelV x u:=by
 cases r with
 |cons r1 r2=>cases r2;exact⟨_,rfl,r1⟩
theorem wK(r:Vals [x,y] us):∃u w',us=[u,w']/\RelV x u/\RelV y w':=by
 cases r with
 |cons r1 r2 =>
  cases r2 with
  |cons b a=>cases a;exact⟨_,_,rfl,r1,b⟩
theorem Cy:di X (.builtin "abs") (fun xs H Q=>∃i,xs=[.int i]/\Q (.int (if i<0 then -i else i)) H):=by
 intro d s a H xs b Q I r h;obtain⟨i,rfl,q⟩:=h;obtain⟨u,rfl,t,rfl⟩:=fK r;exact call_abs_int fun u c=>⟨.int (if i<0 then -i else i),H,I.tok _,⟨_,rfl⟩,q⟩
theorem AN(b:X.calm=Â):di X (.builtin "max") (fun xs H Q=>∃i j,xs=[.int i,.int j]/\Q (.int (if j > i then j else i)) H):=by
 intro m s c H xs e Q I r h;obtain⟨i,j,rfl,q⟩:=h;obtain⟨u,d,rfl,⟨t,rfl⟩,⟨g,rfl⟩⟩:=wK r;refine max_two_ints (I.ok.hd b) fun l f k=>⟨_,H,I.kept k,?_,q⟩
 by_cases a:j > i
 ·rw[yH a,yH a];exact⟨_,rfl⟩
 ·rw[yG a,yG a];exact⟨_,rfl⟩
theorem AM(b:X.calm=Â):di X (.builtin "min") (fun xs H Q=>∃i j,xs=[.int i,.int j]/\Q (.int (if j<i then j else i)) H):=by
 intro m s c H xs e Q I r h;obtain⟨i,j,rfl,q⟩:=h;obtain⟨u,d,rfl,⟨t,rfl⟩,⟨g,rfl⟩⟩:=wK r;refine min_two_ints (I.ok.hd b) fun l f k=>⟨_,H,I.kept k,?_,q⟩
 by_cases a:j<i
 ·rw[yH a,yH a];exact⟨_,rfl⟩
 ·rw[yG a,yG a];exact⟨_,rfl⟩
theorem AQ:di X (.type "int") (fun xs H Q=>(∃i,xs=[.int i]/\Q (.int i) H)\/∃k,xs=[.bl k]/\Q (.int (if k then 1 else 0)) H):=by
 intro c s a H xs b Q I r h;rcases h with⟨i,rfl,q⟩|⟨k,rfl,q⟩
 ·obtain⟨u,rfl,t,rfl⟩:=fK r
  exact call_int_int ⟨.int i,H,I,⟨_,rfl⟩,q⟩
 ·obtain⟨u,rfl,r1⟩:=fK r
  cases r1;exact call_int_bool ⟨.int (if k then 1 else 0),H,I.tok _,⟨_,rfl⟩,q⟩
end
structure ObjM(h:é)(x dx C:Ç)(mA:Ì->Option Å):Prop where
 obj:h.get? x=À (ϥ C dx)
 ns:h.Ns1 dx mA
 ne:dx≠x
theorem Af{h:é}{f:Ç}{c:Ì->Option Å}(n:h.Ns1 f c):∃od,h.get? f=À od/\∀name,lookIn name od=À (c name):=by
 obtain⟨o,d,m,i,hd,k,_,j⟩:=n;refine⟨o,i,fun name=>?_⟩;have e:=j name;unfold nsFind findBy at e;rw[<- Array.find?_toList]at e;unfold lookIn;rw[hd];dsimp only;split
 ·rename_i y q
  rw[q]at e;exact congrArg À e
 ·rename_i q
  rw[q]at e;have a:d.toList.any (·.refKey)=Ã:=by
   rw[List.any_eq_false];intro y g;obtain⟨z,t,b⟩:=k y (Array.mem_toList_iff.mp g);simp[DictEntry.refKey,b]
  have l:¬d.toList.any (·.refKey)=Â:=by rw[a];exact Ĝ
  rw[yG l];exact congrArg À e
theorem ObjM.look(I:ObjM h x dx C mA):∃od,InstAt h x (ϥ C dx) C (À od)/\∀name,lookIn name od=À (mA name) :=
 let⟨od,a,b⟩:=Af I.ns
 ⟨od,⟨I.obj,rfl,rfl,a⟩,b⟩
section
variable{prog:Ò}{w:à}{A:ą}{E:Å->É->Prop}{s:É}{K:á}{x dx C f:Ç}{mA:Ì->Option Å}{name:Ì}{v:Å}
theorem Fu{a:Bool}(X:K.In s.heap)(I:ObjM s.heap x dx C mA)(f:y! K C name=Â)(e:P0 K C=Â)
  (g:Ŏ K (.ref C) name=À Á) (c:mA name=À v) (b:handedIn v=Â) (h:Q v { s with toks:=s.toks+1 }) :
  Î (model prog w) A (getAttr (.ref x) name a) Q E s:=by
 obtain⟨i,J,d⟩:=I.look;exact get_value X J (T1 f).1 (findObj_own e g rfl (by rw[d,c])) b h
theorem Cj(X:K.In s.heap)(I:ObjM s.heap x dx C mA)(a:y! K C name=Â)
  (g:Ŏ K (.ref C) name=À (À (.ref f))) (d:isFn K (.ref f)=Â) (c:mA name=Á) (h:Q (.ref f,[.ref x]) s) :
  Î (model prog w) A (Ū (.ref x) name pl) Q E s:=by
 obtain⟨b,J,e⟩:=I.look;exact method_fn X J (T1 a).1 (T1 a).2 g (beq_iff_eq.mp d) (by show(lookIn name b).map (·.isSome)=À Ã;rw[e,c];rfl) h
theorem Eh(X:K.In s.heap)(I:ObjM s.heap x dx C mA)
  (m:Ŏ K (.ref C) "__setattr__"=À (À (.builtin "object.__setattr__"))) (n:X8 K C=Â) (l:takerIn K C name=À Á) (o:P0 K C=Â)
  (k:p! mA ns) (hsz:ns.length<=Ë)
  (h:∀h',ObjM h' x dx C (fun y=>if y=name then À v else mA y)->ĭ dx s.heap h'->Q () { s with heap:=h',toks:=s.toks+2 }) :
  Î (model prog w) A (setAttr (.ref x) name v) Q E s:=by
 obtain⟨u,J,B⟩:=I.look;refine set_plain X J m (osa_open (s:={ s with toks:=s.toks+1 }) (r:=Á) X J n l fun b=>?_);obtain⟨D,p,g⟩:=any_some o;have j:s.heap.get? x=À ⟨.ref C,À dx,.plain,#[]⟩:=I.obj;refine yE (yF (yE (yE (wpAny_loadPart j (yE (Y0 (s:={ s with toks:=s.toks+1 }) (looks_clsIn X p) ?_))))));rw[g];refine yF (a:=À dx) (yE (yF (yE ?_)));refine wpAny_nsSet1 (s:={ s with toks:=s.toks+1 }) I.ns fun h' d c=>?_
 obtain⟨z,q,t,e,f,i⟩:=d.count (Z' name v k);refine yE (wpAny_lookBehind e (by rw[f];exact pastItsLine_dict (z5 i (by rw[yX];lia))) ?_);exact yF (h _ ⟨(c.2 _ (ç I.ne)).trans I.obj,d,I.ne⟩ c)
theorem B4(X:K.In s.heap)(b:X! K C=Â)
  (c:Ŏ K (.ref C) "__init__"=À (À (.ref f))) (e:typeIn K (.ref f)=À (.type "function"))
  (h:ŏ (model prog w) (A.under (.builtin "type.__call__" ⟨.ref C::vs,kw⟩)) (.call (.ref f) ⟨.ref (s.heap.objs.size+1)::vs,kw⟩) (InitBack (s.heap.objs.size+1) R)
   { s with heap:=(s.heap.push ŗ).push (ϥ C s.heap.objs.size) }) :
  ŏ (model prog w) A (.call (.ref C) ⟨vs,kw⟩) R s:=by
 obtain⟨j,g,d,t,i⟩:=s;exact make_core (makes_of X b) (looks_findIn X c) (fun a=>bind_fn X a e) (.inl rfl) h
end
noncomputable def eV(f:Ì)(v:V):List (Ì×V)->List (Ì×V)
 |[]=>[(f,v)]
 |(g,x)::r=>if g=f then(g,v)::r else(g,x)::eV f v r
theorem oj(f g:Ì)(v:V):∀fs:List (Ì×V),(eV f v fs).lookup g=if g=f then À v else fs.lookup g
 |[]=>by
  show Œ g [(f,v)]=_;by_cases h:g=f
  ·have hb:(g==f)=Â:=beq_iff_eq.mpr h
   simp only[Œ,hb,yH h]
  ·have hb:(g==f)=Ã:=beq_eq_false_iff_ne.mpr h
   simp only[Œ,hb,yG h]
 |(k,x)::r=>by
  have b:=oj f g v r;rw[show eV f v ((k,x)::r)=(if k=f then(k,v)::r else(k,x)::eV f v r) from rfl];by_cases a:k=f
  ·rw[yH a]
   by_cases h:g=k
   ·have hb:(g==k)=Â:=beq_iff_eq.mpr h
    simp only[Œ,hb,yH (h.trans a)]
   ·have hb:(g==k)=Ã:=beq_eq_false_iff_ne.mpr h
    simp only[Œ,hb,yG (fun e:g=f=>h (e.trans a.symm))]
  ·rw[yG a]
   by_cases h:g=k
   ·have hb:(g==k)=Â:=beq_iff_eq.mpr h
    simp only[Œ,hb,yG (fun e:g=f=>a (h.symm.trans e))]
   ·have hb:(g==k)=Ã:=beq_eq_false_iff_ne.mpr h
    simp only[Œ,hb];exact b
theorem mC(f:Ì)(v:V):∀fs:List (Ì×V),f∈(eV f v fs).map (·.1)/\∀g,g∈fs.map (·.1)->g∈(eV f v fs).map (·.1)
 |[]=>⟨by simp[eV],fun g h=>by simp at h⟩
 |(k,x)::r=>by
  obtain⟨i1,i2⟩:=mC f v r;rw[show eV f v ((k,x)::r)=(if k=f then(k,v)::r else(k,x)::eV f v r) from rfl];by_cases a:k=f
  ·rw[yH a]
   subst a;exact⟨by simp,fun g h=>by simpa using h⟩
  ·rw[yG a]
   refine⟨?_,fun g h=>?_⟩
   ·rw[zO]
    exact zQ _ i1
   ·rw[zO]at h ⊢
    rcases zT.mp h with e|e
    ·exact zT.mpr (.inl e)
    ·exact zQ _ (i2 g e)
theorem oq(f:Ì)(v:V):∀fs:List (Ì×V),(eV f v fs).length<=fs.length+1
 |[]=>by simp[eV]
 |(k,x)::r=>by
  have ih:=oq f v r;rw[show eV f v ((k,x)::r)=(if k=f then(k,v)::r else(k,x)::eV f v r) from rfl];by_cases a:k=f
  ·rw[yH a,yX,yX];lia
  ·rw[yG a,yX,yX];lia
theorem RelO.some_of(r:RelO (À v) o):∃u,o=À u/\RelV v u:=by
 cases o with
 | none=>exact (show False from r).elim
 |some u=>exact⟨u,rfl,r⟩
theorem RelO.none_of(r:RelO Á o):o=Á:=by
 cases o with
 |none=>rfl
 | some u=>exact (show False from r).elim
theorem Av(r:RelV v u):handedIn u=Â:=by
 cases v with
 | non=>cases (show u=š from r);rfl
 | bl b=>cases (show u=c! b from r);rfl
 | int i=>obtain ⟨t,e⟩:=(show ∃ t,u=ϫ i t from r);cases e;rfl
 | str x=>obtain ⟨t,e⟩:=(show ∃ t,u=Ϫ x t from r);cases e;rfl
 | byt b=>obtain ⟨t,e⟩:=(show ∃ t,u=X' b t from r);cases e;rfl
 | flt b=>obtain ⟨t,e⟩:=(show ∃ t,u=B' b t from r);cases e;rfl
 | ref a=>cases (show u=ã a from r);rfl
 | ty n=>cases (show u=M? n from r);rfl
section
variable{P:Ò}{w:à}{H H':Hp}{h h':é}{a C dx:Ç}{fs fs':List (Ì×V)}
theorem nK(c:HOk P w H h)(e:H a=À (.ins C dx fs)):∃mA,ObjM h a dx C mA/\(∀f,RelO (fs.lookup f) (mA f))/\p! mA (fs.map (·.1))/\fs.length<=1000/\H dx=À (.own a):=by
 obtain ⟨d,z,ne,b,mA,n,r,q⟩:=(show ObjOk P w H h a (.ins C dx fs) from c a _ e);exact ⟨mA,⟨b,n,ne⟩,r,q,z,d⟩
end
structure Cls(K:á)(C:Ç):Prop where
 pg:y! K C Str.empty=Â
 hd:P0 K C=Â
 po:X8 K C=Â
 sa:Ŏ K (.ref C) "__setattr__"=À (À (.builtin "object.__setattr__"))
theorem Cls.get{K:á}{C:Ç}(c:Cls K C)(f:Ì):y! K C f=Â:=c.pg
def NoAttr(K:á)(C:Ç)(f:Ì):Prop:=Ŏ K (.ref C) f=À Á
theorem NoAttr.taker{K:á}{C:Ç}{f:Ì}(n:NoAttr K C f):takerIn K C f=À Á:=by
 unfold takerIn;rw[show Ŏ K (.ref C) f=À Á from n];rfl
structure lR(K:á)(C:Ç)(m:Ì)(f:Ç):Prop where
 at_:Ŏ K (.ref C) m=À (À (.ref f))
 fn:isFn K (.ref f)=Â
 kp:Ķ K (.ref f)=Â
section
variable{X:Cx}{Pc:List (Ç×Obj)}{σ:St}{H:Hp}{s:É}{a C dx:Ç}{fs:List (Ì×V)}{f:Ì}{v:V}{A:ą}{E:Å->É->Prop}
theorem xJ{b:Bool}(I:Inv X Pc σ H s)(e:H a=À (.ins C dx fs))(c:Cls X.K C)(n:NoAttr X.K C f)(l:fs.lookup f=À v)
  (h:∀u s',Inv X Pc σ H s'->RelV v u->Q u s'):Î (model X.prog X.w) A (getAttr (.ref a) f b) Q E s:=by
 obtain⟨g,O,r,_,_,_⟩:=nK I.Pk e;obtain⟨u,i,d⟩:=RelO.some_of (v:=v) (o:=g f) (by rw[<- l];exact r f);exact Fu I.kIn O (c.get f) c.hd n i (Av d) (h u _ (I.tok _) d)
theorem lJ(I:Inv X Pc σ H s)(e:H a=À (.ins C dx fs))(c:Cls X.K C)(k:lR X.K C m g)(l:fs.lookup m=Á)
  (h:Q (.ref g,[.ref a]) s):Î (model X.prog X.w) A (Ū (.ref a) m pl) Q E s:=by
 obtain⟨b,O,r,_,_,_⟩:=nK I.Pk e;have d:b m=Á:=RelO.none_of (by rw[<- l];exact r m);exact Cj I.kIn O (c.get m) k.at_ k.fn d h
theorem w6(I:Inv X Pc σ H s)(e:H a=À (.ins C dx fs))(c:Cls X.K C)(n:NoAttr X.K C f)(B:fs.length<1000)(m:RelV y u)
  (h:∀s',Inv X Pc σ (ah H a (.ins C dx (eV f y fs))) s'->Q () s'):Î (model X.prog X.w) A (setAttr (.ref a) f u) Q E s:=by
 obtain⟨j,O,r,i,_,k⟩:=nK I.Pk e;have hz:(fs.map (·.1)).length<=Ë:=by rw[zH,ϝ];lia
 refine Eh I.kIn O c.sa c.po n.taker c.hd i hz fun v d l=>h _ ?_
 have hd:∃o,v.get? dx=À o:=let⟨o,_,_,w,_⟩:=d.ns;⟨o,w⟩;refine I.write (x:=a) (e:=dx) (by rw[e];exact True.intro) (.inr k) (fun b q t z=>(l.2 b t).trans z) hd ?_;refine⟨by rw[ae O.ne];exact k,?_,O.ne,d.obj,_,d.ns,fun g=>?_,fun g p=>?_⟩
 ·have:=oq f y fs;lia
 ·show RelO ((eV f y fs).lookup g) (if g=f then À u else j g)
  rw[oj];by_cases q:g=f
  ·rw[yH q,yH q];exact m
  ·rw[yG q,yG q];exact r g
 ·by_cases q:g=f
  ·rw[q];exact(mC f y fs).1
  ·refine(mC f y fs).2 g (i g fun z=>p ?_)
   show(if g=f then À u else j g)=Á;rw[yG q];exact z
theorem Inv.made(I:Inv X Pc σ H s):Inv X Pc σ (ah (ah H s.heap.objs.size (.own (s.heap.objs.size+1))) (s.heap.objs.size+1) (.ins C s.heap.objs.size []))
  { s with heap:=(s.heap.push ŗ).push (ϥ C s.heap.objs.size) }:=by
 have c:(s.heap.push ŗ).get? s.heap.objs.size=À ŗ:=zY s.heap rfl;have h:((s.heap.push ŗ).push (ϥ C s.heap.objs.size)).get? (s.heap.objs.size+1)=À (ϥ C s.heap.objs.size):=by
  have:=zY (s.heap.push ŗ) (o:=ϥ C s.heap.objs.size) rfl
  rwa [Ħ]at this
 have g:(s.heap.push ŗ).Ns s.heap.objs.size (fun _=>Á):=⟨ŗ,#[],_,c,rfl,(fun e f=>absurd f (by simp)),fun _=>rfl⟩;have i:=I.laid (a:=s.heap.objs.size) (o:=.own (s.heap.objs.size+1)) (h':=s.heap.push ŗ) (t':=s.toks) (fun b u q=>zG _ q) (zP _) ⟨_,c⟩;refine i.laid (a:=s.heap.objs.size+1) (o:=.ins C s.heap.objs.size []) (t':=s.toks) (fun b u q=>zG _ q) (Ϯ (Ħ _ _)) ?_;have ne:s.heap.objs.size≠s.heap.objs.size+1:=zU (Ĳ _);refine⟨by rw[ae ne,aD],ŀ _,ne,h,fun _=>Á,(Heap.Ns1.of_empty g).at fun o q=>zG _ q,fun _=>True.intro,fun y d=>absurd rfl d⟩
theorem FG(a:Ę e f env (eval e env)=eval e env)
  (h:Î (model prog w) A (eval e env) (fun o s₁=>Î (model prog w) A (getAttr o f Â) Q E s₁) E s):Î (model prog w) A (eval (.Attribute e f pos) env) Q E s :=
 Attribute_any_ h (by rw[arm_eval_Attribute,a])
end
def MB(K:á)(d:TE)(f:Ì):TE:=fun c H Q=>d c H fun x b=>∃a C e fs v,x=.ref a/\b a=À (.ins C e fs)/\Cls K C/\NoAttr K C f/\fs.lookup f=À v/\Q v b
def MJ(K:á)(e tv:TE)(f:Ì):TS:=fun D b H=>tv b H fun y g=>e b g fun x d=>∃a C c fs,x=.ref a/\d a=À (.ins C c fs)/\Cls K C/\NoAttr K C f/\fs.length<1000 /\
 D.nx b (ah d a (.ins C c (eV f y fs)))
section
variable{X:Cx}{o e value:Í}{f:Ì}{pos pos' tpos:ę}{ta tv:TE}
theorem Hq(he:PE X e ta)(i:Ę e f X.env (eval e X.env)=eval e X.env):PE X (.Attribute e f pos) (MB X.K ta f):=by
 intro k s d H Q I h;refine FG i (aE (he k s d H _ I h) fun u w b=>?_);obtain⟨x,p,o,rx,a,C,y,fs,v,ex,j,c,n,l,q⟩:=b;subst ex;obtain rfl:u=ã a:=rx;exact xJ o j c n l fun r t m g=>⟨v,p,m,g,q⟩
theorem G9(r:PE X o ta)(m:PE X value tv)(p:Ĺ value (À (.Attribute o f pos')) pos.line X.env=pure Ã):PS X (.Assign [.Attribute o f pos'] value pos) (MJ X.K ta tv f):=by
 intro e s b H D I h;refine plainObj_wpAny_Assign_Attribute (aE (m e s b H _ I h) fun u g ⟨y,A,z,i,q⟩=>aE (r e g b A _ z q) fun k E d=>?_) p;obtain⟨x,G,w,rx,a,C,F,fs,ex,t,c,n,l,j⟩:=d;subst ex;obtain rfl:k=ã a:=rx;exact w6 w t c n l i fun B v=>⟨b,_,v,j⟩
theorem Jm(he:PE X e te)(I:Inv X Pc σ H s)
  (h:te σ H fun x H1=>∃a C dx fs g,x=.ref a/\H1 a=À (.ins C dx fs)/\Cls X.K C/\lR X.K C m g/\fs.lookup m=Á /\
   ∀s1,Inv X Pc σ H1 s1->Î (model X.prog X.w) X.A (ų pos (.ref g) [.ref a] (ú pos (Ê args X.env)) (Ő pos (ē [] X.env))) Q X.xe s1)
  (i:eval (.Call (.Attribute e m apos) args [] pos) X.env=(do
   let ov <- eval e X.env
   Ŝ apos.atName
   let(f,first) <- holding [ov] (Ū ov m pl)
   ų pos f first (ú pos (Ê args X.env)) (Ő pos (ē [] X.env)))) :
  Î (model X.prog X.w) X.A (eval (.Call (.Attribute e m apos) args [] pos) X.env) Q X.xe s:=by
 refine L' (pl:=pl) (aE (he Pc s σ H _ I h) fun u s1 b=>?_) i;obtain⟨x,H1,d,rx,a,C,dx,fs,g,ex,j,c,k,l,q⟩:=b;subst ex;obtain rfl:u=ã a:=rx;exact lJ d j c k l (q s1 d)
end
section
variable{X:Cx}{Pc:List (Ç×Obj)}{σ:St}{H:Hp}{s:É}{A:ą}{E:Å->É->Prop}{Q:Å->É->Prop}{c:Å}{b:Bool}
inductive TyOf(K:á)(H:Hp):V->Å->Prop where
 |non:TyOf K H .non (.type "NoneType")
 |bl (x:Bool):TyOf K H (.bl x) (.type "bool")
 |int (i:Int):TyOf K H (.int i) (.type "int")
 |str (x:Ì):TyOf K H (.str x) (.type "str")
 |flt (x:UInt64):TyOf K H (.flt x) (.type "float")
 |lst {a:Ç}{xs:List V} (e:H a=À (.lst xs)):TyOf K H (.ref a) (.type "list")
 |frz {a:Ç}{o:X0}{xs:List V} (e:H a=À (.frz o (.lst xs))):TyOf K H (.ref a) (.type "list")
 |tup {a:Ç}{xs:List V} (e:H a=À (.tup xs)):TyOf K H (.ref a) (.type "tuple")
 |dK {a:Ç}{Pd:List (ba×V)} (e:H a=À (.dK Pd)):TyOf K H (.ref a) (.type "dict")
 |dT {a:Ç}{Pd:List (List ba×V)} (e:H a=À (.dT Pd)):TyOf K H (.ref a) (.type "dict")
 |ins {a C dx:Ç}{fs:List (Ì×V)} (e:H a=À (.ins C dx fs)) (cl:Cls K C) (ha:Ŏ K (.ref C) "__class__"=À (À (.builtin "object.__class__")))
   (hn:specialIn K (.builtin "object.__class__") "__get__"=À (À (.builtin "getset_descriptor.__get__"))) (htk:takesIn K (.builtin "object.__class__")=À Â)
   (hm:mroIn K C (.type "object")=À Â):TyOf K H (.ref a) (.ref C)
theorem jV(I:Inv X Pc σ H s)(rx:RelV x u)(j:TyOf X.K H x t)(e:kitOne X.K t c=À b)(h:∀tk,Q (.bool b) { s with toks:=tk }) :
  Î (model X.prog X.w) A (call (.builtin "isinstance") [u,c]) Q E s:=by
 cases j with
 | non=>cases (show u=š from rx);exact ō kitx_none I.kIn True.intro e (fun z=>nomatch z) h
 | bl y=>cases (show u=c! y from rx);exact ō kitx_bool I.kIn True.intro e (fun z=>nomatch z) h
 | int i=>obtain ⟨t,q⟩:=(show ∃ t,u=ϫ i t from rx);cases q;exact ō kitx_int I.kIn True.intro e (fun z=>nomatch z) h
 | str y=>obtain ⟨t,q⟩:=(show ∃ t,u=Ϫ y t from rx);cases q;exact ō kitx_str I.kIn True.intro e (fun z=>nomatch z) h
 | flt y=>obtain ⟨t,q⟩:=(show ∃ t,u=B' y t from rx);cases q;exact ō kitx_float I.kIn True.intro e (fun z=>nomatch z) h
 |@lst a f ea =>
  cases (show u=ã a from rx);obtain ⟨_,_,n,_,d⟩:=(show ObjOk X.prog X.w H s.heap a (.lst f) from I.Pk a _ ea);exact ō Y! I.kIn ⟨_,d,rfl⟩ e (fun z=>nomatch z) h
 |@frz a ob f ea =>
  cases (show u=ã a from rx);obtain ⟨_,_,_,n,_,d⟩:=(show ObjOk X.prog X.w H s.heap a (.frz ob (.lst f)) from I.Pk a _ ea);exact ō Y! I.kIn ⟨_,d,rfl⟩ e (fun z=>nomatch z) h
 |@tup a f ea =>
  cases (show u=ã a from rx);obtain ⟨_,_,_,p⟩:=(show ObjOk X.prog X.w H s.heap a (.tup f) from I.Pk a _ ea);obtain ⟨o,d,g,_⟩:=p;exact ō kitx_tuple I.kIn ⟨o,d,g⟩ e (fun z=>nomatch z) h
 |@dK a Pd ea =>
  cases (show u=ã a from rx);obtain ⟨_,_,m,_,p⟩:=(show ObjOk X.prog X.w H s.heap a (.dK Pd) from I.Pk a _ ea);obtain ⟨o,k,l,d,g,_⟩:=p;exact ō kitx_dict I.kIn ⟨o,d,g.1⟩ e (fun z=>nomatch z) h
 |@dT a Pd ea =>
  cases (show u=ã a from rx);obtain ⟨_,_,f,_,o,k,l,d,g,_⟩:=(show ObjOk X.prog X.w H s.heap a (.dT Pd) from I.Pk a _ ea);exact ō kitx_dict I.kIn ⟨o,d,g.1⟩ e (fun z=>nomatch z) h
 |@ins a C dx fs ea cl ha hn htk hm =>
  cases (show u=ã a from rx);obtain ⟨v,O,_⟩:=nK I.Pk ea;obtain ⟨r,J,_⟩:=O.look;exact ō (kitx_own (cl.get _) cl.hd ha hn htk hm) I.kIn J e (fun z=>nomatch z) h
end
structure Room(k:Nat)(A:ą):Prop where
 hd:A.handled=Á
 dp:A.depth+3*k+5<Ϟ
 un:A.units+16*k+200<Š
 gd:A.guards=À []
theorem Room.mono{j k:Nat}(r:Room k A)(h:j<=k):Room j A:=⟨r.hd,by have:=r.dp;lia,by have:=r.un;lia,r.gd⟩
theorem Room.deeper{k:Nat}(r:Room (k+1) A)(env:O?):Room k (A.deeper env) :=
 ⟨r.hd,by have:=r.dp;show A.depth+1+3*k+5<_;lia,by have:=r.un;show A.units+3+16*k+200<_;lia,r.gd⟩
theorem Room.in1{k:Nat}(r:Room (k+1) A):Room k A.in1 :=
 ⟨r.hd,by have:=r.dp;show A.depth+3*k+5<_;lia,by have:=r.un;show A.units+1+16*k+200<_;lia,r.gd⟩
theorem xt{A:ą}{C:Ç}{us:List Å}{a:List (Ì×Value)}:(A.under (.builtin "type.__call__" ⟨.ref C::us,a⟩)).depth=A.depth+1:=by
 first|rfl|simp[Around.under,Code.weight,Code.isCreation,Code.isGuard,Code.isCaller,Code.frames,Code.isFrame,guardIds]
theorem xq{A:ą}{C:Ç}{us:List Å}{a:List (Ì×Value)}:(A.under (.builtin "type.__call__" ⟨.ref C::us,a⟩)).units=A.units+1:=by
 first|rfl|simp[Around.under,Code.cUnits,Code.frames,Code.isFrame]
theorem vE{A:ą}{C:Ç}{us:List Å}{a:List (Ì×Value)}:(A.under (.builtin "type.__call__" ⟨.ref C::us,a⟩)).guards=A.guards:=by
 first|rfl|simp[Around.under,Code.guards,Code.isGuard,guardIds,pushGuards]
theorem Room.make{k:Nat}{A:ą}(r:Room (k+1) A)(C:Ç)(us:List Å)(a:List (Ì×Value)):Room k (A.under (.builtin "type.__call__" ⟨.ref C::us,a⟩)) :=
 ⟨r.hd,by have:=r.dp;rw[xt];lia,by have:=r.un;rw[xq];lia,by rw[vE];exact r.gd⟩
theorem Room.depth{k:Nat}(r:Room k A):A.depth<Ϟ:=by have:=r.dp;lia
theorem Room.units{k:Nat}(r:Room k A):A.units+64<Š:=by have:=r.un;lia
noncomputable def wW:TA:=fun _ H Q=>Q [] H
noncomputable def CT(c:TE)(tr:TA):TA:=fun a H Q=>c a H fun x e=>tr a e fun b d=>Q (x::b) d
section
variable{X:Cx}{e:Í}{es:List Í}{te:TE}{t:TA}{pos:ę}
theorem tY:PA X [] wW:=fun _ _ _ _ H Q I h=>Calls.spliced_nil ⟨[],H,I,.nil,h⟩
theorem nB(m:PE X e te)(l:PA X es t)(k:Ê (e::es) X.env=(Ã,eval e X.env)::Ê es X.env:=by rfl):PA X (e::es) (CT te t):=by
 intro a d s c H Q I h;rw[k];show Î _ _ (spliced ((Ã,eval e X.env)::ú a (Ê es X.env))) _ _ s;refine Calls.spliced_cons (aE (m d s c H _ I h) fun u g b=>?_);obtain⟨x,q,o,r1,j⟩:=b;exact aE (l a d g c q _ o j) fun r v ⟨f,p,n,r2,i⟩=>⟨x::f,p,n,.cons r1 r2,i⟩
def Ms(t:TA):TE:=fun c H Q=>t c H fun a b=>a.length<=Ë/\∀p,b p=Á->Q (.ref p) (ah b p (.tup a))
def My(t:TA):TE:=fun c H Q=>t c H fun a b=>a.length<=Ë/\∀p,b p=Á->Q (.ref p) (ah b p (.lst a))
theorem Hj{i}(h:PA X es t):PE X (.Tuple es i pos) (Ms t):=by
 intro m s f H Q I k;refine wpAny_Tuple_spliced (aE (h pos m s f H _ I k) fun j a ⟨g,d,c,r,z,q⟩=>⟨by rw[<- r.length];exact z,?_⟩);have l:d a.heap.objs.size=Á:=c.Pk.fresh (zP _);refine⟨.ref a.heap.objs.size,ah d a.heap.objs.size (.tup g),c.laid (t':=a.toks) (fun b u e=>zG _ e) (zP _) ?_,rfl,q _ l⟩;exact⟨z,j,r,⟨_,zY _ rfl,rfl,_,rfl⟩⟩
theorem zp(h:PA X es t):PE X (.List es pos) (My t):=by
 intro l s f H Q I j;refine wpAny_List_spliced (aE (h pos l s f H _ I j) fun i a ⟨g,d,c,r,z,q⟩=>⟨by rw[<- r.length];exact z,?_⟩);have k:d a.heap.objs.size=Á:=c.Pk.fresh (zP _);refine⟨.ref a.heap.objs.size,ah d a.heap.objs.size (.lst g),c.laid (t':=a.toks) (fun b u e=>zG _ e) (zP _) ?_,rfl,q _ k⟩;exact⟨z,i,0,r,zY _ rfl⟩
end
abbrev Sp:=List V->Hp->VK->XK->Prop
abbrev m9:=List O?->Hp->É->XK->Å->É->Prop
structure Env0(P:Ò)(w:à)(K:á)(mg:Ì->Option Å)(base:é)(A:ą)(outer:List O?)(s:É)(H:Hp):Prop where
 frames:A.frames=À outer
 mod:Mod K mg base
 bs:∀b o,base.get? b=À o->s.heap.get? b=À o/\H b=Á
 bsz:base.objs.size<=s.heap.objs.size
 funs:s.heap.FunFrames base outer
 frf:∀b∈k7 outer,H b=Á
 Pk:HOk P w H s.heap
 bare:ϔ s.gens
def CE(outer:List O?)(P:Ò)(w:à)(H:Hp)(s:É)(Q:VK)(u:Å)(s':É):Prop :=
 ∃v a,s'.os=s.os/\ϔ s'.gens/\Un (k7 outer) [] H a s.heap s'.heap/\HOk P w a s'.heap/\RelV v u/\Q v a
def CR(a:m9)(outer:List O?)(P:Ò)(w:à)(H:Hp)(s:É)(Q:VK)(E:XK)(r:Result)(s':É):Prop :=
 match r with
 |.ok (.ret u)=>CE outer P w H s Q u s'
 |.ok _=>False
 |.error e=>a outer H s E e s'
structure FnOk(P:Ò)(w:à)(K:á)(mg:Ì->Option Å)(base:é)(CX:m9)(k:Nat)(f:Ç)(fd:Ĕ)(ps:List Ì)(sp:Sp):Prop where
 len:∀vs H Q E,sp vs H Q E->vs.length=ps.length
 run:∀(A:ą)(outer:List O?)(s:É)(H:Hp)(args:Args)(us:List Å)(vs:List V)(Q:VK)(E:XK),Room k A->Env0 P w K mg base A outer s H->v! s fd args (ps.zip us)->Vals vs us->sp vs H Q E ->
  ŏ (model P w) A (.call (.ref f) args) (CR CX outer P w H s Q E) s
theorem FnOk.mono{P:Ò}{w:à}{K:á}{mg:Ì->Option Å}{a:é}{d:m9}{j k:Nat}{f:Ç}{fd:Ĕ}{ps:List Ì}{sp:Sp}(F:FnOk P w K mg a d j f fd ps sp)(h:j<=k) :
  FnOk P w K mg a d k f fd ps sp:=⟨F.len,fun A b s H c g e Q E i=>F.run A b s H c g e Q E (i.mono h)⟩
theorem FnOk.imp{P:Ò}{w:à}{K:á}{mg:Ì->Option Å}{a:é}{e:m9}{k:Nat}{f:Ç}{fd:Ĕ}{ps:List Ì}{sp c:Sp}(F:FnOk P w K mg a e k f fd ps sp)
  (h:∀vs H Q E,c vs H Q E->sp vs H Q E):FnOk P w K mg a e k f fd ps c :=
 ⟨fun vs H Q E q=>F.len vs H Q E (h _ _ _ _ q),fun A b s H d g vs Q E l m n i j=>F.run A b s H d g vs Q E l m n i (h _ _ _ _ j)⟩
theorem Env0.make{P:Ò}{w:à}{K:á}{mg:Ì->Option Å}{a:é}{A:ą}{outer:List O?}{s:É}{H:Hp}(e:Env0 P w K mg a A outer s H)(C:Ç)(us:List Å)(b:List (Ì×Value)) :
  Env0 P w K mg a (A.under (.builtin "type.__call__" ⟨.ref C::us,b⟩)) outer s H:=⟨by first|exact e.frames|(simpa [Around.under,Code.envs,Code.isFrame,pushEnvs] using e.frames),e.mod,e.bs,e.bsz,e.funs,e.frf,e.Pk,e.bare⟩
section
variable{X:Cx}{Pc:List (Ç×Obj)}{σ:St}{H:Hp}{s s':É}
theorem Inv.env0(I:Inv X Pc σ H s):Env0 X.prog X.w X.K X.mg X.base X.A X.stack s H :=
 ⟨I.ok.frames,I.ok.mod,I.bs,z5 I.ok.bsz I.sz,I.stack,I.stkFree,I.Pk,I.bare⟩
theorem Inv.after(I:Inv X Pc σ H s)(h:CE X.stack X.prog X.w H s Q u s'):EP X Pc σ Q u s':=by
 obtain⟨v,j,e,a,un,i,r,q⟩:=h;obtain⟨f,g,d,t,c⟩:=s';obtain rfl:c=s.os:=e;exact⟨v,j,I.call (h':=f) (g':=g) (d':=d) (t':=t) (ch:=[]) un i a (fun b z=>absurd z (by simp)),r,q⟩
end
noncomputable def wY(sp:Sp)(a:List V)(E:XK)(t:TA):TE:=fun b H Q=>t b H fun c d=>sp (c++a) d Q E
def wX(C:Ç)(m:Ì)(sp:Sp)(b:List V)(E:XK)(f:TE)(t:TA):TE:=fun c H Q=>f c H fun x d=>∃a g fs,x=.ref a/\d a=À (.ins C g fs)/\fs.lookup m=Á /\
 t c d fun e h=>sp (x::(e++b)) h Q E
def CS(C:Ç)(sp:Sp)(b:List V)(E:XK)(t:TA):TE:=fun d H Q=>t d H fun e c=>∀x a,c x=Á->c a=Á->a≠x ->
 sp (.ref x::(e++b)) (ah (ah c a (.own x)) x (.ins C a [])) (fun v f=>v=.non/\Q (.ref x) f) E
def Binds(K:á)(fd:Ĕ)(ps:List Ì)(b:List Å):Prop :=
 ∀(s:É)(a:List Å),K.In s.heap->(a++b).length=ps.length->v! s fd ⟨a,[]⟩ (ps.zip (a++b))
theorem Binds.all{K:á}{fd:Ĕ}{ps:List Ì}(h:∀us:List Å,us.length=ps.length->A? fd ⟨us,[]⟩=pure (ps.zip us)):Binds K fd ps []:=fun s us _ a=>by
 rw[í]at a ⊢;exact .of_eq (h us a)
def ja(d:m9)(X:Cx)(E:XK):Prop:=∀(c:List (Ç×Obj))(b:St)(H:Hp)(s:É)(e:Å)(a:É),Inv X c b H s->d X.stack H s E e a->X.xe e a
section
variable{X:Cx}{CX:m9}{k:Nat}{f C:Ç}{fd:Ĕ}{ps:List Ì}{sp:Sp}{dvs:List V}{ds:List Å}{E:XK}{x m:Ì}{p pos apos:ę}{e o:Í}{es:List Í}{ta:TE}{t:TA}
theorem pE(F:FnOk X.prog X.w X.K X.mg X.base CX k f fd ps sp)(d:Room k X.A)(i:Binds X.K fd ps ds)(hd:Vals dvs ds)(c:ja CX X E)
  (I:Inv X Pc σ H s) (r:Vals vs us) (h:sp (vs++dvs) H Q E):Î (model X.prog X.w) X.A (call (.ref f) us) (EP X Pc σ Q) X.xe s:=by
 have r2:Vals (vs++dvs) (us++ds):=r.append hd;have g:(us++ds).length=ps.length:=by rw[<- r2.length];exact F.len _ _ _ _ h
 refine w? (ŧ (F.run X.A X.stack s H ⟨us,[]⟩ (us++ds) (vs++dvs) Q E d I.env0 (i s us I.kIn g) r2 h) fun r b a=>?_);cases r with
 |error e=>exact c Pc σ H s e b I a
 |ok fl =>
  cases fl with
  |ret u=>exact I.after a
  |next=>exact False.elim a
  |brk=>exact False.elim a
  |cont=>exact False.elim a
theorem E1(F:FnOk X.prog X.w X.K X.mg X.base CX k f fd ps sp)(g:Room k X.A)(l:Gl X x)(i:X.mg x=À (.ref f))(j:Ķ X.K (.ref f)=Â)(m:Binds X.K fd ps ds)(hd:Vals dvs ds)(d:ja CX X E)
  (n:PA X (e::es) t) (a:(x==("__debug__":Ì))=Ã:=by decide) (he:Ê (e::es) X.env=(Ã,eval e X.env)::Ê es X.env:=by rfl) (hpl:(ú pos (Ê es X.env)).any (·.1)=Ã:=by rfl) :
  PE X (.Call (.Name x p) (e::es) [] pos) (wY sp dvs E t):=by
 intro o s c H Q I h;refine û (nF I l i ?_ a);refine V8 (h₀:=X.base) I.ok.mod.kin j (aE (n pos o s c H _ I h) fun v w ⟨u,y,b,r,q⟩=>⟨b.kIn,?_⟩) he hpl;exact pE F g m hd d b r q
theorem BU(F:FnOk X.prog X.w X.K X.mg X.base CX k f fd ps sp)(c:Room k X.A)(g:Gl X x)(d:X.mg x=À (.ref f))(e:Ķ X.K (.ref f)=Â)(i:Binds X.K fd ps ds)(hd:Vals dvs ds)(b:ja CX X E)
  (a:(x==("__debug__":Ì))=Ã:=by decide):PE X (.Call (.Name x p) [] [] pos) (wY sp dvs E wW):=by
 intro l s j H Q I h;refine û (nF I g d ?_ a);exact q! I.kIn e (pE (us:=[]) F c i hd b I .nil h)
theorem EW(he:PE X o ta)(c:Cls X.K C)(i:lR X.K C m f)(F:FnOk X.prog X.w X.K X.mg X.base CX k f fd ps sp)(A:Room k X.A)(B:Binds X.K fd ps ds)(hd:Vals dvs ds)(y:ja CX X E)(D:PA X (e::es) t)
  (b:Ê (e::es) X.env=(Ã,eval e X.env)::Ê es X.env:=by rfl) (hpl:(ú pos (Ê es X.env)).any (·.1)=Ã:=by rfl)
  (z:eval (.Call (.Attribute o m apos) (e::es) [] pos) X.env=(do
   let ov <- eval o X.env
   Ŝ apos.atName
   let(f,first) <- holding [ov] (Ū ov m pl)
   ų pos f first (ú pos (Ê (e::es) X.env)) (Ő pos (ē [] X.env))):=by rfl) :
  PE X (.Call (.Attribute o m apos) (e::es) [] pos) (wX C m sp dvs E ta t):=by
 intro j s g H Q I h;refine L' (pl:=pl) (aE (he j s g H _ I h) fun u v d=>?_) z;obtain⟨x,J,p,rx,a,L,fs,ex,G,l,q⟩:=d;subst ex;obtain rfl:u=ã a:=rx;refine lJ p G c i l ?_;refine V8 (first:=[.ref a]) (h₀:=X.base) I.ok.mod.kin i.kp (aE (D pos j v g J _ p q) fun us K ⟨vs,M,n,r,w⟩=>⟨n.kIn,?_⟩) b hpl;exact pE (us:=.ref a::us) (vs:=.ref a::vs) F A B hd y n (.cons rfl r) w
theorem BQ(he:PE X o ta)(c:Cls X.K C)(e:lR X.K C m f)(F:FnOk X.prog X.w X.K X.mg X.base CX k f fd ps sp)(n:Room k X.A)(p:Binds X.K fd ps ds)(hd:Vals dvs ds)(i:ja CX X E)
  (j:eval (.Call (.Attribute o m apos) [] [] pos) X.env=(do
   let ov <- eval o X.env
   Ŝ apos.atName
   let(f,first) <- holding [ov] (Ū ov m pl)
   ų pos f first (ú pos (Ê [] X.env)) (Ő pos (ē [] X.env))):=by rfl) :
  PE X (.Call (.Attribute o m apos) [] [] pos) (wX C m sp dvs E ta wW):=by
 intro t s g H Q I h;refine L' (pl:=pl) (aE (he t s g H _ I h) fun u v b=>?_) j;obtain⟨x,y,d,rx,a,w,fs,ex,r,l,q⟩:=b;subst ex;obtain rfl:u=ã a:=rx;refine lJ d r c e l ?_;exact q! (first:=[.ref a]) d.kIn e.kp (pE (us:=[.ref a]) (vs:=[.ref a]) F n p hd i d (.cons rfl .nil) q)
structure Mk(K:á)(C f:Ç):Prop where
 makes:X! K C=Â
 init:Ŏ K (.ref C) "__init__"=À (À (.ref f))
 fn:isFn K (.ref f)=Â
 kp:Ķ K (.ref C)=Â
theorem Bv(M:Mk X.K C f)(F:FnOk X.prog X.w X.K X.mg X.base CX k f fd ps sp)(l:Room (k+1) X.A)(n:Binds X.K fd ps ds)(hd:Vals dvs ds)
  (j:ja CX X E) (I:Inv X Pc σ H s) (r:Vals vs us)
  (h:∀x dx,H x=Á->H dx=Á->dx≠x->sp (.ref x::(vs++dvs)) (ah (ah H dx (.own x)) x (.ins C dx [])) (fun v H2=>v=.non/\Q (.ref x) H2) E) :
  Î (model X.prog X.w) X.A (call (.ref C) us) (EP X Pc σ Q) X.xe s:=by
 have c:=h (s.heap.objs.size+1) s.heap.objs.size (I.Pk.fresh (Ϲ _)) (I.Pk.fresh (zP _)) (zU (Ĳ _));have b:=Inv.made (C:=C) I;have r2:Vals (V.ref (s.heap.objs.size+1)::(vs++dvs)) (ã (s.heap.objs.size+1)::(us++ds)):=.cons rfl (r.append hd);have m:(ã (s.heap.objs.size+1)::us++ds).length=ps.length:=by
  have e:=r2.length;rw[F.len _ _ _ _ c]at e;exact e.symm
 refine w? (B4 (f:=f) I.kIn M.makes M.init (beq_iff_eq.mp M.fn) (ŧ (F.run _ X.stack _ _ ⟨ã (s.heap.objs.size+1)::us,[]⟩ (ã (s.heap.objs.size+1)::(us++ds)) _ _ E (l.make C us [])
  (b.env0.make C us []) (n _ (ã (s.heap.objs.size+1)::us) b.kIn m) r2 c) fun r d a=>?_))
 cases r with
 |error e=>exact j Pc σ _ _ e d b a
 |ok fl =>
  cases fl with
  |ret u =>
   obtain⟨v,p,o,g,ev,i⟩:=b.after a;subst ev;exact⟨g,⟨V.ref (s.heap.objs.size+1),p,o,rfl,i⟩⟩
  |next=>exact False.elim a
  |brk=>exact False.elim a
  |cont=>exact False.elim a
theorem EX(M:Mk X.K C f)(F:FnOk X.prog X.w X.K X.mg X.base CX k f fd ps sp)(g:Room (k+1) X.A)(j:Gl X x)(i:X.mg x=À (.ref C))(l:Binds X.K fd ps ds)(hd:Vals dvs ds)(d:ja CX X E)
  (m:PA X (e::es) t) (a:(x==("__debug__":Ì))=Ã:=by decide) (he:Ê (e::es) X.env=(Ã,eval e X.env)::Ê es X.env:=by rfl) (hpl:(ú pos (Ê es X.env)).any (·.1)=Ã:=by rfl) :
  PE X (.Call (.Name x p) (e::es) [] pos) (CS C sp dvs E t):=by
 intro n s c H Q I h;refine û (nF I j i ?_ a);refine V8 (h₀:=X.base) I.ok.mod.kin M.kp (aE (m pos n s c H _ I h) fun u v ⟨o,w,b,r,q⟩=>⟨b.kIn,?_⟩) he hpl;exact Bv M F g l hd d b r q
end
structure oa(N P:List Ì)(sc:ĝ):Prop where
 kind:sc.kind=.function
 co:sc.isCoroutine=Ã
 gen:sc.isGenerator=Ã
 nd:N.Nodup
 pre:N.take P.length=P
 par:∀x∈P,sc.names.lookup x=À .local\/sc.names.lookup x=À .cell
 nofree:∀y∈sc.names,y.2≠.free
theorem sJ{a:Ì->Option Ŷ}{x:Ì}:∀{binds:List (Ì×Value)}{m:Ì->Option Å},(∀v,(x,v)∉binds)->P7 a binds m x=m x
 |[],_,_=>rfl
 |(n,v)::r,m,h=>by
  unfold P7;rw[sJ fun w hw=>h w (zQ _ hw)];split
  ·have:x≠n:=by rintro rfl;exact h v z7
   simp[this]
  ·rfl
theorem sL{a:Ì->Option Ŷ}{x:Ì}:∀{binds:List (Ì×Value)}{m:Ì->Option Å},(∀v,(x,v)∉binds)->P8 a binds m x=m x
 |[],_,_=>rfl
 |(n,v)::r,m,h=>by
  unfold P8;rw[sL fun w hw=>h w (zQ _ hw)];split
  ·rfl
  ·have:x≠n:=by rintro rfl;exact h v z7
   simp[this]
theorem sK{kindOf:Ì->Option Ŷ}{x:Ì}{v:Å}:∀{P:List Ì}{vs:List Å}{i:Nat}{m:Ì->Option Å},P.Nodup->P[i]?=À x->vs[i]?=À v->kindOf x=À .local ->
  P7 kindOf (P.zip vs) m x=À v
 |[],_,_,_,_,h,_,_=>by simp at h
 |_::_,[],_,_,_,_,h,_=>by simp at h
 |p::P,w::vs,0,m,nd,h1,h2,hk=>by
  simp at h1 h2;subst h1;subst h2;show P7 kindOf ((p,w)::P.zip vs) m p=_;unfold P7;rw[sJ fun v hv=>(Ļ.mp nd).1 (ý hv).1,yH hk];simp
 |p::P,w::vs,i+1,m,nd,h1,h2,hk=>by
  show P7 kindOf ((p,w)::P.zip vs) m x=_;unfold P7;exact sK (i:=i) (Ļ.mp nd).2 (by simpa using h1) (by simpa using h2) hk
theorem sM{kindOf:Ì->Option Ŷ}{x:Ì}{v:Å}:∀{P:List Ì}{vs:List Å}{i:Nat}{m:Ì->Option Å},P.Nodup->P[i]?=À x->vs[i]?=À v->kindOf x≠À .local ->
  P8 kindOf (P.zip vs) m x=À v
 |[],_,_,_,_,h,_,_=>by simp at h
 |_::_,[],_,_,_,_,h,_=>by simp at h
 |p::P,w::vs,0,m,nd,h1,h2,hk=>by
  simp at h1 h2;subst h1;subst h2;show P8 kindOf ((p,w)::P.zip vs) m p=_;unfold P8;rw[sL fun v hv=>(Ļ.mp nd).1 (ý hv).1,yG hk];simp
 |p::P,w::vs,i+1,m,nd,h1,h2,hk=>by
  show P8 kindOf ((p,w)::P.zip vs) m x=_;unfold P8;exact sM (i:=i) (Ļ.mp nd).2 (by simpa using h1) (by simpa using h2) hk
noncomputable def start(N:List Ì)(vs:List V):St:=vs.map À++È (N.length-vs.length) Á
noncomputable def rh(c:m9)(P:Ò)(w:à)(K:á)(mg:Ì->Option Å)(a:é)(N:List Ì)(qual:Ì)(scope:ĝ)(f:Ç)(cd:Å)(A:ą)(outer:List O?)(s:É)(H:Hp)(E:XK):Cx where
 prog:=P
 w:=w
 K:=K
 mg:=mg
 base:=a
 A:=A.deeper (ϴ qual scope s.heap.objs.size f cd)
 N:=N
 s₀:=s
 H₀:=H
 env:=ϴ qual scope s.heap.objs.size f cd
 outer:=outer
 stack:=ϴ qual scope s.heap.objs.size f cd::outer
 ex:=[]
 calm:=Â
 fn:=fun _=>Â
 pn:=[]
 xe:=fun e d=>Î (model P w) (A.deeper (ϴ qual scope s.heap.objs.size f cd)) (leaving (ϴ qual scope s.heap.objs.size f cd) e) (fun _ b=>c outer H s E e b) (fun g b=>c outer H s E g b) d
theorem vi{sc:ĝ}{n:Nat}{x:Ì}(h:sc.names.lookup x=À .cell):∃c,(Ē n sc.names []).lookup x=À c:=by
 have q:=cellsFrom_some sc.names n [] (.inl h);exact ĳ.mp q
theorem Ar{G:m9}{P:Ò}{w:à}{K:á}{mg:Ì->Option Å}{g:é}{N ps:List Ì}{qual:Ì}{scope:ĝ}{f:Ç}{cd:Å}{A:ą}{outer:List O?}{s s1:É}{H:Hp}{E:XK}{us:List Å}{vs:List V}
  (S:oa N ps scope) (hd:A.handled=Á) (j:Env0 P w K mg g A outer s H) (O:vs.length=ps.length) (r:Vals vs us)
  (x:InCallC s s.heap.objs.size (P7 (ϴ qual scope s.heap.objs.size f cd).kindOf (ps.zip us) fun _=>Á) (Ē (s.heap.objs.size+1) scope.names []) (P8 (ϴ qual scope s.heap.objs.size f cd).kindOf (ps.zip us) fun _=>Á) s1) :
  Inv (rh G P w K mg g N qual scope f cd A outer s H E) [] (start N vs) H s1:=by
 have J:ps.length<=N.length:=by have:=congrArg œ S.pre;rw[ŷ]at this;lia
 obtain ⟨C,M,rfl,F⟩:=x.done;have l:∀ b:Ç,b ∉ (rh G P w K mg g N qual scope f cd A outer s H E).ex:=fun b z=>absurd (show b ∈ ([]:List Ç) from z) (by simp)
 refine⟨⟨j.mod,S.kind,rfl,rfl,zP _,fun y z c C d=>?_,fun y m=>?_,fun y c _ h=>?_,fun _=>hd,Around.frames_deeper j.frames,.inr ⟨rfl,rfl⟩,fun b z=>absurd z (l b),j.bs,j.bsz,fun b _ _=>l b,fun b z=>absurd z (l b),j.funs,j.frf⟩,
  rfl,j.bare,Un.kept F,⟨_,x.toInCall.ns,fun i y v C d Q=>?_⟩,fun y c h=>⟨_,x.cell y c h⟩,j.Pk.fresh (zP _),fun y c h=>?_,fun p t=>absurd (show p∈([]:List (Ç×Obj)) from t) (by simp),j.Pk.kept F,?_⟩
 ·exact name_of_addr x.apart (İ C) (İ d)
 ·have m:scope.names.lookup y=À .cell\/scope.names.lookup y=À .free:=m
  rcases m with m|m
  ·exact vi m
  ·exact absurd rfl (S.nofree _ (İ m))
 ·exact yY (x.above y c (İ h))
 ·have B:i<vs.length:=by
   unfold start at d;by_cases B:i<vs.length
   ·exact B
   ·rw[z6 (by simpa using B)]at d
    rw[ü]at d;split at d<;>cases d
  have L:vs[i]?=À v:=by
   unfold start at d;rw[zN (by simpa using B),zR]at d;cases e:vs[i]? with
   |none=>rw[e]at d;cases d
   |some a=>rw[e]at d;cases d;rfl
  obtain⟨u,D,I⟩:=r.get L;have t:ps[i]?=À y:=by
   rw[<- S.pre,ŭ oM];exact C
  have o:ps.Nodup:=by rw[<- S.pre];exact S.nd.sublist (R9 _ _)
  refine⟨u,I,?_⟩;rcases S.par y (zW t) with k|k
  ·exact .inl ⟨k,sK o t D k⟩
  ·obtain⟨c,e⟩:=vi (n:=s.heap.objs.size+1) k
   refine .inr ⟨.inl k,c,e,?_⟩;have q:=x.cell y c e;rw[sM o t D (by show scope.names.lookup y≠_;rw[k];decide)]at q;exact q
 ·exact j.Pk.fresh (yY (x.above y c (İ h)))
 ·unfold start
  show _=N.length;rw[zV,zH,Ŋ];lia
theorem KR{C:m9}{P:Ò}{w:à}{K:á}{mg:Ì->Option Å}{d:é}{k:Nat}{f:Ç}{name qual:Ì}{c:ϩ}{g:List ĺ}{scope:ĝ}{U kV B pm a ct oc:Å}{X od:Option Ç}
  {G:Array (Option Å)}{N ps:List Ì}{sp:Sp} (lk:K.lookup f=À ⟨oc,od,.func (fnOf name qual c g scope U kV B pm X a ct),G⟩) (R:ϟ K a qual=Â) (S:oa N ps scope)
  (m:∀vs H Q E,sp vs H Q E->vs.length=ps.length)
  (j:∀(A:ą)(outer:List O?)(s:É)(H:Hp)(vs:List V)(Q:VK)(E:XK),Room k (A.deeper (ϴ qual scope s.heap.objs.size f a))->sp vs H Q E ->
   ∃t,PSs (rh C P w K mg d N qual scope f a A outer s H E) g t/\t { nx:=fun _ H'=>Q .non H',rt:=Q } (start N vs) H) :
  FnOk P w K mg d C (k+1) f (fnOf name qual c g scope U kV B pm X a ct) ps sp:=by
 refine⟨m,fun A outer s H W Z vs Q E M z hb r p=>?_⟩;have hl:=m _ _ _ _ p;have Y:K.In s.heap:=z.mod.kin.keeps fun b o e=>(z.bs b o e).1
 have L:s.heap.NoLimit:=z.mod.nolimit.keeps fun b o e=>(z.bs b o e).1
 have i:∀y∈ps.zip Z,scope.names.lookup y.1=À .local\/(scope.names.lookup y.1=À .cell/\((Ē (s.heap.objs.size+1) scope.names []).lookup y.1).isSome=Â):=fun O hy=>by
  obtain⟨n,v⟩:=O;rcases S.par n (ý hy).1 with q|q
  ·exact .inl q
  ·exact .inr ⟨q,cellsFrom_some _ _ _ (.inl q)⟩
 refine codeAny_call_function M.depth (Y _ _ lk) rfl S.co S.gen rfl (codeRec_of Y R) (hb _ _ _ _ ?_);refine wpAny_newFunctionEnv_cells S.kind i fun env he T x=>?_
 subst he;refine⟨L.keeps x.toInCall.keep,codeAny_func ?_⟩;obtain⟨t,ht,hq⟩:=j A outer s H vs Q E (M.deeper _) p;have I:Inv (rh C P w K mg d N qual scope f a A outer s H E) [] (start N vs) H T:=Ar S M.hd z hl r x;refine yS (ht [] T (start N vs) H _ I hq) (fun fl D l=>?_) fun e D l=>l
 have ay:∀{h:St}{H':Hp}{v:V}{u:Å},Inv (rh C P w K mg d N qual scope f a A outer s H E) [] h H' D->RelV v u->Q v H'->CE outer P w H s Q u D :=
  fun {h H' v u} J F q=>⟨v,H',J.os,J.bare,J.base,J.Pk,F,q⟩
 cases fl with
 |ret u =>
  obtain⟨v,h,H',J,F,q⟩:=l;exact ay J F q
 |next =>
  obtain⟨h,H',J,q⟩:=l;exact ay (v:=V.non) (u:=š) J rfl q
 |brk =>
  obtain⟨_,_,_,q⟩:=l;exact False.elim q
 |cont =>
  obtain⟨_,_,_,q⟩:=l;exact False.elim q
section
variable{X:Cx}{x:Ì}{p pos:ę}{e:Í}{es:List Í}{t:TA}{id T:String}{r:List V->Hp->VK->Prop}
def Gf(r:List V->Hp->VK->Prop)(t:TA):TE:=fun a H Q=>t a H fun b c=>r b c Q
theorem tX(n:di X (.builtin id) r)(m:Gl X x)(l:X.mg x=Á)(j:Õ x=À (.builtin id))(o:PA X (e::es) t)(k:x≠"__name__":=by decide)(a:(x==("__debug__":Ì))=Ã:=by decide)
  (he:Ê (e::es) X.env=(Ã,eval e X.env)::Ê es X.env:=by rfl) (hpl:(ú pos (Ê es X.env)).any (·.1)=Ã:=by rfl):PE X (.Call (.Name x p) (e::es) [] pos) (Gf r t):=by
 intro c s b H Q I h;refine û (d7 I m l j ?_ k a);exact Z3 (aE (o pos c s b H _ I h) fun f g ⟨d,u,q,r1,i⟩=>n c g b u d f Q q r1 i) he hpl
theorem rX(n:di X (.type T) r)(m:Gl X x)(l:X.mg x=Á)(j:Õ x=À (.type T))(o:PA X (e::es) t)(k:x≠"__name__":=by decide)(a:(x==("__debug__":Ì))=Ã:=by decide)
  (he:Ê (e::es) X.env=(Ã,eval e X.env)::Ê es X.env:=by rfl) (hpl:(ú pos (Ê es X.env)).any (·.1)=Ã:=by rfl):PE X (.Call (.Name x p) (e::es) [] pos) (Gf r t):=by
 intro c s b H Q I h;refine û (d7 I m l j ?_ k a);exact Ú (aE (o pos c s b H _ I h) fun f g ⟨d,u,q,r1,i⟩=>n c g b u d f Q q r1 i) he hpl
end
end L2
namespace HT
open PySem PyProof.Rows
section
variable{prog:Ò}{w:à}{A:ą}{E:Å->É->Prop}{s:É}
noncomputable def Ps(n d:Nat):Option Int->Nat
 |none=>d
 |some v=>if v<0 then(v+(n:Int)).toNat else min v.toNat n
theorem sIx_none(n d:Nat):Ps n d Á=d:=rfl
theorem sIx_nat(n d k:Nat):Ps n d (À (k:Int))=min k n:=by
 show(if(k:Int)<0 then((k:Int)+(n:Int)).toNat else min (k:Int).toNat n)=min k n;rw[yG oM,T!]
end
end HT
namespace L2
open PySem PySem.Spec PyProof.Rows
abbrev TO:=St->Hp->(Option Int->Hp->Prop)->Prop
def PO(X:Cx)(e:Option Í)(t:TO):Prop :=
 ∀(b:List (Ç×Obj))(s:É)(a:St)(H:Hp)(Q:Option Int->Hp->Prop),Inv X b a H s->t a H Q ->
  Î (model X.prog X.w) X.A (evalPart e X.env) (fun u d=>∃o c,Inv X b a c d/\IsPart u o/\Q o c) X.xe s
noncomputable def DZ:TO:=fun _ H Q=>Q Á H
noncomputable def Ju(t:TE):TO:=fun a H Q=>t a H fun x b=>∃i,x=.int i/\Q (À i) b
theorem lI:∀{us:List Å},Vals (ns.map V.int) us->ϒ us ns:=by
 induction ns with
 |nil=>intro us r;rw[ń]at r;cases r;exact .nil
 |cons n ns a =>
  intro us r;rw[zO]at r;cases r with
  |cons r1 r2 =>
   obtain⟨t,e⟩:=r1;subst e;exact .cons n t (a r2)
section
variable{X:Cx}{e:Í}{te:TE}{lo hi:Option Í}{tl th:TO}{pos p2:ę}
theorem EM:PO X Á DZ:=by
 intro b s a H Q I h;rw[evalPart_none];exact yF ⟨Á,H,I,.none,h⟩
theorem EL(h:PE X e te):PO X (À e) (Ju te):=by
 intro f s b H Q I d;rw[evalPart_some];refine aE (h f s b H _ I d) fun u k a=>?_
 obtain⟨x,j,g,r1,c⟩:=a;obtain⟨i,rfl,q⟩:=c;obtain⟨t,rfl⟩:=r1;exact⟨À i,j,g,.int i t,q⟩
def Pn(X:Cx)(r:V->Option Int->Option Int->Hp->VK->Prop):Prop :=
 ∀(g:List (Ç×Obj))(s:É)(a:St)(H:Hp)(x:V)(v c b:Å)(e f:Option Int)(d:Ç)(Q:VK),Inv X g a H s->RelV x v->s.heap.IsSliceOf d c b .none->IsPart c e->IsPart b f->r x e f H Q ->
  ∃T id,typeLookup (.type T) "__getitem__"=pure (À (.builtin id))/\s.TypeIs v T/\Î (model X.prog X.w) X.A (Q9 v (.ref d)) (EP X g a Q) X.xe s
def LB(r:V->Option Int->Option Int->Hp->VK->Prop)(te:TE)(b c:TO):TE:=fun a H Q=>te a H fun x f=>b a f fun l e=>c a e fun u d=>r x l u d Q
theorem BP(A:Pn X r)(he:PE X e te)(B:PO X lo tl)(y:PO X hi th):PE X (.Subscript e (.Slice lo hi Á p2) pos) (LB r te tl th):=by
 intro f s d H Q I h;refine Subscript_ (aE (he f s d H _ I h) fun v m c=>?_);obtain⟨x,L,J,r1,p⟩:=c;refine wpAny_Slice (aE (B f m d L _ J p) fun i k ⟨l,K,G,w,o⟩=>aE (y f k d K _ G o) fun g a c=>?_);obtain⟨u,j,F,t,n⟩:=c;rw[evalPart_none];refine yF ?_;have E:Inv X f d j { a with heap:=a.heap.push { cls:=.type "slice",data:=.fields #[i,g,.none] } }:=F.kept (t':=a.toks) fun b M q=>zG _ q
 obtain⟨T,id,D,z,C⟩:=A f { a with heap:=a.heap.push { cls:=.type "slice",data:=.fields #[i,g,.none] } } d j x v i g l u a.heap.objs.size Q E r1 (X4 ..) w t n;show Î (model X.prog X.w) X.A (K! e (.Slice lo hi Á p2) v (.ref a.heap.objs.size)) (EP X f d Q) X.xe { a with heap:=a.heap.push { cls:=.type "slice",data:=.fields #[i,g,.none] } };exact tail_any (ops:=[.ref a.heap.objs.size,v]) z D C (by with_unfolding_all rfl)
def rk(xs:List V)(a b:Option Int):List V:=(xs.drop (HT.Ps xs.length 0 a)).take (HT.Ps xs.length xs.length b-HT.Ps xs.length 0 a)
theorem vG(xs:List V)(a b:Option Int):(rk xs a b).length<=xs.length:=by
 unfold rk;rw[ŷ,List.length_drop];lia
end
noncomputable def lZ(n:Nat)(i:Int):Option Nat:=if 0<=i then(if i<n then À i.toNat else Á) else if -(n:Int)<=i then À (i+n).toNat else Á
def iu{α:Type}(xs:List α)(i:Int):Option α:=(lZ xs.length i).bind fun j=>xs[j]?
theorem we{n:Nat}{i:Int}{j:Nat}(h:lZ n i=À j):seqIndex? i n=À j/\j<n/\-(n:Int)<=i/\i<n:=by
 unfold lZ at h;by_cases b:0<=i
 ·rw[yH b]at h
  by_cases a:i<n
  ·rw[yH a]at h
   have e:i.toNat=j:=yD h;exact⟨by rw[k? b a,e],by lia,by lia,a⟩
  ·rw[yG a]at h;cases h
 ·rw[yG b]at h
  by_cases a:-(n:Int)<=i
  ·rw[yH a]at h
   have e:(i+n).toNat=j:=yD h;exact⟨by rw[b? oM a,e],by lia,a,by lia⟩
  ·rw[yG a]at h;cases h
theorem nZ{α:Type}{xs:List α}{i:Int}{v:α}(h:iu xs i=À v):∃j,seqIndex? i xs.length=À j/\xs[j]?=À v/\j<xs.length/\-(xs.length:Int)<=i/\i<xs.length:=by
 unfold iu at h;cases e:lZ xs.length i with
 |none=>rw[e]at h;cases h
 |some j =>
  rw[e]at h;obtain⟨d,c,b,a⟩:=we e;exact⟨j,d,h,c,b,a⟩
def rH(b:Í):Prop:=∀o i,subscripted b Ã o i=operate [o,i] (Q9 o i)
def IxR(X:Cx)(r:R2):Prop :=
 ∀(b a:Í)(d:List (Ç×Obj))(s:É)(c:St)(H:Hp)(x y:V)(v u:Å)(Q:VK),Inv X d c H s->RelV x v->RelV y u->r x y H Q ->
  subscripted a Ã v u=operate [v,u] (Q9 v u)->Î (model X.prog X.w) X.A (K! b a v u) (EP X d c Q) X.xe s
def oQ(X:Cx)(id:String)(r:V->List V->Hp->VK->Prop):Prop :=
 ∀(d:List (Ç×Obj))(s:É)(a:St)(H:Hp)(x:V)(b:List V)(v:Å)(c:List Å)(Q:VK),Inv X d a H s->RelV x v->Vals b c->r x b H Q ->
  Î (model X.prog X.w) X.A (call (.builtin id) (v::c)) (EP X d a Q) X.xe s
section
variable{X:Cx}{a b:Í}{ta tb:TE}{pos:ę}
theorem IxR.or(h:IxR X r)(h':IxR X r'):IxR X (fun x y H Q=>r x y H Q\/r' x y H Q):=by
 intro a b f s c H x y v u Q I rx d q e;rcases q with q|q
 ·exact h a b f s c H x y v u Q I rx d q e
 ·exact h' a b f s c H x y v u Q I rx d q e
theorem J8(g:IxR X r)(j:PE X a ta)(i:PE X b tb)(f:rH b):PE X (.Subscript a b pos) (yu r ta tb):=by
 intro k s c H Q I h;exact Subscript_ (Cz j i I h fun v u d x y m l rx e q=>g a b k d c m x y v u Q l rx e q (f _ _))
def Gx(K:á):R2:=fun x y H Q=>∃p a i v,x=.ref p/\y=.int i/\cb K H p a/\iu a i=À v/\Q v H
def Gu(K:á):R2:=fun x y H Q=>∃p a i v,x=.ref p/\y=.int i/\iA K H p a/\iu a i=À v/\Q v H
def Gw:R2:=fun x y H Q=>∃z i c,x=.str z/\y=.int i/\z.length<=Ë/\iu z.cps.toList i=À c/\Q (.str ⟨#[c]⟩) H
theorem ix_list:IxR X (Gx X.K):=by
 intro b c n s g H x y v u Q I rx A h k;obtain⟨p,K,i,z,rfl,rfl,B,D,q⟩:=h;cases rx;obtain⟨t,rfl⟩:=A;obtain⟨J,r,e,hz⟩:=I.list B;obtain⟨j,a,G,M,F,E⟩:=nZ D;obtain⟨w,m,d⟩:=r.get G;have C:=r.length;have L:=iV;have ay:EP X n g Q w s:=⟨z,H,I,d,q⟩;by_cases l:0<=i
 ·have f:i.toNat=j:=by
   rw[k? l E]at a;exact yD a
  exact item_listR e.isList l oM (by rw[f];simpa using m) ay k
 ·have f:(i+(J.toArray.size:Int)).toNat=j:=by
   rw[b? oM F]at a;rw[zI,<- C];exact yD a
  exact Q8 (x:=w) e.isList.typeIs slot_list_getitem.lookup
   (Q6 (Q:=fun r o=>r=w/\EP X n g Q r o) e.isList oM (by rw[zI]<;>lia) oM (by rw[f];simpa using m) ⟨rfl,ay⟩) k
theorem ix_tup:IxR X (Gu X.K):=by
 intro a b f s d H x y v u Q I rx k h l;obtain⟨p,D,i,z,rfl,rfl,m,o,q⟩:=h;cases rx;obtain⟨t,rfl⟩:=k;obtain⟨K,r,e,hz⟩:=I.tuple m;obtain⟨j,B,A,J,G,F⟩:=nZ o;obtain⟨w,C,c⟩:=r.get A;have n:=r.length;have E:=iV;have ay:EP X f d Q w s:=⟨z,H,I,c,q⟩;exact Q8 (x:=w) e.typeIs slot_tuple_getitem.lookup
  (getItem_tuple (j:=j) (Q:=fun r g=>r=w/\EP X f d Q r g) e oM oM (by rw[zI,<- n];exact B) (by simpa using C) ⟨rfl,ay⟩) l
theorem Ij:IxR X Gw:=by
 intro a b C s r H x y v u Q I rx e h f;obtain⟨z,i,c,rfl,rfl,hz,k,q⟩:=h;obtain⟨t,rfl⟩:=rx;obtain⟨w,rfl⟩:=e;obtain⟨j,d,n,B,m,l⟩:=nZ k;have g:z.cps.toList.length=z.length:=by simp[Str.length]
 rw[g]at d m l;have A:=iV;exact tail_any (typeIs_str s z t) slot_str_getitem.lookup (getItem_str (c:=c) (by
  have p:decide (i < -(2^63:Int))=Ã:=z9 oM;have o:decide (i ≥ 2^63)=Ã:=z9 oM;rw[p,o,W4]) (by rw[d];simpa using n) ⟨.str ⟨#[c]⟩,H,I.tok _,⟨_,rfl⟩,q⟩) f
def NI(K:á):R2:=fun x y H Q=>Gx K x y H Q\/Gu K x y H Q\/Gw x y H Q
theorem uw:IxR X (NI X.K):=ix_list.or (ix_tup.or Ij)
theorem xp(Ph:List Å)(n j:Nat)(u:Å):ğ (·.setIfInBounds j u) { cls:=.type "list",data:=.seq Ph.toArray n }={ cls:=.type "list",data:=.seq (Ph.set j u).toArray n }:=by
 simp[ğ]
theorem Inv.lst(I:Inv X Pc σ H s)(h:H p=À (.lst xs)) :
  ∃(Ph:List Å)(n:Nat),Vals xs Ph/\s.heap.get? p=À { cls:=.type "list",data:=.seq Ph.toArray n }/\xs.length<=Ë:=by
 obtain⟨z,Ph,n,r,e⟩:=I.Pk p _ h;exact⟨Ph,n,r,e,z⟩
theorem Inv.lstUpd{Pc:List (Ç×Obj)}{σ:St}{H:Hp}{s:É}{p:Ç}{xs ys:List V}{Ph its':List Å}{n a:Nat}{f:X0->X0}(I:Inv X Pc σ H s)(h:H p=À (.lst xs))
  (d:s.heap.get? p=À { cls:=.type "list",data:=.seq Ph.toArray n }) (c:f { cls:=.type "list",data:=.seq Ph.toArray n }={ cls:=.type "list",data:=.seq its'.toArray a }) (r:Vals ys its') (hz:ys.length<=Ë) (t:Nat) :
  Inv X Pc σ (ah H p (.lst ys)) { s with heap:=s.heap.update p f,toks:=t }:=by
 have e:(s.heap.update p f).get? p=À { cls:=.type "list",data:=.seq its'.toArray a }:=by
  rw[Heap.get?_update_self f d (by rw[c]<;>rfl),c]
 refine I.write (x:=p) (e:=p) (by rw[h];trivial) (.inl rfl) (fun b u g q=>(u! _ _ (ç g)).trans q) ⟨_,e⟩ ?_;exact⟨hz,its',a,r,e⟩
def JF:V->V->V->Hp->(Hp->Prop)->Prop:=fun o i v H Q=>∃p a k j,o=.ref p/\i=.int k/\H p=À (.lst a)/\lZ a.length k=À j/\Q (ah H p (.lst (a.set j v)))
theorem Bu:xY X JF:=by
 intro D s x H o i v E F u Q I A B z h;obtain⟨p,y,k,j,rfl,rfl,e,C,q⟩:=h;cases A;obtain⟨t,rfl⟩:=B;obtain⟨m,n,r,b,hz⟩:=I.lst e;obtain⟨a,J,g,f⟩:=we C;have c:=r.length;have G:=iV;have w:Inv X D x (ah H p (.lst (y.set j v))) { s with heap:=s.heap.update p (ğ (·.setIfInBounds j u)) } :=
  I.lstUpd e b (xp m n j u) (r.set z j) (by rw[Ĉ];exact hz) s.toks
 by_cases l:0<=k
 ·have d:k.toNat=j:=by
   rw[k? l f]at a;exact yD a
  exact ki_setAt b l oM (by rw[zI,<- c];exact f) (by rw[d];exact⟨_,w,q⟩)
 ·have d:(k+(m.toArray.size:Int)).toNat=j:=by
   rw[b? oM g]at a;rw[zI,<- c];exact yD a
  exact ki_setBack b oM (by rw[zI,<- c];exact g) oM (by rw[d];exact⟨_,w,q⟩)
theorem tM(a b:Option Int)(n:Nat):(ş a b Á n).1=((HT.Ps n 0 a:Nat):Int)/\(ş a b Á n).2.1=((HT.Ps n n b:Nat):Int)/\(ş a b Á n).2.2=1:=by
 refine⟨?_,?_,rfl⟩
 ·cases a with
  |none=>simp[ş,HT.Ps]
  |some i =>
   simp only[ş,HT.Ps,Q!,show(1:Int) > 0 by decide,if_true];by_cases h:i<0
   ·simp only[h,if_true]<;>lia
   ·simp only[h,if_false]<;>lia
 ·cases b with
  |none=>simp[ş,HT.Ps]
  |some i =>
   simp only[ş,HT.Ps,Q!,show(1:Int) > 0 by decide,if_true];by_cases h:i<0
   ·simp only[h,if_true]<;>lia
   ·simp only[h,if_false]<;>lia
theorem sQ(Ph:List Å)(a b:Option Int):slicePick Ph.toArray a b Á=((Ph.drop (HT.Ps Ph.length 0 a)).take (HT.Ps Ph.length Ph.length b-HT.Ps Ph.length 0 a)).toArray:=by
 obtain⟨e,d,c⟩:=tM a b Ph.toArray.size;unfold slicePick;rw[e,d,c];simp only[sliceRange_one,pick_run,zI]<;>rfl
def ML(K:á):V->Option Int->Option Int->Hp->VK->Prop:=fun x c d H Q=>∃a b,x=.ref a/\cb K H a b/\∀p,H p=Á->Q (.ref p) (ah H p (.lst (rk b c d)))
theorem Ed:Pn X (ML X.K):=by
 intro y s m H x v p n e f t Q I rx l j i h;obtain⟨a,c,rfl,k,q⟩:=h;cases rx;obtain⟨w,r,g,hz⟩:=I.list k;have d:=r.length;refine⟨"list",_,slot_list_getitem.lookup,g.isList.typeIs,?_⟩;refine wpAny_getItem_list_slice g.isList l j i .none (by simp) ?_ (by rw[zI]<;>lia);rw[sQ,<- d];refine⟨.ref s.heap.objs.size,_,I.laid (t':=s.toks) (o:=.lst (rk c e f)) (fun b u q=>zG _ q) (zP _) ?_,rfl,q _ (I.Pk.fresh (zP _))⟩;exact⟨z5 (vG c e f) hz,_,0,(r.drop (HT.Ps c.length 0 e)).take (HT.Ps c.length c.length f-HT.Ps c.length 0 e),zY _ rfl⟩
theorem mT:di X (.builtin "len") (fun xs H Q=>∃p ys,xs=[.ref p]/\(cb X.K H p ys\/iA X.K H p ys)/\Q (.int ys.length) H):=by
 intro j s f H xs g Q I r h;obtain⟨p,ys,rfl,b,q⟩:=h;obtain⟨u,rfl,rx⟩:=fK r;cases rx;have i:=iV;rcases b with b|b
 ·obtain⟨e,c,d,hz⟩:=I.list b
  have a:=c.length;exact Calls.call_len_list d.isList (by simp only[zI]<;>lia) ⟨.int ys.length,H,I.tok _,⟨s.toks+1,by rw[zI,a]⟩,q⟩
 ·obtain⟨e,c,d,hz⟩:=I.tuple b
  have a:=c.length;exact len_tuple d (by simp only[zI]<;>lia) ⟨.int ys.length,H,I.tok _,⟨s.toks+1,by rw[zI,a]⟩,q⟩
theorem vk:di X (.builtin "len") (fun xs H Q=>∃z,xs=[.str z]/\z.length<=Ë/\Q (.int z.length) H):=by
 intro d s a H xs b Q I r h;obtain⟨z,rfl,hz,q⟩:=h;obtain⟨u,rfl,t,rfl⟩:=fK r;have c:=iV;exact len_str oM ⟨.int z.length,H,I.tok _,⟨_,rfl⟩,q⟩
theorem vj:di X (.type "list") (fun xs H Q=>∃p ys,xs=[.ref p]/\(cb X.K H p ys\/iA X.K H p ys)/\∀l,H l=Á->Q (.ref l) (ah H l (.lst ys))):=by
 intro x s w H xs y Q I r h;obtain⟨p,ys,rfl,i,q⟩:=h;obtain⟨u,rfl,rx⟩:=fK r;cases rx;have ay:∀(c:List Å),Vals ys c->ys.length<=Ë->∀(a:é)(f:Nat),(∀b v,s.heap.get? b=À v->a.get? b=À v) ->
   a.get? s.heap.objs.size=À { cls:=.type "list",dict:=Á,data:=.seq c.toArray f,slots:=#[] }->EP X x w Q (.ref s.heap.objs.size) { s with heap:=a }:=fun c d hz a f g e =>
  ⟨.ref s.heap.objs.size,_,I.laid (t':=s.toks) g (zP _) (show ObjOk X.prog X.w _ a _ (.lst ys) from ⟨hz,c,f,d,e⟩),rfl,q _ (I.Pk.fresh (zP _))⟩
 rcases i with i|i
 ·obtain⟨c,d,k,hz⟩:=I.list i
  have j:=d.length;obtain⟨o,m,t,n,hd⟩:=k.isList;exact call_list_seq p (.inl rfl) m t hd (fun a f g e=>ay c d hz a f g e) (by simp only[zI]<;>lia)
 ·obtain⟨c,d,k,hz⟩:=I.tuple i
  have j:=d.length;obtain⟨o,m,t,n,hd⟩:=k;exact call_list_seq p (.inr rfl) m t hd (fun a f g e=>ay c d hz a f g e) (by simp only[zI]<;>lia)
def yh(K:á)(T:String)(x:V)(H:Hp):Prop:=match x with
 |.str _=>T="str"
 |.int _=>T="int"
 |.ref p=>(T="list"/\∃b,cb K H p b)\/(T="tuple"/\∃o,K.lookup p=À o/\o.cls=.type "tuple"/\o.dict=Á) \/
   (T="dict"/\((∃a,H p=À (.dK a))\/∃a,H p=À (.dT a)))\/(T="set"/\∃S n,H p=À (.set S n))
 |_=>False
theorem yg(I:Inv X Pc σ H s)(r:RelV x v)(d:yh X.K T x H) :
  s.TypeIs v T/\∀a,v=.ref a->∃ob,s.heap.get? a=À ob/\ob.dict=Á:=by
 cases x with
 |str z =>
  obtain ⟨t,rfl⟩:=r;cases (show T="str" from d);exact ⟨typeIs_str s z t,fun _ e=>nomatch e⟩
 |int i =>
  obtain ⟨t,rfl⟩:=r;cases (show T="int" from d);exact ⟨V? s i t,fun _ e=>nomatch e⟩
 |ref p =>
  cases r;rcases d with⟨rfl,l,h⟩|⟨rfl,o,b,j,hd⟩|⟨rfl,b⟩|⟨rfl,S,n,b⟩
  ·obtain⟨m,_,g,_⟩:=I.list h
   refine⟨g.isList.typeIs,fun a e=>?_⟩;cases e;obtain⟨o,n,e,c,hd,_⟩:=g;exact⟨o,e,hd⟩
  ·refine⟨⟨o,I.kIn p o b,j⟩,fun a e=>?_⟩
   cases e;exact⟨o,I.kIn _ o b,hd⟩
  ·have z:∃o,s.heap.get? p=À o/\o.ExactDict:=by
    rcases b with⟨k,b⟩|⟨k,b⟩
    ·obtain⟨_,_,_,_,o,_,_,e,ex,_⟩:=I.Pk p _ b
     exact⟨o,e,ex⟩
    ·obtain⟨_,_,_,_,o,_,_,e,ex,_⟩:=I.Pk p _ b
     exact⟨o,e,ex⟩
   obtain⟨o,e,ex⟩:=z;refine⟨⟨o,e,ex.1⟩,fun a f=>?_⟩;cases f;exact⟨o,e,ex.2.1⟩
  ·obtain⟨o,_,_,_,e,ex,_⟩:=I.Pk p _ b
   refine⟨⟨o,e,ex.1⟩,fun a f=>?_⟩;cases f;exact⟨o,e,ex.2.1⟩
 |_=>exact False.elim d
def MC(K:á)(T:String)(r:V->List V->Hp->VK->Prop)(to:TE):TE:=fun b H Q=>to b H fun x a=>yh K T x a/\r x [] a Q
def LD(K:á)(T:String)(r:V->List V->Hp->VK->Prop)(to:TE)(t:TA):TE:=fun a H Q=>to a H fun x b=>yh K T x b/\t a b fun c d=>r x c d Q
variable{o e:Í}{es:List Í}{to:TE}{t:TA}{name:Ì}{apos cpos:ę}{T id:String}{r:V->List V->Hp->VK->Prop}
theorem Hr(m:C! T)(c:Slot T name id)(d:typeOf (.builtin id)=pure (.type "method_descriptor"))(p:oQ X id r)(n:PE X o to)
  (b:Ę o name X.env (eval o X.env)=eval o X.env:=by rfl) (a:(apos.endLine==cpos.line)=Â:=by rfl):PE X (.Call (.Attribute o name apos) [] [] cpos) (MC X.K T r to):=by
 intro g s f H Q I h;refine wpAny_Call_method0_late b a (aE (n g s f H _ I h) fun v k e=>?_);obtain⟨x,u,i,r1,j,l⟩:=e;obtain⟨t,q⟩:=yg i r1 j;exact⟨T,id,m,c,d,t,q,Calls.callWith_builtin rfl (PySem.evalArgs_none (p g k f u x [] v [] Q i r1 .nil l))⟩
theorem J9(A:C! T)(d:Slot T name id)(i:typeOf (.builtin id)=pure (.type "method_descriptor"))(D:oQ X id r)(C:PE X o to)(E:PA X (e::es) t)
  (c:Ę o name X.env (eval o X.env)=eval o X.env:=by rfl)
  (f:((ú cpos (Ê (e::es) X.env)).all (fun x=>!x.1)&&(Ő cpos (ē [] X.env)).all (fun x=>x.1.isSome)
   && decide ((e::es).length+([]:List ő).length+(if([]:List ő).isEmpty then 0 else 1)<30))=Â:=by rfl)
  (b:(apos.endLine==cpos.line)=Â:=by rfl) (B:Ê (e::es) X.env=(Ã,eval e X.env)::Ê es X.env:=by rfl) (a:(ú cpos (Ê es X.env)).any (·.1)=Ã:=by rfl) :
  PE X (.Call (.Attribute o name apos) (e::es) [] cpos) (LD X.K T r to t):=by
 intro k s g H Q I h;refine wpAny_Call_method_late c f b rfl (aE (C k s g H _ I h) fun v w j=>?_);obtain⟨x,L,m,r1,q,z⟩:=j;obtain⟨G,F⟩:=yg m r1 q;refine⟨T,id,A,d,i,G,F,?_⟩;have l:=E cpos k w g L _ m z;rw[B]at l ⊢;refine Calls.callWith_builtin (by show(Ã||(ú cpos (Ê es X.env)).any (·.1))=Ã;rw[a]<;>rfl) (Calls.evalArgs_plain ?_);exact aE l fun p u ⟨n,K,J,r2,y⟩=>D k u g K x n v p Q J r1 r2 y
end
def Jk(X:Cx)(id:String)(r:V->List V->Hp->VK->Prop):Prop :=
 ∀(d:List (Ç×Obj))(s:É)(a:St)(H:Hp)(x:V)(b:List V)(v:Å)(c:List Å)(Q:VK),Inv X d a H s->RelV x v->Vals b c->r x b H Q ->
  Î (model X.prog X.w) X.A (call (.builtin id) (v::c)) (EP X d a Q) X.xe s
theorem Vals.one{x:V}{us:List Å}(h:Vals [x] us):∃u,us=[u]/\RelV x u:=by
 cases h with
 |cons r h=>cases h;exact⟨_,rfl,r⟩
theorem Vals.zero:∀{us:List Å},Vals [] us->us=[]
 |_,.nil=>rfl
theorem Vals.dropLast(h:Vals xs us):Vals xs.dropLast us.dropLast:=by
 induction h with
 |nil=>exact .nil
 |cons r t a =>
  cases t with
  |nil=>exact .nil
  |cons q b=>exact .cons r a
theorem Vals.rep(h:Vals xs us):∀k:Nat,Vals (È k xs).flatten (È k us).flatten
 |0=>.nil
 |k+1=>by
  rw[ì,ì,Ċ,Ċ];exact Vals.append h (Vals.rep h k)
theorem xM{α:Type}(l:List α):l.eraseIdx (l.length-1)=l.dropLast:=by
 induction l with
 |nil=>rfl
 |cons a r c =>
  cases r with
  |nil=>rfl
  |cons b r =>
   have e:(a::b::r).length-1=((b::r).length-1)+1:=by
    have f:(a::b::r).length=r.length+2:=rfl;have d:(b::r).length=r.length+1:=rfl;lia
   rw[e,List.eraseIdx_cons_succ,c]
   all_goals rfl
theorem sD(Ph:List Å):∀(k:Nat)(acc:List Å),
  Q2 (fun x1 x2=>x1++x2) acc.toArray (È k Ph.toArray)=(acc++(È k Ph).flatten).toArray
 |0,acc=>by simp
 |k+1,acc=>by
  have e:acc.toArray++Ph.toArray=(acc++Ph).toArray:=by simp
  have a:(acc++Ph)++(È k Ph).flatten=acc++(È (k+1) Ph).flatten:=by
   rw[ì,Ċ,yM]
  rw[<- a,<- sD Ph k (acc++Ph),<- e,ì,Ġ]
section
variable{X:Cx}{Pc:List (Ç×Obj)}{σ:St}{H:Hp}{s:É}{l b:Ç}{xs ys zs:List V}
theorem Inv.lset{Ph its':List Å}{n:Nat}{f:Array Å->Array Å}{t':Nat}(I:Inv X Pc σ H s)(g:H l=À (.lst xs))
  (e:s.heap.get? l=À { cls:=.type "list",data:=.seq Ph.toArray n }) (c:f Ph.toArray=its'.toArray) (a:Vals ys its') (hz:ys.length<=Ë) :
  Inv X Pc σ (ah H l (.lst ys)) { s with heap:=s.heap.update l (ğ f),toks:=t' }:=by
 have q:=PySem.IsL.update e f;rw[c]at q;refine I.write (x:=l) (e:=l) (by rw[g];exact trivial) (.inl rfl) (fun h u d b=>(u! s.heap (ğ f) (ç d)).trans b) ⟨_,q⟩ ?_;exact⟨hz,its',_,a,q⟩
theorem Inv.lnew{t':Nat}(I:Inv X Pc σ H s)(a:Vals ys Ph)(hz:ys.length<=Ë) :
  Inv X Pc σ (ah H s.heap.objs.size (.lst ys)) { s with heap:=s.heap.push { cls:=.type "list",data:=.seq Ph.toArray },toks:=t' } :=
 I.laid (fun _ _ q=>zG _ q) (zP _) ⟨hz,Ph,0,a,zY _ rfl⟩
theorem Inv.fresh(I:Inv X Pc σ H s):H s.heap.objs.size=Á:=I.Pk.fresh (zP _)
theorem Inv.lstM(I:Inv X Pc σ H s)(a:H l=À (.lst xs)):xs.length<=Ë/\∃(Ph:List Å)(n:Nat),Vals xs Ph/\xs.length=Ph.length/\s.heap.get? l=À { cls:=.type "list",data:=.seq Ph.toArray n }:=by
 obtain⟨z,Ph,n,r,e⟩:=I.Pk l _ a;exact⟨z,Ph,n,r,r.length,e⟩
theorem notLongL{n:Nat}(h:n<=Ë):ô n=Ã:=by
 unfold ô;exact z9 oM
end
section
variable{X:Cx}
def Ej:V->List V->Hp->VK->Prop:=fun x b H Q=>∃l a y,x=.ref l/\b=[y]/\H l=À (.lst a)/\a.length<Ë/\Q .non (ah H l (.lst (a++[y])))
theorem rY:Jk X "list.append" Ej:=by
 intro m s f H x i v j Q I rx c h;obtain⟨l,g,y,rfl,rfl,a,hz,q⟩:=h;cases rx;obtain⟨u,rfl,d⟩:=c.one;obtain⟨z,b,n,r,k,e⟩:=I.lstM a;refine Ų F.slot_list_append ⟨_,e,rfl⟩ F.entry_list_append (F.args_list_append_2 _ _) (PySem.list_append l b.toArray n u (by rw[zI];lia)) ⟨e,?_⟩;refine⟨.non,_,I.lset (its':=b++[u]) a e (by simp) (r.append (.cons d .nil)) ?_,rfl,q⟩;rw[zV,ŉ];lia
def MN:V->List V->Hp->VK->Prop:=fun x b H Q=>∃l a y,x=.ref l/\b=[]/\H l=À (.lst a)/\a[a.length-1]?=À y/\Q y (ah H l (.lst a.dropLast))
theorem HK:Jk X "list.pop" MN:=by
 intro w s m H x p v t Q I rx f h;obtain⟨l,o,y,rfl,rfl,d,i,q⟩:=h;cases rx;have c:=f.zero;subst c;obtain⟨z,a,n,r,k,e⟩:=I.lstM d;obtain⟨u,j,g⟩:=r.get i;have b:a.toArray[a.toArray.size-1]?=À u:=by
  show a.toArray[a.length-1]?=À u;rw[<- v?,<- k];exact j
 refine Ų F.slot_list_pop ⟨_,e,rfl⟩ F.entry_list_pop (F.args_list_pop_1 _) (MeetsSeq.list_pop_last l a.toArray n u b (by rw[zI];lia)) ⟨e,?_⟩;refine⟨y,_,I.lset (its':=a.dropLast) d e ?_ r.dropLast ?_,g,q⟩
 ·show a.toArray.eraseIdxIfInBounds (a.toArray.size-1)=a.dropLast.toArray
  rw[zI,List.eraseIdxIfInBounds_toArray,xM]
 ·rw[List.length_dropLast]
  lia
def MM:R2:=fun x y H Q=>∃l k a,x=.ref l/\y=.int k/\H l=À (.lst a)/\-(2^63)<=k/\k<2^63/\a.length*k.toNat<=Ë /\
 ∀p,H p=Á->Q (.ref p) (ah H p (.lst (È k.toNat a).flatten))
theorem Fi{α:Type}(xs:List α)(k:Nat):(È k xs).flatten.length=k*xs.length:=by
 induction k with
 |zero=>simp
 |succ k a=>rw[ì,Ċ,zV,a,D!,Nat.add_comm]
theorem Hw:mY X (ϋ .Mult) MM:=by
 intro L s G H x y v u Q I rx w h;obtain⟨l,k,J,rfl,rfl,B,D,C,hz,q⟩:=h;cases rx;obtain⟨t,rfl⟩:=w;obtain⟨z,b,n,r,A,e⟩:=I.lstM B;have f:b.toArray.size*k.toNat<=Ë:=by rw[zI,<- A];exact hz
 have i:¬b.toArray.size*k.toNat > (2^63-1)/8:=by
  have:(Ë:Nat)<=(2^63-1)/8:=by decide
  lia
 have g:¬(!Builtin.List.listFitsIndex k)=Â:=by
  rw[fitsIndex_both D C];exact Ĝ
 have c:¬ô (b.toArray.size*k.toNat)=Â:=by
  rw[notLongL f];exact Ĝ
 have d:Q2 (fun o j=>o++j) #[] (È (if b.toArray.isEmpty=Â then 0 else k.toNat) b.toArray)=(È k.toNat b).flatten.toArray:=by
  have E:∀m:Nat,Q2 (fun o j=>o++j) #[] (È m b.toArray)=(È m b).flatten.toArray:=fun m=>by
   have:=sD b m []
   rw[List.nil_append]at this;exact this
  rw[E];cases b with
  |nil=>simp
  |cons a K=>rw[yG (by simp)]
 refine wpAny_binaryOp_repeat_ref (T:="list") (U:="int") dC ⟨_,e,rfl⟩ (fun p=>V? p k t) noFill_list_mul F.fills_int_mul F.slot_int_rmul repeat_list F.slot_int_index.lookup
  (Ų F.slot_int_rmul (V? s k t) F.entry_int_rmul (F.args_int_rmul_2 _ _) (int___rmul___int_list k t l b.toArray n)
   ⟨e,rfl,⟨_,e,rfl⟩,Ų F.slot_list_mul ⟨_,e,rfl⟩ F.entry_list_mul (F.args_list_mul_2 _ _) (AutoListH.list___mul___list_int_3 l b.toArray n k t g i c) ⟨e,?_⟩⟩)
 rw[d];exact⟨.ref _,_,I.lnew (t':=s.toks) (r.rep k.toNat) (by rw[Fi,Nat.mul_comm];exact hz),rfl,q _ I.fresh⟩
end
end L2
namespace Att
open PySem PySem.W PySem.Calls PyProof.Rows
theorem p0:∀(ns:List Int)(vs:List Å),WellAll P h vs (ns.map WData.int)->ϒ vs ns:=by
 intro ns
 induction ns with
 |nil =>
  intro vs w;rw[ń]at w;cases w;exact .nil
 |cons n ns c =>
  intro vs w;rw[zO]at w;cases w with
  |cons a b =>
   cases a;exact .cons _ _ (c _ b)
theorem yz{l:OpenLaw}{n:Nat}(s:l.most=À n){P:Params}{h:é}{args:List WData}{b:List Å}
  (c:l.row.toRowW.claim.pre args=Â) (i:WellAll P h b args) :
  ∃a vs ns,b=[ã a]/\args=[WData.list (ns.map WData.int)]/\h.get? a=À { cls:=.type "list",data:=.seq vs.toArray }/\ϒ vs ns/\ns.length<=n:=by
 have j:WShape.hasAll [] args [.list .int]=Â:=(pre_splitW c).1;have k:l.pre.holds [] { args:=args }=Â:=(pre_splitW c).2;obtain⟨d,r,rfl,v,u⟩:=hasAllW_cons j;obtain rfl:=hasAllW_nil u;obtain⟨w,rfl,t⟩:=hasW_list v;obtain⟨ns,rfl⟩:=items_int t;have e:ns.length<=n:=by
  unfold OpenLaw.pre at k;have g:(WTm.not (.lt (.lit (.int (n:Int))) (.len (.arg 0)))).holds [] { args:=[.list (ns.map .int)] }=Â:=by
   have g:=(holds_andW k).1;rw[s]at g;exact g
  have f:=condW_of g (w_not (w_lt w_lit (w_len_list (w_arg rfl))));rw[zH]at f;refine T9 fun q=>?_
  have p:(n:Int)<((ns.length:Nat):Int):=by lia
  first
   | (rw [yV p] at f;exact absurd f dC)
   | (simp at f;lia)
 cases i with
 |cons o m =>
  cases m;cases o with
  |list ho hall=>exact⟨_,_,ns,rfl,rfl,ho,p0 ns _ hall,e⟩
theorem zk(l:OpenLaw)(args:List WData):l.row.toRowW.claim.post args (.bool Â) args=Â :=
 postW_of (r:=l.row.toRowW) (X:=(Â==Â))
  (show WShape.has [] (.bool Â) .bool=Â by first | rfl | decide | simp [WShape.has,WShape.arms,WShape.armsAll])
  (show (WTm.eq .res (.lit (.bool Â))).value [] { args:=args,res:=À (.bool Â),after:=args }=À (.bool (Â == Â)) from w_eq_bool (w_res rfl) w_lit) rfl
theorem attach_call{l:OpenLaw}{n:Nat}{q:Ò}{cD:List Ì}{v:(Ì->Option Å)->é->Prop}{u:à->é->Prop}{d:DefRec}
  (A:l.most=À n) (j:d.params.defaults=[])
  (call:∀(w:à)(s₀ s₁:É)(mg mb:Ì->Option Å)(fa:Ç)(o:X0)(pm cd doc:Å)(a:Ç)(vs:List Å)(ns:List Int),
   Ground q cD [] v w s₀ mg mb s₁.heap->u w s₁.heap ->
   s₁.heap.get? fa=À o->o.data=.func (docDef d.name d.params d.body d.scope pm cd doc)->s₁.heap.CodeRec cd d.name->mg d.name=À (.ref fa) ->
   s₁.heap.get? a=À { cls:=.type "list",data:=.seq vs.toArray }->ϒ vs ns->ns.length<=n->s₁.gens=#[] ->
   ŏ (model l.prog w) ώ (.call (.ref fa) ⟨[.ref a],[]⟩) (fun r s'=>r=.ok (.ret (.bool Â))/\OldK s₁.heap s'.heap/\s'.os=s₁.os/\ϔ s'.gens) s₁) :
  WalkO q cD v u l.row.toRowW d [] (fun f vs=>M' f vs):=by
 intro w s₀ s₁ mg mb G Y fa o pm cd doc I kV z hd k s i D t m J c p x h C;obtain rfl:I=.none:=Dflts.none s j;obtain rfl:kV=.none:=Dflts.noKw s;obtain⟨a,vs,ns,rfl,rfl,e,b,g⟩:=yz A c h;refine enter_call (ŧ (call w s₀ s₁ mg mb fa o pm cd doc a vs ns G Y z (fd_plain hd) k i e b g D) fun r s' y=>?_);obtain⟨rfl,H,F,E⟩:=y;exact⟨.inl ⟨.bool Â,.bool Â,[],rfl,fun _=>rfl,.bool Â,zk l _,fun _=>⟨Ž,fun _ B=>(nomatch B)⟩⟩,H,F,E⟩
end Att
namespace L2
open PySem PySem.Spec PyProof.Rows
theorem yd:∀{vs:List Å}{ns:List Int},ϒ vs ns->Vals (ns.map V.int) vs:=by
 intro vs ns h
 induction h with
 |nil=>exact .nil
 |cons n t h a=>exact .cons ⟨t,rfl⟩ a
noncomputable def db(s:ĺ):ϩ:=match s with
 |.FunctionDef _ a _ _ _ _ _ _ _ _=>a
 |_=>{ posonlyargs:=[],args:=[],vararg:=Á,kwonlyargs:=[],kw_defaults:=[],kwarg:=Á,defaults:=[] }
noncomputable def c9(s:ĺ):List ĺ:=match s with
 |.FunctionDef _ _ b _ _ _ _ _ _ _=>b
 |_=>[]
noncomputable def cg(s:ĺ):ĝ:=match s with
 |.FunctionDef _ _ _ _ _ _ sc _ _ _=>sc
 |_=>{ kind:=.function,names:=[],isGenerator:=Ã,isCoroutine:=Ã }
abbrev fQ:m9:=fun _ _ _ _ _ _=>False
abbrev E0:XK:=fun _ _ _=>False
theorem pJ:ja fQ X E0:=fun _ _ _ _ _ _ _ h=>h.elim
structure Fun(K:á)(x qual:Ì)(st:ĺ)(f:Ç)(fd:Ĕ):Prop where
 ex:∃(oc:Å)(od:Option Ç)(kV doc pm:Å)(an:Option Ç)(cdv ct:Å)(osl:Array (Option Å)),
  fd=fnOf x qual (db st) (c9 st) (cg st) .none kV doc pm an cdv ct/\K.lookup f=À ⟨oc,od,.func fd,osl⟩/\ϟ K cdv qual=Â
 kp:Ķ K (.ref f)=Â
section
variable{P:Ò}{w:à}{K:á}{mg:Ì->Option Å}{base:é}
theorem Fun.binds{x qual:Ì}{st:ĺ}{f:Ç}{fd:Ĕ}{ps:List Ì}(F:Fun K x qual st f fd)
  (h:∀(kV doc pm:Å)(an:Option Ç)(cdv ct:Å)(us:List Å),us.length=ps.length->A? (fnOf x qual (db st) (c9 st) (cg st) .none kV doc pm an cdv ct) ⟨us,[]⟩=pure (ps.zip us)):Binds K fd ps []:=by
 obtain⟨d,c,kV,doc,pm,an,cdv,ct,a,rfl,lk,b⟩:=F.ex;exact .all (h kV doc pm an cdv ct)
theorem qe{x qual:Ì}{st:ĺ}{f:Ç}{h:Å}{g e:Option Ç}{d:Array (Option Å)}{kV b pm a ct:Å}(l:K.lookup f=À ⟨h,g,.func (fnOf x qual (db st) (c9 st) (cg st) .none kV b pm e a ct),d⟩)
  (c:ϟ K a qual=Â) (k:Ķ K (.ref f)=Â):Fun K x qual st f (fnOf x qual (db st) (c9 st) (cg st) .none kV b pm e a ct):=⟨⟨h,g,kV,b,pm,e,a,ct,d,rfl,l,c⟩,k⟩
end
theorem rV{n:Nat}(h:n<=1000):n<Ë:=yL h dC
end L2
set_option maxHeartbeats 4000000
namespace DD
open PySem PySem.Spec PyProof.Rows L2
abbrev St:=L2.St
section
variable{X:Cx}{e:Í}{es:List Í}{st:ĺ}{sts:List ĺ}
theorem PE_imp(h:PE X e t)(i:∀σ H Q,t' σ H Q->t σ H Q):PE X e t':=fun b s σ H Q I a=>h b s σ H Q I (i σ H Q a)
theorem PT_imp(h:PT X e t)(i:∀σ H Q,t' σ H Q->t σ H Q):PT X e t':=fun b s σ H Q I a=>h b s σ H Q I (i σ H Q a)
theorem PW_imp(h:PW X e t)(i:∀σ H Q,t' σ H Q->t σ H Q):PW X e t':=fun a c s σ H Q I b=>h a c s σ H Q I (i σ H Q b)
theorem PA_imp(h:PA X es t)(i:∀σ H Q,t' σ H Q->t σ H Q):PA X es t':=fun p b s σ H Q I a=>h p b s σ H Q I (i σ H Q a)
theorem PS_imp(h:PS X st t)(i:∀D σ H,t' D σ H->t D σ H):PS X st t':=fun b s σ H D I a=>h b s σ H D I (i D σ H a)
theorem PSs_imp(h:PSs X sts t)(i:∀D σ H,t' D σ H->t D σ H):PSs X sts t':=fun b s σ H D I a=>h b s σ H D I (i D σ H a)
theorem OpR_imp(h:mY X f r)(i:∀x y H Q,r' x y H Q->r x y H Q):mY X f r':=fun e s c H x y v u Q I a b d=>h e s c H x y v u Q I a b (i x y H Q d)
end
theorem PG_imp(h:PG X tg t)(i:∀v σ H Q,t' v σ H Q->t v σ H Q):PG X tg t':=fun c s σ H v u Q I a b=>h c s σ H v u Q I a (i v σ H Q b)
end DD
namespace L2
open PySem PySem.Spec PyProof.Rows
theorem qp:∀(names:List (Ì×NameKind))(n:Nat)(acc:List (Ì×Addr)),∃own,Ē n names acc=own++acc/\(∀p∈own,n<=p.2/\(p.1,Ě)∈names) /\
  (∀x,(x,Ě)∈names->∃c,(x,c)∈own)/\own.Pairwise fun x y=>x.2≠y.2
 |[],n,acc=>⟨[],rfl,(fun _ h=>by cases h),(fun _ h=>by cases h),Ž⟩
 |(name,kind)::r,n,acc=>by
  unfold Ē;by_cases hk:kind=.cell
  ·subst hk
   obtain⟨own,e,h1,h2,h3⟩:=qp r (n+1) ((name,n)::acc);refine⟨own++[(name,n)],?_,?_,?_,?_⟩
   ·rw[yH dC,e,yM];rfl
   ·intro p f
    rcases zZ.mp f with f|f
    ·exact⟨Ď (h1 p f).1,zQ _ (h1 p f).2⟩
    ·rw[zM.mp f];exact⟨zP _,z7⟩
   ·intro x d
    rcases zT.mp d with d|d
    ·cases d;exact⟨n,zK _ z7⟩
    ·obtain⟨c,j⟩:=h2 x d;exact⟨c,zL _ j⟩
   ·refine List.pairwise_append.mpr ⟨h3,List.pairwise_singleton _ _,fun a l b k e=>?_⟩
    rw[zM.mp k]at e;have i:=(h1 a l).1;rw[show a.2=n from e]at i;exact absurd i (Nat.not_succ_le_self n)
  ·obtain⟨own,e,h1,h2,h3⟩:=qp r n acc
   have g:(kind==Ě)=Ã:=by cases kind<;>first|rfl|exact absurd rfl hk
   refine⟨own,by rw[g];exact e,fun p f=>⟨(h1 p f).1,zQ _ (h1 p f).2⟩,fun x d=>?_,h3⟩;rcases zT.mp d with d|d
   ·cases d;exact absurd rfl hk
   ·exact h2 x d
theorem lM(h:∀x,(x,Ý)∈scope.names->∃c,env.cells.lookup x=À c) :
  ∃cl,V7 scope env=pure cl/\(∀p∈cl,env.cells.lookup p.1=À p.2)/\∀x,(x,Ý)∈scope.names->∃c,(x,c)∈cl:=by
 have all:∀(a:List (Ì×NameKind))(b:List (Ì×Addr)),(∀x,(x,Ý)∈a->∃c,env.cells.lookup x=À c)->(∀p∈b,env.cells.lookup p.1=À p.2) ->
   ∃cl,(forIn (m:=Y?) a b fun(p:Ì×NameKind)(w:List (Ì×Addr))=>if(p.2==Ý)=Â then do let f <- cellOf env p.1;pure (Į ((p.1,f)::w)) else pure (Į w))=pure cl /\
    (∀p∈cl,env.cells.lookup p.1=À p.2)/\(∀p∈b,p∈cl)/\∀x,(x,Ý)∈a->∃c,(x,c)∈cl:=by
  intro a
  induction a with
  |nil=>intro b _ n;exact⟨b,by rw[U5],n,fun _ h=>h,(fun _ h=>by cases h)⟩
  |cons p r u =>
   obtain⟨g,i⟩:=p;intro b q n;by_cases t:i=.free
   ·subst t
    obtain⟨c,v⟩:=q g z7;obtain⟨cl,e,l,o,k⟩:=u ((g,c)::b) (fun x d=>q x (zQ _ d)) (fun p j=>by
     rcases zT.mp j with rfl|j
     ·exact v
     ·exact n p j)
    refine⟨cl,?_,l,fun p j=>o p (zQ _ j),fun x d=>?_⟩
    ·rw[U0]
     have y:cellOf env g=pure c:=by unfold cellOf;rw[v]
     simp only[y];exact e
    ·rcases zT.mp d with d|d
     ·cases d;exact⟨c,o _ z7⟩
     ·exact k x d
   ·obtain⟨cl,e,l,o,k⟩:=u b (fun x d=>q x (zQ _ d)) n
    have s:(i==Ý)=Ã:=by cases i<;>first|rfl|exact absurd rfl t
    refine⟨cl,?_,l,o,fun x d=>?_⟩
    ·rw[U0];simp only[s,yA,if_false];exact e
    ·rcases zT.mp d with d|d
     ·cases d;exact absurd rfl t
     ·exact k x d
 obtain⟨cl,e,l,_,k⟩:=all scope.names [] h (fun _ h=>by cases h);refine⟨cl,?_,l,k⟩;simp only[V7];rw[e];rfl
theorem BX
  (e:Q (V0 scope s.heap.objs.size env.globals (Ē (s.heap.objs.size+1) scope.names cl) env.qual Á .none (À env) ė) { s with heap:=ϊ (s.heap.push { cls:=.type "dict",data:=.dict #[] }) scope.names }) :
  Î M A (z! scope env.globals cl [] env.qual Á .none (À env)) Q E s:=by
 simp only[z!,H?,if_true];refine yE (wpAny_alloc ?_);refine yE (wpAny_layCells _ (fun d a c=>by cases b:a==Ě<;>simp[b]) _ _ _ _ ?_);rw[show({ s with heap:=s.heap.push { cls:=.type "dict",data:=.dict #[] } }:É).heap.objs.size=s.heap.objs.size+1 from Ħ ..];refine yE ?_;rw[U5];exact yF (yF e)
noncomputable def cY(X:Cx)(N':List Ì)(scope:ĝ)(cl:List (Ì×Addr))(s:É)(H:Hp)(a:List Ç)(Pc:List (Ç×Obj)):Cx :=
 { X with N:=N',s₀:=s,H₀:=H,env:=compEnvC scope (Ē (s.heap.objs.size+1) scope.names cl) s.heap.objs.size X.env,outer:=X.stack,stack:=X.stack,ex:=a,
          fn:=fun x=>scope.names.lookup x==À .cell,pn:=X.pn++Pc,xe:=fun _ _=>False }
structure kJ(X:Cx)(N':List Ì)(scope:ĝ):Prop where
 kind:scope.kind=.function
 nd:(scope.names.map (·.1)).Nodup
 len:X.N.length<=N'.length
 free:∀x,(x,Ý)∈scope.names->X.env.kindOf x=À .cell\/X.env.kindOf x=À .free
 same:∀i x,i<X.N.length->N'[i]?=À x->(x,Ý)∈scope.names->X.N[i]?=À x
 hid:∀i x,i<X.N.length->N'[i]?=À x->(∃k,(x,k)∈scope.names)->(x,Ý)∈scope.names
theorem dJ{α:Type}:∀{l:List (Ì×α)}{x:Ì}{k:α},(l.map (·.1)).Nodup->(x,k)∈l->l.lookup x=À k
 |(y,j)::r,x,k,nd,h=>by
  rw[zO,Ļ]at nd;rcases zT.mp h with h|h
  ·cases h;rw[yN];simp
  ·have ne:x≠y:=fun e=>nd.1 (e▸ϙ (f:=(·.1)) h)
   rw[yN];have:(x==y)=Ã:=by simpa using ne
   rw[this];exact dJ nd.2 h
theorem gQ{α:Type}:∀{l:List (Ì×α)}{x:Ì}{k:α},(x,k)∈l->∃k',l.lookup x=À k'
 |(y,j)::r,x,k,h=>by
  rw[yN];cases hb:x==y with
  |true=>exact⟨j,rfl⟩
  |false =>
   rcases zT.mp h with h|h
   ·cases h;simp at hb
   ·exact gQ h
theorem iP(h:(relabel scope env).names.lookup x=À k):(x,k)∈scope.names\/((x,Ý)∈scope.names/\k=.cell):=by
 have b:=mem_of_lookup h;unfold relabel at b;obtain⟨⟨n,j⟩,a,e⟩:=yC.mp b;dsimp only at e;split at e
 ·rename_i c
  cases e;refine .inr ⟨?_,rfl⟩;have:j=.free:=by
   cases j<;>simp at c<;>rfl
  subst this;exact a
 ·cases e;exact .inl a
theorem sU{α:Type}{a b:List (Ì×α)}(h:∀p∈a,p.1≠x):(a++b).lookup x=b.lookup x:=by
 induction a with
 |nil=>rfl
 |cons p r c =>
  obtain⟨y,j⟩:=p;rw[ϳ,yN];have:(x==y)=Ã:=by
   have:=h (y,j) z7
   simpa using fun e:x=y=>this e.symm
  rw[this];exact c fun p d=>h p (zQ _ d)
section
variable{X:Cx}{N':List Ì}{scope:ĝ}{cl:List (Ì×Addr)}{s:É}{H:Hp}{fp:List Ç}{Pc:List (Ç×Obj)}{σ:St}
theorem Cu(T:kJ X N' scope)(I:Inv X Pc σ H s)(O:∀p∈cl,X.env.cells.lookup p.1=À p.2)(Z:∀x,(x,Ý)∈scope.names->∃c,(x,c)∈cl)
  (hf:∀b∈fp,eQ X Pc H b) (ho:∀b∈fp,∃o,s.heap.get? b=À o) :
  Inv (cY X N' scope cl s H fp Pc) [] (σ++È (N'.length-X.N.length) Á) H { s with heap:=ϊ (s.heap.push { cls:=.type "dict",data:=.dict #[] }) scope.names }:=by
 obtain⟨g,N,o1,o2,o3⟩:=qp scope.names (s.heap.objs.size+1) cl;have B:∀b o,s.heap.get? b=À o->(ϊ (s.heap.push { cls:=.type "dict",data:=.dict #[] }) scope.names).get? b=À o:=fun b o e=>o? _ _ b o (zG _ e)
 have clt:∀x c,(x,c)∈cl->c<s.heap.objs.size:=fun x c h=>by
  obtain⟨v,z⟩:=I.cell x c (O _ h);exact z.lt
 have f:∀x c,(g++cl).lookup x=À c->(s.heap.objs.size+1<=c/\(x,c)∈g)\/X.env.cells.lookup x=À c:=fun x c h=>by
  rcases zZ.mp (mem_of_lookup h) with h|h
  ·exact .inl ⟨(o1 _ h).1,h⟩
  ·exact .inr (O _ h)
 have hst:∀b∈fp,b∉k7 X.stack:=fun b J z=>by
  rcases zT.mp (I.stkSub b z) with e|e
  ·exact(hf b J).2.1 e
  ·exact(hf b J).2.2.1 e
 have okc:CellsOk (ϊ (s.heap.push { cls:=.type "dict",data:=.dict #[] }) scope.names) (s.heap.objs.size+1) (Ē (s.heap.objs.size+1) scope.names []):=by
  have q:=cellsFrom_ok scope.names (s.heap.push { cls:=.type "dict",data:=.dict #[] }) (s.heap.objs.size+1) [] ⟨(fun _ _ Y=>by cases Y),Ž⟩ (by rw[Ħ];exact zP _);rw[Ħ]at q;exact q
 have eown:Ē (s.heap.objs.size+1) scope.names []=g:=by
  obtain⟨own',e',_⟩:=qp scope.names (s.heap.objs.size+1) [];have R:∀(A:List (Ì×NameKind))(n:Nat)(D:List (Ì×Addr)),Ē n A D=Ē n A []++D:=by
   intro A
   induction A with
   |nil=>intro n D;rfl
   |cons p r V =>
    obtain⟨F,U⟩:=p;intro n D;unfold Ē;split
    ·rw[V (n+1) ((F,n)::D),V (n+1) [(F,n)],yM];rfl
    ·exact V n D
  have:=R scope.names (s.heap.objs.size+1) cl
  rw[N]at this;exact(List.append_cancel_right this).symm
 have ok:(cY X N' scope cl s H fp Pc).Ok:=by
  refine⟨I.ok.mod,T.kind,I.ok.glob,I.ok.blt,zP _,fun x y c h1 L=>?_,fun x h=>?_,fun x c h1 L=>?_,I.ok.hd,I.ok.frames,.inl rfl,fun b J=>⟨?_,fun x c h=>?_⟩,I.bs,z5 I.ok.bsz I.sz,fun b o e J=>?_,hst,I.stack,I.stkFree⟩
  ·have h1:(g++cl).lookup x=À c:=N▸h1
   have L:(g++cl).lookup y=À c:=N▸L;rcases f x c h1 with⟨K,S⟩|E
   ·rcases f y c L with⟨l2,m2⟩|M
    ·exact name_of_addr o3 S m2
    ·obtain⟨v,z⟩:=I.cell y c M
     exact absurd (zJ z.lt (Ď (by first|exact l2|exact K))) (xA _)
   ·rcases f y c L with⟨l2,m2⟩|M
    ·obtain⟨v,z⟩:=I.cell x c E
     exact absurd (zJ z.lt (Ď (by first|exact l2|exact K))) (xA _)
    ·exact I.ok.inj x y c E M
  ·show ∃c,(Ē (s.heap.objs.size+1) scope.names cl).lookup x=À c
   rw[N];have w:(x,Ý)∈scope.names->∃c,(g++cl).lookup x=À c:=fun Y=>by
    obtain⟨c,Q⟩:=Z x Y;exact gQ (zK g Q)
   have C:(x,Ě)∈scope.names->∃c,(g++cl).lookup x=À c:=fun Y=>by
    obtain⟨c,Q⟩:=o2 x Y;exact gQ (zL cl Q)
   rcases h with h|h
   ·rcases iP h with h|⟨h,_⟩
    ·exact C h
    ·exact w h
   ·rcases iP h with h|⟨h,e⟩
    ·exact w h
    ·cases e
  ·have L:(g++cl).lookup x=À c:=N▸L
   have Q:scope.names.lookup x=À .cell:=by
    have:(scope.names.lookup x==À Ě)=Â:=h1;simpa using this
   rcases f x c L with⟨K,S⟩|E
   ·exact Ď K
   ·-- x is one of the block's g: Ph cell stands ahead
    obtain⟨c',P⟩:=o2 x (mem_of_lookup Q);obtain⟨c2,G⟩:=gQ P;have:(g++cl).lookup x=À c2:=by
     have R:∀l:List (Ì×Addr),l.lookup x=À c2->(l++cl).lookup x=À c2:=by
      intro l
      induction l with
      |nil=>intro h;cases h
      |cons p r V =>
       obtain⟨y,j⟩:=p;intro h;rw[ϳ,yN];rw[yN]at h;cases J:x==y with
       |true=>rw[J]at h;exact h
       |false=>rw[J]at h;exact V h
     exact R g G
    rw[this]at L;cases L;exact Ď (o1 _ (mem_of_lookup G)).1
  ·obtain⟨o,e⟩:=ho b J
   exact zU (yI e)
  ·have h:(g++cl).lookup x=À c:=N▸h
   obtain⟨o,e⟩:=ho b J;have hlt:=yI e;rcases f x c h with⟨K,S⟩|E
   ·intro z
    rw[z]at K;exact absurd (zJ hlt (Ď K)) (xA _)
   ·exact(hf b J).2.2.2.2.1 x c E
  ·rcases(hf b J).2.2.2.1 with z|z
   ·exact I.ok.noex b o e z
   ·exact absurd (zJ (yI e) (z5 I.ok.bsz z)) (xA _)
 refine⟨ok,rfl,I.bare,Un.kept B,⟨fun _=>Á,(Heap.Ns.new s.heap (.type "dict")).keeps (o? _ _),fun i x v E M e3=>?_⟩,fun x c h=>?_,I.Pk.fresh (zP _),fun x c h=>?_,fun p hp=>?_,I.Pk.kept B,?_⟩
 ·-- a F of the code around
  have hlen:=I.len;have hi:i<σ.length:=by
   rcases yT i σ.length with h|h
   ·exact h
   ·rw[z6 h]at M
    rw[ü]at M;split at M<;>cases M
  rw[zN hi]at M;have W:∃k,(x,k)∈scope.names:=by
   have:∃k,(relabel scope X.env).names.lookup x=À k:=by
    rcases e3 with h|h|h<;>exact⟨_,h⟩
   obtain⟨k,h⟩:=this;rcases iP h with h|⟨h,_⟩<;>exact⟨_,h⟩
  have t:=T.hid i x oM E W;have eX:=T.same i x oM E t;have kX:=T.free x t;obtain⟨m,hn,hl⟩:=I.loc;obtain⟨u,ru,lk⟩:=hl i x v eX M (by rcases kX with h|h;exact .inr (.inl h);exact .inr (.inr h));refine⟨u,ru,.inr ⟨?_,?_⟩⟩
  ·-- Ph U in the block
   have:∃k,(relabel scope X.env).names.lookup x=À k:=by
    rcases e3 with h|h|h<;>exact⟨_,h⟩
   obtain⟨k,h⟩:=this;rcases iP h with h'|⟨h',e⟩
   ·have e5:=dJ T.nd h'
    have e6:=dJ T.nd t;rw[e5]at e6;cases e6;exact .inr h
   ·subst e;exact .inl h
  ·rcases lk with⟨k1,_⟩|⟨_,c,Q,z⟩
   ·rcases kX with h|h<;>rw[h]at k1<;>cases k1
   ·refine⟨c,?_,z.keeps B⟩
    show(Ē (s.heap.objs.size+1) scope.names cl).lookup x=À c;rw[N,sU fun p hp e=>?_]
    ·obtain⟨c',P⟩:=Z x t
     obtain⟨c2,G⟩:=gQ P
     have:=O _ (mem_of_lookup G)
     rw[Q]at this;cases this;exact G
    ·have e5:=dJ T.nd (o1 p hp).2
     rw[e]at e5;have e6:=dJ T.nd t;rw[e5]at e6;cases e6
 ·have h:(g++cl).lookup x=À c:=N▸h
  rcases f x c h with⟨K,S⟩|E
  ·exact⟨Á,(okc.empty x c (eown▸S)).1⟩
  ·obtain⟨v,z⟩:=I.cell x c E
   exact⟨v,z.keeps B⟩
 ·have h:(g++cl).lookup x=À c:=N▸h
  rcases f x c h with⟨K,S⟩|E
  ·exact I.Pk.fresh (Ď K)
  ·exact I.freeC x c E
 ·rw[í]at hp
  obtain⟨e,n,ne,nf,d⟩:=I.pin p hp;refine⟨B _ _ e,n,zU (yI e),fun z=>?_,d⟩;rcases zT.mp (I.stkSub p.1 z) with z|z
  ·exact ne z
  ·exact nf z
 ·show(σ++È (N'.length-X.N.length) Á).length=N'.length
  rw[zV,Ŋ,I.len]
  have:=T.len
  lia
theorem IT(I:Inv X Pc σ H s)(i:∀b∈fp,eQ X Pc H b)(g:Inv (cY X N' scope cl s H fp Pc) pins1 σ1 H1 s1)(h:ĭ s.heap.objs.size s1.heap h') :
  Inv X Pc σ H1 { s1 with heap:=h' }:=by
 have j:∀b o,s.heap.get? b=À o->b≠s.heap.objs.size:=fun b o e=>zU (yI e)
 have u:=g.base;have k:Un (k7 X.stack) fp H H1 s.heap h':=by
  refine⟨fun b o e n a d=>?_,fun b o e n a d=>?_,u.free,fun b o e d=>?_,u.tups,u.frzs,u.tbls⟩
  ·rw[h.2 b (j b o e)];exact u.keep b o e n a d
  ·obtain⟨l,q⟩:=u.slot b o e n a d
   exact⟨l,by rw[h.2 b (j b o e)];exact q⟩
  ·obtain⟨m,q⟩:=u.there b o e d
   exact⟨m,by rw[h.2 b (j b o e)];exact q⟩
 have f:H1 s.heap.objs.size=Á:=g.free;refine I.call' (s':={ s1 with heap:=h' }) g.os k (fun b o e=>?_) g.bare fun b a=>⟨(i b a).2.2.2.1,(i b a).2.1,(i b a).2.2.2.2.1,(i b a).2.2.2.2.2⟩
 refine(g.Pk b o e).stay (fun c v p q=>(h.2 c ?_).trans q) (fun _ q=>q) fun _ _ q=>q
 rintro rfl;rcases p with z|z
 ·rw[<- z,f]at e;cases e
 ·rw[f]at z;cases z
def wH(X:Cx)(b:List Í)(t:TT):Prop :=
 ∀(d:List (Ç×Obj))(s:É)(a:St)(H:Hp)(Q:Bool->Hp->Prop),Inv X d a H s->t a H Q ->
  Î (model X.prog X.w) X.A (forIn b Â fun c r=>if r=Â then do let ok <- z? c X.env (eval c X.env);pure (Į ok) else pure (Į r)) (TP X d a Q) X.xe s
theorem EQ:wH X [] (fun _ H Q=>Q Â H):=fun b s a H Q I h=>wpAny_tests_nil ⟨H,I,h⟩
theorem EO(h:PT X c t):wH X [c] t:=fun d s a H Q I b=>wpAny_tests_one (h d s a H Q I b)
def Gc(k:Nat)(o:TI)(g:TG)(tt:TT)(te:TE):TE:=fun f H Q=>o f H fun J n=>∀p,n p=Á ->
 ∃W:Nat->Nat->St->Hp->Prop,(∃m,W 0 m (f++È k Á) (ah n p (.lst [])))/\∀i m b d,W i m b d ->
  (J.stop i d/\Q (.ref p) d)\/(J.go i d/\∀x l,J.yld i d x l->g x b l fun a q=>tt a q fun ok j=>if ok=Â then
   te a j fun y h=>∃e,h p=À (.lst e)/\e.length<Ë/\∃c,c<m/\W (i+1) c a (ah h p (.lst (e++[y])))
   else ∃c,c<m/\W (i+1) c a j)
theorem vf(I:Nat->É->Prop)
  (turn:∀n s,I n s->Î (model prog w) A (x? it) (fun r s₁=>match r with
   |none=>R (.ok .next) s₁
   |some v=>Î (model prog w) A (ϗ target it v) (fun _ s₁'=>Î (model prog w) A (assign target env v) (fun _ s₂ =>
     Î (model prog w) A (forIn ifs Â fun c r=>if r=Â then do let ok <- z? c env (eval c env);pure (Į ok) else pure (Į r)) (fun ok s₃ =>
      if ok=Â then Î (model prog w) A (eval elt env) (fun x s₄ =>
       Î (model prog w) A (call (.builtin "list.append") [acc,x]) (fun _ s₅=>∃m,m<n/\I m s₅) (fun _ _=>False) s₄) (fun _ _=>False) s₃
      else ∃m,m<n/\I m s₃) (fun _ _=>False) s₂) (fun _ _=>False) s₁') (fun _ _=>False) s₁) (fun _ _=>False) s)
  (n:Nat) (h:I n s):ŏ (model prog w) A (.compLoop (.ListComp elt [⟨target,iter,ifs,0⟩] scope pos) 0 it acc env) R s:=by
 refine codeAny_loop rfl I (fun n s j=>?_) n h;show Î _ A ((compTurn (.ListComp elt [⟨target,iter,ifs,0⟩] scope pos) 0 it acc env).onRaise (fun x=>do noteFrame x env;theTreesLotGoes x)) _ _ s;refine wpAny_noted ?_;rw[compTurn_list];refine yE (Ś (yE (yS (turn n s j) (fun r s₁ d=>?_) fun _ _ a=>a.elim)));cases r with
 |none=>exact yF d
 |some v =>
  refine yE (yS d (fun _ s₁' e=>?_) fun _ _ a=>a.elim);refine yE (yS e (fun _ s₂ i=>yE (yS i (fun ok s₃ b=>?_) fun _ _ a=>a.elim)) fun _ _ a=>a.elim);cases ok with
  |false=>exact yF ⟨rfl,b⟩
  |true =>
   exact yE (yE (yS b (fun x s₄ g=>yE (yS g (fun _ s₅ f=>yF (yF ⟨rfl,f⟩)) fun _ _ a=>a.elim)) fun _ _ a=>a.elim))
theorem ut{elt z S:Í}{B:List Í}{pos:ę}{g:TG}{tt:TT}{te:TE}{J:It}{it:Ç}{tn:Nat->é->Prop}{Q:VK}{E:Å->É->Prop}{RR:Å->Ç->Result->É->Prop}
  (hc:X.calm=Â) (T:kJ X N' scope) (hcl:∀p∈cl,X.env.cells.lookup p.1=À p.2) (hfr:∀x,(x,Ý)∈scope.names->∃c,(x,c)∈cl)
  (hg:∀cl s H fp Pc,PG (cY X N' scope cl s H fp Pc) S g) (ht:∀cl s H fp Pc,wH (cY X N' scope cl s H fp Pc) B tt) (he:∀cl s H fp Pc,PE (cY X N' scope cl s H fp Pc) elt te)
  (I:Inv X Pc σ H s) (v:lQ X.prog X.w X.K S J fp it tn) (st0:tn 0 s.heap) (hf:∀b∈fp,eQ X Pc H b)
  (h:∀p,H p=Á->∃W:Nat->Nat->St->Hp->Prop,(∃m,W 0 m (σ++È (N'.length-X.N.length) Á) (ah H p (.lst [])))/\∀i m σ' H',W i m σ' H' ->
   (J.stop i H'/\Q (.ref p) H')\/(J.go i H'/\∀x H2,J.yld i H' x H2->g x σ' H2 fun σ2 H3=>tt σ2 H3 fun ok H4=>if ok=Â then
    te σ2 H4 fun y H5=>∃ys,H5 p=À (.lst ys)/\ys.length<Ë/\∃m',m'<m/\W (i+1) m' σ2 (ah H5 p (.lst (ys++[y])))
    else ∃m',m'<m/\W (i+1) m' σ2 H4))
  (hRR:∀p C s1 H1,Inv X Pc σ H1 s1->Q (.ref p) H1->(∃m,s1.heap.Ns C m)->H1 C=Á->s.heap.objs.size<=C->RR (.ref p) C (.ok .next) s1) :
  Î (model X.prog X.w) X.A (newList []) (fun acc s₃=>Î (model X.prog X.w) X.A (z! scope X.env.globals cl [] X.env.qual Á .none (À X.env)) (fun cenv s₄ =>
   ŏ (model X.prog X.w) X.A (.compStart (.ListComp elt [⟨S,z,B,0⟩] scope pos) 0 (.ref it) acc { cenv with scope:=relabel scope X.env }) (RR acc cenv.locals) s₄) E s₃) E s:=by
 refine W6 (BX ?_);have Y:H s.heap.objs.size=Á:=I.fresh;obtain⟨W,⟨m0,w0⟩,turn⟩:=h _ Y;have I2:Inv X Pc σ (ah H s.heap.objs.size (.lst [])) { s with heap:=s.heap.push { cls:=.type "list",data:=.seq ([]:List Å).toArray } }:=Inv.lnew (t':=s.toks) (Ph:=[]) (ys:=[]) I .nil (ŀ _);have D:∀b∈fp,eQ X Pc (ah H s.heap.objs.size (.lst [])) b:=fun b f=>by
  obtain⟨o,e,_⟩:=v.obj _ _ st0 b f;exact⟨by rw[ae (zU (yI e))];exact(hf b f).1,(hf b f).2⟩
 have ho2:∀b∈fp,∃o,(s.heap.push { cls:=.type "list",data:=.seq ([]:List Å).toArray }:é).get? b=À o:=fun b f=>by
  obtain⟨o,e,_⟩:=v.obj _ _ st0 b f;exact⟨o,zG _ e⟩
 have R:=Cu T I2 hcl hfr D ho2;have M:tn 0 (ϊ ((s.heap.push { cls:=.type "list",data:=.seq ([]:List Å).toArray }).push { cls:=.type "dict",data:=.dict #[] }) scope.names) :=
  v.keep _ _ _ st0 fun b f o e=>o? _ _ b o (zG _ (zG _ e))
 generalize t:({ s with heap:=s.heap.push { cls:=.type "list",data:=.seq ([]:List Å).toArray } }:É)=s2 at I2 R;have hC:s.heap.objs.size<=s2.heap.objs.size:=by rw[<- t];exact yY (by show _<(s.heap.push _).objs.size;rw[Ħ];exact Ĳ _)
 have k:∀{H':Hp},(∀b∈fp,H' b=Á)->∀b∈fp,eQ (cY X N' scope cl s2 (ah H s.heap.objs.size (.lst [])) fp Pc) [] H' b:=fun {H'} hn b f=>by
  refine⟨hn b f,(R.ok.exf b f).1,R.ok.exfs b f,.inl f,(R.ok.exf b f).2,fun p Y=>?_⟩;rw[í]at Y;exact(hf b f).2.2.2.2.2 p Y
 have w:∀s4,s4=({ s2 with heap:=ϊ (s2.heap.push { cls:=.type "dict",data:=.dict #[] }) scope.names }:É) ->
   ŏ (model X.prog X.w) X.A (.compLoop (.ListComp elt [⟨S,z,B,0⟩] scope pos) 0 (.ref it) (.ref s.heap.objs.size) (cY X N' scope cl s2 (ah H s.heap.objs.size (.lst [])) fp Pc).env) (RR (.ref s.heap.objs.size) s2.heap.objs.size) s4:=by
  rintro s4 rfl;refine vf (fun n U=>∃i σ' H',Inv (cY X N' scope cl s2 (ah H s.heap.objs.size (.lst [])) fp Pc) [] σ' H' U/\tn i U.heap/\(∀b∈fp,H' b=Á)/\W i n σ' H') ?_ m0
   ⟨0,_,_,R,by subst t;exact M,fun b f=>(D b f).1,w0⟩
  rintro n s3 ⟨i,q,H3,I4,L,O,w4⟩;rcases turn i n q H3 w4 with⟨K,qn⟩|⟨go,step⟩
  ·refine aE (v.done (cY X N' scope cl s2 (ah H s.heap.objs.size (.lst [])) fp Pc) rfl rfl rfl hc i [] s3 q H3 (fun _ _=>False) I4 (k O) L K) fun r s5 a=>?_
   obtain⟨hr,I5⟩:=a;subst hr;obtain⟨m,hn,_⟩:=I5.loc;exact hRR _ _ s5 H3 (IT I2 D I5 (k! _ _)) qn ⟨m,hn⟩ I5.free hC
  ·refine aE (v.item (cY X N' scope cl s2 (ah H s.heap.objs.size (.lst [])) fp Pc) rfl rfl rfl hc i [] s3 q H3 (fun _ _=>False) I4 (k O) L go) fun r s5 a=>?_
   obtain⟨u,hr,h5⟩:=a;subst hr;refine aE h5 fun _ s6 a=>?_
   obtain⟨x,H6,I6,r6,y6,A,fr6⟩:=a;have I6':=I6.pinned (k fr6) (v.obj _ _ A);have l:∀{j:St}{G:Hp}{F:É}{m':Nat},Inv (cY X N' scope cl s2 (ah H s.heap.objs.size (.lst [])) fp Pc) ([]++g8 fp s6.heap) j G F->m'<n->W (i+1) m' j G ->
     ∃m,m<n/\∃i σ' H',Inv (cY X N' scope cl s2 (ah H s.heap.objs.size (.lst [])) fp Pc) [] σ' H' F/\tn i F.heap/\(∀b∈fp,H' b=Á)/\W i m σ' H':=fun {j G F m'} P N w7=>by
    refine⟨m',N,i+1,j,G,P.unpinned,v.keep _ _ _ A fun b f o e=>(P.pin (b,o) (zK _ (zK _ (d6 f e)))).1,fun b f=>?_,w7⟩;obtain⟨o,e,d⟩:=v.obj _ _ A b f;exact(P.pin (b,o) (zK _ (zK _ (d6 f e)))).2.1
   refine aE (hg _ _ _ _ _ _ s6 q H6 x u _ I6' r6 (step x H6 y6)) fun _ F a=>?_
   obtain⟨j,G,P,q7⟩:=a;refine aE (ht _ _ _ _ _ _ F j G _ P q7) fun ok s8 a=>?_
   obtain⟨H8,I8,V⟩:=a;cases ok with
   |false =>
    simp only[yA,if_false]at V ⊢;obtain⟨m',N,w8⟩:=V;exact l I8 N w8
   |true =>
    simp only[if_true]at V ⊢;refine aE (he _ _ _ _ _ _ s8 j H8 _ I8 V) fun y s9 a=>?_
    obtain⟨Z,H9,I9,r9,ys,e9,l9,m',N,w9⟩:=a;refine aE (rY _ s9 j H9 (.ref s.heap.objs.size) [Z] (.ref s.heap.objs.size) [y] (fun _ H'=>H'=ah H9 s.heap.objs.size (.lst (ys++[Z]))) I9 rfl (.cons r9 .nil) ⟨_,ys,Z,rfl,rfl,e9,l9,rfl⟩) fun _ s10 a=>?_
    obtain⟨_,H10,I10,_,e10⟩:=a;subst e10;exact l I10 N w9
 have st5:tn 0 (ϊ (s2.heap.push { cls:=.type "dict",data:=.dict #[] }) scope.names):=by subst t;exact M
 have ay:=codeAny_compStart_list (w _ rfl) (v.self X.A 0 _ _ (notedBy (model X.prog X.w) X.A (cY X N' scope cl s2 (ah H s.heap.objs.size (.lst [])) fp Pc).env fun x U=>RR (.ref s.heap.objs.size) s2.heap.objs.size (.error x) U) st5 (w _ rfl));subst t;exact ay
end
section
variable{X:Cx}{N':List Ì}{scope:ĝ}{Pc:List (Ç×Obj)}{σ:St}{elt iter tg:Í}{ifs:List Í}{pos:ę}{wi:TI}{g:TG}{tt:TT}{te:TE}
theorem uo(T:kJ X N' scope):∀x∈scope.names,x.2=.local->scope.names.lookup x.1=À .local:=fun x a e=>by
 obtain⟨n,k⟩:=x;cases e;exact dJ T.nd a
theorem J7(G:X.calm=Â)(T:kJ X N' scope)(E:PI X tg iter wi)(F:∀cl s H fp Pc,PG (cY X N' scope cl s H fp Pc) tg g)(y:∀cl s H fp Pc,wH (cY X N' scope cl s H fp Pc) ifs tt)
  (he:∀cl s H fp Pc,PE (cY X N' scope cl s H fp Pc) elt te) (A:∀x,ö iter X.env x=pure x:=by intro _;rfl) :
  PE X (.ListComp elt [⟨tg,iter,ifs,0⟩] scope pos) (Gc (N'.length-X.N.length) wi g tt te):=by
 intro Pc s r H Q I h;obtain⟨cl,d,l,k⟩:=lM (scope:=scope) (env:=X.env) fun x w=>I.ok.has x (T.free x w)
 rw[eval_ListComp];refine J? (use:=Á) rfl A d T.kind (uo T) (yS (E Pc s r H _ I h) (fun V Z N=>yS N (fun u Y M=>?_) fun _ _ e=>e) fun _ _ e=>e);obtain⟨it,fp,W,J,H2,rfl,f,P,i,O,R⟩:=M;refine ut (Q:=Q) (RR:=fun n C=>compPost (model X.prog X.w) X.A X.xe Á (EP X Pc r Q) n C) G T l k F y he f P i O R ?_;rintro p C t U S q ⟨m,D⟩ L a;refine⟨m,D,fun h' j=>⟨.ref p,U,?_,rfl,q⟩⟩;refine S.turned (t':=t.toks) (it:=C) (fun b o K e=>(j.2 b K).trans e) L ?_ (.inr (z5 f.sz a)) (fun x c e=>?_) fun p B=>?_
 ·exact ç (zU (zJ f.lt a))
 ·obtain⟨v,z⟩:=f.cell x c e
  exact zU (zJ z.lt a)
 ·exact zU (zJ (yI (f.pin p B).1) a)
theorem zh{i:Nat}(hN:X.N.Nodup)(E:X.N[i]?=À y)(t:Loc X.env.scope y)(u:Ĺ (.ListComp elt [⟨tg,iter,ifs,0⟩] scope pos) (À (.Name y py)) spos.line X.env=pure Â)
  (hc:X.calm=Â) (T:kJ X N' scope) (Y:PI X tg iter wi) (Z:∀cl s H fp Pc,PG (cY X N' scope cl s H fp Pc) tg g) (P:∀cl s H fp Pc,wH (cY X N' scope cl s H fp Pc) ifs tt)
  (he:∀cl s H fp Pc,PE (cY X N' scope cl s H fp Pc) elt te) (S:∀x,ö iter X.env x=pure x:=by intro _;rfl) (hf:X.fn y=Â\/X.env.scope.names.lookup y=À .local:=by first|exact .inl rfl|exact .inr rfl|assumption) :
  PS X (.Assign [.Name y py] (.ListComp elt [⟨tg,iter,ifs,0⟩] scope pos) spos) (wZ (Gc (N'.length-X.N.length) wi g tt te) (qa i)):=by
 intro Pc s L H D I h;obtain⟨cl,f,G,F⟩:=lM (scope:=scope) (env:=X.env) fun x t=>I.ok.has x (T.free x t)
 rw[exec_Assign_Name_used _ _ _ _ u];refine yE (Ś (yE ?_));show Î _ X.A (do let _ <- comprehension (.ListComp elt [⟨tg,iter,ifs,0⟩] scope pos) scope X.env _ (newList []) Ã (eval iter X.env) (À (assign (.Name y py) X.env))) _ _ s;refine yE (yS (J? (use:=À (assign (.Name y py) X.env)) (Q:=fun _ n=>SP X Pc D .next n) rfl S f T.kind (uo T)
  (yS (Y Pc s L H _ I h) (fun xv s1 h1=>yS h1 (fun O s2 h2=>?_) fun _ _ e=>e) fun _ _ e=>e)) (fun _ n U=>yF (yF U)) fun _ _ e=>e)
 obtain⟨it,fp,tn,J,H2,rfl,l,Tn,r,f2,R⟩:=h2;refine ut (Q:=fun x H1=>qa i x L H1 D.nx) (RR:=fun K C=>compPost (model X.prog X.w) X.A X.xe (À (assign (.Name y py) X.env)) (fun _ n=>SP X Pc D .next n) K C) hc T G F Z P he l Tn r f2 R ?_;rintro p C s3 H3 I3 q ⟨m,W⟩ hC d;have k:C≠X.env.locals:=ç (zU (zJ l.lt d));have j:∀x c,X.env.cells.lookup x=À c->c≠C:=fun x c e=>by
  obtain⟨v,z⟩:=l.cell x c e;exact zU (zJ z.lt d)
 show Î _ X.A (assign (.Name y py) X.env (.ref p)) _ _ _;refine W7 (rR (v:=.ref p) I3 hN E t rfl (fun N I4 A=>?_) hf);obtain⟨a,M,ha⟩:=A;have B:C≠a:=by
  rcases ha with e|e
  ·rw[e];exact k
  ·exact(j _ _ e).symm
 refine⟨m,W.sameBut M B,fun h' w=>⟨_,H3,?_,q⟩⟩;refine I4.turned (t':=N.toks) (it:=C) (fun b o hb e=>(w.2 b hb).trans e) hC k (.inr (z5 l.sz d)) j fun p V=>?_
 exact zU (zJ (yI (l.pin p V).1) d)
end
end L2
namespace DD
open PySem PySem.Spec PyProof.Rows L2
section
variable{X:Cx}{Pc:List (Ç×Obj)}{σ:St}{H:Hp}{s:É}{F:Ç->Prop}
theorem obj_list(I:L2.Inv X Pc σ H s)(h:cb X.K H a vs):∃Ph o n,Vals vs Ph/\s.heap.get? a=À o/\o.cls=.type "list"/\o.data=.seq Ph.toArray n:=by
 obtain⟨Ph,r,⟨o,n,e,c,_,d⟩,_⟩:=I.list h;exact⟨Ph,o,n,r,e,c,d⟩
theorem obj_tup(I:L2.Inv X Pc σ H s)(h:iA X.K H a vs):∃Ph o n,Vals vs Ph/\s.heap.get? a=À o/\o.cls=.type "tuple"/\o.data=.seq Ph.toArray n:=by
 obtain⟨Ph,r,⟨o,e,c,n,d⟩,_⟩:=I.tuple h;exact⟨Ph,o,n,r,e,c,d⟩
end
noncomputable def pyOk(p q:ņ):Bool:=p.canLay0&&q.canLay0&&decide (min p.depth q.depth<=50)
section
variable{X:Cx}
noncomputable def isiA:List String:=["NoneType","bool","int","str","list","tuple"]
noncomputable def isiB:List String:=["int","bool","str","list","tuple"]
def isiT(a b:String):Option Bool:=if(isiA.contains a&&isiB.contains b)=Â then À (a==b||(a=="bool"&&b=="int")) else Á
theorem isiT_kit{K:á}{a b:String}{k:Bool}(h:isiT a b=À k):kitOne K (.type a) (.type b)=À k:=by
 unfold isiT at h;split at h
 ·rename_i c
  rw [zC,G?,G?] at c;obtain ⟨e,d⟩:=c;simp only [isiA,isiB,zT,zX,or_false] at e d;rcases e with rfl | rfl | rfl | rfl | rfl | rfl <;> rcases d with rfl | rfl | rfl | rfl | rfl <;> (cases h;rfl)
 ·cases h
end
end DD
namespace L2
open PySem PySem.Spec PyProof.Rows
def Me(K:á)(a b:Ç):It :=
 ⟨fun i H=>∃d c x y,cb K H a d/\cb K H b c/\d[i]?=À x/\c[i]?=À y,
  fun i H x e=>∃p u w,(∀d,cb K H a d->d[i]?=À u)/\(∀c,cb K H b c->c[i]?=À w)/\H p=Á/\e=ah H p (.tup [u,w])/\x=.ref p,
  fun i H=>∃d c,cb K H a d/\cb K H b c/\(d.length<=i\/c.length<=i)⟩
theorem Inv.turnT{X:Cx}{Pc:List (Ç×Obj)}{σ:St}{H:Hp}{s:É}{h':é}{ch:List Ç}{u w:V}{x y:Å}(I:Inv X Pc σ H s)(g:∀b∈ch,eQ X Pc H b)(l:RelV u x)(j:RelV w y)
  (i:∀c o,c∉ch->s.heap.get? c=À o->h'.get? c=À o) (B:IsPair h' s.heap.objs.size x y) (p:∀b∈ch,∃o,h'.get? b=À o):Inv X Pc σ (ah H s.heap.objs.size (.tup [u,w])) { s with heap:=h' }:=by
 have a:H s.heap.objs.size=Á:=I.fresh;have h:∀b o,H b=À o->b∉ch:=fun b o e f=>by rw[(g b f).1]at e;cases e
 have ne:∀b o,s.heap.get? b=À o->b≠s.heap.objs.size:=fun b o e=>zU (yI e)
 refine I.step (g':=s.gens) (d':=s.drawn) (t':=s.toks) (ch:=ch) (fun b f=>⟨(g b f).2.2.2.1,(g b f).2.1,(g b f).2.2.2.2.1,(g b f).2.2.2.2.2⟩) (fun b o _ _ d e _=>i b o d e)
  (fun b o _ _ d e _=>⟨o.slots,i b o d e⟩) (fun b o _ e n=>by rw[ae (ne b o e)];exact n) (fun b o d e=>⟨o,i b o d e⟩) (fun b k e=>by rw[ae (bu e a)];exact e)
  (fun b o v e=>by rw[ae (bu e a)];exact e) (fun b E e=>⟨#[],by rw[ae (bu e a),e];simp⟩) (fun m A=>?_) (fun b o e=>?_) I.bare
 ·obtain⟨o,C,D,t,r⟩:=A
  exact⟨o,C,D,i _ o (fun z=>(g _ z).2.1 rfl) t,r⟩
 ·by_cases f:b=s.heap.objs.size
  ·subst f
   rw[aD]at e;cases e;refine⟨by show 2<=Ë;decide,[x,y],.cons l (.cons j .nil),⟨_,B,rfl,_,rfl⟩⟩
  ·rw[ae f]at e
   refine(I.Pk b o e).stay (fun c v d q=>i c v ?_ q) (fun c q=>by rw[ae (bu q a)];exact q) fun c k q=>by rw[ae (bu q a)];exact q
   rcases d with rfl|d
   ·exact h _ _ e
   ·exact h _ _ d
theorem Inv.turnN{X:Cx}{Pc:List (Ç×Obj)}{σ:St}{H:Hp}{s:É}{h':é}{ch:List Ç}(I:Inv X Pc σ H s)(d:∀b∈ch,eQ X Pc H b)
  (h:∀c o,c∉ch->s.heap.get? c=À o->h'.get? c=À o):Inv X Pc σ H { s with heap:=h' }:=by
 have g:∀b o,H b=À o->b∉ch:=fun b o e f=>by rw[(d b f).1]at e;cases e
 refine I.step (g':=s.gens) (d':=s.drawn) (t':=s.toks) (ch:=ch) (fun b f=>⟨(d b f).2.2.2.1,(d b f).2.1,(d b f).2.2.2.2.1,(d b f).2.2.2.2.2⟩) (fun b o _ _ a e _=>h b o a e)
  (fun b o _ _ a e _=>⟨o.slots,h b o a e⟩) (fun b o _ e n=>n) (fun b o a e=>⟨o,h b o a e⟩) (fun b i e=>e)
  (fun b o v e=>e) (fun b t e=>⟨#[],by rw[e];simp⟩) (fun m k=>?_) (fun b o e=>?_) I.bare
 ·obtain⟨o,l,p,j,r⟩:=k
  exact⟨o,l,p,h _ o (fun z=>(d _ z).2.1 rfl) j,r⟩
 ·refine(I.Pk b o e).stay (fun c v a q=>h c v ?_ q) (fun c q=>q) fun c i q=>q
  rcases a with rfl|a
  ·exact g _ _ e
  ·exact g _ _ a
theorem dP(I:Inv X Pc σ H s)(h:cb X.K H a xs)(j:eQ X Pc H b)(d:∃o,s.heap.get? b=À o/\o.cls≠.type "list"):a≠b:=by
 rintro rfl;obtain⟨k,r,⟨o,n,e,c,_⟩,_⟩:=I.list h;obtain⟨i,f,g⟩:=d;rw[e]at f;cases f;exact g c
theorem Bf{P:Ò}{w:à}{K:á}{Y:List Í}{x1:Nat}{O:ę}(a b z TI TO g f:Ç)(D1:TI≠z)(D2:TO≠z)(D3:g≠z)(D4:f≠z)(D5:TI≠TO)(D6:TI≠g)(D7:TI≠f)(D8:TO≠g)(D9:TO≠f)(D10:g≠f) :
  lQ P w K (.Tuple Y x1 O) (Me K a b) [z,TI,TO,g,f] z (fun i h=>IsZip h z TI TO .none/\IsPair h TI (.ref g) (.ref f)/\(∃u v,IsPair h TO u v)/\h.IsListIter g a i/\h.IsListIter f b i) where
 mem:=by simp
 obj:=fun i h hq0 c d=>by
  obtain⟨hz,l,⟨u,v,j⟩,⟨o1,B,c1,d1⟩,⟨o2,A,c2,d2⟩⟩:=hq0;simp only[zT,zX,or_false]at d;rcases d with rfl|rfl|rfl|rfl|rfl
  ·exact⟨_,hz,fun v z=>nomatch z⟩
  ·exact⟨_,l,fun v z=>nomatch z⟩
  ·exact⟨_,j,fun v z=>nomatch z⟩
  ·exact⟨_,B,fun v z=>by rw[d1]at z;cases z⟩
  ·exact⟨_,A,fun v z=>by rw[d2]at z;cases z⟩
 keep:=fun i h N ⟨hz,l,⟨u,v,j⟩,F,C⟩ k=>⟨k z (by simp) _ hz,k TI (by simp) _ l,⟨u,v,k TO (by simp) _ j⟩,F.at fun o e=>k g (by simp) o e,C.at fun o e=>k f (by simp) o e⟩
 item:=by
  rintro X hP hw hK d i Z s σ H E I M ⟨hz,l,⟨ua,ub,j⟩,F,C⟩ ⟨xs,ys,x,y,n,m,hx,hy⟩;subst hP hw hK;obtain⟨T,J,p1,_⟩:=I.list n;obtain⟨S,G,p2,_⟩:=I.list m;obtain⟨u1,hu1,ru1⟩:=J.get hx;obtain⟨u2,hu2,ru2⟩:=G.get hy;have R:∀c∈[z,TO,g,f],∃o,s.heap.get? c=À o/\o.cls≠.type "list":=fun c d=>by
   obtain⟨o1,B,c1,d1⟩:=id F;obtain⟨o2,A,c2,d2⟩:=id C;simp only[zT,zX,or_false]at d;rcases d with rfl|rfl|rfl|rfl
   ·exact⟨_,hz,by simp⟩
   ·exact⟨_,j,by simp⟩
   ·exact⟨_,B,by rw[c1];simp⟩
   ·exact⟨_,A,by rw[c2];simp⟩
  have t:∀c∈[z,TO,g,f],a≠c:=fun c d=>dP I n (M c (by simp at d ⊢;rcases d with h|h|h|h<;>simp[h])) (R c d)
  have r:∀c∈[z,TO,g,f],b≠c:=fun c d=>dP I m (M c (by simp at d ⊢;rcases d with h|h|h|h<;>simp[h])) (R c d)
  have D:ZipApart z TI TO g f a b:=⟨D1,D2,D3,D4,D5,D6,D7,D8,D9,D10,t z (by simp),t TO (by simp),t g (by simp),t f (by simp),r z (by simp),r TO (by simp),r g (by simp),r f (by simp)⟩;refine wpAny_pyNext_zip_item D hz l j F C p1.isList p2.isList (x:=u1) (y:=u2) (by simpa using hu1) (by simpa using hu2) fun N a1 a2 a3 a4 a5 a6 hk=>?_
  have p:∀c∈[z,TO,g,f],eQ X Z H c:=fun c d=>M c (by simp at d ⊢;rcases d with h|h|h|h<;>simp[h])
  have U:∀c o,c∉[z,TO,g,f]->s.heap.get? c=À o->N.get? c=À o:=fun c o d e=>hk c o (fun q=>d (by simp[q])) (fun q=>d (by simp[q])) (fun q=>d (by simp[q])) (fun q=>d (by simp[q])) e
  have I1:Inv X Z σ (ah H s.heap.objs.size (.tup [x,y])) { s with heap:=N }:=I.turnT p ru1 ru2 U a5 (fun c d=>by
   obtain⟨o1,B,_⟩:=id a3;obtain⟨o2,A,_⟩:=id a4;simp only[zT,zX,or_false]at d;rcases d with rfl|rfl|rfl|rfl
   ·exact⟨_,a1⟩
   ·exact⟨_,a2⟩
   ·exact⟨_,B⟩
   ·exact⟨_,A⟩)
  have hfr:H s.heap.objs.size=Á:=I.fresh;refine⟨_,rfl,wpAny_letOwnedTupleGo_zip (s:={ s with heap:=N }) a1 fun h'' z1 Q=>?_⟩;have V:∀c∈[z,TI,TO,g,f],(ah H s.heap.objs.size (.tup [x,y])) c=Á:=fun c d=>by
   have lt:c<s.heap.objs.size:=by
    obtain⟨o1,B,_⟩:=id F;obtain⟨o2,A,_⟩:=id C;simp only[zT,zX,or_false]at d;rcases d with rfl|rfl|rfl|rfl|rfl
    ·exact yI hz
    ·exact yI l
    ·exact yI j
    ·exact yI B
    ·exact yI A
   rw[ae (zU lt)];exact(M c d).1
  have I2:Inv X Z σ (ah H s.heap.objs.size (.tup [x,y])) { s with heap:=h'' }:=Inv.turnN (s:={ s with heap:=N }) (ch:=[z]) I1 (fun c d=>by
   have:c=z:=by simpa using d
   subst this;exact⟨V c (by simp),(M c (by simp)).2⟩) (fun c o d e=>(Q.2 c (fun q=>d (by simp[q]))).trans e)
  refine⟨.ref s.heap.objs.size,_,I2,rfl,⟨_,x,y,fun zs L=>by rw[I.list_inj L n];exact hx,fun zs L=>by rw[I.list_inj L m];exact hy,hfr,rfl,rfl⟩,⟨z1,?_,⟨u1,u2,?_⟩,?_,?_⟩,V⟩
  ·exact(Q.2 TI D1).trans (U TI _ (by simp[D1,D5,D6,D7]) l)
  ·exact(Q.2 TO D2).trans a2
  ·exact a3.at fun o e=>(Q.2 g D3).trans e
  ·exact a4.at fun o e=>(Q.2 f D4).trans e
 done:=by
  rintro X hP hw hK d i Z s σ H E I M ⟨hz,l,⟨ua,ub,j⟩,F,C⟩ ⟨xs,ys,n,m,W⟩;subst hP hw hK;obtain⟨T,J,p1,_⟩:=I.list n;obtain⟨S,G,p2,_⟩:=I.list m;have R:∀c∈[z,TO,g,f],∃o,s.heap.get? c=À o/\o.cls≠.type "list":=fun c d=>by
   obtain⟨o1,B,c1,d1⟩:=id F;obtain⟨o2,A,c2,d2⟩:=id C;simp only[zT,zX,or_false]at d;rcases d with rfl|rfl|rfl|rfl
   ·exact⟨_,hz,by simp⟩
   ·exact⟨_,j,by simp⟩
   ·exact⟨_,B,by rw[c1];simp⟩
   ·exact⟨_,A,by rw[c2];simp⟩
  have p:∀c∈[z,TO,g,f],eQ X Z H c:=fun c d=>M c (by simp at d ⊢;rcases d with h|h|h|h<;>simp[h])
  have t:∀c∈[z,TO,g,f],a≠c:=fun c d=>dP I n (p c d) (R c d)
  have r:∀c∈[z,TO,g,f],b≠c:=fun c d=>dP I m (p c d) (R c d)
  have D:ZipApart z TI TO g f a b:=⟨D1,D2,D3,D4,D5,D6,D7,D8,D9,D10,t z (by simp),t TO (by simp),t g (by simp),t f (by simp),r z (by simp),r TO (by simp),r g (by simp),r f (by simp)⟩;have hl1:=J.length;have hl2:=G.length;refine wpAny_pyNext_zip_end (I.ok.hd d) D hz l j F C p1.isList p2.isList (by rcases W with h|h;(left;simp;lia);(right;simp;lia)) fun N hk=>⟨rfl,?_⟩
  exact I.turnN p fun c o d e=>hk c o (fun q=>d (by simp[q])) (fun q=>d (by simp[q])) (fun q=>d (by simp[q])) (fun q=>d (by simp[q])) e
 self:=fun _ _ _ _ _ ⟨hz,_⟩ h=>X5 hz h
def M4(K:á)(h:TA):TI:=fun d H R=>h d H fun g c=>∃a b,g=[.ref a,.ref b]/\(∃f,cb K c a f)/\(∃e,cb K c b e)/\R (Me K a b) c
theorem He{C:Nat}(S:Gl X "zip")(P:X.mg "zip"=Á)(T:PA X [a,b] ta)(O:Ê [a,b] X.env=[(Ã,eval a X.env),(Ã,eval b X.env)]:=by rfl)(f:Ê [b] X.env=[(Ã,eval b X.env)]:=by rfl) :
  PI X (.Tuple elts C tpos) (.Call (.Name "zip" p) [a,b] [] pos) (M4 X.K ta):=by
 intro A s u H R I h;refine Q3 (d7 I S P boot_zip (Ú (aE (T pos A s u H _ I h) fun us d ⟨vs,B,i,r1,G⟩=>?_) (by rw[O,f]) (by rw[f];rfl)));obtain⟨M,L,e,⟨xs,m⟩,⟨ys,l⟩,q⟩:=G;subst e;cases r1 with
 |cons r j =>
  cases j with
  |cons F j =>
   cases j;cases r;cases F;obtain⟨w,E,K,_⟩:=i.list m;obtain⟨v,D,J,_⟩:=i.list l;refine call_zip_2 K.isList J.isList fun y hz t o V U N Q=>?_
   have I2:Inv X A u B { d with heap:=y }:=i.kept (t':=d.toks) Q;refine X5 (s:={ d with heap:=y }) hz ?_;have lt:∀k:Nat,d.heap.objs.size<=d.heap.objs.size+k:=fun k=>ϸ _ _
   refine⟨_,[d.heap.objs.size+4,d.heap.objs.size+2,d.heap.objs.size+3,d.heap.objs.size,d.heap.objs.size+1],_,_,B,rfl,I2,
    Bf M L (d.heap.objs.size+4) (d.heap.objs.size+2) (d.heap.objs.size+3) d.heap.objs.size (d.heap.objs.size+1) ?_ ?_ ?_ ?_ ?_ ?_ ?_ ?_ ?_ ?_,⟨hz,t,⟨_,_,o⟩,V,U⟩,fun c x=>?_,q⟩
   all_goals first
    | (show _ + _ ≠ _ + _;intro z;exact absurd (Nat.add_left_cancel z) dC)
    | (show _ ≠ _ + _;intro z;exact absurd z (by have:=ź (n:=d.heap.objs.size) (k:=4) dC;have:=ź (n:=d.heap.objs.size) (k:=1) dC;exact zU (by assumption)))
    | (show _ + _ ≠ _;exact ı (ź dC))
    |skip
   have g:d.heap.objs.size<=c:=by
    simp only[zT,zX,or_false]at x;rcases x with rfl|rfl|rfl|rfl|rfl
    ·exact lt 4
    ·exact lt 2
    ·exact lt 3
    ·exact zP _
    ·exact lt 1
   obtain⟨f0,f1,f2,Z,Y,W⟩:=i.fpOk g (i.Pk.fresh g);exact⟨f0,f1,f2,Z,Y,W⟩
theorem Ck:CG X (fun o i H Q=>∃p xs k v,o=.ref p/\i=.int k/\cb X.K H p xs/\iu xs k=À v/\Q v H):=by
 rintro D s g H o i E F Q I h l ⟨p,xs,k,v,B,A,m,u,q⟩;subst B A;cases h;obtain⟨t,rfl⟩:=l;obtain⟨C,r,d,hz⟩:=I.list m;obtain⟨j,a,z,J,y,x⟩:=nZ u;obtain⟨w,f,b⟩:=r.get z;have n:=r.length;have G:=iV;have ay:EP X D g Q w s:=⟨v,H,I,b,q⟩;by_cases e:0<=k
 ·have c:k.toNat=j:=by
   rw[k? e x]at a;exact yD a
  exact wpAny_getItem_list d.isList e oM (by rw[c];simpa using f) ay
 ·have c:(k+(C.toArray.size:Int)).toNat=j:=by
   rw[b? oM y]at a;rw[zI,<- n];exact yD a
  exact Q6 d.isList oM (by rw[zI]<;>lia) oM (by rw[c];simpa using f) ay
end L2
namespace DD
open PySem PySem.Spec PyProof.Rows L2
section
variable{X:Cx}{e o a b:Í}{es:List Í}{p q:DP}{c c':DE}{pos apos cpos:ę}{i:Nat}{js:List DP}
theorem cnt_vals{h:é}{q:ņ}{e:Å->Bool}(he:∀v p as,Ż h v p as->e v=ß p q):∀{vs:List Å}{ps:List ņ}{as:List Ç},c? h vs ps as->vs.countP e=ps.countP fun r=>ß r q:=by
 intro vs
 induction vs with
 |nil=>intro ps as h;cases h;rfl
 |cons v vs b =>
  intro ps as h;cases h with
  |cons r a=>rw[S9,S9,b a,he _ _ _ r]
theorem reads_each{h:é}:∀{vs:List Å}{ps:List ņ}{as:List Ç},c? h vs ps as->∀v∈vs,∃p as',p∈ps/\Ż h v p as':=by
 intro vs
 induction vs with
 |nil=>intro ps as h v a;cases a
 |cons v vs c =>
  intro ps as h v a;cases h with
  |cons r b =>
   rcases zT.mp a with rfl|a
   ·exact⟨_,_,z7,r⟩
   ·obtain⟨p,as',d,h⟩:=c b v a
    exact⟨p,as',zQ _ d,h⟩
noncomputable def minL:List Int->Option Int
 |[]=>Á
 |x::xs=>À (xs.foldl (fun a b=>if b<a then b else a) x)
theorem minF:∀(xs:List Int)(x:Int),(xs.foldl (fun a b=>if b<a then b else a) x∈x::xs)/\∀a∈x::xs,xs.foldl (fun a b=>if b<a then b else a) x<=a
 |[],x=>⟨by simp,by simp⟩
 |y::xs,x=>by
  obtain⟨h1,h2⟩:=minF xs (if y<x then y else x);rw[Ġ];constructor
  ·rcases zT.mp h1 with h|h
   ·rw[h];split<;>simp
   ·simp[h]
  ·intro a c
   have d:=h2 (if y<x then y else x) (by simp);have f:(if y<x then y else x)<=x:=by split<;>lia
   have e:(if y<x then y else x)<=y:=by split<;>lia
   rcases zT.mp c with rfl|c
   ·exact ň d f
   ·rcases zT.mp c with rfl|c
    ·exact ň d e
    ·exact h2 a (by simp[c])
theorem minL_eq{m M:Int}(h:minL ns=À m)(b:M∈ns)(d:∀a∈ns,M<=a):M=m:=by
 cases ns with
 |nil=>cases b
 |cons x c =>
  cases h;obtain⟨g1,e⟩:=minF c x;have a1:=e M b;have a2:=d _ g1;lia
end
section
variable{X:Cx}{e o a b:Í}{es:List Í}{p q:DP}{c c':DE}{pos apos cpos:ę}{i:Nat}{js:List DP}
theorem any_vals{h:é}{q:ņ}{e:Å->Bool}(he:∀v p as,Ż h v p as->e v=ß p q):∀{vs:List Å}{ps:List ņ}{as:List Ç},c? h vs ps as->vs.any e=ps.any fun r=>ß r q
 |_,_,_,.nil=>rfl
 |_,_,_,.cons r rs=>by rw[Ů,Ů,any_vals he rs,he _ _ _ r]
end
end DD
namespace L2
open PySem PySem.Spec PyProof.Rows
def A5(K:á)(a:Ç)(n0:Nat):It :=
 ⟨fun i H=>∃b x,cb K H a b/\b[i]?=À x,
  fun i H x c=>∃p u,(∀b,cb K H a b->b[i]?=À u)/\H p=Á/\c=ah H p (.tup [.int ((n0+i:Nat):Int),u])/\x=.ref p,
  fun i H=>∃b,cb K H a b/\b.length=i⟩
theorem sG(j:A.handled=Á)(it l:Ç)(c:l≠it)(items:Array Å)(n0:Nat) :
  Draws prog w A it [it,l] (n0+items.size) (fun i v=>n0<=i/\items[i-n0]?=À v) (fun i h=>n0<=i/\h.IsListIter it l (i-n0)/\h.IsList l items) where
 live:=fun _ _ q=>by obtain⟨o,g,_⟩:=q.2.1;exact⟨o,g⟩
 frame:=fun _ _ _ q f=>⟨q.1,q.2.1.at fun o e=>f it (by simp) o e,q.2.2.at fun o e=>f l (by simp) o e⟩
 item:=fun i s Q E p q k=>by
  have d:i-n0<items.size:=by have:=q.1;lia
  refine wpAny_nextOf_list_item q.2.1 q.2.2 (x:=items[i-n0]) (by simp[d]) fun n b a=>?_
  refine k _ n s.toks ⟨q.1,by simp[d]⟩ ⟨Nat.le_succ_of_le q.1,?_,q.2.2.extBut a.extBut c⟩ a;rw[show i+1-n0=i-n0+1 by have:=q.1;lia];exact b
 done:=fun s Q E q m=>wpAny_nextOf_list_end j q.2.1 q.2.2 (by simp) m
theorem yj{P:Ò}{w:à}{K:á}{y:List Í}{x1:Nat}{n:ę}(a z it:Ç)(n0:Nat)(D:z≠it) :
  lQ P w K (.Tuple y x1 n) (A5 K a n0) [z,it] z (fun i h=>(∃old,IsEnum h z it ((n0+i:Nat):Int) old)/\h.IsListIter it a i) where
 mem:=by simp
 obj:=fun i h S c b=>by
  obtain⟨⟨old,hz⟩,⟨F,d,J,d1⟩⟩:=S;simp only[zT,zX,or_false]at b;rcases b with rfl|rfl
  ·exact⟨_,hz,fun v z=>nomatch z⟩
  ·exact⟨_,d,fun v z=>by rw[d1]at z;cases z⟩
 keep:=fun i h l ⟨⟨old,hz⟩,g⟩ k=>⟨⟨old,k z (by simp) _ hz⟩,g.at fun o e=>k it (by simp) o e⟩
 item:=by
  rintro X Z R hK b i B s C H E I f ⟨⟨old,hz⟩,g⟩ ⟨xs,x,j,hx⟩;subst Z R hK;obtain⟨L,M,N,_⟩:=I.list j;obtain⟨u,hu,ru⟩:=M.get hx;have na:a≠z:=dP I j (f z (by simp)) ⟨_,hz,by simp⟩;have O:a≠it:=dP I j (f it (by simp)) (by obtain⟨F,d,J,d1⟩:=id g;exact⟨_,d,by rw[J];simp⟩);have V:i<L.length:=(zB.mp hu).1;refine wpAny_pyNext_enum_itemD (sG (A:=X.A.in1) (I.ok.hd b) it a O L.toArray n0) hz ⟨ϸ _ _,by rw[Ł];exact g,N.isList⟩ (by simp[V]) D (by simp[D,na.symm]) fun v l m hv ho p hT hsz U=>?_
  have ev:v=u:=by
   have G:=hv.2;rw[Ł]at G;simp only[List.getElem?_toArray]at G;rw[hu]at G;exact(yD G).symm
  subst ev;have Y:∀c∈[z,it],eQ X B H c:=fun c b=>f c b
  have T:∀c o,c∉[z,it]->s.heap.get? c=À o->l.get? c=À o:=fun c o b e=>U c o (fun q=>b (by simp[q])) (fun q=>b (by simp[q])) e
  have I0:Inv X B C (ah H s.heap.objs.size (.tup [.int ((n0+i:Nat):Int),x])) { s with heap:=l }:=I.turnT Y (u:=.int ((n0+i:Nat):Int)) ⟨m,rfl⟩ ru T hT (fun c b=>by
   obtain⟨F,d,_⟩:=id p.2.1;simp only[zT,zX,or_false]at b;rcases b with rfl|rfl
   ·exact⟨_,ho⟩
   ·exact⟨_,d⟩)
  have I1:Inv X B C (ah H s.heap.objs.size (.tup [.int ((n0+i:Nat):Int),x])) { s with heap:=l,toks:=m+1 }:=I0.kept (t':=m+1) (fun _ _ e=>e);have W:H s.heap.objs.size=Á:=I.fresh;refine⟨_,rfl,wpAny_letOwnedTupleGo_enum (s:={ s with heap:=l,toks:=m+1 }) ho fun h'' z1 sb=>?_⟩;have r:∀c∈[z,it],(ah H s.heap.objs.size (.tup [.int ((n0+i:Nat):Int),x])) c=Á:=fun c b=>by
   have lt:c<s.heap.objs.size:=by
    obtain⟨F,d,_⟩:=id g;simp only[zT,zX,or_false]at b;rcases b with rfl|rfl
    ·exact yI hz
    ·exact yI d
   rw[ae (zU lt)];exact(f c b).1
  have I2:Inv X B C (ah H s.heap.objs.size (.tup [.int ((n0+i:Nat):Int),x])) { s with heap:=h'',toks:=m+1 }:=Inv.turnN (s:={ s with heap:=l,toks:=m+1 }) (ch:=[z]) I1 (fun c b=>by
   have:c=z:=by simpa using b
   subst this;exact⟨r c (by simp),(f c (by simp)).2⟩) (fun c o b e=>(sb.2 c (fun q=>b (by simp[q]))).trans e)
  refine⟨.ref s.heap.objs.size,_,I2,rfl,⟨_,x,fun zs Q=>by rw[I.list_inj Q j];exact hx,W,rfl,rfl⟩,⟨⟨_,by rw[show((n0+(i+1):Nat):Int)=((n0+i:Nat):Int)+1 by lia];exact z1⟩,?_⟩,r⟩;have h3:=p.2.1;rw[show n0+i+1-n0=i+1 by lia]at h3;exact h3.at fun o e=>(sb.2 it D.symm).trans e
 done:=by
  rintro X Z R hK b i B s C H E I f ⟨⟨old,hz⟩,g⟩ ⟨xs,j,t⟩;subst Z R hK;obtain⟨L,M,N,_⟩:=I.list j;have O:a≠it:=dP I j (f it (by simp)) (by obtain⟨F,d,J,d1⟩:=id g;exact⟨_,d,by rw[J];simp⟩);have hl:=M.length;refine wpAny_pyNext_enum_endD (sG (A:=X.A.in1) (I.ok.hd b) it a O L.toArray n0) hz ⟨ϸ _ _,?_,N.isList⟩ fun l U=>⟨rfl,?_⟩
  ·rw[Ł,zI,<- hl,t];exact g
  ·exact I.turnN (ch:=[z,it]) (fun c b=>f c b) fun c o b e=>U c o (fun q=>b (by simp[q])) e
 self:=fun _ _ _ _ _ ⟨⟨_,hz⟩,_⟩ h=>a? hz h
theorem sI:Õ "enumerate"=À (.type "enumerate"):=by decide +kernel
def Kz(K:á)(n0:Nat)(f:TA):TI:=fun c H R=>f c H fun e b=>∃a,e=[.ref a]/\(∃d,cb K b a d)/\R (A5 K a n0) b
theorem u6{X:Cx}{Pc:List (Ç×Obj)}{σ:St}{f:Hp}{s1:É}{h':é}{t':Nat}{l:Ç}{n0:Nat}{e:List Í}{i:Nat}{a:ę}{R:It->Hp->Prop}(g:Inv X Pc σ f s1)(he:IsEnum h' (s1.heap.objs.size+1) s1.heap.objs.size (n0:Int) .none)(k:h'.IsListIter s1.heap.objs.size l 0)
  (j:∀b o,s1.heap.get? b=À o->h'.get? b=À o) (q:R (A5 X.K l n0) f):Jh X Pc σ (.Tuple e i a) R (.ref (s1.heap.objs.size+1)) { s1 with heap:=h',toks:=t' }:=by
 have u:Inv X Pc σ f { s1 with heap:=h',toks:=t' }:=g.kept (t':=t') j;refine⟨_,[s1.heap.objs.size+1,s1.heap.objs.size],_,_,f,rfl,u,yj l (s1.heap.objs.size+1) s1.heap.objs.size n0 (ı (Ĳ _)),⟨⟨_,by simpa using he⟩,k⟩,fun c h=>?_,q⟩;have d:s1.heap.objs.size<=c:=by
  simp only[zT,zX,or_false]at h;rcases h with rfl|rfl
  ·exact Ϲ _
  ·exact zP _
 obtain⟨t,s,r,p,n,m⟩:=g.fpOk d (g.Pk.fresh d);exact⟨t,s,r,p,n,m⟩
theorem ER{g:Nat}(w:Gl X "enumerate")(t:X.mg "enumerate"=Á)(x:PA X [a] ta)(n:Ê [a] X.env=[(Ã,eval a X.env)]:=by rfl) :
  PI X (.Tuple elts g tpos) (.Call (.Name "enumerate" p) [a] [] pos) (Kz X.K 0 ta):=by
 intro z s f H R I h;refine Q3 (d7 I w t sI (Ú (aE (x pos z s f H _ I h) fun C b ⟨B,F,d,r1,j⟩=>?_) (by rw[n];rfl) (by rfl)));obtain⟨l,e,⟨A,o⟩,q⟩:=j;subst e;cases r1 with
 |cons r i =>
  cases i;cases r;obtain⟨E,D,k,_⟩:=d.list o;refine call_enumerate_list k.isList fun y c v m u=>?_
  refine a? (s:={ b with heap:=y }) c ?_;exact u6 (t':=b.toks) (n0:=0) d c v u q
section
variable{prog:Ò}{w:à}{A:ą}{E:Å->É->Prop}{s:É}
theorem Bm{α:Type}{x:Y? α}{Q b:α->É->Prop}(h:Î M A x Q E s)(c:∀a s,Q a s->b a s):Î M A x b E s:=yS h c fun _ _ x=>x
theorem tL(a v:Å):checkTypeCall "enumerate" ⟨[a],[("start",v)]⟩=pure ():=by kernel_rfl
theorem sR(a v:Å):checkBuiltinCall "enumerate.__new__" ⟨[.type "enumerate",a],[("start",v)]⟩=pure ():=by kernel_rfl
theorem qW(o a v:Å):B! "object.__init__" ⟨[o,a],[("start",v)]⟩:=by
 unfold B!;rw[signature?_of (id:="object.__init__") (n:=['_','_','t','i','n','i','_','_']) (o:=['t','c','e','j','b','o']) (by kernel_rfl) F.owner_object]
 kernel_rfl
theorem xH(hl:typeLookup (.type T) "__init__"=pure (À (.builtin "object.__init__")))(hm:Bind.madeBy (.type T)=pure (À newId))(hne:(À newId !=À "object.__new__")=Â) :
  Meets (u?.«object.__init__» ⟨[self,a],[("start",v)]⟩) (fun _ R s=>s.TypeIs self T/\R (.ok (.ret .none)) s):=Meets.of_wp fun b w A R s c=>by
 obtain⟨e,d⟩:=c
 repeat (any_goals (first | assumption | wp_step))
 exact⟨_,rfl,d⟩
theorem vm(e:args.any (·.1)=Ã)(f:kws.any (·.1.isNone)=Ã)
  (h:Î M A (evalArgs (.type T) Â args kws) (fun a s₁=>Î M A (call (.type T) a.pos a.kw) Q E s₁) E s):Î M A (ų pos (.type T) [] args kws) Q E s:=by
 unfold ų;refine yE (yR (Bm h fun a s₁ b=>yE (Ś ?_)));simp only[e,f,W4];refine yE (yF (yE (Bm b fun r c d=>yE (yR (wpAny_point (yF d))))))
end
section
variable{prog:Ò}{w:à}{A:ą}{E:Å->É->Prop}{s:É}
theorem Dn(f:t≠it):∀(n i:Nat)(s:É)(Q:List Å->É->Prop),s.heap.IsListIter it t i->s.heap.IsList t items->i+n<=items.size ->
  (∀h',h'.IsListIter it t (i+n)->ĭ it s.heap h'->Q ((items.toList.drop i).take n) { s with heap:=h' })->Î (model prog w) A (draw (.ref it) n) Q E s
 |0,i,s,Q,hit,_,_,hQ=>yF (by simpa using hQ s.heap hit (k! ..))
 |n+1,i,s,Q,hit,ht,hle,hQ=>by
  have hlt:i<items.size:=by lia
  refine yE (m:=x? (.ref it)) (Q5 hit ht (x:=items[i]) (by simp[hlt]) fun g c a=>?_);refine yE (yR (Dn f n (i+1) _ _ c (ht.extBut a.extBut f) oM fun e b d=>yF ?_));have q:=hQ e (by rw[show i+(n+1)=i+1+n by lia];exact b) (a.trans d);rw[show items.toList.drop i=items[i]::items.toList.drop (i+1) by simp[ù,hlt],List.take_succ_cons]at q;exact q
theorem DR(p:A.handled=Á)(i:s.heap.IsList t items)(n:targets.length=items.size)(d:targets.findIdx? (·.1)=Á)
  (h:∀h',Y6 s.heap.objs.size s.heap h'->Î (model prog w) A (ϰ (targets.map (·.2)) items.toList) Q E { s with heap:=h' }):Î (model prog w) A (unpack (.ref t) targets) Q E s:=by
 have j:t≠s.heap.objs.size:=by obtain⟨o,m,_⟩:=i;exact zU (yI m)
 unfold unpack;rw[n,d];refine yE (yR ?_);unfold unpackItems;refine yE ?_;unfold notIterableAtAll;refine yE (Y8 i.typeIs slot_list_iter.lookup (yF ?_));simp only[yA,if_false];refine yE (yR (ī i (yE (yR (Dn j items.size 0 _ _ ⟨_,zY _ rfl,rfl,rfl⟩ (i.push _) oM fun k c a=>?_)))));rw[show List.take items.size (List.drop 0 items.toList)=items.toList by rw[Ņ];exact Ń (by simp),yG (by simp)];refine yE (yR (S4 p c ((i.push _).extBut a.extBut j) (by simp) fun g f=>?_));simp only[Option.isSome_none,yA,if_false];exact yF (h g fun b o l e=>f b o l (a.extBut b o l (zG _ e)))
end
section
variable{X:Cx}{pos:ę}
noncomputable def KI(K:á)(n:Nat)(t:vw):TG:=fun v c H Q=>∃a b,v=.ref a/\cb K H a b/\b.length=n/\t b c H Q
theorem EU{k:Nat}{n:Nat}(x:X.calm=Â)(h:sO X es t)(q:(â es X.env).length=n:=by rfl)(d:(â es X.env).findIdx? (·.1)=Á:=by rfl):PG X (.Tuple es k pos) (KI X.K n t):=by
 intro i s f H v u Q I r c;obtain⟨a,j,z,p,w,c⟩:=c;subst z;cases r;obtain⟨B,g,l,hz⟩:=I.list p;rw[arm_assign_Tuple];refine yE (Ś (DR (I.ok.hd x) l.isList (by simp[q,<- w,g.length]) d fun y m=>?_));have A:Inv X i f H { s with heap:=y }:=I.kept (t':=s.toks) fun b o e=>m b o (zU (yI e)) e
 exact h i _ f H j _ Q A (by simpa using g) c
theorem ly:∀(l:List Å)(k:Nat),(∀(j:Nat)(v:Å),l[j]?=À v->∃t,v=.int ((k+j:Nat):Int) t)->Vals ((ĥ k l.length).map fun(q:Nat)=>V.int (q:Int)) l
 |[],_,_=>.nil
 |u::l,k,h=>by
  rw[yX,List.range'_succ,zO];refine .cons ?_ (ly l (k+1) fun j v e=>?_)
  ·obtain⟨t,e⟩:=h 0 u rfl
   exact⟨t,e⟩
  ·obtain⟨t,a⟩:=h (j+1) v (by simpa using e)
   exact⟨t,by rw[a,show k+(j+1)=k+1+j by lia]⟩
theorem lN:Õ "list"=À (.type "list"):=by decide +kernel
def Gb(d:TE):TE:=fun b H Q=>CT d wW b H fun c a=>∃j:Nat,c=[.int (j:Int)]/\j<=1000/\∀p,a p=Á->Q (.ref p) (ah a p (.lst ((ĥ 0 j).map fun(q:Nat)=>V.int (q:Int))))
theorem BR(D:X.calm=Â)(p:Gl X "list")(l:X.mg "list"=Á)(m:Gl X "range")(k:X.mg "range"=Á)(E:PE X a ta)
  (y:Ê [a] X.env=[(Ã,eval a X.env)]:=by rfl) (g:Ê [.Call (.Name "range" p2) [a] [] pos2] X.env=[(Ã,eval (.Call (.Name "range" p2) [a] [] pos2) X.env)]:=by rfl) :
  PE X (.Call (.Name "list" p1) [.Call (.Name "range" p2) [a] [] pos2] [] pos) (Gb ta):=by
 intro z s u H Q I h;refine Q3 (d7 I p l lN (Ú ?_ (by rw[g];rfl) (by rfl)));rw[g];refine Calls.spliced_cons (Q3 (d7 I m k A! (Ú (aE ((nB E tY y) pos2 z s u H _ I h) fun N f ⟨M,L,K,r1,w⟩=>?_) (by rw[y];rfl) (by rfl))));cases r1 with
 |nil=>obtain⟨j,e,_⟩:=w;cases e
 |cons r B =>
  obtain⟨j,e,P,q⟩:=w;cases e;cases B;obtain⟨t,rfl⟩:=r;refine call_range_1 (Calls.spliced_nil ?_);have A:Inv X z u L { f with heap:=f.heap.push { cls:=.type "range",data:=.fields #[.int 0 f.toks,.int (j:Int) t,.int 1 (f.toks+1)] },toks:=f.toks+1+1 }:=K.kept fun b o e=>zG _ e
  refine Z? (n:=j) (I.ok.hd D) (IsRange.new ..) (X6 oM oM oM oM) (by rw[K?];split<;>lia) oM fun R O c J C F d=>?_
  have x:=ly c.toList 0 (fun i v e=>by
   obtain⟨t,G⟩:=d.2 i v (by simpa using e);exact⟨t,by rw[G];congr 1;lia⟩)
  rw[show c.toList.length=j by simpa using d.1]at x;exact⟨.ref _,_,A.laid (o:=.lst ((ĥ 0 j).map fun(q:Nat)=>V.int (q:Int))) C (zP _) ⟨yY (rV (by simp;lia)),c.toList,J,x,F⟩,rfl,q _ A.fresh⟩
end
end L2
namespace PySem.AutoSeq1
theorem xK(l:Ç)(items:Array Å)(n:Nat)(b:Ç)(items2:Array Å)(n2:Nat)(sl:Array (Option Å))(hc0:¬(!items.isEmpty&&ô (items.size+items2.size))=Â)(hc1:items.size<=Ë)(hs2:items.size+items2.size<=Ë+1) :
  Meets (u?.«list.extend» ⟨[.ref l,.ref b],[]⟩) (fun _ R s=>s.heap.get? l=À { cls:=.type "list",dict:=Á,data:=.seq items n,slots:=#[] }/\s.heap.get? b=À { cls:=.type "list",dict:=Á,data:=.seq items2 n2,slots:=sl }/\R (.ok (.ret š)) { s with heap:=s.heap.update l (ğ fun x=>x++items2),toks:=s.toks }) :=
 .of_wp fun c w A R s h=>by
  obtain⟨k,g,d,i,j⟩:=s;obtain⟨e,f,h⟩:=h;have r:=idx_int;have q:=Y9;have p:=sub_list_list;have o:=sub_tuple_list;have m:=sub_list_tuple;have a:(items++items2).size<=Ë+1:=by rw[Q4];exact hs2
  wp_walk using (ϕ e rfl (hz:=hc1) (_hz':=a)),ϖ e,ϖ f;exact⟨_,rfl,h⟩
end PySem.AutoSeq1
namespace L2
open PySem PySem.Spec PyProof.Rows
section
variable{X:Cx}
def JG(K:á):V->List V->Hp->VK->Prop:=fun x d H Q=>∃l b c a,x=.ref l/\d=[.ref b]/\H l=À (.lst c)/\cb K H b a/\c.length+a.length<=Ë/\Q .non (ah H l (.lst (c++a)))
theorem Fa:Jk X "list.extend" (JG X.K):=by
 intro P s E H x K v L Q I rx p h;obtain⟨l,b,J,G,rfl,rfl,j,hB,hz,q⟩:=h;cases rx;obtain⟨u,rfl,t⟩:=p.one;cases t;obtain⟨z,d,n,r,O,e⟩:=I.lstM j;obtain⟨a,r2,w,B⟩:=I.list hB;obtain⟨o,A,D,m,k,i⟩:=w;obtain⟨N,M,y,f⟩:=o;dsimp only at m k i;subst m;subst k;subst i;have C:=r2.length;have g:d.toArray.size+a.toArray.size<=Ë:=by rw[zI,zI];lia
 have c:¬(!d.toArray.isEmpty&&ô (d.toArray.size+a.toArray.size))=Â:=by
  rw[notLongL g,Bool.and_false];exact Ĝ
 refine Ų F.slot_list_extend ⟨_,e,rfl⟩ F.entry_list_extend (F.args_list_extend_2 _ _)
  (PySem.AutoSeq1.xK l d.toArray n b a.toArray A f c (by rw[zI];lia) oM) ⟨e,D,?_⟩
 refine⟨.non,_,I.lset (its':=d++a) j e (by simp) (r.append r2) ?_,rfl,q⟩;rw[zV];lia
end
end L2
namespace PySem.AutoSeq1
theorem FK(l:Ç)(items:Array Å)(n:Nat)(sl1:Array (Option Å))(b:Ç)(items2:Array Å)(n2:Nat)(sl:Array (Option Å))(hs2:items.size+items2.size<=Ë) :
  Meets (u?.«list.__add__» ⟨[.ref l,.ref b],[]⟩) (fun _ R s=>s.heap.get? l=À { cls:=.type "list",dict:=Á,data:=.seq items n,slots:=sl1 }/\s.heap.get? b=À { cls:=.type "list",dict:=Á,data:=.seq items2 n2,slots:=sl }/\R (.ok (.ret (ã s.heap.objs.size))) { s with heap:=s.heap.push { cls:=.type "list",data:=.seq (items++items2) },toks:=s.toks }) :=
 .of_wp fun c w A R s h=>by
  obtain⟨m,g,d,j,k⟩:=s;obtain⟨f,i,h⟩:=h;have t:=idx_int;have r:=Y9;have q:=sub_list_list;have p:=sub_tuple_list;have o:=sub_list_tuple;have e:(items++items2).size<=Ë+1:=by rw[Q4];lia
  have a:ô (items.size+items2.size)=Ã:=L2.notLongL hs2
  wp_walk using ϖ f,ϖ i
  all_goals first|exact⟨_,rfl,h⟩|skip
end PySem.AutoSeq1
namespace L2
open PySem PySem.Spec PyProof.Rows
section
variable{X:Cx}
def JH(K:á):R2:=fun x y H Q=>∃l b c a,x=.ref l/\y=.ref b/\cb K H l c/\cb K H b a/\c.length+a.length<=Ë/\∀p,H p=Á->Q (.ref p) (ah H p (.lst (c++a)))
theorem E3:mY X (ϋ .Add) (JH X.K):=by
 intro U s L H x y v u Q I rx t h;obtain⟨l,b,N,M,rfl,rfl,J,hB,hz,q⟩:=h;cases rx;cases t;obtain⟨c,r,⟨B,D,g,p,n,j⟩,_⟩:=I.list J;obtain⟨a,r2,⟨A,C,k,o,m,i⟩,_⟩:=I.list hB;obtain⟨S,R,z,e⟩:=B;obtain⟨P,O,w,d⟩:=A;dsimp only at p n j o m i;subst p;subst n;subst j;subst o;subst m;subst i;have G:=r.length;have E:=r2.length;have f:c.toArray.size+a.toArray.size<=Ë:=by rw[zI,zI];lia
 refine wpAny_binaryOp_concat (T:="list") (id:="list.__add__") ⟨_,g,rfl⟩ ⟨_,k,rfl⟩ noFill_list_add (by rfl) ?_;refine Ų F.slot_list_add ⟨_,g,rfl⟩ F.entry_list_add (F.args_list_add_2 _ _) (PySem.AutoSeq1.FK l c.toArray D e b a.toArray C d f) ⟨g,k,?_⟩;have K:c.toArray++a.toArray=(c++a).toArray:=by simp
 rw[K];exact⟨.ref _,_,I.lnew (t':=s.toks) (r.append r2) (by rw[zV];lia),rfl,q _ I.fresh⟩
end
section
variable{κ:Type}[DecidableEq κ]
noncomputable def fR(Pd:List (κ×V))(k:κ):Option V:=(Pd.find? fun a=>decide (a.1=k)).map (·.2)
noncomputable def fV(Pd:List (κ×V))(k:κ)(v:V):List (κ×V) :=
 if(Pd.any fun a=>decide (a.1=k))=Â then Pd.map (fun a=>if a.1=k then(a.1,v) else a) else Pd++[(k,v)]
theorem oS{p:κ×V}{r:List (κ×V)}{k:κ}(e:p.1=k):fR (p::r) k=À p.2:=by simp[fR,ĉ,e]
theorem oT{p:κ×V}{r:List (κ×V)}{k:κ}(e:¬p.1=k):fR (p::r) k=fR r k:=by simp[fR,ĉ,e]
theorem tK(k:κ):∀Pd:List (κ×V),(Pd.any fun kv=>decide (kv.1=k))=(fR Pd k).isSome
 |[]=>rfl
 |p::r=>by
  rw[Ů];by_cases e:p.1=k
  ·simp only[oS e,yV e,Bool.true_or,H?]
  ·rw[oT e,z9 e,Bool.false_or];exact tK k r
theorem om(Pd:List (κ×V))(k:κ)(v:V):(fV Pd k v).length<=Pd.length+1:=by
 unfold fV;split
 ·rw[zH];lia
 ·rw[zV,yX,U'];lia
theorem RelO.isSome_eq{o:Option V}{u:Option Å}(r:RelO o u):o.isSome=u.isSome:=by
 cases o with
 |none=>cases u with
  |none=>rfl
  | some _=>exact (show False from r).elim
 |some _=>cases u with
  | none=>exact (show False from r).elim
  |some _=>rfl
theorem KV.val{Pd:List (κ×V)}{vs:List (κ×Value)}(r:KV Pd vs)(k:κ):RelO (fR Pd k) (b! vs k):=by
 unfold KV at r
 induction r with
 |nil=>exact True.intro
 |@cons p q i a h t f =>
  obtain⟨d,g⟩:=h;by_cases e:p.1=k
  ·have c:q.1=k:=d.symm.trans e
   have b:b! (q::a) k=À q.2:=by simp[b!,ĉ,c]
   rw[oS e,b];exact g
  ·have c:¬q.1=k:=fun z=>e (d.trans z)
   have b:b! (q::a) k=b! a k:=by simp[b!,ĉ,c]
   rw[oT e,b];exact f
theorem KV.any{Pd:List (κ×V)}{vs:List (κ×Value)}(r:KV Pd vs)(k:κ):(Pd.any fun kv=>decide (kv.1=k))=vs.any fun kv=>decide (kv.1=k):=by
 unfold KV at r
 induction r with
 |nil=>rfl
 |cons h t a=>rw[Ů,Ů,a,h.1]
theorem KV.repl{Pd:List (κ×V)}{vs:List (κ×Value)}(r:KV Pd vs)(k:κ){y:V}{u:Å}(b:RelV y u) :
  KV (Pd.map fun kv=>if kv.1=k then(kv.1,y) else kv) (vs.map fun kv=>if kv.1=k then(kv.1,u) else kv):=by
 unfold KV at r ⊢
 induction r with
 |nil=>exact .nil
 |@cons p q g f h t c =>
  rw[zO,zO];refine .cons ?_ c;obtain⟨a,d⟩:=h;by_cases e:p.1=k
  ·rw[yH e,yH (a.symm.trans e)];exact⟨a,b⟩
  ·rw[yG e,yG (fun z=>e (a.trans z))];exact⟨a,d⟩
theorem KV.put{Pd:List (κ×V)}{vs:List (κ×Value)}(r:KV Pd vs)(k:κ){y:V}{u:Å}(a:RelV y u):KV (fV Pd k y) (stored vs k u):=by
 unfold fV stored;rw[r.any k];by_cases e:(vs.any fun b=>decide (b.1=k))=Â
 ·rw[yH e,yH e];exact r.repl k a
 ·rw[yG e,yG e];exact Paired.snoc r ⟨rfl,a⟩
theorem KV.length{Pd:List (κ×V)}{vs:List (κ×Value)}(r:KV Pd vs):Pd.length=vs.length:=Paired.length r
end
theorem pX{P:Ò}{w:à}{k:ba}{u:Å}(r:RelV (kV k) u):(cQ P w).is k u=Â:=by
 cases k with
 | inl i=>obtain ⟨t,e⟩:=(show ∃ t,u=ϫ i t from r);subst e;exact vD P w i t
 | inr x=>obtain ⟨t,e⟩:=(show ∃ t,u=Ϫ x t from r);subst e;exact vC P w x t
theorem sA{P:Ò}{w:à}:∀{ks:List ba}{us:List Å},Vals (ks.map kV) us->ItemsAre (cQ P w) ks us
 |[],_,r=>by rw[ń]at r;cases r;exact .nil
 |k::ks,_,r=>by
  rw[zO]at r;cases r with
  |cons h t=>exact .cons (pX h) (sA t)
abbrev KT(H:Hp):List (List ba×V)->List (List ba×Addr×Value)->Prop:=R? fun p q=>p.1=q.1/\H q.2.1=À (.tup (p.1.map kV))/\RelV p.2 q.2.2
theorem KT.val{H:Hp}{Pd:List (List ba×V)}{xs:List (List ba×Addr×Value)}(r:KT H Pd xs)(k:List ba):RelO (fR Pd k) ((A' xs k).map (·.2)):=by
 induction r with
 |nil=>exact True.intro
 |@cons p q i a h t f =>
  obtain⟨d,_,g⟩:=h;by_cases e:p.1=k
  ·have c:q.1=k:=d.symm.trans e
   have b:A' (q::a) k=À q.2:=by simp[A',ĉ,c]
   rw[oS e,b];exact g
  ·have c:¬q.1=k:=fun z=>e (d.trans z)
   have b:A' (q::a) k=A' a k:=by simp[A',ĉ,c]
   rw[oT e,b];exact f
theorem KT.repl{H:Hp}{Pd:List (List ba×V)}{xs:List (List ba×Addr×Value)}(r:KT H Pd xs)(k:List ba){y:V}{u:Å}(c:RelV y u) :
  KT H (Pd.map fun kv=>if kv.1=k then(kv.1,y) else kv) (xs.map (putAt k u)):=by
 induction r with
 |nil=>exact .nil
 |@cons p q i g h t d =>
  rw[zO,zO];refine .cons ?_ d;obtain⟨a,b,f⟩:=h;unfold putAt;by_cases e:p.1=k
  ·rw[yH e,yH (a.symm.trans e)];exact⟨a,b,c⟩
  ·rw[yG e,yG (fun z=>e (a.trans z))];exact⟨a,b,f⟩
theorem KT.put{H:Hp}{Pd:List (List ba×V)}{xs:List (List ba×Addr×Value)}(r:KT H Pd xs)(k:List ba){b:Ç}{y:V}{u:Å}(d:H b=À (.tup (k.map kV)))(a:RelV y u) :
  KT H (fV Pd k y) (storedH xs k b u):=by
 have e:(Pd.any fun c=>decide (c.1=k))=(A' xs k).isSome:=by
  rw[tK,(r.val k).isSome_eq,Ŀ]
 unfold fV storedH;rw[e];by_cases q:(A' xs k).isSome=Â
 ·rw[yH q,yH q];exact r.repl k a
 ·rw[yG q,yG q];exact Paired.snoc r ⟨rfl,d,a⟩
theorem KT.keeps{H a:Hp}{Pd:List (List ba×V)}{xs:List (List ba×Addr×Value)}(r:KT H Pd xs)(c:∀b ys,H b=À (.tup ys)->a b=À (.tup ys)):KT a Pd xs :=
 Paired.mapP r fun _ _ z=>⟨z.1,c _ _ z.2.1,z.2.2⟩
section
variable{P:Ò}{w:à}{H:Hp}{h:é}{a:Ç}
theorem CY{u:HO}(ok:HOk P w H h)(e:Rd H a u):ObjOk P w H h a u:=e.ok ok
theorem qk{Pd:List (ba×V)}(ok:HOk P w H h)(e:Rd H a (.dK Pd)):Pd.length<=Ë/\(a==Ė)=Ã/\∃vs,KV Pd vs/\h.DictOf (cQ P w) a vs :=
 show ObjOk P w H h a (.dK Pd) from CY ok e
theorem Do{Pd:List (ba×V)}(ok:HOk P w H h)(e:H a=À (.dK Pd)):Pd.length<=Ë/\(a==Ė)=Ã/\∃vs,KV Pd vs/\h.DictOf (cQ P w) a vs:=qk ok (.inl e)
theorem mD{ks:List ba}(ok:HOk P w H h)(e:H a=À (.tup (ks.map kV))):(ſ (cQ P w)).is h ks a:=by
 obtain ⟨_,f,r,o,d,c,n,b⟩:=(show ObjOk P w H h a (.tup (ks.map kV)) from ok a _ e);exact ⟨o,f.toArray,n,d,c,b,by simpa using sA r⟩
theorem qj{Pd:List (List ba×V)}(ok:HOk P w H h)(e:Rd H a (.dT Pd)):Pd.length<=Ë/\(a==Ė)=Ã /\
  ∃xs,KT H Pd xs/\h.DictOfH (ſ (cQ P w)) a xs:=by
 obtain ⟨z,y,xs,r,o,n,s,k,j,i,g,f⟩:=(show ObjOk P w H h a (.dT Pd) from CY ok e);refine ⟨z,y,xs,r,o,n,s,k,j,i,g,fun x b=>?_,f⟩;have all:∀ {l:List (List ba × V)}{m:List (List ba × Ç × Å)},KT H l m->∀ x ∈ m,(ſ (cQ P w)).is h x.1 x.2.1:=by
  intro l m q
  induction q with
  |nil=>intro x b;exact nomatch b
  |@cons p q v u c t d =>
   intro x b;rcases zT.mp b with e|b
   ·subst e
    exact mD ok (by rw[<- c.1];exact c.2.1)
   ·exact d x b
 exact all r x b
theorem Dm{Pd:List (List ba×V)}(ok:HOk P w H h)(e:H a=À (.dT Pd)):Pd.length<=Ë/\(a==Ė)=Ã /\
  ∃xs,KT H Pd xs/\h.DictOfH (ſ (cQ P w)) a xs:=qj ok (.inl e)
end
def DGet(H:Hp)(a:Ç)(y:V)(r:Option V):Prop :=
 (∃c k,Rd H a (.dK c)/\y=kV k/\r=fR c k)\/∃c k b,Rd H a (.dT c)/\y=.ref b/\H b=À (.tup (k.map kV))/\r=fR c k
def DPut(H:Hp)(a:Ç)(y v:V)(d:Hp):Prop :=
 (∃c k,H a=À (.dK c)/\y=kV k/\c.length<Ë/\d=ah H a (.dK (fV c k v))) \/
 ∃c k b,H a=À (.dT c)/\y=.ref b/\H b=À (.tup (k.map kV))/\c.length<Ë/\d=ah H a (.dT (fV c k v))
theorem DGet.k{H:Hp}{a:Ç}{Pd:List (ba×V)}{k:ba}(e:H a=À (.dK Pd)):DGet H a (kV k) (fR Pd k):=.inl ⟨Pd,k,.inl e,rfl,rfl⟩
theorem DGet.t{H:Hp}{a b:Ç}{Pd:List (List ba×V)}{k:List ba}(e:H a=À (.dT Pd))(c:H b=À (.tup (k.map kV))):DGet H a (.ref b) (fR Pd k):=.inr ⟨Pd,k,b,.inl e,rfl,c,rfl⟩
theorem DPut.k{H:Hp}{a:Ç}{Pd:List (ba×V)}{k:ba}{v:V}(e:H a=À (.dK Pd))(b:Pd.length<Ë):DPut H a (kV k) v (ah H a (.dK (fV Pd k v))):=.inl ⟨Pd,k,e,rfl,b,rfl⟩
theorem DPut.t{H:Hp}{a b:Ç}{Pd:List (List ba×V)}{k:List ba}{v:V}(e:H a=À (.dT Pd))(d:H b=À (.tup (k.map kV)))(c:Pd.length<Ë) :
  DPut H a (.ref b) v (ah H a (.dT (fV Pd k v))):=.inr ⟨Pd,k,b,e,rfl,d,c,rfl⟩
section
variable{X:Cx}{Pc:List (Ç×Obj)}{σ:St}{H:Hp}{s:É}{a:Ç}{y v:V}{u r:Å}{o:Option V}{A:ą}{E:Å->É->Prop}
theorem Inv.big(I:Inv X Pc σ H s):Ė<s.heap.objs.size:=by
 have h:Ï<s.heap.objs.size:=(I.mod.glob.keeps I.bk).lt;exact E? dC h
theorem AG{Q:Å->É->Prop}(t:A.units+1<Š)(I:Inv X Pc σ H s)(g:DGet H a y (À v))(n:RelV y u)(h:∀w' s',Inv X Pc σ H s'->RelV v w'->Q w' s') :
  Î (model X.prog X.w) A (Q9 (.ref a) u) Q E s:=by
 rcases g with⟨B,k,e,j,l⟩|⟨B,k,b,e,j,x,l⟩
 ·subst j
  obtain⟨z,hd,r,d,m⟩:=qk I.Pk e;obtain⟨w',f,c⟩:=RelO.some_of (v:=v) (o:=b! r k) (by rw[l];exact d.val k);exact wpAny_getItem_of (pX n) m.mapOf f (h w' _ (I.tok _) c)
 ·subst j
  cases (show u=ã b from n);obtain ⟨z,hd,q,d,m⟩:=qj I.Pk e;obtain ⟨w',f,c⟩:=RelO.some_of (v:=v) (o:=(A' q k).map (·.2)) (by rw [l];exact d.val k);obtain ⟨p,w,i⟩:=zE.mp f;refine wpAny_getItem_heap (ű t) (mD I.Pk x) m w ?_;rw [i];exact h w' _ (I.tok _) c
theorem Na{Q:Å->É->Prop}(j:A.units+1<Š)(I:Inv X Pc σ H s)(g:DGet H a y o)(i:RelV y u)(h:∀s',Inv X Pc σ H s'->Q (.bool o.isSome) s') :
  Î (model X.prog X.w) A (đ .In u (.ref a)) Q E s:=by
 rcases g with⟨n,k,e,d,l⟩|⟨n,k,b,e,d,m,l⟩
 ·subst d
  obtain⟨z,hd,r,c,f⟩:=qk I.Pk e;refine wpAny_in_of (pX i) hd f.mapOf ?_;rw[<- (c.val k).isSome_eq,<- l];exact h _ (I.tok _)
 ·subst d
  cases (show u=ã b from i);obtain ⟨z,hd,p,c,f⟩:=qj I.Pk e;refine wpAny_in_heap (ű j) (mD I.Pk m) hd f ?_;have q:=(c.val k).isSome_eq;rw [Ŀ] at q;rw [<- q,<- l];exact h _ (I.tok _)
theorem FA{Q:Å->É->Prop}(j:A.units+1<Š)(I:Inv X Pc σ H s)(g:DGet H a y o)(i:RelV y u)(h:∀s',Inv X Pc σ H s'->Q (.bool (!o.isSome)) s') :
  Î (model X.prog X.w) A (đ .NotIn u (.ref a)) Q E s:=by
 rcases g with⟨n,k,e,d,l⟩|⟨n,k,b,e,d,m,l⟩
 ·subst d
  obtain⟨z,hd,r,c,f⟩:=qk I.Pk e;refine wpAny_notIn_of (pX i) hd f.mapOf ?_;rw[<- (c.val k).isSome_eq,<- l];exact h _ (I.tok _)
 ·subst d
  cases (show u=ã b from i);obtain ⟨z,hd,p,c,f⟩:=qj I.Pk e;refine wpAny_notIn_heap (ű j) (mD I.Pk m) hd f ?_;have q:=(c.val k).isSome_eq;rw [Ŀ] at q;rw [<- q,<- l];exact h _ (I.tok _)
theorem wB{h':é}{t':Nat}{c:HO}(I:Inv X Pc σ H s)(d:A1 (H a))(f:ĭ a s.heap h')(he:∃q,h'.get? a=À q)(new:ObjOk X.prog X.w (ah H a c) h' a c) :
  Inv X Pc σ (ah H a c) { s with heap:=h',toks:=t' } :=
 I.write (x:=a) (e:=a) d (.inl rfl) (fun b q g z=>(f.2 b g).trans z) he new
theorem IS{P:Ò}{w:à}{d:Hp}{h':é}{Pd:List (ba×V)}{vs:List (ba×Value)}(z:Pd.length<=Ë)(hd:(a==Ė)=Ã)(b:KV Pd vs)(c:h'.DictOf (cQ P w) a vs) :
  ObjOk P w d h' a (.dK Pd):=⟨z,hd,vs,b,c⟩
theorem sH{F:Hp}{Q:Unit->É->Prop}(K:A.units+1<Š)(I:Inv X Pc σ H s)(g:DPut H a y v F)(w:RelV y u)(x:RelV v r)(h:∀s',Inv X Pc σ F s'->Q () s') :
  Î (model X.prog X.w) A (Ϥ (.ref a) u r) Q E s:=by
 rcases g with⟨i,k,e,o,l,p⟩|⟨i,k,b,e,o,D,l,p⟩
 ·subst o p
  obtain⟨z,hd,J,d,t⟩:=Do I.Pk e;have hz:J.length<=Ë:=by rw[<- d.length];exact z
  have n:(fV i k v).length<=Ë:=by have:=om i k v;lia
  refine wpAny_setItem_pairs (hsz:=hz) (pX w) t fun B f m=>h _ ?_
  have L:∃q,B.get? a=À q:=let⟨q,_,_,j,_⟩:=f;⟨q,j⟩;exact wB I (by rw[e];exact True.intro) m L (IS n hd (d.put k x) f)
 ·subst o p
  cases (show u=ã b from w);obtain ⟨z,hd,G,d,t⟩:=Dm I.Pk e;have hz:G.length <= Ë:=by rw [<- Paired.length d];exact z
  have n:(fV i k v).length<=Ë:=by have:=om i k v;lia
  refine wpAny_setItem_heap (hsz:=hz) (ű K) (mD I.Pk D) t fun B f m=>h _ ?_
  obtain⟨q,R,S,j,P,O,N,_,M⟩:=f;refine wB I (by rw[e];exact True.intro) m ⟨q,j⟩ ⟨n,hd,_,(d.put k D x).keeps fun c T C=>?_,q,R,S,j,P,O,N,M⟩;rw[ae (xk C e (fun z=>nomatch z))];exact C
end
theorem vF{X:Cx}{Pc:List (Ç×Obj)}{σ:St}{H:Hp}{s:É}{a:Ç}{y:V}{o:Option V}(I:Inv X Pc σ H s)(g:DGet H a y o):s.TypeIs (.ref a) "dict":=by
 rcases g with⟨d,k,e,_,_⟩|⟨d,k,b,e,_,_,_⟩
 ·obtain⟨_,_,h,_,c⟩:=qk I.Pk e
  exact c.typeIs
 ·obtain⟨_,_,f,_,c⟩:=qj I.Pk e
  exact c.typeIs
theorem Cq{P:Ò}{w:à}{H:Hp}(h:é)(a:Ė<h.objs.size):ObjOk P w H (h.push { cls:=.type "dict",data:=.dict #[] }) h.objs.size (.dK []) :=
 ⟨ŀ _,beq_eq_false_iff_ne.mpr (ç (zU a)),[],.nil,Heap.DictOf.new h⟩
def yw:TE:=fun _ H Q=>∀p,H p=Á->Q (.ref p) (ah H p (.dK []))
section
variable{X:Cx}{pos:ę}
theorem BT:PE X (.Dict [] [] pos) yw:=fun c s b H Q I h =>
 wpAny_Dict_empty ⟨.ref s.heap.objs.size,_,I.laid (a:=s.heap.objs.size) (o:=.dK []) (t':=s.toks) (fun _ _ q=>zG _ q) (zP _) (Cq s.heap I.big),rfl,h _ (I.Pk.fresh (zP _))⟩
end
open PySem.Calls
section
variable{prog:Ò}{w:à}{A:ą}{E:Å->É->Prop}{s:É}
theorem xo(d:Ç)(hd:(d==Ė)=Ã) :
  MeetsIn prog w (u?.«dict.__len__» ⟨[.ref d],[]⟩) (fun _ R s=>∃xs:List (List ba×Addr×Value),s.heap.DictOfH (ſ (cQ prog w)) d xs/\R (.ok (.ret (.int xs.length s.toks))) { s with toks:=s.toks+1 }) :=
 .of_wp fun A R s b=>by
  obtain⟨i,e,h⟩:=b;obtain⟨o,g,m,c,l,a,f,j,k⟩:=e;show Î _ _ (dictSize d>>=_) _ _ s;unfold dictSize;refine yE (yE (wpAny_dictEntries c a (yF ?_)));show Î _ _ (Z5 d>>=_) _ _ s;refine yE (wpAny_pendingCount_other hd ?_);refine wpAny_ret_mkInt ?_;have:g.size=i.length:=size_of_entries f;simpa [this] using h
theorem xQ(hd:(d==Ė)=Ã)(hm:s.heap.DictOfH (ſ (cQ prog w)) d xs)(hfit:(xs.length:Int)<2^63)
  (h:Q (.int xs.length (s.toks+1)) { s with toks:=s.toks+1+1 }):Î (model prog w) A (call (.builtin "len") [.ref d]) Q E s:=by
 refine Calls.call_function_entry kind_len plain_len entry_len (args_len1 _) ?_;unfold u?.«len»;refine yE (m:=oneArg "len" _) (yF ?_);refine yE (m:=callSpecial? (.ref d) (Ā "__len__")) (wpAny_callSpecial?_slot (name:=Ā "__len__") hm.typeIs m?
  (call_meetsIn m? hm.typeIs PySem.F.entry_dict_len (PySem.F.args_dict_len_1 _) (xo d hd) ⟨xs,hm,?_⟩))
 show Î _ _ _ _ _ { s with toks:=s.toks+1 };refine yE (yR (yF ?_));refine yE (Ϝ ?_);show Î _ _ (if((xs.length:Nat):Int)<0 then _ else _) _ _ _;rw[yG oM];show Î _ _ (if((xs.length:Nat):Int) ≥ 2^63 then _ else _) _ _ _;rw[yG oM];exact yE (wpAny_mkInt (yF ⟨_,rfl,h⟩))
end
section
variable{X:Cx}
theorem AO:di X (.builtin "len") (fun xs H Q=>∃a Pd,xs=[V.ref a]/\H a=À (.dT Pd)/\Q (.int Pd.length) H):=by
 intro j s g H xs i Q I r h;obtain⟨a,Pd,rfl,e,q⟩:=h;obtain⟨u,rfl,d⟩:=fK r;cases d;obtain⟨z,hd,xs,b,f⟩:=Dm I.Pk e;have c:=Paired.length b;refine xQ hd f (by rw[<- c];rw[ϝ]at z;lia) ?_;rw[<- c];exact⟨.int Pd.length,H,I.tok _,⟨_,rfl⟩,q⟩
end
end L2
namespace DD
open PySem PySem.Spec PyProof.Rows L2
section
variable{K:á}{F F':Ç->Prop}{H H':Hp}{A:List Ç}
open Classical in
variable{σD:DSt}{σ:L2.St}{R:Ro}{d:D}{v:V}
end
end DD
namespace L2
open PySem PySem.Spec PyProof.Rows
noncomputable def DJ(x:Ì):It:=⟨fun i _=>∃c,x.cps[i]?=À c,fun i H v a=>a=H/\∃c,x.cps[i]?=À c/\v=.str ⟨#[c]⟩,fun i _=>x.cps[i]?=Á⟩
theorem Bg{P:Ò}{w:à}{K:á}{L:Í}(x:Ì)(t:Tok)(it:Ç):lQ P w K L (DJ x) [it] it (fun i h=>h.IsStrIter it "str_ascii_iterator" x t i) where
 mem:=by simp
 obj:=fun i h a b f=>by
  have e:b=it:=by simpa using f
  subst e;obtain⟨o,e,c,d⟩:=a;exact⟨o,e,fun v z=>by rw[d]at z;cases z⟩
 keep:=fun i h l a k=>by
  obtain⟨o,e,r⟩:=a;exact⟨o,k it (by simp) o e,r⟩
 item:=by
  intro X p m q G i J s D H E I j a n;subst p m q;obtain⟨c,F⟩:=n;obtain⟨C,B,N,A,y,u⟩:=j it (by simp);refine wpAny_pyNext_ascii_item a F fun l g M=>?_
  have Q:Inv X J D H { s with heap:=l,toks:=s.toks+1 }:=I.turned (fun b o f e=>(M.2 b f).trans e) C B A y u;obtain⟨o,e,cl,d⟩:=id g;exact⟨_,rfl,p9 (s:={ s with heap:=l,toks:=s.toks+1 }) e cl d dC ⟨.str ⟨#[c]⟩,H,Q,⟨_,rfl⟩,⟨rfl,c,F,rfl⟩,g,fun b f=>(j b f).1⟩⟩
 done:=by
  intro X p m q G i J s D H E I j a n;subst p m q;obtain⟨C,B,N,A,y,u⟩:=j it (by simp);exact wpAny_pyNext_ascii_end (I.ok.hd G) a n fun l O=>⟨rfl,I.turned (t':=s.toks) (fun b o f e=>O b o f e) C B A y u⟩
 self:=fun _ _ _ _ _ a h=>wpAny_pyIter_striter_ascii a h
section
variable{X:Cx}{pos:ę}
def D0(d:TA):TE:=fun b H Q=>d b H fun c a=>∃i j:Nat,c=[.int (i:Int),.int (j:Int)]/\i<=j/\j<=1000/\∀p,a p=Á->Q (.ref p) (ah a p (.lst ((ĥ i (j-i)).map fun(q:Nat)=>V.int (q:Int))))
theorem zr(T:X.calm=Â)(D:Gl X "list")(B:X.mg "list"=Á)(C:Gl X "range")(A:X.mg "range"=Á)(U:PA X [a,b] ta)
  (P:Ê [a,b] X.env=[(Ã,eval a X.env),(Ã,eval b X.env)]:=by rfl) (g:Ê [b] X.env=[(Ã,eval b X.env)]:=by rfl) (l:Ê [.Call (.Name "range" p2) [a,b] [] pos2] X.env=[(Ã,eval (.Call (.Name "range" p2) [a,b] [] pos2) X.env)]:=by rfl) :
  PE X (.Call (.Name "list" p1) [.Call (.Name "range" p2) [a,b] [] pos2] [] pos) (D0 ta):=by
 intro G s E H Q I h;refine Q3 (d7 I D B lN (Ú ?_ (by rw[l];rfl) (by rfl)));rw[l];refine Calls.spliced_cons (Q3 (d7 I C A A! (Ú (aE (U pos2 G s E H _ I h) fun L m z=>?_) (by rw[P,g]) (by rw[g];rfl))));obtain⟨vs,H1,I1,r1,i,j,e,S,hj,q⟩:=z;subst e;obtain⟨u1,p,rfl,x,r2⟩:∃u c,L=u::c/\RelV (.int (i:Int)) u/\Vals [.int (j:Int)] c:=by cases r1 with|cons r y=>exact⟨_,_,rfl,r,y⟩
 obtain⟨u2,K,rfl,w,O⟩:∃u c,p=u::c/\RelV (.int (j:Int)) u/\Vals [] c:=by cases r2 with|cons r y=>exact⟨_,_,rfl,r,y⟩
 cases O;obtain⟨N,rfl⟩:=x;obtain⟨M,rfl⟩:=w;refine call_range_2 (Calls.spliced_nil ?_);have J:Inv X G E H1 { m with heap:=m.heap.push { cls:=.type "range",data:=.fields #[.int (i:Int) N,.int (j:Int) M,.int 1 m.toks] },toks:=m.toks+1 }:=I1.kept fun b o e=>zG _ e
 refine Z? (n:=j-i) (I.ok.hd T) (IsRange.new ..) (X6 oM oM oM oM) (by rw[K?];split<;>lia) oM fun h' tk d Z R W f=>?_
 have F:=ly d.toList i (fun k v e=>by
  obtain⟨t,Y⟩:=f.2 k v (by simpa using e);exact⟨t,by rw[Y];congr 1;lia⟩)
 rw[show d.toList.length=j-i by simpa using f.1]at F;exact⟨.ref _,_,J.laid (o:=.lst ((ĥ i (j-i)).map fun(q:Nat)=>V.int (q:Int))) R (zP _) ⟨yY (rV (by simp;lia)),d.toList,Z,F,W⟩,rfl,q _ J.fresh⟩
end
def DM(X:Cx)(Pc:List (Ç×Obj))(b:Ç):Prop:=b≠X.env.locals/\b∉X.fs/\(b∈X.ex\/X.s₀.heap.objs.size<=b)/\(∀x c,X.env.cells.lookup x=À c->c≠b)/\∀p∈X.pn++Pc,p.1≠b
section
variable{X:Cx}{Pc:List (Ç×Obj)}{σ:St}{key:Å}{kw:List (Ì×Value)}{l I S:Ç}{ns:List Int}{R:Result->É->Prop}
theorem BZ(hh:X.A.handled=Á)(kf:Nat->Int)(J:Nat->Hp->Prop)(hl:∀i H,J i H->cb X.K H l (ns.map V.int))
  (turn:∀(i:Nat)(n:Int)(u:Å)(pl:List (Ç×Obj))(s:É)(H:Hp),ns[i]?=À n->RelV (V.int n) u->J i H->Inv X (Pc++pl) σ H s->(key=.none/\kf i=n/\J (i+1) H) \/
   ∃q,key=.ref q/\Î (model X.prog X.w) X.A.in1 (call (.ref q) [u]) (EP X (Pc++pl) σ (fun y H'=>y=.int (kf i)/\J (i+1) H')) (fun _ _=>False) s)
  (hR:∀(i:Nat)(n:Int)(u:Å)(H:Hp)(s:É),ns[i]?=À n->(∀j,j<ns.length->kf i<=kf j/\(j<i->kf i<kf j))->J ns.length H->Inv X Pc σ H s->RelV (V.int n) u->R (.ok (.ret u)) s)
  (K:DM X Pc I) (G:DM X Pc S) (hIS:I≠S) :
  ∀(r j i:Nat)(H:Hp)(s:É)(vb:Å)(tb:Tok)(c:Nat),ns.length-(j+1)=r->j+1<=ns.length->Inv X Pc σ H s->H I=Á->H S=Á ->
   s.heap.get? S=À (ż "list" #[vb,.int (kf i) tb] c)->s.heap.IsListIter I l (j+1)->(∃n,ns[i]?=À n/\RelV (V.int n) vb)->i<=j->J (j+1) H->(∀j',j'<=j->kf i<=kf j'/\(j'<i->kf i<kf j')) ->
   ŏ (model X.prog X.w) X.A (.builtin "min.loop" ⟨[.ref I,key,.ref S],kw⟩) R s:=by
 have hname:(toString "min"++toString ".loop":String)="min.loop":=by decide
 intro r
 induction r with
 |zero =>
  intro j i H s vb tb c hr hj Iv nI nS gS it U hij hJ hb;have hin:j+1=ns.length:=by lia
  obtain⟨p,rv,pl,_⟩:=Iv.list (hl _ _ hJ);have Q:p.length=ns.length:=by rw[<- rv.length,zH]
  have hL:s.heap.IsList l p.toArray:=pl.isList;have Z:l≠I:=fun e=>by
   obtain⟨o,E,L,_⟩:=hL;obtain⟨o',e3,e4,_⟩:=it;rw[e,e3]at E;cases E;rw[e4]at L;simp at L
  have W:=Walks.list (prog:=X.prog) (w:=X.w) (A:=X.A.in1) hh I l Z p.toArray;have Y:p.toArray.size=p.length:=zI ..;refine Ϙ Ŵ ?_;rw[Around.under_plainId þ _];show Î _ X.A.in1 (X7 (.ref S)>>=_) _ _ _;refine yE (w! gS rfl ?_);show Î _ X.A.in1 (tryCatch (x? (.ref I)) _>>=_) _ _ _;refine yE (ĵ (W.done _ _ _ ⟨by rw[Y,Q,<- hin];exact it,hL⟩ fun T B D=>?_));have V1:Inv X Pc σ H { s with heap:=T,toks:=B }:=Iv.turned (fun b o a e=>D b o (by simpa using a) e) nI K.1 K.2.2.1 K.2.2.2.1 K.2.2.2.2;have F:=D S _ (by simpa using hIS.symm) gS;show Î _ X.A.in1 (P? S (fun _=>#[])>>=_) _ _ _;refine yE ?_;refine ϕ F rfl (yE (Ϝ (yF ?_)));obtain⟨n,E,L⟩:=U;have s1:=Ź T S (ğ fun _=>(#[]:Array Å));exact hR i n vb H _ E (fun j' hj'=>hb j' oM) (hin▸hJ) (V1.turned (t':=B) (fun b o a e=>(s1.2 b a).trans e) nS G.1 G.2.2.1 G.2.2.2.1 G.2.2.2.2) L
 |succ r ih =>
  intro j i H s vb tb c hr hj Iv nI nS gS it U hij hJ hb;have hlt:j+1<ns.length:=by lia
  obtain⟨p,rv,pl,_⟩:=Iv.list (hl _ _ hJ);have Q:p.length=ns.length:=by rw[<- rv.length,zH]
  have hL:s.heap.IsList l p.toArray:=pl.isList;have Z:l≠I:=fun e=>by
   obtain⟨o,E,L,_⟩:=hL;obtain⟨o',e3,e4,_⟩:=it;rw[e,e3]at E;cases E;rw[e4]at L;simp at L
  have W:=Walks.list (prog:=X.prog) (w:=X.w) (A:=X.A.in1) hh I l Z p.toArray;have Y:p.toArray.size=p.length:=zI ..;refine Ϙ Ŵ ?_;rw[Around.under_plainId þ _];show Î _ X.A.in1 (X7 (.ref S)>>=_) _ _ _;refine yE (w! gS rfl ?_);show Î _ X.A.in1 (tryCatch (x? (.ref I)) _>>=_) _ _ _;refine yE (ĵ (W.item (j+1) _ _ _ (by rw[Y];lia) ⟨it,hL⟩ fun u T B hP hst' D=>?_));have hu:p[j+1]?=À u:=by simpa using hP
  obtain⟨n,hn⟩:∃n,ns[j+1]?=À n:=⟨_,zF hlt⟩;have ru:RelV (V.int n) u:=by
   obtain⟨u',E,L⟩:=rv.get (i:=j+1) (x:=V.int n) (by rw[zR,hn];rfl);rw[hu]at E;cases E;exact L
  have V1:Inv X Pc σ H { s with heap:=T,toks:=B }:=Iv.turned (fun b o a e=>D b o (by simpa using a) e) nI K.1 K.2.2.1 K.2.2.2.1 K.2.2.2.2;have F:=D S _ (by simpa using hIS.symm) gS;have hf:∀b∈[I,S],eQ X Pc H b:=fun b a=>by
   rcases zT.mp a with rfl|a
   ·exact⟨nI,K⟩
   ·rw[zM.mp a];exact⟨nS,G⟩
  obtain⟨oI,goI,coI,doI⟩:=hst'.1;have ho:∀b∈[I,S],∃o,T.get? b=À o/\∀v:Option Å,o.data≠.cell v:=fun b a=>by
   rcases zT.mp a with rfl|a
   ·exact⟨_,goI,fun v z=>by rw[doI]at z;cases z⟩
   ·rw[zM.mp a];exact⟨_,F,fun v z=>nomatch z⟩
  have V2:Inv X (Pc++g8 [I,S] T) σ H { s with heap:=T,toks:=B }:=V1.pinned hf ho
  have O:∀(f:Tok)(H2:Hp)(N:É),Inv X (Pc++g8 [I,S] T) σ H2 N->J (j+1+1) H2->∀(Rf:R!->É->Prop)(Ef:Å->É->Prop),
    (∀C m g k t3 c3,Inv X Pc σ m C->m I=Á->m S=Á->C.heap.get? S=À (ż "list" #[g,.int (kf k) t3] c3)->C.heap.IsListIter I l (j+1+1)->(∃n,ns[k]?=À n/\RelV (V.int n) g)->k<=j+1->J (j+1+1) m->(∀j',j'<=j+1->kf k<=kf j'/\(j'<k->kf k<kf j')) ->
     Rf (.again (.builtin "min.loop" ⟨[.ref I,key,.ref S],kw⟩)) C) ->
    Î (model X.prog X.w) X.A.in1 ((do
     let M <- tryCatch (holding [u,.int (kf (j+1)) f] do
      let d <- richCompare .Lt (.int (kf (j+1)) f) (.int (kf i) tb)
      let yes <- holding [d] (truthy d)
      letGo [d]
      pure yes) fun e=>do
       P? S fun _=>#[]
       letGo ([.int (kf (j+1)) f,u]++[vb,.int (kf i) tb].reverse) [e]
       throw e
     if M=Â then do
      P? S fun _=>#[u,.int (kf (j+1)) f]
      letGo [.int (kf i) tb,vb]
      again (.builtin "min.loop" ⟨[.ref I,key,.ref S],kw⟩)
     else do
      letGo [u,.int (kf (j+1)) f]
      again (.builtin "min.loop" ⟨[.ref I,key,.ref S],kw⟩)):Y? R!) Rf Ef N:=by
   intro f H2 N V3 J3 Rf Ef ay;have pI:=V3.pin (I,oI) (zK _ (zK _ (d6 (by simp) goI)));have pS:=V3.pin (S,ż "list" #[vb,.int (kf i) tb] c) (zK _ (zK _ (d6 (by simp) F)));have V4:Inv X Pc σ H2 N:=V3.unpinned;refine yE (ĵ (yR (yE (CmpOf.ints_lt (prog:=X.prog) (w:=X.w) (A:=X.A.in1) (P:=fun i v=>∃t,v=.int (kf i) t) kf (fun i v h=>h) (j+1) i _ _ _ _ _ ⟨f,rfl⟩ ⟨tb,rfl⟩ ?_))));refine yE (yR (Ī ?_));refine yE (Ϝ (yF ?_));have it2:N.heap.IsListIter I l (j+1+1):=⟨oI,pI.1,coI,doI⟩;by_cases a:kf (j+1)<kf i
   ·simp only[a,decide_true,if_true]
    have s1:=Ź N.heap S (ğ fun _=>#[u,.int (kf (j+1)) f]);obtain⟨c2,hc2⟩:∃c2,(N.heap.update S (ğ fun _=>#[u,.int (kf (j+1)) f])).get? S=À (ż "list" #[u,.int (kf (j+1)) f] c2):=⟨_,Z! pS.1 fun _=>#[u,.int (kf (j+1)) f]⟩;refine yE ?_;refine ϕ pS.1 rfl (yE (Ϝ (yF ?_)));obtain⟨sh,sg,sd,stk,sos⟩:=N;refine ay _ H2 u (j+1) f c2 (V4.turned (t':=stk) (fun b o hb'' e=>(s1.2 b hb'').trans e) pS.2.1 G.1 G.2.2.1 G.2.2.2.1 G.2.2.2.2) pI.2.1 pS.2.1 hc2 ⟨oI,(s1.2 I hIS).trans pI.1,coI,doI⟩ ⟨n,hn,ru⟩ (zP _) J3 fun j' hj'=>?_
    by_cases e:j'=j+1
    ·subst e
     exact⟨by lia,fun _=>by lia⟩
    ·have hb1:=hb j' oM
     have hb2:=hb1.1;exact⟨by lia,fun _=>by lia⟩
   ·simp only[a,decide_false,yA,if_false]
    refine yE (Ϝ (yF ?_));refine ay _ H2 vb i tb c V4 pI.2.1 pS.2.1 pS.1 it2 U oM J3 fun j' hj'=>?_
    by_cases e:j'=j+1
    ·subst e
     exact⟨by lia,fun _=>by lia⟩
    ·exact hb j' oM
  have ay:∀C m g k t3 c3,Inv X Pc σ m C->m I=Á->m S=Á->C.heap.get? S=À (ż "list" #[g,.int (kf k) t3] c3)->C.heap.IsListIter I l (j+1+1)->(∃n,ns[k]?=À n/\RelV (V.int n) g)->k<=j+1->J (j+1+1) m->(∀j',j'<=j+1->kf k<=kf j'/\(j'<k->kf k<kf j')) ->
    ((Code.builtin "min.loop" ⟨[.ref I,key,.ref S],kw⟩).quiet=Â/\ŏ (model X.prog X.w) X.A (.builtin "min.loop" ⟨[.ref I,key,.ref S],kw⟩) R C):=fun C m g k t3 c3 a1 a2 a3 a4 a5 a6 a7 a8 a9 =>
   ⟨L! þ _,ih (j+1) k m C g t3 c3 oM hlt a1 a2 a3 a4 a5 a6 a7 a8 a9⟩
  rcases turn (j+1) n u _ _ H hn ru hJ V2 with⟨hk0,hkf,J2⟩|⟨q,hkq,call0⟩
  ·subst hk0
   obtain⟨f,rfl⟩:=ru;refine yE (yF ?_)
   have:=O f H _ V2 J2
   rw[hkf]at this;exact this _ _ ay
  ·subst hkq
   refine yE (ĵ (yR (yS call0 (fun x s'' he=>?_) fun _ _ hF=>hF.elim)));obtain⟨y,m,V3,ry,rfl,J3⟩:=he;obtain⟨f,rfl⟩:=ry;exact O f m s'' V3 J3 _ _ ay
end
section
variable{X:Cx}{Pc:List (Ç×Obj)}{σ:St}{ko:Option Å}{kws:List (Ì×Value)}{l:Ç}{ns:List Int}{H:Hp}{s:É}{Q:VK}{E:Å->É->Prop}
theorem ug(hh:X.A.handled=Á)(kf:Nat->Int)(J:Nat->Hp->Prop)(hl:∀i H,J i H->cb X.K H l (ns.map V.int))
  (hb:ό "min" ["key","default"] 0 ⟨[],kws⟩=pure [ko,À .none]) (ha:B! "min" ⟨[.ref l],kws⟩)
  (turn:∀(i:Nat)(n:Int)(u:Å)(pl:List (Ç×Obj))(s:É)(H:Hp),ns[i]?=À n->RelV (V.int n) u->J i H->Inv X (Pc++pl) σ H s->(ko.getD .none=.none/\kf i=n/\J (i+1) H) \/
   ∃q,ko.getD .none=.ref q/\Î (model X.prog X.w) X.A.in1 (call (.ref q) [u]) (EP X (Pc++pl) σ (fun y H'=>y=.int (kf i)/\J (i+1) H')) (fun _ _=>False) s)
  (hQ:∀(i:Nat)(n:Int)(H:Hp),ns[i]?=À n->(∀j,j<ns.length->kf i<=kf j/\(j<i->kf i<kf j))->J ns.length H->Q (.int n) H) (hE:ns=[]->Q .non H)
  (Iv:Inv X Pc σ H s) (J0:J 0 H):Î (model X.prog X.w) X.A (call (.builtin "min") [.ref l] kws) (EP X Pc σ Q) E s:=by
 have C:(toString "min"++toString ".loop":String)="min.loop":=by decide
 obtain⟨G,rv,pl,_⟩:=Iv.list (hl _ _ J0);have U:G.length=ns.length:=by rw[<- rv.length,zH]
 have hL:s.heap.IsList l G.toArray:=pl.isList;obtain⟨ol,B,_⟩:=id hL;have hll:l<s.heap.objs.size:=yI B;refine kmk_tree PySem.F.kind_min PySem.F.plain_min PySem.F.entry_min ha ?_;show Î _ X.A.in1 (ό "min" ["key","default"] 0 ⟨[],kws⟩>>=_) _ _ s;refine yE (wpAny_of_eq hb ?_);refine yE (yF ?_);refine yE (ī hL ?_);refine yE (wpAny_newList ?_ (ŀ _));rw[C];have hS:(s.heap.push { cls:=.type "list_iterator",data:=.fields #[.ref l,.int 0 0] }).objs.size=s.heap.objs.size+1:=size_push' ..;have hlI:l≠s.heap.objs.size:=zU hll;refine yF ⟨L! þ _,?_⟩;generalize hI:s.heap.objs.size=I at *;generalize hSS:(s.heap.push { cls:=.type "list_iterator",data:=.fields #[.ref l,.int 0 0] }).objs.size=S at *;have nI:H I=Á:=by rw[<- hI];exact Iv.fresh
 have nS:H S=Á:=Iv.Pk.fresh (by rw[hS,hI];lia);have D:I≠S:=by rw[hS];lia
 have gI:((s.heap.push { cls:=.type "list_iterator",data:=.fields #[.ref l,.int 0 0] }).push (ż "list" #[] 0)).get? I=À { cls:=.type "list_iterator",data:=.fields #[.ref l,.int 0 0] }:=by
  rw[<- hI];exact zG _ (zY _ rfl)
 have gS:((s.heap.push { cls:=.type "list_iterator",data:=.fields #[.ref l,.int 0 0] }).push (ż "list" #[] 0)).get? S=À (ż "list" #[] 0):=by
  rw[<- hSS];exact zY _ rfl
 have kp:∀b o,s.heap.get? b=À o->((s.heap.push { cls:=.type "list_iterator",data:=.fields #[.ref l,.int 0 0] }).push (ż "list" #[] 0)).get? b=À o:=fun b o e=>zG _ (zG _ e)
 have g:DM X Pc I:=(Iv.fpOk (b:=I) (Ϯ hI) nI).2;have M:DM X Pc S:=(Iv.fpOk (b:=S) (by rw[hS,hI];lia) nS).2;generalize hH1:((s.heap.push { cls:=.type "list_iterator",data:=.fields #[.ref l,.int 0 0] }).push (ż "list" #[] 0))=h1 at gI gS kp;have V1:Inv X Pc σ H { s with heap:=h1,toks:=s.toks }:=Iv.kept kp;have Z:h1.IsList l G.toArray:=⟨ol,kp _ _ B,by obtain⟨o2,N,r2⟩:=hL;rw[B]at N;cases N;exact r2⟩;have O:h1.IsListIter I l 0:=⟨_,gI,rfl,rfl⟩;have W:=Walks.list (prog:=X.prog) (w:=X.w) (A:=X.A.in1) hh I l hlI G.toArray;have P:G.toArray.size=G.length:=zI ..;have ay:∀(i:Nat)(n:Int)(u:Å)(H:Hp)(s:É),ns[i]?=À n->(∀j,j<ns.length->kf i<=kf j/\(j<i->kf i<kf j))->J ns.length H->Inv X Pc σ H s->RelV (V.int n) u->EP X Pc σ Q u s :=
  fun i n u H s e1 N e3 e4 e5=>⟨_,H,e4,e5,hQ i n H e1 N e3⟩
 show ŏ _ X.A (.builtin "min.loop" ⟨[.ref I,ko.getD .none,.ref S],[("default",.none)]⟩) _ { s with heap:=h1,toks:=s.toks };refine Ϙ Ŵ ?_;rw[Around.under_plainId þ _];show Î _ X.A.in1 (X7 (.ref S)>>=_) _ _ _;refine yE (w! gS rfl ?_);show Î _ X.A.in1 (tryCatch (x? (.ref I)) _>>=_) _ _ _;by_cases K:ns=[]
 ·subst K
  refine yE (ĵ (W.done _ _ _ ⟨by rw[P,U];exact O,Z⟩ fun L p k=>?_));refine yE (wpAny_rule (yF ?_));exact⟨.non,H,V1.turned (fun b o a e=>k b o (by simpa using a) e) nI g.1 g.2.2.1 g.2.2.2.1 g.2.2.2.2,rfl,hE rfl⟩
 ·have T:0<ns.length:=List.length_pos_iff.mpr K
  refine yE (ĵ (W.item 0 _ _ _ (by rw[P];lia) ⟨O,Z⟩ fun u L p hP R k=>?_));have hu:G[0]?=À u:=by simpa using hP
  obtain⟨n,K⟩:∃n,ns[0]?=À n:=⟨_,zF T⟩;have ru:RelV (V.int n) u:=by
   obtain⟨u',e1,N⟩:=rv.get (i:=0) (x:=V.int n) (by rw[zR,K];rfl);rw[hu]at e1;cases e1;exact N
  have V2:Inv X Pc σ H { s with heap:=L,toks:=p }:=V1.turned (fun b o a e=>k b o (by simpa using a) e) nI g.1 g.2.2.1 g.2.2.2.1 g.2.2.2.2;have gS':=k S _ (by simpa using D.symm) gS;have hf:∀b∈[I,S],eQ X Pc H b:=fun b a=>by
   rcases zT.mp a with rfl|a
   ·exact⟨nI,g⟩
   ·rw[zM.mp a];exact⟨nS,M⟩
  obtain⟨oI,goI,coI,doI⟩:=R.1;have ho:∀b∈[I,S],∃o,L.get? b=À o/\∀v:Option Å,o.data≠.cell v:=fun b a=>by
   rcases zT.mp a with rfl|a
   ·exact⟨_,goI,fun v z=>by rw[doI]at z;cases z⟩
   ·rw[zM.mp a];exact⟨_,gS',fun v z=>nomatch z⟩
  have V3:Inv X (Pc++g8 [I,S] L) σ H { s with heap:=L,toks:=p }:=V2.pinned hf ho;have c:∀(d:Tok)(H2:Hp)(t:É),Inv X (Pc++g8 [I,S] L) σ H2 t->J 1 H2 ->
    Î (model X.prog X.w) X.A.in1 ((do
     P? S fun _=>#[u,.int (kf 0) d]
     again (.builtin "min.loop" ⟨[.ref I,ko.getD .none,.ref S],[("default",.none)]⟩)):Y? R!) (fun ay m=>match ay with
      |.done f=>(match (Except.ok f:Result) with|.ok (.ret v)=>EP X Pc σ Q v m|.ok _=>False|.error e=>E e m)
      |.again c'=>c'.quiet=Â/\ŏ (model X.prog X.w) X.A c' (fun r m=>match r with|.ok (.ret v)=>EP X Pc σ Q v m|.ok _=>False|.error e=>E e m) m) (fun e m=>E e m) t:=by
   intro d H2 t V4 J2;have pI:=V4.pin (I,oI) (zK _ (zK _ (d6 (by simp) goI)));have pS:=V4.pin (S,ż "list" #[] 0) (zK _ (zK _ (d6 (by simp) gS')));have V5:Inv X Pc σ H2 t:=V4.unpinned;have s1:=Ź t.heap S (ğ fun _=>#[u,.int (kf 0) d]);obtain⟨c2,hc2⟩:∃c2,(t.heap.update S (ğ fun _=>#[u,.int (kf 0) d])).get? S=À (ż "list" #[u,.int (kf 0) d] c2):=⟨_,Z! pS.1 fun _=>#[u,.int (kf 0) d]⟩;refine yE ?_;refine ϕ pS.1 rfl (yF ⟨L! þ _,?_⟩);obtain⟨sh,sg,sd,stk,sos⟩:=t;refine BZ hh kf J hl turn ay g M D _ 0 0 H2 _ u d c2 rfl T (V5.turned (t':=stk) (fun b o Y e=>(s1.2 b Y).trans e) pS.2.1 M.1 M.2.2.1 M.2.2.2.1 M.2.2.2.2) pI.2.1 pS.2.1 hc2 ⟨oI,(s1.2 I D).trans pI.1,coI,doI⟩ ⟨n,K,ru⟩ (zP _) J2 fun j' hj'=>?_
   have e:j'=0:=by lia
   subst e;exact⟨by lia,fun h=>absurd h (xA _)⟩
  rcases turn 0 n u _ _ H K ru J0 V3 with⟨hk0,hkf,J2⟩|⟨q,hkq,F⟩
  ·rw[hk0]at c ⊢
   obtain⟨d,rfl⟩:=ru;refine yE (yF ?_)
   have:=c d H _ V3 J2
   rw[hkf]at this;exact this
  ·rw[hkq]at c ⊢
   refine yE (ĵ (yR (yS F (fun x s'' he=>?_) fun _ _ hF=>hF.elim)));obtain⟨y,H3,V4,ry,rfl,J3⟩:=he;obtain⟨d,rfl⟩:=ry;exact c d H3 s'' V4 J3
end
end L2
namespace R
open PySem PySem.Spec PyProof.Rows L2
theorem A8:∀{ps:List Ì}{us:List Å},ps.Nodup->us.length=ps.length->ps.filterMap (fun n=>((ps.zip us).lookup n).map fun v=>(n,v))=ps.zip us/\ps.filter (fun n=>((ps.zip us).lookup n).isNone)=[]:=by
 have g:∀{ps:List Ì}{us:List Å},us.length=ps.length->∀n∈ps,((ps.zip us).lookup n).isSome=Â:=by
  intro ps
  induction ps with
  |nil=>intro us _ n d;cases d
  |cons p ps i =>
   intro us c n d;cases us with
   |nil=>cases c
   |cons u us =>
    rw[ă,yN];cases o:n==p with
    |true=>rfl
    |false =>
     rcases zT.mp d with rfl|d
     ·simp at o
     ·exact i (by simpa using c) n d
 intro ps us f c;refine⟨?_,ÿ.mpr fun n d=>by
  have:=g c n d
  cases h:(ps.zip us).lookup n with
  |none=>rw[h]at this;cases this
  |some v=>simp⟩
 have k:∀(a:List Ì)(b:List Å),a.Nodup->b.length=a.length->∀l:List (Ì×Value),(∀q∈a,l.lookup q=(a.zip b).lookup q)->a.filterMap (fun n=>(l.lookup n).map fun v=>(n,v))=a.zip b:=by
  intro a
  induction a with
  |nil=>intro b _ _ l _;rfl
  |cons q a i =>
   intro b f c l h;cases b with
   |nil=>cases c
   |cons v b =>
    have j:=h q z7;rw[ă,yN]at j;simp only[beq_self_eq_true]at j;rw[ř,j];rw[Ļ]at f
    have:=i b f.2 (by simpa using c) l fun p m=>by
     have:=h p (zQ _ m)
     rw[ă,yN]at this;have ne:(p==q)=Ã:=by
      have:p≠q:=fun e=>f.1 (e▸m)
      simpa using this
     rw[ne]at this;exact this
    simp only[Ð];rw[this];rfl
 exact k ps us f c _ fun _ _=>rfl
noncomputable def plainA(a:ϩ):Bool:=a.posonlyargs.isEmpty&&a.vararg.isNone&&a.kwonlyargs.isEmpty&&a.kwarg.isNone
theorem bind_plain(g:plainA fd.params=Â)(hd:fd.defaults=.none)(m:(fd.params.args.map (·.arg)).Nodup)(i:us.length=(fd.params.args.map (·.arg)).length):A? fd ⟨us,[]⟩=pure ((fd.params.args.map (·.arg)).zip us):=by
 obtain⟨l,j⟩:=A8 m i;obtain⟨_,_,⟨_,d,_,_,_⟩,_,_,_,_,t,_,_,_,_,_,_,_⟩:=fd;unfold plainA at g;simp only[zC,ê,Option.isNone_iff_eq_none]at g;obtain⟨⟨⟨r,q⟩,p⟩,o⟩:=g;dsimp only at r q p o hd m i l j ⊢;cases r;cases q;cases p;cases o;cases hd;have k:∀{s:Type}{c:Prop} [Decidable c] {a b x:s},¬c->b=x->(if c then a else b)=x:=fun h e=>(yG h).trans e
 unfold A?;show(if(decide (us.length > (d.map (·.arg)).length)&&Â)=Â then _ else _)=_;refine k (by simp[i]) ?_;show(if(!(((d.map (·.arg)).take ((d.map (·.arg)).length-(([]:List Å).drop (0-(d.map (·.arg)).length)).length)).filter (fun n=>(((d.map (·.arg)).zip us).lookup n).isNone)).isEmpty)=Â then _ else _)=_;refine k (by rw[W2,U',Ϭ,Ĭ,j];decide) ?_;show forIn (((d.map (·.arg)).drop ((d.map (·.arg)).length-(([]:List Å).drop (0-(d.map (·.arg)).length)).length)).zip (([]:List Å).drop (0-(d.map (·.arg)).length))) ((d.map (·.arg)).zip us) _>>=_=_;rw[W2,List.zip_nil_right];exact congrArg (pure (f:=Y?)) ((congrArg (U6 _) (í _)).trans l)
end R
namespace L2
open PySem PySem.Spec PyProof.Rows
def kn(mg:Ì->Option Å)(a:é):Prop:=∃b o,mg "__builtins__"=À (.ref b)/\b≠ė/\b≠Ï/\a.get? b=À o/\o.cls=.type "module"/\o.dict=À ė/\o.data=.plain
noncomputable def ic(c:Ç)(q:Ì):HO:=.ext fun h=>h.CodeRec (.ref c) q
section
variable{X:Cx}{Pc:List (Ç×Obj)}{σ:St}{H:Hp}{s:É}
theorem Inv.grown{t':Nat}(I:Inv X Pc σ H s)(a:H P=À (.tbl ps))(m:Y6 P s.heap h')(x:s.heap.objs.size<=c')(E:h'.CodeRec (.ref c') q)
  (F:h'.get? P=À (Q7 (ps++more))):Inv X Pc σ (ah (ah H P (.tbl (ps++more))) c' (ic c' q)) { s with heap:=h',toks:=t' }:=by
 have A:s.heap.get? P=À (Q7 ps):=I.Pk P _ a;have w:H c'=Á:=I.Pk.fresh x;have y:P≠c':=zU (zJ (yI A) x);have h:∀b u,H b=À u->b≠c':=fun b u e z=>by rw[z,w]at e;cases e
 have f:∀b,b≠P->b≠c'->ah (ah H P (.tbl (ps++more))) c' (ic c' q) b=H b:=fun b j g=>by rw[ae g,ae j]
 refine I.un ⟨fun b o e n _ _=>m b o (fun z=>by rw[z,a]at n;cases n) e,fun b o e n _ _=>⟨o.slots,m b o (fun z=>by rw[z,a]at n;cases n) e⟩,fun b o e n _=>?_,fun b o e _=>?_,fun b J e=>?_,fun b o u e=>?_,fun b K e=>?_⟩ fun b u e=>?_
 ·rw[f b (fun z=>by rw[z,a]at n;cases n) (zU (zJ (yI e) x))];exact n
 ·by_cases i:b=P
  ·exact⟨_,i▸F⟩
  ·exact⟨o,m b o i e⟩
 ·rw[f b (fun z=>by rw[z,a]at e;cases e) (h _ _ e)];exact e
 ·rw[f b (fun z=>by rw[z,a]at e;cases e) (h _ _ e)];exact e
 ·by_cases i:b=P
  ·subst i
   rw[a]at e;cases e;exact⟨more,by rw[ae y,aD]⟩
  ·exact⟨#[],by rw[f b i (h _ _ e),e];simp⟩
 ·by_cases j:b=c'
  ·subst j
   rw[aD]at e;cases e;obtain⟨c,p,D,t,C,B,G⟩:=id E;cases C;refine⟨E,⟨p,B⟩,fun j g r k=>?_⟩;obtain⟨c,p,D,t,C,B,G⟩:=r;cases C;exact⟨_,p,D,t,rfl,k _ B,G⟩
  ·rw[ae j]at e
   by_cases g:b=P
   ·subst g
    rw[aD]at e;cases e;exact F
   ·rw[ae g]at e
    refine(I.Pk b u e).stay (fun d v hd q=>m d v (fun z=>?_) q) (fun d q=>?_) fun d J q=>?_
    ·rcases hd with l|l
     ·exact g (l.symm.trans z)
     ·rw[z,a]at l;cases l
    ·rw[f d (fun z=>by rw[z,a]at q;cases q) (h _ _ q)];exact q
    ·rw[f d (fun z=>by rw[z,a]at q;cases q) (h _ _ q)];exact q
noncomputable abbrev xB(mg:Ì->Option Å)(qual:Ì)(a:ϩ)(b:Í)(scope:ĝ)(cl:List (Ì×Addr))(d c:Å):X0 :=
 { cls:=.type "function",data:=.func (kla_fn "<lambda>" qual a b scope cl ((mg "__name__").getD .none) d c) }
def gZ(H:Hp)(P:Ç)(pos:ę)(q:Ì):Prop:=∃a,H P=À (.tbl a)/\TriplesOk a.toList/\(codeAmong pos a.toList=Á\/∃c,codeAmong pos a.toList=À (.ref c)/\H c=À (ic c q))
theorem Cd(I:Inv X Pc σ H s)(l:V6 params X.env=([],[]))(hcode:X.env.code=.ref c)
  (C:W3 X.base c P) (B:kn X.mg X.base) (m:V7 scope X.env=pure cl) (T:gZ H P pos (X.env.qual++"<lambda>"))
  (h:∀f c' ctv H' s',(H'=H\/∃ps more,H P=À (.tbl ps)/\H c'=Á/\P≠c'/\H'=ah (ah H P (.tbl (ps++more))) c' (ic c' (X.env.qual++"<lambda>")))->gZ H' P pos (X.env.qual++"<lambda>")->H' c'=À (ic c' (X.env.qual++"<lambda>")) ->
   Inv X (Pc++[(f,xB X.mg (X.env.qual++"<lambda>") params body scope cl (.ref c') ctv)]) σ H' s'->Q (.ref f) s') :
  Î (model X.prog X.w) X.A (eval (.Lambda params body scope pos) X.env) Q E s:=by
 refine kla_eval l ?_;obtain⟨ps,r,i,x⟩:=T;have y:s.heap.get? P=À (Q7 ps):=I.Pk P _ r;have G:s.heap.Ns Ï X.mg:=I.mod.glob.keeps I.bk;have F:Ï≠P:=fun q=>by
  obtain⟨o,es,ep,e,hd,_⟩:=G;rw[q,y]at e;cases e;cases hd
 obtain⟨O,R,b1,b2,b3,V,b5,b6,b7⟩:=B;have L:O≠P:=fun q=>by
  have:=(I.bs O R V).2
  rw[q,r]at this;cases this
 have U:s.heap.BuiltinsAt X.mg P:=⟨O,R,b1,b2,b3,L,I.bk _ _ V,b5,b6,b7⟩;have Y:W3 s.heap c P:=C.keeps I.bk
 have last:∀(A:Hp)(g:é)(a:Nat)(o:X0),Inv X Pc σ A { s with heap:=g,toks:=a }->(∀v,o.data≠.cell v)->o.isFreed=Ã->Inv X (Pc++[(g.objs.size,o)]) σ A { s with heap:=g.push o,toks:=a }:=by
  intro A g a o J hd K;have W:Inv X Pc σ A { s with heap:=g.push o,toks:=a }:=J.kept fun b u e=>zG _ e
  have N:=J.fpOk (b:=g.objs.size) (zP _) J.fresh;refine W.pins_of fun p k=>?_
  rcases zZ.mp k with k|k
  ·exact W.pin p (zK _ k)
  ·rw[zM.mp k]
   exact⟨zY _ K,N.1,N.2.1,N.2.2.1,hd⟩
 rcases x with S|⟨c',x,w⟩
 ·refine kla_makeFunction (mg:=X.mg) m I.ok.glob G hcode Y y i S F U fun c' ctv M t w d Z j D=>?_
  have n:P≠c':=zU (zJ (yI y) d);have J:=I.grown (t':=t) r w d j D;have e1:ah (ah H P (.tbl (ps++#[x! pos.line,x! pos.col,.ref c']))) c' (ic c' (X.env.qual++"<lambda>")) P=À (.tbl (ps++#[x! pos.line,x! pos.col,.ref c'])):=by rw[ae n,aD]
  refine h _ c' ctv _ _ (.inr ⟨ps,_,r,I.Pk.fresh d,n,rfl⟩) ⟨_,e1,?_,.inr ⟨c',?_,aD⟩⟩ aD (last _ M t _ J (fun v z=>nomatch z) rfl)
  ·rw[J!];exact TriplesOk_snoc _ _ _ _ i
  ·rw[J!];exact codeAmong_snoc _ i S
 ·refine kla_makeFunctionHit (mg:=X.mg) m I.ok.glob G hcode Y y i x U fun ctv M t hk d=>?_
  exact h _ c' ctv H _ (.inl rfl) ⟨ps,r,i,.inr ⟨c',x,w⟩⟩ w (last H M t _ (I.kept hk) (fun v z=>nomatch z) rfl)
noncomputable def vd(X:Cx)(N':List Ì)(scope:ĝ)(cl:List (Ì×Addr))(f:Ç)(qual:Ì)(cd:Å)(A:ą)(s:É)(H:Hp):Cx :=
 { X with N:=N',s₀:=s,H₀:=H,env:=V0 scope s.heap.objs.size Ï cl (qual++".<locals>.") (À f) cd Á ė,outer:=X.stack,stack:=V0 scope s.heap.objs.size Ï cl (qual++".<locals>.") (À f) cd Á ė::X.stack,
          A:=A.deeper (V0 scope s.heap.objs.size Ï cl (qual++".<locals>.") (À f) cd Á ė),ex:=[],fn:=fun _=>Ã,calm:=Â,pn:=[],xe:=fun _ _=>False }
structure yb(X:Cx)(N':List Ì)(scope:ĝ)(x:Ì):Prop where
 cy:kJ X N' scope
 co:scope.isCoroutine=Ã
 gen:scope.isGenerator=Ã
 len:N'.length=X.N.length+1
 own:N'[X.N.length]?=À x
 loc:scope.names.lookup x=À .local
 nc:∀y∈scope.names,y.2≠.cell
theorem Cs{t':Nat}(T:yb X N' scope x)(I:Inv X Pc σ H s)(J:A.frames=À X.stack)(Z:A.handled=Á)
  (g:∀p∈cl,X.env.cells.lookup p.1=À p.2) (G:∀x,(x,Ý)∈scope.names->∃c,(x,c)∈cl) (r:RelV v u)
  (W:h'.Ns s.heap.objs.size (fun y=>[(x,u)].reverse.lookup y)) (S:ĭ s.heap.objs.size (s.heap.push { cls:=.type "frame",data:=.dict #[] }) h') :
  Inv (vd X N' scope cl f qual cd A s H) [] (σ++[À v]) H { s with heap:=h',toks:=t' }:=by
 have d:∀b o,s.heap.get? b=À o->h'.get? b=À o:=fun b o e=>(S.2 b (zU (yI e))).trans (zG _ e)
 have look:∀x,(x,Ý)∈scope.names->∃c,cl.lookup x=À c/\X.env.cells.lookup x=À c:=fun x R=>by
  obtain⟨c,C⟩:=G x R;obtain⟨N,B⟩:=gQ C;exact⟨N,B,g _ (mem_of_lookup B)⟩
 have j:∀ b:Ç,b ∉ (vd X N' scope cl f qual cd A s H).ex:=fun b z=>absurd (show b ∈ ([]:List Ç) from z) (by simp)
 refine⟨⟨I.ok.mod,T.cy.kind,rfl,rfl,zP _,fun y z c h1 h2=>?_,fun y l=>?_,fun y c h=>(by cases h),fun _=>Z,Around.frames_deeper J,.inr ⟨rfl,rfl⟩,fun b z=>absurd z (j b),I.bs,z5 I.ok.bsz I.sz,fun b _ _=>j b,fun b z=>absurd z (j b),I.stack,I.stkFree⟩,
  rfl,I.bare,Un.kept d,⟨_,W,fun i y w q n e3=>?_⟩,fun y c h=>?_,I.Pk.fresh (zP _),fun y c h=>?_,fun p U=>absurd (show p∈([]:List (Ç×Obj)) from U) (by simp),I.Pk.kept d,?_⟩
 ·exact I.ok.inj y z c (g _ (mem_of_lookup h1)) (g _ (mem_of_lookup h2))
 ·have l:scope.names.lookup y=À .cell\/scope.names.lookup y=À .free:=l
  rcases l with l|l
  ·exact absurd rfl (T.nc _ (mem_of_lookup l))
  ·obtain⟨c,C,_⟩:=look y (mem_of_lookup l)
   exact⟨c,C⟩
 ·have M:=I.len
  rcases yT i σ.length with F|F
  ·rw[zN F]at n
   have t:∃k,(y,k)∈scope.names:=by
    rcases e3 with h|h|h<;>exact⟨_,mem_of_lookup h⟩
   have a:=T.cy.hid i y oM q t;have eX:=T.cy.same i y oM q a;have kX:=T.cy.free y a;obtain⟨m,V,Y⟩:=I.loc;obtain⟨O,P,lk⟩:=Y i y w eX n (by rcases kX with h|h;exact .inr (.inl h);exact .inr (.inr h));refine⟨O,P,.inr ⟨.inr (dJ T.cy.nd a),?_⟩⟩;rcases lk with⟨L,_⟩|⟨_,c,C,z⟩
   ·rcases kX with h|h<;>rw[h]at L<;>cases L
   ·obtain⟨N,Q,K⟩:=look y a
    rw[C]at K;cases K;exact⟨c,Q,z.keeps d⟩
  ·rw[z6 F]at n
   have E:i-σ.length=0:=by
    rcases Nat.eq_zero_or_pos (i-σ.length) with z|z
    ·exact z
    ·rw [Ù (show [À v].length <= _ from z)] at n;cases n
   rw[E]at n;cases n;have D:i=X.N.length:=by lia
   subst D;have q:N'[X.N.length]?=À y:=q;rw[T.own]at q;cases q;exact⟨u,r,.inl ⟨T.loc,by simp⟩⟩
 ·obtain⟨w,z⟩:=I.cell y c (g _ (mem_of_lookup h))
  exact⟨w,z.keeps d⟩
 ·exact I.freeC y c (g _ (mem_of_lookup h))
 ·show(σ++[À v]).length=N'.length
  rw[zV,I.len,T.len];rfl
theorem Ce(T:yb X N' scope x)(I:Inv X Pc σ H s)(m:A.frames=À X.stack)(K:A.handled=Á)
  (hd:A.depth<Ϟ) (n:∀p∈cl,X.env.cells.lookup p.1=À p.2) (l:∀x,(x,Ý)∈scope.names->∃c,(x,c)∈cl) (F:R.plainA params=Â) (a:params.args.map (·.arg)=[x])
  (L:s.heap.get? f=À (xB X.mg qual params body scope cl (.ref c') ctv)) (D:s.heap.CodeRec (.ref c') qual)
  (he:∀s H,PE (vd X N' scope cl f qual (.ref c') A s H) body te) (r:RelV v u) (h:te (σ++[À v]) H Q) :
  Î (model X.prog X.w) A (call (.ref f) [u]) (EP X Pc σ Q) E s:=by
 refine w? (kla_callFunE hd L rfl T.co T.gen rfl D ?_);have M:A? (kla_fn "<lambda>" qual params body scope cl ((X.mg "__name__").getD .none) (.ref c') ctv) ⟨[u],[]⟩=pure [(x,u)]:=by
  have:=R.bind_plain (fd:=kla_fn "<lambda>" qual params body scope cl ((X.mg "__name__").getD .none) (.ref c') ctv) (us:=[u]) F rfl (by show(params.args.map (·.arg)).Nodup;rw[a];simp) (by show _=(params.args.map (·.arg)).length;rw[a];rfl)
  rw[this];show pure ((params.args.map (·.arg)).zip [u])=_;rw[a];rfl
 rw[M];refine yF ?_;refine wpAny_newFunctionEnv (around:=Á) (fun y j=>T.nc y j) (fun y j=>by rw[zM.mp j];exact T.loc) (fun t G g=>?_) T.cy.kind;have g:ĭ s.heap.objs.size (s.heap.push { cls:=.type "frame",data:=.dict #[] }) t:=g;have d:∀b o,s.heap.get? b=À o->t.get? b=À o:=fun b o e=>(g.2 b (zU (yI e))).trans (zG _ e)
 refine⟨I.nolimit.keeps d,kla_codeExpr ?_⟩;have J:=Cs (cd:=.ref c') (f:=f) (qual:=qual) (t':=s.toks+[(x,u)].length) T I m K n l r G g;refine yS (he s H [] _ (σ++[À v]) H Q J h) (fun w B k=>?_) fun e B z=>z.elim
 obtain⟨y,N,i,C,q⟩:=k;exact I.after ⟨y,N,i.os,i.bare,i.base,i.Pk,C,q⟩
end
theorem Ap(h:jr k v=Â):RelV (kV k) v:=by
 cases k with
 |inl i =>
  cases v <;> first | (cases h;done) | skip
  rename_i j t;have e:j=i:=by simpa [jr,B?] using h
  subst e;exact⟨t,rfl⟩
 |inr x =>
  cases v <;> first | (cases h;done) | skip
  rename_i y t;have e:y=x:=by simpa [jr,i!] using h
  subst e;exact⟨t,rfl⟩
theorem Fj{a:Type}{Pd:List (a×V)}{vs:List (a×Value)}(r:KV Pd vs):Pd.map (·.1)=vs.map (·.1):=by
 induction r with
 |nil=>rfl
 |cons h t b=>simp only[zO];rw[h.1,b]
def Mf(d:Ç)(o:X0)(Pd:List (ba×V)):It :=
 ⟨fun i H=>H d=À (.frz o (.dK Pd))/\i<Pd.length,fun i H x a=>a=H/\(Pd.map fun p=>kV p.1)[i]?=À x,fun i H=>H d=À (.frz o (.dK Pd))/\Pd.length<=i⟩
theorem uV{b:Nat}(I:Inv X Pc σ H s)(h:H d=À (.frz o (.dK Pd)))(a:o.data=.dict es b) :
  ∃vs,KV Pd vs/\s.heap.DictAt (cQ X.prog X.w) d vs b:=by
 obtain⟨e,_,_,vs,r,l,g,i,c,k,f,j⟩:=I.Pk d _ h;rw[e]at c;cases c;rw[a]at f;cases f;exact⟨vs,r,o,es,e,k,a,j⟩
theorem yk{P:Ò}{w:à}{K:á}{Y:Í}{d:Ç}{o:X0}{Pd:List (ba×V)}{es:Array DictEntry}{U:Nat}(it:Ç)(hd:o.data=.dict es U):lQ P w K Y (Mf d o Pd) [it] it (fun i h=>h.IsKeyIter it d i Pd.length U) where
 mem:=by simp
 obj:=fun i h a b g=>by
  obtain rfl:b=it:=by simpa using g
  obtain⟨o,e,c,d⟩:=a;exact⟨o,e,fun v z=>by rw[d]at z;cases z⟩
 keep:=fun i h y a k=>let⟨o,e,r⟩:=a;⟨o,k it (by simp) _ e,r⟩
 item:=by
  intro X D C F T i W s R H E I x a f;subst D C F;obtain⟨f,hi⟩:=f;obtain⟨l,r,O⟩:=uV I f hd;have u:Pd.length=l.length:=Paired.length r;obtain⟨N,M,f2,L,J,G⟩:=x it (by simp);obtain⟨q,S⟩:∃q,l[i]?=À q:=⟨_,zF oM⟩;have j:Pd[i]?.map (·.1)=l[i]?.map (·.1):=by
   rw[<- zR,<- zR,Fj r]
  rw[u]at a;refine wpAny_pyNext_dict_item a O (k:=q.1) (v:=q.2) S fun B y t m Z=>?_
  have I1:Inv X W R H { s with heap:=y }:=I.turned (t':=s.toks) (fun b o g e=>(Z.2 b g).trans e) N M L J G;obtain⟨o',e,c,dd⟩:=id m;refine⟨B,rfl,p9 (s:={ s with heap:=y }) e c dd dC ⟨kV q.1,H,I1,Ap t,⟨rfl,?_⟩,by rw[u];exact m,fun b g=>(x b g).1⟩⟩;rw[zR];rw[S]at j;cases n:Pd[i]? with
  |none=>rw[n]at j;cases j
  |some p=>rw[n]at j;simp at j;simp[j]
 done:=by
  intro X D C F T i W s R H E I x a f;subst D C F;obtain⟨f,hi⟩:=f;obtain⟨l,r,O⟩:=uV I f hd;have u:Pd.length=l.length:=Paired.length r;obtain⟨N,M,f2,L,J,G⟩:=x it (by simp);rw[u]at a;exact wpAny_pyNext_dict_end (I.ok.hd T) a O (Ù oM) fun y eb=>⟨rfl,I.turned (t':=s.toks) (fun b o g e=>eb b o g e) N M L J G⟩
 self:=fun A i s Q E a h=>wpAny_pyIter_keyiter a h
section
variable{X:Cx}{Pc:List (Ç×Obj)}{σ:St}{H:Hp}{s:É}{d:Ç}{Pd:List (ba×V)}{o:X0}
theorem Inv.frzD(I:Inv X Pc σ H s)(h:H d=À (.dK Pd))(e:s.heap.get? d=À o):Inv X Pc σ (ah H d (.frz o (.dK Pd))) { s with toks:=s.toks }:=by
 have ne:∀b u,H b=À u->(∀Pd,u≠.dK Pd)->b≠d:=fun b u q n z=>by rw[z,h]at q;cases q;exact n _ rfl
 refine I.un (h':=s.heap) ⟨fun b o e _ _ _=>e,fun b o e _ _ _=>⟨o.slots,e⟩,fun b o e n _=>by rw[ae (fun z=>by rw[z,h]at n;cases n)];exact n,fun b o e _=>⟨o,e⟩,fun b g q=>by rw[ae (ne b _ q fun _ z=>nomatch z)];exact q,fun b o u q=>by rw[ae (ne b _ q fun _ z=>nomatch z)];exact q,
  fun b i q=>⟨#[],by rw[ae (ne b _ q fun _ z=>nomatch z),q];simp⟩⟩ fun b u q=>?_
 have a:∀b u,H b=À u->ObjOk X.prog X.w (ah H d (.frz o (.dK Pd))) s.heap b u:=fun b u q=>(I.Pk b u q).stay (fun _ _ _ z=>z) (fun c z=>by rw[ae (ne c _ z fun _ y=>nomatch y)];exact z) fun c g z=>by rw[ae (ne c _ z fun _ y=>nomatch y)];exact z
 by_cases f:b=d
 ·subst f;rw[aD]at q;cases q;exact⟨e,a _ _ h⟩
 ·rw[ae f]at q;exact a b u q
theorem Inv.thawD(I:Inv X Pc σ H s)(h:H d=À (.frz o (.dK Pd)))(r:∀o u,X.H₀ d≠À (.frz o u)):Inv X Pc σ (ah H d (.dK Pd)) s:=by
 have ne:∀b u,H b=À u->(∀o k,u≠.frz o k)->b≠d:=fun b u q n z=>by rw[z,h]at q;cases q;exact n _ _ rfl
 have nn:∀b,H b=Á->b≠d:=fun b q z=>by rw[z,h]at q;cases q
 have v:HOk X.prog X.w (ah H d (.dK Pd)) s.heap:=fun b u q=>by
  have g:∀b u,H b=À u->ObjOk X.prog X.w (ah H d (.dK Pd)) s.heap b u:=fun b u q=>(I.Pk b u q).stay (fun _ _ _ z=>z) (fun c z=>by rw[ae (ne c _ z fun _ _ y=>nomatch y)];exact z) fun c f z=>by rw[ae (ne c _ z fun _ _ y=>nomatch y)];exact z
  by_cases j:b=d
  ·subst j;rw[aD]at q;cases q;exact(g _ _ h).2
  ·rw[ae j]at q;exact g b u q
 refine⟨I.ok,I.os,I.bare,⟨I.base.keep,I.base.slot,fun b o e n i=>by rw[ae (nn b (I.base.free b o e n i))];exact I.base.free b o e n i,I.base.there,fun b f e=>by rw[ae (ne b _ (I.base.tups b f e) fun _ _ y=>nomatch y)];exact I.base.tups b f e,
  fun b o u e=>by rw[ae (fun z=>r o u (by rw[<- z];exact e))];exact I.base.frzs b o u e,fun b l e=>?_⟩,I.loc,I.cell,by rw[ae (nn _ I.free)];exact I.free,fun x c e=>by rw[ae (nn _ (I.freeC x c e))];exact I.freeC x c e,
  fun p m=>by obtain⟨a1,a2,t⟩:=I.pin p m;exact⟨a1,by rw[ae (nn _ a2)];exact a2,t⟩,v,I.len⟩
 obtain⟨a,q⟩:=I.base.tbls b l e;exact⟨a,by rw[ae (ne b _ q fun _ _ y=>nomatch y)];exact q⟩
end
section
variable{X:Cx}{tg iter:Í}{te:TE}
def KA(n0:Hp)(te:TE):TI:=fun c H R=>te c H fun x b=>∃d a,x=.ref d/\b d=À (.dK a)/\∀o,(∀o u,n0 d≠À (.frz o u))->R (Mf d o a) (ah b d (.frz o (.dK a)))
theorem ES(i:PE X iter te):PI X tg iter (KA X.H₀ te):=by
 intro r s l H R I h;refine aE (i r s l H _ I h) fun v a g=>?_
 obtain⟨x,F,k,r1,d,Pd,e,hd,q⟩:=g;subst e;cases r1;obtain⟨hz,c,m,t,f,A,B,n,D,p,C⟩:=k.Pk d _ hd;have i:Pd.length=m.length:=Paired.length t;have w:∀o u,X.H₀ d≠À (.frz o u):=fun o u z=>by
  have:=k.base.frzs d o u z
  rw[hd]at this;cases this
 have j:=k.frzD hd n;refine wpAny_pyIter_dict c (knd:=cQ X.prog X.w) ⟨f,A,n,D,p,C⟩ ?_;have E:Inv X r l (ah F d (.frz f (.dK Pd))) { a with heap:=a.heap.push { cls:=.type "dict_keyiterator",data:=.fields #[.ref d,.int 0 0,.int m.length 0,.int B 0] },toks:=a.toks }:=j.kept fun b o e=>zG _ e
 refine⟨a.heap.objs.size,[a.heap.objs.size],_,_,_,rfl,E,yk (Pd:=Pd) _ p,⟨_,zY _ rfl,rfl,by rw[i];rfl⟩,fun b y=>?_,q f w⟩;obtain rfl:b=a.heap.objs.size:=by simpa using y
 exact j.fpOk (zP _) j.fresh
def sV(n0:Hp)(D:lT):lT:={ nx:=fun b H=>∃d o a,H d=À (.frz o (.dK a))/\(∀o u,n0 d≠À (.frz o u))/\D.nx b (ah H d (.dK a)),rt:=fun v H=>∃d o a,H d=À (.frz o (.dK a))/\(∀o u,n0 d≠À (.frz o u))/\D.rt v (ah H d (.dK a)) }
theorem EI{st:ĺ}{t:TS}(h:PS X st t):PS X st (fun D σ H=>t (sV X.H₀ D) σ H):=by
 intro g s σ H D I q;refine aE (h g s σ H (sV X.H₀ D) I q) fun f j b=>?_
 cases f with
 |next=>obtain⟨a,i,J,d,o,c,e,n,q⟩:=b;exact⟨a,_,J.thawD e n,q⟩
 |ret u=>obtain⟨v,a,i,J,r,d,o,c,e,n,q⟩:=b;exact⟨v,a,_,J.thawD e n,r,q⟩
 |brk=>obtain⟨_,_,_,q⟩:=b;exact q.elim
 |cont=>obtain⟨_,_,_,q⟩:=b;exact q.elim
end
end L2
namespace R
open PySem L2
theorem e7{α g f e:Sort _}{A B C:α->g->f->e->Prop}{G:Prop}(h:∃a b c d,A a b c d/\B a b c d/\C a b c d)(k:∀a b c d,A a b c d->B a b c d->C a b c d->G):G:=by obtain⟨a,b,c,d,x,y,z⟩:=h;exact k a b c d x y z
theorem i7{α g f e:Sort _}{A B C:α->g->f->e->Prop}{a:α}{b:g}{c:f}{d:e}(x:A a b c d)(y:B a b c d)(z:C a b c d):∃a b c d,A a b c d/\B a b c d/\C a b c d:=⟨a,b,c,d,x,y,z⟩
inductive AV where
 |non|bl (b:Bool)|int (i:Int)|str (x:Ì)|ref (k:Nat)|tup (xs:List AV)|fz (xs:List AV)
inductive Pe where
 |lst (xs:List AV)|al (t:AV)|dK (Pd:List (ba×AV))|dT (Pd:List (List ba×AV))|ins (c:Ì) (fs:List (Ì×AV))|wk (Pd:List (ba×AV))
abbrev aa:=List Pe
abbrev Sl:=List (Option AV)
abbrev Pr:=Ç->Prop
class Pf where
 tb:List (Ç×Pos×Str)
structure Gm where
 K:á
 mg:Ì->Option Å
def FLk(mg:Gm)(P:Pr)(H:Hp)(a:Ç)(vs:List V):Prop:=(P a/\Rd H a (.lst vs))\/∀b,cb mg.K b a vs
mutual
def RA(mg:Gm)(P:Pr)(H:Hp)(φ:List Ç):AV->V->Prop
 |.non,v=>v=.non
 |.bl b,v=>v=.bl b
 |.int i,v=>v=.int i
 |.str x,v=>v=.str x
 |.ref k,v=>∃a,φ[k]?=À a/\v=.ref a
 |.tup xs,v=>∃a vs,v=.ref a/\P a/\H a=À (.tup vs)/\Pi mg P H φ xs vs
 |.fz xs,v=>∃a vs,v=.ref a/\FLk mg P H a vs/\Pi mg P H [] xs vs
def Pi(mg:Gm)(P:Pr)(H:Hp)(φ:List Ç):List AV->List V->Prop
 |[],vs=>vs=[]
 |x::xs,vs=>∃v ws,vs=v::ws/\RA mg P H φ x v/\Pi mg P H φ xs ws
end
theorem bO:Pi mg P H φ [] []:=by simp only[Pi]
theorem bo(h:RA mg P H φ x v)(t:Pi mg P H φ xs vs):Pi mg P H φ (x::xs) (v::vs):=by simp only[Pi];exact⟨v,vs,rfl,h,t⟩
structure Frm(P:Pr)(φ:List Ç)(H:Hp)(P':Pr)(φ':List Ç)(H':Hp):Prop where
 ext:∀a,P a->P' a/\H' a=H a
 new:∃more,φ'=φ++more/\∀a∈more,H a=Á
 keep:∀a,H a≠Á->a∉φ->(∀ps,H a≠À (.tbl ps))->H' a=H a
 pn:∀a,P' a->P a\/H a=Á\/a∈φ
 sm:∀a,H a≠Á->H' a≠Á
 fz:∀a o u,H a=À (.frz o u)->H' a=À (.frz o u)
theorem Frm.refl:Frm P φ H P φ H:=⟨fun _ h=>⟨h,rfl⟩,⟨[],by simp,by simp⟩,fun _ _ _ _=>rfl,fun _ h=>.inl h,fun _ h=>h,fun _ _ _ h=>h⟩
theorem Frm.trans{P n m:Pr}{φ d c:List Ç}{H k p:Hp}(a:Frm P φ H n d k)(b:Frm n d k m c p):Frm P φ H m c p:=by
 obtain⟨r,j,i⟩:=a.new;obtain⟨m2,s,q⟩:=b.new;have nn:∀x,k x=Á->H x=Á:=fun x h=>by
  cases e:H x with
  |none=>rfl
  |some o=>exact absurd h (a.sm x (by rw[e];exact fun z=>nomatch z))
 refine⟨fun x h=>?_,⟨r++m2,by rw[s,j,yM],fun x h=>?_⟩,fun x f g l=>?_,fun x h=>?_,fun x h=>b.sm x (a.sm x h),fun x o u h=>b.fz x o u (a.fz x o u h)⟩
 ·obtain⟨f,e⟩:=a.ext x h
  obtain⟨g,t⟩:=b.ext x f;exact⟨g,t.trans e⟩
 ·rcases zZ.mp h with h|h
  ·exact i x h
  ·exact nn x (q x h)
 ·have e:=a.keep x f g l
  refine(b.keep x (by rw[e];exact f) (fun z=>?_) (by rw[e];exact l)).trans e;rw[j]at z;rcases zZ.mp z with z|z
  ·exact g z
  ·exact f (i x z)
 ·rcases b.pn x h with h|h|h
  ·exact a.pn x h
  ·exact .inr (.inl (nn x h))
  ·rw[j]at h
   rcases zZ.mp h with h|h
   ·exact .inr (.inr h)
   ·exact .inr (.inl (i x h))
theorem Rd.at(h:Rd H a u)(e:H' a=H a):Rd H' a u:=by
 rcases h with h|⟨o,h⟩
 ·exact .inl (e.trans h)
 ·exact .inr ⟨o,e.trans h⟩
theorem FLk.mono{mg:Gm}{P b:Pr}{H c:Hp}{a:Ç}{vs:List V}(h:FLk mg P H a vs)(x:∀a,P a->b a/\c a=H a):FLk mg b c a vs:=by
 rcases h with⟨p,r⟩|h
 ·exact .inl ⟨(x a p).1,Rd.at r (x a p).2⟩
 ·exact .inr h
theorem FLk.sq(h:FLk mg P H a vs):cb mg.K H a vs:=by
 rcases h with⟨_,r⟩|h
 ·exact .inl r
 ·exact h H
section
variable{mg:Gm}{P P':Pr}{H H':Hp}{φ φ':List Ç}
mutual
theorem RA.mono'(x:∀a,P a->P' a/\H' a=H a):∀{t:AV}{v:V}{φ φ':List Ç},(∀(k:Nat) a,φ[k]?=À a->φ'[k]?=À a)->RA mg P H φ t v->RA mg P' H' φ' t v
 |.non,_,_,_,_,h=>by simp only[RA]at h ⊢;exact h
 |.bl _,_,_,_,_,h=>by simp only[RA]at h ⊢;exact h
 |.int _,_,_,_,_,h=>by simp only[RA]at h ⊢;exact h
 |.str _,_,_,_,_,h=>by simp only[RA]at h ⊢;exact h
 |.ref k,_,_,_,hφ,h=>by simp only[RA]at h ⊢;obtain⟨a,e,r⟩:=h;exact⟨a,hφ k a e,r⟩
 |.tup xs,_,_,_,hφ,h=>by
  simp only[RA]at h ⊢;obtain⟨a,b,r,p,e,q⟩:=h;exact⟨a,b,r,(x a p).1,(x a p).2.trans e,Pi.mono' x hφ q⟩
 |.fz xs,_,_,_,hφ,h=>by
  simp only[RA]at h ⊢;obtain⟨a,b,r,e,q⟩:=h;exact⟨a,b,r,e.mono x,Pi.mono' x (fun _ _ z=>z) q⟩
theorem Pi.mono'(x:∀a,P a->P' a/\H' a=H a):∀{ts:List AV}{vs:List V}{φ φ':List Ç},(∀(k:Nat) a,φ[k]?=À a->φ'[k]?=À a)->Pi mg P H φ ts vs->Pi mg P' H' φ' ts vs
 |[],_,_,_,_,h=>by simp only[Pi]at h ⊢;exact h
 |t::ts,_,_,_,hφ,h=>by
  simp only[Pi]at h ⊢;obtain⟨v,ws,e,r,q⟩:=h;exact⟨v,ws,e,RA.mono' x hφ r,Pi.mono' x hφ q⟩
end
theorem RA.mono{t:AV}{v:V}(h:RA mg P H φ t v)(x:∀a,P a->P' a/\H' a=H a)(b:∀(k:Nat) a,φ[k]?=À a->φ'[k]?=À a):RA mg P' H' φ' t v:=RA.mono' x b h
theorem Pi.mono{ts:List AV}{vs:List V}(h:Pi mg P H φ ts vs)(x:∀a,P a->P' a/\H' a=H a)(b:∀(k:Nat) a,φ[k]?=À a->φ'[k]?=À a):Pi mg P' H' φ' ts vs:=Pi.mono' x b h
theorem Frm.ix(f:Frm P φ H P' φ' H'):∀(k:Nat) a,φ[k]?=À a->φ'[k]?=À a:=fun k a e=>by
 obtain⟨m,rfl,_⟩:=f.new;rw[zN (zB.mp e).1];exact e
theorem RA.frm(h:RA mg P H φ t v)(f:Frm P φ H P' φ' H'):RA mg P' H' φ' t v:=h.mono f.ext f.ix
theorem Pi.frm(h:Pi mg P H φ ts vs)(f:Frm P φ H P' φ' H'):Pi mg P' H' φ' ts vs:=h.mono f.ext f.ix
theorem RA.lift(h:RA mg P H [] t v):RA mg P H φ t v:=h.mono (fun _ h=>⟨h,rfl⟩) fun k a e=>by simp at e
theorem Pi.lift(h:Pi mg P H [] ts vs):Pi mg P H φ ts vs:=h.mono (fun _ h=>⟨h,rfl⟩) fun k a e=>by simp at e
theorem Pi.length:∀{ts:List AV}{vs:List V},Pi mg P H φ ts vs->ts.length=vs.length
 |[],_,h=>by simp only[Pi]at h;subst h;rfl
 |t::ts,_,h=>by
  simp only[Pi]at h;obtain⟨v,ws,rfl,_,q⟩:=h;rw[yX,yX,Pi.length q]
theorem Pi.get:∀{ts:List AV}{vs:List V}{i:Nat}{t:AV},Pi mg P H φ ts vs->ts[i]?=À t->∃v,vs[i]?=À v/\RA mg P H φ t v
 |[],_,_,_,_,e=>by simp at e
 |x::ts,_,i,t,h,e=>by
  simp only[Pi]at h;obtain⟨v,ws,rfl,r,q⟩:=h;cases i with
  |zero=>simp at e;subst e;exact⟨v,rfl,r⟩
  |succ i=>simpa using Pi.get (i:=i) q (by simpa using e)
theorem Pi.app:∀{xs ys:List AV}{vs ws:List V},Pi mg P H φ xs vs->Pi mg P H φ ys ws->Pi mg P H φ (xs++ys) (vs++ws)
 |[],_,_,_,h,g=>by simp only[Pi]at h;subst h;exact g
 |x::xs,_,_,_,h,g=>by
  simp only[Pi]at h;obtain⟨v,ws,rfl,r,q⟩:=h;exact bo r (Pi.app q g)
theorem Pi.take:∀{xs:List AV}{vs:List V} (n:Nat),Pi mg P H φ xs vs->Pi mg P H φ (xs.take n) (vs.take n)
 |xs,vs,0,_=>by rw[U3,U3];exact bO
 |[],vs,n+1,h=>by simp only[Pi]at h;subst h;exact bO
 |x::xs,vs,n+1,h=>by
  simp only[Pi]at h;obtain⟨v,ws,rfl,r,q⟩:=h;exact bo r (Pi.take n q)
theorem Pi.drop:∀{xs:List AV}{vs:List V} (n:Nat),Pi mg P H φ xs vs->Pi mg P H φ (xs.drop n) (vs.drop n)
 |xs,vs,0,h=>h
 |[],vs,n+1,h=>by simp only[Pi]at h;subst h;exact bO
 |x::xs,vs,n+1,h=>by
  simp only[Pi]at h;obtain⟨v,ws,rfl,r,q⟩:=h;exact Pi.drop n q
theorem Pi.set(r:RA mg P H φ x v):∀{xs:List AV}{vs:List V} (n:Nat),Pi mg P H φ xs vs->Pi mg P H φ (xs.set n x) (vs.set n v)
 |[],vs,_,h=>by simp only[Pi]at h;subst h;exact bO
 |y::xs,vs,n,h=>by
  simp only[Pi]at h;obtain⟨w,ws,rfl,q,t⟩:=h;cases n with
  |zero=>exact bo r t
  |succ n=>exact bo q (Pi.set r n t)
theorem Pi.ints:∀{ns:List Int}{vs:List V},Pi mg P H φ (ns.map .int) vs->vs=ns.map .int
 |[],_,h=>by simpa only[ń,Pi] using h
 |n::ns,_,h=>by
  simp only[zO,Pi,RA]at h;obtain⟨v,ws,rfl,rfl,q⟩:=h;rw[Pi.ints q];rfl
theorem Pi.of_ints:∀{ns:List Int},Pi mg P H φ (ns.map .int) (ns.map V.int)
 |[]=>bO
 |n::ns=>bo (by simp only[RA]) Pi.of_ints
end
def KVR(mg:Gm)(P:Pr)(H:Hp)(φ:List Ç){a:Type}(Pd:List (a×AV))(ws:List (a×V)):Prop:=Pd.map (·.1)=ws.map (·.1)/\Pi mg P H φ (Pd.map (·.2)) (ws.map (·.2))
def CellR(mg:Gm)(P:Pr)(H:Hp)(φ:List Ç)(a:Ç):Pe->Prop
 |.lst xs=>¬P a/\∃vs,H a=À (.lst vs)/\Pi mg P H φ xs vs
 |.al t=>P a/\RA mg P H [] t (.ref a)
 |.dK Pd=>¬P a/\∃ws,H a=À (.dK ws)/\KVR mg P H φ Pd ws
 |.dT Pd=>¬P a/\∃ws,H a=À (.dT ws)/\KVR mg P H φ Pd ws
 |.ins c fs=>¬P a/\∃C dx ws,mg.mg c=À (.ref C)/\H a=À (.ins C dx ws)/\KVR mg P H φ fs ws
 |.wk Pd=>¬P a/\∃o ws,H a=À (.frz o (.dK ws))/\KVR mg P H φ Pd ws
def Jj(o:Option HO):Prop:=(∀a,o≠À (.tbl a))/\∀f,o≠À (.ext f)
theorem _root_.L2.gZ.new(h:gZ H P pos q)(a:H p=Á):gZ (ah H p o) P pos q:=by
 obtain⟨d,e,t,c⟩:=h;refine⟨d,by rw[ae (bu e a)];exact e,t,?_⟩;rcases c with c|⟨g,f,b⟩
 ·exact .inl c
 ·exact .inr ⟨g,f,by rw[ae (bu b a)];exact b⟩
theorem _root_.L2.gZ.ne(h:gZ H P pos q)(a:H p=Á):P≠p:=by
 obtain⟨b,e,_⟩:=h;exact bu e a
theorem _root_.L2.gZ.wr(h:gZ H P pos q)(b:Jj (H p)):gZ (ah H p o) P pos q:=by
 obtain⟨a,e,t,c⟩:=h;refine⟨a,by rw[ae fun z=>b.1 a (by rw[<- z];exact e)];exact e,t,?_⟩;rcases c with c|⟨g,f,d⟩
 ·exact .inl c
 ·exact .inr ⟨g,f,by rw[ae fun z=>b.2 _ (by rw[<- z];exact d)];exact d⟩
structure Sim[Pf](mg:Gm)(P:Pr)(φ:List Ç)(st:aa)(H:Hp):Prop where
 len:φ.length=st.length
 nd:φ.Nodup
 dom:∀a,P a->H a≠Á
 cd:∀a∈φ,H a≠Á
 cell:∀(k:Nat) c a,st[k]?=À c->φ[k]?=À a->CellR mg P H φ a c
 tb:∀t∈Pf.tb,gZ H t.1 t.2.1 t.2.2/\¬P t.1
section
variable{mg:Gm}{P P':Pr}{H H':Hp}{φ φ':List Ç}{st st':aa}{a:Ç}
theorem KVR.mono{c:Type}{Pd:List (c×AV)}{ws:List (c×V)}(h:KVR mg P H φ Pd ws)(x:∀a,P a->P' a/\H' a=H a)(b:∀(k:Nat) a,φ[k]?=À a->φ'[k]?=À a):KVR mg P' H' φ' Pd ws:=⟨h.1,h.2.mono x b⟩
theorem CellR.mono{c:Pe}(h:CellR mg P H φ a c)(x:∀a,P a->P' a/\H' a=H a)(b:∀(k:Nat) a,φ[k]?=À a->φ'[k]?=À a)(e:H' a=H a)(f:¬P a->¬P' a):CellR mg P' H' φ' a c:=by
 cases c with
 |lst xs=>obtain⟨n,d,r,q⟩:=h;exact⟨f n,d,e.trans r,q.mono x b⟩
 |al t=>exact⟨(x a h.1).1,h.2.mono x fun _ _ z=>z⟩
 |dK Pd=>obtain⟨n,d,r,q⟩:=h;exact⟨f n,d,e.trans r,q.mono x b⟩
 |dT Pd=>obtain⟨n,d,r,q⟩:=h;exact⟨f n,d,e.trans r,q.mono x b⟩
 |ins c fs=>obtain⟨n,C,i,g,m,r,q⟩:=h;exact⟨f n,C,i,g,m,e.trans r,q.mono x b⟩
 |wk Pd=>obtain⟨n,o,g,r,q⟩:=h;exact⟨f n,o,g,e.trans r,q.mono x b⟩
theorem Sim.at[Pf](s:Sim mg P φ st H){k:Nat}(e:st[k]?=À c):∃a,φ[k]?=À a/\CellR mg P H φ a c:=by
 have b:k<φ.length:=by rw[s.len];exact(zB.mp e).1
 exact⟨φ[k],zF b,s.cell k c _ e (zF b)⟩
theorem Sim.notb[Pf](s:Sim mg P φ st H){k:Nat}(d:φ[k]?=À a)(f:¬P a):Jj (H a):=by
 obtain⟨c,g⟩:∃c,st[k]?=À c:=⟨_,zF (by rw[<- s.len];exact(zB.mp d).1)⟩;have h:=s.cell k c a g d;cases c with
 |lst xs=>obtain⟨n,b,r,q⟩:=h;rw[r];exact⟨fun _ z=>(nomatch z),fun _ z=>(nomatch z)⟩
 |al t=>exact absurd h.1 f
 |dK Pd=>obtain⟨n,b,r,q⟩:=h;rw[r];exact⟨fun _ z=>(nomatch z),fun _ z=>(nomatch z)⟩
 |dT Pd=>obtain⟨n,b,r,q⟩:=h;rw[r];exact⟨fun _ z=>(nomatch z),fun _ z=>(nomatch z)⟩
 |ins c fs=>obtain⟨n,C,i,e,m,r,q⟩:=h;rw[r];exact⟨fun _ z=>(nomatch z),fun _ z=>(nomatch z)⟩
 |wk Pd=>obtain⟨n,o,e,r,q⟩:=h;rw[r];exact⟨fun _ z=>(nomatch z),fun _ z=>(nomatch z)⟩
theorem Sim.tnc[Pf](s:Sim mg P φ st H)(a:t∈Pf.tb):t.1∉φ:=fun h=>by
 obtain⟨j,c⟩:=z8 h;obtain⟨b,e,_⟩:=(s.tb t a).1;exact(s.notb c (s.tb t a).2).1 b e
theorem Sim.okeep[Pf](s:Sim mg P φ st H)(f:Frm P φ H P' φ' H')(h:H c=À (ic c q)):H' c=À (ic c q):=by
 by_cases a:P c
 ·exact(f.ext c a).2.trans h
 ·refine(f.keep c (by rw[h];exact fun z=>nomatch z) (fun z=>?_) fun d z=>by rw[h]at z;cases z).trans h
  obtain⟨j,b⟩:=z8 z;exact(s.notb b a).2 _ h
theorem Sim.ckeep[Pf](s:Sim mg P φ st H)(x:∀a,P a->H' a=H a)(k:∀a,H a≠Á->(∀ps,H a≠À (.tbl ps))->H' a=H a):∀a∈φ,H' a=H a:=fun a h=>by
 by_cases b:P a
 ·exact x a b
 ·obtain⟨j,c⟩:=z8 h
  exact k a (s.cd a h) (s.notb c b).1
theorem Sim.stay[Pf](s:Sim mg P φ st H)(x:∀a,P a->P' a/\H' a=H a)(d:∀a∈φ,H' a=H a)(f:∀a∈φ,¬P a->¬P' a)(i:∀a,P' a->H' a≠Á)(e:∀t∈Pf.tb,gZ H' t.1 t.2.1 t.2.2/\¬P' t.1):Sim mg P' φ st H' :=
 ⟨s.len,s.nd,i,fun a h=>by rw[d a h];exact s.cd a h,fun k c a g b=>(s.cell k c a g b).mono x (fun _ _ z=>z) (d a (zW b)) (f a (zW b)),e⟩
theorem Sim.nil[Pf](d:∀a,P a->H a≠Á)(b:∀t∈Pf.tb,gZ H t.1 t.2.1 t.2.2/\¬P t.1):Sim mg P [] [] H:=⟨rfl,U4,d,fun _ h=>by simp at h,fun k c a e _=>by simp at e,b⟩
theorem pL[Pf](s:Sim mg P φ st H)(b:H p=Á):Frm P φ H (fun a=>P a\/a=p) φ (ah H p o)/\Sim mg (fun a=>P a\/a=p) φ st (ah H p o):=by
 have ne:∀a,H a≠Á->a≠p:=fun a h e=>h (by rw[e];exact b)
 have f:Frm P φ H (fun a=>P a\/a=p) φ (ah H p o):=by
  refine⟨fun a h=>⟨.inl h,ae (ne a (s.dom a h))⟩,⟨[],by simp,by simp⟩,fun a h _ _=>ae (ne a h),fun a h=>?_,fun a h=>by rw[ae (ne a h)];exact h,fun a o u h=>by rw[ae (bu h b)];exact h⟩;rcases h with h|h
  ·exact .inl h
  ·exact .inr (.inl (by rw[h];exact b))
 refine⟨f,s.stay f.ext (fun a h=>ae (ne a (s.cd a h))) (fun a h n z=>?_) (fun a h=>?_) fun t c=>⟨(s.tb t c).1.new b,fun z=>z.elim (s.tb t c).2 (fun e=>(s.tb t c).1.ne b e)⟩⟩
 ·rcases z with z|z
  ·exact n z
  ·exact ne a (s.cd a h) z
 ·rcases h with h|h
  ·rw[ae (ne a (s.dom a h))];exact s.dom a h
  ·rw[h,aD];exact fun z=>nomatch z
theorem oY[Pf](s:Sim mg P φ st H)(i:H p=Á)(q:CellR mg P (ah H p o) (φ++[p]) p c):Frm P φ H P (φ++[p]) (ah H p o)/\Sim mg P (φ++[p]) (st++[c]) (ah H p o):=by
 have ne:∀a,H a≠Á->a≠p:=fun a h e=>h (by rw[e];exact i)
 have ex:∀a,P a->P a/\ah H p o a=H a:=fun a h=>⟨h,ae (ne a (s.dom a h))⟩
 have ix:∀(k:Nat) a,φ[k]?=À a->(φ++[p])[k]?=À a:=fun k a e=>by rw[zN (zB.mp e).1];exact e
 have j:∀a,H a≠Á->ah H p o a≠Á:=fun a h=>by rw[ae (ne a h)];exact h
 refine⟨⟨ex,⟨[p],rfl,fun a h=>by rw[zM.mp h];exact i⟩,fun a h _ _=>ae (ne a h),fun a h=>.inl h,j,fun a o u h=>by rw[ae (bu h i)];exact h⟩,?_,?_,fun a h=>j a (s.dom a h),fun a h=>?_,fun k d a g f=>?_,fun t m=>⟨(s.tb t m).1.new i,(s.tb t m).2⟩⟩
 ·rw[zV,zV,s.len];rfl
 ·exact ϧ.mpr ⟨s.nd,(by simp),fun a h b r e=>ne a (s.cd a h) (by rw[e];exact zM.mp r)⟩
 ·rcases zZ.mp h with h|h
  ·exact j a (s.cd a h)
  ·rw[zM.mp h,aD];exact fun z=>nomatch z
 ·by_cases n:k<st.length
  ·rw[zN n]at g
   rw[zN (by rw[s.len];exact n)]at f;exact(s.cell k d a g f).mono ex ix (ae (ne a (s.cd a (zW f)))) fun z=>z
  ·have l:k=st.length:=by
    have:=(zB.mp g).1
    rw[zV]at this;simp at this;lia
   subst l;simp at g;rw[<- s.len]at f;simp at f;subst g;subst f;exact q
theorem jw[Pf]{k:Nat}(s:Sim mg P φ st H)(m:φ[k]?=À a)(q:¬P a)(y:CellR mg P (ah H a o) φ a c)(v:∀o u,H a≠À (.frz o u)):Frm P φ H P φ (ah H a o)/\Sim mg P φ (st.set k c) (ah H a o):=by
 have w:a∈φ:=zW m;have ne:∀b,P b->b≠a:=fun b h e=>q (by rw[<- e];exact h)
 have n:∀b,H b≠Á->ah H a o b≠Á:=fun b h=>by
  by_cases e:b=a
  ·rw[e,aD];exact fun z=>nomatch z
  ·rw[ae e];exact h
 have ex:∀b,P b->P b/\ah H a o b=H b:=fun b h=>⟨h,ae (ne b h)⟩
 refine⟨⟨ex,⟨[],by simp,by simp⟩,fun b _ h _=>ae fun e=>h (by rw[e];exact w),fun b h=>.inl h,n,fun b o u h=>by rw[ae (fun e=>v o u (by rw[<- e];exact h))];exact h⟩,by rw[Ĉ];exact s.len,s.nd,fun b h=>n b (s.dom b h),fun b h=>n b (s.cd b h),fun j d b g f=>?_,fun t r=>⟨(s.tb t r).1.wr (s.notb m q),(s.tb t r).2⟩⟩;by_cases p:j=k
 ·subst p
  rw[m]at f;cases f;rw[ñ (by rw[<- s.len];exact(zB.mp m).1)]at g;cases g;exact y
 ·rw[ï (ç p)]at g
  have A:b≠a:=fun e=>p (by
   subst e;exact nodup_ix' s.nd f m)
  exact(s.cell j d b g f).mono ex (fun _ _ z=>z) (ae A) fun z=>z
where
 nodup_ix' {l:List Ç} (hN:l.Nodup) {i j:Nat}{x:Ç} (a:l[i]?=À x) (b:l[j]?=À x):i=j:=by
  obtain⟨C,g⟩:=zB.mp a;obtain⟨B,f⟩:=zB.mp b;exact(Ÿ hN).mp (g.trans f.symm)
end
open PySem.Spec PyProof.Rows
open DD (PE_imp PT_imp PA_imp PS_imp PSs_imp OpR_imp PW_imp PG_imp)
abbrev St:=L2.St
abbrev _root_.L2.Cx.gm(X:Cx):Gm:=⟨X.K,X.mg⟩
def KG[Pf]{α g:Type}(mg:Gm)(h:Gm->Pr->Hp->List Ç->α->g->Prop)(P:Pr)(φ:List Ç)(H:Hp)(r:Option (α×aa))(Q:g->Hp->Prop):Prop :=
 ∃a d,r=À (a,d)/\∀f c e b,Frm P φ H f c e->Sim mg f c d e->h mg f e c a b->Q b e
def RB{α:Type}(_:Gm)(_:Pr)(_:Hp)(_:List Ç)(a b:α):Prop:=a=b
section
variable{α β γ δ:Type}{mg:Gm}{Ra:Gm->Pr->Hp->List Ç->α->β->Prop}{Rc:Gm->Pr->Hp->List Ç->γ->δ->Prop}{P:Pr}{φ:List Ç}{H:Hp}
theorem KG.bind[Pf]{m:Option (α×aa)}{k:α×aa->Option (γ×aa)}{Q:δ->Hp->Prop}(h:KG mg Rc P φ H (m.bind k) Q) :
  KG mg Ra P φ H m fun b H1=>∃P1 φ1 st1 a,Frm P φ H P1 φ1 H1/\Sim mg P1 φ1 st1 H1/\Ra mg P1 H1 φ1 a b/\KG mg Rc P1 φ1 H1 (k (a,st1)) Q:=by
 obtain⟨c,i,e,q⟩:=h;cases m with
 |none=>cases e
 |some p =>
  obtain⟨a,st1⟩:=p;refine⟨a,st1,rfl,fun P1 φ1 H1 b f s r=>⟨P1,φ1,st1,a,f,s,r,c,i,e,fun o g t d n j l=>q o g t d (f.trans n) j l⟩⟩
theorem KG.pure[Pf]{a:α}{st:aa}{Q:β->Hp->Prop}{b:β}(h:KG mg Ra P φ H (À (a,st)) Q)(s:Sim mg P φ st H)(r:Ra mg P H φ a b):Q b H:=by
 obtain⟨_,_,e,q⟩:=h;cases e;exact q P φ H b Frm.refl s r
theorem KG.map[Pf]{m:Option α}{st:aa}{Q:β->Hp->Prop}(h:KG mg Ra P φ H (m.map fun a=>(a,st)) Q):∃a,m=À a/\KG mg Ra P φ H (À (a,st)) Q:=by
 obtain⟨b,c,e,q⟩:=h;cases m with
 |none=>cases e
 |some a=>exact⟨a,rfl,b,c,e,q⟩
end
def Pn(mg:Gm)(P:Pr)(H:Hp)(φ:List Ç)(sl:Sl)(σ:St):Prop:=sl.length=σ.length/\∀(i:Nat) v,sl[i]?=À (À v)->∃w,σ[i]?=À (À w)/\RA mg P H φ v w
section
variable{mg:Gm}{P P':Pr}{H H':Hp}{φ φ':List Ç}{sl:Sl}{σ:St}
theorem Pn.frm(h:Pn mg P H φ sl σ)(f:Frm P φ H P' φ' H'):Pn mg P' H' φ' sl σ:=⟨h.1,fun i v e=>let⟨w,a,r⟩:=h.2 i v e;⟨w,a,r.frm f⟩⟩
theorem Pn.set(h:Pn mg P H φ sl σ)(r:RA mg P H φ v w)(i:Nat):Pn mg P H φ (sl.set i (À v)) (σ.set i (À w)):=by
 refine⟨by rw[Ĉ,Ĉ];exact h.1,fun j u e=>?_⟩;by_cases a:i=j
 ·subst a
  by_cases b:i<sl.length
  ·rw[ñ b]at e
   cases e;exact⟨w,ñ (by rw[<- h.1];exact b),r⟩
  ·rw[Ù (by rw[Ĉ];lia)]at e;cases e
 ·rw[ï a]at e
  rw[ï a];exact h.2 j u e
end
abbrev EF:=Sl->aa->Option (AV×aa)
abbrev TF:=Sl->aa->Option (Bool×aa)
abbrev AF:=Sl->aa->Option (List AV×aa)
def rE[Pf](mg:Gm)(f:EF):TE:=fun d H Q=>∃P a c b,Pn mg P H a c d/\Sim mg P a b H/\KG mg RA P a H (f c b) Q
def rT[Pf](mg:Gm)(f:TF):TT:=fun d H Q=>∃P a c b,Pn mg P H a c d/\Sim mg P a b H/\KG mg RB P a H (f c b) Q
def rA[Pf](mg:Gm)(f:AF):TA:=fun d H Q=>∃P a c b,Pn mg P H a c d/\Sim mg P a b H/\KG mg Pi P a H (f c b) Q
def QE[Pf](X:Cx)(e:Í)(f:EF):Prop:=PE X e (rE X.gm f)
def QT[Pf](X:Cx)(e:Í)(f:TF):Prop:=PT X e (rT X.gm f)
def QW[Pf](X:Cx)(e:Í)(f:TF):Prop:=PW X e (rT X.gm f)
def QA[Pf](X:Cx)(es:List Í)(f:AF):Prop:=PA X es (rA X.gm f)
noncomputable def aV(i:Nat):EF:=fun b a=>match b[i]? with
 |some (À v)=>À (v,a)
 |_=>Á
noncomputable def aC(v:AV):EF:=fun _ a=>À (v,a)
noncomputable def fZ:AF:=fun _ a=>À ([],a)
noncomputable def gA(f:EF)(g:AF):AF:=fun a b=>(f a b).bind fun p=>(g a p.2).bind fun q=>À (p.1::q.1,q.2)
noncomputable def rW:AV->Option V
 |.non=>À .non
 |.bl b=>À (.bl b)
 |.int i=>À (.int i)
 |.str x=>À (.str x)
 |_=>Á
theorem RA.sc(h:rW v=À w):RA mg P H φ v w:=by
 cases v<;>simp only[rW]at h<;>cases h<;>simp only[RA]
section
variable{X:Cx}{e:Í}{es:List Í}{pos:ę}
theorem GR[Pf]{i:Nat}(g:X.N[i]?=À x)(f:AU X.env.scope x)(hd:(x==("__debug__":Ì))=Ã)(b:(x==("__classdict__":Ì))=Ã):QE X (.Name x pos) (aV i) :=
 PE_imp (Hi g f hd b) fun l H Q a=>by
  refine e7 a fun P j c m r s k=>?_
  unfold aV at k;cases h:c[i]? with
  |none=>rw[h]at k;obtain⟨_,_,e,_⟩:=k;cases e
  |some o =>
   cases o with
   |none=>rw[h]at k;obtain⟨_,_,e,_⟩:=k;cases e
   |some v =>
    rw[h]at k;obtain⟨w,e,d⟩:=r.2 i v h;exact⟨w,e,k.pure s d⟩
theorem tU[Pf](b:rW v=À w)(h:PE X e t)(c:∀σ H Q,Q w H->t σ H Q):QE X e (aC v) :=
 PE_imp h fun σ H Q a=>e7 a fun P d g f r s k=>c σ H Q (k.pure s (RA.sc b))
theorem fy[Pf]:QA X [] fZ:=PA_imp tY fun c H Q a=>e7 a fun P b e d r s k=>k.pure s bO
theorem dj[Pf](F:QE X e f)(E:QA X es g)(D:Ê (e::es) X.env=(Ã,eval e X.env)::Ê es X.env):QA X (e::es) (gA f g) :=
 PA_imp (nB F E D) fun V H Q m=>e7 m fun P U t W r s k=>i7 r s (by
  obtain⟨a,l,M,q⟩:=k.bind (Ra:=RA);refine⟨a,l,M,fun R h T b K x r1=>?_⟩;obtain⟨O,d,j,a2,J,w,r2,C⟩:=q R h T b K x r1;refine⟨O,d,t,j,r.frm J,w,?_⟩;obtain⟨o,i,L,A⟩:=C.bind (Ra:=Pi);refine⟨o,i,L,fun N c S bs I v z=>?_⟩;obtain⟨Z,n,p,Y,G,u,y,B⟩:=A N c S bs I v z;exact B.pure u (bo (r2.frm G) y))
end
noncomputable def a2(f g:EF)(k:AV->AV->aa->Option (AV×aa)):EF:=fun a b=>(f a b).bind fun p=>(g a p.2).bind fun q=>k p.1 q.1 q.2
noncomputable def a1(f:EF)(k:AV->aa->Option (AV×aa)):EF:=fun b a=>(f b a).bind fun p=>k p.1 p.2
def r2[Pf](mg:Gm)(k:AV->AV->aa->Option (AV×aa)):R2:=fun v w H Q=>∃P a b x y,Sim mg P a b H/\RA mg P H a x v/\RA mg P H a y w/\KG mg RA P a H (k x y b) Q
def r1[Pf](mg:Gm)(k:AV->aa->Option (AV×aa)):V->Hp->VK->Prop:=fun v H Q=>∃P a b x,Sim mg P a b H/\RA mg P H a x v/\KG mg RA P a H (k x b) Q
section
variable{mg:Gm}{k:AV->AV->aa->Option (AV×aa)}{k1:AV->aa->Option (AV×aa)}{f g:EF}
theorem xX[Pf](q:rE mg (a2 f g k) σ H Q):yu (r2 mg k) (rE mg f) (rE mg g) σ H Q:=by
 refine e7 q fun P U o V n s A=>?_
 refine i7 n s ?_;obtain⟨a,m,J,q⟩:=A.bind (Ra:=RA);refine⟨a,m,J,fun R h T b G u r1=>?_⟩;obtain⟨O,e,l,x,F,t,r2,C⟩:=q R h T b G u r1;refine⟨O,e,o,l,n.frm F,t,?_⟩;obtain⟨L,j,I,z⟩:=C.bind (Ra:=RA);refine⟨L,j,I,fun N d S K E r w=>?_⟩;obtain⟨M,c,i,y,D,p,v,B⟩:=z N d S K E r w;exact⟨M,c,i,x,y,p,r2.frm D,v,B⟩
theorem Nh[Pf](q:rE mg (a1 f k1) σ H Q):Lz (r1 mg k1) (rE mg f) σ H Q:=by
 refine e7 q fun P t v u j s k=>?_
 refine i7 j s ?_;obtain⟨a,g,n,q⟩:=k.bind (Ra:=RA);refine⟨a,g,n,fun p d r b m i r1=>?_⟩;obtain⟨o,c,e,x,w,h,r2,l⟩:=q p d r b m i r1;exact⟨o,c,e,x,h,r2,l⟩
end
noncomputable def mv(h:aa->AV->AV->Option AV):AV->AV->aa->Option (AV×aa):=fun x y a=>(h a x y).map fun z=>(z,a)
noncomputable def Go(h:aa->AV->Option AV):AV->aa->Option (AV×aa):=fun x a=>(h a x).map fun z=>(z,a)
noncomputable def eI(a b:Int):Bool:=(å a.natAbs.log2 62||Nat.ble b.natAbs.log2 62)||(å a.natAbs.log2 1000000&&å b.natAbs.log2 1000000)
noncomputable def fE(b:Int):Bool:=!(b==0)&&å b.natAbs.log2 8999
noncomputable def xc(a b:Int):Bool:=decide (0<=b)&&å b.natAbs 100000&&å a.natAbs.log2 62
noncomputable def wx(a b:Int):Int:=if 0<b then a/b else a.fdiv b
noncomputable def mR(a b:Int):Int:=if 0<b then a%b else a.fmod b
def vp:Ğ->Int->Int->Option Int
 |.Add,a,b=>À (a+b)
 |.Sub,a,b=>À (a-b)
 |.Mult,a,b=>if eI a b=Â then À (a*b) else Á
 |.FloorDiv,a,b=>if fE b=Â then À (wx a b) else Á
 |.Mod,a,b=>if b=0 then Á else À (mR a b)
 |.Pow,a,b=>if xc a b=Â then À (a^b.toNat) else Á
 |.LShift,a,b=>if xc a b=Â then À (a*2^b.toNat) else Á
 |.RShift,a,b=>if 0<=b then À (a/2^b.toNat) else Á
 |.BitAnd,a,b=>À (Builtin.bitAnd a b)
 |.BitOr,a,b=>À (Builtin.bitOr a b)
 |.BitXor,a,b=>À (Builtin.bitXor a b)
 |_,_,_=>Á
def aW(o:Ğ)(_:aa):AV->AV->Option AV
 |.int a,.int b=>(vp o a b).map .int
 |.str a,.str b=>if(decide (o=.Add)&&å (a.length+b.length) 1000000)=Â then À (.str (a++b)) else Á
 |_,_=>Á
theorem log2_lt{n k:Nat}(h:å n.log2 k=Â):n<2^(k+1):=by
 by_cases a:n=0
 ·subst a;exact Ñ _
 ·exact(č a).mp (ϭ (zS h))
theorem nV{a:Int}{k:Nat}(h:a.natAbs<2^k):h? a<=k:=by
 unfold h?;split
 ·lia
 ·rename_i b
  have:a.natAbs.log2<k:=(č (by simpa using b)).mpr h;lia
theorem E9{a b:Int}(h:eI a b=Â):IntMulOk a b:=by
 unfold eI at h;rcases Ϛ.mp h with h|h
 ·rcases Ϛ.mp h with h|h
  ·exact .of_left (z5 (nV (log2_lt h)) dC)
  ·exact .of_right (z5 (nV (log2_lt h)) dC)
 ·obtain⟨d,c⟩:=Ŕ.mp h
  exact .of_bits (z5 (nV (log2_lt d)) dC) (z5 (nV (log2_lt c)) dC)
theorem Fz{b:Int}(h:fE b=Â):b≠0/\b.natAbs.log2<9000:=by
 unfold fE at h;obtain⟨c,a⟩:=Ŕ.mp h;exact⟨by simpa using c,ϭ (zS a)⟩
theorem IQ(a b:Int):a.fdiv b=wx a b:=by
 unfold wx;split
 ·exact j? _ oM
 ·rfl
theorem IJ(a b:Int):a.fmod b=mR a b:=by
 unfold mR;split
 ·exact Int.fmod_eq_emod_of_nonneg _ oM
 ·rfl
theorem vW{a b:Int}(h:xc a b=Â):Nk a b:=by
 unfold xc at h;simp only[zC,yB]at h;obtain⟨⟨e,c⟩,d⟩:=h;have c:=zS c;exact⟨e,by lia,zJ (log2_lt d) dC⟩
def MO(o:Ğ):R2:=fun x y H Q=>(∃i j k,x=.int i/\y=.int j/\vp o i j=À k/\Q (.int k) H)\/(o=.Add/\∃i j,x=.str i/\y=.str j/\i.length+j.length<=Ë/\Q (.str (i++j)) H)
section
variable{X:Cx}
theorem Hy(o:Ğ):mY X (ϋ o) (MO o):=by
 have l:∀(h:∀i j k t u s (Q:Å->É->Prop) (E:Å->É->Prop),vp o i j=À k->Q (.int k s.toks) { s with toks:=s.toks+1 }->Î (model X.prog X.w) X.A (ϋ o (.int i t) (.int j u)) Q E s)
   (d:List (Ç×Obj)) (s:É) (b:St) (H:Hp) (x y:V) (v u:Å) (Q:VK),Inv X d b H s->RelV x v->RelV y u->(∃i j k,x=.int i/\y=.int j/\vp o i j=À k/\Q (.int k) H) ->
   Î (model X.prog X.w) X.A (ϋ o v u) (EP X d b Q) X.xe s:=by
  rintro h d s b H x y v u Q I rx f ⟨i,j,k,w,r,p,q⟩;subst w;subst r;obtain⟨t,rfl⟩:=rx;obtain⟨g,rfl⟩:=f;exact h i j k t g s _ _ p ⟨.int k,H,I.tok _,⟨_,rfl⟩,q⟩
 intro d s b H x y v u Q I rx f h;rcases h with h|⟨rfl,h⟩
 ·refine l ?_ d s b H x y v u Q I rx f h
  intro i j k t u s Q E e q;cases o<;>simp only[vp]at e
  case Add=>cases e;exact add_int q
  case Sub=>cases e;exact sub_int q
  case Mult =>
   split at e
   ·rename_i a;cases e;exact mul_int q (E9 a)
   ·cases e
  case FloorDiv =>
   split at e
   ·rename_i a;cases e
    obtain⟨n,m⟩:=Fz a;exact floordiv_int n (by rw[IQ];exact q) (.inl (PyProof.noPylong_of_log2 m))
   ·cases e
  case Mod =>
   split at e
   ·cases e
   ·rename_i a;cases e
    exact mod_int' a (by rw[IJ];exact q)
  case Pow =>
   split at e
   ·rename_i a;cases e
    have c:=vW a;exact pow_int_small c.1 c.2.1 c.2.2 q
   ·cases e
  case LShift =>
   split at e
   ·rename_i a;cases e
    have c:=vW a;exact lshift_int_small c.1 c.2.1 c.2.2 q
   ·cases e
  case RShift =>
   split at e
   ·rename_i a;cases e
    exact rshift_int a (by rw[j? _ (wP _)];exact q)
   ·cases e
  case BitAnd=>cases e;exact and_int q
  case BitOr=>cases e;exact or_int q
  case BitXor=>cases e;exact xor_int q
  all_goals cases e
 ·exact xh d s b H x y v u Q I rx f h
theorem HB[Pf](o:Ğ):mY X (ϋ o) (r2 X.gm (mv (aW o))):=OpR_imp (Hy o) fun v w H Q d=>by
 obtain ⟨P,i,j,x,y,s,r1,r2,k⟩:=d;obtain ⟨z,e,k⟩:=k.map;cases x <;> cases y <;> simp only [aW] at e <;> first | (cases e;done) | skip
 ·rename_i a b
  simp only[RA]at r1 r2;obtain⟨c,h,g⟩:=zE.mp e;subst g;exact .inl ⟨a,b,c,r1,r2,h,k.pure s (by simp only[RA])⟩
 ·rename_i a b
  simp only[RA]at r1 r2;split at e
  ·rename_i f
   cases e;simp only[zC,yB]at f;exact .inr ⟨f.1,a,b,r1,r2,z5 (zS f.2) dC,k.pure s (by simp only[RA])⟩
  ·cases e
theorem GZ[Pf](d:QE X a f)(c:QE X b g):QE X (.BinOp a o b pos) (a2 f g (mv (aW o))) :=
 PE_imp (xg (HB o) d c) fun _ _ _ q=>xX q
end
open DD (pyOk reads_each any_vals obj_list obj_tup)
noncomputable def dr(st:aa):AV->AV
 |.ref k=>match st[k]? with
  |some (.al t)=>t
  |_=>.ref k
 |v=>v
def cw(st:aa)(v:AV):Option (List AV):=match dr st v with
 |.fz a=>À a
 |.ref k=>match st[k]? with
  |some (.lst a)=>À a
  |_=>Á
 |_=>Á
def jQ(st:aa)(v:AV):Option (List AV):=match dr st v with
 |.tup xs=>À xs
 |_=>Á
section
variable{mg:Gm}{P:Pr}{φ:List Ç}{st:aa}{H:Hp}{v:AV}{w:V}{xs:List AV}
theorem RA.dr[Pf](s:Sim mg P φ st H)(r:RA mg P H φ v w):RA mg P H φ (dr st v) w:=by
 cases v with
 |ref k =>
  unfold R.dr;dsimp only;split
  ·rename_i t h
   obtain⟨a,e,c⟩:=s.at h;simp only[RA]at r;obtain⟨d,b,rfl⟩:=r;rw[e]at b;cases b;exact c.2.lift
  ·exact r
 |_=>exact r
theorem RA.ls[Pf](s:Sim mg P φ st H)(r:RA mg P H φ v w)(h:cw st v=À xs):∃a vs,w=.ref a/\cb mg.K H a vs/\Pi mg P H φ xs vs:=by
 have r:=r.dr s;unfold cw at h;split at h
 ·rename_i g e
  cases h;rw[e]at r;simp only[RA]at r;obtain⟨a,vs,d,b,q⟩:=r;exact⟨a,vs,d,b.sq,q.lift⟩
 ·rename_i k e
  rw[e]at r;simp only[RA]at r;obtain⟨a,d,b⟩:=r;split at h
  ·rename_i g l
   cases h;obtain⟨m,f,c⟩:=s.at l;rw[d]at f;cases f;obtain⟨_,vs,j,i⟩:=c;exact⟨a,vs,b,.inl (.inl j),i⟩
  ·cases h
 ·cases h
theorem RA.tp[Pf](s:Sim mg P φ st H)(r:RA mg P H φ v w)(h:jQ st v=À xs):∃a vs,w=.ref a/\H a=À (.tup vs)/\Pi mg P H φ xs vs:=by
 have r:=r.dr s;unfold jQ at h;split at h
 ·rename_i d e
  cases h;rw[e]at r;simp only[RA]at r;obtain⟨a,vs,c,_,b,q⟩:=r;exact⟨a,vs,c,b,q⟩
 ·cases h
end
noncomputable def aT{α β:Type}(f:α->Option β):List α->Option (List β)
 |[]=>À []
 |x::xs=>(f x).bind fun y=>(aT f xs).map fun ys=>y::ys
theorem dO{α b a:Type}{f:α->Option b}{i:a->α}{g:a->b}(h:∀x,f (i x)=À (g x))(xs:List a):aT f (xs.map i)=À (xs.map g):=by
 induction xs with
 |nil=>rfl
 |cons x xs c=>simp only[zO,aT,h,c,Ä,Ð]
def cE:Nat->aa->AV->Option ņ
 |_,_,.non=>À .none
 |_,_,.bl b=>À (.bool b)
 |_,_,.int i=>À (.int i)
 |_,_,.str x=>À (.str x)
 |n+1,st,.fz xs=>(aT (cE n st) xs).map .list
 |n+1,st,.tup xs=>(aT (cE n st) xs).map .tuple
 |n+1,st,.ref k=>match st[k]? with
  |some (.lst xs)=>(aT (cE n st) xs).map .list
  |some (.al t)=>cE n st t
  |_=>Á
 |0,_,_=>Á
section
variable{X:Cx}{Pc:List (Ç×Obj)}{σ:St}{H:Hp}{s:É}{P:Pr}{φ:List Ç}{st:aa}
theorem tQ[Pf]{n:Nat}(g:∀t v p u,RA mg P H φ t v->cE n st t=À p->RelV v u->∃as,Ż s.heap u p as) :
  ∀{xs:List AV}{vs:List V}{ps:List ņ}{us:List Å},Pi mg P H φ xs vs->aT (cE n st) xs=À ps->Vals vs us->∃as,c? s.heap us ps as:=by
 intro xs
 induction xs with
 |nil =>
  intro vs ps us r e q;simp only[Pi]at r;subst r;cases e;cases q;exact⟨_,.nil⟩
 |cons x xs a =>
  intro vs ps us r e q;simp only[Pi]at r;obtain⟨v,l,rfl,r1,r2⟩:=r;simp only[aT]at e;obtain⟨p,k,j⟩:=zA e;obtain⟨m,i,h⟩:=zE.mp j;subst h;cases q with
  |cons f d =>
   obtain⟨as,c⟩:=g x v p _ r1 k f;obtain⟨bs,b⟩:=a r2 i d;exact⟨_,.cons c b⟩
theorem iU[Pf](I:L2.Inv X Pc σ H s)(E:Sim X.gm P φ st H):∀(n:Nat)(t:AV)(v:V)(p:ņ)(u:Å),RA X.gm P H φ t v->cE n st t=À p->RelV v u->∃as,Ż s.heap u p as:=by
 have lst:∀{a:Ç}{g:List V}{u:Å}{y:List ņ},cb X.K H a g->RelV (.ref a) u->(∀{D:List Å},Vals g D->∃as,c? s.heap D y as)->∃as,Ż s.heap u (.list y) as:=by
  intro a g u y h d k;cases d;obtain⟨Q,G,m,j,o,l,N⟩:=obj_list I h;obtain⟨as,A⟩:=k j;exact⟨_,.list o l N A⟩
 have flat:∀(n:Nat)(t:AV)(v:V)(p:ņ)(u:Å)(w:V),rW t=À w->RA X.gm P H φ t v->cE n st t=À p->RelV v u->∃as,Ż s.heap u p as:=by
  intro n t v p u w J r e d;cases t with
  | non=>cases n <;> (simp only [cE] at e;cases e;simp only [RA] at r;subst r;cases d;exact ⟨_,.none⟩)
  | bl b=>cases n <;> (simp only [cE] at e;cases e;simp only [RA] at r;subst r;cases d;exact ⟨_,.bool b⟩)
  | int i=>cases n <;> (simp only [cE] at e;cases e;simp only [RA] at r;subst r;obtain ⟨t,rfl⟩:=d;exact ⟨_,.int i t⟩)
  | str x=>cases n <;> (simp only [cE] at e;cases e;simp only [RA] at r;subst r;obtain ⟨t,rfl⟩:=d;exact ⟨_,.str x t⟩)
  |_=>cases J
 intro n
 induction n with
 |zero =>
  intro t v p u r e d;cases t with
  |non=>exact flat 0 _ v p u _ rfl r e d
  |bl b=>exact flat 0 _ v p u _ rfl r e d
  |int i=>exact flat 0 _ v p u _ rfl r e d
  |str x=>exact flat 0 _ v p u _ rfl r e d
  |_=>simp only[cE]at e;cases e
 |succ n z =>
  intro t v p u r e d;cases t with
  |non=>exact flat _ _ v p u _ rfl r e d
  |bl b=>exact flat _ _ v p u _ rfl r e d
  |int i=>exact flat _ _ v p u _ rfl r e d
  |str x=>exact flat _ _ v p u _ rfl r e d
  |fz C =>
   simp only[cE]at e;obtain⟨y,o,l⟩:=zE.mp e;subst l;simp only[RA]at r;obtain⟨a,g,rfl,h,q⟩:=r;exact lst h.sq d fun j=>tQ z q.lift o j
  |tup C =>
   simp only [cE] at e;obtain ⟨y,o,l⟩:=zE.mp e;subst l;simp only [RA] at r;obtain ⟨a,g,rfl,_,h,q⟩:=r;cases d;obtain ⟨Q,G,m,j,M,L,K⟩:=obj_tup I (show iA X.K H a g from .inl (.inl h));obtain ⟨as,A⟩:=tQ z q o j;exact ⟨_,.tuple M L K A⟩
  |ref k =>
   simp only[cE]at e;simp only[RA]at r;obtain⟨a,F,rfl⟩:=r;split at e
   ·rename_i C B
    obtain⟨y,o,l⟩:=zE.mp e;subst l;obtain⟨O,f,c⟩:=E.at B;rw[F]at f;cases f;obtain⟨_,g,h,q⟩:=c;exact lst (.inl (.inl h)) d fun j=>tQ z q o j
   ·rename_i t B
    obtain⟨O,f,c⟩:=E.at B;rw[F]at f;cases f;exact z t _ p u c.2.lift e d
   ·cases e
end
noncomputable def Bo:ņ->Option Ì
 |.str a=>À a
 |_=>Á
theorem vS{p:ņ}{a:Ì}(h:Bo p=À a):p=.str a:=by
 cases p with
 |str b=>cases h;rfl
 |_=>cases h
def ME(p q:ņ):Option Bool:=(Bo p).bind fun a=>(Bo q).map fun b=>a==b
def i8(st:aa)(x y:AV):Option Bool:=(cE 9 st x).bind fun p=>(cE 9 st y).bind fun q=>if pyOk p q=Â then À (ß p q) else ME p q
noncomputable def lH:AV->Option ba
 |.int i=>À (.inl i)
 |.str x=>À (.inr x)
 |_=>Á
noncomputable def oU{a:Type}[DecidableEq a](Pd:List (a×AV))(k:a):Option AV:=(Pd.find? fun b=>decide (b.1=k)).map (·.2)
noncomputable def j7(st:aa):AV->Option (List (ba×AV))
 |.ref k=>match st[k]? with
  |some (.dK Pd)=>À Pd
  |_=>Á
 |_=>Á
noncomputable def oE(st:aa):AV->Option (List (List ba×AV))
 |.ref k=>match st[k]? with
  |some (.dT Pd)=>À Pd
  |_=>Á
 |_=>Á
def o9(st:aa)(y x:AV):Option (Option AV):=match j7 st y with
 |some a=>(lH x).map fun k=>oU a k
 |none=>match oE st y with
  |some a=>match x with
   |.tup xs=>(aT lH xs).map fun k=>oU a k
   |_=>Á
  |none=>Á
def uB(st:aa)(x y:AV):Option Bool:=match o9 st y x with
 |some o=>À o.isSome
 |none=>match x,y with
  |.str a,.str b=>À (!(Builtin.Str.occurrences b a 0 b.length 1).isEmpty)
  |_,_=>(cE 9 st x).bind fun q=>(cE 9 st y).bind fun p=>match p with
   |.list ps=>if(ps.all fun r=>pyOk r q)=Â then À (ps.any fun r=>ß r q) else Á
   |.tuple ps=>if(ps.all fun r=>pyOk r q)=Â then À (ps.any fun r=>ß r q) else Á
   |_=>Á
noncomputable def BW:ϣ->Int->Int->Option Bool
 |.Lt,a,b=>À (decide (a<b))
 |.LtE,a,b=>À (decide (a<=b))
 |.Gt,a,b=>À (decide (b<a))
 |.GtE,a,b=>À (decide (b<=a))
 |_,_,_=>Á
noncomputable def HD:AV->Bool
 |.non=>Â
 |_=>Ã
def Il(x y:AV):Option Bool:=match y with
 |.non=>À (HD x)
 |.bl b=>(match x with
  |.bl a=>À (a==b)
  |_=>Á)
 |_=>Á
def aY(o:ϣ)(st:aa)(x y:AV):Option Bool:=match o with
 |.Eq=>i8 st x y
 |.NotEq=>(i8 st x y).map (!·)
 |.Is=>Il x y
 |.IsNot=>(Il x y).map (!·)
 |.In=>uB st x y
 |.NotIn=>(uB st x y).map (!·)
 |o=>match x,y with
  |.int a,.int b=>BW o a b
  |_,_=>Á
def pf(o:ϣ)(st:aa)(x y:AV):Option AV:=(aY o st x y).map .bl
theorem qO(h:pyOk p q=Â):p.canLay0=Â/\q.canLay0=Â/\min p.depth q.depth<=50:=by
 simp only[pyOk,zC,yB]at h;exact⟨h.1.1,h.1.2,h.2⟩
theorem lA{P:Pr}{H:Hp}{φ:List Ç}{a:Type}[DecidableEq a]{Pd:List (a×AV)}{ws:List (a×V)}(h:KVR mg P H φ Pd ws)(k:a) :
  (oU Pd k).isSome=(fR ws k).isSome/\∀v,oU Pd k=À v->∃w,fR ws k=À w/\RA mg P H φ v w:=by
 induction Pd generalizing ws with
 |nil =>
  have:ws=[]:=by simpa using h.1.symm
  subst this;exact⟨rfl,fun v e=>by cases e⟩
 |cons p Pd f =>
  cases ws with
  |nil=>exact absurd h.1 (by simp)
  |cons q ws =>
   obtain⟨d,b⟩:=h;rw[zO,zO]at d b;injection d with h3 h4;simp only[Pi]at b;obtain⟨v,m,l,j,i⟩:=b;injection l with h8 h9;subst h8;subst h9;by_cases e:q.1=k
   ·have c:p.1=k:=h3.trans e
    simp only[oU,fR,ĉ,e,c,decide_true,Ð];refine⟨rfl,fun v g=>?_⟩;cases g;exact⟨_,rfl,j⟩
   ·have c:¬p.1=k:=fun z=>e (h3.symm.trans z)
    have:=f (ws:=ws) ⟨h4,i⟩
    simp only[oU,fR,ĉ,e,c,decide_false]at this ⊢;exact this
section
variable{X:Cx}{Pc:List (Ç×Obj)}{σ:St}{H:Hp}{s:É}{P:Pr}{φ:List Ç}{st:aa}
theorem o7(h:lH x=À k)(r:RA mg P H φ x v):v=kV k:=by
 cases x <;> simp only [lH] at h <;> first | (cases h;done) | skip
 ·cases h;simp only[RA]at r;exact r
 ·cases h;simp only[RA]at r;exact r
theorem sj[Pf]:∀{xs:List AV}{vs:List V}{k:List ba},aT lH xs=À k->Pi mg P H φ xs vs->vs=k.map kV:=by
 intro xs
 induction xs with
 |nil=>intro vs k e r;cases e;simp only[Pi]at r;exact r
 |cons x xs a =>
  intro vs k e r;simp only[aT]at e;obtain⟨p,f,d⟩:=zA e;obtain⟨h,c,b⟩:=zE.mp d;subst b;simp only[Pi]at r;obtain⟨v,g,rfl,r1,r2⟩:=r;rw[o7 f r1,a c r2];rfl
theorem uH[Pf](r:Sim X.gm P φ st H){x y:AV}{v w:V}{o:Option AV}(h:o9 st y x=À o)(rx:RA X.gm P H φ x v)(i:RA X.gm P H φ y w) :
  ∃a o',w=.ref a/\DGet H a v o'/\o.isSome=o'.isSome/\∀t,o=À t->∃u,o'=À u/\RA X.gm P H φ t u:=by
 unfold o9 at h;split at h
 ·rename_i C e
  obtain ⟨k,q,p⟩:=zE.mp h;subst p;cases y <;> simp only [j7] at e <;> first | (cases e;done) | skip
  split at e
  ·rename_i j g n
   cases e;simp only[RA]at i;obtain⟨a,m,rfl⟩:=i;obtain⟨B,d,c⟩:=r.at n;rw[m]at d;cases d;obtain⟨_,z,l,f⟩:=c
   have:=o7 q rx
   subst this;exact⟨a,_,rfl,DGet.k l,(lA f k).1,(lA f k).2⟩
  ·cases e
 ·split at h
  ·rename_i C e
   split at h
   ·rename_i D
    obtain ⟨k,q,p⟩:=zE.mp h;subst p;cases y <;> simp only [oE] at e <;> first | (cases e;done) | skip
    split at e
    ·rename_i j g n
     cases e;simp only[RA]at i;obtain⟨a,m,rfl⟩:=i;obtain⟨B,d,c⟩:=r.at n;rw[m]at d;cases d;obtain⟨_,z,l,f⟩:=c;simp only[RA]at rx;obtain⟨b,E,rfl,_,s,A⟩:=rx;rw[sj q A]at s;exact⟨a,_,rfl,DGet.t l s,(lA f k).1,(lA f k).2⟩
    ·cases e
   ·cases h
  ·cases h
theorem uA(B:X.A.units+64<Š){v:Å}{q:ņ}{a bs:List Ç}{ps:List ņ}{items:Array Å}(n:Ż s.heap v q a)(k:c? s.heap items.toList ps bs)(x:(ps.all fun r=>pyOk r q)=Â) :
  ∃e:Å->Bool,(∀z∈items,SeqAt.EqAt X.A.in1 s z v (e z))/\items.any e=ps.any fun r=>ß r q:=by
 classical
 have j:∀z d b,Ż s.heap z d b->decide (∃p a,Ż s.heap z p a/\ß p q=Â)=ß d q:=by
  intro z d b c;rcases he:ß d q with _|_
  ·refine z9 ?_
   rintro⟨t,i,o,l⟩
   have:=(i? c t i o).1
   rw[<- this,he]at l;cases l
  ·exact yV ⟨d,b,c,he⟩
 refine⟨fun z=>decide (∃p a,Ż s.heap z p a/\ß p q=Â),fun z hz=>?_,?_⟩
 ·obtain⟨f,b,g,c⟩:=reads_each k z (by simpa using hz)
  obtain⟨w,u,A⟩:=qO (yQ.mp x f g);dsimp only;rw[j z f b c];exact Ϸ f q _ s z v b a c n w u (by simp only[Around.in1_units];lia)
 ·have y:=any_vals (q:=q) (e:=fun z=>decide (∃p a,Ż s.heap z p a/\ß p q=Â)) (h:=s.heap) (fun v p a m=>j v p a m) k
  rw[<- y];simp
theorem wl[Pf](J:X.A.units+64<Š)(I:L2.Inv X Pc σ H s)(A:Sim X.gm P φ st H){x y:AV}{v w:V}{u r:Å}{b:Bool}(h:uB st x y=À b)(rx:RA X.gm P H φ x v)(l:RA X.gm P H φ y w)(m:RelV v u)(B:RelV w r){E:Å->É->Prop}
  {Q:Å->É->Prop}{Q':Å->É->Prop} (z:∀s',L2.Inv X Pc σ H s'->Q (.bool b) s') (d:∀s',L2.Inv X Pc σ H s'->Q' (.bool (!b)) s') :
  Î (model X.prog X.w) X.A (đ .In u r) Q E s/\Î (model X.prog X.w) X.A (đ .NotIn u r) Q' E s:=by
 unfold uB at h;split at h
 ·rename_i o e
  cases h;obtain⟨a,S,rfl,g,K,_⟩:=uH A e rx l;cases B;exact⟨Na oM I g m fun s' D=>by rw[<- K];exact z s' D,FA oM I g m fun s' D=>by rw[<- K];exact d s' D⟩
 ·split at h
  ·rename_i a c
   cases h;simp only[RA]at rx l;subst rx;subst l;obtain⟨t,rfl⟩:=m;obtain⟨R,rfl⟩:=B;exact⟨in_str (z s I),notIn_str (d s I)⟩
  ·obtain⟨q,O,N⟩:=zA h
   obtain⟨p,M,f⟩:=zA N;obtain⟨T,G⟩:=iU I A 9 _ _ _ _ rx O m;obtain⟨bs,F⟩:=iU I A 9 _ _ _ _ l M B;split at f
   ·rename_i L
    split at f
    ·rename_i C
     cases f;cases F with
     |@list a o items n xs as' hg hc hdt rall =>
      obtain⟨e,j,k⟩:=uA J G rall C;have i:s.heap.IsList a items:=⟨o,hg,hc,n,hdt⟩;exact⟨SeqAt.in_listAt e i j (by rw[k];exact z s I),SeqAt.notIn_listAt e i j (by rw[k];exact d s I)⟩
    ·cases f
   ·rename_i L
    split at f
    ·rename_i C
     cases f;cases F with
     |@tuple a o items n xs as' hg hc hdt rall =>
      obtain⟨e,j,k⟩:=uA J G rall C;have i:IsTup s.heap a items:=⟨o,hg,hc,n,hdt⟩;exact⟨SeqAt.in_tupleAt e i j (by rw[k];exact z s I),SeqAt.notIn_tupleAt e i j (by rw[k];exact d s I)⟩
    ·cases f
   ·cases f
end
section
variable{X:Cx}
theorem g_{T:Prop}(h:∀G:Prop,(T->G)->G):T:=h _ id
theorem zv[Pf](T:X.A.units+64<Š)(o:ϣ):mY X (đ o) (r2 X.gm (mv (pf o))):=by
 rintro S s F H v w u r Q I m n ⟨P,φ,Y,x,y,l,rx,j,k⟩;obtain⟨z,e,k⟩:=k.map;obtain⟨b,g,e2⟩:=zE.mp e;subst e2;have ay:∀J,L2.Inv X S F H J->EP X S F Q (.bool b) J:=fun J I'=>⟨.bl b,H,I',rfl,k.pure l (by simp only[RA])⟩
 have f:∀{o:Option Bool},o.map (!·)=À b->∃c,o=À c/\b=!c:=fun h=>by
  obtain⟨c,i,R⟩:=zE.mp h;exact⟨c,i,R.symm⟩
 have D:∀{c:Bool},i8 Y x y=À c->∀{Q:Å->É->Prop}{E:Å->É->Prop},(Q (.bool c) s->Î (model X.prog X.w) X.A (đ .Eq u r) Q E s)/\(Q (.bool (!c)) s->Î (model X.prog X.w) X.A (đ .NotEq u r) Q E s):=by
  intro c h Q E;clear k ay f g e;refine g_ fun G bk=>?_
  unfold i8 at h;obtain⟨p,i,R⟩:=zA h;obtain⟨q,O,N⟩:=zA R;split at N
  ·rename_i hk
   cases N;obtain⟨W,V,hd⟩:=qO hk;obtain⟨as,C⟩:=iU I l 9 _ _ _ _ rx i m;obtain⟨bs,B⟩:=iU I l 9 _ _ _ _ j O n;exact bk ⟨fun q=>SeqAt.eqOverData _ _ _ _ _ _ _ _ _ _ _ _ C B W V oM q,fun q=>SeqAt.neOverData _ _ _ _ _ _ _ _ _ _ _ _ C B W V oM q⟩
  ·obtain⟨a,ha,h5⟩:=zA N
   obtain⟨b,hb,h6⟩:=zE.mp h5;subst h6;rw[vS ha]at i;rw[vS hb]at O;obtain⟨as,C⟩:=iU I l 9 _ _ _ _ rx i m;obtain⟨bs,B⟩:=iU I l 9 _ _ _ _ j O n;cases C;cases B;exact bk ⟨fun q=>eq_str q,fun q=>ne_str q⟩
 have L:∀{c:Bool},Il x y=À c->∀{Q:Å->É->Prop}{E:Å->É->Prop},(Q (.bool c) s->Î (model X.prog X.w) X.A (đ .Is u r) Q E s)/\(Q (.bool (!c)) s->Î (model X.prog X.w) X.A (đ .IsNot u r) Q E s):=by
  intro c h Q E;clear k ay f g e D l;have nn:y=.non->c=(u==š)->(Q (.bool c) s->Î (model X.prog X.w) X.A (đ .Is u r) Q E s)/\(Q (.bool (!c)) s->Î (model X.prog X.w) X.A (đ .IsNot u r) Q E s):=fun M U=>by
   subst M;simp only[RA]at j;subst j;cases n;exact⟨fun q=>is_none_gen (by rw[<- U];exact q),fun q=>isnot_none_gen (by rw[<- U];exact q)⟩
  cases y with
  |non =>
   have h:À (HD x)=À c:=h;cases h;refine nn rfl ?_;cases x with
   |non=>simp only[RA]at rx;subst rx;cases m;rfl
   | _=>rw [RelV.none_iff m];refine (z9 fun hv=>?_).symm;subst hv;simp only [RA] at rx;first | (cases rx;done) | (obtain ⟨_,_,z,_⟩:=rx;cases z;done) | (obtain ⟨_,_,z⟩:=rx;cases z;done)
  |bl d=>cases x with
   |bl a =>
    cases h;simp only[RA]at rx j;subst rx;subst j;cases m;cases n;cases a<;>cases d<;>exact⟨fun q=>yF q,fun q=>yF q⟩
   |_=>exact nomatch h
  |_=>exact nomatch h
 have K:∀{a c:Int},x=.int a->y=.int c->BW o a c=À b->Î (model X.prog X.w) X.A (đ o u r) (EP X S F Q) X.xe s:=by
  intro a c Z M A;clear D L f k g e l;subst Z;subst M;simp only [RA] at rx j;subst rx;subst j;obtain ⟨t,rfl⟩:=m;obtain ⟨t',rfl⟩:=n;cases o <;> simp only [BW] at A <;> first | (cases A;done) | skip
  ·cases A;exact lt_int (ay s I)
  ·cases A;exact le_int (ay s I)
  ·cases A;exact gt_int (ay s I)
  ·cases A;exact ge_int (ay s I)
 cases o<;>simp only[aY]at g
 case Eq=>exact(D g).1 (ay s I)
 case NotEq=>obtain⟨c,i,rfl⟩:=f g;exact(D i).2 (ay s I)
 case Is=>exact(L g).1 (ay s I)
 case IsNot=>obtain⟨c,i,rfl⟩:=f g;exact(L i).2 (ay s I)
 case In=>exact(wl T I l g rx j m n (Q':=fun _ _=>True) ay fun _ _=>trivial).1
 case NotIn=>obtain⟨c,i,rfl⟩:=f g;exact(wl T I l i rx j m n (Q:=fun _ _=>True) (fun _ _=>trivial) ay).2
 all_goals
  split at g
  ·exact K rfl rfl g
  ·cases g
noncomputable def nD(a:ϣ)(b:Í):Bool:=!(ϯ a b)
theorem ui(h:nD op b=Â):ϯ op b=Ã:=by simpa [nD] using h
theorem GY[Pf](c:X.A.units+64<Š)(h:QE X a f)(e:QE X b g)(d:nD o b=Â):QE X (.Compare a [o] [b] pos) (a2 f g (mv (pf o))) :=
 PE_imp (EZ (zv c o) h e (ui d)) fun _ _ _ q=>xX q
def Gg(f g:EF)(o:ϣ):TF:=fun a c=>(f a c).bind fun p=>(g a p.2).bind fun q=>(aY o q.2 p.1 q.1).map fun b=>(b,q.2)
theorem GC[Pf](n:X.A.units+64<Š)(v:QE X a f)(u:QE X b g)(t:nD o b=Â):QT X (.Compare a [o] [b] pos) (Gg f g o) :=
 PT_imp (EG (zv n o) v u (ui t)) fun I H Q h=>by
  refine e7 h fun P G K J m s k=>?_
  refine xX (k:=mv (pf o)) (i7 m s ?_);obtain⟨b,j,e,q⟩:=k;unfold Gg at e;obtain⟨p,D,C⟩:=zA e;obtain⟨r,B,A⟩:=zA C;obtain⟨c,z,y⟩:=zE.mp A;injection y with e7 e8;subst e7;subst e8;refine⟨.bl c,r.2,by simp only[a2,D,Ä,B,mv,pf,z,Ð],fun E d F w x l i=>?_⟩;simp only[RA]at i;exact⟨c,i,q E d F c x l rfl⟩
noncomputable def kN(o:UnaryOp)(_:aa):AV->Option AV
 |.int i=>match o with
  |.USub=>À (.int (-i))
  |.Invert=>À (.int (S? i))
  |_=>Á
 |_=>Á
theorem JO[Pf](j:QE X a f):QE X (.UnaryOp o a pos) (a1 f (Go (kN o))):=by
 have h:AW X (W8 o) (r1 X.gm (Go (kN o))):=by
  rintro g s b H v u Q I d ⟨P,l,m,x,c,rx,k⟩;obtain ⟨z,e,k⟩:=k.map;cases x <;> simp only [kN] at e <;> first | (cases e;done) | skip
  rename_i i;simp only [RA] at rx;subst rx;cases o <;> first | (cases e;done) | skip
  ·cases e
   exact FR g s b H _ u Q I d ⟨i,rfl,k.pure c (by simp only[RA])⟩
  ·cases e
   exact FQ g s b H _ u Q I d ⟨i,rfl,k.pure c (by simp only[RA])⟩
 exact PE_imp (J5 h j) fun _ _ _ q=>Nh q
def fT(st:aa)(v:AV):Option Bool:=match cw st v with
 |some a=>À !a.isEmpty
 |none=>match v with
  |.non=>À Ã
  |.bl b=>À b
  |.int i=>À (i !=0)
  |.str x=>if å x.length 1000000=Â then À ((x.length:Int) !=0) else Á
  |.tup a=>À !a.isEmpty
  |v=>(j7 st v).map fun c=>!c.isEmpty
theorem sF(r:Pi mg P H φ xs vs):vs.isEmpty=xs.isEmpty:=by
 cases xs with
 |nil=>simp only[Pi]at r;subst r;rfl
 |cons x xs=>simp only[Pi]at r;obtain⟨v,a,rfl,_⟩:=r;rfl
theorem Bh[Pf]{P:Pr}{H:Hp}{φ:List Ç}{st:aa}(i:Sim X.gm P φ st H){v:AV}{w:V}{b:Bool}(h:fT st v=À b)(r:RA X.gm P H φ v w):CC X.K w H b:=by
 unfold fT at h;split at h
 ·rename_i l e
  cases h;obtain⟨a,g,rfl,n,q⟩:=r.ls i e;exact .inl ⟨g,n,by rw[sF q]⟩
 ·cases v<;>simp only at h
  case non=>cases h;simp only[RA]at r;subst r;exact rfl
  case bl=>cases h;simp only[RA]at r;subst r;exact rfl
  case int=>cases h;simp only[RA]at r;subst r;exact rfl
  case str x =>
   simp only[RA]at r;subst r;split at h
   ·rename_i s;cases h;exact⟨z5 (zS s) dC,rfl⟩
   ·cases h
  case tup l =>
   cases h;simp only[RA]at r;obtain⟨a,g,rfl,_,e,q⟩:=r;exact .inr (.inl ⟨g,.inl (.inl e),by rw[sF q]⟩)
  case fz=>obtain⟨_,z,_⟩:=zE.mp h;simp[j7]at z
  case ref k =>
   obtain⟨C,f,y⟩:=zE.mp h;subst y;simp only[j7]at f;split at f
   ·rename_i j t
    cases f;simp only[RA]at r;obtain⟨a,u,rfl⟩:=r;obtain⟨B,d,c⟩:=i.at t;rw[u]at d;cases d;obtain⟨_,m,p,o,A⟩:=c;refine .inr (.inr ⟨m,p,?_⟩)
    have:=congrArg List.isEmpty o
    simpa using this
   ·cases f
def tV(f:EF):TF:=fun c a=>(f c a).bind fun p=>(fT p.2 p.1).map fun b=>(b,p.2)
theorem zd[Pf](o:QE X a f)(he:∀whole,z? a X.env whole=(do let v <- whole;Ŝ a.pos;holding [v] (truthy v))):QT X a (tV f) :=
 PT_imp (BG o he) fun z H Q h=>e7 h fun P y B A n s k=>i7 n s (by
  obtain⟨a,e,t,q⟩:=k.bind (Ra:=RA);refine⟨a,e,t,fun u d w b p m r1=>?_⟩;obtain⟨D,j,l,x,C,i,r2,g⟩:=q u d w b p m r1;obtain⟨c,r,g⟩:=g.map;exact⟨c,Bh i r r2,g.pure i rfl⟩)
noncomputable def LF(f g:TF):TF:=fun a b=>(f a b).bind fun p=>if p.1=Â then g a p.2 else À (Ã,p.2)
noncomputable def F9(f g:TF):TF:=fun a b=>(f a b).bind fun p=>if p.1=Â then À (Â,p.2) else g a p.2
noncomputable def LC(f:TF):TF:=fun b a=>(f b a).bind fun p=>À (!p.1,p.2)
section
variable{a b:Í}{rest:List Í}{pos:ę}{f g:TF}
theorem Gy[Pf](b:H!)(c:QT X a f):QW X (.BoolOp b [a] pos) f:=by
 cases b
 ·exact EE c
 ·exact G3 c
theorem Gz[Pf](t:QT X a f)(r:QW X (.BoolOp .And (b::rest) pos) g):QW X (.BoolOp .And (a::b::rest) pos) (LF f g) :=
 PW_imp (G4 t r) fun C H Q j=>e7 j fun P B o D m s k=>i7 m s (by
  obtain⟨a,i,w,q⟩:=k.bind (Ra:=RB);refine⟨a,i,w,fun z e A c v p r1=>?_⟩;obtain⟨y,d,h,x,u,l,r2,n⟩:=q z e A c v p r1;cases r2;cases c with
  |true=>exact⟨y,d,o,h,m.frm u,l,n⟩
  |false=>exact n.pure l rfl)
theorem JI[Pf](t:QT X a f)(r:QW X (.BoolOp .Or (b::rest) pos) g):QW X (.BoolOp .Or (a::b::rest) pos) (F9 f g) :=
 PW_imp (JT t r) fun C H Q j=>e7 j fun P B o D m s k=>i7 m s (by
  obtain⟨a,i,w,q⟩:=k.bind (Ra:=RB);refine⟨a,i,w,fun z e A c v p r1=>?_⟩;obtain⟨y,d,h,x,u,l,r2,n⟩:=q z e A c v p r1;cases r2;cases c with
  |false=>exact⟨y,d,o,h,m.frm u,l,n⟩
  |true=>exact n.pure l rfl)
theorem GB[Pf](n:QT X a f):QT X (.UnaryOp .Not a pos) (LC f) :=
 PT_imp (G5 n) fun v H Q e=>e7 e fun P u y w l s k=>i7 l s (by
  obtain⟨a,d,p,q⟩:=k.bind (Ra:=RB);refine⟨a,d,p,fun r b t c o j r1=>?_⟩;obtain⟨A,g,h,x,z,i,r2,m⟩:=q r b t c o j r1;cases r2;exact m.pure i rfl)
end
noncomputable def DC(f g:EF):EF:=fun a b=>(f a b).bind fun p=>match p.1 with
 |.bl Â=>g a p.2
 |.bl Ã=>À (.bl Ã,p.2)
 |_=>Á
noncomputable def Dx(f g:EF):EF:=fun a b=>(f a b).bind fun p=>match p.1 with
 |.bl Ã=>g a p.2
 |.bl Â=>À (.bl Â,p.2)
 |_=>Á
noncomputable def Dz(f:EF):EF:=fun c a=>(f c a).bind fun p=>match p.1 with
 |.bl b=>À (.bl !b,p.2)
 |_=>Á
noncomputable def Ma(t:TF)(f g:EF):EF:=fun a b=>(t a b).bind fun p=>if p.1=Â then f a p.2 else g a p.2
section
variable{a b c:Í}{rest:List Í}{pos:ę}{f g:EF}{t:TF}
theorem KG.no[Pf]{α a:Type}{Ra:Gm->Pr->Hp->List Ç->α->a->Prop}{Q:a->Hp->Prop}(h:KG mg Ra P φ H Á Q):False:=by obtain⟨_,_,e,_⟩:=h;cases e
theorem G2[Pf](u:QE X a f)(t:QE X (.BoolOp .And (b::rest) pos) g):QE X (.BoolOp .And (a::b::rest) pos) (DC f g) :=
 PE_imp (Hs u t) fun D H Q m=>e7 m fun P C p E o s k=>i7 o s (by
  obtain⟨a,j,y,q⟩:=k.bind (Ra:=RA);refine⟨a,j,y,fun A h B c w r r1=>?_⟩;obtain⟨z,e,i,x,v,n,r2,l⟩:=q A h B c w r r1;cases x<;>first|exact l.no.elim|skip
  rename_i d;simp only[RA]at r2;refine⟨d,r2,?_⟩;cases d with
  |true=>exact⟨z,e,p,i,o.frm v,n,l⟩
  |false=>exact l.pure n (by simp only[RA]))
theorem JQ[Pf](u:QE X a f)(t:QE X (.BoolOp .Or (b::rest) pos) g):QE X (.BoolOp .Or (a::b::rest) pos) (Dx f g) :=
 PE_imp (J6 u t) fun D H Q m=>e7 m fun P C p E o s k=>i7 o s (by
  obtain⟨a,j,y,q⟩:=k.bind (Ra:=RA);refine⟨a,j,y,fun A h B c w r r1=>?_⟩;obtain⟨z,e,i,x,v,n,r2,l⟩:=q A h B c w r r1;cases x<;>first|exact l.no.elim|skip
  rename_i d;simp only[RA]at r2;refine⟨d,r2,?_⟩;cases d with
  |false=>exact⟨z,e,p,i,o.frm v,n,l⟩
  |true=>exact l.pure n (by simp only[RA]))
theorem GT[Pf](o:QE X a f):QE X (.UnaryOp .Not a pos) (Dz f) :=
 PE_imp (Hm o) fun w H Q g=>e7 g fun P v z y n s k=>i7 n s (by
  obtain⟨a,e,r,q⟩:=k.bind (Ra:=RA);refine⟨a,e,r,fun t b u c p m r1=>?_⟩;obtain⟨B,i,j,x,A,l,r2,h⟩:=q t b u c p m r1;cases x<;>first|exact h.no.elim|skip
  rename_i d;simp only[RA]at r2;exact⟨d,r2,h.pure l (by simp only[RA])⟩)
theorem JS[Pf](v:QT X c t)(y:QE X a f)(w:QE X b g):QE X (.IfExp c a b pos) (Ma t f g) :=
 PE_imp (BS v y w) fun E H Q l=>e7 l fun P D m F j s k=>i7 j s (by
  obtain⟨a,i,A,q⟩:=k.bind (Ra:=RB);refine⟨a,i,A,fun B h C c z u r1=>?_⟩;obtain⟨r,d,e,x,p,n,r2,o⟩:=q B h C c z u r1;cases r2;cases c with
  |true=>exact⟨r,d,m,e,j.frm p,n,o⟩
  |false=>exact⟨r,d,m,e,j.frm p,n,o⟩)
end
def aG(st:aa)(x y:AV):Option AV:=match o9 st x y with
 |some o=>o
 |none=>match y with
  |.int i=>match cw st x with
   |some a=>iu a i
   |none=>match jQ st x with
    |some a=>iu a i
    |none=>match x with
     |.str z=>if å z.length 1000000=Â then(iu z.cps.toList i).map fun c=>.str ⟨#[c]⟩ else Á
     |_=>Á
  |_=>Á
theorem rD{i:Int}(r:Pi mg P H φ xs vs)(h:iu xs i=À x):∃v,iu vs i=À v/\RA mg P H φ x v:=by
 unfold iu at h ⊢;rw[<- r.length];obtain⟨j,b,a⟩:=zA h;rw[b,Ä];exact r.get a
theorem Fm(o:X.A.units+64<Š):IxR X (fun x y H Q=>∃a v,x=.ref a/\DGet H a y (À v)/\Q v H):=by
 rintro b c k s h H x y v u Q I rx i ⟨a,t,ex,g,q⟩ j;subst ex;cases rx;have f:=vF I g;unfold K!;refine yE ?_;rw[getitemInPython_of_ne f.not_modules];refine yE (Y8 f PySem.F.slot_dict_getitem.lookup ?_);have ay:Î (model X.prog X.w) X.A (subscripted c Ã (.ref a) u) (fun r d=>Î (model X.prog X.w) X.A (letTemporaryGo b (.ref a) r>>=fun _=>pure r) (EP X k h Q) X.xe d) X.xe s:=by
  rw[j];exact wpAny_operating (AG oM I g i fun m n l e=>yE (wpAny_letTemporaryGo (yF ⟨t,H,l,e,q⟩)))
 first
  |exact yF (yE ay)
  |exact yE (yF (yE ay))
  |exact yE ay
theorem MY[Pf](J:X.A.units+64<Š):IxR X (r2 X.gm (mv aG)):=by
 rintro b d A s l H v w u r Q I m n ⟨P,O,R,x,y,f,rx,C,F⟩ p;obtain⟨z,e,k⟩:=F.map;clear F;unfold aG at e;split at e
 ·rename_i o M
  subst e;obtain⟨a,S,rfl,g,_,L⟩:=uH f M C rx;obtain⟨t,rfl,h⟩:=L z rfl;exact Fm J b d A s l H _ _ u r Q I m n ⟨a,t,rfl,g,k.pure f h⟩ p
 ·cases y with
  |int i =>
   simp only[RA]at C;subst C;dsimp only at e;split at e
   ·rename_i G E
    obtain⟨a,B,rfl,D,q⟩:=rx.ls f E;obtain⟨t,j,h⟩:=rD q e;exact uw b d A s l H _ _ u r Q I m n (.inl ⟨a,B,i,t,rfl,rfl,D,j,k.pure f h⟩) p
   ·split at e
    ·rename_i G E
     obtain⟨a,B,rfl,D,q⟩:=rx.tp f E;obtain⟨t,j,h⟩:=rD q e;exact uw b d A s l H _ _ u r Q I m n (.inr (.inl ⟨a,B,i,t,rfl,rfl,.inl (.inl D),j,k.pure f h⟩)) p
    ·cases x with
     |str x =>
      dsimp only at e;split at e
      ·rename_i K
       obtain⟨c,N,j⟩:=zE.mp e;subst j;simp only[RA]at rx;subst rx;exact uw b d A s l H _ _ u r Q I m n (.inr (.inr ⟨x,i,c,rfl,rfl,z5 (zS K) dC,N,k.pure f (by simp only[RA])⟩)) p
      ·cases e
     |_=>cases e
  |_=>cases e
theorem JR[Pf](c:X.A.units+64<Š)(h:QE X a f)(e:QE X b g)(d:rH b):QE X (.Subscript a b pos) (a2 f g (mv aG)) :=
 PE_imp (J8 (MY c) h e d) fun _ _ _ q=>xX q
noncomputable def L8(g:AF):EF:=fun b a=>(g b a).bind fun p=>if å p.1.length 1000=Â then À (.tup p.1,p.2) else Á
theorem GS[Pf]{l:Nat}(h:QA X es g):QE X (.Tuple es l pos) (L8 g) :=
 PE_imp (Hj h) fun E H Q f=>e7 f fun P D I G u s k=>i7 u s (by
  obtain⟨a,e,A,q⟩:=k.bind (Ra:=Pi);refine⟨a,e,A,fun B c C d y t r1=>?_⟩;obtain⟨K,j,m,F,J,r,r2,b⟩:=q B c C d y t r1;dsimp only at b;split at b
  ·rename_i x
   refine⟨by rw[<- r2.length];exact z5 (zS x) dC,fun p w=>?_⟩;obtain⟨i,n⟩:=pL (o:=.tup d) r w;obtain⟨_,_,z,v⟩:=b;cases z;refine v _ _ _ _ i n ?_;simp only[RA];exact⟨p,d,rfl,.inr rfl,aD,r2.frm i⟩
  ·exact b.no.elim)
end
mutual
noncomputable def dF:AV->AV->Bool
 |.non,.non=>Â
 |.bl a,.bl b=>a==b
 |.int a,.int b=>a==b
 |.str a,.str b=>a==b
 |.ref a,.ref b=>a==b
 |.tup a,.tup b=>ie a b
 |.fz a,.fz b=>ie a b
 |_,_=>Ã
noncomputable def ie:List AV->List AV->Bool
 |[],[]=>Â
 |x::xs,y::ys=>dF x y&&ie xs ys
 |_,_=>Ã
end
mutual
theorem wC:∀{x y:AV},dF x y=Â->x=y
 |.non,y,h=>by cases y<;>simp only[dF]at h<;>first|rfl|cases h
 | .bl a,y,h=>by cases y <;> simp only [dF] at h <;> first | (rw [yJ h]) | cases h
 | .int a,y,h=>by cases y <;> simp only [dF] at h <;> first | (rw [yJ h]) | cases h
 | .str a,y,h=>by cases y <;> simp only [dF] at h <;> first | (rw [yJ h]) | cases h
 | .ref a,y,h=>by cases y <;> simp only [dF] at h <;> first | (rw [yJ h]) | cases h
 | .tup a,y,h=>by cases y <;> simp only [dF] at h <;> first | (rw [nW h]) | cases h
 | .fz a,y,h=>by cases y <;> simp only [dF] at h <;> first | (rw [nW h]) | cases h
theorem nW:∀{xs ys:List AV},ie xs ys=Â->xs=ys
 |[],ys,h=>by cases ys<;>simp only[ie]at h<;>first|rfl|cases h
 |x::xs,ys,h=>by
  cases ys with
  |nil=>simp only[ie]at h;cases h
  |cons y ys =>
   simp only[ie,zC]at h;rw[wC h.1,nW h.2]
end
mutual
theorem AR:∀x:AV,dF x x=Â
 |.non=>by simp only[dF]
 |.bl a=>by simp[dF]
 |.int a=>by simp[dF]
 |.str a=>by simp[dF]
 |.ref a=>by simp[dF]
 |.tup a=>by simp only[dF];exact j8 a
 |.fz a=>by simp only[dF];exact j8 a
theorem j8:∀xs:List AV,ie xs xs=Â
 |[]=>by simp only[ie]
 |x::xs=>by simp only[ie,AR x,j8 xs,ġ]
end
abbrev Gd:=List (Nat×Pe)
def xT:Pe->Pe->Bool
 |.lst a,.lst b=>ie a b
 |.dK a,.dK b=>decide (a.map (·.1)=b.map (·.1))&&ie (a.map (·.2)) (b.map (·.2))
 |_,_=>Ã
def cT:Gd->aa->Bool
 |[],_=>Â
 |g::gs,st=>(match st[g.1]? with|some c=>xT c g.2|none=>Ã)&&cT gs st
theorem Cm{k:Nat}{xs:List AV}{gs:Gd}{st:aa}(h:cT ((k,.lst xs)::gs) st=Â):st[k]?=À (.lst xs)/\cT gs st=Â:=by
 simp only[cT,zC]at h;refine⟨?_,h.2⟩;have h:=h.1;split at h
 ·rename_i c e
  cases c <;> simp only [xT] at h <;> first | (cases h;done) | skip
  rw[e,nW h]
 ·cases h
theorem wv{a b:Gd}{st:aa}(h:cT (a++b) st=Â):cT a st=Â/\cT b st=Â:=by
 induction a with
 |nil=>exact⟨rfl,h⟩
 |cons g a c =>
  simp only[ϳ,cT,zC]at h ⊢;exact⟨⟨h.1,(c h.2).1⟩,(c h.2).2⟩
structure Iv where
 Ph:List AV
 gd:Gd
abbrev IF:=Sl->aa->Option (Iv×aa)
structure wJ[Pf](mg:Gm)(J:It)(iv:Iv)(P:Pr)(φ:List Ç)(H:Hp):Prop where
 go:∀P2 φ2 H2 st2 (i:Nat) x,Frm P φ H P2 φ2 H2->Sim mg P2 φ2 st2 H2->cT iv.gd st2=Â->iv.Ph[i]?=À x->J.go i H2/\∀v H3,J.yld i H2 v H3->∃P3,Frm P2 φ2 H2 P3 φ2 H3/\Sim mg P3 φ2 st2 H3/\RA mg P3 H3 φ2 x v
 stop:∀P2 φ2 H2 st2,Frm P φ H P2 φ2 H2->Sim mg P2 φ2 st2 H2->cT iv.gd st2=Â->J.stop iv.Ph.length H2
def rI[Pf](mg:Gm)(f:IF):TI:=fun j H R=>∃P d h g,Pn mg P H d h j/\Sim mg P d g H/\∃i b,f h g=À (i,b)/\∀e a c J,Frm P d H e a c->Sim mg e a b c->wJ mg J i e a c->R J c
def QI[Pf](X:Cx)(b a:Í)(f:IF):Prop:=PI X b a (rI X.gm f)
theorem jz(h:PI X tg iter t)(i:∀σ H R,t' σ H R->t σ H R):PI X tg iter t':=fun b s σ H R I a=>h b s σ H R I (i σ H R a)
def jE(st:aa)(v:AV):Option Iv:=match dr st v with
 |.fz a=>À ⟨a,[]⟩
 |.ref k=>match st[k]? with
  |some (.lst a)=>À ⟨a,[(k,.lst a)]⟩
  |_=>Á
 |_=>Á
section
variable{mg:Gm}{P:Pr}{φ:List Ç}{st:aa}{H:Hp}{v:AV}{w:V}{iv:Iv}
theorem mF[Pf](s:Sim mg P φ st H)(r:RA mg P H φ v w)(h:jE st v=À iv):∃a,w=.ref a/\∀P2 φ2 H2 st2,Frm P φ H P2 φ2 H2->Sim mg P2 φ2 st2 H2->cT iv.gd st2=Â->∃vs,cb mg.K H2 a vs/\Pi mg P2 H2 φ2 iv.Ph vs:=by
 have r:=r.dr s;unfold jE at h;split at h
 ·rename_i j e
  cases h;rw[e]at r;simp only[RA]at r;obtain⟨a,vs,d,b,q⟩:=r;refine⟨a,d,fun P2 φ2 H2 st2 f _ _=>⟨vs,(b.mono f.ext).sq,?_⟩⟩;exact Pi.lift (q.mono f.ext fun k a e=>by simp at e)
 ·rename_i k e
  rw[e]at r;simp only[RA]at r;obtain⟨a,d,b⟩:=r;split at h
  ·rename_i j o
   cases h;refine⟨a,b,fun P2 φ2 H2 st2 f l g=>?_⟩;obtain⟨g1,_⟩:=Cm g;obtain⟨p,i,c⟩:=l.at g1;rw[f.ix k a d]at i;cases i;obtain⟨_,vs,n,m⟩:=c;exact⟨vs,.inl (.inl n),m⟩
  ·cases h
 ·cases h
end
section
variable{X:Cx}{tg e a b:Í}{es:List Í}{pos p:ę}
def pY(st:aa)(v:AV):Option Iv:=match v with
 |.str x=>if x.cps.all (·<128)=Â then À ⟨x.cps.toList.map fun c=>.str ⟨#[c]⟩,[]⟩ else Á
 |v=>match jQ st v with
  |some a=>À ⟨a,[]⟩
  |none=>jE st v
def iE(f:EF):IF:=fun b a=>(f b a).bind fun p=>(pY p.2 p.1).map fun c=>(c,p.2)
theorem Hf[Pf](r:PE X e tl):PI X tg e (fun σ H R=>tl σ H fun x H1=>(∃a,x=.ref a/\(∃xs,cb X.K H1 a xs)/\R (DK X.K a) H1)\/(∃a,x=.ref a/\(∃xs,iA X.K H1 a xs)/\R (DI X.K a) H1)\/∃x':Ì,x=.str x'/\x'.cps.all (·<128)=Â/\R (DJ x') H1):=by
 intro k s σ H R I h;refine aE (r k s σ H _ I h) fun v c f=>?_
 obtain⟨x,H1,d,r1,m⟩:=f;have i:∀b∈[c.heap.objs.size],eQ X k H1 b:=fun b u=>by
  have e:b=c.heap.objs.size:=by simpa using u
  subst e;exact d.fpOk (zP _) (d.Pk.fresh (zP _))
 rcases m with⟨a,e,⟨xs,g⟩,q⟩|⟨a,e,⟨xs,g⟩,q⟩|⟨y,e,n,q⟩
 ·subst e
  cases r1;obtain⟨j,l,p,hz⟩:=d.list g;refine ī p.isList ?_;exact⟨c.heap.objs.size,[c.heap.objs.size],_,_,H1,rfl,d.kept (t':=c.toks) fun b o e=>zG _ e,yi a _,⟨_,zY _ rfl,rfl,rfl⟩,i,q⟩
 ·subst e
  cases r1;obtain ⟨j,l,p,hz⟩:=d.tuple g;refine wpAny_pyIter_tuple (show c.heap.IsTuple a j.toArray from p) ?_;exact ⟨c.heap.objs.size,[c.heap.objs.size],_,_,H1,rfl,d.kept (t':=c.toks) fun b o e=>zG _ e,wQ a _,⟨_,zY _ rfl,rfl,rfl⟩,i,q⟩
 ·subst e
  obtain⟨t,rfl⟩:=r1;refine wpAny_pyIter_ascii n ?_;exact⟨c.heap.objs.size,[c.heap.objs.size],_,_,H1,rfl,d.kept (t':=c.toks) fun b o e=>zG _ e,Bg y t _,⟨_,zY _ rfl,rfl,rfl⟩,i,q⟩
theorem Cg[Pf]{mg:Gm}{P:Pr}{φ:List Ç}{H:Hp}{K:á}{a:Ç}{d:Iv}(h:∀P2 φ2 H2 st2,Frm P φ H P2 φ2 H2->Sim mg P2 φ2 st2 H2->cT d.gd st2=Â->∃vs,cb K H2 a vs/\Pi mg P2 H2 φ2 d.Ph vs):wJ mg (DK K a) d P φ H where
 go:=fun P2 φ2 H2 st2 i x f s g e=>by
  obtain⟨vs,b,c⟩:=h P2 φ2 H2 st2 f s g;obtain⟨v,k,r1⟩:=c.get e;refine⟨⟨vs,v,b,k⟩,fun w n j=>?_⟩;obtain⟨m,l⟩:=j;subst m
  have:=l vs b
  rw[k]at this;cases this;exact⟨P2,Frm.refl,s,r1⟩
 stop:=fun P2 φ2 H2 st2 f s g=>by
  obtain⟨vs,b,c⟩:=h P2 φ2 H2 st2 f s g;exact⟨vs,b,by rw[<- c.length];exact zP _⟩
theorem Fp[Pf]{mg:Gm}{P:Pr}{φ:List Ç}{H:Hp}{K:á}{a:Ç}{xs:List AV}{vs:List V}(j:P a)(k:H a=À (.tup vs))(h:Pi mg P H φ xs vs):wJ mg (DI K a) ⟨xs,[]⟩ P φ H where
 go:=fun n b o c i x f s g e=>by
  obtain⟨v,m,r1⟩:=(h.frm f).get e;have l:iA K o a vs:=.inl (.inl ((f.ext a j).2.trans k));refine⟨⟨vs,v,l,m⟩,fun w r d=>?_⟩;obtain⟨q,p⟩:=d;subst q
  have:=p vs l
  rw[m]at this;cases this;exact⟨n,Frm.refl,s,r1⟩
 stop:=fun n b o c f s g=>⟨vs,.inl (.inl ((f.ext a j).2.trans k)),by rw[<- h.length];exact zP _⟩
theorem Fq[Pf]:wJ mg (DJ x) ⟨x.cps.toList.map fun c=>.str ⟨#[c]⟩,[]⟩ P φ H where
 go:=fun k a o b i y f s g e=>by
  rw[zR]at e;obtain⟨c,h,n⟩:=zE.mp e;rw[v?]at h;subst n;refine⟨⟨c,h⟩,fun w q d=>?_⟩;obtain⟨m,p,j,l⟩:=d;subst m;rw[h]at j;cases j;exact⟨k,Frm.refl,s,by simp only[RA];exact l⟩
 stop:=fun k a o b f s g=>by
  show x.cps[_]?=Á;simp
theorem mE{st:aa}{v:AV}{a:Iv}(h:jE st v=À a):cT a.gd st=Â:=by
 unfold jE at h;split at h
 ·cases h;rfl
 ·split at h
  ·rename_i k _ c b
   cases h;simp only[cT];rw[b];simp only[xT,j8,ġ]
  ·cases h
 ·cases h
theorem MP[Pf](G:QE X e f):QI X tg e (iE f):=jz (Hf G) fun N H R ⟨P,M,S,Q,z,s,E,y,t,k⟩=>i7 z s (by
 unfold iE at t;obtain⟨p,L,K⟩:=zA t;obtain⟨D,b,J⟩:=zE.mp K;cases J;refine⟨p.1,p.2,L,fun l c d w r i r1=>?_⟩;unfold pY at b;have q:∀v:AV,p.1=v->(match jQ p.2 v with|some g=>À ⟨g,[]⟩|none=>jE p.2 v)=À E->((∃a,w=.ref a/\(∃g,cb X.K d a g)/\R (DK X.K a) d)\/(∃a,w=.ref a/\(∃g,iA X.K d a g)/\R (DI X.K a) d)\/∃m:Ì,w=.str m/\m.cps.all (·<128)=Â/\R (DJ m) d):=by
  intro v ev b;rw[ev]at r1;split at b
  ·rename_i g j
   cases b;have r2:=r1.dr i;unfold jQ at j;split at j
   ·rename_i O I
    cases j;rw[I]at r2;simp only[RA]at r2;obtain⟨a,n,rfl,C,u,B⟩:=r2;exact .inr (.inl ⟨a,rfl,⟨n,.inl (.inl u)⟩,k l c d _ r i (Fp C u B)⟩)
   ·cases j
  ·obtain⟨a,rfl,h⟩:=mF i r1 b
   obtain⟨n,A,_⟩:=h l c d p.2 Frm.refl i (mE b);exact .inl ⟨a,rfl,⟨n,A⟩,k l c d _ r i (Cg h)⟩
 cases o:p.1 with
 |str x =>
  rw[o]at b r1;simp only at b;split at b
  ·rename_i F
   cases b;simp only[RA]at r1;exact .inr (.inr ⟨x,r1,F,k l c d _ r i Fq⟩)
  ·cases b
 |_=>rw[o]at b;exact q _ o b)
noncomputable def gD(i:Int):Bool:=å i.natAbs.log2 60
noncomputable def eu(i:Int)(n:Nat):List AV:=(Æ n).map fun k=>.int (i+(k:Nat))
def Dg(f:EF):IF:=fun b a=>(f b a).bind fun p=>match p.1 with
 |.int j=>if gD j=Â then À (⟨eu 0 j.toNat,[]⟩,p.2) else Á
 |_=>Á
def Df(f g:EF):IF:=fun a b=>(f a b).bind fun p=>(g a p.2).bind fun q=>match p.1,q.1 with
 |.int i,.int j=>if(gD i&&gD j)=Â then À (⟨eu i (j-i).toNat,[]⟩,q.2) else Á
 |_,_=>Á
theorem iC{i:Int}(h:gD i=Â):-(2^62)<=i/\i<2^62:=by
 have:=log2_lt h
 have e:(2:Nat)^(60+1)=2305843009213693952:=by decide
 rw[e]at this;lia
theorem wf[Pf]{i:Int}{n:Nat}:wJ mg (A4 i n) ⟨eu i n,[]⟩ P φ H where
 go:=fun l a r b k y f s g e=>by
  unfold eu at e;rw[zR]at e;obtain⟨c,q,p⟩:=zE.mp e;obtain⟨j,h⟩:=zB.mp q;rw[List.getElem_range]at h;subst h p;rw[ģ]at j;refine⟨j,fun w t d=>?_⟩;obtain⟨o,m⟩:=d;subst o;exact⟨l,Frm.refl,s,by simp only[RA];exact m⟩
 stop:=fun l a r b f s g=>by
  show n<=(eu i n).length;simp[eu]
theorem zc[Pf]{mg:Gm}{f:EF}{σ:St}{H:Hp}{Q:List V->Hp->Prop}{P:Pr}{φ:List Ç}{sl:Sl}{st:aa}(b:Pn mg P H φ sl σ)(s:Sim mg P φ st H)
  (h:∃v st1,f sl st=À (v,st1)/\∀P1 φ1 H1 w,Frm P φ H P1 φ1 H1->Sim mg P1 φ1 st1 H1->RA mg P1 H1 φ1 v w->Q [w] H1):rA mg (gA f fZ) σ H Q:=by
 obtain⟨v,st1,e,k⟩:=h;refine i7 b s ⟨[v],st1,by simp only[gA,fZ,e,Ä],fun P1 φ1 H1 d c a r1=>?_⟩;simp only[Pi]at r1;obtain⟨w,g,rfl,r,rfl⟩:=r1;exact k P1 φ1 H1 w c a r
theorem CZ[Pf]{mg:Gm}{f g:EF}{σ:St}{H:Hp}{Q:List V->Hp->Prop}{P:Pr}{φ:List Ç}{sl:Sl}{st:aa}(c:Pn mg P H φ sl σ)(s:Sim mg P φ st H)
  (h:∃v st1 u st2,f sl st=À (v,st1)/\g sl st1=À (u,st2)/\∀P1 φ1 H1 w w',Frm P φ H P1 φ1 H1->Sim mg P1 φ1 st2 H1->RA mg P1 H1 φ1 v w->RA mg P1 H1 φ1 u w'->Q [w,w'] H1):rA mg (gA f (gA g fZ)) σ H Q:=by
 obtain⟨v,st1,u,st2,e,j,k⟩:=h;refine i7 c s ⟨[v,u],st2,by simp only[gA,fZ,e,j,Ä],fun P1 φ1 H1 l i b r1=>?_⟩;simp only[Pi]at r1;obtain⟨w,m,rfl,r,w',a,rfl,d,rfl⟩:=r1;exact k P1 φ1 H1 w w' i b r d
theorem JM[Pf](o:Gl X "range")(n:X.mg "range"=Á)(r:QE X a f)(e:Ê [a] X.env=[(Ã,eval a X.env)]):QI X tg (.Call (.Name "range" p) [a] [] pos) (Dg f) :=
 jz (zo o n (dj r fy (by rw[e];rfl)) e) fun B H R d=>by
  refine e7 d fun P A D C l s m=>?_
  obtain⟨E,h,v,k⟩:=m;obtain⟨q,x,b⟩:=zA v;refine zc l s ⟨q.1,q.2,x,fun y c z w t i r1=>?_⟩;split at b
  ·rename_i j u
   rw[u]at r1;split at b
   ·rename_i g
    cases b;simp only[RA]at r1;subst r1;exact⟨j,rfl,(iC g).1,(iC g).2,k y c z _ t i wf⟩
   ·cases b
  ·cases b
theorem JL[Pf](z:Gl X "range")(y:X.mg "range"=Á)(A:QE X a f)(l:QE X b g)(m:Ê [a,b] X.env=[(Ã,eval a X.env),(Ã,eval b X.env)])(c:Ê [b] X.env=[(Ã,eval b X.env)]) :
  QI X tg (.Call (.Name "range" p) [a,b] [] pos) (Df f g) :=
 jz (zn z y (dj A (dj l fy (by rw[c];rfl)) (by rw[m,c])) m c) fun M H R h=>by
  refine e7 h fun P L Q O v s x=>?_
  obtain⟨S,t,E,k⟩:=x;obtain⟨q,I,G⟩:=zA E;obtain⟨r,F,d⟩:=zA G;refine CZ v s ⟨q.1,q.2,r.1,r.2,I,F,fun J e K w N B u r1 r2=>?_⟩;split at d
  ·rename_i i j D C
   rw[D]at r1;rw[C]at r2;split at d
   ·rename_i l
    cases d;obtain⟨o,n⟩:=Ŕ.mp l;simp only[RA]at r1 r2;subst r1;subst r2;exact⟨i,j,rfl,⟨(iC o).1,(iC o).2,(iC n).1,(iC n).2⟩,k J e K _ B u wf⟩
   ·cases d
  ·cases d
def iZ(f g:EF):IF:=fun a b=>(f a b).bind fun p=>(g a p.2).bind fun q=>(jE q.2 p.1).bind fun x=>(jE q.2 q.1).bind fun y=>À (⟨(x.Ph.zip y.Ph).map fun z=>.tup [z.1,z.2],x.gd++y.gd⟩,q.2)
theorem v6[Pf]{mg:Gm}{P:Pr}{φ:List Ç}{st:aa}{H:Hp}{p:Ç}{x y:AV}{u w:V}(s:Sim mg P φ st H)(d:H p=Á)(rx:RA mg P H φ x u)(c:RA mg P H φ y w) :
  ∃P3,Frm P φ H P3 φ (ah H p (.tup [u,w]))/\Sim mg P3 φ st (ah H p (.tup [u,w]))/\RA mg P3 (ah H p (.tup [u,w])) φ (.tup [x,y]) (.ref p):=by
 obtain⟨a,b⟩:=pL (o:=.tup [u,w]) s d;refine⟨_,a,b,?_⟩;simp only[RA];exact⟨p,[u,w],rfl,.inr rfl,aD,bo (rx.frm a) (bo (c.frm a) bO)⟩
theorem GN[Pf]{x1:Nat}(hg:Gl X "zip")(hm:X.mg "zip"=Á)(ha:QE X a f)(hb:QE X b g)(V:Ê [a,b] X.env=[(Ã,eval a X.env),(Ã,eval b X.env)])(l:Ê [b] X.env=[(Ã,eval b X.env)]) :
  QI X (.Tuple elts x1 tpos) (.Call (.Name "zip" p) [a,b] [] pos) (iZ f g) :=
 jz (He hg hm (dj ha (dj hb fy (by rw[l];rfl)) (by rw[V,l])) V l) fun σ H R m=>by
  refine e7 m fun P φ sl st rs s q0=>?_
  obtain⟨iv,st',ef,k⟩:=q0;obtain⟨q,e1,e2⟩:=zA ef;obtain⟨r,e3,e4⟩:=zA e2;obtain⟨x,W,e6⟩:=zA e4;obtain⟨y,e7,e8⟩:=zA e6;cases e8;refine CZ rs s ⟨q.1,q.2,r.1,r.2,e1,e3,fun T j U w w' f1 o r1 r2=>?_⟩;obtain⟨a1,rfl,O⟩:=mF o r1 W;obtain⟨a2,rfl,N⟩:=mF o r2 e7;obtain⟨vs,K,_⟩:=O T j U r.2 Frm.refl o (mE W);obtain⟨us,J,_⟩:=N T j U r.2 Frm.refl o (mE e7);refine⟨a1,a2,rfl,⟨vs,K⟩,⟨us,J⟩,k T j U _ f1 o ⟨fun B c C d i t A n S F=>?_,fun B c C d A n S=>?_⟩⟩
  ·obtain⟨ga,Q⟩:=wv S
   obtain⟨e,I,M⟩:=O B c C d A n ga;obtain⟨h,G,L⟩:=N B c C d A n Q;rw[zR]at F;obtain⟨z,ez,F⟩:=zE.mp F;subst F;obtain⟨hx,hy⟩:=Ŧ.mp ez;obtain⟨u1,Z,b1⟩:=M.get hx;obtain⟨u2,Y,b2⟩:=L.get hy;refine⟨⟨e,h,u1,u2,I,G,Z,Y⟩,fun v H3 m=>?_⟩;obtain⟨pp,u,w,E,D,hp,hH,hv⟩:=m;have E:=E e I;have D:=D h G;rw[Z]at E;rw[Y]at D;cases E;cases D;subst hH;subst hv;exact v6 n hp b1 b2
  ·obtain⟨ga,Q⟩:=wv S
   obtain⟨e,I,M⟩:=O B c C d A n ga;obtain⟨h,G,L⟩:=N B c C d A n Q;refine⟨e,h,I,G,?_⟩;rw[<- M.length,<- L.length];simp only[zH,ļ];lia
noncomputable def fP(n0:Nat)(xs:List AV):List AV:=(xs.zipIdx n0).map fun z=>.tup [.int ((z.2:Nat):Int),z.1]
theorem ux[Pf]{mg:Gm}{P:Pr}{φ:List Ç}{H:Hp}{K:á}{a:Ç}{b:Iv}{n0:Nat}(h:∀P2 φ2 H2 st2,Frm P φ H P2 φ2 H2->Sim mg P2 φ2 st2 H2->cT b.gd st2=Â->∃vs,cb K H2 a vs/\Pi mg P2 H2 φ2 b.Ph vs):wJ mg (A5 K a n0) ⟨fP n0 b.Ph,b.gd⟩ P φ H where
 go:=fun P2 φ2 H2 st2 i x f s g e=>by
  obtain⟨vs,c,d⟩:=h P2 φ2 H2 st2 f s g;unfold fP at e;rw[zR,ύ]at e;cases hz:b.Ph[i]? with
  |none=>rw[hz]at e;cases e
  |some y =>
   rw[hz]at e;cases e;obtain⟨v,k,r1⟩:=d.get hz;refine⟨⟨vs,v,c,k⟩,fun w q j=>?_⟩;obtain⟨p,u,l,n,o,m⟩:=j
   have:=l vs c
   rw[k]at this;cases this;subst o;subst m;exact v6 s n (by simp only[RA]) r1
 stop:=fun P2 φ2 H2 st2 f s g=>by
  obtain⟨vs,c,d⟩:=h P2 φ2 H2 st2 f s g;exact⟨vs,c,by rw[<- d.length];simp[fP]⟩
def LZ(f:EF):IF:=fun c b=>(f c b).bind fun p=>(jE p.2 p.1).map fun a=>(⟨fP 0 a.Ph,a.gd⟩,p.2)
theorem JN[Pf]{m:Nat}(x:Gl X "enumerate")(v:X.mg "enumerate"=Á)(y:QE X a f)(g:Ê [a] X.env=[(Ã,eval a X.env)]) :
  QI X (.Tuple elts m tpos) (.Call (.Name "enumerate" p) [a] [] pos) (LZ f) :=
 jz (ER x v (dj y fy (by rw[g];rfl)) g) fun F H R e=>by
  refine e7 e fun P E I G r s t=>?_
  obtain⟨J,o,A,k⟩:=t;obtain⟨q,D,C⟩:=zA A;obtain⟨u,i,B⟩:=zE.mp C;cases B;refine zc r s ⟨q.1,q.2,D,fun j b l w z c r1=>?_⟩;obtain⟨a1,rfl,h⟩:=mF c r1 i;obtain⟨n,d,_⟩:=h j b l q.2 Frm.refl c (mE i);exact⟨a1,rfl,⟨n,d⟩,k j b l _ z c (ux h)⟩
end
end R
namespace L2
open PySem PySem.Spec PyProof.Rows
section
variable{prog:Ò}{w:à}{A:ą}{E:Å->É->Prop}{s:É}
theorem AD(l:Ç)(items:Array Å)(n:Nat)(dct:Option Ç)(sl:Array (Option Å))(t:Tok)(i:Int)(hf:ĸ i=Â) :
  Meets (u?.«enumerate.__new__» ⟨[.type "enumerate",.ref l],[("start",.int i t)]⟩) (fun _ R s=>s.heap.get? l=À { cls:=.type "list",dict:=dct,data:=.seq items n,slots:=sl } /\
   R (.ok (.ret (.ref (s.heap.push { cls:=.type "list_iterator",data:=.fields #[.ref l,.int 0 0] }).objs.size)))
    { s with heap:=(s.heap.push { cls:=.type "list_iterator",data:=.fields #[.ref l,.int 0 0] }).push { cls:=.type "enumerate",data:=.fields #[.none,.bool Ã,.ref s.heap.objs.size,x! i,.none,.none] } }):=Meets.of_wp fun e w A R s h=>by
  obtain⟨m,g,d,j,k⟩:=s;obtain⟨a,h⟩:=h;have f:=sub_enumerate;have b:Heap.IsList (Shared.heap ⟨m,g,d,j,k⟩) l items:=⟨_,a,rfl,n,rfl⟩
  wp_walk using į a
  refine wpAny_stack_any fun o=>yF ?_
  split
  ·rename_i c _ _ _ _ _
   cases (c==M? "enumerate")
   ·wp_walk using į a,ī b
    exact⟨_,rfl,h⟩
   ·wp_walk using į a,ī b
    exact⟨_,rfl,h⟩
  ·wp_walk using į a,ī b
   exact⟨_,rfl,h⟩
theorem xS{l:Ç}{items:Array Å}{t:Tok}{i:Int}{Q:Å->É->Prop}(K:ĸ i=Â)(N:s.heap.IsList l items)
  (h:∀h',IsEnum h' (s.heap.objs.size+1) s.heap.objs.size i .none->h'.IsListIter s.heap.objs.size l 0->(∀b o,s.heap.get? b=À o->h'.get? b=À o)->Q (.ref (s.heap.objs.size+1)) { s with heap:=h' }) :
  Î (model prog w) A (call (.type "enumerate") [.ref l] [("start",.int i t)]) Q E s:=by
 obtain⟨⟨V,B,U,H⟩,J,p,n,hd⟩:=N;dsimp only at p hd;subst p hd;have g:=F.called_enumerate;obtain⟨c,O,D⟩:=g.mro;have v:=g.made;have C:=g.sub;have T:=g.notType;have S:=g.canCreate;have L:=tL (.ref l) (.int i t);have z:=sR (.ref l) (.int i t);refine w? (codeAny_of_tree ?_);show Î _ _ (callAny (.type "enumerate") _) _ _ _;refine yF ⟨Code.quiet_builtin _ (by decide +kernel),Ϙ F.entry_type_call ?_⟩;rw[Around.under_plain (weight_type_call_type "enumerate" _ _) (units_type_call_type "enumerate" _ _)]
 repeat (any_goals (first | assumption | wp_step))
 have hz:(s.heap.push { cls:=.type "list_iterator",data:=.fields #[.ref l,.int 0 0] }).objs.size=s.heap.objs.size+1:=Ħ ..;have y:=zY (s.heap.push { cls:=.type "list_iterator",data:=.fields #[.ref l,.int 0 0] }) (o:={ cls:=.type "enumerate",data:=.fields #[.none,.bool Ã,.ref s.heap.objs.size,x! i,.none,.none] }) rfl;rw[hz]at y;refine ŧ (T5 (R:=wants (fun f d=>d.TypeIs f "enumerate"/\Q f d) E) g.plain F.entry_enumerate_new (wpAny_of_eq z (AD l items n B H t i K prog w A.in1 _ s ⟨J,?_⟩))) fun r d q=>?_
 ·show _/\_
  rw[hz];exact⟨⟨_,y,rfl⟩,h _ y ⟨_,zG _ (zY _ rfl),rfl,rfl⟩ fun b o x=>zG _ (zG _ x)⟩
 ·cases r with
  |error e=>exact q
  |ok fl =>
   cases fl with
   |ret f =>
    obtain⟨G,u⟩:=q;have I:=g.init.lookup;have M:=g.init.bind f
    repeat (any_goals (first | assumption | wp_step))
    refine ŧ (T5 (R:=wants (fun r j=>r=.none/\Q f j) E) g.init.plain F.entry_object_init (g.init.check _ _ _ _ _ _ _ _ G (qW f (.ref l) (.int i t)) (xH g.init.lookup g.made dC prog w A.in1 _ d ⟨G,rfl,u⟩))) fun m j a=>?_
    cases m with
    |error e=>exact a
    |ok k =>
     cases k with
     |ret r =>
      obtain⟨rfl,P⟩:=a
      repeat (any_goals (first | assumption | wp_step))
     |_=>exact a.elim
   |_=>exact q.elim
end
end L2
namespace R
open PySem PySem.Spec PyProof.Rows L2
open DD (PE_imp PT_imp PA_imp PS_imp PSs_imp OpR_imp PW_imp PG_imp pyOk)
section
variable{X:Cx}{tg e a b:Í}{es:List Í}{pos p kp:ę}
theorem BL[Pf]{k:Nat}(B:Gl X "enumerate")(x:X.mg "enumerate"=Á)(D:PA X [a] ta)(C:PE X b tb)(e:Ê [a] X.env=[(Ã,eval a X.env)]) :
  PI X (.Tuple elts k tpos) (.Call (.Name "enumerate" p) [a] [⟨À "start",b,kp⟩] pos) (fun σ H R=>ta σ H fun vs H1=>tb σ H1 fun y H2=>∃l n0,vs=[.ref l]/\y=.int ((n0:Nat):Int)/\n0<=1000000/\(∃xs,cb X.K H2 l xs)/\R (A5 X.K l n0) H2):=by
 intro i s σ H R I h;refine û (d7 I B x sI (vm (by rw[e];rfl) (by rfl) ?_));have g:=D pos i s σ H _ I h;rw[e]at g ⊢;refine Z2 (by rfl) (Bm g fun K m d=>?_);obtain⟨vs,H1,J,r1,o⟩:=d;refine Z1 (aE (C i m σ H1 _ J o) fun u c ⟨y,H2,j,r2,l,n0,G,F,M,⟨xs,w⟩,q⟩=>Z0 ?_);subst G;subst F;obtain⟨t,rfl⟩:=r2;cases r1 with
 |cons r n =>
  cases n;cases r;obtain⟨N,L,v,_⟩:=j.list w;show Î _ _ (call (.type "enumerate") [.ref l] [("start",.int ((n0:Nat):Int) t)]) _ _ _;refine xS (s:=c) ?_ v.isList fun E f A z=>?_
  ·unfold ĸ
   simp only[zC,yB];lia
  refine a? (s:={ c with heap:=E }) f ?_;exact u6 (t':=c.toks) (n0:=n0) j f A z q
def xI(f g:EF):IF:=fun a c=>(f a c).bind fun p=>(g a p.2).bind fun q=>match q.1 with
 |.int i=>if(decide (0<=i)&&å i.natAbs 1000000)=Â then(jE q.2 p.1).map fun b=>(⟨fP i.toNat b.Ph,b.gd⟩,q.2) else Á
 |_=>Á
theorem GO[Pf]{A:Nat}(J:Gl X "enumerate")(I:X.mg "enumerate"=Á)(M:QE X a f)(L:QE X b g)(o:Ê [a] X.env=[(Ã,eval a X.env)]) :
  QI X (.Tuple elts A tpos) (.Call (.Name "enumerate" p) [a] [⟨À "start",b,kp⟩] pos) (xI f g) :=
 jz (BL J I (dj M fy (by rw[o];rfl)) L o) fun Y H R l=>by
  refine e7 l fun P W D st n s F=>?_
  obtain⟨iv,C,O,k⟩:=F;obtain⟨q,U,T⟩:=zA O;obtain⟨r,S,d⟩:=zA T;refine zc n s ⟨q.1,q.2,U,fun V e H1 w v E r1=>⟨V,e,D,q.2,n.frm v,E,r.1,r.2,S,fun y c z Z u h r2=>?_⟩⟩;split at d
  ·rename_i i N
   rw[N]at r2;simp only[RA]at r2;subst r2;split at d
   ·rename_i m
    simp only[zC,yB]at m;have K:=zS m.2;obtain⟨G,x,Q⟩:=zE.mp d;cases Q;obtain⟨a1,rfl,t⟩:=mF h (r1.frm u) x;obtain⟨B,j,_⟩:=t y c z r.2 Frm.refl h (mE x);exact⟨a1,i.toNat,rfl,by rw[ŝ m.1],by lia,⟨B,j⟩,k y c z _ (v.trans u) h (ux t)⟩
   ·cases d
  ·cases d
end
mutual
noncomputable def rf:AV->Bool
 |.ref _=>Ã
 |.tup xs=>rfs xs
 |_=>Â
noncomputable def rfs:List AV->Bool
 |[]=>Â
 |x::xs=>rf x&&rfs xs
end
mutual
theorem RA.rf:∀{t:AV}{v:V},R.rf t=Â->RA mg P H φ t v->RA mg P H ψ t v
 |.non,_,_,h=>by simp only[RA]at h ⊢;exact h
 |.bl _,_,_,h=>by simp only[RA]at h ⊢;exact h
 |.int _,_,_,h=>by simp only[RA]at h ⊢;exact h
 |.str _,_,_,h=>by simp only[RA]at h ⊢;exact h
 |.fz _,_,_,h=>by simp only[RA]at h ⊢;exact h
 |.ref k,_,e,_=>by simp only[R.rf]at e;cases e
 |.tup xs,_,e,h=>by
  simp only[RA,R.rf]at h e ⊢;obtain⟨a,vs,r,p,e',q⟩:=h;exact⟨a,vs,r,p,e',Pi.rf e q⟩
theorem Pi.rf:∀{ts:List AV}{vs:List V},R.rfs ts=Â->Pi mg P H φ ts vs->Pi mg P H ψ ts vs
 |[],_,_,h=>by simp only[Pi]at h ⊢;exact h
 |t::ts,_,e,h=>by
  simp only[Pi,R.rfs,zC]at h e ⊢;obtain⟨v,ws,e',r,q⟩:=h;exact⟨v,ws,e',RA.rf e.1 r,Pi.rf e.2 q⟩
end
abbrev NF:=Sl->aa->Option (List AV×aa)
def rN[Pf](mg:Gm)(f:NF):TE:=fun k H Q=>∃P d j i,Pn mg P H d j k/\Sim mg P d i H/\∃g b,f j i=À (g,b) /\
 ∀e a c p h,Frm P d H e a c->Sim mg e a b c->c p=Á->Pi mg e c a g h->Q (.ref p) (ah c p (.lst h))
def QN[Pf](X:Cx)(e:Í)(f:NF):Prop:=PE X e (rN X.gm f)
def N3(f:NF):EF:=fun b a=>(f b a).bind fun p=>if rfs p.1=Â then À (.fz p.1,p.2) else Á
noncomputable def N2(f:NF):EF:=fun b a=>(f b a).bind fun p=>À (.ref p.2.length,p.2++[.lst p.1])
theorem IB[Pf]{mg:Gm}{P:Pr}{φ:List Ç}{st:aa}{H:Hp}{p:Ç}{xs:List AV}{vs:List V}(s:Sim mg P φ st H)(d:H p=Á)(c:rfs xs=Â)(r:Pi mg P H φ xs vs) :
  ∃P3,Frm P φ H P3 φ (ah H p (.lst vs))/\Sim mg P3 φ st (ah H p (.lst vs))/\RA mg P3 (ah H p (.lst vs)) φ (.fz xs) (.ref p):=by
 obtain⟨a,b⟩:=pL (o:=.lst vs) s d;refine⟨_,a,b,?_⟩;simp only[RA];exact⟨p,vs,rfl,.inl ⟨.inr rfl,.inl aD⟩,Pi.rf c (r.frm a)⟩
theorem HI[Pf]{mg:Gm}{P:Pr}{φ:List Ç}{st:aa}{H:Hp}{p:Ç}{xs:List AV}{vs:List V}(s:Sim mg P φ st H)(b:H p=Á)(r:Pi mg P H φ xs vs) :
  Frm P φ H P (φ++[p]) (ah H p (.lst vs))/\Sim mg P (φ++[p]) (st++[.lst xs]) (ah H p (.lst vs))/\RA mg P (ah H p (.lst vs)) (φ++[p]) (.ref st.length) (.ref p):=by
 have ne:∀a,H a≠Á->a≠p:=fun a h e=>h (by rw[e];exact b)
 obtain⟨f,d⟩:=oY (c:=.lst xs) (o:=.lst vs) s b ⟨fun z=>s.dom p z b,vs,aD,r.mono (fun a h=>⟨h,ae (ne a (s.dom a h))⟩) fun k a e=>by rw[zN (zB.mp e).1];exact e⟩;refine⟨f,d,?_⟩;simp only[RA];exact⟨p,by rw[<- s.len];simp,rfl⟩
section
variable{X:Cx}{e a b:Í}{es:List Í}{pos:ę}{f:NF}
noncomputable def cU(n:Nat):Bool:=å n 1000000
theorem kO{n:Nat}(h:cU n=Â):n<=Ë:=z5 (zS h) dC
def LQ(g:AF):NF:=fun b a=>(g b a).bind fun p=>if cU p.1.length=Â then À p else Á
theorem Es[Pf](h:QA X es g):QN X (.List es pos) (LQ g) :=
 PE_imp (zp h) fun w H Q c=>by
  refine e7 c fun P v y x j s l=>?_
  obtain⟨e,b,o,k⟩:=l;obtain⟨q,r,d⟩:=zA o;split at d
  ·rename_i hz
   cases d;exact i7 j s ⟨e,b,r,fun t a u f n i r1=>⟨by rw[<- r1.length];exact kO hz,fun p m=>k t a u p f n i m r1⟩⟩
  ·cases d
def qQ(f g:EF):NF:=fun c d=>(f c d).bind fun p=>(g c p.2).bind fun q=>(cw q.2 p.1).bind fun b=>(cw q.2 q.1).bind fun a=>if cU (b.length+a.length)=Â then À (b++a,q.2) else Á
theorem GM[Pf]{f g:EF}(E:QE X a f)(D:QE X b g):QN X (.BinOp a .Add b pos) (qQ f g) :=
 PE_imp (xg E3 E D) fun V H Q h=>by
  refine e7 h fun P U z Z j s B=>?_
  obtain⟨W,v,F,k⟩:=B;obtain⟨q,M,L⟩:=zA F;obtain⟨r,K,J⟩:=zA L;obtain⟨x,I,G⟩:=zA J;obtain⟨y,e7,i⟩:=zA G;split at i
  ·rename_i hz
   cases i;refine i7 j s ⟨q.1,q.2,M,fun S d H1 w o A r1=>⟨S,d,z,q.2,j.frm o,A,r.1,r.2,K,fun R c T Y n e r2=>?_⟩⟩;obtain⟨a1,t,rfl,O,m⟩:=(r1.frm n).ls e I;obtain⟨a2,u,rfl,N,l⟩:=r2.ls e e7;exact⟨a1,a2,t,u,rfl,rfl,O,N,by rw[<- m.length,<- l.length];exact kO hz,fun p C=>k R c T p _ (o.trans n) e C (m.app l)⟩
  ·cases i
def xm(g:AF)(f:EF):NF:=fun a b=>(g a b).bind fun p=>(f a p.2).bind fun q=>match q.1 with
 |.int k=>if(gD k&&cU (p.1.length*k.toNat)&&cU p.1.length)=Â then À ((È k.toNat p.1).flatten,q.2) else Á
 |_=>Á
theorem Pi.rep(h:Pi mg P H φ xs vs):∀k:Nat,Pi mg P H φ (È k xs).flatten (È k vs).flatten
 |0=>bO
 |k+1=>by rw[ì,ì,Ċ,Ċ];exact h.app (Pi.rep h k)
theorem GI[Pf]{g:AF}{f:EF}{a:ę}(h:QA X es g)(J:QE X b f):QN X (.BinOp (.List es a) .Mult b pos) (xm g f) :=
 PE_imp (xg Hw (zp h) J) fun U H Q n=>by
  refine e7 n fun P T B W x s F=>?_
  obtain⟨V,A,M,k⟩:=F;obtain⟨q,R,O⟩:=zA M;obtain⟨r,N,c⟩:=zA O;split at c
  ·rename_i j L
   split at c
   ·rename_i d
    cases c;simp only[zC]at d;refine i7 x s ⟨q.1,q.2,R,fun Z i H1 l y E r1=>⟨by rw[<- r1.length];exact kO d.2,fun p I=>?_⟩⟩
    obtain⟨v,D⟩:=pL (o:=.lst l) E I;refine⟨_,i,B,q.2,(x.frm y).frm v,D,r.1,r.2,N,fun S e z w u C m=>?_⟩;rw[L]at m;simp only[RA]at m;subst m;have K:z p=À (.lst l):=by rw[(u.ext p (.inr rfl)).2,aD]
    have Y:=iC d.1.1;refine⟨p,j,l,rfl,rfl,K,by lia,by lia,by rw[<- r1.length];exact kO d.1.2,fun G t=>?_⟩;exact k S e z G _ ((y.trans v).trans u) C t (Pi.rep ((r1.frm v).frm u) _)
   ·cases c
  ·cases c
abbrev OF:=Sl->aa->Option (Option Int×aa)
def rO[Pf](mg:Gm)(f:OF):TO:=fun d H Q=>∃P a c b,Pn mg P H a c d/\Sim mg P a b H/\KG mg RB P a H (f c b) Q
def QO[Pf](X:Cx)(e:Option Í)(f:OF):Prop:=PO X e (rO X.gm f)
noncomputable def LP:OF:=fun _ a=>À (Á,a)
noncomputable def pK(f:EF):OF:=fun b a=>(f b a).bind fun p=>match p.1 with
 |.int i=>À (À i,p.2)
 |_=>Á
theorem wG(h:PO X eo t)(i:∀σ H Q,t' σ H Q->t σ H Q):PO X eo t':=fun b s σ H Q I a=>h b s σ H Q I (i σ H Q a)
theorem Er[Pf]:QO X Á LP:=wG EM fun c H Q a=>e7 a fun P b e d f s k=>k.pure s rfl
theorem Ep[Pf]{f:EF}(h:QE X e f):QO X (À e) (pK f):=wG (EL h) fun y H Q g=>e7 g fun P w A z p s k=>i7 p s (by
 obtain⟨a,d,t,q⟩:=k.bind (Ra:=RA);refine⟨a,d,t,fun u b v c r o r1=>?_⟩;obtain⟨C,l,m,x,B,n,r2,j⟩:=q u b v c r o r1;cases x<;>first|exact j.no.elim|skip
 rename_i i;simp only[RA]at r2;exact⟨i,r2,j.pure n rfl⟩)
def cut{α:Type}(xs:List α)(a b:Option Int):List α:=(xs.drop (HT.Ps xs.length 0 a)).take (HT.Ps xs.length xs.length b-HT.Ps xs.length 0 a)
theorem Pi.cut(h:Pi mg P H φ xs vs)(a b:Option Int):Pi mg P H φ (R.cut xs a b) (rk vs a b):=by
 unfold R.cut rk;rw[h.length];exact(h.drop _).take _
theorem MG[Pf]{mg:Gm}{f:EF}{l h:OF}{σ:St}{H:Hp}{P:Pr}{φ:List Ç}{sl:Sl}{st:aa}(d:Pn mg P H φ sl σ)(s:Sim mg P φ st H){r:V->Option Int->Option Int->Hp->VK->Prop}{Q:VK}
  (k:∃v st1 lo st2 hi st3,f sl st=À (v,st1)/\l sl st1=À (lo,st2)/\h sl st2=À (hi,st3)/\∀P' φ' H' w,Frm P φ H P' φ' H'->Sim mg P' φ' st3 H'->RA mg P' H' φ' v w->r w lo hi H' Q):LB r (rE mg f) (rO mg l) (rO mg h) σ H Q:=by
 obtain⟨v,st1,lo,st2,hi,st3,x,u,t,k⟩:=k;refine i7 d s ⟨v,st1,x,fun A c D w g n r1=>⟨A,c,sl,st1,d.frm g,n,lo,st2,u,fun z b C p e m r2=>⟨z,b,sl,st2,(d.frm g).frm e,m,hi,st3,t,fun y a B q i j o=>?_⟩⟩⟩;cases r2;cases o;exact k y a B w ((g.trans e).trans i) j ((r1.frm e).frm i)
def pO(f:EF)(l h:OF):NF:=fun a c=>(f a c).bind fun p=>(l a p.2).bind fun q=>(h a q.2).bind fun r=>(cw r.2 p.1).map fun b=>(cut b q.1 r.1,r.2)
theorem JK[Pf]{f:EF}{l h:OF}{e g:Option Í}{u:ę}(z:QE X a f)(x:QO X e l)(y:QO X g h):QN X (.Subscript a (.Slice e g Á u) pos) (pO f l h) :=
 PE_imp (BP Ed z x y) fun O H Q c=>by
  refine e7 c fun P N U T m s o=>?_
  obtain⟨S,j,B,k⟩:=o;obtain⟨q,J,I⟩:=zA B;obtain⟨r,G,F⟩:=zA I;obtain⟨t,E,D⟩:=zA F;obtain⟨R,e7,C⟩:=zE.mp D;cases C;refine MG m s ⟨q.1,q.2,r.1,r.2,t.1,t.2,J,G,E,fun L b M w A d r1=>?_⟩;obtain⟨a1,i,rfl,K,n⟩:=r1.ls d e7;exact⟨a1,i,rfl,K,fun p v=>k L b M p _ A d v (n.cut _ _)⟩
def oZ(f:EF):NF:=fun c b=>(f c b).bind fun p=>match cw p.2 p.1 with
 |some a=>À (a,p.2)
 |none=>(jQ p.2 p.1).map fun a=>(a,p.2)
theorem GL[Pf]{f:EF}{p pos:ę}(z:Gl X "list")(y:X.mg "list"=Á)(A:QE X a f)(m:Ê [a] X.env=[(Ã,eval a X.env)]):QN X (.Call (.Name "list" p) [a] [] pos) (oZ f) :=
 PE_imp (rX vj z y lN (dj A fy (by rw[m];rfl)) (he:=by rw[m];rfl) (hpl:=rfl)) fun F H Q g=>by
  refine e7 g fun P E J I v s x=>?_
  obtain⟨G,u,B,k⟩:=x;obtain⟨q,D,j⟩:=zA B;refine zc v s ⟨q.1,q.2,D,fun o b r w n d r1=>?_⟩;split at j
  ·rename_i t i
   cases j;obtain⟨a1,c,rfl,l,e⟩:=r1.ls d i;exact⟨a1,c,rfl,.inl l,fun p h=>k o b r p c n d h e⟩
  ·obtain⟨t,i,C⟩:=zE.mp j
   cases C;obtain⟨a1,c,rfl,l,e⟩:=r1.tp d i;exact⟨a1,c,rfl,.inr (.inl (.inl l)),fun p h=>k o b r p c n d h e⟩
end
abbrev GF:=AV->Sl->aa->Option (Sl×aa)
abbrev vB:=List AV->Sl->aa->Option (Sl×aa)
def KS[Pf](mg:Gm)(P:Pr)(φ:List Ç)(H:Hp)(r:Option (Sl×aa))(Q:St->Hp->Prop):Prop :=
 ∃d c,r=À (d,c)/\∀f a e b,Frm P φ H f a e->Sim mg f a c e->Pn mg f e a d b->Q b e
def rG[Pf](mg:Gm)(f:GF):TG:=fun v d H Q=>∃P a c b x,Pn mg P H a c d/\Sim mg P a b H/\RA mg P H a x v/\KS mg P a H (f x c b) Q
def NJ[Pf](mg:Gm)(f:vB):vw:=fun g e H Q=>∃P a d c b,Pn mg P H a d e/\Sim mg P a c H/\Pi mg P H a b g/\KS mg P a H (f b d c) Q
def QG[Pf](X:Cx)(a:Í)(f:GF):Prop:=PG X a (rG X.gm f)
def AY[Pf](X:Cx)(a:List Í)(f:vB):Prop:=sO X a (NJ X.gm f)
noncomputable def Ax(i:Nat):GF:=fun x b a=>À (b.set i (À x),a)
noncomputable def Iu:vB:=fun a c b=>match a with
 |[]=>À (c,b)
 |_=>Á
noncomputable def Iz(f:GF)(g:vB):vB:=fun a c b=>match a with
 |x::a=>(f x c b).bind fun p=>g a p.1 p.2
 |[]=>Á
def Aw(n:Nat)(g:vB):GF:=fun x c b=>match jQ b x with
 |some a=>if a.length=n then g a c b else Á
 |none=>match cw b x with
  |some a=>if a.length=n then g a c b else Á
  |none=>Á
theorem vy(h:sO X tgs t)(i:∀v σ H Q,t' v σ H Q->t v σ H Q):sO X tgs t':=fun c s σ H v u Q I a b=>h c s σ H v u Q I a (i v σ H Q b)
section
variable{X:Cx}{e a b:Í}{es:List Í}{pos:ę}
theorem KS.pure[Pf]{mg:Gm}{P:Pr}{φ:List Ç}{H:Hp}{sl:Sl}{st:aa}{σ:St}{Q:St->Hp->Prop}(h:KS mg P φ H (À (sl,st)) Q)(s:Sim mg P φ st H)(r:Pn mg P H φ sl σ):Q σ H:=by
 obtain⟨_,_,e,q⟩:=h;cases e;exact q P φ H σ Frm.refl s r
theorem Ey[Pf]{i:Nat}(e:X.N.Nodup)(c:X.N[i]?=À x)(b:Loc X.env.scope x)(d:X.fn x=Â\/X.env.scope.names.lookup x=À .local):QG X (.Name x pos) (Ax i) :=
 PG_imp (EV e c b d) fun v g H Q ⟨P,f,j,h,x,a,s,rx,k⟩=>k.pure s (a.set rx i)
theorem Ew[Pf]:AY X [] Iu:=vy ET fun v f H Q a=>by
 obtain⟨P,d,h,g,b,c,s,rx,k⟩:=a;cases b with
 |nil=>simp only[Pi]at rx;exact⟨rx,k.pure s c⟩
 |cons _ _=>obtain⟨_,_,e,_⟩:=k;cases e
theorem BC[Pf](E:QG X e f)(D:AY X es g)(C:(â (e::es) X.env).map (·.2)=assign e X.env::(â es X.env).map (·.2)):AY X (e::es) (Iz f g) :=
 vy (BM E D C) fun v M H Q m=>by
  obtain⟨P,o,y,u,d,B,s,rx,k⟩:=m;cases d with
  |nil=>obtain⟨_,_,e,_⟩:=k;cases e
  |cons x d =>
   simp only[Pi]at rx;obtain⟨w,t,rfl,r1,r2⟩:=rx;obtain⟨i,h,e,q⟩:=k;obtain⟨p,I,G⟩:=zA e;exact⟨w,t,rfl,P,o,y,u,x,B,s,r1,p.1,p.2,I,fun K b N r n A l=>⟨K,b,p.1,p.2,d,l,A,r2.frm n,i,h,G,fun J a L c F z j=>q J a L c (n.trans F) z j⟩⟩
theorem J4(h:PG X tg t)(h':PG X tg t'):PG X tg (fun v σ H Q=>t v σ H Q\/t' v σ H Q):=fun a s σ H v u Q I r q=>by
 rcases q with q|q
 ·exact h a s σ H v u Q I r q
 ·exact h' a s σ H v u Q I r q
theorem GP[Pf]{k n:Nat}(w:X.calm=Â)(h:AY X es g)(u:(â es X.env).length=n)(d:(â es X.env).findIdx? (·.1)=Á):QG X (.Tuple es k pos) (Aw n g) :=
 PG_imp (J4 (Hg (k:=k) w h u d) (EU (k:=k) w h u d)) fun v z H Q j=>by
  obtain⟨P,o,r,p,x,t,s,rx,y⟩:=j;obtain⟨b,a,e,q⟩:=y;unfold Aw at e;split at e
  ·rename_i f ex
   split at e
   ·rename_i l
    obtain⟨a1,i,rfl,m,c⟩:=rx.tp s ex;exact .inl ⟨a1,i,rfl,.inl (.inl m),by rw[<- c.length];exact l,P,o,r,p,f,t,s,c,b,a,e,q⟩
   ·cases e
  ·split at e
   ·rename_i f ex
    split at e
    ·rename_i l
     obtain⟨a1,i,rfl,m,c⟩:=rx.ls s ex;exact .inr ⟨a1,i,rfl,m,by rw[<- c.length];exact l,P,o,r,p,f,t,s,c,b,a,e,q⟩
    ·cases e
   ·cases e
noncomputable def oX{b:Type}[DecidableEq b](Pd:List (b×AV))(k:b)(v:AV):List (b×AV) :=
 if(Pd.any fun a=>decide (a.1=k))=Â then Pd.map fun a=>if a.1=k then(a.1,v) else a else Pd++[(k,v)]
theorem tW{P:Pr}{H:Hp}{φ:List Ç}{d:Type}[DecidableEq d]{Pd:List (d×AV)}{ws:List (d×V)}{k:d}{v:AV}{w:V}(h:KVR mg P H φ Pd ws)(r:RA mg P H φ v w):KVR mg P H φ (oX Pd k v) (fV ws k w):=by
 have b:(Pd.any fun f=>decide (f.1=k))=(ws.any fun f=>decide (f.1=k)):=by
  have g:∀{j:Type} (l:List (d×j)),(l.any fun f=>decide (f.1=k))=((l.map (·.1)).any fun x=>decide (x=k)):=fun l=>by rw[t?];rfl
  rw[g Pd,g ws,h.1]
 unfold oX fV;rw[b];split
 ·clear b
  rename_i m;clear m
  induction Pd generalizing ws with
  |nil =>
   have:ws=[]:=by simpa using h.1.symm
   subst this;exact⟨rfl,bO⟩
  |cons p Pd c =>
   cases ws with
   |nil=>exact absurd h.1 (by simp)
   |cons q ws =>
    obtain⟨g,i⟩:=h;rw[zO,zO]at g i;injection g with h3 h4;simp only[Pi]at i;obtain⟨u,t,s,o,n⟩:=i;injection s with h8 h9;subst h8;subst h9;have c:=c (ws:=ws) ⟨h4,n⟩;have a:p.1=q.1:=h3;by_cases e:q.1=k
    ·rw[zO,zO,yH e,yH (a.trans e)]
     exact⟨by rw[zO,zO,c.1,a],bo r c.2⟩
    ·rw[zO,zO,yG e,yG (fun z=>e (a.symm.trans z))]
     exact⟨by rw[zO,zO,c.1,a],bo o c.2⟩
 ·refine⟨by rw[ä,ä,h.1];rfl,?_⟩
  rw[ä,ä];exact h.2.app (bo r bO)
def je(st:aa)(o i v:AV):Option aa:=match o with
 |.ref k=>match st[k]? with
  |some (.lst b)=>match i with
   |.int j=>(lZ b.length j).map fun n=>st.set k (.lst (b.set n v))
   |_=>Á
  |some (.dK a)=>(lH i).bind fun x=>if cU a.length=Â then À (st.set k (.dK (oX a x v))) else Á
  |some (.dT a)=>match i with
   |.tup is=>(aT lH is).bind fun x=>if cU a.length=Â then À (st.set k (.dT (oX a x v))) else Á
   |_=>Á
  |_=>Á
 |_=>Á
theorem CU[Pf](hu:X.A.units+64<Š):xY X (fun o i v H Q=>∃P φ st x y z st',Sim X.gm P φ st H/\RA X.gm P H φ x o/\RA X.gm P H φ y i/\RA X.gm P H φ z v/\je st x y z=À st'/\∀P' φ' H',Frm P φ H P' φ' H'->Sim X.gm P' φ' st' H'->Q H'):=by
 rintro Pc s R H o i v V W u Q I G J F ⟨P,φ,st,x,y,z,st',q,rx,w,E,e,k⟩;unfold je at e;cases x with
 |ref j =>
  simp only[RA]at rx;obtain⟨a,r,rfl⟩:=rx;dsimp only at e;split at e
  ·rename_i S A
   obtain⟨O,d,c⟩:=q.at A;rw[r]at d;cases d;obtain⟨f,M,p,l⟩:=c;cases y with
   |int n =>
    simp only[RA]at w;subst w;obtain⟨m,C,g⟩:=zE.mp e;subst g;have hp:P a->False:=f;obtain⟨B,t⟩:=jw (c:=.lst (S.set m z)) (o:=.lst (M.set m v)) q r f ⟨f,_,aD,(l.set E m).mono (fun b h=>⟨h,ae fun e=>f (e▸h)⟩) fun _ _ z=>z⟩ (fun _ _ z=>by rw[p]at z;cases z);exact Bu Pc s R H _ _ v V W u Q I G J F ⟨a,M,n,m,rfl,rfl,p,by rw[<- l.length];exact C,k P φ _ B t⟩
   |_=>cases e
  ·rename_i K A
   obtain⟨O,d,c⟩:=q.at A;rw[r]at d;cases d;obtain⟨f,D,p,l⟩:=c;obtain⟨x,C,g⟩:=zA e;split at g
   ·rename_i hz
    cases g
    have:=o7 C w
    subst this;cases G;obtain⟨B,t⟩:=jw (c:=.dK (oX K x z)) (o:=.dK (fV D x v)) q r f ⟨f,_,aD,(tW l E).mono (fun b h=>⟨h,ae fun e=>f (e▸h)⟩) fun _ _ z=>z⟩ (fun _ _ z=>by rw[p]at z;cases z);refine sH oM I (DPut.k p ?_) J F fun T L=>⟨_,L,k P φ _ B t⟩
    have:=congrArg œ l.1
    rw[zH,zH]at this;rw[<- this];have Z:=zS hz;have Y:(1000000:Nat)<Ë:=by decide
    lia
   ·cases g
  ·rename_i K A
   obtain⟨O,d,c⟩:=q.at A;rw[r]at d;cases d;obtain⟨f,D,p,l⟩:=c;cases y with
   |tup is =>
    dsimp only at e;obtain⟨x,C,g⟩:=zA e;split at g
    ·rename_i hz
     cases g;simp only[RA]at w;obtain⟨b,us,rfl,_,N,U⟩:=w;rw[sj C U]at N;cases G;obtain⟨B,t⟩:=jw (c:=.dT (oX K x z)) (o:=.dT (fV D x v)) q r f ⟨f,_,aD,(tW l E).mono (fun b h=>⟨h,ae fun e=>f (e▸h)⟩) fun _ _ z=>z⟩ (fun _ _ z=>by rw[p]at z;cases z);refine sH oM I (DPut.t p N ?_) J F fun T L=>⟨_,L,k P φ _ B t⟩
     have:=congrArg œ l.1
     rw[zH,zH]at this;rw[<- this];have Z:=zS hz;have Y:(1000000:Nat)<Ë:=by decide
     lia
    ·cases g
   |_=>cases e
  ·cases e
 |_=>cases e
def L0(f g:EF):GF:=fun x b c=>(f b c).bind fun p=>(g b p.2).bind fun q=>(je q.2 p.1 q.1 x).map fun a=>(b,a)
theorem GQ[Pf](C:X.A.units+64<Š)(D:QE X o f)(E:QE X i g)
  (F:∀v,assign (.Subscript o i pos) X.env v=(do
   let ov <- holding [v] (eval o X.env)
   let iv <- holding [v,ov] (eval i X.env)
   Ŝ pos
   holding [v,ov,iv] (Ϥ ov iv v)
   release [v,ov,iv] [])):QG X (.Subscript o i pos) (L0 f g) :=
 PG_imp (Hh D E (CU C) F) fun v p H Q m=>by
  obtain⟨P,T,u,V,x,l,s,rx,t,j,e,k⟩:=m;obtain⟨q,M,L⟩:=zA e;obtain⟨r,K,J⟩:=zA L;obtain⟨z,I,G⟩:=zE.mp J;cases G;exact i7 l s ⟨q.1,q.2,M,fun R h Y w b B r1=>⟨R,h,u,q.2,l.frm b,B,r.1,r.2,K,fun O d W U a A r2=>⟨O,d,r.2,q.1,r.1,x,j,A,r1.frm a,r2,(rx.frm b).frm a,I,fun N c S n y=>k N c S p ((b.trans a).trans n) y (((l.frm b).frm a).frm n)⟩⟩⟩
end
noncomputable def hid(H:Hp)(p:Ç):Hp:=fun b=>if b=p then Á else H b
theorem bM(h:b≠p):hid H p b=H b:=yG h
theorem eA:hid H p p=Á:=yH rfl
theorem DQ(h:H p=À o):ah (hid H p) p o=H:=by
 funext b;by_cases e:b=p
 ·subst e;rw[aD,h]
 ·rw[ae e,bM e]
theorem wn:hid (ah H p o) p=hid H p:=by
 funext b;by_cases e:b=p
 ·subst e;rw[eA,eA]
 ·rw[bM e,bM e,ae e]
theorem Ch(h:H p=Á):hid H p=H:=by
 funext b;by_cases e:b=p
 ·subst e;rw[eA,h]
 ·rw[bM e]
section
variable{mg:Gm}{P P':Pr}{φ φ':List Ç}{st st':aa}{H H':Hp}{p:Ç}
theorem _root_.L2.gZ.sh{P:Ç}{pos:ę}{q:Ì}(h:gZ (hid H p) P pos q):gZ H P pos q:=by
 obtain⟨b,e,t,c⟩:=h;have ne:∀{a o},hid H p a=À o->H a=À o:=fun {a o} e=>by
  by_cases z:a=p
  ·rw[z,eA]at e;cases e
  ·rw[bM z]at e;exact e
 refine⟨b,ne e,t,?_⟩;rcases c with c|⟨g,f,d⟩
 ·exact .inl c
 ·exact .inr ⟨g,f,ne d⟩
theorem _root_.L2.gZ.hd{P:Ç}{pos:ę}{q:Ì}(h:gZ H P pos q)(f:∃vs,H p=À (.lst vs)):gZ (hid H p) P pos q:=by
 obtain⟨d,e,t,c⟩:=h;obtain⟨vs,a⟩:=f;refine⟨d,by rw[bM (xk e a fun z=>nomatch z)];exact e,t,?_⟩;rcases c with c|⟨i,g,b⟩
 ·exact .inl c
 ·exact .inr ⟨i,g,by rw[bM (xk b a fun z=>nomatch z)];exact b⟩
theorem Sim.sh[Pf](s:Sim mg P φ st (hid H p))(o:HO)(f:H p=À o):Sim mg P φ st H/\∀a,P a->P a/\H a=hid H p a:=by
 have c:∀a,P a->a≠p:=fun a h e=>s.dom a h (by rw[e];exact eA)
 have d:∀a∈φ,a≠p:=fun a h e=>s.cd a h (by rw[e];exact eA)
 have ex:∀a,P a->P a/\H a=hid H p a:=fun a h=>⟨h,(bM (c a h)).symm⟩
 exact⟨s.stay ex (fun a h=>(bM (d a h)).symm) (fun _ _ h=>h) (fun a h=>by rw[(ex a h).2];exact s.dom a h) fun t b=>⟨(s.tb t b).1.sh,(s.tb t b).2⟩,ex⟩
theorem Frm.hd[Pf](l:Sim mg P φ st (hid H p))(k:∃vs,H p=À (.lst vs))(f:Frm P φ H P' φ' H')(s:Sim mg P' φ' st' H'):Frm P φ (hid H p) P' φ' (hid H' p)/\Sim mg P' φ' st' (hid H' p)/\(∀a,P' a->P' a/\hid H' p a=H' a)/\H' p=H p:=by
 have g:∀a,P a->a≠p:=fun a h e=>l.dom a h (by rw[e];exact eA)
 have i:∀a∈φ,a≠p:=fun a h e=>l.cd a h (by rw[e];exact eA)
 have j:H p≠Á:=fun z=>by obtain⟨vs,e⟩:=k;rw[z]at e;cases e
 have q:H' p=H p:=f.keep p j (fun h=>i p h rfl) fun v z=>by obtain⟨vs,e⟩:=k;rw[z]at e;cases e
 obtain⟨m,em,nm⟩:=f.new;have c:∀a,P' a->a≠p:=fun a h e=>by
  rcases f.pn a h with z|z|z
  ·exact g a z e
  ·exact j (by rw[<- e];exact z)
  ·exact i a z e
 have d:∀a∈φ',a≠p:=fun a h e=>by
  rw[em]at h;rcases zZ.mp h with z|z
  ·exact i a z e
  ·exact j (by rw[<- e];exact nm a z)
 have b:∀a,hid H p a≠Á->a≠p:=fun a h e=>h (by rw[e];exact eA)
 have ex:∀a,P' a->P' a/\hid H' p a=H' a:=fun a h=>⟨h,bM (c a h)⟩
 refine⟨⟨fun a h=>⟨(f.ext a h).1,by rw[bM (g a h),bM (g a h)];exact(f.ext a h).2⟩,⟨m,em,fun a h=>?_⟩,fun a h n z=>?_,fun a h=>?_,fun a h=>?_,fun a o u h=>?_⟩,s.stay ex (fun a h=>bM (d a h)) (fun _ _ h=>h) (fun a h=>by rw[(ex a h).2];exact s.dom a h) (fun t r=>⟨(s.tb t r).1.hd (by rw[q];exact k),(s.tb t r).2⟩),ex,q⟩
 ·rw[bM (d a (by rw[em];exact zK _ h))];exact nm a h
 ·rw[bM (b a h),bM (b a h)]
  rw[bM (b a h)]at z;rw[bM (b a h)]at h;exact f.keep a h n z
 ·rcases f.pn a h with z|z|z
  ·exact .inl z
  ·exact .inr (.inl (by rw[bM (c a h)];exact z))
  ·exact .inr (.inr z)
 ·rw[bM (b a h)]
  rw[bM (b a h)]at h;exact f.sm a h
 ·have ne:=b a (by rw[h];exact fun z=>nomatch z)
  rw[bM ne]at h ⊢;exact f.fz a o u h
end
def iW(gd:Gd)(g:GF)(t:TF)(f:EF)(sl:Sl):List AV->aa->Option (List AV×aa)
 |[],st=>if cT gd st=Â then À ([],st) else Á
 |x::xs,st=>if cT gd st=Â then(g x sl st).bind fun p=>(t p.1 p.2).bind fun q=>if q.1=Â then(f p.1 q.2).bind fun r=>(iW gd g t f sl xs r.2).map fun z=>(r.1::z.1,z.2) else iW gd g t f sl xs q.2 else Á
def C4(k:Nat)(it:IF)(g:GF)(t:TF)(f:EF):NF:=fun a b=>(it a b).bind fun p=>if cU p.1.Ph.length=Â then iW p.1.gd g t f (a++È k Á) p.1.Ph p.2 else Á
noncomputable def LA:TF:=fun _ a=>À (Â,a)
theorem Pn.ext0(h:Pn mg P H φ sl σ)(k:Nat):Pn mg P H φ (sl++È k Á) (σ++È k Á):=by
 refine⟨by rw[zV,zV,h.1,Ŋ,Ŋ],fun i v e=>?_⟩;have a:i<sl.length:=by
  rcases yT i sl.length with z|z
  ·exact z
  ·rw[z6 z,ü]at e
   split at e<;>cases e
 rw[zN a]at e;rw[zN (by rw[<- h.1];exact a)];exact h.2 i v e
def qy(n:Nat)(g:GF):Prop:=∀x c d a b,g x c d=À (a,b)->a.length=c.length/\∀j,j<n->a[j]?=c[j]?
theorem Pn.back{k:Nat}(h:Pn mg P H φ sl' σ)(a:sl'.length=(sl++È k Á).length)(b:∀j,j<sl.length->sl'[j]?=(sl++È k Á)[j]?):Pn mg P H φ (sl++È k Á) σ:=by
 refine⟨by rw[<- a];exact h.1,fun i v e=>?_⟩;have c:i<sl.length:=by
  rcases yT i sl.length with z|z
  ·exact z
  ·rw[z6 z,ü]at e
   split at e<;>cases e
 exact h.2 i v (by rw[b i c];exact e)
inductive LcI[Pf](mg:Gm)(P1:Pr)(φ1:List Ç)(H1:Hp)(p:Ç)(sk:Sl)(gd:Gd)(g:GF)(t:TF)(f:EF)(L:List AV)(stE:aa)(out:List AV)(i m:Nat)(σ':St)(H':Hp):Prop
 |mk (P' φ' st' xs vs zs) (hm:m=L.length-i) (hle:i<=L.length) (f2:Frm P1 φ1 H1 P' φ' (hid H' p)) (s2:Sim mg P' φ' st' (hid H' p)) (rs2:Pn mg P' (hid H' p) φ' sk σ') (hv:H' p=À (.lst vs)) (rx:Pi mg P' (hid H' p) φ' xs vs) (hlen:xs.length<=i) (eg:iW gd g t f sk (L.drop i) st'=À (zs,stE)) (eo:out=xs++zs)
theorem Ia[Pf]{n k:Nat}(hk:qy n g)(hn:σ.length=n)(h:rN mg (C4 k it g t f) σ H Q):Gc k (rI mg it) (rG mg g) (rT mg t) (rE mg f) σ H Q:=by
 refine e7 h fun P φ R st rs s q0=>?_
 obtain⟨out,stE,ef,kk⟩:=q0;obtain⟨q,e1,e2⟩:=zA ef;split at e2
 ·rename_i hz
  refine i7 rs s ⟨q.1,q.2,e1,fun P1 E H1 J f1 s1 ij=>fun p X=>?_⟩;have hsl:R.length=n:=by rw[rs.1];exact hn
  refine⟨LcI mg P1 E H1 p (R++È k Á) q.1.gd g t f q.1.Ph stE out,⟨q.1.Ph.length-0,?_⟩,?_⟩
  ·have e:hid (ah H1 p (.lst [])) p=H1:=by rw[wn,Ch X]
   exact .mk P1 E q.2 [] [] out rfl (ŀ _) (by rw[e];exact Frm.refl) (by rw[e];exact s1) (by rw[e];exact(rs.frm f1).ext0 k) aD (by rw[e];exact bO) (zP _) (by simpa using e2) rfl
  ·intro i m σ' A hh
   refine g_ fun G bk=>?_
   obtain⟨P2,b,O,xs,N,zs,hm,hle,d,s2,U,I,rx,hlen,l,eo⟩:=hh;obtain⟨S,ex2⟩:=s2.sh _ I;have T:Pn mg P2 A b (R++È k Á) σ':=⟨U.1,fun i v e=>let⟨w,e',r⟩:=U.2 i v e;⟨w,e',r.mono ex2 fun _ _ z=>z⟩⟩;have hpn:A p≠Á:=by rw[I];exact fun z=>nomatch z
   have f2v:Frm P1 E H1 P2 b A:=by
    refine⟨fun a h=>⟨(d.ext a h).1,?_⟩,d.new,fun a h n z=>?_,fun a h=>d.pn a h,fun a h=>?_,fun a o u h=>?_⟩
    ·have ne:a≠p:=fun e=>s1.dom a h (by rw[e];exact X)
     rw[<- bM (H:=A) ne];exact(d.ext a h).2
    ·have ne:a≠p:=fun e=>h (by rw[e];exact X)
     rw[<- bM (H:=A) ne];exact d.keep a h n z
    ·have ne:a≠p:=fun e=>h (by rw[e];exact X)
     rw[<- bM (H:=A) ne];exact d.sm a h
    ·have ne:a≠p:=bu h X
     rw[<- bM (H:=A) ne];exact d.fz a o u h
   rcases yT i q.1.Ph.length with M|M
   ·rw[ù M]at l
    simp only[iW]at l;split at l
    ·rename_i L
     obtain⟨go,yl⟩:=ij.go P2 b A O i _ f2v S L (zF M);refine bk (Or.inr ⟨go,fun x H3 hy=>g_ fun G bk=>?_⟩);obtain⟨P3,f3,s3,r3⟩:=yl x H3 hy;obtain⟨W,e4,e5⟩:=zA l;obtain⟨V,e6,e7⟩:=zA e5;obtain⟨kl,kj⟩:=hk _ _ _ _ _ e4;refine bk ⟨P3,b,R++È k Á,O,q.1.Ph[i],T.frm f3,s3,r3,W.1,W.2,e4,fun P4 φ4 H4 σ4 f4 s4 F=>⟨P4,φ4,W.1,W.2,F,s4,V.1,V.2,e6,fun P5 D H5 c f5 s5 r5=>?_⟩⟩;cases r5;refine g_ fun G bk=>?_
     have Z:=(f3.trans f4).trans f5;have back:∀{P6:Pr}{B:List Ç}{H6:Hp},Frm P5 D H5 P6 B H6->Pn mg P6 H6 B (R++È k Á) σ4:=fun f6=>((F.frm f5).frm f6).back kl fun j hj=>kj j oM
     cases hc:V.1 with
     |true =>
      rw[hc]at e7 bk;simp only[if_true]at e7 bk;obtain⟨q8,e8,e9⟩:=zA e7;obtain⟨z,e10,e11⟩:=zE.mp e9;cases e11;refine bk ⟨P5,D,W.1,V.2,F.frm f5,s5,q8.1,q8.2,e8,fun P6 B H6 y f6 s6 r6=>g_ fun G bk=>?_⟩;obtain⟨Y,sh,C,K⟩:=Frm.hd s2 ⟨_,I⟩ (Z.trans f6) s6;refine bk ⟨N,by rw[K];exact I,?_,q.1.Ph.length-(i+1),by lia,?_⟩
      ·rw[<- rx.length]
       have h1:=zS hz;have h2:(1000000:Nat)<Ë:=by decide
       lia
      ·have eh:hid (ah H6 p (.lst (N++[y]))) p=hid H6 p:=wn
       refine .mk P6 B q8.2 (xs++[q8.1]) (N++[y]) z.1 rfl M (eh.symm▸d.trans Y) (eh.symm▸sh) (eh.symm▸?_) aD (eh.symm▸(rx.frm Y).app (bo (r6.mono C fun _ _ z=>z) bO)) (by rw[zV];simp;lia) e10 (by rw[eo,yM];rfl)
       have:=back f6
       exact⟨this.1,fun i v e=>let⟨w,e',r⟩:=this.2 i v e;⟨w,e',r.mono C fun _ _ z=>z⟩⟩
     |false =>
      rw[hc]at e7 bk;simp only[yA,if_false]at e7 bk;obtain⟨Y,sh,C,K⟩:=Frm.hd s2 ⟨_,I⟩ Z s5;refine bk ⟨q.1.Ph.length-(i+1),by lia,.mk P5 D V.2 xs N zs rfl M (d.trans Y) sh ?_ (by rw[K];exact I) (rx.frm Y) oM e7 eo⟩
      have:=back Frm.refl
      exact⟨this.1,fun i v e=>let⟨w,e',r⟩:=this.2 i v e;⟨w,e',r.mono C fun _ _ z=>z⟩⟩
    ·cases l
   ·have ei:i=q.1.Ph.length:=g! hle M
    subst ei;rw[ϲ]at l;simp only[iW]at l;split at l
    ·rename_i L
     cases l;refine bk (Or.inl ⟨ij.stop P2 b A _ f2v S L,?_⟩)
     have:=kk P2 b (hid A p) p N (f1.trans d) s2 eA (by rw[eo,í];exact rx)
     rw[DQ I]at this;exact this
    ·cases l
 ·cases e2
def wF[Pf](X:Cx)(a:List Í)(t:TF):Prop:=wH X a (rT X.gm t)
section
variable{X:Cx}{elt iter tg:Í}{ifs:List Í}{N':List Ì}{scope:ĝ}{pos:ę}{it:IF}{g:GF}{t:TF}{f:EF}
theorem Eu[Pf]:wF X [] LA:=fun d s b H Q I a=>e7 a fun P e g f h c k=>EQ d s b H Q I (k.pure c rfl)
theorem Et[Pf](h:QT X e t):wF X [e] t:=EO h
theorem Ji{e:Í}{t t':TE}(h:PE X e t)(i:∀σ H Q,σ.length=X.N.length->t' σ H Q->t σ H Q):PE X e t':=fun b s σ H Q I a=>h b s σ H Q I (i σ H Q I.len a)
theorem Jg{st:ĺ}{t t':TS}(h:PS X st t)(i:∀D σ H,σ.length=X.N.length->t' D σ H->t D σ H):PS X st t':=fun b s σ H D I a=>h b s σ H D I (i D σ H I.len a)
theorem C1[Pf](j:X.calm=Â)(T:kJ X N' scope)(e:QI X tg iter it)(i:∀cl s H fp Pc,QG (cY X N' scope cl s H fp Pc) tg g)(a:∀cl s H fp Pc,wF (cY X N' scope cl s H fp Pc) ifs t)
  (he:∀cl s H fp Pc,QE (cY X N' scope cl s H fp Pc) elt f) (d:qy X.N.length g) (b:∀x,ö iter X.env x=pure x):QN X (.ListComp elt [⟨tg,iter,ifs,0⟩] scope pos) (C4 (N'.length-X.N.length) it g t f) :=
 Ji (J7 (g:=rG X.gm g) (tt:=rT X.gm t) (te:=rE X.gm f) j T e (fun cl s H fp Pc=>i cl s H fp Pc) (fun cl s H fp Pc=>a cl s H fp Pc) (fun cl s H fp Pc=>he cl s H fp Pc) b) fun k H Q c h=>Ia d c h
end
inductive Out where
 |nx (sl:Sl) (st:aa)|rt (v:AV) (st:aa)|bk (sl:Sl) (st:aa)|ct (sl:Sl) (st:aa)
abbrev SF:=Sl->aa->Option Out
def ThO[Pf](mg:Gm)(P:Pr)(φ:List Ç)(H:Hp)(D:lT):Out->Prop
 |.nx sl st=>∀P' φ' H' σ',Frm P φ H P' φ' H'->Sim mg P' φ' st H'->Pn mg P' H' φ' sl σ'->D.nx σ' H'
 |.bk sl st=>∀P' φ' H' σ',Frm P φ H P' φ' H'->Sim mg P' φ' st H'->Pn mg P' H' φ' sl σ'->D.bk σ' H'
 |.ct sl st=>∀P' φ' H' σ',Frm P φ H P' φ' H'->Sim mg P' φ' st H'->Pn mg P' H' φ' sl σ'->D.ct σ' H'
 |.rt v st=>∀P' φ' H' w,Frm P φ H P' φ' H'->Sim mg P' φ' st H'->RA mg P' H' φ' v w->D.rt w H'
def KO[Pf](mg:Gm)(P:Pr)(φ:List Ç)(H:Hp)(r:Option Out)(D:lT):Prop:=∃o,r=À o/\ThO mg P φ H D o
def rS[Pf](mg:Gm)(f:SF):TS:=fun D d H=>∃P a c b,Pn mg P H a c d/\Sim mg P a b H/\KO mg P a H (f c b) D
def QS[Pf](X:Cx)(st:ĺ)(f:SF):Prop:=PS X st (rS X.gm f)
def oP[Pf](X:Cx)(a:List ĺ)(f:SF):Prop:=PSs X a (rS X.gm f)
theorem ThO.frm[Pf](h:ThO mg P φ H D o)(f:Frm P φ H P1 φ1 H1):ThO mg P1 φ1 H1 D o:=by
 cases o with
 |nx sl st=>exact fun d a e b c=>h d a e b (f.trans c)
 |bk sl st=>exact fun d a e b c=>h d a e b (f.trans c)
 |ct sl st=>exact fun d a e b c=>h d a e b (f.trans c)
 |rt v st=>exact fun d a e b c=>h d a e b (f.trans c)
theorem KO.bindE[Pf]{α c:Type}{Ra:Gm->Pr->Hp->List Ç->α->c->Prop}{m:Option (α×aa)}{k:α×aa->Option Out}(h:KO mg P φ H (m.bind k) D) :
  KG mg Ra P φ H m fun b H1=>∃P1 φ1 st1 a,Frm P φ H P1 φ1 H1/\Sim mg P1 φ1 st1 H1/\Ra mg P1 H1 φ1 a b/\KO mg P1 φ1 H1 (k (a,st1)) D:=by
 obtain⟨o,e,q⟩:=h;cases m with
 |none=>cases e
 |some p=>exact⟨p.1,p.2,rfl,fun P1 φ1 H1 b f s r=>⟨P1,φ1,p.2,p.1,f,s,r,o,e,q.frm f⟩⟩
theorem KO.nx[Pf]{mg:Gm}{P:Pr}{φ:List Ç}{H:Hp}{sl:Sl}{st:aa}{D:lT}{σ:St}(h:KO mg P φ H (À (.nx sl st)) D)(s:Sim mg P φ st H)(r:Pn mg P H φ sl σ):D.nx σ H:=by
 obtain⟨o,e,q⟩:=h;cases e;exact q P φ H σ Frm.refl s r
theorem KO.no[Pf](h:KO mg P φ H Á D):False:=by obtain⟨_,e,_⟩:=h;cases e
section
variable{X:Cx}{st:ĺ}{rest:List ĺ}{e c tg:Í}{pos:ę}{s t:SF}{f:EF}{g:GF}{b:TF}
noncomputable def LJ:SF:=fun b a=>À (.nx b a)
noncomputable def LH(s t:SF):SF:=fun b a=>(s b a).bind fun o=>match o with
 |.nx b a=>t b a
 |o=>À o
theorem Ek[Pf]:oP X [] LJ:=PSs_imp EH fun D d H a=>e7 a fun P c f e b s k=>k.nx s b
theorem BA[Pf](m:QS X st s)(l:oP X rest t):oP X (st::rest) (LH s t):=PSs_imp (BH m l) fun D w H d=>by
 refine e7 d fun P u x st j h k=>?_
 obtain⟨o,e,q⟩:=k;obtain⟨f,p,a⟩:=zA e;refine i7 j h ⟨f,p,?_⟩;cases f with
 |nx sl1 st1=>exact fun r b y g n i c=>⟨r,b,sl1,st1,c,i,o,a,q.frm n⟩
 |bk sl1 st1=>cases a;exact q
 |ct sl1 st1=>cases a;exact q
 |rt v st1=>cases a;exact q
noncomputable def Gq:SF:=fun _ _=>Á
theorem En[Pf]:QS X st Gq:=PS_imp BJ fun D c H a=>e7 a fun P b d st e s k=>k.no
noncomputable def LM(f:EF):SF:=fun a b=>(f a b).bind fun p=>À (.nx a p.2)
theorem Em[Pf](he:QE X e f)(n:Ĺ e Á pos.line X.env=pure Ã):QS X (.Expr e pos) (LM f):=PS_imp (EJ he n) fun D y H d=>e7 d fun P v A z g s k=>i7 g s (by
 obtain⟨a,c,r,q⟩:=k.bindE (Ra:=RA);refine⟨a,c,r,fun t b u w p l r1=>?_⟩;obtain⟨B,h,i,x,o,j,r2,m⟩:=q t b u w p l r1;exact m.nx j (g.frm o))
noncomputable def LI(f:EF):SF:=fun b a=>(f b a).bind fun p=>À (.rt p.1 p.2)
theorem GD[Pf](he:QE X e f):QS X (.Return (À e) pos) (LI f):=PS_imp (G7 he) fun D z H g=>e7 g fun P y B A m s k=>i7 m s (by
 obtain⟨a,d,t,q⟩:=k.bindE (Ra:=RA);refine⟨a,d,t,fun v c h w p l r1=>?_⟩;obtain⟨u,b,i,x,C,j,r2,o,r,n⟩:=q v c h w p l r1;cases r;exact n u b h w Frm.refl j r2)
noncomputable def LK(b:TF)(s t:SF):SF:=fun a c=>(b a c).bind fun p=>if p.1=Â then s a p.2 else t a p.2
theorem JJ[Pf](u:QT X c b)(z:oP X x s)(v:oP X y t):QS X (.If c x y pos) (LK b s t):=PS_imp (JU u z v) fun D G H i=>e7 i fun P F j I h p k=>i7 h p (by
 obtain⟨a,g,B,q⟩:=k.bindE (Ra:=RB);refine⟨a,g,B,fun C f E w A r r1=>?_⟩;obtain⟨o,d,e,x,n,l,r2,m⟩:=q C f E w A r r1;cases r2;cases w with
 |true=>exact⟨o,d,j,e,h.frm n,l,m⟩
 |false=>exact⟨o,d,j,e,h.frm n,l,m⟩)
noncomputable def zb(f:EF)(g:GF):SF:=fun a b=>(f a b).bind fun p=>(g p.1 a p.2).bind fun q=>À (.nx q.1 q.2)
theorem xW[Pf](h:rS mg (zb f g) D σ H):wZ (rE mg f) (rG mg g) D σ H:=by
 refine e7 h fun P C k E i s n=>?_
 obtain⟨o,e,q⟩:=n;obtain⟨p,y,x⟩:=zA e;obtain⟨r,v,u⟩:=zA x;cases u;exact i7 i s ⟨p.1,p.2,y,fun A b F w j m r1=>⟨A,b,k,p.2,p.1,i.frm j,m,r1,r.1,r.2,v,fun z a B c t l d=>q z a B c (j.trans t) l d⟩⟩
theorem tT[Pf](he:QE X e f)(c:QG X tg g)(b:ś [tg] e pos.line X.env=pure Ã)(a:õ [tg] e X.env=pure Á)(d:(â [tg] X.env).map (·.2)=[assign tg X.env]):QS X (.Assign [tg] e pos) (zb f g) :=
 PS_imp (Ha he c b a d) fun D i H h=>xW h
theorem HG[Pf]{i:Nat}(h:rG mg (Ax i) v σ H Q):qa i v σ H Q:=by
 obtain⟨P,b,d,c,x,a,s,rx,k⟩:=h;exact k.pure s (a.set rx i)
theorem zf[Pf]{i:Nat}(o:X.N.Nodup)(m:X.N[i]?=À x)(j:Loc X.env.scope x)(he:QE X e f)(l:Ĺ e (À (.Name x pos')) pos.line X.env=pure Ã)(n:X.fn x=Â\/X.env.scope.names.lookup x=À .local) :
  QS X (.Assign [.Name x pos'] e pos) (zb f (Ax i)):=PS_imp (G6 o m j he l n) fun D v H h=>by
 obtain⟨P,u,z,y,c,s,g,d,q,k⟩:=xW h;exact i7 c s ⟨g,d,q,fun r a t w p b r1=>HG (k r a t w p b r1)⟩
def Dy(m:Bool)(f:NF):EF:=if m=Â then N2 f else N3 f
theorem HC[Pf]{mg:Gm}{m:Bool}{f:NF}{σ:St}{H:Hp}{Q:VK}(h:rE mg (Dy m f) σ H Q):rN mg f σ H Q:=by
 refine e7 h fun P z B A n s u=>?_
 obtain⟨v,t,ev,k⟩:=u;cases m with
 |true =>
  obtain⟨q,l,b⟩:=zA ev;cases b;refine i7 n s ⟨q.1,q.2,l,fun o a y p r j d g r1=>?_⟩;obtain⟨i,c,e⟩:=HI d g r1;exact k o _ _ _ (j.trans i) c e
 |false =>
  obtain⟨q,l,b⟩:=zA ev;split at b
  ·rename_i w
   cases b;refine i7 n s ⟨q.1,q.2,l,fun o a y p r j d g r1=>?_⟩;obtain⟨x,i,c,e⟩:=IB d g w r1;exact k x a _ _ (j.trans i) c e
  ·cases b
theorem jq[Pf]{m:Bool}{f:NF}(h:QN X e f):QE X e (Dy m f):=PE_imp h fun _ _ _ q=>HC q
theorem ze[Pf]{i:Nat}{y:Ì}{n:ę}{elt a d:Í}{c:List Í}{N':List Ì}{scope:ĝ}{pos b:ę}{it:IF}{g:GF}{t:TF}{f:EF}{m:Bool}(I:X.N.Nodup)(l:X.N[i]?=À y)(u:Loc X.env.scope y)
  (j:Ĺ (.ListComp elt [⟨d,a,c,0⟩] scope pos) (À (.Name y n)) b.line X.env=pure Â)
  (G:X.calm=Â) (T:kJ X N' scope) (C:QI X d a it) (E:∀cl s H fp Pc,QG (cY X N' scope cl s H fp Pc) d g) (v:∀cl s H fp Pc,wF (cY X N' scope cl s H fp Pc) c t)
  (he:∀cl s H fp Pc,QE (cY X N' scope cl s H fp Pc) elt f) (B:qy X.N.length g) (z:∀x,ö a X.env x=pure x) (F:X.fn y=Â\/X.env.scope.names.lookup y=À .local) :
  QS X (.Assign [.Name y n] (.ListComp elt [⟨d,a,c,0⟩] scope pos) b) (zb (Dy m (C4 (N'.length-X.N.length) it g t f)) (Ax i)) :=
 Jg (zh (g:=rG X.gm g) (tt:=rT X.gm t) (te:=rE X.gm f) I l u j G T C (fun cl s H fp Pc=>E cl s H fp Pc) (fun cl s H fp Pc=>v cl s H fp Pc) (fun cl s H fp Pc=>he cl s H fp Pc) z F) fun D O H A h=>by
  obtain⟨P,N,R,Q,p,s,r,q,K,k⟩:=xW h;exact Ia B A (HC (m:=m) (i7 p s ⟨r,q,K,fun L e M w J o r1=>HG (k L e M w J o r1)⟩))
noncomputable def CV(i j:Nat)(f g:EF):SF:=fun a b=>(f a b).bind fun p=>(g a p.2).bind fun q=>À (.nx ((a.set i (À p.1)).set j (À q.1)) q.2)
theorem GE[Pf]{i j:Nat}{x y:Ì}{a b:Í}{f g:EF}{l k pt:ę}{m n c}(M:X.calm=Â)(Q:X.N.Nodup)(L:X.N[i]?=À x)(K:X.N[j]?=À y)(v:i≠j)
  (G:X.env.scope.names.lookup x=À .local) (F:X.env.scope.names.lookup y=À .local) (O:QE X a f) (N:QE X b g) (t:Ê [a,b] X.env=[(Ã,eval a X.env),(Ã,eval b X.env)]) (d:Ê [b] X.env=[(Ã,eval b X.env)])
  (I:õ [.Tuple [.Name x l,.Name y k] m pt] (.Tuple [a,b] n c) X.env=pure (À [x,y])) (J:ś [.Tuple [.Name x l,.Name y k] m pt] (.Tuple [a,b] n c) pos.line X.env=pure Ã) :
  QS X (.Assign [.Tuple [.Name x l,.Name y k] m pt] (.Tuple [a,b] n c) pos) (CV i j f g) :=
 PS_imp (G8 M Q L K v G F (dj O (dj N fy (by rw[d];rfl)) (by rw[t,d])) I J) fun D Z H u=>by
  refine e7 u fun P Y sl st z s E=>?_
  obtain⟨o,e,q⟩:=E;obtain⟨p,U,T⟩:=zA e;obtain⟨r,S,R⟩:=zA T;cases R;refine CZ z s ⟨p.1,p.2,r.1,r.2,U,S,fun V h W w B A C r1 r2=>⟨w,B,rfl,?_⟩⟩;exact q V h W _ A C (((z.frm A).set r1 i).set r2 j)
noncomputable def xU(o:Ğ)(_:aa):AV->AV->Option AV
 |.int a,.int b=>match o with
  |.Add=>À (.int (a+b))
  |.Sub=>À (.int (a-b))
  |_=>Á
 |_,_=>Á
theorem MZ[Pf](o:Ğ):DG X o (fun x y H Q=>∃P φ st a b c,Sim X.gm P φ st H/\RA X.gm P H φ a x/\RA X.gm P H φ b y/\xU o st a b=À c/\∀w,RA X.gm P H φ c w->Q w H):=by
 rintro l s d H x y v u Q I rx f ⟨P,φ,st,a,b,c,m,h,g,e,k⟩;cases a <;> cases b <;> simp only [xU] at e <;> first | (cases e;done) | skip
 rename_i i j;simp only [RA] at h g;subst h;subst g;cases o <;> first | (cases e;done) | skip
 ·cases e
  exact Io l s d H _ _ v u Q I rx f ⟨i,j,rfl,rfl,k _ (by simp only[RA])⟩
 ·cases e
  exact Im l s d H _ _ v u Q I rx f ⟨i,j,rfl,rfl,k _ (by simp only[RA])⟩
theorem KH[Pf]:CG X (fun x y H Q=>∃P φ st a b c,Sim X.gm P φ st H/\RA X.gm P H φ a x/\RA X.gm P H φ (.int b) y/\(∃xs,cw st a=À xs/\iu xs b=À c)/\∀w,RA X.gm P H φ c w->Q w H):=by
 rintro r s e H x y v u Q I rx h ⟨P,φ,st,a,b,c,g,i,d,⟨xs,o,n⟩,k⟩;obtain⟨p,f,rfl,q,l⟩:=i.ls g o;obtain⟨w,m,j⟩:=rD l n;simp only[RA]at d;exact Ck r s e H _ y v u Q I rx h ⟨p,f,b,w,rfl,d,q,m,k w j⟩
def xb(o:Ğ)(f g h:EF):SF:=fun a d=>(f a d).bind fun p=>(g a p.2).bind fun q=>match q.1 with
 |.int i=>(cw q.2 p.1).bind fun c=>(iu c i).bind fun x=>(h a q.2).bind fun r=>(xU o r.2 x r.1).bind fun z=>(je r.2 p.1 (.int i) z).bind fun b=>À (.nx a b)
 |_=>Á
theorem Eo[Pf]{a i:Í}{f g h:EF}{o:Ğ}{d:ę}(Y:X.A.units+64<Š)(Z:QE X a f)(hi:QE X i g)(he:QE X e h)
  (ha:∀ov iv new,augStore i ov iv new=(do holding [new,ov,iv] (Ϥ ov iv new);release [new,ov,iv] [];pure .next)):QS X (.AugAssign (.Subscript a i d) o e pos) (xb o f g h) :=
 PS_imp (EK Z hi KH he (MZ o) (CU Y) ha) fun D O H y=>by
  refine e7 y fun P φ I st m s W=>?_
  obtain⟨out,eo,q⟩:=W;obtain⟨p,e1,e2⟩:=zA eo;obtain⟨r,e3,A⟩:=zA e2;split at A
  ·rename_i j hj
   obtain⟨Q,e5,e6⟩:=zA A;obtain⟨x,e7,e8⟩:=zA e6;obtain⟨t,e9,G⟩:=zA e8;obtain⟨z,F,E⟩:=zA G;obtain⟨w,C,B⟩:=zA E;cases B;refine i7 m s ⟨p.1,p.2,e1,fun P1 v H1 w1 n S r1=>⟨P1,v,I,p.2,m.frm n,S,r.1,r.2,e3,fun N c H2 w2 l K r2=>?_⟩⟩;rw[hj]at r2;refine⟨N,c,r.2,p.1,j,x,K,r1.frm l,r2,⟨Q,e5,e7⟩,fun w3 V=>⟨N,c,I,r.2,(m.frm n).frm l,K,t.1,t.2,e9,fun M b H3 w4 k J U=>⟨M,b,t.2,x,t.1,z,J,V.frm k,U,F,fun w5 T=>⟨M,b,t.2,p.1,.int j,z,w,J,(r1.frm l).frm k,r2.frm k,T,C,fun P4 u H4 L R=>?_⟩⟩⟩⟩;exact q P4 u H4 O (((n.trans l).trans k).trans L) R ((((m.frm n).frm l).frm k).frm L)
  ·cases A
end
inductive Iw[Pf](mg:Gm)(P1:Pr)(φ1:List Ç)(H1:Hp)(E:Sl->aa->Prop)(σ:St)(H:Hp):Prop
 |mk (P φ sl st) (f:Frm P1 φ1 H1 P φ H) (s:Sim mg P φ st H) (r:Pn mg P H φ sl σ) (e:E sl st)
def eB(gd:Gd)(g:GF)(s:SF):List AV->Sl->aa->Option Out
 |[],sl,st=>if cT gd st=Â then À (.nx sl st) else Á
 |x::xs,sl,st=>if cT gd st=Â then(g x sl st).bind fun p=>(s p.1 p.2).bind fun o=>match o with
  |.nx sl st=>eB gd g s xs sl st
  |.ct sl st=>eB gd g s xs sl st
  |.bk sl st=>À (.nx sl st)
  |.rt v st=>À (.rt v st) else Á
def LL(it:IF)(g:GF)(s:SF):SF:=fun a b=>(it a b).bind fun p=>eB p.1.gd g s p.1.Ph a p.2
noncomputable def dU(t:TF)(s:SF):Nat->Sl->aa->Option Out
 |0,_,_=>Á
 |n+1,sl,st=>(t sl st).bind fun p=>if p.1=Â then(s sl p.2).bind fun o=>match o with
  |.nx sl st=>dU t s n sl st
  |.ct sl st=>dU t s n sl st
  |.bk sl st=>À (.nx sl st)
  |.rt v st=>À (.rt v st) else À (.nx sl p.2)
open Classical in
def oh(t:TF)(s:SF):SF:=fun b a=>if h:∃n,(dU t s n b a).isSome=Â then dU t s (Đ h) b a else Á
theorem rK:∀{n m:Nat}{sl:Sl}{st:aa}{o:Out},n<=m->dU t s n sl st=À o->dU t s m sl st=À o:=by
 intro n
 induction n with
 |zero=>intro m sl st o _ h;cases h
 |succ n d =>
  intro m sl st o g h;cases m with
  |zero=>lia
  |succ m =>
   simp only[dU]at h ⊢;obtain⟨p,f,c⟩:=zA h;rw[f,Ä];split at c
   ·rename_i b
    rw[yH b];obtain⟨q,e,a⟩:=zA c;rw[e,Ä];cases q with
    |nx sl st=>exact d oM a
    |ct sl st=>exact d oM a
    |bk sl st=>exact a
    |rt v st=>exact a
   ·rename_i b
    rw[yG b];exact c
theorem kP{t:TF}{s:SF}{n:Nat}{sl:Sl}{st:aa}{o:Out}(h:dU t s n sl st=À o):oh t s sl st=À o:=by
 have a:∃n,(dU t s n sl st).isSome=Â:=⟨n,by rw[h];rfl⟩;unfold oh;rw[dif_pos a];obtain⟨e,b⟩:=ĳ.mp (ě a);have d:=rK (Nat.le_max_left n (Đ a)) h;have c:=rK (Nat.le_max_right n (Đ a)) b;rw[b,<- d,c]
theorem t0{t:TF}{s:SF}{sl:Sl}{st:aa}{o:Out}(h:oh t s sl st=À o):∃n,dU t s n sl st=À o:=by
 unfold oh at h;split at h
 ·exact⟨_,h⟩
 ·cases h
section
variable{X:Cx}{tg iter c:Í}{body:List ĺ}{pos:ę}{it:IF}{g:GF}{s:SF}{t:TF}
theorem GG[Pf](hp:Ϧ (model X.prog X.w) X.A X.env X.xe)(hc:X.calm=Â)(hi:QI X tg iter it)(hg:QG X tg g)(hb:oP X body s)(hs:∀x,ö iter X.env x=pure x):QS X (.For tg iter body [] pos) (LL it g s) :=
 PS_imp (zj hp hc hi hg hb hs) fun D σ H R=>by
  refine e7 R fun P φ A E W sm q0=>?_
  obtain⟨o,e,q⟩:=q0;obtain⟨p,e1,e2⟩:=zA e;refine i7 W sm ⟨p.1,p.2,e1,fun V h H1 J f1 s1 Z=>?_⟩;have Q:=q.frm f1;refine⟨fun i m f u=>m=p.1.Ph.length-i/\i<=p.1.Ph.length/\Iw X.gm V h H1 (fun A E=>eB p.1.gd g s (p.1.Ph.drop i) A E=À o) f u,⟨_,rfl,ŀ _,V,h,A,p.2,Frm.refl,s1,W.frm f1,by simpa using e2⟩,?_⟩;intro i m f u hh;refine g_ fun G bk=>?_
  obtain⟨em,S,U,d,M,y,K,N,B,c⟩:=hh;rcases yT i p.1.Ph.length with l|T
  ·rw[ù l]at c
   simp only[eB]at c;split at c
   ·rename_i n
    obtain⟨go,yl⟩:=Z.go U d u y i _ K N n (zF l);obtain⟨F,e4,e5⟩:=zA c;obtain⟨Y,e6,e7⟩:=zA e5;refine bk (.inr ⟨go,Iw X.gm V h H1 fun A E=>eB p.1.gd g s (p.1.Ph.drop (i+1)) A E=À o,fun f u z=>⟨_,by lia,rfl,l,z⟩,fun x H3 hy=>g_ fun G bk=>?_⟩);obtain⟨P3,f3,s3,r3⟩:=yl x H3 hy;refine bk ⟨P3,d,M,y,_,B.frm f3,s3,r3,F.1,F.2,e4,fun P4 L H4 σ4 f4 s4 O=>⟨P4,L,F.1,F.2,O,s4,Y,e6,?_⟩⟩;have I:=(K.trans f3).trans f4;cases Y with
    |nx sl5 st5=>exact fun t a C j r k b=>⟨t,a,sl5,st5,I.trans r,k,b,e7⟩
    |ct sl5 st5=>exact fun t a C j r k b=>⟨t,a,sl5,st5,I.trans r,k,b,e7⟩
    |bk sl5 st5=>cases e7;exact fun t a C j r k b=>Q t a C j (I.trans r) k b
    |rt v st5=>cases e7;exact fun t a C w r k r5=>Q t a C w (I.trans r) k r5
   ·cases c
  ·have ei:i=p.1.Ph.length:=g! S T
   subst ei;rw[ϲ]at c;simp only[eB]at c;split at c
   ·rename_i n
    cases c;exact bk (.inl ⟨Z.stop U d u _ K N n,Q U d u f K N B⟩)
   ·cases c
theorem BB[Pf](O:Ϧ (model X.prog X.w) X.A X.env X.xe)(R:QT X c t)(S:oP X body s):QS X (.While c body [] pos) (oh t s) :=
 PS_imp (BI O R S) fun D Z H C=>by
  refine e7 C fun P B r n J I M=>?_
  obtain⟨o,e,q⟩:=M;obtain⟨N,V⟩:=t0 e;refine⟨fun m=>Iw X.gm P B H fun r n=>dU t s m r n=À o,⟨N,P,B,r,n,Frm.refl,I,J,V⟩,?_⟩;intro m l Y Q;cases Q with|mk P2 φ2 sl2 st2 f2 s2 rs2 eg =>
  cases m with
  |zero=>cases eg
  |succ m =>
   simp only[dU]at eg;obtain⟨p,U,j⟩:=zA eg;refine⟨P2,φ2,sl2,st2,rs2,s2,p.1,p.2,U,fun G k W b A E L=>?_⟩;cases L;cases u:p.1 with
   |true =>
    rw[u]at j;simp only[if_true]at j ⊢;obtain⟨F,T,e7⟩:=zA j;refine⟨Iw X.gm P B H fun r n=>dU t s m r n=À o,fun l Y z=>⟨m,Ĳ m,z⟩,G,k,sl2,p.2,rs2.frm A,E,F,T,?_⟩;have y:=f2.trans A;cases F with
    |nx sl5 st5=>exact fun i a x f h g d=>⟨i,a,sl5,st5,y.trans h,g,d,e7⟩
    |ct sl5 st5=>exact fun i a x f h g d=>⟨i,a,sl5,st5,y.trans h,g,d,e7⟩
    |bk sl5 st5=>cases e7;exact fun i a x f h g d=>q i a x f (y.trans h) g d
    |rt v st5=>cases e7;exact fun i a x w h g K=>q i a x w (y.trans h) g K
   |false =>
    rw[u]at j;simp only[yA,if_false]at j ⊢;cases j;exact q G k W l (f2.trans A) E (rs2.frm A)
end
abbrev Fn:=List AV->aa->Option (AV×aa)
def eG[Pf](mg:Gm)(n:Nat)(fn:Fn):Sp:=fun c H Q _=>c.length=n/\∃P b a d,Pi mg P H b a c/\Sim mg P b d H/\KG mg RA P b H (fn a d) Q
def bC:Nat->aa->AV->Option AV
 |n+1,st,.ref k=>match st[k]? with
  |some (.lst xs)=>(aT (bC n st) xs).map .fz
  |some (.al t)=>À t
  |_=>Á
 |n+1,st,.tup xs=>(aT (bC n st) xs).map .tup
 |0,_,.ref _=>Á
 |0,_,.tup _=>Á
 |_,_,t=>À t
def dN:aa->AV->Option AV:=bC 6
mutual
noncomputable def flat:AV->Bool
 |.ref _=>Ã
 |.fz _=>Ã
 |.tup xs=>qf xs
 |_=>Â
noncomputable def qf:List AV->Bool
 |[]=>Â
 |x::xs=>flat x&&qf xs
end
def sC(st:aa)(x:AV):Option (AV×aa):=if rf x=Â then À (x,st) else match x with
 |.ref k=>match st[k]? with
  |some (.lst a)=>if rfs a=Â then À (.fz a,st.set k (.al (.fz a))) else Á
  |some (.al t)=>À (t,st)
  |_=>Á
 |_=>Á
def qc:aa->List AV->Option (List AV×aa)
 |st,[]=>À ([],st)
 |st,x::xs=>(sC st x).bind fun p=>(qc p.2 xs).map fun q=>(p.1::q.1,q.2)
def pm(fn:Fn):Fn:=fun a b=>if rfs a=Â then(fn a []).bind fun p=>(dN p.2 p.1).map fun t=>(t,b)
 else(aT (dN b) a).bind fun c=>(fn c []).bind fun p=>(dN p.2 p.1).bind fun t=>if flat t=Â then À (t,b) else
  (qc b a).bind fun q=>(fn q.1 []).bind fun p=>(dN p.2 p.1).map fun t=>(t,q.2)
section
variable{mg:Gm}{P:Pr}{φ:List Ç}{st:aa}{H:Hp}
theorem Bw[Pf]{n:Nat}(b:∀v w t,bC n st v=À t->RA mg P H φ v w->RA mg P' H [] t w):∀{xs:List AV}{vs:List V}{ts:List AV},aT (bC n st) xs=À ts->Pi mg P H φ xs vs->Pi mg P' H [] ts vs:=by
 intro xs
 induction xs with
 |nil=>intro vs ts e r;cases e;simp only[Pi]at r ⊢;exact r
 |cons x xs a =>
  intro vs ts e r;simp only[aT]at e;obtain⟨y,g,f⟩:=zA e;obtain⟨h,d,c⟩:=zE.mp f;subst c;simp only[Pi]at r;obtain⟨v,i,rfl,r1,r2⟩:=r;exact bo (b x v y g r1) (a d r2)
theorem tP[Pf](s:Sim mg P φ st H):∀(n:Nat)(v:AV)(w:V)(t:AV),bC n st v=À t->RA mg P H φ v w->RA mg (fun a=>P a\/a∈φ) H [] t w:=by
 have ex:∀a,P a->(P a\/a∈φ)/\H a=H a:=fun a h=>⟨.inl h,rfl⟩
 have o:∀{t:AV}{w:V},R.rf t=Â->RA mg P H φ t w->RA mg (fun a=>P a\/a∈φ) H [] t w:=fun h r=>(RA.rf (ψ:=[]) h r).mono ex fun _ _ z=>z
 intro n
 induction n with
 |zero =>
  intro v w t e r;cases v <;> simp only [bC] at e <;> first | (cases e;done) | skip
  all_goals cases e;exact o rfl r
 |succ n q =>
  intro v w t e r;cases v with
  |ref k =>
   simp only[bC]at e;simp only[RA]at r;obtain⟨a,j,rfl⟩:=r;split at e
   ·rename_i u f
    obtain⟨x,m,l⟩:=zE.mp e;subst l;obtain⟨y,b,c⟩:=s.at f;rw[j]at b;cases b;obtain⟨_,d,i,g⟩:=c;simp only[RA];exact⟨a,d,rfl,.inl ⟨.inr (zW j),.inl i⟩,Bw q m g⟩
   ·rename_i A f
    cases e;obtain⟨y,b,c⟩:=s.at f;rw[j]at b;cases b;exact c.2.mono ex fun _ _ z=>z
   ·cases e
  |tup u =>
   simp only[bC]at e;obtain⟨x,m,l⟩:=zE.mp e;subst l;simp only[RA]at r;obtain⟨a,d,rfl,p,i,g⟩:=r;simp only[RA];exact⟨a,d,rfl,.inl p,i,Bw q m g⟩
  |_=>simp only[bC]at e;cases e;exact o rfl r
mutual
theorem RA.fl[Pf](h:∀a vs,P a->H a=À (.tup vs)->P' a):∀{t:AV}{w:V},flat t=Â->RA mg P H φ t w->RA mg P' H ψ t w
 |.non,_,_,r=>by simp only[RA]at r ⊢;exact r
 |.bl _,_,_,r=>by simp only[RA]at r ⊢;exact r
 |.int _,_,_,r=>by simp only[RA]at r ⊢;exact r
 |.str _,_,_,r=>by simp only[RA]at r ⊢;exact r
 |.ref _,_,e,_=>by simp only[flat]at e;cases e
 |.fz _,_,e,_=>by simp only[flat]at e;cases e
 |.tup xs,_,e,r=>by
  simp only[RA,flat]at r e ⊢;obtain⟨a,vs,rfl,p,h1,h2⟩:=r;exact⟨a,vs,rfl,h a vs p h1,h1,Pi.fl h e h2⟩
theorem Pi.fl[Pf](h:∀a vs,P a->H a=À (.tup vs)->P' a):∀{ts:List AV}{ws:List V},qf ts=Â->Pi mg P H φ ts ws->Pi mg P' H ψ ts ws
 |[],_,_,r=>by simp only[Pi]at r ⊢;exact r
 |t::ts,_,e,r=>by
  simp only[Pi,qf,zC]at r e ⊢;obtain⟨v,ws,rfl,r1,r2⟩:=r;exact⟨v,ws,rfl,RA.fl h e.1 r1,Pi.fl h e.2 r2⟩
end
theorem IC[Pf](s:Sim mg P φ st H)(e:sC st x=À (t,st'))(r:RA mg P H φ x v):∃P',Frm P φ H P' φ H/\Sim mg P' φ st' H/\RA mg P' H [] t v:=by
 unfold sC at e;split at e
 ·rename_i h
  cases e;exact⟨P,Frm.refl,s,RA.rf h r⟩
 ·cases x with
  |ref k =>
   simp only[RA]at r;obtain⟨a,f,rfl⟩:=r;dsimp only at e;split at e
   ·rename_i y o
    split at e
    ·rename_i B
     cases e;obtain⟨D,d,c⟩:=s.at o;rw[f]at d;cases d;obtain⟨F,A,w,u⟩:=c;have ex:∀b,P b->(P b\/b=a)/\H b=H b:=fun b h=>⟨.inl h,rfl⟩
     have m:=zW f;have q:RA mg (fun b=>P b\/b=a) H [] (.fz y) (.ref a):=by
      simp only[RA];exact⟨a,A,rfl,.inl ⟨.inr rfl,.inl w⟩,(Pi.rf B u).mono ex fun _ _ z=>z⟩
     have C:∀b,(P b\/b=a)->H b≠Á:=fun b h=>by
      rcases h with h|h
      ·exact s.dom b h
      ·rw[h];exact s.cd a m
     refine⟨fun b=>P b\/b=a,⟨ex,⟨[],by simp,by simp⟩,fun _ _ _ _=>rfl,fun b h=>?_,fun _ h=>h,fun _ _ _ h=>h⟩,⟨by rw[Ĉ];exact s.len,s.nd,C,s.cd,fun j c b i g=>?_,fun t l=>⟨(s.tb t l).1,fun z=>z.elim (s.tb t l).2 fun z=>s.tnc l (by rw[z];exact m)⟩⟩,q⟩
     ·rcases h with h|h
      ·exact .inl h
      ·exact .inr (.inr (by rw[h];exact m))
     ·by_cases p:j=k
      ·subst p
       rw[f]at g;cases g;rw[ñ (by rw[<- s.len];exact(zB.mp f).1)]at i;cases i;exact⟨.inr rfl,q⟩
      ·rw[ï (ç p)]at i
       refine(s.cell j c b i g).mono ex (fun _ _ z=>z) rfl fun n z=>?_
       rcases z with z|z
       ·exact n z
       ·refine p ?_
        subst z;obtain⟨w,i⟩:=zB.mp g;obtain⟨u,g⟩:=zB.mp f;exact(Ÿ s.nd).mp (i.trans g.symm)
    ·cases e
   ·rename_i E o
    cases e;obtain⟨D,d,c⟩:=s.at o;rw[f]at d;cases d;exact⟨P,Frm.refl,s,c.2⟩
   ·cases e
  |_=>cases e
theorem IA[Pf]:∀{xs ts:List AV}{st st':aa}{P:Pr}{vs:List V},Sim mg P φ st H->qc st xs=À (ts,st')->Pi mg P H φ xs vs->∃P',Frm P φ H P' φ H/\Sim mg P' φ st' H/\Pi mg P' H [] ts vs:=by
 intro xs
 induction xs with
 |nil=>intro ts st st' P vs s e r;cases e;simp only[Pi]at r;subst r;exact⟨P,Frm.refl,s,bO⟩
 |cons x xs h =>
  intro ts st st' P vs s e r;simp only[qc]at e;obtain⟨p,l,k⟩:=zA e;obtain⟨q,j,i⟩:=zE.mp k;cases i;simp only[Pi]at r;obtain⟨v,n,rfl,r1,r2⟩:=r;obtain⟨o,b,d,g⟩:=IC s l r1;obtain⟨m,a,c,f⟩:=h d j (r2.frm b);exact⟨m,b.trans a,c,bo (g.mono a.ext fun _ _ z=>z) f⟩
theorem LO[Pf]{fn:Fn}{args:List AV}{vs:List V}{Q:VK}(s:Sim mg P φ st H)(r:Pi mg P H [] args vs)(h:KG mg RA P φ H ((fn args []).bind fun p=>(dN p.2 p.1).map fun t=>(t,st)) Q):∃P φ args st,Pi mg P H φ args vs/\Sim mg P φ st H/\KG mg RA P φ H (fn args st) Q:=by
 obtain⟨t,l,e,k⟩:=h;obtain⟨p,y,x⟩:=zA e;obtain⟨A,v,u⟩:=zE.mp x;cases u;refine⟨P,[],args,[],r,Sim.nil s.dom s.tb,p.1,p.2,y,fun i d j w b c r1=>?_⟩;obtain⟨m,em,nm⟩:=b.new;have g:∀a,H a≠Á->(∀o,H a≠À (.tbl o))->j a=H a:=fun a h=>b.keep a h (by simp)
 have q:=s.ckeep (fun a h=>(b.ext a h).2) g;have nn:∀a,(i a\/a∈d)->P a\/H a=Á:=fun a h=>by
  rcases h with h|h
  ·rcases b.pn a h with z|z|z
   ·exact .inl z
   ·exact .inr z
   ·cases z
  ·rw[em]at h;exact .inr (nm a h)
 refine k (fun a=>i a\/a∈d) φ j w ⟨fun a h=>⟨.inl (b.ext a h).1,(b.ext a h).2⟩,⟨[],by simp,by simp⟩,fun a h _ z=>g a h z,fun a h=>?_,b.sm,b.fz⟩ (s.stay (fun a h=>⟨.inl (b.ext a h).1,(b.ext a h).2⟩) q (fun a h n z=>?_) (fun a h=>?_) fun t f=>⟨(c.tb t f).1,fun z=>z.elim (c.tb t f).2 (c.tnc f)⟩) (RA.lift (tP c 6 _ _ _ v r1))
 ·rcases nn a h with z|z
  ·exact .inl z
  ·exact .inr (.inl z)
 ·rcases nn a z with z|z
  ·exact n z
  ·exact s.cd a h z
 ·rcases h with h|h
  ·exact c.dom a h
  ·exact c.cd a h
theorem J1[Pf]{n:Nat}(h:eG mg n (pm fn) vs H Q E):eG mg n fn vs H Q E:=by
 obtain⟨S,P,o,J,M,r,s,k⟩:=h;refine⟨S,?_⟩;unfold pm at k;split at k
 ·rename_i R
  exact LO s (Pi.rf R r) k
 ·obtain⟨t,y,e,k⟩:=k
  obtain⟨L,e1,e2⟩:=zA e;obtain⟨p,e3,e4⟩:=zA e2;obtain⟨t',Z,A⟩:=zA e4;split at A
  ·rename_i T
   cases A;have dm:∀a,(P a\/a∈o)->H a≠Á:=fun a h=>by
    rcases h with h|h
    ·exact s.dom a h
    ·exact s.cd a h
   refine⟨fun a=>P a\/a∈o,[],L,[],Bw (fun v w t e r=>tP s 6 v w t e r) e1 r,Sim.nil dm (fun t g=>⟨(s.tb t g).1,fun z=>z.elim (s.tb t g).2 (s.tnc g)⟩),p.1,p.2,e3,fun B l C w d f r1=>?_⟩;obtain⟨m,em,nm⟩:=d.new;have D:∀a,H a≠Á->(∀O,H a≠À (.tbl O))->C a=H a:=fun a h=>d.keep a h (by simp)
   have F:=s.ckeep (fun a h=>(d.ext a (.inl h)).2) D;have u:∀a,P a->((B a\/a∈l)/\(a∈o->P a))/\C a=H a:=fun a h=>⟨⟨.inl (d.ext a (.inl h)).1,fun _=>h⟩,(d.ext a (.inl h)).2⟩
   refine k (fun a=>(B a\/a∈l)/\(a∈o->P a)) o C w ⟨u,⟨[],by simp,by simp⟩,fun a h _ z=>D a h z,fun a h=>?_,d.sm,d.fz⟩ (s.stay u F (fun a h n z=>n (z.2 h)) (fun a h=>?_) fun t g=>⟨(f.tb t g).1,fun z=>z.1.elim (f.tb t g).2 (f.tnc g)⟩) (RA.fl (fun a K W V=>⟨W,fun G=>?_⟩) T (tP f 6 _ _ _ Z r1))
   ·rcases h.1 with z|z
    ·rcases d.pn a z with z|z|z
     ·rcases z with z|z
      ·exact .inl z
      ·exact .inr (.inr z)
     ·exact .inr (.inl z)
     ·cases z
    ·rw[em]at z;exact .inr (.inl (nm a z))
   ·rcases h.1 with h|h
    ·exact f.dom a h
    ·exact f.cd a h
   ·obtain⟨j,I⟩:=z8 G
    obtain⟨c,U⟩:∃c,M[j]?=À c:=⟨_,zF (by rw[<- s.len];exact(zB.mp I).1)⟩;have i:=s.cell j c a U I;have b:H a=À (.tup K):=by rw[<- F a G];exact V
    cases c with
    |lst xs=>obtain⟨_,_,z,_⟩:=i;rw[b]at z;cases z
    |al t=>exact i.1
    |dK Pd=>obtain⟨_,_,z,_⟩:=i;rw[b]at z;cases z
    |dT Pd=>obtain⟨_,_,z,_⟩:=i;rw[b]at z;cases z
    |ins c fs=>obtain⟨_,_,_,_,_,z,_⟩:=i;rw[b]at z;cases z
    |wk Pd=>obtain⟨_,_,_,z,_⟩:=i;rw[b]at z;cases z
  ·obtain⟨q,e7,Y⟩:=zA A
   obtain⟨B,d,f,r1⟩:=IA s e7 r;exact LO f r1 ⟨t,y,Y,fun P2 x H2 w X N r2=>k P2 x H2 w (d.trans X) N r2⟩
end
theorem FnOk.pm[Pf]{P:Ò}{w:à}{K:á}{mg:Ì->Option Å}{a:é}{k:Nat}{f:Ç}{fd:Ĕ}{ps:List Ì}{n:Nat}{fn:Fn}(F:FnOk P w K mg a fQ k f fd ps (eG ⟨K,mg⟩ n fn)):FnOk P w K mg a fQ k f fd ps (eG ⟨K,mg⟩ n (R.pm fn)) :=
 F.imp fun _ _ _ _ h=>J1 h
noncomputable def run(n:Nat)(b:SF):Fn:=fun a c=>(b (a.map À++È (n-a.length) Á) c).bind fun o=>match o with
 |.rt v c=>À (v,c)
 |.nx _ c=>À (.non,c)
 |_=>Á
theorem Eb[Pf](h:Pi mg P H φ args vs):Pn mg P H φ (args.map À++È (N.length-args.length) Á) (L2.start N vs):=by
 have b:=h.length;unfold L2.start;refine⟨by simp[b],fun i v e=>?_⟩;have c:i<args.length:=by
  rcases yT i args.length with z|z
  ·exact z
  ·rw[z6 (by simpa using z),ü]at e
   split at e<;>cases e
 rw[zN (by simpa using c),zR]at e;rw[zN (by rw[zH,<- b];exact c),zR];cases a:args[i]? with
 |none=>rw[a]at e;cases e
 |some x =>
  rw[a]at e;cases e;obtain⟨w,d,r1⟩:=h.get a;exact⟨w,by rw[d];rfl,r1⟩
noncomputable def DB(fn:Fn)(g:AF):EF:=fun b a=>(g b a).bind fun p=>fn p.1 p.2
section
variable{X:Cx}{x:Ì}{p pos:ę}{e o:Í}{es:List Í}{k:Nat}{f:Ç}{fd:Ĕ}{ps:List Ì}{fn:Fn}{g:AF}{h:EF}
theorem Nd[Pf]{n:Nat}(m:∀sl st xs st',g sl st=À (xs,st')->xs.length=n)(q:rE mg (DB fn g) σ H Q):wY (eG mg n fn) [] E (rA mg g) σ H Q:=by
 refine e7 q fun P u sl st j s k=>?_
 refine i7 j s ?_;obtain⟨a,st',f,q⟩:=k.bind (Ra:=Pi);refine⟨a,st',f,fun r d t b o i r1=>?_⟩;obtain⟨p,c,e,xs,v,h,r2,l⟩:=q r d t b o i r1;rw[í];exact⟨by rw[<- r1.length];exact m _ _ _ _ f,p,c,xs,e,r2,h,l⟩
theorem ED[Pf](F:FnOk X.prog X.w X.K X.mg X.base fQ k f fd ps (eG X.gm ps.length fn))(b:Room k X.A)(i:Gl X x)(d:X.mg x=À (.ref f))(h:Ķ X.K (.ref f)=Â)(j:Binds X.K fd ps [])
  (l:QA X (e::es) g) (c:∀sl st xs st',g sl st=À (xs,st')->xs.length=ps.length) (a:(x==("__debug__":Ì))=Ã) (he:Ê (e::es) X.env=(Ã,eval e X.env)::Ê es X.env) (hpl:(ú pos (Ê es X.env)).any (·.1)=Ã) :
  QE X (.Call (.Name x p) (e::es) [] pos) (DB fn g):=PE_imp (E1 (E:=E0) F b i d h j .nil pJ l a he hpl) fun _ _ _ q=>Nd c q
theorem BE[Pf](F:FnOk X.prog X.w X.K X.mg X.base fQ k f fd ps (eG X.gm ps.length fn))(e:Room k X.A)(j:Gl X x)(h:X.mg x=À (.ref f))(i:Ķ X.K (.ref f)=Â)(l:Binds X.K fd ps [])
  (g:ps.length=0) (a:(x==("__debug__":Ì))=Ã):QE X (.Call (.Name x p) [] [] pos) (DB fn fZ):=PE_imp (BU (E:=E0) F e j h i l .nil pJ a) fun m H Q q=>by
 refine e7 q fun P b n c o s d=>?_
 exact⟨by simp[g],P,b,[],c,bO,s,d⟩
noncomputable def kC(st:aa)(c:Ì):AV->Option (List (Ì×AV))
 |.ref k=>match st[k]? with
  |some (.ins c' fs)=>if c'=c then À fs else Á
  |_=>Á
 |_=>Á
theorem pU(h:KVR mg P H φ fs ws)(f:Ì):(fs.lookup f=Á->ws.lookup f=Á)/\∀v,fs.lookup f=À v->∃w,ws.lookup f=À w/\RA mg P H φ v w:=by
 induction fs generalizing ws with
 |nil =>
  have:ws=[]:=by simpa using h.1.symm
  subst this;exact⟨fun _=>rfl,fun v e=>by cases e⟩
 |cons p fs k =>
  cases ws with
  |nil=>exact absurd h.1 (by simp)
  |cons q ws =>
   obtain⟨j,g⟩:=h;rw[zO,zO]at j g;injection j with h3 h4;simp only[Pi]at g;obtain⟨v,n,m,i,l⟩:=g;injection m with h8 h9;subst h8;subst h9;obtain⟨a,b⟩:=p;obtain⟨c,d⟩:=q;dsimp only at h3 i;subst h3;rw[yN,yN];cases o:f==a with
   |true=>exact⟨fun z=>(by cases z),fun v z=>(by cases z;exact⟨d,rfl,i⟩)⟩
   |false=>exact k ⟨h4,l⟩
theorem o8[Pf]{mg:Gm}{P:Pr}{φ:List Ç}{st:aa}{H:Hp}{c:Ì}{v:AV}{w:V}{fs:List (Ì×AV)}(s:Sim mg P φ st H)(h:kC st c v=À fs)(r:RA mg P H φ v w) :
  ∃k a C dx ws,v=.ref k/\φ[k]?=À a/\¬P a/\w=.ref a/\mg.mg c=À (.ref C)/\H a=À (.ins C dx ws)/\KVR mg P H φ fs ws:=by
 cases v with
 |ref k =>
  simp only[kC]at h;split at h
  ·rename_i o m f
   split at h
   ·rename_i g
    cases h;subst g;simp only[RA]at r;obtain⟨a,d,rfl⟩:=r;obtain⟨p,b,n⟩:=s.at f;rw[d]at b;cases b;obtain⟨e,C,dx,ws,l,j,i⟩:=n;exact⟨k,a,C,dx,ws,rfl,d,e,rfl,l,j,i⟩
   ·cases h
  ·cases h
 |_=>cases h
def DA(c m:Ì)(fn:Fn)(h:EF)(g:AF):EF:=fun a b=>(h a b).bind fun p=>(kC p.2 c p.1).bind fun fs=>if(fs.lookup m).isNone=Â then(g a p.2).bind fun q=>fn (p.1::q.1) q.2 else Á
theorem HQ[Pf]{n:Nat}(K:mg.mg c=À (.ref C))(I:∀sl st xs st',g sl st=À (xs,st')->xs.length+1=n)(q:rE mg (DA c m fn h g) σ H Q):wX C m (eG mg n fn) [] E (rE mg h) (rA mg g) σ H Q:=by
 refine e7 q fun P φ sl st o s G=>?_
 obtain⟨v,st',e,k⟩:=G;obtain⟨p,T,S⟩:=zA e;obtain⟨fs,R,i⟩:=zA S;split at i
 ·rename_i J
  obtain⟨q,x,O⟩:=zA i;refine i7 o s ⟨p.1,p.2,T,fun Y f H1 w u l r1=>?_⟩;obtain⟨j,a,C',U,y,h1,h2,h3,rfl,r,M,L⟩:=o8 l R r1;rw[K]at r;cases r;refine⟨a,U,y,rfl,M,(pU L m).1 (by simpa using J),Y,f,sl,p.2,o.frm u,l,q.1,q.2,x,fun X d H2 A t D r2=>?_⟩;show eG mg n fn (V.ref a::(A++[])) H2 Q E;rw[í];exact⟨by rw[yX,<- r2.length];exact I _ _ _ _ x,X,d,p.1::q.1,q.2,bo (r1.frm t) r2,D,v,st',O,fun W b Z z N B F=>k W b Z z ((u.trans t).trans N) B F⟩
 ·cases i
theorem EB[Pf](i:QE X o h)(cl:Cls X.K C)(r:X.mg c=À (.ref C))(l:lR X.K C m f)(F:FnOk X.prog X.w X.K X.mg X.base fQ k f fd ps (eG X.gm ps.length fn))(d:Room k X.A)(n:Binds X.K fd ps [])
  (p:QA X (e::es) g) (j:∀sl st xs st',g sl st=À (xs,st')->xs.length+1=ps.length) (a:Ê (e::es) X.env=(Ã,eval e X.env)::Ê es X.env) (hpl:(ú pos (Ê es X.env)).any (·.1)=Ã)
  (b:eval (.Call (.Attribute o m apos) (e::es) [] pos) X.env=(do
   let ov <- eval o X.env
   Ŝ apos.atName
   let(f,first) <- holding [ov] (Ū ov m pl)
   ų pos f first (ú pos (Ê (e::es) X.env)) (Ő pos (ē [] X.env)))):QE X (.Call (.Attribute o m apos) (e::es) [] pos) (DA c m fn h g) :=
 PE_imp (EW (E:=E0) i cl l F d n .nil pJ p a hpl b) fun _ _ _ q=>HQ r j q
theorem BD[Pf](J:QE X o h)(cl:Cls X.K C)(N:X.mg c=À (.ref C))(L:lR X.K C m f)(F:FnOk X.prog X.w X.K X.mg X.base fQ k f fd ps (eG X.gm ps.length fn))(I:Room k X.A)(M:Binds X.K fd ps [])
  (K:ps.length=1)
  (G:eval (.Call (.Attribute o m apos) [] [] pos) X.env=(do
   let ov <- eval o X.env
   Ŝ apos.atName
   let(f,first) <- holding [ov] (Ū ov m pl)
   ų pos f first (ú pos (Ê [] X.env)) (Ő pos (ē [] X.env)))):QE X (.Call (.Attribute o m apos) [] [] pos) (DA c m fn h fZ) :=
 PE_imp (BQ (E:=E0) J cl L F I M .nil pJ G) fun σ H Q q=>by
  obtain⟨P,φ,x,t,B,s,v,b,e,k⟩:=HQ (E:=E0) (C:=C) N (g:=fZ) (n:=1) (fun x t l b e=>by cases e;rfl) q;refine i7 B s ⟨v,b,e,fun Z i j w U z r1=>?_⟩;obtain⟨a,W,fs,T,S,R,O⟩:=k Z i j w U z r1;refine⟨a,W,fs,T,S,R,?_⟩;obtain⟨Y,d,u,r,A,y,l,p,V,D⟩:=O;cases V
  have:=D Y d j [] Frm.refl y bO
  rw[K];exact this
noncomputable def AT(c:Ì)(fn:Fn)(g:AF):EF:=fun b a=>(g b a).bind fun p=>(fn (.ref p.2.length::p.1) (p.2++[.ins c []])).bind fun q=>match q.1 with
 |.non=>À (.ref p.2.length,q.2)
 |_=>Á
theorem E6[Pf]{mg:Gm}{P:Pr}{φ:List Ç}{st:aa}{H:Hp}{c:Ì}{C x b:Ç}(s:Sim mg P φ st H)(m:mg.mg c=À (.ref C))(l:H x=Á)(hd:H b=Á)(ne:b≠x) :
  Frm P φ H P (φ++[x]) (ah (ah H b (.own x)) x (.ins C b []))/\Sim mg P (φ++[x]) (st++[.ins c []]) (ah (ah H b (.own x)) x (.ins C b [])):=by
 have f:∀a,H a≠Á->a≠b:=fun a h e=>h (by rw[e];exact hd)
 have g:Frm P φ H P φ (ah H b (.own x)):=⟨fun a h=>⟨h,ae (f a (s.dom a h))⟩,⟨[],by simp,by simp⟩,fun a h _ _=>ae (f a h),fun a h=>.inl h,fun a h=>by rw[ae (f a h)];exact h,fun a o u h=>by rw[ae (bu h hd)];exact h⟩;have i:Sim mg P φ st (ah H b (.own x)):=s.stay g.ext (fun a h=>ae (f a (s.cd a h))) (fun _ _ h=>h) (fun a h=>g.sm a (s.dom a h)) fun t j=>⟨(s.tb t j).1.new hd,(s.tb t j).2⟩
 have d:ah H b (.own x) x=Á:=by rw[ae (ç ne)];exact l
 obtain⟨n,k⟩:=oY (c:=.ins c []) (o:=.ins C b []) i d ⟨fun z=>i.dom x z d,C,b,[],m,aD,rfl,bO⟩;exact⟨g.trans n,k⟩
theorem MQ[Pf]{mg:Gm}{c:Ì}{C:Ç}{n:Nat}{E:XK}{σ:St}{H:Hp}{Q:VK}(D:mg.mg c=À (.ref C))(B:∀sl st xs st',g sl st=À (xs,st')->xs.length+1=n)(q:rE mg (AT c fn g) σ H Q):CS C (eG mg n fn) [] E (rA mg g) σ H Q:=by
 refine e7 q fun P M sl st y s z=>?_
 obtain⟨v,st',e,k⟩:=z;obtain⟨p,m,I⟩:=zA e;obtain⟨q,G,b⟩:=zA I;refine i7 y s ⟨p.1,p.2,m,fun r a L N F h r1=>fun x o A hd ne=>?_⟩;obtain⟨l,u⟩:=E6 h D A hd ne;have rx:RA mg r (ah (ah L o (.own x)) x (.ins C o [])) (a++[x]) (.ref p.2.length) (.ref x):=by simp only[RA];exact⟨x,by rw[<- h.len];simp,rfl⟩
 rw[í];refine⟨by rw[yX,<- r1.length];exact B _ _ _ _ m,r,a++[x],_,_,bo rx (r1.frm l),u,q.1,q.2,G,fun J d K w j t f=>?_⟩;cases i:q.1 with
 |non =>
  rw[i]at b f;cases b;simp only[RA]at f;exact⟨f,k J d K (.ref x) ((F.trans l).trans j) t (rx.frm j)⟩
 |_=>rw[i]at b;cases b
theorem GU[Pf](M:Mk X.K C f)(F:FnOk X.prog X.w X.K X.mg X.base fQ k f fd ps (eG X.gm ps.length fn))(d:Room (k+1) X.A)(i:Gl X c)(b:X.mg c=À (.ref C))(j:Binds X.K fd ps [])
  (l:QA X (e::es) g) (h:∀sl st xs st',g sl st=À (xs,st')->xs.length+1=ps.length) (a:(c==("__debug__":Ì))=Ã) (he:Ê (e::es) X.env=(Ã,eval e X.env)::Ê es X.env) (hpl:(ú pos (Ê es X.env)).any (·.1)=Ã) :
  QE X (.Call (.Name c p) (e::es) [] pos) (AT c fn g):=PE_imp (EX (E:=E0) M F d i b j .nil pJ l a he hpl) fun _ _ _ q=>MQ b h q
def Mb(c fl:Ì)(h:EF):EF:=fun b a=>(h b a).bind fun p=>(kC p.2 c p.1).bind fun fs=>(fs.lookup fl).map fun v=>(v,p.2)
theorem GW[Pf](y:QE X o h)(cl:Cls X.K C)(A:X.mg c=À (.ref C))(u:NoAttr X.K C fl)(z:Ę o fl X.env (eval o X.env)=eval o X.env):QE X (.Attribute o fl apos) (Mb c fl h) :=
 PE_imp (Hq y z) fun S H Q f=>by
  refine e7 f fun P R U T q s r=>?_
  obtain⟨v,n,e,k⟩:=r;obtain⟨p,L,K⟩:=zA e;obtain⟨fs,J,I⟩:=zA K;obtain⟨t,G,F⟩:=zE.mp I;cases F;refine i7 q s ⟨p.1,p.2,L,fun N b O w E g r1=>?_⟩;obtain⟨j,a,l,M,m,Y,W,V,rfl,i,D,B⟩:=o8 g J r1;have:l=C:=by rw[show X.gm.mg c=X.mg c from rfl,A]at i;cases i;rfl
  subst this;obtain⟨w,x,d⟩:=(pU B fl).2 _ G;exact⟨a,l,M,m,w,rfl,D,cl,u,x,k N b O w E g d⟩
noncomputable def jS(f:Ì)(v:AV):List (Ì×AV)->List (Ì×AV)
 |[]=>[(f,v)]
 |(g,x)::r=>if g=f then(g,v)::r else(g,x)::jS f v r
theorem zg{mg:Gm}{P:Pr}{H:Hp}{φ:List Ç}{f:Ì}{v:AV}{w:V}(r:RA mg P H φ v w):∀{fs:List (Ì×AV)}{ws:List (Ì×V)},KVR mg P H φ fs ws->KVR mg P H φ (jS f v fs) (eV f w ws):=by
 intro fs
 induction fs with
 |nil =>
  intro ws h;have:ws=[]:=by simpa using h.1.symm
  subst this;exact⟨rfl,bo r bO⟩
 |cons p fs m =>
  intro ws h;cases ws with
  |nil=>exact absurd h.1 (by simp)
  |cons q ws =>
   obtain⟨l,g⟩:=h;rw[zO,zO]at l g;injection l with h3 h4;simp only[Pi]at g;obtain⟨u,o,n,k,j⟩:=g;injection n with h8 h9;subst h8;subst h9;obtain⟨a,b⟩:=p;obtain⟨c,d⟩:=q;dsimp only at h3 k;subst h3;have i:=m (ws:=ws) ⟨h4,j⟩;unfold jS eV;by_cases e:a=f
   ·rw[yH e,yH e]
    exact⟨by rw[zO,zO,h4],bo r j⟩
   ·rw[yG e,yG e]
    exact⟨by rw[zO,zO,i.1],bo k i.2⟩
def za(c fl:Ì)(h f:EF):SF:=fun a b=>(f a b).bind fun p=>(h a p.2).bind fun q=>match q.1 with
 |.ref k=>(kC q.2 c (.ref k)).bind fun fs=>if å fs.length 900=Â then À (.nx a (q.2.set k (.ins c (jS fl p.1 fs)))) else Á
 |_=>Á
theorem GH[Pf](S:QE X o h)(Q:QE X e f')(cl:Cls X.K C)(y:X.mg c=À (.ref C))(N:NoAttr X.K C fl)(R:Ĺ e (À (.Attribute o fl pos')) pos.line X.env=pure Ã):QS X (.Assign [.Attribute o fl pos'] e pos) (za c fl h f') :=
 PS_imp (G9 S Q R) fun D G H l=>by
  refine e7 l fun P φ J st k s M=>?_
  obtain⟨out,Y,q⟩:=M;obtain⟨p,e1,e2⟩:=zA Y;obtain⟨r,e3,v⟩:=zA e2;split at v
  ·rename_i j U
   obtain⟨fs,Z,u⟩:=zA v;split at u
   ·rename_i T
    cases u;refine i7 k s ⟨p.1,p.2,e1,fun P1 g H1 I t L r1=>⟨P1,g,J,p.2,k.frm t,L,r.1,r.2,e3,fun P2 f H2 w2 n x r2=>?_⟩⟩;rw[U]at r2;obtain⟨j',a,d,w,i,W,V,m,rfl,E,B,A⟩:=o8 x Z r2;cases W;have:d=C:=by rw[show X.gm.mg c=X.mg c from rfl,y]at E;cases E;rfl
    subst this;have O:i.length<1000:=by
     have z:=congrArg œ A.1;rw[zH,zH]at z
     have:=zS T
     lia
    obtain⟨F,K⟩:=jw (c:=.ins c (jS fl p.1 fs)) (o:=.ins d w (eV fl I i)) x V m ⟨m,d,w,_,y,aD,(zg (r1.frm n) A).mono (fun b h=>⟨h,ae fun e=>m (e▸h)⟩) fun _ _ z=>z⟩ (fun _ _ z=>by rw[B]at z;cases z);exact⟨a,d,w,i,rfl,B,cl,N,O,q P2 f _ G ((t.trans n).trans F) K (((k.frm t).frm n).frm F)⟩
   ·cases u
  ·cases v
end
open DD (obj_list obj_tup minL minL_eq cnt_vals)
abbrev BF:=List AV->aa->Option (AV×aa)
def rB[Pf](mg:Gm)(k:BF):List V->Hp->VK->Prop:=fun d H Q=>∃P a c b,Sim mg P a c H/\Pi mg P H a b d/\KG mg RA P a H (k b c) Q
noncomputable def vv(k:BF)(g:AF):EF:=fun b a=>(g b a).bind fun p=>k p.1 p.2
theorem CA[Pf](q:rE mg (vv k g) σ H Q):Gf (rB mg k) (rA mg g) σ H Q:=by
 refine e7 q fun P v x w l s m=>?_
 refine i7 l s ?_;obtain⟨a,f,p,q⟩:=m.bind (Ra:=Pi);refine⟨a,f,p,fun t d u b o j r1=>?_⟩;obtain⟨r,c,e,h,y,i,r2,n⟩:=q t d u b o j r1;exact⟨r,c,e,h,i,r2,n⟩
noncomputable def aZ(h:aa->List AV->Option AV):BF:=fun b a=>(h a b).map fun z=>(z,a)
section
variable{X:Cx}{x:Ì}{p pos:ę}{e o a:Í}{es:List Í}{g:AF}{k:BF}{bid T:String}
theorem pH[Pf](h:di X (.builtin bid) (rB X.gm k))(f:Gl X x)(d:X.mg x=Á)(b:Õ x=À (.builtin bid))(i:QA X (e::es) g)(c:x≠"__name__")(a:(x==("__debug__":Ì))=Ã)
  (he:Ê (e::es) X.env=(Ã,eval e X.env)::Ê es X.env) (hpl:(ú pos (Ê es X.env)).any (·.1)=Ã):QE X (.Call (.Name x p) (e::es) [] pos) (vv k g) :=
 PE_imp (tX h f d b i c a he hpl) fun _ _ _ q=>CA q
theorem JP[Pf](h:di X (.type T) (rB X.gm k))(f:Gl X x)(d:X.mg x=Á)(b:Õ x=À (.type T))(i:QA X (e::es) g)(c:x≠"__name__")(a:(x==("__debug__":Ì))=Ã)
  (he:Ê (e::es) X.env=(Ã,eval e X.env)::Ê es X.env) (hpl:(ú pos (Ê es X.env)).any (·.1)=Ã):QE X (.Call (.Name x p) (e::es) [] pos) (vv k g) :=
 PE_imp (rX h f d b i c a he hpl) fun _ _ _ q=>CA q
theorem Pi.one{mg:Gm}{P:Pr}{H:Hp}{φ:List Ç}{x:AV}{vs:List V}(h:Pi mg P H φ [x] vs):∃v,vs=[v]/\RA mg P H φ x v:=by
 simp only[Pi]at h;obtain⟨v,a,rfl,r,rfl⟩:=h;exact⟨v,rfl,r⟩
theorem Pi.two{mg:Gm}{P:Pr}{H:Hp}{φ:List Ç}{x y:AV}{vs:List V}(h:Pi mg P H φ [x,y] vs):∃v w,vs=[v,w]/\RA mg P H φ x v/\RA mg P H φ y w:=by
 simp only[Pi]at h;obtain⟨v,b,rfl,r,w,c,rfl,a,rfl⟩:=h;exact⟨v,w,rfl,r,a⟩
theorem qD(h:di X f r)(i:∀xs H Q,r' xs H Q->r xs H Q):di X f r':=fun e s a H xs b Q I c d=>h e s a H xs b Q I c (i xs H Q d)
def cO(st:aa):List AV->Option AV
 |[v]=>match cw st v with
  |some xs=>À (.int xs.length)
  |none=>match jQ st v with
   |some xs=>À (.int xs.length)
   |none=>match v with
    |.str x=>if cU x.length=Â then À (.int x.length) else Á
    |v=>match j7 st v with
     |some Pd=>À (.int Pd.length)
     |none=>(oE st v).map fun Pd=>.int Pd.length
 |_=>Á
theorem xR:di X (.builtin "len") (fun xs H Q=>∃a Pd,xs=[V.ref a]/\H a=À (.dK Pd)/\Q (.int Pd.length) H):=by
 intro k s i H xs j Q I r h;obtain⟨a,Pd,rfl,f,q⟩:=h;obtain⟨u,rfl,d⟩:=fK r;cases d;obtain⟨z,hd,c,b,g⟩:=Do I.Pk f;have e:Pd.length=c.length:=Paired.length b;have hz:Ë=16777216:=ϝ;exact call_len_dict hd g oM ⟨.int _,H,I.tok _,⟨_,by rw[e]⟩,q⟩
theorem Lg[Pf]:di X (.builtin "len") (rB X.gm (aZ cO)):=by
 rintro l s d H m f Q I g ⟨P,J,E,K,o,r,B⟩;obtain⟨z,e,k⟩:=B.map;clear B;unfold cO at e;split at e
 ·rename_i v
  obtain⟨w,F,A⟩:=r.one;clear r;subst F;have r:=A;clear A;have ay:∀n:Nat,z=.int n->Q (.int n) H:=fun n h=>by subst h;exact k.pure o (by simp only[RA])
  split at e
  ·rename_i D u
   cases e;obtain⟨a,m,rfl,y,b⟩:=r.ls o u;exact mT l s d H _ f Q I g ⟨a,m,rfl,.inl y,by rw[<- b.length];exact ay _ rfl⟩
  ·split at e
   ·rename_i D u
    cases e;obtain⟨a,m,rfl,y,b⟩:=r.tp o u;exact mT l s d H _ f Q I g ⟨a,m,rfl,.inr (.inl (.inl y)),by rw[<- b.length];exact ay _ rfl⟩
   ·cases v with
    |str x =>
     dsimp only at e;split at e
     ·rename_i hz
      cases e;simp only[RA]at r;subst r;exact vk l s d H _ f Q I g ⟨x,rfl,kO hz,ay _ rfl⟩
     ·cases e
    |ref j =>
     simp only[RA]at r;obtain⟨a,G,rfl⟩:=r;dsimp only[j7,oE]at e;cases t:E[j]? with
     |none=>rw[t]at e;cases e
     |some c =>
      rw[t]at e;obtain⟨L,i,C⟩:=o.at t;rw[G]at i;cases i;cases c with
      |dK Pd =>
       cases e;obtain⟨_,p,b,q⟩:=C
       have:=congrArg œ q.1
       rw[zH,zH]at this;exact xR l s d H _ f Q I g ⟨a,p,rfl,b,by rw[<- this];exact ay _ rfl⟩
      |dT Pd =>
       cases e;obtain⟨_,p,b,q⟩:=C
       have:=congrArg œ q.1
       rw[zH,zH]at this;exact AO l s d H _ f Q I g ⟨a,p,rfl,b,by rw[<- this];exact ay _ rfl⟩
      |_=>cases e
    |_=>cases e
 ·cases e
def nJ:List AV->Option (List Int):=aT fun x=>match x with
 |.int i=>À i
 |_=>Á
theorem As(h:nJ xs=À ns):xs=ns.map .int:=by
 unfold nJ at h
 induction xs generalizing ns with
 |nil=>cases h;rfl
 |cons x xs b =>
  simp only [aT] at h;obtain ⟨y,a,e⟩:=zA h;obtain ⟨f,d,c⟩:=zE.mp e;subst c;cases x <;> first | (cases a;done) | skip
  cases a;rw[b d];rfl
def lsI(st:aa)(v:AV):Option (List Int):=(cw st v).bind nJ
theorem RA.lsI[Pf]{mg:Gm}{P:Pr}{H:Hp}{φ:List Ç}{st:aa}{v:AV}{w:V}{ns:List Int}(s:Sim mg P φ st H)(r:RA mg P H φ v w)(h:R.lsI st v=À ns):∃a,w=.ref a/\cb mg.K H a (ns.map .int):=by
 obtain⟨f,e,d⟩:=zA h;obtain⟨a,g,rfl,b,c⟩:=r.ls s e
 have:=As d
 subst this;rw[c.ints]at b;exact⟨a,rfl,b⟩
def ms(st:aa):List AV->Option AV
 |[v]=>(lsI st v).map fun ns=>.int ns.sum
 |_=>Á
theorem Lc[Pf](t:X.calm=Â):di X (.builtin "sum") (rB X.gm (aZ ms)):=by
 rintro K s C H D E Q I m ⟨P,B,G,xs,f,r,h⟩;obtain⟨z,e,k⟩:=h.map;clear h;unfold ms at e;split at e
 ·rename_i v
  obtain⟨w,x,g⟩:=r.one;clear r;subst x;have r:=g;clear g;obtain⟨c,y,rfl⟩:=zE.mp e;obtain⟨a,rfl,A⟩:=r.lsI f y;obtain⟨u,rfl,n⟩:=fK m;cases n;obtain⟨d,o,p,_⟩:=I.list A;have j:ϒ d c:=lI o;obtain⟨b,i⟩:=j.allInts.items;refine sum_intListG (xs:=b) (I.ok.hd t) (by rw[<- i];exact p.isList) fun J F l q=>⟨.int c.sum,H,I.kept q,?_,k.pure f (by simp only[RA])⟩
  have:(preSum (y? b) b.size)=c.sum:=by
   rw[preSum_eq,Ń (by simp),<- L?,<- i];rw[show d.toArray.toList=d from rfl,j.numsOf]
  rw[this];exact⟨l,rfl⟩
 ·cases e
noncomputable def pi(_:aa):List AV->Option AV
 |[.int i]=>À (.int (if i<0 then -i else i))
 |_=>Á
theorem Li[Pf]:di X (.builtin "abs") (rB X.gm (aZ pi)):=qD Cy fun i H Q a=>by
 obtain⟨P,g,j,h,c,r,d⟩:=a;obtain⟨z,e,k⟩:=d.map;unfold pi at e;split at e
 ·cases e
  obtain⟨w,f,b⟩:=r.one;clear r;subst f;have r:=b;clear b;simp only[RA]at r;exact⟨_,by rw[r],k.pure c (by simp only[RA])⟩
 ·cases e
def uh(st:aa):List AV->Option AV
 |[.int i,.int j]=>À (.int (if j<i then j else i))
 |[v]=>(lsI st v).bind fun ns=>(minL ns).map .int
 |_=>Á
noncomputable def HU:List Int->Option Int
 |[]=>Á
 |x::xs=>À (xs.foldl (fun a b=>if a<b then b else a) x)
theorem MR:∀(xs:List Int)(x:Int),(xs.foldl (fun a b=>if a<b then b else a) x∈x::xs)/\∀a∈x::xs,a<=xs.foldl (fun a b=>if a<b then b else a) x:=by
 intro xs
 induction xs with
 |nil=>intro x;exact⟨by simp,by simp⟩
 |cons y xs f =>
  intro x;rw[Ġ];obtain⟨g,e⟩:=f (if x<y then y else x);refine⟨?_,fun a c=>?_⟩
  ·rcases zT.mp g with h|h
   ·rw[h];split<;>simp
   ·exact zQ _ (zQ _ h)
  ·have d:=e _ z7
   rcases zT.mp c with rfl|c
   ·refine ň ?_ d;split<;>lia
   ·rcases zT.mp c with rfl|c
    ·refine ň ?_ d;split<;>lia
    ·exact e a (zQ _ c)
theorem Fb{m x:Int}(h:HU ns=À m)(d:x∈ns)(c:∀a∈ns,a<=x):x=m:=by
 cases ns with
 |nil=>cases h
 |cons y ns =>
  obtain⟨a,b⟩:=MR ns y;have e:ns.foldl (fun a b=>if a<b then b else a) y=m:=by injection h
  rw[e]at a b
  have:=c m a
  have:=b x d
  lia
def qR(st:aa):List AV->Option AV
 |[.int i,.int j]=>À (.int (if j > i then j else i))
 |[v]=>(lsI st v).bind fun ns=>(HU ns).map .int
 |_=>Á
theorem Ld[Pf](C:X.calm=Â):di X (.builtin "min") (rB X.gm (aZ uh)):=by
 rintro U s E H Y F Q I p ⟨P,V,st,xs,h,r,x⟩;obtain⟨z,e,k⟩:=x.map;clear x;unfold uh at e;split at e
 ·rename_i i j
  cases e;obtain⟨w,W,o,q,d⟩:=r.two;clear r;subst o;have r:=q;have g:=d;clear q d;simp only[RA]at r g;subst r;subst g;exact AM C U s E H _ F Q I p ⟨i,j,rfl,k.pure h (by simp only[RA])⟩
 ·rename_i v
  obtain⟨w,o,d⟩:=r.one;clear r;subst o;have r:=d;clear d;obtain⟨f,R,O⟩:=zA e;obtain⟨m,A,rfl⟩:=zE.mp O;obtain⟨a,rfl,S⟩:=r.lsI h R;obtain⟨u,rfl,G⟩:=fK p;cases G;obtain⟨T,g,J,_⟩:=I.list S;have B:ϒ T f:=lI g;obtain⟨c,y⟩:=B.allInts.items;have b:f=c.toList.map (·.1):=by rw[<- B.numsOf,<- L?,<- y]
  have l:0<c.size:=by
   cases f with
   |nil=>cases A
   |cons n f =>
    have:(n::f).length=c.size:=by rw[b,zH,ò]
    simp at this;lia
  refine min_intList (xs:=c) (I.ok.hd C) (by rw[<- y];exact J.isList) l fun v h' Z K L=>?_
  obtain⟨t,rfl⟩:=intItems_at K;obtain⟨h1,N⟩:=argBest_lt (y? c) (c.size-1);refine⟨.int m,H,I.kept L,?_,k.pure h (by simp only[RA])⟩;have e:y? c (argBest (fun i j=>decide (y? c i<y? c j)) (c.size-1))=m:=by
   refine minL_eq A ?_ fun a D=>?_
   ·rw[b,T4];exact getD_mem (by rw[zH,ò];lia)
   ·rw[b]at D
    obtain⟨j,M,rfl⟩:=mem_getD D;rw[zH,ò]at M;rw[<- T4];exact N j oM
  exact⟨t,by rw[e]⟩
 ·cases e
theorem Lf[Pf](C:X.calm=Â):di X (.builtin "max") (rB X.gm (aZ qR)):=by
 rintro U s E H Y F Q I p ⟨P,V,st,xs,h,r,x⟩;obtain⟨z,e,k⟩:=x.map;clear x;unfold qR at e;split at e
 ·rename_i i j
  cases e;obtain⟨w,W,o,q,d⟩:=r.two;clear r;subst o;have r:=q;have g:=d;clear q d;simp only[RA]at r g;subst r;subst g;exact AN C U s E H _ F Q I p ⟨i,j,rfl,k.pure h (by simp only[RA])⟩
 ·rename_i v
  obtain⟨w,o,d⟩:=r.one;clear r;subst o;have r:=d;clear d;obtain⟨f,R,O⟩:=zA e;obtain⟨m,A,rfl⟩:=zE.mp O;obtain⟨a,rfl,S⟩:=r.lsI h R;obtain⟨u,rfl,G⟩:=fK p;cases G;obtain⟨T,g,J,_⟩:=I.list S;have B:ϒ T f:=lI g;obtain⟨c,y⟩:=B.allInts.items;have b:f=c.toList.map (·.1):=by rw[<- B.numsOf,<- L?,<- y]
  have l:0<c.size:=by
   cases f with
   |nil=>cases A
   |cons n f =>
    have:(n::f).length=c.size:=by rw[b,zH,ò]
    simp at this;lia
  refine max_intList (xs:=c) (I.ok.hd C) (by rw[<- y];exact J.isList) l fun v h' Z K L=>?_
  obtain⟨t,rfl⟩:=intItems_at K;obtain⟨h1,N⟩:=argBest_gt (y? c) (c.size-1);refine⟨.int m,H,I.kept L,?_,k.pure h (by simp only[RA])⟩;have e:y? c (argBest (fun i j=>decide (y? c i > y? c j)) (c.size-1))=m:=by
   refine Fb A ?_ fun a D=>?_
   ·rw[b,T4];exact getD_mem (by rw[zH,ò];lia)
   ·rw[b]at D
    obtain⟨j,M,rfl⟩:=mem_getD D;rw[zH,ò]at M;rw[<- T4];exact N j oM
  exact⟨t,by rw[e]⟩
 ·cases e
noncomputable def mG(_:aa):List AV->Option AV
 |[.int i]=>À (.int i)
 |[.bl b]=>À (.int (if b then 1 else 0))
 |_=>Á
theorem Lh[Pf]:di X (.type "int") (rB X.gm (aZ mG)):=qD AQ fun i H Q b=>by
 obtain⟨P,g,j,h,d,r,f⟩:=b;obtain⟨z,e,k⟩:=f.map;unfold mG at e;split at e
 ·cases e
  obtain⟨w,c,a⟩:=r.one;clear r;subst c;have r:=a;clear a;simp only[RA]at r;exact .inl ⟨_,by rw[r],k.pure d (by simp only[RA])⟩
 ·cases e
  obtain⟨w,c,a⟩:=r.one;clear r;subst c;have r:=a;clear a;simp only[RA]at r;exact .inr ⟨_,by rw[r],k.pure d (by simp only[RA])⟩
 ·cases e
def tD(st:aa)(v:AV):Option String:=match dr st v with
 |.non=>À "NoneType"
 |.bl _=>À "bool"
 |.int _=>À "int"
 |.str _=>À "str"
 |.tup _=>À "tuple"
 |.fz _=>À "list"
 |.ref k=>match st[k]? with
  |some (.lst _)=>À "list"
  |_=>Á
def L9(T:String)(f:EF):EF:=fun d c=>(f d c).bind fun p=>(tD p.2 p.1).bind fun a=>(DD.isiT a T).map fun b=>(.bl b,p.2)
theorem Ku[Pf]{Pc:List (Ç×Obj)}{σ:St}{H:Hp}{s:É}{P:Pr}{φ:List Ç}{st:aa}{x:AV}{v:V}{u c:Å}{t:String}{b:Bool}{Q:Å->É->Prop}{E:Å->É->Prop}(I:L2.Inv X Pc σ H s)(q:Sim X.gm P φ st H)(r:RA X.gm P H φ x v)(i:RelV v u)(f:tD st x=À t)
  (e:kitOne X.K (.type t) c=À b) (h:∀tk,Q (.bool b) { s with toks:=tk }):Î (model X.prog X.w) X.A (call (.builtin "isinstance") [u,c]) Q E s:=by
 have lst:∀{a:Ç}{j:List V},v=.ref a->cb X.K H a j->t="list"->Î (model X.prog X.w) X.A (call (.builtin "isinstance") [u,c]) Q E s:=fun ev sq B=>by
  subst ev;subst B;cases i;obtain⟨G,o,n,_,p,m,D⟩:=obj_list I sq;exact ō Y! I.kIn ⟨_,p,m⟩ e (fun z=>nomatch z) h
 have d:=r.dr q;unfold tD at f;cases g:dr st x with
 |non=>rw[g]at f d;cases f;simp only[RA]at d;subst d;exact jV I i .non e h
 |bl _=>rw[g]at f d;cases f;simp only[RA]at d;subst d;exact jV I i (.bl _) e h
 |int _=>rw[g]at f d;cases f;simp only[RA]at d;subst d;exact jV I i (.int _) e h
 |str _=>rw[g]at f d;cases f;simp only[RA]at d;subst d;exact jV I i (.str _) e h
 |fz _ =>
  rw[g]at f d;cases f;simp only[RA]at d;obtain⟨a,j,ev,fl,_⟩:=d;exact lst ev fl.sq rfl
 |tup _ =>
  rw [g] at f d;cases f;simp only [RA] at d;obtain ⟨a,j,rfl,_,A,_⟩:=d;cases i;obtain ⟨G,o,n,_,p,m,D⟩:=obj_tup I (show iA X.K H a j from .inl (.inl A));exact ō kitx_tuple I.kIn ⟨_,p,m⟩ e (fun z=>nomatch z) h
 |ref k =>
  rw[g]at f d;dsimp only at f;split at f
  ·rename_i J y
   cases f;simp only[RA]at d;obtain⟨a,C,ev⟩:=d;obtain⟨K,l,F⟩:=q.at y;rw[C]at l;cases l;obtain⟨_,j,w,_⟩:=F;exact lst ev (.inl (.inl w)) rfl
  ·cases f
theorem GV[Pf](V:Gl X "isinstance")(U:X.mg "isinstance"=Á)(o:Gl X y)(n:X.mg y=Á)(k:Õ y=À (.type T))(Y:QE X e f)(m:y≠"__name__")(u:(y==("__debug__":Ì))=Ã)
  (he:Ê [e,.Name y p2] X.env=(Ã,eval e X.env)::Ê [.Name y p2] X.env) (S:Õ "isinstance"=À (.builtin "isinstance")):QE X (.Call (.Name "isinstance" p) [e,.Name y p2] [] pos) (L9 T f):=by
 have W:di X (.builtin "isinstance") (fun A H Q=>∃P d g x v a b,Sim X.gm P d g H/\A=[v,.ty T]/\RA X.gm P H d x v/\tD g x=À a/\DD.isiT a T=À b/\Q (.bl b) H):=by
  rintro Pc s E H A us Q I L ⟨P,d,g,x,v,a,b,J,ev,r,h1,Z,q⟩;subst ev;obtain⟨u1,u2,rfl,r1,r2⟩:=wK L;cases r2;exact Ku I J r r1 h1 (DD.isiT_kit Z) fun F=>⟨.bl b,H,I.tok F,rfl,q⟩
 refine PE_imp (tX W V U S (nB Y (nB (E2 (v:=.ty T) o n k rfl m u) tY rfl) he) dC dC he (by rfl)) fun E H Q l=>e7 l fun P d sl g M s O=>i7 M s ?_
 obtain⟨a,j,e1,q⟩:=O.bind (Ra:=RA);refine⟨a,j,e1,fun P1 h D w f1 K r1=>?_⟩;obtain⟨C,c,i,x,f2,B,r2,R⟩:=q P1 h D w f1 K r1;obtain⟨z,G,e3,N⟩:=R;obtain⟨t,e4,e5⟩:=zA e3;obtain⟨b,e6,e7⟩:=zE.mp e5;cases e7;exact⟨C,c,i,x,w,t,b,B,rfl,r2,e4,e6,N C c D _ Frm.refl B (by simp only[RA])⟩
end
open DD (reads_each)
abbrev MF:=AV->List AV->aa->Option (AV×aa)
def rM[Pf](mg:Gm)(k:MF):V->List V->Hp->VK->Prop:=fun x e H Q=>∃P b d a c,Sim mg P b d H/\RA mg P H b a x/\Pi mg P H b c e/\KG mg RA P b H (k a c d) Q
def rL(T:String)(st:aa)(v:AV):Bool:=match v with
 |.str _=>T=="str"
 |.int _=>T=="int"
 |v=>if T="list" then(cw st v).isSome else if T="dict" then(j7 st v).isSome||(oE st v).isSome else Ã
def mX(T:String)(k:MF)(f:EF)(g:AF):EF:=fun a b=>(f a b).bind fun p=>if rL T p.2 p.1=Â then(g a p.2).bind fun q=>k p.1 q.1 q.2 else Á
section
variable{X:Cx}{e o:Í}{es:List Í}{f:EF}{g:AF}{k:MF}{name:Ì}{apos cpos:ę}{T mid:String}
theorem DS[Pf]{P:Pr}{φ:List Ç}{st:aa}{H:Hp}{v:AV}{w:V}(s:Sim X.gm P φ st H)(r:RA X.gm P H φ v w)(h:rL T st v=Â):yh X.K T w H:=by
 have k:(if T="list" then(cw st v).isSome else if T="dict" then(j7 st v).isSome||(oE st v).isSome else Ã)=Â->yh X.K T w H:=fun h=>by
  split at h
  ·rename_i d
   obtain⟨p,e⟩:=ĳ.mp h;obtain⟨a,m,rfl,o,_⟩:=r.ls s e;exact .inl ⟨d,m,o⟩
  ·split at h
   ·rename_i d
    cases v with
    |ref j =>
     simp only[RA]at r;obtain⟨a,n,rfl⟩:=r;simp only[j7,oE]at h;cases i:st[j]? with
     |none=>rw[i]at h;simp at h
     |some c =>
      rw[i]at h;obtain⟨q,b,l⟩:=s.at i;rw[n]at b;cases b;cases c with
      |dK Pd=>obtain⟨_,f,g,_⟩:=l;exact .inr (.inr (.inl ⟨d,.inl ⟨f,g⟩⟩))
      |dT Pd=>obtain⟨_,f,g,_⟩:=l;exact .inr (.inr (.inl ⟨d,.inr ⟨f,g⟩⟩))
      |_=>simp at h
    |_=>simp[j7,oE]at h
   ·cases h
 unfold rL at h;cases v with
 |str x=>simp only[RA]at r;subst r;exact yJ h
 |int x=>simp only[RA]at r;subst r;exact yJ h
 |_=>exact k h
theorem HJ[Pf](q:rE X.gm (mX T k f g) σ H Q):LD X.K T (rM X.gm k) (rE X.gm f) (rA X.gm g) σ H Q:=by
 refine e7 q fun P J n L i s x=>?_
 obtain⟨v,d,ev,y⟩:=x;obtain⟨p,D,e⟩:=zA ev;split at e
 ·rename_i z
  obtain⟨r,C,B⟩:=zA e;exact i7 i s ⟨p.1,p.2,D,fun G c N w l h r1=>⟨DS h r1 z,G,c,n,p.2,i.frm l,h,r.1,r.2,C,fun F b M K j t r2=>⟨F,b,r.2,p.1,r.1,t,r1.frm j,r2,v,d,B,fun E a I m A o u=>y E a I m ((l.trans j).trans A) o u⟩⟩⟩
 ·cases e
theorem sY[Pf](j:C! T)(d:Slot T name mid)(i:typeOf (.builtin mid)=pure (.type "method_descriptor"))(n:oQ X mid (rM X.gm k))(m:QE X o f)(p:QA X (e::es) g)
  (c:Ę o name X.env (eval o X.env)=eval o X.env)
  (h:((ú cpos (Ê (e::es) X.env)).all (fun x=>!x.1)&&(Ő cpos (ē [] X.env)).all (fun x=>x.1.isSome)
   && decide ((e::es).length+([]:List ő).length+(if([]:List ő).isEmpty then 0 else 1)<30))=Â)
  (b:(apos.endLine==cpos.line)=Â) (l:Ê (e::es) X.env=(Ã,eval e X.env)::Ê es X.env) (a:(ú cpos (Ê es X.env)).any (·.1)=Ã) :
  QE X (.Call (.Attribute o name apos) (e::es) [] cpos) (mX T k f g):=PE_imp (J9 j d i n m p c h b l a) fun _ _ _ q=>HJ q
theorem pG[Pf](u:C! T)(c:Slot T name mid)(h:typeOf (.builtin mid)=pure (.type "method_descriptor"))(A:oQ X mid (rM X.gm k))(z:QE X o f)
  (b:Ę o name X.env (eval o X.env)=eval o X.env) (a:(apos.endLine==cpos.line)=Â):QE X (.Call (.Attribute o name apos) [] [] cpos) (mX T k f fZ) :=
 PE_imp (Hr u c h A z b a) fun I H Q q=>by
  obtain⟨P,G,L,K,t,s,v,g,ev,x⟩:=HJ q;refine i7 t s ⟨v,g,ev,fun F e i w C p r1=>?_⟩;obtain⟨B,E,d,m,l,r,n,J,j,D,y⟩:=x F e i w C p r1;cases D;exact⟨B,y E d i [] Frm.refl n bO⟩
theorem pj(h:oQ X mid r)(i:∀x xs H Q,r' x xs H Q->r x xs H Q):oQ X mid r':=fun e s a H x xs v b Q I rx c d=>h e s a H x xs v b Q I rx c (i x xs H Q d)
noncomputable def iQ(st:aa):AV->Option (Nat×List AV)
 |.ref k=>match st[k]? with
  |some (.lst xs)=>À (k,xs)
  |_=>Á
 |_=>Á
theorem mS[Pf]{mg:Gm}{P:Pr}{φ:List Ç}{st:aa}{H:Hp}{v:AV}{w:V}{j:Nat}{xs:List AV}(s:Sim mg P φ st H)(r:RA mg P H φ v w)(h:iQ st v=À (j,xs)):∃a vs,w=.ref a/\φ[j]?=À a/\¬P a/\H a=À (.lst vs)/\Pi mg P H φ xs vs:=by
 cases v with
 |ref i =>
  simp only[iQ]at h;split at h
  ·rename_i k e
   cases h;simp only[RA]at r;obtain⟨a,c,rfl⟩:=r;obtain⟨l,b,d,vs,g,f⟩:=s.at e;rw[c]at b;cases b;exact⟨a,vs,rfl,c,d,g,f⟩
  ·cases h
 |_=>cases h
theorem qE[Pf]{mg:Gm}{P:Pr}{φ:List Ç}{st:aa}{H:Hp}{j:Nat}{a:Ç}{ys:List AV}{us:List V}(s:Sim mg P φ st H)(k:φ[j]?=À a)(d:¬P a)(g:∃vs,H a=À (.lst vs))(r:Pi mg P H φ ys us) :
  Frm P φ H P φ (ah H a (.lst us))/\Sim mg P φ (st.set j (.lst ys)) (ah H a (.lst us))/\∀{t:AV}{w:V},RA mg P H φ t w->RA mg P (ah H a (.lst us)) φ t w:=by
 have ex:∀b,P b->P b/\ah H a (.lst us) b=H b:=fun b h=>⟨h,ae fun e=>d (e▸h)⟩
 obtain⟨i,f⟩:=jw (c:=.lst ys) (o:=.lst us) s k d ⟨d,us,aD,r.mono ex fun _ _ z=>z⟩ (fun _ _ z=>by obtain⟨vs,q⟩:=g;rw[q]at z;cases z);exact⟨i,f,fun h=>h.mono ex fun _ _ z=>z⟩
def qS:MF:=fun x b a=>match b with
 |[y]=>(iQ a x).bind fun c=>if cU c.2.length=Â then À (.non,a.set c.1 (.lst (c.2++[y]))) else Á
 |_=>Á
theorem JA{n:Nat}(h:cU n=Â):n<Ë:=yL (zS h) dC
theorem Db[Pf]:oQ X "list.append" (rM X.gm qS):=pj rY fun x z H Q d=>by
 obtain⟨P,i,A,a,u,s,r,m,v,k,e,o⟩:=d;unfold qS at e;split at e
 ·rename_i y
  obtain⟨c,t,f⟩:=zA e;split at f
  ·rename_i hz
   cases f;obtain⟨b,j,rfl,q,n,h,g⟩:=mS s r t;obtain⟨w,rfl,r1⟩:=m.one;obtain⟨p,l,_⟩:=qE s q n ⟨_,h⟩ (g.app (bo r1 bO));exact⟨b,j,w,rfl,rfl,h,by rw[<- g.length];exact JA hz,o P i _ _ p l (by simp only[RA])⟩
  ·cases f
 ·cases e
def xu:MF:=fun x b a=>match b with
 |[]=>(iQ a x).bind fun c=>(c.2[c.2.length-1]?).map fun y=>(y,a.set c.1 (.lst c.2.dropLast))
 |_=>Á
theorem Pi.dropLast(h:Pi mg P H φ xs vs):Pi mg P H φ xs.dropLast vs.dropLast:=by
 rw[G!,G!,h.length];exact h.take _
theorem C8[Pf]:oQ X "list.pop" (rM X.gm xu):=pj HK fun x E H Q d=>by
 obtain⟨P,i,F,a,D,s,r,g,v,k,e,p⟩:=d;unfold xu at e;split at e
 ·obtain⟨c,C,B⟩:=zA e
  obtain⟨y,A,z⟩:=zE.mp B;cases z;obtain⟨b,j,rfl,t,n,h,f⟩:=mS s r C;simp only[Pi]at g;obtain⟨w,u,m⟩:=f.get A;obtain⟨q,l,o⟩:=qE s t n ⟨_,h⟩ f.dropLast;exact⟨b,j,w,rfl,g,h,by rw[<- f.length];exact u,p P i _ _ q l (o m)⟩
 ·cases e
def xw:MF:=fun x d a=>match d with
 |[y]=>(iQ a x).bind fun c=>(cw a y).bind fun b=>if cU (c.2.length+b.length)=Â then À (.non,a.set c.1 (.lst (c.2++b))) else Á
 |_=>Á
theorem C9[Pf]:oQ X "list.extend" (rM X.gm xw):=pj Fa fun x G H Q f=>by
 obtain⟨P,k,I,a,F,s,r,o,v,m,e,q⟩:=f;unfold xw at e;split at e
 ·rename_i y
  obtain⟨c,B,A⟩:=zA e;obtain⟨E,z,g⟩:=zA A;split at g
  ·rename_i hz
   cases g;obtain⟨b,l,rfl,u,p,j,i⟩:=mS s r B;obtain⟨w,rfl,r1⟩:=o.one;obtain⟨D,d,rfl,C,h⟩:=r1.ls s z;obtain⟨t,n,_⟩:=qE s u p ⟨_,j⟩ (i.app h);exact⟨b,D,l,d,rfl,rfl,j,C,by rw[<- i.length,<- h.length];exact kO hz,q P k _ _ t n (by simp only[RA])⟩
  ·cases g
 ·cases e
def B5:MF:=fun x b a=>match b with
 |[y]=>(cE 9 a x).bind fun p=>(cE 9 a y).bind fun q=>match p with
  |.list ps=>if(ps.all fun r=>pyOk r q)=Â then À (.int ((ps.countP fun r=>ß r q:Nat):Int),a) else Á
  |_=>Á
 |_=>Á
theorem Da[Pf](hu:X.A.units+64<Š):oQ X "list.count" (rM X.gm B5):=by
 rintro Pc s σ H x vs v us Q I rx l ⟨P,E,st,a,F,k,r,K,z,G,e,T⟩;unfold B5 at e;split at e
 ·rename_i y
  obtain⟨p,Z,Y⟩:=zA e;obtain⟨q,W,g⟩:=zA Y;split at g
  ·rename_i ps
   split at g
   ·rename_i Pk
    cases g;obtain⟨w,rfl,r1⟩:=K.one;obtain⟨u,rfl,J⟩:=l.one;obtain⟨b,M⟩:=iU I k 9 _ _ _ _ r Z rx;obtain⟨bs,L⟩:=iU I k 9 _ _ _ _ r1 W J;cases M with
    |@list a o items n F i hg j hdt rall =>
     obtain⟨S,A,R,t⟩:=o;dsimp only at j hdt;subst j;subst hdt
     classical
     have C:∀z f c,Ż s.heap z f c->decide (∃p b,Ż s.heap z p b/\ß p q=Â)=ß f q:=by
      intro z f c d;rcases he:ß f q with _|_
      ·refine z9 ?_
       rintro⟨O,i,N,D⟩
       have:=(i? d O i N).1
       rw[<- this,he]at D;cases D
      ·exact yV ⟨f,c,d,he⟩
     refine Ų Ũ ⟨_,hg,rfl⟩ PySem.F.entry_list_count (PySem.F.args_list_count_2 _ _) (PySem.SeqAt.list_countAt a items n A t u (fun z=>decide (∃p b,Ż s.heap z p b/\ß p q=Â))) ⟨hg,?_,?_⟩
     ·intro z hz
      obtain⟨m,c,B,d⟩:=reads_each rall z (by simpa using hz);obtain⟨V,U,k3⟩:=qO (yQ.mp Pk m B);rw[C z m c d];exact Ϸ m q _ s z u c bs d L V U (by simp only[Around.in1_units];lia)
     ·have j:=cnt_vals (q:=q) (e:=fun z=>decide (∃p b,Ż s.heap z p b/\ß p q=Â)) (h:=s.heap) (vs:=items.toList) (ps:=ps) (fun v p b l=>C v p b l) rall
      rw[j];exact⟨.int _,H,I.kept (fun _ _ e=>e),⟨_,rfl⟩,T P E H _ Frm.refl k (by simp only[RA])⟩
   ·cases g
  ·cases g
 ·cases e
noncomputable def Mc(t:Bool):EF:=fun _ a=>À (.ref a.length,a++[if t=Â then .dT [] else .dK []])
theorem EC[Pf](i:PE X (.Dict [] [] pos) yw):QE X (.Dict [] [] pos) (Mc Ã):=PE_imp i fun l H Q a=>by
 refine e7 a fun P k n m p s g=>?_
 obtain⟨v,b,e,h⟩:=g;cases e;intro d hd;obtain⟨j,f⟩:=oY (c:=.dK []) (o:=.dK []) s hd ⟨fun z=>s.dom d z hd,[],aD,rfl,bO⟩;refine h P _ _ _ j f ?_;simp only[RA];exact⟨d,by rw[<- s.len];simp,rfl⟩
end
theorem vn:Õ "min"=À (.builtin "min"):=by decide +kernel
def B0(ns:List Int):AV:=match minL ns with
 |some m=>.int m
 |none=>.non
def pR(st:aa):List AV->Option AV
 |[v]=>(lsI st v).map B0
 |_=>Á
theorem HN(a:Å):B! "min" ⟨[a],[(Ā "default",.none)]⟩:=by unfold B!;kernel_rfl
theorem HM(a v:Å):B! "min" ⟨[a],[(Ā "key",v),(Ā "default",.none)]⟩:=by unfold B!;kernel_rfl
theorem HP{α:Type}{l:List α}{x:α}(h:x∈l):∃i:Nat,l[i]?=À x:=z8 h
section
variable{X:Cx}{a:Í}{f:EF}{p pos kp pc:ę}{j:Nat}
theorem EA[Pf](N:X.calm=Â)(M:Gl X "min")(K:X.mg "min"=Á)(O:QE X a f)(q:Ê [a] X.env=[(Ã,eval a X.env)]) :
  QE X (.Call (.Name "min" p) [a] [⟨À "default",.Constant .none j pc,kp⟩] pos) (vv (aZ pR) (gA f fZ)):=by
 intro T s D H Q I h;have t:=CA h;refine û (d7 I M K vn (callWith_kw (aE ((dj O fy (by rw[q];rfl)) pos T s D H _ I t) fun us s1 ⟨Z,V,U,r1,F⟩=>?_) (by rw[q];rfl) (by rw[q];rfl) (by rfl) (by rfl)));refine kws_cons (P! (kws_nil ?_));obtain⟨P,W,st,Y,o,r,G⟩:=F;obtain⟨z,e,k⟩:=G.map;unfold pR at e;split at e
 ·rename_i v
  obtain⟨w,rfl,E⟩:=r.one;obtain⟨ns,S,C⟩:=zE.mp e;obtain⟨l,rfl,L⟩:=E.lsI o S;obtain⟨u,rfl,A⟩:=fK r1;cases A;refine ug (ko:=Á) (ns:=ns) (I.ok.hd N) (fun i=>ns.getD i 0) (fun _ H=>H=V) (fun i H e=>by rw[e];exact L) rfl (HN _) (fun i n u pl s H c A y I=>.inl ⟨rfl,by simp[c],y⟩) (fun i n H c d y=>?_) (fun c=>?_) U rfl
  ·subst y
   have:minL ns=À n:=by
    cases B:minL ns with
    |none =>
     cases ns with
     |nil=>simp at c
     |cons _ _=>cases B
    |some m =>
     rw[minL_eq B (zW c) fun b t=>?_];obtain⟨J,g⟩:=HP t;have R:=(d J (zB.mp g).1).1;simpa [c,g] using R
   have x:z=.int n:=by rw[<- C];unfold B0;rw[this]
   subst x;exact k.pure o (by simp only[RA])
  ·subst c
   have x:z=.non:=by rw[<- C];rfl
   subst x;exact k.pure o (by simp only[RA])
 ·cases e
end
noncomputable def Am(key:EF)(sl:Sl)(st:aa)(n:Int):Option Int:=match key (sl++[À (.int n)]) st with
 |some (.int k,_)=>À k
 |_=>Á
noncomputable def mW:Int->Int->List (Int×Int)->Int
 |n,_,[]=>n
 |n,k,(m,j)::r=>if j<k then mW m j r else mW n k r
def rF:List (Int×Int)->AV
 |[]=>.non
 |(n,k)::r=>.int (mW n k r)
def tG(f key:EF):EF:=fun a c=>(f a c).bind fun p=>(lsI p.2 p.1).bind fun b=>(aT (Am key a p.2) b).map fun d=>(rF (b.zip d),p.2)
def DF(f:EF):Prop:=∀c b v a,f c b=À (v,a)->a=b
theorem n9:∀(r:List (Int×Int))(n k:Int),∃(i:Nat)(κ:Int),((n,k)::r)[i]?=À (mW n k r,κ)/\∀(j:Nat) q,((n,k)::r)[j]?=À q->κ<=q.2/\(j<i->κ<q.2)
 |[],n,k=>⟨0,k,rfl,fun j q e=>by
   cases j with
   |zero=>cases e;exact⟨Ű _,fun h=>absurd h (xA _)⟩
   |succ j=>simp at e⟩
 |(m,j0)::r,n,k=>by
  by_cases hb:j0<k
  ·obtain⟨i,κ,e1,e2⟩:=n9 r m j0
   refine⟨i+1,κ,by rw[ĕ];simpa [mW,hb] using e1,fun j q e=>?_⟩;cases j with
   |zero =>
    cases e
    have:=(e2 0 (m,j0) rfl).1
    exact⟨by show κ<=k;lia,fun _=>by show κ<k;lia⟩
   |succ j =>
    rw[ĕ]at e;exact⟨(e2 j q e).1,fun h=>(e2 j q e).2 oM⟩
  ·obtain⟨i,κ,e1,e2⟩:=n9 r n k
   have b:mW n k ((m,j0)::r)=mW n k r:=by simp[mW,hb]
   have a:=(e2 0 (n,k) rfl).1;refine⟨if i=0 then 0 else i+1,κ,?_,fun j q e=>?_⟩
   ·rw[b]
    cases i with
    |zero=>simpa using e1
    |succ i=>simpa using e1
   ·cases j with
    |zero =>
     cases e;refine⟨a,fun h=>?_⟩;cases i with
     |zero=>simp at h
     |succ i=>exact(e2 0 (n,k) rfl).2 (C? i)
    |succ j =>
     rw[ĕ]at e;cases j with
     |zero =>
      cases e;refine⟨by show κ<=j0;lia,fun h=>?_⟩;cases i with
      |zero=>simp at h
      |succ i =>
       have:=(e2 0 (n,k) rfl).2 (C? i)
       show κ<j0;have:κ<k:=this;lia
     |succ j =>
      rw[ĕ]at e
      have:=e2 (j+1) q (by rw[ĕ];exact e)
      refine⟨this.1,fun h=>this.2 ?_⟩;cases i with
      |zero=>simp at h
      |succ i=>simp at h;lia
theorem FI{ns ks:List Int}{i:Nat}{n:Int}(x:ns.length=ks.length)(f:ns[i]?=À n)(w:∀j,j<ns.length->ks.getD i 0<=ks.getD j 0/\(j<i->ks.getD i 0<ks.getD j 0)):rF (ns.zip ks)=.int n:=by
 have y:i<ns.length:=(zB.mp f).1;obtain⟨k,o⟩:∃k,ks[i]?=À k:=⟨_,zF oM⟩;have hz:(ns.zip ks)[i]?=À (n,k):=by rw[Ŧ];exact⟨f,o⟩
 have hd:ks.getD i 0=k:=by simp[o]
 cases e:ns.zip ks with
 |nil=>rw[e]at hz;simp at hz
 |cons q r =>
  obtain⟨t,v⟩:=q;obtain⟨a,c,s,p⟩:=n9 r t v;rw[<- e]at s p;have b:=Ŧ.mp s;have g:a<ns.length:=(zB.mp b.1).1;have l:ks.getD a 0=c:=by simp[b.2]
  have m:=w a g;have m2:=p i (n,k) hz;rw[hd,l]at m;have u:c<=k:=m2.1;have d:i<a->c<k:=m2.2;have:i=a:=by
   rcases Nat.lt_trichotomy i a with h|h|h
   ·have:=d h;lia
   ·exact h
   ·have:=m.2 h;lia
  subst this;rw[f]at b
  have:=b.1
  simp only[rF];cases this;rfl
theorem uj{α a:Type}{f:α->Option a}:∀{l:List α}{r:List a},aT f l=À r->l.length=r.length/\∀(i:Nat) x,l[i]?=À x->∃y,r[i]?=À y/\f x=À y
 |[],r,h=>by cases h;exact⟨rfl,fun i x e=>by simp at e⟩
 |x::l,r,h=>by
  simp only[aT]at h;obtain⟨y,e1,e2⟩:=zA h;obtain⟨j,g,d⟩:=zE.mp e2;subst d;obtain⟨c,b⟩:=uj g;refine⟨by simp[c],fun i z e=>?_⟩;cases i with
  |zero=>cases e;exact⟨y,rfl,e1⟩
  |succ i=>exact b i z (by simpa using e)
section
variable{X:Cx}{a body:Í}{f key:EF}{p pos kp lp kp2 pc:ę}{j:Nat}{params:ϩ}{scope:ĝ}{N':List Ì}{x:Ì}{c P:Ç}
theorem Pn.snoc[Pf]{mg:Gm}{P:Pr}{H:Hp}{φ:List Ç}{sl:Sl}{σ:St}{v:AV}{w:V}(h:Pn mg P H φ sl σ)(r:RA mg P H φ v w):Pn mg P H φ (sl++[À v]) (σ++[À w]):=by
 refine⟨by rw[zV,zV,h.1];rfl,fun i u e=>?_⟩;rcases yT i sl.length with a|a
 ·rw[zN a]at e
  rw[zN (by rw[<- h.1];exact a)];exact h.2 i u e
 ·rw[z6 a]at e
  rw[z6 (by rw[<- h.1];exact a),<- h.1];cases b:i-sl.length with
  |zero=>rw[b]at e;cases e;exact⟨w,rfl,r⟩
  |succ m=>rw[b]at e;simp at e
theorem Ez[Pf](hc:X.calm=Â)(hg:Gl X "min")(hm:X.mg "min"=Á)(ha:QE X a f)(hs:Ê [a] X.env=[(Ã,eval a X.env)])(hdef:V6 params X.env=([],[]))(hcode:X.env.code=.ref c)(C:W3 X.base c P)(B:kn X.mg X.base)
  (ht:(P,lp,X.env.qual++"<lambda>")∈Pf.tb) (T:yb X N' scope x) (hp:plainA params=Â) (hps:params.args.map (·.arg)=[x]) (hd:X.A.in1.depth<Ϟ) (pu:DF key)
  (he:∀cl f c' s H,QE (vd X N' scope cl f (X.env.qual++"<lambda>") (.ref c') X.A.in1 s H) body key)
  (hdj:∀t∈Pf.tb,t.1=P->t=(P,lp,X.env.qual++"<lambda>")) :
  QE X (.Call (.Name "min" p) [a] [⟨À "key",.Lambda params body scope lp,kp⟩,⟨À "default",.Constant .none j pc,kp2⟩] pos) (tG f key):=by
 rintro Pc s σ H Q I ⟨Pr0,φ,sl,st,rs,sm,v,st',ev,k⟩;obtain⟨J,e1,e2⟩:=zA ev;obtain⟨ns,e3,e4⟩:=zA e2;obtain⟨ks,e5,e6⟩:=zE.mp e4;cases e6;have hra:rA X.gm (gA f fZ) σ H (fun vs G=>∃A d w,vs=[w]/\Frm Pr0 φ H A d G/\Sim X.gm A d J.2 G/\RA X.gm A G d J.1 w) :=
  zc rs sm ⟨J.1,J.2,e1,fun A d G w f1 s1 r1=>⟨A,d,w,rfl,f1,s1,r1⟩⟩
 refine û (d7 I hg hm vn (callWith_kw (aE ((dj ha fy (by rw[hs];rfl)) pos Pc s σ H _ I hra) fun us s1 ⟨vs,G,I1,r1,A,d,w,ew,f1,m,V⟩=>?_) (by rw[hs];rfl) (by rw[hs];rfl) (by rfl) (by rfl)));subst ew;obtain⟨l,rfl,hl0⟩:=V.lsI m e3;obtain⟨u,rfl,ru⟩:=fK r1;cases ru;obtain⟨cl,hcl,hcl1,hcl2⟩:=lM (scope:=scope) (env:=X.env) (fun y hy=>by
  rcases T.cy.free y hy with h|h
  ·exact I1.ok.has y (.inl h)
  ·exact I1.ok.has y (.inr h))
 refine kws_cons (Cd I1 hdef hcode C B hcl (m.tb _ ht).1 fun q c' ctv S s2 hH2 F7 hx2 I2=>kws_cons (P! (kws_nil ?_)))
 have fs:Frm A d G A d S/\Sim X.gm A d J.2 S:=by
  rcases hH2 with rfl|⟨ps,K,hP,hn,hne,rfl⟩
  ·exact⟨Frm.refl,m⟩
  ·have nP:∀b,A b->b≠P:=fun b h e=>(m.tb _ ht).2 (by rw[<- e];exact h)
   have N:∀b,G b≠Á->b≠c':=fun b h e=>h (by rw[e];exact hn)
   have M:∀b∈d,b≠P:=fun b h e=>m.tnc ht (by rw[<- e];exact h)
   have R:∀b,b≠P->b≠c'->ah (ah G P (.tbl (ps++K))) c' (ic c' (X.env.qual++"<lambda>")) b=G b:=fun b h1 h2=>by rw[ae h2,ae h1]
   have ex:∀b,A b->A b/\ah (ah G P (.tbl (ps++K))) c' (ic c' (X.env.qual++"<lambda>")) b=G b:=fun b h=>⟨h,R b (nP b h) (N b (m.dom b h))⟩
   refine⟨⟨ex,⟨[],by simp,by simp⟩,fun b h _ z=>R b (fun e=>z ps (by rw[e];exact hP)) (N b h),fun b h=>.inl h,fun b h=>?_,fun b o u h=>?_⟩,m.stay ex (fun b h=>R b (M b h) (N b (m.cd b h))) (fun _ _ h=>h) (fun b h=>by rw[(ex b h).2];exact m.dom b h) fun t O=>⟨?_,(m.tb t O).2⟩⟩
   ·by_cases e:b=P
    ·subst e;rw[ae hne,aD];exact fun z=>nomatch z
    ·rw[R b e (N b h)];exact h
   ·rw[R b (fun e=>by rw[e,hP]at h;cases h) (N b (by rw[h];exact fun z=>nomatch z))];exact h
   ·by_cases e:t.1=P
    ·rw[hdj t O e];exact F7
    ·obtain⟨qs,g1,g2,g3⟩:=(m.tb t O).1
     refine⟨qs,by rw[R t.1 e (N _ (by rw[g1];exact fun z=>nomatch z))];exact g1,g2,?_⟩;rcases g3 with g3|⟨c2,g4,g5⟩
     ·exact .inl g3
     ·exact .inr ⟨c2,g4,by rw[R c2 (fun z=>by rw[z,hP]at g5;cases g5) (N _ (by rw[g5];exact fun z=>nomatch z))];exact g5⟩
 obtain⟨Z,hget⟩:=uj e5;have ay:∀F,(∃D g,Frm A d S D g F/\Sim X.gm D g J.2 F)->∀z,rF (ns.zip ks)=z->∀w,(∀D g,RA X.gm D F g z w)->Q w F:=fun F hq0 z hz w r=>by
  obtain⟨D,g,f',s'⟩:=hq0;rw[hz]at k;exact k D g F w ((f1.trans fs.1).trans f') s' (r D g)
 have hmc:=ug (X:=X) (Pc:=Pc++[(q,xB X.mg (X.env.qual++"<lambda>") params body scope cl (.ref c') ctv)]) (σ:=σ) (ko:=À (.ref q)) (kws:=[(Ā "key",.ref q),(Ā "default",.none)]) (l:=l) (ns:=ns) (H:=S) (s:=s2) (Q:=Q) (E:=X.xe)
  (I.ok.hd hc) (fun i=>ks.getD i 0) (fun _ F=>∃D g,Frm A d S D g F/\Sim X.gm D g J.2 F) (fun i F ⟨D,g,f',s'⟩=>?_) rfl (HM _ _) (fun i n u pl s3 H3 en ru ⟨P3,U,f3,s3'⟩ I3=>.inr ⟨q,rfl,?_⟩) (fun i n F en Y hJ=>?_) (fun en=>?_) I2 ⟨A,d,Frm.refl,fs.2⟩
 ·exact aE hmc fun u s9 ⟨v9,H9,I9,r9,q9⟩=>⟨v9,H9,I9.pins_of fun p hp=>I9.pin p (zK _ (zL _ hp)),r9,q9⟩
 ·obtain⟨b,eb,hb⟩:=(V.frm (fs.1.trans f')).lsI s' e3
  cases eb;exact hb
 ·obtain⟨kv,ek,hk⟩:=hget i n en
  unfold Am at hk;split at hk
  ·rename_i k0 st0 L
   cases hk
   have:=pu _ _ _ _ L
   subst this;have W:=I3.pin (q,xB X.mg (X.env.qual++"<lambda>") params body scope cl (.ref c') ctv) (zK _ (zL _ (zK _ (zM.mpr rfl))));have hcx:H3 c'=À (ic c' (X.env.qual++"<lambda>")):=fs.2.okeep f3 hx2;have hcr:s3.heap.CodeRec (.ref c') (X.env.qual++"<lambda>"):=(I3.Pk c' _ hcx).1;refine Ce (te:=rE X.gm key) T I3 I.ok.frames (I.ok.hd hc) hd hcl1 hcl2 hp hps W.1 hcr (fun s H=>he cl q c' s H) ru ?_;have ksl:Pn X.gm P3 H3 U (sl++[À (.int n)]) (σ++[À (.int n)]):=Pn.snoc (((rs.frm f1).frm fs.1).frm f3) (by simp only[RA]);refine⟨P3,U,sl++[À (.int n)],J.2,ksl,s3',.int kv,J.2,L,fun P4 φ4 H4 b f4 s4 r4=>?_⟩;simp only[RA]at r4;exact⟨by rw[r4];simp[ek],P4,φ4,f3.trans f4,s4⟩
  ·cases hk
 ·exact ay F hJ _ (FI Z en Y) _ fun D g=>by simp only[RA]
 ·subst en
  exact ay S ⟨A,d,Frm.refl,fs.2⟩ _ rfl _ fun D g=>by simp only[List.zip_nil_left,rF,RA]
end
section
variable{X:Cx}{a b:Í}{f g:EF}{pos p1 p2 pos2:ę}
noncomputable def pC(i:Int):Bool:=decide (0<=i)&&decide (i<=1000)
def ue(f:EF):NF:=fun b a=>(f b a).bind fun p=>match p.1 with
 |.int j=>if pC j=Â then À (eu 0 j.toNat,p.2) else Á
 |_=>Á
def xn(f g:EF):NF:=fun a b=>(f a b).bind fun p=>(g a p.2).bind fun q=>match p.1,q.1 with
 |.int i,.int j=>if(pC i&&pC j&&decide (i<=j))=Â then À (eu i (j-i).toNat,q.2) else Á
 |_,_=>Á
theorem Pi.rng(i:Nat):∀n:Nat,Pi mg P H φ (eu (i:Int) n) ((ĥ i n).map fun(q:Nat)=>V.int (q:Int)):=by
 have a:∀(l:List Nat),Pi mg P H φ (l.map fun(k:Nat)=>AV.int ((i:Int)+(k:Int))) (l.map fun(k:Nat)=>V.int ((i:Int)+(k:Int))):=by
  intro l
  induction l with
  |nil=>exact bO
  |cons x l b=>exact bo (by simp only[RA]) b
 intro n;have:((ĥ i n).map fun(q:Nat)=>V.int (q:Int))=(Æ n).map fun(k:Nat)=>V.int ((i:Int)+(k:Int)):=by
  rw[List.range'_eq_map_range,Ö];refine Ř fun k _=>?_
  simp
 rw[this];exact a _
theorem GK[Pf](y:X.calm=Â)(i:Gl X "list")(g:X.mg "list"=Á)(h:Gl X "range")(e:X.mg "range"=Á)(A:QE X a f)
  (v:Ê [a] X.env=[(Ã,eval a X.env)]):QN X (.Call (.Name "list" p1) [.Call (.Name "range" p2) [a] [] pos2] [] pos) (ue f) :=
 PE_imp (BR y i g h e A v) fun I H Q d=>by
  refine e7 d fun P G L K t s u=>?_
  obtain⟨J,o,D,k⟩:=u;obtain⟨q,E,b⟩:=zA D;refine i7 t s ⟨q.1,q.2,E,fun F c m w B r r1=>?_⟩;show ∃j:Nat,[w]=[.int (j:Int)]/\j<=1000/\∀p,m p=Á->Q (.ref p) (ah m p (.lst ((ĥ 0 j).map fun(q:Nat)=>V.int (q:Int))));split at b
  ·rename_i j C
   split at b
   ·rename_i z
    cases b;rw[C]at r1;simp only[RA]at r1;subst r1;obtain⟨l,n⟩:=Ŕ.mp z;have l:=of_decide_eq_true l;have n:=of_decide_eq_true n;refine⟨j.toNat,by rw[ŝ l],by lia,fun p x=>?_⟩;exact k F c m p _ B r x (Pi.rng 0 j.toNat)
   ·cases b
  ·cases b
theorem GJ[Pf](F:X.calm=Â)(u:Gl X "list")(o:X.mg "list"=Á)(t:Gl X "range")(n:X.mg "range"=Á)(G:QE X a f)(h:QE X b g)
  (x:Ê [a,b] X.env=[(Ã,eval a X.env),(Ã,eval b X.env)]) (c:Ê [b] X.env=[(Ã,eval b X.env)]):QN X (.Call (.Name "list" p1) [.Call (.Name "range" p2) [a,b] [] pos2] [] pos) (xn f g) :=
 PE_imp (zr F u o t n (dj G (dj h fy (by rw[c];rfl)) (by rw[x,c])) x c) fun R H Q m=>by
  refine e7 m fun P φ V U C s D=>?_
  obtain⟨S,A,N,k⟩:=D;obtain⟨q,l,v⟩:=zA N;obtain⟨r,O,e⟩:=zA v;refine CZ C s ⟨q.1,q.2,r.1,r.2,l,O,fun y d z w T K B r1 r2=>?_⟩;split at e
  ·rename_i i j M L
   split at e
   ·rename_i h
    cases e;rw[M]at r1;rw[L]at r2;simp only[RA]at r1 r2;subst r1;subst r2;simp only[pC,zC,yB]at h;obtain⟨⟨⟨J,Z⟩,I,Y⟩,W⟩:=h;refine⟨i.toNat,j.toNat,by rw[ŝ J,ŝ I],by lia,by lia,fun p E=>?_⟩;refine k y d z p _ K B E ?_;have l:(j-i).toNat=j.toNat-i.toNat:=by lia
    have v:i=((i.toNat:Nat):Int):=by lia
    have:=Pi.rng (mg:=X.gm) (P:=y) (H:=z) (φ:=d) i.toNat (j.toNat-i.toNat)
    rw[<- v,<- l]at this;rw[<- l];exact this
   ·cases e
  ·cases e
end
noncomputable def pW:ba->AV
 |.inl i=>.int i
 |.inr x=>.str x
noncomputable def CP(k:Nat):Out->Option Out
 |.nx sl st=>match st[k]? with
  |some (.wk Pd)=>À (.nx sl (st.set k (.dK Pd)))
  |_=>Á
 |.rt v st=>match st[k]? with
  |some (.wk Pd)=>À (.rt v (st.set k (.dK Pd)))
  |_=>Á
 |_=>Á
def xa(f:EF)(g:GF)(s:SF):SF:=fun a c=>(f a c).bind fun p=>match p.1 with
 |.ref k=>match p.2[k]? with
  |some (.dK b)=>(eB [] g s (b.map fun q=>pW q.1) a (p.2.set k (.wk b))).bind (CP k)
  |_=>Á
 |_=>Á
section
variable{X:Cx}{tg iter:Í}{body:List ĺ}{pos:ę}{f:EF}{g:GF}{s:SF}
theorem El[Pf](hp:Ϧ (model X.prog X.w) X.A X.env X.xe)(hc:X.calm=Â)(hi:QE X iter f)(hg:QG X tg g)(hb:oP X body s)(hs:∀x,ö iter X.env x=pure x):QS X (.For tg iter body [] pos) (xa f g s) :=
 PS_imp (EI (zj hp hc (ES hi) hg hb hs)) fun D σ H hq0=>by
  refine e7 hq0 fun P φ sl st rs sm q0=>?_
  obtain⟨o,e,q⟩:=q0;obtain⟨p,e1,e2⟩:=zA e;refine i7 rs sm ⟨p.1,p.2,e1,fun P1 N H1 w f1 s1 r1=>g_ fun G bk=>?_⟩;split at e2
  ·rename_i k ek
   rw[ek]at r1;simp only[RA]at r1;obtain⟨a,ea,ew⟩:=r1;split at e2
   ·rename_i Pd hk
    obtain⟨o1,e3,W⟩:=zA e2;obtain⟨na,K,h1,h2⟩:=s1.cell k _ a hk ea;refine bk ⟨a,K,ew,h1,fun U hn=>?_⟩;have J:(Pd.map fun q=>pW q.1).length=K.length:=by
     have:=congrArg œ h2.1
     rw[zH,zH]at this;rw[zH];exact this
    obtain⟨fw,sw⟩:=jw (c:=.wk Pd) (o:=.frz U (.dK K)) s1 ea na ⟨na,U,K,aD,h2.mono (fun b h=>⟨h,ae fun e=>na (e▸h)⟩) fun _ _ z=>z⟩ (fun _ _ z=>by rw[h1]at z;cases z);have rsw:Pn X.gm P1 (ah H1 a (.frz U (.dK K))) N sl σ:=(rs.frm f1).frm fw
    have back:∀{A d C l},Frm P1 N (ah H1 a (.frz U (.dK K))) A d C->Sim X.gm A d l C->∀{I},l[k]?=À (.wk I)->∃Z E,C a=À (.frz Z (.dK E)) /\
      Frm P φ H A d (ah C a (.dK E))/\Sim X.gm A d (l.set k (.dK I)) (ah C a (.dK E))/\∀b,A b->A b/\ah C a (.dK E) b=C b:=by
     intro A d C l Q F I hw;have T:d[k]?=À a:=Q.ix k a ea;obtain⟨na5,Z,E,g1,g2⟩:=F.cell k _ a hw T;have S:∀b,A b->A b/\ah C a (.dK E) b=C b:=fun b h=>⟨h,ae fun e=>na5 (e▸h)⟩
     refine⟨Z,E,g1,?_,?_,S⟩
     ·have B:=(f1.trans fw).trans Q
      obtain⟨m,em,nm⟩:=B.new;have hna:H a=Á\/a∈φ:=by
       rcases zZ.mp (show a ∈ φ++f1.new.choose by rw [<- f1.new.choose_spec.1];exact zW ea) with z | z
       ·exact .inr z
       ·exact .inl (f1.new.choose_spec.2 a z)
      refine⟨fun b h=>⟨(B.ext b h).1,?_⟩,⟨m,em,nm⟩,fun b h n z=>?_,B.pn,fun b h=>?_,fun b o u h=>?_⟩
      ·rw[(S b (B.ext b h).1).2];exact(B.ext b h).2
      ·have nb:b≠a:=fun e=>by
        rcases hna with y|y
        ·exact h (by rw[e];exact y)
        ·exact n (by rw[e];exact y)
       rw[ae nb];exact B.keep b h n z
      ·by_cases e:b=a
       ·rw[e,aD];exact fun z=>nomatch z
       ·rw[ae e];exact B.sm b h
      ·have nb:b≠a:=fun e=>by
        have:=f1.fz b o u h
        rw[e,h1]at this;cases this
       rw[ae nb];exact B.fz b o u h
     ·have hs5:l[k]?=À (.wk I):=hw
      refine⟨by rw[Ĉ];exact F.len,F.nd,fun b h=>by rw[(S b h).2];exact F.dom b h,fun b h=>?_,fun j c b e5 e6=>?_,fun t ht=>⟨(F.tb t ht).1.wr (F.notb T na5),(F.tb t ht).2⟩⟩
      ·by_cases e:b=a
       ·rw[e,aD];exact fun z=>nomatch z
       ·rw[ae e];exact F.cd b h
      ·by_cases hj:j=k
       ·subst hj
        rw[T]at e6;cases e6;rw[ñ (by rw[<- F.len];exact(zB.mp T).1)]at e5;cases e5;exact⟨na5,E,aD,g2.mono S fun _ _ z=>z⟩
       ·rw[ï (ç hj)]at e5
        have hb:b≠a:=fun e=>hj (by
         subst e;obtain⟨l1,q1⟩:=zB.mp e6;obtain⟨l2,q2⟩:=zB.mp T;exact(Ÿ F.nd).mp (q1.trans q2.symm))
        exact(F.cell j c b e5 e6).mono S (fun _ _ z=>z) (ae hb) fun z=>z
    have V:∀{A d C O L l},o1=.nx L l->Frm P1 N (ah H1 a (.frz U (.dK K))) A d C->Sim X.gm A d l C->Pn X.gm A C d L O->(sV X.H₀ D).nx O C:=by
     intro A d C O L l eo Q F M;subst eo;simp only[CP]at W;split at W
     ·rename_i I hw
      cases W;obtain⟨Z,E,g1,g2,g3,g4⟩:=back Q F hw;exact⟨a,Z,E,g1,hn,q A d _ O g2 g3 ⟨M.1,fun i v e=>let⟨w,e',r⟩:=M.2 i v e;⟨w,e',r.mono g4 fun _ _ z=>z⟩⟩⟩
     ·cases W
    have endR:∀{A d C v5 l w5},o1=.rt v5 l->Frm P1 N (ah H1 a (.frz U (.dK K))) A d C->Sim X.gm A d l C->RA X.gm A C d v5 w5->(sV X.H₀ D).rt w5 C:=by
     intro A d C v5 l w5 eo Q F r5;subst eo;simp only[CP]at W;split at W
     ·rename_i I hw
      cases W;obtain⟨Z,E,g1,g2,g3,g4⟩:=back Q F hw;exact⟨a,Z,E,g1,hn,q A d _ w5 g2 g3 (r5.mono g4 fun _ _ z=>z)⟩
     ·cases W
    refine⟨fun i m Y H'=>m=K.length-i/\i<=K.length/\Iw X.gm P1 N (ah H1 a (.frz U (.dK K))) (fun sl st=>eB [] g s ((Pd.map fun q=>pW q.1).drop i) sl st=À o1) Y H',
     ⟨_,rfl,ŀ _,P1,N,sl,_,Frm.refl,sw,rsw,by simpa using e3⟩,?_⟩
    intro i m Y H' hh;refine g_ fun G bk=>?_
    obtain⟨em,hle,P2,φ2,sl2,st2,f2,s2,rs2,eg⟩:=hh;have hfz:H' a=À (.frz U (.dK K)):=f2.fz a _ _ aD;rcases yT i K.length with R|hge
    ·rw[ù (by rw[J];exact R)]at eg
     simp only[eB,cT,if_true]at eg;obtain⟨q4,e5,e6⟩:=zA eg;obtain⟨o2,e7,e8⟩:=zA e6;refine bk (.inr ⟨⟨hfz,R⟩,Iw X.gm P1 N (ah H1 a (.frz U (.dK K))) fun sl st=>eB [] g s ((Pd.map fun q=>pW q.1).drop (i+1)) sl st=À o1,fun Y H' z=>⟨_,by lia,rfl,R,z⟩,fun x H3 hy=>g_ fun G bj=>?_⟩);obtain⟨rfl,hx⟩:=hy;have rx:RA X.gm P2 H3 φ2 ((Pd.map fun q=>pW q.1)[i]'(by rw[J];exact R)) x:=by
      have hkw:Pd[i]?.map (·.1)=K[i]?.map (·.1):=by rw[<- zR,<- zR,h2.1]
      have hlt':i<Pd.length:=by rw[zH]at J;lia
      rw[zR,zF R]at hx;rw[zF hlt',zF R]at hkw;simp only[Ð,Option.some.injEq]at hx hkw;rw[List.getElem_map,hkw,<- hx];cases K[i].1 with
      |inl n=>simp only[pW,RA,kV]
      |inr z=>simp only[pW,RA,kV]
     refine bj ⟨P2,φ2,sl2,st2,_,rs2,s2,rx,q4.1,q4.2,e5,fun P4 φ4 H4 σ4 f4 s4 rs4=>⟨P4,φ4,q4.1,q4.2,rs4,s4,o2,e7,?_⟩⟩;have fa:=f2.trans f4;cases o2 with
     |nx L l=>exact fun A d C O Q F M=>⟨A,d,L,l,fa.trans Q,F,M,e8⟩
     |ct L l=>exact fun A d C O Q F M=>⟨A,d,L,l,fa.trans Q,F,M,e8⟩
     |bk L l=>exact fun A d C O Q F M=>V (yD e8).symm (fa.trans Q) F M
     |rt v l=>exact fun A d C w Q F r5=>endR (yD e8).symm (fa.trans Q) F r5
    ·have ei:i=K.length:=g! hle hge
     subst ei;rw[<- J,ϲ]at eg;simp only[eB,cT,if_true]at eg;exact bk (.inl ⟨⟨hfz,zP _⟩,V (yD eg).symm f2 s2 rs2⟩)
   ·cases e2
  ·cases e2
end
noncomputable def bW:Í->Bool
 |.Starred _ _=>Ã
 |_=>Â
noncomputable def kQ:Í->Bool
 |.Slice _ _ _ _=>Ã
 |_=>Â
noncomputable def BY:Í->Bool
 |.Set _ _ _=>Ã
 |_=>Â
noncomputable def qP:Í->Bool
 |.Call (.Name _ _) [] [] _=>Ã
 |_=>Â
noncomputable def pQ:Í->Bool
 |.ListComp _ _ _ _=>Ã
 |.SetComp _ _ _ _=>Ã
 |.DictComp _ _ _ _ _=>Ã
 |_=>Â
noncomputable def ud:Í->Bool
 |.Tuple _ _ _=>Ã
 |_=>Â
noncomputable def zl:Í->Bool
 |.UnaryOp .Not _ _=>Ã
 |.BoolOp _ _ _=>Ã
 |.IfExp _ _ _ _=>Ã
 |.Compare _ _ _ _=>Ã
 |_=>Â
section
variable{env:O?}{e o i a b:Í}{es:List Í}{pos cpos apos:ę}{f:Ì}
theorem aF(h:bW e=Â):Ê (e::es) env=(Ã,eval e env)::Ê es env:=by
 cases e<;>first|rfl|cases h
theorem jB(h:es.all bW=Â):(ú pos (Ê es env)).any (·.1)=Ã:=by
 induction es with
 |nil=>rfl
 |cons e es a =>
  rw[ķ,zC]at h;rw[aF h.1];show(Ã||(ú pos (Ê es env)).any (·.1))=Ã;rw[a h.2];rfl
theorem Bt(h:es.all bW=Â):(ú pos (Ê es env)).all (fun x=>!x.1)=Â:=by
 induction es with
 |nil=>rfl
 |cons e es a =>
  rw[ķ,zC]at h;rw[aF h.1];show(Â&&(ú pos (Ê es env)).all (fun x=>!x.1))=Â;rw[a h.2];rfl
theorem L4(h:es.all bW=Â)(a:es.length<30):((ú cpos (Ê es env)).all (fun x=>!x.1)&&(Ő cpos (ē [] env)).all (fun x=>x.1.isSome)&&decide (es.length+([]:List ő).length+(if([]:List ő).isEmpty then 0 else 1)<30))=Â:=by
 rw[Bt h];have:decide (es.length+([]:List ő).length+(if([]:List ő).isEmpty then 0 else 1)<30)=Â:=yV (by simpa using a);rw[this];rfl
theorem gY(w:Y? Å)(h:qP o=Â):Ę o f env w=w:=by
 unfold Ę;split
 ·simp[qP]at h
 ·rfl
theorem wa(g:qP o=Â)(d:es.all bW=Â)(e:es.length<30)(a:(apos.endLine==pos.line)=Â):eval (.Call (.Attribute o f apos) es [] pos) env=(do
   let ov <- eval o env
   Ŝ apos.atName
   let(f,first) <- holding [ov] (Ū ov f (do return (<- importBound o env).getD Â))
   ų pos f first (ú pos (Ê es env)) (Ő pos (ē [] env))):=by
 rw[arm_eval_Call,gY _ g];have b:methodCallForm (es.length+([]:List ő).length) (ú pos (Ê es env)) (Ő pos (ē [] env))=Â:=L4 d e;have c:methodCallPos Â o env apos pos=pure pos:=by unfold methodCallPos;simp[a]
 unfold methodCall;rw[b,c];rfl
theorem tN(h:BY e=Â)(x:Å):ö e env x=pure x:=by
 cases e<;>first|rfl|cases h
theorem Ks(h:kQ i=Â):rH i:=fun _ _=>by
 cases i<;>first|rfl|cases h
theorem Gj(h:kQ i=Â)(v:Å):assign (.Subscript o i pos) env v=(do
   let ov <- holding [v] (eval o env)
   let iv <- holding [v,ov] (eval i env)
   Ŝ pos
   holding [v,ov,iv] (Ϥ ov iv v)
   release [v,ov,iv] []):=by
 cases i<;>first|rfl|cases h
theorem Jb(h:kQ i=Â)(a b new:Å):augStore i a b new=(do holding [new,a,b] (Ϥ a b new);release [new,a,b] [];pure .next):=by
 cases i<;>first|rfl|cases h
theorem vP{l:Nat}(h:pQ e=Â):Ĺ e t l env=pure Ã:=by
 cases e<;>first|rfl|cases h
theorem Bn{l:Nat}:Ĺ e (À (.Attribute o f p)) l env=pure Ã:=by
 cases e<;>rfl
noncomputable def LG(nm:List (Ì×NameKind))(t:Ì)(b:Nat)(sc:ĝ)(a:Nat):Bool:=decide (nm.lookup t=À .local)&&(b==a)&&!(sc.names.any fun(n,k)=>n==t&&(k==.local||k==.cell))
theorem Gh{l:Nat}(a:env.scope.kind=.function) :
  Ĺ (.ListComp elt gens sc pos) (À (.Name t p)) l env=pure (LG env.scope.names t p.line sc pos.line):=by
 have b:env.blockKind=.function:=by unfold Env.blockKind;rw[a];rfl
 show(pure (env.blockKind==.function&&env.kindOf t==À .local&&p.line==pos.line&&!(sc.names.any fun(n,k)=>n==t&&(k==.local||k==.cell))):Y? Bool)=_;rw[b];have:(env.kindOf t==À NameKind.local)=decide (env.scope.names.lookup t=À .local):=by
  show(env.scope.names.lookup t==À NameKind.local)=_;cases h:env.scope.names.lookup t with
  |none=>rfl
  |some k=>cases k<;>rfl
 rw[this];rfl
theorem Bq:õ [.Subscript a b p] e env=pure Á:=by cases e<;>rfl
theorem Bp{k:Nat}(h:ud e=Â):õ [.Tuple ts k p] e env=pure Á:=by cases e<;>first|rfl|cases h
theorem qY(h:bW e=Â):(â [e] env).map (·.2)=[assign e env]:=by
 cases e<;>first|rfl|cases h
theorem Cn(h:bW e=Â):(â (e::es) env).map (·.2)=assign e env::(â es env).map (·.2):=by
 cases e<;>first|rfl|cases h
theorem Co:(â es env).length=es.length:=by
 induction es with
 |nil=>rfl
 | cons e es ih=>cases e <;> (show (â es env).length + 1=es.length + 1;rw [ih])
theorem Cp(h:es.all bW=Â):(â es env).findIdx? (·.1)=Á:=by
 have:∀p∈â es env,p.1=Ã:=by
  induction es with
  |nil=>intro p a;cases a
  |cons e es b =>
   rw[ķ,zC]at h;have c:â (e::es) env=(Ã,assign e env)::â es env:=by
    cases e<;>first|rfl|cases h.1
   rw[c];intro p a;rcases zT.mp a with rfl|a
   ·rfl
   ·exact b h.2 p a
 rw[List.findIdx?_eq_none_iff];intro p a;rw[this p a]
theorem vL(h:zl e=Â)(a:Y? Å):z? e env a=(do let v <- a;Ŝ e.pos;holding [v] (truthy v)):=by
 cases e with
 |UnaryOp op x p=>cases op<;>first|rfl|cases h
 |BoolOp=>cases h
 |IfExp=>cases h
 |Compare=>cases h
 |_=>rfl
end
set_option genInjectivity false
set_option genSizeOf false
set_option genSizeOfSpec false
inductive Bi where
 |len|sum|abs|min|max|int
inductive Mi where
 |app|pop|ext|cnt
mutual
inductive Ex where
 |n|b (x:Bool)|i (x:Int)|s (x:Ì)|v (k:Nat)|g (x:Ì) (c:AV)|bin (o:Ğ) (a b:Ex)|cmp (o:ϣ) (a b:Ex)|un (o:UnaryOp) (a:Ex)|no (a:Ex)|an (a b:Ex)|or (a b:Ex)|ife (t:Tx) (a b:Ex)|ix (a b:Ex)|tu (es:Exs)|nw (m:Bool) (x:Nx)|ca (p:Bool) (j:Nat) (es:Exs)|me (c m:Ì) (j:Nat) (o:Ex) (es:Exs)|ne (c:Ì) (j:Nat) (es:Exs)|fd (c f:Ì) (o:Ex)|bi (b:Bi) (es:Exs)|is (T:String) (a:Ex)|mt (m:Mi) (o:Ex) (es:Exs)|dn|mnd (a:Ex)|mnk (a key:Ex)
inductive Tx where
 |va (e:Ex)|cmp (o:ϣ) (a b:Ex)|no (t:Tx)|an (t u:Tx)|or (t u:Tx)
inductive Exs where
 |nil|cons (e:Ex) (es:Exs)
inductive Nx where
 |li (es:Exs)|cat (a b:Ex)|rep (es:Exs) (b:Ex)|sl (a:Ex) (l h:Ox)|lof (a:Ex)|lc (k:Nat) (it:Ix) (t:Tg) (c:Cx') (e:Ex)|lr1 (a:Ex)|lr2 (a b:Ex)
inductive Ox where
 |no|so (e:Ex)
inductive Cx' where
 |no|so (t:Tx)
inductive Ix where
 |e (a:Ex)|r1 (a:Ex)|r2 (a b:Ex)|zi (a b:Ex)|en (a:Ex)|es (a b:Ex)
inductive Tg where
 |nm (k:Nat)|tu (n:Nat) (ts:Tgs)|su (a b:Ex)
inductive Tgs where
 |nil|cons (t:Tg) (ts:Tgs)
end
mutual
inductive Sx where
 |ex (e:Ex)|as (e:Ex) (t:Tg)|pa (i j:Nat) (a b:Ex)|aus (o:Ğ) (a b e:Ex)|fl (c f:Ì) (o e:Ex)|rt (e:Ex)|iff (t:Tx) (a b:Pq)|fo (it:Ix) (t:Tg) (b:Pq)|wh (t:Tx) (b:Pq)|dead|fd (a:Ex) (t:Tg) (b:Pq)
inductive Pq where
 |nil|cons (s:Sx) (ss:Pq)|dead
end
def qt:Bi->BF
 |.len=>aZ cO
 |.sum=>aZ ms
 |.abs=>aZ pi
 |.min=>aZ uh
 |.max=>aZ qR
 |.int=>aZ mG
def rZ:Mi->MF
 |.app=>qS
 |.pop=>xu
 |.ext=>xw
 |.cnt=>B5
noncomputable def se:Mi->String
 |_=>"list"
noncomputable def kf(ks:List Fn)(j:Nat):Fn:=ks.getD j fun _ _=>Á
def lY(p:Bool)(fn:Fn):Fn:=if p=Â then pm fn else fn
section
variable(ks:List Fn)
mutual
noncomputable def ev:Ex->EF
 |.n=>aC .non
 |.b x=>aC (.bl x)
 |.i x=>aC (.int x)
 |.s x=>aC (.str x)
 |.v k=>aV k
 |.g _ c=>aC c
 |.bin o a b=>a2 (ev a) (ev b) (mv (aW o))
 |.cmp o a b=>a2 (ev a) (ev b) (mv (pf o))
 |.un o a=>a1 (ev a) (Go (kN o))
 |.no a=>Dz (ev a)
 |.an a b=>DC (ev a) (ev b)
 |.or a b=>Dx (ev a) (ev b)
 |.ife t a b=>Ma (tv t) (ev a) (ev b)
 |.ix a b=>a2 (ev a) (ev b) (mv aG)
 |.tu es=>L8 (fD es)
 |.nw m x=>Dy m (j4 x)
 |.ca p j es=>DB (lY p (kf ks j)) (fD es)
 |.me c m j o es=>DA c m (kf ks j) (ev o) (fD es)
 |.ne c j es=>AT c (kf ks j) (fD es)
 |.fd c f o=>Mb c f (ev o)
 |.bi b es=>vv (qt b) (fD es)
 |.is T a=>L9 T (ev a)
 |.mt m o es=>mX (se m) (rZ m) (ev o) (fD es)
 |.dn=>Mc Ã
 |.mnd a=>vv (aZ pR) (gA (ev a) fZ)
 |.mnk a key=>tG (ev a) (ev key)
noncomputable def tv:Tx->TF
 |.va e=>tV (ev e)
 |.cmp o a b=>Gg (ev a) (ev b) o
 |.no a=>LC (tv a)
 |.an a b=>LF (tv a) (tv b)
 |.or a b=>F9 (tv a) (tv b)
noncomputable def fD:Exs->AF
 |.nil=>fZ
 |.cons e es=>gA (ev e) (fD es)
noncomputable def j4:Nx->NF
 |.li es=>LQ (fD es)
 |.cat a b=>qQ (ev a) (ev b)
 |.rep es b=>xm (fD es) (ev b)
 |.sl a l h=>pO (ev a) (u5 l) (u5 h)
 |.lof a=>oZ (ev a)
 |.lc k it t c e=>C4 k (fj it) (cM t) (j5 c) (ev e)
 |.lr1 a=>ue (ev a)
 |.lr2 a b=>xn (ev a) (ev b)
noncomputable def u5:Ox->OF
 |.no=>LP
 |.so e=>pK (ev e)
noncomputable def j5:Cx'->TF
 |.no=>LA
 |.so e=>tv e
noncomputable def fj:Ix->IF
 |.e a=>iE (ev a)
 |.r1 a=>Dg (ev a)
 |.r2 a b=>Df (ev a) (ev b)
 |.zi a b=>iZ (ev a) (ev b)
 |.en a=>LZ (ev a)
 |.es a b=>xI (ev a) (ev b)
noncomputable def cM:Tg->GF
 |.nm k=>Ax k
 |.tu n ts=>Aw n (kE ts)
 |.su a b=>L0 (ev a) (ev b)
noncomputable def kE:Tgs->vB
 |.nil=>Iu
 |.cons t ts=>Iz (cM t) (kE ts)
end
mutual
noncomputable def cV:Sx->SF
 |.ex e=>LM (ev ks e)
 |.as e t=>zb (ev ks e) (cM ks t)
 |.pa i j a b=>CV i j (ev ks a) (ev ks b)
 |.aus o a b e=>xb o (ev ks a) (ev ks b) (ev ks e)
 |.fl c f o e=>za c f (ev ks o) (ev ks e)
 |.rt e=>LI (ev ks e)
 |.iff t a b=>LK (tv ks t) (af a) (af b)
 |.fo it t b=>LL (fj ks it) (cM ks t) (af b)
 |.wh t b=>oh (tv ks t) (af b)
 |.dead=>Gq
 |.fd a t b=>xa (ev ks a) (cM ks t) (af b)
noncomputable def af:Pq->SF
 |.nil=>LJ
 |.cons s ss=>LH (cV s) (af ss)
 |.dead=>Gq
end
end
inductive Ke where
 |f (x:Ì) (n:Nat)|m (c m:Ì) (n:Nat)|k (c:Ì) (n:Nat)
structure SC where
 N:List Ì
 nm:List (Ì×NameKind)
 cf:List Ì
 ke:List Ke
 gs:List (Ì×AV)
 cl:List (Ì×List Ì)
 la:List ę
 cn:List Ì
 hs:List Nat
 ck:Bool
noncomputable def kd(C:SC)(x:Ì):Option Ŷ:=C.nm.lookup x
def Be(C:SC)(x:Ì):Bool:=match kd C x with
 |some .local=>Â
 |some .cell=>Â
 |some .free=>Â
 |_=>Ã
def B8(C:SC)(x:Ì):Bool:=match kd C x with
 |some .local=>Â
 |some .cell=>C.cf.contains x
 |_=>Ã
noncomputable def wA(x:Ì):Bool:=!(x==("__debug__":Ì))&&!(x==("__classdict__":Ì))
def jn(C:SC)(x:Ì):Bool:=(match kd C x with
 |some .globalImplicit=>Â
 |_=>Ã)&&wA x
noncomputable def LX(C:SC)(j:Nat)(x:Ì)(n:Nat):Bool:=match C.ke[j]? with
 |some (.f y m)=>y==x&&m==n
 |_=>Ã
noncomputable def LU(C:SC)(j:Nat)(c m:Ì)(n:Nat):Bool:=match C.ke[j]? with
 |some (.m b a k)=>b==c&&a==m&&k==n
 |_=>Ã
noncomputable def LV(C:SC)(j:Nat)(c:Ì)(n:Nat):Bool:=match C.ke[j]? with
 |some (.k a k)=>a==c&&k==n
 |_=>Ã
noncomputable def bnames:List Ì:=["len","sum","all","any","abs","min","max","int","tuple","range","zip","enumerate","list","isinstance","bool","str","sorted"]
noncomputable def IY:List (Ì×Bi):=[("len",.len)
 ,("sum",.sum)
 ,("abs",.abs)
 ,("min",.min)
 ,("max",.max)
 ,("int",.int)
 ]
noncomputable def HL:List (Ì×Mi):=[("append",.app)
 ,("pop",.pop)
 ,("extend",.ext)
 ,("count",.cnt)
 ]
noncomputable def Bi.nm:Bi->Ì
 |.len=>"len"
 |.sum=>"sum"
 |.abs=>"abs"
 |.min=>"min"
 |.max=>"max"
 |.int=>"int"
noncomputable def Mi.nm:Mi->Ì
 |.app=>"append"
 |.pop=>"pop"
 |.ext=>"extend"
 |.cnt=>"count"
noncomputable def FT:List (Ì×String):=[("int","int"),("bool","bool"),("list","list"),("tuple","tuple"),("str","str")]
noncomputable def BV(sc:ĝ):List Ì:=(sc.names.filter fun p=>(match p.2 with|.local=>Â|.cell=>Â|_=>Ã)&&!(p.1==(".0":Ì))).map (·.1)
noncomputable def uz(sc:ĝ)(x:Ì):Bool:=match sc.names.lookup x with
 |some .free=>Â
 |_=>Ã
noncomputable def Iq(k:Bool)(x:Ì):Ì:=match k with
 |true=>x++("!":Ì)
 |false=>""
def fF(C:SC)(sc:ĝ):List Ì:=(C.N.map fun x=>if uz sc x=Â then x else Iq C.ck x)++BV sc
noncomputable def L1:Ŷ->Bool
 |.free=>Â
 |_=>Ã
noncomputable def Dr:Option Ŷ->Bool
 |some .cell=>Â
 |_=>Ã
noncomputable def vI{α:Type}(k:Bool)(x:List α):List α:=match k with
 |true=>x
 |false=>[]
@[reducible] def blk(C:SC)(sc:ĝ):SC:={ C with N:=fF C sc,nm:=vI C.ck (sc.names.map fun p=>if(L1 p.2&&Dr (kd C p.1))=Â then(p.1,.cell) else(p.1,p.2)),cf:=vI C.ck ((sc.names.filter fun p=>Dr (À p.2)).map (·.1)),la:=[] }
def vo(C:SC)(sc:ĝ):Bool :=
 (match sc.kind with|.function=>Â|_=>Ã)&&decide (sc.names.map (·.1)).Nodup&&decide (fF C sc).Nodup &&
 (sc.names.all fun p=>match p.2 with|.free=>(match kd C p.1 with|some .cell=>Â|some .free=>Â|_=>Ã)|_=>Â) &&
 ((Æ C.N.length).all fun i=>match (fF C sc)[i]? with
  |some x=>(match sc.names.lookup x with
   |some .free=>decide (C.N[i]?=À x)
   |some _=>Ã
   |none=>Â)
  |none=>Ã)
mutual
noncomputable def qK(n:Nat):Tg->Bool
 |.nm k=>å n k
 |.tu _ ts=>sX n ts
 |.su _ _=>Ã
noncomputable def sX(n:Nat):Tgs->Bool
 |.nil=>Â
 |.cons t ts=>qK n t&&sX n ts
end
@[reducible] def Ic(C:SC)(sc:ĝ):SC:={ C with N:=fF C sc,nm:=vI C.ck sc.names,cf:=[],ke:=[],la:=[] }
noncomputable def NN(C:SC)(p:ę):Bool:=C.la.any fun q=>q.line==p.line&&q.col==p.col&&q.endLine==p.endLine&&q.endCol==p.endCol
def Cf(C:SC)(sc:ĝ)(ps:ϩ):Bool:=vo C sc&&!sc.isCoroutine&&!sc.isGenerator&&plainA ps&&ps.defaults.isEmpty&&ps.kw_defaults.isEmpty &&
 (match BV sc,ps.args.map (·.arg) with
  |[x],[y]=>x==y&&(match sc.names.lookup x with|some .local=>Â|_=>Ã)
  |_,_=>Ã)&&sc.names.all fun p=>!(Dr (À p.2))
noncomputable def nA:Ex->Bool
 |.v _=>Â
 |.i _=>Â
 |.ix a b=>nA a&&nA b
 |.fd _ _ o=>nA o
 |_=>Ã
theorem oi{P:Prop}(h:Ã=Â):P:=nomatch h
theorem bA{α:Type}{P:Prop}{m:α}(h:Á=À m):P:=nomatch h
theorem eE{a b:Bool}{P:Prop}(h:(a&&b)=Â)(H:a=Â->b=Â->P):P:=by cases a;exact oi h;exact H rfl h
theorem ka{a b c:Bool}{P:Prop}(h:(a&&b&&c)=Â)(H:a=Â->b=Â->c=Â->P):P:=eE h fun x y=>eE x fun e d=>H e d y
theorem oG{a b c d:Bool}{P:Prop}(h:(a&&b&&c&&d)=Â)(H:a=Â->b=Â->c=Â->d=Â->P):P:=eE h fun x y=>ka x fun g f e=>H g f e y
section
variable{α β γ δ ε:Type}
noncomputable def gu(k c:Bool)(x:Option α):Option α:=match k with
 |false=>x
 |true=>if c=Â then x else Á
noncomputable def m2(f:α->β->γ)(x:Option α)(y:Option β):Option γ:=x.bind fun a=>y.map (f a)
def m3(f:α->β->γ->δ)(x:Option α)(y:Option β)(z:Option γ):Option δ:=x.bind fun a=>m2 (f a) y z
theorem aL{k c:Bool}{x:Option α}{m:α}{P:Prop}(a:k=Â)(h:gu k c x=À m)(H:c=Â->x=À m->P):P:=by
 subst a;cases c
 ·exact bA h
 ·exact H rfl h
@[elab_as_elim] theorem cP{f:α->β}{x:Option α}{m:β}{P:β->Prop}(h:x.map f=À m)(H:∀a,x=À a->P (f a)):P m:=by
 cases x with
 |none=>exact bA h
 |some a=>cases h;exact H a rfl
@[elab_as_elim] theorem ci{f:α->β->γ}{x:Option α}{y:Option β}{m:γ}{P:γ->Prop}(h:m2 f x y=À m)(H:∀a b,x=À a->y=À b->P (f a b)):P m:=by
 cases x with
 |none=>exact bA h
 |some a=>exact cP h fun b c=>H a b rfl c
@[elab_as_elim] theorem nE{f:α->β->γ->δ}{x:Option α}{y:Option β}{z:Option γ}{m:δ}{P:δ->Prop}(h:m3 f x y z=À m)(H:∀a b c,x=À a->y=À b->z=À c->P (f a b c)):P m:=by
 cases x with
 |none=>exact bA h
 |some a=>exact ci h fun b c e d=>H a b c rfl e d
theorem fq{x:Option α}{f:α->Option β}{m:β}{P:Prop}(h:x.bind f=À m)(H:∀a,x=À a->f a=À m->P):P:=by
 cases x with
 |none=>exact bA h
 |some a=>exact H a rfl h
noncomputable def at_(x:Ì):List Ì->Nat->Option Nat
 |[],_=>Á
 |y::l,k=>if(y==x)=Â then À k else at_ x l (k+1)
theorem Dv{x:Ì}:∀{l:List Ì}{k j:Nat},at_ x l k=À j->∃i,j=k+i/\l[i]?=À x
 |[],_,_,h=>bA h
 |y::l,k,j,h=>by
  unfold at_ at h;split at h
  ·rename_i e;cases h;exact⟨0,rfl,by rw[yJ e];rfl⟩
  ·obtain⟨i,e1,e2⟩:=Dv h
   exact⟨i+1,by lia,e2⟩
theorem xV{x:Ì}{l:List Ì}{j:Nat}(h:at_ x l 0=À j):l[j]?=À x:=by
 obtain⟨i,e,h⟩:=Dv h;rw[e,Nat.zero_add];exact h
noncomputable def lk(x:Ì):List (Ì×α)->Option α
 |[]=>Á
 |p::l=>if(p.1==x)=Â then À p.2 else lk x l
theorem pV{x:Ì}{v:α}:∀{l:List (Ì×α)},lk x l=À v->(x,v)∈l
 |[],h=>bA h
 |p::l,h=>by
  unfold lk at h;split at h
  ·rename_i e;cases h;rw[<- yJ e];exact z7
  ·exact zQ _ (pV h)
def vh(f:Ì):List (Ì×List Ì)->Option Ì
 |[]=>Á
 |p::l=>match at_ f p.2 0 with
  |some _=>À p.1
  |none=>vh f l
theorem AL{f c:Ì}:∀{l:List (Ì×List Ì)},vh f l=À c->∃fs,(c,fs)∈l/\f∈fs
 |[],h=>bA h
 |p::l,h=>by
  unfold vh at h;split at h
  ·rename_i e;cases h;exact⟨p.2,z7,zW (xV e)⟩
  ·obtain⟨fs,h1,h2⟩:=AL h
   exact⟨fs,zQ _ h1,h2⟩
noncomputable def B3(n:Nat):List Nat->Bool
 |[]=>Ã
 |m::l=>(m==n)||B3 n l
def hB(C:SC)(p:ę)(k:Nat):Bool:=B3 (((p.line*1000+p.col)*1000+p.endCol)*8+k) C.hs
end
noncomputable def nmO:Í->Option Ì
 |.Name x _=>À x
 |_=>Á
theorem t9{e:Í}(h:nmO e=À x):∃p,e=.Name x p:=by
 cases e with
 |Name y p=>cases h;exact⟨p,rfl⟩
 |_=>exact bA h
noncomputable def lsO:Í->Option (List Í)
 |.List es _=>À es
 |_=>Á
theorem HW{e:Í}(h:lsO e=À es):∃p,e=.List es p:=by
 cases e with
 |List y p=>cases h;exact⟨p,rfl⟩
 |_=>exact bA h
noncomputable def cN:Í->Bool
 |.Constant .none _ _=>Â
 |_=>Ã
theorem Ds{e:Í}(h:cN e=Â):∃a p,e=.Constant .none a p:=by
 cases e with
 |Constant c a p=>cases c with
  |none=>exact⟨a,p,rfl⟩
  |_=>exact oi h
 |_=>exact oi h
noncomputable def kX:Const->Option Ex
 |.none=>À .n
 |.bool b=>À (.b b)
 |.int i=>À (.i i)
 |.str s=>À (.s s)
 |_=>Á
structure Tr where
 E:SC->Í->Option Ex
 T:SC->Í->Option Tx
 G:SC->Í->Option Tg
 S:SC->ĺ->Option Sx
def CM(C:SC)(x:Ì):Option Ex:=match at_ x C.N 0 with
 |some k=>gu C.ck (Be C x&&wA x) (À (.v k))
 |none=>(lk x C.gs).bind fun c=>gu C.ck (jn C x&&(rW c).isSome) (À (.g x c))
section
variable(r:Tr)(C:SC)
def lU:List Í->Option Exs
 |[]=>À .nil
 |e::es=>gu C.ck (bW e) (m2 .cons (r.E C e) (lU es))
noncomputable def trO:Option Í->Option Ox
 |none=>À .no
 |some e=>(r.E C e).map .so
def wT:List Í->Option Tgs
 |[]=>À .nil
 |e::es=>gu C.ck (bW e) (m2 .cons (r.G C e) (wT es))
def pB:List ĺ->Option Pq
 |[]=>À .nil
 |s::ss=>m2 .cons (r.S C s) (pB ss)
noncomputable def L7:H!->Ex->Ex->Ex
 |.And=>.an
 |.Or=>.or
noncomputable def L6:H!->Tx->Tx->Tx
 |.And=>.an
 |.Or=>.or
def wV(o:H!):List Í->Option Ex
 |[]=>Á
 |[x]=>r.E C x
 |x::y::es=>m2 (L7 o) (r.E C x) (wV o (y::es))
def wU(o:H!):List Í->Option Tx
 |[]=>Á
 |[x]=>r.T C x
 |x::y::es=>m2 (L6 o) (r.T C x) (wU o (y::es))
noncomputable def trC:List Í->Option Cx'
 |[]=>À .no
 |[e]=>(r.T C e).map .so
 |_=>Á
def trR(es:List Í):Option Ix:=match es with
 |[a]=>(r.E C a).map .r1
 |[a,b]=>m2 .r2 (r.E C a) (r.E C b)
 |_=>Á
def trZ(es:List Í):Option Ix:=match es with
 |[a,b]=>m2 .zi (r.E C a) (r.E C b)
 |_=>Á
def trEn(a:Í)(kws:List ő):Option Ix:=match kws with
 |[]=>(r.E C a).map .en
 |[⟨À y,b,_⟩]=>gu C.ck (y==("start":Ì)) (m2 .es (r.E C a) (r.E C b))
 |_=>Á
def trIc(t e:Í)(es:List Í)(kws:List ő)(o:Option Ì):Option Ix:=match o with
 |some x =>
  if(x==("range":Ì))=Â then gu C.ck (jn C "range"&&kws.isEmpty&&es.all bW) (trR r C es)
  else if(x==("zip":Ì))=Â then gu C.ck (jn C "zip"&&kws.isEmpty&&es.all bW&&!ud t) (trZ r C es)
  else if(x==("enumerate":Ì))=Â then gu C.ck (jn C "enumerate"&&es.all bW&&!ud t) (match es with
   |[a]=>trEn r C a kws
   |_=>Á)
  else(r.E C e).map .e
 |none=>(r.E C e).map .e
def trI(t e:Í):Option Ix:=match e with
 |.Call f es kws _=>trIc r C t e es kws (nmO f)
 |_=>(r.E C e).map .e
def trL(elt:Í)(gens:List Comprehension)(sc:ĝ):Option Nx:=match gens with
 |[⟨t,it,cs,i⟩]=>gu C.ck (vo C sc&&(i==0)&&BY it) ((trI r C t it).bind fun x=>(r.G (blk C sc) t).bind fun g=>gu C.ck (qK C.N.length g) (m2 (.lc ((fF C sc).length-C.N.length) x g) (trC r (blk C sc) cs) (r.E (blk C sc) elt)))
 |_=>Á
def trLr(p:ę)(es:List Í):Option Ex:=match es with
 |[a]=>(r.E C a).map fun a=>.nw (hB C p 0) (.lr1 a)
 |[a,b]=>m2 (fun a b=>.nw (hB C p 0) (.lr2 a b)) (r.E C a) (r.E C b)
 |_=>Á
def trLf(p:ę)(a:Í):Option Ex:=match a with
 |.Call f es kws _=>gu C.ck ((match nmO f with|some y=>y==("range":Ì)|none=>Ã)&&kws.isEmpty&&jn C "range"&&es.all bW) (trLr r C p es)
 |a=>(r.E C a).map fun a=>.nw (hB C p 0) (.lof a)
def trF1(x:Ì)(p:ę)(es:List Í):Option Ex:=match es with
 |[a] =>
  gu C.ck (x==("list":Ì)&&jn C "list"&&bW a) (trLf r C p a)
 |[a,b]=>gu C.ck (x==("isinstance":Ì)&&jn C "isinstance"&&bW a) ((nmO b).bind fun y=>(lk y FT).bind fun T=>gu C.ck (jn C y) ((r.E C a).map (.is T)))
 |_=>Á
def Bj(x:Ì)(es:List Í)(p:ę)(j:Nat)(o:Option (List Ì)):Option Ex:=match o with
 |some _=>gu C.ck (LV C j x (es.length+1)&&jn C x&&!es.isEmpty&&es.all bW) ((lU r C es).map (.ne x j))
 |_=>gu C.ck (LX C j x es.length&&jn C x&&es.all bW) ((lU r C es).map (.ca (!hB C p 6) j))
def Bk(x:Ì)(es:List Í)(p:ę)(o:Option Bi):Option Ex:=match o with
 |some b=>gu C.ck (jn C x&&!es.isEmpty&&es.all bW) ((lU r C es).map (.bi b))
 |none=>trF1 r C x p es
def CO(x:Ì)(es:List Í)(p:ę):Option Ex:=match at_ x C.cn 0 with
 |some j=>Bj r C x es p j (lk x C.cl)
 |none=>Bk r C x es p (lk x IY)
def trK(x:Ì)(es:List Í)(kws:List ő):Option Ex:=match es with
 |[a]=>(match kws with
  |[⟨À y,d,_⟩]=>gu C.ck (x==("min":Ì)&&y==("default":Ì)&&cN d&&(jn C "min"&&bW a)) ((r.E C a).map .mnd)
  |[⟨À y,.Lambda ps body sc lp,_⟩,⟨À z,d,_⟩]=>gu C.ck (x==("min":Ì)&&y==("key":Ì)&&z==("default":Ì)&&(cN d&&jn C "min"&&bW a&&(NN C lp&&Cf C sc ps))) ((r.E C a).bind fun a=>(r.E (Ic C sc) body).bind fun b=>gu C.ck (nA b) (À (.mnk a b)))
  |_=>Á)
 |_=>Á
noncomputable def miA(q:Mi)(es:List Í):Mi:=match q,es with
 |q,_=>q
def F1(o:Í)(m:Ì)(a:ę)(es:List Í)(p:ę):Option Ex:=gu C.ck (es.all bW&&Nat.blt es.length 30&&qP o&&(a.endLine==p.line)) (match at_ m C.cn 0 with
 |some j=>C.cl.head?.bind fun q=>gu C.ck (LU C j q.1 m (es.length+1)) (m2 (.me q.1 m j) (r.E C o) (lU r C es))
 |none=>(lk m HL).bind fun q=>m2 (.mt (miA q es)) (r.E C o) (lU r C es))
def trSl(a:Í)(l h st:Option Í)(p:ę):Option Ex:=match st with
 |none =>
  m3 (fun a l h=>.nw (hB C p 0) (.sl a l h)) (r.E C a) (trO r C l) (trO r C h)
 |some _=>Á
def trCe(a:Í)(c:List ϣ)(bs:List Í):Option Ex:=match c with
 |[o]=>(match bs with
  |[b]=>gu C.ck (nD o b) (m2 (.cmp o) (r.E C a) (r.E C b))
  |_=>Á)
 |_=>Á
def trCt(a:Í)(c:List ϣ)(bs:List Í):Option Tx:=match c with
 |[o]=>(match bs with
  |[b]=>gu C.ck (nD o b) (m2 (.cmp o) (r.E C a) (r.E C b))
  |_=>Á)
 |_=>Á
def trE(e:Í):Option Ex:=match e with
 |.Constant k _ _=>kX k
 |.Name x _=>CM C x
 |.BinOp a o b p =>
  if hB C p 1=Â then gu C.ck (decide (o=.Add)) (m2 (fun x y=>.nw (hB C p 0) (.cat x y)) (r.E C a) (r.E C b)) else
  (match lsO a with
  |some d=>gu C.ck (decide (o=.Mult)) (m2 (fun x y=>.nw (hB C p 0) (.rep x y)) (lU r C d) (r.E C b))
  |none=>m2 (.bin o) (r.E C a) (r.E C b))
 |.Compare a os bs _=>trCe r C a os bs
 |.UnaryOp o a _=>(match o with
  |.Not=>(r.E C a).map .no
  |o=>(r.E C a).map (.un o))
 |.BoolOp o d _=>wV r C o d
 |.IfExp t a b _=>m3 .ife (r.T C t) (r.E C a) (r.E C b)
 |.Subscript a i p=>(match i with
  |.Slice l h st _=>trSl r C a l h st p
  |i=>gu C.ck (kQ i) (m2 .ix (r.E C a) (r.E C i)))
 |.Tuple d _ _=>(lU r C d).map .tu
 |.List d p=>(lU r C d).map fun x=>.nw (hB C p 0) (.li x)
 |.ListComp elt gens sc p=>(trL r C elt gens sc).map fun x=>.nw (hB C p 0) x
 |.Dict ks vs _=>gu C.ck (ks.isEmpty&&vs.isEmpty) (À .dn)
 |.Attribute o f _=>(vh f C.cl).bind fun c=>gu C.ck (qP o) ((r.E C o).map (.fd c f))
 |.Call f d kws p=>(match f with
  |.Name x _=>(match kws with
   |[]=>CO r C x d p
   |kws=>trK r C x d kws)
  |.Attribute o m ap=>gu C.ck kws.isEmpty (F1 r C o m ap d p)
  |_=>Á)
 |_=>Á
def trT(e:Í):Option Tx:=match e with
 |.UnaryOp o a p=>(match o with
  |.Not=>(r.T C a).map .no
  |o=>(r.E C (.UnaryOp o a p)).map .va)
 |.BoolOp o es _=>wU r C o es
 |.Compare a os bs _=>trCt r C a os bs
 |e=>gu C.ck (zl e) ((r.E C e).map .va)
def qH(x:Ì):Option Tg:=(at_ x C.N 0).bind fun k=>gu C.ck (B8 C x&&wA x) (À (.nm k))
def trG(e:Í):Option Tg:=match e with
 |.Name x _=>qH C x
 |.Tuple es _ _=>gu C.ck (es.all bW) ((wT r C es).map (.tu es.length))
 |.Subscript a b _=>gu C.ck (kQ b) (m2 .su (r.E C a) (r.E C b))
 |_=>Á
def um(C:SC)(x:Ì):Bool:=match kd C x with
 |some .local=>Â
 |_=>Ã
def NM(C:SC):Í->Bool
 |.Name x _=>!um C x
 |_=>Â
noncomputable def L5:Í->Bool
 |.Constant ..=>Â
 |_=>Ã
def wS(ts vs:List Í)(k a:Nat)(p q:ę):Option Sx:=gu C.ck (vs.all L5||ts.any (NM C)) (m2 .as (r.E C (.Tuple vs a q)) (r.G C (.Tuple ts k p)))
def CN(ts vs:List Í):Option Sx:=match ts with
 |[.Name x px,.Name y py]=>(match vs with
  |[a,b]=>(at_ x C.N 0).bind fun i=>(at_ y C.N 0).bind fun j=>gu C.ck (um C x&&um C y&&(wA x&&wA y)&&(bW a&&bW b&&(px.line==py.line)&&(!(x==y)&&!([a,b].all (M! 8))&&!([a,b].all (constantsAlone 8))))) (m2 (.pa i j) (r.E C a) (r.E C b))
  |_=>Á)
 |_=>Á
def trAn(x:Ì)(v:Í):Option Sx:=match v with
 |.ListComp elt gens sc q=>m2 .as ((trL r C elt gens sc).map fun x=>.nw (hB C q 0) x) (qH C x)
 |v=>gu C.ck (pQ v) (m2 .as (r.E C v) (qH C x))
def trAs(t v:Í):Option Sx:=match t with
 |.Attribute o f _=>(vh f C.cl).bind fun c=>m2 (.fl c f) (r.E C o) (r.E C v)
 |.Name x _=>trAn r C x v
 |.Subscript a b p=>m2 .as (r.E C v) (r.G C (.Subscript a b p))
 |.Tuple ts k p=>(match v with
  |.Tuple vs kq q=>if hB C q 5=Â then wS r C ts vs k kq p q else CN r C ts vs
  |v=>gu C.ck (ud v&&pQ v) (m2 .as (r.E C v) (r.G C (.Tuple ts k p))))
 |_=>Á
def trS(s:ĺ):Option Sx:=match s with
 |.Expr e _=>gu C.ck (pQ e) ((r.E C e).map .ex)
 |.Assign ts v _=>(match ts with
  |[t]=>trAs r C t v
  |_=>Á)
 |.AugAssign t o v _=>(match t with
  |.Subscript a b _=>gu C.ck (kQ b) (m3 (.aus o) (r.E C a) (r.E C b) (r.E C v))
  |_=>Á)
 |.Return e _=>(match e with
  |none=>Á
  |some e=>(r.E C e).map .rt)
 |.If t a b _=>m3 .iff (r.T C t) (pB r C a) (pB r C b)
 |.For t it b els p=>gu C.ck (els.isEmpty&&BY it) (
  if hB C p 4=Â then m3 .fd (r.E C it) (r.G C t) (pB r C b) else
  m3 .fo (trI r C t it) (r.G C t) (pB r C b))
 |.While t b els _=>gu C.ck els.isEmpty (m2 .wh (r.T C t) (pB r C b))
 |.Raise _ _ _=>À .dead
 |_=>Á
end
theorem Ir{α:Type}{c:Bool}{x:Option α}:gu Ã c x=x:=rfl
theorem E5{a b:String}(h:Ā a=Ā b):a=b:=by
 rw[Str.ofString_eq_byList]at h;have h:=congrArg (fun x=>x.cps.toList) h;exact String.toList_inj.mp (List.map_inj_right (fun x y e=>Char.toNat_inj.mp e) |>.mp h)
theorem Hz{a b:String}:(Ā a==Ā b)=decide (a=b):=by
 by_cases h:a=b
 ·subst h;simp
 ·rw[z9 h]
  exact beq_eq_false_iff_ne.mpr fun e=>h (E5 e)
def tr:Nat->Tr
 |0=>⟨fun _ _=>Á,fun _ _=>Á,fun _ _=>Á,fun _ _=>Á⟩
 |n+1=>⟨trE (tr n),trT (tr n),trG (tr n),trS (tr n)⟩
section
variable{n:Nat}
theorem Mq:(tr (n+1)).E=trE (tr n):=rfl
theorem Mn:(tr (n+1)).T=trT (tr n):=rfl
theorem Mp:(tr (n+1)).G=trG (tr n):=rfl
theorem Mo:(tr (n+1)).S=trS (tr n):=rfl
end
theorem uS:type_of% @trS.eq_def:=@trS.eq_def
theorem uE:type_of% @trE.eq_def:=@trE.eq_def
theorem uT:type_of% @trT.eq_def:=@trT.eq_def
theorem uG:type_of% @trG.eq_def:=@trG.eq_def
theorem Nz:type_of% @trAs.eq_def:=@trAs.eq_def
theorem NA:type_of% @trAn.eq_def:=@trAn.eq_def
theorem uK:type_of% @trK.eq_def:=@trK.eq_def
theorem Ny:type_of% @trCe.eq_def:=@trCe.eq_def
theorem Nw:type_of% @trCt.eq_def:=@trCt.eq_def
theorem uI:type_of% @trI.eq_def:=@trI.eq_def
theorem Nt:type_of% @trIc.eq_def:=@trIc.eq_def
theorem Np:type_of% @trSl.eq_def:=@trSl.eq_def
theorem uL:type_of% @trL.eq_def:=@trL.eq_def
theorem Nv:type_of% @trEn.eq_def:=@trEn.eq_def
theorem uR:type_of% @trR.eq_def:=@trR.eq_def
theorem uZ:type_of% @trZ.eq_def:=@trZ.eq_def
theorem Nu:type_of% @trF1.eq_def:=@trF1.eq_def
theorem Nr:type_of% @trLf.eq_def:=@trLf.eq_def
theorem Nq:type_of% @trLr.eq_def:=@trLr.eq_def
theorem uO:type_of% @trO.eq_def:=@trO.eq_def
theorem uC:type_of% @trC.eq_def:=@trC.eq_def
theorem uX:type_of% @kX.eq_def:=@kX.eq_def
theorem uM:type_of% @nmO.eq_def:=@nmO.eq_def
theorem uN:type_of% @lsO.eq_def:=@lsO.eq_def
theorem uP:type_of% @miA.eq_def:=@miA.eq_def
def Jl[Pf](P:Ò)(w:à)(K:á)(mg:Ì->Option Å)(base:é)(A:ą)(fn:Fn):Ke->Prop
 |.f x n=>∃d f fd ps,ps.length=n/\FnOk P w K mg base fQ d f fd ps (eG ⟨K,mg⟩ ps.length fn)/\Room d A/\mg x=À (.ref f)/\Ķ K (.ref f)=Â/\Binds K fd ps []
 |.m c m n=>∃d f fd ps C,ps.length=n/\FnOk P w K mg base fQ d f fd ps (eG ⟨K,mg⟩ ps.length fn)/\Room d A/\mg c=À (.ref C)/\Cls K C/\lR K C m f/\Binds K fd ps []
 |.k c n=>∃d f fd ps C,ps.length=n/\FnOk P w K mg base fQ d f fd ps (eG ⟨K,mg⟩ ps.length fn)/\Room (d+1) A/\mg c=À (.ref C)/\Mk K C f/\Binds K fd ps []
structure Fit[Pf](X:Cx)(C:SC)(ks:List Fn):Prop where
 N:X.N=C.N
 ck:C.ck=Â
 nm:X.env.scope.names=C.nm
 nd:C.N.Nodup
 kind:X.env.scope.kind=.function
 calm:X.calm=Â
 cf:∀x∈C.cf,X.fn x=Â
 hu:X.A.units+64<Š
 gd:X.A.guards=À []
 bl:∀x∈bnames,X.mg x=Á
 po:Ϧ (model X.prog X.w) X.A X.env X.xe
 ke:∀(j:Nat) k,C.ke[j]?=À k->Jl X.prog X.w X.K X.mg X.base X.A (kf ks j) k
 gs:∀p∈C.gs,∀w,rW p.2=À w->∃u,X.mg p.1=À u/\RelV w u
 cl:∀p∈C.cl,∃Ca,X.mg p.1=À (.ref Ca)/\Cls X.K Ca/\∀f∈p.2,NoAttr X.K Ca f
 la:∀p∈C.la,Room 2 X.A/\∃c P,X.env.code=.ref c/\W3 X.base c P/\kn X.mg X.base/\(P,p,X.env.qual++"<lambda>")∈Pf.tb/\∀t∈Pf.tb,t.1=P->t=(P,p,X.env.qual++"<lambda>")
section
variable{X:Cx}{C:SC}{ks:List Fn}
theorem Fit.kdO[Pf](F:Fit X C ks)(x:Ì):X.env.kindOf x=kd C x:=by unfold kd;rw[<- F.nm];rfl
theorem Fit.vis[Pf](F:Fit X C ks)(h:Be C x=Â):AU X.env.scope x:=by
 unfold Be kd at h;rw[<- F.nm]at h;unfold AU;split at h
 ·rename_i e;exact .inl e
 ·rename_i e;exact .inr (.inl e)
 ·rename_i e;exact .inr (.inr e)
 ·cases h
theorem Fit.loc[Pf](F:Fit X C ks)(h:B8 C x=Â):L2.Loc X.env.scope x/\(X.fn x=Â\/X.env.scope.names.lookup x=À .local):=by
 unfold B8 kd at h;rw[<- F.nm]at h;unfold L2.Loc;split at h
 ·rename_i e;exact⟨.inl e,.inr e⟩
 ·rename_i e;exact⟨.inr e,.inl (F.cf x (by simpa using h))⟩
 ·cases h
theorem u9(h:wA x=Â):(x==("__debug__":Ì))=Ã/\(x==("__classdict__":Ì))=Ã:=eE h fun b a=>⟨by simpa using b,by simpa using a⟩
theorem Fit.gl[Pf](F:Fit X C ks)(h:jn C x=Â):Gl X x/\(x==("__debug__":Ì))=Ã:=by
 unfold jn at h;refine eE h fun a b=>⟨?_,(u9 b).1⟩
 unfold Gl;rw[F.kdO];split at a
 ·rename_i e;exact e
 ·cases a
theorem Fit.nmb[Pf](F:Fit X C ks){k:Nat}(h:at_ x C.N 0=À k):X.N[k]?=À x:=by rw[F.N];exact xV h
theorem Fit.clb[Pf](F:Fit X C ks){c f:Ì}(h:vh f C.cl=À c):∃Ca,X.mg c=À (.ref Ca)/\Cls X.K Ca/\NoAttr X.K Ca f:=by
 obtain⟨fs,g,e⟩:=AL h;obtain⟨Ca,a,b,d⟩:=F.cl _ g;exact⟨Ca,a,b,d f e⟩
theorem Fit.blt[Pf](F:Fit X C ks)(h:x∈bnames):X.mg x=Á:=F.bl x h
theorem II(b:Ŷ):L1 b=(b==Ý):=by cases b<;>rfl
theorem IW(o:Option Ŷ):Dr o=(o==À Ě):=by
 cases o with
 |none=>rfl
 |some k=>cases k<;>rfl
theorem Fit.blk[Pf](F:Fit X C ks)(h:vo C sc=Â):kJ X (fF C sc) sc/\∀cl s H fp Pc,Fit (cY X (fF C sc) sc cl s H fp Pc) (R.blk C sc) ks:=by
 unfold vo at h;simp only[zC,yB]at h;obtain⟨⟨⟨⟨u,r⟩,z⟩,y⟩,w⟩:=h;have t:sc.kind=.function:=by
  split at u
  ·rename_i e;exact e
  ·cases u
 have j:C.N.length<=(fF C sc).length:=by unfold fF;rw[zV,zH];lia
 have l:∀x,(x,Ý)∈sc.names->X.env.kindOf x=À .cell\/X.env.kindOf x=À .free:=fun x f=>by
  have:=yQ.mp y _ f
  simp only at this;rw[F.kdO];split at this
  ·rename_i e;exact .inl e
  ·rename_i e;exact .inr e
  ·cases this
 have m:∀i x,i<X.N.length->(fF C sc)[i]?=À x->(∀k,(x,k)∈sc.names->k=.free/\X.N[i]?=À x):=fun i x d e k c=>by
  rw[F.N]at d ⊢
  have:=yQ.mp w i (Ó.mpr d)
  rw [e] at this;simp only at this;have v:=dJ r c;rw [v] at this;cases k <;> simp only at this <;> first | (cases this;done) | exact ⟨rfl,of_decide_eq_true this⟩
 refine ⟨⟨t,r,by rw [F.N];exact j,l,fun i x d e c=>(m i x d e _ c).2,fun i x d e n=>by obtain ⟨k,c⟩:=n;have:=(m i x d e k c).1;subst this;exact c⟩,fun cl s H fp Pc=>?_⟩;refine ⟨rfl,F.ck,?_,z,t,F.calm,fun x f=>?_,F.hu,F.gd,F.bl,PassesOwn.never,F.ke,F.gs,F.cl,fun p q=>absurd (show p ∈ ([]:List ę) from q) (by simp)⟩
 ·show(relabel sc X.env).names=_
  unfold relabel R.blk;dsimp only;rw[F.kind,F.ck];apply Ř;intro p _;obtain⟨a,b⟩:=p;simp only[F.kdO,II,IW];simp
 ·unfold R.blk at f
  rw[F.ck]at f;obtain⟨p,q,e⟩:=yC.mp f;obtain⟨o,g⟩:=ć.mp q;obtain⟨a,b⟩:=p;dsimp only at e g;subst e;have:b=.cell:=by cases b<;>first|rfl|cases g
  subst this;show(sc.names.lookup a==À Ě)=Â;rw[dJ r o];rfl
end
section
variable{X:Cx}{C:SC}{ks:List Fn}
theorem Fit.lam[Pf](F:Fit X C ks)(n:Room 2 X.A)(h:Cf C sc ps=Â):∃x,yb X (fF C sc) sc x/\plainA ps=Â/\ps.args.map (·.arg)=[x]/\V6 ps X.env=([],[]) /\
  ∀cl f q cd s H,Fit (vd X (fF C sc) sc cl f q cd X.A.in1 s H) (Ic C sc) ks:=by
 unfold Cf at h;simp only[zC]at h;obtain⟨⟨⟨⟨⟨⟨⟨b,D⟩,B⟩,A⟩,z⟩,w⟩,a⟩,v⟩:=h;obtain⟨m,_⟩:=F.blk b;split at a
 ·rename_i x y ex E
  simp only[zC]at a;have g:=yJ a.1;subst g;have u:sc.names.lookup x=À .local:=by
   have:=a.2
   split at this
   ·rename_i e;exact e
   ·cases this
  have l:fF C sc=(C.N.map fun x=>if uz sc x=Â then x else Iq C.ck x)++[x]:=by unfold fF;rw[ex]
  refine⟨x,⟨m,by simpa using D,by simpa using B,by rw[l,F.N];simp,by rw[l,F.N];simp,u,fun y o e=>?_⟩,A,E,?_,fun cl f q cd s H=>?_⟩
  ·have:=yQ.mp v y o
   rw[e]at this;cases this
  ·obtain⟨a1,a2,N,M,K,L,J⟩:=ps
   have I:J=[]:=ê.mp z;have G:K=[]:=ê.mp w;subst I;subst G;rfl
  ·have c:(fF C sc).Nodup:=by
    unfold vo at b;simp only[zC,yB]at b;exact b.1.1.2
   have d:sc.kind=.function:=m.kind;have r1:Room 1 X.A.in1:=n.in1;have i:=Room.deeper r1 (V0 sc s.heap.objs.size Ï cl (q++".<locals>.") (À f) cd Á ė);refine ⟨rfl,F.ck,(by show _=vI C.ck sc.names;rw [F.ck];rfl),c,d,rfl,fun x r=>absurd (show x ∈ ([]:List Ì) from r) (by simp),i.units,i.gd,F.bl,PassesOwn.never,fun j k e=>absurd (show ([]:List Ke)[j]?=À k from e) (by simp),F.gs,F.cl,fun p t=>absurd (show p ∈ ([]:List ę) from t) (by simp)⟩
 ·cases a
end
mutual
theorem vO{n:Nat}:∀{t:Tg},qK n t=Â->qy n (cM ks t)
 |.nm k,h=>by
  simp only[qK]at h;have hk:=zS h;simp only[cM];intro x d c b a e;cases e;exact⟨Ĉ,fun j f=>ï oM⟩
 |.tu m ts,h=>by
  simp only[qK]at h;simp only[cM];intro x d c b a e;unfold Aw at e;split at e
  ·split at e
   ·exact oW h _ _ _ _ _ e
   ·cases e
  ·split at e
   ·split at e
    ·exact oW h _ _ _ _ _ e
    ·cases e
   ·cases e
 |.su _ _,h=>by simp only[qK]at h;cases h
theorem oW{n:Nat}:∀{ts:Tgs},sX n ts=Â->∀xs sl st sl' st',kE ks ts xs sl st=À (sl',st')->sl'.length=sl.length/\∀j,j<n->sl'[j]?=sl[j]?
 |.nil,_,xs,sl,st,sl',st',e=>by
  simp only[kE]at e;cases xs with
  |nil=>cases e;exact⟨rfl,fun _ _=>rfl⟩
  |cons _ _=>cases e
 |.cons t ts,h,xs,sl,st,sl',st',e=>by
  simp only[sX,zC]at h;simp only[kE]at e;cases xs with
  |nil=>cases e
  |cons x xs =>
   obtain⟨p,e1,e2⟩:=zA e;obtain⟨a1,a2⟩:=vO h.1 _ _ _ _ _ e1;obtain⟨c,b⟩:=oW h.2 _ _ _ _ _ e2;exact⟨c.trans a1,fun j a=>(b j a).trans (a2 j a)⟩
end
theorem nR{r:Tr}(b:C.ck=Â):∀{es:List Í}{as:Exs},lU r C es=À as->∀sl st xs st',fD ks as sl st=À (xs,st')->xs.length=es.length
 |[],as,h,sl,st,xs,st',e=>by cases h;cases e;rfl
 |x::es,as,h,sl,st,xs,st',e=>by
  refine aL b h fun _ h=>?_
  revert e
  refine ci h fun a as _ h2 e=>?_
  obtain⟨p,e1,e2⟩:=zA e;obtain⟨q,d,c⟩:=zA e2;cases c;rw[yX,yX,nR b h2 _ _ _ _ d]
theorem Lr:Õ "len"=À (.builtin "len"):=by decide +kernel
theorem Lm:Õ "sum"=À (.builtin "sum"):=by decide +kernel
theorem Lv:Õ "abs"=À (.builtin "abs"):=by decide +kernel
theorem Lp:Õ "min"=À (.builtin "min"):=by decide +kernel
theorem Lq:Õ "max"=À (.builtin "max"):=by decide +kernel
theorem Dt:Õ "int"=À (.type "int"):=by decide +kernel
theorem Ll:Õ "tuple"=À (.type "tuple"):=by decide +kernel
theorem Lu:Õ "isinstance"=À (.builtin "isinstance"):=by decide +kernel
theorem IZ:Õ "list"=À (.type "list"):=by decide +kernel
theorem Ja:Õ "bool"=À (.type "bool"):=by decide +kernel
theorem Lo:Õ "str"=À (.type "str"):=by decide +kernel
section
variable{X:Cx}{C:SC}{ks:List Fn}
theorem Lk[Pf](F:Fit X C ks)(b:Bi){e:Í}{es:List Í}{g:AF}{p pos:ę}(h:jn C b.nm=Â)(d:QA X (e::es) g)(f:(e::es).all bW=Â):QE X (.Call (.Name b.nm p) (e::es) [] pos) (vv (qt b) g):=by
 have gl:=F.gl h;rw[ķ,zC]at f;have c:=aF (env:=X.env) (es:=es) f.1;have a:=jB (env:=X.env) (pos:=pos) f.2;cases b with
 |len=>exact pH Lg gl.1 (F.blt dC) Lr d dC gl.2 c a
 |sum=>exact pH (Lc F.calm) gl.1 (F.blt dC) Lm d dC gl.2 c a
 |abs=>exact pH Li gl.1 (F.blt dC) Lv d dC gl.2 c a
 |min=>exact pH (Ld F.calm) gl.1 (F.blt dC) Lp d dC gl.2 c a
 |max=>exact pH (Lf F.calm) gl.1 (F.blt dC) Lq d dC gl.2 c a
 |int=>exact JP Lh gl.1 (F.blt dC) Dt d dC gl.2 c a
theorem Kg[Pf](F:Fit X C ks)(m:Mi){o:Í}{es:List Í}{f:EF}{g:AF}{n p:ę}(h:QE X o f)(k:QA X es g)(r:es=[]->g=fZ)(i:es.all bW=Â)(q:es.length<30)(l:qP o=Â)(b:(n.endLine==p.line)=Â) :
  QE X (.Call (.Attribute o m.nm n) es [] p) (mX (se m) (rZ m) f g):=by
 cases es with
 |nil =>
  have:=r rfl
  subst this;have a:=gY (env:=X.env) (f:=m.nm) (eval o X.env) l;cases m with
  |app=>exact pG æ e? d? Db h a b
  |pop=>exact pG æ l? l! C8 h a b
  |ext=>exact pG æ e! d! C9 h a b
  |cnt=>exact pG æ Ũ g? (Da F.hu) h a b
 |cons e es =>
  have a:=gY (env:=X.env) (f:=m.nm) (eval o X.env) l;have c:=L4 (env:=X.env) (cpos:=p) i q;rw[ķ,zC]at i;have j:=aF (env:=X.env) (es:=es) i.1;have d:=jB (env:=X.env) (pos:=p) i.2;cases m with
  |app=>exact sY æ e? d? Db h k a c b j d
  |pop=>exact sY æ l? l! C8 h k a c b j d
  |ext=>exact sY æ e! d! C9 h k a c b j d
  |cnt=>exact sY æ Ũ g? (Da F.hu) h k a c b j d
theorem Hc[Pf]{P:Ò}{w:à}{K:á}{mg:Ì->Option Å}{a:é}{k:Nat}{f:Ç}{fd:Ĕ}{ps:List Ì}{n:Nat}{fn:Fn}(b:Bool)(F:FnOk P w K mg a fQ k f fd ps (eG ⟨K,mg⟩ n fn)):FnOk P w K mg a fQ k f fd ps (eG ⟨K,mg⟩ n (lY b fn)):=by
 cases b
 ·exact F
 ·exact FnOk.pm F
end
theorem lE{ks:List Fn}:∀{e:Ex},nA e=Â->DF (ev ks e)
 |.v k,_=>fun sl st v st' e=>by
  have e:aV k sl st=À (v,st'):=e;unfold aV at e;split at e
  ·cases e;rfl
  ·cases e
 |.i k,_=>fun sl st v st' e=>by
  cases e;rfl
 |.ix a b,h=>fun sl st v st' e=>by
  refine eE h fun n m=>?_
  obtain⟨p,j,i⟩:=zA e;obtain⟨q,l,g⟩:=zA i;obtain⟨z,r,d⟩:=zE.mp g;cases d;rw[lE m _ _ _ _ l,lE n _ _ _ _ j]
 |.fd c f o,h=>fun sl st v st' e=>by
  obtain ⟨p,j,i⟩:=zA e;obtain ⟨q,l,g⟩:=zA i;obtain ⟨z,r,d⟩:=zE.mp g;cases d;rw [lE (show nA o=Â from h) _ _ _ _ j]
theorem Kk{α d c:Type}{f:α->d->c}{x:Option α}{y:Option d}{m:c}(h:m2 f x y=À m):∃a b,x=À a/\y=À b/\m=f a b:=ci h fun a b g e=>⟨a,b,g,e,rfl⟩
structure CD[Pf](r:Tr)(ks:List Fn):Prop where
 E:∀{X:Cx}{C:SC}{e:Í}{m:Ex},Fit X C ks->r.E C e=À m->QE X e (ev ks m)
 T:∀{X:Cx}{C:SC}{e:Í}{m:Tx},Fit X C ks->r.T C e=À m->QT X e (tv ks m)
 G:∀{X:Cx}{C:SC}{e:Í}{m:Tg},Fit X C ks->r.G C e=À m->QG X e (cM ks m)
 S:∀{X:Cx}{C:SC}{s:ĺ}{m:Sx},Fit X C ks->r.S C s=À m->QS X s (cV ks m)
section
variable[Pf]{ks:List Fn}{r:Tr}(R:CD r ks){X:Cx}{C:SC}(F:Fit X C ks)
include R F
theorem g6:∀{es:List Í}{m:Exs},lU r C es=À m->QA X es (fD ks m)
 |[],m,h=>by cases h;exact fy
 |e::es,m,h=>aL F.ck h fun h0 h=>ci h fun a as h1 h2=>dj (R.E F h1) (g6 h2) (aF h0)
theorem yp{e:Option Í}{m:Ox}(h:trO r C e=À m):QO X e (u5 ks m):=by
 cases e with
 |none=>cases h;exact Er
 |some e=>exact cP h fun a h=>Ep (R.E F h)
theorem jA:∀{ss:List ĺ}{m:Pq},pB r C ss=À m->oP X ss (af ks m)
 |[],m,h=>by cases h;exact Ek
 |s::ss,m,h=>ci h fun a as h1 h2=>BA (R.S F h1) (jA h2)
theorem vM:∀{es:List Í}{m:Tgs},wT r C es=À m->AY X es (kE ks m)
 |[],m,h=>by cases h;exact Ew
 |e::es,m,h=>aL F.ck h fun h0 h=>ci h fun a as h1 h2=>BC (R.G F h1) (vM h2) (Cn h0)
theorem qJ{o:H!}{p:ę}:∀{x:Í}{es:List Í}{m:Ex},wV r C o (x::es)=À m->QE X (.BoolOp o (x::es) p) (ev ks m)
 |x,[],m,h=>by cases o<;>exact Hl (R.E F h)
 |x,y::es,m,h=>ci h fun a b h1 h2=>by
  cases o
  ·exact G2 (R.E F h1) (qJ h2)
  ·exact JQ (R.E F h1) (qJ h2)
theorem qI{o:H!}{p:ę}:∀{x:Í}{es:List Í}{m:Tx},wU r C o (x::es)=À m->QW X (.BoolOp o (x::es) p) (tv ks m)
 |x,[],m,h=>Gy o (R.T F h)
 |x,y::es,m,h=>ci h fun a b h1 h2=>by
  cases o
  ·exact Gz (R.T F h1) (qI h2)
  ·exact JI (R.T F h1) (qI h2)
theorem F6{es:List Í}{m:Cx'}(h:trC r C es=À m):wF X es (j5 ks m):=by
 rcases es with _|⟨e,_|_⟩
 ·cases h;exact Eu
 ·exact cP h fun a h=>Et (R.T F h)
 ·exact bA h
omit R in
theorem FX{x:Ì}{p:ę}{m:Ex}(h:CM C x=À m):QE X (.Name x p) (ev ks m):=by
 unfold CM at h;split at h
 ·rename_i k g
  refine aL F.ck h fun e h=>eE e fun d a=>?_
  cases h;exact GR (F.nmb g) (F.vis d) (u9 a).1 (u9 a).2
 ·refine fq h fun c i h=>aL F.ck h fun e h=>eE e fun d a=>?_
  cases h;obtain⟨w,f⟩:=ĳ.mp a;obtain⟨u,b,j⟩:=F.gs _ (pV i) w f;obtain⟨g1,l⟩:=F.gl d;exact tU f (EY g1 b j l) fun _ _ _ h=>h
omit R F in
theorem yo{t:Í}(h:(!ud t)=Â):∃ts k p,t=.Tuple ts k p:=by
 cases t with
 |Tuple ts k p=>exact⟨ts,k,p,rfl⟩
 |_=>exact oi h
theorem yr{t e:Í}{m:Ix}(h:trI r C t e=À m):QI X t e (fj ks m):=by
 have s:∀{m},(r.E C e).map .e=À m->QI X t e (fj ks m):=fun h=>cP h fun a h=>MP (R.E F h)
 cases e with
 |Call f es kws p =>
  have h:trIc r C t _ es kws (nmO f)=À m:=h;cases i:nmO f with
  |none=>rw[i]at h;exact s h
  |some x =>
   rw[i]at h;obtain⟨q,rfl⟩:=t9 i;unfold trIc at h;split at h
   ·rename_i v
    rw[yJ v];refine aL F.ck h fun o g=>ka o fun n A j=>?_
    cases ê.mp A;rcases es with _|⟨a,_|⟨b,_|⟨c,_|_⟩⟩⟩
    ·exact bA g
    ·refine eE j fun l _=>?_
     exact cP g fun x i=>JM (F.gl n).1 (F.blt dC) (R.E F i) (aF l)
    ·refine eE j fun l j=>eE j fun w _=>?_
     exact ci g fun x y i u=>JL (F.gl n).1 (F.blt dC) (R.E F i) (R.E F u) (by rw[aF l,aF w];rfl) (aF w)
    all_goals exact bA g
   ·split at h
    ·rename_i v
     rw[yJ v];refine aL F.ck h fun o g=>oG o fun n A j z=>?_
     cases ê.mp A;obtain⟨B,k,tp,rfl⟩:=yo z;rcases es with _|⟨a,_|⟨b,_|⟨c,_|⟨d,_|_⟩⟩⟩⟩
     ·exact bA g
     ·exact bA g
     ·refine eE j fun l j=>eE j fun w _=>?_
      exact ci g fun x y i u=>GN (F.gl n).1 (F.blt dC) (R.E F i) (R.E F u) (by rw[aF l,aF w];rfl) (aF w)
     ·exact bA g
     all_goals exact bA g
    ·split at h
     ·rename_i v
      rw[yJ v];refine aL F.ck h fun o g=>ka o fun n j z=>?_
      obtain⟨B,k,tp,rfl⟩:=yo z;rcases es with _|⟨a,_|_⟩
      ·exact bA g
      ·refine eE j fun l _=>?_
       unfold trEn at g;dsimp only at g;split at g
       ·exact cP g fun x i=>JN (F.gl n).1 (F.blt dC) (R.E F i) (aF l)
       ·refine aL F.ck g fun o g=>?_
        rw[yJ o];exact ci g fun x y i u=>GO (F.gl n).1 (F.blt dC) (R.E F i) (R.E F u) (aF l)
       ·exact bA g
      ·exact bA g
     ·exact s h
 |_=>exact s h
theorem yq{elt:Í}{gens:List Comprehension}{sc:ĝ}{m:Nx}(h:trL r C elt gens sc=À m):∃t it cs x g c y N',gens=[⟨t,it,cs,0⟩]/\m=.lc (N'.length-X.N.length) x g c y/\kJ X N' sc/\QI X t it (fj ks x)/\(∀cl s H fp Pc,QG (cY X N' sc cl s H fp Pc) t (cM ks g))/\(∀cl s H fp Pc,wF (cY X N' sc cl s H fp Pc) cs (j5 ks c)) /\
  (∀cl s H fp Pc,QE (cY X N' sc cl s H fp Pc) elt (ev ks y))/\qy X.N.length (cM ks g)/\(∀x,ö it X.env x=pure x):=by
 unfold trL at h;split at h
 ·rename_i t it cs i
  refine aL F.ck h fun p h=>ka p fun o n l=>fq h fun x d h=>fq h fun g e h=>aL F.ck h fun j k=>?_
  cases yJ n;obtain⟨T,a⟩:=F.blk o;obtain⟨c,y,f,b,rfl⟩:=Kk k;exact⟨t,it,cs,x,g,c,y,fF C sc,rfl,by rw[F.N],T,yr R F d,fun cl s H fp Pc=>R.G (a cl s H fp Pc) e,fun cl s H fp Pc=>F6 R (a cl s H fp Pc) f,fun cl s H fp Pc=>R.E (a cl s H fp Pc) b,by rw[F.N];exact vO j,tN l⟩
 ·exact bA h
theorem DV{x:Ì}{es:List Í}{p n:ę}{m:Ex}(h:trF1 r C x n es=À m):QE X (.Call (.Name x p) es [] n) (ev ks m):=by
 rcases es with _|⟨a,_|⟨b,_|_⟩⟩
 ·exact bA h
 ·skip
  refine aL F.ck h fun l g=>ka l fun e j v=>?_
  rw[yJ e];clear h;have w:∀{m},((r.E C a).map fun a=>Ex.nw (hB C n 0) (.lof a))=À m->QE X (.Call (.Name "list" p) [a] [] n) (ev ks m):=fun h=>cP h fun y h=>jq (GL (F.gl j).1 (F.blt dC) (R.E F h) (aF v))
  cases a with
  |Call f es' kws' q =>
   refine aL F.ck g fun l k=>oG l fun u D s o=>?_
   obtain⟨H,rfl⟩:∃q,f=.Name "range" q:=by
    split at u
    ·rename_i y i
     obtain⟨q,rfl⟩:=t9 i;rw[yJ u];exact⟨q,rfl⟩
    ·exact oi u
   cases ê.mp D;rcases es' with _|⟨a,_|⟨b,_|⟨c,_|_⟩⟩⟩
   ·exact bA k
   ·exact eE o fun t _=>cP k fun x e=>jq (GK F.calm (F.gl j).1 (F.blt dC) (F.gl s).1 (F.blt dC) (R.E F e) (aF t))
   ·exact eE o fun t o=>eE o fun A _=>ci k fun x y e i=>jq (GJ F.calm (F.gl j).1 (F.blt dC) (F.gl s).1 (F.blt dC) (R.E F e) (R.E F i) ((aF t).trans (by rw[aF A];rfl)) (aF A))
   ·exact bA k
   all_goals exact bA k
  |_=>first|exact w g|exact bA g
 ·refine aL F.ck h fun l h=>ka l fun e j s=>fq h fun y i h=>fq h fun T B h=>aL F.ck h fun v h=>cP h fun a g=>?_
  obtain⟨q,rfl⟩:=t9 i;rw[yJ e];obtain⟨g1,I⟩:=F.gl j;obtain⟨G,E⟩:=F.gl v;have d:X.mg y=Á/\Õ y=À (.type T)/\y≠"__name__":=by
   have z:=pV B;simp only[FT,zT,zX,or_false,S6]at z;rcases z with⟨rfl,rfl⟩|⟨rfl,rfl⟩|⟨rfl,rfl⟩|⟨rfl,rfl⟩|⟨rfl,rfl⟩
   ·exact⟨F.blt dC,Dt,by decide⟩
   ·exact⟨F.blt dC,Ja,by decide⟩
   ·exact⟨F.blt dC,IZ,by decide⟩
   ·exact⟨F.blt dC,Ll,by decide⟩
   ·exact⟨F.blt dC,Lo,by decide⟩
  exact GV g1 (F.blt dC) G d.1 d.2.1 (R.E F g) d.2.2 E (aF s) Lu
 all_goals exact bA h
theorem F4{x:Ì}{es:List Í}{p E:ę}{m:Ex}(h:CO r C x es E=À m):QE X (.Call (.Name x p) es [] E) (ev ks m):=by
 unfold CO at h;split at h
 ·rename_i j _
  unfold Bj at h;split at h
  ·refine aL F.ck h fun i h=>oG i fun a n D c=>cP h fun I h=>?_
   unfold LV at a;split at a
   ·rename_i S k B
    refine eE a fun a1 a2=>?_
    obtain⟨d,f,P,w,T,A,Fn,s,H,M,l⟩:=F.ke j _ B;rw[yJ a1]at H;obtain⟨g1,u⟩:=F.gl n;cases es with
    |nil=>exact oi D
    |cons Q o =>
     have t:w.length=o.length+2:=by rw[A];exact yJ a2
     refine eE c fun c N=>?_
     exact GU M Fn s g1 H l (g6 R F h) (fun L K J v e=>by rw[t,nR F.ck h _ _ _ _ e];rfl) u (aF c) (jB N)
   ·exact oi a
  ·refine aL F.ck h fun i h=>ka i fun a n c=>cP h fun I h=>?_
   unfold LX at a;split at a
   ·rename_i y m B
    refine eE a fun a i=>?_
    obtain⟨d,f,P,w,A,Fn,s,z,G,l⟩:=F.ke j _ B;obtain⟨g1,u⟩:=F.gl n;rw[yJ a]at z;have t:w.length=es.length:=by rw[A];exact yJ i
    cases es with
    |nil=>cases h;exact BE (Hc _ Fn) s g1 z G l t u
    |cons Q o =>
     refine eE c fun c O=>?_
     exact ED (Hc _ Fn) s g1 z G l (g6 R F h) (fun L K J v e=>by rw[t];exact nR F.ck h _ _ _ _ e) u (aF c) (jB O)
   ·exact oi a
 ·unfold Bk at h
  split at h
  ·rename_i b l
   refine aL F.ck h fun i h=>ka i fun a n D=>cP h fun I g=>?_
   cases es with
   |nil=>exact oi n
   |cons e es =>
    obtain rfl:x=b.nm:=(show ∀ q ∈ IY,q.1=q.2.nm by decide) _ (pV l);exact Lk F b a (g6 R F g) D
  ·exact DV R F h
theorem F2{x:Ì}{es:List Í}{kws:List ő}{p K:ę}{m:Ex}(h:trK r C x es kws=À m):QE X (.Call (.Name x p) es kws K) (ev ks m):=by
 unfold trK at h;split at h
 rotate_left
 ·exact bA h
 split at h
 ·refine aL F.ck h fun u h=>oG u fun t o n b=>eE b fun b l=>cP h fun y g=>?_
  obtain⟨a,q,rfl⟩:=Ds n;rw[yJ t,yJ o];exact EA F.calm (F.gl b).1 (F.blt dC) (R.E F g) (aF l)
 ·rename_i a y ps D sc B p1 z d p2
  refine aL F.ck h fun u h=>oG u fun t o n b=>oG b fun b l U k=>eE k fun k S=>fq h fun y L h=>fq h fun w M h=>aL F.ck h fun Q h=>?_
  cases h;obtain⟨a,q,rfl⟩:=Ds b;rw[yJ t,yJ o,yJ n];obtain⟨q,N,i⟩:=Ō.mp k;have v:q=B:=by
   refine oG i fun J I G E=>?_
   cases q;cases B;cases yJ J;cases yJ I;cases yJ G;cases yJ E;rfl
  subst v;obtain⟨A,c,P,g1,Z,Y,W,V⟩:=F.la q N;obtain⟨x,T,O,j,e,FL⟩:=F.lam A S;exact Ez F.calm (F.gl l).1 (F.blt dC) (R.E F L) (aF U) e g1 Z Y W T O j A.in1.depth (lE Q) (fun cl f c' s H=>R.E (FL cl f _ _ s H) M) V
 ·exact bA h
theorem F0{o:Í}{f:Ì}{z p:ę}{es:List Í}{m:Ex}(h:F1 r C o f z es p=À m):QE X (.Call (.Attribute o f z) es [] p) (ev ks m):=by
 refine aL F.ck h fun L h=>oG L fun g K u t=>?_
 have c:es.length<30:=zJ (Ĳ _) (zS K);split at h
 ·rename_i j _
  refine fq h fun q _ h=>aL F.ck h fun l h=>?_
  revert h;intro h
  refine ci h fun a N i b=>?_
  unfold LU at l;split at l
  ·rename_i V D k I
   refine ka l fun a1 a2 O=>?_
   obtain⟨d,U,T,B,W,H,Fn,w,s,cl,n,y⟩:=F.ke j _ I;rw[yJ a1]at s;rw[yJ a2]at n;have x:B.length=es.length+1:=by rw[H];exact yJ O
   cases es with
   |nil=>cases b;exact BD (R.E F i) cl s n Fn w y x (wa u g c t)
   |cons M v =>
    have E:=wa (env:=X.env) (f:=f) (o:=o) (es:=M::v) u g c t;refine eE g fun g J=>?_
    exact EB (R.E F i) cl s n Fn w y (g6 R F b) (fun S Q P A e=>by rw[x,nR F.ck b _ _ _ _ e]) (aF g) (jB J) E
  ·exact oi l
 ·refine fq h fun q G h=>ci h fun a N i b=>?_
  have e:f=(miA q es).nm:=by
   have e:=(show ∀ q ∈ HL,q.1=q.2.nm by decide) _ (pV G);dsimp only at e;rw [e];cases q <;> first | rfl | (cases es <;> rfl)
  subst e;exact Kg F _ (R.E F i) (g6 R F b) (fun e=>by subst e;cases b;rfl) g c u t
theorem DT{a:Í}{l h s:Option Í}{p q:ę}{m:Ex}(e:trSl r C a l h s p=À m):QE X (.Subscript a (.Slice l h s q) p) (ev ks m):=by
 cases s with
 |none =>
  unfold trSl at e;exact nE e fun x y z c b hz=>jq (JK (R.E F c) (yp R F b) (yp R F hz))
 |some s =>
  exact bA e
theorem F5{e:Í}{m:Ex}(h:trE r C e=À m):QE X e (ev ks m):=by
 cases e with
 |Constant k a p=>cases k with
  |none=>cases h;exact tU (w:=.non) rfl Hn fun _ _ _ h=>h
  |bool b=>cases h;exact tU rfl Ka fun _ _ _ h=>h
  |int b=>cases h;exact tU rfl Ho fun _ _ _ h=>h
  |str b=>cases h;exact tU rfl Hk fun _ _ _ h=>h
  |_=>exact bA h
 |Name x p=>exact FX F h
 |BinOp a o b p =>
  unfold trE at h;split at h
  ·refine aL F.ck h fun j g=>?_
   cases of_decide_eq_true j;exact ci g fun x y d n=>jq (GM (R.E F d) (R.E F n))
  ·split at h
   ·rename_i u B
    obtain⟨q,rfl⟩:=HW B;refine aL F.ck h fun j g=>?_
    cases of_decide_eq_true j;exact ci g fun x y d n=>jq (GI (g6 R F d) (R.E F n))
   ·exact ci h fun x y d n=>GZ (R.E F d) (R.E F n)
 |Compare a os bs p =>
  have h:trCe r C a os bs=À m:=h;rcases os with _|⟨o,_|⟨M,_|_⟩⟩
  ·exact bA h
  ·rcases bs with _|⟨b,_|_⟩<;>first|exact bA h|exact aL F.ck h fun j h=>ci h fun x y d n=>GY F.hu (R.E F d) (R.E F n) j
  ·exact bA h
  ·exact bA h
 |UnaryOp o a p=>cases o with
  |Not=>exact cP h fun x d=>GT (R.E F d)
  |_=>exact cP h fun x d=>JO (R.E F d)
 |BoolOp o u p=>cases u with
  |nil=>exact bA h
  |cons x u=>exact qJ R F h
 |IfExp t a b p=>exact nE h fun x y z d n hz=>JS (R.T F d) (R.E F n) (R.E F hz)
 |Subscript a i p=>cases i with
  |Slice l h' s q=>exact DT R F h
  |_=>exact aL F.ck h fun j h=>ci h fun x y d n=>JR F.hu (R.E F d) (R.E F n) (Ks j)
 |Tuple u k p=>exact cP h fun x d=>GS (g6 R F d)
 |List u p=>exact cP h fun x d=>jq (Es (g6 R F d))
 |ListComp elt gens sc p =>
  refine cP h fun x d=>?_
  obtain⟨t,it,N,i,g,c,y,O,rfl,rfl,T,a1,a2,L,K,J,I⟩:=yq R F d;exact jq (C1 F.calm T a1 a2 L K J I)
 |Dict k v p =>
  refine aL F.ck h fun j g=>eE j fun H G=>?_
  cases g;cases ê.mp H;cases ê.mp G;exact EC BT
 |Attribute o f p =>
  refine fq h fun c D h=>aL F.ck h fun j h=>cP h fun x d=>?_
  obtain⟨P,E,cl,A⟩:=F.clb D;exact GW (R.E F d) cl E A (gY _ j)
 |Call f u kws p=>cases f with
  |Name x q=>cases kws with
   |nil=>exact F4 R F h
   |cons _ _=>exact F2 R F h
  |Attribute o f q =>
   refine aL F.ck h fun j g=>?_
   cases ê.mp j;exact F0 R F g
  |_=>exact bA h
 |_=>exact bA h
theorem FY{e:Í}{m:Tx}(h:trT r C e=À m):QT X e (tv ks m):=by
 cases e with
 |UnaryOp o a p=>cases o with
  |Not=>exact cP h fun x c=>GB (R.T F c)
  |_=>exact cP h fun x c=>zd (R.E F c) (vL rfl)
 |BoolOp o f p=>cases f with
  |nil=>exact bA h
  |cons x f=>exact PW.pt (qI R F h)
 |Compare a os bs p =>
  have h:trCt r C a os bs=À m:=h;rcases os with _|⟨o,_|⟨i,_|_⟩⟩
  ·exact bA h
  ·rcases bs with _|⟨b,_|_⟩<;>first|exact bA h|exact aL F.ck h fun d h=>ci h fun x y c g=>GC F.hu (R.E F c) (R.E F g) d
  ·exact bA h
  ·exact bA h
 |_=>exact aL F.ck h fun d h=>cP h fun x c=>zd (R.E F c) (vL d)
omit R in
theorem xj{x:Ì}{m:Tg}(h:qH C x=À m):∃k,m=.nm k/\X.N[k]?=À x/\L2.Loc X.env.scope x/\(X.fn x=Â\/X.env.scope.names.lookup x=À .local):=by
 refine fq h fun k c h=>aL F.ck h fun e h=>eE e fun d _=>?_
 cases h;obtain⟨b,a⟩:=F.loc d;exact⟨k,rfl,F.nmb c,b,a⟩
theorem F3{e:Í}{m:Tg}(h:trG r C e=À m):QG X e (cM ks m):=by
 have i:X.N.Nodup:=by rw[F.N];exact F.nd
 cases e with
 |Name x p =>
  obtain⟨k,rfl,a,b,c⟩:=xj F h;exact Ey i a b c
 |Tuple es k p=>exact aL F.ck h fun f h=>cP h fun x d=>GP F.calm (vM R F d) Co (Cp f)
 |Subscript a b p=>exact aL F.ck h fun f h=>ci h fun x y d g=>GQ F.hu (R.E F d) (R.E F g) (Gj f)
 |_=>exact bA h
end
noncomputable def uy:Í->Bool
 |.Starred ..=>Â
 |_=>Ã
theorem nG{e:Í}(h:bW e=Â):uy e=Ã:=by cases e<;>first|rfl|cases h
theorem yx{env:O?}{e o i:Í}{p:ę}{l:Nat}:ś [.Subscript o i p] e l env=pure Ã:=by cases e<;>rfl
theorem rQ{env:O?}{e:Í}{es:List Í}{k:Nat}{p:ę}{l:Nat}:ś [.Tuple es k p] e l env=pure Ã:=by cases e<;>rfl
theorem Ht{env:O?}{x y:Ì}{g f pt i:ę}{q r:Nat}{a b:Í}(v:env.scope.kind=.function)(t:env.scope.names.lookup x=À .local)(s:env.scope.names.lookup y=À .local)(u:(g.line==f.line)=Â)(d:(x==y)=Ã)
  (o:bW a=Â) (n:bW b=Â) (z:([a,b].all (M! 8))=Ã) (w:([a,b].all (constantsAlone 8))=Ã):õ [.Tuple [.Name x g,.Name y f] q pt] (.Tuple [a,b] r i) env=pure (À [x,y]):=by
 have k:env.blockKind=.function:=by unfold Env.blockKind;rw[v];rfl
 have m:env.kindOf x=À .local:=t;have l:env.kindOf y=À .local:=s;have p:([a,b].any fun|.Starred ..=>Â|_=>Ã)=Ã:=by
  show(uy a||(uy b||false))=Ã;rw[nG o,nG n];rfl
 have e:(f.line==g.line)=Â:=by rw[yJ u];simp
 have j:(y==x)=Ã:=by
  cases h:y==x
  ·rfl
  ·have:=yJ h;subst this;simp at d
 unfold õ;simp only[k,p,z,w,m,l,e,List.head?_cons,Ð,ū,show∀a b,Expr.pos (.Name a b)=b from fun _ _=>rfl];simp[U6,m,l,e,List.eraseDups,d,j,List.eraseDupsBy,U7];intro c;exfalso;rcases c with c|c
 ·exact absurd (show uy a=Â from c) (by rw [nG o];decide)
 ·exact absurd (show uy b=Â from c) (by rw [nG n];decide)
theorem Bs{ts vs:List Í}{k b:Nat}{p a:ę}{env:O?}(h:vs.all L5=Â):õ [.Tuple ts k p] (.Tuple vs b a) env=pure Á:=by
 have c:vs.all (M! 8)=Â:=yQ.mpr fun e d=>by
  have:=yQ.mp h e d
  cases e<;>first|rfl|cases this
 unfold õ;simp only[c,↓reduceIte]
 repeat' split
 all_goals rfl
theorem Br{ts vs:List Í}{k c:Nat}{p b:ę}{env:O?}(h:∃e∈ts,∀x p,e=.Name x p->env.kindOf x≠À .local):õ [.Tuple ts k p] (.Tuple vs c b) env=pure Á:=by
 obtain⟨e,d,h⟩:=h;unfold õ;simp only;split
 ·rfl
 split
 ·rfl
 split
 ·rfl
 rename_i a;exfalso;simp only[Bool.or_eq_true,bne_iff_ne,ne_eq,not_or,Decidable.not_not]at a
 have:=List.filterMap_length_eq_length.mp a.1 e d
 cases e <;> first | (cases this;done) | skip
 rename_i x p
 have:=h x p rfl
 simp_all
section
variable[Pf]{ks:List Fn}{r:Tr}(R:CD r ks){X:Cx}{C:SC}(F:Fit X C ks)
include R F
theorem DU{ts vs:List Í}{k f:Nat}{q d p:ę}{m:Sx}(h:wS r C ts vs k f q d=À m):QS X (.Assign [.Tuple ts k q] (.Tuple vs f d) p) (cV ks m):=by
 refine aL F.ck h fun b h=>ci h fun x g i j=>tT (R.E F i) (R.G F j) rQ ?_ (qY rfl)
 rcases Ϛ.mp b with b|b
 ·exact Bs b
 ·obtain⟨e,l,a⟩:=Ō.mp b
  refine Br ⟨e,l,fun x p ex=>?_⟩;subst ex;intro c;have c:X.env.scope.names.lookup x=À .local:=c;have a:(!um C x)=Â:=a;unfold um kd at a;rw[<- F.nm,c]at a;cases a
theorem DW{t v:Í}{p:ę}{m:Sx}(h:trAs r C t v=À m):QS X (.Assign [t] v p) (cV ks m):=by
 have D:X.N.Nodup:=by rw[F.N];exact F.nd
 have nm:∀{x q v m},pQ v=Â->m2 Sx.as (r.E C v) (qH C x)=À m->QS X (.Assign [.Name x q] v p) (cV ks m):=fun s h=>ci h fun a g A u=>by
  obtain⟨k,rfl,a1,a2,G⟩:=xj F u;exact zf D a1 a2 (R.E F A) (vP s) G
 cases t with
 |Name x q=>cases v with
  |ListComp elt gens sc q2 =>
   refine ci h fun a g A u=>?_
   clear h;obtain⟨k,rfl,P,O,N⟩:=xj F u;refine cP A fun y hy=>?_
   obtain⟨t,it,cs,i,g,c,y,N',rfl,rfl,T,a1,a2,G,Z,Y,W⟩:=yq R F hy;have n:=Gh (env:=X.env) (elt:=elt) (gens:=[⟨t,it,cs,0⟩]) (sc:=sc) (pos:=q2) (t:=x) (p:=q) (l:=p.line) F.kind;cases w:LG X.env.scope.names x q.line sc q2.line with
   |false=>rw[w]at n;exact zf D P O (jq (C1 F.calm T a1 a2 G Z Y W)) n N
   |true=>rw[w]at n;exact ze D P O n F.calm T a1 a2 G Z Y W N
  |_=>exact aL F.ck h fun s h=>nm s h
 |Subscript a b q=>exact ci h fun x g H u=>tT (R.E F H) (R.G F u) yx Bq (qY rfl)
 |Tuple ts k q=>cases v with
  |Tuple vs k2 q2 =>
   have h:(if hB C q2 5=Â then wS r C ts vs k k2 q q2 else CN r C ts vs)=À m:=h;by_cases z:hB C q2 5=Â
   ·rw[yH z]at h
    exact DU R F h
   rw[yG z]at h;unfold CN at h;split at h
   rotate_left
   ·exact bA h
   rename_i x px y py _;rcases vs with _|⟨a,_|⟨b,_|_⟩⟩
   ·exact bA h
   ·exact bA h
   ·refine fq h fun i S h=>fq h fun j Q h=>aL F.ck h fun s h=>oG s fun V U _ E=>oG E fun E K h7 J=>ka J fun J h9 L=>ci h fun c d I hd=>?_
    have B:∀{x:Ì},um C x=Â->X.env.scope.names.lookup x=À .local:=fun {x} h=>by
     unfold um kd at h;rw[<- F.nm]at h;split at h
     ·rename_i e;exact e
     ·cases h
    have M:(x==y)=Ã:=by simpa using J
    exact GE F.calm D (F.nmb S) (F.nmb Q) (fun e=>by
      subst e;have e:=xV S;rw[xV Q]at e;cases e;simp at M) (B V) (B U) (R.E F I) (R.E F hd) (by rw[aF E,aF K];rfl) (aF K)
     (Ht F.kind (B V) (B U) h7 M E K (by rw[<- S3];exact h9) (by rw[<- S3];exact L)) rfl
   ·exact bA h
  |_=>exact aL F.ck h fun s h=>eE s fun s h1=>ci h fun x g H u=>tT (R.E F H) (R.G F u) rQ (Bp s) (qY rfl)
 |Attribute o f q =>
  refine fq h fun c I h=>ci h fun a b A hb=>?_
  obtain⟨Ca,hC,cl,na⟩:=F.clb I;exact GH (R.E F A) (R.E F hb) cl hC na Bn
 |_=>exact bA h
theorem FZ{s:ĺ}{m:Sx}(h:trS r C s=À m):QS X s (cV ks m):=by
 cases s with
 |Expr e p=>exact aL F.ck h fun f h=>cP h fun x c=>Em (R.E F c) (vP f)
 |Assign ts v p =>
  rcases ts with _|⟨t,_|_⟩
  ·exact bA h
  ·exact DW R F h
  ·exact bA h
 |AugAssign t o v p=>cases t with
  |Subscript a b q=>exact aL F.ck h fun f h=>nE h fun x y z c d hz=>Eo F.hu (R.E F c) (R.E F d) (R.E F hz) (Jb f)
  |_=>exact bA h
 |Return e p=>cases e with
  | none=>first | exact bA h | (cases h;exact qs_retN)
  |some e=>exact cP h fun x c=>GD (R.E F c)
 |If t a b p=>exact nE h fun x y z c d hz=>JJ (R.T F c) (jA R F d) (jA R F hz)
 |For t it b els p =>
  refine aL F.ck h fun f g=>eE f fun j i=>?_
  cases ê.mp j;split at g
  ·exact nE g fun x y z c d hz=>El F.po F.calm (R.E F c) (R.G F d) (jA R F hz) (tN i)
  exact nE g fun x y z c d hz=>GG F.po F.calm (yr R F c) (R.G F d) (jA R F hz) (tN i)
 |While t b els p =>
  refine aL F.ck h fun f g=>?_
  cases ê.mp f;exact ci g fun x y c d=>BB F.po (R.T F c) (jA R F d)
 |Raise=>cases h;exact En
 |_=>exact bA h
end
theorem pA[Pf]{ks:List Fn}:∀n:Nat,CD (tr n) ks
 |0=>⟨fun _ h=>bA h,fun _ h=>bA h,fun _ h=>bA h,fun _ h=>bA h⟩
 |n+1=>⟨fun F h=>F5 (pA n) F h,fun F h=>FY (pA n) F h,fun F h=>F3 (pA n) F h,fun F h=>FZ (pA n) F h⟩
section
variable(P:Ò)(w:à)(K:á)(mg:Ì->Option Å)(base:é)
def Oe[Pf](d:Nat)(x:Ì)(n:Nat)(fn:Fn):Prop:=∃f b a,a.length=n/\FnOk P w K mg base fQ d f b a (eG ⟨K,mg⟩ a.length fn)/\mg x=À (.ref f)/\Ķ K (.ref f)=Â/\Binds K b a []
def N5[Pf](d:Nat)(c m:Ì)(n:Nat)(fn:Fn):Prop:=∃f b a C,a.length=n/\FnOk P w K mg base fQ d f b a (eG ⟨K,mg⟩ a.length fn)/\mg c=À (.ref C)/\Cls K C/\lR K C m f/\Binds K b a []
def N4[Pf](d:Nat)(c:Ì)(n:Nat)(fn:Fn):Prop:=∃f b a C,a.length=n/\FnOk P w K mg base fQ d f b a (eG ⟨K,mg⟩ a.length fn)/\mg c=À (.ref C)/\Mk K C f/\Binds K b a []
def KOk[Pf](d:Nat)(fn:Fn):Ke->Prop
 |.f x n=>Oe P w K mg base d x n fn
 |.m c m n=>N5 P w K mg base d c m n fn
 |.k c n=>N4 P w K mg base d c n fn
def KsOk[Pf](d:Nat):List Ke->List Fn->Prop
 |[],_=>True
 |k::ke,fn::ks=>KOk P w K mg base d fn k/\KsOk d ke ks
 |_::_,[]=>False
structure Ev(gs:List (Ì×AV))(cl:List (Ì×List Ì)):Prop where
 bl:∀x∈bnames,mg x=Á
 gs:∀p∈gs,∀w,rW p.2=À w->∃u,mg p.1=À u/\RelV w u
 cl:∀p∈cl,∃Ca,mg p.1=À (.ref Ca)/\Cls K Ca/\∀f∈p.2,NoAttr K Ca f
end
section
variable{P:Ò}{w:à}{K:á}{mg:Ì->Option Å}{base:é}{d d':Nat}{fn:Fn}
theorem KOk.mono[Pf](h:d<=d'):∀{k:Ke},KOk P w K mg base d fn k->KOk P w K mg base d' fn k
 |.f _ _,⟨f,fd,ps,e,F,r⟩=>⟨f,fd,ps,e,F.mono h,r⟩
 |.m _ _ _,⟨f,fd,ps,C,e,F,r⟩=>⟨f,fd,ps,C,e,F.mono h,r⟩
 |.k _ _,⟨f,fd,ps,C,e,F,r⟩=>⟨f,fd,ps,C,e,F.mono h,r⟩
theorem KsOk.at[Pf]:∀{ke:List Ke}{ks:List Fn}{j:Nat}{k:Ke},KsOk P w K mg base d ke ks->ke[j]?=À k->KOk P w K mg base d (kf ks j) k
 |[],_,_,_,_,e=>by simp at e
 |k::ke,[],_,_,h,_=>h.elim
 |k::ke,fn::ks,0,_,h,e=>by simp at e;subst e;exact h.1
 |k::ke,fn::ks,j+1,_,h,e=>by
  have:=KsOk.at (j:=j) h.2 (by simpa using e)
  exact this
theorem KOk.ok[Pf](hr:Room (d+1) A):∀{k:Ke},KOk P w K mg base d fn k->Jl P w K mg base A fn k
 |.f _ _,⟨f,fd,ps,e,F,m,kp,b⟩=>⟨d,f,fd,ps,e,F,hr.mono (Ϲ d),m,kp,b⟩
 |.m _ _ _,⟨f,fd,ps,C,e,F,m,c,me,b⟩=>⟨d,f,fd,ps,C,e,F,hr.mono (Ϲ d),m,c,me,b⟩
 |.k _ _,⟨f,fd,ps,C,e,F,m,mk,b⟩=>⟨d,f,fd,ps,C,e,F,hr,m,mk,b⟩
end
def gE(st:ĺ):List Ì:=(db st).args.map (·.arg)
noncomputable def IE(N ps:List Ì)(sc:ĝ):Bool:=(match sc.kind with|.function=>Â|_=>Ã)&&!sc.isCoroutine&&!sc.isGenerator&&decide N.Nodup&&decide (N.take ps.length=ps) &&
 (ps.all fun x=>match sc.names.lookup x with|some .local=>Â|some .cell=>Â|_=>Ã)&&(sc.names.all fun p=>match p.2 with|.free=>Ã|_=>Â)
theorem ID(h:IE N ps sc=Â):oa N ps sc:=by
 unfold IE at h;simp only[zC,yB]at h;obtain⟨⟨⟨⟨⟨⟨a,k⟩,j⟩,i⟩,g⟩,f⟩,d⟩:=h;refine⟨?_,by simpa using k,by simpa using j,i,g,fun x c=>?_,fun y b e=>?_⟩
 ·split at a
  ·rename_i e;exact e
  ·cases a
 ·have:=yQ.mp f x c
  split at this
  ·rename_i e;exact .inl e
  ·rename_i e;exact .inr e
  ·cases this
 ·have:=yQ.mp d y b
  rw[e]at this;cases this
structure FH where
 ke:Ke
 qual:Ì
 st:ĺ
 N:List Ì
 cs:List Nat
 d:Nat
 la:List ę
 cn:List Ì
 hs:List Nat
def FH.tr(e:FH)(k:Bool)(ke:List Ke)(gs:List (Ì×AV))(cl:List (Ì×List Ì)):Option Pq :=
 gu k (IE e.N (gE e.st) (cg e.st)&&plainA (db e.st)&&decide (gE e.st).Nodup) (pB (R.tr 60) ⟨e.N,vI k (cg e.st).names,e.N,ke,gs,cl,e.la,e.cn,e.hs,k⟩ (c9 e.st))
section
variable{P:Ò}{w:à}{K:á}{mg:Ì->Option Å}{base:é}{d:Nat}{x qual:Ì}{st:ĺ}{f:Ç}{fd:Ĕ}{N:List Ì}{ke:List Ke}{ks:List Fn}{gs:List (Ì×AV)}{cl:List (Ì×List Ì)}{la:List ę}{b:Pq}
theorem KU[Pf]{N ps:List Ì}{k:Nat}{b:SF}(F:Fun K x qual st f fd)(S:oa N ps (cg st))
  (c:∀(A:ą)(outer:List O?)(s:É)(H:Hp)(E:XK),Room k (A.deeper (ϴ qual (cg st) s.heap.objs.size f fd.code))->oP (rh fQ P w K mg base N qual (cg st) f fd.code A outer s H E).nox (c9 st) b) :
  FnOk P w K mg base fQ (k+1) f fd ps (eG ⟨K,mg⟩ ps.length (run N.length b)):=by
 obtain⟨O,M,kV,J,pm,T,L,ct,C,rfl,lk,i⟩:=F.ex;refine KR lk i S (fun u H Q E h=>h.1) fun A outer s H u Q E D h=>?_
 obtain⟨R,P,p,n,st,r,z,k⟩:=h;have G:=c A outer s H E D;refine⟨_,PSs.nox G,?_⟩;obtain⟨v,y,e,q⟩:=k;obtain⟨o,I,d⟩:=zA e;refine⟨P,p,_,st,Eb r,z,o,I,?_⟩;cases o with
 |nx sl st1=>cases d;exact fun l a m t j g _=>q l a m .non j g (by simp only[RA])
 |rt v st1=>cases d;exact fun l a m w j g B=>q l a m w j g B
 |bk sl st1=>cases d
 |ct sl st1=>cases d
def vA[Pf](mg:Ì->Option Å)(a:é)(qual:Ì)(cd:Å)(la:List ę):Prop:=∀p∈la,∃c P,cd=.ref c/\W3 a c P/\kn mg a/\(P,p,qual++".<locals>."++"<lambda>")∈Pf.tb/\∀t∈Pf.tb,t.1=P->t=(P,p,qual++".<locals>."++"<lambda>")
theorem qd[Pf]{e:FH}(F:Fun K x qual e.st f fd)(E:Ev K mg gs cl)(g:vA mg base qual fd.code e.la)(l:KsOk P w K mg base d ke ks)(h:e.tr Â ke gs cl=À b) :
  FnOk P w K mg base fQ (d+3) f fd (gE e.st) (eG ⟨K,mg⟩ (gE e.st).length (run e.N.length (af ks b)))/\Binds K fd (gE e.st) []:=by
 refine aL rfl h fun r m=>ka r fun q o n=>?_
 have S:=ID q;refine⟨KU F S fun A c s H B a=>?_,F.binds fun kV t pm z u y v g=>bind_plain o rfl (of_decide_eq_true n) g⟩;exact jA (pA _) ⟨rfl,rfl,rfl,S.nd,S.kind,rfl,fun _ _=>rfl,a.units,a.gd,E.bl,PassesOwn.never,fun j k e=>(l.at e).ok (a.mono oM),E.gs,E.cl,fun p i=>⟨a.mono oM,g p i⟩⟩ m
end
structure FE extends FH where
 b:Pq
def FE.fn(e:FE)(fs:List Fn):Fn:=run e.N.length (af (e.cs.map (kf fs)) e.b)
def FE.ok[Pf](e:FE)(K:á)(mg:Ì->Option Å)(a:é):Prop:=match e.ke with
 |.f x _=>∃f b,mg x=À (.ref f)/\Fun K x e.qual e.st f b/\vA mg a e.qual b.code e.la
 |.m c m _=>∃f b C,mg c=À (.ref C)/\Cls K C/\lR K C m f/\Fun K m e.qual e.st f b/\vA mg a e.qual b.code e.la
 |.k c _=>∃f b C,mg c=À (.ref C)/\Mk K C f/\Fun K "__init__" e.qual e.st f b/\vA mg a e.qual b.code e.la
noncomputable def Ke.n:Ke->Nat
 |.f _ n=>n
 |.m _ _ n=>n
 |.k _ n=>n
noncomputable def uv(pre:List FE)(j:Nat):Ke:=match pre[j]? with
 |some e=>e.ke
 |none=>.f "" 0
def FE.chk(gs:List (Ì×AV))(cl:List (Ì×List Ì))(pre:List FE)(e:FE):Option Pq :=
 gu Â (e.ke.n==(gE e.st).length&&e.cs.all (fun j=>match pre[j]? with|some g=>å (g.d+3) e.d|none=>Ã)&&å 3 e.d) (e.tr Â (e.cs.map (uv pre)) gs cl)
def qo(gs:List (Ì×AV))(cl:List (Ì×List Ì)):List FE->List FE->List (Option Pq)
 |_,[]=>[]
 |pre,e::r=>e.chk gs cl pre::qo gs cl (pre++[e]) r
def j3:List Fn->List FE->List Fn
 |fs,[]=>fs
 |fs,e::r=>j3 (fs++[e.fn fs]) r
section
variable{P:Ò}{w:à}{K:á}{mg:Ì->Option Å}{base:é}{gs:List (Ì×AV)}{cl:List (Ì×List Ì)}
def tH[Pf](P:Ò)(w:à)(K:á)(mg:Ì->Option Å)(a:é)(pre:List FE)(fs:List Fn):Prop:=pre.length=fs.length/\∀(j:Nat) e,pre[j]?=À e->KOk P w K mg a e.d (kf fs j) e.ke
theorem xD[Pf]{d:Nat}(h:tH P w K mg base pre fs):∀cs:List Nat,(cs.all fun j=>match pre[j]? with|some g=>å (g.d+3) (d+3)|none=>Ã)=Â->KsOk P w K mg base d (cs.map (uv pre)) (cs.map (kf fs))
 |[],_=>trivial
 |j::cs,hc=>by
  rw[ķ,zC]at hc;refine⟨?_,xD h cs hc.2⟩;have h1:=hc.1;split at h1
  ·rename_i g a
   have:=h.2 j g a
   unfold uv;rw[a];exact this.mono (by have:=zS h1;lia)
  ·cases h1
theorem KY[Pf]{pre:List FE}{fs:List Fn}{e:FE}(E:Ev K mg gs cl)(h:tH P w K mg base pre fs)(k:e.ok K mg base)(r:e.chk gs cl pre=À e.b):KOk P w K mg base e.d (e.fn fs) e.ke:=by
 obtain⟨y,u,v,t⟩:(e.ke.n==(gE e.st).length)=Â/\(e.cs.all fun j=>match pre[j]? with|some g=>å (g.d+3) e.d|none=>Ã)=Â/\å 3 e.d=Â/\e.tr Â (e.cs.map (uv pre)) gs cl=À e.b:=aL rfl r fun z h=>ka z fun a b c=>⟨a,b,c,h⟩
 have i:=yJ y;obtain⟨d,hd⟩:∃d,e.d=d+3:=⟨e.d-3,by have:=zS v;lia⟩;rw[hd]at u ⊢;have q:=xD h e.cs u;unfold FE.fn;unfold FE.ok at k;split at k
 ·rename_i x n o
  obtain⟨f,l,m,F,L⟩:=k;obtain⟨a1,a2⟩:=qd (e:=e.toFH) F E L q t;rw[o]at i ⊢;exact⟨f,l,gE e.st,i.symm,a1,m,F.kp,a2⟩
 ·rename_i c m n o
  obtain⟨f,l,C,s,r,p,F,L⟩:=k;obtain⟨a1,a2⟩:=qd (e:=e.toFH) F E L q t;rw[o]at i ⊢;exact⟨f,l,gE e.st,C,i.symm,a1,s,r,p,a2⟩
 ·rename_i c n o
  obtain⟨f,l,C,s,p,F,L⟩:=k;obtain⟨a1,a2⟩:=qd (e:=e.toFH) F E L q t;rw[o]at i ⊢;exact⟨f,l,gE e.st,C,i.symm,a1,s,p,a2⟩
theorem An{j:Nat}(h:j<fs.length):kf (fs++[g]) j=kf fs j:=by
 unfold kf;rw[zD,zD,zN h]
theorem Fl:kf (fs++[g]) fs.length=g:=by
 unfold kf;rw[zD];simp
theorem vU[Pf](E:Ev K mg gs cl):∀(rest pre:List FE)(fs:List Fn),tH P w K mg base pre fs->(∀e∈rest,e.ok K mg base)->qo gs cl pre rest=rest.map (fun e=>À e.b)->tH P w K mg base (pre++rest) (j3 fs rest)
 |[],pre,fs,h,_,_=>by rw[í];exact h
 |e::r,pre,fs,h,hf,hc=>by
  obtain⟨hc1,hc2⟩:=List.cons.inj hc;have c:=KY E h (hf e z7) hc1
  have:=vU E r (pre++[e]) (fs++[e.fn fs]) ⟨by simp[h.1],fun j g a=>?_⟩ (fun g a=>hf g (zQ _ a)) hc2
  ·rw[yM]at this;exact this
  ·rcases yT j pre.length with b|b
   ·rw[zN b]at a
    rw[An (by rw[<- h.1];exact b)];exact h.2 j g a
   ·have d:j=pre.length:=by
     have:=(zB.mp a).1
     rw[zV]at this;simp at this;lia
    subst d;simp at a;subst a;rw[h.1,Fl];exact c
end
theorem Ko[Pf]{K:á}{mg:Ì->Option Å}{H:Hp}{a:Ç}{ns:List Int}{fn:Fn}{E:XK}(k:∃st,fn [.fz (ns.map .int)] []=À (.bl Â,st))(l:cb K H a (ns.map V.int))(g:∀t∈Pf.tb,gZ H t.1 t.2.1 t.2.2):eG ⟨K,mg⟩ 1 fn [.ref a] H (fun v _=>v=.bl Â) E:=by
 obtain ⟨st,e⟩:=k;refine ⟨rfl,fun c=>∃ b,Rd H c (.lst b),[],[.fz (ns.map .int)],[],bo ?_ bO,Sim.nil (fun c h=>?_) (fun t i=>⟨g t i,fun d=>by obtain ⟨b,z⟩:=d;obtain ⟨n,e,_⟩:=g t i;rcases z with z | ⟨o,z⟩ <;> (rw [e] at z;cases z)⟩),.bl Â,st,e,fun p j m w f s r=>by simpa only [RA] using r⟩
 ·simp only[RA]
  refine⟨a,ns.map V.int,rfl,?_,Pi.of_ints⟩;rcases l with h|h
  ·exact .inl ⟨⟨_,h⟩,h⟩
  ·exact .inr fun m=>.inr h
 ·obtain ⟨b,h | ⟨o,h⟩⟩:=h <;> (rw [h];exact fun z=>nomatch z)
end R
namespace L2
open PySem PySem.Spec PyProof.Rows
theorem Al{P:Ò}{w:à}{K:á}{mg X:Ì->Option Å}{CX:m9}{k:Nat}{fa a:Ç}{fd:Ĕ}{x:Ì}{sp:Sp}{c:É}{vs:List Å}{ns:List Int}{tabs:List (Ç×Addr)}
  (KX:K.In c.heap) (B:c.heap.Ns Ï mg) (g:c.heap.Ns ė X) (hbb:∀x:Ì,x≠"__name__"->X x=Õ x) (J:c.heap.NoLimit) (hg:c.gens=#[])
  (D:∃D ob,mg "__builtins__"=À (.ref D)/\D≠ė/\c.heap.get? D=À ob/\ob.cls=.type "module"/\ob.dict=À ė/\ob.data=.plain)
  (p:TabsAt tabs c.heap) (hK0:noTabs K=Â)
  (E:c.heap.get? a=À { cls:=.type "list",data:=.seq vs.toArray }) (hi:ϒ vs ns) (hl:ns.length<=Ë) (hr:Room k ώ)
  (F:∀base:é,K.In base->base.Ns Ï mg->kn mg base->FnOk P w K mg base CX k fa fd [x] sp) (C:∀(s:É)(u:Å),v! s fd ⟨[u],[]⟩ [(x,u)])
  (Y:∀H:Hp,(∀q∈tabs,H q.2=À (.tbl #[]))->cb K H a (ns.map V.int)->sp [.ref a] H (fun v _=>v=.bl Â) fun _ _ _=>False)
  (hCX:∀H e s',CX [] H c (fun _ _ _=>False) e s'->False) :
  ŏ (model P w) ώ (.call (.ref fa) ⟨[.ref a],[]⟩) (fun r s'=>r=.ok (.ret (.bool Â))/\OldK c.heap s'.heap/\s'.os=c.os/\ϔ s'.gens) c:=by
 have rv:=yd hi;have I:=hi.length;have y:∀H:Hp,cb K H a (ns.map V.int)->HOk P w H c.heap->(∀b,H b=Á\/(b=a/\K.lookup a=Á/\∃o xs,H b=À (.frz o (.lst xs)))\/(∃q∈tabs,b=q.2/\H b=À (.tbl #[])))->(∀q∈tabs,H q.2=À (.tbl #[])) ->
   ŏ (model P w) ώ (.call (.ref fa) ⟨[.ref a],[]⟩) (fun r s'=>r=.ok (.ret (.bool Â))/\OldK c.heap s'.heap/\s'.os=c.os/\ϔ s'.gens) c:=by
  intro H hS Pk R hTb;have gY:∀{b:Ç}{o:X0},c.heap.get? b=À o->H b=Á->(kD c.heap H).get? b=À o:=fun e n=>Ci e n
  have none_of:∀{b:Ç}{o:X0},c.heap.get? b=À o->o.cls≠.type "list"->o≠Q7 #[]->H b=Á:=fun {b o} e n1 n2=>by
   rcases R b with z|⟨rfl,_⟩|⟨q,f,rfl,_⟩
   ·exact z
   ·rw[E]at e;cases e;exact absurd rfl n1
   ·rw[(p q f).2]at e;cases e;exact absurd rfl n2
  have j:∀{b:Ç}{o:X0}{M:Array DictEntry}{N:Nat},c.heap.get? b=À o->o.data=.dict M N->H b=Á:=fun {b o M N} e d=>by
   rcases R b with z|⟨rfl,_⟩|⟨q,f,rfl,_⟩
   ·exact z
   ·rw[E]at e;cases e;cases d
   ·rw[(p q f).2]at e;cases e;cases d
  have l:∀{b:Ç}{m:Ì->Option Å},c.heap.Ns b m->(kD c.heap H).Ns b m:=fun {b m} ⟨o,M,N,e,d,r⟩=>⟨o,M,N,gY e (j e d),d,r⟩
  have L:K.In (kD c.heap H):=fun b o e=>gY (KX b o e) (by
   rcases R b with z|⟨rfl,z,_⟩|⟨q,f,rfl,_⟩
   ·exact z
   ·rw[z]at e;cases e
   ·have O:=KX _ o e
    rw[(p q f).2]at O;cases O;have h2:=yQ.mp hK0 _ (mem_of_lookupK e);exact absurd (show Ã=Â from h2) Ĝ)
  have hM:Mod K mg (kD c.heap H):=⟨L,l B,⟨X,l g,hbb⟩,let⟨mc,h1,h2⟩:=J;⟨mc,l h1,h2⟩⟩;have hBM:kn mg (kD c.heap H):=by
   obtain⟨D,ob,b1,b2,T,S,b5,b6⟩:=D;refine⟨D,ob,b1,b2,fun z=>?_,gY T (none_of T (by rw[S];intro z;injection z with z;exact absurd z dC) (fun z=>by rw[z]at S;cases S)),S,b5,b6⟩;obtain⟨o,M,N,e,d,_⟩:=B;rw[z,e]at T;cases T;rw[d]at b6;cases b6
  have e0:Env0 P w K mg (kD c.heap H) ώ [] c H:=⟨rfl,hM,fun b o e=>E4 e,Ϯ (Au _ _),trivial,fun b g=>absurd (show b ∈ ([]:List Ç) from g) (by simp),Pk,.of_eq hg⟩;refine ŧ ((F _ L (l B) hBM).run ώ [] c H ⟨[.ref a],[]⟩ [.ref a] [.ref a] _ _ hr e0 (C c (.ref a)) (.cons rfl .nil) (Y H hTb hS)) fun r s' h=>?_
  cases r with
  |error e=>exact(hCX H e s' h).elim
  |ok fl =>
   cases fl with
   |next=>exact False.elim h
   |brk=>exact False.elim h
   |cont=>exact False.elim h
   |ret u =>
    obtain⟨v,H',os,Q,un,t,r',q⟩:=h;have q':v=.bl Â:=q;subst q';obtain rfl:u=c! Â:=r';have W:∀b o,c.heap.get? b=À o->asItWas c.heap s'.heap b o:=fun b o e=>by
     rcases R b with z|⟨rfl,_,ob,xs,z⟩|⟨q,f,rfl,z⟩
     ·exact .inl (un.keep b o e z (by intro z;exact absurd (show b ∈ ([]:List Ç) from z) (by simp)) (by simp))
     ·have U:=un.frzs b ob _ z
      obtain⟨O,_⟩:=Pk b _ z;obtain⟨e2,_⟩:=t b _ U;rw[e]at O;cases O;exact .inl e2
     ·obtain⟨G,U⟩:=un.tbls _ _ z
      have e2:=t _ _ U;rw[(p q f).2]at e;cases e;exact .inr (.inl ⟨((p q f).1.tab (p q f).2).isCodeTable,rfl,#[],G,rfl,e2⟩)
    refine⟨rfl,⟨W,fun b o e=>?_⟩,os,Q⟩;exact un.there b o e (by simp)
 have A:∀q∈tabs,q.2≠a:=fun q f e=>by
  have:=(p q f).2
  rw[e,E]at this;cases this
 cases Z:K.lookup a with
 |some o =>
  have e:=KX a o Z;rw[E]at e;cases e;refine y (fun b=>if b∈tabs.map (·.2) then À (.tbl #[]) else Á) (.inr ⟨_,vs.toArray,_,Z,rfl,rfl,rfl,by rw[zI,I];exact hl,by simpa using rv⟩) (fun b u z=>?_) (fun b=>?_) fun q f=>yH (ϙ f)
  ·dsimp only at z
   by_cases g:b∈tabs.map (·.2)
   ·rw[yH g]at z;cases z
    obtain⟨q,f,rfl⟩:=yC.mp g;exact(p q f).2
   ·rw[yG g]at z;cases z
  ·by_cases g:b∈tabs.map (·.2)
   ·obtain⟨q,f,rfl⟩:=yC.mp g
    exact .inr (.inr ⟨q,f,rfl,yH g⟩)
   ·exact .inl (yG g)
 |none =>
  refine y (fun b=>if b∈tabs.map (·.2) then À (.tbl #[]) else if b=a then À (.frz { cls:=.type "list",data:=.seq vs.toArray } (.lst (ns.map V.int))) else Á) (.inl (.inr ⟨{ cls:=.type "list",data:=.seq vs.toArray },?_⟩)) (fun b u z=>?_) (fun b=>?_) fun q f=>yH (ϙ f)
  ·dsimp only
   rw[yG (fun z=>by obtain⟨q,f,e⟩:=yC.mp z;exact A q f e),yH rfl]
  ·dsimp only at z
   by_cases g:b∈tabs.map (·.2)
   ·rw[yH g]at z;cases z
    obtain⟨q,f,rfl⟩:=yC.mp g;exact(p q f).2
   ·rw[yG g]at z
    by_cases i:b=a
    ·rw[yH i]at z;cases z
     subst i;exact⟨E,by rw[zH];exact hl,vs,_,rv,E⟩
    ·rw[yG i]at z;cases z
  ·by_cases g:b∈tabs.map (·.2)
   ·obtain⟨q,f,rfl⟩:=yC.mp g
    exact .inr (.inr ⟨q,f,rfl,yH g⟩)
   ·by_cases i:b=a
    ·exact .inr (.inl ⟨i,Z,_,_,(yG g).trans (yH i)⟩)
    ·exact .inl ((yG g).trans (yG i))
theorem FO{l:P9}{n k:Nat}{q:Ò}{cD:List Ì}{T:(Ì->Option Å)->é->Prop}{D:à->é->Prop}{d:DefRec}{K:Params->á}{sp:à->Sp}{x:Ì}{tabs:List (Ç×Addr)}
  (I:l.most=À n) (j:n<=Ë) (p:d.params.defaults=[]) (E:Room k ώ)
  (O:∀(w:à)(h:é),D w h->(K w.params).In h/\∀q∈tabs,h.get? q.2=À (Q7 #[])) (M:∀(w:à),∀q∈tabs,codeHdIn (K w.params) q.1 q.2=Â) (t:∀(w:à),noTabs (K w.params)=Â)
  (F:∀(w:à)(mg:Ì->Option Å)(fa:Ç)(h:é),(K w.params).In h->h.Ns Ï mg->mg d.name=À (.ref fa) ->
   ∃fd:Ĕ,(∀(s:É)(u:Å),v! s fd ⟨[u],[]⟩ [(x,u)]) /\
    ∀base:é,(K w.params).In base->base.Ns Ï mg->kn mg base->FnOk l.prog w (K w.params) mg base fQ k fa fd [x] (sp w))
  (i:∀(w:à)(H:Hp)(a:Ç)(ns:List Int),ns.length<=n->(∀q∈tabs,H q.2=À (.tbl #[]))->cb (K w.params) H a (ns.map V.int)->sp w [.ref a] H (fun v _=>v=.bl Â) fun _ _ _=>False) :
  S5 q cD T D l.row.toRowW d [] (fun f vs=>M' f vs):=by
 refine Att.attach_call I p fun w B A mg W fa o pm Z S a vs ns G Y X hd L m g c b J=>?_
 obtain⟨y,r⟩:=O w _ Y;obtain⟨fd,N,R⟩:=F w mg fa _ y G.T.g m;exact Al (tabs:=tabs) y G.T.g G.T.b G.T.builtins G.T.nolimit J G.T.bmain (fun q C=>⟨codeHd_of_K y (M w q C),r q C⟩) (t w) g c (z5 b j) E R N (fun H Q P=>i w H a ns b Q P) fun H e U z=>z
end L2
namespace R
open PySem PySem.Spec PyProof.Rows L2
abbrev sP[Pf](K:á)(qual:Ì)(cd:Å)(la:List ę):Prop:=la=[]\/∃p c P,la=[p]/\cd=.ref c/\codeHdIn K c P=Â/\Pf.tb=[(P,p,qual++".<locals>."++"<lambda>")]
abbrev FactF[Pf](K:á)(x:Ì)(e:FE):Prop:=∃(f:Ç)(d:Å)(c:Option Ç)(b:Array (Option Å))(kV g pm:Å)(i:Option Ç)(a h:Å),nsIn K Ï x=À (À (.ref f)) /\
 K.lookup f=À ⟨d,c,.func (fnOf x e.qual (db e.st) (c9 e.st) (cg e.st) .none kV g pm i a h),b⟩/\ϟ K a e.qual=Â/\Ķ K (.ref f)=Â/\sP K e.qual a e.la
abbrev FactM[Pf](K:á)(c m:Ì)(e:FE):Prop:=∃(C f:Ç)(g:Å)(d:Option Ç)(b:Array (Option Å))(kV h pm:Å)(j:Option Ç)(a i:Å),nsIn K Ï c=À (À (.ref C))/\Ŏ K (.ref C) m=À (À (.ref f)) /\
 K.lookup f=À ⟨g,d,.func (fnOf m e.qual (db e.st) (c9 e.st) (cg e.st) .none kV h pm j a i),b⟩/\ϟ K a e.qual=Â/\Ķ K (.ref f)=Â/\isFn K (.ref f)=Â/\sP K e.qual a e.la
section
variable[Pf]{K:á}{C f:Ç}{oc:Å}{od:Option Ç}{sl:Array (Option Å)}{kV dc pm:Å}{an:Option Ç}{cd ct:Å}{x:Ì}{e:FE}
theorem ff(a:nsIn K Ï x=À (À (.ref f)))(l:K.lookup f=À ⟨oc,od,.func (fnOf x e.qual (db e.st) (c9 e.st) (cg e.st) .none kV dc pm an cd ct),sl⟩)(c:ϟ K cd e.qual=Â)(k:Ķ K (.ref f)=Â)(L:sP K e.qual cd e.la):FactF K x e:=⟨_,_,_,_,_,_,_,_,_,_,a,l,c,k,L⟩
theorem fm(a:nsIn K Ï x=À (À (.ref C)))(b:Ŏ K (.ref C) m=À (À (.ref f)))(l:K.lookup f=À ⟨oc,od,.func (fnOf m e.qual (db e.st) (c9 e.st) (cg e.st) .none kV dc pm an cd ct),sl⟩)(c:ϟ K cd e.qual=Â)(k:Ķ K (.ref f)=Â)(i:isFn K (.ref f)=Â)(L:sP K e.qual cd e.la):FactM K x m e:=⟨_,_,_,_,_,_,_,_,_,_,_,a,b,l,c,k,i,L⟩
end
abbrev FactN(K:á)(c:Ì):Prop:=∃C:Ç,nsIn K Ï c=À (À (.ref C))/\X! K C=Â/\Ķ K (.ref C)=Â
abbrev qz(K:á)(c:Ì):Prop:=∃C:Ç,nsIn K Ï c=À (À (.ref C))/\y! K C Str.empty=Â/\P0 K C=Â/\X8 K C=Â/\Ŏ K (.ref C) "__setattr__"=À (À (.builtin "object.__setattr__"))
abbrev ya(K:á)(c:Ì)(fs:List Ì):Prop:=∃C:Ç,nsIn K Ï c=À (À (.ref C))/\(fs.all fun f=>match Ŏ K (.ref C) f with|some Á=>Â|_=>Ã)=Â
abbrev DH(K:á):Prop:=(bnames.all fun x=>match nsIn K Ï x with|some Á=>Â|_=>Ã)=Â
section
variable[Pf]{K:á}{h base:é}{mg:Ì->Option Å}
theorem tB(B:K.In base)(g:kn mg base)(L:sP K qual cd la):vA mg base qual cd la:=by
 intro p b;rcases L with rfl|⟨q,c,P,rfl,e,f,a⟩
 ·cases b
 ·rw[zM.mp b]
  exact⟨c,P,e,codeHd_of_K B f,g,by rw[a];simp,fun t d _=>by rw[a]at d;exact zM.mp d⟩
theorem FactF.ok{n:Nat}(b:e.ke=.f x n)(F:FactF K x e)(X:K.In h)(G:h.Ns Ï mg)(B:K.In base)(d:kn mg base):e.ok K mg base:=by
 obtain⟨f,j,i,g,kV,m,pm,q,p,o,a,l,c,k,L⟩:=F;unfold FE.ok;rw[b];exact⟨f,_,W9 X G a,qe l c k,tB B d L⟩
theorem AK(F:qz K c)(X:K.In h)(G:h.Ns Ï mg)(b:nsIn K Ï c=À (À (.ref C))):mg c=À (.ref C)/\Cls K C:=by
 obtain⟨i,a,g,f,e,d⟩:=F;rw[b]at a;cases a;exact⟨W9 X G b,⟨g,f,e,d⟩⟩
theorem FactM.ok{n:Nat}(d:e.ke=.m c m n)(F:FactM K c m e)(p:qz K c)(X:K.In h)(G:h.Ns Ï mg)(B:K.In base)(j:kn mg base):e.ok K mg base:=by
 obtain⟨C,f,s,r,q,kV,t,pm,w,v,u,a,g,l,o,k,i,L⟩:=F;unfold FE.ok;rw[d];obtain⟨b,m2⟩:=AK p X G a;exact⟨f,_,C,b,m2,⟨g,i,k⟩,qe l o k,tB B j L⟩
theorem FactN.ok{n:Nat}(j:e.ke=.k c n)(F:FactM K c "__init__" e)(N:FactN K c)(X:K.In h)(G:h.Ns Ï mg)(B:K.In base)(m:kn mg base):e.ok K mg base:=by
 obtain⟨C,f,r,q,p,kV,s,pm,v,u,t,a,g,l,o,k,i,L⟩:=F;obtain⟨w,b,d,m2⟩:=N;rw[a]at b;cases b;unfold FE.ok;rw[j];exact⟨f,_,C,W9 X G a,⟨d,g,i,m2⟩,qe l o k,tB B m L⟩
abbrev FactG(K:á)(p:Ì×AV):Prop:=match p.2 with
 |.int i=>∃t,nsIn K Ï p.1=À (À (.int i t))
 |.str x=>∃t,nsIn K Ï p.1=À (À (.str x t))
 |_=>False
theorem FactG.ok(F:FactG K p)(X:K.In h)(G:h.Ns Ï mg):∀w,rW p.2=À w->∃u,mg p.1=À u/\RelV w u:=by
 obtain⟨x,c⟩:=p;intro w a;cases c with
 |int i=>obtain⟨t,e⟩:=F;cases a;exact⟨_,W9 X G e,t,rfl⟩
 |str y=>obtain⟨t,e⟩:=F;cases a;exact⟨_,W9 X G e,t,rfl⟩
 |_=>exact F.elim
theorem K2(X:K.In h)(G:h.Ns Ï mg)(k:DH K)(g:∀p∈gs,FactG K p)(j:∀p∈cl,qz K p.1/\ya K p.1 p.2):Ev K mg gs cl:=by
 refine⟨fun x d=>?_,fun p b=>(g p b).ok X G,fun p b=>?_⟩
 ·have:=yQ.mp k x d
  split at this
  ·rename_i e;exact mg_none_of X G e
  ·cases this
 ·obtain⟨l,C,a,fs⟩:=j p b
  obtain⟨c,m2⟩:=AK l X G a;refine⟨C,c,m2,fun f i=>?_⟩
  have:=yQ.mp fs f i
  split at this
  ·rename_i e;exact e
  ·cases this
end
abbrev jv[Pf](K:á)(e:FE):Prop:=match e.ke with
 |.f x _=>FactF K x e
 |.m c m _=>FactM K c m e
 |.k c _=>FactM K c "__init__" e/\FactN K c
section
variable[Pf]{K:á}{C f:Ç}{oc:Å}{od:Option Ç}{sl:Array (Option Å)}{kV dc pm:Å}{an:Option Ç}{cd ct:Å}{x m:Ì}{n:Nat}{e:FE}
theorem fe_f(b:e.ke=.f x n)(a:nsIn K Ï x=À (À (.ref f)))(l:K.lookup f=À ⟨oc,od,.func (fnOf x e.qual (db e.st) (c9 e.st) (cg e.st) .none kV dc pm an cd ct),sl⟩)(c:ϟ K cd e.qual=Â)(k:Ķ K (.ref f)=Â)(L:sP K e.qual cd e.la):jv K e:=by unfold jv;rw[b];exact ff a l c k L
theorem fe_m(d:e.ke=.m x m n)(a:nsIn K Ï x=À (À (.ref C)))(b:Ŏ K (.ref C) m=À (À (.ref f)))(l:K.lookup f=À ⟨oc,od,.func (fnOf m e.qual (db e.st) (c9 e.st) (cg e.st) .none kV dc pm an cd ct),sl⟩)(c:ϟ K cd e.qual=Â)(k:Ķ K (.ref f)=Â)(i:isFn K (.ref f)=Â)(L:sP K e.qual cd e.la):jv K e:=by unfold jv;rw[d];exact fm a b l c k i L
end
def lq[Pf](K:á):List FE->Prop
 |[]=>True
 |e::r=>jv K e/\lq K r
section
variable[Pf]{K:á}{C f:Ç}{oc:Å}{od:Option Ç}{sl:Array (Option Å)}{kV dc pm:Å}{an:Option Ç}{cd ct:Å}{x:Ì}{n:Nat}{e:FE}{r:List FE}
theorem fe_k(g:e.ke=.k x n)(a:nsIn K Ï x=À (À (.ref C)))(b:Ŏ K (.ref C) "__init__"=À (À (.ref f)))(l:K.lookup f=À ⟨oc,od,.func (fnOf "__init__" e.qual (db e.st) (c9 e.st) (cg e.st) .none kV dc pm an cd ct),sl⟩)(c:ϟ K cd e.qual=Â)(k:Ķ K (.ref f)=Â)(i:isFn K (.ref f)=Â)(L:sP K e.qual cd e.la)
  (d:X! K C=Â) (m2:Ķ K (.ref C)=Â):jv K e:=by unfold jv;rw[g];exact⟨fm a b l c k i L,C,a,d,m2⟩
theorem fes_c(h:jv K e)(t:lq K r):lq K (e::r):=⟨h,t⟩
theorem fes_n:lq K []:=trivial
end
noncomputable def Cw(cl:List (Ì×List Ì))(e:FE):Bool:=match e.ke with
 |.m c _ _=>decide (c∈cl.map (·.1))
 |_=>Â
theorem uY[Pf]{K:á}{h b:é}{mg:Ì->Option Å}(X:K.In h)(G:h.Ns Ï mg)(B:K.In b)(d:kn mg b)(g:∀p∈cl,qz K p.1/\ya K p.1 p.2):∀{pre:List FE},pre.all (Cw cl)=Â->lq K pre->∀e∈pre,e.ok K mg b
 |[],_,_,_,h=>nomatch h
 |a::r,hx,h,e,he=>by
  rw[ķ,zC]at hx;rcases zT.mp he with rfl|he
  ·have h1:=h.1
   have f:=hx.1;unfold jv at h1;unfold Cw at f;split at h1
   ·rename_i c;exact FactF.ok c h1 X G B d
   ·rename_i c
    rw[c]at f;obtain⟨p,i,j⟩:=yC.mp (of_decide_eq_true f);exact FactM.ok c h1 (by rw[<- j];exact(g p i).1) X G B d
   ·rename_i c;exact FactN.ok c h1.1 h1.2 X G B d
  ·exact uY X G B d g hx.2 h.2 e he
def DN:List Fn->List FE->List Fn->Prop
 |_,[],[]=>True
 |fs,e::r,F::Fs=>e.fn fs=F/\DN (fs++[F]) r Fs
 |_,_,_=>False
theorem AC:∀{pre:List FE}{fs Fs:List Fn},DN fs pre Fs->j3 fs pre=fs++Fs
 |[],fs,[],_=>(í fs).symm
 |e::r,fs,F::Fs,h=>by
  show j3 (fs++[e.fn fs]) r=_;rw[h.1,AC h.2];simp
 |[],_,_::_,h=>h.elim
 |_::_,_,[],h=>h.elim
theorem law_F[Pf]{P:Ò}{w:à}{K:á}{h:é}{mg:Ì->Option Å}{J:Ç}{gs:List (Ì×AV)}{cl:List (Ì×List Ì)}{pre:List FE}{e:FE}{fn:Fn}(X:K.In h)(G:h.Ns Ï mg)(y:mg "law"=À (.ref J))
  (W:DH K) (u:∀p∈gs,FactG K p) (C:∀p∈cl,qz K p.1/\ya K p.1 p.2) (r:qo gs cl [] pre=pre.map fun e=>À e.b) (z:e.chk gs cl pre=À e.b)
  (T:pre.all (Cw cl)=Â) (n:lq K pre) (Y:FactF K "law" e) (i:gE e.st=[("_law_script":Ì)]) (x:e.fn (j3 [] pre)=fn) :
  ∃fd:Ĕ,(∀(s:É)(v:Å),v! s fd ⟨[v],[]⟩ [("_law_script",v)])/\∀base:é,K.In base->base.Ns Ï mg->kn mg base ->
   FnOk P w K mg base fQ e.d J fd ["_law_script"] (fun vs H Q E=>∀mg,eG ⟨K,mg⟩ 1 fn vs H Q E):=by
 have E:=K2 X G W u C;obtain⟨h2,D,Z,I⟩:(e.ke.n==(gE e.st).length)=Â/\(e.cs.all fun j=>match pre[j]? with|some g=>å (g.d+3) e.d|none=>Ã)=Â/\å 3 e.d=Â/\e.tr Â (e.cs.map (uv pre)) gs cl=À e.b:=aL rfl z fun A h=>ka A fun a b c=>⟨a,b,c,h⟩
 obtain⟨d,hd⟩:∃d,e.d=d+3:=⟨e.d-3,by have:=zS Z;lia⟩;rw[hd]at D ⊢;obtain⟨f,oc,od,sl,kV,M,pm,R,O,N,a,l,c,k,L⟩:=Y;have m:=W9 X G a;rw[y]at m;cases m;have F:=qe l c k;refine⟨fnOf "law" e.qual (db e.st) (c9 e.st) (cg e.st) .none kV M pm R O N,fun s v=>?_,fun base B _ t=>?_⟩
 ·have U:plainA (db e.st)=Â:=aL rfl I fun A _=>ka A fun _ h _=>h
  refine .of_eq ?_
  have:=bind_plain (fd:=fnOf "law" e.qual (db e.st) (c9 e.st) (cg e.st) .none kV M pm R O N) (us:=[v]) U rfl (by show(gE e.st).Nodup;rw[i];simp) (by show _=(gE e.st).length;rw[i];rfl)
  rw[this];show pure ((gE e.st).zip [v])=_;rw[i];rfl
 ·have S:=vU (P:=P) (w:=w) E pre [] [] ⟨rfl,fun j g u=>by simp at u⟩ (uY X G B t C T n) r
  have V:=xD (d:=d) S e.cs D
  have:=(qd (e:=e.toFH) F E (tB B t L) V I).1
  rw[i]at this;have o:run e.N.length (af (e.cs.map (kf (j3 [] pre))) e.b)=fn:=x;rw[o]at this;exact this.imp fun vs H Q E q=>q mg
theorem walk_R[Pf]{l:P9}{k:Nat}{q:Ò}{cD:List Ì}{z:(Ì->Option Å)->é->Prop}{g:à->é->Prop}{d:DefRec}{K:Params->á}{fn:Fn}{tabs:List (Ç×Addr)}
  (n:l.most=À 63) (b:d.params.defaults=[]) (j:Room k ώ)
  (v:∀(w:à)(h:é),g w h->(K w.params).In h/\∀q∈tabs,h.get? q.2=À (Q7 #[])) (r:∀(w:à),∀q∈tabs,codeHdIn (K w.params) q.1 q.2=Â) (c:∀(w:à),noTabs (K w.params)=Â)
  (i:∀t∈Pf.tb,t.1∈tabs.map (·.2)) (p:∀ns:List Int,ns.length<=63->∃st,fn [.fz (ns.map .int)] []=À (.bl Â,st))
  (F:∀(w:à)(mg:Ì->Option Å)(fa:Ç)(h:é),(K w.params).In h->h.Ns Ï mg->mg d.name=À (.ref fa) ->
   ∃fd:Ĕ,(∀(s:É)(u:Å),v! s fd ⟨[u],[]⟩ [("_law_script",u)]) /\
    ∀base:é,(K w.params).In base->base.Ns Ï mg->kn mg base->FnOk l.prog w (K w.params) mg base fQ k fa fd ["_law_script"] (fun vs H Q E=>∀mg,eG ⟨K w.params,mg⟩ 1 fn vs H Q E)) :
  S5 q cD z g l.row.toRowW d [] (fun f vs=>M' f vs) :=
 FO (sp:=fun w vs H Q E=>∀mg,eG ⟨K w.params,mg⟩ 1 fn vs H Q E) n dC b j v r c F fun w H a ns o x y mg=>Ko (p ns o) y fun t h=>by
  obtain⟨q,m,e⟩:=yC.mp (i t h);exact⟨#[],by rw[<- e];exact x q m,trivial,.inl rfl⟩
end R
namespace SX
noncomputable def Pg:Nat->(Nat->Int)->Int
 |0,_=>0
 |n+1,f=>Pg n f+f n
theorem sum_congr{n:Nat}{f g:Nat->Int}(h:∀i,i<n->f i=g i):Pg n f=Pg n g:=by
 induction n with
 |zero=>rfl
 |succ n a=>simp only[Pg];rw[a fun i b=>h i oM,h n oM]
theorem sum_zero{n:Nat}{f:Nat->Int}(h:∀i,i<n->f i=0):Pg n f=0:=by
 induction n with
 |zero=>rfl
 |succ n a=>simp only[Pg];rw[a fun i b=>h i oM,h n oM];rfl
theorem sum_add(n:Nat)(f g:Nat->Int):Pg n (fun i=>f i+g i)=Pg n f+Pg n g:=by
 induction n with
 |zero=>rfl
 |succ n a=>simp only[Pg];rw[a];lia
theorem sum_mul(n:Nat)(c:Int)(f:Nat->Int):Pg n (fun i=>c*f i)=c*Pg n f:=by
 induction n with
 |zero=>simp[Pg]
 |succ n a=>simp only[Pg];rw[a,O!]
theorem sum_one{n k:Nat}{f:Nat->Int}(e:k<n)(h:∀i,i<n->i≠k->f i=0):Pg n f=f k:=by
 induction n with
 |zero=>lia
 |succ n b =>
  simp only[Pg];rcases yT k n with a|a
  ·rw[b a fun i c d=>h i oM d,h n oM oM];lia
  ·have:k=n:=by lia
   subst this;rw[sum_zero fun i c=>h i oM oM];lia
theorem vR{n k l:Nat}{f:Nat->Int}(d:k<n)(c:l<n)(a:k≠l)(h:∀i,i<n->i≠k->i≠l->f i=0):Pg n f=f k+f l:=by
 have e:Pg n f=Pg n (fun i=>(if i=k then f i else 0)+if i=k then 0 else f i):=sum_congr fun i _=>by split<;>lia
 rw[e,sum_add,sum_one (k:=k) d fun i _ b=>yG b,sum_one (k:=l) c fun i g b=>?_]
 ·rw[yH rfl,yG (fun z=>a z.symm)]
 ·by_cases z:i=k
  ·exact yH z
  ·rw[yG z];exact h i g z b
theorem sum_swap(n m:Nat)(f:Nat->Nat->Int):Pg n (fun i=>Pg m (fun j=>f i j))=Pg m (fun j=>Pg n (fun i=>f i j)):=by
 induction n with
 |zero=>exact(sum_zero fun _ _=>rfl).symm
 |succ n a=>simp only[Pg];rw[a,<- sum_add]
noncomputable def up(A:Nat->Nat->Int)(r:Nat)(u:Nat->Int):Nat->Nat->Int:=fun i=>if i=r then u else A i
theorem cB{A:Nat->Nat->Int}{r:Nat}{u:Nat->Int}:up A r u r=u:=yH rfl
theorem bH{A:Nat->Nat->Int}{r i:Nat}{u:Nat->Int}(h:i≠r):up A r u i=A i:=yG h
theorem gO{A:Nat->Nat->Int}{r:Nat}:up A r (A r)=A:=by
 funext i;by_cases h:i=r
 ·rw[h,cB]
 ·exact bH h
theorem jx{A:Nat->Nat->Int}{r q:Nat}{u v:Nat->Int}(h:r≠q):up (up A r u) q v=up (up A q v) r u:=by
 funext i;by_cases b:i=q
 ·subst b;rw[cB,bH (fun z=>h z.symm),cB]
 ·rw[bH b]
  by_cases a:i=r
  ·subst a;rw[cB,cB]
  ·rw[bH a,bH a,bH b]
noncomputable def skip(k i:Nat):Nat:=if i<k then i else i+1
noncomputable def kM(k r:Nat):Nat:=if r<k then r else r-1
noncomputable def sg(k:Nat):Int:=if k%2=0 then 1 else -1
theorem Eg(k:Nat):sg (k+1)=- sg k:=by unfold sg;split<;>split<;>lia
theorem Gn(k:Nat):(sg k).natAbs=1:=by unfold sg;split<;>rfl
def iy(A:Nat->Nat->Int)(k:Nat):Nat->Nat->Int:=fun i j=>A (skip k i) (j+1)
def bN:Nat->(Nat->Nat->Int)->Int
 |0,_=>1
 |n+1,A=>Pg (n+1) fun k=>sg k*A k 0*bN n (iy A k)
theorem o0{A:Nat->Nat->Int}{k:Nat}{u:Nat->Int}:iy (up A k u) k=iy A k:=by
 funext i j;unfold iy;rw[bH];unfold skip;split<;>lia
theorem uf{A:Nat->Nat->Int}{k r:Nat}{u:Nat->Int}(h:r≠k):iy (up A r u) k=up (iy A k) (kM k r) (fun j=>u (j+1)):=by
 funext i j;unfold iy;by_cases a:i=kM k r
 ·have:skip k i=r:=by unfold skip;unfold kM at a;split at a<;>split<;>lia
  rw[this,cB,a,cB]
 ·have:skip k i≠r:=by unfold skip;unfold kM at a;split at a<;>split<;>lia
  rw[bH this,bH a]
theorem d9:∀{n:Nat}{A B:Nat->Nat->Int},(∀i j,i<n->j<n->A i j=B i j)->bN n A=bN n B
 |0,_,_,_=>rfl
 |n+1,A,B,h=>sum_congr fun k hk=>by
  rw[h k 0 hk oM,d9 (A:=iy A k) (B:=iy B k) fun i j hi hj=>h _ _ (by unfold skip;split<;>lia) oM]
theorem iI:∀{n:Nat}{A:Nat->Nat->Int}{r:Nat}{a b:Int}{u v:Nat->Int},r<n->bN n (up A r fun j=>a*u j+b*v j)=a*bN n (up A r u)+b*bN n (up A r v)
 |0,_,_,_,_,_,_,h=>by lia
 |n+1,A,r,a,b,u,v,h=>by
  show Pg (n+1) _=a*Pg (n+1) _+b*Pg (n+1) _;rw[<- sum_mul,<- sum_mul,<- sum_add];refine sum_congr fun k hk=>?_
  by_cases e:r=k
  ·subst e
   rw[o0,o0,o0,cB,cB,cB]
   grind
  ·rw[uf e,uf e,uf e,bH (fun z=>e z.symm),bH (fun z=>e z.symm),bH (fun z=>e z.symm)]
   rw[iI (A:=iy A k) (r:=kM k r) (u:=fun j=>u (j+1)) (v:=fun j=>v (j+1)) (by unfold kM;split<;>lia)]
   grind
theorem nU:∀{n:Nat}{A:Nat->Nat->Int}{r:Nat},r+1<n->(∀j,A r j=A (r+1) j)->bN n A=0
 |0,_,_,h,_=>by lia
 |n+1,A,r,h,e=>by
  show Pg (n+1) _=0;have hm:bN n (iy A r)=bN n (iy A (r+1)):=by
   refine d9 fun i j _ _=>?_
   unfold iy;by_cases d:i=r
   ·subst d
    have c:skip i i=i+1:=by unfold skip;split<;>lia
    have b:skip (i+1) i=i:=by unfold skip;split<;>lia
    rw[c,b,e]
   ·have:skip r i=skip (r+1) i:=by unfold skip;split<;>split<;>lia
    rw[this]
  rw[vR (k:=r) (l:=r+1) oM h oM fun k f c b=>?_]
  ·rw[hm,e 0,Eg];grind
  ·have:bN n (iy A k)=0:=by
    rcases yT k r with a|a
    ·refine nU (r:=r-1) oM fun j=>?_
     unfold iy;have a1:skip k (r-1)=r:=by unfold skip;split<;>lia
     have a2:skip k (r-1+1)=r+1:=by unfold skip;split<;>lia
     rw[a1,a2,e]
    ·refine nU (r:=r) oM fun j=>?_
     unfold iy;have a1:skip k r=r:=by unfold skip;split<;>lia
     have a2:skip k (r+1)=r+1:=by unfold skip;split<;>lia
     rw[a1,a2,e]
   rw[this,yO]
theorem oF{n:Nat}{A:Nat->Nat->Int}{c j:Nat}(d:c<n)(e:j<n)(a:c≠j)(b:∀x:Nat->Int,bN n (up (up A c x) j x)=0)(u v:Nat->Int):bN n (up (up A c u) j v)=- bN n (up (up A c v) j u):=by
 have h:=b (fun k=>1*u k+1*v k);rw[iI e,jx a,iI d,jx a (v:=v),iI d,<- jx a,<- jx a,<- jx a,<- jx a,b u,b v]at h;lia
theorem re{n:Nat}:∀(k:Nat){A:Nat->Nat->Int}{i j:Nat},j=i+k+1->j<n->(∀x,A i x=A j x)->bN n A=0
 |0,A,i,j,e,hj,h=>nU (r:=i) oM (by subst e;exact h)
 |k+1,A,i,j,e,hj,h=>by
  have alt:∀x:Nat->Int,bN n (up (up A (j-1) x) j x)=0:=fun x=>nU (r:=j-1) oM fun y=>by
   rw[show j-1+1=j by lia,cB,bH oM,cB]
  have a:=oF (A:=A) (c:=j-1) (j:=j) oM hj oM alt (A (j-1)) (A j);rw[gO,gO]at a;rw[a,re k (A:=up (up A (j-1) (A j)) j (A (j-1))) (i:=i) (j:=j-1) oM oM fun x=>by
   rw[bH oM,bH oM,bH oM,cB,h]]
  rfl
theorem k9{n:Nat}{A:Nat->Nat->Int}{i j:Nat}(c:i<n)(b:j<n)(a:i≠j)(h:∀x,A i x=A j x):bN n A=0:=by
 rcases yT i j with l|l
 ·exact re (j-i-1) (i:=i) (j:=j) oM b h
 ·exact re (i-j-1) (i:=j) (j:=i) oM c fun x=>(h x).symm
theorem Cr{n:Nat}{A:Nat->Nat->Int}{c j:Nat}(d:c<n)(b:j<n)(a:c≠j)(u v:Nat->Int):bN n (up (up A c u) j v)=- bN n (up (up A c v) j u) :=
 oF d b a (fun x=>k9 d b a fun y=>by rw[bH a,cB,cB]) u v
theorem k8{n:Nat}{A:Nat->Nat->Int}{r:Nat}(c:r<n){t:Nat->Int}{b:Nat->Nat->Int}:∀m:Nat,bN n (up A r fun x=>Pg m fun k=>t k*b k x)=Pg m fun k=>t k*bN n (up A r (b k))
 |0=>by
  have:=iI (A:=A) (r:=r) (a:=0) (b:=0) (u:=fun _=>0) (v:=fun _=>0) c
  simp only[yP,î]at this;exact this
 |m+1=>by
  have:=iI (A:=A) (r:=r) (a:=1) (b:=t m) (u:=fun x=>Pg m fun k=>t k*b k x) (v:=b m) c
  rw[ů,k8 c m]at this;simp only[ů]at this;exact this
theorem qZ{n:Nat}{A:Nat->Nat->Int}{r:Nat}(c:r<n){d:Int}{u:Nat->Int}:bN n (up A r fun x=>d*u x)=d*bN n (up A r u):=by
 have:=iI (A:=A) (r:=r) (a:=d) (b:=0) (u:=u) (v:=u) c
 simp only[yP,î]at this;exact this
theorem jM{n:Nat}{A:Nat->Nat->Int}{r:Nat}{u v:Nat->Int}(h:∀x,x<n->u x=v x):bN n (up A r u)=bN n (up A r v):=d9 fun i j _ a=>by
 by_cases e:i=r
 ·subst e;rw[cB,cB];exact h j a
 ·rw[bH e,bH e]
theorem K9{n:Nat}{B:Nat->Nat->Int}{j:Nat}{d:Int}{v:Nat->Int}{t:Nat->Int}(b:j<n)(h:∀x,x<n->d*v x=Pg n fun k=>t k*B k x):d*bN n (up B j v)=t j*bN n B:=by
 rw[<- qZ b,jM h,k8 b,sum_one b fun k c a=>?_,gO];rw[k9 (i:=k) (j:=j) c b a fun x=>by rw[bH a,cB],yO]
theorem K8{n:Nat}{B:Nat->Nat->Int}{c j:Nat}{d:Int}{u v:Nat->Int}{t:Nat->Int}(e:c<n)(b:j<n)(a:c≠j)(h:∀x,x<n->d*v x=Pg n fun k=>t k*B k x) :
  d*bN n (up (up B c u) j v)=t j*bN n (up B c u)-t c*bN n (up B j u):=by
 rw[<- qZ b,jM h,k8 b,vR b e (fun z=>a z.symm) fun k g f l=>?_]
 ·have m:up (up B c u) j (B j)=up B c u:=by
   have:up B c u j=B j:=bH fun z=>a z.symm
   rw[<- this,gO]
  rw[m,Cr e b a u (B c),gO]
  grind
 ·rw[k9 (i:=k) (j:=j) g b f fun x=>by rw[bH f,bH l,cB],yO]
noncomputable def fct:Nat->Nat
 |0=>1
 |n+1=>(n+1)*fct n
theorem abs_sum{n:Nat}{f:Nat->Int}{M:Nat}(h:∀i,i<n->(f i).natAbs<=M):(Pg n f).natAbs<=n*M:=by
 induction n with
 |zero=>simp[Pg]
 |succ n a =>
  simp only[Pg];have d:=a fun i b=>h i oM
  have c:=h n oM;rw[D!]
  have:=T? (Pg n f) (f n)
  lia
theorem u8:∀{n:Nat}{A:Nat->Nat->Int}{M:Nat},(∀i j,i<n->j<n->(A i j).natAbs<=M)->(bN n A).natAbs<=fct n*M^n
 |0,_,_,_=>by simp[bN,fct]
 |n+1,A,M,h=>by
  show(Pg (n+1) _).natAbs<=_;refine z5 (abs_sum (M:=M*(fct n*M^n)) fun k hk=>?_) ?_
  ·rw[yZ,yZ,Gn,ϐ]
   exact ţ (h k 0 hk oM) (u8 fun i j hi hj=>h _ _ (by unfold skip;split<;>lia) oM)
  ·show(n+1)*(M*(fct n*M^n))<=(n+1)*fct n*M^(n+1)
   rw[E!];generalize fct n=a;generalize M^n=b;exact Ϯ (by grind)
noncomputable def eW(w:Nat):Nat->Int:=fun x=>if x=w then 1 else 0
def aP(w:Nat)(v:Nat->Nat->Int)(h:Nat->Nat):Nat->Nat->Int:=fun k=>if k=w then eW w else v (h k)
structure Lin(w m:Nat)(v:Nat->Nat->Int)(d:Int)(t:Nat->Nat->Int)(h s:Nat->Nat):Prop where
 pos:0<d
 lin:∀i,i<m->∀x,x<w+1->d*v (s i) x=Pg (w+1) fun k=>t i k*aP w v h k x
 dt:∃g:Int,g*g=1/\bN (w+1) (aP w v h)=g*d
structure sN(w m r c:Nat)(e d:Int)(t:Nat->Nat->Int)(h s:Nat->Nat)(d':Int)(t':Nat->Nat->Int)(h' s':Nat->Nat):Prop where
 e1:e*e=1
 ep:0<e*t r c
 d':d'=e*t r c
 tc:∀i,i<m->i≠r->t' i c=e*t i c
 tj:∀i,i<m->i≠r->∀j,j<w+1->j≠c->t' i j=(t i j*(e*t r c)-t i c*(e*t r j))/d
 rc:t' r c=e*d
 rj:∀j,j<w+1->j≠c->t' r j=- (e*t r j)
 hc:h' c=s r
 hj:∀j,j<w->j≠c->h' j=h j
 sr:s' r=h c
 si:∀i,i<m->i≠r->s' i=s i
section
variable{w m r c:Nat}{e d d':Int}{v t t':Nat->Nat->Int}{h s h' s':Nat->Nat}
theorem Lin.one(L:Lin w m v d t h s){g:Int}(e:bN (w+1) (aP w v h)=g*d){i j:Nat}(c:i<m)(b:j<w+1):bN (w+1) (up (aP w v h) j (v (s i)))=g*t i j:=by
 have a:=K9 (n:=w+1) (j:=j) b (L.lin i c);rw[e]at a;have f:d≠0:=by have:=L.pos;lia
 refine Ĵ f ?_;rw[a];grind
theorem Lin.ex(L:Lin w m v d t h s){i j:Nat}(o:i<m)(b:r<m)(k:c<w+1)(e:j<w+1)(a:c≠j):d ∣ t i j*t r c-t i c*t r j:=by
 obtain⟨g,g1,f⟩:=L.dt;have l:=K8 (n:=w+1) (c:=c) (j:=j) (u:=v (s r)) k e a (L.lin i o);rw[L.one f b k,L.one f b e]at l;refine⟨g*bN (w+1) (up (up (aP w v h) c (v (s r))) j (v (s i))),?_⟩;generalize bN (w+1) (up (up (aP w v h) c (v (s r))) j (v (s i)))=D at l
 grind
theorem Lin.ex'(L:Lin w m v d t h s){i j:Nat}(g:i<m)(b:r<m)(l:c<w+1)(f:j<w+1)(a:c≠j):d*((t i j*(e*t r c)-t i c*(e*t r j))/d)=t i j*(e*t r c)-t i c*(e*t r j):=by
 refine N? ?_;obtain⟨k,n⟩:=L.ex g b l f a;exact⟨e*k,by grind⟩
theorem vq(g:c<w)(d:h' c=s r)(b:∀j,j<w->j≠c->h' j=h j):∀k,k<w+1->aP w v h' k=up (aP w v h) c (v (s r)) k:=by
 intro k f;unfold aP;by_cases e:k=c
 ·subst e;rw[cB,yG oM,d]
 ·rw[bH e]
  by_cases a:k=w
  ·rw[yH a,yH a]
  ·rw[yG a,yG a,b k oM e]
theorem Lin.piv(L:Lin w m v d t h s)(P:sN w m r c e d t h s d' t' h' s')(o:r<m)(p:c<w):Lin w m v d' t' h' s':=by
 have u:d≠0:=by have:=L.pos;lia
 have A:=P.e1;refine⟨by rw[P.d'];exact P.ep,fun i f x n=>?_,?_⟩
 ·by_cases l:i=r
  ·subst l
   rw[P.sr,P.d'];have b:Pg (w+1) (fun k=>t' i k*aP w v h' k x)=Pg (w+1) fun k=>(- e)*(t i k*aP w v h k x)+if k=c then e*t i c*aP w v h c x+e*d*v (s i) x else 0:=by
    refine sum_congr fun k b=>?_
    rw[vq p P.hc P.hj k b];by_cases a:k=c
    ·subst a;rw[yH rfl,cB,P.rc];grind
    ·rw[yG a,bH a,P.rj k b a];grind
   rw[b,sum_add,sum_mul,<- L.lin i f x n,sum_one (k:=c) oM fun k _ z=>yG z,yH rfl];have:aP w v h c x=v (h c) x:=by unfold aP;rw[yG oM]
   rw[this];grind
  ·refine Ĵ u ?_
   rw[P.si i f l,<- sum_mul];have b:Pg (w+1) (fun k=>d*(t' i k*aP w v h' k x))=Pg (w+1) fun k=>(e*t r c*(t i k*aP w v h k x)+(- (e*t i c))*(t r k*aP w v h k x))+if k=c then d*(e*t i c*v (s r) x) else 0:=by
    refine sum_congr fun k b=>?_
    rw[vq p P.hc P.hj k b];by_cases a:k=c
    ·subst a;rw[yH rfl,cB,P.tc i f l];grind
    ·rw[yG a,bH a,P.tj i f l k b a,<- p?,L.ex' f o oM b fun z=>a z.symm];grind
   rw[b,sum_add,sum_add,sum_mul,sum_mul,<- L.lin i f x n,<- L.lin r o x n,sum_one (k:=c) oM fun k _ z=>yG z,yH rfl,P.d']
   grind
 ·obtain⟨g,g1,q⟩:=L.dt
  refine⟨g*e,by grind,?_⟩;rw[d9 (B:=up (aP w v h) c (v (s r))) fun i j f y=>by rw[vq p P.hc P.hj i f],L.one q o oM,P.d']
  grind
theorem Lin.func(L:Lin w m v d t h s)(C:∀q,q<w->∀x,x<w+1->v q x=if x=q then 1 else 0)(f:c<w+1){X:Nat->Int}(D:∀i,i<m->s i<w->X (s i)=t i c)(G:∀j,j<w->h j<w->X (h j)=if j=c then d else 0)
  (r:∀q,q<w->(∃i,i<m/\s i=q)\/∃j,j<w/\h j=q) :
  (∀i,i<m->(Pg w fun q=>v (s i) q*X q)+v (s i) w*(if c=w then d else 0)=t i c)/\∀j,j<w->(Pg w fun q=>v (h j) q*X q)+v (h j) w*(if c=w then d else 0)=if j=c then d else 0:=by
 obtain⟨g,g1,o⟩:=L.dt;have F:∀u:Nat->Int,(Pg w fun q=>u q*X q)+u w*(if c=w then d else 0)=g*bN (w+1) (up (aP w v h) c u):=fun u=>by
  have I:bN (w+1) (up (aP w v h) c u)=Pg (w+1) fun q=>u q*bN (w+1) (up (aP w v h) c (eW q)):=by
   rw[<- k8 f];refine jM fun x p=>?_
   rw[sum_one p fun k _ z=>by unfold eW;rw[yG fun y=>z y.symm,yO]];unfold eW;rw[yH rfl,ϻ]
  have B:∀k,k<w+1->g*bN (w+1) (up (aP w v h) c (aP w v h k))=if k=c then d else 0:=fun k E=>by
   by_cases a:k=c
   ·rw[yH a,a,gO,o];grind
   ·rw[yG a,k9 (i:=k) (j:=c) E f a fun x=>by rw[bH a,cB],yO]
  rw[I,<- sum_mul];show _=Pg w _+_;congr 1
  ·refine sum_congr fun q l=>?_
   have:g*bN (w+1) (up (aP w v h) c (eW q))=X q:=by
    have ev:∀x,x<w+1->eW q x=v q x:=fun x p=>(C q l x p).symm
    rw[jM ev];rcases r q l with⟨i,n,rfl⟩|⟨j,A,rfl⟩
    ·rw[L.one o n f,D i n l];grind
    ·have:=B j oM
     rw[show aP w v h j=v (h j) by unfold aP;rw[yG oM]]at this;rw[this,G j A l]
   rw[<- this];grind
  ·have:=B w oM
   rw[show aP w v h w=eW w by unfold aP;rw[yH rfl]]at this;have H:(if c=w then d else 0)=if w=c then d else 0:=by
    by_cases z:c=w
    ·rw[yH z,yH z.symm]
    ·rw[yG z,yG fun y=>z y.symm]
   rw[H,<- this];grind
 refine⟨fun i n=>?_,fun j A=>?_⟩
 ·rw[F,L.one o n f];grind
 ·rw[F]
  have e:v (h j)=aP w v h j:=by unfold aP;rw[yG oM]
  rw[e];by_cases b:j=c
  ·rw[yH b,b,gO,o];grind
  ·rw[yG b,k9 (i:=j) (j:=c) oM f b fun x=>by rw[bH b,cB],yO]
theorem Lin.bound(L:Lin w m v d t h s){M:Nat}(o:1<=M)(c:∀q x,x<w+1->(v q x).natAbs<=M):d.natAbs<=fct (w+1)*M^(w+1)/\∀i,i<m->∀j,j<w+1->(t i j).natAbs<=fct (w+1)*M^(w+1):=by
 obtain⟨g,g1,e⟩:=L.dt;have ga:g.natAbs=1:=by
  have:g.natAbs*g.natAbs=1:=by rw[<- yZ,g1];rfl
  exact Ϻ this
 have f:∀k x,x<w+1->(aP w v h k x).natAbs<=M:=fun k x a=>by
  unfold aP;split
  ·unfold eW;split<;>simp<;>lia
  ·exact c _ x a
 refine⟨?_,fun i l j b=>?_⟩
 ·have:=u8 (n:=w+1) (A:=aP w v h) (M:=M) fun i j _ b=>f i j b
  rw[e,yZ,ga,ϐ]at this;exact this
 ·have:=u8 (n:=w+1) (A:=up (aP w v h) j (v (s i))) (M:=M) fun k x _ a=>by
   by_cases z:k=j
   ·subst z;rw[cB];exact c _ x a
   ·rw[bH z];exact f k x a
  rw[L.one e l b,yZ,ga,ϐ]at this;exact this
end
structure Pm(w m:Nat)(h s:Nat->Nat):Prop where
 hl:∀j,j<w->h j<w+m
 sl:∀i,i<m->s i<w+m
 hi:∀j k,j<w->k<w->h j=h k->j=k
 si:∀j k,j<m->k<m->s j=s k->j=k
 hs:∀j i,j<w->i<m->h j≠s i
 cov:∀q,q<w+m->(∃i,i<m/\s i=q)\/∃j,j<w/\h j=q
structure Fea(w m:Nat)(G N:Nat->Prop)(t:Nat->Nat->Int)(h s:Nat->Nat):Prop where
 g:∀i,i<m->G (s i)->0<=t i w
 n:∀i,i<m->N (s i)->t i w=0/\∀j,j<w->¬N (h j)->t i j=0
 f:∀j,j<w->G (h j)\/N (h j)
section
variable{w m r c:Nat}{e d d':Int}{v t t':Nat->Nat->Int}{h s h' s':Nat->Nat}{G N G' N':Nat->Prop}
theorem Pm.piv(Q:Pm w m h s)(P:sN w m r c e d t h s d' t' h' s')(n:r<m)(o:c<w):Pm w m h' s':=by
 have u:∀j,j<w->(j=c/\h' j=s r)\/(j≠c/\h' j=h j):=fun j f=>by
  by_cases z:j=c
  ·subst z;exact .inl ⟨rfl,P.hc⟩
  ·exact .inr ⟨z,P.hj j f z⟩
 have p:∀i,i<m->(i=r/\s' i=h c)\/(i≠r/\s' i=s i):=fun i g=>by
  by_cases z:i=r
  ·subst z;exact .inl ⟨rfl,P.sr⟩
  ·exact .inr ⟨z,P.si i g z⟩
 refine⟨fun j f=>?_,fun i g=>?_,fun j k f l e=>?_,fun j k f l e=>?_,fun j i f g e=>?_,fun q v=>?_⟩
 ·rcases u j f with⟨_,z⟩|⟨_,z⟩<;>rw[z]
  ·exact Q.sl r n
  ·exact Q.hl j f
 ·rcases p i g with⟨_,z⟩|⟨_,z⟩<;>rw[z]
  ·exact Q.hl c o
  ·exact Q.sl i g
 ·rcases u j f with⟨a,z⟩|⟨a,z⟩<;>rcases u k l with⟨b,y⟩|⟨b,y⟩<;>rw[z,y]at e
  ·rw[a,b]
  ·exact absurd e.symm (Q.hs k r l n)
  ·exact absurd e (Q.hs j r f n)
  ·exact Q.hi j k f l e
 ·rcases p j f with⟨a,z⟩|⟨a,z⟩<;>rcases p k l with⟨b,y⟩|⟨b,y⟩<;>rw[z,y]at e
  ·rw[a,b]
  ·exact absurd e (Q.hs c k o l)
  ·exact absurd e.symm (Q.hs c j o f)
  ·exact Q.si j k f l e
 ·rcases u j f with⟨a,z⟩|⟨a,z⟩<;>rcases p i g with⟨b,y⟩|⟨b,y⟩<;>rw[z,y]at e
  ·exact Q.hs c r o n e.symm
  ·exact b (Q.si i r g n e.symm)
  ·exact a (Q.hi j c f o e)
  ·exact Q.hs j i f g e
 ·by_cases z:q=h c
  ·exact .inl ⟨r,n,by rw[P.sr,z]⟩
  ·by_cases y:q=s r
   ·exact .inr ⟨c,o,by rw[P.hc,y]⟩
   ·rcases Q.cov q v with⟨i,g,e⟩|⟨j,f,e⟩
    ·exact .inl ⟨i,g,by rw[P.si i g (fun x=>y (by rw[<- e,x]))];exact e⟩
    ·exact .inr ⟨j,f,by rw[P.hj j f (fun x=>z (by rw[<- e,x]))];exact e⟩
theorem nn_of{d x:Int}(hd:0<d)(h:0<=d*x):0<=x:=by
 rcases yU x 0 with z|z
 ·have:=ũ hd z;lia
 ·exact z
theorem A9{d x:Int}(hd:0<d)(h:d*x=0):x=0:=by
 rcases U8.mp h with z|z
 ·lia
 ·exact z
theorem Fea.piv(L:Lin w m v d t h s)(Q:Pm w m h s)(F:Fea w m G N t h s)(P:sN w m r c e d t h s d' t' h' s')(b:r<m)(A:c<w)(C:¬N (h c))
  (val:∀i,i<m->i≠r->G (s i)->0<=t i w*(e*t r c)-t i c*(e*t r w)) (new:G (h c)->0<=- (e*t r w))
  (B:∀q,q≠s r->(G' q ↔ G q)) (o:∀q,q≠s r->(N' q ↔ N q)) (u:G' (s r)\/N' (s r)):Fea w m G' N' t' h' s':=by
 have g:∀i,i<m->i≠r->s i≠s r:=fun i a z y=>z (Q.si i r a b y)
 refine⟨fun i a n=>?_,fun i a l=>?_,fun j f=>?_⟩
 ·by_cases z:i=r
  ·subst z
   rw[P.rj w oM oM];rw[P.sr]at n;exact new ((B _ (Q.hs c i A b)).mp n)
  ·rw[P.si i a z]at n
   have:=val i a z ((B _ (g i a z)).mp n)
   rw[P.tj i a z w oM oM];exact nn_of L.pos (by rw[L.ex' a b oM oM oM];exact this)
 ·by_cases z:i=r
  ·subst z
   rw[P.sr]at l;exact absurd ((o _ (Q.hs c i A b)).mp l) C
  ·rw[P.si i a z]at l
   obtain⟨E,D⟩:=F.n i a ((o _ (g i a z)).mp l);have p:=D c A C;refine⟨?_,fun j f k=>?_⟩
   ·rw[P.tj i a z w oM oM]
    exact A9 L.pos (by rw[L.ex' a b oM oM oM,E,p];grind)
   ·by_cases y:j=c
    ·subst y;rw[P.tc i a z,p,yO]
    ·rw[P.hj j f y]at k
     have:=D j f fun x=>k ((o _ (Q.hs j r f b)).mpr x)
     rw[P.tj i a z j oM y];exact A9 L.pos (by rw[L.ex' a b oM oM (fun x=>y x.symm),this,p];grind)
 ·by_cases y:j=c
  ·subst y;rw[P.hc];exact u
  ·rw[P.hj j f y]
   rcases F.f j f with x|x
   ·exact .inl ((B _ (Q.hs j r f b)).mpr x)
   ·exact .inr ((o _ (Q.hs j r f b)).mpr x)
theorem Fea.tight(L:Lin w m v d t h s)(Q:Pm w m h s)(F:Fea w m G N t h s)(P:sN w m r c e d t h s d' t' h' s')(g:r<m)(x:c<w)(q:¬N (h c))(l:G (s r))(p:t r c<0)
  (o:∀i,i<m->G (s i)->t i c<0->t r w*- t i c<=t i w*- t r c):Fea w m G N t' h' s':=by
 have n:e=-1:=by
  have B:=P.ep;have A:=P.e1;rcases yU e 0 with z|z
  ·have:e*e=1:=A
   have:e=-1:=by
    rcases yU e (-1) with y|y
    ·have:1<e*e:=by
      have a:(-e)*1<(-e)*(-e):=ť oM oM;have b:(-e)*(-e)=e*e:=by grind
      lia
     lia
    ·lia
   exact this
  ·have:e*t r c<=0:=ľ z oM
   lia
 have f:=F.g r g l;refine Fea.piv L Q F P g x q (fun i j ne k=>?_) (fun _=>by rw[n];lia) (fun _ _=>.rfl) (fun _ _=>.rfl) (.inl l);have u:=F.g i j k;rw[n];rcases yU (t i c) 0 with z|z
 ·have:=o i j k z
  have a:t i w*(-1*t r c)-t i c*(-1*t r w)=t i w*- t r c-t r w*- t i c:=by grind
  rw[a];lia
 ·have a:t i w*(-1*t r c)-t i c*(-1*t r w)=t i w*- t r c+t i c*t r w:=by grind
  rw [a];have b:=è u (show 0 <= - t r c by lia);have c:=è z f;lia
theorem Fea.lift(L:Lin w m v d t h s)(Q:Pm w m h s)(F:Fea w m G N t h s)(P:sN w m r c e d t h s d' t' h' s')(p:r<m)(u:c<w)(n:¬N (h c))(pos:0<t r c)(low:t r w<0)
  (l:∀i,i<m->G (s i)->t i c<0->t r w*t i c<=t i w*t r c) (A:∀q,q≠s r->(G' q ↔ G q)) (x:∀q,q≠s r->(N' q ↔ N q)) (g:G' (s r)\/N' (s r)):Fea w m G' N' t' h' s':=by
 have f:e=1:=by
  have C:=P.ep;have B:=P.e1;have f:0<e:=by
   rcases yU 0 e with z|z
   ·exact z
   ·have:e*t r c<=0:=Ľ z oM
    lia
  rcases yU 1 e with y|y
  ·have:e*1<e*e:=ť y f
   lia
  ·lia
 refine Fea.piv L Q F P p u n (fun i j ne k=>?_) (fun _=>by rw[f];lia) A x g;have o:=F.g i j k;rw[f];rcases yU (t i c) 0 with z|z
 ·have:=l i j k z
  have a:t i w*(1*t r c)-t i c*(1*t r w)=t i w*t r c-t r w*t i c:=by grind
  rw[a];lia
 ·have a:t i w*(1*t r c)-t i c*(1*t r w)=t i w*t r c+t i c*- t r w:=by grind
  rw [a];have b:=è o (show 0 <= t r c by lia);have c:=è z (show 0 <= - t r w by lia);lia
theorem Fea.move(L:Lin w m v d t h s)(Q:Pm w m h s)(F:Fea w m G N t h s)(P:sN w m r c e d t h s d' t' h' s')(l:r<m)(p:c<w)(j:¬N (h c))(f:t r w=0)
  (x:∀q,q≠s r->(G' q ↔ G q)) (u:∀q,q≠s r->(N' q ↔ N q)) (g:G' (s r)\/N' (s r)):Fea w m G' N' t' h' s':=by
 refine Fea.piv L Q F P l p j (fun i n ne o=>?_) (fun _=>by rw[f];lia) x u g;have k:=F.g i n o
 have:=P.ep
 have b:=è k (show 0 <= e * t r c by lia);rw [f];have a:t i w * (e * t r c) - t i c * (e * 0)=t i w * (e * t r c):=by grind
 rw[a];exact b
theorem Fh{a b x y u z:Int}(m:b<0)(k:x<0)(l:0<u)(g:z*b<=a*u)(f:a*- x<=y*- b):z*x<=y*u:=by
 have d:(z*b)*(-x)<=(a*u)*(-x):=Ü g oM;have c:(a*- x)*u<=(y*- b)*u:=Ü f oM;have e:(z*x)*(-b)<=(y*u)*(-b):=by
  have j:(z*b)*(-x)=(z*x)*(-b):=by grind
  have i:(a*u)*(-x)=(a*- x)*u:=by grind
  have h:(y*- b)*u=(y*u)*(-b):=by grind
  rw[j,i]at d;rw[h]at c;exact ň d c
 exact Ĩ e oM
theorem Fea.guard{p:Nat}(F:Fea w m G N t h s)(Q:Pm w m h s)(c:p<m)(e:0<=t p w):Fea w m (fun q=>G q\/q=s p) N t h s :=
 ⟨fun i b a=>by
  rcases a with a|a
  ·exact F.g i b a
  ·rw[Q.si i p b c a];exact e,F.n,fun j d=>(F.f j d).imp .inl id⟩
theorem Fea.nail{p:Nat}(F:Fea w m G N t h s)(Q:Pm w m h s)(f:p<m)(g:t p w=0)(hz:∀j,j<w->¬N (h j)->t p j=0):Fea w m G (fun q=>N q\/q=s p) t h s :=
 ⟨F.g,fun i e c=>by
  rcases c with c|c
  ·obtain⟨a,b⟩:=F.n i e c
   exact⟨a,fun j d z=>b j d fun y=>z (.inl y)⟩
  ·rw[Q.si i p e f c]
   exact⟨g,fun j d z=>hz j d fun y=>z (.inl y)⟩,fun j d=>(F.f j d).imp id .inl⟩
noncomputable def tv(v:Nat->Nat->Int)(q:Nat):Nat->Nat->Int:=fun k x=>if k=q then-v k x else v k x
theorem Lin.turn{p:Nat}(L:Lin w m v d t h s)(Q:Pm w m h s)(f:p<m)(o:∀j,j<w+1->t' p j=- t p j)(n:∀i,i<m->i≠p->∀j,j<w+1->t' i j=t i j):Lin w m (tv v (s p)) d t' h s:=by
 have c:∀k,k<w+1->aP w (tv v (s p)) h k=aP w v h k:=fun k a=>by
  unfold aP;by_cases z:k=w
  ·rw[yH z,yH z]
  ·rw[yG z,yG z];funext x;unfold tv;rw[yG (Q.hs k p oM f)]
 refine⟨L.pos,fun i b x e=>?_,?_⟩
 ·by_cases z:i=p
  ·subst z
   have:=L.lin i b x e
   rw[sum_congr (g:=fun k=>(-1)*(t i k*aP w v h k x)) fun k a=>by rw[c k a,o k a];grind,sum_mul,<- this];unfold tv;rw[yH rfl];grind
  ·rw[sum_congr (g:=fun k=>t i k*aP w v h k x) fun k a=>by rw[c k a,n i b z k a],<- L.lin i b x e]
   unfold tv;rw[yG fun y=>z (Q.si i p b f y)]
 ·obtain⟨g,g1,l⟩:=L.dt
  exact⟨g,g1,by rw[d9 (B:=aP w v h) fun i j b _=>by rw[c i b]];exact l⟩
theorem Fea.turn{p:Nat}(F:Fea w m G N t h s)(Q:Pm w m h s)(l:p<m)(g:¬G (s p))(nn:¬N (s p))(d:∀i,i<m->i≠p->∀j,j<w+1->t' i j=t i j):Fea w m G N t' h s:=by
 refine⟨fun i c f=>?_,fun i c e=>?_,F.f⟩
 ·rw[d i c (fun z=>g (by rw[<- z];exact f)) w oM];exact F.g i c f
 ·have ne:i≠p:=fun z=>nn (by rw[<- z];exact e)
  obtain⟨a,b⟩:=F.n i c e;exact⟨by rw[d i c ne w oM];exact a,fun j k z=>by rw[d i c ne j oM];exact b j k z⟩
end
theorem zm:∀(M:Nat)(f:Nat->Nat),(∀n,f n<M)->∃i j,i<j/\f i=f j
 |0,f,h=>absurd (h 0) oM
 |M+1,f,h=>by
  by_cases c:∃n,∀k,n<=k->f k≠M
  ·obtain⟨n,hn⟩:=c
   obtain⟨i,j,g,e⟩:=zm M (fun k=>f (n+k)) fun k=>by have:=h (n+k);have:=hn (n+k) oM;lia
   exact⟨n+i,n+j,by lia,e⟩
  ·have b:∀n,∃k,n<=k/\f k=M:=fun n=>Ă fun z=>c ⟨n,fun k d e=>z ⟨k,d,e⟩⟩
   obtain⟨i,_,l⟩:=b 0;obtain⟨j,m,a⟩:=b (i+1);exact⟨i,j,by lia,by rw[l,a]⟩
noncomputable def j6(b:Nat)(h:Nat->Nat):Nat->Nat
 |0=>0
 |n+1=>j6 b h n*b+h n
theorem AE{b:Nat}{h:Nat->Nat}:∀{n:Nat},(∀j,j<n->h j<b)->j6 b h n<b^n
 |0,_=>by simp[j6]
 |n+1,H=>by
  have h1:=AE (n:=n) fun j a=>H j oM
  have c:=H n oM;show j6 b h n*b+h n<b^(n+1);rw[E!];have:(j6 b h n+1)*b<=b^n*b:=ϑ b h1;rw[D!]at this;lia
theorem wy{b:Nat}{h g:Nat->Nat}:∀{n:Nat},(∀j,j<n->h j<b)->(∀j,j<n->g j<b)->j6 b h n=j6 b g n->∀j,j<n->h j=g j
 |0,_,_,_,j,hj=>by lia
 |n+1,H,K,e,j,hj=>by
  have h2:=H n oM;have a:=K n oM;have f:j6 b h n*b+h n=j6 b g n*b+g n:=e;have d:h n=g n:=by
   have:=congrArg (·%b) f
   simp only[Nat.mul_add_mod_self_right]at this
   rwa [T7 h2,T7 a]at this
  have c:j6 b h n=j6 b g n:=by
   have:j6 b h n*b=j6 b g n*b:=by lia
   exact Nat.eq_of_mul_eq_mul_right oM this
  rcases yT j n with z|z
  ·exact wy (fun j hj=>H j oM) (fun j hj=>K j oM) c j z
  ·rw[show j=n by lia];exact d
theorem yn(b:Nat->Prop){i:Nat}:∀(k:Nat),b i->¬b (i+k)->∃n,i<=n/\n<i+k/\b n/\¬b (n+1)
 |0,h,g=>absurd h g
 |k+1,h,g=>by
  by_cases z:b (i+k)
  ·exact⟨i+k,by lia,by lia,z,g⟩
  ·obtain⟨n,a,c,d⟩:=yn b k h z
   exact⟨n,a,by lia,d⟩
theorem ym(b:Nat->Prop){i j x y:Nat}(g:i<=x/\x<=j)(f:i<=y/\y<=j)(k:b x)(d:¬b y)(e:b i ↔ b j):∃n,i<=n/\n<j/\b n/\¬b (n+1):=by
 have h:∀a c,i<=a->a<=c->c<=j->b a->¬b c->∃n,i<=n/\n<j/\b n/\¬b (n+1):=fun a c t s r p q=>by
  obtain⟨n,o,m,l⟩:=yn b (c-a) p (by rwa [show a+(c-a)=c by lia]);exact⟨n,by lia,by lia,l⟩
 rcases Y2 x y with z|z
 ·exact h x y g.1 z f.2 k d
 ·by_cases q:b j
  ·exact h i y oM f.1 f.2 (e.mpr q) d
  ·exact h x j g.1 g.2 (zP j) k q
structure St where
 d:Int
 t:Nat->Nat->Int
 h:Nat->Nat
 s:Nat->Nat
structure Bl(w m p:Nat)(G N:Nat->Prop)(r c:Nat)(e:Int)(S S':St):Prop where
 hc:c<w
 nc:¬N (S.h c)
 up:0<S.t p c
 least:∀j,j<w->¬N (S.h j)->0<S.t p j->S.h c<=S.h j
 hr:r<m
 gr:G (S.s r)
 neg:S.t r c<0
 ti:∀i,i<m->G (S.s i)->S.t i c<0->S.t r w*- S.t i c<S.t i w*- S.t r c\/(S.t r w*- S.t i c=S.t i w*- S.t r c/\S.s r<=S.s i)
 piv:sN w m r c e S.d S.t S.h S.s S'.d S'.t S'.h S'.s
def jP(w:Nat)(S:St)(q:Nat):Prop:=∃k,k<w/\S.h k=q
def Zr(w m:Nat)(S:St)(q:Nat):Prop:=∀i,i<m->S.s i=q->S.t i w=0
theorem Dq{a b c d e f:Int}(p:0<b)(hd:0<d)(o:0<f)(k:a*d<=c*b)(j:c*f<=e*d):a*f<=e*b:=by
 have g:(a*d)*f<=(c*b)*f:=Ü k oM;have i:(c*f)*b<=(e*d)*b:=Ü j oM;have n:(c*b)*f=(c*f)*b:=by grind
 have h:(a*f)*d<=(e*b)*d:=by
  have m:(a*f)*d=(a*d)*f:=by grind
  have l:(e*b)*d=(e*d)*b:=by grind
  rw[m,l];rw[n]at g;exact ň g i
 exact Ĩ h hd
section
variable{w m p:Nat}{v:Nat->Nat->Int}{G N:Nat->Prop}{S:Nat->St}{r c:Nat->Nat}{e:Nat->Int}
structure Run(w m p:Nat)(v:Nat->Nat->Int)(G N:Nat->Prop)(S:Nat->St)(r c:Nat->Nat)(e:Nat->Int):Prop where
 L:∀n,Lin w m v (S n).d (S n).t (S n).h (S n).s
 Q:∀n,Pm w m (S n).h (S n).s
 F:∀n,Fea w m G N (S n).t (S n).h (S n).s
 B:∀n,Bl w m p G N (r n) (c n) (e n) (S n) (S (n+1))
 hp:p<m
 np:¬G ((S 0).s p)
theorem Run.sp(R:Run w m p v G N S r c e):∀n,(S n).s p=(S 0).s p
 |0=>rfl
 |n+1=>by
  have h:=R.sp n;have:p≠r n:=fun z=>R.np (by rw[<- h,z];exact(R.B n).gr)
  rw[(R.B n).piv.si p R.hp this];exact h
theorem Run.pr(R:Run w m p v G N S r c e)(n:Nat):p≠r n:=fun z=>R.np (by rw[<- R.sp n,z];exact(R.B n).gr)
theorem E7{e a:Int}(f:e*e=1)(d:0<e*a)(c:a<0):e=-1:=by
 have hz:e<0:=by
  rcases yU e 0 with z|z
  ·exact z
  ·have:e*a<=0:=ľ z oM
   lia
 rcases yU e (-1) with y|y
 ·have a:(-e)*1<(-e)*(-e):=ť oM oM
  have b:(-e)*(-e)=e*e:=by grind
  lia
 ·lia
theorem Run.em(R:Run w m p v G N S r c e)(n:Nat):e n=-1:=E7 (R.B n).piv.e1 (R.B n).piv.ep (R.B n).neg
theorem Run.col(R:Run w m p v G N S r c e)(n:Nat){i:Nat}(a:i<m)(ne:i≠r n):(S n).d*(S (n+1)).t i w=(S n).t i w*(S (n+1)).d+(S n).t i (c n)*(S n).t (r n) w:=by
 have B:=R.B n;rw[B.piv.tj i a ne w oM (by have:=B.hc;lia),(R.L n).ex' a B.hr (by have:=B.hc;lia) oM (by have:=B.hc;lia),B.piv.d',R.em n]
 grind
theorem Run.mono(R:Run w m p v G N S r c e)(n:Nat):(S n).t p w*(S (n+1)).d<=(S (n+1)).t p w*(S n).d:=by
 have B:=R.B n
 have:=R.col n R.hp (R.pr n)
 have a:=è (show 0 <= (S n).t p (c n) by have:=B.up;lia) ((R.F n).g (r n) B.hr B.gr);rw [Ţ ((S (n + 1)).t p w)];lia
theorem Run.monos(R:Run w m p v G N S r c e)(i:Nat):∀k,(S i).t p w*(S (i+k)).d<=(S (i+k)).t p w*(S i).d
 |0=>Ű _
 |k+1=>Dq (R.L i).pos (R.L (i+k)).pos (R.L (i+k+1)).pos (R.monos i k) (R.mono (i+k))
theorem Run.same(R:Run w m p v G N S r c e){i j:Nat}(h:∀k,k<w->(S i).h k=(S j).h k):(S i).d=(S j).d/\(S i).t p w=(S j).t p w:=by
 have o:∀k,k<w+1->aP w v (S i).h k=aP w v (S j).h k:=fun k E=>by
  unfold aP;by_cases z:k=w
  ·rw[yH z,yH z]
  ·rw[yG z,yG z,h k oM]
 obtain⟨g,g1,n⟩:=(R.L i).dt;obtain⟨y,l,d⟩:=(R.L j).dt;have B:bN (w+1) (aP w v (S i).h)=bN (w+1) (aP w v (S j).h):=d9 fun a b f _=>by rw[o a f]
 have t:=(R.L i).one n R.hp (j:=w) oM;have s:=(R.L j).one d R.hp (j:=w) oM;rw[R.sp i]at t;rw[R.sp j]at s;have A:bN (w+1) (up (aP w v (S i).h) w (v ((S 0).s p)))=bN (w+1) (up (aP w v (S j).h) w (v ((S 0).s p))):=d9 fun a b f _=>by
  by_cases z:a=w
  ·subst z;rw[cB,cB]
  ·rw[bH z,bH z,o a f]
 rw[n,d]at B;rw[t,s]at A;have D:=(R.L i).pos;have C:=(R.L j).pos;have q:∀x:Int,x*x=1->x=1\/x=-1:=fun x u=>by
  have:x.natAbs*x.natAbs=1:=by rw[<- yZ,u];rfl
  have:=Ϻ this
  lia
 rcases q g g1 with rfl|rfl<;>rcases q y l with rfl|rfl<;>constructor<;>lia
theorem Run.flat(R:Run w m p v G N S r c e){i j n:Nat}(h:∀k,k<w->(S i).h k=(S j).h k)(o:i<=n)(l:n<j):(S n).t (r n) w=0:=by
 have B:=R.B n;have a:=R.monos i (n-i);have b:=R.monos (n+1) (j-(n+1));rw[show i+(n-i)=n by lia]at a;rw[show n+1+(j-(n+1))=j by lia]at b;obtain⟨f,d⟩:=R.same h;rw[<- f,<- d]at b;have g:=Dq (R.L (n+1)).pos (R.L i).pos (R.L n).pos b a;have s:=R.col n R.hp (R.pr n);have q:=(R.F n).g (r n) B.hr B.gr;rcases yU 0 ((S n).t (r n) w) with z|z
 ·have:=N! B.up z
  rw[Ţ ((S (n+1)).t p w)]at g;lia
 ·lia
theorem Run.zero(R:Run w m p v G N S r c e){n q:Nat}(f:(S n).t (r n) w=0):Zr w m (S n) q ↔ Zr w m (S (n+1)) q:=by
 have B:=R.B n;have P:=B.piv;have g:w≠c n:=by have:=B.hc;lia
 have d:(S (n+1)).t (r n) w=0:=by rw[P.rj w oM g,f];lia
 have b:∀i,i<m->i≠r n->((S n).t i w=0 ↔ (S (n+1)).t i w=0):=fun i a ne=>by
  have:=R.col n a ne
  rw[f,yO,î]at this;constructor
  ·intro z;rw[z,yP]at this;exact A9 (R.L n).pos this
  ·intro z;rw[z,yO]at this
   rcases U8.mp this.symm with y|y
   ·exact y
   ·have:=(R.L (n+1)).pos;lia
 constructor
 ·intro h i a e
  by_cases z:i=r n
  ·rw[z];exact d
  ·rw[P.si i a z]at e;exact(b i a z).mp (h i a e)
 ·intro h i a e
  by_cases z:i=r n
  ·rw[z];exact f
  ·exact(b i a z).mpr (h i a (by rw[P.si i a z];exact e))
theorem Run.zeros(R:Run w m p v G N S r c e){i j q:Nat}(h:∀k,k<w->(S i).h k=(S j).h k){a:Nat}(ha:i<=a):∀k,a+k<=j->(Zr w m (S a) q ↔ Zr w m (S (a+k)) q)
 |0,_=>.rfl
 |k+1,hk=>(R.zeros h ha k oM).trans (R.zero (R.flat h oM oM))
theorem Run.zall(R:Run w m p v G N S r c e){i j q:Nat}(h:∀k,k<w->(S i).h k=(S j).h k){a b:Nat}(n:i<=a)(g:a<=j)(f:i<=b)(d:b<=j)(z:Zr w m (S a) q):Zr w m (S b) q:=by
 rcases Y2 a b with l|l
 ·have:=(R.zeros (q:=q) h n (b-a) oM).mp;rw[show a+(b-a)=b by lia]at this;exact this z
 ·have:=(R.zeros (q:=q) h f (a-b) oM).mpr;rw[show b+(a-b)=a by lia]at this;exact this z
theorem Run.out(R:Run w m p v G N S r c e){n q:Nat}(h:jP w (S n) q)(g:¬jP w (S (n+1)) q):q=(S n).h (c n):=by
 obtain⟨k,a,rfl⟩:=h;by_cases z:k=c n
 ·rw[z]
 ·exact absurd ⟨k,a,(R.B n).piv.hj k a z⟩ g
theorem Run.inn(R:Run w m p v G N S r c e){n q:Nat}(h:¬jP w (S n) q)(g:jP w (S (n+1)) q):q=(S n).s (r n):=by
 obtain⟨k,a,rfl⟩:=g;by_cases z:k=c n
 ·rw[z];exact(R.B n).piv.hc
 ·exact absurd ⟨k,a,((R.B n).piv.hj k a z).symm⟩ h
theorem Run.hz(R:Run w m p v G N S r c e){n q:Nat}(h:jP w (S n) q):Zr w m (S n) q:=fun i b e=>by
 obtain⟨k,a,rfl⟩:=h;exact absurd e.symm ((R.Q n).hs k i a b)
theorem BK{n:Nat}{f:Nat->Int}(h:0<Pg n f):∃k,k<n/\0<f k:=by
 induction n with
 |zero=>exact absurd h (by simp[Pg])
 |succ n a =>
  by_cases z:0<f n
  ·exact⟨n,by lia,z⟩
  ·obtain⟨k,b,e⟩:=a (by simp only[Pg]at h;lia)
   exact⟨k,by lia,e⟩
theorem Run.ends(R:Run w m p v G N S r c e):False:=by
 obtain⟨i,j,hij,eq⟩:=zm ((w+m)^w) (fun n=>j6 (w+m) (S n).h w) fun n=>AE (R.Q n).hl
 have I:=wy (R.Q i).hl (R.Q j).hl eq
 let C:Nat->Prop:=fun q=>∃a b,i<=a/\a<=j/\i<=b/\b<=j/\jP w (S a) q/\¬jP w (S b) q
 have f0:C ((S i).h (c i)):=⟨i,i+1,by lia,by lia,by lia,by lia,⟨c i,(R.B i).hc,rfl⟩,fun⟨k,h,e⟩=>(R.Q (i+1)).hs k (r i) h (R.B i).hr (by rw[e,(R.B i).piv.sr])⟩;have bd:∀q,C q->q<w+m:=fun q T=>by obtain⟨a,b,_,_,_,_,⟨k,h,e⟩,_⟩:=T;rw[<- e];exact(R.Q a).hl k h
 obtain⟨q,hq,V⟩:∃q,C q/\∀x,C x->x<=q:=by
  have go:∀k,(∃q,C q/\w+m<=q+k)->∃q,C q/\∀x,C x->x<=q:=fun k=>by
   induction k with
   |zero=>intro⟨q,F,U⟩;have:=bd q F;lia
   |succ k ih =>
    rintro⟨q,F,U⟩;by_cases z:∃x,C x/\q<x
    ·obtain⟨x,x1,x2⟩:=z;exact ih ⟨x,x1,by lia⟩
    ·exact⟨q,F,fun x E=>by
      rcases yT q x with y|y
      ·exact absurd ⟨x,E,y⟩ z
      ·exact y⟩
  exact go (w+m) ⟨_,f0,by lia⟩
 have B:jP w (S i) q ↔ jP w (S j) q:=⟨fun⟨k,h,e⟩=>⟨k,h,by rw[<- I k h];exact e⟩,fun⟨k,h,e⟩=>⟨k,h,by rw[I k h];exact e⟩⟩;obtain⟨a,b,a1,a2,b1,b2,ha,Z⟩:=id hq;obtain⟨f,u1,u2,u3,u4⟩:=ym (fun n=>jP w (S n) q) ⟨a1,a2⟩ ⟨b1,b2⟩ ha Z B;obtain⟨d,v1,v2,v3,K⟩:=ym (fun n=>¬jP w (S n) q) ⟨b1,b2⟩ ⟨a1,a2⟩ Z (fun z=>z ha) (not_congr B);have K:jP w (S (d+1)) q:=Ă K;have M:=R.out u3 u4;have L:=R.inn v3 K;have J:=R.B f;have s:=R.B d
 obtain⟨g,g1,Y⟩:=(R.L d).dt
 let W:(Nat->Int)->Int:=fun u=>g*bN (w+1) (up (aP w v (S d).h) (c d) u)
 have t:c d<w+1:=by have:=s.hc;lia
 have Ws:∀k,k<m->W (v ((S d).s k))=(S d).t k (c d):=fun k h=>by
  show g*_=_;rw[(R.L d).one Y h t];grind
 have Wb:∀k,k<w+1->W (aP w v (S d).h k)=if k=c d then(S d).d else 0:=fun k h=>by
  show g*_=_;by_cases z:k=c d
  ·rw[yH z,z,gO,Y];grind
  ·rw[yG z,k9 (i:=k) (j:=c d) h t z fun x=>by rw[bH z,cB],yO]
 have P:(S f).d*(S d).t p (c d)=Pg w fun k=>(S f).t p k*W (v ((S f).h k)):=by
  have F:(S f).d*W (v ((S 0).s p))=Pg (w+1) fun k=>(S f).t p k*W (aP w v (S f).h k):=by
   show(S f).d*(g*bN (w+1) (up (aP w v (S d).h) (c d) (v ((S 0).s p))))=Pg (w+1) fun k=>(S f).t p k*(g*bN (w+1) (up (aP w v (S d).h) (c d) (aP w v (S f).h k)))
   have U:(S f).d*bN (w+1) (up (aP w v (S d).h) (c d) (v ((S 0).s p)))=Pg (w+1) fun k=>(S f).t p k*bN (w+1) (up (aP w v (S d).h) (c d) (aP w v (S f).h k)):=by
    rw[<- qZ t,<- k8 t];exact jM fun x E=>by rw[<- R.sp f];exact(R.L f).lin p R.hp x E
   rw[sum_congr (g:=fun k=>g*((S f).t p k*bN (w+1) (up (aP w v (S d).h) (c d) (aP w v (S f).h k)))) fun k _=>by grind,sum_mul,<- U];grind
  rw[<- Ws p R.hp,R.sp d,F];show Pg w _+_=_;have hw:W (aP w v (S f).h w)=0:=by
   have:aP w v (S f).h w=aP w v (S d).h w:=by unfold aP;rw[yH rfl,yH rfl]
   rw[this,Wb w oM,yG (by have:=s.hc;lia)]
  show Pg w _+(S f).t p w*W (aP w v (S f).h w)=_;rw[hw,yO,î];exact sum_congr fun k h=>by rw[show aP w v (S f).h k=v ((S f).h k) by unfold aP;rw[yG oM]]
 obtain⟨k,h,D⟩:=BK (by rw[<- P];exact N! (R.L f).pos s.up);have Q:jP w (S f) ((S f).h k):=⟨k,h,rfl⟩;rcases(R.Q d).cov ((S f).h k) ((R.Q f).hl k h) with⟨l,A,o⟩|⟨l,A,o⟩
 ·-- a line at d
  rw[<- o,Ws l A]at D;have O:¬jP w (S d) ((S f).h k):=fun⟨x,E,ex⟩=>(R.Q d).hs x l E A (by rw[ex,o])
  have le:=V _ ⟨f,d,by lia,by lia,by lia,by lia,Q,O⟩;have nt:(S d).t l (c d)≠0:=fun z=>by rw[z,yO]at D;lia
  have H:¬N ((S f).h k):=fun z=>nt (((R.F d).n l A (by rw[o];exact z)).2 (c d) s.hc s.nc)
  by_cases X:(S f).h k=q
  ·have kc:k=c f:=(R.Q f).hi k (c f) h J.hc (by rw[X];exact M)
   have lr:l=r d:=(R.Q d).si l (r d) A s.hr (by rw[o,X];exact L);rw[kc,lr]at D
   have:=ũ J.up s.neg
   lia
  ·have np:¬0<(S f).t p k:=fun z=>by
    have:=J.least k h H z
    rw[<- M]at this;lia
   have n0:(S f).t p k<0:=by
    rcases yU ((S f).t p k) 0 with z|z
    ·exact z
    ·rw[show(S f).t p k=0 by lia,yP]at D;lia
   have tl:(S d).t l (c d)<0:=by
    rcases yU ((S d).t l (c d)) 0 with z|z
    ·exact z
    ·have:=Ľ (ď n0) z;lia
   have gl:G ((S d).s l):=by
    rcases(R.F f).f k h with z|z
    ·rw[o];exact z
    ·exact absurd z H
   have lz:(S d).t l w=0:=R.zall I oM oM oM oM (R.hz Q) l A o;have rz:=R.flat I (n:=d) oM oM;rcases s.ti l A gl tl with z|⟨_,z⟩
   ·rw[lz,rz]at z;lia
   ·rw[<- L,o]at z;lia
 ·-- free at d
  have e1:v ((S f).h k)=aP w v (S d).h l:=by unfold aP;rw[yG oM,o]
  rw[e1,Wb l oM]at D;by_cases z:l=c d
  ·rw[yH z]at D
   have tp:0<(S f).t p k:=by
    rcases yU 0 ((S f).t p k) with y|y
    ·exact y
    ·have:=Ľ y (ď (R.L d).pos);lia
   have H:¬N ((S f).h k):=by rw[<- o,z];exact s.nc
   have l1:=J.least k h H tp;rw[<- M]at l1;have O:¬jP w (S (d+1)) ((S f).h k):=fun⟨x,E,ex⟩=>(R.Q (d+1)).hs x (r d) E s.hr (by rw[ex,s.piv.sr,<- o,z])
   have l2:=V _ ⟨f,d+1,by lia,by lia,by lia,by lia,Q,O⟩;have:q=(S f).h k:=by lia
   exact(R.Q d).hs l (r d) A s.hr (by rw[o,<- L,this])
  ·rw[yG z,yO]at D;lia
end
structure Sh where
 d:Int
 ls:List (List Int)
 hd:List Nat
 sd:List Nat
 gd:List Nat
 nl:List Nat
 tn:List Nat
noncomputable def gI(xs:List Int)(j:Nat):Int:=xs.getD j 0
noncomputable def row(S:Sh)(i:Nat):List Int:=S.ls.getD i []
def Sh.t(S:Sh)(i j:Nat):Int:=gI (row S i) j
noncomputable def Sh.h(S:Sh)(j:Nat):Nat:=S.hd.getD j 0
noncomputable def Sh.s(S:Sh)(i:Nat):Nat:=S.sd.getD i 0
noncomputable def fdvS(a b:Int):Int:=if 0<b then a/b else a.fdiv b
def chLine(l P:List Int)(c:Nat)(sg d:Int):List Int :=
 if gI l c=0 then(if gI P c=d then l else l.map fun x=>fdvS (x*gI P c) d) else((l.zip P).map fun z=>fdvS (z.1*gI P c-gI l c*z.2) d).set c (sg*gI l c)
noncomputable def sgn(x:Int):Int:=if x<0 then -1 else 1
def pvl(S:Sh)(r c:Nat):List Int:=(row S r).map fun x=>sgn (S.t r c)*x
def Pl(S:Sh)(r c:Nat):Sh:={ S with
 d:=gI (pvl S r c) c
 ls:=(S.ls.map fun l=>chLine l (pvl S r c) c (sgn (S.t r c)) S.d).set r (((pvl S r c).map fun x=>- x).set c (sgn (S.t r c)*S.d))
 hd:=S.hd.set c (S.s r)
 sd:=S.sd.set r (S.h c) }
structure Po(w m:Nat)(S:Sh):Prop where
 ls:S.ls.length=m
 row:∀l∈S.ls,l.length=w+1
 hd:S.hd.length=w
 sd:S.sd.length=m
theorem qb{f:Int->Int}{xs:List Int}{j:Nat}(h:j<xs.length):gI (xs.map f) j=f (gI xs j):=by
 unfold gI;simp[zD,h]
theorem gI_set_at{xs:List Int}{j:Nat}{x:Int}(h:j<xs.length):gI (xs.set j x) j=x:=by
 unfold gI;simp[zD,h]
theorem gI_set_ne{j k:Nat}{x:Int}(h:k≠j):gI (xs.set j x) k=gI xs k:=by
 unfold gI;simp[zD,yW,h.symm]
theorem gI_zip{xs ys:List Int}{f:Int×Int->Int}{j:Nat}(h:j<xs.length)(h':j<ys.length):gI ((xs.zip ys).map f) j=f (gI xs j,gI ys j):=by
 unfold gI;have hz:j<(xs.zip ys).length:=by rw[ļ];lia
 simp only[zD,zR,zF h,zF h',zF hz,Ð,ū,List.getElem_zip]
theorem getD_mem{α:Type}{xs:List α}{i:Nat}{a:α}(h:i<xs.length):xs.getD i a∈xs:=by
 simp[zD,zF h]
theorem Po.rl{w m:Nat}(P:Po w m S){i:Nat}(h:i<m):(SX.row S i).length=w+1:=P.row _ (getD_mem (by rw[P.ls];exact h))
theorem ww{a b:Int}(h:0<b):fdvS a b=a/b:=yH h
theorem xP{c:Nat}{sg d:Int}(h:l.length=P.length):(chLine l P c sg d).length=l.length:=by
 unfold chLine;split
 ·split
  ·rfl
  ·simp
 ·simp[h]
theorem u0{r c i:Nat}(a:i<S.ls.length)(b:r<S.ls.length):SX.row (Pl S r c) i=if i=r then((pvl S r c).map fun x=>- x).set c (sgn (S.t r c)*S.d) else chLine (SX.row S i) (pvl S r c) c (sgn (S.t r c)) S.d:=by
 unfold SX.row Pl;simp only[zD,yW,zH];by_cases e:i=r
 ·subst e;simp[a]
 ·rw[yG fun z=>e z.symm,yG e];simp[zF a]
theorem exch_shp{w m:Nat}{r c:Nat}(P:Po w m S)(d:r<m):Po w m (Pl S r c):=by
 have a:(pvl S r c).length=w+1:=by unfold pvl;rw[zH];exact P.rl d
 refine⟨by simp[Pl,P.ls],fun l e=>?_,by simp[Pl,P.hd],by simp[Pl,P.sd]⟩;rcases ø e with h|h
 ·obtain⟨f,b,rfl⟩:=yC.mp h
  rw[xP (by rw[P.row _ b,a])];exact P.row _ b
 ·rw[h];simp[a]
theorem Gk(x:Int):sgn x*sgn x=1:=by unfold sgn;split<;>rfl
theorem Ee{x:Int}(h:x≠0):0<sgn x*x:=by unfold sgn;split<;>lia
theorem lK{w m:Nat}{r c:Nat}(P:Po w m S)(f:r<m)(q:c<w)(hd:0<S.d)(p:S.t r c≠0):sN w m r c (sgn (S.t r c)) S.d S.t S.h S.s (Pl S r c).d (Pl S r c).t (Pl S r c).h (Pl S r c).s:=by
 have o:=P.rl f;have g:(pvl S r c).length=w+1:=by unfold pvl;rw[zH];exact o
 have e:∀j,j<w+1->gI (pvl S r c) j=sgn (S.t r c)*S.t r j:=fun j a=>by
  unfold pvl;rw[qb (by rw[o];exact a)];rfl
 have b:∀i,i<m->i≠r->∀j,j<w+1->(Pl S r c).t i j=if j=c then sgn (S.t r c)*S.t i c else(S.t i j*(sgn (S.t r c)*S.t r c)-S.t i c*(sgn (S.t r c)*S.t r j))/S.d:=fun i d ne j a=>by
  have l:=P.rl d;show gI (SX.row (Pl S r c) i) j=_;rw[u0 (by rw[P.ls];exact d) (by rw[P.ls];exact f),yG ne];have k:gI (SX.row S i) c=S.t i c:=rfl;have h:gI (SX.row S i) j=S.t i j:=rfl;unfold chLine;by_cases z:gI (SX.row S i) c=0
  ·rw[yH z]
   rw[k]at z;rw[z];have s:∀x:Int,x-0*(sgn (S.t r c)*S.t r j)=x:=fun x=>by rw[yP,Y4]
   rw[s];by_cases y:gI (pvl S r c) c=S.d
   ·rw[yH y,h]
    rw[e c oM]at y;rw[y,Int.mul_ediv_cancel _ oM];by_cases x:j=c
    ·rw[yH x,x,z,yO]
    ·rw[yG x]
   ·rw[yG y,qb (by rw[l];exact a),h,ww hd,e c oM]
    by_cases x:j=c
    ·rw[yH x,x,z,yO,yP,Int.zero_ediv]
    ·rw[yG x]
  ·rw[yG z]
   by_cases x:j=c
   ·rw[yH x,x,gI_set_at (by simp[l,g];lia),k]
   ·rw[yG x,gI_set_ne x,gI_zip (by rw[l];exact a) (by rw[g];exact a),ww hd,h,k,e c oM,e j a]
 have n:∀j,j<w+1->(Pl S r c).t r j=if j=c then sgn (S.t r c)*S.d else-(sgn (S.t r c)*S.t r j):=fun j a=>by
  show gI (SX.row (Pl S r c) r) j=_;rw[u0 (by rw[P.ls];exact f) (by rw[P.ls];exact f),yH rfl];by_cases x:j=c
  ·rw[yH x,x,gI_set_at (by simp[g];lia)]
  ·rw[yG x,gI_set_ne x,qb (by rw[g];exact a),e j a]
 refine⟨Gk _,Ee p,e c oM,fun i d ne=>by rw[b i d ne c oM,yH rfl],fun i d ne j a x=>by rw[b i d ne j a,yG x],by rw[n c oM,yH rfl],fun j a x=>by rw[n j a,yG x],?_,fun j a x=>?_,?_,fun i d x=>?_⟩
 ·show((S.hd.set c (S.s r)).getD c 0)=_
  simp[zD,P.hd,q]
 ·show((S.hd.set c (S.s r)).getD j 0)=S.hd.getD j 0
  simp[zD,yW,x.symm]
 ·show((S.sd.set r (S.h c)).getD r 0)=_
  simp[zD,P.sd,f]
 ·show((S.sd.set r (S.h c)).getD i 0)=S.sd.getD i 0
  simp[zD,yW,x.symm]
def trn(S:Sh)(p:Nat):Sh:={ S with ls:=S.ls.set p ((row S p).map fun x=>- x),tn:=if S.s p∈S.tn then S.tn else S.tn++[S.s p] }
theorem trn_shp{w m p:Nat}(P:Po w m S)(a:p<m):Po w m (trn S p):=by
 refine⟨by simp[trn,P.ls],fun l b=>?_,P.hd,P.sd⟩;rcases ø b with h|h
 ·exact P.row _ h
 ·rw[h,zH];exact P.rl a
theorem trn_t{w m p:Nat}(P:Po w m S)(c:p<m):(∀j,j<w+1->(trn S p).t p j=- S.t p j)/\∀i,i<m->i≠p->∀j,j<w+1->(trn S p).t i j=S.t i j:=by
 have b:∀i,i<m->row (trn S p) i=if i=p then(row S p).map (fun x=>- x) else row S i:=fun i a=>by
  show(S.ls.set p _).getD i []=_;simp only[zD,yW];by_cases e:i=p
  ·subst e;rw[yH rfl,yH (by rw[P.ls];exact a),yH rfl];rfl
  ·rw[yG fun z=>e z.symm,yG e];unfold row;rw[zD]
 refine⟨fun j d=>?_,fun i a ne j d=>?_⟩
 ·show gI (row (trn S p) p) j=_
  rw[b p c,yH rfl,qb (by rw[P.rl c];exact d)];rfl
 ·show gI (row (trn S p) i) j=_
  rw[b i a,yG ne];rfl
def Md(S:Sh)(w q r i:Nat):Prop:=S.t r w*- S.t i q<S.t i w*- S.t r q\/(S.t r w*- S.t i q=S.t i w*- S.t r q/\S.s r<=S.s i)
def Pj(S:Sh)(w q k:Nat)(o:Option Nat):Prop:=(o=Á->∀i,i<k->S.s i∈S.gd->¬S.t i q<0)/\∀r,o=À r->r<k/\S.s r∈S.gd/\S.t r q<0/\∀i,i<k->S.s i∈S.gd->S.t i q<0->Md S w q r i
theorem NB{A B C x y z:Int}{a b c:Nat}(p:0<x)(j:0<y)(hz:0<z)(f:A*y<B*x\/(A*y=B*x/\a<=b))(d:B*z<C*y\/(B*z=C*y/\b<=c)):A*z<C*x\/(A*z=C*x/\a<=c):=by
 have i:A*y<=B*x:=by lia
 have h:B*z<=C*y:=by lia
 have o:(A*y)*z<=(B*x)*z:=Ü i oM;have n:(B*z)*x<=(C*y)*x:=Ü h oM;have t:(B*x)*z=(B*z)*x:=by grind
 have s:(A*y)*z=(A*z)*y:=by grind
 have r:(C*y)*x=(C*x)*y:=by grind
 have g:(A*z)*y<=(C*x)*y:=by lia
 have m:A*z<=C*x:=Ĩ g j;by_cases e:A*z=C*x
 ·right
  refine⟨e,?_⟩;have q:(A*z)*y=(C*x)*y:=by rw[e]
  have l:A*y=B*x:=by
   have:(A*y)*z=(B*x)*z:=by(omega)
   exact ĩ oM this
  have k:B*z=C*y:=by
   have:(B*z)*x=(C*y)*x:=by lia
   exact ĩ oM this
  rcases f with f|f
  ·lia
  ·rcases d with d|d
   ·lia
   ·lia
 ·left;(omega)
section
variable{S:Sh}{w q k r:Nat}{o:Option Nat}
theorem tt_zero:Pj S w q 0 Á:=⟨fun _ i h=>by lia,fun r h=>nomatch h⟩
theorem tt_skip(h:¬(S.t k q<0/\S.s k∈S.gd))(T:Pj S w q k o):Pj S w q (k+1) o:=by
 refine⟨fun e i j g f=>?_,fun r e=>?_⟩
 ·by_cases z:i=k
  ·subst z;exact h ⟨f,g⟩
  ·exact T.1 e i oM g f
 ·obtain⟨a,b,c,d⟩:=T.2 r e
  refine⟨by lia,b,c,fun i j g f=>?_⟩;by_cases z:i=k
  ·subst z;exact absurd ⟨f,g⟩ h
  ·exact d i oM g f
theorem tt_first(h:S.t k q<0)(a:S.s k∈S.gd)(T:Pj S w q k Á):Pj S w q (k+1) (À k):=by
 refine⟨(fun e=>nomatch e),fun r e=>?_⟩;cases e;refine⟨by lia,a,h,fun i c a b=>?_⟩;by_cases z:i=k
 ·subst z;exact .inr ⟨rfl,zP _⟩
 ·exact absurd b (T.1 rfl i oM a)
theorem tt_new(h:S.t k q<0)(l:S.s k∈S.gd)(j:S.t k w*- S.t r q<S.t r w*- S.t k q\/(S.t k w*- S.t r q=S.t r w*- S.t k q/\S.s k<S.s r))(T:Pj S w q k (À r)):Pj S w q (k+1) (À k):=by
 refine⟨(fun e=>nomatch e),fun m e=>?_⟩;cases e;obtain⟨a,b,c,d⟩:=T.2 r rfl;refine⟨by lia,l,h,fun i n g f=>?_⟩;by_cases z:i=k
 ·subst z;exact .inr ⟨rfl,zP _⟩
 ·exact NB (x:=- S.t k q) (y:=- S.t r q) (z:=- S.t i q) oM oM oM (j.imp id fun x=>⟨x.1,by lia⟩) (d i oM g f)
theorem tt_old(h:S.t k q<0)(j:¬(S.t k w*- S.t r q<S.t r w*- S.t k q\/(S.t k w*- S.t r q=S.t r w*- S.t k q/\S.s k<S.s r)))(T:Pj S w q k (À r)):Pj S w q (k+1) (À r):=by
 refine⟨(fun e=>nomatch e),fun l e=>?_⟩;cases e;obtain⟨a,b,c,d⟩:=T.2 r rfl;refine⟨by lia,b,c,fun i m g f=>?_⟩;by_cases z:i=k
 ·subst z
  unfold Md;have n:¬(S.t i w*- S.t r q<S.t r w*- S.t i q):=fun x=>j (.inl x)
  by_cases e:S.t i w*- S.t r q=S.t r w*- S.t i q
  ·exact .inr ⟨e.symm,T9 fun x=>j (.inr ⟨e,x⟩)⟩
  ·left;(omega)
 ·exact d i oM g f
end
noncomputable def vt(v:Nat->Nat->Int)(tn:List Nat):Nat->Nat->Int:=fun q x=>if q∈tn then-v q x else v q x
structure MI(w m:Nat)(v:Nat->Nat->Int)(S:Sh):Prop where
 shp:Po w m S
 lin:Lin w m (vt v S.tn) S.d S.t S.h S.s
 pm:Pm w m S.h S.s
 fea:Fea w m (·∈S.gd) (·∈S.nl) S.t S.h S.s
def toSt(S:Sh):St:=⟨S.d,S.t,S.h,S.s⟩
def Rais(w:Nat)(S:Sh)(p:Nat)(o:Option Nat):Prop:=(o=Á->∀j,j<w->S.h j∉S.nl->¬0<S.t p j)/\∀q,o=À q->q<w/\S.h q∉S.nl/\0<S.t p q/\∀j,j<w->S.h j∉S.nl->0<S.t p j->S.h q<=S.h j
structure Kept(m p:Nat)(S T:Sh):Prop where
 gd:T.gd=S.gd
 nl:T.nl=S.nl
 tn:T.tn=S.tn
 si:∀i,i<m->i≠p->S.s i∉S.gd->T.s i=S.s i
section
variable{w m p q r:Nat}{v:Nat->Nat->Int}{S T:Sh}
theorem Kept.refl:Kept m p S S:=⟨rfl,rfl,rfl,fun _ _ _ _=>rfl⟩
theorem Kept.trans(a:Kept m p S T)(b:Kept m p T U):Kept m p S U :=
 ⟨b.gd.trans a.gd,b.nl.trans a.nl,b.tn.trans a.tn,fun i c ne h=>by
  have d:=a.si i c ne h;rw[b.si i c ne (by rw[d,a.gd];exact h),d]⟩
theorem MI.step(I:MI w m v S)(n:p<m)(h:S.s p∉S.gd)(l:Rais w S p (À q))(k:Pj S w q m (À r)):MI w m v (Pl S r q)/\Bl w m p (·∈S.gd) (·∈S.nl) r q (sgn (S.t r q)) (toSt S) (toSt (Pl S r q))/\Kept m p S (Pl S r q)/\(Pl S r q).s p=S.s p:=by
 obtain ⟨b,g,s,o⟩:=l.2 q rfl;obtain ⟨r1,r2,f,e⟩:=k.2 r rfl;have a:=lK I.shp r1 b I.lin.pos (show S.t r q ≠ 0 by lia);refine ⟨⟨exch_shp I.shp r1,I.lin.piv a r1 b,I.pm.piv a r1 b,?_⟩,⟨b,g,s,o,r1,r2,f,e,a⟩,⟨rfl,rfl,rfl,fun i c _ d=>?_⟩,?_⟩
 ·exact Fea.tight I.lin I.pm I.fea a r1 b g r2 f fun i c d j=>by
   rcases e i c d j with z|z
   ·lia
   ·exact Y5 z.1
 ·exact a.si i c fun z=>d (by rw[z];exact r2)
 ·exact a.si p n fun z=>h (by rw[z];exact r2)
theorem MI.low(I:MI w m v S)(c:p<m)(f:S.s p∉S.gd)(h:Rais w S p (À q))(g:Pj S w q m (À r))(n:¬S.t p w*S.t r q<=S.t r w*S.t p q):(Pl S r q).t p w<0:=by
 obtain ⟨i,t,s,o⟩:=h.2 q rfl;obtain ⟨r1,r2,d,l⟩:=g.2 r rfl;have a:=lK I.shp r1 i I.lin.pos (show S.t r q ≠ 0 by lia);have ne:p ≠ r:=fun z=>f (by rw [z];exact r2)
 have b:=I.lin.ex' (e:=sgn (S.t r q)) c r1 (show q < w + 1 by lia) (show w < w + 1 by lia) (show q ≠ w by lia);rw [<- a.tj p c ne w oM oM] at b;have k:sgn (S.t r q)=-1:=by unfold sgn;rw [yH d]
 rw[k]at b;have j:S.t p w*(-1*S.t r q)-S.t p q*(-1*S.t r w)=S.t r w*S.t p q-S.t p w*S.t r q:=by grind
 rw[j]at b;rcases yU ((Pl S r q).t p w) 0 with z|z
 ·exact z
 ·have:=è (ď I.lin.pos) z;lia
theorem MI.up(I:MI w m v S)(e:p<m)(B:S.s p∉S.gd)(nn:S.s p∉S.nl)(low:S.t p w<0)(A:Rais w S p (À q))(h:Pj S w q m Á\/∃r,Pj S w q m (À r)/\S.t p w*S.t r q<=S.t r w*S.t p q) :
  MI w m v { Pl S p q with gd:=S.gd++[S.s p] }/\MI w m v { Pl S p q with nl:=S.nl++[S.s p] }/\Kept m p S (Pl S p q):=by
 obtain ⟨f,s,l,C⟩:=A.2 q rfl;have d:=lK I.shp e f I.lin.pos (show S.t p q ≠ 0 by lia);have sh:=exch_shp (c:=q) I.shp e;have n:∀ i,i < m->S.s i ∈ S.gd->S.t i q < 0->S.t p w * S.t i q <= S.t i w * S.t p q:=fun i j o k=>by
  rcases h with h|⟨r,h,y⟩
  ·exact absurd k (h.1 rfl i j o)
  ·obtain⟨r1,r2,u,t⟩:=h.2 r rfl
   refine Fh (a:=S.t r w) (b:=S.t r q) u k l y ?_;rcases t i j o k with z|z
   ·lia
   ·exact Y5 z.1
 refine⟨⟨⟨sh.ls,sh.row,sh.hd,sh.sd⟩,I.lin.piv d e f,I.pm.piv d e f,?_⟩,⟨⟨sh.ls,sh.row,sh.hd,sh.sd⟩,I.lin.piv d e f,I.pm.piv d e f,?_⟩,⟨rfl,rfl,rfl,fun i j ne _=>d.si i j ne⟩⟩
 ·exact Fea.lift (G':=(·∈S.gd++[S.s p])) I.lin I.pm I.fea d e f s l low n (fun x g=>by simp[g]) (fun x g=>.rfl) (.inl (by simp))
 ·exact Fea.lift (N':=(·∈S.nl++[S.s p])) I.lin I.pm I.fea d e f s l low n (fun x g=>.rfl) (fun x g=>by simp[g]) (.inr (by simp))
theorem MI.move(I:MI w m v S)(b:p<m)(d:q<w)(f:S.h q∉S.nl)(h:S.t p w=0)(hz:S.t p q≠0):MI w m v { Pl S p q with nl:=S.nl++[S.s p] }/\Kept m p S (Pl S p q):=by
 have a:=lK I.shp b d I.lin.pos hz;have sh:=exch_shp (c:=q) I.shp b;refine⟨⟨⟨sh.ls,sh.row,sh.hd,sh.sd⟩,I.lin.piv a b d,I.pm.piv a b d,?_⟩,⟨rfl,rfl,rfl,fun i g ne _=>a.si i g ne⟩⟩;exact Fea.move (N':=(·∈S.nl++[S.s p])) I.lin I.pm I.fea a b d f h (fun x e=>.rfl) (fun x e=>by simp[e]) (.inr (by simp))
theorem MI.guard(I:MI w m v S)(a:p<m)(b:0<=S.t p w):MI w m v { S with gd:=S.gd++[S.s p] }:=by
 refine⟨⟨I.shp.ls,I.shp.row,I.shp.hd,I.shp.sd⟩,I.lin,I.pm,?_⟩;have e:(fun x=>x∈S.gd++[S.s p])=fun x=>x∈S.gd\/x=S.s p:=by funext x;simp
 show Fea w m (fun x=>x∈S.gd++[S.s p]) _ _ _ _;rw[e];exact Fea.guard I.fea I.pm a b
theorem MI.nail(I:MI w m v S)(a:p<m)(b:S.t p w=0)(hz:∀j,j<w->S.h j∉S.nl->S.t p j=0):MI w m v { S with nl:=S.nl++[S.s p] }:=by
 refine⟨⟨I.shp.ls,I.shp.row,I.shp.hd,I.shp.sd⟩,I.lin,I.pm,?_⟩;have e:(fun x=>x∈S.nl++[S.s p])=fun x=>x∈S.nl\/x=S.s p:=by funext x;simp
 show Fea w m _ (fun x=>x∈S.nl++[S.s p]) _ _ _;rw[e];exact Fea.nail I.fea I.pm a b hz
theorem MI.turn(I:MI w m v S)(a:p<m)(f:S.s p∉S.gd)(nn:S.s p∉S.nl)(c:S.s p∉S.tn):MI w m v (trn S p):=by
 obtain⟨d,b⟩:=trn_t I.shp a;refine⟨trn_shp I.shp a,?_,I.pm,Fea.turn I.fea I.pm a f nn b⟩;have e:vt v (trn S p).tn=tv (vt v S.tn) (S.s p):=by
  have:(trn S p).tn=S.tn++[S.s p]:=by show(if _ then _ else _)=_;rw[yG c]
  rw[this];funext q x;unfold vt tv;by_cases h:q=S.s p
  ·subst h;simp[c]
  ·simp[h]
 rw[e];exact Lin.turn I.lin I.pm a d b
theorem no_chain(k:p<m)(f:Nat->Sh)(h:∀n,MI w m v (f n)/\(∃r q e,Bl w m p (·∈(f n).gd) (·∈(f n).nl) r q e (toSt (f n)) (toSt (f (n+1))))/\Kept m p (f n) (f (n+1)))(i:(f 0).s p∉(f 0).gd):False:=by
 have a:∀n,Kept m p (f 0) (f n):=fun n=>by
  induction n with
  |zero=>exact Kept.refl
  |succ n j=>exact j.trans (h n).2.2
 have g:∀n,∃r q e,Bl w m p (·∈(f 0).gd) (·∈(f 0).nl) r q e (toSt (f n)) (toSt (f (n+1))):=fun n=>by
  have:=(h n).2.1;rw[(a n).gd,(a n).nl]at this;exact this
 let r:=fun n=>Đ (g n)
 have b:=fun n=>ě (g n)
 let q:=fun n=>Đ (b n)
 have d:=fun n=>ě (b n)
 let e:=fun n=>Đ (d n)
 have l:=fun n=>ě (d n)
 refine Run.ends (w:=w) (m:=m) (p:=p) (v:=vt v (f 0).tn) (G:=(·∈(f 0).gd)) (N:=(·∈(f 0).nl)) (S:=fun n=>toSt (f n)) (r:=r) (c:=q) (e:=e) ⟨fun n=>?_,fun n=>(h n).1.pm,fun n=>?_,fun n=>?_,k,i⟩
 ·have:=(h n).1.lin;rw[(a n).tn]at this;exact this
 ·have:=(h n).1.fea;rw[(a n).gd,(a n).nl]at this;exact this
 ·exact l n
theorem MI.bound(I:MI w m v S){M B:Nat}(f:1<=M)(b:∀q x,x<w+1->(v q x).natAbs<=M)(c:fct (w+1)*M^(w+1)<B):S.d.natAbs<B/\∀i,i<m->∀j,j<w+1->(S.t i j).natAbs<B:=by
 have:=I.lin.bound f (M:=M) fun q x a=>by
  unfold vt;split
  ·rw[Þ];exact b q x a
  ·exact b q x a
 exact⟨yL this.1 c,fun i e j d=>yL (this.2 i e j d) c⟩
end
theorem wz:∀n:Nat,bN n (fun i j=>if j=i then 1 else 0)=1
 |0=>rfl
 |n+1=>by
  show Pg (n+1) _=1;rw[sum_one (k:=0) oM fun k hk ne=>by
   show sg k*(if 0=k then 1 else 0)*_=0;rw[yG fun z=>ne z.symm,yO,yP]]
  have:bN n (iy (fun i j=>if j=i then(1:Int) else 0) 0)=1:=by
   rw[d9 (B:=fun i j=>if j=i then(1:Int) else 0) fun i j _ _=>?_]
   ·exact wz n
   ·unfold iy skip;simp
  rw[this];rfl
def v0(w:Nat)(L:List (List Int)):Nat->Nat->Int:=fun q x=>if q<w then(if x=q then 1 else 0) else gI (L.getD (q-w) []) x
noncomputable def openS(w:Nat)(L:List (List Int))(k:Nat):Sh:=⟨1,L,Æ w,(Æ L.length).map (w+·),Æ k,[],[]⟩
theorem open_MI{w nr:Nat}(r:∀l∈L,l.length=w+1)(hz:∀i,i<nr->gI (L.getD i []) w=0):MI w L.length (v0 w L) (openS w L (w+nr)):=by
 have d:∀j,j<w->(openS w L (w+nr)).h j=j:=fun j a=>by show(Æ w).getD j 0=j;simp[zD,a]
 have c:∀i,i<L.length->(openS w L (w+nr)).s i=w+i:=fun i b=>by show((Æ L.length).map (w+·)).getD i 0=w+i;simp[zD,b]
 have o:vt (v0 w L) (openS w L (w+nr)).tn=v0 w L:=by funext q x;unfold vt;exact yG (by show q∉[];simp)
 have m:∀k,k<w+1->∀x,x<w+1->aP w (v0 w L) (openS w L (w+nr)).h k x=if x=k then 1 else 0:=fun k f x g=>by
  unfold aP;by_cases e:k=w
  ·rw[yH e,e];rfl
  ·rw[yG e,d k oM];unfold v0;rw[yH oM]
 refine⟨⟨rfl,r,by simp[openS],by simp[openS]⟩,?_,?_,?_⟩
 ·rw[o]
  refine⟨Int.one_pos,fun i b x g=>?_,1,rfl,?_⟩
  ·rw[c i b,sum_one (k:=x) g fun k f ne=>by rw[m k f x g,yG fun z=>ne z.symm,yO],m x g x g,yH rfl]
   unfold v0;rw[yG oM,show w+i-w=i by lia];show 1*gI (L.getD i []) x=gI (L.getD i []) x*1;lia
  ·rw[d9 (B:=fun i j=>if j=i then 1 else 0) fun i j b a=>m i b j a,wz];rfl
 ·refine⟨fun j a=>by rw[d j a];lia,fun i b=>by rw[c i b];lia,fun j k a f e=>by rw[d j a,d k f]at e;exact e,fun j k a f e=>by rw[c j a,c k f]at e;lia,fun j i a b e=>by rw[d j a,c i b]at e;lia,fun q s=>?_⟩
  by_cases h:q<w
  ·exact .inr ⟨q,h,d q h⟩
  ·exact .inl ⟨q-w,by lia,by rw[c _ oM];lia⟩
 ·refine⟨fun i b n=>?_,fun i b p=>?_,fun j a=>.inl ?_⟩
  ·rw[c i b]at n
   have:w+i<w+nr:=Ó.mp n;show 0<=gI (L.getD i []) w;rw[hz i oM];decide
  ·exact absurd (show _ ∈ ([]:List Nat) from p) (by simp)
  ·rw[d j a];exact Ó.mpr oM
theorem open_s{w k i:Nat}(a:i<L.length):(openS w L k).s i=w+i:=by show((Æ L.length).map (w+·)).getD i 0=w+i;simp[zD,a]
def Qt(w:Nat)(v:Nat->Nat->Int)(Y:Nat->Int)(e:Int)(q:Nat):Int:=(Pg w fun x=>v q x*Y x)+v q w*e
section
variable{w m p:Nat}{v:Nat->Nat->Int}{S:Sh}
theorem Qt_vt{Y:Nat->Int}{e:Int}{q:Nat}:Qt w (vt v S.tn) Y e q=if q∈S.tn then-Qt w v Y e q else Qt w v Y e q:=by
 unfold Qt vt;by_cases h:q∈S.tn
 ·simp only[yH h]
  rw[sum_congr (g:=fun x=>(-1)*(v q x*Y x)) fun x _=>by grind,sum_mul];grind
 ·simp only[yG h]
theorem MI.line(I:MI w m v S)(d:p<m)(Y:Nat->Int)(e:Int):S.d*Qt w (vt v S.tn) Y e (S.s p)=(Pg w fun j=>S.t p j*Qt w (vt v S.tn) Y e (S.h j))+S.t p w*e:=by
 have h:=I.lin.lin p d;have c:∀x,x<w+1->S.d*vt v S.tn (S.s p) x=(Pg w fun k=>S.t p k*vt v S.tn (S.h k) x)+S.t p w*(if x=w then 1 else 0):=fun x b=>by
  rw[h x b];show Pg w _+S.t p w*aP w (vt v S.tn) S.h w x=_;have a:aP w (vt v S.tn) S.h w x=if x=w then 1 else 0:=by unfold aP;rw[yH rfl];rfl
  rw[a];congr 1;exact sum_congr fun k l=>by unfold aP;rw[yG oM]
 unfold Qt;rw[O!,<- sum_mul];have a:(Pg w fun x=>S.d*(vt v S.tn (S.s p) x*Y x))=Pg w fun j=>S.t p j*Pg w fun x=>vt v S.tn (S.h j) x*Y x:=by
  rw[sum_congr (g:=fun x=>Pg w fun k=>S.t p k*(vt v S.tn (S.h k) x*Y x)) fun x b=>by
   rw[<- p?,c x oM,yG oM,yO,î,Ţ,<- sum_mul];exact sum_congr fun k _=>by grind,sum_swap]
  exact sum_congr fun j _=>by rw[sum_mul]
 have i:S.d*(vt v S.tn (S.s p) w*e)=(Pg w fun j=>S.t p j*(vt v S.tn (S.h j) w*e))+S.t p w*e:=by
  rw[<- p?,c w oM,yH rfl,ϻ,Z4];congr 1;rw[Ţ,<- sum_mul];exact sum_congr fun k _=>by grind
 rw[a,i,sum_congr (f:=fun j=>S.t p j*((Pg w fun x=>vt v S.tn (S.h j) x*Y x)+vt v S.tn (S.h j) w*e)) (g:=fun j=>S.t p j*(Pg w fun x=>vt v S.tn (S.h j) x*Y x)+S.t p j*(vt v S.tn (S.h j) w*e)) fun j _=>by rw[O!],sum_add];lia
theorem MI.vert(I:MI w m v S)(l:∀q,q<w->∀x,x<w+1->v q x=if x=q then 1 else 0)(g:∀q∈S.tn,w<=q){c:Nat}(p:c<w+1){X:Nat->Int}(s:∀i,i<m->S.s i<w->X (S.s i)=S.t i c)(r:∀j,j<w->S.h j<w->X (S.h j)=if j=c then S.d else 0) :
  (∀i,i<m->Qt w v X (if c=w then S.d else 0) (S.s i)=if S.s i∈S.tn then-S.t i c else S.t i c)/\∀j,j<w->Qt w v X (if c=w then S.d else 0) (S.h j)=if j=c then(if S.h j∈S.tn then-S.d else S.d) else 0:=by
 have d:∀q,q<w->∀x,x<w+1->vt v S.tn q x=if x=q then 1 else 0:=fun q f x k=>by
  unfold vt;rw[yG fun z=>by have:=g q z;lia];exact l q f x k
 obtain⟨a,b⟩:=I.lin.func d p s r fun q f=>I.pm.cov q oM
 refine⟨fun i o=>?_,fun j n=>?_⟩
 ·have e:Qt w (vt v S.tn) X (if c=w then S.d else 0) (S.s i)=S.t i c:=a i o
  rw[Qt_vt]at e;split at e
  ·rename_i h;rw[yH h];lia
  ·rename_i h;rw[yG h];exact e
 ·have e:Qt w (vt v S.tn) X (if c=w then S.d else 0) (S.h j)=if j=c then S.d else 0:=b j n
  rw[Qt_vt]at e;by_cases h:j=c
  ·rw[yH h]at e ⊢
   split at e
   ·rename_i h;rw[yH h];lia
   ·rename_i h;rw[yG h];exact e
  ·rw[yG h]at e ⊢
   split at e
   ·lia
   ·exact e
end
end SX
namespace R
open PySem PySem.Spec L2
open DD (pyOk)
section
variable{ks:List Fn}{sl:Sl}{st:aa}
@[simp] theorem O7:ev ks .n sl st=À (.non,st):=rfl
@[simp] theorem O9{x:Bool}:ev ks (.b x) sl st=À (.bl x,st):=rfl
@[simp] theorem oe{x:Int}:ev ks (.i x) sl st=À (.int x,st):=rfl
@[simp] theorem yf{x:Ì}:ev ks (.s x) sl st=À (.str x,st):=rfl
@[simp] theorem O8{x:Ì}{c:AV}:ev ks (.g x c) sl st=À (c,st):=rfl
@[simp] theorem gN{k:Nat}:ev ks (.v k) sl st=aV k sl st:=rfl
@[simp] theorem eP{v:AV}:aV 0 (À v::sl) st=À (v,st):=rfl
@[simp] theorem eZ{k:Nat}{x:Option AV}:aV (k+1) (x::sl) st=aV k sl st:=rfl
@[simp] theorem wN{o:Ğ}{a b:Ex}:ev ks (.bin o a b) sl st=(ev ks a sl st).bind fun p=>(ev ks b sl p.2).bind fun q=>(aW o q.2 p.1 q.1).map fun z=>(z,q.2):=rfl
@[simp] theorem pw{o:ϣ}{a b:Ex}:ev ks (.cmp o a b) sl st=(ev ks a sl st).bind fun p=>(ev ks b sl p.2).bind fun q=>(pf o q.2 p.1 q.1).map fun z=>(z,q.2):=rfl
@[simp] theorem Oy{o:UnaryOp}{a:Ex}:ev ks (.un o a) sl st=(ev ks a sl st).bind fun p=>(kN o p.2 p.1).map fun z=>(z,p.2):=rfl
noncomputable def HE(x:AV)(st:aa):Option (AV×aa):=match x with
 |.bl b=>À (.bl !b,st)
 |_=>Á
noncomputable def Je(x:AV)(st:aa)(r:Option (AV×aa)):Option (AV×aa):=match x with
 |.bl b=>if b=Â then r else À (.bl Ã,st)
 |_=>Á
noncomputable def Hu(x:AV)(st:aa)(r:Option (AV×aa)):Option (AV×aa):=match x with
 |.bl b=>if b=Â then À (.bl Â,st) else r
 |_=>Á
@[simp] theorem Oo{b:Bool}:HE (.bl b) st=À (.bl !b,st):=rfl
@[simp] theorem Ow{b:Bool}{r:Option (AV×aa)}:Je (.bl b) st r=if b=Â then r else À (.bl Ã,st):=rfl
@[simp] theorem On{b:Bool}{r:Option (AV×aa)}:Hu (.bl b) st r=if b=Â then À (.bl Â,st) else r:=rfl
@[simp] theorem OA{a:Ex}:ev ks (.no a) sl st=(ev ks a sl st).bind fun p=>HE p.1 p.2:=by
 show Dz (ev ks a) sl st=_;unfold Dz HE;congr 1
@[simp] theorem FP{a b:Ex}:ev ks (.an a b) sl st=(ev ks a sl st).bind fun p=>Je p.1 p.2 (ev ks b sl p.2):=by
 show DC (ev ks a) (ev ks b) sl st=_;unfold DC Je;congr 1;funext p;cases p.1<;>first|rfl|skip
 rename_i x;cases x<;>rfl
@[simp] theorem Oz{a b:Ex}:ev ks (.or a b) sl st=(ev ks a sl st).bind fun p=>Hu p.1 p.2 (ev ks b sl p.2):=by
 show Dx (ev ks a) (ev ks b) sl st=_;unfold Dx Hu;congr 1;funext p;cases p.1<;>first|rfl|skip
 rename_i x;cases x<;>rfl
@[simp] theorem CJ{t:Tx}{a b:Ex}:ev ks (.ife t a b) sl st=(tv ks t sl st).bind fun p=>if p.1=Â then ev ks a sl p.2 else ev ks b sl p.2:=rfl
@[simp] theorem oV{a b:Ex}:ev ks (.ix a b) sl st=(ev ks a sl st).bind fun p=>(ev ks b sl p.2).bind fun q=>(aG q.2 p.1 q.1).map fun z=>(z,q.2):=rfl
@[simp] theorem jd{p:Bool}{j:Nat}{es:Exs}:ev ks (.ca p j es) sl st=(fD ks es sl st).bind fun q=>lY p (kf ks j) q.1 q.2:=rfl
@[simp] theorem jT{f:Fn}:lY Â f=pm f:=rfl
@[simp] theorem sZ{f:Fn}:lY Ã f=f:=rfl
@[simp] theorem jf{f:Fn}:kf (f::ks) 0=f:=rfl
@[simp] theorem kA{f:Fn}{j:Nat}:kf (f::ks) (j+1)=kf ks j:=rfl
@[simp] theorem c6:fD ks .nil sl st=À ([],st):=rfl
@[simp] theorem cG{e:Ex}{es:Exs}:fD ks (.cons e es) sl st=(ev ks e sl st).bind fun p=>(fD ks es sl p.2).bind fun q=>À (p.1::q.1,q.2):=rfl
@[simp] theorem wL{es:Exs}:ev ks (.tu es) sl st=(fD ks es sl st).bind fun p=>if å p.1.length 1000=Â then À (.tup p.1,p.2) else Á:=rfl
@[simp] theorem dE{x:Nx}:ev ks (.nw Ã x) sl st=(j4 ks x sl st).bind fun p=>if rfs p.1=Â then À (.fz p.1,p.2) else Á:=rfl
@[simp] theorem wM{x:Nx}:ev ks (.nw Â x) sl st=(j4 ks x sl st).bind fun p=>À (.ref p.2.length,p.2++[.lst p.1]):=rfl
@[simp] theorem OD{c m:Ì}{j:Nat}{o:Ex}{es:Exs}:ev ks (.me c m j o es) sl st=(ev ks o sl st).bind fun p=>(kC p.2 c p.1).bind fun fs=>if(fs.lookup m).isNone=Â then(fD ks es sl p.2).bind fun q=>kf ks j (p.1::q.1) q.2 else Á:=rfl
@[simp] theorem OB{c:Ì}{j:Nat}{es:Exs}:ev ks (.ne c j es) sl st=AT c (kf ks j) (fD ks es) sl st:=rfl
@[simp] theorem OE{c f:Ì}{o:Ex}:ev ks (.fd c f o) sl st=(ev ks o sl st).bind fun p=>(kC p.2 c p.1).bind fun fs=>(fs.lookup f).map fun v=>(v,p.2):=rfl
@[simp] theorem wO{b:Bi}{es:Exs}:ev ks (.bi b es) sl st=(fD ks es sl st).bind fun p=>qt b p.1 p.2:=rfl
@[simp] theorem NZ:qt .len=aZ cO:=rfl
@[simp] theorem qr:qt .sum=aZ ms:=rfl
@[simp] theorem N1:qt .abs=aZ pi:=rfl
@[simp] theorem NX:qt .min=aZ uh:=rfl
@[simp] theorem NY:qt .max=aZ qR:=rfl
@[simp] theorem N0:qt .int=aZ mG:=rfl
@[simp] theorem OC{m:Mi}{o:Ex}{es:Exs}:ev ks (.mt m o es) sl st=mX (se m) (rZ m) (ev ks o) (fD ks es) sl st:=rfl
@[simp] theorem OG:ev ks .dn sl st=À (.ref st.length,st++[.dK []]):=rfl
@[simp] theorem Oh{a:Ex}:ev ks (.mnd a) sl st=(ev ks a sl st).bind fun p=>aZ pR [p.1] p.2:=by
 show(gA (ev ks a) fZ sl st).bind _=_;unfold gA fZ;cases ev ks a sl st<;>rfl
@[simp] theorem Og{a k:Ex}:ev ks (.mnk a k) sl st=tG (ev ks a) (ev ks k) sl st:=rfl
@[simp] theorem OT{es:Exs}:j4 ks (.li es) sl st=(fD ks es sl st).bind fun p=>if cU p.1.length=Â then À p else Á:=rfl
@[simp] theorem pN{a b:Ex}:j4 ks (.cat a b) sl st=qQ (ev ks a) (ev ks b) sl st:=rfl
@[simp] theorem Kd{es:Exs}{b:Ex}:j4 ks (.rep es b) sl st=xm (fD ks es) (ev ks b) sl st:=rfl
@[simp] theorem OS{a:Ex}{l h:Ox}:j4 ks (.sl a l h) sl st=pO (ev ks a) (u5 ks l) (u5 ks h) sl st:=rfl
@[simp] theorem Os{a:Ex}:j4 ks (.lof a) sl st=oZ (ev ks a) sl st:=rfl
@[simp] theorem Oq{a:Ex}:j4 ks (.lr1 a) sl st=ue (ev ks a) sl st:=rfl
@[simp] theorem Op{a b:Ex}:j4 ks (.lr2 a b) sl st=xn (ev ks a) (ev ks b) sl st:=rfl
@[simp] theorem HH{k:Nat}{it:Ix}{t:Tg}{c:Cx'}{e:Ex}:j4 ks (.lc k it t c e) sl st=(fj ks it sl st).bind fun p=>if cU p.1.Ph.length=Â then iW p.1.gd (cM ks t) (j5 ks c) (ev ks e) (sl++È k Á) p.1.Ph p.2 else Á:=rfl
@[simp] theorem OR:u5 ks .no sl st=À (Á,st):=rfl
@[simp] theorem OQ{e:Ex}:u5 ks (.so e) sl st=pK (ev ks e) sl st:=rfl
@[simp] theorem O1:j5 ks .no sl st=À (Â,st):=rfl
@[simp] theorem O0{t:Tx}:j5 ks (.so t) sl st=tv ks t sl st:=rfl
@[simp] theorem Pa{a:Ex}:fj ks (.e a) sl st=(ev ks a sl st).bind fun p=>(pY p.2 p.1).map fun iv=>(iv,p.2):=rfl
@[simp] theorem OW{a:Ex}:fj ks (.r1 a) sl st=Dg (ev ks a) sl st:=rfl
@[simp] theorem OV{a b:Ex}:fj ks (.r2 a b) sl st=Df (ev ks a) (ev ks b) sl st:=rfl
@[simp] theorem OU{a b:Ex}:fj ks (.zi a b) sl st=iZ (ev ks a) (ev ks b) sl st:=rfl
@[simp] theorem M3{a:Ex}:fj ks (.en a) sl st=(ev ks a sl st).bind fun p=>(jE p.2 p.1).map fun iv=>(⟨fP 0 iv.Ph,iv.gd⟩,p.2):=rfl
@[simp] theorem OX{a b:Ex}:fj ks (.es a b) sl st=xI (ev ks a) (ev ks b) sl st:=rfl
@[simp] theorem Cl{k:Nat}{x:AV}:cM ks (.nm k) x sl st=À (sl.set k (À x),st):=rfl
@[simp] theorem OY{n:Nat}{ts:Tgs}{x:AV}:cM ks (.tu n ts) x sl st=Aw n (kE ks ts) x sl st:=rfl
@[simp] theorem OZ{a b:Ex}{x:AV}:cM ks (.su a b) x sl st=(ev ks a sl st).bind fun p=>(ev ks b sl p.2).bind fun q=>(je q.2 p.1 q.1 x).map fun st'=>(sl,st'):=rfl
@[simp] theorem NQ{xs:List AV}:kE ks .nil xs sl st=Iu xs sl st:=rfl
@[simp] theorem Nn{t:Tg}{ts:Tgs}{xs:List AV}:kE ks (.cons t ts) xs sl st=Iz (cM ks t) (kE ks ts) xs sl st:=rfl
@[simp] theorem qL{e:Ex}:tv ks (.va e) sl st=(ev ks e sl st).bind fun p=>(fT p.2 p.1).map fun b=>(b,p.2):=rfl
@[simp] theorem jo{o:ϣ}{a b:Ex}:tv ks (.cmp o a b) sl st=(ev ks a sl st).bind fun p=>(ev ks b sl p.2).bind fun q=>(aY o q.2 p.1 q.1).map fun b=>(b,q.2):=rfl
@[simp] theorem qN{t:Tx}:tv ks (.no t) sl st=(tv ks t sl st).bind fun p=>À (!p.1,p.2):=rfl
@[simp] theorem OH{t u:Tx}:tv ks (.an t u) sl st=(tv ks t sl st).bind fun p=>if p.1=Â then tv ks u sl p.2 else À (Ã,p.2):=rfl
@[simp] theorem qM{t u:Tx}:tv ks (.or t u) sl st=(tv ks t sl st).bind fun p=>if p.1=Â then À (Â,p.2) else tv ks u sl p.2:=rfl
@[simp] theorem Of:af ks .nil sl st=À (.nx sl st):=rfl
noncomputable def mB(o:Out)(k:Sl->aa->Option Out):Option Out:=match o with
 |.nx sl st=>k sl st
 |o=>À o
@[simp] theorem zx{k:Sl->aa->Option Out}:mB (.nx sl st) k=k sl st:=rfl
@[simp] theorem zw{v:AV}{k:Sl->aa->Option Out}:mB (.rt v st) k=À (.rt v st):=rfl
@[simp] theorem NL{k:Sl->aa->Option Out}:mB (.bk sl st) k=À (.bk sl st):=rfl
@[simp] theorem NK{k:Sl->aa->Option Out}:mB (.ct sl st) k=À (.ct sl st):=rfl
@[simp] theorem mr{s:Sx}{a:Pq}:af ks (.cons s a) sl st=(cV ks s sl st).bind fun o=>mB o (af ks a):=by
 show(cV ks s sl st).bind _=(cV ks s sl st).bind _;congr 1
@[simp] theorem Gp{e:Ex}:cV ks (.ex e) sl st=(ev ks e sl st).bind fun p=>À (.nx sl p.2):=rfl
@[simp] theorem fU{e:Ex}{t:Tg}:cV ks (.as e t) sl st=(ev ks e sl st).bind fun p=>(cM ks t p.1 sl p.2).bind fun q=>À (.nx q.1 q.2):=rfl
@[simp] theorem JC{o:Ğ}{a b e:Ex}:cV ks (.aus o a b e) sl st=xb o (ev ks a) (ev ks b) (ev ks e) sl st:=rfl
@[simp] theorem OI{c f:Ì}{o e:Ex}:cV ks (.fl c f o e) sl st=za c f (ev ks o) (ev ks e) sl st:=rfl
@[simp] theorem iB{e:Ex}:cV ks (.rt e) sl st=(ev ks e sl st).bind fun p=>À (.rt p.1 p.2):=rfl
@[simp] theorem d5{t:Tx}{a b:Pq}:cV ks (.iff t a b) sl st=(tv ks t sl st).bind fun p=>if p.1=Â then af ks a sl p.2 else af ks b sl p.2:=rfl
@[simp] theorem jC{it:Ix}{t:Tg}{b:Pq}:cV ks (.fo it t b) sl st=(fj ks it sl st).bind fun p=>eB p.1.gd (cM ks t) (af ks b) p.1.Ph sl p.2:=rfl
@[simp] theorem Oj{a:Ex}{t:Tg}{b:Pq}:cV ks (.fd a t b) sl st=xa (ev ks a) (cM ks t) (af ks b) sl st:=rfl
@[simp] theorem MH{t:Tx}{b:Pq}:cV ks (.wh t b) sl st=oh (tv ks t) (af ks b) sl st:=rfl
@[simp] theorem NH:cV ks .dead sl st=Á:=rfl
noncomputable def ay(o:Out):Option (AV×aa):=match o with
 |.rt v st=>À (v,st)
 |.nx _ st=>À (.non,st)
 |_=>Á
@[simp] theorem NS{v:AV}:ay (.rt v st)=À (v,st):=rfl
@[simp] theorem NT:ay (.nx sl st)=À (.non,st):=rfl
theorem aw{n:Nat}{b:Pq}{args:List AV}:R.run n (af ks b) args st=(af ks b (args.map À++È (n-args.length) Á) st).bind ay:=by
 unfold R.run;congr 1
end
@[simp] theorem Ol:rfs []=Â:=rfl
@[simp] theorem Om{x:AV}{xs:List AV}:rfs (x::xs)=(rf x&&rfs xs):=by simp only[rfs]
@[simp] theorem OM{i:Int}:rf (.int i)=Â:=rfl
@[simp] theorem OP{i:Bool}:rf (.bl i)=Â:=rfl
@[simp] theorem OK{i:Ì}:rf (.str i)=Â:=rfl
@[simp] theorem OL:rf .non=Â:=rfl
@[simp] theorem ON{xs:List AV}:rf (.fz xs)=Â:=rfl
@[simp] theorem OJ{xs:List AV}:rf (.tup xs)=rfs xs:=by simp only[rf]
section
variable{st:aa}{a b:Int}
theorem Dl:i8 st (.int a) (.int b)=À (decide (a=b)):=by
 show(if pyOk (.int a) (.int b)=Â then À (ß (.int a) (.int b)) else Á)=_;rw[yH (by simp[pyOk,ā,ŕ])];congr 1
@[simp] theorem O6:aY .Eq st (.int a) (.int b)=À (decide (a=b)):=Dl
@[simp] theorem Nf:aY .NotEq st (.int a) (.int b)=À (!decide (a=b)):=by show((i8 st (.int a) (.int b)).map fun x=>!x)=_;rw[Dl];rfl
@[simp] theorem O2:aY .Lt st (.int a) (.int b)=À (decide (a<b)):=rfl
@[simp] theorem O3:aY .LtE st (.int a) (.int b)=À (decide (a<=b)):=rfl
@[simp] theorem O4:aY .Gt st (.int a) (.int b)=À (decide (b<a)):=rfl
@[simp] theorem O5:aY .GtE st (.int a) (.int b)=À (decide (b<=a)):=rfl
@[simp] theorem Pb{o:ϣ}{x y:AV}:pf o st x y=(aY o st x y).map .bl:=rfl
@[simp] theorem Ot:aY .Is st .non .non=À Â:=rfl
@[simp] theorem Ou:aY .Is st (.int a) .non=À Ã:=rfl
@[simp] theorem NV:aY .IsNot st .non .non=À Ã:=rfl
@[simp] theorem NW:aY .IsNot st (.int a) .non=À Â:=rfl
@[simp] theorem Ov:aW .Add st (.int a) (.int b)=À (.int (a+b)):=rfl
@[simp] theorem Ln:aW .Sub st (.int a) (.int b)=À (.int (a-b)):=rfl
theorem cj(h:eI a b=Â):aW .Mult st (.int a) (.int b)=À (.int (a*b)):=by
 show(if eI a b=Â then _ else _:Option Int).map _=_;rw[yH h];rfl
theorem qx(h:fE b=Â):aW .FloorDiv st (.int a) (.int b)=À (.int (wx a b)):=by
 show(if fE b=Â then _ else _:Option Int).map _=_;rw[yH h];rfl
theorem nY(h:b≠0):aW .Mod st (.int a) (.int b)=À (.int (mR a b)):=by
 show(if b=0 then _ else _:Option Int).map _=_;rw[yG h];rfl
@[simp] theorem Oi:kN .USub st (.int a)=À (.int (-a)):=rfl
theorem cL{x y:Int}(d:x.natAbs<2^9000)(c:y.natAbs<2^9000):eI x y=Â:=by
 have a:∀z:Nat,z<2^9000->å z.log2 1000000=Â:=fun z hz=>by
  by_cases b:z=0
  ·subst b;rfl
  ·exact yK (z5 (yY ((č b).mpr hz)) oM)
 unfold eI;rw[a _ d,a _ c,Bool.and_true,Bool.or_true]
theorem u7{y:Int}(b:y≠0)(a:y.natAbs<2^9000):fE y=Â:=by
 unfold fE;have:å y.natAbs.log2 8999=Â:=yK (by have:=(č (n:=y.natAbs) oM).mpr a;lia);rw[this];simp[b]
end
open SX (Sh gI)
noncomputable def iL(l:List Int):List AV:=l.map .int
noncomputable abbrev Is(x:Int):Option AV:=À (.int x)
noncomputable abbrev Rs(x:Nat):Option AV:=À (.ref x)
abbrev Zs(x:List AV):Option AV:=À (.fz x)
abbrev Ls(x:List Int):Option AV:=À (.fz (iL x))
noncomputable def nL(l:List Nat):List AV:=l.map fun q=>.int ((q:Nat):Int)
noncomputable def kL(l:List Nat):List (ba×AV):=l.map fun q=>(.inl ((q:Nat):Int),.bl Â)
noncomputable def dG(d:Int)(a b c g n u:Nat):List (Ì×AV):=[("below",.int d),("lines",.ref a),("heads",.ref b),("sides",.ref c),("guarded",.ref g),("nailed",.ref n),("turned",.ref u)]
section
variable{d:Int}{a b c g n u:Nat}
@[simp] theorem MW:(dG d a b c g n u).lookup ("below":Ì)=À (AV.int d):=rfl
@[simp] theorem MU:(dG d a b c g n u).lookup ("lines":Ì)=À (AV.ref a):=rfl
@[simp] theorem MV:(dG d a b c g n u).lookup ("heads":Ì)=À (AV.ref b):=rfl
@[simp] theorem MT:(dG d a b c g n u).lookup ("sides":Ì)=À (AV.ref c):=rfl
@[simp] theorem Kl:(dG d a b c g n u).lookup ("guarded":Ì)=À (AV.ref g):=rfl
@[simp] theorem LS:(dG d a b c g n u).lookup ("nailed":Ì)=À (AV.ref n):=rfl
@[simp] theorem LR:(dG d a b c g n u).lookup ("turned":Ì)=À (AV.ref u):=rfl
@[simp] theorem Cb:(dG d a b c g n u).lookup ("loose_columns":Ì)=Á:=rfl
@[simp] theorem A7:(dG d a b c g n u).lookup ("raising_column":Ì)=Á:=rfl
@[simp] theorem A6:(dG d a b c g n u).lookup ("tightest_place":Ì)=Á:=rfl
@[simp] theorem FM:(dG d a b c g n u).lookup ("is_tighter":Ì)=Á:=rfl
@[simp] theorem Ff:(dG d a b c g n u).lookup ("is_up_first":Ì)=Á:=rfl
@[simp] theorem Jn:(dG d a b c g n u).lookup ("exchange":Ì)=Á:=rfl
@[simp] theorem Nm:(dG d a b c g n u).lookup ("lift":Ì)=Á:=rfl
@[simp] theorem Jo:(dG d a b c g n u).lookup ("drive_up":Ì)=Á:=rfl
@[simp] theorem B9:(dG d a b c g n u).lookup ("moving_column":Ì)=Á:=rfl
@[simp] theorem MS:(dG d a b c g n u).lookup ("guard":Ì)=Á:=rfl
@[simp] theorem Nl:(dG d a b c g n u).lookup ("nail":Ì)=Á:=rfl
@[simp] theorem HY:(dG d a b c g n u).lookup ("turn_line":Ì)=Á:=rfl
end
def RowR(st:aa)(x:AV)(l:List Int):Prop:=x=.fz (iL l)\/∃r,x=.ref r/\(st[r]?=À (.lst (iL l))\/st[r]?=À (.al (.fz (iL l))))
structure Rep(st:aa)(k a b c g n u:Nat)(rows:List AV)(S:Sh):Prop where
 hk:st[k]?=À (.ins "Sheet" (dG S.d a b c g n u))
 ha:st[a]?=À (.lst rows)
 hb:st[b]?=À (.lst (nL S.hd))
 hc:st[c]?=À (.lst (nL S.sd))
 hg:st[g]?=À (.dK (kL S.gd))
 hn:st[n]?=À (.dK (kL S.nl))
 hu:st[u]?=À (.dK (kL S.tn))
 len:rows.length=S.ls.length
 row:∀i x,rows[i]?=À x->RowR st x (SX.row S i)
 ab:a≠b
 ac:a≠c
 bc:b≠c
 gn:g≠n
 gu:g≠u
 nu:n≠u
 ra:∀(i r:Nat),rows[i]?=À (.ref r)->r≠a/\r≠b/\r≠c
section
variable{st:aa}{x:AV}{xs:List AV}{l:List Int}{i:Int}
theorem RowR.ls(h:RowR st x l):cw st x=À (iL l):=by
 rcases h with rfl|⟨r,rfl,h|h⟩
 ·rfl
 ·unfold cw dr;simp only[h]
 ·unfold cw dr;simp only[h]
theorem cH(h:cw st x=À xs):aG st x (.int i)=iu xs i:=by
 have hd:o9 st x (.int i)=Á:=by
  unfold o9;have b:j7 st x=Á:=by
   cases x<;>first|rfl|skip
   rename_i k;unfold cw dr at h;unfold j7;dsimp only at h ⊢;cases e:st[k]? with
   |none=>rfl
   | some c=>cases c <;> first | rfl | (rw [e] at h;simp only [e] at h;cases h)
  have a:oE st x=Á:=by
   cases x<;>first|rfl|skip
   rename_i k;unfold cw dr at h;unfold oE;dsimp only at h ⊢;cases e:st[k]? with
   |none=>rfl
   | some c=>cases c <;> first | rfl | (rw [e] at h;simp only [e] at h;cases h)
  rw[b,a]
 unfold aG;rw[hd];dsimp only;rw[h]
theorem bS{α:Type}{xs:List α}{j:Nat}:iu xs ((j:Nat):Int)=xs[j]?:=by
 unfold iu lZ;rw[yH oM];by_cases h:j<xs.length
 ·rw[yH oM];simp
 ·rw[yG oM,Ù oM];rfl
theorem rC{α:Type}{xs:List α}{n:Nat}(h:xs.length=n+1):iu xs (-1)=xs[n]?:=by
 unfold iu lZ;rw[yG oM,yH oM,h,Ä];congr 1;lia
theorem cx{j:Nat}(h:j<l.length):(iL l)[j]?=À (.int (gI l j)):=by
 unfold iL gI;simp[h,zD]
theorem jy{l:List Nat}{j:Nat}(h:j<l.length):(nL l)[j]?=À (.int ((l.getD j 0:Nat):Int)):=by
 unfold nL;simp[h,zD]
theorem bG{k:Nat}(h:st[k]?=À (.lst xs)):cw st (.ref k)=À xs:=by unfold cw dr;simp only[h]
theorem wj{g:Nat}{l:List Nat}{q:Nat}(h:st[g]?=À (.dK (kL l))):uB st (.int q) (.ref g)=À (decide (q∈l)):=by
 unfold uB o9 j7;simp only[h,lH,Ð];congr 1;unfold oU kL;rw[Ŀ,List.find?_map,Ŀ,Bool.eq_iff_iff,List.isSome_find?,Ō];simp[Int.ofNat_inj]
end
noncomputable def my(a:List AV)(i:Nat):AV:=a.getD i .non
section
variable{st:aa}{k a b c g n u w m:Nat}{rows:List AV}{S:Sh}{i j:Nat}
theorem Rep.ins(R:Rep st k a b c g n u rows S):kC st "Sheet" (.ref k)=À (dG S.d a b c g n u):=by
 unfold kC;simp only[R.hk];rfl
theorem Rep.rx(R:Rep st k a b c g n u rows S)(P:SX.Po w m S)(d:i<m):rows[i]?=À (my rows i):=by
 have:i<rows.length:=by rw[R.len,P.ls];exact d
 unfold my;rw[zD,zF this];rfl
theorem Rep.line(R:Rep st k a b c g n u rows S)(P:SX.Po w m S)(d:i<m):aG st (.ref a) (.int (i:Int))=À (my rows i):=by
 rw[cH (bG R.ha),bS];exact R.rx P d
theorem Rep.rowl(R:Rep st k a b c g n u rows S)(P:SX.Po w m S)(d:i<m):cw st (my rows i)=À (iL (SX.row S i)):=(R.row i _ (R.rx P d)).ls
theorem Rep.cell(R:Rep st k a b c g n u rows S)(P:SX.Po w m S)(d:i<m)(e:j<w+1):aG st (my rows i) (.int (j:Int))=À (.int (S.t i j)):=by
 rw[cH (R.rowl P d),bS,cx (by rw[P.rl d];exact e)];rfl
theorem Rep.last(R:Rep st k a b c g n u rows S)(P:SX.Po w m S)(d:i<m):aG st (my rows i) (.int (-1))=À (.int (S.t i w)):=by
 rw[cH (R.rowl P d),rC (n:=w) (by unfold iL;rw[zH];exact P.rl d),cx (by rw[P.rl d];lia)];rfl
theorem Rep.side(R:Rep st k a b c g n u rows S)(P:SX.Po w m S)(d:i<m):aG st (.ref c) (.int (i:Int))=À (.int (S.s i:Int)):=by
 rw[cH (bG R.hc),bS,jy (by rw[P.sd];exact d)];rfl
theorem Rep.head(R:Rep st k a b c g n u rows S)(P:SX.Po w m S)(d:j<w):aG st (.ref b) (.int (j:Int))=À (.int (S.h j:Int)):=by
 rw[cH (bG R.hb),bS,jy (by rw[P.hd];exact d)];rfl
theorem Rep.ing(R:Rep st k a b c g n u rows S){q:Nat}:aY .In st (.int q) (.ref g)=À (decide (q∈S.gd)):=wj R.hg
theorem Rep.nin(R:Rep st k a b c g n u rows S){q:Nat}:aY .NotIn st (.int q) (.ref n)=À (!decide (q∈S.nl)):=by show(uB st _ _).map _=_;rw[wj R.hn];rfl
end
theorem iG{α:Type}{em:α->AV}{B:α->Bool}{F:α->AV}(a:cT gd st=Â):∀{xs:List α},(∀x∈xs,∃sl1,g (em x) sl st=À (sl1,st)/\t sl1 st=À (B x,st)/\(B x=Â->f sl1 st=À (F x,st)))->iW gd g t f sl (xs.map em) st=À ((xs.filter B).map F,st)
 |[],_=>by show(if cT gd st=Â then _ else _)=_;rw[yH a];rfl
 |x::xs,h=>by
  obtain⟨sl1,h1,h2,h3⟩:=h x z7;have b:=iG a (xs:=xs) fun y c=>h y (zQ _ c)
  show(if cT gd st=Â then(g (em x) sl st).bind _ else Á)=_;rw[yH a,h1,Ä];dsimp only;rw[h2,Ä];cases hB:B x with
  |true=>rw[yH rfl];dsimp only;rw[h3 hB,Ä];dsimp only;rw[b,ϱ,hB];rfl
  |false=>rw[yG (by simp)];dsimp only;rw[b,ϱ,hB];rfl
theorem dW:∀{xs:List AV},(∀x∈xs,rf x=Â)->rfs xs=Â
 |[],_=>rfl
 |x::xs,h=>by simp only[rfs,zC];exact⟨h x z7,dW fun y hy=>h y (zQ _ hy)⟩
theorem Bz:rfs (iL l)=Â:=dW fun x a=>by obtain⟨i,_,rfl⟩:=yC.mp a;rfl
theorem lD:rfs (nL l)=Â:=dW fun x a=>by obtain⟨i,_,rfl⟩:=yC.mp a;rfl
mutual
theorem AS:∀(x:AV),dF x x=Â
 |.non=>rfl
 |.bl _=>by simp[dF]
 |.int _=>by simp[dF]
 |.str _=>by simp[dF]
 |.ref _=>by simp[dF]
 |.tup a=>by simp only[dF];exact j9 a
 |.fz a=>by simp only[dF];exact j9 a
theorem j9:∀(xs:List AV),ie xs xs=Â
 |[]=>rfl
 |x::xs=>by simp only[ie,AS x,j9 xs,ġ]
end
theorem iH{k:Nat}(h:st[k]?=À (.lst xs)):cT [(k,.lst xs)] st=Â:=by
 simp only[cT,h,xT,j9,ġ]
theorem K6:fP 0 (nL l)=l.zipIdx.map fun z=>.tup [.int ((z.2:Nat):Int),.int ((z.1:Nat):Int)]:=by
 unfold fP nL;rw[List.zipIdx_map,Ö];rfl
@[simp] theorem NC:jQ st (.tup xs)=À xs:=rfl
@[simp] theorem NO:pY st (.fz xs)=À ⟨xs,[]⟩:=rfl
@[simp] theorem Ik:jE st (.fz xs)=À ⟨xs,[]⟩:=rfl
@[simp] theorem dR:cw st (.fz xs)=À xs:=rfl
theorem kS{k:Nat}(h:st[k]?=À (.lst xs)):jE st (.ref k)=À ⟨xs,[(k,.lst xs)]⟩:=by
 unfold jE dr;simp only[h]
theorem qV{k:Nat}(h:st[k]?=À (.lst xs)):pY st (.ref k)=À ⟨xs,[(k,.lst xs)]⟩:=by
 have:jQ st (.ref k)=Á:=by unfold jQ dr;simp only[h]
 unfold pY;dsimp only;rw[this];exact kS h
@[simp] theorem gX:cT [] st=Â:=rfl
theorem wg:nJ (nL l)=À (l.map fun q=>((q:Nat):Int)):=by
 unfold nJ nL;exact dO (f:=fun x=>match x with|.int i=>À i|_=>Á) (i:=fun q:Nat=>AV.int q) (g:=fun q=>((q:Nat):Int)) (fun _=>rfl) l
noncomputable def oN:Option Nat->AV
 |none=>.non
 |some c=>.int (c:Int)
noncomputable def cD(S:Sh):List Nat:=(S.hd.zipIdx.filter fun z=>!decide (z.1∈S.nl)).map (·.2)
theorem jU{w m:Nat}(P:SX.Po w m S){j:Nat}:j∈cD S ↔ j<w/\S.h j∉S.nl:=by
 unfold cD;simp only[yC,ć,Prod.exists];constructor
 ·rintro⟨q,i,⟨c,b⟩,rfl⟩
  have d:=List.mem_zipIdx' c;have a:i<S.hd.length:=d.1;refine⟨by rw[<- P.hd];exact a,?_⟩;have:S.h i=q:=by
   show S.hd.getD i 0=q;rw[zD,zF a,d.2];rfl
  rw[this];simpa using b
 ·rintro⟨c,b⟩
  have a:j<S.hd.length:=by rw[P.hd];exact c
  refine⟨S.h j,j,⟨?_,by simpa using b⟩,rfl⟩;have e:S.h j=S.hd[j]:=by
   show S.hd.getD j 0=_;rw[zD,zF a];rfl
  rw[e,List.mem_zipIdx_iff_getElem?];exact zF a
theorem cC{n:Nat}(h:n<=1000):cU n=Â:=yK oM
theorem Jc{key:Nat->Nat}:∃o:Option Nat,rF ((l.map fun q=>((q:Nat):Int)).zip (l.map fun q=>((key q:Nat):Int)))=oN o/\(o=Á->l=[])/\∀c,o=À c->c∈l/\∀j∈l,key c<=key j:=by
 cases l with
 |nil=>exact⟨Á,rfl,fun _=>rfl,fun c h=>nomatch h⟩
 |cons x l =>
  have hz:((x::l).map fun q=>((q:Nat):Int)).zip ((x::l).map fun q=>((key q:Nat):Int))=(x::l).map fun q=>(((q:Nat):Int),((key q:Nat):Int)):=by
   generalize x::l=b
   induction b with
   |nil=>rfl
   |cons y b g=>simp only[zO,ă,g]
  rw[hz];obtain⟨i,p,a,d⟩:=n9 (l.map fun q=>(((q:Nat):Int),((key q:Nat):Int))) (x:Int) (key x:Int);rw[<- zO (f:=fun q:Nat=>(((q:Nat):Int),((key q:Nat):Int)))]at a d;rw[zR]at a;obtain⟨c,n,e⟩:=zE.mp a;injection e with e1 e2;refine⟨À c,?_,(fun h=>nomatch h),fun r h=>?_⟩
  ·show AV.int _=AV.int _
   rw[e1]
  ·cases h
   refine⟨zW n,fun j m=>?_⟩;obtain⟨t,k⟩:=z8 m
   have:=(d t ((j:Int),(key j:Int)) (by rw[zR,k];rfl)).1
   rw[<- e2]at this;have:((key c:Nat):Int)<=((key j:Nat):Int):=this;lia
theorem HV{l:List Nat}{key:EF}{sl:Sl}{st:aa}{f:Nat->Nat}(h:∀q∈l,key (sl++[Is ((q:Nat):Int)]) st=À (.int ((f q:Nat):Int),st)):aT (Am key sl st) (l.map fun q=>((q:Nat):Int))=À (l.map fun q=>((f q:Nat):Int)):=by
 induction l with
 |nil=>rfl
 |cons x l a =>
  have c:Am key sl st (x:Int)=À ((f x:Nat):Int):=by unfold Am;rw[h x z7]
  simp only[zO,aT,c,a fun q b=>h q (zQ _ b),Ä,Ð]
def fk(gd:Gd)(g:GF)(s:SF)(xs:List AV):Out->Option Out
 |.nx sl st=>eB gd g s xs sl st
 |.ct sl st=>eB gd g s xs sl st
 |.bk sl st=>À (.nx sl st)
 |.rt v st=>À (.rt v st)
theorem AB(a:cT gd st=Â)(c:g x sl st=À p)(b:s p.1 p.2=À o):eB gd g s (x::xs) sl st=fk gd g s xs o:=by
 show(if cT gd st=Â then(g x sl st).bind _ else Á)=_;rw[yH a,c,Ä,b,Ä];cases o<;>rfl
theorem nQ{gd:Gd}{g:GF}{s:SF}{I:Nat->Sl->aa->Prop}{Post:AV->aa->Prop}{xs:List AV}(d:∀i sl st,i<=xs.length->I i sl st->cT gd st=Â)
  (h:∀i x sl st,xs[i]?=À x->I i sl st->∃p o,g x sl st=À p/\s p.1 p.2=À o/\((∃sl2 st2,o=.nx sl2 st2/\I (i+1) sl2 st2)\/∃v st2,o=.rt v st2/\Post v st2)) :
  ∀{sl:Sl}{st:aa},I 0 sl st->(∃sl' st',eB gd g s xs sl st=À (.nx sl' st')/\I xs.length sl' st')\/∃v st',eB gd g s xs sl st=À (.rt v st')/\Post v st':=by
 have q:∀(r:Nat)(j:Nat){sl:Sl}{st:aa},j+r=xs.length->I j sl st->(∃sl' st',eB gd g s (xs.drop j) sl st=À (.nx sl' st')/\I xs.length sl' st')\/∃v st',eB gd g s (xs.drop j) sl st=À (.rt v st')/\Post v st':=fun r=>by
  induction r with
  |zero =>
   intro j sl st k a;left;rw[t! oM];refine⟨sl,st,?_,by rw[show xs.length=j by lia];exact a⟩;show(if cT gd st=Â then _ else _)=_;rw[yH (d j sl st oM a)]
  |succ r f =>
   intro j sl st k a;have c:j<xs.length:=by lia
   obtain⟨p,o,m,l,b⟩:=h j xs[j] sl st (zF c) a;rw[ù c];have e:=AB (xs:=xs.drop (j+1)) (d j sl st oM a) m l;rw[e];rcases b with⟨sl2,st2,rfl,b⟩|⟨v,st2,rfl,b⟩
   ·exact f (j+1) oM b
   ·exact .inr ⟨v,st2,rfl,b⟩
 intro sl st n
 have:=q xs.length 0 oM n
 rw[Ņ]at this;exact this
theorem dX{gd:Gd}{g:GF}{s:SF}{I:Nat->Sl->aa->Prop}{xs:List AV}(e:∀i sl st,i<=xs.length->I i sl st->cT gd st=Â)
  (h:∀i x sl st,xs[i]?=À x->I i sl st->∃p sl2 st2,g x sl st=À p/\s p.1 p.2=À (.nx sl2 st2)/\I (i+1) sl2 st2) {sl:Sl}{st:aa} (j:I 0 sl st):∃sl' st',eB gd g s xs sl st=À (.nx sl' st')/\I xs.length sl' st':=by
 rcases nQ (Post:=fun _ _=>False) e (fun i x sl st d f=>by
  obtain⟨p,sl2,st2,a,b,c⟩:=h i x sl st d f;exact⟨p,_,a,b,.inl ⟨sl2,st2,rfl,c⟩⟩) j with h|⟨_,_,_,h⟩
 ·exact h
 ·exact h.elim
theorem qh{i:Nat}(h:(fP 0 xs)[i]?=À y):∃x,xs[i]?=À x/\y=.tup [.int ((i:Nat):Int),x]:=by
 unfold fP at h;rw[zR]at h;obtain⟨z,a,rfl⟩:=zE.mp h;rw[ύ]at a;obtain⟨x,b,rfl⟩:=zE.mp a;exact⟨x,b,by simp⟩
theorem nT:(fP 0 xs).length=xs.length:=by unfold fP;simp
section
variable{st:aa}{k a b c g n u w m:Nat}{rows:List AV}{S:Sh}{i j q:Nat}{x:AV}{l:List Int}{e e':Pe}
theorem aB(h:q≠j):(st.set q e')[j]?=st[j]?:=by rw[yW];simp[h]
theorem ia(h:st[q]?=À e):(st.set q e')[q]?=À e':=by
 rw[yW];simp[(zB.mp h).1]
theorem ga(h:st[j]?=À e):(st++ys)[j]?=À e:=by
 rw[zN (zB.mp h).1];exact h
theorem gl:(st++[e])[st.length]?=À e:=by simp
theorem bJ(a:st[i]?=À e)(b:st[j]?=À e')(h:e≠e'):i≠j:=fun z=>h (by rw[z,b]at a;injection a with a;exact a.symm)
theorem RowR.set(h:RowR st x l)(b:∀r,x=.ref r->q≠r):RowR (st.set q e') x l:=by
 rcases h with h|⟨r,a,c⟩
 ·exact .inl h
 ·exact .inr ⟨r,a,by rw[aB (b r a)];exact c⟩
theorem RowR.app(h:RowR st x l):RowR (st++ys) x l:=by
 rcases h with h|⟨r,b,a|a⟩
 ·exact .inl h
 ·exact .inr ⟨r,b,.inl (ga a)⟩
 ·exact .inr ⟨r,b,.inr (ga a)⟩
theorem Rep.app(R:Rep st k a b c g n u rows S):Rep (st++ys) k a b c g n u rows S :=
 ⟨ga R.hk,ga R.ha,ga R.hb,ga R.hc,ga R.hg,ga R.hn,ga R.hu,R.len,fun i x h=>(R.row i x h).app,R.ab,R.ac,R.bc,R.gn,R.gu,R.nu,R.ra⟩
theorem Rep.rowk(R:Rep st k a b c g n u rows S){r:Nat}(h:rows[i]?=À (.ref r)):r≠k/\r≠g/\r≠n/\r≠u:=by
 have e:=R.row i _ h;rcases e with h|⟨j,f,d⟩
 ·cases h
 ·cases f
  rcases d with d|d
  ·exact⟨bJ d R.hk (fun z=>nomatch z),bJ d R.hg (fun z=>nomatch z),bJ d R.hn (fun z=>nomatch z),bJ d R.hu (fun z=>nomatch z)⟩
  ·exact⟨bJ d R.hk (fun z=>nomatch z),bJ d R.hg (fun z=>nomatch z),bJ d R.hn (fun z=>nomatch z),bJ d R.hu (fun z=>nomatch z)⟩
theorem Rep.fields{d:Nat}(R:Rep st k a b c g n u rows S)(l:st[d]?=À (.lst rows'))(v:S'.hd=S.hd)(t:S'.sd=S.sd)(s:S'.gd=S.gd)(q:S'.nl=S.nl)(p:S'.tn=S.tn)(j:rows'.length=S'.ls.length)
  (row:∀i x,rows'[i]?=À x->RowR st x (SX.row S' i)) (A:d≠b) (y:d≠c) (m:∀(i r:Nat),rows'[i]?=À (.ref r)->r≠d/\r≠b/\r≠c):Rep (st.set k (.ins "Sheet" (dG S'.d d b c g n u))) k d b c g n u rows' S':=by
 have o:k≠d:=bJ R.hk l (fun z=>nomatch z);refine⟨ia R.hk,by rw[aB o];exact l,?_,?_,?_,?_,?_,j,fun i x h=>(row i x h).set fun r e=>?_,A,y,R.bc,R.gn,R.gu,R.nu,m⟩
 ·rw[aB (bJ R.hk R.hb (fun z=>nomatch z)),v];exact R.hb
 ·rw[aB (bJ R.hk R.hc (fun z=>nomatch z)),t];exact R.hc
 ·rw[aB (bJ R.hk R.hg (fun z=>nomatch z)),s];exact R.hg
 ·rw[aB (bJ R.hk R.hn (fun z=>nomatch z)),q];exact R.hn
 ·rw[aB (bJ R.hk R.hu (fun z=>nomatch z)),p];exact R.hu
 ·subst e
  rcases row i _ h with z|⟨B,w,f⟩
  ·cases z
  ·cases w
   rcases f with f|f
   ·exact bJ R.hk f (fun z=>nomatch z)
   ·exact bJ R.hk f (fun z=>nomatch z)
theorem Rep.heads(R:Rep st k a b c g n u rows S):Rep (st.set b (.lst (nL hd'))) k a b c g n u rows { S with hd:=hd' } :=
 ⟨by rw[aB (bJ R.hb R.hk (fun z=>nomatch z))];exact R.hk,by rw[aB (ç R.ab)];exact R.ha,ia R.hb,by rw[aB R.bc];exact R.hc,by rw[aB (bJ R.hb R.hg (fun z=>nomatch z))];exact R.hg,by rw[aB (bJ R.hb R.hn (fun z=>nomatch z))];exact R.hn,
  by rw[aB (bJ R.hb R.hu (fun z=>nomatch z))];exact R.hu,R.len,fun i x h=>(R.row i x h).set fun r e=>ç (R.ra i r (by rw[<- e];exact h)).2.1,R.ab,R.ac,R.bc,R.gn,R.gu,R.nu,R.ra⟩
theorem Rep.sides(R:Rep st k a b c g n u rows S):Rep (st.set c (.lst (nL sd'))) k a b c g n u rows { S with sd:=sd' } :=
 ⟨by rw[aB (bJ R.hc R.hk (fun z=>nomatch z))];exact R.hk,by rw[aB (ç R.ac)];exact R.ha,by rw[aB (ç R.bc)];exact R.hb,ia R.hc,by rw[aB (bJ R.hc R.hg (fun z=>nomatch z))];exact R.hg,by rw[aB (bJ R.hc R.hn (fun z=>nomatch z))];exact R.hn,
  by rw[aB (bJ R.hc R.hu (fun z=>nomatch z))];exact R.hu,R.len,fun i x h=>(R.row i x h).set fun r e=>ç (R.ra i r (by rw[<- e];exact h)).2.2,R.ab,R.ac,R.bc,R.gn,R.gu,R.nu,R.ra⟩
theorem Rep.guard(R:Rep st k a b c g n u rows S):Rep (st.set g (.dK (kL gd'))) k a b c g n u rows { S with gd:=gd' } :=
 ⟨by rw[aB (bJ R.hg R.hk (fun z=>nomatch z))];exact R.hk,by rw[aB (bJ R.hg R.ha (fun z=>nomatch z))];exact R.ha,by rw[aB (bJ R.hg R.hb (fun z=>nomatch z))];exact R.hb,by rw[aB (bJ R.hg R.hc (fun z=>nomatch z))];exact R.hc,ia R.hg,by rw[aB R.gn];exact R.hn,by rw[aB R.gu];exact R.hu,
  R.len,fun i x h=>(R.row i x h).set fun r e=>ç (R.rowk (i:=i) (by rw[<- e];exact h)).2.1,R.ab,R.ac,R.bc,R.gn,R.gu,R.nu,R.ra⟩
theorem Rep.nail(R:Rep st k a b c g n u rows S):Rep (st.set n (.dK (kL nl'))) k a b c g n u rows { S with nl:=nl' } :=
 ⟨by rw[aB (bJ R.hn R.hk (fun z=>nomatch z))];exact R.hk,by rw[aB (bJ R.hn R.ha (fun z=>nomatch z))];exact R.ha,by rw[aB (bJ R.hn R.hb (fun z=>nomatch z))];exact R.hb,by rw[aB (bJ R.hn R.hc (fun z=>nomatch z))];exact R.hc,by rw[aB (ç R.gn)];exact R.hg,ia R.hn,by rw[aB R.nu];exact R.hu,
  R.len,fun i x h=>(R.row i x h).set fun r e=>ç (R.rowk (i:=i) (by rw[<- e];exact h)).2.2.1,R.ab,R.ac,R.bc,R.gn,R.gu,R.nu,R.ra⟩
theorem Rep.turned(R:Rep st k a b c g n u rows S):Rep (st.set u (.dK (kL tn'))) k a b c g n u rows { S with tn:=tn' } :=
 ⟨by rw[aB (bJ R.hu R.hk (fun z=>nomatch z))];exact R.hk,by rw[aB (bJ R.hu R.ha (fun z=>nomatch z))];exact R.ha,by rw[aB (bJ R.hu R.hb (fun z=>nomatch z))];exact R.hb,by rw[aB (bJ R.hu R.hc (fun z=>nomatch z))];exact R.hc,by rw[aB (ç R.gu)];exact R.hg,by rw[aB (ç R.nu)];exact R.hn,ia R.hu,
  R.len,fun i x h=>(R.row i x h).set fun r e=>ç (R.rowk (i:=i) (by rw[<- e];exact h)).2.2.2,R.ab,R.ac,R.bc,R.gn,R.gu,R.nu,R.ra⟩
theorem vT{p i:Nat}:SX.row { S with ls:=S.ls.set p l } i=if i=p/\p<S.ls.length then l else SX.row S i:=by
 unfold SX.row;simp only[zD,yW];by_cases h:i=p
 ·subst h
  by_cases a:i<S.ls.length
  ·simp[a]
  ·simp[a]
 ·rw[yG fun z=>h z.symm,yG fun z=>h z.1]
theorem Rep.rowset{p:Nat}(R:Rep st k a b c g n u rows S)(o:RowR st x l)(m:∀r,x=.ref r->r≠a/\r≠b/\r≠c):Rep (st.set a (.lst (rows.set p x))) k a b c g n u (rows.set p x) { S with ls:=S.ls.set p l }:=by
 have j:∀i y,(rows.set p x)[i]?=À y->(i=p/\p<rows.length/\y=x)\/(i≠p/\rows[i]?=À y):=fun i y h=>by
  rw[yW]at h;by_cases e:p=i
  ·rw[yH e]at h
   split at h
   ·cases h;exact .inl ⟨e.symm,by assumption,rfl⟩
   ·cases h
  ·rw[yG e]at h;exact .inr ⟨fun z=>e z.symm,h⟩
 refine⟨by rw[aB (bJ R.ha R.hk (fun z=>nomatch z))];exact R.hk,ia R.ha,by rw[aB R.ab];exact R.hb,by rw[aB R.ac];exact R.hc,by rw[aB (bJ R.ha R.hg (fun z=>nomatch z))];exact R.hg,by rw[aB (bJ R.ha R.hn (fun z=>nomatch z))];exact R.hn,
  by rw[aB (bJ R.ha R.hu (fun z=>nomatch z))];exact R.hu,by simp[R.len],fun i y h=>?_,R.ab,R.ac,R.bc,R.gn,R.gu,R.nu,fun i r h=>?_⟩
 ·rw[vT]
  rcases j i y h with⟨f,d,rfl⟩|⟨f,d⟩
  ·rw[yH ⟨f,by rw[<- R.len];exact d⟩];exact o.set fun r e=>ç (m r e).1
  ·rw[yG fun z=>f z.1];exact(R.row i y d).set fun r e=>ç (R.ra i r (by rw[<- e];exact d)).1
 ·rcases j i _ h with⟨f,d,q⟩|⟨f,d⟩
  ·exact m r q.symm
  ·exact R.ra i r d
theorem Rep.cellset{p r:Nat}(R:Rep st k a b c g n u rows S)(d:rows[p]?=À (.ref r))(A:∀i,i≠p->rows[i]?≠À (.ref r)):Rep (st.set r (.lst (iL l))) k a b c g n u rows { S with ls:=S.ls.set p l }:=by
 obtain⟨x,w,v⟩:=R.ra p r d;obtain⟨t,s,q,o⟩:=R.rowk d;have j:p<S.ls.length:=by rw[<- R.len];exact(zB.mp d).1
 refine⟨by rw[aB t];exact R.hk,by rw[aB x];exact R.ha,by rw[aB w];exact R.hb,by rw[aB v];exact R.hc,by rw[aB s];exact R.hg,by rw[aB q];exact R.hn,by rw[aB o];exact R.hu,by simp[R.len],fun i y h=>?_,R.ab,R.ac,R.bc,R.gn,R.gu,R.nu,R.ra⟩;rw[vT];by_cases e:i=p
 ·subst e
  rw[yH ⟨rfl,j⟩];rw[d]at h;cases h;rcases R.row i _ d with z|⟨m,B,f⟩
  ·cases z
  ·cases B
   rcases f with f|f
   ·exact .inr ⟨r,rfl,.inl (ia f)⟩
   ·exact .inr ⟨r,rfl,.inl (ia f)⟩
 ·rw[yG fun z=>e z.1]
  exact(R.row i y h).set fun m C z=>A i e (by rw[z,<- C];exact h)
theorem Rep.freeze{r:Nat}(R:Rep st k a b c g n u rows S)(o:rows[i]?=À (.ref r))(f:st[r]?=À (.lst (iL l))):Rep (st.set r (.al (.fz (iL l)))) k a b c g n u rows S:=by
 obtain⟨A,x,w⟩:=R.ra i r o;obtain⟨v,t,s,q⟩:=R.rowk o;refine⟨by rw[aB v];exact R.hk,by rw[aB A];exact R.ha,by rw[aB x];exact R.hb,by rw[aB w];exact R.hc,by rw[aB t];exact R.hg,by rw[aB s];exact R.hn,by rw[aB q];exact R.hu,R.len,fun j y h=>?_,R.ab,R.ac,R.bc,R.gn,R.gu,R.nu,R.ra⟩;rcases R.row j y h with z|⟨m,p,d⟩
 ·exact .inl z
 ·by_cases e:r=m
  ·subst e
   refine .inr ⟨r,p,.inr ?_⟩;rw[ia f];rcases d with d|d
   ·rw[f]at d;injection d with d;injection d with d;rw[d]
   ·rw[f]at d;cases d
  ·exact .inr ⟨m,p,by rw[aB e];exact d⟩
theorem RowR.it(h:RowR st x l):∃gd,pY st x=À ⟨iL l,gd⟩/\cT gd st=Â:=by
 rcases h with rfl|⟨r,rfl,h|h⟩
 ·exact⟨[],rfl,rfl⟩
 ·exact⟨_,qV h,iH h⟩
 ·refine⟨[],?_,rfl⟩
  have:jQ st (.ref r)=Á:=by unfold jQ dr;simp only[h]
  unfold pY;dsimp only;rw[this];unfold jE dr;simp only[h]
end
theorem Ai{gd:Gd}{g:GF}{t:TF}{f:EF}{sl:Sl}{J:Nat->aa->Prop}{F:Nat->AV}{xs:List AV}(d:∀i st,i<=xs.length->J i st->cT gd st=Â)
  (h:∀i x st,xs[i]?=À x->J i st->∃sl1 st1,g x sl st=À (sl1,st)/\t sl1 st=À (Â,st)/\f sl1 st=À (F i,st1)/\J (i+1) st1) {st:aa} (q:J 0 st):∃st',iW gd g t f sl xs st=À ((Æ xs.length).map F,st')/\J xs.length st':=by
 have s:∀(r j:Nat){st:aa},j+r=xs.length->J j st->∃st',iW gd g t f sl (xs.drop j) st=À ((ĥ j r).map F,st')/\J xs.length st':=fun r=>by
  induction r with
  |zero =>
   intro j st l a;rw[t! oM];refine⟨st,?_,by rw[show xs.length=j by lia];exact a⟩;show(if cT gd st=Â then _ else _)=_;rw[yH (d j st oM a)];rfl
  |succ r k =>
   intro j st l a;have c:j<xs.length:=by lia
   obtain⟨sl1,st1,p,o,n,m⟩:=h j xs[j] st (zF c) a;obtain⟨st',e,b⟩:=k (j+1) oM m;refine⟨st',?_,b⟩;rw[ù c];show(if cT gd st=Â then(g xs[j] sl st).bind _ else Á)=_;rw[yH (d j st oM a),p,Ä];dsimp only;rw[o,Ä,yH rfl];dsimp only;rw[n,Ä];dsimp only;rw[e];rfl
 obtain⟨st',e,a⟩:=s xs.length 0 oM q;rw[Ņ]at e;rw[<- List.range_eq_range']at e;exact⟨st',e,a⟩
@[simp] theorem gf:(iL l).length=l.length:=by unfold iL;simp
@[simp] theorem pP:(nL l).length=l.length:=by unfold nL;simp
@[simp] theorem bF:rfs (iL l)=Â:=Bz
@[simp] theorem C5:rfs (nL l)=Â:=lD
theorem f9{q:Nat}{x:Int}:(iL l).set q (.int x)=iL (l.set q x):=by unfold iL;rw[s?]
theorem Aa{q x:Nat}:(nL l).set q (.int (x:Int))=nL (l.set q x):=by unfold nL;rw[s?]
theorem Aj{α:Type}{em:α->AV}{F:α->Int}{xs:List α}(e:cT gd st=Â)(h:∀x∈xs,∃sl1,g (em x) sl st=À (sl1,st)/\t sl1 st=À (Â,st)/\f sl1 st=À (.int (F x),st)):iW gd g t f sl (xs.map em) st=À (iL (xs.map F),st):=by
 rw[iG (B:=fun _=>Â) (F:=fun x=>.int (F x)) e fun x d=>by obtain⟨s,a,b,c⟩:=h x d;exact⟨s,a,b,fun _=>c⟩];unfold iL;rw[Ö,Ô.mpr fun _ _=>rfl];rfl
theorem lG(a:cT gd st=Â)(h:∀x∈l,∃sl1,g (.int x) sl st=À (sl1,st)/\t sl1 st=À (Â,st)/\f sl1 st=À (.int (F x),st)):iW gd g t f sl (iL l) st=À (iL (l.map F),st):=Aj a h
theorem d8{k q:Nat}(h:st[k]?=À (.lst xs))(a:q<xs.length):je st (.ref k) (.int (q:Int)) x=À (st.set k (.lst (xs.set q x))):=by
 unfold je;simp only[h];have:lZ xs.length (q:Int)=À q:=by unfold lZ;rw[yH oM,yH oM];simp
 rw[this];rfl
theorem qU{k q:Nat}(h:st[k]?=À (.dK (kL l)))(c:l.length<=1000):je st (.ref k) (.int (q:Int)) (.bl Â)=À (st.set k (.dK (kL (if q∈l then l else l++[q])))):=by
 unfold je;simp only[h,lH,Ä];rw[yH (cC (by unfold kL;rw[zH];exact c))];congr 2;unfold oX kL;by_cases a:q∈l
 ·rw[yH a,yH (by simp only[t?,Ō];exact⟨q,a,by simp⟩),Ö]
  congr 1;refine Ř fun x b=>?_
  show(if _ then _ else _)=_;split
  ·rfl
  ·rfl
 ·rw[yG a,yG (by
   simp only[t?,Ō,Function.comp];rintro⟨x,b,e⟩;have:x=q:=by have:((x:Nat):Int)=((q:Nat):Int):=(by simpa using e);lia
   exact a (this▸b)),ä]
  rfl
theorem ad(h:cV ks s sl st=À (.nx sl' st'))(a:(af ks ss sl' st').bind ay=r):(af ks (.cons s ss) sl st).bind ay=r:=by
 rw[mr,h,Ä,zx];exact a
theorem au(h:cV ks s sl st=À (.nx sl' st'))(a:af ks ss sl' st'=r):af ks (.cons s ss) sl st=r:=by
 rw[mr,h,Ä,zx];exact a
theorem aX(h:cV ks s sl st=À (.rt v st')):(af ks (.cons s ss) sl st).bind ay=À (v,st'):=by
 rw[mr,h,Ä,zw];rfl
theorem aN(h:rfs args=Â)(b:fn args []=À (v,st'))(a:dN st' v=À t):pm fn args st=À (t,st):=by
 unfold pm;rw[yH h,b,Ä];dsimp only;rw[a];rfl
section
variable{d:Int}{a b c g n u:Nat}
theorem BO{d':Int}:jS "below" (.int d') (dG d a b c g n u)=dG d' a b c g n u:=rfl
theorem BN{e:Nat}:jS "lines" (.ref e) (dG d a b c g n u)=dG d e b c g n u:=rfl
theorem jp{k:Nat}(d:ev ks e sl st=À (v,st'))(c:ev ks o sl st'=À (.ref k,st'))(b:kC st' cn (.ref k)=À fs)(a:å fs.length 900=Â):cV ks (.fl cn f o e) sl st=À (.nx sl (st'.set k (.ins cn (jS f v fs)))):=by
 show za cn f (ev ks o) (ev ks e) sl st=_;unfold za;rw[d,Ä];dsimp only;rw[c,Ä];dsimp only;rw[b,Ä,yH a]
end
theorem vJ{α:Type}{t:TF}{s:SF}{I:α->Sl->aa->Prop}{Q:α->α->Prop}{Post:Out->Prop}{a0:α}(e:∀f:Nat->α,f 0=a0->(∀n,Q (f n) (f (n+1)))->False)
  (h:∀x sl st,I x sl st->(∃o,dU t s 1 sl st=À o/\Post o)\/∃x' sl' st',Q x x'/\I x' sl' st'/\∀n o,dU t s n sl' st'=À o->dU t s (n+1) sl st=À o) {sl:Sl}{st:aa} (p:I a0 sl st):∃o,oh t s sl st=À o/\Post o:=by
 apply Ă;intro j
 let a:α×Sl×aa->Prop:=fun z=>I z.1 z.2.1 z.2.2/\¬∃n o,dU t s n z.2.1 z.2.2=À o/\Post o
 have g:a (a0,sl,st):=⟨p,fun⟨n,o,c,b⟩=>j ⟨o,kP c,b⟩⟩;have nx:∀z:{ z // a z },∃i:{ z // a z },Q z.1.1 i.1.1:=fun d=>by
  obtain⟨z,hz⟩:=d;rcases h z.1 z.2.1 z.2.2 hz.1 with⟨o,c,b⟩|⟨x',sl',st',c,b,m⟩
  ·exact absurd ⟨1,o,c,b⟩ hz.2
  ·exact⟨⟨(x',sl',st'),b,fun⟨n,o,l,k⟩=>hz.2 ⟨n+1,o,m n o l,k⟩⟩,c⟩
 let f:Nat->{ z // a z }:=fun n=>Nat.rec ⟨_,g⟩ (fun _ z=>Đ (nx z)) n
 exact e (fun n=>(f n).1.1) rfl fun n=>ě (nx (f n))
theorem kK(h:t sl st=À (Ã,st')):dU t s 1 sl st=À (.nx sl st'):=by
 show(t sl st).bind _=_;rw[h,Ä,yG (by simp)]
theorem tJ(h:t sl st=À (Â,st'))(a:s sl st'=À (.rt v st2)):dU t s 1 sl st=À (.rt v st2):=by
 show(t sl st).bind _=_;rw[h,Ä,yH rfl];dsimp only;rw[a];rfl
theorem nh{n:Nat}(h:t sl st=À (Â,st'))(b:s sl st'=À (.nx sl2 st2))(a:dU t s n sl2 st2=À o):dU t s (n+1) sl st=À o:=by
 show(t sl st).bind _=_;rw[h,Ä,yH rfl];dsimp only;rw[b];exact a
theorem f7(h:cV ks s sl st=À (.rt v st')):af ks (.cons s ss) sl st=À (.rt v st'):=by
 rw[mr,h,Ä,zw]
theorem Gr{ks:List Fn}{T:Tx}{B rest:Pq}{sl:Sl}{st:aa}{Post:Out->Prop}{Q:AV×aa->Prop}(h:∃o,oh (tv ks T) (af ks B) sl st=À o/\Post o)(c:∀o,Post o->∃r,(mB o (af ks rest)).bind ay=À r/\Q r):∃r,(af ks (.cons (.wh T B) rest) sl st).bind ay=À r/\Q r:=by
 obtain⟨o,e,b⟩:=h;obtain⟨r,d,a⟩:=c o b;refine⟨r,?_,a⟩;rw[mr,MH,e,Ä];exact d
theorem ai{ks:List Fn}{s:Sx}{a:Pq}{sl sl':Sl}{st st':aa}{Q:AV×aa->Prop}(h:cV ks s sl st=À (.nx sl' st'))(b:∃r,(af ks a sl' st').bind ay=À r/\Q r):∃r,(af ks (.cons s a) sl st).bind ay=À r/\Q r:=by
 obtain⟨r,e,q⟩:=b;exact⟨r,ad h e,q⟩
def ao(L:List (List Int)):List AV:=L.map fun l=>.fz (iL l)
@[simp] theorem No:(ao L).length=L.length:=by unfold ao;simp
@[simp] theorem NR:rfs (ao L)=Â:=dW fun x a=>by obtain⟨l,_,rfl⟩:=yC.mp a;rfl
theorem uD:iL a++iL b=iL (a++b):=by unfold iL;rw[ä]
theorem At{x:Int}:[AV.int x]=iL [x]:=rfl
theorem xy{α:Type}{em:α->AV}{F:α->List Int}{xs:List α}(e:cT gd st=Â)(h:∀x∈xs,∃sl1,g (em x) sl st=À (sl1,st)/\t sl1 st=À (Â,st)/\f sl1 st=À (.fz (iL (F x)),st)):iW gd g t f sl (xs.map em) st=À (ao (xs.map F),st):=by
 rw[iG (B:=fun _=>Â) (F:=fun x=>.fz (iL (F x))) e fun x d=>by obtain⟨s,a,b,c⟩:=h x d;exact⟨s,a,b,fun _=>c⟩];unfold ao;rw[Ö,Ô.mpr fun _ _=>rfl];rfl
theorem lb(g:ev ks a sl st=À (x,s1))(f:ev ks b sl s1=À (y,s2))(e:cw s2 x=À (iL l))(d:cw s2 y=À (iL l'))(c:l.length+l'.length<=1000):j4 ks (.cat a b) sl st=À (iL (l++l'),s2):=by
 rw[pN];unfold qQ;rw[g,Ä];dsimp only;rw[f,Ä];dsimp only;rw[e,Ä,d,Ä,yH (cC (by simpa using c)),uD]
theorem pF{n:Nat}:eu 0 n=nL (Æ n):=by unfold eu nL;simp
theorem JE{w n:Nat}:eu (w:Int) n=nL ((Æ n).map (w+·)):=by unfold eu nL;simp[Ö,Function.comp_def]
theorem Ei{n:Nat}:aT (bC n st) (iL l)=À (iL l):=dO (f:=bC n st) (i:=AV.int) (g:=AV.int) (fun x=>by cases n<;>rfl) l
theorem nk{k:Nat}(h:st[k]?=À (.lst (iL l))):dN st (.ref k)=À (.fz (iL l)):=by
 show bC 6 st (.ref k)=_;unfold bC;simp only[h,Ei,Ð]
theorem Gs{k:Nat}(h:st[k]?=À (.al t)):dN st (.ref k)=À t:=by
 show bC 6 st (.ref k)=_;unfold bC;simp only[h]
theorem mz{fn:Fn}{rest:List AV}{st st':aa}{x v t:AV}{l:List Int}(c:RowR st x l)(k:rfs rest=Â)(e:aT (dN st) rest=À rest)(g:∀s,qc s rest=À (rest,s))(b:fn (.fz (iL l)::rest) []=À (v,st'))(a:dN st' v=À t)(d:flat t=Ã) :
  ∃st1,pm fn (x::rest) st=À (t,st1)/\(st1=st\/∃r,x=.ref r/\st[r]?=À (.lst (iL l))/\st1=st.set r (.al (.fz (iL l)))):=by
 have ay:∀r st1,x=.ref r->dN st (.ref r)=À (.fz (iL l))->sC st (.ref r)=À (.fz (iL l),st1)->pm fn (x::rest) st=À (t,st1):=fun r st1 ex j i=>by
  subst ex;have m:aT (dN st) (.ref r::rest)=À (.fz (iL l)::rest):=by simp only[aT,j,e];rfl
  have f:qc st (.ref r::rest)=À (.fz (iL l)::rest,st1):=by simp only[qc,i,Ä,g];rfl
  unfold pm;rw[yG (by simp[rf]),m,Ä,b,Ä];dsimp only;rw[a,Ä,yG (by rw[d];simp),f,Ä];dsimp only;rw[b,Ä];dsimp only;rw[a];rfl
 rcases c with rfl|⟨r,rfl,h|h⟩
 ·exact⟨st,aN (by simp[k]) b a,.inl rfl⟩
 ·exact⟨_,ay r (st.set r (.al (.fz (iL l)))) rfl (nk h) (by unfold sC;simp[rf,h]),.inr ⟨r,rfl,h,rfl⟩⟩
 ·exact⟨_,ay r st rfl (Gs h) (by unfold sC;simp[rf,h]),.inl rfl⟩
theorem gB:(st++[x]).set st.length y=st++[y]:=by simp
end R
namespace LW
open PySem L2 R
noncomputable def top(i:Nat):ĺ:=V9.main.body.getD i (.Pass ⟨0,0,0,0⟩)
noncomputable def Lb(s:ĺ):List ĺ:=match s with
 |.ClassDef _ _ _ b _ _ _ _ _ _ _=>b
 |_=>[]
def iF(i j:Nat):ĺ:=(Lb (top i)).getD j (.Pass ⟨0,0,0,0⟩)
noncomputable def gs:List (Ì×AV):=[]
noncomputable def cl:List (Ì×List Ì):=[("Sheet",["below","guarded","heads","lines","nailed","sides","turned"])]
noncomputable abbrev B(_:FH):Type:=Pq
local macro_rules | `(tactic| walk_at "tr")=>`(tactic| (refine (?f:FH.tr ?h false [] gs cl=some ?m->B ?h) ?p;(case p=>unfold FH.tr;rw [Ir];(conv in c9 _=>whnf);simp [-Option.map_map,↓Ir,gs,cl,vI,pB,Mo,Mq,Mn,Mp,uS,uE,uT,uG,Nz,NA,qH,CN,wS,lU,uO,uC,wT,CM,uI,Nt,uR,uZ,Nv,uL,CO,Nu,Bj,Bk,Nr,Nq,uK,F1,Np,wV,wU,Ny,Nw,L7,L6,uX,m2,m3,at_,lk,vh,Hz,hB,B3,uM,uN,uP,IY,HL,FT,fF,BV,uz,Iq];rfl);exact fun _=>?m))
@[simp] def mM:FH:=⟨.f "_law_draws" 3,"_law_draws",top 44,["_law_script","_law_turn","_law_many","_law_cells","_law_found","_law_left","_law_k","_law_at","_law_place","_law_number"],[],3,[],[],[2248136377,2256136152,2272160552]⟩
noncomputable def io:B mM:=by walk_at "tr"
@[simp] def p8:FH:=⟨.f "_law_pop" 1,"_law_pop",top 45,["_law_draws_here"],[],3,[],[],[]⟩
noncomputable def lO:B p8:=by walk_at "tr"
@[simp] def p7:FH:=⟨.f "_law_row" 2,"_law_row",top 46,["_law_n","_law_some","_law_row_here","_law_group","_law_number"],[],3,[],[],[2416160360]⟩
noncomputable def jt:B p7:=by walk_at "tr"
@[simp] def oA:FH:=⟨.f "_law_rest" 3,"_law_rest",top 47,["_law_n","_law_a","_law_b"],[2],6,[],["_law_row"],[]⟩
noncomputable def kI:B oA:=by walk_at "tr"
@[simp] def md:FH:=⟨.f "_law_shared" 4,"_law_shared",top 48,["_law_n","_law_a","_law_b","_law_c"],[2],6,[],["_law_row"],[]⟩
noncomputable def jg:B md:=by walk_at "tr"
@[simp] def mf:FH:=⟨.f "_law_saying" 2,"_law_saying",top 59,["_law_draws_here","_law_n","_law_number","_law_whole","_law_a","_law_b","_law_c","_law_sign","_law_count"],[1,2,3,4],9,[],["_law_pop","_law_row","_law_rest","_law_shared"],[3080144350,3128400606]⟩
noncomputable def gw:B mf:=by walk_at "tr"
@[simp] def ma:FH:=⟨.f "_law_wanted" 3,"_law_wanted",top 60,["_law_draws_here","_law_n","_law_book","_law_number","_law_one","_law_row_here","_law_sign","_law_count","_law_more","_law_mark","_law_add"],[1,5],12,[],["_law_pop","_law_saying"],[3232144350,3240120414]⟩
noncomputable def gq:B ma:=by walk_at "tr"
@[simp] def mN:FH:=⟨.f "_law_drawn" 2,"_law_drawn",top 63,["_law_script","_law_most","_law_draws_here","_law_number","_law_n","_law_many","_law_book","_law_row_here","_law_sign","_law_count"],[0,1,5,6],15,[],["_law_draws","_law_pop","_law_saying","_law_wanted"],[3392176422,3400144350,3432224405,3448224277,3456128680,3456136430,3488248630]⟩
noncomputable def iq:B mN:=by walk_at "tr"
@[simp] def mn:FH:=⟨.f "_law_copied" 1,"_law_copied",top 61,["_law_book"],[],3,[],[],[]⟩
noncomputable def gy:B mn:=by walk_at "tr"
@[simp] def jF:FH:=⟨.f "upward_sayings" 1,"upward_sayings",top 35,["saying","row","number","upward"],[],3,[],[],[1944104264]⟩
noncomputable def gF:B jF:=by walk_at "tr"
@[simp] def oz:FH:=⟨.f "all_names" 1,"all_names",top 1,["n"],[],3,[],[],[]⟩
noncomputable def oO:B oz:=by walk_at "tr"
@[simp] def iX:FH:=⟨.f "pairs_with_known" 3,"pairs_with_known",top 7,["n","i","j","both"],[10],6,[],["all_names"],[]⟩
noncomputable def i9:B iX:=by walk_at "tr"
@[simp] def wq:FH:=⟨.f "rules" 1,"rules",top 8,["n","found","i","j"],[11],9,[],["pairs_with_known"],[168096344]⟩
noncomputable def wD:B wq:=by walk_at "tr"
@[simp] def kT:FH:=⟨.f "row_of_terms" 2,"row_of_terms",top 2,["n","terms","row","group","number"],[10],6,[],["all_names"],[40080224]⟩
noncomputable def lj:B kT:=by walk_at "tr"
@[simp] def p5:FH:=⟨.f "rest_row" 3,"rest_row",top 3,["n","a","b"],[13],9,[],["row_of_terms"],[]⟩
noncomputable def qv:B p5:=by walk_at "tr"
@[simp] def mH:FH:=⟨.f "shared_row" 4,"shared_row",top 4,["n","a","b","c"],[13],9,[],["row_of_terms"],[]⟩
noncomputable def mU:B mH:=by walk_at "tr"
@[simp] def p4:FH:=⟨.f "rule_row" 2,"rule_row",top 9,["n","rule","one"],[10,14,15],12,[],["all_names","rest_row","shared_row"],[]⟩
noncomputable def qu:B p4:=by walk_at "tr"
@[simp] def ou:FH:=⟨.f "rule_rows" 1,"rule_rows",top 10,["n"],[12,16],15,[],["rules","rule_row"],[]⟩
noncomputable def oH:B ou:=by walk_at "tr"
@[simp] def jL:FH:=⟨.k "Sheet" 3,"Sheet.__init__",iF 13 0,["self","width","lines"],[],3,[],[],[368168408,376168312,384168472]⟩
noncomputable def gM:B jL:=by walk_at "tr"
@[simp] def mq:FH:=⟨.m "Sheet" "guard" 2,"Sheet.guard",iF 13 1,["self","quantity"],[],3,[],[],[]⟩
noncomputable def jh:B mq:=by walk_at "tr"
@[simp] def jY:FH:=⟨.f "opening_sheet" 3,"opening_sheet",top 25,["n","givens","goal","lines","guarded","sheet","quantity"],[17,10,18,19],18,[],["rule_rows","all_names","Sheet","guard"],[1360096376,1360104177,1376144313,1384136409]⟩
noncomputable def ik:B jY:=by walk_at "tr"
@[simp] def jm:FH:=⟨.m "Sheet" "turn_line" 2,"Sheet.turn_line",iF 13 3,["self","place"],[],3,[],[],[]⟩
noncomputable def fY:B jm:=by walk_at "tr"
@[simp] def gU:FH:=⟨.m "Sheet" "loose_columns" 1,"Sheet.loose_columns",iF 13 5,["self"],[],3,[],[],[]⟩
noncomputable def eO:B gU:=by walk_at "tr"
@[simp] def gh:FH:=⟨.m "Sheet" "raising_column" 2,"Sheet.raising_column",iF 13 6,["self","place","line","found"],[22],6,[⟨81,30,81,63⟩],["loose_columns"],[]⟩
noncomputable def eD:B gh:=by walk_at "tr"
@[simp] def i5:FH:=⟨.m "Sheet" "is_tighter" 4,"Sheet.is_tighter",iF 13 8,["self","one","other","column","ahead","behind"],[],3,[],[],[]⟩
noncomputable def fJ:B i5:=by walk_at "tr"
@[simp] def gg:FH:=⟨.m "Sheet" "tightest_place" 2,"Sheet.tightest_place",iF 13 9,["self","column","best","place","line"],[24],6,[],["is_tighter"],[]⟩
noncomputable def eC:B gg:=by walk_at "tr"
@[simp] def iz:FH:=⟨.m "Sheet" "is_up_first" 4,"Sheet.is_up_first",iF 13 10,["self","place","tight","column","up"],[],3,[],[],[]⟩
noncomputable def fi:B iz:=by walk_at "tr"
@[simp] def kZ:FH:=⟨.f "changed_line" 5,"changed_line",top 12,["line","pivot_line","column","sign","below","pivot","factor","changed"],[],3,[],[],[312112808]⟩
noncomputable def eL:B kZ:=by walk_at "tr"
@[simp] def jJ:FH:=⟨.m "Sheet" "exchange" 3,"Sheet.exchange",iF 13 4,["self","place","column","sign","pivot_line","below","freed"],[27],6,[],["changed_line"],[536168776,544224496]⟩
noncomputable def gJ:B jJ:=by walk_at "tr"
@[simp] def mP:FH:=⟨.m "Sheet" "lift" 2,"Sheet.lift",iF 13 11,["self","place","column","tight"],[23,25,26,28],9,[],["raising_column","tightest_place","is_up_first","exchange"],[]⟩
noncomputable def fH:B mP:=by walk_at "tr"
@[simp] def gT:FH:=⟨.m "Sheet" "moving_column" 2,"Sheet.moving_column",iF 13 7,["self","place","line"],[22],6,[],["loose_columns"],[]⟩
noncomputable def eN:B gT:=by walk_at "tr"
@[simp] def mO:FH:=⟨.m "Sheet" "nail" 2,"Sheet.nail",iF 13 2,["self","quantity"],[],3,[],[],[]⟩
noncomputable def jO:B mO:=by walk_at "tr"
@[simp] def ox:FH:=⟨.f "keep_just" 2,"keep_just",top 26,["sheet","place","quantity","column"],[21,29,30,28,31],12,[],["turn_line","lift","moving_column","exchange","nail"],[]⟩
noncomputable def kF:B ox:=by walk_at "tr"
@[simp] def kW:FH:=⟨.f "keep_no_less" 2,"keep_no_less",top 27,["sheet","place","quantity"],[29,19],12,[],["lift","guard"],[]⟩
noncomputable def fL:B kW:=by walk_at "tr"
@[simp] def p6:FH:=⟨.f "names_in" 2,"names_in",top 15,["n","group"],[],3,[],[],[]⟩
noncomputable def qw:B p6:=by walk_at "tr"
@[simp] def ow:FH:=⟨.f "pair_rule" 3,"pair_rule",top 16,["one","other","known"],[],3,[],[],[]⟩
noncomputable def oJ:B ow:=by walk_at "tr"
@[simp] def jX:FH:=⟨.f "rules_of_name" 3,"rules_of_name",top 17,["n","k","known","used","j"],[34,35],6,[],["names_in","pair_rule"],[1048088104]⟩
noncomputable def kh:B jX:=by walk_at "tr"
@[simp] def jW:FH:=⟨.f "rules_of_rest" 3,"rules_of_rest",top 18,["n","a","b","used","known","k"],[34,36],9,[],["names_in","rules_of_name"],[1104088104]⟩
noncomputable def kg:B jW:=by walk_at "tr"
@[simp] def oy:FH:=⟨.f "how_often" 2,"how_often",top 19,["n","used"],[12],12,[],["rules"],[]⟩
noncomputable def oK:B oy:=by walk_at "tr"
@[simp] def ji:FH:=⟨.f "weights_by_line" 3,"weights_by_line",top 28,["n","sheet","place","taken","column","quantity","weights","group","often","rule","count"],[10,37,38],15,[],["all_names","rules_of_rest","how_often"],[1584096440,1616032340,1632112288]⟩
noncomputable def fW:B ji:=by walk_at "tr"
@[simp] def jI:FH:=⟨.f "common_divisor" 1,"common_divisor",top 21,["numbers","divisor","number","other","left"],[],3,[],[],[]⟩
noncomputable def eY:B jI:=by walk_at "tr"
@[simp] def jk:FH:=⟨.f "in_lowest_terms" 1,"in_lowest_terms",top 22,["numbers","divisor"],[40],6,[],["common_divisor"],[]⟩
noncomputable def eF:B jk:=by walk_at "tr"
@[simp] def jK:FH:=⟨.m "Sheet" "drive_up" 2,"Sheet.drive_up",iF 13 12,["self","place","column","tight"],[23,25,28],9,[],["raising_column","tightest_place","exchange"],[]⟩
noncomputable def gK:B jK:=by walk_at "tr"
@[simp] def jj:FH:=⟨.f "lowest_fraction" 2,"lowest_fraction",top 23,["top","bottom","numbers"],[41],9,[],["in_lowest_terms"],[]⟩
noncomputable def fX:B jj:=by walk_at "tr"
@[simp] def iY:FH:=⟨.f "groups_in_column" 3,"groups_in_column",top 29,["n","sheet","column","found","place","quantity"],[10],6,[],["all_names"],[1696096240]⟩
noncomputable def fG:B iY:=by walk_at "tr"
@[simp] def kU:FH:=⟨.f "lowest_table" 2,"lowest_table",top 24,["numbers","below","found"],[41],9,[],["in_lowest_terms"],[1336224361]⟩
noncomputable def iJ:B kU:=by walk_at "tr"
@[simp] def jG:FH:=⟨.f "table_of_sheet" 2,"table_of_sheet",top 30,["n","sheet"],[44,45],12,[],["groups_in_column","lowest_table"],[1744192438]⟩
noncomputable def gG:B jG:=by walk_at "tr"
@[simp] def jH:FH:=⟨.f "least_of_sheet" 3,"least_of_sheet",top 32,["n","sheet","place","least","weights"],[43,39,41,46],18,[],["lowest_fraction","weights_by_line","in_lowest_terms","table_of_sheet"],[1808240502,1808240625,1816224422]⟩
noncomputable def gH:B jH:=by walk_at "tr"
@[simp] def ot:FH:=⟨.f "way_along" 3,"way_along",top 31,["n","sheet","column","way"],[44,41],9,[],["groups_in_column","in_lowest_terms"],[1760080358]⟩
noncomputable def iR:B ot:=by walk_at "tr"
@[simp] def uF:FH:=⟨.f "answer" 3,"answer",top 33,["n","givens","goal","sheet","last","place","given","kept","column"],[20,32,33,39,41,42,47,46,48],21,[],["opening_sheet","keep_just","keep_no_less","weights_by_line","in_lowest_terms","drive_up","least_of_sheet","table_of_sheet","way_along"],[1832096342,1856120310,1856504718,1872360622,1896120366,1904184382,1904392614]⟩
noncomputable def ph:B uF:=by walk_at "tr"
@[simp] def wo:FH:=⟨.f "value" 2,"value",top 5,["row","table"],[],3,[],[],[]⟩
noncomputable def rp:B wo:=by walk_at "tr"
@[simp] def l7:FH:=⟨.f "table_along" 4,"table_along",top 36,["table","way","row","number","below","above","fall","steps"],[50,45],12,[],["value","lowest_table"],[]⟩
noncomputable def gk:B l7:=by walk_at "tr"
@[simp] def jZ:FH:=⟨.f "follow_upward" 4,"follow_upward",top 37,["n","givens","row","number","found"],[49,51],24,[],["answer","table_along"],[]⟩
noncomputable def fu:B jZ:=by walk_at "tr"
@[simp] def sB:FH:=⟨.f "follows" 3,"follows",top 38,["n","givens","saying","papers","row","sign","number","told"],[9,52],27,[],["upward_sayings","follow_upward"],[2104104120]⟩
noncomputable def ki:B sB:=by walk_at "tr"
@[simp] def mK:FH:=⟨.f "_law_rules" 1,"_law_rules",top 49,["_law_n","_law_whole","_law_found","_law_i","_law_j","_law_group"],[3,4],9,[],["_law_rest","_law_shared"],[2504136840]⟩
noncomputable def mV:B mK:=by walk_at "tr"
@[simp] def l8:FH:=⟨.f "_law_wholes" 2,"_law_wholes",top 51,["_law_found","_law_many"],[],3,[],[],[]⟩
noncomputable def dY:B l8:=by walk_at "tr"
@[simp] def oC:FH:=⟨.f "_law_came" 3,"_law_came",top 56,["_law_n","_law_givens","_law_weights","_law_rows","_law_first","_law_k","_law_number","_law_found","_law_place"],[54,55],12,[],["_law_rules","_law_wholes"],[2800128873,2864136152]⟩
noncomputable def iT:B oC:=by walk_at "tr"
@[simp] def mL:FH:=⟨.f "_law_paper" 5,"_law_paper",top 57,["_law_n","_law_givens","_law_row_here","_law_number","_law_paper_here","_law_came_here","_law_times"],[56],15,[],["_law_came"],[]⟩
noncomputable def eM:B mL:=by walk_at "tr"
@[simp] def mh:FH:=⟨.f "_law_papers" 4,"_law_papers",top 58,["_law_n","_law_givens","_law_saying_here","_law_papers_here","_law_row_here","_law_sign","_law_number","_law_due"],[57],18,[],["_law_paper"],[3024120360]⟩
noncomputable def gx:B mh:=by walk_at "tr"
@[simp] def mI:FH:=⟨.f "_law_value" 2,"_law_value",top 50,["_law_row_here","_law_numbers"],[],3,[],[],[]⟩
noncomputable def jN:B mI:=by walk_at "tr"
@[simp] def oB:FH:=⟨.f "_law_kept" 2,"_law_kept",top 54,["_law_saying_here","_law_told","_law_row_here","_law_sign","_law_number","_law_gap"],[59],6,[],["_law_value"],[]⟩
noncomputable def iS:B oB:=by walk_at "tr"
@[simp] def k6:FH:=⟨.f "_law_divisor" 2,"_law_divisor",top 52,["_law_one","_law_other"],[],3,[],[],[]⟩
noncomputable def fO:B k6:=by walk_at "tr"
@[simp] def k4:FH:=⟨.f "_law_is_told" 2,"_law_is_told",top 53,["_law_n","_law_told","_law_by","_law_one"],[55,61],6,[],["_law_wholes","_law_divisor"],[]⟩
noncomputable def fN:B k4:=by walk_at "tr"
@[simp] def mo:FH:=⟨.f "_law_breaks" 4,"_law_breaks",top 55,["_law_n","_law_givens","_law_saying_here","_law_told"],[60,62,54,59],12,[],["_law_kept","_law_is_told","_law_rules","_law_value"],[]⟩
noncomputable def gz:B mo:=by walk_at "tr"
@[simp] def mJ:FH:=⟨.f "_law_shown" 4,"_law_shown",top 62,["_law_n","_law_givens","_law_saying_here","_law_told"],[58,63],21,[],["_law_papers","_law_breaks"],[]⟩
noncomputable def im:B mJ:=by walk_at "tr"
@[simp] def kY:FH:=⟨.f "follows_from" 4,"follows_from",top 40,["n","book","places","saying"],[53],30,[],["follows"],[]⟩
noncomputable def fM:B kY:=by walk_at "tr"
@[simp] def gR:FH:=⟨.f "follows_from_others" 4,"follows_from_others",top 41,["n","book","places","place","others"],[65],33,[],["follows_from"],[]⟩
noncomputable def dB:B gR:=by walk_at "tr"
@[simp] def wp:FH:=⟨.f "spare" 2,"spare",top 42,["n","book","places"],[66],36,[],["follows_from_others"],[2224088680]⟩
noncomputable def nX:B wp:=by walk_at "tr"
@[simp] def Dh:FH:=⟨.f "law" 1,"law",top 64,["_law_script","_law_n","_law_book","_law_saying_here","_law_handed","_law_due","_law_place","_law_others","_law_told","_law_k","_law_found"],[7,8,53,64,67,55],39,[],["_law_drawn","_law_copied","follows","_law_shown","spare","_law_wholes"],[3520120136,3536176617,3592168382]⟩
noncomputable def tF:B Dh:=by walk_at "tr"
def e_law:FE:=⟨Dh,tF⟩
def pre:List FE:=[⟨mM,io⟩,⟨p8,lO⟩,⟨p7,jt⟩,⟨oA,kI⟩,⟨md,jg⟩,⟨mf,gw⟩,⟨ma,gq⟩,⟨mN,iq⟩,⟨mn,gy⟩,⟨jF,gF⟩,⟨oz,oO⟩,⟨iX,i9⟩,⟨wq,wD⟩,⟨kT,lj⟩,⟨p5,qv⟩,⟨mH,mU⟩,⟨p4,qu⟩,⟨ou,oH⟩,⟨jL,gM⟩,⟨mq,jh⟩,⟨jY,ik⟩,⟨jm,fY⟩,⟨gU,eO⟩,⟨gh,eD⟩,⟨i5,fJ⟩,⟨gg,eC⟩,⟨iz,fi⟩,⟨kZ,eL⟩,⟨jJ,gJ⟩,⟨mP,fH⟩,⟨gT,eN⟩,⟨mO,jO⟩,⟨ox,kF⟩,⟨kW,fL⟩,⟨p6,qw⟩,⟨ow,oJ⟩,⟨jX,kh⟩,⟨jW,kg⟩,⟨oy,oK⟩,⟨ji,fW⟩,⟨jI,eY⟩,⟨jk,eF⟩,⟨jK,gK⟩,⟨jj,fX⟩,⟨iY,fG⟩,⟨kU,iJ⟩,⟨jG,gG⟩,⟨jH,gH⟩,⟨ot,iR⟩,⟨uF,ph⟩,⟨wo,rp⟩,⟨l7,gk⟩,⟨jZ,fu⟩,⟨sB,ki⟩,⟨mK,mV⟩,⟨l8,dY⟩,⟨oC,iT⟩,⟨mL,eM⟩,⟨mh,gx⟩,⟨mI,jN⟩,⟨oB,iS⟩,⟨k6,fO⟩,⟨k4,fN⟩,⟨mo,gz⟩,⟨mJ,im⟩,⟨kY,fM⟩,⟨gR,dB⟩,⟨wp,nX⟩]
theorem FD:qo gs cl [] pre=pre.map fun e=>À e.b:=by kernel_rfl
theorem FF:e_law.chk gs cl pre=À e_law.b:=by kernel_rfl
instance:Pf:=⟨[(117,⟨81,30,81,63⟩,("Sheet.raising_column":Ì)++".<locals>."++"<lambda>")]⟩
def aU:Fn:=run 10 (af [] io)
def aA:Fn:=run 1 (af [] lO)
def c7:Fn:=run 5 (af [] jt)
def dw:Fn:=run 3 (af [c7] kI)
def cS:Fn:=run 4 (af [c7] jg)
def aq:Fn:=run 9 (af [aA,c7,dw,cS] gw)
def aM:Fn:=run 11 (af [aA,aq] gq)
def eR:Fn:=run 10 (af [aU,aA,aq,aM] iq)
def fc:Fn:=run 1 (af [] gy)
def bE:Fn:=run 4 (af [] gF)
def ar:Fn:=run 1 (af [] oO)
def jb:Fn:=run 4 (af [ar] i9)
def rJ:Fn:=run 4 (af [jb] wD)
def iM:Fn:=run 5 (af [ar] lj)
def qB:Fn:=run 3 (af [iM] qv)
def m7:Fn:=run 4 (af [iM] mU)
def qA:Fn:=run 3 (af [ar,qB,m7] qu)
def aS:Fn:=run 1 (af [rJ,qA] oH)
def aH:Fn:=run 3 (af [] gM)
def aR:Fn:=run 2 (af [] jh)
def cq:Fn:=run 7 (af [aS,ar,aH,aR] ik)
def de:Fn:=run 2 (af [] fY)
def cW:Fn:=run 1 (af [] eO)
def aK:Fn:=run 4 (af [cW] eD)
def cX:Fn:=run 6 (af [] fJ)
def aJ:Fn:=run 5 (af [cX] eC)
def bh:Fn:=run 5 (af [] fi)
def b9:Fn:=run 8 (af [] eL)
def aO:Fn:=run 7 (af [b9] gJ)
def c8:Fn:=run 4 (af [aK,aJ,bh,aO] fH)
def cA:Fn:=run 3 (af [cW] eN)
def eS:Fn:=run 2 (af [] jO)
def c4:Fn:=run 4 (af [de,c8,cA,aO,eS] kF)
def b8:Fn:=run 3 (af [c8,aR] fL)
def lS:Fn:=run 2 (af [] qw)
def oR:Fn:=run 3 (af [] oJ)
def km:Fn:=run 5 (af [lS,oR] kh)
def dD:Fn:=run 6 (af [lS,km] kg)
def fe:Fn:=run 2 (af [rJ] oK)
def aQ:Fn:=run 11 (af [ar,dD,fe] fW)
def dk:Fn:=run 5 (af [] eY)
def aj:Fn:=run 2 (af [dk] eF)
def bR:Fn:=run 4 (af [aK,aJ,aO] gK)
def dH:Fn:=run 3 (af [aj] fX)
def dz:Fn:=run 6 (af [ar] fG)
def bY:Fn:=run 3 (af [aj] iJ)
def bg:Fn:=run 2 (af [dz,bY] gG)
def bQ:Fn:=run 5 (af [dH,aQ,aj,bg] gH)
def cZ:Fn:=run 4 (af [dz,aj] iR)
def iN:Fn:=run 9 (af [cq,c4,b8,aQ,aj,bR,bQ,bg,cZ] ph)
def iK:Fn:=run 2 (af [] rp)
def fb:Fn:=run 8 (af [iK,bY] gk)
def bI:Fn:=run 5 (af [iN,fb] fu)
def df:Fn:=run 8 (af [bE,bI] ki)
def cR:Fn:=run 6 (af [dw,cS] mV)
def aI:Fn:=run 2 (af [] dY)
def gj:Fn:=run 9 (af [cR,aI] iT)
def bU:Fn:=run 7 (af [gj] eM)
def dg:Fn:=run 8 (af [bU] gx)
def cF:Fn:=run 2 (af [] jN)
def c5:Fn:=run 6 (af [cF] iS)
def bt:Fn:=run 2 (af [] fO)
def cJ:Fn:=run 4 (af [aI,bt] fN)
def dh:Fn:=run 4 (af [c5,cJ,cR,cF] gz)
def dQ:Fn:=run 4 (af [dg,dh] im)
def dM:Fn:=run 4 (af [df] fM)
def cz:Fn:=run 5 (af [dM] dB)
def lu:Fn:=run 3 (af [cz] nX)
def qC:Fn:=run 11 (af [eR,fc,df,dQ,lu,aI] tF)
def Fs:List Fn:=[aU,aA,c7,dw,cS,aq,aM,eR,fc,bE,ar,jb,rJ,iM,qB,m7,qA,aS,aH,aR,cq,de,cW,aK,cX,aJ,bh,b9,aO,c8,cA,eS,c4,b8,lS,oR,km,dD,fe,aQ,dk,aj,bR,dH,dz,bY,bg,bQ,cZ,iN,iK,fb,bI,df,cR,aI,gj,bU,dg,cF,c5,bt,cJ,dh,dQ,dM,cz,lu]
theorem KQ:j3 [] pre=Fs:=AC (by(repeat refine⟨rfl,?_⟩);trivial)
theorem Kn:e_law.fn (j3 [] pre)=qC:=by rw[KQ];rfl
def L3:Fn:=qC
open PySem.Spec
open SX (Sh Po)
def Bd(w m:Nat)(S:Sh):Prop:=S.d.natAbs<2^9000/\∀i,i<m->∀j,j<w+1->(S.t i j).natAbs<2^9000
section
variable{st:aa}{k a b c g n u w m:Nat}{rows:List AV}{S:Sh}
theorem Kv(R:Rep st k a b c g n u rows S)(P:Po w m S)(B:Bd w m S){i r q:Nat}(e:i<m)(d:r<m)(l:q<w) :
  cX [.ref k,.int i,.int r,.int q] st=À (.bl (decide (S.t i w*- S.t r q<S.t r w*- S.t i q)||(decide (S.t i w*- S.t r q=S.t r w*- S.t i q)&&decide (S.s i<S.s r))),st):=by
 have f:eI (S.t i w) (- S.t r q)=Â:=cL (B.2 i e w oM) (by rw [Þ];exact B.2 r d q oM);have m2:eI (S.t r w) (- S.t i q)=Â:=cL (B.2 r d w oM) (by rw [Þ];exact B.2 i e q oM);simp [cX,aw,fJ,R.ins,R.line P e,R.line P d,R.last P e,R.last P d,R.cell P e (show q < w + 1 by lia),R.cell P d (show q < w + 1 by lia),cj f,cj m2,R.side P e,R.side P d];by_cases j:S.t i w * -S.t r q < S.t r w * -S.t i q <;> by_cases h:S.t i w * -S.t r q=S.t r w * -S.t i q <;> simp [j,h]
theorem CK(R:Rep st k a b c g n u rows S)(P:Po w m S)(B:Bd w m S){i r q:Nat}(e:i<m)(d:r<m)(h:q<w) :
  bh [.ref k,.int i,.int r,.int q] st=À (.bl (decide (S.t i w*S.t r q<=S.t r w*S.t i q)),st):=by
 have f:eI (S.t i w) (S.t r q)=Â:=cL (B.2 i e w oM) (B.2 r d q oM);have m2:eI (S.t r w) (S.t i q)=Â:=cL (B.2 r d w oM) (B.2 i e q oM);simp [bh,aw,fi,R.ins,R.line P e,R.line P d,R.last P e,R.last P d,R.cell P e (show q < w + 1 by lia),R.cell P d (show q < w + 1 by lia),cj f,cj m2]
theorem wc(R:Rep st k a b c g n u rows S)(P:Po w m S)(f:w<=100):cW [.ref k] st=À (.fz (nL (cD S)),st):=by
 have e:nL (cD S)=(S.hd.zipIdx.filter fun z=>!decide (z.1∈S.nl)).map fun z=>(AV.int ((z.2:Nat):Int)):=by unfold nL cD;rw[Ö];rfl
 have d:=lD (l:=cD S);rw [e] at d ⊢;simp [cW,aw,eO,R.ins,kS R.hb,K6,cC (show S.hd.length <= 1000 by rw [P.hd];lia)];rw [iG (B:=fun z=>!decide (z.1 ∈ S.nl)) (F:=fun z=>.int ((z.2:Nat):Int)) (iH R.hb) fun z _=>⟨_,rfl,by simp [R.ins,R.nin],fun _=>rfl⟩];simp [d]
theorem tS(R:Rep st k a b c g n u rows S)(P:Po w m S)(y:w<=100){p:Nat}(r:p<m):∃o,aK [.ref k,.int p] st=À (oN o,st)/\SX.Rais w S p o:=by
 have x:(cD S).length<=1000:=by
  unfold cD;rw[zH]
  have:=Ģ (fun z:Nat×Nat=>!decide (z.1∈S.nl)) S.hd.zipIdx
  rw[Q0,P.hd]at this;lia
 obtain⟨o,C,G,E⟩:=Jc (l:=(cD S).filter fun j=>decide (0<S.t p j)) (key:=S.h);have inl:∀j,j∈(cD S).filter (fun j=>decide (0<S.t p j)) ↔ (j<w/\S.h j∉S.nl)/\0<S.t p j:=fun j=>by rw[ć,jU P];simp
 refine⟨o,?_,fun e j d i h=>?_,fun q e=>?_⟩
 ·simp[aK,aw,eD,R.ins,R.line P r,wc R P y,nL,cC x]
  rw [iG (B:=fun j=>decide (0 < S.t p j)) (F:=fun j:Nat=>.int (j:Int)) gX fun j d=>⟨_,rfl,by simp [R.cell P r (show j < w + 1 by have:=(jU P).mp d;lia)],fun _=>rfl⟩];have D:rfs (((cD S).filter fun j=>decide (0 < S.t p j)).map fun j:Nat=>(AV.int (j:Int)))=Â:=lD;have t:=wg (l:=(cD S).filter fun j=>decide (0 < S.t p j));unfold nL at t;simp [D,tG,lsI,t];rw [HV (f:=S.h) fun q A=>by simp [R.ins,R.head P ((inl q).mp A).1.1]];simp [C]
 ·have:=G e
  have s:=(inl j).mpr ⟨⟨d,i⟩,h⟩;rw[this]at s;cases s
 ·obtain⟨v,m2⟩:=E q e
  have:=(inl q).mp v
  exact⟨this.1.1,this.1.2,this.2,fun j d i h=>m2 j ((inl j).mpr ⟨⟨d,i⟩,h⟩)⟩
theorem vN(R:Rep st k a b c g n u rows S)(P:Po w m S)(B:Bd w m S){q:Nat}(z:q<w):∃o,aJ [.ref k,.int q] st=À (oN o,st)/\SX.Pj S w q m o:=by
 have rl:rows.length=m:=by rw[R.len,P.ls]
 obtain⟨t,p,e,rfl,o,x,y,rfl,T⟩:=dX (gd:=[(a,.lst rows)]) (g:=cM [cX] (.tu 2 (.cons (.nm 3) (.cons (.nm 4) .nil)))) (s:=af [cX] (.cons (.iff (.an (.cmp .Lt (.ix (.v 4) (.v 1)) (.i 0)) (.cmp .In (.ix (.fd "Sheet" "sides" (.v 0)) (.v 3)) (.fd "Sheet" "guarded" (.v 0))))
   (.cons (.iff (.or (.cmp .Is (.v 2) .n) (.va (.me "Sheet" "is_tighter" 0 (.v 0) (.cons (.v 3) (.cons (.v 2) (.cons (.v 1) .nil)))))) (.cons (.as (.v 3) (.nm 2)) .nil) .nil) .nil) .nil) .nil))
  (I:=fun i sl s=>s=st/\∃o x y,sl=[Rs k,Is q,À (oN o),x,y]/\SX.Pj S w q i o) (xs:=fP 0 rows) (fun i sl s _ j=>by rw[j.1];exact iH R.ha)
  (fun i y sl s v j=>by
   obtain⟨rfl,o,C,A,rfl,T⟩:=j;obtain⟨x,l,rfl⟩:=qh v;have f:i<m:=by rw[<- rl];exact(zB.mp l).1
   have ex:x=my rows i:=by have:=R.rx P f;rw[l]at this;injection this
   subst ex;refine⟨_,[Rs k,Is q,À (oN (if S.t i q<0/\S.s i∈S.gd then(match o with|none=>À i|some r=>if S.t i w*- S.t r q<S.t r w*- S.t i q\/(S.t i w*- S.t r q=S.t r w*- S.t i q/\S.s i<S.s r) then À i else À r) else o)),Is i,À (my rows i)],s,rfl,?_,rfl,_,_,_,rfl,?_⟩
   ·by_cases d:S.t i q<0
    ·by_cases h:S.s i∈S.gd
     ·cases o with
      | none=>simp [R.cell P f (show q < w + 1 by lia),d,R.side P f,R.ins,R.ing,h,oN]
      |some r =>
       have D:=(T.2 r rfl).1
       have:=Kv R P B f (show r < m by lia) z
       simp [R.cell P f (show q < w + 1 by lia),d,R.side P f,R.ins,R.ing,h,oN,this,fT,cw,dr];split <;> rfl
     ·simp [R.cell P f (show q < w + 1 by lia),d,R.side P f,R.ins,R.ing,h]
    ·simp [R.cell P f (show q < w + 1 by lia),d]
   ·by_cases d:S.t i q<0/\S.s i∈S.gd
    ·rw[yH d]
     cases o with
     |none=>exact SX.tt_first d.1 d.2 T
     |some r =>
      dsimp only;split
      ·rename_i h;exact SX.tt_new d.1 d.2 h T
      ·rename_i h;exact SX.tt_old d.1 h T
    ·rw[yG d];exact SX.tt_skip d T) (sl:=[Rs k,Is q,À .non,Á,Á]) (st:=st) ⟨rfl,Á,Á,Á,rfl,SX.tt_zero⟩
 rw[nT,rl]at T;refine⟨o,?_,T⟩;simp[aJ,aw,eC,R.ins,kS R.ha];rw[e];simp
end
open SX (gI chLine pvl sgn)
theorem tI:((iL l).zip (iL P)).map (fun z=>AV.tup [z.1,z.2])=(l.zip P).map fun z=>.tup [.int z.1,.int z.2]:=by
 unfold iL;rw[List.zip_map,Ö];rfl
section
variable{l P:List Int}{q w:Nat}{sg d:Int}
theorem nO{M:Nat}(h:∀x∈l,x.natAbs<M)(a:0<M)(j:Nat):(gI l j).natAbs<M:=by
 unfold gI;rw[zD];cases e:l[j]? with
 |none=>exact a
 |some x=>exact h x (zW e)
theorem Nb(s:l.length=w+1)(t:P.length=w+1)(r:q<w+1)(p:w<=100)(g:∀x∈l,x.natAbs<2^9000)(m:∀x∈P,x.natAbs<2^9000)(hd:d≠0)(bd:d.natAbs<2^9000)(bs:sg.natAbs<2^9000) :
  ∃v st',b9 [.fz (iL l),.fz (iL P),.int q,.int sg,.int d] []=À (v,st')/\dN st' v=À (.fz (iL (chLine l P q sg d))):=by
 have h:(0:Nat)<2^9000:=Ñ _;have f:∀b:aa,aG b (.fz (iL P)) (.int (q:Int))=À (.int (gI P q)):=fun b=>by rw[cH dR,bS,cx oM]
 have e:∀b:aa,aG b (.fz (iL l)) (.int (q:Int))=À (.int (gI l q)):=fun b=>by rw[cH dR,bS,cx oM]
 have j:=nO m h q;have k:=nO g h q;have i:=u7 hd bd;unfold chLine;by_cases a:gI l q=0
 ·by_cases c:gI P q=d
  ·refine⟨.fz (iL l),[],?_,by rw[yH a,yH c];rfl⟩
   simp[b9,aw,eL,f,e,a,c]
  ·refine⟨.fz (iL (l.map fun x=>SX.fdvS (x*gI P q) d)),[],?_,by rw[yH a,yG c];rfl⟩
   simp [b9,aw,eL,f,e,a,c,cC (show l.length <= 1000 by lia)];rw [lG (F:=fun x=>SX.fdvS (x * gI P q) d) gX fun x o=>⟨_,rfl,rfl,by simp [cj (cL (g x o) j),qx i];rfl⟩];simp
 ·refine⟨.ref 0,[.lst (iL (((l.zip P).map fun z=>SX.fdvS (z.1*gI P q-gI l q*z.2) d).set q (sg*gI l q)))],?_,by rw[yG a];exact nk rfl⟩
  have n:=cL bs k;have hz:((l.zip P).length)<=1000:=by rw[ļ];lia
  simp[b9,aw,eL,f,e,a,iZ,tI];rw[yH (cC oM),Aj (F:=fun z=>SX.fdvS (z.1*gI P q-gI l q*z.2) d) gX fun z hz=>⟨_,rfl,rfl,by
   have:=ý hz
   simp[cj (cL (g _ this.1) j),cj (cL k (m _ this.2)),qx i];rfl⟩]
  simp[cj n];rw[d8 (xs:=iL ((l.zip P).map fun z=>SX.fdvS (z.1*gI P q-gI l q*z.2) d)) rfl (by simp;lia),f9];simp
theorem La(b:RowR st x l)(f:l.length=w+1)(g:P.length=w+1)(e:q<w+1)(c:w<=100)(j:∀x∈l,x.natAbs<2^9000)(k:∀x∈P,x.natAbs<2^9000)(hd:d≠0)(bd:d.natAbs<2^9000)(bs:sg.natAbs<2^9000) :
  ∃st1,pm b9 [x,.fz (iL P),.int q,.int sg,.int d] st=À (.fz (iL (chLine l P q sg d)),st1)/\(st1=st\/∃r,x=.ref r/\st[r]?=À (.lst (iL l))/\st1=st.set r (.al (.fz (iL l)))):=by
 obtain⟨v,a,i,h⟩:=Nb f g e c j k hd bd bs;exact mz (rest:=[.fz (iL P),.int q,.int sg,.int d]) b (by simp) rfl (fun s=>by simp[qc,sC,rf]) i h (by simp[flat])
end
section
variable{st:aa}{k a b c g n u w m:Nat}{rows:List AV}{S:Sh}
theorem Bd.row(B:Bd w m S)(P:Po w m S){i:Nat}(c:i<m):∀x∈SX.row S i,x.natAbs<2^9000:=fun x d=>by
 obtain⟨j,b⟩:=z8 d;have a:=(zB.mp b).1;rw[P.rl c]at a
 have:=B.2 i c j a
 have e:S.t i j=x:=by show(SX.row S i).getD j 0=x;rw[zD,b];rfl
 rw[e]at this;exact this
theorem qg(R:Rep st k a b c g n u rows S)(P:Po w m S)(B:Bd w m S)(hd:S.d≠0)(hw:w<=100)(hm:m<=1000){p q:Nat}(A:p<m)(hq:q<w) :
  ∃st' a' rows',aO [.ref k,.int p,.int q] st=À (.non,st')/\Rep st' k a' b c g n u rows' (SX.Pl S p q):=by
 have rl:rows.length=m:=by rw[R.len,P.ls]
 obtain⟨sg,D⟩:∃x,x=sgn (S.t p q):=⟨_,rfl⟩;obtain⟨o,N⟩:∃x,x=pvl S p q:=⟨_,rfl⟩;have E:o=(SX.row S p).map fun x=>sg*x:=by rw[N,D];rfl
 have lp:o.length=w+1:=by rw[E,zH];exact P.rl A
 have sa:sg.natAbs=1:=by rw[D];unfold sgn;split<;>rfl
 have bs:sg.natAbs<2^9000:=by rw[sa];exact Ϡ oM
 have bP:∀x∈o,x.natAbs<2^9000:=fun x G=>by
  rw[E]at G;obtain⟨y,hy,rfl⟩:=yC.mp G;rw[yZ,sa,ϐ];exact B.row P A y hy
 have s1:∃t,iW [(a,.lst rows)] (cM [b9] (.nm 7)) (j5 [b9] .no) (ev [b9] (.ca Â 0 (.cons (.v 7) (.cons (.v 4) (.cons (.v 2) (.cons (.v 3) (.cons (.v 5) .nil))))))) [Rs k,Is p,Is q,Is sg,Ls o,Is S.d,Á,Á] rows st
   = À ((Æ rows.length).map fun i=>.fz (iL (chLine (SX.row S i) o q sg S.d)),t)/\Rep t k a b c g n u rows S:=by
  refine Ai (J:=fun _ s=>Rep s k a b c g n u rows S) (fun _ s _ Z=>iH Z.ha) (fun i x s G Z=>?_) R;have hi:i<m:=by rw[<- rl];exact(zB.mp G).1
  obtain ⟨s1,e1,Y⟩:=La (Z.row i x G) (P.rl hi) lp (show q < w + 1 by lia) hw (B.row P hi) bP hd B.1 bs;refine ⟨_,s1,rfl,rfl,by simp [e1],?_⟩;rcases Y with rfl | ⟨r,rfl,h2,rfl⟩
  ·exact Z
  ·exact Z.freeze G h2
 obtain⟨t,e1,R1⟩:=s1;obtain⟨f,M⟩:∃x,x=(Æ rows.length).map fun i=>AV.fz (iL (chLine (SX.row S i) o q sg S.d)):=⟨_,rfl⟩
 rw[<- M]at e1;have O:∀i x,f[i]?=À x->i<m/\x=.fz (iL (chLine (SX.row S i) o q sg S.d)):=fun i x h=>by
  rw[M,zR]at h;obtain⟨j,Y,rfl⟩:=zE.mp h;have W:=(zB.mp Y).1;rw[ģ]at W;rw[ó W]at Y;cases Y;exact⟨by lia,rfl⟩
 have l2:f.length=m:=by rw[M,zH,ģ,rl]
 have lt:∀{s:aa}{i:Nat}{x:Pe},s[i]?=À x->i<s.length:=fun h=>(zB.mp h).1
 have R2:Rep ((t++[Pe.lst f]).set k (.ins "Sheet" (dG S.d t.length b c g n u))) k t.length b c g n u f { S with ls:=S.ls.map fun l=>chLine l o q sg S.d }:=by
  refine Rep.fields (S':={ S with ls:=S.ls.map fun l=>chLine l o q sg S.d }) (R1.app (ys:=[Pe.lst f])) gl rfl rfl rfl rfl rfl (by simp[l2,P.ls]) (fun i x h=>?_) (ı (lt R1.hb)) (ı (lt R1.hc)) fun i r h=>?_
  ·obtain⟨hi,rfl⟩:=O i x h
   left;unfold SX.row;simp [zD,zF (show i < S.ls.length by rw [P.ls];exact hi)]
  ·have:=(O i _ h).2;cases this
 obtain⟨C,L⟩:∃x,x=(t++[Pe.lst f]).set k (.ins "Sheet" (dG S.d t.length b c g n u)):=⟨_,rfl⟩;rw[<- L]at R2;obtain⟨a',X⟩:∃x,x=t.length:=⟨_,rfl⟩;rw[<- X]at R2 L;have R3:=Rep.rowset (p:=p) (x:=.ref C.length) (l:=o.map fun x=>- x) (R2.app (ys:=[Pe.lst (iL (o.map fun x=>- x))])) (.inr ⟨C.length,rfl,.inl gl⟩) fun r e=>by cases e;exact⟨ı (lt R2.ha),ı (lt R2.hb),ı (lt R2.hc)⟩
 obtain⟨t3,K⟩:∃x,x=(C++[Pe.lst (iL (o.map fun x=>- x))]).set a' (.lst (f.set p (.ref C.length))):=⟨_,rfl⟩;rw[<- K]at R3;have g3:t3[C.length]?=À (.lst (iL (o.map fun x=>- x))):=by rw[K,aB (zU (lt R2.ha))];exact gl
 have p3:(f.set p (.ref C.length))[p]?=À (.ref C.length):=by simp[l2,A]
 have H:=Rep.cellset (l:=(o.map fun x=>- x).set q (sg*S.d)) R3 p3 fun i ne h=>by
  rw[yW,yG (fun z=>ne z.symm)]at h
  have:=(O i _ h).2;cases this
 obtain⟨t4,V⟩:∃x,x=t3.set C.length (.lst (iL ((o.map fun x=>- x).set q (sg*S.d)))):=⟨_,rfl⟩;rw[<- V]at H;have I:=Rep.fields (S':={ d:=gI o q,ls:=_,hd:=S.hd,sd:=S.sd,gd:=S.gd,nl:=S.nl,tn:=S.tn }) H H.ha rfl rfl rfl rfl rfl H.len H.row H.ab H.ac H.ra;obtain⟨t5,U⟩:∃x,x=t4.set k (.ins "Sheet" (dG (gI o q) a' b c g n u)):=⟨_,rfl⟩;have I:=U▸I;have R6:=Rep.sides (sd':=S.sd.set p (S.h q)) I;obtain⟨t6,T⟩:∃x,x=t5.set c (.lst (nL (S.sd.set p (S.h q)))):=⟨_,rfl⟩;rw[<- T]at R6;have R7:=Rep.heads (hd':=S.hd.set q (S.s p)) R6;obtain⟨t7,Q⟩:∃x,x=t6.set b (.lst (nL (S.hd.set q (S.s p)))):=⟨_,rfl⟩;rw[<- Q]at R7;refine⟨t7,a',f.set p (.ref C.length),?_,?_⟩
 rotate_left
 ·have e:SX.Pl S p q={ d:=gI o q,ls:=((S.ls.map fun l=>chLine l o q sg S.d).set p (o.map fun x=>- x)).set p ((o.map fun x=>- x).set q (sg*S.d)),hd:=S.hd.set q (S.s p),sd:=S.sd.set p (S.h q),gd:=S.gd,nl:=S.nl,tn:=S.tn }:=by
   unfold SX.Pl;rw[r?,N,D]
  rw[e];exact R7
 rw[aO,aw];unfold gJ;refine ad (sl':=[Rs k,Is p,Is q,Is sg,Á,Á,Á]) (st':=st) ?_ ?_
 ·by_cases h:S.t p q<0
  ·simp [R.ins,R.line P A,R.cell P A (show q < w + 1 by lia),h,D,sgn]
  ·simp [R.ins,R.line P A,R.cell P A (show q < w + 1 by lia),h,D,sgn]
 refine ad (sl':=[Rs k,Is p,Is q,Is sg,Ls o,Á,Á]) (st':=st) ?_ ?_
 ·obtain⟨gd,i1,i2⟩:=(R.row p _ (R.rx P A)).it
  simp [R.ins,R.line P A,i1,cC (show (SX.row S p).length <= 1000 by rw [P.rl A];lia)];rw [lG (F:=fun x=>sg * x) i2 fun x G=>⟨_,rfl,rfl,by simp [cj (cL bs (B.row P A x G))]⟩];simp [E]
 refine ad (sl':=[Rs k,Is p,Is q,Is sg,Ls o,Is S.d,Á]) (st':=st) (by simp[R.ins]) ?_;refine ad (sl':=[Rs k,Is p,Is q,Is sg,Ls o,Is S.d,Á]) (st':=C) ?_ ?_
 ·rw[jp (v:=.ref a') (st':=t++[.lst f]) (k:=k) (by simp[R.ins,qV R.ha,rl,cC hm,e1,X]) (by simp) R1.app.ins rfl,BN,L]
 refine ad (sl':=[Rs k,Is p,Is q,Is sg,Ls o,Is S.d,Á]) (st':=t3) ?_ ?_
 ·simp [cC (show o.length <= 1000 by lia)]
  rw [lG (F:=fun x=>- x) gX fun x G=>⟨_,rfl,rfl,by simp⟩];simp [R2.app.ins,d8 (R2.app (ys:=[Pe.lst (iL (o.map fun x=>- x))])).ha (show p < f.length by lia),K]
 have P4:Po w m { S with ls:=((S.ls.map fun l=>chLine l o q sg S.d).set p (o.map fun x=>- x)).set p ((o.map fun x=>- x).set q (sg*S.d)) }:=by
  have:=SX.exch_shp (c:=q) P A
  refine⟨by simp[P.ls],fun l W=>this.row l ?_,P.hd,P.sd⟩;show l∈(S.ls.map fun l=>chLine l (pvl S p q) q (sgn (S.t p q)) S.d).set p _;rw[<- N,<- D];rw[r?]at W;exact W
 have rx:my (f.set p (.ref C.length)) p=.ref C.length:=by unfold my;rw[zD,p3];rfl
 refine ad (sl':=[Rs k,Is p,Is q,Is sg,Ls o,Is S.d,Á]) (st':=t4) ?_ ?_
 ·have li:aG t3 (.ref a') (.int (p:Int))=À (.ref C.length):=by rw[cH (bG R3.ha),bS];exact p3
  simp [cj (cL bs B.1),R3.ins,li,d8 g3 (show q < (iL (o.map fun x=>- x)).length by simp;lia),f9,V]
 refine ad (sl':=[Rs k,Is p,Is q,Is sg,Ls o,Is S.d,Á]) (st':=t5) ?_ ?_
 ·have xi:aG t4 (.fz (iL o)) (.int (q:Int))=À (.int (gI o q)):=by rw[cH dR,bS,cx oM]
  rw[jp (v:=.int (gI o q)) (st':=t4) (k:=k) (by simp[xi]) (by simp) H.ins rfl,BO,U]
 have P5:Po w m { S with d:=gI o q,ls:=((S.ls.map fun l=>chLine l o q sg S.d).set p (o.map fun x=>- x)).set p ((o.map fun x=>- x).set q (sg*S.d)) }:=⟨P4.ls,P4.row,P4.hd,P4.sd⟩;refine ad (sl':=[Rs k,Is p,Is q,Is sg,Ls o,Is S.d,Is (S.s p:Int)]) (st':=t5) ?_ ?_
 ·have:=I.side P5 A
  simp[I.ins,this];rfl
 refine ad (sl':=[Rs k,Is p,Is q,Is sg,Ls o,Is S.d,Is (S.s p:Int)]) (st':=t6) ?_ ?_
 ·have:=I.head P5 hq
  simp [I.ins,this,d8 I.hc (show p < (nL S.sd).length by simp [P.sd,A]),T];rw [<- Aa];rfl
 refine ad (sl':=[Rs k,Is p,Is q,Is sg,Ls o,Is S.d,Is (S.s p:Int)]) (st':=t7) ?_ rfl;simp [R6.ins,d8 R6.hb (show q < (nL S.hd).length by simp [P.hd,hq]),Q,Aa]
end
open SX (MI Rais Pj Kept Pl)
noncomputable def ins(l:List Nat)(q:Nat):List Nat:=if q∈l then l else l++[q]
section
variable{st:aa}{k a b c g n u w m:Nat}{rows:List AV}{S:Sh}{p q:Nat}
theorem wu(R:Rep st k a b c g n u rows S)(d:S.gd.length<=1000):∃st',aR [.ref k,.int q] st=À (.non,st')/\Rep st' k a b c g n u rows { S with gd:=ins S.gd q }:=by
 refine⟨_,?_,R.guard⟩;simp[aR,aw,jh,R.ins,qU R.hg d,ins]
theorem uc(R:Rep st k a b c g n u rows S)(d:S.nl.length<=1000):∃st',eS [.ref k,.int q] st=À (.non,st')/\Rep st' k a b c g n u rows { S with nl:=ins S.nl q }:=by
 refine⟨_,?_,R.nail⟩;simp[eS,aw,jO,R.ins,qU R.hn d,ins]
theorem FV(R:Rep st k a b c g n u rows S)(P:Po w m S)(s:w<=100)(d:p<m)(j:S.tn.length<=1000):∃st' rows',de [.ref k,.int p] st=À (.non,st')/\Rep st' k a b c g n u rows' (SX.trn S p):=by
 have f:=Rep.rowset (p:=p) (x:=.fz (iL ((SX.row S p).map fun x=>- x))) (l:=(SX.row S p).map fun x=>- x) R (.inl rfl) fun r e=>nomatch e
 have R2:=Rep.turned (tn':=if S.s p∈S.tn then S.tn else S.tn++[S.s p]) f;refine⟨_,_,?_,R2⟩;obtain⟨t,i,h⟩:=(R.row p _ (R.rx P d)).it;have o:Po w m { S with ls:=S.ls.set p ((SX.row S p).map fun x=>- x) }:=⟨(SX.trn_shp P d).ls,(SX.trn_shp P d).row,P.hd,P.sd⟩;rw[de,aw];unfold fY;refine ad (sl':=[Rs k,Is p]) (st':=st.set a (.lst (rows.set p (.fz (iL ((SX.row S p).map fun x=>- x)))))) ?_ ?_
 ·simp [R.ins,R.line P d,i,cC (show (SX.row S p).length <= 1000 by rw [P.rl d];lia)]
  rw [lG (F:=fun x=>- x) h fun x q=>⟨_,rfl,rfl,by simp⟩];simp [R.ins,d8 R.ha (show p < rows.length by rw [R.len,P.ls];exact d)]
 ·have:=f.side o d
  simp[f.ins,this];rw[qU f.hu j];rfl
theorem Kf(R:Rep st k a b c g n u rows S)(P:Po w m S)(A:w<=100)(r:p<m):∃o:Option Nat,cA [.ref k,.int p] st=À (oN o,st)/\(o=Á->∀j,j<w->S.h j∉S.nl->S.t p j=0)/\∀q,o=À q->q<w/\S.h q∉S.nl/\S.t p q≠0:=by
 have t:(cD S).length<=1000:=by
  unfold cD;rw[zH]
  have:=Ģ (fun z:Nat×Nat=>!decide (z.1∈S.nl)) S.hd.zipIdx
  rw[Q0,P.hd]at this;lia
 have inl:∀j,j∈(cD S).filter (fun j=>!decide (S.t p j=0)) ↔ (j<w/\S.h j∉S.nl)/\S.t p j≠0:=fun j=>by rw[ć,jU P];simp
 have d:∃o:Option Nat,B0 (((cD S).filter fun j=>!decide (S.t p j=0)).map fun j=>((j:Nat):Int))=oN o/\(o=Á->(cD S).filter (fun j=>!decide (S.t p j=0))=[])/\∀q,o=À q->q∈(cD S).filter fun j=>!decide (S.t p j=0):=by
  generalize (cD S).filter (fun j=>!decide (S.t p j=0))=l;cases l with
  |nil=>exact⟨Á,rfl,fun _=>rfl,fun q h=>nomatch h⟩
  |cons x l =>
   have h:=(DD.minF (l.map fun j=>((j:Nat):Int)) (x:Int)).1;rw[<- zO (f:=fun j:Nat=>((j:Nat):Int))]at h;obtain⟨y,v,e⟩:=yC.mp h;refine⟨À y,?_,(fun z=>nomatch z),fun q z=>by cases z;exact v⟩;show AV.int _=AV.int _;rw[e]
 obtain⟨o,D,I,H⟩:=d;refine⟨o,?_,fun e j i E=>Ă fun C=>?_,fun q e=>?_⟩
 ·simp[cA,aw,eN,R.ins,R.line P r,wc R P A,nL,cC t]
  rw [iG (B:=fun j=>!decide (S.t p j=0)) (F:=fun j:Nat=>.int (j:Int)) gX fun j i=>⟨_,rfl,by simp [R.cell P r (show j < w + 1 by have:=(jU P).mp i;lia)],fun _=>rfl⟩];have G:rfs (((cD S).filter fun j=>!decide (S.t p j=0)).map fun j:Nat=>(AV.int (j:Int)))=Â:=lD;have s:=wg (l:=(cD S).filter fun j=>!decide (S.t p j=0));unfold nL at s;simp [G,aZ,pR,lsI,s,D]
 ·have d:=(inl j).mpr ⟨⟨i,E⟩,C⟩
  rw[I e]at d;cases d
 ·have:=(inl q).mp (H q e)
  exact⟨this.1.1,this.1.2,this.2⟩
end
section
variable{st:aa}{k a b c g n u w m:Nat}{rows:List AV}{S:Sh}{p:Nat}{v:Nat->Nat->Int}
structure Bnd(w m:Nat)(v:Nat->Nat->Int):Prop where
 ex:∃M:Nat,1<=M/\(∀q x,x<w+1->(v q x).natAbs<=M)/\SX.fct (w+1)*M^(w+1)<2^2500
 hw:w<=100
 hm:m<=1000
theorem Bnd.bd(H:Bnd w m v)(I:MI w m v S):Bd w m S:=by
 obtain⟨M,c,b,a⟩:=H.ex;exact I.bound c b (E? a (ħ dC dC))
theorem Bnd.bd8(H:Bnd w m v)(I:MI w m v S):S.d.natAbs<2^8900/\∀i,i<m->∀j,j<w+1->(S.t i j).natAbs<2^8900:=by
 obtain⟨M,c,b,a⟩:=H.ex;exact I.bound c b (E? a (ħ dC dC))
theorem Bnd.bd2(H:Bnd w m v)(I:MI w m v S):S.d.natAbs<2^2500/\∀i,i<m->∀j,j<w+1->(S.t i j).natAbs<2^2500:=by
 obtain⟨M,c,b,a⟩:=H.ex;exact I.bound c b a
def wI(w m:Nat)(v:Nat->Nat->Int)(k b c g n u p:Nat)(e:Sh)(o:Out):Prop:=∃(S:Sh)(a:aa)(h:Nat)(d:List AV),Rep a k h b c g n u d S/\Kept m p e S /\
 ((o=.rt (.bl Â) a/\MI w m v { S with gd:=S.gd++[e.s p] }/\MI w m v { S with nl:=S.nl++[e.s p] }) \/
  (o=.rt (.bl Ã) a/\MI w m v S/\S.s p=e.s p/\S.t p w<0/\∀j,j<w->S.h j∉S.nl->¬0<S.t p j) \/
  ∃f,o=.nx f a/\MI w m v S/\S.s p=e.s p/\0<=e.t p w)
theorem Ah(H:Bnd w m v)(R:Rep st k a b c g n u rows S0)(I:MI w m v S0)(j:p<m)(V:S0.s p∉S0.gd)(nn:S0.s p∉S0.nl) :
  ∃o,oh (tv [aK,aJ,bh,aO] (.cmp .Lt (.ix (.ix (.fd "Sheet" "lines" (.v 0)) (.v 1)) (.un .USub (.i 1))) (.i 0)))
   (af [aK,aJ,bh,aO] (.cons (.as (.me "Sheet" "raising_column" 0 (.v 0) (.cons (.v 1) .nil)) (.nm 2))
    (.cons (.iff (.cmp .Is (.v 2) .n) (.cons (.rt (.b Ã)) .nil) .nil)
    (.cons (.as (.me "Sheet" "tightest_place" 1 (.v 0) (.cons (.v 2) .nil)) (.nm 3))
    (.cons (.iff (.or (.cmp .Is (.v 3) .n) (.va (.me "Sheet" "is_up_first" 2 (.v 0) (.cons (.v 1) (.cons (.v 3) (.cons (.v 2) .nil)))))) (.cons (.ex (.me "Sheet" "exchange" 3 (.v 0) (.cons (.v 1) (.cons (.v 2) .nil)))) (.cons (.rt (.b Â)) .nil)) .nil)
    (.cons (.ex (.me "Sheet" "exchange" 3 (.v 0) (.cons (.v 3) (.cons (.v 2) .nil)))) .nil)))))) [Rs k,Is p,x,y] st=À o/\wI w m v k b c g n u p S0 o:=by
 refine vJ (α:=Sh) (a0:=S0) (I:=fun S U s=>(∃L d x y,U=[Rs k,Is p,x,y]/\Rep s k L b c g n u d S)/\MI w m v S/\Kept m p S0 S/\S.s p=S0.s p/\(S0.t p w<0->S.t p w<0))
  (Q:=fun S T=>MI w m v S/\(∃r q e,SX.Bl w m p (·∈S.gd) (·∈S.nl) r q e (SX.toSt S) (SX.toSt T))/\Kept m p S T) (fun f h0 hf=>SX.no_chain j f hf (by rw[h0];exact V)) (fun S U s hI=>?_) ⟨⟨a,rows,x,y,rfl,R⟩,I,Kept.refl,rfl,id⟩
 obtain⟨⟨L,d,x,y,rfl,R⟩,I,K,sp,Y⟩:=hI;have B:=H.bd I;have P:=I.shp;have t:S.s p∉S.gd:=by rw[sp,K.gd];exact V
 have M:S.s p∉S.nl:=by rw[sp,K.nl];exact nn
 have C:tv [aK,aJ,bh,aO] (.cmp .Lt (.ix (.ix (.fd "Sheet" "lines" (.v 0)) (.v 1)) (.un .USub (.i 1))) (.i 0)) [Rs k,Is p,x,y] s=À (decide (S.t p w<0),s):=by
  simp[R.ins,R.line P j,R.last P j]
 by_cases low:S.t p w<0
 ·rw[yV low]at C
  obtain⟨o,J,F⟩:=tS R P H.hw j;cases o with
  |none =>
   left;refine⟨_,tJ (v:=.bl Ã) (st2:=s) C ?_,S,s,L,d,R,K,.inr (.inl ⟨rfl,I,sp,low,F.1 rfl⟩)⟩;simp[R.ins,J,oN]
  |some q =>
   obtain⟨E,_,q3,_⟩:=F.2 q rfl;obtain⟨o,O,D⟩:=vN R P B E;have W:S.d≠0:=by have:=I.lin.pos;lia
   have ay:(Pj S w q m Á\/∃r,Pj S w q m (À r)/\S.t p w*S.t r q<=S.t r w*S.t p q)->o=Á\/(∃r,o=À r/\S.t p w*S.t r q<=S.t r w*S.t p q)->∃o,dU (tv [aK,aJ,bh,aO] (.cmp .Lt (.ix (.ix (.fd "Sheet" "lines" (.v 0)) (.v 1)) (.un .USub (.i 1))) (.i 0)))
     (af [aK,aJ,bh,aO] (.cons (.as (.me "Sheet" "raising_column" 0 (.v 0) (.cons (.v 1) .nil)) (.nm 2))
    (.cons (.iff (.cmp .Is (.v 2) .n) (.cons (.rt (.b Ã)) .nil) .nil)
    (.cons (.as (.me "Sheet" "tightest_place" 1 (.v 0) (.cons (.v 2) .nil)) (.nm 3))
    (.cons (.iff (.or (.cmp .Is (.v 3) .n) (.va (.me "Sheet" "is_up_first" 2 (.v 0) (.cons (.v 1) (.cons (.v 3) (.cons (.v 2) .nil)))))) (.cons (.ex (.me "Sheet" "exchange" 3 (.v 0) (.cons (.v 1) (.cons (.v 2) .nil)))) (.cons (.rt (.b Â)) .nil)) .nil)
    (.cons (.ex (.me "Sheet" "exchange" 3 (.v 0) (.cons (.v 3) (.cons (.v 2) .nil)))) .nil)))))) 1 [Rs k,Is p,x,y] s=À o/\wI w m v k b c g n u p S0 o:=fun hT Z=>by
    obtain⟨l,a2,i,G,R2⟩:=qg R P B W H.hw H.hm j E;obtain⟨N,m2,m3⟩:=I.up j t M low F hT;refine⟨_,tJ (v:=.bl Â) (st2:=l) C ?_,Pl S p q,l,a2,i,R2,K.trans m3,.inl ⟨rfl,by rw[<- sp];exact N,by rw[<- sp];exact m2⟩⟩;rcases Z with rfl|⟨r,rfl,A⟩
    ·simp[R.ins,J,oN,O,G]
    ·have:=CK R P B j (D.2 r rfl).1 E
     simp[R.ins,J,oN,O,G,this,fT,cw,dr,A]
   cases o with
   |none=>exact .inl (ay (.inl D) (.inl rfl))
   |some r =>
    by_cases A:S.t p w*S.t r q<=S.t r w*S.t p q
    ·exact .inl (ay (.inr ⟨r,D,A⟩) (.inr ⟨r,rfl,A⟩))
    ·right
     have r1:=(D.2 r rfl).1;obtain⟨l,a2,i,G,R2⟩:=qg R P B W H.hw H.hm r1 E;obtain⟨N,m2,m3,X⟩:=I.step j t F D;refine⟨Pl S r q,[Rs k,Is p,Is q,Is r],l,⟨I,⟨r,q,_,m2⟩,m3⟩,⟨⟨a2,i,_,_,rfl,R2⟩,N,K.trans m3,X.trans sp,fun _=>I.low j t F D A⟩,fun n o h=>nh C ?_ h⟩
     have:=CK R P B j r1 E
     simp[R.ins,J,oN,O,G,this,fT,cw,dr,A]
 ·rw[z9 low]at C
  left;exact⟨_,kK C,S,s,L,d,R,K,.inr (.inr ⟨_,rfl,I,sp,by
   rcases yU (S0.t p w) 0 with z|z
   ·exact absurd (Y z) low
   ·exact z⟩)⟩
end
section
variable{st:aa}{k a b c g n u w m:Nat}{rows:List AV}{S:Sh}{p:Nat}{v:Nat->Nat->Int}
theorem Ag(H:Bnd w m v)(R:Rep st k a b c g n u rows S0)(I:MI w m v S0)(d:p<m)(r:S0.s p∉S0.gd)(nn:S0.s p∉S0.nl) :
  ∃(S:Sh)(st':aa)(a':Nat)(rows':List AV)(bb:Bool),c8 [.ref k,.int p] st=À (.bl bb,st')/\Rep st' k a' b c g n u rows' S/\Kept m p S0 S /\
   ((bb=Â/\MI w m v { S with gd:=S.gd++[S0.s p] }/\(S0.t p w<0->MI w m v { S with nl:=S.nl++[S0.s p] })) \/
    (bb=Ã/\MI w m v S/\S.s p=S0.s p/\S.t p w<0/\∀j,j<w->S.h j∉S.nl->¬0<S.t p j)):=by
 by_cases low:S0.t p w<0
 ·obtain⟨o,e,S,st',a',rows',q,K,h⟩:=Ah H R I d r nn (x:=Á) (y:=Á)
  rcases h with⟨rfl,i,f⟩|⟨rfl,i,f,l,s⟩|⟨t,rfl,i,f,l⟩
  ·refine⟨S,st',a',rows',Â,?_,q,K,.inl ⟨rfl,i,fun _=>f⟩⟩
   simp[c8,aw,fH,e]
  ·refine⟨S,st',a',rows',Ã,?_,q,K,.inr ⟨rfl,i,f,l,s⟩⟩
   simp[c8,aw,fH,e]
  ·lia
 ·refine⟨S0,st,a,rows,Â,?_,R,Kept.refl,.inl ⟨rfl,I.guard d oM,fun z=>absurd z low⟩⟩
  have P:=I.shp;rw[c8,aw];unfold fH;refine ad (sl':=[Rs k,Is p,Á,Á]) (st':=st) (kP (n:=1) (kK (by simp[R.ins,R.line P d,R.last P d,low]))) ?_;simp
theorem Fw(H:Bnd w m v)(R:Rep st k a b c g n u rows S0)(I:MI w m v S0)(l:p<m)(A:S0.s p∉S0.gd) :
  ∃r,bR [.ref k,.int p] st=À r/\∃(S:Sh)(a':Nat)(rows':List AV),Rep r.2 k a' b c g n u rows' S/\Kept m p S0 S/\MI w m v S/\S.s p=S0.s p /\
   ((r.1=.non/\Rais w S p Á)\/∃q,r.1=.int ((q:Nat):Int)/\Rais w S p (À q)/\Pj S w q m Á):=by
 rw[bR];simp only[aw];unfold gK;obtain⟨o,V,i⟩:=tS R I.shp H.hw l;refine ai (sl':=[Rs k,Is p,À (oN o),Á]) (st':=st) (by simp[R.ins,V]) ?_;refine Gr (Post:=fun out=>∃(S:Sh)(a':Nat)(rows':List AV)(st':aa),Rep st' k a' b c g n u rows' S/\Kept m p S0 S/\MI w m v S/\S.s p=S0.s p /\
   ((∃j,out=.nx j st'/\Rais w S p Á)\/∃q,out=.rt (.int ((q:Nat):Int)) st'/\Rais w S p (À q)/\Pj S w q m Á))
  (vJ (α:=Sh) (a0:=S0) (I:=fun S j s=>(∃a' rows' x o,j=[Rs k,Is p,À (oN o),x]/\Rep s k a' b c g n u rows' S/\Rais w S p o)/\MI w m v S/\Kept m p S0 S/\S.s p=S0.s p)
   (Q:=fun S T=>MI w m v S/\(∃r q e,SX.Bl w m p (·∈S.gd) (·∈S.nl) r q e (SX.toSt S) (SX.toSt T))/\Kept m p S T) (fun f N J=>SX.no_chain l f J (by rw[N];exact A)) (fun S j s L=>?_) ⟨⟨a,rows,Á,o,rfl,R,i⟩,I,Kept.refl,rfl⟩) ?_
 ·obtain⟨⟨a',rows',x,o,rfl,R,i⟩,I,K,sp⟩:=L
  have B:=H.bd I;have P:=I.shp;have t:S.s p∉S.gd:=by rw[sp,K.gd];exact A
  cases o with
  |none =>
   left;exact⟨_,kK (st':=s) (by simp[oN]),S,a',rows',s,R,K,I,sp,.inl ⟨_,rfl,i⟩⟩
  |some q =>
   obtain⟨z,_,X,_⟩:=i.2 q rfl;obtain⟨o,D,y⟩:=vN R P B z;cases o with
   |none =>
    left;refine⟨_,tJ (v:=.int q) (st':=s) (st2:=s) (by simp[oN]) ?_,S,a',rows',s,R,K,I,sp,.inr ⟨q,rfl,i,y⟩⟩;simp[R.ins,oN,D]
   |some r =>
    right;have W:S.d≠0:=by have:=I.lin.pos;lia
    have r1:=(y.2 r rfl).1;obtain⟨st',a2,d,U,R2⟩:=qg R P B W H.hw H.hm r1 z;obtain⟨C,m2,m3,G⟩:=I.step l t i y;obtain⟨o,O,M⟩:=tS R2 C.shp H.hw l;refine⟨Pl S r q,[Rs k,Is p,À (oN o),Is r],st',⟨I,⟨r,q,_,m2⟩,m3⟩,⟨⟨a2,d,_,o,rfl,R2,M⟩,C,K.trans m3,G.trans sp⟩,fun n Y h=>nh (st':=s) (by simp[oN]) ?_ h⟩;simp[R.ins,oN,D,U,R2.ins,O]
 ·rintro out ⟨S,a',rows',st',E,K,F,sp,⟨j,rfl,h⟩|⟨q,rfl,h⟩⟩
  ·exact⟨(.non,st'),by simp,S,a',rows',E,K,F,sp,.inl ⟨rfl,h⟩⟩
  ·exact⟨(.int q,st'),by simp,S,a',rows',E,K,F,sp,.inr ⟨q,rfl,h⟩⟩
end
structure Kj(m p:Nat)(S T:Sh):Prop where
 tn:T.tn=S.tn\/T.tn=S.tn++[S.s p]
 si:∀i,i<m->i≠p->S.s i∉S.gd->T.s i=S.s i
section
variable{st:aa}{k a b c g n u w m:Nat}{rows:List AV}{S:Sh}{p:Nat}{v:Nat->Nat->Int}
theorem Kq(H:Bnd w m v)(R:Rep st k a b c g n u rows S0)(I:MI w m v S0)(i:p<m)(r:S0.s p∉S0.gd)(nn:S0.s p∉S0.nl)(t:S0.gd.length<=1000) :
  ∃(S:Sh)(st':aa)(a':Nat)(rows':List AV)(bb:Bool),b8 [.ref k,.int p] st=À (.bl bb,st')/\Rep st' k a' b c g n u rows' S/\Kj m p S0 S/\S.tn=S0.tn/\S.nl=S0.nl/\MI w m v S /\
   ((bb=Â/\S.gd=S0.gd++[S0.s p])\/(bb=Ã/\S.gd=S0.gd/\S.s p=S0.s p/\S.t p w<0/\∀j,j<w->S.h j∉S.nl->¬0<S.t p j)):=by
 have P:=I.shp;obtain⟨S,f,a1,d,bb,s,o,K,h⟩:=Ag H R I i r nn;rcases h with⟨rfl,l,_⟩|⟨rfl,l,x⟩
 ·obtain⟨e,z,R2⟩:=wu (q:=S0.s p) o (by rw[K.gd];exact t)
  have y:ins S.gd (S0.s p)=S.gd++[S0.s p]:=yG (by rw[K.gd];exact r);rw[y]at R2;refine⟨{ S with gd:=S.gd++[S0.s p] },e,a1,d,Â,?_,R2,⟨.inl K.tn,K.si⟩,K.tn,K.nl,l,.inl ⟨rfl,by rw[K.gd]⟩⟩;simp[b8,aw,fL,R.ins,R.side P i,s,fT,cw,dr,o.ins,z]
 ·refine⟨S,f,a1,d,Ã,?_,o,⟨.inl K.tn,K.si⟩,K.tn,K.nl,l,.inr ⟨rfl,K.gd,x⟩⟩
  simp[b8,aw,fL,R.ins,R.side P i,s,fT,cw,dr]
theorem Kr(H:Bnd w m v)(R:Rep st k a b c g n u rows S0)(I:MI w m v S0)(f:p<m)(ng:S0.s p∉S0.gd)(nn:S0.s p∉S0.nl)(nt:S0.s p∉S0.tn)(X:S0.nl.length<=1000)(W:S0.tn.length<=1000){G:Prop}(bk:∀(S:Sh)(st':aa)(a':Nat)(rows':List AV)(bb:Bool),c4 [.ref k,.int p] st=À (.bl bb,st')->Rep st' k a' b c g n u rows' S->Kj m p S0 S->S.gd=S0.gd->MI w m v S->((bb=Â/\S.nl=S0.nl++[S0.s p])\/(bb=Ã/\S.nl=S0.nl/\S.s p=S0.s p/\S.t p w<0/\∀j,j<w->S.h j∉S.nl->¬0<S.t p j))->G):G:=by
 have P:=I.shp
 have s1:∃(d:Sh)(t:aa)(e:List AV),cV [de,c8,cA,aO,eS] (.iff (.cmp .Gt (.ix (.ix (.fd "Sheet" "lines" (.v 0)) (.v 1)) (.un .USub (.i 1))) (.i 0)) (.cons (.ex (.me "Sheet" "turn_line" 0 (.v 0) (.cons (.v 1) .nil))) .nil) .nil) [Rs k,Is p,Is (S0.s p:Int),Á] st=À (.nx [Rs k,Is p,Is (S0.s p:Int),Á] t) /\
   Rep t k a b c g n u e d/\MI w m v d/\d.gd=S0.gd/\d.nl=S0.nl/\(d.tn=S0.tn\/d.tn=S0.tn++[S0.s p])/\d.sd=S0.sd/\d.t p w<=0:=by
  by_cases h:0<S0.t p w
  ·obtain⟨t,e,Y,s⟩:=FV R P H.hw f W
   refine⟨SX.trn S0 p,t,e,?_,s,I.turn f ng nn nt,rfl,rfl,.inr (yG nt),rfl,?_⟩
   ·simp[R.ins,R.line P f,R.last P f,h,Y]
   ·rw[(SX.trn_t P f).1 w oM];lia
  ·refine⟨S0,st,rows,?_,R,I,rfl,rfl,.inl rfl,rfl,by lia⟩
   simp[R.ins,R.line P f,R.last P f,h]
 obtain⟨d,t,e,Y,s,E,g1,y,t1,d1,low1⟩:=s1;have B:∀i,d.s i=S0.s i:=fun i=>by show d.sd.getD i 0=S0.sd.getD i 0;rw[d1]
 have z:=E.shp;have U:d.s p∉d.nl:=by rw[B,y];exact nn
 have V:d.s p∉d.gd:=by rw[B,g1];exact ng
 have D:∀T:Sh,Kept m p d T->Kj m p S0 T:=fun T K=>⟨by rw[K.tn];exact t1,fun i hi ne h=>by rw[K.si i hi ne (by rw[B,g1];exact h),B]⟩
 have hd:∀{r:AV×aa},(af [de,c8,cA,aO,eS] (.cons (.iff (.cmp .Lt (.ix (.ix (.fd "Sheet" "lines" (.v 0)) (.v 1)) (.un .USub (.i 1))) (.i 0)) (.cons (.iff (.no (.va (.me "Sheet" "lift" 1 (.v 0) (.cons (.v 1) .nil)))) (.cons (.rt (.b Ã)) .nil) .nil) .nil)
   (.cons (.as (.me "Sheet" "moving_column" 2 (.v 0) (.cons (.v 1) .nil)) (.nm 3)) (.cons (.iff (.cmp .IsNot (.v 3) .n) (.cons (.ex (.me "Sheet" "exchange" 3 (.v 0) (.cons (.v 1) (.cons (.v 3) .nil)))) .nil) .nil) .nil)))
   (.cons (.ex (.me "Sheet" "nail" 4 (.v 0) (.cons (.v 2) .nil))) (.cons (.rt (.b Â)) .nil))) [Rs k,Is p,Is (S0.s p:Int),Á] t).bind ay=À r->c4 [.ref k,.int p] st=À r:=fun h=>by
  rw[c4,aw];unfold kF;exact ad (sl':=[Rs k,Is p,Is (S0.s p:Int),Á]) (st':=st) (by simp[R.ins,R.side P f]) (ad Y h)
 by_cases low:d.t p w<0
 ·obtain⟨S,F,a2,l,bb,N,R2,K,h⟩:=Ag H s E f V U
  rcases h with⟨rfl,Q,A⟩|⟨rfl,Q,A⟩
  ·obtain⟨x,M,C⟩:=uc (q:=S0.s p) R2 (by rw[K.nl,y];exact X)
   have L:ins S.nl (S0.s p)=S.nl++[S0.s p]:=yG (by rw[K.nl,y];exact nn);rw[L]at C;have A:=A low;rw[B]at A;refine bk ({ S with nl:=S.nl++[S0.s p] }) x a2 l Â (hd ?_) C (⟨(D S K).tn,(D S K).si⟩) (K.gd.trans g1) A (.inl ⟨rfl,by rw[K.nl,y]⟩);simp[s.ins,s.line z f,s.last z f,low,N,fT,cw,dr,R2.ins,M]
  ·refine bk S F a2 l Ã (hd ?_) R2 (D S K) (K.gd.trans g1) Q (.inr ⟨rfl,K.nl.trans y,A.1.trans (B p),A.2⟩)
   simp[s.ins,s.line z f,s.last z f,low,N,fT,cw,dr]
 ·have O:d.t p w=0:=by lia
  obtain⟨o,N,Q,A⟩:=Kf s z H.hw f;cases o with
  |none =>
   obtain⟨x,M,C⟩:=uc (q:=S0.s p) s (by rw[y];exact X);have L:ins d.nl (S0.s p)=d.nl++[S0.s p]:=yG (by rw[y];exact nn);rw[L]at C;have J:=E.nail f O (Q rfl);rw[B]at J;refine bk ({ d with nl:=d.nl++[S0.s p] }) x a e Â (hd ?_) C (⟨(D d Kept.refl).tn,(D d Kept.refl).si⟩) g1 J (.inl ⟨rfl,by rw[y]⟩);simp[s.ins,s.line z f,s.last z f,O,N,oN,M]
  |some q =>
   obtain⟨Z,q2,q3⟩:=A q rfl;have d0:d.d≠0:=by have:=E.lin.pos;lia
   obtain⟨F,a2,l,e4,R2⟩:=qg s z (H.bd E) d0 H.hw H.hm f Z;obtain⟨x,M,C⟩:=uc (q:=S0.s p) R2 (by show d.nl.length<=1000;rw[y];exact X);have L:ins (Pl d p q).nl (S0.s p)=d.nl++[S0.s p]:=yG (by show S0.s p∉d.nl;rw[y];exact nn);rw[L]at C;obtain⟨J,K⟩:=E.move f Z q2 O q3;rw[B]at J;refine bk ({ Pl d p q with nl:=d.nl++[S0.s p] }) x a2 l Â (hd ?_) C (⟨(D _ K).tn,(D _ K).si⟩) g1 J (.inl ⟨rfl,by rw[y]⟩);simp[s.ins,s.line z f,s.last z f,O,N,oN,e4,R2.ins,M]
end
open SX (openS)
structure Gv where
 row:List Int
 eq:Bool
 num:Int
def Gv.av(x:Gv):AV:=.tup [.fz (iL x.row),.str (if x.eq then "=" else ">"),.int x.num]
noncomputable def ag(RR:List (List Int))(gv:List Gv)(goal:List Int):List (List Int):=RR.map (·++[0])++gv.map (fun x=>x.row++[-x.num])++[goal.map (fun x=>- x)++[0]]
section
variable{w:Nat}{L RR:List (List Int)}{gv:List Gv}{goal:List Int}
noncomputable abbrev sE:List (Ì×AV):=[("below",.int 1)]
noncomputable abbrev IP:List (Ì×AV):=[("below",.int 1),("lines",.ref 2)]
noncomputable abbrev IN:List (Ì×AV):=[("below",.int 1),("lines",.ref 2),("heads",.ref 3)]
noncomputable abbrev IM:List (Ì×AV):=[("below",.int 1),("lines",.ref 2),("heads",.ref 3),("sides",.ref 4)]
noncomputable abbrev IL:List (Ì×AV):=[("below",.int 1),("lines",.ref 2),("heads",.ref 3),("sides",.ref 4),("guarded",.ref 5)]
noncomputable abbrev IK:List (Ì×AV):=[("below",.int 1),("lines",.ref 2),("heads",.ref 3),("sides",.ref 4),("guarded",.ref 5),("nailed",.ref 6)]
abbrev NG(w:Nat)(L:List (List Int)):aa:=[.lst (ao L),.ins "Sheet" (dG 1 2 3 4 5 6 7),.lst (ao L),.lst (nL (Æ w)),.lst (nL ((Æ L.length).map (w+·))),.dK [],.dK [],.dK []]
theorem Ip(i:w<=100)(m:L.length<=400):aH [.ref 1,.int w,.ref 0] [.lst (ao L),.ins "Sheet" []]=À (.non,[.lst (ao L),.ins "Sheet" (dG 1 2 3 4 5 6 7),.lst (ao L),.lst (nL (Æ w)),.lst (nL ((Æ L.length).map (w+·))),.dK [],.dK [],.dK []]):=by
 have b:pC (w:Int)=Â:=by unfold pC;simp;lia
 have a:pC ((w:Int)+(L.length:Int))=Â:=by unfold pC;simp;lia
 have c:∀X:aa,cw (.lst (ao L)::X) (.ref 0)=À (ao L):=fun X=>bG rfl
 rw[aH,aw];unfold gM;refine ad (st':=[.lst (ao L),.ins "Sheet" sE]) (jp (v:=.int 1) (st':=[.lst (ao L),.ins "Sheet" []]) (k:=1) (fs:=[]) rfl rfl rfl rfl) ?_;refine ad (st':=[.lst (ao L),.ins "Sheet" IP,.lst (ao L)]) (jp (v:=.ref 2) (st':=[.lst (ao L),.ins "Sheet" sE,.lst (ao L)]) (k:=1) (fs:=sE) ?_ rfl rfl rfl) ?_
 ·have e:=xy (gd:=[(0,.lst (ao L))]) (g:=cM [] (.nm 3)) (t:=j5 [] .no) (f:=ev [] (.nw Ã (.lof (.v 3)))) (sl:=[Rs 1,Is w,Rs 0,Á]) (st:=[.lst (ao L),.ins "Sheet" sE]) (em:=fun l=>.fz (iL l)) (F:=fun l=>l) (xs:=L) (iH rfl) fun l j=>⟨_,rfl,rfl,by simp[oZ]⟩
  rw [List.map_id'] at e;have h:iW [(0,.lst (ao L))] (cM [] (.nm 3)) (j5 [] .no) (ev [] (.nw Ã (.lof (.v 3)))) [Rs 1,Is w,Rs 0,Á] (ao L) [.lst (ao L),.ins "Sheet" sE]=À (ao L,[.lst (ao L),.ins "Sheet" sE]):=e;have d:pY [.lst (ao L),.ins "Sheet" sE] (.ref 0)=À ⟨ao L,[(0,.lst (ao L))]⟩:=qV rfl;show ev [] (.nw Â (.lc 1 (.e (.v 2)) (.nm 3) .no (.nw Ã (.lof (.v 3))))) [Rs 1,Is w,Rs 0] [.lst (ao L),.ins "Sheet" sE]=_;simp [-ao,d,cC (show L.length <= 1000 by lia),h]
 refine ad (st':=[.lst (ao L),.ins "Sheet" IN,.lst (ao L),.lst (nL (Æ w))]) (jp (v:=.ref 3) (st':=[.lst (ao L),.ins "Sheet" IP,.lst (ao L),.lst (nL (Æ w))]) (k:=1) (fs:=IP) ?_ rfl rfl rfl) ?_
 ·simp[ue,b,pF]
 refine ad (st':=[.lst (ao L),.ins "Sheet" IM,.lst (ao L),.lst (nL (Æ w)),.lst (nL ((Æ L.length).map (w+·)))]) (jp (v:=.ref 4) (st':=[.lst (ao L),.ins "Sheet" IN,.lst (ao L),.lst (nL (Æ w)),.lst (nL ((Æ L.length).map (w+·)))]) (k:=1) (fs:=IN) ?_ rfl rfl rfl) ?_
 ·simp[xn,b,a,aZ,cO,c]
  have e:((w:Int)+(L.length:Int)).toNat-w=L.length:=by lia
  rw[e,JE,yH oM];simp
 refine ad (st':=[.lst (ao L),.ins "Sheet" IL,.lst (ao L),.lst (nL (Æ w)),.lst (nL ((Æ L.length).map (w+·))),.dK []]) (jp (v:=.ref 5) (st':=[.lst (ao L),.ins "Sheet" IM,.lst (ao L),.lst (nL (Æ w)),.lst (nL ((Æ L.length).map (w+·))),.dK []]) (k:=1) (fs:=IM) rfl rfl rfl rfl) ?_;refine ad (st':=[.lst (ao L),.ins "Sheet" IK,.lst (ao L),.lst (nL (Æ w)),.lst (nL ((Æ L.length).map (w+·))),.dK [],.dK []]) (jp (v:=.ref 6) (st':=[.lst (ao L),.ins "Sheet" IL,.lst (ao L),.lst (nL (Æ w)),.lst (nL ((Æ L.length).map (w+·))),.dK [],.dK []]) (k:=1) (fs:=IL) rfl rfl rfl rfl) ?_;refine ad (st':=[.lst (ao L),.ins "Sheet" (dG 1 2 3 4 5 6 7),.lst (ao L),.lst (nL (Æ w)),.lst (nL ((Æ L.length).map (w+·))),.dK [],.dK [],.dK []]) (jp (v:=.ref 7) (st':=[.lst (ao L),.ins "Sheet" IK,.lst (ao L),.lst (nL (Æ w)),.lst (nL ((Æ L.length).map (w+·))),.dK [],.dK [],.dK []]) (k:=1) (fs:=IK) rfl rfl rfl rfl) ?_;rfl
theorem K1{k:Nat}(g:ev ks a sl st=À (.ref k,st))(f:ev ks e sl st=À (y,st))(b:st[k]?=À (.lst xs))(d:cw st y=À ys)(c:xs.length+ys.length<=1000):ev ks (.mt .ext a (.cons e .nil)) sl st=À (.non,st.set k (.lst (xs++ys))):=by
 simp[mX,se,rZ,g,rL,bG b,f,xw,iQ,b,d,cC c]
theorem Lx{k:Nat}(f:ev ks a sl st=À (.ref k,st))(d:ev ks e sl st=À (y,st))(b:st[k]?=À (.lst xs))(c:xs.length<=1000):ev ks (.mt .app a (.cons e .nil)) sl st=À (.non,st.set k (.lst (xs++[y]))):=by
 simp[mX,se,rZ,f,rL,bG b,d,qS,iQ,b,cC c]
theorem Hv{n:Int}(P:∀st,pm aS [.int n] st=À (.fz (ao RR),st))(B:∀st,pm ar [.int n] st=À (.int w,st))(Q:w<=15)(T:RR.length<=100)(H:∀l∈RR,l.length=w)(S:gv.length<=100)(d:∀x∈gv,x.row.length=w)(j:goal.length=w) :
  ∃st',cq [.int n,.fz (gv.map Gv.av),.fz (iL goal)] []=À (.ref 1,st')/\Rep st' 1 2 3 4 5 6 7 (ao (ag RR gv goal)) (openS w (ag RR gv goal) (w+RR.length)):=by
 have U:(ag RR gv goal).length=RR.length+gv.length+1:=by simp[ag];lia
 have O:Rep [.lst (ao (ag RR gv goal)),.ins "Sheet" (dG 1 2 3 4 5 6 7),.lst (ao (ag RR gv goal)),.lst (nL (Æ w)),.lst (nL ((Æ (ag RR gv goal).length).map (w+·))),.dK [],.dK [],.dK []] 1 2 3 4 5 6 7 (ao (ag RR gv goal)) (openS w (ag RR gv goal) 0):=by
  refine⟨rfl,rfl,rfl,rfl,rfl,rfl,rfl,by simp[openS],fun i x h=>.inl ?_,by decide,by decide,by decide,by decide,by decide,by decide,fun i r h=>?_⟩
  ·unfold ao at h
   rw[zR]at h;obtain⟨l,u,rfl⟩:=zE.mp h;show _=AV.fz (iL ((ag RR gv goal).getD i []));rw[zD,u];rfl
  ·unfold ao at h
   rw[zR]at h;obtain⟨l,u,m⟩:=zE.mp h;cases m
 obtain⟨sl',st',e,x,rfl,A⟩:=dX (gd:=[]) (g:=cM [aS,ar,aH,aR] (.nm 6)) (s:=af [aS,ar,aH,aR] (.cons (.ex (.me "Sheet" "guard" 3 (.v 5) (.cons (.v 6) .nil))) .nil))
  (I:=fun i sl s=>∃x,sl=[Is n,Zs (gv.map Gv.av),Ls goal,Rs 0,Is ((w:Int)+(RR.length:Int)),Rs 1,x]/\Rep s 1 2 3 4 5 6 7 (ao (ag RR gv goal)) (openS w (ag RR gv goal) i)) (xs:=eu 0 (w+RR.length)) (fun _ _ _ _ _=>rfl)
  (fun i y sl s a K=>by
   obtain⟨x,rfl,R⟩:=K;rw[pF]at a;have p:i<w+RR.length:=by have:=(zB.mp a).1;simpa using this
   have M:y=.int ((i:Nat):Int):=by
    rw[jy (by simpa using p)]at a;injection a with a;rw[<- a];simp[zD,p]
   subst M;obtain⟨C,N,z⟩:=wu (q:=i) R (by simp[openS];lia);refine⟨_,[Is n,Zs (gv.map Gv.av),Ls goal,Rs 0,Is ((w:Int)+(RR.length:Int)),Rs 1,Is ((i:Nat):Int)],C,rfl,?_,_,rfl,?_⟩
   ·simp[R.ins,N]
   ·have:ins (Æ i) i=Æ (i+1):=by unfold ins;rw[yG (by simp),Ŗ]
    have m:{ openS w (ag RR gv goal) i with gd:=ins (openS w (ag RR gv goal) i).gd i }=openS w (ag RR gv goal) (i+1):=by show Sh.mk _ _ _ _ (ins (Æ i) i) _ _=_;rw[this];rfl
    rw[m]at z;exact z) (sl:=[Is n,Zs (gv.map Gv.av),Ls goal,Rs 0,Is ((w:Int)+(RR.length:Int)),Rs 1,Á]) (st:=_) ⟨Á,rfl,O⟩
 have E:(eu 0 (w+RR.length)).length=w+RR.length:=by rw[pF];simp
 rw[E]at A;refine⟨st',?_,A⟩;rw[cq,aw];unfold ik;refine ad (sl':=[Is n,Zs (gv.map Gv.av),Ls goal,Rs 0,Á,Á,Á]) (st':=[.lst (ao (RR.map (·++[0])))]) ?_ ?_
 ·have c:=xy (gd:=[]) (g:=cM [aS,ar,aH,aR] (.nm 7)) (t:=j5 [aS,ar,aH,aR] .no) (f:=ev [aS,ar,aH,aR] (.nw Ã (.cat (.v 7) (.nw Ã (.li (.cons (.i 0) .nil))))))
   (sl:=[Is n,Zs (gv.map Gv.av),Ls goal,Á,Á,Á,Á,Á]) (st:=[]) (em:=fun l=>.fz (iL l)) (F:=fun l=>l++[0]) (xs:=RR) rfl fun l J=>⟨_,rfl,rfl,by
    rw[dE,lb (l:=l) (l':=[0]) (s1:=[]) (s2:=[]) (y:=.fz (iL [0])) rfl (by simp[cU,iL]) rfl rfl (by rw[H l J];simp;lia)];simp⟩
  have b:iW [] (cM [aS,ar,aH,aR] (.nm 7)) (j5 [aS,ar,aH,aR] .no) (ev [aS,ar,aH,aR] (.nw Ã (.cat (.v 7) (.nw Ã (.li (.cons (.i 0) .nil)))))) [Is n,Zs (gv.map Gv.av),Ls goal,Á,Á,Á,Á,Á] (ao RR) []=À (ao (RR.map (·++[0])),[]):=c;simp [P,cC (show RR.length <= 1000 by lia),b]
 have G:∀(x:List AV)(X:aa),cw (.lst x::X) (.ref 0)=À x:=fun x X=>bG rfl
 refine ad (sl':=[Is n,Zs (gv.map Gv.av),Ls goal,Rs 0,Is ((w:Int)+(RR.length:Int)),Á,Á]) (st':=[.lst (ao (RR.map (·++[0])))]) (by simp[B,aZ,cO,G]) ?_;refine ad (sl':=[Is n,Zs (gv.map Gv.av),Ls goal,Rs 0,Is ((w:Int)+(RR.length:Int)),Á,Á]) (st':=[.lst (ao (RR.map (·++[0]))++ao (gv.map fun x=>x.row++[-x.num]))]) ?_ ?_
 ·rw[Gp,K1 (k:=0) (xs:=ao (RR.map (·++[0]))) (ys:=ao (gv.map fun x=>x.row++[-x.num])) (y:=.fz (ao (gv.map fun x=>x.row++[-x.num]))) rfl ?_ rfl rfl (by simp;lia)]
  ·rfl
  ·have c:=xy (gd:=[]) (g:=cM [aS,ar,aH,aR] (.tu 3 (.cons (.nm 7) (.cons (.nm 8) (.cons (.nm 9) .nil))))) (t:=j5 [aS,ar,aH,aR] .no) (f:=ev [aS,ar,aH,aR] (.nw Ã (.cat (.nw Ã (.lof (.v 7))) (.nw Ã (.li (.cons (.un .USub (.v 9)) .nil))))))
    (sl:=[Is n,Zs (gv.map Gv.av),Ls goal,Rs 0,Is ((w:Int)+(RR.length:Int)),Á,Á,Á,Á,Á]) (st:=[.lst (ao (RR.map (·++[0])))]) (em:=Gv.av) (F:=fun x=>x.row++[-x.num]) (xs:=gv) rfl fun x o=>⟨_,rfl,rfl,by
     rw[dE,lb (l:=x.row) (l':=[-x.num]) (s1:=[.lst (ao (RR.map (·++[0])))]) (s2:=[.lst (ao (RR.map (·++[0])))]) (x:=.fz (iL x.row)) (y:=.fz (iL [-x.num])) (by simp[oZ]) (by simp[cU,iL]) rfl rfl (by rw[d x o];simp;lia)];simp⟩
   simp [cC (show gv.length <= 1000 by lia),c]
 refine ad (sl':=[Is n,Zs (gv.map Gv.av),Ls goal,Rs 0,Is ((w:Int)+(RR.length:Int)),Á,Á]) (st':=[.lst (ao (ag RR gv goal))]) ?_ ?_
 ·rw[Gp,Lx (k:=0) (xs:=ao (RR.map (·++[0]))++ao (gv.map fun x=>x.row++[-x.num])) (y:=.fz (iL (goal.map (fun x=>- x)++[0]))) rfl ?_ rfl (by simp;lia)]
  ·rw[Ä]
   have:ao (RR.map (·++[0]))++ao (gv.map fun x=>x.row++[-x.num])++[AV.fz (iL (goal.map (fun x=>- x)++[0]))]=ao (ag RR gv goal):=by
    simp[ag,ao]
   show À (Out.nx _ [.lst (_++[_])])=_;rw[this]
  ·rw[dE,lb (l:=goal.map fun x=>- x) (l':=[0]) (s1:=[.lst (ao (RR.map (·++[0]))++ao (gv.map fun x=>x.row++[-x.num]))]) (s2:=[.lst (ao (RR.map (·++[0]))++ao (gv.map fun x=>x.row++[-x.num]))]) (x:=.fz (iL (goal.map fun x=>- x))) (y:=.fz (iL [0])) ?_ (by simp[cU,iL]) rfl rfl (by simp[j];lia)]
   ·simp
   ·simp [cC (show goal.length <= 1000 by lia)]
    rw[lG (F:=fun x=>- x) gX fun x o=>⟨_,rfl,rfl,by simp⟩];simp
 refine ad (sl':=[Is n,Zs (gv.map Gv.av),Ls goal,Rs 0,Is ((w:Int)+(RR.length:Int)),Rs 1,Á]) (st':=NG w (ag RR gv goal)) ?_ ?_
 ·have:=Ip (w:=w) (L:=ag RR gv goal) oM oM
  simp[AT,B,this]
 ·refine ad (sl':=[Is n,Zs (gv.map Gv.av),Ls goal,Rs 0,Is ((w:Int)+(RR.length:Int)),Rs 1,x]) (st':=st') ?_ (by simp)
  have D:gD ((w:Int)+(RR.length:Int))=Â:=by
   unfold gD;refine yK ?_;have:((w:Int)+(RR.length:Int)).natAbs=w+RR.length:=by lia
   rw[this];by_cases v:w+RR.length=0
   ·rw[v];decide
   ·exact yY ((č v).mpr oM)
  simp[Dg,D];rw[show((w:Int)+(RR.length:Int)).toNat=w+RR.length by lia];exact e
end
noncomputable def gL(l:List Int):Nat:=l.foldl (fun g x=>Û g x.natAbs) 0
def ak(l:List Int):List Int:=if gL l=0 then l else l.map fun x=>x/(gL l:Int)
theorem uJ{d o:Nat}:Û o (d%o)=Û d o:=by rw[F!,<- Nat.gcd_rec,F!]
theorem NU:∀(o d:Nat)(y:Option AV),∃y',cV [] (.wh (.cmp .NotEq (.v 3) (.i 0)) (.cons (.as (.bin .Mod (.v 1) (.v 3)) (.nm 4)) (.cons (.as (.v 3) (.nm 1)) (.cons (.as (.v 4) (.nm 3)) .nil)))) [l,Is d,x,Is o,y] st=À (.nx [l,Is (Û d o:Nat),x,Is 0,y'] st):=by
 intro o
 induction o using U2 with
 |_ o ih =>
  intro d y;by_cases h:o=0
  ·subst h
   refine⟨y,?_⟩;rw[Ϣ];exact kP (n:=1) (kK (by simp))
  ·obtain⟨y',e⟩:=ih (d%o) (j! _ oM) o (À (.int ((d%o:Nat):Int)))
   obtain⟨n,a⟩:=t0 e;refine⟨y',?_⟩;rw[uJ]at a;refine kP (n:=n+1) (nh (st':=st) (by simp;lia) ?_ a);have c:(o:Int)≠0:=by lia
   have b:mR (d:Int) (o:Int)=((d%o:Nat):Int):=by unfold mR;rw[yH oM];simp
   simp[nY c,b]
theorem uQ:gL (a++b)=b.foldl (fun g x=>Û g x.natAbs) (gL a):=by unfold gL;rw[Ϩ]
theorem uW:∀b:List Int,b.foldl (fun g x=>Û g x.natAbs) 1=1
 |[]=>rfl
 |x::b=>by rw[Ġ,Nat.gcd_one_left];exact uW b
theorem Nc:∃r,dk [.fz (iL l)] st=À (r,st)/\r=.int (gL l:Int):=by
 have o:=nQ (gd:=[]) (g:=cM [] (.nm 2)) (s:=af [] (.cons (.as (.bi .abs (.cons (.v 2) .nil)) (.nm 3)) (.cons (.wh (.cmp .NotEq (.v 3) (.i 0)) (.cons (.as (.bin .Mod (.v 1) (.v 3)) (.nm 4)) (.cons (.as (.v 3) (.nm 1)) (.cons (.as (.v 4) (.nm 3)) .nil)))) (.cons (.iff (.cmp .Eq (.v 1) (.i 1)) (.cons (.rt (.i 1)) .nil) .nil) .nil))))
  (I:=fun i sl s=>s=st/\∃x y z,sl=[Ls l,Is (gL (l.take i):Nat),x,y,z]) (Post:=fun v s=>s=st/\v=.int (gL l:Nat)) (xs:=iL l) (fun _ _ _ _ _=>rfl)
  (fun i x sl s b q=>by
   obtain⟨rfl,u,k,c,rfl⟩:=q;have f:i<l.length:=by have:=(zB.mp b).1;simpa using this
   rw[cx f]at b;injection b with b;subst b;have n:l.take (i+1)=l.take i++[gI l i]:=by
    rw[h!,zF f];unfold gI;rw[zD,zF f];rfl
   have p:gL (l.take (i+1))=Û (gL (l.take i)) (gI l i).natAbs:=by rw[n,uQ];rfl
   obtain⟨j,e⟩:=NU (l:=À (.fz (iL l))) (x:=À (.int (gI l i))) (st:=s) (gI l i).natAbs (gL (l.take i)) c;rw[<- p]at e;have t:pi s [.int (gI l i)]=À (.int ((gI l i).natAbs:Nat)):=by
    show À (AV.int (if gI l i<0 then-gI l i else gI l i))=_;congr 2;split<;>lia
   have a:cV [] (.as (.bi .abs (.cons (.v 2) .nil)) (.nm 3)) [Ls l,Is (gL (l.take i):Nat),Is (gI l i),k,c] s=À (.nx [Ls l,Is (gL (l.take i):Nat),Is (gI l i),Is ((gI l i).natAbs:Nat),c] s):=by
    simp[aZ,t]
   by_cases h:gL (l.take (i+1))=1
   ·refine⟨_,.rt (.int 1) s,rfl,au a (au e ?_),.inr ⟨_,s,rfl,rfl,?_⟩⟩
    ·simp[h]
    ·have:gL l=1:=by
      have:l=l.take (i+1)++l.drop (i+1):=(List.take_append_drop _ _).symm;rw[this,uQ,h,uW]
     rw[this];rfl
   ·refine⟨_,.nx [Ls l,Is (gL (l.take (i+1)):Nat),Is (gI l i),Is 0,j] s,rfl,au a (au e ?_),.inl ⟨_,s,rfl,rfl,_,_,_,rfl⟩⟩
    have:¬((gL (l.take (i+1)):Nat):Int)=1:=by lia
    simp[this]) (sl:=[Ls l,Is 0,Á,Á,Á]) (st:=st) ⟨rfl,Á,Á,Á,rfl⟩
 rcases o with⟨m,d,e,rfl,x,y,z,rfl⟩|⟨v,d,e,rfl,rfl⟩
 ·refine⟨_,?_,rfl⟩
  rw[gf,Ĭ]at e;simp[dk,aw,eY,e]
 ·refine⟨_,?_,rfl⟩
  simp[dk,aw,eY,e]
theorem mQ:∀x∈l,gL l ∣ x.natAbs:=by
 have f:∀(b:List Int)(g:Nat),(b.foldl (fun g x=>Û g x.natAbs) g) ∣ g/\∀x∈b,(b.foldl (fun g x=>Û g x.natAbs) g) ∣ x.natAbs:=fun b=>by
  induction b with
  |nil=>intro g;exact⟨Nat.dvd_refl g,fun x a=>by cases a⟩
  |cons y b d =>
   intro g;obtain⟨c,e⟩:=d (Û g y.natAbs);refine⟨X3 c (U! _ _),fun x a=>?_⟩;rcases zT.mp a with rfl|a
   ·exact X3 c (S8 _ _)
   ·exact e x a
 exact(f l 0).2
theorem KJ{B:Nat}(hB:0<B)(h:∀x∈l,x.natAbs<B):gL l<B:=by
 by_cases hz:∃x∈l,x≠0
 ·obtain⟨x,a,f⟩:=hz
  exact yL (X1 oM (mQ x a)) (h x a)
 ·have:∀(b:List Int),(∀x∈b,x=0)->b.foldl (fun g x=>Û g x.natAbs) 0=0:=fun b=>by
   induction b with
   |nil=>intro _;rfl
   |cons y b d=>intro c;rw[Ġ,c y z7];exact d fun x a=>c x (zQ _ a)
  have e:gL l=0:=this l fun x a=>Ă fun z=>hz ⟨x,a,z⟩
  lia
theorem tm(b:l.length<=1000)(c:∀x∈l,x.natAbs<2^9000):aj [.fz (iL l)] []=À (.fz (iL (ak l)),[]):=by
 obtain⟨r,e,rfl⟩:=Nc (l:=l) (st:=[]);have a:∀st,pm dk [.fz (iL l)] st=À (.int (gL l:Int),st):=fun st=>aN rfl e rfl
 unfold ak;by_cases h:gL l=0
 ·rw[yH h]
  simp[aj,aw,eF,a,h,oZ]
 ·rw[yG h]
  have d:¬((gL l:Nat):Int)=0:=by lia
  have f:fE ((gL l:Nat):Int)=Â:=u7 d (by rw[Ť];exact KJ (Ñ _) c);simp[aj,aw,eF,a,h,cC b];rw[lG (F:=fun x=>x/(gL l:Int)) gX fun x g=>⟨_,rfl,rfl,by
   simp[qx f];unfold wx;rw[yH oM]⟩]
  simp
theorem ul(a:l.length<=1000)(b:∀x∈l,x.natAbs<2^9000):pm aj [.fz (iL l)] st=À (.fz (iL (ak l)),st):=aN rfl (tm a b) rfl
theorem fC:(ak l).length=l.length:=by unfold ak;split<;>simp
theorem IH{a b:Int}(j:a.natAbs<2^9000)(h:b.natAbs<2^9000):pm dH [.int a,.int b] st=À (.tup [.int (gI (ak [a,b]) 0),.int (gI (ak [a,b]) 1)],st):=by
 have e:=ul (l:=[a,b]) (st:=[]) (by simp) (fun x c=>by simp at c;rcases c with rfl|rfl<;>assumption);have k:(ak [a,b]).length=2:=fC;have f:aG [] (.fz (iL (ak [a,b]))) (.int 0)=À (.int (gI (ak [a,b]) 0)):=by
  have:=cH (st:=[]) (x:=.fz (iL (ak [a,b]))) (i:=((0:Nat):Int)) dR;rw[bS,cx oM]at this;exact this
 have d:aG [] (.fz (iL (ak [a,b]))) (.int 1)=À (.int (gI (ak [a,b]) 1)):=by
  have:=cH (st:=[]) (x:=.fz (iL (ak [a,b]))) (i:=((1:Nat):Int)) dR;rw[bS,cx oM]at this;exact this
 refine aN rfl (v:=.tup [.int (gI (ak [a,b]) 0),.int (gI (ak [a,b]) 1)]) (st':=[]) ?_ rfl;have g:pm aj [.fz [.int a,.int b]] []=À (.fz (iL (ak [a,b])),[]):=e;simp[dH,aw,fX,cU,g,f,d]
structure GX(S:Sh)(w cc k:Nat)(X:List Int):Prop where
 len:X.length=w
 at_:∀i,i<k->S.s i<w->gI X (S.s i)=S.t i cc
 no:∀q,q<w->(∀i,i<k->S.s i≠q)->gI X q=0
section
variable{st:aa}{k a b c g n u w m:Nat}{rows:List AV}{S:Sh}{v:Nat->Nat->Int}{nn:Int}
theorem CW{j:Nat}(h:ev ks e sl st=À (.int (j:Int),st))(c:j<=1000):j4 ks (.rep (.cons (.i 0) .nil) e) sl st=À (iL (È j 0),st):=by
 rw[Kd];unfold xm;have d:fD ks (.cons (.i 0) .nil) sl st=À ([.int 0],st):=rfl;rw[d,Ä];dsimp only;rw[h,Ä];dsimp only;have b:gD (j:Int)=Â:=by
  unfold gD;refine yK ?_;rw[Ť];by_cases a:j=0
  ·rw[a];decide
  ·exact yY ((č a).mpr (yL c dC))
 rw[b,cC (n:=[AV.int 0].length*((j:Int)).toNat) (by simp;lia),cC (n:=[AV.int 0].length) (by simp)];show À _=À _;congr 2;show(È j [AV.int 0]).flatten=iL (È j 0);unfold iL
 induction j with
 |zero=>rfl
 |succ j f=>rw[ì,Ċ,ì,zO];simp
theorem Ay{j q:Nat}:gI (È j 0) q=0:=by
 unfold gI;rw[zD,ü];split<;>rfl
theorem Di(R:Rep st k a b c g n u rows S)(P:Po w m S)(Q:SX.Pm w m S.h S.s)(J:∀st,pm ar [.int nn] st=À (.int w,st))(K:w<=100)(L:m<=1000){cI:Int}{cc:Nat}
  (H:∀{s:aa}{a:Nat}{rows:List AV},Rep s k a b c g n u rows S->∀i,i<m->aG s (my rows i) (.int cI)=À (.int (S.t i cc))) :
  ∃X,dz [.int nn,.ref k,.int cI] st=À (.ref st.length,st++[.lst (iL X)])/\GX S w cc m X:=by
 have sl:S.sd.length=m:=P.sd;obtain⟨sl',st',e,X,t,r,rfl,rfl,d⟩:=dX (gd:=[(c,.lst (nL S.sd))]) (g:=cM [ar] (.tu 2 (.cons (.nm 4) (.cons (.nm 5) .nil)))) (s:=af [ar] (.cons (.iff (.cmp .Lt (.v 5) (.bi .len (.cons (.v 3) .nil))) (.cons (.as (.ix (.ix (.fd "Sheet" "lines" (.v 1)) (.v 4)) (.v 2)) (.su (.v 3) (.v 5))) .nil) .nil) .nil))
  (I:=fun i sl s=>∃X t r,s=st++[.lst (iL X)]/\sl=[Is nn,Rs k,Is cI,Rs st.length,t,r]/\GX S w cc i X) (xs:=fP 0 (nL S.sd)) (fun i sl s _ E=>by obtain⟨X,_,_,rfl,_⟩:=E;exact iH (R.app (ys:=[_])).hc)
  (fun i y sl s G E=>by
   obtain⟨X,t,r,rfl,rfl,d⟩:=E;obtain⟨x,f,rfl⟩:=qh G;have A:i<m:=by have:=(zB.mp f).1;simpa [sl] using this
   have B:(nL S.sd)[i]?=À (.int ((S.s i:Nat):Int)):=jy oM;rw[B]at f;injection f with f;subst f;have p:=R.app (ys:=[Pe.lst (iL X)]);have F:cw (st++[Pe.lst (iL X)]) (.ref st.length)=À (iL X):=bG gl;by_cases h:S.s i<w
   ·refine⟨_,[Is nn,Rs k,Is cI,Rs st.length,Is i,Is (S.s i:Int)],st++[.lst (iL (X.set (S.s i) (S.t i cc)))],rfl,?_,X.set (S.s i) (S.t i cc),_,_,rfl,rfl,?_⟩
    ·have o:=d8 (x:=.int (S.t i cc)) (gl (st:=st) (e:=Pe.lst (iL X))) (show S.s i < (iL X).length by simp [d.len,h])
     rw[f9,gB]at o;have l:S.s i<X.length:=by rw[d.len];exact h
     simp[aZ,cO,F,l,p.ins,p.line P A,H p i A,o]
    ·refine⟨by simp[d.len],fun j D o=>?_,fun q C v=>?_⟩
     ·by_cases e:j=i
      ·subst e;rw[SX.gI_set_at (by rw[d.len];exact h)]
      ·rw[SX.gI_set_ne (fun z=>e (Q.si j i oM A z))];exact d.at_ j oM o
     ·rw[SX.gI_set_ne (fun z=>v i oM z.symm)];exact d.no q C fun j D=>v j oM
   ·refine⟨_,[Is nn,Rs k,Is cI,Rs st.length,Is i,Is (S.s i:Int)],st++[.lst (iL X)],rfl,?_,X,_,_,rfl,rfl,?_⟩
    ·have l:¬S.s i<X.length:=by rw[d.len];exact h
     simp[aZ,cO,F,l]
    ·refine⟨d.len,fun j D o=>?_,fun q C v=>d.no q C fun j D=>v j oM⟩
     by_cases e:j=i
     ·subst e;exact absurd o h
     ·exact d.at_ j oM o) (sl:=[Is nn,Rs k,Is cI,Rs st.length,Á,Á]) (st:=st++[.lst (iL (È w 0))]) ⟨_,Á,Á,rfl,rfl,by simp,fun i A=>by lia,fun q _ _=>Ay⟩
 rw[nT,pP,sl]at d;refine⟨X,?_,d⟩;rw[dz,aw];unfold fG;refine ad (sl':=[Is nn,Rs k,Is cI,Rs st.length,Á,Á]) (st':=st++[.lst (iL (È w 0))]) ?_ ?_
 ·rw[fU,wM,CW (j:=w) (by simp[J]) oM];rfl
 refine ad (sl':=[Is nn,Rs k,Is cI,Rs st.length,t,r]) (st':=st++[.lst (iL X)]) ?_ (by simp);have p:=R.app (ys:=[Pe.lst (iL (È w 0))]);simp[p.ins,kS p.hc];exact e
theorem wm{n:Nat}:(iL l).take n=iL (l.take n):=by unfold iL;rw[W?]
theorem Ft{n:Nat}:(iL l).drop n=iL (l.drop n):=by unfold iL;rw[W1]
theorem ve{n:Nat}(a:l.length=n+1):cut (iL l) Á (À (-1))=iL (l.take n):=by
 unfold cut;rw[gf,a,HT.sIx_none,Ņ];have:HT.Ps (n+1) (n+1) (À (-1))=n:=by
  show(if(-1:Int)<0 then((-1:Int)+((n+1:Nat):Int)).toNat else min (-1:Int).toNat (n+1))=n;rw[yH dC];lia
 rw[this,Ϭ,wm]
theorem FC{w m:Nat}(a:l.length=w+(m+1)):cut (iL l) (À (w:Int)) (À (-1))=iL ((l.drop w).take m):=by
 unfold cut;rw[gf,a,HT.sIx_nat];have:HT.Ps (w+(m+1)) (w+(m+1)) (À (-1))=w+m:=by
  show(if(-1:Int)<0 then((-1:Int)+((w+(m+1):Nat):Int)).toNat else min (-1:Int).toNat (w+(m+1)))=w+m;rw[yH dC];lia
 rw[this,f? oM,Ft,wm,show w+m-w=m by lia]
theorem Ac{d:Int}(k:X.length<=100)(j:∀x∈X,x.natAbs<2^9000)(hd:d.natAbs<2^9000):bY [.fz (iL X),.int d] []=À (.tup [.fz (iL ((ak (X++[d])).take X.length)),.int (gI (ak (X++[d])) X.length)],[]):=by
 have f:(ak (X++[d])).length=X.length+1:=by rw[fC];simp
 have e:=ul (l:=X++[d]) (st:=[]) (by simp;lia) fun x i=>by
  rcases zZ.mp i with h|h
  ·exact j x h
  ·rw[zM.mp h];exact hd
 have g:aG [] (.fz (iL (ak (X++[d])))) (.int (-1))=À (.int (gI (ak (X++[d])) X.length)):=by
  rw[cH dR,rC (n:=X.length) (by simp[f]),cx oM]
 rw[bY,aw];unfold iJ;refine ad (sl':=[Ls X,Is d,Ls (ak (X++[d]))]) (st':=[]) ?_ ?_
 ·have c:=lb (ks:=[aj]) (a:=.v 0) (b:=.nw Ã (.li (.cons (.v 1) .nil))) (sl:=[Ls X,Is d,Á]) (st:=[]) (s1:=[]) (s2:=[]) (x:=.fz (iL X)) (y:=.fz (iL [d])) (l:=X) (l':=[d]) rfl (by simp[cU,iL]) rfl rfl (by simp;lia)
  simp[-pN,c,e]
 ·simp[pO,pK,ve f,g]
theorem CQ(R:Rep st k a b c g n u rows S)(P:Po w m S)(Q:SX.Pm w m S.h S.s)(B:Bd w m S)(H:∀st,pm ar [.int nn] st=À (.int w,st))(y:w<=100)(C:m<=1000) :
  ∃X T st1,bg [.int nn,.ref k] st=À (.tup [.fz (iL T),.int (gI (ak (X++[S.d])) w)],st1)/\T=(ak (X++[S.d])).take w/\GX S w w m X/\Rep st1 k a b c g n u rows S:=by
 obtain⟨X,e,f⟩:=Di (cI:=-1) (cc:=w) R P Q H y C fun G i d=>G.last P d
 have D:∀x∈X,x.natAbs<2^9000:=fun x v=>by
  obtain⟨q,o⟩:=z8 v;have j:=(zB.mp o).1;rw[f.len]at j;have p:gI X q=x:=by unfold gI;rw[zD,o];rfl
  by_cases h:∃i,i<m/\S.s i=q
  ·obtain⟨i,d,rfl⟩:=h
   rw[<- p,f.at_ i d j];exact B.2 i d w oM
  ·rw[<- p,f.no q j fun i d z=>h ⟨i,d,z⟩];exact Ñ _
 obtain⟨st1,t,E⟩:=mz (fn:=bY) (rest:=[.int S.d]) (x:=.ref st.length) (l:=X) (.inr ⟨_,rfl,.inl (gl (st:=st) (e:=.lst (iL X)))⟩) rfl rfl (fun s=>by simp[qc,sC]) (Ac (by rw[f.len];lia) D B.1) rfl (by simp[flat,qf]);refine⟨X,_,st1,?_,rfl,f,?_⟩
 ·have F:=R.app (ys:=[Pe.lst (iL X)])
  rw[f.len]at t;simp[bg,aw,gG,e,F.ins,t]
 ·rcases E with rfl|⟨r,A,_,rfl⟩
  ·exact R.app
  ·cases A;rw[gB];exact R.app
theorem Jr(R:Rep st k a b c g n u rows S)(P:Po w m S)(Q:SX.Pm w m S.h S.s)(B:Bd w m S)(L:∀st,pm ar [.int nn] st=À (.int w,st))(H:w<=100)(I:m<=1000){q:Nat}(D:q<w) :
  ∃X st1,cZ [.int nn,.ref k,.int q] st=À (.fz (iL (ak (if S.h q<w then X.set (S.h q) S.d else X))),st1)/\GX S w q m X:=by
 obtain⟨X,e,d⟩:=Di (cI:=q) (cc:=q) R P Q L H I fun K i o=>K.cell P o oM
 have F:∀x∈X,x.natAbs<2^9000:=fun x r=>by
  obtain⟨j,E⟩:=z8 r;have t:=(zB.mp E).1;rw[d.len]at t;have G:gI X j=x:=by unfold gI;rw[zD,E];rfl
  by_cases h:∃i,i<m/\S.s i=j
  ·obtain⟨i,o,rfl⟩:=h
   rw[<- G,d.at_ i o t];exact B.2 i o q oM
  ·rw[<- G,d.no j t fun i o z=>h ⟨i,o,z⟩];exact Ñ _
 have p:=R.app (ys:=[Pe.lst (iL X)]);have A:cw (st++[Pe.lst (iL X)]) (.ref st.length)=À (iL X):=bG gl;by_cases h:S.h q<w
 ·have v:∀x∈X.set (S.h q) S.d,x.natAbs<2^9000:=fun x r=>by
   rcases ø r with h|h
   ·exact F x h
   ·rw[h];exact B.1
  obtain ⟨st1,y,J⟩:=mz (fn:=aj) (rest:=[]) (st:=st++[.lst (iL (X.set (S.h q) S.d))]) (x:=.ref st.length) (l:=X.set (S.h q) S.d) (.inr ⟨_,rfl,.inl gl⟩) rfl rfl (fun s=>rfl) (tm (by simp [d.len];lia) v) rfl (by simp [flat]);refine ⟨X,st1,?_,d⟩;rw [yH h];have C:=d8 (x:=.int S.d) (gl (st:=st) (e:=Pe.lst (iL X))) (show S.h q < (iL X).length by simp [d.len,h]);rw [f9,gB] at C;have f:S.h q < X.length:=by rw [d.len];exact h
  simp[cZ,aw,iR,e,p.ins,p.head P D,aZ,cO,A,f,C,y]
 ·obtain⟨st1,y,J⟩:=mz (fn:=aj) (rest:=[]) (st:=st++[.lst (iL X)]) (x:=.ref st.length) (l:=X) (.inr ⟨_,rfl,.inl gl⟩) rfl rfl (fun s=>rfl) (tm (by simp[d.len];lia) F) rfl (by simp[flat])
  refine⟨X,st1,?_,d⟩;rw[yG h];have f:¬S.h q<X.length:=by rw[d.len];exact h
  simp[cZ,aw,iR,e,p.ins,p.head P D,aZ,cO,A,f,y]
end
open SX (Pg)
structure TK(S:Sh)(w m p:Nat)(T:List Int):Prop where
 len:T.length=w+m
 hd:∀j,j<w->gI T (S.h j)=if S.h j∈S.tn then S.t p j else-S.t p j
 sd:gI T (S.s p)=if S.s p∈S.tn then-S.d else S.d
 no:∀q,q<w+m->(∀j,j<w->S.h j≠q)->q≠S.s p->gI T q=0
def wt(T:List Int)(HO:Nat->List Int)(w j k:Nat):Int:=gI T (w+k)+Pg j fun x=>gI T x*gI (HO (x+1)) k
section
variable{st:aa}{k a b c g n u w m p:Nat}{rows:List AV}{S:Sh}{nn:Int}{HO:Nat->List Int}
abbrev KW:List Fn:=[ar,dD,fe]
theorem qX{q x:Nat}{y:Int}(h:q<T.length):gI (T.set q y) x=if x=q then y else gI T x:=by
 by_cases e:x=q
 ·subst e;rw[yH rfl,SX.gI_set_at h]
 ·rw[yG e,SX.gI_set_ne e]
theorem DX(R:Rep st k a b c g n u rows S)(P:Po w m S)(Q:SX.Pm w m S.h S.s)(F:p<m)(nt:S.tn.Nodup)(ht:∀q∈S.tn,q<w+m)(hw:w<=100)(hm:m<=800){ss:Pq}{r:AV×aa->Prop}
  (h:∀T x1 x2,TK S w m p T->∃z,(af KW ss [Is nn,Rs k,Is p,Rs st.length,x1,x2,Á,Á,Á,Á,Á] (st++[Pe.lst (iL T)])).bind ay=À z/\r z) :
  ∃z,(af KW (.cons (.as (.nw Â (.rep (.cons (.i 0) .nil) (.bin .Add (.bi .len (.cons (.fd "Sheet" "heads" (.v 1)) .nil)) (.bi .len (.cons (.fd "Sheet" "sides" (.v 1)) .nil))))) (.nm 3))
   (.cons (.fo (.en (.fd "Sheet" "heads" (.v 1))) (.tu 2 (.cons (.nm 4) (.cons (.nm 5) .nil))) (.cons (.as (.un .USub (.ix (.ix (.fd "Sheet" "lines" (.v 1)) (.v 2)) (.v 4))) (.su (.v 3) (.v 5))) .nil))
   (.cons (.as (.fd "Sheet" "below" (.v 1)) (.su (.v 3) (.ix (.fd "Sheet" "sides" (.v 1)) (.v 2))))
   (.cons (.fd (.fd "Sheet" "turned" (.v 1)) (.nm 5) (.cons (.as (.un .USub (.ix (.v 3) (.v 5))) (.su (.v 3) (.v 5))) .nil)) ss)))) [Is nn,Rs k,Is p,Á,Á,Á,Á,Á,Á,Á,Á] st).bind ay=À z/\r z:=by
 have lh:cw st (.ref b)=À (nL S.hd):=bG R.hb;have O:cw st (.ref c)=À (nL S.sd):=bG R.hc;refine ai (sl':=[Is nn,Rs k,Is p,Rs st.length,Á,Á,Á,Á,Á,Á,Á]) (st':=st++[Pe.lst (iL (È (w+m) 0))]) ?_ ?_
 ·rw[fU,wM,CW (j:=w+m) ?_ oM]
  ·rfl
  ·simp[R.ins,aZ,cO,lh,O,P.hd,P.sd]
 obtain⟨sl',st',e,T,x1,x2,rfl,rfl,t,N,M⟩:=dX (gd:=[(b,.lst (nL S.hd))]) (g:=cM KW (.tu 2 (.cons (.nm 4) (.cons (.nm 5) .nil)))) (s:=af KW (.cons (.as (.un .USub (.ix (.ix (.fd "Sheet" "lines" (.v 1)) (.v 2)) (.v 4))) (.su (.v 3) (.v 5))) .nil))
  (I:=fun i sl s=>∃T x1 x2,s=st++[Pe.lst (iL T)]/\sl=[Is nn,Rs k,Is p,Rs st.length,x1,x2,Á,Á,Á,Á,Á]/\T.length=w+m/\(∀j,j<i->gI T (S.h j)=- S.t p j)/\∀q,(∀j,j<i->S.h j≠q)->gI T q=0) (xs:=fP 0 (nL S.hd)) (fun i sl s _ K=>by obtain⟨X,_,_,rfl,_⟩:=K;exact iH (R.app (ys:=[_])).hb)
  (fun i y sl s A K=>by
   obtain⟨T,x1,x2,rfl,rfl,t,N,M⟩:=K;obtain⟨x,f,rfl⟩:=qh A;have v:i<w:=by have:=(zB.mp f).1;simpa [P.hd] using this
   have U:(nL S.hd)[i]?=À (.int ((S.h i:Nat):Int)):=jy (by rw [P.hd];exact v);rw [U] at f;injection f with f;subst f;have l:=R.app (ys:=[Pe.lst (iL T)]);have W:=Q.hl i v;have o:=d8 (x:=.int (- S.t p i)) (gl (st:=st) (e:=Pe.lst (iL T))) (show S.h i < (iL T).length by simp [t,W]);rw [f9,gB] at o;refine ⟨_,[Is nn,Rs k,Is p,Rs st.length,Is i,Is (S.h i:Int),Á,Á,Á,Á,Á],st++[Pe.lst (iL (T.set (S.h i) (- S.t p i)))],rfl,?_,T.set (S.h i) (- S.t p i),_,_,rfl,rfl,by simp [t],fun j G=>?_,fun q D=>?_⟩
   ·simp [l.ins,l.line P F,l.cell P F (show i < w + 1 by lia),o]
   ·rw[qX (by rw[t];exact W)]
    by_cases e:j=i
    ·subst e;rw[yH rfl]
    ·rw[yG fun z=>e (Q.hi j i oM v z)];exact N j oM
   ·rw[qX (by rw[t];exact W),yG fun z=>D i oM z.symm];exact M q fun j G=>D j oM) (sl:=[Is nn,Rs k,Is p,Rs st.length,Á,Á,Á,Á,Á,Á,Á]) (st:=st++[Pe.lst (iL (È (w+m) 0))]) ⟨_,Á,Á,rfl,rfl,by simp,fun j G=>by lia,fun q _=>Ay⟩
 rw[nT,pP,P.hd]at N M;refine ai (sl':=[Is nn,Rs k,Is p,Rs st.length,x1,x2,Á,Á,Á,Á,Á]) (st':=st++[Pe.lst (iL T)]) ?_ ?_
 ·have l:=R.app (ys:=[Pe.lst (iL (È (w+m) 0))])
  simp[l.ins,kS l.hb];exact e
 have l:=R.app (ys:=[Pe.lst (iL T)]);have sb:=Q.sl p F;have o:=d8 (x:=.int S.d) (gl (st:=st) (e:=Pe.lst (iL T))) (show S.s p < (iL T).length by simp [t,sb]);rw [f9,gB] at o;refine ai (sl':=[Is nn,Rs k,Is p,Rs st.length,x1,x2,Á,Á,Á,Á,Á]) (st':=st++[Pe.lst (iL (T.set (S.s p) S.d))]) (by simp [l.ins,l.side P F,o]) ?_;have l2:(T.set (S.s p) S.d).length=w + m:=by simp [t]
 obtain⟨C,J⟩:∃x,x=T.set (S.s p) S.d:=⟨_,rfl⟩;rw[<- J]at l2 ⊢
 have Ru:=(R.app (ys:=[Pe.lst (iL C)])).hu;have E:u<st.length:=(zB.mp R.hu).1;obtain⟨sl',st',e,d,x2,rfl,rfl,L,B⟩:=dX (gd:=[]) (g:=cM KW (.nm 5)) (s:=af KW (.cons (.as (.un .USub (.ix (.v 3) (.v 5))) (.su (.v 3) (.v 5))) .nil))
  (I:=fun i sl s=>∃d x2,s=(st++[Pe.lst (iL d)]).set u (.wk (kL S.tn))/\sl=[Is nn,Rs k,Is p,Rs st.length,x1,x2,Á,Á,Á,Á,Á]/\d.length=w+m/\∀q,gI d q=if q∈S.tn.take i then-gI C q else gI C q) (xs:=nL S.tn) (fun _ _ _ _ _=>rfl)
  (fun i y sl s A K=>by
   obtain⟨d,x2,rfl,rfl,L,B⟩:=K;have v:i<S.tn.length:=by have:=(zB.mp A).1;simpa using this
   rw[jy v]at A;injection A with A;subst A;obtain⟨q,D⟩:∃q,q=S.tn.getD i 0:=⟨_,rfl⟩;rw[<- D];have qi:S.tn[i]=q:=by rw[D,zD,zF v];rfl
   have qm:q∈S.tn:=by rw[<- qi];exact Ø v
   have ql:=ht q qm;have Z:S.tn.take (i+1)=S.tn.take i++[q]:=by rw[h!,zF v,qi];rfl
   have qn:q∉S.tn.take i:=fun z=>by
    have:=nt.sublist (R9 (i+1) S.tn)
    rw[Z,ϧ]at this;exact this.2.2 q z q (by simp) rfl
   have gc:((st++[Pe.lst (iL d)]).set u (.wk (kL S.tn)))[st.length]?=À (.lst (iL d)):=by rw[aB (zU E)];exact gl
   have o:=d8 (x:=.int (- gI d q)) gc (show q < (iL d).length by simp [L,ql]);have sc:((st++[Pe.lst (iL d)]).set u (.wk (kL S.tn))).set st.length (.lst (iL (d.set q (- gI d q))))=(st++[Pe.lst (iL (d.set q (- gI d q)))]).set u (.wk (kL S.tn)):=by
    rw[W! _ _ (zU E),gB]
   rw[f9,sc]at o;have xi:aG ((st++[Pe.lst (iL d)]).set u (.wk (kL S.tn))) (.ref st.length) (.int (q:Int))=À (.int (gI d q)):=by rw[cH (bG gc),bS,cx oM]
   refine⟨_,[Is nn,Rs k,Is p,Rs st.length,x1,Is q,Á,Á,Á,Á,Á],(st++[Pe.lst (iL (d.set q (- gI d q)))]).set u (.wk (kL S.tn)),rfl,?_,_,_,rfl,rfl,by simp[L],fun x=>?_⟩
   ·simp[xi,o]
   ·rw[qX oM,Z]
    by_cases e:x=q
    ·subst e;rw[yH rfl,yH (by simp),B x,yG qn]
    ·rw[yG e,B x];simp[e]) (sl:=[Is nn,Rs k,Is p,Rs st.length,x1,x2,Á,Á,Á,Á,Á]) (st:=(st++[Pe.lst (iL C)]).set u (.wk (kL S.tn))) ⟨C,x2,rfl,rfl,l2,fun q=>by simp⟩
 rw[pP,Ĭ]at B;refine ai (sl':=[Is nn,Rs k,Is p,Rs st.length,x1,x2,Á,Á,Á,Á,Á]) (st':=st++[Pe.lst (iL d)]) ?_ (h d x1 x2 ?_)
 ·have Rb:=R.app (ys:=[Pe.lst (iL C)])
  have ky:(kL S.tn).map (fun q=>pW q.1)=nL S.tn:=by unfold kL nL;rw[Ö];rfl
  have f1:(((st++[Pe.lst (iL d)]).set u (.wk (kL S.tn))))[u]?=À (.wk (kL S.tn)):=ia (R.app (ys:=[Pe.lst (iL d)])).hu;have f2:((st++[Pe.lst (iL d)]).set u (.wk (kL S.tn))).set u (.dK (kL S.tn))=st++[Pe.lst (iL d)]:=by
   rw[r?]
   have:=(R.app (ys:=[Pe.lst (iL d)])).hu
   obtain⟨hlt,H⟩:=zB.mp this;rw[<- H,List.set_getElem_self]
  simp[xa,Rb.ins,Rb.hu];rw[show(kL S.tn).map ((fun q=>pW q.1))=nL S.tn from ky]at *;rw[e];simp[CP,f1,f2]
 ·have Y:∀q,gI C q=if q=S.s p then S.d else gI T q:=fun q=>by rw[J,qX (by rw[t];exact sb)]
  refine⟨L,fun j G=>?_,?_,fun q D hn V=>?_⟩
  ·rw[B,Y,yG (Q.hs j p G F),N j G];split<;>lia
  ·rw[B,Y,yH rfl]
  ·rw[B,Y,yG V,M q hn];split<;>rfl
end
structure HOk(nn:Int)(w nr:Nat)(HO:Nat->List Int):Prop where
 ex:∀grp:Nat,1<=grp->grp<=w->∃rr,(∀st,pm dD [.int nn,.int grp,.int 0] st=À (rr,st))/\∀st,pm fe [.int nn,rr] st=À (.fz (iL (HO grp)),st)
 len:∀grp:Nat,1<=grp->grp<=w->(HO grp).length=nr
 bd:∀(grp:Nat),1<=grp->grp<=w->∀x∈HO grp,x.natAbs<=15
section
variable{st:aa}{k a b c g n u w m p nr:Nat}{rows:List AV}{S:Sh}{nn:Int}{HO:Nat->List Int}
theorem Lw{r q:Nat}{x:Int}(e:ev ks ea sl s=À (.ref r,s))(d:ev ks eb sl s=À (.int (q:Int),s))(c:ev ks ec sl s=À (.int x,s))(a:s[r]?=À (.lst (iL l)))(b:q<l.length):cV ks (.aus .Add ea eb ec) sl s=À (.nx sl (s.set r (.lst (iL (l.set q (gI l q+x)))))):=by
 rw[JC];unfold xb;rw[e,Ä];dsimp only;rw[d,Ä];dsimp only;rw[bG a,Ä,bS,cx b,Ä,c,Ä];dsimp only;have:xU .Add s (.int (gI l q)) (.int x)=À (.int (gI l q+x)):=rfl;rw[this,Ä,d8 a (by simp[b]),f9,Ä]
theorem CH(R:Rep st k a b c g n u rows S)(P:Po w (m+1) S)(Q:SX.Pm w (m+1) S.h S.s)(hp:p<m+1)(nt:S.tn.Nodup)(ht:∀q∈S.tn,q<w+(m+1))(hw:w<=100)(hm:m+1<=800)(HA:∀st,pm ar [.int nn] st=À (.int w,st))(H:HOk nn w nr HO)(hnr:nr<=m) :
  ∃z,aQ [.int nn,.ref k,.int p] st=À z/\∃T W,TK S w (m+1) p T/\W.length=m/\(∀x,x<m->gI W x=wt T HO w w x)/\z.1=.ref (st.length+1)/\z.2=st++[Pe.lst (iL T)]++[Pe.lst (iL W)]:=by
 rw[aQ];simp only[aw];unfold fW;refine DX R P Q hp nt ht hw hm fun T h f U=>?_
 have sT:(st++[Pe.lst (iL T)])[st.length]?=À (.lst (iL T)):=gl;refine ai (sl':=[Is nn,Rs k,Is p,Rs st.length,h,f,Rs (st.length+1),Á,Á,Á,Á]) (st':=st++[Pe.lst (iL T)]++[Pe.lst (iL ((T.drop w).take m))]) ?_ ?_
 ·simp[pO,pK,HA,bG sT,FC U.len]
 have ll:(st++[Pe.lst (iL T)]).length=st.length+1:=by simp
 have V:∀W:List Int,(st++[Pe.lst (iL T)]++[Pe.lst (iL W)])[st.length]?=À (.lst (iL T)):=fun W=>ga sT
 have sW:∀W:List Int,(st++[Pe.lst (iL T)]++[Pe.lst (iL W)])[st.length+1]?=À (.lst (iL W)):=fun W=>by rw[<- ll];exact gl
 have L:∀W d:List Int,(st++[Pe.lst (iL T)]++[Pe.lst (iL W)]).set (st.length+1) (.lst (iL d))=st++[Pe.lst (iL T)]++[Pe.lst (iL d)]:=fun W d=>by rw[<- ll];exact gB
 have hW0:∀x,x<m->gI ((T.drop w).take m) x=wt T HO w 0 x:=fun x v=>by
  unfold wt gI;rw[zD,ŭ v,List.getElem?_drop,zD];simp[Pg]
 obtain⟨sl',st',e,W,N,J,B,A,rfl,rfl,O,M⟩:=dX (gd:=[]) (g:=cM KW (.nm 7)) (s:=af KW (.cons (.as (.ix (.v 3) (.bin .Sub (.v 7) (.i 1))) (.nm 8)) (.cons (.iff (.cmp .NotEq (.v 8) (.i 0))
   (.cons (.fo (.en (.ca Â 2 (.cons (.v 0) (.cons (.ca Â 1 (.cons (.v 0) (.cons (.v 7) (.cons (.i 0) .nil)))) .nil)))) (.tu 2 (.cons (.nm 9) (.cons (.nm 10) .nil))) (.cons (.aus .Add (.v 6) (.v 9) (.bin .Mult (.v 8) (.v 10))) .nil)) .nil) .nil) .nil)))
  (I:=fun i sl s=>∃W N J B A,s=st++[Pe.lst (iL T)]++[Pe.lst (iL W)]/\sl=[Is nn,Rs k,Is p,Rs st.length,h,f,Rs (st.length+1),N,J,B,A]/\W.length=m/\∀x,x<m->gI W x=wt T HO w i x) (xs:=eu 1 w) (fun _ _ _ _ _=>rfl)
  (fun i y sl s C hI=>by
   obtain⟨W,N,J,B,A,rfl,rfl,O,M⟩:=hI;have hi:i<w:=by have:=(zB.mp C).1;unfold eu at this;simpa using this
   have ey:y=.int (((i+1:Nat)):Int):=by
    unfold eu at C;rw[zR,ó hi]at C;injection C with C;rw[<- C];show AV.int (1+(i:Int))=_;congr 1;lia
   subst ey;have xi:aG (st++[Pe.lst (iL T)]++[Pe.lst (iL W)]) (.ref st.length) (.int (i:Int))=À (.int (gI T i)):=by rw[cH (bG (V W)),bS,cx (by rw[U.len];lia)]
   have K:cV KW (.as (.ix (.v 3) (.bin .Sub (.v 7) (.i 1))) (.nm 8)) [Is nn,Rs k,Is p,Rs st.length,h,f,Rs (st.length+1),Is ((i+1:Nat):Int),J,B,A] (st++[Pe.lst (iL T)]++[Pe.lst (iL W)])=À (.nx [Is nn,Rs k,Is p,Rs st.length,h,f,Rs (st.length+1),Is ((i+1:Nat):Int),Is (gI T i),B,A] (st++[Pe.lst (iL T)]++[Pe.lst (iL W)])):=by
    have e0:((i+1:Nat):Int)-1=(i:Int):=by lia
    have hb:aW .Sub (st++[Pe.lst (iL T)]++[Pe.lst (iL W)]) (.int ((i+1:Nat):Int)) (.int 1)=À (.int (i:Int)):=by rw[Ln,e0]
    simp only[fU,oV,wN,gN,oe,eP,eZ,Ä,hb,Ð,xi];rfl
   by_cases h0:gI T i=0
   ·refine⟨_,_,_,rfl,au K ?_,W,Is ((i+1:Nat):Int),Is (gI T i),B,A,rfl,rfl,O,fun x v=>?_⟩
    ·simp[h0]
    ·rw[M x v];unfold wt;simp only[Pg,h0];lia
   ·obtain⟨rr,r1,r2⟩:=H.ex (i+1) oM oM
    have D:=H.len (i+1) oM oM;obtain⟨sl',st',e,d,G,F,rfl,rfl,E,t⟩:=dX (gd:=[]) (g:=cM KW (.tu 2 (.cons (.nm 9) (.cons (.nm 10) .nil)))) (s:=af KW (.cons (.aus .Add (.v 6) (.v 9) (.bin .Mult (.v 8) (.v 10))) .nil))
     (I:=fun j sl s=>∃d G F,s=st++[Pe.lst (iL T)]++[Pe.lst (iL d)]/\sl=[Is nn,Rs k,Is p,Rs st.length,h,f,Rs (st.length+1),Is ((i+1:Nat):Int),Is (gI T i),G,F]/\d.length=m/\∀x,x<m->gI d x=gI W x+if x<j then gI T i*gI (HO (i+1)) x else 0) (xs:=fP 0 (iL (HO (i+1)))) (fun _ _ _ _ _=>rfl)
     (fun j y sl s C hI=>by
      obtain⟨d,G,F,rfl,rfl,E,t⟩:=hI;obtain⟨x,o,rfl⟩:=qh C;have hj:j<nr:=by have:=(zB.mp o).1;simpa [D] using this
      rw[cx oM]at o;injection o with o;subst o;have hc:(gI (HO (i+1)) j).natAbs<=15:=by
       refine H.bd (i+1) oM oM _ ?_;unfold gI;exact SX.getD_mem oM
      have mb:eI (gI T i) (gI (HO (i+1)) j)=Â:=by
       unfold eI;have:å (gI (HO (i+1)) j).natAbs.log2 62=Â:=yK (by
        by_cases hz:(gI (HO (i+1)) j).natAbs=0
        ·rw[hz];decide
        ·exact yY ((č hz).mpr (yL hc dC)))
       rw[this];simp
      refine⟨_,_,_,rfl,au (Lw (r:=st.length+1) (q:=j) (l:=d) (x:=gI T i*gI (HO (i+1)) j) rfl rfl (by simp[cj mb]) (sW d) oM) rfl,d.set j (gI d j+gI T i*gI (HO (i+1)) j),_,_,L _ _,rfl,by simp[E],fun x v=>?_⟩;rw[qX oM];by_cases e:x=j
      ·subst e;rw[yH rfl,t x v,yG oM,yH oM];lia
      ·rw[yG e,t x v]
       by_cases e2:x<j
       ·rw[yH e2,yH oM]
       ·rw[yG e2,yG oM]) (sl:=[Is nn,Rs k,Is p,Rs st.length,h,f,Rs (st.length+1),Is ((i+1:Nat):Int),Is (gI T i),B,A]) (st:=st++[Pe.lst (iL T)]++[Pe.lst (iL W)]) ⟨W,B,A,rfl,rfl,O,fun x v=>by simp⟩
    rw[nT,gf,D]at t;refine⟨_,_,_,rfl,au K (au (sl':=[Is nn,Rs k,Is p,Rs st.length,h,f,Rs (st.length+1),Is ((i+1:Nat):Int),Is (gI T i),G,F]) (st':=st++[Pe.lst (iL T)]++[Pe.lst (iL d)]) ?_ rfl),d,Is ((i+1:Nat):Int),Is (gI T i),G,F,rfl,rfl,E,fun x v=>?_⟩
    ·have r1':=r1 (st++[Pe.lst (iL T)]++[Pe.lst (iL W)])
     have Z:=r2 (st++[Pe.lst (iL T)]++[Pe.lst (iL W)]);simp only[d5,jo,gN,oe,eP,eZ,Ä,Nf,Ð,z9 h0,Bool.not_false,ite_true];refine au (sl':=[Is nn,Rs k,Is p,Rs st.length,h,f,Rs (st.length+1),Is ((i+1:Nat):Int),Is (gI T i),G,F]) (st':=st++[Pe.lst (iL T)]++[Pe.lst (iL d)]) ?_ rfl;rw[jC,M3];simp only[jd,cG,c6,gN,oe,eP,eZ,Ä,jT,jf,kA];rw[r1'];simp only[Ä];rw[Z];simp only[Ä,Ik,Ð];exact e
    ·rw[t x v,M x v]
     unfold wt;simp only[Pg];by_cases e:x<nr
     ·rw[yH e];lia
     ·rw[yG e]
      have:gI (HO (i+1)) x=0:=by unfold gI;rw[zD,Ù oM];rfl
      rw[this,yO];lia) (sl:=[Is nn,Rs k,Is p,Rs st.length,h,f,Rs (st.length+1),Á,Á,Á,Á]) (st:=st++[Pe.lst (iL T)]++[Pe.lst (iL ((T.drop w).take m))]) ⟨_,Á,Á,Á,Á,rfl,rfl,by simp[U.len],hW0⟩
 have rl:(eu 1 w).length=w:=by unfold eu;simp
 rw[rl]at M;refine⟨(.ref (st.length+1),st++[Pe.lst (iL T)]++[Pe.lst (iL W)]),?_,T,W,U,O,M,rfl,rfl⟩;refine ad (sl':=[Is nn,Rs k,Is p,Rs st.length,h,f,Rs (st.length+1),N,J,B,A]) (st':=st++[Pe.lst (iL T)]++[Pe.lst (iL W)]) ?_ (by simp);have Y:gD 1=Â:=by decide
 have X:gD ((w:Int)+1)=Â:=by
  unfold gD;refine yK ?_;rw[show((w:Int)+1).natAbs=w+1 by lia];exact yY ((č oM).mpr oM)
 rw[jC];have ei:fj KW (.r2 (.i 1) (.bin .Add (.ca Â 0 (.cons (.v 0) .nil)) (.i 1))) [Is nn,Rs k,Is p,Rs st.length,h,f,Rs (st.length+1),Á,Á,Á,Á] (st++[Pe.lst (iL T)]++[Pe.lst (iL ((T.drop w).take m))])=À (⟨eu 1 w,[]⟩,st++[Pe.lst (iL T)]++[Pe.lst (iL ((T.drop w).take m))]):=by
  have e2:((w:Int)+1-1).toNat=w:=by lia
  simp[-List.append_assoc,Df,HA,Y,X]
 rw[ei,Ä];exact e
end
section
variable{st:aa}{k a b c g n u w m p nr:Nat}{rows:List AV}{S:Sh}{nn:Int}{HO:Nat->List Int}{v:Nat->Nat->Int}
theorem TK.bd(a:TK S w m p T)(f:p<m)(Q:SX.Pm w m S.h S.s)(B:S.d.natAbs<2^8900/\∀i,i<m->∀j,j<w+1->(S.t i j).natAbs<2^8900)(q:Nat):(gI T q).natAbs<2^8900:=by
 by_cases e:q<w+m
 ·by_cases d:∃j,j<w/\S.h j=q
  ·obtain⟨j,b,rfl⟩:=d
   rw[a.hd j b]
   have:=B.2 p f j oM
   split
   ·exact this
   ·rw[Þ];exact this
  ·by_cases c:q=S.s p
   ·rw[c,a.sd]
    split
    ·rw[Þ];exact B.1
    ·exact B.1
   ·rw[a.no q e (fun j b z=>d ⟨j,b,z⟩) c];exact Ñ _
 ·have:gI T q=0:=by unfold gI;rw[zD,Ù (by rw[a.len];lia)];rfl
  rw[this];exact Ñ _
theorem CI(a:∀q,(gI T q).natAbs<2^8900)(H:HOk nn w nr HO)(b:w<=15)(x:Nat):(wt T HO w w x).natAbs<2^9000:=by
 unfold wt;have l:=SX.abs_sum (n:=w) (f:=fun y=>gI T y*gI (HO (y+1)) x) (M:=2^8900*15) fun i g=>by
  rw[yZ];refine ţ (yY (a i)) ?_;unfold gI;rw[zD];cases e:(HO (i+1))[x]? with
  |none=>simp
  |some z=>exact H.bd (i+1) oM oM z (zW e)
 have k:=a (w+x);have j:=T? (gI T (w+x)) (Pg w fun y=>gI T y*gI (HO (y+1)) x);have h:w*(2^8900*15)<=15*(2^8900*15):=ϑ _ b;have d:(2:Nat)^9000=2^8900*2^100:=by rw[<- Ŭ]
 have c:(2:Nat)^100=1267650600228229401496703205376:=by decide
 rw[d,c];generalize (2:Nat)^8900=B at *;lia
theorem Cc(R:Rep st k a b c g n u rows S)(I:MI w (m+1) v S)(E:Bnd w (m+1) v)(i:p<m+1)(J:S.tn.Nodup)(M:∀q∈S.tn,q<w+(m+1))(L:w<=15)(hm:m+1<=400)(F:∀st,pm ar [.int nn] st=À (.int w,st))(H:HOk nn w nr HO)(r:nr<=m) :
  ∃z,bQ [.int nn,.ref k,.int p] st=À z/\∃X T W,GX S w w (m+1) X/\TK S w (m+1) p T/\W.length=m/\(∀x,x<m->gI W x=wt T HO w w x)/\(∀x∈W++[S.d],x.natAbs<2^9000) /\
   z.1=.tup [.str "least",.tup [.int (gI (ak [- S.t p w,S.d]) 0),.int (gI (ak [- S.t p w,S.d]) 1)],.tup [.fz (iL ((ak (X++[S.d])).take w)),.int (gI (ak (X++[S.d])) w)],.int (gI (ak (W++[S.d])) m),.fz (iL ((ak (W++[S.d])).take m))]:=by
 have P:=I.shp;have B:=E.bd I;obtain⟨z,e1,T,W,D,o,C,f,e⟩:=CH R P I.pm i J M oM oM F H r;obtain⟨z1,z2⟩:=z;dsimp only at f e;subst f;subst e;have R2:=(R.app (ys:=[Pe.lst (iL T)])).app (ys:=[Pe.lst (iL W)]);have s:∀x∈W++[S.d],x.natAbs<2^9000:=fun x K=>by
  rcases zZ.mp K with h|h
  ·obtain⟨j,A⟩:=z8 h
   have N:=(zB.mp A).1;have V:gI W j=x:=by unfold gI;rw[zD,A];rfl
   rw[<- V,C j oM];exact CI (D.bd i I.pm (E.bd8 I)) H L j
  ·rw[zM.mp h];exact B.1
 have Z:=ul (l:=W++[S.d]) (st:=st++[Pe.lst (iL T)]++[Pe.lst (iL W)]) (by simp[o];lia) s;obtain⟨X,T',d,Y,rfl,O,R3⟩:=CQ R2 P I.pm B F oM oM;have U:=IH (a:=- S.t p w) (b:=S.d) (st:=st) (by rw[Þ];exact B.2 p i w oM) B.1;refine⟨(_,d),?_,X,T,W,O,D,o,C,s,rfl⟩;have t:(ak (W++[S.d])).length=m+1:=by rw[fC];simp[o]
 rw[bQ,aw];unfold gH;refine ad (sl':=[Is nn,Rs k,Is p,À (.tup [.int (gI (ak [- S.t p w,S.d]) 0),.int (gI (ak [- S.t p w,S.d]) 1)]),Á]) (st':=st) (by simp[R.ins,R.line P i,R.last P i,U]) ?_;refine ad (sl':=[Is nn,Rs k,Is p,À (.tup [.int (gI (ak [- S.t p w,S.d]) 0),.int (gI (ak [- S.t p w,S.d]) 1)]),Ls (ak (W++[S.d]))]) (st':=st++[Pe.lst (iL T)]++[Pe.lst (iL W)]) ?_ ?_
 ·have Q:(st++[Pe.lst (iL T)]++[Pe.lst (iL W)])[st.length+1]?=À (.lst (iL W)):=by
   have:(st++[Pe.lst (iL T)]).length=st.length+1:=by simp
   rw[<- this];exact gl
  have c:=lb (ks:=[dH,aQ,aj,bg]) (a:=.ca Ã 1 (.cons (.v 0) (.cons (.v 1) (.cons (.v 2) .nil)))) (b:=.nw Ã (.li (.cons (.fd "Sheet" "below" (.v 1)) .nil)))
   (sl:=[Is nn,Rs k,Is p,À (.tup [.int (gI (ak [- S.t p w,S.d]) 0),.int (gI (ak [- S.t p w,S.d]) 1)]),Á]) (st:=st) (s1:=st++[Pe.lst (iL T)]++[Pe.lst (iL W)]) (s2:=st++[Pe.lst (iL T)]++[Pe.lst (iL W)]) (x:=.ref (st.length+1)) (y:=.fz [AV.int S.d]) (l:=W) (l':=[S.d])
   (by simp only[jd,cG,c6,gN,eP,eZ,Ä,sZ,jf,kA];exact e1) (by simp[-List.append_assoc,cU,R2.ins]) (bG Q) rfl (by simp[o];lia)
  simp only[fU,jd,cG,c6,dE,c,Ä,bF,ite_true,jT,jf,kA,Z,Cl];rfl
 ·have G:aG d (.fz (iL (ak (W++[S.d])))) (.int (-1))=À (.int (gI (ak (W++[S.d])) m)):=by rw[cH dR,rC (n:=m) (by simp[t]),cx oM]
  simp[-List.append_assoc,Y,pO,pK,ve t,G]
end
open SX (Qt v0)
def val(w:Nat)(r:List Int)(Y:Nat->Int):Int:=Pg w fun x=>gI r x*Y x
structure Kp(w:Nat)(RR:List (List Int))(gv:List Gv)(Y:Nat->Int)(e:Int):Prop where
 rule:∀r∈RR,0<=val w r Y
 eq:∀z∈gv,z.eq=Â->val w z.row Y=z.num*e
 ge:∀z∈gv,z.eq=Ã->z.num*e<=val w z.row Y
structure TbS(w:Nat)(RR:List (List Int))(gv:List Gv)(X:List Int)(D:Int):Prop where
 len:X.length=w
 pos:0<D
 bd:(∀x∈X,x.natAbs<2^2500)/\D.natAbs<2^2500
 kp:Kp w RR gv (gI X) D
 lo1:gL (X++[D])=1
structure Ct(w:Nat)(RR:List (List Int))(gv:List Gv)(goal:List Int)(W:List Int)(K N:Int):Prop where
 len:W.length=RR.length+gv.length
 pos:∀x,x<RR.length->0<=gI W x
 ge:∀y z,gv[y]?=À z->z.eq=Ã->0<=gI W (RR.length+y)
 bd:∀x∈W,x.natAbs<2^9000
 kb:K.natAbs<2^9000
 id:∀Y e,(Pg (RR.length+gv.length) fun x=>gI W x*Qt w (v0 w (ag RR gv goal)) Y e (w+x))=K*val w goal Y-N*e
def yc(w:Nat)(RR:List (List Int))(gv:List Gv)(goal:List Int)(t:AV):Prop :=
 (∃W N,t=.tup [.str "never",.fz (iL W)]/\Ct w RR gv goal W 0 N/\0<N) \/
 (∃T d X D K N W,t=.tup [.str "least",.tup [.int (gI (ak [T,d]) 0),.int (gI (ak [T,d]) 1)],.tup [.fz (iL X),.int D],.int K,.fz (iL W)]/\0<d/\(T.natAbs<2^2500/\d.natAbs<2^2500)/\(TbS w RR gv X D/\val w goal (gI X)*d=T*D)/\Ct w RR gv goal W K N/\0<K/\T*K=N*d) \/
 ∃X D Z,t=.tup [.str "endless",.tup [.fz (iL X),.int D],.fz (iL Z)]/\TbS w RR gv X D/\(Z.length=w/\∀x∈Z,x.natAbs<2^2500)/\Kp w RR gv (gI Z) 0/\val w goal (gI Z)<0
section
variable{w:Nat}{RR:List (List Int)}{gv:List Gv}{goal:List Int}{Y Y':Nat->Int}{e e' g T d:Int}
theorem nj{r:List Int}(h:∀x,x<w->Y x=g*Y' x):val w r Y=g*val w r Y':=by
 unfold val;rw[<- SX.sum_mul];exact SX.sum_congr fun x a=>by rw[h x a];grind
theorem Kp.div(b:0<g)(he:e=g*e')(h:∀x,x<w->Y x=g*Y' x)(K:Kp w RR gv Y e):Kp w RR gv Y' e':=by
 refine⟨fun r c=>?_,fun z hz a=>?_,fun z hz a=>?_⟩
 ·have:=K.rule r c
  rw[nj h]at this;exact n! (by rw[yO];exact this) b
 ·have:=K.eq z hz a
  rw[nj h,he]at this;exact Ĵ oM (this.trans (by grind))
 ·have:=K.ge z hz a
  rw[nj h,he]at this;exact n! (ň (by rw[show g*(z.num*e')=z.num*(g*e') by grind];exact Ű _) this) b
theorem pT(l:List Int):∃g:Int,0<g/\∀i,gI l i=g*gI (ak l) i:=by
 by_cases h:gL l=0
 ·exact⟨1,by decide,fun i=>by unfold ak;rw[yH h,ů]⟩
 ·refine⟨(gL l:Int),by lia,fun i=>?_⟩
  unfold ak;rw[yG h];unfold gI;rw[zD,zD,zR];cases e:l[i]? with
  |none=>simp
  |some x =>
   have:=mQ x (zW e)
   exact(N? (ϓ.mp (ł.mpr this))).symm
theorem kR{l:List Int}{M:Nat}(b:0<M)(h:∀x∈l,x.natAbs<M)(i:Nat):(gI (ak l) i).natAbs<M:=by
 obtain⟨g,c,e⟩:=pT l;have a:=nO h b i;rw[e i,yZ]at a;exact yL (Nat.le_mul_of_pos_left _ oM) a
theorem g9{l:List Int}{P:Int->Prop}(h:∀i,i<l.length->P (gI l i)):∀x∈l,P x:=fun x b=>by
 obtain⟨i,a⟩:=z8 b
 have:=h i (zB.mp a).1
 unfold gI at this;rw[zD,a]at this;exact this
theorem nM{l:List Int}{w i:Nat}(h:i<w):gI (l.take w) i=gI l i:=by
 unfold gI;rw[zD,zD,ŭ h]
theorem AA{l l':List Int}{i:Nat}(h:i<l.length):gI (l++l') i=gI l i:=by
 unfold gI;rw[zD,zD,zN h]
theorem Az{l:List Int}{d:Int}:gI (l++[d]) l.length=d:=by
 unfold gI;rw[zD];simp
theorem IR{c:Nat}{l:List Int}(h:∀x∈l,c ∣ x.natAbs):c ∣ gL l:=by
 have e:∀(l:List Int)(g:Nat),c ∣ g->(∀x∈l,c ∣ x.natAbs)->c ∣ l.foldl (fun g x=>Û g x.natAbs) g:=fun l=>by
  induction l with
  |nil=>intro g a _;exact a
  |cons x l b=>intro g a h;exact b _ (Nat.dvd_gcd a (h x z7)) fun y d=>h y (zQ _ d)
 exact e l 0 (Nat.dvd_zero c) h
theorem Iy{l:List Int}(h:gL l≠0):gL (ak l)=1:=by
 have hd:gL (ak l)*gL l ∣ gL l:=IR fun x a=>by
  have c:x/(gL l:Int)∈ak l:=by unfold ak;rw[yG h];exact yC.mpr ⟨x,a,rfl⟩
  have b:=mQ _ c;have e:x=x/(gL l:Int)*(gL l:Int):=(Ş (ϓ.mp (ł.mpr (mQ x a)))).symm;have d:x.natAbs=(x/(gL l:Int)).natAbs*gL l:=by
   have:=congrArg Int.natAbs e
   rw[yZ,Ť]at this;exact this
  rw[d];exact Nat.mul_dvd_mul_right b _
 have:=X1 (R8 h) hd
 have f:gL (ak l)<=1:=Nat.le_of_mul_le_mul_right (by rw[ϐ];exact this) (R8 h);have g:gL (ak l)≠0:=fun z=>by rw[z,Nat.zero_mul]at hd;exact h (q? hd)
 lia
theorem yt{l:List Int}(h:l.length=w+1):l.take w++[gI l w]=l:=by
 have e:gI l w=l[w]:=by unfold gI;rw[zD,zF oM];rfl
 rw[e,List.take_append_getElem,Ń oM]
theorem TbS.low{X:List Int}(a:X.length=w)(hd:0<d)(i:(∀x∈X,x.natAbs<2^9000)/\d.natAbs<2^9000)(K:Kp w RR gv (gI X) d):∃g,0<g/\d=g*gI (ak (X++[d])) w/\(∀r,val w r (gI X)=g*val w r (gI ((ak (X++[d])).take w))) /\
  ((ak (X++[d])).take w).length=w/\0<gI (ak (X++[d])) w/\Kp w RR gv (gI ((ak (X++[d])).take w)) (gI (ak (X++[d])) w)/\gL ((ak (X++[d])).take w++[gI (ak (X++[d])) w])=1:=by
 obtain⟨g,b,e⟩:=pT (X++[d]);have c:d=g*gI (ak (X++[d])) w:=by
  have:=e w
  rw[<- a,Az]at this;rw[<- a];exact this
 have ex:∀x,x<w->gI X x=g*gI ((ak (X++[d])).take w) x:=fun x f=>by
  rw[nM f,<- e x,AA oM]
 refine⟨g,b,c,fun r=>nj ex,?_,?_,K.div b c ex,?_⟩
 ·rw[ŷ,fC,zV,a];simp
 ·rcases T0 0 (gI (ak (X++[d])) w) with h|h|h
  ·exact h
  ·rw[<- h]at c;lia
  ·have:=ũ b h;lia
 ·rw[yt (by rw[fC,zV,a];rfl)]
  refine Iy fun z=>?_
  have:=mQ d (zK X (zM.mpr rfl))
  rw[z]at this
  have:=q? this
  lia
theorem TbS.of{X:List Int}(m:X.length=w)(hd:0<d)(a:(∀x∈X,x.natAbs<2^2500)/\d.natAbs<2^2500)(K:Kp w RR gv (gI X) d)(j:val w goal (gI X)=T):TbS w RR gv ((ak (X++[d])).take w) (gI (ak (X++[d])) w)/\val w goal (gI ((ak (X++[d])).take w))*d=T*gI (ak (X++[d])) w:=by
 have big:(2:Nat)^2500<=2^9000:=Č dC dC;obtain⟨g,q,n,ev,f,k,o,e⟩:=TbS.low m hd ⟨fun x b=>zJ (a.1 x b) big,zJ a.2 big⟩ K;have c:=kR (l:=X++[d]) (Ñ 2500) fun x b=>by
  rcases zZ.mp b with h|h
  ·exact a.1 x h
  ·rw[zM.mp h];exact a.2
 refine⟨⟨f,k,⟨g9 fun i p=>?_,c w⟩,o,e⟩,?_⟩
 ·rw[nM oM];exact c i
 ·rw[<- j,ev goal]
  generalize gI (ak (X++[d])) w=D at *;rw[n];grind
end
structure AI(w nr:Nat)(gv:List Gv)(L:List (List Int))(i:Nat)(S:Sh):Prop where
 mi:MI w (nr+gv.length+1) (v0 w L) S
 un:∀x,nr+i<=x->x<nr+gv.length+1->S.s x=w+x
 g1:∀q∈S.gd,q<w+nr\/∃y z,y<i/\gv[y]?=À z/\z.eq=Ã/\q=w+nr+y
 g2:∀q,q<w+nr->q∈S.gd
 g3:∀y z,y<i->gv[y]?=À z->z.eq=Ã->w+nr+y∈S.gd
 n1:∀q∈S.nl,∃y z,y<i/\gv[y]?=À z/\z.eq=Â/\q=w+nr+y
 n2:∀y z,y<i->gv[y]?=À z->z.eq=Â->w+nr+y∈S.nl
 t1:∀q∈S.tn,q∈S.nl
 tn:S.tn.Nodup
 lg:S.gd.length<=w+nr+i
 ln:S.nl.length<=i
 lt:S.tn.length<=i
section
variable{w nr i:Nat}{RR:List (List Int)}{gv:List Gv}{goal:List Int}{S:Sh}{Y:Nat->Int}{e:Int}
theorem uU{c:Int}{x:Nat}(h:r.length=w):gI (r++[c]) x=if x<w then gI r x else if x=w then c else 0:=by
 unfold gI;simp only[zD];by_cases b:x<w
 ·rw[yH b,zN oM]
 ·rw[yG b,z6 oM]
  by_cases a:x=w
  ·rw[yH a,h,a];simp
  ·rw[yG a,Ù (by simp;lia)];rfl
theorem dZ{c:Int}{j:Nat}(f:L[j]?=À (r++[c]))(b:r.length=w):Qt w (v0 w L) Y e (w+j)=val w r Y+c*e:=by
 have a:∀x,v0 w L (w+j) x=gI (r++[c]) x:=fun x=>by
  unfold v0;rw[yG oM,show w+j-w=j by lia,zD,f];rfl
 unfold Qt val;rw[a,uU b,yG oM,yH rfl];congr 1;exact SX.sum_congr fun x d=>by rw[a,uU b,yH d]
theorem AX{q:Nat}(b:q<w):Qt w (v0 w L) Y e q=Y q:=by
 have a:∀x,v0 w L q x=if x=q then 1 else 0:=fun x=>by unfold v0;rw[yH b]
 unfold Qt;rw[SX.sum_one b fun x _ ne=>by rw[a,yG ne,yP],a,yH rfl,a,yG oM];lia
theorem mZ(a:i<RR.length):(ag RR gv goal)[i]?=À (RR[i]++[0]):=by
 unfold ag;rw[yM,zN (by simpa using a)];simp[a]
theorem lm(hz:gv[i]?=À z):(ag RR gv goal)[RR.length+i]?=À (z.row++[- z.num]):=by
 have a:=(zB.mp hz).1;unfold ag;rw[yM,z6 (by simp),zN (by simp;exact a)];simp[hz]
theorem A2:(ag RR gv goal)[RR.length+gv.length]?=À (goal.map (fun x=>- x)++[0]):=by
 unfold ag;rw[z6 (by simp)];simp
theorem xZ:(ag RR gv goal).length=RR.length+gv.length+1:=by simp[ag];lia
theorem qF:val w (goal.map fun x=>- x) Y=- val w goal Y:=by
 unfold val;have:∀x,gI (goal.map fun x=>- x) x=- gI goal x:=fun x=>by
  unfold gI;rw[zD,zD,zR];cases goal[x]?<;>rfl
 rw[SX.sum_congr (g:=fun x=>(-1)*(gI goal x*Y x)) fun x _=>by rw[this];grind,SX.sum_mul];lia
structure Sz(w:Nat)(RR:List (List Int))(gv:List Gv)(goal:List Int):Prop where
 r:∀l∈RR,l.length=w
 g:∀z∈gv,z.row.length=w
 o:goal.length=w
 hg:∀Y:Nat->Int,(∀r∈RR,0<=val w r Y)->∀x,x<w->0<=Y x
theorem AI.of(Z:Sz w RR gv goal)(A:AI w RR.length gv (ag RR gv goal) i S)(F:Kp w RR gv Y e):(∀q∈S.gd,0<=Qt w (v0 w (ag RR gv goal)) Y e q)/\∀q∈S.nl,Qt w (v0 w (ag RR gv goal)) Y e q=0:=by
 refine⟨fun q c=>?_,fun q c=>?_⟩
 ·rcases A.g1 q c with h|⟨y,z,j,b,f,rfl⟩
  ·by_cases g:q<w
   ·rw[AX g];exact Z.hg Y F.rule q g
   ·have d:q-w<RR.length:=by lia
    have:=dZ (Y:=Y) (e:=e) (mZ (gv:=gv) (goal:=goal) d) (Z.r _ (Ø d))
    rw[show w+(q-w)=q by lia]at this;rw[this,yP,î];exact F.rule _ (Ø d)
  ·have a:=zW b
   rw[ŵ,dZ (lm b) (Z.g z a)]
   have:=F.ge z a f
   have k:- z.num*e=- (z.num*e):=by grind
   lia
 ·obtain⟨y,z,j,b,f,rfl⟩:=A.n1 q c
  have a:=zW b;rw[ŵ,dZ (lm b) (Z.g z a)]
  have:=F.eq z a f
  have k:- z.num*e=- (z.num*e):=by grind
  lia
theorem AI.to(Z:Sz w RR gv goal)(A:AI w RR.length gv (ag RR gv goal) gv.length S)(f:∀q∈S.gd,0<=Qt w (v0 w (ag RR gv goal)) Y e q)(h:∀q∈S.nl,Qt w (v0 w (ag RR gv goal)) Y e q=0):Kp w RR gv Y e:=by
 refine⟨fun r g=>?_,fun z hz c=>?_,fun z hz c=>?_⟩
 ·obtain⟨i,d⟩:=z8 g
  have b:=(zB.mp d).1;have j:RR[i]=r:=(zB.mp d).2
  have:=f (w+i) (A.g2 _ oM)
  rw[dZ (mZ b) (Z.r _ (Ø b)),yP,î,j]at this;exact this
 ·obtain⟨y,a⟩:=z8 hz
  have b:=(zB.mp a).1
  have:=h _ (A.n2 y z b a c)
  rw[ŵ,dZ (lm a) (Z.g z hz)]at this;have k:- z.num*e=- (z.num*e):=by grind
  lia
 ·obtain⟨y,a⟩:=z8 hz
  have b:=(zB.mp a).1
  have:=f _ (A.g3 y z b a c)
  rw[ŵ,dZ (lm a) (Z.g z hz)]at this;have k:- z.num*e=- (z.num*e):=by grind
  lia
theorem DO:∀q,q<w->∀x,x<w+1->v0 w L q x=if x=q then 1 else 0:=fun q a x _=>by unfold v0;rw[yH a]
theorem AI.vert(Z:Sz w RR gv goal)(A:AI w RR.length gv (ag RR gv goal) gv.length S){c:Nat}(J:c<w+1)(g:c<w->S.h c∉S.nl){X:Nat->Int}(r:∀i,i<RR.length+gv.length+1->S.s i<w->X (S.s i)=S.t i c)(b:∀j,j<w->S.h j<w->X (S.h j)=if j=c then S.d else 0)
  (e:∀i,i<RR.length+gv.length+1->S.s i∈S.gd->0<=S.t i c):Kp w RR gv X (if c=w then S.d else 0)/\val w goal X=- S.t (RR.length+gv.length) c:=by
 have I:=A.mi;have C:∀q∈S.tn,w<=q:=fun q a=>by obtain⟨y,z,_,_,_,rfl⟩:=A.n1 q (A.t1 q a);lia
 obtain⟨m,p⟩:=I.vert DO C J r b;have l:∀q∈S.gd,q∉S.tn:=fun q H F=>by
  obtain⟨y,z,x,v,u,t⟩:=A.n1 q (A.t1 q F);rcases A.g1 q H with h|⟨B,s,r,b,k,K⟩
  ·lia
  ·have:y=B:=by lia
   subst this;rw[v]at b;cases b;rw[u]at k;cases k
 have hd:=I.lin.pos;refine⟨A.to Z (fun q a=>?_) (fun q a=>?_),?_⟩
 ·have d:q<w+(RR.length+gv.length+1):=by
   rcases A.g1 q a with h|⟨y,z,_,b,_,rfl⟩
   ·lia
   ·have:=(zB.mp b).1;lia
  rcases I.pm.cov q d with⟨i,f,rfl⟩|⟨j,o,rfl⟩
  ·rw[m i f,yG (l _ a)];exact e i f a
  ·rw[p j o,yG (l _ a)];split<;>lia
 ·have d:q<w+(RR.length+gv.length+1):=by
   obtain⟨y,z,_,b,_,rfl⟩:=A.n1 q a
   have:=(zB.mp b).1;lia
  rcases I.pm.cov q d with⟨i,f,rfl⟩|⟨j,o,rfl⟩
  ·obtain⟨E,D⟩:=I.fea.n i f a
   have:S.t i c=0:=by
    by_cases h:c=w
    ·rw[h];exact E
    ·exact D c oM (g oM)
   rw[m i f,this];split<;>rfl
  ·rw[p j o,yG fun z=>g oM (by rw[<- z];exact a)]
 ·have G:=A.un (RR.length+gv.length) oM oM
  have k:=m (RR.length+gv.length) oM;rw[G]at k;have n:w+(RR.length+gv.length)∉S.tn:=fun z=>by
   obtain⟨y,s,x,_,_,t⟩:=A.n1 _ (A.t1 _ z);lia
  rw[yG n,dZ A2 (by rw[zH];exact Z.o),qF,yP,î]at k;lia
theorem _root_.SX.pos_of{d x:Int}(hd:0<d)(h:0<d*x):0<x:=by
 rcases yU 0 x with a|a
 ·exact a
 ·have:=ľ (ď hd) a;lia
theorem Ea{M:Nat}{g:Nat->Nat}:∀{n:Nat}{F:Nat->Int},(∀j,j<n->g j<M)->(∀j k,j<n->k<n->g j=g k->j=k)->(∀q,q<M->(∀j,j<n->g j≠q)->F q=0)->Pg M F=Pg n fun j=>F (g j):=by
 intro n
 induction n with
 |zero=>intro F _ _ h;exact SX.sum_zero fun q b=>h q b fun j a=>absurd a (Nat.not_lt_zero j)
 |succ n f =>
  intro F c d h;rw[SX.sum_congr (g:=fun q=>(if q=g n then 0 else F q)+if q=g n then F q else 0) fun q _=>by split<;>lia,SX.sum_add,SX.sum_one (k:=g n) (c n oM) fun i _ h=>yG h,yH rfl,f (F:=fun q=>if q=g n then 0 else F q) (fun j a=>c j oM) (fun j k a o=>d j k oM oM) fun q b l=>by
   by_cases e:q=g n
   ·rw[yH e]
   ·rw[yG e]
    refine h q b fun j a z=>?_
    by_cases m:j=n
    ·subst m;exact e z.symm
    ·exact l j oM z]
  show _=Pg n _+F (g n);congr 1;exact SX.sum_congr fun j a=>yG fun z=>by have:=d j n oM oM z;lia
theorem jR{a:Nat}{f:Nat->Int}:∀b,Pg (a+b) f=Pg a f+Pg b fun x=>f (a+x)
 |0=>by show _=_+(0:Int);rw[î];rfl
 |b+1=>by show Pg (a+b) f+_=_+(Pg b _+_);rw[jR b,Int.add_assoc];rfl
theorem TK.sum{v:Nat->Nat->Int}{m p:Nat}{T:List Int}(c:TK S w m p T)(I:MI w m v S)(b:p<m):(Pg (w+m) fun q=>gI T q*Qt w v Y e q)=S.t p w*e:=by
 have Q:=I.pm;rw[Ea (n:=w+1) (g:=fun j=>if j<w then S.h j else S.s p) (fun j _=>by
  split
  ·exact Q.hl j (by assumption)
  ·exact Q.sl p b) (fun j k a i z=>by
  split at z<;>split at z
  ·exact Q.hi j k (by assumption) (by assumption) z
  ·exact absurd z (Q.hs j p (by assumption) b)
  ·exact absurd z.symm (Q.hs k p (by assumption) b)
  ·lia) fun q f d=>by
   rw[c.no q f (fun j a z=>d j oM (by rw[yH a];exact z)) fun z=>d w oM (by rw[yG (xA w)];exact z.symm),yP]]
 show(Pg w fun j=>gI T (if j<w then S.h j else S.s p)*Qt w v Y e (if j<w then S.h j else S.s p))+gI T (if w<w then S.h w else S.s p)*Qt w v Y e (if w<w then S.h w else S.s p)=_;rw[yG (xA w),SX.sum_congr (g:=fun j=>(-1)*(S.t p j*Qt w (SX.vt v S.tn) Y e (S.h j))) fun j a=>by
  rw[yH a,c.hd j a,SX.Qt_vt];split<;>grind,SX.sum_mul,c.sd]
 have l:=I.line b Y e;rw[SX.Qt_vt]at l;split at l<;>rename_i h
 ·rw[yH h];grind
 ·rw[yG h];grind
theorem TK.nn{m p:Nat}{T:List Int}(b:TK S w m p T)(hd:0<S.d)(e:∀j,j<w->S.h j∉S.nl->¬0<S.t p j){q:Nat}(f:q<w+m)(g:q∉S.nl)(d:q∉S.tn):0<=gI T q:=by
 by_cases h:∃j,j<w/\S.h j=q
 ·obtain⟨j,a,rfl⟩:=h
  have:=e j a g
  rw[b.hd j a,yG d];lia
 ·by_cases c:q=S.s p
  ·rw[c,b.sd,yG (c▸d)];lia
  ·rw[b.no q f (fun j a z=>h ⟨j,a,z⟩) c];exact Ű 0
structure Hx(w:Nat)(RR:List (List Int))(HO:Nat->List Int)(gv:List Gv)(goal:List Int):Prop where
 nn:∀y x,y<w->0<=gI (HO (y+1)) x
 id:∀(Y:Nat->Int) e y,y<w->(Pg (RR.length+gv.length) fun x=>gI (HO (y+1)) x*Qt w (v0 w (ag RR gv goal)) Y e (w+x))=Y y
 len:∀y,y<w->(HO (y+1)).length=RR.length
theorem FN{HO:Nat->List Int}{T:List Int}(X:Hx w RR HO gv goal):(Pg (RR.length+gv.length) fun x=>wt T HO w w x*Qt w (v0 w (ag RR gv goal)) Y e (w+x))+gI T (w+(RR.length+gv.length))*Qt w (v0 w (ag RR gv goal)) Y e (w+(RR.length+gv.length)) =
  Pg (w+(RR.length+gv.length+1)) fun q=>gI T q*Qt w (v0 w (ag RR gv goal)) Y e q:=by
 rw[jR (a:=w)];show _=_+(Pg (RR.length+gv.length) _+_);rw[SX.sum_congr (g:=fun x=>gI T (w+x)*Qt w (v0 w (ag RR gv goal)) Y e (w+x)+Pg w fun y=>gI T y*(gI (HO (y+1)) x*Qt w (v0 w (ag RR gv goal)) Y e (w+x))) fun x _=>by
  unfold wt;rw[Z4];congr 1;rw[Ţ,<- SX.sum_mul];exact SX.sum_congr fun y _=>by grind,SX.sum_add,SX.sum_swap,SX.sum_congr (n:=w) (g:=fun q=>gI T q*Qt w (v0 w (ag RR gv goal)) Y e q) fun y b=>by
  rw[SX.sum_mul,X.id Y e y b,AX b]]
 dsimp only;lia
theorem Jq{HO:Nat->List Int}{T:List Int}{m p:Nat}(X:Hx w RR HO gv goal)(e:TK S w m p T)(hd:0<S.d)(c:∀j,j<w->S.h j∉S.nl->¬0<S.t p j)(d:∀q,q<w->q∉S.nl/\q∉S.tn){x:Nat}(g:w+x<w+m)(i:w+x∉S.nl)(h:w+x∉S.tn):0<=wt T HO w w x:=by
 have a:=e.nn hd c g i h;have b:∀k,k<=w->0<=Pg k fun y=>gI T y*gI (HO (y+1)) x:=fun k=>by
  induction k with
  |zero=>intro _;exact Ű 0
  |succ k f =>
   intro l
   have:=f oM
   have:=è (e.nn hd c (q:=k) oM (d k oM).1 (d k oM).2) (X.nn k x oM)
   exact Int.add_nonneg (by assumption) this
 have:=b w (zP w)
 unfold wt;lia
theorem Dp{HO:Nat->List Int}{T n W:List Int}{p:Nat}{g K:Int}(X:Hx w RR HO gv goal)(v:goal.length=w)(I:MI w (RR.length+gv.length+1) (v0 w (ag RR gv goal)) S)(u:p<RR.length+gv.length+1)(l:TK S w (RR.length+gv.length+1) p T)(k:∀x,x<RR.length+gv.length->gI n x=wt T HO w w x)
  (t:∀j,j<w->S.h j∉S.nl->¬0<S.t p j) (f:∀q,q<w+RR.length->q∉S.nl/\q∉S.tn) (hz:∀y z,gv[y]?=À z->z.eq=Ã->w+RR.length+y∉S.nl/\w+RR.length+y∉S.tn)
  (C:0<g) (A:W.length=RR.length+gv.length) (e:∀x,x<RR.length+gv.length->gI n x=g*gI W x) (E:gI T (w+(RR.length+gv.length))=g*K) (D:∀x∈W,x.natAbs<2^9000) (B:K.natAbs<2^9000):∃N,- S.t p w=g*N/\Ct w RR gv goal W K N:=by
 have c:∀Y e,g*(Pg (RR.length+gv.length) fun x=>gI W x*Qt w (v0 w (ag RR gv goal)) Y e (w+x))=g*(K*val w goal Y)+S.t p w*e:=fun Y m=>by
  have h:=FN (T:=T) (Y:=Y) (e:=m) X;rw[l.sum I u,E,dZ A2 (by rw[zH];exact v),qF,yP,î,SX.sum_congr (g:=fun x=>g*(gI W x*Qt w (v0 w (ag RR gv goal)) Y m (w+x))) fun x b=>by rw[<- k x b,e x b];grind,SX.sum_mul]at h;rw[<- h];grind
 obtain⟨s,r⟩:∃s,s=Pg (RR.length+gv.length) fun x=>gI W x*Qt w (v0 w (ag RR gv goal)) (fun _=>0) 1 (w+x):=⟨_,rfl⟩
 have o:=c (fun _=>0) 1;rw[<- r,show val w goal (fun _=>0)=0 from SX.sum_zero fun _ _=>yO _]at o;have sg:∀x,x<RR.length+gv.length->w+x∉S.nl->w+x∉S.tn->0<=gI W x:=fun x b d i=>by
  have:=Jq X l I.lin.pos t (fun q G=>f q oM) (x:=x) oM d i
  rw[<- k x b,e x b]at this;exact SX.nn_of C this
 refine⟨- s,by rw[Int.mul_neg];lia,A,fun x b=>sg x oM (f _ oM).1 (f _ oM).2,fun y z d i=>?_,D,B,fun Y e=>Ĵ (a:=g) oM ?_⟩
 ·have F:=(zB.mp d).1
  have:=hz y z d i
  rw[ŵ]at this;exact sg _ oM this.1 this.2
 ·rw[c,show S.t p w=g*s by lia];grind
end
section
variable{w:Nat}{RR:List (List Int)}{gv:List Gv}{goal:List Int}{nn:Int}{HO:Nat->List Int}
theorem Fv{n0:Nat}{i:Nat}(h:(fP n0 xs)[i]?=À y):∃x,xs[i]?=À x/\y=.tup [.int ((n0+i:Nat):Int),x]:=by
 unfold fP at h;rw[zR]at h;obtain⟨z,a,rfl⟩:=zE.mp h;rw[ύ]at a;obtain⟨x,b,rfl⟩:=zE.mp a;exact⟨x,b,rfl⟩
theorem K5:aY .Eq s (.str "=") (.str "=")=À Â:=by kernel_rfl
theorem KD:aY .Eq s (.str ">") (.str "=")=À Ã:=by kernel_rfl
structure Qu(nn:Int)(w:Nat)(RR:List (List Int))(HO:Nat->List Int)(gv:List Gv)(goal:List Int):Prop where
 HR:∀st,pm aS [.int nn] st=À (.fz (ao RR),st)
 HA:∀st,pm ar [.int nn] st=À (.int w,st)
 H:HOk nn w RR.length HO
 Z:Sz w RR gv goal
 hw:w<=15
 hR:RR.length<=100
 hg:gv.length<=100
 B:Bnd w (RR.length+gv.length+1) (v0 w (ag RR gv goal))
 X:Hx w RR HO gv goal
theorem v7(q:Qu nn w RR HO gv goal){k a b c g n u p:Nat}(R:Rep st k a b c g n u rows S)(I:MI w (RR.length+gv.length+1) (v0 w (ag RR gv goal)) S)(h:p<RR.length+gv.length+1)(t:S.tn.Nodup)(v:∀x∈S.tn,x<w+(RR.length+gv.length+1))(low:S.t p w<0)
  (B:∀j,j<w->S.h j∉S.nl->¬0<S.t p j) (D:∀q,q<w+RR.length->q∉S.nl/\q∉S.tn) (hz:∀y z,gv[y]?=À z->z.eq=Ã->w+RR.length+y∉S.nl/\w+RR.length+y∉S.tn) (F:∀j,j<w->S.h j≠w+(RR.length+gv.length)) (A:w+(RR.length+gv.length)≠S.s p) :
  ∃st1 W N st2,aQ [.int nn,.ref k,.int p] st=À (.ref (st.length+1),st1)/\pm aj [.ref (st.length+1)] st1=À (.fz (iL W),st2)/\Ct w RR gv goal W 0 N/\0<N:=by
 obtain⟨z,M,T,W,m,E,r,e,d⟩:=CH R I.shp I.pm h t v (by have:=q.hw;lia) (by have:=q.hg;have:=q.hR;lia) q.HA q.H oM;obtain⟨P,O⟩:=z;dsimp only at e d;subst e;subst d;have H:(st++[Pe.lst (iL T)]++[Pe.lst (iL W)])[st.length+1]?=À (.lst (iL W)):=by
  have:(st++[Pe.lst (iL T)]).length=st.length+1:=by simp
  rw[<- this];exact gl
 have o:∀x∈W,x.natAbs<2^9000:=g9 fun j Q=>by
  rw[r j oM];exact CI (m.bd h I.pm (q.B.bd8 I)) q.H q.hw j
 obtain⟨st2,L,_⟩:=mz (fn:=aj) (rest:=[]) (st:=st++[Pe.lst (iL T)]++[Pe.lst (iL W)]) (x:=.ref (st.length+1)) (l:=W) (.inr ⟨_,rfl,.inl H⟩) rfl rfl (fun s=>rfl) (tm (by have:=q.hg;have:=q.hR;lia) o) rfl (by simp[flat]);obtain⟨U,f,J⟩:=pT W;obtain⟨N,G,C⟩:=Dp q.X q.Z.o I h m r B D hz f (W:=ak W) (K:=0) (by rw[fC,E]) (fun x _=>J x) (by rw[m.no _ oM F A,yO]) (g9 fun i _=>kR (Ñ _) o i) (Ñ _);exact⟨_,_,N,st2,M,L,C,SX.pos_of f (by rw[<- G];lia)⟩
theorem CB(q:Qu nn w RR HO gv goal):∃z,iN [.int nn,.fz (gv.map Gv.av),.fz (iL goal)] []=À z/\∃t,dN z.2 z.1=À t/\yc w RR gv goal t:=by
 have Z:=q.Z;obtain⟨m,hm⟩:∃m,m=RR.length+gv.length:=⟨_,rfl⟩;have hLl:(ag RR gv goal).length=m+1:=by rw[xZ,hm]
 obtain⟨L,hL⟩:∃L,L=ag RR gv goal:=⟨_,rfl⟩;obtain⟨O,e1,R1⟩:=Hv (gv:=gv) (goal:=goal) q.HR q.HA q.hw q.hR Z.r q.hg Z.g Z.o;have A0:AI w RR.length gv (ag RR gv goal) 0 (SX.openS w (ag RR gv goal) (w+RR.length)):=by
  have hLen:∀l∈ag RR gv goal,l.length=w+1:=fun l hl=>by
   unfold ag at hl;simp only[zZ,yC,zM]at hl;rcases hl with(⟨r,hr,rfl⟩|⟨z,hz,rfl⟩)|rfl
   ·simp[Z.r r hr]
   ·simp[Z.g z hz]
   ·simp[Z.o]
  have hI:=SX.open_MI (w:=w) (nr:=RR.length) (L:=ag RR gv goal) hLen fun i u=>by
   rw[zD,mZ u];show gI (RR[i]++[0]) w=0;rw[uU (Z.r _ (Ø u)),yG oM,yH rfl]
  rw[xZ]at hI;refine⟨hI,fun x _ b=>SX.open_s (by rw[xZ];exact b),fun x b=>.inl (Ó.mp b),fun x b=>Ó.mpr b,fun y z h=>by lia,fun x b=>?_,fun y z h=>by lia,fun x b=>?_,U4,by simp[SX.openS],zP 0,zP 0⟩
  ·exact absurd (show x ∈ ([]:List Nat) from b) (by simp)
  ·exact absurd (show x ∈ ([]:List Nat) from b) (by simp)
 have sm:=q.hg;have sm2:=q.hR;have sm3:=q.hw;rw[iN];simp only[aw];unfold ph;refine ai (sl':=[Is nn,Zs (gv.map Gv.av),Ls goal,Rs 1,Á,Á,Á,Á,Á]) (st':=O) (by simp[e1]) ?_;have l2:cw O (.ref 2)=À (ao (ag RR gv goal)):=bG R1.ha;refine ai (sl':=[Is nn,Zs (gv.map Gv.av),Ls goal,Rs 1,Is (m:Int),Á,Á,Á,Á]) (st':=O) (by simp[R1.ins,aZ,cO,l2,hLl]) ?_
 have loop:=nQ (gd:=[]) (g:=cM [cq,c4,b8,aQ,aj,bR,bQ,bg,cZ] (.tu 2 (.cons (.nm 5) (.cons (.nm 6) .nil))))
  (s:=af [cq,c4,b8,aQ,aj,bR,bQ,bg,cZ] (.cons (.as (.ife (.cmp .Eq (.ix (.v 6) (.i 1)) (.s "=")) (.ca Ã 1 (.cons (.v 3) (.cons (.v 5) .nil))) (.ca Ã 2 (.cons (.v 3) (.cons (.v 5) .nil)))) (.nm 7))
   (.cons (.iff (.no (.va (.v 7))) (.cons (.rt (.tu (.cons (.s "never") (.cons (.ca Â 4 (.cons (.ca Ã 3 (.cons (.v 0) (.cons (.v 3) (.cons (.v 5) .nil)))) .nil)) .nil)))) .nil) .nil) .nil)))
  (I:=fun i sl s=>∃a rows S x5 x6 x7,sl=[Is nn,Zs (gv.map Gv.av),Ls goal,Rs 1,Is (m:Int),x5,x6,x7,Á]/\Rep s 1 a 3 4 5 6 7 rows S/\AI w RR.length gv (ag RR gv goal) i S)
  (Post:=fun v s=>∃t,dN s v=À t/\yc w RR gv goal t) (xs:=fP RR.length (gv.map Gv.av)) (fun _ _ _ _ _=>rfl)
  (fun i y sl s D hI=>by
   obtain⟨a,rows,S,x5,x6,x7,rfl,R,A⟩:=hI;obtain⟨x,b,rfl⟩:=Fv D;rw[zR]at b;obtain⟨z,hz,rfl⟩:=zE.mp b;have hzm:=zW hz;have u:=(zB.mp hz).1;have hp:RR.length+i<RR.length+gv.length+1:=by lia
   have I:=A.mi;have sp:S.s (RR.length+i)=w+RR.length+i:=by rw[A.un _ (zP _) hp];lia
   have ng:S.s (RR.length+i)∉S.gd:=fun h=>by
    rcases A.g1 _ h with h|⟨y,_,h,_,_,d⟩<;>lia
   have nn':S.s (RR.length+i)∉S.nl:=fun h=>by obtain⟨y,_,h,_,_,d⟩:=A.n1 _ h;lia
   have nt:S.s (RR.length+i)∉S.tn:=fun h=>nn' (A.t1 _ h)
   have unk:∀T:Sh,Kj (RR.length+gv.length+1) (RR.length+i) S T->∀x,RR.length+(i+1)<=x->x<RR.length+gv.length+1->T.s x=w+x:=fun T K x k d=>by
    have e:=A.un x oM d;rw[K.si x d oM (by rw[e];intro h;rcases A.g1 _ h with h|⟨y,_,h,_,_,d⟩<;>lia),e]
   have lst:∀x∈S.nl,x<w+(RR.length+gv.length+1):=fun x b=>by
    obtain⟨y,_,h,_,_,d⟩:=A.n1 _ b;lia
   have nev:∀T:Sh,MI w (RR.length+gv.length+1) (v0 w (ag RR gv goal)) T->Kj (RR.length+gv.length+1) (RR.length+i) S T->T.nl=S.nl->(∀x∈T.tn,x∈T.nl\/x=T.s (RR.length+i))->T.s (RR.length+i)=S.s (RR.length+i)->(z.eq=Ã->T.s (RR.length+i)∉T.tn) ->
     (∀q,q<w+RR.length->q∉T.nl/\q∉T.tn)/\(∀y z,gv[y]?=À z->z.eq=Ã->w+RR.length+y∉T.nl/\w+RR.length+y∉T.tn)/\(∀j,j<w->T.h j≠w+(RR.length+gv.length))/\w+(RR.length+gv.length)≠T.s (RR.length+i):=fun T I' K E tq Q hzt=>by
    have n1:∀x∈T.nl,∃y z,gv[y]?=À z/\z.eq=Â/\x=w+RR.length+y:=fun x b=>by
     rw[E]at b;obtain⟨y,n,_,h⟩:=A.n1 x b;exact⟨y,n,h⟩
    have nl:∀y n,gv[y]?=À n->n.eq=Ã->w+RR.length+y∉T.nl:=fun y n k d h=>by
     obtain⟨y',z2,Y,h4,h5⟩:=n1 _ h;have:y=y':=by lia
     subst this;rw[k]at Y;cases Y;rw[d]at h4;cases h4
    refine⟨fun q hq=>?_,fun y n k d=>⟨nl y n k d,fun h=>?_⟩,fun j hj e=>I'.pm.hs j (RR.length+gv.length) hj oM (e.trans (unk T K _ oM oM).symm),by rw[Q,sp];lia⟩
    ·have h:q∉T.nl:=fun h=>by obtain⟨y,_,_,_,h⟩:=n1 q h;lia
     exact⟨h,fun z=>(tq q z).elim h fun e=>by rw[e,Q,sp]at hq;lia⟩
    ·rcases tq _ h with Y|Y
     ·exact nl y n k d Y
     ·rw[Q,sp]at Y
      have:y=i:=by lia
      subst this;rw[hz]at k;cases k;exact hzt d (by rw[Q,sp];exact h)
   refine g_ fun G bk=>?_
   cases H:z.eq with
   |true =>
    refine Kr q.B R I hp ng nn' nt (by have:=A.ln;lia) (by have:=A.lt;lia) fun T s2 a2 F bb e2 R2 K M I2 hb=>?_
    have tnd:T.tn.Nodup:=by
     rcases K.tn with h|h
     ·rw[h];exact A.tn
     ·rw[h]
      rw[ϧ];exact⟨A.tn,by simp,fun x b y D e=>nt (by rw[<- zM.mp D,<- e];exact b)⟩
    have es:cV [cq,c4,b8,aQ,aj,bR,bQ,bg,cZ] (.as (.ife (.cmp .Eq (.ix (.v 6) (.i 1)) (.s "=")) (.ca Ã 1 (.cons (.v 3) (.cons (.v 5) .nil))) (.ca Ã 2 (.cons (.v 3) (.cons (.v 5) .nil)))) (.nm 7)) [Is nn,Zs (gv.map Gv.av),Ls goal,Rs 1,Is (m:Int),Is ((RR.length+i:Nat):Int),À z.av,x7,Á] s
      = À (.nx [Is nn,Zs (gv.map Gv.av),Ls goal,Rs 1,Is (m:Int),Is ((RR.length+i:Nat):Int),À z.av,À (.bl bb),Á] s2):=by
     have xi:aG s z.av (.int 1)=À (.str "="):=by
      have:z.av=.tup [.fz (iL z.row),.str "=",.int z.num]:=by unfold Gv.av;rw[H];rfl
      rw[this];rfl
     simp only[fU,CJ,jo,oV,gN,oe,yf,eP,eZ,Ä,xi,Ð,K5,ite_true,jd,cG,c6,sZ,jf,kA,e2,Cl];rfl
    rcases hb with⟨rfl,E⟩|⟨rfl,E,Q,low,hr⟩
    ·refine bk ⟨_,.nx [Is nn,Zs (gv.map Gv.av),Ls goal,Rs 1,Is (m:Int),Is ((RR.length+i:Nat):Int),À z.av,À (.bl Â),Á] s2,rfl,au es ?_,.inl ⟨_,s2,rfl,a2,F,T,_,_,_,rfl,R2,⟨I2,unk T K,fun x b=>?_,fun x b=>by rw[M];exact A.g2 x b,fun y n D k d=>?_,fun x b=>?_,fun y n D k d=>?_,fun x b=>?_,tnd,?_,?_,?_⟩⟩⟩
     ·simp[fT,cw,dr]
     ·rw[M]at b
      rcases A.g1 x b with h|⟨y,n,k,d⟩
      ·exact .inl h
      ·exact .inr ⟨y,n,by lia,d⟩
     ·rw[M]
      by_cases e:y=i
      ·subst e;rw[hz]at k;cases k;rw[H]at d;cases d
      ·exact A.g3 y n oM k d
     ·rw[E,zZ,zM]at b
      rcases b with b|b
      ·obtain⟨y,n,k,d⟩:=A.n1 x b;exact⟨y,n,by lia,d⟩
      ·exact⟨i,z,by lia,hz,H,by rw[b,sp]⟩
     ·rw[E,zZ,zM]
      by_cases e:y=i
      ·subst e;exact .inr (by rw[sp])
      ·exact .inl (A.n2 y n oM k d)
     ·rw[E,zZ,zM]
      rcases K.tn with h|h
      ·rw[h]at b;exact .inl (A.t1 x b)
      ·rw[h,zZ,zM]at b
       exact b.imp (A.t1 x) id
     ·rw[M];have:=A.lg;lia
     ·rw[E,zV];have:=A.ln;simp;lia
     ·rcases K.tn with h|h
      ·rw[h];have:=A.lt;lia
      ·rw[h,zV];have:=A.lt;simp;lia
    ·have tq:∀x∈T.tn,x∈T.nl\/x=T.s (RR.length+i):=fun x b=>by
      rw[E,Q];rcases K.tn with h|h
      ·rw[h]at b;exact .inl (A.t1 x b)
      ·rw[h,zZ,zM]at b
       exact b.imp (A.t1 x) id
     obtain⟨v1,v2,v3,v4⟩:=nev T I2 K E tq Q fun h=>by rw[H]at h;cases h
     obtain⟨s3,W,N,s4,e3,e4,C,hN⟩:=v7 q R2 I2 hp tnd (fun x b=>by
      rcases tq x b with h|h
      ·rw[E]at h;exact lst x h
      ·rw[h,Q,sp];lia) low hr v1 v2 v3 v4
     refine bk ⟨_,.rt (.tup [.str "never",.fz (iL W)]) s4,rfl,au es ?_,.inr ⟨_,s4,rfl,_,rfl,.inl ⟨W,N,rfl,C,hN⟩⟩⟩;rw[ž]at e3;simp[fT,cw,dr,e3,e4]
   |false =>
    obtain⟨T,s2,a2,F,bb,e2,R2,K,ht,E,I2,hb⟩:=Kq q.B R I hp ng nn' (by have:=A.lg;lia);have es:cV [cq,c4,b8,aQ,aj,bR,bQ,bg,cZ] (.as (.ife (.cmp .Eq (.ix (.v 6) (.i 1)) (.s "=")) (.ca Ã 1 (.cons (.v 3) (.cons (.v 5) .nil))) (.ca Ã 2 (.cons (.v 3) (.cons (.v 5) .nil)))) (.nm 7)) [Is nn,Zs (gv.map Gv.av),Ls goal,Rs 1,Is (m:Int),Is ((RR.length+i:Nat):Int),À z.av,x7,Á] s
      = À (.nx [Is nn,Zs (gv.map Gv.av),Ls goal,Rs 1,Is (m:Int),Is ((RR.length+i:Nat):Int),À z.av,À (.bl bb),Á] s2):=by
     have xi:aG s z.av (.int 1)=À (.str ">"):=by
      have:z.av=.tup [.fz (iL z.row),.str ">",.int z.num]:=by unfold Gv.av;rw[H];rfl
      rw[this];rfl
     simp only[fU,CJ,jo,oV,gN,oe,yf,eP,eZ,Ä,xi,Ð,KD,yA,ite_false,jd,cG,c6,sZ,jf,kA,e2,Cl];rfl
    rcases hb with⟨rfl,M⟩|⟨rfl,M,Q,low,hr⟩
    ·refine bk ⟨_,.nx [Is nn,Zs (gv.map Gv.av),Ls goal,Rs 1,Is (m:Int),Is ((RR.length+i:Nat):Int),À z.av,À (.bl Â),Á] s2,rfl,au es ?_,.inl ⟨_,s2,rfl,a2,F,T,_,_,_,rfl,R2,⟨I2,unk T K,fun x b=>?_,fun x b=>by rw[M];exact zL _ (A.g2 x b),fun y n D k d=>?_,fun x b=>?_,fun y n D k d=>?_,fun x b=>by rw[ht]at b;rw[E];exact A.t1 x b,by rw[ht];exact A.tn,?_,by rw[E];have:=A.ln;lia,by rw[ht];have:=A.lt;lia⟩⟩⟩
     ·simp[fT,cw,dr]
     ·rw[M,zZ,zM]at b
      rcases b with b|b
      ·rcases A.g1 x b with h|⟨y,n,k,d⟩
       ·exact .inl h
       ·exact .inr ⟨y,n,by lia,d⟩
      ·exact .inr ⟨i,z,by lia,hz,H,by rw[b,sp]⟩
     ·rw[M,zZ,zM]
      by_cases e:y=i
      ·subst e;exact .inr (by rw[sp])
      ·exact .inl (A.g3 y n oM k d)
     ·rw[E]at b
      obtain⟨y,n,k,d⟩:=A.n1 x b;exact⟨y,n,by lia,d⟩
     ·rw[E]
      by_cases e:y=i
      ·subst e;rw[hz]at k;cases k;rw[H]at d;cases d
      ·exact A.n2 y n oM k d
     ·rw[M,zV];have:=A.lg;simp;lia
    ·have tq:∀x∈T.tn,x∈T.nl\/x=T.s (RR.length+i):=fun x b=>.inl (by rw[ht]at b;rw[E];exact A.t1 x b)
     obtain⟨v1,v2,v3,v4⟩:=nev T I2 K E tq Q fun _=>by rw[ht,Q];exact nt
     obtain⟨s3,W,N,s4,e3,e4,C,hN⟩:=v7 q R2 I2 hp (by rw[ht];exact A.tn) (fun x b=>by rw[ht]at b;exact lst x (A.t1 x b)) low hr v1 v2 v3 v4;refine bk ⟨_,.rt (.tup [.str "never",.fz (iL W)]) s4,rfl,au es ?_,.inr ⟨_,s4,rfl,_,rfl,.inl ⟨W,N,rfl,C,hN⟩⟩⟩;rw[ž]at e3;simp[fT,cw,dr,e3,e4]) (sl:=[Is nn,Zs (gv.map Gv.av),Ls goal,Rs 1,Is (m:Int),Á,Á,Á,Á]) (st:=O) ⟨2,_,_,Á,Á,Á,rfl,R1,A0⟩
 have ei:fj [cq,c4,b8,aQ,aj,bR,bQ,bg,cZ] (.es (.v 1) (.bin .Sub (.v 4) (.bi .len (.cons (.v 1) .nil)))) [Is nn,Zs (gv.map Gv.av),Ls goal,Rs 1,Is (m:Int),Á,Á,Á,Á] O=À (⟨fP RR.length (gv.map Gv.av),[]⟩,O):=by
  have k:(m:Int)-(gv.length:Int)=(RR.length:Int):=by lia
  have d:å RR.length 1000000=Â:=yK oM;simp[xI,aZ,cO,k];lia
 rcases loop with⟨sl',st2,e2,a,rows,S,x5,x6,x7,rfl,R,A⟩|⟨v,st2,e2,t,ht,hA⟩
 ·rw[show(fP RR.length (gv.map Gv.av)).length=gv.length by unfold fP;simp]at A
  refine ai (sl':=[Is nn,Zs (gv.map Gv.av),Ls goal,Rs 1,Is (m:Int),x5,x6,x7,Á]) (st':=st2) (by rw[jC,ei,Ä];exact e2) ?_;have hp:m<RR.length+gv.length+1:=by lia
  have spg:S.s m=w+m:=A.un m oM hp;have ng:S.s m∉S.gd:=fun h=>by rcases A.g1 _ h with h|⟨y,_,h,_,_,d⟩<;>lia
  obtain⟨r,e3,f,a3,rows3,R3,K,o,sp3,Y⟩:=Fw q.B R A.mi hp ng;have A3:AI w RR.length gv (ag RR gv goal) gv.length f:=by
   refine⟨o,fun x k d=>?_,by rw[K.gd];exact A.g1,by rw[K.gd];exact A.g2,by rw[K.gd];exact A.g3,by rw[K.nl];exact A.n1,by rw[K.nl];exact A.n2,by rw[K.tn,K.nl];exact A.t1,by rw[K.tn];exact A.tn,by rw[K.gd];exact A.lg,by rw[K.nl];exact A.ln,by rw[K.tn];exact A.lt⟩;have:x=m:=by lia
   subst this;rw[sp3,spg]
  have P3:=o.shp;have lst:∀x∈f.tn,x<w+(RR.length+gv.length+1):=fun x b=>by
   obtain⟨y,_,h,_,_,d⟩:=A3.n1 _ (A3.t1 x b);lia
  obtain⟨r1,r2⟩:=r;dsimp only at R3 Y
  have tb:∀X,GX f w w (RR.length+gv.length+1) X->Kp w RR gv (gI X) f.d/\val w goal (gI X)=- f.t m w:=fun X B=>by
   have:=A3.vert Z (c:=w) oM (fun h=>by lia) (X:=gI X) B.at_ (fun j hj h=>by
    rw[yG oM];exact B.no _ h fun i u=>ç (o.pm.hs j i hj u)) (fun i u M=>o.fea.g i u M)
   rw[yH rfl,<- hm]at this;exact this
  rcases Y with⟨rfl,hr⟩|⟨J,rfl,hr,htn⟩
  ·refine ai (sl':=[Is nn,Zs (gv.map Gv.av),Ls goal,Rs 1,Is (m:Int),x5,x6,x7,À .non]) (st':=r2) (by simp[R.ins,e3]) ?_
   obtain⟨z,e4,X,T,W,B,hT,hl,hW,wb,hz⟩:=Cc (m:=RR.length+gv.length) (p:=m) R3 o q.B oM A3.tn lst q.hw oM q.HA q.H oM;obtain⟨z1,z2⟩:=z;dsimp only at hz;have gb:∀x∈X,x.natAbs<2^2500:=g9 fun i u=>by
    rw[B.len]at u;by_cases h:∃y,y<RR.length+gv.length+1/\f.s y=i
    ·obtain⟨y,D,rfl⟩:=h
     rw[B.at_ y D u];exact(q.B.bd2 o).2 y D w oM
    ·rw[B.no i u fun y D z=>h ⟨y,D,z⟩];exact Ñ _
   have n1:∀x∈f.nl,∃y z,gv[y]?=À z/\z.eq=Â/\x=w+RR.length+y:=fun x b=>by
    obtain⟨y,n,_,h⟩:=A3.n1 x b;exact⟨y,n,h⟩
   obtain⟨g',hg',eg⟩:=pT (W++[f.d]);have hnt:f.s m∉f.tn:=fun z=>by
    obtain⟨y,_,h,_,_,d⟩:=A3.n1 _ (A3.t1 _ z);rw[sp3,spg]at d;lia
   have eK:f.d=g'*gI (ak (W++[f.d])) m:=by rw[<- eg m,hm,<- hl,Az]
   obtain⟨N,k,C⟩:=Dp q.X Z.o o (p:=m) oM hT hW (hr.1 rfl) (fun q hq=>by
    have h:q∉f.nl:=fun h=>by obtain⟨y,_,_,_,h⟩:=n1 q h;lia
    exact⟨h,fun z=>h (A3.t1 _ z)⟩) (fun y n k d=>by
    have h:w+RR.length+y∉f.nl:=fun h=>by
     obtain⟨y',z2,Y,h4,h5⟩:=n1 _ h;have:y=y':=by lia
     subst this;rw[k]at Y;cases Y;rw[d]at h4;cases h4
    exact⟨h,fun z=>h (A3.t1 _ z)⟩) hg' (W:=(ak (W++[f.d])).take (RR.length+gv.length)) (K:=gI (ak (W++[f.d])) m) (by rw[ŷ,fC,zV,hl];simp) (fun x b=>by rw[nM b,<- eg,AA oM]) (by rw[<- eK,<- hm,<- spg,<- sp3,hT.sd,yG hnt]) (fun x b=>g9 (P:=fun x=>x.natAbs<2^9000) (fun i _=>kR (Ñ _) wb i) x (I! b)) (kR (Ñ _) wb m)
   refine⟨(z1,z2),by simp[e4],z1,by rw[hz];rfl,.inr (.inl ⟨- f.t m w,f.d,_,_,_,N,_,by rw[hz,<- hm],o.lin.pos,⟨by rw[Þ];exact(q.B.bd2 o).2 m oM w oM,(q.B.bd2 o).1⟩,TbS.of B.len o.lin.pos ⟨gb,(q.B.bd2 o).1⟩ (tb X B).1 (tb X B).2,hm▸C,SX.pos_of hg' (by rw[<- hm,<- eK];exact o.lin.pos),?_⟩)⟩;have e5:f.d*N=g'*gI (ak (W++[f.d])) m*N:=by rw[<- eK]
   rw[<- hm,k];grind
  ·refine ai (sl':=[Is nn,Zs (gv.map Gv.av),Ls goal,Rs 1,Is (m:Int),x5,x6,x7,Is (J:Int)]) (st':=r2) (by simp[R.ins,e3]) ?_
   obtain⟨q1,q2,q3,_⟩:=hr.2 J rfl;obtain⟨X,T,st4,e4,eT,B,R4⟩:=CQ R3 P3 o.pm (q.B.bd o) q.HA oM oM;subst eT;have gb:∀c,c<w+1->∀X,GX f w c (RR.length+gv.length+1) X->∀x∈X,x.natAbs<2^2500:=fun c hc X B=>g9 fun i u=>by
    rw[B.len]at u;by_cases h:∃y,y<RR.length+gv.length+1/\f.s y=i
    ·obtain⟨y,D,rfl⟩:=h
     rw[B.at_ y D u];exact(q.B.bd2 o).2 y D c hc
    ·rw[B.no i u fun y D z=>h ⟨y,D,z⟩];exact Ñ _
   obtain⟨X2,st5,e5,U⟩:=Jr R4 P3 o.pm (q.B.bd o) q.HA oM oM q1;obtain⟨V,hV⟩:∃V,V=if f.h J<w then X2.set (f.h J) f.d else X2:=⟨_,rfl⟩
   rw[<- hV]at e5;have hVl:V.length=w:=by rw[hV];split<;>simp[U.len]
   have hVb:∀x∈V,x.natAbs<2^2500:=fun x b=>by
    rw[hV]at b;split at b
    ·rcases ø b with h|h
     ·exact gb J oM X2 U x h
     ·rw[h];exact(q.B.bd2 o).1
    ·exact gb J oM X2 U x b
   have hVx:∀x,x<w->gI V x=if x=f.h J then f.d else gI X2 x:=fun x b=>by
    rw[hV];by_cases h:f.h J<w
    ·rw[yH h,qX (by rw[U.len];exact h)]
    ·rw[yG h,yG oM]
   obtain⟨g',hg',eg⟩:=pT V;refine⟨(.tup [.str "endless",.tup [.fz (iL ((ak (X++[f.d])).take w)),.int (gI (ak (X++[f.d])) w)],.fz (iL (ak V))],st5),by simp[e4,e5],_,rfl,.inr (.inr ⟨_,_,_,rfl,(TbS.of B.len o.lin.pos ⟨gb w oM X B,(q.B.bd2 o).1⟩ (tb X B).1 (tb X B).2).1,⟨by rw[fC,hVl],g9 fun i _=>kR (Ñ _) hVb i⟩,?_⟩)⟩
   have:=A3.vert Z (c:=J) oM (fun _=>q2) (X:=fun x=>if x=f.h J then f.d else gI X2 x) (fun i u Q=>by
    rw[yG (ç (o.pm.hs J i q1 u))];exact U.at_ i u Q) (fun j hj h=>by
    by_cases e:j=J
    ·subst e;rw[yH rfl,yH rfl]
    ·rw[yG fun z=>e (o.pm.hi j J hj q1 z),yG e]
     exact U.no _ h fun i u=>ç (o.pm.hs j i hj u)) (fun i u M=>by have:=htn.1 rfl i u M;lia)
   rw[yG oM,<- hm]at this;have ew:∀x,x<w->(if x=f.h J then f.d else gI X2 x)=g'*gI (ak V) x:=fun x b=>by rw[<- eg,hVx x b]
   refine⟨this.1.div hg' (by rw[yO]) ew,?_⟩;have e2:=this.2;rw[nj ew]at e2;have:g'*val w goal (gI (ak V))<0:=by rw[e2];lia
   rcases yU (val w goal (gI (ak V))) 0 with h|h
   ·exact h
   ·have:=è (ď hg') h;lia
 ·refine⟨(v,st2),?_,t,ht,hA⟩
  refine aX ?_;rw[jC,ei,Ä];exact e2
end
noncomputable def RR2:List (List Int):=[[0,-1,1],[-1,0,1],[1,1,-1]]
noncomputable def Mj:Nat->List Int
 |1=>[1,0,1]
 |2=>[0,1,1]
 |_=>[1,1,1]
noncomputable def RR3:List (List Int):=[[0,0,0,0,0,-1,1],[0,0,0,0,-1,0,1],[0,0,-1,0,0,0,1],[1,1,-1,0,0,0,0],[0,0,0,-1,1,1,-1],[1,0,0,1,-1,0,0],[0,-1,1,0,0,1,-1],[0,1,0,1,0,-1,0],[-1,0,1,0,1,0,-1]]
noncomputable def Mh:Nat->List Int
 |1=>[1,0,0,1,0,0,1,0,0]
 |2=>[0,1,0,1,0,0,0,0,1]
 |3=>[1,1,0,1,0,0,1,0,1]
 |4=>[0,0,1,0,0,1,0,0,1]
 |5=>[1,0,1,1,0,0,1,0,1]
 |6=>[0,1,1,1,0,0,1,0,1]
 |_=>[1,1,1,1,0,0,1,0,1]
noncomputable def mk(w p m:Nat):List Int:=(Æ w).map fun i=>if p.testBit i then 1 else if m.testBit i then -1 else 0
def RR4:List (List Int):=[(16384,8192),(16384,4096),(16384,1024),(16384,64),(3,4),(48,72),(768,1152),(12288,18432),(9,16),(36,66),(2304,4224),(9216,16896),(129,256),(516,1026),(2064,4104),(8256,16416),(10,32),(20,65),(2560,8320),(5120,16640),(130,512),(260,1025),(2080,8200),(4160,16400),(136,2048),(272,4097),(544,8194),(1088,16388)].map fun z:Nat×Nat=>mk 15 z.1 z.2
def Mg(g:Nat):List Int:=mk 28 ([33297,8519698,8552979,134349060,134382101,142737942,142770711,136318984,136348185,142745626,142770715,142754060,142770717,142770718,142770719].getD (g-1) 0) 0
theorem dA(a:rfs args=Â)(h:((fn args []).bind fun p=>dN p.2 p.1)=À t):pm fn args st=À (t,st):=by
 obtain⟨p,c,b⟩:=zA h;exact aN a c b
def NP(nn:Int)(w nr:Nat)(HO:Nat->List Int):Bool:=(Æ w).all fun g=>(match (dD [.int nn,.int ((g+1:Nat):Int),.int 0] []).bind fun p=>dN p.2 p.1 with
 |some a=>rf a&&(match (fe [.int nn,a] []).bind fun p=>dN p.2 p.1 with
  |some x=>dF x (.fz (iL (HO (g+1))))
  |none=>Ã)
 |none=>Ã)&&((HO (g+1)).length==nr&&(HO (g+1)).all fun x=>å x.natAbs 15)
theorem tE{nn:Int}{w nr:Nat}{HO:Nat->List Int}(h:NP nn w nr HO=Â):HOk nn w nr HO:=by
 have at_:∀a:Nat,1<=a->a<=w->(∃e,(∀b,pm dD [.int nn,.int a,.int 0] b=À (e,b))/\∀b,pm fe [.int nn,e] b=À (.fz (iL (HO a)),b))/\(HO a).length=nr/\∀x∈HO a,x.natAbs<=15:=fun a d c=>by
  obtain⟨g,rfl⟩:∃g,a=g+1:=⟨a-1,by lia⟩;have h:=yQ.mp h g (Ó.mpr oM);simp only[zC]at h;obtain⟨f,n,m⟩:=h;refine⟨?_,yJ n,fun x k=>zS (yQ.mp m x k)⟩;split at f
  ·rename_i e o
   simp only[zC]at f;obtain⟨l,i⟩:=f;split at i
   ·rename_i x j
    rw[wC i]at j;exact⟨e,fun b=>dA rfl o,fun b=>dA (by simp[rfs,rf,l]) j⟩
   ·cases i
  ·cases f
 exact⟨fun a d c=>(at_ a d c).1,fun a d c=>(at_ a d c).2.1,fun a d c=>(at_ a d c).2.2⟩
theorem Oc:∀st,pm ar [.int 2] st=À (.int ((3:Nat):Int),st):=fun st=>dA rfl (by kernel_rfl)
theorem Ob:∀st,pm ar [.int 3] st=À (.int ((7:Nat):Int),st):=fun st=>dA rfl (by kernel_rfl)
theorem Oa:∀st,pm ar [.int 4] st=À (.int ((15:Nat):Int),st):=fun st=>dA rfl (by kernel_rfl)
theorem N8:∀st,pm aS [.int 2] st=À (.fz (ao RR2),st):=fun st=>dA rfl (by kernel_rfl)
theorem N7:∀st,pm aS [.int 3] st=À (.fz (ao RR3),st):=fun st=>dA rfl (by kernel_rfl)
theorem N6:∀st,pm aS [.int 4] st=À (.fz (ao RR4),st):=fun st=>dA rfl (by kernel_rfl)
theorem HK2:HOk 2 3 RR2.length Mj:=tE (by kernel_rfl)
theorem HK3:HOk 3 7 RR3.length Mh:=tE (by kernel_rfl)
theorem HK4:HOk 4 15 RR4.length Mg:=tE (by kernel_rfl)
noncomputable def RR1:List (List Int):=[[1]]
noncomputable def Ml:Nat->List Int:=fun _=>[1]
theorem Od:∀st,pm ar [.int 1] st=À (.int ((1:Nat):Int),st):=fun st=>dA rfl (by kernel_rfl)
theorem N9:∀st,pm aS [.int 1] st=À (.fz (ao RR1),st):=fun st=>dA rfl (by kernel_rfl)
theorem HK1:HOk 1 1 RR1.length Ml:=tE (by kernel_rfl)
noncomputable def M0:Nat:=2^120
theorem IX{w:Nat}(o:w<=15)(t:RR.length<=100)(s:gv.length<=100)(k:∀l∈RR,∀x∈l,x.natAbs<=M0)(c:∀z∈gv,(∀x∈z.row,x.natAbs<=M0)/\z.num.natAbs<=M0)(j:∀x∈goal,x.natAbs<=M0):Bnd w (RR.length+gv.length+1) (v0 w (ag RR gv goal)):=by
 refine⟨⟨M0,ϡ,fun q x n=>?_,?_⟩,by lia,by lia⟩
 ·have i:1<=M0:=ϡ
  unfold v0;split
  ·split<;>simp[i]
  ·unfold gI
   rw[zD,zD];cases e:(ag RR gv goal)[q-w]? with
   |none=>simp
   |some l =>
    have b:=zW e;simp only[ū];cases m:l[x]? with
    |none=>simp
    |some y =>
     have a:=zW m;simp only[ū];unfold ag at b;simp only[zZ,yC,zM]at b;rcases b with(⟨r,g,rfl⟩|⟨z,hz,rfl⟩)|rfl
     ·rcases zZ.mp a with h|h
      ·exact k r g y h
      ·rw[zM.mp h];simp
     ·rcases zZ.mp a with h|h
      ·exact(c z hz).1 y h
      ·rw[zM.mp h,Þ];exact(c z hz).2
     ·rcases zZ.mp a with h|h
      ·obtain⟨u,d,rfl⟩:=yC.mp h
       rw[Þ];exact j u d
      ·rw[zM.mp h];simp
 ·have f:SX.fct (w+1)<=2^45:=(by decide:∀w,w<16->SX.fct (w+1)<=2^45) w oM
  have p:M0^(w+1)<=2^1920:=by
   unfold M0;rw[<- Nat.pow_mul];exact Č dC oM
  refine yL (ţ f p) ?_;rw[<- Ŭ];exact ħ dC dC
def kr(a:List Int)(RR:List (List Int))(x:Nat):Int:=((a.zip RR).map fun z=>z.1*gI z.2 x).sum
theorem qT{w:Nat}{Y:Nat->Int}:∀(cs:List Int)(RR:List (List Int)),Pg w (fun x=>kr cs RR x*Y x)=((cs.zip RR).map fun z=>z.1*val w z.2 Y).sum
 |[],_=>by simp[kr];exact SX.sum_zero fun _ _=>rfl
 |_::_,[]=>by simp[kr];exact SX.sum_zero fun _ _=>rfl
 |c::cs,r::RR=>by
  rw[ă,zO,ϛ,<- qT cs RR];unfold val;rw[<- SX.sum_mul,<- SX.sum_add];refine SX.sum_congr fun x _=>?_
  show kr (c::cs) (r::RR) x*Y x=_;have:kr (c::cs) (r::RR) x=c*gI r x+kr cs RR x:=by simp[kr]
  rw[this];grind
theorem HZ{w:Nat}{Y:Nat->Int}{a:List Int}{RR:List (List Int)}(e:∀c∈a,0<=c)(h:∀r∈RR,0<=val w r Y):0<=((a.zip RR).map fun z=>z.1*val w z.2 Y).sum:=by
 have:∀l:List (Int×List Int),(∀z∈l,0<=z.1/\0<=val w z.2 Y)->0<=(l.map fun z=>z.1*val w z.2 Y).sum:=fun l=>by
  induction l with
  |nil=>intro _;simp
  |cons z l b =>
   intro h;rw[zO,ϛ];have g:=è (h z z7).1 (h z z7).2;have f:=b fun y d=>h y (zQ _ d)
   lia
 exact this _ fun z hz=>⟨e _ (ý hz).1,h _ (ý hz).2⟩
def HF(w:Nat)(RR:List (List Int))(HO:Nat->List Int):Bool:=(Æ w).all fun g=>(HO (g+1)).all (fun c=>decide (0<=c))&&(Æ w).all fun x=>kr (HO (g+1)) RR x==if x=g then 1 else 0
theorem nn_of{w:Nat}{RR:List (List Int)}{HO:Nat->List Int}(a:HF w RR HO=Â):∀Y:Nat->Int,(∀r∈RR,0<=val w r Y)->∀x,x<w->0<=Y x:=fun Y h g d=>by
 have a:=yQ.mp a g (Ó.mpr d);rw[zC]at a;have f:∀c∈HO (g+1),0<=c:=fun c f=>of_decide_eq_true (yQ.mp a.1 c f)
 have b:∀x,x<w->kr (HO (g+1)) RR x=if x=g then 1 else 0:=fun x b=>yJ (yQ.mp a.2 x (Ó.mpr b))
 have e:=qT (w:=w) (Y:=Y) (HO (g+1)) RR;rw[SX.sum_one d fun x j i=>by rw[b x j,yG i,yP],b g d,yH rfl,ů]at e;rw[e];exact HZ f h
theorem Fd(n:Nat)(f:Nat->Int):Pg (n+1) f=f 0+Pg n fun i=>f (i+1):=by
 induction n with
 |zero=>simp[Pg]
 |succ n a=>rw[Pg,a,Pg];lia
theorem vH{f:List Int->Int}:∀(cs:List Int)(RR:List (List Int)),cs.length=RR.length->((cs.zip RR).map fun z=>z.1*f z.2).sum=Pg RR.length fun x=>gI cs x*f (RR.getD x [])
 |[],RR,h=>by rw[<- h];rfl
 |c::cs,[],h=>by simp at h
 |c::cs,r::RR,h=>by
  rw[ă,zO,ϛ,vH cs RR (by simpa using h),yX,Fd];rfl
theorem KB{w:Nat}{RR:List (List Int)}{HO:Nat->List Int}{gv:List Gv}{goal:List Int}(a:HF w RR HO=Â)(i:∀g,1<=g->g<=w->(HO g).length=RR.length)(k:∀l∈RR,l.length=w):Hx w RR HO gv goal:=by
 have a:∀g,g<w->(∀c∈HO (g+1),0<=c)/\∀x,x<w->kr (HO (g+1)) RR x=if x=g then 1 else 0:=fun g m=>by
  have a:=yQ.mp a g (Ó.mpr m);rw[zC]at a;exact⟨fun c o=>of_decide_eq_true (yQ.mp a.1 c o),fun x d=>yJ (yQ.mp a.2 x (Ó.mpr d))⟩
 refine⟨fun y x b=>?_,fun Y e y b=>?_,fun y b=>i _ oM oM⟩
 ·unfold gI
  rw[zD];cases h:(HO (y+1))[x]? with
  |none=>exact Ű 0
  |some c=>exact(a y b).1 c (zW h)
 ·have i:=i (y+1) oM oM
  have j:=qT (w:=w) (Y:=Y) (HO (y+1)) RR;rw[SX.sum_one b fun x q p=>by rw[(a y b).2 x q,yG p,yP],(a y b).2 y b,yH rfl,ů,vH (f:=fun r=>val w r Y) _ _ i]at j;rw[jR,SX.sum_zero (n:=gv.length) fun x _=>by
   rw[show gI (HO (y+1)) (RR.length+x)=0 by unfold gI;rw[zD,Ù oM];rfl,yP],î,j]
  refine SX.sum_congr fun x d=>?_
  rw[dZ (mZ d) (k _ (Ø d)),yP,î,zD,zF d];rfl
def fA(n:Nat):Prop:=n=1\/n=2\/n=3\/n=4
def bB(n:Nat):List (List Int):=if n=1 then RR1 else if n=2 then RR2 else if n=3 then RR3 else RR4
def DL(n:Nat):Nat->List Int:=if n=1 then Ml else if n=2 then Mj else if n=3 then Mh else Mg
theorem LN{n:Nat}{gv:List Gv}{goal:List Int}(b:fA n)(d:gv.length<=100)(k:∀z∈gv,z.row.length=2^n-1/\(∀x∈z.row,x.natAbs<=M0)/\z.num.natAbs<=M0)(j:goal.length=2^n-1/\∀x∈goal,x.natAbs<=M0):Qu n (2^n-1) (bB n) (DL n) gv goal:=by
 have f:∀l∈bB n,l.length=2^n-1/\∀x∈l,x.natAbs<=1:=by rcases b with rfl|rfl|rfl|rfl<;>decide +kernel
 have e:(bB n).length<=100:=by rcases b with rfl|rfl|rfl|rfl<;>decide
 have a:2^n-1<=15:=by rcases b with rfl|rfl|rfl|rfl<;>decide
 have o:1<=M0:=ϡ;have i:HF (2^n-1) (bB n) (DL n)=Â:=by rcases b with rfl|rfl|rfl|rfl<;>kernel_rfl
 have B:=IX a e d (fun l c x m=>z5 ((f l c).2 x m) o) (fun z hz=>(k z hz).2) j.2;have Z:Sz (2^n-1) (bB n) gv goal:=⟨fun l c=>(f l c).1,fun z hz=>(k z hz).1,j.1,nn_of i⟩;have X:(∀g,1<=g->g<=2^n-1->(DL n g).length=(bB n).length)->Hx (2^n-1) (bB n) (DL n) gv goal:=fun h=>KB i h fun l c=>(f l c).1
 rcases b with rfl|rfl|rfl|rfl
 ·exact⟨N9,Od,HK1,Z,a,e,d,B,X HK1.len⟩
 ·exact⟨N8,Oc,HK2,Z,a,e,d,B,X HK2.len⟩
 ·exact⟨N7,Ob,HK3,Z,a,e,d,B,X HK3.len⟩
 ·exact⟨N6,Oa,HK4,Z,a,e,d,B,X HK4.len⟩
theorem Jd{nn:Int}{w:Nat}{RR:List (List Int)}{HO:Nat->List Int}{gv:List Gv}{goal:List Int}(q:Qu nn w RR HO gv goal):∃t,(∀st,pm iN [.int nn,.fz (gv.map Gv.av),.fz (iL goal)] st=À (t,st))/\yc w RR gv goal t:=by
 obtain⟨z,e,t,h,A⟩:=CB q;exact⟨t,fun st=>aN rfl e h,A⟩
theorem td{a b:Int}(h:a.natAbs<2^62):eI a b=Â:=by
 unfold eI;have:å a.natAbs.log2 62=Â:=yK (by
  by_cases hz:a.natAbs=0
  ·rw[hz];decide
  ·exact yY ((č hz).mpr h))
 rw[this];simp
theorem C6{a b:Int}(h:b.natAbs<2^62):eI a b=Â:=by
 unfold eI;have:å b.natAbs.log2 62=Â:=yK (by
  by_cases hz:b.natAbs=0
  ·rw[hz];decide
  ·exact yY ((č hz).mpr h))
 rw[this];simp
theorem Dj{a b:Int}(h:0<b):mR a b=a%b:=yH h
theorem K0{a b:Int}(h:0<b):wx a b=a/b:=yH h
theorem Kh{a b:Int}(h:0<b):0<=a%b/\a%b<b:=⟨ċ _ oM,Ą _ h⟩
theorem JY{r:Nat}{x:Int}(h:st[r]?=À (.lst (iL (D++[x])))):aA [.ref r] st=À (.int x,st.set r (.lst (iL D))):=by
 have k:∀l:List Int,aT (cE 8 st) (iL l)=À (l.map ë):=fun l=>dO (f:=cE 8 st) (i:=AV.int) (g:=ë) (fun _=>rfl) l
 have m:∀l:List Int,ð (l.map ë)=Â:=fun l=>by
  induction l with
  |nil=>rfl
  |cons a l j=>simp only[zO,ð,ā,j,ġ]
 have c:aY .Eq st (.ref r) (.fz [])=À Ã:=by
  show i8 st (.ref r) (.fz [])=_;unfold i8;have e:cE 9 st (.ref r)=À (.list ((D++[x]).map ë)):=by
   unfold cE;simp only[h,k,Ð]
  have d:cE 9 st (.fz [])=À (.list []):=rfl;rw[e,d,Ä,Ä,yH ?_]
  ·rw[ä]
   cases D.map ë<;>rfl
  ·have p:(ŋ ((D++[x]).map ë)).canLay0=Â:=by unfold ā;exact m _
   have o:(ŋ []).canLay0=Â:=rfl;have n:min (ŋ ((D++[x]).map ë)).depth (ŋ []).depth<=50:=z5 (T8 _ _) dC;unfold DD.pyOk;rw[p,o,yV n];rfl
 have b:(iL (D++[x]))[D.length]?=À (.int x):=by unfold iL;simp
 have q:(iL (D++[x])).dropLast=iL D:=by unfold iL;simp
 simp[aA,aw,lO,cU,c,mX,se,rZ,rL,bG h,xu,iQ,h,b,q];exact(zB.mp b).2
section
variable{ks:List Fn}{sl:Sl}{st:aa}{ss:Pq}{P:AV×aa->Prop}
theorem fx{s:Sx}{v:AV}{st':aa}(h:cV ks s sl st=À (.rt v st'))(a:P (v,st')):∃r,(af ks (.cons s ss) sl st).bind ay=À r/\P r:=⟨_,aX h,a⟩
theorem pD{α:Type}{em:α->AV}{it:Ix}{t:Tg}{b:Pq}{xs:List α}{gd:Gd}{st0:aa}(I:Nat->Sl->aa->Prop)(k:fj ks it sl st=À (⟨xs.map em,gd⟩,st0))(l:∀i sl st,I i sl st->cT gd st=Â)(m:I 0 sl st0)
  (h:∀i x sl st,xs[i]?=À x->I i sl st->∃p sl2 st2,cM ks t (em x) sl st=À p/\af ks b p.1 p.2=À (.nx sl2 st2)/\I (i+1) sl2 st2)
  (f:∀sl' st',I xs.length sl' st'->∃r,(af ks ss sl' st').bind ay=À r/\P r):∃r,(af ks (.cons (.fo it t b) ss) sl st).bind ay=À r/\P r:=by
 obtain⟨sl',st',e,a⟩:=dX (gd:=gd) (g:=cM ks t) (s:=af ks b) (I:=I) (xs:=xs.map em) (fun i sl st _ a=>l i sl st a) (fun i y sl st c a=>by
  rw[zR]at c;obtain⟨x,d,rfl⟩:=zE.mp c;exact h i x sl st d a) m
 rw[zH]at a;obtain⟨r,n,j⟩:=f sl' st' a;exact⟨r,ad (by rw[jC,k,Ä];exact e) n,j⟩
theorem Jp{α:Type}{em:α->AV}{it:Ix}{t:Tg}{b:Pq}{xs:List α}{gd:Gd}{st0:aa}{Q:Out->Prop}(I:Nat->Sl->aa->Prop)(k:fj ks it sl st=À (⟨xs.map em,gd⟩,st0))(l:∀i sl st,I i sl st->cT gd st=Â)(m:I 0 sl st0)
  (h:∀i x sl st,xs[i]?=À x->I i sl st->∃p sl2 st2,cM ks t (em x) sl st=À p/\af ks b p.1 p.2=À (.nx sl2 st2)/\I (i+1) sl2 st2)
  (f:∀sl' st',I xs.length sl' st'->∃r,af ks ss sl' st'=À r/\Q r):∃r,af ks (.cons (.fo it t b) ss) sl st=À r/\Q r:=by
 obtain⟨sl',st',e,a⟩:=dX (gd:=gd) (g:=cM ks t) (s:=af ks b) (I:=I) (xs:=xs.map em) (fun i sl st _ a=>l i sl st a) (fun i y sl st c a=>by
  rw[zR]at c;obtain⟨x,d,rfl⟩:=zE.mp c;exact h i x sl st d a) m
 rw[zH]at a;obtain⟨r,n,j⟩:=f sl' st' a;exact⟨r,au (by rw[jC,k,Ä];exact e) n,j⟩
theorem Ba{s:Sx}{sl':Sl}{st':aa}{Q:Out->Prop}(h:cV ks s sl st=À (.nx sl' st'))(a:∃r,af ks ss sl' st'=À r/\Q r):∃r,af ks (.cons s ss) sl st=À r/\Q r:=by
 obtain⟨r,e,q⟩:=a;exact⟨r,au h e,q⟩
end
theorem F7{f:AV->AV->Option AV}{h:Nat->Nat->Nat} (t:∀x:Nat,x<16->∀y:Nat,y<16->(match f (.int x) (.int y) with
  |some (.int b)=>decide (b=(h x y:Int))
  |_=>Ã)=Â) {x y:Nat} (c:x<16) (a:y<16):f (.int (x:Int)) (.int (y:Int))=À (.int (h x y:Int)):=by
 have t:=t x c y a;split at t
 ·rename_i b e
  rw[of_decide_eq_true t]at e;exact e
 ·cases t
section
variable{st:aa}{os:List Nat}{n g k j:Nat}{D:List Int}
theorem tZ{x y:Nat}(b:x<16)(a:y<16):aW .BitOr st (.int (x:Int)) (.int (y:Int))=À (.int ((x ||| y:Nat):Int)):=by
 show aW .BitOr [] (.int (x:Int)) (.int (y:Int))=_;exact F7 (f:=aW .BitOr []) (h:=fun x y=>x ||| y) (by decide +kernel) b a
theorem iO{ks:List Fn}{a:Ex}{sl:Sl}{n:Nat}(h:ev ks a sl st=À (.int (n:Int),st))(b:n<=1000):fj ks (.r1 a) sl st=À (⟨(Æ n).map fun q:Nat=>AV.int (q:Int),[]⟩,st):=by
 show(ev ks a sl st).bind _=_;rw[h,Ä];dsimp only;have:gD (n:Int)=Â:=by
  unfold gD;refine yK ?_;rw[Ť];by_cases hz:n=0
  ·subst hz;decide
  ·exact yY ((č hz).mpr (yL b dC))
 rw[yH this,T!,pF];rfl
theorem lP{ks:List Fn}{a e:Ex}{sl:Sl}{y:AV}{xs:List AV}{k:Nat}(f:ev ks a sl st=À (.ref k,st))(d:ev ks e sl st=À (y,st))(b:st[k]?=À (.lst xs))(c:xs.length<=1000):cV ks (.ex (.mt .app a (.cons e .nil))) sl st=À (.nx sl (st.set k (.lst (xs++[y])))):=by
 simp[mX,se,rZ,f,rL,bG b,d,qS,iQ,b,cC c]
theorem eJ{α:Type}{ks:List Fn}{k:Nat}{it:Ix}{t:Tg}{c:Cx'}{e:Ex}{sl:Sl}{gd:Gd}{em:α->AV}{B:α->Bool}{F:α->AV}{xs:List α}(a:fj ks it sl st=À (⟨xs.map em,gd⟩,st))(b:cT gd st=Â)(hz:xs.length<=1000)
  (h:∀x∈xs,∃sl1,cM ks t (em x) (sl++È k Á) st=À (sl1,st)/\j5 ks c sl1 st=À (B x,st)/\(B x=Â->ev ks e sl1 st=À (F x,st))):j4 ks (.lc k it t c e) sl st=À ((xs.filter B).map F,st):=by
 rw[HH,a,Ä];dsimp only;rw[yH (cC (by rw[zH];exact hz))];exact iG b h
theorem cK{b:Bool}:fT st (.bl b)=À b:=rfl
theorem Ab{m:Nat}{l:List Int}:aT (cE (m+1) st) (iL l)=À (l.map ë):=dO (f:=cE (m+1) st) (i:=AV.int) (g:=ë) (fun _=>rfl) l
theorem tz(h:D≠[]):∃D' x,D=D'++[x]:=⟨D.dropLast,D.getLast h,(List.dropLast_concat_getLast h).symm⟩
end
section
variable{st:aa}{os:List Nat}{n g k j:Nat}{A B O:Pe}{D T:List Int}
def okD(D:List Int):Prop:=∀x∈D,0<=x/\x<2147483587
theorem okD.at{D:List Int}{x:Int}(h:okD (D++[x])):0<=x/\okD D:=⟨(h x (by simp)).1,fun y a=>h y (by simp[a])⟩
theorem sy{i:Nat}(a:i<T.length):aG st (.fz (iL T)) (.int (i:Int))=À (.int (SX.gI T i)):=by rw[cH dR,bS,cx a]
theorem i6{z c:Int}(a:fE c=Â)(b:0<c):aW .FloorDiv st (.int z) (.int c)=À (.int (z/c)):=by rw[qx a];exact congrArg (fun q=>À (AV.int q)) (yH b)
theorem fB{z c:Int}(a:0<c):aW .Mod st (.int z) (.int c)=À (.int (z%c)):=by rw[nY oM];exact congrArg (fun q=>À (AV.int q)) (yH a)
theorem Dd{l:List Int}:aZ cO [.fz (iL l)] st=À (.int ((l.length:Nat):Int),st):=by
 show À (AV.int ((iL l).length:Int),st)=_;rw[gf]
theorem Dw{l:List AV}{i:Int}(c:0<=i)(b:i<l.length):∃x∈l,aG st (.fz l) (.int i)=À x:=by
 obtain⟨q,rfl⟩:∃q:Nat,i=(q:Int):=⟨i.toNat,by lia⟩;have a:q<l.length:=by lia
 refine⟨l[q],Ø a,?_⟩;rw[cH dR,bS,zF a]
end
section
variable{st:aa}
theorem tf{l:List Int}:lsI st (.fz (iL l))=À l:=by
 unfold lsI;rw[dR,Ä];unfold nJ;rw[show iL l=l.map AV.int from rfl,dO (i:=AV.int) (g:=id) (fun _=>rfl),List.map_id]
theorem ju:∀l:List Gv,rfs (l.map Gv.av)=Â:=fun l=>dW fun x a=>by
 obtain⟨z,_,rfl⟩:=yC.mp a;simp[Gv.av,rf,rfs,bF]
variable{w:Nat}{RR:List (List Int)}{gv:List Gv}{X Y Z:Nat->Int}{e:Int}{goal:List Int}
theorem qG{r:List Int}:val w r (fun x=>X x+Z x)=val w r X+val w r Z:=by
 unfold val;rw[<- SX.sum_add];exact SX.sum_congr fun x _=>by grind
theorem Kp.add(h:Kp w RR gv X e)(c:Kp w RR gv Z 0):Kp w RR gv (fun x=>X x+Z x) e:=by
 refine⟨fun r d=>?_,fun z hz a=>?_,fun z hz a=>?_⟩
 ·have:=h.rule r d;have:=c.rule r d;rw[qG];lia
 ·have f:=h.eq z hz a;have b:=c.eq z hz a;rw[qG];rw[yO]at b;lia
 ·have f:=h.ge z hz a;have b:=c.ge z hz a;rw[qG];rw[yO]at b;lia
theorem HX{T d:Int}(hd:0<d):∃q:Int,0<q/\T=gI (ak [T,d]) 0*q/\d=gI (ak [T,d]) 1*q/\0<gI (ak [T,d]) 1:=by
 have a:gL [T,d]=Û T.natAbs d.natAbs:=by
  show Û (Û 0 T.natAbs) d.natAbs=_;rw[S7]
 have g:0<Û T.natAbs d.natAbs:=Nat.gcd_pos_of_pos_right _ oM;have e:ak [T,d]=[T/(Û T.natAbs d.natAbs:Int),d/(Û T.natAbs d.natAbs:Int)]:=by
  unfold ak;rw[yG (by rw[a];lia),a];rfl
 have f:((Û T.natAbs d.natAbs:Nat):Int) ∣ T:=ϓ.mp (ł.mpr (U! _ _));have b:((Û T.natAbs d.natAbs:Nat):Int) ∣ d:=ϓ.mp (ł.mpr (S8 _ _));rw[e];refine⟨(Û T.natAbs d.natAbs:Nat),by lia,(Ş f).symm,(Ş b).symm,?_⟩;show 0<d / _;have c:=Ş b;rcases T0 0 (d/((Û T.natAbs d.natAbs:Nat):Int)) with h|h|h
 ·exact h
 ·rw[<- h]at c;lia
 ·have:=Int.mul_neg_of_neg_of_pos h (show (0:Int) < ((Û T.natAbs d.natAbs:Nat):Int) by lia);lia
theorem pM{a b:Int}{m n:Nat}(d:a.natAbs<2^m)(c:b.natAbs<2^n):(a*b).natAbs<2^(m+n):=by
 rw[yZ,Ŭ];exact Nat.mul_lt_mul'' d c
theorem zy{a b:Int}{m:Nat}(d:a.natAbs<2^m)(c:b.natAbs<2^m):(a+b).natAbs<2^(m+1):=by
 rw[E!];generalize 2^m=q at *;lia
theorem C3{a b q:Int}{m:Nat}(h:b=a*q)(d:0<q)(c:b.natAbs<2^m):a.natAbs<2^m:=by
 refine yL ?_ c;rw[h,yZ];exact Nat.le_mul_of_pos_right _ oM
end
section
variable{nn:Int}{st:aa}{w:Nat}{RR:List (List Int)}{HO:Nat->List Int}{gv:List Gv}{r X Z goal:List Int}{Y:Nat->Int}{e D num:Int}
theorem Gi(n:Nat)(f:Nat->Int):Pg (n+1) f=f 0+Pg n fun i=>f (i+1):=by
 induction n with
 |zero=>simp[Pg]
 |succ n a=>rw[Pg,a,Pg];lia
theorem vQ:∀(r X:List Int),r.length=X.length->((r.zip X).map fun z=>z.1*z.2).sum=Pg r.length fun x=>gI r x*gI X x
 |[],_,_=>rfl
 |x::r,[],h=>by simp at h
 |x::r,y::X,h=>by
  rw[ă,zO,ϛ,vQ r X (by simpa using h),yX,Gi];rfl
theorem vK(a:r.length=w)(h:X.length=w)(g:w<=15)(d:∀x∈r,x.natAbs<2^9000)(f:∀x∈X,x.natAbs<2^9000):pm iK [.fz (iL r),.fz (iL X)] st=À (.int (val w r (gI X)),st):=by
 have e:=eJ (st:=[]) (ks:=[]) (k:=2) (it:=.zi (.v 0) (.v 1)) (t:=.tu 2 (.cons (.nm 2) (.cons (.nm 3) .nil))) (c:=.no) (e:=.bin .Mult (.v 2) (.v 3)) (sl:=[Ls r,Ls X]) (gd:=[]) (em:=fun z:Int×Int=>AV.tup [.int z.1,.int z.2]) (xs:=r.zip X) (B:=fun _=>Â) (F:=fun z=>AV.int (z.1*z.2)) (by
  rw[<- tI];rfl) rfl (by rw[ļ];lia) fun z hz=>by
   have:=ý hz
   exact⟨[Ls r,Ls X,Is z.1,Is z.2],rfl,rfl,fun _=>by simp[cj (cL (d _ this.1) (f _ this.2))]⟩
 rw[Ô.mpr (fun _ _=>rfl),show(r.zip X).map (fun z=>AV.int (z.1*z.2))=iL ((r.zip X).map fun z=>z.1*z.2) by unfold iL;rw[Ö];rfl]at e;have b:ev [] (.nw Ã (.lc 2 (.zi (.v 0) (.v 1)) (.tu 2 (.cons (.nm 2) (.cons (.nm 3) .nil))) .no (.bin .Mult (.v 2) (.v 3)))) [Ls r,Ls X] []=À (.fz (iL ((r.zip X).map fun z=>z.1*z.2)),[]):=by
  rw[dE,e,Ä,yH bF]
 refine aN (by simp[rfs,rf,bF]) (v:=.int (val w r (gI X))) (st':=[]) ?_ rfl;rw[iK,aw];show(af [] rp [Ls r,Ls X] []).bind ay=_;refine aX ?_;simp only[iB,wO,cG,c6,b,Ä,qr,aZ,ms,tf,Ð];rw[vQ r X oM,a];rfl
theorem ye{M N:Nat}(d:r.length=w)(j:X.length=w)(a:w<=15)(b:∀x∈r,x.natAbs<2^M)(c:∀x∈X,x.natAbs<2^N):(val w r (gI X)).natAbs<2^(M+N+4):=by
 have h:=SX.abs_sum (n:=w) (f:=fun x=>gI r x*gI X x) (M:=2^(M+N)) fun i g=>by
  rw[yZ,Ŭ];exact ţ (yY (nO b (Ñ _) i)) (yY (nO c (Ñ _) i))
 have k:w*2^(M+N)<=15*2^(M+N):=ϑ _ a;have e:=Ñ (M+N);unfold val;rw[Ŭ _ (M+N)];generalize 2^(M+N)=B at *;lia
theorem Kp.scale{c:Int}(b:0<=c)(h:Kp w RR gv Y 0):Kp w RR gv (fun x=>c*Y x) 0:=by
 have e:∀r,val w r (fun x=>c*Y x)=c*val w r Y:=fun r=>nj fun _ _=>rfl
 refine⟨fun r d=>?_,fun z hz a=>?_,fun z hz a=>?_⟩
 ·rw[e];exact è b (h.rule r d)
 ·rw[e,h.eq z hz a,yO,yO]
 ·rw[e,yO]
  have:=h.ge z hz a
  rw[yO]at this;exact è b this
theorem gi{x:Int}{M:Nat}(h:x.natAbs<2^M)(a:M<=9000):x.natAbs<2^9000:=zJ h (Č dC a)
theorem Ki{a b:Int}:aZ qR [.int a,.int b] st=À (.int (max a b),st):=by
 have:aZ qR [.int a,.int b] st=À (.int (if b > a then b else a),st):=rfl;rw[this];congr 3;split<;>lia
structure wE(w:Nat)(RR:List (List Int))(gv:List Gv)(X:List Int)(D:Int):Prop where
 len:X.length=w
 pos:0<D
 bd:(∀x∈X,x.natAbs<2^9000)/\D.natAbs<2^9000
 kp:Kp w RR gv (gI X) D
 lo1:gL (X++[D])=1
theorem TbS.f(h:TbS w RR gv X D):wE w RR gv X D:=⟨h.len,h.pos,⟨fun x a=>gi (h.bd.1 x a) dC,gi h.bd.2 dC⟩,h.kp,h.lo1⟩
theorem FJ(A:w<=15)(G:r.length=w)(I:∀x∈r,x.natAbs<2^121)(bn:num.natAbs<2^121)(T:TbS w RR gv X D)(hZ:Z.length=w/\∀x∈Z,x.natAbs<2^2500)(KZ:Kp w RR gv (gI Z) 0)(hn:val w r (gI Z)<0) :
  ∃V E,(∀st,pm fb [.tup [.fz (iL X),.int D],.fz (iL Z),.fz (iL r),.int num] st=À (.tup [.fz (iL V),.int E],st))/\wE w RR gv V E/\val w r (gI V)<num*E:=by
 obtain⟨Y,N,⟨R,n⟩,KX,_⟩:=T;obtain⟨Zl,J⟩:=hZ;have bx:=ye G Y A I R;have bz:=ye G Zl A I J;have vx:=fun st=>vK (st:=st) G Y A (fun x h=>gi (I x h) dC) (fun x h=>gi (R x h) dC)
 have vz:=fun st=>vK (st:=st) G Zl A (fun x h=>gi (I x h) dC) (fun x h=>gi (J x h) dC)
 generalize M:val w r (gI X)=U at *;generalize L:val w r (gI Z)=y at *;obtain⟨f,p⟩:∃f,f=U-num*D:=⟨_,rfl⟩;obtain⟨fl,m⟩:∃fl,fl=- y*D:=⟨_,rfl⟩;have m1:eI num D=Â:=cL (gi bn dC) (gi n dC);have m2:eI (- y) D=Â:=cL (by rw[Þ];exact gi bz dC) (gi n dC);have O:0<fl:=by rw[m];exact N! oM N
 have Q:fl.natAbs<2^5125:=by
  have:=pM (a:=- y) (b:=D) (by rw[Þ];exact bz) n
  rw[m];exact this
 have bab:f.natAbs<2^2627:=by
  have q:=pM bn n;have o:U.natAbs<2^2626:=zJ bx (Č dC dC);have h3:(- (num*D)).natAbs<2^2626:=by rw[Þ];exact zJ q (Č dC dC)
  have:=zy o h3
  rw[p,Int.sub_eq_add_neg];exact this
 obtain⟨s,C⟩:∃s,s=max 0 (f/fl+1):=⟨_,rfl⟩;have s0:0<=s:=by rw[C];lia
 have bs:s.natAbs<2^2629:=by
  have q:(f/fl).natAbs<=f.natAbs+1:=by
   have:=Int.natAbs_ediv_le_natAbs f fl
   lia
  have o:(2:Nat)^2629=2^2627*4:=by rw[show(4:Nat)=2^2 from rfl,<- Ŭ]
  have h3:=Ñ 2627;rw[C,o];generalize (2:Nat)^2627=B at *;lia
 have u:=pM bs n;have m3:eI s D=Â:=cL (gi bs dC) (gi n dC);have dv:fE fl=Â:=u7 oM (gi Q dC);obtain⟨V,H⟩:∃V,V=(X.zip Z).map fun z=>z.1+s*D*z.2:=⟨_,rfl⟩
 have W:V.length=w:=by rw[H,zH,ļ];lia
 have S:∀x∈V,x.natAbs<2^9000:=fun x j=>by
  rw [H] at j;obtain ⟨z,hz,rfl⟩:=yC.mp j;obtain ⟨z1,z2⟩:=ý hz;have q:=pM u (J _ z2);have o:=zy (zJ (R _ z1) (Č dC (show 2500 <= 2629 + 2500 + 2500 by decide))) q;exact gi o dC
 have gV:∀x,x<w->gI V x=gI X x+s*D*gI Z x:=fun x j=>by rw[H,SX.gI_zip oM oM]
 have KV:Kp w RR gv (gI V) D:=by
  have h:=KX.add (KZ.scale (è s0 (ď N)));exact h.div (g:=1) dC oM fun x j=>by rw[gV x j,ů]
 have K:val w r (gI V)<num*D:=by
  have e1:val w r (gI V)=U+s*D*y:=by
   rw[<- M,<- L];unfold val;rw[<- SX.sum_mul,<- SX.sum_add];exact SX.sum_congr fun x j=>by rw[gV x j];grind
  have q:=Int.lt_ediv_add_one_mul_self f O;have o:(f/fl+1)*fl<=s*fl:=Ü (by rw[C];lia) (ď O);have e2:s*D*y=- (s*fl):=by rw[m];grind
  lia
 obtain⟨g,hg,ed,P,ll,hp,K',lo⟩:=TbS.low W N ⟨S,gi n dC⟩ KV;have b2:=kR (l:=V++[D]) (Ñ 9000) fun x j=>by
  rcases zZ.mp j with h|h
  ·exact S x h
  ·rw[zM.mp h];exact gi n dC
 refine⟨(ak (V++[D])).take w,gI (ak (V++[D])) w,fun st=>?_,⟨ll,hp,⟨g9 fun i hi=>?_,b2 w⟩,K',lo⟩,?_⟩
 ·have lt:=Ac (X:=V) (d:=D) oM S (gi n dC)
  rw[W]at lt;have lt:pm bY [.fz (iL V),.int D] []=À (.tup [.fz (iL ((ak (V++[D])).take w)),.int (gI (ak (V++[D])) w)],[]):=aN (by simp[rfs,rf,bF]) lt rfl;refine aN (by simp[rfs,rf,bF]) (v:=.tup [.fz (iL ((ak (V++[D])).take w)),.int (gI (ak (V++[D])) w)]) (st':=[]) ?_ rfl;have i0:aG [] (.tup [.fz (iL X),.int D]) (.int 0)=À (.fz (iL X)):=rfl;have i1:aG [] (.tup [.fz (iL X),.int D]) (.int 1)=À (.int D):=rfl;rw[fb,aw];show(af [iK,bY] gk [À (.tup [.fz (iL X),.int D]),Ls Z,Ls r,Is num,Á,Á,Á,Á] []).bind ay=_;unfold gk;refine ad (sl':=[À (.tup [.fz (iL X),.int D]),Ls Z,Ls r,Is num,Is D,Á,Á,Á]) (st':=[]) (by simp[i1]) ?_;refine ad (sl':=[À (.tup [.fz (iL X),.int D]),Ls Z,Ls r,Is num,Is D,Is f,Á,Á]) (st':=[]) (by simp[i0,vx,cj m1,p]) ?_;refine ad (sl':=[À (.tup [.fz (iL X),.int D]),Ls Z,Ls r,Is num,Is D,Is f,Is fl,Á]) (st':=[]) (by simp[vz,cj m2,m,kN]) ?_;refine ad (sl':=[À (.tup [.fz (iL X),.int D]),Ls Z,Ls r,Is num,Is D,Is f,Is fl,Is s]) (st':=[]) (by simp[i6 dv O,Ki,<- C]) (aX ?_);have e:=eJ (st:=[]) (ks:=[iK,bY]) (k:=2) (it:=.zi (.ix (.v 0) (.i 0)) (.v 1)) (t:=.tu 2 (.cons (.nm 8) (.cons (.nm 9) .nil))) (c:=.no) (e:=.bin .Add (.v 8) (.bin .Mult (.bin .Mult (.v 7) (.v 4)) (.v 9))) (sl:=[À (.tup [.fz (iL X),.int D]),Ls Z,Ls r,Is num,Is D,Is f,Is fl,Is s]) (gd:=[]) (em:=fun z:Int×Int=>AV.tup [.int z.1,.int z.2]) (xs:=X.zip Z) (B:=fun _=>Â) (F:=fun z=>AV.int (z.1+s*D*z.2)) (by
   rw[<- tI];rfl) rfl (by rw[ļ];lia) fun z hz=>by
    have:=ý hz
    exact⟨[À (.tup [.fz (iL X),.int D]),Ls Z,Ls r,Is num,Is D,Is f,Is fl,Is s,Is z.1,Is z.2],rfl,rfl,fun _=>by simp[cj m3,cj (cL (gi u dC) (gi (J _ this.2) dC))]⟩
  rw[Ô.mpr (fun _ _=>rfl),show(X.zip Z).map (fun z=>AV.int (z.1+s*D*z.2))=iL V by rw[H];unfold iL;rw[Ö];rfl]at e;have e2:ev [iK,bY] (.nw Ã (.lc 2 (.zi (.ix (.v 0) (.i 0)) (.v 1)) (.tu 2 (.cons (.nm 8) (.cons (.nm 9) .nil))) .no (.bin .Add (.v 8) (.bin .Mult (.bin .Mult (.v 7) (.v 4)) (.v 9))))) [À (.tup [.fz (iL X),.int D]),Ls Z,Ls r,Is num,Is D,Is f,Is fl,Is s] []=À (.fz (iL V),[]):=by
   rw[dE,e,Ä,yH bF]
  simp only[iB,jd,cG,c6,e2,gN,eP,eZ,Ä,Ð,jT,jf,kA,lt]
 ·rw[nM oM];exact b2 i
 ·rw[P r]at K
  generalize (ak (V++[D])).take w=V' at *;generalize gI (ak (V++[D])) w=E at *;rw[ed]at K;exact Int.lt_of_mul_lt_mul_left (a:=g) (by rw[show g*(num*E)=num*(g*E) by grind];exact K) (ď hg)
end
section
variable{nn:Int}{st:aa}{w:Nat}{RR:List (List Int)}{HO:Nat->List Int}{gv:List Gv}{r X Z goal:List Int}{Y:Nat->Int}{e D num:Int}{z:Gv}
inductive Pp where
 |nv (W:List Int)
 |by_ (K:Int) (W:List Int)
def Pp.av:Pp->AV
 |.nv W=>.tup [.str "never",.fz (iL W)]
 |.by_ K W=>.tup [.str "by",.int K,.fz (iL W)]
theorem JV{n:Nat}(p:Pp):bC (n+1) st p.av=À p.av:=by cases p<;>(cases n<;>rfl)
theorem JX{k:Nat}{ps:List Pp}(h:st[k]?=À (.lst (ps.map Pp.av))):dN st (.tup [.bl Â,.ref k])=À (.tup [.bl Â,.fz (ps.map Pp.av)]):=by
 have e:aT (bC 4 st) (ps.map Pp.av)=À (ps.map Pp.av):=dO (f:=bC 4 st) (i:=Pp.av) (g:=Pp.av) (fun p=>JV p) ps;show(aT (bC 5 st) [.bl Â,.ref k]).map AV.tup=_;have b:bC 5 st (.ref k)=À (.fz (ps.map Pp.av)):=by
  show(match st[k]? with
  |some (.lst a)=>(aT (bC 4 st) a).map AV.fz
  |some (.al t)=>À t
  |_=>Á)=_
  rw[h];simp only[e,Ð]
 simp only[aT,b,show bC 5 st (.bl Â)=À (.bl Â) from rfl,Ä,Ð]
def AZ(w:Nat)(RR:List (List Int))(gv:List Gv)(r:List Int)(num:Int):Pp->Prop
 |.nv W=>∃N,Ct w RR gv r W 0 N/\0<N
 |.by_ K W=>∃N,Ct w RR gv r W K N/\0<K/\num*K<=N
def FU(w:Nat)(RR:List (List Int))(gv:List Gv)(r:List Int)(num:Int)(t:AV):Prop :=
 (∃p:Pp,t=.tup [.bl Â,p.av]/\AZ w RR gv r num p) \/
 ∃V E,t=.tup [.bl Ã,.tup [.fz (iL V),.int E]]/\wE w RR gv V E/\val w r (gI V)<num*E
theorem M8(q:Qu nn w RR HO gv r)(br:∀x∈r,x.natAbs<2^121)(R:num.natAbs<2^121):∃t,(∀st,pm bI [.int nn,.fz (gv.map Gv.av),.fz (iL r),.int num] st=À (t,st))/\FU w RR gv r num t:=by
 obtain⟨t,B,A⟩:=Jd q;have B:=B [];have s:∃i,bI [.int nn,.fz (gv.map Gv.av),.fz (iL r),.int num] []=À i/\∃t,dN i.2 i.1=À t/\FU w RR gv r num t:=by
  rw[bI,aw];show ∃i,(af [iN,fb] fu [Is nn,Zs (gv.map Gv.av),Ls r,Is num,Á] []).bind ay=À i/\_;unfold fu;refine ai (sl':=[Is nn,Zs (gv.map Gv.av),Ls r,Is num,À t]) (st':=[]) (by simp[B]) ?_;rcases A with⟨W,N,rfl,h⟩|⟨T,d,X,D,K,N,W,rfl,hd,⟨bT,bd⟩,⟨m,G⟩,C,P,O⟩|⟨X,D,Z,rfl,m,hZ,KZ,S⟩
  ·refine fx (v:=.tup [.bl Â,.tup [.str "never",.fz (iL W)]]) (st':=[]) ?_ ⟨_,rfl,.inl ⟨.nv W,rfl,N,h⟩⟩
   have f:aG [] (.tup [.str "never",.fz (iL W)]) (.int 0)=À (.str "never"):=rfl;have eq:aY .Eq [] (.str "never") (.str "never")=À Â:=by kernel_rfl
   simp[f,eq,mB]
  ·obtain⟨c,M,k,j,L⟩:=HX (T:=T) hd
   have bp:=C3 k M bT;have bq:=C3 j M bd;generalize gI (ak [T,d]) 0=p at *;generalize gI (ak [T,d]) 1=b at *;obtain⟨u,e⟩:∃u,u=AV.tup [.str "least",.tup [.int p,.int b],.tup [.fz (iL X),.int D],.int K,.fz (iL W)]:=⟨_,rfl⟩;have f:aG [] u (.int 0)=À (.str "least"):=by rw[e];rfl
   have l:aG [] u (.int 1)=À (.tup [.int p,.int b]):=by rw[e];rfl
   have y:aG [] u (.int 2)=À (.tup [.fz (iL X),.int D]):=by rw[e];rfl
   have i3:aG [] u (.int 3)=À (.int K):=by rw[e];rfl
   have i4:aG [] u (.int 4)=À (.fz (iL W)):=by rw[e];rfl
   have J:aG [] (.tup [.int p,.int b]) (.int 0)=À (.int p):=rfl;have I:aG [] (.tup [.int p,.int b]) (.int 1)=À (.int b):=rfl;have o:aY .Eq [] (.str "least") (.str "never")=À Ã:=by kernel_rfl
   have n:aY .Eq [] (.str "least") (.str "endless")=À Ã:=by kernel_rfl
   have H:aW .Mult [] (.int num) (.int b)=À (.int (num*b)):=cj (cL (gi R dC) (gi bq dC));rw[<- e];refine ai (sl':=[Is nn,Zs (gv.map Gv.av),Ls r,Is num,À u]) (st':=[]) (by simp[f,o]) ?_;refine ai (sl':=[Is nn,Zs (gv.map Gv.av),Ls r,Is num,À u]) (st':=[]) (by simp[f,n]) ?_;by_cases z:p<num*b
   ·refine fx (v:=.tup [.bl Ã,.tup [.fz (iL X),.int D]]) (st':=[]) (by simp[l,y,J,I,H,z,mB]) ⟨_,rfl,.inr ⟨X,D,rfl,m.f,?_⟩⟩
    rw[k,j]at G;have Y:val w r (gI X)*b=p*D:=ĩ (a:=c) oM (by rw[show val w r (gI X)*b*c=val w r (gI X)*(b*c) by grind,G];grind);have Q:p*D<num*b*D:=Int.mul_lt_mul_of_pos_right z m.pos;exact Int.lt_of_mul_lt_mul_right (a:=b) (by rw[Y,show num*D*b=num*b*D by grind];exact Q) (ď L)
   ·refine ai (sl':=[Is nn,Zs (gv.map Gv.av),Ls r,Is num,À u]) (st':=[]) (by simp[l,J,I,H,z]) ?_
    refine fx (v:=.tup [.bl Â,.tup [.str "by",.int K,.fz (iL W)]]) (st':=[]) (by simp[i3,i4]) ⟨_,rfl,.inl ⟨.by_ K W,rfl,N,C,P,?_⟩⟩;rw[k,j]at O;have Q:p*K=N*b:=ĩ (a:=c) oM (by rw[show p*K*c=p*c*K by grind,O];grind);have h3:num*b*K<=p*K:=Ü oM (ď P);exact Ĩ (a:=b) (by rw[show num*K*b=num*b*K by grind];lia) L
  ·obtain⟨V,E,g,TV,U⟩:=FJ (num:=num) q.hw q.Z.o br R m hZ KZ S
   have g:=g [];obtain⟨u,e⟩:∃u,u=AV.tup [.str "endless",.tup [.fz (iL X),.int D],.fz (iL Z)]:=⟨_,rfl⟩;have f:aG [] u (.int 0)=À (.str "endless"):=by rw[e];rfl
   have l:aG [] u (.int 1)=À (.tup [.fz (iL X),.int D]):=by rw[e];rfl
   have y:aG [] u (.int 2)=À (.fz (iL Z)):=by rw[e];rfl
   have o:aY .Eq [] (.str "endless") (.str "never")=À Ã:=by kernel_rfl
   have n:aY .Eq [] (.str "endless") (.str "endless")=À Â:=by kernel_rfl
   rw[<- e];refine ai (sl':=[Is nn,Zs (gv.map Gv.av),Ls r,Is num,À u]) (st':=[]) (by simp[f,o]) ?_;refine fx (v:=.tup [.bl Ã,.tup [.fz (iL V),.int E]]) (st':=[]) (by simp[f,l,y,n,g,mB]) ⟨_,rfl,.inr ⟨V,E,rfl,TV,U⟩⟩
 obtain⟨i,k,t,j,F⟩:=s;exact⟨t,fun st=>aN (by simp[rfs,rf,bF,ju]) k j,F⟩
noncomputable def jD(l:List Int):List Int:=l.map fun x=>- x
def dy(z:Gv):List Gv:=⟨z.row,Ã,z.num⟩::if z.eq=Â then [⟨jD z.row,Ã,- z.num⟩] else []
theorem Mm(o:z.row.length<=1000):pm bE [z.av] st=À (.fz ((dy z).map Gv.av),st):=by
 obtain⟨r,b,d⟩:=z;have o:r.length<=1000:=o;have v:∀st,aG st (Gv.av ⟨r,b,d⟩) (.int 0)=À (.fz (iL r)):=fun _=>rfl
 have j:∀st,aG st (Gv.av ⟨r,b,d⟩) (.int 1)=À (.str (if b=Â then "=" else ">")):=fun _=>rfl
 have q:∀st,aG st (Gv.av ⟨r,b,d⟩) (.int 2)=À (.int d):=fun _=>rfl
 have m:∀st,aY .Eq st (.str (if b=Â then "=" else ">")) (.str "=")=À b:=fun st=>by cases b<;>kernel_rfl
 obtain⟨u,w⟩:∃u,u=Gv.av ⟨r,b,d⟩:=⟨_,rfl⟩;have D:rf u=Â:=by rw[w];simp[Gv.av,rf,rfs,bF]
 rw[<- w]at v j q ⊢;have n:∃st',bE [u] []=À (.ref 0,st')/\st'[0]?=À (.lst ((dy ⟨r,b,d⟩).map Gv.av)):=by
  rw[bE,aw];unfold gF;have A:∀{x y},(af [] x [À u,Ls r,Is d,Rs 0] [.lst [Gv.av ⟨r,Ã,d⟩]]).bind ay=À y->(af [] (.cons (.as (.ix (.v 0) (.i 0)) (.nm 1)) (.cons (.as (.ix (.v 0) (.i 2)) (.nm 2)) (.cons (.as (.nw Â (.li (.cons (.tu (.cons (.v 1) (.cons (.s ">") (.cons (.v 2) .nil)))) .nil))) (.nm 3)) x))) [À u,Á,Á,Á] []).bind ay=À y:=fun {x y} h=>by
   refine ad (sl':=[À u,Ls r,Á,Á]) (st':=[]) (by simp[v]) ?_;refine ad (sl':=[À u,Ls r,Is d,Á]) (st':=[]) (by simp[q]) ?_;exact ad (sl':=[À u,Ls r,Is d,Rs 0]) (st':=[.lst [Gv.av ⟨r,Ã,d⟩]]) (by simp[cU];rfl) h
  cases b with
  |false =>
   refine⟨[.lst [Gv.av ⟨r,Ã,d⟩]],A (ad (sl':=[À u,Ls r,Is d,Rs 0]) (st':=[.lst [Gv.av ⟨r,Ã,d⟩]]) (by
    have m:=m [.lst [Gv.av ⟨r,Ã,d⟩]];have j:=j [.lst [Gv.av ⟨r,Ã,d⟩]];generalize AV.str (if Ã=Â then "=" else ">")=s at m j;simp[j,m]) (aX rfl)),rfl⟩
  |true =>
   refine⟨[.lst [Gv.av ⟨r,Ã,d⟩,Gv.av ⟨jD r,Ã,- d⟩]],A (ad (sl':=[À u,Ls r,Is d,Rs 0]) (st':=[.lst [Gv.av ⟨r,Ã,d⟩,Gv.av ⟨jD r,Ã,- d⟩]]) ?_ (aX rfl)),rfl⟩;have m:=m [.lst [Gv.av ⟨r,Ã,d⟩]];have j:=j [.lst [Gv.av ⟨r,Ã,d⟩]];have e:=eJ (st:=[.lst [Gv.av ⟨r,Ã,d⟩]]) (ks:=[]) (k:=1) (it:=.e (.v 1)) (t:=.nm 4) (c:=.no) (e:=.un .USub (.v 4)) (sl:=[À u,Ls r,Is d,Rs 0]) (gd:=[]) (em:=AV.int) (xs:=r) (B:=fun _=>Â) (F:=fun x=>AV.int (- x)) rfl rfl o fun x H=>⟨[À u,Ls r,Is d,Rs 0,Is x],rfl,rfl,fun _=>rfl⟩
   rw[Ô.mpr (fun _ _=>rfl),show r.map (fun x=>AV.int (- x))=iL (jD r) by unfold iL jD;rw[Ö];rfl]at e;have p:ev [] (.nw Ã (.lc 1 (.e (.v 1)) (.nm 4) .no (.un .USub (.v 4)))) [À u,Ls r,Is d,Rs 0] [.lst [Gv.av ⟨r,Ã,d⟩]]=À (.fz (iL (jD r)),[.lst [Gv.av ⟨r,Ã,d⟩]]):=by
    rw[dE,e,Ä,yH bF]
   have G:=lP (ks:=[]) (a:=.v 3) (e:=.tu (.cons (.nw Ã (.lc 1 (.e (.v 1)) (.nm 4) .no (.un .USub (.v 4)))) (.cons (.s ">") (.cons (.un .USub (.v 2)) .nil)))) (y:=Gv.av ⟨jD r,Ã,- d⟩) (k:=0) (xs:=[Gv.av ⟨r,Ã,d⟩]) (sl:=[À u,Ls r,Is d,Rs 0]) (st:=[.lst [Gv.av ⟨r,Ã,d⟩]]) rfl (by
    simp only[wL,cG,c6,p,Ä,Ð];rfl) rfl (by simp)
   generalize AV.str (if Â=Â then "=" else ">")=s at m j;have C:tv [] (.cmp .Eq (.ix (.v 0) (.i 1)) (.s "=")) [À u,Ls r,Is d,Rs 0] [.lst [Gv.av ⟨r,Ã,d⟩]]=À (Â,[.lst [Gv.av ⟨r,Ã,d⟩]]):=by simp[j,m]
   rw[d5,C,Ä];exact au G rfl
 obtain⟨st',E,p⟩:=n;refine aN (by simp[rfs,D]) E ?_;have:∀l:List Gv,aT (bC 5 st') (l.map Gv.av)=À (l.map Gv.av):=fun l=>dO (f:=bC 5 st') (i:=Gv.av) (g:=Gv.av) (fun z=>rfl) l
 show bC 6 st' (.ref 0)=_;unfold bC;simp only[p,this,Ð]
end
section
variable{nn:Int}{st:aa}{w:Nat}{RR:List (List Int)}{HO:Nat->List Int}{gv:List Gv}{Y:Nat->Int}{e:Int}{z:Gv}
def Hd(w:Nat)(z:Gv)(Y:Nat->Int)(e:Int):Prop:=z.num*e<=val w z.row Y/\(z.eq=Â->val w z.row Y=z.num*e)
theorem hd_ups:Hd w z Y e ↔ ∀u∈dy z,u.num*e<=val w u.row Y:=by
 obtain⟨r,b,a⟩:=z;unfold Hd dy;cases b with
 |false=>simp
 |true =>
  have i:val w (jD r) Y=- val w r Y:=qF;have g:- a*e=- (a*e):=Int.neg_mul _ _;constructor
  ·rintro⟨d,c⟩ u f
   have c:=c rfl;dsimp only at d c;rcases zT.mp f with rfl|f
   ·exact d
   ·rw[zM.mp f]
    dsimp only;lia
  ·intro h
   have d:=h _ z7;have c:=h _ (zQ _ (zM.mpr rfl));dsimp only at d c ⊢;exact⟨d,fun _=>by lia⟩
def FS(w:Nat)(RR:List (List Int))(gv:List Gv)(z:Gv)(t:AV):Prop :=
 (∃a:List Pp,t=.tup [.bl Â,.fz (a.map Pp.av)]/\a.length=(dy z).length/\∀(j:Nat) u p,(dy z)[j]?=À u->a[j]?=À p->AZ w RR gv u.row u.num p) \/
 ∃V E,t=.tup [.bl Ã,.tup [.fz (iL V),.int E]]/\wE w RR gv V E/\¬Hd w z (gI V) E
theorem KM(Z:z.row.length<=1000)(C:∀u∈dy z,Qu nn w RR HO gv u.row/\(∀x∈u.row,x.natAbs<2^121)/\u.num.natAbs<2^121):∃t,(∀st,pm df [.int nn,.fz (gv.map Gv.av),z.av] st=À (t,st))/\FS w RR gv z t:=by
 have hf:∀u∈dy z,u.eq=Ã:=fun u h=>by
  unfold dy at h;rcases zT.mp h with rfl|h
  ·rfl
  ·split at h
   ·rw[zM.mp h]
   ·cases h
 have A:=nQ (gd:=[]) (g:=cM [bE,bI] (.tu 3 (.cons (.nm 4) (.cons (.nm 5) (.cons (.nm 6) .nil)))))
  (s:=af [bE,bI] (.cons (.as (.ca Â 1 (.cons (.v 0) (.cons (.v 1) (.cons (.v 4) (.cons (.v 6) .nil))))) (.nm 7))
 (.cons (.iff (.no (.va (.ix (.v 7) (.i 0))))
 (.cons (.rt (.v 7))
 .nil)
 .nil)
 (.cons (.ex (.mt .app (.v 3) (.cons (.ix (.v 7) (.i 1)) .nil)))
 .nil))))
  (I:=fun i sl st=>∃(f:List Pp)(a b c d:Option AV),st=[.lst (f.map Pp.av)]/\f.length=i/\sl=[Is nn,Zs (gv.map Gv.av),À z.av,Rs 0,a,b,c,d]/\∀(j:Nat) u p,(dy z)[j]?=À u->f[j]?=À p->AZ w RR gv u.row u.num p)
  (Post:=fun v _=>∃V E,v=.tup [.bl Ã,.tup [.fz (iL V),.int E]]/\wE w RR gv V E/\∃u∈dy z,val w u.row (gI V)<u.num*E) (xs:=(dy z).map Gv.av) (fun _ _ _ _ _=>rfl) (fun i x sl st Q L=>by
   obtain⟨f,a,b,c,d,es,G,N,M⟩:=L;subst es;subst N;rw[zR]at Q;obtain⟨u,n,rfl⟩:=zE.mp Q;have D:=zW n;have hi2:i<2:=by
    have h1:=(zB.mp n).1;have h2:(dy z).length<=2:=by unfold dy;split<;>simp
    lia
   obtain⟨q,b1,b2⟩:=C u D;obtain⟨t,r,F⟩:=M8 q b1 b2;have r:=r [.lst (f.map Pp.av)];obtain⟨m,W,un⟩:=u;have:W=Ã:=hf _ D;subst this;rcases F with⟨p,rfl,hp⟩|⟨V,E,rfl,O,S⟩
   ·have B:∀st,aG st (.tup [.bl Â,p.av]) (.int 0)=À (.bl Â):=fun _=>rfl
    have P:∀st,aG st (.tup [.bl Â,p.av]) (.int 1)=À p.av:=fun _=>rfl
    obtain⟨t,J⟩:∃t,t=AV.tup [.bl Â,p.av]:=⟨_,rfl⟩;rw[<- J]at B P r;refine⟨([Is nn,Zs (gv.map Gv.av),À z.av,Rs 0,Ls m,À (.str ">"),Is un,d],[.lst (f.map Pp.av)]),.nx [Is nn,Zs (gv.map Gv.av),À z.av,Rs 0,Ls m,À (.str ">"),Is un,À t] [.lst ((f++[p]).map Pp.av)],rfl,?_,.inl ⟨_,_,rfl,f++[p],_,_,_,_,rfl,by simp[G],rfl,fun j u Y C l=>?_⟩⟩
    ·refine au (sl':=[Is nn,Zs (gv.map Gv.av),À z.av,Rs 0,Ls m,À (.str ">"),Is un,À t]) (st':=[.lst (f.map Pp.av)]) (by simp[r]) ?_
     refine au (sl':=[Is nn,Zs (gv.map Gv.av),À z.av,Rs 0,Ls m,À (.str ">"),Is un,À t]) (st':=[.lst (f.map Pp.av)]) (by simp[B,cK]) ?_;have ap:=lP (ks:=[bE,bI]) (a:=.v 3) (e:=.ix (.v 7) (.i 1)) (y:=p.av) (k:=0) (xs:=f.map Pp.av) (sl:=[Is nn,Zs (gv.map Gv.av),À z.av,Rs 0,Ls m,À (.str ">"),Is un,À t]) (st:=[.lst (f.map Pp.av)]) rfl (by simp[P]) rfl (by simp;lia);refine au ap ?_;show À _=À _;simp
    ·have R:=(zB.mp l).1
     rw[zV,G]at R;by_cases h:j=i
     ·subst h
      rw[n]at C;obtain rfl:=yD C;rw[z6 oM,G,D?]at l;obtain rfl:=yD l;exact hp
     ·rw[zN (by simp at R;lia)]at l
      exact M j u Y C l
   ·have B:∀st,aG st (.tup [.bl Ã,.tup [.fz (iL V),.int E]]) (.int 0)=À (.bl Ã):=fun _=>rfl
    obtain⟨t,J⟩:∃t,t=AV.tup [.bl Ã,.tup [.fz (iL V),.int E]]:=⟨_,rfl⟩;rw[<- J]at B r;refine⟨([Is nn,Zs (gv.map Gv.av),À z.av,Rs 0,Ls m,À (.str ">"),Is un,d],[.lst (f.map Pp.av)]),.rt t [.lst (f.map Pp.av)],rfl,?_,.inr ⟨_,_,rfl,V,E,J,O,_,D,S⟩⟩;refine au (sl':=[Is nn,Zs (gv.map Gv.av),À z.av,Rs 0,Ls m,À (.str ">"),Is un,À t]) (st':=[.lst (f.map Pp.av)]) (by simp[r]) ?_;refine f7 ?_;simp[B,cK,mB]) (sl:=[Is nn,Zs (gv.map Gv.av),À z.av,Rs 0,Á,Á,Á,Á]) (st:=[.lst []]) ⟨[],_,_,_,_,rfl,rfl,rfl,fun j _ _ _ h=>by simp at h⟩
 have K:∃o,df [.int nn,.fz (gv.map Gv.av),z.av] []=À o/\∃t,dN o.2 o.1=À t/\FS w RR gv z t:=by
  rw[df,aw];show ∃o,(af [bE,bI] ki [Is nn,Zs (gv.map Gv.av),À z.av,Á,Á,Á,Á,Á] []).bind ay=À o/\_;unfold ki;refine ai (sl':=[Is nn,Zs (gv.map Gv.av),À z.av,Rs 0,Á,Á,Á,Á]) (st':=[.lst []]) rfl ?_;have U:=Mm (st:=[.lst []]) Z;have T:fj [bE,bI] (.e (.ca Â 0 (.cons (.v 2) .nil))) [Is nn,Zs (gv.map Gv.av),À z.av,Rs 0,Á,Á,Á,Á] [.lst []]=À (⟨(dy z).map Gv.av,[]⟩,[.lst []]):=by simp[U]
  rcases A with⟨sl',st',H,f,a,b,c,d,rfl,G,rfl,M⟩|⟨v,st',H,V,E,rfl,O,u,D,S⟩
  ·refine ai (sl':=[Is nn,Zs (gv.map Gv.av),À z.av,Rs 0,a,b,c,d]) (st':=[.lst (f.map Pp.av)]) (by rw[jC,T,Ä];exact H) ?_
   refine fx (v:=.tup [.bl Â,.ref 0]) (st':=[.lst (f.map Pp.av)]) rfl ⟨_,JX rfl,.inl ⟨f,rfl,by rw[G,zH],M⟩⟩
  ·refine⟨(.tup [.bl Ã,.tup [.fz (iL V),.int E]],st'),aX (by rw[jC,T,Ä];exact H),_,rfl,.inr ⟨V,E,rfl,O,fun h=>?_⟩⟩
   have:=hd_ups.mp h u D
   lia
 obtain⟨o,H,t,e2,F⟩:=K;have X:rf z.av=Â:=by simp[Gv.av,rf,rfs,bF]
 exact⟨t,fun st=>aN (by simp[rfs,rf,ju,X]) H e2,F⟩
theorem M9{n:Nat}(d:fA n)(g:gv.length<=100)(i:∀z∈gv,z.row.length=2^n-1/\(∀x∈z.row,x.natAbs<=M0)/\z.num.natAbs<=M0)(b:z.row.length=2^n-1/\(∀x∈z.row,x.natAbs<=M0)/\z.num.natAbs<=M0):∃t,(∀st,pm df [.int n,.fz (gv.map Gv.av),z.av] st=À (t,st))/\FS (2^n-1) (bB n) gv z t:=by
 have j:2^n-1<=15:=by rcases d with rfl|rfl|rfl|rfl<;>decide
 have e:M0<2^121:=ħ dC dC;have a:∀u∈dy z,u.row.length=2^n-1/\(∀x∈u.row,x.natAbs<=M0)/\u.num.natAbs<=M0:=fun u h=>by
  unfold dy at h;rcases zT.mp h with rfl|h
  ·exact b
  ·split at h
   ·rw[zM.mp h]
    refine⟨by simp[jD,b.1],fun x c=>?_,by rw[Þ];exact b.2.2⟩;obtain⟨y,f,rfl⟩:=yC.mp c;rw[Þ];exact b.2.1 y f
   ·cases h
 exact KM oM fun u h=>⟨LN d g i ⟨(a u h).1,(a u h).2.1⟩,fun x c=>yL ((a u h).2.1 x c) e,yL (a u h).2.2 e⟩
end
section
variable{n w:Nat}{Y:Nat->Int}{ts:List (Nat×Int)}{L:List Int}{a b c k j g:Nat}
def gC(L:List Int)(t:Nat×Int):List Int:=if t.1=0 then L else L.set (t.1-1) (gI L (t.1-1)+t.2)
def fg(n:Nat)(ts:List (Nat×Int)):List Int:=ts.foldl gC (È (2^n-1) 0)
theorem By{t:Nat×Int}:(gC L t).length=L.length:=by unfold gC;split<;>simp
theorem pb:∀(ts:List (Nat×Int))(L:List Int),(ts.foldl gC L).length=L.length
 |[],_=>rfl
 |t::ts,L=>by rw[Ġ,pb ts,By]
theorem Bx:(fg n ts).length=2^n-1:=by unfold fg;rw[pb];simp
noncomputable def og(a b c:Nat):List (Nat×Int):=[(a ||| c,1),(b ||| c,1),(a ||| b ||| c,-1),(c,-1)]
end
section
variable{ns:List Int}{st:aa}
theorem eU{ks:List Fn}{a b:Pq}{c:Tx}{sl:Sl}{P:AV×aa->Prop}(h:tv ks c sl st=À (Ã,st))(d:∃r,(af ks a sl st).bind ay=À r/\P r):∃r,(af ks (.cons (.iff c b .nil) a) sl st).bind ay=À r/\P r:=ai (sl':=sl) (st':=st) (by rw[d5,h];rfl) d
theorem g7{ks:List Fn}{a b g:Pq}{c:Tx}{sl:Sl}{P:AV×aa->Prop}(h:tv ks c sl st=À (Â,st))(f:∃r,af ks b sl st=À r/\∃v st',r=.rt v st'/\P (v,st')):∃r,(af ks (.cons (.iff c b g) a) sl st).bind ay=À r/\P r:=by
 obtain⟨r,e,v,st',rfl,d⟩:=f;exact⟨_,aX (by rw[d5,h,Ä];exact e),d⟩
theorem HS{x c:Int}(h:0<c)(d:c<2147483648):∃y:Int,y=x%c/\0<=y/\y<c/\y.natAbs<2^62:=by
 have b:=ċ x (show c ≠ 0 by lia);have a:=Ą x h;exact ⟨_,rfl,b,a,zJ (m:=2147483648) oM dC⟩
theorem Fx(hn:ns.length<=63):∃D R,aU [.fz (iL ns),.int 2,.int 30] []=À (.ref 0,Pe.lst (iL D)::R)/\D.length=30/\∀x∈D,0<=x/\x<2147483587:=by
 obtain⟨C,X⟩:∃C,C=ns++[2]:=⟨_,rfl⟩;have lC:C.length=ns.length+1:=by rw[X];simp
 have Q:∃r,aU [.fz (iL ns),.int 2,.int 30] []=À r/\∃D R,r=(.ref 0,Pe.lst (iL D)::R)/\D.length=30/\∀x∈D,0<=x/\x<2147483587:=by
  rw[aU,aw];show ∃r,(af [] io [Ls ns,Is 2,Is 30,Á,Á,Á,Á,Á,Á,Á] []).bind ay=À r/\_;unfold io;refine ai (sl':=[Ls ns,Is 2,Is 30,Ls C,Á,Á,Á,Á,Á,Á]) (st':=[]) ?_ ?_
  ·have cu:cut (iL ns) Á (À 63)=iL ns:=by
    unfold cut;have:HT.Ps (iL ns).length (iL ns).length (À 63)=(iL ns).length:=by
     rw[show(63:Int)=((63:Nat):Int) from rfl,HT.sIx_nat,gf];lia
    rw[this,HT.sIx_none,Ņ,Ϭ,Ĭ]
   have c:=lb (ks:=[]) (a:=.nw Ã (.sl (.v 0) .no (.so (.i 63)))) (b:=.nw Ã (.li (.cons (.v 1) .nil))) (sl:=[Ls ns,Is 2,Is 30,Á,Á,Á,Á,Á,Á,Á]) (st:=[]) (s1:=[]) (s2:=[]) (x:=.fz (iL ns)) (y:=.fz [AV.int 2]) (l:=ns) (l':=[2]) (by simp[pO,pK,cu]) (by simp[cU]) rfl rfl (by simp;lia);simp[-pN,c,X]
  refine ai (sl':=[Ls ns,Is 2,Is 30,Ls C,Rs 0,Á,Á,Á,Á,Á]) (st':=[.lst (iL [])]) rfl ?_;have Z:∀st:aa,aG st (.fz (iL C)) (.int 0)=À (.int (gI C 0)):=fun st=>by rw[cH dR,show(0:Int)=((0:Nat):Int) from rfl,bS,cx oM]
  have S:∀st,tv [] (.cmp .Eq (.bin .Mod (.bin .FloorDiv (.ix (.v 3) (.i 0)) (.i 50000)) (.i 2)) (.i 1)) [Ls ns,Is 2,Is 30,Ls C,Rs 0,Á,Á,Á,Á,Á] st=À (decide (gI C 0/50000%2=1),st):=fun st=>by
   by_cases h:gI C 0 / 50000 % 2=1 <;> simp [Z,i6 (show fE 50000=Â from rfl),fB (show (0:Int) < 2 by decide),h]
  have z:∀N:Nat,N<=1000->∀sl st,∀a:Ex,ev [] a sl st=À (.int (N:Int),st)->fj [] (.r1 a) sl st=À (⟨(Æ N).map fun q:Nat=>AV.int (q:Int),[]⟩,st):=fun N h sl st a e=>iO e h
  by_cases W:gI C 0/50000%2=1
  ·refine g7 (by rw[S,yV W]) ?_
   refine Ba (sl':=[Ls ns,Is 2,Is 30,Ls C,Rs 0,Rs 1,Á,Á,Á,Á]) (st':=[.lst (iL []),.lst (iL (C.map fun x=>x/100000))]) ?_ ?_
   ·have I:fE 100000=Â:=by decide
    simp [cC (show C.length <= 1000 by lia)];rw [lG (F:=fun x=>x / 100000) gX fun x G=>⟨_,rfl,rfl,by simp [qx I,K0 (show (0:Int) < 100000 by decide)]⟩];simp
   refine Jp (em:=fun q:Nat=>.int (q:Int)) (xs:=Æ 32) (gd:=[]) (st0:=[.lst (iL []),.lst (iL (C.map fun x=>x/100000))]) (fun i sl s=>∃d f n M,s=[.lst (iL d),.lst (iL f)]/\sl=[Ls ns,Is 2,Is 30,Ls C,Rs 0,Rs 1,n,M,Á,Á]/\f.length=C.length/\d.length=i-2/\∀x∈d,0<=x/\x<2147483587) (z 32 dC _ _ _ rfl) (fun _ _ _ _=>rfl) ⟨[],_,_,_,rfl,rfl,by simp,rfl,by simp⟩ ?_ ?_
   ·rintro i q sl s o ⟨d,f,n,M,rfl,rfl,H,t,g⟩
    obtain⟨hi,rfl⟩:i<32/\q=i:=by
     have:=(zB.mp o).1
     rw[ó (by simpa using this)]at o;exact⟨by simpa using this,(yD o).symm⟩
    obtain⟨j,A⟩:∃j,j=q%C.length:=⟨_,rfl⟩;have V:j<C.length:=by rw[A];exact j! _ oM
    have J:mR ((q:Nat):Int) ((C.length:Nat):Int)=((j:Nat):Int):=by rw[Dj oM,A];simp
    have K:∀d:List Int,aG [.lst (iL d),.lst (iL f)] (.ref 1) (.int (j:Int))=À (.int (gI f j)):=fun d=>by rw[cH (bG (xs:=iL f) rfl),bS,cx oM]
    have T:∀d:List Int,je [.lst (iL d),.lst (iL f)] (.ref 1) (.int (j:Int)) (.int (gI f j/2147483587))=À [.lst (iL d),.lst (iL (f.set j (gI f j/2147483587)))]:=fun d=>by
     have:=d8 (st:=[Pe.lst (iL d),.lst (iL f)]) (k:=1) (q:=j) (xs:=iL f) (x:=.int (gI f j/2147483587)) rfl (by simp;lia)
     rw[f9]at this;exact this
    have U:aZ cO [.ref 1] [.lst (iL d),.lst (iL f)]=À (.int ((C.length:Nat):Int),[.lst (iL d),.lst (iL f)]):=by
     show À (AV.int ((iL f).length:Int),_)=_;rw[gf,H]
    have I:fE 2147483587=Â:=by decide
    by_cases h2:2<=q
    ·refine⟨_,[Ls ns,Is 2,Is 30,Ls C,Rs 0,Rs 1,Is (q:Int),Is (j:Int),Á,Á],[.lst (iL (d++[gI f j%2147483587])),.lst (iL (f.set j (gI f j/2147483587)))],rfl,?_,_,_,_,_,rfl,rfl,by simp[H],by simp[t];lia,fun x G=>?_⟩
     ·refine au (sl':=[Ls ns,Is 2,Is 30,Ls C,Rs 0,Rs 1,Is (q:Int),Is (j:Int),Á,Á]) (st':=[.lst (iL d),.lst (iL f)]) (by simp [U,nY (show ((C.length:Nat):Int) ≠ 0 by lia),J]) ?_
      have B:=lP (ks:=[]) (a:=.v 4) (e:=.bin .Mod (.ix (.v 5) (.v 7)) (.i 2147483587)) (y:=.int (gI f j % 2147483587)) (k:=0) (xs:=iL d) (sl:=[Ls ns,Is 2,Is 30,Ls C,Rs 0,Rs 1,Is (q:Int),Is (j:Int),Á,Á]) (st:=[.lst (iL d),.lst (iL f)]) rfl (by simp [K,fB (show (0:Int) < 2147483587 by decide)]) rfl (by simp;lia);rw [At,uD] at B;refine au (sl':=[Ls ns,Is 2,Is 30,Ls C,Rs 0,Rs 1,Is (q:Int),Is (j:Int),Á,Á]) (st':=[.lst (iL (d++[gI f j % 2147483587])),.lst (iL f)]) ?_ ?_
      ·have tt:tv [] (.cmp .GtE (.v 6) (.v 1)) [Ls ns,Is 2,Is 30,Ls C,Rs 0,Rs 1,Is (q:Int),Is (j:Int),Á,Á] [.lst (iL d),.lst (iL f)]=À (Â,[.lst (iL d),.lst (iL f)]):=by simp[show(2:Int)<=(q:Int) by lia]
       rw[d5,tt,Ä];exact au B rfl
      ·exact au (sl':=[Ls ns,Is 2,Is 30,Ls C,Rs 0,Rs 1,Is (q:Int),Is (j:Int),Á,Á]) (st':=[.lst (iL (d++[gI f j%2147483587])),.lst (iL (f.set j (gI f j/2147483587)))]) (by simp[K,T,i6 I]) rfl
     ·rcases zZ.mp G with h|h
      ·exact g x h
      ·rw[zM.mp h];exact Kh dC
    ·refine⟨_,[Ls ns,Is 2,Is 30,Ls C,Rs 0,Rs 1,Is (q:Int),Is (j:Int),Á,Á],[.lst (iL d),.lst (iL (f.set j (gI f j/2147483587)))],rfl,?_,_,_,_,_,rfl,rfl,by simp[H],by lia,g⟩
     refine au (sl':=[Ls ns,Is 2,Is 30,Ls C,Rs 0,Rs 1,Is (q:Int),Is (j:Int),Á,Á]) (st':=[.lst (iL d),.lst (iL f)]) (by simp [U,nY (show ((C.length:Nat):Int) ≠ 0 by lia),J]) ?_;refine au (sl':=[Ls ns,Is 2,Is 30,Ls C,Rs 0,Rs 1,Is (q:Int),Is (j:Int),Á,Á]) (st':=[.lst (iL d),.lst (iL f)]) (by simp [show ¬ (2:Int) <= (q:Int) by lia]) ?_;exact au (sl':=[Ls ns,Is 2,Is 30,Ls C,Rs 0,Rs 1,Is (q:Int),Is (j:Int),Á,Á]) (st':=[.lst (iL d),.lst (iL (f.set j (gI f j / 2147483587)))]) (by simp [K,T,i6 I]) rfl
   ·rintro sl s ⟨d,f,n,M,rfl,rfl,H,t,g⟩
    exact⟨_,f7 rfl,_,_,rfl,d,_,rfl,by simpa using t,g⟩
  ·refine eU (by rw[S,z9 W]) ?_
   refine pD (em:=fun q:Nat=>.int (q:Int)) (xs:=Æ 30) (gd:=[]) (st0:=[.lst (iL [])]) (fun i sl s=>∃d n L E,s=[.lst (iL d)]/\sl=[Ls ns,Is 2,Is 30,Ls C,Rs 0,Á,n,Á,L,E]/\d.length=i/\∀x∈d,0<=x/\x<2147483587) (z 30 dC _ _ _ rfl) (fun _ _ _ _=>rfl) ⟨[],_,_,_,rfl,rfl,rfl,by simp⟩ ?_ ?_
   ·rintro i q sl s o ⟨d,n,L,E,rfl,rfl,t,g⟩
    obtain⟨hi,rfl⟩:i<30/\q=i:=by
     have:=(zB.mp o).1
     rw[ó (by simpa using this)]at o;exact⟨by simpa using this,(yD o).symm⟩
    obtain⟨j,A⟩:∃j,j=q%C.length:=⟨_,rfl⟩;have V:j<C.length:=by rw[A];exact j! _ oM
    have J:mR ((q:Nat):Int) ((C.length:Nat):Int)=((j:Nat):Int):=by rw[Dj oM,A];simp
    have Y:aG [.lst (iL d)] (.fz (iL C)) (.int (j:Int))=À (.int (gI C j)):=by rw[cH dR,bS,cx V]
    obtain⟨p,hp,p62⟩:∃p:Int,p=((q:Int)+2)*((q:Int)+2)*7919+104729/\(((q:Int)+2)*((q:Int)+2)).natAbs<2^62:=by
     refine ⟨_,rfl,?_⟩;rw [yZ];exact yL (ţ (show ((q:Int) + 2).natAbs <= 32 by lia) (show ((q:Int) + 2).natAbs <= 32 by lia)) dC
    obtain⟨u,hu,_,_,P⟩:=HS (x:=(gI C j%2147483647+p)*48271) (c:=2147483647) dC dC;obtain⟨v,hv,_,_,O⟩:=HS (x:=u*u+69621*(q:Int)) (c:=2147483629) dC dC;obtain⟨w,hw,w0,w1,_⟩:=HS (x:=v*v) (c:=2147483587) dC dC;have m1:aW .Mult [.lst (iL d)] (.int ((q:Int)+2)) (.int ((q:Int)+2))=À (.int (((q:Int)+2)*((q:Int)+2))):=cj (td (yL (m:=32) oM dC));have m2:aW .Mult [.lst (iL d)] (.int (((q:Int)+2)*((q:Int)+2))) (.int 7919)=À (.int (((q:Int)+2)*((q:Int)+2)*7919)):=cj (C6 dC);have m3:aW .Mult [.lst (iL d)] (.int (gI C j%2147483647+p)) (.int 48271)=À (.int ((gI C j%2147483647+p)*48271)):=cj (C6 dC);have m4:aW .Mult [.lst (iL d)] (.int u) (.int u)=À (.int (u*u)):=cj (td P);have m5:aW .Mult [.lst (iL d)] (.int 69621) (.int (q:Int))=À (.int (69621*(q:Int))):=cj (td dC);have m6:aW .Mult [.lst (iL d)] (.int v) (.int v)=À (.int (v*v)):=cj (td O);refine⟨_,[Ls ns,Is 2,Is 30,Ls C,Rs 0,Á,Is (q:Int),Á,Is p,Is v],[.lst (iL (d++[w]))],rfl,?_,_,_,_,_,rfl,rfl,by simp[t],fun x G=>?_⟩
    ·refine au (sl':=[Ls ns,Is 2,Is 30,Ls C,Rs 0,Á,Is (q:Int),Á,Is p,E]) (st':=[.lst (iL d)]) (by simp[m1,m2,<- hp]) ?_
     refine au (sl':=[Ls ns,Is 2,Is 30,Ls C,Rs 0,Á,Is (q:Int),Á,Is p,Is u]) (st':=[.lst (iL d)]) (by simp [aZ,cO,nY (show ((C.length:Nat):Int) ≠ 0 by lia),J,Y,fB (show (0:Int) < 2147483647 by decide),m3,<- hu]) ?_;refine au (sl':=[Ls ns,Is 2,Is 30,Ls C,Rs 0,Á,Is (q:Int),Á,Is p,Is v]) (st':=[.lst (iL d)]) (by simp [m4,m5,fB (show (0:Int) < 2147483629 by decide),<- hv]) ?_;have B:=lP (ks:=[]) (a:=.v 4) (e:=.bin .Mod (.bin .Mult (.v 9) (.v 9)) (.i 2147483587)) (y:=.int w) (k:=0) (xs:=iL d) (sl:=[Ls ns,Is 2,Is 30,Ls C,Rs 0,Á,Is (q:Int),Á,Is p,Is v]) (st:=[.lst (iL d)]) rfl (by simp [m6,fB (show (0:Int) < 2147483587 by decide),<- hw]) rfl (by simp;lia);rw [At,uD] at B;exact au B rfl
    ·rcases zZ.mp G with h|h
     ·exact g x h
     ·rw[zM.mp h];exact⟨w0,w1⟩
   ·rintro sl s ⟨d,n,L,E,rfl,rfl,t,g⟩
    exact⟨_,rfl,d,_,rfl,by simpa using t,g⟩
 obtain⟨r,e,D,R,rfl,h⟩:=Q;exact⟨D,R,e,h⟩
end
section
variable{st:aa}{n a b c:Nat}{ts:List (Nat×Int)}{D:List Int}{R:aa}{G:List Gv}
noncomputable def lX(z:Nat×Int):AV:=.tup [.int (z.1:Int),.int z.2]
theorem Js:∀l:List (Nat×Int),rfs (l.map lX)=Â:=fun l=>dW fun x a=>by
 obtain⟨z,_,rfl⟩:=yC.mp a;rfl
theorem nq(j:fA n)(l:∀t∈ts,t.1<2^n):pm c7 [.int n,.fz (ts.map lX)] st=À (.fz (iL (fg n ts)),st):=by
 have p:2^n-1<=15:=by rcases j with rfl|rfl|rfl|rfl<;>decide
 have e:∃r,c7 [.int n,.fz (ts.map lX)] []=À r/\dN r.2 r.1=À (.fz (iL (fg n ts))):=by
  rw[c7,aw];show ∃r,(af [] jt [Is n,Zs (ts.map lX),Á,Á,Á] []).bind ay=À r/\_;unfold jt;refine ai (sl':=[Is n,Zs (ts.map lX),Rs 0,Á,Á]) (st':=[.lst (iL (È (2^n-1) 0))]) (by rcases j with rfl|rfl|rfl|rfl<;>rfl) ?_;refine pD (em:=lX) (xs:=ts) (gd:=[]) (st0:=[.lst (iL (È (2^n-1) 0))]) (fun i d s=>s=[.lst (iL ((ts.take i).foldl gC (È (2^n-1) 0)))]/\∃x y,d=[Is n,Zs (ts.map lX),Rs 0,x,y]) rfl (fun _ _ _ _=>rfl) ⟨rfl,_,_,rfl⟩ ?_ ?_
  ·rintro i ⟨g,c⟩ d s hz ⟨rfl,x,y,rfl⟩
   have m:=l _ (zW hz);have u:((ts.take i).foldl gC (È (2^n-1) 0)).length=2^n-1:=by rw[pb];simp
   have b:(ts.take (i+1)).foldl gC (È (2^n-1) 0)=gC ((ts.take i).foldl gC (È (2^n-1) 0)) (g,c):=by
    rw[List.take_add_one,hz,Option.toList_some,Ϩ];rfl
   rw[b];generalize (ts.take i).foldl gC (È (2^n-1) 0)=L at *;refine⟨([Is n,Zs (ts.map lX),Rs 0,Is (g:Int),Is c],[.lst (iL L)]),[Is n,Zs (ts.map lX),Rs 0,Is (g:Int),Is c],[.lst (iL (gC L (g,c)))],rfl,?_,rfl,_,_,rfl⟩;unfold gC;dsimp only at m ⊢;refine au (s:=.iff _ _ _) ?_ rfl;by_cases f:g=0
   ·rw[yH f];subst f;rfl
   ·rw[yG f]
    have a:g-1<L.length:=by lia
    have ix:aG [.lst (iL L)] (.ref 0) (.int ((g-1:Nat):Int))=À (.int (SX.gI L (g-1))):=by rw[cH (bG (xs:=iL L) rfl),bS,cx a]
    have h:=d8 (st:=[.lst (iL L)]) (k:=0) (q:=g-1) (xs:=iL L) (x:=.int (SX.gI L (g-1)+c)) rfl (by rw[gf];exact a);rw[f9]at h;have b:(g:Int)-1=((g-1:Nat):Int):=by lia
    simp [eq_true (show 0 < g by lia),b,ix,h]
  ·rintro d s ⟨rfl,x,y,rfl⟩
   rw[Ĭ];exact⟨_,rfl,nk rfl⟩
 obtain⟨r,b,o⟩:=e;exact aN (by simp[rfs,rf,Js]) b o
theorem ku(b:fA n)(h:a<2^n):a<16:=zJ h (by rcases b with rfl|rfl|rfl|rfl<;>decide)
theorem Fe(c:fA n)(f:a<2^n)(d:b<2^n):pm dw [.int n,.int a,.int b] st=À (.fz (iL (fg n [(a ||| b,1),(b,-1)])),st):=by
 have h:a ||| b<2^n:=Ň f d;have g:=tZ (st:=[]) (ku c f) (ku c d);have e:=nq (st:=[]) (ts:=[(a ||| b,1),(b,-1)]) c (by simp only[zT,zX,or_false];rintro t (rfl|rfl)<;>assumption);refine aN rfl (v:=.fz (iL (fg n [(a ||| b,1),(b,-1)]))) (st':=[]) ?_ rfl;rw[dw,aw];unfold kI;refine aX ?_;simp only[zO,ń,lX]at e;generalize a ||| b=q1 at *;simp[cU,rfs,rf,g,e,kN]
theorem Ad(d:fA n)(h:a<2^n)(g:b<2^n)(f:c<2^n):pm cS [.int n,.int a,.int b,.int c] st=À (.fz (iL (fg n (og a b c))),st):=by
 have q:a ||| c<2^n:=Ň h f;have p:b ||| c<2^n:=Ň g f;have i:a ||| b<2^n:=Ň h g;have o:a ||| b ||| c<2^n:=Ň i f;have m:=tZ (st:=[]) (ku d h) (ku d f);have l:=tZ (st:=[]) (ku d g) (ku d f);have k:=tZ (st:=[]) (ku d h) (ku d g);have j:=tZ (st:=[]) (ku d i) (ku d f);have e:=nq (st:=[]) (ts:=og a b c) d (by simp only[og,zT,zX,or_false];rintro t (rfl|rfl|rfl|rfl)<;>assumption);refine aN rfl (v:=.fz (iL (fg n (og a b c)))) (st':=[]) ?_ rfl;rw[cS,aw];unfold jg;refine aX ?_;simp only[og,zO,ń,lX]at e ⊢;generalize a ||| b ||| c=q4 at *;generalize a ||| b=q3 at *;generalize a ||| c=q1 at *;generalize b ||| c=q2 at *;simp[cU,rfs,rf,m,l,k,j,e,kN]
theorem ny{m k:Nat}(h:∀t∈ts,t.2.natAbs<=k)(i:ts.length*k<=m):∀x∈fg n ts,x.natAbs<=m:=by
 have g:∀(ts:List (Nat×Int))(L:List Int)(b:Nat),(∀t∈ts,t.2.natAbs<=k)->(∀x∈L,x.natAbs<=b)->∀x∈ts.foldl gC L,x.natAbs<=b+ts.length*k:=fun ts=>by
  induction ts with
  |nil=>intro L b _ h x a;have:=h x a;lia
  |cons t ts f =>
   intro L b e d x a
   have:=f (gC L t) (b+k) (fun y c=>e y (zQ _ c)) (fun y c=>by
    unfold gC at c;split at c
    ·have:=d y c;lia
    ·rcases ø c with h|h
     ·have:=d y h;lia
     ·have j:(gI L (t.1-1)).natAbs<b+1:=nO (fun x a=>ϭ (d x a)) (C? b) _
      have:=e t z7
      rw[h];lia) x a
   rw[yX,Nat.add_mul];lia
 intro x a
 have:=g ts _ 0 h (fun x a=>by rw[List.eq_of_mem_replicate a];decide) x a
 lia
def okB(n:Nat)(z:Gv):Prop:=z.row.length=2^n-1/\(∀x∈z.row,x.natAbs<=16)/\z.num.natAbs<=200000000000
theorem xf{x:Int}:aA [.ref 0] (.lst (iL (D++[x]))::R)=À (.int x,.lst (iL D)::R):=JY (st:=.lst (iL (D++[x]))::R) (r:=0) rfl
theorem o6{z:Int}{m:Nat}(h:0<m):∃q:Nat,q<m/\z%(m:Int)=(q:Int):=by
 have b:=ċ z (show (m:Int) ≠ 0 by lia);have a:=Ą z (show (0:Int) < (m:Int) by lia);exact ⟨(z % (m:Int)).toNat,by lia,by lia⟩
theorem tO(A:fA n)(C:2<=D.length)(hd:okD D):∃(D':List Int)(z:Gv),aq [.ref 0,.int n] (.lst (iL D)::R)=À (z.av,.lst (iL D')::R)/\(okB n z/\z.num.natAbs<=100000000000)/\okD D'/\D.length=D'.length+2:=by
 obtain⟨D1,x,rfl⟩:=tz (D:=D) (fun z=>by rw[z]at C;simp at C);obtain⟨hx,P⟩:=hd.at;have Y:=xf (R:=R) (D:=D1) (x:=x);simp only[zV,ŉ]at C ⊢;obtain⟨s,y,rfl⟩:=tz (D:=D1) (fun z=>by rw[z]at C;simp at C);obtain⟨hy,O⟩:=P.at;have K:=xf (R:=R) (D:=s) (x:=y);obtain⟨S,hS⟩:∃S,S=Pe.lst (iL s)::R:=⟨_,rfl⟩;obtain⟨p,B⟩:∃p,p=Pe.lst (iL (s++[y]))::R:=⟨_,rfl⟩;obtain⟨w,hw,J⟩:∃w:Nat,w+1=2^n/\0<w:=by rcases A with rfl|rfl|rfl|rfl<;>exact⟨_,rfl,by decide⟩
 obtain⟨a,Q,ea⟩:∃a:Nat,a<2^n/\1+x/64%(w:Int)=(a:Int):=by obtain⟨q,h,e⟩:=o6 (z:=x/64) J;exact⟨q+1,by lia,by lia⟩
 obtain⟨b,hb,eb⟩:∃a:Nat,a<2^n/\1+x/960%(w:Int)=(a:Int):=by obtain⟨q,h,e⟩:=o6 (z:=x/960) J;exact⟨q+1,by lia,by lia⟩
 obtain⟨c,hc,ec⟩:∃a:Nat,a<2^n/\x/14400%((w:Int)+1)=(a:Int):=by obtain⟨q,h,e⟩:=o6 (z:=x/14400) (m:=w+1) oM;exact⟨q,by lia,e⟩
 obtain⟨g,hg,eg⟩:∃a:Nat,a<2^n/\1+(c:Int)%(w:Int)=(a:Int):=by obtain⟨q,h,e⟩:=o6 (z:=(c:Int)) J;exact⟨q+1,by lia,by lia⟩
 obtain⟨k,hk,k2⟩:∃k:Int,x/16%4-1=k/\k.natAbs<=2:=by
  have F:=ċ (x / 16) (show (4:Int) ≠ 0 by decide);have E:=Ą (x / 16) (show (0:Int) < 4 by decide);exact ⟨_,rfl,by lia⟩
 obtain⟨sg,es⟩:∃sg:Bool,aG p (.fz [.str "=",.str ">"]) (.int (x/8%2))=À (.str (if sg=Â then "=" else ">")):=by
  rcases U9 (x/8) with h|h<;>rw[h]
  ·exact⟨Â,rfl⟩
  ·exact⟨Ã,rfl⟩
 have w1:=ċ y (show (8:Int) ≠ 0 by decide);have w2:=Ą y (show (0:Int) < 8 by decide);have M:∀ st,aW .Pow st (.int 10) (.int 11)=À (.int 100000000000):=fun _=>by kernel_rfl
 have V:∀st,kN .USub st (.int 1)=À (.int (-1)):=fun _=>rfl
 obtain⟨v,hv,xv⟩:=Dw (st:=S) (l:=[.int 0,.int 0,.int 1,.int 2,.int 3,.int 5,.int (-1),.int 100000000000]) w1 w2;obtain⟨o,rfl,j⟩:∃o:Int,v=.int o/\o.natAbs<=100000000000:=by
  simp only[zT,zX,or_false]at hv;rcases hv with rfl|rfl|rfl|rfl|rfl|rfl|rfl|rfl<;>exact⟨_,rfl,by decide⟩
 have N:∃r,aq [.ref 0,.int n] (.lst (iL (s++[y]++[x]))::R)=À r/\∃z:Gv,r=(z.av,S)/\okB n z/\z.num.natAbs<=100000000000:=by
  rw[aq,aw];show ∃r,(af [aA,c7,dw,cS] gw [Rs 0,Is n,Á,Á,Á,Á,Á,Á,Á] (.lst (iL (s++[y]++[x]))::R)).bind ay=À r/\_;unfold gw;have ew:∀u st,ev [aA,c7,dw,cS] (.bin .Sub (.bin .LShift (.i 1) (.v 1)) (.i 1)) (Rs 0::Is n::u) st=À (.int (w:Int),st):=fun u st=>by
   have:w=2^n-1:=by lia
   rw[this];rcases A with rfl|rfl|rfl|rfl<;>rfl
  rw[<- B]at Y;rw[<- hS]at K;rw[<- B]at K;generalize (Pe.lst (iL (s++[y]++[x]))::R)=S0 at *;have U:(0:Int)<(w:Int):=by lia
  refine ai (sl':=[Rs 0,Is n,Is x,Á,Á,Á,Á,Á,Á]) (st':=p) (by simp [Y,lY]) ?_;refine ai (sl':=[Rs 0,Is n,Is x,Is (w:Int),Á,Á,Á,Á,Á]) (st':=p) (by rw [fU,ew];rfl) ?_;refine ai (sl':=[Rs 0,Is n,Is x,Is (w:Int),Is (a:Int),Á,Á,Á,Á]) (st':=p) (by simp [i6 (show fE 64=Â from rfl),fB U,ea]) ?_;refine ai (sl':=[Rs 0,Is n,Is x,Is (w:Int),Is (a:Int),Is (b:Int),Á,Á,Á]) (st':=p) (by simp [i6 (show fE 960=Â from rfl),fB U,eb]) ?_;refine ai (sl':=[Rs 0,Is n,Is x,Is (w:Int),Is (a:Int),Is (b:Int),Is (c:Int),Á,Á]) (st':=p) (by simp [i6 (show fE 14400=Â from rfl),fB (show (0:Int) < (w:Int) + 1 by lia),ec]) ?_;refine ai (sl':=[Rs 0,Is n,Is x,Is (w:Int),Is (a:Int),Is (b:Int),Is (c:Int),À (.str (if sg=Â then "=" else ">")),Á]) (st':=p) (by simp [i6 (show fE 8=Â from rfl),fB (show (0:Int) < 2 by decide),es,cU,rfs,rf]) ?_;refine ai (sl':=[Rs 0,Is n,Is x,Is (w:Int),Is (a:Int),Is (b:Int),Is (c:Int),À (.str (if sg=Â then "=" else ">")),Is o]) (st':=S) (by simp [V,M,K,lY,fB (show (0:Int) < 8 by decide),xv,cU,rfs,rf]) ?_;have f:aW .Mod S (.int x) (.int 8)=À (.int (x % 8)):=fB dC;have T:aW .FloorDiv S (.int x) (.int 16)=À (.int (x / 16)):=i6 rfl dC;have m4:aW .Mod S (.int (x / 16)) (.int 4)=À (.int (x / 16 % 4)):=fB dC;have mw:aW .Mod S (.int (c:Int)) (.int (w:Int))=À (.int ((c:Int) % (w:Int))):=fB U;have r1:=nq (st:=S) (ts:=[(a,1)]) A (by simp only [zM];rintro t rfl;exact Q);have r2:=Fe (st:=S) A Q hc;have X:=Ad (st:=S) A Q hb hc;have W:=nq (st:=S) (ts:=[(a,k),(b,1),(g,-1)]) A (by simp only [zT,zX,or_false];rintro t (rfl | rfl | rfl) <;> assumption);have o1:∀ x ∈ fg n [(a,1)],x.natAbs <= 16:=ny (k:=1) (by simp) (by simp);have o2:∀ x ∈ fg n [(a ||| c,1),(c,-1)],x.natAbs <= 16:=ny (k:=1) (by simp) (by simp);have Z:∀ x ∈ fg n (og a b c),x.natAbs <= 16:=ny (k:=1) (by simp [og]) (by simp [og]);have o4:∀ x ∈ fg n [(a,k),(b,1),(g,-1)],x.natAbs <= 16:=ny (k:=2) (by simp;lia) (by simp);have G:∀ ts,(fg n ts).length=2 ^ n - 1:=fun _=>Bx
  have l1:=G [(a,1)];have l2:=G [(a ||| c,1),(c,-1)];have l3:=G (og a b c);have l4:=G [(a,k),(b,1),(g,-1)];simp only[zO,ń,lX]at r1 W;generalize fg n [(a,1)]=R1 at *;generalize fg n [(a ||| c,1),(c,-1)]=R2 at *;generalize fg n (og a b c)=R3 at *;generalize fg n [(a,k),(b,1),(g,-1)]=R4 at *;have d:∀(L:List Int)(sg:Bool)(c:Int)(e:Pq)(u:Sl),L.length=2^n-1->(∀x∈L,x.natAbs<=16)->c.natAbs<=100000000000->af [aA,c7,dw,cS] e u S=À (.rt (.tup [.fz (iL L),.str (if sg=Â then "=" else ">"),.int c]) S)->∃r,af [aA,c7,dw,cS] e u S=À r/\∃v st',r=.rt v st'/\∃z:Gv,(v,st')=(z.av,S)/\okB n z/\z.num.natAbs<=100000000000:=fun L sg c e u F E I H=>⟨_,H,_,_,rfl,⟨L,sg,c⟩,rfl,⟨F,E,by dsimp only;lia⟩,I⟩
  have e8:=ċ x (show (8:Int) ≠ 0 by decide);generalize x % 8=q at *;generalize i:AV.str (if sg=Â then "=" else ">")=sx at *;by_cases F:q < 2
  ·refine g7 (by simp[f,F]) (d R1 sg o _ _ l1 o1 j ?_)
   rw[i];refine f7 ?_;simp[cU,rfs,rf,r1]
  refine eU (by simp[f,F]) ?_;by_cases E:q=2
  ·refine g7 (by simp[f,E]) (d R2 sg o _ _ l2 o2 j ?_)
   rw[i];refine f7 ?_;simp[r2]
  refine eU (by simp[f,E]) ?_;by_cases I:q=3
  ·refine g7 (by simp[f,I]) (d R2 Â 0 _ _ l2 o2 dC ?_)
   refine f7 ?_;simp[r2]
  refine eU (by simp[f,I]) ?_;by_cases H:q=4
  ·refine g7 (by simp[f,H]) (d R3 sg o _ _ l3 Z j ?_)
   rw[i];refine f7 ?_;simp[X]
  refine eU (by simp[f,H]) ?_;by_cases h5:q=5
  ·refine g7 (by simp[f,h5]) (d R3 Â 0 _ _ l3 Z dC ?_)
   refine f7 ?_;simp[X]
  refine eU (by simp[f,h5]) ?_;refine fx (v:=.tup [.fz (iL R4),sx,.int o]) (st':=S) ?_ ⟨⟨R4,sg,o⟩,by rw[<- i];rfl,⟨l4,o4,by dsimp only;lia⟩,j⟩;simp[T,m4,hk,mw,eg,V,cU,rfs,rf,W]
 obtain⟨r,e,z,rfl,hz⟩:=N;exact⟨s,z,by rw[hS]at e;exact e,hz,O,by simp⟩
end
section
variable{st:aa}{n kb:Nat}{D:List Int}{R:aa}{G:List Gv}
noncomputable def hU(z:Gv):ņ:=.tuple [.list (z.row.map ë),.str (if z.eq=Â then "=" else ">"),.int z.num]
theorem C2(z:Gv):cE 8 st z.av=À (hU z):=by
 obtain⟨r,e,m⟩:=z;have:cE 7 st (.fz (iL r))=À (.list (r.map ë)):=by show(aT (cE 6 st) _).map _=_;rw[Ab];rfl
 show(aT (cE 7 st) [.fz (iL r),_,_]).map _=_;simp only[aT,this,Ä];cases e<;>rfl
theorem Ib(z:Gv):(hU z).canLay0=Â:=by
 obtain⟨r,e,m⟩:=z;have:∀l:List Int,ð (l.map ë)=Â:=fun l=>by
  induction l with
  |nil=>rfl
  |cons x l c=>simp only[zO,ð,ā,c,ġ]
 have b:U1 "="=Â:=by decide +kernel
 have a:U1 ">"=Â:=by decide +kernel
 cases e<;>simp[hU,ā,ð,this,b,a]
theorem uu:∀G:List Gv,ð (G.map hU)=Â
 |[]=>rfl
 |x::l=>by simp only[zO,ð,Ib,uu l,ġ]
theorem K4{r:Nat}(h:st[r]?=À (.lst (G.map Gv.av))):aY .Eq st (.ref r) (.fz [])=À G.isEmpty:=by
 change i8 st (.ref r) (.fz [])=_;have a:cE 9 st (.ref r)=À (.list (G.map hU)):=by
  unfold cE;have:aT (cE 8 st) (G.map Gv.av)=À (G.map hU):=dO (f:=cE 8 st) (i:=Gv.av) (g:=hU) (fun z=>C2 z) G;simp only[h,this,Ð]
 unfold i8;rw[a,show cE 9 st (.fz [])=À (.list []) from rfl,Ä,Ä,yH (by
  unfold DD.pyOk;rw[show(ŋ (G.map hU)).canLay0=Â by simp only[ā,uu],yV (z5 (T8 _ _) dC)];rfl)]
 cases G<;>rfl
def zt(n:Nat)(z:Gv):Prop:=z.row.length=2^n-1/\(∀x∈z.row,x.natAbs<=32)/\z.num.natAbs<=1000000000000
theorem j2{T:List Int}{q:Nat}(h:q<T.length):SX.gI T q∈T:=by
 unfold SX.gI;rw[zD,zF h];exact Ø h
theorem okB.w{z:Gv}(h:okB n z):zt n z:=⟨h.1,fun x a=>by have:=h.2.1 x a;lia,by have:=h.2.2;lia⟩
theorem tx{ks:List Fn}{e:Ex}{sl:Sl}{l:List Int}(h:ev ks e sl st=À (.fz (iL l),st))(a:l.length<=1000):ev ks (.nw Ã (.lof e)) sl st=À (.fz (iL l),st):=by
 simp[oZ,h,cC a]
theorem xE{r i:Nat}(h:st[r]?=À (.lst (G.map Gv.av)))(a:i<G.length):∃z∈G,aG st (.ref r) (.int (i:Int))=À z.av:=by
 refine⟨G[i],Ø a,?_⟩;rw[cH (bG h),bS,zR,zF a];rfl
theorem Bc(hn:fA n)(hD:3<=D.length)(hd:okD D)(hR:R[kb]?=À (.lst (G.map Gv.av)))(hG:G.length<=6)(hz:∀z∈G,okB n z):∃(D':List Int)(z:Gv),aM [.ref 0,.int n,.ref (kb+1)] (.lst (iL D)::R)=À (z.av,.lst (iL D')::R)/\zt n z:=by
 have hN:2^n-1<=15:=by rcases hn with rfl|rfl|rfl|rfl<;>decide
 obtain⟨X,x,rfl⟩:=tz (D:=D) (fun z=>by rw[z]at hD;simp at hD);obtain⟨hx,hd1⟩:=hd.at;have p1:=xf (R:=R) (D:=X) (x:=x);simp only[zV,ŉ]at hD;obtain⟨D2,o,W,⟨ho,_⟩,hd2,hl2⟩:=tO (R:=R) hn oM hd1;have s:∃r,aM [.ref 0,.int n,.ref (kb+1)] (.lst (iL (X++[x]))::R)=À r/\∃z:Gv,r=(z.av,.lst (iL D2)::R)/\zt n z:=by
  rw[aM,aw];show ∃r,(af [aA,aq] gq [Rs 0,Is n,Rs (kb+1),Á,Á,Á,Á,Á,Á,Á,Á] (.lst (iL (X++[x]))::R)).bind ay=À r/\_;unfold gq;obtain⟨S,hS⟩:∃S,S=Pe.lst (iL D2)::R:=⟨_,rfl⟩;have V:S[kb+1]?=À (.lst (G.map Gv.av)):=by rw[hS];exact hR
  obtain⟨a,g⟩:∃a,a=o.av:=⟨_,rfl⟩;rw[<- hS,<- g]at W;rw[<- hS];refine ai (sl':=[Rs 0,Is n,Rs (kb+1),Is x,Á,Á,Á,Á,Á,Á,Á]) (st':=.lst (iL X)::R) (by simp[p1,lY]) ?_;refine ai (sl':=[Rs 0,Is n,Rs (kb+1),Is x,À a,Á,Á,Á,Á,Á,Á]) (st':=S) (by simp[W,lY]) ?_;have I:aW .Mod S (.int x) (.int 4)=À (.int (x%4)):=fB dC;have eg:=K4 V;have tt:tv [aA,aq] (.or (.cmp .Eq (.v 2) (.nw Ã (.li .nil))) (.cmp .Eq (.bin .Mod (.v 3) (.i 4)) (.i 0))) [Rs 0,Is n,Rs (kb+1),Is x,À a,Á,Á,Á,Á,Á,Á] S=À (G.isEmpty||decide (x%4=0),S):=by
   cases hG:G.isEmpty <;> (rw [hG] at eg;simp [eg,I,cU])
  cases L:(G.isEmpty||decide (x%4=0)) with
  |true=>exact g7 (by rw[tt,L]) ⟨_,rfl,_,_,rfl,o,by rw[g],ho.w⟩
  |false =>
  rw[L]at tt;refine eU tt ?_;rw[I?]at L;have h0:¬x%4=0:=of_decide_eq_false L.2;have gl:0<G.length:=by
   cases G with
   |nil=>cases L.1
   |cons _ _=>simp
  obtain⟨i,hi,ei⟩:=o6 (z:=x/4) gl;obtain⟨j,hj,ej⟩:=o6 (z:=x/24) gl;obtain⟨z1,U,x1⟩:=xE V hi;obtain⟨z2,Q,x2⟩:=xE V hj;obtain⟨C,A,b13⟩:=hz _ U;obtain⟨b21,N,b23⟩:=hz _ Q;obtain⟨r1,H,d⟩:=z1;obtain⟨r2,O,f⟩:=z2;dsimp only at C A b13 b21 N b23;have ln:aZ cO [.ref (kb+1)] S=À (.int (G.length:Int),S):=by simp[aZ,cO,bG V]
  have f4:aW .FloorDiv S (.int x) (.int 4)=À (.int (x/4)):=i6 rfl dC;have f24:aW .FloorDiv S (.int x) (.int 24)=À (.int (x/24)):=i6 rfl dC;have M:aW .FloorDiv S (.int x) (.int 144)=À (.int (x/144)):=i6 rfl dC;have mi:aW .Mod S (.int (x/4)) (.int (G.length:Int))=À (.int (i:Int)):=by rw[fB oM,ei]
  have mj:aW .Mod S (.int (x/24)) (.int (G.length:Int))=À (.int (j:Int)):=by rw[fB oM,ej]
  have m2:aW .Mod S (.int (x/144)) (.int 2)=À (.int (x/144%2)):=fB dC;refine ai (sl':=[Rs 0,Is n,Rs (kb+1),Is x,À a,Ls r1,À (.str (if H=Â then "=" else ">")),Is d,Á,Á,Á]) (st':=S) (by simp[f4,ln,mi,x1];rfl) ?_;refine ai (sl':=[Rs 0,Is n,Rs (kb+1),Is x,À a,Ls r1,À (.str (if H=Â then "=" else ">")),Is d,Ls r2,À (.str (if O=Â then "=" else ">")),Is f]) (st':=S) (by simp[f24,ln,mj,x2];rfl) ?_;obtain⟨p,K⟩:∃v,v=AV.str (if H=Â then "=" else ">"):=⟨_,rfl⟩;obtain⟨m,J⟩:∃v,v=AV.str (if O=Â then "=" else ">"):=⟨_,rfl⟩;rw[<- K,<- J];by_cases U:x%4=1
  ·refine g7 (by simp[I,U]) ⟨_,f7 (v:=(⟨r1,Ã,d-x/144%2⟩:Gv).av) (st':=S) ?_,_,_,rfl,⟨r1,Ã,d-x/144%2⟩,rfl,C,fun y h=>by have:=A y h;lia,by dsimp only;lia⟩
   have lo:=tx (st:=S) (ks:=[aA,aq]) (e:=.v 5) (sl:=[Rs 0,Is n,Rs (kb+1),Is x,À a,Ls r1,À p,Is d,Ls r2,À m,Is f]) (l:=r1) rfl oM;generalize Ex.nw Ã (.lof (.v 5))=ee at *;simp[lo,M,m2,Gv.av]
  refine eU (by simp[I,U]) ?_;by_cases Q:x%4=2
  ·obtain⟨sg,esg⟩:∃sg:Bool,ev [aA,aq] (.ix (.nw Ã (.li (.cons (.s "=") (.cons (.s ">") .nil)))) (.bi .int (.cons (.cmp .In (.s ">") (.tu (.cons (.v 6) (.cons (.v 9) .nil)))) .nil))) [Rs 0,Is n,Rs (kb+1),Is x,À a,Ls r1,À p,Is d,Ls r2,À m,Is f] S=À (.str (if sg=Â then "=" else ">"),S):=by
    have s:∃b:Bool,aY .In S (.str ">") (.tup [p,m])=À b:=by
     rw[K,J];refine⟨!(H&&O),?_⟩;cases H<;>cases O<;>kernel_rfl
    obtain⟨b,hb⟩:=s;have k0:aG S (.fz [.str "=",.str ">"]) (.int 0)=À (.str "="):=rfl;have k1:aG S (.fz [.str "=",.str ">"]) (.int 1)=À (.str ">"):=rfl;cases b with
    |true=>exact⟨Ã,by simp[cU,rfs,rf,hb,aZ,mG,k1]⟩
    |false=>exact⟨Â,by simp[cU,rfs,rf,hb,aZ,mG,k0]⟩
   have lc:=eJ (st:=S) (ks:=[aA,aq]) (k:=1) (it:=.r1 (.bi .len (.cons (.v 5) .nil))) (t:=.nm 11) (c:=.no) (e:=.bin .Add (.ix (.v 5) (.v 11)) (.ix (.v 8) (.v 11))) (sl:=[Rs 0,Is n,Rs (kb+1),Is x,À a,Ls r1,À p,Is d,Ls r2,À m,Is f]) (gd:=[]) (em:=fun q:Nat=>AV.int (q:Int)) (xs:=Æ r1.length) (B:=fun _=>Â) (F:=fun q=>AV.int (gI r1 q+gI r2 q)) (iO (by simp[Dd]) oM) rfl (by simp;lia) fun q w=>by
    have w:=Ó.mp w;have i1:=sy (st:=S) (T:=r1) (i:=q) w;have i2:=sy (st:=S) (T:=r2) (i:=q) oM;exact⟨[Rs 0,Is n,Rs (kb+1),Is x,À a,Ls r1,À p,Is d,Ls r2,À m,Is f,Is (q:Int)],rfl,rfl,fun _=>by simp[i1,i2]⟩
   rw[Ô.mpr (fun _ _=>rfl),show(Æ r1.length).map (fun q=>AV.int (gI r1 q+gI r2 q))=iL ((Æ r1.length).map fun q=>gI r1 q+gI r2 q) by unfold iL;rw[Ö];rfl]at lc;obtain⟨E,u⟩:∃E,E=(Æ r1.length).map fun q=>gI r1 q+gI r2 q:=⟨_,rfl⟩
   rw[<- u]at lc;have W:ev [aA,aq] (.nw Ã (.lc 1 (.r1 (.bi .len (.cons (.v 5) .nil))) (.nm 11) .no (.bin .Add (.ix (.v 5) (.v 11)) (.ix (.v 8) (.v 11))))) [Rs 0,Is n,Rs (kb+1),Is x,À a,Ls r1,À p,Is d,Ls r2,À m,Is f] S=À (.fz (iL E),S):=by rw[dE,lc,Ä,yH bF]
   refine g7 (by simp[I,Q]) ⟨_,f7 (v:=(⟨E,sg,d+f⟩:Gv).av) (st':=S) ?_,_,_,rfl,⟨E,sg,d+f⟩,rfl,by simp[u,C],fun y h=>?_,by dsimp only;lia⟩
   ·simp only[iB,wL,cG,c6,W,esg,wN,gN,eP,eZ,Ä,Ð]
    rfl
   ·have h:y∈E:=h
    rw[u]at h;obtain⟨q,w,rfl⟩:=yC.mp h;have w:=Ó.mp w
    have:=A _ (j2 (T:=r1) (q:=q) w)
    have:=N _ (j2 (T:=r2) (q:=q) oM)
    lia
  refine eU (by simp[I,Q]) ?_;obtain⟨P,so,no⟩:=o;obtain⟨c1,c2,c3⟩:=ho;dsimp only at c1 c2 c3;have Z:aG S a (.int 0)=À (.fz (iL P)):=by rw[g];rfl
  have Y:aG S a (.int 2)=À (.int no):=by rw[g];rfl
  refine fx (v:=(⟨P,Ã,0-(no.natAbs:Int)⟩:Gv).av) (st':=S) ?_ ⟨⟨P,Ã,0-(no.natAbs:Int)⟩,rfl,c1,fun y h=>by have:=c2 y h;lia,by dsimp only;lia⟩;have lo:=tx (st:=S) (ks:=[aA,aq]) (e:=.ix (.v 4) (.i 0)) (sl:=[Rs 0,Is n,Rs (kb+1),Is x,À a,Ls r1,À p,Is d,Ls r2,À m,Is f]) (l:=P) (by simp[Z]) oM;have ab:aZ pi [.int no] S=À (.int (no.natAbs:Int),S):=by
   have:((no.natAbs:Nat):Int)=if no<0 then -no else no:=by split<;>lia
   rw[this];rfl
  generalize Ex.nw Ã (.lof (.ix (.v 4) (.i 0)))=ee at *;simp[lo,Y,ab,Gv.av]
 obtain⟨r,e,z,rfl,hz⟩:=s;exact⟨D2,z,e,hz⟩
end
section
variable{st:aa}{n:Nat}{G:List Gv}{ns:List Int}
theorem Du{m:Nat}(z:Gv):bC (m+1) st z.av=À z.av:=by cases m<;>rfl
theorem KF{m:Nat}(G:List Gv):aT (bC (m+1) st) (G.map Gv.av)=À (G.map Gv.av):=dO (f:=bC (m+1) st) (i:=Gv.av) (g:=Gv.av) (fun z=>Du z) G
theorem Fy(hns:ns.length<=63):∃(n:Nat)(G:List Gv)(z:Gv),(∀st,pm eR [.fz (iL ns),.int 4] st=À (.tup [.int n,.fz (G.map Gv.av),z.av],st))/\fA n/\G.length<=6/\(∀z∈G,okB n z)/\zt n z:=by
 obtain⟨D,b,e1,hD,hd⟩:=Fx hns;have hd:okD D:=hd;obtain⟨V,x,rfl⟩:=tz (D:=D) (fun z=>by rw[z]at hD;simp at hD);obtain⟨hx,hd1⟩:=hd.at;have p1:=xf (R:=b) (D:=V) (x:=x);simp only[zV,ŉ]at hD;have key:∃r,eR [.fz (iL ns),.int 4] []=À r/\∃(n:Nat)(G:List Gv)(z:Gv),dN r.2 r.1=À (.tup [.int n,.fz (G.map Gv.av),z.av])/\fA n/\G.length<=6/\(∀z∈G,okB n z)/\zt n z:=by
  rw [eR,aw];show ∃ r,(af [aU,aA,aq,aM] iq [Ls ns,Is 4,Á,Á,Á,Á,Á,Á,Á,Á] []).bind ay=À r/\_;unfold iq;obtain ⟨S,hS⟩:∃ S,S=Pe.lst (iL V)::b:=⟨_,rfl⟩;rw [<- hS] at p1;have w1:=ċ x (show (8:Int) ≠ 0 by decide);have w2:=Ą x (show (0:Int) < 8 by decide);obtain ⟨v,X,xv⟩:=Dw (st:=S) (l:=[.int 3,.int 2,.int 3,.int 1,.int 3,.int 2,.int 3,.int 2]) w1 w2;obtain ⟨W,rfl,hn0⟩:∃ n:Nat,v=.int (n:Int)/\fA n:=by
   unfold fA;simp only[zT,zX,or_false]at X;rcases X with rfl|rfl|rfl|rfl|rfl|rfl|rfl|rfl
   ·exact⟨3,rfl,by decide⟩
   ·exact⟨2,rfl,by decide⟩
   ·exact⟨3,rfl,by decide⟩
   ·exact⟨1,rfl,by decide⟩
   ·exact⟨3,rfl,by decide⟩
   ·exact⟨2,rfl,by decide⟩
   ·exact⟨3,rfl,by decide⟩
   ·exact⟨2,rfl,by decide⟩
  obtain⟨o,hc0,ec0⟩:∃c:Nat,c<5/\x/8%5=(c:Int):=o6 dC;have f8:aW .FloorDiv S (.int x) (.int 8)=À (.int (x/8)):=i6 rfl dC;have C:aW .FloorDiv S (.int x) (.int 64)=À (.int (x/64)):=i6 rfl dC;have m8:aW .Mod S (.int x) (.int 8)=À (.int (x%8)):=fB dC;have m5:aW .Mod S (.int (x/8)) (.int 5)=À (.int (o:Int)):=by rw[fB dC,ec0]
  have A:aW .Mod S (.int (x/64)) (.int 16)=À (.int (x/64%16)):=fB dC;refine ai (sl':=[Ls ns,Is 4,Rs 0,Á,Á,Á,Á,Á,Á,Á]) (st':=.lst (iL (V++[x]))::b) (by simp[e1,lY]) ?_;refine ai (sl':=[Ls ns,Is 4,Rs 0,Is x,Á,Á,Á,Á,Á,Á]) (st':=S) (by simp[p1,lY]) ?_;refine ai (sl':=[Ls ns,Is 4,Rs 0,Is x,Is W,Á,Á,Á,Á,Á]) (st':=S) (by simp[m8,xv,cU,rfs,rf]) ?_;refine ai (sl':=[Ls ns,Is 4,Rs 0,Is x,Is W,Is (o:Int),Á,Á,Á,Á]) (st':=S) (by simp[f8,m5]) ?_;obtain⟨O,N,hn1,hc1,s1⟩:∃O N:Nat,fA O/\N<5/\cV [aU,aA,aq,aM] (.iff (.cmp .Eq (.bin .Mod (.bin .FloorDiv (.v 3) (.i 64)) (.i 16)) (.i 0))
 (.cons (.as (.tu (.cons (.i 4) (.cons (.bi .min (.cons (.v 5) (.cons (.i 1) .nil))) .nil))) (.tu 2 (.cons (.nm 4) (.cons (.nm 5) .nil))))
 .nil)
 .nil) [Ls ns,Is 4,Rs 0,Is x,Is W,Is (o:Int),Á,Á,Á,Á] S=À (.nx [Ls ns,Is 4,Rs 0,Is x,Is O,Is (N:Int),Á,Á,Á,Á] S):=by
   by_cases h:x/64%16=0
   ·have em:aZ uh [.int (o:Int),.int 1] S=À (.int ((if 1<o then 1 else o:Nat):Int),S):=by
     have:((if 1<o then 1 else o:Nat):Int)=if(1:Int)<(o:Int) then 1 else(o:Int):=by split<;>split<;>lia
     rw[this];rfl
    refine⟨4,if 1<o then 1 else o,.inr (.inr (.inr rfl)),by split<;>lia,?_⟩;generalize (if 1<o then 1 else o:Nat)=N at *;simp[C,A,h,em];rfl
   ·exact⟨W,o,hn0,hc0,by simp[C,A,h]⟩
  refine ai s1 ?_;obtain⟨j,d,B,hc2,s2⟩:∃j d:Nat,fA j/\d<=6/\cV [aU,aA,aq,aM] (.iff (.cmp .Eq (.bin .Mod (.bin .FloorDiv (.v 3) (.i 64)) (.i 16)) (.i 1))
 (.cons (.as (.tu (.cons (.i 2) (.cons (.i 6) .nil))) (.tu 2 (.cons (.nm 4) (.cons (.nm 5) .nil))))
 .nil)
 .nil) [Ls ns,Is 4,Rs 0,Is x,Is O,Is (N:Int),Á,Á,Á,Á] S=À (.nx [Ls ns,Is 4,Rs 0,Is x,Is j,Is (d:Int),Á,Á,Á,Á] S):=by
   by_cases h:x/64%16=1
   ·exact⟨2,6,.inr (.inl rfl),by decide,by simp[C,A,h];rfl⟩
   ·exact⟨O,N,hn1,by lia,by simp[C,A,h]⟩
  refine ai s2 ?_
  have hc:∀D:List Int,∃p:List Int×Gv,(2<=D.length/\okD D)->aq [.ref 0,.int j] (.lst (iL D)::b)=À (p.2.av,.lst (iL p.1)::b)/\(okB j p.2/\p.2.num.natAbs<=100000000000)/\okD p.1/\D.length=p.1.length+2:=fun D=>by
   by_cases h:2<=D.length/\okD D
   ·obtain⟨D',z,E,L⟩:=tO (R:=b) B h.1 h.2
    exact⟨(D',z),fun _=>⟨E,L⟩⟩
   ·exact⟨([],⟨[],Â,0⟩),fun z=>absurd z h⟩
  obtain⟨f,hf⟩:=a! hc;obtain⟨it,P,Ph⟩:∃it:Nat->List Int,it 0=V/\∀i,it (i+1)=(f (it i)).1:=⟨fun i=>Nat.rec V (fun _ D=>(f D).1) i,rfl,fun _=>rfl⟩;have hJ:∀i,i<=d->okD (it i)/\(it i).length+2*i=29:=fun i=>by
   induction i with
   |zero=>intro _;rw[P];exact⟨hd1,by lia⟩
   |succ i ih =>
    intro Y;obtain⟨E,L⟩:=ih oM;obtain⟨_,_,h3,h4⟩:=hf (it i) ⟨by lia,E⟩;rw[Ph];exact⟨h3,by lia⟩
  have hF:∀i,i<d->aq [.ref 0,.int j] (.lst (iL (it i))::b)=À ((f (it i)).2.av,.lst (iL (it (i+1)))::b)/\(okB j (f (it i)).2/\(f (it i)).2.num.natAbs<=100000000000):=fun i Y=>by
   obtain⟨E,L⟩:=hJ i oM;obtain⟨h3,h4,_⟩:=hf (it i) ⟨by lia,E⟩;rw[Ph];exact⟨h3,h4⟩
  obtain⟨st',Z,hl,Q⟩:=Ai (gd:=[]) (g:=cM [aU,aA,aq,aM] (.nm 10)) (t:=j5 [aU,aA,aq,aM] .no) (f:=ev [aU,aA,aq,aM] (.ca Ã 2 (.cons (.v 2) (.cons (.v 4) .nil)))) (sl:=[Ls ns,Is 4,Rs 0,Is x,Is j,Is (d:Int),Á,Á,Á,Á,Á]) (xs:=(Æ d).map fun q:Nat=>AV.int (q:Int))
   (J:=fun i st=>i<=d/\st=.lst (iL (it i))::b) (F:=fun i=>(f (it i)).2.av) (fun _ _ _ _=>rfl) (fun i y st I hq0=>by
    obtain⟨Y,hst⟩:=hq0;have hi2:i<d:=by have:=(zB.mp I).1;simpa using this
    subst hst;have h:=(hF i hi2).1;exact⟨[Ls ns,Is 4,Rs 0,Is x,Is j,Is (d:Int),Á,Á,Á,Á,À y],_,rfl,rfl,by simp[h,lY],by lia,rfl⟩) (st:=S) ⟨ŀ _,by rw[P];exact hS⟩
  obtain⟨k,K⟩:∃k,k=(Æ d).map fun i=>(f (it i)).2:=⟨_,rfl⟩
  have H:k.length=d:=by rw[K];simp
  have M:∀z∈k,okB j z/\z.num.natAbs<=100000000000:=fun z hz=>by
   rw[K]at hz;obtain⟨i,Y,rfl⟩:=yC.mp hz;exact(hF i (Ó.mp Y)).2
  rw[zH,ģ]at Z Q;have eG0:(Æ d).map (fun i=>(f (it i)).2.av)=k.map Gv.av:=by rw[K,Ö];rfl
  rw[eG0]at Z;obtain⟨hd2,hl2⟩:=hJ d (zP _);generalize it d=w at *;subst Q;have e4:ev [aU,aA,aq,aM] (.nw Â (.lc 1 (.r1 (.v 5)) (.nm 10) .no (.ca Ã 2 (.cons (.v 2) (.cons (.v 4) .nil))))) [Ls ns,Is 4,Rs 0,Is x,Is j,Is (d:Int),Á,Á,Á,Á] S=À (.ref (b.length+1),.lst (iL w)::(b++[.lst (k.map Gv.av)])):=by
   have rb:=iO (st:=S) (ks:=[aU,aA,aq,aM]) (a:=.v 5) (sl:=[Ls ns,Is 4,Rs 0,Is x,Is j,Is (d:Int),Á,Á,Á,Á]) (n:=d) rfl oM;rw[wM,HH,rb,Ä];dsimp only;rw[yH (cC (by simp;lia))];show((iW [] _ _ _ [Ls ns,Is 4,Rs 0,Is x,Is j,Is (d:Int),Á,Á,Á,Á,Á] _ _).bind _)=_;rw[Z];rfl
  refine ai (sl':=[Ls ns,Is 4,Rs 0,Is x,Is j,Is (d:Int),Rs (b.length+1),Á,Á,Á]) (st':=.lst (iL w)::(b++[.lst (k.map Gv.av)])) (by rw[fU,e4];rfl) ?_;clear Z e4 hF hJ hf hc s1 s2;obtain⟨u,y7,y8,y9,lG1,U,s3⟩:∃(u:List Gv)(y7 y8 y9:Option AV),u.length=d/\(∀z∈u,okB j z)/\cV [aU,aA,aq,aM] (.iff (.an (.cmp .Gt (.v 5) (.i 1)) (.cmp .Eq (.bin .Mod (.bin .FloorDiv (.v 3) (.i 1024)) (.i 4)) (.i 0)))
 (.cons (.as (.ix (.v 6) (.i 0)) (.tu 3 (.cons (.nm 7) (.cons (.nm 8) (.cons (.nm 9) .nil)))))
 (.cons (.as (.tu (.cons (.nw Ã (.lof (.v 7))) (.cons (.ix (.nw Ã (.li (.cons (.s ">") (.cons (.v 8) .nil)))) (.bin .Mod (.bin .FloorDiv (.v 3) (.i 4096)) (.i 2))) (.cons (.bin .Sub (.v 9) (.bin .Mod (.bin .FloorDiv (.v 3) (.i 8192)) (.i 2))) .nil)))) (.su (.v 6) (.un .USub (.i 1))))
 .nil))
 .nil) [Ls ns,Is 4,Rs 0,Is x,Is j,Is (d:Int),Rs (b.length+1),Á,Á,Á] (.lst (iL w)::(b++[.lst (k.map Gv.av)]))=À (.nx [Ls ns,Is 4,Rs 0,Is x,Is j,Is (d:Int),Rs (b.length+1),y7,y8,y9] (.lst (iL w)::(b++[.lst (u.map Gv.av)]))):=by
   have gS:(Pe.lst (iL w)::(b++[.lst (k.map Gv.av)]))[b.length+1]?=À (.lst (k.map Gv.av)):=by simp
   have sS:∀y,(Pe.lst (iL w)::(b++[.lst (k.map Gv.av)])).set (b.length+1) y=Pe.lst (iL w)::(b++[y]):=fun y=>by simp
   generalize hT:(Pe.lst (iL w)::(b++[.lst (k.map Gv.av)]))=T at *;have f1:aW .FloorDiv T (.int x) (.int 1024)=À (.int (x/1024)):=i6 rfl dC;have f2:aW .FloorDiv T (.int x) (.int 4096)=À (.int (x/4096)):=i6 rfl dC;have f3:aW .FloorDiv T (.int x) (.int 8192)=À (.int (x/8192)):=i6 rfl dC;have m1:aW .Mod T (.int (x/1024)) (.int 4)=À (.int (x/1024%4)):=fB dC;have m2:aW .Mod T (.int (x/4096)) (.int 2)=À (.int (x/4096%2)):=fB dC;have m3:aW .Mod T (.int (x/8192)) (.int 2)=À (.int (x/8192%2)):=fB dC;by_cases h:1<d/\x/1024%4=0
   ·obtain⟨E,L⟩:=h
    obtain⟨z,hz,xz⟩:=xE gS (i:=0) oM;have xz:aG T (.ref (b.length+1)) (.int 0)=À z.av:=xz;obtain⟨⟨b1,b2,b3⟩,b4⟩:=M z hz;obtain⟨r,s,m⟩:=z;dsimp only at b1 b2 b3 b4;have hN:2^j-1<=15:=by rcases B with rfl|rfl|rfl|rfl<;>decide
    have q1:=ċ (x / 8192) (show (2:Int) ≠ 0 by decide);have q2:=Ą (x / 8192) (show (0:Int) < 2 by decide);obtain ⟨sg,es⟩:∃ sg:Bool,aG T (.fz [.str ">",.str (if s=Â then "=" else ">")]) (.int (x / 4096 % 2))=À (.str (if sg=Â then "=" else ">")):=by
     rcases U9 (x/4096) with h|h<;>rw[h]
     ·exact⟨Ã,rfl⟩
     ·exact⟨s,rfl⟩
    have lo:=tx (st:=T) (ks:=[aU,aA,aq,aM]) (e:=.v 7) (sl:=[Ls ns,Is 4,Rs 0,Is x,Is j,Is (d:Int),Rs (b.length+1),Ls r,À (.str (if s=Â then "=" else ">")),Is m]) (l:=r) rfl oM;have sa:je T (.ref (b.length+1)) (.int (-1)) (⟨r,sg,m-x/8192%2⟩:Gv).av=À (Pe.lst (iL w)::(b++[.lst ((k.set (d-1) ⟨r,sg,m-x/8192%2⟩).map Gv.av)])):=by
     unfold je;simp only[gS];have:lZ (k.map Gv.av).length (-1)=À (d-1):=by
      unfold lZ;rw[zH,H,yG oM];rw[yH oM];congr 1;lia
     rw[this];simp only[Ä,Ð,sS,s?]
    refine⟨k.set (d-1) ⟨r,sg,m-x/8192%2⟩,Ls r,À (.str (if s=Â then "=" else ">")),Is m,by simp[H],fun y I=>?_,?_⟩
    ·rcases ø I with I|I
     ·exact(M y I).1
     ·rw[I];exact⟨b1,b2,by dsimp only;lia⟩
    ·have tt:tv [aU,aA,aq,aM] (.an (.cmp .Gt (.v 5) (.i 1)) (.cmp .Eq (.bin .Mod (.bin .FloorDiv (.v 3) (.i 1024)) (.i 4)) (.i 0))) [Ls ns,Is 4,Rs 0,Is x,Is j,Is (d:Int),Rs (b.length+1),Á,Á,Á] T=À (Â,T):=by simp[show(1:Int)<(d:Int) by lia,f1,m1,L]
     rw[d5,tt,Ä];show af _ _ _ _=_;refine au (sl':=[Ls ns,Is 4,Rs 0,Is x,Is j,Is (d:Int),Rs (b.length+1),Ls r,À (.str (if s=Â then "=" else ">")),Is m]) (st':=T) (by simp[xz];rfl) ?_;generalize X:AV.str (if s=Â then "=" else ">")=v8 at *;refine au (sl':=[Ls ns,Is 4,Rs 0,Is x,Is j,Is (d:Int),Rs (b.length+1),Ls r,À v8,Is m]) (st':=Pe.lst (iL w)::(b++[.lst ((k.set (d-1) ⟨r,sg,m-x/8192%2⟩).map Gv.av)])) ?_ rfl;have rv8:rf v8=Â:=by rw[<- X];rfl
     have ex:ev [aU,aA,aq,aM] (.tu (.cons (.nw Ã (.lof (.v 7))) (.cons (.ix (.nw Ã (.li (.cons (.s ">") (.cons (.v 8) .nil)))) (.bin .Mod (.bin .FloorDiv (.v 3) (.i 4096)) (.i 2))) (.cons (.bin .Sub (.v 9) (.bin .Mod (.bin .FloorDiv (.v 3) (.i 8192)) (.i 2))) .nil)))) [Ls ns,Is 4,Rs 0,Is x,Is j,Is (d:Int),Rs (b.length+1),Ls r,À v8,Is m] T=À ((⟨r,sg,m-x/8192%2⟩:Gv).av,T):=by
      generalize Ex.nw Ã (.lof (.v 7))=ee at *;simp[lo,cU,rfs,rf,rv8,f2,m2,es,f3,m3,Gv.av]
     rw[fU,ex];have u1:kN .USub T (.int 1)=À (.int (-1)):=rfl;simp[u1,sa]
   ·refine⟨k,Á,Á,Á,H,fun z hz=>(M z hz).1,?_⟩
    by_cases E:1<d
    ·have L:¬x/1024%4=0:=fun e=>h ⟨E,e⟩
     simp[show(1:Int)<(d:Int) by lia,f1,m1,L];exact hT.symm
    ·simp[show ¬(1:Int)<(d:Int) by lia]
     exact hT.symm
  refine ai s3 ?_;obtain⟨D3,z,ew,hz⟩:=Bc (R:=b++[.lst (u.map Gv.av)]) (kb:=b.length) (G:=u) B oM hd2 (by simp) oM U;refine fx (v:=.tup [.int j,.ref (b.length+1),z.av]) (st':=.lst (iL D3)::(b++[.lst (u.map Gv.av)])) ?_ ⟨j,u,z,?_,B,by lia,U,hz⟩
  ·have rv:∀st:aa,True:=fun _=>trivial
   simp only[iB,wL,cG,c6,gN,eP,eZ,Ä,jd,sZ,jf,kA,ew];rfl
  ·have g1:(Pe.lst (iL D3)::(b++[.lst (u.map Gv.av)]))[b.length+1]?=À (.lst (u.map Gv.av)):=by simp
   have e2:bC 5 (Pe.lst (iL D3)::(b++[.lst (u.map Gv.av)])) (.ref (b.length+1))=À (.fz (u.map Gv.av)):=by
    unfold bC;simp only[g1,KF,Ð]
   show(aT (bC 5 _) [.int j,.ref (b.length+1),z.av]).map AV.tup=_;simp only[aT,e2,Du,show ∀i st,bC 5 st (.int i)=À (.int i) from fun _ _=>rfl,Ä,Ð]
 obtain⟨r,e1,n,G,z,e2,h⟩:=key;exact⟨n,G,z,fun st=>aN (by simp[rfs,rf,bF]) e1 e2,h⟩
theorem Cv(b:G.length<=100)(hz:∀z∈G,z.row.length<=1000):pm fc [.fz (G.map Gv.av)] st=À (.fz (G.map Gv.av),st):=by
 have rG:rfs (G.map Gv.av)=Â:=ju _;refine aN (by simp[rfs,rf,rG]) (v:=.fz (G.map Gv.av)) (st':=[]) ?_ rfl;rw[fc,aw];show(af [] gy [Zs (G.map Gv.av)] []).bind ay=_;unfold gy;refine aX ?_;have e:=eJ (st:=[]) (ks:=[]) (k:=3) (it:=.e (.v 0)) (t:=.tu 3 (.cons (.nm 1) (.cons (.nm 2) (.cons (.nm 3) .nil)))) (c:=.no) (e:=.tu (.cons (.nw Ã (.lof (.v 1))) (.cons (.v 2) (.cons (.v 3) .nil)))) (sl:=[Zs (G.map Gv.av)]) (gd:=[]) (em:=Gv.av) (xs:=G) (B:=fun _=>Â) (F:=Gv.av) rfl rfl oM fun z h=>by
  have a:=tx (st:=[]) (ks:=[]) (e:=.v 1) (sl:=[Zs (G.map Gv.av),Ls z.row,À (.str (if z.eq=Â then "=" else ">")),Is z.num]) (l:=z.row) rfl (hz z h);refine⟨[Zs (G.map Gv.av),Ls z.row,À (.str (if z.eq=Â then "=" else ">")),Is z.num],rfl,rfl,fun _=>?_⟩;generalize Ex.nw Ã (.lof (.v 1))=ee at *;simp[a,Gv.av]
 rw[Ô.mpr (fun _ _=>rfl)]at e;rw[iB,dE,e,Ä,yH rG];rfl
end
section
variable{st:aa}{n zz:AV}{GA:List AV}{k:Nat}{ps:List Nat}
theorem iD:∀{xs:List AV}{y:AV},rfs xs=Â->y∈xs->rf y=Â
 |[],_,_,h=>nomatch h
 |z::xs,y,h,hm=>by
  simp only[rfs,zC]at h;rcases zT.mp hm with rfl|hm
  ·exact h.1
  ·exact iD h.2 hm
theorem xF(h:k<GA.length):aG st (.fz GA) (.int (k:Int))=À (GA.getD k .non):=by
 rw[cH dR,bS,zD,zF h];rfl
theorem JB{ks:List Fn}{it c v:Nat}{sl:Sl}(H:∀p∈ps,p<GA.length)(m:ps.length<=6)(h:rfs GA=Â)(b:sl.length=c)(l:fj ks (.e (.v it)) sl st=À (⟨nL ps,[]⟩,st))(j:∀y,ev ks (.v v) (sl++[y]) st=À (.fz GA,st)):ev ks (.nw Ã (.lc 1 (.e (.v it)) (.nm c) .no (.ix (.v v) (.v c)))) sl st=À (.fz (ps.map fun p=>GA.getD p .non),st):=by
 have e:=eJ (st:=st) (ks:=ks) (k:=1) (it:=.e (.v it)) (t:=.nm c) (c:=.no) (e:=.ix (.v v) (.v c)) (sl:=sl) (gd:=[]) (em:=fun q:Nat=>AV.int (q:Int)) (xs:=ps) (B:=fun _=>Â) (F:=fun p=>GA.getD p .non) l rfl oM fun p a=>by
  refine⟨sl++[Is (p:Int)],?_,rfl,fun _=>?_⟩
  ·show À ((sl++[Á]).set c (À (.int (p:Int))),st)=_
   rw[<- b,F? _ _ (zP _),D?];rfl
  ·have f:=j (Is (p:Int))
   have d:ev ks (.v c) (sl++[Is (p:Int)]) st=À (.int (p:Int),st):=by
    show(aV c _ st)=_;have:(sl++[Is (p:Int)])[c]?=À (Is (p:Int)):=by rw[<- b];simp
    unfold aV;rw[this]
   simp only[oV,f,d,Ä,xF (H p a),Ð]
 rw[Ô.mpr (fun _ _=>rfl)]at e;have g:rfs (ps.map fun p=>GA.getD p .non)=Â:=dW fun y i=>by
  obtain⟨p,a,rfl⟩:=yC.mp i;rw[zD,zF (H p a)];exact iD h (Ø (H p a))
 rw[dE,e,Ä,yH g]
theorem Bb(h:ps.length<=6):pm aI [.fz (nL ps),.int (ps.length:Int)] st=À (.bl Â,st):=by
 refine aN (by simp[rfs,rf]) (v:=.bl Â) (st':=[]) ?_ rfl;rw[aI,aw];show(af [] dY [Zs (nL ps),Is (ps.length:Int)] []).bind ay=_;unfold dY;have a:aZ cO [.fz (nL ps)] []=À (.int (ps.length:Int),[]):=by
  show À (AV.int ((nL ps).length:Int),_)=_;rw[pP]
 have b:ev [] (.is "list" (.v 0)) [Zs (nL ps),Is (ps.length:Int)] []=À (.bl Â,[]):=rfl;refine ad (sl':=[Zs (nL ps),Is (ps.length:Int)]) (st':=[]) (by
  generalize Ex.is "list" (.v 0)=ee at *;simp[a,b,cK]) (aX ?_)
 have e:=eJ (st:=[]) (ks:=[]) (k:=1) (it:=.e (.v 0)) (t:=.nm 2) (c:=.so (.or (.no (.va (.is "int" (.v 2)))) (.va (.is "bool" (.v 2))))) (e:=.v 2) (sl:=[Zs (nL ps),Is (ps.length:Int)]) (gd:=[]) (em:=fun q:Nat=>AV.int (q:Int)) (xs:=ps) (B:=fun _=>Ã) (F:=fun q=>AV.int (q:Int)) rfl rfl oM fun p f=>⟨[Zs (nL ps),Is (ps.length:Int),Is (p:Int)],rfl,rfl,fun h=>(nomatch h)⟩
 rw[ÿ.mpr (fun _ _=>by simp)]at e;have d:ev [] (.nw Ã (.lc 1 (.e (.v 0)) (.nm 2) (.so (.or (.no (.va (.is "int" (.v 2)))) (.va (.is "bool" (.v 2))))) (.v 2))) [Zs (nL ps),Is (ps.length:Int)] []=À (.fz [],[]):=by rw[dE,e,Ä];rfl
 have q:aY .Eq [] (.fz []) (.fz [])=À Â:=by kernel_rfl
 simp only[iB,pw,d,Ä];simp[cU,q]
theorem xN:∀l:List Int,Ϗ (l.map ë) (l.map ë)=Â
 |[]=>rfl
 |x::l=>by simp[Ϗ,ß,xN l]
theorem Dk:∀G:List Gv,Ϗ (G.map hU) (G.map hU)=Â
 |[]=>rfl
 |z::G=>by
  obtain⟨r,e,m⟩:=z;simp[Ϗ,ß,hU,xN r,Dk G]
theorem K7(G:List Gv):(ŋ (G.map hU)).depth<=50:=by
 have d:∀l:List Int,Ć (l.map ë)=0:=fun l=>by
  induction l with
  |nil=>rfl
  |cons x l a=>simp only[zO,Ć,ŕ,a,Y1]
 have c:∀z:Gv,(hU z).depth<=10:=fun z=>by
  obtain⟨r,e,m⟩:=z;simp[hU,ŕ,Ć,d]
 have b:∀G:List Gv,Ć (G.map hU)<=10:=fun G=>by
  induction G with
  |nil=>simp[Ć]
  |cons z G a =>
   have:=c z
   simp only[zO,Ć];lia
 have:=b G
 simp only[ŕ];lia
theorem E8(G:List Gv):aY .NotEq st (.fz (G.map Gv.av)) (.fz (G.map Gv.av))=À Ã:=by
 change (i8 st _ _).map (fun b=>!b)=_;have a:cE 9 st (.fz (G.map Gv.av))=À (.list (G.map hU)):=by
  have:aT (cE 8 st) (G.map Gv.av)=À (G.map hU):=dO (f:=cE 8 st) (i:=Gv.av) (g:=hU) (fun z=>C2 z) G;show(aT (cE 8 st) _).map _=_;rw[this];rfl
 unfold i8;rw[a,Ä,Ä,yH (by
  unfold DD.pyOk;rw[show(ŋ (G.map hU)).canLay0=Â by simp only[ā,uu],yV (z5 (Nat.min_le_left _ _) (K7 G))];rfl)]
 simp[ß,Dk G]
end
section
variable{st:aa}{n:Nat}{r T:List Int}
theorem Dc(p:r.length<=15)(s:T.length=r.length)(m:∀x∈r,x.natAbs<2^9000)(o:∀x∈T,x.natAbs<2^9000):pm cF [.fz (iL r),.fz (iL T)] st=À (.int (val r.length r (gI T)),st):=by
 have e:=eJ (st:=[]) (ks:=[]) (k:=1) (it:=.r1 (.bi .len (.cons (.v 0) .nil))) (t:=.nm 2) (c:=.no) (e:=.bin .Mult (.ix (.v 0) (.v 2)) (.ix (.v 1) (.v 2))) (sl:=[Ls r,Ls T]) (gd:=[]) (em:=fun q:Nat=>AV.int (q:Int)) (xs:=Æ r.length) (B:=fun _=>Â) (F:=fun q=>AV.int (gI r q*gI T q)) (iO (by simp[Dd]) oM) rfl (by simp;lia) fun q a=>by
  have a:=Ó.mp a;have h:=sy (st:=[]) (T:=r) (i:=q) a;have g:=sy (st:=[]) (T:=T) (i:=q) oM;exact⟨[Ls r,Ls T,Is (q:Int)],rfl,rfl,fun _=>by
   have b:aW .Mult [] (.int (gI r q)) (.int (gI T q))=À (.int (gI r q*gI T q)):=cj (cL (m _ (j2 a)) (o _ (j2 (show q<T.length by lia))));simp[h,g,b]⟩
 rw[Ô.mpr (fun _ _=>rfl),show(Æ r.length).map (fun q=>AV.int (gI r q*gI T q))=iL ((Æ r.length).map fun q=>gI r q*gI T q) by unfold iL;rw[Ö];rfl]at e;have l:ev [] (.nw Ã (.lc 1 (.r1 (.bi .len (.cons (.v 0) .nil))) (.nm 2) .no (.bin .Mult (.ix (.v 0) (.v 2)) (.ix (.v 1) (.v 2))))) [Ls r,Ls T] []=À (.fz (iL ((Æ r.length).map fun q=>gI r q*gI T q)),[]):=by
  rw[dE,e,Ä,yH bF]
 have j:∀n (f:Nat->Int),((Æ n).map f).sum=Pg n f:=fun n f=>by
  induction n with
  |zero=>rfl
  |succ n d=>rw[Ŗ,ä,U?,d];simp[Pg]
 refine aN (by simp[rfs,rf,bF]) (v:=.int (val r.length r (gI T))) (st':=[]) ?_ rfl;rw[cF,aw];show(af [] jN [Ls r,Ls T] []).bind ay=_;refine aX ?_;simp only[iB,wO,cG,c6,l,Ä,qr,aZ,ms,tf,Ð];rw[j];rfl
end
section
variable{st:aa}{n:Nat}{W V:List Int}{E:Int}
theorem uk(a:fA n):pm cR [.int n] st=À (.fz (ao (bB n)),st):=by
 rcases a with rfl|rfl|rfl|rfl
 ·exact dA rfl (by kernel_rfl)
 ·exact dA rfl (by kernel_rfl)
 ·exact dA rfl (by kernel_rfl)
 ·exact dA rfl (by kernel_rfl)
theorem AH:aY .Eq st (.fz []) (.fz [])=À Â:=by kernel_rfl
theorem AJ:aY .NotEq st (.fz []) (.fz [])=À Ã:=by kernel_rfl
theorem sf(h:W.length<=1000):pm aI [.fz (iL W),.int (W.length:Int)] st=À (.bl Â,st):=by
 refine aN (by simp[rfs,rf]) (v:=.bl Â) (st':=[]) ?_ rfl;rw[aI,aw];show(af [] dY [Ls W,Is (W.length:Int)] []).bind ay=_;unfold dY;have a:aZ cO [.fz (iL W)] []=À (.int (W.length:Int),[]):=by
  show À (AV.int ((iL W).length:Int),_)=_;rw[gf]
 have b:ev [] (.is "list" (.v 0)) [Ls W,Is (W.length:Int)] []=À (.bl Â,[]):=rfl;refine ad (sl':=[Ls W,Is (W.length:Int)]) (st':=[]) (by
  generalize Ex.is "list" (.v 0)=ee at *;simp[a,b,cK]) (aX ?_)
 have e:=eJ (st:=[]) (ks:=[]) (k:=1) (it:=.e (.v 0)) (t:=.nm 2) (c:=.so (.or (.no (.va (.is "int" (.v 2)))) (.va (.is "bool" (.v 2))))) (e:=.v 2) (sl:=[Ls W,Is (W.length:Int)]) (gd:=[]) (em:=AV.int) (xs:=W) (B:=fun _=>Ã) (F:=fun q=>AV.int q) rfl rfl h fun q _=>⟨[Ls W,Is (W.length:Int),Is q],rfl,rfl,fun z=>by cases z⟩
 rw[ÿ.mpr (fun _ _=>by simp)]at e;have d:ev [] (.nw Ã (.lc 1 (.e (.v 0)) (.nm 2) (.so (.or (.no (.va (.is "int" (.v 2)))) (.va (.is "bool" (.v 2))))) (.v 2))) [Ls W,Is (W.length:Int)] []=À (.fz [],[]):=by rw[dE,e,Ä];rfl
 simp only[iB,pw,d,Ä];simp[cU,AH]
theorem H0:∀b a:Nat,pm bt [.int (a:Int),.int (b:Int)] st=À (.int (Û a b:Int),st):=fun b a=>by
 have c:∀b a:Nat,cV [] (.wh (.cmp .NotEq (.v 1) (.i 0)) (.cons (.pa 0 1 (.v 1) (.bin .Mod (.v 0) (.v 1))) .nil)) [Is (a:Int),Is (b:Int)] []=À (.nx [Is (Û a b:Int),Is 0] []):=fun b=>by
  induction b using U2 with
  |_ b ih =>
   intro a;by_cases h:b=0
   ·subst h
    rw[Ϣ];exact kP (n:=1) (kK (by simp))
   ·have e:=ih (a%b) (j! _ oM) b
    obtain⟨n,d⟩:=t0 e;rw[uJ]at d;refine kP (n:=n+1) (nh (st':=[]) (by simp;lia) ?_ d);have g:(b:Int)≠0:=by lia
    have f:mR (a:Int) (b:Int)=((a%b:Nat):Int):=by unfold mR;rw[yH oM];simp
    show af [] (.cons (.pa 0 1 (.v 1) (.bin .Mod (.v 0) (.v 1))) .nil) _ _=_;refine au (sl':=[Is (b:Int),Is ((a%b:Nat):Int)]) (st':=[]) ?_ rfl;show CV 0 1 _ _ _ _=_;unfold CV;simp[nY g,f]
 refine aN (by simp[rfs,rf]) (v:=.int (Û a b:Int)) (st':=[]) ?_ rfl;rw[bt,aw];show(af [] fO [Is (a:Int),Is (b:Int)] []).bind ay=_;unfold fO;refine ad (c b a) (aX ?_);have:aZ pi [.int (Û a b:Int)] []=À (.int (Û a b:Int),[]):=by
  show À (AV.int (if((Û a b:Nat):Int)<0 then _ else _),_)=_;rw[yG oM]
 simp[this]
end
section
variable{st:aa}{n w:Nat}{W V:List Int}{E:Int}{z:Gv}{G:List Gv}
theorem pe:∀(l:List Int)(g:Nat),l.foldl (fun g x=>Û g x.natAbs) g=Û g (gL l)
 |[],g=>(Ϣ g).symm
 |x::l,g=>by
  rw[Ġ,pe l,show gL (x::l)=l.foldl (fun g x=>Û g x.natAbs) (Û 0 x.natAbs) from rfl,pe l,S7,Nat.gcd_assoc]
theorem C7(a:fA n){ks:List Fn}{sl:Sl}:ev ks (.bin .Sub (.bin .LShift (.i 1) (.v 0)) (.i 1)) (Is (n:Int)::sl) st=À (.int ((2^n-1:Nat):Int),st):=by
 rcases a with rfl|rfl|rfl|rfl<;>rfl
theorem Fc(o:fA n)(B:V.length=2^n-1)(C:∀x∈V,0<=x)(L:0<E)(F:gL (V++[E])=1):pm cJ [.int n,.tup [.fz (iL V),.int E]] st=À (.bl Â,st):=by
 have K:2^n-1<=15:=by rcases o with rfl|rfl|rfl|rfl<;>decide
 obtain⟨a,rfl⟩:∃a:Nat,E=(a:Int):=⟨E.toNat,by lia⟩;obtain⟨t,d⟩:∃t,t=AV.tup [.fz (iL V),.int (a:Int)]:=⟨_,rfl⟩;have m:aG [] t (.int 0)=À (.fz (iL V)):=by rw[d];rfl
 have l:aG [] t (.int 1)=À (.int (a:Int)):=by rw[d];rfl
 have r:aZ cO [t] []=À (.int 2,[]):=by rw[d];rfl
 have u:ev [aI,bt] (.is "tuple" (.v 1)) [Is n,À t,Á,Á] []=À (.bl Â,[]):=by rw[d];rfl
 have w:ev [aI,bt] (.is "int" (.ix (.v 1) (.i 1))) [Is n,À t,Á,Á] []=À (.bl Â,[]):=by rw[d];rfl
 have z:ev [aI,bt] (.is "bool" (.ix (.v 1) (.i 1))) [Is n,À t,Á,Á] []=À (.bl Ã,[]):=by rw[d];rfl
 have q:rf t=Â:=by rw[d];simp[rf,rfs,bF]
 have k:=sf (st:=[]) (W:=V) oM;rw[B]at k;rw[<- d];refine aN (by simp[rfs,rf,q]) (v:=.bl Â) (st':=[]) ?_ rfl;rw[cJ,aw];show(af [aI,bt] fN [Is n,À t,Á,Á] []).bind ay=_;unfold fN;have mk:=C7 o (st:=[]) (ks:=[aI,bt]) (sl:=[À t,Á,Á]);refine ad (sl':=[Is n,À t,Á,Á]) (st':=[]) (by
  generalize Ex.bin .Sub (.bin .LShift (.i 1) (.v 0)) (.i 1)=mm at *;generalize Ex.is "tuple" (.v 1)=ee at *;simp[u,r,cK,m,mk,k]) ?_
 refine ad (sl':=[Is n,À t,Á,Á]) (st':=[]) (by
  generalize Ex.is "int" (.ix (.v 1) (.i 1))=ee at *;generalize Ex.is "bool" (.ix (.v 1) (.i 1))=e2 at *;have:¬(a:Int)<1:=by lia
  simp[w,z,cK,l,this]) ?_
 refine ad (sl':=[Is n,À t,Is (a:Int),Á]) (st':=[]) (by simp[l]) ?_;obtain⟨sl',st',e,rfl,y,rfl⟩:=dX (gd:=[]) (g:=cM [aI,bt] (.nm 3)) (s:=af [aI,bt] (.cons (.as (.ca Â 1 (.cons (.v 2) (.cons (.v 3) .nil))) (.nm 2)) .nil))
  (I:=fun i sl s=>s=[]/\∃y,sl=[Is n,À t,Is ((V.take i).foldl (fun g x=>Û g x.natAbs) a:Nat),y]) (xs:=iL V) (fun _ _ _ _ _=>rfl)
  (fun i y sl s f j=>by
   obtain⟨A,J,D⟩:=j;subst A;subst D;have h:i<V.length:=by have:=(zB.mp f).1;simpa using this
   rw[cx h]at f;injection f with f;subst f;obtain⟨b,p⟩:∃b:Nat,gI V i=(b:Int):=⟨(gI V i).toNat,by have:=C _ (j2 h);lia⟩;have d:(V.take (i+1)).foldl (fun g x=>Û g x.natAbs) a=Û ((V.take i).foldl (fun g x=>Û g x.natAbs) a) b:=by
    rw[h!,zF h,Ϩ];show Û _ (V[i]).natAbs=_;have:V[i]=(b:Int):=by rw[<- p];unfold gI;rw[zD,zF h];rfl
    rw[this];rfl
   rw[p,d];generalize (V.take i).foldl (fun g x=>Û g x.natAbs) a=c;exact⟨_,_,_,rfl,au (sl':=[Is n,À t,Is (Û c b:Int),Is (b:Int)]) (st':=[]) (by simp[H0]) rfl,rfl,_,rfl⟩) (sl:=[Is n,À t,Is (a:Int),Á]) (st:=[]) ⟨rfl,Á,rfl⟩
 rw[gf,Ĭ,pe,F!]at e;have H:Û (gL V) a=1:=by rw[<- F,uQ];rfl
 rw[H]at e;refine ad (sl':=[Is n,À t,Is 1,y]) (st':=[]) ?_ (aX (by simp));rw[jC];have G:fj [aI,bt] (.e (.ix (.v 1) (.i 0))) [Is n,À t,Is (a:Int),Á] []=À (⟨iL V,[]⟩,[]):=by simp[m]
 rw[G,Ä];exact e
def kB(w:Nat)(z:Gv)(V:List Int)(E:Int):Bool:=decide (val w z.row (gI V)-z.num*E=0)||(!z.eq&&decide (0<val w z.row (gI V)-z.num*E))
theorem Fg(p:w<=15)(hz:z.row.length=w/\(∀x∈z.row,x.natAbs<2^9000)/\z.num.natAbs<2^9000)(q:V.length=w)(k:(∀x∈V,x.natAbs<2^9000)/\E.natAbs<2^9000):pm c5 [z.av,.tup [.fz (iL V),.int E]] st=À (.bl (kB w z V E),st):=by
 obtain⟨r,b,a⟩:=z;obtain⟨i,f,e⟩:=hz;dsimp only at i f e;have c:=Dc (st:=[]) (r:=r) (T:=V) oM oM f k.1;rw[i]at c;have n:aG [] (.tup [.fz (iL V),.int E]) (.int 0)=À (.fz (iL V)):=rfl;have m:aG [] (.tup [.fz (iL V),.int E]) (.int 1)=À (.int E):=rfl;have l:aW .Mult [] (.int a) (.int E)=À (.int (a*E)):=cj (cL e k.2);have j:aY .Eq [] (.str (if b=Â then "=" else ">")) (.str ">")=À (!b):=by cases b<;>kernel_rfl
 unfold kB;dsimp only;generalize val w r (gI V)=v at *;generalize o:v-a*E=g at *;refine aN (by simp[rfs,rf,Gv.av,bF]) (v:=.bl (decide (g=0)||(!b&&decide (0<g)))) (st':=[]) ?_ rfl;rw[c5,aw];show(af [cF] iS [À (Gv.av ⟨r,b,a⟩),À (.tup [.fz (iL V),.int E]),Á,Á,Á,Á] []).bind ay=_;unfold iS;obtain⟨u,d⟩:∃u,u=AV.str (if b=Â then "=" else ">"):=⟨_,rfl⟩;rw[<- d]at j;refine ad (sl':=[À (Gv.av ⟨r,b,a⟩),À (.tup [.fz (iL V),.int E]),Ls r,À u,Is a,Á]) (st':=[]) (by rw[d];rfl) ?_;refine ad (sl':=[À (Gv.av ⟨r,b,a⟩),À (.tup [.fz (iL V),.int E]),Ls r,À u,Is a,Is g]) (st':=[]) (by simp[n,m,c,l,o]) (aX ?_);by_cases h:g=0
 ·simp[h]
 ·cases b<;>simp[h,j]
theorem Ak(a:fA n)(M:G.length<=1000)(hz:∀z∈G,z.row.length=2^n-1/\(∀x∈z.row,x.natAbs<2^9000)/\z.num.natAbs<2^9000)(J:z.row.length=2^n-1/\(∀x∈z.row,x.natAbs<2^9000)/\z.num.natAbs<2^9000)(T:wE (2^n-1) (bB n) G V E)(K:∀x∈V,0<=x)(f:¬Hd (2^n-1) z (gI V) E) :
  pm dh [.int n,.fz (G.map Gv.av),z.av,.tup [.fz (iL V),.int E]] st=À (.bl Â,st):=by
 have L:2^n-1<=15:=by rcases a with rfl|rfl|rfl|rfl<;>decide
 have N:∀l∈bB n,l.length=2^n-1/\∀x∈l,x.natAbs<=1:=by rcases a with rfl|rfl|rfl|rfl<;>decide +kernel
 have Q:(bB n).length<=100:=by rcases a with rfl|rfl|rfl|rfl<;>decide
 have C:kB (2^n-1) z V E=Ã:=by
  unfold kB;unfold Hd at f;rw[I?,Bool.and_eq_false_iff];refine⟨z9 fun h=>f ⟨by lia,fun _=>by lia⟩,?_⟩;cases d:z.eq with
  |true=>exact .inl rfl
  |false=>exact .inr (z9 fun h=>f ⟨by lia,fun q=>by rw[d]at q;cases q⟩)
 have D:∀z∈G,kB (2^n-1) z V E=Â:=fun z hz=>by
  unfold kB;cases d:z.eq with
  |true=>have:=T.kp.eq z hz d;rw[yV oM];rfl
  |false =>
   have:=T.kp.ge z hz d
   by_cases h:val (2^n-1) z.row (gI V)-z.num*E=0
   ·rw[yV h];rfl
   ·rw[z9 h,yV (p:=0<_) oM];rfl
 obtain⟨t,b⟩:∃t,t=AV.tup [.fz (iL V),.int E]:=⟨_,rfl⟩;have g:=Fc (st:=[]) a T.len K T.pos T.lo1;have j:∀z:Gv,(z.row.length=2^n-1/\(∀x∈z.row,x.natAbs<2^9000)/\z.num.natAbs<2^9000)->∀st,pm c5 [z.av,t] st=À (.bl (kB (2^n-1) z V E),st):=fun z h st=>by rw[b];exact Fg L h T.len T.bd
 have H:aG [] t (.int 0)=À (.fz (iL V)):=by rw[b];rfl
 have A:rf t=Â:=by rw[b];simp[rf,rfs,bF]
 rw[<- b]at g ⊢;have w:rf z.av=Â:=by simp[Gv.av,rf,rfs,bF]
 have u:=eJ (st:=[]) (ks:=[c5,cJ,cR,cF]) (k:=1) (it:=.e (.v 1)) (t:=.nm 4) (c:=.so (.no (.va (.ca Â 0 (.cons (.v 4) (.cons (.v 3) .nil)))))) (e:=.v 4) (sl:=[Is n,Zs (G.map Gv.av),À z.av,À t]) (gd:=[]) (em:=Gv.av) (xs:=G) (B:=fun _=>Ã) (F:=Gv.av) rfl rfl M fun y m=>⟨[Is n,Zs (G.map Gv.av),À z.av,À t,À y.av],rfl,by simp[j y (hz y m),D y m,cK],fun z=>by cases z⟩
 rw[ÿ.mpr (fun _ _=>by simp)]at u;have P:ev [c5,cJ,cR,cF] (.nw Ã (.lc 1 (.e (.v 1)) (.nm 4) (.so (.no (.va (.ca Â 0 (.cons (.v 4) (.cons (.v 3) .nil)))))) (.v 4))) [Is n,Zs (G.map Gv.av),À z.av,À t] []=À (.fz [],[]):=by rw[dE,u,Ä];rfl
 have s:=eJ (st:=[]) (ks:=[c5,cJ,cR,cF]) (k:=1) (it:=.e (.ca Â 2 (.cons (.v 0) .nil))) (t:=.nm 4) (c:=.so (.cmp .Lt (.ca Â 3 (.cons (.v 4) (.cons (.ix (.v 3) (.i 0)) .nil))) (.i 0))) (e:=.v 4) (sl:=[Is n,Zs (G.map Gv.av),À z.av,À t]) (gd:=[]) (em:=fun l:List Int=>AV.fz (iL l)) (xs:=bB n) (B:=fun _=>Ã) (F:=fun l=>AV.fz (iL l)) (by
  simp[uk a];rfl) rfl oM fun l o=>⟨[Is n,Zs (G.map Gv.av),À z.av,À t,Ls l],rfl,by
   obtain⟨a1,a2⟩:=N l o;have i:=Dc (st:=[]) (r:=l) (T:=V) oM (by have:=T.len;lia) (fun x I=>yL (a2 x I) (Ϡ dC)) T.bd.1;rw[a1]at i;have nn:=T.kp.rule l o;generalize val (2^n-1) l (gI V)=v at *;have:¬v<0:=by lia
   simp[H,i,this],fun z=>by cases z⟩
 rw[ÿ.mpr (fun _ _=>by simp)]at s;have O:ev [c5,cJ,cR,cF] (.nw Ã (.lc 1 (.e (.ca Â 2 (.cons (.v 0) .nil))) (.nm 4) (.so (.cmp .Lt (.ca Â 3 (.cons (.v 4) (.cons (.ix (.v 3) (.i 0)) .nil))) (.i 0))) (.v 4))) [Is n,Zs (G.map Gv.av),À z.av,À t] []=À (.fz [],[]):=by rw[dE,s,Ä];rfl
 refine aN (by simp[rfs,rf,A,w,ju]) (v:=.bl Â) (st':=[]) ?_ rfl;rw[dh,aw];show(af [c5,cJ,cR,cF] gz [Is n,Zs (G.map Gv.av),À z.av,À t] []).bind ay=_;unfold gz;refine ad (sl':=[Is n,Zs (G.map Gv.av),À z.av,À t]) (st':=[]) (by
  simp only[d5,qM,qN,qL,jo,P,jd,cG,c6,gN,eP,eZ,jT,jf,kA,g,Ä,Ð,cK];simp[cU,AJ]) ?_
 refine ad (sl':=[Is n,Zs (G.map Gv.av),À z.av,À t]) (st':=[]) (by
  simp only[d5,jo,O,Ä];simp[cU,AJ]) (aX ?_)
 have:=j z J []
 rw[C]at this;simp[this,cK]
end
section
variable{st:aa}{n w:Nat}{RR:List (List Int)}{W r:List Int}{K N:Int}{G gv:List Gv}{goal:List Int}{p:Nat}
theorem lF(Z:Sz w RR gv goal){x:Nat}(d:x<RR.length+gv.length):∃c,(ag RR gv goal)[x]?=À ((RR++gv.map Gv.row).getD x []++[c])/\((RR++gv.map Gv.row).getD x []).length=w/\(x<RR.length->c=0)/\∀y,x=RR.length+y->∃z,gv[y]?=À z/\c=- z.num:=by
 by_cases h:x<RR.length
 ·refine⟨0,?_,?_,fun _=>rfl,fun y e=>by lia⟩
  ·rw[mZ h,zD,zN h,zF h];rfl
  ·rw[zD,zN h,zF h];exact Z.r _ (Ø h)
 ·obtain⟨y,rfl⟩:∃y,x=RR.length+y:=⟨x-RR.length,by lia⟩
  have a:y<gv.length:=by lia
  have e:(RR++gv.map Gv.row).getD (RR.length+y) []=gv[y].row:=by
   rw[zD,z6 oM,Ł,zR,zF a];rfl
  rw[e];refine⟨- gv[y].num,lm (zF a),Z.g _ (Ø a),fun h=>by lia,fun b e=>?_⟩;have:y=b:=by lia
  subst this;exact⟨_,zF a,rfl⟩
theorem IU(Z:Sz w RR gv goal)(C:Ct w RR gv goal W K N)(b:p<w):(Pg (RR.length+gv.length) fun x=>gI W x*gI ((RR++gv.map Gv.row).getD x []) p)=K*gI goal p:=by
 have u:∀r:List Int,val w r (fun i=>if i=p then 1 else 0)=gI r p:=fun r=>by
  unfold val;rw[SX.sum_one b fun i _ h=>by show gI r i*(if i=p then 1 else 0)=0;rw[yG h,yO]];show gI r p*(if p=p then 1 else 0)=_;rw[yH rfl,ϻ]
 have h:=C.id (fun i=>if i=p then 1 else 0) 0;rw[u,yO,Y4]at h;rw[<- h];refine SX.sum_congr fun x a=>?_
 obtain⟨c,e,d,_⟩:=lF Z a;rw[dZ e d,u,yO,î]
theorem IV(Z:Sz w RR gv goal)(C:Ct w RR gv goal W K N):(Pg gv.length fun y=>gI W (RR.length+y)*(gv.getD y ⟨[],Â,0⟩).num)=N:=by
 have u:∀r:List Int,val w r (fun _=>0)=0:=fun r=>SX.sum_zero fun _ _=>yO _
 have h:=C.id (fun _=>0) 1;rw[u,jR,SX.sum_zero fun x d=>by
  obtain⟨c,b,a,f,_⟩:=lF Z (x:=x) oM;rw[dZ b a,u,f d,yP,î,yO],SX.sum_congr (g:=fun y=>(-1)*(gI W (RR.length+y)*(gv.getD y ⟨[],Â,0⟩).num)) fun y i=>by
  obtain⟨c,b,a,_,e⟩:=lF Z (x:=RR.length+y) oM;obtain⟨z,hz,rfl⟩:=e y rfl;rw[dZ b a,u,zD,hz];show _*(0+- z.num*1)=-1*(_*z.num)
  grind,SX.sum_mul]at h
 lia
theorem yy:∀(n:Nat)(f:Nat->Int),((Æ n).map f).sum=Pg n f:=fun n f=>by
 induction n with
 |zero=>rfl
 |succ n a=>rw[Ŗ,ä,U?,a];simp[Pg]
theorem Kt{L:List (List Int)}{x:Nat}(h:x<L.length):aG st (.fz (ao L)) (.int (x:Int))=À (.fz (iL (L.getD x []))):=by
 rw[cH dR,bS];unfold ao;rw[zR,zF h,zD,zF h];rfl
theorem De{y:Nat}(h:y<G.length):aG st (.fz (G.map Gv.av)) (.int (y:Int))=À (G.getD y ⟨[],Â,0⟩).av:=by
 rw[cH dR,bS,zR,zF h,zD,zF h];rfl
abbrev KC:List Fn:=[cR,aI]
theorem wd(A:fA n)(hG:G.length<=100)(Z:Sz (2^n-1) (bB n) G r)(hz:∀z∈G,(∀x∈z.row,x.natAbs<2^9000)/\z.num.natAbs<2^9000)(C:Ct (2^n-1) (bB n) G r W K N):pm gj [.int n,.fz (G.map Gv.av),.fz (iL W)] st=À (.tup [.fz (iL (r.map fun x=>K*x)),.int N],st):=by
 have hN:2^n-1<=15:=by rcases A with rfl|rfl|rfl|rfl<;>decide
 have h1:∀l∈bB n,l.length=2^n-1/\∀x∈l,x.natAbs<=1:=by rcases A with rfl|rfl|rfl|rfl<;>decide +kernel
 have hR:(bB n).length<=100:=by rcases A with rfl|rfl|rfl|rfl<;>decide
 obtain⟨L,H⟩:∃L,L=bB n++G.map Gv.row:=⟨_,rfl⟩;have lL:L.length=W.length:=by rw[H,C.len];simp
 have lW:=C.len;have bL:∀l∈L,∀x∈l,x.natAbs<2^9000:=fun l U x M=>by
  rw[H]at U;rcases zZ.mp U with h|h
  ·exact yL ((h1 l h).2 x M) (Ϡ dC)
  ·obtain⟨z,D,rfl⟩:=yC.mp h
   exact(hz z D).1 x M
 have rA:rfs (G.map Gv.av)=Â:=ju _;have rl:=uk (st:=[]) A;have wh:=sf (st:=[]) (W:=W) oM
 have c1:=eJ (st:=[]) (ks:=KC) (k:=3) (it:=.e (.v 1)) (t:=.tu 3 (.cons (.nm 9) (.cons (.nm 10) (.cons (.nm 11) .nil)))) (c:=.no) (e:=.v 9) (sl:=[Is n,Zs (G.map Gv.av),Ls W,Á,Á,Á,Á,Á,Á]) (gd:=[]) (em:=Gv.av) (xs:=G) (B:=fun _=>Â) (F:=fun z=>AV.fz (iL z.row)) rfl rfl oM fun z hz=>⟨[Is n,Zs (G.map Gv.av),Ls W,Á,Á,Á,Á,Á,Á,Ls z.row,À (.str (if z.eq=Â then "=" else ">")),Is z.num],rfl,rfl,fun _=>rfl⟩
 rw[Ô.mpr (fun _ _=>rfl),show G.map (fun z=>AV.fz (iL z.row))=ao (G.map Gv.row) by unfold ao;rw[Ö];rfl]at c1;have fr:∀L:List (List Int),rfs (ao L)=Â:=fun L=>dW fun x M=>by
  obtain⟨l,_,rfl⟩:=yC.mp M;simp[rf,bF]
 have d1:ev KC (.nw Ã (.lc 3 (.e (.v 1)) (.tu 3 (.cons (.nm 9) (.cons (.nm 10) (.cons (.nm 11) .nil)))) .no (.v 9))) [Is n,Zs (G.map Gv.av),Ls W,Á,Á,Á,Á,Á,Á] []=À (.fz (ao (G.map Gv.row)),[]):=by rw[dE,c1,Ä,yH (fr _)]
 have R:∀L:List (List Int),(ao L).length=L.length:=fun L=>by unfold ao;simp
 have d2:ev KC (.nw Ã (.cat (.ca Â 0 (.cons (.v 0) .nil)) (.nw Ã (.lc 3 (.e (.v 1)) (.tu 3 (.cons (.nm 9) (.cons (.nm 10) (.cons (.nm 11) .nil)))) .no (.v 9))))) [Is n,Zs (G.map Gv.av),Ls W,Á,Á,Á,Á,Á,Á] []=À (.fz (ao L),[]):=by
  rw[dE,pN];unfold qQ;simp only[jd,cG,c6,gN,eP,eZ,Ä,Ð,jT,jf,kA,rl,d1,dR];rw[yH (cC (by rw[R,R,zH];lia))];rw[Ä,show ao (bB n)++ao (G.map Gv.row)=ao L by rw[H];unfold ao;rw[ä],yH (fr _)]
 have J:∀s,aZ cO [.fz (ao L)] s=À (.int (W.length:Int),s):=fun s=>by
  show À (AV.int ((ao L).length:Int),_)=_;rw[R,lL]
 have Y:∀s,aZ cO [.fz (G.map Gv.av)] s=À (.int (G.length:Int),s):=fun s=>by
  show À (AV.int ((G.map Gv.av).length:Int),_)=_;rw[zH]
 have P:=fun a:Option AV=>eJ (st:=[]) (ks:=KC) (k:=1) (it:=.r1 (.bi .len (.cons (.v 1) .nil))) (t:=.nm 9) (c:=.no) (e:=.bin .Mult (.ix (.v 2) (.bin .Add (.v 4) (.v 9))) (.ix (.ix (.v 1) (.v 9)) (.i 2))) (sl:=[Is n,Zs (G.map Gv.av),Ls W,Zs (ao L),Is ((bB n).length:Int),a,Á,Á,Á]) (gd:=[]) (em:=fun q:Nat=>AV.int (q:Int)) (xs:=Æ G.length) (B:=fun _=>Â) (F:=fun q=>AV.int (gI W ((bB n).length+q)*(G.getD q ⟨[],Â,0⟩).num)) (iO (by simp[Y]) oM) rfl (by simp;lia) fun q d=>by
  have d:=Ó.mp d;have m:=sy (st:=[]) (T:=W) (i:=(bB n).length+q) oM;have w:=De (st:=[]) d;have D:G.getD q ⟨[],Â,0⟩∈G:=by rw[zD,zF d];exact Ø d
  have bz:=(hz _ D).2;generalize G.getD q ⟨[],Â,0⟩=z at *;have u:aG [] z.av (.int 2)=À (.int z.num):=rfl;have Q:aW .Mult [] (.int (gI W ((bB n).length+q))) (.int z.num)=À (.int (gI W ((bB n).length+q)*z.num)):=cj (cL (C.bd _ (j2 oM)) bz);rw[ž]at m;exact⟨[Is n,Zs (G.map Gv.av),Ls W,Zs (ao L),Is ((bB n).length:Int),a,Á,Á,Á,Is (q:Int)],rfl,rfl,fun _=>by simp[m,w,u,Q]⟩
 have d3:∀a,ev KC (.bi .sum (.cons (.nw Ã (.lc 1 (.r1 (.bi .len (.cons (.v 1) .nil))) (.nm 9) .no (.bin .Mult (.ix (.v 2) (.bin .Add (.v 4) (.v 9))) (.ix (.ix (.v 1) (.v 9)) (.i 2))))) .nil)) [Is n,Zs (G.map Gv.av),Ls W,Zs (ao L),Is ((bB n).length:Int),a,Á,Á,Á] []=À (.int N,[]):=fun a=>by
  have P:=P a;rw[Ô.mpr (fun _ _=>rfl),show(Æ G.length).map (fun q=>AV.int (gI W ((bB n).length+q)*(G.getD q ⟨[],Â,0⟩).num))=iL ((Æ G.length).map fun q=>gI W ((bB n).length+q)*(G.getD q ⟨[],Â,0⟩).num) by unfold iL;rw[Ö];rfl]at P;have j:ev KC (.nw Ã (.lc 1 (.r1 (.bi .len (.cons (.v 1) .nil))) (.nm 9) .no (.bin .Mult (.ix (.v 2) (.bin .Add (.v 4) (.v 9))) (.ix (.ix (.v 1) (.v 9)) (.i 2))))) [Is n,Zs (G.map Gv.av),Ls W,Zs (ao L),Is ((bB n).length:Int),a,Á,Á,Á] []=À (.fz (iL ((Æ G.length).map fun q=>gI W ((bB n).length+q)*(G.getD q ⟨[],Â,0⟩).num)),[]):=by
   rw[dE,P,Ä,yH bF]
  simp only[wO,cG,c6,j,Ä,qr,aZ,ms,tf,Ð];rw[yy,IV Z C]
 have d4:∀(p:Nat)(st:aa),p<2^n-1->∀a,ev KC (.bi .sum (.cons (.nw Ã (.lc 1 (.r1 (.bi .len (.cons (.v 3) .nil))) (.nm 9) .no (.bin .Mult (.ix (.v 2) (.v 9)) (.ix (.ix (.v 3) (.v 9)) (.v 8))))) .nil)) [Is n,Zs (G.map Gv.av),Ls W,Zs (ao L),Is ((bB n).length:Int),a,Is N,Rs 0,Is (p:Int)] st=À (.int (K*gI r p),st):=fun p st hp a=>by
  have c:=eJ (st:=st) (ks:=KC) (k:=1) (it:=.r1 (.bi .len (.cons (.v 3) .nil))) (t:=.nm 9) (c:=.no) (e:=.bin .Mult (.ix (.v 2) (.v 9)) (.ix (.ix (.v 3) (.v 9)) (.v 8))) (sl:=[Is n,Zs (G.map Gv.av),Ls W,Zs (ao L),Is ((bB n).length:Int),a,Is N,Rs 0,Is (p:Int)]) (gd:=[]) (em:=fun q:Nat=>AV.int (q:Int)) (xs:=Æ W.length) (B:=fun _=>Â) (F:=fun q=>AV.int (gI W q*gI (L.getD q []) p)) (iO (by simp[J]) oM) rfl (by simp;lia) fun q d=>by
   have d:=Ó.mp d;have m:=sy (st:=st) (T:=W) (i:=q) d;have w:=Kt (st:=st) (L:=L) (x:=q) oM;have D:L.getD q []∈L:=by rw[zD,zF oM];exact Ø _
   have U:(L.getD q []).length=2^n-1:=by
    obtain⟨c,_,h,_⟩:=lF Z (x:=q) oM;rw[H];exact h
   have bl:=bL _ D;generalize L.getD q []=l at *;have u:=sy (st:=st) (T:=l) (i:=p) oM;have Q:aW .Mult st (.int (gI W q)) (.int (gI l p))=À (.int (gI W q*gI l p)):=cj (cL (C.bd _ (j2 d)) (bl _ (j2 oM)));exact⟨[Is n,Zs (G.map Gv.av),Ls W,Zs (ao L),Is ((bB n).length:Int),a,Is N,Rs 0,Is (p:Int),Is (q:Int)],rfl,rfl,fun _=>by simp[m,w,u,Q]⟩
  rw[Ô.mpr (fun _ _=>rfl),show(Æ W.length).map (fun q=>AV.int (gI W q*gI (L.getD q []) p))=iL ((Æ W.length).map fun q=>gI W q*gI (L.getD q []) p) by unfold iL;rw[Ö];rfl]at c;have j:ev KC (.nw Ã (.lc 1 (.r1 (.bi .len (.cons (.v 3) .nil))) (.nm 9) .no (.bin .Mult (.ix (.v 2) (.v 9)) (.ix (.ix (.v 3) (.v 9)) (.v 8))))) [Is n,Zs (G.map Gv.av),Ls W,Zs (ao L),Is ((bB n).length:Int),a,Is N,Rs 0,Is (p:Int)] st=À (.fz (iL ((Æ W.length).map fun q=>gI W q*gI (L.getD q []) p)),st):=by
   rw[dE,c,Ä,yH bF]
  simp only[wO,cG,c6,j,Ä,qr,aZ,ms,tf,Ð];rw[yy,lW,H,IU Z C hp]
 have xr:dN [.lst (iL (r.map fun x=>K*x))] (.tup [.ref 0,.int N])=À (.tup [.fz (iL (r.map fun x=>K*x)),.int N]):=by
  have e:∀X:List Int,aT (bC 4 [.lst (iL X)]) (iL X)=À (iL X):=fun X=>dO (f:=bC 4 [.lst (iL X)]) (i:=AV.int) (g:=AV.int) (fun _=>rfl) X
  show(aT (bC 5 _) [.ref 0,.int N]).map AV.tup=_;have j:bC 5 [.lst (iL (r.map fun x=>K*x))] (.ref 0)=À (.fz (iL (r.map fun x=>K*x))):=by
   show(aT (bC 4 _) _).map AV.fz=_;rw[e];rfl
  simp only[aT,j,Ä];rfl
 refine aN (by simp[rfs,rf,rA,bF]) (v:=.tup [.ref 0,.int N]) (st':=[.lst (iL (r.map fun x=>K*x))]) ?_ xr;rw[gj,aw];show(af KC iT [Is n,Zs (G.map Gv.av),Ls W,Á,Á,Á,Á,Á,Á] []).bind ay=_;unfold iT;refine ad (sl':=[Is n,Zs (G.map Gv.av),Ls W,Zs (ao L),Á,Á,Á,Á,Á]) (st':=[]) (by rw[fU,d2];rfl) ?_;refine ad (sl':=[Is n,Zs (G.map Gv.av),Ls W,Zs (ao L),Á,Á,Á,Á,Á]) (st':=[]) (by simp[J,wh,cK]) ?_;refine ad (sl':=[Is n,Zs (G.map Gv.av),Ls W,Zs (ao L),Is ((bB n).length:Int),Á,Á,Á,Á]) (st':=[]) (by
  have:(W.length:Int)-(G.length:Int)=((bB n).length:Int):=by lia
  simp[J,Y,this]) ?_
 obtain⟨sl',st',O,rfl,a,rfl⟩:=dX (gd:=[]) (g:=cM KC (.nm 5)) (s:=af KC (.cons (.iff (.an (.cmp .Lt (.ix (.v 2) (.v 5)) (.i 0)) (.or (.cmp .Lt (.v 5) (.v 4)) (.cmp .Eq (.ix (.ix (.v 1) (.bin .Sub (.v 5) (.v 4))) (.i 1)) (.s ">")))) (.cons (.rt .n) .nil) .nil) .nil))
  (I:=fun _ sl s=>s=[]/\∃y,sl=[Is n,Zs (G.map Gv.av),Ls W,Zs (ao L),Is ((bB n).length:Int),y,Á,Á,Á]) (xs:=(Æ W.length).map fun q:Nat=>AV.int (q:Int)) (fun _ _ _ _ _=>rfl)
  (fun i y sl s b o=>by
   obtain⟨S,y0,V⟩:=o;subst S;subst V;have E:i<W.length:=by have:=(zB.mp b).1;simpa using this
   rw[zR,ó E]at b;injection b with b;subst b;refine⟨_,_,_,rfl,au (sl':=[Is n,Zs (G.map Gv.av),Ls W,Zs (ao L),Is ((bB n).length:Int),Is (i:Int),Á,Á,Á]) (st':=[]) ?_ rfl,rfl,_,rfl⟩;have m:=sy (st:=[]) (T:=W) (i:=i) E;by_cases h:gI W i<0
   ·obtain⟨y,rfl⟩:∃y,i=(bB n).length+y:=⟨i-(bB n).length,by
     by_cases h2:i<(bB n).length
     ·have:=C.pos i h2;lia
     ·lia⟩
    have b:y<G.length:=by lia
    have w:=De (st:=[]) b;have hg:G[y]?=À (G.getD y ⟨[],Â,0⟩):=by rw[zD,zF b];rfl
    have d:=C.ge y _ hg;generalize G.getD y ⟨[],Â,0⟩=z at *;have d:z.eq=Â:=by
     cases hz:z.eq with
     |true=>rfl
     |false=>have:=d hz;lia
    have u:aG [] z.av (.int 1)=À (.str "="):=by
     show À (AV.str (if z.eq=Â then "=" else ">"))=_;rw[yH d]
    have eq:aY .Eq [] (.str "=") (.str ">")=À Ã:=by kernel_rfl
    have O:(((bB n).length+y:Nat):Int)-((bB n).length:Int)=(y:Int):=by lia
    have j:¬(((bB n).length+y:Nat):Int)<((bB n).length:Int):=by lia
    rw[ž]at m O j;simp[m,h,j,O,w,u,eq]
   ·simp[m,h]) (sl:=[Is n,Zs (G.map Gv.av),Ls W,Zs (ao L),Is ((bB n).length:Int),Á,Á,Á,Á]) (st:=[]) ⟨rfl,Á,rfl⟩
 refine ad (sl':=[Is n,Zs (G.map Gv.av),Ls W,Zs (ao L),Is ((bB n).length:Int),a,Á,Á,Á]) (st':=[]) (by
  rw[jC,iO (n:=W.length) (by simp[J]) oM,Ä];exact O) ?_
 refine ad (sl':=[Is n,Zs (G.map Gv.av),Ls W,Zs (ao L),Is ((bB n).length:Int),a,Is N,Á,Á]) (st':=[]) (by rw[fU,d3];rfl) ?_;refine ad (sl':=[Is n,Zs (G.map Gv.av),Ls W,Zs (ao L),Is ((bB n).length:Int),a,Is N,Rs 0,Á]) (st':=[.lst []]) rfl ?_;obtain⟨sl',st',j,rfl,y8,rfl⟩:=dX (gd:=[]) (g:=cM KC (.nm 8)) (s:=af KC (.cons (.ex (.mt .app (.v 7) (.cons (.bi .sum (.cons (.nw Ã (.lc 1 (.r1 (.bi .len (.cons (.v 3) .nil))) (.nm 9) .no (.bin .Mult (.ix (.v 2) (.v 9)) (.ix (.ix (.v 3) (.v 9)) (.v 8))))) .nil)) .nil))) .nil))
  (I:=fun i sl s=>s=[.lst (iL ((Æ i).map fun p=>K*gI r p))]/\∃y,sl=[Is n,Zs (G.map Gv.av),Ls W,Zs (ao L),Is ((bB n).length:Int),a,Is N,Rs 0,y]) (xs:=(Æ (2^n-1)).map fun q:Nat=>AV.int (q:Int)) (fun _ _ _ _ _=>rfl)
  (fun i y sl s b o=>by
   obtain⟨S,y0,V⟩:=o;subst S;subst V;have E:i<2^n-1:=by have:=(zB.mp b).1;simpa using this
   rw[zR,ó E]at b;injection b with b;subst b;refine⟨_,_,_,rfl,au (lP (k:=0) rfl (d4 i _ E a) rfl (by simp;lia)) rfl,?_,_,rfl⟩;rw[Ŗ,ä];unfold iL;rw[ä];rfl) (sl:=[Is n,Zs (G.map Gv.av),Ls W,Zs (ao L),Is ((bB n).length:Int),a,Is N,Rs 0,Á]) (st:=[.lst []]) ⟨rfl,Á,rfl⟩
 rw[zH,ģ]at j;have er:(Æ (2^n-1)).map (fun p=>K*gI r p)=r.map fun x=>K*x:=by
  refine S! fun i=>?_
  rw[zR,zR];by_cases h:i<2^n-1
  ·rw[ó h,zF (by rw[Z.o];exact h)]
   unfold gI;rw[Ð,Ð,zD,zF (by rw[Z.o];exact h)];rfl
  ·rw[Ù (by simp;lia),Ù (by rw[Z.o];lia)];rfl
 rw[er]at j;refine ad (sl':=[Is n,Zs (G.map Gv.av),Ls W,Zs (ao L),Is ((bB n).length:Int),a,Is N,Rs 0,y8]) (st':=[.lst (iL (r.map fun x=>K*x))]) (by
  rw[jC,iO (n:=2^n-1) (C7 A) oM,Ä];exact j) (aX rfl)
end
section
variable{st:aa}{n:Nat}{W r:List Int}{K N num:Int}{G:List Gv}
theorem vg(l:List Int):aY .Eq st (.fz (iL l)) (.fz (iL l))=À Â:=by
 change i8 st _ _=_;have c:cE 9 st (.fz (iL l))=À (.list (l.map ë)):=by show(aT (cE 8 st) _).map _=_;rw[Ab];rfl
 have b:∀l:List Int,ð (l.map ë)=Â/\Ć (l.map ë)=0:=fun l=>by
  induction l with
  |nil=>exact⟨rfl,rfl⟩
  |cons x l a=>simp only[zO,ð,ā,Ć,ŕ,a.1,a.2,ġ,Y1,and_self]
 unfold i8;rw[c,Ä,Ä,yH (by
  unfold DD.pyOk;simp[ā,ŕ,b])]
 simp[ß,xN l]
abbrev KP:List Fn:=[gj]
theorem B7(I:fA n)(Q:G.length<=100)(Z:Sz (2^n-1) (bB n) G r)(hz:∀z∈G,(∀x∈z.row,x.natAbs<2^9000)/\z.num.natAbs<2^9000)(br:∀x∈r,x.natAbs<2^9000)(bn:num.natAbs<2^9000){p:Pp}(P:AZ (2^n-1) (bB n) G r num p) :
  pm bU [.int n,.fz (G.map Gv.av),.fz (iL r),.int num,p.av] st=À (.bl Â,st):=by
 have O:2^n-1<=15:=by rcases I with rfl|rfl|rfl|rfl<;>decide
 have hr:=Z.o;have rA:rfs (G.map Gv.av)=Â:=ju _;cases p with
 |nv W =>
  obtain⟨N,C,O⟩:=P;have f:=wd (st:=[]) I Q Z hz C;obtain⟨X,i⟩:∃X,X=r.map fun x=>0*x:=⟨_,rfl⟩
  rw[<- i]at f;obtain⟨t,a⟩:∃t,t=AV.tup [.str "never",.fz (iL W)]:=⟨_,rfl⟩;obtain⟨u,b⟩:∃u,u=AV.tup [.fz (iL X),.int N]:=⟨_,rfl⟩;have l:rf t=Â:=by rw[a];simp[rf,rfs,bF]
  have d:aG [] t (.int 0)=À (.str "never"):=by rw[a];rfl
  have H:aG [] t (.int (-1))=À (.fz (iL W)):=by rw[a];rfl
  have y:aG [] u (.int 0)=À (.fz (iL X)):=by rw[b];rfl
  have h:aG [] u (.int 1)=À (.int N):=by rw[b];rfl
  have g:aZ cO [t] []=À (.int 2,[]):=by rw[a];rfl
  have D:ev KP (.is "tuple" (.v 4)) [Is n,Zs (G.map Gv.av),Ls r,Is num,À t,Á,Á] []=À (.bl Â,[]):=by rw[a];rfl
  have w:aY .NotIn [] (.str "never") (.tup [.str "by",.str "never"])=À Ã:=by kernel_rfl
  have o:aY .Eq [] (.str "never") (.str "by")=À Ã:=by kernel_rfl
  have m:aY .Eq [] (.str "never") (.str "never")=À Â:=by kernel_rfl
  have E:aZ mG [.bl Ã] []=À (.int 0,[]):=rfl;have A:aY .Is [] u .non=À Ã:=by rw[b];rfl
  rw[<- b]at f;have c:=eJ (st:=[]) (ks:=KP) (k:=1) (it:=.e (.v 2)) (t:=.nm 7) (c:=.no) (e:=.i 0) (sl:=[Is n,Zs (G.map Gv.av),Ls r,Is num,À t,À u,Á]) (gd:=[]) (em:=AV.int) (xs:=r) (B:=fun _=>Â) (F:=fun x=>AV.int (0*x)) rfl rfl oM fun x _=>⟨[Is n,Zs (G.map Gv.av),Ls r,Is num,À t,À u,Á,Is x],rfl,rfl,fun _=>by rw[yP];rfl⟩
  rw[Ô.mpr (fun _ _=>rfl),show r.map (fun x=>AV.int (0*x))=iL X by rw[i];unfold iL;rw[Ö];rfl]at c;have M:ev KP (.nw Ã (.lc 1 (.e (.v 2)) (.nm 7) .no (.i 0))) [Is n,Zs (G.map Gv.av),Ls r,Is num,À t,À u,Á] []=À (.fz (iL X),[]):=by rw[dE,c,Ä,yH bF]
  have j:=vg (st:=[]) X;have q:Pp.av (.nv W)=t:=a.symm;rw[q];refine aN (by simp[rfs,rf,rA,bF,l]) (v:=.bl Â) (st':=[]) ?_ rfl;rw[bU,aw];show(af KP eM [Is n,Zs (G.map Gv.av),Ls r,Is num,À t,Á,Á] []).bind ay=_;unfold eM;refine ad (sl':=[Is n,Zs (G.map Gv.av),Ls r,Is num,À t,Á,Á]) (st':=[]) (by
   simp only[d5,qM,qN,qL,D,Ä,cK,Ð];simp[g,d,w]) ?_
  refine ad (sl':=[Is n,Zs (G.map Gv.av),Ls r,Is num,À t,Á,Á]) (st':=[]) (by simp[g,d,o,E]) ?_;refine ad (sl':=[Is n,Zs (G.map Gv.av),Ls r,Is num,À t,À u,Á]) (st':=[]) (by simp[H,kN,f]) ?_;refine ad (sl':=[Is n,Zs (G.map Gv.av),Ls r,Is num,À t,À u,Á]) (st':=[]) (by simp[A]) ?_;refine aX (s:=.iff _ _ _) ?_;have ex:ev KP (.an (.cmp .Eq (.ix (.v 5) (.i 0)) (.nw Ã (.lc 1 (.e (.v 2)) (.nm 7) .no (.i 0)))) (.cmp .Gt (.ix (.v 5) (.i 1)) (.i 0))) [Is n,Zs (G.map Gv.av),Ls r,Is num,À t,À u,Á] []=À (.bl Â,[]):=by
   simp only[FP,pw,oV,gN,oe,eP,eZ,Ä,y,h,M,j,Ð];simp[j,h,O]
  simp only[d5,jo,oV,gN,oe,yf,eP,eZ,d,m,Ä,Ð,ite_true];exact f7 (by rw[iB,ex];rfl)
 |by_ K W =>
  obtain⟨N,C,hK,L⟩:=P;have f:=wd (st:=[]) I Q Z hz C;have R:K.natAbs<2^9000:=C.kb;obtain⟨X,i⟩:∃X,X=r.map fun x=>K*x:=⟨_,rfl⟩
  rw[<- i]at f;obtain⟨t,a⟩:∃t,t=AV.tup [.str "by",.int K,.fz (iL W)]:=⟨_,rfl⟩;obtain⟨u,b⟩:∃u,u=AV.tup [.fz (iL X),.int N]:=⟨_,rfl⟩;have l:rf t=Â:=by rw[a];simp[rf,rfs,bF]
  have d:aG [] t (.int 0)=À (.str "by"):=by rw[a];rfl
  have H:aG [] t (.int (-1))=À (.fz (iL W)):=by rw[a];rfl
  have V:aG [] t (.int 1)=À (.int K):=by rw[a];rfl
  have y:aG [] u (.int 0)=À (.fz (iL X)):=by rw[b];rfl
  have h:aG [] u (.int 1)=À (.int N):=by rw[b];rfl
  have g:aZ cO [t] []=À (.int 3,[]):=by rw[a];rfl
  have D:ev KP (.is "tuple" (.v 4)) [Is n,Zs (G.map Gv.av),Ls r,Is num,À t,Á,Á] []=À (.bl Â,[]):=by rw[a];rfl
  have w:aY .NotIn [] (.str "by") (.tup [.str "by",.str "never"])=À Ã:=by kernel_rfl
  have o:aY .Eq [] (.str "by") (.str "by")=À Â:=by kernel_rfl
  have m:aY .Eq [] (.str "by") (.str "never")=À Ã:=by kernel_rfl
  have E:aZ mG [.bl Â] []=À (.int 1,[]):=rfl;have A:aY .Is [] u .non=À Ã:=by rw[b];rfl
  rw[<- b]at f;have c:=eJ (st:=[]) (ks:=KP) (k:=1) (it:=.e (.v 2)) (t:=.nm 7) (c:=.no) (e:=.bin .Mult (.v 6) (.v 7)) (sl:=[Is n,Zs (G.map Gv.av),Ls r,Is num,À t,À u,Is K]) (gd:=[]) (em:=AV.int) (xs:=r) (B:=fun _=>Â) (F:=fun x=>AV.int (K*x)) rfl rfl oM fun x Y=>⟨[Is n,Zs (G.map Gv.av),Ls r,Is num,À t,À u,Is K,Is x],rfl,rfl,fun _=>by simp[cj (cL R (br x Y))]⟩
  rw[Ô.mpr (fun _ _=>rfl),show r.map (fun x=>AV.int (K*x))=iL X by rw[i];unfold iL;rw[Ö];rfl]at c;have M:ev KP (.nw Ã (.lc 1 (.e (.v 2)) (.nm 7) .no (.bin .Mult (.v 6) (.v 7)))) [Is n,Zs (G.map Gv.av),Ls r,Is num,À t,À u,Is K] []=À (.fz (iL X),[]):=by rw[dE,c,Ä,yH bF]
  have j:=vg (st:=[]) X;have q:Pp.av (.by_ K W)=t:=a.symm;rw[q];refine aN (by simp[rfs,rf,rA,bF,l]) (v:=.bl Â) (st':=[]) ?_ rfl;rw[bU,aw];show(af KP eM [Is n,Zs (G.map Gv.av),Ls r,Is num,À t,Á,Á] []).bind ay=_;unfold eM;refine ad (sl':=[Is n,Zs (G.map Gv.av),Ls r,Is num,À t,Á,Á]) (st':=[]) (by
   simp only[d5,qM,qN,qL,D,Ä,cK,Ð];simp[g,d,w]) ?_
  refine ad (sl':=[Is n,Zs (G.map Gv.av),Ls r,Is num,À t,Á,Á]) (st':=[]) (by simp[g,d,o,E]) ?_;refine ad (sl':=[Is n,Zs (G.map Gv.av),Ls r,Is num,À t,À u,Á]) (st':=[]) (by simp[H,kN,f]) ?_;refine ad (sl':=[Is n,Zs (G.map Gv.av),Ls r,Is num,À t,À u,Á]) (st':=[]) (by simp[A]) ?_;refine ad (sl':=[Is n,Zs (G.map Gv.av),Ls r,Is num,À t,À u,Á]) (st':=[]) (by simp[d,m]) ?_;refine ad (sl':=[Is n,Zs (G.map Gv.av),Ls r,Is num,À t,À u,Is K]) (st':=[]) (by simp[V]) ?_;have U:ev KP (.is "int" (.v 6)) [Is n,Zs (G.map Gv.av),Ls r,Is num,À t,À u,Is K] []=À (.bl Â,[]):=rfl;have T:ev KP (.is "bool" (.v 6)) [Is n,Zs (G.map Gv.av),Ls r,Is num,À t,À u,Is K] []=À (.bl Ã,[]):=rfl;refine ad (sl':=[Is n,Zs (G.map Gv.av),Ls r,Is num,À t,À u,Is K]) (st':=[]) (by
   have:¬K<1:=by lia
   simp only[d5,qM,qN,qL,U,T,Ä,cK,Ð];simp[this]) ?_
  have S:aW .Mult [] (.int K) (.int num)=À (.int (K*num)):=cj (cL R bn);have J:K*num<=N:=by rw[Ţ];exact L
  refine aX ?_;have ex:ev KP (.an (.cmp .Eq (.ix (.v 5) (.i 0)) (.nw Ã (.lc 1 (.e (.v 2)) (.nm 7) .no (.bin .Mult (.v 6) (.v 7))))) (.cmp .GtE (.ix (.v 5) (.i 1)) (.bin .Mult (.v 6) (.v 3)))) [Is n,Zs (G.map Gv.av),Ls r,Is num,À t,À u,Is K] []=À (.bl Â,[]):=by
   simp only[FP,pw,oV,gN,oe,eP,eZ,Ä,y,h,M,j,Ð];simp[j,S,J,h]
  rw[iB,ex];rfl
end
section
variable{st:aa}{n:Nat}{V:List Int}{E:Int}{z:Gv}{G:List Gv}{ps:List Pp}{t:AV}
def du(u:Gv):AV:=.tup [.fz (iL u.row),.int u.num]
theorem JW:rfs (ps.map Pp.av)=Â:=dW fun x a=>by
 obtain⟨p,_,rfl⟩:=yC.mp a;cases p<;>simp[Pp.av,rf,rfs,bF]
def vY(n:Nat)(z:Gv):Prop:=z.row.length=2^n-1/\(∀x∈z.row,x.natAbs<2^9000)/\z.num.natAbs<2^9000
theorem Ae(s:fA n)(Y:G.length<=100)(hz:∀z∈G,vY n z)(d:vY n z)(Z:∀u∈dy z,Sz (2^n-1) (bB n) G u.row)(X:ps.length=(dy z).length)(W:∀(j:Nat) u p,(dy z)[j]?=À u->ps[j]?=À p->AZ (2^n-1) (bB n) G u.row u.num p) :
  pm dg [.int n,.fz (G.map Gv.av),z.av,.fz (ps.map Pp.av)] st=À (.bl Â,st):=by
 have hN:2^n-1<=15:=by rcases s with rfl|rfl|rfl|rfl<;>decide
 have rA:rfs (G.map Gv.av)=Â:=ju _;have J:rfs (ps.map Pp.av)=Â:=JW;have I:rf z.av=Â:=by simp[Gv.av,rf,rfs,bF]
 have h2:(dy z).length<=2:=by unfold dy;split<;>simp
 have V:∀u∈dy z,vY n u:=fun u h=>by
  unfold dy at h;rcases zT.mp h with rfl|h
  ·exact d
  ·split at h
   ·rw[zM.mp h]
    refine⟨by simp[jD,d.1],fun x l=>?_,by rw[Þ];exact d.2.2⟩;obtain⟨y,U,rfl⟩:=yC.mp l;rw[Þ];exact d.2.1 y U
   ·cases h
 obtain⟨S,g⟩:∃S:aa,S=[.lst ((dy z).map du)]:=⟨_,rfl⟩;obtain⟨v,o⟩:∃v,v=AV.str (if z.eq=Â then "=" else ">"):=⟨_,rfl⟩;have L:aZ cO [.fz (ps.map Pp.av)] S=À (.int ((dy z).length:Int),S):=by
  show À (AV.int ((ps.map Pp.av).length:Int),_)=_;rw[zH,X]
 have i:aZ cO [.ref 0] S=À (.int ((dy z).length:Int),S):=by
  rw[g];show À (AV.int (((dy z).map du).length:Int),_)=_;rw[zH]
 have ix:∀(j:Nat) u,(dy z)[j]?=À u->aG S (.ref 0) (.int (j:Int))=À (du u):=fun j u h=>by
  rw[g,cH (bG (k:=0) rfl),bS,zR,h];rfl
 have O:∀(j:Nat) p,ps[j]?=À p->aG S (.fz (ps.map Pp.av)) (.int (j:Int))=À p.av:=fun j p h=>by
  rw[cH dR,bS,zR,h];rfl
 have c:=eJ (st:=S) (ks:=[bU]) (k:=1) (it:=.r1 (.bi .len (.cons (.v 7) .nil))) (t:=.nm 8) (c:=.so (.no (.va (.ca Â 0 (.cons (.v 0) (.cons (.v 1) (.cons (.ix (.ix (.v 7) (.v 8)) (.i 0)) (.cons (.ix (.ix (.v 7) (.v 8)) (.i 1)) (.cons (.ix (.v 3) (.v 8)) .nil))))))))) (e:=.v 8) (sl:=[Is n,Zs (G.map Gv.av),À z.av,Zs (ps.map Pp.av),Ls z.row,À v,Is z.num,Rs 0]) (gd:=[]) (em:=fun q:Nat=>AV.int (q:Int)) (xs:=Æ (dy z).length) (B:=fun _=>Ã) (F:=fun q=>AV.int (q:Int)) (iO (by simp[i]) oM) rfl (by simp;lia) fun q f=>by
  have f:=Ó.mp f;have C:(dy z)[q]?=À (dy z)[q]:=zF f;have A:ps[q]?=À (ps[q]'(by lia)):=zF _;have w:=Ø f;have P:=W q _ _ C A;have T:=ix q _ C;have R:=O q _ A;obtain⟨u1,H,E⟩:=V _ w;have K:=B7 (st:=S) s Y (Z _ w) (fun z h=>(hz z h).2) H E P;generalize (dy z)[q]=u at *;generalize ps[q]'(by lia)=p at *;have N:aG S (du u) (.int 0)=À (.fz (iL u.row)):=rfl;have M:aG S (du u) (.int 1)=À (.int u.num):=rfl;exact⟨[Is n,Zs (G.map Gv.av),À z.av,Zs (ps.map Pp.av),Ls z.row,À v,Is z.num,Rs 0,Is (q:Int)],rfl,by simp[T,R,N,M,K,cK],fun z=>by cases z⟩
 rw[ÿ.mpr (fun _ _=>by simp)]at c;have e2:ev [bU] (.nw Ã (.lc 1 (.r1 (.bi .len (.cons (.v 7) .nil))) (.nm 8) (.so (.no (.va (.ca Â 0 (.cons (.v 0) (.cons (.v 1) (.cons (.ix (.ix (.v 7) (.v 8)) (.i 0)) (.cons (.ix (.ix (.v 7) (.v 8)) (.i 1)) (.cons (.ix (.v 3) (.v 8)) .nil))))))))) (.v 8))) [Is n,Zs (G.map Gv.av),À z.av,Zs (ps.map Pp.av),Ls z.row,À v,Is z.num,Rs 0] S=À (.fz [],S):=by rw[dE,c,Ä];rfl
 refine aN (by simp[rfs,rf,rA,J,I]) (v:=.bl Â) (st':=S) ?_ rfl;rw[dg,aw];show(af [bU] gx [Is n,Zs (G.map Gv.av),À z.av,Zs (ps.map Pp.av),Á,Á,Á,Á] []).bind ay=_;unfold gx;refine ad (sl':=[Is n,Zs (G.map Gv.av),À z.av,Zs (ps.map Pp.av),Ls z.row,À v,Is z.num,Á]) (st':=[]) (by rw[o];rfl) ?_;refine ad (sl':=[Is n,Zs (G.map Gv.av),À z.av,Zs (ps.map Pp.av),Ls z.row,À v,Is z.num,Rs 0]) (st':=[.lst [du ⟨z.row,Ã,z.num⟩]]) rfl ?_;refine ad (sl':=[Is n,Zs (G.map Gv.av),À z.av,Zs (ps.map Pp.av),Ls z.row,À v,Is z.num,Rs 0]) (st':=S) ?_ ?_
 ·obtain⟨r,b,m⟩:=z
  have D:∀st,aY .Eq st v (.str "=")=À b:=fun st=>by rw[o];cases b<;>kernel_rfl
  cases b with
  |false=>simp only[d5,jo,gN,yf,eP,eZ,Ä,D,Ð];rw[g];rfl
  |true =>
   have e:=eJ (st:=[.lst [du ⟨r,Ã,m⟩]]) (ks:=[bU]) (k:=1) (it:=.e (.v 4)) (t:=.nm 8) (c:=.no) (e:=.bin .Sub (.i 0) (.v 8)) (sl:=[Is n,Zs (G.map Gv.av),À (Gv.av ⟨r,Â,m⟩),Zs (ps.map Pp.av),Ls r,À v,Is m,Rs 0]) (gd:=[]) (em:=AV.int) (xs:=r) (B:=fun _=>Â) (F:=fun x=>AV.int (- x)) rfl rfl (by have:=d.1;dsimp only at this;lia) fun x l=>⟨[Is n,Zs (G.map Gv.av),À (Gv.av ⟨r,Â,m⟩),Zs (ps.map Pp.av),Ls r,À v,Is m,Rs 0,Is x],rfl,rfl,fun _=>by rw[<- Y3];rfl⟩
   rw[Ô.mpr (fun _ _=>rfl),show r.map (fun x=>AV.int (- x))=iL (jD r) by unfold iL jD;rw[Ö];rfl]at e;have e3:ev [bU] (.nw Ã (.lc 1 (.e (.v 4)) (.nm 8) .no (.bin .Sub (.i 0) (.v 8)))) [Is n,Zs (G.map Gv.av),À (Gv.av ⟨r,Â,m⟩),Zs (ps.map Pp.av),Ls r,À v,Is m,Rs 0] [.lst [du ⟨r,Ã,m⟩]]=À (.fz (iL (jD r)),[.lst [du ⟨r,Ã,m⟩]]):=by
    rw[dE,e,Ä,yH bF]
   have b0:aW .Sub [.lst [du ⟨r,Ã,m⟩]] (.int 0) (.int m)=À (.int (- m)):=by rw[<- Y3];rfl
   have ap:=lP (ks:=[bU]) (a:=.v 7) (e:=.tu (.cons (.nw Ã (.lc 1 (.e (.v 4)) (.nm 8) .no (.bin .Sub (.i 0) (.v 8)))) (.cons (.bin .Sub (.i 0) (.v 6)) .nil))) (y:=du ⟨jD r,Ã,- m⟩) (k:=0) (xs:=[du ⟨r,Ã,m⟩]) (sl:=[Is n,Zs (G.map Gv.av),À (Gv.av ⟨r,Â,m⟩),Zs (ps.map Pp.av),Ls r,À v,Is m,Rs 0]) (st:=[.lst [du ⟨r,Ã,m⟩]]) rfl (by
    simp only[wL,cG,c6,e3,wN,oe,gN,eP,eZ,b0,Ä,Ð];rfl) rfl (by simp)
   simp only[d5,jo,gN,yf,eP,eZ,Ä,D,Ð,ite_true];exact au ap (by rw[g];rfl)
 have Q:ev [bU] (.is "list" (.v 3)) [Is n,Zs (G.map Gv.av),À z.av,Zs (ps.map Pp.av),Ls z.row,À v,Is z.num,Rs 0] S=À (.bl Â,S):=rfl;refine ad (sl':=[Is n,Zs (G.map Gv.av),À z.av,Zs (ps.map Pp.av),Ls z.row,À v,Is z.num,Rs 0]) (st':=S) (by
  simp only[d5,qM,qN,qL,Q,Ä,cK,Ð];simp[L,i]) (aX ?_)
 simp only[iB,pw,e2,Ä];simp[cU,AH]
theorem B6(l:fA n)(B:G.length<=100)(hz:∀z∈G,vY n z)(k:vY n z)(Z:∀u∈dy z,Sz (2^n-1) (bB n) G u.row)(F:FS (2^n-1) (bB n) G z t):pm dQ [.int n,.fz (G.map Gv.av),z.av,t] st=À (.bl Â,st):=by
 have rA:rfs (G.map Gv.av)=Â:=ju _;have m:rf z.av=Â:=by simp[Gv.av,rf,rfs,bF]
 have d:∃(b:Bool)(x:AV)(f:Fn),t=.tup [.bl b,x]/\rf x=Â/\f=(if b=Â then dg else dh)/\pm f [.int n,.fz (G.map Gv.av),z.av,x] []=À (.bl Â,[]):=by
  rcases F with⟨C,rfl,y,w⟩|⟨V,E,rfl,T,h⟩
  ·exact⟨Â,_,_,rfl,rfl,rfl,Ae l B hz k Z y w⟩
  ·refine⟨Ã,_,_,rfl,by simp[rf,rfs,bF],rfl,Ak l oM hz k T (g9 fun i A=>?_) h⟩
   exact(Z ⟨z.row,Ã,z.num⟩ z7).hg _ T.kp.rule i (by rw[<- T.len];exact A)
 obtain⟨b,x,f,rfl,rx,c,e⟩:=d;obtain⟨t,a⟩:∃t,t=AV.tup [.bl b,x]:=⟨_,rfl⟩;have j:aG [] t (.int 0)=À (.bl b):=by rw[a];rfl
 have g:aG [] t (.int 1)=À x:=by rw[a];rfl
 have p:aZ cO [t] []=À (.int 2,[]):=by rw[a];rfl
 have o:rf t=Â:=by rw[a];simp[rf,rfs,rx]
 rw[<- a];refine aN (by simp[rfs,rf,rA,m,o]) (v:=.bl Â) (st':=[]) ?_ rfl;rw[dQ,aw];show(af [dg,dh] im [Is n,Zs (G.map Gv.av),À z.av,À t] []).bind ay=_;unfold im;have q:ev [dg,dh] (.is "tuple" (.v 3)) [Is n,Zs (G.map Gv.av),À z.av,À t] []=À (.bl Â,[]):=by rw[a];rfl
 have r:∀s,ev [dg,dh] (.is "bool" (.ix (.v 3) (.i 0))) [Is n,Zs (G.map Gv.av),À z.av,À t] s=À (.bl Â,s):=fun s=>by rw[a];rfl
 refine ad (sl':=[Is n,Zs (G.map Gv.av),À z.av,À t]) (st':=[]) (by
  simp only[d5,qM,qN,qL,jo,q,r,Ä,cK,Ð];simp[p]) ?_
 cases b with
 |true =>
  rw[yH rfl]at c;subst c;exact aX (s:=.iff _ _ _) (by simp[j,g,e,cK,mB])
 |false =>
  rw[yG dC]at c;subst c;exact ad (sl':=[Is n,Zs (G.map Gv.av),À z.av,À t]) (st':=[]) (by simp[j,cK]) (aX (by simp[g,e]))
end
structure Fo(n:AV)(GA:List AV)(b:List Nat->Nat->Bool)(x:List Nat->Nat->AV):Prop where
 rn:rf n=Â
 sn:∀st,dN st n=À n
 rg:rfs GA=Â
 hf:∀(ps:List Nat)(q:Nat),(∀p∈ps,p<GA.length)->q<GA.length->ps.length<=6->∀st,pm df [n,.fz (ps.map fun p=>GA.getD p .non),GA.getD q .non] st=À (.tup [.bl (b ps q),x ps q],st)
 rx:∀ps q,rf (x ps q)=Â
 sx:∀ps q st j,bC (j+1) st (x ps q)=À (x ps q)
 lg:GA.length<=6
section
variable{st:aa}{n:AV}{GA:List AV}{b:List Nat->Nat->Bool}{x:List Nat->Nat->AV}{ps:List Nat}{p q k:Nat}
noncomputable def tq(b:List Nat->Nat->Bool)(x:List Nat->Nat->AV)(ps:List Nat)(q:Nat):AV:=.tup [.bl (b ps q),x ps q]
theorem IG(F:Fo n GA b x)(H:∀p∈ps,p<GA.length)(a:q<GA.length)(d:ps.length<=6):pm dM [n,.fz GA,.fz (nL ps),GA.getD q .non] st=À (tq b x ps q,st):=by
 have f:=JB (st:=[]) (v:=1) (ks:=[df]) (it:=2) (c:=4) (sl:=[À n,Zs GA,Zs (nL ps),À (GA.getD q .non)]) H d F.rg rfl rfl fun _=>rfl
 have e:=F.hf ps q H a d [];have g:rf (GA.getD q .non)=Â:=by
  rw[zD,zF a];exact iD F.rg (Ø a)
 have sl:dN [] (tq b x ps q)=À (tq b x ps q):=by
  show(aT (bC 5 []) [.bl (b ps q),x ps q]).map AV.tup=_;simp only[aT,F.sx,show bC 5 [] (.bl (b ps q))=À (.bl (b ps q)) from rfl,Ä,Ð];rfl
 have h:=F.rn;have i:=F.rg;generalize GA.getD q .non=zz at *;refine aN (by simp[rfs,rf,h,i,g]) (v:=tq b x ps q) (st':=[]) ?_ sl;rw[dM,aw];show(af [df] fM [À n,Zs GA,Zs (nL ps),À zz] []).bind ay=_;unfold fM;refine aX ?_;simp only[iB,jd,cG,c6,gN,eP,eZ,Ä,f,jT,jf,e,Ð];rfl
theorem Lj{ks:List Fn}{it c v:Nat}{sl:Sl}(j:ps.length<=6)(d:sl.length=c)(g:fj ks (.e (.v it)) sl st=À (⟨nL ps,[]⟩,st))(a:∀y,ev ks (.v v) (sl++[y]) st=À (.int (q:Int),st)):ev ks (.nw Ã (.lc 1 (.e (.v it)) (.nm c) (.so (.cmp .NotEq (.v c) (.v v))) (.v c))) sl st=À (.fz (nL (ps.filter fun p=>p !=q)),st):=by
 have e:=eJ (st:=st) (ks:=ks) (k:=1) (it:=.e (.v it)) (t:=.nm c) (c:=.so (.cmp .NotEq (.v c) (.v v))) (e:=.v c) (sl:=sl) (gd:=[]) (em:=fun q:Nat=>AV.int (q:Int)) (xs:=ps) (B:=fun p=>p !=q) (F:=fun p=>AV.int (p:Int)) g rfl oM fun p i=>by
  have f:=a (Is (p:Int));have b:ev ks (.v c) (sl++[Is (p:Int)]) st=À (.int (p:Int),st):=by
   show(aV c _ st)=_;have:(sl++[Is (p:Int)])[c]?=À (Is (p:Int)):=by rw[<- d];simp
   unfold aV;rw[this]
  refine⟨sl++[Is (p:Int)],?_,?_,fun _=>b⟩
  ·show À ((sl++[Á]).set c (À (.int (p:Int))),st)=_
   rw[<- d,F? _ _ (zP _),D?];rfl
  ·have ne:aY .NotEq st (.int (p:Int)) (.int (q:Int))=À (p !=q):=by
    show À (!((p:Int)==(q:Int)))=À (!(p==q));have:((p:Int)==(q:Int))=(p==q):=by
     by_cases h:p=q
     ·rw[h,beq_self_eq_true,beq_self_eq_true]
     ·have a:¬(p:Int)=(q:Int):=by lia
      rw[beq_eq_false_iff_ne.mpr h,beq_eq_false_iff_ne.mpr a]
    rw[this]
   show(tv ks (.cmp .NotEq (.v c) (.v v)) _ st)=_;generalize Ex.v c=e1 at *;generalize Ex.v v=e2 at *;simp[b,f,ne]
 rw[dE,e,Ä];dsimp only;rw[show(ps.filter fun p=>p !=q).map (fun p:Nat=>AV.int (p:Int))=nL (ps.filter fun p=>p !=q) from rfl,yH C5]
theorem Kb(F:Fo n GA b x)(H:∀p∈ps,p<GA.length)(a:q<GA.length)(d:ps.length<=6):pm cz [n,.fz GA,.fz (nL ps),.int (q:Int)] st=À (.bl (b (ps.filter fun p=>p !=q) q),st):=by
 refine aN (by simp[rfs,rf,F.rn,F.rg]) (v:=.bl (b (ps.filter fun p=>p !=q) q)) (st':=[]) ?_ rfl;rw[cz,aw];show(af [dM] dB [À n,Zs GA,Zs (nL ps),Is (q:Int),Á] []).bind ay=_;unfold dB;have i:=Lj (st:=[]) (ks:=[dM]) (it:=2) (c:=5) (v:=3) (sl:=[À n,Zs GA,Zs (nL ps),Is (q:Int),Á]) (q:=q) d rfl rfl fun _=>rfl
 have fl:(ps.filter fun p=>p !=q).length<=6:=z5 (Ģ _ _) d;have h:=IG (st:=[]) F (fun p g=>H p (ć.mp g).1) a fl;have e:=xF (st:=[]) a;have f:aG [] (tq b x (ps.filter fun p=>p !=q) q) (.int 0)=À (.bl (b (ps.filter fun p=>p !=q) q)):=rfl;generalize ps.filter (fun p=>p !=q)=qs at *;generalize GA.getD q .non=zz at *;refine ad (sl':=[À n,Zs GA,Zs (nL ps),Is (q:Int),Zs (nL qs)]) (st':=[]) (by rw[fU,i];rfl) (aX ?_);generalize tq b x qs q=tt at *;simp[e,h,f]
theorem EN{fn:Fn}{args ts:List AV}{v t:AV}{st':aa}(h:rfs args=Ã)(m:aT (dN st) args=À ts)(e:fn ts []=À (v,st'))(r:dN st' v=À t)(f:flat t=Â):pm fn args st=À (t,st):=by
 unfold pm;rw[yG (by rw[h];decide),m,Ä,e,Ä];dsimp only;rw[r,Ä,yH f]
theorem JD{k:Nat}{l:List Nat}(h:st[k]?=À (.lst (nL l))):dN st (.ref k)=À (.fz (nL l)):=by
 have e:nL l=iL (l.map fun q:Nat=>(q:Int)):=by unfold nL iL;rw[Ö];rfl
 rw[e]at h ⊢;exact nk h
theorem JZ{fn:Fn}{args:List AV}{t:AV}(h:∀st,pm fn args st=À (t,st))(d:rfs args=Â):∃v st',fn args []=À (v,st')/\dN st' v=À t:=by
 have a:=h [];unfold pm at a;rw[yH d]at a;obtain⟨⟨v,c⟩,g,f⟩:=zA a;obtain⟨i,e,b⟩:=zE.mp f;simp only[S6,and_true]at b;subst b;exact⟨v,c,g,e⟩
noncomputable def xO(b:List Nat->Nat->Bool)(m:Nat):List Nat:=(Æ m).filter fun q=>b ((Æ m).filter fun p=>p !=q) q
theorem Ec(F:Fo n GA b x):lu [n,.fz GA] st=À (.ref st.length,st++[.lst (nL (xO b GA.length))]):=by
 have i:=F.lg;rw[lu,aw];show(af [cz] nX [À n,Zs GA,Á] st).bind ay=_;unfold nX;have f:∀st:aa,aZ cO [.fz GA] st=À (.int (GA.length:Int),st):=fun st=>rfl
 refine ad (sl':=[À n,Zs GA,Zs (nL (Æ GA.length))]) (st':=st) (by
  have:gD (GA.length:Int)=Â/\pC (GA.length:Int)=Â:=by
   have:GA.length=0\/GA.length=1\/GA.length=2\/GA.length=3\/GA.length=4\/GA.length=5\/GA.length=6:=by lia
   rcases this with h|h|h|h|h|h|h<;>rw[h]<;>decide
  simp[f,ue,this,pF,C5]) (aX ?_)
 have e:=eJ (st:=st) (ks:=[cz]) (k:=1) (it:=.e (.v 2)) (t:=.nm 3) (c:=.so (.va (.ca Â 0 (.cons (.v 0) (.cons (.v 1) (.cons (.v 2) (.cons (.v 3) .nil))))))) (e:=.v 3) (sl:=[À n,Zs GA,Zs (nL (Æ GA.length))]) (gd:=[]) (em:=fun q:Nat=>AV.int (q:Int)) (xs:=Æ GA.length) (B:=fun q=>b ((Æ GA.length).filter fun p=>p !=q) q) (F:=fun q=>AV.int (q:Int)) rfl rfl (by simp;lia) fun q a=>by
  have a:=Ó.mp a;have d:=Kb (st:=st) (ps:=Æ GA.length) F (fun p g=>Ó.mp g) a (by simp;lia);generalize Æ GA.length=L at *;exact⟨[À n,Zs GA,Zs (nL L),Is (q:Int)],rfl,by show(tv _ (.va (.ca Â 0 _)) _ _)=_;simp[d,cK],fun _=>rfl⟩
 rw[iB,wM,e];rfl
end
abbrev KL:List Fn:=[eR,fc,df,dQ,lu,aI]
section
variable{st:aa}{ns:List Int}{n:Nat}{G:List Gv}
theorem KN(A:fA n)(J:G.length<=6)(I:∀y∈G,okB n y):∃b x,Fo (.int n) (G.map Gv.av) b x/\∀(ps:List Nat)(q:Nat),(∀p∈ps,p<(G.map Gv.av).length)->q<(G.map Gv.av).length->ps.length<=6->∀st,pm dQ [.int n,.fz (ps.map fun p=>(G.map Gv.av).getD p .non),(G.map Gv.av).getD q .non,.tup [.bl (b ps q),x ps q]] st=À (.bl Â,st):=by
 have M:1000000000000<=M0:=by unfold M0;decide
 have D:M0<2^9000:=ħ dC dC;have l:∀y∈G,y.row.length=2^n-1/\(∀x∈y.row,x.natAbs<=M0)/\y.num.natAbs<=M0:=fun y h=>by
  have h:=(I y h).w;exact⟨h.1,fun x o=>by have:=h.2.1 x o;lia,by have:=h.2.2;lia⟩
 have bs:∀y∈G,vY n y:=fun y h=>⟨(l y h).1,fun x o=>yL ((l y h).2.1 x o) D,yL (l y h).2.2 D⟩
 have s:∀p,p<(G.map Gv.av).length->(G.map Gv.av).getD p .non=(G.getD p ⟨[],Â,0⟩).av/\G.getD p ⟨[],Â,0⟩∈G:=fun p i=>by
  rw[zH]at i;have e:G.getD p ⟨[],Â,0⟩=G[p]:=by rw[zD,zF i];rfl
  refine⟨?_,by rw[e];exact Ø i⟩;rw[e,zD,zR,zF i];rfl
 have H:∀k:List Nat×Nat,∃q:Bool×AV,(rf q.2=Â/\∀st j,bC (j+1) st q.2=À q.2)/\((∀p∈k.1,p<(G.map Gv.av).length)->k.2<(G.map Gv.av).length->k.1.length<=6->∀st,pm df [.int n,.fz (k.1.map fun p=>(G.map Gv.av).getD p .non),(G.map Gv.av).getD k.2 .non] st=À (.tup [.bl q.1,q.2],st) /\
   pm dQ [.int n,.fz (k.1.map fun p=>(G.map Gv.av).getD p .non),(G.map Gv.av).getD k.2 .non,.tup [.bl q.1,q.2]] st=À (.bl Â,st)):=fun v=>by
  obtain⟨ps,q⟩:=v;dsimp only;by_cases h:(∀p∈ps,p<(G.map Gv.av).length)/\q<(G.map Gv.av).length/\ps.length<=6
  ·obtain⟨a,g,c⟩:=h
   have K:(ps.map fun p=>(G.map Gv.av).getD p .non)=(ps.map fun p=>G.getD p ⟨[],Â,0⟩).map Gv.av:=by
    rw[Ö];exact Ř fun p i=>(s p (a p i)).1
   have B:∀y∈ps.map fun p=>G.getD p ⟨[],Â,0⟩,y∈G:=fun y d=>by
    obtain⟨p,i,rfl⟩:=yC.mp d;exact(s p (a p i)).2
   have w:=(s q g).2;rw[K,(s q g).1];have L:(ps.map fun p=>G.getD p ⟨[],Â,0⟩).length<=6:=by rw[zH];exact c
   generalize (ps.map fun p=>G.getD p ⟨[],Â,0⟩)=gs at *;generalize G.getD q ⟨[],Â,0⟩=z at *;obtain⟨t,C,F⟩:=M9 (gv:=gs) (z:=z) A oM (fun y d=>l _ (B y d)) (l _ w);have sh:=fun st=>B6 (st:=st) A oM (fun y d=>bs _ (B y d)) (bs _ w) (fun u m=>by
    refine(LN A oM (fun y d=>l _ (B y d)) (goal:=u.row) ?_).Z;obtain⟨a,c,g⟩:=l _ w;unfold dy at m;rcases zT.mp m with rfl|m
    ·exact⟨a,c⟩
    ·split at m
     ·rw[zM.mp m]
      refine⟨by simp[jD,a],fun x o=>?_⟩;obtain⟨y,d,rfl⟩:=yC.mp o;rw[Þ];exact c y d
     ·cases m) F
   rcases F with⟨ps,rfl,_⟩|⟨V,E,rfl,_⟩
   ·exact⟨(Â,_),⟨rfl,fun _ _=>rfl⟩,fun _ _ _ st=>⟨C st,sh st⟩⟩
   ·exact⟨(Ã,_),⟨by simp[rf,rfs],fun _ j=>by cases j<;>rfl⟩,fun _ _ _ st=>⟨C st,sh st⟩⟩
  ·exact⟨(Ã,.non),⟨rfl,fun _ _=>rfl⟩,fun a c g=>absurd ⟨a,c,g⟩ h⟩
 obtain⟨f,r⟩:=a! H;exact⟨fun ps q=>(f (ps,q)).1,fun ps q=>(f (ps,q)).2,⟨rfl,fun _=>rfl,ju _,fun ps q a c g st=>((r (ps,q)).2 a c g st).1,fun ps q=>(r (ps,q)).1.1,fun ps q=>(r (ps,q)).1.2,by simpa using J⟩,fun ps q a c g st=>((r (ps,q)).2 a c g st).2⟩
end
section
variable{st:aa}{ns:List Int}{n:Nat}{G:List Gv}
theorem Kw{ks:List Fn}{c:Tx}{a b:Pq}{sl:Sl}{st st':aa}{v:Bool}(h:tv ks c sl st=À (v,st')):cV ks (.iff c a b) sl st=if v=Â then af ks a sl st' else af ks b sl st':=by rw[d5,h];rfl
theorem K3{l:List Nat}{j k:Nat}(h:st[k]?=À (.lst (nL l)))(b:st[j]?=À (.lst (nL l))):aY .NotEq st (.ref k) (.ref j)=À Ã:=by
 have c:nL l=iL (l.map fun q:Nat=>(q:Int)):=by unfold nL iL;rw[Ö];rfl
 rw[c]at h b;have a:∀k,st[k]?=À (.lst (iL (l.map fun q:Nat=>(q:Int))))->cE 9 st (.ref k)=cE 9 st (.fz (iL (l.map fun q:Nat=>(q:Int)))):=fun k h=>by
  unfold cE;rw[h]
 have e:aY .NotEq st (.ref k) (.ref j)=(aY .Eq st (.fz (iL (l.map fun q:Nat=>(q:Int)))) (.fz (iL (l.map fun q:Nat=>(q:Int))))).map (!·):=by
  show(i8 st _ _).map _=(i8 st _ _).map _;unfold i8;rw[a k h,a j b]
 rw[e,vg];rfl
theorem Kc(a:List AV){p:Nat}(b:p<a.length)(e:a.length<=6):a.take p++a.drop (p+1)=((Æ a.length).filter fun q=>q !=p).map fun q=>a.getD q .non:=by
 have d:∀m,m<7->∀p,p<m->(Æ m).take p++(Æ m).drop (p+1)=(Æ m).filter fun q=>q !=p:=by decide
 have c:a=(Æ a.length).map fun q=>a.getD q .non:=by
  refine S! fun i=>?_
  rw[zR];by_cases h:i<a.length
  ·rw[ó h,Ð,zD,zF h];rfl
  ·rw[Ù oM,Ù (by simp;lia)];rfl
 rw[<- d _ oM p b,ä,W?,W1,<- c]
theorem Km(N:ns.length<=63):∃st,qC [.fz (iL ns)] []=À (.bl Â,st):=by
 have K:∃r,qC [.fz (iL ns)] []=À r/\r.1=.bl Â:=by
  obtain⟨n,G,z,Q,Y,hG,Z,hz⟩:=Fy N;obtain⟨b,x,F,sh⟩:=KN Y hG Z;have Q:=Q [];have cp:=Cv (st:=[]) (G:=G) oM fun y hy=>by
   have hN:2^n-1<=15:=by rcases Y with rfl|rfl|rfl|rfl<;>decide
   have:=(Z y hy).1;lia
  have w:=fun st=>E8 (st:=st) G
  have lg:=F.lg;rw[qC,aw];show ∃r,(af KL tF [Ls ns,Á,Á,Á,Á,Á,Á,Á,Á,Á,Á] []).bind ay=À r/\_;unfold tF;generalize G.map Gv.av=a at *;generalize z.av=zz at *;have J:∀st:aa,aZ cO [.fz a] st=À (.int (a.length:Int),st):=fun st=>rfl
  refine ai (sl':=[Ls ns,Is n,Zs a,À zz,Á,Á,Á,Á,Á,Á,Á]) (st':=[]) (by
   rw[fU];simp only[jd,cG,c6,gN,oe,eP,Ä,Ð,jT,jf,Q];rfl) ?_
  refine ai (sl':=[Ls ns,Is n,Zs a,À zz,Zs a,Á,Á,Á,Á,Á,Á]) (st':=[]) (by
   rw[fU];simp only[jd,cG,c6,gN,eP,eZ,Ä,Ð,jT,jf,kA,cp];rfl) ?_
  refine ai (sl':=[Ls ns,Is n,Zs a,À zz,Zs a,Rs 0,Á,Á,Á,Á,Á]) (st':=[.lst []]) rfl ?_;obtain⟨g,m⟩:∃g:Nat->List Nat,g=fun i=>(Æ i).filter fun q=>b ((Æ a.length).filter fun p=>p !=q) q:=⟨_,rfl⟩
  have R:∀i,g (i+1)=g i++if b ((Æ a.length).filter fun p=>p !=i) i=Â then [i] else []:=fun i=>by
   rw[m];dsimp only;rw[Ŗ,List.filter_append,ϱ,List.filter_nil]
  have dL:g a.length=xO b a.length:=by rw[m];rfl
  have d0:g 0=[]:=by rw[m];rfl
  have dl:∀i,(g i).length<=i:=fun i=>by rw[m];exact z5 (Ģ _ _) (by simp)
  refine pD (em:=fun q:Nat=>AV.int (q:Int)) (xs:=Æ a.length) (gd:=[]) (st0:=[.lst []]) (fun i u s=>∃o f d,s=[.lst (nL (g i))]/\u=[Ls ns,Is n,Zs a,À zz,Zs a,Rs 0,o,f,d,Á,Á]) (iO (by simp[J]) oM) (fun _ _ _ _=>rfl) ⟨_,_,_,by rw[d0];rfl,rfl⟩ ?_ ?_
  ·rintro i p u s M ⟨o,f,d,rfl,rfl⟩
   have l:i<a.length:=by have:=(zB.mp M).1;simpa using this
   obtain rfl:i=p:=by have:=(zB.mp M).2;simpa using this
   have oL:=Kc a l lg;have hF:∀q∈(Æ a.length).filter (fun q=>q !=i),q<a.length:=fun q h=>Ó.mp (ć.mp h).1
   have fl:((Æ a.length).filter fun q=>q !=i).length<=6:=z5 (Ģ _ _) (by simp;lia);have C:=F.hf _ i hF l fl;have A:=sh _ i hF l fl;rw[<- oL]at C A;have R:=R i;have hdl:=dl i;obtain⟨S,O⟩:∃S:aa,S=[.lst (nL (g i))]:=⟨_,rfl⟩;have W:=xF (st:=S) l;generalize b ((Æ a.length).filter fun p=>p !=i) i=D at *;generalize x ((Æ a.length).filter fun p=>p !=i) i=xx at *;have V:cut a Á (À (i:Int))=a.take i:=by
    unfold cut;rw[HT.sIx_nat,HT.sIx_none,Ņ,Ϭ,f? oM]
   have U:cut a (À ((i:Int)+1)) Á=a.drop (i+1):=by
    unfold cut;rw[show(i:Int)+1=((i+1:Nat):Int) by lia,HT.sIx_nat,HT.sIx_none,f? oM];exact Ń (by simp)
   have rO:rfs (a.take i++a.drop (i+1))=Â:=dW fun v B=>by
    rcases zZ.mp B with h|h
    ·exact iD F.rg (I! h)
    ·exact iD F.rg (List.mem_of_mem_drop h)
   have s1:cU ((a.take i).length+(a.drop (i+1)).length)=Â:=cC (by simp;lia);have r2:rfs (a.take i)=Â:=dW fun v B=>iD rO (zL _ B)
   have r3:rfs (a.drop (i+1))=Â:=dW fun v B=>iD rO (zK _ B)
   have ec:∀f d,ev KL (.nw Ã (.cat (.nw Ã (.sl (.v 4) .no (.so (.v 6)))) (.nw Ã (.sl (.v 4) (.so (.bin .Add (.v 6) (.i 1))) .no)))) [Ls ns,Is n,Zs a,À zz,Zs a,Rs 0,Is (i:Int),f,d,Á,Á] S=À (.fz (a.take i++a.drop (i+1)),S):=fun f d=>by
    have w1:ev KL (.nw Ã (.sl (.v 4) .no (.so (.v 6)))) [Ls ns,Is n,Zs a,À zz,Zs a,Rs 0,Is (i:Int),f,d,Á,Á] S=À (.fz (a.take i),S):=by simp[pO,pK,V,r2]
    have w2:ev KL (.nw Ã (.sl (.v 4) (.so (.bin .Add (.v 6) (.i 1))) .no)) [Ls ns,Is n,Zs a,À zz,Zs a,Rs 0,Is (i:Int),f,d,Á,Á] S=À (.fz (a.drop (i+1)),S):=by simp[pO,pK,U,r3]
    rw[dE,pN];unfold qQ;simp only[w1,w2,Ä,dR,s1,ite_true,rO]
   generalize a.take i++a.drop (i+1)=OO at *;generalize a.getD i .non=zq at *;have C:=C S;have A:=A S;obtain⟨t,X⟩:∃t,t=AV.tup [.bl D,xx]:=⟨_,rfl⟩;have i0:aG S t (.int 0)=À (.bl D):=by rw[X];rfl
   rw[<- X]at C A;refine⟨_,[Ls ns,Is n,Zs a,À zz,Zs a,Rs 0,Is (i:Int),Zs OO,À t,Á,Á],[.lst (nL (g (i+1)))],rfl,?_,_,_,_,rfl,rfl⟩;show af KL _ [Ls ns,Is n,Zs a,À zz,Zs a,Rs 0,Is (i:Int),f,d,Á,Á] [.lst (nL (g i))]=_;rw[<- O];refine au (sl':=[Ls ns,Is n,Zs a,À zz,Zs a,Rs 0,Is (i:Int),Zs OO,d,Á,Á]) (st':=S) (by rw[fU,ec];rfl) ?_;refine au (sl':=[Ls ns,Is n,Zs a,À zz,Zs a,Rs 0,Is (i:Int),Zs OO,À t,Á,Á]) (st':=S) (by simp[W,C]) ?_;refine au (sl':=[Ls ns,Is n,Zs a,À zz,Zs a,Rs 0,Is (i:Int),Zs OO,À t,Á,Á]) (st':=S) (by simp[W,A,cK]) ?_;refine au (s:=.iff _ _ _) ?_ rfl;have tt:tv KL (.va (.ix (.v 8) (.i 0))) [Ls ns,Is n,Zs a,À zz,Zs a,Rs 0,Is (i:Int),Zs OO,À t,Á,Á] S=À (D,S):=by simp[i0,cK]
   refine(Kw tt).trans ?_;rw[R];cases D with
   |false=>rw[yG dC,yG dC,í,O];rfl
   |true =>
    rw[yH rfl,yH rfl,O];refine au (lP (k:=0) rfl rfl rfl (by simp;lia)) ?_;show À _=À _;simp[nL]
  ·rintro u s ⟨o,f,d,rfl,rfl⟩
   rw[ģ,dL];have hlT:(xO b a.length).length<=6:=by have:=dl a.length;rw[dL]at this;lia
   have I:=fun st=>Ec (st:=st) F
   generalize xO b a.length=T at *;refine pD (em:=fun q:Nat=>AV.int (q:Int)) (xs:=Æ 2) (gd:=[]) (st0:=[.lst (nL T)]) (fun i u s=>∃E j,s[0]?=À (.lst (nL T))/\u=[Ls ns,Is n,Zs a,À zz,Zs a,Rs 0,o,f,d,E,j]) rfl (fun _ _ _ _=>rfl) ⟨_,_,rfl,rfl⟩ ?_ ?_
   ·rintro i p u s M ⟨E,j,h0,rfl⟩
    have L:0<s.length:=(zB.mp h0).1;have H:=I s;have g1:(s++[Pe.lst (nL T)])[s.length]?=À (.lst (nL T)):=by simp
    have P:∀c,(s++[c])[0]?=À (.lst (nL T)):=fun c=>by rw[zN L];exact h0
    refine⟨_,[Ls ns,Is n,Zs a,À zz,Zs a,Rs 0,o,f,d,Is (p:Int),Rs s.length],s++[.lst (nL T++[.int 0])],rfl,?_,_,_,P _,rfl⟩;refine au (sl':=[Ls ns,Is n,Zs a,À zz,Zs a,Rs 0,o,f,d,Is (p:Int),Rs s.length]) (st':=s++[.lst (nL T)]) (by
     show cV KL _ [Ls ns,Is n,Zs a,À zz,Zs a,Rs 0,o,f,d,Is (p:Int),j] s=_;rw[fU];simp[H]) ?_
    have J:aZ cO [.ref 0] (s++[.lst (nL T)])=À (.int (T.length:Int),s++[.lst (nL T)]):=by
     have:cO (s++[Pe.lst (nL T)]) [.ref 0]=À (.int (T.length:Int)):=by simp[cO,bG (P (.lst (nL T)))]
     simp[aZ,this]
    obtain⟨v,s',u1,u2⟩:=JZ (fun st=>Bb (st:=st) (ps:=T) oM) (by simp[rfs,rf]);have pl:=EN (st:=s++[.lst (nL T)]) (args:=[.ref s.length,.int (T.length:Int)]) (ts:=[.fz (nL T),.int (T.length:Int)]) (by simp[rfs,rf]) (by simp only[aT,JD g1,show dN (s++[Pe.lst (nL T)]) (.int (T.length:Int))=À (.int (T.length:Int)) from rfl,Ä,Ð]) u1 u2 rfl;have ed:=K3 g1 (P (.lst (nL T)));have w:=w (s++[.lst (nL T)]);refine au (sl':=[Ls ns,Is n,Zs a,À zz,Zs a,Rs 0,o,f,d,Is (p:Int),Rs s.length]) (st':=s++[.lst (nL T)]) (by
     simp[J,pl,ed,w,cK]) ?_
    refine au (st':=s++[.lst (nL T++[.int 0])]) ?_ rfl;have l1:cw (s++[Pe.lst (nL T)]) (.ref s.length)=À (nL T):=bG g1;simp [mX,se,rZ,rL,l1,qS,iQ,cC (show T.length <= 1000 by lia)]
   ·rintro u s ⟨E,j,_,rfl⟩
    exact⟨_,aX rfl,rfl⟩
 obtain⟨⟨v,s⟩,e,h⟩:=K;have h:v=.bl Â:=h;subst h;exact⟨s,e⟩
theorem MK:Room e_law.d ώ:=⟨rfl,by decide,by decide,rfl⟩
theorem DY:∀t∈(Pf.tb:List (Ç×Pos×Str)),t.1∈([(119,117)]:List (Ç×Addr)).map (·.2):=by
 intro t a;have:t=(117,⟨81,30,81,63⟩,("Sheet.raising_column":Ì)++".<locals>."++"<lambda>"):=zM.mp a;rw[this];exact zM.mpr rfl
theorem holds:∀ns:List Int,ns.length<=63->∃st,L3 [.fz (ns.map .int)] []=À (.bl Â,st):=fun _ h=>Km h
end
end LW
namespace PySem.W.Fast
def tw17726376293098278700:=()
def tw13968940685955536881:=()
def tw7003446772376132117:=()
def tw13129724971655968268:=()
def tw12585786300853639914:=()
def tw17049093223116368881:=()
def tw11573840155625693630:=()
def tw13759877476637944525:=()
def tw1929044370512709566:=()
def tw11967306451905589165:=()
def tw2858864633935730937:=()
def tw139929833547244400:=()
def tw14780127690047764143:=()
def tw15874742165930434249:=()
def tw8752764532159581127:=()
def tw10163319628159572067:=()
def tw5729891783984285448:=()
def tw9124159998103918225:=()
def tw10359977463200070633:=()
def tw16151092055964570655:=()
def tw4305446298148257096:=()
def tw18045707754677209213:=()
def tw11501401793524085795:=()
def tw14655458926579495828:=()
def tw7978537596984831184:=()
def tw10572885525473172497:=()
def tw6915308709993153778:=()
def tw10625784309195774501:=()
def tw10789048880681320068:=()
def tw12077520030603539982:=()
def tw5956140015937869498:=()
def tw5652837318332418112:=()
def tw13903127636074324783:=()
def tw3728371404687877162:=()
def tw2758695591934231518:=()
def tw8950454239200819635:=()
def tw5500060431700779730:=()
def tw4367317067148810635:=()
def tw673865551532462893:=()
def tw1790136206624637177:=()
def tw2701999784468069486:=()
def tw17232127717805554722:=()
def tw6143524719086192971:=()
def tw8437009996802230931:=()
def tw115954736746101358:=()
def tw3674030984023035049:=()
def tw17836039429995408141:=()
def tw8096611944018615684:=()
def tw6490489143014604282:=()
def tw1344657659995754596:=()
def tw13247474398495060522:=()
def tw1712416375755598341:=()
def tw3595202404172138017:=()
def tw9824080099417848636:=()
def tw17761976394187852342:=()
def tw18068249896958006276:=()
def tw6807780247545731067:=()
def tw4315598163274688420:=()
def tw14321690929742807284:=()
def tw160245076974610855:=()
def tw16589974411758692503:=()
def tw8694497069806660399:=()
def tw9457073440417073005:=()
def tw254795060917486604:=()
def tw16382652958012837041:=()
def tw7253942151809478282:=()
def tw5877833294112875299:=()
def tw2533296571010192350:=()
def tw8596651248056004231:=()
def tw2322275736664402877:=()
def tw11470383119854110816:=()
def tw7220001359557593541:=()
def tw5939233888356596101:=()
def tw12498458735142478041:=()
def tw10960312774826972140:=()
def tw15224324960165893355:=()
def tw7160516723335910031:=()
def tw4507892436341672104:=()
def tw13883022739437144271:=()
def tw8352030589292033831:=()
def tw1584036204194475726:=()
def tw4638912046002194229:=()
def tw17224055156428800414:=()
def tw7472316916111835666:=()
def tw6760082225065880836:=()
def tw16230374741221953052:=()
def tw16167571915113074113:=()
def tw3004329414205686163:=()
def tw16094297373616723713:=()
def tw4932738725150392285:=()
def tw10806541971136768537:=()
def tw4011084132320168171:=()
def tw8562383379889192993:=()
def tw7470587422446647912:=()
def tw2592365240173285210:=()
def tw8553133994960958093:=()
def tw8996909404599761419:=()
def tw12931604090123939583:=()
def tw12128196767240256654:=()
def tw12569963790129431996:=()
def tw2653313086246047382:=()
def tw13094993928455641721:=()
def tw5473919950510513116:=()
def tw13458400747445488602:=()
def tw5053241616850648968:=()
def tw8118447303474310289:=()
def tw4411302434650390711:=()
def tw994238907867924312:=()
def tw9200426220252170996:=()
def tw2578550981824693340:=()
def tw9092608370516010536:=()
def tw13940679319118444178:=()
def tw12439581164034759277:=()
def tw15291205643293946878:=()
def tw17331039834291885736:=()
def tw6695181369051680564:=()
def tw786767008330511178:=()
def tw4614225699510676854:=()
def tw15777927895399676428:=()
def tw2624613957205181552:=()
def tw14907038675240895283:=()
def tw8026082455378070205:=()
def tw10091579836347846139:=()
def tw7303204818210409830:=()
def tw1209758277758389354:=()
def tw14973035996551489393:=()
def tw5957870094601963458:=()
def tw3454262957368965105:=()
def tw13328867568570521549:=()
def tw2328110259167432292:=()
def tw8258801572120026573:=()
def tw15438322024577373610:=()
def tw18363655723859209562:=()
def tw2348994071295980120:=()
def tw6005508443089815543:=()
def tw10236832747101747773:=()
def tw12151632451989751443:=()
def tw4088075393184007018:=()
def tw18037764204176656227:=()
def tw14711007962888340226:=()
def tw5858211215197308433:=()
def tw3174708187565910519:=()
def tw13140340341524148434:=()
def tw12991966390465952472:=()
def tw7197513492069827034:=()
def tw6821673872318749432:=()
def tw4573885736073186601:=()
def tw5277998178368476519:=()
def tw17133234437959717644:=()
def tw12619257456359114076:=()
end PySem.W.Fast
open PySem PySem.W PyProof.Rows
set_option maxRecDepth 100000 in
set_option maxHeartbeats 0 in
theorem PySem.Challenge.cw_telltight_k21_spare_members_holds : PySem.Challenge.rw_telltight_k21_spare_members.Holds := by
 w_on; o_law; k_head; (case hw => w_witness2)
 k_fill
 refine R.walk_R (l := PySem.Challenge.rw_telltight_k21_spare_members) (k := LW.e_law.d) (fn := LW.L3) (tabs := [(119, 117)]) rfl rfl ?hrr (fun w h Y => ⟨km_in_of Y, fun q hq => km_tabs_of Y q.2 (by simp only [zM] at hq ⊢; rw [hq])⟩) ?hcc ?hKK ?htt LW.holds ?F
 case hrr => exact LW.MK
 case hcc => intro w q hq; simp only [zM] at hq; rw [hq]; kernel_rfl
 case hKK => intro w; kernel_rfl
 case htt => intro t ht; exact LW.DY t ht
 case F =>
  intro w mg fa h KX G hmg;refine R.law_F (gs := LW.gs) (cl := LW.cl) (pre := LW.pre) (e := LW.e_law) KX G hmg ?nb ?gs ?cl LW.FD LW.FF rfl ?fs ?law rfl LW.Kn
  case nb => kernel_rfl
  case gs => intro p hp; simp only [LW.gs, zT, zX, or_false] at hp
  case cl => intro p hp; simp only [LW.cl, zT, zX, or_false] at hp; rcases hp with rfl <;> exact ⟨⟨_, by k_is, by kernel_rfl, by kernel_rfl, by kernel_rfl, by kernel_rfl⟩, ⟨_, by k_is, by kernel_rfl⟩⟩
  case law => exact R.ff (by k_is) (by k_is) (by kernel_rfl) (by k_is) (.inl rfl)
  case fs =>
   repeat' first | exact R.fes_n | refine R.fes_c ?_ ?_
   iterate 18 next => exact R.fe_f (by exact rfl) (by k_is) (by k_is) (by kernel_rfl) (by k_is) (.inl rfl)
   next => exact R.fe_k (by exact rfl) (by k_is) (by k_is) (by k_is) (by kernel_rfl) (by k_is) (by k_is) (.inl rfl) (by kernel_rfl) (by kernel_rfl)
   next => exact R.fe_m (by exact rfl) (by k_is) (by k_is) (by k_is) (by kernel_rfl) (by k_is) (by k_is) (.inl rfl)
   next => exact R.fe_f (by exact rfl) (by k_is) (by k_is) (by kernel_rfl) (by k_is) (.inl rfl)
   iterate 2 next => exact R.fe_m (by exact rfl) (by k_is) (by k_is) (by k_is) (by kernel_rfl) (by k_is) (by k_is) (.inl rfl)
   next => exact R.fe_m (by exact rfl) (by k_is) (by k_is) (by k_is) (by kernel_rfl) (by k_is) (by k_is) (.inr ⟨_, _, _, rfl, rfl, by kernel_rfl, rfl⟩)
   iterate 3 next => exact R.fe_m (by exact rfl) (by k_is) (by k_is) (by k_is) (by kernel_rfl) (by k_is) (by k_is) (.inl rfl)
   next => exact R.fe_f (by exact rfl) (by k_is) (by k_is) (by kernel_rfl) (by k_is) (.inl rfl)
   iterate 4 next => exact R.fe_m (by exact rfl) (by k_is) (by k_is) (by k_is) (by kernel_rfl) (by k_is) (by k_is) (.inl rfl)
   iterate 10 next => exact R.fe_f (by exact rfl) (by k_is) (by k_is) (by kernel_rfl) (by k_is) (.inl rfl)
   next => exact R.fe_m (by exact rfl) (by k_is) (by k_is) (by k_is) (by kernel_rfl) (by k_is) (by k_is) (.inl rfl)
   iterate 25 next => exact R.fe_f (by exact rfl) (by k_is) (by k_is) (by kernel_rfl) (by k_is) (.inl rfl)
#print axioms PySem.Challenge.cw_telltight_k21_spare_members_holds
