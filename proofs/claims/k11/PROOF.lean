import PyProof.Rows.All
import Wide.All
import OpenK.AllK
import Wide.FinOn
import PySem.Challenge.RW_telltight_k11_whole_no_wrong_answer
set_option bootstrap.genMatcherCode false
set_option compiler.extract_closed false
noncomputable section
open Array renaming getElem?_toList → q!, length_toList → ö, size_append → O!, toList → U2, toList_append → C!
open Bool renaming and_eq_true → zC, and_eq_true_iff → ŏ, and_self → Ģ, and_true → U1, eq_iff_iff → ϴ, false → Ã, false_eq_true → yB, false_ne_true → ĝ, or_eq_true_iff → I?, or_false → j?, or_true → V6, true → Â
open Classical renaming byContradiction → ĉ, choose → đ, choose_spec → Ĝ
open ForInStep renaming yield → Į
open Int renaming add_mul → Y?, add_nonneg → U', add_zero → ê, dvd_natAbs → ό, ediv_mul_cancel → ŗ, emod_lt_of_pos → Ñ, emod_nonneg → Õ, eq_of_mul_eq_mul_left → ķ, eq_of_mul_eq_mul_right → Ī, fdiv_eq_ediv_of_nonneg → e!, le_of_eq → X!, le_of_lt → Ś, le_of_mul_le_mul_left → j!, le_of_mul_le_mul_right → ĩ, le_refl → ń, le_trans → Ň, lt_or_le → yV, lt_trichotomy → Q6, mul_add → ϳ, mul_assoc → Ŏ, mul_comm → ĳ, mul_ediv_cancel' → H?, mul_eq_zero → T?, mul_le_mul_of_nonneg_right → ß, mul_lt_mul_of_pos_left → Ŝ, mul_neg_of_pos_of_neg → Ķ, mul_nonneg → í, mul_nonpos_of_nonneg_of_nonpos → Ł, mul_nonpos_of_nonpos_of_nonneg → ŀ, mul_one → ϲ, mul_pos → ϋ, mul_zero → yP, natAbs_add_le → Ϥ, natAbs_mul → xA, natAbs_natCast → ġ, natAbs_neg → ċ, natCast_add → T!, natCast_dvd_natCast → Ń, one_mul → ϊ, sub_zero → W9, toNat_natCast → Q5, toNat_of_nonneg → Ŗ, zero_mul → yQ
open List renaming all_cons → ĺ, all_eq_true → yR, any_cons → Ť, any_eq_false → P?, any_eq_true → Ĭ, any_map → ϡ, append_assoc → yN, append_nil → å, cons_append → Ϫ, countP_cons → Q4, dropLast_eq_take → A', drop_eq_getElem_cons → û, drop_length → ϩ, drop_nil → U?, drop_of_length_le → n?, drop_zero → Ņ, ext_getElem? → P!, filterMap_cons → Ŕ, filter_cons → Q3, filter_eq_self → Ð, find?_cons → č, flatten_cons → ď, foldl → N!, foldl_cons → ő, forIn_cons → S4, forIn_nil → S9, getD_eq_getElem?_getD → zD, getElem?_append_left → zN, getElem?_append_right → z6, getElem?_cons_succ → ė, getElem?_drop → M', getElem?_eq_getElem → zF, getElem?_eq_none → Ø, getElem?_eq_some_iff → zB, getElem?_map → zR, getElem?_of_mem → z9, getElem?_range → ĵ, getElem?_replicate → ð, getElem?_set → yX, getElem?_set_ne → ï, getElem?_set_self → õ, getElem?_take_of_lt → ţ, getElem?_zipIdx → ź, getElem?_zip_eq_some → ë, getElem_inj → ū, getElem_mem → Ó, getElem_of_mem → H!, isEmpty_iff → é, length → ō, length_append → zV, length_cons → yY, length_drop → Ϩ, length_filter_le → A?, length_map → zH, length_nil → ϱ, length_range → Ā, length_replicate → ü, length_set → ă, length_singleton → Ý, length_take → ī, length_zip → Ă, length_zipIdx → M?, lookup → Ō, lookup_cons → yO, map_append → ù, map_congr_left → ϓ, map_cons → zO, map_const' → ϰ, map_map → Ö, map_nil → Ϡ, map_replicate → M!, map_set → V', map_take → U!, mem_append → zZ, mem_append_left → zL, mem_append_right → zK, mem_cons → zT, mem_cons_of_mem → zQ, mem_cons_self → z7, mem_filter → Ŀ, mem_filterMap → L', mem_map → yD, mem_map_of_mem → ϒ, mem_of_getElem? → zW, mem_of_mem_drop → B', mem_of_mem_take → Ź, mem_or_eq_of_mem_set → Č, mem_range → Ü, mem_singleton → zM, nil_append → S3, nodup_append → ϟ, nodup_cons → ľ, nodup_nil → S8, not_mem_nil → zX, of_mem_zip → ā, range → È, range' → ĥ, range_succ → S?, replicate → Æ, replicate_succ → ì, set_append_right → A!, set_set → n!, size_toArray → zI, sum_cons → ϔ, take_length → ň, take_of_length_le → ô, take_sublist → O9, take_succ → S7, take_zero → S6, zip_cons_cons → Ċ, zip_map → V?
open List.Pairwise renaming nil → ų
open Nat renaming add_assoc → ũ, add_sub_cancel_left → ñ, ble → ä, ble_eq_true_of_le → yL, dvd_trans → V!, eq_one_of_mul_eq_one_left → ϯ, eq_zero_of_zero_dvd → m?, gcd → þ, gcd_comm → W8, gcd_dvd_left → S!, gcd_dvd_right → Q0, le_add_right → ϭ, le_antisymm → b?, le_of_ble_eq_true → zS, le_of_dvd → U9, le_of_eq → ϣ, le_of_lt → yZ, le_of_not_lt → R9, le_of_succ_le → Đ, le_refl → zP, le_succ → Ϯ, le_total → z?, le_trans → z5, log2_lt → Ĉ, lt_add_of_pos_right → Ů, lt_irrefl → xB, lt_of_le_of_lt → yM, lt_of_lt_of_le → zJ, lt_or_ge → yU, lt_succ_of_le → Q?, lt_succ_self → Ĳ, lt_trans → z!, min_eq_left → b!, min_le_right → R8, mod_eq_of_lt → R?, mul_le_mul → ś, mul_le_mul_right → Ő, ne_of_gt → ı, ne_of_lt → zU, one_le_two_pow → ϙ, one_lt_two_pow → O8, one_mul → Ţ, or_lt_two_pow → š, pos_of_ne_zero → O7, pow_add → Š, pow_le_pow_right → ž, pow_lt_pow_right → Ĩ, pow_succ → W7, sub_self → W6, sub_zero → Ų, succ_mul → y?, succ_pos → W5, two_pow_pos → Ô, zero_le → ħ
open Ne renaming symm → ç
open Option renaming bind_some → Å, getD_none → L?, getD_some → Ϟ, isSome_iff_exists → Ĵ, isSome_map → ł, isSome_some → B?, map_eq_some_iff → zE, map_some → á, none → Á, some → À
open Option.some renaming inj → yE
open PyProof.Rows renaming AllBare → ύ, Call_ → N?, Constant_none → I!, IntsAre → ſ, boot_range → v?, callWith_builtin1 → Y!, callWith_type1 → Ù, envOfC → ϫ, evalArgs_kwB → X9, get?_update_seq → X4, kws_cons → X8, kws_nil → X7, seqObj → ű, sub_tuple_tuple → X3, subscriptTail → D!, subscriptTail_builtinR → O2
open PySem renaming Addr → Ç, Arguments → Ϣ, Around → Ď, BindsTo → p?, BoolOp → B!, Builtin → p!, CmpOp → Ϛ, Env → Q7, Expr → Î, Fin → O4, FuncData → Ė, Heap → è, Keyword → ŋ, NameKind → Ū, Obj → W4, Operator → ğ, Paired → O6, PassesOwn → ϝ, PlainAttrs → y!, Pos → ģ, Program → Ò, PyData → ņ, Reads → ů, ReadsAll → Ϲ, Scope → Ğ, Sem → W1, Shared → É, Stmt → Ľ, Str → Ì, Value → Ä, Within → l!, World → Û, argsOk → x!, assignEach → â, atKey → w?, attributeBase → Ě, backTo → ý, backToKw → Ŋ, behindInMarks → ϧ, binaryOp → ŷ, bindArgs → w!, bindC → K?, bindL → K!, bootBuiltins → à, builtinsNs → ę, cLine → ř, call → G?, callWith → ŧ, call_list_range → X5, call_meets → Ŧ, callerA → Ż, cellsFrom → ē, closureFor → T7, codeAny → ŉ, codeAny_builtin → ϑ, codeAny_call_builtin → R!, codeAny_mono → ŝ, compareOp → Ē, defaultsOf → T6, foldedSetIterable → ú, getItem → O3, getMethod → ş, isTrue → v!, keywordEach → ĕ, letOwnedTupleGo → ϐ, mainGlobals → Ï, mem_of_lookup → İ, newEnv → T5, newFunctionEnv → u?, numAt → u!, numAt_eq → Q9, nums_intItems → E?, plainId_quiet → E!, pushCells → Ŷ, pushCells_keeps → k?, pyNext → t!, rangeSize_one → D?, rawInt → s?, recursionLimit → ϗ, seqIndex_neg → ϸ, seqIndex_of → f?, seqItems? → V9, setItem → ϛ, sizeLine → Ë, sizeLine_eq → ϖ, sliceBounds → Ř, small_one → V8, standAt → ŕ, starEach → Ê, swappedStores → Ϧ, swapsWith → ļ, swapsWithSole → ϥ, sysModules → Ę, tupleKind → ŵ, tupleKind_room_in1 → ť, typeIs_int → T4, unaryOp → U4, updateSeq → J!, valueAt → Ϸ, wpAny → Í, wpAny_Call_Name_kw → ÿ, wpAny_Name → T1, wpAny_assign_Name → U3, wpAny_bind → yF, wpAny_call → r?, wpAny_comprehension_free → C?, wpAny_execs_nil → k!, wpAny_getItem_list_neg → O0, wpAny_holding → yS, wpAny_letGo → ϕ, wpAny_loadPart' → Ϗ, wpAny_mono → yT, wpAny_passesOwn → Ĥ, wpAny_pure → yG, wpAny_pyIter_enum → ϵ, wpAny_pyIter_list → Ć, wpAny_pyIter_zip → V7, wpAny_pyNext_list_end → P9, wpAny_pyNext_list_item → O?, wpAny_seqItems → q?, wpAny_specialOf → X1, wpAny_standAt → Ű, wpAny_truthy_bool → ą, wpAny_tryCatch → ĸ, wpAny_updateSeq → ώ
open PySem.AutoSeq1 renaming wpAny_loadPart' → į
open PySem.Builtin renaming bitAnd → P8, bitNot → P7
open PySem.Builtin.Builtins renaming bindParams → Ÿ
open PySem.Builtin.Dict renaming pendingCount → Y0
open PySem.Builtin.Int renaming intBits → c?
open PySem.Builtin.List renaming listTooLong → ø
open PySem.Builtin.Range renaming rangeSize → X'
open PySem.Builtin.SmallTypes renaming fitsIndex → Ļ
open PySem.Challenge renaming pw_telltight_k11_whole_no_wrong_answer → T9
open PySem.F renaming entry_min_loop → Ũ, plainAttrs_list → æ, plain_min_loop → Ą, slot_dict_len → i!, slot_list_append → a?, slot_list_count → Ş, slot_list_extend → a!, slot_list_pop → h?, type_list_append → ϻ, type_list_count → c!, type_list_extend → Ϻ, type_list_pop → h!
open PySem.Heap renaming ExtBut → X?, SameBut → ĭ, get?_push_of_some → zG, get?_push_size → zY, get?_update_other → o?, lt_size → yJ, size_push → Ħ
open PySem.Heap.IsSliceOf renaming new → V0
open PySem.Heap.SameBut renaming refl → e?, update → Ŭ
open PySem.NameKind renaming cell → ě, free → Ú
open PySem.Obj renaming mapSeq → Ġ
open PySem.P renaming truthy_int → ż
open PySem.PyData renaming canLay0 → Ĕ, canLayAll0 → ò, depth → i?, depthAll → O5, eqv → Þ, eqvAll → Ž, int → î, list → Ŵ, strOk → S5
open PySem.Reads renaming unique → d?
open PySem.SeqAt renaming eqAt_reads → Ϭ
open PySem.Str renaming ofString → ć
open PySem.Value renaming bool → G!, bytes → U8, float → U7, int → g?, isInt → x?, isStrOf → d!, none → ŭ, ref → ó, str → g!, type → F?
open PySem.W renaming CodeHd → U0, Frag → ã, OpenLaw → L!, WalkO → Q!, callWith_K → T8, callWith_K0 → l?, codeIn → Ϙ, emptyDict → œ, findIn → Œ, hasDictIn → J?, instObj → Ϝ, keepIn → Ĺ, makesIn → U6, methodCall_KW → F!, methodObj → W?, mg_of → U5, plainGet → t?, plainGet_of → Q8, plainOver → W!, tabObj → O1
open PySem.W.Looks renaming here → W3
open PySem.Within renaming cons → X6
open Option (bind_some map_some)
open PySem.W (CodeHd Frag InitBack InstAt TabsAt any_some bind_fn callWith_K cellsFrom_some codeHdIn codeHd_of_K codeIn codeRec_of emptyDict findIn findObj_own fnOf get_value handedIn hasDictIn hideAll hideAll_get hideAll_none hideAll_size instObj isFn keepIn ki_setAt ki_setBack kla_callFunE kla_codeExpr kla_eval kla_fn kla_makeFunction kla_makeFunctionHit km_in_of km_tabs_of lookIn looks_clsIn looks_findIn make_core makesIn makes_of mem_of_lookupK methodCall_KW methodObj method_fn mg_none_of mg_of noTabs nsIn of_hideAll osa_open plainGet plainGet_of plainOver set_plain tabObj takerIn truthy_bytes typeIn)
theorem oM{p:Prop}(h:p:=by first|lia|omega|(refine @id (@Ne Nat _ _) ?_;omega)):p:=h
theorem dC{p:Prop}(h:p:=by decide):p:=h
set_option Elab.async false
set_option linter.all false
set_option maxRecDepth 100000
theorem zA{α c}{o:Option α}{f:α->Option c}{b}:o.bind f=À b->∃a,o=À a∧f a=À b:=Option.bind_eq_some_iff.mp
theorem yA:type_of% @decide_eq_false:=@decide_eq_false
theorem yC:type_of% @decide_eq_true_eq:=@decide_eq_true_eq
theorem yH:type_of% @if_neg:=@if_neg
theorem yI:type_of% @if_pos:=@if_pos
theorem yK:type_of% @eq_of_beq:=@eq_of_beq
theorem yW:type_of% @decide_eq_true:=@decide_eq_true
namespace L2
open PySem PySem.Spec PyProof.Rows
abbrev aT:=Sum Int Ì
def iM:aT->Ä->Bool
 |.inl k,v=>x? k v
 |.inr x,v=>d! x v
def LZ(w:Û):aT->Int
 |.inl k=>hashInt k
 |.inr x=>hashStr w x
theorem cT:∀{k:aT}{v:Ä},iM k v=Â->(∃i t,k=Sum.inl i/\v=g? i t)\/(∃x t,k=Sum.inr x/\v=g! x t)
 |.inl i,v,h=>by
  obtain⟨t,e⟩:=Value.isInt_shape (k:=i) (v:=v) h;exact .inl ⟨i,t,rfl,e⟩
 |.inr x,v,h=>by
  obtain⟨t,e⟩:=Value.isStrOf_shape (x:=x) (v:=v) h;exact .inr ⟨x,t,rfl,e⟩
theorem yu(i:Int)(t:Tok):iM (.inl i) (.int i t)=Â:=by simp[iM,x?]
theorem yr(x:Ì)(t:Tok):iM (.inr x) (.str x t)=Â:=by simp[iM,d!]
theorem Hc(a b:Int):decide ((Sum.inl a:aT)=Sum.inl b)=(a==b):=by
 by_cases e:a=b
 ·subst e;simp
 ·have h:¬(Sum.inl a:aT)=Sum.inl b:=fun q=>e (Sum.inl.inj q)
  rw[yA h];exact(beq_eq_false_iff_ne.mpr e).symm
theorem G8(a b:Ì):decide ((Sum.inr a:aT)=Sum.inr b)=decide (a=b):=by
 by_cases e:a=b
 ·subst e;simp
 ·have h:¬(Sum.inr a:aT)=Sum.inr b:=fun q=>e (Sum.inr.inj q)
  rw[yA h,yA e]
theorem Ha(a:Int)(b:Ì):decide ((Sum.inl a:aT)=Sum.inr b)=Ã:=yA (fun q=>nomatch q)
theorem G9(a:Ì)(b:Int):decide ((Sum.inr a:aT)=Sum.inl b)=Ã:=yA (fun q=>nomatch q)
def ci(prog:Ò)(w:Û):PySem.KeyKind prog w aT where
 is:=iM
 hash:=LZ w
 inj:=fun v a b ha hb=>by
  rcases cT ha with⟨i,t,rfl,rfl⟩|⟨x,t,rfl,rfl⟩
  ·rcases cT hb with⟨j,u,rfl,e⟩|⟨y,u,rfl,e⟩
   ·injection e with e1 _;rw[e1]
   ·exact nomatch e
  ·rcases cT hb with⟨j,u,rfl,e⟩|⟨y,u,rfl,e⟩
   ·exact nomatch e
   ·injection e with e1 _;rw[e1]
 byValue:=fun k v h=>by
  rcases cT h with⟨i,t,rfl,rfl⟩|⟨x,t,rfl,rfl⟩<;>rfl
 pyHash:=fun hv h=>by
  rcases cT hv with⟨i,t,rfl,rfl⟩|⟨x,t,rfl,rfl⟩
  ·exact wpAny_pyHash_int h
  ·exact wpAny_pyHash_str h
 eqBool:=fun hu hv h=>by
  rcases cT hu with⟨i,t,rfl,rfl⟩|⟨x,t,rfl,rfl⟩
  ·rcases cT hv with⟨j,u,rfl,rfl⟩|⟨y,u,rfl,rfl⟩
   ·rw[Hc]at h;exact wpAny_eqBool_int h
   ·rw[Ha]at h;exact SeqAt.EqAt.int_str i t y u _ _ _ _ h
  ·rcases cT hv with⟨j,u,rfl,rfl⟩|⟨y,u,rfl,rfl⟩
   ·rw[G9]at h;exact SeqAt.EqAt.str_int x t j u _ _ _ _ h
   ·rw[G8]at h;exact wpAny_eqBool_str h
 «strs»:=fun k x t v h=>by
  rcases cT h with⟨i,u,rfl,e⟩|⟨y,u,rfl,e⟩
  ·exact nomatch e
  ·injection e with e1 _
   subst e1;cases v<;>rfl
theorem ut(prog:Ò)(w:Û)(i:Int)(t:Tok):(ci prog w).is (.inl i) (.int i t)=Â:=yu i t
theorem ur(prog:Ò)(w:Û)(x:Ì)(t:Tok):(ci prog w).is (.inr x) (.str x t)=Â:=yr x t
inductive V where
 |non|bl (b:Bool)|int (i:Int)|str (x:Ì)|byt (b:Array UInt8)|flt (b:UInt64)|ref (a:Ç)|ty (n:String)
 deriving DecidableEq
def RelV:V->Ä->Prop
 |.non,u=>u=ŭ
 |.bl b,u=>u=G! b
 |.int i,u=>∃t,u=g? i t
 |.str x,u=>∃t,u=g! x t
 |.byt b,u=>∃t,u=U8 b t
 |.flt b,u=>∃t,u=U7 b t
 |.ref a,u=>u=ó a
 |.ty n,u=>u=F? n
abbrev Vals:List V->List Ä->Prop:=O6 RelV
theorem Vals.length{xs:List V}{us:List Ä}(r:Vals xs us):xs.length=us.length:=Paired.length r
theorem Vals.get:∀{xs:List V}{us:List Ä}{i:Nat}{x:V},Vals xs us->xs[i]?=À x->∃u,us[i]?=À u/\RelV x u
 |_,_,_,_,.nil,e=>by simp at e
 |_,_,0,_,.cons r _,e=>by simp at e;subst e;exact⟨_,rfl,r⟩
 |_,_,i+1,x,.cons _ t,e=>by
  obtain⟨u,h1,h2⟩:=Vals.get (i:=i) (x:=x) t (by simpa using e);exact⟨u,by simpa using h1,h2⟩
theorem Vals.set(r:RelV x u):∀{xs:List V}{us:List Ä} (i:Nat),Vals xs us->Vals (xs.set i x) (us.set i u)
 |_,_,_,.nil=>.nil
 |_,_,0,.cons _ t=>.cons r t
 |_,_,i+1,.cons q t=>.cons q (Vals.set r i t)
theorem Vals.append:∀{xs ys:List V}{us ws:List Ä},Vals xs us->Vals ys ws->Vals (xs++ys) (us++ws):=by
 intro xs ys us ws h s
 induction h with
 |nil=>exact s
 |cons r t a=>exact .cons r a
theorem Vals.take:∀{xs:List V}{us:List Ä} (n:Nat),Vals xs us->Vals (xs.take n) (us.take n):=by
 intro xs us n h
 induction h generalizing n with
 |nil=>cases n<;>exact .nil
 |cons r t a=>cases n with
  |zero=>exact .nil
  |succ n=>exact .cons r (a n)
theorem Vals.drop:∀{xs:List V}{us:List Ä} (n:Nat),Vals xs us->Vals (xs.drop n) (us.drop n):=by
 intro xs us n h
 induction h generalizing n with
 |nil=>cases n<;>exact .nil
 |cons r t a=>cases n with
  |zero=>exact .cons r t
  |succ n=>exact a n
def RelO:Option V->Option Ä->Prop
 |some v,À u=>RelV v u
 |none,Á=>True
 |_,_=>False
def KV{a:Type}:List (a×V)->List (a×Value)->Prop:=O6 fun(p:a×V)(q:a×Value)=>p.1=q.1/\RelV p.2 q.2
def kV:aT->V
 |.inl i=>.int i
 |.inr x=>.str x
inductive HO where
  |lst (xs:List V)
  |tup (xs:List V)
  |dK (Oi:List (aT×V))|dT (Oi:List (List aT×V))
  |set (S:Int->Bool) (n:Nat)
  |ins (C dx:Ç) (fs:List (Ì×V))
  |own (x:Ç)
  |xd (fs:List (Ì×V))
  |met (f x:Ç)
  |rng (lo hi:Int)
  |frz (o:W4) (u:HO)
  |tbl (ps:Array Ä)
  |ext (φ:è->Prop)
abbrev Hp:=Ç->Option HO
def ak(H:Hp)(a:Ç)(o:HO):Hp:=fun b=>if b=a then À o else H b
theorem aB:ak H a o a=À o:=by unfold ak;rw[yI rfl]
theorem ad(h:b≠a):ak H a o b=H b:=by unfold ak;rw[yH h]
theorem wj{H:Hp}{a b:Ç}{o u:HO}(h:H a=À o)(h':H b=À u)(d:o≠u):a≠b:=by
 intro e;subst e;rw[h]at h';exact d (yE h')
theorem aX{H:Hp}{a b:Ç}{o:HO}(h:H a=À o)(h':H b=Á):a≠b:=by
 intro e;subst e;rw[h]at h';cases h'
section
variable(P:Ò)(w:Û)
def ObjOk(H:Hp)(h:è)(a:Ç):HO->Prop
 |.lst xs=>xs.length<=Ë/\∃(Om:List Ä)(n:Nat),Vals xs Om/\h.get? a=À { cls:=.type "list",data:=.seq Om.toArray n }
 |.tup xs=>xs.length<=Ë/\∃Om:List Ä,Vals xs Om/\IsTup h a Om.toArray
 |.dK Oi=>Oi.length<=Ë/\(a==Ę)=Ã/\∃vs,KV Oi vs/\h.DictOf (ci P w) a vs
 |.dT Oi=>Oi.length<=Ë/\(a==Ę)=Ã/\∃xs:List (List aT×Addr×Value),
   O6 (fun(p:List aT×V)(q:List aT×Addr×Value)=>p.1=q.1/\H q.2.1=À (.tup (p.1.map kV))/\RelV p.2 q.2.2) Oi xs /\
   ∃o es ep,h.get? a=À o/\o.ExactDict/\o.data=.dict es ep/\es.toList=xs.map (entryOfKey (ŵ (ci P w)))/\(xs.map (·.1)).Nodup
 |.set S n=>h.SetOf (intKind P w) a S n
 |.ins C dx fs=>H dx=À (.own a)/\fs.length<=1000/\dx≠a/\h.get? a=À (Ϝ C dx) /\
   ∃mA,h.Ns1 dx mA/\(∀f,RelO (fs.lookup f) (mA f))/\l! mA (fs.map (·.1))
 |.own _=>∃o,h.get? a=À o
 |.xd fs=>∃mA,h.Ns1 a mA/\∀f,RelO (fs.lookup f) (mA f)
 |.rng lo hi=>∃t u v,h.get? a=À { cls:=.type "range",data:=.fields #[.int lo t,.int hi u,.int 1 v] }
 |.frz o u=>h.get? a=À o/\ObjOk H h a u
 |.tbl ps=>h.get? a=À { cls:=.none,data:=.fields ps }
 |.met f x=>h.get? a=À (W? (.ref f) (.ref x))
 |.ext φ=>φ h/\(∃o,h.get? a=À o)/\∀h1 h2:è,φ h1->(∀o,h1.get? a=À o->h2.get? a=À o)->φ h2
def HOk(H:Hp)(h:è):Prop:=∀a o,H a=À o->ObjOk P w H h a o
end
section
variable{P:Ò}{w:Û}{H H':Hp}{h h':è}{a:Ç}{o:HO}
theorem ObjOk.lt(x:ObjOk P w H h a o):a<h.objs.size:=by
 cases o with
 |lst xs=>obtain⟨_,_,_,_,e⟩:=x;exact yJ e
 |tup xs=>obtain⟨_,_,_,p⟩:=x;exact p.lt
 |dK Oi=>obtain⟨_,_,_,_,o,_,_,e,_⟩:=x;exact yJ e
 |dT Oi=>obtain⟨_,_,_,_,o,_,_,e,_⟩:=x;exact yJ e
 |set S n=>obtain⟨o,_,_,_,e,_⟩:=x;exact yJ e
 |ins C dx fs=>obtain⟨_,_,_,e,_⟩:=x;exact yJ e
 |own y=>obtain⟨_,e⟩:=x;exact yJ e
 |xd fs=>obtain⟨_,⟨_,_,_,e,_⟩,_⟩:=x;exact yJ e
 |rng lo hi=>obtain⟨_,_,_,e⟩:=x;exact yJ e
 |frz ob u=>obtain⟨e,_⟩:=x;exact yJ e
 | tbl ps=>exact yJ (show h.get? a=À _ from x)
 | met f y=>exact yJ (show h.get? a=À _ from x)
 |ext φ=>obtain⟨_,⟨_,e⟩,_⟩:=x;exact yJ e
theorem Paired.mapP{α c:Type}{F G:α->c->Prop}:∀{l₁:List α}{l₂:List c},O6 F l₁ l₂->(∀a b,F a b->G a b)->O6 G l₁ l₂:=by
 intro l₁ l₂ h f
 induction h with
 |nil=>exact .nil
 |cons r t d=>exact .cons (f _ _ r) d
theorem ObjOk.stay(x:ObjOk P w H h a o)(k:∀b u,(b=a\/H b=À (.own a))->h.get? b=À u->h'.get? b=À u)
  (E:∀b,H b=À (.own a)->H' b=À (.own a)) (D:∀b xs,H b=À (.tup xs)->H' b=À (.tup xs)):ObjOk P w H' h' a o:=by
 induction o with
 |lst xs=>obtain⟨z,s,n,r,e⟩:=x;exact⟨z,s,n,r,k _ _ (.inl rfl) e⟩
 |tup xs=>obtain⟨z,s,r,g,e,c⟩:=x;exact⟨z,s,r,g,k _ _ (.inl rfl) e,c⟩
 |dK Oi=>obtain⟨z,y,B,r,g,i,j,e,c⟩:=x;exact⟨z,y,B,r,g,i,j,k _ _ (.inl rfl) e,c⟩
 |dT Oi =>
  obtain⟨z,y,xs,r,g,i,j,e,c⟩:=x;exact⟨z,y,xs,Paired.mapP r fun p q z=>⟨z.1,D _ _ z.2.1,z.2.2⟩,g,i,j,k _ _ (.inl rfl) e,c⟩
 |set S n=>obtain⟨g,i,j,t,e,c⟩:=x;exact⟨g,i,j,t,k _ _ (.inl rfl) e,c⟩
 |ins C dx fs =>
  obtain⟨d,z,ne,e,m,⟨l,i,j,F,c⟩,r⟩:=x;exact⟨E _ d,z,ne,k _ _ (.inl rfl) e,m,⟨l,i,j,k _ _ (.inr d) F,c⟩,r⟩
 |own y=>obtain⟨g,e⟩:=x;exact⟨g,k _ _ (.inl rfl) e⟩
 |xd fs=>obtain⟨m,⟨l,i,j,e,c⟩,r⟩:=x;exact⟨m,⟨l,i,j,k _ _ (.inl rfl) e,c⟩,r⟩
 |rng lo hi=>obtain⟨t,u,v,e⟩:=x;exact⟨t,u,v,k _ _ (.inl rfl) e⟩
 |frz g u ih=>obtain⟨e,q⟩:=x;exact⟨k _ _ (.inl rfl) e,ih q⟩
 |tbl ps =>
  have e:h.get? a=À { cls:=.none,data:=.fields ps }:=x;show h'.get? a=À { cls:=.none,data:=.fields ps };exact k a _ (.inl rfl) e
 |met f y =>
  have e:h.get? a=À (W? (.ref f) (.ref y)):=x;show h'.get? a=À (W? (.ref f) (.ref y));exact k a _ (.inl rfl) e
 |ext φ=>obtain⟨p,⟨o,e⟩,A⟩:=x;exact⟨A _ _ p fun o q=>k _ _ (.inl rfl) q,⟨o,k _ _ (.inl rfl) e⟩,A⟩
theorem HOk.lt(x:HOk P w H h)(e:H a=À o):a<h.objs.size:=(x a o e).lt
theorem HOk.fresh(x:HOk P w H h)(e:h.objs.size<=a):H a=Á:=by
 cases q:H a with
 |none=>rfl
 |some u=>exact absurd (zJ (x.lt q) e) (xB _)
theorem HOk.kept(x:HOk P w H h)(k:∀b u,h.get? b=À u->h'.get? b=À u):HOk P w H h':=fun a o e =>
 (x a o e).stay (fun b u _ q=>k b u q) (fun _ q=>q) fun _ _ q=>q
theorem HOk.laid(x:HOk P w H h)(k:∀b u,h.get? b=À u->h'.get? b=À u)(f:h.objs.size<=a)(new:ObjOk P w (ak H a o) h' a o):HOk P w (ak H a o) h':=fun b u e=>by
 have d:=x.fresh f;by_cases hb:b=a
 ·subst hb;rw[aB]at e;cases e;exact new
 ·rw[ad hb]at e
  exact(x b u e).stay (fun c v _ q=>k c v q) (fun c q=>by rw[ad (aX q d)];exact q) fun c g q=>by rw[ad (aX q d)];exact q
end
def Rd(H:Hp)(a:Ç)(u:HO):Prop:=H a=À u\/∃o,H a=À (.frz o u)
theorem Rd.ok(r:Rd H a u)(x:HOk P w H h):ObjOk P w H h a u:=by
 rcases r with r|⟨o,r⟩
 ·exact x a u r
 ·obtain⟨_,q⟩:=x a _ r
  exact q
def Aj:Option HO->Prop
 |some (.lst _)=>True
 |some (.dK _)=>True
 |some (.dT _)=>True
 |some (.set _ _)=>True
 |some (.ins _ _ _)=>True
 |some (.ext _)=>True
 |_=>False
section
variable{P:Ò}{w:Û}{H:Hp}{h h':è}{x e:Ç}{o':HO}
theorem HOk.write(ok:HOk P w H h)(i:Aj (H x))(he:e=x\/H e=À (.own x))(k:∀b u,b≠e->h.get? b=À u->h'.get? b=À u)(l:∃u,h'.get? e=À u)
  (new:ObjOk P w (ak H x o') h' x o'):HOk P w (ak H x o') h':=fun b u q=>by
 have d:∀c y,H c=À (.own y)->c≠x:=fun c y r z=>by subst z;rw[r]at i;exact i
 have f:∀c g,H c=À (.tup g)->c≠x:=fun c g r z=>by subst z;rw[r]at i;exact i
 by_cases hb:b=x
 ·subst hb;rw[aB]at q;cases q;exact new
 ·rw[ad hb]at q
  by_cases a:b=e
  ·have m:H b=À (.own x):=by
    rcases he with z|z
    ·exact absurd (a.trans z) hb
    ·rw[a];exact z
   rw[q]at m;cases m;obtain⟨v,n⟩:=l;exact⟨v,by rw[a];exact n⟩
  ·refine(ok b u q).stay (fun c v j r=>k c v ?_ r) (fun c r=>by rw[ad (d c b r)];exact r) fun c g r=>by rw[ad (f c g r)];exact r
   rcases j with rfl|j
   ·exact a
   ·rintro rfl
    rcases he with z|z
    ·exact d c b j z
    ·rw[j]at z;cases z;exact hb rfl
end
structure Un(fs ex:List Ç)(H H':Hp)(h h':è):Prop where
 keep:∀b o,h.get? b=À o->H b=Á->b∉fs->b∉ex->h'.get? b=À o
 slot:∀b o,h.get? b=À o->H b=Á->b∈fs->b∉ex->∃sl,h'.get? b=À { o with slots:=sl }
 free:∀b o,h.get? b=À o->H b=Á->b∉ex->H' b=Á
 there:∀b o,h.get? b=À o->b∉ex->∃o',h'.get? b=À o'
 tups:∀b xs,H b=À (.tup xs)->H' b=À (.tup xs)
 frzs:∀b o u,H b=À (.frz o u)->H' b=À (.frz o u)
 tbls:∀b ps,H b=À (.tbl ps)->∃more,H' b=À (.tbl (ps++more))
section
variable{fs fs' ex ex':List Ç}{H H1 H2:Hp}{h h1 h2 h':è}{a x e:Ç}{o:HO}
theorem Un.any(u:Un fs ex H H1 h h1){b:Ç}{a:W4}(q:h.get? b=À a)(n:H b=Á)(c:b∉ex):∃sl,h1.get? b=À { a with slots:=sl }:=by
 by_cases hb:b∈fs
 ·exact u.slot b a q n hb c
 ·exact⟨a.slots,u.keep b a q n hb c⟩
theorem Un.kept(k:∀b u,h.get? b=À u->h'.get? b=À u):Un fs ex H H h h' :=
 ⟨fun b a q _ _ _=>k b a q,fun b a q _ _ _=>⟨a.slots,k b a q⟩,fun _ _ _ n _=>n,fun b a q _=>⟨a,k b a q⟩,fun _ _ q=>q,fun _ _ _ q=>q,fun _ c q=>⟨#[],by rw[q];simp⟩⟩
theorem Un.refl:Un fs ex H H h h:=Un.kept fun _ _ q=>q
theorem Un.laid(k:∀b u,h.get? b=À u->h'.get? b=À u)(e:h.objs.size<=a)(c:H a=Á):Un fs ex H (ak H a o) h h' where
 keep:=fun b u q _ _ _=>k b u q
 slot:=fun b u q _ _ _=>⟨u.slots,k b u q⟩
 free:=fun b u q n _=>by rw[ad (zU (zJ (yJ q) e))];exact n
 there:=fun b u q _=>⟨u,k b u q⟩
 tups:=fun b d q=>by rw[ad (aX q c)];exact q
 frzs:=fun b u d q=>by rw[ad (aX q c)];exact q
 tbls:=fun b f q=>⟨#[],by rw[ad (aX q c),q];simp⟩
theorem Un.write(c:Aj (H x))(he:e=x\/H e=À (.own x))(k:∀b u,b≠e->h.get? b=À u->h'.get? b=À u)(f:∃u,h'.get? e=À u):Un fs ex H (ak H x o) h h':=by
 have g:∀b,H b=Á->b≠x:=fun b n z=>by subst z;rw[n]at c;exact c
 have hb:∀b,H b=Á->b≠e:=fun b n z=>by
  subst z;rcases he with r|r
  ·exact g b n r
  ·rw[n]at r;cases r
 have d:∀b u,H b=À u->¬Aj (À u)->b≠x:=fun b u q nm z=>by subst z;rw[q]at c;exact nm c
 refine⟨fun b u q n _ _=>k b u (hb b n) q,fun b u q n _ _=>⟨u.slots,k b u (hb b n) q⟩,fun b u q n _=>by rw[ad (g b n)];exact n,fun b u q _=>?_,
  fun b i q=>by rw[ad (d b _ q fun z=>z)];exact q,fun b u i q=>by rw[ad (d b _ q fun z=>z)];exact q,fun b j q=>⟨#[],by rw[ad (d b _ q fun z=>z),q];simp⟩⟩
 by_cases a:b=e
 ·subst a;exact f
 ·exact⟨u,k b u a q⟩
end
def B3(h:è)(H:Hp):List Ç:=(È h.objs.size).filter fun a=>(H a).isSome
def jL(h:è)(H:Hp):è:=hideAll h (B3 h H)
theorem zb(h:è)(H:Hp):(jL h H).objs.size=h.objs.size:=hideAll_size _ _
theorem Bx(e:h.get? b=À o)(n:H b=Á):(jL h H).get? b=À o :=
 hideAll_get _ e fun a=>by
  have q:(H b).isSome=Â:=(Ŀ.mp a).2;rw[n]at q;simp at q
theorem DZ(e:(jL h H).get? b=À o):h.get? b=À o/\H b=Á:=by
 have a:h.get? b=À o:=of_hideAll (B3 h H) e;refine⟨a,?_⟩;cases q:H b with
 |none=>rfl
 |some x =>
  have c:b∈B3 h H:=Ŀ.mpr ⟨Ü.mpr (yJ a),by simp[q]⟩;have z:(jL h H).get? b=Á:=hideAll_none (B3 h H) c;rw[z]at e;cases e
structure Mod(K:ã)(mg:Ì->Option Ä)(base:è):Prop where
 kin:K.In base
 glob:base.Ns Ï mg
 blt:∃mb,base.Ns ę mb/\∀x:Ì,x≠"__name__"->mb x=à x
 nolimit:base.NoLimit
structure Cx where
 prog:Ò
 w:Û
 K:ã
 mg:Ì->Option Ä
 base:è
 A:Ď
 N:List Ì
 s₀:É
 H₀:Hp
 env:Q7
 outer:List Q7
 stack:List Q7
 ex:List Ç
 fn:Ì->Bool
 calm:Bool
 pn:List (Ç×Obj)
 xe:Ä->É->Prop
noncomputable def j3(l:List Q7):List Ç:=l.filterMap (·.frame)
abbrev Cx.fs(X:Cx):List Ç:=j3 X.outer
def Af(sc:Ğ)(x:Ì):Prop:=sc.names.lookup x=À .local\/sc.names.lookup x=À .cell\/sc.names.lookup x=À .free
def Loc(sc:Ğ)(x:Ì):Prop:=sc.names.lookup x=À .local\/sc.names.lookup x=À .cell
def Mn(env:Q7)(h:è)(m:Ì->Option Ä)(x:Ì)(u:Ä):Prop :=
 (env.kindOf x=À .local/\m x=À u)\/((env.kindOf x=À .cell\/env.kindOf x=À .free)/\∃c,env.cells.lookup x=À c/\h.IsCell c (À u))
structure Cx.Ok(X:Cx):Prop where
 mod:Mod X.K X.mg X.base
 kind:X.env.scope.kind=.function
 glob:X.env.globals=Ï
 blt:X.env.builtins=ę
 above:X.s₀.heap.objs.size<=X.env.locals
 inj:∀x y c,X.env.cells.lookup x=À c->X.env.cells.lookup y=À c->x=y
 has:∀x,(X.env.kindOf x=À .cell\/X.env.kindOf x=À .free)->∃c,X.env.cells.lookup x=À c
 cab:∀x c,X.fn x=Â->X.env.cells.lookup x=À c->X.s₀.heap.objs.size<=c
 hd:X.calm=Â->X.A.handled=Á
 frames:X.A.frames=À X.stack
 stk:X.stack=X.outer\/(X.stack=X.env::X.outer/\X.env.frame=À X.env.locals)
 exf:∀b∈X.ex,b≠X.env.locals/\∀x c,X.env.cells.lookup x=À c->c≠b
 bs:∀b o,X.base.get? b=À o->X.s₀.heap.get? b=À o/\X.H₀ b=Á
 bsz:X.base.objs.size<=X.s₀.heap.objs.size
 noex:∀b o,X.base.get? b=À o->b∉X.ex
 exfs:∀b∈X.ex,b∉X.fs
 funs:X.s₀.heap.FunFrames X.base X.outer
 frf:∀b∈X.fs,X.H₀ b=Á
structure Inv(X:Cx)(Og:List (Ç×Obj))(σ:List (Option V))(H:Hp)(s:É):Prop where
 ok:X.Ok
 os:s.os=X.s₀.os
 bare:ύ s.gens
 base:Un X.fs X.ex X.H₀ H X.s₀.heap s.heap
 loc:∃m,s.heap.Ns X.env.locals m/\∀(i:Nat)(x:Ì)(v:V),X.N[i]?=À x->σ[i]?=À (À v)->Af X.env.scope x->∃u,RelV v u/\Mn X.env s.heap m x u
 cell:∀x c,X.env.cells.lookup x=À c->∃v,s.heap.IsCell c v
 free:H X.env.locals=Á
 freeC:∀x c,X.env.cells.lookup x=À c->H c=Á
 pin:∀p∈X.pn++Og,s.heap.get? p.1=À p.2/\H p.1=Á/\p.1≠X.env.locals/\p.1∉X.fs/\∀v,p.2.data≠.cell v
 Op:HOk X.prog X.w H s.heap
 len:σ.length=X.N.length
section
variable{X:Cx}{Og:List (Ç×Obj)}{σ:List (Option V)}{H H':Hp}{s:É}{h':è}
theorem Cx.Ok.nofr(ok:X.Ok)(e:X.base.get? b=À o):b∉X.fs:=fun hb=>by
 have:=(ok.funs.mem hb).1
 rw[e]at this;cases this
theorem Inv.bs(I:Inv X Og σ H s):∀b o,X.base.get? b=À o->s.heap.get? b=À o/\H b=Á:=fun b o e =>
 ⟨I.base.keep b o (I.ok.bs b o e).1 (I.ok.bs b o e).2 (I.ok.nofr e) (I.ok.noex b o e),I.base.free b o (I.ok.bs b o e).1 (I.ok.bs b o e).2 (I.ok.noex b o e)⟩
theorem Inv.bk(I:Inv X Og σ H s):∀b o,X.base.get? b=À o->s.heap.get? b=À o:=fun b o e=>(I.bs b o e).1
theorem Inv.mod(I:Inv X Og σ H s):Mod X.K X.mg X.base:=I.ok.mod
theorem Inv.kIn(I:Inv X Og σ H s):X.K.In s.heap:=I.ok.mod.kin.keeps I.bk
theorem Inv.nolimit(I:Inv X Og σ H s):s.heap.NoLimit:=I.ok.mod.nolimit.keeps I.bk
theorem Inv.lt(I:Inv X Og σ H s):X.env.locals<s.heap.objs.size:=let⟨_,a,_⟩:=I.loc;a.lt
theorem Inv.sz(I:Inv X Og σ H s):X.s₀.heap.objs.size<=s.heap.objs.size:=z5 I.ok.above (yZ I.lt)
theorem Inv.nofs(I:Inv X Og σ H s)(h:s.heap.objs.size<=a):a∉X.fs:=fun hb=>by
 obtain⟨_,o,b,_⟩:=I.ok.funs.mem hb;exact absurd (zJ (yJ b) (z5 I.sz h)) (xB _)
theorem Inv.cne(I:Inv X Og σ H s):∀x c,X.env.cells.lookup x=À c->c≠X.env.locals:=fun x c e z=>by
 obtain⟨v,o,d,hd⟩:=I.cell x c e;obtain⟨m,⟨f,g,h,a,b,_⟩,_⟩:=I.loc;rw[z,a]at d;cases d;rw[b]at hd;cases hd
theorem Inv.funs(I:Inv X Og σ H s):s.heap.FunFrames X.base X.outer:=by
 have all:∀(l:List Q7),(∀b∈j3 l,b∈X.fs)->X.s₀.heap.FunFrames X.base l->s.heap.FunFrames X.base l:=by
  intro l
  induction l with
  |nil=>intro _ _;trivial
  |cons k r d =>
   intro c i;obtain⟨j,⟨L,o,a,h,g,hd⟩,f⟩:=i;have hL:L∈X.fs:=c L (by unfold j3;rw[Ŕ,a];exact z7);obtain⟨m,e⟩:=I.base.slot L o g (I.ok.frf L hL) hL fun z=>I.ok.exfs L z hL
   exact⟨j,⟨L,_,a,h,e,hd⟩,d (fun b hb=>c b (by unfold j3;rw[Ŕ,a];exact zQ _ hb)) f⟩
 exact all X.outer (fun _ hb=>hb) I.ok.funs
theorem Inv.stack(I:Inv X Og σ H s):s.heap.FunFrames X.base X.stack:=by
 rcases I.ok.stk with e|⟨e,b⟩
 ·rw[e];exact I.funs
 ·rw[e]
  obtain⟨m,a,_⟩:=I.loc;refine .cons (by rw[I.ok.kind];decide) b a ?_ I.funs;exact Heap.get?_none_of_le (z5 I.ok.bsz I.ok.above)
theorem Inv.stkSub(I:Inv X Og σ H s):∀b∈j3 X.stack,b∈X.env.locals::X.fs:=fun b hb=>by
 rcases I.ok.stk with e|⟨e,a⟩
 ·rw[e]at hb;exact zQ _ hb
 ·rw[e]at hb
  unfold j3 at hb;rw[Ŕ,a]at hb;exact hb
theorem Inv.stkFree(I:Inv X Og σ H s):∀b∈j3 X.stack,H b=Á:=fun b hb=>by
 rcases zT.mp (I.stkSub b hb) with e|hb
 ·rw[e];exact I.free
 ·obtain⟨_,o,a,_⟩:=I.ok.funs.mem hb
  exact I.base.free b o a (I.ok.frf b hb) fun z=>I.ok.exfs b z hb
theorem Inv.step{g':Array GenState}{t':Nat}{d':Drawn}{ch:List Ç}(I:Inv X Og σ H s)
  (j:∀b∈ch,(b∈X.ex\/X.s₀.heap.objs.size<=b)/\b≠X.env.locals/\(∀x c,X.env.cells.lookup x=À c->c≠b)/\∀p∈X.pn++Og,p.1≠b)
  (h:∀b o,b≠X.env.locals->b∉X.fs->b∉ch->s.heap.get? b=À o->H b=Á->h'.get? b=À o)
  (A:∀b o,b≠X.env.locals->b∈X.fs->b∉ch->s.heap.get? b=À o->H b=Á->∃sl,h'.get? b=À { o with slots:=sl }) (f:∀b o,b∉ch->s.heap.get? b=À o->H b=Á->H' b=Á)
  (B:∀b o,b∉ch->s.heap.get? b=À o->∃o',h'.get? b=À o')
  (D:∀b xs,H b=À (.tup xs)->H' b=À (.tup xs)) (G:∀b o u,H b=À (.frz o u)->H' b=À (.frz o u)) (E:∀b ps,H b=À (.tbl ps)->∃more,H' b=À (.tbl (ps++more)))
  (ns:∀m,s.heap.Ns X.env.locals m->h'.Ns X.env.locals m) (U:HOk X.prog X.w H' h') (S:ύ g') :
  Inv X Og σ H' { s with heap:=h',gens:=g',drawn:=d',toks:=t' }:=by
 have F:∀b o,X.s₀.heap.get? b=À o->b≠X.env.locals:=fun b o e=>zU (zJ (yJ e) I.ok.above)
 have w:∀b o,X.s₀.heap.get? b=À o->b∉X.ex->b∉ch:=fun b o e a hb=>by
  rcases(j b hb).1 with z|z
  ·exact a z
  ·exact absurd (zJ (yJ e) z) (xB _)
 have t:∀x c,X.env.cells.lookup x=À c->∀v,s.heap.IsCell c v->h'.IsCell c v:=fun x c e v L=>by
  obtain⟨o,C,hd⟩:=L;have g:c∉ch:=fun z=>(j c z).2.2.1 x c e rfl
  by_cases O:c∈X.fs
  ·obtain⟨sl,q⟩:=A c o (I.cne x c e) O g C (I.freeC x c e)
   exact⟨_,q,hd⟩
  ·exact⟨o,h c o (I.cne x c e) O g C (I.freeC x c e),hd⟩
 refine⟨I.ok,I.os,S,⟨fun b o e n hb a=>?_,fun b o e n hb a=>?_,fun b o e n a=>?_,fun b o e a=>?_,fun b xs e=>D b xs (I.base.tups b xs e),fun b o xs e=>G b o xs (I.base.frzs b o xs e),fun b ps e=>?_⟩,?_,fun x c e=>?_,?_,fun x c e=>?_,fun p N=>?_,U,I.len⟩
 ·exact h b o (F b o e) hb (w b o e a) (I.base.keep b o e n hb a) (I.base.free b o e n a)
 ·obtain⟨sl,y⟩:=I.base.slot b o e n hb a
  obtain⟨K,J⟩:=A b _ (F b o e) hb (w b o e a) y (I.base.free b o e n a);exact⟨K,J⟩
 ·obtain⟨o',y⟩:=I.base.there b o e a
  exact f b o' (w b o e a) y (I.base.free b o e n a)
 ·obtain⟨o',y⟩:=I.base.there b o e a
  exact B b o' (w b o e a) y
 ·obtain⟨P,y⟩:=I.base.tbls b ps e
  obtain⟨m2,J⟩:=E b _ y;exact⟨P++m2,by rw[J,Array.append_assoc]⟩
 ·obtain⟨m,Q,R⟩:=I.loc
  refine⟨m,ns m Q,fun i x v y J T=>?_⟩;obtain⟨u,r,l⟩:=R i x v y J T;refine⟨u,r,?_⟩;rcases l with l|⟨k,c,e,z⟩
  ·exact .inl l
  ·exact .inr ⟨k,c,e,t x c e _ z⟩
 ·obtain⟨v,z⟩:=I.cell x c e
  exact⟨v,t x c e v z⟩
 ·obtain⟨m,⟨o,_,_,C,_⟩,_⟩:=I.loc
  exact f _ o (fun z=>(j _ z).2.1 rfl) C I.free
 ·obtain⟨v,o,C,hd⟩:=I.cell x c e
  exact f c o (fun z=>(j c z).2.2.1 x c e rfl) C (I.freeC x c e)
 ·obtain⟨e,n,ne,M,d⟩:=I.pin p N
  have g:p.1∉ch:=fun z=>(j p.1 z).2.2.2 p N rfl
  exact⟨h p.1 p.2 ne M g e n,f p.1 p.2 g e n,ne,M,d⟩
theorem Inv.un{t':Nat}(I:Inv X Og σ H s)(u:Un X.fs [] H H' s.heap h')(i:HOk X.prog X.w H' h'):Inv X Og σ H' { s with heap:=h',toks:=t' }:=by
 obtain⟨m,⟨o,p,q,f,r⟩,_⟩:=id I.loc;obtain⟨j,hL⟩:=u.any f I.free (by simp);exact I.step (g':=s.gens) (d':=s.drawn) (ch:=[]) (fun _ z=>nomatch z) (fun b o _ hb _ e n=>u.keep b o e n hb (by simp)) (fun b o _ hb _ e n=>u.slot b o e n hb (by simp)) (fun b o _ e n=>u.free b o e n (by simp)) (fun b o _ e=>u.there b o e (by simp)) u.tups u.frzs u.tbls (fun l h=>by
  obtain⟨k,c,d,a,g⟩:=h;rw[f]at a;cases a;exact⟨_,c,d,hL,g⟩) i I.bare
theorem Inv.call{g':Array GenState}{t':Nat}{d':Drawn}{ch:List Ç}(I:Inv X Og σ H s)(u:Un (j3 X.stack) ch H H' s.heap h')(q:HOk X.prog X.w H' h')(l:ύ g')
  (f:∀b∈ch,(b∈X.ex\/X.s₀.heap.objs.size<=b)/\b≠X.env.locals/\(∀x c,X.env.cells.lookup x=À c->c≠b)/\∀p∈X.pn++Og,p.1≠b) :
  Inv X Og σ H' { s with heap:=h',gens:=g',drawn:=d',toks:=t' }:=by
 obtain⟨m,⟨o,y,A,i,r⟩,_⟩:=id I.loc;obtain⟨t,hL⟩:=u.any i I.free fun z=>(f _ z).2.1 rfl
 exact I.step (ch:=ch) f (fun b o hL hb a e n=>u.keep b o e n (fun z=>(zT.mp (I.stkSub b z)).elim hL hb) a) (fun b o _ _ a e n=>u.any e n a) (fun b o a e n=>u.free b o e n a) (fun b o a e=>u.there b o e a) u.tups u.frzs u.tbls (fun w k=>by
  obtain⟨v,g,h,d,j⟩:=k;rw[i]at d;cases d;exact⟨_,g,h,hL,j⟩) q l
theorem Inv.turned{t':Nat}{it:Ç}(I:Inv X Og σ H s)(k:∀b o,b≠it->s.heap.get? b=À o->h'.get? b=À o)(g:H it=Á)(hL:it≠X.env.locals)
  (l:it∈X.ex\/X.s₀.heap.objs.size<=it) (j:∀x c,X.env.cells.lookup x=À c->c≠it) (i:∀p∈X.pn++Og,p.1≠it):Inv X Og σ H { s with heap:=h',toks:=t' }:=by
 have d:∀b u,H b=À u->b≠it:=fun b u e z=>by rw[z,g]at e;cases e
 refine I.step (g':=s.gens) (d':=s.drawn) (ch:=[it]) (fun b hb=>?_) (fun b o _ _ a e _=>k b o (fun z=>a (by simp[z])) e) (fun b o _ _ a e _=>⟨o.slots,k b o (fun z=>a (by simp[z])) e⟩) (fun _ _ _ _ n=>n)
  (fun b o a e=>⟨o,k b o (fun z=>a (by simp[z])) e⟩) (fun _ _ e=>e) (fun _ _ _ e=>e) (fun b y e=>⟨#[],by rw[e];simp⟩) (fun m h=>?_) (fun b u e=>?_) I.bare
 ·have e:b=it:=by simpa using hb
  subst e;exact⟨l,hL,j,i⟩
 ·obtain⟨o,t,w,f,r⟩:=h
  exact⟨o,t,w,k _ o (ç hL) f,r⟩
 ·refine(I.Op b u e).stay (fun c v a q=>k c v ?_ q) (fun _ q=>q) fun _ _ q=>q
  rcases a with z|z
  ·rw[z];exact d b u e
  ·exact d c _ z
theorem Inv.tok(I:Inv X Og σ H s)(t:Nat):Inv X Og σ H { s with toks:=t }:=I.un (h':=s.heap) (t':=t) Un.refl I.Op
theorem Inv.kept{t':Nat}(I:Inv X Og σ H s)(k:∀b u,s.heap.get? b=À u->h'.get? b=À u):Inv X Og σ H { s with heap:=h',toks:=t' }:=I.un (Un.kept k) (I.Op.kept k)
theorem Inv.laid{t':Nat}(I:Inv X Og σ H s)(k:∀b u,s.heap.get? b=À u->h'.get? b=À u)(c:s.heap.objs.size<=a)(new:ObjOk X.prog X.w (ak H a o) h' a o) :
  Inv X Og σ (ak H a o) { s with heap:=h',toks:=t' }:=I.un (Un.laid k c (I.Op.fresh c)) (I.Op.laid k c new)
theorem Inv.write{t':Nat}(I:Inv X Og σ H s)(c:Aj (H x))(he:e=x\/H e=À (.own x))(k:∀b u,b≠e->s.heap.get? b=À u->h'.get? b=À u)(a:∃u,h'.get? e=À u)
  (new:ObjOk X.prog X.w (ak H x o) h' x o):Inv X Og σ (ak H x o) { s with heap:=h',toks:=t' }:=I.un (Un.write c he k a) (I.Op.write c he k a new)
theorem Inv.pins_of(I:Inv X Og σ H s)(h:∀p∈pins',s.heap.get? p.1=À p.2/\H p.1=Á/\p.1≠X.env.locals/\p.1∉X.fs/\∀v,p.2.data≠.cell v):Inv X pins' σ H s :=
 ⟨I.ok,I.os,I.bare,I.base,I.loc,I.cell,I.free,I.freeC,fun p a=>(zZ.mp a).elim (fun z=>I.pin p (zL _ z)) (h p),I.Op,I.len⟩
theorem sH{N:List Ì}(hN:N.Nodup){i j:Nat}{x:Ì}(a:N[i]?=À x)(b:N[j]?=À x):i=j:=by
 obtain⟨f,d⟩:=zB.mp a;obtain⟨e,c⟩:=zB.mp b;exact(ū hN).mp (d.trans c.symm)
theorem qz{M:Model}{A:Ď}{E:Ä->É->Prop}{i:Nat}{x:Ì}{v:V}{u:Ä}{Q:Unit->É->Prop}(I:Inv X Og σ H s)(hN:X.N.Nodup)(O:X.N[i]?=À x)(w:Loc X.env.scope x)(r:RelV v u)
  (h:∀s',Inv X Og (σ.set i (À v)) H s'->(∃a,ĭ a s.heap s'.heap/\(a=X.env.locals\/X.env.cells.lookup x=À a))->Q () s') (hf:X.fn x=Â\/X.env.scope.names.lookup x=À .local:=by first|exact .inl rfl|exact .inr rfl|assumption):Í M A (storeName X.env x u) Q E s:=by
 obtain⟨m,hn,hl⟩:=id I.loc;have P:(X.env.scope.kind==.class||(X.env.scope.kind==.module&&X.env.locals !=X.env.globals))=Ã:=by rw[I.ok.kind];rfl
 have F:i<σ.length:=by rw[I.len];exact(zB.mp O).1
 have cne:=I.cne;have g:∀{a:Ç}{K:è},(∃o,s.heap.get? a=À o/\H a=Á)->ĭ a s.heap K->HOk X.prog X.w H K:=fun {a K} ha f b ob e=>by
  obtain⟨_,_,B⟩:=ha;refine(I.Op b ob e).stay (fun c T t q=>(f.2 c ?_).trans q) (fun _ q=>q) fun _ _ q=>q
  rintro rfl;rcases t with rfl|t
  ·rw[B]at e;cases e
  ·rw[B]at t;cases t
 rcases w with D|D
 ·refine wpAny_storeName_local D hn (fun K hn' f=>?_) P
  obtain⟨oL,_,_,hoL,_⟩:=id hn;refine h _ ⟨I.ok,I.os,I.bare,⟨fun b o e n hb w=>?_,fun b o e n hb w=>?_,I.base.free,fun b o e w=>?_,I.base.tups,I.base.frzs,I.base.tbls⟩,⟨_,hn',fun j y W l C e3=>?_⟩,fun y c e=>?_,I.free,I.freeC,fun p hp=>?_,g ⟨oL,hoL,I.free⟩ f,by simpa using I.len⟩ ⟨_,f,.inl rfl⟩
  ·exact(f.2 b (zU (zJ (yJ e) I.ok.above))).trans (I.base.keep b o e n hb w)
  ·obtain⟨Z,l⟩:=I.base.slot b o e n hb w
   exact⟨Z,(f.2 b (zU (zJ (yJ e) I.ok.above))).trans l⟩
  ·obtain⟨o',l⟩:=I.base.there b o e w
   exact⟨o',(f.2 b (zU (zJ (yJ e) I.ok.above))).trans l⟩
  ·by_cases G:j=i
   ·subst G
    rw[O]at l;cases l;rw[õ F]at C;cases C;exact⟨u,r,.inl ⟨D,by simp⟩⟩
   ·rw[ï (ç G)]at C
    obtain⟨Y,r',q⟩:=hl j y W l C e3;refine⟨Y,r',?_⟩;rcases q with⟨k,e⟩|⟨k,c,e,z⟩
    ·refine .inl ⟨k,?_⟩
     have:y≠x:=fun e=>G (sH hN l (e▸O))
     simp[this,e]
    ·exact .inr ⟨k,c,e,z.sameBut f (cne y c e)⟩
  ·obtain⟨T,z⟩:=I.cell y c e
   exact⟨T,z.sameBut f (cne y c e)⟩
  ·obtain⟨e,n,ne,nf,d⟩:=I.pin p hp
   exact⟨(f.2 p.1 ne).trans e,n,ne,nf,d⟩
 ·have J:X.fn x=Â:=by
   rcases hf with z|z
   ·exact z
   ·rw[z]at D;cases D
  obtain⟨c,t⟩:=I.ok.has x (.inl D);obtain⟨T,z⟩:=I.cell x c t;refine wpAny_storeName_cell I.ok.kind D t z (fun K S f=>?_);obtain⟨oc,N,L⟩:=id z;refine h { s with heap:=K } ⟨I.ok,I.os,I.bare,⟨fun b o e n hb w=>?_,fun b o e n hb w=>?_,I.base.free,fun b o e w=>?_,I.base.tups,I.base.frzs,I.base.tbls⟩,⟨m,hn.sameBut f (ç (cne x c t)),fun j y W l C e3=>?_⟩,fun y U e=>?_,I.free,I.freeC,fun p hp=>?_,g ⟨oc,N,I.freeC x c t⟩ f,by simpa using I.len⟩ ⟨c,f,.inr t⟩
  ·exact(f.2 b (zU (zJ (yJ e) (I.ok.cab x c J t)))).trans (I.base.keep b o e n hb w)
  ·obtain⟨Z,l⟩:=I.base.slot b o e n hb w
   exact⟨Z,(f.2 b (zU (zJ (yJ e) (I.ok.cab x c J t)))).trans l⟩
  ·obtain⟨o',l⟩:=I.base.there b o e w
   exact⟨o',(f.2 b (zU (zJ (yJ e) (I.ok.cab x c J t)))).trans l⟩
  ·by_cases G:j=i
   ·subst G
    rw[O]at l;cases l;rw[õ F]at C;cases C;exact⟨u,r,.inr ⟨.inl D,c,t,S⟩⟩
   ·rw[ï (ç G)]at C
    obtain⟨Y,r',q⟩:=hl j y W l C e3;refine⟨Y,r',?_⟩;rcases q with q|⟨k,U,e,z'⟩
    ·exact .inl q
    ·refine .inr ⟨k,U,e,z'.sameBut f ?_⟩
     rintro rfl;exact G (sH hN l (I.ok.inj _ _ _ e t▸O))
  ·by_cases R:U=c
   ·subst R;exact⟨_,S⟩
   ·obtain⟨w2,z2⟩:=I.cell y U e
    exact⟨w2,z2.sameBut f R⟩
  ·obtain⟨e,n,ne,nf,d⟩:=I.pin p hp
   refine⟨(f.2 p.1 ?_).trans e,n,ne,nf,d⟩;intro q;rw[q,N]at e;have q':oc=p.2:=yE e;exact d T (by rw[<- q'];exact L)
theorem sn{i:Nat}(I:Inv X Og σ H s)(hN:X.N.Nodup)(b:X.N[i]?=À x)(a:Loc X.env.scope x)(r:RelV v u)
  (h:∀s',Inv X Og (σ.set i (À v)) H s'->Q () s') (c:X.fn x=Â\/X.env.scope.names.lookup x=À .local:=by first|exact .inl rfl|exact .inr rfl|assumption):Í M A (storeName X.env x u) Q E s :=
 qz I hN b a r (fun s' d _=>h s' d) c
theorem Inv.call'(I:Inv X Og σ H s)(f:s'.os=s.os)(u:Un (j3 X.stack) ch H H' s.heap s'.heap)(h:HOk X.prog X.w H' s'.heap)(g:ύ s'.gens)
  (a:∀b∈ch,(b∈X.ex\/X.s₀.heap.objs.size<=b)/\b≠X.env.locals/\(∀x c,X.env.cells.lookup x=À c->c≠b)/\∀p∈X.pn++Og,p.1≠b):Inv X Og σ H' s':=by
 obtain⟨i,g',d',t',d⟩:=s';have e:d=s.os:=f;subst e;exact I.call (g':=g') (t':=t') (d':=d') u h g a
end
abbrev XK:=Ä->Option Ç->Hp->Prop
abbrev St:=List (Option V)
abbrev VK:=V->Hp->Prop
abbrev TE:=St->Hp->VK->Prop
abbrev TT:=St->Hp->(Bool->Hp->Prop)->Prop
abbrev TA:=St->Hp->(List V->Hp->Prop)->Prop
structure kQ where
 nx:St->Hp->Prop
 rt:VK
 bk:St->Hp->Prop:=fun _ _=>False
 ct:St->Hp->Prop:=fun _ _=>False
abbrev TS:=kQ->St->Hp->Prop
def EP(X:Cx)(Og:List (Ç×Obj))(σ:St)(Q:VK)(u:Ä)(s':É):Prop:=∃v a,Inv X Og σ a s'/\RelV v u/\Q v a
def TP(X:Cx)(Og:List (Ç×Obj))(σ:St)(Q:Bool->Hp->Prop)(b:Bool)(s':É):Prop:=∃a,Inv X Og σ a s'/\Q b a
def AP(X:Cx)(Og:List (Ç×Obj))(σ:St)(Q:List V->Hp->Prop)(us:List Ä)(s':É):Prop:=∃a b,Inv X Og σ b s'/\Vals a us/\Q a b
def SP(X:Cx)(Og:List (Ç×Obj))(D:kQ)(f:Flow)(s':É):Prop :=
 match f with
 |.next=>∃a b,Inv X Og a b s'/\D.nx a b
 |.brk=>∃a b,Inv X Og a b s'/\D.bk a b
 |.cont=>∃a b,Inv X Og a b s'/\D.ct a b
 |.ret u=>∃v a b,Inv X Og a b s'/\RelV v u/\D.rt v b
def PE(X:Cx)(e:Î)(t:TE):Prop :=
 ∀(b:List (Ç×Obj))(s:É)(a:St)(H:Hp)(Q:VK),Inv X b a H s->t a H Q->Í (model X.prog X.w) X.A (eval e X.env) (EP X b a Q) X.xe s
def PT(X:Cx)(e:Î)(t:TT):Prop :=
 ∀(b:List (Ç×Obj))(s:É)(a:St)(H:Hp)(Q:Bool->Hp->Prop),Inv X b a H s->t a H Q->Í (model X.prog X.w) X.A (v! e X.env (eval e X.env)) (TP X b a Q) X.xe s
def PW(X:Cx)(e:Î)(t:TT):Prop :=
 ∀(a:W1 Ä)(c:List (Ç×Obj))(s:É)(b:St)(H:Hp)(Q:Bool->Hp->Prop),Inv X c b H s->t b H Q->Í (model X.prog X.w) X.A (v! e X.env a) (TP X c b Q) X.xe s
theorem PW.pt(h:PW X e t):PT X e t:=h _
def PA(X:Cx)(es:List Î)(t:TA):Prop :=
 ∀(b:ģ)(c:List (Ç×Obj))(s:É)(a:St)(H:Hp)(Q:List V->Hp->Prop),Inv X c a H s->t a H Q->Í (model X.prog X.w) X.A (spliced (ý b (Ê es X.env))) (AP X c a Q) X.xe s
def PS(X:Cx)(st:Ľ)(t:TS):Prop :=
 ∀(b:List (Ç×Obj))(s:É)(a:St)(H:Hp)(D:kQ),Inv X b a H s->t D a H->Í (model X.prog X.w) X.A (exec st X.env) (SP X b D) X.xe s
def PSs(X:Cx)(st:List Ľ)(t:TS):Prop :=
 ∀(b:List (Ç×Obj))(s:É)(a:St)(H:Hp)(D:kQ),Inv X b a H s->t D a H->Í (model X.prog X.w) X.A (execs st X.env) (SP X b D) X.xe s
theorem aF{α:Type}{t:W1 α}{Q Q':α->É->Prop}(h:Í M A t Q E s)(b:∀a s,Q a s->Q' a s):Í M A t Q' E s:=yT h b fun _ _ x=>x
section
variable{X:Cx}
theorem bin{a b:Î}{e d:TE}(l:PE X a e)(hb:PE X b d){Og:List (Ç×Obj)}{s:É}{σ:St}{H:Hp}{R:V->V->Hp->Prop}(I:Inv X Og σ H s)(h:e σ H fun x H1=>d σ H1 fun y H2=>R x y H2)
  {α:Type}{Q:α->É->Prop}{f:Ä->Ä->W1 α}
  (k:∀v u s2 x y H2,Inv X Og σ H2 s2->RelV x v->RelV y u->R x y H2->Í (model X.prog X.w) X.A (f v u) Q X.xe s2) :
  Í (model X.prog X.w) X.A (eval a X.env) (fun v s₁=>Í (model X.prog X.w) X.A (eval b X.env) (fun u s₂=>Í (model X.prog X.w) X.A (f v u) Q X.xe s₂) X.xe s₁) X.xe s:=by
 refine aF (l Og s σ H _ I h) fun v g c=>?_
 obtain⟨x,H1,n,r1,j⟩:=c;refine aF (hb Og g σ H1 _ n j) fun u s2 c=>?_
 obtain⟨y,H2,m,r2,i⟩:=c;exact k v u s2 x y H2 m r1 r2 i
noncomputable def Lr(i:Nat):TE:=fun a H Q=>∃v,a[i]?=À (À v)/\Q v H
noncomputable def tC(v:V):TE:=fun _ H Q=>Q v H
theorem Gf{i:Nat}(hN:X.N[i]?=À x)(j:Af X.env.scope x)(hd:(x==("__debug__":Ì))=Ã:=by decide)(d:(x==("__classdict__":Ì))=Ã:=by decide):PE X (.Name x pos) (Lr i):=by
 intro p s g H Q I h;obtain⟨v,e,h⟩:=h;obtain⟨m,k,o⟩:=I.loc;obtain⟨u,r,l⟩:=o i x v hN e j;have ay:EP X p g Q u s:=⟨v,H,I,r,h⟩;rcases l with⟨b,n⟩|⟨b,c,f,a⟩
 ·exact T1 (wpAny_loadName_local I.ok.kind b k n ay) hd
 ·rcases b with b|b
  ·exact T1 (wpAny_loadName_cell I.ok.kind b f a ay) hd
  ·exact T1 (wpAny_loadName_free I.ok.kind b f a ay d) hd
theorem Gn{i j pos}:PE X (.Constant (.int i) j pos) (tC (.int i)):=fun _ _ _ H _ I h=>wpAny_Constant_int ⟨.int i,H,I.tok _,⟨_,rfl⟩,h⟩
theorem Jd{b j pos}:PE X (.Constant (.bool b) j pos) (tC (.bl b)):=fun _ _ _ H _ I h=>Constant_bool ⟨.bl b,H,I,rfl,h⟩
theorem Gk{j pos}:PE X (.Constant .none j pos) (tC .non):=fun _ _ _ H _ I h=>I! ⟨.non,H,I,rfl,h⟩
theorem Gh{x j pos}:PE X (.Constant (.str x) j pos) (tC (.str x)):=fun _ _ _ H _ I h=>Calls.Constant_str ⟨.str x,H,I.tok _,⟨_,rfl⟩,h⟩
def Gl(X:Cx)(x:Ì):Prop:=X.env.kindOf x=À .globalImplicit
theorem mB(I:Inv X Og σ H s)(b:Gl X x)(a:X.mg x=À u)(h:Q u s)
  (hd:(x==("__debug__":Ì))=Ã:=by decide):Í (model X.prog X.w) X.A (eval (.Name x pos) X.env) Q E s :=
 Calls.Name_function_global I.ok.kind b (Calls.loadGlobal_global (by rw[I.ok.glob];exact I.mod.glob.keeps I.bk) a h) hd
theorem dS(I:Inv X Og σ H s)(d:Gl X x)(c:X.mg x=Á)(a:à x=À u)(h:Q u s)
  (b:x≠"__name__":=by decide) (hd:(x==("__debug__":Ì))=Ã:=by decide):Í (model X.prog X.w) X.A (eval (.Name x pos) X.env) Q E s:=by
 obtain⟨g,f,e⟩:=I.mod.blt;exact Calls.Name_function_global I.ok.kind d (Calls.loadGlobal_builtin (by rw[I.ok.glob];exact I.mod.glob.keeps I.bk) c (by rw[I.ok.blt];exact f.keeps I.bk) ((e x b).trans a) h) hd
theorem DV(b:Gl X x)(a:X.mg x=À u)(r:RelV v u)(hd:(x==("__debug__":Ì))=Ã:=by decide):PE X (.Name x pos) (tC v) :=
 fun _ _ _ H _ I h=>mB I b a ⟨v,H,I,r,h⟩ hd
variable{a b:Î}{ta tb:TE}{pos:ģ}
theorem RelV.none_iff(r:RelV x v):(v==ŭ)=decide (x=.non):=by
 cases x with
 |non=>cases r;rfl
 |bl _=>cases r;rfl
 |int _=>obtain⟨t,rfl⟩:=r;rfl
 |str _=>obtain⟨t,rfl⟩:=r;rfl
 |byt _=>obtain⟨t,rfl⟩:=r;rfl
 |flt _=>obtain⟨t,rfl⟩:=r;rfl
 |ref _=>cases r;rfl
 |ty _=>cases r;rfl
variable{tA tB':TT}{rest:List Î}
noncomputable def LF(t u:TT):TT:=fun a H Q=>t a H fun c b=>if c=Â then u a b Q else Q Ã b
noncomputable def MJ(t u:TT):TT:=fun a H Q=>t a H fun c b=>if c=Â then Q Â b else u a b Q
noncomputable def Ly(t:TT):TT:=fun a H Q=>t a H fun c b=>Q (!c) b
theorem DB(d:PT X a tA):PW X (.BoolOp .And [a] pos) tA:=by
 intro g f s b H Q I h;refine isTrue_and (aF (d f s b H Q I h) fun c i e=>?_);cases c with
 |true=>exact isTrue_and_nil e
 |false=>exact e
theorem F1(d:PT X a tA):PW X (.BoolOp .Or [a] pos) tA:=by
 intro g f s b H Q I h;refine isTrue_or (aF (d f s b H Q I h) fun c i e=>?_);cases c with
 |false=>exact isTrue_or_nil e
 |true=>exact e
theorem F2(m:PT X a tA)(hb:PW X (.BoolOp .And (b::rest) pos) tB'):PW X (.BoolOp .And (a::b::rest) pos) (LF tA tB'):=by
 intro k g s e H Q I h;refine isTrue_and (aF (m g s e H _ I h) fun c l d=>?_);obtain⟨j,i,f⟩:=d;cases c with
 |true=>exact hb k g l e j Q i f
 |false=>exact⟨j,i,f⟩
theorem IU(m:PT X a tA)(hb:PW X (.BoolOp .Or (b::rest) pos) tB'):PW X (.BoolOp .Or (a::b::rest) pos) (MJ tA tB'):=by
 intro k g s e H Q I h;refine isTrue_or (aF (m g s e H _ I h) fun c l d=>?_);obtain⟨j,i,f⟩:=d;cases c with
 |true=>exact⟨j,i,f⟩
 |false=>exact hb k g l e j Q i f
theorem F3(d:PT X a tA):PT X (.UnaryOp .Not a pos) (Ly tA):=by
 intro e s b H Q I h;exact isTrue_not (d e s b H (fun c f=>Q (!c) f) I h)
noncomputable def Iz(e d:TE):TE:=fun a H Q=>e a H fun x b=>∃c,x=.bl c/\if c=Â then d a b Q else Q (.bl Ã) b
noncomputable def Lx(e d:TE):TE:=fun a H Q=>e a H fun x b=>∃c,x=.bl c/\if c=Â then Q (.bl Â) b else d a b Q
noncomputable def Iq(b:TE):TE:=fun a H Q=>b a H fun x d=>∃c,x=.bl c/\Q (.bl (!c)) d
theorem Gi{c}(h:PE X a t):PE X (.BoolOp c [a] pos) t:=fun e s b H Q I d=>BoolOp_one (h e s b H Q I d)
theorem Gq(l:PE X a ta)(hb:PE X (.BoolOp .And (b::rest) pos) tb):PE X (.BoolOp .And (a::b::rest) pos) (Iz ta tb):=by
 intro g s f H Q I h;refine BoolOp_and (aF (l g s f H _ I h) fun v k e=>?_);obtain⟨x,j,i,r1,d⟩:=e;obtain⟨c,rfl,d⟩:=d;cases r1;refine ą ?_;cases c with
 |true=>exact hb g k f j Q i d
 |false=>exact⟨.bl Ã,j,i,rfl,d⟩
theorem IZ(l:PE X a ta)(hb:PE X (.BoolOp .Or (b::rest) pos) tb):PE X (.BoolOp .Or (a::b::rest) pos) (Lx ta tb):=by
 intro g s f H Q I h;refine BoolOp_or (aF (l g s f H _ I h) fun v k e=>?_);obtain⟨x,j,i,r1,d⟩:=e;obtain⟨c,rfl,d⟩:=d;cases r1;refine ą ?_;cases c with
 |false=>exact hb g k f j Q i d
 |true=>exact⟨.bl Â,j,i,rfl,d⟩
theorem Gj(f:PE X a ta):PE X (.UnaryOp .Not a pos) (Iq ta):=by
 intro g s e H Q I h;refine UnaryOp_ (aF (f g s e H _ I h) fun v k d=>?_);obtain⟨x,j,i,r1,b⟩:=d;obtain⟨c,rfl,b⟩:=b;cases r1;exact not_of (ą ⟨.bl (!c),j,i,rfl,b⟩)
noncomputable def MK(t:TT)(e d:TE):TE:=fun a H Q=>t a H fun c b=>if c=Â then e a b Q else d a b Q
theorem A7(m:PT X c tA)(n:PE X a ta)(hb:PE X b tb):PE X (.IfExp c a b pos) (MK tA ta tb):=by
 intro g s e H Q I h;refine wpAny_IfExp (aF (m g s e H _ I h) fun d i f=>?_);obtain⟨l,k,j⟩:=f;cases d with
 |true=>exact n g i e l Q k j
 |false=>exact hb g i e l Q k j
end
def bR(K:ã)(H:Hp)(a:Ç)(xs:List V):Prop :=
 Rd H a (.lst xs) \/
  ∃(o:W4)(b:Array Ä)(n:Nat),K.lookup a=À o/\o.cls=.type "list"/\o.dict=Á/\o.data=.seq b n/\b.size<=Ë/\Vals xs b.toList
def iy(K:ã)(H:Hp)(a:Ç)(xs:List V):Prop :=
 Rd H a (.tup xs) \/
  ∃(o:W4)(b:Array Ä)(n:Nat),K.lookup a=À o/\o.cls=.type "tuple"/\o.data=.seq b n/\b.size<=Ë/\Vals xs b.toList
noncomputable def Mj:Ä->Option V
 |.none=>À .non
 |.bool b=>À (.bl b)
 |.int i _=>À (.int i)
 |.str x _=>À (.str x)
 |.bytes b _=>À (.byt b)
 |.float b _=>À (.flt b)
 |.ref a=>À (.ref a)
 |.type n=>À (.ty n)
 |_=>Á
theorem RelV.abs(r:RelV x u):Mj u=À x:=by
 cases x with
 |non=>cases r;rfl
 |bl _=>cases r;rfl
 |int _=>obtain⟨t,rfl⟩:=r;rfl
 |str _=>obtain⟨t,rfl⟩:=r;rfl
 |byt _=>obtain⟨t,rfl⟩:=r;rfl
 |flt _=>obtain⟨t,rfl⟩:=r;rfl
 |ref _=>cases r;rfl
 |ty _=>cases r;rfl
theorem RelV.inj(r:RelV x u)(q:RelV y u):x=y:=yE (r.abs.symm.trans q.abs)
theorem Vals.inj{xs ys:List V}{us:List Ä}(h:Vals xs us):Vals ys us->xs=ys:=by
 induction h generalizing ys with
 |nil=>intro a;cases a;rfl
 |cons r t d =>
  intro a;cases a with
  |cons c b=>rw[r.inj c,d b]
section
variable{X:Cx}{Og:List (Ç×Obj)}{σ:St}{H:Hp}{s:É}{a:Ç}{xs ys:List V}
theorem Inv.list(I:Inv X Og σ H s)(h:bR X.K H a xs):∃Om:List Ä,Vals xs Om/\PlainL s.heap a Om.toArray/\xs.length<=Ë:=by
 rcases h with h|⟨o,Om,n,c,d,hd,b,hz,r⟩
 ·obtain⟨z,Om,n,r,e⟩:=h.ok I.Op
  exact⟨Om,r,⟨_,n,e,rfl,rfl,rfl⟩,z⟩
 ·refine⟨Om.toList,r,⟨o,n,I.kIn a o c,d,hd,by simpa using b⟩,?_⟩
  have e:=r.length;simp only[ö]at e;lia
theorem Inv.tuple(I:Inv X Og σ H s)(h:iy X.K H a xs):∃Om:List Ä,Vals xs Om/\IsTup s.heap a Om.toArray/\xs.length<=Ë:=by
 rcases h with h|⟨o,Om,n,c,d,b,hz,r⟩
 ·obtain⟨z,Om,r,p⟩:=h.ok I.Op
  exact⟨Om,r,p,z⟩
 ·refine⟨Om.toList,r,⟨o,I.kIn a o c,d,n,by simpa using b⟩,?_⟩
  have e:=r.length;simp only[ö]at e;lia
theorem Inv.list_inj(I:Inv X Og σ H s)(h:bR X.K H a xs)(h':bR X.K H a ys):xs=ys:=by
 obtain⟨i,r,⟨o,n,e,_,_,d⟩,_⟩:=I.list h;obtain⟨b,g,⟨j,k,c,_,_,f⟩,_⟩:=I.list h';rw[e]at c;cases c;rw[d]at f;injection f with d1 _;have:i=b:=by simpa using congrArg U2 d1
 subst this;exact r.inj g
theorem Inv.tuple_inj(I:Inv X Og σ H s)(h:iy X.K H a xs)(h':iy X.K H a ys):xs=ys:=by
 obtain⟨i,r,⟨o,e,_,n,d⟩,_⟩:=I.tuple h;obtain⟨b,g,⟨j,c,_,k,f⟩,_⟩:=I.tuple h';rw[e]at c;cases c;rw[d]at f;injection f with d1 _;have:i=b:=by simpa using congrArg U2 d1
 subst this;exact r.inj g
end
abbrev Cx.wish(X:Cx)(E:Ä->É->Prop):Cx:={ X with xe:=E }
abbrev Cx.nox(X:Cx):Cx:=X.wish fun _ _=>False
theorem Cx.Ok.wish{X:Cx}(ok:X.Ok)(E:Ä->É->Prop):(X.wish E).Ok :=
 ⟨ok.mod,ok.kind,ok.glob,ok.blt,ok.above,ok.inj,ok.has,ok.cab,ok.hd,ok.frames,ok.stk,ok.exf,ok.bs,ok.bsz,ok.noex,ok.exfs,ok.funs,ok.frf⟩
theorem Cx.Ok.unwish{X:Cx}{E:Ä->É->Prop}(ok:(X.wish E).Ok):X.Ok :=
 ⟨ok.mod,ok.kind,ok.glob,ok.blt,ok.above,ok.inj,ok.has,ok.cab,ok.hd,ok.frames,ok.stk,ok.exf,ok.bs,ok.bsz,ok.noex,ok.exfs,ok.funs,ok.frf⟩
section
variable{X:Cx}{Og:List (Ç×Obj)}{σ:St}{H:Hp}{s:É}{E:Ä->É->Prop}
theorem Inv.wish(I:Inv X Og σ H s)(E:Ä->É->Prop):Inv (X.wish E) Og σ H s:=⟨I.ok.wish E,I.os,I.bare,I.base,I.loc,I.cell,I.free,I.freeC,I.pin,I.Op,I.len⟩
theorem Inv.unwish(I:Inv (X.wish E) Og σ H s):Inv X Og σ H s:=⟨I.ok.unwish,I.os,I.bare,I.base,I.loc,I.cell,I.free,I.freeC,I.pin,I.Op,I.len⟩
theorem SP.unwish(h:SP (X.wish E) Og D f s'):SP X Og D f s':=by
 cases f with
 |next=>obtain⟨a,b,I,q⟩:=h;exact⟨a,b,I.unwish,q⟩
 |brk=>obtain⟨a,b,I,q⟩:=h;exact⟨a,b,I.unwish,q⟩
 |cont=>obtain⟨a,b,I,q⟩:=h;exact⟨a,b,I.unwish,q⟩
 |ret u=>obtain⟨v,a,b,I,r,q⟩:=h;exact⟨v,a,b,I.unwish,r,q⟩
theorem PSs.nox{st:List Ľ}{t:TS}(h:PSs X.nox st t):PSs X st t:=fun c s a H D I b =>
 yT (h c s a H D (I.wish _) b) (fun _ _ q=>q.unwish) fun _ _ z=>False.elim z
end
section
variable{X:Cx}{st:Ľ}{rest:List Ľ}{t u:TS}{e:Î}{te:TE}{pos:ģ}
noncomputable def Ir:TS:=fun D a H=>D.nx a H
noncomputable def Lv(t u:TS):TS:=fun D a H=>t { D with nx:=u D } a H
theorem DF:PSs X [] Ir:=fun _ _ a H _ I h=>k! ⟨a,H,I,h⟩
theorem AT(g:PS X st t)(e:PSs X rest u):PSs X (st::rest) (Lv t u):=by
 intro b s c H D I h;refine wpAny_execs_cons (aF (g b s c H { D with nx:=u D } I h) fun f d q=>?_);cases f with
 |next =>
  obtain⟨a,j,i,q⟩:=q;exact e b d a j D i q
 |ret v=>exact q
 |brk=>exact q
 |cont=>exact q
theorem Inv.quiet(I:Inv X Og σ H s):interactive X.env=Ã:=by simp[interactive,I.ok.kind]
noncomputable def Iu(te:TE):TS:=fun D a H=>te a H fun _ b=>D.nx a b
theorem DH(he:PE X e te)(c:ļ e Á pos.line X.env=pure Ã:=by rfl):PS X (.Expr e pos) (Iu te):=by
 intro d s a H D I h;exact wpAny_Expr_any (aF (he d s a H _ I h) fun v i ⟨x,g,f,r1,b⟩=>⟨a,g,f,b⟩) I.quiet c
noncomputable def Lw(te:TE):TS:=fun D a H=>te a H D.rt
theorem F5(he:PE X e te):PS X (.Return (À e) pos) (Lw te):=by
 intro c s a H D I h;exact wpAny_Return_some (aF (he c s a H _ I h) fun v g ⟨x,f,d,r1,b⟩=>⟨x,a,f,d,r1,b⟩)
noncomputable def LA(c:TT)(t u:TS):TS:=fun D a H=>c a H fun b d=>if b=Â then t D a d else u D a d
theorem IV(m:PT X c tc)(n:PSs X a t)(hb:PSs X b u):PS X (.If c a b pos) (LA tc t u):=by
 intro g s e H D I h;refine wpAny_If (aF (m g s e H _ I h) fun d i f=>?_);obtain⟨l,k,j⟩:=f;cases d with
 |true=>exact n g i e l D k j
 |false=>exact hb g i e l D k j
noncomputable def Fb:TS:=fun _ _ _=>False
theorem AW:PS X st Fb:=fun _ _ _ _ _ _ h=>h.elim
end
abbrev TG:=V->St->Hp->(St->Hp->Prop)->Prop
abbrev uk:=List V->St->Hp->(St->Hp->Prop)->Prop
def PG(X:Cx)(a:Î)(t:TG):Prop :=
 ∀(d:List (Ç×Obj))(s:É)(c:St)(H:Hp)(v:V)(u:Ä)(Q:St->Hp->Prop),Inv X d c H s->RelV v u->t v c H Q ->
  Í (model X.prog X.w) X.A (assign a X.env u) (fun _ f=>∃b e,Inv X d b e f/\Q b e) X.xe s
def qX(X:Cx)(g:List Î)(t:uk):Prop :=
 ∀(e:List (Ç×Obj))(s:É)(b:St)(H:Hp)(c:List V)(d:List Ä)(Q:St->Hp->Prop),Inv X e b H s->Vals c d->t c b H Q ->
  Í (model X.prog X.w) X.A (assignInOrder ((â g X.env).map (·.2)) d) (fun _ h=>∃a f,Inv X e a f h/\Q a f) X.xe s
abbrev BU:=V->V->V->Hp->(Hp->Prop)->Prop
def wV(X:Cx)(t:BU):Prop :=
 ∀(d:List (Ç×Obj))(s:É)(a:St)(H:Hp)(o i v:V)(b c u:Ä)(Q:Hp->Prop),Inv X d a H s->RelV o b->RelV i c->RelV v u->t o i v H Q ->
  Í (model X.prog X.w) X.A (ϛ b c u) (fun _ f=>∃e,Inv X d a e f/\Q e) X.xe s
abbrev HZ:=V->V->Hp->VK->Prop
def CO(X:Cx)(c:ğ)(t:HZ):Prop :=
 ∀(b:List (Ç×Obj))(s:É)(a:St)(H:Hp)(x y:V)(v u:Ä)(Q:VK),Inv X b a H s->RelV x v->RelV y u->t x y H Q ->
  Í (model X.prog X.w) X.A (inplaceOp c v u) (EP X b a Q) X.xe s
section
variable{X:Cx}{pos:ģ}
noncomputable def pb(i:Nat):TG:=fun v a H Q=>Q (a.set i (À v)) H
theorem DS{i:Nat}(hN:X.N.Nodup)(b:X.N[i]?=À x)(a:Loc X.env.scope x)(c:X.fn x=Â\/X.env.scope.names.lookup x=À .local:=by first|exact .inl rfl|exact .inr rfl|assumption):PG X (.Name x pos) (pb i):=by
 intro g s e H v u Q I r h;exact U3 (sn I hN b a r (fun f d=>⟨_,H,d,h⟩) c)
noncomputable def L9:uk:=fun b a H Q=>b=[]/\Q a H
noncomputable def JF(t:TG)(u:uk):uk:=fun c b H Q=>∃v r,c=v::r/\t v b H fun a d=>u r a d Q
theorem DQ:qX X [] L9:=by
 intro d s a H b c Q I r h;obtain⟨e,h⟩:=h;subst e;cases r;exact assignInOrder_nil ⟨a,H,I,h⟩
theorem AZ(l:PG X e t)(k:qX X es u)
  (j:(â (e::es) X.env).map (·.2)=assign e X.env::(â es X.env).map (·.2):=by rfl):qX X (e::es) (JF t u):=by
 intro c s d H p w Q I r h;obtain⟨v,q,m,h⟩:=h;subst m;cases r with
 |cons r g =>
  rw[j];refine assignInOrder_cons (aF (l c s d H _ _ _ I r h) fun _ f b=>?_);obtain⟨a,o,n,i⟩:=b;exact k c f a o _ _ Q n g i
noncomputable def L7(K:ã)(n:Nat)(t:uk):TG:=fun v c H Q=>∃a b,v=.ref a/\iy K H a b/\b.length=n/\t b c H Q
theorem Gb{k:Nat}{n:Nat}(x:X.calm=Â)(h:qX X es t)
  (q:(â es X.env).length=n:=by rfl) (d:(â es X.env).findIdx? (·.1)=Á:=by rfl):PG X (.Tuple es k pos) (L7 X.K n t):=by
 intro i s f H v u Q I r c;obtain⟨a,j,z,p,w,c⟩:=c;subst z;cases r;obtain⟨B,g,m,hz⟩:=I.tuple p;refine assign_Tuple_tuple (I.ok.hd x) m (by simp[q,<- w,g.length]) d fun y l=>?_
 have A:Inv X i f H { s with heap:=y }:=I.kept (t':=s.toks) fun b o e=>l b o (zU (yJ e)) e
 exact h i _ f H j _ Q A (by simpa using g) c
noncomputable def L8(to b:TE)(t:BU):TG:=fun v a H Q=>to a H fun o e=>b a e fun i d=>t o i v d fun c=>Q a c
theorem Gc(l:PE X o to)(m:PE X i ti)(k:wV X t)
  (n:∀v,assign (.Subscript o i pos) X.env v=(do
   let ov <- holding [v] (eval o X.env)
   let iv <- holding [v,ov] (eval i X.env)
   ŕ pos
   holding [v,ov,iv] (ϛ ov iv v)
   release [v,ov,iv] []):=by intro _;rfl):PG X (.Subscript o i pos) (L8 to ti t):=by
 intro c s b H v u Q I r h;rw[n];refine yF (yS (aF (l c s b H _ I h) fun ov e a=>?_));obtain⟨x,B,w,r1,j⟩:=a;refine yF (yS (aF (m c e b B _ w j) fun iv d a=>?_));obtain⟨y,A,q,r2,g⟩:=a;refine yF (Ű (yF (yS (aF (k c d b A x y v ov iv u _ q r1 r2 r g) fun _ C a=>?_))));obtain⟨z,p,f⟩:=a;exact wpAny_release ⟨b,z,p,f⟩
noncomputable def vV(te:TE)(g:TG):TS:=fun D a H=>te a H fun x b=>g x a b D.nx
theorem F7(he:PE X e te)(k:PG X tg g)(j:ϥ [tg] e pos.line X.env=pure Ã:=by rfl)(i:Ϧ [tg] e X.env=pure Á:=by rfl)
  (l:(â [tg] X.env).map (·.2)=[assign tg X.env]:=by rfl):PS X (.Assign [tg] e pos) (vV te g):=by
 intro c s b H D I h;refine wpAny_Assign_stores (aF (he c s b H _ I h) fun v d a=>?_) j i;obtain⟨x,n,m,r1,f⟩:=a;rw[l];exact aF (k c d b n x v _ m r1 f) fun _ o q=>q
theorem F4{i:Nat}(hN:X.N.Nodup)(g:X.N[i]?=À x)(d:Loc X.env.scope x)(he:PE X e te)(f:ļ e (À (.Name x pos')) pos.line X.env=pure Ã:=by rfl)(j:X.fn x=Â\/X.env.scope.names.lookup x=À .local:=by first|exact .inl rfl|exact .inr rfl|assumption) :
  PS X (.Assign [.Name x pos'] e pos) (vV te (pb i)):=by
 intro k s b H D I h;refine wpAny_Assign_Name (aF (he k s b H _ I h) fun v p a=>?_) f;obtain⟨y,n,m,r1,c⟩:=a;exact sn m hN g d r1 (fun o l=>⟨_,n,l,c⟩) j
def Iy(to e te:TE)(b:V->V->Hp->VK->Prop)(d:HZ)(a:BU):TS:=fun D c H=>to c H fun o l=>e c l fun i k=>b o i k fun x j=>te c j fun y h=>d x y h fun z g=>a o i z g fun f=>D.nx c f
def BV(X:Cx)(t:V->V->Hp->VK->Prop):Prop :=
 ∀(d:List (Ç×Obj))(s:É)(a:St)(H:Hp)(o i:V)(b c:Ä)(Q:VK),Inv X d a H s->RelV o b->RelV i c->t o i H Q ->
  Í (model X.prog X.w) X.A (O3 b c) (EP X d a Q) X.xe s
theorem DI(G:PE X o to)(J:PE X i ti)(K:BV X tget)(he:PE X e te)(F:CO X op tip)(E:wV X tset)
  (L:∀ov iv new,augStore i ov iv new=(do holding [new,ov,iv] (ϛ ov iv new);release [new,ov,iv] [];pure .next):=by intros;rfl):PS X (.AugAssign (.Subscript o i tpos) op e pos) (Iy to ti te tget tip tset):=by
 intro c s b H D I h;refine wpAny_AugAssign_SubscriptAny (aF (G c s b H _ I h) fun ov r a=>?_) L;obtain⟨g,Y,R,r1,C⟩:=a;refine aF (J c r b Y _ R C) fun iv q a=>?_
 obtain⟨f,W,Q,r2,B⟩:=a;refine aF (K c q b W g f ov iv _ Q r1 r2 B) fun d p a=>?_
 obtain⟨l,V,P,w,A⟩:=a;refine aF (he c p b V _ P A) fun v n a=>?_
 obtain⟨k,U,O,u,z⟩:=a;refine aF (F c n b U l k d v _ O w u z) fun new m a=>?_
 obtain⟨j,T,N,t,y⟩:=a;exact aF (E c m b T g f j ov iv new _ N r1 r2 t y) fun _ Z ⟨S,M,x⟩=>⟨b,S,M,x⟩
noncomputable def KJ(f:Int->Int->Int):HZ:=fun x y H Q=>∃i j,x=.int i/\y=.int j/\Q (.int (f i j)) H
theorem Hg:CO X .Add (KJ fun i j=>i+j):=by
 intro e s c H x y v u Q I r1 r2 h;obtain⟨i,j,b,a,q⟩:=h;subst b;subst a;obtain⟨t,rfl⟩:=r1;obtain⟨d,rfl⟩:=r2;exact iadd_int ⟨.int _,H,I.tok _,⟨_,rfl⟩,q⟩
theorem Hf:CO X .Sub (KJ fun i j=>i-j):=by
 intro e s c H x y v u Q I r1 r2 h;obtain⟨i,j,b,a,q⟩:=h;subst b;subst a;obtain⟨t,rfl⟩:=r1;obtain⟨d,rfl⟩:=r2;exact isub_int ⟨.int _,H,I.tok _,⟨_,rfl⟩,q⟩
end
section
variable{X:Cx}{pos:ģ}
def E9(c:TT)(h:TS):TS:=fun D a H=>∃W:Nat->St->Hp->Prop,(∃m,W m a H)/\∀m a H,W m a H ->
 c a H fun b f=>if b=Â then ∃N:St->Hp->Prop,(∀d g,N d g->∃e,e<m/\W e d g)/\h { D with nx:=N,ct:=N,bk:=D.nx } a f else D.nx a f
theorem AU(t:ϝ (model X.prog X.w) X.A X.env X.xe)(G:PT X c tc)(hb:PSs X body tb):PS X (.While c body [] pos) (E9 tc tb):=by
 intro q s z H D I h;obtain⟨W,⟨F,A⟩,turn⟩:=h;refine wpAny_While (codeAny_whileLoop (fun n E=>∃e y,Inv X q e y E/\W n e y) ?_ F ⟨z,H,I,A⟩);rintro n C ⟨d,x,J,w1⟩;refine Ĥ t (aF (G q C d x _ J (turn n d x w1)) fun b B o=>?_);obtain⟨w,u,j⟩:=o;cases b with
 |true =>
  obtain⟨N,hN,j⟩:=j;rw[yI rfl];refine Ĥ t (aF (hb q B d w _ u j) fun f K i=>?_);cases f with
  |next =>
   obtain⟨a,g,r,l⟩:=i;obtain⟨m,p,k⟩:=hN a g l;exact⟨m,p,a,g,r,k⟩
  |cont =>
   obtain⟨a,g,r,l⟩:=i;obtain⟨m,p,k⟩:=hN a g l;exact⟨m,p,a,g,r,k⟩
  |brk=>exact i
  |ret v=>exact i
 |false =>
  rw[yH ĝ];exact k! ⟨d,w,u,j⟩
end
structure It where
 go:Nat->Hp->Prop
 yld:Nat->Hp->V->Hp->Prop
 stop:Nat->Hp->Prop
def dY(X:Cx)(Og:List (Ç×Obj))(H:Hp)(b:Ç):Prop :=
 H b=Á/\b≠X.env.locals/\b∉X.fs/\(b∈X.ex\/X.s₀.heap.objs.size<=b)/\(∀x c,X.env.cells.lookup x=À c->c≠b)/\∀p∈X.pn++Og,p.1≠b
theorem Inv.fpOk(I:Inv X Og σ H s)(hb:s.heap.objs.size<=b)(d:H' b=Á):dY X Og H' b:=by
 refine⟨d,ı (zJ I.lt hb),I.nofs hb,.inr (z5 I.sz hb),fun x c e z=>?_,fun p a z=>?_⟩
 ·obtain⟨v,q⟩:=I.cell x c e
  exact absurd (zJ q.lt (by rw[z];exact hb)) (xB _)
 ·exact absurd (zJ (yJ (I.pin p a).1) (by rw[z];exact hb)) (xB _)
structure kN(P:Ò)(w:Û)(K:ã)(tg:Î)(J:It)(fp:List Ç)(it:Ç)(tn:Nat->è->Prop):Prop where
 mem:it∈fp
 obj:∀i h,tn i h->∀b∈fp,∃o,h.get? b=À o/\∀v,o.data≠.cell v
 keep:∀i h h',tn i h->(∀b∈fp,∀o,h.get? b=À o->h'.get? b=À o)->tn i h'
 item:∀(X:Cx),X.prog=P->X.w=w->X.K=K->X.calm=Â->∀(i:Nat)(Og:List (Ç×Obj))(s:É)(σ:St)(H:Hp)(E:Ä->É->Prop),Inv X Og σ H s->(∀b∈fp,dY X Og H b)->tn i s.heap->J.go i H ->
  Í (model P w) X.A (t! (.ref it)) (fun r s1=>∃u,r=À u /\
   Í (model P w) X.A (ϐ tg (.ref it) u) (fun _ s2=>∃x H',Inv X Og σ H' s2/\RelV x u/\J.yld i H x H'/\tn (i+1) s2.heap/\∀b∈fp,H' b=Á) E s1) E s
 done:∀(X:Cx),X.prog=P->X.w=w->X.K=K->X.calm=Â->∀(i:Nat)(Og:List (Ç×Obj))(s:É)(σ:St)(H:Hp)(E:Ä->É->Prop),Inv X Og σ H s->(∀b∈fp,dY X Og H b)->tn i s.heap->J.stop i H ->
  Í (model P w) X.A (t! (.ref it)) (fun r s1=>r=Á/\Inv X Og σ H s1) E s
 self:∀(A:Ď)(i:Nat)(s:É)(Q:Ä->É->Prop)(E:Ä->É->Prop),tn i s.heap->Q (.ref it) s->Í (model P w) A (pyIter (.ref it)) Q E s
abbrev TI:=St->Hp->(It->Hp->Prop)->Prop
def Ia(X:Cx)(Og:List (Ç×Obj))(σ:St)(f:Î)(R:It->Hp->Prop)(a:Ä)(s2:É):Prop :=
 ∃(it:Ç)(e:List Ç)(d:Nat->è->Prop)(J:It)(c:Hp),a=.ref it/\Inv X Og σ c s2/\kN X.prog X.w X.K f J e it d/\d 0 s2.heap/\(∀b∈e,dY X Og c b)/\R J c
def PI(X:Cx)(e a:Î)(d:TI):Prop :=
 ∀(c:List (Ç×Obj))(s:É)(b:St)(H:Hp)(R:It->Hp->Prop),Inv X c b H s->d b H R ->
  Í (model X.prog X.w) X.A (eval a X.env) (fun v f=>Í (model X.prog X.w) X.A (pyIter v) (Ia X c b e R) X.xe f) X.xe s
theorem o9(b:s.heap.get? it=À o)(d:o.cls=.type n)(hd:o.data=.fields vs)
  (c:["enumerate","zip","dict_itemiterator","dict_reverseitemiterator","odict_iterator","itertools.zip_longest","itertools.pairwise"].contains n=Ã) (a:Q () s):Í M A (ϐ tg (.ref it) u) Q E s:=by
 unfold ϐ;cases tg<;>first
  |exact yG a
  | (cases u <;> first
    |exact yG a
    | (refine yF (wpAny_load b ?_)
       rw[d,hd];show Í M A (if(["enumerate","zip","dict_itemiterator","dict_reverseitemiterator","odict_iterator","itertools.zip_longest","itertools.pairwise"].contains n&&vs[0]?==À (s? _))=Â then _ else _) Q E s;rw[yH (by intro h;rw[c,Bool.false_and]at h;cases h)];exact yG a))
noncomputable def CT(K:ã)(a:Ç):It :=
 ⟨fun i H=>∃b x,bR K H a b/\b[i]?=À x,fun i H x c=>c=H/\∀b,bR K H a b->b[i]?=À x,fun i H=>∃b,bR K H a b/\b.length<=i⟩
noncomputable def CQ(K:ã)(a:Ç):It :=
 ⟨fun i H=>∃b x,iy K H a b/\b[i]?=À x,fun i H x c=>c=H/\∀b,iy K H a b->b[i]?=À x,fun i H=>∃b,iy K H a b/\b.length<=i⟩
noncomputable def Al(a:Int)(n:Nat):It:=⟨fun i _=>i<n,fun i H x b=>b=H/\x=.int (a+i),fun i _=>n<=i⟩
theorem xg{P:Ò}{w:Û}{K:ã}{O:Î}(a it:Ç):kN P w K O (CT K a) [it] it (fun i h=>h.IsListIter it a i) where
 mem:=by simp
 obj:=fun i h f b hb=>by
  have e:b=it:=by simpa using hb
  subst e;obtain⟨o,e,c,d⟩:=f;exact⟨o,e,fun v z=>by rw[d]at z;cases z⟩
 keep:=fun i h m f k=>f.at fun o e=>k it (by simp) o e
 item:=by
  intro X y r A L i M s J H E I l f t;subst y r A;obtain⟨N,x,j,q⟩:=t;obtain⟨W,n,p,hz⟩:=I.list j;obtain⟨u,T,R⟩:=n.get q;obtain⟨G,F,U,D,C,B⟩:=l it (by simp);refine O? f p.isList (x:=u) (by simpa using T) fun m g Q=>?_
  have Y:Inv X M J H { s with heap:=m }:=I.turned (t':=s.toks) (fun b o hb e=>(Q.2 b hb).trans e) G F D C B;obtain⟨o,e,c,d⟩:=id g;exact⟨u,rfl,o9 (s:={ s with heap:=m }) e c d dC ⟨x,H,Y,R,⟨rfl,fun Z S=>by rw[I.list_inj S j];exact q⟩,g,fun b hb=>(l b hb).1⟩⟩
 done:=by
  intro X y r A L i M s J H E I l f t;subst y r A;obtain⟨N,j,q⟩:=t;obtain⟨W,n,p,hz⟩:=I.list j;obtain⟨G,F,U,D,C,B⟩:=l it (by simp);have hl:=n.length;exact P9 (I.ok.hd L) f p.isList (by simp;lia) fun m V=>⟨rfl,I.turned (t':=s.toks) (fun b o hb e=>V b o hb e) G F D C B⟩
 self:=fun _ _ _ _ _ f h=>wpAny_pyIter_listiter f h
theorem vN{P:Ò}{w:Û}{K:ã}{Q:Î}(a it:Ç):kN P w K Q (CQ K a) [it] it (fun i h=>h.IsTupleIter it a i) where
 mem:=by simp
 obj:=fun i h f b hb=>by
  have e:b=it:=by simpa using hb
  subst e;obtain⟨o,e,c,d⟩:=f;exact⟨o,e,fun v z=>by rw[d]at z;cases z⟩
 keep:=fun i h m f k=>f.at fun o e=>k it (by simp) o e
 item:=by
  intro X y r A M i N s L H E I l f t;subst y r A;obtain ⟨O,x,j,q⟩:=t;obtain ⟨J,n,p,hz⟩:=I.tuple j;obtain ⟨u,U,S⟩:=n.get q;obtain ⟨G,F,V,D,C,B⟩:=l it (by simp);refine wpAny_pyNext_tuple_item f (show s.heap.IsTuple a J.toArray from p) (x:=u) (by simpa using U) fun m g R=>?_
  have Y:Inv X N L H { s with heap:=m }:=I.turned (t':=s.toks) (fun b o hb e=>(R.2 b hb).trans e) G F D C B;obtain⟨o,e,c,d⟩:=id g;exact⟨u,rfl,o9 (s:={ s with heap:=m }) e c d dC ⟨x,H,Y,S,⟨rfl,fun Z T=>by rw[I.tuple_inj T j];exact q⟩,g,fun b hb=>(l b hb).1⟩⟩
 done:=by
  intro X y r A M i N s L H E I l f t;subst y r A;obtain ⟨O,j,q⟩:=t;obtain ⟨J,n,p,hz⟩:=I.tuple j;obtain ⟨G,F,V,D,C,B⟩:=l it (by simp);have hl:=n.length;exact wpAny_pyNext_tuple_end (I.ok.hd M) f (show s.heap.IsTuple a J.toArray from p) (by simp;lia) fun m W=>⟨rfl,I.turned (t':=s.toks) (fun b o hb e=>W b o hb e) G F D C B⟩
 self:=fun _ _ _ _ _ f h=>wpAny_pyIter_tupleiter f h
theorem vO{P:Ò}{w:Û}{K:ã}{G:Î}(it:Ç)(d:Int)(n:Nat):kN P w K G (Al d n) [it] it (fun i h=>IsRangeIter h it (d+(i:Nat)*1) ((n:Int)-(i:Nat)) 1) where
 mem:=by simp
 obj:=fun i h a b hb=>by
  have e:b=it:=by simpa using hb
  subst e;exact⟨_,a,fun v z=>by
   have F:Data.fields _=Data.cell v:=z;cases F⟩
 keep:=fun i h g a k=>k it (by simp) _ a
 item:=by
  intro X p j q m i D s B H E I f a l;subst p j q;obtain⟨A,y,M,x,u,r⟩:=f it (by simp);have W:=Walks.range (prog:=X.prog) (w:=X.w) (I.ok.hd m) it d 1 n;refine W.item i s _ _ l a fun v g C L c J=>?_
  obtain⟨t,rfl⟩:=L;have O:Inv X D B H { s with heap:=g,toks:=C }:=I.turned (fun b o hb e=>J b o (by simpa using hb) e) A y x u r;refine⟨_,rfl,o9 (s:={ s with heap:=g,toks:=C }) (n:="range_iterator") c rfl rfl dC ⟨.int (d+i),H,O,⟨t,?_⟩,⟨rfl,rfl⟩,c,fun b hb=>(f b hb).1⟩⟩;rw[ϲ]
 done:=by
  intro X p j q m i D s B H E I f a l;subst p j q;obtain⟨A,y,M,x,u,r⟩:=f it (by simp);exact wpAny_pyNext_range_end (I.ok.hd m) a (by have:n<=i:=l;lia) fun g N=>⟨rfl,I.turned (t':=s.toks) (fun b o hb e=>N b o hb e) A y x u r⟩
 self:=fun _ _ _ _ _ a h=>wpAny_pyIter_rangeiter a h
section
variable{X:Cx}{tg:Î}
theorem sC{a c:Int}{d:Nat}(I:Inv X Og σ H s)(j:-(2^62)<=a)(i:a<2^62)(h:-(2^62)<=c)(g:c<2^62)
  (q:R (Al a (c-a).toNat) H):Í (model X.prog X.w) X.A (pyIter (.ref s.heap.objs.size)) (Ia X Og σ tg R) E { s with heap:=s.heap.push { cls:=.type "range",data:=.fields #[.int a t,.int c u,.int 1 v] },toks:=d }:=by
 refine wpAny_pyIter_range (IsRange.new ..) (V8 j i h g) ?_;have f:Inv X Og σ H { s with heap:=s.heap.push { cls:=.type "range",data:=.fields #[.int a t,.int c u,.int 1 v] },toks:=d }:=I.kept fun b o e=>zG _ e
 refine⟨(s.heap.push { cls:=.type "range",data:=.fields #[.int a t,.int c u,.int 1 v] }).objs.size,[(s.heap.push { cls:=.type "range",data:=.fields #[.int a t,.int c u,.int 1 v] }).objs.size],_,_,H,rfl,
  f.kept (t':=d) fun b o e=>zG _ e,vO _ a (c-a).toNat,?_,fun b hb=>?_,q⟩
 ·have l:a+((0:Nat):Int)*1=a:=by simp
  have k:(((c-a).toNat:Nat):Int)-((0:Nat):Int)=X' a c 1:=by rw[D?];split<;>lia
  show IsRangeIter _ _ (a+((0:Nat):Int)*1) ((((c-a).toNat:Nat):Int)-((0:Nat):Int)) 1;rw[l,k];exact zY _ rfl
 ·have e:b=(s.heap.push { cls:=.type "range",data:=.fields #[.int a t,.int c u,.int 1 v] }).objs.size:=by simpa using hb
  subst e;exact f.fpOk (zP _) (f.Op.fresh (zP _))
def Jx(c:TA):TI:=fun a H R=>c a H fun b d=>∃j:Int,b=[.int j]/\-(2^62)<=j/\j<2^62/\R (Al 0 j.toNat) d
def Jw(c:TA):TI:=fun a H R=>c a H fun b d=>∃i j:Int,b=[.int i,.int j]/\(-(2^62)<=i/\i<2^62/\-(2^62)<=j/\j<2^62)/\R (Al i (j-i).toNat) d
theorem xV(l:Gl X "range")(k:X.mg "range"=Á)(m:PA X [a] ta)(i:Ê [a] X.env=[(Ã,eval a X.env)]:=by rfl):PI X tg (.Call (.Name "range" p) [a] [] pos) (Jx ta):=by
 intro n s d H R I h;refine N? (dS I l k v? (Ù (aF (m pos n s d H _ I h) fun v w c=>?_) i rfl));obtain⟨u,x,o,r1,b⟩:=c;obtain⟨j,e,b,g,q⟩:=b;subst e;cases r1 with
 |cons r f =>
  cases f;obtain⟨t,rfl⟩:=r;exact call_range_1 (sC o oM oM b g (by simpa using q))
theorem xU(v:Gl X "range")(u:X.mg "range"=Á)(w:PA X [a,b] ta)(o:Ê [a,b] X.env=[(Ã,eval a X.env),(Ã,eval b X.env)]:=by rfl)(c:Ê [b] X.env=[(Ã,eval b X.env)]:=by rfl) :
  PI X tg (.Call (.Name "range" p) [a,b] [] pos) (Jw ta):=by
 intro x s g H R I h;refine N? (dS I v u v? (Ù (aF (w pos x s g H _ I h) fun A C ⟨z,D,y,r1,f⟩=>?_) (by rw[o,c]) (by rw[c];rfl)));obtain⟨i,j,e,⟨f,n,m,l⟩,q⟩:=f;subst e;cases r1 with
 |cons r d =>
  cases d with
  |cons k d =>
   cases d;obtain⟨t,rfl⟩:=r;obtain⟨B,rfl⟩:=k;exact call_range_2 (sC y f n m l q)
def LB(f:TI)(g:TG)(h:TS):TS:=fun D a H=>f a H fun J k=>∃W:Nat->Nat->St->Hp->Prop,(∃m,W 0 m a k)/\∀i m a H,W i m a H ->
 (J.stop i H/\D.nx a H)\/(J.go i H/\∃N:St->Hp->Prop,(∀b c,N b c->∃e,e<m/\W (i+1) e b c)/\∀x c,J.yld i H x c->g x a c fun d j=>h { D with nx:=N,ct:=N,bk:=D.nx } d j)
noncomputable def gA(a:List Ç)(h:è):List (Ç×Obj):=a.filterMap fun b=>(h.get? b).map fun o=>(b,o)
theorem dG(hb:b∈fp)(e:h.get? b=À o):(b,o)∈gA fp h:=L'.mpr ⟨b,hb,by rw[e];rfl⟩
theorem ya(a:p∈gA fp h):p.1∈fp/\h.get? p.1=À p.2:=by
 obtain⟨b,hb,e⟩:=L'.mp a;cases q:h.get? b with
 |none=>rw[q]at e;cases e
 |some o =>
  rw[q]at e;have c:(b,o)=p:=yE e;subst c;exact⟨hb,q⟩
theorem Inv.pinned(I:Inv X Og σ H s)(g:∀b∈fp,dY X Og H b)(f:∀b∈fp,∃o,s.heap.get? b=À o/\∀v,o.data≠.cell v):Inv X (Og++gA fp s.heap) σ H s :=
 I.pins_of fun p c=>(zZ.mp c).elim (fun z=>I.pin p (zK _ z)) fun z=>by
  obtain⟨hb,e⟩:=ya z;obtain⟨j,i,h,_⟩:=g p.1 hb;obtain⟨o,a,d⟩:=f p.1 hb;rw[e]at a;cases a;exact⟨e,j,i,h,d⟩
theorem Inv.unpinned(I:Inv X (Og++pl) σ H s):Inv X Og σ H s:=I.pins_of fun p a=>I.pin p (zK _ (zL _ a))
theorem xQ(F:ϝ (model X.prog X.w) X.A X.env X.xe)(hc:X.calm=Â)(hi:PI X tg iter wi)(hg:PG X tg g)(hb:PSs X body tb)
  (hs:∀x,ú iter X.env x=pure x:=by intro _;rfl):PS X (.For tg iter body [] pos) (LB wi g tb):=by
 intro A s U H D I h;refine wpAny_For (aF (hi A s U H _ I h) fun v s1 h1=>aF h1 fun itv s2 h2=>?_) hs;obtain⟨it,K,V,J,H2,e,I2,T,O,f2,W,⟨m0,w0⟩,turn⟩:=h2;subst e
 have l:∀{w:Hp},(∀b∈K,w b=Á)->∀b∈K,dY X A w b:=fun hn b hb=>⟨hn b hb,(f2 b hb).2⟩
 refine codeAny_forLoop_any (fun n s'=>∃i k w,Inv X A k w s'/\V i s'.heap/\(∀b∈K,w b=Á)/\W i n k w) ?_ m0 ⟨0,U,H2,I2,O,fun b hb=>(f2 b hb).1,w0⟩;rintro n Z ⟨i,j,L,I3,C,G,w3⟩;rcases turn i n j L w3 with⟨B,qn⟩|⟨go,N,hN,step⟩
 ·refine Ĥ F (aF (T.done X rfl rfl rfl hc i A Z j L X.xe I3 (l G) C B) fun r s4 c=>?_)
  obtain⟨Q,I4⟩:=c;subst Q;exact k! ⟨j,L,I4,qn⟩
 ·refine Ĥ F (aF (T.item X rfl rfl rfl hc i A Z j L X.xe I3 (l G) C go) fun r s4 c=>?_)
  obtain⟨u,Q,h4⟩:=c;subst Q;refine Ĥ F (aF h4 fun _ Y c=>?_);obtain⟨x,H5,I5,r5,y5,z,R⟩:=c;have S:=I5.pinned (l R) (T.obj _ _ z);refine Ĥ F (aF (hg _ Y j H5 x u _ S r5 (step x H5 y5)) fun _ s6 c=>?_);obtain⟨M,H6,I6,q6⟩:=c;refine Ĥ F (aF (hb _ s6 M H6 _ I6 q6) fun f P y=>?_);have p:∀{a:St}{t:Hp},Inv X (A++gA K Y.heap) a t P->N a t->∃m,m<n/\∃i k w,Inv X A k w P/\V i P.heap/\(∀b∈K,w b=Á)/\W i m k w:=fun {a t} q E=>by
   obtain⟨m',hm,w7⟩:=hN a t E;refine⟨m',hm,i+1,a,t,q.unpinned,T.keep _ _ _ z fun b hb o e=>(q.pin (b,o) (zK _ (zK _ (dG hb e)))).1,fun b hb=>?_,w7⟩;obtain⟨o,e,d⟩:=T.obj _ _ z b hb;exact(q.pin (b,o) (zK _ (zK _ (dG hb e)))).2.1
  cases f with
  |next=>obtain⟨a,t,q,E⟩:=y;exact p q E
  |cont=>obtain⟨a,t,q,E⟩:=y;exact p q E
  |brk=>obtain⟨a,t,q,y⟩:=y;exact⟨a,t,q.unpinned,y⟩
  |ret v=>obtain⟨x7,a,t,q,r7,y⟩:=y;exact⟨x7,a,t,q.unpinned,r7,y⟩
end
abbrev R2:=V->V->Hp->VK->Prop
def mj(X:Cx)(f:Ä->Ä->W1 Ä)(r:R2):Prop :=
 ∀(b:List (Ç×Obj))(s:É)(a:St)(H:Hp)(x y:V)(v u:Ä)(Q:VK),Inv X b a H s->RelV x v->RelV y u->r x y H Q ->
  Í (model X.prog X.w) X.A (f v u) (EP X b a Q) X.xe s
def Ag(X:Cx)(f:Ä->W1 Ä)(r:V->Hp->VK->Prop):Prop :=
 ∀(b:List (Ç×Obj))(s:É)(a:St)(H:Hp)(x:V)(v:Ä)(Q:VK),Inv X b a H s->RelV x v->r x H Q ->
  Í (model X.prog X.w) X.A (f v) (EP X b a Q) X.xe s
def cJ(X:Cx)(f:Ä)(r:List V->Hp->VK->Prop):Prop :=
 ∀(d:List (Ç×Obj))(s:É)(a:St)(H:Hp)(b:List V)(c:List Ä)(Q:VK),Inv X d a H s->Vals b c->r b H Q ->
  Í (model X.prog X.w) X.A (call f c) (EP X d a Q) X.xe s
def Mm(X:Cx)(r:V->Hp->(Bool->Hp->Prop)->Prop):Prop :=
 ∀(b:List (Ç×Obj))(s:É)(a:St)(H:Hp)(x:V)(v:Ä)(Q:Bool->Hp->Prop),Inv X b a H s->RelV x v->r x H Q ->
  Í (model X.prog X.w) X.A (truthy v) (TP X b a Q) X.xe s
noncomputable def xw(r:R2)(c b:TE):TE:=fun a H Q=>c a H fun x e=>b a e fun y d=>r x y d Q
def Kl(r:V->Hp->VK->Prop)(b:TE):TE:=fun a H Q=>b a H fun x c=>r x c Q
def rU(g:Int->V):V->Hp->VK->Prop:=fun x H Q=>∃i,x=.int i/\Q (g i) H
section
variable{X:Cx}{a b c:Î}{ta tb tc:TE}{pos:ģ}
theorem BP(j:PE X a ta)(hb:PE X b tb){Og:List (Ç×Obj)}{s:É}{σ:St}{H:Hp}{R:V->V->Hp->Prop}(I:Inv X Og σ H s)
  (h:ta σ H fun x H1=>tb σ H1 fun y H2=>R x y H2) {Q:Ä->É->Prop}{f:Ä->Ä->W1 Ä}
  (i:∀v u s2 x y H2,Inv X Og σ H2 s2->RelV x v->RelV y u->R x y H2->Í (model X.prog X.w) X.A (f v u) Q X.xe s2) :
  Í (model X.prog X.w) X.A (eval a X.env) (fun v s₁=>Í (model X.prog X.w) X.A (eval b X.env) (fun u s₂=>Í (model X.prog X.w) X.A (f v u) Q X.xe s₂) X.xe s₁) X.xe s:=by
 refine aF (j Og s σ H _ I h) fun v d c=>?_
 obtain⟨x,H1,l,r1,g⟩:=c;refine aF (hb Og d σ H1 _ l g) fun u s2 c=>?_
 obtain⟨y,H2,k,r2,e⟩:=c;exact i v u s2 x y H2 k r1 r2 e
theorem wd{c:ğ}{r:R2}(g:mj X (ŷ c) r)(i:PE X a ta)(hb:PE X b tb):PE X (.BinOp a c b pos) (xw r ta tb):=by
 intro j s d H Q I h;exact wpAny_BinOp (BP i hb I h fun v u e x y l k rx f q=>g j e d l x y v u Q k rx f q)
theorem IY(f:Ag X (U4 op) r)(g:PE X a ta):PE X (.UnaryOp op a pos) (Kl r ta):=by
 intro c s b H Q I h;exact UnaryOp_ (aF (g c s b H _ I h) fun v d ⟨x,j,i,r1,e⟩=>f c d b j x v Q i r1 e)
def Mo(i j:Int):Prop:=0<=j/\j<=1000000/\i.natAbs<2^64
theorem vM(k:Nat):(0:Int)<=2^k:=by
 rw[two_pow_cast];exact Int.natCast_nonneg _
theorem Kk{f:Ä->W1 Ä}{g:Int->Int}
  (a:∀(i:Int)(t:Tok)(s:É)(Q:Ä->É->Prop)(E:Ä->É->Prop),Q (.int (g i) s.toks) { s with toks:=s.toks+1 }->Í (model X.prog X.w) X.A (f (.int i t)) Q E s) :
  Ag X f (rU fun i=>.int (g i)):=by
 intro c s b H x v Q I rx h;obtain⟨i,rfl,q⟩:=h;obtain⟨t,rfl⟩:=rx;exact a i t s _ _ ⟨.int (g i),H,I.tok _,⟨_,rfl⟩,q⟩
theorem ER:Ag X (U4 .USub) (rU fun i=>.int (-i)):=Kk fun _ _ _ _ _ q=>neg_int q
theorem ES:Ag X (U4 .Invert) (rU fun i=>.int (P7 i)):=Kk fun _ _ _ _ _ q=>invert_int q
end
section
variable{X:Cx}{a b c:Î}{ta tb tc:TE}{pos:ģ}
theorem DW(f:mj X (Ē op) r)(i:PE X a ta)(hb:PE X b tb)(g:ϧ op b=Ã):PE X (.Compare a [op] [b] pos) (xw r ta tb):=by
 intro j s c H Q I h;exact wpAny_Compare1 (BP i hb I h fun v u d x y l k rx e q=>f j d c l x y v u Q k rx e q) g
noncomputable def Io(t:TE):TT:=fun a H Q=>t a H fun x b=>∃k,x=.bl k/\Q k b
theorem DC(o:mj X (Ē op) r)(q:PE X a ta)(hb:PE X b tb)(p:ϧ op b=Ã):PT X (.Compare a [op] [b] pos) (Io (xw r ta tb)):=by
 intro f s d H Q I h;refine wpAny_isTrue_Compare1 (aF (q f s d H _ I h) fun v i ⟨x,D,A,r1,n⟩=>aF (hb f i d D _ A n) fun u g ⟨y,C,w,r2,m⟩ =>
  aF (o f g d C x y v u _ w r1 r2 m) fun c E ⟨z,B,t,j,k,e,l⟩=>?_) p
 subst e;cases j;exact ą ⟨B,t,l⟩
def BS(K:ã)(x:V)(H:Hp)(k:Bool):Prop :=
 match x with
 |.non=>k=Ã
 |.bl b=>k=b
 |.int i=>k=(i !=0)
 |.str y=>y.length<=Ë/\k=((y.length:Int) !=0)
 |.byt y=>y.size<=Ë/\k=((y.size:Int) !=0)
 |.ref p=>(∃a,bR K H p a/\k=!a.isEmpty)\/(∃a,iy K H p a/\k=!a.isEmpty)\/∃c,H p=À (.dK c)/\k=!c.isEmpty
 |_=>False
theorem wE{a:Type}{Oi:List (a×V)}{vs:List (a×Value)}(r:KV Oi vs):(!vs.isEmpty)=!Oi.isEmpty:=by
 cases r<;>rfl
theorem oV{xs:List V}{Om:List Ä}(r:Vals xs Om):(!Om.toArray.isEmpty)=!xs.isEmpty:=by
 cases r<;>simp
theorem il:(Ë:Nat)<2^63:=by rw[ϖ];decide
theorem EU:Mm X (fun x H Q=>∃k,BS X.K x H k/\Q k H):=by
 intro B s w H x v Q I rx h;obtain⟨k,e,q⟩:=h;have A:=il;have z:Ë=16777216:=ϖ;cases x with
 |non =>
  cases rx;have a:k=Ã:=e;subst a;exact truthy_none ⟨H,I,q⟩
 |bl b =>
  cases rx;have a:k=b:=e;subst a;exact ą ⟨H,I,q⟩
 |int i =>
  obtain⟨t,rfl⟩:=rx;have a:k=(i !=0):=e;subst a;exact ż ⟨H,I,q⟩
 |str y =>
  obtain⟨t,rfl⟩:=rx;obtain⟨n,a⟩:y.length<=Ë/\k=((y.length:Int) !=0):=e;subst a;exact PySem.P.truthy_str oM ⟨H,I.tok _,q⟩
 |byt y =>
  obtain⟨t,rfl⟩:=rx;obtain⟨n,a⟩:y.size<=Ë/\k=((y.size:Int) !=0):=e;subst a;exact truthy_bytes oM ⟨H,I.tok _,q⟩
 |ref p =>
  cases rx;have a:(∃d,bR X.K H p d/\k=!d.isEmpty)\/(∃d,iy X.K H p d/\k=!d.isEmpty)\/∃f,H p=À (.dK f)/\k=!f.isEmpty:=e;rcases a with⟨d,g,a⟩|⟨d,g,a⟩|⟨f,g,a⟩
  ·subst a
   obtain⟨u,r,l,hz⟩:=I.list g;have c:=r.length;exact wpAny_truthy_list l.isList (by simp only[zI];lia) ⟨H,I.tok _,by rw[oV r];exact q⟩
  ·subst a
   obtain⟨u,r,l,hz⟩:=I.tuple g;have c:=r.length;exact truthy_tuple l (by simp only[zI];lia) ⟨H,I.tok _,by rw[oV r];exact q⟩
  ·subst a
   obtain⟨hz,o,j,r,m⟩:f.length<=Ë/\(p==Ę)=Ã/\∃j,KV f j/\s.heap.DictOf (ci X.prog X.w) p j:=I.Op p _ g;have c:f.length=j.length:=Paired.length r;exact wpAny_truthy_dict o m oM ⟨H,I.tok _,by rw[wE r];exact q⟩
 | _=>exact (show False from e).elim
theorem AS(e:PE X a ta)(he:∀whole,v! a X.env whole=(do let v <- whole;ŕ a.pos;holding [v] (truthy v))) :
  PT X a (fun σ H Q=>ta σ H fun x H'=>∃k,BS X.K x H' k/\Q k H'):=by
 intro b s σ H Q I h;exact isTrue_plain (aF (e b s σ H _ I h) fun v c ⟨x,g,f,r1,d⟩=>EU b c σ g x v Q f r1 d) (he _)
theorem wf:mj X (ŷ .Add) (fun x y H Q=>∃i j,x=.str i/\y=.str j/\i.length+j.length<=Ë/\Q (.str (i++j)) H):=by
 intro e s c H x y v u Q I rx b h;obtain⟨i,j,rfl,rfl,hz,q⟩:=h;obtain⟨t,rfl⟩:=rx;obtain⟨a,rfl⟩:=b;exact add_str (fun a d=>⟨.str (i++j),H,I.tok _,⟨_,rfl⟩,q⟩) hz
theorem d6(r:Vals [x] us):∃u,us=[u]/\RelV x u:=by
 cases r with
 |cons r1 r2=>cases r2;exact⟨_,rfl,r1⟩
theorem BY(r:Vals [x,y] us):∃u w',us=[u,w']/\RelV x u/\RelV y w':=by
 cases r with
 |cons r1 r2 =>
  cases r2 with
  |cons b a=>cases a;exact⟨_,_,rfl,r1,b⟩
theorem BO:cJ X (.builtin "abs") (fun xs H Q=>∃i,xs=[.int i]/\Q (.int (if i<0 then -i else i)) H):=by
 intro d s a H xs b Q I r h;obtain⟨i,rfl,q⟩:=h;obtain⟨u,rfl,t,rfl⟩:=d6 r;exact call_abs_int fun u c=>⟨.int (if i<0 then -i else i),H,I.tok _,⟨_,rfl⟩,q⟩
theorem zw(b:X.calm=Â):cJ X (.builtin "max") (fun xs H Q=>∃i j,xs=[.int i,.int j]/\Q (.int (if j > i then j else i)) H):=by
 intro m s c H xs e Q I r h;obtain⟨i,j,rfl,q⟩:=h;obtain⟨u,d,rfl,⟨t,rfl⟩,⟨g,rfl⟩⟩:=BY r;refine max_two_ints (I.ok.hd b) fun l f k=>⟨_,H,I.kept k,?_,q⟩
 by_cases a:j > i
 ·rw[yI a,yI a];exact⟨_,rfl⟩
 ·rw[yH a,yH a];exact⟨_,rfl⟩
theorem zv(b:X.calm=Â):cJ X (.builtin "min") (fun xs H Q=>∃i j,xs=[.int i,.int j]/\Q (.int (if j<i then j else i)) H):=by
 intro m s c H xs e Q I r h;obtain⟨i,j,rfl,q⟩:=h;obtain⟨u,d,rfl,⟨t,rfl⟩,⟨g,rfl⟩⟩:=BY r;refine min_two_ints (I.ok.hd b) fun l f k=>⟨_,H,I.kept k,?_,q⟩
 by_cases a:j<i
 ·rw[yI a,yI a];exact⟨_,rfl⟩
 ·rw[yH a,yH a];exact⟨_,rfl⟩
theorem zy:cJ X (.type "int") (fun xs H Q=>(∃i,xs=[.int i]/\Q (.int i) H)\/∃k,xs=[.bl k]/\Q (.int (if k then 1 else 0)) H):=by
 intro c s a H xs b Q I r h;rcases h with⟨i,rfl,q⟩|⟨k,rfl,q⟩
 ·obtain⟨u,rfl,t,rfl⟩:=d6 r
  exact call_int_int ⟨.int i,H,I,⟨_,rfl⟩,q⟩
 ·obtain⟨u,rfl,r1⟩:=d6 r
  cases r1;exact call_int_bool ⟨.int (if k then 1 else 0),H,I.tok _,⟨_,rfl⟩,q⟩
end
structure ObjM(h:è)(x dx C:Ç)(mA:Ì->Option Ä):Prop where
 obj:h.get? x=À (Ϝ C dx)
 ns:h.Ns1 dx mA
 ne:dx≠x
theorem yi{h:è}{f:Ç}{c:Ì->Option Ä}(n:h.Ns1 f c):∃od,h.get? f=À od/\∀name,lookIn name od=À (c name):=by
 obtain⟨o,d,m,i,hd,k,_,j⟩:=n;refine⟨o,i,fun name=>?_⟩;have e:=j name;unfold nsFind findBy at e;rw[<- Array.find?_toList]at e;unfold lookIn;rw[hd];dsimp only;split
 ·rename_i y q
  rw[q]at e;exact congrArg À e
 ·rename_i q
  rw[q]at e;have a:d.toList.any (·.refKey)=Ã:=by
   rw[P?];intro y g;obtain⟨z,t,b⟩:=k y (Array.mem_toList_iff.mp g);simp[DictEntry.refKey,b]
  have l:¬d.toList.any (·.refKey)=Â:=by rw[a];exact ĝ
  rw[yH l];exact congrArg À e
theorem ObjM.look(I:ObjM h x dx C mA):∃od,InstAt h x (Ϝ C dx) C (À od)/\∀name,lookIn name od=À (mA name) :=
 let⟨od,a,b⟩:=yi I.ns
 ⟨od,⟨I.obj,rfl,rfl,a⟩,b⟩
section
variable{prog:Ò}{w:Û}{A:Ď}{E:Ä->É->Prop}{s:É}{K:ã}{x dx C f:Ç}{mA:Ì->Option Ä}{name:Ì}{v:Ä}
theorem Ey{a:Bool}(X:K.In s.heap)(I:ObjM s.heap x dx C mA)(f:t? K C name=Â)(e:J? K C=Â)
  (g:Œ K (.ref C) name=À Á) (c:mA name=À v) (b:handedIn v=Â) (h:Q v { s with toks:=s.toks+1 }) :
  Í (model prog w) A (getAttr (.ref x) name a) Q E s:=by
 obtain⟨i,J,d⟩:=I.look;exact get_value X J (Q8 f).1 (findObj_own e g rfl (by rw[d,c])) b h
theorem BA(X:K.In s.heap)(I:ObjM s.heap x dx C mA)(a:t? K C name=Â)
  (g:Œ K (.ref C) name=À (À (.ref f))) (d:isFn K (.ref f)=Â) (c:mA name=Á) (h:Q (.ref f,[.ref x]) s) :
  Í (model prog w) A (ş (.ref x) name pl) Q E s:=by
 obtain⟨b,J,e⟩:=I.look;exact method_fn X J (Q8 a).1 (Q8 a).2 g (beq_iff_eq.mp d) (by show(lookIn name b).map (·.isSome)=À Ã;rw[e,c];rfl) h
theorem Dg(X:K.In s.heap)(I:ObjM s.heap x dx C mA)
  (m:Œ K (.ref C) "__setattr__"=À (À (.builtin "object.__setattr__"))) (n:W! K C=Â) (l:takerIn K C name=À Á) (o:J? K C=Â)
  (k:l! mA ns) (hsz:ns.length<=Ë)
  (h:∀h',ObjM h' x dx C (fun y=>if y=name then À v else mA y)->ĭ dx s.heap h'->Q () { s with heap:=h',toks:=s.toks+2 }) :
  Í (model prog w) A (setAttr (.ref x) name v) Q E s:=by
 obtain⟨u,J,B⟩:=I.look;refine set_plain X J m (osa_open (s:={ s with toks:=s.toks+1 }) (r:=Á) X J n l fun b=>?_);obtain⟨D,p,g⟩:=any_some o;have j:s.heap.get? x=À ⟨.ref C,À dx,.plain,#[]⟩:=I.obj;refine yF (yG (yF (yF (wpAny_loadPart j (yF (W3 (s:={ s with toks:=s.toks+1 }) (looks_clsIn X p) ?_))))));rw[g];refine yG (a:=À dx) (yF (yG (yF ?_)));refine wpAny_nsSet1 (s:={ s with toks:=s.toks+1 }) I.ns fun h' d c=>?_
 obtain⟨z,q,t,e,f,i⟩:=d.count (X6 name v k);refine yF (wpAny_lookBehind e (by rw[f];exact pastItsLine_dict (z5 i (by rw[yY];lia))) ?_);exact yG (h _ ⟨(c.2 _ (ç I.ne)).trans I.obj,d,I.ne⟩ c)
theorem Bk(X:K.In s.heap)(b:U6 K C=Â)
  (c:Œ K (.ref C) "__init__"=À (À (.ref f))) (e:typeIn K (.ref f)=À (.type "function"))
  (h:ŉ (model prog w) (A.under (.builtin "type.__call__" ⟨.ref C::vs,kw⟩)) (.call (.ref f) ⟨.ref (s.heap.objs.size+1)::vs,kw⟩) (InitBack (s.heap.objs.size+1) R)
   { s with heap:=(s.heap.push œ).push (Ϝ C s.heap.objs.size) }) :
  ŉ (model prog w) A (.call (.ref C) ⟨vs,kw⟩) R s:=by
 obtain⟨j,g,d,t,i⟩:=s;exact make_core (makes_of X b) (looks_findIn X c) (fun a=>bind_fn X a e) (.inl rfl) h
end
noncomputable def d8(f:Ì)(v:V):List (Ì×V)->List (Ì×V)
 |[]=>[(f,v)]
 |(g,x)::r=>if g=f then(g,v)::r else(g,x)::d8 f v r
theorem mT(f g:Ì)(v:V):∀fs:List (Ì×V),(d8 f v fs).lookup g=if g=f then À v else fs.lookup g
 |[]=>by
  show Ō g [(f,v)]=_;by_cases h:g=f
  ·have hb:(g==f)=Â:=beq_iff_eq.mpr h
   simp only[Ō,hb,yI h]
  ·have hb:(g==f)=Ã:=beq_eq_false_iff_ne.mpr h
   simp only[Ō,hb,yH h]
 |(k,x)::r=>by
  have b:=mT f g v r;rw[show d8 f v ((k,x)::r)=(if k=f then(k,v)::r else(k,x)::d8 f v r) from rfl];by_cases a:k=f
  ·rw[yI a]
   by_cases h:g=k
   ·have hb:(g==k)=Â:=beq_iff_eq.mpr h
    simp only[Ō,hb,yI (h.trans a)]
   ·have hb:(g==k)=Ã:=beq_eq_false_iff_ne.mpr h
    simp only[Ō,hb,yH (fun e:g=f=>h (e.trans a.symm))]
  ·rw[yH a]
   by_cases h:g=k
   ·have hb:(g==k)=Â:=beq_iff_eq.mpr h
    simp only[Ō,hb,yH (fun e:g=f=>a (h.symm.trans e))]
   ·have hb:(g==k)=Ã:=beq_eq_false_iff_ne.mpr h
    simp only[Ō,hb];exact b
theorem lB(f:Ì)(v:V):∀fs:List (Ì×V),f∈(d8 f v fs).map (·.1)/\∀g,g∈fs.map (·.1)->g∈(d8 f v fs).map (·.1)
 |[]=>⟨by simp[d8],fun g h=>by simp at h⟩
 |(k,x)::r=>by
  obtain⟨i1,i2⟩:=lB f v r;rw[show d8 f v ((k,x)::r)=(if k=f then(k,v)::r else(k,x)::d8 f v r) from rfl];by_cases a:k=f
  ·rw[yI a]
   subst a;exact⟨by simp,fun g h=>by simpa using h⟩
  ·rw[yH a]
   refine⟨?_,fun g h=>?_⟩
   ·rw[zO]
    exact zQ _ i1
   ·rw[zO]at h ⊢
    rcases zT.mp h with e|e
    ·exact zT.mpr (.inl e)
    ·exact zQ _ (i2 g e)
theorem mV(f:Ì)(v:V):∀fs:List (Ì×V),(d8 f v fs).length<=fs.length+1
 |[]=>by simp[d8]
 |(k,x)::r=>by
  have ih:=mV f v r;rw[show d8 f v ((k,x)::r)=(if k=f then(k,v)::r else(k,x)::d8 f v r) from rfl];by_cases a:k=f
  ·rw[yI a,yY,yY];lia
  ·rw[yH a,yY,yY];lia
theorem RelO.some_of(r:RelO (À v) o):∃u,o=À u/\RelV v u:=by
 cases o with
 | none=>exact (show False from r).elim
 |some u=>exact⟨u,rfl,r⟩
theorem RelO.none_of(r:RelO Á o):o=Á:=by
 cases o with
 |none=>rfl
 | some u=>exact (show False from r).elim
theorem zc(r:RelV v u):handedIn u=Â:=by
 cases v with
 | non=>cases (show u=ŭ from r);rfl
 | bl b=>cases (show u=G! b from r);rfl
 | int i=>obtain ⟨t,e⟩:=(show ∃ t,u=g? i t from r);cases e;rfl
 | str x=>obtain ⟨t,e⟩:=(show ∃ t,u=g! x t from r);cases e;rfl
 | byt b=>obtain ⟨t,e⟩:=(show ∃ t,u=U8 b t from r);cases e;rfl
 | flt b=>obtain ⟨t,e⟩:=(show ∃ t,u=U7 b t from r);cases e;rfl
 | ref a=>cases (show u=ó a from r);rfl
 | ty n=>cases (show u=F? n from r);rfl
section
variable{P:Ò}{w:Û}{H H':Hp}{h h':è}{a C dx:Ç}{fs fs':List (Ì×V)}
theorem qc(c:HOk P w H h)(e:H a=À (.ins C dx fs)):∃mA,ObjM h a dx C mA/\(∀f,RelO (fs.lookup f) (mA f))/\l! mA (fs.map (·.1))/\fs.length<=1000/\H dx=À (.own a):=by
 obtain ⟨d,z,ne,b,mA,n,r,q⟩:=(show ObjOk P w H h a (.ins C dx fs) from c a _ e);exact ⟨mA,⟨b,n,ne⟩,r,q,z,d⟩
end
structure Cls(K:ã)(C:Ç):Prop where
 pg:t? K C Str.empty=Â
 hd:J? K C=Â
 po:W! K C=Â
 sa:Œ K (.ref C) "__setattr__"=À (À (.builtin "object.__setattr__"))
theorem Cls.get{K:ã}{C:Ç}(c:Cls K C)(f:Ì):t? K C f=Â:=c.pg
def NoAttr(K:ã)(C:Ç)(f:Ì):Prop:=Œ K (.ref C) f=À Á
theorem NoAttr.taker{K:ã}{C:Ç}{f:Ì}(n:NoAttr K C f):takerIn K C f=À Á:=by
 unfold takerIn;rw[show Œ K (.ref C) f=À Á from n];rfl
structure kO(K:ã)(C:Ç)(m:Ì)(f:Ç):Prop where
 at_:Œ K (.ref C) m=À (À (.ref f))
 fn:isFn K (.ref f)=Â
 kp:Ĺ K (.ref f)=Â
section
variable{X:Cx}{Og:List (Ç×Obj)}{σ:St}{H:Hp}{s:É}{a C dx:Ç}{fs:List (Ì×V)}{f:Ì}{v:V}{A:Ď}{E:Ä->É->Prop}
theorem wI{b:Bool}(I:Inv X Og σ H s)(e:H a=À (.ins C dx fs))(c:Cls X.K C)(n:NoAttr X.K C f)(l:fs.lookup f=À v)
  (h:∀u s',Inv X Og σ H s'->RelV v u->Q u s'):Í (model X.prog X.w) A (getAttr (.ref a) f b) Q E s:=by
 obtain⟨g,O,r,_,_,_⟩:=qc I.Op e;obtain⟨u,i,d⟩:=RelO.some_of (v:=v) (o:=g f) (by rw[<- l];exact r f);exact Ey I.kIn O (c.get f) c.hd n i (zc d) (h u _ (I.tok _) d)
theorem kE(I:Inv X Og σ H s)(e:H a=À (.ins C dx fs))(c:Cls X.K C)(k:kO X.K C m g)(l:fs.lookup m=Á)
  (h:Q (.ref g,[.ref a]) s):Í (model X.prog X.w) A (ş (.ref a) m pl) Q E s:=by
 obtain⟨b,O,r,_,_,_⟩:=qc I.Op e;have d:b m=Á:=RelO.none_of (by rw[<- l];exact r m);exact BA I.kIn O (c.get m) k.at_ k.fn d h
theorem vX(I:Inv X Og σ H s)(e:H a=À (.ins C dx fs))(c:Cls X.K C)(n:NoAttr X.K C f)(w:fs.length<1000)(m:RelV y u)
  (h:∀s',Inv X Og σ (ak H a (.ins C dx (d8 f y fs))) s'->Q () s'):Í (model X.prog X.w) A (setAttr (.ref a) f u) Q E s:=by
 obtain⟨j,O,r,i,_,k⟩:=qc I.Op e;have hz:(fs.map (·.1)).length<=Ë:=by rw[zH,ϖ];lia
 refine Dg I.kIn O c.sa c.po n.taker c.hd i hz fun t d l=>h _ ?_
 have hd:∃o,t.get? dx=À o:=let⟨o,_,_,v,_⟩:=d.ns;⟨o,v⟩;refine I.write (x:=a) (e:=dx) (by rw[e];exact True.intro) (.inr k) (fun b q hb z=>(l.2 b hb).trans z) hd ?_;refine⟨by rw[ad O.ne];exact k,?_,O.ne,d.obj,_,d.ns,fun g=>?_,fun g p=>?_⟩
 ·have:=mV f y fs;lia
 ·show RelO ((d8 f y fs).lookup g) (if g=f then À u else j g)
  rw[mT];by_cases q:g=f
  ·rw[yI q,yI q];exact m
  ·rw[yH q,yH q];exact r g
 ·by_cases q:g=f
  ·rw[q];exact(lB f y fs).1
  ·refine(lB f y fs).2 g (i g fun z=>p ?_)
   show(if g=f then À u else j g)=Á;rw[yH q];exact z
theorem Inv.made(I:Inv X Og σ H s):Inv X Og σ (ak (ak H s.heap.objs.size (.own (s.heap.objs.size+1))) (s.heap.objs.size+1) (.ins C s.heap.objs.size []))
  { s with heap:=(s.heap.push œ).push (Ϝ C s.heap.objs.size) }:=by
 have c:(s.heap.push œ).get? s.heap.objs.size=À œ:=zY s.heap rfl;have h:((s.heap.push œ).push (Ϝ C s.heap.objs.size)).get? (s.heap.objs.size+1)=À (Ϝ C s.heap.objs.size):=by
  have:=zY (s.heap.push œ) (o:=Ϝ C s.heap.objs.size) rfl
  rwa [Ħ]at this
 have g:(s.heap.push œ).Ns s.heap.objs.size (fun _=>Á):=⟨œ,#[],_,c,rfl,(fun e f=>absurd f (by simp)),fun _=>rfl⟩;have i:=I.laid (a:=s.heap.objs.size) (o:=.own (s.heap.objs.size+1)) (h':=s.heap.push œ) (t':=s.toks) (fun b u q=>zG _ q) (zP _) ⟨_,c⟩;refine i.laid (a:=s.heap.objs.size+1) (o:=.ins C s.heap.objs.size []) (t':=s.toks) (fun b u q=>zG _ q) (ϣ (Ħ _ _)) ?_;have ne:s.heap.objs.size≠s.heap.objs.size+1:=zU (Ĳ _);refine⟨by rw[ad ne,aB],ħ _,ne,h,fun _=>Á,(Heap.Ns1.of_empty g).at fun o q=>zG _ q,fun _=>True.intro,fun y d=>absurd rfl d⟩
theorem EI(hb:Ě e f env (eval e env)=eval e env)
  (h:Í (model prog w) A (eval e env) (fun o s₁=>Í (model prog w) A (getAttr o f Â) Q E s₁) E s):Í (model prog w) A (eval (.Attribute e f pos) env) Q E s :=
 Attribute_any_ h (by rw[arm_eval_Attribute,hb])
end
def LC(K:ã)(d:TE)(f:Ì):TE:=fun c H Q=>d c H fun x b=>∃a C e fs v,x=.ref a/\b a=À (.ins C e fs)/\Cls K C/\NoAttr K C f/\fs.lookup f=À v/\Q v b
def LJ(K:ã)(e tv:TE)(f:Ì):TS:=fun D b H=>tv b H fun y g=>e b g fun x d=>∃a C c fs,x=.ref a/\d a=À (.ins C c fs)/\Cls K C/\NoAttr K C f/\fs.length<1000 /\
 D.nx b (ak d a (.ins C c (d8 f y fs)))
section
variable{X:Cx}{o e value:Î}{f:Ì}{pos pos' tpos:ģ}{ta tv:TE}
theorem Go(he:PE X e ta)(hb:Ě e f X.env (eval e X.env)=eval e X.env):PE X (.Attribute e f pos) (LC X.K ta f):=by
 intro j s d H Q I h;refine EI hb (aF (he j s d H _ I h) fun u t b=>?_);obtain⟨x,o,m,rx,a,C,w,fs,v,ex,i,c,n,l,q⟩:=b;subst ex;obtain rfl:u=ó a:=rx;exact wI m i c n l fun p r k g=>⟨v,o,k,g,q⟩
theorem F6(r:PE X o ta)(m:PE X value tv)(p:ļ value (À (.Attribute o f pos')) pos.line X.env=pure Ã):PS X (.Assign [.Attribute o f pos'] value pos) (LJ X.K ta tv f):=by
 intro e s b H D I h;refine plainObj_wpAny_Assign_Attribute (aF (m e s b H _ I h) fun u g ⟨y,A,z,i,q⟩=>aF (r e g b A _ z q) fun k E d=>?_) p;obtain⟨x,G,w,rx,a,C,F,fs,ex,t,c,n,l,j⟩:=d;subst ex;obtain rfl:k=ó a:=rx;exact vX w t c n l i fun B v=>⟨b,_,v,j⟩
theorem Ih(he:PE X e te)(I:Inv X Og σ H s)
  (h:te σ H fun x H1=>∃a C dx fs g,x=.ref a/\H1 a=À (.ins C dx fs)/\Cls X.K C/\kO X.K C m g/\fs.lookup m=Á /\
   ∀s1,Inv X Og σ H1 s1->Í (model X.prog X.w) X.A (ŧ pos (.ref g) [.ref a] (ý pos (Ê args X.env)) (Ŋ pos (ĕ [] X.env))) Q X.xe s1)
  (i:eval (.Call (.Attribute e m apos) args [] pos) X.env=(do
   let ov <- eval e X.env
   ŕ apos.atName
   let(f,first) <- holding [ov] (ş ov m pl)
   ŧ pos f first (ý pos (Ê args X.env)) (Ŋ pos (ĕ [] X.env)))) :
  Í (model X.prog X.w) X.A (eval (.Call (.Attribute e m apos) args [] pos) X.env) Q X.xe s:=by
 refine F! (pl:=pl) (aF (he Og s σ H _ I h) fun u s1 b=>?_) i;obtain⟨x,H1,d,rx,a,C,dx,fs,g,ex,j,c,k,l,q⟩:=b;subst ex;obtain rfl:u=ó a:=rx;exact kE d j c k l (q s1 d)
end
structure Room(k:Nat)(A:Ď):Prop where
 hd:A.handled=Á
 dp:A.depth+3*k+5<ϗ
 un:A.units+16*k+200<ř
 gd:A.guards=À []
theorem Room.mono{j k:Nat}(r:Room k A)(h:j<=k):Room j A:=⟨r.hd,by have:=r.dp;lia,by have:=r.un;lia,r.gd⟩
theorem Room.deeper{k:Nat}(r:Room (k+1) A)(env:Q7):Room k (A.deeper env) :=
 ⟨r.hd,by have:=r.dp;show A.depth+1+3*k+5<_;lia,by have:=r.un;show A.units+3+16*k+200<_;lia,r.gd⟩
theorem Room.in1{k:Nat}(r:Room (k+1) A):Room k A.in1 :=
 ⟨r.hd,by have:=r.dp;show A.depth+3*k+5<_;lia,by have:=r.un;show A.units+1+16*k+200<_;lia,r.gd⟩
theorem wx{A:Ď}{C:Ç}{us:List Ä}{a:List (Ì×Value)}:(A.under (.builtin "type.__call__" ⟨.ref C::us,a⟩)).depth=A.depth+1:=by
 first|rfl|simp[Around.under,Code.weight,Code.isCreation,Code.isGuard,Code.isCaller,Code.frames,Code.isFrame,guardIds]
theorem ww{A:Ď}{C:Ç}{us:List Ä}{a:List (Ì×Value)}:(A.under (.builtin "type.__call__" ⟨.ref C::us,a⟩)).units=A.units+1:=by
 first|rfl|simp[Around.under,Code.cUnits,Code.frames,Code.isFrame]
theorem uv{A:Ď}{C:Ç}{us:List Ä}{a:List (Ì×Value)}:(A.under (.builtin "type.__call__" ⟨.ref C::us,a⟩)).guards=A.guards:=by
 first|rfl|simp[Around.under,Code.guards,Code.isGuard,guardIds,pushGuards]
theorem Room.make{k:Nat}{A:Ď}(r:Room (k+1) A)(C:Ç)(us:List Ä)(a:List (Ì×Value)):Room k (A.under (.builtin "type.__call__" ⟨.ref C::us,a⟩)) :=
 ⟨r.hd,by have:=r.dp;rw[wx];lia,by have:=r.un;rw[ww];lia,by rw[uv];exact r.gd⟩
theorem Room.depth{k:Nat}(r:Room k A):A.depth<ϗ:=by have:=r.dp;lia
theorem Room.units{k:Nat}(r:Room k A):A.units+64<ř:=by have:=r.un;lia
noncomputable def vS:TA:=fun _ H Q=>Q [] H
noncomputable def B9(c:TE)(tr:TA):TA:=fun a H Q=>c a H fun x e=>tr a e fun b d=>Q (x::b) d
section
variable{X:Cx}{e:Î}{es:List Î}{te:TE}{t:TA}{pos:ģ}
theorem xY:PA X [] vS:=fun _ _ _ _ H Q I h=>Calls.spliced_nil ⟨[],H,I,.nil,h⟩
theorem u8(m:PE X e te)(l:PA X es t)(k:Ê (e::es) X.env=(Ã,eval e X.env)::Ê es X.env:=by rfl):PA X (e::es) (B9 te t):=by
 intro a d s c H Q I h;rw[k];show Í _ _ (spliced ((Ã,eval e X.env)::ý a (Ê es X.env))) _ _ s;refine Calls.spliced_cons (aF (m d s c H _ I h) fun u g b=>?_);obtain⟨x,q,o,r1,j⟩:=b;exact aF (l a d g c q _ o j) fun r v ⟨f,p,n,r2,i⟩=>⟨x::f,p,n,.cons r1 r2,i⟩
def Lu(t:TA):TE:=fun c H Q=>t c H fun a b=>a.length<=Ë/\∀p,b p=Á->Q (.ref p) (ak b p (.tup a))
def Lz(t:TA):TE:=fun c H Q=>t c H fun a b=>a.length<=Ë/\∀p,b p=Á->Q (.ref p) (ak b p (.lst a))
theorem Gg{i}(h:PA X es t):PE X (.Tuple es i pos) (Lu t):=by
 intro m s f H Q I k;refine wpAny_Tuple_spliced (aF (h pos m s f H _ I k) fun j a ⟨g,d,c,r,z,q⟩=>⟨by rw[<- r.length];exact z,?_⟩);have l:d a.heap.objs.size=Á:=c.Op.fresh (zP _);refine⟨.ref a.heap.objs.size,ak d a.heap.objs.size (.tup g),c.laid (t':=a.toks) (fun b u e=>zG _ e) (zP _) ?_,rfl,q _ l⟩;exact⟨z,j,r,⟨_,zY _ rfl,rfl,_,rfl⟩⟩
theorem xW(h:PA X es t):PE X (.List es pos) (Lz t):=by
 intro l s f H Q I j;refine wpAny_List_spliced (aF (h pos l s f H _ I j) fun i a ⟨g,d,c,r,z,q⟩=>⟨by rw[<- r.length];exact z,?_⟩);have k:d a.heap.objs.size=Á:=c.Op.fresh (zP _);refine⟨.ref a.heap.objs.size,ak d a.heap.objs.size (.lst g),c.laid (t':=a.toks) (fun b u e=>zG _ e) (zP _) ?_,rfl,q _ k⟩;exact⟨z,i,0,r,zY _ rfl⟩
end
abbrev Sp:=List V->Hp->VK->XK->Prop
abbrev mo:=List Q7->Hp->É->XK->Ä->É->Prop
structure Env0(P:Ò)(w:Û)(K:ã)(mg:Ì->Option Ä)(base:è)(A:Ď)(outer:List Q7)(s:É)(H:Hp):Prop where
 frames:A.frames=À outer
 mod:Mod K mg base
 bs:∀b o,base.get? b=À o->s.heap.get? b=À o/\H b=Á
 bsz:base.objs.size<=s.heap.objs.size
 funs:s.heap.FunFrames base outer
 frf:∀b∈j3 outer,H b=Á
 Op:HOk P w H s.heap
 bare:ύ s.gens
def CE(outer:List Q7)(P:Ò)(w:Û)(H:Hp)(s:É)(Q:VK)(u:Ä)(s':É):Prop :=
 ∃v a,s'.os=s.os/\ύ s'.gens/\Un (j3 outer) [] H a s.heap s'.heap/\HOk P w a s'.heap/\RelV v u/\Q v a
def CR(a:mo)(outer:List Q7)(P:Ò)(w:Û)(H:Hp)(s:É)(Q:VK)(E:XK)(r:Result)(s':É):Prop :=
 match r with
 |.ok (.ret u)=>CE outer P w H s Q u s'
 |.ok _=>False
 |.error e=>a outer H s E e s'
structure FnOk(P:Ò)(w:Û)(K:ã)(mg:Ì->Option Ä)(base:è)(CX:mo)(k:Nat)(f:Ç)(fd:Ė)(ps:List Ì)(sp:Sp):Prop where
 len:∀vs H Q E,sp vs H Q E->vs.length=ps.length
 run:∀(A:Ď)(outer:List Q7)(s:É)(H:Hp)(args:Args)(us:List Ä)(vs:List V)(Q:VK)(E:XK),Room k A->Env0 P w K mg base A outer s H->p? s fd args (ps.zip us)->Vals vs us->sp vs H Q E ->
  ŉ (model P w) A (.call (.ref f) args) (CR CX outer P w H s Q E) s
theorem FnOk.mono{P:Ò}{w:Û}{K:ã}{mg:Ì->Option Ä}{a:è}{d:mo}{j k:Nat}{f:Ç}{fd:Ė}{ps:List Ì}{sp:Sp}(F:FnOk P w K mg a d j f fd ps sp)(h:j<=k) :
  FnOk P w K mg a d k f fd ps sp:=⟨F.len,fun A b s H c g e Q E i=>F.run A b s H c g e Q E (i.mono h)⟩
theorem FnOk.imp{P:Ò}{w:Û}{K:ã}{mg:Ì->Option Ä}{a:è}{e:mo}{k:Nat}{f:Ç}{fd:Ė}{ps:List Ì}{sp c:Sp}(F:FnOk P w K mg a e k f fd ps sp)
  (h:∀vs H Q E,c vs H Q E->sp vs H Q E):FnOk P w K mg a e k f fd ps c :=
 ⟨fun vs H Q E q=>F.len vs H Q E (h _ _ _ _ q),fun A b s H d g vs Q E l m hb i j=>F.run A b s H d g vs Q E l m hb i (h _ _ _ _ j)⟩
theorem Env0.make{P:Ò}{w:Û}{K:ã}{mg:Ì->Option Ä}{a:è}{A:Ď}{outer:List Q7}{s:É}{H:Hp}(e:Env0 P w K mg a A outer s H)(C:Ç)(us:List Ä)(b:List (Ì×Value)) :
  Env0 P w K mg a (A.under (.builtin "type.__call__" ⟨.ref C::us,b⟩)) outer s H:=⟨by first|exact e.frames|(simpa [Around.under,Code.envs,Code.isFrame,pushEnvs] using e.frames),e.mod,e.bs,e.bsz,e.funs,e.frf,e.Op,e.bare⟩
section
variable{X:Cx}{Og:List (Ç×Obj)}{σ:St}{H:Hp}{s s':É}
theorem Inv.env0(I:Inv X Og σ H s):Env0 X.prog X.w X.K X.mg X.base X.A X.stack s H :=
 ⟨I.ok.frames,I.ok.mod,I.bs,z5 I.ok.bsz I.sz,I.stack,I.stkFree,I.Op,I.bare⟩
theorem Inv.after(I:Inv X Og σ H s)(h:CE X.stack X.prog X.w H s Q u s'):EP X Og σ Q u s':=by
 obtain⟨v,j,e,a,un,i,r,q⟩:=h;obtain⟨f,g,d,t,c⟩:=s';obtain rfl:c=s.os:=e;exact⟨v,j,I.call (h':=f) (g':=g) (d':=d) (t':=t) (ch:=[]) un i a (fun b z=>absurd z (by simp)),r,q⟩
end
noncomputable def vU(sp:Sp)(a:List V)(E:XK)(t:TA):TE:=fun b H Q=>t b H fun c d=>sp (c++a) d Q E
def vT(C:Ç)(m:Ì)(sp:Sp)(b:List V)(E:XK)(f:TE)(t:TA):TE:=fun c H Q=>f c H fun x d=>∃a g fs,x=.ref a/\d a=À (.ins C g fs)/\fs.lookup m=Á /\
 t c d fun e h=>sp (x::(e++b)) h Q E
def B8(C:Ç)(sp:Sp)(b:List V)(E:XK)(t:TA):TE:=fun d H Q=>t d H fun e c=>∀x a,c x=Á->c a=Á->a≠x ->
 sp (.ref x::(e++b)) (ak (ak c a (.own x)) x (.ins C a [])) (fun v f=>v=.non/\Q (.ref x) f) E
def Binds(K:ã)(fd:Ė)(ps:List Ì)(b:List Ä):Prop :=
 ∀(s:É)(a:List Ä),K.In s.heap->(a++b).length=ps.length->p? s fd ⟨a,[]⟩ (ps.zip (a++b))
theorem Binds.all{K:ã}{fd:Ė}{ps:List Ì}(h:∀us:List Ä,us.length=ps.length->w! fd ⟨us,[]⟩=pure (ps.zip us)):Binds K fd ps []:=fun s us _ a=>by
 rw[å]at a ⊢;exact .of_eq (h us a)
def iz(d:mo)(X:Cx)(E:XK):Prop:=∀(c:List (Ç×Obj))(b:St)(H:Hp)(s:É)(e:Ä)(a:É),Inv X c b H s->d X.stack H s E e a->X.xe e a
section
variable{X:Cx}{CX:mo}{k:Nat}{f C:Ç}{fd:Ė}{ps:List Ì}{sp:Sp}{dvs:List V}{ds:List Ä}{E:XK}{x m:Ì}{p pos apos:ģ}{e o:Î}{es:List Î}{ta:TE}{t:TA}
theorem oz(F:FnOk X.prog X.w X.K X.mg X.base CX k f fd ps sp)(d:Room k X.A)(hb:Binds X.K fd ps ds)(hd:Vals dvs ds)(c:iz CX X E)
  (I:Inv X Og σ H s) (r:Vals vs us) (h:sp (vs++dvs) H Q E):Í (model X.prog X.w) X.A (call (.ref f) us) (EP X Og σ Q) X.xe s:=by
 have r2:Vals (vs++dvs) (us++ds):=r.append hd;have g:(us++ds).length=ps.length:=by rw[<- r2.length];exact F.len _ _ _ _ h
 refine r? (ŝ (F.run X.A X.stack s H ⟨us,[]⟩ (us++ds) (vs++dvs) Q E d I.env0 (hb s us I.kIn g) r2 h) fun r b a=>?_);cases r with
 |error e=>exact c Og σ H s e b I a
 |ok fl =>
  cases fl with
  |ret u=>exact I.after a
  |next=>exact False.elim a
  |brk=>exact False.elim a
  |cont=>exact False.elim a
theorem DX(F:FnOk X.prog X.w X.K X.mg X.base CX k f fd ps sp)(g:Room k X.A)(l:Gl X x)(i:X.mg x=À (.ref f))(j:Ĺ X.K (.ref f)=Â)(hb:Binds X.K fd ps ds)(hd:Vals dvs ds)(d:iz CX X E)
  (m:PA X (e::es) t) (a:(x==("__debug__":Ì))=Ã:=by decide) (he:Ê (e::es) X.env=(Ã,eval e X.env)::Ê es X.env:=by rfl) (hpl:(ý pos (Ê es X.env)).any (·.1)=Ã:=by rfl) :
  PE X (.Call (.Name x p) (e::es) [] pos) (vU sp dvs E t):=by
 intro n s c H Q I h;refine ÿ (mB I l i ?_ a);refine T8 (h₀:=X.base) I.ok.mod.kin j (aF (m pos n s c H _ I h) fun u v ⟨o,w,b,r,q⟩=>⟨b.kIn,?_⟩) he hpl;exact oz F g hb hd d b r q
theorem Ba(F:FnOk X.prog X.w X.K X.mg X.base CX k f fd ps sp)(c:Room k X.A)(g:Gl X x)(d:X.mg x=À (.ref f))(e:Ĺ X.K (.ref f)=Â)(hb:Binds X.K fd ps ds)(hd:Vals dvs ds)(b:iz CX X E)
  (a:(x==("__debug__":Ì))=Ã:=by decide):PE X (.Call (.Name x p) [] [] pos) (vU sp dvs E vS):=by
 intro j s i H Q I h;refine ÿ (mB I g d ?_ a);exact l? I.kIn e (oz (us:=[]) F c hb hd b I .nil h)
theorem DT(he:PE X o ta)(c:Cls X.K C)(i:kO X.K C m f)(F:FnOk X.prog X.w X.K X.mg X.base CX k f fd ps sp)(A:Room k X.A)(hb:Binds X.K fd ps ds)(hd:Vals dvs ds)(y:iz CX X E)(B:PA X (e::es) t)
  (b:Ê (e::es) X.env=(Ã,eval e X.env)::Ê es X.env:=by rfl) (hpl:(ý pos (Ê es X.env)).any (·.1)=Ã:=by rfl)
  (z:eval (.Call (.Attribute o m apos) (e::es) [] pos) X.env=(do
   let ov <- eval o X.env
   ŕ apos.atName
   let(f,first) <- holding [ov] (ş ov m pl)
   ŧ pos f first (ý pos (Ê (e::es) X.env)) (Ŋ pos (ĕ [] X.env))):=by rfl) :
  PE X (.Call (.Attribute o m apos) (e::es) [] pos) (vT C m sp dvs E ta t):=by
 intro j s g H Q I h;refine F! (pl:=pl) (aF (he j s g H _ I h) fun u v d=>?_) z;obtain⟨x,G,p,rx,a,K,fs,ex,D,l,q⟩:=d;subst ex;obtain rfl:u=ó a:=rx;refine kE p D c i l ?_;refine T8 (first:=[.ref a]) (h₀:=X.base) I.ok.mod.kin i.kp (aF (B pos j v g G _ p q) fun us J ⟨vs,L,n,r,w⟩=>⟨n.kIn,?_⟩) b hpl;exact oz (us:=.ref a::us) (vs:=.ref a::vs) F A hb hd y n (.cons rfl r) w
theorem A5(he:PE X o ta)(c:Cls X.K C)(e:kO X.K C m f)(F:FnOk X.prog X.w X.K X.mg X.base CX k f fd ps sp)(n:Room k X.A)(hb:Binds X.K fd ps ds)(hd:Vals dvs ds)(i:iz CX X E)
  (j:eval (.Call (.Attribute o m apos) [] [] pos) X.env=(do
   let ov <- eval o X.env
   ŕ apos.atName
   let(f,first) <- holding [ov] (ş ov m pl)
   ŧ pos f first (ý pos (Ê [] X.env)) (Ŋ pos (ĕ [] X.env))):=by rfl) :
  PE X (.Call (.Attribute o m apos) [] [] pos) (vT C m sp dvs E ta vS):=by
 intro r s g H Q I h;refine F! (pl:=pl) (aF (he r s g H _ I h) fun u t b=>?_) j;obtain⟨x,w,d,rx,a,v,fs,ex,p,l,q⟩:=b;subst ex;obtain rfl:u=ó a:=rx;refine kE d p c e l ?_;exact l? (first:=[.ref a]) d.kIn e.kp (oz (us:=[.ref a]) (vs:=[.ref a]) F n hb hd i d (.cons rfl .nil) q)
structure Mk(K:ã)(C f:Ç):Prop where
 makes:U6 K C=Â
 init:Œ K (.ref C) "__init__"=À (À (.ref f))
 fn:isFn K (.ref f)=Â
 kp:Ĺ K (.ref C)=Â
theorem AJ(M:Mk X.K C f)(F:FnOk X.prog X.w X.K X.mg X.base CX k f fd ps sp)(l:Room (k+1) X.A)(hb:Binds X.K fd ps ds)(hd:Vals dvs ds)
  (j:iz CX X E) (I:Inv X Og σ H s) (r:Vals vs us)
  (h:∀x dx,H x=Á->H dx=Á->dx≠x->sp (.ref x::(vs++dvs)) (ak (ak H dx (.own x)) x (.ins C dx [])) (fun v H2=>v=.non/\Q (.ref x) H2) E) :
  Í (model X.prog X.w) X.A (call (.ref C) us) (EP X Og σ Q) X.xe s:=by
 have c:=h (s.heap.objs.size+1) s.heap.objs.size (I.Op.fresh (Ϯ _)) (I.Op.fresh (zP _)) (zU (Ĳ _));have b:=Inv.made (C:=C) I;have r2:Vals (V.ref (s.heap.objs.size+1)::(vs++dvs)) (ó (s.heap.objs.size+1)::(us++ds)):=.cons rfl (r.append hd);have m:(ó (s.heap.objs.size+1)::us++ds).length=ps.length:=by
  have e:=r2.length;rw[F.len _ _ _ _ c]at e;exact e.symm
 refine r? (Bk (f:=f) I.kIn M.makes M.init (beq_iff_eq.mp M.fn) (ŝ (F.run _ X.stack _ _ ⟨ó (s.heap.objs.size+1)::us,[]⟩ (ó (s.heap.objs.size+1)::(us++ds)) _ _ E (l.make C us [])
  (b.env0.make C us []) (hb _ (ó (s.heap.objs.size+1)::us) b.kIn m) r2 c) fun r d a=>?_))
 cases r with
 |error e=>exact j Og σ _ _ e d b a
 |ok fl =>
  cases fl with
  |ret u =>
   obtain⟨v,o,n,g,ev,i⟩:=b.after a;subst ev;exact⟨g,⟨V.ref (s.heap.objs.size+1),o,n,rfl,i⟩⟩
  |next=>exact False.elim a
  |brk=>exact False.elim a
  |cont=>exact False.elim a
theorem DU(M:Mk X.K C f)(F:FnOk X.prog X.w X.K X.mg X.base CX k f fd ps sp)(g:Room (k+1) X.A)(j:Gl X x)(i:X.mg x=À (.ref C))(hb:Binds X.K fd ps ds)(hd:Vals dvs ds)(d:iz CX X E)
  (l:PA X (e::es) t) (a:(x==("__debug__":Ì))=Ã:=by decide) (he:Ê (e::es) X.env=(Ã,eval e X.env)::Ê es X.env:=by rfl) (hpl:(ý pos (Ê es X.env)).any (·.1)=Ã:=by rfl) :
  PE X (.Call (.Name x p) (e::es) [] pos) (B8 C sp dvs E t):=by
 intro m s c H Q I h;refine ÿ (mB I j i ?_ a);refine T8 (h₀:=X.base) I.ok.mod.kin M.kp (aF (l pos m s c H _ I h) fun o u ⟨n,v,b,r,q⟩=>⟨b.kIn,?_⟩) he hpl;exact AJ M F g hb hd d b r q
end
structure mO(N P:List Ì)(sc:Ğ):Prop where
 kind:sc.kind=.function
 co:sc.isCoroutine=Ã
 gen:sc.isGenerator=Ã
 nd:N.Nodup
 pre:N.take P.length=P
 par:∀x∈P,sc.names.lookup x=À .local\/sc.names.lookup x=À .cell
 nofree:∀y∈sc.names,y.2≠.free
theorem qR{a:Ì->Option Ū}{x:Ì}:∀{binds:List (Ì×Value)}{m:Ì->Option Ä},(∀v,(x,v)∉binds)->K! a binds m x=m x
 |[],_,_=>rfl
 |(n,v)::r,m,h=>by
  unfold K!;rw[qR fun w hw=>h w (zQ _ hw)];split
  ·have:x≠n:=by rintro rfl;exact h v z7
   simp[this]
  ·rfl
theorem qT{a:Ì->Option Ū}{x:Ì}:∀{binds:List (Ì×Value)}{m:Ì->Option Ä},(∀v,(x,v)∉binds)->K? a binds m x=m x
 |[],_,_=>rfl
 |(n,v)::r,m,h=>by
  unfold K?;rw[qT fun w hw=>h w (zQ _ hw)];split
  ·rfl
  ·have:x≠n:=by rintro rfl;exact h v z7
   simp[this]
theorem qS{kindOf:Ì->Option Ū}{x:Ì}{v:Ä}:∀{P:List Ì}{vs:List Ä}{i:Nat}{m:Ì->Option Ä},P.Nodup->P[i]?=À x->vs[i]?=À v->kindOf x=À .local ->
  K! kindOf (P.zip vs) m x=À v
 |[],_,_,_,_,h,_,_=>by simp at h
 |_::_,[],_,_,_,_,h,_=>by simp at h
 |p::P,w::vs,0,m,nd,h1,h2,hk=>by
  simp at h1 h2;subst h1;subst h2;show K! kindOf ((p,w)::P.zip vs) m p=_;unfold K!;rw[qR fun v hv=>(ľ.mp nd).1 (ā hv).1,yI hk];simp
 |p::P,w::vs,i+1,m,nd,h1,h2,hk=>by
  show K! kindOf ((p,w)::P.zip vs) m x=_;unfold K!;exact qS (i:=i) (ľ.mp nd).2 (by simpa using h1) (by simpa using h2) hk
theorem qU{kindOf:Ì->Option Ū}{x:Ì}{v:Ä}:∀{P:List Ì}{vs:List Ä}{i:Nat}{m:Ì->Option Ä},P.Nodup->P[i]?=À x->vs[i]?=À v->kindOf x≠À .local ->
  K? kindOf (P.zip vs) m x=À v
 |[],_,_,_,_,h,_,_=>by simp at h
 |_::_,[],_,_,_,_,h,_=>by simp at h
 |p::P,w::vs,0,m,nd,h1,h2,hk=>by
  simp at h1 h2;subst h1;subst h2;show K? kindOf ((p,w)::P.zip vs) m p=_;unfold K?;rw[qT fun v hv=>(ľ.mp nd).1 (ā hv).1,yH hk];simp
 |p::P,w::vs,i+1,m,nd,h1,h2,hk=>by
  show K? kindOf ((p,w)::P.zip vs) m x=_;unfold K?;exact qU (i:=i) (ľ.mp nd).2 (by simpa using h1) (by simpa using h2) hk
def start(N:List Ì)(vs:List V):St:=vs.map À++Æ (N.length-vs.length) Á
def qp(b:mo)(P:Ò)(w:Û)(K:ã)(mg:Ì->Option Ä)(base:è)(N:List Ì)(qual:Ì)(scope:Ğ)(f:Ç)(cd:Ä)(A:Ď)(outer:List Q7)(s:É)(H:Hp)(E:XK):Cx where
 prog:=P
 w:=w
 K:=K
 mg:=mg
 base:=base
 A:=A.deeper (ϫ qual scope s.heap.objs.size f cd)
 N:=N
 s₀:=s
 H₀:=H
 env:=ϫ qual scope s.heap.objs.size f cd
 outer:=outer
 stack:=ϫ qual scope s.heap.objs.size f cd::outer
 ex:=[]
 calm:=Â
 fn:=fun _=>Â
 pn:=[]
 xe:=fun e c=>Í (model P w) (A.deeper (ϫ qual scope s.heap.objs.size f cd)) (leaving (ϫ qual scope s.heap.objs.size f cd) e) (fun _ a=>b outer H s E e a) (fun d a=>b outer H s E d a) c
theorem tU{sc:Ğ}{n:Nat}{x:Ì}(h:sc.names.lookup x=À .cell):∃c,(ē n sc.names []).lookup x=À c:=by
 have q:=cellsFrom_some sc.names n [] (.inl h);exact Ĵ.mp q
theorem yx{G:mo}{P:Ò}{w:Û}{K:ã}{mg:Ì->Option Ä}{g:è}{N ps:List Ì}{qual:Ì}{scope:Ğ}{f:Ç}{cd:Ä}{A:Ď}{outer:List Q7}{s s1:É}{H:Hp}{E:XK}{us:List Ä}{vs:List V}
  (S:mO N ps scope) (hd:A.handled=Á) (j:Env0 P w K mg g A outer s H) (O:vs.length=ps.length) (r:Vals vs us)
  (x:InCallC s s.heap.objs.size (K! (ϫ qual scope s.heap.objs.size f cd).kindOf (ps.zip us) fun _=>Á) (ē (s.heap.objs.size+1) scope.names []) (K? (ϫ qual scope s.heap.objs.size f cd).kindOf (ps.zip us) fun _=>Á) s1) :
  Inv (qp G P w K mg g N qual scope f cd A outer s H E) [] (start N vs) H s1:=by
 have J:ps.length<=N.length:=by have:=congrArg ō S.pre;rw[ī]at this;lia
 obtain ⟨C,M,rfl,F⟩:=x.done;have l:∀ b:Ç,b ∉ (qp G P w K mg g N qual scope f cd A outer s H E).ex:=fun b z=>absurd (show b ∈ ([]:List Ç) from z) (by simp)
 refine⟨⟨j.mod,S.kind,rfl,rfl,zP _,fun y z c C d=>?_,fun y m=>?_,fun y c _ h=>?_,fun _=>hd,Around.frames_deeper j.frames,.inr ⟨rfl,rfl⟩,fun b z=>absurd z (l b),j.bs,j.bsz,fun b _ _=>l b,fun b z=>absurd z (l b),j.funs,j.frf⟩,
  rfl,j.bare,Un.kept F,⟨_,x.toInCall.ns,fun i y v C d Q=>?_⟩,fun y c h=>⟨_,x.cell y c h⟩,j.Op.fresh (zP _),fun y c h=>?_,fun p t=>absurd (show p∈([]:List (Ç×Obj)) from t) (by simp),j.Op.kept F,?_⟩
 ·exact name_of_addr x.apart (İ C) (İ d)
 ·have m:scope.names.lookup y=À .cell\/scope.names.lookup y=À .free:=m
  rcases m with m|m
  ·exact tU m
  ·exact absurd rfl (S.nofree _ (İ m))
 ·exact yZ (x.above y c (İ h))
 ·have B:i<vs.length:=by
   unfold start at d;by_cases B:i<vs.length
   ·exact B
   ·rw[z6 (by simpa using B)]at d
    rw[ð]at d;split at d<;>cases d
  have L:vs[i]?=À v:=by
   unfold start at d;rw[zN (by simpa using B),zR]at d;cases e:vs[i]? with
   |none=>rw[e]at d;cases d
   |some a=>rw[e]at d;cases d;rfl
  obtain⟨u,D,I⟩:=r.get L;have t:ps[i]?=À y:=by
   rw[<- S.pre,ţ oM];exact C
  have o:ps.Nodup:=by rw[<- S.pre];exact S.nd.sublist (O9 _ _)
  refine⟨u,I,?_⟩;rcases S.par y (zW t) with k|k
  ·exact .inl ⟨k,qS o t D k⟩
  ·obtain⟨c,e⟩:=tU (n:=s.heap.objs.size+1) k
   refine .inr ⟨.inl k,c,e,?_⟩;have q:=x.cell y c e;rw[qU o t D (by show scope.names.lookup y≠_;rw[k];decide)]at q;exact q
 ·exact j.Op.fresh (yZ (x.above y c (İ h)))
 ·unfold start
  show _=N.length;rw[zV,zH,ü];lia
theorem JH{C:mo}{P:Ò}{w:Û}{K:ã}{mg:Ì->Option Ä}{d:è}{k:Nat}{f:Ç}{name qual:Ì}{c:Ϣ}{g:List Ľ}{scope:Ğ}{U kV B pm a ct oc:Ä}{X od:Option Ç}
  {G:Array (Option Ä)}{N ps:List Ì}{sp:Sp} (lk:K.lookup f=À ⟨oc,od,.func (fnOf name qual c g scope U kV B pm X a ct),G⟩) (R:Ϙ K a qual=Â) (S:mO N ps scope)
  (m:∀vs H Q E,sp vs H Q E->vs.length=ps.length)
  (j:∀(A:Ď)(outer:List Q7)(s:É)(H:Hp)(vs:List V)(Q:VK)(E:XK),Room k (A.deeper (ϫ qual scope s.heap.objs.size f a))->sp vs H Q E ->
   ∃t,PSs (qp C P w K mg d N qual scope f a A outer s H E) g t/\t { nx:=fun _ H'=>Q .non H',rt:=Q } (start N vs) H) :
  FnOk P w K mg d C (k+1) f (fnOf name qual c g scope U kV B pm X a ct) ps sp:=by
 refine⟨m,fun A outer s H W Z vs Q E M z hb r p=>?_⟩;have hl:=m _ _ _ _ p;have Y:K.In s.heap:=z.mod.kin.keeps fun b o e=>(z.bs b o e).1
 have L:s.heap.NoLimit:=z.mod.nolimit.keeps fun b o e=>(z.bs b o e).1
 have i:∀y∈ps.zip Z,scope.names.lookup y.1=À .local\/(scope.names.lookup y.1=À .cell/\((ē (s.heap.objs.size+1) scope.names []).lookup y.1).isSome=Â):=fun O hy=>by
  obtain⟨n,v⟩:=O;rcases S.par n (ā hy).1 with q|q
  ·exact .inl q
  ·exact .inr ⟨q,cellsFrom_some _ _ _ (.inl q)⟩
 refine codeAny_call_function M.depth (Y _ _ lk) rfl S.co S.gen rfl (codeRec_of Y R) (hb _ _ _ _ ?_);refine wpAny_newFunctionEnv_cells S.kind i fun env he T x=>?_
 subst he;refine⟨L.keeps x.toInCall.keep,codeAny_func ?_⟩;obtain⟨t,ht,hq⟩:=j A outer s H vs Q E (M.deeper _) p;have I:Inv (qp C P w K mg d N qual scope f a A outer s H E) [] (start N vs) H T:=yx S M.hd z hl r x;refine yT (ht [] T (start N vs) H _ I hq) (fun fl D l=>?_) fun e D l=>l
 have ay:∀{h:St}{H':Hp}{v:V}{u:Ä},Inv (qp C P w K mg d N qual scope f a A outer s H E) [] h H' D->RelV v u->Q v H'->CE outer P w H s Q u D :=
  fun {h H' v u} J F q=>⟨v,H',J.os,J.bare,J.base,J.Op,F,q⟩
 cases fl with
 |ret u =>
  obtain⟨v,h,H',J,F,q⟩:=l;exact ay J F q
 |next =>
  obtain⟨h,H',J,q⟩:=l;exact ay (v:=V.non) (u:=ŭ) J rfl q
 |brk =>
  obtain⟨_,_,_,q⟩:=l;exact False.elim q
 |cont =>
  obtain⟨_,_,_,q⟩:=l;exact False.elim q
section
variable{X:Cx}{x:Ì}{p pos:ģ}{e:Î}{es:List Î}{t:TA}{id T:String}{r:List V->Hp->VK->Prop}
def Fe(r:List V->Hp->VK->Prop)(t:TA):TE:=fun a H Q=>t a H fun b c=>r b c Q
theorem A9(n:cJ X (.builtin id) r)(m:Gl X x)(l:X.mg x=Á)(j:à x=À (.builtin id))(o:PA X (e::es) t)(k:x≠"__name__":=by decide)(a:(x==("__debug__":Ì))=Ã:=by decide)
  (he:Ê (e::es) X.env=(Ã,eval e X.env)::Ê es X.env:=by rfl) (hpl:(ý pos (Ê es X.env)).any (·.1)=Ã:=by rfl):PE X (.Call (.Name x p) (e::es) [] pos) (Fe r t):=by
 intro c s b H Q I h;refine ÿ (dS I m l j ?_ k a);exact Y! (aF (o pos c s b H _ I h) fun f g ⟨d,u,q,r1,i⟩=>n c g b u d f Q q r1 i) he hpl
theorem qD(n:cJ X (.type T) r)(m:Gl X x)(l:X.mg x=Á)(j:à x=À (.type T))(o:PA X (e::es) t)(k:x≠"__name__":=by decide)(a:(x==("__debug__":Ì))=Ã:=by decide)
  (he:Ê (e::es) X.env=(Ã,eval e X.env)::Ê es X.env:=by rfl) (hpl:(ý pos (Ê es X.env)).any (·.1)=Ã:=by rfl):PE X (.Call (.Name x p) (e::es) [] pos) (Fe r t):=by
 intro c s b H Q I h;refine ÿ (dS I m l j ?_ k a);exact Ù (aF (o pos c s b H _ I h) fun f g ⟨d,u,q,r1,i⟩=>n c g b u d f Q q r1 i) he hpl
end
end L2
namespace HT
open PySem PyProof.Rows
section
variable{prog:Ò}{w:Û}{A:Ď}{E:Ä->É->Prop}{s:É}
noncomputable def Ov(n d:Nat):Option Int->Nat
 |none=>d
 |some v=>if v<0 then(v+(n:Int)).toNat else min v.toNat n
theorem sIx_none(n d:Nat):Ov n d Á=d:=rfl
theorem sIx_nat(n d k:Nat):Ov n d (À (k:Int))=min k n:=by
 show(if(k:Int)<0 then((k:Int)+(n:Int)).toNat else min (k:Int).toNat n)=min k n;rw[yH oM,Q5]
end
end HT
namespace L2
open PySem PySem.Spec PyProof.Rows
abbrev TO:=St->Hp->(Option Int->Hp->Prop)->Prop
def PO(X:Cx)(e:Option Î)(t:TO):Prop :=
 ∀(b:List (Ç×Obj))(s:É)(a:St)(H:Hp)(Q:Option Int->Hp->Prop),Inv X b a H s->t a H Q ->
  Í (model X.prog X.w) X.A (evalPart e X.env) (fun u d=>∃o c,Inv X b a c d/\IsPart u o/\Q o c) X.xe s
noncomputable def C9:TO:=fun _ H Q=>Q Á H
noncomputable def Ip(t:TE):TO:=fun a H Q=>t a H fun x b=>∃i,x=.int i/\Q (À i) b
theorem kD:∀{us:List Ä},Vals (ns.map V.int) us->ſ us ns:=by
 induction ns with
 |nil=>intro us r;rw[Ϡ]at r;cases r;exact .nil
 |cons n ns a =>
  intro us r;rw[zO]at r;cases r with
  |cons r1 r2 =>
   obtain⟨t,e⟩:=r1;subst e;exact .cons n t (a r2)
section
variable{X:Cx}{e:Î}{te:TE}{lo hi:Option Î}{tl th:TO}{pos p2:ģ}
theorem DK:PO X Á C9:=by
 intro b s a H Q I h;rw[evalPart_none];exact yG ⟨Á,H,I,.none,h⟩
theorem DJ(h:PE X e te):PO X (À e) (Ip te):=by
 intro f s b H Q I d;rw[evalPart_some];refine aF (h f s b H _ I d) fun u k a=>?_
 obtain⟨x,j,g,r1,c⟩:=a;obtain⟨i,rfl,q⟩:=c;obtain⟨t,rfl⟩:=r1;exact⟨À i,j,g,.int i t,q⟩
def Os(X:Cx)(r:V->Option Int->Option Int->Hp->VK->Prop):Prop :=
 ∀(g:List (Ç×Obj))(s:É)(a:St)(H:Hp)(x:V)(v c b:Ä)(e f:Option Int)(d:Ç)(Q:VK),Inv X g a H s->RelV x v->s.heap.IsSliceOf d c b .none->IsPart c e->IsPart b f->r x e f H Q ->
  ∃T id,typeLookup (.type T) "__getitem__"=pure (À (.builtin id))/\s.TypeIs v T/\Í (model X.prog X.w) X.A (O3 v (.ref d)) (EP X g a Q) X.xe s
def Kn(r:V->Option Int->Option Int->Hp->VK->Prop)(te:TE)(b c:TO):TE:=fun a H Q=>te a H fun x f=>b a f fun l e=>c a e fun u d=>r x l u d Q
theorem A4(A:Os X r)(he:PE X e te)(B:PO X lo tl)(y:PO X hi th):PE X (.Subscript e (.Slice lo hi Á p2) pos) (Kn r te tl th):=by
 intro f s d H Q I h;refine Subscript_ (aF (he f s d H _ I h) fun v m c=>?_);obtain⟨x,L,J,r1,p⟩:=c;refine wpAny_Slice (aF (B f m d L _ J p) fun i k ⟨l,K,G,w,o⟩=>aF (y f k d K _ G o) fun g a c=>?_);obtain⟨u,j,F,t,n⟩:=c;rw[evalPart_none];refine yG ?_;have E:Inv X f d j { a with heap:=a.heap.push { cls:=.type "slice",data:=.fields #[i,g,.none] } }:=F.kept (t':=a.toks) fun b M q=>zG _ q
 obtain⟨T,id,D,z,C⟩:=A f { a with heap:=a.heap.push { cls:=.type "slice",data:=.fields #[i,g,.none] } } d j x v i g l u a.heap.objs.size Q E r1 (V0 ..) w t n;show Í (model X.prog X.w) X.A (D! e (.Slice lo hi Á p2) v (.ref a.heap.objs.size)) (EP X f d Q) X.xe { a with heap:=a.heap.push { cls:=.type "slice",data:=.fields #[i,g,.none] } };exact tail_any (ops:=[.ref a.heap.objs.size,v]) z D C (by with_unfolding_all rfl)
def qr(xs:List V)(a b:Option Int):List V:=(xs.drop (HT.Ov xs.length 0 a)).take (HT.Ov xs.length xs.length b-HT.Ov xs.length 0 a)
theorem ux(xs:List V)(a b:Option Int):(qr xs a b).length<=xs.length:=by
 unfold qr;rw[ī,Ϩ];lia
end
noncomputable def mW(n:Nat)(i:Int):Option Nat:=if 0<=i then(if i<n then À i.toNat else Á) else if -(n:Int)<=i then À (i+n).toNat else Á
def gN{α:Type}(xs:List α)(i:Int):Option α:=(mW xs.length i).bind fun j=>xs[j]?
theorem vi{n:Nat}{i:Int}{j:Nat}(h:mW n i=À j):seqIndex? i n=À j/\j<n/\-(n:Int)<=i/\i<n:=by
 unfold mW at h;by_cases b:0<=i
 ·rw[yI b]at h
  by_cases a:i<n
  ·rw[yI a]at h
   have e:i.toNat=j:=yE h;exact⟨by rw[f? b a,e],by lia,by lia,a⟩
  ·rw[yH a]at h;cases h
 ·rw[yH b]at h
  by_cases a:-(n:Int)<=i
  ·rw[yI a]at h
   have e:(i+n).toNat=j:=yE h;exact⟨by rw[ϸ oM a,e],by lia,a,by lia⟩
  ·rw[yH a]at h;cases h
theorem mM{α:Type}{xs:List α}{i:Int}{v:α}(h:gN xs i=À v):∃j,seqIndex? i xs.length=À j/\xs[j]?=À v/\j<xs.length/\-(xs.length:Int)<=i/\i<xs.length:=by
 unfold gN at h;cases e:mW xs.length i with
 |none=>rw[e]at h;cases h
 |some j =>
  rw[e]at h;obtain⟨d,c,b,a⟩:=vi e;exact⟨j,d,h,c,b,a⟩
def qx(b:Î):Prop:=∀o i,subscripted b Ã o i=operate [o,i] (O3 o i)
def IxR(X:Cx)(r:R2):Prop :=
 ∀(b a:Î)(d:List (Ç×Obj))(s:É)(c:St)(H:Hp)(x y:V)(v u:Ä)(Q:VK),Inv X d c H s->RelV x v->RelV y u->r x y H Q ->
  subscripted a Ã v u=operate [v,u] (O3 v u)->Í (model X.prog X.w) X.A (D! b a v u) (EP X d c Q) X.xe s
def nM(X:Cx)(id:String)(r:V->List V->Hp->VK->Prop):Prop :=
 ∀(d:List (Ç×Obj))(s:É)(a:St)(H:Hp)(x:V)(b:List V)(v:Ä)(c:List Ä)(Q:VK),Inv X d a H s->RelV x v->Vals b c->r x b H Q ->
  Í (model X.prog X.w) X.A (call (.builtin id) (v::c)) (EP X d a Q) X.xe s
section
variable{X:Cx}{a b:Î}{ta tb:TE}{pos:ģ}
theorem IxR.or(h:IxR X r)(h':IxR X r'):IxR X (fun x y H Q=>r x y H Q\/r' x y H Q):=by
 intro a b f s c H x y v u Q I rx d q e;rcases q with q|q
 ·exact h a b f s c H x y v u Q I rx d q e
 ·exact h' a b f s c H x y v u Q I rx d q e
theorem Jb(g:IxR X r)(i:PE X a ta)(hb:PE X b tb)(f:qx b):PE X (.Subscript a b pos) (xw r ta tb):=by
 intro j s c H Q I h;exact Subscript_ (BP i hb I h fun v u d x y l k rx e q=>g a b j d c l x y v u Q k rx e q (f _ _))
def Fx(K:ã):R2:=fun x y H Q=>∃p a i v,x=.ref p/\y=.int i/\bR K H p a/\gN a i=À v/\Q v H
def Fv(K:ã):R2:=fun x y H Q=>∃p a i v,x=.ref p/\y=.int i/\iy K H p a/\gN a i=À v/\Q v H
def Fw:R2:=fun x y H Q=>∃z i c,x=.str z/\y=.int i/\z.length<=Ë/\gN z.cps.toList i=À c/\Q (.str ⟨#[c]⟩) H
theorem ix_list:IxR X (Fx X.K):=by
 intro b c n s g H x y v u Q I rx A h k;obtain⟨p,K,i,z,rfl,rfl,B,D,q⟩:=h;cases rx;obtain⟨t,rfl⟩:=A;obtain⟨J,r,e,hz⟩:=I.list B;obtain⟨j,a,G,M,F,E⟩:=mM D;obtain⟨w,m,d⟩:=r.get G;have C:=r.length;have L:=il;have ay:EP X n g Q w s:=⟨z,H,I,d,q⟩;by_cases l:0<=i
 ·have f:i.toNat=j:=by
   rw[f? l E]at a;exact yE a
  exact item_listR e.isList l oM (by rw[f];simpa using m) ay k
 ·have f:(i+(J.toArray.size:Int)).toNat=j:=by
   rw[ϸ oM F]at a;rw[zI,<- C];exact yE a
  exact O2 (x:=w) e.isList.typeIs slot_list_getitem.lookup
   (O0 (Q:=fun r o=>r=w/\EP X n g Q r o) e.isList oM (by rw[zI]<;>lia) oM (by rw[f];simpa using m) ⟨rfl,ay⟩) k
theorem ix_tup:IxR X (Fv X.K):=by
 intro a b f s d H x y v u Q I rx k h l;obtain⟨p,D,i,z,rfl,rfl,m,o,q⟩:=h;cases rx;obtain⟨t,rfl⟩:=k;obtain⟨K,r,e,hz⟩:=I.tuple m;obtain⟨j,B,A,J,G,F⟩:=mM o;obtain⟨w,C,c⟩:=r.get A;have n:=r.length;have E:=il;have ay:EP X f d Q w s:=⟨z,H,I,c,q⟩;exact O2 (x:=w) e.typeIs slot_tuple_getitem.lookup
  (getItem_tuple (j:=j) (Q:=fun r g=>r=w/\EP X f d Q r g) e oM oM (by rw[zI,<- n];exact B) (by simpa using C) ⟨rfl,ay⟩) l
theorem Hd:IxR X Fw:=by
 intro a b C s r H x y v u Q I rx e h f;obtain⟨z,i,c,rfl,rfl,hz,k,q⟩:=h;obtain⟨t,rfl⟩:=rx;obtain⟨w,rfl⟩:=e;obtain⟨j,d,n,B,m,l⟩:=mM k;have g:z.cps.toList.length=z.length:=by simp[Str.length]
 rw[g]at d m l;have A:=il;exact tail_any (typeIs_str s z t) slot_str_getitem.lookup (getItem_str (c:=c) (by
  have p:decide (i < -(2^63:Int))=Ã:=yA oM;have o:decide (i ≥ 2^63)=Ã:=yA oM;rw[p,o,j?]) (by rw[d];simpa using n) ⟨.str ⟨#[c]⟩,H,I.tok _,⟨_,rfl⟩,q⟩) f
def MN(K:ã):R2:=fun x y H Q=>Fx K x y H Q\/Fv K x y H Q\/Fw x y H Q
theorem td:IxR X (MN X.K):=ix_list.or (ix_tup.or Hd)
theorem wv(Om:List Ä)(n j:Nat)(u:Ä):Ġ (·.setIfInBounds j u) { cls:=.type "list",data:=.seq Om.toArray n }={ cls:=.type "list",data:=.seq (Om.set j u).toArray n }:=by
 simp[Ġ]
theorem Inv.lst(I:Inv X Og σ H s)(h:H p=À (.lst xs)) :
  ∃(Om:List Ä)(n:Nat),Vals xs Om/\s.heap.get? p=À { cls:=.type "list",data:=.seq Om.toArray n }/\xs.length<=Ë:=by
 obtain⟨z,Om,n,r,e⟩:=I.Op p _ h;exact⟨Om,n,r,e,z⟩
theorem Inv.lstUpd{Og:List (Ç×Obj)}{σ:St}{H:Hp}{s:É}{p:Ç}{xs ys:List V}{Om its':List Ä}{n a:Nat}{f:W4->W4}(I:Inv X Og σ H s)(h:H p=À (.lst xs))
  (d:s.heap.get? p=À { cls:=.type "list",data:=.seq Om.toArray n }) (c:f { cls:=.type "list",data:=.seq Om.toArray n }={ cls:=.type "list",data:=.seq its'.toArray a }) (r:Vals ys its') (hz:ys.length<=Ë) (t:Nat) :
  Inv X Og σ (ak H p (.lst ys)) { s with heap:=s.heap.update p f,toks:=t }:=by
 have e:(s.heap.update p f).get? p=À { cls:=.type "list",data:=.seq its'.toArray a }:=by
  rw[Heap.get?_update_self f d (by rw[c]<;>rfl),c]
 refine I.write (x:=p) (e:=p) (by rw[h];trivial) (.inl rfl) (fun b u hb q=>(o? _ _ (ç hb)).trans q) ⟨_,e⟩ ?_;exact⟨hz,its',a,r,e⟩
def ID:V->V->V->Hp->(Hp->Prop)->Prop:=fun o i v H Q=>∃p a k j,o=.ref p/\i=.int k/\H p=À (.lst a)/\mW a.length k=À j/\Q (ak H p (.lst (a.set j v)))
theorem AE:wV X ID:=by
 intro D s x H o i v E F u Q I A B z h;obtain⟨p,y,k,j,rfl,rfl,e,C,q⟩:=h;cases A;obtain⟨t,rfl⟩:=B;obtain⟨m,n,r,b,hz⟩:=I.lst e;obtain⟨a,J,g,f⟩:=vi C;have c:=r.length;have G:=il;have w:Inv X D x (ak H p (.lst (y.set j v))) { s with heap:=s.heap.update p (Ġ (·.setIfInBounds j u)) } :=
  I.lstUpd e b (wv m n j u) (r.set z j) (by rw[ă];exact hz) s.toks
 by_cases l:0<=k
 ·have d:k.toNat=j:=by
   rw[f? l f]at a;exact yE a
  exact ki_setAt b l oM (by rw[zI,<- c];exact f) (by rw[d];exact⟨_,w,q⟩)
 ·have d:(k+(m.toArray.size:Int)).toNat=j:=by
   rw[ϸ oM g]at a;rw[zI,<- c];exact yE a
  exact ki_setBack b oM (by rw[zI,<- c];exact g) oM (by rw[d];exact⟨_,w,q⟩)
theorem sv(a b:Option Int)(n:Nat):(Ř a b Á n).1=((HT.Ov n 0 a:Nat):Int)/\(Ř a b Á n).2.1=((HT.Ov n n b:Nat):Int)/\(Ř a b Á n).2.2=1:=by
 refine⟨?_,?_,rfl⟩
 ·cases a with
  |none=>simp[Ř,HT.Ov]
  |some i =>
   simp only[Ř,HT.Ov,L?,show(1:Int) > 0 by decide,if_true];by_cases h:i<0
   ·simp only[h,if_true]<;>lia
   ·simp only[h,if_false]<;>lia
 ·cases b with
  |none=>simp[Ř,HT.Ov]
  |some i =>
   simp only[Ř,HT.Ov,L?,show(1:Int) > 0 by decide,if_true];by_cases h:i<0
   ·simp only[h,if_true]<;>lia
   ·simp only[h,if_false]<;>lia
theorem qZ(Om:List Ä)(a b:Option Int):slicePick Om.toArray a b Á=((Om.drop (HT.Ov Om.length 0 a)).take (HT.Ov Om.length Om.length b-HT.Ov Om.length 0 a)).toArray:=by
 obtain⟨e,d,c⟩:=sv a b Om.toArray.size;unfold slicePick;rw[e,d,c];simp only[sliceRange_one,pick_run,zI]<;>rfl
def LL(K:ã):V->Option Int->Option Int->Hp->VK->Prop:=fun x c d H Q=>∃a b,x=.ref a/\bR K H a b/\∀p,H p=Á->Q (.ref p) (ak H p (.lst (qr b c d)))
theorem Dd:Os X (LL X.K):=by
 intro y s m H x v p n e f t Q I rx l j i h;obtain⟨a,c,rfl,k,q⟩:=h;cases rx;obtain⟨w,r,g,hz⟩:=I.list k;have d:=r.length;refine⟨"list",_,slot_list_getitem.lookup,g.isList.typeIs,?_⟩;refine wpAny_getItem_list_slice g.isList l j i .none (by simp) ?_ (by rw[zI]<;>lia);rw[qZ,<- d];refine⟨.ref s.heap.objs.size,_,I.laid (t':=s.toks) (o:=.lst (qr c e f)) (fun b u q=>zG _ q) (zP _) ?_,rfl,q _ (I.Op.fresh (zP _))⟩;exact⟨z5 (ux c e f) hz,_,0,(r.drop (HT.Ov c.length 0 e)).take (HT.Ov c.length c.length f-HT.Ov c.length 0 e),zY _ rfl⟩
theorem l7:cJ X (.builtin "len") (fun xs H Q=>∃p ys,xs=[.ref p]/\(bR X.K H p ys\/iy X.K H p ys)/\Q (.int ys.length) H):=by
 intro j s f H xs g Q I r h;obtain⟨p,ys,rfl,b,q⟩:=h;obtain⟨u,rfl,rx⟩:=d6 r;cases rx;have i:=il;rcases b with b|b
 ·obtain⟨e,c,d,hz⟩:=I.list b
  have a:=c.length;exact Calls.call_len_list d.isList (by simp only[zI]<;>lia) ⟨.int ys.length,H,I.tok _,⟨s.toks+1,by rw[zI,a]⟩,q⟩
 ·obtain⟨e,c,d,hz⟩:=I.tuple b
  have a:=c.length;exact len_tuple d (by simp only[zI]<;>lia) ⟨.int ys.length,H,I.tok _,⟨s.toks+1,by rw[zI,a]⟩,q⟩
theorem tX:cJ X (.builtin "len") (fun xs H Q=>∃z,xs=[.str z]/\z.length<=Ë/\Q (.int z.length) H):=by
 intro d s a H xs b Q I r h;obtain⟨z,rfl,hz,q⟩:=h;obtain⟨u,rfl,t,rfl⟩:=d6 r;have c:=il;exact len_str oM ⟨.int z.length,H,I.tok _,⟨_,rfl⟩,q⟩
theorem tW:cJ X (.type "list") (fun xs H Q=>∃p ys,xs=[.ref p]/\(bR X.K H p ys\/iy X.K H p ys)/\∀l,H l=Á->Q (.ref l) (ak H l (.lst ys))):=by
 intro x s w H xs y Q I r h;obtain⟨p,ys,rfl,i,q⟩:=h;obtain⟨u,rfl,rx⟩:=d6 r;cases rx;have ay:∀(c:List Ä),Vals ys c->ys.length<=Ë->∀(a:è)(f:Nat),(∀b v,s.heap.get? b=À v->a.get? b=À v) ->
   a.get? s.heap.objs.size=À { cls:=.type "list",dict:=Á,data:=.seq c.toArray f,slots:=#[] }->EP X x w Q (.ref s.heap.objs.size) { s with heap:=a }:=fun c d hz a f g e =>
  ⟨.ref s.heap.objs.size,_,I.laid (t':=s.toks) g (zP _) (show ObjOk X.prog X.w _ a _ (.lst ys) from ⟨hz,c,f,d,e⟩),rfl,q _ (I.Op.fresh (zP _))⟩
 rcases i with i|i
 ·obtain⟨c,d,k,hz⟩:=I.list i
  have j:=d.length;obtain⟨o,m,t,n,hd⟩:=k.isList;exact call_list_seq p (.inl rfl) m t hd (fun a f g e=>ay c d hz a f g e) (by simp only[zI]<;>lia)
 ·obtain⟨c,d,k,hz⟩:=I.tuple i
  have j:=d.length;obtain⟨o,m,t,n,hd⟩:=k;exact call_list_seq p (.inr rfl) m t hd (fun a f g e=>ay c d hz a f g e) (by simp only[zI]<;>lia)
def xf(K:ã)(T:String)(x:V)(H:Hp):Prop:=match x with
 |.str _=>T="str"
 |.int _=>T="int"
 |.ref p=>(T="list"/\∃b,bR K H p b)\/(T="tuple"/\∃o,K.lookup p=À o/\o.cls=.type "tuple"/\o.dict=Á) \/
   (T="dict"/\((∃a,H p=À (.dK a))\/∃a,H p=À (.dT a)))\/(T="set"/\∃S n,H p=À (.set S n))
 |_=>False
theorem xc(I:Inv X Og σ H s)(r:RelV x v)(d:xf X.K T x H) :
  s.TypeIs v T/\∀a,v=.ref a->∃ob,s.heap.get? a=À ob/\ob.dict=Á:=by
 cases x with
 |str z =>
  obtain ⟨t,rfl⟩:=r;cases (show T="str" from d);exact ⟨typeIs_str s z t,fun _ e=>nomatch e⟩
 |int i =>
  obtain ⟨t,rfl⟩:=r;cases (show T="int" from d);exact ⟨T4 s i t,fun _ e=>nomatch e⟩
 |ref p =>
  cases r;rcases d with⟨rfl,l,h⟩|⟨rfl,o,b,j,hd⟩|⟨rfl,b⟩|⟨rfl,S,n,b⟩
  ·obtain⟨m,_,g,_⟩:=I.list h
   refine⟨g.isList.typeIs,fun a e=>?_⟩;cases e;obtain⟨o,n,e,c,hd,_⟩:=g;exact⟨o,e,hd⟩
  ·refine⟨⟨o,I.kIn p o b,j⟩,fun a e=>?_⟩
   cases e;exact⟨o,I.kIn _ o b,hd⟩
  ·have z:∃o,s.heap.get? p=À o/\o.ExactDict:=by
    rcases b with⟨k,b⟩|⟨k,b⟩
    ·obtain⟨_,_,_,_,o,_,_,e,ex,_⟩:=I.Op p _ b
     exact⟨o,e,ex⟩
    ·obtain⟨_,_,_,_,o,_,_,e,ex,_⟩:=I.Op p _ b
     exact⟨o,e,ex⟩
   obtain⟨o,e,ex⟩:=z;refine⟨⟨o,e,ex.1⟩,fun a f=>?_⟩;cases f;exact⟨o,e,ex.2.1⟩
  ·obtain⟨o,_,_,_,e,ex,_⟩:=I.Op p _ b
   refine⟨⟨o,e,ex.1⟩,fun a f=>?_⟩;cases f;exact⟨o,e,ex.2.1⟩
 |_=>exact False.elim d
def LD(K:ã)(T:String)(r:V->List V->Hp->VK->Prop)(to:TE):TE:=fun b H Q=>to b H fun x a=>xf K T x a/\r x [] a Q
def Kq(K:ã)(T:String)(r:V->List V->Hp->VK->Prop)(to:TE)(t:TA):TE:=fun a H Q=>to a H fun x b=>xf K T x b/\t a b fun c d=>r x c d Q
variable{o e:Î}{es:List Î}{to:TE}{t:TA}{name:Ì}{apos cpos:ģ}{T id:String}{r:V->List V->Hp->VK->Prop}
theorem Gp(m:y! T)(c:Slot T name id)(d:typeOf (.builtin id)=pure (.type "method_descriptor"))(p:nM X id r)(n:PE X o to)
  (b:Ě o name X.env (eval o X.env)=eval o X.env:=by rfl) (a:(apos.endLine==cpos.line)=Â:=by rfl):PE X (.Call (.Attribute o name apos) [] [] cpos) (LD X.K T r to):=by
 intro g s f H Q I h;refine wpAny_Call_method0_late b a (aF (n g s f H _ I h) fun v k e=>?_);obtain⟨x,u,i,r1,j,l⟩:=e;obtain⟨t,q⟩:=xc i r1 j;exact⟨T,id,m,c,d,t,q,Calls.callWith_builtin rfl (PySem.evalArgs_none (p g k f u x [] v [] Q i r1 .nil l))⟩
theorem Jc(A:y! T)(d:Slot T name id)(i:typeOf (.builtin id)=pure (.type "method_descriptor"))(D:nM X id r)(C:PE X o to)(E:PA X (e::es) t)
  (c:Ě o name X.env (eval o X.env)=eval o X.env:=by rfl)
  (f:((ý cpos (Ê (e::es) X.env)).all (fun x=>!x.1)&&(Ŋ cpos (ĕ [] X.env)).all (fun x=>x.1.isSome)
   && decide ((e::es).length+([]:List ŋ).length+(if([]:List ŋ).isEmpty then 0 else 1)<30))=Â:=by rfl)
  (b:(apos.endLine==cpos.line)=Â:=by rfl) (B:Ê (e::es) X.env=(Ã,eval e X.env)::Ê es X.env:=by rfl) (a:(ý cpos (Ê es X.env)).any (·.1)=Ã:=by rfl) :
  PE X (.Call (.Attribute o name apos) (e::es) [] cpos) (Kq X.K T r to t):=by
 intro k s g H Q I h;refine wpAny_Call_method_late c f b rfl (aF (C k s g H _ I h) fun v w j=>?_);obtain⟨x,L,m,r1,q,z⟩:=j;obtain⟨G,F⟩:=xc m r1 q;refine⟨T,id,A,d,i,G,F,?_⟩;have l:=E cpos k w g L _ m z;rw[B]at l ⊢;refine Calls.callWith_builtin (by show(Ã||(ý cpos (Ê es X.env)).any (·.1))=Ã;rw[a]<;>rfl) (Calls.evalArgs_plain ?_);exact aF l fun p u ⟨n,K,J,r2,y⟩=>D k u g K x n v p Q J r1 r2 y
end
def Ie(X:Cx)(id:String)(r:V->List V->Hp->VK->Prop):Prop :=
 ∀(d:List (Ç×Obj))(s:É)(a:St)(H:Hp)(x:V)(b:List V)(v:Ä)(c:List Ä)(Q:VK),Inv X d a H s->RelV x v->Vals b c->r x b H Q ->
  Í (model X.prog X.w) X.A (call (.builtin id) (v::c)) (EP X d a Q) X.xe s
theorem Vals.one{x:V}{us:List Ä}(h:Vals [x] us):∃u,us=[u]/\RelV x u:=by
 cases h with
 |cons r h=>cases h;exact⟨_,rfl,r⟩
theorem Vals.zero:∀{us:List Ä},Vals [] us->us=[]
 |_,.nil=>rfl
theorem Vals.dropLast(h:Vals xs us):Vals xs.dropLast us.dropLast:=by
 induction h with
 |nil=>exact .nil
 |cons r t a =>
  cases t with
  |nil=>exact .nil
  |cons q b=>exact .cons r a
theorem Vals.rep(h:Vals xs us):∀k:Nat,Vals (Æ k xs).flatten (Æ k us).flatten
 |0=>.nil
 |k+1=>by
  rw[ì,ì,ď,ď];exact Vals.append h (Vals.rep h k)
theorem wK{α:Type}(l:List α):l.eraseIdx (l.length-1)=l.dropLast:=by
 induction l with
 |nil=>rfl
 |cons a r c =>
  cases r with
  |nil=>rfl
  |cons b r =>
   have e:(a::b::r).length-1=((b::r).length-1)+1:=by
    have f:(a::b::r).length=r.length+2:=rfl;have d:(b::r).length=r.length+1:=rfl;lia
   rw[e,List.eraseIdx_cons_succ,c]
   all_goals rfl
theorem qK(Om:List Ä):∀(k:Nat)(acc:List Ä),
  N! (fun x1 x2=>x1++x2) acc.toArray (Æ k Om.toArray)=(acc++(Æ k Om).flatten).toArray
 |0,acc=>by simp
 |k+1,acc=>by
  have e:acc.toArray++Om.toArray=(acc++Om).toArray:=by simp
  have a:(acc++Om)++(Æ k Om).flatten=acc++(Æ (k+1) Om).flatten:=by
   rw[ì,ď,yN]
  rw[<- a,<- qK Om k (acc++Om),<- e,ì,ő]
section
variable{X:Cx}{Og:List (Ç×Obj)}{σ:St}{H:Hp}{s:É}{l b:Ç}{xs ys zs:List V}
theorem Inv.lset{Om its':List Ä}{n:Nat}{f:Array Ä->Array Ä}{t':Nat}(I:Inv X Og σ H s)(d:H l=À (.lst xs))
  (e:s.heap.get? l=À { cls:=.type "list",data:=.seq Om.toArray n }) (c:f Om.toArray=its'.toArray) (a:Vals ys its') (hz:ys.length<=Ë) :
  Inv X Og σ (ak H l (.lst ys)) { s with heap:=s.heap.update l (Ġ f),toks:=t' }:=by
 have q:=PySem.IsL.update e f;rw[c]at q;refine I.write (x:=l) (e:=l) (by rw[d];exact trivial) (.inl rfl) (fun g u hb b=>(o? s.heap (Ġ f) (ç hb)).trans b) ⟨_,q⟩ ?_;exact⟨hz,its',_,a,q⟩
theorem Inv.lnew{t':Nat}(I:Inv X Og σ H s)(a:Vals ys Om)(hz:ys.length<=Ë) :
  Inv X Og σ (ak H s.heap.objs.size (.lst ys)) { s with heap:=s.heap.push { cls:=.type "list",data:=.seq Om.toArray },toks:=t' } :=
 I.laid (fun _ _ q=>zG _ q) (zP _) ⟨hz,Om,0,a,zY _ rfl⟩
theorem Inv.fresh(I:Inv X Og σ H s):H s.heap.objs.size=Á:=I.Op.fresh (zP _)
theorem Inv.lstM(I:Inv X Og σ H s)(a:H l=À (.lst xs)):xs.length<=Ë/\∃(Om:List Ä)(n:Nat),Vals xs Om/\xs.length=Om.length/\s.heap.get? l=À { cls:=.type "list",data:=.seq Om.toArray n }:=by
 obtain⟨z,Om,n,r,e⟩:=I.Op l _ a;exact⟨z,Om,n,r,r.length,e⟩
theorem notLongL{n:Nat}(h:n<=Ë):ø n=Ã:=by
 unfold ø;exact yA oM
end
section
variable{X:Cx}
def Dj:V->List V->Hp->VK->Prop:=fun x b H Q=>∃l a y,x=.ref l/\b=[y]/\H l=À (.lst a)/\a.length<Ë/\Q .non (ak H l (.lst (a++[y])))
theorem qF:Ie X "list.append" Dj:=by
 intro m s f H x i v j Q I rx c h;obtain⟨l,g,y,rfl,rfl,a,hz,q⟩:=h;cases rx;obtain⟨u,rfl,d⟩:=c.one;obtain⟨z,b,n,r,k,e⟩:=I.lstM a;refine Ŧ F.slot_list_append ⟨_,e,rfl⟩ F.entry_list_append (F.args_list_append_2 _ _) (PySem.list_append l b.toArray n u (by rw[zI];lia)) ⟨e,?_⟩;refine⟨.non,_,I.lset (its':=b++[u]) a e (by simp) (r.append (.cons d .nil)) ?_,rfl,q⟩;rw[zV,Ý];lia
def LN:V->List V->Hp->VK->Prop:=fun x b H Q=>∃l a y,x=.ref l/\b=[]/\H l=À (.lst a)/\a[a.length-1]?=À y/\Q y (ak H l (.lst a.dropLast))
theorem GP:Ie X "list.pop" LN:=by
 intro w s m H x p v t Q I rx f h;obtain⟨l,o,y,rfl,rfl,d,i,q⟩:=h;cases rx;have c:=f.zero;subst c;obtain⟨z,a,n,r,k,e⟩:=I.lstM d;obtain⟨u,j,g⟩:=r.get i;have b:a.toArray[a.toArray.size-1]?=À u:=by
  show a.toArray[a.length-1]?=À u;rw[<- q!,<- k];exact j
 refine Ŧ F.slot_list_pop ⟨_,e,rfl⟩ F.entry_list_pop (F.args_list_pop_1 _) (MeetsSeq.list_pop_last l a.toArray n u b (by rw[zI];lia)) ⟨e,?_⟩;refine⟨y,_,I.lset (its':=a.dropLast) d e ?_ r.dropLast ?_,g,q⟩
 ·show a.toArray.eraseIdxIfInBounds (a.toArray.size-1)=a.dropLast.toArray
  rw[zI,List.eraseIdxIfInBounds_toArray,wK]
 ·rw[List.length_dropLast]
  lia
def LM:R2:=fun x y H Q=>∃l k a,x=.ref l/\y=.int k/\H l=À (.lst a)/\-(2^63)<=k/\k<2^63/\a.length*k.toNat<=Ë /\
 ∀p,H p=Á->Q (.ref p) (ak H p (.lst (Æ k.toNat a).flatten))
theorem El{α:Type}(xs:List α)(k:Nat):(Æ k xs).flatten.length=k*xs.length:=by
 induction k with
 |zero=>simp
 |succ k a=>rw[ì,ď,zV,a,y?,Nat.add_comm]
theorem Gu:mj X (ŷ .Mult) LM:=by
 intro L s G H x y v u Q I rx w h;obtain⟨l,k,J,rfl,rfl,B,D,C,hz,q⟩:=h;cases rx;obtain⟨t,rfl⟩:=w;obtain⟨z,b,n,r,A,e⟩:=I.lstM B;have f:b.toArray.size*k.toNat<=Ë:=by rw[zI,<- A];exact hz
 have i:¬b.toArray.size*k.toNat > (2^63-1)/8:=by
  have:(Ë:Nat)<=(2^63-1)/8:=by decide
  lia
 have g:¬(!Builtin.List.listFitsIndex k)=Â:=by
  rw[fitsIndex_both D C];exact ĝ
 have c:¬ø (b.toArray.size*k.toNat)=Â:=by
  rw[notLongL f];exact ĝ
 have d:N! (fun o j=>o++j) #[] (Æ (if b.toArray.isEmpty=Â then 0 else k.toNat) b.toArray)=(Æ k.toNat b).flatten.toArray:=by
  have E:∀m:Nat,N! (fun o j=>o++j) #[] (Æ m b.toArray)=(Æ m b).flatten.toArray:=fun m=>by
   have:=qK b m []
   rw[S3]at this;exact this
  rw[E];cases b with
  |nil=>simp
  |cons a K=>rw[yH (by simp)]
 refine wpAny_binaryOp_repeat_ref (T:="list") (U:="int") dC ⟨_,e,rfl⟩ (fun p=>T4 p k t) noFill_list_mul F.fills_int_mul F.slot_int_rmul repeat_list F.slot_int_index.lookup
  (Ŧ F.slot_int_rmul (T4 s k t) F.entry_int_rmul (F.args_int_rmul_2 _ _) (int___rmul___int_list k t l b.toArray n)
   ⟨e,rfl,⟨_,e,rfl⟩,Ŧ F.slot_list_mul ⟨_,e,rfl⟩ F.entry_list_mul (F.args_list_mul_2 _ _) (AutoListH.list___mul___list_int_3 l b.toArray n k t g i c) ⟨e,?_⟩⟩)
 rw[d];exact⟨.ref _,_,I.lnew (t':=s.toks) (r.rep k.toNat) (by rw[El,Nat.mul_comm];exact hz),rfl,q _ I.fresh⟩
end
end L2
namespace Att
open PySem PySem.W PySem.Calls PyProof.Rows
theorem oX:∀(ns:List Int)(vs:List Ä),WellAll P h vs (ns.map WData.int)->ſ vs ns:=by
 intro ns
 induction ns with
 |nil =>
  intro vs w;rw[Ϡ]at w;cases w;exact .nil
 |cons n ns c =>
  intro vs w;rw[zO]at w;cases w with
  |cons a b =>
   cases a;exact .cons _ _ (c _ b)
theorem xE{l:OpenLaw}{n:Nat}(o:l.most=À n){P:Params}{h:è}{args:List WData}{b:List Ä}
  (c:l.row.toRowW.claim.pre args=Â) (i:WellAll P h b args) :
  ∃a vs ns,b=[ó a]/\args=[WData.list (ns.map WData.int)]/\h.get? a=À { cls:=.type "list",data:=.seq vs.toArray }/\ſ vs ns/\ns.length<=n:=by
 have j:WShape.hasAll [] args [.list .int]=Â:=(pre_splitW c).1;have k:l.pre.holds [] { args:=args }=Â:=(pre_splitW c).2;obtain⟨d,r,rfl,t,s⟩:=hasAllW_cons j;obtain rfl:=hasAllW_nil s;obtain⟨u,rfl,p⟩:=hasW_list t;obtain⟨ns,rfl⟩:=items_int p;have e:ns.length<=n:=by
  unfold OpenLaw.pre at k;have g:(WTm.not (.lt (.lit (.int (n:Int))) (.len (.arg 0)))).holds [] { args:=[.list (ns.map .int)] }=Â:=by
   have g:=(holds_andW k).1;rw[o]at g;exact g
  have f:=condW_of g (w_not (w_lt w_lit (w_len_list (w_arg rfl))));rw[zH]at f;refine R9 fun q=>?_
  have m:(n:Int)<((ns.length:Nat):Int):=by lia
  first
   | (rw [yW m] at f;exact absurd f dC)
   | (simp at f;lia)
 cases i with
 |cons w1 w2 =>
  cases w2;cases w1 with
  |list ho hall=>exact⟨_,_,ns,rfl,rfl,ho,oX ns _ hall,e⟩
theorem xR(l:OpenLaw)(args:List WData):l.row.toRowW.claim.post args (.bool Â) args=Â :=
 postW_of (r:=l.row.toRowW) (X:=(Â==Â))
  (show WShape.has [] (.bool Â) .bool=Â by first | rfl | decide | simp [WShape.has,WShape.arms,WShape.armsAll])
  (show (WTm.eq .res (.lit (.bool Â))).value [] { args:=args,res:=À (.bool Â),after:=args }=À (.bool (Â == Â)) from w_eq_bool (w_res rfl) w_lit) rfl
theorem attach_call{l:OpenLaw}{n:Nat}{q:Ò}{b8:List Ì}{v:(Ì->Option Ä)->è->Prop}{u:Û->è->Prop}{d:DefRec}
  (A:l.most=À n) (j:d.params.defaults=[])
  (call:∀(w:Û)(s₀ s₁:É)(mg mb:Ì->Option Ä)(fa:Ç)(o:W4)(pm cd doc:Ä)(a:Ç)(vs:List Ä)(ns:List Int),
   Ground q b8 [] v w s₀ mg mb s₁.heap->u w s₁.heap ->
   s₁.heap.get? fa=À o->o.data=.func (docDef d.name d.params d.body d.scope pm cd doc)->s₁.heap.CodeRec cd d.name->mg d.name=À (.ref fa) ->
   s₁.heap.get? a=À { cls:=.type "list",data:=.seq vs.toArray }->ſ vs ns->ns.length<=n->s₁.gens=#[] ->
   ŉ (model l.prog w) Ż (.call (.ref fa) ⟨[.ref a],[]⟩) (fun r s'=>r=.ok (.ret (.bool Â))/\OldK s₁.heap s'.heap/\s'.os=s₁.os/\ύ s'.gens) s₁) :
  WalkO q b8 v u l.row.toRowW d [] (fun f vs=>G? f vs):=by
 intro w s₀ s₁ mg mb G Y fa o pm cd doc I kV z hd k s i D t m J c p x h C;obtain rfl:I=.none:=Dflts.none s j;obtain rfl:kV=.none:=Dflts.noKw s;obtain⟨a,vs,ns,rfl,rfl,e,b,g⟩:=xE A c h;refine enter_call (ŝ (call w s₀ s₁ mg mb fa o pm cd doc a vs ns G Y z (fd_plain hd) k i e b g D) fun r s' y=>?_);obtain⟨rfl,H,F,E⟩:=y;exact⟨.inl ⟨.bool Â,.bool Â,[],rfl,fun _=>rfl,.bool Â,xR l _,fun _=>⟨ų,fun _ B=>(nomatch B)⟩⟩,H,F,E⟩
end Att
namespace L2
open PySem PySem.Spec PyProof.Rows
theorem w6:∀{vs:List Ä}{ns:List Int},ſ vs ns->Vals (ns.map V.int) vs:=by
 intro vs ns h
 induction h with
 |nil=>exact .nil
 |cons n t h a=>exact .cons ⟨t,rfl⟩ a
noncomputable def cL(s:Ľ):Ϣ:=match s with
 |.FunctionDef _ a _ _ _ _ _ _ _ _=>a
 |_=>{ posonlyargs:=[],args:=[],vararg:=Á,kwonlyargs:=[],kw_defaults:=[],kwarg:=Á,defaults:=[] }
noncomputable def cK(s:Ľ):List Ľ:=match s with
 |.FunctionDef _ _ b _ _ _ _ _ _ _=>b
 |_=>[]
noncomputable def bQ(s:Ľ):Ğ:=match s with
 |.FunctionDef _ _ _ _ _ _ sc _ _ _=>sc
 |_=>{ kind:=.function,names:=[],isGenerator:=Ã,isCoroutine:=Ã }
abbrev fu:mo:=fun _ _ _ _ _ _=>False
abbrev E0:XK:=fun _ _ _=>False
theorem oC:iz fu X E0:=fun _ _ _ _ _ _ _ h=>h.elim
structure Fun(K:ã)(x qual:Ì)(st:Ľ)(f:Ç)(fd:Ė):Prop where
 ex:∃(oc:Ä)(od:Option Ç)(kV doc pm:Ä)(an:Option Ç)(cdv ct:Ä)(osl:Array (Option Ä)),
  fd=fnOf x qual (cL st) (cK st) (bQ st) .none kV doc pm an cdv ct/\K.lookup f=À ⟨oc,od,.func fd,osl⟩/\Ϙ K cdv qual=Â
 kp:Ĺ K (.ref f)=Â
section
variable{P:Ò}{w:Û}{K:ã}{mg:Ì->Option Ä}{base:è}
theorem Fun.binds{x qual:Ì}{st:Ľ}{f:Ç}{fd:Ė}{ps:List Ì}(F:Fun K x qual st f fd)
  (h:∀(kV doc pm:Ä)(an:Option Ç)(cdv ct:Ä)(us:List Ä),us.length=ps.length->w! (fnOf x qual (cL st) (cK st) (bQ st) .none kV doc pm an cdv ct) ⟨us,[]⟩=pure (ps.zip us)):Binds K fd ps []:=by
 obtain⟨d,c,kV,doc,pm,an,cdv,ct,a,rfl,lk,b⟩:=F.ex;exact .all (h kV doc pm an cdv ct)
theorem pj{x qual:Ì}{st:Ľ}{f:Ç}{h:Ä}{g e:Option Ç}{d:Array (Option Ä)}{kV b pm a ct:Ä}(l:K.lookup f=À ⟨h,g,.func (fnOf x qual (cL st) (cK st) (bQ st) .none kV b pm e a ct),d⟩)
  (c:Ϙ K a qual=Â) (k:Ĺ K (.ref f)=Â):Fun K x qual st f (fnOf x qual (cL st) (cK st) (bQ st) .none kV b pm e a ct):=⟨⟨h,g,kV,b,pm,e,a,ct,d,rfl,l,c⟩,k⟩
end
theorem qA{n:Nat}(h:n<=1000):n<Ë:=yM h dC
end L2
set_option maxHeartbeats 4000000
namespace DD
open PySem PySem.Spec PyProof.Rows L2
abbrev St:=L2.St
section
variable{X:Cx}{e:Î}{es:List Î}{st:Ľ}{sts:List Ľ}
theorem PE_imp(h:PE X e t)(i:∀σ H Q,t' σ H Q->t σ H Q):PE X e t':=fun b s σ H Q I a=>h b s σ H Q I (i σ H Q a)
theorem PT_imp(h:PT X e t)(i:∀σ H Q,t' σ H Q->t σ H Q):PT X e t':=fun b s σ H Q I a=>h b s σ H Q I (i σ H Q a)
theorem PW_imp(h:PW X e t)(i:∀σ H Q,t' σ H Q->t σ H Q):PW X e t':=fun a c s σ H Q I b=>h a c s σ H Q I (i σ H Q b)
theorem PA_imp(h:PA X es t)(i:∀σ H Q,t' σ H Q->t σ H Q):PA X es t':=fun p b s σ H Q I a=>h p b s σ H Q I (i σ H Q a)
theorem PS_imp(h:PS X st t)(i:∀D σ H,t' D σ H->t D σ H):PS X st t':=fun b s σ H D I a=>h b s σ H D I (i D σ H a)
theorem PSs_imp(h:PSs X sts t)(i:∀D σ H,t' D σ H->t D σ H):PSs X sts t':=fun b s σ H D I a=>h b s σ H D I (i D σ H a)
theorem OpR_imp(h:mj X f r)(i:∀x y H Q,r' x y H Q->r x y H Q):mj X f r':=fun e s c H x y v u Q I a b d=>h e s c H x y v u Q I a b (i x y H Q d)
end
theorem PG_imp(h:PG X tg t)(i:∀v σ H Q,t' v σ H Q->t v σ H Q):PG X tg t':=fun c s σ H v u Q I a b=>h c s σ H v u Q I a (i v σ H Q b)
end DD
namespace L2
open PySem PySem.Spec PyProof.Rows
theorem pC:∀(names:List (Ì×NameKind))(n:Nat)(acc:List (Ì×Addr)),∃own,ē n names acc=own++acc/\(∀p∈own,n<=p.2/\(p.1,ě)∈names) /\
  (∀x,(x,ě)∈names->∃c,(x,c)∈own)/\own.Pairwise fun x y=>x.2≠y.2
 |[],n,acc=>⟨[],rfl,(fun _ h=>by cases h),(fun _ h=>by cases h),ų⟩
 |(name,kind)::r,n,acc=>by
  unfold ē;by_cases hk:kind=.cell
  ·subst hk
   obtain⟨own,e,h1,h2,h3⟩:=pC r (n+1) ((name,n)::acc);refine⟨own++[(name,n)],?_,?_,?_,?_⟩
   ·rw[yI dC,e,yN];rfl
   ·intro p f
    rcases zZ.mp f with f|f
    ·exact⟨Đ (h1 p f).1,zQ _ (h1 p f).2⟩
    ·rw[zM.mp f];exact⟨zP _,z7⟩
   ·intro x d
    rcases zT.mp d with d|d
    ·cases d;exact⟨n,zK _ z7⟩
    ·obtain⟨c,j⟩:=h2 x d;exact⟨c,zL _ j⟩
   ·refine List.pairwise_append.mpr ⟨h3,List.pairwise_singleton _ _,fun a k b hb e=>?_⟩
    rw[zM.mp hb]at e;have i:=(h1 a k).1;rw[show a.2=n from e]at i;exact absurd i (Nat.not_succ_le_self n)
  ·obtain⟨own,e,h1,h2,h3⟩:=pC r n acc
   have g:(kind==ě)=Ã:=by cases kind<;>first|rfl|exact absurd rfl hk
   refine⟨own,by rw[g];exact e,fun p f=>⟨(h1 p f).1,zQ _ (h1 p f).2⟩,fun x d=>?_,h3⟩;rcases zT.mp d with d|d
   ·cases d;exact absurd rfl hk
   ·exact h2 x d
theorem kI(h:∀x,(x,Ú)∈scope.names->∃c,env.cells.lookup x=À c) :
  ∃cl,T7 scope env=pure cl/\(∀p∈cl,env.cells.lookup p.1=À p.2)/\∀x,(x,Ú)∈scope.names->∃c,(x,c)∈cl:=by
 have all:∀(a:List (Ì×NameKind))(b:List (Ì×Addr)),(∀x,(x,Ú)∈a->∃c,env.cells.lookup x=À c)->(∀p∈b,env.cells.lookup p.1=À p.2) ->
   ∃cl,(forIn (m:=W1) a b fun(p:Ì×NameKind)(v:List (Ì×Addr))=>if(p.2==Ú)=Â then do let f <- cellOf env p.1;pure (Į ((p.1,f)::v)) else pure (Į v))=pure cl /\
    (∀p∈cl,env.cells.lookup p.1=À p.2)/\(∀p∈b,p∈cl)/\∀x,(x,Ú)∈a->∃c,(x,c)∈cl:=by
  intro a
  induction a with
  |nil=>intro b _ l;exact⟨b,by rw[S9],l,fun _ h=>h,(fun _ h=>by cases h)⟩
  |cons p r t =>
   obtain⟨g,kind⟩:=p;intro b o l;by_cases s:kind=.free
   ·subst s
    obtain⟨c,u⟩:=o g z7;obtain⟨cl,e,k,n,j⟩:=t ((g,c)::b) (fun x d=>o x (zQ _ d)) (fun p i=>by
     rcases zT.mp i with rfl|i
     ·exact u
     ·exact l p i)
    refine⟨cl,?_,k,fun p i=>n p (zQ _ i),fun x d=>?_⟩
    ·rw[S4]
     have w:cellOf env g=pure c:=by unfold cellOf;rw[u]
     simp only[w];exact e
    ·rcases zT.mp d with d|d
     ·cases d;exact⟨c,n _ z7⟩
     ·exact j x d
   ·obtain⟨cl,e,k,n,j⟩:=t b (fun x d=>o x (zQ _ d)) l
    have q:(kind==Ú)=Ã:=by cases kind<;>first|rfl|exact absurd rfl s
    refine⟨cl,?_,k,n,fun x d=>?_⟩
    ·rw[S4];simp only[q,yB,if_false];exact e
    ·rcases zT.mp d with d|d
     ·cases d;exact absurd rfl s
     ·exact j x d
 obtain⟨cl,e,k,_,j⟩:=all scope.names [] h (fun _ h=>by cases h);refine⟨cl,?_,k,j⟩;simp only[T7];rw[e];rfl
theorem Be
  (d:Q (T5 scope s.heap.objs.size env.globals (ē (s.heap.objs.size+1) scope.names cl) env.qual Á .none (À env) ę) { s with heap:=Ŷ (s.heap.push { cls:=.type "dict",data:=.dict #[] }) scope.names }) :
  Í M A (u? scope env.globals cl [] env.qual Á .none (À env)) Q E s:=by
 simp only[u?,B?,if_true];refine yF (wpAny_alloc ?_);refine yF (wpAny_layCells _ (fun c kind b=>by cases a:kind==ě<;>simp[a]) _ _ _ _ ?_);rw[show({ s with heap:=s.heap.push { cls:=.type "dict",data:=.dict #[] } }:É).heap.objs.size=s.heap.objs.size+1 from Ħ ..];refine yF ?_;rw[S9];exact yG (yG d)
def cB(X:Cx)(N':List Ì)(scope:Ğ)(cl:List (Ì×Addr))(s:É)(H:Hp)(a:List Ç)(Og:List (Ç×Obj)):Cx :=
 { X with N:=N',s₀:=s,H₀:=H,env:=compEnvC scope (ē (s.heap.objs.size+1) scope.names cl) s.heap.objs.size X.env,outer:=X.stack,stack:=X.stack,ex:=a,
          fn:=fun x=>scope.names.lookup x==À .cell,pn:=X.pn++Og,xe:=fun _ _=>False }
structure jO(X:Cx)(N':List Ì)(scope:Ğ):Prop where
 kind:scope.kind=.function
 nd:(scope.names.map (·.1)).Nodup
 len:X.N.length<=N'.length
 free:∀x,(x,Ú)∈scope.names->X.env.kindOf x=À .cell\/X.env.kindOf x=À .free
 same:∀i x,i<X.N.length->N'[i]?=À x->(x,Ú)∈scope.names->X.N[i]?=À x
 hid:∀i x,i<X.N.length->N'[i]?=À x->(∃k,(x,k)∈scope.names)->(x,Ú)∈scope.names
theorem dk{α:Type}:∀{l:List (Ì×α)}{x:Ì}{k:α},(l.map (·.1)).Nodup->(x,k)∈l->l.lookup x=À k
 |(y,j)::r,x,k,nd,h=>by
  rw[zO,ľ]at nd;rcases zT.mp h with h|h
  ·cases h;rw[yO];simp
  ·have ne:x≠y:=fun e=>nd.1 (e▸ϒ (f:=(·.1)) h)
   rw[yO];have:(x==y)=Ã:=by simpa using ne
   rw[this];exact dk nd.2 h
theorem gj{α:Type}:∀{l:List (Ì×α)}{x:Ì}{k:α},(x,k)∈l->∃k',l.lookup x=À k'
 |(y,j)::r,x,k,h=>by
  rw[yO];cases hb:x==y with
  |true=>exact⟨j,rfl⟩
  |false =>
   rcases zT.mp h with h|h
   ·cases h;simp at hb
   ·exact gj h
theorem g9(h:(relabel scope env).names.lookup x=À k):(x,k)∈scope.names\/((x,Ú)∈scope.names/\k=.cell):=by
 have b:=mem_of_lookup h;unfold relabel at b;obtain⟨⟨n,j⟩,a,e⟩:=yD.mp b;dsimp only at e;split at e
 ·rename_i c
  cases e;refine .inr ⟨?_,rfl⟩;have:j=.free:=by
   cases j<;>simp at c<;>rfl
  subst this;exact a
 ·cases e;exact .inl a
theorem rg{α:Type}{a b:List (Ì×α)}(h:∀p∈a,p.1≠x):(a++b).lookup x=b.lookup x:=by
 induction a with
 |nil=>rfl
 |cons p r c =>
  obtain⟨y,j⟩:=p;rw[Ϫ,yO];have:(x==y)=Ã:=by
   have:=h (y,j) z7
   simpa using fun e:x=y=>this e.symm
  rw[this];exact c fun p d=>h p (zQ _ d)
section
variable{X:Cx}{N':List Ì}{scope:Ğ}{cl:List (Ì×Addr)}{s:É}{H:Hp}{fp:List Ç}{Og:List (Ç×Obj)}{σ:St}
theorem BM(T:jO X N' scope)(I:Inv X Og σ H s)(N:∀p∈cl,X.env.cells.lookup p.1=À p.2)(W:∀x,(x,Ú)∈scope.names->∃c,(x,c)∈cl)
  (hf:∀b∈fp,dY X Og H b) (ho:∀b∈fp,∃o,s.heap.get? b=À o) :
  Inv (cB X N' scope cl s H fp Og) [] (σ++Æ (N'.length-X.N.length) Á) H { s with heap:=Ŷ (s.heap.push { cls:=.type "dict",data:=.dict #[] }) scope.names }:=by
 obtain⟨g,M,o1,o2,o3⟩:=pC scope.names (s.heap.objs.size+1) cl;have B:∀b o,s.heap.get? b=À o->(Ŷ (s.heap.push { cls:=.type "dict",data:=.dict #[] }) scope.names).get? b=À o:=fun b o e=>k? _ _ b o (zG _ e)
 have clt:∀x c,(x,c)∈cl->c<s.heap.objs.size:=fun x c h=>by
  obtain⟨v,z⟩:=I.cell x c (N _ h);exact z.lt
 have f:∀x c,(g++cl).lookup x=À c->(s.heap.objs.size+1<=c/\(x,c)∈g)\/X.env.cells.lookup x=À c:=fun x c h=>by
  rcases zZ.mp (mem_of_lookup h) with h|h
  ·exact .inl ⟨(o1 _ h).1,h⟩
  ·exact .inr (N _ h)
 have hst:∀b∈fp,b∉j3 X.stack:=fun b hb z=>by
  rcases zT.mp (I.stkSub b z) with e|e
  ·exact(hf b hb).2.1 e
  ·exact(hf b hb).2.2.1 e
 have okc:CellsOk (Ŷ (s.heap.push { cls:=.type "dict",data:=.dict #[] }) scope.names) (s.heap.objs.size+1) (ē (s.heap.objs.size+1) scope.names []):=by
  have q:=cellsFrom_ok scope.names (s.heap.push { cls:=.type "dict",data:=.dict #[] }) (s.heap.objs.size+1) [] ⟨(fun _ _ V=>by cases V),ų⟩ (by rw[Ħ];exact zP _);rw[Ħ]at q;exact q
 have Z:ē (s.heap.objs.size+1) scope.names []=g:=by
  obtain⟨own',e',_⟩:=pC scope.names (s.heap.objs.size+1) [];have Q:∀(A:List (Ì×NameKind))(n:Nat)(D:List (Ì×Addr)),ē n A D=ē n A []++D:=by
   intro A
   induction A with
   |nil=>intro n D;rfl
   |cons p r S =>
    obtain⟨F,kind⟩:=p;intro n D;unfold ē;split
    ·rw[S (n+1) ((F,n)::D),S (n+1) [(F,n)],yN];rfl
    ·exact S n D
  have:=Q scope.names (s.heap.objs.size+1) cl
  rw[M]at this;exact(List.append_cancel_right this).symm
 have ok:(cB X N' scope cl s H fp Og).Ok:=by
  refine⟨I.ok.mod,T.kind,I.ok.glob,I.ok.blt,zP _,fun x y c Y K=>?_,fun x h=>?_,fun x c Y K=>?_,I.ok.hd,I.ok.frames,.inl rfl,fun b hb=>⟨?_,fun x c h=>?_⟩,I.bs,z5 I.ok.bsz I.sz,fun b o e hb=>?_,hst,I.stack,I.stkFree⟩
  ·have Y:(g++cl).lookup x=À c:=M▸Y
   have K:(g++cl).lookup y=À c:=M▸K;rcases f x c Y with⟨J,R⟩|E
   ·rcases f y c K with⟨l2,m2⟩|L
    ·exact name_of_addr o3 R m2
    ·obtain⟨v,z⟩:=I.cell y c L
     exact absurd (zJ z.lt (Đ (by first|exact l2|exact J))) (xB _)
   ·rcases f y c K with⟨l2,m2⟩|L
    ·obtain⟨v,z⟩:=I.cell x c E
     exact absurd (zJ z.lt (Đ (by first|exact l2|exact J))) (xB _)
    ·exact I.ok.inj x y c E L
  ·show ∃c,(ē (s.heap.objs.size+1) scope.names cl).lookup x=À c
   rw[M];have w:(x,Ú)∈scope.names->∃c,(g++cl).lookup x=À c:=fun V=>by
    obtain⟨c,P⟩:=W x V;exact gj (zK g P)
   have C:(x,ě)∈scope.names->∃c,(g++cl).lookup x=À c:=fun V=>by
    obtain⟨c,P⟩:=o2 x V;exact gj (zL cl P)
   rcases h with h|h
   ·rcases g9 h with h|⟨h,_⟩
    ·exact C h
    ·exact w h
   ·rcases g9 h with h|⟨h,e⟩
    ·exact w h
    ·cases e
  ·have K:(g++cl).lookup x=À c:=M▸K
   have P:scope.names.lookup x=À .cell:=by
    have:(scope.names.lookup x==À ě)=Â:=Y;simpa using this
   rcases f x c K with⟨J,R⟩|E
   ·exact Đ J
   ·-- x is one of the block's g: Om cell stands ahead
    obtain⟨c',O⟩:=o2 x (mem_of_lookup P);obtain⟨c2,G⟩:=gj O;have:(g++cl).lookup x=À c2:=by
     have Q:∀l:List (Ì×Addr),l.lookup x=À c2->(l++cl).lookup x=À c2:=by
      intro l
      induction l with
      |nil=>intro h;cases h
      |cons p r S =>
       obtain⟨y,j⟩:=p;intro h;rw[Ϫ,yO];rw[yO]at h;cases hb:x==y with
       |true=>rw[hb]at h;exact h
       |false=>rw[hb]at h;exact S h
     exact Q g G
    rw[this]at K;cases K;exact Đ (o1 _ (mem_of_lookup G)).1
  ·obtain⟨o,e⟩:=ho b hb
   exact zU (yJ e)
  ·have h:(g++cl).lookup x=À c:=M▸h
   obtain⟨o,e⟩:=ho b hb;have hlt:=yJ e;rcases f x c h with⟨J,R⟩|E
   ·intro z
    rw[z]at J;exact absurd (zJ hlt (Đ J)) (xB _)
   ·exact(hf b hb).2.2.2.2.1 x c E
  ·rcases(hf b hb).2.2.2.1 with z|z
   ·exact I.ok.noex b o e z
   ·exact absurd (zJ (yJ e) (z5 I.ok.bsz z)) (xB _)
 refine⟨ok,rfl,I.bare,Un.kept B,⟨fun _=>Á,(Heap.Ns.new s.heap (.type "dict")).keeps (k? _ _),fun i x v E L e3=>?_⟩,fun x c h=>?_,I.Op.fresh (zP _),fun x c h=>?_,fun p hp=>?_,I.Op.kept B,?_⟩
 ·-- a F of the code around
  have hlen:=I.len;have hi:i<σ.length:=by
   rcases yU i σ.length with h|h
   ·exact h
   ·rw[z6 h]at L
    rw[ð]at L;split at L<;>cases L
  rw[zN hi]at L;have U:∃k,(x,k)∈scope.names:=by
   have:∃k,(relabel scope X.env).names.lookup x=À k:=by
    rcases e3 with h|h|h<;>exact⟨_,h⟩
   obtain⟨k,h⟩:=this;rcases g9 h with h|⟨h,_⟩<;>exact⟨_,h⟩
  have t:=T.hid i x oM E U;have eX:=T.same i x oM E t;have kX:=T.free x t;obtain⟨m,hn,hl⟩:=I.loc;obtain⟨u,ru,lk⟩:=hl i x v eX L (by rcases kX with h|h;exact .inr (.inl h);exact .inr (.inr h));refine⟨u,ru,.inr ⟨?_,?_⟩⟩
  ·-- Om kind in the block
   have:∃k,(relabel scope X.env).names.lookup x=À k:=by
    rcases e3 with h|h|h<;>exact⟨_,h⟩
   obtain⟨k,h⟩:=this;rcases g9 h with h'|⟨h',e⟩
   ·have e5:=dk T.nd h'
    have e6:=dk T.nd t;rw[e5]at e6;cases e6;exact .inr h
   ·subst e;exact .inl h
  ·rcases lk with⟨k1,_⟩|⟨_,c,P,z⟩
   ·rcases kX with h|h<;>rw[h]at k1<;>cases k1
   ·refine⟨c,?_,z.keeps B⟩
    show(ē (s.heap.objs.size+1) scope.names cl).lookup x=À c;rw[M,rg fun p hp e=>?_]
    ·obtain⟨c',O⟩:=W x t
     obtain⟨c2,G⟩:=gj O
     have:=N _ (mem_of_lookup G)
     rw[P]at this;cases this;exact G
    ·have e5:=dk T.nd (o1 p hp).2
     rw[e]at e5;have e6:=dk T.nd t;rw[e5]at e6;cases e6
 ·have h:(g++cl).lookup x=À c:=M▸h
  rcases f x c h with⟨J,R⟩|E
  ·exact⟨Á,(okc.empty x c (Z▸R)).1⟩
  ·obtain⟨v,z⟩:=I.cell x c E
   exact⟨v,z.keeps B⟩
 ·have h:(g++cl).lookup x=À c:=M▸h
  rcases f x c h with⟨J,R⟩|E
  ·exact I.Op.fresh (Đ J)
  ·exact I.freeC x c E
 ·rw[å]at hp
  obtain⟨e,n,ne,nf,d⟩:=I.pin p hp;refine⟨B _ _ e,n,zU (yJ e),fun z=>?_,d⟩;rcases zT.mp (I.stkSub p.1 z) with z|z
  ·exact ne z
  ·exact nf z
 ·show(σ++Æ (N'.length-X.N.length) Á).length=N'.length
  rw[zV,ü,I.len]
  have:=T.len
  lia
theorem HI(I:Inv X Og σ H s)(h:∀b∈fp,dY X Og H b)(f:Inv (cB X N' scope cl s H fp Og) pins1 σ1 H1 s1)(g:ĭ s.heap.objs.size s1.heap h') :
  Inv X Og σ H1 { s1 with heap:=h' }:=by
 have i:∀b o,s.heap.get? b=À o->b≠s.heap.objs.size:=fun b o e=>zU (yJ e)
 have u:=f.base;have j:Un (j3 X.stack) fp H H1 s.heap h':=by
  refine⟨fun b o e n hb a=>?_,fun b o e n hb a=>?_,u.free,fun b o e a=>?_,u.tups,u.frzs,u.tbls⟩
  ·rw[g.2 b (i b o e)];exact u.keep b o e n hb a
  ·obtain⟨k,q⟩:=u.slot b o e n hb a
   exact⟨k,by rw[g.2 b (i b o e)];exact q⟩
  ·obtain⟨l,q⟩:=u.there b o e a
   exact⟨l,by rw[g.2 b (i b o e)];exact q⟩
 have d:H1 s.heap.objs.size=Á:=f.free;refine I.call' (s':={ s1 with heap:=h' }) f.os j (fun b o e=>?_) f.bare fun b hb=>⟨(h b hb).2.2.2.1,(h b hb).2.1,(h b hb).2.2.2.2.1,(h b hb).2.2.2.2.2⟩
 refine(f.Op b o e).stay (fun c v m q=>(g.2 c ?_).trans q) (fun _ q=>q) fun _ _ q=>q
 rintro rfl;rcases m with z|z
 ·rw[<- z,d]at e;cases e
 ·rw[d]at z;cases z
def vJ(X:Cx)(b:List Î)(t:TT):Prop :=
 ∀(d:List (Ç×Obj))(s:É)(a:St)(H:Hp)(Q:Bool->Hp->Prop),Inv X d a H s->t a H Q ->
  Í (model X.prog X.w) X.A (forIn b Â fun c r=>if r=Â then do let ok <- v! c X.env (eval c X.env);pure (Į ok) else pure (Į r)) (TP X d a Q) X.xe s
theorem DM:vJ X [] (fun _ H Q=>Q Â H):=fun b s a H Q I h=>wpAny_tests_nil ⟨H,I,h⟩
theorem DL(h:PT X c t):vJ X [c] t:=fun d s a H Q I b=>wpAny_tests_one (h d s a H Q I b)
def Fd(k:Nat)(o:TI)(g:TG)(tt:TT)(te:TE):TE:=fun f H Q=>o f H fun J n=>∀p,n p=Á ->
 ∃W:Nat->Nat->St->Hp->Prop,(∃m,W 0 m (f++Æ k Á) (ak n p (.lst [])))/\∀i m b d,W i m b d ->
  (J.stop i d/\Q (.ref p) d)\/(J.go i d/\∀x l,J.yld i d x l->g x b l fun a q=>tt a q fun ok j=>if ok=Â then
   te a j fun y h=>∃e,h p=À (.lst e)/\e.length<Ë/\∃c,c<m/\W (i+1) c a (ak h p (.lst (e++[y])))
   else ∃c,c<m/\W (i+1) c a j)
theorem tS(I:Nat->É->Prop)
  (turn:∀n s,I n s->Í (model prog w) A (t! it) (fun r s₁=>match r with
   |none=>R (.ok .next) s₁
   |some v=>Í (model prog w) A (ϐ target it v) (fun _ s₁'=>Í (model prog w) A (assign target env v) (fun _ s₂ =>
     Í (model prog w) A (forIn ifs Â fun c r=>if r=Â then do let ok <- v! c env (eval c env);pure (Į ok) else pure (Į r)) (fun ok s₃ =>
      if ok=Â then Í (model prog w) A (eval elt env) (fun x s₄ =>
       Í (model prog w) A (call (.builtin "list.append") [acc,x]) (fun _ s₅=>∃m,m<n/\I m s₅) (fun _ _=>False) s₄) (fun _ _=>False) s₃
      else ∃m,m<n/\I m s₃) (fun _ _=>False) s₂) (fun _ _=>False) s₁') (fun _ _=>False) s₁) (fun _ _=>False) s)
  (n:Nat) (h:I n s):ŉ (model prog w) A (.compLoop (.ListComp elt [⟨target,iter,ifs,0⟩] scope pos) 0 it acc env) R s:=by
 refine codeAny_loop rfl I (fun n s j=>?_) n h;show Í _ A ((compTurn (.ListComp elt [⟨target,iter,ifs,0⟩] scope pos) 0 it acc env).onRaise (fun x=>do noteFrame x env;theTreesLotGoes x)) _ _ s;refine wpAny_noted ?_;rw[compTurn_list];refine yF (Ű (yF (yT (turn n s j) (fun r s₁ d=>?_) fun _ _ a=>a.elim)));cases r with
 |none=>exact yG d
 |some v =>
  refine yF (yT d (fun _ s₁' e=>?_) fun _ _ a=>a.elim);refine yF (yT e (fun _ s₂ i=>yF (yT i (fun ok s₃ b=>?_) fun _ _ a=>a.elim)) fun _ _ a=>a.elim);cases ok with
  |false=>exact yG ⟨rfl,b⟩
  |true =>
   exact yF (yF (yT b (fun x s₄ g=>yF (yT g (fun _ s₅ f=>yG (yG ⟨rfl,f⟩)) fun _ _ a=>a.elim)) fun _ _ a=>a.elim))
theorem sY{elt w R:Î}{A:List Î}{pos:ģ}{g:TG}{tt:TT}{te:TE}{J:It}{it:Ç}{tn:Nat->è->Prop}{Q:VK}{E:Ä->É->Prop}{RR:Ä->Ç->Result->É->Prop}
  (hc:X.calm=Â) (T:jO X N' scope) (hcl:∀p∈cl,X.env.cells.lookup p.1=À p.2) (hfr:∀x,(x,Ú)∈scope.names->∃c,(x,c)∈cl)
  (hg:∀cl s H fp Og,PG (cB X N' scope cl s H fp Og) R g) (ht:∀cl s H fp Og,vJ (cB X N' scope cl s H fp Og) A tt) (he:∀cl s H fp Og,PE (cB X N' scope cl s H fp Og) elt te)
  (I:Inv X Og σ H s) (t:kN X.prog X.w X.K R J fp it tn) (st0:tn 0 s.heap) (hf:∀b∈fp,dY X Og H b)
  (h:∀p,H p=Á->∃W:Nat->Nat->St->Hp->Prop,(∃m,W 0 m (σ++Æ (N'.length-X.N.length) Á) (ak H p (.lst [])))/\∀i m σ' H',W i m σ' H' ->
   (J.stop i H'/\Q (.ref p) H')\/(J.go i H'/\∀x H2,J.yld i H' x H2->g x σ' H2 fun σ2 H3=>tt σ2 H3 fun ok H4=>if ok=Â then
    te σ2 H4 fun y H5=>∃ys,H5 p=À (.lst ys)/\ys.length<Ë/\∃m',m'<m/\W (i+1) m' σ2 (ak H5 p (.lst (ys++[y])))
    else ∃m',m'<m/\W (i+1) m' σ2 H4))
  (hRR:∀p C s1 H1,Inv X Og σ H1 s1->Q (.ref p) H1->(∃m,s1.heap.Ns C m)->H1 C=Á->s.heap.objs.size<=C->RR (.ref p) C (.ok .next) s1) :
  Í (model X.prog X.w) X.A (newList []) (fun acc s₃=>Í (model X.prog X.w) X.A (u? scope X.env.globals cl [] X.env.qual Á .none (À X.env)) (fun cenv s₄ =>
   ŉ (model X.prog X.w) X.A (.compStart (.ListComp elt [⟨R,w,A,0⟩] scope pos) 0 (.ref it) acc { cenv with scope:=relabel scope X.env }) (RR acc cenv.locals) s₄) E s₃) E s:=by
 refine wpAny_newObj_type (Be ?_);have V:H s.heap.objs.size=Á:=I.fresh;obtain⟨W,⟨m0,w0⟩,turn⟩:=h _ V;have I2:Inv X Og σ (ak H s.heap.objs.size (.lst [])) { s with heap:=s.heap.push { cls:=.type "list",data:=.seq ([]:List Ä).toArray } }:=Inv.lnew (t':=s.toks) (Om:=[]) (ys:=[]) I .nil (ħ _);have B:∀b∈fp,dY X Og (ak H s.heap.objs.size (.lst [])) b:=fun b hb=>by
  obtain⟨o,e,_⟩:=t.obj _ _ st0 b hb;exact⟨by rw[ad (zU (yJ e))];exact(hf b hb).1,(hf b hb).2⟩
 have ho2:∀b∈fp,∃o,(s.heap.push { cls:=.type "list",data:=.seq ([]:List Ä).toArray }:è).get? b=À o:=fun b hb=>by
  obtain⟨o,e,_⟩:=t.obj _ _ st0 b hb;exact⟨o,zG _ e⟩
 have P:=BM T I2 hcl hfr B ho2;have L:tn 0 (Ŷ ((s.heap.push { cls:=.type "list",data:=.seq ([]:List Ä).toArray }).push { cls:=.type "dict",data:=.dict #[] }) scope.names) :=
  t.keep _ _ _ st0 fun b hb o e=>k? _ _ b o (zG _ (zG _ e))
 generalize q:({ s with heap:=s.heap.push { cls:=.type "list",data:=.seq ([]:List Ä).toArray } }:É)=s2 at I2 P;have hC:s.heap.objs.size<=s2.heap.objs.size:=by rw[<- q];exact yZ (by show _<(s.heap.push _).objs.size;rw[Ħ];exact Ĳ _)
 have j:∀{H':Hp},(∀b∈fp,H' b=Á)->∀b∈fp,dY (cB X N' scope cl s2 (ak H s.heap.objs.size (.lst [])) fp Og) [] H' b:=fun {H'} hn b hb=>by
  refine⟨hn b hb,(P.ok.exf b hb).1,P.ok.exfs b hb,.inl hb,(P.ok.exf b hb).2,fun p V=>?_⟩;rw[å]at V;exact(hf b hb).2.2.2.2.2 p V
 have v:∀s4,s4=({ s2 with heap:=Ŷ (s2.heap.push { cls:=.type "dict",data:=.dict #[] }) scope.names }:É) ->
   ŉ (model X.prog X.w) X.A (.compLoop (.ListComp elt [⟨R,w,A,0⟩] scope pos) 0 (.ref it) (.ref s.heap.objs.size) (cB X N' scope cl s2 (ak H s.heap.objs.size (.lst [])) fp Og).env) (RR (.ref s.heap.objs.size) s2.heap.objs.size) s4:=by
  rintro s4 rfl;refine tS (fun n S=>∃i σ' H',Inv (cB X N' scope cl s2 (ak H s.heap.objs.size (.lst [])) fp Og) [] σ' H' S/\tn i S.heap/\(∀b∈fp,H' b=Á)/\W i n σ' H') ?_ m0
   ⟨0,_,_,P,by subst q;exact L,fun b hb=>(B b hb).1,w0⟩
  rintro n s3 ⟨i,l,H3,I4,K,N,w4⟩;rcases turn i n l H3 w4 with⟨G,qn⟩|⟨go,step⟩
  ·refine aF (t.done (cB X N' scope cl s2 (ak H s.heap.objs.size (.lst [])) fp Og) rfl rfl rfl hc i [] s3 l H3 (fun _ _=>False) I4 (j N) K G) fun r s5 a=>?_
   obtain⟨hr,I5⟩:=a;subst hr;obtain⟨m,hn,_⟩:=I5.loc;exact hRR _ _ s5 H3 (HI I2 B I5 (e? _ _)) qn ⟨m,hn⟩ I5.free hC
  ·refine aF (t.item (cB X N' scope cl s2 (ak H s.heap.objs.size (.lst [])) fp Og) rfl rfl rfl hc i [] s3 l H3 (fun _ _=>False) I4 (j N) K go) fun r s5 a=>?_
   obtain⟨u,hr,h5⟩:=a;subst hr;refine aF h5 fun _ s6 a=>?_
   obtain⟨x,H6,I6,r6,y6,z,fr6⟩:=a;have I6':=I6.pinned (j fr6) (t.obj _ _ z);have k:∀{f:St}{F:Hp}{D:É}{m':Nat},Inv (cB X N' scope cl s2 (ak H s.heap.objs.size (.lst [])) fp Og) ([]++gA fp s6.heap) f F D->m'<n->W (i+1) m' f F ->
     ∃m,m<n/\∃i σ' H',Inv (cB X N' scope cl s2 (ak H s.heap.objs.size (.lst [])) fp Og) [] σ' H' D/\tn i D.heap/\(∀b∈fp,H' b=Á)/\W i m σ' H':=fun {f F D m'} O M w7=>by
    refine⟨m',M,i+1,f,F,O.unpinned,t.keep _ _ _ z fun b hb o e=>(O.pin (b,o) (zK _ (zK _ (dG hb e)))).1,fun b hb=>?_,w7⟩;obtain⟨o,e,d⟩:=t.obj _ _ z b hb;exact(O.pin (b,o) (zK _ (zK _ (dG hb e)))).2.1
   refine aF (hg _ _ _ _ _ _ s6 l H6 x u _ I6' r6 (step x H6 y6)) fun _ D a=>?_
   obtain⟨f,F,O,q7⟩:=a;refine aF (ht _ _ _ _ _ _ D f F _ O q7) fun ok s8 a=>?_
   obtain⟨H8,I8,U⟩:=a;cases ok with
   |false =>
    simp only[yB,if_false]at U ⊢;obtain⟨m',M,w8⟩:=U;exact k I8 M w8
   |true =>
    simp only[if_true]at U ⊢;refine aF (he _ _ _ _ _ _ s8 f H8 _ I8 U) fun y s9 a=>?_
    obtain⟨Y,H9,I9,r9,ys,e9,l9,m',M,w9⟩:=a;refine aF (qF _ s9 f H9 (.ref s.heap.objs.size) [Y] (.ref s.heap.objs.size) [y] (fun _ H'=>H'=ak H9 s.heap.objs.size (.lst (ys++[Y]))) I9 rfl (.cons r9 .nil) ⟨_,ys,Y,rfl,rfl,e9,l9,rfl⟩) fun _ s10 a=>?_
    obtain⟨_,H10,I10,_,e10⟩:=a;subst e10;exact k I10 M w9
 have Z:tn 0 (Ŷ (s2.heap.push { cls:=.type "dict",data:=.dict #[] }) scope.names):=by subst q;exact L
 have ay:=codeAny_compStart_list (v _ rfl) (t.self X.A 0 _ _ (notedBy (model X.prog X.w) X.A (cB X N' scope cl s2 (ak H s.heap.objs.size (.lst [])) fp Og).env fun x S=>RR (.ref s.heap.objs.size) s2.heap.objs.size (.error x) S) Z (v _ rfl));subst q;exact ay
end
section
variable{X:Cx}{N':List Ì}{scope:Ğ}{Og:List (Ç×Obj)}{σ:St}{elt iter tg:Î}{ifs:List Î}{pos:ģ}{wi:TI}{g:TG}{tt:TT}{te:TE}
theorem sX(T:jO X N' scope):∀x∈scope.names,x.2=.local->scope.names.lookup x.1=À .local:=fun x a e=>by
 obtain⟨n,k⟩:=x;cases e;exact dk T.nd a
theorem Ja(G:X.calm=Â)(T:jO X N' scope)(E:PI X tg iter wi)(F:∀cl s H fp Og,PG (cB X N' scope cl s H fp Og) tg g)(y:∀cl s H fp Og,vJ (cB X N' scope cl s H fp Og) ifs tt)
  (he:∀cl s H fp Og,PE (cB X N' scope cl s H fp Og) elt te) (A:∀x,ú iter X.env x=pure x:=by intro _;rfl) :
  PE X (.ListComp elt [⟨tg,iter,ifs,0⟩] scope pos) (Fd (N'.length-X.N.length) wi g tt te):=by
 intro Og s r H Q I h;obtain⟨cl,d,l,k⟩:=kI (scope:=scope) (env:=X.env) fun x w=>I.ok.has x (T.free x w)
 rw[eval_ListComp];refine C? (use:=Á) rfl A d T.kind (sX T) (yT (E Og s r H _ I h) (fun U Y M=>yT M (fun u W L=>?_) fun _ _ e=>e) fun _ _ e=>e);obtain⟨it,fp,V,J,H2,rfl,f,O,i,N,R⟩:=L;refine sY (Q:=Q) (RR:=fun n C=>compPost (model X.prog X.w) X.A X.xe Á (EP X Og r Q) n C) G T l k F y he f O i N R ?_;rintro p C t S P q ⟨m,D⟩ K a;refine⟨m,D,fun Z j=>⟨.ref p,S,?_,rfl,q⟩⟩;refine P.turned (t':=t.toks) (it:=C) (fun b o hb e=>(j.2 b hb).trans e) K ?_ (.inr (z5 f.sz a)) (fun x c e=>?_) fun p B=>?_
 ·exact ç (zU (zJ f.lt a))
 ·obtain⟨v,z⟩:=f.cell x c e
  exact zU (zJ z.lt a)
 ·exact zU (zJ (yJ (f.pin p B).1) a)
theorem xP{i:Nat}(hN:X.N.Nodup)(E:X.N[i]?=À y)(t:Loc X.env.scope y)(u:ļ (.ListComp elt [⟨tg,iter,ifs,0⟩] scope pos) (À (.Name y py)) spos.line X.env=pure Â)
  (hc:X.calm=Â) (T:jO X N' scope) (Y:PI X tg iter wi) (Z:∀cl s H fp Og,PG (cB X N' scope cl s H fp Og) tg g) (P:∀cl s H fp Og,vJ (cB X N' scope cl s H fp Og) ifs tt)
  (he:∀cl s H fp Og,PE (cB X N' scope cl s H fp Og) elt te) (S:∀x,ú iter X.env x=pure x:=by intro _;rfl) (hf:X.fn y=Â\/X.env.scope.names.lookup y=À .local:=by first|exact .inl rfl|exact .inr rfl|assumption) :
  PS X (.Assign [.Name y py] (.ListComp elt [⟨tg,iter,ifs,0⟩] scope pos) spos) (vV (Fd (N'.length-X.N.length) wi g tt te) (pb i)):=by
 intro Og s L H D I h;obtain⟨cl,f,G,F⟩:=kI (scope:=scope) (env:=X.env) fun x t=>I.ok.has x (T.free x t)
 rw[exec_Assign_Name_used _ _ _ _ u];refine yF (Ű (yF ?_));show Í _ X.A (do let _ <- comprehension (.ListComp elt [⟨tg,iter,ifs,0⟩] scope pos) scope X.env _ (newList []) Ã (eval iter X.env) (À (assign (.Name y py) X.env))) _ _ s;refine yF (yT (C? (use:=À (assign (.Name y py) X.env)) (Q:=fun _ n=>SP X Og D .next n) rfl S f T.kind (sX T)
  (yT (Y Og s L H _ I h) (fun xv s1 h1=>yT h1 (fun O s2 h2=>?_) fun _ _ e=>e) fun _ _ e=>e)) (fun _ n U=>yG (yG U)) fun _ _ e=>e)
 obtain⟨it,fp,tn,J,H2,rfl,l,Tn,r,f2,R⟩:=h2;refine sY (Q:=fun x H1=>pb i x L H1 D.nx) (RR:=fun K C=>compPost (model X.prog X.w) X.A X.xe (À (assign (.Name y py) X.env)) (fun _ n=>SP X Og D .next n) K C) hc T G F Z P he l Tn r f2 R ?_;rintro p C s3 H3 I3 q ⟨m,W⟩ hC d;have k:C≠X.env.locals:=ç (zU (zJ l.lt d));have j:∀x c,X.env.cells.lookup x=À c->c≠C:=fun x c e=>by
  obtain⟨v,z⟩:=l.cell x c e;exact zU (zJ z.lt d)
 show Í _ X.A (assign (.Name y py) X.env (.ref p)) _ _ _;refine U3 (qz (v:=.ref p) I3 hN E t rfl (fun N I4 A=>?_) hf);obtain⟨a,M,ha⟩:=A;have B:C≠a:=by
  rcases ha with e|e
  ·rw[e];exact k
  ·exact(j _ _ e).symm
 refine⟨m,W.sameBut M B,fun h' w=>⟨_,H3,?_,q⟩⟩;refine I4.turned (t':=N.toks) (it:=C) (fun b o hb e=>(w.2 b hb).trans e) hC k (.inr (z5 l.sz d)) j fun p V=>?_
 exact zU (zJ (yJ (l.pin p V).1) d)
end
end L2
namespace DD
open PySem PySem.Spec PyProof.Rows L2
section
variable{X:Cx}{Og:List (Ç×Obj)}{σ:St}{H:Hp}{s:É}{F:Ç->Prop}
theorem obj_list(I:L2.Inv X Og σ H s)(h:bR X.K H a vs):∃Om o n,Vals vs Om/\s.heap.get? a=À o/\o.cls=.type "list"/\o.data=.seq Om.toArray n:=by
 obtain⟨Om,r,⟨o,n,e,c,_,d⟩,_⟩:=I.list h;exact⟨Om,o,n,r,e,c,d⟩
theorem obj_tup(I:L2.Inv X Og σ H s)(h:iy X.K H a vs):∃Om o n,Vals vs Om/\s.heap.get? a=À o/\o.cls=.type "tuple"/\o.data=.seq Om.toArray n:=by
 obtain⟨Om,r,⟨o,e,c,n,d⟩,_⟩:=I.tuple h;exact⟨Om,o,n,r,e,c,d⟩
end
noncomputable def pyOk(p q:ņ):Bool:=p.canLay0&&q.canLay0&&decide (min p.depth q.depth<=50)
end DD
namespace L2
open PySem PySem.Spec PyProof.Rows
def K7(K:ã)(a b:Ç):It :=
 ⟨fun i H=>∃d c x y,bR K H a d/\bR K H b c/\d[i]?=À x/\c[i]?=À y,
  fun i H x e=>∃p u w,(∀d,bR K H a d->d[i]?=À u)/\(∀c,bR K H b c->c[i]?=À w)/\H p=Á/\e=ak H p (.tup [u,w])/\x=.ref p,
  fun i H=>∃d c,bR K H a d/\bR K H b c/\(d.length<=i\/c.length<=i)⟩
theorem Inv.turnT{X:Cx}{Og:List (Ç×Obj)}{σ:St}{H:Hp}{s:É}{h':è}{ch:List Ç}{u w:V}{x y:Ä}(I:Inv X Og σ H s)(f:∀b∈ch,dY X Og H b)(k:RelV u x)(i:RelV w y)
  (h:∀c o,c∉ch->s.heap.get? c=À o->h'.get? c=À o) (A:IsPair h' s.heap.objs.size x y) (l:∀b∈ch,∃o,h'.get? b=À o):Inv X Og σ (ak H s.heap.objs.size (.tup [u,w])) { s with heap:=h' }:=by
 have a:H s.heap.objs.size=Á:=I.fresh;have g:∀b o,H b=À o->b∉ch:=fun b o e hb=>by rw[(f b hb).1]at e;cases e
 have ne:∀b o,s.heap.get? b=À o->b≠s.heap.objs.size:=fun b o e=>zU (yJ e)
 refine I.step (g':=s.gens) (d':=s.drawn) (t':=s.toks) (ch:=ch) (fun b hb=>⟨(f b hb).2.2.2.1,(f b hb).2.1,(f b hb).2.2.2.2.1,(f b hb).2.2.2.2.2⟩) (fun b o _ _ d e _=>h b o d e)
  (fun b o _ _ d e _=>⟨o.slots,h b o d e⟩) (fun b o _ e n=>by rw[ad (ne b o e)];exact n) (fun b o d e=>⟨o,h b o d e⟩) (fun b j e=>by rw[ad (aX e a)];exact e)
  (fun b o v e=>by rw[ad (aX e a)];exact e) (fun b D e=>⟨#[],by rw[ad (aX e a),e];simp⟩) (fun m t=>?_) (fun b o e=>?_) I.bare
 ·obtain⟨o,B,C,p,r⟩:=t
  exact⟨o,B,C,h _ o (fun z=>(f _ z).2.1 rfl) p,r⟩
 ·by_cases hb:b=s.heap.objs.size
  ·subst hb
   rw[aB]at e;cases e;refine⟨by show 2<=Ë;decide,[x,y],.cons k (.cons i .nil),⟨_,A,rfl,_,rfl⟩⟩
  ·rw[ad hb]at e
   refine(I.Op b o e).stay (fun c v d q=>h c v ?_ q) (fun c q=>by rw[ad (aX q a)];exact q) fun c j q=>by rw[ad (aX q a)];exact q
   rcases d with rfl|d
   ·exact g _ _ e
   ·exact g _ _ d
theorem Inv.turnN{X:Cx}{Og:List (Ç×Obj)}{σ:St}{H:Hp}{s:É}{h':è}{ch:List Ç}(I:Inv X Og σ H s)(d:∀b∈ch,dY X Og H b)
  (g:∀c o,c∉ch->s.heap.get? c=À o->h'.get? c=À o):Inv X Og σ H { s with heap:=h' }:=by
 have f:∀b o,H b=À o->b∉ch:=fun b o e hb=>by rw[(d b hb).1]at e;cases e
 refine I.step (g':=s.gens) (d':=s.drawn) (t':=s.toks) (ch:=ch) (fun b hb=>⟨(d b hb).2.2.2.1,(d b hb).2.1,(d b hb).2.2.2.2.1,(d b hb).2.2.2.2.2⟩) (fun b o _ _ a e _=>g b o a e)
  (fun b o _ _ a e _=>⟨o.slots,g b o a e⟩) (fun b o _ e n=>n) (fun b o a e=>⟨o,g b o a e⟩) (fun b h e=>e)
  (fun b o v e=>e) (fun b p e=>⟨#[],by rw[e];simp⟩) (fun m j=>?_) (fun b o e=>?_) I.bare
 ·obtain⟨o,k,l,i,r⟩:=j
  exact⟨o,k,l,g _ o (fun z=>(d _ z).2.1 rfl) i,r⟩
 ·refine(I.Op b o e).stay (fun c v a q=>g c v ?_ q) (fun c q=>q) fun c h q=>q
  rcases a with rfl|a
  ·exact f _ _ e
  ·exact f _ _ a
theorem dz(I:Inv X Og σ H s)(h:bR X.K H a xs)(hb:dY X Og H b)(d:∃o,s.heap.get? b=À o/\o.cls≠.type "list"):a≠b:=by
 rintro rfl;obtain⟨j,r,⟨o,n,e,c,_⟩,_⟩:=I.list h;obtain⟨i,f,g⟩:=d;rw[e]at f;cases f;exact g c
theorem At{P:Ò}{w:Û}{K:ã}{Y:List Î}{x1:Nat}{O:ģ}(a b z TI TO g f:Ç)(D1:TI≠z)(D2:TO≠z)(D3:g≠z)(D4:f≠z)(D5:TI≠TO)(D6:TI≠g)(D7:TI≠f)(D8:TO≠g)(D9:TO≠f)(D10:g≠f) :
  kN P w K (.Tuple Y x1 O) (K7 K a b) [z,TI,TO,g,f] z (fun i h=>IsZip h z TI TO .none/\IsPair h TI (.ref g) (.ref f)/\(∃u v,IsPair h TO u v)/\h.IsListIter g a i/\h.IsListIter f b i) where
 mem:=by simp
 obj:=fun i h hq0 c d=>by
  obtain⟨hz,l,⟨u,v,j⟩,⟨o1,B,c1,d1⟩,⟨o2,A,c2,d2⟩⟩:=hq0;simp only[zT,zX,or_false]at d;rcases d with rfl|rfl|rfl|rfl|rfl
  ·exact⟨_,hz,fun v z=>nomatch z⟩
  ·exact⟨_,l,fun v z=>nomatch z⟩
  ·exact⟨_,j,fun v z=>nomatch z⟩
  ·exact⟨_,B,fun v z=>by rw[d1]at z;cases z⟩
  ·exact⟨_,A,fun v z=>by rw[d2]at z;cases z⟩
 keep:=fun i h N ⟨hz,l,⟨u,v,j⟩,F,C⟩ k=>⟨k z (by simp) _ hz,k TI (by simp) _ l,⟨u,v,k TO (by simp) _ j⟩,F.at fun o e=>k g (by simp) o e,C.at fun o e=>k f (by simp) o e⟩
 item:=by
  rintro X hP hw hK d i Z s σ H E I M ⟨hz,l,⟨ua,ub,j⟩,F,C⟩ ⟨xs,ys,x,y,n,m,hx,hy⟩;subst hP hw hK;obtain⟨T,J,p1,_⟩:=I.list n;obtain⟨S,G,p2,_⟩:=I.list m;obtain⟨u1,hu1,ru1⟩:=J.get hx;obtain⟨u2,hu2,ru2⟩:=G.get hy;have R:∀c∈[z,TO,g,f],∃o,s.heap.get? c=À o/\o.cls≠.type "list":=fun c d=>by
   obtain⟨o1,B,c1,d1⟩:=id F;obtain⟨o2,A,c2,d2⟩:=id C;simp only[zT,zX,or_false]at d;rcases d with rfl|rfl|rfl|rfl
   ·exact⟨_,hz,by simp⟩
   ·exact⟨_,j,by simp⟩
   ·exact⟨_,B,by rw[c1];simp⟩
   ·exact⟨_,A,by rw[c2];simp⟩
  have t:∀c∈[z,TO,g,f],a≠c:=fun c d=>dz I n (M c (by simp at d ⊢;rcases d with h|h|h|h<;>simp[h])) (R c d)
  have r:∀c∈[z,TO,g,f],b≠c:=fun c d=>dz I m (M c (by simp at d ⊢;rcases d with h|h|h|h<;>simp[h])) (R c d)
  have D:ZipApart z TI TO g f a b:=⟨D1,D2,D3,D4,D5,D6,D7,D8,D9,D10,t z (by simp),t TO (by simp),t g (by simp),t f (by simp),r z (by simp),r TO (by simp),r g (by simp),r f (by simp)⟩;refine wpAny_pyNext_zip_item D hz l j F C p1.isList p2.isList (x:=u1) (y:=u2) (by simpa using hu1) (by simpa using hu2) fun N a1 a2 a3 a4 a5 a6 hk=>?_
  have p:∀c∈[z,TO,g,f],dY X Z H c:=fun c d=>M c (by simp at d ⊢;rcases d with h|h|h|h<;>simp[h])
  have U:∀c o,c∉[z,TO,g,f]->s.heap.get? c=À o->N.get? c=À o:=fun c o d e=>hk c o (fun q=>d (by simp[q])) (fun q=>d (by simp[q])) (fun q=>d (by simp[q])) (fun q=>d (by simp[q])) e
  have I1:Inv X Z σ (ak H s.heap.objs.size (.tup [x,y])) { s with heap:=N }:=I.turnT p ru1 ru2 U a5 (fun c d=>by
   obtain⟨o1,B,_⟩:=id a3;obtain⟨o2,A,_⟩:=id a4;simp only[zT,zX,or_false]at d;rcases d with rfl|rfl|rfl|rfl
   ·exact⟨_,a1⟩
   ·exact⟨_,a2⟩
   ·exact⟨_,B⟩
   ·exact⟨_,A⟩)
  have hfr:H s.heap.objs.size=Á:=I.fresh;refine⟨_,rfl,wpAny_letOwnedTupleGo_zip (s:={ s with heap:=N }) a1 fun h'' z1 Q=>?_⟩;have V:∀c∈[z,TI,TO,g,f],(ak H s.heap.objs.size (.tup [x,y])) c=Á:=fun c d=>by
   have lt:c<s.heap.objs.size:=by
    obtain⟨o1,B,_⟩:=id F;obtain⟨o2,A,_⟩:=id C;simp only[zT,zX,or_false]at d;rcases d with rfl|rfl|rfl|rfl|rfl
    ·exact yJ hz
    ·exact yJ l
    ·exact yJ j
    ·exact yJ B
    ·exact yJ A
   rw[ad (zU lt)];exact(M c d).1
  have I2:Inv X Z σ (ak H s.heap.objs.size (.tup [x,y])) { s with heap:=h'' }:=Inv.turnN (s:={ s with heap:=N }) (ch:=[z]) I1 (fun c d=>by
   have:c=z:=by simpa using d
   subst this;exact⟨V c (by simp),(M c (by simp)).2⟩) (fun c o d e=>(Q.2 c (fun q=>d (by simp[q]))).trans e)
  refine⟨.ref s.heap.objs.size,_,I2,rfl,⟨_,x,y,fun zs L=>by rw[I.list_inj L n];exact hx,fun zs L=>by rw[I.list_inj L m];exact hy,hfr,rfl,rfl⟩,⟨z1,?_,⟨u1,u2,?_⟩,?_,?_⟩,V⟩
  ·exact(Q.2 TI D1).trans (U TI _ (by simp[D1,D5,D6,D7]) l)
  ·exact(Q.2 TO D2).trans a2
  ·exact a3.at fun o e=>(Q.2 g D3).trans e
  ·exact a4.at fun o e=>(Q.2 f D4).trans e
 done:=by
  rintro X hP hw hK d i Z s σ H E I M ⟨hz,l,⟨ua,ub,j⟩,F,C⟩ ⟨xs,ys,n,m,W⟩;subst hP hw hK;obtain⟨T,J,p1,_⟩:=I.list n;obtain⟨S,G,p2,_⟩:=I.list m;have R:∀c∈[z,TO,g,f],∃o,s.heap.get? c=À o/\o.cls≠.type "list":=fun c d=>by
   obtain⟨o1,B,c1,d1⟩:=id F;obtain⟨o2,A,c2,d2⟩:=id C;simp only[zT,zX,or_false]at d;rcases d with rfl|rfl|rfl|rfl
   ·exact⟨_,hz,by simp⟩
   ·exact⟨_,j,by simp⟩
   ·exact⟨_,B,by rw[c1];simp⟩
   ·exact⟨_,A,by rw[c2];simp⟩
  have p:∀c∈[z,TO,g,f],dY X Z H c:=fun c d=>M c (by simp at d ⊢;rcases d with h|h|h|h<;>simp[h])
  have t:∀c∈[z,TO,g,f],a≠c:=fun c d=>dz I n (p c d) (R c d)
  have r:∀c∈[z,TO,g,f],b≠c:=fun c d=>dz I m (p c d) (R c d)
  have D:ZipApart z TI TO g f a b:=⟨D1,D2,D3,D4,D5,D6,D7,D8,D9,D10,t z (by simp),t TO (by simp),t g (by simp),t f (by simp),r z (by simp),r TO (by simp),r g (by simp),r f (by simp)⟩;have hl1:=J.length;have hl2:=G.length;refine wpAny_pyNext_zip_end (I.ok.hd d) D hz l j F C p1.isList p2.isList (by rcases W with h|h;(left;simp;lia);(right;simp;lia)) fun N hk=>⟨rfl,?_⟩
  exact I.turnN p fun c o d e=>hk c o (fun q=>d (by simp[q])) (fun q=>d (by simp[q])) (fun q=>d (by simp[q])) (fun q=>d (by simp[q])) e
 self:=fun _ _ _ _ _ ⟨hz,_⟩ h=>V7 hz h
def L6(K:ã)(h:TA):TI:=fun d H R=>h d H fun g c=>∃a b,g=[.ref a,.ref b]/\(∃f,bR K c a f)/\(∃e,bR K c b e)/\R (K7 K a b) c
theorem F9{C:Nat}(S:Gl X "zip")(P:X.mg "zip"=Á)(T:PA X [a,b] ta)(O:Ê [a,b] X.env=[(Ã,eval a X.env),(Ã,eval b X.env)]:=by rfl)(f:Ê [b] X.env=[(Ã,eval b X.env)]:=by rfl) :
  PI X (.Tuple elts C tpos) (.Call (.Name "zip" p) [a,b] [] pos) (L6 X.K ta):=by
 intro A s u H R I h;refine N? (dS I S P boot_zip (Ù (aF (T pos A s u H _ I h) fun us d ⟨vs,B,i,r1,G⟩=>?_) (by rw[O,f]) (by rw[f];rfl)));obtain⟨M,L,e,⟨xs,m⟩,⟨ys,l⟩,q⟩:=G;subst e;cases r1 with
 |cons r j =>
  cases j with
  |cons F j =>
   cases j;cases r;cases F;obtain⟨w,E,K,_⟩:=i.list m;obtain⟨v,D,J,_⟩:=i.list l;refine call_zip_2 K.isList J.isList fun y hz t o V U N Q=>?_
   have I2:Inv X A u B { d with heap:=y }:=i.kept (t':=d.toks) Q;refine V7 (s:={ d with heap:=y }) hz ?_;have lt:∀k:Nat,d.heap.objs.size<=d.heap.objs.size+k:=fun k=>ϭ _ _
   refine⟨_,[d.heap.objs.size+4,d.heap.objs.size+2,d.heap.objs.size+3,d.heap.objs.size,d.heap.objs.size+1],_,_,B,rfl,I2,
    At M L (d.heap.objs.size+4) (d.heap.objs.size+2) (d.heap.objs.size+3) d.heap.objs.size (d.heap.objs.size+1) ?_ ?_ ?_ ?_ ?_ ?_ ?_ ?_ ?_ ?_,⟨hz,t,⟨_,_,o⟩,V,U⟩,fun c x=>?_,q⟩
   all_goals first
    | (show _ + _ ≠ _ + _;intro z;exact absurd (Nat.add_left_cancel z) dC)
    | (show _ ≠ _ + _;intro z;exact absurd z (by have:=Ů (n:=d.heap.objs.size) (k:=4) dC;have:=Ů (n:=d.heap.objs.size) (k:=1) dC;exact zU (by assumption)))
    | (show _ + _ ≠ _;exact ı (Ů dC))
    |skip
   have g:d.heap.objs.size<=c:=by
    simp only[zT,zX,or_false]at x;rcases x with rfl|rfl|rfl|rfl|rfl
    ·exact lt 4
    ·exact lt 2
    ·exact lt 3
    ·exact zP _
    ·exact lt 1
   obtain⟨f0,f1,f2,Z,Y,W⟩:=i.fpOk g (i.Op.fresh g);exact⟨f0,f1,f2,Z,Y,W⟩
theorem BB:BV X (fun o i H Q=>∃p xs k v,o=.ref p/\i=.int k/\bR X.K H p xs/\gN xs k=À v/\Q v H):=by
 rintro D s g H o i E F Q I h l ⟨p,xs,k,v,B,A,m,u,q⟩;subst B A;cases h;obtain⟨t,rfl⟩:=l;obtain⟨C,r,d,hz⟩:=I.list m;obtain⟨j,a,z,J,y,x⟩:=mM u;obtain⟨w,f,b⟩:=r.get z;have n:=r.length;have G:=il;have ay:EP X D g Q w s:=⟨v,H,I,b,q⟩;by_cases e:0<=k
 ·have c:k.toNat=j:=by
   rw[f? e x]at a;exact yE a
  exact wpAny_getItem_list d.isList e oM (by rw[c];simpa using f) ay
 ·have c:(k+(C.toArray.size:Int)).toNat=j:=by
   rw[ϸ oM y]at a;rw[zI,<- n];exact yE a
  exact O0 d.isList oM (by rw[zI]<;>lia) oM (by rw[c];simpa using f) ay
end L2
namespace DD
open PySem PySem.Spec PyProof.Rows L2
section
variable{X:Cx}{e o a b:Î}{es:List Î}{p q:DP}{c c':DE}{pos apos cpos:ģ}{i:Nat}{js:List DP}
theorem cnt_vals{h:è}{q:ņ}{e:Ä->Bool}(he:∀v p as,ů h v p as->e v=Þ p q):∀{vs:List Ä}{ps:List ņ}{as:List Ç},Ϲ h vs ps as->vs.countP e=ps.countP fun r=>Þ r q:=by
 intro vs
 induction vs with
 |nil=>intro ps as h;cases h;rfl
 |cons v vs b =>
  intro ps as h;cases h with
  |cons r a=>rw[Q4,Q4,b a,he _ _ _ r]
theorem reads_each{h:è}:∀{vs:List Ä}{ps:List ņ}{as:List Ç},Ϲ h vs ps as->∀v∈vs,∃p as',p∈ps/\ů h v p as':=by
 intro vs
 induction vs with
 |nil=>intro ps as h v a;cases a
 |cons v vs c =>
  intro ps as h v a;cases h with
  |cons r b =>
   rcases zT.mp a with rfl|a
   ·exact⟨_,_,z7,r⟩
   ·obtain⟨p,as',d,h⟩:=c b v a
    exact⟨p,as',zQ _ d,h⟩
noncomputable def minL:List Int->Option Int
 |[]=>Á
 |x::xs=>À (xs.foldl (fun a b=>if b<a then b else a) x)
theorem minF:∀(xs:List Int)(x:Int),(xs.foldl (fun a b=>if b<a then b else a) x∈x::xs)/\∀a∈x::xs,xs.foldl (fun a b=>if b<a then b else a) x<=a
 |[],x=>⟨by simp,by simp⟩
 |y::xs,x=>by
  obtain⟨h1,h2⟩:=minF xs (if y<x then y else x);rw[ő];constructor
  ·rcases zT.mp h1 with h|h
   ·rw[h];split<;>simp
   ·simp[h]
  ·intro a c
   have d:=h2 (if y<x then y else x) (by simp);have f:(if y<x then y else x)<=x:=by split<;>lia
   have e:(if y<x then y else x)<=y:=by split<;>lia
   rcases zT.mp c with rfl|c
   ·exact Ň d f
   ·rcases zT.mp c with rfl|c
    ·exact Ň d e
    ·exact h2 a (by simp[c])
theorem minL_eq{m M:Int}(h:minL ns=À m)(b:M∈ns)(d:∀a∈ns,M<=a):M=m:=by
 cases ns with
 |nil=>cases b
 |cons x c =>
  cases h;obtain⟨g1,e⟩:=minF c x;have a1:=e M b;have a2:=d _ g1;lia
end
section
variable{X:Cx}{e o a b:Î}{es:List Î}{p q:DP}{c c':DE}{pos apos cpos:ģ}{i:Nat}{js:List DP}
theorem any_vals{h:è}{q:ņ}{e:Ä->Bool}(he:∀v p as,ů h v p as->e v=Þ p q):∀{vs:List Ä}{ps:List ņ}{as:List Ç},Ϲ h vs ps as->vs.any e=ps.any fun r=>Þ r q
 |_,_,_,.nil=>rfl
 |_,_,_,.cons r rs=>by rw[Ť,Ť,any_vals he rs,he _ _ _ r]
end
end DD
namespace L2
open PySem PySem.Spec PyProof.Rows
def Am(K:ã)(a:Ç)(n0:Nat):It :=
 ⟨fun i H=>∃b x,bR K H a b/\b[i]?=À x,
  fun i H x c=>∃p u,(∀b,bR K H a b->b[i]?=À u)/\H p=Á/\c=ak H p (.tup [.int ((n0+i:Nat):Int),u])/\x=.ref p,
  fun i H=>∃b,bR K H a b/\b.length=i⟩
theorem qO(k:A.handled=Á)(it l:Ç)(d:l≠it)(a:Array Ä)(n0:Nat) :
  Draws prog w A it [it,l] (n0+a.size) (fun i v=>n0<=i/\a[i-n0]?=À v) (fun i h=>n0<=i/\h.IsListIter it l (i-n0)/\h.IsList l a) where
 live:=fun _ _ q=>by obtain⟨o,j,_⟩:=q.2.1;exact⟨o,j⟩
 frame:=fun _ _ _ q g=>⟨q.1,q.2.1.at fun o e=>g it (by simp) o e,q.2.2.at fun o e=>g l (by simp) o e⟩
 item:=fun i s Q E p q m=>by
  have f:i-n0<a.size:=by have:=q.1;lia
  refine wpAny_nextOf_list_item q.2.1 q.2.2 (x:=a[i-n0]) (by simp[f]) fun n c b=>?_
  refine m _ n s.toks ⟨q.1,by simp[f]⟩ ⟨Nat.le_succ_of_le q.1,?_,q.2.2.extBut b.extBut d⟩ b;rw[show i+1-n0=i-n0+1 by have:=q.1;lia];exact c
 done:=fun s Q E q hE=>wpAny_nextOf_list_end k q.2.1 q.2.2 (by simp) hE
theorem xh{P:Ò}{w:Û}{K:ã}{y:List Î}{x1:Nat}{n:ģ}(a z it:Ç)(n0:Nat)(D:z≠it) :
  kN P w K (.Tuple y x1 n) (Am K a n0) [z,it] z (fun i h=>(∃old,IsEnum h z it ((n0+i:Nat):Int) old)/\h.IsListIter it a i) where
 mem:=by simp
 obj:=fun i h S c b=>by
  obtain⟨⟨old,hz⟩,⟨F,d,J,d1⟩⟩:=S;simp only[zT,zX,or_false]at b;rcases b with rfl|rfl
  ·exact⟨_,hz,fun v z=>nomatch z⟩
  ·exact⟨_,d,fun v z=>by rw[d1]at z;cases z⟩
 keep:=fun i h l ⟨⟨old,hz⟩,g⟩ k=>⟨⟨old,k z (by simp) _ hz⟩,g.at fun o e=>k it (by simp) o e⟩
 item:=by
  rintro X Z R hK b i B s C H E I f ⟨⟨old,hz⟩,g⟩ ⟨xs,x,j,hx⟩;subst Z R hK;obtain⟨L,M,N,_⟩:=I.list j;obtain⟨u,hu,ru⟩:=M.get hx;have na:a≠z:=dz I j (f z (by simp)) ⟨_,hz,by simp⟩;have O:a≠it:=dz I j (f it (by simp)) (by obtain⟨F,d,J,d1⟩:=id g;exact⟨_,d,by rw[J];simp⟩);have V:i<L.length:=(zB.mp hu).1;refine wpAny_pyNext_enum_itemD (qO (A:=X.A.in1) (I.ok.hd b) it a O L.toArray n0) hz ⟨ϭ _ _,by rw[ñ];exact g,N.isList⟩ (by simp[V]) D (by simp[D,na.symm]) fun v l m hv ho p hT hsz U=>?_
  have ev:v=u:=by
   have G:=hv.2;rw[ñ]at G;simp only[List.getElem?_toArray]at G;rw[hu]at G;exact(yE G).symm
  subst ev;have Y:∀c∈[z,it],dY X B H c:=fun c b=>f c b
  have T:∀c o,c∉[z,it]->s.heap.get? c=À o->l.get? c=À o:=fun c o b e=>U c o (fun q=>b (by simp[q])) (fun q=>b (by simp[q])) e
  have I0:Inv X B C (ak H s.heap.objs.size (.tup [.int ((n0+i:Nat):Int),x])) { s with heap:=l }:=I.turnT Y (u:=.int ((n0+i:Nat):Int)) ⟨m,rfl⟩ ru T hT (fun c b=>by
   obtain⟨F,d,_⟩:=id p.2.1;simp only[zT,zX,or_false]at b;rcases b with rfl|rfl
   ·exact⟨_,ho⟩
   ·exact⟨_,d⟩)
  have I1:Inv X B C (ak H s.heap.objs.size (.tup [.int ((n0+i:Nat):Int),x])) { s with heap:=l,toks:=m+1 }:=I0.kept (t':=m+1) (fun _ _ e=>e);have W:H s.heap.objs.size=Á:=I.fresh;refine⟨_,rfl,wpAny_letOwnedTupleGo_enum (s:={ s with heap:=l,toks:=m+1 }) ho fun h'' z1 sb=>?_⟩;have r:∀c∈[z,it],(ak H s.heap.objs.size (.tup [.int ((n0+i:Nat):Int),x])) c=Á:=fun c b=>by
   have lt:c<s.heap.objs.size:=by
    obtain⟨F,d,_⟩:=id g;simp only[zT,zX,or_false]at b;rcases b with rfl|rfl
    ·exact yJ hz
    ·exact yJ d
   rw[ad (zU lt)];exact(f c b).1
  have I2:Inv X B C (ak H s.heap.objs.size (.tup [.int ((n0+i:Nat):Int),x])) { s with heap:=h'',toks:=m+1 }:=Inv.turnN (s:={ s with heap:=l,toks:=m+1 }) (ch:=[z]) I1 (fun c b=>by
   have:c=z:=by simpa using b
   subst this;exact⟨r c (by simp),(f c (by simp)).2⟩) (fun c o b e=>(sb.2 c (fun q=>b (by simp[q]))).trans e)
  refine⟨.ref s.heap.objs.size,_,I2,rfl,⟨_,x,fun zs Q=>by rw[I.list_inj Q j];exact hx,W,rfl,rfl⟩,⟨⟨_,by rw[show((n0+(i+1):Nat):Int)=((n0+i:Nat):Int)+1 by lia];exact z1⟩,?_⟩,r⟩;have h3:=p.2.1;rw[show n0+i+1-n0=i+1 by lia]at h3;exact h3.at fun o e=>(sb.2 it D.symm).trans e
 done:=by
  rintro X Z R hK b i B s C H E I f ⟨⟨old,hz⟩,g⟩ ⟨xs,j,t⟩;subst Z R hK;obtain⟨L,M,N,_⟩:=I.list j;have O:a≠it:=dz I j (f it (by simp)) (by obtain⟨F,d,J,d1⟩:=id g;exact⟨_,d,by rw[J];simp⟩);have hl:=M.length;refine wpAny_pyNext_enum_endD (qO (A:=X.A.in1) (I.ok.hd b) it a O L.toArray n0) hz ⟨ϭ _ _,?_,N.isList⟩ fun l U=>⟨rfl,?_⟩
  ·rw[ñ,zI,<- hl,t];exact g
  ·exact I.turnN (ch:=[z,it]) (fun c b=>f c b) fun c o b e=>U c o (fun q=>b (by simp[q])) e
 self:=fun _ _ _ _ _ ⟨⟨_,hz⟩,_⟩ h=>ϵ hz h
theorem qQ:à "enumerate"=À (.type "enumerate"):=by decide +kernel
def Jy(K:ã)(n0:Nat)(f:TA):TI:=fun c H R=>f c H fun e b=>∃a,e=[.ref a]/\(∃d,bR K b a d)/\R (Am K a n0) b
theorem tN{X:Cx}{Og:List (Ç×Obj)}{σ:St}{f:Hp}{s1:É}{h':è}{t':Nat}{l:Ç}{n0:Nat}{e:List Î}{i:Nat}{a:ģ}{R:It->Hp->Prop}(g:Inv X Og σ f s1)(he:IsEnum h' (s1.heap.objs.size+1) s1.heap.objs.size (n0:Int) .none)(k:h'.IsListIter s1.heap.objs.size l 0)
  (j:∀b o,s1.heap.get? b=À o->h'.get? b=À o) (q:R (Am X.K l n0) f):Ia X Og σ (.Tuple e i a) R (.ref (s1.heap.objs.size+1)) { s1 with heap:=h',toks:=t' }:=by
 have u:Inv X Og σ f { s1 with heap:=h',toks:=t' }:=g.kept (t':=t') j;refine⟨_,[s1.heap.objs.size+1,s1.heap.objs.size],_,_,f,rfl,u,xh l (s1.heap.objs.size+1) s1.heap.objs.size n0 (ı (Ĳ _)),⟨⟨_,by simpa using he⟩,k⟩,fun c h=>?_,q⟩;have d:s1.heap.objs.size<=c:=by
  simp only[zT,zX,or_false]at h;rcases h with rfl|rfl
  ·exact Ϯ _
  ·exact zP _
 obtain⟨t,s,r,p,n,m⟩:=g.fpOk d (g.Op.fresh d);exact⟨t,s,r,p,n,m⟩
theorem DN{g:Nat}(w:Gl X "enumerate")(t:X.mg "enumerate"=Á)(x:PA X [a] ta)(n:Ê [a] X.env=[(Ã,eval a X.env)]:=by rfl) :
  PI X (.Tuple elts g tpos) (.Call (.Name "enumerate" p) [a] [] pos) (Jy X.K 0 ta):=by
 intro z s f H R I h;refine N? (dS I w t qQ (Ù (aF (x pos z s f H _ I h) fun C b ⟨B,F,d,r1,j⟩=>?_) (by rw[n];rfl) (by rfl)));obtain⟨l,e,⟨A,o⟩,q⟩:=j;subst e;cases r1 with
 |cons r i =>
  cases i;cases r;obtain⟨E,D,k,_⟩:=d.list o;refine call_enumerate_list k.isList fun y c v m u=>?_
  refine ϵ (s:={ b with heap:=y }) c ?_;exact tN (t':=b.toks) (n0:=0) d c v u q
section
variable{prog:Ò}{w:Û}{A:Ď}{E:Ä->É->Prop}{s:É}
theorem Ay{α:Type}{x:W1 α}{Q b:α->É->Prop}(h:Í M A x Q E s)(c:∀a s,Q a s->b a s):Í M A x b E s:=yT h c fun _ _ x=>x
theorem sf(a v:Ä):checkTypeCall "enumerate" ⟨[a],[("start",v)]⟩=pure ():=by kernel_rfl
theorem re(a v:Ä):checkBuiltinCall "enumerate.__new__" ⟨[.type "enumerate",a],[("start",v)]⟩=pure ():=by kernel_rfl
theorem qd(o a v:Ä):x! "object.__init__" ⟨[o,a],[("start",v)]⟩:=by
 unfold x!;rw[signature?_of (id:="object.__init__") (n:=['_','_','t','i','n','i','_','_']) (o:=['t','c','e','j','b','o']) (by kernel_rfl) F.owner_object]
 kernel_rfl
theorem wF(hl:typeLookup (.type T) "__init__"=pure (À (.builtin "object.__init__")))(hm:Bind.madeBy (.type T)=pure (À newId))(hne:(À newId !=À "object.__new__")=Â) :
  Meets (p!.«object.__init__» ⟨[self,a],[("start",v)]⟩) (fun _ R s=>s.TypeIs self T/\R (.ok (.ret .none)) s):=Meets.of_wp fun b w A R s c=>by
 obtain⟨e,d⟩:=c
 repeat (any_goals (first | assumption | wp_step))
 exact⟨_,rfl,d⟩
theorem tY(e:args.any (·.1)=Ã)(f:kws.any (·.1.isNone)=Ã)
  (h:Í M A (evalArgs (.type T) Â args kws) (fun a s₁=>Í M A (call (.type T) a.pos a.kw) Q E s₁) E s):Í M A (ŧ pos (.type T) [] args kws) Q E s:=by
 unfold ŧ;refine yF (yS (Ay h fun a s₁ b=>yF (Ű ?_)));simp only[e,f,j?];refine yF (yG (yF (Ay b fun r c d=>yF (yS (wpAny_point (yG d))))))
end
section
variable{prog:Ò}{w:Û}{A:Ď}{E:Ä->É->Prop}{s:É}
theorem Cv(f:t≠it):∀(n i:Nat)(s:É)(Q:List Ä->É->Prop),s.heap.IsListIter it t i->s.heap.IsList t items->i+n<=items.size ->
  (∀h',h'.IsListIter it t (i+n)->ĭ it s.heap h'->Q ((items.toList.drop i).take n) { s with heap:=h' })->Í (model prog w) A (draw (.ref it) n) Q E s
 |0,i,s,Q,hit,_,_,hQ=>yG (by simpa using hQ s.heap hit (e? ..))
 |n+1,i,s,Q,hit,ht,hle,hQ=>by
  have hlt:i<items.size:=by lia
  refine yF (m:=t! (.ref it)) (O? hit ht (x:=items[i]) (by simp[hlt]) fun g c a=>?_);refine yF (yS (Cv f n (i+1) _ _ c (ht.extBut a.extBut f) oM fun e b d=>yG ?_));have q:=hQ e (by rw[show i+(n+1)=i+1+n by lia];exact b) (a.trans d);rw[show items.toList.drop i=items[i]::items.toList.drop (i+1) by simp[û,hlt],List.take_succ_cons]at q;exact q
theorem C1(n:A.handled=Á)(i:s.heap.IsList t items)(m:targets.length=items.size)(d:targets.findIdx? (·.1)=Á)
  (h:∀h',X? s.heap.objs.size s.heap h'->Í (model prog w) A (assignInOrder (targets.map (·.2)) items.toList) Q E { s with heap:=h' }):Í (model prog w) A (unpack (.ref t) targets) Q E s:=by
 have j:t≠s.heap.objs.size:=by obtain⟨o,l,_⟩:=i;exact zU (yJ l)
 unfold unpack;rw[m,d];refine yF (yS ?_);unfold unpackItems;refine yF ?_;unfold notIterableAtAll;refine yF (X1 i.typeIs slot_list_iter.lookup (yG ?_));simp only[yB,if_false];refine yF (yS (Ć i (yF (yS (Cv j items.size 0 _ _ ⟨_,zY _ rfl,rfl,rfl⟩ (i.push _) oM fun k c a=>?_)))));rw[show List.take items.size (List.drop 0 items.toList)=items.toList by rw[Ņ];exact ô (by simp),yH (by simp)];refine yF (yS (P9 n c ((i.push _).extBut a.extBut j) (by simp) fun g f=>?_));simp only[Option.isSome_none,yB,if_false];exact yG (h g fun b o hb e=>f b o hb (a.extBut b o hb (zG _ e)))
end
section
variable{X:Cx}{pos:ģ}
noncomputable def JD(K:ã)(n:Nat)(t:uk):TG:=fun v c H Q=>∃a b,v=.ref a/\bR K H a b/\b.length=n/\t b c H Q
theorem DR{k:Nat}{n:Nat}(x:X.calm=Â)(h:qX X es t)(q:(â es X.env).length=n:=by rfl)(d:(â es X.env).findIdx? (·.1)=Á:=by rfl):PG X (.Tuple es k pos) (JD X.K n t):=by
 intro i s f H v u Q I r c;obtain⟨a,j,z,p,w,c⟩:=c;subst z;cases r;obtain⟨B,g,l,hz⟩:=I.list p;rw[arm_assign_Tuple];refine yF (Ű (C1 (I.ok.hd x) l.isList (by simp[q,<- w,g.length]) d fun y m=>?_));have A:Inv X i f H { s with heap:=y }:=I.kept (t':=s.toks) fun b o e=>m b o (zU (yJ e)) e
 exact h i _ f H j _ Q A (by simpa using g) c
theorem kh:∀(l:List Ä)(k:Nat),(∀(j:Nat)(v:Ä),l[j]?=À v->∃t,v=.int ((k+j:Nat):Int) t)->Vals ((ĥ k l.length).map fun(q:Nat)=>V.int (q:Int)) l
 |[],_,_=>.nil
 |u::l,k,h=>by
  rw[yY,List.range'_succ,zO];refine .cons ?_ (kh l (k+1) fun j v e=>?_)
  ·obtain⟨t,e⟩:=h 0 u rfl
   exact⟨t,e⟩
  ·obtain⟨t,a⟩:=h (j+1) v (by simpa using e)
   exact⟨t,by rw[a,show k+(j+1)=k+1+j by lia]⟩
theorem kJ:à "list"=À (.type "list"):=by decide +kernel
def Fc(d:TE):TE:=fun b H Q=>B9 d vS b H fun c a=>∃j:Nat,c=[.int (j:Int)]/\j<=1000/\∀p,a p=Á->Q (.ref p) (ak a p (.lst ((ĥ 0 j).map fun(q:Nat)=>V.int (q:Int))))
theorem A6(D:X.calm=Â)(p:Gl X "list")(l:X.mg "list"=Á)(m:Gl X "range")(k:X.mg "range"=Á)(E:PE X a ta)
  (y:Ê [a] X.env=[(Ã,eval a X.env)]:=by rfl) (g:Ê [.Call (.Name "range" p2) [a] [] pos2] X.env=[(Ã,eval (.Call (.Name "range" p2) [a] [] pos2) X.env)]:=by rfl) :
  PE X (.Call (.Name "list" p1) [.Call (.Name "range" p2) [a] [] pos2] [] pos) (Fc ta):=by
 intro z s u H Q I h;refine N? (dS I p l kJ (Ù ?_ (by rw[g];rfl) (by rfl)));rw[g];refine Calls.spliced_cons (N? (dS I m k v? (Ù (aF ((u8 E xY y) pos2 z s u H _ I h) fun N f ⟨M,L,K,r1,w⟩=>?_) (by rw[y];rfl) (by rfl))));cases r1 with
 |nil=>obtain⟨j,e,_⟩:=w;cases e
 |cons r B =>
  obtain⟨j,e,P,q⟩:=w;cases e;cases B;obtain⟨t,rfl⟩:=r;refine call_range_1 (Calls.spliced_nil ?_);have A:Inv X z u L { f with heap:=f.heap.push { cls:=.type "range",data:=.fields #[.int 0 f.toks,.int (j:Int) t,.int 1 (f.toks+1)] },toks:=f.toks+1+1 }:=K.kept fun b o e=>zG _ e
  refine X5 (n:=j) (I.ok.hd D) (IsRange.new ..) (V8 oM oM oM oM) (by rw[D?];split<;>lia) oM fun R O c J C F d=>?_
  have x:=kh c.toList 0 (fun i v e=>by
   obtain⟨t,G⟩:=d.2 i v (by simpa using e);exact⟨t,by rw[G];congr 1;lia⟩)
  rw[show c.toList.length=j by simpa using d.1]at x;exact⟨.ref _,_,A.laid (o:=.lst ((ĥ 0 j).map fun(q:Nat)=>V.int (q:Int))) C (zP _) ⟨yZ (qA (by simp;lia)),c.toList,J,x,F⟩,rfl,q _ A.fresh⟩
end
end L2
namespace PySem.AutoSeq1
theorem wJ(l:Ç)(items:Array Ä)(n:Nat)(b:Ç)(items2:Array Ä)(n2:Nat)(sl:Array (Option Ä))(hc0:¬(!items.isEmpty&&ø (items.size+items2.size))=Â)(hc1:items.size<=Ë)(hs2:items.size+items2.size<=Ë+1) :
  Meets (p!.«list.extend» ⟨[.ref l,.ref b],[]⟩) (fun _ R s=>s.heap.get? l=À { cls:=.type "list",dict:=Á,data:=.seq items n,slots:=#[] }/\s.heap.get? b=À { cls:=.type "list",dict:=Á,data:=.seq items2 n2,slots:=sl }/\R (.ok (.ret ŭ)) { s with heap:=s.heap.update l (Ġ fun x=>x++items2),toks:=s.toks }) :=
 .of_wp fun c w A R s h=>by
  obtain⟨j,g,d,f,i⟩:=s;obtain⟨e,hb,h⟩:=h;have q:=idx_int;have p:=X3;have o:=sub_list_list;have m:=sub_tuple_list;have k:=sub_list_tuple;have a:(items++items2).size<=Ë+1:=by rw[O!];exact hs2
  wp_walk using (ώ e rfl (hz:=hc1) (_hz':=a)),Ϗ e,Ϗ hb;exact⟨_,rfl,h⟩
end PySem.AutoSeq1
namespace L2
open PySem PySem.Spec PyProof.Rows
section
variable{X:Cx}
def IE(K:ã):V->List V->Hp->VK->Prop:=fun x d H Q=>∃l b c a,x=.ref l/\d=[.ref b]/\H l=À (.lst c)/\bR K H b a/\c.length+a.length<=Ë/\Q .non (ak H l (.lst (c++a)))
theorem Eg:Ie X "list.extend" (IE X.K):=by
 intro P s E H x K v L Q I rx p h;obtain⟨l,b,J,G,rfl,rfl,j,hB,hz,q⟩:=h;cases rx;obtain⟨u,rfl,t⟩:=p.one;cases t;obtain⟨z,d,n,r,O,e⟩:=I.lstM j;obtain⟨a,r2,w,B⟩:=I.list hB;obtain⟨o,A,D,m,k,i⟩:=w;obtain⟨N,M,y,f⟩:=o;dsimp only at m k i;subst m;subst k;subst i;have C:=r2.length;have g:d.toArray.size+a.toArray.size<=Ë:=by rw[zI,zI];lia
 have c:¬(!d.toArray.isEmpty&&ø (d.toArray.size+a.toArray.size))=Â:=by
  rw[notLongL g,Bool.and_false];exact ĝ
 refine Ŧ F.slot_list_extend ⟨_,e,rfl⟩ F.entry_list_extend (F.args_list_extend_2 _ _)
  (PySem.AutoSeq1.wJ l d.toArray n b a.toArray A f c (by rw[zI];lia) oM) ⟨e,D,?_⟩
 refine⟨.non,_,I.lset (its':=d++a) j e (by simp) (r.append r2) ?_,rfl,q⟩;rw[zV];lia
end
end L2
namespace PySem.AutoSeq1
theorem EM(l:Ç)(items:Array Ä)(n:Nat)(sl1:Array (Option Ä))(b:Ç)(items2:Array Ä)(n2:Nat)(sl:Array (Option Ä))(hs2:items.size+items2.size<=Ë) :
  Meets (p!.«list.__add__» ⟨[.ref l,.ref b],[]⟩) (fun _ R s=>s.heap.get? l=À { cls:=.type "list",dict:=Á,data:=.seq items n,slots:=sl1 }/\s.heap.get? b=À { cls:=.type "list",dict:=Á,data:=.seq items2 n2,slots:=sl }/\R (.ok (.ret (ó s.heap.objs.size))) { s with heap:=s.heap.push { cls:=.type "list",data:=.seq (items++items2) },toks:=s.toks }) :=
 .of_wp fun c w A R s h=>by
  obtain⟨k,g,d,i,j⟩:=s;obtain⟨f,hb,h⟩:=h;have r:=idx_int;have q:=X3;have p:=sub_list_list;have o:=sub_tuple_list;have m:=sub_list_tuple;have e:(items++items2).size<=Ë+1:=by rw[O!];lia
  have a:ø (items.size+items2.size)=Ã:=L2.notLongL hs2
  wp_walk using Ϗ f,Ϗ hb
  all_goals first|exact⟨_,rfl,h⟩|skip
end PySem.AutoSeq1
namespace L2
open PySem PySem.Spec PyProof.Rows
section
variable{X:Cx}
def IG(K:ã):R2:=fun x y H Q=>∃l b c a,x=.ref l/\y=.ref b/\bR K H l c/\bR K H b a/\c.length+a.length<=Ë/\∀p,H p=Á->Q (.ref p) (ak H p (.lst (c++a)))
theorem DY:mj X (ŷ .Add) (IG X.K):=by
 intro U s L H x y v u Q I rx t h;obtain⟨l,b,N,M,rfl,rfl,J,hB,hz,q⟩:=h;cases rx;cases t;obtain⟨c,r,⟨B,D,g,p,n,j⟩,_⟩:=I.list J;obtain⟨a,r2,⟨A,C,k,o,m,i⟩,_⟩:=I.list hB;obtain⟨S,R,z,e⟩:=B;obtain⟨P,O,w,d⟩:=A;dsimp only at p n j o m i;subst p;subst n;subst j;subst o;subst m;subst i;have G:=r.length;have E:=r2.length;have f:c.toArray.size+a.toArray.size<=Ë:=by rw[zI,zI];lia
 refine wpAny_binaryOp_concat (T:="list") (id:="list.__add__") ⟨_,g,rfl⟩ ⟨_,k,rfl⟩ noFill_list_add (by rfl) ?_;refine Ŧ F.slot_list_add ⟨_,g,rfl⟩ F.entry_list_add (F.args_list_add_2 _ _) (PySem.AutoSeq1.EM l c.toArray D e b a.toArray C d f) ⟨g,k,?_⟩;have K:c.toArray++a.toArray=(c++a).toArray:=by simp
 rw[K];exact⟨.ref _,_,I.lnew (t':=s.toks) (r.append r2) (by rw[zV];lia),rfl,q _ I.fresh⟩
end
section
variable{κ:Type}[DecidableEq κ]
noncomputable def fv(Oi:List (κ×V))(k:κ):Option V:=(Oi.find? fun a=>decide (a.1=k)).map (·.2)
noncomputable def fA(Oi:List (κ×V))(k:κ)(v:V):List (κ×V) :=
 if(Oi.any fun a=>decide (a.1=k))=Â then Oi.map (fun a=>if a.1=k then(a.1,v) else a) else Oi++[(k,v)]
theorem nQ{p:κ×V}{r:List (κ×V)}{k:κ}(e:p.1=k):fv (p::r) k=À p.2:=by simp[fv,č,e]
theorem nR{p:κ×V}{r:List (κ×V)}{k:κ}(e:¬p.1=k):fv (p::r) k=fv r k:=by simp[fv,č,e]
theorem se(k:κ):∀Oi:List (κ×V),(Oi.any fun kv=>decide (kv.1=k))=(fv Oi k).isSome
 |[]=>rfl
 |p::r=>by
  rw[Ť];by_cases e:p.1=k
  ·simp only[nQ e,yW e,Bool.true_or,B?]
  ·rw[nR e,yA e,Bool.false_or];exact se k r
theorem mU(Oi:List (κ×V))(k:κ)(v:V):(fA Oi k v).length<=Oi.length+1:=by
 unfold fA;split
 ·rw[zH];lia
 ·rw[zV,yY,ϱ];lia
theorem RelO.isSome_eq{o:Option V}{u:Option Ä}(r:RelO o u):o.isSome=u.isSome:=by
 cases o with
 |none=>cases u with
  |none=>rfl
  | some _=>exact (show False from r).elim
 |some _=>cases u with
  | none=>exact (show False from r).elim
  |some _=>rfl
theorem KV.val{Oi:List (κ×V)}{vs:List (κ×Value)}(r:KV Oi vs)(k:κ):RelO (fv Oi k) (Ϸ vs k):=by
 unfold KV at r
 induction r with
 |nil=>exact True.intro
 |@cons p q i a h t f =>
  obtain⟨d,g⟩:=h;by_cases e:p.1=k
  ·have c:q.1=k:=d.symm.trans e
   have b:Ϸ (q::a) k=À q.2:=by simp[Ϸ,č,c]
   rw[nQ e,b];exact g
  ·have c:¬q.1=k:=fun z=>e (d.trans z)
   have b:Ϸ (q::a) k=Ϸ a k:=by simp[Ϸ,č,c]
   rw[nR e,b];exact f
theorem KV.any{Oi:List (κ×V)}{vs:List (κ×Value)}(r:KV Oi vs)(k:κ):(Oi.any fun kv=>decide (kv.1=k))=vs.any fun kv=>decide (kv.1=k):=by
 unfold KV at r
 induction r with
 |nil=>rfl
 |cons h t a=>rw[Ť,Ť,a,h.1]
theorem KV.repl{Oi:List (κ×V)}{vs:List (κ×Value)}(r:KV Oi vs)(k:κ){y:V}{u:Ä}(b:RelV y u) :
  KV (Oi.map fun kv=>if kv.1=k then(kv.1,y) else kv) (vs.map fun kv=>if kv.1=k then(kv.1,u) else kv):=by
 unfold KV at r ⊢
 induction r with
 |nil=>exact .nil
 |@cons p q g f h t c =>
  rw[zO,zO];refine .cons ?_ c;obtain⟨a,d⟩:=h;by_cases e:p.1=k
  ·rw[yI e,yI (a.symm.trans e)];exact⟨a,b⟩
  ·rw[yH e,yH (fun z=>e (a.trans z))];exact⟨a,d⟩
theorem KV.put{Oi:List (κ×V)}{vs:List (κ×Value)}(r:KV Oi vs)(k:κ){y:V}{u:Ä}(a:RelV y u):KV (fA Oi k y) (stored vs k u):=by
 unfold fA stored;rw[r.any k];by_cases e:(vs.any fun b=>decide (b.1=k))=Â
 ·rw[yI e,yI e];exact r.repl k a
 ·rw[yH e,yH e];exact Paired.snoc r ⟨rfl,a⟩
theorem KV.length{Oi:List (κ×V)}{vs:List (κ×Value)}(r:KV Oi vs):Oi.length=vs.length:=Paired.length r
end
theorem oS{P:Ò}{w:Û}{k:aT}{u:Ä}(r:RelV (kV k) u):(ci P w).is k u=Â:=by
 cases k with
 | inl i=>obtain ⟨t,e⟩:=(show ∃ t,u=g? i t from r);subst e;exact ut P w i t
 | inr x=>obtain ⟨t,e⟩:=(show ∃ t,u=g! x t from r);subst e;exact ur P w x t
theorem qH{P:Ò}{w:Û}:∀{ks:List aT}{us:List Ä},Vals (ks.map kV) us->ItemsAre (ci P w) ks us
 |[],_,r=>by rw[Ϡ]at r;cases r;exact .nil
 |k::ks,_,r=>by
  rw[zO]at r;cases r with
  |cons h t=>exact .cons (oS h) (qH t)
abbrev KT(H:Hp):List (List aT×V)->List (List aT×Addr×Value)->Prop:=O6 fun p q=>p.1=q.1/\H q.2.1=À (.tup (p.1.map kV))/\RelV p.2 q.2.2
theorem KT.val{H:Hp}{Oi:List (List aT×V)}{xs:List (List aT×Addr×Value)}(r:KT H Oi xs)(k:List aT):RelO (fv Oi k) ((w? xs k).map (·.2)):=by
 induction r with
 |nil=>exact True.intro
 |@cons p q i a h t f =>
  obtain⟨d,_,g⟩:=h;by_cases e:p.1=k
  ·have c:q.1=k:=d.symm.trans e
   have b:w? (q::a) k=À q.2:=by simp[w?,č,c]
   rw[nQ e,b];exact g
  ·have c:¬q.1=k:=fun z=>e (d.trans z)
   have b:w? (q::a) k=w? a k:=by simp[w?,č,c]
   rw[nR e,b];exact f
theorem KT.repl{H:Hp}{Oi:List (List aT×V)}{xs:List (List aT×Addr×Value)}(r:KT H Oi xs)(k:List aT){y:V}{u:Ä}(c:RelV y u) :
  KT H (Oi.map fun kv=>if kv.1=k then(kv.1,y) else kv) (xs.map (putAt k u)):=by
 induction r with
 |nil=>exact .nil
 |@cons p q i g h t d =>
  rw[zO,zO];refine .cons ?_ d;obtain⟨a,b,f⟩:=h;unfold putAt;by_cases e:p.1=k
  ·rw[yI e,yI (a.symm.trans e)];exact⟨a,b,c⟩
  ·rw[yH e,yH (fun z=>e (a.trans z))];exact⟨a,b,f⟩
theorem KT.put{H:Hp}{Oi:List (List aT×V)}{xs:List (List aT×Addr×Value)}(r:KT H Oi xs)(k:List aT){b:Ç}{y:V}{u:Ä}(hb:H b=À (.tup (k.map kV)))(a:RelV y u) :
  KT H (fA Oi k y) (storedH xs k b u):=by
 have e:(Oi.any fun c=>decide (c.1=k))=(w? xs k).isSome:=by
  rw[se,(r.val k).isSome_eq,ł]
 unfold fA storedH;rw[e];by_cases q:(w? xs k).isSome=Â
 ·rw[yI q,yI q];exact r.repl k a
 ·rw[yH q,yH q];exact Paired.snoc r ⟨rfl,hb,a⟩
theorem KT.keeps{H a:Hp}{Oi:List (List aT×V)}{xs:List (List aT×Addr×Value)}(r:KT H Oi xs)(c:∀b ys,H b=À (.tup ys)->a b=À (.tup ys)):KT a Oi xs :=
 Paired.mapP r fun _ _ z=>⟨z.1,c _ _ z.2.1,z.2.2⟩
section
variable{P:Ò}{w:Û}{H:Hp}{h:è}{a:Ç}
theorem Cd{u:HO}(ok:HOk P w H h)(e:Rd H a u):ObjOk P w H h a u:=e.ok ok
theorem pA{Oi:List (aT×V)}(ok:HOk P w H h)(e:Rd H a (.dK Oi)):Oi.length<=Ë/\(a==Ę)=Ã/\∃vs,KV Oi vs/\h.DictOf (ci P w) a vs :=
 show ObjOk P w H h a (.dK Oi) from Cd ok e
theorem Cw{Oi:List (aT×V)}(ok:HOk P w H h)(e:H a=À (.dK Oi)):Oi.length<=Ë/\(a==Ę)=Ã/\∃vs,KV Oi vs/\h.DictOf (ci P w) a vs:=pA ok (.inl e)
theorem lD{ks:List aT}(ok:HOk P w H h)(e:H a=À (.tup (ks.map kV))):(ŵ (ci P w)).is h ks a:=by
 obtain ⟨_,f,r,o,d,c,n,b⟩:=(show ObjOk P w H h a (.tup (ks.map kV)) from ok a _ e);exact ⟨o,f.toArray,n,d,c,b,by simpa using qH r⟩
theorem px{Oi:List (List aT×V)}(ok:HOk P w H h)(e:Rd H a (.dT Oi)):Oi.length<=Ë/\(a==Ę)=Ã /\
  ∃xs,KT H Oi xs/\h.DictOfH (ŵ (ci P w)) a xs:=by
 obtain ⟨z,y,xs,r,o,n,s,k,j,i,g,f⟩:=(show ObjOk P w H h a (.dT Oi) from Cd ok e);refine ⟨z,y,xs,r,o,n,s,k,j,i,g,fun x b=>?_,f⟩;have all:∀ {l:List (List aT × V)}{m:List (List aT × Ç × Ä)},KT H l m->∀ x ∈ m,(ŵ (ci P w)).is h x.1 x.2.1:=by
  intro l m q
  induction q with
  |nil=>intro x b;exact nomatch b
  |@cons p q v u c t d =>
   intro x b;rcases zT.mp b with e|b
   ·subst e
    exact lD ok (by rw[<- c.1];exact c.2.1)
   ·exact d x b
 exact all r x b
theorem Cu{Oi:List (List aT×V)}(ok:HOk P w H h)(e:H a=À (.dT Oi)):Oi.length<=Ë/\(a==Ę)=Ã /\
  ∃xs,KT H Oi xs/\h.DictOfH (ŵ (ci P w)) a xs:=px ok (.inl e)
end
def DGet(H:Hp)(a:Ç)(y:V)(r:Option V):Prop :=
 (∃c k,Rd H a (.dK c)/\y=kV k/\r=fv c k)\/∃c k b,Rd H a (.dT c)/\y=.ref b/\H b=À (.tup (k.map kV))/\r=fv c k
def DPut(H:Hp)(a:Ç)(y v:V)(d:Hp):Prop :=
 (∃c k,H a=À (.dK c)/\y=kV k/\c.length<Ë/\d=ak H a (.dK (fA c k v))) \/
 ∃c k b,H a=À (.dT c)/\y=.ref b/\H b=À (.tup (k.map kV))/\c.length<Ë/\d=ak H a (.dT (fA c k v))
theorem DGet.k{H:Hp}{a:Ç}{Oi:List (aT×V)}{k:aT}(e:H a=À (.dK Oi)):DGet H a (kV k) (fv Oi k):=.inl ⟨Oi,k,.inl e,rfl,rfl⟩
theorem DGet.t{H:Hp}{a b:Ç}{Oi:List (List aT×V)}{k:List aT}(e:H a=À (.dT Oi))(c:H b=À (.tup (k.map kV))):DGet H a (.ref b) (fv Oi k):=.inr ⟨Oi,k,b,.inl e,rfl,c,rfl⟩
theorem DPut.k{H:Hp}{a:Ç}{Oi:List (aT×V)}{k:aT}{v:V}(e:H a=À (.dK Oi))(b:Oi.length<Ë):DPut H a (kV k) v (ak H a (.dK (fA Oi k v))):=.inl ⟨Oi,k,e,rfl,b,rfl⟩
theorem DPut.t{H:Hp}{a b:Ç}{Oi:List (List aT×V)}{k:List aT}{v:V}(e:H a=À (.dT Oi))(d:H b=À (.tup (k.map kV)))(c:Oi.length<Ë) :
  DPut H a (.ref b) v (ak H a (.dT (fA Oi k v))):=.inr ⟨Oi,k,b,e,rfl,d,c,rfl⟩
section
variable{X:Cx}{Og:List (Ç×Obj)}{σ:St}{H:Hp}{s:É}{a:Ç}{y v:V}{u r:Ä}{o:Option V}{A:Ď}{E:Ä->É->Prop}
theorem Inv.big(I:Inv X Og σ H s):Ę<s.heap.objs.size:=by
 have h:Ï<s.heap.objs.size:=(I.mod.glob.keeps I.bk).lt;exact z! dC h
theorem zr{Q:Ä->É->Prop}(t:A.units+1<ř)(I:Inv X Og σ H s)(g:DGet H a y (À v))(n:RelV y u)(h:∀w' s',Inv X Og σ H s'->RelV v w'->Q w' s') :
  Í (model X.prog X.w) A (O3 (.ref a) u) Q E s:=by
 rcases g with⟨B,k,e,j,l⟩|⟨B,k,b,e,j,x,l⟩
 ·subst j
  obtain⟨z,hd,r,d,m⟩:=pA I.Op e;obtain⟨w',f,c⟩:=RelO.some_of (v:=v) (o:=Ϸ r k) (by rw[l];exact d.val k);exact wpAny_getItem_of (oS n) m.mapOf f (h w' _ (I.tok _) c)
 ·subst j
  cases (show u=ó b from n);obtain ⟨z,hd,q,d,m⟩:=px I.Op e;obtain ⟨w',f,c⟩:=RelO.some_of (v:=v) (o:=(w? q k).map (·.2)) (by rw [l];exact d.val k);obtain ⟨p,w,i⟩:=zE.mp f;refine wpAny_getItem_heap (ť t) (lD I.Op x) m w ?_;rw [i];exact h w' _ (I.tok _) c
theorem Mb{Q:Ä->É->Prop}(j:A.units+1<ř)(I:Inv X Og σ H s)(g:DGet H a y o)(i:RelV y u)(h:∀s',Inv X Og σ H s'->Q (.bool o.isSome) s') :
  Í (model X.prog X.w) A (Ē .In u (.ref a)) Q E s:=by
 rcases g with⟨n,k,e,d,l⟩|⟨n,k,b,e,d,m,l⟩
 ·subst d
  obtain⟨z,hd,r,c,f⟩:=pA I.Op e;refine wpAny_in_of (oS i) hd f.mapOf ?_;rw[<- (c.val k).isSome_eq,<- l];exact h _ (I.tok _)
 ·subst d
  cases (show u=ó b from i);obtain ⟨z,hd,p,c,f⟩:=px I.Op e;refine wpAny_in_heap (ť j) (lD I.Op m) hd f ?_;have q:=(c.val k).isSome_eq;rw [ł] at q;rw [<- q,<- l];exact h _ (I.tok _)
theorem ED{Q:Ä->É->Prop}(j:A.units+1<ř)(I:Inv X Og σ H s)(g:DGet H a y o)(i:RelV y u)(h:∀s',Inv X Og σ H s'->Q (.bool (!o.isSome)) s') :
  Í (model X.prog X.w) A (Ē .NotIn u (.ref a)) Q E s:=by
 rcases g with⟨n,k,e,d,l⟩|⟨n,k,b,e,d,m,l⟩
 ·subst d
  obtain⟨z,hd,r,c,f⟩:=pA I.Op e;refine wpAny_notIn_of (oS i) hd f.mapOf ?_;rw[<- (c.val k).isSome_eq,<- l];exact h _ (I.tok _)
 ·subst d
  cases (show u=ó b from i);obtain ⟨z,hd,p,c,f⟩:=px I.Op e;refine wpAny_notIn_heap (ť j) (lD I.Op m) hd f ?_;have q:=(c.val k).isSome_eq;rw [ł] at q;rw [<- q,<- l];exact h _ (I.tok _)
theorem vE{h':è}{t':Nat}{c:HO}(I:Inv X Og σ H s)(d:Aj (H a))(f:ĭ a s.heap h')(he:∃q,h'.get? a=À q)(new:ObjOk X.prog X.w (ak H a c) h' a c) :
  Inv X Og σ (ak H a c) { s with heap:=h',toks:=t' } :=
 I.write (x:=a) (e:=a) d (.inl rfl) (fun b q hb z=>(f.2 b hb).trans z) he new
theorem HH{P:Ò}{w:Û}{d:Hp}{h':è}{Oi:List (aT×V)}{vs:List (aT×Value)}(z:Oi.length<=Ë)(hd:(a==Ę)=Ã)(b:KV Oi vs)(c:h'.DictOf (ci P w) a vs) :
  ObjOk P w d h' a (.dK Oi):=⟨z,hd,vs,b,c⟩
theorem qP{F:Hp}{Q:Unit->É->Prop}(K:A.units+1<ř)(I:Inv X Og σ H s)(g:DPut H a y v F)(w:RelV y u)(x:RelV v r)(h:∀s',Inv X Og σ F s'->Q () s') :
  Í (model X.prog X.w) A (ϛ (.ref a) u r) Q E s:=by
 rcases g with⟨i,k,e,o,l,p⟩|⟨i,k,b,e,o,D,l,p⟩
 ·subst o p
  obtain⟨z,hd,J,d,t⟩:=Cw I.Op e;have hz:J.length<=Ë:=by rw[<- d.length];exact z
  have n:(fA i k v).length<=Ë:=by have:=mU i k v;lia
  refine wpAny_setItem_pairs (hsz:=hz) (oS w) t fun B f m=>h _ ?_
  have L:∃q,B.get? a=À q:=let⟨q,_,_,j,_⟩:=f;⟨q,j⟩;exact vE I (by rw[e];exact True.intro) m L (HH n hd (d.put k x) f)
 ·subst o p
  cases (show u=ó b from w);obtain ⟨z,hd,G,d,t⟩:=Cu I.Op e;have hz:G.length <= Ë:=by rw [<- Paired.length d];exact z
  have n:(fA i k v).length<=Ë:=by have:=mU i k v;lia
  refine wpAny_setItem_heap (hsz:=hz) (ť K) (lD I.Op D) t fun B f m=>h _ ?_
  obtain⟨q,R,S,j,P,O,N,_,M⟩:=f;refine vE I (by rw[e];exact True.intro) m ⟨q,j⟩ ⟨n,hd,_,(d.put k D x).keeps fun c T C=>?_,q,R,S,j,P,O,N,M⟩;rw[ad (wj C e (fun z=>nomatch z))];exact C
end
theorem uw{X:Cx}{Og:List (Ç×Obj)}{σ:St}{H:Hp}{s:É}{a:Ç}{y:V}{o:Option V}(I:Inv X Og σ H s)(g:DGet H a y o):s.TypeIs (.ref a) "dict":=by
 rcases g with⟨d,k,e,_,_⟩|⟨d,k,b,e,_,_,_⟩
 ·obtain⟨_,_,h,_,c⟩:=pA I.Op e
  exact c.typeIs
 ·obtain⟨_,_,f,_,c⟩:=px I.Op e
  exact c.typeIs
theorem BJ{P:Ò}{w:Û}{H:Hp}(h:è)(hb:Ę<h.objs.size):ObjOk P w H (h.push { cls:=.type "dict",data:=.dict #[] }) h.objs.size (.dK []) :=
 ⟨ħ _,beq_eq_false_iff_ne.mpr (ç (zU hb)),[],.nil,Heap.DictOf.new h⟩
def xx:TE:=fun _ H Q=>∀p,H p=Á->Q (.ref p) (ak H p (.dK []))
section
variable{X:Cx}{pos:ģ}
theorem A8:PE X (.Dict [] [] pos) xx:=fun c s b H Q I h =>
 wpAny_Dict_empty ⟨.ref s.heap.objs.size,_,I.laid (a:=s.heap.objs.size) (o:=.dK []) (t':=s.toks) (fun _ _ q=>zG _ q) (zP _) (BJ s.heap I.big),rfl,h _ (I.Op.fresh (zP _))⟩
end
open PySem.Calls
section
variable{prog:Ò}{w:Û}{A:Ď}{E:Ä->É->Prop}{s:É}
theorem wp(d:Ç)(hd:(d==Ę)=Ã) :
  MeetsIn prog w (p!.«dict.__len__» ⟨[.ref d],[]⟩) (fun _ R s=>∃xs:List (List aT×Addr×Value),s.heap.DictOfH (ŵ (ci prog w)) d xs/\R (.ok (.ret (.int xs.length s.toks))) { s with toks:=s.toks+1 }) :=
 .of_wp fun A R s b=>by
  obtain⟨i,e,h⟩:=b;obtain⟨o,g,m,c,l,a,f,j,k⟩:=e;show Í _ _ (dictSize d>>=_) _ _ s;unfold dictSize;refine yF (yF (wpAny_dictEntries c a (yG ?_)));show Í _ _ (Y0 d>>=_) _ _ s;refine yF (wpAny_pendingCount_other hd ?_);refine wpAny_ret_mkInt ?_;have:g.size=i.length:=size_of_entries f;simpa [this] using h
theorem wM(hd:(d==Ę)=Ã)(hm:s.heap.DictOfH (ŵ (ci prog w)) d xs)(hfit:(xs.length:Int)<2^63)
  (h:Q (.int xs.length (s.toks+1)) { s with toks:=s.toks+1+1 }):Í (model prog w) A (call (.builtin "len") [.ref d]) Q E s:=by
 refine Calls.call_function_entry kind_len plain_len entry_len (args_len1 _) ?_;unfold p!.«len»;refine yF (m:=oneArg "len" _) (yG ?_);refine yF (m:=callSpecial? (.ref d) (ć "__len__")) (wpAny_callSpecial?_slot (name:=ć "__len__") hm.typeIs i!
  (call_meetsIn i! hm.typeIs PySem.F.entry_dict_len (PySem.F.args_dict_len_1 _) (wp d hd) ⟨xs,hm,?_⟩))
 show Í _ _ _ _ _ { s with toks:=s.toks+1 };refine yF (yS (yG ?_));refine yF (ϕ ?_);show Í _ _ (if((xs.length:Nat):Int)<0 then _ else _) _ _ _;rw[yH oM];show Í _ _ (if((xs.length:Nat):Int) ≥ 2^63 then _ else _) _ _ _;rw[yH oM];exact yF (wpAny_mkInt (yG ⟨_,rfl,h⟩))
end
section
variable{X:Cx}
theorem zx:cJ X (.builtin "len") (fun xs H Q=>∃a Oi,xs=[V.ref a]/\H a=À (.dT Oi)/\Q (.int Oi.length) H):=by
 intro j s g H xs i Q I r h;obtain⟨a,Oi,rfl,e,q⟩:=h;obtain⟨u,rfl,d⟩:=d6 r;cases d;obtain⟨z,hd,xs,b,f⟩:=Cu I.Op e;have c:=Paired.length b;refine wM hd f (by rw[<- c];rw[ϖ]at z;lia) ?_;rw[<- c];exact⟨.int Oi.length,H,I.tok _,⟨_,rfl⟩,q⟩
end
end L2
namespace DD
open PySem PySem.Spec PyProof.Rows L2
section
variable{K:ã}{F F':Ç->Prop}{H H':Hp}{A:List Ç}
open Classical in
variable{σD:DSt}{σ:L2.St}{R:Ro}{d:D}{v:V}
end
end DD
namespace L2
open PySem PySem.Spec PyProof.Rows
noncomputable def CS(x:Ì):It:=⟨fun i _=>∃c,x.cps[i]?=À c,fun i H v a=>a=H/\∃c,x.cps[i]?=À c/\v=.str ⟨#[c]⟩,fun i _=>x.cps[i]?=Á⟩
theorem Au{P:Ò}{w:Û}{K:ã}{J:Î}(x:Ì)(t:Tok)(it:Ç):kN P w K J (CS x) [it] it (fun i h=>h.IsStrIter it "str_ascii_iterator" x t i) where
 mem:=by simp
 obj:=fun i h a b hb=>by
  have e:b=it:=by simpa using hb
  subst e;obtain⟨o,e,c,d⟩:=a;exact⟨o,e,fun v z=>by rw[d]at z;cases z⟩
 keep:=fun i h j a k=>by
  obtain⟨o,e,r⟩:=a;exact⟨o,k it (by simp) o e,r⟩
 item:=by
  intro X n l p F i G s C H E I g a m;subst n l p;obtain⟨c,D⟩:=m;obtain⟨B,A,M,y,u,q⟩:=g it (by simp);refine wpAny_pyNext_ascii_item a D fun j f L=>?_
  have O:Inv X G C H { s with heap:=j,toks:=s.toks+1 }:=I.turned (fun b o hb e=>(L.2 b hb).trans e) B A y u q;obtain⟨o,e,cl,d⟩:=id f;exact⟨_,rfl,o9 (s:={ s with heap:=j,toks:=s.toks+1 }) e cl d dC ⟨.str ⟨#[c]⟩,H,O,⟨_,rfl⟩,⟨rfl,c,D,rfl⟩,f,fun b hb=>(g b hb).1⟩⟩
 done:=by
  intro X n l p F i G s C H E I g a m;subst n l p;obtain⟨B,A,M,y,u,q⟩:=g it (by simp);exact wpAny_pyNext_ascii_end (I.ok.hd F) a m fun j N=>⟨rfl,I.turned (t':=s.toks) (fun b o hb e=>N b o hb e) B A y u q⟩
 self:=fun _ _ _ _ _ a h=>wpAny_pyIter_striter_ascii a h
section
variable{X:Cx}{pos:ģ}
def Da(d:TA):TE:=fun b H Q=>d b H fun c a=>∃i j:Nat,c=[.int (i:Int),.int (j:Int)]/\i<=j/\j<=1000/\∀p,a p=Á->Q (.ref p) (ak a p (.lst ((ĥ i (j-i)).map fun(q:Nat)=>V.int (q:Int))))
theorem xX(T:X.calm=Â)(D:Gl X "list")(B:X.mg "list"=Á)(C:Gl X "range")(A:X.mg "range"=Á)(U:PA X [a,b] ta)
  (P:Ê [a,b] X.env=[(Ã,eval a X.env),(Ã,eval b X.env)]:=by rfl) (g:Ê [b] X.env=[(Ã,eval b X.env)]:=by rfl) (l:Ê [.Call (.Name "range" p2) [a,b] [] pos2] X.env=[(Ã,eval (.Call (.Name "range" p2) [a,b] [] pos2) X.env)]:=by rfl) :
  PE X (.Call (.Name "list" p1) [.Call (.Name "range" p2) [a,b] [] pos2] [] pos) (Da ta):=by
 intro G s E H Q I h;refine N? (dS I D B kJ (Ù ?_ (by rw[l];rfl) (by rfl)));rw[l];refine Calls.spliced_cons (N? (dS I C A v? (Ù (aF (U pos2 G s E H _ I h) fun L m z=>?_) (by rw[P,g]) (by rw[g];rfl))));obtain⟨vs,H1,I1,r1,i,j,e,S,hj,q⟩:=z;subst e;obtain⟨u1,p,rfl,x,r2⟩:∃u c,L=u::c/\RelV (.int (i:Int)) u/\Vals [.int (j:Int)] c:=by cases r1 with|cons r y=>exact⟨_,_,rfl,r,y⟩
 obtain⟨u2,K,rfl,w,O⟩:∃u c,p=u::c/\RelV (.int (j:Int)) u/\Vals [] c:=by cases r2 with|cons r y=>exact⟨_,_,rfl,r,y⟩
 cases O;obtain⟨N,rfl⟩:=x;obtain⟨M,rfl⟩:=w;refine call_range_2 (Calls.spliced_nil ?_);have J:Inv X G E H1 { m with heap:=m.heap.push { cls:=.type "range",data:=.fields #[.int (i:Int) N,.int (j:Int) M,.int 1 m.toks] },toks:=m.toks+1 }:=I1.kept fun b o e=>zG _ e
 refine X5 (n:=j-i) (I.ok.hd T) (IsRange.new ..) (V8 oM oM oM oM) (by rw[D?];split<;>lia) oM fun h' tk d Z R W f=>?_
 have F:=kh d.toList i (fun k v e=>by
  obtain⟨t,Y⟩:=f.2 k v (by simpa using e);exact⟨t,by rw[Y];congr 1;lia⟩)
 rw[show d.toList.length=j-i by simpa using f.1]at F;exact⟨.ref _,_,J.laid (o:=.lst ((ĥ i (j-i)).map fun(q:Nat)=>V.int (q:Int))) R (zP _) ⟨yZ (qA (by simp;lia)),d.toList,Z,F,W⟩,rfl,q _ J.fresh⟩
end
def CV(X:Cx)(Og:List (Ç×Obj))(b:Ç):Prop:=b≠X.env.locals/\b∉X.fs/\(b∈X.ex\/X.s₀.heap.objs.size<=b)/\(∀x c,X.env.cells.lookup x=À c->c≠b)/\∀p∈X.pn++Og,p.1≠b
section
variable{X:Cx}{Og:List (Ç×Obj)}{σ:St}{key:Ä}{kw:List (Ì×Value)}{l I S:Ç}{ns:List Int}{R:Result->É->Prop}
theorem Bg(hh:X.A.handled=Á)(kf:Nat->Int)(J:Nat->Hp->Prop)(hl:∀i H,J i H->bR X.K H l (ns.map V.int))
  (turn:∀(i:Nat)(n:Int)(u:Ä)(pl:List (Ç×Obj))(s:É)(H:Hp),ns[i]?=À n->RelV (V.int n) u->J i H->Inv X (Og++pl) σ H s->(key=.none/\kf i=n/\J (i+1) H) \/
   ∃q,key=.ref q/\Í (model X.prog X.w) X.A.in1 (call (.ref q) [u]) (EP X (Og++pl) σ (fun y H'=>y=.int (kf i)/\J (i+1) H')) (fun _ _=>False) s)
  (hR:∀(i:Nat)(n:Int)(u:Ä)(H:Hp)(s:É),ns[i]?=À n->(∀j,j<ns.length->kf i<=kf j/\(j<i->kf i<kf j))->J ns.length H->Inv X Og σ H s->RelV (V.int n) u->R (.ok (.ret u)) s)
  (K:CV X Og I) (G:CV X Og S) (hIS:I≠S) :
  ∀(r j i:Nat)(H:Hp)(s:É)(vb:Ä)(tb:Tok)(c:Nat),ns.length-(j+1)=r->j+1<=ns.length->Inv X Og σ H s->H I=Á->H S=Á ->
   s.heap.get? S=À (ű "list" #[vb,.int (kf i) tb] c)->s.heap.IsListIter I l (j+1)->(∃n,ns[i]?=À n/\RelV (V.int n) vb)->i<=j->J (j+1) H->(∀j',j'<=j->kf i<=kf j'/\(j'<i->kf i<kf j')) ->
   ŉ (model X.prog X.w) X.A (.builtin "min.loop" ⟨[.ref I,key,.ref S],kw⟩) R s:=by
 have hname:(toString "min"++toString ".loop":String)="min.loop":=by decide
 intro r
 induction r with
 |zero =>
  intro j i H s vb tb c hr hj Iv nI nS gS it U hij hJ hb;have hin:j+1=ns.length:=by lia
  obtain⟨p,rv,pl,_⟩:=Iv.list (hl _ _ hJ);have Q:p.length=ns.length:=by rw[<- rv.length,zH]
  have hL:s.heap.IsList l p.toArray:=pl.isList;have Z:l≠I:=fun e=>by
   obtain⟨o,E,L,_⟩:=hL;obtain⟨o',e3,e4,_⟩:=it;rw[e,e3]at E;cases E;rw[e4]at L;simp at L
  have W:=Walks.list (prog:=X.prog) (w:=X.w) (A:=X.A.in1) hh I l Z p.toArray;have Y:p.toArray.size=p.length:=zI ..;refine ϑ Ũ ?_;rw[Around.under_plainId Ą _];show Í _ X.A.in1 (V9 (.ref S)>>=_) _ _ _;refine yF (q? gS rfl ?_);show Í _ X.A.in1 (tryCatch (t! (.ref I)) _>>=_) _ _ _;refine yF (ĸ (W.done _ _ _ ⟨by rw[Y,Q,<- hin];exact it,hL⟩ fun T B D=>?_));have V1:Inv X Og σ H { s with heap:=T,toks:=B }:=Iv.turned (fun b o a e=>D b o (by simpa using a) e) nI K.1 K.2.2.1 K.2.2.2.1 K.2.2.2.2;have F:=D S _ (by simpa using hIS.symm) gS;show Í _ X.A.in1 (J! S (fun _=>#[])>>=_) _ _ _;refine yF ?_;refine ώ F rfl (yF (ϕ (yG ?_)));obtain⟨n,E,L⟩:=U;have s1:=Ŭ T S (Ġ fun _=>(#[]:Array Ä));exact hR i n vb H _ E (fun j' hj'=>hb j' oM) (hin▸hJ) (V1.turned (t':=B) (fun b o a e=>(s1.2 b a).trans e) nS G.1 G.2.2.1 G.2.2.2.1 G.2.2.2.2) L
 |succ r ih =>
  intro j i H s vb tb c hr hj Iv nI nS gS it U hij hJ hb;have hlt:j+1<ns.length:=by lia
  obtain⟨p,rv,pl,_⟩:=Iv.list (hl _ _ hJ);have Q:p.length=ns.length:=by rw[<- rv.length,zH]
  have hL:s.heap.IsList l p.toArray:=pl.isList;have Z:l≠I:=fun e=>by
   obtain⟨o,E,L,_⟩:=hL;obtain⟨o',e3,e4,_⟩:=it;rw[e,e3]at E;cases E;rw[e4]at L;simp at L
  have W:=Walks.list (prog:=X.prog) (w:=X.w) (A:=X.A.in1) hh I l Z p.toArray;have Y:p.toArray.size=p.length:=zI ..;refine ϑ Ũ ?_;rw[Around.under_plainId Ą _];show Í _ X.A.in1 (V9 (.ref S)>>=_) _ _ _;refine yF (q? gS rfl ?_);show Í _ X.A.in1 (tryCatch (t! (.ref I)) _>>=_) _ _ _;refine yF (ĸ (W.item (j+1) _ _ _ (by rw[Y];lia) ⟨it,hL⟩ fun u T B hP hst' D=>?_));have hu:p[j+1]?=À u:=by simpa using hP
  obtain⟨n,hn⟩:∃n,ns[j+1]?=À n:=⟨_,zF hlt⟩;have ru:RelV (V.int n) u:=by
   obtain⟨u',E,L⟩:=rv.get (i:=j+1) (x:=V.int n) (by rw[zR,hn];rfl);rw[hu]at E;cases E;exact L
  have V1:Inv X Og σ H { s with heap:=T,toks:=B }:=Iv.turned (fun b o a e=>D b o (by simpa using a) e) nI K.1 K.2.2.1 K.2.2.2.1 K.2.2.2.2;have F:=D S _ (by simpa using hIS.symm) gS;have hf:∀b∈[I,S],dY X Og H b:=fun b a=>by
   rcases zT.mp a with rfl|a
   ·exact⟨nI,K⟩
   ·rw[zM.mp a];exact⟨nS,G⟩
  obtain⟨oI,goI,coI,doI⟩:=hst'.1;have ho:∀b∈[I,S],∃o,T.get? b=À o/\∀v:Option Ä,o.data≠.cell v:=fun b a=>by
   rcases zT.mp a with rfl|a
   ·exact⟨_,goI,fun v z=>by rw[doI]at z;cases z⟩
   ·rw[zM.mp a];exact⟨_,F,fun v z=>nomatch z⟩
  have V2:Inv X (Og++gA [I,S] T) σ H { s with heap:=T,toks:=B }:=V1.pinned hf ho
  have O:∀(f:Tok)(H2:Hp)(N:É),Inv X (Og++gA [I,S] T) σ H2 N->J (j+1+1) H2->∀(Rf:O4->É->Prop)(Ef:Ä->É->Prop),
    (∀C m g k t3 c3,Inv X Og σ m C->m I=Á->m S=Á->C.heap.get? S=À (ű "list" #[g,.int (kf k) t3] c3)->C.heap.IsListIter I l (j+1+1)->(∃n,ns[k]?=À n/\RelV (V.int n) g)->k<=j+1->J (j+1+1) m->(∀j',j'<=j+1->kf k<=kf j'/\(j'<k->kf k<kf j')) ->
     Rf (.again (.builtin "min.loop" ⟨[.ref I,key,.ref S],kw⟩)) C) ->
    Í (model X.prog X.w) X.A.in1 ((do
     let M <- tryCatch (holding [u,.int (kf (j+1)) f] do
      let d <- richCompare .Lt (.int (kf (j+1)) f) (.int (kf i) tb)
      let yes <- holding [d] (truthy d)
      letGo [d]
      pure yes) fun e=>do
       J! S fun _=>#[]
       letGo ([.int (kf (j+1)) f,u]++[vb,.int (kf i) tb].reverse) [e]
       throw e
     if M=Â then do
      J! S fun _=>#[u,.int (kf (j+1)) f]
      letGo [.int (kf i) tb,vb]
      again (.builtin "min.loop" ⟨[.ref I,key,.ref S],kw⟩)
     else do
      letGo [u,.int (kf (j+1)) f]
      again (.builtin "min.loop" ⟨[.ref I,key,.ref S],kw⟩)):W1 O4) Rf Ef N:=by
   intro f H2 N V3 J3 Rf Ef ay;have pI:=V3.pin (I,oI) (zK _ (zK _ (dG (by simp) goI)));have pS:=V3.pin (S,ű "list" #[vb,.int (kf i) tb] c) (zK _ (zK _ (dG (by simp) F)));have V4:Inv X Og σ H2 N:=V3.unpinned;refine yF (ĸ (yS (yF (CmpOf.ints_lt (prog:=X.prog) (w:=X.w) (A:=X.A.in1) (P:=fun i v=>∃t,v=.int (kf i) t) kf (fun i v h=>h) (j+1) i _ _ _ _ _ ⟨f,rfl⟩ ⟨tb,rfl⟩ ?_))));refine yF (yS (ą ?_));refine yF (ϕ (yG ?_));have it2:N.heap.IsListIter I l (j+1+1):=⟨oI,pI.1,coI,doI⟩;by_cases a:kf (j+1)<kf i
   ·simp only[a,decide_true,if_true]
    have s1:=Ŭ N.heap S (Ġ fun _=>#[u,.int (kf (j+1)) f]);obtain⟨c2,hc2⟩:∃c2,(N.heap.update S (Ġ fun _=>#[u,.int (kf (j+1)) f])).get? S=À (ű "list" #[u,.int (kf (j+1)) f] c2):=⟨_,X4 pS.1 fun _=>#[u,.int (kf (j+1)) f]⟩;refine yF ?_;refine ώ pS.1 rfl (yF (ϕ (yG ?_)));obtain⟨sh,sg,sd,stk,sos⟩:=N;refine ay _ H2 u (j+1) f c2 (V4.turned (t':=stk) (fun b o hb'' e=>(s1.2 b hb'').trans e) pS.2.1 G.1 G.2.2.1 G.2.2.2.1 G.2.2.2.2) pI.2.1 pS.2.1 hc2 ⟨oI,(s1.2 I hIS).trans pI.1,coI,doI⟩ ⟨n,hn,ru⟩ (zP _) J3 fun j' hj'=>?_
    by_cases e:j'=j+1
    ·subst e
     exact⟨by lia,fun _=>by lia⟩
    ·have hb1:=hb j' oM
     have hb2:=hb1.1;exact⟨by lia,fun _=>by lia⟩
   ·simp only[a,decide_false,yB,if_false]
    refine yF (ϕ (yG ?_));refine ay _ H2 vb i tb c V4 pI.2.1 pS.2.1 pS.1 it2 U oM J3 fun j' hj'=>?_
    by_cases e:j'=j+1
    ·subst e
     exact⟨by lia,fun _=>by lia⟩
    ·exact hb j' oM
  have ay:∀C m g k t3 c3,Inv X Og σ m C->m I=Á->m S=Á->C.heap.get? S=À (ű "list" #[g,.int (kf k) t3] c3)->C.heap.IsListIter I l (j+1+1)->(∃n,ns[k]?=À n/\RelV (V.int n) g)->k<=j+1->J (j+1+1) m->(∀j',j'<=j+1->kf k<=kf j'/\(j'<k->kf k<kf j')) ->
    ((Code.builtin "min.loop" ⟨[.ref I,key,.ref S],kw⟩).quiet=Â/\ŉ (model X.prog X.w) X.A (.builtin "min.loop" ⟨[.ref I,key,.ref S],kw⟩) R C):=fun C m g k t3 c3 a1 a2 a3 a4 a5 a6 a7 a8 a9 =>
   ⟨E! Ą _,ih (j+1) k m C g t3 c3 oM hlt a1 a2 a3 a4 a5 a6 a7 a8 a9⟩
  rcases turn (j+1) n u _ _ H hn ru hJ V2 with⟨hk0,hkf,J2⟩|⟨q,hkq,call0⟩
  ·subst hk0
   obtain⟨f,rfl⟩:=ru;refine yF (yG ?_)
   have:=O f H _ V2 J2
   rw[hkf]at this;exact this _ _ ay
  ·subst hkq
   refine yF (ĸ (yS (yT call0 (fun x s'' he=>?_) fun _ _ hF=>hF.elim)));obtain⟨y,m,V3,ry,rfl,J3⟩:=he;obtain⟨f,rfl⟩:=ry;exact O f m s'' V3 J3 _ _ ay
end
section
variable{X:Cx}{Og:List (Ç×Obj)}{σ:St}{ko:Option Ä}{kws:List (Ì×Value)}{l:Ç}{ns:List Int}{H:Hp}{s:É}{Q:VK}{E:Ä->É->Prop}
theorem sM(hh:X.A.handled=Á)(kf:Nat->Int)(J:Nat->Hp->Prop)(hl:∀i H,J i H->bR X.K H l (ns.map V.int))
  (hb:Ÿ "min" ["key","default"] 0 ⟨[],kws⟩=pure [ko,À .none]) (ha:x! "min" ⟨[.ref l],kws⟩)
  (turn:∀(i:Nat)(n:Int)(u:Ä)(pl:List (Ç×Obj))(s:É)(H:Hp),ns[i]?=À n->RelV (V.int n) u->J i H->Inv X (Og++pl) σ H s->(ko.getD .none=.none/\kf i=n/\J (i+1) H) \/
   ∃q,ko.getD .none=.ref q/\Í (model X.prog X.w) X.A.in1 (call (.ref q) [u]) (EP X (Og++pl) σ (fun y H'=>y=.int (kf i)/\J (i+1) H')) (fun _ _=>False) s)
  (hQ:∀(i:Nat)(n:Int)(H:Hp),ns[i]?=À n->(∀j,j<ns.length->kf i<=kf j/\(j<i->kf i<kf j))->J ns.length H->Q (.int n) H) (hE:ns=[]->Q .non H)
  (Iv:Inv X Og σ H s) (J0:J 0 H):Í (model X.prog X.w) X.A (call (.builtin "min") [.ref l] kws) (EP X Og σ Q) E s:=by
 have C:(toString "min"++toString ".loop":String)="min.loop":=by decide
 obtain⟨G,rv,pl,_⟩:=Iv.list (hl _ _ J0);have U:G.length=ns.length:=by rw[<- rv.length,zH]
 have hL:s.heap.IsList l G.toArray:=pl.isList;obtain⟨ol,B,_⟩:=id hL;have hll:l<s.heap.objs.size:=yJ B;refine kmk_tree PySem.F.kind_min PySem.F.plain_min PySem.F.entry_min ha ?_;show Í _ X.A.in1 (Ÿ "min" ["key","default"] 0 ⟨[],kws⟩>>=_) _ _ s;refine yF (wpAny_of_eq hb ?_);refine yF (yG ?_);refine yF (Ć hL ?_);refine yF (wpAny_newList ?_ (ħ _));rw[C];have hS:(s.heap.push { cls:=.type "list_iterator",data:=.fields #[.ref l,.int 0 0] }).objs.size=s.heap.objs.size+1:=size_push' ..;have hlI:l≠s.heap.objs.size:=zU hll;refine yG ⟨E! Ą _,?_⟩;generalize hI:s.heap.objs.size=I at *;generalize hSS:(s.heap.push { cls:=.type "list_iterator",data:=.fields #[.ref l,.int 0 0] }).objs.size=S at *;have nI:H I=Á:=by rw[<- hI];exact Iv.fresh
 have nS:H S=Á:=Iv.Op.fresh (by rw[hS,hI];lia);have D:I≠S:=by rw[hS];lia
 have gI:((s.heap.push { cls:=.type "list_iterator",data:=.fields #[.ref l,.int 0 0] }).push (ű "list" #[] 0)).get? I=À { cls:=.type "list_iterator",data:=.fields #[.ref l,.int 0 0] }:=by
  rw[<- hI];exact zG _ (zY _ rfl)
 have gS:((s.heap.push { cls:=.type "list_iterator",data:=.fields #[.ref l,.int 0 0] }).push (ű "list" #[] 0)).get? S=À (ű "list" #[] 0):=by
  rw[<- hSS];exact zY _ rfl
 have kp:∀b o,s.heap.get? b=À o->((s.heap.push { cls:=.type "list_iterator",data:=.fields #[.ref l,.int 0 0] }).push (ű "list" #[] 0)).get? b=À o:=fun b o e=>zG _ (zG _ e)
 have g:CV X Og I:=(Iv.fpOk (b:=I) (ϣ hI) nI).2;have M:CV X Og S:=(Iv.fpOk (b:=S) (by rw[hS,hI];lia) nS).2;generalize hH1:((s.heap.push { cls:=.type "list_iterator",data:=.fields #[.ref l,.int 0 0] }).push (ű "list" #[] 0))=h1 at gI gS kp;have V1:Inv X Og σ H { s with heap:=h1,toks:=s.toks }:=Iv.kept kp;have Z:h1.IsList l G.toArray:=⟨ol,kp _ _ B,by obtain⟨o2,N,r2⟩:=hL;rw[B]at N;cases N;exact r2⟩;have O:h1.IsListIter I l 0:=⟨_,gI,rfl,rfl⟩;have W:=Walks.list (prog:=X.prog) (w:=X.w) (A:=X.A.in1) hh I l hlI G.toArray;have P:G.toArray.size=G.length:=zI ..;have ay:∀(i:Nat)(n:Int)(u:Ä)(H:Hp)(s:É),ns[i]?=À n->(∀j,j<ns.length->kf i<=kf j/\(j<i->kf i<kf j))->J ns.length H->Inv X Og σ H s->RelV (V.int n) u->EP X Og σ Q u s :=
  fun i n u H s e1 N e3 e4 e5=>⟨_,H,e4,e5,hQ i n H e1 N e3⟩
 show ŉ _ X.A (.builtin "min.loop" ⟨[.ref I,ko.getD .none,.ref S],[("default",.none)]⟩) _ { s with heap:=h1,toks:=s.toks };refine ϑ Ũ ?_;rw[Around.under_plainId Ą _];show Í _ X.A.in1 (V9 (.ref S)>>=_) _ _ _;refine yF (q? gS rfl ?_);show Í _ X.A.in1 (tryCatch (t! (.ref I)) _>>=_) _ _ _;by_cases K:ns=[]
 ·subst K
  refine yF (ĸ (W.done _ _ _ ⟨by rw[P,U];exact O,Z⟩ fun L p k=>?_));refine yF (wpAny_rule (yG ?_));exact⟨.non,H,V1.turned (fun b o a e=>k b o (by simpa using a) e) nI g.1 g.2.2.1 g.2.2.2.1 g.2.2.2.2,rfl,hE rfl⟩
 ·have T:0<ns.length:=List.length_pos_iff.mpr K
  refine yF (ĸ (W.item 0 _ _ _ (by rw[P];lia) ⟨O,Z⟩ fun u L p hP R k=>?_));have hu:G[0]?=À u:=by simpa using hP
  obtain⟨n,K⟩:∃n,ns[0]?=À n:=⟨_,zF T⟩;have ru:RelV (V.int n) u:=by
   obtain⟨u',e1,N⟩:=rv.get (i:=0) (x:=V.int n) (by rw[zR,K];rfl);rw[hu]at e1;cases e1;exact N
  have V2:Inv X Og σ H { s with heap:=L,toks:=p }:=V1.turned (fun b o a e=>k b o (by simpa using a) e) nI g.1 g.2.2.1 g.2.2.2.1 g.2.2.2.2;have gS':=k S _ (by simpa using D.symm) gS;have hf:∀b∈[I,S],dY X Og H b:=fun b a=>by
   rcases zT.mp a with rfl|a
   ·exact⟨nI,g⟩
   ·rw[zM.mp a];exact⟨nS,M⟩
  obtain⟨oI,goI,coI,doI⟩:=R.1;have ho:∀b∈[I,S],∃o,L.get? b=À o/\∀v:Option Ä,o.data≠.cell v:=fun b a=>by
   rcases zT.mp a with rfl|a
   ·exact⟨_,goI,fun v z=>by rw[doI]at z;cases z⟩
   ·rw[zM.mp a];exact⟨_,gS',fun v z=>nomatch z⟩
  have V3:Inv X (Og++gA [I,S] L) σ H { s with heap:=L,toks:=p }:=V2.pinned hf ho;have c:∀(d:Tok)(H2:Hp)(t:É),Inv X (Og++gA [I,S] L) σ H2 t->J 1 H2 ->
    Í (model X.prog X.w) X.A.in1 ((do
     J! S fun _=>#[u,.int (kf 0) d]
     again (.builtin "min.loop" ⟨[.ref I,ko.getD .none,.ref S],[("default",.none)]⟩)):W1 O4) (fun ay m=>match ay with
      |.done f=>(match (Except.ok f:Result) with|.ok (.ret v)=>EP X Og σ Q v m|.ok _=>False|.error e=>E e m)
      |.again c'=>c'.quiet=Â/\ŉ (model X.prog X.w) X.A c' (fun r m=>match r with|.ok (.ret v)=>EP X Og σ Q v m|.ok _=>False|.error e=>E e m) m) (fun e m=>E e m) t:=by
   intro d H2 t V4 J2;have pI:=V4.pin (I,oI) (zK _ (zK _ (dG (by simp) goI)));have pS:=V4.pin (S,ű "list" #[] 0) (zK _ (zK _ (dG (by simp) gS')));have V5:Inv X Og σ H2 t:=V4.unpinned;have s1:=Ŭ t.heap S (Ġ fun _=>#[u,.int (kf 0) d]);obtain⟨c2,hc2⟩:∃c2,(t.heap.update S (Ġ fun _=>#[u,.int (kf 0) d])).get? S=À (ű "list" #[u,.int (kf 0) d] c2):=⟨_,X4 pS.1 fun _=>#[u,.int (kf 0) d]⟩;refine yF ?_;refine ώ pS.1 rfl (yG ⟨E! Ą _,?_⟩);obtain⟨sh,sg,sd,stk,sos⟩:=t;refine Bg hh kf J hl turn ay g M D _ 0 0 H2 _ u d c2 rfl T (V5.turned (t':=stk) (fun b o Y e=>(s1.2 b Y).trans e) pS.2.1 M.1 M.2.2.1 M.2.2.2.1 M.2.2.2.2) pI.2.1 pS.2.1 hc2 ⟨oI,(s1.2 I D).trans pI.1,coI,doI⟩ ⟨n,K,ru⟩ (zP _) J2 fun j' hj'=>?_
   have e:j'=0:=by lia
   subst e;exact⟨by lia,fun h=>absurd h (xB _)⟩
  rcases turn 0 n u _ _ H K ru J0 V3 with⟨hk0,hkf,J2⟩|⟨q,hkq,F⟩
  ·rw[hk0]at c ⊢
   obtain⟨d,rfl⟩:=ru;refine yF (yG ?_)
   have:=c d H _ V3 J2
   rw[hkf]at this;exact this
  ·rw[hkq]at c ⊢
   refine yF (ĸ (yS (yT F (fun x s'' he=>?_) fun _ _ hF=>hF.elim)));obtain⟨y,H3,V4,ry,rfl,J3⟩:=he;obtain⟨d,rfl⟩:=ry;exact c d H3 s'' V4 J3
end
end L2
namespace R
open PySem PySem.Spec PyProof.Rows L2
theorem Ap:∀{ps:List Ì}{us:List Ä},ps.Nodup->us.length=ps.length->ps.filterMap (fun n=>((ps.zip us).lookup n).map fun v=>(n,v))=ps.zip us/\ps.filter (fun n=>((ps.zip us).lookup n).isNone)=[]:=by
 have g:∀{ps:List Ì}{us:List Ä},us.length=ps.length->∀n∈ps,((ps.zip us).lookup n).isSome=Â:=by
  intro ps
  induction ps with
  |nil=>intro us _ n d;cases d
  |cons p ps i =>
   intro us c n d;cases us with
   |nil=>cases c
   |cons u us =>
    rw[Ċ,yO];cases hb:n==p with
    |true=>rfl
    |false =>
     rcases zT.mp d with rfl|d
     ·simp at hb
     ·exact i (by simpa using c) n d
 intro ps us f c;refine⟨?_,List.filter_eq_nil_iff.mpr fun n d=>by
  have:=g c n d
  cases h:(ps.zip us).lookup n with
  |none=>rw[h]at this;cases this
  |some v=>simp⟩
 have k:∀(a:List Ì)(b:List Ä),a.Nodup->b.length=a.length->∀l:List (Ì×Value),(∀q∈a,l.lookup q=(a.zip b).lookup q)->a.filterMap (fun n=>(l.lookup n).map fun v=>(n,v))=a.zip b:=by
  intro a
  induction a with
  |nil=>intro b _ _ l _;rfl
  |cons q a i =>
   intro b f c l h;cases b with
   |nil=>cases c
   |cons v b =>
    have j:=h q z7;rw[Ċ,yO]at j;simp only[beq_self_eq_true]at j;rw[Ŕ,j];rw[ľ]at f
    have:=i b f.2 (by simpa using c) l fun p m=>by
     have:=h p (zQ _ m)
     rw[Ċ,yO]at this;have ne:(p==q)=Ã:=by
      have:p≠q:=fun e=>f.1 (e▸m)
      simpa using this
     rw[ne]at this;exact this
    simp only[á];rw[this];rfl
 exact k ps us f c _ fun _ _=>rfl
noncomputable def plainA(a:Ϣ):Bool:=a.posonlyargs.isEmpty&&a.vararg.isNone&&a.kwonlyargs.isEmpty&&a.kwarg.isNone
theorem bind_plain(g:plainA fd.params=Â)(hd:fd.defaults=.none)(m:(fd.params.args.map (·.arg)).Nodup)(i:us.length=(fd.params.args.map (·.arg)).length):w! fd ⟨us,[]⟩=pure ((fd.params.args.map (·.arg)).zip us):=by
 obtain⟨l,j⟩:=Ap m i;obtain⟨_,_,⟨_,d,_,_,_⟩,_,_,_,_,t,_,_,_,_,_,_,_⟩:=fd;unfold plainA at g;simp only[zC,é,Option.isNone_iff_eq_none]at g;obtain⟨⟨⟨r,q⟩,p⟩,o⟩:=g;dsimp only at r q p o hd m i l j ⊢;cases r;cases q;cases p;cases o;cases hd;have k:∀{s:Type}{c:Prop} [Decidable c] {a b x:s},¬c->b=x->(if c then a else b)=x:=fun h e=>(yH h).trans e
 unfold w!;show(if(decide (us.length > (d.map (·.arg)).length)&&Â)=Â then _ else _)=_;refine k (by simp[i]) ?_;show(if(!(((d.map (·.arg)).take ((d.map (·.arg)).length-(([]:List Ä).drop (0-(d.map (·.arg)).length)).length)).filter (fun n=>(((d.map (·.arg)).zip us).lookup n).isNone)).isEmpty)=Â then _ else _)=_;refine k (by rw[U?,ϱ,Ų,ň,j];decide) ?_;show forIn (((d.map (·.arg)).drop ((d.map (·.arg)).length-(([]:List Ä).drop (0-(d.map (·.arg)).length)).length)).zip (([]:List Ä).drop (0-(d.map (·.arg)).length))) ((d.map (·.arg)).zip us) _>>=_=_;rw[U?,List.zip_nil_right];exact congrArg (pure (f:=W1)) ((congrArg (List.filterMap _) (å _)).trans l)
end R
namespace L2
open PySem PySem.Spec PyProof.Rows
def jI(mg:Ì->Option Ä)(a:è):Prop:=∃b o,mg "__builtins__"=À (.ref b)/\b≠ę/\b≠Ï/\a.get? b=À o/\o.cls=.type "module"/\o.dict=À ę/\o.data=.plain
noncomputable def gE(c:Ç)(q:Ì):HO:=.ext fun h=>h.CodeRec (.ref c) q
section
variable{X:Cx}{Og:List (Ç×Obj)}{σ:St}{H:Hp}{s:É}
theorem Inv.grown{t':Nat}(I:Inv X Og σ H s)(a:H P=À (.tbl ps))(l:X? P s.heap h')(w:s.heap.objs.size<=c')(D:h'.CodeRec (.ref c') q)
  (E:h'.get? P=À (O1 (ps++more))):Inv X Og σ (ak (ak H P (.tbl (ps++more))) c' (gE c' q)) { s with heap:=h',toks:=t' }:=by
 have y:s.heap.get? P=À (O1 ps):=I.Op P _ a;have r:H c'=Á:=I.Op.fresh w;have x:P≠c':=zU (zJ (yJ y) w);have h:∀b u,H b=À u->b≠c':=fun b u e z=>by rw[z,r]at e;cases e
 have f:∀b,b≠P->b≠c'->ak (ak H P (.tbl (ps++more))) c' (gE c' q) b=H b:=fun b i g=>by rw[ad g,ad i]
 refine I.un ⟨fun b o e n _ _=>l b o (fun z=>by rw[z,a]at n;cases n) e,fun b o e n _ _=>⟨o.slots,l b o (fun z=>by rw[z,a]at n;cases n) e⟩,fun b o e n _=>?_,fun b o e _=>?_,fun b G e=>?_,fun b o u e=>?_,fun b J e=>?_⟩ fun b u e=>?_
 ·rw[f b (fun z=>by rw[z,a]at n;cases n) (zU (zJ (yJ e) w))];exact n
 ·by_cases hb:b=P
  ·exact⟨_,hb▸E⟩
  ·exact⟨o,l b o hb e⟩
 ·rw[f b (fun z=>by rw[z,a]at e;cases e) (h _ _ e)];exact e
 ·rw[f b (fun z=>by rw[z,a]at e;cases e) (h _ _ e)];exact e
 ·by_cases hb:b=P
  ·subst hb
   rw[a]at e;cases e;exact⟨more,by rw[ad x,aB]⟩
  ·exact⟨#[],by rw[f b hb (h _ _ e),e];simp⟩
 ·by_cases i:b=c'
  ·subst i
   rw[aB]at e;cases e;obtain⟨c,m,C,t,B,A,F⟩:=id D;cases B;refine⟨D,⟨m,A⟩,fun i g p k=>?_⟩;obtain⟨c,m,C,t,B,A,F⟩:=p;cases B;exact⟨_,m,C,t,rfl,k _ A,F⟩
  ·rw[ad i]at e
   by_cases g:b=P
   ·subst g
    rw[aB]at e;cases e;exact E
   ·rw[ad g]at e
    refine(I.Op b u e).stay (fun d v hd q=>l d v (fun z=>?_) q) (fun d q=>?_) fun d G q=>?_
    ·rcases hd with j|j
     ·exact g (j.symm.trans z)
     ·rw[z,a]at j;cases j
    ·rw[f d (fun z=>by rw[z,a]at q;cases q) (h _ _ q)];exact q
    ·rw[f d (fun z=>by rw[z,a]at q;cases q) (h _ _ q)];exact q
abbrev wC(mg:Ì->Option Ä)(qual:Ì)(a:Ϣ)(b:Î)(scope:Ğ)(cl:List (Ì×Addr))(d c:Ä):W4 :=
 { cls:=.type "function",data:=.func (kla_fn "<lambda>" qual a b scope cl ((mg "__name__").getD .none) d c) }
def gy(H:Hp)(P:Ç)(pos:ģ)(q:Ì):Prop:=∃a,H P=À (.tbl a)/\TriplesOk a.toList/\(codeAmong pos a.toList=Á\/∃c,codeAmong pos a.toList=À (.ref c)/\H c=À (gE c q))
theorem Bs(I:Inv X Og σ H s)(l:T6 params X.env=([],[]))(hcode:X.env.code=.ref c)
  (C:U0 X.base c P) (B:jI X.mg X.base) (m:T7 scope X.env=pure cl) (T:gy H P pos (X.env.qual++"<lambda>"))
  (h:∀f c' ctv H' s',(H'=H\/∃ps more,H P=À (.tbl ps)/\H c'=Á/\P≠c'/\H'=ak (ak H P (.tbl (ps++more))) c' (gE c' (X.env.qual++"<lambda>")))->gy H' P pos (X.env.qual++"<lambda>")->H' c'=À (gE c' (X.env.qual++"<lambda>")) ->
   Inv X (Og++[(f,wC X.mg (X.env.qual++"<lambda>") params body scope cl (.ref c') ctv)]) σ H' s'->Q (.ref f) s') :
  Í (model X.prog X.w) X.A (eval (.Lambda params body scope pos) X.env) Q E s:=by
 refine kla_eval l ?_;obtain⟨ps,r,i,x⟩:=T;have y:s.heap.get? P=À (O1 ps):=I.Op P _ r;have G:s.heap.Ns Ï X.mg:=I.mod.glob.keeps I.bk;have F:Ï≠P:=fun q=>by
  obtain⟨o,es,ep,e,hd,_⟩:=G;rw[q,y]at e;cases e;cases hd
 obtain⟨O,R,b1,b2,b3,U,b5,b6,b7⟩:=B;have L:O≠P:=fun q=>by
  have:=(I.bs O R U).2
  rw[q,r]at this;cases this
 have hb:s.heap.BuiltinsAt X.mg P:=⟨O,R,b1,b2,b3,L,I.bk _ _ U,b5,b6,b7⟩;have W:U0 s.heap c P:=C.keeps I.bk
 have last:∀(A:Hp)(g:è)(a:Nat)(o:W4),Inv X Og σ A { s with heap:=g,toks:=a }->(∀v,o.data≠.cell v)->o.isFreed=Ã->Inv X (Og++[(g.objs.size,o)]) σ A { s with heap:=g.push o,toks:=a }:=by
  intro A g a o J hd K;have V:Inv X Og σ A { s with heap:=g.push o,toks:=a }:=J.kept fun b u e=>zG _ e
  have N:=J.fpOk (b:=g.objs.size) (zP _) J.fresh;refine V.pins_of fun p k=>?_
  rcases zZ.mp k with k|k
  ·exact V.pin p (zK _ k)
  ·rw[zM.mp k]
   exact⟨zY _ K,N.1,N.2.1,N.2.2.1,hd⟩
 rcases x with S|⟨c',x,w⟩
 ·refine kla_makeFunction (mg:=X.mg) m I.ok.glob G hcode W y i S F hb fun c' ctv M t w d Y j D=>?_
  have n:P≠c':=zU (zJ (yJ y) d);have J:=I.grown (t':=t) r w d j D;have e1:ak (ak H P (.tbl (ps++#[s? pos.line,s? pos.col,.ref c']))) c' (gE c' (X.env.qual++"<lambda>")) P=À (.tbl (ps++#[s? pos.line,s? pos.col,.ref c'])):=by rw[ad n,aB]
  refine h _ c' ctv _ _ (.inr ⟨ps,_,r,I.Op.fresh d,n,rfl⟩) ⟨_,e1,?_,.inr ⟨c',?_,aB⟩⟩ aB (last _ M t _ J (fun v z=>nomatch z) rfl)
  ·rw[C!];exact TriplesOk_snoc _ _ _ _ i
  ·rw[C!];exact codeAmong_snoc _ i S
 ·refine kla_makeFunctionHit (mg:=X.mg) m I.ok.glob G hcode W y i x hb fun ctv M t Z d=>?_
  exact h _ c' ctv H _ (.inl rfl) ⟨ps,r,i,.inr ⟨c',x,w⟩⟩ w (last H M t _ (I.kept Z) (fun v z=>nomatch z) rfl)
def tQ(X:Cx)(N':List Ì)(scope:Ğ)(cl:List (Ì×Addr))(f:Ç)(qual:Ì)(cd:Ä)(A:Ď)(s:É)(H:Hp):Cx :=
 { X with N:=N',s₀:=s,H₀:=H,env:=T5 scope s.heap.objs.size Ï cl (qual++".<locals>.") (À f) cd Á ę,outer:=X.stack,stack:=T5 scope s.heap.objs.size Ï cl (qual++".<locals>.") (À f) cd Á ę::X.stack,
          A:=A.deeper (T5 scope s.heap.objs.size Ï cl (qual++".<locals>.") (À f) cd Á ę),ex:=[],fn:=fun _=>Ã,calm:=Â,pn:=[],xe:=fun _ _=>False }
structure wY(X:Cx)(N':List Ì)(scope:Ğ)(x:Ì):Prop where
 cy:jO X N' scope
 co:scope.isCoroutine=Ã
 gen:scope.isGenerator=Ã
 len:N'.length=X.N.length+1
 own:N'[X.N.length]?=À x
 loc:scope.names.lookup x=À .local
 nc:∀y∈scope.names,y.2≠.cell
theorem BL{t':Nat}(T:wY X N' scope x)(I:Inv X Og σ H s)(J:A.frames=À X.stack)(Z:A.handled=Á)
  (g:∀p∈cl,X.env.cells.lookup p.1=À p.2) (G:∀x,(x,Ú)∈scope.names->∃c,(x,c)∈cl) (r:RelV v u)
  (W:h'.Ns s.heap.objs.size (fun y=>[(x,u)].reverse.lookup y)) (S:ĭ s.heap.objs.size (s.heap.push { cls:=.type "frame",data:=.dict #[] }) h') :
  Inv (tQ X N' scope cl f qual cd A s H) [] (σ++[À v]) H { s with heap:=h',toks:=t' }:=by
 have d:∀b o,s.heap.get? b=À o->h'.get? b=À o:=fun b o e=>(S.2 b (zU (yJ e))).trans (zG _ e)
 have look:∀x,(x,Ú)∈scope.names->∃c,cl.lookup x=À c/\X.env.cells.lookup x=À c:=fun x R=>by
  obtain⟨c,C⟩:=G x R;obtain⟨N,B⟩:=gj C;exact⟨N,B,g _ (mem_of_lookup B)⟩
 have j:∀ b:Ç,b ∉ (tQ X N' scope cl f qual cd A s H).ex:=fun b z=>absurd (show b ∈ ([]:List Ç) from z) (by simp)
 refine⟨⟨I.ok.mod,T.cy.kind,rfl,rfl,zP _,fun y z c h1 h2=>?_,fun y l=>?_,fun y c h=>(by cases h),fun _=>Z,Around.frames_deeper J,.inr ⟨rfl,rfl⟩,fun b z=>absurd z (j b),I.bs,z5 I.ok.bsz I.sz,fun b _ _=>j b,fun b z=>absurd z (j b),I.stack,I.stkFree⟩,
  rfl,I.bare,Un.kept d,⟨_,W,fun i y w q n e3=>?_⟩,fun y c h=>?_,I.Op.fresh (zP _),fun y c h=>?_,fun p U=>absurd (show p∈([]:List (Ç×Obj)) from U) (by simp),I.Op.kept d,?_⟩
 ·exact I.ok.inj y z c (g _ (mem_of_lookup h1)) (g _ (mem_of_lookup h2))
 ·have l:scope.names.lookup y=À .cell\/scope.names.lookup y=À .free:=l
  rcases l with l|l
  ·exact absurd rfl (T.nc _ (mem_of_lookup l))
  ·obtain⟨c,C,_⟩:=look y (mem_of_lookup l)
   exact⟨c,C⟩
 ·have M:=I.len
  rcases yU i σ.length with F|F
  ·rw[zN F]at n
   have t:∃k,(y,k)∈scope.names:=by
    rcases e3 with h|h|h<;>exact⟨_,mem_of_lookup h⟩
   have a:=T.cy.hid i y oM q t;have eX:=T.cy.same i y oM q a;have kX:=T.cy.free y a;obtain⟨m,V,Y⟩:=I.loc;obtain⟨O,P,lk⟩:=Y i y w eX n (by rcases kX with h|h;exact .inr (.inl h);exact .inr (.inr h));refine⟨O,P,.inr ⟨.inr (dk T.cy.nd a),?_⟩⟩;rcases lk with⟨L,_⟩|⟨_,c,C,z⟩
   ·rcases kX with h|h<;>rw[h]at L<;>cases L
   ·obtain⟨N,Q,K⟩:=look y a
    rw[C]at K;cases K;exact⟨c,Q,z.keeps d⟩
  ·rw[z6 F]at n
   have E:i-σ.length=0:=by
    rcases Nat.eq_zero_or_pos (i-σ.length) with z|z
    ·exact z
    ·rw [Ø (show [À v].length <= _ from z)] at n;cases n
   rw[E]at n;cases n;have D:i=X.N.length:=by lia
   subst D;have q:N'[X.N.length]?=À y:=q;rw[T.own]at q;cases q;exact⟨u,r,.inl ⟨T.loc,by simp⟩⟩
 ·obtain⟨w,z⟩:=I.cell y c (g _ (mem_of_lookup h))
  exact⟨w,z.keeps d⟩
 ·exact I.freeC y c (g _ (mem_of_lookup h))
 ·show(σ++[À v]).length=N'.length
  rw[zV,I.len,T.len];rfl
theorem Bt(T:wY X N' scope x)(I:Inv X Og σ H s)(m:A.frames=À X.stack)(K:A.handled=Á)
  (hd:A.depth<ϗ) (n:∀p∈cl,X.env.cells.lookup p.1=À p.2) (l:∀x,(x,Ú)∈scope.names->∃c,(x,c)∈cl) (F:R.plainA params=Â) (a:params.args.map (·.arg)=[x])
  (L:s.heap.get? f=À (wC X.mg qual params body scope cl (.ref c') ctv)) (D:s.heap.CodeRec (.ref c') qual)
  (he:∀s H,PE (tQ X N' scope cl f qual (.ref c') A s H) body te) (r:RelV v u) (h:te (σ++[À v]) H Q) :
  Í (model X.prog X.w) A (call (.ref f) [u]) (EP X Og σ Q) E s:=by
 refine r? (kla_callFunE hd L rfl T.co T.gen rfl D ?_);have hb:w! (kla_fn "<lambda>" qual params body scope cl ((X.mg "__name__").getD .none) (.ref c') ctv) ⟨[u],[]⟩=pure [(x,u)]:=by
  have:=R.bind_plain (fd:=kla_fn "<lambda>" qual params body scope cl ((X.mg "__name__").getD .none) (.ref c') ctv) (us:=[u]) F rfl (by show(params.args.map (·.arg)).Nodup;rw[a];simp) (by show _=(params.args.map (·.arg)).length;rw[a];rfl)
  rw[this];show pure ((params.args.map (·.arg)).zip [u])=_;rw[a];rfl
 rw[hb];refine yG ?_;refine wpAny_newFunctionEnv (around:=Á) (fun y j=>T.nc y j) (fun y j=>by rw[zM.mp j];exact T.loc) (fun t G g=>?_) T.cy.kind;have g:ĭ s.heap.objs.size (s.heap.push { cls:=.type "frame",data:=.dict #[] }) t:=g;have d:∀b o,s.heap.get? b=À o->t.get? b=À o:=fun b o e=>(g.2 b (zU (yJ e))).trans (zG _ e)
 refine⟨I.nolimit.keeps d,kla_codeExpr ?_⟩;have J:=BL (cd:=.ref c') (f:=f) (qual:=qual) (t':=s.toks+[(x,u)].length) T I m K n l r G g;refine yT (he s H [] _ (σ++[À v]) H Q J h) (fun w B k=>?_) fun e B z=>z.elim
 obtain⟨y,M,i,C,q⟩:=k;exact I.after ⟨y,M,i.os,i.bare,i.base,i.Op,C,q⟩
end
theorem yt(h:iM k v=Â):RelV (kV k) v:=by
 cases k with
 |inl i =>
  cases v <;> first | (cases h;done) | skip
  rename_i j t;have e:j=i:=by simpa [iM,x?] using h
  subst e;exact⟨t,rfl⟩
 |inr x =>
  cases v <;> first | (cases h;done) | skip
  rename_i y t;have e:y=x:=by simpa [iM,d!] using h
  subst e;exact⟨t,rfl⟩
theorem En{a:Type}{Oi:List (a×V)}{vs:List (a×Value)}(r:KV Oi vs):Oi.map (·.1)=vs.map (·.1):=by
 induction r with
 |nil=>rfl
 |cons h t b=>simp only[zO];rw[h.1,b]
def K8(d:Ç)(o:W4)(Oi:List (aT×V)):It :=
 ⟨fun i H=>H d=À (.frz o (.dK Oi))/\i<Oi.length,fun i H x a=>a=H/\(Oi.map fun p=>kV p.1)[i]?=À x,fun i H=>H d=À (.frz o (.dK Oi))/\Oi.length<=i⟩
theorem tI{b:Nat}(I:Inv X Og σ H s)(h:H d=À (.frz o (.dK Oi)))(a:o.data=.dict es b) :
  ∃vs,KV Oi vs/\s.heap.DictAt (ci X.prog X.w) d vs b:=by
 obtain⟨e,_,_,vs,r,l,g,i,c,k,f,j⟩:=I.Op d _ h;rw[e]at c;cases c;rw[a]at f;cases f;exact⟨vs,r,o,es,e,k,a,j⟩
theorem xj{P:Ò}{w:Û}{K:ã}{W:Î}{d:Ç}{o:W4}{Oi:List (aT×V)}{es:Array DictEntry}{T:Nat}(it:Ç)(hd:o.data=.dict es T):kN P w K W (K8 d o Oi) [it] it (fun i h=>h.IsKeyIter it d i Oi.length T) where
 mem:=by simp
 obj:=fun i h a b hb=>by
  obtain rfl:b=it:=by simpa using hb
  obtain⟨o,e,c,d⟩:=a;exact⟨o,e,fun v z=>by rw[d]at z;cases z⟩
 keep:=fun i h x a k=>let⟨o,e,r⟩:=a;⟨o,k it (by simp) _ e,r⟩
 item:=by
  intro X C B D S i U s O H E I u a f;subst C B D;obtain⟨f,Z⟩:=f;obtain⟨j,r,N⟩:=tI I f hd;have t:Oi.length=j.length:=Paired.length r;obtain⟨M,L,f2,J,G,F⟩:=u it (by simp);obtain⟨q,R⟩:∃q,j[i]?=À q:=⟨_,zF oM⟩;have g:Oi[i]?.map (·.1)=j[i]?.map (·.1):=by
   rw[<- zR,<- zR,En r]
  rw[t]at a;refine wpAny_pyNext_dict_item a N (k:=q.1) (v:=q.2) R fun y x n l Y=>?_
  have I1:Inv X U O H { s with heap:=x }:=I.turned (t':=s.toks) (fun b o hb e=>(Y.2 b hb).trans e) M L J G F;obtain⟨o',e,c,dd⟩:=id l;refine⟨y,rfl,o9 (s:={ s with heap:=x }) e c dd dC ⟨kV q.1,H,I1,yt n,⟨rfl,?_⟩,by rw[t];exact l,fun b hb=>(u b hb).1⟩⟩;rw[zR];rw[R]at g;cases m:Oi[i]? with
  |none=>rw[m]at g;cases g
  |some p=>rw[m]at g;simp at g;simp[g]
 done:=by
  intro X C B D S i U s O H E I u a f;subst C B D;obtain⟨f,Z⟩:=f;obtain⟨j,r,N⟩:=tI I f hd;have t:Oi.length=j.length:=Paired.length r;obtain⟨M,L,f2,J,G,F⟩:=u it (by simp);rw[t]at a;exact wpAny_pyNext_dict_end (I.ok.hd S) a N (Ø oM) fun x eb=>⟨rfl,I.turned (t':=s.toks) (fun b o hb e=>eb b o hb e) M L J G F⟩
 self:=fun A i s Q E a h=>wpAny_pyIter_keyiter a h
section
variable{X:Cx}{Og:List (Ç×Obj)}{σ:St}{H:Hp}{s:É}{d:Ç}{Oi:List (aT×V)}{o:W4}
theorem Inv.frzD(I:Inv X Og σ H s)(h:H d=À (.dK Oi))(e:s.heap.get? d=À o):Inv X Og σ (ak H d (.frz o (.dK Oi))) { s with toks:=s.toks }:=by
 have ne:∀b u,H b=À u->(∀Oi,u≠.dK Oi)->b≠d:=fun b u q n z=>by rw[z,h]at q;cases q;exact n _ rfl
 refine I.un (h':=s.heap) ⟨fun b o e _ _ _=>e,fun b o e _ _ _=>⟨o.slots,e⟩,fun b o e n _=>by rw[ad (fun z=>by rw[z,h]at n;cases n)];exact n,fun b o e _=>⟨o,e⟩,fun b f q=>by rw[ad (ne b _ q fun _ z=>nomatch z)];exact q,fun b o u q=>by rw[ad (ne b _ q fun _ z=>nomatch z)];exact q,
  fun b g q=>⟨#[],by rw[ad (ne b _ q fun _ z=>nomatch z),q];simp⟩⟩ fun b u q=>?_
 have a:∀b u,H b=À u->ObjOk X.prog X.w (ak H d (.frz o (.dK Oi))) s.heap b u:=fun b u q=>(I.Op b u q).stay (fun _ _ _ z=>z) (fun c z=>by rw[ad (ne c _ z fun _ y=>nomatch y)];exact z) fun c f z=>by rw[ad (ne c _ z fun _ y=>nomatch y)];exact z
 by_cases hb:b=d
 ·subst hb;rw[aB]at q;cases q;exact⟨e,a _ _ h⟩
 ·rw[ad hb]at q;exact a b u q
theorem Inv.thawD(I:Inv X Og σ H s)(h:H d=À (.frz o (.dK Oi)))(m:∀o u,X.H₀ d≠À (.frz o u)):Inv X Og σ (ak H d (.dK Oi)) s:=by
 have ne:∀b u,H b=À u->(∀o j,u≠.frz o j)->b≠d:=fun b u q n z=>by rw[z,h]at q;cases q;exact n _ _ rfl
 have nn:∀b,H b=Á->b≠d:=fun b q z=>by rw[z,h]at q;cases q
 have t:HOk X.prog X.w (ak H d (.dK Oi)) s.heap:=fun b u q=>by
  have g:∀b u,H b=À u->ObjOk X.prog X.w (ak H d (.dK Oi)) s.heap b u:=fun b u q=>(I.Op b u q).stay (fun _ _ _ z=>z) (fun c z=>by rw[ad (ne c _ z fun _ _ y=>nomatch y)];exact z) fun c f z=>by rw[ad (ne c _ z fun _ _ y=>nomatch y)];exact z
  by_cases hb:b=d
  ·subst hb;rw[aB]at q;cases q;exact(g _ _ h).2
  ·rw[ad hb]at q;exact g b u q
 refine⟨I.ok,I.os,I.bare,⟨I.base.keep,I.base.slot,fun b o e n i=>by rw[ad (nn b (I.base.free b o e n i))];exact I.base.free b o e n i,I.base.there,fun b f e=>by rw[ad (ne b _ (I.base.tups b f e) fun _ _ y=>nomatch y)];exact I.base.tups b f e,
  fun b o u e=>by rw[ad (fun z=>m o u (by rw[<- z];exact e))];exact I.base.frzs b o u e,fun b k e=>?_⟩,I.loc,I.cell,by rw[ad (nn _ I.free)];exact I.free,fun x c e=>by rw[ad (nn _ (I.freeC x c e))];exact I.freeC x c e,
  fun p l=>by obtain⟨a1,a2,r⟩:=I.pin p l;exact⟨a1,by rw[ad (nn _ a2)];exact a2,r⟩,t,I.len⟩
 obtain⟨a,q⟩:=I.base.tbls b k e;exact⟨a,by rw[ad (ne b _ q fun _ _ y=>nomatch y)];exact q⟩
end
section
variable{X:Cx}{tg iter:Î}{te:TE}
def Jz(n0:Hp)(te:TE):TI:=fun c H R=>te c H fun x b=>∃d a,x=.ref d/\b d=À (.dK a)/\∀o,(∀o u,n0 d≠À (.frz o u))->R (K8 d o a) (ak b d (.frz o (.dK a)))
theorem DO(i:PE X iter te):PI X tg iter (Jz X.H₀ te):=by
 intro r s l H R I h;refine aF (i r s l H _ I h) fun v a g=>?_
 obtain⟨x,E,k,r1,d,Oi,e,hd,q⟩:=g;subst e;cases r1;obtain⟨hz,c,m,t,f,y,A,n,C,p,B⟩:=k.Op d _ hd;have i:Oi.length=m.length:=Paired.length t;have w:∀o u,X.H₀ d≠À (.frz o u):=fun o u z=>by
  have:=k.base.frzs d o u z
  rw[hd]at this;cases this
 have j:=k.frzD hd n;refine wpAny_pyIter_dict c (knd:=ci X.prog X.w) ⟨f,y,n,C,p,B⟩ ?_;have D:Inv X r l (ak E d (.frz f (.dK Oi))) { a with heap:=a.heap.push { cls:=.type "dict_keyiterator",data:=.fields #[.ref d,.int 0 0,.int m.length 0,.int A 0] },toks:=a.toks }:=j.kept fun b o e=>zG _ e
 refine⟨a.heap.objs.size,[a.heap.objs.size],_,_,_,rfl,D,xj (Oi:=Oi) _ p,⟨_,zY _ rfl,rfl,by rw[i];rfl⟩,fun b hb=>?_,q f w⟩;obtain rfl:b=a.heap.objs.size:=by simpa using hb
 exact j.fpOk (zP _) j.fresh
def rh(n0:Hp)(D:kQ):kQ:={ nx:=fun b H=>∃d o a,H d=À (.frz o (.dK a))/\(∀o u,n0 d≠À (.frz o u))/\D.nx b (ak H d (.dK a)),rt:=fun v H=>∃d o a,H d=À (.frz o (.dK a))/\(∀o u,n0 d≠À (.frz o u))/\D.rt v (ak H d (.dK a)) }
theorem DG{st:Ľ}{t:TS}(h:PS X st t):PS X st (fun D σ H=>t (rh X.H₀ D) σ H):=by
 intro g s σ H D I q;refine aF (h g s σ H (rh X.H₀ D) I q) fun f j b=>?_
 cases f with
 |next=>obtain⟨a,i,J,d,o,c,e,n,q⟩:=b;exact⟨a,_,J.thawD e n,q⟩
 |ret u=>obtain⟨v,a,i,J,r,d,o,c,e,n,q⟩:=b;exact⟨v,a,_,J.thawD e n,r,q⟩
 |brk=>obtain⟨_,_,_,q⟩:=b;exact q.elim
 |cont=>obtain⟨_,_,_,q⟩:=b;exact q.elim
end
end L2
namespace R
open PySem L2
theorem e7{α g f e:Sort _}{A B C:α->g->f->e->Prop}{G:Prop}(h:∃a b c d,A a b c d/\B a b c d/\C a b c d)(k:∀a b c d,A a b c d->B a b c d->C a b c d->G):G:=by obtain⟨a,b,c,d,x,y,z⟩:=h;exact k a b c d x y z
theorem i7{α g f e:Sort _}{A B C:α->g->f->e->Prop}{a:α}{b:g}{c:f}{d:e}(x:A a b c d)(y:B a b c d)(z:C a b c d):∃a b c d,A a b c d/\B a b c d/\C a b c d:=⟨a,b,c,d,x,y,z⟩
inductive AV where
 |non|bl (b:Bool)|int (i:Int)|str (x:Ì)|ref (k:Nat)|tup (xs:List AV)|fz (xs:List AV)
inductive Oh where
 |lst (xs:List AV)|al (t:AV)|dK (Oi:List (aT×AV))|dT (Oi:List (List aT×AV))|ins (c:Ì) (fs:List (Ì×AV))|wk (Oi:List (aT×AV))
abbrev aa:=List Oh
abbrev Sl:=List (Option AV)
abbrev Pr:=Ç->Prop
class Ol where
 tb:List (Ç×Pos×Str)
structure Gm where
 K:ã
 mg:Ì->Option Ä
def FLk(mg:Gm)(P:Pr)(H:Hp)(a:Ç)(vs:List V):Prop:=(P a/\Rd H a (.lst vs))\/∀b,bR mg.K b a vs
mutual
def RA(mg:Gm)(P:Pr)(H:Hp)(φ:List Ç):AV->V->Prop
 |.non,v=>v=.non
 |.bl b,v=>v=.bl b
 |.int i,v=>v=.int i
 |.str x,v=>v=.str x
 |.ref k,v=>∃a,φ[k]?=À a/\v=.ref a
 |.tup xs,v=>∃a vs,v=.ref a/\P a/\H a=À (.tup vs)/\On mg P H φ xs vs
 |.fz xs,v=>∃a vs,v=.ref a/\FLk mg P H a vs/\On mg P H [] xs vs
def On(mg:Gm)(P:Pr)(H:Hp)(φ:List Ç):List AV->List V->Prop
 |[],vs=>vs=[]
 |x::xs,vs=>∃v ws,vs=v::ws/\RA mg P H φ x v/\On mg P H φ xs ws
end
theorem bE:On mg P H φ [] []:=by simp only[On]
theorem aU(h:RA mg P H φ x v)(t:On mg P H φ xs vs):On mg P H φ (x::xs) (v::vs):=by simp only[On];exact⟨v,vs,rfl,h,t⟩
structure Frm(P:Pr)(φ:List Ç)(H:Hp)(P':Pr)(φ':List Ç)(H':Hp):Prop where
 ext:∀a,P a->P' a/\H' a=H a
 new:∃more,φ'=φ++more/\∀a∈more,H a=Á
 keep:∀a,H a≠Á->a∉φ->(∀ps,H a≠À (.tbl ps))->H' a=H a
 pn:∀a,P' a->P a\/H a=Á\/a∈φ
 sm:∀a,H a≠Á->H' a≠Á
 fz:∀a o u,H a=À (.frz o u)->H' a=À (.frz o u)
theorem Frm.refl:Frm P φ H P φ H:=⟨fun _ h=>⟨h,rfl⟩,⟨[],by simp,by simp⟩,fun _ _ _ _=>rfl,fun _ h=>.inl h,fun _ h=>h,fun _ _ _ h=>h⟩
theorem Frm.trans{P n m:Pr}{φ d c:List Ç}{H k p:Hp}(a:Frm P φ H n d k)(b:Frm n d k m c p):Frm P φ H m c p:=by
 obtain⟨r,j,i⟩:=a.new;obtain⟨m2,s,q⟩:=b.new;have nn:∀x,k x=Á->H x=Á:=fun x h=>by
  cases e:H x with
  |none=>rfl
  |some o=>exact absurd h (a.sm x (by rw[e];exact fun z=>nomatch z))
 refine⟨fun x h=>?_,⟨r++m2,by rw[s,j,yN],fun x h=>?_⟩,fun x f g l=>?_,fun x h=>?_,fun x h=>b.sm x (a.sm x h),fun x o u h=>b.fz x o u (a.fz x o u h)⟩
 ·obtain⟨f,e⟩:=a.ext x h
  obtain⟨g,t⟩:=b.ext x f;exact⟨g,t.trans e⟩
 ·rcases zZ.mp h with h|h
  ·exact i x h
  ·exact nn x (q x h)
 ·have e:=a.keep x f g l
  refine(b.keep x (by rw[e];exact f) (fun z=>?_) (by rw[e];exact l)).trans e;rw[j]at z;rcases zZ.mp z with z|z
  ·exact g z
  ·exact f (i x z)
 ·rcases b.pn x h with h|h|h
  ·exact a.pn x h
  ·exact .inr (.inl (nn x h))
  ·rw[j]at h
   rcases zZ.mp h with h|h
   ·exact .inr (.inr h)
   ·exact .inr (.inl (i x h))
theorem Rd.at(h:Rd H a u)(e:H' a=H a):Rd H' a u:=by
 rcases h with h|⟨o,h⟩
 ·exact .inl (e.trans h)
 ·exact .inr ⟨o,e.trans h⟩
theorem FLk.mono{mg:Gm}{P b:Pr}{H c:Hp}{a:Ç}{vs:List V}(h:FLk mg P H a vs)(x:∀a,P a->b a/\c a=H a):FLk mg b c a vs:=by
 rcases h with⟨p,r⟩|h
 ·exact .inl ⟨(x a p).1,Rd.at r (x a p).2⟩
 ·exact .inr h
theorem FLk.sq(h:FLk mg P H a vs):bR mg.K H a vs:=by
 rcases h with⟨_,r⟩|h
 ·exact .inl r
 ·exact h H
section
variable{mg:Gm}{P P':Pr}{H H':Hp}{φ φ':List Ç}
mutual
theorem RA.mono'(x:∀a,P a->P' a/\H' a=H a):∀{t:AV}{v:V}{φ φ':List Ç},(∀(k:Nat) a,φ[k]?=À a->φ'[k]?=À a)->RA mg P H φ t v->RA mg P' H' φ' t v
 |.non,_,_,_,_,h=>by simp only[RA]at h ⊢;exact h
 |.bl _,_,_,_,_,h=>by simp only[RA]at h ⊢;exact h
 |.int _,_,_,_,_,h=>by simp only[RA]at h ⊢;exact h
 |.str _,_,_,_,_,h=>by simp only[RA]at h ⊢;exact h
 |.ref k,_,_,_,hφ,h=>by simp only[RA]at h ⊢;obtain⟨a,e,r⟩:=h;exact⟨a,hφ k a e,r⟩
 |.tup xs,_,_,_,hφ,h=>by
  simp only[RA]at h ⊢;obtain⟨a,b,r,p,e,q⟩:=h;exact⟨a,b,r,(x a p).1,(x a p).2.trans e,On.mono' x hφ q⟩
 |.fz xs,_,_,_,hφ,h=>by
  simp only[RA]at h ⊢;obtain⟨a,b,r,e,q⟩:=h;exact⟨a,b,r,e.mono x,On.mono' x (fun _ _ z=>z) q⟩
theorem On.mono'(x:∀a,P a->P' a/\H' a=H a):∀{ts:List AV}{vs:List V}{φ φ':List Ç},(∀(k:Nat) a,φ[k]?=À a->φ'[k]?=À a)->On mg P H φ ts vs->On mg P' H' φ' ts vs
 |[],_,_,_,_,h=>by simp only[On]at h ⊢;exact h
 |t::ts,_,_,_,hφ,h=>by
  simp only[On]at h ⊢;obtain⟨v,ws,e,r,q⟩:=h;exact⟨v,ws,e,RA.mono' x hφ r,On.mono' x hφ q⟩
end
theorem RA.mono{t:AV}{v:V}(h:RA mg P H φ t v)(x:∀a,P a->P' a/\H' a=H a)(b:∀(k:Nat) a,φ[k]?=À a->φ'[k]?=À a):RA mg P' H' φ' t v:=RA.mono' x b h
theorem On.mono{c:List AV}{vs:List V}(h:On mg P H φ c vs)(x:∀a,P a->P' a/\H' a=H a)(b:∀(k:Nat) a,φ[k]?=À a->φ'[k]?=À a):On mg P' H' φ' c vs:=On.mono' x b h
theorem Frm.ix(f:Frm P φ H P' φ' H'):∀(k:Nat) a,φ[k]?=À a->φ'[k]?=À a:=fun k a e=>by
 obtain⟨m,rfl,_⟩:=f.new;rw[zN (zB.mp e).1];exact e
theorem RA.frm(h:RA mg P H φ t v)(f:Frm P φ H P' φ' H'):RA mg P' H' φ' t v:=h.mono f.ext f.ix
theorem On.frm(h:On mg P H φ ts vs)(f:Frm P φ H P' φ' H'):On mg P' H' φ' ts vs:=h.mono f.ext f.ix
theorem RA.lift(h:RA mg P H [] t v):RA mg P H φ t v:=h.mono (fun _ h=>⟨h,rfl⟩) fun k a e=>by simp at e
theorem On.lift(h:On mg P H [] ts vs):On mg P H φ ts vs:=h.mono (fun _ h=>⟨h,rfl⟩) fun k a e=>by simp at e
theorem On.length:∀{ts:List AV}{vs:List V},On mg P H φ ts vs->ts.length=vs.length
 |[],_,h=>by simp only[On]at h;subst h;rfl
 |t::ts,_,h=>by
  simp only[On]at h;obtain⟨v,ws,rfl,_,q⟩:=h;rw[yY,yY,On.length q]
theorem On.get:∀{ts:List AV}{vs:List V}{i:Nat}{t:AV},On mg P H φ ts vs->ts[i]?=À t->∃v,vs[i]?=À v/\RA mg P H φ t v
 |[],_,_,_,_,e=>by simp at e
 |x::ts,_,i,t,h,e=>by
  simp only[On]at h;obtain⟨v,ws,rfl,r,q⟩:=h;cases i with
  |zero=>simp at e;subst e;exact⟨v,rfl,r⟩
  |succ i=>simpa using On.get (i:=i) q (by simpa using e)
theorem On.app:∀{xs ys:List AV}{vs ws:List V},On mg P H φ xs vs->On mg P H φ ys ws->On mg P H φ (xs++ys) (vs++ws)
 |[],_,_,_,h,g=>by simp only[On]at h;subst h;exact g
 |x::xs,_,_,_,h,g=>by
  simp only[On]at h;obtain⟨v,ws,rfl,r,q⟩:=h;exact aU r (On.app q g)
theorem On.take:∀{xs:List AV}{vs:List V} (n:Nat),On mg P H φ xs vs->On mg P H φ (xs.take n) (vs.take n)
 |xs,vs,0,_=>by rw[S6,S6];exact bE
 |[],vs,n+1,h=>by simp only[On]at h;subst h;exact bE
 |x::xs,vs,n+1,h=>by
  simp only[On]at h;obtain⟨v,ws,rfl,r,q⟩:=h;exact aU r (On.take n q)
theorem On.drop:∀{xs:List AV}{vs:List V} (n:Nat),On mg P H φ xs vs->On mg P H φ (xs.drop n) (vs.drop n)
 |xs,vs,0,h=>h
 |[],vs,n+1,h=>by simp only[On]at h;subst h;exact bE
 |x::xs,vs,n+1,h=>by
  simp only[On]at h;obtain⟨v,ws,rfl,r,q⟩:=h;exact On.drop n q
theorem On.set(r:RA mg P H φ x v):∀{xs:List AV}{vs:List V} (n:Nat),On mg P H φ xs vs->On mg P H φ (xs.set n x) (vs.set n v)
 |[],vs,_,h=>by simp only[On]at h;subst h;exact bE
 |y::xs,vs,n,h=>by
  simp only[On]at h;obtain⟨w,ws,rfl,q,t⟩:=h;cases n with
  |zero=>exact aU r t
  |succ n=>exact aU q (On.set r n t)
theorem On.ints:∀{ns:List Int}{vs:List V},On mg P H φ (ns.map .int) vs->vs=ns.map .int
 |[],_,h=>by simpa only[Ϡ,On] using h
 |n::ns,_,h=>by
  simp only[zO,On,RA]at h;obtain⟨v,ws,rfl,rfl,q⟩:=h;rw[On.ints q];rfl
theorem On.of_ints:∀{ns:List Int},On mg P H φ (ns.map .int) (ns.map V.int)
 |[]=>bE
 |n::ns=>aU (by simp only[RA]) On.of_ints
end
def KVR(mg:Gm)(P:Pr)(H:Hp)(φ:List Ç){a:Type}(Oi:List (a×AV))(ws:List (a×V)):Prop:=Oi.map (·.1)=ws.map (·.1)/\On mg P H φ (Oi.map (·.2)) (ws.map (·.2))
def CellR(mg:Gm)(P:Pr)(H:Hp)(φ:List Ç)(a:Ç):Oh->Prop
 |.lst xs=>¬P a/\∃vs,H a=À (.lst vs)/\On mg P H φ xs vs
 |.al t=>P a/\RA mg P H [] t (.ref a)
 |.dK Oi=>¬P a/\∃ws,H a=À (.dK ws)/\KVR mg P H φ Oi ws
 |.dT Oi=>¬P a/\∃ws,H a=À (.dT ws)/\KVR mg P H φ Oi ws
 |.ins c fs=>¬P a/\∃C dx ws,mg.mg c=À (.ref C)/\H a=À (.ins C dx ws)/\KVR mg P H φ fs ws
 |.wk Oi=>¬P a/\∃o ws,H a=À (.frz o (.dK ws))/\KVR mg P H φ Oi ws
def Ic(o:Option HO):Prop:=(∀a,o≠À (.tbl a))/\∀f,o≠À (.ext f)
theorem _root_.L2.gy.new(h:gy H P pos q)(a:H p=Á):gy (ak H p o) P pos q:=by
 obtain⟨d,e,t,c⟩:=h;refine⟨d,by rw[ad (aX e a)];exact e,t,?_⟩;rcases c with c|⟨g,f,b⟩
 ·exact .inl c
 ·exact .inr ⟨g,f,by rw[ad (aX b a)];exact b⟩
theorem _root_.L2.gy.ne(h:gy H P pos q)(a:H p=Á):P≠p:=by
 obtain⟨b,e,_⟩:=h;exact aX e a
theorem _root_.L2.gy.wr(h:gy H P pos q)(b:Ic (H p)):gy (ak H p o) P pos q:=by
 obtain⟨a,e,t,c⟩:=h;refine⟨a,by rw[ad fun z=>b.1 a (by rw[<- z];exact e)];exact e,t,?_⟩;rcases c with c|⟨g,f,d⟩
 ·exact .inl c
 ·exact .inr ⟨g,f,by rw[ad fun z=>b.2 _ (by rw[<- z];exact d)];exact d⟩
structure Sim[Ol](mg:Gm)(P:Pr)(φ:List Ç)(st:aa)(H:Hp):Prop where
 len:φ.length=st.length
 nd:φ.Nodup
 dom:∀a,P a->H a≠Á
 cd:∀a∈φ,H a≠Á
 cell:∀(k:Nat) c a,st[k]?=À c->φ[k]?=À a->CellR mg P H φ a c
 tb:∀t∈Ol.tb,gy H t.1 t.2.1 t.2.2/\¬P t.1
section
variable{mg:Gm}{P P':Pr}{H H':Hp}{φ φ':List Ç}{st st':aa}{a:Ç}
theorem KVR.mono{c:Type}{Oi:List (c×AV)}{ws:List (c×V)}(h:KVR mg P H φ Oi ws)(x:∀a,P a->P' a/\H' a=H a)(b:∀(k:Nat) a,φ[k]?=À a->φ'[k]?=À a):KVR mg P' H' φ' Oi ws:=⟨h.1,h.2.mono x b⟩
theorem CellR.mono{c:Oh}(h:CellR mg P H φ a c)(x:∀a,P a->P' a/\H' a=H a)(b:∀(k:Nat) a,φ[k]?=À a->φ'[k]?=À a)(e:H' a=H a)(f:¬P a->¬P' a):CellR mg P' H' φ' a c:=by
 cases c with
 |lst xs=>obtain⟨n,d,r,q⟩:=h;exact⟨f n,d,e.trans r,q.mono x b⟩
 |al t=>exact⟨(x a h.1).1,h.2.mono x fun _ _ z=>z⟩
 |dK Oi=>obtain⟨n,d,r,q⟩:=h;exact⟨f n,d,e.trans r,q.mono x b⟩
 |dT Oi=>obtain⟨n,d,r,q⟩:=h;exact⟨f n,d,e.trans r,q.mono x b⟩
 |ins c fs=>obtain⟨n,C,i,g,m,r,q⟩:=h;exact⟨f n,C,i,g,m,e.trans r,q.mono x b⟩
 |wk Oi=>obtain⟨n,o,g,r,q⟩:=h;exact⟨f n,o,g,e.trans r,q.mono x b⟩
theorem Sim.at[Ol](s:Sim mg P φ st H){k:Nat}(e:st[k]?=À c):∃a,φ[k]?=À a/\CellR mg P H φ a c:=by
 have b:k<φ.length:=by rw[s.len];exact(zB.mp e).1
 exact⟨φ[k],zF b,s.cell k c _ e (zF b)⟩
theorem Sim.notb[Ol](s:Sim mg P φ st H){k:Nat}(d:φ[k]?=À a)(f:¬P a):Ic (H a):=by
 obtain⟨c,g⟩:∃c,st[k]?=À c:=⟨_,zF (by rw[<- s.len];exact(zB.mp d).1)⟩;have h:=s.cell k c a g d;cases c with
 |lst xs=>obtain⟨n,b,r,q⟩:=h;rw[r];exact⟨fun _ z=>(nomatch z),fun _ z=>(nomatch z)⟩
 |al t=>exact absurd h.1 f
 |dK Oi=>obtain⟨n,b,r,q⟩:=h;rw[r];exact⟨fun _ z=>(nomatch z),fun _ z=>(nomatch z)⟩
 |dT Oi=>obtain⟨n,b,r,q⟩:=h;rw[r];exact⟨fun _ z=>(nomatch z),fun _ z=>(nomatch z)⟩
 |ins c fs=>obtain⟨n,C,i,e,m,r,q⟩:=h;rw[r];exact⟨fun _ z=>(nomatch z),fun _ z=>(nomatch z)⟩
 |wk Oi=>obtain⟨n,o,e,r,q⟩:=h;rw[r];exact⟨fun _ z=>(nomatch z),fun _ z=>(nomatch z)⟩
theorem Sim.tnc[Ol](s:Sim mg P φ st H)(a:t∈Ol.tb):t.1∉φ:=fun h=>by
 obtain⟨j,c⟩:=z9 h;obtain⟨b,e,_⟩:=(s.tb t a).1;exact(s.notb c (s.tb t a).2).1 b e
theorem Sim.okeep[Ol](s:Sim mg P φ st H)(f:Frm P φ H P' φ' H')(h:H c=À (gE c q)):H' c=À (gE c q):=by
 by_cases a:P c
 ·exact(f.ext c a).2.trans h
 ·refine(f.keep c (by rw[h];exact fun z=>nomatch z) (fun z=>?_) fun d z=>by rw[h]at z;cases z).trans h
  obtain⟨j,b⟩:=z9 z;exact(s.notb b a).2 _ h
theorem Sim.ckeep[Ol](s:Sim mg P φ st H)(x:∀a,P a->H' a=H a)(k:∀a,H a≠Á->(∀ps,H a≠À (.tbl ps))->H' a=H a):∀a∈φ,H' a=H a:=fun a h=>by
 by_cases b:P a
 ·exact x a b
 ·obtain⟨j,c⟩:=z9 h
  exact k a (s.cd a h) (s.notb c b).1
theorem Sim.stay[Ol](s:Sim mg P φ st H)(x:∀a,P a->P' a/\H' a=H a)(d:∀a∈φ,H' a=H a)(f:∀a∈φ,¬P a->¬P' a)(i:∀a,P' a->H' a≠Á)(e:∀t∈Ol.tb,gy H' t.1 t.2.1 t.2.2/\¬P' t.1):Sim mg P' φ st H' :=
 ⟨s.len,s.nd,i,fun a h=>by rw[d a h];exact s.cd a h,fun k c a g b=>(s.cell k c a g b).mono x (fun _ _ z=>z) (d a (zW b)) (f a (zW b)),e⟩
theorem Sim.nil[Ol](d:∀a,P a->H a≠Á)(b:∀t∈Ol.tb,gy H t.1 t.2.1 t.2.2/\¬P t.1):Sim mg P [] [] H:=⟨rfl,S8,d,fun _ h=>by simp at h,fun k c a e _=>by simp at e,b⟩
theorem oE[Ol](s:Sim mg P φ st H)(b:H p=Á):Frm P φ H (fun a=>P a\/a=p) φ (ak H p o)/\Sim mg (fun a=>P a\/a=p) φ st (ak H p o):=by
 have ne:∀a,H a≠Á->a≠p:=fun a h e=>h (by rw[e];exact b)
 have f:Frm P φ H (fun a=>P a\/a=p) φ (ak H p o):=by
  refine⟨fun a h=>⟨.inl h,ad (ne a (s.dom a h))⟩,⟨[],by simp,by simp⟩,fun a h _ _=>ad (ne a h),fun a h=>?_,fun a h=>by rw[ad (ne a h)];exact h,fun a o u h=>by rw[ad (aX h b)];exact h⟩;rcases h with h|h
  ·exact .inl h
  ·exact .inr (.inl (by rw[h];exact b))
 refine⟨f,s.stay f.ext (fun a h=>ad (ne a (s.cd a h))) (fun a h n z=>?_) (fun a h=>?_) fun t c=>⟨(s.tb t c).1.new b,fun z=>z.elim (s.tb t c).2 (fun e=>(s.tb t c).1.ne b e)⟩⟩
 ·rcases z with z|z
  ·exact n z
  ·exact ne a (s.cd a h) z
 ·rcases h with h|h
  ·rw[ad (ne a (s.dom a h))];exact s.dom a h
  ·rw[h,aB];exact fun z=>nomatch z
theorem nZ[Ol](s:Sim mg P φ st H)(i:H p=Á)(q:CellR mg P (ak H p o) (φ++[p]) p c):Frm P φ H P (φ++[p]) (ak H p o)/\Sim mg P (φ++[p]) (st++[c]) (ak H p o):=by
 have ne:∀a,H a≠Á->a≠p:=fun a h e=>h (by rw[e];exact i)
 have ex:∀a,P a->P a/\ak H p o a=H a:=fun a h=>⟨h,ad (ne a (s.dom a h))⟩
 have ix:∀(k:Nat) a,φ[k]?=À a->(φ++[p])[k]?=À a:=fun k a e=>by rw[zN (zB.mp e).1];exact e
 have j:∀a,H a≠Á->ak H p o a≠Á:=fun a h=>by rw[ad (ne a h)];exact h
 refine⟨⟨ex,⟨[p],rfl,fun a h=>by rw[zM.mp h];exact i⟩,fun a h _ _=>ad (ne a h),fun a h=>.inl h,j,fun a o u h=>by rw[ad (aX h i)];exact h⟩,?_,?_,fun a h=>j a (s.dom a h),fun a h=>?_,fun k d a g f=>?_,fun t m=>⟨(s.tb t m).1.new i,(s.tb t m).2⟩⟩
 ·rw[zV,zV,s.len];rfl
 ·exact ϟ.mpr ⟨s.nd,(by simp),fun a h b hb e=>ne a (s.cd a h) (by rw[e];exact zM.mp hb)⟩
 ·rcases zZ.mp h with h|h
  ·exact j a (s.cd a h)
  ·rw[zM.mp h,aB];exact fun z=>nomatch z
 ·by_cases n:k<st.length
  ·rw[zN n]at g
   rw[zN (by rw[s.len];exact n)]at f;exact(s.cell k d a g f).mono ex ix (ad (ne a (s.cd a (zW f)))) fun z=>z
  ·have l:k=st.length:=by
    have:=(zB.mp g).1
    rw[zV]at this;simp at this;lia
   subst l;simp at g;rw[<- s.len]at f;simp at f;subst g;subst f;exact q
theorem iR[Ol]{k:Nat}(s:Sim mg P φ st H)(m:φ[k]?=À a)(q:¬P a)(y:CellR mg P (ak H a o) φ a c)(v:∀o u,H a≠À (.frz o u)):Frm P φ H P φ (ak H a o)/\Sim mg P φ (st.set k c) (ak H a o):=by
 have w:a∈φ:=zW m;have ne:∀b,P b->b≠a:=fun b h e=>q (by rw[<- e];exact h)
 have n:∀b,H b≠Á->ak H a o b≠Á:=fun b h=>by
  by_cases e:b=a
  ·rw[e,aB];exact fun z=>nomatch z
  ·rw[ad e];exact h
 have ex:∀b,P b->P b/\ak H a o b=H b:=fun b h=>⟨h,ad (ne b h)⟩
 refine⟨⟨ex,⟨[],by simp,by simp⟩,fun b _ h _=>ad fun e=>h (by rw[e];exact w),fun b h=>.inl h,n,fun b o u h=>by rw[ad (fun e=>v o u (by rw[<- e];exact h))];exact h⟩,by rw[ă];exact s.len,s.nd,fun b h=>n b (s.dom b h),fun b h=>n b (s.cd b h),fun j d b g f=>?_,fun t r=>⟨(s.tb t r).1.wr (s.notb m q),(s.tb t r).2⟩⟩;by_cases p:j=k
 ·subst p
  rw[m]at f;cases f;rw[õ (by rw[<- s.len];exact(zB.mp m).1)]at g;cases g;exact y
 ·rw[ï (ç p)]at g
  have hb:b≠a:=fun e=>p (by
   subst e;exact nodup_ix' s.nd f m)
  exact(s.cell j d b g f).mono ex (fun _ _ z=>z) (ad hb) fun z=>z
where
 nodup_ix' {l:List Ç} (hN:l.Nodup) {i j:Nat}{x:Ç} (a:l[i]?=À x) (b:l[j]?=À x):i=j:=by
  obtain⟨B,g⟩:=zB.mp a;obtain⟨A,f⟩:=zB.mp b;exact(ū hN).mp (g.trans f.symm)
end
open PySem.Spec PyProof.Rows
open DD (PE_imp PT_imp PA_imp PS_imp PSs_imp OpR_imp PW_imp PG_imp)
abbrev St:=L2.St
abbrev _root_.L2.Cx.gm(X:Cx):Gm:=⟨X.K,X.mg⟩
def KG[Ol]{α g:Type}(mg:Gm)(h:Gm->Pr->Hp->List Ç->α->g->Prop)(P:Pr)(φ:List Ç)(H:Hp)(r:Option (α×aa))(Q:g->Hp->Prop):Prop :=
 ∃a d,r=À (a,d)/\∀f c e b,Frm P φ H f c e->Sim mg f c d e->h mg f e c a b->Q b e
def RB{α:Type}(_:Gm)(_:Pr)(_:Hp)(_:List Ç)(a b:α):Prop:=a=b
section
variable{α β γ δ:Type}{mg:Gm}{Ra:Gm->Pr->Hp->List Ç->α->β->Prop}{Rc:Gm->Pr->Hp->List Ç->γ->δ->Prop}{P:Pr}{φ:List Ç}{H:Hp}
theorem KG.bind[Ol]{m:Option (α×aa)}{k:α×aa->Option (γ×aa)}{Q:δ->Hp->Prop}(h:KG mg Rc P φ H (m.bind k) Q) :
  KG mg Ra P φ H m fun b H1=>∃P1 φ1 st1 a,Frm P φ H P1 φ1 H1/\Sim mg P1 φ1 st1 H1/\Ra mg P1 H1 φ1 a b/\KG mg Rc P1 φ1 H1 (k (a,st1)) Q:=by
 obtain⟨c,i,e,q⟩:=h;cases m with
 |none=>cases e
 |some p =>
  obtain⟨a,st1⟩:=p;refine⟨a,st1,rfl,fun P1 φ1 H1 b f s r=>⟨P1,φ1,st1,a,f,s,r,c,i,e,fun o g t d n j l=>q o g t d (f.trans n) j l⟩⟩
theorem KG.pure[Ol]{a:α}{st:aa}{Q:β->Hp->Prop}{b:β}(h:KG mg Ra P φ H (À (a,st)) Q)(s:Sim mg P φ st H)(r:Ra mg P H φ a b):Q b H:=by
 obtain⟨_,_,e,q⟩:=h;cases e;exact q P φ H b Frm.refl s r
theorem KG.map[Ol]{m:Option α}{st:aa}{Q:β->Hp->Prop}(h:KG mg Ra P φ H (m.map fun a=>(a,st)) Q):∃a,m=À a/\KG mg Ra P φ H (À (a,st)) Q:=by
 obtain⟨b,c,e,q⟩:=h;cases m with
 |none=>cases e
 |some a=>exact⟨a,rfl,b,c,e,q⟩
end
def Os(mg:Gm)(P:Pr)(H:Hp)(φ:List Ç)(sl:Sl)(σ:St):Prop:=sl.length=σ.length/\∀(i:Nat) v,sl[i]?=À (À v)->∃w,σ[i]?=À (À w)/\RA mg P H φ v w
section
variable{mg:Gm}{P P':Pr}{H H':Hp}{φ φ':List Ç}{sl:Sl}{σ:St}
theorem Os.frm(h:Os mg P H φ sl σ)(f:Frm P φ H P' φ' H'):Os mg P' H' φ' sl σ:=⟨h.1,fun i v e=>let⟨w,a,r⟩:=h.2 i v e;⟨w,a,r.frm f⟩⟩
theorem Os.set(h:Os mg P H φ sl σ)(r:RA mg P H φ v w)(i:Nat):Os mg P H φ (sl.set i (À v)) (σ.set i (À w)):=by
 refine⟨by rw[ă,ă];exact h.1,fun j u e=>?_⟩;by_cases a:i=j
 ·subst a
  by_cases b:i<sl.length
  ·rw[õ b]at e
   cases e;exact⟨w,õ (by rw[<- h.1];exact b),r⟩
  ·rw[Ø (by rw[ă];lia)]at e;cases e
 ·rw[ï a]at e
  rw[ï a];exact h.2 j u e
end
abbrev EF:=Sl->aa->Option (AV×aa)
abbrev TF:=Sl->aa->Option (Bool×aa)
abbrev AF:=Sl->aa->Option (List AV×aa)
def rE[Ol](mg:Gm)(f:EF):TE:=fun d H Q=>∃P a c b,Os mg P H a c d/\Sim mg P a b H/\KG mg RA P a H (f c b) Q
def rT[Ol](mg:Gm)(f:TF):TT:=fun d H Q=>∃P a c b,Os mg P H a c d/\Sim mg P a b H/\KG mg RB P a H (f c b) Q
def rA[Ol](mg:Gm)(f:AF):TA:=fun d H Q=>∃P a c b,Os mg P H a c d/\Sim mg P a b H/\KG mg On P a H (f c b) Q
def QE[Ol](X:Cx)(e:Î)(f:EF):Prop:=PE X e (rE X.gm f)
def QT[Ol](X:Cx)(e:Î)(f:TF):Prop:=PT X e (rT X.gm f)
def QW[Ol](X:Cx)(e:Î)(f:TF):Prop:=PW X e (rT X.gm f)
def QA[Ol](X:Cx)(es:List Î)(f:AF):Prop:=PA X es (rA X.gm f)
def aV(i:Nat):EF:=fun b a=>match b[i]? with
 |some (À v)=>À (v,a)
 |_=>Á
def aC(v:AV):EF:=fun _ a=>À (v,a)
def fF:AF:=fun _ a=>À ([],a)
def fV(f:EF)(g:AF):AF:=fun a b=>(f a b).bind fun p=>(g a p.2).bind fun q=>À (p.1::q.1,q.2)
noncomputable def qC:AV->Option V
 |.non=>À .non
 |.bl b=>À (.bl b)
 |.int i=>À (.int i)
 |.str x=>À (.str x)
 |_=>Á
theorem RA.sc(h:qC v=À w):RA mg P H φ v w:=by
 cases v<;>simp only[qC]at h<;>cases h<;>simp only[RA]
section
variable{X:Cx}{e:Î}{es:List Î}{pos:ģ}
theorem FT[Ol]{i:Nat}(hN:X.N[i]?=À x)(f:Af X.env.scope x)(hd:(x==("__debug__":Ì))=Ã)(b:(x==("__classdict__":Ì))=Ã):QE X (.Name x pos) (aV i) :=
 PE_imp (Gf hN f hd b) fun j H Q a=>by
  refine e7 a fun P g c l r s k=>?_
  unfold aV at k;cases h:c[i]? with
  |none=>rw[h]at k;obtain⟨_,_,e,_⟩:=k;cases e
  |some o =>
   cases o with
   |none=>rw[h]at k;obtain⟨_,_,e,_⟩:=k;cases e
   |some v =>
    rw[h]at k;obtain⟨w,e,d⟩:=r.2 i v h;exact⟨w,e,k.pure s d⟩
theorem sE[Ol](b:qC v=À w)(h:PE X e t)(c:∀σ H Q,Q w H->t σ H Q):QE X e (aC v) :=
 PE_imp h fun σ H Q a=>e7 a fun P d g f r s k=>c σ H Q (k.pure s (RA.sc b))
theorem fH[Ol]:QA X [] fF:=PA_imp xY fun c H Q a=>e7 a fun P b e d r s k=>k.pure s bE
theorem dw[Ol](F:QE X e f)(E:QA X es g)(D:Ê (e::es) X.env=(Ã,eval e X.env)::Ê es X.env):QA X (e::es) (fV f g) :=
 PA_imp (u8 F E D) fun V H Q m=>e7 m fun P U t W r s k=>i7 r s (by
  obtain⟨a,l,M,q⟩:=k.bind (Ra:=RA);refine⟨a,l,M,fun R h T b K x r1=>?_⟩;obtain⟨O,d,j,a2,J,w,r2,C⟩:=q R h T b K x r1;refine⟨O,d,t,j,r.frm J,w,?_⟩;obtain⟨o,i,L,A⟩:=C.bind (Ra:=On);refine⟨o,i,L,fun N c S bs I v z=>?_⟩;obtain⟨Z,n,p,Y,G,u,y,B⟩:=A N c S bs I v z;exact B.pure u (aU (r2.frm G) y))
end
def a2(f g:EF)(k:AV->AV->aa->Option (AV×aa)):EF:=fun a b=>(f a b).bind fun p=>(g a p.2).bind fun q=>k p.1 q.1 q.2
def a1(f:EF)(k:AV->aa->Option (AV×aa)):EF:=fun b a=>(f b a).bind fun p=>k p.1 p.2
def r2[Ol](mg:Gm)(k:AV->AV->aa->Option (AV×aa)):R2:=fun v w H Q=>∃P a b x y,Sim mg P a b H/\RA mg P H a x v/\RA mg P H a y w/\KG mg RA P a H (k x y b) Q
def r1[Ol](mg:Gm)(k:AV->aa->Option (AV×aa)):V->Hp->VK->Prop:=fun v H Q=>∃P a b x,Sim mg P a b H/\RA mg P H a x v/\KG mg RA P a H (k x b) Q
section
variable{mg:Gm}{k:AV->AV->aa->Option (AV×aa)}{k1:AV->aa->Option (AV×aa)}{f g:EF}
theorem wU[Ol](q:rE mg (a2 f g k) σ H Q):xw (r2 mg k) (rE mg f) (rE mg g) σ H Q:=by
 refine e7 q fun P U o V n s A=>?_
 refine i7 n s ?_;obtain⟨a,m,J,q⟩:=A.bind (Ra:=RA);refine⟨a,m,J,fun R h T b G u r1=>?_⟩;obtain⟨O,e,l,x,F,t,r2,C⟩:=q R h T b G u r1;refine⟨O,e,o,l,n.frm F,t,?_⟩;obtain⟨L,j,I,z⟩:=C.bind (Ra:=RA);refine⟨L,j,I,fun N d S K E r w=>?_⟩;obtain⟨M,c,i,y,D,p,v,B⟩:=z N d S K E r w;exact⟨M,c,i,x,y,p,r2.frm D,v,B⟩
theorem Ml[Ol](q:rE mg (a1 f k1) σ H Q):Kl (r1 mg k1) (rE mg f) σ H Q:=by
 refine e7 q fun P t v u j s k=>?_
 refine i7 j s ?_;obtain⟨a,g,n,q⟩:=k.bind (Ra:=RA);refine⟨a,g,n,fun p d r b m i r1=>?_⟩;obtain⟨o,c,e,x,w,h,r2,l⟩:=q p d r b m i r1;exact⟨o,c,e,x,h,r2,l⟩
end
def lm(h:aa->AV->AV->Option AV):AV->AV->aa->Option (AV×aa):=fun x y a=>(h a x y).map fun z=>(z,a)
def Fo(h:aa->AV->Option AV):AV->aa->Option (AV×aa):=fun x a=>(h a x).map fun z=>(z,a)
noncomputable def cV(a b:Int):Bool:=(ä a.natAbs.log2 62||Nat.ble b.natAbs.log2 62)||(ä a.natAbs.log2 1000000&&ä b.natAbs.log2 1000000)
noncomputable def eG(b:Int):Bool:=!(b==0)&&ä b.natAbs.log2 8999
noncomputable def wa(a b:Int):Bool:=decide (0<=b)&&ä b.natAbs 100000&&ä a.natAbs.log2 62
noncomputable def vA(a b:Int):Int:=if 0<b then a/b else a.fdiv b
noncomputable def qL(a b:Int):Int:=if 0<b then a%b else a.fmod b
def t9:ğ->Int->Int->Option Int
 |.Add,a,b=>À (a+b)
 |.Sub,a,b=>À (a-b)
 |.Mult,a,b=>if cV a b=Â then À (a*b) else Á
 |.FloorDiv,a,b=>if eG b=Â then À (vA a b) else Á
 |.Mod,a,b=>if b=0 then Á else À (qL a b)
 |.Pow,a,b=>if wa a b=Â then À (a^b.toNat) else Á
 |.LShift,a,b=>if wa a b=Â then À (a*2^b.toNat) else Á
 |.RShift,a,b=>if 0<=b then À (a/2^b.toNat) else Á
 |.BitAnd,a,b=>À (P8 a b)
 |.BitOr,a,b=>À (Builtin.bitOr a b)
 |.BitXor,a,b=>À (Builtin.bitXor a b)
 |_,_,_=>Á
def aZ(o:ğ)(_:aa):AV->AV->Option AV
 |.int a,.int b=>(t9 o a b).map .int
 |.str a,.str b=>if(decide (o=.Add)&&ä (a.length+b.length) 1000000)=Â then À (.str (a++b)) else Á
 |_,_=>Á
theorem log2_lt{n k:Nat}(h:ä n.log2 k=Â):n<2^(k+1):=by
 by_cases a:n=0
 ·subst a;exact Ô _
 ·exact(Ĉ a).mp (Q? (zS h))
theorem mH{a:Int}{k:Nat}(h:a.natAbs<2^k):c? a<=k:=by
 unfold c?;split
 ·lia
 ·rename_i b
  have:a.natAbs.log2<k:=(Ĉ (by simpa using b)).mpr h;lia
theorem Ee{a b:Int}(h:cV a b=Â):IntMulOk a b:=by
 unfold cV at h;rcases I?.mp h with h|h
 ·rcases I?.mp h with h|h
  ·exact .of_left (z5 (mH (log2_lt h)) dC)
  ·exact .of_right (z5 (mH (log2_lt h)) dC)
 ·obtain⟨d,c⟩:=ŏ.mp h
  exact .of_bits (z5 (mH (log2_lt d)) dC) (z5 (mH (log2_lt c)) dC)
theorem EC{b:Int}(h:eG b=Â):b≠0/\b.natAbs.log2<9000:=by
 unfold eG at h;obtain⟨c,a⟩:=ŏ.mp h;exact⟨by simpa using c,Q? (zS a)⟩
theorem HF(a b:Int):a.fdiv b=vA a b:=by
 unfold vA;split
 ·exact e! _ oM
 ·rfl
theorem Hy(a b:Int):a.fmod b=qL a b:=by
 unfold qL;split
 ·exact Int.fmod_eq_emod_of_nonneg _ oM
 ·rfl
theorem u7{a b:Int}(h:wa a b=Â):Mo a b:=by
 unfold wa at h;simp only[zC,yC]at h;obtain⟨⟨e,c⟩,d⟩:=h;have c:=zS c;exact⟨e,by lia,zJ (log2_lt d) dC⟩
def LO(o:ğ):R2:=fun x y H Q=>(∃i j k,x=.int i/\y=.int j/\t9 o i j=À k/\Q (.int k) H)\/(o=.Add/\∃i j,x=.str i/\y=.str j/\i.length+j.length<=Ë/\Q (.str (i++j)) H)
section
variable{X:Cx}
theorem Gw(o:ğ):mj X (ŷ o) (LO o):=by
 have l:∀(h:∀i j k t u s (Q:Ä->É->Prop) (E:Ä->É->Prop),t9 o i j=À k->Q (.int k s.toks) { s with toks:=s.toks+1 }->Í (model X.prog X.w) X.A (ŷ o (.int i t) (.int j u)) Q E s)
   (d:List (Ç×Obj)) (s:É) (b:St) (H:Hp) (x y:V) (v u:Ä) (Q:VK),Inv X d b H s->RelV x v->RelV y u->(∃i j k,x=.int i/\y=.int j/\t9 o i j=À k/\Q (.int k) H) ->
   Í (model X.prog X.w) X.A (ŷ o v u) (EP X d b Q) X.xe s:=by
  rintro h d s b H x y v u Q I rx f ⟨i,j,k,w,r,p,q⟩;subst w;subst r;obtain⟨t,rfl⟩:=rx;obtain⟨g,rfl⟩:=f;exact h i j k t g s _ _ p ⟨.int k,H,I.tok _,⟨_,rfl⟩,q⟩
 intro d s b H x y v u Q I rx f h;rcases h with h|⟨rfl,h⟩
 ·refine l ?_ d s b H x y v u Q I rx f h
  intro i j k t u s Q E e q;cases o<;>simp only[t9]at e
  case Add=>cases e;exact add_int q
  case Sub=>cases e;exact sub_int q
  case Mult =>
   split at e
   ·rename_i a;cases e;exact mul_int q (Ee a)
   ·cases e
  case FloorDiv =>
   split at e
   ·rename_i a;cases e
    obtain⟨n,m⟩:=EC a;exact floordiv_int n (by rw[HF];exact q) (.inl (PyProof.noPylong_of_log2 m))
   ·cases e
  case Mod =>
   split at e
   ·cases e
   ·rename_i a;cases e
    exact mod_int' a (by rw[Hy];exact q)
  case Pow =>
   split at e
   ·rename_i a;cases e
    have c:=u7 a;exact pow_int_small c.1 c.2.1 c.2.2 q
   ·cases e
  case LShift =>
   split at e
   ·rename_i a;cases e
    have c:=u7 a;exact lshift_int_small c.1 c.2.1 c.2.2 q
   ·cases e
  case RShift =>
   split at e
   ·rename_i a;cases e
    exact rshift_int a (by rw[e! _ (vM _)];exact q)
   ·cases e
  case BitAnd=>cases e;exact and_int q
  case BitOr=>cases e;exact or_int q
  case BitXor=>cases e;exact xor_int q
  all_goals cases e
 ·exact wf d s b H x y v u Q I rx f h
theorem GB[Ol](o:ğ):mj X (ŷ o) (r2 X.gm (lm (aZ o))):=OpR_imp (Gw o) fun v w H Q d=>by
 obtain ⟨P,i,j,x,y,s,r1,r2,k⟩:=d;obtain ⟨z,e,k⟩:=k.map;cases x <;> cases y <;> simp only [aZ] at e <;> first | (cases e;done) | skip
 ·rename_i a b
  simp only[RA]at r1 r2;obtain⟨c,h,g⟩:=zE.mp e;subst g;exact .inl ⟨a,b,c,r1,r2,h,k.pure s (by simp only[RA])⟩
 ·rename_i a b
  simp only[RA]at r1 r2;split at e
  ·rename_i f
   cases e;simp only[zC,yC]at f;exact .inr ⟨f.1,a,b,r1,r2,z5 (zS f.2) dC,k.pure s (by simp only[RA])⟩
  ·cases e
theorem FZ[Ol](c:QE X a f)(hb:QE X b g):QE X (.BinOp a o b pos) (a2 f g (lm (aZ o))) :=
 PE_imp (wd (GB o) c hb) fun _ _ _ q=>wU q
end
open DD (pyOk reads_each any_vals obj_list obj_tup)
def dr(st:aa):AV->AV
 |.ref k=>match st[k]? with
  |some (.al t)=>t
  |_=>.ref k
 |v=>v
def bI(st:aa)(v:AV):Option (List AV):=match dr st v with
 |.fz a=>À a
 |.ref k=>match st[k]? with
  |some (.lst a)=>À a
  |_=>Á
 |_=>Á
def jl(st:aa)(v:AV):Option (List AV):=match dr st v with
 |.tup xs=>À xs
 |_=>Á
section
variable{mg:Gm}{P:Pr}{φ:List Ç}{st:aa}{H:Hp}{v:AV}{w:V}{xs:List AV}
theorem RA.dr[Ol](s:Sim mg P φ st H)(r:RA mg P H φ v w):RA mg P H φ (dr st v) w:=by
 cases v with
 |ref k =>
  unfold R.dr;dsimp only;split
  ·rename_i t h
   obtain⟨a,e,c⟩:=s.at h;simp only[RA]at r;obtain⟨d,b,rfl⟩:=r;rw[e]at b;cases b;exact c.2.lift
  ·exact r
 |_=>exact r
theorem RA.ls[Ol](s:Sim mg P φ st H)(r:RA mg P H φ v w)(h:bI st v=À xs):∃a vs,w=.ref a/\bR mg.K H a vs/\On mg P H φ xs vs:=by
 have r:=r.dr s;unfold bI at h;split at h
 ·rename_i g e
  cases h;rw[e]at r;simp only[RA]at r;obtain⟨a,vs,d,b,q⟩:=r;exact⟨a,vs,d,b.sq,q.lift⟩
 ·rename_i k e
  rw[e]at r;simp only[RA]at r;obtain⟨a,d,b⟩:=r;split at h
  ·rename_i g l
   cases h;obtain⟨m,f,c⟩:=s.at l;rw[d]at f;cases f;obtain⟨_,vs,j,i⟩:=c;exact⟨a,vs,b,.inl (.inl j),i⟩
  ·cases h
 ·cases h
theorem RA.tp[Ol](s:Sim mg P φ st H)(r:RA mg P H φ v w)(h:jl st v=À xs):∃a vs,w=.ref a/\H a=À (.tup vs)/\On mg P H φ xs vs:=by
 have r:=r.dr s;unfold jl at h;split at h
 ·rename_i d e
  cases h;rw[e]at r;simp only[RA]at r;obtain⟨a,vs,c,_,b,q⟩:=r;exact⟨a,vs,c,b,q⟩
 ·cases h
end
noncomputable def bn{α β:Type}(f:α->Option β):List α->Option (List β)
 |[]=>À []
 |x::xs=>(f x).bind fun y=>(bn f xs).map fun ys=>y::ys
theorem eP{α b a:Type}{f:α->Option b}{i:a->α}{g:a->b}(h:∀x,f (i x)=À (g x))(xs:List a):bn f (xs.map i)=À (xs.map g):=by
 induction xs with
 |nil=>rfl
 |cons x xs c=>simp only[zO,bn,h,c,Å,á]
def cC:Nat->aa->AV->Option ņ
 |_,_,.non=>À .none
 |_,_,.bl b=>À (.bool b)
 |_,_,.int i=>À (.int i)
 |_,_,.str x=>À (.str x)
 |n+1,st,.fz xs=>(bn (cC n st) xs).map .list
 |n+1,st,.tup xs=>(bn (cC n st) xs).map .tuple
 |n+1,st,.ref k=>match st[k]? with
  |some (.lst xs)=>(bn (cC n st) xs).map .list
  |some (.al t)=>cC n st t
  |_=>Á
 |0,_,_=>Á
section
variable{X:Cx}{Og:List (Ç×Obj)}{σ:St}{H:Hp}{s:É}{P:Pr}{φ:List Ç}{st:aa}
theorem sB[Ol]{n:Nat}(g:∀t v p u,RA mg P H φ t v->cC n st t=À p->RelV v u->∃as,ů s.heap u p as) :
  ∀{xs:List AV}{vs:List V}{ps:List ņ}{us:List Ä},On mg P H φ xs vs->bn (cC n st) xs=À ps->Vals vs us->∃as,Ϲ s.heap us ps as:=by
 intro xs
 induction xs with
 |nil =>
  intro vs ps us r e q;simp only[On]at r;subst r;cases e;cases q;exact⟨_,.nil⟩
 |cons x xs a =>
  intro vs ps us r e q;simp only[On]at r;obtain⟨v,l,rfl,r1,r2⟩:=r;simp only[bn]at e;obtain⟨p,k,j⟩:=zA e;obtain⟨m,i,h⟩:=zE.mp j;subst h;cases q with
  |cons f d =>
   obtain⟨as,c⟩:=g x v p _ r1 k f;obtain⟨bs,b⟩:=a r2 i d;exact⟨_,.cons c b⟩
theorem ik[Ol](I:L2.Inv X Og σ H s)(E:Sim X.gm P φ st H):∀(n:Nat)(t:AV)(v:V)(p:ņ)(u:Ä),RA X.gm P H φ t v->cC n st t=À p->RelV v u->∃as,ů s.heap u p as:=by
 have lst:∀{a:Ç}{g:List V}{u:Ä}{y:List ņ},bR X.K H a g->RelV (.ref a) u->(∀{D:List Ä},Vals g D->∃as,Ϲ s.heap D y as)->∃as,ů s.heap u (.list y) as:=by
  intro a g u y h d k;cases d;obtain⟨Q,G,m,j,o,l,N⟩:=obj_list I h;obtain⟨as,A⟩:=k j;exact⟨_,.list o l N A⟩
 have flat:∀(n:Nat)(t:AV)(v:V)(p:ņ)(u:Ä)(w:V),qC t=À w->RA X.gm P H φ t v->cC n st t=À p->RelV v u->∃as,ů s.heap u p as:=by
  intro n t v p u w J r e d;cases t with
  | non=>cases n <;> (simp only [cC] at e;cases e;simp only [RA] at r;subst r;cases d;exact ⟨_,.none⟩)
  | bl b=>cases n <;> (simp only [cC] at e;cases e;simp only [RA] at r;subst r;cases d;exact ⟨_,.bool b⟩)
  | int i=>cases n <;> (simp only [cC] at e;cases e;simp only [RA] at r;subst r;obtain ⟨t,rfl⟩:=d;exact ⟨_,.int i t⟩)
  | str x=>cases n <;> (simp only [cC] at e;cases e;simp only [RA] at r;subst r;obtain ⟨t,rfl⟩:=d;exact ⟨_,.str x t⟩)
  |_=>cases J
 intro n
 induction n with
 |zero =>
  intro t v p u r e d;cases t with
  |non=>exact flat 0 _ v p u _ rfl r e d
  |bl b=>exact flat 0 _ v p u _ rfl r e d
  |int i=>exact flat 0 _ v p u _ rfl r e d
  |str x=>exact flat 0 _ v p u _ rfl r e d
  |_=>simp only[cC]at e;cases e
 |succ n z =>
  intro t v p u r e d;cases t with
  |non=>exact flat _ _ v p u _ rfl r e d
  |bl b=>exact flat _ _ v p u _ rfl r e d
  |int i=>exact flat _ _ v p u _ rfl r e d
  |str x=>exact flat _ _ v p u _ rfl r e d
  |fz C =>
   simp only[cC]at e;obtain⟨y,o,l⟩:=zE.mp e;subst l;simp only[RA]at r;obtain⟨a,g,rfl,h,q⟩:=r;exact lst h.sq d fun j=>sB z q.lift o j
  |tup C =>
   simp only [cC] at e;obtain ⟨y,o,l⟩:=zE.mp e;subst l;simp only [RA] at r;obtain ⟨a,g,rfl,_,h,q⟩:=r;cases d;obtain ⟨Q,G,m,j,M,L,K⟩:=obj_tup I (show iy X.K H a g from .inl (.inl h));obtain ⟨as,A⟩:=sB z q o j;exact ⟨_,.tuple M L K A⟩
  |ref k =>
   simp only[cC]at e;simp only[RA]at r;obtain⟨a,F,rfl⟩:=r;split at e
   ·rename_i C B
    obtain⟨y,o,l⟩:=zE.mp e;subst l;obtain⟨O,f,c⟩:=E.at B;rw[F]at f;cases f;obtain⟨_,g,h,q⟩:=c;exact lst (.inl (.inl h)) d fun j=>sB z q o j
   ·rename_i t B
    obtain⟨O,f,c⟩:=E.at B;rw[F]at f;cases f;exact z t _ p u c.2.lift e d
   ·cases e
end
noncomputable def AA:ņ->Option Ì
 |.str a=>À a
 |_=>Á
theorem uW{p:ņ}{a:Ì}(h:AA p=À a):p=.str a:=by
 cases p with
 |str b=>cases h;rfl
 |_=>cases h
def LG(p q:ņ):Option Bool:=(AA p).bind fun a=>(AA q).map fun b=>a==b
def j4(st:aa)(x y:AV):Option Bool:=(cC 9 st x).bind fun p=>(cC 9 st y).bind fun q=>if pyOk p q=Â then À (Þ p q) else LG p q
def kC:AV->Option aT
 |.int i=>À (.inl i)
 |.str x=>À (.inr x)
 |_=>Á
noncomputable def nT{a:Type}[DecidableEq a](Oi:List (a×AV))(k:a):Option AV:=(Oi.find? fun b=>decide (b.1=k)).map (·.2)
def jB(st:aa):AV->Option (List (aT×AV))
 |.ref k=>match st[k]? with
  |some (.dK Oi)=>À Oi
  |_=>Á
 |_=>Á
def ny(st:aa):AV->Option (List (List aT×AV))
 |.ref k=>match st[k]? with
  |some (.dT Oi)=>À Oi
  |_=>Á
 |_=>Á
def oe(st:aa)(y x:AV):Option (Option AV):=match jB st y with
 |some a=>(kC x).map fun k=>nT a k
 |none=>match ny st y with
  |some a=>match x with
   |.tup xs=>(bn kC xs).map fun k=>nT a k
   |_=>Á
  |none=>Á
def tE(st:aa)(x y:AV):Option Bool:=match oe st y x with
 |some o=>À o.isSome
 |none=>match x,y with
  |.str a,.str b=>À (!(Builtin.Str.occurrences b a 0 b.length 1).isEmpty)
  |_,_=>(cC 9 st x).bind fun q=>(cC 9 st y).bind fun p=>match p with
   |.list ps=>if(ps.all fun r=>pyOk r q)=Â then À (ps.any fun r=>Þ r q) else Á
   |.tuple ps=>if(ps.all fun r=>pyOk r q)=Â then À (ps.any fun r=>Þ r q) else Á
   |_=>Á
noncomputable def Bc:Ϛ->Int->Int->Option Bool
 |.Lt,a,b=>À (decide (a<b))
 |.LtE,a,b=>À (decide (a<=b))
 |.Gt,a,b=>À (decide (b<a))
 |.GtE,a,b=>À (decide (b<=a))
 |_,_,_=>Á
noncomputable def GD:AV->Bool
 |.non=>Â
 |_=>Ã
def He(x y:AV):Option Bool:=match y with
 |.non=>À (GD x)
 |.bl b=>(match x with
  |.bl a=>À (a==b)
  |_=>Á)
 |_=>Á
def cb(o:Ϛ)(st:aa)(x y:AV):Option Bool:=match o with
 |.Eq=>j4 st x y
 |.NotEq=>(j4 st x y).map (!·)
 |.Is=>He x y
 |.IsNot=>(He x y).map (!·)
 |.In=>tE st x y
 |.NotIn=>(tE st x y).map (!·)
 |o=>match x,y with
  |.int a,.int b=>Bc o a b
  |_,_=>Á
def oh(o:Ϛ)(st:aa)(x y:AV):Option AV:=(cb o st x y).map .bl
theorem p4(h:pyOk p q=Â):p.canLay0=Â/\q.canLay0=Â/\min p.depth q.depth<=50:=by
 simp only[pyOk,zC,yC]at h;exact⟨h.1.1,h.1.2,h.2⟩
theorem ki{P:Pr}{H:Hp}{φ:List Ç}{a:Type}[DecidableEq a]{Oi:List (a×AV)}{ws:List (a×V)}(h:KVR mg P H φ Oi ws)(k:a) :
  (nT Oi k).isSome=(fv ws k).isSome/\∀v,nT Oi k=À v->∃w,fv ws k=À w/\RA mg P H φ v w:=by
 induction Oi generalizing ws with
 |nil =>
  have:ws=[]:=by simpa using h.1.symm
  subst this;exact⟨rfl,fun v e=>by cases e⟩
 |cons p Oi f =>
  cases ws with
  |nil=>exact absurd h.1 (by simp)
  |cons q ws =>
   obtain⟨d,b⟩:=h;rw[zO,zO]at d b;injection d with h3 h4;simp only[On]at b;obtain⟨v,m,l,j,i⟩:=b;injection l with h8 h9;subst h8;subst h9;by_cases e:q.1=k
   ·have c:p.1=k:=h3.trans e
    simp only[nT,fv,č,e,c,decide_true,á];refine⟨rfl,fun v g=>?_⟩;cases g;exact⟨_,rfl,j⟩
   ·have c:¬p.1=k:=fun z=>e (h3.symm.trans z)
    have:=f (ws:=ws) ⟨h4,i⟩
    simp only[nT,fv,č,e,c,decide_false]at this ⊢;exact this
section
variable{X:Cx}{Og:List (Ç×Obj)}{σ:St}{H:Hp}{s:É}{P:Pr}{φ:List Ç}{st:aa}
theorem n9(h:kC x=À k)(r:RA mg P H φ x v):v=kV k:=by
 cases x <;> simp only [kC] at h <;> first | (cases h;done) | skip
 ·cases h;simp only[RA]at r;exact r
 ·cases h;simp only[RA]at r;exact r
theorem qG[Ol]:∀{xs:List AV}{vs:List V}{k:List aT},bn kC xs=À k->On mg P H φ xs vs->vs=k.map kV:=by
 intro xs
 induction xs with
 |nil=>intro vs k e r;cases e;simp only[On]at r;exact r
 |cons x xs a =>
  intro vs k e r;simp only[bn]at e;obtain⟨p,f,d⟩:=zA e;obtain⟨h,c,b⟩:=zE.mp d;subst b;simp only[On]at r;obtain⟨v,g,rfl,r1,r2⟩:=r;rw[n9 f r1,a c r2];rfl
theorem tG[Ol](r:Sim X.gm P φ st H){x y:AV}{v w:V}{o:Option AV}(h:oe st y x=À o)(rx:RA X.gm P H φ x v)(i:RA X.gm P H φ y w) :
  ∃a o',w=.ref a/\DGet H a v o'/\o.isSome=o'.isSome/\∀t,o=À t->∃u,o'=À u/\RA X.gm P H φ t u:=by
 unfold oe at h;split at h
 ·rename_i B e
  obtain ⟨k,q,p⟩:=zE.mp h;subst p;cases y <;> simp only [jB] at e <;> first | (cases e;done) | skip
  split at e
  ·rename_i j g n
   cases e;simp only[RA]at i;obtain⟨a,m,rfl⟩:=i;obtain⟨A,d,c⟩:=r.at n;rw[m]at d;cases d;obtain⟨_,s,l,f⟩:=c
   have:=n9 q rx
   subst this;exact⟨a,_,rfl,DGet.k l,(ki f k).1,(ki f k).2⟩
  ·cases e
 ·split at h
  ·rename_i B e
   split at h
   ·rename_i C
    obtain ⟨k,q,p⟩:=zE.mp h;subst p;cases y <;> simp only [ny] at e <;> first | (cases e;done) | skip
    split at e
    ·rename_i j g n
     cases e;simp only[RA]at i;obtain⟨a,m,rfl⟩:=i;obtain⟨A,d,c⟩:=r.at n;rw[m]at d;cases d;obtain⟨_,s,l,f⟩:=c;simp only[RA]at rx;obtain⟨b,D,rfl,_,hb,z⟩:=rx;rw[qG q z]at hb;exact⟨a,_,rfl,DGet.t l hb,(ki f k).1,(ki f k).2⟩
    ·cases e
   ·cases h
  ·cases h
theorem tD(C:X.A.units+64<ř){v:Ä}{q:ņ}{b bs:List Ç}{ps:List ņ}{a:Array Ä}(o:ů s.heap v q b)(l:Ϲ s.heap a.toList ps bs)(y:(ps.all fun r=>pyOk r q)=Â) :
  ∃e:Ä->Bool,(∀z∈a,SeqAt.EqAt X.A.in1 s z v (e z))/\a.any e=ps.any fun r=>Þ r q:=by
 classical
 have k:∀z f c,ů s.heap z f c->decide (∃p b,ů s.heap z p b/\Þ p q=Â)=Þ f q:=by
  intro z f c d;rcases he:Þ f q with _|_
  ·refine yA ?_
   rintro⟨u,j,t,m⟩
   have:=(d? d u j t).1
   rw[<- this,he]at m;cases m
  ·exact yW ⟨f,c,d,he⟩
 refine⟨fun z=>decide (∃p b,ů s.heap z p b/\Þ p q=Â),fun z hz=>?_,?_⟩
 ·obtain⟨g,c,i,d⟩:=reads_each l z (by simpa using hz)
  obtain⟨x,w,B⟩:=p4 (yR.mp y g i);dsimp only;rw[k z g c d];exact Ϭ g q _ s z v c b d o x w (by simp only[Around.in1_units];lia)
 ·have A:=any_vals (q:=q) (e:=fun z=>decide (∃p b,ů s.heap z p b/\Þ p q=Â)) (h:=s.heap) (fun v p b n=>k v p b n) l
  rw[<- A];simp
theorem vn[Ol](J:X.A.units+64<ř)(I:L2.Inv X Og σ H s)(A:Sim X.gm P φ st H){x y:AV}{v w:V}{u r:Ä}{b:Bool}(h:tE st x y=À b)(rx:RA X.gm P H φ x v)(l:RA X.gm P H φ y w)(m:RelV v u)(B:RelV w r){E:Ä->É->Prop}
  {Q:Ä->É->Prop}{Q':Ä->É->Prop} (z:∀s',L2.Inv X Og σ H s'->Q (.bool b) s') (d:∀s',L2.Inv X Og σ H s'->Q' (.bool (!b)) s') :
  Í (model X.prog X.w) X.A (Ē .In u r) Q E s/\Í (model X.prog X.w) X.A (Ē .NotIn u r) Q' E s:=by
 unfold tE at h;split at h
 ·rename_i o e
  cases h;obtain⟨a,S,rfl,g,K,_⟩:=tG A e rx l;cases B;exact⟨Mb oM I g m fun s' D=>by rw[<- K];exact z s' D,ED oM I g m fun s' D=>by rw[<- K];exact d s' D⟩
 ·split at h
  ·rename_i a c
   cases h;simp only[RA]at rx l;subst rx;subst l;obtain⟨t,rfl⟩:=m;obtain⟨R,rfl⟩:=B;exact⟨in_str (z s I),notIn_str (d s I)⟩
  ·obtain⟨q,O,N⟩:=zA h
   obtain⟨p,M,f⟩:=zA N;obtain⟨T,G⟩:=ik I A 9 _ _ _ _ rx O m;obtain⟨bs,F⟩:=ik I A 9 _ _ _ _ l M B;split at f
   ·rename_i L
    split at f
    ·rename_i C
     cases f;cases F with
     |@list a o items n xs as' hg hc hdt rall =>
      obtain⟨e,j,k⟩:=tD J G rall C;have i:s.heap.IsList a items:=⟨o,hg,hc,n,hdt⟩;exact⟨SeqAt.in_listAt e i j (by rw[k];exact z s I),SeqAt.notIn_listAt e i j (by rw[k];exact d s I)⟩
    ·cases f
   ·rename_i L
    split at f
    ·rename_i C
     cases f;cases F with
     |@tuple a o items n xs as' hg hc hdt rall =>
      obtain⟨e,j,k⟩:=tD J G rall C;have i:IsTup s.heap a items:=⟨o,hg,hc,n,hdt⟩;exact⟨SeqAt.in_tupleAt e i j (by rw[k];exact z s I),SeqAt.notIn_tupleAt e i j (by rw[k];exact d s I)⟩
    ·cases f
   ·cases f
end
section
variable{X:Cx}
theorem g_{T:Prop}(h:∀G:Prop,(T->G)->G):T:=h _ id
theorem yb[Ol](T:X.A.units+64<ř)(o:Ϛ):mj X (Ē o) (r2 X.gm (lm (oh o))):=by
 rintro S s F H v w u r Q I m n ⟨P,φ,Y,x,y,l,rx,j,k⟩;obtain⟨z,e,k⟩:=k.map;obtain⟨b,g,e2⟩:=zE.mp e;subst e2;have ay:∀J,L2.Inv X S F H J->EP X S F Q (.bool b) J:=fun J I'=>⟨.bl b,H,I',rfl,k.pure l (by simp only[RA])⟩
 have f:∀{o:Option Bool},o.map (!·)=À b->∃c,o=À c/\b=!c:=fun h=>by
  obtain⟨c,i,R⟩:=zE.mp h;exact⟨c,i,R.symm⟩
 have D:∀{c:Bool},j4 Y x y=À c->∀{Q:Ä->É->Prop}{E:Ä->É->Prop},(Q (.bool c) s->Í (model X.prog X.w) X.A (Ē .Eq u r) Q E s)/\(Q (.bool (!c)) s->Í (model X.prog X.w) X.A (Ē .NotEq u r) Q E s):=by
  intro c h Q E;clear k ay f g e;refine g_ fun G bk=>?_
  unfold j4 at h;obtain⟨p,i,R⟩:=zA h;obtain⟨q,O,N⟩:=zA R;split at N
  ·rename_i hk
   cases N;obtain⟨W,V,hd⟩:=p4 hk;obtain⟨as,C⟩:=ik I l 9 _ _ _ _ rx i m;obtain⟨bs,B⟩:=ik I l 9 _ _ _ _ j O n;exact bk ⟨fun q=>SeqAt.eqOverData _ _ _ _ _ _ _ _ _ _ _ _ C B W V oM q,fun q=>SeqAt.neOverData _ _ _ _ _ _ _ _ _ _ _ _ C B W V oM q⟩
  ·obtain⟨a,ha,h5⟩:=zA N
   obtain⟨b,hb,h6⟩:=zE.mp h5;subst h6;rw[uW ha]at i;rw[uW hb]at O;obtain⟨as,C⟩:=ik I l 9 _ _ _ _ rx i m;obtain⟨bs,B⟩:=ik I l 9 _ _ _ _ j O n;cases C;cases B;exact bk ⟨fun q=>eq_str q,fun q=>ne_str q⟩
 have L:∀{c:Bool},He x y=À c->∀{Q:Ä->É->Prop}{E:Ä->É->Prop},(Q (.bool c) s->Í (model X.prog X.w) X.A (Ē .Is u r) Q E s)/\(Q (.bool (!c)) s->Í (model X.prog X.w) X.A (Ē .IsNot u r) Q E s):=by
  intro c h Q E;clear k ay f g e D l;have nn:y=.non->c=(u==ŭ)->(Q (.bool c) s->Í (model X.prog X.w) X.A (Ē .Is u r) Q E s)/\(Q (.bool (!c)) s->Í (model X.prog X.w) X.A (Ē .IsNot u r) Q E s):=fun M U=>by
   subst M;simp only[RA]at j;subst j;cases n;exact⟨fun q=>is_none_gen (by rw[<- U];exact q),fun q=>isnot_none_gen (by rw[<- U];exact q)⟩
  cases y with
  |non =>
   have h:À (GD x)=À c:=h;cases h;refine nn rfl ?_;cases x with
   |non=>simp only[RA]at rx;subst rx;cases m;rfl
   | _=>rw [RelV.none_iff m];refine (yA fun hv=>?_).symm;subst hv;simp only [RA] at rx;first | (cases rx;done) | (obtain ⟨_,_,z,_⟩:=rx;cases z;done) | (obtain ⟨_,_,z⟩:=rx;cases z;done)
  |bl d=>cases x with
   |bl a =>
    cases h;simp only[RA]at rx j;subst rx;subst j;cases m;cases n;cases a<;>cases d<;>exact⟨fun q=>yG q,fun q=>yG q⟩
   |_=>exact nomatch h
  |_=>exact nomatch h
 have K:∀{a c:Int},x=.int a->y=.int c->Bc o a c=À b->Í (model X.prog X.w) X.A (Ē o u r) (EP X S F Q) X.xe s:=by
  intro a c Z M A;clear D L f k g e l;subst Z;subst M;simp only [RA] at rx j;subst rx;subst j;obtain ⟨t,rfl⟩:=m;obtain ⟨t',rfl⟩:=n;cases o <;> simp only [Bc] at A <;> first | (cases A;done) | skip
  ·cases A;exact lt_int (ay s I)
  ·cases A;exact le_int (ay s I)
  ·cases A;exact gt_int (ay s I)
  ·cases A;exact ge_int (ay s I)
 cases o<;>simp only[cb]at g
 case Eq=>exact(D g).1 (ay s I)
 case NotEq=>obtain⟨c,i,rfl⟩:=f g;exact(D i).2 (ay s I)
 case Is=>exact(L g).1 (ay s I)
 case IsNot=>obtain⟨c,i,rfl⟩:=f g;exact(L i).2 (ay s I)
 case In=>exact(vn T I l g rx j m n (Q':=fun _ _=>True) ay fun _ _=>trivial).1
 case NotIn=>obtain⟨c,i,rfl⟩:=f g;exact(vn T I l i rx j m n (Q:=fun _ _=>True) (fun _ _=>trivial) ay).2
 all_goals
  split at g
  ·exact K rfl rfl g
  ·cases g
noncomputable def my(a:Ϛ)(b:Î):Bool:=!(ϧ a b)
theorem sP(h:my op b=Â):ϧ op b=Ã:=by simpa [my] using h
theorem FY[Ol](c:X.A.units+64<ř)(e:QE X a f)(hb:QE X b g)(d:my o b=Â):QE X (.Compare a [o] [b] pos) (a2 f g (lm (oh o))) :=
 PE_imp (DW (yb c o) e hb (sP d)) fun _ _ _ q=>wU q
def Ff(f g:EF)(o:Ϛ):TF:=fun a c=>(f a c).bind fun p=>(g a p.2).bind fun q=>(cb o q.2 p.1 q.1).map fun b=>(b,q.2)
theorem FD[Ol](n:X.A.units+64<ř)(u:QE X a f)(hb:QE X b g)(t:my o b=Â):QT X (.Compare a [o] [b] pos) (Ff f g o) :=
 PT_imp (DC (yb n o) u hb (sP t)) fun G H Q h=>by
  refine e7 h fun P F J I m s k=>?_
  refine wU (k:=lm (oh o)) (i7 m s ?_);obtain⟨b,j,e,q⟩:=k;unfold Ff at e;obtain⟨p,C,B⟩:=zA e;obtain⟨r,A,z⟩:=zA B;obtain⟨c,y,x⟩:=zE.mp z;injection x with e7 e8;subst e7;subst e8;refine⟨.bl c,r.2,by simp only[a2,C,Å,A,lm,oh,y,á],fun D d E w v l i=>?_⟩;simp only[RA]at i;exact⟨c,i,q D d E c v l rfl⟩
def ot(o:UnaryOp)(_:aa):AV->Option AV
 |.int i=>match o with
  |.USub=>À (.int (-i))
  |.Invert=>À (.int (P7 i))
  |_=>Á
 |_=>Á
theorem IN[Ol](j:QE X a f):QE X (.UnaryOp o a pos) (a1 f (Fo (ot o))):=by
 have h:Ag X (U4 o) (r1 X.gm (Fo (ot o))):=by
  rintro g s b H v u Q I d ⟨P,l,m,x,c,rx,k⟩;obtain ⟨z,e,k⟩:=k.map;cases x <;> simp only [ot] at e <;> first | (cases e;done) | skip
  rename_i i;simp only [RA] at rx;subst rx;cases o <;> first | (cases e;done) | skip
  ·cases e
   exact ES g s b H _ u Q I d ⟨i,rfl,k.pure c (by simp only[RA])⟩
  ·cases e
   exact ER g s b H _ u Q I d ⟨i,rfl,k.pure c (by simp only[RA])⟩
 exact PE_imp (IY h j) fun _ _ _ q=>Ml q
def fx(st:aa)(v:AV):Option Bool:=match bI st v with
 |some a=>À !a.isEmpty
 |none=>match v with
  |.non=>À Ã
  |.bl b=>À b
  |.int i=>À (i !=0)
  |.str x=>if ä x.length 1000000=Â then À ((x.length:Int) !=0) else Á
  |.tup a=>À !a.isEmpty
  |v=>(jB st v).map fun c=>!c.isEmpty
theorem qN(r:On mg P H φ xs vs):vs.isEmpty=xs.isEmpty:=by
 cases xs with
 |nil=>simp only[On]at r;subst r;rfl
 |cons x xs=>simp only[On]at r;obtain⟨v,a,rfl,_⟩:=r;rfl
theorem Av[Ol]{P:Pr}{H:Hp}{φ:List Ç}{st:aa}(i:Sim X.gm P φ st H){v:AV}{w:V}{b:Bool}(h:fx st v=À b)(r:RA X.gm P H φ v w):BS X.K w H b:=by
 unfold fx at h;split at h
 ·rename_i l e
  cases h;obtain⟨a,g,rfl,n,q⟩:=r.ls i e;exact .inl ⟨g,n,by rw[qN q]⟩
 ·cases v<;>simp only at h
  case non=>cases h;simp only[RA]at r;subst r;exact rfl
  case bl=>cases h;simp only[RA]at r;subst r;exact rfl
  case int=>cases h;simp only[RA]at r;subst r;exact rfl
  case str x =>
   simp only[RA]at r;subst r;split at h
   ·rename_i s;cases h;exact⟨z5 (zS s) dC,rfl⟩
   ·cases h
  case tup l =>
   cases h;simp only[RA]at r;obtain⟨a,g,rfl,_,e,q⟩:=r;exact .inr (.inl ⟨g,.inl (.inl e),by rw[qN q]⟩)
  case fz=>obtain⟨_,z,_⟩:=zE.mp h;simp[jB]at z
  case ref k =>
   obtain⟨C,f,y⟩:=zE.mp h;subst y;simp only[jB]at f;split at f
   ·rename_i j t
    cases f;simp only[RA]at r;obtain⟨a,u,rfl⟩:=r;obtain⟨B,d,c⟩:=i.at t;rw[u]at d;cases d;obtain⟨_,m,p,o,A⟩:=c;refine .inr (.inr ⟨m,p,?_⟩)
    have:=congrArg List.isEmpty o
    simpa using this
   ·cases f
def tV(f:EF):TF:=fun c a=>(f c a).bind fun p=>(fx p.2 p.1).map fun b=>(b,p.2)
theorem xJ[Ol](o:QE X a f)(he:∀whole,v! a X.env whole=(do let v <- whole;ŕ a.pos;holding [v] (truthy v))):QT X a (tV f) :=
 PT_imp (AS o he) fun z H Q h=>e7 h fun P y B A n s k=>i7 n s (by
  obtain⟨a,e,t,q⟩:=k.bind (Ra:=RA);refine⟨a,e,t,fun u d w b p m r1=>?_⟩;obtain⟨D,j,l,x,C,i,r2,g⟩:=q u d w b p m r1;obtain⟨c,r,g⟩:=g.map;exact⟨c,Av i r r2,g.pure i rfl⟩)
def Kr(f g:TF):TF:=fun a b=>(f a b).bind fun p=>if p.1=Â then g a p.2 else À (Ã,p.2)
def Fa(f g:TF):TF:=fun a b=>(f a b).bind fun p=>if p.1=Â then À (Â,p.2) else g a p.2
def Ko(f:TF):TF:=fun b a=>(f b a).bind fun p=>À (!p.1,p.2)
section
variable{a b:Î}{rest:List Î}{pos:ģ}{f g:TF}
theorem Fz[Ol](b:B!)(c:QT X a f):QW X (.BoolOp b [a] pos) f:=by
 cases b
 ·exact DB c
 ·exact F1 c
theorem FA[Ol](r:QT X a f)(hb:QW X (.BoolOp .And (b::rest) pos) g):QW X (.BoolOp .And (a::b::rest) pos) (Kr f g) :=
 PW_imp (F2 r hb) fun B H Q j=>e7 j fun P A o C m s k=>i7 m s (by
  obtain⟨a,i,v,q⟩:=k.bind (Ra:=RB);refine⟨a,i,v,fun y e z c u p r1=>?_⟩;obtain⟨w,d,h,x,t,l,r2,n⟩:=q y e z c u p r1;cases r2;cases c with
  |true=>exact⟨w,d,o,h,m.frm t,l,n⟩
  |false=>exact n.pure l rfl)
theorem IH[Ol](r:QT X a f)(hb:QW X (.BoolOp .Or (b::rest) pos) g):QW X (.BoolOp .Or (a::b::rest) pos) (Fa f g) :=
 PW_imp (IU r hb) fun B H Q j=>e7 j fun P A o C m s k=>i7 m s (by
  obtain⟨a,i,v,q⟩:=k.bind (Ra:=RB);refine⟨a,i,v,fun y e z c u p r1=>?_⟩;obtain⟨w,d,h,x,t,l,r2,n⟩:=q y e z c u p r1;cases r2;cases c with
  |false=>exact⟨w,d,o,h,m.frm t,l,n⟩
  |true=>exact n.pure l rfl)
theorem FC[Ol](n:QT X a f):QT X (.UnaryOp .Not a pos) (Ko f) :=
 PT_imp (F3 n) fun v H Q e=>e7 e fun P u y w l s k=>i7 l s (by
  obtain⟨a,d,p,q⟩:=k.bind (Ra:=RB);refine⟨a,d,p,fun r b t c o j r1=>?_⟩;obtain⟨A,g,h,x,z,i,r2,m⟩:=q r b t c o j r1;cases r2;exact m.pure i rfl)
end
def CM(f g:EF):EF:=fun a b=>(f a b).bind fun p=>match p.1 with
 |.bl Â=>g a p.2
 |.bl Ã=>À (.bl Ã,p.2)
 |_=>Á
def CH(f g:EF):EF:=fun a b=>(f a b).bind fun p=>match p.1 with
 |.bl Ã=>g a p.2
 |.bl Â=>À (.bl Â,p.2)
 |_=>Á
def CJ(f:EF):EF:=fun c a=>(f c a).bind fun p=>match p.1 with
 |.bl b=>À (.bl !b,p.2)
 |_=>Á
def K3(t:TF)(f g:EF):EF:=fun a b=>(t a b).bind fun p=>if p.1=Â then f a p.2 else g a p.2
section
variable{a b c:Î}{rest:List Î}{pos:ģ}{f g:EF}{t:TF}
theorem KG.no[Ol]{α a:Type}{Ra:Gm->Pr->Hp->List Ç->α->a->Prop}{Q:a->Hp->Prop}(h:KG mg Ra P φ H Á Q):False:=by obtain⟨_,_,e,_⟩:=h;cases e
theorem F0[Ol](t:QE X a f)(hb:QE X (.BoolOp .And (b::rest) pos) g):QE X (.BoolOp .And (a::b::rest) pos) (CM f g) :=
 PE_imp (Gq t hb) fun C H Q m=>e7 m fun P B p D o s k=>i7 o s (by
  obtain⟨a,j,w,q⟩:=k.bind (Ra:=RA);refine⟨a,j,w,fun z h A c v r r1=>?_⟩;obtain⟨y,e,i,x,u,n,r2,l⟩:=q z h A c v r r1;cases x<;>first|exact l.no.elim|skip
  rename_i d;simp only[RA]at r2;refine⟨d,r2,?_⟩;cases d with
  |true=>exact⟨y,e,p,i,o.frm u,n,l⟩
  |false=>exact l.pure n (by simp only[RA]))
theorem IQ[Ol](t:QE X a f)(hb:QE X (.BoolOp .Or (b::rest) pos) g):QE X (.BoolOp .Or (a::b::rest) pos) (CH f g) :=
 PE_imp (IZ t hb) fun C H Q m=>e7 m fun P B p D o s k=>i7 o s (by
  obtain⟨a,j,w,q⟩:=k.bind (Ra:=RA);refine⟨a,j,w,fun z h A c v r r1=>?_⟩;obtain⟨y,e,i,x,u,n,r2,l⟩:=q z h A c v r r1;cases x<;>first|exact l.no.elim|skip
  rename_i d;simp only[RA]at r2;refine⟨d,r2,?_⟩;cases d with
  |false=>exact⟨y,e,p,i,o.frm u,n,l⟩
  |true=>exact l.pure n (by simp only[RA]))
theorem FV[Ol](o:QE X a f):QE X (.UnaryOp .Not a pos) (CJ f) :=
 PE_imp (Gj o) fun w H Q g=>e7 g fun P v z y n s k=>i7 n s (by
  obtain⟨a,e,r,q⟩:=k.bind (Ra:=RA);refine⟨a,e,r,fun t b u c p m r1=>?_⟩;obtain⟨B,i,j,x,A,l,r2,h⟩:=q t b u c p m r1;cases x<;>first|exact h.no.elim|skip
  rename_i d;simp only[RA]at r2;exact⟨d,r2,h.pure l (by simp only[RA])⟩)
theorem IS[Ol](v:QT X c t)(w:QE X a f)(hb:QE X b g):QE X (.IfExp c a b pos) (K3 t f g) :=
 PE_imp (A7 v w hb) fun D H Q l=>e7 l fun P C m E j s k=>i7 j s (by
  obtain⟨a,i,z,q⟩:=k.bind (Ra:=RB);refine⟨a,i,z,fun A h B c y u r1=>?_⟩;obtain⟨r,d,e,x,p,n,r2,o⟩:=q A h B c y u r1;cases r2;cases c with
  |true=>exact⟨r,d,m,e,j.frm p,n,o⟩
  |false=>exact⟨r,d,m,e,j.frm p,n,o⟩)
end
def aY(st:aa)(x y:AV):Option AV:=match oe st x y with
 |some o=>o
 |none=>match y with
  |.int i=>match bI st x with
   |some a=>gN a i
   |none=>match jl st x with
    |some a=>gN a i
    |none=>match x with
     |.str z=>if ä z.length 1000000=Â then(gN z.cps.toList i).map fun c=>.str ⟨#[c]⟩ else Á
     |_=>Á
  |_=>Á
theorem qv{i:Int}(r:On mg P H φ xs vs)(h:gN xs i=À x):∃v,gN vs i=À v/\RA mg P H φ x v:=by
 unfold gN at h ⊢;rw[<- r.length];obtain⟨j,b,a⟩:=zA h;rw[b,Å];exact r.get a
theorem Es(o:X.A.units+64<ř):IxR X (fun x y H Q=>∃a v,x=.ref a/\DGet H a y (À v)/\Q v H):=by
 rintro b c k s h H x y v u Q I rx i ⟨a,t,ex,g,q⟩ j;subst ex;cases rx;have f:=uw I g;unfold D!;refine yF ?_;rw[getitemInPython_of_ne f.not_modules];refine yF (X1 f PySem.F.slot_dict_getitem.lookup ?_);have ay:Í (model X.prog X.w) X.A (subscripted c Ã (.ref a) u) (fun r d=>Í (model X.prog X.w) X.A (letTemporaryGo b (.ref a) r>>=fun _=>pure r) (EP X k h Q) X.xe d) X.xe s:=by
  rw[j];exact wpAny_operating (zr oM I g i fun m n l e=>yF (wpAny_letTemporaryGo (yG ⟨t,H,l,e,q⟩)))
 first
  |exact yG (yF ay)
  |exact yF (yG (yF ay))
  |exact yF ay
theorem L1[Ol](J:X.A.units+64<ř):IxR X (r2 X.gm (lm aY)):=by
 rintro b d A s l H v w u r Q I m n ⟨P,O,R,x,y,f,rx,C,F⟩ p;obtain⟨z,e,k⟩:=F.map;clear F;unfold aY at e;split at e
 ·rename_i o M
  subst e;obtain⟨a,S,rfl,g,_,L⟩:=tG f M C rx;obtain⟨t,rfl,h⟩:=L z rfl;exact Es J b d A s l H _ _ u r Q I m n ⟨a,t,rfl,g,k.pure f h⟩ p
 ·cases y with
  |int i =>
   simp only[RA]at C;subst C;dsimp only at e;split at e
   ·rename_i G E
    obtain⟨a,B,rfl,D,q⟩:=rx.ls f E;obtain⟨t,j,h⟩:=qv q e;exact td b d A s l H _ _ u r Q I m n (.inl ⟨a,B,i,t,rfl,rfl,D,j,k.pure f h⟩) p
   ·split at e
    ·rename_i G E
     obtain⟨a,B,rfl,D,q⟩:=rx.tp f E;obtain⟨t,j,h⟩:=qv q e;exact td b d A s l H _ _ u r Q I m n (.inr (.inl ⟨a,B,i,t,rfl,rfl,.inl (.inl D),j,k.pure f h⟩)) p
    ·cases x with
     |str x =>
      dsimp only at e;split at e
      ·rename_i K
       obtain⟨c,N,j⟩:=zE.mp e;subst j;simp only[RA]at rx;subst rx;exact td b d A s l H _ _ u r Q I m n (.inr (.inr ⟨x,i,c,rfl,rfl,z5 (zS K) dC,N,k.pure f (by simp only[RA])⟩)) p
      ·cases e
     |_=>cases e
  |_=>cases e
theorem IR[Ol](c:X.A.units+64<ř)(e:QE X a f)(hb:QE X b g)(d:qx b):QE X (.Subscript a b pos) (a2 f g (lm aY)) :=
 PE_imp (Jb (L1 c) e hb d) fun _ _ _ q=>wU q
def K2(g:AF):EF:=fun b a=>(g b a).bind fun p=>if ä p.1.length 1000=Â then À (.tup p.1,p.2) else Á
theorem FU[Ol]{l:Nat}(h:QA X es g):QE X (.Tuple es l pos) (K2 g) :=
 PE_imp (Gg h) fun E H Q f=>e7 f fun P D I G u s k=>i7 u s (by
  obtain⟨a,e,A,q⟩:=k.bind (Ra:=On);refine⟨a,e,A,fun B c C d y t r1=>?_⟩;obtain⟨K,j,m,F,J,r,r2,b⟩:=q B c C d y t r1;dsimp only at b;split at b
  ·rename_i x
   refine⟨by rw[<- r2.length];exact z5 (zS x) dC,fun p w=>?_⟩;obtain⟨i,n⟩:=oE (o:=.tup d) r w;obtain⟨_,_,z,v⟩:=b;cases z;refine v _ _ _ _ i n ?_;simp only[RA];exact⟨p,d,rfl,.inr rfl,aB,r2.frm i⟩
  ·exact b.no.elim)
end
mutual
noncomputable def c8:AV->AV->Bool
 |.non,.non=>Â
 |.bl a,.bl b=>a==b
 |.int a,.int b=>a==b
 |.str a,.str b=>a==b
 |.ref a,.ref b=>a==b
 |.tup a,.tup b=>gF a b
 |.fz a,.fz b=>gF a b
 |_,_=>Ã
noncomputable def gF:List AV->List AV->Bool
 |[],[]=>Â
 |x::xs,y::ys=>c8 x y&&gF xs ys
 |_,_=>Ã
end
mutual
theorem vF:∀{x y:AV},c8 x y=Â->x=y
 |.non,y,h=>by cases y<;>simp only[c8]at h<;>first|rfl|cases h
 | .bl a,y,h=>by cases y <;> simp only [c8] at h <;> first | (rw [yK h]) | cases h
 | .int a,y,h=>by cases y <;> simp only [c8] at h <;> first | (rw [yK h]) | cases h
 | .str a,y,h=>by cases y <;> simp only [c8] at h <;> first | (rw [yK h]) | cases h
 | .ref a,y,h=>by cases y <;> simp only [c8] at h <;> first | (rw [yK h]) | cases h
 | .tup a,y,h=>by cases y <;> simp only [c8] at h <;> first | (rw [mI h]) | cases h
 | .fz a,y,h=>by cases y <;> simp only [c8] at h <;> first | (rw [mI h]) | cases h
theorem mI:∀{xs ys:List AV},gF xs ys=Â->xs=ys
 |[],ys,h=>by cases ys<;>simp only[gF]at h<;>first|rfl|cases h
 |x::xs,ys,h=>by
  cases ys with
  |nil=>simp only[gF]at h;cases h
  |cons y ys =>
   simp only[gF,zC]at h;rw[vF h.1,mI h.2]
end
mutual
theorem Aa:∀x:AV,c8 x x=Â
 |.non=>by simp only[c8]
 |.bl a=>by simp[c8]
 |.int a=>by simp[c8]
 |.str a=>by simp[c8]
 |.ref a=>by simp[c8]
 |.tup a=>by simp only[c8];exact jC a
 |.fz a=>by simp only[c8];exact jC a
theorem jC:∀xs:List AV,gF xs xs=Â
 |[]=>by simp only[gF]
 |x::xs=>by simp only[gF,Aa x,jC xs,Ģ]
end
abbrev Gd:=List (Nat×Oh)
def wQ:Oh->Oh->Bool
 |.lst a,.lst b=>gF a b
 |.dK a,.dK b=>decide (a.map (·.1)=b.map (·.1))&&gF (a.map (·.2)) (b.map (·.2))
 |_,_=>Ã
def cw:Gd->aa->Bool
 |[],_=>Â
 |g::gs,st=>(match st[g.1]? with|some c=>wQ c g.2|none=>Ã)&&cw gs st
theorem BE{k:Nat}{xs:List AV}{gs:Gd}{st:aa}(h:cw ((k,.lst xs)::gs) st=Â):st[k]?=À (.lst xs)/\cw gs st=Â:=by
 simp only[cw,zC]at h;refine⟨?_,h.2⟩;have h:=h.1;split at h
 ·rename_i c e
  cases c <;> simp only [wQ] at h <;> first | (cases h;done) | skip
  rw[e,mI h]
 ·cases h
theorem vy{a b:Gd}{st:aa}(h:cw (a++b) st=Â):cw a st=Â/\cw b st=Â:=by
 induction a with
 |nil=>exact⟨rfl,h⟩
 |cons g a c =>
  simp only[Ϫ,cw,zC]at h ⊢;exact⟨⟨h.1,(c h.2).1⟩,(c h.2).2⟩
structure Iv where
 Om:List AV
 gd:Gd
abbrev IF:=Sl->aa->Option (Iv×aa)
structure vL[Ol](mg:Gm)(J:It)(iv:Iv)(P:Pr)(φ:List Ç)(H:Hp):Prop where
 go:∀P2 φ2 H2 st2 (i:Nat) x,Frm P φ H P2 φ2 H2->Sim mg P2 φ2 st2 H2->cw iv.gd st2=Â->iv.Om[i]?=À x->J.go i H2/\∀v H3,J.yld i H2 v H3->∃P3,Frm P2 φ2 H2 P3 φ2 H3/\Sim mg P3 φ2 st2 H3/\RA mg P3 H3 φ2 x v
 stop:∀P2 φ2 H2 st2,Frm P φ H P2 φ2 H2->Sim mg P2 φ2 st2 H2->cw iv.gd st2=Â->J.stop iv.Om.length H2
def rI[Ol](mg:Gm)(f:IF):TI:=fun j H R=>∃P d h g,Os mg P H d h j/\Sim mg P d g H/\∃i b,f h g=À (i,b)/\∀e a c J,Frm P d H e a c->Sim mg e a b c->vL mg J i e a c->R J c
def QI[Ol](X:Cx)(b a:Î)(f:IF):Prop:=PI X b a (rI X.gm f)
theorem iT(h:PI X tg iter t)(i:∀σ H R,t' σ H R->t σ H R):PI X tg iter t':=fun b s σ H R I a=>h b s σ H R I (i σ H R a)
def i6(st:aa)(v:AV):Option Iv:=match dr st v with
 |.fz a=>À ⟨a,[]⟩
 |.ref k=>match st[k]? with
  |some (.lst a)=>À ⟨a,[(k,.lst a)]⟩
  |_=>Á
 |_=>Á
section
variable{mg:Gm}{P:Pr}{φ:List Ç}{st:aa}{H:Hp}{v:AV}{w:V}{iv:Iv}
theorem lF[Ol](s:Sim mg P φ st H)(r:RA mg P H φ v w)(h:i6 st v=À iv):∃a,w=.ref a/\∀P2 φ2 H2 st2,Frm P φ H P2 φ2 H2->Sim mg P2 φ2 st2 H2->cw iv.gd st2=Â->∃vs,bR mg.K H2 a vs/\On mg P2 H2 φ2 iv.Om vs:=by
 have r:=r.dr s;unfold i6 at h;split at h
 ·rename_i j e
  cases h;rw[e]at r;simp only[RA]at r;obtain⟨a,vs,d,b,q⟩:=r;refine⟨a,d,fun P2 φ2 H2 st2 f _ _=>⟨vs,(b.mono f.ext).sq,?_⟩⟩;exact On.lift (q.mono f.ext fun k a e=>by simp at e)
 ·rename_i k e
  rw[e]at r;simp only[RA]at r;obtain⟨a,d,b⟩:=r;split at h
  ·rename_i j o
   cases h;refine⟨a,b,fun P2 φ2 H2 st2 f l g=>?_⟩;obtain⟨g1,_⟩:=BE g;obtain⟨p,i,c⟩:=l.at g1;rw[f.ix k a d]at i;cases i;obtain⟨_,vs,n,m⟩:=c;exact⟨vs,.inl (.inl n),m⟩
  ·cases h
 ·cases h
end
section
variable{X:Cx}{tg e a b:Î}{es:List Î}{pos p:ģ}
def oU(st:aa)(v:AV):Option Iv:=match v with
 |.str x=>if x.cps.all (·<128)=Â then À ⟨x.cps.toList.map fun c=>.str ⟨#[c]⟩,[]⟩ else Á
 |v=>match jl st v with
  |some a=>À ⟨a,[]⟩
  |none=>i6 st v
def iE(f:EF):IF:=fun b a=>(f b a).bind fun p=>(oU p.2 p.1).map fun c=>(c,p.2)
theorem Ga[Ol](r:PE X e tl):PI X tg e (fun σ H R=>tl σ H fun x H1=>(∃a,x=.ref a/\(∃xs,bR X.K H1 a xs)/\R (CT X.K a) H1)\/(∃a,x=.ref a/\(∃xs,iy X.K H1 a xs)/\R (CQ X.K a) H1)\/∃x':Ì,x=.str x'/\x'.cps.all (·<128)=Â/\R (CS x') H1):=by
 intro k s σ H R I h;refine aF (r k s σ H _ I h) fun v c f=>?_
 obtain⟨x,H1,d,r1,m⟩:=f;have i:∀b∈[c.heap.objs.size],dY X k H1 b:=fun b hb=>by
  have e:b=c.heap.objs.size:=by simpa using hb
  subst e;exact d.fpOk (zP _) (d.Op.fresh (zP _))
 rcases m with⟨a,e,⟨xs,g⟩,q⟩|⟨a,e,⟨xs,g⟩,q⟩|⟨y,e,n,q⟩
 ·subst e
  cases r1;obtain⟨j,l,p,hz⟩:=d.list g;refine Ć p.isList ?_;exact⟨c.heap.objs.size,[c.heap.objs.size],_,_,H1,rfl,d.kept (t':=c.toks) fun b o e=>zG _ e,xg a _,⟨_,zY _ rfl,rfl,rfl⟩,i,q⟩
 ·subst e
  cases r1;obtain ⟨j,l,p,hz⟩:=d.tuple g;refine wpAny_pyIter_tuple (show c.heap.IsTuple a j.toArray from p) ?_;exact ⟨c.heap.objs.size,[c.heap.objs.size],_,_,H1,rfl,d.kept (t':=c.toks) fun b o e=>zG _ e,vN a _,⟨_,zY _ rfl,rfl,rfl⟩,i,q⟩
 ·subst e
  obtain⟨t,rfl⟩:=r1;refine wpAny_pyIter_ascii n ?_;exact⟨c.heap.objs.size,[c.heap.objs.size],_,_,H1,rfl,d.kept (t':=c.toks) fun b o e=>zG _ e,Au y t _,⟨_,zY _ rfl,rfl,rfl⟩,i,q⟩
theorem Bv[Ol]{mg:Gm}{P:Pr}{φ:List Ç}{H:Hp}{K:ã}{a:Ç}{d:Iv}(h:∀P2 φ2 H2 st2,Frm P φ H P2 φ2 H2->Sim mg P2 φ2 st2 H2->cw d.gd st2=Â->∃vs,bR K H2 a vs/\On mg P2 H2 φ2 d.Om vs):vL mg (CT K a) d P φ H where
 go:=fun P2 φ2 H2 st2 i x f s g e=>by
  obtain⟨vs,b,c⟩:=h P2 φ2 H2 st2 f s g;obtain⟨v,k,r1⟩:=c.get e;refine⟨⟨vs,v,b,k⟩,fun w n j=>?_⟩;obtain⟨m,l⟩:=j;subst m
  have:=l vs b
  rw[k]at this;cases this;exact⟨P2,Frm.refl,s,r1⟩
 stop:=fun P2 φ2 H2 st2 f s g=>by
  obtain⟨vs,b,c⟩:=h P2 φ2 H2 st2 f s g;exact⟨vs,b,by rw[<- c.length];exact zP _⟩
theorem Et[Ol]{mg:Gm}{P:Pr}{φ:List Ç}{H:Hp}{K:ã}{a:Ç}{xs:List AV}{vs:List V}(j:P a)(k:H a=À (.tup vs))(h:On mg P H φ xs vs):vL mg (CQ K a) ⟨xs,[]⟩ P φ H where
 go:=fun n b o c i x f s g e=>by
  obtain⟨v,m,r1⟩:=(h.frm f).get e;have l:iy K o a vs:=.inl (.inl ((f.ext a j).2.trans k));refine⟨⟨vs,v,l,m⟩,fun w r d=>?_⟩;obtain⟨q,p⟩:=d;subst q
  have:=p vs l
  rw[m]at this;cases this;exact⟨n,Frm.refl,s,r1⟩
 stop:=fun n b o c f s g=>⟨vs,.inl (.inl ((f.ext a j).2.trans k)),by rw[<- h.length];exact zP _⟩
theorem Eu[Ol]:vL mg (CS x) ⟨x.cps.toList.map fun c=>.str ⟨#[c]⟩,[]⟩ P φ H where
 go:=fun k a o b i y f s g e=>by
  rw[zR]at e;obtain⟨c,h,n⟩:=zE.mp e;rw[q!]at h;subst n;refine⟨⟨c,h⟩,fun w q d=>?_⟩;obtain⟨m,p,j,l⟩:=d;subst m;rw[h]at j;cases j;exact⟨k,Frm.refl,s,by simp only[RA];exact l⟩
 stop:=fun k a o b f s g=>by
  show x.cps[_]?=Á;simp
theorem lE{st:aa}{v:AV}{a:Iv}(h:i6 st v=À a):cw a.gd st=Â:=by
 unfold i6 at h;split at h
 ·cases h;rfl
 ·split at h
  ·rename_i k _ c b
   cases h;simp only[cw];rw[b];simp only[wQ,jC,Ģ]
  ·cases h
 ·cases h
theorem LP[Ol](G:QE X e f):QI X tg e (iE f):=iT (Ga G) fun N H R ⟨P,M,S,Q,z,s,E,y,t,k⟩=>i7 z s (by
 unfold iE at t;obtain⟨p,L,K⟩:=zA t;obtain⟨D,b,J⟩:=zE.mp K;cases J;refine⟨p.1,p.2,L,fun l c d w r i r1=>?_⟩;unfold oU at b;have q:∀v:AV,p.1=v->(match jl p.2 v with|some g=>À ⟨g,[]⟩|none=>i6 p.2 v)=À E->((∃a,w=.ref a/\(∃g,bR X.K d a g)/\R (CT X.K a) d)\/(∃a,w=.ref a/\(∃g,iy X.K d a g)/\R (CQ X.K a) d)\/∃m:Ì,w=.str m/\m.cps.all (·<128)=Â/\R (CS m) d):=by
  intro v ev b;rw[ev]at r1;split at b
  ·rename_i g j
   cases b;have r2:=r1.dr i;unfold jl at j;split at j
   ·rename_i O I
    cases j;rw[I]at r2;simp only[RA]at r2;obtain⟨a,n,rfl,C,u,B⟩:=r2;exact .inr (.inl ⟨a,rfl,⟨n,.inl (.inl u)⟩,k l c d _ r i (Et C u B)⟩)
   ·cases j
  ·obtain⟨a,rfl,h⟩:=lF i r1 b
   obtain⟨n,A,_⟩:=h l c d p.2 Frm.refl i (lE b);exact .inl ⟨a,rfl,⟨n,A⟩,k l c d _ r i (Bv h)⟩
 cases o:p.1 with
 |str x =>
  rw[o]at b r1;simp only at b;split at b
  ·rename_i F
   cases b;simp only[RA]at r1;exact .inr (.inr ⟨x,r1,F,k l c d _ r i Eu⟩)
  ·cases b
 |_=>rw[o]at b;exact q _ o b)
noncomputable def fY(i:Int):Bool:=ä i.natAbs.log2 60
noncomputable def dj(i:Int)(n:Nat):List AV:=(È n).map fun k=>.int (i+(k:Nat))
def yz(f:EF):IF:=fun b a=>(f b a).bind fun p=>match p.1 with
 |.int j=>if fY j=Â then À (⟨dj 0 j.toNat,[]⟩,p.2) else Á
 |_=>Á
def Co(f g:EF):IF:=fun a b=>(f a b).bind fun p=>(g a p.2).bind fun q=>match p.1,q.1 with
 |.int i,.int j=>if(fY i&&fY j)=Â then À (⟨dj i (j-i).toNat,[]⟩,q.2) else Á
 |_,_=>Á
theorem gU{i:Int}(h:fY i=Â):-(2^62)<=i/\i<2^62:=by
 have:=log2_lt h
 have e:(2:Nat)^(60+1)=2305843009213693952:=by decide
 rw[e]at this;lia
theorem vj[Ol]{i:Int}{n:Nat}:vL mg (Al i n) ⟨dj i n,[]⟩ P φ H where
 go:=fun l a r b k y f s g e=>by
  unfold dj at e;rw[zR]at e;obtain⟨c,q,p⟩:=zE.mp e;obtain⟨j,h⟩:=zB.mp q;rw[List.getElem_range]at h;subst h p;rw[Ā]at j;refine⟨j,fun w t d=>?_⟩;obtain⟨o,m⟩:=d;subst o;exact⟨l,Frm.refl,s,by simp only[RA];exact m⟩
 stop:=fun l a r b f s g=>by
  show n<=(dj i n).length;simp[dj]
theorem xI[Ol]{mg:Gm}{f:EF}{σ:St}{H:Hp}{Q:List V->Hp->Prop}{P:Pr}{φ:List Ç}{sl:Sl}{st:aa}(b:Os mg P H φ sl σ)(s:Sim mg P φ st H)
  (h:∃v st1,f sl st=À (v,st1)/\∀P1 φ1 H1 w,Frm P φ H P1 φ1 H1->Sim mg P1 φ1 st1 H1->RA mg P1 H1 φ1 v w->Q [w] H1):rA mg (fV f fF) σ H Q:=by
 obtain⟨v,st1,e,k⟩:=h;refine i7 b s ⟨[v],st1,by simp only[fV,fF,e,Å],fun P1 φ1 H1 d c a r1=>?_⟩;simp only[On]at r1;obtain⟨w,g,rfl,r,rfl⟩:=r1;exact k P1 φ1 H1 w c a r
theorem Fy[Ol]{mg:Gm}{f g:EF}{σ:St}{H:Hp}{Q:List V->Hp->Prop}{P:Pr}{φ:List Ç}{sl:Sl}{st:aa}(c:Os mg P H φ sl σ)(s:Sim mg P φ st H)
  (h:∃v st1 u st2,f sl st=À (v,st1)/\g sl st1=À (u,st2)/\∀P1 φ1 H1 w w',Frm P φ H P1 φ1 H1->Sim mg P1 φ1 st2 H1->RA mg P1 H1 φ1 v w->RA mg P1 H1 φ1 u w'->Q [w,w'] H1):rA mg (fV f (fV g fF)) σ H Q:=by
 obtain⟨v,st1,u,st2,e,j,k⟩:=h;refine i7 c s ⟨[v,u],st2,by simp only[fV,fF,e,j,Å],fun P1 φ1 H1 l i b r1=>?_⟩;simp only[On]at r1;obtain⟨w,m,rfl,r,w',a,rfl,d,rfl⟩:=r1;exact k P1 φ1 H1 w w' i b r d
theorem IL[Ol](n:Gl X "range")(m:X.mg "range"=Á)(o:QE X a f)(e:Ê [a] X.env=[(Ã,eval a X.env)]):QI X tg (.Call (.Name "range" p) [a] [] pos) (yz f) :=
 iT (xV n m (dw o fH (by rw[e];rfl)) e) fun A H R d=>by
  refine e7 d fun P z C B i s l=>?_
  obtain⟨D,g,u,k⟩:=l;obtain⟨q,v,b⟩:=zA u;refine xI i s ⟨q.1,q.2,v,fun x c y w r h r1=>?_⟩;split at b
  ·rename_i j t
   rw[t]at r1;split at b
   ·rename_i hb
    cases b;simp only[RA]at r1;subst r1;exact⟨j,rfl,(gU hb).1,(gU hb).2,k x c y _ r h vj⟩
   ·cases b
  ·cases b
theorem IK[Ol](y:Gl X "range")(x:X.mg "range"=Á)(z:QE X a f)(hb:QE X b g)(l:Ê [a,b] X.env=[(Ã,eval a X.env),(Ã,eval b X.env)])(c:Ê [b] X.env=[(Ã,eval b X.env)]) :
  QI X tg (.Call (.Name "range" p) [a,b] [] pos) (Co f g) :=
 iT (xU y x (dw z (dw hb fH (by rw[c];rfl)) (by rw[l,c])) l c) fun L H R h=>by
  refine e7 h fun P K O N u s v=>?_
  obtain⟨Q,o,D,k⟩:=v;obtain⟨q,G,F⟩:=zA D;obtain⟨r,E,d⟩:=zA F;refine Fy u s ⟨q.1,q.2,r.1,r.2,G,E,fun I e J w M A t r1 r2=>?_⟩;split at d
  ·rename_i i j C B
   rw[C]at r1;rw[B]at r2;split at d
   ·rename_i hb
    cases d;obtain⟨n,m⟩:=ŏ.mp hb;simp only[RA]at r1 r2;subst r1;subst r2;exact⟨i,j,rfl,⟨(gU n).1,(gU n).2,(gU m).1,(gU m).2⟩,k I e J _ A t vj⟩
   ·cases d
  ·cases d
def iZ(f g:EF):IF:=fun a b=>(f a b).bind fun p=>(g a p.2).bind fun q=>(i6 q.2 p.1).bind fun x=>(i6 q.2 q.1).bind fun y=>À (⟨(x.Om.zip y.Om).map fun z=>.tup [z.1,z.2],x.gd++y.gd⟩,q.2)
theorem vc[Ol]{mg:Gm}{P:Pr}{φ:List Ç}{st:aa}{H:Hp}{p:Ç}{x y:AV}{u w:V}(s:Sim mg P φ st H)(d:H p=Á)(rx:RA mg P H φ x u)(c:RA mg P H φ y w) :
  ∃P3,Frm P φ H P3 φ (ak H p (.tup [u,w]))/\Sim mg P3 φ st (ak H p (.tup [u,w]))/\RA mg P3 (ak H p (.tup [u,w])) φ (.tup [x,y]) (.ref p):=by
 obtain⟨a,b⟩:=oE (o:=.tup [u,w]) s d;refine⟨_,a,b,?_⟩;simp only[RA];exact⟨p,[u,w],rfl,.inr rfl,aB,aU (rx.frm a) (aU (c.frm a) bE)⟩
theorem FP[Ol]{x1:Nat}(hg:Gl X "zip")(hm:X.mg "zip"=Á)(ha:QE X a f)(hb:QE X b g)(V:Ê [a,b] X.env=[(Ã,eval a X.env),(Ã,eval b X.env)])(l:Ê [b] X.env=[(Ã,eval b X.env)]) :
  QI X (.Tuple elts x1 tpos) (.Call (.Name "zip" p) [a,b] [] pos) (iZ f g) :=
 iT (F9 hg hm (dw ha (dw hb fH (by rw[l];rfl)) (by rw[V,l])) V l) fun σ H R m=>by
  refine e7 m fun P φ sl st rs s q0=>?_
  obtain⟨iv,st',ef,k⟩:=q0;obtain⟨q,e1,e2⟩:=zA ef;obtain⟨r,e3,e4⟩:=zA e2;obtain⟨x,W,e6⟩:=zA e4;obtain⟨y,e7,e8⟩:=zA e6;cases e8;refine Fy rs s ⟨q.1,q.2,r.1,r.2,e1,e3,fun T j U w w' f1 o r1 r2=>?_⟩;obtain⟨a1,rfl,O⟩:=lF o r1 W;obtain⟨a2,rfl,N⟩:=lF o r2 e7;obtain⟨vs,K,_⟩:=O T j U r.2 Frm.refl o (lE W);obtain⟨us,J,_⟩:=N T j U r.2 Frm.refl o (lE e7);refine⟨a1,a2,rfl,⟨vs,K⟩,⟨us,J⟩,k T j U _ f1 o ⟨fun B c C d i t A n S F=>?_,fun B c C d A n S=>?_⟩⟩
  ·obtain⟨ga,Q⟩:=vy S
   obtain⟨e,I,M⟩:=O B c C d A n ga;obtain⟨h,G,L⟩:=N B c C d A n Q;rw[zR]at F;obtain⟨z,ez,F⟩:=zE.mp F;subst F;obtain⟨hx,hy⟩:=ë.mp ez;obtain⟨u1,Z,b1⟩:=M.get hx;obtain⟨u2,Y,b2⟩:=L.get hy;refine⟨⟨e,h,u1,u2,I,G,Z,Y⟩,fun v H3 m=>?_⟩;obtain⟨pp,u,w,E,D,hp,hH,hv⟩:=m;have E:=E e I;have D:=D h G;rw[Z]at E;rw[Y]at D;cases E;cases D;subst hH;subst hv;exact vc n hp b1 b2
  ·obtain⟨ga,Q⟩:=vy S
   obtain⟨e,I,M⟩:=O B c C d A n ga;obtain⟨h,G,L⟩:=N B c C d A n Q;refine⟨e,h,I,G,?_⟩;rw[<- M.length,<- L.length];simp only[zH,Ă];lia
noncomputable def fq(n0:Nat)(xs:List AV):List AV:=(xs.zipIdx n0).map fun z=>.tup [.int ((z.2:Nat):Int),z.1]
theorem tx[Ol]{mg:Gm}{P:Pr}{φ:List Ç}{H:Hp}{K:ã}{a:Ç}{b:Iv}{n0:Nat}(h:∀P2 φ2 H2 st2,Frm P φ H P2 φ2 H2->Sim mg P2 φ2 st2 H2->cw b.gd st2=Â->∃vs,bR K H2 a vs/\On mg P2 H2 φ2 b.Om vs):vL mg (Am K a n0) ⟨fq n0 b.Om,b.gd⟩ P φ H where
 go:=fun P2 φ2 H2 st2 i x f s g e=>by
  obtain⟨vs,c,d⟩:=h P2 φ2 H2 st2 f s g;unfold fq at e;rw[zR,ź]at e;cases hz:b.Om[i]? with
  |none=>rw[hz]at e;cases e
  |some y =>
   rw[hz]at e;cases e;obtain⟨v,k,r1⟩:=d.get hz;refine⟨⟨vs,v,c,k⟩,fun w q j=>?_⟩;obtain⟨p,u,l,n,o,m⟩:=j
   have:=l vs c
   rw[k]at this;cases this;subst o;subst m;exact vc s n (by simp only[RA]) r1
 stop:=fun P2 φ2 H2 st2 f s g=>by
  obtain⟨vs,c,d⟩:=h P2 φ2 H2 st2 f s g;exact⟨vs,c,by rw[<- d.length];simp[fq]⟩
def KK(f:EF):IF:=fun c b=>(f c b).bind fun p=>(i6 p.2 p.1).map fun a=>(⟨fq 0 a.Om,a.gd⟩,p.2)
theorem IM[Ol]{m:Nat}(x:Gl X "enumerate")(v:X.mg "enumerate"=Á)(y:QE X a f)(g:Ê [a] X.env=[(Ã,eval a X.env)]) :
  QI X (.Tuple elts m tpos) (.Call (.Name "enumerate" p) [a] [] pos) (KK f) :=
 iT (DN x v (dw y fH (by rw[g];rfl)) g) fun F H R e=>by
  refine e7 e fun P E I G r s t=>?_
  obtain⟨J,o,A,k⟩:=t;obtain⟨q,D,C⟩:=zA A;obtain⟨u,i,B⟩:=zE.mp C;cases B;refine xI r s ⟨q.1,q.2,D,fun j b l w z c r1=>?_⟩;obtain⟨a1,rfl,h⟩:=lF c r1 i;obtain⟨n,d,_⟩:=h j b l q.2 Frm.refl c (lE i);exact⟨a1,rfl,⟨n,d⟩,k j b l _ z c (tx h)⟩
end
end R
namespace L2
open PySem PySem.Spec PyProof.Rows
section
variable{prog:Ò}{w:Û}{A:Ď}{E:Ä->É->Prop}{s:É}
theorem zn(l:Ç)(items:Array Ä)(n:Nat)(dct:Option Ç)(sl:Array (Option Ä))(t:Tok)(i:Int)(hf:Ļ i=Â) :
  Meets (p!.«enumerate.__new__» ⟨[.type "enumerate",.ref l],[("start",.int i t)]⟩) (fun _ R s=>s.heap.get? l=À { cls:=.type "list",dict:=dct,data:=.seq items n,slots:=sl } /\
   R (.ok (.ret (.ref (s.heap.push { cls:=.type "list_iterator",data:=.fields #[.ref l,.int 0 0] }).objs.size)))
    { s with heap:=(s.heap.push { cls:=.type "list_iterator",data:=.fields #[.ref l,.int 0 0] }).push { cls:=.type "enumerate",data:=.fields #[.none,.bool Ã,.ref s.heap.objs.size,s? i,.none,.none] } }):=Meets.of_wp fun b w A R s h=>by
  obtain⟨k,g,d,f,j⟩:=s;obtain⟨a,h⟩:=h;have e:=sub_enumerate;have hL:Heap.IsList (Shared.heap ⟨k,g,d,f,j⟩) l items:=⟨_,a,rfl,n,rfl⟩
  wp_walk using į a
  refine wpAny_stack_any fun m=>yG ?_
  split
  ·rename_i c _ _ _ _ _
   cases (c==F? "enumerate")
   ·wp_walk using į a,Ć hL
    exact⟨_,rfl,h⟩
   ·wp_walk using į a,Ć hL
    exact⟨_,rfl,h⟩
  ·wp_walk using į a,Ć hL
   exact⟨_,rfl,h⟩
theorem wO{l:Ç}{j:Array Ä}{t:Tok}{i:Int}{Q:Ä->É->Prop}(L:Ļ i=Â)(hL:s.heap.IsList l j)
  (h:∀h',IsEnum h' (s.heap.objs.size+1) s.heap.objs.size i .none->h'.IsListIter s.heap.objs.size l 0->(∀b o,s.heap.get? b=À o->h'.get? b=À o)->Q (.ref (s.heap.objs.size+1)) { s with heap:=h' }) :
  Í (model prog w) A (call (.type "enumerate") [.ref l] [("start",.int i t)]) Q E s:=by
 obtain⟨⟨V,C,U,I⟩,K,q,n,hd⟩:=hL;dsimp only at q hd;subst q hd;have g:=F.called_enumerate;obtain⟨c,O,G⟩:=g.mro;have y:=g.made;have D:=g.sub;have T:=g.notType;have S:=g.canCreate;have M:=sf (.ref l) (.int i t);have B:=re (.ref l) (.int i t);refine r? (codeAny_of_tree ?_);show Í _ _ (callAny (.type "enumerate") _) _ _ _;refine yG ⟨Code.quiet_builtin _ (by decide +kernel),ϑ F.entry_type_call ?_⟩;rw[Around.under_plain (weight_type_call_type "enumerate" _ _) (units_type_call_type "enumerate" _ _)]
 repeat (any_goals (first | assumption | wp_step))
 have hz:(s.heap.push { cls:=.type "list_iterator",data:=.fields #[.ref l,.int 0 0] }).objs.size=s.heap.objs.size+1:=Ħ ..;have z:=zY (s.heap.push { cls:=.type "list_iterator",data:=.fields #[.ref l,.int 0 0] }) (o:={ cls:=.type "enumerate",data:=.fields #[.none,.bool Ã,.ref s.heap.objs.size,s? i,.none,.none] }) rfl;rw[hz]at z;refine ŝ (R! (R:=wants (fun f d=>d.TypeIs f "enumerate"/\Q f d) E) g.plain F.entry_enumerate_new (wpAny_of_eq B (zn l j n C I t i L prog w A.in1 _ s ⟨K,?_⟩))) fun r d u=>?_
 ·show _/\_
  rw[hz];exact⟨⟨_,z,rfl⟩,h _ z ⟨_,zG _ (zY _ rfl),rfl,rfl⟩ fun b o x=>zG _ (zG _ x)⟩
 ·cases r with
  |error e=>exact u
  |ok fl =>
   cases fl with
   |ret f =>
    obtain⟨H,v⟩:=u;have J:=g.init.lookup;have N:=g.init.bind f
    repeat (any_goals (first | assumption | wp_step))
    refine ŝ (R! (R:=wants (fun r k=>r=.none/\Q f k) E) g.init.plain F.entry_object_init (g.init.check _ _ _ _ _ _ _ _ H (qd f (.ref l) (.int i t)) (wF g.init.lookup g.made dC prog w A.in1 _ d ⟨H,rfl,v⟩))) fun p k a=>?_
    cases p with
    |error e=>exact a
    |ok m =>
     cases m with
     |ret r =>
      obtain⟨rfl,P⟩:=a
      repeat (any_goals (first | assumption | wp_step))
     |_=>exact a.elim
   |_=>exact u.elim
end
end L2
namespace R
open PySem PySem.Spec PyProof.Rows L2
open DD (PE_imp PT_imp PA_imp PS_imp PSs_imp OpR_imp PW_imp PG_imp pyOk)
section
variable{X:Cx}{tg e a b:Î}{es:List Î}{pos p kp:ģ}
theorem AY[Ol]{k:Nat}(B:Gl X "enumerate")(x:X.mg "enumerate"=Á)(C:PA X [a] ta)(hb:PE X b tb)(e:Ê [a] X.env=[(Ã,eval a X.env)]) :
  PI X (.Tuple elts k tpos) (.Call (.Name "enumerate" p) [a] [⟨À "start",b,kp⟩] pos) (fun σ H R=>ta σ H fun vs H1=>tb σ H1 fun y H2=>∃l n0,vs=[.ref l]/\y=.int ((n0:Nat):Int)/\n0<=1000000/\(∃xs,bR X.K H2 l xs)/\R (Am X.K l n0) H2):=by
 intro i s σ H R I h;refine ÿ (dS I B x qQ (tY (by rw[e];rfl) (by rfl) ?_));have g:=C pos i s σ H _ I h;rw[e]at g ⊢;refine X9 (by rfl) (Ay g fun J m d=>?_);obtain⟨vs,H1,G,r1,o⟩:=d;refine X8 (aF (hb i m σ H1 _ G o) fun u c ⟨y,H2,j,r2,l,n0,F,E,L,⟨xs,w⟩,q⟩=>X7 ?_);subst F;subst E;obtain⟨t,rfl⟩:=r2;cases r1 with
 |cons r n =>
  cases n;cases r;obtain⟨M,K,v,_⟩:=j.list w;show Í _ _ (call (.type "enumerate") [.ref l] [("start",.int ((n0:Nat):Int) t)]) _ _ _;refine wO (s:=c) ?_ v.isList fun D f A z=>?_
  ·unfold Ļ
   simp only[zC,yC];lia
  refine ϵ (s:={ c with heap:=D }) f ?_;exact tN (t':=c.toks) (n0:=n0) j f A z q
def wH(f g:EF):IF:=fun a c=>(f a c).bind fun p=>(g a p.2).bind fun q=>match q.1 with
 |.int i=>if(decide (0<=i)&&ä i.natAbs 1000000)=Â then(i6 q.2 p.1).map fun b=>(⟨fq i.toNat b.Om,b.gd⟩,q.2) else Á
 |_=>Á
theorem FQ[Ol]{A:Nat}(J:Gl X "enumerate")(I:X.mg "enumerate"=Á)(L:QE X a f)(hb:QE X b g)(o:Ê [a] X.env=[(Ã,eval a X.env)]) :
  QI X (.Tuple elts A tpos) (.Call (.Name "enumerate" p) [a] [⟨À "start",b,kp⟩] pos) (wH f g) :=
 iT (AY J I (dw L fH (by rw[o];rfl)) hb o) fun W H R l=>by
  refine e7 l fun P V D Y n s F=>?_
  obtain⟨Z,C,N,k⟩:=F;obtain⟨q,T,S⟩:=zA N;obtain⟨r,Q,d⟩:=zA S;refine xI n s ⟨q.1,q.2,T,fun U e H1 w v E r1=>⟨U,e,D,q.2,n.frm v,E,r.1,r.2,Q,fun y c z w2 u h r2=>?_⟩⟩;split at d
  ·rename_i i M
   rw[M]at r2;simp only[RA]at r2;subst r2;split at d
   ·rename_i m
    simp only[zC,yC]at m;have K:=zS m.2;obtain⟨G,x,O⟩:=zE.mp d;cases O;obtain⟨a1,rfl,t⟩:=lF h (r1.frm u) x;obtain⟨B,j,_⟩:=t y c z r.2 Frm.refl h (lE x);exact⟨a1,i.toNat,rfl,by rw[Ŗ m.1],by lia,⟨B,j⟩,k y c z _ (v.trans u) h (tx t)⟩
   ·cases d
  ·cases d
end
mutual
noncomputable def rf:AV->Bool
 |.ref _=>Ã
 |.tup xs=>rfs xs
 |_=>Â
noncomputable def rfs:List AV->Bool
 |[]=>Â
 |x::xs=>rf x&&rfs xs
end
mutual
theorem RA.rf:∀{t:AV}{v:V},R.rf t=Â->RA mg P H φ t v->RA mg P H ψ t v
 |.non,_,_,h=>by simp only[RA]at h ⊢;exact h
 |.bl _,_,_,h=>by simp only[RA]at h ⊢;exact h
 |.int _,_,_,h=>by simp only[RA]at h ⊢;exact h
 |.str _,_,_,h=>by simp only[RA]at h ⊢;exact h
 |.fz _,_,_,h=>by simp only[RA]at h ⊢;exact h
 |.ref k,_,e,_=>by simp only[R.rf]at e;cases e
 |.tup xs,_,e,h=>by
  simp only[RA,R.rf]at h e ⊢;obtain⟨a,vs,r,p,e',q⟩:=h;exact⟨a,vs,r,p,e',On.rf e q⟩
theorem On.rf:∀{ts:List AV}{vs:List V},R.rfs ts=Â->On mg P H φ ts vs->On mg P H ψ ts vs
 |[],_,_,h=>by simp only[On]at h ⊢;exact h
 |t::ts,_,e,h=>by
  simp only[On,R.rfs,zC]at h e ⊢;obtain⟨v,ws,e',r,q⟩:=h;exact⟨v,ws,e',RA.rf e.1 r,On.rf e.2 q⟩
end
abbrev NF:=Sl->aa->Option (List AV×aa)
def rN[Ol](mg:Gm)(f:NF):TE:=fun k H Q=>∃P d j i,Os mg P H d j k/\Sim mg P d i H/\∃g b,f j i=À (g,b) /\
 ∀e a c p h,Frm P d H e a c->Sim mg e a b c->c p=Á->On mg e c a g h->Q (.ref p) (ak c p (.lst h))
def QN[Ol](X:Cx)(e:Î)(f:NF):Prop:=PE X e (rN X.gm f)
def Nf(f:NF):EF:=fun b a=>(f b a).bind fun p=>if rfs p.1=Â then À (.fz p.1,p.2) else Á
def Nd(f:NF):EF:=fun b a=>(f b a).bind fun p=>À (.ref p.2.length,p.2++[.lst p.1])
theorem Hr[Ol]{mg:Gm}{P:Pr}{φ:List Ç}{st:aa}{H:Hp}{p:Ç}{xs:List AV}{vs:List V}(s:Sim mg P φ st H)(d:H p=Á)(c:rfs xs=Â)(r:On mg P H φ xs vs) :
  ∃P3,Frm P φ H P3 φ (ak H p (.lst vs))/\Sim mg P3 φ st (ak H p (.lst vs))/\RA mg P3 (ak H p (.lst vs)) φ (.fz xs) (.ref p):=by
 obtain⟨a,b⟩:=oE (o:=.lst vs) s d;refine⟨_,a,b,?_⟩;simp only[RA];exact⟨p,vs,rfl,.inl ⟨.inr rfl,.inl aB⟩,On.rf c (r.frm a)⟩
theorem GN[Ol]{mg:Gm}{P:Pr}{φ:List Ç}{st:aa}{H:Hp}{p:Ç}{xs:List AV}{vs:List V}(s:Sim mg P φ st H)(b:H p=Á)(r:On mg P H φ xs vs) :
  Frm P φ H P (φ++[p]) (ak H p (.lst vs))/\Sim mg P (φ++[p]) (st++[.lst xs]) (ak H p (.lst vs))/\RA mg P (ak H p (.lst vs)) (φ++[p]) (.ref st.length) (.ref p):=by
 have ne:∀a,H a≠Á->a≠p:=fun a h e=>h (by rw[e];exact b)
 obtain⟨f,d⟩:=nZ (c:=.lst xs) (o:=.lst vs) s b ⟨fun z=>s.dom p z b,vs,aB,r.mono (fun a h=>⟨h,ad (ne a (s.dom a h))⟩) fun k a e=>by rw[zN (zB.mp e).1];exact e⟩;refine⟨f,d,?_⟩;simp only[RA];exact⟨p,by rw[<- s.len];simp,rfl⟩
section
variable{X:Cx}{e a b:Î}{es:List Î}{pos:ģ}{f:NF}
noncomputable def cO(n:Nat):Bool:=ä n 1000000
theorem jQ{n:Nat}(h:cO n=Â):n<=Ë:=z5 (zS h) dC
def KA(g:AF):NF:=fun b a=>(g b a).bind fun p=>if cO p.1.length=Â then À p else Á
theorem Dr[Ol](h:QA X es g):QN X (.List es pos) (KA g) :=
 PE_imp (xW h) fun w H Q c=>by
  refine e7 c fun P v y x j s l=>?_
  obtain⟨e,b,o,k⟩:=l;obtain⟨q,r,d⟩:=zA o;split at d
  ·rename_i hz
   cases d;exact i7 j s ⟨e,b,r,fun t a u f n i r1=>⟨by rw[<- r1.length];exact jQ hz,fun p m=>k t a u p f n i m r1⟩⟩
  ·cases d
def p7(f g:EF):NF:=fun c d=>(f c d).bind fun p=>(g c p.2).bind fun q=>(bI q.2 p.1).bind fun b=>(bI q.2 q.1).bind fun a=>if cO (b.length+a.length)=Â then À (b++a,q.2) else Á
theorem FO[Ol]{f g:EF}(D:QE X a f)(hb:QE X b g):QN X (.BinOp a .Add b pos) (p7 f g) :=
 PE_imp (wd DY D hb) fun U H Q h=>by
  refine e7 h fun P T z W j s B=>?_
  obtain⟨V,v,E,k⟩:=B;obtain⟨q,L,K⟩:=zA E;obtain⟨r,J,I⟩:=zA K;obtain⟨x,G,F⟩:=zA I;obtain⟨y,e7,i⟩:=zA F;split at i
  ·rename_i hz
   cases i;refine i7 j s ⟨q.1,q.2,L,fun R d Y w o A r1=>⟨R,d,z,q.2,j.frm o,A,r.1,r.2,J,fun O c S w2 n e r2=>?_⟩⟩;obtain⟨a1,t,rfl,N,m⟩:=(r1.frm n).ls e G;obtain⟨a2,u,rfl,M,l⟩:=r2.ls e e7;exact⟨a1,a2,t,u,rfl,rfl,N,M,by rw[<- m.length,<- l.length];exact jQ hz,fun p C=>k O c S p _ (o.trans n) e C (m.app l)⟩
  ·cases i
def wm(g:AF)(f:EF):NF:=fun a b=>(g a b).bind fun p=>(f a p.2).bind fun q=>match q.1 with
 |.int k=>if(fY k&&cO (p.1.length*k.toNat)&&cO p.1.length)=Â then À ((Æ k.toNat p.1).flatten,q.2) else Á
 |_=>Á
theorem On.rep(h:On mg P H φ xs vs):∀k:Nat,On mg P H φ (Æ k xs).flatten (Æ k vs).flatten
 |0=>bE
 |k+1=>by rw[ì,ì,ď,ď];exact h.app (On.rep h k)
theorem FJ[Ol]{g:AF}{f:EF}{a:ģ}(h:QA X es g)(hb:QE X b f):QN X (.BinOp (.List es a) .Mult b pos) (wm g f) :=
 PE_imp (wd Gu (xW h) hb) fun T H Q n=>by
  refine e7 n fun P S B V x s F=>?_
  obtain⟨U,A,L,k⟩:=F;obtain⟨q,O,N⟩:=zA L;obtain⟨r,M,c⟩:=zA N;split at c
  ·rename_i j K
   split at c
   ·rename_i d
    cases c;simp only[zC]at d;refine i7 x s ⟨q.1,q.2,O,fun Y i Z l y E r1=>⟨by rw[<- r1.length];exact jQ d.2,fun p I=>?_⟩⟩
    obtain⟨v,D⟩:=oE (o:=.lst l) E I;refine⟨_,i,B,q.2,(x.frm y).frm v,D,r.1,r.2,M,fun R e z w u C m=>?_⟩;rw[K]at m;simp only[RA]at m;subst m;have J:z p=À (.lst l):=by rw[(u.ext p (.inr rfl)).2,aB]
    have W:=gU d.1.1;refine⟨p,j,l,rfl,rfl,J,by lia,by lia,by rw[<- r1.length];exact jQ d.1.2,fun G t=>?_⟩;exact k R e z G _ ((y.trans v).trans u) C t (On.rep ((r1.frm v).frm u) _)
   ·cases c
  ·cases c
abbrev OF:=Sl->aa->Option (Option Int×aa)
def rO[Ol](mg:Gm)(f:OF):TO:=fun d H Q=>∃P a c b,Os mg P H a c d/\Sim mg P a b H/\KG mg RB P a H (f c b) Q
def QO[Ol](X:Cx)(e:Option Î)(f:OF):Prop:=PO X e (rO X.gm f)
def Gz:OF:=fun _ a=>À (Á,a)
def mQ(f:EF):OF:=fun b a=>(f b a).bind fun p=>match p.1 with
 |.int i=>À (À i,p.2)
 |_=>Á
theorem vI(h:PO X eo t)(i:∀σ H Q,t' σ H Q->t σ H Q):PO X eo t':=fun b s σ H Q I a=>h b s σ H Q I (i σ H Q a)
theorem Dq[Ol]:QO X Á Gz:=vI DK fun c H Q a=>e7 a fun P b e d f s k=>k.pure s rfl
theorem Dp[Ol]{f:EF}(h:QE X e f):QO X (À e) (mQ f):=vI (DJ h) fun y H Q g=>e7 g fun P w A z p s k=>i7 p s (by
 obtain⟨a,d,t,q⟩:=k.bind (Ra:=RA);refine⟨a,d,t,fun u b v c r o r1=>?_⟩;obtain⟨C,l,m,x,B,n,r2,j⟩:=q u b v c r o r1;cases x<;>first|exact j.no.elim|skip
 rename_i i;simp only[RA]at r2;exact⟨i,r2,j.pure n rfl⟩)
def cut{α:Type}(xs:List α)(a b:Option Int):List α:=(xs.drop (HT.Ov xs.length 0 a)).take (HT.Ov xs.length xs.length b-HT.Ov xs.length 0 a)
theorem On.cut(h:On mg P H φ xs vs)(a b:Option Int):On mg P H φ (R.cut xs a b) (qr vs a b):=by
 unfold R.cut qr;rw[h.length];exact(h.drop _).take _
theorem LH[Ol]{mg:Gm}{f:EF}{l h:OF}{σ:St}{H:Hp}{P:Pr}{φ:List Ç}{sl:Sl}{st:aa}(d:Os mg P H φ sl σ)(s:Sim mg P φ st H){r:V->Option Int->Option Int->Hp->VK->Prop}{Q:VK}
  (k:∃v st1 lo st2 hi st3,f sl st=À (v,st1)/\l sl st1=À (lo,st2)/\h sl st2=À (hi,st3)/\∀P' φ' H' w,Frm P φ H P' φ' H'->Sim mg P' φ' st3 H'->RA mg P' H' φ' v w->r w lo hi H' Q):Kn r (rE mg f) (rO mg l) (rO mg h) σ H Q:=by
 obtain⟨v,st1,lo,st2,hi,st3,x,u,t,k⟩:=k;refine i7 d s ⟨v,st1,x,fun A c D w g n r1=>⟨A,c,sl,st1,d.frm g,n,lo,st2,u,fun z b C p e m r2=>⟨z,b,sl,st2,(d.frm g).frm e,m,hi,st3,t,fun y a B q i j o=>?_⟩⟩⟩;cases r2;cases o;exact k y a B w ((g.trans e).trans i) j ((r1.frm e).frm i)
def mS(f:EF)(l h:OF):NF:=fun a c=>(f a c).bind fun p=>(l a p.2).bind fun q=>(h a q.2).bind fun r=>(bI r.2 p.1).map fun b=>(cut b q.1 r.1,r.2)
theorem IJ[Ol]{f:EF}{l h:OF}{e g:Option Î}{u:ģ}(z:QE X a f)(x:QO X e l)(y:QO X g h):QN X (.Subscript a (.Slice e g Á u) pos) (mS f l h) :=
 PE_imp (A4 Dd z x y) fun O H Q c=>by
  refine e7 c fun P N U T m s o=>?_
  obtain⟨S,j,B,k⟩:=o;obtain⟨q,J,I⟩:=zA B;obtain⟨r,G,F⟩:=zA I;obtain⟨t,E,D⟩:=zA F;obtain⟨R,e7,C⟩:=zE.mp D;cases C;refine LH m s ⟨q.1,q.2,r.1,r.2,t.1,t.2,J,G,E,fun L b M w A d r1=>?_⟩;obtain⟨a1,i,rfl,K,n⟩:=r1.ls d e7;exact⟨a1,i,rfl,K,fun p v=>k L b M p _ A d v (n.cut _ _)⟩
def p6(f:EF):NF:=fun c b=>(f c b).bind fun p=>match bI p.2 p.1 with
 |some a=>À (a,p.2)
 |none=>(jl p.2 p.1).map fun a=>(a,p.2)
theorem FN[Ol]{f:EF}{p pos:ģ}(z:Gl X "list")(y:X.mg "list"=Á)(A:QE X a f)(m:Ê [a] X.env=[(Ã,eval a X.env)]):QN X (.Call (.Name "list" p) [a] [] pos) (p6 f) :=
 PE_imp (qD tW z y kJ (dw A fH (by rw[m];rfl)) (he:=by rw[m];rfl) (hpl:=rfl)) fun F H Q g=>by
  refine e7 g fun P E J I v s x=>?_
  obtain⟨G,u,B,k⟩:=x;obtain⟨q,D,j⟩:=zA B;refine xI v s ⟨q.1,q.2,D,fun o b r w n d r1=>?_⟩;split at j
  ·rename_i t i
   cases j;obtain⟨a1,c,rfl,l,e⟩:=r1.ls d i;exact⟨a1,c,rfl,.inl l,fun p h=>k o b r p c n d h e⟩
  ·obtain⟨t,i,C⟩:=zE.mp j
   cases C;obtain⟨a1,c,rfl,l,e⟩:=r1.tp d i;exact⟨a1,c,rfl,.inr (.inl (.inl l)),fun p h=>k o b r p c n d h e⟩
end
abbrev GF:=AV->Sl->aa->Option (Sl×aa)
abbrev uo:=List AV->Sl->aa->Option (Sl×aa)
def KS[Ol](mg:Gm)(P:Pr)(φ:List Ç)(H:Hp)(r:Option (Sl×aa))(Q:St->Hp->Prop):Prop :=
 ∃d c,r=À (d,c)/\∀f a e b,Frm P φ H f a e->Sim mg f a c e->Os mg f e a d b->Q b e
def rG[Ol](mg:Gm)(f:GF):TG:=fun v d H Q=>∃P a c b x,Os mg P H a c d/\Sim mg P a b H/\RA mg P H a x v/\KS mg P a H (f x c b) Q
def MO[Ol](mg:Gm)(f:uo):uk:=fun g e H Q=>∃P a d c b,Os mg P H a d e/\Sim mg P a c H/\On mg P H a b g/\KS mg P a H (f b d c) Q
def QG[Ol](X:Cx)(a:Î)(f:GF):Prop:=PG X a (rG X.gm f)
def Ai[Ol](X:Cx)(a:List Î)(f:uo):Prop:=qX X a (MO X.gm f)
def ze(i:Nat):GF:=fun x b a=>À (b.set i (À x),a)
def Hl:uo:=fun a c b=>match a with
 |[]=>À (c,b)
 |_=>Á
def Ho(f:GF)(g:uo):uo:=fun a c b=>match a with
 |x::a=>(f x c b).bind fun p=>g a p.1 p.2
 |[]=>Á
def zd(n:Nat)(g:uo):GF:=fun x c b=>match jl b x with
 |some a=>if a.length=n then g a c b else Á
 |none=>match bI b x with
  |some a=>if a.length=n then g a c b else Á
  |none=>Á
theorem ul(h:qX X tgs t)(i:∀v σ H Q,t' v σ H Q->t v σ H Q):qX X tgs t':=fun c s σ H v u Q I a b=>h c s σ H v u Q I a (i v σ H Q b)
section
variable{X:Cx}{e a b:Î}{es:List Î}{pos:ģ}
theorem KS.pure[Ol]{mg:Gm}{P:Pr}{φ:List Ç}{H:Hp}{sl:Sl}{st:aa}{σ:St}{Q:St->Hp->Prop}(h:KS mg P φ H (À (sl,st)) Q)(s:Sim mg P φ st H)(r:Os mg P H φ sl σ):Q σ H:=by
 obtain⟨_,_,e,q⟩:=h;cases e;exact q P φ H σ Frm.refl s r
theorem Dv[Ol]{i:Nat}(hN:X.N.Nodup)(c:X.N[i]?=À x)(b:Loc X.env.scope x)(d:X.fn x=Â\/X.env.scope.names.lookup x=À .local):QG X (.Name x pos) (ze i) :=
 PG_imp (DS hN c b d) fun v f H Q ⟨P,e,h,g,x,a,s,rx,k⟩=>k.pure s (a.set rx i)
theorem Du[Ol]:Ai X [] Hl:=ul DQ fun v f H Q a=>by
 obtain⟨P,d,h,g,b,c,s,rx,k⟩:=a;cases b with
 |nil=>simp only[On]at rx;exact⟨rx,k.pure s c⟩
 |cons _ _=>obtain⟨_,_,e,_⟩:=k;cases e
theorem AO[Ol](E:QG X e f)(D:Ai X es g)(C:(â (e::es) X.env).map (·.2)=assign e X.env::(â es X.env).map (·.2)):Ai X (e::es) (Ho f g) :=
 ul (AZ E D C) fun v M H Q m=>by
  obtain⟨P,o,y,u,d,B,s,rx,k⟩:=m;cases d with
  |nil=>obtain⟨_,_,e,_⟩:=k;cases e
  |cons x d =>
   simp only[On]at rx;obtain⟨w,t,rfl,r1,r2⟩:=rx;obtain⟨i,h,e,q⟩:=k;obtain⟨p,I,G⟩:=zA e;exact⟨w,t,rfl,P,o,y,u,x,B,s,r1,p.1,p.2,I,fun K b N r n A l=>⟨K,b,p.1,p.2,d,l,A,r2.frm n,i,h,G,fun J a L c F z j=>q J a L c (n.trans F) z j⟩⟩
theorem IX(h:PG X tg t)(h':PG X tg t'):PG X tg (fun v σ H Q=>t v σ H Q\/t' v σ H Q):=fun a s σ H v u Q I r q=>by
 rcases q with q|q
 ·exact h a s σ H v u Q I r q
 ·exact h' a s σ H v u Q I r q
theorem FR[Ol]{k n:Nat}(w:X.calm=Â)(h:Ai X es g)(u:(â es X.env).length=n)(d:(â es X.env).findIdx? (·.1)=Á):QG X (.Tuple es k pos) (zd n g) :=
 PG_imp (IX (Gb (k:=k) w h u d) (DR (k:=k) w h u d)) fun v z H Q j=>by
  obtain⟨P,o,r,p,x,t,s,rx,y⟩:=j;obtain⟨b,a,e,q⟩:=y;unfold zd at e;split at e
  ·rename_i f ex
   split at e
   ·rename_i l
    obtain⟨a1,i,rfl,m,c⟩:=rx.tp s ex;exact .inl ⟨a1,i,rfl,.inl (.inl m),by rw[<- c.length];exact l,P,o,r,p,f,t,s,c,b,a,e,q⟩
   ·cases e
  ·split at e
   ·rename_i f ex
    split at e
    ·rename_i l
     obtain⟨a1,i,rfl,m,c⟩:=rx.ls s ex;exact .inr ⟨a1,i,rfl,m,by rw[<- c.length];exact l,P,o,r,p,f,t,s,c,b,a,e,q⟩
    ·cases e
   ·cases e
noncomputable def nY{b:Type}[DecidableEq b](Oi:List (b×AV))(k:b)(v:AV):List (b×AV) :=
 if(Oi.any fun a=>decide (a.1=k))=Â then Oi.map fun a=>if a.1=k then(a.1,v) else a else Oi++[(k,v)]
theorem sF{P:Pr}{H:Hp}{φ:List Ç}{d:Type}[DecidableEq d]{Oi:List (d×AV)}{ws:List (d×V)}{k:d}{v:AV}{w:V}(h:KVR mg P H φ Oi ws)(r:RA mg P H φ v w):KVR mg P H φ (nY Oi k v) (fA ws k w):=by
 have b:(Oi.any fun f=>decide (f.1=k))=(ws.any fun f=>decide (f.1=k)):=by
  have g:∀{j:Type} (l:List (d×j)),(l.any fun f=>decide (f.1=k))=((l.map (·.1)).any fun x=>decide (x=k)):=fun l=>by rw[ϡ];rfl
  rw[g Oi,g ws,h.1]
 unfold nY fA;rw[b];split
 ·clear b
  rename_i m;clear m
  induction Oi generalizing ws with
  |nil =>
   have:ws=[]:=by simpa using h.1.symm
   subst this;exact⟨rfl,bE⟩
  |cons p Oi c =>
   cases ws with
   |nil=>exact absurd h.1 (by simp)
   |cons q ws =>
    obtain⟨g,i⟩:=h;rw[zO,zO]at g i;injection g with h3 h4;simp only[On]at i;obtain⟨u,t,s,o,n⟩:=i;injection s with h8 h9;subst h8;subst h9;have c:=c (ws:=ws) ⟨h4,n⟩;have a:p.1=q.1:=h3;by_cases e:q.1=k
    ·rw[zO,zO,yI e,yI (a.trans e)]
     exact⟨by rw[zO,zO,c.1,a],aU r c.2⟩
    ·rw[zO,zO,yH e,yH (fun z=>e (a.symm.trans z))]
     exact⟨by rw[zO,zO,c.1,a],aU o c.2⟩
 ·refine⟨by rw[ù,ù,h.1];rfl,?_⟩
  rw[ù,ù];exact h.2.app (aU r bE)
def kn(st:aa)(o i v:AV):Option aa:=match o with
 |.ref k=>match st[k]? with
  |some (.lst b)=>match i with
   |.int j=>(mW b.length j).map fun n=>st.set k (.lst (b.set n v))
   |_=>Á
  |some (.dK a)=>(kC i).bind fun x=>if cO a.length=Â then À (st.set k (.dK (nY a x v))) else Á
  |some (.dT a)=>match i with
   |.tup is=>(bn kC is).bind fun x=>if cO a.length=Â then À (st.set k (.dT (nY a x v))) else Á
   |_=>Á
  |_=>Á
 |_=>Á
theorem Cb[Ol](hu:X.A.units+64<ř):wV X (fun o i v H Q=>∃P φ st x y z st',Sim X.gm P φ st H/\RA X.gm P H φ x o/\RA X.gm P H φ y i/\RA X.gm P H φ z v/\kn st x y z=À st'/\∀P' φ' H',Frm P φ H P' φ' H'->Sim X.gm P' φ' st' H'->Q H'):=by
 rintro Z s O H o i v U V u Q I G J F ⟨P,φ,st,x,y,z,st',q,rx,w,E,e,k⟩;unfold kn at e;cases x with
 |ref j =>
  simp only[RA]at rx;obtain⟨a,r,rfl⟩:=rx;dsimp only at e;split at e
  ·rename_i R A
   obtain⟨N,d,c⟩:=q.at A;rw[r]at d;cases d;obtain⟨f,M,p,l⟩:=c;cases y with
   |int n =>
    simp only[RA]at w;subst w;obtain⟨m,C,g⟩:=zE.mp e;subst g;have hp:P a->False:=f;obtain⟨B,t⟩:=iR (c:=.lst (R.set m z)) (o:=.lst (M.set m v)) q r f ⟨f,_,aB,(l.set E m).mono (fun b h=>⟨h,ad fun e=>f (e▸h)⟩) fun _ _ z=>z⟩ (fun _ _ z=>by rw[p]at z;cases z);exact AE Z s O H _ _ v U V u Q I G J F ⟨a,M,n,m,rfl,rfl,p,by rw[<- l.length];exact C,k P φ _ B t⟩
   |_=>cases e
  ·rename_i K A
   obtain⟨N,d,c⟩:=q.at A;rw[r]at d;cases d;obtain⟨f,D,p,l⟩:=c;obtain⟨x,C,g⟩:=zA e;split at g
   ·rename_i hz
    cases g
    have:=n9 C w
    subst this;cases G;obtain⟨B,t⟩:=iR (c:=.dK (nY K x z)) (o:=.dK (fA D x v)) q r f ⟨f,_,aB,(sF l E).mono (fun b h=>⟨h,ad fun e=>f (e▸h)⟩) fun _ _ z=>z⟩ (fun _ _ z=>by rw[p]at z;cases z);refine qP oM I (DPut.k p ?_) J F fun S L=>⟨_,L,k P φ _ B t⟩
    have:=congrArg ō l.1
    rw[zH,zH]at this;rw[<- this];have Y:=zS hz;have W:(1000000:Nat)<Ë:=by decide
    lia
   ·cases g
  ·rename_i K A
   obtain⟨N,d,c⟩:=q.at A;rw[r]at d;cases d;obtain⟨f,D,p,l⟩:=c;cases y with
   |tup is =>
    dsimp only at e;obtain⟨x,C,g⟩:=zA e;split at g
    ·rename_i hz
     cases g;simp only[RA]at w;obtain⟨b,us,rfl,_,hb,T⟩:=w;rw[qG C T]at hb;cases G;obtain⟨B,t⟩:=iR (c:=.dT (nY K x z)) (o:=.dT (fA D x v)) q r f ⟨f,_,aB,(sF l E).mono (fun b h=>⟨h,ad fun e=>f (e▸h)⟩) fun _ _ z=>z⟩ (fun _ _ z=>by rw[p]at z;cases z);refine qP oM I (DPut.t p hb ?_) J F fun S L=>⟨_,L,k P φ _ B t⟩
     have:=congrArg ō l.1
     rw[zH,zH]at this;rw[<- this];have Y:=zS hz;have W:(1000000:Nat)<Ë:=by decide
     lia
    ·cases g
   |_=>cases e
  ·cases e
 |_=>cases e
def KM(f g:EF):GF:=fun x b c=>(f b c).bind fun p=>(g b p.2).bind fun q=>(kn q.2 p.1 q.1 x).map fun a=>(b,a)
theorem FS[Ol](C:X.A.units+64<ř)(D:QE X o f)(E:QE X i g)
  (F:∀v,assign (.Subscript o i pos) X.env v=(do
   let ov <- holding [v] (eval o X.env)
   let iv <- holding [v,ov] (eval i X.env)
   ŕ pos
   holding [v,ov,iv] (ϛ ov iv v)
   release [v,ov,iv] [])):QG X (.Subscript o i pos) (KM f g) :=
 PG_imp (Gc D E (Cb C) F) fun v p H Q m=>by
  obtain⟨P,T,u,U,x,l,s,rx,t,j,e,k⟩:=m;obtain⟨q,M,L⟩:=zA e;obtain⟨r,K,J⟩:=zA L;obtain⟨z,I,G⟩:=zE.mp J;cases G;exact i7 l s ⟨q.1,q.2,M,fun R h W w b B r1=>⟨R,h,u,q.2,l.frm b,B,r.1,r.2,K,fun O d V w2 a A r2=>⟨O,d,r.2,q.1,r.1,x,j,A,r1.frm a,r2,(rx.frm b).frm a,I,fun N c S n y=>k N c S p ((b.trans a).trans n) y (((l.frm b).frm a).frm n)⟩⟩⟩
end
def hid(H:Hp)(p:Ç):Hp:=fun b=>if b=p then Á else H b
theorem bB(h:b≠p):hid H p b=H b:=yH h
theorem dL:hid H p p=Á:=yI rfl
theorem CZ(h:H p=À o):ak (hid H p) p o=H:=by
 funext b;by_cases e:b=p
 ·subst e;rw[aB,h]
 ·rw[ad e,bB e]
theorem vo:hid (ak H p o) p=hid H p:=by
 funext b;by_cases e:b=p
 ·subst e;rw[dL,dL]
 ·rw[bB e,bB e,ad e]
theorem Bw(h:H p=Á):hid H p=H:=by
 funext b;by_cases e:b=p
 ·subst e;rw[dL,h]
 ·rw[bB e]
section
variable{mg:Gm}{P P':Pr}{φ φ':List Ç}{st st':aa}{H H':Hp}{p:Ç}
theorem _root_.L2.gy.sh{P:Ç}{pos:ģ}{q:Ì}(h:gy (hid H p) P pos q):gy H P pos q:=by
 obtain⟨b,e,t,c⟩:=h;have ne:∀{a o},hid H p a=À o->H a=À o:=fun {a o} e=>by
  by_cases z:a=p
  ·rw[z,dL]at e;cases e
  ·rw[bB z]at e;exact e
 refine⟨b,ne e,t,?_⟩;rcases c with c|⟨g,f,d⟩
 ·exact .inl c
 ·exact .inr ⟨g,f,ne d⟩
theorem _root_.L2.gy.hd{P:Ç}{pos:ģ}{q:Ì}(h:gy H P pos q)(f:∃vs,H p=À (.lst vs)):gy (hid H p) P pos q:=by
 obtain⟨d,e,t,c⟩:=h;obtain⟨vs,a⟩:=f;refine⟨d,by rw[bB (wj e a fun z=>nomatch z)];exact e,t,?_⟩;rcases c with c|⟨i,g,b⟩
 ·exact .inl c
 ·exact .inr ⟨i,g,by rw[bB (wj b a fun z=>nomatch z)];exact b⟩
theorem Sim.sh[Ol](s:Sim mg P φ st (hid H p))(o:HO)(f:H p=À o):Sim mg P φ st H/\∀a,P a->P a/\H a=hid H p a:=by
 have c:∀a,P a->a≠p:=fun a h e=>s.dom a h (by rw[e];exact dL)
 have d:∀a∈φ,a≠p:=fun a h e=>s.cd a h (by rw[e];exact dL)
 have ex:∀a,P a->P a/\H a=hid H p a:=fun a h=>⟨h,(bB (c a h)).symm⟩
 exact⟨s.stay ex (fun a h=>(bB (d a h)).symm) (fun _ _ h=>h) (fun a h=>by rw[(ex a h).2];exact s.dom a h) fun t b=>⟨(s.tb t b).1.sh,(s.tb t b).2⟩,ex⟩
theorem Frm.hd[Ol](l:Sim mg P φ st (hid H p))(k:∃vs,H p=À (.lst vs))(f:Frm P φ H P' φ' H')(s:Sim mg P' φ' st' H'):Frm P φ (hid H p) P' φ' (hid H' p)/\Sim mg P' φ' st' (hid H' p)/\(∀a,P' a->P' a/\hid H' p a=H' a)/\H' p=H p:=by
 have g:∀a,P a->a≠p:=fun a h e=>l.dom a h (by rw[e];exact dL)
 have i:∀a∈φ,a≠p:=fun a h e=>l.cd a h (by rw[e];exact dL)
 have j:H p≠Á:=fun z=>by obtain⟨vs,e⟩:=k;rw[z]at e;cases e
 have q:H' p=H p:=f.keep p j (fun h=>i p h rfl) fun v z=>by obtain⟨vs,e⟩:=k;rw[z]at e;cases e
 obtain⟨m,em,nm⟩:=f.new;have c:∀a,P' a->a≠p:=fun a h e=>by
  rcases f.pn a h with z|z|z
  ·exact g a z e
  ·exact j (by rw[<- e];exact z)
  ·exact i a z e
 have d:∀a∈φ',a≠p:=fun a h e=>by
  rw[em]at h;rcases zZ.mp h with z|z
  ·exact i a z e
  ·exact j (by rw[<- e];exact nm a z)
 have b:∀a,hid H p a≠Á->a≠p:=fun a h e=>h (by rw[e];exact dL)
 have ex:∀a,P' a->P' a/\hid H' p a=H' a:=fun a h=>⟨h,bB (c a h)⟩
 refine⟨⟨fun a h=>⟨(f.ext a h).1,by rw[bB (g a h),bB (g a h)];exact(f.ext a h).2⟩,⟨m,em,fun a h=>?_⟩,fun a h n z=>?_,fun a h=>?_,fun a h=>?_,fun a o u h=>?_⟩,s.stay ex (fun a h=>bB (d a h)) (fun _ _ h=>h) (fun a h=>by rw[(ex a h).2];exact s.dom a h) (fun t r=>⟨(s.tb t r).1.hd (by rw[q];exact k),(s.tb t r).2⟩),ex,q⟩
 ·rw[bB (d a (by rw[em];exact zK _ h))];exact nm a h
 ·rw[bB (b a h),bB (b a h)]
  rw[bB (b a h)]at z;rw[bB (b a h)]at h;exact f.keep a h n z
 ·rcases f.pn a h with z|z|z
  ·exact .inl z
  ·exact .inr (.inl (by rw[bB (c a h)];exact z))
  ·exact .inr (.inr z)
 ·rw[bB (b a h)]
  rw[bB (b a h)]at h;exact f.sm a h
 ·have ne:=b a (by rw[h];exact fun z=>nomatch z)
  rw[bB ne]at h ⊢;exact f.fz a o u h
end
def im(gd:Gd)(g:GF)(t:TF)(f:EF)(sl:Sl):List AV->aa->Option (List AV×aa)
 |[],st=>if cw gd st=Â then À ([],st) else Á
 |x::xs,st=>if cw gd st=Â then(g x sl st).bind fun p=>(t p.1 p.2).bind fun q=>if q.1=Â then(f p.1 q.2).bind fun r=>(im gd g t f sl xs r.2).map fun z=>(r.1::z.1,z.2) else im gd g t f sl xs q.2 else Á
def Ch(k:Nat)(it:IF)(g:GF)(t:TF)(f:EF):NF:=fun a b=>(it a b).bind fun p=>if cO p.1.Om.length=Â then im p.1.gd g t f (a++Æ k Á) p.1.Om p.2 else Á
def Km:TF:=fun _ a=>À (Â,a)
theorem Os.ext0(h:Os mg P H φ sl σ)(k:Nat):Os mg P H φ (sl++Æ k Á) (σ++Æ k Á):=by
 refine⟨by rw[zV,zV,h.1,ü,ü],fun i v e=>?_⟩;have a:i<sl.length:=by
  rcases yU i sl.length with z|z
  ·exact z
  ·rw[z6 z,ð]at e
   split at e<;>cases e
 rw[zN a]at e;rw[zN (by rw[<- h.1];exact a)];exact h.2 i v e
def pH(n:Nat)(g:GF):Prop:=∀x c d a b,g x c d=À (a,b)->a.length=c.length/\∀j,j<n->a[j]?=c[j]?
theorem Os.back{k:Nat}(h:Os mg P H φ sl' σ)(a:sl'.length=(sl++Æ k Á).length)(b:∀j,j<sl.length->sl'[j]?=(sl++Æ k Á)[j]?):Os mg P H φ (sl++Æ k Á) σ:=by
 refine⟨by rw[<- a];exact h.1,fun i v e=>?_⟩;have c:i<sl.length:=by
  rcases yU i sl.length with z|z
  ·exact z
  ·rw[z6 z,ð]at e
   split at e<;>cases e
 exact h.2 i v (by rw[b i c];exact e)
inductive LcI[Ol](mg:Gm)(P1:Pr)(φ1:List Ç)(H1:Hp)(p:Ç)(sk:Sl)(gd:Gd)(g:GF)(t:TF)(f:EF)(L:List AV)(stE:aa)(out:List AV)(i m:Nat)(σ':St)(H':Hp):Prop
 |mk (P' φ' st' xs vs zs) (hm:m=L.length-i) (hle:i<=L.length) (f2:Frm P1 φ1 H1 P' φ' (hid H' p)) (s2:Sim mg P' φ' st' (hid H' p)) (rs2:Os mg P' (hid H' p) φ' sk σ') (hv:H' p=À (.lst vs)) (rx:On mg P' (hid H' p) φ' xs vs) (hlen:xs.length<=i) (eg:im gd g t f sk (L.drop i) st'=À (zs,stE)) (eo:out=xs++zs)
theorem G5[Ol]{n k:Nat}(hk:pH n g)(hn:σ.length=n)(h:rN mg (Ch k it g t f) σ H Q):Fd k (rI mg it) (rG mg g) (rT mg t) (rE mg f) σ H Q:=by
 refine e7 h fun P φ R st rs s q0=>?_
 obtain⟨out,stE,ef,kk⟩:=q0;obtain⟨q,e1,e2⟩:=zA ef;split at e2
 ·rename_i hz
  refine i7 rs s ⟨q.1,q.2,e1,fun P1 E H1 J f1 s1 ij=>fun p X=>?_⟩;have hsl:R.length=n:=by rw[rs.1];exact hn
  refine⟨LcI mg P1 E H1 p (R++Æ k Á) q.1.gd g t f q.1.Om stE out,⟨q.1.Om.length-0,?_⟩,?_⟩
  ·have e:hid (ak H1 p (.lst [])) p=H1:=by rw[vo,Bw X]
   exact .mk P1 E q.2 [] [] out rfl (ħ _) (by rw[e];exact Frm.refl) (by rw[e];exact s1) (by rw[e];exact(rs.frm f1).ext0 k) aB (by rw[e];exact bE) (zP _) (by simpa using e2) rfl
  ·intro i m σ' A hh
   refine g_ fun G bk=>?_
   obtain⟨P2,b,O,xs,N,zs,hm,hle,d,s2,U,I,rx,hlen,l,eo⟩:=hh;obtain⟨S,ex2⟩:=s2.sh _ I;have T:Os mg P2 A b (R++Æ k Á) σ':=⟨U.1,fun i v e=>let⟨w,e',r⟩:=U.2 i v e;⟨w,e',r.mono ex2 fun _ _ z=>z⟩⟩;have hpn:A p≠Á:=by rw[I];exact fun z=>nomatch z
   have f2v:Frm P1 E H1 P2 b A:=by
    refine⟨fun a h=>⟨(d.ext a h).1,?_⟩,d.new,fun a h n z=>?_,fun a h=>d.pn a h,fun a h=>?_,fun a o u h=>?_⟩
    ·have ne:a≠p:=fun e=>s1.dom a h (by rw[e];exact X)
     rw[<- bB (H:=A) ne];exact(d.ext a h).2
    ·have ne:a≠p:=fun e=>h (by rw[e];exact X)
     rw[<- bB (H:=A) ne];exact d.keep a h n z
    ·have ne:a≠p:=fun e=>h (by rw[e];exact X)
     rw[<- bB (H:=A) ne];exact d.sm a h
    ·have ne:a≠p:=aX h X
     rw[<- bB (H:=A) ne];exact d.fz a o u h
   rcases yU i q.1.Om.length with M|M
   ·rw[û M]at l
    simp only[im]at l;split at l
    ·rename_i L
     obtain⟨go,yl⟩:=ij.go P2 b A O i _ f2v S L (zF M);refine bk (Or.inr ⟨go,fun x H3 hy=>g_ fun G bk=>?_⟩);obtain⟨P3,f3,s3,r3⟩:=yl x H3 hy;obtain⟨W,e4,e5⟩:=zA l;obtain⟨V,e6,e7⟩:=zA e5;obtain⟨kl,kj⟩:=hk _ _ _ _ _ e4;refine bk ⟨P3,b,R++Æ k Á,O,q.1.Om[i],T.frm f3,s3,r3,W.1,W.2,e4,fun P4 φ4 H4 σ4 f4 s4 F=>⟨P4,φ4,W.1,W.2,F,s4,V.1,V.2,e6,fun P5 D H5 c f5 s5 r5=>?_⟩⟩;cases r5;refine g_ fun G bk=>?_
     have Z:=(f3.trans f4).trans f5;have back:∀{P6:Pr}{B:List Ç}{H6:Hp},Frm P5 D H5 P6 B H6->Os mg P6 H6 B (R++Æ k Á) σ4:=fun f6=>((F.frm f5).frm f6).back kl fun j hj=>kj j oM
     cases hc:V.1 with
     |true =>
      rw[hc]at e7 bk;simp only[if_true]at e7 bk;obtain⟨q8,e8,e9⟩:=zA e7;obtain⟨z,e10,e11⟩:=zE.mp e9;cases e11;refine bk ⟨P5,D,W.1,V.2,F.frm f5,s5,q8.1,q8.2,e8,fun P6 B H6 y f6 s6 r6=>g_ fun G bk=>?_⟩;obtain⟨Y,sh,C,K⟩:=Frm.hd s2 ⟨_,I⟩ (Z.trans f6) s6;refine bk ⟨N,by rw[K];exact I,?_,q.1.Om.length-(i+1),by lia,?_⟩
      ·rw[<- rx.length]
       have h1:=zS hz;have h2:(1000000:Nat)<Ë:=by decide
       lia
      ·have eh:hid (ak H6 p (.lst (N++[y]))) p=hid H6 p:=vo
       refine .mk P6 B q8.2 (xs++[q8.1]) (N++[y]) z.1 rfl M (eh.symm▸d.trans Y) (eh.symm▸sh) (eh.symm▸?_) aB (eh.symm▸(rx.frm Y).app (aU (r6.mono C fun _ _ z=>z) bE)) (by rw[zV];simp;lia) e10 (by rw[eo,yN];rfl)
       have:=back f6
       exact⟨this.1,fun i v e=>let⟨w,e',r⟩:=this.2 i v e;⟨w,e',r.mono C fun _ _ z=>z⟩⟩
     |false =>
      rw[hc]at e7 bk;simp only[yB,if_false]at e7 bk;obtain⟨Y,sh,C,K⟩:=Frm.hd s2 ⟨_,I⟩ Z s5;refine bk ⟨q.1.Om.length-(i+1),by lia,.mk P5 D V.2 xs N zs rfl M (d.trans Y) sh ?_ (by rw[K];exact I) (rx.frm Y) oM e7 eo⟩
      have:=back Frm.refl
      exact⟨this.1,fun i v e=>let⟨w,e',r⟩:=this.2 i v e;⟨w,e',r.mono C fun _ _ z=>z⟩⟩
    ·cases l
   ·have ei:i=q.1.Om.length:=b? hle M
    subst ei;rw[ϩ]at l;simp only[im]at l;split at l
    ·rename_i L
     cases l;refine bk (Or.inl ⟨ij.stop P2 b A _ f2v S L,?_⟩)
     have:=kk P2 b (hid A p) p N (f1.trans d) s2 dL (by rw[eo,å];exact rx)
     rw[CZ I]at this;exact this
    ·cases l
 ·cases e2
def vH[Ol](X:Cx)(a:List Î)(t:TF):Prop:=vJ X a (rT X.gm t)
section
variable{X:Cx}{elt iter tg:Î}{ifs:List Î}{N':List Ì}{scope:Ğ}{pos:ģ}{it:IF}{g:GF}{t:TF}{f:EF}
theorem Dt[Ol]:vH X [] Km:=fun d s b H Q I a=>e7 a fun P e g f h c k=>DM d s b H Q I (k.pure c rfl)
theorem Ds[Ol](h:QT X e t):vH X [e] t:=DL h
theorem Ib{e:Î}{t t':TE}(h:PE X e t)(i:∀σ H Q,σ.length=X.N.length->t' σ H Q->t σ H Q):PE X e t':=fun b s σ H Q I a=>h b s σ H Q I (i σ H Q I.len a)
theorem H0{st:Ľ}{t t':TS}(h:PS X st t)(i:∀D σ H,σ.length=X.N.length->t' D σ H->t D σ H):PS X st t':=fun b s σ H D I a=>h b s σ H D I (i D σ H I.len a)
theorem Ce[Ol](j:X.calm=Â)(T:jO X N' scope)(e:QI X tg iter it)(i:∀cl s H fp Og,QG (cB X N' scope cl s H fp Og) tg g)(a:∀cl s H fp Og,vH (cB X N' scope cl s H fp Og) ifs t)
  (he:∀cl s H fp Og,QE (cB X N' scope cl s H fp Og) elt f) (d:pH X.N.length g) (b:∀x,ú iter X.env x=pure x):QN X (.ListComp elt [⟨tg,iter,ifs,0⟩] scope pos) (Ch (N'.length-X.N.length) it g t f) :=
 Ib (Ja (g:=rG X.gm g) (tt:=rT X.gm t) (te:=rE X.gm f) j T e (fun cl s H fp Og=>i cl s H fp Og) (fun cl s H fp Og=>a cl s H fp Og) (fun cl s H fp Og=>he cl s H fp Og) b) fun k H Q c h=>G5 d c h
end
inductive Out where
 |nx (sl:Sl) (st:aa)|rt (v:AV) (st:aa)|bk (sl:Sl) (st:aa)|ct (sl:Sl) (st:aa)
abbrev SF:=Sl->aa->Option Out
def ThO[Ol](mg:Gm)(P:Pr)(φ:List Ç)(H:Hp)(D:kQ):Out->Prop
 |.nx sl st=>∀P' φ' H' σ',Frm P φ H P' φ' H'->Sim mg P' φ' st H'->Os mg P' H' φ' sl σ'->D.nx σ' H'
 |.bk sl st=>∀P' φ' H' σ',Frm P φ H P' φ' H'->Sim mg P' φ' st H'->Os mg P' H' φ' sl σ'->D.bk σ' H'
 |.ct sl st=>∀P' φ' H' σ',Frm P φ H P' φ' H'->Sim mg P' φ' st H'->Os mg P' H' φ' sl σ'->D.ct σ' H'
 |.rt v st=>∀P' φ' H' w,Frm P φ H P' φ' H'->Sim mg P' φ' st H'->RA mg P' H' φ' v w->D.rt w H'
def KO[Ol](mg:Gm)(P:Pr)(φ:List Ç)(H:Hp)(r:Option Out)(D:kQ):Prop:=∃o,r=À o/\ThO mg P φ H D o
def rS[Ol](mg:Gm)(f:SF):TS:=fun D d H=>∃P a c b,Os mg P H a c d/\Sim mg P a b H/\KO mg P a H (f c b) D
def QS[Ol](X:Cx)(st:Ľ)(f:SF):Prop:=PS X st (rS X.gm f)
def nK[Ol](X:Cx)(a:List Ľ)(f:SF):Prop:=PSs X a (rS X.gm f)
theorem ThO.frm[Ol](h:ThO mg P φ H D o)(f:Frm P φ H P1 φ1 H1):ThO mg P1 φ1 H1 D o:=by
 cases o with
 |nx sl st=>exact fun d a e b c=>h d a e b (f.trans c)
 |bk sl st=>exact fun d a e b c=>h d a e b (f.trans c)
 |ct sl st=>exact fun d a e b c=>h d a e b (f.trans c)
 |rt v st=>exact fun d a e b c=>h d a e b (f.trans c)
theorem KO.bindE[Ol]{α c:Type}{Ra:Gm->Pr->Hp->List Ç->α->c->Prop}{m:Option (α×aa)}{k:α×aa->Option Out}(h:KO mg P φ H (m.bind k) D) :
  KG mg Ra P φ H m fun b H1=>∃P1 φ1 st1 a,Frm P φ H P1 φ1 H1/\Sim mg P1 φ1 st1 H1/\Ra mg P1 H1 φ1 a b/\KO mg P1 φ1 H1 (k (a,st1)) D:=by
 obtain⟨o,e,q⟩:=h;cases m with
 |none=>cases e
 |some p=>exact⟨p.1,p.2,rfl,fun P1 φ1 H1 b f s r=>⟨P1,φ1,p.2,p.1,f,s,r,o,e,q.frm f⟩⟩
theorem KO.nx[Ol]{mg:Gm}{P:Pr}{φ:List Ç}{H:Hp}{sl:Sl}{st:aa}{D:kQ}{σ:St}(h:KO mg P φ H (À (.nx sl st)) D)(s:Sim mg P φ st H)(r:Os mg P H φ sl σ):D.nx σ H:=by
 obtain⟨o,e,q⟩:=h;cases e;exact q P φ H σ Frm.refl s r
theorem KO.no[Ol](h:KO mg P φ H Á D):False:=by obtain⟨_,e,_⟩:=h;cases e
section
variable{X:Cx}{st:Ľ}{rest:List Ľ}{e c tg:Î}{pos:ģ}{s t:SF}{f:EF}{g:GF}{b:TF}
def Kv:SF:=fun b a=>À (.nx b a)
def Kt(s t:SF):SF:=fun b a=>(s b a).bind fun o=>match o with
 |.nx b a=>t b a
 |o=>À o
theorem Dk[Ol]:nK X [] Kv:=PSs_imp DF fun D d H a=>e7 a fun P c f e b s k=>k.nx s b
theorem AM[Ol](m:QS X st s)(l:nK X rest t):nK X (st::rest) (Kt s t):=PSs_imp (AT m l) fun D w H d=>by
 refine e7 d fun P u x st j h k=>?_
 obtain⟨o,e,q⟩:=k;obtain⟨f,p,a⟩:=zA e;refine i7 j h ⟨f,p,?_⟩;cases f with
 |nx sl1 st1=>exact fun r b y g n i c=>⟨r,b,sl1,st1,c,i,o,a,q.frm n⟩
 |bk sl1 st1=>cases a;exact q
 |ct sl1 st1=>cases a;exact q
 |rt v st1=>cases a;exact q
def Fp:SF:=fun _ _=>Á
theorem Dn[Ol]:QS X st Fp:=PS_imp AW fun D c H a=>e7 a fun P b d st e s k=>k.no
def Ky(f:EF):SF:=fun a b=>(f a b).bind fun p=>À (.nx a p.2)
theorem Dm[Ol](he:QE X e f)(n:ļ e Á pos.line X.env=pure Ã):QS X (.Expr e pos) (Ky f):=PS_imp (DH he n) fun D y H d=>e7 d fun P v A z g s k=>i7 g s (by
 obtain⟨a,c,r,q⟩:=k.bindE (Ra:=RA);refine⟨a,c,r,fun t b u w p l r1=>?_⟩;obtain⟨B,h,i,x,o,j,r2,m⟩:=q t b u w p l r1;exact m.nx j (g.frm o))
def Ku(f:EF):SF:=fun b a=>(f b a).bind fun p=>À (.rt p.1 p.2)
theorem FF[Ol](he:QE X e f):QS X (.Return (À e) pos) (Ku f):=PS_imp (F5 he) fun D z H g=>e7 g fun P y B A m s k=>i7 m s (by
 obtain⟨a,d,t,q⟩:=k.bindE (Ra:=RA);refine⟨a,d,t,fun v c h w p l r1=>?_⟩;obtain⟨u,b,i,x,C,j,r2,o,r,n⟩:=q v c h w p l r1;cases r;exact n u b h w Frm.refl j r2)
def Kw(b:TF)(s t:SF):SF:=fun a c=>(b a c).bind fun p=>if p.1=Â then s a p.2 else t a p.2
theorem II[Ol](u:QT X c b)(v:nK X x s)(hb:nK X y t):QS X (.If c x y pos) (Kw b s t):=PS_imp (IV u v hb) fun D F H i=>e7 i fun P E j G h p k=>i7 h p (by
 obtain⟨a,g,A,q⟩:=k.bindE (Ra:=RB);refine⟨a,g,A,fun B f C w z r r1=>?_⟩;obtain⟨o,d,e,x,n,l,r2,m⟩:=q B f C w z r r1;cases r2;cases w with
 |true=>exact⟨o,d,j,e,h.frm n,l,m⟩
 |false=>exact⟨o,d,j,e,h.frm n,l,m⟩)
def xG(f:EF)(g:GF):SF:=fun a b=>(f a b).bind fun p=>(g p.1 a p.2).bind fun q=>À (.nx q.1 q.2)
theorem wS[Ol](h:rS mg (xG f g) D σ H):vV (rE mg f) (rG mg g) D σ H:=by
 refine e7 h fun P C k E i s n=>?_
 obtain⟨o,e,q⟩:=n;obtain⟨p,y,x⟩:=zA e;obtain⟨r,v,u⟩:=zA x;cases u;exact i7 i s ⟨p.1,p.2,y,fun A b F w j m r1=>⟨A,b,k,p.2,p.1,i.frm j,m,r1,r.1,r.2,v,fun z a B c t l d=>q z a B c (j.trans t) l d⟩⟩
theorem xN[Ol](he:QE X e f)(c:QG X tg g)(b:ϥ [tg] e pos.line X.env=pure Ã)(a:Ϧ [tg] e X.env=pure Á)(d:(â [tg] X.env).map (·.2)=[assign tg X.env]):QS X (.Assign [tg] e pos) (xG f g) :=
 PS_imp (F7 he c b a d) fun D i H h=>wS h
theorem GI[Ol]{i:Nat}(h:rG mg (ze i) v σ H Q):pb i v σ H Q:=by
 obtain⟨P,b,d,c,x,a,s,rx,k⟩:=h;exact k.pure s (a.set rx i)
theorem xM[Ol]{i:Nat}(hN:X.N.Nodup)(m:X.N[i]?=À x)(j:Loc X.env.scope x)(he:QE X e f)(l:ļ e (À (.Name x pos')) pos.line X.env=pure Ã)(n:X.fn x=Â\/X.env.scope.names.lookup x=À .local) :
  QS X (.Assign [.Name x pos'] e pos) (xG f (ze i)):=PS_imp (F4 hN m j he l n) fun D u H h=>by
 obtain⟨P,t,y,v,c,s,g,d,p,k⟩:=wS h;exact i7 c s ⟨g,d,p,fun q a r w o b r1=>GI (k q a r w o b r1)⟩
def CI(m:Bool)(f:NF):EF:=if m=Â then Nd f else Nf f
theorem GC[Ol]{mg:Gm}{m:Bool}{f:NF}{σ:St}{H:Hp}{Q:VK}(h:rE mg (CI m f) σ H Q):rN mg f σ H Q:=by
 refine e7 h fun P z B A n s u=>?_
 obtain⟨v,t,ev,k⟩:=u;cases m with
 |true =>
  obtain⟨q,l,b⟩:=zA ev;cases b;refine i7 n s ⟨q.1,q.2,l,fun o a y p r j d g r1=>?_⟩;obtain⟨i,c,e⟩:=GN d g r1;exact k o _ _ _ (j.trans i) c e
 |false =>
  obtain⟨q,l,b⟩:=zA ev;split at b
  ·rename_i w
   cases b;refine i7 n s ⟨q.1,q.2,l,fun o a y p r j d g r1=>?_⟩;obtain⟨x,i,c,e⟩:=Hr d g w r1;exact k x a _ _ (j.trans i) c e
  ·cases b
theorem iK[Ol]{m:Bool}{f:NF}(h:QN X e f):QE X e (CI m f):=PE_imp h fun _ _ _ q=>GC q
theorem xK[Ol]{i:Nat}{y:Ì}{n:ģ}{elt a d:Î}{c:List Î}{N':List Ì}{scope:Ğ}{pos b:ģ}{it:IF}{g:GF}{t:TF}{f:EF}{m:Bool}(hN:X.N.Nodup)(l:X.N[i]?=À y)(u:Loc X.env.scope y)
  (j:ļ (.ListComp elt [⟨d,a,c,0⟩] scope pos) (À (.Name y n)) b.line X.env=pure Â)
  (G:X.calm=Â) (T:jO X N' scope) (C:QI X d a it) (E:∀cl s H fp Og,QG (cB X N' scope cl s H fp Og) d g) (v:∀cl s H fp Og,vH (cB X N' scope cl s H fp Og) c t)
  (he:∀cl s H fp Og,QE (cB X N' scope cl s H fp Og) elt f) (B:pH X.N.length g) (z:∀x,ú a X.env x=pure x) (F:X.fn y=Â\/X.env.scope.names.lookup y=À .local) :
  QS X (.Assign [.Name y n] (.ListComp elt [⟨d,a,c,0⟩] scope pos) b) (xG (CI m (Ch (N'.length-X.N.length) it g t f)) (ze i)) :=
 H0 (xP (g:=rG X.gm g) (tt:=rT X.gm t) (te:=rE X.gm f) hN l u j G T C (fun cl s H fp Og=>E cl s H fp Og) (fun cl s H fp Og=>v cl s H fp Og) (fun cl s H fp Og=>he cl s H fp Og) z F) fun D N H A h=>by
  obtain⟨P,M,Q,O,p,s,r,q,J,k⟩:=wS h;exact G5 B A (GC (m:=m) (i7 p s ⟨r,q,J,fun K e L w I o r1=>GI (k K e L w I o r1)⟩))
def wR(o:ğ)(_:aa):AV->AV->Option AV
 |.int a,.int b=>match o with
  |.Add=>À (.int (a+b))
  |.Sub=>À (.int (a-b))
  |_=>Á
 |_,_=>Á
theorem L3[Ol](o:ğ):CO X o (fun x y H Q=>∃P φ st a b c,Sim X.gm P φ st H/\RA X.gm P H φ a x/\RA X.gm P H φ b y/\wR o st a b=À c/\∀w,RA X.gm P H φ c w->Q w H):=by
 rintro l s d H x y v u Q I rx f ⟨P,φ,st,a,b,c,m,h,g,e,k⟩;cases a <;> cases b <;> simp only [wR] at e <;> first | (cases e;done) | skip
 rename_i i j;simp only [RA] at h g;subst h;subst g;cases o <;> first | (cases e;done) | skip
 ·cases e
  exact Hg l s d H _ _ v u Q I rx f ⟨i,j,rfl,rfl,k _ (by simp only[RA])⟩
 ·cases e
  exact Hf l s d H _ _ v u Q I rx f ⟨i,j,rfl,rfl,k _ (by simp only[RA])⟩
theorem JC[Ol]:BV X (fun x y H Q=>∃P φ st a b c,Sim X.gm P φ st H/\RA X.gm P H φ a x/\RA X.gm P H φ (.int b) y/\(∃xs,bI st a=À xs/\gN xs b=À c)/\∀w,RA X.gm P H φ c w->Q w H):=by
 rintro r s e H x y v u Q I rx h ⟨P,φ,st,a,b,c,g,i,d,⟨xs,o,n⟩,k⟩;obtain⟨p,f,rfl,q,l⟩:=i.ls g o;obtain⟨w,m,j⟩:=qv l n;simp only[RA]at d;exact BB r s e H _ y v u Q I rx h ⟨p,f,b,w,rfl,d,q,m,k w j⟩
def vZ(o:ğ)(f g h:EF):SF:=fun a d=>(f a d).bind fun p=>(g a p.2).bind fun q=>match q.1 with
 |.int i=>(bI q.2 p.1).bind fun c=>(gN c i).bind fun x=>(h a q.2).bind fun r=>(wR o r.2 x r.1).bind fun z=>(kn r.2 p.1 (.int i) z).bind fun b=>À (.nx a b)
 |_=>Á
theorem Do[Ol]{a i:Î}{f g h:EF}{o:ğ}{d:ģ}(Y:X.A.units+64<ř)(Z:QE X a f)(hi:QE X i g)(he:QE X e h)
  (ha:∀ov iv new,augStore i ov iv new=(do holding [new,ov,iv] (ϛ ov iv new);release [new,ov,iv] [];pure .next)):QS X (.AugAssign (.Subscript a i d) o e pos) (vZ o f g h) :=
 PS_imp (DI Z hi JC he (L3 o) (Cb Y) ha) fun D O H y=>by
  refine e7 y fun P φ I st m s W=>?_
  obtain⟨out,eo,q⟩:=W;obtain⟨p,e1,e2⟩:=zA eo;obtain⟨r,e3,A⟩:=zA e2;split at A
  ·rename_i j hj
   obtain⟨Q,e5,e6⟩:=zA A;obtain⟨x,e7,e8⟩:=zA e6;obtain⟨t,e9,G⟩:=zA e8;obtain⟨z,F,E⟩:=zA G;obtain⟨w,C,B⟩:=zA E;cases B;refine i7 m s ⟨p.1,p.2,e1,fun P1 v H1 w1 n S r1=>⟨P1,v,I,p.2,m.frm n,S,r.1,r.2,e3,fun N c H2 w2 l K r2=>?_⟩⟩;rw[hj]at r2;refine⟨N,c,r.2,p.1,j,x,K,r1.frm l,r2,⟨Q,e5,e7⟩,fun w3 V=>⟨N,c,I,r.2,(m.frm n).frm l,K,t.1,t.2,e9,fun M b H3 w4 k J U=>⟨M,b,t.2,x,t.1,z,J,V.frm k,U,F,fun w5 T=>⟨M,b,t.2,p.1,.int j,z,w,J,(r1.frm l).frm k,r2.frm k,T,C,fun P4 u H4 L R=>?_⟩⟩⟩⟩;exact q P4 u H4 O (((n.trans l).trans k).trans L) R ((((m.frm n).frm l).frm k).frm L)
  ·cases A
end
inductive Iw[Ol](mg:Gm)(P1:Pr)(φ1:List Ç)(H1:Hp)(E:Sl->aa->Prop)(σ:St)(H:Hp):Prop
 |mk (P φ sl st) (f:Frm P1 φ1 H1 P φ H) (s:Sim mg P φ st H) (r:Os mg P H φ sl σ) (e:E sl st)
def dM(gd:Gd)(g:GF)(s:SF):List AV->Sl->aa->Option Out
 |[],sl,st=>if cw gd st=Â then À (.nx sl st) else Á
 |x::xs,sl,st=>if cw gd st=Â then(g x sl st).bind fun p=>(s p.1 p.2).bind fun o=>match o with
  |.nx sl st=>dM gd g s xs sl st
  |.ct sl st=>dM gd g s xs sl st
  |.bk sl st=>À (.nx sl st)
  |.rt v st=>À (.rt v st) else Á
def Kx(it:IF)(g:GF)(s:SF):SF:=fun a b=>(it a b).bind fun p=>dM p.1.gd g s p.1.Om a p.2
def dA(t:TF)(s:SF):Nat->Sl->aa->Option Out
 |0,_,_=>Á
 |n+1,sl,st=>(t sl st).bind fun p=>if p.1=Â then(s sl p.2).bind fun o=>match o with
  |.nx sl st=>dA t s n sl st
  |.ct sl st=>dA t s n sl st
  |.bk sl st=>À (.nx sl st)
  |.rt v st=>À (.rt v st) else À (.nx sl p.2)
open Classical in
def mP(t:TF)(s:SF):SF:=fun b a=>if h:∃n,(dA t s n b a).isSome=Â then dA t s (đ h) b a else Á
theorem qy:∀{n m:Nat}{sl:Sl}{st:aa}{o:Out},n<=m->dA t s n sl st=À o->dA t s m sl st=À o:=by
 intro n
 induction n with
 |zero=>intro m sl st o _ h;cases h
 |succ n d =>
  intro m sl st o g h;cases m with
  |zero=>lia
  |succ m =>
   simp only[dA]at h ⊢;obtain⟨p,f,c⟩:=zA h;rw[f,Å];split at c
   ·rename_i b
    rw[yI b];obtain⟨q,e,a⟩:=zA c;rw[e,Å];cases q with
    |nx sl st=>exact d oM a
    |ct sl st=>exact d oM a
    |bk sl st=>exact a
    |rt v st=>exact a
   ·rename_i b
    rw[yH b];exact c
theorem oy{t:TF}{s:SF}{n:Nat}{sl:Sl}{st:aa}{o:Out}(h:dA t s n sl st=À o):mP t s sl st=À o:=by
 have a:∃n,(dA t s n sl st).isSome=Â:=⟨n,by rw[h];rfl⟩;unfold mP;rw[dif_pos a];obtain⟨e,b⟩:=Ĵ.mp (Ĝ a);have d:=qy (Nat.le_max_left n (đ a)) h;have c:=qy (Nat.le_max_right n (đ a)) b;rw[b,<- d,c]
theorem xZ{t:TF}{s:SF}{sl:Sl}{st:aa}{o:Out}(h:mP t s sl st=À o):∃n,dA t s n sl st=À o:=by
 unfold mP at h;split at h
 ·exact⟨_,h⟩
 ·cases h
section
variable{X:Cx}{tg iter c:Î}{body:List Ľ}{pos:ģ}{it:IF}{g:GF}{s:SF}{t:TF}
theorem FG[Ol](hp:ϝ (model X.prog X.w) X.A X.env X.xe)(hc:X.calm=Â)(hi:QI X tg iter it)(hg:QG X tg g)(hb:nK X body s)(hs:∀x,ú iter X.env x=pure x):QS X (.For tg iter body [] pos) (Kx it g s) :=
 PS_imp (xQ hp hc hi hg hb hs) fun D σ H R=>by
  refine e7 R fun P φ A E W sm q0=>?_
  obtain⟨o,e,q⟩:=q0;obtain⟨p,e1,e2⟩:=zA e;refine i7 W sm ⟨p.1,p.2,e1,fun V h H1 J f1 s1 Z=>?_⟩;have Q:=q.frm f1;refine⟨fun i m f u=>m=p.1.Om.length-i/\i<=p.1.Om.length/\Iw X.gm V h H1 (fun A E=>dM p.1.gd g s (p.1.Om.drop i) A E=À o) f u,⟨_,rfl,ħ _,V,h,A,p.2,Frm.refl,s1,W.frm f1,by simpa using e2⟩,?_⟩;intro i m f u hh;refine g_ fun G bk=>?_
  obtain⟨em,S,U,d,M,y,K,N,B,c⟩:=hh;rcases yU i p.1.Om.length with l|T
  ·rw[û l]at c
   simp only[dM]at c;split at c
   ·rename_i n
    obtain⟨go,yl⟩:=Z.go U d u y i _ K N n (zF l);obtain⟨F,e4,e5⟩:=zA c;obtain⟨Y,e6,e7⟩:=zA e5;refine bk (.inr ⟨go,Iw X.gm V h H1 fun A E=>dM p.1.gd g s (p.1.Om.drop (i+1)) A E=À o,fun f u z=>⟨_,by lia,rfl,l,z⟩,fun x H3 hy=>g_ fun G bk=>?_⟩);obtain⟨P3,f3,s3,r3⟩:=yl x H3 hy;refine bk ⟨P3,d,M,y,_,B.frm f3,s3,r3,F.1,F.2,e4,fun P4 L H4 σ4 f4 s4 O=>⟨P4,L,F.1,F.2,O,s4,Y,e6,?_⟩⟩;have I:=(K.trans f3).trans f4;cases Y with
    |nx sl5 st5=>exact fun t a C j r k b=>⟨t,a,sl5,st5,I.trans r,k,b,e7⟩
    |ct sl5 st5=>exact fun t a C j r k b=>⟨t,a,sl5,st5,I.trans r,k,b,e7⟩
    |bk sl5 st5=>cases e7;exact fun t a C j r k b=>Q t a C j (I.trans r) k b
    |rt v st5=>cases e7;exact fun t a C w r k r5=>Q t a C w (I.trans r) k r5
   ·cases c
  ·have ei:i=p.1.Om.length:=b? S T
   subst ei;rw[ϩ]at c;simp only[dM]at c;split at c
   ·rename_i n
    cases c;exact bk (.inl ⟨Z.stop U d u _ K N n,Q U d u f K N B⟩)
   ·cases c
theorem AN[Ol](O:ϝ (model X.prog X.w) X.A X.env X.xe)(R:QT X c t)(hb:nK X body s):QS X (.While c body [] pos) (mP t s) :=
 PS_imp (AU O R hb) fun D Y H C=>by
  refine e7 C fun P B r n J I M=>?_
  obtain⟨o,e,q⟩:=M;obtain⟨N,U⟩:=xZ e;refine⟨fun m=>Iw X.gm P B H fun r n=>dA t s m r n=À o,⟨N,P,B,r,n,Frm.refl,I,J,U⟩,?_⟩;intro m l W Q;cases Q with|mk P2 φ2 sl2 st2 f2 s2 rs2 eg =>
  cases m with
  |zero=>cases eg
  |succ m =>
   simp only[dA]at eg;obtain⟨p,T,j⟩:=zA eg;refine⟨P2,φ2,sl2,st2,rs2,s2,p.1,p.2,T,fun G k V b A E L=>?_⟩;cases L;cases u:p.1 with
   |true =>
    rw[u]at j;simp only[if_true]at j ⊢;obtain⟨F,S,e7⟩:=zA j;refine⟨Iw X.gm P B H fun r n=>dA t s m r n=À o,fun l W z=>⟨m,Ĳ m,z⟩,G,k,sl2,p.2,rs2.frm A,E,F,S,?_⟩;have y:=f2.trans A;cases F with
    |nx sl5 st5=>exact fun i a x f h g d=>⟨i,a,sl5,st5,y.trans h,g,d,e7⟩
    |ct sl5 st5=>exact fun i a x f h g d=>⟨i,a,sl5,st5,y.trans h,g,d,e7⟩
    |bk sl5 st5=>cases e7;exact fun i a x f h g d=>q i a x f (y.trans h) g d
    |rt v st5=>cases e7;exact fun i a x w h g K=>q i a x w (y.trans h) g K
   |false =>
    rw[u]at j;simp only[yB,if_false]at j ⊢;cases j;exact q G k V l (f2.trans A) E (rs2.frm A)
end
abbrev Fn:=List AV->aa->Option (AV×aa)
def dR[Ol](mg:Gm)(n:Nat)(fn:Fn):Sp:=fun c H Q _=>c.length=n/\∃P b a d,On mg P H b a c/\Sim mg P b d H/\KG mg RA P b H (fn a d) Q
def fy:Nat->aa->AV->Option AV
 |n+1,st,.ref k=>match st[k]? with
  |some (.lst xs)=>(bn (fy n st) xs).map .fz
  |some (.al t)=>À t
  |_=>Á
 |n+1,st,.tup xs=>(bn (fy n st) xs).map .tup
 |0,_,.ref _=>Á
 |0,_,.tup _=>Á
 |_,_,t=>À t
def fj:aa->AV->Option AV:=fy 6
mutual
noncomputable def flat:AV->Bool
 |.ref _=>Ã
 |.fz _=>Ã
 |.tup xs=>pq xs
 |_=>Â
noncomputable def pq:List AV->Bool
 |[]=>Â
 |x::xs=>flat x&&pq xs
end
def lT(st:aa)(x:AV):Option (AV×aa):=if rf x=Â then À (x,st) else match x with
 |.ref k=>match st[k]? with
  |some (.lst a)=>if rfs a=Â then À (.fz a,st.set k (.al (.fz a))) else Á
  |some (.al t)=>À (t,st)
  |_=>Á
 |_=>Á
def ph:aa->List AV->Option (List AV×aa)
 |st,[]=>À ([],st)
 |st,x::xs=>(lT st x).bind fun p=>(ph p.2 xs).map fun q=>(p.1::q.1,q.2)
def pm(fn:Fn):Fn:=fun a b=>if rfs a=Â then(fn a []).bind fun p=>(fj p.2 p.1).map fun t=>(t,b)
 else(bn (fj b) a).bind fun c=>(fn c []).bind fun p=>(fj p.2 p.1).bind fun t=>if flat t=Â then À (t,b) else
  (ph b a).bind fun q=>(fn q.1 []).bind fun p=>(fj p.2 p.1).map fun t=>(t,q.2)
section
variable{mg:Gm}{P:Pr}{φ:List Ç}{st:aa}{H:Hp}
theorem AK[Ol]{n:Nat}(b:∀v w t,fy n st v=À t->RA mg P H φ v w->RA mg P' H [] t w):∀{xs:List AV}{vs:List V}{ts:List AV},bn (fy n st) xs=À ts->On mg P H φ xs vs->On mg P' H [] ts vs:=by
 intro xs
 induction xs with
 |nil=>intro vs ts e r;cases e;simp only[On]at r ⊢;exact r
 |cons x xs a =>
  intro vs ts e r;simp only[bn]at e;obtain⟨y,g,f⟩:=zA e;obtain⟨h,d,c⟩:=zE.mp f;subst c;simp only[On]at r;obtain⟨v,i,rfl,r1,r2⟩:=r;exact aU (b x v y g r1) (a d r2)
theorem sy[Ol](s:Sim mg P φ st H):∀(n:Nat)(v:AV)(w:V)(t:AV),fy n st v=À t->RA mg P H φ v w->RA mg (fun a=>P a\/a∈φ) H [] t w:=by
 have ex:∀a,P a->(P a\/a∈φ)/\H a=H a:=fun a h=>⟨.inl h,rfl⟩
 have o:∀{t:AV}{w:V},R.rf t=Â->RA mg P H φ t w->RA mg (fun a=>P a\/a∈φ) H [] t w:=fun h r=>(RA.rf (ψ:=[]) h r).mono ex fun _ _ z=>z
 intro n
 induction n with
 |zero =>
  intro v w t e r;cases v <;> simp only [fy] at e <;> first | (cases e;done) | skip
  all_goals cases e;exact o rfl r
 |succ n q =>
  intro v w t e r;cases v with
  |ref k =>
   simp only[fy]at e;simp only[RA]at r;obtain⟨a,j,rfl⟩:=r;split at e
   ·rename_i u f
    obtain⟨x,m,l⟩:=zE.mp e;subst l;obtain⟨y,b,c⟩:=s.at f;rw[j]at b;cases b;obtain⟨_,d,i,g⟩:=c;simp only[RA];exact⟨a,d,rfl,.inl ⟨.inr (zW j),.inl i⟩,AK q m g⟩
   ·rename_i A f
    cases e;obtain⟨y,b,c⟩:=s.at f;rw[j]at b;cases b;exact c.2.mono ex fun _ _ z=>z
   ·cases e
  |tup u =>
   simp only[fy]at e;obtain⟨x,m,l⟩:=zE.mp e;subst l;simp only[RA]at r;obtain⟨a,d,rfl,p,i,g⟩:=r;simp only[RA];exact⟨a,d,rfl,.inl p,i,AK q m g⟩
  |_=>simp only[fy]at e;cases e;exact o rfl r
mutual
theorem RA.fl[Ol](h:∀a vs,P a->H a=À (.tup vs)->P' a):∀{t:AV}{w:V},flat t=Â->RA mg P H φ t w->RA mg P' H ψ t w
 |.non,_,_,r=>by simp only[RA]at r ⊢;exact r
 |.bl _,_,_,r=>by simp only[RA]at r ⊢;exact r
 |.int _,_,_,r=>by simp only[RA]at r ⊢;exact r
 |.str _,_,_,r=>by simp only[RA]at r ⊢;exact r
 |.ref _,_,e,_=>by simp only[flat]at e;cases e
 |.fz _,_,e,_=>by simp only[flat]at e;cases e
 |.tup xs,_,e,r=>by
  simp only[RA,flat]at r e ⊢;obtain⟨a,vs,rfl,p,h1,h2⟩:=r;exact⟨a,vs,rfl,h a vs p h1,h1,On.fl h e h2⟩
theorem On.fl[Ol](h:∀a vs,P a->H a=À (.tup vs)->P' a):∀{ts:List AV}{ws:List V},pq ts=Â->On mg P H φ ts ws->On mg P' H ψ ts ws
 |[],_,_,r=>by simp only[On]at r ⊢;exact r
 |t::ts,_,e,r=>by
  simp only[On,pq,zC]at r e ⊢;obtain⟨v,ws,rfl,r1,r2⟩:=r;exact⟨v,ws,rfl,RA.fl h e.1 r1,On.fl h e.2 r2⟩
end
theorem Hs[Ol](s:Sim mg P φ st H)(e:lT st x=À (t,st'))(r:RA mg P H φ x v):∃P',Frm P φ H P' φ H/\Sim mg P' φ st' H/\RA mg P' H [] t v:=by
 unfold lT at e;split at e
 ·rename_i h
  cases e;exact⟨P,Frm.refl,s,RA.rf h r⟩
 ·cases x with
  |ref k =>
   simp only[RA]at r;obtain⟨a,f,rfl⟩:=r;dsimp only at e;split at e
   ·rename_i y o
    split at e
    ·rename_i B
     cases e;obtain⟨D,d,c⟩:=s.at o;rw[f]at d;cases d;obtain⟨F,A,w,u⟩:=c;have ex:∀b,P b->(P b\/b=a)/\H b=H b:=fun b h=>⟨.inl h,rfl⟩
     have m:=zW f;have q:RA mg (fun b=>P b\/b=a) H [] (.fz y) (.ref a):=by
      simp only[RA];exact⟨a,A,rfl,.inl ⟨.inr rfl,.inl w⟩,(On.rf B u).mono ex fun _ _ z=>z⟩
     have C:∀b,(P b\/b=a)->H b≠Á:=fun b h=>by
      rcases h with h|h
      ·exact s.dom b h
      ·rw[h];exact s.cd a m
     refine⟨fun b=>P b\/b=a,⟨ex,⟨[],by simp,by simp⟩,fun _ _ _ _=>rfl,fun b h=>?_,fun _ h=>h,fun _ _ _ h=>h⟩,⟨by rw[ă];exact s.len,s.nd,C,s.cd,fun j c b i g=>?_,fun t l=>⟨(s.tb t l).1,fun z=>z.elim (s.tb t l).2 fun z=>s.tnc l (by rw[z];exact m)⟩⟩,q⟩
     ·rcases h with h|h
      ·exact .inl h
      ·exact .inr (.inr (by rw[h];exact m))
     ·by_cases p:j=k
      ·subst p
       rw[f]at g;cases g;rw[õ (by rw[<- s.len];exact(zB.mp f).1)]at i;cases i;exact⟨.inr rfl,q⟩
      ·rw[ï (ç p)]at i
       refine(s.cell j c b i g).mono ex (fun _ _ z=>z) rfl fun n z=>?_
       rcases z with z|z
       ·exact n z
       ·refine p ?_
        subst z;obtain⟨w,i⟩:=zB.mp g;obtain⟨u,g⟩:=zB.mp f;exact(ū s.nd).mp (i.trans g.symm)
    ·cases e
   ·rename_i E o
    cases e;obtain⟨D,d,c⟩:=s.at o;rw[f]at d;cases d;exact⟨P,Frm.refl,s,c.2⟩
   ·cases e
  |_=>cases e
theorem Hq[Ol]:∀{xs ts:List AV}{st st':aa}{P:Pr}{vs:List V},Sim mg P φ st H->ph st xs=À (ts,st')->On mg P H φ xs vs->∃P',Frm P φ H P' φ H/\Sim mg P' φ st' H/\On mg P' H [] ts vs:=by
 intro xs
 induction xs with
 |nil=>intro ts st st' P vs s e r;cases e;simp only[On]at r;subst r;exact⟨P,Frm.refl,s,bE⟩
 |cons x xs h =>
  intro ts st st' P vs s e r;simp only[ph]at e;obtain⟨p,l,k⟩:=zA e;obtain⟨q,j,i⟩:=zE.mp k;cases i;simp only[On]at r;obtain⟨v,n,rfl,r1,r2⟩:=r;obtain⟨o,b,d,g⟩:=Hs s l r1;obtain⟨m,a,c,f⟩:=h d j (r2.frm b);exact⟨m,b.trans a,c,aU (g.mono a.ext fun _ _ z=>z) f⟩
theorem Kz[Ol]{fn:Fn}{args:List AV}{vs:List V}{Q:VK}(s:Sim mg P φ st H)(r:On mg P H [] args vs)(h:KG mg RA P φ H ((fn args []).bind fun p=>(fj p.2 p.1).map fun t=>(t,st)) Q):∃P φ args st,On mg P H φ args vs/\Sim mg P φ st H/\KG mg RA P φ H (fn args st) Q:=by
 obtain⟨t,l,e,k⟩:=h;obtain⟨p,y,x⟩:=zA e;obtain⟨A,v,u⟩:=zE.mp x;cases u;refine⟨P,[],args,[],r,Sim.nil s.dom s.tb,p.1,p.2,y,fun i d j w b c r1=>?_⟩;obtain⟨m,em,nm⟩:=b.new;have g:∀a,H a≠Á->(∀o,H a≠À (.tbl o))->j a=H a:=fun a h=>b.keep a h (by simp)
 have q:=s.ckeep (fun a h=>(b.ext a h).2) g;have nn:∀a,(i a\/a∈d)->P a\/H a=Á:=fun a h=>by
  rcases h with h|h
  ·rcases b.pn a h with z|z|z
   ·exact .inl z
   ·exact .inr z
   ·cases z
  ·rw[em]at h;exact .inr (nm a h)
 refine k (fun a=>i a\/a∈d) φ j w ⟨fun a h=>⟨.inl (b.ext a h).1,(b.ext a h).2⟩,⟨[],by simp,by simp⟩,fun a h _ z=>g a h z,fun a h=>?_,b.sm,b.fz⟩ (s.stay (fun a h=>⟨.inl (b.ext a h).1,(b.ext a h).2⟩) q (fun a h n z=>?_) (fun a h=>?_) fun t f=>⟨(c.tb t f).1,fun z=>z.elim (c.tb t f).2 (c.tnc f)⟩) (RA.lift (sy c 6 _ _ _ v r1))
 ·rcases nn a h with z|z
  ·exact .inl z
  ·exact .inr (.inl z)
 ·rcases nn a z with z|z
  ·exact n z
  ·exact s.cd a h z
 ·rcases h with h|h
  ·exact c.dom a h
  ·exact c.cd a h
theorem IW[Ol]{n:Nat}(h:dR mg n (pm fn) vs H Q E):dR mg n fn vs H Q E:=by
 obtain⟨S,P,o,J,M,r,s,k⟩:=h;refine⟨S,?_⟩;unfold pm at k;split at k
 ·rename_i R
  exact Kz s (On.rf R r) k
 ·obtain⟨t,y,e,k⟩:=k
  obtain⟨L,e1,e2⟩:=zA e;obtain⟨p,e3,e4⟩:=zA e2;obtain⟨t',Z,A⟩:=zA e4;split at A
  ·rename_i T
   cases A;have dm:∀a,(P a\/a∈o)->H a≠Á:=fun a h=>by
    rcases h with h|h
    ·exact s.dom a h
    ·exact s.cd a h
   refine⟨fun a=>P a\/a∈o,[],L,[],AK (fun v w t e r=>sy s 6 v w t e r) e1 r,Sim.nil dm (fun t g=>⟨(s.tb t g).1,fun z=>z.elim (s.tb t g).2 (s.tnc g)⟩),p.1,p.2,e3,fun B l C w d f r1=>?_⟩;obtain⟨m,em,nm⟩:=d.new;have D:∀a,H a≠Á->(∀O,H a≠À (.tbl O))->C a=H a:=fun a h=>d.keep a h (by simp)
   have F:=s.ckeep (fun a h=>(d.ext a (.inl h)).2) D;have u:∀a,P a->((B a\/a∈l)/\(a∈o->P a))/\C a=H a:=fun a h=>⟨⟨.inl (d.ext a (.inl h)).1,fun _=>h⟩,(d.ext a (.inl h)).2⟩
   refine k (fun a=>(B a\/a∈l)/\(a∈o->P a)) o C w ⟨u,⟨[],by simp,by simp⟩,fun a h _ z=>D a h z,fun a h=>?_,d.sm,d.fz⟩ (s.stay u F (fun a h n z=>n (z.2 h)) (fun a h=>?_) fun t g=>⟨(f.tb t g).1,fun z=>z.1.elim (f.tb t g).2 (f.tnc g)⟩) (RA.fl (fun a K W V=>⟨W,fun G=>?_⟩) T (sy f 6 _ _ _ Z r1))
   ·rcases h.1 with z|z
    ·rcases d.pn a z with z|z|z
     ·rcases z with z|z
      ·exact .inl z
      ·exact .inr (.inr z)
     ·exact .inr (.inl z)
     ·cases z
    ·rw[em]at z;exact .inr (.inl (nm a z))
   ·rcases h.1 with h|h
    ·exact f.dom a h
    ·exact f.cd a h
   ·obtain⟨j,I⟩:=z9 G
    obtain⟨c,U⟩:∃c,M[j]?=À c:=⟨_,zF (by rw[<- s.len];exact(zB.mp I).1)⟩;have i:=s.cell j c a U I;have b:H a=À (.tup K):=by rw[<- F a G];exact V
    cases c with
    |lst xs=>obtain⟨_,_,z,_⟩:=i;rw[b]at z;cases z
    |al t=>exact i.1
    |dK Oi=>obtain⟨_,_,z,_⟩:=i;rw[b]at z;cases z
    |dT Oi=>obtain⟨_,_,z,_⟩:=i;rw[b]at z;cases z
    |ins c fs=>obtain⟨_,_,_,_,_,z,_⟩:=i;rw[b]at z;cases z
    |wk Oi=>obtain⟨_,_,_,z,_⟩:=i;rw[b]at z;cases z
  ·obtain⟨q,e7,Y⟩:=zA A
   obtain⟨B,d,f,r1⟩:=Hq s e7 r;exact Kz f r1 ⟨t,y,Y,fun P2 x H2 w X N r2=>k P2 x H2 w (d.trans X) N r2⟩
end
theorem FnOk.pm[Ol]{P:Ò}{w:Û}{K:ã}{mg:Ì->Option Ä}{a:è}{k:Nat}{f:Ç}{fd:Ė}{ps:List Ì}{n:Nat}{fn:Fn}(F:FnOk P w K mg a fu k f fd ps (dR ⟨K,mg⟩ n fn)):FnOk P w K mg a fu k f fd ps (dR ⟨K,mg⟩ n (R.pm fn)) :=
 F.imp fun _ _ _ _ h=>IW h
def run(n:Nat)(b:SF):Fn:=fun a c=>(b (a.map À++Æ (n-a.length) Á) c).bind fun o=>match o with
 |.rt v c=>À (v,c)
 |.nx _ c=>À (.non,c)
 |_=>Á
theorem Dc[Ol](h:On mg P H φ args vs):Os mg P H φ (args.map À++Æ (N.length-args.length) Á) (L2.start N vs):=by
 have b:=h.length;unfold L2.start;refine⟨by simp[b],fun i v e=>?_⟩;have c:i<args.length:=by
  rcases yU i args.length with z|z
  ·exact z
  ·rw[z6 (by simpa using z),ð]at e
   split at e<;>cases e
 rw[zN (by simpa using c),zR]at e;rw[zN (by rw[zH,<- b];exact c),zR];cases a:args[i]? with
 |none=>rw[a]at e;cases e
 |some x =>
  rw[a]at e;cases e;obtain⟨w,d,r1⟩:=h.get a;exact⟨w,by rw[d];rfl,r1⟩
def CL(fn:Fn)(g:AF):EF:=fun b a=>(g b a).bind fun p=>fn p.1 p.2
section
variable{X:Cx}{x:Ì}{p pos:ģ}{e o:Î}{es:List Î}{k:Nat}{f:Ç}{fd:Ė}{ps:List Ì}{fn:Fn}{g:AF}{h:EF}
theorem Mf[Ol]{n:Nat}(m:∀sl st xs st',g sl st=À (xs,st')->xs.length=n)(q:rE mg (CL fn g) σ H Q):vU (dR mg n fn) [] E (rA mg g) σ H Q:=by
 refine e7 q fun P u sl st j s k=>?_
 refine i7 j s ?_;obtain⟨a,st',f,q⟩:=k.bind (Ra:=On);refine⟨a,st',f,fun r d t b o i r1=>?_⟩;obtain⟨p,c,e,xs,v,h,r2,l⟩:=q r d t b o i r1;rw[å];exact⟨by rw[<- r1.length];exact m _ _ _ _ f,p,c,xs,e,r2,h,l⟩
theorem DA[Ol](F:FnOk X.prog X.w X.K X.mg X.base fu k f fd ps (dR X.gm ps.length fn))(b:Room k X.A)(i:Gl X x)(d:X.mg x=À (.ref f))(h:Ĺ X.K (.ref f)=Â)(hb:Binds X.K fd ps [])
  (j:QA X (e::es) g) (c:∀sl st xs st',g sl st=À (xs,st')->xs.length=ps.length) (a:(x==("__debug__":Ì))=Ã) (he:Ê (e::es) X.env=(Ã,eval e X.env)::Ê es X.env) (hpl:(ý pos (Ê es X.env)).any (·.1)=Ã) :
  QE X (.Call (.Name x p) (e::es) [] pos) (CL fn g):=PE_imp (DX (E:=E0) F b i d h hb .nil oC j a he hpl) fun _ _ _ q=>Mf c q
theorem AR[Ol](F:FnOk X.prog X.w X.K X.mg X.base fu k f fd ps (dR X.gm ps.length fn))(e:Room k X.A)(j:Gl X x)(h:X.mg x=À (.ref f))(i:Ĺ X.K (.ref f)=Â)(hb:Binds X.K fd ps [])
  (g:ps.length=0) (a:(x==("__debug__":Ì))=Ã):QE X (.Call (.Name x p) [] [] pos) (CL fn fF):=PE_imp (Ba (E:=E0) F e j h i hb .nil oC a) fun l H Q q=>by
 refine e7 q fun P b m c n s d=>?_
 exact⟨by simp[g],P,b,[],c,bE,s,d⟩
def jK(st:aa)(c:Ì):AV->Option (List (Ì×AV))
 |.ref k=>match st[k]? with
  |some (.ins c' fs)=>if c'=c then À fs else Á
  |_=>Á
 |_=>Á
theorem oP(h:KVR mg P H φ fs ws)(f:Ì):(fs.lookup f=Á->ws.lookup f=Á)/\∀v,fs.lookup f=À v->∃w,ws.lookup f=À w/\RA mg P H φ v w:=by
 induction fs generalizing ws with
 |nil =>
  have:ws=[]:=by simpa using h.1.symm
  subst this;exact⟨fun _=>rfl,fun v e=>by cases e⟩
 |cons p fs k =>
  cases ws with
  |nil=>exact absurd h.1 (by simp)
  |cons q ws =>
   obtain⟨j,g⟩:=h;rw[zO,zO]at j g;injection j with h3 h4;simp only[On]at g;obtain⟨v,n,m,i,l⟩:=g;injection m with h8 h9;subst h8;subst h9;obtain⟨a,b⟩:=p;obtain⟨c,d⟩:=q;dsimp only at h3 i;subst h3;rw[yO,yO];cases hb:f==a with
   |true=>exact⟨fun z=>(by cases z),fun v z=>(by cases z;exact⟨d,rfl,i⟩)⟩
   |false=>exact k ⟨h4,l⟩
theorem oa[Ol]{mg:Gm}{P:Pr}{φ:List Ç}{st:aa}{H:Hp}{c:Ì}{v:AV}{w:V}{fs:List (Ì×AV)}(s:Sim mg P φ st H)(h:jK st c v=À fs)(r:RA mg P H φ v w) :
  ∃k a C dx ws,v=.ref k/\φ[k]?=À a/\¬P a/\w=.ref a/\mg.mg c=À (.ref C)/\H a=À (.ins C dx ws)/\KVR mg P H φ fs ws:=by
 cases v with
 |ref k =>
  simp only[jK]at h;split at h
  ·rename_i o m f
   split at h
   ·rename_i g
    cases h;subst g;simp only[RA]at r;obtain⟨a,d,rfl⟩:=r;obtain⟨p,b,n⟩:=s.at f;rw[d]at b;cases b;obtain⟨e,C,dx,ws,l,j,i⟩:=n;exact⟨k,a,C,dx,ws,rfl,d,e,rfl,l,j,i⟩
   ·cases h
  ·cases h
 |_=>cases h
def CK(c m:Ì)(fn:Fn)(h:EF)(g:AF):EF:=fun a b=>(h a b).bind fun p=>(jK p.2 c p.1).bind fun fs=>if(fs.lookup m).isNone=Â then(g a p.2).bind fun q=>fn (p.1::q.1) q.2 else Á
theorem GU[Ol]{n:Nat}(K:mg.mg c=À (.ref C))(I:∀sl st xs st',g sl st=À (xs,st')->xs.length+1=n)(q:rE mg (CK c m fn h g) σ H Q):vT C m (dR mg n fn) [] E (rE mg h) (rA mg g) σ H Q:=by
 refine e7 q fun P φ sl st o s G=>?_
 obtain⟨v,st',e,k⟩:=G;obtain⟨p,T,S⟩:=zA e;obtain⟨fs,R,i⟩:=zA S;split at i
 ·rename_i J
  obtain⟨q,x,O⟩:=zA i;refine i7 o s ⟨p.1,p.2,T,fun Y f H1 w u l r1=>?_⟩;obtain⟨j,a,C',U,y,h1,h2,h3,rfl,r,M,L⟩:=oa l R r1;rw[K]at r;cases r;refine⟨a,U,y,rfl,M,(oP L m).1 (by simpa using J),Y,f,sl,p.2,o.frm u,l,q.1,q.2,x,fun X d H2 A t D r2=>?_⟩;show dR mg n fn (V.ref a::(A++[])) H2 Q E;rw[å];exact⟨by rw[yY,<- r2.length];exact I _ _ _ _ x,X,d,p.1::q.1,q.2,aU (r1.frm t) r2,D,v,st',O,fun W b Z z N B F=>k W b Z z ((u.trans t).trans N) B F⟩
 ·cases i
theorem Dy[Ol](i:QE X o h)(cl:Cls X.K C)(p:X.mg c=À (.ref C))(l:kO X.K C m f)(F:FnOk X.prog X.w X.K X.mg X.base fu k f fd ps (dR X.gm ps.length fn))(d:Room k X.A)(hb:Binds X.K fd ps [])
  (n:QA X (e::es) g) (j:∀sl st xs st',g sl st=À (xs,st')->xs.length+1=ps.length) (a:Ê (e::es) X.env=(Ã,eval e X.env)::Ê es X.env) (hpl:(ý pos (Ê es X.env)).any (·.1)=Ã)
  (b:eval (.Call (.Attribute o m apos) (e::es) [] pos) X.env=(do
   let ov <- eval o X.env
   ŕ apos.atName
   let(f,first) <- holding [ov] (ş ov m pl)
   ŧ pos f first (ý pos (Ê (e::es) X.env)) (Ŋ pos (ĕ [] X.env)))):QE X (.Call (.Attribute o m apos) (e::es) [] pos) (CK c m fn h g) :=
 PE_imp (DT (E:=E0) i cl l F d hb .nil oC n a hpl b) fun _ _ _ q=>GU p j q
theorem AQ[Ol](J:QE X o h)(cl:Cls X.K C)(M:X.mg c=À (.ref C))(L:kO X.K C m f)(F:FnOk X.prog X.w X.K X.mg X.base fu k f fd ps (dR X.gm ps.length fn))(I:Room k X.A)(hb:Binds X.K fd ps [])
  (K:ps.length=1)
  (G:eval (.Call (.Attribute o m apos) [] [] pos) X.env=(do
   let ov <- eval o X.env
   ŕ apos.atName
   let(f,first) <- holding [ov] (ş ov m pl)
   ŧ pos f first (ý pos (Ê [] X.env)) (Ŋ pos (ĕ [] X.env)))):QE X (.Call (.Attribute o m apos) [] [] pos) (CK c m fn h fF) :=
 PE_imp (A5 (E:=E0) J cl L F I hb .nil oC G) fun σ H Q q=>by
  obtain⟨P,Z,x,t,B,s,v,b,e,k⟩:=GU (E:=E0) (C:=C) M (g:=fF) (n:=1) (fun x t l b e=>by cases e;rfl) q;refine i7 B s ⟨v,b,e,fun Y i j w T z r1=>?_⟩;obtain⟨a,V,fs,S,R,O,N⟩:=k Y i j w T z r1;refine⟨a,V,fs,S,R,O,?_⟩;obtain⟨W,d,u,r,A,y,l,p,U,D⟩:=N;cases U
  have:=D W d j [] Frm.refl y bE
  rw[K];exact this
def Ae(c:Ì)(fn:Fn)(g:AF):EF:=fun b a=>(g b a).bind fun p=>(fn (.ref p.2.length::p.1) (p.2++[.ins c []])).bind fun q=>match q.1 with
 |.non=>À (.ref p.2.length,q.2)
 |_=>Á
theorem Eb[Ol]{mg:Gm}{P:Pr}{φ:List Ç}{st:aa}{H:Hp}{c:Ì}{C x b:Ç}(s:Sim mg P φ st H)(m:mg.mg c=À (.ref C))(l:H x=Á)(hd:H b=Á)(ne:b≠x) :
  Frm P φ H P (φ++[x]) (ak (ak H b (.own x)) x (.ins C b []))/\Sim mg P (φ++[x]) (st++[.ins c []]) (ak (ak H b (.own x)) x (.ins C b [])):=by
 have f:∀a,H a≠Á->a≠b:=fun a h e=>h (by rw[e];exact hd)
 have g:Frm P φ H P φ (ak H b (.own x)):=⟨fun a h=>⟨h,ad (f a (s.dom a h))⟩,⟨[],by simp,by simp⟩,fun a h _ _=>ad (f a h),fun a h=>.inl h,fun a h=>by rw[ad (f a h)];exact h,fun a o u h=>by rw[ad (aX h hd)];exact h⟩;have i:Sim mg P φ st (ak H b (.own x)):=s.stay g.ext (fun a h=>ad (f a (s.cd a h))) (fun _ _ h=>h) (fun a h=>g.sm a (s.dom a h)) fun t j=>⟨(s.tb t j).1.new hd,(s.tb t j).2⟩
 have d:ak H b (.own x) x=Á:=by rw[ad (ç ne)];exact l
 obtain⟨n,k⟩:=nZ (c:=.ins c []) (o:=.ins C b []) i d ⟨fun z=>i.dom x z d,C,b,[],m,aB,rfl,bE⟩;exact⟨g.trans n,k⟩
theorem LQ[Ol]{mg:Gm}{c:Ì}{C:Ç}{n:Nat}{E:XK}{σ:St}{H:Hp}{Q:VK}(D:mg.mg c=À (.ref C))(B:∀sl st xs st',g sl st=À (xs,st')->xs.length+1=n)(q:rE mg (Ae c fn g) σ H Q):B8 C (dR mg n fn) [] E (rA mg g) σ H Q:=by
 refine e7 q fun P M sl st y s z=>?_
 obtain⟨v,st',e,k⟩:=z;obtain⟨p,m,I⟩:=zA e;obtain⟨q,G,b⟩:=zA I;refine i7 y s ⟨p.1,p.2,m,fun r a L N F h r1=>fun x o A hd ne=>?_⟩;obtain⟨l,u⟩:=Eb h D A hd ne;have rx:RA mg r (ak (ak L o (.own x)) x (.ins C o [])) (a++[x]) (.ref p.2.length) (.ref x):=by simp only[RA];exact⟨x,by rw[<- h.len];simp,rfl⟩
 rw[å];refine⟨by rw[yY,<- r1.length];exact B _ _ _ _ m,r,a++[x],_,_,aU rx (r1.frm l),u,q.1,q.2,G,fun J d K w j t f=>?_⟩;cases i:q.1 with
 |non =>
  rw[i]at b f;cases b;simp only[RA]at f;exact⟨f,k J d K (.ref x) ((F.trans l).trans j) t (rx.frm j)⟩
 |_=>rw[i]at b;cases b
theorem FW[Ol](M:Mk X.K C f)(F:FnOk X.prog X.w X.K X.mg X.base fu k f fd ps (dR X.gm ps.length fn))(d:Room (k+1) X.A)(i:Gl X c)(b:X.mg c=À (.ref C))(hb:Binds X.K fd ps [])
  (j:QA X (e::es) g) (h:∀sl st xs st',g sl st=À (xs,st')->xs.length+1=ps.length) (a:(c==("__debug__":Ì))=Ã) (he:Ê (e::es) X.env=(Ã,eval e X.env)::Ê es X.env) (hpl:(ý pos (Ê es X.env)).any (·.1)=Ã) :
  QE X (.Call (.Name c p) (e::es) [] pos) (Ae c fn g):=PE_imp (DU (E:=E0) M F d i b hb .nil oC j a he hpl) fun _ _ _ q=>LQ b h q
def K4(c fl:Ì)(h:EF):EF:=fun b a=>(h b a).bind fun p=>(jK p.2 c p.1).bind fun fs=>(fs.lookup fl).map fun v=>(v,p.2)
theorem FX[Ol](y:QE X o h)(cl:Cls X.K C)(z:X.mg c=À (.ref C))(u:NoAttr X.K C fl)(hb:Ě o fl X.env (eval o X.env)=eval o X.env):QE X (.Attribute o fl apos) (K4 c fl h) :=
 PE_imp (Go y hb) fun R H Q f=>by
  refine e7 f fun P O T S q s r=>?_
  obtain⟨v,n,e,k⟩:=r;obtain⟨p,K,J⟩:=zA e;obtain⟨fs,I,G⟩:=zA J;obtain⟨t,F,E⟩:=zE.mp G;cases E;refine i7 q s ⟨p.1,p.2,K,fun M b N w D g r1=>?_⟩;obtain⟨j,a,l,L,m,W,V,U,rfl,i,B,A⟩:=oa g I r1;have:l=C:=by rw[show X.gm.mg c=X.mg c from rfl,z]at i;cases i;rfl
  subst this;obtain⟨w,x,d⟩:=(oP A fl).2 _ F;exact⟨a,l,L,m,w,rfl,B,cl,u,x,k M b N w D g d⟩
noncomputable def jo(f:Ì)(v:AV):List (Ì×AV)->List (Ì×AV)
 |[]=>[(f,v)]
 |(g,x)::r=>if g=f then(g,v)::r else(g,x)::jo f v r
theorem xO{mg:Gm}{P:Pr}{H:Hp}{φ:List Ç}{f:Ì}{v:AV}{w:V}(r:RA mg P H φ v w):∀{fs:List (Ì×AV)}{ws:List (Ì×V)},KVR mg P H φ fs ws->KVR mg P H φ (jo f v fs) (d8 f w ws):=by
 intro fs
 induction fs with
 |nil =>
  intro ws h;have:ws=[]:=by simpa using h.1.symm
  subst this;exact⟨rfl,aU r bE⟩
 |cons p fs m =>
  intro ws h;cases ws with
  |nil=>exact absurd h.1 (by simp)
  |cons q ws =>
   obtain⟨l,g⟩:=h;rw[zO,zO]at l g;injection l with h3 h4;simp only[On]at g;obtain⟨u,o,n,k,j⟩:=g;injection n with h8 h9;subst h8;subst h9;obtain⟨a,b⟩:=p;obtain⟨c,d⟩:=q;dsimp only at h3 k;subst h3;have i:=m (ws:=ws) ⟨h4,j⟩;unfold jo d8;by_cases e:a=f
   ·rw[yI e,yI e]
    exact⟨by rw[zO,zO,h4],aU r j⟩
   ·rw[yH e,yH e]
    exact⟨by rw[zO,zO,i.1],aU k i.2⟩
def xF(c fl:Ì)(h f:EF):SF:=fun a b=>(f a b).bind fun p=>(h a p.2).bind fun q=>match q.1 with
 |.ref k=>(jK q.2 c (.ref k)).bind fun fs=>if ä fs.length 900=Â then À (.nx a (q.2.set k (.ins c (jo fl p.1 fs)))) else Á
 |_=>Á
theorem FI[Ol](R:QE X o h)(O:QE X e f')(cl:Cls X.K C)(y:X.mg c=À (.ref C))(M:NoAttr X.K C fl)(Q:ļ e (À (.Attribute o fl pos')) pos.line X.env=pure Ã):QS X (.Assign [.Attribute o fl pos'] e pos) (xF c fl h f') :=
 PS_imp (F6 R O Q) fun D G H l=>by
  refine e7 l fun P φ I st k s L=>?_
  obtain⟨out,W,q⟩:=L;obtain⟨p,e1,e2⟩:=zA W;obtain⟨r,Z,v⟩:=zA e2;split at v
  ·rename_i j T
   obtain⟨fs,Y,u⟩:=zA v;split at u
   ·rename_i S
    cases u;refine i7 k s ⟨p.1,p.2,e1,fun P1 g H1 w1 t K r1=>⟨P1,g,I,p.2,k.frm t,K,r.1,r.2,Z,fun P2 f H2 w2 n x r2=>?_⟩⟩;rw[T]at r2;obtain⟨j',a,d,w,i,V,U,m,rfl,E,B,A⟩:=oa x Y r2;cases V;have:d=C:=by rw[show X.gm.mg c=X.mg c from rfl,y]at E;cases E;rfl
    subst this;have N:i.length<1000:=by
     have z:=congrArg ō A.1;rw[zH,zH]at z
     have:=zS S
     lia
    obtain⟨F,J⟩:=iR (c:=.ins c (jo fl p.1 fs)) (o:=.ins d w (d8 fl w1 i)) x U m ⟨m,d,w,_,y,aB,(xO (r1.frm n) A).mono (fun b h=>⟨h,ad fun e=>m (e▸h)⟩) fun _ _ z=>z⟩ (fun _ _ z=>by rw[B]at z;cases z);exact⟨a,d,w,i,rfl,B,cl,M,N,q P2 f _ G ((t.trans n).trans F) J (((k.frm t).frm n).frm F)⟩
   ·cases u
  ·cases v
end
open DD (obj_list obj_tup minL minL_eq cnt_vals)
abbrev BF:=List AV->aa->Option (AV×aa)
def rB[Ol](mg:Gm)(k:BF):List V->Hp->VK->Prop:=fun d H Q=>∃P a c b,Sim mg P a c H/\On mg P H a b d/\KG mg RA P a H (k b c) Q
def uj(k:BF)(g:AF):EF:=fun b a=>(g b a).bind fun p=>k p.1 p.2
theorem BQ[Ol](q:rE mg (uj k g) σ H Q):Fe (rB mg k) (rA mg g) σ H Q:=by
 refine e7 q fun P v x w l s m=>?_
 refine i7 l s ?_;obtain⟨a,f,p,q⟩:=m.bind (Ra:=On);refine⟨a,f,p,fun t d u b o j r1=>?_⟩;obtain⟨r,c,e,h,y,i,r2,n⟩:=q t d u b o j r1;exact⟨r,c,e,h,i,r2,n⟩
def bo(h:aa->List AV->Option AV):BF:=fun b a=>(h a b).map fun z=>(z,a)
section
variable{X:Cx}{x:Ì}{p pos:ģ}{e o a:Î}{es:List Î}{g:AF}{k:BF}{bid T:String}
theorem ku[Ol](h:cJ X (.builtin bid) (rB X.gm k))(f:Gl X x)(d:X.mg x=Á)(b:à x=À (.builtin bid))(i:QA X (e::es) g)(c:x≠"__name__")(a:(x==("__debug__":Ì))=Ã)
  (he:Ê (e::es) X.env=(Ã,eval e X.env)::Ê es X.env) (hpl:(ý pos (Ê es X.env)).any (·.1)=Ã):QE X (.Call (.Name x p) (e::es) [] pos) (uj k g) :=
 PE_imp (A9 h f d b i c a he hpl) fun _ _ _ q=>BQ q
theorem IP[Ol](h:cJ X (.type T) (rB X.gm k))(f:Gl X x)(d:X.mg x=Á)(b:à x=À (.type T))(i:QA X (e::es) g)(c:x≠"__name__")(a:(x==("__debug__":Ì))=Ã)
  (he:Ê (e::es) X.env=(Ã,eval e X.env)::Ê es X.env) (hpl:(ý pos (Ê es X.env)).any (·.1)=Ã):QE X (.Call (.Name x p) (e::es) [] pos) (uj k g) :=
 PE_imp (qD h f d b i c a he hpl) fun _ _ _ q=>BQ q
theorem On.one{mg:Gm}{P:Pr}{H:Hp}{φ:List Ç}{x:AV}{vs:List V}(h:On mg P H φ [x] vs):∃v,vs=[v]/\RA mg P H φ x v:=by
 simp only[On]at h;obtain⟨v,a,rfl,r,rfl⟩:=h;exact⟨v,rfl,r⟩
theorem On.two{mg:Gm}{P:Pr}{H:Hp}{φ:List Ç}{x y:AV}{vs:List V}(h:On mg P H φ [x,y] vs):∃v w,vs=[v,w]/\RA mg P H φ x v/\RA mg P H φ y w:=by
 simp only[On]at h;obtain⟨v,b,rfl,r,w,c,rfl,a,rfl⟩:=h;exact⟨v,w,rfl,r,a⟩
theorem pO(h:cJ X f r)(i:∀xs H Q,r' xs H Q->r xs H Q):cJ X f r':=fun e s a H xs b Q I c d=>h e s a H xs b Q I c (i xs H Q d)
def dB(st:aa):List AV->Option AV
 |[v]=>match bI st v with
  |some xs=>À (.int xs.length)
  |none=>match jl st v with
   |some xs=>À (.int xs.length)
   |none=>match v with
    |.str x=>if cO x.length=Â then À (.int x.length) else Á
    |v=>match jB st v with
     |some Oi=>À (.int Oi.length)
     |none=>(ny st v).map fun Oi=>.int Oi.length
 |_=>Á
theorem wN:cJ X (.builtin "len") (fun xs H Q=>∃a Oi,xs=[V.ref a]/\H a=À (.dK Oi)/\Q (.int Oi.length) H):=by
 intro k s i H xs j Q I r h;obtain⟨a,Oi,rfl,f,q⟩:=h;obtain⟨u,rfl,d⟩:=d6 r;cases d;obtain⟨z,hd,c,b,g⟩:=Cw I.Op f;have e:Oi.length=c.length:=Paired.length b;have hz:Ë=16777216:=ϖ;exact call_len_dict hd g oM ⟨.int _,H,I.tok _,⟨_,by rw[e]⟩,q⟩
theorem JW[Ol]:cJ X (.builtin "len") (rB X.gm (bo dB)):=by
 rintro l s d H m f Q I g ⟨P,J,E,K,o,r,B⟩;obtain⟨z,e,k⟩:=B.map;clear B;unfold dB at e;split at e
 ·rename_i v
  obtain⟨w,F,A⟩:=r.one;clear r;subst F;have r:=A;clear A;have ay:∀n:Nat,z=.int n->Q (.int n) H:=fun n h=>by subst h;exact k.pure o (by simp only[RA])
  split at e
  ·rename_i D u
   cases e;obtain⟨a,m,rfl,y,b⟩:=r.ls o u;exact l7 l s d H _ f Q I g ⟨a,m,rfl,.inl y,by rw[<- b.length];exact ay _ rfl⟩
  ·split at e
   ·rename_i D u
    cases e;obtain⟨a,m,rfl,y,b⟩:=r.tp o u;exact l7 l s d H _ f Q I g ⟨a,m,rfl,.inr (.inl (.inl y)),by rw[<- b.length];exact ay _ rfl⟩
   ·cases v with
    |str x =>
     dsimp only at e;split at e
     ·rename_i hz
      cases e;simp only[RA]at r;subst r;exact tX l s d H _ f Q I g ⟨x,rfl,jQ hz,ay _ rfl⟩
     ·cases e
    |ref j =>
     simp only[RA]at r;obtain⟨a,G,rfl⟩:=r;dsimp only[jB,ny]at e;cases t:E[j]? with
     |none=>rw[t]at e;cases e
     |some c =>
      rw[t]at e;obtain⟨L,i,C⟩:=o.at t;rw[G]at i;cases i;cases c with
      |dK Oi =>
       cases e;obtain⟨_,p,b,q⟩:=C
       have:=congrArg ō q.1
       rw[zH,zH]at this;exact wN l s d H _ f Q I g ⟨a,p,rfl,b,by rw[<- this];exact ay _ rfl⟩
      |dT Oi =>
       cases e;obtain⟨_,p,b,q⟩:=C
       have:=congrArg ō q.1
       rw[zH,zH]at this;exact zx l s d H _ f Q I g ⟨a,p,rfl,b,by rw[<- this];exact ay _ rfl⟩
      |_=>cases e
    |_=>cases e
 ·cases e
def mC:List AV->Option (List Int):=bn fun x=>match x with
 |.int i=>À i
 |_=>Á
theorem yy(h:mC xs=À ns):xs=ns.map .int:=by
 unfold mC at h
 induction xs generalizing ns with
 |nil=>cases h;rfl
 |cons x xs b =>
  simp only [bn] at h;obtain ⟨y,a,e⟩:=zA h;obtain ⟨f,d,c⟩:=zE.mp e;subst c;cases x <;> first | (cases a;done) | skip
  cases a;rw[b d];rfl
def lsI(st:aa)(v:AV):Option (List Int):=(bI st v).bind mC
theorem RA.lsI[Ol]{mg:Gm}{P:Pr}{H:Hp}{φ:List Ç}{st:aa}{v:AV}{w:V}{ns:List Int}(s:Sim mg P φ st H)(r:RA mg P H φ v w)(h:R.lsI st v=À ns):∃a,w=.ref a/\bR mg.K H a (ns.map .int):=by
 obtain⟨f,e,d⟩:=zA h;obtain⟨a,g,rfl,b,c⟩:=r.ls s e
 have:=yy d
 subst this;rw[c.ints]at b;exact⟨a,rfl,b⟩
def nV(st:aa):List AV->Option AV
 |[v]=>(lsI st v).map fun ns=>.int ns.sum
 |_=>Á
theorem JT[Ol](t:X.calm=Â):cJ X (.builtin "sum") (rB X.gm (bo nV)):=by
 rintro K s C H D E Q I m ⟨P,B,G,xs,f,r,h⟩;obtain⟨z,e,k⟩:=h.map;clear h;unfold nV at e;split at e
 ·rename_i v
  obtain⟨w,x,g⟩:=r.one;clear r;subst x;have r:=g;clear g;obtain⟨c,y,rfl⟩:=zE.mp e;obtain⟨a,rfl,A⟩:=r.lsI f y;obtain⟨u,rfl,n⟩:=d6 m;cases n;obtain⟨d,o,p,_⟩:=I.list A;have j:ſ d c:=kD o;obtain⟨b,i⟩:=j.allInts.items;refine sum_intListG (xs:=b) (I.ok.hd t) (by rw[<- i];exact p.isList) fun J F l q=>⟨.int c.sum,H,I.kept q,?_,k.pure f (by simp only[RA])⟩
  have:(preSum (u! b) b.size)=c.sum:=by
   rw[preSum_eq,ô (by simp),<- E?,<- i];rw[show d.toArray.toList=d from rfl,j.numsOf]
  rw[this];exact⟨l,rfl⟩
 ·cases e
noncomputable def ox:AV->Option Bool
 |.bl b=>À b
 |.int i=>À (i !=0)
 |_=>Á
def uh(st:aa):List AV->Option AV
 |[v]=>(bI st v).bind fun xs=>(bn ox xs).map fun bs=>.bl (bs.all id)
 |_=>Á
def ug(st:aa):List AV->Option AV
 |[v]=>(bI st v).bind fun xs=>(bn ox xs).map fun bs=>.bl (bs.any id)
 |_=>Á
theorem xt[Ol]:∀{xs:List AV}{vs:List V}{us:List Ä}{bs:List Bool},bn ox xs=À bs->On mg P H φ xs vs->Vals vs us->bs.length=us.length/\∀(i:Nat) u,us[i]?=À u->u=.bool (bs.getD i Â)\/∃n t,u=.int n t/\(n !=0)=bs.getD i Â:=by
 intro xs
 induction xs with
 |nil=>intro vs us bs e r q;cases e;simp only[On]at r;subst r;cases q;exact⟨rfl,fun i u h=>by simp at h⟩
 |cons x xs d =>
  intro vs us bs e r q;simp only[bn]at e;obtain⟨y,a,l⟩:=zA e;obtain⟨m,k,j⟩:=zE.mp l;subst j;simp only[On]at r;obtain⟨v,o,rfl,r1,r2⟩:=r;cases q with
  |cons b c =>
   obtain⟨g,f⟩:=d k r2 c;refine⟨by simp[g],fun i u h=>?_⟩;cases i with
   |zero =>
    simp at h;subst h;cases x <;> first | (cases a;done) | skip
    ·cases a;simp only[RA]at r1;subst r1;cases b;exact .inl rfl
    ·cases a;simp only[RA]at r1;subst r1;obtain⟨t,rfl⟩:=b;exact .inr ⟨_,t,rfl,rfl⟩
   |succ i=>simpa using f i u (by simpa using h)
theorem EL(bs:List Bool)(n:Nat)(h:bs.length=n):(È n).all (fun i=>bs.getD i Â)=bs.all id:=by
 subst h;rw[ϴ,yR,yR];constructor
 ·intro h x c
  obtain⟨i,b,rfl⟩:=H! c
  have:=h i (by simp[b])
  simpa [b] using this
 ·intro h i b
  have a:i<bs.length:=by simpa using b
  have:=h bs[i] (Ó a)
  simpa [a] using this
theorem EK(bs:List Bool)(n:Nat)(h:bs.length=n):(È n).any (fun i=>bs.getD i Â)=bs.any id:=by
 subst h;rw[ϴ,Ĭ,Ĭ];constructor
 ·rintro⟨i,b,h⟩
  have a:i<bs.length:=by simpa using b
  exact⟨bs[i],Ó a,by simpa [a] using h⟩
 ·rintro⟨x,c,h⟩
  obtain⟨i,b,rfl⟩:=H! c;exact⟨i,by simp[b],by simpa [b] using h⟩
theorem JZ[Ol](D:X.calm=Â):cJ X (.builtin "all") (rB X.gm (bo uh)):=by
 rintro Og s O H m T Q I o ⟨P,N,V,S,g,r,j⟩;obtain⟨z,e,k⟩:=j.map;clear j;unfold uh at e;split at e
 ·rename_i v
  obtain⟨w,F,h⟩:=r.one;clear r;subst F;have r:=h;clear h;obtain⟨R,K,J⟩:=zA e;obtain⟨bs,G,rfl⟩:=zE.mp J;obtain⟨a,m,rfl,L,x⟩:=r.ls g K;obtain⟨u,rfl,p⟩:=d6 o;cases p;obtain⟨M,q,y,_⟩:=I.list L;obtain⟨c,f⟩:=xt G x q;have d:=y.isList;have b:a<s.heap.objs.size:=by obtain⟨_,e,_⟩:=d;exact yJ e
  refine call_all_walk (Ć d ⟨_,_,_,_,_,_,fun i=>bs.getD i Â,rfl,Walks.list (A:=X.A.in1) (I.ok.hd D) _ a (zU b) M.toArray,⟨⟨_,zY _ rfl,rfl,rfl⟩,d.push _⟩,?_,fun Y U C=>?_⟩)
  ·intro i v W Z E2 E l
   rcases f i v (by simpa using E) with rfl|⟨n,t,rfl,B⟩
   ·exact ą l
   ·exact ż (by rw[B];exact l)
  ·refine⟨.bl (bs.all id),H,I.kept (old_kept C),?_,k.pure g (by simp only[RA])⟩
   rw[EL bs _ (by simpa using c)];rfl
 ·cases e
theorem JY[Ol](D:X.calm=Â):cJ X (.builtin "any") (rB X.gm (bo ug)):=by
 rintro Og s O H m T Q I o ⟨P,N,V,S,g,r,j⟩;obtain⟨z,e,k⟩:=j.map;clear j;unfold ug at e;split at e
 ·rename_i v
  obtain⟨w,F,h⟩:=r.one;clear r;subst F;have r:=h;clear h;obtain⟨R,K,J⟩:=zA e;obtain⟨bs,G,rfl⟩:=zE.mp J;obtain⟨a,m,rfl,L,x⟩:=r.ls g K;obtain⟨u,rfl,p⟩:=d6 o;cases p;obtain⟨M,q,y,_⟩:=I.list L;obtain⟨c,f⟩:=xt G x q;have d:=y.isList;have b:a<s.heap.objs.size:=by obtain⟨_,e,_⟩:=d;exact yJ e
  refine call_any_walk (Ć d ⟨_,_,_,_,_,_,fun i=>bs.getD i Â,rfl,Walks.list (A:=X.A.in1) (I.ok.hd D) _ a (zU b) M.toArray,⟨⟨_,zY _ rfl,rfl,rfl⟩,d.push _⟩,?_,fun Y U C=>?_⟩)
  ·intro i v W Z E2 E l
   rcases f i v (by simpa using E) with rfl|⟨n,t,rfl,B⟩
   ·exact ą l
   ·exact ż (by rw[B];exact l)
  ·refine⟨.bl (bs.any id),H,I.kept (old_kept C),?_,k.pure g (by simp only[RA])⟩
   rw[EK bs _ (by simpa using c)];rfl
 ·cases e
def ui(_:aa):List AV->Option AV
 |[.int i]=>À (.int (if i<0 then -i else i))
 |_=>Á
theorem J1[Ol]:cJ X (.builtin "abs") (rB X.gm (bo ui)):=pO BO fun i H Q a=>by
 obtain⟨P,g,j,h,c,r,d⟩:=a;obtain⟨z,e,k⟩:=d.map;unfold ui at e;split at e
 ·cases e
  obtain⟨w,f,b⟩:=r.one;clear r;subst f;have r:=b;clear b;simp only[RA]at r;exact⟨_,by rw[r],k.pure c (by simp only[RA])⟩
 ·cases e
def p8(st:aa):List AV->Option AV
 |[.int i,.int j]=>À (.int (if j<i then j else i))
 |[v]=>(lsI st v).bind fun ns=>(minL ns).map .int
 |_=>Á
noncomputable def GV:List Int->Option Int
 |[]=>Á
 |x::xs=>À (xs.foldl (fun a b=>if a<b then b else a) x)
theorem LR:∀(xs:List Int)(x:Int),(xs.foldl (fun a b=>if a<b then b else a) x∈x::xs)/\∀a∈x::xs,a<=xs.foldl (fun a b=>if a<b then b else a) x:=by
 intro xs
 induction xs with
 |nil=>intro x;exact⟨by simp,by simp⟩
 |cons y xs f =>
  intro x;rw[ő];obtain⟨g,e⟩:=f (if x<y then y else x);refine⟨?_,fun a c=>?_⟩
  ·rcases zT.mp g with h|h
   ·rw[h];split<;>simp
   ·exact zQ _ (zQ _ h)
  ·have d:=e _ z7
   rcases zT.mp c with rfl|c
   ·refine Ň ?_ d;split<;>lia
   ·rcases zT.mp c with rfl|c
    ·refine Ň ?_ d;split<;>lia
    ·exact e a (zQ _ c)
theorem Eh{m x:Int}(h:GV ns=À m)(d:x∈ns)(c:∀a∈ns,a<=x):x=m:=by
 cases ns with
 |nil=>cases h
 |cons y ns =>
  obtain⟨a,b⟩:=LR ns y;have e:ns.foldl (fun a b=>if a<b then b else a) y=m:=by injection h
  rw[e]at a b
  have:=c m a
  have:=b x d
  lia
def wq(st:aa):List AV->Option AV
 |[.int i,.int j]=>À (.int (if j > i then j else i))
 |[v]=>(lsI st v).bind fun ns=>(GV ns).map .int
 |_=>Á
theorem JU[Ol](C:X.calm=Â):cJ X (.builtin "min") (rB X.gm (bo p8)):=by
 rintro U s E H Y F Q I p ⟨P,V,st,xs,h,r,x⟩;obtain⟨z,e,k⟩:=x.map;clear x;unfold p8 at e;split at e
 ·rename_i i j
  cases e;obtain⟨w,W,o,q,d⟩:=r.two;clear r;subst o;have r:=q;have g:=d;clear q d;simp only[RA]at r g;subst r;subst g;exact zv C U s E H _ F Q I p ⟨i,j,rfl,k.pure h (by simp only[RA])⟩
 ·rename_i v
  obtain⟨w,o,d⟩:=r.one;clear r;subst o;have r:=d;clear d;obtain⟨f,R,O⟩:=zA e;obtain⟨m,A,rfl⟩:=zE.mp O;obtain⟨a,rfl,S⟩:=r.lsI h R;obtain⟨u,rfl,G⟩:=d6 p;cases G;obtain⟨T,g,J,_⟩:=I.list S;have B:ſ T f:=kD g;obtain⟨c,y⟩:=B.allInts.items;have b:f=c.toList.map (·.1):=by rw[<- B.numsOf,<- E?,<- y]
  have l:0<c.size:=by
   cases f with
   |nil=>cases A
   |cons n f =>
    have:(n::f).length=c.size:=by rw[b,zH,ö]
    simp at this;lia
  refine min_intList (xs:=c) (I.ok.hd C) (by rw[<- y];exact J.isList) l fun v h' Z K L=>?_
  obtain⟨t,rfl⟩:=intItems_at K;obtain⟨h1,N⟩:=argBest_lt (u! c) (c.size-1);refine⟨.int m,H,I.kept L,?_,k.pure h (by simp only[RA])⟩;have e:u! c (argBest (fun i j=>decide (u! c i<u! c j)) (c.size-1))=m:=by
   refine minL_eq A ?_ fun a D=>?_
   ·rw[b,Q9];exact getD_mem (by rw[zH,ö];lia)
   ·rw[b]at D
    obtain⟨j,M,rfl⟩:=mem_getD D;rw[zH,ö]at M;rw[<- Q9];exact N j oM
  exact⟨t,by rw[e]⟩
 ·cases e
theorem JV[Ol](C:X.calm=Â):cJ X (.builtin "max") (rB X.gm (bo wq)):=by
 rintro U s E H Y F Q I p ⟨P,V,st,xs,h,r,x⟩;obtain⟨z,e,k⟩:=x.map;clear x;unfold wq at e;split at e
 ·rename_i i j
  cases e;obtain⟨w,W,o,q,d⟩:=r.two;clear r;subst o;have r:=q;have g:=d;clear q d;simp only[RA]at r g;subst r;subst g;exact zw C U s E H _ F Q I p ⟨i,j,rfl,k.pure h (by simp only[RA])⟩
 ·rename_i v
  obtain⟨w,o,d⟩:=r.one;clear r;subst o;have r:=d;clear d;obtain⟨f,R,O⟩:=zA e;obtain⟨m,A,rfl⟩:=zE.mp O;obtain⟨a,rfl,S⟩:=r.lsI h R;obtain⟨u,rfl,G⟩:=d6 p;cases G;obtain⟨T,g,J,_⟩:=I.list S;have B:ſ T f:=kD g;obtain⟨c,y⟩:=B.allInts.items;have b:f=c.toList.map (·.1):=by rw[<- B.numsOf,<- E?,<- y]
  have l:0<c.size:=by
   cases f with
   |nil=>cases A
   |cons n f =>
    have:(n::f).length=c.size:=by rw[b,zH,ö]
    simp at this;lia
  refine max_intList (xs:=c) (I.ok.hd C) (by rw[<- y];exact J.isList) l fun v h' Z K L=>?_
  obtain⟨t,rfl⟩:=intItems_at K;obtain⟨h1,N⟩:=argBest_gt (u! c) (c.size-1);refine⟨.int m,H,I.kept L,?_,k.pure h (by simp only[RA])⟩;have e:u! c (argBest (fun i j=>decide (u! c i > u! c j)) (c.size-1))=m:=by
   refine Eh A ?_ fun a D=>?_
   ·rw[b,Q9];exact getD_mem (by rw[zH,ö];lia)
   ·rw[b]at D
    obtain⟨j,M,rfl⟩:=mem_getD D;rw[zH,ö]at M;rw[<- Q9];exact N j oM
  exact⟨t,by rw[e]⟩
 ·cases e
def tB(_:aa):List AV->Option AV
 |[.int i]=>À (.int i)
 |[.bl b]=>À (.int (if b then 1 else 0))
 |_=>Á
theorem JX[Ol]:cJ X (.type "int") (rB X.gm (bo tB)):=pO zy fun i H Q b=>by
 obtain⟨P,g,j,h,d,r,f⟩:=b;obtain⟨z,e,k⟩:=f.map;unfold tB at e;split at e
 ·cases e
  obtain⟨w,c,a⟩:=r.one;clear r;subst c;have r:=a;clear a;simp only[RA]at r;exact .inl ⟨_,by rw[r],k.pure d (by simp only[RA])⟩
 ·cases e
  obtain⟨w,c,a⟩:=r.one;clear r;subst c;have r:=a;clear a;simp only[RA]at r;exact .inr ⟨_,by rw[r],k.pure d (by simp only[RA])⟩
 ·cases e
end
open DD (reads_each)
abbrev MF:=AV->List AV->aa->Option (AV×aa)
def rM[Ol](mg:Gm)(k:MF):V->List V->Hp->VK->Prop:=fun x e H Q=>∃P b d a c,Sim mg P b d H/\RA mg P H b a x/\On mg P H b c e/\KG mg RA P b H (k a c d) Q
def sj(T:String)(st:aa)(v:AV):Bool:=match v with
 |.str _=>T=="str"
 |.int _=>T=="int"
 |v=>if T="list" then(bI st v).isSome else if T="dict" then(jB st v).isSome||(ny st v).isSome else Ã
def nJ(T:String)(k:MF)(f:EF)(g:AF):EF:=fun a b=>(f a b).bind fun p=>if sj T p.2 p.1=Â then(g a p.2).bind fun q=>k p.1 q.1 q.2 else Á
section
variable{X:Cx}{e o:Î}{es:List Î}{f:EF}{g:AF}{k:MF}{name:Ì}{apos cpos:ģ}{T mid:String}
theorem C2[Ol]{P:Pr}{φ:List Ç}{st:aa}{H:Hp}{v:AV}{w:V}(s:Sim X.gm P φ st H)(r:RA X.gm P H φ v w)(h:sj T st v=Â):xf X.K T w H:=by
 have k:(if T="list" then(bI st v).isSome else if T="dict" then(jB st v).isSome||(ny st v).isSome else Ã)=Â->xf X.K T w H:=fun h=>by
  split at h
  ·rename_i d
   obtain⟨p,e⟩:=Ĵ.mp h;obtain⟨a,m,rfl,o,_⟩:=r.ls s e;exact .inl ⟨d,m,o⟩
  ·split at h
   ·rename_i d
    cases v with
    |ref j =>
     simp only[RA]at r;obtain⟨a,n,rfl⟩:=r;simp only[jB,ny]at h;cases i:st[j]? with
     |none=>rw[i]at h;simp at h
     |some c =>
      rw[i]at h;obtain⟨q,b,l⟩:=s.at i;rw[n]at b;cases b;cases c with
      |dK Oi=>obtain⟨_,f,g,_⟩:=l;exact .inr (.inr (.inl ⟨d,.inl ⟨f,g⟩⟩))
      |dT Oi=>obtain⟨_,f,g,_⟩:=l;exact .inr (.inr (.inl ⟨d,.inr ⟨f,g⟩⟩))
      |_=>simp at h
    |_=>simp[jB,ny]at h
   ·cases h
 unfold sj at h;cases v with
 |str x=>simp only[RA]at r;subst r;exact yK h
 |int x=>simp only[RA]at r;subst r;exact yK h
 |_=>exact k h
theorem GO[Ol](q:rE X.gm (nJ T k f g) σ H Q):Kq X.K T (rM X.gm k) (rE X.gm f) (rA X.gm g) σ H Q:=by
 refine e7 q fun P J n L i s x=>?_
 obtain⟨v,d,ev,y⟩:=x;obtain⟨p,D,e⟩:=zA ev;split at e
 ·rename_i z
  obtain⟨r,C,B⟩:=zA e;exact i7 i s ⟨p.1,p.2,D,fun G c N w l h r1=>⟨C2 h r1 z,G,c,n,p.2,i.frm l,h,r.1,r.2,C,fun F b M K j t r2=>⟨F,b,r.2,p.1,r.1,t,r1.frm j,r2,v,d,B,fun E a I m A o u=>y E a I m ((l.trans j).trans A) o u⟩⟩⟩
 ·cases e
theorem rn[Ol](j:y! T)(d:Slot T name mid)(i:typeOf (.builtin mid)=pure (.type "method_descriptor"))(n:nM X mid (rM X.gm k))(m:QE X o f)(p:QA X (e::es) g)
  (c:Ě o name X.env (eval o X.env)=eval o X.env)
  (h:((ý cpos (Ê (e::es) X.env)).all (fun x=>!x.1)&&(Ŋ cpos (ĕ [] X.env)).all (fun x=>x.1.isSome)
   && decide ((e::es).length+([]:List ŋ).length+(if([]:List ŋ).isEmpty then 0 else 1)<30))=Â)
  (b:(apos.endLine==cpos.line)=Â) (l:Ê (e::es) X.env=(Ã,eval e X.env)::Ê es X.env) (a:(ý cpos (Ê es X.env)).any (·.1)=Ã) :
  QE X (.Call (.Attribute o name apos) (e::es) [] cpos) (nJ T k f g):=PE_imp (Jc j d i n m p c h b l a) fun _ _ _ q=>GO q
theorem oB[Ol](u:y! T)(c:Slot T name mid)(h:typeOf (.builtin mid)=pure (.type "method_descriptor"))(A:nM X mid (rM X.gm k))(z:QE X o f)
  (b:Ě o name X.env (eval o X.env)=eval o X.env) (a:(apos.endLine==cpos.line)=Â):QE X (.Call (.Attribute o name apos) [] [] cpos) (nJ T k f fF) :=
 PE_imp (Gp u c h A z b a) fun I H Q q=>by
  obtain⟨P,G,L,K,t,s,v,g,ev,x⟩:=GO q;refine i7 t s ⟨v,g,ev,fun F e i w C p r1=>?_⟩;obtain⟨B,E,d,m,l,r,n,J,j,D,y⟩:=x F e i w C p r1;cases D;exact⟨B,y E d i [] Frm.refl n bE⟩
theorem oj(h:nM X mid r)(i:∀x xs H Q,r' x xs H Q->r x xs H Q):nM X mid r':=fun e s a H x xs v b Q I rx c d=>h e s a H x xs v b Q I rx c (i x xs H Q d)
def iN(st:aa):AV->Option (Nat×List AV)
 |.ref k=>match st[k]? with
  |some (.lst xs)=>À (k,xs)
  |_=>Á
 |_=>Á
theorem lY[Ol]{mg:Gm}{P:Pr}{φ:List Ç}{st:aa}{H:Hp}{v:AV}{w:V}{j:Nat}{xs:List AV}(s:Sim mg P φ st H)(r:RA mg P H φ v w)(h:iN st v=À (j,xs)):∃a vs,w=.ref a/\φ[j]?=À a/\¬P a/\H a=À (.lst vs)/\On mg P H φ xs vs:=by
 cases v with
 |ref i =>
  simp only[iN]at h;split at h
  ·rename_i k e
   cases h;simp only[RA]at r;obtain⟨a,c,rfl⟩:=r;obtain⟨l,b,d,vs,g,f⟩:=s.at e;rw[c]at b;cases b;exact⟨a,vs,rfl,c,d,g,f⟩
  ·cases h
 |_=>cases h
theorem pQ[Ol]{mg:Gm}{P:Pr}{φ:List Ç}{st:aa}{H:Hp}{j:Nat}{a:Ç}{ys:List AV}{us:List V}(s:Sim mg P φ st H)(k:φ[j]?=À a)(d:¬P a)(g:∃vs,H a=À (.lst vs))(r:On mg P H φ ys us) :
  Frm P φ H P φ (ak H a (.lst us))/\Sim mg P φ (st.set j (.lst ys)) (ak H a (.lst us))/\∀{t:AV}{w:V},RA mg P H φ t w->RA mg P (ak H a (.lst us)) φ t w:=by
 have ex:∀b,P b->P b/\ak H a (.lst us) b=H b:=fun b h=>⟨h,ad fun e=>d (e▸h)⟩
 obtain⟨i,f⟩:=iR (c:=.lst ys) (o:=.lst us) s k d ⟨d,us,aB,r.mono ex fun _ _ z=>z⟩ (fun _ _ z=>by obtain⟨vs,q⟩:=g;rw[q]at z;cases z);exact⟨i,f,fun h=>h.mono ex fun _ _ z=>z⟩
def sR:MF:=fun x b a=>match b with
 |[y]=>(iN a x).bind fun c=>if cO c.2.length=Â then À (.non,a.set c.1 (.lst (c.2++[y]))) else Á
 |_=>Á
theorem IA{n:Nat}(h:cO n=Â):n<Ë:=yM (zS h) dC
theorem Cl[Ol]:nM X "list.append" (rM X.gm sR):=oj qF fun x z H Q d=>by
 obtain⟨P,i,A,a,u,s,r,m,v,k,e,o⟩:=d;unfold sR at e;split at e
 ·rename_i y
  obtain⟨c,t,f⟩:=zA e;split at f
  ·rename_i hz
   cases f;obtain⟨b,j,rfl,q,n,h,g⟩:=lY s r t;obtain⟨w,rfl,r1⟩:=m.one;obtain⟨p,l,_⟩:=pQ s q n ⟨_,h⟩ (g.app (aU r1 bE));exact⟨b,j,w,rfl,rfl,h,by rw[<- g.length];exact IA hz,o P i _ _ p l (by simp only[RA])⟩
  ·cases f
 ·cases e
def wy:MF:=fun x b a=>match b with
 |[]=>(iN a x).bind fun c=>(c.2[c.2.length-1]?).map fun y=>(y,a.set c.1 (.lst c.2.dropLast))
 |_=>Á
theorem On.dropLast(h:On mg P H φ xs vs):On mg P H φ xs.dropLast vs.dropLast:=by
 rw[A',A',h.length];exact h.take _
theorem Ci[Ol]:nM X "list.pop" (rM X.gm wy):=oj GP fun x E H Q d=>by
 obtain⟨P,i,F,a,D,s,r,g,v,k,e,p⟩:=d;unfold wy at e;split at e
 ·obtain⟨c,C,B⟩:=zA e
  obtain⟨y,A,z⟩:=zE.mp B;cases z;obtain⟨b,j,rfl,t,n,h,f⟩:=lY s r C;simp only[On]at g;obtain⟨w,u,m⟩:=f.get A;obtain⟨q,l,o⟩:=pQ s t n ⟨_,h⟩ f.dropLast;exact⟨b,j,w,rfl,g,h,by rw[<- f.length];exact u,p P i _ _ q l (o m)⟩
 ·cases e
def wz:MF:=fun x d a=>match d with
 |[y]=>(iN a x).bind fun c=>(bI a y).bind fun b=>if cO (c.2.length+b.length)=Â then À (.non,a.set c.1 (.lst (c.2++b))) else Á
 |_=>Á
theorem Cj[Ol]:nM X "list.extend" (rM X.gm wz):=oj Eg fun x G H Q f=>by
 obtain⟨P,k,I,a,F,s,r,o,v,m,e,q⟩:=f;unfold wz at e;split at e
 ·rename_i y
  obtain⟨c,B,A⟩:=zA e;obtain⟨E,z,g⟩:=zA A;split at g
  ·rename_i hz
   cases g;obtain⟨b,l,rfl,u,p,j,i⟩:=lY s r B;obtain⟨w,rfl,r1⟩:=o.one;obtain⟨D,d,rfl,C,h⟩:=r1.ls s z;obtain⟨t,n,_⟩:=pQ s u p ⟨_,j⟩ (i.app h);exact⟨b,D,l,d,rfl,rfl,j,C,by rw[<- i.length,<- h.length];exact jQ hz,q P k _ _ t n (by simp only[RA])⟩
  ·cases g
 ·cases e
def Bm:MF:=fun x b a=>match b with
 |[y]=>(cC 9 a x).bind fun p=>(cC 9 a y).bind fun q=>match p with
  |.list ps=>if(ps.all fun r=>pyOk r q)=Â then À (.int ((ps.countP fun r=>Þ r q:Nat):Int),a) else Á
  |_=>Á
 |_=>Á
theorem Ck[Ol](hu:X.A.units+64<ř):nM X "list.count" (rM X.gm Bm):=by
 rintro Og s σ H x vs v us Q I rx l ⟨P,E,st,a,F,k,r,K,z,G,e,T⟩;unfold Bm at e;split at e
 ·rename_i y
  obtain⟨p,Z,Y⟩:=zA e;obtain⟨q,W,g⟩:=zA Y;split at g
  ·rename_i ps
   split at g
   ·rename_i Op
    cases g;obtain⟨w,rfl,r1⟩:=K.one;obtain⟨u,rfl,J⟩:=l.one;obtain⟨b,M⟩:=ik I k 9 _ _ _ _ r Z rx;obtain⟨bs,L⟩:=ik I k 9 _ _ _ _ r1 W J;cases M with
    |@list a o items n F i hg j hdt rall =>
     obtain⟨S,A,R,t⟩:=o;dsimp only at j hdt;subst j;subst hdt
     classical
     have C:∀z f c,ů s.heap z f c->decide (∃p b,ů s.heap z p b/\Þ p q=Â)=Þ f q:=by
      intro z f c d;rcases he:Þ f q with _|_
      ·refine yA ?_
       rintro⟨O,i,N,D⟩
       have:=(d? d O i N).1
       rw[<- this,he]at D;cases D
      ·exact yW ⟨f,c,d,he⟩
     refine Ŧ Ş ⟨_,hg,rfl⟩ PySem.F.entry_list_count (PySem.F.args_list_count_2 _ _) (PySem.SeqAt.list_countAt a items n A t u (fun z=>decide (∃p b,ů s.heap z p b/\Þ p q=Â))) ⟨hg,?_,?_⟩
     ·intro z hz
      obtain⟨m,c,B,d⟩:=reads_each rall z (by simpa using hz);obtain⟨V,U,k3⟩:=p4 (yR.mp Op m B);rw[C z m c d];exact Ϭ m q _ s z u c bs d L V U (by simp only[Around.in1_units];lia)
     ·have j:=cnt_vals (q:=q) (e:=fun z=>decide (∃p b,ů s.heap z p b/\Þ p q=Â)) (h:=s.heap) (vs:=items.toList) (ps:=ps) (fun v p b l=>C v p b l) rall
      rw[j];exact⟨.int _,H,I.kept (fun _ _ e=>e),⟨_,rfl⟩,T P E H _ Frm.refl k (by simp only[RA])⟩
   ·cases g
  ·cases g
 ·cases e
def K5(t:Bool):EF:=fun _ a=>À (.ref a.length,a++[if t=Â then .dT [] else .dK []])
theorem Dz[Ol](i:PE X (.Dict [] [] pos) xx):QE X (.Dict [] [] pos) (K5 Ã):=PE_imp i fun l H Q a=>by
 refine e7 a fun P k n m p s g=>?_
 obtain⟨v,b,e,h⟩:=g;cases e;intro d hd;obtain⟨j,f⟩:=nZ (c:=.dK []) (o:=.dK []) s hd ⟨fun z=>s.dom d z hd,[],aB,rfl,bE⟩;refine h P _ _ _ j f ?_;simp only[RA];exact⟨d,by rw[<- s.len];simp,rfl⟩
end
theorem tZ:à "min"=À (.builtin "min"):=by decide +kernel
def Bh(ns:List Int):AV:=match minL ns with
 |some m=>.int m
 |none=>.non
def oJ(st:aa):List AV->Option AV
 |[v]=>(lsI st v).map Bh
 |_=>Á
theorem GS(a:Ä):x! "min" ⟨[a],[(ć "default",.none)]⟩:=by unfold x!;kernel_rfl
theorem GR(a v:Ä):x! "min" ⟨[a],[(ć "key",v),(ć "default",.none)]⟩:=by unfold x!;kernel_rfl
theorem GT{α:Type}{l:List α}{x:α}(h:x∈l):∃i:Nat,l[i]?=À x:=z9 h
section
variable{X:Cx}{a:Î}{f:EF}{p pos kp pc:ģ}{j:Nat}
theorem Dx[Ol](M:X.calm=Â)(L:Gl X "min")(J:X.mg "min"=Á)(N:QE X a f)(q:Ê [a] X.env=[(Ã,eval a X.env)]) :
  QE X (.Call (.Name "min" p) [a] [⟨À "default",.Constant .none j pc,kp⟩] pos) (uj (bo oJ) (fV f fF)):=by
 intro S s C H Q I h;have hb:=BQ h;refine ÿ (dS I L J tZ (callWith_kw (aF ((dw N fH (by rw[q];rfl)) pos S s C H _ I hb) fun Z s1 ⟨Y,U,T,r1,E⟩=>?_) (by rw[q];rfl) (by rw[q];rfl) (by rfl) (by rfl)));refine kws_cons (I! (kws_nil ?_));obtain⟨P,V,st,W,o,r,F⟩:=E;obtain⟨z,e,k⟩:=F.map;unfold oJ at e;split at e
 ·rename_i v
  obtain⟨w,rfl,D⟩:=r.one;obtain⟨ns,R,B⟩:=zE.mp e;obtain⟨l,rfl,K⟩:=D.lsI o R;obtain⟨u,rfl,y⟩:=d6 r1;cases y;refine sM (ko:=Á) (ns:=ns) (I.ok.hd M) (fun i=>ns.getD i 0) (fun _ H=>H=U) (fun i H e=>by rw[e];exact K) rfl (GS _) (fun i n u pl s H c y x I=>.inl ⟨rfl,by simp[c],x⟩) (fun i n H c d x=>?_) (fun c=>?_) T rfl
  ·subst x
   have:minL ns=À n:=by
    cases A:minL ns with
    |none =>
     cases ns with
     |nil=>simp at c
     |cons _ _=>cases A
    |some m =>
     rw[minL_eq A (zW c) fun b hb=>?_];obtain⟨G,g⟩:=GT hb;have O:=(d G (zB.mp g).1).1;simpa [c,g] using O
   have t:z=.int n:=by rw[<- B];unfold Bh;rw[this]
   subst t;exact k.pure o (by simp only[RA])
  ·subst c
   have t:z=.non:=by rw[<- B];rfl
   subst t;exact k.pure o (by simp only[RA])
 ·cases e
end
def yp(key:EF)(sl:Sl)(st:aa)(n:Int):Option Int:=match key (sl++[À (.int n)]) st with
 |some (.int k,_)=>À k
 |_=>Á
noncomputable def mh:Int->Int->List (Int×Int)->Int
 |n,_,[]=>n
 |n,k,(m,j)::r=>if j<k then mh m j r else mh n k r
def qw:List (Int×Int)->AV
 |[]=>.non
 |(n,k)::r=>.int (mh n k r)
def rR(f key:EF):EF:=fun a c=>(f a c).bind fun p=>(lsI p.2 p.1).bind fun b=>(bn (yp key a p.2) b).map fun d=>(qw (b.zip d),p.2)
def CN(f:EF):Prop:=∀c b v a,f c b=À (v,a)->a=b
theorem mN:∀(r:List (Int×Int))(n k:Int),∃(i:Nat)(κ:Int),((n,k)::r)[i]?=À (mh n k r,κ)/\∀(j:Nat) q,((n,k)::r)[j]?=À q->κ<=q.2/\(j<i->κ<q.2)
 |[],n,k=>⟨0,k,rfl,fun j q e=>by
   cases j with
   |zero=>cases e;exact⟨ń _,fun h=>absurd h (xB _)⟩
   |succ j=>simp at e⟩
 |(m,j0)::r,n,k=>by
  by_cases hb:j0<k
  ·obtain⟨i,κ,e1,e2⟩:=mN r m j0
   refine⟨i+1,κ,by rw[ė];simpa [mh,hb] using e1,fun j q e=>?_⟩;cases j with
   |zero =>
    cases e
    have:=(e2 0 (m,j0) rfl).1
    exact⟨by show κ<=k;lia,fun _=>by show κ<k;lia⟩
   |succ j =>
    rw[ė]at e;exact⟨(e2 j q e).1,fun h=>(e2 j q e).2 oM⟩
  ·obtain⟨i,κ,e1,e2⟩:=mN r n k
   have b:mh n k ((m,j0)::r)=mh n k r:=by simp[mh,hb]
   have a:=(e2 0 (n,k) rfl).1;refine⟨if i=0 then 0 else i+1,κ,?_,fun j q e=>?_⟩
   ·rw[b]
    cases i with
    |zero=>simpa using e1
    |succ i=>simpa using e1
   ·cases j with
    |zero =>
     cases e;refine⟨a,fun h=>?_⟩;cases i with
     |zero=>simp at h
     |succ i=>exact(e2 0 (n,k) rfl).2 (W5 i)
    |succ j =>
     rw[ė]at e;cases j with
     |zero =>
      cases e;refine⟨by show κ<=j0;lia,fun h=>?_⟩;cases i with
      |zero=>simp at h
      |succ i =>
       have:=(e2 0 (n,k) rfl).2 (W5 i)
       show κ<j0;have:κ<k:=this;lia
     |succ j =>
      rw[ė]at e
      have:=e2 (j+1) q (by rw[ė];exact e)
      refine⟨this.1,fun h=>this.2 ?_⟩;cases i with
      |zero=>simp at h
      |succ i=>simp at h;lia
theorem EJ{ns ks:List Int}{i:Nat}{n:Int}(x:ns.length=ks.length)(f:ns[i]?=À n)(w:∀j,j<ns.length->ks.getD i 0<=ks.getD j 0/\(j<i->ks.getD i 0<ks.getD j 0)):qw (ns.zip ks)=.int n:=by
 have y:i<ns.length:=(zB.mp f).1;obtain⟨k,o⟩:∃k,ks[i]?=À k:=⟨_,zF oM⟩;have hz:(ns.zip ks)[i]?=À (n,k):=by rw[ë];exact⟨f,o⟩
 have hd:ks.getD i 0=k:=by simp[o]
 cases e:ns.zip ks with
 |nil=>rw[e]at hz;simp at hz
 |cons q r =>
  obtain⟨t,v⟩:=q;obtain⟨a,c,s,p⟩:=mN r t v;rw[<- e]at s p;have b:=ë.mp s;have g:a<ns.length:=(zB.mp b.1).1;have l:ks.getD a 0=c:=by simp[b.2]
  have m:=w a g;have m2:=p i (n,k) hz;rw[hd,l]at m;have u:c<=k:=m2.1;have d:i<a->c<k:=m2.2;have:i=a:=by
   rcases Nat.lt_trichotomy i a with h|h|h
   ·have:=d h;lia
   ·exact h
   ·have:=m.2 h;lia
  subst this;rw[f]at b
  have:=b.1
  simp only[qw];cases this;rfl
theorem sQ{α a:Type}{f:α->Option a}:∀{l:List α}{r:List a},bn f l=À r->l.length=r.length/\∀(i:Nat) x,l[i]?=À x->∃y,r[i]?=À y/\f x=À y
 |[],r,h=>by cases h;exact⟨rfl,fun i x e=>by simp at e⟩
 |x::l,r,h=>by
  simp only[bn]at h;obtain⟨y,e1,e2⟩:=zA h;obtain⟨j,g,d⟩:=zE.mp e2;subst d;obtain⟨c,b⟩:=sQ g;refine⟨by simp[c],fun i z e=>?_⟩;cases i with
  |zero=>cases e;exact⟨y,rfl,e1⟩
  |succ i=>exact b i z (by simpa using e)
section
variable{X:Cx}{a body:Î}{f key:EF}{p pos kp lp kp2 pc:ģ}{j:Nat}{params:Ϣ}{scope:Ğ}{N':List Ì}{x:Ì}{c P:Ç}
theorem Os.snoc[Ol]{mg:Gm}{P:Pr}{H:Hp}{φ:List Ç}{sl:Sl}{σ:St}{v:AV}{w:V}(h:Os mg P H φ sl σ)(r:RA mg P H φ v w):Os mg P H φ (sl++[À v]) (σ++[À w]):=by
 refine⟨by rw[zV,zV,h.1];rfl,fun i u e=>?_⟩;rcases yU i sl.length with a|a
 ·rw[zN a]at e
  rw[zN (by rw[<- h.1];exact a)];exact h.2 i u e
 ·rw[z6 a]at e
  rw[z6 (by rw[<- h.1];exact a),<- h.1];cases b:i-sl.length with
  |zero=>rw[b]at e;cases e;exact⟨w,rfl,r⟩
  |succ m=>rw[b]at e;simp at e
theorem Dw[Ol](hc:X.calm=Â)(hg:Gl X "min")(hm:X.mg "min"=Á)(ha:QE X a f)(hs:Ê [a] X.env=[(Ã,eval a X.env)])(hdef:T6 params X.env=([],[]))(hcode:X.env.code=.ref c)(C:U0 X.base c P)(B:jI X.mg X.base)
  (ht:(P,lp,X.env.qual++"<lambda>")∈Ol.tb) (T:wY X N' scope x) (hp:plainA params=Â) (hps:params.args.map (·.arg)=[x]) (hd:X.A.in1.depth<ϗ) (pu:CN key)
  (he:∀cl f c' s H,QE (tQ X N' scope cl f (X.env.qual++"<lambda>") (.ref c') X.A.in1 s H) body key)
  (hdj:∀t∈Ol.tb,t.1=P->t=(P,lp,X.env.qual++"<lambda>")) :
  QE X (.Call (.Name "min" p) [a] [⟨À "key",.Lambda params body scope lp,kp⟩,⟨À "default",.Constant .none j pc,kp2⟩] pos) (rR f key):=by
 rintro Og s σ H Q I ⟨Pr0,φ,sl,st,rs,sm,v,st',ev,k⟩;obtain⟨J,e1,e2⟩:=zA ev;obtain⟨ns,e3,e4⟩:=zA e2;obtain⟨ks,e5,e6⟩:=zE.mp e4;cases e6;have hra:rA X.gm (fV f fF) σ H (fun vs G=>∃A d w,vs=[w]/\Frm Pr0 φ H A d G/\Sim X.gm A d J.2 G/\RA X.gm A G d J.1 w) :=
  xI rs sm ⟨J.1,J.2,e1,fun A d G w f1 s1 r1=>⟨A,d,w,rfl,f1,s1,r1⟩⟩
 refine ÿ (dS I hg hm tZ (callWith_kw (aF ((dw ha fH (by rw[hs];rfl)) pos Og s σ H _ I hra) fun us s1 ⟨vs,G,I1,r1,A,d,w,ew,f1,m,V⟩=>?_) (by rw[hs];rfl) (by rw[hs];rfl) (by rfl) (by rfl)));subst ew;obtain⟨l,rfl,hl0⟩:=V.lsI m e3;obtain⟨u,rfl,ru⟩:=d6 r1;cases ru;obtain⟨cl,hcl,hcl1,hcl2⟩:=kI (scope:=scope) (env:=X.env) (fun y hy=>by
  rcases T.cy.free y hy with h|h
  ·exact I1.ok.has y (.inl h)
  ·exact I1.ok.has y (.inr h))
 refine kws_cons (Bs I1 hdef hcode C B hcl (m.tb _ ht).1 fun q c' ctv S s2 hH2 E8 hx2 I2=>kws_cons (I! (kws_nil ?_)))
 have fs:Frm A d G A d S/\Sim X.gm A d J.2 S:=by
  rcases hH2 with rfl|⟨ps,K,hP,hn,hne,rfl⟩
  ·exact⟨Frm.refl,m⟩
  ·have nP:∀b,A b->b≠P:=fun b h e=>(m.tb _ ht).2 (by rw[<- e];exact h)
   have N:∀b,G b≠Á->b≠c':=fun b h e=>h (by rw[e];exact hn)
   have M:∀b∈d,b≠P:=fun b h e=>m.tnc ht (by rw[<- e];exact h)
   have R:∀b,b≠P->b≠c'->ak (ak G P (.tbl (ps++K))) c' (gE c' (X.env.qual++"<lambda>")) b=G b:=fun b h1 h2=>by rw[ad h2,ad h1]
   have ex:∀b,A b->A b/\ak (ak G P (.tbl (ps++K))) c' (gE c' (X.env.qual++"<lambda>")) b=G b:=fun b h=>⟨h,R b (nP b h) (N b (m.dom b h))⟩
   refine⟨⟨ex,⟨[],by simp,by simp⟩,fun b h _ z=>R b (fun e=>z ps (by rw[e];exact hP)) (N b h),fun b h=>.inl h,fun b h=>?_,fun b o u h=>?_⟩,m.stay ex (fun b h=>R b (M b h) (N b (m.cd b h))) (fun _ _ h=>h) (fun b h=>by rw[(ex b h).2];exact m.dom b h) fun t O=>⟨?_,(m.tb t O).2⟩⟩
   ·by_cases e:b=P
    ·subst e;rw[ad hne,aB];exact fun z=>nomatch z
    ·rw[R b e (N b h)];exact h
   ·rw[R b (fun e=>by rw[e,hP]at h;cases h) (N b (by rw[h];exact fun z=>nomatch z))];exact h
   ·by_cases e:t.1=P
    ·rw[hdj t O e];exact E8
    ·obtain⟨qs,g1,g2,g3⟩:=(m.tb t O).1
     refine⟨qs,by rw[R t.1 e (N _ (by rw[g1];exact fun z=>nomatch z))];exact g1,g2,?_⟩;rcases g3 with g3|⟨c2,g4,g5⟩
     ·exact .inl g3
     ·exact .inr ⟨c2,g4,by rw[R c2 (fun z=>by rw[z,hP]at g5;cases g5) (N _ (by rw[g5];exact fun z=>nomatch z))];exact g5⟩
 obtain⟨Z,hget⟩:=sQ e5;have ay:∀F,(∃D g,Frm A d S D g F/\Sim X.gm D g J.2 F)->∀z,qw (ns.zip ks)=z->∀w,(∀D g,RA X.gm D F g z w)->Q w F:=fun F hq0 z hz w r=>by
  obtain⟨D,g,f',s'⟩:=hq0;rw[hz]at k;exact k D g F w ((f1.trans fs.1).trans f') s' (r D g)
 have hmc:=sM (X:=X) (Og:=Og++[(q,wC X.mg (X.env.qual++"<lambda>") params body scope cl (.ref c') ctv)]) (σ:=σ) (ko:=À (.ref q)) (kws:=[(ć "key",.ref q),(ć "default",.none)]) (l:=l) (ns:=ns) (H:=S) (s:=s2) (Q:=Q) (E:=X.xe)
  (I.ok.hd hc) (fun i=>ks.getD i 0) (fun _ F=>∃D g,Frm A d S D g F/\Sim X.gm D g J.2 F) (fun i F ⟨D,g,f',s'⟩=>?_) rfl (GR _ _) (fun i n u pl s3 H3 en ru ⟨P3,U,f3,s3'⟩ I3=>.inr ⟨q,rfl,?_⟩) (fun i n F en Y hJ=>?_) (fun en=>?_) I2 ⟨A,d,Frm.refl,fs.2⟩
 ·exact aF hmc fun u s9 ⟨v9,H9,I9,r9,q9⟩=>⟨v9,H9,I9.pins_of fun p hp=>I9.pin p (zK _ (zL _ hp)),r9,q9⟩
 ·obtain⟨b,eb,hb⟩:=(V.frm (fs.1.trans f')).lsI s' e3
  cases eb;exact hb
 ·obtain⟨kv,ek,hk⟩:=hget i n en
  unfold yp at hk;split at hk
  ·rename_i k0 st0 L
   cases hk
   have:=pu _ _ _ _ L
   subst this;have W:=I3.pin (q,wC X.mg (X.env.qual++"<lambda>") params body scope cl (.ref c') ctv) (zK _ (zL _ (zK _ (zM.mpr rfl))));have hcx:H3 c'=À (gE c' (X.env.qual++"<lambda>")):=fs.2.okeep f3 hx2;have hcr:s3.heap.CodeRec (.ref c') (X.env.qual++"<lambda>"):=(I3.Op c' _ hcx).1;refine Bt (te:=rE X.gm key) T I3 I.ok.frames (I.ok.hd hc) hd hcl1 hcl2 hp hps W.1 hcr (fun s H=>he cl q c' s H) ru ?_;have ksl:Os X.gm P3 H3 U (sl++[À (.int n)]) (σ++[À (.int n)]):=Os.snoc (((rs.frm f1).frm fs.1).frm f3) (by simp only[RA]);refine⟨P3,U,sl++[À (.int n)],J.2,ksl,s3',.int kv,J.2,L,fun P4 φ4 H4 b f4 s4 r4=>?_⟩;simp only[RA]at r4;exact⟨by rw[r4];simp[ek],P4,φ4,f3.trans f4,s4⟩
  ·cases hk
 ·exact ay F hJ _ (EJ Z en Y) _ fun D g=>by simp only[RA]
 ·subst en
  exact ay S ⟨A,d,Frm.refl,fs.2⟩ _ rfl _ fun D g=>by simp only[List.zip_nil_left,qw,RA]
end
section
variable{X:Cx}{a b:Î}{f g:EF}{pos p1 p2 pos2:ģ}
noncomputable def qB(i:Int):Bool:=decide (0<=i)&&decide (i<=1000)
def wo(f:EF):NF:=fun b a=>(f b a).bind fun p=>match p.1 with
 |.int j=>if qB j=Â then À (dj 0 j.toNat,p.2) else Á
 |_=>Á
def wn(f g:EF):NF:=fun a b=>(f a b).bind fun p=>(g a p.2).bind fun q=>match p.1,q.1 with
 |.int i,.int j=>if(qB i&&qB j&&decide (i<=j))=Â then À (dj i (j-i).toNat,q.2) else Á
 |_,_=>Á
theorem On.rng(i:Nat):∀n:Nat,On mg P H φ (dj (i:Int) n) ((ĥ i n).map fun(q:Nat)=>V.int (q:Int)):=by
 have a:∀(l:List Nat),On mg P H φ (l.map fun(k:Nat)=>AV.int ((i:Int)+(k:Int))) (l.map fun(k:Nat)=>V.int ((i:Int)+(k:Int))):=by
  intro l
  induction l with
  |nil=>exact bE
  |cons x l b=>exact aU (by simp only[RA]) b
 intro n;have:((ĥ i n).map fun(q:Nat)=>V.int (q:Int))=(È n).map fun(k:Nat)=>V.int ((i:Int)+(k:Int)):=by
  rw[List.range'_eq_map_range,Ö];refine ϓ fun k _=>?_
  simp
 rw[this];exact a _
theorem FM[Ol](y:X.calm=Â)(i:Gl X "list")(g:X.mg "list"=Á)(h:Gl X "range")(e:X.mg "range"=Á)(z:QE X a f)
  (v:Ê [a] X.env=[(Ã,eval a X.env)]):QN X (.Call (.Name "list" p1) [.Call (.Name "range" p2) [a] [] pos2] [] pos) (wo f) :=
 PE_imp (A6 y i g h e z v) fun G H Q d=>by
  refine e7 d fun P F K J t s u=>?_
  obtain⟨I,o,C,k⟩:=u;obtain⟨q,D,b⟩:=zA C;refine i7 t s ⟨q.1,q.2,D,fun E c m w A r r1=>?_⟩;show ∃j:Nat,[w]=[.int (j:Int)]/\j<=1000/\∀p,m p=Á->Q (.ref p) (ak m p (.lst ((ĥ 0 j).map fun(q:Nat)=>V.int (q:Int))));split at b
  ·rename_i j B
   split at b
   ·rename_i hb
    cases b;rw[B]at r1;simp only[RA]at r1;subst r1;obtain⟨l,n⟩:=ŏ.mp hb;have l:=of_decide_eq_true l;have n:=of_decide_eq_true n;refine⟨j.toNat,by rw[Ŗ l],by lia,fun p x=>?_⟩;exact k E c m p _ A r x (On.rng 0 j.toNat)
   ·cases b
  ·cases b
theorem FK[Ol](E:X.calm=Â)(t:Gl X "list")(n:X.mg "list"=Á)(o:Gl X "range")(m:X.mg "range"=Á)(F:QE X a f)(hb:QE X b g)
  (v:Ê [a,b] X.env=[(Ã,eval a X.env),(Ã,eval b X.env)]) (c:Ê [b] X.env=[(Ã,eval b X.env)]):QN X (.Call (.Name "list" p1) [.Call (.Name "range" p2) [a,b] [] pos2] [] pos) (wn f g) :=
 PE_imp (xX E t n o m (dw F (dw hb fH (by rw[c];rfl)) (by rw[v,c])) v c) fun O H Q l=>by
  refine e7 l fun P φ U T B s C=>?_
  obtain⟨R,z,M,k⟩:=C;obtain⟨q,h,u⟩:=zA M;obtain⟨r,N,e⟩:=zA u;refine Fy B s ⟨q.1,q.2,r.1,r.2,h,N,fun x d y w S J A r1 r2=>?_⟩;split at e
  ·rename_i i j L K
   split at e
   ·rename_i hb
    cases e;rw[L]at r1;rw[K]at r2;simp only[RA]at r1 r2;subst r1;subst r2;simp only[qB,zC,yC]at hb;obtain⟨⟨⟨I,Y⟩,G,W⟩,V⟩:=hb;refine⟨i.toNat,j.toNat,by rw[Ŗ I,Ŗ G],by lia,by lia,fun p D=>?_⟩;refine k x d y p _ J A D ?_;have h:(j-i).toNat=j.toNat-i.toNat:=by lia
    have u:i=((i.toNat:Nat):Int):=by lia
    have:=On.rng (mg:=X.gm) (P:=x) (H:=y) (φ:=d) i.toNat (j.toNat-i.toNat)
    rw[<- u,<- h]at this;rw[<- h];exact this
   ·cases e
  ·cases e
end
def oR:aT->AV
 |.inl i=>.int i
 |.inr x=>.str x
noncomputable def B6(k:Nat):Out->Option Out
 |.nx sl st=>match st[k]? with
  |some (.wk Oi)=>À (.nx sl (st.set k (.dK Oi)))
  |_=>Á
 |.rt v st=>match st[k]? with
  |some (.wk Oi)=>À (.rt v (st.set k (.dK Oi)))
  |_=>Á
 |_=>Á
def vY(f:EF)(g:GF)(s:SF):SF:=fun a c=>(f a c).bind fun p=>match p.1 with
 |.ref k=>match p.2[k]? with
  |some (.dK b)=>(dM [] g s (b.map fun q=>oR q.1) a (p.2.set k (.wk b))).bind (B6 k)
  |_=>Á
 |_=>Á
section
variable{X:Cx}{tg iter:Î}{body:List Ľ}{pos:ģ}{f:EF}{g:GF}{s:SF}
theorem Dl[Ol](hp:ϝ (model X.prog X.w) X.A X.env X.xe)(hc:X.calm=Â)(hi:QE X iter f)(hg:QG X tg g)(hb:nK X body s)(hs:∀x,ú iter X.env x=pure x):QS X (.For tg iter body [] pos) (vY f g s) :=
 PS_imp (DG (xQ hp hc (DO hi) hg hb hs)) fun D σ H hq0=>by
  refine e7 hq0 fun P φ sl st rs sm q0=>?_
  obtain⟨o,e,q⟩:=q0;obtain⟨p,e1,e2⟩:=zA e;refine i7 rs sm ⟨p.1,p.2,e1,fun P1 N H1 w f1 s1 r1=>g_ fun G bk=>?_⟩;split at e2
  ·rename_i k ek
   rw[ek]at r1;simp only[RA]at r1;obtain⟨a,ea,ew⟩:=r1;split at e2
   ·rename_i Oi hk
    obtain⟨o1,e3,W⟩:=zA e2;obtain⟨na,K,h1,h2⟩:=s1.cell k _ a hk ea;refine bk ⟨a,K,ew,h1,fun U hn=>?_⟩;have J:(Oi.map fun q=>oR q.1).length=K.length:=by
     have:=congrArg ō h2.1
     rw[zH,zH]at this;rw[zH];exact this
    obtain⟨fw,sw⟩:=iR (c:=.wk Oi) (o:=.frz U (.dK K)) s1 ea na ⟨na,U,K,aB,h2.mono (fun b h=>⟨h,ad fun e=>na (e▸h)⟩) fun _ _ z=>z⟩ (fun _ _ z=>by rw[h1]at z;cases z);have rsw:Os X.gm P1 (ak H1 a (.frz U (.dK K))) N sl σ:=(rs.frm f1).frm fw
    have back:∀{A d C l},Frm P1 N (ak H1 a (.frz U (.dK K))) A d C->Sim X.gm A d l C->∀{I},l[k]?=À (.wk I)->∃Z E,C a=À (.frz Z (.dK E)) /\
      Frm P φ H A d (ak C a (.dK E))/\Sim X.gm A d (l.set k (.dK I)) (ak C a (.dK E))/\∀b,A b->A b/\ak C a (.dK E) b=C b:=by
     intro A d C l Q F I hw;have T:d[k]?=À a:=Q.ix k a ea;obtain⟨na5,Z,E,g1,g2⟩:=F.cell k _ a hw T;have S:∀b,A b->A b/\ak C a (.dK E) b=C b:=fun b h=>⟨h,ad fun e=>na5 (e▸h)⟩
     refine⟨Z,E,g1,?_,?_,S⟩
     ·have B:=(f1.trans fw).trans Q
      obtain⟨m,em,nm⟩:=B.new;have hna:H a=Á\/a∈φ:=by
       rcases zZ.mp (show a ∈ φ++f1.new.choose by rw [<- f1.new.choose_spec.1];exact zW ea) with z | z
       ·exact .inr z
       ·exact .inl (f1.new.choose_spec.2 a z)
      refine⟨fun b h=>⟨(B.ext b h).1,?_⟩,⟨m,em,nm⟩,fun b h n z=>?_,B.pn,fun b h=>?_,fun b o u h=>?_⟩
      ·rw[(S b (B.ext b h).1).2];exact(B.ext b h).2
      ·have nb:b≠a:=fun e=>by
        rcases hna with y|y
        ·exact h (by rw[e];exact y)
        ·exact n (by rw[e];exact y)
       rw[ad nb];exact B.keep b h n z
      ·by_cases e:b=a
       ·rw[e,aB];exact fun z=>nomatch z
       ·rw[ad e];exact B.sm b h
      ·have nb:b≠a:=fun e=>by
        have:=f1.fz b o u h
        rw[e,h1]at this;cases this
       rw[ad nb];exact B.fz b o u h
     ·have hs5:l[k]?=À (.wk I):=hw
      refine⟨by rw[ă];exact F.len,F.nd,fun b h=>by rw[(S b h).2];exact F.dom b h,fun b h=>?_,fun j c b e5 e6=>?_,fun t ht=>⟨(F.tb t ht).1.wr (F.notb T na5),(F.tb t ht).2⟩⟩
      ·by_cases e:b=a
       ·rw[e,aB];exact fun z=>nomatch z
       ·rw[ad e];exact F.cd b h
      ·by_cases hj:j=k
       ·subst hj
        rw[T]at e6;cases e6;rw[õ (by rw[<- F.len];exact(zB.mp T).1)]at e5;cases e5;exact⟨na5,E,aB,g2.mono S fun _ _ z=>z⟩
       ·rw[ï (ç hj)]at e5
        have hb:b≠a:=fun e=>hj (by
         subst e;obtain⟨l1,q1⟩:=zB.mp e6;obtain⟨l2,q2⟩:=zB.mp T;exact(ū F.nd).mp (q1.trans q2.symm))
        exact(F.cell j c b e5 e6).mono S (fun _ _ z=>z) (ad hb) fun z=>z
    have V:∀{A d C O L l},o1=.nx L l->Frm P1 N (ak H1 a (.frz U (.dK K))) A d C->Sim X.gm A d l C->Os X.gm A C d L O->(rh X.H₀ D).nx O C:=by
     intro A d C O L l eo Q F M;subst eo;simp only[B6]at W;split at W
     ·rename_i I hw
      cases W;obtain⟨Z,E,g1,g2,g3,g4⟩:=back Q F hw;exact⟨a,Z,E,g1,hn,q A d _ O g2 g3 ⟨M.1,fun i v e=>let⟨w,e',r⟩:=M.2 i v e;⟨w,e',r.mono g4 fun _ _ z=>z⟩⟩⟩
     ·cases W
    have endR:∀{A d C v5 l w5},o1=.rt v5 l->Frm P1 N (ak H1 a (.frz U (.dK K))) A d C->Sim X.gm A d l C->RA X.gm A C d v5 w5->(rh X.H₀ D).rt w5 C:=by
     intro A d C v5 l w5 eo Q F r5;subst eo;simp only[B6]at W;split at W
     ·rename_i I hw
      cases W;obtain⟨Z,E,g1,g2,g3,g4⟩:=back Q F hw;exact⟨a,Z,E,g1,hn,q A d _ w5 g2 g3 (r5.mono g4 fun _ _ z=>z)⟩
     ·cases W
    refine⟨fun i m Y H'=>m=K.length-i/\i<=K.length/\Iw X.gm P1 N (ak H1 a (.frz U (.dK K))) (fun sl st=>dM [] g s ((Oi.map fun q=>oR q.1).drop i) sl st=À o1) Y H',
     ⟨_,rfl,ħ _,P1,N,sl,_,Frm.refl,sw,rsw,by simpa using e3⟩,?_⟩
    intro i m Y H' hh;refine g_ fun G bk=>?_
    obtain⟨em,hle,P2,φ2,sl2,st2,f2,s2,rs2,eg⟩:=hh;have hfz:H' a=À (.frz U (.dK K)):=f2.fz a _ _ aB;rcases yU i K.length with R|hge
    ·rw[û (by rw[J];exact R)]at eg
     simp only[dM,cw,if_true]at eg;obtain⟨q4,e5,e6⟩:=zA eg;obtain⟨o2,e7,e8⟩:=zA e6;refine bk (.inr ⟨⟨hfz,R⟩,Iw X.gm P1 N (ak H1 a (.frz U (.dK K))) fun sl st=>dM [] g s ((Oi.map fun q=>oR q.1).drop (i+1)) sl st=À o1,fun Y H' z=>⟨_,by lia,rfl,R,z⟩,fun x H3 hy=>g_ fun G bj=>?_⟩);obtain⟨rfl,hx⟩:=hy;have rx:RA X.gm P2 H3 φ2 ((Oi.map fun q=>oR q.1)[i]'(by rw[J];exact R)) x:=by
      have hkw:Oi[i]?.map (·.1)=K[i]?.map (·.1):=by rw[<- zR,<- zR,h2.1]
      have hlt':i<Oi.length:=by rw[zH]at J;lia
      rw[zR,zF R]at hx;rw[zF hlt',zF R]at hkw;simp only[á,Option.some.injEq]at hx hkw;rw[List.getElem_map,hkw,<- hx];cases K[i].1 with
      |inl n=>simp only[oR,RA,kV]
      |inr z=>simp only[oR,RA,kV]
     refine bj ⟨P2,φ2,sl2,st2,_,rs2,s2,rx,q4.1,q4.2,e5,fun P4 φ4 H4 σ4 f4 s4 rs4=>⟨P4,φ4,q4.1,q4.2,rs4,s4,o2,e7,?_⟩⟩;have fa:=f2.trans f4;cases o2 with
     |nx L l=>exact fun A d C O Q F M=>⟨A,d,L,l,fa.trans Q,F,M,e8⟩
     |ct L l=>exact fun A d C O Q F M=>⟨A,d,L,l,fa.trans Q,F,M,e8⟩
     |bk L l=>exact fun A d C O Q F M=>V (yE e8).symm (fa.trans Q) F M
     |rt v l=>exact fun A d C w Q F r5=>endR (yE e8).symm (fa.trans Q) F r5
    ·have ei:i=K.length:=b? hle hge
     subst ei;rw[<- J,ϩ]at eg;simp only[dM,cw,if_true]at eg;exact bk (.inl ⟨⟨hfz,zP _⟩,V (yE eg).symm f2 s2 rs2⟩)
   ·cases e2
  ·cases e2
end
noncomputable def cA:Î->Bool
 |.Starred _ _=>Ã
 |_=>Â
noncomputable def jS:Î->Bool
 |.Slice _ _ _ _=>Ã
 |_=>Â
noncomputable def Bf:Î->Bool
 |.Set _ _ _=>Ã
 |_=>Â
noncomputable def p5:Î->Bool
 |.Call (.Name _ _) [] [] _=>Ã
 |_=>Â
noncomputable def oH:Î->Bool
 |.ListComp _ _ _ _=>Ã
 |.SetComp _ _ _ _=>Ã
 |.DictComp _ _ _ _ _=>Ã
 |_=>Â
noncomputable def sJ:Î->Bool
 |.Tuple _ _ _=>Ã
 |_=>Â
noncomputable def xS:Î->Bool
 |.UnaryOp .Not _ _=>Ã
 |.BoolOp _ _ _=>Ã
 |.IfExp _ _ _ _=>Ã
 |.Compare _ _ _ _=>Ã
 |_=>Â
section
variable{env:Q7}{e o i a b:Î}{es:List Î}{pos cpos apos:ģ}{f:Ì}
theorem aJ(h:cA e=Â):Ê (e::es) env=(Ã,eval e env)::Ê es env:=by
 cases e<;>first|rfl|cases h
theorem iW(h:es.all cA=Â):(ý pos (Ê es env)).any (·.1)=Ã:=by
 induction es with
 |nil=>rfl
 |cons e es a =>
  rw[ĺ,zC]at h;rw[aJ h.1];show(Ã||(ý pos (Ê es env)).any (·.1))=Ã;rw[a h.2];rfl
theorem AD(h:es.all cA=Â):(ý pos (Ê es env)).all (fun x=>!x.1)=Â:=by
 induction es with
 |nil=>rfl
 |cons e es a =>
  rw[ĺ,zC]at h;rw[aJ h.1];show(Â&&(ý pos (Ê es env)).all (fun x=>!x.1))=Â;rw[a h.2];rfl
theorem KU(h:es.all cA=Â)(a:es.length<30):((ý cpos (Ê es env)).all (fun x=>!x.1)&&(Ŋ cpos (ĕ [] env)).all (fun x=>x.1.isSome)&&decide (es.length+([]:List ŋ).length+(if([]:List ŋ).isEmpty then 0 else 1)<30))=Â:=by
 rw[AD h];have:decide (es.length+([]:List ŋ).length+(if([]:List ŋ).isEmpty then 0 else 1)<30)=Â:=yW (by simpa using a);rw[this];rfl
theorem gx(w:W1 Ä)(h:p5 o=Â):Ě o f env w=w:=by
 unfold Ě;split
 ·simp[p5]at h
 ·rfl
theorem ve(hb:p5 o=Â)(d:es.all cA=Â)(e:es.length<30)(a:(apos.endLine==pos.line)=Â):eval (.Call (.Attribute o f apos) es [] pos) env=(do
   let ov <- eval o env
   ŕ apos.atName
   let(f,first) <- holding [ov] (ş ov f (do return (<- importBound o env).getD Â))
   ŧ pos f first (ý pos (Ê es env)) (Ŋ pos (ĕ [] env))):=by
 rw[arm_eval_Call,gx _ hb];have b:methodCallForm (es.length+([]:List ŋ).length) (ý pos (Ê es env)) (Ŋ pos (ĕ [] env))=Â:=KU d e;have c:methodCallPos Â o env apos pos=pure pos:=by unfold methodCallPos;simp[a]
 unfold methodCall;rw[b,c];rfl
theorem sx(h:Bf e=Â)(x:Ä):ú e env x=pure x:=by
 cases e<;>first|rfl|cases h
theorem Ju(h:jS i=Â):qx i:=fun _ _=>by
 cases i<;>first|rfl|cases h
theorem Fi(h:jS i=Â)(v:Ä):assign (.Subscript o i pos) env v=(do
   let ov <- holding [v] (eval o env)
   let iv <- holding [v,ov] (eval i env)
   ŕ pos
   holding [v,ov,iv] (ϛ ov iv v)
   release [v,ov,iv] []):=by
 cases i<;>first|rfl|cases h
theorem HU(h:jS i=Â)(a b new:Ä):augStore i a b new=(do holding [new,a,b] (ϛ a b new);release [new,a,b] [];pure .next):=by
 cases i<;>first|rfl|cases h
theorem uU{l:Nat}(h:oH e=Â):ļ e t l env=pure Ã:=by
 cases e<;>first|rfl|cases h
theorem Az{l:Nat}:ļ e (À (.Attribute o f p)) l env=pure Ã:=by
 cases e<;>rfl
noncomputable def Ks(nm:List (Ì×NameKind))(t:Ì)(b:Nat)(sc:Ğ)(a:Nat):Bool:=decide (nm.lookup t=À .local)&&(b==a)&&!(sc.names.any fun(n,k)=>n==t&&(k==.local||k==.cell))
theorem Fg{l:Nat}(a:env.scope.kind=.function) :
  ļ (.ListComp elt gens sc pos) (À (.Name t p)) l env=pure (Ks env.scope.names t p.line sc pos.line):=by
 have hb:env.blockKind=.function:=by unfold Env.blockKind;rw[a];rfl
 show(pure (env.blockKind==.function&&env.kindOf t==À .local&&p.line==pos.line&&!(sc.names.any fun(n,k)=>n==t&&(k==.local||k==.cell))):W1 Bool)=_;rw[hb];have:(env.kindOf t==À NameKind.local)=decide (env.scope.names.lookup t=À .local):=by
  show(env.scope.names.lookup t==À NameKind.local)=_;cases h:env.scope.names.lookup t with
  |none=>rfl
  |some k=>cases k<;>rfl
 rw[this];rfl
theorem AC:Ϧ [.Subscript a b p] e env=pure Á:=by cases e<;>rfl
theorem AB{k:Nat}(h:sJ e=Â):Ϧ [.Tuple ts k p] e env=pure Á:=by cases e<;>first|rfl|cases h
theorem vC(h:cA e=Â):(â [e] env).map (·.2)=[assign e env]:=by
 cases e<;>first|rfl|cases h
theorem BG(h:cA e=Â):(â (e::es) env).map (·.2)=assign e env::(â es env).map (·.2):=by
 cases e<;>first|rfl|cases h
theorem BH:(â es env).length=es.length:=by
 induction es with
 |nil=>rfl
 | cons e es ih=>cases e <;> (show (â es env).length + 1=es.length + 1;rw [ih])
theorem BI(h:es.all cA=Â):(â es env).findIdx? (·.1)=Á:=by
 have:∀p∈â es env,p.1=Ã:=by
  induction es with
  |nil=>intro p a;cases a
  |cons e es b =>
   rw[ĺ,zC]at h;have c:â (e::es) env=(Ã,assign e env)::â es env:=by
    cases e<;>first|rfl|cases h.1
   rw[c];intro p a;rcases zT.mp a with rfl|a
   ·rfl
   ·exact b h.2 p a
 rw[List.findIdx?_eq_none_iff];intro p a;rw[this p a]
theorem uD(h:xS e=Â)(a:W1 Ä):v! e env a=(do let v <- a;ŕ e.pos;holding [v] (truthy v)):=by
 cases e with
 |UnaryOp op x p=>cases op<;>first|rfl|cases h
 |BoolOp=>cases h
 |IfExp=>cases h
 |Compare=>cases h
 |_=>rfl
end
set_option genInjectivity false
set_option genSizeOf false
set_option genSizeOfSpec false
inductive Bi where
 |len|sum|all|any|abs|min|max|int
inductive Mi where
 |app|pop|ext|cnt
mutual
inductive Ex where
 |n|b (x:Bool)|i (x:Int)|s (x:Ì)|v (k:Nat)|g (x:Ì) (c:AV)|bin (o:ğ) (a b:Ex)|cmp (o:Ϛ) (a b:Ex)|un (o:UnaryOp) (a:Ex)|no (a:Ex)|an (a b:Ex)|or (a b:Ex)|ife (t:Tx) (a b:Ex)|ix (a b:Ex)|tu (es:Exs)|nw (m:Bool) (x:Nx)|ca (p:Bool) (j:Nat) (es:Exs)|me (c m:Ì) (j:Nat) (o:Ex) (es:Exs)|ne (c:Ì) (j:Nat) (es:Exs)|fd (c f:Ì) (o:Ex)|bi (b:Bi) (es:Exs)|mt (m:Mi) (o:Ex) (es:Exs)|dn|mnd (a:Ex)|mnk (a key:Ex)
inductive Tx where
 |va (e:Ex)|cmp (o:Ϛ) (a b:Ex)|no (t:Tx)|an (t u:Tx)|or (t u:Tx)
inductive Exs where
 |nil|cons (e:Ex) (es:Exs)
inductive Nx where
 |li (es:Exs)|cat (a b:Ex)|rep (es:Exs) (b:Ex)|sl (a:Ex) (l h:Ox)|lof (a:Ex)|lc (k:Nat) (it:Ix) (t:Tg) (c:Cx') (e:Ex)|lr1 (a:Ex)|lr2 (a b:Ex)
inductive Ox where
 |no|so (e:Ex)
inductive Cx' where
 |no|so (t:Tx)
inductive Ix where
 |e (a:Ex)|r1 (a:Ex)|r2 (a b:Ex)|zi (a b:Ex)|en (a:Ex)|es (a b:Ex)
inductive Tg where
 |nm (k:Nat)|tu (n:Nat) (ts:Tgs)|su (a b:Ex)
inductive Tgs where
 |nil|cons (t:Tg) (ts:Tgs)
end
mutual
inductive Sx where
 |ex (e:Ex)|as (e:Ex) (t:Tg)|aus (o:ğ) (a b e:Ex)|fl (c f:Ì) (o e:Ex)|rt (e:Ex)|iff (t:Tx) (a b:Ou)|fo (it:Ix) (t:Tg) (b:Ou)|wh (t:Tx) (b:Ou)|dead|fd (a:Ex) (t:Tg) (b:Ou)
inductive Ou where
 |nil|cons (s:Sx) (ss:Ou)|dead
end
def l8:Bi->BF
 |.len=>bo dB
 |.sum=>bo nV
 |.all=>bo uh
 |.any=>bo ug
 |.abs=>bo ui
 |.min=>bo p8
 |.max=>bo wq
 |.int=>bo tB
def sN:Mi->MF
 |.app=>sR
 |.pop=>wy
 |.ext=>wz
 |.cnt=>Bm
noncomputable def sO:Mi->String
 |_=>"list"
def kf(ks:List Fn)(j:Nat):Fn:=ks.getD j fun _ _=>Á
def d4(p:Bool)(fn:Fn):Fn:=if p=Â then pm fn else fn
section
variable(ks:List Fn)
mutual
noncomputable def ev:Ex->EF
 |.n=>aC .non
 |.b x=>aC (.bl x)
 |.i x=>aC (.int x)
 |.s x=>aC (.str x)
 |.v k=>aV k
 |.g _ c=>aC c
 |.bin o a b=>a2 (ev a) (ev b) (lm (aZ o))
 |.cmp o a b=>a2 (ev a) (ev b) (lm (oh o))
 |.un o a=>a1 (ev a) (Fo (ot o))
 |.no a=>CJ (ev a)
 |.an a b=>CM (ev a) (ev b)
 |.or a b=>CH (ev a) (ev b)
 |.ife t a b=>K3 (tv t) (ev a) (ev b)
 |.ix a b=>a2 (ev a) (ev b) (lm aY)
 |.tu es=>K2 (eS es)
 |.nw m x=>CI m (jy x)
 |.ca p j es=>CL (d4 p (kf ks j)) (eS es)
 |.me c m j o es=>CK c m (kf ks j) (ev o) (eS es)
 |.ne c j es=>Ae c (kf ks j) (eS es)
 |.fd c f o=>K4 c f (ev o)
 |.bi b es=>uj (l8 b) (eS es)
 |.mt m o es=>nJ (sO m) (sN m) (ev o) (eS es)
 |.dn=>K5 Ã
 |.mnd a=>uj (bo oJ) (fV (ev a) fF)
 |.mnk a key=>rR (ev a) (ev key)
noncomputable def tv:Tx->TF
 |.va e=>tV (ev e)
 |.cmp o a b=>Ff (ev a) (ev b) o
 |.no a=>Ko (tv a)
 |.an a b=>Kr (tv a) (tv b)
 |.or a b=>Fa (tv a) (tv b)
noncomputable def eS:Exs->AF
 |.nil=>fF
 |.cons e es=>fV (ev e) (eS es)
noncomputable def jy:Nx->NF
 |.li es=>KA (eS es)
 |.cat a b=>p7 (ev a) (ev b)
 |.rep es b=>wm (eS es) (ev b)
 |.sl a l h=>mS (ev a) (tM l) (tM h)
 |.lof a=>p6 (ev a)
 |.lc k it t c e=>Ch k (eB it) (cg t) (jz c) (ev e)
 |.lr1 a=>wo (ev a)
 |.lr2 a b=>wn (ev a) (ev b)
noncomputable def tM:Ox->OF
 |.no=>Gz
 |.so e=>mQ (ev e)
noncomputable def jz:Cx'->TF
 |.no=>Km
 |.so e=>tv e
noncomputable def eB:Ix->IF
 |.e a=>iE (ev a)
 |.r1 a=>yz (ev a)
 |.r2 a b=>Co (ev a) (ev b)
 |.zi a b=>iZ (ev a) (ev b)
 |.en a=>KK (ev a)
 |.es a b=>wH (ev a) (ev b)
noncomputable def cg:Tg->GF
 |.nm k=>ze k
 |.tu n ts=>zd n (jM ts)
 |.su a b=>KM (ev a) (ev b)
noncomputable def jM:Tgs->uo
 |.nil=>Hl
 |.cons t ts=>Ho (cg t) (jM ts)
end
mutual
noncomputable def cW:Sx->SF
 |.ex e=>Ky (ev ks e)
 |.as e t=>xG (ev ks e) (cg ks t)
 |.aus o a b e=>vZ o (ev ks a) (ev ks b) (ev ks e)
 |.fl c f o e=>xF c f (ev ks o) (ev ks e)
 |.rt e=>Ku (ev ks e)
 |.iff t a b=>Kw (tv ks t) (ai a) (ai b)
 |.fo it t b=>Kx (eB ks it) (cg ks t) (ai b)
 |.wh t b=>mP (tv ks t) (ai b)
 |.dead=>Fp
 |.fd a t b=>vY (ev ks a) (cg ks t) (ai b)
noncomputable def ai:Ou->SF
 |.nil=>Kv
 |.cons s ss=>Kt (cW s) (ai ss)
 |.dead=>Fp
end
end
inductive Ke where
 |f (x:Ì) (n:Nat)|m (c m:Ì) (n:Nat)|k (c:Ì) (n:Nat)
structure SC where
 N:List Ì
 nm:List (Ì×NameKind)
 cf:List Ì
 ke:List Ke
 gs:List (Ì×AV)
 cl:List (Ì×List Ì)
 la:List ģ
 cn:List Ì
 hs:List Nat
 ck:Bool
noncomputable def kd(C:SC)(x:Ì):Option Ū:=C.nm.lookup x
def Ar(C:SC)(x:Ì):Bool:=match kd C x with
 |some .local=>Â
 |some .cell=>Â
 |some .free=>Â
 |_=>Ã
def Bo(C:SC)(x:Ì):Bool:=match kd C x with
 |some .local=>Â
 |some .cell=>C.cf.contains x
 |_=>Ã
noncomputable def Cy(x:Ì):Bool:=!(x==("__debug__":Ì))&&!(x==("__classdict__":Ì))
def jw(C:SC)(x:Ì):Bool:=(match kd C x with
 |some .globalImplicit=>Â
 |_=>Ã)&&Cy x
noncomputable def KI(C:SC)(j:Nat)(x:Ì)(n:Nat):Bool:=match C.ke[j]? with
 |some (.f y m)=>y==x&&m==n
 |_=>Ã
noncomputable def KD(C:SC)(j:Nat)(c m:Ì)(n:Nat):Bool:=match C.ke[j]? with
 |some (.m b a k)=>b==c&&a==m&&k==n
 |_=>Ã
noncomputable def KF(C:SC)(j:Nat)(c:Ì)(n:Nat):Bool:=match C.ke[j]? with
 |some (.k a k)=>a==c&&k==n
 |_=>Ã
noncomputable def bnames:List Ì:=["len","sum","all","any","abs","min","max","int","tuple","range","zip","enumerate","list","isinstance","bool","str","sorted"]
noncomputable def HS:List (Ì×Bi):=[("len",.len)
 ,("sum",.sum)
 ,("all",.all)
 ,("any",.any)
 ,("abs",.abs)
 ,("min",.min)
 ,("max",.max)
 ,("int",.int)
 ]
noncomputable def GQ:List (Ì×Mi):=[("append",.app)
 ,("pop",.pop)
 ,("extend",.ext)
 ,("count",.cnt)
 ]
noncomputable def Bi.nm:Bi->Ì
 |.len=>"len"
 |.sum=>"sum"
 |.all=>"all"
 |.any=>"any"
 |.abs=>"abs"
 |.min=>"min"
 |.max=>"max"
 |.int=>"int"
noncomputable def Mi.nm:Mi->Ì
 |.app=>"append"
 |.pop=>"pop"
 |.ext=>"extend"
 |.cnt=>"count"
noncomputable def ME:List (Ì×String):=[("int","int"),("bool","bool"),("list","list"),("tuple","tuple"),("str","str")]
noncomputable def Bb(sc:Ğ):List Ì:=(sc.names.filter fun p=>(match p.2 with|.local=>Â|.cell=>Â|_=>Ã)&&!(p.1==(".0":Ì))).map (·.1)
noncomputable def tz(sc:Ğ)(x:Ì):Bool:=match sc.names.lookup x with
 |some .free=>Â
 |_=>Ã
noncomputable def Hj(k:Bool)(x:Ì):Ì:=match k with
 |true=>x++("!":Ì)
 |false=>""
def eU(C:SC)(sc:Ğ):List Ì:=(C.N.map fun x=>if tz sc x=Â then x else Hj C.ck x)++Bb sc
noncomputable def KP:Ū->Bool
 |.free=>Â
 |_=>Ã
noncomputable def CC:Option Ū->Bool
 |some .cell=>Â
 |_=>Ã
noncomputable def uz{α:Type}(k:Bool)(x:List α):List α:=match k with
 |true=>x
 |false=>[]
@[reducible] def blk(C:SC)(sc:Ğ):SC:={ C with N:=eU C sc,nm:=uz C.ck (sc.names.map fun p=>if(KP p.2&&CC (kd C p.1))=Â then(p.1,.cell) else(p.1,p.2)),cf:=uz C.ck ((sc.names.filter fun p=>CC (À p.2)).map (·.1)),la:=[] }
def t8(C:SC)(sc:Ğ):Bool :=
 (match sc.kind with|.function=>Â|_=>Ã)&&decide (sc.names.map (·.1)).Nodup&&decide (eU C sc).Nodup &&
 (sc.names.all fun p=>match p.2 with|.free=>(match kd C p.1 with|some .cell=>Â|some .free=>Â|_=>Ã)|_=>Â) &&
 ((È C.N.length).all fun i=>match (eU C sc)[i]? with
  |some x=>(match sc.names.lookup x with
   |some .free=>decide (C.N[i]?=À x)
   |some _=>Ã
   |none=>Â)
  |none=>Ã)
mutual
noncomputable def pX(n:Nat):Tg->Bool
 |.nm k=>ä n k
 |.tu _ ts=>rk n ts
 |.su _ _=>Ã
noncomputable def rk(n:Nat):Tgs->Bool
 |.nil=>Â
 |.cons t ts=>pX n t&&rk n ts
end
@[reducible] def G7(C:SC)(sc:Ğ):SC:={ C with N:=eU C sc,nm:=uz C.ck sc.names,cf:=[],ke:=[],la:=[] }
noncomputable def MU(C:SC)(p:ģ):Bool:=C.la.any fun q=>q.line==p.line&&q.col==p.col&&q.endLine==p.endLine&&q.endCol==p.endCol
def Bu(C:SC)(sc:Ğ)(ps:Ϣ):Bool:=t8 C sc&&!sc.isCoroutine&&!sc.isGenerator&&plainA ps&&ps.defaults.isEmpty&&ps.kw_defaults.isEmpty &&
 (match Bb sc,ps.args.map (·.arg) with
  |[x],[y]=>x==y&&(match sc.names.lookup x with|some .local=>Â|_=>Ã)
  |_,_=>Ã)&&sc.names.all fun p=>!(CC (À p.2))
noncomputable def mv:Ex->Bool
 |.v _=>Â
 |.i _=>Â
 |.ix a b=>mv a&&mv b
 |.fd _ _ o=>mv o
 |_=>Ã
theorem mR{P:Prop}(h:Ã=Â):P:=nomatch h
theorem bu{α:Type}{P:Prop}{m:α}(h:Á=À m):P:=nomatch h
theorem dP{a b:Bool}{P:Prop}(h:(a&&b)=Â)(H:a=Â->b=Â->P):P:=by cases a;exact mR h;exact H rfl h
theorem ld{a b c:Bool}{P:Prop}(h:(a&&b&&c)=Â)(H:a=Â->b=Â->c=Â->P):P:=dP h fun x y=>dP x fun e d=>H e d y
theorem qV{a b c d:Bool}{P:Prop}(h:(a&&b&&c&&d)=Â)(H:a=Â->b=Â->c=Â->d=Â->P):P:=dP h fun x y=>ld x fun g f e=>H g f e y
section
variable{α β γ δ ε:Type}
noncomputable def gu(k c:Bool)(x:Option α):Option α:=match k with
 |false=>x
 |true=>if c=Â then x else Á
noncomputable def m2(f:α->β->γ)(x:Option α)(y:Option β):Option γ:=x.bind fun a=>y.map (f a)
def m3(f:α->β->γ->δ)(x:Option α)(y:Option β)(z:Option γ):Option δ:=x.bind fun a=>m2 (f a) y z
theorem aO{k c:Bool}{x:Option α}{m:α}{P:Prop}(a:k=Â)(h:gu k c x=À m)(H:c=Â->x=À m->P):P:=by
 subst a;cases c
 ·exact bu h
 ·exact H rfl h
@[elab_as_elim] theorem cm{f:α->β}{x:Option α}{m:β}{P:β->Prop}(h:x.map f=À m)(H:∀a,x=À a->P (f a)):P m:=by
 cases x with
 |none=>exact bu h
 |some a=>cases h;exact H a rfl
@[elab_as_elim] theorem b9{f:α->β->γ}{x:Option α}{y:Option β}{m:γ}{P:γ->Prop}(h:m2 f x y=À m)(H:∀a b,x=À a->y=À b->P (f a b)):P m:=by
 cases x with
 |none=>exact bu h
 |some a=>exact cm h fun b hb=>H a b rfl hb
@[elab_as_elim] theorem mz{f:α->β->γ->δ}{x:Option α}{y:Option β}{z:Option γ}{m:δ}{P:δ->Prop}(h:m3 f x y z=À m)(H:∀a b c,x=À a->y=À b->z=À c->P (f a b c)):P m:=by
 cases x with
 |none=>exact bu h
 |some a=>exact b9 h fun b c hb d=>H a b c rfl hb d
theorem ia{x:Option α}{f:α->Option β}{m:β}{P:Prop}(h:x.bind f=À m)(H:∀a,x=À a->f a=À m->P):P:=by
 cases x with
 |none=>exact bu h
 |some a=>exact H a rfl h
noncomputable def at_(x:Ì):List Ì->Nat->Option Nat
 |[],_=>Á
 |y::l,k=>if(y==x)=Â then À k else at_ x l (k+1)
theorem CF{x:Ì}:∀{l:List Ì}{k j:Nat},at_ x l k=À j->∃i,j=k+i/\l[i]?=À x
 |[],_,_,h=>bu h
 |y::l,k,j,h=>by
  unfold at_ at h;split at h
  ·rename_i e;cases h;exact⟨0,rfl,by rw[yK e];rfl⟩
  ·obtain⟨i,e1,e2⟩:=CF h
   exact⟨i+1,by lia,e2⟩
theorem HV{x:Ì}{l:List Ì}{j:Nat}(h:at_ x l 0=À j):l[j]?=À x:=by
 obtain⟨i,e,h⟩:=CF h;rw[e,Nat.zero_add];exact h
noncomputable def lk(x:Ì):List (Ì×α)->Option α
 |[]=>Á
 |p::l=>if(p.1==x)=Â then À p.2 else lk x l
theorem rK{x:Ì}{v:α}:∀{l:List (Ì×α)},lk x l=À v->(x,v)∈l
 |[],h=>bu h
 |p::l,h=>by
  unfold lk at h;split at h
  ·rename_i e;cases h;rw[<- yK e];exact z7
  ·exact zQ _ (rK h)
def tT(f:Ì):List (Ì×List Ì)->Option Ì
 |[]=>Á
 |p::l=>match at_ f p.2 0 with
  |some _=>À p.1
  |none=>tT f l
theorem zu{f c:Ì}:∀{l:List (Ì×List Ì)},tT f l=À c->∃fs,(c,fs)∈l/\f∈fs
 |[],h=>bu h
 |p::l,h=>by
  unfold tT at h;split at h
  ·rename_i e;cases h;exact⟨p.2,z7,zW (HV e)⟩
  ·obtain⟨fs,h1,h2⟩:=zu h
   exact⟨fs,zQ _ h1,h2⟩
noncomputable def Bj(n:Nat):List Nat->Bool
 |[]=>Ã
 |m::l=>(m==n)||Bj n l
def hB(C:SC)(p:ģ)(k:Nat):Bool:=Bj (((p.line*1000+p.col)*1000+p.endCol)*8+k) C.hs
end
noncomputable def nmO:Î->Option Ì
 |.Name x _=>À x
 |_=>Á
theorem yf{e:Î}(h:nmO e=À x):∃p,e=.Name x p:=by
 cases e with
 |Name y p=>cases h;exact⟨p,rfl⟩
 |_=>exact bu h
noncomputable def lsO:Î->Option (List Î)
 |.List es _=>À es
 |_=>Á
theorem GZ{e:Î}(h:lsO e=À es):∃p,e=.List es p:=by
 cases e with
 |List y p=>cases h;exact⟨p,rfl⟩
 |_=>exact bu h
noncomputable def cN:Î->Bool
 |.Constant .none _ _=>Â
 |_=>Ã
theorem CD{e:Î}(h:cN e=Â):∃a p,e=.Constant .none a p:=by
 cases e with
 |Constant c a p=>cases c with
  |none=>exact⟨a,p,rfl⟩
  |_=>exact mR h
 |_=>exact mR h
noncomputable def kX:Const->Option Ex
 |.none=>À .n
 |.bool b=>À (.b b)
 |.int i=>À (.i i)
 |.str s=>À (.s s)
 |_=>Á
structure Tr where
 E:SC->Î->Option Ex
 T:SC->Î->Option Tx
 G:SC->Î->Option Tg
 S:SC->Ľ->Option Sx
def B4(C:SC)(x:Ì):Option Ex:=match at_ x C.N 0 with
 |some k=>gu C.ck (Ar C x&&Cy x) (À (.v k))
 |none=>(lk x C.gs).bind fun c=>gu C.ck (jw C x&&(qC c).isSome) (À (.g x c))
section
variable(r:Tr)(C:SC)
def kS:List Î->Option Exs
 |[]=>À .nil
 |e::es=>gu C.ck (cA e) (m2 .cons (r.E C e) (kS es))
noncomputable def trO:Option Î->Option Ox
 |none=>À .no
 |some e=>(r.E C e).map .so
def vP:List Î->Option Tgs
 |[]=>À .nil
 |e::es=>gu C.ck (cA e) (m2 .cons (r.G C e) (vP es))
def ow:List Ľ->Option Ou
 |[]=>À .nil
 |s::ss=>m2 .cons (r.S C s) (ow ss)
noncomputable def K1:B!->Ex->Ex->Ex
 |.And=>.an
 |.Or=>.or
noncomputable def KZ:B!->Tx->Tx->Tx
 |.And=>.an
 |.Or=>.or
def vR(o:B!):List Î->Option Ex
 |[]=>Á
 |[x]=>r.E C x
 |x::y::es=>m2 (K1 o) (r.E C x) (vR o (y::es))
def vQ(o:B!):List Î->Option Tx
 |[]=>Á
 |[x]=>r.T C x
 |x::y::es=>m2 (KZ o) (r.T C x) (vQ o (y::es))
noncomputable def trC:List Î->Option Cx'
 |[]=>À .no
 |[e]=>(r.T C e).map .so
 |_=>Á
def trR(es:List Î):Option Ix:=match es with
 |[a]=>(r.E C a).map .r1
 |[a,b]=>m2 .r2 (r.E C a) (r.E C b)
 |_=>Á
def trZ(es:List Î):Option Ix:=match es with
 |[a,b]=>m2 .zi (r.E C a) (r.E C b)
 |_=>Á
def trEn(a:Î)(kws:List ŋ):Option Ix:=match kws with
 |[]=>(r.E C a).map .en
 |[⟨À y,b,_⟩]=>gu C.ck (y==("start":Ì)) (m2 .es (r.E C a) (r.E C b))
 |_=>Á
def trIc(t e:Î)(es:List Î)(kws:List ŋ)(o:Option Ì):Option Ix:=match o with
 |some x =>
  if(x==("range":Ì))=Â then gu C.ck (jw C "range"&&kws.isEmpty&&es.all cA) (trR r C es)
  else if(x==("zip":Ì))=Â then gu C.ck (jw C "zip"&&kws.isEmpty&&es.all cA&&!sJ t) (trZ r C es)
  else if(x==("enumerate":Ì))=Â then gu C.ck (jw C "enumerate"&&es.all cA&&!sJ t) (match es with
   |[a]=>trEn r C a kws
   |_=>Á)
  else(r.E C e).map .e
 |none=>(r.E C e).map .e
def trI(t e:Î):Option Ix:=match e with
 |.Call f es kws _=>trIc r C t e es kws (nmO f)
 |_=>(r.E C e).map .e
def trL(elt:Î)(gens:List Comprehension)(sc:Ğ):Option Nx:=match gens with
 |[⟨t,it,cs,i⟩]=>gu C.ck (t8 C sc&&(i==0)&&Bf it) ((trI r C t it).bind fun x=>(r.G (blk C sc) t).bind fun g=>gu C.ck (pX C.N.length g) (m2 (.lc ((eU C sc).length-C.N.length) x g) (trC r (blk C sc) cs) (r.E (blk C sc) elt)))
 |_=>Á
def trLr(p:ģ)(es:List Î):Option Ex:=match es with
 |[a]=>(r.E C a).map fun a=>.nw (hB C p 0) (.lr1 a)
 |[a,b]=>m2 (fun a b=>.nw (hB C p 0) (.lr2 a b)) (r.E C a) (r.E C b)
 |_=>Á
def trLf(p:ģ)(a:Î):Option Ex:=match a with
 |.Call f es kws _=>gu C.ck ((match nmO f with|some y=>y==("range":Ì)|none=>Ã)&&kws.isEmpty&&jw C "range"&&es.all cA) (trLr r C p es)
 |a=>(r.E C a).map fun a=>.nw (hB C p 0) (.lof a)
def trF1(x:Ì)(p:ģ)(es:List Î):Option Ex:=match es with
 |[a] =>
  gu C.ck (x==("list":Ì)&&jw C "list"&&cA a) (trLf r C p a)
 |_=>Á
def Aw(x:Ì)(es:List Î)(p:ģ)(j:Nat)(o:Option (List Ì)):Option Ex:=match o with
 |some _=>gu C.ck (KF C j x (es.length+1)&&jw C x&&!es.isEmpty&&es.all cA) ((kS r C es).map (.ne x j))
 |_=>gu C.ck (KI C j x es.length&&jw C x&&es.all cA) ((kS r C es).map (.ca (!hB C p 6) j))
def Ax(x:Ì)(es:List Î)(p:ģ)(o:Option Bi):Option Ex:=match o with
 |some b=>gu C.ck (jw C x&&!es.isEmpty&&es.all cA) ((kS r C es).map (.bi b))
 |none=>trF1 r C x p es
def B5(x:Ì)(es:List Î)(p:ģ):Option Ex:=match at_ x C.cn 0 with
 |some j=>Aw r C x es p j (lk x C.cl)
 |none=>Ax r C x es p (lk x HS)
def trK(x:Ì)(es:List Î)(kws:List ŋ):Option Ex:=match es with
 |[a]=>(match kws with
  |[⟨À y,d,_⟩]=>gu C.ck (x==("min":Ì)&&y==("default":Ì)&&cN d&&(jw C "min"&&cA a)) ((r.E C a).map .mnd)
  |[⟨À y,.Lambda ps body sc lp,_⟩,⟨À z,d,_⟩]=>gu C.ck (x==("min":Ì)&&y==("key":Ì)&&z==("default":Ì)&&(cN d&&jw C "min"&&cA a&&(MU C lp&&Bu C sc ps))) ((r.E C a).bind fun a=>(r.E (G7 C sc) body).bind fun b=>gu C.ck (mv b) (À (.mnk a b)))
  |_=>Á)
 |_=>Á
noncomputable def miA(q:Mi)(es:List Î):Mi:=match q,es with
 |q,_=>q
def EZ(o:Î)(m:Ì)(a:ģ)(es:List Î)(p:ģ):Option Ex:=gu C.ck (es.all cA&&Nat.blt es.length 30&&p5 o&&(a.endLine==p.line)) (match at_ m C.cn 0 with
 |some j=>C.cl.head?.bind fun q=>gu C.ck (KD C j q.1 m (es.length+1)) (m2 (.me q.1 m j) (r.E C o) (kS r C es))
 |none=>(lk m GQ).bind fun q=>m2 (.mt (miA q es)) (r.E C o) (kS r C es))
def trSl(a:Î)(l h st:Option Î)(p:ģ):Option Ex:=match st with
 |none =>
  m3 (fun a l h=>.nw (hB C p 0) (.sl a l h)) (r.E C a) (trO r C l) (trO r C h)
 |some _=>Á
def trCe(a:Î)(c:List Ϛ)(bs:List Î):Option Ex:=match c with
 |[o]=>(match bs with
  |[b]=>gu C.ck (my o b) (m2 (.cmp o) (r.E C a) (r.E C b))
  |_=>Á)
 |_=>Á
def trCt(a:Î)(c:List Ϛ)(bs:List Î):Option Tx:=match c with
 |[o]=>(match bs with
  |[b]=>gu C.ck (my o b) (m2 (.cmp o) (r.E C a) (r.E C b))
  |_=>Á)
 |_=>Á
def trE(e:Î):Option Ex:=match e with
 |.Constant k _ _=>kX k
 |.Name x _=>B4 C x
 |.BinOp a o b p =>
  if hB C p 1=Â then gu C.ck (decide (o=.Add)) (m2 (fun x y=>.nw (hB C p 0) (.cat x y)) (r.E C a) (r.E C b)) else
  (match lsO a with
  |some d=>gu C.ck (decide (o=.Mult)) (m2 (fun x y=>.nw (hB C p 0) (.rep x y)) (kS r C d) (r.E C b))
  |none=>m2 (.bin o) (r.E C a) (r.E C b))
 |.Compare a os bs _=>trCe r C a os bs
 |.UnaryOp o a _=>(match o with
  |.Not=>(r.E C a).map .no
  |o=>(r.E C a).map (.un o))
 |.BoolOp o d _=>vR r C o d
 |.IfExp t a b _=>m3 .ife (r.T C t) (r.E C a) (r.E C b)
 |.Subscript a i p=>(match i with
  |.Slice l h st _=>trSl r C a l h st p
  |i=>gu C.ck (jS i) (m2 .ix (r.E C a) (r.E C i)))
 |.Tuple d _ _=>(kS r C d).map .tu
 |.List d p=>(kS r C d).map fun x=>.nw (hB C p 0) (.li x)
 |.ListComp elt gens sc p=>(trL r C elt gens sc).map fun x=>.nw (hB C p 0) x
 |.Dict ks vs _=>gu C.ck (ks.isEmpty&&vs.isEmpty) (À .dn)
 |.Attribute o f _=>(tT f C.cl).bind fun c=>gu C.ck (p5 o) ((r.E C o).map (.fd c f))
 |.Call f d kws p=>(match f with
  |.Name x _=>(match kws with
   |[]=>B5 r C x d p
   |kws=>trK r C x d kws)
  |.Attribute o m ap=>gu C.ck kws.isEmpty (EZ r C o m ap d p)
  |_=>Á)
 |_=>Á
def trT(e:Î):Option Tx:=match e with
 |.UnaryOp o a p=>(match o with
  |.Not=>(r.T C a).map .no
  |o=>(r.E C (.UnaryOp o a p)).map .va)
 |.BoolOp o es _=>vQ r C o es
 |.Compare a os bs _=>trCt r C a os bs
 |e=>gu C.ck (xS e) ((r.E C e).map .va)
def pU(x:Ì):Option Tg:=(at_ x C.N 0).bind fun k=>gu C.ck (Bo C x&&Cy x) (À (.nm k))
def trG(e:Î):Option Tg:=match e with
 |.Name x _=>pU C x
 |.Tuple es _ _=>gu C.ck (es.all cA) ((vP r C es).map (.tu es.length))
 |.Subscript a b _=>gu C.ck (jS b) (m2 .su (r.E C a) (r.E C b))
 |_=>Á
def trAn(x:Ì)(v:Î):Option Sx:=match v with
 |.ListComp elt gens sc q=>m2 .as ((trL r C elt gens sc).map fun x=>.nw (hB C q 0) x) (pU C x)
 |v=>gu C.ck (oH v) (m2 .as (r.E C v) (pU C x))
def trAs(t v:Î):Option Sx:=match t with
 |.Attribute o f _=>(tT f C.cl).bind fun c=>m2 (.fl c f) (r.E C o) (r.E C v)
 |.Name x _=>trAn r C x v
 |.Subscript a b p=>m2 .as (r.E C v) (r.G C (.Subscript a b p))
 |.Tuple ts k p=>(match v with
  |v=>gu C.ck (sJ v&&oH v) (m2 .as (r.E C v) (r.G C (.Tuple ts k p))))
 |_=>Á
def trS(s:Ľ):Option Sx:=match s with
 |.Expr e _=>gu C.ck (oH e) ((r.E C e).map .ex)
 |.Assign ts v _=>(match ts with
  |[t]=>trAs r C t v
  |_=>Á)
 |.AugAssign t o v _=>(match t with
  |.Subscript a b _=>gu C.ck (jS b) (m3 (.aus o) (r.E C a) (r.E C b) (r.E C v))
  |_=>Á)
 |.Return e _=>(match e with
  |none=>Á
  |some e=>(r.E C e).map .rt)
 |.If t a b _=>m3 .iff (r.T C t) (ow r C a) (ow r C b)
 |.For t it b els p=>gu C.ck (els.isEmpty&&Bf it) (
  if hB C p 4=Â then m3 .fd (r.E C it) (r.G C t) (ow r C b) else
  m3 .fo (trI r C t it) (r.G C t) (ow r C b))
 |.While t b els _=>gu C.ck els.isEmpty (m2 .wh (r.T C t) (ow r C b))
 |.Raise _ _ _=>À .dead
 |_=>Á
end
theorem Hk{α:Type}{c:Bool}{x:Option α}:gu Ã c x=x:=rfl
theorem Ea{a b:String}(h:ć a=ć b):a=b:=by
 rw[Str.ofString_eq_byList]at h;have h:=congrArg (fun x=>x.cps.toList) h;exact String.toList_inj.mp (List.map_inj_right (fun x y e=>Char.toNat_inj.mp e) |>.mp h)
theorem Gy{a b:String}:(ć a==ć b)=decide (a=b):=by
 by_cases h:a=b
 ·subst h;simp
 ·rw[yA h]
  exact beq_eq_false_iff_ne.mpr fun e=>h (Ea e)
def tr:Nat->Tr
 |0=>⟨fun _ _=>Á,fun _ _=>Á,fun _ _=>Á,fun _ _=>Á⟩
 |n+1=>⟨trE (tr n),trT (tr n),trG (tr n),trS (tr n)⟩
section
variable{n:Nat}
theorem Lq:(tr (n+1)).E=trE (tr n):=rfl
theorem Ln:(tr (n+1)).T=trT (tr n):=rfl
theorem Lp:(tr (n+1)).G=trG (tr n):=rfl
theorem Lo:(tr (n+1)).S=trS (tr n):=rfl
end
theorem uS:type_of% @trS.eq_def:=@trS.eq_def
theorem uE:type_of% @trE.eq_def:=@trE.eq_def
theorem uT:type_of% @trT.eq_def:=@trT.eq_def
theorem uG:type_of% @trG.eq_def:=@trG.eq_def
theorem MC:type_of% @trAs.eq_def:=@trAs.eq_def
theorem MD:type_of% @trAn.eq_def:=@trAn.eq_def
theorem uK:type_of% @trK.eq_def:=@trK.eq_def
theorem MB:type_of% @trCe.eq_def:=@trCe.eq_def
theorem MA:type_of% @trCt.eq_def:=@trCt.eq_def
theorem uI:type_of% @trI.eq_def:=@trI.eq_def
theorem Mx:type_of% @trIc.eq_def:=@trIc.eq_def
theorem Mu:type_of% @trSl.eq_def:=@trSl.eq_def
theorem uL:type_of% @trL.eq_def:=@trL.eq_def
theorem Mz:type_of% @trEn.eq_def:=@trEn.eq_def
theorem uR:type_of% @trR.eq_def:=@trR.eq_def
theorem uZ:type_of% @trZ.eq_def:=@trZ.eq_def
theorem My:type_of% @trF1.eq_def:=@trF1.eq_def
theorem Mw:type_of% @trLf.eq_def:=@trLf.eq_def
theorem Mv:type_of% @trLr.eq_def:=@trLr.eq_def
theorem uO:type_of% @trO.eq_def:=@trO.eq_def
theorem uC:type_of% @trC.eq_def:=@trC.eq_def
theorem uX:type_of% @kX.eq_def:=@kX.eq_def
theorem uM:type_of% @nmO.eq_def:=@nmO.eq_def
theorem uN:type_of% @lsO.eq_def:=@lsO.eq_def
theorem uP:type_of% @miA.eq_def:=@miA.eq_def
def Ig[Ol](P:Ò)(w:Û)(K:ã)(mg:Ì->Option Ä)(base:è)(A:Ď)(fn:Fn):Ke->Prop
 |.f x n=>∃d f fd ps,ps.length=n/\FnOk P w K mg base fu d f fd ps (dR ⟨K,mg⟩ ps.length fn)/\Room d A/\mg x=À (.ref f)/\Ĺ K (.ref f)=Â/\Binds K fd ps []
 |.m c m n=>∃d f fd ps C,ps.length=n/\FnOk P w K mg base fu d f fd ps (dR ⟨K,mg⟩ ps.length fn)/\Room d A/\mg c=À (.ref C)/\Cls K C/\kO K C m f/\Binds K fd ps []
 |.k c n=>∃d f fd ps C,ps.length=n/\FnOk P w K mg base fu d f fd ps (dR ⟨K,mg⟩ ps.length fn)/\Room (d+1) A/\mg c=À (.ref C)/\Mk K C f/\Binds K fd ps []
structure Fit[Ol](X:Cx)(C:SC)(ks:List Fn):Prop where
 N:X.N=C.N
 ck:C.ck=Â
 nm:X.env.scope.names=C.nm
 nd:C.N.Nodup
 kind:X.env.scope.kind=.function
 calm:X.calm=Â
 cf:∀x∈C.cf,X.fn x=Â
 hu:X.A.units+64<ř
 gd:X.A.guards=À []
 bl:∀x∈bnames,X.mg x=Á
 po:ϝ (model X.prog X.w) X.A X.env X.xe
 ke:∀(j:Nat) k,C.ke[j]?=À k->Ig X.prog X.w X.K X.mg X.base X.A (kf ks j) k
 gs:∀p∈C.gs,∀w,qC p.2=À w->∃u,X.mg p.1=À u/\RelV w u
 cl:∀p∈C.cl,∃Ca,X.mg p.1=À (.ref Ca)/\Cls X.K Ca/\∀f∈p.2,NoAttr X.K Ca f
 la:∀p∈C.la,Room 2 X.A/\∃c P,X.env.code=.ref c/\U0 X.base c P/\jI X.mg X.base/\(P,p,X.env.qual++"<lambda>")∈Ol.tb/\∀t∈Ol.tb,t.1=P->t=(P,p,X.env.qual++"<lambda>")
section
variable{X:Cx}{C:SC}{ks:List Fn}
theorem Fit.kdO[Ol](F:Fit X C ks)(x:Ì):X.env.kindOf x=kd C x:=by unfold kd;rw[<- F.nm];rfl
theorem Fit.vis[Ol](F:Fit X C ks)(h:Ar C x=Â):Af X.env.scope x:=by
 unfold Ar kd at h;rw[<- F.nm]at h;unfold Af;split at h
 ·rename_i e;exact .inl e
 ·rename_i e;exact .inr (.inl e)
 ·rename_i e;exact .inr (.inr e)
 ·cases h
theorem Fit.loc[Ol](F:Fit X C ks)(h:Bo C x=Â):L2.Loc X.env.scope x/\(X.fn x=Â\/X.env.scope.names.lookup x=À .local):=by
 unfold Bo kd at h;rw[<- F.nm]at h;unfold L2.Loc;split at h
 ·rename_i e;exact⟨.inl e,.inr e⟩
 ·rename_i e;exact⟨.inr e,.inl (F.cf x (by simpa using h))⟩
 ·cases h
theorem tP(h:Cy x=Â):(x==("__debug__":Ì))=Ã/\(x==("__classdict__":Ì))=Ã:=dP h fun b a=>⟨by simpa using b,by simpa using a⟩
theorem Fit.gl[Ol](F:Fit X C ks)(h:jw C x=Â):Gl X x/\(x==("__debug__":Ì))=Ã:=by
 unfold jw at h;refine dP h fun a b=>⟨?_,(tP b).1⟩
 unfold Gl;rw[F.kdO];split at a
 ·rename_i e;exact e
 ·cases a
theorem Fit.nmb[Ol](F:Fit X C ks){k:Nat}(h:at_ x C.N 0=À k):X.N[k]?=À x:=by rw[F.N];exact HV h
theorem Fit.clb[Ol](F:Fit X C ks){c f:Ì}(h:tT f C.cl=À c):∃Ca,X.mg c=À (.ref Ca)/\Cls X.K Ca/\NoAttr X.K Ca f:=by
 obtain⟨fs,g,e⟩:=zu h;obtain⟨Ca,a,b,d⟩:=F.cl _ g;exact⟨Ca,a,b,d f e⟩
theorem Fit.blt[Ol](F:Fit X C ks)(h:x∈bnames):X.mg x=Á:=F.bl x h
theorem Hw(b:Ū):KP b=(b==Ú):=by cases b<;>rfl
theorem HN(o:Option Ū):CC o=(o==À ě):=by
 cases o with
 |none=>rfl
 |some k=>cases k<;>rfl
theorem Fit.blk[Ol](F:Fit X C ks)(h:t8 C sc=Â):jO X (eU C sc) sc/\∀cl s H fp Og,Fit (cB X (eU C sc) sc cl s H fp Og) (R.blk C sc) ks:=by
 unfold t8 at h;simp only[zC,yC]at h;obtain⟨⟨⟨⟨u,r⟩,z⟩,y⟩,w⟩:=h;have t:sc.kind=.function:=by
  split at u
  ·rename_i e;exact e
  ·cases u
 have j:C.N.length<=(eU C sc).length:=by unfold eU;rw[zV,zH];lia
 have l:∀x,(x,Ú)∈sc.names->X.env.kindOf x=À .cell\/X.env.kindOf x=À .free:=fun x f=>by
  have:=yR.mp y _ f
  simp only at this;rw[F.kdO];split at this
  ·rename_i e;exact .inl e
  ·rename_i e;exact .inr e
  ·cases this
 have m:∀i x,i<X.N.length->(eU C sc)[i]?=À x->(∀k,(x,k)∈sc.names->k=.free/\X.N[i]?=À x):=fun i x d e k c=>by
  rw[F.N]at d ⊢
  have:=yR.mp w i (Ü.mpr d)
  rw [e] at this;simp only at this;have v:=dk r c;rw [v] at this;cases k <;> simp only at this <;> first | (cases this;done) | exact ⟨rfl,of_decide_eq_true this⟩
 refine ⟨⟨t,r,by rw [F.N];exact j,l,fun i x d e c=>(m i x d e _ c).2,fun i x d e n=>by obtain ⟨k,c⟩:=n;have:=(m i x d e k c).1;subst this;exact c⟩,fun cl s H fp Og=>?_⟩;refine ⟨rfl,F.ck,?_,z,t,F.calm,fun x f=>?_,F.hu,F.gd,F.bl,PassesOwn.never,F.ke,F.gs,F.cl,fun p q=>absurd (show p ∈ ([]:List ģ) from q) (by simp)⟩
 ·show(relabel sc X.env).names=_
  unfold relabel R.blk;dsimp only;rw[F.kind,F.ck];apply ϓ;intro p _;obtain⟨a,b⟩:=p;simp only[F.kdO,Hw,HN];simp
 ·unfold R.blk at f
  rw[F.ck]at f;obtain⟨p,q,e⟩:=yD.mp f;obtain⟨o,g⟩:=Ŀ.mp q;obtain⟨a,b⟩:=p;dsimp only at e g;subst e;have:b=.cell:=by cases b<;>first|rfl|cases g
  subst this;show(sc.names.lookup a==À ě)=Â;rw[dk r o];rfl
end
section
variable{X:Cx}{C:SC}{ks:List Fn}
theorem Fit.lam[Ol](F:Fit X C ks)(m:Room 2 X.A)(h:Bu C sc ps=Â):∃x,wY X (eU C sc) sc x/\plainA ps=Â/\ps.args.map (·.arg)=[x]/\T6 ps X.env=([],[]) /\
  ∀cl f q cd s H,Fit (tQ X (eU C sc) sc cl f q cd X.A.in1 s H) (G7 C sc) ks:=by
 unfold Bu at h;simp only[zC]at h;obtain⟨⟨⟨⟨⟨⟨⟨b,B⟩,A⟩,z⟩,w⟩,v⟩,a⟩,u⟩:=h;obtain⟨l,_⟩:=F.blk b;split at a
 ·rename_i x y ex D
  simp only[zC]at a;have g:=yK a.1;subst g;have t:sc.names.lookup x=À .local:=by
   have:=a.2
   split at this
   ·rename_i e;exact e
   ·cases this
  have hN:eU C sc=(C.N.map fun x=>if tz sc x=Â then x else Hj C.ck x)++[x]:=by unfold eU;rw[ex]
  refine⟨x,⟨l,by simpa using B,by simpa using A,by rw[hN,F.N];simp,by rw[hN,F.N];simp,t,fun y n e=>?_⟩,z,D,?_,fun cl f q cd s H=>?_⟩
  ·have:=yR.mp u y n
   rw[e]at this;cases this
  ·obtain⟨a1,a2,M,L,J,K,I⟩:=ps
   have G:I=[]:=é.mp w;have E:J=[]:=é.mp v;subst G;subst E;rfl
  ·have c:(eU C sc).Nodup:=by
    unfold t8 at b;simp only[zC,yC]at b;exact b.1.1.2
   have d:sc.kind=.function:=l.kind;have r1:Room 1 X.A.in1:=m.in1;have i:=Room.deeper r1 (T5 sc s.heap.objs.size Ï cl (q++".<locals>.") (À f) cd Á ę);refine ⟨rfl,F.ck,(by show _=uz C.ck sc.names;rw [F.ck];rfl),c,d,rfl,fun x o=>absurd (show x ∈ ([]:List Ì) from o) (by simp),i.units,i.gd,F.bl,PassesOwn.never,fun j k e=>absurd (show ([]:List Ke)[j]?=À k from e) (by simp),F.gs,F.cl,fun p r=>absurd (show p ∈ ([]:List ģ) from r) (by simp)⟩
 ·cases a
end
mutual
theorem uJ{n:Nat}:∀{t:Tg},pX n t=Â->pH n (cg ks t)
 |.nm k,h=>by
  simp only[pX]at h;have hk:=zS h;simp only[cg];intro x d c b a e;cases e;exact⟨ă,fun j f=>ï oM⟩
 |.tu m ts,h=>by
  simp only[pX]at h;simp only[cg];intro x d c b a e;unfold zd at e;split at e
  ·split at e
   ·exact nU h _ _ _ _ _ e
   ·cases e
  ·split at e
   ·split at e
    ·exact nU h _ _ _ _ _ e
    ·cases e
   ·cases e
 |.su _ _,h=>by simp only[pX]at h;cases h
theorem nU{n:Nat}:∀{ts:Tgs},rk n ts=Â->∀xs sl st sl' st',jM ks ts xs sl st=À (sl',st')->sl'.length=sl.length/\∀j,j<n->sl'[j]?=sl[j]?
 |.nil,_,xs,sl,st,sl',st',e=>by
  simp only[jM]at e;cases xs with
  |nil=>cases e;exact⟨rfl,fun _ _=>rfl⟩
  |cons _ _=>cases e
 |.cons t ts,h,xs,sl,st,sl',st',e=>by
  simp only[rk,zC]at h;simp only[jM]at e;cases xs with
  |nil=>cases e
  |cons x xs =>
   obtain⟨p,e1,e2⟩:=zA e;obtain⟨a1,a2⟩:=uJ h.1 _ _ _ _ _ e1;obtain⟨c,b⟩:=nU h.2 _ _ _ _ _ e2;exact⟨c.trans a1,fun j a=>(b j a).trans (a2 j a)⟩
end
theorem mE{r:Tr}(b:C.ck=Â):∀{es:List Î}{as:Exs},kS r C es=À as->∀sl st xs st',eS ks as sl st=À (xs,st')->xs.length=es.length
 |[],as,h,sl,st,xs,st',e=>by cases h;cases e;rfl
 |x::es,as,h,sl,st,xs,st',e=>by
  refine aO b h fun _ h=>?_
  revert e
  refine b9 h fun a as _ h2 e=>?_
  obtain⟨p,e1,e2⟩:=zA e;obtain⟨q,d,c⟩:=zA e2;cases c;rw[yY,yY,mE b h2 _ _ _ _ d]
theorem Ka:à "len"=À (.builtin "len"):=by decide +kernel
theorem J6:à "sum"=À (.builtin "sum"):=by decide +kernel
theorem Kd:à "all"=À (.builtin "all"):=by decide +kernel
theorem Kc:à "any"=À (.builtin "any"):=by decide +kernel
theorem Kf:à "abs"=À (.builtin "abs"):=by decide +kernel
theorem J8:à "min"=À (.builtin "min"):=by decide +kernel
theorem J9:à "max"=À (.builtin "max"):=by decide +kernel
theorem Kb:à "int"=À (.type "int"):=by decide +kernel
section
variable{X:Cx}{C:SC}{ks:List Fn}
theorem J5[Ol](F:Fit X C ks)(b:Bi){e:Î}{es:List Î}{g:AF}{p pos:ģ}(h:jw C b.nm=Â)(d:QA X (e::es) g)(f:(e::es).all cA=Â):QE X (.Call (.Name b.nm p) (e::es) [] pos) (uj (l8 b) g):=by
 have gl:=F.gl h;rw[ĺ,zC]at f;have c:=aJ (env:=X.env) (es:=es) f.1;have a:=iW (env:=X.env) (pos:=pos) f.2;cases b with
 |len=>exact ku JW gl.1 (F.blt dC) Ka d dC gl.2 c a
 |sum=>exact ku (JT F.calm) gl.1 (F.blt dC) J6 d dC gl.2 c a
 |all=>exact ku (JZ F.calm) gl.1 (F.blt dC) Kd d dC gl.2 c a
 |any=>exact ku (JY F.calm) gl.1 (F.blt dC) Kc d dC gl.2 c a
 |abs=>exact ku J1 gl.1 (F.blt dC) Kf d dC gl.2 c a
 |min=>exact ku (JU F.calm) gl.1 (F.blt dC) J8 d dC gl.2 c a
 |max=>exact ku (JV F.calm) gl.1 (F.blt dC) J9 d dC gl.2 c a
 |int=>exact IP JX gl.1 (F.blt dC) Kb d dC gl.2 c a
theorem Jl[Ol](F:Fit X C ks)(m:Mi){o:Î}{es:List Î}{f:EF}{g:AF}{l p:ģ}(h:QE X o f)(k:QA X es g)(q:es=[]->g=fF)(i:es.all cA=Â)(n:es.length<30)(hb:p5 o=Â)(b:(l.endLine==p.line)=Â) :
  QE X (.Call (.Attribute o m.nm l) es [] p) (nJ (sO m) (sN m) f g):=by
 cases es with
 |nil =>
  have:=q rfl
  subst this;have a:=gx (env:=X.env) (f:=m.nm) (eval o X.env) hb;cases m with
  |app=>exact oB æ a? ϻ Cl h a b
  |pop=>exact oB æ h? h! Ci h a b
  |ext=>exact oB æ a! Ϻ Cj h a b
  |cnt=>exact oB æ Ş c! (Ck F.hu) h a b
 |cons e es =>
  have a:=gx (env:=X.env) (f:=m.nm) (eval o X.env) hb;have c:=KU (env:=X.env) (cpos:=p) i n;rw[ĺ,zC]at i;have j:=aJ (env:=X.env) (es:=es) i.1;have d:=iW (env:=X.env) (pos:=p) i.2;cases m with
  |app=>exact rn æ a? ϻ Cl h k a c b j d
  |pop=>exact rn æ h? h! Ci h k a c b j d
  |ext=>exact rn æ a! Ϻ Cj h k a c b j d
  |cnt=>exact rn æ Ş c! (Ck F.hu) h k a c b j d
theorem F8[Ol]{P:Ò}{w:Û}{K:ã}{mg:Ì->Option Ä}{a:è}{k:Nat}{f:Ç}{fd:Ė}{ps:List Ì}{n:Nat}{fn:Fn}(b:Bool)(F:FnOk P w K mg a fu k f fd ps (dR ⟨K,mg⟩ n fn)):FnOk P w K mg a fu k f fd ps (dR ⟨K,mg⟩ n (d4 b fn)):=by
 cases b
 ·exact F
 ·exact FnOk.pm F
end
theorem kx{ks:List Fn}:∀{e:Ex},mv e=Â->CN (ev ks e)
 |.v k,_=>fun sl st v st' e=>by
  have e:aV k sl st=À (v,st'):=e;unfold aV at e;split at e
  ·cases e;rfl
  ·cases e
 |.i k,_=>fun sl st v st' e=>by
  cases e;rfl
 |.ix a b,h=>fun sl st v st' e=>by
  refine dP h fun n m=>?_
  obtain⟨p,j,i⟩:=zA e;obtain⟨q,l,g⟩:=zA i;obtain⟨z,r,d⟩:=zE.mp g;cases d;rw[kx m _ _ _ _ l,kx n _ _ _ _ j]
 |.fd c f o,h=>fun sl st v st' e=>by
  obtain ⟨p,j,i⟩:=zA e;obtain ⟨q,l,g⟩:=zA i;obtain ⟨z,r,d⟩:=zE.mp g;cases d;rw [kx (show mv o=Â from h) _ _ _ _ j]
theorem Jm{α d c:Type}{f:α->d->c}{x:Option α}{y:Option d}{m:c}(h:m2 f x y=À m):∃a b,x=À a/\y=À b/\m=f a b:=b9 h fun a b g e=>⟨a,b,g,e,rfl⟩
structure BT[Ol](r:Tr)(ks:List Fn):Prop where
 E:∀{X:Cx}{C:SC}{e:Î}{m:Ex},Fit X C ks->r.E C e=À m->QE X e (ev ks m)
 T:∀{X:Cx}{C:SC}{e:Î}{m:Tx},Fit X C ks->r.T C e=À m->QT X e (tv ks m)
 G:∀{X:Cx}{C:SC}{e:Î}{m:Tg},Fit X C ks->r.G C e=À m->QG X e (cg ks m)
 S:∀{X:Cx}{C:SC}{s:Ľ}{m:Sx},Fit X C ks->r.S C s=À m->QS X s (cW ks m)
section
variable[Ol]{ks:List Fn}{r:Tr}(R:BT r ks){X:Cx}{C:SC}(F:Fit X C ks)
include R F
theorem gz:∀{es:List Î}{m:Exs},kS r C es=À m->QA X es (eS ks m)
 |[],m,h=>by cases h;exact fH
 |e::es,m,h=>aO F.ck h fun h0 h=>b9 h fun a as h1 h2=>dw (R.E F h1) (gz h2) (aJ h0)
theorem xo{e:Option Î}{m:Ox}(h:trO r C e=À m):QO X e (tM ks m):=by
 cases e with
 |none=>cases h;exact Dq
 |some e=>exact cm h fun a h=>Dp (R.E F h)
theorem iV:∀{ss:List Ľ}{m:Ou},ow r C ss=À m->nK X ss (ai ks m)
 |[],m,h=>by cases h;exact Dk
 |s::ss,m,h=>b9 h fun a as h1 h2=>AM (R.S F h1) (iV h2)
theorem uF:∀{es:List Î}{m:Tgs},vP r C es=À m->Ai X es (jM ks m)
 |[],m,h=>by cases h;exact Du
 |e::es,m,h=>aO F.ck h fun h0 h=>b9 h fun a as h1 h2=>AO (R.G F h1) (uF h2) (BG h0)
theorem pW{o:B!}{p:ģ}:∀{x:Î}{es:List Î}{m:Ex},vR r C o (x::es)=À m->QE X (.BoolOp o (x::es) p) (ev ks m)
 |x,[],m,h=>by cases o<;>exact Gi (R.E F h)
 |x,y::es,m,h=>b9 h fun a b h1 h2=>by
  cases o
  ·exact F0 (R.E F h1) (pW h2)
  ·exact IQ (R.E F h1) (pW h2)
theorem pV{o:B!}{p:ģ}:∀{x:Î}{es:List Î}{m:Tx},vQ r C o (x::es)=À m->QW X (.BoolOp o (x::es) p) (tv ks m)
 |x,[],m,h=>Fz o (R.T F h)
 |x,y::es,m,h=>b9 h fun a b h1 h2=>by
  cases o
  ·exact FA (R.T F h1) (pV h2)
  ·exact IH (R.T F h1) (pV h2)
theorem E6{es:List Î}{m:Cx'}(h:trC r C es=À m):vH X es (jz ks m):=by
 rcases es with _|⟨e,_|_⟩
 ·cases h;exact Dt
 ·exact cm h fun a h=>Ds (R.T F h)
 ·exact bu h
omit R in
theorem EV{x:Ì}{p:ģ}{m:Ex}(h:B4 C x=À m):QE X (.Name x p) (ev ks m):=by
 unfold B4 at h;split at h
 ·rename_i k g
  refine aO F.ck h fun e h=>dP e fun d a=>?_
  cases h;exact FT (F.nmb g) (F.vis d) (tP a).1 (tP a).2
 ·refine ia h fun c i h=>aO F.ck h fun e h=>dP e fun d a=>?_
  cases h;obtain⟨w,f⟩:=Ĵ.mp a;obtain⟨u,b,j⟩:=F.gs _ (rK i) w f;obtain⟨g1,l⟩:=F.gl d;exact sE f (DV g1 b j l) fun _ _ _ h=>h
omit R F in
theorem xn{t:Î}(h:(!sJ t)=Â):∃ts k p,t=.Tuple ts k p:=by
 cases t with
 |Tuple ts k p=>exact⟨ts,k,p,rfl⟩
 |_=>exact mR h
theorem xq{t e:Î}{m:Ix}(h:trI r C t e=À m):QI X t e (eB ks m):=by
 have s:∀{m},(r.E C e).map .e=À m->QI X t e (eB ks m):=fun h=>cm h fun a h=>LP (R.E F h)
 cases e with
 |Call f es kws p =>
  have h:trIc r C t _ es kws (nmO f)=À m:=h;cases i:nmO f with
  |none=>rw[i]at h;exact s h
  |some x =>
   rw[i]at h;obtain⟨q,rfl⟩:=yf i;unfold trIc at h;split at h
   ·rename_i v
    rw[yK v];refine aO F.ck h fun o g=>ld o fun n A j=>?_
    cases é.mp A;rcases es with _|⟨a,_|⟨b,_|⟨c,_|_⟩⟩⟩
    ·exact bu g
    ·refine dP j fun l _=>?_
     exact cm g fun x i=>IL (F.gl n).1 (F.blt dC) (R.E F i) (aJ l)
    ·refine dP j fun l j=>dP j fun w _=>?_
     exact b9 g fun x y i u=>IK (F.gl n).1 (F.blt dC) (R.E F i) (R.E F u) (by rw[aJ l,aJ w];rfl) (aJ w)
    all_goals exact bu g
   ·split at h
    ·rename_i v
     rw[yK v];refine aO F.ck h fun o g=>qV o fun n A j z=>?_
     cases é.mp A;obtain⟨B,k,tp,rfl⟩:=xn z;rcases es with _|⟨a,_|⟨b,_|⟨c,_|⟨d,_|_⟩⟩⟩⟩
     ·exact bu g
     ·exact bu g
     ·refine dP j fun l j=>dP j fun w _=>?_
      exact b9 g fun x y i u=>FP (F.gl n).1 (F.blt dC) (R.E F i) (R.E F u) (by rw[aJ l,aJ w];rfl) (aJ w)
     ·exact bu g
     all_goals exact bu g
    ·split at h
     ·rename_i v
      rw[yK v];refine aO F.ck h fun o g=>ld o fun n j z=>?_
      obtain⟨B,k,tp,rfl⟩:=xn z;rcases es with _|⟨a,_|_⟩
      ·exact bu g
      ·refine dP j fun l _=>?_
       unfold trEn at g;dsimp only at g;split at g
       ·exact cm g fun x i=>IM (F.gl n).1 (F.blt dC) (R.E F i) (aJ l)
       ·refine aO F.ck g fun o g=>?_
        rw[yK o];exact b9 g fun x y i u=>FQ (F.gl n).1 (F.blt dC) (R.E F i) (R.E F u) (aJ l)
       ·exact bu g
      ·exact bu g
     ·exact s h
 |_=>exact s h
theorem xp{elt:Î}{gens:List Comprehension}{sc:Ğ}{m:Nx}(h:trL r C elt gens sc=À m):∃t it cs x g c y N',gens=[⟨t,it,cs,0⟩]/\m=.lc (N'.length-X.N.length) x g c y/\jO X N' sc/\QI X t it (eB ks x)/\(∀cl s H fp Og,QG (cB X N' sc cl s H fp Og) t (cg ks g))/\(∀cl s H fp Og,vH (cB X N' sc cl s H fp Og) cs (jz ks c)) /\
  (∀cl s H fp Og,QE (cB X N' sc cl s H fp Og) elt (ev ks y))/\pH X.N.length (cg ks g)/\(∀x,ú it X.env x=pure x):=by
 unfold trL at h;split at h
 ·rename_i t it cs i
  refine aO F.ck h fun p h=>ld p fun o n l=>ia h fun x d h=>ia h fun g e h=>aO F.ck h fun j k=>?_
  cases yK n;obtain⟨T,a⟩:=F.blk o;obtain⟨c,y,f,b,rfl⟩:=Jm k;exact⟨t,it,cs,x,g,c,y,eU C sc,rfl,by rw[F.N],T,xq R F d,fun cl s H fp Og=>R.G (a cl s H fp Og) e,fun cl s H fp Og=>E6 R (a cl s H fp Og) f,fun cl s H fp Og=>R.E (a cl s H fp Og) b,by rw[F.N];exact uJ j,sx l⟩
 ·exact bu h
theorem C4{x:Ì}{es:List Î}{p e:ģ}{m:Ex}(h:trF1 r C x e es=À m):QE X (.Call (.Name x p) es [] e) (ev ks m):=by
 rcases es with _|⟨a,_|⟨b,_|_⟩⟩
 ·exact bu h
 ·skip
  refine aO F.ck h fun s g=>ld s fun d o z=>?_
  rw[yK d];clear h;have t:∀{m},((r.E C a).map fun a=>Ex.nw (hB C e 0) (.lof a))=À m->QE X (.Call (.Name "list" p) [a] [] e) (ev ks m):=fun h=>cm h fun y h=>iK (FN (F.gl o).1 (F.blt dC) (R.E F h) (aJ z))
  cases a with
  |Call f es' kws' q =>
   refine aO F.ck g fun s k=>qV s fun n w v i=>?_
   obtain⟨A,rfl⟩:∃q,f=.Name "range" q:=by
    split at n
    ·rename_i y j
     obtain⟨q,rfl⟩:=yf j;rw[yK n];exact⟨q,rfl⟩
    ·exact mR n
   cases é.mp w;rcases es' with _|⟨a,_|⟨b,_|⟨c,_|_⟩⟩⟩
   ·exact bu k
   ·exact dP i fun l _=>cm k fun x d=>iK (FM F.calm (F.gl o).1 (F.blt dC) (F.gl v).1 (F.blt dC) (R.E F d) (aJ l))
   ·exact dP i fun l i=>dP i fun u _=>b9 k fun x y d j=>iK (FK F.calm (F.gl o).1 (F.blt dC) (F.gl v).1 (F.blt dC) (R.E F d) (R.E F j) ((aJ l).trans (by rw[aJ u];rfl)) (aJ u))
   ·exact bu k
   all_goals exact bu k
  |_=>first|exact t g|exact bu g
 all_goals exact bu h
theorem E4{x:Ì}{es:List Î}{p D:ģ}{m:Ex}(h:B5 r C x es D=À m):QE X (.Call (.Name x p) es [] D) (ev ks m):=by
 unfold B5 at h;split at h
 ·rename_i j _
  unfold Aw at h;split at h
  ·refine aO F.ck h fun i h=>qV i fun a l B c=>cm h fun H h=>?_
   unfold KF at a;split at a
   ·rename_i Q k A
    refine dP a fun a1 a2=>?_
    obtain⟨d,f,O,v,S,z,Fn,o,G,M,hb⟩:=F.ke j _ A;rw[yK a1]at G;obtain⟨g1,t⟩:=F.gl l;cases es with
    |nil=>exact mR B
    |cons P n =>
     have s:v.length=n.length+2:=by rw[z];exact yK a2
     refine dP c fun c L=>?_
     exact FW M Fn o g1 G hb (gz R F h) (fun K J I u e=>by rw[s,mE F.ck h _ _ _ _ e];rfl) t (aJ c) (iW L)
   ·exact mR a
  ·refine aO F.ck h fun i h=>ld i fun a l c=>cm h fun H h=>?_
   unfold KI at a;split at a
   ·rename_i y m A
    refine dP a fun a i=>?_
    obtain⟨d,f,O,v,z,Fn,o,w,E,hb⟩:=F.ke j _ A;obtain⟨g1,t⟩:=F.gl l;rw[yK a]at w;have s:v.length=es.length:=by rw[z];exact yK i
    cases es with
    |nil=>cases h;exact AR (F8 _ Fn) o g1 w E hb s t
    |cons P n =>
     refine dP c fun c N=>?_
     exact DA (F8 _ Fn) o g1 w E hb (gz R F h) (fun K J I u e=>by rw[s];exact mE F.ck h _ _ _ _ e) t (aJ c) (iW N)
   ·exact mR a
 ·unfold Ax at h
  split at h
  ·rename_i b hb
   refine aO F.ck h fun i h=>ld i fun a l B=>cm h fun H g=>?_
   cases es with
   |nil=>exact mR l
   |cons e es =>
    obtain rfl:x=b.nm:=(show ∀ q ∈ HS,q.1=q.2.nm by decide) _ (rK hb);exact J5 F b a (gz R F g) B
  ·exact C4 R F h
theorem E1{x:Ì}{es:List Î}{kws:List ŋ}{p K:ģ}{m:Ex}(h:trK r C x es kws=À m):QE X (.Call (.Name x p) es kws K) (ev ks m):=by
 unfold trK at h;split at h
 rotate_left
 ·exact bu h
 split at h
 ·refine aO F.ck h fun u h=>qV u fun t o n b=>dP b fun b l=>cm h fun y g=>?_
  obtain⟨a,q,rfl⟩:=CD n;rw[yK t,yK o];exact Dx F.calm (F.gl b).1 (F.blt dC) (R.E F g) (aJ l)
 ·rename_i a y ps D sc B p1 z d p2
  refine aO F.ck h fun u h=>qV u fun t o n b=>qV b fun b l U k=>dP k fun k S=>ia h fun y L h=>ia h fun w M h=>aO F.ck h fun Q h=>?_
  cases h;obtain⟨a,q,rfl⟩:=CD b;rw[yK t,yK o,yK n];obtain⟨q,N,i⟩:=Ĭ.mp k;have v:q=B:=by
   refine qV i fun J I G E=>?_
   cases q;cases B;cases yK J;cases yK I;cases yK G;cases yK E;rfl
  subst v;obtain⟨A,c,P,g1,Z,Y,W,V⟩:=F.la q N;obtain⟨x,T,O,j,e,FL⟩:=F.lam A S;exact Dw F.calm (F.gl l).1 (F.blt dC) (R.E F L) (aJ U) e g1 Z Y W T O j A.in1.depth (kx Q) (fun cl f c' s H=>R.E (FL cl f _ _ s H) M) V
 ·exact bu h
theorem EY{o:Î}{f:Ì}{y p:ģ}{es:List Î}{m:Ex}(h:EZ r C o f y es p=À m):QE X (.Call (.Attribute o f y) es [] p) (ev ks m):=by
 refine aO F.ck h fun K h=>qV K fun g J u t=>?_
 have c:es.length<30:=zJ (Ĳ _) (zS J);split at h
 ·rename_i j _
  refine ia h fun q _ h=>aO F.ck h fun l h=>?_
  revert h;intro h
  refine b9 h fun a M i b=>?_
  unfold KD at l;split at l
  ·rename_i U B k H
   refine ld l fun a1 a2 N=>?_
   obtain⟨d,T,S,A,V,G,Fn,w,s,cl,n,hb⟩:=F.ke j _ H;rw[yK a1]at s;rw[yK a2]at n;have x:A.length=es.length+1:=by rw[G];exact yK N
   cases es with
   |nil=>cases b;exact AQ (R.E F i) cl s n Fn w hb x (ve u g c t)
   |cons L v =>
    have D:=ve (env:=X.env) (f:=f) (o:=o) (es:=L::v) u g c t;refine dP g fun g I=>?_
    exact Dy (R.E F i) cl s n Fn w hb (gz R F b) (fun Q P O z e=>by rw[x,mE F.ck b _ _ _ _ e]) (aJ g) (iW I) D
  ·exact mR l
 ·refine ia h fun q E h=>b9 h fun a M i b=>?_
  have e:f=(miA q es).nm:=by
   have e:=(show ∀ q ∈ GQ,q.1=q.2.nm by decide) _ (rK E);dsimp only at e;rw [e];cases q <;> first | rfl | (cases es <;> rfl)
  subst e;exact Jl F _ (R.E F i) (gz R F b) (fun e=>by subst e;cases b;rfl) g c u t
theorem C3{a:Î}{l h s:Option Î}{p q:ģ}{m:Ex}(e:trSl r C a l h s p=À m):QE X (.Subscript a (.Slice l h s q) p) (ev ks m):=by
 cases s with
 |none =>
  unfold trSl at e;exact mz e fun x y z c b hz=>iK (IJ (R.E F c) (xo R F b) (xo R F hz))
 |some s =>
  exact bu e
theorem E5{e:Î}{m:Ex}(h:trE r C e=À m):QE X e (ev ks m):=by
 cases e with
 |Constant k a p=>cases k with
  |none=>cases h;exact sE (w:=.non) rfl Gk fun _ _ _ h=>h
  |bool b=>cases h;exact sE rfl Jd fun _ _ _ h=>h
  |int b=>cases h;exact sE rfl Gn fun _ _ _ h=>h
  |str b=>cases h;exact sE rfl Gh fun _ _ _ h=>h
  |_=>exact bu h
 |Name x p=>exact EV F h
 |BinOp a o b p =>
  unfold trE at h;split at h
  ·refine aO F.ck h fun j g=>?_
   cases of_decide_eq_true j;exact b9 g fun x y d n=>iK (FO (R.E F d) (R.E F n))
  ·split at h
   ·rename_i u B
    obtain⟨q,rfl⟩:=GZ B;refine aO F.ck h fun j g=>?_
    cases of_decide_eq_true j;exact b9 g fun x y d n=>iK (FJ (gz R F d) (R.E F n))
   ·exact b9 h fun x y d n=>FZ (R.E F d) (R.E F n)
 |Compare a os bs p =>
  have h:trCe r C a os bs=À m:=h;rcases os with _|⟨o,_|⟨M,_|_⟩⟩
  ·exact bu h
  ·rcases bs with _|⟨b,_|_⟩<;>first|exact bu h|exact aO F.ck h fun j h=>b9 h fun x y d n=>FY F.hu (R.E F d) (R.E F n) j
  ·exact bu h
  ·exact bu h
 |UnaryOp o a p=>cases o with
  |Not=>exact cm h fun x d=>FV (R.E F d)
  |_=>exact cm h fun x d=>IN (R.E F d)
 |BoolOp o u p=>cases u with
  |nil=>exact bu h
  |cons x u=>exact pW R F h
 |IfExp t a b p=>exact mz h fun x y z d n hz=>IS (R.T F d) (R.E F n) (R.E F hz)
 |Subscript a i p=>cases i with
  |Slice l h' s q=>exact C3 R F h
  |_=>exact aO F.ck h fun j h=>b9 h fun x y d n=>IR F.hu (R.E F d) (R.E F n) (Ju j)
 |Tuple u k p=>exact cm h fun x d=>FU (gz R F d)
 |List u p=>exact cm h fun x d=>iK (Dr (gz R F d))
 |ListComp elt gens sc p =>
  refine cm h fun x d=>?_
  obtain⟨t,it,N,i,g,c,y,O,rfl,rfl,T,a1,a2,L,K,J,I⟩:=xp R F d;exact iK (Ce F.calm T a1 a2 L K J I)
 |Dict k v p =>
  refine aO F.ck h fun j g=>dP j fun H G=>?_
  cases g;cases é.mp H;cases é.mp G;exact Dz A8
 |Attribute o f p =>
  refine ia h fun c D h=>aO F.ck h fun j h=>cm h fun x d=>?_
  obtain⟨P,E,cl,A⟩:=F.clb D;exact FX (R.E F d) cl E A (gx _ j)
 |Call f u kws p=>cases f with
  |Name x q=>cases kws with
   |nil=>exact E4 R F h
   |cons _ _=>exact E1 R F h
  |Attribute o f q =>
   refine aO F.ck h fun j g=>?_
   cases é.mp j;exact EY R F g
  |_=>exact bu h
 |_=>exact bu h
theorem EW{e:Î}{m:Tx}(h:trT r C e=À m):QT X e (tv ks m):=by
 cases e with
 |UnaryOp o a p=>cases o with
  |Not=>exact cm h fun x c=>FC (R.T F c)
  |_=>exact cm h fun x c=>xJ (R.E F c) (uD rfl)
 |BoolOp o f p=>cases f with
  |nil=>exact bu h
  |cons x f=>exact PW.pt (pV R F h)
 |Compare a os bs p =>
  have h:trCt r C a os bs=À m:=h;rcases os with _|⟨o,_|⟨i,_|_⟩⟩
  ·exact bu h
  ·rcases bs with _|⟨b,_|_⟩<;>first|exact bu h|exact aO F.ck h fun d h=>b9 h fun x y c g=>FD F.hu (R.E F c) (R.E F g) d
  ·exact bu h
  ·exact bu h
 |_=>exact aO F.ck h fun d h=>cm h fun x c=>xJ (R.E F c) (uD d)
omit R in
theorem wg{x:Ì}{m:Tg}(h:pU C x=À m):∃k,m=.nm k/\X.N[k]?=À x/\L2.Loc X.env.scope x/\(X.fn x=Â\/X.env.scope.names.lookup x=À .local):=by
 refine ia h fun k c h=>aO F.ck h fun e h=>dP e fun d _=>?_
 cases h;obtain⟨b,a⟩:=F.loc d;exact⟨k,rfl,F.nmb c,b,a⟩
theorem E3{e:Î}{m:Tg}(h:trG r C e=À m):QG X e (cg ks m):=by
 have hN:X.N.Nodup:=by rw[F.N];exact F.nd
 cases e with
 |Name x p =>
  obtain⟨k,rfl,a,b,c⟩:=wg F h;exact Dv hN a b c
 |Tuple es k p=>exact aO F.ck h fun f h=>cm h fun x d=>FR F.calm (uF R F d) BH (BI f)
 |Subscript a b p=>exact aO F.ck h fun f h=>b9 h fun x y d g=>FS F.hu (R.E F d) (R.E F g) (Fi f)
 |_=>exact bu h
end
theorem xz{env:Q7}{e o i:Î}{p:ģ}{l:Nat}:ϥ [.Subscript o i p] e l env=pure Ã:=by cases e<;>rfl
theorem xy{env:Q7}{e:Î}{es:List Î}{k:Nat}{p:ģ}{l:Nat}:ϥ [.Tuple es k p] e l env=pure Ã:=by cases e<;>rfl
section
variable[Ol]{ks:List Fn}{r:Tr}(R:BT r ks){X:Cx}{C:SC}(F:Fit X C ks)
include R F
theorem C5{t v:Î}{p:ģ}{m:Sx}(h:trAs r C t v=À m):QS X (.Assign [t] v p) (cW ks m):=by
 have hN:X.N.Nodup:=by rw[F.N];exact F.nd
 have nm:∀{x q v m},oH v=Â->m2 Sx.as (r.E C v) (pU C x)=À m->QS X (.Assign [.Name x q] v p) (cW ks m):=fun j h=>b9 h fun a g s e=>by
  obtain⟨k,rfl,a1,a2,u⟩:=wg F e;exact xM hN a1 a2 (R.E F s) (uU j) u
 cases t with
 |Name x q=>cases v with
  |ListComp elt gens sc q2 =>
   refine b9 h fun a g s e=>?_
   clear h;obtain⟨k,rfl,B,A,z⟩:=wg F e;refine cm s fun y I=>?_
   obtain⟨t,it,L,i,g,c,y,N,rfl,rfl,T,a1,a2,u,G,E,D⟩:=xp R F I;have d:=Fg (env:=X.env) (elt:=elt) (gens:=[⟨t,it,L,0⟩]) (sc:=sc) (pos:=q2) (t:=x) (p:=q) (l:=p.line) F.kind;cases n:Ks X.env.scope.names x q.line sc q2.line with
   |false=>rw[n]at d;exact xM hN B A (iK (Ce F.calm T a1 a2 u G E D)) d z
   |true=>rw[n]at d;exact xK hN B A d F.calm T a1 a2 u G E D z
  |_=>exact aO F.ck h fun j h=>nm j h
 |Subscript a b q=>exact b9 h fun x g w e=>xN (R.E F w) (R.G F e) xz AC (vC rfl)
 |Tuple ts k q=>cases v with
  |_=>exact aO F.ck h fun j h=>dP j fun j M=>b9 h fun x g w e=>xN (R.E F w) (R.G F e) xy (AB j) (vC rfl)
 |Attribute o f q =>
  refine ia h fun c J h=>b9 h fun a b s hb=>?_
  obtain⟨O,K,cl,H⟩:=F.clb J;exact FI (R.E F s) (R.E F hb) cl K H Az
 |_=>exact bu h
theorem EX{s:Ľ}{m:Sx}(h:trS r C s=À m):QS X s (cW ks m):=by
 cases s with
 |Expr e p=>exact aO F.ck h fun f h=>cm h fun x c=>Dm (R.E F c) (uU f)
 |Assign ts v p =>
  rcases ts with _|⟨t,_|_⟩
  ·exact bu h
  ·exact C5 R F h
  ·exact bu h
 |AugAssign t o v p=>cases t with
  |Subscript a b q=>exact aO F.ck h fun f h=>mz h fun x y z c d hz=>Do F.hu (R.E F c) (R.E F d) (R.E F hz) (HU f)
  |_=>exact bu h
 |Return e p=>cases e with
  | none=>first | exact bu h | (cases h;exact qs_retN)
  |some e=>exact cm h fun x c=>FF (R.E F c)
 |If t a b p=>exact mz h fun x y z c d hz=>II (R.T F c) (iV R F d) (iV R F hz)
 |For t it b els p =>
  refine aO F.ck h fun f g=>dP f fun j i=>?_
  cases é.mp j;split at g
  ·exact mz g fun x y z c d hz=>Dl F.po F.calm (R.E F c) (R.G F d) (iV R F hz) (sx i)
  exact mz g fun x y z c d hz=>FG F.po F.calm (xq R F c) (R.G F d) (iV R F hz) (sx i)
 |While t b els p =>
  refine aO F.ck h fun f g=>?_
  cases é.mp f;exact b9 g fun x y c d=>AN F.po (R.T F c) (iV R F d)
 |Raise=>cases h;exact Dn
 |_=>exact bu h
end
theorem ou[Ol]{ks:List Fn}:∀n:Nat,BT (tr n) ks
 |0=>⟨fun _ h=>bu h,fun _ h=>bu h,fun _ h=>bu h,fun _ h=>bu h⟩
 |n+1=>⟨fun F h=>E5 (ou n) F h,fun F h=>EW (ou n) F h,fun F h=>E3 (ou n) F h,fun F h=>EX (ou n) F h⟩
section
variable(P:Ò)(w:Û)(K:ã)(mg:Ì->Option Ä)(base:è)
def Ni[Ol](d:Nat)(x:Ì)(n:Nat)(fn:Fn):Prop:=∃f b a,a.length=n/\FnOk P w K mg base fu d f b a (dR ⟨K,mg⟩ a.length fn)/\mg x=À (.ref f)/\Ĺ K (.ref f)=Â/\Binds K b a []
def Nh[Ol](d:Nat)(c m:Ì)(n:Nat)(fn:Fn):Prop:=∃f b a C,a.length=n/\FnOk P w K mg base fu d f b a (dR ⟨K,mg⟩ a.length fn)/\mg c=À (.ref C)/\Cls K C/\kO K C m f/\Binds K b a []
def Ng[Ol](d:Nat)(c:Ì)(n:Nat)(fn:Fn):Prop:=∃f b a C,a.length=n/\FnOk P w K mg base fu d f b a (dR ⟨K,mg⟩ a.length fn)/\mg c=À (.ref C)/\Mk K C f/\Binds K b a []
def KOk[Ol](d:Nat)(fn:Fn):Ke->Prop
 |.f x n=>Ni P w K mg base d x n fn
 |.m c m n=>Nh P w K mg base d c m n fn
 |.k c n=>Ng P w K mg base d c n fn
def KsOk[Ol](d:Nat):List Ke->List Fn->Prop
 |[],_=>True
 |k::ke,fn::ks=>KOk P w K mg base d fn k/\KsOk d ke ks
 |_::_,[]=>False
structure Ev(gs:List (Ì×AV))(cl:List (Ì×List Ì)):Prop where
 bl:∀x∈bnames,mg x=Á
 gs:∀p∈gs,∀w,qC p.2=À w->∃u,mg p.1=À u/\RelV w u
 cl:∀p∈cl,∃Ca,mg p.1=À (.ref Ca)/\Cls K Ca/\∀f∈p.2,NoAttr K Ca f
end
section
variable{P:Ò}{w:Û}{K:ã}{mg:Ì->Option Ä}{base:è}{d d':Nat}{fn:Fn}
theorem KOk.mono[Ol](h:d<=d'):∀{k:Ke},KOk P w K mg base d fn k->KOk P w K mg base d' fn k
 |.f _ _,⟨f,fd,ps,e,F,r⟩=>⟨f,fd,ps,e,F.mono h,r⟩
 |.m _ _ _,⟨f,fd,ps,C,e,F,r⟩=>⟨f,fd,ps,C,e,F.mono h,r⟩
 |.k _ _,⟨f,fd,ps,C,e,F,r⟩=>⟨f,fd,ps,C,e,F.mono h,r⟩
theorem KsOk.at[Ol]:∀{ke:List Ke}{ks:List Fn}{j:Nat}{k:Ke},KsOk P w K mg base d ke ks->ke[j]?=À k->KOk P w K mg base d (kf ks j) k
 |[],_,_,_,_,e=>by simp at e
 |k::ke,[],_,_,h,_=>h.elim
 |k::ke,fn::ks,0,_,h,e=>by simp at e;subst e;exact h.1
 |k::ke,fn::ks,j+1,_,h,e=>by
  have:=KsOk.at (j:=j) h.2 (by simpa using e)
  exact this
theorem KOk.ok[Ol](hr:Room (d+1) A):∀{k:Ke},KOk P w K mg base d fn k->Ig P w K mg base A fn k
 |.f _ _,⟨f,fd,ps,e,F,m,kp,b⟩=>⟨d,f,fd,ps,e,F,hr.mono (Ϯ d),m,kp,b⟩
 |.m _ _ _,⟨f,fd,ps,C,e,F,m,c,me,b⟩=>⟨d,f,fd,ps,C,e,F,hr.mono (Ϯ d),m,c,me,b⟩
 |.k _ _,⟨f,fd,ps,C,e,F,m,mk,b⟩=>⟨d,f,fd,ps,C,e,F,hr,m,mk,b⟩
end
def fZ(st:Ľ):List Ì:=(cL st).args.map (·.arg)
noncomputable def Hu(N ps:List Ì)(sc:Ğ):Bool:=(match sc.kind with|.function=>Â|_=>Ã)&&!sc.isCoroutine&&!sc.isGenerator&&decide N.Nodup&&decide (N.take ps.length=ps) &&
 (ps.all fun x=>match sc.names.lookup x with|some .local=>Â|some .cell=>Â|_=>Ã)&&(sc.names.all fun p=>match p.2 with|.free=>Ã|_=>Â)
theorem Ht(h:Hu N ps sc=Â):mO N ps sc:=by
 unfold Hu at h;simp only[zC,yC]at h;obtain⟨⟨⟨⟨⟨⟨a,k⟩,j⟩,i⟩,g⟩,f⟩,d⟩:=h;refine⟨?_,by simpa using k,by simpa using j,i,g,fun x c=>?_,fun y b e=>?_⟩
 ·split at a
  ·rename_i e;exact e
  ·cases a
 ·have:=yR.mp f x c
  split at this
  ·rename_i e;exact .inl e
  ·rename_i e;exact .inr e
  ·cases this
 ·have:=yR.mp d y b
  rw[e]at this;cases this
structure FH where
 ke:Ke
 qual:Ì
 st:Ľ
 N:List Ì
 cs:List Nat
 d:Nat
 la:List ģ
 cn:List Ì
 hs:List Nat
def FH.tr(e:FH)(k:Bool)(ke:List Ke)(gs:List (Ì×AV))(cl:List (Ì×List Ì)):Option Ou :=
 gu k (Hu e.N (fZ e.st) (bQ e.st)&&plainA (cL e.st)&&decide (fZ e.st).Nodup) (ow (R.tr 60) ⟨e.N,uz k (bQ e.st).names,e.N,ke,gs,cl,e.la,e.cn,e.hs,k⟩ (cK e.st))
section
variable{P:Ò}{w:Û}{K:ã}{mg:Ì->Option Ä}{base:è}{d:Nat}{x qual:Ì}{st:Ľ}{f:Ç}{fd:Ė}{N:List Ì}{ke:List Ke}{ks:List Fn}{gs:List (Ì×AV)}{cl:List (Ì×List Ì)}{la:List ģ}{b:Ou}
theorem JI[Ol]{N ps:List Ì}{k:Nat}{b:SF}(F:Fun K x qual st f fd)(S:mO N ps (bQ st))
  (c:∀(A:Ď)(outer:List Q7)(s:É)(H:Hp)(E:XK),Room k (A.deeper (ϫ qual (bQ st) s.heap.objs.size f fd.code))->nK (qp fu P w K mg base N qual (bQ st) f fd.code A outer s H E).nox (cK st) b) :
  FnOk P w K mg base fu (k+1) f fd ps (dR ⟨K,mg⟩ ps.length (run N.length b)):=by
 obtain⟨M,L,kV,I,pm,R,J,ct,C,rfl,lk,i⟩:=F.ex;refine JH lk i S (fun u H Q E h=>h.1) fun A outer s H u Q E D h=>?_
 obtain⟨O,P,p,n,st,r,z,k⟩:=h;have hb:=c A outer s H E D;refine⟨_,PSs.nox hb,?_⟩;obtain⟨v,y,e,q⟩:=k;obtain⟨o,G,d⟩:=zA e;refine⟨P,p,_,st,Dc r,z,o,G,?_⟩;cases o with
 |nx sl st1=>cases d;exact fun l a m t j g _=>q l a m .non j g (by simp only[RA])
 |rt v st1=>cases d;exact fun l a m w j g B=>q l a m w j g B
 |bk sl st1=>cases d
 |ct sl st1=>cases d
def um[Ol](mg:Ì->Option Ä)(a:è)(qual:Ì)(cd:Ä)(la:List ģ):Prop:=∀p∈la,∃c P,cd=.ref c/\U0 a c P/\jI mg a/\(P,p,qual++".<locals>."++"<lambda>")∈Ol.tb/\∀t∈Ol.tb,t.1=P->t=(P,p,qual++".<locals>."++"<lambda>")
theorem pi[Ol]{e:FH}(F:Fun K x qual e.st f fd)(E:Ev K mg gs cl)(g:um mg base qual fd.code e.la)(l:KsOk P w K mg base d ke ks)(h:e.tr Â ke gs cl=À b) :
  FnOk P w K mg base fu (d+3) f fd (fZ e.st) (dR ⟨K,mg⟩ (fZ e.st).length (run e.N.length (ai ks b)))/\Binds K fd (fZ e.st) []:=by
 refine aO rfl h fun r m=>ld r fun q o n=>?_
 have S:=Ht q;refine⟨JI F S fun A c s H B a=>?_,F.binds fun kV t pm z u y v g=>bind_plain o rfl (of_decide_eq_true n) g⟩;exact iV (ou _) ⟨rfl,rfl,rfl,S.nd,S.kind,rfl,fun _ _=>rfl,a.units,a.gd,E.bl,PassesOwn.never,fun j k e=>(l.at e).ok (a.mono oM),E.gs,E.cl,fun p i=>⟨a.mono oM,g p i⟩⟩ m
end
structure FE extends FH where
 b:Ou
def FE.fn(e:FE)(fs:List Fn):Fn:=run e.N.length (ai (e.cs.map (kf fs)) e.b)
def FE.ok[Ol](e:FE)(K:ã)(mg:Ì->Option Ä)(a:è):Prop:=match e.ke with
 |.f x _=>∃f b,mg x=À (.ref f)/\Fun K x e.qual e.st f b/\um mg a e.qual b.code e.la
 |.m c m _=>∃f b C,mg c=À (.ref C)/\Cls K C/\kO K C m f/\Fun K m e.qual e.st f b/\um mg a e.qual b.code e.la
 |.k c _=>∃f b C,mg c=À (.ref C)/\Mk K C f/\Fun K "__init__" e.qual e.st f b/\um mg a e.qual b.code e.la
noncomputable def Ke.n:Ke->Nat
 |.f _ n=>n
 |.m _ _ n=>n
 |.k _ n=>n
noncomputable def sZ(pre:List FE)(j:Nat):Ke:=match pre[j]? with
 |some e=>e.ke
 |none=>.f "" 0
def FE.chk(gs:List (Ì×AV))(cl:List (Ì×List Ì))(pre:List FE)(e:FE):Option Ou :=
 gu Â (e.ke.n==(fZ e.st).length&&e.cs.all (fun j=>match pre[j]? with|some g=>ä (g.d+3) e.d|none=>Ã)&&ä 3 e.d) (e.tr Â (e.cs.map (sZ pre)) gs cl)
def pB(gs:List (Ì×AV))(cl:List (Ì×List Ì)):List FE->List FE->List (Option Ou)
 |_,[]=>[]
 |pre,e::r=>e.chk gs cl pre::pB gs cl (pre++[e]) r
def jx:List Fn->List FE->List Fn
 |fs,[]=>fs
 |fs,e::r=>jx (fs++[e.fn fs]) r
section
variable{P:Ò}{w:Û}{K:ã}{mg:Ì->Option Ä}{base:è}{gs:List (Ì×AV)}{cl:List (Ì×List Ì)}
def rV[Ol](P:Ò)(w:Û)(K:ã)(mg:Ì->Option Ä)(a:è)(pre:List FE)(fs:List Fn):Prop:=pre.length=fs.length/\∀(j:Nat) e,pre[j]?=À e->KOk P w K mg a e.d (kf fs j) e.ke
theorem wD[Ol]{d:Nat}(h:rV P w K mg base pre fs):∀cs:List Nat,(cs.all fun j=>match pre[j]? with|some g=>ä (g.d+3) (d+3)|none=>Ã)=Â->KsOk P w K mg base d (cs.map (sZ pre)) (cs.map (kf fs))
 |[],_=>trivial
 |j::cs,hc=>by
  rw[ĺ,zC]at hc;refine⟨?_,wD h cs hc.2⟩;have h1:=hc.1;split at h1
  ·rename_i g a
   have:=h.2 j g a
   unfold sZ;rw[a];exact this.mono (by have:=zS h1;lia)
  ·cases h1
theorem JJ[Ol]{pre:List FE}{fs:List Fn}{e:FE}(E:Ev K mg gs cl)(h:rV P w K mg base pre fs)(k:e.ok K mg base)(r:e.chk gs cl pre=À e.b):KOk P w K mg base e.d (e.fn fs) e.ke:=by
 obtain⟨y,u,v,t⟩:(e.ke.n==(fZ e.st).length)=Â/\(e.cs.all fun j=>match pre[j]? with|some g=>ä (g.d+3) e.d|none=>Ã)=Â/\ä 3 e.d=Â/\e.tr Â (e.cs.map (sZ pre)) gs cl=À e.b:=aO rfl r fun z h=>ld z fun a b c=>⟨a,b,c,h⟩
 have i:=yK y;obtain⟨d,hd⟩:∃d,e.d=d+3:=⟨e.d-3,by have:=zS v;lia⟩;rw[hd]at u ⊢;have q:=wD h e.cs u;unfold FE.fn;unfold FE.ok at k;split at k
 ·rename_i x n o
  obtain⟨f,l,m,F,L⟩:=k;obtain⟨a1,a2⟩:=pi (e:=e.toFH) F E L q t;rw[o]at i ⊢;exact⟨f,l,fZ e.st,i.symm,a1,m,F.kp,a2⟩
 ·rename_i c m n o
  obtain⟨f,l,C,s,r,p,F,L⟩:=k;obtain⟨a1,a2⟩:=pi (e:=e.toFH) F E L q t;rw[o]at i ⊢;exact⟨f,l,fZ e.st,C,i.symm,a1,s,r,p,a2⟩
 ·rename_i c n o
  obtain⟨f,l,C,s,p,F,L⟩:=k;obtain⟨a1,a2⟩:=pi (e:=e.toFH) F E L q t;rw[o]at i ⊢;exact⟨f,l,fZ e.st,C,i.symm,a1,s,p,a2⟩
theorem yq{j:Nat}(h:j<fs.length):kf (fs++[g]) j=kf fs j:=by
 unfold kf;rw[zD,zD,zN h]
theorem Eo:kf (fs++[g]) fs.length=g:=by
 unfold kf;rw[zD];simp
theorem u6[Ol](E:Ev K mg gs cl):∀(rest pre:List FE)(fs:List Fn),rV P w K mg base pre fs->(∀e∈rest,e.ok K mg base)->pB gs cl pre rest=rest.map (fun e=>À e.b)->rV P w K mg base (pre++rest) (jx fs rest)
 |[],pre,fs,h,_,_=>by rw[å];exact h
 |e::r,pre,fs,h,hf,hc=>by
  obtain⟨hc1,hc2⟩:=List.cons.inj hc;have c:=JJ E h (hf e z7) hc1
  have:=u6 E r (pre++[e]) (fs++[e.fn fs]) ⟨by simp[h.1],fun j g a=>?_⟩ (fun g a=>hf g (zQ _ a)) hc2
  ·rw[yN]at this;exact this
  ·rcases yU j pre.length with b|b
   ·rw[zN b]at a
    rw[yq (by rw[<- h.1];exact b)];exact h.2 j g a
   ·have d:j=pre.length:=by
     have:=(zB.mp a).1
     rw[zV]at this;simp at this;lia
    subst d;simp at a;subst a;rw[h.1,Eo];exact c
end
theorem Jr[Ol]{K:ã}{mg:Ì->Option Ä}{H:Hp}{a:Ç}{ns:List Int}{fn:Fn}{E:XK}(k:∃st,fn [.fz (ns.map .int)] []=À (.bl Â,st))(l:bR K H a (ns.map V.int))(g:∀t∈Ol.tb,gy H t.1 t.2.1 t.2.2):dR ⟨K,mg⟩ 1 fn [.ref a] H (fun v _=>v=.bl Â) E:=by
 obtain ⟨st,e⟩:=k;refine ⟨rfl,fun c=>∃ b,Rd H c (.lst b),[],[.fz (ns.map .int)],[],aU ?_ bE,Sim.nil (fun c h=>?_) (fun t i=>⟨g t i,fun d=>by obtain ⟨b,z⟩:=d;obtain ⟨n,e,_⟩:=g t i;rcases z with z | ⟨o,z⟩ <;> (rw [e] at z;cases z)⟩),.bl Â,st,e,fun p j m w f s r=>by simpa only [RA] using r⟩
 ·simp only[RA]
  refine⟨a,ns.map V.int,rfl,?_,On.of_ints⟩;rcases l with h|h
  ·exact .inl ⟨⟨_,h⟩,h⟩
  ·exact .inr fun m=>.inr h
 ·obtain ⟨b,h | ⟨o,h⟩⟩:=h <;> (rw [h];exact fun z=>nomatch z)
end R
namespace L2
open PySem PySem.Spec PyProof.Rows
theorem yo{P:Ò}{w:Û}{K:ã}{mg W:Ì->Option Ä}{CX:mo}{k:Nat}{fa a:Ç}{fd:Ė}{x:Ì}{sp:Sp}{c:É}{vs:List Ä}{ns:List Int}{tabs:List (Ç×Addr)}
  (KX:K.In c.heap) (A:c.heap.Ns Ï mg) (hb:c.heap.Ns ę W) (Z:∀x:Ì,x≠"__name__"->W x=à x) (I:c.heap.NoLimit) (hg:c.gens=#[])
  (C:∃C ob,mg "__builtins__"=À (.ref C)/\C≠ę/\c.heap.get? C=À ob/\ob.cls=.type "module"/\ob.dict=À ę/\ob.data=.plain)
  (l:TabsAt tabs c.heap) (hK0:noTabs K=Â)
  (D:c.heap.get? a=À { cls:=.type "list",data:=.seq vs.toArray }) (hi:ſ vs ns) (hl:ns.length<=Ë) (hr:Room k Ż)
  (F:∀base:è,K.In base->base.Ns Ï mg->jI mg base->FnOk P w K mg base CX k fa fd [x] sp) (B:∀(s:É)(u:Ä),p? s fd ⟨[u],[]⟩ [(x,u)])
  (X:∀H:Hp,(∀q∈tabs,H q.2=À (.tbl #[]))->bR K H a (ns.map V.int)->sp [.ref a] H (fun v _=>v=.bl Â) fun _ _ _=>False)
  (hCX:∀H e s',CX [] H c (fun _ _ _=>False) e s'->False) :
  ŉ (model P w) Ż (.call (.ref fa) ⟨[.ref a],[]⟩) (fun r s'=>r=.ok (.ret (.bool Â))/\OldK c.heap s'.heap/\s'.os=c.os/\ύ s'.gens) c:=by
 have rv:=w6 hi;have G:=hi.length;have t:∀H:Hp,bR K H a (ns.map V.int)->HOk P w H c.heap->(∀b,H b=Á\/(b=a/\K.lookup a=Á/\∃o xs,H b=À (.frz o (.lst xs)))\/(∃q∈tabs,b=q.2/\H b=À (.tbl #[])))->(∀q∈tabs,H q.2=À (.tbl #[])) ->
   ŉ (model P w) Ż (.call (.ref fa) ⟨[.ref a],[]⟩) (fun r s'=>r=.ok (.ret (.bool Â))/\OldK c.heap s'.heap/\s'.os=c.os/\ύ s'.gens) c:=by
  intro H hS Op Q hTb;have gx:∀{b:Ç}{o:W4},c.heap.get? b=À o->H b=Á->(jL c.heap H).get? b=À o:=fun e n=>Bx e n
  have none_of:∀{b:Ç}{o:W4},c.heap.get? b=À o->o.cls≠.type "list"->o≠O1 #[]->H b=Á:=fun {b o} e n1 n2=>by
   rcases Q b with z|⟨rfl,_⟩|⟨q,f,rfl,_⟩
   ·exact z
   ·rw[D]at e;cases e;exact absurd rfl n1
   ·rw[(l q f).2]at e;cases e;exact absurd rfl n2
  have i:∀{b:Ç}{o:W4}{L:Array DictEntry}{M:Nat},c.heap.get? b=À o->o.data=.dict L M->H b=Á:=fun {b o L M} e d=>by
   rcases Q b with z|⟨rfl,_⟩|⟨q,f,rfl,_⟩
   ·exact z
   ·rw[D]at e;cases e;cases d
   ·rw[(l q f).2]at e;cases e;cases d
  have j:∀{b:Ç}{m:Ì->Option Ä},c.heap.Ns b m->(jL c.heap H).Ns b m:=fun {b m} ⟨o,L,M,e,d,r⟩=>⟨o,L,M,gx e (i e d),d,r⟩
  have J:K.In (jL c.heap H):=fun b o e=>gx (KX b o e) (by
   rcases Q b with z|⟨rfl,z,_⟩|⟨q,f,rfl,_⟩
   ·exact z
   ·rw[z]at e;cases e
   ·have N:=KX _ o e
    rw[(l q f).2]at N;cases N;have h2:=yR.mp hK0 _ (mem_of_lookupK e);exact absurd (show Ã=Â from h2) ĝ)
  have hM:Mod K mg (jL c.heap H):=⟨J,j A,⟨W,j hb,Z⟩,let⟨mc,h1,h2⟩:=I;⟨mc,j h1,h2⟩⟩;have hBM:jI mg (jL c.heap H):=by
   obtain⟨C,ob,b1,b2,S,R,b5,b6⟩:=C;refine⟨C,ob,b1,b2,fun z=>?_,gx S (none_of S (by rw[R];intro z;injection z with z;exact absurd z dC) (fun z=>by rw[z]at R;cases R)),R,b5,b6⟩;obtain⟨o,L,M,e,d,_⟩:=A;rw[z,e]at S;cases S;rw[d]at b6;cases b6
  have e0:Env0 P w K mg (jL c.heap H) Ż [] c H:=⟨rfl,hM,fun b o e=>DZ e,ϣ (zb _ _),trivial,fun b hb=>absurd (show b ∈ ([]:List Ç) from hb) (by simp),Op,.of_eq hg⟩;refine ŝ ((F _ J (j A) hBM).run Ż [] c H ⟨[.ref a],[]⟩ [.ref a] [.ref a] _ _ hr e0 (B c (.ref a)) (.cons rfl .nil) (X H hTb hS)) fun r s' h=>?_
  cases r with
  |error e=>exact(hCX H e s' h).elim
  |ok fl =>
   cases fl with
   |next=>exact False.elim h
   |brk=>exact False.elim h
   |cont=>exact False.elim h
   |ret u =>
    obtain⟨v,H',os,O,un,p,r',q⟩:=h;have q':v=.bl Â:=q;subst q';obtain rfl:u=G! Â:=r';have U:∀b o,c.heap.get? b=À o->asItWas c.heap s'.heap b o:=fun b o e=>by
     rcases Q b with z|⟨rfl,_,ob,xs,z⟩|⟨q,f,rfl,z⟩
     ·exact .inl (un.keep b o e z (by intro z;exact absurd (show b ∈ ([]:List Ç) from z) (by simp)) (by simp))
     ·have T:=un.frzs b ob _ z
      obtain⟨N,_⟩:=Op b _ z;obtain⟨e2,_⟩:=p b _ T;rw[e]at N;cases N;exact .inl e2
     ·obtain⟨E,T⟩:=un.tbls _ _ z
      have e2:=p _ _ T;rw[(l q f).2]at e;cases e;exact .inr (.inl ⟨((l q f).1.tab (l q f).2).isCodeTable,rfl,#[],E,rfl,e2⟩)
    refine⟨rfl,⟨U,fun b o e=>?_⟩,os,O⟩;exact un.there b o e (by simp)
 have y:∀q∈tabs,q.2≠a:=fun q f e=>by
  have:=(l q f).2
  rw[e,D]at this;cases this
 cases Y:K.lookup a with
 |some o =>
  have e:=KX a o Y;rw[D]at e;cases e;refine t (fun b=>if b∈tabs.map (·.2) then À (.tbl #[]) else Á) (.inr ⟨_,vs.toArray,_,Y,rfl,rfl,rfl,by rw[zI,G];exact hl,by simpa using rv⟩) (fun b u z=>?_) (fun b=>?_) fun q f=>yI (ϒ f)
  ·dsimp only at z
   by_cases hb:b∈tabs.map (·.2)
   ·rw[yI hb]at z;cases z
    obtain⟨q,f,rfl⟩:=yD.mp hb;exact(l q f).2
   ·rw[yH hb]at z;cases z
  ·by_cases hb:b∈tabs.map (·.2)
   ·obtain⟨q,f,rfl⟩:=yD.mp hb
    exact .inr (.inr ⟨q,f,rfl,yI hb⟩)
   ·exact .inl (yH hb)
 |none =>
  refine t (fun b=>if b∈tabs.map (·.2) then À (.tbl #[]) else if b=a then À (.frz { cls:=.type "list",data:=.seq vs.toArray } (.lst (ns.map V.int))) else Á) (.inl (.inr ⟨{ cls:=.type "list",data:=.seq vs.toArray },?_⟩)) (fun b u z=>?_) (fun b=>?_) fun q f=>yI (ϒ f)
  ·dsimp only
   rw[yH (fun z=>by obtain⟨q,f,e⟩:=yD.mp z;exact y q f e),yI rfl]
  ·dsimp only at z
   by_cases hb:b∈tabs.map (·.2)
   ·rw[yI hb]at z;cases z
    obtain⟨q,f,rfl⟩:=yD.mp hb;exact(l q f).2
   ·rw[yH hb]at z
    by_cases g:b=a
    ·rw[yI g]at z;cases z
     subst g;exact⟨D,by rw[zH];exact hl,vs,_,rv,D⟩
    ·rw[yH g]at z;cases z
  ·by_cases hb:b∈tabs.map (·.2)
   ·obtain⟨q,f,rfl⟩:=yD.mp hb
    exact .inr (.inr ⟨q,f,rfl,yI hb⟩)
   ·by_cases g:b=a
    ·exact .inr (.inl ⟨g,Y,_,_,(yH hb).trans (yI g)⟩)
    ·exact .inl ((yH hb).trans (yH g))
theorem EQ{l:L!}{n k:Nat}{q:Ò}{b8:List Ì}{S:(Ì->Option Ä)->è->Prop}{D:Û->è->Prop}{d:DefRec}{K:Params->ã}{sp:Û->Sp}{x:Ì}{tabs:List (Ç×Addr)}
  (I:l.most=À n) (j:n<=Ë) (p:d.params.defaults=[]) (E:Room k Ż)
  (N:∀(w:Û)(h:è),D w h->(K w.params).In h/\∀q∈tabs,h.get? q.2=À (O1 #[])) (M:∀(w:Û),∀q∈tabs,codeHdIn (K w.params) q.1 q.2=Â) (t:∀(w:Û),noTabs (K w.params)=Â)
  (F:∀(w:Û)(mg:Ì->Option Ä)(fa:Ç)(h:è),(K w.params).In h->h.Ns Ï mg->mg d.name=À (.ref fa) ->
   ∃fd:Ė,(∀(s:É)(u:Ä),p? s fd ⟨[u],[]⟩ [(x,u)]) /\
    ∀base:è,(K w.params).In base->base.Ns Ï mg->jI mg base->FnOk l.prog w (K w.params) mg base fu k fa fd [x] (sp w))
  (i:∀(w:Û)(H:Hp)(a:Ç)(ns:List Int),ns.length<=n->(∀q∈tabs,H q.2=À (.tbl #[]))->bR (K w.params) H a (ns.map V.int)->sp w [.ref a] H (fun v _=>v=.bl Â) fun _ _ _=>False) :
  Q! q b8 S D l.row.toRowW d [] (fun f vs=>G? f vs):=by
 refine Att.attach_call I p fun w B A mg U fa o pm X R a vs ns G Y W hd L m g c b J=>?_
 obtain⟨y,r⟩:=N w _ Y;obtain⟨fd,hb,Q⟩:=F w mg fa _ y G.T.g m;exact yo (tabs:=tabs) y G.T.g G.T.b G.T.builtins G.T.nolimit J G.T.bmain (fun q C=>⟨codeHd_of_K y (M w q C),r q C⟩) (t w) g c (z5 b j) E Q hb (fun H P O=>i w H a ns b P O) fun H e T z=>z
end L2
namespace R
open PySem PySem.Spec PyProof.Rows L2
abbrev qY[Ol](K:ã)(qual:Ì)(cd:Ä)(la:List ģ):Prop:=la=[]\/∃p c P,la=[p]/\cd=.ref c/\codeHdIn K c P=Â/\Ol.tb=[(P,p,qual++".<locals>."++"<lambda>")]
abbrev FactF[Ol](K:ã)(x:Ì)(e:FE):Prop:=∃(f:Ç)(d:Ä)(c:Option Ç)(b:Array (Option Ä))(kV g pm:Ä)(i:Option Ç)(a h:Ä),nsIn K Ï x=À (À (.ref f)) /\
 K.lookup f=À ⟨d,c,.func (fnOf x e.qual (cL e.st) (cK e.st) (bQ e.st) .none kV g pm i a h),b⟩/\Ϙ K a e.qual=Â/\Ĺ K (.ref f)=Â/\qY K e.qual a e.la
abbrev FactM[Ol](K:ã)(c m:Ì)(e:FE):Prop:=∃(C f:Ç)(g:Ä)(d:Option Ç)(b:Array (Option Ä))(kV h pm:Ä)(j:Option Ç)(a i:Ä),nsIn K Ï c=À (À (.ref C))/\Œ K (.ref C) m=À (À (.ref f)) /\
 K.lookup f=À ⟨g,d,.func (fnOf m e.qual (cL e.st) (cK e.st) (bQ e.st) .none kV h pm j a i),b⟩/\Ϙ K a e.qual=Â/\Ĺ K (.ref f)=Â/\isFn K (.ref f)=Â/\qY K e.qual a e.la
section
variable[Ol]{K:ã}{C f:Ç}{oc:Ä}{od:Option Ç}{sl:Array (Option Ä)}{kV dc pm:Ä}{an:Option Ç}{cd ct:Ä}{x:Ì}{e:FE}
theorem ff(a:nsIn K Ï x=À (À (.ref f)))(l:K.lookup f=À ⟨oc,od,.func (fnOf x e.qual (cL e.st) (cK e.st) (bQ e.st) .none kV dc pm an cd ct),sl⟩)(c:Ϙ K cd e.qual=Â)(k:Ĺ K (.ref f)=Â)(L:qY K e.qual cd e.la):FactF K x e:=⟨_,_,_,_,_,_,_,_,_,_,a,l,c,k,L⟩
theorem fm(a:nsIn K Ï x=À (À (.ref C)))(b:Œ K (.ref C) m=À (À (.ref f)))(l:K.lookup f=À ⟨oc,od,.func (fnOf m e.qual (cL e.st) (cK e.st) (bQ e.st) .none kV dc pm an cd ct),sl⟩)(c:Ϙ K cd e.qual=Â)(k:Ĺ K (.ref f)=Â)(i:isFn K (.ref f)=Â)(L:qY K e.qual cd e.la):FactM K x m e:=⟨_,_,_,_,_,_,_,_,_,_,_,a,b,l,c,k,i,L⟩
end
abbrev FactN(K:ã)(c:Ì):Prop:=∃C:Ç,nsIn K Ï c=À (À (.ref C))/\U6 K C=Â/\Ĺ K (.ref C)=Â
abbrev pJ(K:ã)(c:Ì):Prop:=∃C:Ç,nsIn K Ï c=À (À (.ref C))/\t? K C Str.empty=Â/\J? K C=Â/\W! K C=Â/\Œ K (.ref C) "__setattr__"=À (À (.builtin "object.__setattr__"))
abbrev wX(K:ã)(c:Ì)(fs:List Ì):Prop:=∃C:Ç,nsIn K Ï c=À (À (.ref C))/\(fs.all fun f=>match Œ K (.ref C) f with|some Á=>Â|_=>Ã)=Â
abbrev CP(K:ã):Prop:=(bnames.all fun x=>match nsIn K Ï x with|some Á=>Â|_=>Ã)=Â
section
variable[Ol]{K:ã}{h base:è}{mg:Ì->Option Ä}
theorem rL(B:K.In base)(hb:jI mg base)(L:qY K qual cd la):um mg base qual cd la:=by
 intro p b;rcases L with rfl|⟨q,c,P,rfl,e,f,a⟩
 ·cases b
 ·rw[zM.mp b]
  exact⟨c,P,e,codeHd_of_K B f,hb,by rw[a];simp,fun t d _=>by rw[a]at d;exact zM.mp d⟩
theorem FactF.ok{n:Nat}(b:e.ke=.f x n)(F:FactF K x e)(X:K.In h)(G:h.Ns Ï mg)(B:K.In base)(hb:jI mg base):e.ok K mg base:=by
 obtain⟨f,i,g,d,kV,j,pm,p,o,m,a,l,c,k,L⟩:=F;unfold FE.ok;rw[b];exact⟨f,_,U5 X G a,pj l c k,rL B hb L⟩
theorem zt(F:pJ K c)(X:K.In h)(G:h.Ns Ï mg)(b:nsIn K Ï c=À (À (.ref C))):mg c=À (.ref C)/\Cls K C:=by
 obtain⟨i,a,g,f,e,d⟩:=F;rw[b]at a;cases a;exact⟨U5 X G b,⟨g,f,e,d⟩⟩
theorem FactM.ok{n:Nat}(d:e.ke=.m c m n)(F:FactM K c m e)(o:pJ K c)(X:K.In h)(G:h.Ns Ï mg)(B:K.In base)(hb:jI mg base):e.ok K mg base:=by
 obtain⟨C,f,r,q,p,kV,s,pm,v,u,t,a,g,l,j,k,i,L⟩:=F;unfold FE.ok;rw[d];obtain⟨b,m2⟩:=zt o X G a;exact⟨f,_,C,b,m2,⟨g,i,k⟩,pj l j k,rL B hb L⟩
theorem FactN.ok{n:Nat}(j:e.ke=.k c n)(F:FactM K c "__init__" e)(N:FactN K c)(X:K.In h)(G:h.Ns Ï mg)(B:K.In base)(hb:jI mg base):e.ok K mg base:=by
 obtain⟨C,f,q,p,o,kV,r,pm,u,t,s,a,g,l,m,k,i,L⟩:=F;obtain⟨v,b,d,m2⟩:=N;rw[a]at b;cases b;unfold FE.ok;rw[j];exact⟨f,_,C,U5 X G a,⟨d,g,i,m2⟩,pj l m k,rL B hb L⟩
abbrev FactG(K:ã)(p:Ì×AV):Prop:=match p.2 with
 |.int i=>∃t,nsIn K Ï p.1=À (À (.int i t))
 |.str x=>∃t,nsIn K Ï p.1=À (À (.str x t))
 |_=>False
theorem FactG.ok(F:FactG K p)(X:K.In h)(G:h.Ns Ï mg):∀w,qC p.2=À w->∃u,mg p.1=À u/\RelV w u:=by
 obtain⟨x,c⟩:=p;intro w a;cases c with
 |int i=>obtain⟨t,e⟩:=F;cases a;exact⟨_,U5 X G e,t,rfl⟩
 |str y=>obtain⟨t,e⟩:=F;cases a;exact⟨_,U5 X G e,t,rfl⟩
 |_=>exact F.elim
theorem JL(X:K.In h)(G:h.Ns Ï mg)(hb:CP K)(g:∀p∈gs,FactG K p)(j:∀p∈cl,pJ K p.1/\wX K p.1 p.2):Ev K mg gs cl:=by
 refine⟨fun x d=>?_,fun p b=>(g p b).ok X G,fun p b=>?_⟩
 ·have:=yR.mp hb x d
  split at this
  ·rename_i e;exact mg_none_of X G e
  ·cases this
 ·obtain⟨k,C,a,fs⟩:=j p b
  obtain⟨c,m2⟩:=zt k X G a;refine⟨C,c,m2,fun f i=>?_⟩
  have:=yR.mp fs f i
  split at this
  ·rename_i e;exact e
  ·cases this
end
abbrev iQ[Ol](K:ã)(e:FE):Prop:=match e.ke with
 |.f x _=>FactF K x e
 |.m c m _=>FactM K c m e
 |.k c _=>FactM K c "__init__" e/\FactN K c
section
variable[Ol]{K:ã}{C f:Ç}{oc:Ä}{od:Option Ç}{sl:Array (Option Ä)}{kV dc pm:Ä}{an:Option Ç}{cd ct:Ä}{x m:Ì}{n:Nat}{e:FE}
theorem fe_f(b:e.ke=.f x n)(a:nsIn K Ï x=À (À (.ref f)))(l:K.lookup f=À ⟨oc,od,.func (fnOf x e.qual (cL e.st) (cK e.st) (bQ e.st) .none kV dc pm an cd ct),sl⟩)(c:Ϙ K cd e.qual=Â)(k:Ĺ K (.ref f)=Â)(L:qY K e.qual cd e.la):iQ K e:=by unfold iQ;rw[b];exact ff a l c k L
theorem fe_m(d:e.ke=.m x m n)(a:nsIn K Ï x=À (À (.ref C)))(b:Œ K (.ref C) m=À (À (.ref f)))(l:K.lookup f=À ⟨oc,od,.func (fnOf m e.qual (cL e.st) (cK e.st) (bQ e.st) .none kV dc pm an cd ct),sl⟩)(c:Ϙ K cd e.qual=Â)(k:Ĺ K (.ref f)=Â)(i:isFn K (.ref f)=Â)(L:qY K e.qual cd e.la):iQ K e:=by unfold iQ;rw[d];exact fm a b l c k i L
end
def ka[Ol](K:ã):List FE->Prop
 |[]=>True
 |e::r=>iQ K e/\ka K r
section
variable[Ol]{K:ã}{C f:Ç}{oc:Ä}{od:Option Ç}{sl:Array (Option Ä)}{kV dc pm:Ä}{an:Option Ç}{cd ct:Ä}{x:Ì}{n:Nat}{e:FE}{r:List FE}
theorem fe_k(g:e.ke=.k x n)(a:nsIn K Ï x=À (À (.ref C)))(b:Œ K (.ref C) "__init__"=À (À (.ref f)))(l:K.lookup f=À ⟨oc,od,.func (fnOf "__init__" e.qual (cL e.st) (cK e.st) (bQ e.st) .none kV dc pm an cd ct),sl⟩)(c:Ϙ K cd e.qual=Â)(k:Ĺ K (.ref f)=Â)(i:isFn K (.ref f)=Â)(L:qY K e.qual cd e.la)
  (d:U6 K C=Â) (m2:Ĺ K (.ref C)=Â):iQ K e:=by unfold iQ;rw[g];exact⟨fm a b l c k i L,C,a,d,m2⟩
theorem fes_c(h:iQ K e)(t:ka K r):ka K (e::r):=⟨h,t⟩
theorem fes_n:ka K []:=trivial
end
noncomputable def BN(cl:List (Ì×List Ì))(e:FE):Bool:=match e.ke with
 |.m c _ _=>decide (c∈cl.map (·.1))
 |_=>Â
theorem tK[Ol]{K:ã}{h b:è}{mg:Ì->Option Ä}(X:K.In h)(G:h.Ns Ï mg)(B:K.In b)(hb:jI mg b)(f:∀p∈cl,pJ K p.1/\wX K p.1 p.2):∀{pre:List FE},pre.all (BN cl)=Â->ka K pre->∀e∈pre,e.ok K mg b
 |[],_,_,_,h=>nomatch h
 |a::r,hx,h,e,he=>by
  rw[ĺ,zC]at hx;rcases zT.mp he with rfl|he
  ·have h1:=h.1
   have d:=hx.1;unfold iQ at h1;unfold BN at d;split at h1
   ·rename_i c;exact FactF.ok c h1 X G B hb
   ·rename_i c
    rw[c]at d;obtain⟨p,g,i⟩:=yD.mp (of_decide_eq_true d);exact FactM.ok c h1 (by rw[<- i];exact(f p g).1) X G B hb
   ·rename_i c;exact FactN.ok c h1.1 h1.2 X G B hb
  ·exact tK X G B hb f hx.2 h.2 e he
def CW:List Fn->List FE->List Fn->Prop
 |_,[],[]=>True
 |fs,e::r,F::Fs=>e.fn fs=F/\CW (fs++[F]) r Fs
 |_,_,_=>False
theorem zl:∀{pre:List FE}{fs Fs:List Fn},CW fs pre Fs->jx fs pre=fs++Fs
 |[],fs,[],_=>(å fs).symm
 |e::r,fs,F::Fs,h=>by
  show jx (fs++[e.fn fs]) r=_;rw[h.1,zl h.2];simp
 |[],_,_::_,h=>h.elim
 |_::_,_,[],h=>h.elim
theorem law_F[Ol]{P:Ò}{w:Û}{K:ã}{h:è}{mg:Ì->Option Ä}{J:Ç}{gs:List (Ì×AV)}{cl:List (Ì×List Ì)}{pre:List FE}{e:FE}{fn:Fn}(X:K.In h)(G:h.Ns Ï mg)(y:mg "law"=À (.ref J))
  (hb:CP K) (u:∀p∈gs,FactG K p) (C:∀p∈cl,pJ K p.1/\wX K p.1 p.2) (r:pB gs cl [] pre=pre.map fun e=>À e.b) (z:e.chk gs cl pre=À e.b)
  (T:pre.all (BN cl)=Â) (n:ka K pre) (W:FactF K "law" e) (i:fZ e.st=[("_law_script":Ì)]) (x:e.fn (jx [] pre)=fn) :
  ∃fd:Ė,(∀(s:É)(v:Ä),p? s fd ⟨[v],[]⟩ [("_law_script",v)])/\∀base:è,K.In base->base.Ns Ï mg->jI mg base ->
   FnOk P w K mg base fu e.d J fd ["_law_script"] (fun vs H Q E=>∀mg,dR ⟨K,mg⟩ 1 fn vs H Q E):=by
 have E:=JL X G hb u C;obtain⟨h2,D,Y,I⟩:(e.ke.n==(fZ e.st).length)=Â/\(e.cs.all fun j=>match pre[j]? with|some g=>ä (g.d+3) e.d|none=>Ã)=Â/\ä 3 e.d=Â/\e.tr Â (e.cs.map (sZ pre)) gs cl=À e.b:=aO rfl z fun A h=>ld A fun a b c=>⟨a,b,c,h⟩
 obtain⟨d,hd⟩:∃d,e.d=d+3:=⟨e.d-3,by have:=zS Y;lia⟩;rw[hd]at D ⊢;obtain⟨f,oc,od,Z,kV,M,pm,R,O,N,a,l,c,k,L⟩:=W;have m:=U5 X G a;rw[y]at m;cases m;have F:=pj l c k;refine⟨fnOf "law" e.qual (cL e.st) (cK e.st) (bQ e.st) .none kV M pm R O N,fun s v=>?_,fun base B _ t=>?_⟩
 ·have U:plainA (cL e.st)=Â:=aO rfl I fun A _=>ld A fun _ h _=>h
  refine .of_eq ?_
  have:=bind_plain (fd:=fnOf "law" e.qual (cL e.st) (cK e.st) (bQ e.st) .none kV M pm R O N) (us:=[v]) U rfl (by show(fZ e.st).Nodup;rw[i];simp) (by show _=(fZ e.st).length;rw[i];rfl)
  rw[this];show pure ((fZ e.st).zip [v])=_;rw[i];rfl
 ·have S:=u6 (P:=P) (w:=w) E pre [] [] ⟨rfl,fun j g u=>by simp at u⟩ (tK X G B t C T n) r
  have V:=wD (d:=d) S e.cs D
  have:=(pi (e:=e.toFH) F E (rL B t L) V I).1
  rw[i]at this;have o:run e.N.length (ai (e.cs.map (kf (jx [] pre))) e.b)=fn:=x;rw[o]at this;exact this.imp fun vs H Q E q=>q mg
theorem walk_R[Ol]{l:L!}{k:Nat}{q:Ò}{b8:List Ì}{z:(Ì->Option Ä)->è->Prop}{g:Û->è->Prop}{d:DefRec}{K:Params->ã}{fn:Fn}{tabs:List (Ç×Addr)}
  (n:l.most=À 63) (b:d.params.defaults=[]) (j:Room k Ż)
  (v:∀(w:Û)(h:è),g w h->(K w.params).In h/\∀q∈tabs,h.get? q.2=À (O1 #[])) (r:∀(w:Û),∀q∈tabs,codeHdIn (K w.params) q.1 q.2=Â) (c:∀(w:Û),noTabs (K w.params)=Â)
  (i:∀t∈Ol.tb,t.1∈tabs.map (·.2)) (p:∀ns:List Int,ns.length<=63->∃st,fn [.fz (ns.map .int)] []=À (.bl Â,st))
  (F:∀(w:Û)(mg:Ì->Option Ä)(fa:Ç)(h:è),(K w.params).In h->h.Ns Ï mg->mg d.name=À (.ref fa) ->
   ∃fd:Ė,(∀(s:É)(u:Ä),p? s fd ⟨[u],[]⟩ [("_law_script",u)]) /\
    ∀base:è,(K w.params).In base->base.Ns Ï mg->jI mg base->FnOk l.prog w (K w.params) mg base fu k fa fd ["_law_script"] (fun vs H Q E=>∀mg,dR ⟨K w.params,mg⟩ 1 fn vs H Q E)) :
  Q! q b8 z g l.row.toRowW d [] (fun f vs=>G? f vs) :=
 EQ (sp:=fun w vs H Q E=>∀mg,dR ⟨K w.params,mg⟩ 1 fn vs H Q E) n dC b j v r c F fun w H a ns o x y mg=>Jr (p ns o) y fun t h=>by
  obtain⟨q,m,e⟩:=yD.mp (i t h);exact⟨#[],by rw[<- e];exact x q m,trivial,.inl rfl⟩
end R
namespace SX
def Oj:Nat->(Nat->Int)->Int
 |0,_=>0
 |n+1,f=>Oj n f+f n
theorem sum_congr{n:Nat}{f g:Nat->Int}(h:∀i,i<n->f i=g i):Oj n f=Oj n g:=by
 induction n with
 |zero=>rfl
 |succ n a=>simp only[Oj];rw[a fun i b=>h i oM,h n oM]
theorem sum_zero{n:Nat}{f:Nat->Int}(h:∀i,i<n->f i=0):Oj n f=0:=by
 induction n with
 |zero=>rfl
 |succ n a=>simp only[Oj];rw[a fun i b=>h i oM,h n oM];rfl
theorem sum_add(n:Nat)(f g:Nat->Int):Oj n (fun i=>f i+g i)=Oj n f+Oj n g:=by
 induction n with
 |zero=>rfl
 |succ n a=>simp only[Oj];rw[a];lia
theorem sum_mul(n:Nat)(c:Int)(f:Nat->Int):Oj n (fun i=>c*f i)=c*Oj n f:=by
 induction n with
 |zero=>simp[Oj]
 |succ n a=>simp only[Oj];rw[a,ϳ]
theorem sum_one{n k:Nat}{f:Nat->Int}(e:k<n)(h:∀i,i<n->i≠k->f i=0):Oj n f=f k:=by
 induction n with
 |zero=>lia
 |succ n b =>
  simp only[Oj];rcases yU k n with a|a
  ·rw[b a fun i c d=>h i oM d,h n oM oM];lia
  ·have:k=n:=by lia
   subst this;rw[sum_zero fun i c=>h i oM oM];lia
theorem uV{n k l:Nat}{f:Nat->Int}(d:k<n)(c:l<n)(a:k≠l)(h:∀i,i<n->i≠k->i≠l->f i=0):Oj n f=f k+f l:=by
 have e:Oj n f=Oj n (fun i=>(if i=k then f i else 0)+if i=k then 0 else f i):=sum_congr fun i _=>by split<;>lia
 rw[e,sum_add,sum_one (k:=k) d fun i _ b=>yH b,sum_one (k:=l) c fun i g b=>?_]
 ·rw[yI rfl,yH (fun z=>a z.symm)]
 ·by_cases z:i=k
  ·exact yI z
  ·rw[yH z];exact h i g z b
theorem sum_swap(n m:Nat)(f:Nat->Nat->Int):Oj n (fun i=>Oj m (fun j=>f i j))=Oj m (fun j=>Oj n (fun i=>f i j)):=by
 induction n with
 |zero=>exact(sum_zero fun _ _=>rfl).symm
 |succ n a=>simp only[Oj];rw[a,<- sum_add]
noncomputable def up(A:Nat->Nat->Int)(r:Nat)(u:Nat->Int):Nat->Nat->Int:=fun i=>if i=r then u else A i
theorem bY{A:Nat->Nat->Int}{r:Nat}{u:Nat->Int}:up A r u r=u:=yI rfl
theorem bt{A:Nat->Nat->Int}{r i:Nat}{u:Nat->Int}(h:i≠r):up A r u i=A i:=yH h
theorem gi{A:Nat->Nat->Int}{r:Nat}:up A r (A r)=A:=by
 funext i;by_cases h:i=r
 ·rw[h,bY]
 ·exact bt h
theorem iS{A:Nat->Nat->Int}{r q:Nat}{u v:Nat->Int}(h:r≠q):up (up A r u) q v=up (up A q v) r u:=by
 funext i;by_cases b:i=q
 ·subst b;rw[bY,bt (fun z=>h z.symm),bY]
 ·rw[bt b]
  by_cases a:i=r
  ·subst a;rw[bY,bY]
  ·rw[bt a,bt a,bt b]
noncomputable def skip(k i:Nat):Nat:=if i<k then i else i+1
noncomputable def jP(k r:Nat):Nat:=if r<k then r else r-1
noncomputable def sg(k:Nat):Int:=if k%2=0 then 1 else -1
theorem Df(k:Nat):sg (k+1)=- sg k:=by unfold sg;split<;>split<;>lia
theorem Fm(k:Nat):(sg k).natAbs=1:=by unfold sg;split<;>rfl
def gQ(A:Nat->Nat->Int)(k:Nat):Nat->Nat->Int:=fun i j=>A (skip k i) (j+1)
def bC:Nat->(Nat->Nat->Int)->Int
 |0,_=>1
 |n+1,A=>Oj (n+1) fun k=>sg k*A k 0*bC n (gQ A k)
theorem n8{A:Nat->Nat->Int}{k:Nat}{u:Nat->Int}:gQ (up A k u) k=gQ A k:=by
 funext i j;unfold gQ;rw[bt];unfold skip;split<;>lia
theorem sL{A:Nat->Nat->Int}{k r:Nat}{u:Nat->Int}(h:r≠k):gQ (up A r u) k=up (gQ A k) (jP k r) (fun j=>u (j+1)):=by
 funext i j;unfold gQ;by_cases a:i=jP k r
 ·have:skip k i=r:=by unfold skip;unfold jP at a;split at a<;>split<;>lia
  rw[this,bY,a,bY]
 ·have:skip k i≠r:=by unfold skip;unfold jP at a;split at a<;>split<;>lia
  rw[bt this,bt a]
theorem dI:∀{n:Nat}{A B:Nat->Nat->Int},(∀i j,i<n->j<n->A i j=B i j)->bC n A=bC n B
 |0,_,_,_=>rfl
 |n+1,A,B,h=>sum_congr fun k hk=>by
  rw[h k 0 hk oM,dI (A:=gQ A k) (B:=gQ B k) fun i j hi hj=>h _ _ (by unfold skip;split<;>lia) oM]
theorem gZ:∀{n:Nat}{A:Nat->Nat->Int}{r:Nat}{a b:Int}{u v:Nat->Int},r<n->bC n (up A r fun j=>a*u j+b*v j)=a*bC n (up A r u)+b*bC n (up A r v)
 |0,_,_,_,_,_,_,h=>by lia
 |n+1,A,r,a,b,u,v,h=>by
  show Oj (n+1) _=a*Oj (n+1) _+b*Oj (n+1) _;rw[<- sum_mul,<- sum_mul,<- sum_add];refine sum_congr fun k hk=>?_
  by_cases e:r=k
  ·subst e
   rw[n8,n8,n8,bY,bY,bY]
   grind
  ·rw[sL e,sL e,sL e,bt (fun z=>e z.symm),bt (fun z=>e z.symm),bt (fun z=>e z.symm)]
   rw[gZ (A:=gQ A k) (r:=jP k r) (u:=fun j=>u (j+1)) (v:=fun j=>v (j+1)) (by unfold jP;split<;>lia)]
   grind
theorem mG:∀{n:Nat}{A:Nat->Nat->Int}{r:Nat},r+1<n->(∀j,A r j=A (r+1) j)->bC n A=0
 |0,_,_,h,_=>by lia
 |n+1,A,r,h,e=>by
  show Oj (n+1) _=0;have hm:bC n (gQ A r)=bC n (gQ A (r+1)):=by
   refine dI fun i j _ _=>?_
   unfold gQ;by_cases d:i=r
   ·subst d
    have c:skip i i=i+1:=by unfold skip;split<;>lia
    have b:skip (i+1) i=i:=by unfold skip;split<;>lia
    rw[c,b,e]
   ·have:skip r i=skip (r+1) i:=by unfold skip;split<;>split<;>lia
    rw[this]
  rw[uV (k:=r) (l:=r+1) oM h oM fun k f c b=>?_]
  ·rw[hm,e 0,Df];grind
  ·have:bC n (gQ A k)=0:=by
    rcases yU k r with a|a
    ·refine mG (r:=r-1) oM fun j=>?_
     unfold gQ;have a1:skip k (r-1)=r:=by unfold skip;split<;>lia
     have a2:skip k (r-1+1)=r+1:=by unfold skip;split<;>lia
     rw[a1,a2,e]
    ·refine mG (r:=r) oM fun j=>?_
     unfold gQ;have a1:skip k r=r:=by unfold skip;split<;>lia
     have a2:skip k (r+1)=r+1:=by unfold skip;split<;>lia
     rw[a1,a2,e]
   rw[this,yP]
theorem nA{n:Nat}{A:Nat->Nat->Int}{c j:Nat}(d:c<n)(e:j<n)(a:c≠j)(b:∀x:Nat->Int,bC n (up (up A c x) j x)=0)(u v:Nat->Int):bC n (up (up A c u) j v)=- bC n (up (up A c v) j u):=by
 have h:=b (fun k=>1*u k+1*v k);rw[gZ e,iS a,gZ d,iS a (v:=v),gZ d,<- iS a,<- iS a,<- iS a,<- iS a,b u,b v]at h;lia
theorem qo{n:Nat}:∀(k:Nat){A:Nat->Nat->Int}{i j:Nat},j=i+k+1->j<n->(∀x,A i x=A j x)->bC n A=0
 |0,A,i,j,e,hj,h=>mG (r:=i) oM (by subst e;exact h)
 |k+1,A,i,j,e,hj,h=>by
  have alt:∀x:Nat->Int,bC n (up (up A (j-1) x) j x)=0:=fun x=>mG (r:=j-1) oM fun y=>by
   rw[show j-1+1=j by lia,bY,bt oM,bY]
  have a:=nA (A:=A) (c:=j-1) (j:=j) oM hj oM alt (A (j-1)) (A j);rw[gi,gi]at a;rw[a,qo k (A:=up (up A (j-1) (A j)) j (A (j-1))) (i:=i) (j:=j-1) oM oM fun x=>by
   rw[bt oM,bt oM,bt oM,bY,h]]
  rfl
theorem j6{n:Nat}{A:Nat->Nat->Int}{i j:Nat}(c:i<n)(b:j<n)(a:i≠j)(h:∀x,A i x=A j x):bC n A=0:=by
 rcases yU i j with l|l
 ·exact qo (j-i-1) (i:=i) (j:=j) oM b h
 ·exact qo (i-j-1) (i:=j) (j:=i) oM c fun x=>(h x).symm
theorem BK{n:Nat}{A:Nat->Nat->Int}{c j:Nat}(d:c<n)(b:j<n)(a:c≠j)(u v:Nat->Int):bC n (up (up A c u) j v)=- bC n (up (up A c v) j u) :=
 nA d b a (fun x=>j6 d b a fun y=>by rw[bt a,bY,bY]) u v
theorem j5{n:Nat}{A:Nat->Nat->Int}{r:Nat}(c:r<n){t:Nat->Int}{b:Nat->Nat->Int}:∀m:Nat,bC n (up A r fun x=>Oj m fun k=>t k*b k x)=Oj m fun k=>t k*bC n (up A r (b k))
 |0=>by
  have:=gZ (A:=A) (r:=r) (a:=0) (b:=0) (u:=fun _=>0) (v:=fun _=>0) c
  simp only[yQ,ê]at this;exact this
 |m+1=>by
  have:=gZ (A:=A) (r:=r) (a:=1) (b:=t m) (u:=fun x=>Oj m fun k=>t k*b k x) (v:=b m) c
  rw[ϊ,j5 c m]at this;simp only[ϊ]at this;exact this
theorem qk{n:Nat}{A:Nat->Nat->Int}{r:Nat}(c:r<n){d:Int}{u:Nat->Int}:bC n (up A r fun x=>d*u x)=d*bC n (up A r u):=by
 have:=gZ (A:=A) (r:=r) (a:=d) (b:=0) (u:=u) (v:=u) c
 simp only[yQ,ê]at this;exact this
theorem jg{n:Nat}{A:Nat->Nat->Int}{r:Nat}{u v:Nat->Int}(h:∀x,x<n->u x=v x):bC n (up A r u)=bC n (up A r v):=dI fun i j _ a=>by
 by_cases e:i=r
 ·subst e;rw[bY,bY];exact h j a
 ·rw[bt e,bt e]
theorem JQ{n:Nat}{B:Nat->Nat->Int}{j:Nat}{d:Int}{v:Nat->Int}{t:Nat->Int}(b:j<n)(h:∀x,x<n->d*v x=Oj n fun k=>t k*B k x):d*bC n (up B j v)=t j*bC n B:=by
 rw[<- qk b,jg h,j5 b,sum_one b fun k c a=>?_,gi];rw[j6 (i:=k) (j:=j) c b a fun x=>by rw[bt a,bY],yP]
theorem JP{n:Nat}{B:Nat->Nat->Int}{c j:Nat}{d:Int}{u v:Nat->Int}{t:Nat->Int}(e:c<n)(b:j<n)(a:c≠j)(h:∀x,x<n->d*v x=Oj n fun k=>t k*B k x) :
  d*bC n (up (up B c u) j v)=t j*bC n (up B c u)-t c*bC n (up B j u):=by
 rw[<- qk b,jg h,j5 b,uV b e (fun z=>a z.symm) fun k g f l=>?_]
 ·have m:up (up B c u) j (B j)=up B c u:=by
   have:up B c u j=B j:=bt fun z=>a z.symm
   rw[<- this,gi]
  rw[m,BK e b a u (B c),gi]
  grind
 ·rw[j6 (i:=k) (j:=j) g b f fun x=>by rw[bt f,bt l,bY],yP]
def fct:Nat->Nat
 |0=>1
 |n+1=>(n+1)*fct n
theorem abs_sum{n:Nat}{f:Nat->Int}{M:Nat}(h:∀i,i<n->(f i).natAbs<=M):(Oj n f).natAbs<=n*M:=by
 induction n with
 |zero=>simp[Oj]
 |succ n a =>
  simp only[Oj];have d:=a fun i b=>h i oM
  have c:=h n oM;rw[y?]
  have:=Ϥ (Oj n f) (f n)
  lia
theorem tO:∀{n:Nat}{A:Nat->Nat->Int}{M:Nat},(∀i j,i<n->j<n->(A i j).natAbs<=M)->(bC n A).natAbs<=fct n*M^n
 |0,_,_,_=>by simp[bC,fct]
 |n+1,A,M,h=>by
  show(Oj (n+1) _).natAbs<=_;refine z5 (abs_sum (M:=M*(fct n*M^n)) fun k hk=>?_) ?_
  ·rw[xA,xA,Fm,Ţ]
   exact ś (h k 0 hk oM) (tO fun i j hi hj=>h _ _ (by unfold skip;split<;>lia) oM)
  ·show(n+1)*(M*(fct n*M^n))<=(n+1)*fct n*M^(n+1)
   rw[W7];generalize fct n=a;generalize M^n=b;exact ϣ (by grind)
noncomputable def eW(w:Nat):Nat->Int:=fun x=>if x=w then 1 else 0
def aL(w:Nat)(v:Nat->Nat->Int)(h:Nat->Nat):Nat->Nat->Int:=fun k=>if k=w then eW w else v (h k)
structure Lin(w m:Nat)(v:Nat->Nat->Int)(d:Int)(t:Nat->Nat->Int)(h s:Nat->Nat):Prop where
 pos:0<d
 lin:∀i,i<m->∀x,x<w+1->d*v (s i) x=Oj (w+1) fun k=>t i k*aL w v h k x
 dt:∃g:Int,g*g=1/\bC (w+1) (aL w v h)=g*d
structure qW(w m r c:Nat)(e d:Int)(t:Nat->Nat->Int)(h s:Nat->Nat)(d':Int)(t':Nat->Nat->Int)(h' s':Nat->Nat):Prop where
 e1:e*e=1
 ep:0<e*t r c
 d':d'=e*t r c
 tc:∀i,i<m->i≠r->t' i c=e*t i c
 tj:∀i,i<m->i≠r->∀j,j<w+1->j≠c->t' i j=(t i j*(e*t r c)-t i c*(e*t r j))/d
 rc:t' r c=e*d
 rj:∀j,j<w+1->j≠c->t' r j=- (e*t r j)
 hc:h' c=s r
 hj:∀j,j<w->j≠c->h' j=h j
 sr:s' r=h c
 si:∀i,i<m->i≠r->s' i=s i
section
variable{w m r c:Nat}{e d d':Int}{v t t':Nat->Nat->Int}{h s h' s':Nat->Nat}
theorem Lin.one(L:Lin w m v d t h s){g:Int}(e:bC (w+1) (aL w v h)=g*d){i j:Nat}(c:i<m)(b:j<w+1):bC (w+1) (up (aL w v h) j (v (s i)))=g*t i j:=by
 have a:=JQ (n:=w+1) (j:=j) b (L.lin i c);rw[e]at a;have f:d≠0:=by have:=L.pos;lia
 refine ķ f ?_;rw[a];grind
theorem Lin.ex(L:Lin w m v d t h s){i j:Nat}(o:i<m)(b:r<m)(k:c<w+1)(e:j<w+1)(a:c≠j):d ∣ t i j*t r c-t i c*t r j:=by
 obtain⟨g,g1,f⟩:=L.dt;have l:=JP (n:=w+1) (c:=c) (j:=j) (u:=v (s r)) k e a (L.lin i o);rw[L.one f b k,L.one f b e]at l;refine⟨g*bC (w+1) (up (up (aL w v h) c (v (s r))) j (v (s i))),?_⟩;generalize bC (w+1) (up (up (aL w v h) c (v (s r))) j (v (s i)))=D at l
 grind
theorem Lin.ex'(L:Lin w m v d t h s){i j:Nat}(g:i<m)(b:r<m)(l:c<w+1)(f:j<w+1)(a:c≠j):d*((t i j*(e*t r c)-t i c*(e*t r j))/d)=t i j*(e*t r c)-t i c*(e*t r j):=by
 refine H? ?_;obtain⟨k,n⟩:=L.ex g b l f a;exact⟨e*k,by grind⟩
theorem ue(g:c<w)(d:h' c=s r)(b:∀j,j<w->j≠c->h' j=h j):∀k,k<w+1->aL w v h' k=up (aL w v h) c (v (s r)) k:=by
 intro k f;unfold aL;by_cases e:k=c
 ·subst e;rw[bY,yH oM,d]
 ·rw[bt e]
  by_cases a:k=w
  ·rw[yI a,yI a]
  ·rw[yH a,yH a,b k oM e]
theorem Lin.piv(L:Lin w m v d t h s)(P:qW w m r c e d t h s d' t' h' s')(o:r<m)(p:c<w):Lin w m v d' t' h' s':=by
 have u:d≠0:=by have:=L.pos;lia
 have A:=P.e1;refine⟨by rw[P.d'];exact P.ep,fun i f x n=>?_,?_⟩
 ·by_cases l:i=r
  ·subst l
   rw[P.sr,P.d'];have b:Oj (w+1) (fun k=>t' i k*aL w v h' k x)=Oj (w+1) fun k=>(- e)*(t i k*aL w v h k x)+if k=c then e*t i c*aL w v h c x+e*d*v (s i) x else 0:=by
    refine sum_congr fun k b=>?_
    rw[ue p P.hc P.hj k b];by_cases a:k=c
    ·subst a;rw[yI rfl,bY,P.rc];grind
    ·rw[yH a,bt a,P.rj k b a];grind
   rw[b,sum_add,sum_mul,<- L.lin i f x n,sum_one (k:=c) oM fun k _ z=>yH z,yI rfl];have:aL w v h c x=v (h c) x:=by unfold aL;rw[yH oM]
   rw[this];grind
  ·refine ķ u ?_
   rw[P.si i f l,<- sum_mul];have b:Oj (w+1) (fun k=>d*(t' i k*aL w v h' k x))=Oj (w+1) fun k=>(e*t r c*(t i k*aL w v h k x)+(- (e*t i c))*(t r k*aL w v h k x))+if k=c then d*(e*t i c*v (s r) x) else 0:=by
    refine sum_congr fun k b=>?_
    rw[ue p P.hc P.hj k b];by_cases a:k=c
    ·subst a;rw[yI rfl,bY,P.tc i f l];grind
    ·rw[yH a,bt a,P.tj i f l k b a,<- Ŏ,L.ex' f o oM b fun z=>a z.symm];grind
   rw[b,sum_add,sum_add,sum_mul,sum_mul,<- L.lin i f x n,<- L.lin r o x n,sum_one (k:=c) oM fun k _ z=>yH z,yI rfl,P.d']
   grind
 ·obtain⟨g,g1,q⟩:=L.dt
  refine⟨g*e,by grind,?_⟩;rw[dI (B:=up (aL w v h) c (v (s r))) fun i j f y=>by rw[ue p P.hc P.hj i f],L.one q o oM,P.d']
  grind
theorem Lin.func(L:Lin w m v d t h s)(C:∀q,q<w->∀x,x<w+1->v q x=if x=q then 1 else 0)(f:c<w+1){X:Nat->Int}(D:∀i,i<m->s i<w->X (s i)=t i c)(G:∀j,j<w->h j<w->X (h j)=if j=c then d else 0)
  (r:∀q,q<w->(∃i,i<m/\s i=q)\/∃j,j<w/\h j=q) :
  (∀i,i<m->(Oj w fun q=>v (s i) q*X q)+v (s i) w*(if c=w then d else 0)=t i c)/\∀j,j<w->(Oj w fun q=>v (h j) q*X q)+v (h j) w*(if c=w then d else 0)=if j=c then d else 0:=by
 obtain⟨g,g1,o⟩:=L.dt;have F:∀u:Nat->Int,(Oj w fun q=>u q*X q)+u w*(if c=w then d else 0)=g*bC (w+1) (up (aL w v h) c u):=fun u=>by
  have I:bC (w+1) (up (aL w v h) c u)=Oj (w+1) fun q=>u q*bC (w+1) (up (aL w v h) c (eW q)):=by
   rw[<- j5 f];refine jg fun x p=>?_
   rw[sum_one p fun k _ z=>by unfold eW;rw[yH fun y=>z y.symm,yP]];unfold eW;rw[yI rfl,ϲ]
  have B:∀k,k<w+1->g*bC (w+1) (up (aL w v h) c (aL w v h k))=if k=c then d else 0:=fun k E=>by
   by_cases a:k=c
   ·rw[yI a,a,gi,o];grind
   ·rw[yH a,j6 (i:=k) (j:=c) E f a fun x=>by rw[bt a,bY],yP]
  rw[I,<- sum_mul];show _=Oj w _+_;congr 1
  ·refine sum_congr fun q l=>?_
   have:g*bC (w+1) (up (aL w v h) c (eW q))=X q:=by
    have ev:∀x,x<w+1->eW q x=v q x:=fun x p=>(C q l x p).symm
    rw[jg ev];rcases r q l with⟨i,n,rfl⟩|⟨j,A,rfl⟩
    ·rw[L.one o n f,D i n l];grind
    ·have:=B j oM
     rw[show aL w v h j=v (h j) by unfold aL;rw[yH oM]]at this;rw[this,G j A l]
   rw[<- this];grind
  ·have:=B w oM
   rw[show aL w v h w=eW w by unfold aL;rw[yI rfl]]at this;have H:(if c=w then d else 0)=if w=c then d else 0:=by
    by_cases z:c=w
    ·rw[yI z,yI z.symm]
    ·rw[yH z,yH fun y=>z y.symm]
   rw[H,<- this];grind
 refine⟨fun i n=>?_,fun j A=>?_⟩
 ·rw[F,L.one o n f];grind
 ·rw[F]
  have e:v (h j)=aL w v h j:=by unfold aL;rw[yH oM]
  rw[e];by_cases b:j=c
  ·rw[yI b,b,gi,o];grind
  ·rw[yH b,j6 (i:=j) (j:=c) oM f b fun x=>by rw[bt b,bY],yP]
theorem Lin.bound(L:Lin w m v d t h s){M:Nat}(l:1<=M)(c:∀q x,x<w+1->(v q x).natAbs<=M):d.natAbs<=fct (w+1)*M^(w+1)/\∀i,i<m->∀j,j<w+1->(t i j).natAbs<=fct (w+1)*M^(w+1):=by
 obtain⟨g,g1,e⟩:=L.dt;have ga:g.natAbs=1:=by
  have:g.natAbs*g.natAbs=1:=by rw[<- xA,g1];rfl
  exact ϯ this
 have hb:∀k x,x<w+1->(aL w v h k x).natAbs<=M:=fun k x a=>by
  unfold aL;split
  ·unfold eW;split<;>simp<;>lia
  ·exact c _ x a
 refine⟨?_,fun i f j b=>?_⟩
 ·have:=tO (n:=w+1) (A:=aL w v h) (M:=M) fun i j _ b=>hb i j b
  rw[e,xA,ga,Ţ]at this;exact this
 ·have:=tO (n:=w+1) (A:=up (aL w v h) j (v (s i))) (M:=M) fun k x _ a=>by
   by_cases z:k=j
   ·subst z;rw[bY];exact c _ x a
   ·rw[bt z];exact hb k x a
  rw[L.one e f b,xA,ga,Ţ]at this;exact this
end
structure Pm(w m:Nat)(h s:Nat->Nat):Prop where
 hl:∀j,j<w->h j<w+m
 sl:∀i,i<m->s i<w+m
 hi:∀j k,j<w->k<w->h j=h k->j=k
 si:∀j k,j<m->k<m->s j=s k->j=k
 hs:∀j i,j<w->i<m->h j≠s i
 cov:∀q,q<w+m->(∃i,i<m/\s i=q)\/∃j,j<w/\h j=q
structure Fea(w m:Nat)(G N:Nat->Prop)(t:Nat->Nat->Int)(h s:Nat->Nat):Prop where
 g:∀i,i<m->G (s i)->0<=t i w
 n:∀i,i<m->N (s i)->t i w=0/\∀j,j<w->¬N (h j)->t i j=0
 f:∀j,j<w->G (h j)\/N (h j)
section
variable{w m r c:Nat}{e d d':Int}{v t t':Nat->Nat->Int}{h s h' s':Nat->Nat}{G N G' N':Nat->Prop}
theorem Pm.piv(Q:Pm w m h s)(P:qW w m r c e d t h s d' t' h' s')(n:r<m)(o:c<w):Pm w m h' s':=by
 have u:∀j,j<w->(j=c/\h' j=s r)\/(j≠c/\h' j=h j):=fun j f=>by
  by_cases z:j=c
  ·subst z;exact .inl ⟨rfl,P.hc⟩
  ·exact .inr ⟨z,P.hj j f z⟩
 have p:∀i,i<m->(i=r/\s' i=h c)\/(i≠r/\s' i=s i):=fun i g=>by
  by_cases z:i=r
  ·subst z;exact .inl ⟨rfl,P.sr⟩
  ·exact .inr ⟨z,P.si i g z⟩
 refine⟨fun j f=>?_,fun i g=>?_,fun j k f l e=>?_,fun j k f l e=>?_,fun j i f g e=>?_,fun q v=>?_⟩
 ·rcases u j f with⟨_,z⟩|⟨_,z⟩<;>rw[z]
  ·exact Q.sl r n
  ·exact Q.hl j f
 ·rcases p i g with⟨_,z⟩|⟨_,z⟩<;>rw[z]
  ·exact Q.hl c o
  ·exact Q.sl i g
 ·rcases u j f with⟨a,z⟩|⟨a,z⟩<;>rcases u k l with⟨b,y⟩|⟨b,y⟩<;>rw[z,y]at e
  ·rw[a,b]
  ·exact absurd e.symm (Q.hs k r l n)
  ·exact absurd e (Q.hs j r f n)
  ·exact Q.hi j k f l e
 ·rcases p j f with⟨a,z⟩|⟨a,z⟩<;>rcases p k l with⟨b,y⟩|⟨b,y⟩<;>rw[z,y]at e
  ·rw[a,b]
  ·exact absurd e (Q.hs c k o l)
  ·exact absurd e.symm (Q.hs c j o f)
  ·exact Q.si j k f l e
 ·rcases u j f with⟨a,z⟩|⟨a,z⟩<;>rcases p i g with⟨b,y⟩|⟨b,y⟩<;>rw[z,y]at e
  ·exact Q.hs c r o n e.symm
  ·exact b (Q.si i r g n e.symm)
  ·exact a (Q.hi j c f o e)
  ·exact Q.hs j i f g e
 ·by_cases z:q=h c
  ·exact .inl ⟨r,n,by rw[P.sr,z]⟩
  ·by_cases y:q=s r
   ·exact .inr ⟨c,o,by rw[P.hc,y]⟩
   ·rcases Q.cov q v with⟨i,g,e⟩|⟨j,f,e⟩
    ·exact .inl ⟨i,g,by rw[P.si i g (fun x=>y (by rw[<- e,x]))];exact e⟩
    ·exact .inr ⟨j,f,by rw[P.hj j f (fun x=>z (by rw[<- e,x]))];exact e⟩
theorem nn_of{d x:Int}(hd:0<d)(h:0<=d*x):0<=x:=by
 rcases yV x 0 with z|z
 ·have:=Ķ hd z;lia
 ·exact z
theorem Aq{d x:Int}(hd:0<d)(h:d*x=0):x=0:=by
 rcases T?.mp h with z|z
 ·lia
 ·exact z
theorem Fea.piv(L:Lin w m v d t h s)(Q:Pm w m h s)(F:Fea w m G N t h s)(P:qW w m r c e d t h s d' t' h' s')(b:r<m)(u:c<w)(B:¬N (h c))
  (val:∀i,i<m->i≠r->G (s i)->0<=t i w*(e*t r c)-t i c*(e*t r w)) (new:G (h c)->0<=- (e*t r w))
  (A:∀q,q≠s r->(G' q ↔ G q)) (hN:∀q,q≠s r->(N' q ↔ N q)) (p:G' (s r)\/N' (s r)):Fea w m G' N' t' h' s':=by
 have g:∀i,i<m->i≠r->s i≠s r:=fun i a z y=>z (Q.si i r a b y)
 refine⟨fun i a n=>?_,fun i a l=>?_,fun j f=>?_⟩
 ·by_cases z:i=r
  ·subst z
   rw[P.rj w oM oM];rw[P.sr]at n;exact new ((A _ (Q.hs c i u b)).mp n)
  ·rw[P.si i a z]at n
   have:=val i a z ((A _ (g i a z)).mp n)
   rw[P.tj i a z w oM oM];exact nn_of L.pos (by rw[L.ex' a b oM oM oM];exact this)
 ·by_cases z:i=r
  ·subst z
   rw[P.sr]at l;exact absurd ((hN _ (Q.hs c i u b)).mp l) B
  ·rw[P.si i a z]at l
   obtain⟨D,C⟩:=F.n i a ((hN _ (g i a z)).mp l);have o:=C c u B;refine⟨?_,fun j f k=>?_⟩
   ·rw[P.tj i a z w oM oM]
    exact Aq L.pos (by rw[L.ex' a b oM oM oM,D,o];grind)
   ·by_cases y:j=c
    ·subst y;rw[P.tc i a z,o,yP]
    ·rw[P.hj j f y]at k
     have:=C j f fun x=>k ((hN _ (Q.hs j r f b)).mpr x)
     rw[P.tj i a z j oM y];exact Aq L.pos (by rw[L.ex' a b oM oM (fun x=>y x.symm),this,o];grind)
 ·by_cases y:j=c
  ·subst y;rw[P.hc];exact p
  ·rw[P.hj j f y]
   rcases F.f j f with x|x
   ·exact .inl ((A _ (Q.hs j r f b)).mpr x)
   ·exact .inr ((hN _ (Q.hs j r f b)).mpr x)
theorem Fea.tight(L:Lin w m v d t h s)(Q:Pm w m h s)(F:Fea w m G N t h s)(P:qW w m r c e d t h s d' t' h' s')(g:r<m)(x:c<w)(q:¬N (h c))(l:G (s r))(p:t r c<0)
  (o:∀i,i<m->G (s i)->t i c<0->t r w*- t i c<=t i w*- t r c):Fea w m G N t' h' s':=by
 have n:e=-1:=by
  have B:=P.ep;have A:=P.e1;rcases yV e 0 with z|z
  ·have:e*e=1:=A
   have:e=-1:=by
    rcases yV e (-1) with y|y
    ·have:1<e*e:=by
      have a:(-e)*1<(-e)*(-e):=Ŝ oM oM;have b:(-e)*(-e)=e*e:=by grind
      lia
     lia
    ·lia
   exact this
  ·have:e*t r c<=0:=Ł z oM
   lia
 have f:=F.g r g l;refine Fea.piv L Q F P g x q (fun i j ne k=>?_) (fun _=>by rw[n];lia) (fun _ _=>.rfl) (fun _ _=>.rfl) (.inl l);have u:=F.g i j k;rw[n];rcases yV (t i c) 0 with z|z
 ·have:=o i j k z
  have a:t i w*(-1*t r c)-t i c*(-1*t r w)=t i w*- t r c-t r w*- t i c:=by grind
  rw[a];lia
 ·have a:t i w*(-1*t r c)-t i c*(-1*t r w)=t i w*- t r c+t i c*t r w:=by grind
  rw [a];have b:=í u (show 0 <= - t r c by lia);have c:=í z f;lia
theorem Fea.lift(L:Lin w m v d t h s)(Q:Pm w m h s)(F:Fea w m G N t h s)(P:qW w m r c e d t h s d' t' h' s')(p:r<m)(u:c<w)(n:¬N (h c))(pos:0<t r c)(low:t r w<0)
  (l:∀i,i<m->G (s i)->t i c<0->t r w*t i c<=t i w*t r c) (x:∀q,q≠s r->(G' q ↔ G q)) (hN:∀q,q≠s r->(N' q ↔ N q)) (g:G' (s r)\/N' (s r)):Fea w m G' N' t' h' s':=by
 have f:e=1:=by
  have B:=P.ep;have A:=P.e1;have f:0<e:=by
   rcases yV 0 e with z|z
   ·exact z
   ·have:e*t r c<=0:=ŀ z oM
    lia
  rcases yV 1 e with y|y
  ·have:e*1<e*e:=Ŝ y f
   lia
  ·lia
 refine Fea.piv L Q F P p u n (fun i j ne k=>?_) (fun _=>by rw[f];lia) x hN g;have o:=F.g i j k;rw[f];rcases yV (t i c) 0 with z|z
 ·have:=l i j k z
  have a:t i w*(1*t r c)-t i c*(1*t r w)=t i w*t r c-t r w*t i c:=by grind
  rw[a];lia
 ·have a:t i w*(1*t r c)-t i c*(1*t r w)=t i w*t r c+t i c*- t r w:=by grind
  rw [a];have b:=í o (show 0 <= t r c by lia);have c:=í z (show 0 <= - t r w by lia);lia
theorem Fea.move(L:Lin w m v d t h s)(Q:Pm w m h s)(F:Fea w m G N t h s)(P:qW w m r c e d t h s d' t' h' s')(l:r<m)(p:c<w)(j:¬N (h c))(f:t r w=0)
  (u:∀q,q≠s r->(G' q ↔ G q)) (hN:∀q,q≠s r->(N' q ↔ N q)) (g:G' (s r)\/N' (s r)):Fea w m G' N' t' h' s':=by
 refine Fea.piv L Q F P l p j (fun i n ne o=>?_) (fun _=>by rw[f];lia) u hN g;have k:=F.g i n o
 have:=P.ep
 have b:=í k (show 0 <= e * t r c by lia);rw [f];have a:t i w * (e * t r c) - t i c * (e * 0)=t i w * (e * t r c):=by grind
 rw[a];exact b
theorem Ek{a b x y u z:Int}(hb:b<0)(k:x<0)(l:0<u)(g:z*b<=a*u)(f:a*- x<=y*- b):z*x<=y*u:=by
 have d:(z*b)*(-x)<=(a*u)*(-x):=ß g oM;have c:(a*- x)*u<=(y*- b)*u:=ß f oM;have e:(z*x)*(-b)<=(y*u)*(-b):=by
  have j:(z*b)*(-x)=(z*x)*(-b):=by grind
  have i:(a*u)*(-x)=(a*- x)*u:=by grind
  have h:(y*- b)*u=(y*u)*(-b):=by grind
  rw[j,i]at d;rw[h]at c;exact Ň d c
 exact ĩ e oM
theorem Fea.guard{p:Nat}(F:Fea w m G N t h s)(Q:Pm w m h s)(c:p<m)(e:0<=t p w):Fea w m (fun q=>G q\/q=s p) N t h s :=
 ⟨fun i b a=>by
  rcases a with a|a
  ·exact F.g i b a
  ·rw[Q.si i p b c a];exact e,F.n,fun j d=>(F.f j d).imp .inl id⟩
theorem Fea.nail{p:Nat}(F:Fea w m G N t h s)(Q:Pm w m h s)(f:p<m)(g:t p w=0)(hz:∀j,j<w->¬N (h j)->t p j=0):Fea w m G (fun q=>N q\/q=s p) t h s :=
 ⟨F.g,fun i e c=>by
  rcases c with c|c
  ·obtain⟨a,b⟩:=F.n i e c
   exact⟨a,fun j d z=>b j d fun y=>z (.inl y)⟩
  ·rw[Q.si i p e f c]
   exact⟨g,fun j d z=>hz j d fun y=>z (.inl y)⟩,fun j d=>(F.f j d).imp id .inl⟩
noncomputable def tv(v:Nat->Nat->Int)(q:Nat):Nat->Nat->Int:=fun k x=>if k=q then-v k x else v k x
theorem Lin.turn{p:Nat}(L:Lin w m v d t h s)(Q:Pm w m h s)(e:p<m)(n:∀j,j<w+1->t' p j=- t p j)(l:∀i,i<m->i≠p->∀j,j<w+1->t' i j=t i j):Lin w m (tv v (s p)) d t' h s:=by
 have hb:∀k,k<w+1->aL w (tv v (s p)) h k=aL w v h k:=fun k a=>by
  unfold aL;by_cases z:k=w
  ·rw[yI z,yI z]
  ·rw[yH z,yH z];funext x;unfold tv;rw[yH (Q.hs k p oM e)]
 refine⟨L.pos,fun i b x c=>?_,?_⟩
 ·by_cases z:i=p
  ·subst z
   have:=L.lin i b x c
   rw[sum_congr (g:=fun k=>(-1)*(t i k*aL w v h k x)) fun k a=>by rw[hb k a,n k a];grind,sum_mul,<- this];unfold tv;rw[yI rfl];grind
  ·rw[sum_congr (g:=fun k=>t i k*aL w v h k x) fun k a=>by rw[hb k a,l i b z k a],<- L.lin i b x c]
   unfold tv;rw[yH fun y=>z (Q.si i p b e y)]
 ·obtain⟨g,g1,f⟩:=L.dt
  exact⟨g,g1,by rw[dI (B:=aL w v h) fun i j b _=>by rw[hb i b]];exact f⟩
theorem Fea.turn{p:Nat}(F:Fea w m G N t h s)(Q:Pm w m h s)(l:p<m)(g:¬G (s p))(nn:¬N (s p))(d:∀i,i<m->i≠p->∀j,j<w+1->t' i j=t i j):Fea w m G N t' h s:=by
 refine⟨fun i c f=>?_,fun i c e=>?_,F.f⟩
 ·rw[d i c (fun z=>g (by rw[<- z];exact f)) w oM];exact F.g i c f
 ·have ne:i≠p:=fun z=>nn (by rw[<- z];exact e)
  obtain⟨a,b⟩:=F.n i c e;exact⟨by rw[d i c ne w oM];exact a,fun j k z=>by rw[d i c ne j oM];exact b j k z⟩
end
theorem xT:∀(M:Nat)(f:Nat->Nat),(∀n,f n<M)->∃i j,i<j/\f i=f j
 |0,f,h=>absurd (h 0) oM
 |M+1,f,h=>by
  by_cases c:∃n,∀k,n<=k->f k≠M
  ·obtain⟨n,hn⟩:=c
   obtain⟨i,j,g,e⟩:=xT M (fun k=>f (n+k)) fun k=>by have:=h (n+k);have:=hn (n+k) oM;lia
   exact⟨n+i,n+j,by lia,e⟩
  ·have b:∀n,∃k,n<=k/\f k=M:=fun n=>ĉ fun z=>c ⟨n,fun k d e=>z ⟨k,d,e⟩⟩
   obtain⟨i,_,l⟩:=b 0;obtain⟨j,m,a⟩:=b (i+1);exact⟨i,j,by lia,by rw[l,a]⟩
def jA(b:Nat)(h:Nat->Nat):Nat->Nat
 |0=>0
 |n+1=>jA b h n*b+h n
theorem zp{b:Nat}{h:Nat->Nat}:∀{n:Nat},(∀j,j<n->h j<b)->jA b h n<b^n
 |0,_=>by simp[jA]
 |n+1,H=>by
  have h1:=zp (n:=n) fun j a=>H j oM
  have c:=H n oM;show jA b h n*b+h n<b^(n+1);rw[W7];have:(jA b h n+1)*b<=b^n*b:=Ő b h1;rw[y?]at this;lia
theorem vB{b:Nat}{h g:Nat->Nat}:∀{n:Nat},(∀j,j<n->h j<b)->(∀j,j<n->g j<b)->jA b h n=jA b g n->∀j,j<n->h j=g j
 |0,_,_,_,j,hj=>by lia
 |n+1,H,K,e,j,hj=>by
  have h2:=H n oM;have a:=K n oM;have f:jA b h n*b+h n=jA b g n*b+g n:=e;have d:h n=g n:=by
   have:=congrArg (·%b) f
   simp only[Nat.mul_add_mod_self_right]at this
   rwa [R? h2,R? a]at this
  have c:jA b h n=jA b g n:=by
   have:jA b h n*b=jA b g n*b:=by lia
   exact Nat.eq_of_mul_eq_mul_right oM this
  rcases yU j n with z|z
  ·exact vB (fun j hj=>H j oM) (fun j hj=>K j oM) c j z
  ·rw[show j=n by lia];exact d
theorem xm(b:Nat->Prop){i:Nat}:∀(k:Nat),b i->¬b (i+k)->∃n,i<=n/\n<i+k/\b n/\¬b (n+1)
 |0,h,g=>absurd h g
 |k+1,h,g=>by
  by_cases z:b (i+k)
  ·exact⟨i+k,by lia,by lia,z,g⟩
  ·obtain⟨n,a,c,d⟩:=xm b k h z
   exact⟨n,a,by lia,d⟩
theorem xk(b:Nat->Prop){i j x y:Nat}(g:i<=x/\x<=j)(f:i<=y/\y<=j)(k:b x)(d:¬b y)(e:b i ↔ b j):∃n,i<=n/\n<j/\b n/\¬b (n+1):=by
 have h:∀a c,i<=a->a<=c->c<=j->b a->¬b c->∃n,i<=n/\n<j/\b n/\¬b (n+1):=fun a c t s r p q=>by
  obtain⟨n,o,m,l⟩:=xm b (c-a) p (by rwa [show a+(c-a)=c by lia]);exact⟨n,by lia,by lia,l⟩
 rcases z? x y with z|z
 ·exact h x y g.1 z f.2 k d
 ·by_cases q:b j
  ·exact h i y oM f.1 f.2 (e.mpr q) d
  ·exact h x j g.1 g.2 (zP j) k q
structure St where
 d:Int
 t:Nat->Nat->Int
 h:Nat->Nat
 s:Nat->Nat
structure Bl(w m p:Nat)(G N:Nat->Prop)(r c:Nat)(e:Int)(S S':St):Prop where
 hc:c<w
 nc:¬N (S.h c)
 up:0<S.t p c
 least:∀j,j<w->¬N (S.h j)->0<S.t p j->S.h c<=S.h j
 hr:r<m
 gr:G (S.s r)
 neg:S.t r c<0
 ti:∀i,i<m->G (S.s i)->S.t i c<0->S.t r w*- S.t i c<S.t i w*- S.t r c\/(S.t r w*- S.t i c=S.t i w*- S.t r c/\S.s r<=S.s i)
 piv:qW w m r c e S.d S.t S.h S.s S'.d S'.t S'.h S'.s
def jk(w:Nat)(S:St)(q:Nat):Prop:=∃k,k<w/\S.h k=q
def Zr(w m:Nat)(S:St)(q:Nat):Prop:=∀i,i<m->S.s i=q->S.t i w=0
theorem CB{a b c d e f:Int}(hb:0<b)(hd:0<d)(o:0<f)(k:a*d<=c*b)(j:c*f<=e*d):a*f<=e*b:=by
 have g:(a*d)*f<=(c*b)*f:=ß k oM;have i:(c*f)*b<=(e*d)*b:=ß j oM;have n:(c*b)*f=(c*f)*b:=by grind
 have h:(a*f)*d<=(e*b)*d:=by
  have m:(a*f)*d=(a*d)*f:=by grind
  have l:(e*b)*d=(e*d)*b:=by grind
  rw[m,l];rw[n]at g;exact Ň g i
 exact ĩ h hd
section
variable{w m p:Nat}{v:Nat->Nat->Int}{G N:Nat->Prop}{S:Nat->St}{r c:Nat->Nat}{e:Nat->Int}
structure Run(w m p:Nat)(v:Nat->Nat->Int)(G N:Nat->Prop)(S:Nat->St)(r c:Nat->Nat)(e:Nat->Int):Prop where
 L:∀n,Lin w m v (S n).d (S n).t (S n).h (S n).s
 Q:∀n,Pm w m (S n).h (S n).s
 F:∀n,Fea w m G N (S n).t (S n).h (S n).s
 B:∀n,Bl w m p G N (r n) (c n) (e n) (S n) (S (n+1))
 hp:p<m
 np:¬G ((S 0).s p)
theorem Run.sp(R:Run w m p v G N S r c e):∀n,(S n).s p=(S 0).s p
 |0=>rfl
 |n+1=>by
  have h:=R.sp n;have:p≠r n:=fun z=>R.np (by rw[<- h,z];exact(R.B n).gr)
  rw[(R.B n).piv.si p R.hp this];exact h
theorem Run.pr(R:Run w m p v G N S r c e)(n:Nat):p≠r n:=fun z=>R.np (by rw[<- R.sp n,z];exact(R.B n).gr)
theorem Ed{e a:Int}(f:e*e=1)(d:0<e*a)(c:a<0):e=-1:=by
 have hz:e<0:=by
  rcases yV e 0 with z|z
  ·exact z
  ·have:e*a<=0:=Ł z oM
   lia
 rcases yV e (-1) with y|y
 ·have a:(-e)*1<(-e)*(-e):=Ŝ oM oM
  have b:(-e)*(-e)=e*e:=by grind
  lia
 ·lia
theorem Run.em(R:Run w m p v G N S r c e)(n:Nat):e n=-1:=Ed (R.B n).piv.e1 (R.B n).piv.ep (R.B n).neg
theorem Run.col(R:Run w m p v G N S r c e)(n:Nat){i:Nat}(a:i<m)(ne:i≠r n):(S n).d*(S (n+1)).t i w=(S n).t i w*(S (n+1)).d+(S n).t i (c n)*(S n).t (r n) w:=by
 have B:=R.B n;rw[B.piv.tj i a ne w oM (by have:=B.hc;lia),(R.L n).ex' a B.hr (by have:=B.hc;lia) oM (by have:=B.hc;lia),B.piv.d',R.em n]
 grind
theorem Run.mono(R:Run w m p v G N S r c e)(n:Nat):(S n).t p w*(S (n+1)).d<=(S (n+1)).t p w*(S n).d:=by
 have B:=R.B n
 have:=R.col n R.hp (R.pr n)
 have a:=í (show 0 <= (S n).t p (c n) by have:=B.up;lia) ((R.F n).g (r n) B.hr B.gr);rw [ĳ ((S (n + 1)).t p w)];lia
theorem Run.monos(R:Run w m p v G N S r c e)(i:Nat):∀k,(S i).t p w*(S (i+k)).d<=(S (i+k)).t p w*(S i).d
 |0=>ń _
 |k+1=>CB (R.L i).pos (R.L (i+k)).pos (R.L (i+k+1)).pos (R.monos i k) (R.mono (i+k))
theorem Run.same(R:Run w m p v G N S r c e){i j:Nat}(h:∀k,k<w->(S i).h k=(S j).h k):(S i).d=(S j).d/\(S i).t p w=(S j).t p w:=by
 have hb:∀k,k<w+1->aL w v (S i).h k=aL w v (S j).h k:=fun k D=>by
  unfold aL;by_cases z:k=w
  ·rw[yI z,yI z]
  ·rw[yH z,yH z,h k oM]
 obtain⟨g,g1,n⟩:=(R.L i).dt;obtain⟨u,l,d⟩:=(R.L j).dt;have A:bC (w+1) (aL w v (S i).h)=bC (w+1) (aL w v (S j).h):=dI fun a b f _=>by rw[hb a f]
 have s:=(R.L i).one n R.hp (j:=w) oM;have q:=(R.L j).one d R.hp (j:=w) oM;rw[R.sp i]at s;rw[R.sp j]at q;have y:bC (w+1) (up (aL w v (S i).h) w (v ((S 0).s p)))=bC (w+1) (up (aL w v (S j).h) w (v ((S 0).s p))):=dI fun a b f _=>by
  by_cases z:a=w
  ·subst z;rw[bY,bY]
  ·rw[bt z,bt z,hb a f]
 rw[n,d]at A;rw[s,q]at y;have C:=(R.L i).pos;have B:=(R.L j).pos;have o:∀x:Int,x*x=1->x=1\/x=-1:=fun x t=>by
  have:x.natAbs*x.natAbs=1:=by rw[<- xA,t];rfl
  have:=ϯ this
  lia
 rcases o g g1 with rfl|rfl<;>rcases o u l with rfl|rfl<;>constructor<;>lia
theorem Run.flat(R:Run w m p v G N S r c e){i j n:Nat}(h:∀k,k<w->(S i).h k=(S j).h k)(o:i<=n)(l:n<j):(S n).t (r n) w=0:=by
 have B:=R.B n;have a:=R.monos i (n-i);have b:=R.monos (n+1) (j-(n+1));rw[show i+(n-i)=n by lia]at a;rw[show n+1+(j-(n+1))=j by lia]at b;obtain⟨f,d⟩:=R.same h;rw[<- f,<- d]at b;have g:=CB (R.L (n+1)).pos (R.L i).pos (R.L n).pos b a;have s:=R.col n R.hp (R.pr n);have q:=(R.F n).g (r n) B.hr B.gr;rcases yV 0 ((S n).t (r n) w) with z|z
 ·have:=ϋ B.up z
  rw[ĳ ((S (n+1)).t p w)]at g;lia
 ·lia
theorem Run.zero(R:Run w m p v G N S r c e){n q:Nat}(f:(S n).t (r n) w=0):Zr w m (S n) q ↔ Zr w m (S (n+1)) q:=by
 have B:=R.B n;have P:=B.piv;have g:w≠c n:=by have:=B.hc;lia
 have d:(S (n+1)).t (r n) w=0:=by rw[P.rj w oM g,f];lia
 have b:∀i,i<m->i≠r n->((S n).t i w=0 ↔ (S (n+1)).t i w=0):=fun i a ne=>by
  have:=R.col n a ne
  rw[f,yP,ê]at this;constructor
  ·intro z;rw[z,yQ]at this;exact Aq (R.L n).pos this
  ·intro z;rw[z,yP]at this
   rcases T?.mp this.symm with y|y
   ·exact y
   ·have:=(R.L (n+1)).pos;lia
 constructor
 ·intro h i a e
  by_cases z:i=r n
  ·rw[z];exact d
  ·rw[P.si i a z]at e;exact(b i a z).mp (h i a e)
 ·intro h i a e
  by_cases z:i=r n
  ·rw[z];exact f
  ·exact(b i a z).mpr (h i a (by rw[P.si i a z];exact e))
theorem Run.zeros(R:Run w m p v G N S r c e){i j q:Nat}(h:∀k,k<w->(S i).h k=(S j).h k){a:Nat}(ha:i<=a):∀k,a+k<=j->(Zr w m (S a) q ↔ Zr w m (S (a+k)) q)
 |0,_=>.rfl
 |k+1,hk=>(R.zeros h ha k oM).trans (R.zero (R.flat h oM oM))
theorem Run.zall(R:Run w m p v G N S r c e){i j q:Nat}(h:∀k,k<w->(S i).h k=(S j).h k){a b:Nat}(g:i<=a)(f:a<=j)(hb:i<=b)(d:b<=j)(z:Zr w m (S a) q):Zr w m (S b) q:=by
 rcases z? a b with l|l
 ·have:=(R.zeros (q:=q) h g (b-a) oM).mp;rw[show a+(b-a)=b by lia]at this;exact this z
 ·have:=(R.zeros (q:=q) h hb (a-b) oM).mpr;rw[show b+(a-b)=a by lia]at this;exact this z
theorem Run.out(R:Run w m p v G N S r c e){n q:Nat}(h:jk w (S n) q)(g:¬jk w (S (n+1)) q):q=(S n).h (c n):=by
 obtain⟨k,a,rfl⟩:=h;by_cases z:k=c n
 ·rw[z]
 ·exact absurd ⟨k,a,(R.B n).piv.hj k a z⟩ g
theorem Run.inn(R:Run w m p v G N S r c e){n q:Nat}(h:¬jk w (S n) q)(g:jk w (S (n+1)) q):q=(S n).s (r n):=by
 obtain⟨k,a,rfl⟩:=g;by_cases z:k=c n
 ·rw[z];exact(R.B n).piv.hc
 ·exact absurd ⟨k,a,((R.B n).piv.hj k a z).symm⟩ h
theorem Run.hz(R:Run w m p v G N S r c e){n q:Nat}(h:jk w (S n) q):Zr w m (S n) q:=fun i b e=>by
 obtain⟨k,a,rfl⟩:=h;exact absurd e.symm ((R.Q n).hs k i a b)
theorem AX{n:Nat}{f:Nat->Int}(h:0<Oj n f):∃k,k<n/\0<f k:=by
 induction n with
 |zero=>exact absurd h (by simp[Oj])
 |succ n a =>
  by_cases z:0<f n
  ·exact⟨n,by lia,z⟩
  ·obtain⟨k,b,e⟩:=a (by simp only[Oj]at h;lia)
   exact⟨k,by lia,e⟩
theorem Run.ends(R:Run w m p v G N S r c e):False:=by
 obtain⟨i,j,hij,eq⟩:=xT ((w+m)^w) (fun n=>jA (w+m) (S n).h w) fun n=>zp (R.Q n).hl
 have I:=vB (R.Q i).hl (R.Q j).hl eq
 let C:Nat->Prop:=fun q=>∃a b,i<=a/\a<=j/\i<=b/\b<=j/\jk w (S a) q/\¬jk w (S b) q
 have f0:C ((S i).h (c i)):=⟨i,i+1,by lia,by lia,by lia,by lia,⟨c i,(R.B i).hc,rfl⟩,fun⟨k,h,e⟩=>(R.Q (i+1)).hs k (r i) h (R.B i).hr (by rw[e,(R.B i).piv.sr])⟩;have bd:∀q,C q->q<w+m:=fun q T=>by obtain⟨a,b,_,_,_,_,⟨k,h,e⟩,_⟩:=T;rw[<- e];exact(R.Q a).hl k h
 obtain⟨q,hq,V⟩:∃q,C q/\∀x,C x->x<=q:=by
  have go:∀k,(∃q,C q/\w+m<=q+k)->∃q,C q/\∀x,C x->x<=q:=fun k=>by
   induction k with
   |zero=>intro⟨q,F,U⟩;have:=bd q F;lia
   |succ k ih =>
    rintro⟨q,F,U⟩;by_cases z:∃x,C x/\q<x
    ·obtain⟨x,x1,x2⟩:=z;exact ih ⟨x,x1,by lia⟩
    ·exact⟨q,F,fun x E=>by
      rcases yU q x with y|y
      ·exact absurd ⟨x,E,y⟩ z
      ·exact y⟩
  exact go (w+m) ⟨_,f0,by lia⟩
 have B:jk w (S i) q ↔ jk w (S j) q:=⟨fun⟨k,h,e⟩=>⟨k,h,by rw[<- I k h];exact e⟩,fun⟨k,h,e⟩=>⟨k,h,by rw[I k h];exact e⟩⟩;obtain⟨a,b,a1,a2,b1,b2,Z,hb⟩:=id hq;obtain⟨f,u1,u2,u3,u4⟩:=xk (fun n=>jk w (S n) q) ⟨a1,a2⟩ ⟨b1,b2⟩ Z hb B;obtain⟨d,v1,v2,v3,K⟩:=xk (fun n=>¬jk w (S n) q) ⟨b1,b2⟩ ⟨a1,a2⟩ hb (fun z=>z Z) (not_congr B);have K:jk w (S (d+1)) q:=ĉ K;have M:=R.out u3 u4;have L:=R.inn v3 K;have J:=R.B f;have s:=R.B d
 obtain⟨g,g1,Y⟩:=(R.L d).dt
 let W:(Nat->Int)->Int:=fun u=>g*bC (w+1) (up (aL w v (S d).h) (c d) u)
 have t:c d<w+1:=by have:=s.hc;lia
 have Ws:∀k,k<m->W (v ((S d).s k))=(S d).t k (c d):=fun k h=>by
  show g*_=_;rw[(R.L d).one Y h t];grind
 have Wb:∀k,k<w+1->W (aL w v (S d).h k)=if k=c d then(S d).d else 0:=fun k h=>by
  show g*_=_;by_cases z:k=c d
  ·rw[yI z,z,gi,Y];grind
  ·rw[yH z,j6 (i:=k) (j:=c d) h t z fun x=>by rw[bt z,bY],yP]
 have P:(S f).d*(S d).t p (c d)=Oj w fun k=>(S f).t p k*W (v ((S f).h k)):=by
  have F:(S f).d*W (v ((S 0).s p))=Oj (w+1) fun k=>(S f).t p k*W (aL w v (S f).h k):=by
   show(S f).d*(g*bC (w+1) (up (aL w v (S d).h) (c d) (v ((S 0).s p))))=Oj (w+1) fun k=>(S f).t p k*(g*bC (w+1) (up (aL w v (S d).h) (c d) (aL w v (S f).h k)))
   have U:(S f).d*bC (w+1) (up (aL w v (S d).h) (c d) (v ((S 0).s p)))=Oj (w+1) fun k=>(S f).t p k*bC (w+1) (up (aL w v (S d).h) (c d) (aL w v (S f).h k)):=by
    rw[<- qk t,<- j5 t];exact jg fun x E=>by rw[<- R.sp f];exact(R.L f).lin p R.hp x E
   rw[sum_congr (g:=fun k=>g*((S f).t p k*bC (w+1) (up (aL w v (S d).h) (c d) (aL w v (S f).h k)))) fun k _=>by grind,sum_mul,<- U];grind
  rw[<- Ws p R.hp,R.sp d,F];show Oj w _+_=_;have hw:W (aL w v (S f).h w)=0:=by
   have:aL w v (S f).h w=aL w v (S d).h w:=by unfold aL;rw[yI rfl,yI rfl]
   rw[this,Wb w oM,yH (by have:=s.hc;lia)]
  show Oj w _+(S f).t p w*W (aL w v (S f).h w)=_;rw[hw,yP,ê];exact sum_congr fun k h=>by rw[show aL w v (S f).h k=v ((S f).h k) by unfold aL;rw[yH oM]]
 obtain⟨k,h,D⟩:=AX (by rw[<- P];exact ϋ (R.L f).pos s.up);have Q:jk w (S f) ((S f).h k):=⟨k,h,rfl⟩;rcases(R.Q d).cov ((S f).h k) ((R.Q f).hl k h) with⟨l,A,o⟩|⟨l,A,o⟩
 ·-- a line at d
  rw[<- o,Ws l A]at D;have O:¬jk w (S d) ((S f).h k):=fun⟨x,E,ex⟩=>(R.Q d).hs x l E A (by rw[ex,o])
  have le:=V _ ⟨f,d,by lia,by lia,by lia,by lia,Q,O⟩;have nt:(S d).t l (c d)≠0:=fun z=>by rw[z,yP]at D;lia
  have H:¬N ((S f).h k):=fun z=>nt (((R.F d).n l A (by rw[o];exact z)).2 (c d) s.hc s.nc)
  by_cases X:(S f).h k=q
  ·have kc:k=c f:=(R.Q f).hi k (c f) h J.hc (by rw[X];exact M)
   have lr:l=r d:=(R.Q d).si l (r d) A s.hr (by rw[o,X];exact L);rw[kc,lr]at D
   have:=Ķ J.up s.neg
   lia
  ·have np:¬0<(S f).t p k:=fun z=>by
    have:=J.least k h H z
    rw[<- M]at this;lia
   have n0:(S f).t p k<0:=by
    rcases yV ((S f).t p k) 0 with z|z
    ·exact z
    ·rw[show(S f).t p k=0 by lia,yQ]at D;lia
   have tl:(S d).t l (c d)<0:=by
    rcases yV ((S d).t l (c d)) 0 with z|z
    ·exact z
    ·have:=ŀ (Ś n0) z;lia
   have gl:G ((S d).s l):=by
    rcases(R.F f).f k h with z|z
    ·rw[o];exact z
    ·exact absurd z H
   have lz:(S d).t l w=0:=R.zall I oM oM oM oM (R.hz Q) l A o;have rz:=R.flat I (n:=d) oM oM;rcases s.ti l A gl tl with z|⟨_,z⟩
   ·rw[lz,rz]at z;lia
   ·rw[<- L,o]at z;lia
 ·-- free at d
  have e1:v ((S f).h k)=aL w v (S d).h l:=by unfold aL;rw[yH oM,o]
  rw[e1,Wb l oM]at D;by_cases z:l=c d
  ·rw[yI z]at D
   have tp:0<(S f).t p k:=by
    rcases yV 0 ((S f).t p k) with y|y
    ·exact y
    ·have:=ŀ y (Ś (R.L d).pos);lia
   have H:¬N ((S f).h k):=by rw[<- o,z];exact s.nc
   have l1:=J.least k h H tp;rw[<- M]at l1;have O:¬jk w (S (d+1)) ((S f).h k):=fun⟨x,E,ex⟩=>(R.Q (d+1)).hs x (r d) E s.hr (by rw[ex,s.piv.sr,<- o,z])
   have l2:=V _ ⟨f,d+1,by lia,by lia,by lia,by lia,Q,O⟩;have:q=(S f).h k:=by lia
   exact(R.Q d).hs l (r d) A s.hr (by rw[o,<- L,this])
  ·rw[yH z,yP]at D;lia
end
structure Sh where
 d:Int
 ls:List (List Int)
 hd:List Nat
 sd:List Nat
 gd:List Nat
 nl:List Nat
 tn:List Nat
noncomputable def gI(xs:List Int)(j:Nat):Int:=xs.getD j 0
noncomputable def row(S:Sh)(i:Nat):List Int:=S.ls.getD i []
def Sh.t(S:Sh)(i j:Nat):Int:=gI (row S i) j
noncomputable def Sh.h(S:Sh)(j:Nat):Nat:=S.hd.getD j 0
noncomputable def Sh.s(S:Sh)(i:Nat):Nat:=S.sd.getD i 0
noncomputable def fdvS(a b:Int):Int:=if 0<b then a/b else a.fdiv b
def chLine(l P:List Int)(c:Nat)(sg d:Int):List Int :=
 if gI l c=0 then(if gI P c=d then l else l.map fun x=>fdvS (x*gI P c) d) else((l.zip P).map fun z=>fdvS (z.1*gI P c-gI l c*z.2) d).set c (sg*gI l c)
noncomputable def sgn(x:Int):Int:=if x<0 then -1 else 1
def pvl(S:Sh)(r c:Nat):List Int:=(row S r).map fun x=>sgn (S.t r c)*x
def Oq(S:Sh)(r c:Nat):Sh:={ S with
 d:=gI (pvl S r c) c
 ls:=(S.ls.map fun l=>chLine l (pvl S r c) c (sgn (S.t r c)) S.d).set r (((pvl S r c).map fun x=>- x).set c (sgn (S.t r c)*S.d))
 hd:=S.hd.set c (S.s r)
 sd:=S.sd.set r (S.h c) }
structure Ot(w m:Nat)(S:Sh):Prop where
 ls:S.ls.length=m
 row:∀l∈S.ls,l.length=w+1
 hd:S.hd.length=w
 sd:S.sd.length=m
theorem pe{f:Int->Int}{xs:List Int}{j:Nat}(h:j<xs.length):gI (xs.map f) j=f (gI xs j):=by
 unfold gI;simp[zD,h]
theorem gI_set_at{xs:List Int}{j:Nat}{x:Int}(h:j<xs.length):gI (xs.set j x) j=x:=by
 unfold gI;simp[zD,h]
theorem gI_set_ne{j k:Nat}{x:Int}(h:k≠j):gI (xs.set j x) k=gI xs k:=by
 unfold gI;simp[zD,yX,h.symm]
theorem Hn{xs ys:List Int}{f:Int×Int->Int}{j:Nat}(h:j<xs.length)(h':j<ys.length):gI ((xs.zip ys).map f) j=f (gI xs j,gI ys j):=by
 unfold gI;have hz:j<(xs.zip ys).length:=by rw[Ă];lia
 simp only[zD,zR,zF h,zF h',zF hz,á,Ϟ,List.getElem_zip]
theorem getD_mem{α:Type}{xs:List α}{i:Nat}{a:α}(h:i<xs.length):xs.getD i a∈xs:=by
 simp[zD,zF h]
theorem Ot.rl{w m:Nat}(P:Ot w m S){i:Nat}(h:i<m):(SX.row S i).length=w+1:=P.row _ (getD_mem (by rw[P.ls];exact h))
theorem vz{a b:Int}(h:0<b):fdvS a b=a/b:=yI h
theorem wL{c:Nat}{sg d:Int}(h:l.length=P.length):(chLine l P c sg d).length=l.length:=by
 unfold chLine;split
 ·split
  ·rfl
  ·simp
 ·simp[h]
theorem tL{r c i:Nat}(a:i<S.ls.length)(b:r<S.ls.length):SX.row (Oq S r c) i=if i=r then((pvl S r c).map fun x=>- x).set c (sgn (S.t r c)*S.d) else chLine (SX.row S i) (pvl S r c) c (sgn (S.t r c)) S.d:=by
 unfold SX.row Oq;simp only[zD,yX,zH];by_cases e:i=r
 ·subst e;simp[a]
 ·rw[yH fun z=>e z.symm,yH e];simp[zF a]
theorem exch_shp{w m:Nat}{r c:Nat}(P:Ot w m S)(d:r<m):Ot w m (Oq S r c):=by
 have a:(pvl S r c).length=w+1:=by unfold pvl;rw[zH];exact P.rl d
 refine⟨by simp[Oq,P.ls],fun l e=>?_,by simp[Oq,P.hd],by simp[Oq,P.sd]⟩;rcases Č e with h|h
 ·obtain⟨f,b,rfl⟩:=yD.mp h
  rw[wL (by rw[P.row _ b,a])];exact P.row _ b
 ·rw[h];simp[a]
theorem Fl(x:Int):sgn x*sgn x=1:=by unfold sgn;split<;>rfl
theorem De{x:Int}(h:x≠0):0<sgn x*x:=by unfold sgn;split<;>lia
theorem kF{w m:Nat}{r c:Nat}(P:Ot w m S)(f:r<m)(q:c<w)(hd:0<S.d)(p:S.t r c≠0):qW w m r c (sgn (S.t r c)) S.d S.t S.h S.s (Oq S r c).d (Oq S r c).t (Oq S r c).h (Oq S r c).s:=by
 have o:=P.rl f;have g:(pvl S r c).length=w+1:=by unfold pvl;rw[zH];exact o
 have e:∀j,j<w+1->gI (pvl S r c) j=sgn (S.t r c)*S.t r j:=fun j a=>by
  unfold pvl;rw[pe (by rw[o];exact a)];rfl
 have b:∀i,i<m->i≠r->∀j,j<w+1->(Oq S r c).t i j=if j=c then sgn (S.t r c)*S.t i c else(S.t i j*(sgn (S.t r c)*S.t r c)-S.t i c*(sgn (S.t r c)*S.t r j))/S.d:=fun i d ne j a=>by
  have l:=P.rl d;show gI (SX.row (Oq S r c) i) j=_;rw[tL (by rw[P.ls];exact d) (by rw[P.ls];exact f),yH ne];have k:gI (SX.row S i) c=S.t i c:=rfl;have h:gI (SX.row S i) j=S.t i j:=rfl;unfold chLine;by_cases z:gI (SX.row S i) c=0
  ·rw[yI z]
   rw[k]at z;rw[z];have s:∀x:Int,x-0*(sgn (S.t r c)*S.t r j)=x:=fun x=>by rw[yQ,W9]
   rw[s];by_cases y:gI (pvl S r c) c=S.d
   ·rw[yI y,h]
    rw[e c oM]at y;rw[y,Int.mul_ediv_cancel _ oM];by_cases x:j=c
    ·rw[yI x,x,z,yP]
    ·rw[yH x]
   ·rw[yH y,pe (by rw[l];exact a),h,vz hd,e c oM]
    by_cases x:j=c
    ·rw[yI x,x,z,yP,yQ,Int.zero_ediv]
    ·rw[yH x]
  ·rw[yH z]
   by_cases x:j=c
   ·rw[yI x,x,gI_set_at (by simp[l,g];lia),k]
   ·rw[yH x,gI_set_ne x,Hn (by rw[l];exact a) (by rw[g];exact a),vz hd,h,k,e c oM,e j a]
 have n:∀j,j<w+1->(Oq S r c).t r j=if j=c then sgn (S.t r c)*S.d else-(sgn (S.t r c)*S.t r j):=fun j a=>by
  show gI (SX.row (Oq S r c) r) j=_;rw[tL (by rw[P.ls];exact f) (by rw[P.ls];exact f),yI rfl];by_cases x:j=c
  ·rw[yI x,x,gI_set_at (by simp[g];lia)]
  ·rw[yH x,gI_set_ne x,pe (by rw[g];exact a),e j a]
 refine⟨Fl _,De p,e c oM,fun i d ne=>by rw[b i d ne c oM,yI rfl],fun i d ne j a x=>by rw[b i d ne j a,yH x],by rw[n c oM,yI rfl],fun j a x=>by rw[n j a,yH x],?_,fun j a x=>?_,?_,fun i d x=>?_⟩
 ·show((S.hd.set c (S.s r)).getD c 0)=_
  simp[zD,P.hd,q]
 ·show((S.hd.set c (S.s r)).getD j 0)=S.hd.getD j 0
  simp[zD,yX,x.symm]
 ·show((S.sd.set r (S.h c)).getD r 0)=_
  simp[zD,P.sd,f]
 ·show((S.sd.set r (S.h c)).getD i 0)=S.sd.getD i 0
  simp[zD,yX,x.symm]
def trn(S:Sh)(p:Nat):Sh:={ S with ls:=S.ls.set p ((row S p).map fun x=>- x),tn:=if S.s p∈S.tn then S.tn else S.tn++[S.s p] }
theorem trn_shp{w m p:Nat}(P:Ot w m S)(a:p<m):Ot w m (trn S p):=by
 refine⟨by simp[trn,P.ls],fun l b=>?_,P.hd,P.sd⟩;rcases Č b with h|h
 ·exact P.row _ h
 ·rw[h,zH];exact P.rl a
theorem trn_t{w m p:Nat}(P:Ot w m S)(c:p<m):(∀j,j<w+1->(trn S p).t p j=- S.t p j)/\∀i,i<m->i≠p->∀j,j<w+1->(trn S p).t i j=S.t i j:=by
 have b:∀i,i<m->row (trn S p) i=if i=p then(row S p).map (fun x=>- x) else row S i:=fun i a=>by
  show(S.ls.set p _).getD i []=_;simp only[zD,yX];by_cases e:i=p
  ·subst e;rw[yI rfl,yI (by rw[P.ls];exact a),yI rfl];rfl
  ·rw[yH fun z=>e z.symm,yH e];unfold row;rw[zD]
 refine⟨fun j d=>?_,fun i a ne j d=>?_⟩
 ·show gI (row (trn S p) p) j=_
  rw[b p c,yI rfl,pe (by rw[P.rl c];exact d)];rfl
 ·show gI (row (trn S p) i) j=_
  rw[b i a,yH ne];rfl
def K6(S:Sh)(w q r i:Nat):Prop:=S.t r w*- S.t i q<S.t i w*- S.t r q\/(S.t r w*- S.t i q=S.t i w*- S.t r q/\S.s r<=S.s i)
def Oo(S:Sh)(w q k:Nat)(o:Option Nat):Prop:=(o=Á->∀i,i<k->S.s i∈S.gd->¬S.t i q<0)/\∀r,o=À r->r<k/\S.s r∈S.gd/\S.t r q<0/\∀i,i<k->S.s i∈S.gd->S.t i q<0->K6 S w q r i
theorem MG{A B C x y z:Int}{a b c:Nat}(p:0<x)(j:0<y)(hz:0<z)(f:A*y<B*x\/(A*y=B*x/\a<=b))(d:B*z<C*y\/(B*z=C*y/\b<=c)):A*z<C*x\/(A*z=C*x/\a<=c):=by
 have i:A*y<=B*x:=by lia
 have h:B*z<=C*y:=by lia
 have o:(A*y)*z<=(B*x)*z:=ß i oM;have n:(B*z)*x<=(C*y)*x:=ß h oM;have t:(B*x)*z=(B*z)*x:=by grind
 have s:(A*y)*z=(A*z)*y:=by grind
 have r:(C*y)*x=(C*x)*y:=by grind
 have g:(A*z)*y<=(C*x)*y:=by lia
 have m:A*z<=C*x:=ĩ g j;by_cases e:A*z=C*x
 ·right
  refine⟨e,?_⟩;have q:(A*z)*y=(C*x)*y:=by rw[e]
  have l:A*y=B*x:=by
   have:(A*y)*z=(B*x)*z:=by(omega)
   exact Ī oM this
  have k:B*z=C*y:=by
   have:(B*z)*x=(C*y)*x:=by lia
   exact Ī oM this
  rcases f with f|f
  ·lia
  ·rcases d with d|d
   ·lia
   ·lia
 ·left;(omega)
section
variable{S:Sh}{w q k r:Nat}{o:Option Nat}
theorem tt_zero:Oo S w q 0 Á:=⟨fun _ i h=>by lia,fun r h=>nomatch h⟩
theorem tt_skip(h:¬(S.t k q<0/\S.s k∈S.gd))(T:Oo S w q k o):Oo S w q (k+1) o:=by
 refine⟨fun e i j g f=>?_,fun r e=>?_⟩
 ·by_cases z:i=k
  ·subst z;exact h ⟨f,g⟩
  ·exact T.1 e i oM g f
 ·obtain⟨a,b,c,d⟩:=T.2 r e
  refine⟨by lia,b,c,fun i j g f=>?_⟩;by_cases z:i=k
  ·subst z;exact absurd ⟨f,g⟩ h
  ·exact d i oM g f
theorem tt_first(h:S.t k q<0)(a:S.s k∈S.gd)(T:Oo S w q k Á):Oo S w q (k+1) (À k):=by
 refine⟨(fun e=>nomatch e),fun r e=>?_⟩;cases e;refine⟨by lia,a,h,fun i c a b=>?_⟩;by_cases z:i=k
 ·subst z;exact .inr ⟨rfl,zP _⟩
 ·exact absurd b (T.1 rfl i oM a)
theorem tt_new(h:S.t k q<0)(l:S.s k∈S.gd)(j:S.t k w*- S.t r q<S.t r w*- S.t k q\/(S.t k w*- S.t r q=S.t r w*- S.t k q/\S.s k<S.s r))(T:Oo S w q k (À r)):Oo S w q (k+1) (À k):=by
 refine⟨(fun e=>nomatch e),fun m e=>?_⟩;cases e;obtain⟨a,b,c,d⟩:=T.2 r rfl;refine⟨by lia,l,h,fun i n g f=>?_⟩;by_cases z:i=k
 ·subst z;exact .inr ⟨rfl,zP _⟩
 ·exact MG (x:=- S.t k q) (y:=- S.t r q) (z:=- S.t i q) oM oM oM (j.imp id fun x=>⟨x.1,by lia⟩) (d i oM g f)
theorem tt_old(h:S.t k q<0)(j:¬(S.t k w*- S.t r q<S.t r w*- S.t k q\/(S.t k w*- S.t r q=S.t r w*- S.t k q/\S.s k<S.s r)))(T:Oo S w q k (À r)):Oo S w q (k+1) (À r):=by
 refine⟨(fun e=>nomatch e),fun l e=>?_⟩;cases e;obtain⟨a,b,c,d⟩:=T.2 r rfl;refine⟨by lia,b,c,fun i m g f=>?_⟩;by_cases z:i=k
 ·subst z
  unfold K6;have n:¬(S.t i w*- S.t r q<S.t r w*- S.t i q):=fun x=>j (.inl x)
  by_cases e:S.t i w*- S.t r q=S.t r w*- S.t i q
  ·exact .inr ⟨e.symm,R9 fun x=>j (.inr ⟨e,x⟩)⟩
  ·left;(omega)
 ·exact d i oM g f
end
noncomputable def vt(v:Nat->Nat->Int)(tn:List Nat):Nat->Nat->Int:=fun q x=>if q∈tn then-v q x else v q x
structure MI(w m:Nat)(v:Nat->Nat->Int)(S:Sh):Prop where
 shp:Ot w m S
 lin:Lin w m (vt v S.tn) S.d S.t S.h S.s
 pm:Pm w m S.h S.s
 fea:Fea w m (·∈S.gd) (·∈S.nl) S.t S.h S.s
def toSt(S:Sh):St:=⟨S.d,S.t,S.h,S.s⟩
def Rais(w:Nat)(S:Sh)(p:Nat)(o:Option Nat):Prop:=(o=Á->∀j,j<w->S.h j∉S.nl->¬0<S.t p j)/\∀q,o=À q->q<w/\S.h q∉S.nl/\0<S.t p q/\∀j,j<w->S.h j∉S.nl->0<S.t p j->S.h q<=S.h j
structure Kept(m p:Nat)(S T:Sh):Prop where
 gd:T.gd=S.gd
 nl:T.nl=S.nl
 tn:T.tn=S.tn
 si:∀i,i<m->i≠p->S.s i∉S.gd->T.s i=S.s i
section
variable{w m p q r:Nat}{v:Nat->Nat->Int}{S T:Sh}
theorem Kept.refl:Kept m p S S:=⟨rfl,rfl,rfl,fun _ _ _ _=>rfl⟩
theorem Kept.trans(a:Kept m p S T)(b:Kept m p T U):Kept m p S U :=
 ⟨b.gd.trans a.gd,b.nl.trans a.nl,b.tn.trans a.tn,fun i c ne h=>by
  have d:=a.si i c ne h;rw[b.si i c ne (by rw[d,a.gd];exact h),d]⟩
theorem MI.step(I:MI w m v S)(n:p<m)(h:S.s p∉S.gd)(l:Rais w S p (À q))(k:Oo S w q m (À r)):MI w m v (Oq S r q)/\Bl w m p (·∈S.gd) (·∈S.nl) r q (sgn (S.t r q)) (toSt S) (toSt (Oq S r q))/\Kept m p S (Oq S r q)/\(Oq S r q).s p=S.s p:=by
 obtain ⟨b,g,s,o⟩:=l.2 q rfl;obtain ⟨r1,r2,f,e⟩:=k.2 r rfl;have a:=kF I.shp r1 b I.lin.pos (show S.t r q ≠ 0 by lia);refine ⟨⟨exch_shp I.shp r1,I.lin.piv a r1 b,I.pm.piv a r1 b,?_⟩,⟨b,g,s,o,r1,r2,f,e,a⟩,⟨rfl,rfl,rfl,fun i c _ d=>?_⟩,?_⟩
 ·exact Fea.tight I.lin I.pm I.fea a r1 b g r2 f fun i c d j=>by
   rcases e i c d j with z|z
   ·lia
   ·exact X! z.1
 ·exact a.si i c fun z=>d (by rw[z];exact r2)
 ·exact a.si p n fun z=>h (by rw[z];exact r2)
theorem MI.low(I:MI w m v S)(c:p<m)(f:S.s p∉S.gd)(h:Rais w S p (À q))(g:Oo S w q m (À r))(n:¬S.t p w*S.t r q<=S.t r w*S.t p q):(Oq S r q).t p w<0:=by
 obtain ⟨i,t,s,o⟩:=h.2 q rfl;obtain ⟨r1,r2,d,l⟩:=g.2 r rfl;have a:=kF I.shp r1 i I.lin.pos (show S.t r q ≠ 0 by lia);have ne:p ≠ r:=fun z=>f (by rw [z];exact r2)
 have b:=I.lin.ex' (e:=sgn (S.t r q)) c r1 (show q < w + 1 by lia) (show w < w + 1 by lia) (show q ≠ w by lia);rw [<- a.tj p c ne w oM oM] at b;have k:sgn (S.t r q)=-1:=by unfold sgn;rw [yI d]
 rw[k]at b;have j:S.t p w*(-1*S.t r q)-S.t p q*(-1*S.t r w)=S.t r w*S.t p q-S.t p w*S.t r q:=by grind
 rw[j]at b;rcases yV ((Oq S r q).t p w) 0 with z|z
 ·exact z
 ·have:=í (Ś I.lin.pos) z;lia
theorem MI.up(I:MI w m v S)(e:p<m)(B:S.s p∉S.gd)(nn:S.s p∉S.nl)(low:S.t p w<0)(A:Rais w S p (À q))(h:Oo S w q m Á\/∃r,Oo S w q m (À r)/\S.t p w*S.t r q<=S.t r w*S.t p q) :
  MI w m v { Oq S p q with gd:=S.gd++[S.s p] }/\MI w m v { Oq S p q with nl:=S.nl++[S.s p] }/\Kept m p S (Oq S p q):=by
 obtain ⟨f,s,l,C⟩:=A.2 q rfl;have d:=kF I.shp e f I.lin.pos (show S.t p q ≠ 0 by lia);have sh:=exch_shp (c:=q) I.shp e;have n:∀ i,i < m->S.s i ∈ S.gd->S.t i q < 0->S.t p w * S.t i q <= S.t i w * S.t p q:=fun i j o k=>by
  rcases h with h|⟨r,h,y⟩
  ·exact absurd k (h.1 rfl i j o)
  ·obtain⟨r1,r2,u,t⟩:=h.2 r rfl
   refine Ek (a:=S.t r w) (b:=S.t r q) u k l y ?_;rcases t i j o k with z|z
   ·lia
   ·exact X! z.1
 refine⟨⟨⟨sh.ls,sh.row,sh.hd,sh.sd⟩,I.lin.piv d e f,I.pm.piv d e f,?_⟩,⟨⟨sh.ls,sh.row,sh.hd,sh.sd⟩,I.lin.piv d e f,I.pm.piv d e f,?_⟩,⟨rfl,rfl,rfl,fun i j ne _=>d.si i j ne⟩⟩
 ·exact Fea.lift (G':=(·∈S.gd++[S.s p])) I.lin I.pm I.fea d e f s l low n (fun x g=>by simp[g]) (fun x g=>.rfl) (.inl (by simp))
 ·exact Fea.lift (N':=(·∈S.nl++[S.s p])) I.lin I.pm I.fea d e f s l low n (fun x g=>.rfl) (fun x g=>by simp[g]) (.inr (by simp))
theorem MI.move(I:MI w m v S)(b:p<m)(d:q<w)(f:S.h q∉S.nl)(h:S.t p w=0)(hz:S.t p q≠0):MI w m v { Oq S p q with nl:=S.nl++[S.s p] }/\Kept m p S (Oq S p q):=by
 have a:=kF I.shp b d I.lin.pos hz;have sh:=exch_shp (c:=q) I.shp b;refine⟨⟨⟨sh.ls,sh.row,sh.hd,sh.sd⟩,I.lin.piv a b d,I.pm.piv a b d,?_⟩,⟨rfl,rfl,rfl,fun i g ne _=>a.si i g ne⟩⟩;exact Fea.move (N':=(·∈S.nl++[S.s p])) I.lin I.pm I.fea a b d f h (fun x e=>.rfl) (fun x e=>by simp[e]) (.inr (by simp))
theorem MI.guard(I:MI w m v S)(a:p<m)(b:0<=S.t p w):MI w m v { S with gd:=S.gd++[S.s p] }:=by
 refine⟨⟨I.shp.ls,I.shp.row,I.shp.hd,I.shp.sd⟩,I.lin,I.pm,?_⟩;have e:(fun x=>x∈S.gd++[S.s p])=fun x=>x∈S.gd\/x=S.s p:=by funext x;simp
 show Fea w m (fun x=>x∈S.gd++[S.s p]) _ _ _ _;rw[e];exact Fea.guard I.fea I.pm a b
theorem MI.nail(I:MI w m v S)(a:p<m)(b:S.t p w=0)(hz:∀j,j<w->S.h j∉S.nl->S.t p j=0):MI w m v { S with nl:=S.nl++[S.s p] }:=by
 refine⟨⟨I.shp.ls,I.shp.row,I.shp.hd,I.shp.sd⟩,I.lin,I.pm,?_⟩;have e:(fun x=>x∈S.nl++[S.s p])=fun x=>x∈S.nl\/x=S.s p:=by funext x;simp
 show Fea w m _ (fun x=>x∈S.nl++[S.s p]) _ _ _;rw[e];exact Fea.nail I.fea I.pm a b hz
theorem MI.turn(I:MI w m v S)(a:p<m)(f:S.s p∉S.gd)(nn:S.s p∉S.nl)(c:S.s p∉S.tn):MI w m v (trn S p):=by
 obtain⟨d,b⟩:=trn_t I.shp a;refine⟨trn_shp I.shp a,?_,I.pm,Fea.turn I.fea I.pm a f nn b⟩;have e:vt v (trn S p).tn=tv (vt v S.tn) (S.s p):=by
  have:(trn S p).tn=S.tn++[S.s p]:=by show(if _ then _ else _)=_;rw[yH c]
  rw[this];funext q x;unfold vt tv;by_cases h:q=S.s p
  ·subst h;simp[c]
  ·simp[h]
 rw[e];exact Lin.turn I.lin I.pm a d b
theorem no_chain(j:p<m)(f:Nat->Sh)(h:∀n,MI w m v (f n)/\(∃r q e,Bl w m p (·∈(f n).gd) (·∈(f n).nl) r q e (toSt (f n)) (toSt (f (n+1))))/\Kept m p (f n) (f (n+1)))(g:(f 0).s p∉(f 0).gd):False:=by
 have a:∀n,Kept m p (f 0) (f n):=fun n=>by
  induction n with
  |zero=>exact Kept.refl
  |succ n i=>exact i.trans (h n).2.2
 have hb:∀n,∃r q e,Bl w m p (·∈(f 0).gd) (·∈(f 0).nl) r q e (toSt (f n)) (toSt (f (n+1))):=fun n=>by
  have:=(h n).2.1;rw[(a n).gd,(a n).nl]at this;exact this
 let r:=fun n=>đ (hb n)
 have b:=fun n=>Ĝ (hb n)
 let q:=fun n=>đ (b n)
 have d:=fun n=>Ĝ (b n)
 let e:=fun n=>đ (d n)
 have k:=fun n=>Ĝ (d n)
 refine Run.ends (w:=w) (m:=m) (p:=p) (v:=vt v (f 0).tn) (G:=(·∈(f 0).gd)) (N:=(·∈(f 0).nl)) (S:=fun n=>toSt (f n)) (r:=r) (c:=q) (e:=e) ⟨fun n=>?_,fun n=>(h n).1.pm,fun n=>?_,fun n=>?_,j,g⟩
 ·have:=(h n).1.lin;rw[(a n).tn]at this;exact this
 ·have:=(h n).1.fea;rw[(a n).gd,(a n).nl]at this;exact this
 ·exact k n
theorem MI.bound(I:MI w m v S){M B:Nat}(e:1<=M)(b:∀q x,x<w+1->(v q x).natAbs<=M)(hb:fct (w+1)*M^(w+1)<B):S.d.natAbs<B/\∀i,i<m->∀j,j<w+1->(S.t i j).natAbs<B:=by
 have:=I.lin.bound e (M:=M) fun q x a=>by
  unfold vt;split
  ·rw[ċ];exact b q x a
  ·exact b q x a
 exact⟨yM this.1 hb,fun i d j c=>yM (this.2 i d j c) hb⟩
end
theorem vD:∀n:Nat,bC n (fun i j=>if j=i then 1 else 0)=1
 |0=>rfl
 |n+1=>by
  show Oj (n+1) _=1;rw[sum_one (k:=0) oM fun k hk ne=>by
   show sg k*(if 0=k then 1 else 0)*_=0;rw[yH fun z=>ne z.symm,yP,yQ]]
  have:bC n (gQ (fun i j=>if j=i then(1:Int) else 0) 0)=1:=by
   rw[dI (B:=fun i j=>if j=i then(1:Int) else 0) fun i j _ _=>?_]
   ·exact vD n
   ·unfold gQ skip;simp
  rw[this];rfl
def v0(w:Nat)(L:List (List Int)):Nat->Nat->Int:=fun q x=>if q<w then(if x=q then 1 else 0) else gI (L.getD (q-w) []) x
noncomputable def openS(w:Nat)(L:List (List Int))(k:Nat):Sh:=⟨1,L,È w,(È L.length).map (w+·),È k,[],[]⟩
theorem open_MI{w nr:Nat}(hL:∀l∈L,l.length=w+1)(hz:∀i,i<nr->gI (L.getD i []) w=0):MI w L.length (v0 w L) (openS w L (w+nr)):=by
 have d:∀j,j<w->(openS w L (w+nr)).h j=j:=fun j a=>by show(È w).getD j 0=j;simp[zD,a]
 have c:∀i,i<L.length->(openS w L (w+nr)).s i=w+i:=fun i b=>by show((È L.length).map (w+·)).getD i 0=w+i;simp[zD,b]
 have n:vt (v0 w L) (openS w L (w+nr)).tn=v0 w L:=by funext q x;unfold vt;exact yH (by show q∉[];simp)
 have hb:∀k,k<w+1->∀x,x<w+1->aL w (v0 w L) (openS w L (w+nr)).h k x=if x=k then 1 else 0:=fun k f x g=>by
  unfold aL;by_cases e:k=w
  ·rw[yI e,e];rfl
  ·rw[yH e,d k oM];unfold v0;rw[yI oM]
 refine⟨⟨rfl,hL,by simp[openS],by simp[openS]⟩,?_,?_,?_⟩
 ·rw[n]
  refine⟨Int.one_pos,fun i b x g=>?_,1,rfl,?_⟩
  ·rw[c i b,sum_one (k:=x) g fun k f ne=>by rw[hb k f x g,yH fun z=>ne z.symm,yP],hb x g x g,yI rfl]
   unfold v0;rw[yH oM,show w+i-w=i by lia];show 1*gI (L.getD i []) x=gI (L.getD i []) x*1;lia
  ·rw[dI (B:=fun i j=>if j=i then 1 else 0) fun i j b a=>hb i b j a,vD];rfl
 ·refine⟨fun j a=>by rw[d j a];lia,fun i b=>by rw[c i b];lia,fun j k a f e=>by rw[d j a,d k f]at e;exact e,fun j k a f e=>by rw[c j a,c k f]at e;lia,fun j i a b e=>by rw[d j a,c i b]at e;lia,fun q p=>?_⟩
  by_cases h:q<w
  ·exact .inr ⟨q,h,d q h⟩
  ·exact .inl ⟨q-w,by lia,by rw[c _ oM];lia⟩
 ·refine⟨fun i b m=>?_,fun i b o=>?_,fun j a=>.inl ?_⟩
  ·rw[c i b]at m
   have:w+i<w+nr:=Ü.mp m;show 0<=gI (L.getD i []) w;rw[hz i oM];decide
  ·exact absurd (show _ ∈ ([]:List Nat) from o) (by simp)
  ·rw[d j a];exact Ü.mpr oM
theorem open_s{w k i:Nat}(a:i<L.length):(openS w L k).s i=w+i:=by show((È L.length).map (w+·)).getD i 0=w+i;simp[zD,a]
def Qt(w:Nat)(v:Nat->Nat->Int)(Y:Nat->Int)(e:Int)(q:Nat):Int:=(Oj w fun x=>v q x*Y x)+v q w*e
section
variable{w m p:Nat}{v:Nat->Nat->Int}{S:Sh}
theorem Qt_vt{Y:Nat->Int}{e:Int}{q:Nat}:Qt w (vt v S.tn) Y e q=if q∈S.tn then-Qt w v Y e q else Qt w v Y e q:=by
 unfold Qt vt;by_cases h:q∈S.tn
 ·simp only[yI h]
  rw[sum_congr (g:=fun x=>(-1)*(v q x*Y x)) fun x _=>by grind,sum_mul];grind
 ·simp only[yH h]
theorem MI.line(I:MI w m v S)(c:p<m)(Y:Nat->Int)(e:Int):S.d*Qt w (vt v S.tn) Y e (S.s p)=(Oj w fun j=>S.t p j*Qt w (vt v S.tn) Y e (S.h j))+S.t p w*e:=by
 have h:=I.lin.lin p c;have hb:∀x,x<w+1->S.d*vt v S.tn (S.s p) x=(Oj w fun k=>S.t p k*vt v S.tn (S.h k) x)+S.t p w*(if x=w then 1 else 0):=fun x b=>by
  rw[h x b];show Oj w _+S.t p w*aL w (vt v S.tn) S.h w x=_;have a:aL w (vt v S.tn) S.h w x=if x=w then 1 else 0:=by unfold aL;rw[yI rfl];rfl
  rw[a];congr 1;exact sum_congr fun k i=>by unfold aL;rw[yH oM]
 unfold Qt;rw[ϳ,<- sum_mul];have a:(Oj w fun x=>S.d*(vt v S.tn (S.s p) x*Y x))=Oj w fun j=>S.t p j*Oj w fun x=>vt v S.tn (S.h j) x*Y x:=by
  rw[sum_congr (g:=fun x=>Oj w fun k=>S.t p k*(vt v S.tn (S.h k) x*Y x)) fun x b=>by
   rw[<- Ŏ,hb x oM,yH oM,yP,ê,ĳ,<- sum_mul];exact sum_congr fun k _=>by grind,sum_swap]
  exact sum_congr fun j _=>by rw[sum_mul]
 have d:S.d*(vt v S.tn (S.s p) w*e)=(Oj w fun j=>S.t p j*(vt v S.tn (S.h j) w*e))+S.t p w*e:=by
  rw[<- Ŏ,hb w oM,yI rfl,ϲ,Y?];congr 1;rw[ĳ,<- sum_mul];exact sum_congr fun k _=>by grind
 rw[a,d,sum_congr (f:=fun j=>S.t p j*((Oj w fun x=>vt v S.tn (S.h j) x*Y x)+vt v S.tn (S.h j) w*e)) (g:=fun j=>S.t p j*(Oj w fun x=>vt v S.tn (S.h j) x*Y x)+S.t p j*(vt v S.tn (S.h j) w*e)) fun j _=>by rw[ϳ],sum_add];lia
theorem MI.vert(I:MI w m v S)(l:∀q,q<w->∀x,x<w+1->v q x=if x=q then 1 else 0)(g:∀q∈S.tn,w<=q){c:Nat}(p:c<w+1){X:Nat->Int}(s:∀i,i<m->S.s i<w->X (S.s i)=S.t i c)(r:∀j,j<w->S.h j<w->X (S.h j)=if j=c then S.d else 0) :
  (∀i,i<m->Qt w v X (if c=w then S.d else 0) (S.s i)=if S.s i∈S.tn then-S.t i c else S.t i c)/\∀j,j<w->Qt w v X (if c=w then S.d else 0) (S.h j)=if j=c then(if S.h j∈S.tn then-S.d else S.d) else 0:=by
 have d:∀q,q<w->∀x,x<w+1->vt v S.tn q x=if x=q then 1 else 0:=fun q f x k=>by
  unfold vt;rw[yH fun z=>by have:=g q z;lia];exact l q f x k
 obtain⟨a,b⟩:=I.lin.func d p s r fun q f=>I.pm.cov q oM
 refine⟨fun i o=>?_,fun j n=>?_⟩
 ·have e:Qt w (vt v S.tn) X (if c=w then S.d else 0) (S.s i)=S.t i c:=a i o
  rw[Qt_vt]at e;split at e
  ·rename_i h;rw[yI h];lia
  ·rename_i h;rw[yH h];exact e
 ·have e:Qt w (vt v S.tn) X (if c=w then S.d else 0) (S.h j)=if j=c then S.d else 0:=b j n
  rw[Qt_vt]at e;by_cases h:j=c
  ·rw[yI h]at e ⊢
   split at e
   ·rename_i h;rw[yI h];lia
   ·rename_i h;rw[yH h];exact e
  ·rw[yH h]at e ⊢
   split at e
   ·lia
   ·exact e
end
end SX
namespace R
open PySem PySem.Spec L2
open DD (pyOk)
section
variable{ks:List Fn}{sl:Sl}{st:aa}
@[simp] theorem Oc:ev ks .n sl st=À (.non,st):=rfl
@[simp] theorem Oe{x:Bool}:ev ks (.b x) sl st=À (.bl x,st):=rfl
@[simp] theorem oq{x:Int}:ev ks (.i x) sl st=À (.int x,st):=rfl
@[simp] theorem xb{x:Ì}:ev ks (.s x) sl st=À (.str x,st):=rfl
@[simp] theorem Od{x:Ì}{c:AV}:ev ks (.g x c) sl st=À (c,st):=rfl
@[simp] theorem gO{k:Nat}:ev ks (.v k) sl st=aV k sl st:=rfl
@[simp] theorem fb{v:AV}:aV 0 (À v::sl) st=À (v,st):=rfl
@[simp] theorem fE{k:Nat}{x:Option AV}:aV (k+1) (x::sl) st=aV k sl st:=rfl
@[simp] theorem Im{o:ğ}{a b:Ex}:ev ks (.bin o a b) sl st=(ev ks a sl st).bind fun p=>(ev ks b sl p.2).bind fun q=>(aZ o q.2 p.1 q.1).map fun z=>(z,q.2):=rfl
@[simp] theorem Nm{o:Ϛ}{a b:Ex}:ev ks (.cmp o a b) sl st=(ev ks a sl st).bind fun p=>(ev ks b sl p.2).bind fun q=>(oh o q.2 p.1 q.1).map fun z=>(z,q.2):=rfl
@[simp] theorem NC{o:UnaryOp}{a:Ex}:ev ks (.un o a) sl st=(ev ks a sl st).bind fun p=>(ot o p.2 p.1).map fun z=>(z,p.2):=rfl
def GE(x:AV)(st:aa):Option (AV×aa):=match x with
 |.bl b=>À (.bl !b,st)
 |_=>Á
def HY(x:AV)(st:aa)(r:Option (AV×aa)):Option (AV×aa):=match x with
 |.bl b=>if b=Â then r else À (.bl Ã,st)
 |_=>Á
def Gr(x:AV)(st:aa)(r:Option (AV×aa)):Option (AV×aa):=match x with
 |.bl b=>if b=Â then À (.bl Â,st) else r
 |_=>Á
@[simp] theorem Nt{b:Bool}:GE (.bl b) st=À (.bl !b,st):=rfl
@[simp] theorem NB{b:Bool}{r:Option (AV×aa)}:HY (.bl b) st r=if b=Â then r else À (.bl Ã,st):=rfl
@[simp] theorem Nr{b:Bool}{r:Option (AV×aa)}:Gr (.bl b) st r=if b=Â then À (.bl Â,st) else r:=rfl
@[simp] theorem NE{a:Ex}:ev ks (.no a) sl st=(ev ks a sl st).bind fun p=>GE p.1 p.2:=by
 show CJ (ev ks a) sl st=_;unfold CJ GE;congr 1
@[simp] theorem NL{a b:Ex}:ev ks (.an a b) sl st=(ev ks a sl st).bind fun p=>HY p.1 p.2 (ev ks b sl p.2):=by
 show CM (ev ks a) (ev ks b) sl st=_;unfold CM HY;congr 1;funext p;cases p.1<;>first|rfl|skip
 rename_i x;cases x<;>rfl
@[simp] theorem ND{a b:Ex}:ev ks (.or a b) sl st=(ev ks a sl st).bind fun p=>Gr p.1 p.2 (ev ks b sl p.2):=by
 show CH (ev ks a) (ev ks b) sl st=_;unfold CH Gr;congr 1;funext p;cases p.1<;>first|rfl|skip
 rename_i x;cases x<;>rfl
@[simp] theorem BZ{t:Tx}{a b:Ex}:ev ks (.ife t a b) sl st=(tv ks t sl st).bind fun p=>if p.1=Â then ev ks a sl p.2 else ev ks b sl p.2:=rfl
@[simp] theorem pR{a b:Ex}:ev ks (.ix a b) sl st=(ev ks a sl st).bind fun p=>(ev ks b sl p.2).bind fun q=>(aY q.2 p.1 q.1).map fun z=>(z,q.2):=rfl
@[simp] theorem km{p:Bool}{j:Nat}{es:Exs}:ev ks (.ca p j es) sl st=(eS ks es sl st).bind fun q=>d4 p (kf ks j) q.1 q.2:=rfl
@[simp] theorem rq{f:Fn}:d4 Â f=pm f:=rfl
@[simp] theorem rC{f:Fn}:d4 Ã f=f:=rfl
@[simp] theorem lA{f:Fn}:kf (f::ks) 0=f:=rfl
@[simp] theorem ly{f:Fn}{j:Nat}:kf (f::ks) (j+1)=kf ks j:=rfl
@[simp] theorem dg:eS ks .nil sl st=À ([],st):=rfl
@[simp] theorem bJ{e:Ex}{es:Exs}:eS ks (.cons e es) sl st=(ev ks e sl st).bind fun p=>(eS ks es sl p.2).bind fun q=>À (p.1::q.1,q.2):=rfl
@[simp] theorem Lm{es:Exs}:ev ks (.tu es) sl st=(eS ks es sl st).bind fun p=>if ä p.1.length 1000=Â then À (.tup p.1,p.2) else Á:=rfl
@[simp] theorem c7{x:Nx}:ev ks (.nw Ã x) sl st=(jy ks x sl st).bind fun p=>if rfs p.1=Â then À (.fz p.1,p.2) else Á:=rfl
@[simp] theorem As{x:Nx}:ev ks (.nw Â x) sl st=(jy ks x sl st).bind fun p=>À (.ref p.2.length,p.2++[.lst p.1]):=rfl
@[simp] theorem NI{c m:Ì}{j:Nat}{o:Ex}{es:Exs}:ev ks (.me c m j o es) sl st=(ev ks o sl st).bind fun p=>(jK p.2 c p.1).bind fun fs=>if(fs.lookup m).isNone=Â then(eS ks es sl p.2).bind fun q=>kf ks j (p.1::q.1) q.2 else Á:=rfl
@[simp] theorem NG{c:Ì}{j:Nat}{es:Exs}:ev ks (.ne c j es) sl st=Ae c (kf ks j) (eS ks es) sl st:=rfl
@[simp] theorem NJ{c f:Ì}{o:Ex}:ev ks (.fd c f o) sl st=(ev ks o sl st).bind fun p=>(jK p.2 c p.1).bind fun fs=>(fs.lookup f).map fun v=>(v,p.2):=rfl
@[simp] theorem pT{b:Bi}{es:Exs}:ev ks (.bi b es) sl st=(eS ks es sl st).bind fun p=>l8 b p.1 p.2:=rfl
@[simp] theorem M9:l8 .len=bo dB:=rfl
@[simp] theorem uc:l8 .sum=bo nV:=rfl
@[simp] theorem Nc:l8 .abs=bo ui:=rfl
@[simp] theorem M7:l8 .min=bo p8:=rfl
@[simp] theorem M8:l8 .max=bo wq:=rfl
@[simp] theorem Na:l8 .int=bo tB:=rfl
@[simp] theorem ud:l8 .all=bo uh:=rfl
@[simp] theorem Nb:l8 .any=bo ug:=rfl
@[simp] theorem NH{m:Mi}{o:Ex}{es:Exs}:ev ks (.mt m o es) sl st=nJ (sO m) (sN m) (ev ks o) (eS ks es) sl st:=rfl
@[simp] theorem NK:ev ks .dn sl st=À (.ref st.length,st++[.dK []]):=rfl
@[simp] theorem Nl{a:Ex}:ev ks (.mnd a) sl st=(ev ks a sl st).bind fun p=>bo oJ [p.1] p.2:=by
 show(fV (ev ks a) fF sl st).bind _=_;unfold fV fF;cases ev ks a sl st<;>rfl
@[simp] theorem Nk{a k:Ex}:ev ks (.mnk a k) sl st=rR (ev ks a) (ev ks k) sl st:=rfl
@[simp] theorem GK{es:Exs}:jy ks (.li es) sl st=(eS ks es sl st).bind fun p=>if cO p.1.length=Â then À p else Á:=rfl
@[simp] theorem oF{a b:Ex}:jy ks (.cat a b) sl st=p7 (ev ks a) (ev ks b) sl st:=rfl
@[simp] theorem Jh{es:Exs}{b:Ex}:jy ks (.rep es b) sl st=wm (eS ks es) (ev ks b) sl st:=rfl
@[simp] theorem NZ{a:Ex}{l h:Ox}:jy ks (.sl a l h) sl st=mS (ev ks a) (tM ks l) (tM ks h) sl st:=rfl
@[simp] theorem Nw{a:Ex}:jy ks (.lof a) sl st=p6 (ev ks a) sl st:=rfl
@[simp] theorem Nv{a:Ex}:jy ks (.lr1 a) sl st=wo (ev ks a) sl st:=rfl
@[simp] theorem Nu{a b:Ex}:jy ks (.lr2 a b) sl st=wn (ev ks a) (ev ks b) sl st:=rfl
@[simp] theorem GL{k:Nat}{it:Ix}{t:Tg}{c:Cx'}{e:Ex}:jy ks (.lc k it t c e) sl st=(eB ks it sl st).bind fun p=>if cO p.1.Om.length=Â then im p.1.gd (cg ks t) (jz ks c) (ev ks e) (sl++Æ k Á) p.1.Om p.2 else Á:=rfl
@[simp] theorem NY:tM ks .no sl st=À (Á,st):=rfl
@[simp] theorem NX{e:Ex}:tM ks (.so e) sl st=mQ (ev ks e) sl st:=rfl
@[simp] theorem N6:jz ks .no sl st=À (Â,st):=rfl
@[simp] theorem N5{t:Tx}:jz ks (.so t) sl st=tv ks t sl st:=rfl
@[simp] theorem Cn{a:Ex}:eB ks (.e a) sl st=(ev ks a sl st).bind fun p=>(oU p.2 p.1).map fun iv=>(iv,p.2):=rfl
@[simp] theorem N1{a:Ex}:eB ks (.r1 a) sl st=yz (ev ks a) sl st:=rfl
@[simp] theorem N0{a b:Ex}:eB ks (.r2 a b) sl st=Co (ev ks a) (ev ks b) sl st:=rfl
@[simp] theorem L4{a b:Ex}:eB ks (.zi a b) sl st=iZ (ev ks a) (ev ks b) sl st:=rfl
@[simp] theorem L5{a:Ex}:eB ks (.en a) sl st=(ev ks a sl st).bind fun p=>(i6 p.2 p.1).map fun iv=>(⟨fq 0 iv.Om,iv.gd⟩,p.2):=rfl
@[simp] theorem N2{a b:Ex}:eB ks (.es a b) sl st=wH (ev ks a) (ev ks b) sl st:=rfl
@[simp] theorem BD{k:Nat}{x:AV}:cg ks (.nm k) x sl st=À (sl.set k (À x),st):=rfl
@[simp] theorem N3{n:Nat}{a:Tgs}{x:AV}:cg ks (.tu n a) x sl st=zd n (jM ks a) x sl st:=rfl
@[simp] theorem N4{a b:Ex}{x:AV}:cg ks (.su a b) x sl st=(ev ks a sl st).bind fun p=>(ev ks b sl p.2).bind fun q=>(kn q.2 p.1 q.1 x).map fun st'=>(sl,st'):=rfl
@[simp] theorem MX{xs:List AV}:jM ks .nil xs sl st=Hl xs sl st:=rfl
@[simp] theorem Mr{t:Tg}{a:Tgs}{xs:List AV}:jM ks (.cons t a) xs sl st=Ho (cg ks t) (jM ks a) xs sl st:=rfl
@[simp] theorem NM{e:Ex}:tv ks (.va e) sl st=(ev ks e sl st).bind fun p=>(fx p.2 p.1).map fun b=>(b,p.2):=rfl
@[simp] theorem ms{o:Ϛ}{a b:Ex}:tv ks (.cmp o a b) sl st=(ev ks a sl st).bind fun p=>(ev ks b sl p.2).bind fun q=>(cb o q.2 p.1 q.1).map fun b=>(b,q.2):=rfl
@[simp] theorem NO{t:Tx}:tv ks (.no t) sl st=(tv ks t sl st).bind fun p=>À (!p.1,p.2):=rfl
@[simp] theorem NP{t u:Tx}:tv ks (.an t u) sl st=(tv ks t sl st).bind fun p=>if p.1=Â then tv ks u sl p.2 else À (Ã,p.2):=rfl
@[simp] theorem NN{t u:Tx}:tv ks (.or t u) sl st=(tv ks t sl st).bind fun p=>if p.1=Â then À (Â,p.2) else tv ks u sl p.2:=rfl
@[simp] theorem Nj:ai ks .nil sl st=À (.nx sl st):=rfl
def qE(o:Out)(k:Sl->aa->Option Out):Option Out:=match o with
 |.nx sl st=>k sl st
 |o=>À o
@[simp] theorem yd{k:Sl->aa->Option Out}:qE (.nx sl st) k=k sl st:=rfl
@[simp] theorem yc{v:AV}{k:Sl->aa->Option Out}:qE (.rt v st) k=À (.rt v st):=rfl
@[simp] theorem MT{k:Sl->aa->Option Out}:qE (.bk sl st) k=À (.bk sl st):=rfl
@[simp] theorem MS{k:Sl->aa->Option Out}:qE (.ct sl st) k=À (.ct sl st):=rfl
@[simp] theorem lj{s:Sx}{a:Ou}:ai ks (.cons s a) sl st=(cW ks s sl st).bind fun o=>qE o (ai ks a):=by
 show(cW ks s sl st).bind _=(cW ks s sl st).bind _;congr 1
@[simp] theorem AG{e:Ex}:cW ks (.ex e) sl st=(ev ks e sl st).bind fun p=>À (.nx sl p.2):=rfl
@[simp] theorem d7{e:Ex}{t:Tg}:cW ks (.as e t) sl st=(ev ks e sl st).bind fun p=>(cg ks t p.1 sl p.2).bind fun q=>À (.nx q.1 q.2):=rfl
@[simp] theorem IB{o:ğ}{a b e:Ex}:cW ks (.aus o a b e) sl st=vZ o (ev ks a) (ev ks b) (ev ks e) sl st:=rfl
@[simp] theorem NQ{c f:Ì}{o e:Ex}:cW ks (.fl c f o e) sl st=xF c f (ev ks o) (ev ks e) sl st:=rfl
@[simp] theorem kt{e:Ex}:cW ks (.rt e) sl st=(ev ks e sl st).bind fun p=>À (.rt p.1 p.2):=rfl
@[simp] theorem eJ{t:Tx}{a b:Ou}:cW ks (.iff t a b) sl st=(tv ks t sl st).bind fun p=>if p.1=Â then ai ks a sl p.2 else ai ks b sl p.2:=rfl
@[simp] theorem nW{it:Ix}{t:Tg}{b:Ou}:cW ks (.fo it t b) sl st=(eB ks it sl st).bind fun p=>dM p.1.gd (cg ks t) (ai ks b) p.1.Om sl p.2:=rfl
@[simp] theorem No{a:Ex}{t:Tg}{b:Ou}:cW ks (.fd a t b) sl st=vY (ev ks a) (cg ks t) (ai ks b) sl st:=rfl
@[simp] theorem LI{t:Tx}{b:Ou}:cW ks (.wh t b) sl st=mP (tv ks t) (ai ks b) sl st:=rfl
@[simp] theorem MM:cW ks .dead sl st=Á:=rfl
def ay(o:Out):Option (AV×aa):=match o with
 |.rt v st=>À (v,st)
 |.nx _ st=>À (.non,st)
 |_=>Á
@[simp] theorem MZ{v:AV}:ay (.rt v st)=À (v,st):=rfl
@[simp] theorem M3:ay (.nx sl st)=À (.non,st):=rfl
theorem aD{n:Nat}{b:Ou}{args:List AV}:R.run n (ai ks b) args st=(ai ks b (args.map À++Æ (n-args.length) Á) st).bind ay:=by
 unfold R.run;congr 1
end
@[simp] theorem Np:rfs []=Â:=rfl
@[simp] theorem Nq{x:AV}{xs:List AV}:rfs (x::xs)=(rf x&&rfs xs):=by simp only[rfs]
@[simp] theorem NU{i:Int}:rf (.int i)=Â:=rfl
@[simp] theorem NW{i:Bool}:rf (.bl i)=Â:=rfl
@[simp] theorem NS{i:Ì}:rf (.str i)=Â:=rfl
@[simp] theorem NT:rf .non=Â:=rfl
@[simp] theorem NV{xs:List AV}:rf (.fz xs)=Â:=rfl
@[simp] theorem NR{xs:List AV}:rf (.tup xs)=rfs xs:=by simp only[rf]
section
variable{st:aa}{a b:Int}
theorem Cs:j4 st (.int a) (.int b)=À (decide (a=b)):=by
 show(if pyOk (.int a) (.int b)=Â then À (Þ (.int a) (.int b)) else Á)=_;rw[yI (by simp[pyOk,Ĕ,i?])];congr 1
@[simp] theorem Ob:cb .Eq st (.int a) (.int b)=À (decide (a=b)):=Cs
@[simp] theorem Mg:cb .NotEq st (.int a) (.int b)=À (!decide (a=b)):=by show((j4 st (.int a) (.int b)).map fun x=>!x)=_;rw[Cs];rfl
@[simp] theorem N7:cb .Lt st (.int a) (.int b)=À (decide (a<b)):=rfl
@[simp] theorem N8:cb .LtE st (.int a) (.int b)=À (decide (a<=b)):=rfl
@[simp] theorem N9:cb .Gt st (.int a) (.int b)=À (decide (b<a)):=rfl
@[simp] theorem Oa:cb .GtE st (.int a) (.int b)=À (decide (b<=a)):=rfl
@[simp] theorem Of{o:Ϛ}{x y:AV}:oh o st x y=(cb o st x y).map .bl:=rfl
@[simp] theorem Ny:cb .Is st .non .non=À Â:=rfl
@[simp] theorem Nz:cb .Is st (.int a) .non=À Ã:=rfl
@[simp] theorem M5:cb .IsNot st .non .non=À Ã:=rfl
@[simp] theorem M6:cb .IsNot st (.int a) .non=À Â:=rfl
@[simp] theorem NA:aZ .Add st (.int a) (.int b)=À (.int (a+b)):=rfl
@[simp] theorem J7:aZ .Sub st (.int a) (.int b)=À (.int (a-b)):=rfl
theorem ba(h:cV a b=Â):aZ .Mult st (.int a) (.int b)=À (.int (a*b)):=by
 show(if cV a b=Â then _ else _:Option Int).map _=_;rw[yI h];rfl
theorem mK(h:eG b=Â):aZ .FloorDiv st (.int a) (.int b)=À (.int (vA a b)):=by
 show(if eG b=Â then _ else _:Option Int).map _=_;rw[yI h];rfl
theorem iO(h:b≠0):aZ .Mod st (.int a) (.int b)=À (.int (qL a b)):=by
 show(if b=0 then _ else _:Option Int).map _=_;rw[yH h];rfl
@[simp] theorem Nn:ot .USub st (.int a)=À (.int (-a)):=rfl
theorem cq{x y:Int}(d:x.natAbs<2^9000)(c:y.natAbs<2^9000):cV x y=Â:=by
 have a:∀z:Nat,z<2^9000->ä z.log2 1000000=Â:=fun z hz=>by
  by_cases b:z=0
  ·subst b;rfl
  ·exact yL (z5 (yZ ((Ĉ b).mpr hz)) oM)
 unfold cV;rw[a _ d,a _ c,U1,V6]
theorem zq{y:Int}(b:y≠0)(a:y.natAbs<2^9000):eG y=Â:=by
 unfold eG;have:ä y.natAbs.log2 8999=Â:=yL (by have:=(Ĉ (n:=y.natAbs) oM).mpr a;lia);rw[this];simp[b]
end
open SX (Sh gI)
noncomputable def iL(l:List Int):List AV:=l.map .int
abbrev Is(x:Int):Option AV:=À (.int x)
abbrev Rs(x:Nat):Option AV:=À (.ref x)
abbrev Zs(x:List AV):Option AV:=À (.fz x)
abbrev Ls(x:List Int):Option AV:=À (.fz (iL x))
noncomputable def nL(l:List Nat):List AV:=l.map fun q=>.int ((q:Nat):Int)
def kL(l:List Nat):List (aT×AV):=l.map fun q=>(.inl ((q:Nat):Int),.bl Â)
def dh(d:Int)(a b c g n u:Nat):List (Ì×AV):=[("below",.int d),("lines",.ref a),("heads",.ref b),("sides",.ref c),("guarded",.ref g),("nailed",.ref n),("turned",.ref u)]
section
variable{d:Int}{a b c g n u:Nat}
@[simp] theorem LY:(dh d a b c g n u).lookup ("below":Ì)=À (AV.int d):=rfl
@[simp] theorem LV:(dh d a b c g n u).lookup ("lines":Ì)=À (AV.ref a):=rfl
@[simp] theorem LX:(dh d a b c g n u).lookup ("heads":Ì)=À (AV.ref b):=rfl
@[simp] theorem LU:(dh d a b c g n u).lookup ("sides":Ì)=À (AV.ref c):=rfl
@[simp] theorem Jo:(dh d a b c g n u).lookup ("guarded":Ì)=À (AV.ref g):=rfl
@[simp] theorem KC:(dh d a b c g n u).lookup ("nailed":Ì)=À (AV.ref n):=rfl
@[simp] theorem KB:(dh d a b c g n u).lookup ("turned":Ì)=À (AV.ref u):=rfl
@[simp] theorem Bq:(dh d a b c g n u).lookup ("loose_columns":Ì)=Á:=rfl
@[simp] theorem Ao:(dh d a b c g n u).lookup ("raising_column":Ì)=Á:=rfl
@[simp] theorem An:(dh d a b c g n u).lookup ("tightest_place":Ì)=Á:=rfl
@[simp] theorem EN:(dh d a b c g n u).lookup ("is_tighter":Ì)=Á:=rfl
@[simp] theorem Ej:(dh d a b c g n u).lookup ("is_up_first":Ì)=Á:=rfl
@[simp] theorem Ii:(dh d a b c g n u).lookup ("exchange":Ì)=Á:=rfl
@[simp] theorem Mq:(dh d a b c g n u).lookup ("lift":Ì)=Á:=rfl
@[simp] theorem Ij:(dh d a b c g n u).lookup ("drive_up":Ì)=Á:=rfl
@[simp] theorem Bp:(dh d a b c g n u).lookup ("moving_column":Ì)=Á:=rfl
@[simp] theorem LS:(dh d a b c g n u).lookup ("guard":Ì)=Á:=rfl
@[simp] theorem Mp:(dh d a b c g n u).lookup ("nail":Ì)=Á:=rfl
@[simp] theorem G3:(dh d a b c g n u).lookup ("turn_line":Ì)=Á:=rfl
end
def RowR(st:aa)(x:AV)(l:List Int):Prop:=x=.fz (iL l)\/∃r,x=.ref r/\(st[r]?=À (.lst (iL l))\/st[r]?=À (.al (.fz (iL l))))
structure Rep(st:aa)(k a b c g n u:Nat)(rows:List AV)(S:Sh):Prop where
 hk:st[k]?=À (.ins "Sheet" (dh S.d a b c g n u))
 ha:st[a]?=À (.lst rows)
 hb:st[b]?=À (.lst (nL S.hd))
 hc:st[c]?=À (.lst (nL S.sd))
 hg:st[g]?=À (.dK (kL S.gd))
 hn:st[n]?=À (.dK (kL S.nl))
 hu:st[u]?=À (.dK (kL S.tn))
 len:rows.length=S.ls.length
 row:∀i x,rows[i]?=À x->RowR st x (SX.row S i)
 ab:a≠b
 ac:a≠c
 bc:b≠c
 gn:g≠n
 gu:g≠u
 nu:n≠u
 ra:∀(i r:Nat),rows[i]?=À (.ref r)->r≠a/\r≠b/\r≠c
section
variable{st:aa}{x:AV}{xs:List AV}{l:List Int}{i:Int}
theorem RowR.ls(h:RowR st x l):bI st x=À (iL l):=by
 rcases h with rfl|⟨r,rfl,h|h⟩
 ·rfl
 ·unfold bI dr;simp only[h]
 ·unfold bI dr;simp only[h]
theorem cU(h:bI st x=À xs):aY st x (.int i)=gN xs i:=by
 have hd:oe st x (.int i)=Á:=by
  unfold oe;have b:jB st x=Á:=by
   cases x<;>first|rfl|skip
   rename_i k;unfold bI dr at h;unfold jB;dsimp only at h ⊢;cases e:st[k]? with
   |none=>rfl
   | some c=>cases c <;> first | rfl | (rw [e] at h;simp only [e] at h;cases h)
  have a:ny st x=Á:=by
   cases x<;>first|rfl|skip
   rename_i k;unfold bI dr at h;unfold ny;dsimp only at h ⊢;cases e:st[k]? with
   |none=>rfl
   | some c=>cases c <;> first | rfl | (rw [e] at h;simp only [e] at h;cases h)
  rw[b,a]
 unfold aY;rw[hd];dsimp only;rw[h]
theorem cG{α:Type}{xs:List α}{j:Nat}:gN xs ((j:Nat):Int)=xs[j]?:=by
 unfold gN mW;rw[yI oM];by_cases h:j<xs.length
 ·rw[yI oM];simp
 ·rw[yH oM,Ø oM];rfl
theorem qu{α:Type}{xs:List α}{n:Nat}(h:xs.length=n+1):gN xs (-1)=xs[n]?:=by
 unfold gN mW;rw[yH oM,yI oM,h,Å];congr 1;lia
theorem cj{j:Nat}(h:j<l.length):(iL l)[j]?=À (.int (gI l j)):=by
 unfold iL gI;simp[h,zD]
theorem gV{l:List Nat}{j:Nat}(h:j<l.length):(nL l)[j]?=À (.int ((l.getD j 0:Nat):Int)):=by
 unfold nL;simp[h,zD]
theorem bH{k:Nat}(h:st[k]?=À (.lst xs)):bI st (.ref k)=À xs:=by unfold bI dr;simp only[h]
theorem vm{g:Nat}{l:List Nat}{q:Nat}(h:st[g]?=À (.dK (kL l))):tE st (.int q) (.ref g)=À (decide (q∈l)):=by
 unfold tE oe jB;simp only[h,kC,á];congr 1;unfold nT kL;rw[ł,List.find?_map,ł,ϴ,List.isSome_find?,Ĭ];simp[Int.ofNat_inj]
end
noncomputable def lq(a:List AV)(i:Nat):AV:=a.getD i .non
section
variable{st:aa}{k a b c g n u w m:Nat}{rows:List AV}{S:Sh}{i j:Nat}
theorem Rep.ins(R:Rep st k a b c g n u rows S):jK st "Sheet" (.ref k)=À (dh S.d a b c g n u):=by
 unfold jK;simp only[R.hk];rfl
theorem Rep.rx(R:Rep st k a b c g n u rows S)(P:SX.Ot w m S)(d:i<m):rows[i]?=À (lq rows i):=by
 have:i<rows.length:=by rw[R.len,P.ls];exact d
 unfold lq;rw[zD,zF this];rfl
theorem Rep.line(R:Rep st k a b c g n u rows S)(P:SX.Ot w m S)(d:i<m):aY st (.ref a) (.int (i:Int))=À (lq rows i):=by
 rw[cU (bH R.ha),cG];exact R.rx P d
theorem Rep.rowl(R:Rep st k a b c g n u rows S)(P:SX.Ot w m S)(d:i<m):bI st (lq rows i)=À (iL (SX.row S i)):=(R.row i _ (R.rx P d)).ls
theorem Rep.cell(R:Rep st k a b c g n u rows S)(P:SX.Ot w m S)(d:i<m)(e:j<w+1):aY st (lq rows i) (.int (j:Int))=À (.int (S.t i j)):=by
 rw[cU (R.rowl P d),cG,cj (by rw[P.rl d];exact e)];rfl
theorem Rep.last(R:Rep st k a b c g n u rows S)(P:SX.Ot w m S)(d:i<m):aY st (lq rows i) (.int (-1))=À (.int (S.t i w)):=by
 rw[cU (R.rowl P d),qu (n:=w) (by unfold iL;rw[zH];exact P.rl d),cj (by rw[P.rl d];lia)];rfl
theorem Rep.side(R:Rep st k a b c g n u rows S)(P:SX.Ot w m S)(d:i<m):aY st (.ref c) (.int (i:Int))=À (.int (S.s i:Int)):=by
 rw[cU (bH R.hc),cG,gV (by rw[P.sd];exact d)];rfl
theorem Rep.head(R:Rep st k a b c g n u rows S)(P:SX.Ot w m S)(d:j<w):aY st (.ref b) (.int (j:Int))=À (.int (S.h j:Int)):=by
 rw[cU (bH R.hb),cG,gV (by rw[P.hd];exact d)];rfl
theorem Rep.ing(R:Rep st k a b c g n u rows S){q:Nat}:cb .In st (.int q) (.ref g)=À (decide (q∈S.gd)):=vm R.hg
theorem Rep.nin(R:Rep st k a b c g n u rows S){q:Nat}:cb .NotIn st (.int q) (.ref n)=À (!decide (q∈S.nl)):=by show(tE st _ _).map _=_;rw[vm R.hn];rfl
end
theorem gY{α:Type}{em:α->AV}{B:α->Bool}{F:α->AV}(a:cw gd st=Â):∀{xs:List α},(∀x∈xs,∃sl1,g (em x) sl st=À (sl1,st)/\t sl1 st=À (B x,st)/\(B x=Â->f sl1 st=À (F x,st)))->im gd g t f sl (xs.map em) st=À ((xs.filter B).map F,st)
 |[],_=>by show(if cw gd st=Â then _ else _)=_;rw[yI a];rfl
 |x::xs,h=>by
  obtain⟨sl1,h1,h2,h3⟩:=h x z7;have b:=gY a (xs:=xs) fun y c=>h y (zQ _ c)
  show(if cw gd st=Â then(g (em x) sl st).bind _ else Á)=_;rw[yI a,h1,Å];dsimp only;rw[h2,Å];cases hB:B x with
  |true=>rw[yI rfl];dsimp only;rw[h3 hB,Å];dsimp only;rw[b,Q3,hB];rfl
  |false=>rw[yH (by simp)];dsimp only;rw[b,Q3,hB];rfl
theorem eD:∀{xs:List AV},(∀x∈xs,rf x=Â)->rfs xs=Â
 |[],_=>rfl
 |x::xs,h=>by simp only[rfs,zC];exact⟨h x z7,eD fun y hy=>h y (zQ _ hy)⟩
theorem AL:rfs (iL l)=Â:=eD fun x a=>by obtain⟨i,_,rfl⟩:=yD.mp a;rfl
theorem nX:rfs (nL l)=Â:=eD fun x a=>by obtain⟨i,_,rfl⟩:=yD.mp a;rfl
mutual
theorem Ab:∀(x:AV),c8 x x=Â
 |.non=>rfl
 |.bl _=>by simp[c8]
 |.int _=>by simp[c8]
 |.str _=>by simp[c8]
 |.ref _=>by simp[c8]
 |.tup a=>by simp only[c8];exact jD a
 |.fz a=>by simp only[c8];exact jD a
theorem jD:∀(xs:List AV),gF xs xs=Â
 |[]=>rfl
 |x::xs=>by simp only[gF,Ab x,jD xs,Ģ]
end
theorem fg{k:Nat}(h:st[k]?=À (.lst xs)):cw [(k,.lst xs)] st=Â:=by
 simp only[cw,h,wQ,jD,Ģ]
theorem JO:fq 0 (nL l)=l.zipIdx.map fun z=>.tup [.int ((z.2:Nat):Int),.int ((z.1:Nat):Int)]:=by
 unfold fq nL;rw[List.zipIdx_map,Ö];rfl
@[simp] theorem MH:jl st (.tup xs)=À xs:=rfl
@[simp] theorem MV:oU st (.fz xs)=À ⟨xs,[]⟩:=rfl
@[simp] theorem yw:i6 st (.fz xs)=À ⟨xs,[]⟩:=rfl
@[simp] theorem eN:bI st (.fz xs)=À xs:=rfl
theorem jU{k:Nat}(h:st[k]?=À (.lst xs)):i6 st (.ref k)=À ⟨xs,[(k,.lst xs)]⟩:=by
 unfold i6 dr;simp only[h]
theorem jV{k:Nat}(h:st[k]?=À (.lst xs)):oU st (.ref k)=À ⟨xs,[(k,.lst xs)]⟩:=by
 have:jl st (.ref k)=Á:=by unfold jl dr;simp only[h]
 unfold oU;dsimp only;rw[this];exact jU h
@[simp] theorem gw:cw [] st=Â:=rfl
theorem vk:mC (nL l)=À (l.map fun q=>((q:Nat):Int)):=by
 unfold mC nL;exact eP (f:=fun x=>match x with|.int i=>À i|_=>Á) (i:=fun q:Nat=>AV.int q) (g:=fun q=>((q:Nat):Int)) (fun _=>rfl) l
noncomputable def oN:Option Nat->AV
 |none=>.non
 |some c=>.int (c:Int)
noncomputable def b8(S:Sh):List Nat:=(S.hd.zipIdx.filter fun z=>!decide (z.1∈S.nl)).map (·.2)
theorem jp{w m:Nat}(P:SX.Ot w m S){j:Nat}:j∈b8 S ↔ j<w/\S.h j∉S.nl:=by
 unfold b8;simp only[yD,Ŀ,Prod.exists];constructor
 ·rintro⟨q,i,⟨c,b⟩,rfl⟩
  have d:=List.mem_zipIdx' c;have a:i<S.hd.length:=d.1;refine⟨by rw[<- P.hd];exact a,?_⟩;have:S.h i=q:=by
   show S.hd.getD i 0=q;rw[zD,zF a,d.2];rfl
  rw[this];simpa using b
 ·rintro⟨c,b⟩
  have a:j<S.hd.length:=by rw[P.hd];exact c
  refine⟨S.h j,j,⟨?_,by simpa using b⟩,rfl⟩;have e:S.h j=S.hd[j]:=by
   show S.hd.getD j 0=_;rw[zD,zF a];rfl
  rw[e,List.mem_zipIdx_iff_getElem?];exact zF a
theorem ce{n:Nat}(h:n<=1000):cO n=Â:=yL oM
theorem HW{key:Nat->Nat}:∃o:Option Nat,qw ((l.map fun q=>((q:Nat):Int)).zip (l.map fun q=>((key q:Nat):Int)))=oN o/\(o=Á->l=[])/\∀c,o=À c->c∈l/\∀j∈l,key c<=key j:=by
 cases l with
 |nil=>exact⟨Á,rfl,fun _=>rfl,fun c h=>nomatch h⟩
 |cons x l =>
  have hz:((x::l).map fun q=>((q:Nat):Int)).zip ((x::l).map fun q=>((key q:Nat):Int))=(x::l).map fun q=>(((q:Nat):Int),((key q:Nat):Int)):=by
   generalize x::l=b
   induction b with
   |nil=>rfl
   |cons y b g=>simp only[zO,Ċ,g]
  rw[hz];obtain⟨i,p,a,d⟩:=mN (l.map fun q=>(((q:Nat):Int),((key q:Nat):Int))) (x:Int) (key x:Int);rw[<- zO (f:=fun q:Nat=>(((q:Nat):Int),((key q:Nat):Int)))]at a d;rw[zR]at a;obtain⟨c,n,e⟩:=zE.mp a;injection e with e1 e2;refine⟨À c,?_,(fun h=>nomatch h),fun r h=>?_⟩
  ·show AV.int _=AV.int _
   rw[e1]
  ·cases h
   refine⟨zW n,fun j m=>?_⟩;obtain⟨t,k⟩:=z9 m
   have:=(d t ((j:Int),(key j:Int)) (by rw[zR,k];rfl)).1
   rw[<- e2]at this;have:((key c:Nat):Int)<=((key j:Nat):Int):=this;lia
theorem GW{l:List Nat}{key:EF}{sl:Sl}{st:aa}{f:Nat->Nat}(h:∀q∈l,key (sl++[Is ((q:Nat):Int)]) st=À (.int ((f q:Nat):Int),st)):bn (yp key sl st) (l.map fun q=>((q:Nat):Int))=À (l.map fun q=>((f q:Nat):Int)):=by
 induction l with
 |nil=>rfl
 |cons x l a =>
  have c:yp key sl st (x:Int)=À ((f x:Nat):Int):=by unfold yp;rw[h x z7]
  simp only[zO,bn,c,a fun q b=>h q (zQ _ b),Å,á]
def fk(gd:Gd)(g:GF)(s:SF)(xs:List AV):Out->Option Out
 |.nx sl st=>dM gd g s xs sl st
 |.ct sl st=>dM gd g s xs sl st
 |.bk sl st=>À (.nx sl st)
 |.rt v st=>À (.rt v st)
theorem zk(a:cw gd st=Â)(c:g x sl st=À p)(b:s p.1 p.2=À o):dM gd g s (x::xs) sl st=fk gd g s xs o:=by
 show(if cw gd st=Â then(g x sl st).bind _ else Á)=_;rw[yI a,c,Å,b,Å];cases o<;>rfl
theorem qj{gd:Gd}{g:GF}{s:SF}{I:Nat->Sl->aa->Prop}{Post:AV->aa->Prop}{xs:List AV}(d:∀i sl st,i<=xs.length->I i sl st->cw gd st=Â)
  (h:∀i x sl st,xs[i]?=À x->I i sl st->∃p o,g x sl st=À p/\s p.1 p.2=À o/\((∃sl2 st2,o=.nx sl2 st2/\I (i+1) sl2 st2)\/∃v st2,o=.rt v st2/\Post v st2)) :
  ∀{sl:Sl}{st:aa},I 0 sl st->(∃sl' st',dM gd g s xs sl st=À (.nx sl' st')/\I xs.length sl' st')\/∃v st',dM gd g s xs sl st=À (.rt v st')/\Post v st':=by
 have q:∀(r:Nat)(j:Nat){sl:Sl}{st:aa},j+r=xs.length->I j sl st->(∃sl' st',dM gd g s (xs.drop j) sl st=À (.nx sl' st')/\I xs.length sl' st')\/∃v st',dM gd g s (xs.drop j) sl st=À (.rt v st')/\Post v st':=fun r=>by
  induction r with
  |zero =>
   intro j sl st k a;left;rw[n? oM];refine⟨sl,st,?_,by rw[show xs.length=j by lia];exact a⟩;show(if cw gd st=Â then _ else _)=_;rw[yI (d j sl st oM a)]
  |succ r f =>
   intro j sl st k a;have c:j<xs.length:=by lia
   obtain⟨p,o,m,l,b⟩:=h j xs[j] sl st (zF c) a;rw[û c];have e:=zk (xs:=xs.drop (j+1)) (d j sl st oM a) m l;rw[e];rcases b with⟨sl2,st2,rfl,b⟩|⟨v,st2,rfl,b⟩
   ·exact f (j+1) oM b
   ·exact .inr ⟨v,st2,rfl,b⟩
 intro sl st n
 have:=q xs.length 0 oM n
 rw[Ņ]at this;exact this
theorem eE{gd:Gd}{g:GF}{s:SF}{I:Nat->Sl->aa->Prop}{xs:List AV}(e:∀i sl st,i<=xs.length->I i sl st->cw gd st=Â)
  (h:∀i x sl st,xs[i]?=À x->I i sl st->∃p sl2 st2,g x sl st=À p/\s p.1 p.2=À (.nx sl2 st2)/\I (i+1) sl2 st2) {sl:Sl}{st:aa} (j:I 0 sl st):∃sl' st',dM gd g s xs sl st=À (.nx sl' st')/\I xs.length sl' st':=by
 rcases qj (Post:=fun _ _=>False) e (fun i x sl st d f=>by
  obtain⟨p,sl2,st2,a,b,c⟩:=h i x sl st d f;exact⟨p,_,a,b,.inl ⟨sl2,st2,rfl,c⟩⟩) j with h|⟨_,_,_,h⟩
 ·exact h
 ·exact h.elim
theorem pw{i:Nat}(h:(fq 0 xs)[i]?=À y):∃x,xs[i]?=À x/\y=.tup [.int ((i:Nat):Int),x]:=by
 unfold fq at h;rw[zR]at h;obtain⟨z,a,rfl⟩:=zE.mp h;rw[ź]at a;obtain⟨x,b,rfl⟩:=zE.mp a;exact⟨x,b,by simp⟩
theorem mF:(fq 0 xs).length=xs.length:=by unfold fq;simp
section
variable{st:aa}{k a b c g n u w m:Nat}{rows:List AV}{S:Sh}{i j q:Nat}{x:AV}{l:List Int}{e e':Oh}
theorem aA(h:q≠j):(st.set q e')[j]?=st[j]?:=by rw[yX];simp[h]
theorem gD(h:st[q]?=À e):(st.set q e')[q]?=À e':=by
 rw[yX];simp[(zB.mp h).1]
theorem ga(h:st[j]?=À e):(st++ys)[j]?=À e:=by
 rw[zN (zB.mp h).1];exact h
theorem gl:(st++[e])[st.length]?=À e:=by simp
theorem bA(a:st[i]?=À e)(b:st[j]?=À e')(h:e≠e'):i≠j:=fun z=>h (by rw[z,b]at a;injection a with a;exact a.symm)
theorem RowR.set(h:RowR st x l)(b:∀r,x=.ref r->q≠r):RowR (st.set q e') x l:=by
 rcases h with h|⟨r,a,c⟩
 ·exact .inl h
 ·exact .inr ⟨r,a,by rw[aA (b r a)];exact c⟩
theorem RowR.app(h:RowR st x l):RowR (st++ys) x l:=by
 rcases h with h|⟨r,b,a|a⟩
 ·exact .inl h
 ·exact .inr ⟨r,b,.inl (ga a)⟩
 ·exact .inr ⟨r,b,.inr (ga a)⟩
theorem Rep.app(R:Rep st k a b c g n u rows S):Rep (st++ys) k a b c g n u rows S :=
 ⟨ga R.hk,ga R.ha,ga R.hb,ga R.hc,ga R.hg,ga R.hn,ga R.hu,R.len,fun i x h=>(R.row i x h).app,R.ab,R.ac,R.bc,R.gn,R.gu,R.nu,R.ra⟩
theorem Rep.rowk(R:Rep st k a b c g n u rows S){r:Nat}(h:rows[i]?=À (.ref r)):r≠k/\r≠g/\r≠n/\r≠u:=by
 have e:=R.row i _ h;rcases e with h|⟨j,f,d⟩
 ·cases h
 ·cases f
  rcases d with d|d
  ·exact⟨bA d R.hk (fun z=>nomatch z),bA d R.hg (fun z=>nomatch z),bA d R.hn (fun z=>nomatch z),bA d R.hu (fun z=>nomatch z)⟩
  ·exact⟨bA d R.hk (fun z=>nomatch z),bA d R.hg (fun z=>nomatch z),bA d R.hn (fun z=>nomatch z),bA d R.hu (fun z=>nomatch z)⟩
theorem Rep.fields{d:Nat}(R:Rep st k a b c g n u rows S)(l:st[d]?=À (.lst rows'))(hb:S'.hd=S.hd)(t:S'.sd=S.sd)(s:S'.gd=S.gd)(q:S'.nl=S.nl)(p:S'.tn=S.tn)(j:rows'.length=S'.ls.length)
  (row:∀i x,rows'[i]?=À x->RowR st x (SX.row S' i)) (y:d≠b) (w:d≠c) (m:∀(i r:Nat),rows'[i]?=À (.ref r)->r≠d/\r≠b/\r≠c):Rep (st.set k (.ins "Sheet" (dh S'.d d b c g n u))) k d b c g n u rows' S':=by
 have o:k≠d:=bA R.hk l (fun z=>nomatch z);refine⟨gD R.hk,by rw[aA o];exact l,?_,?_,?_,?_,?_,j,fun i x h=>(row i x h).set fun r e=>?_,y,w,R.bc,R.gn,R.gu,R.nu,m⟩
 ·rw[aA (bA R.hk R.hb (fun z=>nomatch z)),hb];exact R.hb
 ·rw[aA (bA R.hk R.hc (fun z=>nomatch z)),t];exact R.hc
 ·rw[aA (bA R.hk R.hg (fun z=>nomatch z)),s];exact R.hg
 ·rw[aA (bA R.hk R.hn (fun z=>nomatch z)),q];exact R.hn
 ·rw[aA (bA R.hk R.hu (fun z=>nomatch z)),p];exact R.hu
 ·subst e
  rcases row i _ h with z|⟨A,v,f⟩
  ·cases z
  ·cases v
   rcases f with f|f
   ·exact bA R.hk f (fun z=>nomatch z)
   ·exact bA R.hk f (fun z=>nomatch z)
theorem Rep.heads(R:Rep st k a b c g n u rows S):Rep (st.set b (.lst (nL hd'))) k a b c g n u rows { S with hd:=hd' } :=
 ⟨by rw[aA (bA R.hb R.hk (fun z=>nomatch z))];exact R.hk,by rw[aA (ç R.ab)];exact R.ha,gD R.hb,by rw[aA R.bc];exact R.hc,by rw[aA (bA R.hb R.hg (fun z=>nomatch z))];exact R.hg,by rw[aA (bA R.hb R.hn (fun z=>nomatch z))];exact R.hn,
  by rw[aA (bA R.hb R.hu (fun z=>nomatch z))];exact R.hu,R.len,fun i x h=>(R.row i x h).set fun r e=>ç (R.ra i r (by rw[<- e];exact h)).2.1,R.ab,R.ac,R.bc,R.gn,R.gu,R.nu,R.ra⟩
theorem Rep.sides(R:Rep st k a b c g n u rows S):Rep (st.set c (.lst (nL sd'))) k a b c g n u rows { S with sd:=sd' } :=
 ⟨by rw[aA (bA R.hc R.hk (fun z=>nomatch z))];exact R.hk,by rw[aA (ç R.ac)];exact R.ha,by rw[aA (ç R.bc)];exact R.hb,gD R.hc,by rw[aA (bA R.hc R.hg (fun z=>nomatch z))];exact R.hg,by rw[aA (bA R.hc R.hn (fun z=>nomatch z))];exact R.hn,
  by rw[aA (bA R.hc R.hu (fun z=>nomatch z))];exact R.hu,R.len,fun i x h=>(R.row i x h).set fun r e=>ç (R.ra i r (by rw[<- e];exact h)).2.2,R.ab,R.ac,R.bc,R.gn,R.gu,R.nu,R.ra⟩
theorem Rep.guard(R:Rep st k a b c g n u rows S):Rep (st.set g (.dK (kL gd'))) k a b c g n u rows { S with gd:=gd' } :=
 ⟨by rw[aA (bA R.hg R.hk (fun z=>nomatch z))];exact R.hk,by rw[aA (bA R.hg R.ha (fun z=>nomatch z))];exact R.ha,by rw[aA (bA R.hg R.hb (fun z=>nomatch z))];exact R.hb,by rw[aA (bA R.hg R.hc (fun z=>nomatch z))];exact R.hc,gD R.hg,by rw[aA R.gn];exact R.hn,by rw[aA R.gu];exact R.hu,
  R.len,fun i x h=>(R.row i x h).set fun r e=>ç (R.rowk (i:=i) (by rw[<- e];exact h)).2.1,R.ab,R.ac,R.bc,R.gn,R.gu,R.nu,R.ra⟩
theorem Rep.nail(R:Rep st k a b c g n u rows S):Rep (st.set n (.dK (kL nl'))) k a b c g n u rows { S with nl:=nl' } :=
 ⟨by rw[aA (bA R.hn R.hk (fun z=>nomatch z))];exact R.hk,by rw[aA (bA R.hn R.ha (fun z=>nomatch z))];exact R.ha,by rw[aA (bA R.hn R.hb (fun z=>nomatch z))];exact R.hb,by rw[aA (bA R.hn R.hc (fun z=>nomatch z))];exact R.hc,by rw[aA (ç R.gn)];exact R.hg,gD R.hn,by rw[aA R.nu];exact R.hu,
  R.len,fun i x h=>(R.row i x h).set fun r e=>ç (R.rowk (i:=i) (by rw[<- e];exact h)).2.2.1,R.ab,R.ac,R.bc,R.gn,R.gu,R.nu,R.ra⟩
theorem Rep.turned(R:Rep st k a b c g n u rows S):Rep (st.set u (.dK (kL tn'))) k a b c g n u rows { S with tn:=tn' } :=
 ⟨by rw[aA (bA R.hu R.hk (fun z=>nomatch z))];exact R.hk,by rw[aA (bA R.hu R.ha (fun z=>nomatch z))];exact R.ha,by rw[aA (bA R.hu R.hb (fun z=>nomatch z))];exact R.hb,by rw[aA (bA R.hu R.hc (fun z=>nomatch z))];exact R.hc,by rw[aA (ç R.gu)];exact R.hg,by rw[aA (ç R.nu)];exact R.hn,gD R.hu,
  R.len,fun i x h=>(R.row i x h).set fun r e=>ç (R.rowk (i:=i) (by rw[<- e];exact h)).2.2.2,R.ab,R.ac,R.bc,R.gn,R.gu,R.nu,R.ra⟩
theorem u5{p i:Nat}:SX.row { S with ls:=S.ls.set p l } i=if i=p/\p<S.ls.length then l else SX.row S i:=by
 unfold SX.row;simp only[zD,yX];by_cases h:i=p
 ·subst h
  by_cases a:i<S.ls.length
  ·simp[a]
  ·simp[a]
 ·rw[yH fun z=>h z.symm,yH fun z=>h z.1]
theorem Rep.rowset{p:Nat}(R:Rep st k a b c g n u rows S)(o:RowR st x l)(m:∀r,x=.ref r->r≠a/\r≠b/\r≠c):Rep (st.set a (.lst (rows.set p x))) k a b c g n u (rows.set p x) { S with ls:=S.ls.set p l }:=by
 have j:∀i y,(rows.set p x)[i]?=À y->(i=p/\p<rows.length/\y=x)\/(i≠p/\rows[i]?=À y):=fun i y h=>by
  rw[yX]at h;by_cases e:p=i
  ·rw[yI e]at h
   split at h
   ·cases h;exact .inl ⟨e.symm,by assumption,rfl⟩
   ·cases h
  ·rw[yH e]at h;exact .inr ⟨fun z=>e z.symm,h⟩
 refine⟨by rw[aA (bA R.ha R.hk (fun z=>nomatch z))];exact R.hk,gD R.ha,by rw[aA R.ab];exact R.hb,by rw[aA R.ac];exact R.hc,by rw[aA (bA R.ha R.hg (fun z=>nomatch z))];exact R.hg,by rw[aA (bA R.ha R.hn (fun z=>nomatch z))];exact R.hn,
  by rw[aA (bA R.ha R.hu (fun z=>nomatch z))];exact R.hu,by simp[R.len],fun i y h=>?_,R.ab,R.ac,R.bc,R.gn,R.gu,R.nu,fun i r h=>?_⟩
 ·rw[u5]
  rcases j i y h with⟨f,d,rfl⟩|⟨f,d⟩
  ·rw[yI ⟨f,by rw[<- R.len];exact d⟩];exact o.set fun r e=>ç (m r e).1
  ·rw[yH fun z=>f z.1];exact(R.row i y d).set fun r e=>ç (R.ra i r (by rw[<- e];exact d)).1
 ·rcases j i _ h with⟨f,d,q⟩|⟨f,d⟩
  ·exact m r q.symm
  ·exact R.ra i r d
theorem Rep.cellset{p r:Nat}(R:Rep st k a b c g n u rows S)(d:rows[p]?=À (.ref r))(A:∀i,i≠p->rows[i]?≠À (.ref r)):Rep (st.set r (.lst (iL l))) k a b c g n u rows { S with ls:=S.ls.set p l }:=by
 obtain⟨x,w,v⟩:=R.ra p r d;obtain⟨t,s,q,o⟩:=R.rowk d;have j:p<S.ls.length:=by rw[<- R.len];exact(zB.mp d).1
 refine⟨by rw[aA t];exact R.hk,by rw[aA x];exact R.ha,by rw[aA w];exact R.hb,by rw[aA v];exact R.hc,by rw[aA s];exact R.hg,by rw[aA q];exact R.hn,by rw[aA o];exact R.hu,by simp[R.len],fun i y h=>?_,R.ab,R.ac,R.bc,R.gn,R.gu,R.nu,R.ra⟩;rw[u5];by_cases e:i=p
 ·subst e
  rw[yI ⟨rfl,j⟩];rw[d]at h;cases h;rcases R.row i _ d with z|⟨m,B,f⟩
  ·cases z
  ·cases B
   rcases f with f|f
   ·exact .inr ⟨r,rfl,.inl (gD f)⟩
   ·exact .inr ⟨r,rfl,.inl (gD f)⟩
 ·rw[yH fun z=>e z.1]
  exact(R.row i y h).set fun m C z=>A i e (by rw[z,<- C];exact h)
theorem Rep.freeze{r:Nat}(R:Rep st k a b c g n u rows S)(o:rows[i]?=À (.ref r))(f:st[r]?=À (.lst (iL l))):Rep (st.set r (.al (.fz (iL l)))) k a b c g n u rows S:=by
 obtain⟨A,x,w⟩:=R.ra i r o;obtain⟨v,t,s,q⟩:=R.rowk o;refine⟨by rw[aA v];exact R.hk,by rw[aA A];exact R.ha,by rw[aA x];exact R.hb,by rw[aA w];exact R.hc,by rw[aA t];exact R.hg,by rw[aA s];exact R.hn,by rw[aA q];exact R.hu,R.len,fun j y h=>?_,R.ab,R.ac,R.bc,R.gn,R.gu,R.nu,R.ra⟩;rcases R.row j y h with z|⟨m,p,d⟩
 ·exact .inl z
 ·by_cases e:r=m
  ·subst e
   refine .inr ⟨r,p,.inr ?_⟩;rw[gD f];rcases d with d|d
   ·rw[f]at d;injection d with d;injection d with d;rw[d]
   ·rw[f]at d;cases d
  ·exact .inr ⟨m,p,by rw[aA e];exact d⟩
theorem RowR.it(h:RowR st x l):∃gd,oU st x=À ⟨iL l,gd⟩/\cw gd st=Â:=by
 rcases h with rfl|⟨r,rfl,h|h⟩
 ·exact⟨[],rfl,rfl⟩
 ·exact⟨_,jV h,fg h⟩
 ·refine⟨[],?_,rfl⟩
  have:jl st (.ref r)=Á:=by unfold jl dr;simp only[h]
  unfold oU;dsimp only;rw[this];unfold i6 dr;simp only[h]
end
theorem ym{gd:Gd}{g:GF}{t:TF}{f:EF}{sl:Sl}{J:Nat->aa->Prop}{F:Nat->AV}{xs:List AV}(d:∀i st,i<=xs.length->J i st->cw gd st=Â)
  (h:∀i x st,xs[i]?=À x->J i st->∃sl1 st1,g x sl st=À (sl1,st)/\t sl1 st=À (Â,st)/\f sl1 st=À (F i,st1)/\J (i+1) st1) {st:aa} (q:J 0 st):∃st',im gd g t f sl xs st=À ((È xs.length).map F,st')/\J xs.length st':=by
 have s:∀(r j:Nat){st:aa},j+r=xs.length->J j st->∃st',im gd g t f sl (xs.drop j) st=À ((ĥ j r).map F,st')/\J xs.length st':=fun r=>by
  induction r with
  |zero =>
   intro j st l a;rw[n? oM];refine⟨st,?_,by rw[show xs.length=j by lia];exact a⟩;show(if cw gd st=Â then _ else _)=_;rw[yI (d j st oM a)];rfl
  |succ r k =>
   intro j st l a;have c:j<xs.length:=by lia
   obtain⟨sl1,st1,p,o,n,m⟩:=h j xs[j] st (zF c) a;obtain⟨st',e,b⟩:=k (j+1) oM m;refine⟨st',?_,b⟩;rw[û c];show(if cw gd st=Â then(g xs[j] sl st).bind _ else Á)=_;rw[yI (d j st oM a),p,Å];dsimp only;rw[o,Å,yI rfl];dsimp only;rw[n,Å];dsimp only;rw[e];rfl
 obtain⟨st',e,a⟩:=s xs.length 0 oM q;rw[Ņ]at e;rw[<- List.range_eq_range']at e;exact⟨st',e,a⟩
@[simp] theorem gC:(iL l).length=l.length:=by unfold iL;simp
@[simp] theorem sK:(nL l).length=l.length:=by unfold nL;simp
@[simp] theorem bv:rfs (iL l)=Â:=AL
theorem fJ{q:Nat}{x:Int}:(iL l).set q (.int x)=iL (l.set q x):=by unfold iL;rw[V']
theorem yg{q x:Nat}:(nL l).set q (.int (x:Int))=nL (l.set q x):=by unfold nL;rw[V']
theorem yn{α:Type}{em:α->AV}{F:α->Int}{xs:List α}(e:cw gd st=Â)(h:∀x∈xs,∃sl1,g (em x) sl st=À (sl1,st)/\t sl1 st=À (Â,st)/\f sl1 st=À (.int (F x),st)):im gd g t f sl (xs.map em) st=À (iL (xs.map F),st):=by
 rw[gY (B:=fun _=>Â) (F:=fun x=>.int (F x)) e fun x d=>by obtain⟨s,a,b,c⟩:=h x d;exact⟨s,a,b,fun _=>c⟩];unfold iL;rw[Ö,Ð.mpr fun _ _=>rfl];rfl
theorem kB(a:cw gd st=Â)(h:∀x∈l,∃sl1,g (.int x) sl st=À (sl1,st)/\t sl1 st=À (Â,st)/\f sl1 st=À (.int (F x),st)):im gd g t f sl (iL l) st=À (iL (l.map F),st):=yn a h
theorem dH{k q:Nat}(h:st[k]?=À (.lst xs))(a:q<xs.length):kn st (.ref k) (.int (q:Int)) x=À (st.set k (.lst (xs.set q x))):=by
 unfold kn;simp only[h];have:mW xs.length (q:Int)=À q:=by unfold mW;rw[yI oM,yI oM];simp
 rw[this];rfl
theorem qb{k q:Nat}(h:st[k]?=À (.dK (kL l)))(c:l.length<=1000):kn st (.ref k) (.int (q:Int)) (.bl Â)=À (st.set k (.dK (kL (if q∈l then l else l++[q])))):=by
 unfold kn;simp only[h,kC,Å];rw[yI (ce (by unfold kL;rw[zH];exact c))];congr 2;unfold nY kL;by_cases a:q∈l
 ·rw[yI a,yI (by simp only[ϡ,Ĭ];exact⟨q,a,by simp⟩),Ö]
  congr 1;refine ϓ fun x b=>?_
  show(if _ then _ else _)=_;split
  ·rfl
  ·rfl
 ·rw[yH a,yH (by
   simp only[ϡ,Ĭ,Function.comp];rintro⟨x,b,e⟩;have:x=q:=by have:((x:Nat):Int)=((q:Nat):Int):=(by simpa using e);lia
   exact a (this▸b)),ù]
  rfl
theorem ae(h:cW ks s sl st=À (.nx sl' st'))(a:(ai ks ss sl' st').bind ay=r):(ai ks (.cons s ss) sl st).bind ay=r:=by
 rw[lj,h,Å,yd];exact a
theorem aq(h:cW ks s sl st=À (.nx sl' st'))(a:ai ks ss sl' st'=r):ai ks (.cons s ss) sl st=r:=by
 rw[lj,h,Å,yd];exact a
theorem aS(h:cW ks s sl st=À (.rt v st')):(ai ks (.cons s ss) sl st).bind ay=À (v,st'):=by
 rw[lj,h,Å,yc];rfl
theorem bM(h:rfs args=Â)(b:fn args []=À (v,st'))(a:fj st' v=À t):pm fn args st=À (t,st):=by
 unfold pm;rw[yI h,b,Å];dsimp only;rw[a];rfl
section
variable{d:Int}{a b c g n u:Nat}
theorem A2{d':Int}:jo "below" (.int d') (dh d a b c g n u)=dh d' a b c g n u:=rfl
theorem A1{e:Nat}:jo "lines" (.ref e) (dh d a b c g n u)=dh d e b c g n u:=rfl
theorem iJ{k:Nat}(d:ev ks e sl st=À (v,st'))(c:ev ks o sl st'=À (.ref k,st'))(b:jK st' cn (.ref k)=À fs)(a:ä fs.length 900=Â):cW ks (.fl cn f o e) sl st=À (.nx sl (st'.set k (.ins cn (jo f v fs)))):=by
 show xF cn f (ev ks o) (ev ks e) sl st=_;unfold xF;rw[d,Å];dsimp only;rw[c,Å];dsimp only;rw[b,Å,yI a]
end
theorem uA{α:Type}{t:TF}{s:SF}{I:α->Sl->aa->Prop}{Q:α->α->Prop}{Post:Out->Prop}{a0:α}(e:∀f:Nat->α,f 0=a0->(∀n,Q (f n) (f (n+1)))->False)
  (h:∀x sl st,I x sl st->(∃o,dA t s 1 sl st=À o/\Post o)\/∃x' sl' st',Q x x'/\I x' sl' st'/\∀n o,dA t s n sl' st'=À o->dA t s (n+1) sl st=À o) {sl:Sl}{st:aa} (p:I a0 sl st):∃o,mP t s sl st=À o/\Post o:=by
 apply ĉ;intro j
 let a:α×Sl×aa->Prop:=fun z=>I z.1 z.2.1 z.2.2/\¬∃n o,dA t s n z.2.1 z.2.2=À o/\Post o
 have g:a (a0,sl,st):=⟨p,fun⟨n,o,c,b⟩=>j ⟨o,oy c,b⟩⟩;have nx:∀z:{ z // a z },∃i:{ z // a z },Q z.1.1 i.1.1:=fun d=>by
  obtain⟨z,hz⟩:=d;rcases h z.1 z.2.1 z.2.2 hz.1 with⟨o,c,b⟩|⟨x',sl',st',c,b,m⟩
  ·exact absurd ⟨1,o,c,b⟩ hz.2
  ·exact⟨⟨(x',sl',st'),b,fun⟨n,o,l,k⟩=>hz.2 ⟨n+1,o,m n o l,k⟩⟩,c⟩
 let f:Nat->{ z // a z }:=fun n=>Nat.rec ⟨_,g⟩ (fun _ z=>đ (nx z)) n
 exact e (fun n=>(f n).1.1) rfl fun n=>Ĝ (nx (f n))
theorem mq(h:t sl st=À (Ã,st')):dA t s 1 sl st=À (.nx sl st'):=by
 show(t sl st).bind _=_;rw[h,Å,yH (by simp)]
theorem rZ(h:t sl st=À (Â,st'))(a:s sl st'=À (.rt v st2)):dA t s 1 sl st=À (.rt v st2):=by
 show(t sl st).bind _=_;rw[h,Å,yI rfl];dsimp only;rw[a];rfl
theorem pP{n:Nat}(h:t sl st=À (Â,st'))(b:s sl st'=À (.nx sl2 st2))(a:dA t s n sl2 st2=À o):dA t s (n+1) sl st=À o:=by
 show(t sl st).bind _=_;rw[h,Å,yI rfl];dsimp only;rw[b];exact a
theorem wZ(h:cW ks s sl st=À (.rt v st')):ai ks (.cons s ss) sl st=À (.rt v st'):=by
 rw[lj,h,Å,yc]
theorem Fq{ks:List Fn}{T:Tx}{B rest:Ou}{sl:Sl}{st:aa}{Post:Out->Prop}{Q:AV×aa->Prop}(h:∃o,mP (tv ks T) (ai ks B) sl st=À o/\Post o)(c:∀o,Post o->∃r,(qE o (ai ks rest)).bind ay=À r/\Q r):∃r,(ai ks (.cons (.wh T B) rest) sl st).bind ay=À r/\Q r:=by
 obtain⟨o,e,b⟩:=h;obtain⟨r,d,a⟩:=c o b;refine⟨r,?_,a⟩;rw[lj,LI,e,Å];exact d
theorem au{ks:List Fn}{s:Sx}{a:Ou}{sl sl':Sl}{st st':aa}{Q:AV×aa->Prop}(h:cW ks s sl st=À (.nx sl' st'))(b:∃r,(ai ks a sl' st').bind ay=À r/\Q r):∃r,(ai ks (.cons s a) sl st).bind ay=À r/\Q r:=by
 obtain⟨r,e,q⟩:=b;exact⟨r,ae h e,q⟩
def aj(L:List (List Int)):List AV:=L.map fun l=>.fz (iL l)
@[simp] theorem Mt:(aj L).length=L.length:=by unfold aj;simp
@[simp] theorem MY:rfs (aj L)=Â:=eD fun x a=>by obtain⟨l,_,rfl⟩:=yD.mp a;rfl
theorem za:iL a++iL b=iL (a++b):=by unfold iL;rw[ù]
theorem Hi{x:Int}:[AV.int x]=iL [x]:=rfl
theorem wB{α:Type}{em:α->AV}{F:α->List Int}{xs:List α}(e:cw gd st=Â)(h:∀x∈xs,∃sl1,g (em x) sl st=À (sl1,st)/\t sl1 st=À (Â,st)/\f sl1 st=À (.fz (iL (F x)),st)):im gd g t f sl (xs.map em) st=À (aj (xs.map F),st):=by
 rw[gY (B:=fun _=>Â) (F:=fun x=>.fz (iL (F x))) e fun x d=>by obtain⟨s,a,b,c⟩:=h x d;exact⟨s,a,b,fun _=>c⟩];unfold aj;rw[Ö,Ð.mpr fun _ _=>rfl];rfl
theorem j7(g:ev ks a sl st=À (x,s1))(f:ev ks b sl s1=À (y,s2))(e:bI s2 x=À (iL l))(d:bI s2 y=À (iL l'))(c:l.length+l'.length<=1000):jy ks (.cat a b) sl st=À (iL (l++l'),s2):=by
 rw[oF];unfold p7;rw[g,Å];dsimp only;rw[f,Å];dsimp only;rw[e,Å,d,Å,yI (ce (by simpa using c)),za]
theorem oA{n:Nat}:dj 0 n=nL (È n):=by unfold dj nL;simp
theorem IC{w n:Nat}:dj (w:Int) n=nL ((È n).map (w+·)):=by unfold dj nL;simp[Ö,Function.comp_def]
theorem Dh{n:Nat}:bn (fy n st) (iL l)=À (iL l):=eP (f:=fy n st) (i:=AV.int) (g:=AV.int) (fun x=>by cases n<;>rfl) l
theorem pZ{k:Nat}(h:st[k]?=À (.lst (iL l))):fj st (.ref k)=À (.fz (iL l)):=by
 show fy 6 st (.ref k)=_;unfold fy;simp only[h,Dh,á]
theorem Fu{k:Nat}(h:st[k]?=À (.al t)):fj st (.ref k)=À t:=by
 show fy 6 st (.ref k)=_;unfold fy;simp only[h]
theorem lu{fn:Fn}{rest:List AV}{st st':aa}{x v t:AV}{l:List Int}(c:RowR st x l)(k:rfs rest=Â)(e:bn (fj st) rest=À rest)(g:∀s,ph s rest=À (rest,s))(b:fn (.fz (iL l)::rest) []=À (v,st'))(a:fj st' v=À t)(d:flat t=Ã) :
  ∃st1,pm fn (x::rest) st=À (t,st1)/\(st1=st\/∃r,x=.ref r/\st[r]?=À (.lst (iL l))/\st1=st.set r (.al (.fz (iL l)))):=by
 have ay:∀r st1,x=.ref r->fj st (.ref r)=À (.fz (iL l))->lT st (.ref r)=À (.fz (iL l),st1)->pm fn (x::rest) st=À (t,st1):=fun r st1 ex j i=>by
  subst ex;have m:bn (fj st) (.ref r::rest)=À (.fz (iL l)::rest):=by simp only[bn,j,e];rfl
  have f:ph st (.ref r::rest)=À (.fz (iL l)::rest,st1):=by simp only[ph,i,Å,g];rfl
  unfold pm;rw[yH (by simp[rf]),m,Å,b,Å];dsimp only;rw[a,Å,yH (by rw[d];simp),f,Å];dsimp only;rw[b,Å];dsimp only;rw[a];rfl
 rcases c with rfl|⟨r,rfl,h|h⟩
 ·exact⟨st,bM (by simp[k]) b a,.inl rfl⟩
 ·exact⟨_,ay r (st.set r (.al (.fz (iL l)))) rfl (pZ h) (by unfold lT;simp[rf,h]),.inr ⟨r,rfl,h,rfl⟩⟩
 ·exact⟨_,ay r st rfl (Fu h) (by unfold lT;simp[rf,h]),.inl rfl⟩
theorem fW:(st++[x]).set st.length y=st++[y]:=by simp
end R
namespace LW
open PySem L2 R
noncomputable def top(i:Nat):Ľ:=T9.main.body.getD i (.Pass ⟨0,0,0,0⟩)
def JS(s:Ľ):List Ľ:=match s with
 |.ClassDef _ _ _ b _ _ _ _ _ _ _=>b
 |_=>[]
def gX(i j:Nat):Ľ:=(JS (top i)).getD j (.Pass ⟨0,0,0,0⟩)
noncomputable def gs:List (Ì×AV):=[]
noncomputable def cl:List (Ì×List Ì):=[("Sheet",["below","guarded","heads","lines","nailed","sides","turned"])]
noncomputable abbrev B(_:FH):Type:=Ou
local macro_rules | `(tactic| walk_at "tr")=>`(tactic| (refine (?f:FH.tr ?h false [] gs cl=some ?m->B ?h) ?p;(case p=>unfold FH.tr;rw [Hk];(conv in cK _=>whnf);simp [-Option.map_map,↓Hk,gs,cl,uz,ow,Lo,Lq,Ln,Lp,uS,uE,uT,uG,MC,MD,pU,kS,uO,uC,vP,B4,uI,Mx,uR,uZ,Mz,uL,B5,My,Aw,Ax,Mw,Mv,uK,EZ,Mu,vR,vQ,MB,MA,K1,KZ,uX,m2,m3,at_,lk,tT,Gy,hB,Bj,uM,uN,uP,HS,GQ,ME,eU,Bb,tz,Hj];rfl);exact fun _=>?m))
@[simp] def o8:FH:=⟨.f "_law_mix" 2,"_law_mix",top 47,["_law_cell","_law_turn","_law_number"],[],3,[],[],[]⟩
noncomputable def kM:B o8:=by walk_at "tr"
@[simp] def lO:FH:=⟨.f "_law_draws" 3,"_law_draws",top 48,["_law_script","_law_turn","_law_many","_law_cells","_law_lefts","_law_found","_law_k","_law_at","_law_number"],[0],6,[],["_law_mix"],[2384136377,2392136528,2400136152,2472088264]⟩
noncomputable def ji:B lO:=by walk_at "tr"
@[simp] def o7:FH:=⟨.f "_law_pop" 1,"_law_pop",top 49,["_law_draws_here"],[],3,[],[],[]⟩
noncomputable def kK:B o7:=by walk_at "tr"
@[simp] def nk:FH:=⟨.f "_law_bits" 1,"_law_bits",top 53,["_law_group"],[],3,[],[],[]⟩
noncomputable def nG:B nk:=by walk_at "tr"
@[simp] def lK:FH:=⟨.f "_law_table" 2,"_law_table",top 54,["_law_n","_law_draws_here","_law_table_here","_law_k","_law_number","_law_mask","_law_most","_law_times","_law_pair","_law_four"],[2,3],6,[],["_law_pop","_law_bits"],[2704192398,2712176382,2752144350]⟩
noncomputable def gK:B lK:=by walk_at "tr"
@[simp] def lJ:FH:=⟨.f "_law_terms" 2,"_law_terms",top 55,["_law_n","_law_draws_here","_law_whole","_law_number","_law_a","_law_b","_law_c"],[2],6,[],["_law_pop"],[2816144350]⟩
noncomputable def gJ:B lJ:=by walk_at "tr"
@[simp] def k8:FH:=⟨.f "_law_row_of" 2,"_law_row_of",top 50,["_law_n","_law_terms_here","_law_row_here","_law_group","_law_number"],[],3,[],[],[2520160528]⟩
noncomputable def fT:B k8:=by walk_at "tr"
@[simp] def o6:FH:=⟨.f "_law_row" 2,"_law_row",top 56,["_law_n","_law_draws_here","_law_number","_law_row_here","_law_k","_law_more","_law_times"],[2,5,6],9,[],["_law_pop","_law_terms","_law_row_of"],[2896144350,2912128334,2928128334,2952320606,2960336542]⟩
noncomputable def iP:B o6:=by walk_at "tr"
@[simp] def lI:FH:=⟨.f "_law_value" 2,"_law_value",top 52,["_law_row_here","_law_table_here"],[],3,[],[],[]⟩
noncomputable def jh:B lI:=by walk_at "tr"
@[simp] def k9:FH:=⟨.f "_law_givens" 3,"_law_givens",top 57,["_law_n","_law_draws_here","_law_table_here","_law_givens_here","_law_k","_law_row_here","_law_number","_law_sign","_law_due"],[2,7,8],12,[],["_law_pop","_law_row","_law_value"],[2992184200,3000392598,3008192462,3016176382,3080272478]⟩
noncomputable def fU:B k9:=by walk_at "tr"
@[simp] def jv:FH:=⟨.f "_law_question" 1,"_law_question",top 58,["_law_script","_law_draws_here","_law_n","_law_table_here","_law_givens_here"],[1,2,4,9,7],15,[],["_law_draws","_law_pop","_law_table","_law_givens","_law_row"],[3112176430,3120304510,3128176462,3136184614,3144440710]⟩
noncomputable def eO:B jv:=by walk_at "tr"
@[simp] def nj:FH:=⟨.f "all_names" 1,"all_names",top 1,["n"],[],3,[],[],[]⟩
noncomputable def nF:B nj:=by walk_at "tr"
@[simp] def io:FH:=⟨.f "pairs_with_known" 3,"pairs_with_known",top 7,["n","i","j","both"],[11],6,[],["all_names"],[]⟩
noncomputable def iu:B io:=by walk_at "tr"
@[simp] def vv:FH:=⟨.f "rules" 1,"rules",top 8,["n","found","i","j"],[12],9,[],["pairs_with_known"],[168096344]⟩
noncomputable def vG:B vv:=by walk_at "tr"
@[simp] def jW:FH:=⟨.f "row_of_terms" 2,"row_of_terms",top 2,["n","terms","row","group","number"],[11],6,[],["all_names"],[40080224]⟩
noncomputable def j8:B jW:=by walk_at "tr"
@[simp] def oZ:FH:=⟨.f "rest_row" 3,"rest_row",top 3,["n","a","b"],[14],9,[],["row_of_terms"],[]⟩
noncomputable def pF:B oZ:=by walk_at "tr"
@[simp] def lH:FH:=⟨.f "shared_row" 4,"shared_row",top 4,["n","a","b","c"],[14],9,[],["row_of_terms"],[]⟩
noncomputable def ma:B lH:=by walk_at "tr"
@[simp] def oY:FH:=⟨.f "rule_row" 2,"rule_row",top 9,["n","rule","one"],[11,15,16],12,[],["all_names","rest_row","shared_row"],[]⟩
noncomputable def pE:B oY:=by walk_at "tr"
@[simp] def mY:FH:=⟨.f "rule_rows" 1,"rule_rows",top 10,["n"],[13,17],15,[],["rules","rule_row"],[]⟩
noncomputable def nB:B mY:=by walk_at "tr"
@[simp] def jf:FH:=⟨.k "Sheet" 3,"Sheet.__init__",gX 25 0,["self","width","lines"],[],3,[],[],[800168408,808168312,816168472]⟩
noncomputable def gh:B jf:=by walk_at "tr"
@[simp] def lb:FH:=⟨.m "Sheet" "guard" 2,"Sheet.guard",gX 25 1,["self","quantity"],[],3,[],[],[]⟩
noncomputable def iD:B lb:=by walk_at "tr"
@[simp] def jt:FH:=⟨.f "opening_sheet" 3,"opening_sheet",top 37,["n","givens","goal","lines","guarded","sheet","quantity"],[18,11,19,20],18,[],["rule_rows","all_names","Sheet","guard"],[1792096376,1792104177,1808144313,1816136409]⟩
noncomputable def gG:B jt:=by walk_at "tr"
@[simp] def iI:FH:=⟨.m "Sheet" "turn_line" 2,"Sheet.turn_line",gX 25 3,["self","place"],[],3,[],[],[]⟩
noncomputable def fD:B iI:=by walk_at "tr"
@[simp] def gq:FH:=⟨.m "Sheet" "loose_columns" 1,"Sheet.loose_columns",gX 25 5,["self"],[],3,[],[],[]⟩
noncomputable def dX:B gq:=by walk_at "tr"
@[simp] def fM:FH:=⟨.m "Sheet" "raising_column" 2,"Sheet.raising_column",gX 25 6,["self","place","line","found"],[23],6,[⟨135,30,135,63⟩],["loose_columns"],[]⟩
noncomputable def dO:B fM:=by walk_at "tr"
@[simp] def iq:FH:=⟨.m "Sheet" "is_tighter" 4,"Sheet.is_tighter",gX 25 8,["self","one","other","column","ahead","behind"],[],3,[],[],[]⟩
noncomputable def eZ:B iq:=by walk_at "tr"
@[simp] def fK:FH:=⟨.m "Sheet" "tightest_place" 2,"Sheet.tightest_place",gX 25 9,["self","column","best","place","line"],[25],6,[],["is_tighter"],[]⟩
noncomputable def dN:B fK:=by walk_at "tr"
@[simp] def gR:FH:=⟨.m "Sheet" "is_up_first" 4,"Sheet.is_up_first",gX 25 10,["self","place","tight","column","up"],[],3,[],[],[]⟩
noncomputable def eI:B gR:=by walk_at "tr"
@[simp] def jZ:FH:=⟨.f "changed_line" 5,"changed_line",top 24,["line","pivot_line","column","sign","below","pivot","factor","changed"],[],3,[],[],[744112808]⟩
noncomputable def dU:B jZ:=by walk_at "tr"
@[simp] def jd:FH:=⟨.m "Sheet" "exchange" 3,"Sheet.exchange",gX 25 4,["self","place","column","sign","pivot_line","below","freed"],[28],6,[],["changed_line"],[968168776,976224496]⟩
noncomputable def gf:B jd:=by walk_at "tr"
@[simp] def lQ:FH:=⟨.m "Sheet" "lift" 2,"Sheet.lift",gX 25 11,["self","place","column","tight"],[24,26,27,29],9,[],["raising_column","tightest_place","is_up_first","exchange"],[]⟩
noncomputable def eY:B lQ:=by walk_at "tr"
@[simp] def gk:FH:=⟨.m "Sheet" "moving_column" 2,"Sheet.moving_column",gX 25 7,["self","place","line"],[23],6,[],["loose_columns"],[]⟩
noncomputable def dW:B gk:=by walk_at "tr"
@[simp] def lP:FH:=⟨.m "Sheet" "nail" 2,"Sheet.nail",gX 25 2,["self","quantity"],[],3,[],[],[]⟩
noncomputable def jj:B lP:=by walk_at "tr"
@[simp] def nh:FH:=⟨.f "keep_just" 2,"keep_just",top 38,["sheet","place","quantity","column"],[22,30,31,29,32],12,[],["turn_line","lift","moving_column","exchange","nail"],[]⟩
noncomputable def jN:B nh:=by walk_at "tr"
@[simp] def jY:FH:=⟨.f "keep_no_less" 2,"keep_no_less",top 39,["sheet","place","quantity"],[30,20],12,[],["lift","guard"],[]⟩
noncomputable def fi:B jY:=by walk_at "tr"
@[simp] def o0:FH:=⟨.f "names_in" 2,"names_in",top 27,["n","group"],[],3,[],[],[]⟩
noncomputable def pG:B o0:=by walk_at "tr"
@[simp] def mZ:FH:=⟨.f "pair_rule" 3,"pair_rule",top 28,["one","other","known"],[],3,[],[],[]⟩
noncomputable def nD:B mZ:=by walk_at "tr"
@[simp] def jr:FH:=⟨.f "rules_of_name" 3,"rules_of_name",top 29,["n","k","known","used","j"],[35,36],6,[],["names_in","pair_rule"],[1480088104]⟩
noncomputable def jF:B jr:=by walk_at "tr"
@[simp] def jq:FH:=⟨.f "rules_of_rest" 3,"rules_of_rest",top 30,["n","a","b","used","known","k"],[35,37],9,[],["names_in","rules_of_name"],[1536088104]⟩
noncomputable def jE:B jq:=by walk_at "tr"
@[simp] def ni:FH:=⟨.f "how_often" 2,"how_often",top 31,["n","used"],[13],12,[],["rules"],[]⟩
noncomputable def nE:B ni:=by walk_at "tr"
@[simp] def iF:FH:=⟨.f "weights_by_line" 3,"weights_by_line",top 40,["n","sheet","place","taken","column","quantity","weights","group","often","rule","count"],[11,38,39],15,[],["all_names","rules_of_rest","how_often"],[2016096440,2048032340,2064112288]⟩
noncomputable def fB:B iF:=by walk_at "tr"
@[simp] def jb:FH:=⟨.f "common_divisor" 1,"common_divisor",top 33,["numbers","divisor","number","other","left"],[],3,[],[],[]⟩
noncomputable def eA:B jb:=by walk_at "tr"
@[simp] def iH:FH:=⟨.f "in_lowest_terms" 1,"in_lowest_terms",top 34,["numbers","divisor"],[41],6,[],["common_divisor"],[]⟩
noncomputable def dQ:B iH:=by walk_at "tr"
@[simp] def je:FH:=⟨.m "Sheet" "drive_up" 2,"Sheet.drive_up",gX 25 12,["self","place","column","tight"],[24,26,29],9,[],["raising_column","tightest_place","exchange"],[]⟩
noncomputable def gg:B je:=by walk_at "tr"
@[simp] def iG:FH:=⟨.f "lowest_fraction" 2,"lowest_fraction",top 35,["top","bottom","numbers"],[42],9,[],["in_lowest_terms"],[]⟩
noncomputable def fC:B iG:=by walk_at "tr"
@[simp] def ip:FH:=⟨.f "groups_in_column" 3,"groups_in_column",top 41,["n","sheet","column","found","place","quantity"],[11],6,[],["all_names"],[2128096240]⟩
noncomputable def eV:B ip:=by walk_at "tr"
@[simp] def jX:FH:=⟨.f "lowest_table" 2,"lowest_table",top 36,["numbers","below","found"],[42],9,[],["in_lowest_terms"],[1768224361]⟩
noncomputable def g6:B jX:=by walk_at "tr"
@[simp] def i8:FH:=⟨.f "table_of_sheet" 2,"table_of_sheet",top 42,["n","sheet"],[45,46],12,[],["groups_in_column","lowest_table"],[2176192438]⟩
noncomputable def f8:B i8:=by walk_at "tr"
@[simp] def ja:FH:=⟨.f "least_of_sheet" 3,"least_of_sheet",top 44,["n","sheet","place","least","weights"],[44,40,42,47],18,[],["lowest_fraction","weights_by_line","in_lowest_terms","table_of_sheet"],[2240240502,2240240625,2248224422]⟩
noncomputable def f9:B ja:=by walk_at "tr"
@[simp] def mX:FH:=⟨.f "way_along" 3,"way_along",top 43,["n","sheet","column","way"],[45,42],9,[],["groups_in_column","in_lowest_terms"],[2192080358]⟩
noncomputable def ib:B mX:=by walk_at "tr"
@[simp] def tF:FH:=⟨.f "answer" 3,"answer",top 45,["n","givens","goal","sheet","last","place","given","kept","column"],[21,33,34,40,42,43,48,47,49],21,[],["opening_sheet","keep_just","keep_no_less","weights_by_line","in_lowest_terms","drive_up","least_of_sheet","table_of_sheet","way_along"],[2264096342,2288120310,2288504718,2304360622,2328120366,2336184382,2336392614]⟩
noncomputable def oi:B tF:=by walk_at "tr"
@[simp] def k7:FH:=⟨.f "are_weights" 3,"are_weights",top 13,["n","givens","weights","signs"],[13],12,[],["rules"],[296096633]⟩
noncomputable def fR:B k7:=by walk_at "tr"
@[simp] def vp:FH:=⟨.f "value" 2,"value",top 5,["row","table"],[],3,[],[],[]⟩
noncomputable def qt:B vp:=by walk_at "tr"
@[simp] def k4:FH:=⟨.f "keeps_rules" 2,"keeps_rules",top 11,["n","table"],[18,52],18,[],["rule_rows","value"],[]⟩
noncomputable def iC:B k4:=by walk_at "tr"
@[simp] def k6:FH:=⟨.f "keeps_given" 3,"keeps_given",top 16,["given","numbers","below","found","wanted"],[52],6,[],["value"],[]⟩
noncomputable def fQ:B k6:=by walk_at "tr"
@[simp] def m6:FH:=⟨.f "keeps_all" 3,"keeps_all",top 17,["n","givens","table","numbers","below"],[53,11,54],21,[],["keeps_rules","all_names","keeps_given"],[]⟩
noncomputable def ic:B m6:=by walk_at "tr"
@[simp] def kU:FH:=⟨.f "row_come_to" 3,"row_come_to",top 14,["n","givens","weights","rows","total","row","weight"],[18,11],18,[],["rule_rows","all_names"],[336088505]⟩
noncomputable def fN:B kU:=by walk_at "tr"
@[simp] def i9:FH:=⟨.f "number_come_to" 3,"number_come_to",top 15,["n","givens","weights","often"],[13],12,[],["rules"],[]⟩
noncomputable def d9:B i9:=by walk_at "tr"
@[simp] def kY:FH:=⟨.f "least_holds" 4,"least_holds",top 19,["n","givens","goal","found","top","bottom","table","times","weights"],[51,55,52,56,57],24,[],["are_weights","keeps_all","value","row_come_to","number_come_to"],[]⟩
noncomputable def fP:B kY:=by walk_at "tr"
@[simp] def qI:FH:=⟨.f "goes_on" 3,"goes_on",top 18,["n","givens","way"],[55],24,[],["keeps_all"],[]⟩
noncomputable def md:B qI:=by walk_at "tr"
@[simp] def ju:FH:=⟨.f "endless_holds" 4,"endless_holds",top 20,["n","givens","goal","found"],[52,59,55],27,[],["value","goes_on","keeps_all"],[]⟩
noncomputable def gH:B ju:=by walk_at "tr"
@[simp] def kW:FH:=⟨.f "never_holds" 3,"never_holds",top 21,["n","givens","weights"],[51,57,56],21,[],["are_weights","number_come_to","row_come_to"],[]⟩
noncomputable def fO:B kW:=by walk_at "tr"
@[simp] def vw:FH:=⟨.f "holds" 4,"holds",top 22,["n","givens","goal","found"],[58,60,61],30,[],["least_holds","endless_holds","never_holds"],[]⟩
noncomputable def mJ:B vw:=by walk_at "tr"
@[simp] def lN:FH:=⟨.f "_law_rules" 1,"_law_rules",top 51,["_law_n","_law_whole","_law_rows","_law_i","_law_j","_law_one","_law_other","_law_g","_law_terms_here"],[6],6,[],["_law_row_of"],[2576128944]⟩
noncomputable def mf:B lN:=by walk_at "tr"
@[simp] def Cp:FH:=⟨.f "law" 1,"law",top 59,["_law_script","_law_n","_law_table_here","_law_givens_here","_law_goal","_law_draws_here","_law_told","_law_many","_law_weights","_law_times","_law_way","_law_made","_law_some","_law_found"],[10,50,62,63,2,4,8],33,[],["_law_question","answer","holds","_law_rules","_law_pop","_law_table","_law_value"],[3160608822,3200152952,3200456662,3208168374,3256120406,3264128144]⟩
noncomputable def rQ:B Cp:=by walk_at "tr"
def e_law:FE:=⟨Cp,rQ⟩
def pre:List FE:=[⟨o8,kM⟩,⟨lO,ji⟩,⟨o7,kK⟩,⟨nk,nG⟩,⟨lK,gK⟩,⟨lJ,gJ⟩,⟨k8,fT⟩,⟨o6,iP⟩,⟨lI,jh⟩,⟨k9,fU⟩,⟨jv,eO⟩,⟨nj,nF⟩,⟨io,iu⟩,⟨vv,vG⟩,⟨jW,j8⟩,⟨oZ,pF⟩,⟨lH,ma⟩,⟨oY,pE⟩,⟨mY,nB⟩,⟨jf,gh⟩,⟨lb,iD⟩,⟨jt,gG⟩,⟨iI,fD⟩,⟨gq,dX⟩,⟨fM,dO⟩,⟨iq,eZ⟩,⟨fK,dN⟩,⟨gR,eI⟩,⟨jZ,dU⟩,⟨jd,gf⟩,⟨lQ,eY⟩,⟨gk,dW⟩,⟨lP,jj⟩,⟨nh,jN⟩,⟨jY,fi⟩,⟨o0,pG⟩,⟨mZ,nD⟩,⟨jr,jF⟩,⟨jq,jE⟩,⟨ni,nE⟩,⟨iF,fB⟩,⟨jb,eA⟩,⟨iH,dQ⟩,⟨je,gg⟩,⟨iG,fC⟩,⟨ip,eV⟩,⟨jX,g6⟩,⟨i8,f8⟩,⟨ja,f9⟩,⟨mX,ib⟩,⟨tF,oi⟩,⟨k7,fR⟩,⟨vp,qt⟩,⟨k4,iC⟩,⟨k6,fQ⟩,⟨m6,ic⟩,⟨kU,fN⟩,⟨i9,d9⟩,⟨kY,fP⟩,⟨qI,md⟩,⟨ju,gH⟩,⟨kW,fO⟩,⟨vw,mJ⟩,⟨lN,mf⟩]
theorem EG:pB gs cl [] pre=pre.map fun e=>À e.b:=by kernel_rfl
theorem EH:e_law.chk gs cl pre=À e_law.b:=by kernel_rfl
instance:Ol:=⟨[(180,⟨135,30,135,63⟩,("Sheet.raising_column":Ì)++".<locals>."++"<lambda>")]⟩
def dq:Fn:=run 3 (ai [] kM)
def fe:Fn:=run 9 (ai [dq] ji)
def ao:Fn:=run 1 (ai [] kK)
def bw:Fn:=run 1 (ai [] nG)
def cY:Fn:=run 10 (ai [ao,bw] gK)
def bq:Fn:=run 7 (ai [ao] gJ)
def aP:Fn:=run 5 (ai [] fT)
def bU:Fn:=run 7 (ai [ao,bq,aP] iP)
def bh:Fn:=run 2 (ai [] jh)
def dF:Fn:=run 9 (ai [ao,bU,bh] fU)
def dJ:Fn:=run 5 (ai [fe,ao,cY,dF,bU] eO)
def af:Fn:=run 1 (ai [] nF)
def iA:Fn:=run 4 (ai [af] iu)
def cQ:Fn:=run 4 (ai [iA] vG)
def g7:Fn:=run 5 (ai [af] j8)
def pM:Fn:=run 3 (ai [g7] pF)
def mn:Fn:=run 4 (ai [g7] ma)
def pL:Fn:=run 3 (ai [af,pM,mn] pE)
def ax:Fn:=run 1 (ai [cQ,pL] nB)
def aG:Fn:=run 3 (ai [] gh)
def aN:Fn:=run 2 (ai [] iD)
def bS:Fn:=run 7 (ai [ax,af,aG,aN] gG)
def cM:Fn:=run 2 (ai [] fD)
def cx:Fn:=run 1 (ai [] dX)
def aI:Fn:=run 4 (ai [cx] dO)
def cz:Fn:=run 6 (ai [] eZ)
def aH:Fn:=run 5 (ai [cz] dN)
def aR:Fn:=run 5 (ai [] eI)
def bO:Fn:=run 8 (ai [] dU)
def aK:Fn:=run 7 (ai [bO] gf)
def cH:Fn:=run 4 (ai [aI,aH,aR,aK] eY)
def bV:Fn:=run 3 (ai [cx] dW)
def d3:Fn:=run 2 (ai [] jj)
def cF:Fn:=run 4 (ai [cM,cH,bV,aK,d3] jN)
def bN:Fn:=run 3 (ai [cH,aN] fi)
def kP:Fn:=run 2 (ai [] pG)
def nO:Fn:=run 3 (ai [] nD)
def jH:Fn:=run 5 (ai [kP,nO] jF)
def cZ:Fn:=run 6 (ai [kP,jH] jE)
def eF:Fn:=run 2 (ai [cQ] nE)
def aM:Fn:=run 11 (ai [af,cZ,eF] fB)
def cS:Fn:=run 5 (ai [] eA)
def ar:Fn:=run 2 (ai [cS] dQ)
def bG:Fn:=run 4 (ai [aI,aH,aK] gg)
def di:Fn:=run 3 (ai [ar] fC)
def cX:Fn:=run 6 (ai [af] eV)
def dZ:Fn:=run 3 (ai [ar] g6)
def aQ:Fn:=run 2 (ai [cX,dZ] f8)
def bF:Fn:=run 5 (ai [di,aM,ar,aQ] f9)
def cD:Fn:=run 4 (ai [cX,ar] ib)
def g8:Fn:=run 9 (ai [bS,cF,bN,aM,ar,bG,bF,aQ,cD] oi)
def df:Fn:=run 4 (ai [cQ] fR)
def dD:Fn:=run 2 (ai [] qt)
def db:Fn:=run 2 (ai [ax,dD] iC)
def de:Fn:=run 5 (ai [dD] fQ)
def cE:Fn:=run 5 (ai [db,af,de] ic)
def c9:Fn:=run 7 (ai [ax,af] fN)
def cp:Fn:=run 4 (ai [cQ] d9)
def dE:Fn:=run 9 (ai [df,cE,dD,c9,cp] fP)
def iB:Fn:=run 3 (ai [cE] md)
def c6:Fn:=run 4 (ai [dD,iB,cE] gH)
def eC:Fn:=run 3 (ai [df,cp,c9] fO)
def kg:Fn:=run 4 (ai [dE,c6,eC] mJ)
def fc:Fn:=run 9 (ai [aP] mf)
def pN:Fn:=run 14 (ai [dJ,g8,kg,fc,ao,cY,bh] rQ)
def Fs:List Fn:=[dq,fe,ao,bw,cY,bq,aP,bU,bh,dF,dJ,af,iA,cQ,g7,pM,mn,pL,ax,aG,aN,bS,cM,cx,aI,cz,aH,aR,bO,aK,cH,bV,d3,cF,bN,kP,nO,jH,cZ,eF,aM,cS,ar,bG,di,cX,dZ,aQ,bF,cD,g8,df,dD,db,de,cE,c9,cp,dE,iB,c6,eC,kg,fc]
theorem JG:jx [] pre=Fs:=zl (by(repeat refine⟨rfl,?_⟩);trivial)
theorem Jq:e_law.fn (jx [] pre)=pN:=by rw[JG];rfl
def KR:Fn:=pN
open PySem.Spec
open SX (Sh Ot)
def Bd(w m:Nat)(S:Sh):Prop:=S.d.natAbs<2^9000/\∀i,i<m->∀j,j<w+1->(S.t i j).natAbs<2^9000
section
variable{st:aa}{k a b c g n u w m:Nat}{rows:List AV}{S:Sh}
theorem Jv(R:Rep st k a b c g n u rows S)(P:Ot w m S)(B:Bd w m S){i r q:Nat}(e:i<m)(d:r<m)(l:q<w) :
  cz [.ref k,.int i,.int r,.int q] st=À (.bl (decide (S.t i w*- S.t r q<S.t r w*- S.t i q)||(decide (S.t i w*- S.t r q=S.t r w*- S.t i q)&&decide (S.s i<S.s r))),st):=by
 have f:cV (S.t i w) (- S.t r q)=Â:=cq (B.2 i e w oM) (by rw [ċ];exact B.2 r d q oM);have m2:cV (S.t r w) (- S.t i q)=Â:=cq (B.2 r d w oM) (by rw [ċ];exact B.2 i e q oM);simp [cz,aD,eZ,R.ins,R.line P e,R.line P d,R.last P e,R.last P d,R.cell P e (show q < w + 1 by lia),R.cell P d (show q < w + 1 by lia),ba f,ba m2,R.side P e,R.side P d];by_cases j:S.t i w * -S.t r q < S.t r w * -S.t i q <;> by_cases h:S.t i w * -S.t r q=S.t r w * -S.t i q <;> simp [j,h]
theorem B0(R:Rep st k a b c g n u rows S)(P:Ot w m S)(B:Bd w m S){i r q:Nat}(e:i<m)(d:r<m)(h:q<w) :
  aR [.ref k,.int i,.int r,.int q] st=À (.bl (decide (S.t i w*S.t r q<=S.t r w*S.t i q)),st):=by
 have f:cV (S.t i w) (S.t r q)=Â:=cq (B.2 i e w oM) (B.2 r d q oM);have m2:cV (S.t r w) (S.t i q)=Â:=cq (B.2 r d w oM) (B.2 i e q oM);simp [aR,aD,eI,R.ins,R.line P e,R.line P d,R.last P e,R.last P d,R.cell P e (show q < w + 1 by lia),R.cell P d (show q < w + 1 by lia),ba f,ba m2]
theorem vh(R:Rep st k a b c g n u rows S)(P:Ot w m S)(f:w<=100):cx [.ref k] st=À (.fz (nL (b8 S)),st):=by
 have e:nL (b8 S)=(S.hd.zipIdx.filter fun z=>!decide (z.1∈S.nl)).map fun z=>(AV.int ((z.2:Nat):Int)):=by unfold nL b8;rw[Ö];rfl
 have d:=nX (l:=b8 S);rw [e] at d ⊢;simp [cx,aD,dX,R.ins,jU R.hb,JO,ce (show S.hd.length <= 1000 by rw [P.hd];lia)];rw [gY (B:=fun z=>!decide (z.1 ∈ S.nl)) (F:=fun z=>.int ((z.2:Nat):Int)) (fg R.hb) fun z _=>⟨_,rfl,by simp [R.ins,R.nin],fun _=>rfl⟩];simp [d]
theorem sD(R:Rep st k a b c g n u rows S)(P:Ot w m S)(y:w<=100){p:Nat}(r:p<m):∃o,aI [.ref k,.int p] st=À (oN o,st)/\SX.Rais w S p o:=by
 have x:(b8 S).length<=1000:=by
  unfold b8;rw[zH]
  have:=A? (fun z:Nat×Nat=>!decide (z.1∈S.nl)) S.hd.zipIdx
  rw[M?,P.hd]at this;lia
 obtain⟨o,C,G,E⟩:=HW (l:=(b8 S).filter fun j=>decide (0<S.t p j)) (key:=S.h);have inl:∀j,j∈(b8 S).filter (fun j=>decide (0<S.t p j)) ↔ (j<w/\S.h j∉S.nl)/\0<S.t p j:=fun j=>by rw[Ŀ,jp P];simp
 refine⟨o,?_,fun e j d i h=>?_,fun q e=>?_⟩
 ·simp[aI,aD,dO,R.ins,R.line P r,vh R P y,nL,ce x]
  rw [gY (B:=fun j=>decide (0 < S.t p j)) (F:=fun j:Nat=>.int (j:Int)) gw fun j d=>⟨_,rfl,by simp [R.cell P r (show j < w + 1 by have:=(jp P).mp d;lia)],fun _=>rfl⟩];have D:rfs (((b8 S).filter fun j=>decide (0 < S.t p j)).map fun j:Nat=>(AV.int (j:Int)))=Â:=nX;have t:=vk (l:=(b8 S).filter fun j=>decide (0 < S.t p j));unfold nL at t;simp [D,rR,lsI,t];rw [GW (f:=S.h) fun q A=>by simp [R.ins,R.head P ((inl q).mp A).1.1]];simp [C]
 ·have:=G e
  have s:=(inl j).mpr ⟨⟨d,i⟩,h⟩;rw[this]at s;cases s
 ·obtain⟨v,m2⟩:=E q e
  have:=(inl q).mp v
  exact⟨this.1.1,this.1.2,this.2,fun j d i h=>m2 j ((inl j).mpr ⟨⟨d,i⟩,h⟩)⟩
theorem uH(R:Rep st k a b c g n u rows S)(P:Ot w m S)(B:Bd w m S){q:Nat}(z:q<w):∃o,aH [.ref k,.int q] st=À (oN o,st)/\SX.Oo S w q m o:=by
 have rl:rows.length=m:=by rw[R.len,P.ls]
 obtain⟨t,p,e,rfl,o,x,y,rfl,T⟩:=eE (gd:=[(a,.lst rows)]) (g:=cg [cz] (.tu 2 (.cons (.nm 3) (.cons (.nm 4) .nil)))) (s:=ai [cz] (.cons (.iff (.an (.cmp .Lt (.ix (.v 4) (.v 1)) (.i 0)) (.cmp .In (.ix (.fd "Sheet" "sides" (.v 0)) (.v 3)) (.fd "Sheet" "guarded" (.v 0))))
   (.cons (.iff (.or (.cmp .Is (.v 2) .n) (.va (.me "Sheet" "is_tighter" 0 (.v 0) (.cons (.v 3) (.cons (.v 2) (.cons (.v 1) .nil)))))) (.cons (.as (.v 3) (.nm 2)) .nil) .nil) .nil) .nil) .nil))
  (I:=fun i sl s=>s=st/\∃o x y,sl=[Rs k,Is q,À (oN o),x,y]/\SX.Oo S w q i o) (xs:=fq 0 rows) (fun i sl s _ j=>by rw[j.1];exact fg R.ha)
  (fun i y sl s v j=>by
   obtain⟨rfl,o,C,A,rfl,T⟩:=j;obtain⟨x,l,rfl⟩:=pw v;have f:i<m:=by rw[<- rl];exact(zB.mp l).1
   have ex:x=lq rows i:=by have:=R.rx P f;rw[l]at this;injection this
   subst ex;refine⟨_,[Rs k,Is q,À (oN (if S.t i q<0/\S.s i∈S.gd then(match o with|none=>À i|some r=>if S.t i w*- S.t r q<S.t r w*- S.t i q\/(S.t i w*- S.t r q=S.t r w*- S.t i q/\S.s i<S.s r) then À i else À r) else o)),Is i,À (lq rows i)],s,rfl,?_,rfl,_,_,_,rfl,?_⟩
   ·by_cases d:S.t i q<0
    ·by_cases h:S.s i∈S.gd
     ·cases o with
      | none=>simp [R.cell P f (show q < w + 1 by lia),d,R.side P f,R.ins,R.ing,h,oN]
      |some r =>
       have D:=(T.2 r rfl).1
       have:=Jv R P B f (show r < m by lia) z
       simp [R.cell P f (show q < w + 1 by lia),d,R.side P f,R.ins,R.ing,h,oN,this,fx,bI,dr];split <;> rfl
     ·simp [R.cell P f (show q < w + 1 by lia),d,R.side P f,R.ins,R.ing,h]
    ·simp [R.cell P f (show q < w + 1 by lia),d]
   ·by_cases d:S.t i q<0/\S.s i∈S.gd
    ·rw[yI d]
     cases o with
     |none=>exact SX.tt_first d.1 d.2 T
     |some r =>
      dsimp only;split
      ·rename_i h;exact SX.tt_new d.1 d.2 h T
      ·rename_i h;exact SX.tt_old d.1 h T
    ·rw[yH d];exact SX.tt_skip d T) (sl:=[Rs k,Is q,À .non,Á,Á]) (st:=st) ⟨rfl,Á,Á,Á,rfl,SX.tt_zero⟩
 rw[mF,rl]at T;refine⟨o,?_,T⟩;simp[aH,aD,dN,R.ins,jU R.ha];rw[e];simp
end
open SX (gI chLine pvl sgn)
theorem rY:((iL l).zip (iL P)).map (fun z=>AV.tup [z.1,z.2])=(l.zip P).map fun z=>.tup [.int z.1,.int z.2]:=by
 unfold iL;rw[V?,Ö];rfl
section
variable{l P:List Int}{q w:Nat}{sg d:Int}
theorem pf{M:Nat}(h:∀x∈l,x.natAbs<M)(a:0<M)(j:Nat):(gI l j).natAbs<M:=by
 unfold gI;rw[zD];cases e:l[j]? with
 |none=>exact a
 |some x=>exact h x (zW e)
theorem Mc(s:l.length=w+1)(t:P.length=w+1)(r:q<w+1)(p:w<=100)(g:∀x∈l,x.natAbs<2^9000)(m:∀x∈P,x.natAbs<2^9000)(hd:d≠0)(bd:d.natAbs<2^9000)(bs:sg.natAbs<2^9000) :
  ∃v st',bO [.fz (iL l),.fz (iL P),.int q,.int sg,.int d] []=À (v,st')/\fj st' v=À (.fz (iL (chLine l P q sg d))):=by
 have h:(0:Nat)<2^9000:=Ô _;have f:∀b:aa,aY b (.fz (iL P)) (.int (q:Int))=À (.int (gI P q)):=fun b=>by rw[cU eN,cG,cj oM]
 have e:∀b:aa,aY b (.fz (iL l)) (.int (q:Int))=À (.int (gI l q)):=fun b=>by rw[cU eN,cG,cj oM]
 have j:=pf m h q;have k:=pf g h q;have i:=zq hd bd;unfold chLine;by_cases a:gI l q=0
 ·by_cases c:gI P q=d
  ·refine⟨.fz (iL l),[],?_,by rw[yI a,yI c];rfl⟩
   simp[bO,aD,dU,f,e,a,c]
  ·refine⟨.fz (iL (l.map fun x=>SX.fdvS (x*gI P q) d)),[],?_,by rw[yI a,yH c];rfl⟩
   simp [bO,aD,dU,f,e,a,c,ce (show l.length <= 1000 by lia)];rw [kB (F:=fun x=>SX.fdvS (x * gI P q) d) gw fun x o=>⟨_,rfl,rfl,by simp [ba (cq (g x o) j),mK i];rfl⟩];simp
 ·refine⟨.ref 0,[.lst (iL (((l.zip P).map fun z=>SX.fdvS (z.1*gI P q-gI l q*z.2) d).set q (sg*gI l q)))],?_,by rw[yH a];exact pZ rfl⟩
  have n:=cq bs k;have hz:((l.zip P).length)<=1000:=by rw[Ă];lia
  simp[bO,aD,dU,f,e,a,iZ,rY];rw[yI (ce oM),yn (F:=fun z=>SX.fdvS (z.1*gI P q-gI l q*z.2) d) gw fun z hz=>⟨_,rfl,rfl,by
   have:=ā hz
   simp[ba (cq (g _ this.1) j),ba (cq k (m _ this.2)),mK i];rfl⟩]
  simp[ba n];rw[dH (xs:=iL ((l.zip P).map fun z=>SX.fdvS (z.1*gI P q-gI l q*z.2) d)) rfl (by simp;lia),fJ];simp
theorem JR(b:RowR st x l)(f:l.length=w+1)(g:P.length=w+1)(e:q<w+1)(c:w<=100)(j:∀x∈l,x.natAbs<2^9000)(k:∀x∈P,x.natAbs<2^9000)(hd:d≠0)(bd:d.natAbs<2^9000)(bs:sg.natAbs<2^9000) :
  ∃st1,pm bO [x,.fz (iL P),.int q,.int sg,.int d] st=À (.fz (iL (chLine l P q sg d)),st1)/\(st1=st\/∃r,x=.ref r/\st[r]?=À (.lst (iL l))/\st1=st.set r (.al (.fz (iL l)))):=by
 obtain⟨v,a,i,h⟩:=Mc f g e c j k hd bd bs;exact lu (rest:=[.fz (iL P),.int q,.int sg,.int d]) b (by simp) rfl (fun s=>by simp[ph,lT,rf]) i h (by simp[flat])
end
section
variable{st:aa}{k a b c g n u w m:Nat}{rows:List AV}{S:Sh}
theorem Bd.row(B:Bd w m S)(P:Ot w m S){i:Nat}(c:i<m):∀x∈SX.row S i,x.natAbs<2^9000:=fun x d=>by
 obtain⟨j,b⟩:=z9 d;have a:=(zB.mp b).1;rw[P.rl c]at a
 have:=B.2 i c j a
 have e:S.t i j=x:=by show(SX.row S i).getD j 0=x;rw[zD,b];rfl
 rw[e]at this;exact this
theorem pv(R:Rep st k a b c g n u rows S)(P:Ot w m S)(B:Bd w m S)(hd:S.d≠0)(hw:w<=100)(hm:m<=1000){p q:Nat}(A:p<m)(hq:q<w) :
  ∃st' a' rows',aK [.ref k,.int p,.int q] st=À (.non,st')/\Rep st' k a' b c g n u rows' (SX.Oq S p q):=by
 have rl:rows.length=m:=by rw[R.len,P.ls]
 obtain⟨sg,D⟩:∃x,x=sgn (S.t p q):=⟨_,rfl⟩;obtain⟨o,N⟩:∃x,x=pvl S p q:=⟨_,rfl⟩;have E:o=(SX.row S p).map fun x=>sg*x:=by rw[N,D];rfl
 have lp:o.length=w+1:=by rw[E,zH];exact P.rl A
 have sa:sg.natAbs=1:=by rw[D];unfold sgn;split<;>rfl
 have bs:sg.natAbs<2^9000:=by rw[sa];exact O8 oM
 have bP:∀x∈o,x.natAbs<2^9000:=fun x G=>by
  rw[E]at G;obtain⟨y,hy,rfl⟩:=yD.mp G;rw[xA,sa,Ţ];exact B.row P A y hy
 have s1:∃t,im [(a,.lst rows)] (cg [bO] (.nm 7)) (jz [bO] .no) (ev [bO] (.ca Â 0 (.cons (.v 7) (.cons (.v 4) (.cons (.v 2) (.cons (.v 3) (.cons (.v 5) .nil))))))) [Rs k,Is p,Is q,Is sg,Ls o,Is S.d,Á,Á] rows st
   = À ((È rows.length).map fun i=>.fz (iL (chLine (SX.row S i) o q sg S.d)),t)/\Rep t k a b c g n u rows S:=by
  refine ym (J:=fun _ s=>Rep s k a b c g n u rows S) (fun _ s _ Z=>fg Z.ha) (fun i x s G Z=>?_) R;have hi:i<m:=by rw[<- rl];exact(zB.mp G).1
  obtain ⟨s1,e1,Y⟩:=JR (Z.row i x G) (P.rl hi) lp (show q < w + 1 by lia) hw (B.row P hi) bP hd B.1 bs;refine ⟨_,s1,rfl,rfl,by simp [e1],?_⟩;rcases Y with rfl | ⟨r,rfl,h2,rfl⟩
  ·exact Z
  ·exact Z.freeze G h2
 obtain⟨t,e1,R1⟩:=s1;obtain⟨f,M⟩:∃x,x=(È rows.length).map fun i=>AV.fz (iL (chLine (SX.row S i) o q sg S.d)):=⟨_,rfl⟩
 rw[<- M]at e1;have O:∀i x,f[i]?=À x->i<m/\x=.fz (iL (chLine (SX.row S i) o q sg S.d)):=fun i x h=>by
  rw[M,zR]at h;obtain⟨j,Y,rfl⟩:=zE.mp h;have W:=(zB.mp Y).1;rw[Ā]at W;rw[ĵ W]at Y;cases Y;exact⟨by lia,rfl⟩
 have l2:f.length=m:=by rw[M,zH,Ā,rl]
 have lt:∀{s:aa}{i:Nat}{x:Oh},s[i]?=À x->i<s.length:=fun h=>(zB.mp h).1
 have R2:Rep ((t++[Oh.lst f]).set k (.ins "Sheet" (dh S.d t.length b c g n u))) k t.length b c g n u f { S with ls:=S.ls.map fun l=>chLine l o q sg S.d }:=by
  refine Rep.fields (S':={ S with ls:=S.ls.map fun l=>chLine l o q sg S.d }) (R1.app (ys:=[Oh.lst f])) gl rfl rfl rfl rfl rfl (by simp[l2,P.ls]) (fun i x h=>?_) (ı (lt R1.hb)) (ı (lt R1.hc)) fun i r h=>?_
  ·obtain⟨hi,rfl⟩:=O i x h
   left;unfold SX.row;simp [zD,zF (show i < S.ls.length by rw [P.ls];exact hi)]
  ·have:=(O i _ h).2;cases this
 obtain⟨C,L⟩:∃x,x=(t++[Oh.lst f]).set k (.ins "Sheet" (dh S.d t.length b c g n u)):=⟨_,rfl⟩;rw[<- L]at R2;obtain⟨a',X⟩:∃x,x=t.length:=⟨_,rfl⟩;rw[<- X]at R2 L;have R3:=Rep.rowset (p:=p) (x:=.ref C.length) (l:=o.map fun x=>- x) (R2.app (ys:=[Oh.lst (iL (o.map fun x=>- x))])) (.inr ⟨C.length,rfl,.inl gl⟩) fun r e=>by cases e;exact⟨ı (lt R2.ha),ı (lt R2.hb),ı (lt R2.hc)⟩
 obtain⟨t3,K⟩:∃x,x=(C++[Oh.lst (iL (o.map fun x=>- x))]).set a' (.lst (f.set p (.ref C.length))):=⟨_,rfl⟩;rw[<- K]at R3;have g3:t3[C.length]?=À (.lst (iL (o.map fun x=>- x))):=by rw[K,aA (zU (lt R2.ha))];exact gl
 have p3:(f.set p (.ref C.length))[p]?=À (.ref C.length):=by simp[l2,A]
 have H:=Rep.cellset (l:=(o.map fun x=>- x).set q (sg*S.d)) R3 p3 fun i ne h=>by
  rw[yX,yH (fun z=>ne z.symm)]at h
  have:=(O i _ h).2;cases this
 obtain⟨t4,V⟩:∃x,x=t3.set C.length (.lst (iL ((o.map fun x=>- x).set q (sg*S.d)))):=⟨_,rfl⟩;rw[<- V]at H;have I:=Rep.fields (S':={ d:=gI o q,ls:=_,hd:=S.hd,sd:=S.sd,gd:=S.gd,nl:=S.nl,tn:=S.tn }) H H.ha rfl rfl rfl rfl rfl H.len H.row H.ab H.ac H.ra;obtain⟨t5,U⟩:∃x,x=t4.set k (.ins "Sheet" (dh (gI o q) a' b c g n u)):=⟨_,rfl⟩;have I:=U▸I;have R6:=Rep.sides (sd':=S.sd.set p (S.h q)) I;obtain⟨t6,T⟩:∃x,x=t5.set c (.lst (nL (S.sd.set p (S.h q)))):=⟨_,rfl⟩;rw[<- T]at R6;have R7:=Rep.heads (hd':=S.hd.set q (S.s p)) R6;obtain⟨t7,Q⟩:∃x,x=t6.set b (.lst (nL (S.hd.set q (S.s p)))):=⟨_,rfl⟩;rw[<- Q]at R7;refine⟨t7,a',f.set p (.ref C.length),?_,?_⟩
 rotate_left
 ·have e:SX.Oq S p q={ d:=gI o q,ls:=((S.ls.map fun l=>chLine l o q sg S.d).set p (o.map fun x=>- x)).set p ((o.map fun x=>- x).set q (sg*S.d)),hd:=S.hd.set q (S.s p),sd:=S.sd.set p (S.h q),gd:=S.gd,nl:=S.nl,tn:=S.tn }:=by
   unfold SX.Oq;rw[n!,N,D]
  rw[e];exact R7
 rw[aK,aD];unfold gf;refine ae (sl':=[Rs k,Is p,Is q,Is sg,Á,Á,Á]) (st':=st) ?_ ?_
 ·by_cases h:S.t p q<0
  ·simp [R.ins,R.line P A,R.cell P A (show q < w + 1 by lia),h,D,sgn]
  ·simp [R.ins,R.line P A,R.cell P A (show q < w + 1 by lia),h,D,sgn]
 refine ae (sl':=[Rs k,Is p,Is q,Is sg,Ls o,Á,Á]) (st':=st) ?_ ?_
 ·obtain⟨gd,i1,i2⟩:=(R.row p _ (R.rx P A)).it
  simp [R.ins,R.line P A,i1,ce (show (SX.row S p).length <= 1000 by rw [P.rl A];lia)];rw [kB (F:=fun x=>sg * x) i2 fun x G=>⟨_,rfl,rfl,by simp [ba (cq bs (B.row P A x G))]⟩];simp [E]
 refine ae (sl':=[Rs k,Is p,Is q,Is sg,Ls o,Is S.d,Á]) (st':=st) (by simp[R.ins]) ?_;refine ae (sl':=[Rs k,Is p,Is q,Is sg,Ls o,Is S.d,Á]) (st':=C) ?_ ?_
 ·rw[iJ (v:=.ref a') (st':=t++[.lst f]) (k:=k) (by simp[R.ins,jV R.ha,rl,ce hm,e1,X]) (by simp) R1.app.ins rfl,A1,L]
 refine ae (sl':=[Rs k,Is p,Is q,Is sg,Ls o,Is S.d,Á]) (st':=t3) ?_ ?_
 ·simp [ce (show o.length <= 1000 by lia)]
  rw [kB (F:=fun x=>- x) gw fun x G=>⟨_,rfl,rfl,by simp⟩];simp [R2.app.ins,dH (R2.app (ys:=[Oh.lst (iL (o.map fun x=>- x))])).ha (show p < f.length by lia),K]
 have P4:Ot w m { S with ls:=((S.ls.map fun l=>chLine l o q sg S.d).set p (o.map fun x=>- x)).set p ((o.map fun x=>- x).set q (sg*S.d)) }:=by
  have:=SX.exch_shp (c:=q) P A
  refine⟨by simp[P.ls],fun l W=>this.row l ?_,P.hd,P.sd⟩;show l∈(S.ls.map fun l=>chLine l (pvl S p q) q (sgn (S.t p q)) S.d).set p _;rw[<- N,<- D];rw[n!]at W;exact W
 have rx:lq (f.set p (.ref C.length)) p=.ref C.length:=by unfold lq;rw[zD,p3];rfl
 refine ae (sl':=[Rs k,Is p,Is q,Is sg,Ls o,Is S.d,Á]) (st':=t4) ?_ ?_
 ·have li:aY t3 (.ref a') (.int (p:Int))=À (.ref C.length):=by rw[cU (bH R3.ha),cG];exact p3
  simp [ba (cq bs B.1),R3.ins,li,dH g3 (show q < (iL (o.map fun x=>- x)).length by simp;lia),fJ,V]
 refine ae (sl':=[Rs k,Is p,Is q,Is sg,Ls o,Is S.d,Á]) (st':=t5) ?_ ?_
 ·have xi:aY t4 (.fz (iL o)) (.int (q:Int))=À (.int (gI o q)):=by rw[cU eN,cG,cj oM]
  rw[iJ (v:=.int (gI o q)) (st':=t4) (k:=k) (by simp[xi]) (by simp) H.ins rfl,A2,U]
 have P5:Ot w m { S with d:=gI o q,ls:=((S.ls.map fun l=>chLine l o q sg S.d).set p (o.map fun x=>- x)).set p ((o.map fun x=>- x).set q (sg*S.d)) }:=⟨P4.ls,P4.row,P4.hd,P4.sd⟩;refine ae (sl':=[Rs k,Is p,Is q,Is sg,Ls o,Is S.d,Is (S.s p:Int)]) (st':=t5) ?_ ?_
 ·have:=I.side P5 A
  simp[I.ins,this];rfl
 refine ae (sl':=[Rs k,Is p,Is q,Is sg,Ls o,Is S.d,Is (S.s p:Int)]) (st':=t6) ?_ ?_
 ·have:=I.head P5 hq
  simp [I.ins,this,dH I.hc (show p < (nL S.sd).length by simp [P.sd,A]),T];rw [<- yg];rfl
 refine ae (sl':=[Rs k,Is p,Is q,Is sg,Ls o,Is S.d,Is (S.s p:Int)]) (st':=t7) ?_ rfl;simp [R6.ins,dH R6.hb (show q < (nL S.hd).length by simp [P.hd,hq]),Q,yg]
end
open SX (MI Rais Oo Kept Oq)
noncomputable def ins(l:List Nat)(q:Nat):List Nat:=if q∈l then l else l++[q]
section
variable{st:aa}{k a b c g n u w m:Nat}{rows:List AV}{S:Sh}{p q:Nat}
theorem vx(R:Rep st k a b c g n u rows S)(d:S.gd.length<=1000):∃st',aN [.ref k,.int q] st=À (.non,st')/\Rep st' k a b c g n u rows { S with gd:=ins S.gd q }:=by
 refine⟨_,?_,R.guard⟩;simp[aN,aD,iD,R.ins,qb R.hg d,ins]
theorem sI(R:Rep st k a b c g n u rows S)(d:S.nl.length<=1000):∃st',d3 [.ref k,.int q] st=À (.non,st')/\Rep st' k a b c g n u rows { S with nl:=ins S.nl q }:=by
 refine⟨_,?_,R.nail⟩;simp[d3,aD,jj,R.ins,qb R.hn d,ins]
theorem ET(R:Rep st k a b c g n u rows S)(P:Ot w m S)(s:w<=100)(d:p<m)(j:S.tn.length<=1000):∃st' rows',cM [.ref k,.int p] st=À (.non,st')/\Rep st' k a b c g n u rows' (SX.trn S p):=by
 have f:=Rep.rowset (p:=p) (x:=.fz (iL ((SX.row S p).map fun x=>- x))) (l:=(SX.row S p).map fun x=>- x) R (.inl rfl) fun r e=>nomatch e
 have R2:=Rep.turned (tn':=if S.s p∈S.tn then S.tn else S.tn++[S.s p]) f;refine⟨_,_,?_,R2⟩;obtain⟨t,i,h⟩:=(R.row p _ (R.rx P d)).it;have o:Ot w m { S with ls:=S.ls.set p ((SX.row S p).map fun x=>- x) }:=⟨(SX.trn_shp P d).ls,(SX.trn_shp P d).row,P.hd,P.sd⟩;rw[cM,aD];unfold fD;refine ae (sl':=[Rs k,Is p]) (st':=st.set a (.lst (rows.set p (.fz (iL ((SX.row S p).map fun x=>- x)))))) ?_ ?_
 ·simp [R.ins,R.line P d,i,ce (show (SX.row S p).length <= 1000 by rw [P.rl d];lia)]
  rw [kB (F:=fun x=>- x) h fun x q=>⟨_,rfl,rfl,by simp⟩];simp [R.ins,dH R.ha (show p < rows.length by rw [R.len,P.ls];exact d)]
 ·have:=f.side o d
  simp[f.ins,this];rw[qb f.hu j];rfl
theorem Ji(R:Rep st k a b c g n u rows S)(P:Ot w m S)(A:w<=100)(r:p<m):∃o:Option Nat,bV [.ref k,.int p] st=À (oN o,st)/\(o=Á->∀j,j<w->S.h j∉S.nl->S.t p j=0)/\∀q,o=À q->q<w/\S.h q∉S.nl/\S.t p q≠0:=by
 have t:(b8 S).length<=1000:=by
  unfold b8;rw[zH]
  have:=A? (fun z:Nat×Nat=>!decide (z.1∈S.nl)) S.hd.zipIdx
  rw[M?,P.hd]at this;lia
 have inl:∀j,j∈(b8 S).filter (fun j=>!decide (S.t p j=0)) ↔ (j<w/\S.h j∉S.nl)/\S.t p j≠0:=fun j=>by rw[Ŀ,jp P];simp
 have d:∃o:Option Nat,Bh (((b8 S).filter fun j=>!decide (S.t p j=0)).map fun j=>((j:Nat):Int))=oN o/\(o=Á->(b8 S).filter (fun j=>!decide (S.t p j=0))=[])/\∀q,o=À q->q∈(b8 S).filter fun j=>!decide (S.t p j=0):=by
  generalize (b8 S).filter (fun j=>!decide (S.t p j=0))=l;cases l with
  |nil=>exact⟨Á,rfl,fun _=>rfl,fun q h=>nomatch h⟩
  |cons x l =>
   have h:=(DD.minF (l.map fun j=>((j:Nat):Int)) (x:Int)).1;rw[<- zO (f:=fun j:Nat=>((j:Nat):Int))]at h;obtain⟨y,v,e⟩:=yD.mp h;refine⟨À y,?_,(fun z=>nomatch z),fun q z=>by cases z;exact v⟩;show AV.int _=AV.int _;rw[e]
 obtain⟨o,D,I,H⟩:=d;refine⟨o,?_,fun e j i E=>ĉ fun C=>?_,fun q e=>?_⟩
 ·simp[bV,aD,dW,R.ins,R.line P r,vh R P A,nL,ce t]
  rw [gY (B:=fun j=>!decide (S.t p j=0)) (F:=fun j:Nat=>.int (j:Int)) gw fun j i=>⟨_,rfl,by simp [R.cell P r (show j < w + 1 by have:=(jp P).mp i;lia)],fun _=>rfl⟩];have G:rfs (((b8 S).filter fun j=>!decide (S.t p j=0)).map fun j:Nat=>(AV.int (j:Int)))=Â:=nX;have s:=vk (l:=(b8 S).filter fun j=>!decide (S.t p j=0));unfold nL at s;simp [G,bo,oJ,lsI,s,D]
 ·have d:=(inl j).mpr ⟨⟨i,E⟩,C⟩
  rw[I e]at d;cases d
 ·have:=(inl q).mp (H q e)
  exact⟨this.1.1,this.1.2,this.2⟩
end
section
variable{st:aa}{k a b c g n u w m:Nat}{rows:List AV}{S:Sh}{p:Nat}{v:Nat->Nat->Int}
structure Bnd(w m:Nat)(v:Nat->Nat->Int):Prop where
 ex:∃M:Nat,1<=M/\(∀q x,x<w+1->(v q x).natAbs<=M)/\SX.fct (w+1)*M^(w+1)<2^2500
 hw:w<=100
 hm:m<=1000
theorem Bnd.bd(H:Bnd w m v)(I:MI w m v S):Bd w m S:=by
 obtain⟨M,c,b,a⟩:=H.ex;exact I.bound c b (z! a (Ĩ dC dC))
theorem Bnd.bd8(H:Bnd w m v)(I:MI w m v S):S.d.natAbs<2^8900/\∀i,i<m->∀j,j<w+1->(S.t i j).natAbs<2^8900:=by
 obtain⟨M,c,b,a⟩:=H.ex;exact I.bound c b (z! a (Ĩ dC dC))
theorem Bnd.bd2(H:Bnd w m v)(I:MI w m v S):S.d.natAbs<2^2500/\∀i,i<m->∀j,j<w+1->(S.t i j).natAbs<2^2500:=by
 obtain⟨M,c,b,a⟩:=H.ex;exact I.bound c b a
def vK(w m:Nat)(v:Nat->Nat->Int)(k b c g n u p:Nat)(e:Sh)(o:Out):Prop:=∃(S:Sh)(a:aa)(h:Nat)(d:List AV),Rep a k h b c g n u d S/\Kept m p e S /\
 ((o=.rt (.bl Â) a/\MI w m v { S with gd:=S.gd++[e.s p] }/\MI w m v { S with nl:=S.nl++[e.s p] }) \/
  (o=.rt (.bl Ã) a/\MI w m v S/\S.s p=e.s p/\S.t p w<0/\∀j,j<w->S.h j∉S.nl->¬0<S.t p j) \/
  ∃f,o=.nx f a/\MI w m v S/\S.s p=e.s p/\0<=e.t p w)
theorem yk(H:Bnd w m v)(R:Rep st k a b c g n u rows S0)(I:MI w m v S0)(j:p<m)(V:S0.s p∉S0.gd)(nn:S0.s p∉S0.nl) :
  ∃o,mP (tv [aI,aH,aR,aK] (.cmp .Lt (.ix (.ix (.fd "Sheet" "lines" (.v 0)) (.v 1)) (.un .USub (.i 1))) (.i 0)))
   (ai [aI,aH,aR,aK] (.cons (.as (.me "Sheet" "raising_column" 0 (.v 0) (.cons (.v 1) .nil)) (.nm 2))
    (.cons (.iff (.cmp .Is (.v 2) .n) (.cons (.rt (.b Ã)) .nil) .nil)
    (.cons (.as (.me "Sheet" "tightest_place" 1 (.v 0) (.cons (.v 2) .nil)) (.nm 3))
    (.cons (.iff (.or (.cmp .Is (.v 3) .n) (.va (.me "Sheet" "is_up_first" 2 (.v 0) (.cons (.v 1) (.cons (.v 3) (.cons (.v 2) .nil)))))) (.cons (.ex (.me "Sheet" "exchange" 3 (.v 0) (.cons (.v 1) (.cons (.v 2) .nil)))) (.cons (.rt (.b Â)) .nil)) .nil)
    (.cons (.ex (.me "Sheet" "exchange" 3 (.v 0) (.cons (.v 3) (.cons (.v 2) .nil)))) .nil)))))) [Rs k,Is p,x,y] st=À o/\vK w m v k b c g n u p S0 o:=by
 refine uA (α:=Sh) (a0:=S0) (I:=fun S U s=>(∃L d x y,U=[Rs k,Is p,x,y]/\Rep s k L b c g n u d S)/\MI w m v S/\Kept m p S0 S/\S.s p=S0.s p/\(S0.t p w<0->S.t p w<0))
  (Q:=fun S T=>MI w m v S/\(∃r q e,SX.Bl w m p (·∈S.gd) (·∈S.nl) r q e (SX.toSt S) (SX.toSt T))/\Kept m p S T) (fun f h0 hf=>SX.no_chain j f hf (by rw[h0];exact V)) (fun S U s hI=>?_) ⟨⟨a,rows,x,y,rfl,R⟩,I,Kept.refl,rfl,id⟩
 obtain⟨⟨L,d,x,y,rfl,R⟩,I,K,sp,Y⟩:=hI;have B:=H.bd I;have P:=I.shp;have t:S.s p∉S.gd:=by rw[sp,K.gd];exact V
 have M:S.s p∉S.nl:=by rw[sp,K.nl];exact nn
 have C:tv [aI,aH,aR,aK] (.cmp .Lt (.ix (.ix (.fd "Sheet" "lines" (.v 0)) (.v 1)) (.un .USub (.i 1))) (.i 0)) [Rs k,Is p,x,y] s=À (decide (S.t p w<0),s):=by
  simp[R.ins,R.line P j,R.last P j]
 by_cases low:S.t p w<0
 ·rw[yW low]at C
  obtain⟨o,J,F⟩:=sD R P H.hw j;cases o with
  |none =>
   left;refine⟨_,rZ (v:=.bl Ã) (st2:=s) C ?_,S,s,L,d,R,K,.inr (.inl ⟨rfl,I,sp,low,F.1 rfl⟩)⟩;simp[R.ins,J,oN]
  |some q =>
   obtain⟨E,_,q3,_⟩:=F.2 q rfl;obtain⟨o,O,D⟩:=uH R P B E;have W:S.d≠0:=by have:=I.lin.pos;lia
   have ay:(Oo S w q m Á\/∃r,Oo S w q m (À r)/\S.t p w*S.t r q<=S.t r w*S.t p q)->o=Á\/(∃r,o=À r/\S.t p w*S.t r q<=S.t r w*S.t p q)->∃o,dA (tv [aI,aH,aR,aK] (.cmp .Lt (.ix (.ix (.fd "Sheet" "lines" (.v 0)) (.v 1)) (.un .USub (.i 1))) (.i 0)))
     (ai [aI,aH,aR,aK] (.cons (.as (.me "Sheet" "raising_column" 0 (.v 0) (.cons (.v 1) .nil)) (.nm 2))
    (.cons (.iff (.cmp .Is (.v 2) .n) (.cons (.rt (.b Ã)) .nil) .nil)
    (.cons (.as (.me "Sheet" "tightest_place" 1 (.v 0) (.cons (.v 2) .nil)) (.nm 3))
    (.cons (.iff (.or (.cmp .Is (.v 3) .n) (.va (.me "Sheet" "is_up_first" 2 (.v 0) (.cons (.v 1) (.cons (.v 3) (.cons (.v 2) .nil)))))) (.cons (.ex (.me "Sheet" "exchange" 3 (.v 0) (.cons (.v 1) (.cons (.v 2) .nil)))) (.cons (.rt (.b Â)) .nil)) .nil)
    (.cons (.ex (.me "Sheet" "exchange" 3 (.v 0) (.cons (.v 3) (.cons (.v 2) .nil)))) .nil)))))) 1 [Rs k,Is p,x,y] s=À o/\vK w m v k b c g n u p S0 o:=fun hT Z=>by
    obtain⟨l,a2,i,G,R2⟩:=pv R P B W H.hw H.hm j E;obtain⟨N,m2,m3⟩:=I.up j t M low F hT;refine⟨_,rZ (v:=.bl Â) (st2:=l) C ?_,Oq S p q,l,a2,i,R2,K.trans m3,.inl ⟨rfl,by rw[<- sp];exact N,by rw[<- sp];exact m2⟩⟩;rcases Z with rfl|⟨r,rfl,A⟩
    ·simp[R.ins,J,oN,O,G]
    ·have:=B0 R P B j (D.2 r rfl).1 E
     simp[R.ins,J,oN,O,G,this,fx,bI,dr,A]
   cases o with
   |none=>exact .inl (ay (.inl D) (.inl rfl))
   |some r =>
    by_cases A:S.t p w*S.t r q<=S.t r w*S.t p q
    ·exact .inl (ay (.inr ⟨r,D,A⟩) (.inr ⟨r,rfl,A⟩))
    ·right
     have r1:=(D.2 r rfl).1;obtain⟨l,a2,i,G,R2⟩:=pv R P B W H.hw H.hm r1 E;obtain⟨N,m2,m3,X⟩:=I.step j t F D;refine⟨Oq S r q,[Rs k,Is p,Is q,Is r],l,⟨I,⟨r,q,_,m2⟩,m3⟩,⟨⟨a2,i,_,_,rfl,R2⟩,N,K.trans m3,X.trans sp,fun _=>I.low j t F D A⟩,fun n o h=>pP C ?_ h⟩
     have:=B0 R P B j r1 E
     simp[R.ins,J,oN,O,G,this,fx,bI,dr,A]
 ·rw[yA low]at C
  left;exact⟨_,mq C,S,s,L,d,R,K,.inr (.inr ⟨_,rfl,I,sp,by
   rcases yV (S0.t p w) 0 with z|z
   ·exact absurd (Y z) low
   ·exact z⟩)⟩
end
section
variable{st:aa}{k a b c g n u w m:Nat}{rows:List AV}{S:Sh}{p:Nat}{v:Nat->Nat->Int}
theorem yj(H:Bnd w m v)(R:Rep st k a b c g n u rows S0)(I:MI w m v S0)(d:p<m)(r:S0.s p∉S0.gd)(nn:S0.s p∉S0.nl) :
  ∃(S:Sh)(st':aa)(a':Nat)(rows':List AV)(bb:Bool),cH [.ref k,.int p] st=À (.bl bb,st')/\Rep st' k a' b c g n u rows' S/\Kept m p S0 S /\
   ((bb=Â/\MI w m v { S with gd:=S.gd++[S0.s p] }/\(S0.t p w<0->MI w m v { S with nl:=S.nl++[S0.s p] })) \/
    (bb=Ã/\MI w m v S/\S.s p=S0.s p/\S.t p w<0/\∀j,j<w->S.h j∉S.nl->¬0<S.t p j)):=by
 by_cases low:S0.t p w<0
 ·obtain⟨o,e,S,st',a',rows',q,K,h⟩:=yk H R I d r nn (x:=Á) (y:=Á)
  rcases h with⟨rfl,i,f⟩|⟨rfl,i,f,l,s⟩|⟨t,rfl,i,f,l⟩
  ·refine⟨S,st',a',rows',Â,?_,q,K,.inl ⟨rfl,i,fun _=>f⟩⟩
   simp[cH,aD,eY,e]
  ·refine⟨S,st',a',rows',Ã,?_,q,K,.inr ⟨rfl,i,f,l,s⟩⟩
   simp[cH,aD,eY,e]
  ·lia
 ·refine⟨S0,st,a,rows,Â,?_,R,Kept.refl,.inl ⟨rfl,I.guard d oM,fun z=>absurd z low⟩⟩
  have P:=I.shp;rw[cH,aD];unfold eY;refine ae (sl':=[Rs k,Is p,Á,Á]) (st':=st) (oy (n:=1) (mq (by simp[R.ins,R.line P d,R.last P d,low]))) ?_;simp
theorem EA(H:Bnd w m v)(R:Rep st k a b c g n u rows S0)(I:MI w m v S0)(l:p<m)(A:S0.s p∉S0.gd) :
  ∃r,bG [.ref k,.int p] st=À r/\∃(S:Sh)(a':Nat)(rows':List AV),Rep r.2 k a' b c g n u rows' S/\Kept m p S0 S/\MI w m v S/\S.s p=S0.s p /\
   ((r.1=.non/\Rais w S p Á)\/∃q,r.1=.int ((q:Nat):Int)/\Rais w S p (À q)/\Oo S w q m Á):=by
 rw[bG];simp only[aD];unfold gg;obtain⟨o,V,i⟩:=sD R I.shp H.hw l;refine au (sl':=[Rs k,Is p,À (oN o),Á]) (st':=st) (by simp[R.ins,V]) ?_;refine Fq (Post:=fun out=>∃(S:Sh)(a':Nat)(rows':List AV)(st':aa),Rep st' k a' b c g n u rows' S/\Kept m p S0 S/\MI w m v S/\S.s p=S0.s p /\
   ((∃j,out=.nx j st'/\Rais w S p Á)\/∃q,out=.rt (.int ((q:Nat):Int)) st'/\Rais w S p (À q)/\Oo S w q m Á))
  (uA (α:=Sh) (a0:=S0) (I:=fun S j s=>(∃a' rows' x o,j=[Rs k,Is p,À (oN o),x]/\Rep s k a' b c g n u rows' S/\Rais w S p o)/\MI w m v S/\Kept m p S0 S/\S.s p=S0.s p)
   (Q:=fun S T=>MI w m v S/\(∃r q e,SX.Bl w m p (·∈S.gd) (·∈S.nl) r q e (SX.toSt S) (SX.toSt T))/\Kept m p S T) (fun f N J=>SX.no_chain l f J (by rw[N];exact A)) (fun S j s L=>?_) ⟨⟨a,rows,Á,o,rfl,R,i⟩,I,Kept.refl,rfl⟩) ?_
 ·obtain⟨⟨a',rows',x,o,rfl,R,i⟩,I,K,sp⟩:=L
  have B:=H.bd I;have P:=I.shp;have t:S.s p∉S.gd:=by rw[sp,K.gd];exact A
  cases o with
  |none =>
   left;exact⟨_,mq (st':=s) (by simp[oN]),S,a',rows',s,R,K,I,sp,.inl ⟨_,rfl,i⟩⟩
  |some q =>
   obtain⟨z,_,X,_⟩:=i.2 q rfl;obtain⟨o,D,y⟩:=uH R P B z;cases o with
   |none =>
    left;refine⟨_,rZ (v:=.int q) (st':=s) (st2:=s) (by simp[oN]) ?_,S,a',rows',s,R,K,I,sp,.inr ⟨q,rfl,i,y⟩⟩;simp[R.ins,oN,D]
   |some r =>
    right;have W:S.d≠0:=by have:=I.lin.pos;lia
    have r1:=(y.2 r rfl).1;obtain⟨st',a2,d,U,R2⟩:=pv R P B W H.hw H.hm r1 z;obtain⟨C,m2,m3,G⟩:=I.step l t i y;obtain⟨o,O,M⟩:=sD R2 C.shp H.hw l;refine⟨Oq S r q,[Rs k,Is p,À (oN o),Is r],st',⟨I,⟨r,q,_,m2⟩,m3⟩,⟨⟨a2,d,_,o,rfl,R2,M⟩,C,K.trans m3,G.trans sp⟩,fun n Y h=>pP (st':=s) (by simp[oN]) ?_ h⟩;simp[R.ins,oN,D,U,R2.ins,O]
 ·rintro out ⟨S,a',rows',st',E,K,F,sp,⟨j,rfl,h⟩|⟨q,rfl,h⟩⟩
  ·exact⟨(.non,st'),by simp,S,a',rows',E,K,F,sp,.inl ⟨rfl,h⟩⟩
  ·exact⟨(.int q,st'),by simp,S,a',rows',E,K,F,sp,.inr ⟨q,rfl,h⟩⟩
end
structure Kj(m p:Nat)(S T:Sh):Prop where
 tn:T.tn=S.tn\/T.tn=S.tn++[S.s p]
 si:∀i,i<m->i≠p->S.s i∉S.gd->T.s i=S.s i
section
variable{st:aa}{k a b c g n u w m:Nat}{rows:List AV}{S:Sh}{p:Nat}{v:Nat->Nat->Int}
theorem Js(H:Bnd w m v)(R:Rep st k a b c g n u rows S0)(I:MI w m v S0)(i:p<m)(r:S0.s p∉S0.gd)(nn:S0.s p∉S0.nl)(t:S0.gd.length<=1000) :
  ∃(S:Sh)(st':aa)(a':Nat)(rows':List AV)(bb:Bool),bN [.ref k,.int p] st=À (.bl bb,st')/\Rep st' k a' b c g n u rows' S/\Kj m p S0 S/\S.tn=S0.tn/\S.nl=S0.nl/\MI w m v S /\
   ((bb=Â/\S.gd=S0.gd++[S0.s p])\/(bb=Ã/\S.gd=S0.gd/\S.s p=S0.s p/\S.t p w<0/\∀j,j<w->S.h j∉S.nl->¬0<S.t p j)):=by
 have P:=I.shp;obtain⟨S,f,a1,d,bb,s,o,K,h⟩:=yj H R I i r nn;rcases h with⟨rfl,l,_⟩|⟨rfl,l,x⟩
 ·obtain⟨e,z,R2⟩:=vx (q:=S0.s p) o (by rw[K.gd];exact t)
  have y:ins S.gd (S0.s p)=S.gd++[S0.s p]:=yH (by rw[K.gd];exact r);rw[y]at R2;refine⟨{ S with gd:=S.gd++[S0.s p] },e,a1,d,Â,?_,R2,⟨.inl K.tn,K.si⟩,K.tn,K.nl,l,.inl ⟨rfl,by rw[K.gd]⟩⟩;simp[bN,aD,fi,R.ins,R.side P i,s,fx,bI,dr,o.ins,z]
 ·refine⟨S,f,a1,d,Ã,?_,o,⟨.inl K.tn,K.si⟩,K.tn,K.nl,l,.inr ⟨rfl,K.gd,x⟩⟩
  simp[bN,aD,fi,R.ins,R.side P i,s,fx,bI,dr]
theorem Jt(H:Bnd w m v)(R:Rep st k a b c g n u rows S0)(I:MI w m v S0)(f:p<m)(ng:S0.s p∉S0.gd)(nn:S0.s p∉S0.nl)(nt:S0.s p∉S0.tn)(X:S0.nl.length<=1000)(W:S0.tn.length<=1000){G:Prop}(bk:∀(S:Sh)(st':aa)(a':Nat)(rows':List AV)(bb:Bool),cF [.ref k,.int p] st=À (.bl bb,st')->Rep st' k a' b c g n u rows' S->Kj m p S0 S->S.gd=S0.gd->MI w m v S->((bb=Â/\S.nl=S0.nl++[S0.s p])\/(bb=Ã/\S.nl=S0.nl/\S.s p=S0.s p/\S.t p w<0/\∀j,j<w->S.h j∉S.nl->¬0<S.t p j))->G):G:=by
 have P:=I.shp
 have s1:∃(d:Sh)(t:aa)(e:List AV),cW [cM,cH,bV,aK,d3] (.iff (.cmp .Gt (.ix (.ix (.fd "Sheet" "lines" (.v 0)) (.v 1)) (.un .USub (.i 1))) (.i 0)) (.cons (.ex (.me "Sheet" "turn_line" 0 (.v 0) (.cons (.v 1) .nil))) .nil) .nil) [Rs k,Is p,Is (S0.s p:Int),Á] st=À (.nx [Rs k,Is p,Is (S0.s p:Int),Á] t) /\
   Rep t k a b c g n u e d/\MI w m v d/\d.gd=S0.gd/\d.nl=S0.nl/\(d.tn=S0.tn\/d.tn=S0.tn++[S0.s p])/\d.sd=S0.sd/\d.t p w<=0:=by
  by_cases h:0<S0.t p w
  ·obtain⟨t,e,Y,s⟩:=ET R P H.hw f W
   refine⟨SX.trn S0 p,t,e,?_,s,I.turn f ng nn nt,rfl,rfl,.inr (yH nt),rfl,?_⟩
   ·simp[R.ins,R.line P f,R.last P f,h,Y]
   ·rw[(SX.trn_t P f).1 w oM];lia
  ·refine⟨S0,st,rows,?_,R,I,rfl,rfl,.inl rfl,rfl,by lia⟩
   simp[R.ins,R.line P f,R.last P f,h]
 obtain⟨d,t,e,Y,s,E,g1,y,t1,d1,low1⟩:=s1;have B:∀i,d.s i=S0.s i:=fun i=>by show d.sd.getD i 0=S0.sd.getD i 0;rw[d1]
 have z:=E.shp;have U:d.s p∉d.nl:=by rw[B,y];exact nn
 have V:d.s p∉d.gd:=by rw[B,g1];exact ng
 have D:∀T:Sh,Kept m p d T->Kj m p S0 T:=fun T K=>⟨by rw[K.tn];exact t1,fun i hi ne h=>by rw[K.si i hi ne (by rw[B,g1];exact h),B]⟩
 have hd:∀{r:AV×aa},(ai [cM,cH,bV,aK,d3] (.cons (.iff (.cmp .Lt (.ix (.ix (.fd "Sheet" "lines" (.v 0)) (.v 1)) (.un .USub (.i 1))) (.i 0)) (.cons (.iff (.no (.va (.me "Sheet" "lift" 1 (.v 0) (.cons (.v 1) .nil)))) (.cons (.rt (.b Ã)) .nil) .nil) .nil)
   (.cons (.as (.me "Sheet" "moving_column" 2 (.v 0) (.cons (.v 1) .nil)) (.nm 3)) (.cons (.iff (.cmp .IsNot (.v 3) .n) (.cons (.ex (.me "Sheet" "exchange" 3 (.v 0) (.cons (.v 1) (.cons (.v 3) .nil)))) .nil) .nil) .nil)))
   (.cons (.ex (.me "Sheet" "nail" 4 (.v 0) (.cons (.v 2) .nil))) (.cons (.rt (.b Â)) .nil))) [Rs k,Is p,Is (S0.s p:Int),Á] t).bind ay=À r->cF [.ref k,.int p] st=À r:=fun h=>by
  rw[cF,aD];unfold jN;exact ae (sl':=[Rs k,Is p,Is (S0.s p:Int),Á]) (st':=st) (by simp[R.ins,R.side P f]) (ae Y h)
 by_cases low:d.t p w<0
 ·obtain⟨S,F,a2,l,bb,N,R2,K,h⟩:=yj H s E f V U
  rcases h with⟨rfl,Q,A⟩|⟨rfl,Q,A⟩
  ·obtain⟨x,M,C⟩:=sI (q:=S0.s p) R2 (by rw[K.nl,y];exact X)
   have L:ins S.nl (S0.s p)=S.nl++[S0.s p]:=yH (by rw[K.nl,y];exact nn);rw[L]at C;have A:=A low;rw[B]at A;refine bk ({ S with nl:=S.nl++[S0.s p] }) x a2 l Â (hd ?_) C (⟨(D S K).tn,(D S K).si⟩) (K.gd.trans g1) A (.inl ⟨rfl,by rw[K.nl,y]⟩);simp[s.ins,s.line z f,s.last z f,low,N,fx,bI,dr,R2.ins,M]
  ·refine bk S F a2 l Ã (hd ?_) R2 (D S K) (K.gd.trans g1) Q (.inr ⟨rfl,K.nl.trans y,A.1.trans (B p),A.2⟩)
   simp[s.ins,s.line z f,s.last z f,low,N,fx,bI,dr]
 ·have O:d.t p w=0:=by lia
  obtain⟨o,N,Q,A⟩:=Ji s z H.hw f;cases o with
  |none =>
   obtain⟨x,M,C⟩:=sI (q:=S0.s p) s (by rw[y];exact X);have L:ins d.nl (S0.s p)=d.nl++[S0.s p]:=yH (by rw[y];exact nn);rw[L]at C;have J:=E.nail f O (Q rfl);rw[B]at J;refine bk ({ d with nl:=d.nl++[S0.s p] }) x a e Â (hd ?_) C (⟨(D d Kept.refl).tn,(D d Kept.refl).si⟩) g1 J (.inl ⟨rfl,by rw[y]⟩);simp[s.ins,s.line z f,s.last z f,O,N,oN,M]
  |some q =>
   obtain⟨Z,q2,q3⟩:=A q rfl;have d0:d.d≠0:=by have:=E.lin.pos;lia
   obtain⟨F,a2,l,e4,R2⟩:=pv s z (H.bd E) d0 H.hw H.hm f Z;obtain⟨x,M,C⟩:=sI (q:=S0.s p) R2 (by show d.nl.length<=1000;rw[y];exact X);have L:ins (Oq d p q).nl (S0.s p)=d.nl++[S0.s p]:=yH (by show S0.s p∉d.nl;rw[y];exact nn);rw[L]at C;obtain⟨J,K⟩:=E.move f Z q2 O q3;rw[B]at J;refine bk ({ Oq d p q with nl:=d.nl++[S0.s p] }) x a2 l Â (hd ?_) C (⟨(D _ K).tn,(D _ K).si⟩) g1 J (.inl ⟨rfl,by rw[y]⟩);simp[s.ins,s.line z f,s.last z f,O,N,oN,e4,R2.ins,M]
end
open SX (openS)
structure Gv where
 row:List Int
 eq:Bool
 num:Int
def Gv.av(x:Gv):AV:=.tup [.fz (iL x.row),.str (if x.eq then "=" else ">"),.int x.num]
def ah(RR:List (List Int))(gv:List Gv)(goal:List Int):List (List Int):=RR.map (·++[0])++gv.map (fun x=>x.row++[-x.num])++[goal.map (fun x=>- x)++[0]]
section
variable{w:Nat}{L RR:List (List Int)}{gv:List Gv}{goal:List Int}
abbrev qM:List (Ì×AV):=[("below",.int 1)]
abbrev HE:List (Ì×AV):=[("below",.int 1),("lines",.ref 2)]
abbrev HD:List (Ì×AV):=[("below",.int 1),("lines",.ref 2),("heads",.ref 3)]
abbrev HC:List (Ì×AV):=[("below",.int 1),("lines",.ref 2),("heads",.ref 3),("sides",.ref 4)]
abbrev HB:List (Ì×AV):=[("below",.int 1),("lines",.ref 2),("heads",.ref 3),("sides",.ref 4),("guarded",.ref 5)]
abbrev Hz:List (Ì×AV):=[("below",.int 1),("lines",.ref 2),("heads",.ref 3),("sides",.ref 4),("guarded",.ref 5),("nailed",.ref 6)]
abbrev ML(w:Nat)(L:List (List Int)):aa:=[.lst (aj L),.ins "Sheet" (dh 1 2 3 4 5 6 7),.lst (aj L),.lst (nL (È w)),.lst (nL ((È L.length).map (w+·))),.dK [],.dK [],.dK []]
theorem Hh(i:w<=100)(hL:L.length<=400):aG [.ref 1,.int w,.ref 0] [.lst (aj L),.ins "Sheet" []]=À (.non,[.lst (aj L),.ins "Sheet" (dh 1 2 3 4 5 6 7),.lst (aj L),.lst (nL (È w)),.lst (nL ((È L.length).map (w+·))),.dK [],.dK [],.dK []]):=by
 have b:qB (w:Int)=Â:=by unfold qB;simp;lia
 have a:qB ((w:Int)+(L.length:Int))=Â:=by unfold qB;simp;lia
 have c:∀X:aa,bI (.lst (aj L)::X) (.ref 0)=À (aj L):=fun X=>bH rfl
 rw[aG,aD];unfold gh;refine ae (st':=[.lst (aj L),.ins "Sheet" qM]) (iJ (v:=.int 1) (st':=[.lst (aj L),.ins "Sheet" []]) (k:=1) (fs:=[]) rfl rfl rfl rfl) ?_;refine ae (st':=[.lst (aj L),.ins "Sheet" HE,.lst (aj L)]) (iJ (v:=.ref 2) (st':=[.lst (aj L),.ins "Sheet" qM,.lst (aj L)]) (k:=1) (fs:=qM) ?_ rfl rfl rfl) ?_
 ·have e:=wB (gd:=[(0,.lst (aj L))]) (g:=cg [] (.nm 3)) (t:=jz [] .no) (f:=ev [] (.nw Ã (.lof (.v 3)))) (sl:=[Rs 1,Is w,Rs 0,Á]) (st:=[.lst (aj L),.ins "Sheet" qM]) (em:=fun l=>.fz (iL l)) (F:=fun l=>l) (xs:=L) (fg rfl) fun l j=>⟨_,rfl,rfl,by simp[p6]⟩
  rw [List.map_id'] at e;have h:im [(0,.lst (aj L))] (cg [] (.nm 3)) (jz [] .no) (ev [] (.nw Ã (.lof (.v 3)))) [Rs 1,Is w,Rs 0,Á] (aj L) [.lst (aj L),.ins "Sheet" qM]=À (aj L,[.lst (aj L),.ins "Sheet" qM]):=e;have d:oU [.lst (aj L),.ins "Sheet" qM] (.ref 0)=À ⟨aj L,[(0,.lst (aj L))]⟩:=jV rfl;show ev [] (.nw Â (.lc 1 (.e (.v 2)) (.nm 3) .no (.nw Ã (.lof (.v 3))))) [Rs 1,Is w,Rs 0] [.lst (aj L),.ins "Sheet" qM]=_;simp [-aj,d,ce (show L.length <= 1000 by lia),h]
 refine ae (st':=[.lst (aj L),.ins "Sheet" HD,.lst (aj L),.lst (nL (È w))]) (iJ (v:=.ref 3) (st':=[.lst (aj L),.ins "Sheet" HE,.lst (aj L),.lst (nL (È w))]) (k:=1) (fs:=HE) ?_ rfl rfl rfl) ?_
 ·simp[wo,b,oA]
 refine ae (st':=[.lst (aj L),.ins "Sheet" HC,.lst (aj L),.lst (nL (È w)),.lst (nL ((È L.length).map (w+·)))]) (iJ (v:=.ref 4) (st':=[.lst (aj L),.ins "Sheet" HD,.lst (aj L),.lst (nL (È w)),.lst (nL ((È L.length).map (w+·)))]) (k:=1) (fs:=HD) ?_ rfl rfl rfl) ?_
 ·simp[wn,b,a,bo,dB,c]
  have e:((w:Int)+(L.length:Int)).toNat-w=L.length:=by lia
  rw[e,IC,yI oM];simp
 refine ae (st':=[.lst (aj L),.ins "Sheet" HB,.lst (aj L),.lst (nL (È w)),.lst (nL ((È L.length).map (w+·))),.dK []]) (iJ (v:=.ref 5) (st':=[.lst (aj L),.ins "Sheet" HC,.lst (aj L),.lst (nL (È w)),.lst (nL ((È L.length).map (w+·))),.dK []]) (k:=1) (fs:=HC) rfl rfl rfl rfl) ?_;refine ae (st':=[.lst (aj L),.ins "Sheet" Hz,.lst (aj L),.lst (nL (È w)),.lst (nL ((È L.length).map (w+·))),.dK [],.dK []]) (iJ (v:=.ref 6) (st':=[.lst (aj L),.ins "Sheet" HB,.lst (aj L),.lst (nL (È w)),.lst (nL ((È L.length).map (w+·))),.dK [],.dK []]) (k:=1) (fs:=HB) rfl rfl rfl rfl) ?_;refine ae (st':=[.lst (aj L),.ins "Sheet" (dh 1 2 3 4 5 6 7),.lst (aj L),.lst (nL (È w)),.lst (nL ((È L.length).map (w+·))),.dK [],.dK [],.dK []]) (iJ (v:=.ref 7) (st':=[.lst (aj L),.ins "Sheet" Hz,.lst (aj L),.lst (nL (È w)),.lst (nL ((È L.length).map (w+·))),.dK [],.dK [],.dK []]) (k:=1) (fs:=Hz) rfl rfl rfl rfl) ?_;rfl
theorem JK{k:Nat}(g:ev ks a sl st=À (.ref k,st))(f:ev ks e sl st=À (y,st))(b:st[k]?=À (.lst xs))(d:bI st y=À ys)(c:xs.length+ys.length<=1000):ev ks (.mt .ext a (.cons e .nil)) sl st=À (.non,st.set k (.lst (xs++ys))):=by
 simp[nJ,sO,sN,g,sj,bH b,f,wz,iN,b,d,ce c]
theorem CG{k:Nat}(f:ev ks a sl st=À (.ref k,st))(d:ev ks e sl st=À (y,st))(b:st[k]?=À (.lst xs))(c:xs.length<=1000):ev ks (.mt .app a (.cons e .nil)) sl st=À (.non,st.set k (.lst (xs++[y]))):=by
 simp[nJ,sO,sN,f,sj,bH b,d,sR,iN,b,ce c]
theorem Gs{n:Int}(P:∀st,pm ax [.int n] st=À (.fz (aj RR),st))(B:∀st,pm af [.int n] st=À (.int w,st))(Q:w<=15)(T:RR.length<=100)(H:∀l∈RR,l.length=w)(S:gv.length<=100)(d:∀x∈gv,x.row.length=w)(j:goal.length=w) :
  ∃st',bS [.int n,.fz (gv.map Gv.av),.fz (iL goal)] []=À (.ref 1,st')/\Rep st' 1 2 3 4 5 6 7 (aj (ah RR gv goal)) (openS w (ah RR gv goal) (w+RR.length)):=by
 have hL:(ah RR gv goal).length=RR.length+gv.length+1:=by simp[ah];lia
 have O:Rep [.lst (aj (ah RR gv goal)),.ins "Sheet" (dh 1 2 3 4 5 6 7),.lst (aj (ah RR gv goal)),.lst (nL (È w)),.lst (nL ((È (ah RR gv goal).length).map (w+·))),.dK [],.dK [],.dK []] 1 2 3 4 5 6 7 (aj (ah RR gv goal)) (openS w (ah RR gv goal) 0):=by
  refine⟨rfl,rfl,rfl,rfl,rfl,rfl,rfl,by simp[openS],fun i x h=>.inl ?_,by decide,by decide,by decide,by decide,by decide,by decide,fun i r h=>?_⟩
  ·unfold aj at h
   rw[zR]at h;obtain⟨l,u,rfl⟩:=zE.mp h;show _=AV.fz (iL ((ah RR gv goal).getD i []));rw[zD,u];rfl
  ·unfold aj at h
   rw[zR]at h;obtain⟨l,u,m⟩:=zE.mp h;cases m
 obtain⟨sl',st',e,x,rfl,A⟩:=eE (gd:=[]) (g:=cg [ax,af,aG,aN] (.nm 6)) (s:=ai [ax,af,aG,aN] (.cons (.ex (.me "Sheet" "guard" 3 (.v 5) (.cons (.v 6) .nil))) .nil))
  (I:=fun i sl s=>∃x,sl=[Is n,Zs (gv.map Gv.av),Ls goal,Rs 0,Is ((w:Int)+(RR.length:Int)),Rs 1,x]/\Rep s 1 2 3 4 5 6 7 (aj (ah RR gv goal)) (openS w (ah RR gv goal) i)) (xs:=dj 0 (w+RR.length)) (fun _ _ _ _ _=>rfl)
  (fun i y sl s a K=>by
   obtain⟨x,rfl,R⟩:=K;rw[oA]at a;have p:i<w+RR.length:=by have:=(zB.mp a).1;simpa using this
   have M:y=.int ((i:Nat):Int):=by
    rw[gV (by simpa using p)]at a;injection a with a;rw[<- a];simp[zD,p]
   subst M;obtain⟨C,N,z⟩:=vx (q:=i) R (by simp[openS];lia);refine⟨_,[Is n,Zs (gv.map Gv.av),Ls goal,Rs 0,Is ((w:Int)+(RR.length:Int)),Rs 1,Is ((i:Nat):Int)],C,rfl,?_,_,rfl,?_⟩
   ·simp[R.ins,N]
   ·have:ins (È i) i=È (i+1):=by unfold ins;rw[yH (by simp),S?]
    have m:{ openS w (ah RR gv goal) i with gd:=ins (openS w (ah RR gv goal) i).gd i }=openS w (ah RR gv goal) (i+1):=by show Sh.mk _ _ _ _ (ins (È i) i) _ _=_;rw[this];rfl
    rw[m]at z;exact z) (sl:=[Is n,Zs (gv.map Gv.av),Ls goal,Rs 0,Is ((w:Int)+(RR.length:Int)),Rs 1,Á]) (st:=_) ⟨Á,rfl,O⟩
 have E:(dj 0 (w+RR.length)).length=w+RR.length:=by rw[oA];simp
 rw[E]at A;refine⟨st',?_,A⟩;rw[bS,aD];unfold gG;refine ae (sl':=[Is n,Zs (gv.map Gv.av),Ls goal,Rs 0,Á,Á,Á]) (st':=[.lst (aj (RR.map (·++[0])))]) ?_ ?_
 ·have c:=wB (gd:=[]) (g:=cg [ax,af,aG,aN] (.nm 7)) (t:=jz [ax,af,aG,aN] .no) (f:=ev [ax,af,aG,aN] (.nw Ã (.cat (.v 7) (.nw Ã (.li (.cons (.i 0) .nil))))))
   (sl:=[Is n,Zs (gv.map Gv.av),Ls goal,Á,Á,Á,Á,Á]) (st:=[]) (em:=fun l=>.fz (iL l)) (F:=fun l=>l++[0]) (xs:=RR) rfl fun l J=>⟨_,rfl,rfl,by
    rw[c7,j7 (l:=l) (l':=[0]) (s1:=[]) (s2:=[]) (y:=.fz (iL [0])) rfl (by simp[cO,iL]) rfl rfl (by rw[H l J];simp;lia)];simp⟩
  have b:im [] (cg [ax,af,aG,aN] (.nm 7)) (jz [ax,af,aG,aN] .no) (ev [ax,af,aG,aN] (.nw Ã (.cat (.v 7) (.nw Ã (.li (.cons (.i 0) .nil)))))) [Is n,Zs (gv.map Gv.av),Ls goal,Á,Á,Á,Á,Á] (aj RR) []=À (aj (RR.map (·++[0])),[]):=c;simp [P,ce (show RR.length <= 1000 by lia),b]
 have G:∀(x:List AV)(X:aa),bI (.lst x::X) (.ref 0)=À x:=fun x X=>bH rfl
 refine ae (sl':=[Is n,Zs (gv.map Gv.av),Ls goal,Rs 0,Is ((w:Int)+(RR.length:Int)),Á,Á]) (st':=[.lst (aj (RR.map (·++[0])))]) (by simp[B,bo,dB,G]) ?_;refine ae (sl':=[Is n,Zs (gv.map Gv.av),Ls goal,Rs 0,Is ((w:Int)+(RR.length:Int)),Á,Á]) (st':=[.lst (aj (RR.map (·++[0]))++aj (gv.map fun x=>x.row++[-x.num]))]) ?_ ?_
 ·rw[AG,JK (k:=0) (xs:=aj (RR.map (·++[0]))) (ys:=aj (gv.map fun x=>x.row++[-x.num])) (y:=.fz (aj (gv.map fun x=>x.row++[-x.num]))) rfl ?_ rfl rfl (by simp;lia)]
  ·rfl
  ·have c:=wB (gd:=[]) (g:=cg [ax,af,aG,aN] (.tu 3 (.cons (.nm 7) (.cons (.nm 8) (.cons (.nm 9) .nil))))) (t:=jz [ax,af,aG,aN] .no) (f:=ev [ax,af,aG,aN] (.nw Ã (.cat (.nw Ã (.lof (.v 7))) (.nw Ã (.li (.cons (.un .USub (.v 9)) .nil))))))
    (sl:=[Is n,Zs (gv.map Gv.av),Ls goal,Rs 0,Is ((w:Int)+(RR.length:Int)),Á,Á,Á,Á,Á]) (st:=[.lst (aj (RR.map (·++[0])))]) (em:=Gv.av) (F:=fun x=>x.row++[-x.num]) (xs:=gv) rfl fun x o=>⟨_,rfl,rfl,by
     rw[c7,j7 (l:=x.row) (l':=[-x.num]) (s1:=[.lst (aj (RR.map (·++[0])))]) (s2:=[.lst (aj (RR.map (·++[0])))]) (x:=.fz (iL x.row)) (y:=.fz (iL [-x.num])) (by simp[p6]) (by simp[cO,iL]) rfl rfl (by rw[d x o];simp;lia)];simp⟩
   simp [ce (show gv.length <= 1000 by lia),c]
 refine ae (sl':=[Is n,Zs (gv.map Gv.av),Ls goal,Rs 0,Is ((w:Int)+(RR.length:Int)),Á,Á]) (st':=[.lst (aj (ah RR gv goal))]) ?_ ?_
 ·rw[AG,CG (k:=0) (xs:=aj (RR.map (·++[0]))++aj (gv.map fun x=>x.row++[-x.num])) (y:=.fz (iL (goal.map (fun x=>- x)++[0]))) rfl ?_ rfl (by simp;lia)]
  ·rw[Å]
   have:aj (RR.map (·++[0]))++aj (gv.map fun x=>x.row++[-x.num])++[AV.fz (iL (goal.map (fun x=>- x)++[0]))]=aj (ah RR gv goal):=by
    simp[ah,aj]
   show À (Out.nx _ [.lst (_++[_])])=_;rw[this]
  ·rw[c7,j7 (l:=goal.map fun x=>- x) (l':=[0]) (s1:=[.lst (aj (RR.map (·++[0]))++aj (gv.map fun x=>x.row++[-x.num]))]) (s2:=[.lst (aj (RR.map (·++[0]))++aj (gv.map fun x=>x.row++[-x.num]))]) (x:=.fz (iL (goal.map fun x=>- x))) (y:=.fz (iL [0])) ?_ (by simp[cO,iL]) rfl rfl (by simp[j];lia)]
   ·simp
   ·simp [ce (show goal.length <= 1000 by lia)]
    rw[kB (F:=fun x=>- x) gw fun x o=>⟨_,rfl,rfl,by simp⟩];simp
 refine ae (sl':=[Is n,Zs (gv.map Gv.av),Ls goal,Rs 0,Is ((w:Int)+(RR.length:Int)),Rs 1,Á]) (st':=ML w (ah RR gv goal)) ?_ ?_
 ·have:=Hh (w:=w) (L:=ah RR gv goal) oM oM
  simp[Ae,B,this]
 ·refine ae (sl':=[Is n,Zs (gv.map Gv.av),Ls goal,Rs 0,Is ((w:Int)+(RR.length:Int)),Rs 1,x]) (st':=st') ?_ (by simp)
  have D:fY ((w:Int)+(RR.length:Int))=Â:=by
   unfold fY;refine yL ?_;have:((w:Int)+(RR.length:Int)).natAbs=w+RR.length:=by lia
   rw[this];by_cases v:w+RR.length=0
   ·rw[v];decide
   ·exact yZ ((Ĉ v).mpr oM)
  simp[yz,D];rw[show((w:Int)+(RR.length:Int)).toNat=w+RR.length by lia];exact e
end
noncomputable def gL(l:List Int):Nat:=l.foldl (fun g x=>þ g x.natAbs) 0
def aw(l:List Int):List Int:=if gL l=0 then l else l.map fun x=>x/(gL l:Int)
theorem BC{d o:Nat}:þ o (d%o)=þ d o:=by rw[W8,<- Nat.gcd_rec,W8]
theorem M4:∀(o d:Nat)(y:Option AV),∃y',cW [] (.wh (.cmp .NotEq (.v 3) (.i 0)) (.cons (.as (.bin .Mod (.v 1) (.v 3)) (.nm 4)) (.cons (.as (.v 3) (.nm 1)) (.cons (.as (.v 4) (.nm 3)) .nil)))) [l,Is d,x,Is o,y] st=À (.nx [l,Is (þ d o:Nat),x,Is 0,y'] st):=by
 intro o
 induction o using Nat.strongRecOn with
 |_ o ih =>
  intro d y;by_cases h:o=0
  ·subst h
   refine⟨y,?_⟩;rw[Nat.gcd_zero_right];exact oy (n:=1) (mq (by simp))
  ·obtain⟨y',e⟩:=ih (d%o) (Nat.mod_lt _ oM) o (À (.int ((d%o:Nat):Int)))
   obtain⟨n,a⟩:=xZ e;refine⟨y',?_⟩;rw[BC]at a;refine oy (n:=n+1) (pP (st':=st) (by simp;lia) ?_ a);have c:(o:Int)≠0:=by lia
   have b:qL (d:Int) (o:Int)=((d%o:Nat):Int):=by unfold qL;rw[yI oM];simp
   simp[iO c,b]
theorem zf:gL (a++b)=b.foldl (fun g x=>þ g x.natAbs) (gL a):=by unfold gL;rw[List.foldl_append]
theorem tJ:∀b:List Int,b.foldl (fun g x=>þ g x.natAbs) 1=1
 |[]=>rfl
 |x::b=>by rw[ő,Nat.gcd_one_left];exact tJ b
theorem Me:∃r,cS [.fz (iL l)] st=À (r,st)/\r=.int (gL l:Int):=by
 have o:=qj (gd:=[]) (g:=cg [] (.nm 2)) (s:=ai [] (.cons (.as (.bi .abs (.cons (.v 2) .nil)) (.nm 3)) (.cons (.wh (.cmp .NotEq (.v 3) (.i 0)) (.cons (.as (.bin .Mod (.v 1) (.v 3)) (.nm 4)) (.cons (.as (.v 3) (.nm 1)) (.cons (.as (.v 4) (.nm 3)) .nil)))) (.cons (.iff (.cmp .Eq (.v 1) (.i 1)) (.cons (.rt (.i 1)) .nil) .nil) .nil))))
  (I:=fun i sl s=>s=st/\∃x y z,sl=[Ls l,Is (gL (l.take i):Nat),x,y,z]) (Post:=fun v s=>s=st/\v=.int (gL l:Nat)) (xs:=iL l) (fun _ _ _ _ _=>rfl)
  (fun i x sl s b q=>by
   obtain⟨rfl,u,k,c,rfl⟩:=q;have f:i<l.length:=by have:=(zB.mp b).1;simpa using this
   rw[cj f]at b;injection b with b;subst b;have n:l.take (i+1)=l.take i++[gI l i]:=by
    rw[S7,zF f];unfold gI;rw[zD,zF f];rfl
   have p:gL (l.take (i+1))=þ (gL (l.take i)) (gI l i).natAbs:=by rw[n,zf];rfl
   obtain⟨j,e⟩:=M4 (l:=À (.fz (iL l))) (x:=À (.int (gI l i))) (st:=s) (gI l i).natAbs (gL (l.take i)) c;rw[<- p]at e;have t:ui s [.int (gI l i)]=À (.int ((gI l i).natAbs:Nat)):=by
    show À (AV.int (if gI l i<0 then-gI l i else gI l i))=_;congr 2;split<;>lia
   have a:cW [] (.as (.bi .abs (.cons (.v 2) .nil)) (.nm 3)) [Ls l,Is (gL (l.take i):Nat),Is (gI l i),k,c] s=À (.nx [Ls l,Is (gL (l.take i):Nat),Is (gI l i),Is ((gI l i).natAbs:Nat),c] s):=by
    simp[bo,t]
   by_cases h:gL (l.take (i+1))=1
   ·refine⟨_,.rt (.int 1) s,rfl,aq a (aq e ?_),.inr ⟨_,s,rfl,rfl,?_⟩⟩
    ·simp[h]
    ·have:gL l=1:=by
      have:l=l.take (i+1)++l.drop (i+1):=(List.take_append_drop _ _).symm;rw[this,zf,h,tJ]
     rw[this];rfl
   ·refine⟨_,.nx [Ls l,Is (gL (l.take (i+1)):Nat),Is (gI l i),Is 0,j] s,rfl,aq a (aq e ?_),.inl ⟨_,s,rfl,rfl,_,_,_,rfl⟩⟩
    have:¬((gL (l.take (i+1)):Nat):Int)=1:=by lia
    simp[this]) (sl:=[Ls l,Is 0,Á,Á,Á]) (st:=st) ⟨rfl,Á,Á,Á,rfl⟩
 rcases o with⟨m,d,e,rfl,x,y,z,rfl⟩|⟨v,d,e,rfl,rfl⟩
 ·refine⟨_,?_,rfl⟩
  rw[gC,ň]at e;simp[cS,aD,eA,e]
 ·refine⟨_,?_,rfl⟩
  simp[cS,aD,eA,e]
theorem lS:∀x∈l,gL l ∣ x.natAbs:=by
 have f:∀(b:List Int)(g:Nat),(b.foldl (fun g x=>þ g x.natAbs) g) ∣ g/\∀x∈b,(b.foldl (fun g x=>þ g x.natAbs) g) ∣ x.natAbs:=fun b=>by
  induction b with
  |nil=>intro g;exact⟨Nat.dvd_refl g,fun x a=>by cases a⟩
  |cons y b d =>
   intro g;obtain⟨c,e⟩:=d (þ g y.natAbs);refine⟨V! c (S! _ _),fun x a=>?_⟩;rcases zT.mp a with rfl|a
   ·exact V! c (Q0 _ _)
   ·exact e x a
 exact(f l 0).2
theorem JE{B:Nat}(hB:0<B)(h:∀x∈l,x.natAbs<B):gL l<B:=by
 by_cases hz:∃x∈l,x≠0
 ·obtain⟨x,a,d⟩:=hz
  exact yM (U9 oM (lS x a)) (h x a)
 ·have:∀(b:List Int),(∀x∈b,x=0)->b.foldl (fun g x=>þ g x.natAbs) 0=0:=fun b=>by
   induction b with
   |nil=>intro _;rfl
   |cons y b c=>intro hb;rw[ő,hb y z7];exact c fun x a=>hb x (zQ _ a)
  have e:gL l=0:=this l fun x a=>ĉ fun z=>hz ⟨x,a,z⟩
  lia
theorem rJ(b:l.length<=1000)(hb:∀x∈l,x.natAbs<2^9000):ar [.fz (iL l)] []=À (.fz (iL (aw l)),[]):=by
 obtain⟨r,e,rfl⟩:=Me (l:=l) (st:=[]);have a:∀st,pm cS [.fz (iL l)] st=À (.int (gL l:Int),st):=fun st=>bM rfl e rfl
 unfold aw;by_cases h:gL l=0
 ·rw[yI h]
  simp[ar,aD,dQ,a,h,p6]
 ·rw[yH h]
  have c:¬((gL l:Nat):Int)=0:=by lia
  have d:eG ((gL l:Nat):Int)=Â:=zq c (by rw[ġ];exact JE (Ô _) hb);simp[ar,aD,dQ,a,h,ce b];rw[kB (F:=fun x=>x/(gL l:Int)) gw fun x f=>⟨_,rfl,rfl,by
   simp[mK d];unfold vA;rw[yI oM]⟩]
  simp
theorem sU(a:l.length<=1000)(hb:∀x∈l,x.natAbs<2^9000):pm ar [.fz (iL l)] st=À (.fz (iL (aw l)),st):=bM rfl (rJ a hb) rfl
theorem eR:(aw l).length=l.length:=by unfold aw;split<;>simp
theorem Hv{a b:Int}(h:a.natAbs<2^9000)(hb:b.natAbs<2^9000):pm di [.int a,.int b] st=À (.tup [.int (gI (aw [a,b]) 0),.int (gI (aw [a,b]) 1)],st):=by
 have e:=sU (l:=[a,b]) (st:=[]) (by simp) (fun x c=>by simp at c;rcases c with rfl|rfl<;>assumption);have j:(aw [a,b]).length=2:=eR;have f:aY [] (.fz (iL (aw [a,b]))) (.int 0)=À (.int (gI (aw [a,b]) 0)):=by
  have:=cU (st:=[]) (x:=.fz (iL (aw [a,b]))) (i:=((0:Nat):Int)) eN;rw[cG,cj oM]at this;exact this
 have d:aY [] (.fz (iL (aw [a,b]))) (.int 1)=À (.int (gI (aw [a,b]) 1)):=by
  have:=cU (st:=[]) (x:=.fz (iL (aw [a,b]))) (i:=((1:Nat):Int)) eN;rw[cG,cj oM]at this;exact this
 refine bM rfl (v:=.tup [.int (gI (aw [a,b]) 0),.int (gI (aw [a,b]) 1)]) (st':=[]) ?_ rfl;have g:pm ar [.fz [.int a,.int b]] []=À (.fz (iL (aw [a,b])),[]):=e;simp[di,aD,fC,cO,g,f,d]
structure GX(S:Sh)(w cc k:Nat)(X:List Int):Prop where
 len:X.length=w
 at_:∀i,i<k->S.s i<w->gI X (S.s i)=S.t i cc
 no:∀q,q<w->(∀i,i<k->S.s i≠q)->gI X q=0
section
variable{st:aa}{k a b c g n u w m:Nat}{rows:List AV}{S:Sh}{v:Nat->Nat->Int}{nn:Int}
theorem v7{j:Nat}(h:ev ks e sl st=À (.int (j:Int),st))(c:j<=1000):jy ks (.rep (.cons (.i 0) .nil) e) sl st=À (iL (Æ j 0),st):=by
 rw[Jh];unfold wm;have d:eS ks (.cons (.i 0) .nil) sl st=À ([.int 0],st):=rfl;rw[d,Å];dsimp only;rw[h,Å];dsimp only;have b:fY (j:Int)=Â:=by
  unfold fY;refine yL ?_;rw[ġ];by_cases a:j=0
  ·rw[a];decide
  ·exact yZ ((Ĉ a).mpr (yM c dC))
 rw[b,ce (n:=[AV.int 0].length*((j:Int)).toNat) (by simp;lia),ce (n:=[AV.int 0].length) (by simp)];show À _=À _;congr 2;show(Æ j [AV.int 0]).flatten=iL (Æ j 0);unfold iL
 induction j with
 |zero=>rfl
 |succ j f=>rw[ì,ď,ì,zO];simp
theorem zg{j q:Nat}:gI (Æ j 0) q=0:=by
 unfold gI;rw[zD,ð];split<;>rfl
theorem Cq(R:Rep st k a b c g n u rows S)(P:Ot w m S)(Q:SX.Pm w m S.h S.s)(J:∀st,pm af [.int nn] st=À (.int w,st))(K:w<=100)(L:m<=1000){cI:Int}{cc:Nat}
  (H:∀{s:aa}{a:Nat}{rows:List AV},Rep s k a b c g n u rows S->∀i,i<m->aY s (lq rows i) (.int cI)=À (.int (S.t i cc))) :
  ∃X,cX [.int nn,.ref k,.int cI] st=À (.ref st.length,st++[.lst (iL X)])/\GX S w cc m X:=by
 have sl:S.sd.length=m:=P.sd;obtain⟨sl',st',e,X,t,r,rfl,rfl,d⟩:=eE (gd:=[(c,.lst (nL S.sd))]) (g:=cg [af] (.tu 2 (.cons (.nm 4) (.cons (.nm 5) .nil)))) (s:=ai [af] (.cons (.iff (.cmp .Lt (.v 5) (.bi .len (.cons (.v 3) .nil))) (.cons (.as (.ix (.ix (.fd "Sheet" "lines" (.v 1)) (.v 4)) (.v 2)) (.su (.v 3) (.v 5))) .nil) .nil) .nil))
  (I:=fun i sl s=>∃X t r,s=st++[.lst (iL X)]/\sl=[Is nn,Rs k,Is cI,Rs st.length,t,r]/\GX S w cc i X) (xs:=fq 0 (nL S.sd)) (fun i sl s _ E=>by obtain⟨X,_,_,rfl,_⟩:=E;exact fg (R.app (ys:=[_])).hc)
  (fun i y sl s G E=>by
   obtain⟨X,t,r,rfl,rfl,d⟩:=E;obtain⟨x,f,rfl⟩:=pw G;have A:i<m:=by have:=(zB.mp f).1;simpa [sl] using this
   have B:(nL S.sd)[i]?=À (.int ((S.s i:Nat):Int)):=gV oM;rw[B]at f;injection f with f;subst f;have p:=R.app (ys:=[Oh.lst (iL X)]);have F:bI (st++[Oh.lst (iL X)]) (.ref st.length)=À (iL X):=bH gl;by_cases h:S.s i<w
   ·refine⟨_,[Is nn,Rs k,Is cI,Rs st.length,Is i,Is (S.s i:Int)],st++[.lst (iL (X.set (S.s i) (S.t i cc)))],rfl,?_,X.set (S.s i) (S.t i cc),_,_,rfl,rfl,?_⟩
    ·have o:=dH (x:=.int (S.t i cc)) (gl (st:=st) (e:=Oh.lst (iL X))) (show S.s i < (iL X).length by simp [d.len,h])
     rw[fJ,fW]at o;have l:S.s i<X.length:=by rw[d.len];exact h
     simp[bo,dB,F,l,p.ins,p.line P A,H p i A,o]
    ·refine⟨by simp[d.len],fun j D o=>?_,fun q C v=>?_⟩
     ·by_cases e:j=i
      ·subst e;rw[SX.gI_set_at (by rw[d.len];exact h)]
      ·rw[SX.gI_set_ne (fun z=>e (Q.si j i oM A z))];exact d.at_ j oM o
     ·rw[SX.gI_set_ne (fun z=>v i oM z.symm)];exact d.no q C fun j D=>v j oM
   ·refine⟨_,[Is nn,Rs k,Is cI,Rs st.length,Is i,Is (S.s i:Int)],st++[.lst (iL X)],rfl,?_,X,_,_,rfl,rfl,?_⟩
    ·have l:¬S.s i<X.length:=by rw[d.len];exact h
     simp[bo,dB,F,l]
    ·refine⟨d.len,fun j D o=>?_,fun q C v=>d.no q C fun j D=>v j oM⟩
     by_cases e:j=i
     ·subst e;exact absurd o h
     ·exact d.at_ j oM o) (sl:=[Is nn,Rs k,Is cI,Rs st.length,Á,Á]) (st:=st++[.lst (iL (Æ w 0))]) ⟨_,Á,Á,rfl,rfl,by simp,fun i A=>by lia,fun q _ _=>zg⟩
 rw[mF,sK,sl]at d;refine⟨X,?_,d⟩;rw[cX,aD];unfold eV;refine ae (sl':=[Is nn,Rs k,Is cI,Rs st.length,Á,Á]) (st':=st++[.lst (iL (Æ w 0))]) ?_ ?_
 ·rw[d7,As,v7 (j:=w) (by simp[J]) oM];rfl
 refine ae (sl':=[Is nn,Rs k,Is cI,Rs st.length,t,r]) (st':=st++[.lst (iL X)]) ?_ (by simp);have p:=R.app (ys:=[Oh.lst (iL (Æ w 0))]);simp[p.ins,jU p.hc];exact e
theorem qe{n:Nat}:(iL l).take n=iL (l.take n):=by unfold iL;rw[U!]
theorem qf{n:Nat}:(iL l).drop n=iL (l.drop n):=by unfold iL;rw[List.map_drop]
theorem tR{n:Nat}(a:l.length=n+1):cut (iL l) Á (À (-1))=iL (l.take n):=by
 unfold cut;rw[gC,a,HT.sIx_none,Ņ];have:HT.Ov (n+1) (n+1) (À (-1))=n:=by
  show(if(-1:Int)<0 then((-1:Int)+((n+1:Nat):Int)).toNat else min (-1:Int).toNat (n+1))=n;rw[yI dC];lia
 rw[this,Ų,qe]
theorem EE{w m:Nat}(a:l.length=w+(m+1)):cut (iL l) (À (w:Int)) (À (-1))=iL ((l.drop w).take m):=by
 unfold cut;rw[gC,a,HT.sIx_nat];have:HT.Ov (w+(m+1)) (w+(m+1)) (À (-1))=w+m:=by
  show(if(-1:Int)<0 then((-1:Int)+((w+(m+1):Nat):Int)).toNat else min (-1:Int).toNat (w+(m+1)))=w+m;rw[yI dC];lia
 rw[this,b! oM,qf,qe,show w+m-w=m by lia]
theorem GY{d:Int}(j:X.length<=100)(hb:∀x∈X,x.natAbs<2^9000)(hd:d.natAbs<2^9000):dZ [.fz (iL X),.int d] []=À (.tup [.fz (iL ((aw (X++[d])).take X.length)),.int (gI (aw (X++[d])) X.length)],[]):=by
 have f:(aw (X++[d])).length=X.length+1:=by rw[eR];simp
 have e:=sU (l:=X++[d]) (st:=[]) (by simp;lia) fun x i=>by
  rcases zZ.mp i with h|h
  ·exact hb x h
  ·rw[zM.mp h];exact hd
 have g:aY [] (.fz (iL (aw (X++[d])))) (.int (-1))=À (.int (gI (aw (X++[d])) X.length)):=by
  rw[cU eN,qu (n:=X.length) (by simp[f]),cj oM]
 rw[dZ,aD];unfold g6;refine ae (sl':=[Ls X,Is d,Ls (aw (X++[d]))]) (st':=[]) ?_ ?_
 ·have c:=j7 (ks:=[ar]) (a:=.v 0) (b:=.nw Ã (.li (.cons (.v 1) .nil))) (sl:=[Ls X,Is d,Á]) (st:=[]) (s1:=[]) (s2:=[]) (x:=.fz (iL X)) (y:=.fz (iL [d])) (l:=X) (l':=[d]) rfl (by simp[cO,iL]) rfl rfl (by simp;lia)
  simp[-oF,c,e]
 ·simp[mS,mQ,tR f,g]
theorem B7(R:Rep st k a b c g n u rows S)(P:Ot w m S)(Q:SX.Pm w m S.h S.s)(B:Bd w m S)(G:∀st,pm af [.int nn] st=À (.int w,st))(y:w<=100)(C:m<=1000) :
  ∃X T st1,aQ [.int nn,.ref k] st=À (.tup [.fz (iL T),.int (gI (aw (X++[S.d])) w)],st1)/\T=(aw (X++[S.d])).take w/\GX S w w m X/\Rep st1 k a b c g n u rows S:=by
 obtain⟨X,e,f⟩:=Cq (cI:=-1) (cc:=w) R P Q G y C fun F i d=>F.last P d
 have hb:∀x∈X,x.natAbs<2^9000:=fun x v=>by
  obtain⟨q,o⟩:=z9 v;have j:=(zB.mp o).1;rw[f.len]at j;have p:gI X q=x:=by unfold gI;rw[zD,o];rfl
  by_cases h:∃i,i<m/\S.s i=q
  ·obtain⟨i,d,rfl⟩:=h
   rw[<- p,f.at_ i d j];exact B.2 i d w oM
  ·rw[<- p,f.no q j fun i d z=>h ⟨i,d,z⟩];exact Ô _
 obtain⟨st1,t,D⟩:=lu (fn:=dZ) (rest:=[.int S.d]) (x:=.ref st.length) (l:=X) (.inr ⟨_,rfl,.inl (gl (st:=st) (e:=.lst (iL X)))⟩) rfl rfl (fun s=>by simp[ph,lT]) (GY (by rw[f.len];lia) hb B.1) rfl (by simp[flat,pq]);refine⟨X,_,st1,?_,rfl,f,?_⟩
 ·have E:=R.app (ys:=[Oh.lst (iL X)])
  rw[f.len]at t;simp[aQ,aD,f8,e,E.ins,t]
 ·rcases D with rfl|⟨r,A,_,rfl⟩
  ·exact R.app
  ·cases A;rw[fW];exact R.app
theorem Il(R:Rep st k a b c g n u rows S)(P:Ot w m S)(Q:SX.Pm w m S.h S.s)(B:Bd w m S)(K:∀st,pm af [.int nn] st=À (.int w,st))(G:w<=100)(H:m<=1000){q:Nat}(D:q<w) :
  ∃X st1,cD [.int nn,.ref k,.int q] st=À (.fz (iL (aw (if S.h q<w then X.set (S.h q) S.d else X))),st1)/\GX S w q m X:=by
 obtain⟨X,e,d⟩:=Cq (cI:=q) (cc:=q) R P Q K G H fun J i o=>J.cell P o oM
 have hb:∀x∈X,x.natAbs<2^9000:=fun x r=>by
  obtain⟨j,E⟩:=z9 r;have t:=(zB.mp E).1;rw[d.len]at t;have F:gI X j=x:=by unfold gI;rw[zD,E];rfl
  by_cases h:∃i,i<m/\S.s i=j
  ·obtain⟨i,o,rfl⟩:=h
   rw[<- F,d.at_ i o t];exact B.2 i o q oM
  ·rw[<- F,d.no j t fun i o z=>h ⟨i,o,z⟩];exact Ô _
 have p:=R.app (ys:=[Oh.lst (iL X)]);have A:bI (st++[Oh.lst (iL X)]) (.ref st.length)=À (iL X):=bH gl;by_cases h:S.h q<w
 ·have v:∀x∈X.set (S.h q) S.d,x.natAbs<2^9000:=fun x r=>by
   rcases Č r with h|h
   ·exact hb x h
   ·rw[h];exact B.1
  obtain ⟨st1,y,I⟩:=lu (fn:=ar) (rest:=[]) (st:=st++[.lst (iL (X.set (S.h q) S.d))]) (x:=.ref st.length) (l:=X.set (S.h q) S.d) (.inr ⟨_,rfl,.inl gl⟩) rfl rfl (fun s=>rfl) (rJ (by simp [d.len];lia) v) rfl (by simp [flat]);refine ⟨X,st1,?_,d⟩;rw [yI h];have C:=dH (x:=.int S.d) (gl (st:=st) (e:=Oh.lst (iL X))) (show S.h q < (iL X).length by simp [d.len,h]);rw [fJ,fW] at C;have f:S.h q < X.length:=by rw [d.len];exact h
  simp[cD,aD,ib,e,p.ins,p.head P D,bo,dB,A,f,C,y]
 ·obtain⟨st1,y,I⟩:=lu (fn:=ar) (rest:=[]) (st:=st++[.lst (iL X)]) (x:=.ref st.length) (l:=X) (.inr ⟨_,rfl,.inl gl⟩) rfl rfl (fun s=>rfl) (rJ (by simp[d.len];lia) hb) rfl (by simp[flat])
  refine⟨X,st1,?_,d⟩;rw[yH h];have f:¬S.h q<X.length:=by rw[d.len];exact h
  simp[cD,aD,ib,e,p.ins,p.head P D,bo,dB,A,f,y]
end
open SX (Oj)
structure TK(S:Sh)(w m p:Nat)(T:List Int):Prop where
 len:T.length=w+m
 hd:∀j,j<w->gI T (S.h j)=if S.h j∈S.tn then S.t p j else-S.t p j
 sd:gI T (S.s p)=if S.s p∈S.tn then-S.d else S.d
 no:∀q,q<w+m->(∀j,j<w->S.h j≠q)->q≠S.s p->gI T q=0
def wt(T:List Int)(HO:Nat->List Int)(w j k:Nat):Int:=gI T (w+k)+Oj j fun x=>gI T x*gI (HO (x+1)) k
section
variable{st:aa}{k a b c g n u w m p:Nat}{rows:List AV}{S:Sh}{nn:Int}{HO:Nat->List Int}
abbrev KW:List Fn:=[af,cZ,eF]
theorem qg{q x:Nat}{y:Int}(h:q<T.length):gI (T.set q y) x=if x=q then y else gI T x:=by
 by_cases e:x=q
 ·subst e;rw[yI rfl,SX.gI_set_at h]
 ·rw[yH e,SX.gI_set_ne e]
theorem C7(R:Rep st k a b c g n u rows S)(P:Ot w m S)(Q:SX.Pm w m S.h S.s)(F:p<m)(nt:S.tn.Nodup)(ht:∀q∈S.tn,q<w+m)(hw:w<=100)(hm:m<=800){Z:Ou}{r:AV×aa->Prop}
  (h:∀T x1 x2,TK S w m p T->∃z,(ai KW Z [Is nn,Rs k,Is p,Rs st.length,x1,x2,Á,Á,Á,Á,Á] (st++[Oh.lst (iL T)])).bind ay=À z/\r z) :
  ∃z,(ai KW (.cons (.as (.nw Â (.rep (.cons (.i 0) .nil) (.bin .Add (.bi .len (.cons (.fd "Sheet" "heads" (.v 1)) .nil)) (.bi .len (.cons (.fd "Sheet" "sides" (.v 1)) .nil))))) (.nm 3))
   (.cons (.fo (.en (.fd "Sheet" "heads" (.v 1))) (.tu 2 (.cons (.nm 4) (.cons (.nm 5) .nil))) (.cons (.as (.un .USub (.ix (.ix (.fd "Sheet" "lines" (.v 1)) (.v 2)) (.v 4))) (.su (.v 3) (.v 5))) .nil))
   (.cons (.as (.fd "Sheet" "below" (.v 1)) (.su (.v 3) (.ix (.fd "Sheet" "sides" (.v 1)) (.v 2))))
   (.cons (.fd (.fd "Sheet" "turned" (.v 1)) (.nm 5) (.cons (.as (.un .USub (.ix (.v 3) (.v 5))) (.su (.v 3) (.v 5))) .nil)) Z)))) [Is nn,Rs k,Is p,Á,Á,Á,Á,Á,Á,Á,Á] st).bind ay=À z/\r z:=by
 have lh:bI st (.ref b)=À (nL S.hd):=bH R.hb;have O:bI st (.ref c)=À (nL S.sd):=bH R.hc;refine au (sl':=[Is nn,Rs k,Is p,Rs st.length,Á,Á,Á,Á,Á,Á,Á]) (st':=st++[Oh.lst (iL (Æ (w+m) 0))]) ?_ ?_
 ·rw[d7,As,v7 (j:=w+m) ?_ oM]
  ·rfl
  ·simp[R.ins,bo,dB,lh,O,P.hd,P.sd]
 obtain⟨sl',st',e,T,x1,x2,rfl,rfl,t,N,M⟩:=eE (gd:=[(b,.lst (nL S.hd))]) (g:=cg KW (.tu 2 (.cons (.nm 4) (.cons (.nm 5) .nil)))) (s:=ai KW (.cons (.as (.un .USub (.ix (.ix (.fd "Sheet" "lines" (.v 1)) (.v 2)) (.v 4))) (.su (.v 3) (.v 5))) .nil))
  (I:=fun i sl s=>∃T x1 x2,s=st++[Oh.lst (iL T)]/\sl=[Is nn,Rs k,Is p,Rs st.length,x1,x2,Á,Á,Á,Á,Á]/\T.length=w+m/\(∀j,j<i->gI T (S.h j)=- S.t p j)/\∀q,(∀j,j<i->S.h j≠q)->gI T q=0) (xs:=fq 0 (nL S.hd)) (fun i sl s _ K=>by obtain⟨X,_,_,rfl,_⟩:=K;exact fg (R.app (ys:=[_])).hb)
  (fun i y sl s A K=>by
   obtain⟨T,x1,x2,rfl,rfl,t,N,M⟩:=K;obtain⟨x,f,rfl⟩:=pw A;have v:i<w:=by have:=(zB.mp f).1;simpa [P.hd] using this
   have U:(nL S.hd)[i]?=À (.int ((S.h i:Nat):Int)):=gV (by rw [P.hd];exact v);rw [U] at f;injection f with f;subst f;have l:=R.app (ys:=[Oh.lst (iL T)]);have hb:=Q.hl i v;have o:=dH (x:=.int (- S.t p i)) (gl (st:=st) (e:=Oh.lst (iL T))) (show S.h i < (iL T).length by simp [t,hb]);rw [fJ,fW] at o;refine ⟨_,[Is nn,Rs k,Is p,Rs st.length,Is i,Is (S.h i:Int),Á,Á,Á,Á,Á],st++[Oh.lst (iL (T.set (S.h i) (- S.t p i)))],rfl,?_,T.set (S.h i) (- S.t p i),_,_,rfl,rfl,by simp [t],fun j G=>?_,fun q D=>?_⟩
   ·simp [l.ins,l.line P F,l.cell P F (show i < w + 1 by lia),o]
   ·rw[qg (by rw[t];exact hb)]
    by_cases e:j=i
    ·subst e;rw[yI rfl]
    ·rw[yH fun z=>e (Q.hi j i oM v z)];exact N j oM
   ·rw[qg (by rw[t];exact hb),yH fun z=>D i oM z.symm];exact M q fun j G=>D j oM) (sl:=[Is nn,Rs k,Is p,Rs st.length,Á,Á,Á,Á,Á,Á,Á]) (st:=st++[Oh.lst (iL (Æ (w+m) 0))]) ⟨_,Á,Á,rfl,rfl,by simp,fun j G=>by lia,fun q _=>zg⟩
 rw[mF,sK,P.hd]at N M;refine au (sl':=[Is nn,Rs k,Is p,Rs st.length,x1,x2,Á,Á,Á,Á,Á]) (st':=st++[Oh.lst (iL T)]) ?_ ?_
 ·have l:=R.app (ys:=[Oh.lst (iL (Æ (w+m) 0))])
  simp[l.ins,jU l.hb];exact e
 have l:=R.app (ys:=[Oh.lst (iL T)]);have sb:=Q.sl p F;have o:=dH (x:=.int S.d) (gl (st:=st) (e:=Oh.lst (iL T))) (show S.s p < (iL T).length by simp [t,sb]);rw [fJ,fW] at o;refine au (sl':=[Is nn,Rs k,Is p,Rs st.length,x1,x2,Á,Á,Á,Á,Á]) (st':=st++[Oh.lst (iL (T.set (S.s p) S.d))]) (by simp [l.ins,l.side P F,o]) ?_;have l2:(T.set (S.s p) S.d).length=w + m:=by simp [t]
 obtain⟨C,J⟩:∃x,x=T.set (S.s p) S.d:=⟨_,rfl⟩;rw[<- J]at l2 ⊢
 have Ru:=(R.app (ys:=[Oh.lst (iL C)])).hu;have E:u<st.length:=(zB.mp R.hu).1;obtain⟨sl',st',e,d,x2,rfl,rfl,L,B⟩:=eE (gd:=[]) (g:=cg KW (.nm 5)) (s:=ai KW (.cons (.as (.un .USub (.ix (.v 3) (.v 5))) (.su (.v 3) (.v 5))) .nil))
  (I:=fun i sl s=>∃d x2,s=(st++[Oh.lst (iL d)]).set u (.wk (kL S.tn))/\sl=[Is nn,Rs k,Is p,Rs st.length,x1,x2,Á,Á,Á,Á,Á]/\d.length=w+m/\∀q,gI d q=if q∈S.tn.take i then-gI C q else gI C q) (xs:=nL S.tn) (fun _ _ _ _ _=>rfl)
  (fun i y sl s A K=>by
   obtain⟨d,x2,rfl,rfl,L,B⟩:=K;have v:i<S.tn.length:=by have:=(zB.mp A).1;simpa using this
   rw[gV v]at A;injection A with A;subst A;obtain⟨q,D⟩:∃q,q=S.tn.getD i 0:=⟨_,rfl⟩;rw[<- D];have qi:S.tn[i]=q:=by rw[D,zD,zF v];rfl
   have qm:q∈S.tn:=by rw[<- qi];exact Ó v
   have ql:=ht q qm;have Y:S.tn.take (i+1)=S.tn.take i++[q]:=by rw[S7,zF v,qi];rfl
   have qn:q∉S.tn.take i:=fun z=>by
    have:=nt.sublist (O9 (i+1) S.tn)
    rw[Y,ϟ]at this;exact this.2.2 q z q (by simp) rfl
   have gc:((st++[Oh.lst (iL d)]).set u (.wk (kL S.tn)))[st.length]?=À (.lst (iL d)):=by rw[aA (zU E)];exact gl
   have o:=dH (x:=.int (- gI d q)) gc (show q < (iL d).length by simp [L,ql]);have sc:((st++[Oh.lst (iL d)]).set u (.wk (kL S.tn))).set st.length (.lst (iL (d.set q (- gI d q))))=(st++[Oh.lst (iL (d.set q (- gI d q)))]).set u (.wk (kL S.tn)):=by
    rw[List.set_comm _ _ (zU E),fW]
   rw[fJ,sc]at o;have xi:aY ((st++[Oh.lst (iL d)]).set u (.wk (kL S.tn))) (.ref st.length) (.int (q:Int))=À (.int (gI d q)):=by rw[cU (bH gc),cG,cj oM]
   refine⟨_,[Is nn,Rs k,Is p,Rs st.length,x1,Is q,Á,Á,Á,Á,Á],(st++[Oh.lst (iL (d.set q (- gI d q)))]).set u (.wk (kL S.tn)),rfl,?_,_,_,rfl,rfl,by simp[L],fun x=>?_⟩
   ·simp[xi,o]
   ·rw[qg oM,Y]
    by_cases e:x=q
    ·subst e;rw[yI rfl,yI (by simp),B x,yH qn]
    ·rw[yH e,B x];simp[e]) (sl:=[Is nn,Rs k,Is p,Rs st.length,x1,x2,Á,Á,Á,Á,Á]) (st:=(st++[Oh.lst (iL C)]).set u (.wk (kL S.tn))) ⟨C,x2,rfl,rfl,l2,fun q=>by simp⟩
 rw[sK,ň]at B;refine au (sl':=[Is nn,Rs k,Is p,Rs st.length,x1,x2,Á,Á,Á,Á,Á]) (st':=st++[Oh.lst (iL d)]) ?_ (h d x1 x2 ?_)
 ·have Rb:=R.app (ys:=[Oh.lst (iL C)])
  have ky:(kL S.tn).map (fun q=>oR q.1)=nL S.tn:=by unfold kL nL;rw[Ö];rfl
  have f1:(((st++[Oh.lst (iL d)]).set u (.wk (kL S.tn))))[u]?=À (.wk (kL S.tn)):=gD (R.app (ys:=[Oh.lst (iL d)])).hu;have f2:((st++[Oh.lst (iL d)]).set u (.wk (kL S.tn))).set u (.dK (kL S.tn))=st++[Oh.lst (iL d)]:=by
   rw[n!]
   have:=(R.app (ys:=[Oh.lst (iL d)])).hu
   obtain⟨hlt,H⟩:=zB.mp this;rw[<- H,List.set_getElem_self]
  simp[vY,Rb.ins,Rb.hu];rw[show(kL S.tn).map ((fun q=>oR q.1))=nL S.tn from ky]at *;rw[e];simp[B6,f1,f2]
 ·have W:∀q,gI C q=if q=S.s p then S.d else gI T q:=fun q=>by rw[J,qg (by rw[t];exact sb)]
  refine⟨L,fun j G=>?_,?_,fun q D hn V=>?_⟩
  ·rw[B,W,yH (Q.hs j p G F),N j G];split<;>lia
  ·rw[B,W,yI rfl]
  ·rw[B,W,yH V,M q hn];split<;>rfl
end
structure HOk(nn:Int)(w nr:Nat)(HO:Nat->List Int):Prop where
 ex:∀grp:Nat,1<=grp->grp<=w->∃rr,(∀st,pm cZ [.int nn,.int grp,.int 0] st=À (rr,st))/\∀st,pm eF [.int nn,rr] st=À (.fz (iL (HO grp)),st)
 len:∀grp:Nat,1<=grp->grp<=w->(HO grp).length=nr
 bd:∀(grp:Nat),1<=grp->grp<=w->∀x∈HO grp,x.natAbs<=15
section
variable{st:aa}{k a b c g n u w m p nr:Nat}{rows:List AV}{S:Sh}{nn:Int}{HO:Nat->List Int}
theorem Kg{r q:Nat}{x:Int}(e:ev ks ea sl s=À (.ref r,s))(d:ev ks eb sl s=À (.int (q:Int),s))(c:ev ks ec sl s=À (.int x,s))(a:s[r]?=À (.lst (iL l)))(b:q<l.length):cW ks (.aus .Add ea eb ec) sl s=À (.nx sl (s.set r (.lst (iL (l.set q (gI l q+x)))))):=by
 rw[IB];unfold vZ;rw[e,Å];dsimp only;rw[d,Å];dsimp only;rw[bH a,Å,cG,cj b,Å,c,Å];dsimp only;have:wR .Add s (.int (gI l q)) (.int x)=À (.int (gI l q+x)):=rfl;rw[this,Å,dH a (by simp[b]),fJ,Å]
theorem BW(R:Rep st k a b c g n u rows S)(P:Ot w (m+1) S)(Q:SX.Pm w (m+1) S.h S.s)(hp:p<m+1)(nt:S.tn.Nodup)(ht:∀q∈S.tn,q<w+(m+1))(hw:w<=100)(hm:m+1<=800)(HA:∀st,pm af [.int nn] st=À (.int w,st))(H:HOk nn w nr HO)(hnr:nr<=m) :
  ∃z,aM [.int nn,.ref k,.int p] st=À z/\∃T W,TK S w (m+1) p T/\W.length=m/\(∀x,x<m->gI W x=wt T HO w w x)/\z.1=.ref (st.length+1)/\z.2=st++[Oh.lst (iL T)]++[Oh.lst (iL W)]:=by
 rw[aM];simp only[aD];unfold fB;refine C7 R P Q hp nt ht hw hm fun T h f U=>?_
 have sT:(st++[Oh.lst (iL T)])[st.length]?=À (.lst (iL T)):=gl;refine au (sl':=[Is nn,Rs k,Is p,Rs st.length,h,f,Rs (st.length+1),Á,Á,Á,Á]) (st':=st++[Oh.lst (iL T)]++[Oh.lst (iL ((T.drop w).take m))]) ?_ ?_
 ·simp[mS,mQ,HA,bH sT,EE U.len]
 have ll:(st++[Oh.lst (iL T)]).length=st.length+1:=by simp
 have V:∀W:List Int,(st++[Oh.lst (iL T)]++[Oh.lst (iL W)])[st.length]?=À (.lst (iL T)):=fun W=>ga sT
 have sW:∀W:List Int,(st++[Oh.lst (iL T)]++[Oh.lst (iL W)])[st.length+1]?=À (.lst (iL W)):=fun W=>by rw[<- ll];exact gl
 have L:∀W d:List Int,(st++[Oh.lst (iL T)]++[Oh.lst (iL W)]).set (st.length+1) (.lst (iL d))=st++[Oh.lst (iL T)]++[Oh.lst (iL d)]:=fun W d=>by rw[<- ll];exact fW
 have hW0:∀x,x<m->gI ((T.drop w).take m) x=wt T HO w 0 x:=fun x v=>by
  unfold wt gI;rw[zD,ţ v,M',zD];simp[Oj]
 obtain⟨sl',st',e,W,N,J,B,A,rfl,rfl,O,M⟩:=eE (gd:=[]) (g:=cg KW (.nm 7)) (s:=ai KW (.cons (.as (.ix (.v 3) (.bin .Sub (.v 7) (.i 1))) (.nm 8)) (.cons (.iff (.cmp .NotEq (.v 8) (.i 0))
   (.cons (.fo (.en (.ca Â 2 (.cons (.v 0) (.cons (.ca Â 1 (.cons (.v 0) (.cons (.v 7) (.cons (.i 0) .nil)))) .nil)))) (.tu 2 (.cons (.nm 9) (.cons (.nm 10) .nil))) (.cons (.aus .Add (.v 6) (.v 9) (.bin .Mult (.v 8) (.v 10))) .nil)) .nil) .nil) .nil)))
  (I:=fun i sl s=>∃W N J B A,s=st++[Oh.lst (iL T)]++[Oh.lst (iL W)]/\sl=[Is nn,Rs k,Is p,Rs st.length,h,f,Rs (st.length+1),N,J,B,A]/\W.length=m/\∀x,x<m->gI W x=wt T HO w i x) (xs:=dj 1 w) (fun _ _ _ _ _=>rfl)
  (fun i y sl s C hI=>by
   obtain⟨W,N,J,B,A,rfl,rfl,O,M⟩:=hI;have hi:i<w:=by have:=(zB.mp C).1;unfold dj at this;simpa using this
   have ey:y=.int (((i+1:Nat)):Int):=by
    unfold dj at C;rw[zR,ĵ hi]at C;injection C with C;rw[<- C];show AV.int (1+(i:Int))=_;congr 1;lia
   subst ey;have xi:aY (st++[Oh.lst (iL T)]++[Oh.lst (iL W)]) (.ref st.length) (.int (i:Int))=À (.int (gI T i)):=by rw[cU (bH (V W)),cG,cj (by rw[U.len];lia)]
   have K:cW KW (.as (.ix (.v 3) (.bin .Sub (.v 7) (.i 1))) (.nm 8)) [Is nn,Rs k,Is p,Rs st.length,h,f,Rs (st.length+1),Is ((i+1:Nat):Int),J,B,A] (st++[Oh.lst (iL T)]++[Oh.lst (iL W)])=À (.nx [Is nn,Rs k,Is p,Rs st.length,h,f,Rs (st.length+1),Is ((i+1:Nat):Int),Is (gI T i),B,A] (st++[Oh.lst (iL T)]++[Oh.lst (iL W)])):=by
    have e0:((i+1:Nat):Int)-1=(i:Int):=by lia
    have hb:aZ .Sub (st++[Oh.lst (iL T)]++[Oh.lst (iL W)]) (.int ((i+1:Nat):Int)) (.int 1)=À (.int (i:Int)):=by rw[J7,e0]
    simp only[d7,pR,Im,gO,oq,fb,fE,Å,hb,á,xi];rfl
   by_cases h0:gI T i=0
   ·refine⟨_,_,_,rfl,aq K ?_,W,Is ((i+1:Nat):Int),Is (gI T i),B,A,rfl,rfl,O,fun x v=>?_⟩
    ·simp[h0]
    ·rw[M x v];unfold wt;simp only[Oj,h0];lia
   ·obtain⟨rr,r1,r2⟩:=H.ex (i+1) oM oM
    have D:=H.len (i+1) oM oM;obtain⟨sl',st',e,d,G,F,rfl,rfl,E,t⟩:=eE (gd:=[]) (g:=cg KW (.tu 2 (.cons (.nm 9) (.cons (.nm 10) .nil)))) (s:=ai KW (.cons (.aus .Add (.v 6) (.v 9) (.bin .Mult (.v 8) (.v 10))) .nil))
     (I:=fun j sl s=>∃d G F,s=st++[Oh.lst (iL T)]++[Oh.lst (iL d)]/\sl=[Is nn,Rs k,Is p,Rs st.length,h,f,Rs (st.length+1),Is ((i+1:Nat):Int),Is (gI T i),G,F]/\d.length=m/\∀x,x<m->gI d x=gI W x+if x<j then gI T i*gI (HO (i+1)) x else 0) (xs:=fq 0 (iL (HO (i+1)))) (fun _ _ _ _ _=>rfl)
     (fun j y sl s C hI=>by
      obtain⟨d,G,F,rfl,rfl,E,t⟩:=hI;obtain⟨x,o,rfl⟩:=pw C;have hj:j<nr:=by have:=(zB.mp o).1;simpa [D] using this
      rw[cj oM]at o;injection o with o;subst o;have hc:(gI (HO (i+1)) j).natAbs<=15:=by
       refine H.bd (i+1) oM oM _ ?_;unfold gI;exact SX.getD_mem oM
      have mb:cV (gI T i) (gI (HO (i+1)) j)=Â:=by
       unfold cV;have:ä (gI (HO (i+1)) j).natAbs.log2 62=Â:=yL (by
        by_cases hz:(gI (HO (i+1)) j).natAbs=0
        ·rw[hz];decide
        ·exact yZ ((Ĉ hz).mpr (yM hc dC)))
       rw[this];simp
      refine⟨_,_,_,rfl,aq (Kg (r:=st.length+1) (q:=j) (l:=d) (x:=gI T i*gI (HO (i+1)) j) rfl rfl (by simp[ba mb]) (sW d) oM) rfl,d.set j (gI d j+gI T i*gI (HO (i+1)) j),_,_,L _ _,rfl,by simp[E],fun x v=>?_⟩;rw[qg oM];by_cases e:x=j
      ·subst e;rw[yI rfl,t x v,yH oM,yI oM];lia
      ·rw[yH e,t x v]
       by_cases e2:x<j
       ·rw[yI e2,yI oM]
       ·rw[yH e2,yH oM]) (sl:=[Is nn,Rs k,Is p,Rs st.length,h,f,Rs (st.length+1),Is ((i+1:Nat):Int),Is (gI T i),B,A]) (st:=st++[Oh.lst (iL T)]++[Oh.lst (iL W)]) ⟨W,B,A,rfl,rfl,O,fun x v=>by simp⟩
    rw[mF,gC,D]at t;refine⟨_,_,_,rfl,aq K (aq (sl':=[Is nn,Rs k,Is p,Rs st.length,h,f,Rs (st.length+1),Is ((i+1:Nat):Int),Is (gI T i),G,F]) (st':=st++[Oh.lst (iL T)]++[Oh.lst (iL d)]) ?_ rfl),d,Is ((i+1:Nat):Int),Is (gI T i),G,F,rfl,rfl,E,fun x v=>?_⟩
    ·have r1':=r1 (st++[Oh.lst (iL T)]++[Oh.lst (iL W)])
     have Z:=r2 (st++[Oh.lst (iL T)]++[Oh.lst (iL W)]);simp only[eJ,ms,gO,oq,fb,fE,Å,Mg,á,yA h0,Bool.not_false,ite_true];refine aq (sl':=[Is nn,Rs k,Is p,Rs st.length,h,f,Rs (st.length+1),Is ((i+1:Nat):Int),Is (gI T i),G,F]) (st':=st++[Oh.lst (iL T)]++[Oh.lst (iL d)]) ?_ rfl;rw[nW,L5];simp only[km,bJ,dg,gO,oq,fb,fE,Å,rq,lA,ly];rw[r1'];simp only[Å];rw[Z];simp only[Å,yw,á];exact e
    ·rw[t x v,M x v]
     unfold wt;simp only[Oj];by_cases e:x<nr
     ·rw[yI e];lia
     ·rw[yH e]
      have:gI (HO (i+1)) x=0:=by unfold gI;rw[zD,Ø oM];rfl
      rw[this,yP];lia) (sl:=[Is nn,Rs k,Is p,Rs st.length,h,f,Rs (st.length+1),Á,Á,Á,Á]) (st:=st++[Oh.lst (iL T)]++[Oh.lst (iL ((T.drop w).take m))]) ⟨_,Á,Á,Á,Á,rfl,rfl,by simp[U.len],hW0⟩
 have rl:(dj 1 w).length=w:=by unfold dj;simp
 rw[rl]at M;refine⟨(.ref (st.length+1),st++[Oh.lst (iL T)]++[Oh.lst (iL W)]),?_,T,W,U,O,M,rfl,rfl⟩;refine ae (sl':=[Is nn,Rs k,Is p,Rs st.length,h,f,Rs (st.length+1),N,J,B,A]) (st':=st++[Oh.lst (iL T)]++[Oh.lst (iL W)]) ?_ (by simp);have Y:fY 1=Â:=by decide
 have X:fY ((w:Int)+1)=Â:=by
  unfold fY;refine yL ?_;rw[show((w:Int)+1).natAbs=w+1 by lia];exact yZ ((Ĉ oM).mpr oM)
 rw[nW];have ei:eB KW (.r2 (.i 1) (.bin .Add (.ca Â 0 (.cons (.v 0) .nil)) (.i 1))) [Is nn,Rs k,Is p,Rs st.length,h,f,Rs (st.length+1),Á,Á,Á,Á] (st++[Oh.lst (iL T)]++[Oh.lst (iL ((T.drop w).take m))])=À (⟨dj 1 w,[]⟩,st++[Oh.lst (iL T)]++[Oh.lst (iL ((T.drop w).take m))]):=by
  have e2:((w:Int)+1-1).toNat=w:=by lia
  simp[-List.append_assoc,Co,HA,Y,X]
 rw[ei,Å];exact e
end
section
variable{st:aa}{k a b c g n u w m p nr:Nat}{rows:List AV}{S:Sh}{nn:Int}{HO:Nat->List Int}{v:Nat->Nat->Int}
theorem TK.bd(a:TK S w m p T)(f:p<m)(Q:SX.Pm w m S.h S.s)(B:S.d.natAbs<2^8900/\∀i,i<m->∀j,j<w+1->(S.t i j).natAbs<2^8900)(q:Nat):(gI T q).natAbs<2^8900:=by
 by_cases e:q<w+m
 ·by_cases d:∃j,j<w/\S.h j=q
  ·obtain⟨j,b,rfl⟩:=d
   rw[a.hd j b]
   have:=B.2 p f j oM
   split
   ·exact this
   ·rw[ċ];exact this
  ·by_cases c:q=S.s p
   ·rw[c,a.sd]
    split
    ·rw[ċ];exact B.1
    ·exact B.1
   ·rw[a.no q e (fun j b z=>d ⟨j,b,z⟩) c];exact Ô _
 ·have:gI T q=0:=by unfold gI;rw[zD,Ø (by rw[a.len];lia)];rfl
  rw[this];exact Ô _
theorem BX(hb:∀q,(gI T q).natAbs<2^8900)(H:HOk nn w nr HO)(a:w<=15)(x:Nat):(wt T HO w w x).natAbs<2^9000:=by
 unfold wt;have k:=SX.abs_sum (n:=w) (f:=fun y=>gI T y*gI (HO (y+1)) x) (M:=2^8900*15) fun i d=>by
  rw[xA];refine ś (yZ (hb i)) ?_;unfold gI;rw[zD];cases e:(HO (i+1))[x]? with
  |none=>simp
  |some z=>exact H.bd (i+1) oM oM z (zW e)
 have j:=hb (w+x);have h:=Ϥ (gI T (w+x)) (Oj w fun y=>gI T y*gI (HO (y+1)) x);have g:w*(2^8900*15)<=15*(2^8900*15):=Ő _ a;have c:(2:Nat)^9000=2^8900*2^100:=by rw[<- Š]
 have b:(2:Nat)^100=1267650600228229401496703205376:=by decide
 rw[c,b];generalize (2:Nat)^8900=B at *;lia
theorem Br(R:Rep st k a b c g n u rows S)(I:MI w (m+1) v S)(E:Bnd w (m+1) v)(i:p<m+1)(J:S.tn.Nodup)(M:∀q∈S.tn,q<w+(m+1))(L:w<=15)(hm:m+1<=400)(F:∀st,pm af [.int nn] st=À (.int w,st))(H:HOk nn w nr HO)(r:nr<=m) :
  ∃z,bF [.int nn,.ref k,.int p] st=À z/\∃X T W,GX S w w (m+1) X/\TK S w (m+1) p T/\W.length=m/\(∀x,x<m->gI W x=wt T HO w w x)/\(∀x∈W++[S.d],x.natAbs<2^9000) /\
   z.1=.tup [.str "least",.tup [.int (gI (aw [- S.t p w,S.d]) 0),.int (gI (aw [- S.t p w,S.d]) 1)],.tup [.fz (iL ((aw (X++[S.d])).take w)),.int (gI (aw (X++[S.d])) w)],.int (gI (aw (W++[S.d])) m),.fz (iL ((aw (W++[S.d])).take m))]:=by
 have P:=I.shp;have B:=E.bd I;obtain⟨z,e1,T,W,D,o,C,f,e⟩:=BW R P I.pm i J M oM oM F H r;obtain⟨z1,z2⟩:=z;dsimp only at f e;subst f;subst e;have R2:=(R.app (ys:=[Oh.lst (iL T)])).app (ys:=[Oh.lst (iL W)]);have s:∀x∈W++[S.d],x.natAbs<2^9000:=fun x K=>by
  rcases zZ.mp K with h|h
  ·obtain⟨j,A⟩:=z9 h
   have N:=(zB.mp A).1;have V:gI W j=x:=by unfold gI;rw[zD,A];rfl
   rw[<- V,C j oM];exact BX (D.bd i I.pm (E.bd8 I)) H L j
  ·rw[zM.mp h];exact B.1
 have Z:=sU (l:=W++[S.d]) (st:=st++[Oh.lst (iL T)]++[Oh.lst (iL W)]) (by simp[o];lia) s;obtain⟨X,T',d,Y,rfl,O,R3⟩:=B7 R2 P I.pm B F oM oM;have U:=Hv (a:=- S.t p w) (b:=S.d) (st:=st) (by rw[ċ];exact B.2 p i w oM) B.1;refine⟨(_,d),?_,X,T,W,O,D,o,C,s,rfl⟩;have t:(aw (W++[S.d])).length=m+1:=by rw[eR];simp[o]
 rw[bF,aD];unfold f9;refine ae (sl':=[Is nn,Rs k,Is p,À (.tup [.int (gI (aw [- S.t p w,S.d]) 0),.int (gI (aw [- S.t p w,S.d]) 1)]),Á]) (st':=st) (by simp[R.ins,R.line P i,R.last P i,U]) ?_;refine ae (sl':=[Is nn,Rs k,Is p,À (.tup [.int (gI (aw [- S.t p w,S.d]) 0),.int (gI (aw [- S.t p w,S.d]) 1)]),Ls (aw (W++[S.d]))]) (st':=st++[Oh.lst (iL T)]++[Oh.lst (iL W)]) ?_ ?_
 ·have Q:(st++[Oh.lst (iL T)]++[Oh.lst (iL W)])[st.length+1]?=À (.lst (iL W)):=by
   have:(st++[Oh.lst (iL T)]).length=st.length+1:=by simp
   rw[<- this];exact gl
  have c:=j7 (ks:=[di,aM,ar,aQ]) (a:=.ca Ã 1 (.cons (.v 0) (.cons (.v 1) (.cons (.v 2) .nil)))) (b:=.nw Ã (.li (.cons (.fd "Sheet" "below" (.v 1)) .nil)))
   (sl:=[Is nn,Rs k,Is p,À (.tup [.int (gI (aw [- S.t p w,S.d]) 0),.int (gI (aw [- S.t p w,S.d]) 1)]),Á]) (st:=st) (s1:=st++[Oh.lst (iL T)]++[Oh.lst (iL W)]) (s2:=st++[Oh.lst (iL T)]++[Oh.lst (iL W)]) (x:=.ref (st.length+1)) (y:=.fz [AV.int S.d]) (l:=W) (l':=[S.d])
   (by simp only[km,bJ,dg,gO,fb,fE,Å,rC,lA,ly];exact e1) (by simp[-List.append_assoc,cO,R2.ins]) (bH Q) rfl (by simp[o];lia)
  simp only[d7,km,bJ,dg,c7,c,Å,bv,ite_true,rq,lA,ly,Z,BD];rfl
 ·have G:aY d (.fz (iL (aw (W++[S.d])))) (.int (-1))=À (.int (gI (aw (W++[S.d])) m)):=by rw[cU eN,qu (n:=m) (by simp[t]),cj oM]
  simp[-List.append_assoc,Y,mS,mQ,tR t,G]
end
open SX (Qt v0)
def val(w:Nat)(r:List Int)(Y:Nat->Int):Int:=Oj w fun x=>gI r x*Y x
structure Kp(w:Nat)(RR:List (List Int))(gv:List Gv)(Y:Nat->Int)(e:Int):Prop where
 rule:∀r∈RR,0<=val w r Y
 eq:∀z∈gv,z.eq=Â->val w z.row Y=z.num*e
 ge:∀z∈gv,z.eq=Ã->z.num*e<=val w z.row Y
structure TbS(w:Nat)(RR:List (List Int))(gv:List Gv)(X:List Int)(D:Int):Prop where
 len:X.length=w
 pos:0<D
 bd:(∀x∈X,x.natAbs<2^2500)/\D.natAbs<2^2500
 kp:Kp w RR gv (gI X) D
 lo1:gL (X++[D])=1
structure Ct(w:Nat)(RR:List (List Int))(gv:List Gv)(goal:List Int)(W:List Int)(K N:Int):Prop where
 len:W.length=RR.length+gv.length
 pos:∀x,x<RR.length->0<=gI W x
 ge:∀y z,gv[y]?=À z->z.eq=Ã->0<=gI W (RR.length+y)
 bd:∀x∈W,x.natAbs<2^9000
 kb:K.natAbs<2^9000
 id:∀Y e,(Oj (RR.length+gv.length) fun x=>gI W x*Qt w (v0 w (ah RR gv goal)) Y e (w+x))=K*val w goal Y-N*e
def rW(w:Nat)(RR:List (List Int))(gv:List Gv)(goal:List Int)(t:AV):Prop :=
 (∃W N,t=.tup [.str "never",.fz (iL W)]/\Ct w RR gv goal W 0 N/\0<N) \/
 (∃T d X D K N W,t=.tup [.str "least",.tup [.int (gI (aw [T,d]) 0),.int (gI (aw [T,d]) 1)],.tup [.fz (iL X),.int D],.int K,.fz (iL W)]/\0<d/\(T.natAbs<2^2500/\d.natAbs<2^2500)/\(TbS w RR gv X D/\val w goal (gI X)*d=T*D)/\Ct w RR gv goal W K N/\0<K/\T*K=N*d) \/
 ∃X D Z,t=.tup [.str "endless",.tup [.fz (iL X),.int D],.fz (iL Z)]/\TbS w RR gv X D/\(Z.length=w/\∀x∈Z,x.natAbs<2^2500)/\Kp w RR gv (gI Z) 0/\val w goal (gI Z)<0
section
variable{w:Nat}{RR:List (List Int)}{gv:List Gv}{goal:List Int}{Y Y':Nat->Int}{e e' g T d:Int}
theorem oo{r:List Int}(h:∀x,x<w->Y x=g*Y' x):val w r Y=g*val w r Y':=by
 unfold val;rw[<- SX.sum_mul];exact SX.sum_congr fun x a=>by rw[h x a];grind
theorem Kp.div(b:0<g)(he:e=g*e')(h:∀x,x<w->Y x=g*Y' x)(K:Kp w RR gv Y e):Kp w RR gv Y' e':=by
 refine⟨fun r c=>?_,fun z hz a=>?_,fun z hz a=>?_⟩
 ·have:=K.rule r c
  rw[oo h]at this;exact j! (by rw[yP];exact this) b
 ·have:=K.eq z hz a
  rw[oo h,he]at this;exact ķ oM (this.trans (by grind))
 ·have:=K.ge z hz a
  rw[oo h,he]at this;exact j! (Ň (by rw[show g*(z.num*e')=z.num*(g*e') by grind];exact ń _) this) b
theorem oO(l:List Int):∃g:Int,0<g/\∀i,gI l i=g*gI (aw l) i:=by
 by_cases h:gL l=0
 ·exact⟨1,by decide,fun i=>by unfold aw;rw[yI h,ϊ]⟩
 ·refine⟨(gL l:Int),by lia,fun i=>?_⟩
  unfold aw;rw[yH h];unfold gI;rw[zD,zD,zR];cases e:l[i]? with
  |none=>simp
  |some x =>
   have:=lS x (zW e)
   exact(H? (ό.mp (Ń.mpr this))).symm
theorem lx{l:List Int}{M:Nat}(b:0<M)(h:∀x∈l,x.natAbs<M)(i:Nat):(gI (aw l) i).natAbs<M:=by
 obtain⟨g,c,e⟩:=oO l;have a:=pf h b i;rw[e i,xA]at a;exact yM (Nat.le_mul_of_pos_left _ oM) a
theorem i5{l:List Int}{P:Int->Prop}(h:∀i,i<l.length->P (gI l i)):∀x∈l,P x:=fun x b=>by
 obtain⟨i,a⟩:=z9 b
 have:=h i (zB.mp a).1
 unfold gI at this;rw[zD,a]at this;exact this
theorem qh{l:List Int}{w i:Nat}(h:i<w):gI (l.take w) i=gI l i:=by
 unfold gI;rw[zD,zD,ţ h]
theorem zj{l l':List Int}{i:Nat}(h:i<l.length):gI (l++l') i=gI l i:=by
 unfold gI;rw[zD,zD,zN h]
theorem zh{l:List Int}{d:Int}:gI (l++[d]) l.length=d:=by
 unfold gI;rw[zD];simp
theorem HG{c:Nat}{l:List Int}(h:∀x∈l,c ∣ x.natAbs):c ∣ gL l:=by
 have e:∀(l:List Int)(g:Nat),c ∣ g->(∀x∈l,c ∣ x.natAbs)->c ∣ l.foldl (fun g x=>þ g x.natAbs) g:=fun l=>by
  induction l with
  |nil=>intro g a _;exact a
  |cons x l b=>intro g a h;exact b _ (Nat.dvd_gcd a (h x z7)) fun y d=>h y (zQ _ d)
 exact e l 0 (Nat.dvd_zero c) h
theorem Hm{l:List Int}(h:gL l≠0):gL (aw l)=1:=by
 have hd:gL (aw l)*gL l ∣ gL l:=HG fun x a=>by
  have c:x/(gL l:Int)∈aw l:=by unfold aw;rw[yH h];exact yD.mpr ⟨x,a,rfl⟩
  have b:=lS _ c;have e:x=x/(gL l:Int)*(gL l:Int):=(ŗ (ό.mp (Ń.mpr (lS x a)))).symm;have d:x.natAbs=(x/(gL l:Int)).natAbs*gL l:=by
   have:=congrArg Int.natAbs e
   rw[xA,ġ]at this;exact this
  rw[d];exact Nat.mul_dvd_mul_right b _
 have:=U9 (O7 h) hd
 have f:gL (aw l)<=1:=Nat.le_of_mul_le_mul_right (by rw[Ţ];exact this) (O7 h);have g:gL (aw l)≠0:=fun z=>by rw[z,Nat.zero_mul]at hd;exact h (m? hd)
 lia
theorem xu{l:List Int}(h:l.length=w+1):l.take w++[gI l w]=l:=by
 have e:gI l w=l[w]:=by unfold gI;rw[zD,zF oM];rfl
 rw[e,List.take_append_getElem,ô oM]
theorem TbS.low{X:List Int}(a:X.length=w)(hd:0<d)(hb:(∀x∈X,x.natAbs<2^9000)/\d.natAbs<2^9000)(K:Kp w RR gv (gI X) d):∃g,0<g/\d=g*gI (aw (X++[d])) w/\(∀r,val w r (gI X)=g*val w r (gI ((aw (X++[d])).take w))) /\
  ((aw (X++[d])).take w).length=w/\0<gI (aw (X++[d])) w/\Kp w RR gv (gI ((aw (X++[d])).take w)) (gI (aw (X++[d])) w)/\gL ((aw (X++[d])).take w++[gI (aw (X++[d])) w])=1:=by
 obtain⟨g,b,e⟩:=oO (X++[d]);have c:d=g*gI (aw (X++[d])) w:=by
  have:=e w
  rw[<- a,zh]at this;rw[<- a];exact this
 have ex:∀x,x<w->gI X x=g*gI ((aw (X++[d])).take w) x:=fun x f=>by
  rw[qh f,<- e x,zj oM]
 refine⟨g,b,c,fun r=>oo ex,?_,?_,K.div b c ex,?_⟩
 ·rw[ī,eR,zV,a];simp
 ·rcases Q6 0 (gI (aw (X++[d])) w) with h|h|h
  ·exact h
  ·rw[<- h]at c;lia
  ·have:=Ķ b h;lia
 ·rw[xu (by rw[eR,zV,a];rfl)]
  refine Hm fun z=>?_
  have:=lS d (zK X (zM.mpr rfl))
  rw[z]at this
  have:=m? this
  lia
theorem TbS.of{X:List Int}(k:X.length=w)(hd:0<d)(hb:(∀x∈X,x.natAbs<2^2500)/\d.natAbs<2^2500)(K:Kp w RR gv (gI X) d)(f:val w goal (gI X)=T):TbS w RR gv ((aw (X++[d])).take w) (gI (aw (X++[d])) w)/\val w goal (gI ((aw (X++[d])).take w))*d=T*gI (aw (X++[d])) w:=by
 have big:(2:Nat)^2500<=2^9000:=ž dC dC;obtain⟨g,p,m,ev,e,j,n,c⟩:=TbS.low k hd ⟨fun x a=>zJ (hb.1 x a) big,zJ hb.2 big⟩ K;have b:=lx (l:=X++[d]) (Ô 2500) fun x a=>by
  rcases zZ.mp a with h|h
  ·exact hb.1 x h
  ·rw[zM.mp h];exact hb.2
 refine⟨⟨e,j,⟨i5 fun i o=>?_,b w⟩,n,c⟩,?_⟩
 ·rw[qh oM];exact b i
 ·rw[<- f,ev goal]
  generalize gI (aw (X++[d])) w=D at *;rw[m];grind
end
structure AI(w nr:Nat)(gv:List Gv)(L:List (List Int))(i:Nat)(S:Sh):Prop where
 mi:MI w (nr+gv.length+1) (v0 w L) S
 un:∀x,nr+i<=x->x<nr+gv.length+1->S.s x=w+x
 g1:∀q∈S.gd,q<w+nr\/∃y z,y<i/\gv[y]?=À z/\z.eq=Ã/\q=w+nr+y
 g2:∀q,q<w+nr->q∈S.gd
 g3:∀y z,y<i->gv[y]?=À z->z.eq=Ã->w+nr+y∈S.gd
 n1:∀q∈S.nl,∃y z,y<i/\gv[y]?=À z/\z.eq=Â/\q=w+nr+y
 n2:∀y z,y<i->gv[y]?=À z->z.eq=Â->w+nr+y∈S.nl
 t1:∀q∈S.tn,q∈S.nl
 tn:S.tn.Nodup
 lg:S.gd.length<=w+nr+i
 ln:S.nl.length<=i
 lt:S.tn.length<=i
section
variable{w nr i:Nat}{RR:List (List Int)}{gv:List Gv}{goal:List Int}{S:Sh}{Y:Nat->Int}{e:Int}
theorem tH{c:Int}{x:Nat}(h:r.length=w):gI (r++[c]) x=if x<w then gI r x else if x=w then c else 0:=by
 unfold gI;simp only[zD];by_cases b:x<w
 ·rw[yI b,zN oM]
 ·rw[yH b,z6 oM]
  by_cases a:x=w
  ·rw[yI a,h,a];simp
  ·rw[yH a,Ø (by simp;lia)];rfl
theorem cP{c:Int}{j:Nat}(f:L[j]?=À (r++[c]))(b:r.length=w):Qt w (v0 w L) Y e (w+j)=val w r Y+c*e:=by
 have a:∀x,v0 w L (w+j) x=gI (r++[c]) x:=fun x=>by
  unfold v0;rw[yH oM,show w+j-w=j by lia,zD,f];rfl
 unfold Qt val;rw[a,tH b,yH oM,yI rfl];congr 1;exact SX.sum_congr fun x d=>by rw[a,tH b,yI d]
theorem Ah{q:Nat}(b:q<w):Qt w (v0 w L) Y e q=Y q:=by
 have a:∀x,v0 w L q x=if x=q then 1 else 0:=fun x=>by unfold v0;rw[yI b]
 unfold Qt;rw[SX.sum_one b fun x _ ne=>by rw[a,yH ne,yQ],a,yI rfl,a,yH oM];lia
theorem j9(a:i<RR.length):(ah RR gv goal)[i]?=À (RR[i]++[0]):=by
 unfold ah;rw[yN,zN (by simpa using a)];simp[a]
theorem iU(hz:gv[i]?=À z):(ah RR gv goal)[RR.length+i]?=À (z.row++[- z.num]):=by
 have a:=(zB.mp hz).1;unfold ah;rw[yN,z6 (by simp),zN (by simp;exact a)];simp[hz]
theorem Ak:(ah RR gv goal)[RR.length+gv.length]?=À (goal.map (fun x=>- x)++[0]):=by
 unfold ah;rw[z6 (by simp)];simp
theorem wW:(ah RR gv goal).length=RR.length+gv.length+1:=by simp[ah];lia
theorem uB:val w (goal.map fun x=>- x) Y=- val w goal Y:=by
 unfold val;have:∀x,gI (goal.map fun x=>- x) x=- gI goal x:=fun x=>by
  unfold gI;rw[zD,zD,zR];cases goal[x]?<;>rfl
 rw[SX.sum_congr (g:=fun x=>(-1)*(gI goal x*Y x)) fun x _=>by rw[this];grind,SX.sum_mul];lia
structure Sz(w:Nat)(RR:List (List Int))(gv:List Gv)(goal:List Int):Prop where
 r:∀l∈RR,l.length=w
 g:∀z∈gv,z.row.length=w
 o:goal.length=w
 hg:∀Y:Nat->Int,(∀r∈RR,0<=val w r Y)->∀x,x<w->0<=Y x
theorem AI.of(Z:Sz w RR gv goal)(A:AI w RR.length gv (ah RR gv goal) i S)(F:Kp w RR gv Y e):(∀q∈S.gd,0<=Qt w (v0 w (ah RR gv goal)) Y e q)/\∀q∈S.nl,Qt w (v0 w (ah RR gv goal)) Y e q=0:=by
 refine⟨fun q c=>?_,fun q c=>?_⟩
 ·rcases A.g1 q c with h|⟨y,z,j,b,f,rfl⟩
  ·by_cases g:q<w
   ·rw[Ah g];exact Z.hg Y F.rule q g
   ·have d:q-w<RR.length:=by lia
    have:=cP (Y:=Y) (e:=e) (j9 (gv:=gv) (goal:=goal) d) (Z.r _ (Ó d))
    rw[show w+(q-w)=q by lia]at this;rw[this,yQ,ê];exact F.rule _ (Ó d)
  ·have a:=zW b
   rw[ũ,cP (iU b) (Z.g z a)]
   have:=F.ge z a f
   have k:- z.num*e=- (z.num*e):=by grind
   lia
 ·obtain⟨y,z,j,b,f,rfl⟩:=A.n1 q c
  have a:=zW b;rw[ũ,cP (iU b) (Z.g z a)]
  have:=F.eq z a f
  have k:- z.num*e=- (z.num*e):=by grind
  lia
theorem AI.to(Z:Sz w RR gv goal)(A:AI w RR.length gv (ah RR gv goal) gv.length S)(f:∀q∈S.gd,0<=Qt w (v0 w (ah RR gv goal)) Y e q)(h:∀q∈S.nl,Qt w (v0 w (ah RR gv goal)) Y e q=0):Kp w RR gv Y e:=by
 refine⟨fun r g=>?_,fun z hz c=>?_,fun z hz c=>?_⟩
 ·obtain⟨i,d⟩:=z9 g
  have b:=(zB.mp d).1;have j:RR[i]=r:=(zB.mp d).2
  have:=f (w+i) (A.g2 _ oM)
  rw[cP (j9 b) (Z.r _ (Ó b)),yQ,ê,j]at this;exact this
 ·obtain⟨y,a⟩:=z9 hz
  have b:=(zB.mp a).1
  have:=h _ (A.n2 y z b a c)
  rw[ũ,cP (iU a) (Z.g z hz)]at this;have k:- z.num*e=- (z.num*e):=by grind
  lia
 ·obtain⟨y,a⟩:=z9 hz
  have b:=(zB.mp a).1
  have:=f _ (A.g3 y z b a c)
  rw[ũ,cP (iU a) (Z.g z hz)]at this;have k:- z.num*e=- (z.num*e):=by grind
  lia
theorem CY:∀q,q<w->∀x,x<w+1->v0 w L q x=if x=q then 1 else 0:=fun q a x _=>by unfold v0;rw[yI a]
theorem AI.vert(Z:Sz w RR gv goal)(A:AI w RR.length gv (ah RR gv goal) gv.length S){c:Nat}(J:c<w+1)(g:c<w->S.h c∉S.nl){X:Nat->Int}(r:∀i,i<RR.length+gv.length+1->S.s i<w->X (S.s i)=S.t i c)(b:∀j,j<w->S.h j<w->X (S.h j)=if j=c then S.d else 0)
  (e:∀i,i<RR.length+gv.length+1->S.s i∈S.gd->0<=S.t i c):Kp w RR gv X (if c=w then S.d else 0)/\val w goal X=- S.t (RR.length+gv.length) c:=by
 have I:=A.mi;have C:∀q∈S.tn,w<=q:=fun q a=>by obtain⟨y,z,_,_,_,rfl⟩:=A.n1 q (A.t1 q a);lia
 obtain⟨m,p⟩:=I.vert CY C J r b;have l:∀q∈S.gd,q∉S.tn:=fun q H F=>by
  obtain⟨y,z,x,v,u,t⟩:=A.n1 q (A.t1 q F);rcases A.g1 q H with h|⟨B,s,r,b,k,K⟩
  ·lia
  ·have:y=B:=by lia
   subst this;rw[v]at b;cases b;rw[u]at k;cases k
 have hd:=I.lin.pos;refine⟨A.to Z (fun q a=>?_) (fun q a=>?_),?_⟩
 ·have d:q<w+(RR.length+gv.length+1):=by
   rcases A.g1 q a with h|⟨y,z,_,b,_,rfl⟩
   ·lia
   ·have:=(zB.mp b).1;lia
  rcases I.pm.cov q d with⟨i,f,rfl⟩|⟨j,o,rfl⟩
  ·rw[m i f,yH (l _ a)];exact e i f a
  ·rw[p j o,yH (l _ a)];split<;>lia
 ·have d:q<w+(RR.length+gv.length+1):=by
   obtain⟨y,z,_,b,_,rfl⟩:=A.n1 q a
   have:=(zB.mp b).1;lia
  rcases I.pm.cov q d with⟨i,f,rfl⟩|⟨j,o,rfl⟩
  ·obtain⟨E,D⟩:=I.fea.n i f a
   have:S.t i c=0:=by
    by_cases h:c=w
    ·rw[h];exact E
    ·exact D c oM (g oM)
   rw[m i f,this];split<;>rfl
  ·rw[p j o,yH fun z=>g oM (by rw[<- z];exact a)]
 ·have G:=A.un (RR.length+gv.length) oM oM
  have k:=m (RR.length+gv.length) oM;rw[G]at k;have n:w+(RR.length+gv.length)∉S.tn:=fun z=>by
   obtain⟨y,s,x,_,_,t⟩:=A.n1 _ (A.t1 _ z);lia
  rw[yH n,cP Ak (by rw[zH];exact Z.o),uB,yQ,ê]at k;lia
theorem _root_.SX.pos_of{d x:Int}(hd:0<d)(h:0<d*x):0<x:=by
 rcases yV 0 x with a|a
 ·exact a
 ·have:=Ł (Ś hd) a;lia
theorem Db{M:Nat}{g:Nat->Nat}:∀{n:Nat}{F:Nat->Int},(∀j,j<n->g j<M)->(∀j k,j<n->k<n->g j=g k->j=k)->(∀q,q<M->(∀j,j<n->g j≠q)->F q=0)->Oj M F=Oj n fun j=>F (g j):=by
 intro n
 induction n with
 |zero=>intro F _ _ h;exact SX.sum_zero fun q b=>h q b fun j a=>absurd a (Nat.not_lt_zero j)
 |succ n f =>
  intro F c d h;rw[SX.sum_congr (g:=fun q=>(if q=g n then 0 else F q)+if q=g n then F q else 0) fun q _=>by split<;>lia,SX.sum_add,SX.sum_one (k:=g n) (c n oM) fun i _ h=>yH h,yI rfl,f (F:=fun q=>if q=g n then 0 else F q) (fun j a=>c j oM) (fun j k a o=>d j k oM oM) fun q b l=>by
   by_cases e:q=g n
   ·rw[yI e]
   ·rw[yH e]
    refine h q b fun j a z=>?_
    by_cases m:j=n
    ·subst m;exact e z.symm
    ·exact l j oM z]
  show _=Oj n _+F (g n);congr 1;exact SX.sum_congr fun j a=>yH fun z=>by have:=d j n oM oM z;lia
theorem ii{a:Nat}{f:Nat->Int}:∀b,Oj (a+b) f=Oj a f+Oj b fun x=>f (a+x)
 |0=>by show _=_+(0:Int);rw[ê];rfl
 |b+1=>by show Oj (a+b) f+_=_+(Oj b _+_);rw[ii b,Int.add_assoc];rfl
theorem TK.sum{v:Nat->Nat->Int}{m p:Nat}{T:List Int}(c:TK S w m p T)(I:MI w m v S)(b:p<m):(Oj (w+m) fun q=>gI T q*Qt w v Y e q)=S.t p w*e:=by
 have Q:=I.pm;rw[Db (n:=w+1) (g:=fun j=>if j<w then S.h j else S.s p) (fun j _=>by
  split
  ·exact Q.hl j (by assumption)
  ·exact Q.sl p b) (fun j k a i z=>by
  split at z<;>split at z
  ·exact Q.hi j k (by assumption) (by assumption) z
  ·exact absurd z (Q.hs j p (by assumption) b)
  ·exact absurd z.symm (Q.hs k p (by assumption) b)
  ·lia) fun q f d=>by
   rw[c.no q f (fun j a z=>d j oM (by rw[yI a];exact z)) fun z=>d w oM (by rw[yH (xB w)];exact z.symm),yQ]]
 show(Oj w fun j=>gI T (if j<w then S.h j else S.s p)*Qt w v Y e (if j<w then S.h j else S.s p))+gI T (if w<w then S.h w else S.s p)*Qt w v Y e (if w<w then S.h w else S.s p)=_;rw[yH (xB w),SX.sum_congr (g:=fun j=>(-1)*(S.t p j*Qt w (SX.vt v S.tn) Y e (S.h j))) fun j a=>by
  rw[yI a,c.hd j a,SX.Qt_vt];split<;>grind,SX.sum_mul,c.sd]
 have l:=I.line b Y e;rw[SX.Qt_vt]at l;split at l<;>rename_i h
 ·rw[yI h];grind
 ·rw[yH h];grind
theorem TK.nn{m p:Nat}{T:List Int}(b:TK S w m p T)(hd:0<S.d)(e:∀j,j<w->S.h j∉S.nl->¬0<S.t p j){q:Nat}(f:q<w+m)(g:q∉S.nl)(d:q∉S.tn):0<=gI T q:=by
 by_cases h:∃j,j<w/\S.h j=q
 ·obtain⟨j,a,rfl⟩:=h
  have:=e j a g
  rw[b.hd j a,yH d];lia
 ·by_cases c:q=S.s p
  ·rw[c,b.sd,yH (c▸d)];lia
  ·rw[b.no q f (fun j a z=>h ⟨j,a,z⟩) c];exact ń 0
structure Hx(w:Nat)(RR:List (List Int))(HO:Nat->List Int)(gv:List Gv)(goal:List Int):Prop where
 nn:∀y x,y<w->0<=gI (HO (y+1)) x
 id:∀(Y:Nat->Int) e y,y<w->(Oj (RR.length+gv.length) fun x=>gI (HO (y+1)) x*Qt w (v0 w (ah RR gv goal)) Y e (w+x))=Y y
 len:∀y,y<w->(HO (y+1)).length=RR.length
theorem EO{HO:Nat->List Int}{T:List Int}(X:Hx w RR HO gv goal):(Oj (RR.length+gv.length) fun x=>wt T HO w w x*Qt w (v0 w (ah RR gv goal)) Y e (w+x))+gI T (w+(RR.length+gv.length))*Qt w (v0 w (ah RR gv goal)) Y e (w+(RR.length+gv.length)) =
  Oj (w+(RR.length+gv.length+1)) fun q=>gI T q*Qt w (v0 w (ah RR gv goal)) Y e q:=by
 rw[ii (a:=w)];show _=_+(Oj (RR.length+gv.length) _+_);rw[SX.sum_congr (g:=fun x=>gI T (w+x)*Qt w (v0 w (ah RR gv goal)) Y e (w+x)+Oj w fun y=>gI T y*(gI (HO (y+1)) x*Qt w (v0 w (ah RR gv goal)) Y e (w+x))) fun x _=>by
  unfold wt;rw[Y?];congr 1;rw[ĳ,<- SX.sum_mul];exact SX.sum_congr fun y _=>by grind,SX.sum_add,SX.sum_swap,SX.sum_congr (n:=w) (g:=fun q=>gI T q*Qt w (v0 w (ah RR gv goal)) Y e q) fun y b=>by
  rw[SX.sum_mul,X.id Y e y b,Ah b]]
 dsimp only;lia
theorem Ik{HO:Nat->List Int}{T:List Int}{m p:Nat}(X:Hx w RR HO gv goal)(e:TK S w m p T)(hd:0<S.d)(c:∀j,j<w->S.h j∉S.nl->¬0<S.t p j)(d:∀q,q<w->q∉S.nl/\q∉S.tn){x:Nat}(g:w+x<w+m)(i:w+x∉S.nl)(h:w+x∉S.tn):0<=wt T HO w w x:=by
 have a:=e.nn hd c g i h;have b:∀k,k<=w->0<=Oj k fun y=>gI T y*gI (HO (y+1)) x:=fun k=>by
  induction k with
  |zero=>intro _;exact ń 0
  |succ k f =>
   intro l
   have:=f oM
   have:=í (e.nn hd c (q:=k) oM (d k oM).1 (d k oM).2) (X.nn k x oM)
   exact U' (by assumption) this
 have:=b w (zP w)
 unfold wt;lia
theorem Ct.le{W:List Int}{K N:Int}(C:Ct w RR gv goal W K N)(Z:Sz w RR gv goal)(F:Kp w RR gv Y e):N*e<=K*val w goal Y:=by
 have:∀k,k<=RR.length+gv.length->0<=Oj k fun x=>gI W x*Qt w (v0 w (ah RR gv goal)) Y e (w+x):=fun k=>by
  induction k with
  |zero=>intro _;exact ń 0
  |succ k d =>
   intro f
   have:=d oM
   have:0<=gI W k*Qt w (v0 w (ah RR gv goal)) Y e (w+k):=by
    by_cases h:k<RR.length
    ·rw[cP (j9 h) (Z.r _ (Ó h)),yQ,ê]
     exact í (C.pos k h) (F.rule _ (Ó h))
    ·obtain⟨y,rfl⟩:∃y,k=RR.length+y:=⟨k-RR.length,by lia⟩
     have hz:gv[y]?=À gv[y]:=zF oM;have b:=Ó (l:=gv) (n:=y) oM;rw[cP (iU hz) (Z.g _ b)];have c:- gv[y].num*e=- (gv[y].num*e):=Int.neg_mul _ _;cases a:gv[y].eq with
     |true=>rw[F.eq _ b a,c,Int.add_right_neg,yP];exact ń 0
     |false =>
      have:=F.ge _ b a
      rw[c];exact í (C.ge y _ hz a) oM
   exact U' (by assumption) this
 have h:=this _ (zP _);rw[C.id]at h;lia
theorem CA{HO:Nat->List Int}{T n W:List Int}{p:Nat}{g K:Int}(X:Hx w RR HO gv goal)(v:goal.length=w)(I:MI w (RR.length+gv.length+1) (v0 w (ah RR gv goal)) S)(u:p<RR.length+gv.length+1)(l:TK S w (RR.length+gv.length+1) p T)(k:∀x,x<RR.length+gv.length->gI n x=wt T HO w w x)
  (t:∀j,j<w->S.h j∉S.nl->¬0<S.t p j) (f:∀q,q<w+RR.length->q∉S.nl/\q∉S.tn) (hz:∀y z,gv[y]?=À z->z.eq=Ã->w+RR.length+y∉S.nl/\w+RR.length+y∉S.tn)
  (C:0<g) (A:W.length=RR.length+gv.length) (e:∀x,x<RR.length+gv.length->gI n x=g*gI W x) (D:gI T (w+(RR.length+gv.length))=g*K) (hb:∀x∈W,x.natAbs<2^9000) (B:K.natAbs<2^9000):∃N,- S.t p w=g*N/\Ct w RR gv goal W K N:=by
 have c:∀Y e,g*(Oj (RR.length+gv.length) fun x=>gI W x*Qt w (v0 w (ah RR gv goal)) Y e (w+x))=g*(K*val w goal Y)+S.t p w*e:=fun Y m=>by
  have h:=EO (T:=T) (Y:=Y) (e:=m) X;rw[l.sum I u,D,cP Ak (by rw[zH];exact v),uB,yQ,ê,SX.sum_congr (g:=fun x=>g*(gI W x*Qt w (v0 w (ah RR gv goal)) Y m (w+x))) fun x b=>by rw[<- k x b,e x b];grind,SX.sum_mul]at h;rw[<- h];grind
 obtain⟨s,r⟩:∃s,s=Oj (RR.length+gv.length) fun x=>gI W x*Qt w (v0 w (ah RR gv goal)) (fun _=>0) 1 (w+x):=⟨_,rfl⟩
 have o:=c (fun _=>0) 1;rw[<- r,show val w goal (fun _=>0)=0 from SX.sum_zero fun _ _=>yP _]at o;have sg:∀x,x<RR.length+gv.length->w+x∉S.nl->w+x∉S.tn->0<=gI W x:=fun x b d i=>by
  have:=Ik X l I.lin.pos t (fun q F=>f q oM) (x:=x) oM d i
  rw[<- k x b,e x b]at this;exact SX.nn_of C this
 refine⟨- s,by rw[Int.mul_neg];lia,A,fun x b=>sg x oM (f _ oM).1 (f _ oM).2,fun y z d i=>?_,hb,B,fun Y e=>ķ (a:=g) oM ?_⟩
 ·have E:=(zB.mp d).1
  have:=hz y z d i
  rw[ũ]at this;exact sg _ oM this.1 this.2
 ·rw[c,show S.t p w=g*s by lia];grind
end
section
variable{w:Nat}{RR:List (List Int)}{gv:List Gv}{goal:List Int}{nn:Int}{HO:Nat->List Int}
theorem Ez{n0:Nat}{i:Nat}(h:(fq n0 xs)[i]?=À y):∃x,xs[i]?=À x/\y=.tup [.int ((n0+i:Nat):Int),x]:=by
 unfold fq at h;rw[zR]at h;obtain⟨z,a,rfl⟩:=zE.mp h;rw[ź]at a;obtain⟨x,b,rfl⟩:=zE.mp a;exact⟨x,b,rfl⟩
theorem JN:cb .Eq s (.str "=") (.str "=")=À Â:=by kernel_rfl
theorem JB:cb .Eq s (.str ">") (.str "=")=À Ã:=by kernel_rfl
structure Qu(nn:Int)(w:Nat)(RR:List (List Int))(HO:Nat->List Int)(gv:List Gv)(goal:List Int):Prop where
 HR:∀st,pm ax [.int nn] st=À (.fz (aj RR),st)
 HA:∀st,pm af [.int nn] st=À (.int w,st)
 H:HOk nn w RR.length HO
 Z:Sz w RR gv goal
 hw:w<=15
 hR:RR.length<=100
 hg:gv.length<=100
 B:Bnd w (RR.length+gv.length+1) (v0 w (ah RR gv goal))
 X:Hx w RR HO gv goal
theorem vd(q:Qu nn w RR HO gv goal){k a b c g n u p:Nat}(R:Rep st k a b c g n u rows S)(I:MI w (RR.length+gv.length+1) (v0 w (ah RR gv goal)) S)(h:p<RR.length+gv.length+1)(t:S.tn.Nodup)(v:∀x∈S.tn,x<w+(RR.length+gv.length+1))(low:S.t p w<0)
  (B:∀j,j<w->S.h j∉S.nl->¬0<S.t p j) (D:∀q,q<w+RR.length->q∉S.nl/\q∉S.tn) (hz:∀y z,gv[y]?=À z->z.eq=Ã->w+RR.length+y∉S.nl/\w+RR.length+y∉S.tn) (F:∀j,j<w->S.h j≠w+(RR.length+gv.length)) (A:w+(RR.length+gv.length)≠S.s p) :
  ∃st1 W N st2,aM [.int nn,.ref k,.int p] st=À (.ref (st.length+1),st1)/\pm ar [.ref (st.length+1)] st1=À (.fz (iL W),st2)/\Ct w RR gv goal W 0 N/\0<N:=by
 obtain⟨z,M,T,W,m,E,r,e,d⟩:=BW R I.shp I.pm h t v (by have:=q.hw;lia) (by have:=q.hg;have:=q.hR;lia) q.HA q.H oM;obtain⟨P,O⟩:=z;dsimp only at e d;subst e;subst d;have H:(st++[Oh.lst (iL T)]++[Oh.lst (iL W)])[st.length+1]?=À (.lst (iL W)):=by
  have:(st++[Oh.lst (iL T)]).length=st.length+1:=by simp
  rw[<- this];exact gl
 have o:∀x∈W,x.natAbs<2^9000:=i5 fun j Q=>by
  rw[r j oM];exact BX (m.bd h I.pm (q.B.bd8 I)) q.H q.hw j
 obtain⟨st2,L,_⟩:=lu (fn:=ar) (rest:=[]) (st:=st++[Oh.lst (iL T)]++[Oh.lst (iL W)]) (x:=.ref (st.length+1)) (l:=W) (.inr ⟨_,rfl,.inl H⟩) rfl rfl (fun s=>rfl) (rJ (by have:=q.hg;have:=q.hR;lia) o) rfl (by simp[flat]);obtain⟨U,f,J⟩:=oO W;obtain⟨N,G,C⟩:=CA q.X q.Z.o I h m r B D hz f (W:=aw W) (K:=0) (by rw[eR,E]) (fun x _=>J x) (by rw[m.no _ oM F A,yP]) (i5 fun i _=>lx (Ô _) o i) (Ô _);exact⟨_,_,N,st2,M,L,C,SX.pos_of f (by rw[<- G];lia)⟩
theorem BR(q:Qu nn w RR HO gv goal):∃z,g8 [.int nn,.fz (gv.map Gv.av),.fz (iL goal)] []=À z/\∃t,fj z.2 z.1=À t/\rW w RR gv goal t:=by
 have Z:=q.Z;obtain⟨m,hm⟩:∃m,m=RR.length+gv.length:=⟨_,rfl⟩;have hLl:(ah RR gv goal).length=m+1:=by rw[wW,hm]
 obtain⟨L,hL⟩:∃L,L=ah RR gv goal:=⟨_,rfl⟩;obtain⟨O,e1,R1⟩:=Gs (gv:=gv) (goal:=goal) q.HR q.HA q.hw q.hR Z.r q.hg Z.g Z.o;have A0:AI w RR.length gv (ah RR gv goal) 0 (SX.openS w (ah RR gv goal) (w+RR.length)):=by
  have hLen:∀l∈ah RR gv goal,l.length=w+1:=fun l hl=>by
   unfold ah at hl;simp only[zZ,yD,zM]at hl;rcases hl with(⟨r,hr,rfl⟩|⟨z,hz,rfl⟩)|rfl
   ·simp[Z.r r hr]
   ·simp[Z.g z hz]
   ·simp[Z.o]
  have hI:=SX.open_MI (w:=w) (nr:=RR.length) (L:=ah RR gv goal) hLen fun i u=>by
   rw[zD,j9 u];show gI (RR[i]++[0]) w=0;rw[tH (Z.r _ (Ó u)),yH oM,yI rfl]
  rw[wW]at hI;refine⟨hI,fun x _ b=>SX.open_s (by rw[wW];exact b),fun x b=>.inl (Ü.mp b),fun x b=>Ü.mpr b,fun y z h=>by lia,fun x b=>?_,fun y z h=>by lia,fun x b=>?_,S8,by simp[SX.openS],zP 0,zP 0⟩
  ·exact absurd (show x ∈ ([]:List Nat) from b) (by simp)
  ·exact absurd (show x ∈ ([]:List Nat) from b) (by simp)
 have sm:=q.hg;have sm2:=q.hR;have sm3:=q.hw;rw[g8];simp only[aD];unfold oi;refine au (sl':=[Is nn,Zs (gv.map Gv.av),Ls goal,Rs 1,Á,Á,Á,Á,Á]) (st':=O) (by simp[e1]) ?_;have l2:bI O (.ref 2)=À (aj (ah RR gv goal)):=bH R1.ha;refine au (sl':=[Is nn,Zs (gv.map Gv.av),Ls goal,Rs 1,Is (m:Int),Á,Á,Á,Á]) (st':=O) (by simp[R1.ins,bo,dB,l2,hLl]) ?_
 have loop:=qj (gd:=[]) (g:=cg [bS,cF,bN,aM,ar,bG,bF,aQ,cD] (.tu 2 (.cons (.nm 5) (.cons (.nm 6) .nil))))
  (s:=ai [bS,cF,bN,aM,ar,bG,bF,aQ,cD] (.cons (.as (.ife (.cmp .Eq (.ix (.v 6) (.i 1)) (.s "=")) (.ca Ã 1 (.cons (.v 3) (.cons (.v 5) .nil))) (.ca Ã 2 (.cons (.v 3) (.cons (.v 5) .nil)))) (.nm 7))
   (.cons (.iff (.no (.va (.v 7))) (.cons (.rt (.tu (.cons (.s "never") (.cons (.ca Â 4 (.cons (.ca Ã 3 (.cons (.v 0) (.cons (.v 3) (.cons (.v 5) .nil)))) .nil)) .nil)))) .nil) .nil) .nil)))
  (I:=fun i sl s=>∃a rows S x5 x6 x7,sl=[Is nn,Zs (gv.map Gv.av),Ls goal,Rs 1,Is (m:Int),x5,x6,x7,Á]/\Rep s 1 a 3 4 5 6 7 rows S/\AI w RR.length gv (ah RR gv goal) i S)
  (Post:=fun v s=>∃t,fj s v=À t/\rW w RR gv goal t) (xs:=fq RR.length (gv.map Gv.av)) (fun _ _ _ _ _=>rfl)
  (fun i y sl s D hI=>by
   obtain⟨a,rows,S,x5,x6,x7,rfl,R,A⟩:=hI;obtain⟨x,b,rfl⟩:=Ez D;rw[zR]at b;obtain⟨z,hz,rfl⟩:=zE.mp b;have hzm:=zW hz;have u:=(zB.mp hz).1;have hp:RR.length+i<RR.length+gv.length+1:=by lia
   have I:=A.mi;have sp:S.s (RR.length+i)=w+RR.length+i:=by rw[A.un _ (zP _) hp];lia
   have ng:S.s (RR.length+i)∉S.gd:=fun h=>by
    rcases A.g1 _ h with h|⟨y,_,h,_,_,d⟩<;>lia
   have nn':S.s (RR.length+i)∉S.nl:=fun h=>by obtain⟨y,_,h,_,_,d⟩:=A.n1 _ h;lia
   have nt:S.s (RR.length+i)∉S.tn:=fun h=>nn' (A.t1 _ h)
   have unk:∀T:Sh,Kj (RR.length+gv.length+1) (RR.length+i) S T->∀x,RR.length+(i+1)<=x->x<RR.length+gv.length+1->T.s x=w+x:=fun T K x k d=>by
    have e:=A.un x oM d;rw[K.si x d oM (by rw[e];intro h;rcases A.g1 _ h with h|⟨y,_,h,_,_,d⟩<;>lia),e]
   have lst:∀x∈S.nl,x<w+(RR.length+gv.length+1):=fun x b=>by
    obtain⟨y,_,h,_,_,d⟩:=A.n1 _ b;lia
   have nev:∀T:Sh,MI w (RR.length+gv.length+1) (v0 w (ah RR gv goal)) T->Kj (RR.length+gv.length+1) (RR.length+i) S T->T.nl=S.nl->(∀x∈T.tn,x∈T.nl\/x=T.s (RR.length+i))->T.s (RR.length+i)=S.s (RR.length+i)->(z.eq=Ã->T.s (RR.length+i)∉T.tn) ->
     (∀q,q<w+RR.length->q∉T.nl/\q∉T.tn)/\(∀y z,gv[y]?=À z->z.eq=Ã->w+RR.length+y∉T.nl/\w+RR.length+y∉T.tn)/\(∀j,j<w->T.h j≠w+(RR.length+gv.length))/\w+(RR.length+gv.length)≠T.s (RR.length+i):=fun T I' K E tq Q hzt=>by
    have n1:∀x∈T.nl,∃y z,gv[y]?=À z/\z.eq=Â/\x=w+RR.length+y:=fun x b=>by
     rw[E]at b;obtain⟨y,n,_,h⟩:=A.n1 x b;exact⟨y,n,h⟩
    have nl:∀y n,gv[y]?=À n->n.eq=Ã->w+RR.length+y∉T.nl:=fun y n k d h=>by
     obtain⟨y',z2,Y,h4,h5⟩:=n1 _ h;have:y=y':=by lia
     subst this;rw[k]at Y;cases Y;rw[d]at h4;cases h4
    refine⟨fun q hq=>?_,fun y n k d=>⟨nl y n k d,fun h=>?_⟩,fun j hj e=>I'.pm.hs j (RR.length+gv.length) hj oM (e.trans (unk T K _ oM oM).symm),by rw[Q,sp];lia⟩
    ·have h:q∉T.nl:=fun h=>by obtain⟨y,_,_,_,h⟩:=n1 q h;lia
     exact⟨h,fun z=>(tq q z).elim h fun e=>by rw[e,Q,sp]at hq;lia⟩
    ·rcases tq _ h with Y|Y
     ·exact nl y n k d Y
     ·rw[Q,sp]at Y
      have:y=i:=by lia
      subst this;rw[hz]at k;cases k;exact hzt d (by rw[Q,sp];exact h)
   refine g_ fun G bk=>?_
   cases H:z.eq with
   |true =>
    refine Jt q.B R I hp ng nn' nt (by have:=A.ln;lia) (by have:=A.lt;lia) fun T s2 a2 F bb e2 R2 K M I2 hb=>?_
    have tnd:T.tn.Nodup:=by
     rcases K.tn with h|h
     ·rw[h];exact A.tn
     ·rw[h]
      rw[ϟ];exact⟨A.tn,by simp,fun x b y D e=>nt (by rw[<- zM.mp D,<- e];exact b)⟩
    have es:cW [bS,cF,bN,aM,ar,bG,bF,aQ,cD] (.as (.ife (.cmp .Eq (.ix (.v 6) (.i 1)) (.s "=")) (.ca Ã 1 (.cons (.v 3) (.cons (.v 5) .nil))) (.ca Ã 2 (.cons (.v 3) (.cons (.v 5) .nil)))) (.nm 7)) [Is nn,Zs (gv.map Gv.av),Ls goal,Rs 1,Is (m:Int),Is ((RR.length+i:Nat):Int),À z.av,x7,Á] s
      = À (.nx [Is nn,Zs (gv.map Gv.av),Ls goal,Rs 1,Is (m:Int),Is ((RR.length+i:Nat):Int),À z.av,À (.bl bb),Á] s2):=by
     have xi:aY s z.av (.int 1)=À (.str "="):=by
      have:z.av=.tup [.fz (iL z.row),.str "=",.int z.num]:=by unfold Gv.av;rw[H];rfl
      rw[this];rfl
     simp only[d7,BZ,ms,pR,gO,oq,xb,fb,fE,Å,xi,á,JN,ite_true,km,bJ,dg,rC,lA,ly,e2,BD];rfl
    rcases hb with⟨rfl,E⟩|⟨rfl,E,Q,low,hr⟩
    ·refine bk ⟨_,.nx [Is nn,Zs (gv.map Gv.av),Ls goal,Rs 1,Is (m:Int),Is ((RR.length+i:Nat):Int),À z.av,À (.bl Â),Á] s2,rfl,aq es ?_,.inl ⟨_,s2,rfl,a2,F,T,_,_,_,rfl,R2,⟨I2,unk T K,fun x b=>?_,fun x b=>by rw[M];exact A.g2 x b,fun y n D k d=>?_,fun x b=>?_,fun y n D k d=>?_,fun x b=>?_,tnd,?_,?_,?_⟩⟩⟩
     ·simp[fx,bI,dr]
     ·rw[M]at b
      rcases A.g1 x b with h|⟨y,n,k,d⟩
      ·exact .inl h
      ·exact .inr ⟨y,n,by lia,d⟩
     ·rw[M]
      by_cases e:y=i
      ·subst e;rw[hz]at k;cases k;rw[H]at d;cases d
      ·exact A.g3 y n oM k d
     ·rw[E,zZ,zM]at b
      rcases b with b|b
      ·obtain⟨y,n,k,d⟩:=A.n1 x b;exact⟨y,n,by lia,d⟩
      ·exact⟨i,z,by lia,hz,H,by rw[b,sp]⟩
     ·rw[E,zZ,zM]
      by_cases e:y=i
      ·subst e;exact .inr (by rw[sp])
      ·exact .inl (A.n2 y n oM k d)
     ·rw[E,zZ,zM]
      rcases K.tn with h|h
      ·rw[h]at b;exact .inl (A.t1 x b)
      ·rw[h,zZ,zM]at b
       exact b.imp (A.t1 x) id
     ·rw[M];have:=A.lg;lia
     ·rw[E,zV];have:=A.ln;simp;lia
     ·rcases K.tn with h|h
      ·rw[h];have:=A.lt;lia
      ·rw[h,zV];have:=A.lt;simp;lia
    ·have tq:∀x∈T.tn,x∈T.nl\/x=T.s (RR.length+i):=fun x b=>by
      rw[E,Q];rcases K.tn with h|h
      ·rw[h]at b;exact .inl (A.t1 x b)
      ·rw[h,zZ,zM]at b
       exact b.imp (A.t1 x) id
     obtain⟨v1,v2,v3,v4⟩:=nev T I2 K E tq Q fun h=>by rw[H]at h;cases h
     obtain⟨s3,W,N,s4,e3,e4,C,hN⟩:=vd q R2 I2 hp tnd (fun x b=>by
      rcases tq x b with h|h
      ·rw[E]at h;exact lst x h
      ·rw[h,Q,sp];lia) low hr v1 v2 v3 v4
     refine bk ⟨_,.rt (.tup [.str "never",.fz (iL W)]) s4,rfl,aq es ?_,.inr ⟨_,s4,rfl,_,rfl,.inl ⟨W,N,rfl,C,hN⟩⟩⟩;rw[T!]at e3;simp[fx,bI,dr,e3,e4]
   |false =>
    obtain⟨T,s2,a2,F,bb,e2,R2,K,ht,E,I2,hb⟩:=Js q.B R I hp ng nn' (by have:=A.lg;lia);have es:cW [bS,cF,bN,aM,ar,bG,bF,aQ,cD] (.as (.ife (.cmp .Eq (.ix (.v 6) (.i 1)) (.s "=")) (.ca Ã 1 (.cons (.v 3) (.cons (.v 5) .nil))) (.ca Ã 2 (.cons (.v 3) (.cons (.v 5) .nil)))) (.nm 7)) [Is nn,Zs (gv.map Gv.av),Ls goal,Rs 1,Is (m:Int),Is ((RR.length+i:Nat):Int),À z.av,x7,Á] s
      = À (.nx [Is nn,Zs (gv.map Gv.av),Ls goal,Rs 1,Is (m:Int),Is ((RR.length+i:Nat):Int),À z.av,À (.bl bb),Á] s2):=by
     have xi:aY s z.av (.int 1)=À (.str ">"):=by
      have:z.av=.tup [.fz (iL z.row),.str ">",.int z.num]:=by unfold Gv.av;rw[H];rfl
      rw[this];rfl
     simp only[d7,BZ,ms,pR,gO,oq,xb,fb,fE,Å,xi,á,JB,yB,ite_false,km,bJ,dg,rC,lA,ly,e2,BD];rfl
    rcases hb with⟨rfl,M⟩|⟨rfl,M,Q,low,hr⟩
    ·refine bk ⟨_,.nx [Is nn,Zs (gv.map Gv.av),Ls goal,Rs 1,Is (m:Int),Is ((RR.length+i:Nat):Int),À z.av,À (.bl Â),Á] s2,rfl,aq es ?_,.inl ⟨_,s2,rfl,a2,F,T,_,_,_,rfl,R2,⟨I2,unk T K,fun x b=>?_,fun x b=>by rw[M];exact zL _ (A.g2 x b),fun y n D k d=>?_,fun x b=>?_,fun y n D k d=>?_,fun x b=>by rw[ht]at b;rw[E];exact A.t1 x b,by rw[ht];exact A.tn,?_,by rw[E];have:=A.ln;lia,by rw[ht];have:=A.lt;lia⟩⟩⟩
     ·simp[fx,bI,dr]
     ·rw[M,zZ,zM]at b
      rcases b with b|b
      ·rcases A.g1 x b with h|⟨y,n,k,d⟩
       ·exact .inl h
       ·exact .inr ⟨y,n,by lia,d⟩
      ·exact .inr ⟨i,z,by lia,hz,H,by rw[b,sp]⟩
     ·rw[M,zZ,zM]
      by_cases e:y=i
      ·subst e;exact .inr (by rw[sp])
      ·exact .inl (A.g3 y n oM k d)
     ·rw[E]at b
      obtain⟨y,n,k,d⟩:=A.n1 x b;exact⟨y,n,by lia,d⟩
     ·rw[E]
      by_cases e:y=i
      ·subst e;rw[hz]at k;cases k;rw[H]at d;cases d
      ·exact A.n2 y n oM k d
     ·rw[M,zV];have:=A.lg;simp;lia
    ·have tq:∀x∈T.tn,x∈T.nl\/x=T.s (RR.length+i):=fun x b=>.inl (by rw[ht]at b;rw[E];exact A.t1 x b)
     obtain⟨v1,v2,v3,v4⟩:=nev T I2 K E tq Q fun _=>by rw[ht,Q];exact nt
     obtain⟨s3,W,N,s4,e3,e4,C,hN⟩:=vd q R2 I2 hp (by rw[ht];exact A.tn) (fun x b=>by rw[ht]at b;exact lst x (A.t1 x b)) low hr v1 v2 v3 v4;refine bk ⟨_,.rt (.tup [.str "never",.fz (iL W)]) s4,rfl,aq es ?_,.inr ⟨_,s4,rfl,_,rfl,.inl ⟨W,N,rfl,C,hN⟩⟩⟩;rw[T!]at e3;simp[fx,bI,dr,e3,e4]) (sl:=[Is nn,Zs (gv.map Gv.av),Ls goal,Rs 1,Is (m:Int),Á,Á,Á,Á]) (st:=O) ⟨2,_,_,Á,Á,Á,rfl,R1,A0⟩
 have ei:eB [bS,cF,bN,aM,ar,bG,bF,aQ,cD] (.es (.v 1) (.bin .Sub (.v 4) (.bi .len (.cons (.v 1) .nil)))) [Is nn,Zs (gv.map Gv.av),Ls goal,Rs 1,Is (m:Int),Á,Á,Á,Á] O=À (⟨fq RR.length (gv.map Gv.av),[]⟩,O):=by
  have k:(m:Int)-(gv.length:Int)=(RR.length:Int):=by lia
  have d:ä RR.length 1000000=Â:=yL oM;simp[wH,bo,dB,k];lia
 rcases loop with⟨sl',st2,e2,a,rows,S,x5,x6,x7,rfl,R,A⟩|⟨v,st2,e2,t,ht,hA⟩
 ·rw[show(fq RR.length (gv.map Gv.av)).length=gv.length by unfold fq;simp]at A
  refine au (sl':=[Is nn,Zs (gv.map Gv.av),Ls goal,Rs 1,Is (m:Int),x5,x6,x7,Á]) (st':=st2) (by rw[nW,ei,Å];exact e2) ?_;have hp:m<RR.length+gv.length+1:=by lia
  have spg:S.s m=w+m:=A.un m oM hp;have ng:S.s m∉S.gd:=fun h=>by rcases A.g1 _ h with h|⟨y,_,h,_,_,d⟩<;>lia
  obtain⟨r,e3,f,a3,rows3,R3,K,o,sp3,Y⟩:=EA q.B R A.mi hp ng;have A3:AI w RR.length gv (ah RR gv goal) gv.length f:=by
   refine⟨o,fun x k d=>?_,by rw[K.gd];exact A.g1,by rw[K.gd];exact A.g2,by rw[K.gd];exact A.g3,by rw[K.nl];exact A.n1,by rw[K.nl];exact A.n2,by rw[K.tn,K.nl];exact A.t1,by rw[K.tn];exact A.tn,by rw[K.gd];exact A.lg,by rw[K.nl];exact A.ln,by rw[K.tn];exact A.lt⟩;have:x=m:=by lia
   subst this;rw[sp3,spg]
  have P3:=o.shp;have lst:∀x∈f.tn,x<w+(RR.length+gv.length+1):=fun x b=>by
   obtain⟨y,_,h,_,_,d⟩:=A3.n1 _ (A3.t1 x b);lia
  obtain⟨r1,r2⟩:=r;dsimp only at R3 Y
  have tb:∀X,GX f w w (RR.length+gv.length+1) X->Kp w RR gv (gI X) f.d/\val w goal (gI X)=- f.t m w:=fun X B=>by
   have:=A3.vert Z (c:=w) oM (fun h=>by lia) (X:=gI X) B.at_ (fun j hj h=>by
    rw[yH oM];exact B.no _ h fun i u=>ç (o.pm.hs j i hj u)) (fun i u M=>o.fea.g i u M)
   rw[yI rfl,<- hm]at this;exact this
  rcases Y with⟨rfl,hr⟩|⟨J,rfl,hr,htn⟩
  ·refine au (sl':=[Is nn,Zs (gv.map Gv.av),Ls goal,Rs 1,Is (m:Int),x5,x6,x7,À .non]) (st':=r2) (by simp[R.ins,e3]) ?_
   obtain⟨z,e4,X,T,W,B,hT,hl,hW,wb,hz⟩:=Br (m:=RR.length+gv.length) (p:=m) R3 o q.B oM A3.tn lst q.hw oM q.HA q.H oM;obtain⟨z1,z2⟩:=z;dsimp only at hz;have gb:∀x∈X,x.natAbs<2^2500:=i5 fun i u=>by
    rw[B.len]at u;by_cases h:∃y,y<RR.length+gv.length+1/\f.s y=i
    ·obtain⟨y,D,rfl⟩:=h
     rw[B.at_ y D u];exact(q.B.bd2 o).2 y D w oM
    ·rw[B.no i u fun y D z=>h ⟨y,D,z⟩];exact Ô _
   have n1:∀x∈f.nl,∃y z,gv[y]?=À z/\z.eq=Â/\x=w+RR.length+y:=fun x b=>by
    obtain⟨y,n,_,h⟩:=A3.n1 x b;exact⟨y,n,h⟩
   obtain⟨g',hg',eg⟩:=oO (W++[f.d]);have hnt:f.s m∉f.tn:=fun z=>by
    obtain⟨y,_,h,_,_,d⟩:=A3.n1 _ (A3.t1 _ z);rw[sp3,spg]at d;lia
   have eK:f.d=g'*gI (aw (W++[f.d])) m:=by rw[<- eg m,hm,<- hl,zh]
   obtain⟨N,k,C⟩:=CA q.X Z.o o (p:=m) oM hT hW (hr.1 rfl) (fun q hq=>by
    have h:q∉f.nl:=fun h=>by obtain⟨y,_,_,_,h⟩:=n1 q h;lia
    exact⟨h,fun z=>h (A3.t1 _ z)⟩) (fun y n k d=>by
    have h:w+RR.length+y∉f.nl:=fun h=>by
     obtain⟨y',z2,Y,h4,h5⟩:=n1 _ h;have:y=y':=by lia
     subst this;rw[k]at Y;cases Y;rw[d]at h4;cases h4
    exact⟨h,fun z=>h (A3.t1 _ z)⟩) hg' (W:=(aw (W++[f.d])).take (RR.length+gv.length)) (K:=gI (aw (W++[f.d])) m) (by rw[ī,eR,zV,hl];simp) (fun x b=>by rw[qh b,<- eg,zj oM]) (by rw[<- eK,<- hm,<- spg,<- sp3,hT.sd,yH hnt]) (fun x b=>i5 (P:=fun x=>x.natAbs<2^9000) (fun i _=>lx (Ô _) wb i) x (Ź b)) (lx (Ô _) wb m)
   refine⟨(z1,z2),by simp[e4],z1,by rw[hz];rfl,.inr (.inl ⟨- f.t m w,f.d,_,_,_,N,_,by rw[hz,<- hm],o.lin.pos,⟨by rw[ċ];exact(q.B.bd2 o).2 m oM w oM,(q.B.bd2 o).1⟩,TbS.of B.len o.lin.pos ⟨gb,(q.B.bd2 o).1⟩ (tb X B).1 (tb X B).2,hm▸C,SX.pos_of hg' (by rw[<- hm,<- eK];exact o.lin.pos),?_⟩)⟩;have e5:f.d*N=g'*gI (aw (W++[f.d])) m*N:=by rw[<- eK]
   rw[<- hm,k];grind
  ·refine au (sl':=[Is nn,Zs (gv.map Gv.av),Ls goal,Rs 1,Is (m:Int),x5,x6,x7,Is (J:Int)]) (st':=r2) (by simp[R.ins,e3]) ?_
   obtain⟨q1,q2,q3,_⟩:=hr.2 J rfl;obtain⟨X,T,st4,e4,eT,B,R4⟩:=B7 R3 P3 o.pm (q.B.bd o) q.HA oM oM;subst eT;have gb:∀c,c<w+1->∀X,GX f w c (RR.length+gv.length+1) X->∀x∈X,x.natAbs<2^2500:=fun c hc X B=>i5 fun i u=>by
    rw[B.len]at u;by_cases h:∃y,y<RR.length+gv.length+1/\f.s y=i
    ·obtain⟨y,D,rfl⟩:=h
     rw[B.at_ y D u];exact(q.B.bd2 o).2 y D c hc
    ·rw[B.no i u fun y D z=>h ⟨y,D,z⟩];exact Ô _
   obtain⟨X2,st5,e5,U⟩:=Il R4 P3 o.pm (q.B.bd o) q.HA oM oM q1;obtain⟨V,hV⟩:∃V,V=if f.h J<w then X2.set (f.h J) f.d else X2:=⟨_,rfl⟩
   rw[<- hV]at e5;have hVl:V.length=w:=by rw[hV];split<;>simp[U.len]
   have hVb:∀x∈V,x.natAbs<2^2500:=fun x b=>by
    rw[hV]at b;split at b
    ·rcases Č b with h|h
     ·exact gb J oM X2 U x h
     ·rw[h];exact(q.B.bd2 o).1
    ·exact gb J oM X2 U x b
   have hVx:∀x,x<w->gI V x=if x=f.h J then f.d else gI X2 x:=fun x b=>by
    rw[hV];by_cases h:f.h J<w
    ·rw[yI h,qg (by rw[U.len];exact h)]
    ·rw[yH h,yH oM]
   obtain⟨g',hg',eg⟩:=oO V;refine⟨(.tup [.str "endless",.tup [.fz (iL ((aw (X++[f.d])).take w)),.int (gI (aw (X++[f.d])) w)],.fz (iL (aw V))],st5),by simp[e4,e5],_,rfl,.inr (.inr ⟨_,_,_,rfl,(TbS.of B.len o.lin.pos ⟨gb w oM X B,(q.B.bd2 o).1⟩ (tb X B).1 (tb X B).2).1,⟨by rw[eR,hVl],i5 fun i _=>lx (Ô _) hVb i⟩,?_⟩)⟩
   have:=A3.vert Z (c:=J) oM (fun _=>q2) (X:=fun x=>if x=f.h J then f.d else gI X2 x) (fun i u Q=>by
    rw[yH (ç (o.pm.hs J i q1 u))];exact U.at_ i u Q) (fun j hj h=>by
    by_cases e:j=J
    ·subst e;rw[yI rfl,yI rfl]
    ·rw[yH fun z=>e (o.pm.hi j J hj q1 z),yH e]
     exact U.no _ h fun i u=>ç (o.pm.hs j i hj u)) (fun i u M=>by have:=htn.1 rfl i u M;lia)
   rw[yH oM,<- hm]at this;have ew:∀x,x<w->(if x=f.h J then f.d else gI X2 x)=g'*gI (aw V) x:=fun x b=>by rw[<- eg,hVx x b]
   refine⟨this.1.div hg' (by rw[yP]) ew,?_⟩;have e2:=this.2;rw[oo ew]at e2;have:g'*val w goal (gI (aw V))<0:=by rw[e2];lia
   rcases yV (val w goal (gI (aw V))) 0 with h|h
   ·exact h
   ·have:=í (Ś hg') h;lia
 ·refine⟨(v,st2),?_,t,ht,hA⟩
  refine aS ?_;rw[nW,ei,Å];exact e2
end
noncomputable def RR2:List (List Int):=[[0,-1,1],[-1,0,1],[1,1,-1]]
noncomputable def Lg:Nat->List Int
 |1=>[1,0,1]
 |2=>[0,1,1]
 |_=>[1,1,1]
noncomputable def RR3:List (List Int):=[[0,0,0,0,0,-1,1],[0,0,0,0,-1,0,1],[0,0,-1,0,0,0,1],[1,1,-1,0,0,0,0],[0,0,0,-1,1,1,-1],[1,0,0,1,-1,0,0],[0,-1,1,0,0,1,-1],[0,1,0,1,0,-1,0],[-1,0,1,0,1,0,-1]]
noncomputable def Lf:Nat->List Int
 |1=>[1,0,0,1,0,0,1,0,0]
 |2=>[0,1,0,1,0,0,0,0,1]
 |3=>[1,1,0,1,0,0,1,0,1]
 |4=>[0,0,1,0,0,1,0,0,1]
 |5=>[1,0,1,1,0,0,1,0,1]
 |6=>[0,1,1,1,0,0,1,0,1]
 |_=>[1,1,1,1,0,0,1,0,1]
noncomputable def mk(w p m:Nat):List Int:=(È w).map fun i=>if p.testBit i then 1 else if m.testBit i then -1 else 0
def RR4:List (List Int):=[(16384,8192),(16384,4096),(16384,1024),(16384,64),(3,4),(48,72),(768,1152),(12288,18432),(9,16),(36,66),(2304,4224),(9216,16896),(129,256),(516,1026),(2064,4104),(8256,16416),(10,32),(20,65),(2560,8320),(5120,16640),(130,512),(260,1025),(2080,8200),(4160,16400),(136,2048),(272,4097),(544,8194),(1088,16388)].map fun z:Nat×Nat=>mk 15 z.1 z.2
def Ld(g:Nat):List Int:=mk 28 ([33297,8519698,8552979,134349060,134382101,142737942,142770711,136318984,136348185,142745626,142770715,142754060,142770717,142770718,142770719].getD (g-1) 0) 0
theorem dy(a:rfs args=Â)(h:((fn args []).bind fun p=>fj p.2 p.1)=À t):pm fn args st=À (t,st):=by
 obtain⟨p,c,b⟩:=zA h;exact bM a c b
def MW(nn:Int)(w nr:Nat)(HO:Nat->List Int):Bool:=(È w).all fun g=>(match (cZ [.int nn,.int ((g+1:Nat):Int),.int 0] []).bind fun p=>fj p.2 p.1 with
 |some a=>rf a&&(match (eF [.int nn,a] []).bind fun p=>fj p.2 p.1 with
  |some x=>c8 x (.fz (iL (HO (g+1))))
  |none=>Ã)
 |none=>Ã)&&((HO (g+1)).length==nr&&(HO (g+1)).all fun x=>ä x.natAbs 15)
theorem rP{nn:Int}{w nr:Nat}{HO:Nat->List Int}(h:MW nn w nr HO=Â):HOk nn w nr HO:=by
 have at_:∀a:Nat,1<=a->a<=w->(∃e,(∀b,pm cZ [.int nn,.int a,.int 0] b=À (e,b))/\∀b,pm eF [.int nn,e] b=À (.fz (iL (HO a)),b))/\(HO a).length=nr/\∀x∈HO a,x.natAbs<=15:=fun a d c=>by
  obtain⟨g,rfl⟩:∃g,a=g+1:=⟨a-1,by lia⟩;have h:=yR.mp h g (Ü.mpr oM);simp only[zC]at h;obtain⟨f,n,m⟩:=h;refine⟨?_,yK n,fun x k=>zS (yR.mp m x k)⟩;split at f
  ·rename_i e o
   simp only[zC]at f;obtain⟨l,i⟩:=f;split at i
   ·rename_i x j
    rw[vF i]at j;exact⟨e,fun b=>dy rfl o,fun b=>dy (by simp[rfs,rf,l]) j⟩
   ·cases i
  ·cases f
 exact⟨fun a d c=>(at_ a d c).1,fun a d c=>(at_ a d c).2.1,fun a d c=>(at_ a d c).2.2⟩
theorem Lk:∀st,pm af [.int 2] st=À (.int ((3:Nat):Int),st):=fun st=>dy rfl (by kernel_rfl)
theorem Lj:∀st,pm af [.int 3] st=À (.int ((7:Nat):Int),st):=fun st=>dy rfl (by kernel_rfl)
theorem Li:∀st,pm af [.int 4] st=À (.int ((15:Nat):Int),st):=fun st=>dy rfl (by kernel_rfl)
theorem Lb:∀st,pm ax [.int 2] st=À (.fz (aj RR2),st):=fun st=>dy rfl (by kernel_rfl)
theorem La:∀st,pm ax [.int 3] st=À (.fz (aj RR3),st):=fun st=>dy rfl (by kernel_rfl)
theorem K9:∀st,pm ax [.int 4] st=À (.fz (aj RR4),st):=fun st=>dy rfl (by kernel_rfl)
theorem HK2:HOk 2 3 RR2.length Lg:=rP (by kernel_rfl)
theorem HK3:HOk 3 7 RR3.length Lf:=rP (by kernel_rfl)
theorem HK4:HOk 4 15 RR4.length Ld:=rP (by kernel_rfl)
noncomputable def RR1:List (List Int):=[[1]]
noncomputable def Lh:Nat->List Int:=fun _=>[1]
theorem Ll:∀st,pm af [.int 1] st=À (.int ((1:Nat):Int),st):=fun st=>dy rfl (by kernel_rfl)
theorem Lc:∀st,pm ax [.int 1] st=À (.fz (aj RR1),st):=fun st=>dy rfl (by kernel_rfl)
theorem HK1:HOk 1 1 RR1.length Lh:=rP (by kernel_rfl)
noncomputable def M0:Nat:=2^120
theorem HQ{w:Nat}(o:w<=15)(t:RR.length<=100)(s:gv.length<=100)(k:∀l∈RR,∀x∈l,x.natAbs<=M0)(c:∀z∈gv,(∀x∈z.row,x.natAbs<=M0)/\z.num.natAbs<=M0)(j:∀x∈goal,x.natAbs<=M0):Bnd w (RR.length+gv.length+1) (v0 w (ah RR gv goal)):=by
 refine⟨⟨M0,ϙ,fun q x n=>?_,?_⟩,by lia,by lia⟩
 ·have i:1<=M0:=ϙ
  unfold v0;split
  ·split<;>simp[i]
  ·unfold gI
   rw[zD,zD];cases e:(ah RR gv goal)[q-w]? with
   |none=>simp
   |some l =>
    have b:=zW e;simp only[Ϟ];cases m:l[x]? with
    |none=>simp
    |some y =>
     have a:=zW m;simp only[Ϟ];unfold ah at b;simp only[zZ,yD,zM]at b;rcases b with(⟨r,g,rfl⟩|⟨z,hz,rfl⟩)|rfl
     ·rcases zZ.mp a with h|h
      ·exact k r g y h
      ·rw[zM.mp h];simp
     ·rcases zZ.mp a with h|h
      ·exact(c z hz).1 y h
      ·rw[zM.mp h,ċ];exact(c z hz).2
     ·rcases zZ.mp a with h|h
      ·obtain⟨u,d,rfl⟩:=yD.mp h
       rw[ċ];exact j u d
      ·rw[zM.mp h];simp
 ·have f:SX.fct (w+1)<=2^45:=(by decide:∀w,w<16->SX.fct (w+1)<=2^45) w oM
  have p:M0^(w+1)<=2^1920:=by
   unfold M0;rw[<- Nat.pow_mul];exact ž dC oM
  refine yM (ś f p) ?_;rw[<- Š];exact Ĩ dC dC
def jJ(a:List Int)(RR:List (List Int))(x:Nat):Int:=((a.zip RR).map fun z=>z.1*gI z.2 x).sum
theorem p9{w:Nat}{Y:Nat->Int}:∀(cs:List Int)(RR:List (List Int)),Oj w (fun x=>jJ cs RR x*Y x)=((cs.zip RR).map fun z=>z.1*val w z.2 Y).sum
 |[],_=>by simp[jJ];exact SX.sum_zero fun _ _=>rfl
 |_::_,[]=>by simp[jJ];exact SX.sum_zero fun _ _=>rfl
 |c::cs,r::RR=>by
  rw[Ċ,zO,ϔ,<- p9 cs RR];unfold val;rw[<- SX.sum_mul,<- SX.sum_add];refine SX.sum_congr fun x _=>?_
  show jJ (c::cs) (r::RR) x*Y x=_;have:jJ (c::cs) (r::RR) x=c*gI r x+jJ cs RR x:=by simp[jJ]
  rw[this];grind
theorem G4{w:Nat}{Y:Nat->Int}{a:List Int}{RR:List (List Int)}(e:∀c∈a,0<=c)(h:∀r∈RR,0<=val w r Y):0<=((a.zip RR).map fun z=>z.1*val w z.2 Y).sum:=by
 have:∀l:List (Int×List Int),(∀z∈l,0<=z.1/\0<=val w z.2 Y)->0<=(l.map fun z=>z.1*val w z.2 Y).sum:=fun l=>by
  induction l with
  |nil=>intro _;simp
  |cons z l b =>
   intro h;rw[zO,ϔ];have g:=í (h z z7).1 (h z z7).2;have f:=b fun y d=>h y (zQ _ d)
   lia
 exact this _ fun z hz=>⟨e _ (ā hz).1,h _ (ā hz).2⟩
def GH(w:Nat)(RR:List (List Int))(HO:Nat->List Int):Bool:=(È w).all fun g=>(HO (g+1)).all (fun c=>decide (0<=c))&&(È w).all fun x=>jJ (HO (g+1)) RR x==if x=g then 1 else 0
theorem nn_of{w:Nat}{RR:List (List Int)}{HO:Nat->List Int}(hb:GH w RR HO=Â):∀Y:Nat->Int,(∀r∈RR,0<=val w r Y)->∀x,x<w->0<=Y x:=fun Y h g b=>by
 have hb:=yR.mp hb g (Ü.mpr b);rw[zC]at hb;have d:∀c∈HO (g+1),0<=c:=fun c d=>of_decide_eq_true (yR.mp hb.1 c d)
 have a:∀x,x<w->jJ (HO (g+1)) RR x=if x=g then 1 else 0:=fun x a=>yK (yR.mp hb.2 x (Ü.mpr a))
 have e:=p9 (w:=w) (Y:=Y) (HO (g+1)) RR;rw[SX.sum_one b fun x i f=>by rw[a x i,yH f,yQ],a g b,yI rfl,ϊ]at e;rw[e];exact G4 d h
theorem Ei(n:Nat)(f:Nat->Int):Oj (n+1) f=f 0+Oj n fun i=>f (i+1):=by
 induction n with
 |zero=>simp[Oj]
 |succ n a=>rw[Oj,a,Oj];lia
theorem uy{f:List Int->Int}:∀(cs:List Int)(RR:List (List Int)),cs.length=RR.length->((cs.zip RR).map fun z=>z.1*f z.2).sum=Oj RR.length fun x=>gI cs x*f (RR.getD x [])
 |[],RR,h=>by rw[<- h];rfl
 |c::cs,[],h=>by simp at h
 |c::cs,r::RR,h=>by
  rw[Ċ,zO,ϔ,uy cs RR (by simpa using h),yY,Ei];rfl
theorem JA{w:Nat}{RR:List (List Int)}{HO:Nat->List Int}{gv:List Gv}{goal:List Int}(hb:GH w RR HO=Â)(d:∀g,1<=g->g<=w->(HO g).length=RR.length)(j:∀l∈RR,l.length=w):Hx w RR HO gv goal:=by
 have hb:∀g,g<w->(∀c∈HO (g+1),0<=c)/\∀x,x<w->jJ (HO (g+1)) RR x=if x=g then 1 else 0:=fun g k=>by
  have hb:=yR.mp hb g (Ü.mpr k);rw[zC]at hb;exact⟨fun c m=>of_decide_eq_true (yR.mp hb.1 c m),fun x b=>yK (yR.mp hb.2 x (Ü.mpr b))⟩
 refine⟨fun y x a=>?_,fun Y e y a=>?_,fun y a=>d _ oM oM⟩
 ·unfold gI
  rw[zD];cases h:(HO (y+1))[x]? with
  |none=>exact ń 0
  |some c=>exact(hb y a).1 c (zW h)
 ·have d:=d (y+1) oM oM
  have i:=p9 (w:=w) (Y:=Y) (HO (y+1)) RR;rw[SX.sum_one a fun x p o=>by rw[(hb y a).2 x p,yH o,yQ],(hb y a).2 y a,yI rfl,ϊ,uy (f:=fun r=>val w r Y) _ _ d]at i;rw[ii,SX.sum_zero (n:=gv.length) fun x _=>by
   rw[show gI (HO (y+1)) (RR.length+x)=0 by unfold gI;rw[zD,Ø oM];rfl,yQ],ê,i]
  refine SX.sum_congr fun x b=>?_
  rw[cP (j9 b) (j _ (Ó b)),yQ,ê,zD,zF b];rfl
def eM(n:Nat):Prop:=n=1\/n=2\/n=3\/n=4
def aE(n:Nat):List (List Int):=if n=1 then RR1 else if n=2 then RR2 else if n=3 then RR3 else RR4
def CU(n:Nat):Nat->List Int:=if n=1 then Lh else if n=2 then Lg else if n=3 then Lf else Ld
theorem MP{n:Nat}{gv:List Gv}{goal:List Int}(b:eM n)(d:gv.length<=100)(j:∀z∈gv,z.row.length=2^n-1/\(∀x∈z.row,x.natAbs<=M0)/\z.num.natAbs<=M0)(i:goal.length=2^n-1/\∀x∈goal,x.natAbs<=M0):Qu n (2^n-1) (aE n) (CU n) gv goal:=by
 have f:∀l∈aE n,l.length=2^n-1/\∀x∈l,x.natAbs<=1:=by rcases b with rfl|rfl|rfl|rfl<;>decide +kernel
 have e:(aE n).length<=100:=by rcases b with rfl|rfl|rfl|rfl<;>decide
 have a:2^n-1<=15:=by rcases b with rfl|rfl|rfl|rfl<;>decide
 have m:1<=M0:=ϙ;have hb:GH (2^n-1) (aE n) (CU n)=Â:=by rcases b with rfl|rfl|rfl|rfl<;>kernel_rfl
 have B:=HQ a e d (fun l c x k=>z5 ((f l c).2 x k) m) (fun z hz=>(j z hz).2) i.2;have Z:Sz (2^n-1) (aE n) gv goal:=⟨fun l c=>(f l c).1,fun z hz=>(j z hz).1,i.1,nn_of hb⟩;have X:(∀g,1<=g->g<=2^n-1->(CU n g).length=(aE n).length)->Hx (2^n-1) (aE n) (CU n) gv goal:=fun h=>JA hb h fun l c=>(f l c).1
 rcases b with rfl|rfl|rfl|rfl
 ·exact⟨Lc,Ll,HK1,Z,a,e,d,B,X HK1.len⟩
 ·exact⟨Lb,Lk,HK2,Z,a,e,d,B,X HK2.len⟩
 ·exact⟨La,Lj,HK3,Z,a,e,d,B,X HK3.len⟩
 ·exact⟨K9,Li,HK4,Z,a,e,d,B,X HK4.len⟩
theorem HX{nn:Int}{w:Nat}{RR:List (List Int)}{HO:Nat->List Int}{gv:List Gv}{goal:List Int}(q:Qu nn w RR HO gv goal):∃t,(∀st,pm g8 [.int nn,.fz (gv.map Gv.av),.fz (iL goal)] st=À (t,st))/\rW w RR gv goal t:=by
 obtain⟨z,e,t,h,A⟩:=BR q;exact⟨t,fun st=>bM rfl e h,A⟩
theorem mw{a b:Int}(h:a.natAbs<2^62):cV a b=Â:=by
 unfold cV;have:ä a.natAbs.log2 62=Â:=yL (by
  by_cases hz:a.natAbs=0
  ·rw[hz];decide
  ·exact yZ ((Ĉ hz).mpr h))
 rw[this];simp
theorem rH{a b:Int}(h:b.natAbs<2^62):cV a b=Â:=by
 unfold cV;have:ä b.natAbs.log2 62=Â:=yL (by
  by_cases hz:b.natAbs=0
  ·rw[hz];decide
  ·exact yZ ((Ĉ hz).mpr h))
 rw[this];simp
theorem mD{a b:Int}(h:0<b):qL a b=a%b:=yI h
theorem Cr{a b:Int}(h:0<b):vA a b=a/b:=yI h
theorem oK{a b:Int}(h:0<b):0<=a%b/\a%b<b:=⟨Õ _ oM,Ñ _ h⟩
theorem Jj{c:Int}{k:Nat}(d:k<=1000):∃m:Int,pm dq [.int c,.int k] st=À (.int m,st)/\0<=m/\m<2147483629:=by
 have l:((k:Int)*(k:Int)).natAbs<2^62:=by
  rw[xA,ġ];have:k*k<=1000*1000:=ś d d;exact yM this dC
 obtain⟨x,e⟩:∃x,x=(c%2147483647+(k:Int)*(k:Int)*7919+104729)*48271%2147483647:=⟨_,rfl⟩;have g:=oK (a:=(c%2147483647+(k:Int)*(k:Int)*7919+104729)*48271) (b:=2147483647) dC;rw[<- e]at g;have f:x.natAbs<2^62:=by have:(2:Nat)^62=4611686018427387904:=dC;lia
 refine⟨(x*x+69621*(k:Int))%2147483629,bM rfl (v:=.int ((x*x+69621*(k:Int))%2147483629)) (st':=[]) ?_ rfl,(oK dC).1,(oK dC).2⟩;have j:cV (k:Int) (k:Int)=Â:=mw (by rw[ġ];exact yM d dC);have m2:cV ((k:Int)*(k:Int)) 7919=Â:=rH dC;have m3:cV (c%2147483647+(k:Int)*(k:Int)*7919+104729) 48271=Â:=rH dC;have i:cV x x=Â:=mw f;have h:cV 69621 (k:Int)=Â:=mw dC;rw[dq,aD];unfold kM;refine ae (sl':=[Is c,Is (k:Int),Is x]) (st':=[]) ?_ ?_
 ·simp [iO (show (2147483647:Int) ≠ 0 by decide),mD (show (0:Int) < 2147483647 by decide),ba j,ba m2,ba m3,<- e]
 ·simp [iO (show (2147483629:Int) ≠ 0 by decide),mD (show (0:Int) < 2147483629 by decide),ba i,ba h]
theorem wc:aZ .Pow st (.int 10) (.int 18)=À (.int 1000000000000000000):=by kernel_rfl
theorem EB(hn:ns.length<=63):∃A B D,fe [.fz (iL ns),.int 1,.int 400] []=À (.ref 2,[A,B,Oh.lst (iL D)])/\D.length=400/\∀x∈D,0<=x/\x<2147483587:=by
 obtain⟨C,T⟩:∃C,C=ns++[1]:=⟨_,rfl⟩;have lC:C.length=ns.length+1:=by rw[T];simp
 obtain⟨sl',st',e,d,f,E,w,p,rfl,rfl,K,o,G⟩:=eE (gd:=[]) (g:=cg [dq] (.nm 6)) (s:=ai [dq] (.cons (.as (.bin .Mod (.v 6) (.bi .len (.cons (.v 3) .nil))) (.nm 7))
 (.cons (.as (.ca Â 0 (.cons (.ix (.v 3) (.v 7)) (.cons (.v 6) .nil))) (.nm 8))
 (.cons (.as (.bin .Mod (.bin .Add (.bin .Mult (.v 8) (.v 8)) (.bin .Mult (.i 7) (.v 6))) (.i 2147483587)) (.nm 8))
 (.cons (.iff (.an (.cmp .GtE (.ix (.v 3) (.v 7)) (.bin .Pow (.i 10) (.i 18))) (.cmp .Gt (.ix (.v 4) (.v 7)) (.i 0)))
 (.cons (.as (.bin .Mod (.ix (.v 4) (.v 7)) (.i 2147483587)) (.nm 8))
 (.cons (.as (.bin .FloorDiv (.ix (.v 4) (.v 7)) (.i 2147483587)) (.su (.v 4) (.v 7)))
 .nil))
 .nil)
 (.cons (.ex (.mt .app (.v 5) (.cons (.v 8) .nil)))
 .nil))))))
  (I:=fun i sl s=>∃d f E w p,s=[Oh.lst (iL d),Oh.lst (iL f)]/\sl=[Ls ns,Is 1,Is 400,Ls C,Rs 0,Rs 1,E,w,p]/\d.length=C.length/\f.length=i/\∀x∈f,0<=x/\x<2147483587) (xs:=dj 0 401) (fun _ _ _ _ _=>rfl)
  (fun i y sl s r Y=>by
   obtain⟨d,f,E,w,p,rfl,rfl,K,o,G⟩:=Y;rw[oA]at r;have S:i<401:=by have:=(zB.mp r).1;simpa using this
   have Z:y=.int ((i:Nat):Int):=by
    rw[gV (by simpa using S)]at r;injection r with r;rw[<- r];simp[zD,S]
   subst Z;obtain⟨q,R⟩:∃q,q=i%C.length:=⟨_,rfl⟩;have W:q<C.length:=by rw[R];exact Nat.mod_lt _ oM
   obtain⟨m,em,m0,m1⟩:=Jj (c:=gI C q) (k:=i) oM (st:=[Oh.lst (iL d),Oh.lst (iL f)]);have v:aY [Oh.lst (iL d),Oh.lst (iL f)] (.fz (iL C)) (.int (q:Int))=À (.int (gI C q)):=by rw[cU eN,cG,cj W]
   have N:aY [Oh.lst (iL d),Oh.lst (iL f)] (.ref 0) (.int (q:Int))=À (.int (gI d q)):=by rw[cU (bH rfl),cG,cj oM]
   have O:cV m m=Â:=mw (by have:(2:Nat)^62=4611686018427387904:=dC;lia);have P:cV 7 (i:Int)=Â:=mw dC;have U:qL ((i:Nat):Int) ((C.length:Nat):Int)=((q:Nat):Int):=by rw[mD oM,R];simp
   have u:(0:Int)<2147483587:=by decide
   have app:∀(j:List Int)(x:Int)(z8:Option AV),cW [dq] (.ex (.mt .app (.v 5) (.cons (.v 8) .nil))) [Ls ns,Is 1,Is 400,Ls C,Rs 0,Rs 1,Is (i:Int),Is (q:Int),Is x] [Oh.lst (iL j),Oh.lst (iL f)]=À (.nx [Ls ns,Is 1,Is 400,Ls C,Rs 0,Rs 1,Is (i:Int),Is (q:Int),Is x] [Oh.lst (iL j),Oh.lst (iL (f++[x]))]):=fun j x _=>by
    rw[AG,CG (k:=1) (xs:=iL f) (y:=.int x) rfl rfl rfl (by simp;lia),Hi,za];rfl
   by_cases J:1000000000000000000<=gI C q/\0<gI d q
   ·refine⟨_,[Ls ns,Is 1,Is 400,Ls C,Rs 0,Rs 1,Is (i:Int),Is (q:Int),Is (gI d q%2147483587)],[Oh.lst (iL (d.set q (gI d q/2147483587))),Oh.lst (iL (f++[gI d q%2147483587]))],rfl,?_,_,_,_,_,_,rfl,rfl,by simp[K],by simp[o],fun x t=>?_⟩
    ·refine aq (sl':=[Ls ns,Is 1,Is 400,Ls C,Rs 0,Rs 1,Is (i:Int),Is (q:Int),p]) (st':=[Oh.lst (iL d),Oh.lst (iL f)]) ?_ ?_
     ·simp [bo,dB,iO (show ((C.length:Nat):Int) ≠ 0 by lia),U]
     refine aq (sl':=[Ls ns,Is 1,Is 400,Ls C,Rs 0,Rs 1,Is (i:Int),Is (q:Int),Is m]) (st':=[Oh.lst (iL d),Oh.lst (iL f)]) (by simp[v,em]) ?_;refine aq (sl':=[Ls ns,Is 1,Is 400,Ls C,Rs 0,Rs 1,Is (i:Int),Is (q:Int),Is ((m*m+7*(i:Int))%2147483587)]) (st':=[Oh.lst (iL d),Oh.lst (iL f)]) ?_ ?_
     ·simp [ba O,ba P,iO (show (2147483587:Int) ≠ 0 by decide),mD u]
     refine aq (sl':=[Ls ns,Is 1,Is 400,Ls C,Rs 0,Rs 1,Is (i:Int),Is (q:Int),Is (gI d q%2147483587)]) (st':=[Oh.lst (iL (d.set q (gI d q/2147483587))),Oh.lst (iL f)]) ?_ (aq (app _ _ Á) rfl);have L:eG 2147483587=Â:=by decide
     have Q:=dH (st:=[Oh.lst (iL d),Oh.lst (iL f)]) (k:=0) (q:=q) (xs:=iL d) (x:=.int (gI d q / 2147483587)) rfl (by simp;lia);rw [fJ] at Q;simp [v,N,wc,J.1,J.2,iO (show (2147483587:Int) ≠ 0 by decide),mD u,mK L,Cr u,Q]
    ·rcases zZ.mp t with h|h
     ·exact G x h
     ·rw[zM.mp h];exact oK u
   ·refine⟨_,[Ls ns,Is 1,Is 400,Ls C,Rs 0,Rs 1,Is (i:Int),Is (q:Int),Is ((m*m+7*(i:Int))%2147483587)],[Oh.lst (iL d),Oh.lst (iL (f++[(m*m+7*(i:Int))%2147483587]))],rfl,?_,_,_,_,_,_,rfl,rfl,K,by simp[o],fun x t=>?_⟩
    ·refine aq (sl':=[Ls ns,Is 1,Is 400,Ls C,Rs 0,Rs 1,Is (i:Int),Is (q:Int),p]) (st':=[Oh.lst (iL d),Oh.lst (iL f)]) ?_ ?_
     ·simp [bo,dB,iO (show ((C.length:Nat):Int) ≠ 0 by lia),U]
     refine aq (sl':=[Ls ns,Is 1,Is 400,Ls C,Rs 0,Rs 1,Is (i:Int),Is (q:Int),Is m]) (st':=[Oh.lst (iL d),Oh.lst (iL f)]) (by simp[v,em]) ?_;refine aq (sl':=[Ls ns,Is 1,Is 400,Ls C,Rs 0,Rs 1,Is (i:Int),Is (q:Int),Is ((m*m+7*(i:Int))%2147483587)]) (st':=[Oh.lst (iL d),Oh.lst (iL f)]) ?_ ?_
     ·simp [ba O,ba P,iO (show (2147483587:Int) ≠ 0 by decide),mD u]
     refine aq (sl':=[Ls ns,Is 1,Is 400,Ls C,Rs 0,Rs 1,Is (i:Int),Is (q:Int),Is ((m*m+7*(i:Int))%2147483587)]) (st':=[Oh.lst (iL d),Oh.lst (iL f)]) ?_ (aq (app _ _ Á) rfl);by_cases n:1000000000000000000<=gI C q
     ·have H:¬0<gI d q:=fun z=>J ⟨n,z⟩
      simp[v,N,wc,n,H]
     ·simp[v,wc,n]
    ·rcases zZ.mp t with h|h
     ·exact G x h
     ·rw[zM.mp h];exact oK u) (sl:=[Ls ns,Is 1,Is 400,Ls C,Rs 0,Rs 1,Á,Á,Á]) (st:=[Oh.lst (iL (C.map fun x=>x/100000)),Oh.lst (iL [])]) ⟨_,[],Á,Á,Á,rfl,rfl,by simp,rfl,by simp⟩
 have rl:(dj 0 401).length=401:=by decide
 rw[rl]at o;refine⟨Oh.lst (iL d),Oh.lst (iL f),f.drop 1,?_,by simp[o],fun x t=>G x (B' t)⟩;rw[fe,aD];unfold ji;refine ae (sl':=[Ls ns,Is 1,Is 400,Ls C,Á,Á,Á,Á,Á]) (st':=[]) ?_ ?_
 ·have M:cut (iL ns) Á (À 63)=iL ns:=by
   unfold cut;have:HT.Ov (iL ns).length (iL ns).length (À 63)=(iL ns).length:=by
    rw[show(63:Int)=((63:Nat):Int) from rfl,HT.sIx_nat,gC];lia
   rw[this,HT.sIx_none,Ņ,Ų,ň]
  have c:=j7 (ks:=[dq]) (a:=.nw Ã (.sl (.v 0) .no (.so (.i 63)))) (b:=.nw Ã (.li (.cons (.v 1) .nil))) (sl:=[Ls ns,Is 1,Is 400,Á,Á,Á,Á,Á,Á]) (st:=[]) (s1:=[]) (s2:=[]) (x:=.fz (iL ns)) (y:=.fz [AV.int 1]) (l:=ns) (l':=[1]) (by simp[mS,mQ,M]) (by simp[cO]) rfl rfl (by simp;lia);simp[-oF,c,T]
 refine ae (sl':=[Ls ns,Is 1,Is 400,Ls C,Rs 0,Á,Á,Á,Á]) (st':=[Oh.lst (iL (C.map fun x=>x/100000))]) ?_ ?_
 ·have L:eG 100000=Â:=by decide
  simp [ce (show C.length <= 1000 by lia)];rw [kB (F:=fun x=>x / 100000) gw fun x t=>⟨_,rfl,rfl,by simp [mK L,Cr (show (0:Int) < 100000 by decide)]⟩];simp
 refine ae (sl':=[Ls ns,Is 1,Is 400,Ls C,Rs 0,Rs 1,Á,Á,Á]) (st':=[Oh.lst (iL (C.map fun x=>x/100000)),Oh.lst (iL [])]) (by simp[cO,iL]) ?_;refine ae (sl':=[Ls ns,Is 1,Is 400,Ls C,Rs 0,Rs 1,E,w,p]) (st':=[Oh.lst (iL d),Oh.lst (iL f)]) ?_ ?_
 ·have V:fY 401=Â:=by decide
  have:eB [dq] (.r1 (.bin .Add (.v 1) (.v 2))) [Ls ns,Is 1,Is 400,Ls C,Rs 0,Rs 1,Á,Á,Á] [Oh.lst (iL (C.map fun x=>x/100000)),Oh.lst (iL [])]=À (⟨dj 0 401,[]⟩,[Oh.lst (iL (C.map fun x=>x/100000)),Oh.lst (iL [])]):=by
   simp[yz,V]
  rw[nW,this,Å];exact e
 ·have M:cut (iL f) (À 1) Á=iL (f.drop 1):=by
   unfold cut;rw[HT.sIx_none,show(1:Int)=((1:Nat):Int) from rfl,HT.sIx_nat,gC,o,qf];rw[ô (by simp[o])];rfl
  have X:bI [Oh.lst (iL d),Oh.lst (iL f)] (.ref 1)=À (iL f):=bH rfl;simp[mS,mQ,X,M]
theorem rp{r:Nat}{x:Int}(h:st[r]?=À (.lst (iL (D++[x])))):ao [.ref r] st=À (.int x,st.set r (.lst (iL D))):=by
 have k:∀l:List Int,bn (cC 8 st) (iL l)=À (l.map î):=fun l=>eP (f:=cC 8 st) (i:=AV.int) (g:=î) (fun _=>rfl) l
 have m:∀l:List Int,ò (l.map î)=Â:=fun l=>by
  induction l with
  |nil=>rfl
  |cons a l j=>simp only[zO,ò,Ĕ,j,Ģ]
 have c:cb .Eq st (.ref r) (.fz [])=À Ã:=by
  show j4 st (.ref r) (.fz [])=_;unfold j4;have e:cC 9 st (.ref r)=À (.list ((D++[x]).map î)):=by
   unfold cC;simp only[h,k,á]
  have d:cC 9 st (.fz [])=À (.list []):=rfl;rw[e,d,Å,Å,yI ?_]
  ·rw[ù]
   cases D.map î<;>rfl
  ·have p:(Ŵ ((D++[x]).map î)).canLay0=Â:=by unfold Ĕ;exact m _
   have o:(Ŵ []).canLay0=Â:=rfl;have n:min (Ŵ ((D++[x]).map î)).depth (Ŵ []).depth<=50:=z5 (R8 _ _) dC;unfold DD.pyOk;rw[p,o,yW n];rfl
 have b:(iL (D++[x]))[D.length]?=À (.int x):=by unfold iL;simp
 have q:(iL (D++[x])).dropLast=iL D:=by unfold iL;simp
 simp[ao,aD,kK,cO,c,nJ,sO,sN,sj,bH h,wy,iN,h,b,q];exact(zB.mp b).2
section
variable{ks:List Fn}{sl:Sl}{st:aa}{ss:Ou}{P:AV×aa->Prop}
theorem fX{s:Sx}{v:AV}{st':aa}(h:cW ks s sl st=À (.rt v st'))(a:P (v,st')):∃r,(ai ks (.cons s ss) sl st).bind ay=À r/\P r:=⟨_,aS h,a⟩
theorem iX{α:Type}{em:α->AV}{it:Ix}{t:Tg}{b:Ou}{xs:List α}{gd:Gd}{st0:aa}(I:Nat->Sl->aa->Prop)(k:eB ks it sl st=À (⟨xs.map em,gd⟩,st0))(l:∀i sl st,I i sl st->cw gd st=Â)(m:I 0 sl st0)
  (h:∀i x sl st,xs[i]?=À x->I i sl st->∃p sl2 st2,cg ks t (em x) sl st=À p/\ai ks b p.1 p.2=À (.nx sl2 st2)/\I (i+1) sl2 st2)
  (f:∀sl' st',I xs.length sl' st'->∃r,(ai ks ss sl' st').bind ay=À r/\P r):∃r,(ai ks (.cons (.fo it t b) ss) sl st).bind ay=À r/\P r:=by
 obtain⟨sl',st',e,a⟩:=eE (gd:=gd) (g:=cg ks t) (s:=ai ks b) (I:=I) (xs:=xs.map em) (fun i sl st _ a=>l i sl st a) (fun i y sl st c a=>by
  rw[zR]at c;obtain⟨x,d,rfl⟩:=zE.mp c;exact h i x sl st d a) m
 rw[zH]at a;obtain⟨r,n,j⟩:=f sl' st' a;exact⟨r,ae (by rw[nW,k,Å];exact e) n,j⟩
end
theorem E8{f:AV->AV->Option AV}{h:Nat->Nat->Nat} (t:∀x:Nat,x<16->∀y:Nat,y<16->(match f (.int x) (.int y) with
  |some (.int b)=>decide (b=(h x y:Int))
  |_=>Ã)=Â) {x y:Nat} (c:x<16) (a:y<16):f (.int (x:Int)) (.int (y:Int))=À (.int (h x y:Int)):=by
 have t:=t x c y a;split at t
 ·rename_i b e
  rw[of_decide_eq_true t]at e;exact e
 ·cases t
section
variable{st:aa}{os:List Nat}{n g k j:Nat}{D:List Int}
theorem we{x y:Nat}(b:x<16)(a:y<16):aZ .BitOr st (.int (x:Int)) (.int (y:Int))=À (.int ((x ||| y:Nat):Int)):=by
 show aZ .BitOr [] (.int (x:Int)) (.int (y:Int))=_;exact E8 (f:=aZ .BitOr []) (h:=fun x y=>x ||| y) (by decide +kernel) b a
theorem jn{ks:List Fn}{a:Ex}{sl:Sl}{n:Nat}(h:ev ks a sl st=À (.int (n:Int),st))(b:n<=1000):eB ks (.r1 a) sl st=À (⟨(È n).map fun q:Nat=>AV.int (q:Int),[]⟩,st):=by
 show(ev ks a sl st).bind _=_;rw[h,Å];dsimp only;have:fY (n:Int)=Â:=by
  unfold fY;refine yL ?_;rw[ġ];by_cases hz:n=0
  ·subst hz;decide
  ·exact yZ ((Ĉ hz).mpr (yM b dC))
 rw[yI this,Q5,oA];rfl
theorem jG{ks:List Fn}{a e:Ex}{sl:Sl}{y:AV}{xs:List AV}{k:Nat}(f:ev ks a sl st=À (.ref k,st))(d:ev ks e sl st=À (y,st))(b:st[k]?=À (.lst xs))(c:xs.length<=1000):cW ks (.ex (.mt .app a (.cons e .nil))) sl st=À (.nx sl (st.set k (.lst (xs++[y])))):=by
 simp[nJ,sO,sN,f,sj,bH b,d,sR,iN,b,ce c]
theorem f7{α:Type}{ks:List Fn}{k:Nat}{it:Ix}{t:Tg}{c:Cx'}{e:Ex}{sl:Sl}{gd:Gd}{em:α->AV}{B:α->Bool}{F:α->AV}{xs:List α}(a:eB ks it sl st=À (⟨xs.map em,gd⟩,st))(b:cw gd st=Â)(hz:xs.length<=1000)
  (h:∀x∈xs,∃sl1,cg ks t (em x) (sl++Æ k Á) st=À (sl1,st)/\jz ks c sl1 st=À (B x,st)/\(B x=Â->ev ks e sl1 st=À (F x,st))):jy ks (.lc k it t c e) sl st=À ((xs.filter B).map F,st):=by
 rw[GL,a,Å];dsimp only;rw[yI (ce (by rw[zH];exact hz))];exact gY b h
theorem ie{b:Bool}:fx st (.bl b)=À b:=rfl
theorem yh{m:Nat}{l:List Int}:bn (cC (m+1) st) (iL l)=À (l.map î):=eP (f:=cC (m+1) st) (i:=AV.int) (g:=î) (fun _=>rfl) l
theorem gB(h:D≠[]):∃D' x,D=D'++[x]:=⟨D.dropLast,D.getLast h,(List.dropLast_concat_getLast h).symm⟩
end
section
variable{st:aa}{os:List Nat}{n g k j:Nat}{A B O:Oh}{D T:List Int}
def okD(D:List Int):Prop:=∀x∈D,0<=x/\x<2147483587
theorem okD.at{D:List Int}{x:Int}(h:okD (D++[x])):0<=x/\okD D:=⟨(h x (by simp)).1,fun y a=>h y (by simp[a])⟩
theorem Jk{a b:Int}:∃c:Int,bo p8 [.int a,.int b] st=À (.int c,st)/\(c=a\/c=b):=by
 have:bo p8 [.int a,.int b] st=À (.int (if b<a then b else a),st):=rfl;exact⟨_,this,by split<;>simp⟩
theorem tf{i:Nat}(a:i<T.length):aY st (.fz (iL T)) (.int (i:Int))=À (.int (SX.gI T i)):=by rw[cU eN,cG,cj a]
theorem Fj{c:Int}(h:c.natAbs<=100):c.natAbs<2^62:=yM h dC
theorem lU{z c:Int}(a:eG c=Â)(b:0<c):aZ .FloorDiv st (.int z) (.int c)=À (.int (z/c)):=by rw[mK a];exact congrArg (fun q=>À (AV.int q)) (yI b)
theorem d5{z c:Int}(a:0<c):aZ .Mod st (.int z) (.int c)=À (.int (z%c)):=by rw[iO oM];exact congrArg (fun q=>À (AV.int q)) (yI a)
theorem Mh{x y:Nat}:aZ .BitAnd st (.int (x:Int)) (.int (y:Int))=À (.int ((x &&& y:Nat):Int)):=by
 show À (AV.int (P8 (x:Int) (y:Int)))=_;rfl
theorem oQ{l:List Int}:bo dB [.fz (iL l)] st=À (.int ((l.length:Nat):Int),st):=by
 show À (AV.int ((iL l).length:Int),st)=_;rw[gC]
theorem mL{l:List AV}{i:Int}(c:0<=i)(b:i<l.length):∃x∈l,aY st (.fz l) (.int i)=À x:=by
 obtain⟨q,rfl⟩:∃q:Nat,i=(q:Int):=⟨i.toNat,by lia⟩;have a:q<l.length:=by lia
 refine⟨l[q],Ó a,?_⟩;rw[cU eN,cG,zF a]
end
section
variable{st:aa}{n k:Nat}{A B:Oh}{D T:List Int}{R:aa}
theorem iY{x:Int}:ao [.ref 2] (A::B::.lst (iL (D++[x]))::R)=À (.int x,A::B::.lst (iL D)::R):=rp (st:=A::B::.lst (iL (D++[x]))::R) (r:=2) rfl
theorem jT{P:Int->Prop}{ks:List Fn}{k:Nat}{it:Ix}{t:Tg}{e:Ex}{sl:Sl}{N:Nat}(j:eB ks it sl st=À (⟨(È N).map fun q:Nat=>AV.int (q:Int),[]⟩,st))(hz:N<=1000)(h:∀q,q<N->∃sl1 v,P v/\cg ks t (.int (q:Int)) (sl++Æ k Á) st=À (sl1,st)/\ev ks e sl1 st=À (.int v,st)):∃L:List Int,(L.length=N/\∀x∈L,P x)/\ev ks (.nw Ã (.lc k it t .no e)) sl st=À (.fz (iL L),st):=by
 have l:∀q,∃v:Int,q<N->P v/\∃sl1,cg ks t (.int (q:Int)) (sl++Æ k Á) st=À (sl1,st)/\ev ks e sl1 st=À (.int v,st):=fun q=>by
  by_cases a:q<N
  ·obtain⟨sl1,v,m,d,b⟩:=h q a;exact⟨v,fun _=>⟨m,sl1,d,b⟩⟩
  ·exact⟨0,fun z=>absurd z a⟩
 obtain⟨f,g⟩:=Classical.axiomOfChoice l;refine⟨(È N).map f,⟨by simp,fun x i=>?_⟩,?_⟩
 ·obtain⟨q,a,rfl⟩:=yD.mp i
  exact(g q (Ü.mp a)).1
 have e:=f7 (c:=.no) (B:=fun _=>Â) (F:=fun q:Nat=>AV.int (f q)) j rfl (by simpa using hz) fun q a=>by
  obtain⟨_,sl1,d,b⟩:=g q (Ü.mp a);exact⟨sl1,d,rfl,fun _=>b⟩
 rw[Ð.mpr (fun _ _=>rfl)]at e;have:(È N).map (fun q=>AV.int (f q))=iL ((È N).map f):=by unfold iL;rw[Ö];rfl
 rw[this]at e;rw[c7,e,Å,yI bv]
theorem sV{f:Int->Int}{ks:List Fn}{it:Ix}{e:Ex}{sl:Sl}{s:Nat}{N:Nat}(d:∀st,eB ks it sl st=À (⟨(È N).map fun q:Nat=>AV.int (q:Int),[]⟩,st))(hz:N<=1000)(p:sl.length=s)(h:∀q D x,0<=x->x<2147483587->ev ks e (sl++[Is (q:Int)]) (A::B::.lst (iL (D++[x]))::R)=À (.int (f x),A::B::.lst (iL D)::R))(z:N<=D.length)(hd:okD D) :
  ∃D' L,ev ks (.nw Ã (.lc 1 it (.nm s) .no e)) sl (A::B::.lst (iL D)::R)=À (.fz (iL L),A::B::.lst (iL D')::R)/\okD D'/\D.length=D'.length+N/\L.length=N/\∀x∈L,∃y,0<=y/\y<2147483587/\x=f y:=by
 have gm:∀(q:Nat)(st:aa),cg ks (.nm s) (.int (q:Int)) (sl++[Á]) st=À (sl++[Is (q:Int)],st):=fun q st=>by
  show À ((sl++[Á]).set s (À (.int (q:Int))),st)=_;rw[<- p,A! _ _ (zP _),W6];rfl
 obtain⟨n,m,o,l⟩:=ym (gd:=[]) (g:=cg ks (.nm s)) (t:=jz ks .no) (f:=ev ks e) (sl:=sl++[Á]) (xs:=(È N).map fun q:Nat=>AV.int (q:Int))
  (J:=fun i st=>i<=N/\st=A::B::.lst (iL (D.take (D.length-i)))::R) (F:=fun i=>.int (f (SX.gI D (D.length-1-i)))) (fun _ _ _ _=>rfl) (fun i x st b k=>by
   obtain⟨v,j⟩:=k;rw[zR]at b;obtain⟨q,r,rfl⟩:=zE.mp b;have u:i<N:=by have:=(zB.mp r).1;simpa using this
   subst j;have a:D.length-1-i<D.length:=by lia
   have w:D.take (D.length-i)=D.take (D.length-(i+1))++[SX.gI D (D.length-1-i)]:=by
    rw[show D.length-i=(D.length-1-i)+1 by lia,List.take_add_one,show D.length-(i+1)=D.length-1-i by lia,zF a];congr 2;simp[SX.gI,zD,zF a]
   have c:SX.gI D (D.length-1-i)∈D:=by
    unfold SX.gI;rw[zD,zF a];exact Ó a
   refine⟨_,_,gm q _,rfl,?_,by lia,rfl⟩;rw[w];exact h q _ _ (hd _ c).1 (hd _ c).2) (st:=A::B::.lst (iL D)::R) ⟨ħ _,by rw[Ų,ň]⟩
 rw[zH,Ā]at m o l;refine⟨D.take (D.length-N),(È N).map fun i=>f (SX.gI D (D.length-1-i)),?_,fun x b=>hd x (Ź b),by rw[ī];lia,by simp,fun x b=>?_⟩
 ·rw[c7,GL,d,Å]
  dsimp only;rw[yI (ce (by simpa using hz))];show((im [] _ _ _ (sl++[Á]) _ _).bind _)=_;rw[m,Å,l];dsimp only;have:(È N).map (fun i=>AV.int (f (SX.gI D (D.length-1-i))))=iL ((È N).map fun i=>f (SX.gI D (D.length-1-i))):=by unfold iL;rw[Ö];rfl
  rw[this,yI bv]
 ·obtain⟨i,d,rfl⟩:=yD.mp b
  have d:=Ü.mp d;have a:D.length-1-i<D.length:=by lia
  have c:SX.gI D (D.length-1-i)∈D:=by
   unfold SX.gI;rw[zD,zF a];exact Ó a
  exact⟨_,(hd _ c).1,(hd _ c).2,rfl⟩
end
section
variable{st:aa}
theorem wA{l:List Int}:lsI st (.fz (iL l))=À l:=by
 unfold lsI;rw[eN,Å];unfold mC;rw[show iL l=l.map AV.int from rfl,eP (i:=AV.int) (g:=id) (fun _=>rfl),List.map_id]
theorem gM:∀l:List Gv,rfs (l.map Gv.av)=Â:=fun l=>eD fun x a=>by
 obtain⟨z,_,rfl⟩:=yD.mp a;simp[Gv.av,rf,rfs,bv]
variable{w:Nat}{RR:List (List Int)}{gv:List Gv}{X Y Z:Nat->Int}{e:Int}{goal:List Int}
theorem G2{T d:Int}(hd:0<d):∃q:Int,0<q/\T=gI (aw [T,d]) 0*q/\d=gI (aw [T,d]) 1*q/\0<gI (aw [T,d]) 1:=by
 have a:gL [T,d]=þ T.natAbs d.natAbs:=by
  show þ (þ 0 T.natAbs) d.natAbs=_;rw[Nat.gcd_zero_left]
 have g:0<þ T.natAbs d.natAbs:=Nat.gcd_pos_of_pos_right _ oM;have e:aw [T,d]=[T/(þ T.natAbs d.natAbs:Int),d/(þ T.natAbs d.natAbs:Int)]:=by
  unfold aw;rw[yH (by rw[a];lia),a];rfl
 have f:((þ T.natAbs d.natAbs:Nat):Int) ∣ T:=ό.mp (Ń.mpr (S! _ _));have b:((þ T.natAbs d.natAbs:Nat):Int) ∣ d:=ό.mp (Ń.mpr (Q0 _ _));rw[e];refine⟨(þ T.natAbs d.natAbs:Nat),by lia,(ŗ f).symm,(ŗ b).symm,?_⟩;show 0<d / _;have c:=ŗ b;rcases Q6 0 (d/((þ T.natAbs d.natAbs:Nat):Int)) with h|h|h
 ·exact h
 ·rw[<- h]at c;lia
 ·have:=Int.mul_neg_of_neg_of_pos h (show (0:Int) < ((þ T.natAbs d.natAbs:Nat):Int) by lia);lia
theorem GJ{a b:Int}{m n:Nat}(c:a.natAbs<2^m)(hb:b.natAbs<2^n):(a*b).natAbs<2^(m+n):=by
 rw[xA,Š];exact Nat.mul_lt_mul'' c hb
theorem GM{a b:Int}{m n:Nat}(g:a.natAbs<2^m)(hb:b.natAbs<2^n)(c:m<=1000000)(f:n<=1000000):cV a b=Â:=by
 have d:∀(z m:Nat),z<2^m->m<=1000000->ä z.log2 1000000=Â:=fun z m hz c=>by
  by_cases e:z=0
  ·subst e;rfl
  ·exact yL (z5 (yZ ((Ĉ e).mpr hz)) c)
 unfold cV;rw[d _ _ g c,d _ _ hb f,U1,V6]
theorem Cg{a b q:Int}{m:Nat}(h:b=a*q)(c:0<q)(hb:b.natAbs<2^m):a.natAbs<2^m:=by
 refine yM ?_ hb;rw[h,xA];exact Nat.le_mul_of_pos_right _ oM
end
section
variable{nn:Int}{st:aa}{w:Nat}{RR:List (List Int)}{HO:Nat->List Int}{gv:List Gv}{r X Z goal:List Int}{Y:Nat->Int}{e D num:Int}
theorem Fh(n:Nat)(f:Nat->Int):Oj (n+1) f=f 0+Oj n fun i=>f (i+1):=by
 induction n with
 |zero=>simp[Oj]
 |succ n a=>rw[Oj,a,Oj];lia
theorem pY:∀(r X:List Int),r.length=X.length->((r.zip X).map fun z=>z.1*z.2).sum=Oj r.length fun x=>gI r x*gI X x
 |[],_,_=>rfl
 |x::r,[],h=>by simp at h
 |x::r,y::X,h=>by
  rw[Ċ,zO,ϔ,pY r X (by simpa using h),yY,Fh];rfl
theorem mr(a:r.length=w)(h:X.length=w)(g:w<=15)(d:∀x∈r,x.natAbs<2^9000)(f:∀x∈X,x.natAbs<2^9000):pm dD [.fz (iL r),.fz (iL X)] st=À (.int (val w r (gI X)),st):=by
 have e:=f7 (st:=[]) (ks:=[]) (k:=2) (it:=.zi (.v 0) (.v 1)) (t:=.tu 2 (.cons (.nm 2) (.cons (.nm 3) .nil))) (c:=.no) (e:=.bin .Mult (.v 2) (.v 3)) (sl:=[Ls r,Ls X]) (gd:=[]) (em:=fun z:Int×Int=>AV.tup [.int z.1,.int z.2]) (xs:=r.zip X) (B:=fun _=>Â) (F:=fun z=>AV.int (z.1*z.2)) (by
  rw[<- rY];rfl) rfl (by rw[Ă];lia) fun z hz=>by
   have:=ā hz
   exact⟨[Ls r,Ls X,Is z.1,Is z.2],rfl,rfl,fun _=>by simp[ba (cq (d _ this.1) (f _ this.2))]⟩
 rw[Ð.mpr (fun _ _=>rfl),show(r.zip X).map (fun z=>AV.int (z.1*z.2))=iL ((r.zip X).map fun z=>z.1*z.2) by unfold iL;rw[Ö];rfl]at e;have b:ev [] (.nw Ã (.lc 2 (.zi (.v 0) (.v 1)) (.tu 2 (.cons (.nm 2) (.cons (.nm 3) .nil))) .no (.bin .Mult (.v 2) (.v 3)))) [Ls r,Ls X] []=À (.fz (iL ((r.zip X).map fun z=>z.1*z.2)),[]):=by
  rw[c7,e,Å,yI bv]
 refine bM (by simp[rfs,rf,bv]) (v:=.int (val w r (gI X))) (st':=[]) ?_ rfl;rw[dD,aD];show(ai [] qt [Ls r,Ls X] []).bind ay=_;refine aS ?_;simp only[kt,pT,bJ,dg,b,Å,uc,bo,nV,wA,á];rw[pY r X oM,a];rfl
theorem xa{M N:Nat}(d:r.length=w)(j:X.length=w)(a:w<=15)(b:∀x∈r,x.natAbs<2^M)(c:∀x∈X,x.natAbs<2^N):(val w r (gI X)).natAbs<2^(M+N+4):=by
 have h:=SX.abs_sum (n:=w) (f:=fun x=>gI r x*gI X x) (M:=2^(M+N)) fun i g=>by
  rw[xA,Š];exact ś (yZ (pf b (Ô _) i)) (yZ (pf c (Ô _) i))
 have k:w*2^(M+N)<=15*2^(M+N):=Ő _ a;have e:=Ô (M+N);unfold val;rw[Š _ (M+N)];generalize 2^(M+N)=B at *;lia
theorem uf{x:Int}{M:Nat}(h:x.natAbs<2^M)(a:M<=9000):x.natAbs<2^9000:=zJ h (ž dC a)
end
def KY(m:Nat):Bool:=match (bw [.int m] []).bind fun p=>fj p.2 p.1 with
 |some (.int b)=>decide (0<=b/\b<=4/\(0<m->1<=b))
 |_=>Ã
theorem HP:(È 16).all KY=Â:=by kernel_rfl
theorem zz{m:Nat}(a:m<16):∃b:Int,0<=b/\b<=4/\(0<m->1<=b)/\∀st,pm bw [.int (m:Int)] st=À (.int b,st):=by
 have h:=yR.mp HP m (Ü.mpr a);unfold KY at h;split at h
 ·rename_i b e
  obtain⟨f,d,c⟩:=of_decide_eq_true h;exact⟨b,f,d,c,fun st=>dy rfl e⟩
 ·cases h
section
variable{st:aa}{n g k j:Nat}{A B:Oh}{R:aa}{D T:List Int}
theorem v6{ks:List Fn}{r:Sl}(a:eM n):eB ks (.r1 (.bin .Sub (.bin .LShift (.i 1) (.v 0)) (.i 1))) (À (.int (n:Int))::r) st=À (⟨(È (2^n-1)).map fun q:Nat=>AV.int (q:Int),[]⟩,st):=by
 rcases a with rfl|rfl|rfl|rfl<;>rfl
theorem hU{T:List Int}{q:Nat}(h:q<T.length):SX.gI T q∈T:=by
 unfold SX.gI;rw[zD,zF h];exact Ó h
theorem turnT(d:eM n){h:Int}(f:T.length=2^n-1/\∀x∈T,0<=x/\x<=h){z:Int}(hz:0<=z)(D:z<2147483587){x3 x5 x6 x7 x8 x9:Option AV}{S:aa}:∃T' y5 y6 y7,(T'.length=2^n-1/\∀x∈T',0<=x/\x<=h+1000000000)/\ai [ao,bw] (.cons (.as (.bin .Mod (.v 4) (.bin .LShift (.i 1) (.v 0))) (.nm 5))
 (.cons (.as (.bin .Add (.i 1) (.bin .Mod (.bin .FloorDiv (.v 4) (.i 16)) (.i 3))) (.nm 6))
 (.cons (.as (.ix (.nw Ã (.li (.cons (.i 1) (.cons (.i 2) (.cons (.bin .Add (.i 1) (.bin .Mod (.bin .FloorDiv (.v 4) (.i 48)) (.i 5))) (.cons (.bin .Add (.i 1) (.bin .FloorDiv (.v 4) (.i 48))) .nil)))))) (.bin .Mod (.bin .FloorDiv (.v 4) (.i 240)) (.i 4))) (.nm 7))
 (.cons (.as (.nw Ã (.lc 1 (.r1 (.bi .len (.cons (.v 2) .nil))) (.nm 10) .no (.bin .Add (.ix (.v 2) (.v 10)) (.bin .Mult (.v 7) (.bi .min (.cons (.v 6) (.cons (.ca Â 1 (.cons (.bin .BitAnd (.v 5) (.bin .Add (.v 10) (.i 1))) .nil)) .nil))))))) (.nm 2))
 .nil)))) [Is n,Rs 2,Ls T,x3,Is z,x5,x6,x7,x8,x9] S=À (.nx [Is n,Rs 2,Ls T',x3,Is z,y5,y6,y7,x8,x9] S):=by
 obtain⟨m,j,em⟩:∃m:Nat,m<16/\z%2^n=(m:Int):=by
  have o:(0:Int)<2^n:=by rcases d with rfl|rfl|rfl|rfl<;>decide
  have Q:=Õ z (show (2:Int) ^ n ≠ 0 by lia);have O:=Ñ z o;have M:(2:Int) ^ n <= 16:=by rcases d with rfl | rfl | rfl | rfl <;> decide
  exact⟨(z%2^n).toNat,by lia,by lia⟩
 have sh:aZ .LShift S (.int 1) (.int (n:Int))=À (.int (2^n)):=by rcases d with rfl|rfl|rfl|rfl<;>rfl
 have o:(0:Int)<2^n:=by rcases d with rfl|rfl|rfl|rfl<;>decide
 have J:=Õ (z / 16) (show (3:Int) ≠ 0 by decide);have I:=Ñ (z / 16) (show (0:Int) < 3 by decide);have w1:=Õ (z / 240) (show (4:Int) ≠ 0 by decide);have w2:=Ñ (z / 240) (show (0:Int) < 4 by decide);obtain ⟨v,r,ev⟩:=mL (st:=S) (l:=[.int 1,.int 2,.int (1 + z / 48 % 5),.int (1 + z / 48)]) w1 w2;obtain ⟨tm,rfl,B,A⟩:∃ tm:Int,v=.int tm/\1 <= tm/\tm <= 50000000:=by
  simp only[zT,zX,or_false]at r;rcases r with rfl|rfl|rfl|rfl<;>exact⟨_,rfl,by lia,by lia⟩
 have hN:2^n-1<=15:=by rcases d with rfl|rfl|rfl|rfl<;>decide
 obtain⟨L,hL,G⟩:=jT (P:=fun v=>0<=v/\v<=h+1000000000) (ks:=[ao,bw]) (k:=1) (st:=S) (it:=.r1 (.bi .len (.cons (.v 2) .nil))) (t:=.nm 10) (e:=.bin .Add (.ix (.v 2) (.v 10)) (.bin .Mult (.v 7) (.bi .min (.cons (.v 6) (.cons (.ca Â 1 (.cons (.bin .BitAnd (.v 5) (.bin .Add (.v 10) (.i 1))) .nil)) .nil)))))
  (sl:=[Is n,Rs 2,Ls T,x3,Is z,Is (m:Int),Is (1+z/16%3),Is tm,x8,x9]) (N:=2^n-1) (jn (by simp[oQ,f.1]) oM) oM fun q s=>by
   obtain⟨b,h,R,_,g⟩:=zz (m:=m &&& (q+1)) (yM Nat.and_le_left j);obtain⟨c,F,K⟩:=Jk (st:=S) (a:=1+z/16%3) (b:=b);have C:aZ .Mult S (.int tm) (.int c)=À (.int (tm*c)):=ba (rH (Fj oM));have ix:=tf (st:=S) (T:=T) (i:=q) (by rw[f.1];exact s);have p:=Mh (st:=S) (x:=m) (y:=q+1);have g:=g S;have w:((q:Int)+1)=((q+1:Nat):Int):=by lia
   generalize ((m &&& (q+1):Nat):Int)=u at p g;generalize ((q+1:Nat):Int)=u1 at p w;have E:SX.gI T q∈T:=hU (by rw[f.1];exact s)
   have:=f.2 _ E
   have H:c=0\/c=1\/c=2\/c=3\/c=4:=by lia
   exact⟨[Is n,Rs 2,Ls T,x3,Is z,Is (m:Int),Is (1+z/16%3),Is tm,x8,x9,Is (q:Int)],SX.gI T q+tm*c,by rcases H with rfl|rfl|rfl|rfl|rfl<;>lia,rfl,by simp[ix,w,p,g,F,C]⟩
 refine ⟨L,Is (m:Int),Is (1 + z / 16 % 3),Is tm,hL,?_⟩;refine aq (sl':=[Is n,Rs 2,Ls T,x3,Is z,Is (m:Int),x6,x7,x8,x9]) (st':=S) (by simp [sh,d5 o,em]) ?_;refine aq (sl':=[Is n,Rs 2,Ls T,x3,Is z,Is (m:Int),Is (1 + z / 16 % 3),x7,x8,x9]) (st':=S) (by simp [lU (show eG 16=Â from rfl),d5 (show (0:Int) < 3 by decide)]) ?_;refine aq (sl':=[Is n,Rs 2,Ls T,x3,Is z,Is (m:Int),Is (1 + z / 16 % 3),Is tm,x8,x9]) (st':=S) (by simp [lU (show eG 48=Â from rfl),lU (show eG 240=Â from rfl),d5 (show (0:Int) < 5 by decide),d5 (show (0:Int) < 4 by decide),cO,rfs,rf,ev]) ?_;refine aq (sl':=[Is n,Rs 2,Ls L,x3,Is z,Is (m:Int),Is (1 + z / 16 % 3),Is tm,x8,x9]) (st':=S) ?_ rfl;rw [d7,G];rfl
theorem uQ(Y:eM n)(hD:50<=D.length)(hd:okD D):∃D' T,cY [.int n,.ref 2] (A::B::.lst (iL D)::R)=À (.fz (iL T),(A::B::.lst (iL D')::R))/\(T.length=2^n-1/\∀x∈T,0<=x/\x<=10000000000)/\okD D'/\D.length<=D'.length+6:=by
 have X:∃r,cY [.int n,.ref 2] (A::B::.lst (iL D)::R)=À r/\∃D' T,r=(.fz (iL T),(A::B::.lst (iL D')::R))/\(T.length=2^n-1/\∀x∈T,0<=x/\x<=10000000000)/\okD D'/\D.length<=D'.length+6:=by
  have hN:2^n-1<=15:=by rcases Y with rfl|rfl|rfl|rfl<;>decide
  rw[cY,aD];show ∃r,(ai [ao,bw] gK [Is n,Rs 2,Á,Á,Á,Á,Á,Á,Á,Á] (A::B::.lst (iL D)::R)).bind ay=À r/\_;unfold gK;obtain⟨U,K,e0⟩:=jT (P:=fun v=>0<=v/\v<=0) (ks:=[ao,bw]) (k:=1) (st:=(A::B::.lst (iL D)::R)) (t:=.nm 10) (e:=.i 0) (sl:=[Is n,Rs 2,Á,Á,Á,Á,Á,Á,Á,Á]) (v6 Y) oM fun q j=>⟨_,0,by lia,rfl,rfl⟩
  refine au (sl':=[Is n,Rs 2,Ls U,Á,Á,Á,Á,Á,Á,Á]) (st':=(A::B::.lst (iL D)::R)) (by rw[d7,e0];rfl) ?_;obtain⟨g,x,rfl⟩:=gB (D:=D) (fun z=>by rw[z]at hD;simp at hD);obtain⟨hx0,Z⟩:=hd.at;simp only[zV,Ý]at hD ⊢;have p:=rp (st:=(A::B::Oh.lst (iL (g++[x]))::R)) (r:=2) (D:=g) (x:=x) rfl;obtain⟨c,hc,hm⟩:∃c:Nat,c<=4/\x%5=(c:Int):=by
   have h1:=Õ x (show (5:Int) ≠ 0 by decide);have h2:=Ñ x (show (0:Int) < 5 by decide);exact ⟨(x % 5).toNat,by lia,by lia⟩
  have it:eB [ao,bw] (.r1 (.bin .Mod (.ca Ã 0 (.cons (.v 1) .nil)) (.i 5))) [Is n,Rs 2,Ls U,Á,Á,Á,Á,Á,Á,Á] (A::B::.lst (iL (g++[x]))::R)=À (⟨(È c).map fun q:Nat=>AV.int (q:Int),[]⟩,(A::B::.lst (iL g)::R)):=by
   have e:ev [ao,bw] (.bin .Mod (.ca Ã 0 (.cons (.v 1) .nil)) (.i 5)) [Is n,Rs 2,Ls U,Á,Á,Á,Á,Á,Á,Á] (A::B::.lst (iL (g++[x]))::R)=À (.int (c:Int),(A::B::.lst (iL g)::R)):=by
    simp [p,d5 (show (0:Int) < 5 by decide),hm,d4]
   show(ev _ _ _ _).bind _=_;rw[e];exact jn (ks:=[]) (a:=.i c) (sl:=[]) rfl oM
  refine iX (em:=fun q:Nat=>.int (q:Int)) (xs:=È c) (gd:=[]) (st0:=(A::B::.lst (iL g)::R)) (fun i sl s=>∃D' T,s=(A::B::.lst (iL D')::R)/\D'.length+i=g.length/\okD D'/\(T.length=2^n-1/\∀x∈T,0<=x/\x<=(i:Int)*1000000000)/\∃x3 V x5 x6 x7 x8 x9,sl=[Is n,Rs 2,Ls T,x3,V,x5,x6,x7,x8,x9]) it (fun _ _ _ _=>rfl) ⟨g,U,rfl,by lia,Z,⟨K.1,fun x I=>by have:=K.2 x I;lia⟩,_,_,_,_,_,_,_,rfl⟩ ?_ ?_
  ·rintro i q sl s j ⟨D',T,rfl,o,f,w,x3,V,x5,x6,x7,x8,x9,rfl⟩
   have hi:i<c:=by have:=(zB.mp j).1;simpa using this
   obtain⟨d,z,rfl⟩:=gB (D:=D') (fun e=>by rw[e]at o;simp at o;lia);obtain⟨H,C⟩:=f.at;have G:=(f z (by simp)).2;have W:=rp (st:=(A::B::Oh.lst (iL (d++[z]))::R)) (r:=2) (D:=d) (x:=z) rfl;obtain⟨E,y5,y6,y7,M,e⟩:=turnT Y w H G (x3:=À (.int (q:Int))) (x5:=x5) (x6:=x6) (x7:=x7) (x8:=x8) (x9:=x9) (S:=(A::B::.lst (iL d)::R));exact⟨_,_,_,rfl,aq (sl':=[Is n,Rs 2,Ls T,Is (q:Int),Is z,x5,x6,x7,x8,x9]) (st':=(A::B::.lst (iL d)::R)) (by simp[W,d4]) e,d,E,rfl,by simp at o;lia,C,⟨M.1,fun x I=>by have:=M.2 x I;lia⟩,_,_,_,_,_,_,_,rfl⟩
  ·rintro sl s ⟨D',T,rfl,o,f,w,x3,V,x5,x6,x7,x8,x9,rfl⟩
   simp only[Ā]at o w;obtain⟨d,z,rfl⟩:=gB (D:=D') (fun e=>by rw[e]at o;simp at o;lia);obtain⟨H,C⟩:=f.at;have G:=(f z (by simp)).2;simp only[zV,Ý]at o;have W:=rp (st:=(A::B::Oh.lst (iL (d++[z]))::R)) (r:=2) (D:=d) (x:=z) rfl;refine au (sl':=[Is n,Rs 2,Ls T,x3,Is z,x5,x6,x7,x8,x9]) (st':=(A::B::.lst (iL d)::R)) (by simp[W,d4]) ?_;have y:∀(E:List Int)(y8 y9:Option AV),(E.length=2^n-1/\∀x∈E,0<=x/\x<=10000000000)->∃r,(ai [ao,bw] (.cons (.rt (.v 2)) .nil) [Is n,Rs 2,Ls E,x3,Is z,x5,x6,x7,y8,y9] (A::B::.lst (iL d)::R)).bind ay=À r/\∃D' T,r=(.fz (iL T),(A::B::.lst (iL D')::R))/\(T.length=2^n-1/\∀x∈T,0<=x/\x<=10000000000)/\okD D'/\g.length+1<=D'.length+6:=fun E y8 y9 h=>⟨_,rfl,d,E,rfl,h,C,by lia⟩
   by_cases J:n=4/\z%3=0
   ·obtain⟨rfl,h3⟩:=J
    have w1:=Õ (z / 3) (show (6:Int) ≠ 0 by decide);have w2:=Ñ (z / 3) (show (0:Int) < 6 by decide);obtain ⟨v,hv,ev⟩:=mL (st:=(A::B::.lst (iL d)::R)) (l:=[.int 3,.int 5,.int 6,.int 9,.int 10,.int 12]) w1 w2;obtain ⟨pr,rfl⟩:∃ pr:Int,v=.int pr:=by
     simp only[zT,zX,or_false]at hv;rcases hv with rfl|rfl|rfl|rfl|rfl|rfl<;>exact⟨_,rfl⟩
    obtain⟨Q,hQ,eQ⟩:=jT (P:=fun v=>0<=v/\v<=5) (ks:=[ao,bw]) (k:=1) (st:=(A::B::.lst (iL d)::R)) (it:=.r1 (.i 15)) (t:=.nm 10) (e:=.bin .Add (.ix (.nw Ã (.li (.cons (.i 2) (.cons (.i 3) (.cons (.i 4) (.cons (.i 4) .nil)))))) (.bin .Sub (.ca Â 1 (.cons (.bin .Add (.v 10) (.i 1)) .nil)) (.i 1))) (.bi .int (.cons (.cmp .Eq (.bin .Add (.v 10) (.i 1)) (.v 8)) .nil)))
     (sl:=[Is ((4:Nat):Int),Rs 2,Ls T,x3,Is z,x5,x6,x7,Is pr,x9]) (N:=15) rfl oM fun q j=>by
      obtain⟨b,b0,b4,b1,O⟩:=zz (m:=q+1) oM;obtain⟨u,hu,eu⟩:=mL (st:=(A::B::.lst (iL d)::R)) (l:=[.int 2,.int 3,.int 4,.int 4]) (i:=b-1) (by have:=b1 oM;lia) (by simp;lia);obtain⟨F,rfl,uu0,uu1⟩:∃F:Int,u=.int F/\0<=F/\F<=4:=by
       simp only[zT,zX,or_false]at hu;rcases hu with rfl|rfl|rfl|rfl<;>exact⟨_,rfl,by lia,by lia⟩
      have O:=O (A::B::.lst (iL d)::R);have c1:((q:Int)+1)=((q+1:Nat):Int):=by lia
      generalize ((q+1:Nat):Int)=u1 at O c1;exact⟨[Is ((4:Nat):Int),Rs 2,Ls T,x3,Is z,x5,x6,x7,Is pr,x9,Is (q:Int)],F+(if u1=pr then 1 else 0),by split<;>lia,rfl,by simp[c1,O,eu,cO,rfs,rf,bo,tB]⟩
    obtain⟨L,hL,eL⟩:=jT (P:=fun v=>0<=v/\v<=10000000000) (ks:=[ao,bw]) (k:=1) (st:=(A::B::.lst (iL d)::R)) (it:=.r1 (.i 15)) (t:=.nm 10) (e:=.bin .Add (.ix (.v 2) (.v 10)) (.ix (.v 9) (.v 10)))
     (sl:=[Is ((4:Nat):Int),Rs 2,Ls T,x3,Is z,x5,x6,x7,Is pr,Ls Q]) (N:=15) rfl oM fun q j=>by
      have i1:=tf (st:=(A::B::.lst (iL d)::R)) (T:=T) (i:=q) (by rw[w.1];exact j);have i2:=tf (st:=(A::B::.lst (iL d)::R)) (T:=Q) (i:=q) (by rw[hQ.1];exact j);have g1:=w.2 _ (hU (T:=T) (q:=q) (by rw[w.1];exact j));have g2:=hQ.2 _ (hU (T:=Q) (q:=q) (by rw[hQ.1];exact j));exact⟨[Is ((4:Nat):Int),Rs 2,Ls T,x3,Is z,x5,x6,x7,Is pr,Ls Q,Is (q:Int)],SX.gI T q+SX.gI Q q,by lia,rfl,by simp[i1,i2]⟩
    refine au (sl':=[Is ((4:Nat):Int),Rs 2,Ls L,x3,Is z,x5,x6,x7,Is pr,Ls Q]) (st':=(A::B::.lst (iL d)::R)) ?_ (y L _ _ hL);have t1:tv [ao,bw] (.an (.cmp .Eq (.v 0) (.i 4)) (.cmp .Eq (.bin .Mod (.v 4) (.i 3)) (.i 0))) [Is ((4:Nat):Int),Rs 2,Ls T,x3,Is z,x5,x6,x7,x8,x9] (A::B::.lst (iL d)::R)=À (Â,(A::B::.lst (iL d)::R)):=by
     simp [d5 (show (0:Int) < 3 by decide),h3]
    rw [eJ,t1,Å];show ai _ _ _ _=_;refine aq (sl':=[Is ((4:Nat):Int),Rs 2,Ls T,x3,Is z,x5,x6,x7,Is pr,x9]) (st':=(A::B::.lst (iL d)::R)) (by simp [lU (show eG 3=Â from rfl),d5 (show (0:Int) < 6 by decide),cO,rfs,rf,ev]) ?_;refine aq (sl':=[Is ((4:Nat):Int),Rs 2,Ls T,x3,Is z,x5,x6,x7,Is pr,Ls Q]) (st':=(A::B::.lst (iL d)::R)) (by rw [d7,eQ];rfl) ?_;refine aq (sl':=[Is ((4:Nat):Int),Rs 2,Ls L,x3,Is z,x5,x6,x7,Is pr,Ls Q]) (st':=(A::B::.lst (iL d)::R)) (by rw [d7,eL];rfl) rfl
   ·refine au (sl':=[Is n,Rs 2,Ls T,x3,Is z,x5,x6,x7,x8,x9]) (st':=(A::B::.lst (iL d)::R)) ?_ (y T _ _ ⟨w.1,fun x I=>by have:=w.2 x I;lia⟩)
    by_cases h4:n=4
    ·have h3:¬z%3=0:=fun e=>J ⟨h4,e⟩
     simp [d5 (show (0:Int) < 3 by decide),h3,h4]
    ·simp[show ¬(n:Int)=4 by lia]
 obtain⟨r,e,D',T,rfl,h1,h2⟩:=X;exact⟨D',T,e,h1,h2⟩
end
section
variable{st:aa}{n g k j:Nat}{A B:Oh}{R:aa}{D T:List Int}
noncomputable def ig(z:Nat×Int):AV:=.tup [.int (z.1:Int),.int z.2]
def Gx(n:Nat)(a:List (Nat×Int)):Prop:=a.length<=4/\∀z∈a,z.1<2^n/\(z.2=1\/z.2=-1)
theorem Di(o:eM n){a:List (Nat×Int)}(j:Gx n a):∃L,pm aP [.int n,.fz (a.map ig)] st=À (.fz (iL L),st)/\L.length=2^n-1/\∀x∈L,-4<=x/\x<=4:=by
 have hN:2^n-1<=15:=by rcases o with rfl|rfl|rfl|rfl<;>decide
 have f:∃r,aP [.int n,.fz (a.map ig)] []=À r/\∃L,fj r.2 r.1=À (.fz (iL L))/\L.length=2^n-1/\∀x∈L,-4<=x/\x<=4:=by
  rw[aP,aD];show ∃r,(ai [] fT [Is n,Zs (a.map ig),Á,Á,Á] []).bind ay=À r/\_;unfold fT;refine au (sl':=[Is n,Zs (a.map ig),Rs 0,Á,Á]) (st':=[.lst (iL (Æ (2^n-1) 0))]) (by rcases o with rfl|rfl|rfl|rfl<;>rfl) ?_;refine iX (em:=ig) (xs:=a) (gd:=[]) (st0:=[.lst (iL (Æ (2^n-1) 0))]) (fun i d s=>i<=4/\∃L,s=[.lst (iL L)]/\L.length=2^n-1/\(∀x∈L,-(i:Int)<=x/\x<=(i:Int))/\∃x y,d=[Is n,Zs (a.map ig),Rs 0,x,y]) rfl (fun _ _ _ _=>rfl) ⟨by lia,_,rfl,by simp,by simp,_,_,rfl⟩ ?_ ?_
  ·rintro i z d s hz ⟨v,L,rfl,hL,hb,x,y,rfl⟩
   have u:i<4:=by have:=(zB.mp hz).1;have:=j.1;lia
   obtain⟨t,p⟩:=j.2 z (zW hz);obtain⟨g,c⟩:=z;by_cases B:g=0
   ·refine⟨_,[Is n,Zs (a.map ig),Rs 0,Is (g:Int),Is c],[.lst (iL L)],rfl,?_,by lia,L,rfl,hL,fun x b=>by have:=hb x b;lia,_,_,rfl⟩
    refine aq (s:=.iff _ _ _) ?_ rfl;simp [eq_false (show ¬ 0 < g by lia)]
   ·dsimp only at t p
    have l:g-1<L.length:=by rw[hL];lia
    have ix:aY [.lst (iL L)] (.ref 0) (.int ((g-1:Nat):Int))=À (.int (SX.gI L (g-1))):=by rw[cU (bH (xs:=iL L) rfl),cG,cj l]
    have m:=dH (st:=[.lst (iL L)]) (k:=0) (q:=g-1) (xs:=iL L) (x:=.int (SX.gI L (g-1)+c)) rfl (by rw[gC];exact l);rw[fJ]at m;have A:(g:Int)-1=((g-1:Nat):Int):=by lia
    refine⟨_,[Is n,Zs (a.map ig),Rs 0,Is (g:Int),Is c],[.lst (iL (L.set (g-1) (SX.gI L (g-1)+c)))],rfl,?_,by lia,_,rfl,by rw[ă];exact hL,fun x b=>?_,_,_,rfl⟩
    ·refine aq (s:=.iff _ _ _) ?_ rfl
     simp [eq_true (show 0 < g by lia),A,ix,m]
    ·rcases Č b with h|h
     ·have:=hb x h;lia
     ·have:=hb _ (hU l)
      rw[h];lia
  ·rintro d s ⟨v,L,rfl,hL,hb,x,y,rfl⟩
   refine⟨_,rfl,L,pZ rfl,hL,fun x b=>?_⟩
   have:=hb x b
   have:=j.1
   lia
 obtain⟨r,e,L,w,h⟩:=f;exact⟨L,bM (by
  have:rfs (a.map ig)=Â:=eD fun x b=>by obtain⟨z,_,rfl⟩:=yD.mp b;rfl
  simp[rfs,rf,this]) e w,h⟩
theorem C6(f:eM n)(s:0<D.length)(hd:okD D):∃D' ts,bq [.int n,.ref 2] (A::B::.lst (iL D)::R)=À (.fz (ts.map ig),A::B::.lst (iL D')::R)/\Gx n ts/\okD D'/\D.length=D'.length+1:=by
 obtain⟨d,z,rfl⟩:=gB (D:=D) (fun e=>by rw[e]at s;simp at s);obtain⟨hz,j⟩:=hd.at;obtain⟨w,o,W,F⟩:∃w:Nat,w=2^n-1/\0<w/\w<=15:=⟨_,rfl,by rcases f with rfl|rfl|rfl|rfl<;>decide,by rcases f with rfl|rfl|rfl|rfl<;>decide⟩;have X:2^n=w+1:=by rw[o];rcases f with rfl|rfl|rfl|rfl<;>rfl
 have p:=iY (A:=A) (B:=B) (R:=R) (D:=d) (x:=z);obtain⟨S,q⟩:∃S,S=A::B::Oh.lst (iL d)::R:=⟨_,rfl⟩;rw[<- q]at p;have Q:ev [ao] (.bin .Sub (.bin .LShift (.i 1) (.v 0)) (.i 1)) [Is n,Rs 2,Á,Á,Á,Á,Á] (A::B::.lst (iL (d++[z]))::R)=À (.int (w:Int),A::B::.lst (iL (d++[z]))::R):=by
  rw[o];rcases f with rfl|rfl|rfl|rfl<;>rfl
 obtain⟨a,Z,V⟩:∃a:Nat,(1<=a/\a<=w)/\1+z%(w:Int)=(a:Int):=by
  have u:=Õ z (show (w:Int) ≠ 0 by lia);have t:=Ñ z (show (0:Int) < w by lia);exact ⟨(1 + z % (w:Int)).toNat,by lia,by lia⟩
 obtain⟨b,hb,U⟩:∃b:Nat,(1<=b/\b<=w)/\1+z/16%(w:Int)=(b:Int):=by
  have u:=Õ (z / 16) (show (w:Int) ≠ 0 by lia);have t:=Ñ (z / 16) (show (0:Int) < w by lia);exact ⟨(1 + z / 16 % (w:Int)).toNat,by lia,by lia⟩
 obtain⟨c,Y,T⟩:∃c:Nat,c<=w/\z/256%((w:Int)+1)=(c:Int):=by
  have u:=Õ (z / 256) (show ((w:Int) + 1) ≠ 0 by lia);have t:=Ñ (z / 256) (show (0:Int) < (w:Int) + 1 by lia);exact ⟨(z / 256 % ((w:Int) + 1)).toNat,by lia,by lia⟩
 have k:=we (st:=S) (x:=a) (y:=c) oM oM;have I:=we (st:=S) (x:=b) (y:=c) oM oM;have H:=we (st:=S) (x:=a) (y:=b) oM oM;have m:a ||| c<2^n:=š oM oM;have L:b ||| c<2^n:=š oM oM;have K:a ||| b<2^n:=š oM oM;have J:a ||| b ||| c<2^n:=š K oM;have G:=we (st:=S) (x:=a ||| b) (y:=c) oM oM;have l:ot .USub S (.int 1)=À (.int (-1)):=rfl;have g:aZ .FloorDiv S (.int z) (.int 4096)=À (.int (z/4096)):=lU rfl dC;have m3:aZ .Mod S (.int (z/4096)) (.int 3)=À (.int (z/4096%3)):=d5 dC;have i:∃r,bq [.int n,.ref 2] (A::B::.lst (iL (d++[z]))::R)=À r/\∃ts,r=(.fz (ts.map ig),S)/\Gx n ts:=by
  rw [bq,aD];show ∃ r,(ai [ao] gJ [Is n,Rs 2,Á,Á,Á,Á,Á] (A::B::.lst (iL (d++[z]))::R)).bind ay=À r/\_;unfold gJ;refine au (sl':=[Is n,Rs 2,Is (w:Int),Á,Á,Á,Á]) (st':=A::B::.lst (iL (d++[z]))::R) (by rw [d7,Q];rfl) ?_;refine au (sl':=[Is n,Rs 2,Is (w:Int),Is z,Á,Á,Á]) (st':=S) (by simp [p,d4]) ?_;refine au (sl':=[Is n,Rs 2,Is (w:Int),Is z,Is (a:Int),Á,Á]) (st':=S) (by simp [d5 (show (0:Int) < (w:Int) by lia),V]) ?_;refine au (sl':=[Is n,Rs 2,Is (w:Int),Is z,Is (a:Int),Is (b:Int),Á]) (st':=S) (by simp [lU (show eG 16=Â from rfl),d5 (show (0:Int) < (w:Int) by lia),U]) ?_;refine au (sl':=[Is n,Rs 2,Is (w:Int),Is z,Is (a:Int),Is (b:Int),Is (c:Int)]) (st':=S) (by simp [lU (show eG 256=Â from rfl),d5 (show (0:Int) < (w:Int) + 1 by lia),T]) ?_;have h0:=Õ (z / 4096) (show (3:Int) ≠ 0 by decide);by_cases E:z / 4096 % 3=0
  ·refine fX (v:=.fz ([(a,1)].map ig)) (st':=S) ?_ ⟨_,rfl,by simp,?_⟩
   ·simp[g,m3,E,cO,rfs,rf,ig,qE]
   ·simp only[zM];rintro z rfl;exact⟨by dsimp only;lia,.inl rfl⟩
  ·refine au (sl':=[Is n,Rs 2,Is (w:Int),Is z,Is (a:Int),Is (b:Int),Is (c:Int)]) (st':=S) (by simp[g,m3,E]) ?_
   generalize P:a ||| c=q1 at *;generalize O:b ||| c=q2 at *;generalize M:a ||| b ||| c=q4 at *;generalize N:a ||| b=q3 at *;by_cases C:z/4096%3=1
   ·refine fX (v:=.fz ([(q1,1),(c,-1)].map ig)) (st':=S) ?_ ⟨_,rfl,by simp,?_⟩
    ·simp[g,m3,C,cO,rfs,rf,ig,k,l,qE]
    ·simp only[zT,zX,or_false]
     rintro z (rfl|rfl)
     ·exact⟨m,.inl rfl⟩
     ·exact⟨by dsimp only;lia,.inr rfl⟩
   ·refine au (sl':=[Is n,Rs 2,Is (w:Int),Is z,Is (a:Int),Is (b:Int),Is (c:Int)]) (st':=S) (by simp[g,m3,C]) ?_
    refine fX (v:=.fz ([(q1,1),(q2,1),(q4,-1),(c,-1)].map ig)) (st':=S) ?_ ⟨_,rfl,by simp,?_⟩
    ·simp[cO,rfs,rf,ig,k,I,H,G,l]
    ·simp only[zT,zX,or_false]
     rintro z (rfl|rfl|rfl|rfl)
     ·exact⟨m,.inl rfl⟩
     ·exact⟨L,.inl rfl⟩
     ·exact⟨J,.inr rfl⟩
     ·exact⟨by dsimp only;lia,.inr rfl⟩
 obtain⟨r,e,ts,rfl,h⟩:=i;rw[q]at e;exact⟨d,ts,e,h,j,by simp⟩
end
section
variable{st:aa}{n g k j:Nat}{A B:Oh}{R:aa}{D T:List Int}
def Ac(L:List Int):Prop:=∀x∈L,x.natAbs<=10000000000000000000000
theorem MR:aZ .Pow st (.int 10) (.int 12)=À (.int 1000000000000):=by kernel_rfl
theorem MQ:aZ .Pow st (.int 10) (.int 21)=À (.int 1000000000000000000000):=by kernel_rfl
theorem Cc(C:eM n)(Y:20<=D.length)(hd:okD D):∃D' L,bU [.int n,.ref 2] (A::B::.lst (iL D)::R)=À (.fz (iL L),A::B::.lst (iL D')::R)/\L.length=2^n-1/\Ac L/\okD D'/\D.length<=D'.length+17:=by
 have hN:2^n-1<=15:=by rcases C with rfl|rfl|rfl|rfl<;>decide
 have V:∃r,bU [.int n,.ref 2] (A::B::.lst (iL D)::R)=À r/\∃D' L,r=(.fz (iL L),A::B::.lst (iL D')::R)/\L.length=2^n-1/\Ac L/\okD D'/\D.length<=D'.length+17:=by
  rw[bU,aD];show ∃r,(ai [ao,bq,aP] iP [Is n,Rs 2,Á,Á,Á,Á,Á] (A::B::.lst (iL D)::R)).bind ay=À r/\_;unfold iP;obtain⟨a,z,rfl⟩:=gB (D:=D) (fun e=>by rw[e]at Y;simp at Y);obtain⟨hz,u⟩:=hd.at;simp only[zV,Ý]at Y ⊢;have p:=iY (A:=A) (B:=B) (R:=R) (D:=a) (x:=z);refine au (sl':=[Is n,Rs 2,Is z,Á,Á,Á,Á]) (st':=A::B::.lst (iL a)::R) (by simp[p,d4]) ?_;have m8:aZ .Mod (A::B::.lst (iL a)::R) (.int z) (.int 8)=À (.int (z%8)):=d5 dC;have E:aZ .Mod (A::B::.lst (iL a)::R) (.int z) (.int 64)=À (.int (z%64)):=d5 dC;by_cases h8:z%8=0
  ·obtain⟨j,L,e,b,J,hL,hb⟩:=sV (A:=A) (B:=B) (R:=R) (D:=a) (f:=fun x=>x%7-3) (ks:=[ao,bq,aP]) (it:=.r1 (.bin .Sub (.bin .LShift (.i 1) (.v 0)) (.i 1))) (e:=.bin .Sub (.bin .Mod (.ca Ã 0 (.cons (.v 1) .nil)) (.i 7)) (.i 3)) (sl:=[Is n,Rs 2,Is z,Á,Á,Á,Á]) (s:=7) (N:=2^n-1) (fun st=>v6 C) oM rfl (fun q D x _ _=>by
    simp[iY,d4,d5 (show(0:Int)<7 by decide)]) oM u
   refine fX (v:=.fz (iL L)) (st':=A::B::.lst (iL j)::R) ?_ ⟨j,L,rfl,hL,fun x m=>?_,b,by lia⟩
   ·rw[eJ]
    have S:tv [ao,bq,aP] (.cmp .Eq (.bin .Mod (.v 2) (.i 8)) (.i 0)) [Is n,Rs 2,Is z,Á,Á,Á,Á] (A::B::.lst (iL a)::R)=À (Â,A::B::.lst (iL a)::R):=by simp[m8,h8]
    rw[S,Å];show ai _ _ _ _=_;refine wZ ?_;rw[kt,e];rfl
   ·obtain⟨y,_,_,rfl⟩:=hb x m
    have:=Õ y (show (7:Int) ≠ 0 by decide)
    have:=Ñ y (show (0:Int) < 7 by decide)
    lia
  refine au (sl':=[Is n,Rs 2,Is z,Á,Á,Á,Á]) (st':=A::B::.lst (iL a)::R) (by simp[m8,h8]) ?_;by_cases H:z%64=1
  ·obtain⟨j,L,e,b,J,hL,hb⟩:=sV (A:=A) (B:=B) (R:=R) (D:=a) (f:=fun x=>x*1000000000000-1000000000000000000000) (ks:=[ao,bq,aP]) (it:=.r1 (.bin .Sub (.bin .LShift (.i 1) (.v 0)) (.i 1))) (e:=.bin .Sub (.bin .Mult (.ca Ã 0 (.cons (.v 1) .nil)) (.bin .Pow (.i 10) (.i 12))) (.bin .Pow (.i 10) (.i 21))) (sl:=[Is n,Rs 2,Is z,Á,Á,Á,Á]) (s:=7) (N:=2^n-1) (fun st=>v6 C) oM rfl (fun q D x _ _=>by
    have U:aZ .Mult (A::B::.lst (iL D)::R) (.int x) (.int 1000000000000)=À (.int (x*1000000000000)):=ba (rH dC);simp[iY,d4,MR,MQ,U]) oM u
   refine fX (v:=.fz (iL L)) (st':=A::B::.lst (iL j)::R) ?_ ⟨j,L,rfl,hL,fun x m=>?_,b,by lia⟩
   ·rw[eJ]
    have S:tv [ao,bq,aP] (.cmp .Eq (.bin .Mod (.v 2) (.i 64)) (.i 1)) [Is n,Rs 2,Is z,Á,Á,Á,Á] (A::B::.lst (iL a)::R)=À (Â,A::B::.lst (iL a)::R):=by simp[E,H]
    rw[S,Å];show ai _ _ _ _=_;refine wZ ?_;rw[kt,e];rfl
   ·obtain⟨y,y0,y1,rfl⟩:=hb x m
    lia
  refine au (sl':=[Is n,Rs 2,Is z,Á,Á,Á,Á]) (st':=A::B::.lst (iL a)::R) (by simp[E,H]) ?_;obtain⟨L0,G,e0⟩:=jT (P:=fun v=>v=0) (ks:=[ao,bq,aP]) (k:=1) (st:=A::B::.lst (iL a)::R) (t:=.nm 7) (e:=.i 0) (sl:=[Is n,Rs 2,Is z,Á,Á,Á,Á]) (v6 C) oM fun q hq=>⟨_,0,rfl,rfl,rfl⟩
  refine au (sl':=[Is n,Rs 2,Is z,Ls L0,Á,Á,Á]) (st':=A::B::.lst (iL a)::R) (by rw[d7,e0];rfl) ?_;obtain⟨c,hc,ec⟩:∃c:Nat,c<=3/\1+z/64%3=(c:Int):=by
   have h1:=Õ (z / 64) (show (3:Int) ≠ 0 by decide);have h2:=Ñ (z / 64) (show (0:Int) < 3 by decide);exact ⟨(1 + z / 64 % 3).toNat,by lia,by lia⟩
  have it:eB [ao,bq,aP] (.r1 (.bin .Add (.i 1) (.bin .Mod (.bin .FloorDiv (.v 2) (.i 64)) (.i 3)))) [Is n,Rs 2,Is z,Ls L0,Á,Á,Á] (A::B::.lst (iL a)::R)=À (⟨(È c).map fun q:Nat=>AV.int (q:Int),[]⟩,A::B::.lst (iL a)::R):=jn (by simp [lU (show eG 64=Â from rfl),d5 (show (0:Int) < 3 by decide),ec]) oM;refine iX (em:=fun q:Nat=>.int (q:Int)) (xs:=È c) (gd:=[]) (st0:=A::B::.lst (iL a)::R) (fun i sl s=>∃ D' L,s=A::B::.lst (iL D')::R/\a.length=D'.length + 2 * i/\okD D'/\L.length=2 ^ n - 1/\(∀ x ∈ L,-(12 * (i:Int)) <= x/\x <= 12 * (i:Int))/\∃ O K I,sl=[Is n,Rs 2,Is z,Ls L,O,K,I]) it (fun _ _ _ _=>rfl) ⟨a,L0,rfl,by lia,u,G.1,fun x m=>by have:=G.2 x m;lia,_,_,_,rfl⟩ ?_ ?_
  ·rintro i q sl s hq ⟨D',L,rfl,J,w,hL,hb,O,K,I,rfl⟩
   have hi:i<c:=by have:=(zB.mp hq).1;simpa using this
   obtain ⟨j,ts,e1,ht,b,o⟩:=C6 (A:=A) (B:=B) (R:=R) (D:=D') C oM w;obtain ⟨M,e2,hM,X⟩:=Di (st:=A::B::.lst (iL j)::R) C ht;obtain ⟨d,y,rfl⟩:=gB (D:=j) (fun e=>by rw [e] at o;simp at o;lia);obtain ⟨hy,W⟩:=b.at;simp only [zV,Ý] at o;have w1:=Õ y (show (6:Int) ≠ 0 by decide);have w2:=Ñ y (show (0:Int) < 6 by decide);obtain ⟨v,hv,ev⟩:=mL (st:=A::B::.lst (iL d)::R) (l:=[.int 1,.int 1,.int (-1),.int 2,.int 3,.int (-2)]) w1 w2;obtain ⟨tm,rfl,Q⟩:∃ tm:Int,v=.int tm/\(tm=1\/tm=-1\/tm=2\/tm=3\/tm=-2):=by
    simp only[zT,zX,or_false]at hv;rcases hv with rfl|rfl|rfl|rfl|rfl|rfl<;>exact⟨_,rfl,by lia⟩
   have n1:∀st,ot .USub st (.int 1)=À (.int (-1)):=fun _=>rfl
   have n2:∀st,ot .USub st (.int 2)=À (.int (-2)):=fun _=>rfl
   obtain⟨L2,F,Z⟩:=jT (P:=fun v=>-(12*((i+1:Nat):Int))<=v/\v<=12*((i+1:Nat):Int)) (ks:=[ao,bq,aP]) (k:=1) (st:=A::B::.lst (iL d)::R) (it:=.r1 (.bi .len (.cons (.v 3) .nil))) (t:=.nm 7) (e:=.bin .Add (.ix (.v 3) (.v 7)) (.bin .Mult (.v 6) (.ix (.v 5) (.v 7)))) (sl:=[Is n,Rs 2,Is z,Ls L,Is (q:Int),Ls M,Is tm]) (N:=2^n-1) (jn (by simp[oQ,hL]) oM) oM fun g hg=>by
    have i1:=tf (st:=A::B::.lst (iL d)::R) (T:=L) (i:=g) oM;have i2:=tf (st:=A::B::.lst (iL d)::R) (T:=M) (i:=g) oM;have b1:=hb _ (hU (T:=L) (q:=g) oM);have b2:=X _ (hU (T:=M) (q:=g) oM);have U:aZ .Mult (A::B::.lst (iL d)::R) (.int tm) (.int (SX.gI M g))=À (.int (tm*SX.gI M g)):=ba (mw (Fj oM));exact⟨[Is n,Rs 2,Is z,Ls L,Is (q:Int),Ls M,Is tm,Is (g:Int)],SX.gI L g+tm*SX.gI M g,by rcases Q with rfl|rfl|rfl|rfl|rfl<;>lia,rfl,by simp[i1,i2,U]⟩
   refine ⟨_,[Is n,Rs 2,Is z,Ls L2,Is (q:Int),Ls M,Is tm],A::B::.lst (iL d)::R,rfl,?_,d,L2,rfl,by lia,W,F.1,F.2,_,_,_,rfl⟩;refine aq (sl':=[Is n,Rs 2,Is z,Ls L,Is (q:Int),Ls M,I]) (st':=A::B::.lst (iL (d++[y]))::R) (by simp [e1,e2,d4]) ?_;refine aq (sl':=[Is n,Rs 2,Is z,Ls L,Is (q:Int),Ls M,Is tm]) (st':=A::B::.lst (iL d)::R) (by simp [n1,n2,iY,d4,d5 (show (0:Int) < 6 by decide),cO,rfs,rf,ev]) ?_;refine aq (sl':=[Is n,Rs 2,Is z,Ls L2,Is (q:Int),Ls M,Is tm]) (st':=A::B::.lst (iL d)::R) (by rw [d7,Z];rfl) rfl
  ·rintro sl s ⟨D',L,rfl,J,w,hL,hb,O,K,I,rfl⟩
   simp only[Ā]at J hb;exact⟨_,rfl,D',L,rfl,hL,fun x m=>by have:=hb x m;lia,w,by lia⟩
 obtain⟨r,e,D',L,rfl,h⟩:=V;exact⟨D',L,e,h⟩
end
section
variable{st:aa}{n:Nat}{r T:List Int}
theorem Jn(p:r.length<=15)(s:T.length=r.length)(m:∀x∈r,x.natAbs<2^9000)(o:∀x∈T,x.natAbs<2^9000):pm bh [.fz (iL r),.fz (iL T)] st=À (.int (val r.length r (gI T)),st):=by
 have e:=f7 (st:=[]) (ks:=[]) (k:=1) (it:=.r1 (.bi .len (.cons (.v 0) .nil))) (t:=.nm 2) (c:=.no) (e:=.bin .Mult (.ix (.v 0) (.v 2)) (.ix (.v 1) (.v 2))) (sl:=[Ls r,Ls T]) (gd:=[]) (em:=fun q:Nat=>AV.int (q:Int)) (xs:=È r.length) (B:=fun _=>Â) (F:=fun q=>AV.int (gI r q*gI T q)) (jn (by simp[oQ]) oM) rfl (by simp;lia) fun q a=>by
  have a:=Ü.mp a;have h:=tf (st:=[]) (T:=r) (i:=q) a;have g:=tf (st:=[]) (T:=T) (i:=q) oM;exact⟨[Ls r,Ls T,Is (q:Int)],rfl,rfl,fun _=>by
   have b:aZ .Mult [] (.int (gI r q)) (.int (gI T q))=À (.int (gI r q*gI T q)):=ba (cq (m _ (hU a)) (o _ (hU (show q<T.length by lia))));simp[h,g,b]⟩
 rw[Ð.mpr (fun _ _=>rfl),show(È r.length).map (fun q=>AV.int (gI r q*gI T q))=iL ((È r.length).map fun q=>gI r q*gI T q) by unfold iL;rw[Ö];rfl]at e;have l:ev [] (.nw Ã (.lc 1 (.r1 (.bi .len (.cons (.v 0) .nil))) (.nm 2) .no (.bin .Mult (.ix (.v 0) (.v 2)) (.ix (.v 1) (.v 2))))) [Ls r,Ls T] []=À (.fz (iL ((È r.length).map fun q=>gI r q*gI T q)),[]):=by
  rw[c7,e,Å,yI bv]
 have j:∀n (f:Nat->Int),((È n).map f).sum=Oj n f:=fun n f=>by
  induction n with
  |zero=>rfl
  |succ n d=>rw[S?,ù,List.sum_append,d];simp[Oj]
 refine bM (by simp[rfs,rf,bv]) (v:=.int (val r.length r (gI T))) (st':=[]) ?_ rfl;rw[bh,aD];show(ai [] jh [Ls r,Ls T] []).bind ay=_;refine aS ?_;simp only[kt,pT,bJ,dg,l,Å,uc,bo,nV,wA,á];rw[j];rfl
theorem sS(c:r.length<=15)(hb:Ac r)(b:T.length=r.length/\∀x∈T,0<=x/\x<=10000000000):∃v:Int,v.natAbs<=10000000000000000000000000000000000/\∀st,pm bh [.fz (iL r),.fz (iL T)] st=À (.int v,st):=by
 have e:∀x∈r,x.natAbs<2^74:=fun x a=>yM (hb x a) dC
 have d:∀x∈T,x.natAbs<2^34:=fun x a=>yM (m:=10000000000) (by have:=b.2 x a;lia) dC
 refine⟨_,?_,fun st=>Jn c b.1 (fun x a=>uf (e x a) dC) fun x a=>uf (d x a) dC⟩;exact z5 (yZ (xa rfl b.1 c e d)) dC
end
section
variable{st:aa}{n g k j:Nat}{A B:Oh}{R:aa}{D T:List Int}
def u9(n:Nat)(z:Gv):Prop:=z.row.length=2^n-1/\Ac z.row/\z.num.natAbs<=10000000000000000000000000000000010
def qJ(z:Gv):ņ:=.tuple [.list (z.row.map î),.str (if z.eq=Â then "=" else ">"),.int z.num]
theorem IT(z:Gv):cC 8 st z.av=À (qJ z):=by
 obtain⟨r,e,m⟩:=z;have:cC 7 st (.fz (iL r))=À (.list (r.map î)):=by show(bn (cC 6 st) _).map _=_;rw[yh];rfl
 show(bn (cC 7 st) [.fz (iL r),_,_]).map _=_;simp only[bn,this,Å];cases e<;>rfl
theorem G6(z:Gv):(qJ z).canLay0=Â:=by
 obtain⟨r,e,m⟩:=z;have:∀l:List Int,ò (l.map î)=Â:=fun l=>by
  induction l with
  |nil=>rfl
  |cons x l c=>simp only[zO,ò,Ĕ,c,Ģ]
 have b:S5 "="=Â:=by decide +kernel
 have a:S5 ">"=Â:=by decide +kernel
 cases e<;>simp[qJ,Ĕ,ò,this,b,a]
theorem Jg{r:Nat}{G:List Gv}(h:st[r]?=À (.lst (G.map Gv.av))):cb .NotEq st (.ref r) (.fz [])=À (!G.isEmpty):=by
 change (j4 st (.ref r) (.fz [])).map (fun b=>!b)=_;have a:cC 9 st (.ref r)=À (.list (G.map qJ)):=by
  unfold cC;have:bn (cC 8 st) (G.map Gv.av)=À (G.map qJ):=eP (f:=cC 8 st) (i:=Gv.av) (g:=qJ) (fun z=>IT z) G;simp only[h,this,á]
 have d:ò (G.map qJ)=Â:=by
  clear h a
  induction G with
  |nil=>rfl
  |cons x l c=>simp only[zO,ò,G6,c,Ģ]
 unfold j4;rw[a,show cC 9 st (.fz [])=À (.list []) from rfl,Å,Å,yI (by
  unfold DD.pyOk;rw[show(Ŵ (G.map qJ)).canLay0=Â by simp only[Ĕ,d],yW (z5 (R8 _ _) dC)];rfl)]
 cases G<;>rfl
theorem Ma{a b:Bool}:cb .Eq st (.str (if a=Â then "=" else ">")) (.str ">")=À (!a):=by cases a<;>kernel_rfl
theorem Bz(hn:eM n)(hD:200<=D.length)(hd:okD D)(hT:T.length=2^n-1/\∀x∈T,0<=x/\x<=10000000000):∃(D':List Int)(G:List Gv)(O:Oh),dF [.int n,.ref 2,.fz (iL T)] [A,B,.lst (iL D)]=À (.fz (G.map Gv.av),[A,B,.lst (iL D'),O])/\G.length<=8/\(∀z∈G,u9 n z)/\okD D'/\D.length<=D'.length+160:=by
 have hN:0<2^n-1/\2^n-1<=15:=by rcases hn with rfl|rfl|rfl|rfl<;>decide
 have Z:∃r,dF [.int n,.ref 2,.fz (iL T)] [A,B,.lst (iL D)]=À r/\∃(D':List Int)(G:List Gv)(O:Oh),r=(.fz (G.map Gv.av),[A,B,.lst (iL D'),O])/\G.length<=8/\(∀z∈G,u9 n z)/\okD D'/\D.length<=D'.length+160:=by
  rw [dF,aD];show ∃ r,(ai [ao,bU,bh] fU [Is n,Rs 2,Ls T,Á,Á,Á,Á,Á,Á] [A,B,.lst (iL D)]).bind ay=À r/\_;unfold fU;refine au (sl':=[Is n,Rs 2,Ls T,Rs 3,Á,Á,Á,Á,Á]) (st':=[A,B,.lst (iL D),.lst (([]:List Gv).map Gv.av)]) rfl ?_;obtain ⟨t,x,rfl⟩:=gB (D:=D) (fun e=>by rw [e] at hD;simp at hD);obtain ⟨hx,hd1⟩:=hd.at;simp only [zV,Ý] at hD ⊢;have p:=iY (A:=A) (B:=B) (R:=[.lst (([]:List Gv).map Gv.av)]) (D:=t) (x:=x);have w1:=Õ x (show (8:Int) ≠ 0 by decide);have w2:=Ñ x (show (0:Int) < 8 by decide);obtain ⟨v,hv,L⟩:=mL (st:=[A,B,.lst (iL t),.lst (([]:List Gv).map Gv.av)]) (l:=[.int 0,.int 1,.int 2,.int 3,.int 4,.int 5,.int 8,.int 2]) w1 w2;obtain ⟨c,rfl,hc⟩:∃ c:Nat,v=.int (c:Int)/\c <= 8:=by
   simp only[zT,zX,or_false]at hv;rcases hv with rfl|rfl|rfl|rfl|rfl|rfl|rfl|rfl
   ·exact⟨0,rfl,by decide⟩
   ·exact⟨1,rfl,by decide⟩
   ·exact⟨2,rfl,by decide⟩
   ·exact⟨3,rfl,by decide⟩
   ·exact⟨4,rfl,by decide⟩
   ·exact⟨5,rfl,by decide⟩
   ·exact⟨8,rfl,by decide⟩
   ·exact⟨2,rfl,by decide⟩
  have it:eB [ao,bU,bh] (.r1 (.ix (.nw Ã (.li (.cons (.i 0) (.cons (.i 1) (.cons (.i 2) (.cons (.i 3) (.cons (.i 4) (.cons (.i 5) (.cons (.i 8) (.cons (.i 2) .nil)))))))))) (.bin .Mod (.ca Ã 0 (.cons (.v 1) .nil)) (.i 8)))) [Is n,Rs 2,Ls T,Rs 3,Á,Á,Á,Á,Á] [A,B,.lst (iL (t++[x])),.lst (([]:List Gv).map Gv.av)]=À (⟨(È c).map fun q:Nat=>AV.int (q:Int),[]⟩,[A,B,.lst (iL t),.lst (([]:List Gv).map Gv.av)]):=by
   have e:ev [ao,bU,bh] (.ix (.nw Ã (.li (.cons (.i 0) (.cons (.i 1) (.cons (.i 2) (.cons (.i 3) (.cons (.i 4) (.cons (.i 5) (.cons (.i 8) (.cons (.i 2) .nil)))))))))) (.bin .Mod (.ca Ã 0 (.cons (.v 1) .nil)) (.i 8))) [Is n,Rs 2,Ls T,Rs 3,Á,Á,Á,Á,Á] [A,B,.lst (iL (t++[x])),.lst (([]:List Gv).map Gv.av)]=À (.int (c:Int),[A,B,.lst (iL t),.lst (([]:List Gv).map Gv.av)]):=by
    simp at p L;simp [p,d5 (show (0:Int) < 8 by decide),L,rfs,rf,cO,d4]
   show(ev _ _ _ _).bind _=_;rw[e];exact jn (ks:=[]) (a:=.i c) (sl:=[]) rfl oM
  refine iX (em:=fun q:Nat=>.int (q:Int)) (xs:=È c) (gd:=[]) (st0:=[A,B,.lst (iL t),.lst (([]:List Gv).map Gv.av)]) (fun i sl s=>∃(D':List Int)(G:List Gv),s=[A,B,.lst (iL D'),.lst (G.map Gv.av)]/\t.length<=D'.length+18*i/\okD D'/\G.length=i/\(∀z∈G,u9 n z)/\∃E C u m j,sl=[Is n,Rs 2,Ls T,Rs 3,E,C,u,m,j]) it (fun _ _ _ _=>rfl) ⟨t,[],rfl,by lia,hd1,rfl,by simp,_,_,_,_,_,rfl⟩ ?_ ?_
  ·rintro i q sl s hq ⟨D',G,rfl,Q,H,W,hz,E,C,u,m,j,rfl⟩
   have hi:i<c:=by have:=(zB.mp hq).1;simpa using this
   obtain⟨d,r,e1,hr,P,F,K⟩:=Cc (A:=A) (B:=B) (R:=[.lst (G.map Gv.av)]) (D:=D') hn oM H;obtain⟨M,z,rfl⟩:=gB (D:=d) (fun e=>by rw[e]at K;simp at K;lia);obtain⟨hz0,hd3⟩:=F.at;simp only[zV,Ý]at K;obtain⟨v,vb,L⟩:=sS (r:=r) (T:=T) oM P ⟨by lia,hT.2⟩;have X:=iY (A:=A) (B:=B) (R:=[.lst (G.map Gv.av)]) (D:=M) (x:=z);obtain⟨S,hS⟩:∃S,S=[A,B,.lst (iL M),.lst (G.map Gv.av)]:=⟨_,rfl⟩;have L:=L S;have f2:aZ .FloorDiv S (.int z) (.int 2)=À (.int (z/2)):=lU rfl dC;have f6:aZ .FloorDiv S (.int z) (.int 6)=À (.int (z/6)):=lU rfl dC;have f48:aZ .FloorDiv S (.int z) (.int 48)=À (.int (z/48)):=lU rfl dC;have m2:aZ .Mod S (.int z) (.int 2)=À (.int (z%2)):=d5 dC;have m3:aZ .Mod S (.int (z/2)) (.int 3)=À (.int (z/2%3)):=d5 dC;have N:aZ .Mod S (.int (z/6)) (.int 8)=À (.int (z/6%8)):=d5 dC;have m9:aZ .Mod S (.int (z/48)) (.int 9)=À (.int (z/48%9)):=d5 dC;have b2:=Int.emod_two_eq z;obtain⟨sg,es⟩:∃sg:Bool,aY S (.fz [.str "=",.str ">"]) (.int (z%2))=À (.str (if sg=Â then "=" else ">")):=by
    rcases b2 with h|h<;>rw[h]
    ·exact⟨Â,rfl⟩
    ·exact⟨Ã,rfl⟩
   obtain⟨Y,V⟩:∃Y:Int,Y=if sg=Â then v else v-z/2%3:=⟨_,rfl⟩
   obtain⟨I,U⟩:∃I:Int,I=if z/6%8=0 then z/48%9-4 else Y:=⟨_,rfl⟩
   have bd:I.natAbs<=10000000000000000000000000000000010:=by
    have:=Õ (z / 48) (show (9:Int) ≠ 0 by decide)
    have:=Ñ (z / 48) (show (0:Int) < 9 by decide)
    have:=Õ (z / 2) (show (3:Int) ≠ 0 by decide)
    have:=Ñ (z / 2) (show (0:Int) < 3 by decide)
    rw[U];split
    ·lia
    ·rw[V];split<;>lia
   refine⟨_,[Is n,Rs 2,Ls T,Rs 3,Is (q:Int),Ls r,Is z,À (.str (if sg=Â then "=" else ">")),Is I],[A,B,.lst (iL M),.lst ((G++[(⟨r,sg,I⟩:Gv)]).map Gv.av)],rfl,?_,M,_,rfl,by lia,hd3,by simp[W],fun z J=>?_,_,_,_,_,_,rfl⟩
   ·refine aq (sl':=[Is n,Rs 2,Ls T,Rs 3,Is (q:Int),Ls r,u,m,j]) (st':=[A,B,.lst (iL (M++[z])),.lst (G.map Gv.av)]) (by simp[e1,d4]) ?_
    refine aq (sl':=[Is n,Rs 2,Ls T,Rs 3,Is (q:Int),Ls r,Is z,m,j]) (st':=S) (by simp[X,d4,hS]) ?_;refine aq (sl':=[Is n,Rs 2,Ls T,Rs 3,Is (q:Int),Ls r,Is z,À (.str (if sg=Â then "=" else ">")),j]) (st':=S) (by simp[m2,es,cO,rfs,rf]) ?_;refine aq (sl':=[Is n,Rs 2,Ls T,Rs 3,Is (q:Int),Ls r,Is z,À (.str (if sg=Â then "=" else ">")),Is v]) (st':=S) (by simp[L]) ?_;refine aq (sl':=[Is n,Rs 2,Ls T,Rs 3,Is (q:Int),Ls r,Is z,À (.str (if sg=Â then "=" else ">")),Is Y]) (st':=S) ?_ ?_
    ·have e:=Ma (st:=S) (a:=sg) (b:=Â)
     generalize (AV.str (if sg=Â then "=" else ">"))=w at e;rw[V];cases sg<;>simp[e,f2,m3]
    refine aq (sl':=[Is n,Rs 2,Ls T,Rs 3,Is (q:Int),Ls r,Is z,À (.str (if sg=Â then "=" else ">")),Is I]) (st':=S) ?_ ?_
    ·rw[U]
     by_cases h:z/6%8=0
     ·simp[f6,N,h,f48,m9]
     ·simp[f6,N,h]
    have ap:=jG (ks:=[ao,bU,bh]) (a:=.v 3) (e:=.tu (.cons (.v 5) (.cons (.v 7) (.cons (.v 8) .nil)))) (y:=(⟨r,sg,I⟩:Gv).av) (k:=3) (xs:=G.map Gv.av) (sl:=[Is n,Rs 2,Ls T,Rs 3,Is (q:Int),Ls r,Is z,À (.str (if sg=Â then "=" else ">")),Is I]) (st:=[A,B,.lst (iL M),.lst (G.map Gv.av)]) rfl rfl rfl (by simp;lia);rw[hS];refine aq ap ?_;show À _=À _;simp
   ·rcases zZ.mp J with h|h
    ·exact hz z h
    ·rw[zM.mp h];exact⟨hr,P,bd⟩
  ·rintro sl s ⟨D',G,rfl,Q,H,W,hz,E,C,u,m,j,rfl⟩
   simp only[Ā]at Q W;have o:∀(d:List Int)(g:List Gv),g.length<=100->(∀z∈g,u9 n z)->okD d->t.length+1<=d.length+160->∃r,(ai [ao,bU,bh] (.cons (.rt (.nw Ã (.sl (.v 3) .no (.so (.i 8))))) .nil) [Is n,Rs 2,Ls T,Rs 3,E,C,u,m,j] [A,B,.lst (iL d),.lst (g.map Gv.av)]).bind ay=À r/\∃(D':List Int)(G:List Gv)(O:Oh),r=(.fz (G.map Gv.av),[A,B,.lst (iL D'),O])/\G.length<=8/\(∀z∈G,u9 n z)/\okD D'/\t.length+1<=D'.length+160:=fun d g hG' J h1 h2=>by
    refine fX (v:=.fz ((g.take 8).map Gv.av)) (st':=[A,B,.lst (iL d),.lst (g.map Gv.av)]) ?_ ⟨d,g.take 8,_,rfl,by rw[ī];lia,fun z hz=>J z (Ź hz),h1,h2⟩;have cu:cut (g.map Gv.av) Á (À 8)=(g.take 8).map Gv.av:=by
     unfold cut;rw[HT.sIx_none,show(8:Int)=((8:Nat):Int) from rfl,HT.sIx_nat,zH,Ņ,Ų,U!];rcases z? 8 g.length with h|h
     ·rw[b! h]
     ·rw[Nat.min_eq_right h,ô (by simp),ô (by simpa using h)]
    have l3:bI [A,B,.lst (iL d),.lst (g.map Gv.av)] (.ref 3)=À (g.map Gv.av):=bH rfl;have rr:rfs ((g.take 8).map Gv.av)=Â:=gM _;simp[-List.map_take,mS,mQ,Gz,l3,cu,rr]
   have ne:=Jg (st:=[A,B,.lst (iL D'),.lst (G.map Gv.av)]) (r:=3) (G:=G) rfl;cases G with
   |nil =>
    refine au (sl':=[Is n,Rs 2,Ls T,Rs 3,E,C,u,m,j]) (st':=[A,B,.lst (iL D'),.lst (([]:List Gv).map Gv.av)]) ?_ (o D' [] (by simp) (by simp) H oM);simp at ne;simp[ne,cO]
   |cons f G =>
    obtain⟨d,y,rfl⟩:=gB (D:=D') (fun e=>by rw[e]at Q;simp at Q;lia);obtain⟨hy,F⟩:=H.at;simp only[zV,Ý]at Q;have X:=iY (A:=A) (B:=B) (R:=[.lst ((f::G).map Gv.av)]) (D:=d) (x:=y);have N:aZ .Mod [A,B,.lst (iL d),.lst ((f::G).map Gv.av)] (.int y) (.int 8)=À (.int (y%8)):=d5 dC;have tt:tv [ao,bU,bh] (.an (.cmp .NotEq (.v 3) (.nw Ã (.li .nil))) (.cmp .Eq (.bin .Mod (.ca Ã 0 (.cons (.v 1) .nil)) (.i 8)) (.i 0))) [Is n,Rs 2,Ls T,Rs 3,E,C,u,m,j] [A,B,.lst (iL (d++[y])),.lst ((f::G).map Gv.av)]=À (decide (y%8=0),[A,B,.lst (iL d),.lst ((f::G).map Gv.av)]):=by
     generalize (f::G).map Gv.av=GG at ne X N;simp[ne,X,d4,N,cO]
    by_cases h8:y%8=0
    ·refine au (sl':=[Is n,Rs 2,Ls T,Rs 3,E,C,u,m,j]) (st':=[A,B,.lst (iL d),.lst ((f::G++[f]).map Gv.av)]) ?_ (o d (f::G++[f]) (by simp at W ⊢;lia) (fun z h=>by
      rcases zZ.mp h with h|h
      ·exact hz z h
      ·rw[zM.mp h];exact hz f z7) F oM)
     have ap:=jG (ks:=[ao,bU,bh]) (a:=.v 3) (e:=.ix (.v 3) (.i 0)) (y:=f.av) (k:=3) (xs:=(f::G).map Gv.av) (sl:=[Is n,Rs 2,Ls T,Rs 3,E,C,u,m,j]) (st:=[A,B,.lst (iL d),.lst ((f::G).map Gv.av)]) rfl (by
      have:aY [A,B,.lst (iL d),.lst ((f::G).map Gv.av)] (.ref 3) (.int 0)=À f.av:=by
       rw[cU (bH (xs:=(f::G).map Gv.av) rfl),show(0:Int)=((0:Nat):Int) from rfl,cG];rfl
      simp only[pR,gO,oq,fb,fE,Å,this,á]) rfl (by simp at W ⊢;lia)
     rw[eJ,tt,Å,yW h8];show ai _ _ _ _=_;refine aq ap ?_;show À _=À _;simp
    ·refine au (sl':=[Is n,Rs 2,Ls T,Rs 3,E,C,u,m,j]) (st':=[A,B,.lst (iL d),.lst ((f::G).map Gv.av)]) ?_ (o d (f::G) oM hz F oM)
     rw[eJ,tt,Å,yA h8];rfl
 obtain⟨r,e,D',G,O,rfl,h⟩:=Z;exact⟨D',G,O,e,h⟩
end
section
variable{st:aa}{n g k j:Nat}{A B:Oh}{D T:List Int}{ns:List Int}
theorem v8(c:ns.length<=63):∃(n:Nat)(T:List Int)(G:List Gv)(goal D:List Int)(A B O:Oh),dJ [.fz (iL ns)] []=À (.tup [.int n,.fz (iL T),.fz (G.map Gv.av),.fz (iL goal),.ref 2],[A,B,.lst (iL D),O])/\eM n/\G.length<=8/\(∀z∈G,u9 n z)/\goal.length=2^n-1/\Ac goal/\okD D/\100<=D.length/\T.length=2^n-1/\∀x∈T,0<=x/\x<=10000000000:=by
 obtain ⟨A,B,D,F,i,hd⟩:=EB c;obtain ⟨a,x,rfl⟩:=gB (D:=D) (fun z=>by rw [z] at i;cases i);have hd:okD (a++[x]):=hd;obtain ⟨I,h⟩:=hd.at;simp only [zV,Ý] at i;have p:=iY (A:=A) (B:=B) (R:=[]) (D:=a) (x:=x);have w1:=Õ x (show (8:Int) ≠ 0 by decide);have w2:=Ñ x (show (0:Int) < 8 by decide);obtain ⟨v,j,q⟩:=mL (st:=[A,B,.lst (iL a)]) (l:=[.int 1,.int 2,.int 2,.int 3,.int 3,.int 3,.int 3,.int 4]) w1 w2;obtain ⟨n,rfl,b⟩:∃ n:Nat,v=.int (n:Int)/\eM n:=by
  unfold eM;simp only[zT,zX,or_false]at j;rcases j with rfl|rfl|rfl|rfl|rfl|rfl|rfl|rfl
  ·exact⟨1,rfl,by decide⟩
  ·exact⟨2,rfl,by decide⟩
  ·exact⟨2,rfl,by decide⟩
  ·exact⟨3,rfl,by decide⟩
  ·exact⟨3,rfl,by decide⟩
  ·exact⟨3,rfl,by decide⟩
  ·exact⟨3,rfl,by decide⟩
  ·exact⟨4,rfl,by decide⟩
 obtain ⟨o,T,E,k,g,t⟩:=uQ (A:=A) (B:=B) (R:=[]) (D:=a) b oM h;obtain ⟨m,G,O,C,w,hz,f,s⟩:=Bz (A:=A) (B:=B) (D:=o) b oM g k;obtain ⟨H,goal,y,u,d,e,r⟩:=Cc (A:=A) (B:=B) (R:=[O]) (D:=m) b oM f;refine ⟨n,T,G,goal,H,A,B,O,?_,b,w,hz,u,d,e,by lia,k⟩;rw [dJ,aD];show (ai [fe,ao,cY,dF,bU] eO [Ls ns,Á,Á,Á,Á] []).bind ay=_;unfold eO;refine ae (sl':=[Ls ns,Rs 2,Á,Á,Á]) (st':=[A,B,.lst (iL (a++[x]))]) (by simp [F,d4]) ?_;refine ae (sl':=[Ls ns,Rs 2,Is n,Á,Á]) (st':=[A,B,.lst (iL a)]) (by simp [p,d4,d5 (show (0:Int) < 8 by decide),q,cO,rfs,rf]) ?_;refine ae (sl':=[Ls ns,Rs 2,Is n,Ls T,Á]) (st':=[A,B,.lst (iL o)]) (by simp [E,d4]) ?_;refine ae (sl':=[Ls ns,Rs 2,Is n,Ls T,Zs (G.map Gv.av)]) (st':=[A,B,.lst (iL m),O]) (by simp [C,d4]) ?_;refine aS ?_;simp [y,d4]
end
section
variable{st:aa}{n w:Nat}{RR:List (List Int)}{W r:List Int}{K N:Int}{G gv:List Gv}{goal:List Int}{p:Nat}
theorem kz(Z:Sz w RR gv goal){x:Nat}(d:x<RR.length+gv.length):∃c,(ah RR gv goal)[x]?=À ((RR++gv.map Gv.row).getD x []++[c])/\((RR++gv.map Gv.row).getD x []).length=w/\(x<RR.length->c=0)/\∀y,x=RR.length+y->∃z,gv[y]?=À z/\c=- z.num:=by
 by_cases h:x<RR.length
 ·refine⟨0,?_,?_,fun _=>rfl,fun y e=>by lia⟩
  ·rw[j9 h,zD,zN h,zF h];rfl
  ·rw[zD,zN h,zF h];exact Z.r _ (Ó h)
 ·obtain⟨y,rfl⟩:∃y,x=RR.length+y:=⟨x-RR.length,by lia⟩
  have a:y<gv.length:=by lia
  have e:(RR++gv.map Gv.row).getD (RR.length+y) []=gv[y].row:=by
   rw[zD,z6 oM,ñ,zR,zF a];rfl
  rw[e];refine⟨- gv[y].num,iU (zF a),Z.g _ (Ó a),fun h=>by lia,fun b e=>?_⟩;have:y=b:=by lia
  subst this;exact⟨_,zF a,rfl⟩
theorem HK(Z:Sz w RR gv goal)(C:Ct w RR gv goal W K N)(b:p<w):(Oj (RR.length+gv.length) fun x=>gI W x*gI ((RR++gv.map Gv.row).getD x []) p)=K*gI goal p:=by
 have u:∀r:List Int,val w r (fun i=>if i=p then 1 else 0)=gI r p:=fun r=>by
  unfold val;rw[SX.sum_one b fun i _ h=>by show gI r i*(if i=p then 1 else 0)=0;rw[yH h,yP]];show gI r p*(if p=p then 1 else 0)=_;rw[yI rfl,ϲ]
 have h:=C.id (fun i=>if i=p then 1 else 0) 0;rw[u,yP,W9]at h;rw[<- h];refine SX.sum_congr fun x a=>?_
 obtain⟨c,e,d,_⟩:=kz Z a;rw[cP e d,u,yP,ê]
theorem HM(Z:Sz w RR gv goal)(C:Ct w RR gv goal W K N):(Oj gv.length fun y=>gI W (RR.length+y)*(gv.getD y ⟨[],Â,0⟩).num)=N:=by
 have u:∀r:List Int,val w r (fun _=>0)=0:=fun r=>SX.sum_zero fun _ _=>yP _
 have h:=C.id (fun _=>0) 1;rw[u,ii,SX.sum_zero fun x d=>by
  obtain⟨c,b,a,f,_⟩:=kz Z (x:=x) oM;rw[cP b a,u,f d,yQ,ê,yP],SX.sum_congr (g:=fun y=>(-1)*(gI W (RR.length+y)*(gv.getD y ⟨[],Â,0⟩).num)) fun y i=>by
  obtain⟨c,b,a,_,e⟩:=kz Z (x:=RR.length+y) oM;obtain⟨z,hz,rfl⟩:=e y rfl;rw[cP b a,u,zD,hz];show _*(0+- z.num*1)=-1*(_*z.num)
  grind,SX.sum_mul]at h
 lia
end
section
variable{st:aa}{n w:Nat}{X W r goal:List Int}{G gv:List Gv}{D K N:Int}
theorem wT{α:Type}{f:α->Bool}{l:List α}:bo uh [.fz (l.map fun x=>AV.bl (f x))] st=À (.bl (l.all f),st):=by
 have:bn ox (l.map fun x=>AV.bl (f x))=À (l.map f):=eP (f:=ox) (i:=fun x=>AV.bl (f x)) (g:=f) (fun _=>rfl) l;show(((bn ox (l.map fun x=>AV.bl (f x))).map fun bs=>AV.bl (bs.all id)).map fun z=>(z,st))=_;rw[this];show À (AV.bl ((l.map f).all id),st)=_;rw[List.all_map];rfl
theorem wP{α:Type}{f:α->Bool}{l:List α}:rfs (l.map fun x=>AV.bl (f x))=Â:=eD fun x a=>by obtain⟨i,_,rfl⟩:=yD.mp a;rfl
def u0(n:Nat):Bool:=match (cQ [.int n] []).bind fun p=>fj p.2 p.1 with
 |some (.fz L)=>decide (L.length=(aE n).length)&&rfs L
 |_=>Ã
def vf(n:Nat):Bool:=match (fc [.int n] []).bind fun p=>fj p.2 p.1 with
 |some (.fz L)=>decide (L.length=(aE n).length)
 |_=>Ã
theorem Ft:(u0 1&&u0 2&&u0 3&&u0 4)=Â:=by kernel_rfl
theorem G1:(vf 1&&vf 2&&vf 3&&vf 4)=Â:=by kernel_rfl
theorem uY(a:eM n):∃L,(∀st,pm cQ [.int n] st=À (.fz L,st))/\L.length=(aE n).length/\rfs L=Â:=by
 have h:u0 n=Â:=by
  have:=Ft
  simp only[zC]at this;rcases a with rfl|rfl|rfl|rfl
  ·exact this.1.1.1
  ·exact this.1.1.2
  ·exact this.1.2
  ·exact this.2
 unfold u0 at h;split at h
 ·rename_i L e
  rw[zC]at h;exact⟨L,fun st=>dy rfl e,of_decide_eq_true h.1,h.2⟩
 ·cases h
theorem Bn(a:eM n):∃L,(∀st,pm fc [.int n] st=À (.fz L,st))/\L.length=(aE n).length:=by
 have h:vf n=Â:=by
  have:=G1
  simp only[zC]at this;rcases a with rfl|rfl|rfl|rfl
  ·exact this.1.1.1
  ·exact this.1.1.2
  ·exact this.1.2
  ·exact this.2
 unfold vf at h;split at h
 ·rename_i L e
  exact⟨L,fun st=>dy rfl e,of_decide_eq_true h⟩
 ·cases h
theorem sA(b:eM n):(∀st,pm ax [.int n] st=À (.fz (aj (aE n)),st))/\(∀st,pm af [.int n] st=À (.int (2^n-1:Nat),st))/\(∀l∈aE n,l.length=2^n-1/\∀x∈l,x.natAbs<2^9000)/\(aE n).length<=100/\2^n-1<=15:=by
 have d:∀l∈aE n,l.length=2^n-1/\∀x∈l,x.natAbs<=1:=by rcases b with rfl|rfl|rfl|rfl<;>decide +kernel
 have a:∀l∈aE n,l.length=2^n-1/\∀x∈l,x.natAbs<2^9000:=fun l c=>⟨(d l c).1,fun x e=>yM ((d l c).2 x e) (O8 dC)⟩
 rcases b with rfl|rfl|rfl|rfl
 ·exact⟨Lc,Ll,a,by decide,by decide⟩
 ·exact⟨Lb,Lk,a,by decide,by decide⟩
 ·exact⟨La,Lj,a,by decide,by decide⟩
 ·exact⟨K9,Li,a,by decide,by decide⟩
def kR(n:Nat)(X:List Int):Bool:=(aE n).all fun r=>decide (0<=val (2^n-1) r (gI X))
theorem Ep(f:eM n)(g:X.length=2^n-1)(h:∀x∈X,x.natAbs<2^9000):pm db [.int n,.fz (iL X)] st=À (.bl (kR n X),st):=by
 obtain⟨i,_,b,j,d⟩:=sA f;have c:=f7 (st:=[]) (ks:=[ax,dD]) (k:=1) (it:=.e (.ca Â 0 (.cons (.v 0) .nil))) (t:=.nm 2) (c:=.no) (e:=.cmp .GtE (.ca Â 1 (.cons (.v 2) (.cons (.v 1) .nil))) (.i 0)) (sl:=[Is n,Ls X]) (gd:=[]) (em:=fun r:List Int=>AV.fz (iL r)) (xs:=aE n) (B:=fun _=>Â) (F:=fun r=>AV.bl (decide (0<=val (2^n-1) r (gI X)))) (by
  rw[show(aE n).map (fun r:List Int=>AV.fz (iL r))=aj (aE n) from rfl];simp[i]) rfl oM fun r a=>by
   have v:=mr (st:=[]) (b r a).1 g d (b r a).2 h;exact⟨[Is n,Ls X,Ls r],rfl,rfl,fun _=>by simp[v]⟩
 rw[Ð.mpr (fun _ _=>rfl)]at c;refine bM (by simp[rfs,rf,bv]) (v:=.bl (kR n X)) (st':=[]) ?_ rfl;rw[db,aD];show(ai [ax,dD] iC [Is n,Ls X] []).bind ay=_;refine aS ?_;rw[kt,pT,bJ,c7,c,Å,yI wP];simp only[Å,dg,á,ud,wT];rfl
def kG(w:Nat)(X:List Int)(D:Int)(z:Gv):Bool:=decide (val w z.row (gI X)=z.num*D)||(!z.eq&&decide (z.num*D<val w z.row (gI X)))
theorem Er{z:Gv}(p:w<=15)(hz:z.row.length=w/\(∀x∈z.row,x.natAbs<2^9000)/\z.num.natAbs<2^9000)(s:X.length=w)(l:(∀x∈X,x.natAbs<2^9000)/\D.natAbs<2^9000):pm de [z.av,.fz (iL X),.int D] st=À (.bl (kG w X D z),st):=by
 obtain⟨r,b,a⟩:=z;obtain⟨j,i,f⟩:=hz;dsimp only at j i f;have o:=mr (st:=[]) j s p i l.1;have n:aZ .Mult [] (.int a) (.int D)=À (.int (a*D)):=ba (cq f l.2);have k:cb .Eq [] (.str (if b=Â then "=" else ">")) (.str ">")=À (!b):=by cases b<;>kernel_rfl
 unfold kG;dsimp only;generalize val w r (gI X)=v at *;generalize a*D=m at *;refine bM (by simp[rfs,rf,Gv.av,bv]) (v:=.bl (decide (v=m)||(!b&&decide (m<v)))) (st':=[]) ?_ rfl;rw[de,aD];show(ai [dD] fQ [À (Gv.av ⟨r,b,a⟩),Ls X,Is D,Á,Á] []).bind ay=_;have e:aY [] (Gv.av ⟨r,b,a⟩) (.int 0)=À (.fz (iL r)):=rfl;have c:aY [] (Gv.av ⟨r,b,a⟩) (.int 1)=À (.str (if b=Â then "=" else ">")):=rfl;have d:aY [] (Gv.av ⟨r,b,a⟩) (.int 2)=À (.int a):=rfl;obtain⟨u,q⟩:∃u,u=AV.str (if b=Â then "=" else ">"):=⟨_,rfl⟩;rw[<- q]at k c;obtain⟨g,t⟩:∃g,g=Gv.av ⟨r,b,a⟩:=⟨_,rfl⟩;rw[<- t]at e c d ⊢;unfold fQ;refine ae (sl':=[À g,Ls X,Is D,Is v,Á]) (st':=[]) (by simp[e,o]) ?_;refine ae (sl':=[À g,Ls X,Is D,Is v,Is m]) (st':=[]) (by simp[d,n]) (aS ?_);by_cases h:v=m
 ·simp[h]
 ·cases b<;>simp[h,c,k]
end
section
variable{st:aa}{n w:Nat}{X W r goal:List Int}{G gv:List Gv}{D K N:Int}
def jR(w:Nat)(G:List Gv):Prop:=G.length<=100/\∀z∈G,z.row.length=w/\(∀x∈z.row,x.natAbs<2^9000)/\z.num.natAbs<2^9000
def kA(n:Nat)(G:List Gv)(X:List Int)(D:Int):Bool:=decide (0<D)&&(kR n X&&G.all (kG (2^n-1) X D))
theorem kA_iff:kA n G X D=Â ↔ 0<D/\Kp (2^n-1) (aE n) G (gI X) D:=by
 unfold kA kR;simp only[zC,yC,yR];refine and_congr_right fun _=>⟨fun⟨c,b⟩=>⟨c,fun z hz a=>?_,fun z hz a=>?_⟩,fun h=>⟨h.rule,fun z hz=>?_⟩⟩
 ·have:=b z hz
  unfold kG at this;simpa [a] using this
 ·have:=b z hz
  unfold kG at this;simp[a]at this;lia
 ·unfold kG
  cases a:z.eq with
  |true=>simp[h.eq z hz a]
  |false =>
   have:=h.ge z hz a
   simp;lia
theorem qa(f:eM n)(g:jR (2^n-1) G)(b:X.length=2^n-1)(j:(∀x∈X,x.natAbs<2^9000)/\D.natAbs<2^9000):pm cE [.int n,.fz (G.map Gv.av),.tup [.fz (iL X),.int D]] st=À (.bl (kA n G X D),st):=by
 obtain⟨_,d,_,_,q⟩:=sA f;have d:=d [];have m:=Ep (st:=[]) f b j.1;obtain⟨t,a⟩:∃t,t=AV.tup [.fz (iL X),.int D]:=⟨_,rfl⟩;have p:aY [] t (.int 0)=À (.fz (iL X)):=by rw[a];rfl
 have o:aY [] t (.int 1)=À (.int D):=by rw[a];rfl
 rw[<- a];have c:=f7 (st:=[]) (ks:=[db,af,de]) (k:=1) (it:=.e (.v 1)) (t:=.nm 5) (c:=.no) (e:=.ca Â 2 (.cons (.v 5) (.cons (.v 3) (.cons (.v 4) .nil)))) (sl:=[Is n,Zs (G.map Gv.av),À t,Ls X,Is D]) (gd:=[]) (em:=Gv.av) (xs:=G) (B:=fun _=>Â) (F:=fun z=>AV.bl (kG (2^n-1) X D z)) rfl rfl (by have:=g.1;lia) fun z hz=>by
  have v:=Er (st:=[]) q (g.2 z hz) b j;exact⟨[Is n,Zs (G.map Gv.av),À t,Ls X,Is D,À z.av],rfl,rfl,fun _=>by simp[v]⟩
 rw[Ð.mpr (fun _ _=>rfl)]at c;have l:bo dB [.fz (iL X)] []=À (.int (2^n-1:Nat),[]):=by rw[oQ,b]
 refine bM (by rw[a];simp[rfs,rf,gM,bv]) (v:=.bl (kA n G X D)) (st':=[]) ?_ rfl;rw[cE,aD];show(ai [db,af,de] ic [Is n,Zs (G.map Gv.av),À t,Á,Á] []).bind ay=_;unfold ic;refine ae (sl':=[Is n,Zs (G.map Gv.av),À t,Ls X,Á]) (st':=[]) (by simp[p]) ?_;refine ae (sl':=[Is n,Zs (G.map Gv.av),À t,Ls X,Is D]) (st':=[]) (by simp[o]) ?_;have i:tv [db,af,de] (.or (.cmp .Lt (.v 4) (.i 1)) (.or (.cmp .NotEq (.bi .len (.cons (.v 3) .nil)) (.ca Â 1 (.cons (.v 0) .nil))) (.no (.va (.ca Â 0 (.cons (.v 0) (.cons (.v 3) .nil))))))) [Is n,Zs (G.map Gv.av),À t,Ls X,Is D] []=À (!(decide (0<D)&&kR n X),[]):=by
  generalize kR n X=k at *;generalize (((2^n-1:Nat)):Int)=y at *;by_cases h:D<1
  ·have:¬0<D:=by lia
   simp[h,this]
  ·have:0<D:=by lia
   simp[h,this,l,d,m,ie]
 by_cases h:(decide (0<D)&&kR n X)=Â
 ·refine ae (sl':=[Is n,Zs (G.map Gv.av),À t,Ls X,Is D]) (st':=[]) (by rw[eJ,i,h];rfl) (aS ?_)
  rw[kt,pT,bJ,c7,c,Å,yI wP];simp only[Å,dg,á,ud,wT];unfold kA;rw[zC]at h;rw[h.1,h.2];rfl
 ·rw[Bool.not_eq_true]at h
  have e:kA n G X D=Ã:=by
   unfold kA;rw[<- Bool.and_assoc,h];rfl
  rw[e];exact aS (by rw[eJ,i,h];rfl)
end
section
variable{st:aa}{n w:Nat}{X W r goal:List Int}{G gv:List Gv}{D K N:Int}
theorem rX{α a:Type}{f:α->AV}{g:a->AV}{l:List α}{m:List a}:((l.map f).zip (m.map g)).map (fun z=>AV.tup [z.1,z.2])=(l.zip m).map fun z=>.tup [f z.1,g z.2]:=by
 rw[V?,Ö];rfl
noncomputable def fG(b:Bool):AV:=.str (if b=Â then "=" else ">")
def sgn(n:Nat)(G:List Gv):List Bool:=Æ (aE n).length Ã++G.map Gv.eq
def aW(n:Nat)(G:List Gv)(W:List Int):Bool:=(W.zip (sgn n G)).all fun z=>decide (0<=z.1)||z.2
theorem vW{l:List Bool}:rfs (l.map fG)=Â:=eD fun x a=>by obtain⟨i,_,rfl⟩:=yD.mp a;rfl
theorem Ad(g:eM n)(r:jR (2^n-1) G)(y:W.length=(aE n).length+G.length):pm df [.int n,.fz (G.map Gv.av),.fz (iL W)] st=À (.bl (aW n G W),st):=by
 obtain⟨L,f,m,C⟩:=uY g;have f:=f [];obtain⟨_,_,_,A,_⟩:=sA g;have x:=r.1;have l:=f7 (st:=[]) (ks:=[cQ]) (k:=1) (it:=.e (.ca Â 0 (.cons (.v 0) .nil))) (t:=.nm 4) (c:=.no) (e:=.s ">") (sl:=[Is n,Zs (G.map Gv.av),Ls W,Á]) (gd:=[]) (em:=id) (xs:=L) (B:=fun _=>Â) (F:=fun _=>fG Ã) (by simp[f]) rfl oM fun z hz=>⟨_,rfl,rfl,fun _=>rfl⟩
 rw[Ð.mpr (fun _ _=>rfl),ϰ,m,show Æ (aE n).length (fG Ã)=(Æ (aE n).length Ã).map fG by rw[M!]]at l;have j:=f7 (st:=[]) (ks:=[cQ]) (k:=3) (it:=.e (.v 1)) (t:=.tu 3 (.cons (.nm 4) (.cons (.nm 5) (.cons (.nm 6) .nil)))) (c:=.no) (e:=.v 5) (sl:=[Is n,Zs (G.map Gv.av),Ls W,Á]) (gd:=[]) (em:=Gv.av) (xs:=G) (B:=fun _=>Â) (F:=fun z=>fG z.eq) rfl rfl oM fun z hz=>⟨[Is n,Zs (G.map Gv.av),Ls W,Á,Ls z.row,À (fG z.eq),Is z.num],rfl,rfl,fun _=>rfl⟩
 rw[Ð.mpr (fun _ _=>rfl),show G.map (fun z=>fG z.eq)=(G.map Gv.eq).map fG by rw[Ö];rfl]at j;have q:(sgn n G).length=W.length:=by unfold sgn;simp;lia
 have d:=fun u s=>show ev [cQ] (.nw Ã (.cat u s)) [Is n,Zs (G.map Gv.av),Ls W,Á] []=_ from c7
 have w:ev [cQ] (.nw Ã (.cat (.nw Ã (.lc 1 (.e (.ca Â 0 (.cons (.v 0) .nil))) (.nm 4) .no (.s ">"))) (.nw Ã (.lc 3 (.e (.v 1)) (.tu 3 (.cons (.nm 4) (.cons (.nm 5) (.cons (.nm 6) .nil)))) .no (.v 5))))) [Is n,Zs (G.map Gv.av),Ls W,Á] []=À (.fz ((sgn n G).map fG),[]):=by
  rw [c7,oF];unfold p7;rw [c7,l,Å,yI vW,Å,c7,j,Å,yI vW,Å];simp only [eN,Å];rw [yI (ce (by simp;lia)),Å,<- ù,yI (show rfs ((Æ (aE n).length Ã++G.map Gv.eq).map fG)=Â from vW)];rfl
 have a:∀b,cb .Eq [] (fG b) (.str "=")=À b:=fun b=>by cases b<;>kernel_rfl
 have i:=f7 (st:=[]) (ks:=[cQ]) (k:=2) (it:=.zi (.v 2) (.v 3)) (t:=.tu 2 (.cons (.nm 4) (.cons (.nm 5) .nil))) (c:=.no) (e:=.or (.cmp .GtE (.v 4) (.i 0)) (.cmp .Eq (.v 5) (.s "="))) (sl:=[Is n,Zs (G.map Gv.av),Ls W,Zs ((sgn n G).map fG)]) (gd:=[]) (em:=fun z:Int×Bool=>AV.tup [.int z.1,fG z.2]) (xs:=W.zip (sgn n G)) (B:=fun _=>Â) (F:=fun z=>AV.bl (decide (0<=z.1)||z.2)) (by
  rw[<- rX];rfl) rfl (by rw[Ă];lia) fun z hz=>⟨[Is n,Zs (G.map Gv.av),Ls W,Zs ((sgn n G).map fG),Is z.1,À (fG z.2)],rfl,rfl,fun _=>by
   have:=a z.2
   by_cases h:0<=z.1<;>simp[h,this]⟩
 rw[Ð.mpr (fun _ _=>rfl)]at i;have p:bo dB [.fz (iL W)] []=À (.int (W.length:Nat),[]):=oQ;have o:bo dB [.fz ((sgn n G).map fG)] []=À (.int (W.length:Nat),[]):=by
  show À (AV.int (((sgn n G).map fG).length:Int),_)=_;rw[zH,q]
 refine bM (by simp[rfs,rf,gM,bv]) (v:=.bl (aW n G W)) (st':=[]) ?_ rfl;rw[df,aD];show(ai [cQ] fR [Is n,Zs (G.map Gv.av),Ls W,Á] []).bind ay=_;unfold fR;refine ae (sl':=[Is n,Zs (G.map Gv.av),Ls W,Zs ((sgn n G).map fG)]) (st':=[]) (by rw[d7,w];rfl) ?_;refine ae (sl':=[Is n,Zs (G.map Gv.av),Ls W,Zs ((sgn n G).map fG)]) (st':=[]) (by simp[p,o]) (aS ?_);rw[kt,pT,bJ,c7,i,Å,yI wP];simp only[Å,dg,á,ud,wT];rfl
def jm(n:Nat)(G:List Gv):List (List Int):=aE n++G.map Gv.row
def cR(n:Nat)(G:List Gv)(W:List Int)(k:Nat):List Int:=(È (2^n-1)).map fun p=>Oj k fun x=>gI W x*gI ((jm n G).getD x []) p
theorem xH(V:eM n)(u:jR (2^n-1) G)(Y:W.length=(aE n).length+G.length)(bW:∀x∈W,x.natAbs<2^9000):pm c9 [.int n,.fz (G.map Gv.av),.fz (iL W)] st=À (.fz (iL (cR n G W W.length)),st):=by
 obtain⟨w,A,h1,hR,hw⟩:=sA V;have w:=w [];have A:=A [];have hg:=u.1;obtain⟨L,hL⟩:∃L,L=jm n G:=⟨_,rfl⟩;have S:L.length=W.length:=by rw[hL,Y];unfold jm;simp
 have bL:∀l∈L,l.length=2^n-1/\∀x∈l,x.natAbs<2^9000:=fun l b=>by
  rw[hL]at b;rcases zZ.mp b with h|h
  ·exact h1 l h
  ·obtain⟨z,H,rfl⟩:=yD.mp h
   exact⟨(u.2 z H).1,(u.2 z H).2.1⟩
 have K:∀L:List (List Int),rfs (aj L)=Â:=fun L=>eD fun x T=>by
  obtain⟨l,_,rfl⟩:=yD.mp T;simp[rf,bv]
 have C:∀L:List (List Int),(aj L).length=L.length:=fun L=>by unfold aj;simp
 have N:=f7 (st:=[]) (ks:=[ax,af]) (k:=3) (it:=.e (.v 1)) (t:=.tu 3 (.cons (.nm 7) (.cons (.nm 8) (.cons (.nm 9) .nil)))) (c:=.no) (e:=.v 7) (sl:=[Is n,Zs (G.map Gv.av),Ls W,Á,Á,Á,Á]) (gd:=[]) (em:=Gv.av) (xs:=G) (B:=fun _=>Â) (F:=fun z=>AV.fz (iL z.row)) rfl rfl oM fun z hz=>⟨[Is n,Zs (G.map Gv.av),Ls W,Á,Á,Á,Á,Ls z.row,À (fG z.eq),Is z.num],rfl,rfl,fun _=>rfl⟩
 rw[Ð.mpr (fun _ _=>rfl),show G.map (fun z=>AV.fz (iL z.row))=aj (G.map Gv.row) by unfold aj;rw[Ö];rfl]at N;have d1:ev [ax,af] (.nw Ã (.cat (.ca Â 0 (.cons (.v 0) .nil)) (.nw Ã (.lc 3 (.e (.v 1)) (.tu 3 (.cons (.nm 7) (.cons (.nm 8) (.cons (.nm 9) .nil)))) .no (.v 7))))) [Is n,Zs (G.map Gv.av),Ls W,Á,Á,Á,Á] []=À (.fz (aj L),[]):=by
  rw[c7,oF];unfold p7;simp only[km,bJ,dg,gO,fb,fE,Å,á,rq,lA,ly,w];rw[c7,N,Å,yI (K _),Å];simp only[eN,Å];rw[yI (ce (by rw[C,C,zH];lia)),Å,show aj (aE n)++aj (G.map Gv.row)=aj L by rw[hL];unfold aj jm;rw[ù],yI (K _)]
 have d:∀k,(cR n G W k).length=2^n-1:=fun k=>by unfold cR;simp
 have J:∀k p,p<2^n-1->gI (cR n G W k) p=Oj k fun x=>gI W x*gI (L.getD x []) p:=fun k p a=>by
  unfold cR gI;rw[zD,zR,ĵ a,hL];rfl
 refine bM (by simp[rfs,rf,gM,bv]) (v:=.fz (iL (cR n G W W.length))) (st':=[]) ?_ rfl;rw[c9,aD];show(ai [ax,af] fN [Is n,Zs (G.map Gv.av),Ls W,Á,Á,Á,Á] []).bind ay=_;unfold fN;refine ae (sl':=[Is n,Zs (G.map Gv.av),Ls W,Zs (aj L),Á,Á,Á]) (st':=[]) (by rw[d7,d1];rfl) ?_;refine ae (sl':=[Is n,Zs (G.map Gv.av),Ls W,Zs (aj L),Ls (cR n G W 0),Á,Á]) (st':=[]) (by
  have:cR n G W 0=Æ (2^n-1) 0:=by unfold cR;rw[show(fun p=>Oj 0 fun x=>gI W x*gI ((jm n G).getD x []) p)=fun _=>(0:Int) from rfl,ϰ];simp
  rw[this,d7,c7,v7 (j:=2^n-1) (st:=[]) (by simp[A]) oM,Å,yI bv];rfl) ?_
 obtain⟨sl',st',M,rfl,m,f,rfl⟩:=eE (gd:=[]) (g:=cg [ax,af] (.tu 2 (.cons (.nm 5) (.cons (.nm 6) .nil)))) (s:=ai [ax,af] (.cons (.as (.nw Ã (.lc 2 (.zi (.v 4) (.v 5)) (.tu 2 (.cons (.nm 7) (.cons (.nm 8) .nil))) .no (.bin .Add (.v 7) (.bin .Mult (.v 6) (.v 8))))) (.nm 4)) .nil))
  (I:=fun i sl s=>s=[]/\∃m f,sl=[Is n,Zs (G.map Gv.av),Ls W,Zs (aj L),Ls (cR n G W i),m,f]) (xs:=(L.zip W).map fun z=>AV.tup [.fz (iL z.1),.int z.2]) (fun _ _ _ _ _=>rfl)
  (fun i y sl s E r=>by
   obtain⟨U,m,f,Z⟩:=r;subst U;subst Z;rw[zR]at E;obtain⟨⟨l,c⟩,hz,rfl⟩:=zE.mp E;obtain⟨q,o⟩:=ë.mp hz;dsimp only at q o;have b:=bL l (zW q);have X:=bW c (zW o);have D:=f7 (st:=[]) (ks:=[ax,af]) (k:=2) (it:=.zi (.v 4) (.v 5)) (t:=.tu 2 (.cons (.nm 7) (.cons (.nm 8) .nil))) (c:=.no) (e:=.bin .Add (.v 7) (.bin .Mult (.v 6) (.v 8))) (sl:=[Is n,Zs (G.map Gv.av),Ls W,Zs (aj L),Ls (cR n G W i),Ls l,Is c]) (gd:=[]) (em:=fun z:Int×Int=>AV.tup [.int z.1,.int z.2]) (xs:=(cR n G W i).zip l) (B:=fun _=>Â) (F:=fun z=>AV.int (z.1+c*z.2)) (by
    rw[<- rY];rfl) rfl (by rw[Ă,d];lia) fun z hz=>by
     have:=ā hz
     exact⟨[Is n,Zs (G.map Gv.av),Ls W,Zs (aj L),Ls (cR n G W i),Ls l,Is c,Is z.1,Is z.2],rfl,rfl,fun _=>by simp[ba (cq X (b.2 _ this.2))]⟩
   rw[Ð.mpr (fun _ _=>rfl),show((cR n G W i).zip l).map (fun z=>AV.int (z.1+c*z.2))=iL (cR n G W (i+1)) by
    unfold iL;rw[show(fun z:Int×Int=>AV.int (z.1+c*z.2))=AV.int ∘ fun z=>z.1+c*z.2 from rfl,<- Ö];congr 1;refine P! fun p=>?_
    by_cases a:p<2^n-1
    ·have R:(cR n G W i)[p]?=À (gI (cR n G W i) p):=by unfold gI;rw[zD,zF (by rw[d];exact a)];rfl
     have Q:l[p]?=À (gI l p):=by unfold gI;rw[zD,zF (by rw[b.1];exact a)];rfl
     have P:(cR n G W (i+1))[p]?=À (gI (cR n G W (i+1)) p):=by unfold gI;rw[zD,zF (by rw[d];exact a)];rfl
     have O:((cR n G W i).zip l)[p]?=À (gI (cR n G W i) p,gI l p):=ë.mpr ⟨R,Q⟩;rw[zR,O,P,J _ _ a,J _ _ a];have g1:gI W i=c:=by unfold gI;rw[zD,o];rfl
     have g2:L.getD i []=l:=by rw[zD,q];rfl
     show À (_+c*gI l p)=À (Oj i _+gI W i*gI (L.getD i []) p);rw[g1,g2]
    ·rw[Ø (by rw[zH,Ă,d,b.1];lia),Ø (by rw[d];lia)]]at D
   refine⟨([Is n,Zs (G.map Gv.av),Ls W,Zs (aj L),Ls (cR n G W i),Ls l,Is c],[]),_,_,rfl,aq (sl':=[Is n,Zs (G.map Gv.av),Ls W,Zs (aj L),Ls (cR n G W (i+1)),Ls l,Is c]) (st':=[]) (by rw[d7,c7,D,Å,yI bv];rfl) rfl,rfl,_,_,rfl⟩) (sl:=[Is n,Zs (G.map Gv.av),Ls W,Zs (aj L),Ls (cR n G W 0),Á,Á]) (st:=[]) ⟨rfl,Á,Á,rfl⟩
 rw[zH,Ă,S,Nat.min_self]at M;refine ae (sl':=[Is n,Zs (G.map Gv.av),Ls W,Zs (aj L),Ls (cR n G W W.length),m,f]) (st':=[]) (by
  rw[nW,L4];unfold iZ;simp only[gO,fb,fE,Å,yw];rw[show aj L=L.map (fun l:List Int=>AV.fz (iL l)) from rfl,show iL W=W.map AV.int from rfl,rX];exact M) (aS rfl)
end
section
variable{st:aa}{n w:Nat}{X W r goal:List Int}{G gv:List Gv}{D K N e:Int}{Y:Nat->Int}
def cN(n:Nat)(G:List Gv)(W:List Int):Int:=Oj G.length fun y=>gI W ((aE n).length+y)*(G.getD y ⟨[],Â,0⟩).num
theorem HJ{l:List Int}{k:Nat}(h:k<=l.length):cut (iL l) (À (k:Int)) Á=iL (l.drop k):=by
 unfold cut;rw[gC,HT.sIx_none,HT.sIx_nat,b! h,qf,qe,ô (by rw[Ϩ];lia)]
theorem ye(d:eM n)(f:jR (2^n-1) G)(s:W.length=(aE n).length+G.length)(q:∀x∈W,x.natAbs<2^9000):pm cp [.int n,.fz (G.map Gv.av),.fz (iL W)] st=À (.int (cN n G W),st):=by
 obtain⟨L,a,i,w⟩:=uY d;have a:=a [];obtain⟨_,_,_,u,_⟩:=sA d;have r:=f.1;have h:bo dB [.fz L] []=À (.int ((aE n).length:Nat),[]):=by
  show À (AV.int (L.length:Int),_)=_;rw[i]
 have b:(W.drop (aE n).length).length=G.length:=by rw[Ϩ];lia
 have c:=f7 (st:=[]) (ks:=[cQ]) (k:=2) (it:=.zi (.v 3) (.v 1)) (t:=.tu 2 (.cons (.nm 4) (.cons (.nm 5) .nil))) (c:=.no) (e:=.bin .Mult (.v 4) (.ix (.v 5) (.i 2))) (sl:=[Is n,Zs (G.map Gv.av),Ls W,Ls (W.drop (aE n).length)]) (gd:=[]) (em:=fun z:Int×Gv=>AV.tup [.int z.1,z.2.av]) (xs:=(W.drop (aE n).length).zip G) (B:=fun _=>Â) (F:=fun z=>AV.int (z.1*z.2.num)) (by
  rw[<- rX];rfl) rfl (by rw[Ă];lia) fun z hz=>by
   have:=ā hz
   have j:aY [] z.2.av (.int 2)=À (.int z.2.num):=rfl;exact⟨[Is n,Zs (G.map Gv.av),Ls W,Ls (W.drop (aE n).length),Is z.1,À z.2.av],rfl,rfl,fun _=>by simp[j,ba (cq (q _ (B' this.1)) (f.2 _ this.2).2.2)]⟩
 rw[Ð.mpr (fun _ _=>rfl),show((W.drop (aE n).length).zip G).map (fun z=>AV.int (z.1*z.2.num))=iL (((W.drop (aE n).length).zip (G.map Gv.num)).map fun z=>z.1*z.2) by unfold iL;rw[List.zip_map_right,Ö,Ö];rfl]at c;refine bM (by simp[rfs,rf,gM,bv]) (v:=.int (cN n G W)) (st':=[]) ?_ rfl;rw[cp,aD];show(ai [cQ] d9 [Is n,Zs (G.map Gv.av),Ls W,Á] []).bind ay=_;unfold d9;refine ae (sl':=[Is n,Zs (G.map Gv.av),Ls W,Ls (W.drop (aE n).length)]) (st':=[]) (by
  have:=HJ (l:=W) (k:=(aE n).length) oM
  simp[mS,mQ,a,h,eN,this,bv]) (aS ?_)
 rw[kt,pT,bJ,c7,c,Å,yI bv];simp only[dg,Å,uc,bo,nV,wA,á];rw[pY _ _ (by rw[b,zH]),b];unfold cN;rw[SX.sum_congr (g:=fun y=>gI W ((aE n).length+y)*(G.getD y ⟨[],Â,0⟩).num) fun y m=>by
  have p:gI (W.drop (aE n).length) y=gI W ((aE n).length+y):=by unfold gI;rw[zD,zD,M']
  have o:gI (G.map Gv.num) y=(G.getD y ⟨[],Â,0⟩).num:=by unfold gI;rw[zD,zD,zR,zF m];rfl
  rw[p,o]]
theorem Cz(Z:Sz (2^n-1) (aE n) G goal)(l:W.length=(aE n).length+G.length)(t:∀x∈W,x.natAbs<2^9000)(u:K.natAbs<2^9000)(d:aW n G W=Â)(q:∀p,p<2^n-1->gI (cR n G W W.length) p=K*gI goal p):Ct (2^n-1) (aE n) G goal W K (cN n G W):=by
 have v:(sgn n G).length=W.length:=by unfold sgn;simp;lia
 have pr:∀x,x<W.length->0<=gI W x\/(sgn n G)[x]?=À Â:=fun x a=>by
  unfold aW at d;rw[yR]at d;have j:W[x]?=À (gI W x):=by unfold gI;rw[zD,zF a];rfl
  have b:(sgn n G)[x]?=À ((sgn n G)[x]'(by lia)):=zF _
  have:=d (gI W x,(sgn n G)[x]'(by lia)) (zW (ë.mpr ⟨j,b⟩))
  simp only[Bool.or_eq_true,yC]at this;rcases this with h|h
  ·exact .inl h
  ·exact .inr (b.trans (by rw[h]))
 refine⟨l,fun x a=>?_,fun y z hz o=>?_,t,u,fun Y e=>?_⟩
 ·rcases pr x oM with h|h
  ·exact h
  ·unfold sgn at h
   rw[zN (by simpa using a),ð,yI a]at h;cases h
 ·have w:=(zB.mp hz).1
  rcases pr ((aE n).length+y) oM with h|h
  ·exact h
  ·unfold sgn at h
   rw[z6 (by simp),ü,ñ,zR,hz]at h;injection h with h;rw[o]at h;cases h
 ·have lk:∀x,x<(aE n).length+G.length->gI W x*Qt (2^n-1) (v0 (2^n-1) (ah (aE n) G goal)) Y e (2^n-1+x)=(Oj (2^n-1) fun p=>gI W x*gI ((jm n G).getD x []) p*Y p)+(if x<(aE n).length then 0 else-(gI W x*(G.getD (x-(aE n).length) ⟨[],Â,0⟩).num)*e):=fun x a=>by
   obtain⟨c,j,b,s,r⟩:=kz Z a;rw[cP j b,ϳ];congr 1
   ·unfold val
    rw[<- SX.sum_mul];exact SX.sum_congr fun p _=>(Ŏ ..).symm
   ·by_cases h:x<(aE n).length
    ·rw[yI h,s h,yQ,yP]
    ·rw[yH h]
     obtain⟨z,hz,rfl⟩:=r (x-(aE n).length) oM;rw[zD,hz];show gI W x*(- z.num*e)=- (gI W x*z.num)*e
     grind
  rw[SX.sum_congr lk,SX.sum_add,SX.sum_swap,ii (f:=fun x=>if x<(aE n).length then 0 else _),SX.sum_zero (n:=(aE n).length) (fun i m=>yI m),Int.zero_add];rw[SX.sum_congr (n:=2^n-1) (g:=fun p=>K*(gI goal p*Y p)) fun p k=>by
   have:=q p k
   have g1:gI (cR n G W W.length) p=Oj W.length fun x=>gI W x*gI ((jm n G).getD x []) p:=by
    unfold cR;show(List.map _ _).getD p 0=_;rw[zD,zR,ĵ k];rfl
   rw[g1,l]at this;rw[SX.sum_congr (g:=fun x=>Y p*(gI W x*gI ((jm n G).getD x []) p)) fun x _=>ĳ _ _,SX.sum_mul,this]
   grind,SX.sum_mul,SX.sum_congr (n:=G.length) (g:=fun y=>(- e)*(gI W ((aE n).length+y)*(G.getD y ⟨[],Â,0⟩).num)) fun y _=>by
   show(if(aE n).length+y<(aE n).length then(0:Int) else _)=_;rw[yH oM,ñ]
   grind,SX.sum_mul]
  unfold cN val
  grind
theorem Cf(Z:Sz (2^n-1) (aE n) G goal)(C:Ct (2^n-1) (aE n) G goal W K N):aW n G W=Â/\cR n G W W.length=goal.map (fun x=>K*x)/\cN n G W=N:=by
 refine⟨?_,?_,HM Z C⟩
 ·unfold aW
  rw[yR];intro z hz;obtain⟨x,f⟩:=z9 hz;obtain⟨a,b⟩:=z;obtain⟨e,c⟩:=ë.mp f;dsimp only at e c ⊢;have i:gI W x=a:=by unfold gI;rw[zD,e];rfl
  have j:=C.len;have f:=(zB.mp e).1;cases b with
  |true=>simp
  |false =>
   rw[j?,yC,<- i];by_cases h:x<(aE n).length
   ·exact C.pos x h
   ·obtain⟨y,rfl⟩:∃y,x=(aE n).length+y:=⟨x-(aE n).length,by lia⟩
    unfold sgn at c;rw [z6 (by simp),ü,ñ,zR,zF (show y < G.length by lia)] at c;injection c with c;exact C.ge y _ (zF oM) c
 ·unfold cR
  refine P! fun p=>?_
  by_cases d:p<2^n-1
  ·have g:goal[p]?=À (gI goal p):=by unfold gI;rw[zD,zF (by rw[Z.o];exact d)];rfl
   rw[zR,ĵ d,zR,g];show À _=À _;rw[C.len];exact congrArg À (HK Z C d)
  ·rw[Ø (by simp;lia),Ø (by rw[zH,Z.o];lia)]
end
section
variable{st:aa}{n w:Nat}{X W Z r goal:List Int}{G gv:List Gv}{D K N e p q:Int}{Y:Nat->Int}
def G0(G:List Gv):List Gv:=G.map fun z=>⟨z.row,z.eq,0⟩
theorem sG(h:jR w G):jR w (G0 G):=⟨by unfold G0;rw[zH];exact h.1,fun z hz=>by
 obtain⟨y,a,rfl⟩:=yD.mp hz;exact⟨(h.2 y a).1,(h.2 y a).2.1,Ô _⟩⟩
theorem kp0:Kp w RR (G0 G) Y 1 ↔ Kp w RR G Y 0:=by
 constructor
 ·intro h
  refine⟨h.rule,fun z hz a=>?_,fun z hz a=>?_⟩
  ·have:=h.eq _ (yD.mpr ⟨z,hz,rfl⟩) a
   rw[yP];simpa using this
  ·have:=h.ge _ (yD.mpr ⟨z,hz,rfl⟩) a
   rw[yP];simpa using this
 ·intro h
  refine⟨h.rule,fun z hz a=>?_,fun z hz a=>?_⟩
  ·obtain⟨y,b,rfl⟩:=yD.mp hz
   have:=h.eq y b a
   rw[yP]at this;simpa using this
  ·obtain⟨y,b,rfl⟩:=yD.mp hz
   have:=h.ge y b a
   rw[yP]at this;simpa using this
theorem By(b:eM n)(a:jR (2^n-1) G)(d:X.length=2^n-1)(f:∀x∈X,x.natAbs<2^9000):pm iB [.int n,.fz (G.map Gv.av),.fz (iL X)] st=À (.bl (kA n (G0 G) X 1),st):=by
 have k:=qa (st:=[]) (D:=1) b (sG a) d ⟨f,by decide⟩;have g:=a.1;have c:=f7 (st:=[]) (ks:=[cE]) (k:=3) (it:=.e (.v 1)) (t:=.tu 3 (.cons (.nm 3) (.cons (.nm 4) (.cons (.nm 5) .nil)))) (c:=.no) (e:=.tu (.cons (.v 3) (.cons (.v 4) (.cons (.i 0) .nil)))) (sl:=[Is n,Zs (G.map Gv.av),Ls X]) (gd:=[]) (em:=Gv.av) (xs:=G) (B:=fun _=>Â) (F:=fun z=>(⟨z.row,z.eq,0⟩:Gv).av) rfl rfl oM fun z hz=>⟨[Is n,Zs (G.map Gv.av),Ls X,Ls z.row,À (fG z.eq),Is z.num],rfl,rfl,fun _=>rfl⟩
 rw[Ð.mpr (fun _ _=>rfl),show G.map (fun z=>(⟨z.row,z.eq,0⟩:Gv).av)=(G0 G).map Gv.av by unfold G0;rw[Ö];rfl]at c;refine bM (by simp[rfs,rf,gM,bv]) (v:=.bl (kA n (G0 G) X 1)) (st':=[]) ?_ rfl;rw[iB,aD];show(ai [cE] md [Is n,Zs (G.map Gv.av),Ls X] []).bind ay=_;refine aS ?_;rw[kt,km,bJ,gO];simp only[fb,Å,bJ];rw[c7,c,Å,yI (gM _)];simp[k]
def hL(n:Nat)(G:List Gv)(goal:List Int)(p q:Int)(X:List Int)(D K:Int)(W:List Int):Bool :=
 decide (0<q)&&(decide (0<K)&&(kA n G X D&&(aW n G W&&(decide (val (2^n-1) goal (gI X)*q=p*D)&&(decide (cR n G W W.length=goal.map fun x=>x*K)&&decide (cN n G W*q=p*K))))))
def hE(n:Nat)(G:List Gv)(goal X:List Int)(D:Int)(Z:List Int):Bool:=kA n G X D&&(kA n (G0 G) Z 1&&decide (val (2^n-1) goal (gI Z)<0))
def hN(n:Nat)(G:List Gv)(W:List Int):Bool:=aW n G W&&(!(cR n G W W.length).any (fun x=>decide (x≠0))&&decide (0<cN n G W))
abbrev KN:List Fn:=[df,cp,c9]
theorem Kh{l:List Int}:bo ug [.fz (iL l)] st=À (.bl (l.any fun x=>decide (x≠0)),st):=by
 have:bn ox (iL l)=À (l.map fun x=>decide (x≠0)):=eP (f:=ox) (i:=AV.int) (g:=fun x=>decide (x≠0)) (fun x=>by show À (x !=0)=_;congr 1;by_cases h:x=0<;>simp[h]) l;show(((bn ox (iL l)).map fun bs=>AV.bl (bs.any id)).map fun z=>(z,st))=_;rw[this];show À (AV.bl ((l.map _).any id),st)=_;rw[ϡ];rfl
theorem Ec(c:eM n)(f:jR (2^n-1) G)(d:W.length=(aE n).length+G.length)(g:∀x∈W,x.natAbs<2^9000):pm eC [.int n,.fz (G.map Gv.av),.fz (iL W)] st=À (.bl (hN n G W),st):=by
 have a:=Ad (st:=[]) c f d;have r:=xH (st:=[]) c f d g;have m:=ye (st:=[]) c f d g;unfold hN;generalize aW n G W=x at *;generalize cN n G W=y at *;generalize cR n G W W.length=l at *;refine bM (by simp[rfs,rf,gM,bv]) (v:=.bl (x&&(!l.any (fun x=>decide (x≠0))&&decide (0<y)))) (st':=[]) ?_ rfl;rw[eC,aD];show(ai KN fO [Is n,Zs (G.map Gv.av),Ls W] []).bind ay=_;unfold fO;cases x with
 |false=>exact aS (by simp[a,ie])
 |true =>
  refine ae (sl':=[Is n,Zs (G.map Gv.av),Ls W]) (st':=[]) (by simp[a,ie]) (aS ?_);have e:=Kh (st:=[]) (l:=l);generalize l.any (fun x=>decide (x≠0))=b at *;cases b<;>simp[r,m,e]
abbrev KE:List Fn:=[dD,iB,cE]
theorem zo(e:eM n)(i:jR (2^n-1) G)(h:goal.length=2^n-1/\∀x∈goal,x.natAbs<2^9000)(k:X.length=2^n-1)(o:(∀x∈X,x.natAbs<2^9000)/\D.natAbs<2^9000)(d:Z.length=2^n-1/\∀x∈Z,x.natAbs<2^9000):pm c6 [.int n,.fz (G.map Gv.av),.fz (iL goal),.tup [.str "endless",.tup [.fz (iL X),.int D],.fz (iL Z)]] st=À (.bl (hE n G goal X D Z),st):=by
 have a:=qa (st:=[]) e i k o;have b:=By (st:=[]) e i d.1 d.2;have c:=mr (st:=[]) h.1 d.1 (sA e).2.2.2.2 h.2 d.2;unfold hE;generalize kA n G X D=x at *;generalize kA n (G0 G) Z 1=y at *;generalize val (2^n-1) goal (gI Z)=v at *;obtain⟨t,g⟩:∃t,t=AV.tup [.fz (iL X),.int D]:=⟨_,rfl⟩;have f:∀l,aY [] (.tup [.str "endless",t,.fz l]) (.int 1)=À t:=fun _=>rfl
 have j:∀l,aY [] (.tup [.str "endless",t,.fz l]) (.int 2)=À (.fz l):=fun _=>rfl
 have m:rf t=Â:=by rw[g];simp[rf,rfs,bv]
 rw[<- g]at a ⊢;refine bM (by simp[rfs,rf,gM,bv,m]) (v:=.bl (x&&(y&&decide (v<0)))) (st':=[]) ?_ rfl;rw[c6,aD];show(ai KE gH [Is n,Zs (G.map Gv.av),Ls goal,À (.tup [.str "endless",t,.fz (iL Z)])] []).bind ay=_;refine aS ?_;cases x
 ·simp[f,a]
 ·cases y<;>simp[f,j,a,b,c]
abbrev KL:List Fn:=[df,cE,dD,c9,cp]
theorem zm:∀l m:List Int,Ž (l.map î) (m.map î)=decide (l=m)
 |[],[]=>rfl
 |[],_::_=>by simp[Ž]
 |_::_,[]=>by simp[Ž]
 |x::l,y::m=>by
  simp only[zO,Ž,Þ,zm l m];by_cases h:x=y<;>simp[h]
theorem JM(l m:List Int):j4 st (.fz (iL l)) (.fz (iL m))=À (decide (l=m)):=by
 have b:∀l,cC 9 st (.fz (iL l))=À (.list (l.map î)):=fun l=>by show(bn (cC 8 st) _).map _=_;rw[yh];rfl
 have c:∀l:List Int,ò (l.map î)=Â/\O5 (l.map î)=0:=fun l=>by
  induction l with
  |nil=>exact⟨rfl,rfl⟩
  |cons x l a=>simp only[zO,ò,Ĕ,O5,i?,a.1,a.2,Ģ,Nat.max_self,and_self]
 unfold j4;rw[b,b,Å,Å,yI (by
  unfold DD.pyOk;simp[Ĕ,i?,c])]
 simp only[Þ,zm]
theorem Jf(l m:List Int):cb .NotEq st (.fz (iL l)) (.fz (iL m))=À (!decide (l=m)):=by
 show(j4 st _ _).map _=_;rw[JM];rfl
theorem xD{f:Nat->Int}{B:Nat}:∀{k:Nat},(∀i,i<k->(f i).natAbs<=B)->(Oj k f).natAbs<=k*B
 |0,_=>by simp[Oj]
 |k+1,h=>by
  have h1:=xD (k:=k) fun i a=>h i oM
  have c:=h k oM;have b:=Ϥ (Oj k f) (f k);show(Oj k f+f k).natAbs<=_;rw[Nat.add_mul,Ţ];lia
theorem J4(b:jR w G)(g:∀x∈W,x.natAbs<2^9000)(i:W.length=(aE n).length+G.length):(cN n G W).natAbs<2^19000:=by
 have h:=xD (k:=G.length) (f:=fun y=>gI W ((aE n).length+y)*(G.getD y ⟨[],Â,0⟩).num) (B:=2^(9000+9000)) fun y a=>by
  have e:=g _ (hU (T:=W) (q:=(aE n).length+y) oM);have d:=(b.2 (G.getD y ⟨[],Â,0⟩) (by rw[zD,zF a];exact Ó a)).2.2;exact yZ (GJ e d)
 have c:G.length*2^(9000+9000)<=2^7*2^(9000+9000):=Ő _ (by have:=b.1;lia);rw[<- Š]at c;exact yM (z5 h c) (Ĩ dC dC)
theorem Em(r:eM n)(u:jR (2^n-1) G)(s:goal.length=2^n-1/\∀x∈goal,x.natAbs<2^9000)(E:X.length=2^n-1)(C:(∀x∈X,x.natAbs<2^9000)/\D.natAbs<2^9000)(R:p.natAbs<2^9000)(Q:q.natAbs<2^9000)(S:K.natAbs<2^9000)(z:W.length=(aE n).length+G.length)(J:∀x∈W,x.natAbs<2^9000) :
  pm dE [.int n,.fz (G.map Gv.av),.fz (iL goal),.tup [.str "least",.tup [.int p,.int q],.tup [.fz (iL X),.int D],.int K,.fz (iL W)]] st=À (.bl (hL n G goal p q X D K W),st):=by
 have P:=(sA r).2.2.2.2;have a:=qa (st:=[]) r u E C;have b:=Ad (st:=[]) r u z;have c:=mr (st:=[]) s.1 E P s.2 C.1;have d:=xH (st:=[]) r u z J;have m:=ye (st:=[]) r u z J;have L:aZ .Mult [] (.int (val (2^n-1) goal (gI X))) (.int q)=À (.int (val (2^n-1) goal (gI X)*q)):=ba (GM (xa s.1 E P s.2 C.1) Q dC dC);have m2:aZ .Mult [] (.int p) (.int D)=À (.int (p*D)):=ba (cq R C.2);have m3:aZ .Mult [] (.int (cN n G W)) (.int q)=À (.int (cN n G W*q)):=ba (GM (J4 u J z) Q dC dC);have V:aZ .Mult [] (.int p) (.int K)=À (.int (p*K)):=ba (cq R S);obtain⟨t,w⟩:∃t,t=AV.tup [.fz (iL X),.int D]:=⟨_,rfl⟩;have O:aY [] t (.int 0)=À (.fz (iL X)):=by rw[w];rfl
 have M:aY [] t (.int 1)=À (.int D):=by rw[w];rfl
 have ft:rf t=Â:=by rw[w];simp[rf,rfs,bv]
 rw[<- w]at a ⊢;obtain⟨f,j⟩:∃f,f=AV.tup [.str "least",.tup [.int p,.int q],t,.int K,.fz (iL W)]:=⟨_,rfl⟩;have T:aY [] f (.int 1)=À (.tup [.int p,.int q]):=by rw[j];rfl
 have f2:aY [] f (.int 2)=À t:=by rw[j];rfl
 have f3:aY [] f (.int 3)=À (.int K):=by rw[j];rfl
 have f4:aY [] f (.int 4)=À (.fz (iL W)):=by rw[j];rfl
 have Z:aY [] (.tup [.int p,.int q]) (.int 0)=À (.int p):=rfl;have g1:aY [] (.tup [.int p,.int q]) (.int 1)=À (.int q):=rfl;have ff:rf f=Â:=by rw[j];simp[rf,rfs,bv,ft]
 rw[<- j];have gl:=f7 (st:=[]) (ks:=KL) (k:=1) (it:=.e (.v 2)) (t:=.nm 9) (c:=.no) (e:=.bin .Mult (.v 9) (.v 7)) (sl:=[Is n,Zs (G.map Gv.av),Ls goal,À f,Is p,Is q,À t,Is K,Ls W]) (gd:=[]) (em:=AV.int) (xs:=goal) (B:=fun _=>Â) (F:=fun x=>AV.int (x*K)) rfl rfl oM fun x Y=>⟨[Is n,Zs (G.map Gv.av),Ls goal,À f,Is p,Is q,À t,Is K,Ls W,Is x],rfl,rfl,fun _=>by simp[ba (cq (s.2 x Y) S)]⟩
 rw[Ð.mpr (fun _ _=>rfl),show goal.map (fun x=>AV.int (x*K))=iL (goal.map fun x=>x*K) by unfold iL;rw[Ö];rfl]at gl;have e:=Jf (st:=[]) (cR n G W W.length) (goal.map fun x=>x*K);unfold hL;generalize kA n G X D=x at *;generalize aW n G W=y at *;generalize cN n G W=N at *;generalize val (2^n-1) goal (gI X)=v at *;generalize v*q=vq at *;generalize p*D=pD at *;generalize N*q=nq at *;generalize p*K=pK at *;generalize cR n G W W.length=l at *;generalize goal.map (fun x=>x*K)=l2 at *;refine bM (by simp[rfs,rf,gM,bv,ff]) (v:=.bl (decide (0<q)&&(decide (0<K)&&(x&&(y&&(decide (vq=pD)&&(decide (l=l2)&&decide (nq=pK)))))))) (st':=[]) ?_ rfl;rw[dE,aD];show(ai KL fP [Is n,Zs (G.map Gv.av),Ls goal,À f,Á,Á,Á,Á,Á] []).bind ay=_;unfold fP;refine ae (sl':=[Is n,Zs (G.map Gv.av),Ls goal,À f,Is p,Á,Á,Á,Á]) (st':=[]) (by simp[T,Z]) ?_;refine ae (sl':=[Is n,Zs (G.map Gv.av),Ls goal,À f,Is p,Is q,Á,Á,Á]) (st':=[]) (by simp[T,g1]) ?_;refine ae (sl':=[Is n,Zs (G.map Gv.av),Ls goal,À f,Is p,Is q,À t,Á,Á]) (st':=[]) (by simp[f2]) ?_;refine ae (sl':=[Is n,Zs (G.map Gv.av),Ls goal,À f,Is p,Is q,À t,Is K,Á]) (st':=[]) (by simp[f3]) ?_;refine ae (sl':=[Is n,Zs (G.map Gv.av),Ls goal,À f,Is p,Is q,À t,Is K,Ls W]) (st':=[]) (by simp[f4]) ?_;by_cases i:0<q
 case neg =>
  have:q<1:=by lia
  exact aS (by simp[i,this])
 have g:¬q<1:=by lia
 by_cases o:0<K
 case neg =>
  have:K<1:=by lia
  exact aS (by simp[i,g,o,this])
 have h:¬K<1:=by lia
 cases x with
 |false=>exact aS (by simp[i,g,o,h,a,ie])
 |true =>
 cases y with
 |false=>exact aS (by simp[i,g,o,h,a,b,ie])
 |true =>
 refine ae (sl':=[Is n,Zs (G.map Gv.av),Ls goal,À f,Is p,Is q,À t,Is K,Ls W]) (st':=[]) (by simp[g,h,a,b,ie]) ?_;by_cases A:vq=pD
 case neg =>
  exact aS (by simp[i,o,O,M,c,L,m2,A])
 refine ae (sl':=[Is n,Zs (G.map Gv.av),Ls goal,À f,Is p,Is q,À t,Is K,Ls W]) (st':=[]) (by simp[O,M,c,L,m2,A]) ?_;have I:ev KL (.nw Ã (.lc 1 (.e (.v 2)) (.nm 9) .no (.bin .Mult (.v 9) (.v 7)))) [Is n,Zs (G.map Gv.av),Ls goal,À f,Is p,Is q,À t,Is K,Ls W] []=À (.fz (iL l2),[]):=by rw[c7,gl,Å,yI bv]
 have U:tv KL (.cmp .NotEq (.ca Â 3 (.cons (.v 0) (.cons (.v 1) (.cons (.v 8) .nil)))) (.nw Ã (.lc 1 (.e (.v 2)) (.nm 9) .no (.bin .Mult (.v 9) (.v 7))))) [Is n,Zs (G.map Gv.av),Ls goal,À f,Is p,Is q,À t,Is K,Ls W] []=À (!decide (l=l2),[]):=by
  simp only[ms,km,bJ,dg,gO,fb,fE,Å,á,rq,lA,ly,d,I,e]
 by_cases H:l=l2
 case neg =>
  exact aS (by rw[eJ,U];simp[i,o,A,H])
 refine ae (sl':=[Is n,Zs (G.map Gv.av),Ls goal,À f,Is p,Is q,À t,Is K,Ls W]) (st':=[]) (by rw[eJ,U];simp[H]) (aS ?_);simp[i,o,A,H,m,m3,V]
abbrev KH:List Fn:=[dE,c6,eC]
end
section
variable{st:aa}{n w:Nat}{RR:List (List Int)}{X W Z r goal:List Int}{G gv:List Gv}{D K N e p q:Int}{Y:Nat->Int}
inductive Md where
 |nv (W:List Int)
 |ls (p q:Int) (X:List Int) (D K:Int) (W:List Int)
 |en (X:List Int) (D:Int) (Z:List Int)
noncomputable def Md.kind:Md->Ì
 |.nv _=>"never"
 |.ls ..=>"least"
 |.en ..=>"endless"
def Md.av:Md->AV
 |.nv W=>.tup [.str "never",.fz (iL W)]
 |.ls p q X D K W=>.tup [.str "least",.tup [.int p,.int q],.tup [.fz (iL X),.int D],.int K,.fz (iL W)]
 |.en X D Z=>.tup [.str "endless",.tup [.fz (iL X),.int D],.fz (iL Z)]
def Md.hb(n:Nat)(G:List Gv)(goal:List Int):Md->Bool
 |.nv W=>hN n G W
 |.ls p q X D K W=>hL n G goal p q X D K W
 |.en X D Z=>hE n G goal X D Z
def kT(k:Nat)(X:List Int):Prop:=X.length=k/\∀x∈X,x.natAbs<2^9000
def Md.ok(n:Nat)(G:List Gv):Md->Prop
 |.nv W=>kT ((aE n).length+G.length) W
 |.ls p q X D K W=>(p.natAbs<2^9000/\q.natAbs<2^9000)/\(kT (2^n-1) X/\D.natAbs<2^9000)/\K.natAbs<2^9000/\kT ((aE n).length+G.length) W
 |.en X D Z=>(kT (2^n-1) X/\D.natAbs<2^9000)/\kT (2^n-1) Z
theorem Md.rf(m:Md):rf m.av=Â:=by cases m<;>simp[Md.av,R.rf,rfs,bv]
theorem Ew(d:eM n)(e:jR (2^n-1) G)(j:kT (2^n-1) goal){m:Md}(h:m.ok n G):pm kg [.int n,.fz (G.map Gv.av),.fz (iL goal),m.av] st=À (.bl (m.hb n G goal),st):=by
 have y:∀s t:Ì,(cb .Eq [] (.str s) (.str t))=cb .Eq [] (.str s) (.str t):=fun _ _=>rfl
 have a:aY [] m.av (.int 0)=À (.str m.kind):=by cases m<;>rfl
 have fm:=m.rf;have a1:cb .Eq [] (.str m.kind) (.str "least")=À (match m with|.ls ..=>Â|_=>Ã):=by cases m<;>kernel_rfl
 have a2:cb .Eq [] (.str m.kind) (.str "endless")=À (match m with|.en ..=>Â|_=>Ã):=by cases m<;>kernel_rfl
 have x:cb .Eq [] (.str m.kind) (.str "never")=À (match m with|.nv ..=>Â|_=>Ã):=by cases m<;>kernel_rfl
 refine bM (by simp[rfs,R.rf,gM,bv,fm]) (v:=.bl (m.hb n G goal)) (st':=[]) ?_ rfl;rw[kg,aD];show(ai KH mJ [Is n,Zs (G.map Gv.av),Ls goal,À m.av] []).bind ay=_;unfold mJ;cases m with
 |ls p q X D K W =>
  obtain⟨⟨o,l⟩,⟨⟨c,f⟩,g⟩,u,k,w⟩:=h;have v:=Em (st:=[]) d e j c ⟨f,g⟩ o l u k w;obtain⟨t,b⟩:∃t,t=(Md.ls p q X D K W).av:=⟨_,rfl⟩;have v:pm dE [.int n,.fz (G.map Gv.av),.fz (iL goal),t] []=À (.bl ((Md.ls p q X D K W).hb n G goal),[]):=by rw[b];exact v
  rw[<- b]at a ⊢;exact aS (by simp[a,a1,v])
 |en X D Z =>
  obtain⟨⟨⟨c,f⟩,g⟩,r⟩:=h;have v:=zo (st:=[]) d e j c ⟨f,g⟩ r;obtain⟨t,b⟩:∃t,t=(Md.en X D Z).av:=⟨_,rfl⟩;have v:pm c6 [.int n,.fz (G.map Gv.av),.fz (iL goal),t] []=À (.bl ((Md.en X D Z).hb n G goal),[]):=by rw[b];exact v
  rw[<- b]at a ⊢;refine ae (sl':=[Is n,Zs (G.map Gv.av),Ls goal,À t]) (st':=[]) (by simp[a,a1]) (aS ?_);simp[a,a2,v]
 |nv W =>
  have v:=Ec (st:=[]) d e h.1 h.2;have i:aY [] (Md.nv W).av (.int 1)=À (.fz (iL W)):=rfl;obtain⟨t,b⟩:∃t,t=(Md.nv W).av:=⟨_,rfl⟩;rw[<- b]at a i ⊢;refine ae (sl':=[Is n,Zs (G.map Gv.av),Ls goal,À t]) (st':=[]) (by simp[a,a1]) ?_;refine ae (sl':=[Is n,Zs (G.map Gv.av),Ls goal,À t]) (st':=[]) (by simp[a,a2]) (aS ?_);simp[a,i,x,v];rfl
theorem Je(S:Sz (2^n-1) (aE n) G goal)(h:(Md.nv W).ok n G)(hb:(Md.nv W).hb n G goal=Â):∃N,0<N/\∀Y e,Kp (2^n-1) (aE n) G Y e->N*e<=0:=by
 have hb:hN n G W=Â:=hb;unfold hN at hb;simp only[zC,yC,Bool.not_eq_true']at hb;have C:=Cz S h.1 h.2 (K:=0) dC hb.1 fun p a=>by
  rw[yQ]
  have:=P?.mp hb.2.1 (gI (cR n G W W.length) p) (hU (by unfold cR;simpa using a))
  simpa using this
 refine⟨_,hb.2.2,fun Y e k=>?_⟩
 have:=C.le S k
 rwa [yQ]at this
theorem rD(S:Sz (2^n-1) (aE n) G goal)(h:(Md.ls p q X D K W).ok n G)(hb:(Md.ls p q X D K W).hb n G goal=Â):(0<q/\0<K/\0<D)/\Kp (2^n-1) (aE n) G (gI X) D/\val (2^n-1) goal (gI X)*q=p*D/\∃N,N*q=p*K/\∀Y e,Kp (2^n-1) (aE n) G Y e->N*e<=K*val (2^n-1) goal Y:=by
 have hb:hL n G goal p q X D K W=Â:=hb;unfold hL at hb;simp only[zC,yC,kA_iff]at hb;obtain⟨o,m,⟨l,j⟩,i,g,f,d⟩:=hb;obtain⟨_,_,c,a⟩:=h;have C:=Cz S a.1 a.2 (K:=K) c i fun p b=>by
  rw[f];unfold gI;rw[zD,zD,zR,zF (by rw[S.o];exact b)];exact ĳ _ _
 exact⟨⟨o,m,l⟩,j,g,_,d,fun Y e k=>C.le S k⟩
theorem rF(hb:(Md.en X D Z).hb n G goal=Â):0<D/\Kp (2^n-1) (aE n) G (gI X) D/\Kp (2^n-1) (aE n) G (gI Z) 0/\val (2^n-1) goal (gI Z)<0:=by
 have hb:hE n G goal X D Z=Â:=hb;unfold hE at hb;simp only[zC,yC,kA_iff]at hb;exact⟨hb.1.1,hb.1.2,kp0.mp hb.2.1.2,hb.2.2⟩
theorem Cm{N K v D p q c b:Int}(f:0<K)(g:0<D)(e:0<q)(d:0<b)(h:N*D<=K*v)(j:v*b=c*D)(i:N*q=p*K):p*b<=c*q:=by
 refine ĩ (a:=K*D) ?_ (ϋ f g)
 have:=ß h (Ś (ϋ e d))
 rw[show p*b*(K*D)=N*D*(q*b) by rw[show p*b*(K*D)=(p*K)*(b*D) by grind,<- i];grind,show c*q*(K*D)=K*v*(q*b) by rw[show c*q*(K*D)=(c*D)*(q*K) by grind,<- j];grind];exact this
def Md.like:Md->Md->Prop
 |.nv _,.nv _=>True
 |.ls p q ..,.ls p0 q0 ..=>p*q0=p0*q
 |.en ..,.en ..=>True
 |_,_=>False
theorem Ki(S:Sz (2^n-1) (aE n) G goal){m d:Md}(h:m.ok n G)(e:d.ok n G)(hb:m.hb n G goal=Â)(c:d.hb n G goal=Â):m.like d:=by
 have f:∀{W X D},(Md.nv W).ok n G->(Md.nv W).hb n G goal=Â->0<D->¬Kp (2^n-1) (aE n) G (gI X) D:=fun h hb t k=>by
  obtain⟨N,hN,g⟩:=Je S h hb
  have:=g _ _ k
  have:=ϋ hN t
  lia
 have i:∀{p q X D K W}{Z:List Int},(Md.ls p q X D K W).ok n G->(Md.ls p q X D K W).hb n G goal=Â->Kp (2^n-1) (aE n) G (gI Z) 0->¬val (2^n-1) goal (gI Z)<0:=fun {p q X D K W Z} h hb k r=>by
  obtain⟨⟨_,s,_⟩,_,_,N,_,g⟩:=rD S h hb
  have:=g _ _ k
  rw[yP]at this
  have:=Ķ s r
  lia
 cases m with
 |nv W=>cases d with
  |nv _=>trivial
  |ls p q X D K W=>obtain⟨a,b,_⟩:=rD S e c;exact f h hb a.2.2 b
  |en X D Z=>obtain⟨a,b,_⟩:=rF c;exact f h hb a b
 |en X D Z=>cases d with
  |nv _=>obtain⟨a,b,_⟩:=rF hb;exact f e c a b
  |ls p q X D K W=>obtain⟨_,_,a,b⟩:=rF hb;exact i e c a b
  |en X D Z=>trivial
 |ls p q X D K W =>
  obtain⟨⟨a1,a2,o⟩,l,C,N,B,A⟩:=rD S h hb;cases d with
  |nv _=>exact f e c o l
  |en X D Z=>obtain⟨_,_,a,b⟩:=rF c;exact i h hb a b
  |ls p0 q0 X0 D0 K0 W0 =>
   obtain⟨⟨j,z,y⟩,x,w,M,v,u⟩:=rD S e c;show p*q0=p0*q;exact Int.le_antisymm (Cm a2 y a1 j (A _ _ x) w B) (Cm z o j a1 (u _ _ l) C v)
theorem E7(S:Sz (2^n-1) (aE n) G goal){t:AV}(A:rW (2^n-1) (aE n) G goal t):∃m:Md,t=m.av/\m.ok n G/\m.hb n G goal=Â:=by
 have o:∀{X D},TbS (2^n-1) (aE n) G X D->(kT (2^n-1) X/\D.natAbs<2^9000)/\kA n G X D=Â:=fun T=>⟨⟨⟨T.len,fun x e=>uf (T.bd.1 x e) dC⟩,uf T.bd.2 dC⟩,kA_iff.mpr ⟨T.pos,T.kp⟩⟩
 rcases A with⟨W,N,rfl,C,F⟩|⟨T,d,X,D,K,N,W,rfl,hd,⟨I,bd⟩,⟨l,y⟩,C,E,B⟩|⟨X,D,Z,rfl,l,⟨s,H⟩,u,hz⟩
 ·obtain⟨i,h,f⟩:=Cf S C
  refine⟨.nv W,rfl,⟨C.len,C.bd⟩,?_⟩;show hN n G W=Â;unfold hN;rw[i,h,f];simp[F]
 ·obtain⟨i,h,f⟩:=Cf S C
  obtain⟨g,r,k,j,z⟩:=G2 (T:=T) hd;obtain⟨c,b⟩:=o l;generalize gI (aw [T,d]) 0=p at *;generalize gI (aw [T,d]) 1=q at *;refine⟨.ls p q X D K W,rfl,⟨⟨uf (Cg k r I) dC,uf (Cg j r bd) dC⟩,c,C.kb,C.len,C.bd⟩,?_⟩;show hL n G goal p q X D K W=Â;unfold hL;rw[i,h,f,b];have w:val (2^n-1) goal (gI X)*q=p*D:=Ī (a:=g) oM (by rw[Ŏ,<- j,y,k];grind);have v:N*q=p*K:=Ī (a:=g) oM (by rw[Ŏ,<- j,<- B,k];grind);simp[z,E,w,v,ĳ]
 ·obtain⟨c,b⟩:=o l
  refine⟨.en X D Z,rfl,⟨c,s,fun x e=>uf (H x e) dC⟩,?_⟩;show hE n G goal X D Z=Â;unfold hE;rw[b,kA_iff.mpr ⟨by decide,kp0.mpr u⟩];simp[hz]
end
section
variable{st:aa}{n:Nat}{ns:List Int}{G:List Gv}{goal:List Int}
theorem AH{ks:List Fn}{a b:Ou}{c:Tx}{sl:Sl}{P:AV×aa->Prop}(h:tv ks c sl st=À (Ã,st))(d:∃r,(ai ks a sl st).bind ay=À r/\P r):∃r,(ai ks (.cons (.iff c b .nil) a) sl st).bind ay=À r/\P r:=au (sl':=sl) (st':=st) (by rw[eJ,h];rfl) d
noncomputable def Md.w1:Md->List (List Int)
 |.ls _ _ _ _ _ W=>[W]
 |_=>[]
noncomputable def Md.w2:Md->List (List Int)
 |.nv W=>[W]
 |_=>[]
noncomputable def Md.tm(k:Int):Md->Int
 |.ls _ _ _ _ K _=>K
 |_=>k
theorem Md.ok_w{m:Md}(h:m.ok n G):(∀W∈m.w1++m.w2,kT ((aE n).length+G.length) W)/\(m.w1++m.w2).length<=1/\∀k:Int,k.natAbs<2^9000->(m.tm k).natAbs<2^9000:=by
 cases m with
 |nv W=>exact⟨fun V a=>by rw[zM.mp a];exact h,zP _,fun _ h=>h⟩
 |ls p q X D K W=>exact⟨fun V a=>by rw[zM.mp a];exact h.2.2.2,zP _,fun _ _=>h.2.2.1⟩
 |en X D Z=>exact⟨fun _ a=>(zX a).elim,ħ _,fun _ h=>h⟩
abbrev KQ:List Fn:=[dJ,g8,kg,fc,ao,cY,bh]
theorem wu{ks:List Fn}{l:List Int}{e a:Ex}{f:Int->Int}{sl:Sl}{s:Nat}(b:sl.length=s)(g:ev ks a sl st=À (.fz (iL l),st))(d:l.length<=1000)(h:∀x,ev ks e (sl++[Is x]) st=À (.int (f x),st)):ev ks (.nw Ã (.lc 1 (.e a) (.nm s) .no e)) sl st=À (.fz (iL (l.map f)),st):=by
 have c:=f7 (st:=st) (ks:=ks) (k:=1) (it:=.e a) (t:=.nm s) (c:=.no) (e:=e) (sl:=sl) (gd:=[]) (em:=AV.int) (xs:=l) (B:=fun _=>Â) (F:=fun x=>AV.int (f x)) (by rw[Cn,g];rfl) rfl d fun x i=>⟨sl++[Is x],by
  show À ((sl++[Á]).set s (À (.int x)),st)=_;rw[<- b,A! _ _ (zP _),W6];rfl,rfl,fun _=>h x⟩
 rw[Ð.mpr (fun _ _=>rfl),show l.map (fun x=>AV.int (f x))=iL (l.map f) by unfold iL;rw[Ö];rfl]at c;rw[c7,c,Å,yI bv]
theorem wG{ks:List Fn}{c:Tx}{a b:Ou}{sl:Sl}{st st':aa}{v:Bool}(h:tv ks c sl st=À (v,st')):cW ks (.iff c a b) sl st=if v=Â then ai ks a sl st' else ai ks b sl st':=by rw[eJ,h];rfl
theorem Jp(hns:ns.length<=63):∃st,pN [.fz (iL ns)] []=À (.bl Â,st):=by
 have key:∃r,pN [.fz (iL ns)] []=À r/\r.1=.bl Â:=by
  obtain⟨n,T,G,goal,D,A,B,O,e1,hn,hG,hz,hg,hgb,hd,hD,hT⟩:=v8 hns;have hN:2^n-1<=15/\(aE n).length<=28:=by rcases hn with rfl|rfl|rfl|rfl<;>decide
  have M1:10000000000000000000000000000000010<=M0:=by unfold M0;decide
  have M2:M0<2^9000:=Ĩ dC dC;have bz:∀z∈G,z.row.length=2^n-1/\(∀x∈z.row,x.natAbs<=M0)/\z.num.natAbs<=M0:=fun z h=>⟨(hz z h).1,fun x C=>z5 ((hz z h).2.1 x C) (z5 dC M1),z5 (hz z h).2.2 M1⟩
  have bg:∀x∈goal,x.natAbs<=M0:=fun x C=>z5 (hgb x C) (z5 dC M1)
  have Q:=MP (goal:=goal) hn oM bz ⟨hg,bg⟩;obtain⟨q0,a0,A0⟩:=HX Q;obtain⟨g,rfl,sG,hb0⟩:=E7 Q.Z A0;have oG:jR (2^n-1) G:=⟨by lia,fun z h=>⟨(bz z h).1,fun x C=>yM ((bz z h).2.1 x C) M2,yM (bz z h).2.2 M2⟩⟩;have og:kT (2^n-1) goal:=⟨hg,fun x C=>yM (bg x C) M2⟩;have Y:∀{x:Int},x.natAbs<=10000000000->x.natAbs<2^9000:=fun h=>yM (z5 h (z5 dC M1)) M2
  have oT:∀{X:List Int},(X.length=2^n-1/\∀x∈X,0<=x/\x<=10000000000)->kT (2^n-1) X:=fun h=>⟨h.1,fun x C=>Y (by have:=h.2 x C;lia)⟩
  obtain⟨L,rl,lL⟩:=Bn hn;obtain⟨vg,vb,lv⟩:=sS (r:=goal) (T:=T) oM hgb ⟨by lia,hT.2⟩;obtain⟨b,hm⟩:∃k,k=(aE n).length+G.length:=⟨_,rfl⟩;have hH:=fun(st:aa)(m:Md)(h:m.ok n G)=>Ew (st:=st) hn oG og h
  have ag:=fun(m:Md)(h:m.ok n G)(hb:m.hb n G goal=Â)=>Ki Q.Z h sG hb hb0
  obtain⟨wk,wl,wt⟩:=Md.ok_w sG;rw[pN,aD];show ∃r,(ai KQ rQ [Ls ns,Á,Á,Á,Á,Á,Á,Á,Á,Á,Á,Á,Á,Á] []).bind ay=À r/\_;unfold rQ;refine au (sl':=[Ls ns,Is n,Ls T,Zs (G.map Gv.av),Ls goal,Rs 2,Á,Á,Á,Á,Á,Á,Á,Á]) (st':=[A,B,.lst (iL D),O]) (by rw[d7];simp only[km,bJ,dg,gO,fb,fE,Å,rC,lA,ly,e1];rfl) ?_;have lG:∀st,bo dB [.fz (G.map Gv.av)] st=À (.int (G.length:Nat),st):=fun st=>by
   show À (AV.int ((G.map Gv.av).length:Int),_)=_;rw[zH]
  have lR:∀st,bo dB [.fz L] st=À (.int ((aE n).length:Nat),st):=fun st=>by
   show À (AV.int (L.length:Int),_)=_;rw[lL]
  generalize G.map Gv.av=o at *;refine au (sl':=[Ls ns,Is n,Ls T,Zs o,Ls goal,Rs 2,À g.av,Á,Á,Á,Á,Á,Á,Á]) (st':=[A,B,.lst (iL D),O]) (by simp[a0]) ?_;refine AH (by simp[hH _ g sG,hb0,ie]) ?_;refine au (sl':=[Ls ns,Is n,Ls T,Zs o,Ls goal,Rs 2,À g.av,Is b,Á,Á,Á,Á,Á,Á]) (st':=[A,B,.lst (iL D),O]) (by simp[rl,lR,lG,hm]) ?_;have c1:=f7 (st:=[A,B,.lst (iL D),O]) (ks:=KQ) (k:=1) (it:=.r1 (.v 7)) (t:=.nm 14) (c:=.no) (e:=.i 0) (sl:=[Ls ns,Is n,Ls T,Zs o,Ls goal,Rs 2,À g.av,Is b,Á,Á,Á,Á,Á,Á]) (gd:=[]) (em:=fun q:Nat=>AV.int (q:Int)) (xs:=È b) (B:=fun _=>Â) (F:=fun _=>AV.int 0) (jn rfl oM) rfl (by simp;lia) fun q hq=>⟨_,rfl,rfl,fun _=>rfl⟩
  rw[Ð.mpr (fun _ _=>rfl),show(È b).map (fun _=>AV.int 0)=iL (Æ b 0) by unfold iL;rw[ϰ,M!,Ā]]at c1;obtain⟨D1,W2,c2,hd1,hl1,lW2,bW2⟩:=sV (A:=A) (B:=B) (R:=[O]) (D:=D) (f:=fun y=>y%3) (ks:=KQ) (it:=.r1 (.v 7)) (e:=.bin .Mod (.ca Ã 4 (.cons (.v 5) .nil)) (.i 3)) (sl:=[Ls ns,Is n,Ls T,Zs o,Ls goal,Rs 2,À g.av,Is b,Á,Á,Á,Á,Á,Á]) (s:=14) (N:=b) (fun st=>jn rfl oM) oM rfl (fun q D x h0 h1=>by
   have p:=iY (A:=A) (B:=B) (R:=[O]) (D:=D) (x:=x);simp[p,d4,d5 (show(0:Int)<3 by decide)]) oM hd
  obtain⟨H,y,rfl⟩:=gB (D:=D1) (fun e=>by rw[e]at hl1;simp at hl1;lia);obtain⟨hy,hd2⟩:=hd1.at;simp only[zV,Ý]at hl1;obtain⟨d,J⟩:∃d,d=[Æ b 0,W2]:=⟨_,rfl⟩;have fl:∀L:List (List Int),rfs (aj L)=Â:=fun L=>eD fun x C=>by
   obtain⟨l,_,rfl⟩:=yD.mp C;simp[rf,bv]
  refine au (sl':=[Ls ns,Is n,Ls T,Zs o,Ls goal,Rs 2,À g.av,Is b,Rs 4,Á,Á,Á,Á,Á]) (st':=[A,B,.lst (iL (H++[y])),O,.lst (aj d)]) (by
   rw[d7,As,GK,bJ,c7,c1,Å,yI bv,Å,bJ,c2,J];rfl) ?_
  have p2:=iY (A:=A) (B:=B) (R:=[O,.lst (aj d)]) (D:=H) (x:=y);obtain ⟨k0,hk0⟩:∃ k:Int,k=1 + y % 3:=⟨_,rfl⟩;refine au (sl':=[Ls ns,Is n,Ls T,Zs o,Ls goal,Rs 2,À g.av,Is b,Rs 4,Is k0,Á,Á,Á,Á]) (st':=[A,B,.lst (iL H),O,.lst (aj d)]) (by simp [p2,d4,d5 (show (0:Int) < 3 by decide),hk0]) ?_;have kd:∀ st,aY st g.av (.int 0)=À (.str g.kind):=fun st=>by cases g <;> rfl
  have a1:∀(st:aa)(m:Md),cb .Eq st (.str m.kind) (.str "least")=À (match m with|.ls ..=>Â|_=>Ã):=fun st m=>by cases m<;>kernel_rfl
  have a3:∀(st:aa)(m:Md),cb .Eq st (.str m.kind) (.str "never")=À (match m with|.nv ..=>Â|_=>Ã):=fun st m=>by cases m<;>kernel_rfl
  have lT:∀W,aj d++[AV.fz (iL W)]=aj (d++[W]):=fun W=>by unfold aj;simp
  have lf:(aj d).length=2:=by rw[J];rfl
  refine au (sl':=[Ls ns,Is n,Ls T,Zs o,Ls goal,Rs 2,À g.av,Is b,Rs 4,Is (g.tm k0),Á,Á,Á,Á]) (st':=[A,B,.lst (iL H),O,.lst (aj (d++g.w1))]) (by
   have kd:=kd [A,B,.lst (iL H),O,.lst (aj d)];have a1:=a1 [A,B,.lst (iL H),O,.lst (aj d)] g;cases g with
   |ls p q X D K W =>
    have i4:aY [A,B,.lst (iL H),O,.lst (aj d)] (Md.ls p q X D K W).av (.int 4)=À (.fz (iL W)):=rfl;have i3:aY [A,B,.lst (iL H),O,.lst (aj (d++[W]))] (Md.ls p q X D K W).av (.int 3)=À (.int K):=rfl;generalize (Md.ls p q X D K W).av=t at *;have ap:=jG (ks:=KQ) (a:=.v 8) (e:=.ix (.v 6) (.i 4)) (y:=.fz (iL W)) (k:=4) (xs:=aj d) (sl:=[Ls ns,Is n,Ls T,Zs o,Ls goal,Rs 2,À t,Is b,Rs 4,Is k0,Á,Á,Á,Á]) (st:=[A,B,.lst (iL H),O,.lst (aj d)]) rfl (by simp[i4]) rfl oM;rw[lT]at ap;rw[eJ];simp only[ms,pR,gO,oq,xb,fb,fE,Å,á,kd,a1];show ai _ _ _ _=_;refine aq ap (aq (sl':=[Ls ns,Is n,Ls T,Zs o,Ls goal,Rs 2,À t,Is b,Rs 4,Is K,Á,Á,Á,Á]) (st':=[A,B,.lst (iL H),O,.lst (aj (d++[W]))]) (by simp[i3]) rfl)
   |nv W=>simp[kd,a1,Md.tm,Md.w1]
   |en X D Z=>simp[kd,a1,Md.tm,Md.w1]) ?_
  refine au (sl':=[Ls ns,Is n,Ls T,Zs o,Ls goal,Rs 2,À g.av,Is b,Rs 4,Is (g.tm k0),Á,Á,Á,Á]) (st':=[A,B,.lst (iL H),O,.lst (aj (d++(g.w1++g.w2)))]) (by
   have kd:=kd [A,B,.lst (iL H),O,.lst (aj (d++g.w1))];have a3:=a3 [A,B,.lst (iL H),O,.lst (aj (d++g.w1))] g;cases g with
   |nv W =>
    have i1:aY [A,B,.lst (iL H),O,.lst (aj d)] (Md.nv W).av (.int 1)=À (.fz (iL W)):=rfl;simp only[Md.w1,Md.w2,å,S3]at kd a3 ⊢;generalize (Md.nv W).av=t at *;have ap:=jG (ks:=KQ) (a:=.v 8) (e:=.ix (.v 6) (.i 1)) (y:=.fz (iL W)) (k:=4) (xs:=aj d) (sl:=[Ls ns,Is n,Ls T,Zs o,Ls goal,Rs 2,À t,Is b,Rs 4,Is ((Md.nv W).tm k0),Á,Á,Á,Á]) (st:=[A,B,.lst (iL H),O,.lst (aj d)]) rfl (by simp[i1]) rfl oM;rw[lT]at ap;rw[eJ];simp only[ms,pR,gO,oq,xb,fb,fE,Å,á,kd,a3];exact aq ap rfl
   |ls p q X D K W =>
    simp only[Md.w1,Md.w2,å]at kd a3 ⊢;simp[kd,a3]
   |en X D Z =>
    simp only[Md.w1,Md.w2,å]at kd a3 ⊢;simp[kd,a3]) ?_
  obtain⟨K,hK⟩:∃K,K=g.tm k0:=⟨_,rfl⟩;have bK:K.natAbs<2^9000:=by
   rw[hK];refine wt _ (Y ?_)
   have:=Õ y (show (3:Int) ≠ 0 by decide)
   have:=Ñ y (show (0:Int) < 3 by decide)
   lia
  obtain⟨u,hWs⟩:∃u,u=d++(g.w1++g.w2):=⟨_,rfl⟩;have lWs:u.length<=3:=by rw[hWs,zV,J];simp only[yY,ϱ];lia
  have oWs:∀W∈u,kT ((aE n).length+G.length) W:=fun W h=>by
   rw[hWs]at h;rcases zZ.mp h with h|h
   ·rw[J,zT,zM]at h
    rcases h with rfl|rfl
    ·exact⟨by rw[ü,hm],fun x C=>by rw[(List.mem_replicate.mp C).2];exact Y dC⟩
    ·refine⟨by lia,fun x C=>?_⟩
     obtain⟨y,_,_,rfl⟩:=bW2 x C
     have:=Õ y (show (3:Int) ≠ 0 by decide)
     have:=Ñ y (show (0:Int) < 3 by decide)
     exact Y oM
   ·exact wk W h
  rw[<- hK,<- hWs];clear hK hWs;obtain⟨E,Z,e3,hZ,hd3,hl3⟩:=uQ (A:=A) (B:=B) (R:=[O,.lst (aj u)]) (D:=H) hn oM hd2;refine au (sl':=[Ls ns,Is n,Ls T,Zs o,Ls goal,Rs 2,À g.av,Is b,Rs 4,Is K,Ls Z,Á,Á,Á]) (st':=[A,B,.lst (iL E),O,.lst (aj u)]) (by simp[e3,d4]) ?_;refine au (sl':=[Ls ns,Is n,Ls T,Zs o,Ls goal,Rs 2,À g.av,Is b,Rs 4,Is K,Ls Z,Rs 5,Á,Á]) (st':=[A,B,.lst (iL E),O,.lst (aj u),.lst (([]:List Md).map Md.av)]) rfl ?_;have apM:∀(j:List Md)(m:Md),j.map Md.av++[m.av]=(j++[m]).map Md.av:=fun j m=>by simp
  have oMm:∀{j:List Md}{m:Md},(∀m∈j,m.ok n G)->m.ok n G->∀m'∈j++[m],m'.ok n G:=fun h h1 m' hm=>by
   rcases zZ.mp hm with h'|h'
   ·exact h m' h'
   ·rw[zM.mp h'];exact h1
  refine iX (em:=fun W:List Int=>AV.fz (iL W)) (xs:=u) (gd:=[(4,.lst (aj u))]) (st0:=[A,B,.lst (iL E),O,.lst (aj u),.lst (([]:List Md).map Md.av)]) (fun i sl s=>∃(j:List Md)(y:Option AV),s=[A,B,.lst (iL E),O,.lst (aj u),.lst (j.map Md.av)]/\sl=[Ls ns,Is n,Ls T,Zs o,Ls goal,Rs 2,À g.av,Is b,Rs 4,Is K,Ls Z,Rs 5,y,Á]/\j.length=3*i/\∀m∈j,m.ok n G) (by
   rw[Cn];simp only[gO,fb,fE,Å];rw[jV (st:=[A,B,.lst (iL E),O,.lst (aj u),.lst (([]:List Md).map Md.av)]) (k:=4) rfl];rfl) (fun i sl s h=>by
   obtain⟨j,y,rfl,_⟩:=h;exact fg rfl) ⟨[],Á,rfl,rfl,rfl,fun _ h=>(zX h).elim⟩ ?_ ?_
  ·rintro i W sl s hW ⟨j,y,rfl,rfl,lM,I⟩
   have hi:i<3:=by have:=(zB.mp hW).1;lia
   have oW:=oWs W (zW hW);obtain⟨Sl,w⟩:∃s,s=[Ls ns,Is n,Ls T,Zs o,Ls goal,Rs 2,À g.av,Is b,Rs 4,Is K,Ls Z,Rs 5,Ls W,Á]:=⟨_,rfl⟩;have o1:(Md.nv W).ok n G:=oW;have o2:(Md.ls vg 1 T 1 K W).ok n G:=⟨⟨yM (z5 vb (z5 dC M1)) M2,Y dC⟩,⟨oT hT,Y dC⟩,bK,oW⟩;have o3:(Md.ls 0 1 (T.map fun _=>0) 1 K W).ok n G:=⟨⟨Y dC,Y dC⟩,⟨oT ⟨by rw[zH];exact hT.1,fun x C=>by obtain⟨_,_,rfl⟩:=yD.mp C;decide⟩,Y dC⟩,bK,oW⟩;refine⟨_,Sl,[A,B,.lst (iL E),O,.lst (aj u),.lst ((j++[Md.nv W]++[Md.ls vg 1 T 1 K W]++[Md.ls 0 1 (T.map fun _=>0) 1 K W]).map Md.av)],rfl,?_,_,_,rfl,w,by simp[lM];lia,oMm (oMm (oMm I o1) o2) o3⟩;show ai KQ _ [Ls ns,Is n,Ls T,Zs o,Ls goal,Rs 2,À g.av,Is b,Rs 4,Is K,Ls Z,Rs 5,Ls W,Á] _=_;have mc:=fun st=>wu (st:=st) (ks:=KQ) (l:=T) (e:=.i 0) (a:=.v 2) (f:=fun _=>0) (sl:=Sl) (s:=14) (by rw[w];rfl) (by rw[w];rfl) oM fun _=>rfl
   have U:=jG (ks:=KQ) (a:=.v 11) (e:=.tu (.cons (.s "never") (.cons (.v 12) .nil))) (y:=(Md.nv W).av) (k:=5) (xs:=j.map Md.av) (sl:=Sl) (st:=[A,B,.lst (iL E),O,.lst (aj u),.lst (j.map Md.av)]) (by rw[w];rfl) (by rw[w];rfl) rfl (by simp;lia);rw[apM]at U;have ap2:=jG (ks:=KQ) (a:=.v 11) (e:=.tu (.cons (.s "least") (.cons (.tu (.cons (.ca Â 6 (.cons (.v 4) (.cons (.v 2) .nil))) (.cons (.i 1) .nil))) (.cons (.tu (.cons (.v 2) (.cons (.i 1) .nil))) (.cons (.v 9) (.cons (.v 12) .nil)))))) (y:=(Md.ls vg 1 T 1 K W).av) (k:=5) (xs:=(j++[Md.nv W]).map Md.av) (sl:=Sl) (st:=[A,B,.lst (iL E),O,.lst (aj u),.lst ((j++[Md.nv W]).map Md.av)]) (by rw[w];rfl) (by rw[w];simp[lv];rfl) rfl (by simp;lia);rw[apM]at ap2;have ap3:=jG (ks:=KQ) (a:=.v 11) (e:=.tu (.cons (.s "least") (.cons (.tu (.cons (.i 0) (.cons (.i 1) .nil))) (.cons (.tu (.cons (.nw Ã (.lc 1 (.e (.v 2)) (.nm 14) .no (.i 0))) (.cons (.i 1) .nil))) (.cons (.v 9) (.cons (.v 12) .nil)))))) (y:=(Md.ls 0 1 (T.map fun _=>0) 1 K W).av) (k:=5) (xs:=(j++[Md.nv W]++[Md.ls vg 1 T 1 K W]).map Md.av) (sl:=Sl) (st:=[A,B,.lst (iL E),O,.lst (aj u),.lst ((j++[Md.nv W]++[Md.ls vg 1 T 1 K W]).map Md.av)]) (by rw[w];rfl) (by
    simp only[xb,Lm,bJ,dg,oq,Å,á,mc];rw[w];rfl) rfl (by simp;lia)
   rw[apM]at ap3;rw[<- w];exact aq U (aq ap2 (aq ap3 rfl))
  rintro sl s ⟨j,y,rfl,rfl,lM,I⟩;have nt:∀{X:List Int} (M:Nat),(∀x∈X,x.natAbs<M)->∀x∈X.map (fun x=>0-x),x.natAbs<M:=fun M h x C=>by
   obtain⟨y,hy,rfl⟩:=yD.mp C
   have:=h y hy
   lia
  obtain⟨Z4,hZ4⟩:∃Z4,Z4=[Z,Z.map fun x=>0-x,goal.map fun x=>0-x,goal]:=⟨_,rfl⟩;have oZ4:∀V∈Z4,kT (2^n-1) V:=fun V h=>by
   rw[hZ4]at h;simp only[zT,zX,or_false]at h;rcases h with rfl|rfl|rfl|rfl
   ·exact oT hZ
   ·exact⟨by rw[zH];exact hZ.1,nt _ (oT hZ).2⟩
   ·exact⟨by rw[zH];exact hg,nt _ og.2⟩
   ·exact og
  have l4:Z4.length=4:=by rw[hZ4];rfl
  have lM:j.length<=9:=by lia
  refine iX (em:=fun W:List Int=>AV.fz (iL W)) (xs:=Z4) (gd:=[]) (st0:=[A,B,.lst (iL E),O,.lst (aj u),.lst (j.map Md.av)]) (fun i sl s=>∃(j:List Md)(y:Option AV),s=[A,B,.lst (iL E),O,.lst (aj u),.lst (j.map Md.av)]/\sl=[Ls ns,Is n,Ls T,Zs o,Ls goal,Rs 2,À g.av,Is b,Rs 4,Is K,Ls Z,Rs 5,y,Á]/\j.length<=9+i/\∀m∈j,m.ok n G) (by
   have m1:=wu (st:=[A,B,.lst (iL E),O,.lst (aj u),.lst (j.map Md.av)]) (ks:=KQ) (l:=Z) (e:=.bin .Sub (.i 0) (.v 14)) (a:=.v 10) (f:=fun x=>0-x) (sl:=[Ls ns,Is n,Ls T,Zs o,Ls goal,Rs 2,À g.av,Is b,Rs 4,Is K,Ls Z,Rs 5,y,Á]) (s:=14) rfl rfl oM fun _=>rfl
   have m2:=wu (st:=[A,B,.lst (iL E),O,.lst (aj u),.lst (j.map Md.av)]) (ks:=KQ) (l:=goal) (e:=.bin .Sub (.i 0) (.v 14)) (a:=.v 4) (f:=fun x=>0-x) (sl:=[Ls ns,Is n,Ls T,Zs o,Ls goal,Rs 2,À g.av,Is b,Rs 4,Is K,Ls Z,Rs 5,y,Á]) (s:=14) rfl rfl oM fun _=>rfl
   rw[Cn,c7,GK,bJ,gO];simp only[fb,fE,Å,bJ,m1,m2,gO,dg,á];have t:rfs [AV.fz (iL Z),AV.fz (iL (Z.map fun x=>0-x)),AV.fz (iL (goal.map fun x=>0-x)),AV.fz (iL goal)]=Â:=fl [Z,Z.map fun x=>0-x,goal.map fun x=>0-x,goal];rw[hZ4,yI (show cO _=Â from rfl),Å];simp only[t];rfl) (fun _ _ _ _=>rfl) ⟨j,y,rfl,rfl,lM,I⟩ ?_ ?_
  ·rintro i W sl s hW ⟨j,y,rfl,rfl,lM,I⟩
   have hi:i<4:=by have:=(zB.mp hW).1;lia
   have oW:=oZ4 W (zW hW);have o1:(Md.en T 1 W).ok n G:=⟨⟨oT hT,Y dC⟩,oW⟩;refine⟨_,[Ls ns,Is n,Ls T,Zs o,Ls goal,Rs 2,À g.av,Is b,Rs 4,Is K,Ls Z,Rs 5,Ls W,Á],[A,B,.lst (iL E),O,.lst (aj u),.lst ((j++[Md.en T 1 W]).map Md.av)],rfl,?_,_,_,rfl,rfl,by simp;lia,oMm I o1⟩;have U:=jG (ks:=KQ) (a:=.v 11) (e:=.tu (.cons (.s "endless") (.cons (.tu (.cons (.v 2) (.cons (.i 1) .nil))) (.cons (.v 12) .nil)))) (y:=(Md.en T 1 W).av) (k:=5) (xs:=j.map Md.av) (sl:=[Ls ns,Is n,Ls T,Zs o,Ls goal,Rs 2,À g.av,Is b,Rs 4,Is K,Ls Z,Rs 5,Ls W,Á]) (st:=[A,B,.lst (iL E),O,.lst (aj u),.lst (j.map Md.av)]) rfl rfl rfl (by simp;lia);rw[apM]at U;exact aq U rfl
  rintro sl s ⟨j,y,rfl,rfl,lM,I⟩;obtain⟨S,hS⟩:∃S,S=[A,B,.lst (iL E),O,.lst (aj u),.lst (j.map Md.av)]:=⟨_,rfl⟩;have gS:S[5]?=À (.lst (j.map Md.av)):=by rw[hS];rfl
  rw[<- hS];refine iX (em:=Md.av) (xs:=j) (gd:=[(5,.lst (j.map Md.av))]) (st0:=S) (fun i sl s=>s=S/\∃z,sl=[Ls ns,Is n,Ls T,Zs o,Ls goal,Rs 2,À g.av,Is b,Rs 4,Is K,Ls Z,Rs 5,y,z]) (by
   rw[Cn];simp only[gO,fb,fE,Å];rw[jV gS];rfl) (fun i sl s h=>by rw[h.1];exact fg gS) ⟨rfl,_,rfl⟩ ?_ ?_
  ·rintro i m sl s hm ⟨rfl,z,rfl⟩
   have om:=I m (zW hm);refine⟨_,[Ls ns,Is n,Ls T,Zs o,Ls goal,Rs 2,À g.av,Is b,Rs 4,Is K,Ls Z,Rs 5,y,À m.av],s,rfl,?_,rfl,_,rfl⟩;show ai KQ _ [Ls ns,Is n,Ls T,Zs o,Ls goal,Rs 2,À g.av,Is b,Rs 4,Is K,Ls Z,Rs 5,y,À m.av] _=_;have hm:=hH s m om;have ag:=ag m om;have kd0:=kd s;have P:aY s m.av (.int 0)=À (.str m.kind):=by cases m<;>rfl
   have q1:=a1 s m;have ne:m.kind=g.kind->cb .NotEq s (.str m.kind) (.str g.kind)=À Ã:=fun h=>by
    rw[<- h];cases m<;>kernel_rfl
   obtain⟨t,ht⟩:∃t,t=m.av:=⟨_,rfl⟩;obtain⟨t0,ht0⟩:∃t,t=g.av:=⟨_,rfl⟩;obtain⟨c,hc⟩:∃c,c=m.hb n G goal:=⟨_,rfl⟩;rw[<- ht,<- hc]at hm;rw[<- ht]at P;rw[<- ht0]at kd0;rw[<- ht,<- ht0];refine aq (sl':=[Ls ns,Is n,Ls T,Zs o,Ls goal,Rs 2,À t0,Is b,Rs 4,Is K,Ls Z,Rs 5,y,À t]) (st':=s) ?_ rfl;rw[wG (v:=c) (st':=s) (by simp[hm,ie])];cases c with
   |false=>rfl
   |true =>
    have ag:=ag hc.symm;rw[yI rfl];have kk:m.kind=g.kind:=by cases m<;>cases g<;>first|rfl|exact ag.elim
    refine aq (sl':=[Ls ns,Is n,Ls T,Zs o,Ls goal,Rs 2,À t0,Is b,Rs 4,Is K,Ls Z,Rs 5,y,À t]) (st':=s) (by rw[wG (v:=Ã) (st':=s) (by simp[kd0,P,ne kk])];rfl) ?_;refine aq (sl':=[Ls ns,Is n,Ls T,Zs o,Ls goal,Rs 2,À t0,Is b,Rs 4,Is K,Ls Z,Rs 5,y,À t]) (st':=s) ?_ rfl;rw[wG (v:=Ã) (st':=s) ?_]
    ·rfl
    cases m with
    |nv W=>simp[P,q1]
    |en X D Z=>simp[P,q1]
    |ls p q X D K W =>
     cases g with
     |nv _=>exact ag.elim
     |en _ _ _=>exact ag.elim
     |ls p0 q0 X0 D0 K0 W0 =>
      have ag:p*q0=p0*q:=ag;have j1:aY s t (.int 1)=À (.tup [.int p,.int q]):=by rw[ht];rfl
      have j2:aY s t0 (.int 1)=À (.tup [.int p0,.int q0]):=by rw[ht0];rfl
      have g0:∀p q:Int,aY s (.tup [.int p,.int q]) (.int 0)=À (.int p):=fun _ _=>rfl
      have g1:∀p q:Int,aY s (.tup [.int p,.int q]) (.int 1)=À (.int q):=fun _ _=>rfl
      have u1:aZ .Mult s (.int p) (.int q0)=À (.int (p*q0)):=ba (cq om.1.1 sG.1.2);have u2:aZ .Mult s (.int p0) (.int q)=À (.int (p0*q)):=ba (cq sG.1.1 om.1.2);simp[P,q1,j1,j2,g0,g1,u1,u2,ag]
  rintro sl s ⟨rfl,z,rfl⟩;exact fX (v:=.bl Â) (st':=s) rfl rfl
 obtain⟨⟨v,s⟩,e,h⟩:=key;have h:v=.bl Â:=h;subst h;exact⟨s,e⟩
theorem LK:Room e_law.d Ż:=⟨rfl,by decide,by decide,rfl⟩
theorem C8:∀t∈(Ol.tb:List (Ç×Pos×Str)),t.1∈([(182,180)]:List (Ç×Addr)).map (·.2):=by
 intro t a;have:t=(180,⟨135,30,135,63⟩,("Sheet.raising_column":Ì)++".<locals>."++"<lambda>"):=zM.mp a;rw[this];exact zM.mpr rfl
theorem holds:∀ns:List Int,ns.length<=63->∃st,KR [.fz (ns.map .int)] []=À (.bl Â,st):=fun _ h=>Jp h
end
end LW
namespace PySem.W.Fast
def tw16734431691624549635:=()
def tw9113655103397409092:=()
def tw6751832265769264792:=()
def tw5880504616672527337:=()
def tw8346302662336297204:=()
def tw2809614374639889386:=()
def tw5033878999896465837:=()
def tw2558191695749892437:=()
def tw17385233953629107836:=()
def tw16197480922697878341:=()
def tw11659412276501060485:=()
def tw15161232620947047402:=()
def tw17759298975989266914:=()
def tw10817487448545486655:=()
def tw11403907957970407434:=()
def tw10601690879270601337:=()
def tw401539894823700657:=()
def tw8749839063377165803:=()
def tw447546404798584417:=()
def tw992310401974687541:=()
def tw17978913483386744402:=()
def tw9315487102931167263:=()
def tw10206303434214608732:=()
def tw12421364748001448540:=()
def tw16642299910309608049:=()
def tw5110912291025947124:=()
def tw13045808540358606639:=()
def tw16455365894682553141:=()
def tw16385886251400733279:=()
def tw12473085485379133343:=()
def tw7196595119296547189:=()
def tw3209686154271278986:=()
def tw2961678543491584817:=()
def tw1139343230131308847:=()
def tw8307275082498379795:=()
def tw9189653058906817148:=()
def tw10604620281480031959:=()
def tw17452058071421944603:=()
def tw4796986888670056734:=()
def tw1458277283141129483:=()
def tw345442131784326628:=()
def tw17227939148761271092:=()
def tw13577932011623798462:=()
def tw10129544922557425413:=()
def tw566619263702492116:=()
def tw6499919640964291824:=()
def tw17129164977352275071:=()
def tw10451053185886452568:=()
def tw14930659134112167687:=()
def tw14123455625262437420:=()
def tw15951022064197115743:=()
def tw2296493087176723232:=()
def tw10738225494242580084:=()
def tw9943664031658935222:=()
def tw16934410957800066224:=()
def tw2844608029433120766:=()
def tw7930007704738976872:=()
def tw16957381062916636031:=()
def tw10955229665257779034:=()
def tw8018905521041858820:=()
def tw16604512061239125884:=()
def tw17342352627578975065:=()
def tw17547002172496943102:=()
def tw5046135628687629519:=()
def tw5374970660047922635:=()
def tw17638825643845087955:=()
def tw16020212108781061967:=()
def tw4310632698442138953:=()
def tw6882197533969927139:=()
def tw3687650353583782800:=()
def tw7064841155717994578:=()
def tw16247390296659685914:=()
def tw15204011119139313638:=()
def tw17676315468596049702:=()
def tw1592710773162430745:=()
def tw9873505334750399660:=()
def tw5863690769350491686:=()
def tw429175994898355634:=()
def tw4856969895302872409:=()
def tw14360335619177849700:=()
def tw14553075862473180504:=()
def tw6979752939247719389:=()
def tw13542691490669777228:=()
def tw12871107825854861556:=()
def tw14530712536266441056:=()
def tw9383211629165904287:=()
def tw11640872922461147508:=()
def tw2606334213909223142:=()
def tw15390949079110311306:=()
def tw13681654121247058040:=()
def tw7642777648297629648:=()
def tw176232835928114249:=()
def tw10076970464918952017:=()
def tw113957096643415564:=()
def tw16856031112006190638:=()
def tw11567688273307127525:=()
def tw10892574679569474043:=()
def tw12767641350687247274:=()
def tw5615071598519098532:=()
def tw5900754435419224761:=()
def tw5763193559751267082:=()
def tw10196066105350438636:=()
def tw4355638099292401486:=()
def tw16247988544776795346:=()
def tw16899479340368695108:=()
def tw9116058391759324743:=()
def tw8035667053902795383:=()
def tw8637926278148410968:=()
def tw16143943521141822186:=()
def tw6260455373511733964:=()
def tw9088562083131990929:=()
def tw10038410449255000200:=()
def tw17917799117153198248:=()
def tw2948681608468479515:=()
def tw15596237095920998053:=()
def tw12022171352533059039:=()
def tw3184642615569512874:=()
def tw12436583500047416150:=()
def tw7044186415695236994:=()
def tw4321309122169548033:=()
def tw16214481264396144157:=()
def tw8635981132871067833:=()
def tw801592897210319606:=()
def tw644496180861854352:=()
def tw3927854950253962565:=()
def tw13671740363993911839:=()
def tw4173025840335462852:=()
def tw17684527122937282847:=()
def tw3853847205391245374:=()
def tw12872854046987627183:=()
def tw13335384848128930756:=()
def tw15401587134807281475:=()
def tw2782641161653949400:=()
def tw5102226501831450677:=()
def tw7191564959542985654:=()
def tw10949416243042105415:=()
def tw9387315235440089729:=()
def tw13769844178158143460:=()
def tw5744717331926531338:=()
def tw12044032356166225042:=()
def tw12715103964302598407:=()
def tw6289053026405877078:=()
def tw650138797745360822:=()
def tw10636582958272518617:=()
def tw17711994087914174831:=()
def tw10239238625905523097:=()
def tw17661974436624442802:=()
def tw920950598350775050:=()
def tw11626482833148735216:=()
def tw8377559690297134019:=()
def tw2393281469737728426:=()
def tw12003766568921658657:=()
def tw13619429391986506884:=()
def tw1075237943868625638:=()
def tw2444594407447129689:=()
def tw1571205757766794115:=()
def tw3610631195713310994:=()
def tw12166870748654508638:=()
def tw8150865343956569444:=()
def tw17538632759084644557:=()
def tw8284744532344009925:=()
def tw8969368659663264698:=()
def tw11554242293435226480:=()
def tw17347734021240346441:=()
def tw10795101625129339393:=()
def tw3730736298581024540:=()
def tw6042199762627370120:=()
def tw171333371458850219:=()
def tw4272522096504629596:=()
def tw12164107831574258515:=()
def tw9420975244875678191:=()
def tw6005523529932454997:=()
def tw5365877510776614774:=()
def tw16786991355557639161:=()
def tw15109188933756150727:=()
def tw6845297366047782714:=()
def tw3738682018619912090:=()
def tw1022352939882034129:=()
def tw9731575212349446961:=()
def tw6285312003631911522:=()
def tw1868961358027699697:=()
def tw12400271955324905270:=()
def tw8355660020198595548:=()
def tw15855686813201102139:=()
def tw6912475806062563761:=()
def tw5884322132410465590:=()
def tw1836594775316469417:=()
def tw14157054411388940090:=()
def tw1246220992129902962:=()
def tw1904663792942128615:=()
def tw1794941777331954434:=()
def tw12395237015575278587:=()
def tw7325904087224796915:=()
def tw2103348566631030139:=()
def tw16566739340605356644:=()
def tw17827762346859486777:=()
def tw15060511461216394611:=()
def tw11682401629668199927:=()
def tw11603590804136744696:=()
def tw8759195994288331219:=()
def tw4545906265798310481:=()
def tw12005575716292990508:=()
def tw7110939440297514656:=()
def tw5630850505443754991:=()
def tw9200780081158068781:=()
def tw2607066389073261897:=()
def tw1985913769528812113:=()
def tw16533446529247191824:=()
def tw15259055787122812845:=()
def tw15164647294265911464:=()
def tw17701616255906123357:=()
def tw5507574412275304464:=()
def tw13815309709162032035:=()
def tw9614621111841247142:=()
def tw9234604909150098654:=()
def tw2034933171921680322:=()
def tw149144817360399659:=()
def tw13313132150407095212:=()
def tw13194083196259152518:=()
def tw6125165584592344667:=()
def tw4640221512386715904:=()
def tw15623348735469279893:=()
def tw14314285634427476518:=()
def tw9883958171226995750:=()
def tw9082178251333167987:=()
def tw9061697650428412283:=()
def tw9029225072907777121:=()
def tw8106509961808666038:=()
def tw6796673446699759067:=()
def tw6580939362331311073:=()
def tw6296208523473922214:=()
def tw5761950887738133031:=()
def tw4711420954198741577:=()
def tw448998699223273682:=()
def tw4355509101344323899:=()
def tw3624316530439745829:=()
def tw2830966783210597274:=()
def tw2655240331163739545:=()
def tw2476560046131765617:=()
def tw18374171682955850824:=()
def tw18131554924476125711:=()
def tw17400391668554822416:=()
def tw16837164579399806479:=()
def tw16552433253731205097:=()
def tw16521700374608342817:=()
def tw16296078186278662996:=()
def tw16125203789904619141:=()
def tw15738550364126761928:=()
def tw1549149510699763177:=()
def tw1507471620406128401:=()
end PySem.W.Fast
open PySem PySem.W PyProof.Rows
set_option maxRecDepth 100000 in
set_option maxHeartbeats 0 in
theorem PySem.Challenge.cw_telltight_k11_whole_no_wrong_answer_holds : PySem.Challenge.rw_telltight_k11_whole_no_wrong_answer.Holds := by
 w_on; o_law; k_head; (case hw => w_witness2)
 k_fill
 refine R.walk_R (l := PySem.Challenge.rw_telltight_k11_whole_no_wrong_answer) (k := LW.e_law.d) (fn := LW.KR) (tabs := [(182, 180)]) rfl rfl ?hrr (fun w h Y => ⟨km_in_of Y, fun q hq => km_tabs_of Y q.2 (by simp only [zM] at hq ⊢; rw [hq])⟩) ?hcc ?hKK ?htt LW.holds ?F
 case hrr => exact LW.LK
 case hcc => intro w q hq; simp only [zM] at hq; rw [hq]; kernel_rfl
 case hKK => intro w; kernel_rfl
 case htt => intro t ht; exact LW.C8 t ht
 case F =>
  intro w mg fa h KX G hmg;refine R.law_F (gs := LW.gs) (cl := LW.cl) (pre := LW.pre) (e := LW.e_law) KX G hmg ?nb ?gs ?cl LW.EG LW.EH rfl ?fs ?law rfl LW.Jq
  case nb => kernel_rfl
  case gs => intro p hp; simp only [LW.gs, zT, zX, or_false] at hp
  case cl => intro p hp; simp only [LW.cl, zT, zX, or_false] at hp; rcases hp with rfl <;> exact ⟨⟨_, by k_is, by kernel_rfl, by kernel_rfl, by kernel_rfl, by kernel_rfl⟩, ⟨_, by k_is, by kernel_rfl⟩⟩
  case law => exact R.ff (by k_is) (by k_is) (by kernel_rfl) (by k_is) (.inl rfl)
  case fs =>
   repeat' first | exact R.fes_n | refine R.fes_c ?_ ?_
   iterate 19 next => exact R.fe_f (by exact rfl) (by k_is) (by k_is) (by kernel_rfl) (by k_is) (.inl rfl)
   next => exact R.fe_k (by exact rfl) (by k_is) (by k_is) (by k_is) (by kernel_rfl) (by k_is) (by k_is) (.inl rfl) (by kernel_rfl) (by kernel_rfl)
   next => exact R.fe_m (by exact rfl) (by k_is) (by k_is) (by k_is) (by kernel_rfl) (by k_is) (by k_is) (.inl rfl)
   next => exact R.fe_f (by exact rfl) (by k_is) (by k_is) (by kernel_rfl) (by k_is) (.inl rfl)
   iterate 2 next => exact R.fe_m (by exact rfl) (by k_is) (by k_is) (by k_is) (by kernel_rfl) (by k_is) (by k_is) (.inl rfl)
   next => exact R.fe_m (by exact rfl) (by k_is) (by k_is) (by k_is) (by kernel_rfl) (by k_is) (by k_is) (.inr ⟨_, _, _, rfl, rfl, by kernel_rfl, rfl⟩)
   iterate 3 next => exact R.fe_m (by exact rfl) (by k_is) (by k_is) (by k_is) (by kernel_rfl) (by k_is) (by k_is) (.inl rfl)
   next => exact R.fe_f (by exact rfl) (by k_is) (by k_is) (by kernel_rfl) (by k_is) (.inl rfl)
   iterate 4 next => exact R.fe_m (by exact rfl) (by k_is) (by k_is) (by k_is) (by kernel_rfl) (by k_is) (by k_is) (.inl rfl)
   iterate 10 next => exact R.fe_f (by exact rfl) (by k_is) (by k_is) (by kernel_rfl) (by k_is) (.inl rfl)
   next => exact R.fe_m (by exact rfl) (by k_is) (by k_is) (by k_is) (by kernel_rfl) (by k_is) (by k_is) (.inl rfl)
   iterate 20 next => exact R.fe_f (by exact rfl) (by k_is) (by k_is) (by kernel_rfl) (by k_is) (.inl rfl)
#print axioms PySem.Challenge.cw_telltight_k11_whole_no_wrong_answer_holds
