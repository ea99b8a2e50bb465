import PyProof.Rows.All
import Wide.All
import OpenK.AllK
import Wide.FinOn
import PySem.Challenge.RW_telltight_k23_whole_books_bent
set_option bootstrap.genMatcherCode false
set_option compiler.extract_closed false
noncomputable section
open Array renaming getElem?_toList → x?, length_toList → ñ, size_append → R8, toList → X4, toList_append → K?
open Bool renaming and_eq_true → zC, and_eq_true_iff → Œ, and_self → Ģ, false → Ã, false_eq_true → yA, false_ne_true → Ĝ, or_eq_true_iff → ϐ, or_false → X3, true → Â
open Classical renaming axiomOfChoice → Ϲ, byContradiction → ð, choose → č, choose_spec → ę, propDecidable → ϸ
open ForInStep renaming yield → į
open Function renaming comp → T4
open Int renaming add_zero → Ġ, dvd_natAbs → i!, ediv_mul_cancel → ϑ, emod_lt_of_pos → ğ, emod_nonneg → ġ, eq_of_mul_eq_mul_left → ť, eq_of_mul_eq_mul_right → Ş, fdiv_eq_ediv_of_nonneg → h?, le_of_eq → Z0, le_of_lt → Č, le_of_mul_le_mul_left → p?, le_of_mul_le_mul_right → Ă, le_refl → ϵ, le_trans → Ň, lt_or_le → yU, lt_trichotomy → U1, mul_add → P7, mul_assoc → t!, mul_comm → ϧ, mul_ediv_cancel' → P0, mul_eq_zero → W2, mul_le_mul_of_nonneg_right → Ô, mul_lt_mul_of_pos_left → ŝ, mul_neg_of_neg_of_pos → p!, mul_neg_of_pos_of_neg → Ť, mul_nonneg → ç, mul_nonpos_of_nonneg_of_nonpos → Ϙ, mul_nonpos_of_nonpos_of_nonneg → ā, mul_one → P?, mul_pos → P!, mul_zero → yO, natAbs_add_le → U0, natAbs_mul → yZ, natAbs_natCast → ϗ, natAbs_neg → ã, natCast_add → W1, natCast_dvd_natCast → ű, one_mul → ſ, toNat_natCast → Ϧ, toNat_of_nonneg → Ř, zero_mul → yP
open List renaming all_cons → Ļ, all_eq_true → yQ, any_cons → Ũ, any_eq_true → ĭ, any_map → Ϡ, append_assoc → yM, append_nil → ó, cons_append → ϭ, contains_iff_mem → I!, countP_cons → U', dropLast_concat_getLast → ϴ, dropLast_eq_take → H?, drop_eq_getElem_cons → ê, drop_length → Ϭ, drop_nil → X0, drop_of_length_le → v?, drop_zero → ń, eraseIdxIfInBounds_toArray → ϥ, filterMap_cons → þ, filterMap_map → R!, filter_cons → U?, filter_eq_nil_iff → v!, filter_eq_self → ì, find?_cons → Ć, flatten_cons → Ĉ, foldl → Q9, foldl_append → ϟ, foldl_cons → â, forIn_cons → V6, forIn_nil → W0, getD_eq_getElem?_getD → zD, getElem?_append_left → zN, getElem?_append_right → z6, getElem?_cons_succ → ē, getElem?_cons_zero → s?, getElem?_drop → Q8, getElem?_eq_getElem → zF, getElem?_eq_none → ä, getElem?_eq_some_iff → zB, getElem?_map → zR, getElem?_of_mem → z8, getElem?_range → Ķ, getElem?_replicate → ù, getElem?_reverse → H!, getElem?_set → yW, getElem?_set_ne → í, getElem?_set_self → ï, getElem?_take_of_lt → ĺ, getElem?_toArray → G?, getElem?_zipIdx → Ż, getElem?_zip_eq_some → ş, getElem_inj → ŋ, getElem_mem → Ý, getElem_range → Q7, idxOf_cons → ŵ, isEmpty_iff → é, length → ő, length_append → zV, length_cons → yX, length_filter_le → Ŋ, length_map → zH, length_nil → V0, length_range → Ĥ, length_replicate → ŉ, length_reverse → ĵ, length_set → ą, length_singleton → ģ, length_take → ϫ, length_zip → ŀ, length_zipIdx → Q6, lookup → Ő, lookup_cons → yN, map_append → Ą, map_congr_left → ý, map_cons → zO, map_drop → X', map_map → Ü, map_nil → Ń, map_set → Y0, map_take → n?, mem_append → zZ, mem_append_left → zL, mem_append_right → zK, mem_cons → zT, mem_cons_of_mem → zQ, mem_cons_self → z7, mem_filter → Ñ, mem_filterMap → Q5, mem_map → yC, mem_map_of_mem → Ϗ, mem_of_getElem? → zW, mem_or_eq_of_mem_set → ă, mem_range → Ë, mem_reverse → U!, mem_singleton → zM, nodup_append → Ϟ, nodup_cons → Ŀ, nodup_nil → W?, not_mem_nil → zX, of_mem_zip → û, range → Ä, range' → ħ, range_succ → V?, range_succ_eq_map → u?, replicate → È, replicate_succ → ë, reverse_cons → Ţ, set_append_right → G!, set_set → u!, size_toArray → zI, sum_cons → n!, take_add_one → ϝ, take_append_drop → F?, take_length → Ĭ, take_of_length_le → ł, take_sublist → T0, take_succ → W!, take_zero → V9, zip_cons_cons → ě
open List.Pairwise renaming nil → Ŷ
open Nat renaming add_assoc → ŏ, add_sub_cancel_left → Ű, ble → ß, ble_eq_true_of_le → yK, blt → T9, blt_eq → T?, dvd_trans → Y?, eq_one_of_mul_eq_one_left → ϳ, gcd → ú, gcd_comm → Z', gcd_dvd_left → V!, gcd_dvd_right → T8, le_add_right → ϱ, le_antisymm → e?, le_of_ble_eq_true → zS, le_of_eq → Ϥ, le_of_lt → yY, le_of_not_lt → U9, le_of_succ_le → ċ, le_refl → zP, le_succ → ž, le_total → Z?, le_trans → z5, log2_lt → Ċ, lt_add_of_pos_right → ů, lt_irrefl → y0, lt_of_le_of_lt → yL, lt_of_lt_of_le → zJ, lt_or_ge → yT, lt_succ_of_le → ϣ, lt_succ_self → ĳ, lt_trans → F!, min_eq_left → e!, min_le_right → U8, mod_eq_of_lt → U7, mod_lt → T!, mul_le_mul → Ŝ, mul_le_mul_right → Ž, ne_of_gt → Ĳ, ne_of_lt → zU, not_lt_zero → d?, one_le_two_pow → ϖ, one_mul → ϲ, or_lt_two_pow → ņ, pow_add → ŧ, pow_le_pow_right → ĉ, pow_lt_pow_right → œ, pow_succ → E?, sub_self → Z!, sub_zero → Ϣ, succ_mul → E!, succ_pos → D?, two_pow_pos → Ö, zero_le → Ě
open Ne renaming symm → æ
open Option renaming bind_some → Æ, getD_none → Q4, getD_some → ň, isSome_iff_exists → Ĵ, isSome_map → Ł, isSome_some → K!, map_eq_some_iff → zE, map_some → Û, none → Á, some → À, toList_some → J?
open Option.some renaming inj → yD
open PyProof.Rows renaming AllBare → ϊ, Call_ → I?, Constant_none → P8, IntsAre → ţ, Subscript_ → X!, boot_range → ϯ, callWith_builtin1 → _?, callWith_type1 → Ó, envOfC → Ϯ, evalArgs_kwB → _!, get?_update_seq → Z5, kws_cons → Z9, kws_nil → Z8, seqObj → Ŵ, sub_tuple_tuple → Z4, subscriptTail → ϩ, subscriptTail_builtinR → S5
open PySem renaming Addr → Ç, Arguments → ϡ, Around → ć, BindsTo → x!, BoolOp → J!, Builtin → w?, CmpOp → ϙ, Env → R?, Expr → Î, Fin → S7, FuncData → Ē, Heap → è, IsRangeIter → o?, Keyword → Ŏ, NameKind → Ŭ, Obj → Y9, Operator → Ā, Paired → S9, PassesOwn → Ϝ, PlainAttrs → D!, Pos → ė, Program → Ò, PyData → Ņ, Reads → Ų, ReadsAll → a?, Scope → ĝ, Sem → Y7, Shared → É, Stmt → ľ, Str → Í, Value → Å, Within → r?, World → Ú, argsOk → C!, assignEach → à, atKey → B', attributeBase → Ė, backTo → õ, backToKw → ō, behindInMarks → Ϫ, binaryOp → Ź, bindArgs → B?, bindC → Q2, bindL → Q0, bootBuiltins → å, builtinsNs → ĕ, cLine → ř, call → O?, callWith → Ū, call_list_range → Z6, call_meets → Ŗ, callerA → ż, cellsFrom → ď, closureFor → W8, codeAny → Ō, codeAny_builtin → ώ, codeAny_call_builtin → U5, codeAny_mono → Š, compareOp → Ď, defaultsOf → W7, evalPart_none → N!, foldedSetIterable → ô, getItem → S6, getMethod → Ŧ, isTrue → B!, keywordEach → đ, letOwnedTupleGo → ύ, mainGlobals → Ð, mem_of_lookup → ı, newEnv → W6, newFunctionEnv → A', numAt → A?, numAt_eq → U4, nums_intItems → M?, plainId_quiet → M!, pushCells → Ÿ, pushCells_keeps → q?, pyNext → z?, rangeSize_one → L', rawInt → z!, recursionLimit → ϔ, seqIndex_neg → a!, seqIndex_of → j!, seqItems? → Y4, setItem → Ϛ, sizeLine → Ì, sizeLine_eq → ϓ, sliceBounds → ĸ, slicePick → Q!, small_one → Y3, standAt → ŗ, starEach → Ê, storeName → Y2, swappedStores → Ħ, swapsWith → Ľ, swapsWithSole → Ϩ, sysModules → Ĕ, tupleKind → ŷ, tupleKind_room_in1 → ũ, typeIs_int → W5, unaryOp → X6, updateSeq → P9, valueAt → ϻ, wpAny → Ï, wpAny_Call_Name_kw → ö, wpAny_Name → W4, wpAny_assign_Name → X5, wpAny_bind → yE, wpAny_call → y?, wpAny_comprehension_free → L?, wpAny_execs_nil → q!, wpAny_getItem_list_neg → S3, wpAny_getItem_list_slice → L!, wpAny_holding → yR, wpAny_letGo → ϒ, wpAny_loadName_cell → V7, wpAny_loadName_local → U2, wpAny_loadPart' → ό, wpAny_mono → yS, wpAny_passesOwn → ĥ, wpAny_pure → yF, wpAny_pyIter_enum → Ϻ, wpAny_pyIter_list → ī, wpAny_pyIter_range → W3, wpAny_pyIter_rangeiter → S?, wpAny_pyIter_zip → Y1, wpAny_pyNext_list_end → T6, wpAny_pyNext_list_item → S!, wpAny_pyNext_range_end → R9, wpAny_seqItems → y!, wpAny_specialOf → Z3, wpAny_standAt → ų, wpAny_truthy_bool → Ī, wpAny_tryCatch → ķ, wpAny_updateSeq → ϋ
open PySem.AutoSeq1 renaming wpAny_loadPart' → İ
open PySem.Builtin renaming bitNot → T5
open PySem.Builtin.Builtins renaming bindParams → ź
open PySem.Builtin.Dict renaming pendingCount → _'
open PySem.Builtin.Int renaming intBits → g!
open PySem.Builtin.List renaming listTooLong → ò
open PySem.Builtin.Range renaming rangeSize → ĩ, small → Z2
open PySem.Builtin.SmallTypes renaming fitsIndex → ļ
open PySem.Challenge renaming pw_telltight_k23_whole_books_bent → X?
open PySem.F renaming entry_min_loop → ū, plainAttrs_list → Ø, plain_min_loop → ü, slot_dict_len → l?, slot_list_append → d!, slot_list_count → š, slot_list_extend → c?, slot_list_pop → l!, slot_list_remove → Ś, type_list_append → c!, type_list_count → f?, type_list_extend → b?, type_list_pop → k?, type_list_remove → b!
open PySem.Heap renaming ExtBut → Z1, SameBut → Į, get?_push_of_some → zG, get?_push_size → zY, get?_update_other → w!, lt_size → yI, size_push → Ĩ
open PySem.Heap.IsSliceOf renaming new → Ϸ
open PySem.Heap.SameBut renaming refl → i?, update → ŭ
open PySem.NameKind renaming cell → Ę, free → Ù
open PySem.Obj renaming mapSeq → Ğ
open PySem.PyData renaming canLay0 → Đ, canLayAll0 → ø, depth → m?, depthAll → S8, eqv → Õ, eqvAll → U6, int → á, list → ś, strOk → V8
open PySem.Reads renaming unique → h!
open PySem.SeqAt renaming eqAt_reads → ϰ
open PySem.Str renaming ofString → ÿ
open PySem.Value renaming bool → O!, bytes → Y!, float → X9, int → k!, isInt → C?, isStrOf → g?, none → Ů, ref → î, str → j?, type → N?
open PySem.W renaming CodeHd → X1, Frag → Þ, OpenLaw → Q3, WalkO → T7, callWith_K → W9, callWith_K0 → t?, codeIn → ϕ, emptyDict → ŕ, findIn → Ŕ, hasDictIn → Q?, instObj → ϛ, keepIn → Ĺ, makesIn → X8, methodCall_KW → M', methodObj → Y6, mg_of → X7, plainGet → A!, plainGet_of → U3, plainOver → Y5, tabObj → S4
open PySem.W.Looks renaming here → Y8
open PySem.Within renaming cons → Z7
open Option (bind_some map_some)
open PySem.W (CodeHd Frag InitBack InstAt TabsAt any_some bind_fn callWith_K cellsFrom_some codeHdIn codeHd_of_K codeIn codeRec_of emptyDict findIn findObj_own fnOf get_value handedIn hasDictIn hideAll hideAll_get hideAll_none hideAll_size instObj isFn keepIn ki_setAt ki_setBack kla_callFunE kla_codeExpr kla_eval kla_fn kla_makeFunction kla_makeFunctionHit km_in_of km_tabs_of lookIn looks_clsIn looks_findIn make_core makesIn makes_of mem_of_lookupK methodCall_KW methodObj method_fn mg_none_of mg_of noTabs nsIn of_hideAll osa_open plainGet plainGet_of plainOver set_plain tabObj takerIn truthy_bytes typeIn)
theorem oM{p:Prop}(h:p:=by first|lia|omega|(refine @id (@Ne Nat _ _) ?_;omega)):p:=h
theorem dC{p:Prop}(h:p:=by decide):p:=h
set_option Elab.async false
set_option linter.all false
set_option maxRecDepth 100000
theorem zA{α c}{o:Option α}{f:α->Option c}{b}:o.bind f=À b->∃a,o=À a∧f a=À b:=Option.bind_eq_some_iff.mp
theorem z9:type_of% @decide_eq_false:=@decide_eq_false
theorem yB:type_of% @decide_eq_true_eq:=@decide_eq_true_eq
theorem yG:type_of% @if_neg:=@if_neg
theorem yH:type_of% @if_pos:=@if_pos
theorem yJ:type_of% @eq_of_beq:=@eq_of_beq
theorem yV:type_of% @decide_eq_true:=@decide_eq_true
namespace L2
open PySem PySem.Spec PyProof.Rows
abbrev ba:=Sum Int Í
def iP:ba->Å->Bool
 |.inl k,v=>C? k v
 |.inr x,v=>g? x v
def Mw(w:Ú):ba->Int
 |.inl k=>hashInt k
 |.inr x=>hashStr w x
theorem cZ:∀{k:ba}{v:Å},iP k v=Â->(∃i t,k=Sum.inl i/\v=k! i t)\/(∃x t,k=Sum.inr x/\v=j? x t)
 |.inl i,v,h=>by
  obtain⟨t,e⟩:=Value.isInt_shape (k:=i) (v:=v) h;exact .inl ⟨i,t,rfl,e⟩
 |.inr x,v,h=>by
  obtain⟨t,e⟩:=Value.isStrOf_shape (x:=x) (v:=v) h;exact .inr ⟨x,t,rfl,e⟩
theorem ze(i:Int)(t:Tok):iP (.inl i) (.int i t)=Â:=by simp[iP,C?]
theorem zc(x:Í)(t:Tok):iP (.inr x) (.str x t)=Â:=by simp[iP,g?]
theorem HE(a b:Int):decide ((Sum.inl a:ba)=Sum.inl b)=(a==b):=by
 by_cases e:a=b
 ·subst e;simp
 ·have h:¬(Sum.inl a:ba)=Sum.inl b:=fun q=>e (Sum.inl.inj q)
  rw[z9 h];exact(beq_eq_false_iff_ne.mpr e).symm
theorem HB(a b:Í):decide ((Sum.inr a:ba)=Sum.inr b)=decide (a=b):=by
 by_cases e:a=b
 ·subst e;simp
 ·have h:¬(Sum.inr a:ba)=Sum.inr b:=fun q=>e (Sum.inr.inj q)
  rw[z9 h,z9 e]
theorem HD(a:Int)(b:Í):decide ((Sum.inl a:ba)=Sum.inr b)=Ã:=z9 (fun q=>nomatch q)
theorem HC(a:Í)(b:Int):decide ((Sum.inr a:ba)=Sum.inl b)=Ã:=z9 (fun q=>nomatch q)
def cz(prog:Ò)(w:Ú):PySem.KeyKind prog w ba where
 is:=iP
 hash:=Mw w
 inj:=fun v a b ha hb=>by
  rcases cZ ha with⟨i,t,rfl,rfl⟩|⟨x,t,rfl,rfl⟩
  ·rcases cZ hb with⟨j,u,rfl,e⟩|⟨y,u,rfl,e⟩
   ·injection e with e1 _;rw[e1]
   ·exact nomatch e
  ·rcases cZ hb with⟨j,u,rfl,e⟩|⟨y,u,rfl,e⟩
   ·exact nomatch e
   ·injection e with e1 _;rw[e1]
 byValue:=fun k v h=>by
  rcases cZ h with⟨i,t,rfl,rfl⟩|⟨x,t,rfl,rfl⟩<;>rfl
 pyHash:=fun hv h=>by
  rcases cZ hv with⟨i,t,rfl,rfl⟩|⟨x,t,rfl,rfl⟩
  ·exact wpAny_pyHash_int h
  ·exact wpAny_pyHash_str h
 eqBool:=fun hu hv h=>by
  rcases cZ hu with⟨i,t,rfl,rfl⟩|⟨x,t,rfl,rfl⟩
  ·rcases cZ hv with⟨j,u,rfl,rfl⟩|⟨y,u,rfl,rfl⟩
   ·rw[HE]at h;exact wpAny_eqBool_int h
   ·rw[HD]at h;exact SeqAt.EqAt.int_str i t y u _ _ _ _ h
  ·rcases cZ hv with⟨j,u,rfl,rfl⟩|⟨y,u,rfl,rfl⟩
   ·rw[HC]at h;exact SeqAt.EqAt.str_int x t j u _ _ _ _ h
   ·rw[HB]at h;exact wpAny_eqBool_str h
 «strs»:=fun k x t v h=>by
  rcases cZ h with⟨i,u,rfl,e⟩|⟨y,u,rfl,e⟩
  ·exact nomatch e
  ·injection e with e1 _
   subst e1;cases v<;>rfl
theorem ut(prog:Ò)(w:Ú)(i:Int)(t:Tok):(cz prog w).is (.inl i) (.int i t)=Â:=ze i t
theorem uo(prog:Ò)(w:Ú)(x:Í)(t:Tok):(cz prog w).is (.inr x) (.str x t)=Â:=zc x t
inductive V where
 |non|bl (b:Bool)|int (i:Int)|str (x:Í)|byt (b:Array UInt8)|flt (b:UInt64)|ref (a:Ç)|ty (n:String)
 deriving DecidableEq
def RelV:V->Å->Prop
 |.non,u=>u=Ů
 |.bl b,u=>u=O! b
 |.int i,u=>∃t,u=k! i t
 |.str x,u=>∃t,u=j? x t
 |.byt b,u=>∃t,u=Y! b t
 |.flt b,u=>∃t,u=X9 b t
 |.ref a,u=>u=î a
 |.ty n,u=>u=N? n
abbrev Vals:List V->List Å->Prop:=S9 RelV
theorem Vals.length{xs:List V}{us:List Å}(r:Vals xs us):xs.length=us.length:=Paired.length r
theorem Vals.get:∀{xs:List V}{us:List Å}{i:Nat}{x:V},Vals xs us->xs[i]?=À x->∃u,us[i]?=À u/\RelV x u
 |_,_,_,_,.nil,e=>by simp at e
 |_,_,0,_,.cons r _,e=>by simp at e;subst e;exact⟨_,rfl,r⟩
 |_,_,i+1,x,.cons _ t,e=>by
  obtain⟨u,h1,h2⟩:=Vals.get (i:=i) (x:=x) t (by simpa using e);exact⟨u,by simpa using h1,h2⟩
theorem Vals.set(r:RelV x u):∀{xs:List V}{us:List Å} (i:Nat),Vals xs us->Vals (xs.set i x) (us.set i u)
 |_,_,_,.nil=>.nil
 |_,_,0,.cons _ t=>.cons r t
 |_,_,i+1,.cons q t=>.cons q (Vals.set r i t)
theorem Vals.append:∀{xs ys:List V}{us ws:List Å},Vals xs us->Vals ys ws->Vals (xs++ys) (us++ws):=by
 intro xs ys us ws h s
 induction h with
 |nil=>exact s
 |cons r t a=>exact .cons r a
theorem Vals.take:∀{xs:List V}{us:List Å} (n:Nat),Vals xs us->Vals (xs.take n) (us.take n):=by
 intro xs us n h
 induction h generalizing n with
 |nil=>cases n<;>exact .nil
 |cons r t a=>cases n with
  |zero=>exact .nil
  |succ n=>exact .cons r (a n)
theorem Vals.drop:∀{xs:List V}{us:List Å} (n:Nat),Vals xs us->Vals (xs.drop n) (us.drop n):=by
 intro xs us n h
 induction h generalizing n with
 |nil=>cases n<;>exact .nil
 |cons r t a=>cases n with
  |zero=>exact .cons r t
  |succ n=>exact a n
def RelO:Option V->Option Å->Prop
 |some v,À u=>RelV v u
 |none,Á=>True
 |_,_=>False
def KV{κ:Type}:List (κ×V)->List (κ×Value)->Prop:=S9 fun(p:κ×V)(q:κ×Value)=>p.1=q.1/\RelV p.2 q.2
def kV:ba->V
 |.inl i=>.int i
 |.inr x=>.str x
inductive HO where
  |lst (xs:List V)
  |tup (xs:List V)
  |dK (O1:List (ba×V))|dT (O1:List (List ba×V))
  |set (S:Int->Bool) (n:Nat)
  |ins (C dx:Ç) (fs:List (Í×V))
  |own (x:Ç)
  |xd (fs:List (Í×V))
  |met (f x:Ç)
  |rng (lo hi:Int)
  |frz (o:Y9) (u:HO)
  |tbl (ps:Array Å)
  |ext (φ:è->Prop)
abbrev Hp:=Ç->Option HO
def ah(H:Hp)(a:Ç)(o:HO):Hp:=fun b=>if b=a then À o else H b
theorem aD:ah H a o a=À o:=by unfold ah;rw[yH rfl]
theorem ad(h:b≠a):ah H a o b=H b:=by unfold ah;rw[yG h]
theorem wx{H:Hp}{a b:Ç}{o u:HO}(h:H a=À o)(h':H b=À u)(d:o≠u):a≠b:=by
 intro e;subst e;rw[h]at h';exact d (yD h')
theorem bt{H:Hp}{a b:Ç}{o:HO}(h:H a=À o)(h':H b=Á):a≠b:=by
 intro e;subst e;rw[h]at h';cases h'
section
variable(P:Ò)(w:Ú)
def ObjOk(H:Hp)(h:è)(a:Ç):HO->Prop
 |.lst xs=>xs.length<=Ì/\∃(O4:List Å)(n:Nat),Vals xs O4/\h.get? a=À { cls:=.type "list",data:=.seq O4.toArray n }
 |.tup xs=>xs.length<=Ì/\∃O4:List Å,Vals xs O4/\IsTup h a O4.toArray
 |.dK O1=>O1.length<=Ì/\(a==Ĕ)=Ã/\∃vs,KV O1 vs/\h.DictOf (cz P w) a vs
 |.dT O1=>O1.length<=Ì/\(a==Ĕ)=Ã/\∃xs:List (List ba×Addr×Value),
   S9 (fun(p:List ba×V)(q:List ba×Addr×Value)=>p.1=q.1/\H q.2.1=À (.tup (p.1.map kV))/\RelV p.2 q.2.2) O1 xs /\
   ∃o es ep,h.get? a=À o/\o.ExactDict/\o.data=.dict es ep/\es.toList=xs.map (entryOfKey (ŷ (cz P w)))/\(xs.map (·.1)).Nodup
 |.set S n=>h.SetOf (intKind P w) a S n
 |.ins C dx fs=>H dx=À (.own a)/\fs.length<=1000/\dx≠a/\h.get? a=À (ϛ C dx) /\
   ∃mA,h.Ns1 dx mA/\(∀f,RelO (fs.lookup f) (mA f))/\r? mA (fs.map (·.1))
 |.own _=>∃o,h.get? a=À o
 |.xd fs=>∃mA,h.Ns1 a mA/\∀f,RelO (fs.lookup f) (mA f)
 |.rng lo hi=>∃t u v,h.get? a=À { cls:=.type "range",data:=.fields #[.int lo t,.int hi u,.int 1 v] }
 |.frz o u=>h.get? a=À o/\ObjOk H h a u
 |.tbl ps=>h.get? a=À { cls:=.none,data:=.fields ps }
 |.met f x=>h.get? a=À (Y6 (.ref f) (.ref x))
 |.ext φ=>φ h/\(∃o,h.get? a=À o)/\∀h1 h2:è,φ h1->(∀o,h1.get? a=À o->h2.get? a=À o)->φ h2
def HOk(H:Hp)(h:è):Prop:=∀a o,H a=À o->ObjOk P w H h a o
end
section
variable{P:Ò}{w:Ú}{H H':Hp}{h h':è}{a:Ç}{o:HO}
theorem ObjOk.lt(x:ObjOk P w H h a o):a<h.objs.size:=by
 cases o with
 |lst xs=>obtain⟨_,_,_,_,e⟩:=x;exact yI e
 |tup xs=>obtain⟨_,_,_,p⟩:=x;exact p.lt
 |dK O1=>obtain⟨_,_,_,_,o,_,_,e,_⟩:=x;exact yI e
 |dT O1=>obtain⟨_,_,_,_,o,_,_,e,_⟩:=x;exact yI e
 |set S n=>obtain⟨o,_,_,_,e,_⟩:=x;exact yI e
 |ins C dx fs=>obtain⟨_,_,_,e,_⟩:=x;exact yI e
 |own y=>obtain⟨_,e⟩:=x;exact yI e
 |xd fs=>obtain⟨_,⟨_,_,_,e,_⟩,_⟩:=x;exact yI e
 |rng lo hi=>obtain⟨_,_,_,e⟩:=x;exact yI e
 |frz ob u=>obtain⟨e,_⟩:=x;exact yI e
 | tbl ps=>exact yI (show h.get? a=À _ from x)
 | met f y=>exact yI (show h.get? a=À _ from x)
 |ext φ=>obtain⟨_,⟨_,e⟩,_⟩:=x;exact yI e
theorem Paired.mapP{α c:Type}{F G:α->c->Prop}:∀{l₁:List α}{l₂:List c},S9 F l₁ l₂->(∀a b,F a b->G a b)->S9 G l₁ l₂:=by
 intro l₁ l₂ h f
 induction h with
 |nil=>exact .nil
 |cons r t d=>exact .cons (f _ _ r) d
theorem ObjOk.stay(x:ObjOk P w H h a o)(k:∀b u,(b=a\/H b=À (.own a))->h.get? b=À u->h'.get? b=À u)
  (E:∀b,H b=À (.own a)->H' b=À (.own a)) (D:∀b xs,H b=À (.tup xs)->H' b=À (.tup xs)):ObjOk P w H' h' a o:=by
 induction o with
 |lst xs=>obtain⟨z,s,n,r,e⟩:=x;exact⟨z,s,n,r,k _ _ (.inl rfl) e⟩
 |tup xs=>obtain⟨z,s,r,g,e,c⟩:=x;exact⟨z,s,r,g,k _ _ (.inl rfl) e,c⟩
 |dK O1=>obtain⟨z,y,B,r,g,i,j,e,c⟩:=x;exact⟨z,y,B,r,g,i,j,k _ _ (.inl rfl) e,c⟩
 |dT O1 =>
  obtain⟨z,y,xs,r,g,i,j,e,c⟩:=x;exact⟨z,y,xs,Paired.mapP r fun p q z=>⟨z.1,D _ _ z.2.1,z.2.2⟩,g,i,j,k _ _ (.inl rfl) e,c⟩
 |set S n=>obtain⟨g,i,j,t,e,c⟩:=x;exact⟨g,i,j,t,k _ _ (.inl rfl) e,c⟩
 |ins C dx fs =>
  obtain⟨d,z,ne,e,m,⟨l,i,j,F,c⟩,r⟩:=x;exact⟨E _ d,z,ne,k _ _ (.inl rfl) e,m,⟨l,i,j,k _ _ (.inr d) F,c⟩,r⟩
 |own y=>obtain⟨g,e⟩:=x;exact⟨g,k _ _ (.inl rfl) e⟩
 |xd fs=>obtain⟨m,⟨l,i,j,e,c⟩,r⟩:=x;exact⟨m,⟨l,i,j,k _ _ (.inl rfl) e,c⟩,r⟩
 |rng lo hi=>obtain⟨t,u,v,e⟩:=x;exact⟨t,u,v,k _ _ (.inl rfl) e⟩
 |frz g u ih=>obtain⟨e,q⟩:=x;exact⟨k _ _ (.inl rfl) e,ih q⟩
 |tbl ps =>
  have e:h.get? a=À { cls:=.none,data:=.fields ps }:=x;show h'.get? a=À { cls:=.none,data:=.fields ps };exact k a _ (.inl rfl) e
 |met f y =>
  have e:h.get? a=À (Y6 (.ref f) (.ref y)):=x;show h'.get? a=À (Y6 (.ref f) (.ref y));exact k a _ (.inl rfl) e
 |ext φ=>obtain⟨p,⟨o,e⟩,A⟩:=x;exact⟨A _ _ p fun o q=>k _ _ (.inl rfl) q,⟨o,k _ _ (.inl rfl) e⟩,A⟩
theorem HOk.lt(x:HOk P w H h)(e:H a=À o):a<h.objs.size:=(x a o e).lt
theorem HOk.fresh(x:HOk P w H h)(e:h.objs.size<=a):H a=Á:=by
 cases q:H a with
 |none=>rfl
 |some u=>exact absurd (zJ (x.lt q) e) (y0 _)
theorem HOk.kept(x:HOk P w H h)(k:∀b u,h.get? b=À u->h'.get? b=À u):HOk P w H h':=fun a o e =>
 (x a o e).stay (fun b u _ q=>k b u q) (fun _ q=>q) fun _ _ q=>q
theorem HOk.laid(x:HOk P w H h)(k:∀b u,h.get? b=À u->h'.get? b=À u)(g:h.objs.size<=a)(new:ObjOk P w (ah H a o) h' a o):HOk P w (ah H a o) h':=fun b u e=>by
 have d:=x.fresh g;by_cases f:b=a
 ·subst f;rw[aD]at e;cases e;exact new
 ·rw[ad f]at e
  exact(x b u e).stay (fun c v _ q=>k c v q) (fun c q=>by rw[ad (bt q d)];exact q) fun c i q=>by rw[ad (bt q d)];exact q
end
def Rd(H:Hp)(a:Ç)(u:HO):Prop:=H a=À u\/∃o,H a=À (.frz o u)
theorem Rd.ok(r:Rd H a u)(x:HOk P w H h):ObjOk P w H h a u:=by
 rcases r with r|⟨o,r⟩
 ·exact x a u r
 ·obtain⟨_,q⟩:=x a _ r
  exact q
def Aq:Option HO->Prop
 |some (.lst _)=>True
 |some (.dK _)=>True
 |some (.dT _)=>True
 |some (.set _ _)=>True
 |some (.ins _ _ _)=>True
 |some (.ext _)=>True
 |_=>False
section
variable{P:Ò}{w:Ú}{H:Hp}{h h':è}{x e:Ç}{o':HO}
theorem HOk.write(ok:HOk P w H h)(i:Aq (H x))(he:e=x\/H e=À (.own x))(k:∀b u,b≠e->h.get? b=À u->h'.get? b=À u)(m:∃u,h'.get? e=À u)
  (new:ObjOk P w (ah H x o') h' x o'):HOk P w (ah H x o') h':=fun b u q=>by
 have d:∀c y,H c=À (.own y)->c≠x:=fun c y r z=>by subst z;rw[r]at i;exact i
 have f:∀c g,H c=À (.tup g)->c≠x:=fun c g r z=>by subst z;rw[r]at i;exact i
 by_cases l:b=x
 ·subst l;rw[aD]at q;cases q;exact new
 ·rw[ad l]at q
  by_cases a:b=e
  ·have n:H b=À (.own x):=by
    rcases he with z|z
    ·exact absurd (a.trans z) l
    ·rw[a];exact z
   rw[q]at n;cases n;obtain⟨v,o⟩:=m;exact⟨v,by rw[a];exact o⟩
  ·refine(ok b u q).stay (fun c v j r=>k c v ?_ r) (fun c r=>by rw[ad (d c b r)];exact r) fun c g r=>by rw[ad (f c g r)];exact r
   rcases j with rfl|j
   ·exact a
   ·rintro rfl
    rcases he with z|z
    ·exact d c b j z
    ·rw[j]at z;cases z;exact l rfl
end
structure Un(fs ex:List Ç)(H H':Hp)(h h':è):Prop where
 keep:∀b o,h.get? b=À o->H b=Á->b∉fs->b∉ex->h'.get? b=À o
 slot:∀b o,h.get? b=À o->H b=Á->b∈fs->b∉ex->∃sl,h'.get? b=À { o with slots:=sl }
 free:∀b o,h.get? b=À o->H b=Á->b∉ex->H' b=Á
 there:∀b o,h.get? b=À o->b∉ex->∃o',h'.get? b=À o'
 tups:∀b xs,H b=À (.tup xs)->H' b=À (.tup xs)
 frzs:∀b o u,H b=À (.frz o u)->H' b=À (.frz o u)
 tbls:∀b ps,H b=À (.tbl ps)->∃more,H' b=À (.tbl (ps++more))
section
variable{fs fs' ex ex':List Ç}{H H1 H2:Hp}{h h1 h2 h':è}{a x e:Ç}{o:HO}
theorem Un.any(u:Un fs ex H H1 h h1){b:Ç}{a:Y9}(q:h.get? b=À a)(n:H b=Á)(c:b∉ex):∃sl,h1.get? b=À { a with slots:=sl }:=by
 by_cases d:b∈fs
 ·exact u.slot b a q n d c
 ·exact⟨a.slots,u.keep b a q n d c⟩
theorem Un.kept(k:∀b u,h.get? b=À u->h'.get? b=À u):Un fs ex H H h h' :=
 ⟨fun b a q _ _ _=>k b a q,fun b a q _ _ _=>⟨a.slots,k b a q⟩,fun _ _ _ n _=>n,fun b a q _=>⟨a,k b a q⟩,fun _ _ q=>q,fun _ _ _ q=>q,fun _ c q=>⟨#[],by rw[q];simp⟩⟩
theorem Un.refl:Un fs ex H H h h:=Un.kept fun _ _ q=>q
theorem Un.laid(k:∀b u,h.get? b=À u->h'.get? b=À u)(e:h.objs.size<=a)(c:H a=Á):Un fs ex H (ah H a o) h h' where
 keep:=fun b u q _ _ _=>k b u q
 slot:=fun b u q _ _ _=>⟨u.slots,k b u q⟩
 free:=fun b u q n _=>by rw[ad (zU (zJ (yI q) e))];exact n
 there:=fun b u q _=>⟨u,k b u q⟩
 tups:=fun b d q=>by rw[ad (bt q c)];exact q
 frzs:=fun b u d q=>by rw[ad (bt q c)];exact q
 tbls:=fun b f q=>⟨#[],by rw[ad (bt q c),q];simp⟩
theorem Un.write(c:Aq (H x))(he:e=x\/H e=À (.own x))(k:∀b u,b≠e->h.get? b=À u->h'.get? b=À u)(f:∃u,h'.get? e=À u):Un fs ex H (ah H x o) h h':=by
 have g:∀b,H b=Á->b≠x:=fun b n z=>by subst z;rw[n]at c;exact c
 have i:∀b,H b=Á->b≠e:=fun b n z=>by
  subst z;rcases he with r|r
  ·exact g b n r
  ·rw[n]at r;cases r
 have d:∀b u,H b=À u->¬Aq (À u)->b≠x:=fun b u q nm z=>by subst z;rw[q]at c;exact nm c
 refine⟨fun b u q n _ _=>k b u (i b n) q,fun b u q n _ _=>⟨u.slots,k b u (i b n) q⟩,fun b u q n _=>by rw[ad (g b n)];exact n,fun b u q _=>?_,
  fun b j q=>by rw[ad (d b _ q fun z=>z)];exact q,fun b u j q=>by rw[ad (d b _ q fun z=>z)];exact q,fun b l q=>⟨#[],by rw[ad (d b _ q fun z=>z),q];simp⟩⟩
 by_cases a:b=e
 ·subst a;exact f
 ·exact⟨u,k b u a q⟩
end
def Ci(h:è)(H:Hp):List Ç:=(Ä h.objs.size).filter fun a=>(H a).isSome
def jS(h:è)(H:Hp):è:=hideAll h (Ci h H)
theorem zl(h:è)(H:Hp):(jS h H).objs.size=h.objs.size:=hideAll_size _ _
theorem BL(e:h.get? b=À o)(n:H b=Á):(jS h H).get? b=À o :=
 hideAll_get _ e fun a=>by
  have q:(H b).isSome=Â:=(Ñ.mp a).2;rw[n]at q;simp at q
theorem Eu(e:(jS h H).get? b=À o):h.get? b=À o/\H b=Á:=by
 have a:h.get? b=À o:=of_hideAll (Ci h H) e;refine⟨a,?_⟩;cases q:H b with
 |none=>rfl
 |some x =>
  have c:b∈Ci h H:=Ñ.mpr ⟨Ë.mpr (yI a),by simp[q]⟩;have z:(jS h H).get? b=Á:=hideAll_none (Ci h H) c;rw[z]at e;cases e
structure Mod(K:Þ)(mg:Í->Option Å)(base:è):Prop where
 kin:K.In base
 glob:base.Ns Ð mg
 blt:∃mb,base.Ns ĕ mb/\∀x:Í,x≠"__name__"->mb x=å x
 nolimit:base.NoLimit
structure Cx where
 prog:Ò
 w:Ú
 K:Þ
 mg:Í->Option Å
 base:è
 A:ć
 N:List Í
 s₀:É
 H₀:Hp
 env:R?
 outer:List R?
 stack:List R?
 ex:List Ç
 fn:Í->Bool
 calm:Bool
 pn:List (Ç×Obj)
 xe:Å->É->Prop
noncomputable def kg(l:List R?):List Ç:=l.filterMap (·.frame)
abbrev Cx.fs(X:Cx):List Ç:=kg X.outer
def vJ(sc:ĝ)(x:Í):Prop:=sc.names.lookup x=À .local\/sc.names.lookup x=À .cell\/sc.names.lookup x=À .free
def Loc(sc:ĝ)(x:Í):Prop:=sc.names.lookup x=À .local\/sc.names.lookup x=À .cell
def MQ(env:R?)(h:è)(m:Í->Option Å)(x:Í)(u:Å):Prop :=
 (env.kindOf x=À .local/\m x=À u)\/((env.kindOf x=À .cell\/env.kindOf x=À .free)/\∃c,env.cells.lookup x=À c/\h.IsCell c (À u))
structure Cx.Ok(X:Cx):Prop where
 mod:Mod X.K X.mg X.base
 kind:X.env.scope.kind=.function
 glob:X.env.globals=Ð
 blt:X.env.builtins=ĕ
 above:X.s₀.heap.objs.size<=X.env.locals
 inj:∀x y c,X.env.cells.lookup x=À c->X.env.cells.lookup y=À c->x=y
 has:∀x,(X.env.kindOf x=À .cell\/X.env.kindOf x=À .free)->∃c,X.env.cells.lookup x=À c
 cab:∀x c,X.fn x=Â->X.env.cells.lookup x=À c->X.s₀.heap.objs.size<=c
 hd:X.calm=Â->X.A.handled=Á
 frames:X.A.frames=À X.stack
 stk:X.stack=X.outer\/(X.stack=X.env::X.outer/\X.env.frame=À X.env.locals)
 exf:∀b∈X.ex,b≠X.env.locals/\∀x c,X.env.cells.lookup x=À c->c≠b
 bs:∀b o,X.base.get? b=À o->X.s₀.heap.get? b=À o/\X.H₀ b=Á
 bsz:X.base.objs.size<=X.s₀.heap.objs.size
 noex:∀b o,X.base.get? b=À o->b∉X.ex
 exfs:∀b∈X.ex,b∉X.fs
 funs:X.s₀.heap.FunFrames X.base X.outer
 frf:∀b∈X.fs,X.H₀ b=Á
structure Inv(X:Cx)(O0:List (Ç×Obj))(σ:List (Option V))(H:Hp)(s:É):Prop where
 ok:X.Ok
 os:s.os=X.s₀.os
 bare:ϊ s.gens
 base:Un X.fs X.ex X.H₀ H X.s₀.heap s.heap
 loc:∃m,s.heap.Ns X.env.locals m/\∀(i:Nat)(x:Í)(v:V),X.N[i]?=À x->σ[i]?=À (À v)->vJ X.env.scope x->∃u,RelV v u/\MQ X.env s.heap m x u
 cell:∀x c,X.env.cells.lookup x=À c->∃v,s.heap.IsCell c v
 free:H X.env.locals=Á
 freeC:∀x c,X.env.cells.lookup x=À c->H c=Á
 pin:∀p∈X.pn++O0,s.heap.get? p.1=À p.2/\H p.1=Á/\p.1≠X.env.locals/\p.1∉X.fs/\∀v,p.2.data≠.cell v
 O8:HOk X.prog X.w H s.heap
 len:σ.length=X.N.length
section
variable{X:Cx}{O0:List (Ç×Obj)}{σ:List (Option V)}{H H':Hp}{s:É}{h':è}
theorem Cx.Ok.nofr(ok:X.Ok)(e:X.base.get? b=À o):b∉X.fs:=fun a=>by
 have:=(ok.funs.mem a).1
 rw[e]at this;cases this
theorem Inv.bs(I:Inv X O0 σ H s):∀b o,X.base.get? b=À o->s.heap.get? b=À o/\H b=Á:=fun b o e =>
 ⟨I.base.keep b o (I.ok.bs b o e).1 (I.ok.bs b o e).2 (I.ok.nofr e) (I.ok.noex b o e),I.base.free b o (I.ok.bs b o e).1 (I.ok.bs b o e).2 (I.ok.noex b o e)⟩
theorem Inv.bk(I:Inv X O0 σ H s):∀b o,X.base.get? b=À o->s.heap.get? b=À o:=fun b o e=>(I.bs b o e).1
theorem Inv.mod(I:Inv X O0 σ H s):Mod X.K X.mg X.base:=I.ok.mod
theorem Inv.kIn(I:Inv X O0 σ H s):X.K.In s.heap:=I.ok.mod.kin.keeps I.bk
theorem Inv.nolimit(I:Inv X O0 σ H s):s.heap.NoLimit:=I.ok.mod.nolimit.keeps I.bk
theorem Inv.lt(I:Inv X O0 σ H s):X.env.locals<s.heap.objs.size:=let⟨_,a,_⟩:=I.loc;a.lt
theorem Inv.sz(I:Inv X O0 σ H s):X.s₀.heap.objs.size<=s.heap.objs.size:=z5 I.ok.above (yY I.lt)
theorem Inv.nofs(I:Inv X O0 σ H s)(h:s.heap.objs.size<=a):a∉X.fs:=fun c=>by
 obtain⟨_,o,b,_⟩:=I.ok.funs.mem c;exact absurd (zJ (yI b) (z5 I.sz h)) (y0 _)
theorem Inv.cne(I:Inv X O0 σ H s):∀x c,X.env.cells.lookup x=À c->c≠X.env.locals:=fun x c e z=>by
 obtain⟨v,o,d,hd⟩:=I.cell x c e;obtain⟨m,⟨f,g,h,a,b,_⟩,_⟩:=I.loc;rw[z,a]at d;cases d;rw[b]at hd;cases hd
theorem Inv.funs(I:Inv X O0 σ H s):s.heap.FunFrames X.base X.outer:=by
 have all:∀(l:List R?),(∀b∈kg l,b∈X.fs)->X.s₀.heap.FunFrames X.base l->s.heap.FunFrames X.base l:=by
  intro l
  induction l with
  |nil=>intro _ _;trivial
  |cons n r g =>
   intro f k;obtain⟨m,⟨L,o,a,j,i,hd⟩,h⟩:=k;have d:L∈X.fs:=f L (by unfold kg;rw[þ,a];exact z7);obtain⟨p,e⟩:=I.base.slot L o i (I.ok.frf L d) d fun z=>I.ok.exfs L z d
   exact⟨m,⟨L,_,a,j,e,hd⟩,g (fun b c=>f b (by unfold kg;rw[þ,a];exact zQ _ c)) h⟩
 exact all X.outer (fun _ c=>c) I.ok.funs
theorem Inv.stack(I:Inv X O0 σ H s):s.heap.FunFrames X.base X.stack:=by
 rcases I.ok.stk with e|⟨e,b⟩
 ·rw[e];exact I.funs
 ·rw[e]
  obtain⟨m,a,_⟩:=I.loc;refine .cons (by rw[I.ok.kind];decide) b a ?_ I.funs;exact Heap.get?_none_of_le (z5 I.ok.bsz I.ok.above)
theorem Inv.stkSub(I:Inv X O0 σ H s):∀b∈kg X.stack,b∈X.env.locals::X.fs:=fun b a=>by
 rcases I.ok.stk with e|⟨e,c⟩
 ·rw[e]at a;exact zQ _ a
 ·rw[e]at a
  unfold kg at a;rw[þ,c]at a;exact a
theorem Inv.stkFree(I:Inv X O0 σ H s):∀b∈kg X.stack,H b=Á:=fun b a=>by
 rcases zT.mp (I.stkSub b a) with e|a
 ·rw[e];exact I.free
 ·obtain⟨_,o,c,_⟩:=I.ok.funs.mem a
  exact I.base.free b o c (I.ok.frf b a) fun z=>I.ok.exfs b z a
theorem Inv.step{g':Array GenState}{t':Nat}{d':Drawn}{ch:List Ç}(I:Inv X O0 σ H s)
  (j:∀b∈ch,(b∈X.ex\/X.s₀.heap.objs.size<=b)/\b≠X.env.locals/\(∀x c,X.env.cells.lookup x=À c->c≠b)/\∀p∈X.pn++O0,p.1≠b)
  (h:∀b o,b≠X.env.locals->b∉X.fs->b∉ch->s.heap.get? b=À o->H b=Á->h'.get? b=À o)
  (A:∀b o,b≠X.env.locals->b∈X.fs->b∉ch->s.heap.get? b=À o->H b=Á->∃sl,h'.get? b=À { o with slots:=sl }) (f:∀b o,b∉ch->s.heap.get? b=À o->H b=Á->H' b=Á)
  (B:∀b o,b∉ch->s.heap.get? b=À o->∃o',h'.get? b=À o')
  (E:∀b xs,H b=À (.tup xs)->H' b=À (.tup xs)) (J:∀b o u,H b=À (.frz o u)->H' b=À (.frz o u)) (F:∀b ps,H b=À (.tbl ps)->∃more,H' b=À (.tbl (ps++more)))
  (ns:∀m,s.heap.Ns X.env.locals m->h'.Ns X.env.locals m) (V:HOk X.prog X.w H' h') (T:ϊ g') :
  Inv X O0 σ H' { s with heap:=h',gens:=g',drawn:=d',toks:=t' }:=by
 have G:∀b o,X.s₀.heap.get? b=À o->b≠X.env.locals:=fun b o e=>zU (zJ (yI e) I.ok.above)
 have w:∀b o,X.s₀.heap.get? b=À o->b∉X.ex->b∉ch:=fun b o e a C=>by
  rcases(j b C).1 with z|z
  ·exact a z
  ·exact absurd (zJ (yI e) z) (y0 _)
 have t:∀x c,X.env.cells.lookup x=À c->∀v,s.heap.IsCell c v->h'.IsCell c v:=fun x c e v M=>by
  obtain⟨o,D,hd⟩:=M;have g:c∉ch:=fun z=>(j c z).2.2.1 x c e rfl
  by_cases P:c∈X.fs
  ·obtain⟨sl,q⟩:=A c o (I.cne x c e) P g D (I.freeC x c e)
   exact⟨_,q,hd⟩
  ·exact⟨o,h c o (I.cne x c e) P g D (I.freeC x c e),hd⟩
 refine⟨I.ok,I.os,T,⟨fun b o e n C a=>?_,fun b o e n C a=>?_,fun b o e n a=>?_,fun b o e a=>?_,fun b xs e=>E b xs (I.base.tups b xs e),fun b o xs e=>J b o xs (I.base.frzs b o xs e),fun b ps e=>?_⟩,?_,fun x c e=>?_,?_,fun x c e=>?_,fun p O=>?_,V,I.len⟩
 ·exact h b o (G b o e) C (w b o e a) (I.base.keep b o e n C a) (I.base.free b o e n a)
 ·obtain⟨sl,y⟩:=I.base.slot b o e n C a
  obtain⟨L,K⟩:=A b _ (G b o e) C (w b o e a) y (I.base.free b o e n a);exact⟨L,K⟩
 ·obtain⟨o',y⟩:=I.base.there b o e a
  exact f b o' (w b o e a) y (I.base.free b o e n a)
 ·obtain⟨o',y⟩:=I.base.there b o e a
  exact B b o' (w b o e a) y
 ·obtain⟨Q,y⟩:=I.base.tbls b ps e
  obtain⟨m2,K⟩:=F b _ y;exact⟨Q++m2,by rw[K,Array.append_assoc]⟩
 ·obtain⟨m,R,S⟩:=I.loc
  refine⟨m,ns m R,fun i x v y K U=>?_⟩;obtain⟨u,r,l⟩:=S i x v y K U;refine⟨u,r,?_⟩;rcases l with l|⟨k,c,e,z⟩
  ·exact .inl l
  ·exact .inr ⟨k,c,e,t x c e _ z⟩
 ·obtain⟨v,z⟩:=I.cell x c e
  exact⟨v,t x c e v z⟩
 ·obtain⟨m,⟨o,_,_,D,_⟩,_⟩:=I.loc
  exact f _ o (fun z=>(j _ z).2.1 rfl) D I.free
 ·obtain⟨v,o,D,hd⟩:=I.cell x c e
  exact f c o (fun z=>(j c z).2.2.1 x c e rfl) D (I.freeC x c e)
 ·obtain⟨e,n,ne,N,d⟩:=I.pin p O
  have g:p.1∉ch:=fun z=>(j p.1 z).2.2.2 p O rfl
  exact⟨h p.1 p.2 ne N g e n,f p.1 p.2 g e n,ne,N,d⟩
theorem Inv.un{t':Nat}(I:Inv X O0 σ H s)(u:Un X.fs [] H H' s.heap h')(k:HOk X.prog X.w H' h'):Inv X O0 σ H' { s with heap:=h',toks:=t' }:=by
 obtain⟨m,⟨o,t,v,g,r⟩,_⟩:=id I.loc;obtain⟨l,j⟩:=u.any g I.free (by simp);exact I.step (g':=s.gens) (d':=s.drawn) (ch:=[]) (fun _ z=>nomatch z) (fun b o _ c _ e n=>u.keep b o e n c (by simp)) (fun b o _ c _ e n=>u.slot b o e n c (by simp)) (fun b o _ e n=>u.free b o e n (by simp)) (fun b o _ e=>u.there b o e (by simp)) u.tups u.frzs u.tbls (fun q i=>by
  obtain⟨p,d,f,a,h⟩:=i;rw[g]at a;cases a;exact⟨_,d,f,j,h⟩) k I.bare
theorem Inv.call{g':Array GenState}{t':Nat}{d':Drawn}{ch:List Ç}(I:Inv X O0 σ H s)(u:Un (kg X.stack) ch H H' s.heap h')(v:HOk X.prog X.w H' h')(q:ϊ g')
  (f:∀b∈ch,(b∈X.ex\/X.s₀.heap.objs.size<=b)/\b≠X.env.locals/\(∀x c,X.env.cells.lookup x=À c->c≠b)/\∀p∈X.pn++O0,p.1≠b) :
  Inv X O0 σ H' { s with heap:=h',gens:=g',drawn:=d',toks:=t' }:=by
 obtain⟨m,⟨o,B,C,j,r⟩,_⟩:=id I.loc;obtain⟨w,g⟩:=u.any j I.free fun z=>(f _ z).2.1 rfl
 exact I.step (ch:=ch) f (fun b o g t a e n=>u.keep b o e n (fun z=>(zT.mp (I.stkSub b z)).elim g t) a) (fun b o _ _ a e n=>u.any e n a) (fun b o a e n=>u.free b o e n a) (fun b o a e=>u.there b o e a) u.tups u.frzs u.tbls (fun A l=>by
  obtain⟨y,h,i,d,k⟩:=l;rw[j]at d;cases d;exact⟨_,h,i,g,k⟩) v q
theorem Inv.turned{t':Nat}{it:Ç}(I:Inv X O0 σ H s)(k:∀b o,b≠it->s.heap.get? b=À o->h'.get? b=À o)(h:H it=Á)(f:it≠X.env.locals)
  (w:it∈X.ex\/X.s₀.heap.objs.size<=it) (t:∀x c,X.env.cells.lookup x=À c->c≠it) (l:∀p∈X.pn++O0,p.1≠it):Inv X O0 σ H { s with heap:=h',toks:=t' }:=by
 have d:∀b u,H b=À u->b≠it:=fun b u e z=>by rw[z,h]at e;cases e
 refine I.step (g':=s.gens) (d':=s.drawn) (ch:=[it]) (fun b j=>?_) (fun b o _ _ a e _=>k b o (fun z=>a (by simp[z])) e) (fun b o _ _ a e _=>⟨o.slots,k b o (fun z=>a (by simp[z])) e⟩) (fun _ _ _ _ n=>n)
  (fun b o a e=>⟨o,k b o (fun z=>a (by simp[z])) e⟩) (fun _ _ e=>e) (fun _ _ _ e=>e) (fun b B e=>⟨#[],by rw[e];simp⟩) (fun m i=>?_) (fun b u e=>?_) I.bare
 ·have e:b=it:=by simpa using j
  subst e;exact⟨w,f,t,l⟩
 ·obtain⟨o,y,A,g,r⟩:=i
  exact⟨o,y,A,k _ o (æ f) g,r⟩
 ·refine(I.O8 b u e).stay (fun c v a q=>k c v ?_ q) (fun _ q=>q) fun _ _ q=>q
  rcases a with z|z
  ·rw[z];exact d b u e
  ·exact d c _ z
theorem Inv.tok(I:Inv X O0 σ H s)(t:Nat):Inv X O0 σ H { s with toks:=t }:=I.un (h':=s.heap) (t':=t) Un.refl I.O8
theorem Inv.kept{t':Nat}(I:Inv X O0 σ H s)(k:∀b u,s.heap.get? b=À u->h'.get? b=À u):Inv X O0 σ H { s with heap:=h',toks:=t' }:=I.un (Un.kept k) (I.O8.kept k)
theorem Inv.laid{t':Nat}(I:Inv X O0 σ H s)(k:∀b u,s.heap.get? b=À u->h'.get? b=À u)(c:s.heap.objs.size<=a)(new:ObjOk X.prog X.w (ah H a o) h' a o) :
  Inv X O0 σ (ah H a o) { s with heap:=h',toks:=t' }:=I.un (Un.laid k c (I.O8.fresh c)) (I.O8.laid k c new)
theorem Inv.write{t':Nat}(I:Inv X O0 σ H s)(c:Aq (H x))(he:e=x\/H e=À (.own x))(k:∀b u,b≠e->s.heap.get? b=À u->h'.get? b=À u)(a:∃u,h'.get? e=À u)
  (new:ObjOk X.prog X.w (ah H x o) h' x o):Inv X O0 σ (ah H x o) { s with heap:=h',toks:=t' }:=I.un (Un.write c he k a) (I.O8.write c he k a new)
theorem Inv.pins_of(I:Inv X O0 σ H s)(h:∀p∈pins',s.heap.get? p.1=À p.2/\H p.1=Á/\p.1≠X.env.locals/\p.1∉X.fs/\∀v,p.2.data≠.cell v):Inv X pins' σ H s :=
 ⟨I.ok,I.os,I.bare,I.base,I.loc,I.cell,I.free,I.freeC,fun p a=>(zZ.mp a).elim (fun z=>I.pin p (zL _ z)) (h p),I.O8,I.len⟩
theorem sI{N:List Í}(c:N.Nodup){i j:Nat}{x:Í}(a:N[i]?=À x)(b:N[j]?=À x):i=j:=by
 obtain⟨g,e⟩:=zB.mp a;obtain⟨f,d⟩:=zB.mp b;exact(ŋ c).mp (e.trans d.symm)
theorem qv{M:Model}{A:ć}{E:Å->É->Prop}{i:Nat}{x:Í}{v:V}{u:Å}{Q:Unit->É->Prop}(I:Inv X O0 σ H s)(hN:X.N.Nodup)(P:X.N[i]?=À x)(w:Loc X.env.scope x)(r:RelV v u)
  (h:∀s',Inv X O0 (σ.set i (À v)) H s'->(∃a,Į a s.heap s'.heap/\(a=X.env.locals\/X.env.cells.lookup x=À a))->Q () s') (hf:X.fn x=Â\/X.env.scope.names.lookup x=À .local:=by first|exact .inl rfl|exact .inr rfl|assumption):Ï M A (Y2 X.env x u) Q E s:=by
 obtain⟨m,hn,hl⟩:=id I.loc;have R:(X.env.scope.kind==.class||(X.env.scope.kind==.module&&X.env.locals !=X.env.globals))=Ã:=by rw[I.ok.kind];rfl
 have F:i<σ.length:=by rw[I.len];exact(zB.mp P).1
 have cne:=I.cne;have g:∀{a:Ç}{L:è},(∃o,s.heap.get? a=À o/\H a=Á)->Į a s.heap L->HOk X.prog X.w H L:=fun {a L} ha f b ob e=>by
  obtain⟨_,_,B⟩:=ha;refine(I.O8 b ob e).stay (fun c U t q=>(f.2 c ?_).trans q) (fun _ q=>q) fun _ _ q=>q
  rintro rfl;rcases t with rfl|t
  ·rw[B]at e;cases e
  ·rw[B]at t;cases t
 rcases w with D|D
 ·refine wpAny_storeName_local D hn (fun L hn' f=>?_) R
  obtain⟨oL,_,_,hoL,_⟩:=id hn;refine h _ ⟨I.ok,I.os,I.bare,⟨fun b o e n K w=>?_,fun b o e n K w=>?_,I.base.free,fun b o e w=>?_,I.base.tups,I.base.frzs,I.base.tbls⟩,⟨_,hn',fun j y Y l C e3=>?_⟩,fun y c e=>?_,I.free,I.freeC,fun p hp=>?_,g ⟨oL,hoL,I.free⟩ f,by simpa using I.len⟩ ⟨_,f,.inl rfl⟩
  ·exact(f.2 b (zU (zJ (yI e) I.ok.above))).trans (I.base.keep b o e n K w)
  ·obtain⟨sl,l⟩:=I.base.slot b o e n K w
   exact⟨sl,(f.2 b (zU (zJ (yI e) I.ok.above))).trans l⟩
  ·obtain⟨o',l⟩:=I.base.there b o e w
   exact⟨o',(f.2 b (zU (zJ (yI e) I.ok.above))).trans l⟩
  ·by_cases G:j=i
   ·subst G
    rw[P]at l;cases l;rw[ï F]at C;cases C;exact⟨u,r,.inl ⟨D,by simp⟩⟩
   ·rw[í (æ G)]at C
    obtain⟨Z,r',q⟩:=hl j y Y l C e3;refine⟨Z,r',?_⟩;rcases q with⟨k,e⟩|⟨k,c,e,z⟩
    ·refine .inl ⟨k,?_⟩
     have:y≠x:=fun e=>G (sI hN l (e▸P))
     simp[this,e]
    ·exact .inr ⟨k,c,e,z.sameBut f (cne y c e)⟩
  ·obtain⟨U,z⟩:=I.cell y c e
   exact⟨U,z.sameBut f (cne y c e)⟩
  ·obtain⟨e,n,ne,nf,d⟩:=I.pin p hp
   exact⟨(f.2 p.1 ne).trans e,n,ne,nf,d⟩
 ·have J:X.fn x=Â:=by
   rcases hf with z|z
   ·exact z
   ·rw[z]at D;cases D
  obtain⟨c,t⟩:=I.ok.has x (.inl D);obtain⟨U,z⟩:=I.cell x c t;refine wpAny_storeName_cell I.ok.kind D t z (fun L T f=>?_);obtain⟨oc,O,N⟩:=id z;refine h { s with heap:=L } ⟨I.ok,I.os,I.bare,⟨fun b o e n K w=>?_,fun b o e n K w=>?_,I.base.free,fun b o e w=>?_,I.base.tups,I.base.frzs,I.base.tbls⟩,⟨m,hn.sameBut f (æ (cne x c t)),fun j y Y l C e3=>?_⟩,fun y W e=>?_,I.free,I.freeC,fun p hp=>?_,g ⟨oc,O,I.freeC x c t⟩ f,by simpa using I.len⟩ ⟨c,f,.inr t⟩
  ·exact(f.2 b (zU (zJ (yI e) (I.ok.cab x c J t)))).trans (I.base.keep b o e n K w)
  ·obtain⟨sl,l⟩:=I.base.slot b o e n K w
   exact⟨sl,(f.2 b (zU (zJ (yI e) (I.ok.cab x c J t)))).trans l⟩
  ·obtain⟨o',l⟩:=I.base.there b o e w
   exact⟨o',(f.2 b (zU (zJ (yI e) (I.ok.cab x c J t)))).trans l⟩
  ·by_cases G:j=i
   ·subst G
    rw[P]at l;cases l;rw[ï F]at C;cases C;exact⟨u,r,.inr ⟨.inl D,c,t,T⟩⟩
   ·rw[í (æ G)]at C
    obtain⟨Z,r',q⟩:=hl j y Y l C e3;refine⟨Z,r',?_⟩;rcases q with q|⟨k,W,e,z'⟩
    ·exact .inl q
    ·refine .inr ⟨k,W,e,z'.sameBut f ?_⟩
     rintro rfl;exact G (sI hN l (I.ok.inj _ _ _ e t▸P))
  ·by_cases S:W=c
   ·subst S;exact⟨_,T⟩
   ·obtain⟨w2,z2⟩:=I.cell y W e
    exact⟨w2,z2.sameBut f S⟩
  ·obtain⟨e,n,ne,nf,d⟩:=I.pin p hp
   refine⟨(f.2 p.1 ?_).trans e,n,ne,nf,d⟩;intro q;rw[q,O]at e;have q':oc=p.2:=yD e;exact d U (by rw[<- q'];exact N)
theorem nM{i:Nat}(I:Inv X O0 σ H s)(d:X.N.Nodup)(b:X.N[i]?=À x)(a:Loc X.env.scope x)(r:RelV v u)
  (h:∀s',Inv X O0 (σ.set i (À v)) H s'->Q () s') (c:X.fn x=Â\/X.env.scope.names.lookup x=À .local:=by first|exact .inl rfl|exact .inr rfl|assumption):Ï M A (Y2 X.env x u) Q E s :=
 qv I d b a r (fun s' e _=>h s' e) c
theorem Inv.call'(I:Inv X O0 σ H s)(f:s'.os=s.os)(u:Un (kg X.stack) ch H H' s.heap s'.heap)(h:HOk X.prog X.w H' s'.heap)(g:ϊ s'.gens)
  (a:∀b∈ch,(b∈X.ex\/X.s₀.heap.objs.size<=b)/\b≠X.env.locals/\(∀x c,X.env.cells.lookup x=À c->c≠b)/\∀p∈X.pn++O0,p.1≠b):Inv X O0 σ H' s':=by
 obtain⟨i,g',d',t',d⟩:=s';have e:d=s.os:=f;subst e;exact I.call (g':=g') (t':=t') (d':=d') u h g a
end
abbrev XK:=Å->Option Ç->Hp->Prop
abbrev St:=List (Option V)
abbrev VK:=V->Hp->Prop
abbrev TE:=St->Hp->VK->Prop
abbrev TT:=St->Hp->(Bool->Hp->Prop)->Prop
abbrev TA:=St->Hp->(List V->Hp->Prop)->Prop
structure kU where
 nx:St->Hp->Prop
 rt:VK
 bk:St->Hp->Prop:=fun _ _=>False
 ct:St->Hp->Prop:=fun _ _=>False
abbrev TS:=kU->St->Hp->Prop
def EP(X:Cx)(O0:List (Ç×Obj))(σ:St)(Q:VK)(u:Å)(s':É):Prop:=∃v H',Inv X O0 σ H' s'/\RelV v u/\Q v H'
def TP(X:Cx)(O0:List (Ç×Obj))(σ:St)(Q:Bool->Hp->Prop)(b:Bool)(s':É):Prop:=∃H',Inv X O0 σ H' s'/\Q b H'
def AP(X:Cx)(O0:List (Ç×Obj))(σ:St)(Q:List V->Hp->Prop)(us:List Å)(s':É):Prop:=∃vs H',Inv X O0 σ H' s'/\Vals vs us/\Q vs H'
def SP(X:Cx)(O0:List (Ç×Obj))(D:kU)(f:Flow)(s':É):Prop :=
 match f with
 |.next=>∃σ' H',Inv X O0 σ' H' s'/\D.nx σ' H'
 |.brk=>∃σ' H',Inv X O0 σ' H' s'/\D.bk σ' H'
 |.cont=>∃σ' H',Inv X O0 σ' H' s'/\D.ct σ' H'
 |.ret u=>∃v σ' H',Inv X O0 σ' H' s'/\RelV v u/\D.rt v H'
def PE(X:Cx)(e:Î)(t:TE):Prop :=
 ∀(O0:List (Ç×Obj))(s:É)(σ:St)(H:Hp)(Q:VK),Inv X O0 σ H s->t σ H Q->Ï (model X.prog X.w) X.A (eval e X.env) (EP X O0 σ Q) X.xe s
def PT(X:Cx)(e:Î)(t:TT):Prop :=
 ∀(O0:List (Ç×Obj))(s:É)(σ:St)(H:Hp)(Q:Bool->Hp->Prop),Inv X O0 σ H s->t σ H Q->Ï (model X.prog X.w) X.A (B! e X.env (eval e X.env)) (TP X O0 σ Q) X.xe s
def PW(X:Cx)(e:Î)(t:TT):Prop :=
 ∀(whole:Y7 Å)(O0:List (Ç×Obj))(s:É)(σ:St)(H:Hp)(Q:Bool->Hp->Prop),Inv X O0 σ H s->t σ H Q->Ï (model X.prog X.w) X.A (B! e X.env whole) (TP X O0 σ Q) X.xe s
theorem PW.pt(h:PW X e t):PT X e t:=h _
def PA(X:Cx)(es:List Î)(t:TA):Prop :=
 ∀(pos:ė)(O0:List (Ç×Obj))(s:É)(σ:St)(H:Hp)(Q:List V->Hp->Prop),Inv X O0 σ H s->t σ H Q->Ï (model X.prog X.w) X.A (spliced (õ pos (Ê es X.env))) (AP X O0 σ Q) X.xe s
def PS(X:Cx)(st:ľ)(t:TS):Prop :=
 ∀(O0:List (Ç×Obj))(s:É)(σ:St)(H:Hp)(D:kU),Inv X O0 σ H s->t D σ H->Ï (model X.prog X.w) X.A (exec st X.env) (SP X O0 D) X.xe s
def PSs(X:Cx)(st:List ľ)(t:TS):Prop :=
 ∀(O0:List (Ç×Obj))(s:É)(σ:St)(H:Hp)(D:kU),Inv X O0 σ H s->t D σ H->Ï (model X.prog X.w) X.A (execs st X.env) (SP X O0 D) X.xe s
theorem ar{α:Type}{t:Y7 α}{Q Q':α->É->Prop}(h:Ï M A t Q E s)(b:∀a s,Q a s->Q' a s):Ï M A t Q' E s:=yS h b fun _ _ x=>x
section
variable{X:Cx}
theorem bin{a b:Î}{e d:TE}(m:PE X a e)(l:PE X b d){O0:List (Ç×Obj)}{s:É}{σ:St}{H:Hp}{R:V->V->Hp->Prop}(I:Inv X O0 σ H s)(h:e σ H fun x H1=>d σ H1 fun y H2=>R x y H2)
  {α:Type}{Q:α->É->Prop}{f:Å->Å->Y7 α}
  (k:∀v u s2 x y H2,Inv X O0 σ H2 s2->RelV x v->RelV y u->R x y H2->Ï (model X.prog X.w) X.A (f v u) Q X.xe s2) :
  Ï (model X.prog X.w) X.A (eval a X.env) (fun v s₁=>Ï (model X.prog X.w) X.A (eval b X.env) (fun u s₂=>Ï (model X.prog X.w) X.A (f v u) Q X.xe s₂) X.xe s₁) X.xe s:=by
 refine ar (m O0 s σ H _ I h) fun v g c=>?_
 obtain⟨x,H1,o,r1,j⟩:=c;refine ar (l O0 g σ H1 _ o j) fun u s2 c=>?_
 obtain⟨y,H2,n,r2,i⟩:=c;exact k v u s2 x y H2 n r1 r2 i
noncomputable def LS(i:Nat):TE:=fun σ H Q=>∃v,σ[i]?=À (À v)/\Q v H
noncomputable def tC(v:V):TE:=fun _ H Q=>Q v H
theorem GP{i:Nat}(p:X.N[i]?=À x)(j:vJ X.env.scope x)(hd:(x==("__debug__":Í))=Ã:=by decide)(d:(x==("__classdict__":Í))=Ã:=by decide):PE X (.Name x pos) (LS i):=by
 intro q s g H Q I h;obtain⟨v,e,h⟩:=h;obtain⟨m,k,o⟩:=I.loc;obtain⟨u,r,l⟩:=o i x v p e j;have aw:EP X q g Q u s:=⟨v,H,I,r,h⟩;rcases l with⟨b,n⟩|⟨b,c,f,a⟩
 ·exact W4 (U2 I.ok.kind b k n aw) hd
 ·rcases b with b|b
  ·exact W4 (V7 I.ok.kind b f a aw) hd
  ·exact W4 (wpAny_loadName_free I.ok.kind b f a aw d) hd
theorem GV{i j pos}:PE X (.Constant (.int i) j pos) (tC (.int i)):=fun _ _ _ H _ I h=>wpAny_Constant_int ⟨.int i,H,I.tok _,⟨_,rfl⟩,h⟩
theorem JI{b j pos}:PE X (.Constant (.bool b) j pos) (tC (.bl b)):=fun _ _ _ H _ I h=>Constant_bool ⟨.bl b,H,I,rfl,h⟩
theorem GU{j pos}:PE X (.Constant .none j pos) (tC .non):=fun _ _ _ H _ I h=>P8 ⟨.non,H,I,rfl,h⟩
theorem GR{x j pos}:PE X (.Constant (.str x) j pos) (tC (.str x)):=fun _ _ _ H _ I h=>Calls.Constant_str ⟨.str x,H,I.tok _,⟨_,rfl⟩,h⟩
def Gl(X:Cx)(x:Í):Prop:=X.env.kindOf x=À .globalImplicit
theorem mz(I:Inv X O0 σ H s)(b:Gl X x)(a:X.mg x=À u)(h:Q u s)
  (hd:(x==("__debug__":Í))=Ã:=by decide):Ï (model X.prog X.w) X.A (eval (.Name x pos) X.env) Q E s :=
 Calls.Name_function_global I.ok.kind b (Calls.loadGlobal_global (by rw[I.ok.glob];exact I.mod.glob.keeps I.bk) a h) hd
theorem dB(I:Inv X O0 σ H s)(d:Gl X x)(c:X.mg x=Á)(a:å x=À u)(h:Q u s)
  (b:x≠"__name__":=by decide) (hd:(x==("__debug__":Í))=Ã:=by decide):Ï (model X.prog X.w) X.A (eval (.Name x pos) X.env) Q E s:=by
 obtain⟨g,f,e⟩:=I.mod.blt;exact Calls.Name_function_global I.ok.kind d (Calls.loadGlobal_builtin (by rw[I.ok.glob];exact I.mod.glob.keeps I.bk) c (by rw[I.ok.blt];exact f.keeps I.bk) ((e x b).trans a) h) hd
theorem Ep(b:Gl X x)(a:X.mg x=À u)(r:RelV v u)(hd:(x==("__debug__":Í))=Ã:=by decide):PE X (.Name x pos) (tC v) :=
 fun _ _ _ H _ I h=>mz I b a ⟨v,H,I,r,h⟩ hd
variable{a b:Î}{ta tb:TE}{pos:ė}
theorem RelV.none_iff(r:RelV x v):(v==Ů)=decide (x=.non):=by
 cases x with
 |non=>cases r;rfl
 |bl _=>cases r;rfl
 |int _=>obtain⟨t,rfl⟩:=r;rfl
 |str _=>obtain⟨t,rfl⟩:=r;rfl
 |byt _=>obtain⟨t,rfl⟩:=r;rfl
 |flt _=>obtain⟨t,rfl⟩:=r;rfl
 |ref _=>cases r;rfl
 |ty _=>cases r;rfl
variable{tA tB':TT}{rest:List Î}
noncomputable def L9(t u:TT):TT:=fun σ H Q=>t σ H fun c H1=>if c=Â then u σ H1 Q else Q Ã H1
noncomputable def Nd(t u:TT):TT:=fun σ H Q=>t σ H fun c H1=>if c=Â then Q Â H1 else u σ H1 Q
noncomputable def LZ(t:TT):TT:=fun σ H Q=>t σ H fun c H1=>Q (!c) H1
theorem DX(d:PT X a tA):PW X (.BoolOp .And [a] pos) tA:=by
 intro g f s b H Q I h;refine isTrue_and (ar (d f s b H Q I h) fun c i e=>?_);cases c with
 |true=>exact isTrue_and_nil e
 |false=>exact e
theorem Gz(d:PT X a tA):PW X (.BoolOp .Or [a] pos) tA:=by
 intro g f s b H Q I h;refine isTrue_or (ar (d f s b H Q I h) fun c i e=>?_);cases c with
 |false=>exact isTrue_or_nil e
 |true=>exact e
theorem GB(n:PT X a tA)(m:PW X (.BoolOp .And (b::rest) pos) tB'):PW X (.BoolOp .And (a::b::rest) pos) (L9 tA tB'):=by
 intro k g s e H Q I h;refine isTrue_and (ar (n g s e H _ I h) fun c l d=>?_);obtain⟨j,i,f⟩:=d;cases c with
 |true=>exact m k g l e j Q i f
 |false=>exact⟨j,i,f⟩
theorem Jv(n:PT X a tA)(m:PW X (.BoolOp .Or (b::rest) pos) tB'):PW X (.BoolOp .Or (a::b::rest) pos) (Nd tA tB'):=by
 intro k g s e H Q I h;refine isTrue_or (ar (n g s e H _ I h) fun c l d=>?_);obtain⟨j,i,f⟩:=d;cases c with
 |true=>exact⟨j,i,f⟩
 |false=>exact m k g l e j Q i f
theorem GC(d:PT X a tA):PT X (.UnaryOp .Not a pos) (LZ tA):=by
 intro e s b H Q I h;exact isTrue_not (d e s b H (fun c f=>Q (!c) f) I h)
noncomputable def Ja(ta tb:TE):TE:=fun σ H Q=>ta σ H fun x H1=>∃c,x=.bl c/\if c=Â then tb σ H1 Q else Q (.bl Ã) H1
noncomputable def LY(ta tb:TE):TE:=fun σ H Q=>ta σ H fun x H1=>∃c,x=.bl c/\if c=Â then Q (.bl Â) H1 else tb σ H1 Q
noncomputable def IW(ta:TE):TE:=fun σ H Q=>ta σ H fun x H1=>∃c,x=.bl c/\Q (.bl (!c)) H1
theorem GS{c}(h:PE X a t):PE X (.BoolOp c [a] pos) t:=fun e s b H Q I d=>BoolOp_one (h e s b H Q I d)
theorem GZ(m:PE X a ta)(l:PE X (.BoolOp .And (b::rest) pos) tb):PE X (.BoolOp .And (a::b::rest) pos) (Ja ta tb):=by
 intro g s f H Q I h;refine BoolOp_and (ar (m g s f H _ I h) fun v k e=>?_);obtain⟨x,j,i,r1,d⟩:=e;obtain⟨c,rfl,d⟩:=d;cases r1;refine Ī ?_;cases c with
 |true=>exact l g k f j Q i d
 |false=>exact⟨.bl Ã,j,i,rfl,d⟩
theorem JE(m:PE X a ta)(l:PE X (.BoolOp .Or (b::rest) pos) tb):PE X (.BoolOp .Or (a::b::rest) pos) (LY ta tb):=by
 intro g s f H Q I h;refine BoolOp_or (ar (m g s f H _ I h) fun v k e=>?_);obtain⟨x,j,i,r1,d⟩:=e;obtain⟨c,rfl,d⟩:=d;cases r1;refine Ī ?_;cases c with
 |false=>exact l g k f j Q i d
 |true=>exact⟨.bl Â,j,i,rfl,d⟩
theorem GT(f:PE X a ta):PE X (.UnaryOp .Not a pos) (IW ta):=by
 intro g s e H Q I h;refine UnaryOp_ (ar (f g s e H _ I h) fun v k d=>?_);obtain⟨x,j,i,r1,b⟩:=d;obtain⟨c,rfl,b⟩:=b;cases r1;exact not_of (Ī ⟨.bl (!c),j,i,rfl,b⟩)
noncomputable def Nf(t:TT)(ta tb:TE):TE:=fun σ H Q=>t σ H fun c H1=>if c=Â then ta σ H1 Q else tb σ H1 Q
theorem Bo(m:PT X c tA)(o:PE X a ta)(n:PE X b tb):PE X (.IfExp c a b pos) (Nf tA ta tb):=by
 intro g s e H Q I h;refine wpAny_IfExp (ar (m g s e H _ I h) fun d i f=>?_);obtain⟨l,k,j⟩:=f;cases d with
 |true=>exact o g i e l Q k j
 |false=>exact n g i e l Q k j
end
def bR(K:Þ)(H:Hp)(a:Ç)(xs:List V):Prop :=
 Rd H a (.lst xs) \/
  ∃(o:Y9)(O4:Array Å)(n:Nat),K.lookup a=À o/\o.cls=.type "list"/\o.dict=Á/\o.data=.seq O4 n/\O4.size<=Ì/\Vals xs O4.toList
def iz(K:Þ)(H:Hp)(a:Ç)(xs:List V):Prop :=
 Rd H a (.tup xs) \/
  ∃(o:Y9)(O4:Array Å)(n:Nat),K.lookup a=À o/\o.cls=.type "tuple"/\o.data=.seq O4 n/\O4.size<=Ì/\Vals xs O4.toList
noncomputable def MM:Å->Option V
 |.none=>À .non
 |.bool b=>À (.bl b)
 |.int i _=>À (.int i)
 |.str x _=>À (.str x)
 |.bytes b _=>À (.byt b)
 |.float b _=>À (.flt b)
 |.ref a=>À (.ref a)
 |.type n=>À (.ty n)
 |_=>Á
theorem RelV.abs(r:RelV x u):MM u=À x:=by
 cases x with
 |non=>cases r;rfl
 |bl _=>cases r;rfl
 |int _=>obtain⟨t,rfl⟩:=r;rfl
 |str _=>obtain⟨t,rfl⟩:=r;rfl
 |byt _=>obtain⟨t,rfl⟩:=r;rfl
 |flt _=>obtain⟨t,rfl⟩:=r;rfl
 |ref _=>cases r;rfl
 |ty _=>cases r;rfl
theorem RelV.inj(r:RelV x u)(q:RelV y u):x=y:=yD (r.abs.symm.trans q.abs)
theorem Vals.inj{xs ys:List V}{us:List Å}(h:Vals xs us):Vals ys us->xs=ys:=by
 induction h generalizing ys with
 |nil=>intro a;cases a;rfl
 |cons r t d =>
  intro a;cases a with
  |cons c b=>rw[r.inj c,d b]
section
variable{X:Cx}{O0:List (Ç×Obj)}{σ:St}{H:Hp}{s:É}{a:Ç}{xs ys:List V}
theorem Inv.list(I:Inv X O0 σ H s)(h:bR X.K H a xs):∃O4:List Å,Vals xs O4/\PlainL s.heap a O4.toArray/\xs.length<=Ì:=by
 rcases h with h|⟨o,O4,n,c,d,hd,b,hz,r⟩
 ·obtain⟨z,O4,n,r,e⟩:=h.ok I.O8
  exact⟨O4,r,⟨_,n,e,rfl,rfl,rfl⟩,z⟩
 ·refine⟨O4.toList,r,⟨o,n,I.kIn a o c,d,hd,by simpa using b⟩,?_⟩
  have e:=r.length;simp only[ñ]at e;lia
theorem Inv.tuple(I:Inv X O0 σ H s)(h:iz X.K H a xs):∃O4:List Å,Vals xs O4/\IsTup s.heap a O4.toArray/\xs.length<=Ì:=by
 rcases h with h|⟨o,O4,n,c,d,b,hz,r⟩
 ·obtain⟨z,O4,r,p⟩:=h.ok I.O8
  exact⟨O4,r,p,z⟩
 ·refine⟨O4.toList,r,⟨o,I.kIn a o c,d,n,by simpa using b⟩,?_⟩
  have e:=r.length;simp only[ñ]at e;lia
theorem Inv.list_inj(I:Inv X O0 σ H s)(h:bR X.K H a xs)(h':bR X.K H a ys):xs=ys:=by
 obtain⟨i,r,⟨o,n,e,_,_,d⟩,_⟩:=I.list h;obtain⟨b,g,⟨j,k,c,_,_,f⟩,_⟩:=I.list h';rw[e]at c;cases c;rw[d]at f;injection f with d1 _;have:i=b:=by simpa using congrArg X4 d1
 subst this;exact r.inj g
theorem Inv.tuple_inj(I:Inv X O0 σ H s)(h:iz X.K H a xs)(h':iz X.K H a ys):xs=ys:=by
 obtain⟨i,r,⟨o,e,_,n,d⟩,_⟩:=I.tuple h;obtain⟨b,g,⟨j,c,_,k,f⟩,_⟩:=I.tuple h';rw[e]at c;cases c;rw[d]at f;injection f with d1 _;have:i=b:=by simpa using congrArg X4 d1
 subst this;exact r.inj g
end
abbrev Cx.wish(X:Cx)(E:Å->É->Prop):Cx:={ X with xe:=E }
abbrev Cx.nox(X:Cx):Cx:=X.wish fun _ _=>False
theorem Cx.Ok.wish{X:Cx}(ok:X.Ok)(E:Å->É->Prop):(X.wish E).Ok :=
 ⟨ok.mod,ok.kind,ok.glob,ok.blt,ok.above,ok.inj,ok.has,ok.cab,ok.hd,ok.frames,ok.stk,ok.exf,ok.bs,ok.bsz,ok.noex,ok.exfs,ok.funs,ok.frf⟩
theorem Cx.Ok.unwish{X:Cx}{E:Å->É->Prop}(ok:(X.wish E).Ok):X.Ok :=
 ⟨ok.mod,ok.kind,ok.glob,ok.blt,ok.above,ok.inj,ok.has,ok.cab,ok.hd,ok.frames,ok.stk,ok.exf,ok.bs,ok.bsz,ok.noex,ok.exfs,ok.funs,ok.frf⟩
section
variable{X:Cx}{O0:List (Ç×Obj)}{σ:St}{H:Hp}{s:É}{E:Å->É->Prop}
theorem Inv.wish(I:Inv X O0 σ H s)(E:Å->É->Prop):Inv (X.wish E) O0 σ H s:=⟨I.ok.wish E,I.os,I.bare,I.base,I.loc,I.cell,I.free,I.freeC,I.pin,I.O8,I.len⟩
theorem Inv.unwish(I:Inv (X.wish E) O0 σ H s):Inv X O0 σ H s:=⟨I.ok.unwish,I.os,I.bare,I.base,I.loc,I.cell,I.free,I.freeC,I.pin,I.O8,I.len⟩
theorem SP.unwish(h:SP (X.wish E) O0 D f s'):SP X O0 D f s':=by
 cases f with
 |next=>obtain⟨a,b,I,q⟩:=h;exact⟨a,b,I.unwish,q⟩
 |brk=>obtain⟨a,b,I,q⟩:=h;exact⟨a,b,I.unwish,q⟩
 |cont=>obtain⟨a,b,I,q⟩:=h;exact⟨a,b,I.unwish,q⟩
 |ret u=>obtain⟨v,a,b,I,r,q⟩:=h;exact⟨v,a,b,I.unwish,r,q⟩
theorem PSs.nox{st:List ľ}{t:TS}(h:PSs X.nox st t):PSs X st t:=fun c s a H D I b =>
 yS (h c s a H D (I.wish _) b) (fun _ _ q=>q.unwish) fun _ _ z=>False.elim z
end
section
variable{X:Cx}{st:ľ}{rest:List ľ}{t u:TS}{e:Î}{te:TE}{pos:ė}
noncomputable def IX:TS:=fun D σ H=>D.nx σ H
noncomputable def LV(t u:TS):TS:=fun D σ H=>t { D with nx:=u D } σ H
theorem DZ:PSs X [] IX:=fun _ _ a H _ I h=>q! ⟨a,H,I,h⟩
theorem A8(g:PS X st t)(e:PSs X rest u):PSs X (st::rest) (LV t u):=by
 intro b s c H D I h;refine wpAny_execs_cons (ar (g b s c H { D with nx:=u D } I h) fun f d q=>?_);cases f with
 |next =>
  obtain⟨a,j,i,q⟩:=q;exact e b d a j D i q
 |ret v=>exact q
 |brk=>exact q
 |cont=>exact q
theorem Inv.quiet(I:Inv X O0 σ H s):interactive X.env=Ã:=by simp[interactive,I.ok.kind]
noncomputable def IY(te:TE):TS:=fun D σ H=>te σ H fun _ H1=>D.nx σ H1
theorem Ea(he:PE X e te)(c:Ľ e Á pos.line X.env=pure Ã:=by rfl):PS X (.Expr e pos) (IY te):=by
 intro d s a H D I h;exact wpAny_Expr_any (ar (he d s a H _ I h) fun v i ⟨x,g,f,r1,b⟩=>⟨a,g,f,b⟩) I.quiet c
noncomputable def LX(te:TE):TS:=fun D σ H=>te σ H D.rt
theorem GE(he:PE X e te):PS X (.Return (À e) pos) (LX te):=by
 intro c s a H D I h;exact wpAny_Return_some (ar (he c s a H _ I h) fun v g ⟨x,f,d,r1,b⟩=>⟨x,a,f,d,r1,b⟩)
noncomputable def L4(c:TT)(t u:TS):TS:=fun D σ H=>c σ H fun b H1=>if b=Â then t D σ H1 else u D σ H1
theorem Jw(m:PT X c tc)(o:PSs X a t)(n:PSs X b u):PS X (.If c a b pos) (L4 tc t u):=by
 intro g s e H D I h;refine wpAny_If (ar (m g s e H _ I h) fun d i f=>?_);obtain⟨l,k,j⟩:=f;cases d with
 |true=>exact o g i e l D k j
 |false=>exact n g i e l D k j
noncomputable def Fz:TS:=fun _ _ _=>False
theorem Ba:PS X st Fz:=fun _ _ _ _ _ _ h=>h.elim
end
abbrev TG:=V->St->Hp->(St->Hp->Prop)->Prop
abbrev ug:=List V->St->Hp->(St->Hp->Prop)->Prop
def PG(X:Cx)(target:Î)(t:TG):Prop :=
 ∀(O0:List (Ç×Obj))(s:É)(σ:St)(H:Hp)(v:V)(u:Å)(Q:St->Hp->Prop),Inv X O0 σ H s->RelV v u->t v σ H Q ->
  Ï (model X.prog X.w) X.A (assign target X.env u) (fun _ s'=>∃σ' H',Inv X O0 σ' H' s'/\Q σ' H') X.xe s
def qW(X:Cx)(ts:List Î)(t:ug):Prop :=
 ∀(O0:List (Ç×Obj))(s:É)(σ:St)(H:Hp)(vs:List V)(us:List Å)(Q:St->Hp->Prop),Inv X O0 σ H s->Vals vs us->t vs σ H Q ->
  Ï (model X.prog X.w) X.A (assignInOrder ((à ts X.env).map (·.2)) us) (fun _ s'=>∃σ' H',Inv X O0 σ' H' s'/\Q σ' H') X.xe s
abbrev B9:=V->V->V->Hp->(Hp->Prop)->Prop
def xh(X:Cx)(t:B9):Prop :=
 ∀(O0:List (Ç×Obj))(s:É)(σ:St)(H:Hp)(o i v:V)(ov iv u:Å)(Q:Hp->Prop),Inv X O0 σ H s->RelV o ov->RelV i iv->RelV v u->t o i v H Q ->
  Ï (model X.prog X.w) X.A (Ϛ ov iv u) (fun _ s'=>∃H',Inv X O0 σ H' s'/\Q H') X.xe s
abbrev C9:=V->V->Hp->VK->Prop
def Ap(X:Cx)(op:Ā)(t:C9):Prop :=
 ∀(O0:List (Ç×Obj))(s:É)(σ:St)(H:Hp)(x y:V)(v u:Å)(Q:VK),Inv X O0 σ H s->RelV x v->RelV y u->t x y H Q ->
  Ï (model X.prog X.w) X.A (inplaceOp op v u) (EP X O0 σ Q) X.xe s
section
variable{X:Cx}{pos:ė}
noncomputable def oZ(i:Nat):TG:=fun v σ H Q=>Q (σ.set i (À v)) H
theorem Em{i:Nat}(d:X.N.Nodup)(b:X.N[i]?=À x)(a:Loc X.env.scope x)(c:X.fn x=Â\/X.env.scope.names.lookup x=À .local:=by first|exact .inl rfl|exact .inr rfl|assumption):PG X (.Name x pos) (oZ i):=by
 intro j s f H v u Q I r h;exact X5 (nM I d b a r (fun g e=>⟨_,H,e,h⟩) c)
noncomputable def MC:ug:=fun vs σ H Q=>vs=[]/\Q σ H
noncomputable def Kd(t:TG)(u:ug):ug:=fun vs σ H Q=>∃v r,vs=v::r/\t v σ H fun σ' H'=>u r σ' H' Q
theorem Ek:qW X [] MC:=by
 intro d s a H b c Q I r h;obtain⟨e,h⟩:=h;subst e;cases r;exact assignInOrder_nil ⟨a,H,I,h⟩
theorem Bf(l:PG X e t)(k:qW X es u)
  (j:(à (e::es) X.env).map (·.2)=assign e X.env::(à es X.env).map (·.2):=by rfl):qW X (e::es) (Kd t u):=by
 intro c s d H p w Q I r h;obtain⟨v,q,m,h⟩:=h;subst m;cases r with
 |cons r g =>
  rw[j];refine assignInOrder_cons (ar (l c s d H _ _ _ I r h) fun _ f b=>?_);obtain⟨a,o,n,i⟩:=b;exact k c f a o _ _ Q n g i
noncomputable def MA(K:Þ)(n:Nat)(t:ug):TG:=fun v σ H Q=>∃a xs,v=.ref a/\iz K H a xs/\xs.length=n/\t xs σ H Q
theorem GN{k:Nat}{n:Nat}(x:X.calm=Â)(h:qW X es t)
  (q:(à es X.env).length=n:=by rfl) (d:(à es X.env).findIdx? (·.1)=Á:=by rfl):PG X (.Tuple es k pos) (MA X.K n t):=by
 intro i s f H v u Q I r c;obtain⟨a,j,z,p,w,c⟩:=c;subst z;cases r;obtain⟨B,g,m,hz⟩:=I.tuple p;refine assign_Tuple_tuple (I.ok.hd x) m (by simp[q,<- w,g.length]) d fun y l=>?_
 have A:Inv X i f H { s with heap:=y }:=I.kept (t':=s.toks) fun b o e=>l b o (zU (yI e)) e
 exact h i _ f H j _ Q A (by simpa using g) c
noncomputable def MB(to ti:TE)(t:B9):TG:=fun v σ H Q=>to σ H fun o H1=>ti σ H1 fun i H2=>t o i v H2 fun H3=>Q σ H3
theorem GO(l:PE X o to)(m:PE X i ti)(k:xh X t)
  (n:∀v,assign (.Subscript o i pos) X.env v=(do
   let ov <- holding [v] (eval o X.env)
   let iv <- holding [v,ov] (eval i X.env)
   ŗ pos
   holding [v,ov,iv] (Ϛ ov iv v)
   release [v,ov,iv] []):=by intro _;rfl):PG X (.Subscript o i pos) (MB to ti t):=by
 intro c s b H v u Q I r h;rw[n];refine yE (yR (ar (l c s b H _ I h) fun ov e a=>?_));obtain⟨x,B,w,r1,j⟩:=a;refine yE (yR (ar (m c e b B _ w j) fun iv d a=>?_));obtain⟨y,A,q,r2,g⟩:=a;refine yE (ų (yE (yR (ar (k c d b A x y v ov iv u _ q r1 r2 r g) fun _ C a=>?_))));obtain⟨z,p,f⟩:=a;exact wpAny_release ⟨b,z,p,f⟩
noncomputable def wc(te:TE)(g:TG):TS:=fun D σ H=>te σ H fun x H1=>g x σ H1 D.nx
theorem GI(he:PE X e te)(k:PG X tg g)(j:Ϩ [tg] e pos.line X.env=pure Ã:=by rfl)(i:Ħ [tg] e X.env=pure Á:=by rfl)
  (l:(à [tg] X.env).map (·.2)=[assign tg X.env]:=by rfl):PS X (.Assign [tg] e pos) (wc te g):=by
 intro c s b H D I h;refine wpAny_Assign_stores (ar (he c s b H _ I h) fun v d a=>?_) j i;obtain⟨x,n,m,r1,f⟩:=a;rw[l];exact ar (k c d b n x v _ m r1 f) fun _ o q=>q
theorem GD{i:Nat}(k:X.N.Nodup)(g:X.N[i]?=À x)(d:Loc X.env.scope x)(he:PE X e te)(f:Ľ e (À (.Name x pos')) pos.line X.env=pure Ã:=by rfl)(j:X.fn x=Â\/X.env.scope.names.lookup x=À .local:=by first|exact .inl rfl|exact .inr rfl|assumption) :
  PS X (.Assign [.Name x pos'] e pos) (wc te (oZ i)):=by
 intro l s b H D I h;refine wpAny_Assign_Name (ar (he l s b H _ I h) fun v q a=>?_) f;obtain⟨y,o,n,r1,c⟩:=a;exact nM n k g d r1 (fun p m=>⟨_,o,m,c⟩) j
noncomputable def L8(i:Nat)(te:TE)(ti:C9):TS:=fun D σ H=>∃x,σ[i]?=À (À x)/\te σ H fun y H1=>ti x y H1 fun z H2=>D.nx (σ.set i (À z)) H2
theorem GH{i:Nat}(L:X.N.Nodup)(p:X.N[i]?=À x)(j:Loc X.env.scope x)(he:PE X e te)(C:Ap X op ti)(J:X.fn x=Â\/X.env.scope.names.lookup x=À .local:=by first|exact .inl rfl|exact .inr rfl|assumption) :
  PS X (.AugAssign (.Name x pos') op e pos) (L8 i te ti):=by
 intro n s o H D I h;obtain⟨v,M,h⟩:=h;obtain⟨m,E,G⟩:=I.loc;have vis:vJ X.env.scope x:=by rcases j with k|k;exact .inl k;exact .inr (.inl k)
 obtain⟨u,r,l⟩:=G i x v p M vis;refine wpAny_AugAssign_Name ?_;have q:Ï (model X.prog X.w) X.A (eval e X.env) (fun w g=>Ï (model X.prog X.w) X.A (inplaceOp op u w) (fun r f=>Ï (model X.prog X.w) X.A (Y2 X.env x r) (fun _=>SP X n D .next) X.xe f) X.xe g) X.xe s:=by
  refine ar (he n s o H _ I h) fun w t b=>?_
  obtain⟨y,R,P,r1,B⟩:=b;refine ar (C n t o R v y u w _ P r r1 B) fun z U b=>?_
  obtain⟨S,Q,O,r2,A⟩:=b;exact nM O L p j r2 (fun T N=>⟨_,Q,N,A⟩) J
 rcases l with⟨a,F⟩|⟨a,c,K,d⟩
 ·exact U2 I.ok.kind a E F q
 ·rcases a with a|a
  ·exact V7 I.ok.kind a K d q
  ·rcases j with k|k
   ·have:X.env.scope.names.lookup x=À .free:=a
    rw[k]at this;cases this
   ·have:X.env.scope.names.lookup x=À .free:=a
    rw[k]at this;cases this
def IZ(to ti te:TE)(tget:V->V->Hp->VK->Prop)(tip:C9)(tset:B9):TS:=fun D σ H=>to σ H fun o H1=>ti σ H1 fun i H2=>tget o i H2 fun x H3=>te σ H3 fun y H4=>tip x y H4 fun z H5=>tset o i z H5 fun H6=>D.nx σ H6
def Cb(X:Cx)(t:V->V->Hp->VK->Prop):Prop :=
 ∀(O0:List (Ç×Obj))(s:É)(σ:St)(H:Hp)(o i:V)(ov iv:Å)(Q:VK),Inv X O0 σ H s->RelV o ov->RelV i iv->t o i H Q ->
  Ï (model X.prog X.w) X.A (S6 ov iv) (EP X O0 σ Q) X.xe s
theorem Eb(G:PE X o to)(J:PE X i ti)(K:Cb X tget)(he:PE X e te)(F:Ap X op tip)(E:xh X tset)
  (L:∀ov iv new,augStore i ov iv new=(do holding [new,ov,iv] (Ϛ ov iv new);release [new,ov,iv] [];pure .next):=by intros;rfl):PS X (.AugAssign (.Subscript o i tpos) op e pos) (IZ to ti te tget tip tset):=by
 intro c s b H D I h;refine wpAny_AugAssign_SubscriptAny (ar (G c s b H _ I h) fun ov r a=>?_) L;obtain⟨g,Y,R,r1,C⟩:=a;refine ar (J c r b Y _ R C) fun iv q a=>?_
 obtain⟨f,W,Q,r2,B⟩:=a;refine ar (K c q b W g f ov iv _ Q r1 r2 B) fun d p a=>?_
 obtain⟨l,V,P,w,A⟩:=a;refine ar (he c p b V _ P A) fun v n a=>?_
 obtain⟨k,U,O,u,z⟩:=a;refine ar (F c n b U l k d v _ O w u z) fun new m a=>?_
 obtain⟨j,T,N,t,y⟩:=a;exact ar (E c m b T g f j ov iv new _ N r1 r2 t y) fun _ Z ⟨S,M,x⟩=>⟨b,S,M,x⟩
noncomputable def Ln(f:Int->Int->Int):C9:=fun x y H Q=>∃i j,x=.int i/\y=.int j/\Q (.int (f i j)) H
theorem HI:Ap X .Add (Ln fun i j=>i+j):=by
 intro e s c H x y v u Q I r1 r2 h;obtain⟨i,j,b,a,q⟩:=h;subst b;subst a;obtain⟨t,rfl⟩:=r1;obtain⟨d,rfl⟩:=r2;exact iadd_int ⟨.int _,H,I.tok _,⟨_,rfl⟩,q⟩
theorem HH:Ap X .Sub (Ln fun i j=>i-j):=by
 intro e s c H x y v u Q I r1 r2 h;obtain⟨i,j,b,a,q⟩:=h;subst b;subst a;obtain⟨t,rfl⟩:=r1;obtain⟨d,rfl⟩:=r2;exact isub_int ⟨.int _,H,I.tok _,⟨_,rfl⟩,q⟩
end
section
variable{X:Cx}{pos:ė}
def Fw(c:TT)(tb:TS):TS:=fun D σ H=>∃W:Nat->St->Hp->Prop,(∃m,W m σ H)/\∀m σ H,W m σ H ->
 c σ H fun b H1=>if b=Â then ∃N:St->Hp->Prop,(∀σ' H',N σ' H'->∃m',m'<m/\W m' σ' H')/\tb { D with nx:=N,ct:=N,bk:=D.nx } σ H1 else D.nx σ H1
theorem A9(t:Ϝ (model X.prog X.w) X.A X.env X.xe)(K:PT X c tc)(L:PSs X body tb):PS X (.While c body [] pos) (Fw tc tb):=by
 intro q s A H D I h;obtain⟨W,⟨J,C⟩,turn⟩:=h;refine wpAny_While (codeAny_whileLoop (fun n G=>∃e z,Inv X q e z G/\W n e z) ?_ J ⟨A,H,I,C⟩);rintro n F ⟨d,y,M,B⟩;refine ĥ t (ar (K q F d y _ M (turn n d y B)) fun b E o=>?_);obtain⟨x,w,j⟩:=o;cases b with
 |true =>
  obtain⟨N,u,j⟩:=j;rw[yH rfl];refine ĥ t (ar (L q E d x _ w j) fun f O i=>?_);cases f with
  |next =>
   obtain⟨a,g,r,l⟩:=i;obtain⟨m,p,k⟩:=u a g l;exact⟨m,p,a,g,r,k⟩
  |cont =>
   obtain⟨a,g,r,l⟩:=i;obtain⟨m,p,k⟩:=u a g l;exact⟨m,p,a,g,r,k⟩
  |brk=>exact i
  |ret v=>exact i
 |false =>
  rw[yG Ĝ];exact q! ⟨d,x,w,j⟩
end
structure It where
 go:Nat->Hp->Prop
 yld:Nat->Hp->V->Hp->Prop
 stop:Nat->Hp->Prop
def dU(X:Cx)(O0:List (Ç×Obj))(H:Hp)(b:Ç):Prop :=
 H b=Á/\b≠X.env.locals/\b∉X.fs/\(b∈X.ex\/X.s₀.heap.objs.size<=b)/\(∀x c,X.env.cells.lookup x=À c->c≠b)/\∀p∈X.pn++O0,p.1≠b
theorem Inv.fpOk(I:Inv X O0 σ H s)(a:s.heap.objs.size<=b)(f:H' b=Á):dU X O0 H' b:=by
 refine⟨f,Ĳ (zJ I.lt a),I.nofs a,.inr (z5 I.sz a),fun x c e z=>?_,fun p d z=>?_⟩
 ·obtain⟨v,q⟩:=I.cell x c e
  exact absurd (zJ q.lt (by rw[z];exact a)) (y0 _)
 ·exact absurd (zJ (yI (I.pin p d).1) (by rw[z];exact a)) (y0 _)
structure jW(P:Ò)(w:Ú)(K:Þ)(tg:Î)(J:It)(fp:List Ç)(it:Ç)(tn:Nat->è->Prop):Prop where
 mem:it∈fp
 obj:∀i h,tn i h->∀b∈fp,∃o,h.get? b=À o/\∀v,o.data≠.cell v
 keep:∀i h h',tn i h->(∀b∈fp,∀o,h.get? b=À o->h'.get? b=À o)->tn i h'
 item:∀(X:Cx),X.prog=P->X.w=w->X.K=K->X.calm=Â->∀(i:Nat)(O0:List (Ç×Obj))(s:É)(σ:St)(H:Hp)(E:Å->É->Prop),Inv X O0 σ H s->(∀b∈fp,dU X O0 H b)->tn i s.heap->J.go i H ->
  Ï (model P w) X.A (z? (.ref it)) (fun r s1=>∃u,r=À u /\
   Ï (model P w) X.A (ύ tg (.ref it) u) (fun _ s2=>∃x H',Inv X O0 σ H' s2/\RelV x u/\J.yld i H x H'/\tn (i+1) s2.heap/\∀b∈fp,H' b=Á) E s1) E s
 done:∀(X:Cx),X.prog=P->X.w=w->X.K=K->X.calm=Â->∀(i:Nat)(O0:List (Ç×Obj))(s:É)(σ:St)(H:Hp)(E:Å->É->Prop),Inv X O0 σ H s->(∀b∈fp,dU X O0 H b)->tn i s.heap->J.stop i H ->
  Ï (model P w) X.A (z? (.ref it)) (fun r s1=>r=Á/\Inv X O0 σ H s1) E s
 self:∀(A:ć)(i:Nat)(s:É)(Q:Å->É->Prop)(E:Å->É->Prop),tn i s.heap->Q (.ref it) s->Ï (model P w) A (pyIter (.ref it)) Q E s
abbrev TI:=St->Hp->(It->Hp->Prop)->Prop
def IG(X:Cx)(O0:List (Ç×Obj))(σ:St)(tg:Î)(R:It->Hp->Prop)(itv:Å)(s2:É):Prop :=
 ∃(it:Ç)(fp:List Ç)(tn:Nat->è->Prop)(J:It)(H':Hp),itv=.ref it/\Inv X O0 σ H' s2/\jW X.prog X.w X.K tg J fp it tn/\tn 0 s2.heap/\(∀b∈fp,dU X O0 H' b)/\R J H'
def PI(X:Cx)(tg iter:Î)(wi:TI):Prop :=
 ∀(O0:List (Ç×Obj))(s:É)(σ:St)(H:Hp)(R:It->Hp->Prop),Inv X O0 σ H s->wi σ H R ->
  Ï (model X.prog X.w) X.A (eval iter X.env) (fun v s1=>Ï (model X.prog X.w) X.A (pyIter v) (IG X O0 σ tg R) X.xe s1) X.xe s
theorem mB(b:s.heap.get? it=À o)(d:o.cls=.type n)(hd:o.data=.fields vs)
  (c:["enumerate","zip","dict_itemiterator","dict_reverseitemiterator","odict_iterator","itertools.zip_longest","itertools.pairwise"].contains n=Ã) (a:Q () s):Ï M A (ύ tg (.ref it) u) Q E s:=by
 unfold ύ;cases tg<;>first
  |exact yF a
  | (cases u <;> first
    |exact yF a
    | (refine yE (wpAny_load b ?_)
       rw[d,hd];show Ï M A (if(["enumerate","zip","dict_itemiterator","dict_reverseitemiterator","odict_iterator","itertools.zip_longest","itertools.pairwise"].contains n&&vs[0]?==À (z! _))=Â then _ else _) Q E s;rw[yG (by intro h;rw[c,Bool.false_and]at h;cases h)];exact yF a))
noncomputable def Df(K:Þ)(a:Ç):It :=
 ⟨fun i H=>∃xs x,bR K H a xs/\xs[i]?=À x,fun i H x H'=>H'=H/\∀xs,bR K H a xs->xs[i]?=À x,fun i H=>∃xs,bR K H a xs/\xs.length<=i⟩
noncomputable def Dd(K:Þ)(a:Ç):It :=
 ⟨fun i H=>∃xs x,iz K H a xs/\xs[i]?=À x,fun i H x H'=>H'=H/\∀xs,iz K H a xs->xs[i]?=À x,fun i H=>∃xs,iz K H a xs/\xs.length<=i⟩
noncomputable def As(lo:Int)(n:Nat):It:=⟨fun i _=>i<n,fun i H x H'=>H'=H/\x=.int (lo+i),fun i _=>n<=i⟩
theorem xu{P:Ò}{w:Ú}{K:Þ}{Q:Î}(a it:Ç):jW P w K Q (Df K a) [it] it (fun i h=>h.IsListIter it a i) where
 mem:=by simp
 obj:=fun i h f b g=>by
  have e:b=it:=by simpa using g
  subst e;obtain⟨o,e,c,d⟩:=f;exact⟨o,e,fun v z=>by rw[d]at z;cases z⟩
 keep:=fun i h n f k=>f.at fun o e=>k it (by simp) o e
 item:=by
  intro X A t B M i N s L H E I m f y;subst A t B;obtain⟨O,x,l,r⟩:=y;obtain⟨Y,q,p,hz⟩:=I.list l;obtain⟨u,U,S⟩:=q.get r;obtain⟨J,G,V,F,D,C⟩:=m it (by simp);refine S! f p.isList (x:=u) (by simpa using U) fun n j R=>?_
  have Z:Inv X N L H { s with heap:=n }:=I.turned (t':=s.toks) (fun b o g e=>(R.2 b g).trans e) J G F D C;obtain⟨o,e,c,d⟩:=id j;exact⟨u,rfl,mB (s:={ s with heap:=n }) e c d dC ⟨x,H,Z,S,⟨rfl,fun ys T=>by rw[I.list_inj T l];exact r⟩,j,fun b g=>(m b g).1⟩⟩
 done:=by
  intro X A t B M i N s L H E I m f y;subst A t B;obtain⟨O,l,r⟩:=y;obtain⟨Y,q,p,hz⟩:=I.list l;obtain⟨J,G,V,F,D,C⟩:=m it (by simp);have hl:=q.length;exact T6 (I.ok.hd M) f p.isList (by simp;lia) fun n W=>⟨rfl,I.turned (t':=s.toks) (fun b o g e=>W b o g e) J G F D C⟩
 self:=fun _ _ _ _ _ f h=>wpAny_pyIter_listiter f h
theorem vQ{P:Ò}{w:Ú}{K:Þ}{R:Î}(a it:Ç):jW P w K R (Dd K a) [it] it (fun i h=>h.IsTupleIter it a i) where
 mem:=by simp
 obj:=fun i h f b g=>by
  have e:b=it:=by simpa using g
  subst e;obtain⟨o,e,c,d⟩:=f;exact⟨o,e,fun v z=>by rw[d]at z;cases z⟩
 keep:=fun i h n f k=>f.at fun o e=>k it (by simp) o e
 item:=by
  intro X A t B N i O s M H E I m f y;subst A t B;obtain ⟨Q,x,l,r⟩:=y;obtain ⟨L,q,p,hz⟩:=I.tuple l;obtain ⟨u,V,T⟩:=q.get r;obtain ⟨J,G,W,F,D,C⟩:=m it (by simp);refine wpAny_pyNext_tuple_item f (show s.heap.IsTuple a L.toArray from p) (x:=u) (by simpa using V) fun n j S=>?_
  have Z:Inv X O M H { s with heap:=n }:=I.turned (t':=s.toks) (fun b o g e=>(S.2 b g).trans e) J G F D C;obtain⟨o,e,c,d⟩:=id j;exact⟨u,rfl,mB (s:={ s with heap:=n }) e c d dC ⟨x,H,Z,T,⟨rfl,fun ys U=>by rw[I.tuple_inj U l];exact r⟩,j,fun b g=>(m b g).1⟩⟩
 done:=by
  intro X A t B N i O s M H E I m f y;subst A t B;obtain ⟨Q,l,r⟩:=y;obtain ⟨L,q,p,hz⟩:=I.tuple l;obtain ⟨J,G,W,F,D,C⟩:=m it (by simp);have hl:=q.length;exact wpAny_pyNext_tuple_end (I.ok.hd N) f (show s.heap.IsTuple a L.toArray from p) (by simp;lia) fun n Y=>⟨rfl,I.turned (t':=s.toks) (fun b o g e=>Y b o g e) J G F D C⟩
 self:=fun _ _ _ _ _ f h=>wpAny_pyIter_tupleiter f h
theorem vR{P:Ò}{w:Ú}{K:Þ}{J:Î}(it:Ç)(f:Int)(n:Nat):jW P w K J (As f n) [it] it (fun i h=>o? h it (f+(i:Nat)*1) ((n:Int)-(i:Nat)) 1) where
 mem:=by simp
 obj:=fun i h a b c=>by
  have e:b=it:=by simpa using c
  subst e;exact⟨_,a,fun v z=>by
   have G:Data.fields _=Data.cell v:=z;cases G⟩
 keep:=fun i h j a k=>k it (by simp) _ a
 item:=by
  intro X q l r p i F s C H E I g a m;subst q l r;obtain⟨B,A,N,y,x,u⟩:=g it (by simp);have W:=Walks.range (prog:=X.prog) (w:=X.w) (I.ok.hd p) it f 1 n;refine W.item i s _ _ m a fun v j D M d L=>?_
  obtain⟨t,rfl⟩:=M;have Q:Inv X F C H { s with heap:=j,toks:=D }:=I.turned (fun b o c e=>L b o (by simpa using c) e) B A y x u;refine⟨_,rfl,mB (s:={ s with heap:=j,toks:=D }) (n:="range_iterator") d rfl rfl dC ⟨.int (f+i),H,Q,⟨t,?_⟩,⟨rfl,rfl⟩,d,fun b c=>(g b c).1⟩⟩;rw[P?]
 done:=by
  intro X q l r p i F s C H E I g a m;subst q l r;obtain⟨B,A,N,y,x,u⟩:=g it (by simp);exact R9 (I.ok.hd p) a (by have:n<=i:=m;lia) fun j O=>⟨rfl,I.turned (t':=s.toks) (fun b o c e=>O b o c e) B A y x u⟩
 self:=fun _ _ _ _ _ a h=>S? a h
section
variable{X:Cx}{tg:Î}
theorem sC{a c:Int}{d:Nat}(I:Inv X O0 σ H s)(k:-(2^62)<=a)(j:a<2^62)(i:-(2^62)<=c)(h:c<2^62)
  (q:R (As a (c-a).toNat) H):Ï (model X.prog X.w) X.A (pyIter (.ref s.heap.objs.size)) (IG X O0 σ tg R) E { s with heap:=s.heap.push { cls:=.type "range",data:=.fields #[.int a t,.int c u,.int 1 v] },toks:=d }:=by
 refine W3 (IsRange.new ..) (Y3 k j i h) ?_;have f:Inv X O0 σ H { s with heap:=s.heap.push { cls:=.type "range",data:=.fields #[.int a t,.int c u,.int 1 v] },toks:=d }:=I.kept fun b o e=>zG _ e
 refine⟨(s.heap.push { cls:=.type "range",data:=.fields #[.int a t,.int c u,.int 1 v] }).objs.size,[(s.heap.push { cls:=.type "range",data:=.fields #[.int a t,.int c u,.int 1 v] }).objs.size],_,_,H,rfl,
  f.kept (t':=d) fun b o e=>zG _ e,vR _ a (c-a).toNat,?_,fun b g=>?_,q⟩
 ·have m:a+((0:Nat):Int)*1=a:=by simp
  have l:(((c-a).toNat:Nat):Int)-((0:Nat):Int)=ĩ a c 1:=by rw[L'];split<;>lia
  show o? _ _ (a+((0:Nat):Int)*1) ((((c-a).toNat:Nat):Int)-((0:Nat):Int)) 1;rw[m,l];exact zY _ rfl
 ·have e:b=(s.heap.push { cls:=.type "range",data:=.fields #[.int a t,.int c u,.int 1 v] }).objs.size:=by simpa using g
  subst e;exact f.fpOk (zP _) (f.O8.fresh (zP _))
def J6(ta:TA):TI:=fun σ H R=>ta σ H fun vs H1=>∃j:Int,vs=[.int j]/\-(2^62)<=j/\j<2^62/\R (As 0 j.toNat) H1
def J5(ta:TA):TI:=fun σ H R=>ta σ H fun vs H1=>∃i j:Int,vs=[.int i,.int j]/\(-(2^62)<=i/\i<2^62/\-(2^62)<=j/\j<2^62)/\R (As i (j-i).toNat) H1
theorem ya(l:Gl X "range")(k:X.mg "range"=Á)(m:PA X [a] ta)(i:Ê [a] X.env=[(Ã,eval a X.env)]:=by rfl):PI X tg (.Call (.Name "range" p) [a] [] pos) (J6 ta):=by
 intro n s d H R I h;refine I? (dB I l k ϯ (Ó (ar (m pos n s d H _ I h) fun v w c=>?_) i rfl));obtain⟨u,x,o,r1,b⟩:=c;obtain⟨j,e,b,g,q⟩:=b;subst e;cases r1 with
 |cons r f =>
  cases f;obtain⟨t,rfl⟩:=r;exact call_range_1 (sC o oM oM b g (by simpa using q))
theorem xZ(v:Gl X "range")(u:X.mg "range"=Á)(w:PA X [a,b] ta)(o:Ê [a,b] X.env=[(Ã,eval a X.env),(Ã,eval b X.env)]:=by rfl)(c:Ê [b] X.env=[(Ã,eval b X.env)]:=by rfl) :
  PI X tg (.Call (.Name "range" p) [a,b] [] pos) (J5 ta):=by
 intro x s g H R I h;refine I? (dB I v u ϯ (Ó (ar (w pos x s g H _ I h) fun A C ⟨z,D,y,r1,f⟩=>?_) (by rw[o,c]) (by rw[c];rfl)));obtain⟨i,j,e,⟨f,n,m,l⟩,q⟩:=f;subst e;cases r1 with
 |cons r d =>
  cases d with
  |cons k d =>
   cases d;obtain⟨t,rfl⟩:=r;obtain⟨B,rfl⟩:=k;exact call_range_2 (sC y f n m l q)
def L5(wi:TI)(g:TG)(tb:TS):TS:=fun D σ H=>wi σ H fun J H1=>∃W:Nat->Nat->St->Hp->Prop,(∃m,W 0 m σ H1)/\∀i m σ H,W i m σ H ->
 (J.stop i H/\D.nx σ H)\/(J.go i H/\∃N:St->Hp->Prop,(∀σ' H',N σ' H'->∃m',m'<m/\W (i+1) m' σ' H')/\∀x H',J.yld i H x H'->g x σ H' fun σ2 H2=>tb { D with nx:=N,ct:=N,bk:=D.nx } σ2 H2)
noncomputable def gz(fp:List Ç)(h:è):List (Ç×Obj):=fp.filterMap fun b=>(h.get? b).map fun o=>(b,o)
theorem dA(a:b∈fp)(e:h.get? b=À o):(b,o)∈gz fp h:=Q5.mpr ⟨b,a,by rw[e];rfl⟩
theorem yf(a:p∈gz fp h):p.1∈fp/\h.get? p.1=À p.2:=by
 obtain⟨b,c,e⟩:=Q5.mp a;cases q:h.get? b with
 |none=>rw[q]at e;cases e
 |some o =>
  rw[q]at e;have d:(b,o)=p:=yD e;subst d;exact⟨c,q⟩
theorem Inv.pinned(I:Inv X O0 σ H s)(h:∀b∈fp,dU X O0 H b)(g:∀b∈fp,∃o,s.heap.get? b=À o/\∀v,o.data≠.cell v):Inv X (O0++gz fp s.heap) σ H s :=
 I.pins_of fun p f=>(zZ.mp f).elim (fun z=>I.pin p (zK _ z)) fun z=>by
  obtain⟨a,e⟩:=yf z;obtain⟨k,j,i,_⟩:=h p.1 a;obtain⟨o,c,d⟩:=g p.1 a;rw[e]at c;cases c;exact⟨e,k,j,i,d⟩
theorem Inv.unpinned(I:Inv X (O0++pl) σ H s):Inv X O0 σ H s:=I.pins_of fun p a=>I.pin p (zK _ (zL _ a))
theorem xU(G:Ϝ (model X.prog X.w) X.A X.env X.xe)(hc:X.calm=Â)(hi:PI X tg iter wi)(hg:PG X tg g)(p:PSs X body tb)
  (hs:∀x,ô iter X.env x=pure x:=by intro _;rfl):PS X (.For tg iter body [] pos) (L5 wi g tb):=by
 intro B s V H D I h;refine wpAny_For (ar (hi B s V H _ I h) fun v s1 h1=>ar h1 fun itv s2 h2=>?_) hs;obtain⟨it,L,Y,J,H2,e,I2,T,P,f2,W,⟨m0,w0⟩,turn⟩:=h2;subst e
 have l:∀{y:Hp},(∀b∈L,y b=Á)->∀b∈L,dU X B y b:=fun hn b p=>⟨hn b p,(f2 b p).2⟩
 refine codeAny_forLoop_any (fun n s'=>∃i k y,Inv X B k y s'/\Y i s'.heap/\(∀b∈L,y b=Á)/\W i n k y) ?_ m0 ⟨0,V,H2,I2,P,fun b p=>(f2 b p).1,w0⟩;rintro n s3 ⟨i,j,M,I3,E,K,w3⟩;rcases turn i n j M w3 with⟨C,qn⟩|⟨go,N,hN,step⟩
 ·refine ĥ G (ar (T.done X rfl rfl rfl hc i B s3 j M X.xe I3 (l K) E C) fun r s4 c=>?_)
  obtain⟨R,I4⟩:=c;subst R;exact q! ⟨j,M,I4,qn⟩
 ·refine ĥ G (ar (T.item X rfl rfl rfl hc i B s3 j M X.xe I3 (l K) E go) fun r s4 c=>?_)
  obtain⟨u,R,h4⟩:=c;subst R;refine ĥ G (ar h4 fun _ Z c=>?_);obtain⟨x,H5,I5,r5,y5,A,S⟩:=c;have U:=I5.pinned (l S) (T.obj _ _ A);refine ĥ G (ar (hg _ Z j H5 x u _ U r5 (step x H5 y5)) fun _ s6 c=>?_);obtain⟨O,H6,I6,q6⟩:=c;refine ĥ G (ar (p _ s6 O H6 _ I6 q6) fun f Q z=>?_);have q:∀{a:St}{w:Hp},Inv X (B++gz L Z.heap) a w Q->N a w->∃m,m<n/\∃i k y,Inv X B k y Q/\Y i Q.heap/\(∀b∈L,y b=Á)/\W i m k y:=fun {a w} t F=>by
   obtain⟨m',hm,w7⟩:=hN a w F;refine⟨m',hm,i+1,a,w,t.unpinned,T.keep _ _ _ A fun b p o e=>(t.pin (b,o) (zK _ (zK _ (dA p e)))).1,fun b p=>?_,w7⟩;obtain⟨o,e,d⟩:=T.obj _ _ A b p;exact(t.pin (b,o) (zK _ (zK _ (dA p e)))).2.1
  cases f with
  |next=>obtain⟨a,w,t,F⟩:=z;exact q t F
  |cont=>obtain⟨a,w,t,F⟩:=z;exact q t F
  |brk=>obtain⟨a,w,t,z⟩:=z;exact⟨a,w,t.unpinned,z⟩
  |ret v=>obtain⟨x7,a,w,t,r7,z⟩:=z;exact⟨x7,a,w,t.unpinned,r7,z⟩
end
abbrev R2:=V->V->Hp->VK->Prop
def lY(X:Cx)(f:Å->Å->Y7 Å)(r:R2):Prop :=
 ∀(O0:List (Ç×Obj))(s:É)(σ:St)(H:Hp)(x y:V)(v u:Å)(Q:VK),Inv X O0 σ H s->RelV x v->RelV y u->r x y H Q ->
  Ï (model X.prog X.w) X.A (f v u) (EP X O0 σ Q) X.xe s
def Am(X:Cx)(f:Å->Y7 Å)(r:V->Hp->VK->Prop):Prop :=
 ∀(O0:List (Ç×Obj))(s:É)(σ:St)(H:Hp)(x:V)(v:Å)(Q:VK),Inv X O0 σ H s->RelV x v->r x H Q ->
  Ï (model X.prog X.w) X.A (f v) (EP X O0 σ Q) X.xe s
def c4(X:Cx)(f:Å)(r:List V->Hp->VK->Prop):Prop :=
 ∀(O0:List (Ç×Obj))(s:É)(σ:St)(H:Hp)(xs:List V)(us:List Å)(Q:VK),Inv X O0 σ H s->Vals xs us->r xs H Q ->
  Ï (model X.prog X.w) X.A (call f us) (EP X O0 σ Q) X.xe s
def MP(X:Cx)(r:V->Hp->(Bool->Hp->Prop)->Prop):Prop :=
 ∀(O0:List (Ç×Obj))(s:É)(σ:St)(H:Hp)(x:V)(v:Å)(Q:Bool->Hp->Prop),Inv X O0 σ H s->RelV x v->r x H Q ->
  Ï (model X.prog X.w) X.A (truthy v) (TP X O0 σ Q) X.xe s
noncomputable def xG(r:R2)(ta tb:TE):TE:=fun σ H Q=>ta σ H fun x H1=>tb σ H1 fun y H2=>r x y H2 Q
def KU(r:V->Hp->VK->Prop)(ta:TE):TE:=fun σ H Q=>ta σ H fun x H1=>r x H1 Q
def rU(g:Int->V):V->Hp->VK->Prop:=fun x H Q=>∃i,x=.int i/\Q (g i) H
section
variable{X:Cx}{a b c:Î}{ta tb tc:TE}{pos:ė}
theorem B4(k:PE X a ta)(j:PE X b tb){O0:List (Ç×Obj)}{s:É}{σ:St}{H:Hp}{R:V->V->Hp->Prop}(I:Inv X O0 σ H s)
  (h:ta σ H fun x H1=>tb σ H1 fun y H2=>R x y H2) {Q:Å->É->Prop}{f:Å->Å->Y7 Å}
  (i:∀v u s2 x y H2,Inv X O0 σ H2 s2->RelV x v->RelV y u->R x y H2->Ï (model X.prog X.w) X.A (f v u) Q X.xe s2) :
  Ï (model X.prog X.w) X.A (eval a X.env) (fun v s₁=>Ï (model X.prog X.w) X.A (eval b X.env) (fun u s₂=>Ï (model X.prog X.w) X.A (f v u) Q X.xe s₂) X.xe s₁) X.xe s:=by
 refine ar (k O0 s σ H _ I h) fun v d c=>?_
 obtain⟨x,H1,m,r1,g⟩:=c;refine ar (j O0 d σ H1 _ m g) fun u s2 c=>?_
 obtain⟨y,H2,l,r2,e⟩:=c;exact i v u s2 x y H2 l r1 r2 e
theorem wq{c:Ā}{r:R2}(g:lY X (Ź c) r)(j:PE X a ta)(i:PE X b tb):PE X (.BinOp a c b pos) (xG r ta tb):=by
 intro k s d H Q I h;exact wpAny_BinOp (B4 j i I h fun v u e x y m l rx f q=>g k e d m x y v u Q l rx f q)
theorem JD(f:Am X (X6 op) r)(g:PE X a ta):PE X (.UnaryOp op a pos) (KU r ta):=by
 intro c s b H Q I h;exact UnaryOp_ (ar (g c s b H _ I h) fun v d ⟨x,j,i,r1,e⟩=>f c d b j x v Q i r1 e)
def MR(i j:Int):Prop:=0<=j/\j<=1000000/\i.natAbs<2^64
theorem vP(k:Nat):(0:Int)<=2^k:=by
 rw[two_pow_cast];exact Int.natCast_nonneg _
theorem KR{f:Å->Y7 Å}{g:Int->Int}
  (a:∀(i:Int)(t:Tok)(s:É)(Q:Å->É->Prop)(E:Å->É->Prop),Q (.int (g i) s.toks) { s with toks:=s.toks+1 }->Ï (model X.prog X.w) X.A (f (.int i t)) Q E s) :
  Am X f (rU fun i=>.int (g i)):=by
 intro c s b H x v Q I rx h;obtain⟨i,rfl,q⟩:=h;obtain⟨t,rfl⟩:=rx;exact a i t s _ _ ⟨.int (g i),H,I.tok _,⟨_,rfl⟩,q⟩
theorem E8:Am X (X6 .USub) (rU fun i=>.int (-i)):=KR fun _ _ _ _ _ q=>neg_int q
theorem E9:Am X (X6 .Invert) (rU fun i=>.int (T5 i)):=KR fun _ _ _ _ _ q=>invert_int q
end
section
variable{X:Cx}{a b c:Î}{ta tb tc:TE}{pos:ė}
theorem Er(f:lY X (Ď op) r)(j:PE X a ta)(i:PE X b tb)(g:Ϫ op b=Ã):PE X (.Compare a [op] [b] pos) (xG r ta tb):=by
 intro k s c H Q I h;exact wpAny_Compare1 (B4 j i I h fun v u d x y m l rx e q=>f k d c m x y v u Q l rx e q) g
noncomputable def IU(t:TE):TT:=fun σ H Q=>t σ H fun x H'=>∃k,x=.bl k/\Q k H'
theorem DY(o:lY X (Ď op) r)(t:PE X a ta)(q:PE X b tb)(p:Ϫ op b=Ã):PT X (.Compare a [op] [b] pos) (IU (xG r ta tb)):=by
 intro f s d H Q I h;refine wpAny_isTrue_Compare1 (ar (t f s d H _ I h) fun v i ⟨x,E,B,r1,n⟩=>ar (q f i d E _ B n) fun u g ⟨y,D,A,r2,m⟩ =>
  ar (o f g d D x y v u _ A r1 r2 m) fun c F ⟨z,C,w,j,k,e,l⟩=>?_) p
 subst e;cases j;exact Ī ⟨C,w,l⟩
def B7(K:Þ)(x:V)(H:Hp)(k:Bool):Prop :=
 match x with
 |.non=>k=Ã
 |.bl b=>k=b
 |.int i=>k=(i !=0)
 |.str y=>y.length<=Ì/\k=((y.length:Int) !=0)
 |.byt y=>y.size<=Ì/\k=((y.size:Int) !=0)
 |.ref p=>(∃xs,bR K H p xs/\k=!xs.isEmpty)\/(∃xs,iz K H p xs/\k=!xs.isEmpty)\/∃O1,H p=À (.dK O1)/\k=!O1.isEmpty
 |_=>False
theorem wS{a:Type}{O1:List (a×V)}{vs:List (a×Value)}(r:KV O1 vs):(!vs.isEmpty)=!O1.isEmpty:=by
 cases r<;>rfl
theorem oR{xs:List V}{O4:List Å}(r:Vals xs O4):(!O4.toArray.isEmpty)=!xs.isEmpty:=by
 cases r<;>simp
theorem il:(Ì:Nat)<2^63:=by rw[ϓ];decide
theorem Fc:MP X (fun x H Q=>∃k,B7 X.K x H k/\Q k H):=by
 intro B s w H x v Q I rx h;obtain⟨k,e,q⟩:=h;have A:=il;have z:Ì=16777216:=ϓ;cases x with
 |non =>
  cases rx;have a:k=Ã:=e;subst a;exact truthy_none ⟨H,I,q⟩
 |bl b =>
  cases rx;have a:k=b:=e;subst a;exact Ī ⟨H,I,q⟩
 |int i =>
  obtain⟨t,rfl⟩:=rx;have a:k=(i !=0):=e;subst a;exact PySem.P.truthy_int ⟨H,I,q⟩
 |str y =>
  obtain⟨t,rfl⟩:=rx;obtain⟨n,a⟩:y.length<=Ì/\k=((y.length:Int) !=0):=e;subst a;exact PySem.P.truthy_str oM ⟨H,I.tok _,q⟩
 |byt y =>
  obtain⟨t,rfl⟩:=rx;obtain⟨n,a⟩:y.size<=Ì/\k=((y.size:Int) !=0):=e;subst a;exact truthy_bytes oM ⟨H,I.tok _,q⟩
 |ref p =>
  cases rx;have a:(∃d,bR X.K H p d/\k=!d.isEmpty)\/(∃d,iz X.K H p d/\k=!d.isEmpty)\/∃f,H p=À (.dK f)/\k=!f.isEmpty:=e;rcases a with⟨d,g,a⟩|⟨d,g,a⟩|⟨f,g,a⟩
  ·subst a
   obtain⟨u,r,l,hz⟩:=I.list g;have c:=r.length;exact wpAny_truthy_list l.isList (by simp only[zI];lia) ⟨H,I.tok _,by rw[oR r];exact q⟩
  ·subst a
   obtain⟨u,r,l,hz⟩:=I.tuple g;have c:=r.length;exact truthy_tuple l (by simp only[zI];lia) ⟨H,I.tok _,by rw[oR r];exact q⟩
  ·subst a
   obtain⟨hz,o,j,r,m⟩:f.length<=Ì/\(p==Ĕ)=Ã/\∃j,KV f j/\s.heap.DictOf (cz X.prog X.w) p j:=I.O8 p _ g;have c:f.length=j.length:=Paired.length r;exact wpAny_truthy_dict o m oM ⟨H,I.tok _,by rw[wS r];exact q⟩
 | _=>exact (show False from e).elim
theorem A7(e:PE X a ta)(he:∀whole,B! a X.env whole=(do let v <- whole;ŗ a.pos;holding [v] (truthy v))) :
  PT X a (fun σ H Q=>ta σ H fun x H'=>∃k,B7 X.K x H' k/\Q k H'):=by
 intro b s σ H Q I h;exact isTrue_plain (ar (e b s σ H _ I h) fun v c ⟨x,g,f,r1,d⟩=>Fc b c σ g x v Q f r1 d) (he _)
theorem wu:lY X (Ź .Add) (fun x y H Q=>∃i j,x=.str i/\y=.str j/\i.length+j.length<=Ì/\Q (.str (i++j)) H):=by
 intro e s c H x y v u Q I rx b h;obtain⟨i,j,rfl,rfl,hz,q⟩:=h;obtain⟨t,rfl⟩:=rx;obtain⟨a,rfl⟩:=b;exact add_str (fun a d=>⟨.str (i++j),H,I.tok _,⟨_,rfl⟩,q⟩) hz
theorem eY(r:Vals [x] us):∃u,us=[u]/\RelV x u:=by
 cases r with
 |cons r1 r2=>cases r2;exact⟨_,rfl,r1⟩
theorem Ce(r:Vals [x,y] us):∃u w',us=[u,w']/\RelV x u/\RelV y w':=by
 cases r with
 |cons r1 r2 =>
  cases r2 with
  |cons b a=>cases a;exact⟨_,_,rfl,r1,b⟩
theorem B3:c4 X (.builtin "abs") (fun xs H Q=>∃i,xs=[.int i]/\Q (.int (if i<0 then -i else i)) H):=by
 intro d s a H xs b Q I r h;obtain⟨i,rfl,q⟩:=h;obtain⟨u,rfl,t,rfl⟩:=eY r;exact call_abs_int fun u c=>⟨.int (if i<0 then -i else i),H,I.tok _,⟨_,rfl⟩,q⟩
theorem Ag(b:X.calm=Â):c4 X (.builtin "max") (fun xs H Q=>∃i j,xs=[.int i,.int j]/\Q (.int (if j > i then j else i)) H):=by
 intro m s c H xs e Q I r h;obtain⟨i,j,rfl,q⟩:=h;obtain⟨u,d,rfl,⟨t,rfl⟩,⟨g,rfl⟩⟩:=Ce r;refine max_two_ints (I.ok.hd b) fun l f k=>⟨_,H,I.kept k,?_,q⟩
 by_cases a:j > i
 ·rw[yH a,yH a];exact⟨_,rfl⟩
 ·rw[yG a,yG a];exact⟨_,rfl⟩
theorem Af(b:X.calm=Â):c4 X (.builtin "min") (fun xs H Q=>∃i j,xs=[.int i,.int j]/\Q (.int (if j<i then j else i)) H):=by
 intro m s c H xs e Q I r h;obtain⟨i,j,rfl,q⟩:=h;obtain⟨u,d,rfl,⟨t,rfl⟩,⟨g,rfl⟩⟩:=Ce r;refine min_two_ints (I.ok.hd b) fun l f k=>⟨_,H,I.kept k,?_,q⟩
 by_cases a:j<i
 ·rw[yH a,yH a];exact⟨_,rfl⟩
 ·rw[yG a,yG a];exact⟨_,rfl⟩
theorem Ai:c4 X (.type "int") (fun xs H Q=>(∃i,xs=[.int i]/\Q (.int i) H)\/∃k,xs=[.bl k]/\Q (.int (if k then 1 else 0)) H):=by
 intro c s a H xs b Q I r h;rcases h with⟨i,rfl,q⟩|⟨k,rfl,q⟩
 ·obtain⟨u,rfl,t,rfl⟩:=eY r
  exact call_int_int ⟨.int i,H,I,⟨_,rfl⟩,q⟩
 ·obtain⟨u,rfl,r1⟩:=eY r
  cases r1;exact call_int_bool ⟨.int (if k then 1 else 0),H,I.tok _,⟨_,rfl⟩,q⟩
end
structure ObjM(h:è)(x dx C:Ç)(mA:Í->Option Å):Prop where
 obj:h.get? x=À (ϛ C dx)
 ns:h.Ns1 dx mA
 ne:dx≠x
theorem yu{h:è}{f:Ç}{c:Í->Option Å}(n:h.Ns1 f c):∃od,h.get? f=À od/\∀name,lookIn name od=À (c name):=by
 obtain⟨o,d,m,i,hd,k,_,j⟩:=n;refine⟨o,i,fun name=>?_⟩;have e:=j name;unfold nsFind findBy at e;rw[<- Array.find?_toList]at e;unfold lookIn;rw[hd];dsimp only;split
 ·rename_i y q
  rw[q]at e;exact congrArg À e
 ·rename_i q
  rw[q]at e;have a:d.toList.any (·.refKey)=Ã:=by
   rw[List.any_eq_false];intro y g;obtain⟨z,t,b⟩:=k y (Array.mem_toList_iff.mp g);simp[DictEntry.refKey,b]
  have l:¬d.toList.any (·.refKey)=Â:=by rw[a];exact Ĝ
  rw[yG l];exact congrArg À e
theorem ObjM.look(I:ObjM h x dx C mA):∃od,InstAt h x (ϛ C dx) C (À od)/\∀name,lookIn name od=À (mA name) :=
 let⟨od,a,b⟩:=yu I.ns
 ⟨od,⟨I.obj,rfl,rfl,a⟩,b⟩
section
variable{prog:Ò}{w:Ú}{A:ć}{E:Å->É->Prop}{s:É}{K:Þ}{x dx C f:Ç}{mA:Í->Option Å}{name:Í}{v:Å}
theorem EO{a:Bool}(X:K.In s.heap)(I:ObjM s.heap x dx C mA)(f:A! K C name=Â)(e:Q? K C=Â)
  (g:Ŕ K (.ref C) name=À Á) (c:mA name=À v) (b:handedIn v=Â) (h:Q v { s with toks:=s.toks+1 }) :
  Ï (model prog w) A (getAttr (.ref x) name a) Q E s:=by
 obtain⟨i,J,d⟩:=I.look;exact get_value X J (U3 f).1 (findObj_own e g rfl (by rw[d,c])) b h
theorem BM(X:K.In s.heap)(I:ObjM s.heap x dx C mA)(a:A! K C name=Â)
  (g:Ŕ K (.ref C) name=À (À (.ref f))) (d:isFn K (.ref f)=Â) (c:mA name=Á) (h:Q (.ref f,[.ref x]) s) :
  Ï (model prog w) A (Ŧ (.ref x) name pl) Q E s:=by
 obtain⟨b,J,e⟩:=I.look;exact method_fn X J (U3 a).1 (U3 a).2 g (beq_iff_eq.mp d) (by show(lookIn name b).map (·.isSome)=À Ã;rw[e,c];rfl) h
theorem DA(X:K.In s.heap)(I:ObjM s.heap x dx C mA)
  (m:Ŕ K (.ref C) "__setattr__"=À (À (.builtin "object.__setattr__"))) (n:Y5 K C=Â) (l:takerIn K C name=À Á) (o:Q? K C=Â)
  (k:r? mA ns) (hsz:ns.length<=Ì)
  (h:∀h',ObjM h' x dx C (fun y=>if y=name then À v else mA y)->Į dx s.heap h'->Q () { s with heap:=h',toks:=s.toks+2 }) :
  Ï (model prog w) A (setAttr (.ref x) name v) Q E s:=by
 obtain⟨u,J,B⟩:=I.look;refine set_plain X J m (osa_open (s:={ s with toks:=s.toks+1 }) (r:=Á) X J n l fun b=>?_);obtain⟨D,p,g⟩:=any_some o;have j:s.heap.get? x=À ⟨.ref C,À dx,.plain,#[]⟩:=I.obj;refine yE (yF (yE (yE (wpAny_loadPart j (yE (Y8 (s:={ s with toks:=s.toks+1 }) (looks_clsIn X p) ?_))))));rw[g];refine yF (a:=À dx) (yE (yF (yE ?_)));refine wpAny_nsSet1 (s:={ s with toks:=s.toks+1 }) I.ns fun h' d c=>?_
 obtain⟨z,q,t,e,f,i⟩:=d.count (Z7 name v k);refine yE (wpAny_lookBehind e (by rw[f];exact pastItsLine_dict (z5 i (by rw[yX];lia))) ?_);exact yF (h _ ⟨(c.2 _ (æ I.ne)).trans I.obj,d,I.ne⟩ c)
theorem Bz(X:K.In s.heap)(a:X8 K C=Â)
  (b:Ŕ K (.ref C) "__init__"=À (À (.ref f))) (c:typeIn K (.ref f)=À (.type "function"))
  (h:Ō (model prog w) (A.under (.builtin "type.__call__" ⟨.ref C::vs,kw⟩)) (.call (.ref f) ⟨.ref (s.heap.objs.size+1)::vs,kw⟩) (InitBack (s.heap.objs.size+1) R)
   { s with heap:=(s.heap.push ŕ).push (ϛ C s.heap.objs.size) }) :
  Ō (model prog w) A (.call (.ref C) ⟨vs,kw⟩) R s:=by
 obtain⟨i,g,d,t,e⟩:=s;exact make_core (makes_of X a) (looks_findIn X b) (fun self=>bind_fn X self c) (.inl rfl) h
end
noncomputable def d4(f:Í)(v:V):List (Í×V)->List (Í×V)
 |[]=>[(f,v)]
 |(g,x)::r=>if g=f then(g,v)::r else(g,x)::d4 f v r
theorem mQ(f g:Í)(v:V):∀fs:List (Í×V),(d4 f v fs).lookup g=if g=f then À v else fs.lookup g
 |[]=>by
  show Ő g [(f,v)]=_;by_cases h:g=f
  ·have hb:(g==f)=Â:=beq_iff_eq.mpr h
   simp only[Ő,hb,yH h]
  ·have hb:(g==f)=Ã:=beq_eq_false_iff_ne.mpr h
   simp only[Ő,hb,yG h]
 |(k,x)::r=>by
  have b:=mQ f g v r;rw[show d4 f v ((k,x)::r)=(if k=f then(k,v)::r else(k,x)::d4 f v r) from rfl];by_cases a:k=f
  ·rw[yH a]
   by_cases h:g=k
   ·have hb:(g==k)=Â:=beq_iff_eq.mpr h
    simp only[Ő,hb,yH (h.trans a)]
   ·have hb:(g==k)=Ã:=beq_eq_false_iff_ne.mpr h
    simp only[Ő,hb,yG (fun e:g=f=>h (e.trans a.symm))]
  ·rw[yG a]
   by_cases h:g=k
   ·have hb:(g==k)=Â:=beq_iff_eq.mpr h
    simp only[Ő,hb,yG (fun e:g=f=>a (h.symm.trans e))]
   ·have hb:(g==k)=Ã:=beq_eq_false_iff_ne.mpr h
    simp only[Ő,hb];exact b
theorem lJ(f:Í)(v:V):∀fs:List (Í×V),f∈(d4 f v fs).map (·.1)/\∀g,g∈fs.map (·.1)->g∈(d4 f v fs).map (·.1)
 |[]=>⟨by simp[d4],fun g h=>by simp at h⟩
 |(k,x)::r=>by
  obtain⟨i1,i2⟩:=lJ f v r;rw[show d4 f v ((k,x)::r)=(if k=f then(k,v)::r else(k,x)::d4 f v r) from rfl];by_cases a:k=f
  ·rw[yH a]
   subst a;exact⟨by simp,fun g h=>by simpa using h⟩
  ·rw[yG a]
   refine⟨?_,fun g h=>?_⟩
   ·rw[zO]
    exact zQ _ i1
   ·rw[zO]at h ⊢
    rcases zT.mp h with e|e
    ·exact zT.mpr (.inl e)
    ·exact zQ _ (i2 g e)
theorem mS(f:Í)(v:V):∀fs:List (Í×V),(d4 f v fs).length<=fs.length+1
 |[]=>by simp[d4]
 |(k,x)::r=>by
  have ih:=mS f v r;rw[show d4 f v ((k,x)::r)=(if k=f then(k,v)::r else(k,x)::d4 f v r) from rfl];by_cases a:k=f
  ·rw[yH a,yX,yX];lia
  ·rw[yG a,yX,yX];lia
theorem RelO.some_of(r:RelO (À v) o):∃u,o=À u/\RelV v u:=by
 cases o with
 | none=>exact (show False from r).elim
 |some u=>exact⟨u,rfl,r⟩
theorem RelO.none_of(r:RelO Á o):o=Á:=by
 cases o with
 |none=>rfl
 | some u=>exact (show False from r).elim
theorem zm(r:RelV v u):handedIn u=Â:=by
 cases v with
 | non=>cases (show u=Ů from r);rfl
 | bl b=>cases (show u=O! b from r);rfl
 | int i=>obtain ⟨t,e⟩:=(show ∃ t,u=k! i t from r);cases e;rfl
 | str x=>obtain ⟨t,e⟩:=(show ∃ t,u=j? x t from r);cases e;rfl
 | byt b=>obtain ⟨t,e⟩:=(show ∃ t,u=Y! b t from r);cases e;rfl
 | flt b=>obtain ⟨t,e⟩:=(show ∃ t,u=X9 b t from r);cases e;rfl
 | ref a=>cases (show u=î a from r);rfl
 | ty n=>cases (show u=N? n from r);rfl
section
variable{P:Ò}{w:Ú}{H H':Hp}{h h':è}{a C dx:Ç}{fs fs':List (Í×V)}
theorem iX(c:HOk P w H h)(e:H a=À (.ins C dx fs)):∃mA,ObjM h a dx C mA/\(∀f,RelO (fs.lookup f) (mA f))/\r? mA (fs.map (·.1))/\fs.length<=1000/\H dx=À (.own a):=by
 obtain ⟨d,z,ne,b,mA,n,r,q⟩:=(show ObjOk P w H h a (.ins C dx fs) from c a _ e);exact ⟨mA,⟨b,n,ne⟩,r,q,z,d⟩
end
structure Cls(K:Þ)(C:Ç):Prop where
 pg:A! K C Str.empty=Â
 hd:Q? K C=Â
 po:Y5 K C=Â
 sa:Ŕ K (.ref C) "__setattr__"=À (À (.builtin "object.__setattr__"))
theorem Cls.get{K:Þ}{C:Ç}(c:Cls K C)(f:Í):A! K C f=Â:=c.pg
def NoAttr(K:Þ)(C:Ç)(f:Í):Prop:=Ŕ K (.ref C) f=À Á
theorem NoAttr.taker{K:Þ}{C:Ç}{f:Í}(n:NoAttr K C f):takerIn K C f=À Á:=by
 unfold takerIn;rw[show Ŕ K (.ref C) f=À Á from n];rfl
structure kS(K:Þ)(C:Ç)(m:Í)(f:Ç):Prop where
 at_:Ŕ K (.ref C) m=À (À (.ref f))
 fn:isFn K (.ref f)=Â
 kp:Ĺ K (.ref f)=Â
section
variable{X:Cx}{O0:List (Ç×Obj)}{σ:St}{H:Hp}{s:É}{a C dx:Ç}{fs:List (Í×V)}{f:Í}{v:V}{A:ć}{E:Å->É->Prop}
theorem wW{b:Bool}(I:Inv X O0 σ H s)(e:H a=À (.ins C dx fs))(c:Cls X.K C)(n:NoAttr X.K C f)(l:fs.lookup f=À v)
  (h:∀u s',Inv X O0 σ H s'->RelV v u->Q u s'):Ï (model X.prog X.w) A (getAttr (.ref a) f b) Q E s:=by
 obtain⟨g,O,r,_,_,_⟩:=iX I.O8 e;obtain⟨u,i,d⟩:=RelO.some_of (v:=v) (o:=g f) (by rw[<- l];exact r f);exact EO I.kIn O (c.get f) c.hd n i (zm d) (h u _ (I.tok _) d)
theorem kI(I:Inv X O0 σ H s)(e:H a=À (.ins C dx fs))(c:Cls X.K C)(k:kS X.K C m g)(l:fs.lookup m=Á)
  (h:Q (.ref g,[.ref a]) s):Ï (model X.prog X.w) A (Ŧ (.ref a) m pl) Q E s:=by
 obtain⟨b,O,r,_,_,_⟩:=iX I.O8 e;have d:b m=Á:=RelO.none_of (by rw[<- l];exact r m);exact BM I.kIn O (c.get m) k.at_ k.fn d h
theorem we(I:Inv X O0 σ H s)(e:H a=À (.ins C dx fs))(c:Cls X.K C)(n:NoAttr X.K C f)(B:fs.length<1000)(m:RelV y u)
  (h:∀s',Inv X O0 σ (ah H a (.ins C dx (d4 f y fs))) s'->Q () s'):Ï (model X.prog X.w) A (setAttr (.ref a) f u) Q E s:=by
 obtain⟨j,O,r,i,_,k⟩:=iX I.O8 e;have hz:(fs.map (·.1)).length<=Ì:=by rw[zH,ϓ];lia
 refine DA I.kIn O c.sa c.po n.taker c.hd i hz fun v d l=>h _ ?_
 have hd:∃o,v.get? dx=À o:=let⟨o,_,_,w,_⟩:=d.ns;⟨o,w⟩;refine I.write (x:=a) (e:=dx) (by rw[e];exact True.intro) (.inr k) (fun b q t z=>(l.2 b t).trans z) hd ?_;refine⟨by rw[ad O.ne];exact k,?_,O.ne,d.obj,_,d.ns,fun g=>?_,fun g p=>?_⟩
 ·have:=mS f y fs;lia
 ·show RelO ((d4 f y fs).lookup g) (if g=f then À u else j g)
  rw[mQ];by_cases q:g=f
  ·rw[yH q,yH q];exact m
  ·rw[yG q,yG q];exact r g
 ·by_cases q:g=f
  ·rw[q];exact(lJ f y fs).1
  ·refine(lJ f y fs).2 g (i g fun z=>p ?_)
   show(if g=f then À u else j g)=Á;rw[yG q];exact z
theorem Inv.made(I:Inv X O0 σ H s):Inv X O0 σ (ah (ah H s.heap.objs.size (.own (s.heap.objs.size+1))) (s.heap.objs.size+1) (.ins C s.heap.objs.size []))
  { s with heap:=(s.heap.push ŕ).push (ϛ C s.heap.objs.size) }:=by
 have c:(s.heap.push ŕ).get? s.heap.objs.size=À ŕ:=zY s.heap rfl;have h:((s.heap.push ŕ).push (ϛ C s.heap.objs.size)).get? (s.heap.objs.size+1)=À (ϛ C s.heap.objs.size):=by
  have:=zY (s.heap.push ŕ) (o:=ϛ C s.heap.objs.size) rfl
  rwa [Ĩ]at this
 have g:(s.heap.push ŕ).Ns s.heap.objs.size (fun _=>Á):=⟨ŕ,#[],_,c,rfl,(fun e f=>absurd f (by simp)),fun _=>rfl⟩;have i:=I.laid (a:=s.heap.objs.size) (o:=.own (s.heap.objs.size+1)) (h':=s.heap.push ŕ) (t':=s.toks) (fun b u q=>zG _ q) (zP _) ⟨_,c⟩;refine i.laid (a:=s.heap.objs.size+1) (o:=.ins C s.heap.objs.size []) (t':=s.toks) (fun b u q=>zG _ q) (Ϥ (Ĩ _ _)) ?_;have ne:s.heap.objs.size≠s.heap.objs.size+1:=zU (ĳ _);refine⟨by rw[ad ne,aD],Ě _,ne,h,fun _=>Á,(Heap.Ns1.of_empty g).at fun o q=>zG _ q,fun _=>True.intro,fun y d=>absurd rfl d⟩
theorem EY(a:Ė e f env (eval e env)=eval e env)
  (h:Ï (model prog w) A (eval e env) (fun o s₁=>Ï (model prog w) A (getAttr o f Â) Q E s₁) E s):Ï (model prog w) A (eval (.Attribute e f pos) env) Q E s :=
 Attribute_any_ h (by rw[arm_eval_Attribute,a])
end
def L6(K:Þ)(ta:TE)(f:Í):TE:=fun σ H Q=>ta σ H fun x H1=>∃a C dx fs v,x=.ref a/\H1 a=À (.ins C dx fs)/\Cls K C/\NoAttr K C f/\fs.lookup f=À v/\Q v H1
def Mc(K:Þ)(ta tv:TE)(f:Í):TS:=fun D σ H=>tv σ H fun y H1=>ta σ H1 fun x H2=>∃a C dx fs,x=.ref a/\H2 a=À (.ins C dx fs)/\Cls K C/\NoAttr K C f/\fs.length<1000 /\
 D.nx σ (ah H2 a (.ins C dx (d4 f y fs)))
section
variable{X:Cx}{o e value:Î}{f:Í}{pos pos' tpos:ė}{ta tv:TE}
theorem GW(he:PE X e ta)(i:Ė e f X.env (eval e X.env)=eval e X.env):PE X (.Attribute e f pos) (L6 X.K ta f):=by
 intro k s d H Q I h;refine EY i (ar (he k s d H _ I h) fun u w b=>?_);obtain⟨x,p,o,rx,a,C,y,fs,v,ex,j,c,n,l,q⟩:=b;subst ex;obtain rfl:u=î a:=rx;exact wW o j c n l fun r t m g=>⟨v,p,m,g,q⟩
theorem GG(r:PE X o ta)(m:PE X value tv)(p:Ľ value (À (.Attribute o f pos')) pos.line X.env=pure Ã):PS X (.Assign [.Attribute o f pos'] value pos) (Mc X.K ta tv f):=by
 intro e s b H D I h;refine plainObj_wpAny_Assign_Attribute (ar (m e s b H _ I h) fun u g ⟨y,A,z,i,q⟩=>ar (r e g b A _ z q) fun k E d=>?_) p;obtain⟨x,G,w,rx,a,C,F,fs,ex,t,c,n,l,j⟩:=d;subst ex;obtain rfl:k=î a:=rx;exact we w t c n l i fun B v=>⟨b,_,v,j⟩
theorem IM(he:PE X e te)(I:Inv X O0 σ H s)
  (h:te σ H fun x H1=>∃a C dx fs g,x=.ref a/\H1 a=À (.ins C dx fs)/\Cls X.K C/\kS X.K C m g/\fs.lookup m=Á /\
   ∀s1,Inv X O0 σ H1 s1->Ï (model X.prog X.w) X.A (Ū pos (.ref g) [.ref a] (õ pos (Ê args X.env)) (ō pos (đ [] X.env))) Q X.xe s1)
  (i:eval (.Call (.Attribute e m apos) args [] pos) X.env=(do
   let ov <- eval e X.env
   ŗ apos.atName
   let(f,first) <- holding [ov] (Ŧ ov m pl)
   Ū pos f first (õ pos (Ê args X.env)) (ō pos (đ [] X.env)))) :
  Ï (model X.prog X.w) X.A (eval (.Call (.Attribute e m apos) args [] pos) X.env) Q X.xe s:=by
 refine M' (pl:=pl) (ar (he O0 s σ H _ I h) fun u s1 b=>?_) i;obtain⟨x,H1,d,rx,a,C,dx,fs,g,ex,j,c,k,l,q⟩:=b;subst ex;obtain rfl:u=î a:=rx;exact kI d j c k l (q s1 d)
end
structure Room(k:Nat)(A:ć):Prop where
 hd:A.handled=Á
 dp:A.depth+3*k+5<ϔ
 un:A.units+16*k+200<ř
 gd:A.guards=À []
theorem Room.mono{j k:Nat}(r:Room k A)(h:j<=k):Room j A:=⟨r.hd,by have:=r.dp;lia,by have:=r.un;lia,r.gd⟩
theorem Room.deeper{k:Nat}(r:Room (k+1) A)(env:R?):Room k (A.deeper env) :=
 ⟨r.hd,by have:=r.dp;show A.depth+1+3*k+5<_;lia,by have:=r.un;show A.units+3+16*k+200<_;lia,r.gd⟩
theorem Room.in1{k:Nat}(r:Room (k+1) A):Room k A.in1 :=
 ⟨r.hd,by have:=r.dp;show A.depth+3*k+5<_;lia,by have:=r.un;show A.units+1+16*k+200<_;lia,r.gd⟩
theorem wH{A:ć}{C:Ç}{us:List Å}{a:List (Í×Value)}:(A.under (.builtin "type.__call__" ⟨.ref C::us,a⟩)).depth=A.depth+1:=by
 first|rfl|simp[Around.under,Code.weight,Code.isCreation,Code.isGuard,Code.isCaller,Code.frames,Code.isFrame,guardIds]
theorem wG{A:ć}{C:Ç}{us:List Å}{a:List (Í×Value)}:(A.under (.builtin "type.__call__" ⟨.ref C::us,a⟩)).units=A.units+1:=by
 first|rfl|simp[Around.under,Code.cUnits,Code.frames,Code.isFrame]
theorem uu{A:ć}{C:Ç}{us:List Å}{a:List (Í×Value)}:(A.under (.builtin "type.__call__" ⟨.ref C::us,a⟩)).guards=A.guards:=by
 first|rfl|simp[Around.under,Code.guards,Code.isGuard,guardIds,pushGuards]
theorem Room.make{k:Nat}{A:ć}(r:Room (k+1) A)(C:Ç)(us:List Å)(a:List (Í×Value)):Room k (A.under (.builtin "type.__call__" ⟨.ref C::us,a⟩)) :=
 ⟨r.hd,by have:=r.dp;rw[wH];lia,by have:=r.un;rw[wG];lia,by rw[uu];exact r.gd⟩
theorem Room.depth{k:Nat}(r:Room k A):A.depth<ϔ:=by have:=r.dp;lia
theorem Room.units{k:Nat}(r:Room k A):A.units+64<ř:=by have:=r.un;lia
noncomputable def v7:TA:=fun _ H Q=>Q [] H
noncomputable def Co(ta:TE)(tr:TA):TA:=fun σ H Q=>ta σ H fun x H1=>tr σ H1 fun xs H2=>Q (x::xs) H2
section
variable{X:Cx}{e:Î}{es:List Î}{te:TE}{t:TA}{pos:ė}
theorem yd:PA X [] v7:=fun _ _ _ _ H Q I h=>Calls.spliced_nil ⟨[],H,I,.nil,h⟩
theorem u8(m:PE X e te)(l:PA X es t)(k:Ê (e::es) X.env=(Ã,eval e X.env)::Ê es X.env:=by rfl):PA X (e::es) (Co te t):=by
 intro a d s c H Q I h;rw[k];show Ï _ _ (spliced ((Ã,eval e X.env)::õ a (Ê es X.env))) _ _ s;refine Calls.spliced_cons (ar (m d s c H _ I h) fun u g b=>?_);obtain⟨x,q,o,r1,j⟩:=b;exact ar (l a d g c q _ o j) fun r v ⟨f,p,n,r2,i⟩=>⟨x::f,p,n,.cons r1 r2,i⟩
def LU(t:TA):TE:=fun σ H Q=>t σ H fun xs H1=>xs.length<=Ì/\∀p,H1 p=Á->Q (.ref p) (ah H1 p (.tup xs))
def L0(t:TA):TE:=fun σ H Q=>t σ H fun xs H1=>xs.length<=Ì/\∀p,H1 p=Á->Q (.ref p) (ah H1 p (.lst xs))
theorem GQ{i}(h:PA X es t):PE X (.Tuple es i pos) (LU t):=by
 intro m s f H Q I k;refine wpAny_Tuple_spliced (ar (h pos m s f H _ I k) fun j a ⟨g,d,c,r,z,q⟩=>⟨by rw[<- r.length];exact z,?_⟩);have l:d a.heap.objs.size=Á:=c.O8.fresh (zP _);refine⟨.ref a.heap.objs.size,ah d a.heap.objs.size (.tup g),c.laid (t':=a.toks) (fun b u e=>zG _ e) (zP _) ?_,rfl,q _ l⟩;exact⟨z,j,r,⟨_,zY _ rfl,rfl,_,rfl⟩⟩
theorem yb(h:PA X es t):PE X (.List es pos) (L0 t):=by
 intro l s f H Q I j;refine wpAny_List_spliced (ar (h pos l s f H _ I j) fun i a ⟨g,d,c,r,z,q⟩=>⟨by rw[<- r.length];exact z,?_⟩);have k:d a.heap.objs.size=Á:=c.O8.fresh (zP _);refine⟨.ref a.heap.objs.size,ah d a.heap.objs.size (.lst g),c.laid (t':=a.toks) (fun b u e=>zG _ e) (zP _) ?_,rfl,q _ k⟩;exact⟨z,i,0,r,zY _ rfl⟩
end
abbrev Sp:=List V->Hp->VK->XK->Prop
abbrev l8:=List R?->Hp->É->XK->Å->É->Prop
structure Env0(P:Ò)(w:Ú)(K:Þ)(mg:Í->Option Å)(base:è)(A:ć)(outer:List R?)(s:É)(H:Hp):Prop where
 frames:A.frames=À outer
 mod:Mod K mg base
 bs:∀b o,base.get? b=À o->s.heap.get? b=À o/\H b=Á
 bsz:base.objs.size<=s.heap.objs.size
 funs:s.heap.FunFrames base outer
 frf:∀b∈kg outer,H b=Á
 O8:HOk P w H s.heap
 bare:ϊ s.gens
def CE(outer:List R?)(P:Ò)(w:Ú)(H:Hp)(s:É)(Q:VK)(u:Å)(s':É):Prop :=
 ∃v H',s'.os=s.os/\ϊ s'.gens/\Un (kg outer) [] H H' s.heap s'.heap/\HOk P w H' s'.heap/\RelV v u/\Q v H'
def CR(CX:l8)(outer:List R?)(P:Ò)(w:Ú)(H:Hp)(s:É)(Q:VK)(E:XK)(r:Result)(s':É):Prop :=
 match r with
 |.ok (.ret u)=>CE outer P w H s Q u s'
 |.ok _=>False
 |.error e=>CX outer H s E e s'
structure FnOk(P:Ò)(w:Ú)(K:Þ)(mg:Í->Option Å)(base:è)(CX:l8)(k:Nat)(f:Ç)(fd:Ē)(ps:List Í)(sp:Sp):Prop where
 len:∀vs H Q E,sp vs H Q E->vs.length=ps.length
 run:∀(A:ć)(outer:List R?)(s:É)(H:Hp)(args:Args)(us:List Å)(vs:List V)(Q:VK)(E:XK),Room k A->Env0 P w K mg base A outer s H->x! s fd args (ps.zip us)->Vals vs us->sp vs H Q E ->
  Ō (model P w) A (.call (.ref f) args) (CR CX outer P w H s Q E) s
theorem FnOk.mono{P:Ò}{w:Ú}{K:Þ}{mg:Í->Option Å}{a:è}{d:l8}{j k:Nat}{f:Ç}{fd:Ē}{ps:List Í}{sp:Sp}(F:FnOk P w K mg a d j f fd ps sp)(h:j<=k) :
  FnOk P w K mg a d k f fd ps sp:=⟨F.len,fun A b s H c g e Q E i=>F.run A b s H c g e Q E (i.mono h)⟩
theorem FnOk.imp{P:Ò}{w:Ú}{K:Þ}{mg:Í->Option Å}{a:è}{e:l8}{k:Nat}{f:Ç}{fd:Ē}{ps:List Í}{sp c:Sp}(F:FnOk P w K mg a e k f fd ps sp)
  (h:∀vs H Q E,c vs H Q E->sp vs H Q E):FnOk P w K mg a e k f fd ps c :=
 ⟨fun vs H Q E q=>F.len vs H Q E (h _ _ _ _ q),fun A b s H d g vs Q E l m n i j=>F.run A b s H d g vs Q E l m n i (h _ _ _ _ j)⟩
theorem Env0.make{P:Ò}{w:Ú}{K:Þ}{mg:Í->Option Å}{a:è}{A:ć}{outer:List R?}{s:É}{H:Hp}(e:Env0 P w K mg a A outer s H)(C:Ç)(us:List Å)(b:List (Í×Value)) :
  Env0 P w K mg a (A.under (.builtin "type.__call__" ⟨.ref C::us,b⟩)) outer s H:=⟨by first|exact e.frames|(simpa [Around.under,Code.envs,Code.isFrame,pushEnvs] using e.frames),e.mod,e.bs,e.bsz,e.funs,e.frf,e.O8,e.bare⟩
section
variable{X:Cx}{O0:List (Ç×Obj)}{σ:St}{H:Hp}{s s':É}
theorem Inv.env0(I:Inv X O0 σ H s):Env0 X.prog X.w X.K X.mg X.base X.A X.stack s H :=
 ⟨I.ok.frames,I.ok.mod,I.bs,z5 I.ok.bsz I.sz,I.stack,I.stkFree,I.O8,I.bare⟩
theorem Inv.after(I:Inv X O0 σ H s)(h:CE X.stack X.prog X.w H s Q u s'):EP X O0 σ Q u s':=by
 obtain⟨v,j,e,a,un,i,r,q⟩:=h;obtain⟨f,g,d,t,c⟩:=s';obtain rfl:c=s.os:=e;exact⟨v,j,I.call (h':=f) (g':=g) (d':=d) (t':=t) (ch:=[]) un i a (fun b z=>absurd z (by simp)),r,q⟩
end
noncomputable def wa(sp:Sp)(dvs:List V)(E:XK)(t:TA):TE:=fun σ H Q=>t σ H fun vs H1=>sp (vs++dvs) H1 Q E
def v8(C:Ç)(m:Í)(sp:Sp)(dvs:List V)(E:XK)(ta:TE)(t:TA):TE:=fun σ H Q=>ta σ H fun x H1=>∃a dx fs,x=.ref a/\H1 a=À (.ins C dx fs)/\fs.lookup m=Á /\
 t σ H1 fun vs H2=>sp (x::(vs++dvs)) H2 Q E
def Cn(C:Ç)(sp:Sp)(dvs:List V)(E:XK)(t:TA):TE:=fun σ H Q=>t σ H fun vs H1=>∀x dx,H1 x=Á->H1 dx=Á->dx≠x ->
 sp (.ref x::(vs++dvs)) (ah (ah H1 dx (.own x)) x (.ins C dx [])) (fun v H2=>v=.non/\Q (.ref x) H2) E
def Binds(K:Þ)(fd:Ē)(ps:List Í)(ds:List Å):Prop :=
 ∀(s:É)(us:List Å),K.In s.heap->(us++ds).length=ps.length->x! s fd ⟨us,[]⟩ (ps.zip (us++ds))
theorem Binds.all{K:Þ}{fd:Ē}{ps:List Í}(h:∀us:List Å,us.length=ps.length->B? fd ⟨us,[]⟩=pure (ps.zip us)):Binds K fd ps []:=fun s us _ a=>by
 rw[ó]at a ⊢;exact .of_eq (h us a)
def iA(CX:l8)(X:Cx)(E:XK):Prop:=∀(O0:List (Ç×Obj))(σ:St)(H:Hp)(s:É)(e:Å)(s':É),Inv X O0 σ H s->CX X.stack H s E e s'->X.xe e s'
section
variable{X:Cx}{CX:l8}{k:Nat}{f C:Ç}{fd:Ē}{ps:List Í}{sp:Sp}{dvs:List V}{ds:List Å}{E:XK}{x m:Í}{p pos apos:ė}{e o:Î}{es:List Î}{ta:TE}{t:TA}
theorem ow(F:FnOk X.prog X.w X.K X.mg X.base CX k f fd ps sp)(d:Room k X.A)(i:Binds X.K fd ps ds)(hd:Vals dvs ds)(c:iA CX X E)
  (I:Inv X O0 σ H s) (r:Vals vs us) (h:sp (vs++dvs) H Q E):Ï (model X.prog X.w) X.A (call (.ref f) us) (EP X O0 σ Q) X.xe s:=by
 have r2:Vals (vs++dvs) (us++ds):=r.append hd;have g:(us++ds).length=ps.length:=by rw[<- r2.length];exact F.len _ _ _ _ h
 refine y? (Š (F.run X.A X.stack s H ⟨us,[]⟩ (us++ds) (vs++dvs) Q E d I.env0 (i s us I.kIn g) r2 h) fun r b a=>?_);cases r with
 |error e=>exact c O0 σ H s e b I a
 |ok fl =>
  cases fl with
  |ret u=>exact I.after a
  |next=>exact False.elim a
  |brk=>exact False.elim a
  |cont=>exact False.elim a
theorem Es(F:FnOk X.prog X.w X.K X.mg X.base CX k f fd ps sp)(g:Room k X.A)(l:Gl X x)(i:X.mg x=À (.ref f))(j:Ĺ X.K (.ref f)=Â)(m:Binds X.K fd ps ds)(hd:Vals dvs ds)(d:iA CX X E)
  (n:PA X (e::es) t) (a:(x==("__debug__":Í))=Ã:=by decide) (he:Ê (e::es) X.env=(Ã,eval e X.env)::Ê es X.env:=by rfl) (hpl:(õ pos (Ê es X.env)).any (·.1)=Ã:=by rfl) :
  PE X (.Call (.Name x p) (e::es) [] pos) (wa sp dvs E t):=by
 intro o s c H Q I h;refine ö (mz I l i ?_ a);refine W9 (h₀:=X.base) I.ok.mod.kin j (ar (n pos o s c H _ I h) fun v w ⟨u,y,b,r,q⟩=>⟨b.kIn,?_⟩) he hpl;exact ow F g m hd d b r q
theorem Br(F:FnOk X.prog X.w X.K X.mg X.base CX k f fd ps sp)(c:Room k X.A)(g:Gl X x)(d:X.mg x=À (.ref f))(e:Ĺ X.K (.ref f)=Â)(i:Binds X.K fd ps ds)(hd:Vals dvs ds)(b:iA CX X E)
  (a:(x==("__debug__":Í))=Ã:=by decide):PE X (.Call (.Name x p) [] [] pos) (wa sp dvs E v7):=by
 intro l s j H Q I h;refine ö (mz I g d ?_ a);exact t? I.kIn e (ow (us:=[]) F c i hd b I .nil h)
theorem En(he:PE X o ta)(c:Cls X.K C)(i:kS X.K C m f)(F:FnOk X.prog X.w X.K X.mg X.base CX k f fd ps sp)(A:Room k X.A)(B:Binds X.K fd ps ds)(hd:Vals dvs ds)(y:iA CX X E)(D:PA X (e::es) t)
  (b:Ê (e::es) X.env=(Ã,eval e X.env)::Ê es X.env:=by rfl) (hpl:(õ pos (Ê es X.env)).any (·.1)=Ã:=by rfl)
  (z:eval (.Call (.Attribute o m apos) (e::es) [] pos) X.env=(do
   let ov <- eval o X.env
   ŗ apos.atName
   let(f,first) <- holding [ov] (Ŧ ov m pl)
   Ū pos f first (õ pos (Ê (e::es) X.env)) (ō pos (đ [] X.env))):=by rfl) :
  PE X (.Call (.Attribute o m apos) (e::es) [] pos) (v8 C m sp dvs E ta t):=by
 intro j s g H Q I h;refine M' (pl:=pl) (ar (he j s g H _ I h) fun u v d=>?_) z;obtain⟨x,J,p,rx,a,L,fs,ex,G,l,q⟩:=d;subst ex;obtain rfl:u=î a:=rx;refine kI p G c i l ?_;refine W9 (first:=[.ref a]) (h₀:=X.base) I.ok.mod.kin i.kp (ar (D pos j v g J _ p q) fun us K ⟨vs,M,n,r,w⟩=>⟨n.kIn,?_⟩) b hpl;exact ow (us:=.ref a::us) (vs:=.ref a::vs) F A B hd y n (.cons rfl r) w
theorem Bm(he:PE X o ta)(c:Cls X.K C)(e:kS X.K C m f)(F:FnOk X.prog X.w X.K X.mg X.base CX k f fd ps sp)(n:Room k X.A)(p:Binds X.K fd ps ds)(hd:Vals dvs ds)(i:iA CX X E)
  (j:eval (.Call (.Attribute o m apos) [] [] pos) X.env=(do
   let ov <- eval o X.env
   ŗ apos.atName
   let(f,first) <- holding [ov] (Ŧ ov m pl)
   Ū pos f first (õ pos (Ê [] X.env)) (ō pos (đ [] X.env))):=by rfl) :
  PE X (.Call (.Attribute o m apos) [] [] pos) (v8 C m sp dvs E ta v7):=by
 intro t s g H Q I h;refine M' (pl:=pl) (ar (he t s g H _ I h) fun u v b=>?_) j;obtain⟨x,y,d,rx,a,w,fs,ex,r,l,q⟩:=b;subst ex;obtain rfl:u=î a:=rx;refine kI d r c e l ?_;exact t? (first:=[.ref a]) d.kIn e.kp (ow (us:=[.ref a]) (vs:=[.ref a]) F n p hd i d (.cons rfl .nil) q)
structure Mk(K:Þ)(C f:Ç):Prop where
 makes:X8 K C=Â
 init:Ŕ K (.ref C) "__init__"=À (À (.ref f))
 fn:isFn K (.ref f)=Â
 kp:Ĺ K (.ref C)=Â
theorem AU(M:Mk X.K C f)(F:FnOk X.prog X.w X.K X.mg X.base CX k f fd ps sp)(l:Room (k+1) X.A)(n:Binds X.K fd ps ds)(hd:Vals dvs ds)
  (j:iA CX X E) (I:Inv X O0 σ H s) (r:Vals vs us)
  (h:∀x dx,H x=Á->H dx=Á->dx≠x->sp (.ref x::(vs++dvs)) (ah (ah H dx (.own x)) x (.ins C dx [])) (fun v H2=>v=.non/\Q (.ref x) H2) E) :
  Ï (model X.prog X.w) X.A (call (.ref C) us) (EP X O0 σ Q) X.xe s:=by
 have c:=h (s.heap.objs.size+1) s.heap.objs.size (I.O8.fresh (ž _)) (I.O8.fresh (zP _)) (zU (ĳ _));have b:=Inv.made (C:=C) I;have r2:Vals (V.ref (s.heap.objs.size+1)::(vs++dvs)) (î (s.heap.objs.size+1)::(us++ds)):=.cons rfl (r.append hd);have m:(î (s.heap.objs.size+1)::us++ds).length=ps.length:=by
  have e:=r2.length;rw[F.len _ _ _ _ c]at e;exact e.symm
 refine y? (Bz (f:=f) I.kIn M.makes M.init (beq_iff_eq.mp M.fn) (Š (F.run _ X.stack _ _ ⟨î (s.heap.objs.size+1)::us,[]⟩ (î (s.heap.objs.size+1)::(us++ds)) _ _ E (l.make C us [])
  (b.env0.make C us []) (n _ (î (s.heap.objs.size+1)::us) b.kIn m) r2 c) fun r d a=>?_))
 cases r with
 |error e=>exact j O0 σ _ _ e d b a
 |ok fl =>
  cases fl with
  |ret u =>
   obtain⟨v,p,o,g,ev,i⟩:=b.after a;subst ev;exact⟨g,⟨V.ref (s.heap.objs.size+1),p,o,rfl,i⟩⟩
  |next=>exact False.elim a
  |brk=>exact False.elim a
  |cont=>exact False.elim a
theorem Eo(M:Mk X.K C f)(F:FnOk X.prog X.w X.K X.mg X.base CX k f fd ps sp)(g:Room (k+1) X.A)(j:Gl X x)(i:X.mg x=À (.ref C))(l:Binds X.K fd ps ds)(hd:Vals dvs ds)(d:iA CX X E)
  (m:PA X (e::es) t) (a:(x==("__debug__":Í))=Ã:=by decide) (he:Ê (e::es) X.env=(Ã,eval e X.env)::Ê es X.env:=by rfl) (hpl:(õ pos (Ê es X.env)).any (·.1)=Ã:=by rfl) :
  PE X (.Call (.Name x p) (e::es) [] pos) (Cn C sp dvs E t):=by
 intro n s c H Q I h;refine ö (mz I j i ?_ a);refine W9 (h₀:=X.base) I.ok.mod.kin M.kp (ar (m pos n s c H _ I h) fun u v ⟨o,w,b,r,q⟩=>⟨b.kIn,?_⟩) he hpl;exact AU M F g l hd d b r q
end
structure mM(N P:List Í)(sc:ĝ):Prop where
 kind:sc.kind=.function
 co:sc.isCoroutine=Ã
 gen:sc.isGenerator=Ã
 nd:N.Nodup
 pre:N.take P.length=P
 par:∀x∈P,sc.names.lookup x=À .local\/sc.names.lookup x=À .cell
 nofree:∀y∈sc.names,y.2≠.free
theorem qQ{a:Í->Option Ŭ}{x:Í}:∀{binds:List (Í×Value)}{m:Í->Option Å},(∀v,(x,v)∉binds)->Q0 a binds m x=m x
 |[],_,_=>rfl
 |(n,v)::r,m,h=>by
  unfold Q0;rw[qQ fun w hw=>h w (zQ _ hw)];split
  ·have:x≠n:=by rintro rfl;exact h v z7
   simp[this]
  ·rfl
theorem qS{a:Í->Option Ŭ}{x:Í}:∀{binds:List (Í×Value)}{m:Í->Option Å},(∀v,(x,v)∉binds)->Q2 a binds m x=m x
 |[],_,_=>rfl
 |(n,v)::r,m,h=>by
  unfold Q2;rw[qS fun w hw=>h w (zQ _ hw)];split
  ·rfl
  ·have:x≠n:=by rintro rfl;exact h v z7
   simp[this]
theorem qR{kindOf:Í->Option Ŭ}{x:Í}{v:Å}:∀{P:List Í}{vs:List Å}{i:Nat}{m:Í->Option Å},P.Nodup->P[i]?=À x->vs[i]?=À v->kindOf x=À .local ->
  Q0 kindOf (P.zip vs) m x=À v
 |[],_,_,_,_,h,_,_=>by simp at h
 |_::_,[],_,_,_,_,h,_=>by simp at h
 |p::P,w::vs,0,m,nd,h1,h2,hk=>by
  simp at h1 h2;subst h1;subst h2;show Q0 kindOf ((p,w)::P.zip vs) m p=_;unfold Q0;rw[qQ fun v hv=>(Ŀ.mp nd).1 (û hv).1,yH hk];simp
 |p::P,w::vs,i+1,m,nd,h1,h2,hk=>by
  show Q0 kindOf ((p,w)::P.zip vs) m x=_;unfold Q0;exact qR (i:=i) (Ŀ.mp nd).2 (by simpa using h1) (by simpa using h2) hk
theorem qT{kindOf:Í->Option Ŭ}{x:Í}{v:Å}:∀{P:List Í}{vs:List Å}{i:Nat}{m:Í->Option Å},P.Nodup->P[i]?=À x->vs[i]?=À v->kindOf x≠À .local ->
  Q2 kindOf (P.zip vs) m x=À v
 |[],_,_,_,_,h,_,_=>by simp at h
 |_::_,[],_,_,_,_,h,_=>by simp at h
 |p::P,w::vs,0,m,nd,h1,h2,hk=>by
  simp at h1 h2;subst h1;subst h2;show Q2 kindOf ((p,w)::P.zip vs) m p=_;unfold Q2;rw[qS fun v hv=>(Ŀ.mp nd).1 (û hv).1,yG hk];simp
 |p::P,w::vs,i+1,m,nd,h1,h2,hk=>by
  show Q2 kindOf ((p,w)::P.zip vs) m x=_;unfold Q2;exact qT (i:=i) (Ŀ.mp nd).2 (by simpa using h1) (by simpa using h2) hk
def start(N:List Í)(vs:List V):St:=vs.map À++È (N.length-vs.length) Á
def qc(CX:l8)(P:Ò)(w:Ú)(K:Þ)(mg:Í->Option Å)(base:è)(N:List Í)(qual:Í)(scope:ĝ)(f:Ç)(cd:Å)(A:ć)(outer:List R?)(s:É)(H:Hp)(E:XK):Cx where
 prog:=P
 w:=w
 K:=K
 mg:=mg
 base:=base
 A:=A.deeper (Ϯ qual scope s.heap.objs.size f cd)
 N:=N
 s₀:=s
 H₀:=H
 env:=Ϯ qual scope s.heap.objs.size f cd
 outer:=outer
 stack:=Ϯ qual scope s.heap.objs.size f cd::outer
 ex:=[]
 calm:=Â
 fn:=fun _=>Â
 pn:=[]
 xe:=fun e s'=>Ï (model P w) (A.deeper (Ϯ qual scope s.heap.objs.size f cd)) (leaving (Ϯ qual scope s.heap.objs.size f cd) e) (fun _ s''=>CX outer H s E e s'') (fun e' s''=>CX outer H s E e' s'') s'
theorem tU{sc:ĝ}{n:Nat}{x:Í}(h:sc.names.lookup x=À .cell):∃c,(ď n sc.names []).lookup x=À c:=by
 have q:=cellsFrom_some sc.names n [] (.inl h);exact Ĵ.mp q
theorem zg{G:l8}{P:Ò}{w:Ú}{K:Þ}{mg:Í->Option Å}{g:è}{N ps:List Í}{qual:Í}{scope:ĝ}{f:Ç}{cd:Å}{A:ć}{outer:List R?}{s s1:É}{H:Hp}{E:XK}{us:List Å}{vs:List V}
  (S:mM N ps scope) (hd:A.handled=Á) (j:Env0 P w K mg g A outer s H) (O:vs.length=ps.length) (r:Vals vs us)
  (x:InCallC s s.heap.objs.size (Q0 (Ϯ qual scope s.heap.objs.size f cd).kindOf (ps.zip us) fun _=>Á) (ď (s.heap.objs.size+1) scope.names []) (Q2 (Ϯ qual scope s.heap.objs.size f cd).kindOf (ps.zip us) fun _=>Á) s1) :
  Inv (qc G P w K mg g N qual scope f cd A outer s H E) [] (start N vs) H s1:=by
 have J:ps.length<=N.length:=by have:=congrArg ő S.pre;rw[ϫ]at this;lia
 obtain ⟨C,M,rfl,F⟩:=x.done;have l:∀ b:Ç,b ∉ (qc G P w K mg g N qual scope f cd A outer s H E).ex:=fun b z=>absurd (show b ∈ ([]:List Ç) from z) (by simp)
 refine⟨⟨j.mod,S.kind,rfl,rfl,zP _,fun y z c C d=>?_,fun y m=>?_,fun y c _ h=>?_,fun _=>hd,Around.frames_deeper j.frames,.inr ⟨rfl,rfl⟩,fun b z=>absurd z (l b),j.bs,j.bsz,fun b _ _=>l b,fun b z=>absurd z (l b),j.funs,j.frf⟩,
  rfl,j.bare,Un.kept F,⟨_,x.toInCall.ns,fun i y v C d Q=>?_⟩,fun y c h=>⟨_,x.cell y c h⟩,j.O8.fresh (zP _),fun y c h=>?_,fun p t=>absurd (show p∈([]:List (Ç×Obj)) from t) (by simp),j.O8.kept F,?_⟩
 ·exact name_of_addr x.apart (ı C) (ı d)
 ·have m:scope.names.lookup y=À .cell\/scope.names.lookup y=À .free:=m
  rcases m with m|m
  ·exact tU m
  ·exact absurd rfl (S.nofree _ (ı m))
 ·exact yY (x.above y c (ı h))
 ·have B:i<vs.length:=by
   unfold start at d;by_cases B:i<vs.length
   ·exact B
   ·rw[z6 (by simpa using B)]at d
    rw[ù]at d;split at d<;>cases d
  have L:vs[i]?=À v:=by
   unfold start at d;rw[zN (by simpa using B),zR]at d;cases e:vs[i]? with
   |none=>rw[e]at d;cases d
   |some a=>rw[e]at d;cases d;rfl
  obtain⟨u,D,I⟩:=r.get L;have t:ps[i]?=À y:=by
   rw[<- S.pre,ĺ oM];exact C
  have o:ps.Nodup:=by rw[<- S.pre];exact S.nd.sublist (T0 _ _)
  refine⟨u,I,?_⟩;rcases S.par y (zW t) with k|k
  ·exact .inl ⟨k,qR o t D k⟩
  ·obtain⟨c,e⟩:=tU (n:=s.heap.objs.size+1) k
   refine .inr ⟨.inl k,c,e,?_⟩;have q:=x.cell y c e;rw[qT o t D (by show scope.names.lookup y≠_;rw[k];decide)]at q;exact q
 ·exact j.O8.fresh (yY (x.above y c (ı h)))
 ·unfold start
  show _=N.length;rw[zV,zH,ŉ];lia
theorem Kh{C:l8}{P:Ò}{w:Ú}{K:Þ}{mg:Í->Option Å}{d:è}{k:Nat}{f:Ç}{name qual:Í}{c:ϡ}{g:List ľ}{scope:ĝ}{U kV B pm a ct oc:Å}{X od:Option Ç}
  {G:Array (Option Å)}{N ps:List Í}{sp:Sp} (lk:K.lookup f=À ⟨oc,od,.func (fnOf name qual c g scope U kV B pm X a ct),G⟩) (R:ϕ K a qual=Â) (S:mM N ps scope)
  (m:∀vs H Q E,sp vs H Q E->vs.length=ps.length)
  (j:∀(A:ć)(outer:List R?)(s:É)(H:Hp)(vs:List V)(Q:VK)(E:XK),Room k (A.deeper (Ϯ qual scope s.heap.objs.size f a))->sp vs H Q E ->
   ∃t,PSs (qc C P w K mg d N qual scope f a A outer s H E) g t/\t { nx:=fun _ H'=>Q .non H',rt:=Q } (start N vs) H) :
  FnOk P w K mg d C (k+1) f (fnOf name qual c g scope U kV B pm X a ct) ps sp:=by
 refine⟨m,fun A outer s H W Z vs Q E M z hb r p=>?_⟩;have hl:=m _ _ _ _ p;have Y:K.In s.heap:=z.mod.kin.keeps fun b o e=>(z.bs b o e).1
 have L:s.heap.NoLimit:=z.mod.nolimit.keeps fun b o e=>(z.bs b o e).1
 have i:∀y∈ps.zip Z,scope.names.lookup y.1=À .local\/(scope.names.lookup y.1=À .cell/\((ď (s.heap.objs.size+1) scope.names []).lookup y.1).isSome=Â):=fun O hy=>by
  obtain⟨n,v⟩:=O;rcases S.par n (û hy).1 with q|q
  ·exact .inl q
  ·exact .inr ⟨q,cellsFrom_some _ _ _ (.inl q)⟩
 refine codeAny_call_function M.depth (Y _ _ lk) rfl S.co S.gen rfl (codeRec_of Y R) (hb _ _ _ _ ?_);refine wpAny_newFunctionEnv_cells S.kind i fun env he T x=>?_
 subst he;refine⟨L.keeps x.toInCall.keep,codeAny_func ?_⟩;obtain⟨t,ht,hq⟩:=j A outer s H vs Q E (M.deeper _) p;have I:Inv (qc C P w K mg d N qual scope f a A outer s H E) [] (start N vs) H T:=zg S M.hd z hl r x;refine yS (ht [] T (start N vs) H _ I hq) (fun fl D l=>?_) fun e D l=>l
 have aw:∀{h:St}{H':Hp}{v:V}{u:Å},Inv (qc C P w K mg d N qual scope f a A outer s H E) [] h H' D->RelV v u->Q v H'->CE outer P w H s Q u D :=
  fun {h H' v u} J F q=>⟨v,H',J.os,J.bare,J.base,J.O8,F,q⟩
 cases fl with
 |ret u =>
  obtain⟨v,h,H',J,F,q⟩:=l;exact aw J F q
 |next =>
  obtain⟨h,H',J,q⟩:=l;exact aw (v:=V.non) (u:=Ů) J rfl q
 |brk =>
  obtain⟨_,_,_,q⟩:=l;exact False.elim q
 |cont =>
  obtain⟨_,_,_,q⟩:=l;exact False.elim q
section
variable{X:Cx}{x:Í}{p pos:ė}{e:Î}{es:List Î}{t:TA}{id T:String}{r:List V->Hp->VK->Prop}
def FD(r:List V->Hp->VK->Prop)(t:TA):TE:=fun σ H Q=>t σ H fun vs H1=>r vs H1 Q
theorem Bq(n:c4 X (.builtin id) r)(m:Gl X x)(l:X.mg x=Á)(j:å x=À (.builtin id))(o:PA X (e::es) t)(k:x≠"__name__":=by decide)(a:(x==("__debug__":Í))=Ã:=by decide)
  (he:Ê (e::es) X.env=(Ã,eval e X.env)::Ê es X.env:=by rfl) (hpl:(õ pos (Ê es X.env)).any (·.1)=Ã:=by rfl):PE X (.Call (.Name x p) (e::es) [] pos) (FD r t):=by
 intro c s b H Q I h;refine ö (dB I m l j ?_ k a);exact _? (ar (o pos c s b H _ I h) fun f g ⟨d,u,q,r1,i⟩=>n c g b u d f Q q r1 i) he hpl
theorem qy(n:c4 X (.type T) r)(m:Gl X x)(l:X.mg x=Á)(j:å x=À (.type T))(o:PA X (e::es) t)(k:x≠"__name__":=by decide)(a:(x==("__debug__":Í))=Ã:=by decide)
  (he:Ê (e::es) X.env=(Ã,eval e X.env)::Ê es X.env:=by rfl) (hpl:(õ pos (Ê es X.env)).any (·.1)=Ã:=by rfl):PE X (.Call (.Name x p) (e::es) [] pos) (FD r t):=by
 intro c s b H Q I h;refine ö (dB I m l j ?_ k a);exact Ó (ar (o pos c s b H _ I h) fun f g ⟨d,u,q,r1,i⟩=>n c g b u d f Q q r1 i) he hpl
end
end L2
namespace HT
open PySem PyProof.Rows
section
variable{prog:Ò}{w:Ú}{A:ć}{E:Å->É->Prop}{s:É}
noncomputable def Pd(n d:Nat):Option Int->Nat
 |none=>d
 |some v=>if v<0 then(v+(n:Int)).toNat else min v.toNat n
theorem sIx_none(n d:Nat):Pd n d Á=d:=rfl
theorem sIx_nat(n d k:Nat):Pd n d (À (k:Int))=min k n:=by
 show(if(k:Int)<0 then((k:Int)+(n:Int)).toNat else min (k:Int).toNat n)=min k n;rw[yG oM,Ϧ]
end
end HT
namespace L2
open PySem PySem.Spec PyProof.Rows
abbrev TO:=St->Hp->(Option Int->Hp->Prop)->Prop
def PO(X:Cx)(e:Option Î)(t:TO):Prop :=
 ∀(O0:List (Ç×Obj))(s:É)(σ:St)(H:Hp)(Q:Option Int->Hp->Prop),Inv X O0 σ H s->t σ H Q ->
  Ï (model X.prog X.w) X.A (evalPart e X.env) (fun u s'=>∃o H',Inv X O0 σ H' s'/\IsPart u o/\Q o H') X.xe s
noncomputable def Dt:TO:=fun _ H Q=>Q Á H
noncomputable def IV(t:TE):TO:=fun σ H Q=>t σ H fun x H1=>∃i,x=.int i/\Q (À i) H1
theorem iQ:∀{us:List Å},Vals (ns.map V.int) us->ţ us ns:=by
 induction ns with
 |nil=>intro us r;rw[Ń]at r;cases r;exact .nil
 |cons n ns a =>
  intro us r;rw[zO]at r;cases r with
  |cons r1 r2 =>
   obtain⟨t,e⟩:=r1;subst e;exact .cons n t (a r2)
section
variable{X:Cx}{e:Î}{te:TE}{lo hi:Option Î}{tl th:TO}{pos p2:ė}
theorem Ed:PO X Á Dt:=by
 intro b s a H Q I h;rw[N!];exact yF ⟨Á,H,I,.none,h⟩
theorem Ec(h:PE X e te):PO X (À e) (IV te):=by
 intro f s b H Q I d;rw[evalPart_some];refine ar (h f s b H _ I d) fun u k a=>?_
 obtain⟨x,j,g,r1,c⟩:=a;obtain⟨i,rfl,q⟩:=c;obtain⟨t,rfl⟩:=r1;exact⟨À i,j,g,.int i t,q⟩
def Pa(X:Cx)(r:V->Option Int->Option Int->Hp->VK->Prop):Prop :=
 ∀(O0:List (Ç×Obj))(s:É)(σ:St)(H:Hp)(x:V)(v vl vu:Å)(lo hi:Option Int)(sl:Ç)(Q:VK),Inv X O0 σ H s->RelV x v->s.heap.IsSliceOf sl vl vu .none->IsPart vl lo->IsPart vu hi->r x lo hi H Q ->
  ∃T id,typeLookup (.type T) "__getitem__"=pure (À (.builtin id))/\s.TypeIs v T/\Ï (model X.prog X.w) X.A (S6 v (.ref sl)) (EP X O0 σ Q) X.xe s
def K1(r:V->Option Int->Option Int->Hp->VK->Prop)(te:TE)(tl th:TO):TE:=fun σ H Q=>te σ H fun x H1=>tl σ H1 fun l H2=>th σ H2 fun u H3=>r x l u H3 Q
theorem Bj(A:Pa X r)(he:PE X e te)(B:PO X lo tl)(y:PO X hi th):PE X (.Subscript e (.Slice lo hi Á p2) pos) (K1 r te tl th):=by
 intro f s d H Q I h;refine X! (ar (he f s d H _ I h) fun v m c=>?_);obtain⟨x,L,J,r1,p⟩:=c;refine wpAny_Slice (ar (B f m d L _ J p) fun i k ⟨l,K,G,w,o⟩=>ar (y f k d K _ G o) fun g a c=>?_);obtain⟨u,j,F,t,n⟩:=c;rw[N!];refine yF ?_;have E:Inv X f d j { a with heap:=a.heap.push { cls:=.type "slice",data:=.fields #[i,g,.none] } }:=F.kept (t':=a.toks) fun b M q=>zG _ q
 obtain⟨T,id,D,z,C⟩:=A f { a with heap:=a.heap.push { cls:=.type "slice",data:=.fields #[i,g,.none] } } d j x v i g l u a.heap.objs.size Q E r1 (Ϸ ..) w t n;show Ï (model X.prog X.w) X.A (ϩ e (.Slice lo hi Á p2) v (.ref a.heap.objs.size)) (EP X f d Q) X.xe { a with heap:=a.heap.push { cls:=.type "slice",data:=.fields #[i,g,.none] } };exact tail_any (ops:=[.ref a.heap.objs.size,v]) z D C (by with_unfolding_all rfl)
def qd(xs:List V)(lo hi:Option Int):List V:=(xs.drop (HT.Pd xs.length 0 lo)).take (HT.Pd xs.length xs.length hi-HT.Pd xs.length 0 lo)
theorem uw(xs:List V)(a b:Option Int):(qd xs a b).length<=xs.length:=by
 unfold qd;rw[ϫ,List.length_drop];lia
end
noncomputable def mT(n:Nat)(i:Int):Option Nat:=if 0<=i then(if i<n then À i.toNat else Á) else if -(n:Int)<=i then À (i+n).toNat else Á
def gJ{α:Type}(xs:List α)(i:Int):Option α:=(mT xs.length i).bind fun j=>xs[j]?
theorem vh{n:Nat}{i:Int}{j:Nat}(h:mT n i=À j):seqIndex? i n=À j/\j<n/\-(n:Int)<=i/\i<n:=by
 unfold mT at h;by_cases b:0<=i
 ·rw[yH b]at h
  by_cases a:i<n
  ·rw[yH a]at h
   have e:i.toNat=j:=yD h;exact⟨by rw[j! b a,e],by lia,by lia,a⟩
  ·rw[yG a]at h;cases h
 ·rw[yG b]at h
  by_cases a:-(n:Int)<=i
  ·rw[yH a]at h
   have e:(i+n).toNat=j:=yD h;exact⟨by rw[a! oM a,e],by lia,a,by lia⟩
  ·rw[yG a]at h;cases h
theorem mK{α:Type}{xs:List α}{i:Int}{v:α}(h:gJ xs i=À v):∃j,seqIndex? i xs.length=À j/\xs[j]?=À v/\j<xs.length/\-(xs.length:Int)<=i/\i<xs.length:=by
 unfold gJ at h;cases e:mT xs.length i with
 |none=>rw[e]at h;cases h
 |some j =>
  rw[e]at h;obtain⟨d,c,b,a⟩:=vh e;exact⟨j,d,h,c,b,a⟩
def qo(b:Î):Prop:=∀o i,subscripted b Ã o i=operate [o,i] (S6 o i)
def IxR(X:Cx)(r:R2):Prop :=
 ∀(value slice:Î)(O0:List (Ç×Obj))(s:É)(σ:St)(H:Hp)(x y:V)(v u:Å)(Q:VK),Inv X O0 σ H s->RelV x v->RelV y u->r x y H Q ->
  subscripted slice Ã v u=operate [v,u] (S6 v u)->Ï (model X.prog X.w) X.A (ϩ value slice v u) (EP X O0 σ Q) X.xe s
def lZ(X:Cx)(id:String)(r:V->List V->Hp->VK->Prop):Prop :=
 ∀(O0:List (Ç×Obj))(s:É)(σ:St)(H:Hp)(x:V)(xs:List V)(v:Å)(us:List Å)(Q:VK),Inv X O0 σ H s->RelV x v->Vals xs us->r x xs H Q ->
  Ï (model X.prog X.w) X.A (call (.builtin id) (v::us)) (EP X O0 σ Q) X.xe s
section
variable{X:Cx}{a b:Î}{ta tb:TE}{pos:ė}
theorem IxR.or(h:IxR X r)(h':IxR X r'):IxR X (fun x y H Q=>r x y H Q\/r' x y H Q):=by
 intro a b f s c H x y v u Q I rx d q e;rcases q with q|q
 ·exact h a b f s c H x y v u Q I rx d q e
 ·exact h' a b f s c H x y v u Q I rx d q e
theorem JG(g:IxR X r)(j:PE X a ta)(i:PE X b tb)(f:qo b):PE X (.Subscript a b pos) (xG r ta tb):=by
 intro k s c H Q I h;exact X! (B4 j i I h fun v u d x y m l rx e q=>g a b k d c m x y v u Q l rx e q (f _ _))
def FY(K:Þ):R2:=fun x y H Q=>∃p xs i v,x=.ref p/\y=.int i/\bR K H p xs/\gJ xs i=À v/\Q v H
def FW(K:Þ):R2:=fun x y H Q=>∃p xs i v,x=.ref p/\y=.int i/\iz K H p xs/\gJ xs i=À v/\Q v H
def FX:R2:=fun x y H Q=>∃z i c,x=.str z/\y=.int i/\z.length<=Ì/\gJ z.cps.toList i=À c/\Q (.str ⟨#[c]⟩) H
theorem ix_list:IxR X (FY X.K):=by
 intro b c n s g H x y v u Q I rx A h k;obtain⟨p,K,i,z,rfl,rfl,B,D,q⟩:=h;cases rx;obtain⟨t,rfl⟩:=A;obtain⟨J,r,e,hz⟩:=I.list B;obtain⟨j,a,G,M,F,E⟩:=mK D;obtain⟨w,m,d⟩:=r.get G;have C:=r.length;have L:=il;have aw:EP X n g Q w s:=⟨z,H,I,d,q⟩;by_cases l:0<=i
 ·have f:i.toNat=j:=by
   rw[j! l E]at a;exact yD a
  exact item_listR e.isList l oM (by rw[f];simpa using m) aw k
 ·have f:(i+(J.toArray.size:Int)).toNat=j:=by
   rw[a! oM F]at a;rw[zI,<- C];exact yD a
  exact S5 (x:=w) e.isList.typeIs slot_list_getitem.lookup
   (S3 (Q:=fun r o=>r=w/\EP X n g Q r o) e.isList oM (by rw[zI]<;>lia) oM (by rw[f];simpa using m) ⟨rfl,aw⟩) k
theorem ix_tup:IxR X (FW X.K):=by
 intro a b f s d H x y v u Q I rx k h l;obtain⟨p,D,i,z,rfl,rfl,m,o,q⟩:=h;cases rx;obtain⟨t,rfl⟩:=k;obtain⟨K,r,e,hz⟩:=I.tuple m;obtain⟨j,B,A,J,G,F⟩:=mK o;obtain⟨w,C,c⟩:=r.get A;have n:=r.length;have E:=il;have aw:EP X f d Q w s:=⟨z,H,I,c,q⟩;exact S5 (x:=w) e.typeIs slot_tuple_getitem.lookup
  (getItem_tuple (j:=j) (Q:=fun r g=>r=w/\EP X f d Q r g) e oM oM (by rw[zI,<- n];exact B) (by simpa using C) ⟨rfl,aw⟩) l
theorem HF:IxR X FX:=by
 intro a b C s r H x y v u Q I rx e h f;obtain⟨z,i,c,rfl,rfl,hz,k,q⟩:=h;obtain⟨t,rfl⟩:=rx;obtain⟨w,rfl⟩:=e;obtain⟨j,d,n,B,m,l⟩:=mK k;have g:z.cps.toList.length=z.length:=by simp[Str.length]
 rw[g]at d m l;have A:=il;exact tail_any (typeIs_str s z t) slot_str_getitem.lookup (getItem_str (c:=c) (by
  have p:decide (i < -(2^63:Int))=Ã:=z9 oM;have o:decide (i ≥ 2^63)=Ã:=z9 oM;rw[p,o,X3]) (by rw[d];simpa using n) ⟨.str ⟨#[c]⟩,H,I.tok _,⟨_,rfl⟩,q⟩) f
def Ni(K:Þ):R2:=fun x y H Q=>FY K x y H Q\/FW K x y H Q\/FX x y H Q
theorem td:IxR X (Ni X.K):=ix_list.or (ix_tup.or HF)
theorem wF(O4:List Å)(n j:Nat)(u:Å):Ğ (·.setIfInBounds j u) { cls:=.type "list",data:=.seq O4.toArray n }={ cls:=.type "list",data:=.seq (O4.set j u).toArray n }:=by
 simp[Ğ]
theorem Inv.lst(I:Inv X O0 σ H s)(h:H p=À (.lst xs)) :
  ∃(O4:List Å)(n:Nat),Vals xs O4/\s.heap.get? p=À { cls:=.type "list",data:=.seq O4.toArray n }/\xs.length<=Ì:=by
 obtain⟨z,O4,n,r,e⟩:=I.O8 p _ h;exact⟨O4,n,r,e,z⟩
theorem Inv.lstUpd{O0:List (Ç×Obj)}{σ:St}{H:Hp}{s:É}{p:Ç}{xs ys:List V}{O4 its':List Å}{n a:Nat}{f:Y9->Y9}(I:Inv X O0 σ H s)(h:H p=À (.lst xs))
  (d:s.heap.get? p=À { cls:=.type "list",data:=.seq O4.toArray n }) (c:f { cls:=.type "list",data:=.seq O4.toArray n }={ cls:=.type "list",data:=.seq its'.toArray a }) (r:Vals ys its') (hz:ys.length<=Ì) (t:Nat) :
  Inv X O0 σ (ah H p (.lst ys)) { s with heap:=s.heap.update p f,toks:=t }:=by
 have e:(s.heap.update p f).get? p=À { cls:=.type "list",data:=.seq its'.toArray a }:=by
  rw[Heap.get?_update_self f d (by rw[c]<;>rfl),c]
 refine I.write (x:=p) (e:=p) (by rw[h];trivial) (.inl rfl) (fun b u g q=>(w! _ _ (æ g)).trans q) ⟨_,e⟩ ?_;exact⟨hz,its',a,r,e⟩
def Jf:V->V->V->Hp->(Hp->Prop)->Prop:=fun o i v H Q=>∃p xs k j,o=.ref p/\i=.int k/\H p=À (.lst xs)/\mT xs.length k=À j/\Q (ah H p (.lst (xs.set j v)))
theorem AT:xh X Jf:=by
 intro D s x H o i v E F u Q I A B z h;obtain⟨p,y,k,j,rfl,rfl,e,C,q⟩:=h;cases A;obtain⟨t,rfl⟩:=B;obtain⟨m,n,r,b,hz⟩:=I.lst e;obtain⟨a,J,g,f⟩:=vh C;have c:=r.length;have G:=il;have w:Inv X D x (ah H p (.lst (y.set j v))) { s with heap:=s.heap.update p (Ğ (·.setIfInBounds j u)) } :=
  I.lstUpd e b (wF m n j u) (r.set z j) (by rw[ą];exact hz) s.toks
 by_cases l:0<=k
 ·have d:k.toNat=j:=by
   rw[j! l f]at a;exact yD a
  exact ki_setAt b l oM (by rw[zI,<- c];exact f) (by rw[d];exact⟨_,w,q⟩)
 ·have d:(k+(m.toArray.size:Int)).toNat=j:=by
   rw[a! oM g]at a;rw[zI,<- c];exact yD a
  exact ki_setBack b oM (by rw[zI,<- c];exact g) oM (by rw[d];exact⟨_,w,q⟩)
theorem sf(a b:Option Int)(n:Nat):(ĸ a b Á n).1=((HT.Pd n 0 a:Nat):Int)/\(ĸ a b Á n).2.1=((HT.Pd n n b:Nat):Int)/\(ĸ a b Á n).2.2=1:=by
 refine⟨?_,?_,rfl⟩
 ·cases a with
  |none=>simp[ĸ,HT.Pd]
  |some i =>
   simp only[ĸ,HT.Pd,Q4,show(1:Int) > 0 by decide,if_true];by_cases h:i<0
   ·simp only[h,if_true]<;>lia
   ·simp only[h,if_false]<;>lia
 ·cases b with
  |none=>simp[ĸ,HT.Pd]
  |some i =>
   simp only[ĸ,HT.Pd,Q4,show(1:Int) > 0 by decide,if_true];by_cases h:i<0
   ·simp only[h,if_true]<;>lia
   ·simp only[h,if_false]<;>lia
theorem qY(O4:List Å)(a b:Option Int):Q! O4.toArray a b Á=((O4.drop (HT.Pd O4.length 0 a)).take (HT.Pd O4.length O4.length b-HT.Pd O4.length 0 a)).toArray:=by
 obtain⟨e,d,c⟩:=sf a b O4.toArray.size;unfold Q!;rw[e,d,c];simp only[sliceRange_one,pick_run,zI]<;>rfl
def Me(K:Þ):V->Option Int->Option Int->Hp->VK->Prop:=fun x lo hi H Q=>∃a xs,x=.ref a/\bR K H a xs/\∀p,H p=Á->Q (.ref p) (ah H p (.lst (qd xs lo hi)))
theorem Dx:Pa X (Me X.K):=by
 intro y s m H x v p n e f t Q I rx l j i h;obtain⟨a,c,rfl,k,q⟩:=h;cases rx;obtain⟨w,r,g,hz⟩:=I.list k;have d:=r.length;refine⟨"list",_,slot_list_getitem.lookup,g.isList.typeIs,?_⟩;refine L! g.isList l j i .none (by simp) ?_ (by rw[zI]<;>lia);rw[qY,<- d];refine⟨.ref s.heap.objs.size,_,I.laid (t':=s.toks) (o:=.lst (qd c e f)) (fun b u q=>zG _ q) (zP _) ?_,rfl,q _ (I.O8.fresh (zP _))⟩;exact⟨z5 (uw c e f) hz,_,0,(r.drop (HT.Pd c.length 0 e)).take (HT.Pd c.length c.length f-HT.Pd c.length 0 e),zY _ rfl⟩
theorem lT:c4 X (.builtin "len") (fun xs H Q=>∃p ys,xs=[.ref p]/\(bR X.K H p ys\/iz X.K H p ys)/\Q (.int ys.length) H):=by
 intro j s f H xs g Q I r h;obtain⟨p,ys,rfl,b,q⟩:=h;obtain⟨u,rfl,rx⟩:=eY r;cases rx;have i:=il;rcases b with b|b
 ·obtain⟨e,c,d,hz⟩:=I.list b
  have a:=c.length;exact Calls.call_len_list d.isList (by simp only[zI]<;>lia) ⟨.int ys.length,H,I.tok _,⟨s.toks+1,by rw[zI,a]⟩,q⟩
 ·obtain⟨e,c,d,hz⟩:=I.tuple b
  have a:=c.length;exact len_tuple d (by simp only[zI]<;>lia) ⟨.int ys.length,H,I.tok _,⟨s.toks+1,by rw[zI,a]⟩,q⟩
theorem tX:c4 X (.builtin "len") (fun xs H Q=>∃z,xs=[.str z]/\z.length<=Ì/\Q (.int z.length) H):=by
 intro d s a H xs b Q I r h;obtain⟨z,rfl,hz,q⟩:=h;obtain⟨u,rfl,t,rfl⟩:=eY r;have c:=il;exact len_str oM ⟨.int z.length,H,I.tok _,⟨_,rfl⟩,q⟩
theorem tW:c4 X (.type "list") (fun xs H Q=>∃p ys,xs=[.ref p]/\(bR X.K H p ys\/iz X.K H p ys)/\∀l,H l=Á->Q (.ref l) (ah H l (.lst ys))):=by
 intro x s w H xs y Q I r h;obtain⟨p,ys,rfl,i,q⟩:=h;obtain⟨u,rfl,rx⟩:=eY r;cases rx;have aw:∀(c:List Å),Vals ys c->ys.length<=Ì->∀(a:è)(f:Nat),(∀b v,s.heap.get? b=À v->a.get? b=À v) ->
   a.get? s.heap.objs.size=À { cls:=.type "list",dict:=Á,data:=.seq c.toArray f,slots:=#[] }->EP X x w Q (.ref s.heap.objs.size) { s with heap:=a }:=fun c d hz a f g e =>
  ⟨.ref s.heap.objs.size,_,I.laid (t':=s.toks) g (zP _) (show ObjOk X.prog X.w _ a _ (.lst ys) from ⟨hz,c,f,d,e⟩),rfl,q _ (I.O8.fresh (zP _))⟩
 rcases i with i|i
 ·obtain⟨c,d,k,hz⟩:=I.list i
  have j:=d.length;obtain⟨o,m,t,n,hd⟩:=k.isList;exact call_list_seq p (.inl rfl) m t hd (fun a f g e=>aw c d hz a f g e) (by simp only[zI]<;>lia)
 ·obtain⟨c,d,k,hz⟩:=I.tuple i
  have j:=d.length;obtain⟨o,m,t,n,hd⟩:=k;exact call_list_seq p (.inr rfl) m t hd (fun a f g e=>aw c d hz a f g e) (by simp only[zI]<;>lia)
def xt(K:Þ)(T:String)(x:V)(H:Hp):Prop:=match x with
 |.str _=>T="str"
 |.int _=>T="int"
 |.ref p=>(T="list"/\∃xs,bR K H p xs)\/(T="tuple"/\∃o,K.lookup p=À o/\o.cls=.type "tuple"/\o.dict=Á) \/
   (T="dict"/\((∃O1,H p=À (.dK O1))\/∃O1,H p=À (.dT O1)))\/(T="set"/\∃S n,H p=À (.set S n))
 |_=>False
theorem xr(I:Inv X O0 σ H s)(r:RelV x v)(d:xt X.K T x H) :
  s.TypeIs v T/\∀a,v=.ref a->∃ob,s.heap.get? a=À ob/\ob.dict=Á:=by
 cases x with
 |str z =>
  obtain ⟨t,rfl⟩:=r;cases (show T="str" from d);exact ⟨typeIs_str s z t,fun _ e=>nomatch e⟩
 |int i =>
  obtain ⟨t,rfl⟩:=r;cases (show T="int" from d);exact ⟨W5 s i t,fun _ e=>nomatch e⟩
 |ref p =>
  cases r;rcases d with⟨rfl,l,h⟩|⟨rfl,o,b,j,hd⟩|⟨rfl,b⟩|⟨rfl,S,n,b⟩
  ·obtain⟨m,_,g,_⟩:=I.list h
   refine⟨g.isList.typeIs,fun a e=>?_⟩;cases e;obtain⟨o,n,e,c,hd,_⟩:=g;exact⟨o,e,hd⟩
  ·refine⟨⟨o,I.kIn p o b,j⟩,fun a e=>?_⟩
   cases e;exact⟨o,I.kIn _ o b,hd⟩
  ·have z:∃o,s.heap.get? p=À o/\o.ExactDict:=by
    rcases b with⟨k,b⟩|⟨k,b⟩
    ·obtain⟨_,_,_,_,o,_,_,e,ex,_⟩:=I.O8 p _ b
     exact⟨o,e,ex⟩
    ·obtain⟨_,_,_,_,o,_,_,e,ex,_⟩:=I.O8 p _ b
     exact⟨o,e,ex⟩
   obtain⟨o,e,ex⟩:=z;refine⟨⟨o,e,ex.1⟩,fun a f=>?_⟩;cases f;exact⟨o,e,ex.2.1⟩
  ·obtain⟨o,_,_,_,e,ex,_⟩:=I.O8 p _ b
   refine⟨⟨o,e,ex.1⟩,fun a f=>?_⟩;cases f;exact⟨o,e,ex.2.1⟩
 |_=>exact False.elim d
def L7(K:Þ)(T:String)(r:V->List V->Hp->VK->Prop)(to:TE):TE:=fun σ H Q=>to σ H fun x H1=>xt K T x H1/\r x [] H1 Q
def K3(K:Þ)(T:String)(r:V->List V->Hp->VK->Prop)(to:TE)(t:TA):TE:=fun σ H Q=>to σ H fun x H1=>xt K T x H1/\t σ H1 fun xs H2=>r x xs H2 Q
variable{o e:Î}{es:List Î}{to:TE}{t:TA}{name:Í}{apos cpos:ė}{T id:String}{r:V->List V->Hp->VK->Prop}
theorem GY(m:D! T)(c:Slot T name id)(d:typeOf (.builtin id)=pure (.type "method_descriptor"))(p:lZ X id r)(n:PE X o to)
  (b:Ė o name X.env (eval o X.env)=eval o X.env:=by rfl) (a:(apos.endLine==cpos.line)=Â:=by rfl):PE X (.Call (.Attribute o name apos) [] [] cpos) (L7 X.K T r to):=by
 intro g s f H Q I h;refine wpAny_Call_method0_late b a (ar (n g s f H _ I h) fun v k e=>?_);obtain⟨x,u,i,r1,j,l⟩:=e;obtain⟨t,q⟩:=xr i r1 j;exact⟨T,id,m,c,d,t,q,Calls.callWith_builtin rfl (PySem.evalArgs_none (p g k f u x [] v [] Q i r1 .nil l))⟩
theorem JH(A:D! T)(d:Slot T name id)(i:typeOf (.builtin id)=pure (.type "method_descriptor"))(D:lZ X id r)(C:PE X o to)(E:PA X (e::es) t)
  (c:Ė o name X.env (eval o X.env)=eval o X.env:=by rfl)
  (f:((õ cpos (Ê (e::es) X.env)).all (fun x=>!x.1)&&(ō cpos (đ [] X.env)).all (fun x=>x.1.isSome)
   && decide ((e::es).length+([]:List Ŏ).length+(if([]:List Ŏ).isEmpty then 0 else 1)<30))=Â:=by rfl)
  (b:(apos.endLine==cpos.line)=Â:=by rfl) (B:Ê (e::es) X.env=(Ã,eval e X.env)::Ê es X.env:=by rfl) (a:(õ cpos (Ê es X.env)).any (·.1)=Ã:=by rfl) :
  PE X (.Call (.Attribute o name apos) (e::es) [] cpos) (K3 X.K T r to t):=by
 intro k s g H Q I h;refine wpAny_Call_method_late c f b rfl (ar (C k s g H _ I h) fun v w j=>?_);obtain⟨x,L,m,r1,q,z⟩:=j;obtain⟨G,F⟩:=xr m r1 q;refine⟨T,id,A,d,i,G,F,?_⟩;have l:=E cpos k w g L _ m z;rw[B]at l ⊢;refine Calls.callWith_builtin (by show(Ã||(õ cpos (Ê es X.env)).any (·.1))=Ã;rw[a]<;>rfl) (Calls.evalArgs_plain ?_);exact ar l fun p u ⟨n,K,J,r2,y⟩=>D k u g K x n v p Q J r1 r2 y
end
def Dc(X:Cx)(id:String)(r:V->List V->Hp->VK->Prop):Prop :=
 ∀(O0:List (Ç×Obj))(s:É)(σ:St)(H:Hp)(x:V)(xs:List V)(v:Å)(us:List Å)(Q:VK),Inv X O0 σ H s->RelV x v->Vals xs us->r x xs H Q ->
  Ï (model X.prog X.w) X.A (call (.builtin id) (v::us)) (EP X O0 σ Q) X.xe s
theorem Vals.one{x:V}{us:List Å}(h:Vals [x] us):∃u,us=[u]/\RelV x u:=by
 cases h with
 |cons r h=>cases h;exact⟨_,rfl,r⟩
theorem Vals.zero:∀{us:List Å},Vals [] us->us=[]
 |_,.nil=>rfl
theorem Vals.dropLast(h:Vals xs us):Vals xs.dropLast us.dropLast:=by
 induction h with
 |nil=>exact .nil
 |cons r t a =>
  cases t with
  |nil=>exact .nil
  |cons q b=>exact .cons r a
theorem Vals.eraseIdx:∀{xs:List V}{us:List Å} (i:Nat),Vals xs us->Vals (xs.eraseIdx i) (us.eraseIdx i)
 |_,_,_,.nil=>.nil
 |_,_,0,.cons _ t=>t
 |_,_,i+1,.cons r t=>.cons r (Vals.eraseIdx i t)
theorem Vals.reverse(h:Vals xs us):Vals xs.reverse us.reverse:=by
 induction h with
 |nil=>exact .nil
 |cons r t a=>rw[Ţ,Ţ];exact Vals.append a (.cons r .nil)
theorem Vals.rep(h:Vals xs us):∀k:Nat,Vals (È k xs).flatten (È k us).flatten
 |0=>.nil
 |k+1=>by
  rw[ë,ë,Ĉ,Ĉ];exact Vals.append h (Vals.rep h k)
theorem wY{α:Type}(l:List α):l.eraseIdx (l.length-1)=l.dropLast:=by
 induction l with
 |nil=>rfl
 |cons a r c =>
  cases r with
  |nil=>rfl
  |cons b r =>
   have e:(a::b::r).length-1=((b::r).length-1)+1:=by
    have f:(a::b::r).length=r.length+2:=rfl;have d:(b::r).length=r.length+1:=rfl;lia
   rw[e,List.eraseIdx_cons_succ,c]
   all_goals rfl
theorem qC{α:Type}:∀(l:List α)(i:Nat),(l.eraseIdx i).length<=l.length
 |[],_=>zP _
 |_::_,0=>ž _
 |_::r,i+1=>Nat.succ_le_succ (qC r i)
theorem qK(O4:List Å):∀(k:Nat)(acc:List Å),
  Q9 (fun x1 x2=>x1++x2) acc.toArray (È k O4.toArray)=(acc++(È k O4).flatten).toArray
 |0,acc=>by simp
 |k+1,acc=>by
  have e:acc.toArray++O4.toArray=(acc++O4).toArray:=by simp
  have a:(acc++O4)++(È k O4).flatten=acc++(È (k+1) O4).flatten:=by
   rw[ë,Ĉ,yM]
  rw[<- a,<- qK O4 k (acc++O4),<- e,ë,â]
section
variable{X:Cx}{O0:List (Ç×Obj)}{σ:St}{H:Hp}{s:É}{l b:Ç}{xs ys zs:List V}
theorem Inv.lset{O4 its':List Å}{n:Nat}{f:Array Å->Array Å}{t':Nat}(I:Inv X O0 σ H s)(g:H l=À (.lst xs))
  (e:s.heap.get? l=À { cls:=.type "list",data:=.seq O4.toArray n }) (c:f O4.toArray=its'.toArray) (a:Vals ys its') (hz:ys.length<=Ì) :
  Inv X O0 σ (ah H l (.lst ys)) { s with heap:=s.heap.update l (Ğ f),toks:=t' }:=by
 have q:=PySem.IsL.update e f;rw[c]at q;refine I.write (x:=l) (e:=l) (by rw[g];exact trivial) (.inl rfl) (fun h u d b=>(w! s.heap (Ğ f) (æ d)).trans b) ⟨_,q⟩ ?_;exact⟨hz,its',_,a,q⟩
theorem Inv.lnew{t':Nat}(I:Inv X O0 σ H s)(a:Vals ys O4)(hz:ys.length<=Ì) :
  Inv X O0 σ (ah H s.heap.objs.size (.lst ys)) { s with heap:=s.heap.push { cls:=.type "list",data:=.seq O4.toArray },toks:=t' } :=
 I.laid (fun _ _ q=>zG _ q) (zP _) ⟨hz,O4,0,a,zY _ rfl⟩
theorem Inv.fresh(I:Inv X O0 σ H s):H s.heap.objs.size=Á:=I.O8.fresh (zP _)
theorem Inv.lstM(I:Inv X O0 σ H s)(a:H l=À (.lst xs)):xs.length<=Ì/\∃(O4:List Å)(n:Nat),Vals xs O4/\xs.length=O4.length/\s.heap.get? l=À { cls:=.type "list",data:=.seq O4.toArray n }:=by
 obtain⟨z,O4,n,r,e⟩:=I.O8 l _ a;exact⟨z,O4,n,r,r.length,e⟩
theorem notLongL{n:Nat}(h:n<=Ì):ò n=Ã:=by
 unfold ò;exact z9 oM
end
section
variable{X:Cx}
def DC:V->List V->Hp->VK->Prop:=fun x vs H Q=>∃l xs y,x=.ref l/\vs=[y]/\H l=À (.lst xs)/\xs.length<Ì/\Q .non (ah H l (.lst (xs++[y])))
theorem qz:Dc X "list.append" DC:=by
 intro m s f H x i v j Q I rx c h;obtain⟨l,g,y,rfl,rfl,a,hz,q⟩:=h;cases rx;obtain⟨u,rfl,d⟩:=c.one;obtain⟨z,b,n,r,k,e⟩:=I.lstM a;refine Ŗ F.slot_list_append ⟨_,e,rfl⟩ F.entry_list_append (F.args_list_append_2 _ _) (PySem.list_append l b.toArray n u (by rw[zI];lia)) ⟨e,?_⟩;refine⟨.non,_,I.lset (its':=b++[u]) a e (by simp) (r.append (.cons d .nil)) ?_,rfl,q⟩;rw[zV,ģ];lia
def Mh:V->List V->Hp->VK->Prop:=fun x vs H Q=>∃l xs y,x=.ref l/\vs=[]/\H l=À (.lst xs)/\xs[xs.length-1]?=À y/\Q y (ah H l (.lst xs.dropLast))
theorem He:Dc X "list.pop" Mh:=by
 intro w s m H x p v t Q I rx f h;obtain⟨l,o,y,rfl,rfl,d,i,q⟩:=h;cases rx;have c:=f.zero;subst c;obtain⟨z,a,n,r,k,e⟩:=I.lstM d;obtain⟨u,j,g⟩:=r.get i;have b:a.toArray[a.toArray.size-1]?=À u:=by
  show a.toArray[a.length-1]?=À u;rw[<- x?,<- k];exact j
 refine Ŗ F.slot_list_pop ⟨_,e,rfl⟩ F.entry_list_pop (F.args_list_pop_1 _) (MeetsSeq.list_pop_last l a.toArray n u b (by rw[zI];lia)) ⟨e,?_⟩;refine⟨y,_,I.lset (its':=a.dropLast) d e ?_ r.dropLast ?_,g,q⟩
 ·show a.toArray.eraseIdxIfInBounds (a.toArray.size-1)=a.dropLast.toArray
  rw[zI,ϥ,wY]
 ·rw[List.length_dropLast]
  lia
def Mf:R2:=fun x y H Q=>∃l k xs,x=.ref l/\y=.int k/\H l=À (.lst xs)/\-(2^63)<=k/\k<2^63/\xs.length*k.toNat<=Ì /\
 ∀p,H p=Á->Q (.ref p) (ah H p (.lst (È k.toNat xs).flatten))
theorem EH{α:Type}(xs:List α)(k:Nat):(È k xs).flatten.length=k*xs.length:=by
 induction k with
 |zero=>simp
 |succ k a=>rw[ë,Ĉ,zV,a,E!,Nat.add_comm]
theorem G2:lY X (Ź .Mult) Mf:=by
 intro L s G H x y v u Q I rx w h;obtain⟨l,k,J,rfl,rfl,B,D,C,hz,q⟩:=h;cases rx;obtain⟨t,rfl⟩:=w;obtain⟨z,b,n,r,A,e⟩:=I.lstM B;have f:b.toArray.size*k.toNat<=Ì:=by rw[zI,<- A];exact hz
 have i:¬b.toArray.size*k.toNat > (2^63-1)/8:=by
  have:(Ì:Nat)<=(2^63-1)/8:=by decide
  lia
 have g:¬(!Builtin.List.listFitsIndex k)=Â:=by
  rw[fitsIndex_both D C];exact Ĝ
 have c:¬ò (b.toArray.size*k.toNat)=Â:=by
  rw[notLongL f];exact Ĝ
 have d:Q9 (fun o j=>o++j) #[] (È (if b.toArray.isEmpty=Â then 0 else k.toNat) b.toArray)=(È k.toNat b).flatten.toArray:=by
  have E:∀m:Nat,Q9 (fun o j=>o++j) #[] (È m b.toArray)=(È m b).flatten.toArray:=fun m=>by
   have:=qK b m []
   rw[List.nil_append]at this;exact this
  rw[E];cases b with
  |nil=>simp
  |cons a K=>rw[yG (by simp)]
 refine wpAny_binaryOp_repeat_ref (T:="list") (U:="int") dC ⟨_,e,rfl⟩ (fun p=>W5 p k t) noFill_list_mul F.fills_int_mul F.slot_int_rmul repeat_list F.slot_int_index.lookup
  (Ŗ F.slot_int_rmul (W5 s k t) F.entry_int_rmul (F.args_int_rmul_2 _ _) (int___rmul___int_list k t l b.toArray n)
   ⟨e,rfl,⟨_,e,rfl⟩,Ŗ F.slot_list_mul ⟨_,e,rfl⟩ F.entry_list_mul (F.args_list_mul_2 _ _) (AutoListH.list___mul___list_int_3 l b.toArray n k t g i c) ⟨e,?_⟩⟩)
 rw[d];exact⟨.ref _,_,I.lnew (t':=s.toks) (r.rep k.toNat) (by rw[EH,Nat.mul_comm];exact hz),rfl,q _ I.fresh⟩
end
end L2
namespace Att
open PySem PySem.W PySem.Calls PyProof.Rows
theorem oS:∀(ns:List Int)(vs:List Å),WellAll P h vs (ns.map WData.int)->ţ vs ns:=by
 intro ns
 induction ns with
 |nil =>
  intro vs w;rw[Ń]at w;cases w;exact .nil
 |cons n ns c =>
  intro vs w;rw[zO]at w;cases w with
  |cons a b =>
   cases a;exact .cons _ _ (c _ b)
theorem xJ{l:OpenLaw}{n:Nat}(s:l.most=À n){P:Params}{h:è}{args:List WData}{b:List Å}
  (c:l.row.toRowW.claim.pre args=Â) (i:WellAll P h b args) :
  ∃a vs ns,b=[î a]/\args=[WData.list (ns.map WData.int)]/\h.get? a=À { cls:=.type "list",data:=.seq vs.toArray }/\ţ vs ns/\ns.length<=n:=by
 have j:WShape.hasAll [] args [.list .int]=Â:=(pre_splitW c).1;have k:l.pre.holds [] { args:=args }=Â:=(pre_splitW c).2;obtain⟨d,r,rfl,v,u⟩:=hasAllW_cons j;obtain rfl:=hasAllW_nil u;obtain⟨w,rfl,t⟩:=hasW_list v;obtain⟨ns,rfl⟩:=items_int t;have e:ns.length<=n:=by
  unfold OpenLaw.pre at k;have g:(WTm.not (.lt (.lit (.int (n:Int))) (.len (.arg 0)))).holds [] { args:=[.list (ns.map .int)] }=Â:=by
   have g:=(holds_andW k).1;rw[s]at g;exact g
  have f:=condW_of g (w_not (w_lt w_lit (w_len_list (w_arg rfl))));rw[zH]at f;refine U9 fun q=>?_
  have p:(n:Int)<((ns.length:Nat):Int):=by lia
  first
   | (rw [yV p] at f;exact absurd f dC)
   | (simp at f;lia)
 cases i with
 |cons o m =>
  cases m;cases o with
  |list ho hall=>exact⟨_,_,ns,rfl,rfl,ho,oS ns _ hall,e⟩
theorem xV(l:OpenLaw)(args:List WData):l.row.toRowW.claim.post args (.bool Â) args=Â :=
 postW_of (r:=l.row.toRowW) (X:=(Â==Â))
  (show WShape.has [] (.bool Â) .bool=Â by first | rfl | decide | simp [WShape.has,WShape.arms,WShape.armsAll])
  (show (WTm.eq .res (.lit (.bool Â))).value [] { args:=args,res:=À (.bool Â),after:=args }=À (.bool (Â == Â)) from w_eq_bool (w_res rfl) w_lit) rfl
theorem attach_call{l:OpenLaw}{n:Nat}{q:Ò}{cj:List Í}{v:(Í->Option Å)->è->Prop}{u:Ú->è->Prop}{d:DefRec}
  (A:l.most=À n) (j:d.params.defaults=[])
  (call:∀(w:Ú)(s₀ s₁:É)(mg mb:Í->Option Å)(fa:Ç)(o:Y9)(pm cd doc:Å)(a:Ç)(vs:List Å)(ns:List Int),
   Ground q cj [] v w s₀ mg mb s₁.heap->u w s₁.heap ->
   s₁.heap.get? fa=À o->o.data=.func (docDef d.name d.params d.body d.scope pm cd doc)->s₁.heap.CodeRec cd d.name->mg d.name=À (.ref fa) ->
   s₁.heap.get? a=À { cls:=.type "list",data:=.seq vs.toArray }->ţ vs ns->ns.length<=n->s₁.gens=#[] ->
   Ō (model l.prog w) ż (.call (.ref fa) ⟨[.ref a],[]⟩) (fun r s'=>r=.ok (.ret (.bool Â))/\OldK s₁.heap s'.heap/\s'.os=s₁.os/\ϊ s'.gens) s₁) :
  WalkO q cj v u l.row.toRowW d [] (fun f vs=>O? f vs):=by
 intro w s₀ s₁ mg mb G Y fa o pm cd doc I kV z hd k s i D t m J c p x h C;obtain rfl:I=.none:=Dflts.none s j;obtain rfl:kV=.none:=Dflts.noKw s;obtain⟨a,vs,ns,rfl,rfl,e,b,g⟩:=xJ A c h;refine enter_call (Š (call w s₀ s₁ mg mb fa o pm cd doc a vs ns G Y z (fd_plain hd) k i e b g D) fun r s' y=>?_);obtain⟨rfl,H,F,E⟩:=y;exact⟨.inl ⟨.bool Â,.bool Â,[],rfl,fun _=>rfl,.bool Â,xV l _,fun _=>⟨Ŷ,fun _ B=>(nomatch B)⟩⟩,H,F,E⟩
end Att
namespace L2
open PySem PySem.Spec PyProof.Rows
theorem xo:∀{vs:List Å}{ns:List Int},ţ vs ns->Vals (ns.map V.int) vs:=by
 intro vs ns h
 induction h with
 |nil=>exact .nil
 |cons n t h a=>exact .cons ⟨t,rfl⟩ a
noncomputable def cS(s:ľ):ϡ:=match s with
 |.FunctionDef _ a _ _ _ _ _ _ _ _=>a
 |_=>{ posonlyargs:=[],args:=[],vararg:=Á,kwonlyargs:=[],kw_defaults:=[],kwarg:=Á,defaults:=[] }
noncomputable def cR(s:ľ):List ľ:=match s with
 |.FunctionDef _ _ b _ _ _ _ _ _ _=>b
 |_=>[]
noncomputable def bU(s:ľ):ĝ:=match s with
 |.FunctionDef _ _ _ _ _ _ sc _ _ _=>sc
 |_=>{ kind:=.function,names:=[],isGenerator:=Ã,isCoroutine:=Ã }
abbrev fj:l8:=fun _ _ _ _ _ _=>False
abbrev E0:XK:=fun _ _ _=>False
theorem oz:iA fj X E0:=fun _ _ _ _ _ _ _ h=>h.elim
structure Fun(K:Þ)(x qual:Í)(st:ľ)(f:Ç)(fd:Ē):Prop where
 ex:∃(oc:Å)(od:Option Ç)(kV doc pm:Å)(an:Option Ç)(cdv ct:Å)(osl:Array (Option Å)),
  fd=fnOf x qual (cS st) (cR st) (bU st) .none kV doc pm an cdv ct/\K.lookup f=À ⟨oc,od,.func fd,osl⟩/\ϕ K cdv qual=Â
 kp:Ĺ K (.ref f)=Â
section
variable{P:Ò}{w:Ú}{K:Þ}{mg:Í->Option Å}{base:è}
theorem Fun.binds{x qual:Í}{st:ľ}{f:Ç}{fd:Ē}{ps:List Í}(F:Fun K x qual st f fd)
  (h:∀(kV doc pm:Å)(an:Option Ç)(cdv ct:Å)(us:List Å),us.length=ps.length->B? (fnOf x qual (cS st) (cR st) (bU st) .none kV doc pm an cdv ct) ⟨us,[]⟩=pure (ps.zip us)):Binds K fd ps []:=by
 obtain⟨d,c,kV,doc,pm,an,cdv,ct,a,rfl,lk,b⟩:=F.ex;exact .all (h kV doc pm an cdv ct)
theorem o8{x qual:Í}{st:ľ}{f:Ç}{h:Å}{g e:Option Ç}{d:Array (Option Å)}{kV b pm a ct:Å}(l:K.lookup f=À ⟨h,g,.func (fnOf x qual (cS st) (cR st) (bU st) .none kV b pm e a ct),d⟩)
  (c:ϕ K a qual=Â) (k:Ĺ K (.ref f)=Â):Fun K x qual st f (fnOf x qual (cS st) (cR st) (bU st) .none kV b pm e a ct):=⟨⟨h,g,kV,b,pm,e,a,ct,d,rfl,l,c⟩,k⟩
end
theorem qw{n:Nat}(h:n<=1000):n<Ì:=yL h dC
end L2
set_option maxHeartbeats 4000000
namespace DD
open PySem PySem.Spec PyProof.Rows L2
abbrev St:=L2.St
section
variable{X:Cx}{e:Î}{es:List Î}{st:ľ}{sts:List ľ}
theorem PE_imp(h:PE X e t)(i:∀σ H Q,t' σ H Q->t σ H Q):PE X e t':=fun b s σ H Q I a=>h b s σ H Q I (i σ H Q a)
theorem PT_imp(h:PT X e t)(i:∀σ H Q,t' σ H Q->t σ H Q):PT X e t':=fun b s σ H Q I a=>h b s σ H Q I (i σ H Q a)
theorem PW_imp(h:PW X e t)(i:∀σ H Q,t' σ H Q->t σ H Q):PW X e t':=fun a c s σ H Q I b=>h a c s σ H Q I (i σ H Q b)
theorem PA_imp(h:PA X es t)(i:∀σ H Q,t' σ H Q->t σ H Q):PA X es t':=fun p b s σ H Q I a=>h p b s σ H Q I (i σ H Q a)
theorem PS_imp(h:PS X st t)(i:∀D σ H,t' D σ H->t D σ H):PS X st t':=fun b s σ H D I a=>h b s σ H D I (i D σ H a)
theorem PSs_imp(h:PSs X sts t)(i:∀D σ H,t' D σ H->t D σ H):PSs X sts t':=fun b s σ H D I a=>h b s σ H D I (i D σ H a)
theorem OpR_imp(h:lY X f r)(i:∀x y H Q,r' x y H Q->r x y H Q):lY X f r':=fun e s c H x y v u Q I a b d=>h e s c H x y v u Q I a b (i x y H Q d)
end
theorem PG_imp(h:PG X tg t)(i:∀v σ H Q,t' v σ H Q->t v σ H Q):PG X tg t':=fun c s σ H v u Q I a b=>h c s σ H v u Q I a (i v σ H Q b)
end DD
namespace L2
open PySem PySem.Spec PyProof.Rows
theorem pq:∀(names:List (Í×NameKind))(n:Nat)(acc:List (Í×Addr)),∃own,ď n names acc=own++acc/\(∀p∈own,n<=p.2/\(p.1,Ę)∈names) /\
  (∀x,(x,Ę)∈names->∃c,(x,c)∈own)/\own.Pairwise fun x y=>x.2≠y.2
 |[],n,acc=>⟨[],rfl,(fun _ h=>by cases h),(fun _ h=>by cases h),Ŷ⟩
 |(name,kind)::r,n,acc=>by
  unfold ď;by_cases hk:kind=.cell
  ·subst hk
   obtain⟨own,e,h1,h2,h3⟩:=pq r (n+1) ((name,n)::acc);refine⟨own++[(name,n)],?_,?_,?_,?_⟩
   ·rw[yH dC,e,yM];rfl
   ·intro p f
    rcases zZ.mp f with f|f
    ·exact⟨ċ (h1 p f).1,zQ _ (h1 p f).2⟩
    ·rw[zM.mp f];exact⟨zP _,z7⟩
   ·intro x d
    rcases zT.mp d with d|d
    ·cases d;exact⟨n,zK _ z7⟩
    ·obtain⟨c,j⟩:=h2 x d;exact⟨c,zL _ j⟩
   ·refine List.pairwise_append.mpr ⟨h3,List.pairwise_singleton _ _,fun a l b k e=>?_⟩
    rw[zM.mp k]at e;have i:=(h1 a l).1;rw[show a.2=n from e]at i;exact absurd i (Nat.not_succ_le_self n)
  ·obtain⟨own,e,h1,h2,h3⟩:=pq r n acc
   have g:(kind==Ę)=Ã:=by cases kind<;>first|rfl|exact absurd rfl hk
   refine⟨own,by rw[g];exact e,fun p f=>⟨(h1 p f).1,zQ _ (h1 p f).2⟩,fun x d=>?_,h3⟩;rcases zT.mp d with d|d
   ·cases d;exact absurd rfl hk
   ·exact h2 x d
theorem kM(h:∀x,(x,Ù)∈scope.names->∃c,env.cells.lookup x=À c) :
  ∃cl,W8 scope env=pure cl/\(∀p∈cl,env.cells.lookup p.1=À p.2)/\∀x,(x,Ù)∈scope.names->∃c,(x,c)∈cl:=by
 have all:∀(a:List (Í×NameKind))(b:List (Í×Addr)),(∀x,(x,Ù)∈a->∃c,env.cells.lookup x=À c)->(∀p∈b,env.cells.lookup p.1=À p.2) ->
   ∃cl,(forIn (m:=Y7) a b fun(p:Í×NameKind)(w:List (Í×Addr))=>if(p.2==Ù)=Â then do let f <- cellOf env p.1;pure (į ((p.1,f)::w)) else pure (į w))=pure cl /\
    (∀p∈cl,env.cells.lookup p.1=À p.2)/\(∀p∈b,p∈cl)/\∀x,(x,Ù)∈a->∃c,(x,c)∈cl:=by
  intro a
  induction a with
  |nil=>intro b _ n;exact⟨b,by rw[W0],n,fun _ h=>h,(fun _ h=>by cases h)⟩
  |cons p r u =>
   obtain⟨g,i⟩:=p;intro b q n;by_cases t:i=.free
   ·subst t
    obtain⟨c,v⟩:=q g z7;obtain⟨cl,e,l,o,k⟩:=u ((g,c)::b) (fun x d=>q x (zQ _ d)) (fun p j=>by
     rcases zT.mp j with rfl|j
     ·exact v
     ·exact n p j)
    refine⟨cl,?_,l,fun p j=>o p (zQ _ j),fun x d=>?_⟩
    ·rw[V6]
     have y:cellOf env g=pure c:=by unfold cellOf;rw[v]
     simp only[y];exact e
    ·rcases zT.mp d with d|d
     ·cases d;exact⟨c,o _ z7⟩
     ·exact k x d
   ·obtain⟨cl,e,l,o,k⟩:=u b (fun x d=>q x (zQ _ d)) n
    have s:(i==Ù)=Ã:=by cases i<;>first|rfl|exact absurd rfl t
    refine⟨cl,?_,l,o,fun x d=>?_⟩
    ·rw[V6];simp only[s,yA,if_false];exact e
    ·rcases zT.mp d with d|d
     ·cases d;exact absurd rfl t
     ·exact k x d
 obtain⟨cl,e,l,_,k⟩:=all scope.names [] h (fun _ h=>by cases h);refine⟨cl,?_,l,k⟩;simp only[W8];rw[e];rfl
theorem Bu
  (e:Q (W6 scope s.heap.objs.size env.globals (ď (s.heap.objs.size+1) scope.names cl) env.qual Á .none (À env) ĕ) { s with heap:=Ÿ (s.heap.push { cls:=.type "dict",data:=.dict #[] }) scope.names }) :
  Ï M A (A' scope env.globals cl [] env.qual Á .none (À env)) Q E s:=by
 simp only[A',K!,if_true];refine yE (wpAny_alloc ?_);refine yE (wpAny_layCells _ (fun d a c=>by cases b:a==Ę<;>simp[b]) _ _ _ _ ?_);rw[show({ s with heap:=s.heap.push { cls:=.type "dict",data:=.dict #[] } }:É).heap.objs.size=s.heap.objs.size+1 from Ĩ ..];refine yE ?_;rw[W0];exact yF (yF e)
def cJ(X:Cx)(N':List Í)(scope:ĝ)(cl:List (Í×Addr))(s:É)(H:Hp)(fp:List Ç)(O0:List (Ç×Obj)):Cx :=
 { X with N:=N',s₀:=s,H₀:=H,env:=compEnvC scope (ď (s.heap.objs.size+1) scope.names cl) s.heap.objs.size X.env,outer:=X.stack,stack:=X.stack,ex:=fp,
          fn:=fun x=>scope.names.lookup x==À .cell,pn:=X.pn++O0,xe:=fun _ _=>False }
structure jX(X:Cx)(N':List Í)(scope:ĝ):Prop where
 kind:scope.kind=.function
 nd:(scope.names.map (·.1)).Nodup
 len:X.N.length<=N'.length
 free:∀x,(x,Ù)∈scope.names->X.env.kindOf x=À .cell\/X.env.kindOf x=À .free
 same:∀i x,i<X.N.length->N'[i]?=À x->(x,Ù)∈scope.names->X.N[i]?=À x
 hid:∀i x,i<X.N.length->N'[i]?=À x->(∃k,(x,k)∈scope.names)->(x,Ù)∈scope.names
theorem di{α:Type}:∀{l:List (Í×α)}{x:Í}{k:α},(l.map (·.1)).Nodup->(x,k)∈l->l.lookup x=À k
 |(y,j)::r,x,k,nd,h=>by
  rw[zO,Ŀ]at nd;rcases zT.mp h with h|h
  ·cases h;rw[yN];simp
  ·have ne:x≠y:=fun e=>nd.1 (e▸Ϗ (f:=(·.1)) h)
   rw[yN];have:(x==y)=Ã:=by simpa using ne
   rw[this];exact di nd.2 h
theorem gg{α:Type}:∀{l:List (Í×α)}{x:Í}{k:α},(x,k)∈l->∃k',l.lookup x=À k'
 |(y,j)::r,x,k,h=>by
  rw[yN];cases hb:x==y with
  |true=>exact⟨j,rfl⟩
  |false =>
   rcases zT.mp h with h|h
   ·cases h;simp at hb
   ·exact gg h
theorem g8(h:(relabel scope env).names.lookup x=À k):(x,k)∈scope.names\/((x,Ù)∈scope.names/\k=.cell):=by
 have b:=mem_of_lookup h;unfold relabel at b;obtain⟨⟨n,j⟩,a,e⟩:=yC.mp b;dsimp only at e;split at e
 ·rename_i c
  cases e;refine .inr ⟨?_,rfl⟩;have:j=.free:=by
   cases j<;>simp at c<;>rfl
  subst this;exact a
 ·cases e;exact .inl a
theorem q0{α:Type}{a b:List (Í×α)}(h:∀p∈a,p.1≠x):(a++b).lookup x=b.lookup x:=by
 induction a with
 |nil=>rfl
 |cons p r c =>
  obtain⟨y,j⟩:=p;rw[ϭ,yN];have:(x==y)=Ã:=by
   have:=h (y,j) z7
   simpa using fun e:x=y=>this e.symm
  rw[this];exact c fun p d=>h p (zQ _ d)
section
variable{X:Cx}{N':List Í}{scope:ĝ}{cl:List (Í×Addr)}{s:É}{H:Hp}{fp:List Ç}{O0:List (Ç×Obj)}{σ:St}
theorem BZ(T:jX X N' scope)(I:Inv X O0 σ H s)(O:∀p∈cl,X.env.cells.lookup p.1=À p.2)(Z:∀x,(x,Ù)∈scope.names->∃c,(x,c)∈cl)
  (hf:∀b∈fp,dU X O0 H b) (ho:∀b∈fp,∃o,s.heap.get? b=À o) :
  Inv (cJ X N' scope cl s H fp O0) [] (σ++È (N'.length-X.N.length) Á) H { s with heap:=Ÿ (s.heap.push { cls:=.type "dict",data:=.dict #[] }) scope.names }:=by
 obtain⟨g,N,o1,o2,o3⟩:=pq scope.names (s.heap.objs.size+1) cl;have B:∀b o,s.heap.get? b=À o->(Ÿ (s.heap.push { cls:=.type "dict",data:=.dict #[] }) scope.names).get? b=À o:=fun b o e=>q? _ _ b o (zG _ e)
 have clt:∀x c,(x,c)∈cl->c<s.heap.objs.size:=fun x c h=>by
  obtain⟨v,z⟩:=I.cell x c (O _ h);exact z.lt
 have f:∀x c,(g++cl).lookup x=À c->(s.heap.objs.size+1<=c/\(x,c)∈g)\/X.env.cells.lookup x=À c:=fun x c h=>by
  rcases zZ.mp (mem_of_lookup h) with h|h
  ·exact .inl ⟨(o1 _ h).1,h⟩
  ·exact .inr (O _ h)
 have hst:∀b∈fp,b∉kg X.stack:=fun b J z=>by
  rcases zT.mp (I.stkSub b z) with e|e
  ·exact(hf b J).2.1 e
  ·exact(hf b J).2.2.1 e
 have okc:CellsOk (Ÿ (s.heap.push { cls:=.type "dict",data:=.dict #[] }) scope.names) (s.heap.objs.size+1) (ď (s.heap.objs.size+1) scope.names []):=by
  have q:=cellsFrom_ok scope.names (s.heap.push { cls:=.type "dict",data:=.dict #[] }) (s.heap.objs.size+1) [] ⟨(fun _ _ Y=>by cases Y),Ŷ⟩ (by rw[Ĩ];exact zP _);rw[Ĩ]at q;exact q
 have eown:ď (s.heap.objs.size+1) scope.names []=g:=by
  obtain⟨own',e',_⟩:=pq scope.names (s.heap.objs.size+1) [];have R:∀(A:List (Í×NameKind))(n:Nat)(D:List (Í×Addr)),ď n A D=ď n A []++D:=by
   intro A
   induction A with
   |nil=>intro n D;rfl
   |cons p r V =>
    obtain⟨F,U⟩:=p;intro n D;unfold ď;split
    ·rw[V (n+1) ((F,n)::D),V (n+1) [(F,n)],yM];rfl
    ·exact V n D
  have:=R scope.names (s.heap.objs.size+1) cl
  rw[N]at this;exact(List.append_cancel_right this).symm
 have ok:(cJ X N' scope cl s H fp O0).Ok:=by
  refine⟨I.ok.mod,T.kind,I.ok.glob,I.ok.blt,zP _,fun x y c h1 L=>?_,fun x h=>?_,fun x c h1 L=>?_,I.ok.hd,I.ok.frames,.inl rfl,fun b J=>⟨?_,fun x c h=>?_⟩,I.bs,z5 I.ok.bsz I.sz,fun b o e J=>?_,hst,I.stack,I.stkFree⟩
  ·have h1:(g++cl).lookup x=À c:=N▸h1
   have L:(g++cl).lookup y=À c:=N▸L;rcases f x c h1 with⟨K,S⟩|E
   ·rcases f y c L with⟨l2,m2⟩|M
    ·exact name_of_addr o3 S m2
    ·obtain⟨v,z⟩:=I.cell y c M
     exact absurd (zJ z.lt (ċ (by first|exact l2|exact K))) (y0 _)
   ·rcases f y c L with⟨l2,m2⟩|M
    ·obtain⟨v,z⟩:=I.cell x c E
     exact absurd (zJ z.lt (ċ (by first|exact l2|exact K))) (y0 _)
    ·exact I.ok.inj x y c E M
  ·show ∃c,(ď (s.heap.objs.size+1) scope.names cl).lookup x=À c
   rw[N];have w:(x,Ù)∈scope.names->∃c,(g++cl).lookup x=À c:=fun Y=>by
    obtain⟨c,Q⟩:=Z x Y;exact gg (zK g Q)
   have C:(x,Ę)∈scope.names->∃c,(g++cl).lookup x=À c:=fun Y=>by
    obtain⟨c,Q⟩:=o2 x Y;exact gg (zL cl Q)
   rcases h with h|h
   ·rcases g8 h with h|⟨h,_⟩
    ·exact C h
    ·exact w h
   ·rcases g8 h with h|⟨h,e⟩
    ·exact w h
    ·cases e
  ·have L:(g++cl).lookup x=À c:=N▸L
   have Q:scope.names.lookup x=À .cell:=by
    have:(scope.names.lookup x==À Ę)=Â:=h1;simpa using this
   rcases f x c L with⟨K,S⟩|E
   ·exact ċ K
   ·-- x is one of the block's g: O4 cell stands ahead
    obtain⟨c',P⟩:=o2 x (mem_of_lookup Q);obtain⟨c2,G⟩:=gg P;have:(g++cl).lookup x=À c2:=by
     have R:∀l:List (Í×Addr),l.lookup x=À c2->(l++cl).lookup x=À c2:=by
      intro l
      induction l with
      |nil=>intro h;cases h
      |cons p r V =>
       obtain⟨y,j⟩:=p;intro h;rw[ϭ,yN];rw[yN]at h;cases J:x==y with
       |true=>rw[J]at h;exact h
       |false=>rw[J]at h;exact V h
     exact R g G
    rw[this]at L;cases L;exact ċ (o1 _ (mem_of_lookup G)).1
  ·obtain⟨o,e⟩:=ho b J
   exact zU (yI e)
  ·have h:(g++cl).lookup x=À c:=N▸h
   obtain⟨o,e⟩:=ho b J;have hlt:=yI e;rcases f x c h with⟨K,S⟩|E
   ·intro z
    rw[z]at K;exact absurd (zJ hlt (ċ K)) (y0 _)
   ·exact(hf b J).2.2.2.2.1 x c E
  ·rcases(hf b J).2.2.2.1 with z|z
   ·exact I.ok.noex b o e z
   ·exact absurd (zJ (yI e) (z5 I.ok.bsz z)) (y0 _)
 refine⟨ok,rfl,I.bare,Un.kept B,⟨fun _=>Á,(Heap.Ns.new s.heap (.type "dict")).keeps (q? _ _),fun i x v E M e3=>?_⟩,fun x c h=>?_,I.O8.fresh (zP _),fun x c h=>?_,fun p hp=>?_,I.O8.kept B,?_⟩
 ·-- a F of the code around
  have hlen:=I.len;have hi:i<σ.length:=by
   rcases yT i σ.length with h|h
   ·exact h
   ·rw[z6 h]at M
    rw[ù]at M;split at M<;>cases M
  rw[zN hi]at M;have W:∃k,(x,k)∈scope.names:=by
   have:∃k,(relabel scope X.env).names.lookup x=À k:=by
    rcases e3 with h|h|h<;>exact⟨_,h⟩
   obtain⟨k,h⟩:=this;rcases g8 h with h|⟨h,_⟩<;>exact⟨_,h⟩
  have t:=T.hid i x oM E W;have eX:=T.same i x oM E t;have kX:=T.free x t;obtain⟨m,hn,hl⟩:=I.loc;obtain⟨u,ru,lk⟩:=hl i x v eX M (by rcases kX with h|h;exact .inr (.inl h);exact .inr (.inr h));refine⟨u,ru,.inr ⟨?_,?_⟩⟩
  ·-- O4 U in the block
   have:∃k,(relabel scope X.env).names.lookup x=À k:=by
    rcases e3 with h|h|h<;>exact⟨_,h⟩
   obtain⟨k,h⟩:=this;rcases g8 h with h'|⟨h',e⟩
   ·have e5:=di T.nd h'
    have e6:=di T.nd t;rw[e5]at e6;cases e6;exact .inr h
   ·subst e;exact .inl h
  ·rcases lk with⟨k1,_⟩|⟨_,c,Q,z⟩
   ·rcases kX with h|h<;>rw[h]at k1<;>cases k1
   ·refine⟨c,?_,z.keeps B⟩
    show(ď (s.heap.objs.size+1) scope.names cl).lookup x=À c;rw[N,q0 fun p hp e=>?_]
    ·obtain⟨c',P⟩:=Z x t
     obtain⟨c2,G⟩:=gg P
     have:=O _ (mem_of_lookup G)
     rw[Q]at this;cases this;exact G
    ·have e5:=di T.nd (o1 p hp).2
     rw[e]at e5;have e6:=di T.nd t;rw[e5]at e6;cases e6
 ·have h:(g++cl).lookup x=À c:=N▸h
  rcases f x c h with⟨K,S⟩|E
  ·exact⟨Á,(okc.empty x c (eown▸S)).1⟩
  ·obtain⟨v,z⟩:=I.cell x c E
   exact⟨v,z.keeps B⟩
 ·have h:(g++cl).lookup x=À c:=N▸h
  rcases f x c h with⟨K,S⟩|E
  ·exact I.O8.fresh (ċ K)
  ·exact I.freeC x c E
 ·rw[ó]at hp
  obtain⟨e,n,ne,nf,d⟩:=I.pin p hp;refine⟨B _ _ e,n,zU (yI e),fun z=>?_,d⟩;rcases zT.mp (I.stkSub p.1 z) with z|z
  ·exact ne z
  ·exact nf z
 ·show(σ++È (N'.length-X.N.length) Á).length=N'.length
  rw[zV,ŉ,I.len]
  have:=T.len
  lia
theorem Io(I:Inv X O0 σ H s)(i:∀b∈fp,dU X O0 H b)(g:Inv (cJ X N' scope cl s H fp O0) pins1 σ1 H1 s1)(h:Į s.heap.objs.size s1.heap h') :
  Inv X O0 σ H1 { s1 with heap:=h' }:=by
 have j:∀b o,s.heap.get? b=À o->b≠s.heap.objs.size:=fun b o e=>zU (yI e)
 have u:=g.base;have k:Un (kg X.stack) fp H H1 s.heap h':=by
  refine⟨fun b o e n a d=>?_,fun b o e n a d=>?_,u.free,fun b o e d=>?_,u.tups,u.frzs,u.tbls⟩
  ·rw[h.2 b (j b o e)];exact u.keep b o e n a d
  ·obtain⟨l,q⟩:=u.slot b o e n a d
   exact⟨l,by rw[h.2 b (j b o e)];exact q⟩
  ·obtain⟨m,q⟩:=u.there b o e d
   exact⟨m,by rw[h.2 b (j b o e)];exact q⟩
 have f:H1 s.heap.objs.size=Á:=g.free;refine I.call' (s':={ s1 with heap:=h' }) g.os k (fun b o e=>?_) g.bare fun b a=>⟨(i b a).2.2.2.1,(i b a).2.1,(i b a).2.2.2.2.1,(i b a).2.2.2.2.2⟩
 refine(g.O8 b o e).stay (fun c v p q=>(h.2 c ?_).trans q) (fun _ q=>q) fun _ _ q=>q
 rintro rfl;rcases p with z|z
 ·rw[<- z,f]at e;cases e
 ·rw[f]at z;cases z
def vM(X:Cx)(ifs:List Î)(t:TT):Prop :=
 ∀(O0:List (Ç×Obj))(s:É)(σ:St)(H:Hp)(Q:Bool->Hp->Prop),Inv X O0 σ H s->t σ H Q ->
  Ï (model X.prog X.w) X.A (forIn ifs Â fun c r=>if r=Â then do let ok <- B! c X.env (eval c X.env);pure (į ok) else pure (į r)) (TP X O0 σ Q) X.xe s
theorem Eh:vM X [] (fun _ H Q=>Q Â H):=fun b s a H Q I h=>wpAny_tests_nil ⟨H,I,h⟩
theorem Eg(h:PT X c t):vM X [c] t:=fun d s a H Q I b=>wpAny_tests_one (h d s a H Q I b)
def FC(k:Nat)(wi:TI)(g:TG)(tt:TT)(te:TE):TE:=fun σ H Q=>wi σ H fun J H1=>∀p,H1 p=Á ->
 ∃W:Nat->Nat->St->Hp->Prop,(∃m,W 0 m (σ++È k Á) (ah H1 p (.lst [])))/\∀i m σ' H',W i m σ' H' ->
  (J.stop i H'/\Q (.ref p) H')\/(J.go i H'/\∀x H2,J.yld i H' x H2->g x σ' H2 fun σ2 H3=>tt σ2 H3 fun ok H4=>if ok=Â then
   te σ2 H4 fun y H5=>∃ys,H5 p=À (.lst ys)/\ys.length<Ì/\∃m',m'<m/\W (i+1) m' σ2 (ah H5 p (.lst (ys++[y])))
   else ∃m',m'<m/\W (i+1) m' σ2 H4)
theorem tS(I:Nat->É->Prop)
  (turn:∀n s,I n s->Ï (model prog w) A (z? it) (fun r s₁=>match r with
   |none=>R (.ok .next) s₁
   |some v=>Ï (model prog w) A (ύ target it v) (fun _ s₁'=>Ï (model prog w) A (assign target env v) (fun _ s₂ =>
     Ï (model prog w) A (forIn ifs Â fun c r=>if r=Â then do let ok <- B! c env (eval c env);pure (į ok) else pure (į r)) (fun ok s₃ =>
      if ok=Â then Ï (model prog w) A (eval elt env) (fun x s₄ =>
       Ï (model prog w) A (call (.builtin "list.append") [acc,x]) (fun _ s₅=>∃m,m<n/\I m s₅) (fun _ _=>False) s₄) (fun _ _=>False) s₃
      else ∃m,m<n/\I m s₃) (fun _ _=>False) s₂) (fun _ _=>False) s₁') (fun _ _=>False) s₁) (fun _ _=>False) s)
  (n:Nat) (h:I n s):Ō (model prog w) A (.compLoop (.ListComp elt [⟨target,iter,ifs,0⟩] scope pos) 0 it acc env) R s:=by
 refine codeAny_loop rfl I (fun n s j=>?_) n h;show Ï _ A ((compTurn (.ListComp elt [⟨target,iter,ifs,0⟩] scope pos) 0 it acc env).onRaise (fun x=>do noteFrame x env;theTreesLotGoes x)) _ _ s;refine wpAny_noted ?_;rw[compTurn_list];refine yE (ų (yE (yS (turn n s j) (fun r s₁ d=>?_) fun _ _ a=>a.elim)));cases r with
 |none=>exact yF d
 |some v =>
  refine yE (yS d (fun _ s₁' e=>?_) fun _ _ a=>a.elim);refine yE (yS e (fun _ s₂ i=>yE (yS i (fun ok s₃ b=>?_) fun _ _ a=>a.elim)) fun _ _ a=>a.elim);cases ok with
  |false=>exact yF ⟨rfl,b⟩
  |true =>
   exact yE (yE (yS b (fun x s₄ g=>yE (yS g (fun _ s₅ f=>yF (yF ⟨rfl,f⟩)) fun _ _ a=>a.elim)) fun _ _ a=>a.elim))
theorem sX{elt z S:Î}{B:List Î}{pos:ė}{g:TG}{tt:TT}{te:TE}{J:It}{it:Ç}{tn:Nat->è->Prop}{Q:VK}{E:Å->É->Prop}{RR:Å->Ç->Result->É->Prop}
  (hc:X.calm=Â) (T:jX X N' scope) (hcl:∀p∈cl,X.env.cells.lookup p.1=À p.2) (hfr:∀x,(x,Ù)∈scope.names->∃c,(x,c)∈cl)
  (hg:∀cl s H fp O0,PG (cJ X N' scope cl s H fp O0) S g) (ht:∀cl s H fp O0,vM (cJ X N' scope cl s H fp O0) B tt) (he:∀cl s H fp O0,PE (cJ X N' scope cl s H fp O0) elt te)
  (I:Inv X O0 σ H s) (v:jW X.prog X.w X.K S J fp it tn) (st0:tn 0 s.heap) (hf:∀b∈fp,dU X O0 H b)
  (h:∀p,H p=Á->∃W:Nat->Nat->St->Hp->Prop,(∃m,W 0 m (σ++È (N'.length-X.N.length) Á) (ah H p (.lst [])))/\∀i m σ' H',W i m σ' H' ->
   (J.stop i H'/\Q (.ref p) H')\/(J.go i H'/\∀x H2,J.yld i H' x H2->g x σ' H2 fun σ2 H3=>tt σ2 H3 fun ok H4=>if ok=Â then
    te σ2 H4 fun y H5=>∃ys,H5 p=À (.lst ys)/\ys.length<Ì/\∃m',m'<m/\W (i+1) m' σ2 (ah H5 p (.lst (ys++[y])))
    else ∃m',m'<m/\W (i+1) m' σ2 H4))
  (hRR:∀p C s1 H1,Inv X O0 σ H1 s1->Q (.ref p) H1->(∃m,s1.heap.Ns C m)->H1 C=Á->s.heap.objs.size<=C->RR (.ref p) C (.ok .next) s1) :
  Ï (model X.prog X.w) X.A (newList []) (fun acc s₃=>Ï (model X.prog X.w) X.A (A' scope X.env.globals cl [] X.env.qual Á .none (À X.env)) (fun cenv s₄ =>
   Ō (model X.prog X.w) X.A (.compStart (.ListComp elt [⟨S,z,B,0⟩] scope pos) 0 (.ref it) acc { cenv with scope:=relabel scope X.env }) (RR acc cenv.locals) s₄) E s₃) E s:=by
 refine wpAny_newObj_type (Bu ?_);have Y:H s.heap.objs.size=Á:=I.fresh;obtain⟨W,⟨m0,w0⟩,turn⟩:=h _ Y;have I2:Inv X O0 σ (ah H s.heap.objs.size (.lst [])) { s with heap:=s.heap.push { cls:=.type "list",data:=.seq ([]:List Å).toArray } }:=Inv.lnew (t':=s.toks) (O4:=[]) (ys:=[]) I .nil (Ě _);have D:∀b∈fp,dU X O0 (ah H s.heap.objs.size (.lst [])) b:=fun b f=>by
  obtain⟨o,e,_⟩:=v.obj _ _ st0 b f;exact⟨by rw[ad (zU (yI e))];exact(hf b f).1,(hf b f).2⟩
 have ho2:∀b∈fp,∃o,(s.heap.push { cls:=.type "list",data:=.seq ([]:List Å).toArray }:è).get? b=À o:=fun b f=>by
  obtain⟨o,e,_⟩:=v.obj _ _ st0 b f;exact⟨o,zG _ e⟩
 have R:=BZ T I2 hcl hfr D ho2;have M:tn 0 (Ÿ ((s.heap.push { cls:=.type "list",data:=.seq ([]:List Å).toArray }).push { cls:=.type "dict",data:=.dict #[] }) scope.names) :=
  v.keep _ _ _ st0 fun b f o e=>q? _ _ b o (zG _ (zG _ e))
 generalize t:({ s with heap:=s.heap.push { cls:=.type "list",data:=.seq ([]:List Å).toArray } }:É)=s2 at I2 R;have hC:s.heap.objs.size<=s2.heap.objs.size:=by rw[<- t];exact yY (by show _<(s.heap.push _).objs.size;rw[Ĩ];exact ĳ _)
 have k:∀{H':Hp},(∀b∈fp,H' b=Á)->∀b∈fp,dU (cJ X N' scope cl s2 (ah H s.heap.objs.size (.lst [])) fp O0) [] H' b:=fun {H'} hn b f=>by
  refine⟨hn b f,(R.ok.exf b f).1,R.ok.exfs b f,.inl f,(R.ok.exf b f).2,fun p Y=>?_⟩;rw[ó]at Y;exact(hf b f).2.2.2.2.2 p Y
 have w:∀s4,s4=({ s2 with heap:=Ÿ (s2.heap.push { cls:=.type "dict",data:=.dict #[] }) scope.names }:É) ->
   Ō (model X.prog X.w) X.A (.compLoop (.ListComp elt [⟨S,z,B,0⟩] scope pos) 0 (.ref it) (.ref s.heap.objs.size) (cJ X N' scope cl s2 (ah H s.heap.objs.size (.lst [])) fp O0).env) (RR (.ref s.heap.objs.size) s2.heap.objs.size) s4:=by
  rintro s4 rfl;refine tS (fun n U=>∃i σ' H',Inv (cJ X N' scope cl s2 (ah H s.heap.objs.size (.lst [])) fp O0) [] σ' H' U/\tn i U.heap/\(∀b∈fp,H' b=Á)/\W i n σ' H') ?_ m0
   ⟨0,_,_,R,by subst t;exact M,fun b f=>(D b f).1,w0⟩
  rintro n s3 ⟨i,q,H3,I4,L,O,w4⟩;rcases turn i n q H3 w4 with⟨K,qn⟩|⟨go,step⟩
  ·refine ar (v.done (cJ X N' scope cl s2 (ah H s.heap.objs.size (.lst [])) fp O0) rfl rfl rfl hc i [] s3 q H3 (fun _ _=>False) I4 (k O) L K) fun r s5 a=>?_
   obtain⟨hr,I5⟩:=a;subst hr;obtain⟨m,hn,_⟩:=I5.loc;exact hRR _ _ s5 H3 (Io I2 D I5 (i? _ _)) qn ⟨m,hn⟩ I5.free hC
  ·refine ar (v.item (cJ X N' scope cl s2 (ah H s.heap.objs.size (.lst [])) fp O0) rfl rfl rfl hc i [] s3 q H3 (fun _ _=>False) I4 (k O) L go) fun r s5 a=>?_
   obtain⟨u,hr,h5⟩:=a;subst hr;refine ar h5 fun _ s6 a=>?_
   obtain⟨x,H6,I6,r6,y6,A,fr6⟩:=a;have I6':=I6.pinned (k fr6) (v.obj _ _ A);have l:∀{j:St}{G:Hp}{F:É}{m':Nat},Inv (cJ X N' scope cl s2 (ah H s.heap.objs.size (.lst [])) fp O0) ([]++gz fp s6.heap) j G F->m'<n->W (i+1) m' j G ->
     ∃m,m<n/\∃i σ' H',Inv (cJ X N' scope cl s2 (ah H s.heap.objs.size (.lst [])) fp O0) [] σ' H' F/\tn i F.heap/\(∀b∈fp,H' b=Á)/\W i m σ' H':=fun {j G F m'} P N w7=>by
    refine⟨m',N,i+1,j,G,P.unpinned,v.keep _ _ _ A fun b f o e=>(P.pin (b,o) (zK _ (zK _ (dA f e)))).1,fun b f=>?_,w7⟩;obtain⟨o,e,d⟩:=v.obj _ _ A b f;exact(P.pin (b,o) (zK _ (zK _ (dA f e)))).2.1
   refine ar (hg _ _ _ _ _ _ s6 q H6 x u _ I6' r6 (step x H6 y6)) fun _ F a=>?_
   obtain⟨j,G,P,q7⟩:=a;refine ar (ht _ _ _ _ _ _ F j G _ P q7) fun ok s8 a=>?_
   obtain⟨H8,I8,V⟩:=a;cases ok with
   |false =>
    simp only[yA,if_false]at V ⊢;obtain⟨m',N,w8⟩:=V;exact l I8 N w8
   |true =>
    simp only[if_true]at V ⊢;refine ar (he _ _ _ _ _ _ s8 j H8 _ I8 V) fun y s9 a=>?_
    obtain⟨Z,H9,I9,r9,ys,e9,l9,m',N,w9⟩:=a;refine ar (qz _ s9 j H9 (.ref s.heap.objs.size) [Z] (.ref s.heap.objs.size) [y] (fun _ H'=>H'=ah H9 s.heap.objs.size (.lst (ys++[Z]))) I9 rfl (.cons r9 .nil) ⟨_,ys,Z,rfl,rfl,e9,l9,rfl⟩) fun _ s10 a=>?_
    obtain⟨_,H10,I10,_,e10⟩:=a;subst e10;exact l I10 N w9
 have st5:tn 0 (Ÿ (s2.heap.push { cls:=.type "dict",data:=.dict #[] }) scope.names):=by subst t;exact M
 have aw:=codeAny_compStart_list (w _ rfl) (v.self X.A 0 _ _ (notedBy (model X.prog X.w) X.A (cJ X N' scope cl s2 (ah H s.heap.objs.size (.lst [])) fp O0).env fun x U=>RR (.ref s.heap.objs.size) s2.heap.objs.size (.error x) U) st5 (w _ rfl));subst t;exact aw
end
section
variable{X:Cx}{N':List Í}{scope:ĝ}{O0:List (Ç×Obj)}{σ:St}{elt iter tg:Î}{ifs:List Î}{pos:ė}{wi:TI}{g:TG}{tt:TT}{te:TE}
theorem sV(T:jX X N' scope):∀x∈scope.names,x.2=.local->scope.names.lookup x.1=À .local:=fun x a e=>by
 obtain⟨n,k⟩:=x;cases e;exact di T.nd a
theorem JF(G:X.calm=Â)(T:jX X N' scope)(E:PI X tg iter wi)(F:∀cl s H fp O0,PG (cJ X N' scope cl s H fp O0) tg g)(y:∀cl s H fp O0,vM (cJ X N' scope cl s H fp O0) ifs tt)
  (he:∀cl s H fp O0,PE (cJ X N' scope cl s H fp O0) elt te) (A:∀x,ô iter X.env x=pure x:=by intro _;rfl) :
  PE X (.ListComp elt [⟨tg,iter,ifs,0⟩] scope pos) (FC (N'.length-X.N.length) wi g tt te):=by
 intro O0 s r H Q I h;obtain⟨cl,d,l,k⟩:=kM (scope:=scope) (env:=X.env) fun x w=>I.ok.has x (T.free x w)
 rw[eval_ListComp];refine L? (use:=Á) rfl A d T.kind (sV T) (yS (E O0 s r H _ I h) (fun V Z N=>yS N (fun u Y M=>?_) fun _ _ e=>e) fun _ _ e=>e);obtain⟨it,fp,W,J,H2,rfl,f,P,i,O,R⟩:=M;refine sX (Q:=Q) (RR:=fun n C=>compPost (model X.prog X.w) X.A X.xe Á (EP X O0 r Q) n C) G T l k F y he f P i O R ?_;rintro p C t U S q ⟨m,D⟩ L a;refine⟨m,D,fun h' j=>⟨.ref p,U,?_,rfl,q⟩⟩;refine S.turned (t':=t.toks) (it:=C) (fun b o K e=>(j.2 b K).trans e) L ?_ (.inr (z5 f.sz a)) (fun x c e=>?_) fun p B=>?_
 ·exact æ (zU (zJ f.lt a))
 ·obtain⟨v,z⟩:=f.cell x c e
  exact zU (zJ z.lt a)
 ·exact zU (zJ (yI (f.pin p B).1) a)
theorem xT{i:Nat}(hN:X.N.Nodup)(E:X.N[i]?=À y)(t:Loc X.env.scope y)(u:Ľ (.ListComp elt [⟨tg,iter,ifs,0⟩] scope pos) (À (.Name y py)) spos.line X.env=pure Â)
  (hc:X.calm=Â) (T:jX X N' scope) (Y:PI X tg iter wi) (Z:∀cl s H fp O0,PG (cJ X N' scope cl s H fp O0) tg g) (P:∀cl s H fp O0,vM (cJ X N' scope cl s H fp O0) ifs tt)
  (he:∀cl s H fp O0,PE (cJ X N' scope cl s H fp O0) elt te) (S:∀x,ô iter X.env x=pure x:=by intro _;rfl) (hf:X.fn y=Â\/X.env.scope.names.lookup y=À .local:=by first|exact .inl rfl|exact .inr rfl|assumption) :
  PS X (.Assign [.Name y py] (.ListComp elt [⟨tg,iter,ifs,0⟩] scope pos) spos) (wc (FC (N'.length-X.N.length) wi g tt te) (oZ i)):=by
 intro O0 s L H D I h;obtain⟨cl,f,G,F⟩:=kM (scope:=scope) (env:=X.env) fun x t=>I.ok.has x (T.free x t)
 rw[exec_Assign_Name_used _ _ _ _ u];refine yE (ų (yE ?_));show Ï _ X.A (do let _ <- comprehension (.ListComp elt [⟨tg,iter,ifs,0⟩] scope pos) scope X.env _ (newList []) Ã (eval iter X.env) (À (assign (.Name y py) X.env))) _ _ s;refine yE (yS (L? (use:=À (assign (.Name y py) X.env)) (Q:=fun _ n=>SP X O0 D .next n) rfl S f T.kind (sV T)
  (yS (Y O0 s L H _ I h) (fun xv s1 h1=>yS h1 (fun O s2 h2=>?_) fun _ _ e=>e) fun _ _ e=>e)) (fun _ n U=>yF (yF U)) fun _ _ e=>e)
 obtain⟨it,fp,tn,J,H2,rfl,l,Tn,r,f2,R⟩:=h2;refine sX (Q:=fun x H1=>oZ i x L H1 D.nx) (RR:=fun K C=>compPost (model X.prog X.w) X.A X.xe (À (assign (.Name y py) X.env)) (fun _ n=>SP X O0 D .next n) K C) hc T G F Z P he l Tn r f2 R ?_;rintro p C s3 H3 I3 q ⟨m,W⟩ hC d;have k:C≠X.env.locals:=æ (zU (zJ l.lt d));have j:∀x c,X.env.cells.lookup x=À c->c≠C:=fun x c e=>by
  obtain⟨v,z⟩:=l.cell x c e;exact zU (zJ z.lt d)
 show Ï _ X.A (assign (.Name y py) X.env (.ref p)) _ _ _;refine X5 (qv (v:=.ref p) I3 hN E t rfl (fun N I4 A=>?_) hf);obtain⟨a,M,ha⟩:=A;have B:C≠a:=by
  rcases ha with e|e
  ·rw[e];exact k
  ·exact(j _ _ e).symm
 refine⟨m,W.sameBut M B,fun h' w=>⟨_,H3,?_,q⟩⟩;refine I4.turned (t':=N.toks) (it:=C) (fun b o hb e=>(w.2 b hb).trans e) hC k (.inr (z5 l.sz d)) j fun p V=>?_
 exact zU (zJ (yI (l.pin p V).1) d)
end
end L2
namespace DD
open PySem PySem.Spec PyProof.Rows L2
section
variable{X:Cx}{O0:List (Ç×Obj)}{σ:St}{H:Hp}{s:É}{F:Ç->Prop}
theorem obj_list(I:L2.Inv X O0 σ H s)(h:bR X.K H a vs):∃O4 o n,Vals vs O4/\s.heap.get? a=À o/\o.cls=.type "list"/\o.data=.seq O4.toArray n:=by
 obtain⟨O4,r,⟨o,n,e,c,_,d⟩,_⟩:=I.list h;exact⟨O4,o,n,r,e,c,d⟩
theorem obj_tup(I:L2.Inv X O0 σ H s)(h:iz X.K H a vs):∃O4 o n,Vals vs O4/\s.heap.get? a=À o/\o.cls=.type "tuple"/\o.data=.seq O4.toArray n:=by
 obtain⟨O4,r,⟨o,e,c,n,d⟩,_⟩:=I.tuple h;exact⟨O4,o,n,r,e,c,d⟩
end
noncomputable def pyOk(p q:Ņ):Bool:=p.canLay0&&q.canLay0&&decide (min p.depth q.depth<=50)
end DD
namespace L2
open PySem PySem.Spec PyProof.Rows
def LF(K:Þ)(a b:Ç):It :=
 ⟨fun i H=>∃xs ys x y,bR K H a xs/\bR K H b ys/\xs[i]?=À x/\ys[i]?=À y,
  fun i H x H'=>∃p u w,(∀xs,bR K H a xs->xs[i]?=À u)/\(∀ys,bR K H b ys->ys[i]?=À w)/\H p=Á/\H'=ah H p (.tup [u,w])/\x=.ref p,
  fun i H=>∃xs ys,bR K H a xs/\bR K H b ys/\(xs.length<=i\/ys.length<=i)⟩
theorem Inv.turnT{X:Cx}{O0:List (Ç×Obj)}{σ:St}{H:Hp}{s:É}{h':è}{ch:List Ç}{u w:V}{x y:Å}(I:Inv X O0 σ H s)(g:∀b∈ch,dU X O0 H b)(l:RelV u x)(j:RelV w y)
  (i:∀c o,c∉ch->s.heap.get? c=À o->h'.get? c=À o) (B:IsPair h' s.heap.objs.size x y) (p:∀b∈ch,∃o,h'.get? b=À o):Inv X O0 σ (ah H s.heap.objs.size (.tup [u,w])) { s with heap:=h' }:=by
 have a:H s.heap.objs.size=Á:=I.fresh;have h:∀b o,H b=À o->b∉ch:=fun b o e f=>by rw[(g b f).1]at e;cases e
 have ne:∀b o,s.heap.get? b=À o->b≠s.heap.objs.size:=fun b o e=>zU (yI e)
 refine I.step (g':=s.gens) (d':=s.drawn) (t':=s.toks) (ch:=ch) (fun b f=>⟨(g b f).2.2.2.1,(g b f).2.1,(g b f).2.2.2.2.1,(g b f).2.2.2.2.2⟩) (fun b o _ _ d e _=>i b o d e)
  (fun b o _ _ d e _=>⟨o.slots,i b o d e⟩) (fun b o _ e n=>by rw[ad (ne b o e)];exact n) (fun b o d e=>⟨o,i b o d e⟩) (fun b k e=>by rw[ad (bt e a)];exact e)
  (fun b o v e=>by rw[ad (bt e a)];exact e) (fun b E e=>⟨#[],by rw[ad (bt e a),e];simp⟩) (fun m A=>?_) (fun b o e=>?_) I.bare
 ·obtain⟨o,C,D,t,r⟩:=A
  exact⟨o,C,D,i _ o (fun z=>(g _ z).2.1 rfl) t,r⟩
 ·by_cases f:b=s.heap.objs.size
  ·subst f
   rw[aD]at e;cases e;refine⟨by show 2<=Ì;decide,[x,y],.cons l (.cons j .nil),⟨_,B,rfl,_,rfl⟩⟩
  ·rw[ad f]at e
   refine(I.O8 b o e).stay (fun c v d q=>i c v ?_ q) (fun c q=>by rw[ad (bt q a)];exact q) fun c k q=>by rw[ad (bt q a)];exact q
   rcases d with rfl|d
   ·exact h _ _ e
   ·exact h _ _ d
theorem Inv.turnN{X:Cx}{O0:List (Ç×Obj)}{σ:St}{H:Hp}{s:É}{h':è}{ch:List Ç}(I:Inv X O0 σ H s)(d:∀b∈ch,dU X O0 H b)
  (h:∀c o,c∉ch->s.heap.get? c=À o->h'.get? c=À o):Inv X O0 σ H { s with heap:=h' }:=by
 have g:∀b o,H b=À o->b∉ch:=fun b o e f=>by rw[(d b f).1]at e;cases e
 refine I.step (g':=s.gens) (d':=s.drawn) (t':=s.toks) (ch:=ch) (fun b f=>⟨(d b f).2.2.2.1,(d b f).2.1,(d b f).2.2.2.2.1,(d b f).2.2.2.2.2⟩) (fun b o _ _ a e _=>h b o a e)
  (fun b o _ _ a e _=>⟨o.slots,h b o a e⟩) (fun b o _ e n=>n) (fun b o a e=>⟨o,h b o a e⟩) (fun b i e=>e)
  (fun b o v e=>e) (fun b t e=>⟨#[],by rw[e];simp⟩) (fun m k=>?_) (fun b o e=>?_) I.bare
 ·obtain⟨o,l,p,j,r⟩:=k
  exact⟨o,l,p,h _ o (fun z=>(d _ z).2.1 rfl) j,r⟩
 ·refine(I.O8 b o e).stay (fun c v a q=>h c v ?_ q) (fun c q=>q) fun c i q=>q
  rcases a with rfl|a
  ·exact g _ _ e
  ·exact g _ _ a
theorem dw(I:Inv X O0 σ H s)(h:bR X.K H a xs)(j:dU X O0 H b)(d:∃o,s.heap.get? b=À o/\o.cls≠.type "list"):a≠b:=by
 rintro rfl;obtain⟨k,r,⟨o,n,e,c,_⟩,_⟩:=I.list h;obtain⟨i,f,g⟩:=d;rw[e]at f;cases f;exact g c
theorem AB{P:Ò}{w:Ú}{K:Þ}{Y:List Î}{x1:Nat}{O:ė}(a b z TI TO g f:Ç)(D1:TI≠z)(D2:TO≠z)(D3:g≠z)(D4:f≠z)(D5:TI≠TO)(D6:TI≠g)(D7:TI≠f)(D8:TO≠g)(D9:TO≠f)(D10:g≠f) :
  jW P w K (.Tuple Y x1 O) (LF K a b) [z,TI,TO,g,f] z (fun i h=>IsZip h z TI TO .none/\IsPair h TI (.ref g) (.ref f)/\(∃u v,IsPair h TO u v)/\h.IsListIter g a i/\h.IsListIter f b i) where
 mem:=by simp
 obj:=fun i h hq0 c d=>by
  obtain⟨hz,l,⟨u,v,j⟩,⟨o1,B,c1,d1⟩,⟨o2,A,c2,d2⟩⟩:=hq0;simp only[zT,zX,or_false]at d;rcases d with rfl|rfl|rfl|rfl|rfl
  ·exact⟨_,hz,fun v z=>nomatch z⟩
  ·exact⟨_,l,fun v z=>nomatch z⟩
  ·exact⟨_,j,fun v z=>nomatch z⟩
  ·exact⟨_,B,fun v z=>by rw[d1]at z;cases z⟩
  ·exact⟨_,A,fun v z=>by rw[d2]at z;cases z⟩
 keep:=fun i h N ⟨hz,l,⟨u,v,j⟩,F,C⟩ k=>⟨k z (by simp) _ hz,k TI (by simp) _ l,⟨u,v,k TO (by simp) _ j⟩,F.at fun o e=>k g (by simp) o e,C.at fun o e=>k f (by simp) o e⟩
 item:=by
  rintro X hP hw hK d i Z s σ H E I M ⟨hz,l,⟨ua,ub,j⟩,F,C⟩ ⟨xs,ys,x,y,n,m,hx,hy⟩;subst hP hw hK;obtain⟨T,J,p1,_⟩:=I.list n;obtain⟨S,G,p2,_⟩:=I.list m;obtain⟨u1,hu1,ru1⟩:=J.get hx;obtain⟨u2,hu2,ru2⟩:=G.get hy;have R:∀c∈[z,TO,g,f],∃o,s.heap.get? c=À o/\o.cls≠.type "list":=fun c d=>by
   obtain⟨o1,B,c1,d1⟩:=id F;obtain⟨o2,A,c2,d2⟩:=id C;simp only[zT,zX,or_false]at d;rcases d with rfl|rfl|rfl|rfl
   ·exact⟨_,hz,by simp⟩
   ·exact⟨_,j,by simp⟩
   ·exact⟨_,B,by rw[c1];simp⟩
   ·exact⟨_,A,by rw[c2];simp⟩
  have t:∀c∈[z,TO,g,f],a≠c:=fun c d=>dw I n (M c (by simp at d ⊢;rcases d with h|h|h|h<;>simp[h])) (R c d)
  have r:∀c∈[z,TO,g,f],b≠c:=fun c d=>dw I m (M c (by simp at d ⊢;rcases d with h|h|h|h<;>simp[h])) (R c d)
  have D:ZipApart z TI TO g f a b:=⟨D1,D2,D3,D4,D5,D6,D7,D8,D9,D10,t z (by simp),t TO (by simp),t g (by simp),t f (by simp),r z (by simp),r TO (by simp),r g (by simp),r f (by simp)⟩;refine wpAny_pyNext_zip_item D hz l j F C p1.isList p2.isList (x:=u1) (y:=u2) (by simpa using hu1) (by simpa using hu2) fun N a1 a2 a3 a4 a5 a6 hk=>?_
  have p:∀c∈[z,TO,g,f],dU X Z H c:=fun c d=>M c (by simp at d ⊢;rcases d with h|h|h|h<;>simp[h])
  have U:∀c o,c∉[z,TO,g,f]->s.heap.get? c=À o->N.get? c=À o:=fun c o d e=>hk c o (fun q=>d (by simp[q])) (fun q=>d (by simp[q])) (fun q=>d (by simp[q])) (fun q=>d (by simp[q])) e
  have I1:Inv X Z σ (ah H s.heap.objs.size (.tup [x,y])) { s with heap:=N }:=I.turnT p ru1 ru2 U a5 (fun c d=>by
   obtain⟨o1,B,_⟩:=id a3;obtain⟨o2,A,_⟩:=id a4;simp only[zT,zX,or_false]at d;rcases d with rfl|rfl|rfl|rfl
   ·exact⟨_,a1⟩
   ·exact⟨_,a2⟩
   ·exact⟨_,B⟩
   ·exact⟨_,A⟩)
  have hfr:H s.heap.objs.size=Á:=I.fresh;refine⟨_,rfl,wpAny_letOwnedTupleGo_zip (s:={ s with heap:=N }) a1 fun h'' z1 Q=>?_⟩;have V:∀c∈[z,TI,TO,g,f],(ah H s.heap.objs.size (.tup [x,y])) c=Á:=fun c d=>by
   have lt:c<s.heap.objs.size:=by
    obtain⟨o1,B,_⟩:=id F;obtain⟨o2,A,_⟩:=id C;simp only[zT,zX,or_false]at d;rcases d with rfl|rfl|rfl|rfl|rfl
    ·exact yI hz
    ·exact yI l
    ·exact yI j
    ·exact yI B
    ·exact yI A
   rw[ad (zU lt)];exact(M c d).1
  have I2:Inv X Z σ (ah H s.heap.objs.size (.tup [x,y])) { s with heap:=h'' }:=Inv.turnN (s:={ s with heap:=N }) (ch:=[z]) I1 (fun c d=>by
   have:c=z:=by simpa using d
   subst this;exact⟨V c (by simp),(M c (by simp)).2⟩) (fun c o d e=>(Q.2 c (fun q=>d (by simp[q]))).trans e)
  refine⟨.ref s.heap.objs.size,_,I2,rfl,⟨_,x,y,fun zs L=>by rw[I.list_inj L n];exact hx,fun zs L=>by rw[I.list_inj L m];exact hy,hfr,rfl,rfl⟩,⟨z1,?_,⟨u1,u2,?_⟩,?_,?_⟩,V⟩
  ·exact(Q.2 TI D1).trans (U TI _ (by simp[D1,D5,D6,D7]) l)
  ·exact(Q.2 TO D2).trans a2
  ·exact a3.at fun o e=>(Q.2 g D3).trans e
  ·exact a4.at fun o e=>(Q.2 f D4).trans e
 done:=by
  rintro X hP hw hK d i Z s σ H E I M ⟨hz,l,⟨ua,ub,j⟩,F,C⟩ ⟨xs,ys,n,m,W⟩;subst hP hw hK;obtain⟨T,J,p1,_⟩:=I.list n;obtain⟨S,G,p2,_⟩:=I.list m;have R:∀c∈[z,TO,g,f],∃o,s.heap.get? c=À o/\o.cls≠.type "list":=fun c d=>by
   obtain⟨o1,B,c1,d1⟩:=id F;obtain⟨o2,A,c2,d2⟩:=id C;simp only[zT,zX,or_false]at d;rcases d with rfl|rfl|rfl|rfl
   ·exact⟨_,hz,by simp⟩
   ·exact⟨_,j,by simp⟩
   ·exact⟨_,B,by rw[c1];simp⟩
   ·exact⟨_,A,by rw[c2];simp⟩
  have p:∀c∈[z,TO,g,f],dU X Z H c:=fun c d=>M c (by simp at d ⊢;rcases d with h|h|h|h<;>simp[h])
  have t:∀c∈[z,TO,g,f],a≠c:=fun c d=>dw I n (p c d) (R c d)
  have r:∀c∈[z,TO,g,f],b≠c:=fun c d=>dw I m (p c d) (R c d)
  have D:ZipApart z TI TO g f a b:=⟨D1,D2,D3,D4,D5,D6,D7,D8,D9,D10,t z (by simp),t TO (by simp),t g (by simp),t f (by simp),r z (by simp),r TO (by simp),r g (by simp),r f (by simp)⟩;have hl1:=J.length;have hl2:=G.length;refine wpAny_pyNext_zip_end (I.ok.hd d) D hz l j F C p1.isList p2.isList (by rcases W with h|h;(left;simp;lia);(right;simp;lia)) fun N hk=>⟨rfl,?_⟩
  exact I.turnN p fun c o d e=>hk c o (fun q=>d (by simp[q])) (fun q=>d (by simp[q])) (fun q=>d (by simp[q])) (fun q=>d (by simp[q])) e
 self:=fun _ _ _ _ _ ⟨hz,_⟩ h=>Y1 hz h
def Mz(K:Þ)(ta:TA):TI:=fun σ H R=>ta σ H fun vs H1=>∃a b,vs=[.ref a,.ref b]/\(∃xs,bR K H1 a xs)/\(∃ys,bR K H1 b ys)/\R (LF K a b) H1
theorem GL{C:Nat}(S:Gl X "zip")(P:X.mg "zip"=Á)(T:PA X [a,b] ta)(O:Ê [a,b] X.env=[(Ã,eval a X.env),(Ã,eval b X.env)]:=by rfl)(f:Ê [b] X.env=[(Ã,eval b X.env)]:=by rfl) :
  PI X (.Tuple elts C tpos) (.Call (.Name "zip" p) [a,b] [] pos) (Mz X.K ta):=by
 intro A s u H R I h;refine I? (dB I S P boot_zip (Ó (ar (T pos A s u H _ I h) fun us d ⟨vs,B,i,r1,G⟩=>?_) (by rw[O,f]) (by rw[f];rfl)));obtain⟨M,L,e,⟨xs,m⟩,⟨ys,l⟩,q⟩:=G;subst e;cases r1 with
 |cons r j =>
  cases j with
  |cons F j =>
   cases j;cases r;cases F;obtain⟨w,E,K,_⟩:=i.list m;obtain⟨v,D,J,_⟩:=i.list l;refine call_zip_2 K.isList J.isList fun y hz t o V U N Q=>?_
   have I2:Inv X A u B { d with heap:=y }:=i.kept (t':=d.toks) Q;refine Y1 (s:={ d with heap:=y }) hz ?_;have lt:∀k:Nat,d.heap.objs.size<=d.heap.objs.size+k:=fun k=>ϱ _ _
   refine⟨_,[d.heap.objs.size+4,d.heap.objs.size+2,d.heap.objs.size+3,d.heap.objs.size,d.heap.objs.size+1],_,_,B,rfl,I2,
    AB M L (d.heap.objs.size+4) (d.heap.objs.size+2) (d.heap.objs.size+3) d.heap.objs.size (d.heap.objs.size+1) ?_ ?_ ?_ ?_ ?_ ?_ ?_ ?_ ?_ ?_,⟨hz,t,⟨_,_,o⟩,V,U⟩,fun c x=>?_,q⟩
   all_goals first
    | (show _ + _ ≠ _ + _;intro z;exact absurd (Nat.add_left_cancel z) dC)
    | (show _ ≠ _ + _;intro z;exact absurd z (by have:=ů (n:=d.heap.objs.size) (k:=4) dC;have:=ů (n:=d.heap.objs.size) (k:=1) dC;exact zU (by assumption)))
    | (show _ + _ ≠ _;exact Ĳ (ů dC))
    |skip
   have g:d.heap.objs.size<=c:=by
    simp only[zT,zX,or_false]at x;rcases x with rfl|rfl|rfl|rfl|rfl
    ·exact lt 4
    ·exact lt 2
    ·exact lt 3
    ·exact zP _
    ·exact lt 1
   obtain⟨f0,f1,f2,Z,Y,W⟩:=i.fpOk g (i.O8.fresh g);exact⟨f0,f1,f2,Z,Y,W⟩
theorem BN:Cb X (fun o i H Q=>∃p xs k v,o=.ref p/\i=.int k/\bR X.K H p xs/\gJ xs k=À v/\Q v H):=by
 rintro D s g H o i E F Q I h l ⟨p,xs,k,v,B,A,m,u,q⟩;subst B A;cases h;obtain⟨t,rfl⟩:=l;obtain⟨C,r,d,hz⟩:=I.list m;obtain⟨j,a,z,J,y,x⟩:=mK u;obtain⟨w,f,b⟩:=r.get z;have n:=r.length;have G:=il;have aw:EP X D g Q w s:=⟨v,H,I,b,q⟩;by_cases e:0<=k
 ·have c:k.toNat=j:=by
   rw[j! e x]at a;exact yD a
  exact wpAny_getItem_list d.isList e oM (by rw[c];simpa using f) aw
 ·have c:(k+(C.toArray.size:Int)).toNat=j:=by
   rw[a! oM y]at a;rw[zI,<- n];exact yD a
  exact S3 d.isList oM (by rw[zI]<;>lia) oM (by rw[c];simpa using f) aw
end L2
namespace DD
open PySem PySem.Spec PyProof.Rows L2
section
variable{X:Cx}{e o a b:Î}{es:List Î}{p q:DP}{c c':DE}{pos apos cpos:ė}{i:Nat}{js:List DP}
theorem cnt_vals{h:è}{q:Ņ}{e:Å->Bool}(he:∀v p as,Ų h v p as->e v=Õ p q):∀{vs:List Å}{ps:List Ņ}{as:List Ç},a? h vs ps as->vs.countP e=ps.countP fun r=>Õ r q:=by
 intro vs
 induction vs with
 |nil=>intro ps as h;cases h;rfl
 |cons v vs b =>
  intro ps as h;cases h with
  |cons r a=>rw[U',U',b a,he _ _ _ r]
theorem reads_each{h:è}:∀{vs:List Å}{ps:List Ņ}{as:List Ç},a? h vs ps as->∀v∈vs,∃p as',p∈ps/\Ų h v p as':=by
 intro vs
 induction vs with
 |nil=>intro ps as h v a;cases a
 |cons v vs c =>
  intro ps as h v a;cases h with
  |cons r b =>
   rcases zT.mp a with rfl|a
   ·exact⟨_,_,z7,r⟩
   ·obtain⟨p,as',d,h⟩:=c b v a
    exact⟨p,as',zQ _ d,h⟩
noncomputable def minL:List Int->Option Int
 |[]=>Á
 |x::xs=>À (xs.foldl (fun a b=>if b<a then b else a) x)
theorem minF:∀(xs:List Int)(x:Int),(xs.foldl (fun a b=>if b<a then b else a) x∈x::xs)/\∀a∈x::xs,xs.foldl (fun a b=>if b<a then b else a) x<=a
 |[],x=>⟨by simp,by simp⟩
 |y::xs,x=>by
  obtain⟨h1,h2⟩:=minF xs (if y<x then y else x);rw[â];constructor
  ·rcases zT.mp h1 with h|h
   ·rw[h];split<;>simp
   ·simp[h]
  ·intro a c
   have d:=h2 (if y<x then y else x) (by simp);have f:(if y<x then y else x)<=x:=by split<;>lia
   have e:(if y<x then y else x)<=y:=by split<;>lia
   rcases zT.mp c with rfl|c
   ·exact Ň d f
   ·rcases zT.mp c with rfl|c
    ·exact Ň d e
    ·exact h2 a (by simp[c])
theorem minL_eq{m M:Int}(h:minL ns=À m)(b:M∈ns)(d:∀a∈ns,M<=a):M=m:=by
 cases ns with
 |nil=>cases b
 |cons x c =>
  cases h;obtain⟨g1,e⟩:=minF c x;have a1:=e M b;have a2:=d _ g1;lia
end
section
variable{X:Cx}{e o a b:Î}{es:List Î}{p q:DP}{c c':DE}{pos apos cpos:ė}{i:Nat}{js:List DP}
theorem any_vals{h:è}{q:Ņ}{e:Å->Bool}(he:∀v p as,Ų h v p as->e v=Õ p q):∀{vs:List Å}{ps:List Ņ}{as:List Ç},a? h vs ps as->vs.any e=ps.any fun r=>Õ r q
 |_,_,_,.nil=>rfl
 |_,_,_,.cons r rs=>by rw[Ũ,Ũ,any_vals he rs,he _ _ _ r]
end
end DD
namespace L2
open PySem PySem.Spec PyProof.Rows
def At(K:Þ)(a:Ç)(n0:Nat):It :=
 ⟨fun i H=>∃xs x,bR K H a xs/\xs[i]?=À x,
  fun i H x H'=>∃p u,(∀xs,bR K H a xs->xs[i]?=À u)/\H p=Á/\H'=ah H p (.tup [.int ((n0+i:Nat):Int),u])/\x=.ref p,
  fun i H=>∃xs,bR K H a xs/\xs.length=i⟩
theorem qN(k:A.handled=Á)(it l:Ç)(d:l≠it)(a:Array Å)(n0:Nat) :
  Draws prog w A it [it,l] (n0+a.size) (fun i v=>n0<=i/\a[i-n0]?=À v) (fun i h=>n0<=i/\h.IsListIter it l (i-n0)/\h.IsList l a) where
 live:=fun _ _ q=>by obtain⟨o,j,_⟩:=q.2.1;exact⟨o,j⟩
 frame:=fun _ _ _ q g=>⟨q.1,q.2.1.at fun o e=>g it (by simp) o e,q.2.2.at fun o e=>g l (by simp) o e⟩
 item:=fun i s Q E r q m=>by
  have f:i-n0<a.size:=by have:=q.1;lia
  refine wpAny_nextOf_list_item q.2.1 q.2.2 (x:=a[i-n0]) (by simp[f]) fun p c b=>?_
  refine m _ p s.toks ⟨q.1,by simp[f]⟩ ⟨Nat.le_succ_of_le q.1,?_,q.2.2.extBut b.extBut d⟩ b;rw[show i+1-n0=i-n0+1 by have:=q.1;lia];exact c
 done:=fun s Q E q n=>wpAny_nextOf_list_end k q.2.1 q.2.2 (by simp) n
theorem xw{P:Ò}{w:Ú}{K:Þ}{y:List Î}{x1:Nat}{n:ė}(a z it:Ç)(n0:Nat)(D:z≠it) :
  jW P w K (.Tuple y x1 n) (At K a n0) [z,it] z (fun i h=>(∃old,IsEnum h z it ((n0+i:Nat):Int) old)/\h.IsListIter it a i) where
 mem:=by simp
 obj:=fun i h S c b=>by
  obtain⟨⟨old,hz⟩,⟨F,d,J,d1⟩⟩:=S;simp only[zT,zX,or_false]at b;rcases b with rfl|rfl
  ·exact⟨_,hz,fun v z=>nomatch z⟩
  ·exact⟨_,d,fun v z=>by rw[d1]at z;cases z⟩
 keep:=fun i h l ⟨⟨old,hz⟩,g⟩ k=>⟨⟨old,k z (by simp) _ hz⟩,g.at fun o e=>k it (by simp) o e⟩
 item:=by
  rintro X Z R hK b i B s C H E I f ⟨⟨old,hz⟩,g⟩ ⟨xs,x,j,hx⟩;subst Z R hK;obtain⟨L,M,N,_⟩:=I.list j;obtain⟨u,hu,ru⟩:=M.get hx;have na:a≠z:=dw I j (f z (by simp)) ⟨_,hz,by simp⟩;have O:a≠it:=dw I j (f it (by simp)) (by obtain⟨F,d,J,d1⟩:=id g;exact⟨_,d,by rw[J];simp⟩);have V:i<L.length:=(zB.mp hu).1;refine wpAny_pyNext_enum_itemD (qN (A:=X.A.in1) (I.ok.hd b) it a O L.toArray n0) hz ⟨ϱ _ _,by rw[Ű];exact g,N.isList⟩ (by simp[V]) D (by simp[D,na.symm]) fun v l m hv ho p hT hsz U=>?_
  have ev:v=u:=by
   have G:=hv.2;rw[Ű]at G;simp only[G?]at G;rw[hu]at G;exact(yD G).symm
  subst ev;have Y:∀c∈[z,it],dU X B H c:=fun c b=>f c b
  have T:∀c o,c∉[z,it]->s.heap.get? c=À o->l.get? c=À o:=fun c o b e=>U c o (fun q=>b (by simp[q])) (fun q=>b (by simp[q])) e
  have I0:Inv X B C (ah H s.heap.objs.size (.tup [.int ((n0+i:Nat):Int),x])) { s with heap:=l }:=I.turnT Y (u:=.int ((n0+i:Nat):Int)) ⟨m,rfl⟩ ru T hT (fun c b=>by
   obtain⟨F,d,_⟩:=id p.2.1;simp only[zT,zX,or_false]at b;rcases b with rfl|rfl
   ·exact⟨_,ho⟩
   ·exact⟨_,d⟩)
  have I1:Inv X B C (ah H s.heap.objs.size (.tup [.int ((n0+i:Nat):Int),x])) { s with heap:=l,toks:=m+1 }:=I0.kept (t':=m+1) (fun _ _ e=>e);have W:H s.heap.objs.size=Á:=I.fresh;refine⟨_,rfl,wpAny_letOwnedTupleGo_enum (s:={ s with heap:=l,toks:=m+1 }) ho fun h'' z1 sb=>?_⟩;have r:∀c∈[z,it],(ah H s.heap.objs.size (.tup [.int ((n0+i:Nat):Int),x])) c=Á:=fun c b=>by
   have lt:c<s.heap.objs.size:=by
    obtain⟨F,d,_⟩:=id g;simp only[zT,zX,or_false]at b;rcases b with rfl|rfl
    ·exact yI hz
    ·exact yI d
   rw[ad (zU lt)];exact(f c b).1
  have I2:Inv X B C (ah H s.heap.objs.size (.tup [.int ((n0+i:Nat):Int),x])) { s with heap:=h'',toks:=m+1 }:=Inv.turnN (s:={ s with heap:=l,toks:=m+1 }) (ch:=[z]) I1 (fun c b=>by
   have:c=z:=by simpa using b
   subst this;exact⟨r c (by simp),(f c (by simp)).2⟩) (fun c o b e=>(sb.2 c (fun q=>b (by simp[q]))).trans e)
  refine⟨.ref s.heap.objs.size,_,I2,rfl,⟨_,x,fun zs Q=>by rw[I.list_inj Q j];exact hx,W,rfl,rfl⟩,⟨⟨_,by rw[show((n0+(i+1):Nat):Int)=((n0+i:Nat):Int)+1 by lia];exact z1⟩,?_⟩,r⟩;have h3:=p.2.1;rw[show n0+i+1-n0=i+1 by lia]at h3;exact h3.at fun o e=>(sb.2 it D.symm).trans e
 done:=by
  rintro X Z R hK b i B s C H E I f ⟨⟨old,hz⟩,g⟩ ⟨xs,j,t⟩;subst Z R hK;obtain⟨L,M,N,_⟩:=I.list j;have O:a≠it:=dw I j (f it (by simp)) (by obtain⟨F,d,J,d1⟩:=id g;exact⟨_,d,by rw[J];simp⟩);have hl:=M.length;refine wpAny_pyNext_enum_endD (qN (A:=X.A.in1) (I.ok.hd b) it a O L.toArray n0) hz ⟨ϱ _ _,?_,N.isList⟩ fun l U=>⟨rfl,?_⟩
  ·rw[Ű,zI,<- hl,t];exact g
  ·exact I.turnN (ch:=[z,it]) (fun c b=>f c b) fun c o b e=>U c o (fun q=>b (by simp[q])) e
 self:=fun _ _ _ _ _ ⟨⟨_,hz⟩,_⟩ h=>Ϻ hz h
theorem qP:å "enumerate"=À (.type "enumerate"):=by decide +kernel
def J7(K:Þ)(n0:Nat)(ta:TA):TI:=fun σ H R=>ta σ H fun vs H1=>∃a,vs=[.ref a]/\(∃xs,bR K H1 a xs)/\R (At K a n0) H1
theorem tM{X:Cx}{O0:List (Ç×Obj)}{σ:St}{f:Hp}{s1:É}{h':è}{t':Nat}{l:Ç}{n0:Nat}{e:List Î}{i:Nat}{a:ė}{R:It->Hp->Prop}(g:Inv X O0 σ f s1)(he:IsEnum h' (s1.heap.objs.size+1) s1.heap.objs.size (n0:Int) .none)(k:h'.IsListIter s1.heap.objs.size l 0)
  (j:∀b o,s1.heap.get? b=À o->h'.get? b=À o) (q:R (At X.K l n0) f):IG X O0 σ (.Tuple e i a) R (.ref (s1.heap.objs.size+1)) { s1 with heap:=h',toks:=t' }:=by
 have u:Inv X O0 σ f { s1 with heap:=h',toks:=t' }:=g.kept (t':=t') j;refine⟨_,[s1.heap.objs.size+1,s1.heap.objs.size],_,_,f,rfl,u,xw l (s1.heap.objs.size+1) s1.heap.objs.size n0 (Ĳ (ĳ _)),⟨⟨_,by simpa using he⟩,k⟩,fun c h=>?_,q⟩;have d:s1.heap.objs.size<=c:=by
  simp only[zT,zX,or_false]at h;rcases h with rfl|rfl
  ·exact ž _
  ·exact zP _
 obtain⟨t,s,r,p,n,m⟩:=g.fpOk d (g.O8.fresh d);exact⟨t,s,r,p,n,m⟩
theorem Ei{g:Nat}(w:Gl X "enumerate")(t:X.mg "enumerate"=Á)(x:PA X [a] ta)(n:Ê [a] X.env=[(Ã,eval a X.env)]:=by rfl) :
  PI X (.Tuple elts g tpos) (.Call (.Name "enumerate" p) [a] [] pos) (J7 X.K 0 ta):=by
 intro z s f H R I h;refine I? (dB I w t qP (Ó (ar (x pos z s f H _ I h) fun C b ⟨B,F,d,r1,j⟩=>?_) (by rw[n];rfl) (by rfl)));obtain⟨l,e,⟨A,o⟩,q⟩:=j;subst e;cases r1 with
 |cons r i =>
  cases i;cases r;obtain⟨E,D,k,_⟩:=d.list o;refine call_enumerate_list k.isList fun y c v m u=>?_
  refine Ϻ (s:={ b with heap:=y }) c ?_;exact tM (t':=b.toks) (n0:=0) d c v u q
section
variable{prog:Ò}{w:Ú}{A:ć}{E:Å->É->Prop}{s:É}
theorem AJ{α:Type}{x:Y7 α}{Q b:α->É->Prop}(h:Ï M A x Q E s)(c:∀a s,Q a s->b a s):Ï M A x b E s:=yS h c fun _ _ x=>x
theorem rY(a v:Å):checkTypeCall "enumerate" ⟨[a],[("start",v)]⟩=pure ():=by kernel_rfl
theorem qZ(a v:Å):checkBuiltinCall "enumerate.__new__" ⟨[.type "enumerate",a],[("start",v)]⟩=pure ():=by kernel_rfl
theorem p5(o a v:Å):C! "object.__init__" ⟨[o,a],[("start",v)]⟩:=by
 unfold C!;rw[signature?_of (id:="object.__init__") (n:=['_','_','t','i','n','i','_','_']) (o:=['t','c','e','j','b','o']) (by kernel_rfl) F.owner_object]
 kernel_rfl
theorem wT(hl:typeLookup (.type T) "__init__"=pure (À (.builtin "object.__init__")))(hm:Bind.madeBy (.type T)=pure (À newId))(hne:(À newId !=À "object.__new__")=Â) :
  Meets (w?.«object.__init__» ⟨[self,a],[("start",v)]⟩) (fun _ R s=>s.TypeIs self T/\R (.ok (.ret .none)) s):=Meets.of_wp fun b w A R s c=>by
 obtain⟨e,d⟩:=c
 repeat (any_goals (first | assumption | wp_step))
 exact⟨_,rfl,d⟩
theorem tY(e:args.any (·.1)=Ã)(f:kws.any (·.1.isNone)=Ã)
  (h:Ï M A (evalArgs (.type T) Â args kws) (fun a s₁=>Ï M A (call (.type T) a.pos a.kw) Q E s₁) E s):Ï M A (Ū pos (.type T) [] args kws) Q E s:=by
 unfold Ū;refine yE (yR (AJ h fun a s₁ b=>yE (ų ?_)));simp only[e,f,X3];refine yE (yF (yE (AJ b fun r c d=>yE (yR (wpAny_point (yF d))))))
end
section
variable{prog:Ò}{w:Ú}{A:ć}{E:Å->É->Prop}{s:É}
theorem CV(f:t≠it):∀(n i:Nat)(s:É)(Q:List Å->É->Prop),s.heap.IsListIter it t i->s.heap.IsList t items->i+n<=items.size ->
  (∀h',h'.IsListIter it t (i+n)->Į it s.heap h'->Q ((items.toList.drop i).take n) { s with heap:=h' })->Ï (model prog w) A (draw (.ref it) n) Q E s
 |0,i,s,Q,hit,_,_,hQ=>yF (by simpa using hQ s.heap hit (i? ..))
 |n+1,i,s,Q,hit,ht,hle,hQ=>by
  have hlt:i<items.size:=by lia
  refine yE (m:=z? (.ref it)) (S! hit ht (x:=items[i]) (by simp[hlt]) fun g c a=>?_);refine yE (yR (CV f n (i+1) _ _ c (ht.extBut a.extBut f) oM fun e b d=>yF ?_));have q:=hQ e (by rw[show i+(n+1)=i+1+n by lia];exact b) (a.trans d);rw[show items.toList.drop i=items[i]::items.toList.drop (i+1) by simp[ê,hlt],List.take_succ_cons]at q;exact q
theorem Dk(p:A.handled=Á)(i:s.heap.IsList t items)(n:targets.length=items.size)(d:targets.findIdx? (·.1)=Á)
  (h:∀h',Z1 s.heap.objs.size s.heap h'->Ï (model prog w) A (assignInOrder (targets.map (·.2)) items.toList) Q E { s with heap:=h' }):Ï (model prog w) A (unpack (.ref t) targets) Q E s:=by
 have j:t≠s.heap.objs.size:=by obtain⟨o,m,_⟩:=i;exact zU (yI m)
 unfold unpack;rw[n,d];refine yE (yR ?_);unfold unpackItems;refine yE ?_;unfold notIterableAtAll;refine yE (Z3 i.typeIs slot_list_iter.lookup (yF ?_));simp only[yA,if_false];refine yE (yR (ī i (yE (yR (CV j items.size 0 _ _ ⟨_,zY _ rfl,rfl,rfl⟩ (i.push _) oM fun k c a=>?_)))));rw[show List.take items.size (List.drop 0 items.toList)=items.toList by rw[ń];exact ł (by simp),yG (by simp)];refine yE (yR (T6 p c ((i.push _).extBut a.extBut j) (by simp) fun g f=>?_));simp only[Option.isSome_none,yA,if_false];exact yF (h g fun b o l e=>f b o l (a.extBut b o l (zG _ e)))
end
section
variable{X:Cx}{pos:ė}
noncomputable def Kb(K:Þ)(n:Nat)(t:ug):TG:=fun v σ H Q=>∃a xs,v=.ref a/\bR K H a xs/\xs.length=n/\t xs σ H Q
theorem El{k:Nat}{n:Nat}(x:X.calm=Â)(h:qW X es t)(q:(à es X.env).length=n:=by rfl)(d:(à es X.env).findIdx? (·.1)=Á:=by rfl):PG X (.Tuple es k pos) (Kb X.K n t):=by
 intro i s f H v u Q I r c;obtain⟨a,j,z,p,w,c⟩:=c;subst z;cases r;obtain⟨B,g,l,hz⟩:=I.list p;rw[arm_assign_Tuple];refine yE (ų (Dk (I.ok.hd x) l.isList (by simp[q,<- w,g.length]) d fun y m=>?_));have A:Inv X i f H { s with heap:=y }:=I.kept (t':=s.toks) fun b o e=>m b o (zU (yI e)) e
 exact h i _ f H j _ Q A (by simpa using g) c
theorem kx:∀(l:List Å)(k:Nat),(∀(j:Nat)(v:Å),l[j]?=À v->∃t,v=.int ((k+j:Nat):Int) t)->Vals ((ħ k l.length).map fun(q:Nat)=>V.int (q:Int)) l
 |[],_,_=>.nil
 |u::l,k,h=>by
  rw[yX,List.range'_succ,zO];refine .cons ?_ (kx l (k+1) fun j v e=>?_)
  ·obtain⟨t,e⟩:=h 0 u rfl
   exact⟨t,e⟩
  ·obtain⟨t,a⟩:=h (j+1) v (by simpa using e)
   exact⟨t,by rw[a,show k+(j+1)=k+1+j by lia]⟩
theorem kN:å "list"=À (.type "list"):=by decide +kernel
def FA(ta:TE):TE:=fun σ H Q=>Co ta v7 σ H fun vs H1=>∃j:Nat,vs=[.int (j:Int)]/\j<=1000/\∀p,H1 p=Á->Q (.ref p) (ah H1 p (.lst ((ħ 0 j).map fun(q:Nat)=>V.int (q:Int))))
theorem Bn(D:X.calm=Â)(p:Gl X "list")(l:X.mg "list"=Á)(m:Gl X "range")(k:X.mg "range"=Á)(E:PE X a ta)
  (y:Ê [a] X.env=[(Ã,eval a X.env)]:=by rfl) (g:Ê [.Call (.Name "range" p2) [a] [] pos2] X.env=[(Ã,eval (.Call (.Name "range" p2) [a] [] pos2) X.env)]:=by rfl) :
  PE X (.Call (.Name "list" p1) [.Call (.Name "range" p2) [a] [] pos2] [] pos) (FA ta):=by
 intro z s u H Q I h;refine I? (dB I p l kN (Ó ?_ (by rw[g];rfl) (by rfl)));rw[g];refine Calls.spliced_cons (I? (dB I m k ϯ (Ó (ar ((u8 E yd y) pos2 z s u H _ I h) fun N f ⟨M,L,K,r1,w⟩=>?_) (by rw[y];rfl) (by rfl))));cases r1 with
 |nil=>obtain⟨j,e,_⟩:=w;cases e
 |cons r B =>
  obtain⟨j,e,P,q⟩:=w;cases e;cases B;obtain⟨t,rfl⟩:=r;refine call_range_1 (Calls.spliced_nil ?_);have A:Inv X z u L { f with heap:=f.heap.push { cls:=.type "range",data:=.fields #[.int 0 f.toks,.int (j:Int) t,.int 1 (f.toks+1)] },toks:=f.toks+1+1 }:=K.kept fun b o e=>zG _ e
  refine Z6 (n:=j) (I.ok.hd D) (IsRange.new ..) (Y3 oM oM oM oM) (by rw[L'];split<;>lia) oM fun R O c J C F d=>?_
  have x:=kx c.toList 0 (fun i v e=>by
   obtain⟨t,G⟩:=d.2 i v (by simpa using e);exact⟨t,by rw[G];congr 1;lia⟩)
  rw[show c.toList.length=j by simpa using d.1]at x;exact⟨.ref _,_,A.laid (o:=.lst ((ħ 0 j).map fun(q:Nat)=>V.int (q:Int))) C (zP _) ⟨yY (qw (by simp;lia)),c.toList,J,x,F⟩,rfl,q _ A.fresh⟩
end
theorem ot(n:Nat):sliceRange ((n:Int)-1) (-1) (-1)=(Ä n).map fun k=>n-1-k:=by
 unfold sliceRange;rcases n with _|n
 ·rfl
 ·have e:((n+1:Nat):Int)-1 - -1 - -1-1=((n+1:Nat):Int):=by lia
  simp only[show ¬((-1:Int) > 0) by decide,if_false,show((n+1:Nat):Int)-1 > -1 by lia,if_true,e,Int.neg_neg,Int.ediv_one,Ϧ];apply ý;intro k a;rw[Ë]at a;lia
theorem Bc{α:Type}(m:List α):(Ä m.length).filterMap (fun k=>m[k]?)=m:=by
 induction m with
 |nil=>rfl
 |cons a m b =>
  rw[yX,u?,þ];simp only[s?,R!];congr 1
theorem wp{α b:Type}{f g:α->Option b}(l:List α)(h:∀x∈l,f x=g x):l.filterMap f=l.filterMap g:=by
 induction l with
 |nil=>rfl
 |cons a l c=>rw[þ,þ,h a (by simp),c fun x d=>h x (by simp[d])]
theorem xY{α:Type}(l:List α):((Ä l.length).map fun k=>l.length-1-k).filterMap (l[·]?)=l.reverse:=by
 rw[R!];have h:(Ä l.length).filterMap ((fun x=>l[x]?) ∘ fun k=>l.length-1-k)=(Ä l.length).filterMap (fun k=>l.reverse[k]?):=by
  apply wp;intro k a;rw[Ë]at a;simp only[T4,H! a]
 rw[h];have b:=Bc l.reverse;rw[ĵ]at b;rw[b]
theorem pT(O4:List Å):Q! O4.toArray Á Á (À (-1))=O4.reverse.toArray:=by
 have e:ĸ Á Á (À (-1)) O4.toArray.size=((O4.length:Int)-1,-1,-1):=by
  simp[ĸ]
 unfold Q!;rw[e];simp only[ot,G?];rw[xY]
section
variable{X:Cx}{e st:Î}{te ts:TE}{pos p2:ė}
def Fx(K:Þ)(te ts:TE):TE:=fun σ H Q=>te σ H fun x H1=>ts σ H1 fun y H2=>y=.int (-1)/\∃a xs,x=.ref a/\bR K H2 a xs/\∀p,H2 p=Á->Q (.ref p) (ah H2 p (.lst xs.reverse))
theorem Bk(he:PE X e te)(u:PE X st ts):PE X (.Subscript e (.Slice Á Á (À st) p2) pos) (Fx X.K te ts):=by
 intro f s d H Q I h;refine X! (ar (he f s d H _ I h) fun v m g=>?_);obtain⟨x,C,A,r1,n⟩:=g;refine wpAny_Slice ?_;rw[N!];refine yF (yF ?_);rw[evalPart_some];refine ar (u f m d C _ A n) fun D c g=>?_
 obtain⟨y,B,z,r2,w,a,l,ex,sq,q⟩:=g;subst w;subst ex;obtain⟨t,rfl⟩:=r2;cases r1;have i:Inv X f d B { c with heap:=c.heap.push { cls:=.type "slice",data:=.fields #[.none,.none,.int (-1) t] } }:=z.kept (t':=c.toks) fun b p q=>zG _ q
 obtain⟨E,r,j,hz⟩:=i.list sq;have k:=r.length;show Ï (model X.prog X.w) X.A (ϩ e (.Slice Á Á (À st) p2) (.ref a) (.ref c.heap.objs.size)) (EP X f d Q) X.xe { c with heap:=c.heap.push { cls:=.type "slice",data:=.fields #[.none,.none,.int (-1) t] } };refine tail_any (ops:=[.ref a,.ref c.heap.objs.size]) j.isList.typeIs slot_list_getitem.lookup ?_ (by with_unfolding_all rfl);refine L! j.isList (Ϸ ..) .none .none (.int (-1) t) dC ?_ (by rw[zI]<;>lia);rw[pT];refine⟨.ref _,_,i.laid (t':=c.toks) (o:=.lst l.reverse) (fun b p q=>zG _ q) (zP _) ?_,rfl,q _ (i.O8.fresh (zP _))⟩;exact⟨by rw[ĵ];exact hz,_,0,r.reverse,zY _ rfl⟩
end
end L2
namespace PySem.AutoSeq1
theorem wX(l:Ç)(items:Array Å)(n:Nat)(b:Ç)(items2:Array Å)(n2:Nat)(sl:Array (Option Å))(hc0:¬(!items.isEmpty&&ò (items.size+items2.size))=Â)(hc1:items.size<=Ì)(hs2:items.size+items2.size<=Ì+1) :
  Meets (w?.«list.extend» ⟨[.ref l,.ref b],[]⟩) (fun _ R s=>s.heap.get? l=À { cls:=.type "list",dict:=Á,data:=.seq items n,slots:=#[] }/\s.heap.get? b=À { cls:=.type "list",dict:=Á,data:=.seq items2 n2,slots:=sl }/\R (.ok (.ret Ů)) { s with heap:=s.heap.update l (Ğ fun x=>x++items2),toks:=s.toks }) :=
 .of_wp fun c w A R s h=>by
  obtain⟨k,g,d,i,j⟩:=s;obtain⟨e,f,h⟩:=h;have r:=idx_int;have q:=Z4;have p:=sub_list_list;have o:=sub_tuple_list;have m:=sub_list_tuple;have a:(items++items2).size<=Ì+1:=by rw[R8];exact hs2
  wp_walk using (ϋ e rfl (hz:=hc1) (_hz':=a)),ό e,ό f;exact⟨_,rfl,h⟩
end PySem.AutoSeq1
namespace L2
open PySem PySem.Spec PyProof.Rows
section
variable{X:Cx}
def Jg(K:Þ):V->List V->Hp->VK->Prop:=fun x vs H Q=>∃l b xs zs,x=.ref l/\vs=[.ref b]/\H l=À (.lst xs)/\bR K H b zs/\xs.length+zs.length<=Ì/\Q .non (ah H l (.lst (xs++zs)))
theorem EB:Dc X "list.extend" (Jg X.K):=by
 intro P s E H x K v L Q I rx p h;obtain⟨l,b,J,G,rfl,rfl,j,hB,hz,q⟩:=h;cases rx;obtain⟨u,rfl,t⟩:=p.one;cases t;obtain⟨z,d,n,r,O,e⟩:=I.lstM j;obtain⟨a,r2,w,B⟩:=I.list hB;obtain⟨o,A,D,m,k,i⟩:=w;obtain⟨N,M,y,f⟩:=o;dsimp only at m k i;subst m;subst k;subst i;have C:=r2.length;have g:d.toArray.size+a.toArray.size<=Ì:=by rw[zI,zI];lia
 have c:¬(!d.toArray.isEmpty&&ò (d.toArray.size+a.toArray.size))=Â:=by
  rw[notLongL g,Bool.and_false];exact Ĝ
 refine Ŗ F.slot_list_extend ⟨_,e,rfl⟩ F.entry_list_extend (F.args_list_extend_2 _ _)
  (PySem.AutoSeq1.wX l d.toArray n b a.toArray A f c (by rw[zI];lia) oM) ⟨e,D,?_⟩
 refine⟨.non,_,I.lset (its':=d++a) j e (by simp) (r.append r2) ?_,rfl,q⟩;rw[zV];lia
end
end L2
namespace PySem.AutoSeq1
theorem E3(l:Ç)(items:Array Å)(n:Nat)(sl1:Array (Option Å))(b:Ç)(items2:Array Å)(n2:Nat)(sl:Array (Option Å))(hs2:items.size+items2.size<=Ì) :
  Meets (w?.«list.__add__» ⟨[.ref l,.ref b],[]⟩) (fun _ R s=>s.heap.get? l=À { cls:=.type "list",dict:=Á,data:=.seq items n,slots:=sl1 }/\s.heap.get? b=À { cls:=.type "list",dict:=Á,data:=.seq items2 n2,slots:=sl }/\R (.ok (.ret (î s.heap.objs.size))) { s with heap:=s.heap.push { cls:=.type "list",data:=.seq (items++items2) },toks:=s.toks }) :=
 .of_wp fun c w A R s h=>by
  obtain⟨m,g,d,j,k⟩:=s;obtain⟨f,i,h⟩:=h;have t:=idx_int;have r:=Z4;have q:=sub_list_list;have p:=sub_tuple_list;have o:=sub_list_tuple;have e:(items++items2).size<=Ì+1:=by rw[R8];lia
  have a:ò (items.size+items2.size)=Ã:=L2.notLongL hs2
  wp_walk using ό f,ό i
  all_goals first|exact⟨_,rfl,h⟩|skip
end PySem.AutoSeq1
namespace L2
open PySem PySem.Spec PyProof.Rows
section
variable{X:Cx}
def Jh(K:Þ):R2:=fun x y H Q=>∃l b xs zs,x=.ref l/\y=.ref b/\bR K H l xs/\bR K H b zs/\xs.length+zs.length<=Ì/\∀p,H p=Á->Q (.ref p) (ah H p (.lst (xs++zs)))
theorem Et:lY X (Ź .Add) (Jh X.K):=by
 intro U s L H x y v u Q I rx t h;obtain⟨l,b,N,M,rfl,rfl,J,hB,hz,q⟩:=h;cases rx;cases t;obtain⟨c,r,⟨B,D,g,p,n,j⟩,_⟩:=I.list J;obtain⟨a,r2,⟨A,C,k,o,m,i⟩,_⟩:=I.list hB;obtain⟨S,R,z,e⟩:=B;obtain⟨P,O,w,d⟩:=A;dsimp only at p n j o m i;subst p;subst n;subst j;subst o;subst m;subst i;have G:=r.length;have E:=r2.length;have f:c.toArray.size+a.toArray.size<=Ì:=by rw[zI,zI];lia
 refine wpAny_binaryOp_concat (T:="list") (id:="list.__add__") ⟨_,g,rfl⟩ ⟨_,k,rfl⟩ noFill_list_add (by rfl) ?_;refine Ŗ F.slot_list_add ⟨_,g,rfl⟩ F.entry_list_add (F.args_list_add_2 _ _) (PySem.AutoSeq1.E3 l c.toArray D e b a.toArray C d f) ⟨g,k,?_⟩;have K:c.toArray++a.toArray=(c++a).toArray:=by simp
 rw[K];exact⟨.ref _,_,I.lnew (t':=s.toks) (r.append r2) (by rw[zV];lia),rfl,q _ I.fresh⟩
end
section
variable{κ:Type}[DecidableEq κ]
noncomputable def fq(O1:List (κ×V))(k:κ):Option V:=(O1.find? fun kv=>decide (kv.1=k)).map (·.2)
noncomputable def fy(O1:List (κ×V))(k:κ)(v:V):List (κ×V) :=
 if(O1.any fun kv=>decide (kv.1=k))=Â then O1.map (fun kv=>if kv.1=k then(kv.1,v) else kv) else O1++[(k,v)]
theorem nE{p:κ×V}{r:List (κ×V)}{k:κ}(e:p.1=k):fq (p::r) k=À p.2:=by simp[fq,Ć,e]
theorem nF{p:κ×V}{r:List (κ×V)}{k:κ}(e:¬p.1=k):fq (p::r) k=fq r k:=by simp[fq,Ć,e]
theorem rX(k:κ):∀O1:List (κ×V),(O1.any fun kv=>decide (kv.1=k))=(fq O1 k).isSome
 |[]=>rfl
 |p::r=>by
  rw[Ũ];by_cases e:p.1=k
  ·simp only[nE e,yV e,Bool.true_or,K!]
  ·rw[nF e,z9 e,Bool.false_or];exact rX k r
theorem mR(O1:List (κ×V))(k:κ)(v:V):(fy O1 k v).length<=O1.length+1:=by
 unfold fy;split
 ·rw[zH];lia
 ·rw[zV,yX,V0];lia
theorem RelO.isSome_eq{o:Option V}{u:Option Å}(r:RelO o u):o.isSome=u.isSome:=by
 cases o with
 |none=>cases u with
  |none=>rfl
  | some _=>exact (show False from r).elim
 |some _=>cases u with
  | none=>exact (show False from r).elim
  |some _=>rfl
theorem KV.val{O1:List (κ×V)}{vs:List (κ×Value)}(r:KV O1 vs)(k:κ):RelO (fq O1 k) (ϻ vs k):=by
 unfold KV at r
 induction r with
 |nil=>exact True.intro
 |@cons p q i a h t f =>
  obtain⟨d,g⟩:=h;by_cases e:p.1=k
  ·have c:q.1=k:=d.symm.trans e
   have b:ϻ (q::a) k=À q.2:=by simp[ϻ,Ć,c]
   rw[nE e,b];exact g
  ·have c:¬q.1=k:=fun z=>e (d.trans z)
   have b:ϻ (q::a) k=ϻ a k:=by simp[ϻ,Ć,c]
   rw[nF e,b];exact f
theorem KV.any{O1:List (κ×V)}{vs:List (κ×Value)}(r:KV O1 vs)(k:κ):(O1.any fun kv=>decide (kv.1=k))=vs.any fun kv=>decide (kv.1=k):=by
 unfold KV at r
 induction r with
 |nil=>rfl
 |cons h t a=>rw[Ũ,Ũ,a,h.1]
theorem KV.repl{O1:List (κ×V)}{vs:List (κ×Value)}(r:KV O1 vs)(k:κ){y:V}{u:Å}(b:RelV y u) :
  KV (O1.map fun kv=>if kv.1=k then(kv.1,y) else kv) (vs.map fun kv=>if kv.1=k then(kv.1,u) else kv):=by
 unfold KV at r ⊢
 induction r with
 |nil=>exact .nil
 |@cons p q g f h t c =>
  rw[zO,zO];refine .cons ?_ c;obtain⟨a,d⟩:=h;by_cases e:p.1=k
  ·rw[yH e,yH (a.symm.trans e)];exact⟨a,b⟩
  ·rw[yG e,yG (fun z=>e (a.trans z))];exact⟨a,d⟩
theorem KV.put{O1:List (κ×V)}{vs:List (κ×Value)}(r:KV O1 vs)(k:κ){y:V}{u:Å}(a:RelV y u):KV (fy O1 k y) (stored vs k u):=by
 unfold fy stored;rw[r.any k];by_cases e:(vs.any fun b=>decide (b.1=k))=Â
 ·rw[yH e,yH e];exact r.repl k a
 ·rw[yG e,yG e];exact Paired.snoc r ⟨rfl,a⟩
theorem KV.length{O1:List (κ×V)}{vs:List (κ×Value)}(r:KV O1 vs):O1.length=vs.length:=Paired.length r
end
theorem oP{P:Ò}{w:Ú}{k:ba}{u:Å}(r:RelV (kV k) u):(cz P w).is k u=Â:=by
 cases k with
 | inl i=>obtain ⟨t,e⟩:=(show ∃ t,u=k! i t from r);subst e;exact ut P w i t
 | inr x=>obtain ⟨t,e⟩:=(show ∃ t,u=j? x t from r);subst e;exact uo P w x t
theorem qE{P:Ò}{w:Ú}:∀{ks:List ba}{us:List Å},Vals (ks.map kV) us->ItemsAre (cz P w) ks us
 |[],_,r=>by rw[Ń]at r;cases r;exact .nil
 |k::ks,_,r=>by
  rw[zO]at r;cases r with
  |cons h t=>exact .cons (oP h) (qE t)
abbrev KT(H:Hp):List (List ba×V)->List (List ba×Addr×Value)->Prop:=S9 fun p q=>p.1=q.1/\H q.2.1=À (.tup (p.1.map kV))/\RelV p.2 q.2.2
theorem KT.val{H:Hp}{O1:List (List ba×V)}{xs:List (List ba×Addr×Value)}(r:KT H O1 xs)(k:List ba):RelO (fq O1 k) ((B' xs k).map (·.2)):=by
 induction r with
 |nil=>exact True.intro
 |@cons p q i a h t f =>
  obtain⟨d,_,g⟩:=h;by_cases e:p.1=k
  ·have c:q.1=k:=d.symm.trans e
   have b:B' (q::a) k=À q.2:=by simp[B',Ć,c]
   rw[nE e,b];exact g
  ·have c:¬q.1=k:=fun z=>e (d.trans z)
   have b:B' (q::a) k=B' a k:=by simp[B',Ć,c]
   rw[nF e,b];exact f
theorem KT.repl{H:Hp}{O1:List (List ba×V)}{xs:List (List ba×Addr×Value)}(r:KT H O1 xs)(k:List ba){y:V}{u:Å}(c:RelV y u) :
  KT H (O1.map fun kv=>if kv.1=k then(kv.1,y) else kv) (xs.map (putAt k u)):=by
 induction r with
 |nil=>exact .nil
 |@cons p q i g h t d =>
  rw[zO,zO];refine .cons ?_ d;obtain⟨a,b,f⟩:=h;unfold putAt;by_cases e:p.1=k
  ·rw[yH e,yH (a.symm.trans e)];exact⟨a,b,c⟩
  ·rw[yG e,yG (fun z=>e (a.trans z))];exact⟨a,b,f⟩
theorem KT.put{H:Hp}{O1:List (List ba×V)}{xs:List (List ba×Addr×Value)}(r:KT H O1 xs)(k:List ba){b:Ç}{y:V}{u:Å}(d:H b=À (.tup (k.map kV)))(a:RelV y u) :
  KT H (fy O1 k y) (storedH xs k b u):=by
 have e:(O1.any fun c=>decide (c.1=k))=(B' xs k).isSome:=by
  rw[rX,(r.val k).isSome_eq,Ł]
 unfold fy storedH;rw[e];by_cases q:(B' xs k).isSome=Â
 ·rw[yH q,yH q];exact r.repl k a
 ·rw[yG q,yG q];exact Paired.snoc r ⟨rfl,d,a⟩
theorem KT.keeps{H a:Hp}{O1:List (List ba×V)}{xs:List (List ba×Addr×Value)}(r:KT H O1 xs)(c:∀b ys,H b=À (.tup ys)->a b=À (.tup ys)):KT a O1 xs :=
 Paired.mapP r fun _ _ z=>⟨z.1,c _ _ z.2.1,z.2.2⟩
section
variable{P:Ò}{w:Ú}{H:Hp}{h:è}{a:Ç}
theorem Cu{u:HO}(ok:HOk P w H h)(e:Rd H a u):ObjOk P w H h a u:=e.ok ok
theorem pi{O1:List (ba×V)}(ok:HOk P w H h)(e:Rd H a (.dK O1)):O1.length<=Ì/\(a==Ĕ)=Ã/\∃vs,KV O1 vs/\h.DictOf (cz P w) a vs :=
 show ObjOk P w H h a (.dK O1) from Cu ok e
theorem CW{O1:List (ba×V)}(ok:HOk P w H h)(e:H a=À (.dK O1)):O1.length<=Ì/\(a==Ĕ)=Ã/\∃vs,KV O1 vs/\h.DictOf (cz P w) a vs:=pi ok (.inl e)
theorem lK{ks:List ba}(ok:HOk P w H h)(e:H a=À (.tup (ks.map kV))):(ŷ (cz P w)).is h ks a:=by
 obtain ⟨_,f,r,o,d,c,n,b⟩:=(show ObjOk P w H h a (.tup (ks.map kV)) from ok a _ e);exact ⟨o,f.toArray,n,d,c,b,by simpa using qE r⟩
theorem ph{O1:List (List ba×V)}(ok:HOk P w H h)(e:Rd H a (.dT O1)):O1.length<=Ì/\(a==Ĕ)=Ã /\
  ∃xs,KT H O1 xs/\h.DictOfH (ŷ (cz P w)) a xs:=by
 obtain ⟨z,y,xs,r,o,n,s,k,j,i,g,f⟩:=(show ObjOk P w H h a (.dT O1) from Cu ok e);refine ⟨z,y,xs,r,o,n,s,k,j,i,g,fun x b=>?_,f⟩;have all:∀ {l:List (List ba × V)}{m:List (List ba × Ç × Å)},KT H l m->∀ x ∈ m,(ŷ (cz P w)).is h x.1 x.2.1:=by
  intro l m q
  induction q with
  |nil=>intro x b;exact nomatch b
  |@cons p q v u c t d =>
   intro x b;rcases zT.mp b with e|b
   ·subst e
    exact lK ok (by rw[<- c.1];exact c.2.1)
   ·exact d x b
 exact all r x b
theorem CU{O1:List (List ba×V)}(ok:HOk P w H h)(e:H a=À (.dT O1)):O1.length<=Ì/\(a==Ĕ)=Ã /\
  ∃xs,KT H O1 xs/\h.DictOfH (ŷ (cz P w)) a xs:=ph ok (.inl e)
end
def DGet(H:Hp)(a:Ç)(y:V)(r:Option V):Prop :=
 (∃O1 k,Rd H a (.dK O1)/\y=kV k/\r=fq O1 k)\/∃O1 k b,Rd H a (.dT O1)/\y=.ref b/\H b=À (.tup (k.map kV))/\r=fq O1 k
def DPut(H:Hp)(a:Ç)(y v:V)(H':Hp):Prop :=
 (∃O1 k,H a=À (.dK O1)/\y=kV k/\O1.length<Ì/\H'=ah H a (.dK (fy O1 k v))) \/
 ∃O1 k b,H a=À (.dT O1)/\y=.ref b/\H b=À (.tup (k.map kV))/\O1.length<Ì/\H'=ah H a (.dT (fy O1 k v))
theorem DGet.k{H:Hp}{a:Ç}{O1:List (ba×V)}{k:ba}(e:H a=À (.dK O1)):DGet H a (kV k) (fq O1 k):=.inl ⟨O1,k,.inl e,rfl,rfl⟩
theorem DGet.t{H:Hp}{a b:Ç}{O1:List (List ba×V)}{k:List ba}(e:H a=À (.dT O1))(c:H b=À (.tup (k.map kV))):DGet H a (.ref b) (fq O1 k):=.inr ⟨O1,k,b,.inl e,rfl,c,rfl⟩
theorem DPut.k{H:Hp}{a:Ç}{O1:List (ba×V)}{k:ba}{v:V}(e:H a=À (.dK O1))(b:O1.length<Ì):DPut H a (kV k) v (ah H a (.dK (fy O1 k v))):=.inl ⟨O1,k,e,rfl,b,rfl⟩
theorem DPut.t{H:Hp}{a b:Ç}{O1:List (List ba×V)}{k:List ba}{v:V}(e:H a=À (.dT O1))(d:H b=À (.tup (k.map kV)))(c:O1.length<Ì) :
  DPut H a (.ref b) v (ah H a (.dT (fy O1 k v))):=.inr ⟨O1,k,b,e,rfl,d,c,rfl⟩
section
variable{X:Cx}{O0:List (Ç×Obj)}{σ:St}{H:Hp}{s:É}{a:Ç}{y v:V}{u r:Å}{o:Option V}{A:ć}{E:Å->É->Prop}
theorem Inv.big(I:Inv X O0 σ H s):Ĕ<s.heap.objs.size:=by
 have h:Ð<s.heap.objs.size:=(I.mod.glob.keeps I.bk).lt;exact F! dC h
theorem Ac{Q:Å->É->Prop}(t:A.units+1<ř)(I:Inv X O0 σ H s)(g:DGet H a y (À v))(n:RelV y u)(h:∀w' s',Inv X O0 σ H s'->RelV v w'->Q w' s') :
  Ï (model X.prog X.w) A (S6 (.ref a) u) Q E s:=by
 rcases g with⟨B,k,e,j,l⟩|⟨B,k,b,e,j,x,l⟩
 ·subst j
  obtain⟨z,hd,r,d,m⟩:=pi I.O8 e;obtain⟨w',f,c⟩:=RelO.some_of (v:=v) (o:=ϻ r k) (by rw[l];exact d.val k);exact wpAny_getItem_of (oP n) m.mapOf f (h w' _ (I.tok _) c)
 ·subst j
  cases (show u=î b from n);obtain ⟨z,hd,q,d,m⟩:=ph I.O8 e;obtain ⟨w',f,c⟩:=RelO.some_of (v:=v) (o:=(B' q k).map (·.2)) (by rw [l];exact d.val k);obtain ⟨p,w,i⟩:=zE.mp f;refine wpAny_getItem_heap (ũ t) (lK I.O8 x) m w ?_;rw [i];exact h w' _ (I.tok _) c
theorem MG{Q:Å->É->Prop}(j:A.units+1<ř)(I:Inv X O0 σ H s)(g:DGet H a y o)(i:RelV y u)(h:∀s',Inv X O0 σ H s'->Q (.bool o.isSome) s') :
  Ï (model X.prog X.w) A (Ď .In u (.ref a)) Q E s:=by
 rcases g with⟨n,k,e,d,l⟩|⟨n,k,b,e,d,m,l⟩
 ·subst d
  obtain⟨z,hd,r,c,f⟩:=pi I.O8 e;refine wpAny_in_of (oP i) hd f.mapOf ?_;rw[<- (c.val k).isSome_eq,<- l];exact h _ (I.tok _)
 ·subst d
  cases (show u=î b from i);obtain ⟨z,hd,p,c,f⟩:=ph I.O8 e;refine wpAny_in_heap (ũ j) (lK I.O8 m) hd f ?_;have q:=(c.val k).isSome_eq;rw [Ł] at q;rw [<- q,<- l];exact h _ (I.tok _)
theorem EU{Q:Å->É->Prop}(j:A.units+1<ř)(I:Inv X O0 σ H s)(g:DGet H a y o)(i:RelV y u)(h:∀s',Inv X O0 σ H s'->Q (.bool (!o.isSome)) s') :
  Ï (model X.prog X.w) A (Ď .NotIn u (.ref a)) Q E s:=by
 rcases g with⟨n,k,e,d,l⟩|⟨n,k,b,e,d,m,l⟩
 ·subst d
  obtain⟨z,hd,r,c,f⟩:=pi I.O8 e;refine wpAny_notIn_of (oP i) hd f.mapOf ?_;rw[<- (c.val k).isSome_eq,<- l];exact h _ (I.tok _)
 ·subst d
  cases (show u=î b from i);obtain ⟨z,hd,p,c,f⟩:=ph I.O8 e;refine wpAny_notIn_heap (ũ j) (lK I.O8 m) hd f ?_;have q:=(c.val k).isSome_eq;rw [Ł] at q;rw [<- q,<- l];exact h _ (I.tok _)
theorem vH{h':è}{t':Nat}{c:HO}(I:Inv X O0 σ H s)(d:Aq (H a))(f:Į a s.heap h')(he:∃q,h'.get? a=À q)(new:ObjOk X.prog X.w (ah H a c) h' a c) :
  Inv X O0 σ (ah H a c) { s with heap:=h',toks:=t' } :=
 I.write (x:=a) (e:=a) d (.inl rfl) (fun b q g z=>(f.2 b g).trans z) he new
theorem Im{P:Ò}{w:Ú}{d:Hp}{h':è}{O1:List (ba×V)}{vs:List (ba×Value)}(z:O1.length<=Ì)(hd:(a==Ĕ)=Ã)(b:KV O1 vs)(c:h'.DictOf (cz P w) a vs) :
  ObjOk P w d h' a (.dK O1):=⟨z,hd,vs,b,c⟩
theorem qO{F:Hp}{Q:Unit->É->Prop}(K:A.units+1<ř)(I:Inv X O0 σ H s)(g:DPut H a y v F)(w:RelV y u)(x:RelV v r)(h:∀s',Inv X O0 σ F s'->Q () s') :
  Ï (model X.prog X.w) A (Ϛ (.ref a) u r) Q E s:=by
 rcases g with⟨i,k,e,o,l,p⟩|⟨i,k,b,e,o,D,l,p⟩
 ·subst o p
  obtain⟨z,hd,J,d,t⟩:=CW I.O8 e;have hz:J.length<=Ì:=by rw[<- d.length];exact z
  have n:(fy i k v).length<=Ì:=by have:=mR i k v;lia
  refine wpAny_setItem_pairs (hsz:=hz) (oP w) t fun B f m=>h _ ?_
  have L:∃q,B.get? a=À q:=let⟨q,_,_,j,_⟩:=f;⟨q,j⟩;exact vH I (by rw[e];exact True.intro) m L (Im n hd (d.put k x) f)
 ·subst o p
  cases (show u=î b from w);obtain ⟨z,hd,G,d,t⟩:=CU I.O8 e;have hz:G.length <= Ì:=by rw [<- Paired.length d];exact z
  have n:(fy i k v).length<=Ì:=by have:=mR i k v;lia
  refine wpAny_setItem_heap (hsz:=hz) (ũ K) (lK I.O8 D) t fun B f m=>h _ ?_
  obtain⟨q,R,S,j,P,O,N,_,M⟩:=f;refine vH I (by rw[e];exact True.intro) m ⟨q,j⟩ ⟨n,hd,_,(d.put k D x).keeps fun c T C=>?_,q,R,S,j,P,O,N,M⟩;rw[ad (wx C e (fun z=>nomatch z))];exact C
end
theorem uv{X:Cx}{O0:List (Ç×Obj)}{σ:St}{H:Hp}{s:É}{a:Ç}{y:V}{o:Option V}(I:Inv X O0 σ H s)(g:DGet H a y o):s.TypeIs (.ref a) "dict":=by
 rcases g with⟨d,k,e,_,_⟩|⟨d,k,b,e,_,_,_⟩
 ·obtain⟨_,_,h,_,c⟩:=pi I.O8 e
  exact c.typeIs
 ·obtain⟨_,_,f,_,c⟩:=ph I.O8 e
  exact c.typeIs
theorem BW{P:Ò}{w:Ú}{H:Hp}(h:è)(a:Ĕ<h.objs.size):ObjOk P w H (h.push { cls:=.type "dict",data:=.dict #[] }) h.objs.size (.dK []) :=
 ⟨Ě _,beq_eq_false_iff_ne.mpr (æ (zU a)),[],.nil,Heap.DictOf.new h⟩
def xH:TE:=fun _ H Q=>∀p,H p=Á->Q (.ref p) (ah H p (.dK []))
section
variable{X:Cx}{pos:ė}
theorem Bp:PE X (.Dict [] [] pos) xH:=fun c s b H Q I h =>
 wpAny_Dict_empty ⟨.ref s.heap.objs.size,_,I.laid (a:=s.heap.objs.size) (o:=.dK []) (t':=s.toks) (fun _ _ q=>zG _ q) (zP _) (BW s.heap I.big),rfl,h _ (I.O8.fresh (zP _))⟩
end
open PySem.Calls
section
variable{prog:Ò}{w:Ú}{A:ć}{E:Å->É->Prop}{s:É}
theorem wE(d:Ç)(hd:(d==Ĕ)=Ã) :
  MeetsIn prog w (w?.«dict.__len__» ⟨[.ref d],[]⟩) (fun _ R s=>∃xs:List (List ba×Addr×Value),s.heap.DictOfH (ŷ (cz prog w)) d xs/\R (.ok (.ret (.int xs.length s.toks))) { s with toks:=s.toks+1 }) :=
 .of_wp fun A R s b=>by
  obtain⟨i,e,h⟩:=b;obtain⟨o,g,m,c,l,a,f,j,k⟩:=e;show Ï _ _ (dictSize d>>=_) _ _ s;unfold dictSize;refine yE (yE (wpAny_dictEntries c a (yF ?_)));show Ï _ _ (_' d>>=_) _ _ s;refine yE (wpAny_pendingCount_other hd ?_);refine wpAny_ret_mkInt ?_;have:g.size=i.length:=size_of_entries f;simpa [this] using h
theorem w6(hd:(d==Ĕ)=Ã)(hm:s.heap.DictOfH (ŷ (cz prog w)) d xs)(hfit:(xs.length:Int)<2^63)
  (h:Q (.int xs.length (s.toks+1)) { s with toks:=s.toks+1+1 }):Ï (model prog w) A (call (.builtin "len") [.ref d]) Q E s:=by
 refine Calls.call_function_entry kind_len plain_len entry_len (args_len1 _) ?_;unfold w?.«len»;refine yE (m:=oneArg "len" _) (yF ?_);refine yE (m:=callSpecial? (.ref d) (ÿ "__len__")) (wpAny_callSpecial?_slot (name:=ÿ "__len__") hm.typeIs l?
  (call_meetsIn l? hm.typeIs PySem.F.entry_dict_len (PySem.F.args_dict_len_1 _) (wE d hd) ⟨xs,hm,?_⟩))
 show Ï _ _ _ _ _ { s with toks:=s.toks+1 };refine yE (yR (yF ?_));refine yE (ϒ ?_);show Ï _ _ (if((xs.length:Nat):Int)<0 then _ else _) _ _ _;rw[yG oM];show Ï _ _ (if((xs.length:Nat):Int) ≥ 2^63 then _ else _) _ _ _;rw[yG oM];exact yE (wpAny_mkInt (yF ⟨_,rfl,h⟩))
end
section
variable{X:Cx}
theorem Ah:c4 X (.builtin "len") (fun xs H Q=>∃a O1,xs=[V.ref a]/\H a=À (.dT O1)/\Q (.int O1.length) H):=by
 intro j s g H xs i Q I r h;obtain⟨a,O1,rfl,e,q⟩:=h;obtain⟨u,rfl,d⟩:=eY r;cases d;obtain⟨z,hd,xs,b,f⟩:=CU I.O8 e;have c:=Paired.length b;refine w6 hd f (by rw[<- c];rw[ϓ]at z;lia) ?_;rw[<- c];exact⟨.int O1.length,H,I.tok _,⟨_,rfl⟩,q⟩
end
end L2
namespace DD
open PySem PySem.Spec PyProof.Rows L2
section
variable{K:Þ}{F F':Ç->Prop}{H H':Hp}{A:List Ç}
open Classical in
variable{σD:DSt}{σ:L2.St}{R:Ro}{d:D}{v:V}
end
end DD
namespace L2
open PySem PySem.Spec PyProof.Rows
noncomputable def De(x:Í):It:=⟨fun i _=>∃c,x.cps[i]?=À c,fun i H v H'=>H'=H/\∃c,x.cps[i]?=À c/\v=.str ⟨#[c]⟩,fun i _=>x.cps[i]?=Á⟩
theorem AC{P:Ò}{w:Ú}{K:Þ}{L:Î}(x:Í)(t:Tok)(it:Ç):jW P w K L (De x) [it] it (fun i h=>h.IsStrIter it "str_ascii_iterator" x t i) where
 mem:=by simp
 obj:=fun i h a b f=>by
  have e:b=it:=by simpa using f
  subst e;obtain⟨o,e,c,d⟩:=a;exact⟨o,e,fun v z=>by rw[d]at z;cases z⟩
 keep:=fun i h l a k=>by
  obtain⟨o,e,r⟩:=a;exact⟨o,k it (by simp) o e,r⟩
 item:=by
  intro X p m q G i J s D H E I j a n;subst p m q;obtain⟨c,F⟩:=n;obtain⟨C,B,N,A,y,u⟩:=j it (by simp);refine wpAny_pyNext_ascii_item a F fun l g M=>?_
  have Q:Inv X J D H { s with heap:=l,toks:=s.toks+1 }:=I.turned (fun b o f e=>(M.2 b f).trans e) C B A y u;obtain⟨o,e,cl,d⟩:=id g;exact⟨_,rfl,mB (s:={ s with heap:=l,toks:=s.toks+1 }) e cl d dC ⟨.str ⟨#[c]⟩,H,Q,⟨_,rfl⟩,⟨rfl,c,F,rfl⟩,g,fun b f=>(j b f).1⟩⟩
 done:=by
  intro X p m q G i J s D H E I j a n;subst p m q;obtain⟨C,B,N,A,y,u⟩:=j it (by simp);exact wpAny_pyNext_ascii_end (I.ok.hd G) a n fun l O=>⟨rfl,I.turned (t':=s.toks) (fun b o f e=>O b o f e) C B A y u⟩
 self:=fun _ _ _ _ _ a h=>wpAny_pyIter_striter_ascii a h
section
variable{X:Cx}{pos:ė}
def Du(ta:TA):TE:=fun σ H Q=>ta σ H fun vs H1=>∃i j:Nat,vs=[.int (i:Int),.int (j:Int)]/\i<=j/\j<=1000/\∀p,H1 p=Á->Q (.ref p) (ah H1 p (.lst ((ħ i (j-i)).map fun(q:Nat)=>V.int (q:Int))))
theorem yc(T:X.calm=Â)(D:Gl X "list")(B:X.mg "list"=Á)(C:Gl X "range")(A:X.mg "range"=Á)(U:PA X [a,b] ta)
  (P:Ê [a,b] X.env=[(Ã,eval a X.env),(Ã,eval b X.env)]:=by rfl) (g:Ê [b] X.env=[(Ã,eval b X.env)]:=by rfl) (l:Ê [.Call (.Name "range" p2) [a,b] [] pos2] X.env=[(Ã,eval (.Call (.Name "range" p2) [a,b] [] pos2) X.env)]:=by rfl) :
  PE X (.Call (.Name "list" p1) [.Call (.Name "range" p2) [a,b] [] pos2] [] pos) (Du ta):=by
 intro G s E H Q I h;refine I? (dB I D B kN (Ó ?_ (by rw[l];rfl) (by rfl)));rw[l];refine Calls.spliced_cons (I? (dB I C A ϯ (Ó (ar (U pos2 G s E H _ I h) fun L m z=>?_) (by rw[P,g]) (by rw[g];rfl))));obtain⟨vs,H1,I1,r1,i,j,e,S,hj,q⟩:=z;subst e;obtain⟨u1,p,rfl,x,r2⟩:∃u c,L=u::c/\RelV (.int (i:Int)) u/\Vals [.int (j:Int)] c:=by cases r1 with|cons r y=>exact⟨_,_,rfl,r,y⟩
 obtain⟨u2,K,rfl,w,O⟩:∃u c,p=u::c/\RelV (.int (j:Int)) u/\Vals [] c:=by cases r2 with|cons r y=>exact⟨_,_,rfl,r,y⟩
 cases O;obtain⟨N,rfl⟩:=x;obtain⟨M,rfl⟩:=w;refine call_range_2 (Calls.spliced_nil ?_);have J:Inv X G E H1 { m with heap:=m.heap.push { cls:=.type "range",data:=.fields #[.int (i:Int) N,.int (j:Int) M,.int 1 m.toks] },toks:=m.toks+1 }:=I1.kept fun b o e=>zG _ e
 refine Z6 (n:=j-i) (I.ok.hd T) (IsRange.new ..) (Y3 oM oM oM oM) (by rw[L'];split<;>lia) oM fun h' tk d Z R W f=>?_
 have F:=kx d.toList i (fun k v e=>by
  obtain⟨t,Y⟩:=f.2 k v (by simpa using e);exact⟨t,by rw[Y];congr 1;lia⟩)
 rw[show d.toList.length=j-i by simpa using f.1]at F;exact⟨.ref _,_,J.laid (o:=.lst ((ħ i (j-i)).map fun(q:Nat)=>V.int (q:Int))) R (zP _) ⟨yY (qw (by simp;lia)),d.toList,Z,F,W⟩,rfl,q _ J.fresh⟩
end
def Dg(X:Cx)(O0:List (Ç×Obj))(b:Ç):Prop:=b≠X.env.locals/\b∉X.fs/\(b∈X.ex\/X.s₀.heap.objs.size<=b)/\(∀x c,X.env.cells.lookup x=À c->c≠b)/\∀p∈X.pn++O0,p.1≠b
section
variable{X:Cx}{O0:List (Ç×Obj)}{σ:St}{key:Å}{kw:List (Í×Value)}{l I S:Ç}{ns:List Int}{R:Result->É->Prop}
theorem Bw(hh:X.A.handled=Á)(kf:Nat->Int)(J:Nat->Hp->Prop)(hl:∀i H,J i H->bR X.K H l (ns.map V.int))
  (turn:∀(i:Nat)(n:Int)(u:Å)(pl:List (Ç×Obj))(s:É)(H:Hp),ns[i]?=À n->RelV (V.int n) u->J i H->Inv X (O0++pl) σ H s->(key=.none/\kf i=n/\J (i+1) H) \/
   ∃q,key=.ref q/\Ï (model X.prog X.w) X.A.in1 (call (.ref q) [u]) (EP X (O0++pl) σ (fun y H'=>y=.int (kf i)/\J (i+1) H')) (fun _ _=>False) s)
  (hR:∀(i:Nat)(n:Int)(u:Å)(H:Hp)(s:É),ns[i]?=À n->(∀j,j<ns.length->kf i<=kf j/\(j<i->kf i<kf j))->J ns.length H->Inv X O0 σ H s->RelV (V.int n) u->R (.ok (.ret u)) s)
  (K:Dg X O0 I) (G:Dg X O0 S) (hIS:I≠S) :
  ∀(r j i:Nat)(H:Hp)(s:É)(vb:Å)(tb:Tok)(c:Nat),ns.length-(j+1)=r->j+1<=ns.length->Inv X O0 σ H s->H I=Á->H S=Á ->
   s.heap.get? S=À (Ŵ "list" #[vb,.int (kf i) tb] c)->s.heap.IsListIter I l (j+1)->(∃n,ns[i]?=À n/\RelV (V.int n) vb)->i<=j->J (j+1) H->(∀j',j'<=j->kf i<=kf j'/\(j'<i->kf i<kf j')) ->
   Ō (model X.prog X.w) X.A (.builtin "min.loop" ⟨[.ref I,key,.ref S],kw⟩) R s:=by
 have hname:(toString "min"++toString ".loop":String)="min.loop":=by decide
 intro r
 induction r with
 |zero =>
  intro j i H s vb tb c hr hj Iv nI nS gS it U hij hJ hb;have hin:j+1=ns.length:=by lia
  obtain⟨p,rv,pl,_⟩:=Iv.list (hl _ _ hJ);have Q:p.length=ns.length:=by rw[<- rv.length,zH]
  have hL:s.heap.IsList l p.toArray:=pl.isList;have Z:l≠I:=fun e=>by
   obtain⟨o,E,L,_⟩:=hL;obtain⟨o',e3,e4,_⟩:=it;rw[e,e3]at E;cases E;rw[e4]at L;simp at L
  have W:=Walks.list (prog:=X.prog) (w:=X.w) (A:=X.A.in1) hh I l Z p.toArray;have Y:p.toArray.size=p.length:=zI ..;refine ώ ū ?_;rw[Around.under_plainId ü _];show Ï _ X.A.in1 (Y4 (.ref S)>>=_) _ _ _;refine yE (y! gS rfl ?_);show Ï _ X.A.in1 (tryCatch (z? (.ref I)) _>>=_) _ _ _;refine yE (ķ (W.done _ _ _ ⟨by rw[Y,Q,<- hin];exact it,hL⟩ fun T B D=>?_));have V1:Inv X O0 σ H { s with heap:=T,toks:=B }:=Iv.turned (fun b o a e=>D b o (by simpa using a) e) nI K.1 K.2.2.1 K.2.2.2.1 K.2.2.2.2;have F:=D S _ (by simpa using hIS.symm) gS;show Ï _ X.A.in1 (P9 S (fun _=>#[])>>=_) _ _ _;refine yE ?_;refine ϋ F rfl (yE (ϒ (yF ?_)));obtain⟨n,E,L⟩:=U;have s1:=ŭ T S (Ğ fun _=>(#[]:Array Å));exact hR i n vb H _ E (fun j' hj'=>hb j' oM) (hin▸hJ) (V1.turned (t':=B) (fun b o a e=>(s1.2 b a).trans e) nS G.1 G.2.2.1 G.2.2.2.1 G.2.2.2.2) L
 |succ r ih =>
  intro j i H s vb tb c hr hj Iv nI nS gS it U hij hJ hb;have hlt:j+1<ns.length:=by lia
  obtain⟨p,rv,pl,_⟩:=Iv.list (hl _ _ hJ);have Q:p.length=ns.length:=by rw[<- rv.length,zH]
  have hL:s.heap.IsList l p.toArray:=pl.isList;have Z:l≠I:=fun e=>by
   obtain⟨o,E,L,_⟩:=hL;obtain⟨o',e3,e4,_⟩:=it;rw[e,e3]at E;cases E;rw[e4]at L;simp at L
  have W:=Walks.list (prog:=X.prog) (w:=X.w) (A:=X.A.in1) hh I l Z p.toArray;have Y:p.toArray.size=p.length:=zI ..;refine ώ ū ?_;rw[Around.under_plainId ü _];show Ï _ X.A.in1 (Y4 (.ref S)>>=_) _ _ _;refine yE (y! gS rfl ?_);show Ï _ X.A.in1 (tryCatch (z? (.ref I)) _>>=_) _ _ _;refine yE (ķ (W.item (j+1) _ _ _ (by rw[Y];lia) ⟨it,hL⟩ fun u T B hP hst' D=>?_));have hu:p[j+1]?=À u:=by simpa using hP
  obtain⟨n,hn⟩:∃n,ns[j+1]?=À n:=⟨_,zF hlt⟩;have ru:RelV (V.int n) u:=by
   obtain⟨u',E,L⟩:=rv.get (i:=j+1) (x:=V.int n) (by rw[zR,hn];rfl);rw[hu]at E;cases E;exact L
  have V1:Inv X O0 σ H { s with heap:=T,toks:=B }:=Iv.turned (fun b o a e=>D b o (by simpa using a) e) nI K.1 K.2.2.1 K.2.2.2.1 K.2.2.2.2;have F:=D S _ (by simpa using hIS.symm) gS;have hf:∀b∈[I,S],dU X O0 H b:=fun b a=>by
   rcases zT.mp a with rfl|a
   ·exact⟨nI,K⟩
   ·rw[zM.mp a];exact⟨nS,G⟩
  obtain⟨oI,goI,coI,doI⟩:=hst'.1;have ho:∀b∈[I,S],∃o,T.get? b=À o/\∀v:Option Å,o.data≠.cell v:=fun b a=>by
   rcases zT.mp a with rfl|a
   ·exact⟨_,goI,fun v z=>by rw[doI]at z;cases z⟩
   ·rw[zM.mp a];exact⟨_,F,fun v z=>nomatch z⟩
  have V2:Inv X (O0++gz [I,S] T) σ H { s with heap:=T,toks:=B }:=V1.pinned hf ho
  have O:∀(f:Tok)(H2:Hp)(N:É),Inv X (O0++gz [I,S] T) σ H2 N->J (j+1+1) H2->∀(Rf:S7->É->Prop)(Ef:Å->É->Prop),
    (∀C m g k t3 c3,Inv X O0 σ m C->m I=Á->m S=Á->C.heap.get? S=À (Ŵ "list" #[g,.int (kf k) t3] c3)->C.heap.IsListIter I l (j+1+1)->(∃n,ns[k]?=À n/\RelV (V.int n) g)->k<=j+1->J (j+1+1) m->(∀j',j'<=j+1->kf k<=kf j'/\(j'<k->kf k<kf j')) ->
     Rf (.again (.builtin "min.loop" ⟨[.ref I,key,.ref S],kw⟩)) C) ->
    Ï (model X.prog X.w) X.A.in1 ((do
     let M <- tryCatch (holding [u,.int (kf (j+1)) f] do
      let d <- richCompare .Lt (.int (kf (j+1)) f) (.int (kf i) tb)
      let yes <- holding [d] (truthy d)
      letGo [d]
      pure yes) fun e=>do
       P9 S fun _=>#[]
       letGo ([.int (kf (j+1)) f,u]++[vb,.int (kf i) tb].reverse) [e]
       throw e
     if M=Â then do
      P9 S fun _=>#[u,.int (kf (j+1)) f]
      letGo [.int (kf i) tb,vb]
      again (.builtin "min.loop" ⟨[.ref I,key,.ref S],kw⟩)
     else do
      letGo [u,.int (kf (j+1)) f]
      again (.builtin "min.loop" ⟨[.ref I,key,.ref S],kw⟩)):Y7 S7) Rf Ef N:=by
   intro f H2 N V3 J3 Rf Ef aw;have pI:=V3.pin (I,oI) (zK _ (zK _ (dA (by simp) goI)));have pS:=V3.pin (S,Ŵ "list" #[vb,.int (kf i) tb] c) (zK _ (zK _ (dA (by simp) F)));have V4:Inv X O0 σ H2 N:=V3.unpinned;refine yE (ķ (yR (yE (CmpOf.ints_lt (prog:=X.prog) (w:=X.w) (A:=X.A.in1) (P:=fun i v=>∃t,v=.int (kf i) t) kf (fun i v h=>h) (j+1) i _ _ _ _ _ ⟨f,rfl⟩ ⟨tb,rfl⟩ ?_))));refine yE (yR (Ī ?_));refine yE (ϒ (yF ?_));have it2:N.heap.IsListIter I l (j+1+1):=⟨oI,pI.1,coI,doI⟩;by_cases a:kf (j+1)<kf i
   ·simp only[a,decide_true,if_true]
    have s1:=ŭ N.heap S (Ğ fun _=>#[u,.int (kf (j+1)) f]);obtain⟨c2,hc2⟩:∃c2,(N.heap.update S (Ğ fun _=>#[u,.int (kf (j+1)) f])).get? S=À (Ŵ "list" #[u,.int (kf (j+1)) f] c2):=⟨_,Z5 pS.1 fun _=>#[u,.int (kf (j+1)) f]⟩;refine yE ?_;refine ϋ pS.1 rfl (yE (ϒ (yF ?_)));obtain⟨sh,sg,sd,stk,sos⟩:=N;refine aw _ H2 u (j+1) f c2 (V4.turned (t':=stk) (fun b o hb'' e=>(s1.2 b hb'').trans e) pS.2.1 G.1 G.2.2.1 G.2.2.2.1 G.2.2.2.2) pI.2.1 pS.2.1 hc2 ⟨oI,(s1.2 I hIS).trans pI.1,coI,doI⟩ ⟨n,hn,ru⟩ (zP _) J3 fun j' hj'=>?_
    by_cases e:j'=j+1
    ·subst e
     exact⟨by lia,fun _=>by lia⟩
    ·have hb1:=hb j' oM
     have hb2:=hb1.1;exact⟨by lia,fun _=>by lia⟩
   ·simp only[a,decide_false,yA,if_false]
    refine yE (ϒ (yF ?_));refine aw _ H2 vb i tb c V4 pI.2.1 pS.2.1 pS.1 it2 U oM J3 fun j' hj'=>?_
    by_cases e:j'=j+1
    ·subst e
     exact⟨by lia,fun _=>by lia⟩
    ·exact hb j' oM
  have aw:∀C m g k t3 c3,Inv X O0 σ m C->m I=Á->m S=Á->C.heap.get? S=À (Ŵ "list" #[g,.int (kf k) t3] c3)->C.heap.IsListIter I l (j+1+1)->(∃n,ns[k]?=À n/\RelV (V.int n) g)->k<=j+1->J (j+1+1) m->(∀j',j'<=j+1->kf k<=kf j'/\(j'<k->kf k<kf j')) ->
    ((Code.builtin "min.loop" ⟨[.ref I,key,.ref S],kw⟩).quiet=Â/\Ō (model X.prog X.w) X.A (.builtin "min.loop" ⟨[.ref I,key,.ref S],kw⟩) R C):=fun C m g k t3 c3 a1 a2 a3 a4 a5 a6 a7 a8 a9 =>
   ⟨M! ü _,ih (j+1) k m C g t3 c3 oM hlt a1 a2 a3 a4 a5 a6 a7 a8 a9⟩
  rcases turn (j+1) n u _ _ H hn ru hJ V2 with⟨hk0,hkf,J2⟩|⟨q,hkq,call0⟩
  ·subst hk0
   obtain⟨f,rfl⟩:=ru;refine yE (yF ?_)
   have:=O f H _ V2 J2
   rw[hkf]at this;exact this _ _ aw
  ·subst hkq
   refine yE (ķ (yR (yS call0 (fun x s'' he=>?_) fun _ _ hF=>hF.elim)));obtain⟨y,m,V3,ry,rfl,J3⟩:=he;obtain⟨f,rfl⟩:=ry;exact O f m s'' V3 J3 _ _ aw
end
section
variable{X:Cx}{O0:List (Ç×Obj)}{σ:St}{ko:Option Å}{kws:List (Í×Value)}{l:Ç}{ns:List Int}{H:Hp}{s:É}{Q:VK}{E:Å->É->Prop}
theorem sM(hh:X.A.handled=Á)(kf:Nat->Int)(J:Nat->Hp->Prop)(hl:∀i H,J i H->bR X.K H l (ns.map V.int))
  (hb:ź "min" ["key","default"] 0 ⟨[],kws⟩=pure [ko,À .none]) (ha:C! "min" ⟨[.ref l],kws⟩)
  (turn:∀(i:Nat)(n:Int)(u:Å)(pl:List (Ç×Obj))(s:É)(H:Hp),ns[i]?=À n->RelV (V.int n) u->J i H->Inv X (O0++pl) σ H s->(ko.getD .none=.none/\kf i=n/\J (i+1) H) \/
   ∃q,ko.getD .none=.ref q/\Ï (model X.prog X.w) X.A.in1 (call (.ref q) [u]) (EP X (O0++pl) σ (fun y H'=>y=.int (kf i)/\J (i+1) H')) (fun _ _=>False) s)
  (hQ:∀(i:Nat)(n:Int)(H:Hp),ns[i]?=À n->(∀j,j<ns.length->kf i<=kf j/\(j<i->kf i<kf j))->J ns.length H->Q (.int n) H) (hE:ns=[]->Q .non H)
  (Iv:Inv X O0 σ H s) (J0:J 0 H):Ï (model X.prog X.w) X.A (call (.builtin "min") [.ref l] kws) (EP X O0 σ Q) E s:=by
 have C:(toString "min"++toString ".loop":String)="min.loop":=by decide
 obtain⟨G,rv,pl,_⟩:=Iv.list (hl _ _ J0);have U:G.length=ns.length:=by rw[<- rv.length,zH]
 have hL:s.heap.IsList l G.toArray:=pl.isList;obtain⟨ol,B,_⟩:=id hL;have hll:l<s.heap.objs.size:=yI B;refine kmk_tree PySem.F.kind_min PySem.F.plain_min PySem.F.entry_min ha ?_;show Ï _ X.A.in1 (ź "min" ["key","default"] 0 ⟨[],kws⟩>>=_) _ _ s;refine yE (wpAny_of_eq hb ?_);refine yE (yF ?_);refine yE (ī hL ?_);refine yE (wpAny_newList ?_ (Ě _));rw[C];have hS:(s.heap.push { cls:=.type "list_iterator",data:=.fields #[.ref l,.int 0 0] }).objs.size=s.heap.objs.size+1:=size_push' ..;have hlI:l≠s.heap.objs.size:=zU hll;refine yF ⟨M! ü _,?_⟩;generalize hI:s.heap.objs.size=I at *;generalize hSS:(s.heap.push { cls:=.type "list_iterator",data:=.fields #[.ref l,.int 0 0] }).objs.size=S at *;have nI:H I=Á:=by rw[<- hI];exact Iv.fresh
 have nS:H S=Á:=Iv.O8.fresh (by rw[hS,hI];lia);have D:I≠S:=by rw[hS];lia
 have gI:((s.heap.push { cls:=.type "list_iterator",data:=.fields #[.ref l,.int 0 0] }).push (Ŵ "list" #[] 0)).get? I=À { cls:=.type "list_iterator",data:=.fields #[.ref l,.int 0 0] }:=by
  rw[<- hI];exact zG _ (zY _ rfl)
 have gS:((s.heap.push { cls:=.type "list_iterator",data:=.fields #[.ref l,.int 0 0] }).push (Ŵ "list" #[] 0)).get? S=À (Ŵ "list" #[] 0):=by
  rw[<- hSS];exact zY _ rfl
 have kp:∀b o,s.heap.get? b=À o->((s.heap.push { cls:=.type "list_iterator",data:=.fields #[.ref l,.int 0 0] }).push (Ŵ "list" #[] 0)).get? b=À o:=fun b o e=>zG _ (zG _ e)
 have g:Dg X O0 I:=(Iv.fpOk (b:=I) (Ϥ hI) nI).2;have M:Dg X O0 S:=(Iv.fpOk (b:=S) (by rw[hS,hI];lia) nS).2;generalize hH1:((s.heap.push { cls:=.type "list_iterator",data:=.fields #[.ref l,.int 0 0] }).push (Ŵ "list" #[] 0))=h1 at gI gS kp;have V1:Inv X O0 σ H { s with heap:=h1,toks:=s.toks }:=Iv.kept kp;have Z:h1.IsList l G.toArray:=⟨ol,kp _ _ B,by obtain⟨o2,N,r2⟩:=hL;rw[B]at N;cases N;exact r2⟩;have O:h1.IsListIter I l 0:=⟨_,gI,rfl,rfl⟩;have W:=Walks.list (prog:=X.prog) (w:=X.w) (A:=X.A.in1) hh I l hlI G.toArray;have P:G.toArray.size=G.length:=zI ..;have aw:∀(i:Nat)(n:Int)(u:Å)(H:Hp)(s:É),ns[i]?=À n->(∀j,j<ns.length->kf i<=kf j/\(j<i->kf i<kf j))->J ns.length H->Inv X O0 σ H s->RelV (V.int n) u->EP X O0 σ Q u s :=
  fun i n u H s e1 N e3 e4 e5=>⟨_,H,e4,e5,hQ i n H e1 N e3⟩
 show Ō _ X.A (.builtin "min.loop" ⟨[.ref I,ko.getD .none,.ref S],[("default",.none)]⟩) _ { s with heap:=h1,toks:=s.toks };refine ώ ū ?_;rw[Around.under_plainId ü _];show Ï _ X.A.in1 (Y4 (.ref S)>>=_) _ _ _;refine yE (y! gS rfl ?_);show Ï _ X.A.in1 (tryCatch (z? (.ref I)) _>>=_) _ _ _;by_cases K:ns=[]
 ·subst K
  refine yE (ķ (W.done _ _ _ ⟨by rw[P,U];exact O,Z⟩ fun L p k=>?_));refine yE (wpAny_rule (yF ?_));exact⟨.non,H,V1.turned (fun b o a e=>k b o (by simpa using a) e) nI g.1 g.2.2.1 g.2.2.2.1 g.2.2.2.2,rfl,hE rfl⟩
 ·have T:0<ns.length:=List.length_pos_iff.mpr K
  refine yE (ķ (W.item 0 _ _ _ (by rw[P];lia) ⟨O,Z⟩ fun u L p hP R k=>?_));have hu:G[0]?=À u:=by simpa using hP
  obtain⟨n,K⟩:∃n,ns[0]?=À n:=⟨_,zF T⟩;have ru:RelV (V.int n) u:=by
   obtain⟨u',e1,N⟩:=rv.get (i:=0) (x:=V.int n) (by rw[zR,K];rfl);rw[hu]at e1;cases e1;exact N
  have V2:Inv X O0 σ H { s with heap:=L,toks:=p }:=V1.turned (fun b o a e=>k b o (by simpa using a) e) nI g.1 g.2.2.1 g.2.2.2.1 g.2.2.2.2;have gS':=k S _ (by simpa using D.symm) gS;have hf:∀b∈[I,S],dU X O0 H b:=fun b a=>by
   rcases zT.mp a with rfl|a
   ·exact⟨nI,g⟩
   ·rw[zM.mp a];exact⟨nS,M⟩
  obtain⟨oI,goI,coI,doI⟩:=R.1;have ho:∀b∈[I,S],∃o,L.get? b=À o/\∀v:Option Å,o.data≠.cell v:=fun b a=>by
   rcases zT.mp a with rfl|a
   ·exact⟨_,goI,fun v z=>by rw[doI]at z;cases z⟩
   ·rw[zM.mp a];exact⟨_,gS',fun v z=>nomatch z⟩
  have V3:Inv X (O0++gz [I,S] L) σ H { s with heap:=L,toks:=p }:=V2.pinned hf ho;have c:∀(d:Tok)(H2:Hp)(t:É),Inv X (O0++gz [I,S] L) σ H2 t->J 1 H2 ->
    Ï (model X.prog X.w) X.A.in1 ((do
     P9 S fun _=>#[u,.int (kf 0) d]
     again (.builtin "min.loop" ⟨[.ref I,ko.getD .none,.ref S],[("default",.none)]⟩)):Y7 S7) (fun aw m=>match aw with
      |.done f=>(match (Except.ok f:Result) with|.ok (.ret v)=>EP X O0 σ Q v m|.ok _=>False|.error e=>E e m)
      |.again c'=>c'.quiet=Â/\Ō (model X.prog X.w) X.A c' (fun r m=>match r with|.ok (.ret v)=>EP X O0 σ Q v m|.ok _=>False|.error e=>E e m) m) (fun e m=>E e m) t:=by
   intro d H2 t V4 J2;have pI:=V4.pin (I,oI) (zK _ (zK _ (dA (by simp) goI)));have pS:=V4.pin (S,Ŵ "list" #[] 0) (zK _ (zK _ (dA (by simp) gS')));have V5:Inv X O0 σ H2 t:=V4.unpinned;have s1:=ŭ t.heap S (Ğ fun _=>#[u,.int (kf 0) d]);obtain⟨c2,hc2⟩:∃c2,(t.heap.update S (Ğ fun _=>#[u,.int (kf 0) d])).get? S=À (Ŵ "list" #[u,.int (kf 0) d] c2):=⟨_,Z5 pS.1 fun _=>#[u,.int (kf 0) d]⟩;refine yE ?_;refine ϋ pS.1 rfl (yF ⟨M! ü _,?_⟩);obtain⟨sh,sg,sd,stk,sos⟩:=t;refine Bw hh kf J hl turn aw g M D _ 0 0 H2 _ u d c2 rfl T (V5.turned (t':=stk) (fun b o Y e=>(s1.2 b Y).trans e) pS.2.1 M.1 M.2.2.1 M.2.2.2.1 M.2.2.2.2) pI.2.1 pS.2.1 hc2 ⟨oI,(s1.2 I D).trans pI.1,coI,doI⟩ ⟨n,K,ru⟩ (zP _) J2 fun j' hj'=>?_
   have e:j'=0:=by lia
   subst e;exact⟨by lia,fun h=>absurd h (y0 _)⟩
  rcases turn 0 n u _ _ H K ru J0 V3 with⟨hk0,hkf,J2⟩|⟨q,hkq,F⟩
  ·rw[hk0]at c ⊢
   obtain⟨d,rfl⟩:=ru;refine yE (yF ?_)
   have:=c d H _ V3 J2
   rw[hkf]at this;exact this
  ·rw[hkq]at c ⊢
   refine yE (ķ (yR (yS F (fun x s'' he=>?_) fun _ _ hF=>hF.elim)));obtain⟨y,H3,V4,ry,rfl,J3⟩:=he;obtain⟨d,rfl⟩:=ry;exact c d H3 s'' V4 J3
end
end L2
namespace R
open PySem PySem.Spec PyProof.Rows L2
theorem Aw:∀{ps:List Í}{us:List Å},ps.Nodup->us.length=ps.length->ps.filterMap (fun n=>((ps.zip us).lookup n).map fun v=>(n,v))=ps.zip us/\ps.filter (fun n=>((ps.zip us).lookup n).isNone)=[]:=by
 have g:∀{ps:List Í}{us:List Å},us.length=ps.length->∀n∈ps,((ps.zip us).lookup n).isSome=Â:=by
  intro ps
  induction ps with
  |nil=>intro us _ n d;cases d
  |cons p ps i =>
   intro us c n d;cases us with
   |nil=>cases c
   |cons u us =>
    rw[ě,yN];cases o:n==p with
    |true=>rfl
    |false =>
     rcases zT.mp d with rfl|d
     ·simp at o
     ·exact i (by simpa using c) n d
 intro ps us f c;refine⟨?_,v!.mpr fun n d=>by
  have:=g c n d
  cases h:(ps.zip us).lookup n with
  |none=>rw[h]at this;cases this
  |some v=>simp⟩
 have k:∀(a:List Í)(b:List Å),a.Nodup->b.length=a.length->∀l:List (Í×Value),(∀q∈a,l.lookup q=(a.zip b).lookup q)->a.filterMap (fun n=>(l.lookup n).map fun v=>(n,v))=a.zip b:=by
  intro a
  induction a with
  |nil=>intro b _ _ l _;rfl
  |cons q a i =>
   intro b f c l h;cases b with
   |nil=>cases c
   |cons v b =>
    have j:=h q z7;rw[ě,yN]at j;simp only[beq_self_eq_true]at j;rw[þ,j];rw[Ŀ]at f
    have:=i b f.2 (by simpa using c) l fun p m=>by
     have:=h p (zQ _ m)
     rw[ě,yN]at this;have ne:(p==q)=Ã:=by
      have:p≠q:=fun e=>f.1 (e▸m)
      simpa using this
     rw[ne]at this;exact this
    simp only[Û];rw[this];rfl
 exact k ps us f c _ fun _ _=>rfl
noncomputable def plainA(a:ϡ):Bool:=a.posonlyargs.isEmpty&&a.vararg.isNone&&a.kwonlyargs.isEmpty&&a.kwarg.isNone
theorem bind_plain(g:plainA fd.params=Â)(hd:fd.defaults=.none)(m:(fd.params.args.map (·.arg)).Nodup)(i:us.length=(fd.params.args.map (·.arg)).length):B? fd ⟨us,[]⟩=pure ((fd.params.args.map (·.arg)).zip us):=by
 obtain⟨l,j⟩:=Aw m i;obtain⟨_,_,⟨_,d,_,_,_⟩,_,_,_,_,t,_,_,_,_,_,_,_⟩:=fd;unfold plainA at g;simp only[zC,é,Option.isNone_iff_eq_none]at g;obtain⟨⟨⟨r,q⟩,p⟩,o⟩:=g;dsimp only at r q p o hd m i l j ⊢;cases r;cases q;cases p;cases o;cases hd;have k:∀{s:Type}{c:Prop} [Decidable c] {a b x:s},¬c->b=x->(if c then a else b)=x:=fun h e=>(yG h).trans e
 unfold B?;show(if(decide (us.length > (d.map (·.arg)).length)&&Â)=Â then _ else _)=_;refine k (by simp[i]) ?_;show(if(!(((d.map (·.arg)).take ((d.map (·.arg)).length-(([]:List Å).drop (0-(d.map (·.arg)).length)).length)).filter (fun n=>(((d.map (·.arg)).zip us).lookup n).isNone)).isEmpty)=Â then _ else _)=_;refine k (by rw[X0,V0,Ϣ,Ĭ,j];decide) ?_;show forIn (((d.map (·.arg)).drop ((d.map (·.arg)).length-(([]:List Å).drop (0-(d.map (·.arg)).length)).length)).zip (([]:List Å).drop (0-(d.map (·.arg)).length))) ((d.map (·.arg)).zip us) _>>=_=_;rw[X0,List.zip_nil_right];exact congrArg (pure (f:=Y7)) ((congrArg (List.filterMap _) (ó _)).trans l)
end R
namespace L2
open PySem PySem.Spec PyProof.Rows
def jN(mg:Í->Option Å)(base:è):Prop:=∃bm o,mg "__builtins__"=À (.ref bm)/\bm≠ĕ/\bm≠Ð/\base.get? bm=À o/\o.cls=.type "module"/\o.dict=À ĕ/\o.data=.plain
noncomputable def gB(c:Ç)(q:Í):HO:=.ext fun h=>h.CodeRec (.ref c) q
section
variable{X:Cx}{O0:List (Ç×Obj)}{σ:St}{H:Hp}{s:É}
theorem Inv.grown{t':Nat}(I:Inv X O0 σ H s)(a:H P=À (.tbl ps))(m:Z1 P s.heap h')(x:s.heap.objs.size<=c')(E:h'.CodeRec (.ref c') q)
  (F:h'.get? P=À (S4 (ps++more))):Inv X O0 σ (ah (ah H P (.tbl (ps++more))) c' (gB c' q)) { s with heap:=h',toks:=t' }:=by
 have A:s.heap.get? P=À (S4 ps):=I.O8 P _ a;have w:H c'=Á:=I.O8.fresh x;have y:P≠c':=zU (zJ (yI A) x);have h:∀b u,H b=À u->b≠c':=fun b u e z=>by rw[z,w]at e;cases e
 have f:∀b,b≠P->b≠c'->ah (ah H P (.tbl (ps++more))) c' (gB c' q) b=H b:=fun b j g=>by rw[ad g,ad j]
 refine I.un ⟨fun b o e n _ _=>m b o (fun z=>by rw[z,a]at n;cases n) e,fun b o e n _ _=>⟨o.slots,m b o (fun z=>by rw[z,a]at n;cases n) e⟩,fun b o e n _=>?_,fun b o e _=>?_,fun b J e=>?_,fun b o u e=>?_,fun b K e=>?_⟩ fun b u e=>?_
 ·rw[f b (fun z=>by rw[z,a]at n;cases n) (zU (zJ (yI e) x))];exact n
 ·by_cases i:b=P
  ·exact⟨_,i▸F⟩
  ·exact⟨o,m b o i e⟩
 ·rw[f b (fun z=>by rw[z,a]at e;cases e) (h _ _ e)];exact e
 ·rw[f b (fun z=>by rw[z,a]at e;cases e) (h _ _ e)];exact e
 ·by_cases i:b=P
  ·subst i
   rw[a]at e;cases e;exact⟨more,by rw[ad y,aD]⟩
  ·exact⟨#[],by rw[f b i (h _ _ e),e];simp⟩
 ·by_cases j:b=c'
  ·subst j
   rw[aD]at e;cases e;obtain⟨c,p,D,t,C,B,G⟩:=id E;cases C;refine⟨E,⟨p,B⟩,fun j g r k=>?_⟩;obtain⟨c,p,D,t,C,B,G⟩:=r;cases C;exact⟨_,p,D,t,rfl,k _ B,G⟩
  ·rw[ad j]at e
   by_cases g:b=P
   ·subst g
    rw[aD]at e;cases e;exact F
   ·rw[ad g]at e
    refine(I.O8 b u e).stay (fun d v hd q=>m d v (fun z=>?_) q) (fun d q=>?_) fun d J q=>?_
    ·rcases hd with l|l
     ·exact g (l.symm.trans z)
     ·rw[z,a]at l;cases l
    ·rw[f d (fun z=>by rw[z,a]at q;cases q) (h _ _ q)];exact q
    ·rw[f d (fun z=>by rw[z,a]at q;cases q) (h _ _ q)];exact q
abbrev wP(mg:Í->Option Å)(qual:Í)(params:ϡ)(body:Î)(scope:ĝ)(cl:List (Í×Addr))(cv ctv:Å):Y9 :=
 { cls:=.type "function",data:=.func (kla_fn "<lambda>" qual params body scope cl ((mg "__name__").getD .none) cv ctv) }
def gw(H:Hp)(P:Ç)(pos:ė)(q:Í):Prop:=∃ps,H P=À (.tbl ps)/\TriplesOk ps.toList/\(codeAmong pos ps.toList=Á\/∃c,codeAmong pos ps.toList=À (.ref c)/\H c=À (gB c q))
theorem BE(I:Inv X O0 σ H s)(l:W7 params X.env=([],[]))(hcode:X.env.code=.ref c)
  (C:X1 X.base c P) (B:jN X.mg X.base) (m:W8 scope X.env=pure cl) (T:gw H P pos (X.env.qual++"<lambda>"))
  (h:∀f c' ctv H' s',(H'=H\/∃ps more,H P=À (.tbl ps)/\H c'=Á/\P≠c'/\H'=ah (ah H P (.tbl (ps++more))) c' (gB c' (X.env.qual++"<lambda>")))->gw H' P pos (X.env.qual++"<lambda>")->H' c'=À (gB c' (X.env.qual++"<lambda>")) ->
   Inv X (O0++[(f,wP X.mg (X.env.qual++"<lambda>") params body scope cl (.ref c') ctv)]) σ H' s'->Q (.ref f) s') :
  Ï (model X.prog X.w) X.A (eval (.Lambda params body scope pos) X.env) Q E s:=by
 refine kla_eval l ?_;obtain⟨ps,r,i,x⟩:=T;have y:s.heap.get? P=À (S4 ps):=I.O8 P _ r;have G:s.heap.Ns Ð X.mg:=I.mod.glob.keeps I.bk;have F:Ð≠P:=fun q=>by
  obtain⟨o,es,ep,e,hd,_⟩:=G;rw[q,y]at e;cases e;cases hd
 obtain⟨O,R,b1,b2,b3,V,b5,b6,b7⟩:=B;have L:O≠P:=fun q=>by
  have:=(I.bs O R V).2
  rw[q,r]at this;cases this
 have U:s.heap.BuiltinsAt X.mg P:=⟨O,R,b1,b2,b3,L,I.bk _ _ V,b5,b6,b7⟩;have Y:X1 s.heap c P:=C.keeps I.bk
 have last:∀(A:Hp)(g:è)(a:Nat)(o:Y9),Inv X O0 σ A { s with heap:=g,toks:=a }->(∀v,o.data≠.cell v)->o.isFreed=Ã->Inv X (O0++[(g.objs.size,o)]) σ A { s with heap:=g.push o,toks:=a }:=by
  intro A g a o J hd K;have W:Inv X O0 σ A { s with heap:=g.push o,toks:=a }:=J.kept fun b u e=>zG _ e
  have N:=J.fpOk (b:=g.objs.size) (zP _) J.fresh;refine W.pins_of fun p k=>?_
  rcases zZ.mp k with k|k
  ·exact W.pin p (zK _ k)
  ·rw[zM.mp k]
   exact⟨zY _ K,N.1,N.2.1,N.2.2.1,hd⟩
 rcases x with S|⟨c',x,w⟩
 ·refine kla_makeFunction (mg:=X.mg) m I.ok.glob G hcode Y y i S F U fun c' ctv M t w d Z j D=>?_
  have n:P≠c':=zU (zJ (yI y) d);have J:=I.grown (t':=t) r w d j D;have e1:ah (ah H P (.tbl (ps++#[z! pos.line,z! pos.col,.ref c']))) c' (gB c' (X.env.qual++"<lambda>")) P=À (.tbl (ps++#[z! pos.line,z! pos.col,.ref c'])):=by rw[ad n,aD]
  refine h _ c' ctv _ _ (.inr ⟨ps,_,r,I.O8.fresh d,n,rfl⟩) ⟨_,e1,?_,.inr ⟨c',?_,aD⟩⟩ aD (last _ M t _ J (fun v z=>nomatch z) rfl)
  ·rw[K?];exact TriplesOk_snoc _ _ _ _ i
  ·rw[K?];exact codeAmong_snoc _ i S
 ·refine kla_makeFunctionHit (mg:=X.mg) m I.ok.glob G hcode Y y i x U fun ctv M t hk d=>?_
  exact h _ c' ctv H _ (.inl rfl) ⟨ps,r,i,.inr ⟨c',x,w⟩⟩ w (last H M t _ (I.kept hk) (fun v z=>nomatch z) rfl)
def tQ(X:Cx)(N':List Í)(scope:ĝ)(cl:List (Í×Addr))(f:Ç)(qual:Í)(cd:Å)(A:ć)(s:É)(H:Hp):Cx :=
 { X with N:=N',s₀:=s,H₀:=H,env:=W6 scope s.heap.objs.size Ð cl (qual++".<locals>.") (À f) cd Á ĕ,outer:=X.stack,stack:=W6 scope s.heap.objs.size Ð cl (qual++".<locals>.") (À f) cd Á ĕ::X.stack,
          A:=A.deeper (W6 scope s.heap.objs.size Ð cl (qual++".<locals>.") (À f) cd Á ĕ),ex:=[],fn:=fun _=>Ã,calm:=Â,pn:=[],xe:=fun _ _=>False }
structure xm(X:Cx)(N':List Í)(scope:ĝ)(x:Í):Prop where
 cy:jX X N' scope
 co:scope.isCoroutine=Ã
 gen:scope.isGenerator=Ã
 len:N'.length=X.N.length+1
 own:N'[X.N.length]?=À x
 loc:scope.names.lookup x=À .local
 nc:∀y∈scope.names,y.2≠.cell
theorem BY{t':Nat}(T:xm X N' scope x)(I:Inv X O0 σ H s)(J:A.frames=À X.stack)(Z:A.handled=Á)
  (g:∀p∈cl,X.env.cells.lookup p.1=À p.2) (G:∀x,(x,Ù)∈scope.names->∃c,(x,c)∈cl) (r:RelV v u)
  (W:h'.Ns s.heap.objs.size (fun y=>[(x,u)].reverse.lookup y)) (S:Į s.heap.objs.size (s.heap.push { cls:=.type "frame",data:=.dict #[] }) h') :
  Inv (tQ X N' scope cl f qual cd A s H) [] (σ++[À v]) H { s with heap:=h',toks:=t' }:=by
 have d:∀b o,s.heap.get? b=À o->h'.get? b=À o:=fun b o e=>(S.2 b (zU (yI e))).trans (zG _ e)
 have look:∀x,(x,Ù)∈scope.names->∃c,cl.lookup x=À c/\X.env.cells.lookup x=À c:=fun x R=>by
  obtain⟨c,C⟩:=G x R;obtain⟨N,B⟩:=gg C;exact⟨N,B,g _ (mem_of_lookup B)⟩
 have j:∀ b:Ç,b ∉ (tQ X N' scope cl f qual cd A s H).ex:=fun b z=>absurd (show b ∈ ([]:List Ç) from z) (by simp)
 refine⟨⟨I.ok.mod,T.cy.kind,rfl,rfl,zP _,fun y z c h1 h2=>?_,fun y l=>?_,fun y c h=>(by cases h),fun _=>Z,Around.frames_deeper J,.inr ⟨rfl,rfl⟩,fun b z=>absurd z (j b),I.bs,z5 I.ok.bsz I.sz,fun b _ _=>j b,fun b z=>absurd z (j b),I.stack,I.stkFree⟩,
  rfl,I.bare,Un.kept d,⟨_,W,fun i y w q n e3=>?_⟩,fun y c h=>?_,I.O8.fresh (zP _),fun y c h=>?_,fun p U=>absurd (show p∈([]:List (Ç×Obj)) from U) (by simp),I.O8.kept d,?_⟩
 ·exact I.ok.inj y z c (g _ (mem_of_lookup h1)) (g _ (mem_of_lookup h2))
 ·have l:scope.names.lookup y=À .cell\/scope.names.lookup y=À .free:=l
  rcases l with l|l
  ·exact absurd rfl (T.nc _ (mem_of_lookup l))
  ·obtain⟨c,C,_⟩:=look y (mem_of_lookup l)
   exact⟨c,C⟩
 ·have M:=I.len
  rcases yT i σ.length with F|F
  ·rw[zN F]at n
   have t:∃k,(y,k)∈scope.names:=by
    rcases e3 with h|h|h<;>exact⟨_,mem_of_lookup h⟩
   have a:=T.cy.hid i y oM q t;have eX:=T.cy.same i y oM q a;have kX:=T.cy.free y a;obtain⟨m,V,Y⟩:=I.loc;obtain⟨O,P,lk⟩:=Y i y w eX n (by rcases kX with h|h;exact .inr (.inl h);exact .inr (.inr h));refine⟨O,P,.inr ⟨.inr (di T.cy.nd a),?_⟩⟩;rcases lk with⟨L,_⟩|⟨_,c,C,z⟩
   ·rcases kX with h|h<;>rw[h]at L<;>cases L
   ·obtain⟨N,Q,K⟩:=look y a
    rw[C]at K;cases K;exact⟨c,Q,z.keeps d⟩
  ·rw[z6 F]at n
   have E:i-σ.length=0:=by
    rcases Nat.eq_zero_or_pos (i-σ.length) with z|z
    ·exact z
    ·rw [ä (show [À v].length <= _ from z)] at n;cases n
   rw[E]at n;cases n;have D:i=X.N.length:=by lia
   subst D;have q:N'[X.N.length]?=À y:=q;rw[T.own]at q;cases q;exact⟨u,r,.inl ⟨T.loc,by simp⟩⟩
 ·obtain⟨w,z⟩:=I.cell y c (g _ (mem_of_lookup h))
  exact⟨w,z.keeps d⟩
 ·exact I.freeC y c (g _ (mem_of_lookup h))
 ·show(σ++[À v]).length=N'.length
  rw[zV,I.len,T.len];rfl
theorem BG(T:xm X N' scope x)(I:Inv X O0 σ H s)(m:A.frames=À X.stack)(K:A.handled=Á)
  (hd:A.depth<ϔ) (n:∀p∈cl,X.env.cells.lookup p.1=À p.2) (l:∀x,(x,Ù)∈scope.names->∃c,(x,c)∈cl) (F:R.plainA params=Â) (a:params.args.map (·.arg)=[x])
  (L:s.heap.get? f=À (wP X.mg qual params body scope cl (.ref c') ctv)) (D:s.heap.CodeRec (.ref c') qual)
  (he:∀s H,PE (tQ X N' scope cl f qual (.ref c') A s H) body te) (r:RelV v u) (h:te (σ++[À v]) H Q) :
  Ï (model X.prog X.w) A (call (.ref f) [u]) (EP X O0 σ Q) E s:=by
 refine y? (kla_callFunE hd L rfl T.co T.gen rfl D ?_);have M:B? (kla_fn "<lambda>" qual params body scope cl ((X.mg "__name__").getD .none) (.ref c') ctv) ⟨[u],[]⟩=pure [(x,u)]:=by
  have:=R.bind_plain (fd:=kla_fn "<lambda>" qual params body scope cl ((X.mg "__name__").getD .none) (.ref c') ctv) (us:=[u]) F rfl (by show(params.args.map (·.arg)).Nodup;rw[a];simp) (by show _=(params.args.map (·.arg)).length;rw[a];rfl)
  rw[this];show pure ((params.args.map (·.arg)).zip [u])=_;rw[a];rfl
 rw[M];refine yF ?_;refine wpAny_newFunctionEnv (around:=Á) (fun y j=>T.nc y j) (fun y j=>by rw[zM.mp j];exact T.loc) (fun t G g=>?_) T.cy.kind;have g:Į s.heap.objs.size (s.heap.push { cls:=.type "frame",data:=.dict #[] }) t:=g;have d:∀b o,s.heap.get? b=À o->t.get? b=À o:=fun b o e=>(g.2 b (zU (yI e))).trans (zG _ e)
 refine⟨I.nolimit.keeps d,kla_codeExpr ?_⟩;have J:=BY (cd:=.ref c') (f:=f) (qual:=qual) (t':=s.toks+[(x,u)].length) T I m K n l r G g;refine yS (he s H [] _ (σ++[À v]) H Q J h) (fun w B k=>?_) fun e B z=>z.elim
 obtain⟨y,N,i,C,q⟩:=k;exact I.after ⟨y,N,i.os,i.bare,i.base,i.O8,C,q⟩
end
theorem zd(h:iP k v=Â):RelV (kV k) v:=by
 cases k with
 |inl i =>
  cases v <;> first | (cases h;done) | skip
  rename_i j t;have e:j=i:=by simpa [iP,C?] using h
  subst e;exact⟨t,rfl⟩
 |inr x =>
  cases v <;> first | (cases h;done) | skip
  rename_i y t;have e:y=x:=by simpa [iP,g?] using h
  subst e;exact⟨t,rfl⟩
theorem EI{a:Type}{O1:List (a×V)}{vs:List (a×Value)}(r:KV O1 vs):O1.map (·.1)=vs.map (·.1):=by
 induction r with
 |nil=>rfl
 |cons h t b=>simp only[zO];rw[h.1,b]
def LG(d:Ç)(o:Y9)(O1:List (ba×V)):It :=
 ⟨fun i H=>H d=À (.frz o (.dK O1))/\i<O1.length,fun i H x H'=>H'=H/\(O1.map fun p=>kV p.1)[i]?=À x,fun i H=>H d=À (.frz o (.dK O1))/\O1.length<=i⟩
theorem tG{b:Nat}(I:Inv X O0 σ H s)(h:H d=À (.frz o (.dK O1)))(a:o.data=.dict es b) :
  ∃vs,KV O1 vs/\s.heap.DictAt (cz X.prog X.w) d vs b:=by
 obtain⟨e,_,_,vs,r,l,g,i,c,k,f,j⟩:=I.O8 d _ h;rw[e]at c;cases c;rw[a]at f;cases f;exact⟨vs,r,o,es,e,k,a,j⟩
theorem xx{P:Ò}{w:Ú}{K:Þ}{Y:Î}{d:Ç}{o:Y9}{O1:List (ba×V)}{es:Array DictEntry}{U:Nat}(it:Ç)(hd:o.data=.dict es U):jW P w K Y (LG d o O1) [it] it (fun i h=>h.IsKeyIter it d i O1.length U) where
 mem:=by simp
 obj:=fun i h a b g=>by
  obtain rfl:b=it:=by simpa using g
  obtain⟨o,e,c,d⟩:=a;exact⟨o,e,fun v z=>by rw[d]at z;cases z⟩
 keep:=fun i h y a k=>let⟨o,e,r⟩:=a;⟨o,k it (by simp) _ e,r⟩
 item:=by
  intro X D C F T i W s R H E I x a f;subst D C F;obtain⟨f,hi⟩:=f;obtain⟨l,r,O⟩:=tG I f hd;have u:O1.length=l.length:=Paired.length r;obtain⟨N,M,f2,L,J,G⟩:=x it (by simp);obtain⟨q,S⟩:∃q,l[i]?=À q:=⟨_,zF oM⟩;have j:O1[i]?.map (·.1)=l[i]?.map (·.1):=by
   rw[<- zR,<- zR,EI r]
  rw[u]at a;refine wpAny_pyNext_dict_item a O (k:=q.1) (v:=q.2) S fun B y t m Z=>?_
  have I1:Inv X W R H { s with heap:=y }:=I.turned (t':=s.toks) (fun b o g e=>(Z.2 b g).trans e) N M L J G;obtain⟨o',e,c,dd⟩:=id m;refine⟨B,rfl,mB (s:={ s with heap:=y }) e c dd dC ⟨kV q.1,H,I1,zd t,⟨rfl,?_⟩,by rw[u];exact m,fun b g=>(x b g).1⟩⟩;rw[zR];rw[S]at j;cases n:O1[i]? with
  |none=>rw[n]at j;cases j
  |some p=>rw[n]at j;simp at j;simp[j]
 done:=by
  intro X D C F T i W s R H E I x a f;subst D C F;obtain⟨f,hi⟩:=f;obtain⟨l,r,O⟩:=tG I f hd;have u:O1.length=l.length:=Paired.length r;obtain⟨N,M,f2,L,J,G⟩:=x it (by simp);rw[u]at a;exact wpAny_pyNext_dict_end (I.ok.hd T) a O (ä oM) fun y eb=>⟨rfl,I.turned (t':=s.toks) (fun b o g e=>eb b o g e) N M L J G⟩
 self:=fun A i s Q E a h=>wpAny_pyIter_keyiter a h
section
variable{X:Cx}{O0:List (Ç×Obj)}{σ:St}{H:Hp}{s:É}{d:Ç}{O1:List (ba×V)}{o:Y9}
theorem Inv.frzD(I:Inv X O0 σ H s)(h:H d=À (.dK O1))(e:s.heap.get? d=À o):Inv X O0 σ (ah H d (.frz o (.dK O1))) { s with toks:=s.toks }:=by
 have ne:∀b u,H b=À u->(∀O1,u≠.dK O1)->b≠d:=fun b u q n z=>by rw[z,h]at q;cases q;exact n _ rfl
 refine I.un (h':=s.heap) ⟨fun b o e _ _ _=>e,fun b o e _ _ _=>⟨o.slots,e⟩,fun b o e n _=>by rw[ad (fun z=>by rw[z,h]at n;cases n)];exact n,fun b o e _=>⟨o,e⟩,fun b g q=>by rw[ad (ne b _ q fun _ z=>nomatch z)];exact q,fun b o u q=>by rw[ad (ne b _ q fun _ z=>nomatch z)];exact q,
  fun b i q=>⟨#[],by rw[ad (ne b _ q fun _ z=>nomatch z),q];simp⟩⟩ fun b u q=>?_
 have a:∀b u,H b=À u->ObjOk X.prog X.w (ah H d (.frz o (.dK O1))) s.heap b u:=fun b u q=>(I.O8 b u q).stay (fun _ _ _ z=>z) (fun c z=>by rw[ad (ne c _ z fun _ y=>nomatch y)];exact z) fun c g z=>by rw[ad (ne c _ z fun _ y=>nomatch y)];exact z
 by_cases f:b=d
 ·subst f;rw[aD]at q;cases q;exact⟨e,a _ _ h⟩
 ·rw[ad f]at q;exact a b u q
theorem Inv.thawD(I:Inv X O0 σ H s)(h:H d=À (.frz o (.dK O1)))(t:∀o u,X.H₀ d≠À (.frz o u)):Inv X O0 σ (ah H d (.dK O1)) s:=by
 have ne:∀b u,H b=À u->(∀o l,u≠.frz o l)->b≠d:=fun b u q n z=>by rw[z,h]at q;cases q;exact n _ _ rfl
 have f:∀b,H b=Á->b≠d:=fun b q z=>by rw[z,h]at q;cases q
 have w:HOk X.prog X.w (ah H d (.dK O1)) s.heap:=fun b u q=>by
  have i:∀b u,H b=À u->ObjOk X.prog X.w (ah H d (.dK O1)) s.heap b u:=fun b u q=>(I.O8 b u q).stay (fun _ _ _ z=>z) (fun c z=>by rw[ad (ne c _ z fun _ _ y=>nomatch y)];exact z) fun c g z=>by rw[ad (ne c _ z fun _ _ y=>nomatch y)];exact z
  by_cases k:b=d
  ·subst k;rw[aD]at q;cases q;exact(i _ _ h).2
  ·rw[ad k]at q;exact i b u q
 refine⟨I.ok,I.os,I.bare,⟨I.base.keep,I.base.slot,fun b o e n j=>by rw[ad (f b (I.base.free b o e n j))];exact I.base.free b o e n j,I.base.there,fun b g e=>by rw[ad (ne b _ (I.base.tups b g e) fun _ _ y=>nomatch y)];exact I.base.tups b g e,
  fun b o u e=>by rw[ad (fun z=>t o u (by rw[<- z];exact e))];exact I.base.frzs b o u e,fun b m e=>?_⟩,I.loc,I.cell,by rw[ad (f _ I.free)];exact I.free,fun x c e=>by rw[ad (f _ (I.freeC x c e))];exact I.freeC x c e,
  fun p r=>by obtain⟨a1,a2,v⟩:=I.pin p r;exact⟨a1,by rw[ad (f _ a2)];exact a2,v⟩,w,I.len⟩
 obtain⟨a,q⟩:=I.base.tbls b m e;exact⟨a,by rw[ad (ne b _ q fun _ _ y=>nomatch y)];exact q⟩
end
section
variable{X:Cx}{tg iter:Î}{te:TE}
def J8(n0:Hp)(te:TE):TI:=fun σ H R=>te σ H fun x H1=>∃d O1,x=.ref d/\H1 d=À (.dK O1)/\∀o,(∀o u,n0 d≠À (.frz o u))->R (LG d o O1) (ah H1 d (.frz o (.dK O1)))
theorem Ej(i:PE X iter te):PI X tg iter (J8 X.H₀ te):=by
 intro r s l H R I h;refine ar (i r s l H _ I h) fun v a g=>?_
 obtain⟨x,F,k,r1,d,O1,e,hd,q⟩:=g;subst e;cases r1;obtain⟨hz,c,m,t,f,A,B,n,D,p,C⟩:=k.O8 d _ hd;have i:O1.length=m.length:=Paired.length t;have w:∀o u,X.H₀ d≠À (.frz o u):=fun o u z=>by
  have:=k.base.frzs d o u z
  rw[hd]at this;cases this
 have j:=k.frzD hd n;refine wpAny_pyIter_dict c (knd:=cz X.prog X.w) ⟨f,A,n,D,p,C⟩ ?_;have E:Inv X r l (ah F d (.frz f (.dK O1))) { a with heap:=a.heap.push { cls:=.type "dict_keyiterator",data:=.fields #[.ref d,.int 0 0,.int m.length 0,.int B 0] },toks:=a.toks }:=j.kept fun b o e=>zG _ e
 refine⟨a.heap.objs.size,[a.heap.objs.size],_,_,_,rfl,E,xx (O1:=O1) _ p,⟨_,zY _ rfl,rfl,by rw[i];rfl⟩,fun b y=>?_,q f w⟩;obtain rfl:b=a.heap.objs.size:=by simpa using y
 exact j.fpOk (zP _) j.fresh
def re(n0:Hp)(D:kU):kU:={ nx:=fun σ H=>∃d o O1,H d=À (.frz o (.dK O1))/\(∀o u,n0 d≠À (.frz o u))/\D.nx σ (ah H d (.dK O1)),rt:=fun v H=>∃d o O1,H d=À (.frz o (.dK O1))/\(∀o u,n0 d≠À (.frz o u))/\D.rt v (ah H d (.dK O1)) }
theorem D0{st:ľ}{t:TS}(h:PS X st t):PS X st (fun D σ H=>t (re X.H₀ D) σ H):=by
 intro g s σ H D I q;refine ar (h g s σ H (re X.H₀ D) I q) fun f j b=>?_
 cases f with
 |next=>obtain⟨a,i,J,d,o,c,e,n,q⟩:=b;exact⟨a,_,J.thawD e n,q⟩
 |ret u=>obtain⟨v,a,i,J,r,d,o,c,e,n,q⟩:=b;exact⟨v,a,_,J.thawD e n,r,q⟩
 |brk=>obtain⟨_,_,_,q⟩:=b;exact q.elim
 |cont=>obtain⟨_,_,_,q⟩:=b;exact q.elim
end
end L2
namespace R
open PySem L2
inductive AV where
 |non|bl (b:Bool)|int (i:Int)|str (x:Í)|ref (k:Nat)|tup (xs:List AV)|fz (xs:List AV)
inductive O3 where
 |lst (xs:List AV)|al (t:AV)|dK (O1:List (ba×AV))|dT (O1:List (List ba×AV))|ins (c:Í) (fs:List (Í×AV))|wk (O1:List (ba×AV))
abbrev aa:=List O3
abbrev Sl:=List (Option AV)
abbrev Pr:=Ç->Prop
class O2 where
 tb:List (Ç×Pos×Str)
structure Gm where
 K:Þ
 mg:Í->Option Å
def FLk(mg:Gm)(P:Pr)(H:Hp)(a:Ç)(vs:List V):Prop:=(P a/\Rd H a (.lst vs))\/∀H',bR mg.K H' a vs
mutual
def RA(mg:Gm)(P:Pr)(H:Hp)(φ:List Ç):AV->V->Prop
 |.non,v=>v=.non
 |.bl b,v=>v=.bl b
 |.int i,v=>v=.int i
 |.str x,v=>v=.str x
 |.ref k,v=>∃a,φ[k]?=À a/\v=.ref a
 |.tup xs,v=>∃a vs,v=.ref a/\P a/\H a=À (.tup vs)/\O6 mg P H φ xs vs
 |.fz xs,v=>∃a vs,v=.ref a/\FLk mg P H a vs/\O6 mg P H [] xs vs
def O6(mg:Gm)(P:Pr)(H:Hp)(φ:List Ç):List AV->List V->Prop
 |[],vs=>vs=[]
 |x::xs,vs=>∃v ws,vs=v::ws/\RA mg P H φ x v/\O6 mg P H φ xs ws
end
theorem bg:O6 mg P H φ [] []:=by simp only[O6]
theorem aU(h:RA mg P H φ x v)(t:O6 mg P H φ xs vs):O6 mg P H φ (x::xs) (v::vs):=by simp only[O6];exact⟨v,vs,rfl,h,t⟩
structure Frm(P:Pr)(φ:List Ç)(H:Hp)(P':Pr)(φ':List Ç)(H':Hp):Prop where
 ext:∀a,P a->P' a/\H' a=H a
 new:∃more,φ'=φ++more/\∀a∈more,H a=Á
 keep:∀a,H a≠Á->a∉φ->(∀ps,H a≠À (.tbl ps))->H' a=H a
 pn:∀a,P' a->P a\/H a=Á\/a∈φ
 sm:∀a,H a≠Á->H' a≠Á
 fz:∀a o u,H a=À (.frz o u)->H' a=À (.frz o u)
theorem Frm.refl:Frm P φ H P φ H:=⟨fun _ h=>⟨h,rfl⟩,⟨[],by simp,by simp⟩,fun _ _ _ _=>rfl,fun _ h=>.inl h,fun _ h=>h,fun _ _ _ h=>h⟩
theorem Frm.trans{P p n:Pr}{φ d c:List Ç}{H k q:Hp}(a:Frm P φ H p d k)(b:Frm p d k n c q):Frm P φ H n c q:=by
 obtain⟨s,j,i⟩:=a.new;obtain⟨m2,t,r⟩:=b.new;have l:∀x,k x=Á->H x=Á:=fun x h=>by
  cases e:H x with
  |none=>rfl
  |some o=>exact absurd h (a.sm x (by rw[e];exact fun z=>nomatch z))
 refine⟨fun x h=>?_,⟨s++m2,by rw[t,j,yM],fun x h=>?_⟩,fun x f g m=>?_,fun x h=>?_,fun x h=>b.sm x (a.sm x h),fun x o u h=>b.fz x o u (a.fz x o u h)⟩
 ·obtain⟨f,e⟩:=a.ext x h
  obtain⟨g,v⟩:=b.ext x f;exact⟨g,v.trans e⟩
 ·rcases zZ.mp h with h|h
  ·exact i x h
  ·exact l x (r x h)
 ·have e:=a.keep x f g m
  refine(b.keep x (by rw[e];exact f) (fun z=>?_) (by rw[e];exact m)).trans e;rw[j]at z;rcases zZ.mp z with z|z
  ·exact g z
  ·exact f (i x z)
 ·rcases b.pn x h with h|h|h
  ·exact a.pn x h
  ·exact .inr (.inl (l x h))
  ·rw[j]at h
   rcases zZ.mp h with h|h
   ·exact .inr (.inr h)
   ·exact .inr (.inl (i x h))
theorem Rd.at(h:Rd H a u)(e:H' a=H a):Rd H' a u:=by
 rcases h with h|⟨o,h⟩
 ·exact .inl (e.trans h)
 ·exact .inr ⟨o,e.trans h⟩
theorem FLk.mono{mg:Gm}{P b:Pr}{H c:Hp}{a:Ç}{vs:List V}(h:FLk mg P H a vs)(x:∀a,P a->b a/\c a=H a):FLk mg b c a vs:=by
 rcases h with⟨p,r⟩|h
 ·exact .inl ⟨(x a p).1,Rd.at r (x a p).2⟩
 ·exact .inr h
theorem FLk.sq(h:FLk mg P H a vs):bR mg.K H a vs:=by
 rcases h with⟨_,r⟩|h
 ·exact .inl r
 ·exact h H
section
variable{mg:Gm}{P P':Pr}{H H':Hp}{φ φ':List Ç}
mutual
theorem RA.mono'(x:∀a,P a->P' a/\H' a=H a):∀{t:AV}{v:V}{φ φ':List Ç},(∀(k:Nat) a,φ[k]?=À a->φ'[k]?=À a)->RA mg P H φ t v->RA mg P' H' φ' t v
 |.non,_,_,_,_,h=>by simp only[RA]at h ⊢;exact h
 |.bl _,_,_,_,_,h=>by simp only[RA]at h ⊢;exact h
 |.int _,_,_,_,_,h=>by simp only[RA]at h ⊢;exact h
 |.str _,_,_,_,_,h=>by simp only[RA]at h ⊢;exact h
 |.ref k,_,_,_,hφ,h=>by simp only[RA]at h ⊢;obtain⟨a,e,r⟩:=h;exact⟨a,hφ k a e,r⟩
 |.tup xs,_,_,_,hφ,h=>by
  simp only[RA]at h ⊢;obtain⟨a,b,r,p,e,q⟩:=h;exact⟨a,b,r,(x a p).1,(x a p).2.trans e,O6.mono' x hφ q⟩
 |.fz xs,_,_,_,hφ,h=>by
  simp only[RA]at h ⊢;obtain⟨a,b,r,e,q⟩:=h;exact⟨a,b,r,e.mono x,O6.mono' x (fun _ _ z=>z) q⟩
theorem O6.mono'(x:∀a,P a->P' a/\H' a=H a):∀{ts:List AV}{vs:List V}{φ φ':List Ç},(∀(k:Nat) a,φ[k]?=À a->φ'[k]?=À a)->O6 mg P H φ ts vs->O6 mg P' H' φ' ts vs
 |[],_,_,_,_,h=>by simp only[O6]at h ⊢;exact h
 |t::ts,_,_,_,hφ,h=>by
  simp only[O6]at h ⊢;obtain⟨v,ws,e,r,q⟩:=h;exact⟨v,ws,e,RA.mono' x hφ r,O6.mono' x hφ q⟩
end
theorem RA.mono{t:AV}{v:V}(h:RA mg P H φ t v)(x:∀a,P a->P' a/\H' a=H a)(b:∀(k:Nat) a,φ[k]?=À a->φ'[k]?=À a):RA mg P' H' φ' t v:=RA.mono' x b h
theorem O6.mono{ts:List AV}{vs:List V}(h:O6 mg P H φ ts vs)(x:∀a,P a->P' a/\H' a=H a)(b:∀(k:Nat) a,φ[k]?=À a->φ'[k]?=À a):O6 mg P' H' φ' ts vs:=O6.mono' x b h
theorem Frm.ix(f:Frm P φ H P' φ' H'):∀(k:Nat) a,φ[k]?=À a->φ'[k]?=À a:=fun k a e=>by
 obtain⟨m,rfl,_⟩:=f.new;rw[zN (zB.mp e).1];exact e
theorem RA.frm(h:RA mg P H φ t v)(f:Frm P φ H P' φ' H'):RA mg P' H' φ' t v:=h.mono f.ext f.ix
theorem O6.frm(h:O6 mg P H φ ts vs)(f:Frm P φ H P' φ' H'):O6 mg P' H' φ' ts vs:=h.mono f.ext f.ix
theorem RA.lift(h:RA mg P H [] t v):RA mg P H φ t v:=h.mono (fun _ h=>⟨h,rfl⟩) fun k a e=>by simp at e
theorem O6.lift(h:O6 mg P H [] ts vs):O6 mg P H φ ts vs:=h.mono (fun _ h=>⟨h,rfl⟩) fun k a e=>by simp at e
theorem O6.length:∀{ts:List AV}{vs:List V},O6 mg P H φ ts vs->ts.length=vs.length
 |[],_,h=>by simp only[O6]at h;subst h;rfl
 |t::ts,_,h=>by
  simp only[O6]at h;obtain⟨v,ws,rfl,_,q⟩:=h;rw[yX,yX,O6.length q]
theorem O6.get:∀{ts:List AV}{vs:List V}{i:Nat}{t:AV},O6 mg P H φ ts vs->ts[i]?=À t->∃v,vs[i]?=À v/\RA mg P H φ t v
 |[],_,_,_,_,e=>by simp at e
 |x::ts,_,i,t,h,e=>by
  simp only[O6]at h;obtain⟨v,ws,rfl,r,q⟩:=h;cases i with
  |zero=>simp at e;subst e;exact⟨v,rfl,r⟩
  |succ i=>simpa using O6.get (i:=i) q (by simpa using e)
theorem O6.app:∀{xs ys:List AV}{vs ws:List V},O6 mg P H φ xs vs->O6 mg P H φ ys ws->O6 mg P H φ (xs++ys) (vs++ws)
 |[],_,_,_,h,g=>by simp only[O6]at h;subst h;exact g
 |x::xs,_,_,_,h,g=>by
  simp only[O6]at h;obtain⟨v,ws,rfl,r,q⟩:=h;exact aU r (O6.app q g)
theorem O6.take:∀{xs:List AV}{vs:List V} (n:Nat),O6 mg P H φ xs vs->O6 mg P H φ (xs.take n) (vs.take n)
 |xs,vs,0,_=>by rw[V9,V9];exact bg
 |[],vs,n+1,h=>by simp only[O6]at h;subst h;exact bg
 |x::xs,vs,n+1,h=>by
  simp only[O6]at h;obtain⟨v,ws,rfl,r,q⟩:=h;exact aU r (O6.take n q)
theorem O6.drop:∀{xs:List AV}{vs:List V} (n:Nat),O6 mg P H φ xs vs->O6 mg P H φ (xs.drop n) (vs.drop n)
 |xs,vs,0,h=>h
 |[],vs,n+1,h=>by simp only[O6]at h;subst h;exact bg
 |x::xs,vs,n+1,h=>by
  simp only[O6]at h;obtain⟨v,ws,rfl,r,q⟩:=h;exact O6.drop n q
theorem O6.set(r:RA mg P H φ x v):∀{xs:List AV}{vs:List V} (n:Nat),O6 mg P H φ xs vs->O6 mg P H φ (xs.set n x) (vs.set n v)
 |[],vs,_,h=>by simp only[O6]at h;subst h;exact bg
 |y::xs,vs,n,h=>by
  simp only[O6]at h;obtain⟨w,ws,rfl,q,t⟩:=h;cases n with
  |zero=>exact aU r t
  |succ n=>exact aU q (O6.set r n t)
theorem O6.rev(h:O6 mg P H φ xs vs):O6 mg P H φ xs.reverse vs.reverse:=by
 induction xs generalizing vs with
 |nil=>simp only[O6]at h;subst h;exact bg
 |cons x xs a =>
  simp only[O6]at h;obtain⟨v,b,rfl,r,q⟩:=h;rw[Ţ,Ţ];exact(a q).app (aU r bg)
theorem O6.ints:∀{ns:List Int}{vs:List V},O6 mg P H φ (ns.map .int) vs->vs=ns.map .int
 |[],_,h=>by simpa only[Ń,O6] using h
 |n::ns,_,h=>by
  simp only[zO,O6,RA]at h;obtain⟨v,ws,rfl,rfl,q⟩:=h;rw[O6.ints q];rfl
theorem O6.of_ints:∀{ns:List Int},O6 mg P H φ (ns.map .int) (ns.map V.int)
 |[]=>bg
 |n::ns=>aU (by simp only[RA]) O6.of_ints
end
def KVR(mg:Gm)(P:Pr)(H:Hp)(φ:List Ç){κ:Type}(O1:List (κ×AV))(ws:List (κ×V)):Prop:=O1.map (·.1)=ws.map (·.1)/\O6 mg P H φ (O1.map (·.2)) (ws.map (·.2))
def CellR(mg:Gm)(P:Pr)(H:Hp)(φ:List Ç)(a:Ç):O3->Prop
 |.lst xs=>¬P a/\∃vs,H a=À (.lst vs)/\O6 mg P H φ xs vs
 |.al t=>P a/\RA mg P H [] t (.ref a)
 |.dK O1=>¬P a/\∃ws,H a=À (.dK ws)/\KVR mg P H φ O1 ws
 |.dT O1=>¬P a/\∃ws,H a=À (.dT ws)/\KVR mg P H φ O1 ws
 |.ins c fs=>¬P a/\∃C dx ws,mg.mg c=À (.ref C)/\H a=À (.ins C dx ws)/\KVR mg P H φ fs ws
 |.wk O1=>¬P a/\∃o ws,H a=À (.frz o (.dK ws))/\KVR mg P H φ O1 ws
def II(o:Option HO):Prop:=(∀ps,o≠À (.tbl ps))/\∀f,o≠À (.ext f)
theorem _root_.L2.gw.new(h:gw H P pos q)(a:H p=Á):gw (ah H p o) P pos q:=by
 obtain⟨d,e,t,c⟩:=h;refine⟨d,by rw[ad (bt e a)];exact e,t,?_⟩;rcases c with c|⟨g,f,b⟩
 ·exact .inl c
 ·exact .inr ⟨g,f,by rw[ad (bt b a)];exact b⟩
theorem _root_.L2.gw.ne(h:gw H P pos q)(a:H p=Á):P≠p:=by
 obtain⟨b,e,_⟩:=h;exact bt e a
theorem _root_.L2.gw.wr(h:gw H P pos q)(b:II (H p)):gw (ah H p o) P pos q:=by
 obtain⟨a,e,t,c⟩:=h;refine⟨a,by rw[ad fun z=>b.1 a (by rw[<- z];exact e)];exact e,t,?_⟩;rcases c with c|⟨g,f,d⟩
 ·exact .inl c
 ·exact .inr ⟨g,f,by rw[ad fun z=>b.2 _ (by rw[<- z];exact d)];exact d⟩
structure Sim[O2](mg:Gm)(P:Pr)(φ:List Ç)(st:aa)(H:Hp):Prop where
 len:φ.length=st.length
 nd:φ.Nodup
 dom:∀a,P a->H a≠Á
 cd:∀a∈φ,H a≠Á
 cell:∀(k:Nat) c a,st[k]?=À c->φ[k]?=À a->CellR mg P H φ a c
 tb:∀t∈O2.tb,gw H t.1 t.2.1 t.2.2/\¬P t.1
section
variable{mg:Gm}{P P':Pr}{H H':Hp}{φ φ':List Ç}{st st':aa}{a:Ç}
theorem KVR.mono{c:Type}{O1:List (c×AV)}{ws:List (c×V)}(h:KVR mg P H φ O1 ws)(x:∀a,P a->P' a/\H' a=H a)(b:∀(k:Nat) a,φ[k]?=À a->φ'[k]?=À a):KVR mg P' H' φ' O1 ws:=⟨h.1,h.2.mono x b⟩
theorem CellR.mono{c:O3}(h:CellR mg P H φ a c)(x:∀a,P a->P' a/\H' a=H a)(b:∀(k:Nat) a,φ[k]?=À a->φ'[k]?=À a)(e:H' a=H a)(f:¬P a->¬P' a):CellR mg P' H' φ' a c:=by
 cases c with
 |lst xs=>obtain⟨n,d,r,q⟩:=h;exact⟨f n,d,e.trans r,q.mono x b⟩
 |al t=>exact⟨(x a h.1).1,h.2.mono x fun _ _ z=>z⟩
 |dK O1=>obtain⟨n,d,r,q⟩:=h;exact⟨f n,d,e.trans r,q.mono x b⟩
 |dT O1=>obtain⟨n,d,r,q⟩:=h;exact⟨f n,d,e.trans r,q.mono x b⟩
 |ins c fs=>obtain⟨n,C,i,g,m,r,q⟩:=h;exact⟨f n,C,i,g,m,e.trans r,q.mono x b⟩
 |wk O1=>obtain⟨n,o,g,r,q⟩:=h;exact⟨f n,o,g,e.trans r,q.mono x b⟩
theorem Sim.at[O2](s:Sim mg P φ st H){k:Nat}(e:st[k]?=À c):∃a,φ[k]?=À a/\CellR mg P H φ a c:=by
 have b:k<φ.length:=by rw[s.len];exact(zB.mp e).1
 exact⟨φ[k],zF b,s.cell k c _ e (zF b)⟩
theorem Sim.notb[O2](s:Sim mg P φ st H){k:Nat}(d:φ[k]?=À a)(f:¬P a):II (H a):=by
 obtain⟨c,g⟩:∃c,st[k]?=À c:=⟨_,zF (by rw[<- s.len];exact(zB.mp d).1)⟩;have h:=s.cell k c a g d;cases c with
 |lst xs=>obtain⟨n,b,r,q⟩:=h;rw[r];exact⟨fun _ z=>(nomatch z),fun _ z=>(nomatch z)⟩
 |al t=>exact absurd h.1 f
 |dK O1=>obtain⟨n,b,r,q⟩:=h;rw[r];exact⟨fun _ z=>(nomatch z),fun _ z=>(nomatch z)⟩
 |dT O1=>obtain⟨n,b,r,q⟩:=h;rw[r];exact⟨fun _ z=>(nomatch z),fun _ z=>(nomatch z)⟩
 |ins c fs=>obtain⟨n,C,i,e,m,r,q⟩:=h;rw[r];exact⟨fun _ z=>(nomatch z),fun _ z=>(nomatch z)⟩
 |wk O1=>obtain⟨n,o,e,r,q⟩:=h;rw[r];exact⟨fun _ z=>(nomatch z),fun _ z=>(nomatch z)⟩
theorem Sim.tnc[O2](s:Sim mg P φ st H)(a:t∈O2.tb):t.1∉φ:=fun h=>by
 obtain⟨j,c⟩:=z8 h;obtain⟨b,e,_⟩:=(s.tb t a).1;exact(s.notb c (s.tb t a).2).1 b e
theorem Sim.okeep[O2](s:Sim mg P φ st H)(f:Frm P φ H P' φ' H')(h:H c=À (gB c q)):H' c=À (gB c q):=by
 by_cases a:P c
 ·exact(f.ext c a).2.trans h
 ·refine(f.keep c (by rw[h];exact fun z=>nomatch z) (fun z=>?_) fun d z=>by rw[h]at z;cases z).trans h
  obtain⟨j,b⟩:=z8 z;exact(s.notb b a).2 _ h
theorem Sim.ckeep[O2](s:Sim mg P φ st H)(x:∀a,P a->H' a=H a)(k:∀a,H a≠Á->(∀ps,H a≠À (.tbl ps))->H' a=H a):∀a∈φ,H' a=H a:=fun a h=>by
 by_cases b:P a
 ·exact x a b
 ·obtain⟨j,c⟩:=z8 h
  exact k a (s.cd a h) (s.notb c b).1
theorem Sim.stay[O2](s:Sim mg P φ st H)(x:∀a,P a->P' a/\H' a=H a)(d:∀a∈φ,H' a=H a)(f:∀a∈φ,¬P a->¬P' a)(i:∀a,P' a->H' a≠Á)(e:∀t∈O2.tb,gw H' t.1 t.2.1 t.2.2/\¬P' t.1):Sim mg P' φ st H' :=
 ⟨s.len,s.nd,i,fun a h=>by rw[d a h];exact s.cd a h,fun k c a g b=>(s.cell k c a g b).mono x (fun _ _ z=>z) (d a (zW b)) (f a (zW b)),e⟩
theorem Sim.nil[O2](d:∀a,P a->H a≠Á)(b:∀t∈O2.tb,gw H t.1 t.2.1 t.2.2/\¬P t.1):Sim mg P [] [] H:=⟨rfl,W?,d,fun _ h=>by simp at h,fun k c a e _=>by simp at e,b⟩
theorem oC[O2](s:Sim mg P φ st H)(b:H p=Á):Frm P φ H (fun a=>P a\/a=p) φ (ah H p o)/\Sim mg (fun a=>P a\/a=p) φ st (ah H p o):=by
 have ne:∀a,H a≠Á->a≠p:=fun a h e=>h (by rw[e];exact b)
 have f:Frm P φ H (fun a=>P a\/a=p) φ (ah H p o):=by
  refine⟨fun a h=>⟨.inl h,ad (ne a (s.dom a h))⟩,⟨[],by simp,by simp⟩,fun a h _ _=>ad (ne a h),fun a h=>?_,fun a h=>by rw[ad (ne a h)];exact h,fun a o u h=>by rw[ad (bt h b)];exact h⟩;rcases h with h|h
  ·exact .inl h
  ·exact .inr (.inl (by rw[h];exact b))
 refine⟨f,s.stay f.ext (fun a h=>ad (ne a (s.cd a h))) (fun a h n z=>?_) (fun a h=>?_) fun t c=>⟨(s.tb t c).1.new b,fun z=>z.elim (s.tb t c).2 (fun e=>(s.tb t c).1.ne b e)⟩⟩
 ·rcases z with z|z
  ·exact n z
  ·exact ne a (s.cd a h) z
 ·rcases h with h|h
  ·rw[ad (ne a (s.dom a h))];exact s.dom a h
  ·rw[h,aD];exact fun z=>nomatch z
theorem nR[O2](s:Sim mg P φ st H)(i:H p=Á)(q:CellR mg P (ah H p o) (φ++[p]) p c):Frm P φ H P (φ++[p]) (ah H p o)/\Sim mg P (φ++[p]) (st++[c]) (ah H p o):=by
 have ne:∀a,H a≠Á->a≠p:=fun a h e=>h (by rw[e];exact i)
 have ex:∀a,P a->P a/\ah H p o a=H a:=fun a h=>⟨h,ad (ne a (s.dom a h))⟩
 have ix:∀(k:Nat) a,φ[k]?=À a->(φ++[p])[k]?=À a:=fun k a e=>by rw[zN (zB.mp e).1];exact e
 have j:∀a,H a≠Á->ah H p o a≠Á:=fun a h=>by rw[ad (ne a h)];exact h
 refine⟨⟨ex,⟨[p],rfl,fun a h=>by rw[zM.mp h];exact i⟩,fun a h _ _=>ad (ne a h),fun a h=>.inl h,j,fun a o u h=>by rw[ad (bt h i)];exact h⟩,?_,?_,fun a h=>j a (s.dom a h),fun a h=>?_,fun k d a g f=>?_,fun t m=>⟨(s.tb t m).1.new i,(s.tb t m).2⟩⟩
 ·rw[zV,zV,s.len];rfl
 ·exact Ϟ.mpr ⟨s.nd,(by simp),fun a h b r e=>ne a (s.cd a h) (by rw[e];exact zM.mp r)⟩
 ·rcases zZ.mp h with h|h
  ·exact j a (s.cd a h)
  ·rw[zM.mp h,aD];exact fun z=>nomatch z
 ·by_cases n:k<st.length
  ·rw[zN n]at g
   rw[zN (by rw[s.len];exact n)]at f;exact(s.cell k d a g f).mono ex ix (ad (ne a (s.cd a (zW f)))) fun z=>z
  ·have l:k=st.length:=by
    have:=(zB.mp g).1
    rw[zV]at this;simp at this;lia
   subst l;simp at g;rw[<- s.len]at f;simp at f;subst g;subst f;exact q
theorem iT[O2]{k:Nat}(s:Sim mg P φ st H)(m:φ[k]?=À a)(q:¬P a)(y:CellR mg P (ah H a o) φ a c)(v:∀o u,H a≠À (.frz o u)):Frm P φ H P φ (ah H a o)/\Sim mg P φ (st.set k c) (ah H a o):=by
 have w:a∈φ:=zW m;have ne:∀b,P b->b≠a:=fun b h e=>q (by rw[<- e];exact h)
 have n:∀b,H b≠Á->ah H a o b≠Á:=fun b h=>by
  by_cases e:b=a
  ·rw[e,aD];exact fun z=>nomatch z
  ·rw[ad e];exact h
 have ex:∀b,P b->P b/\ah H a o b=H b:=fun b h=>⟨h,ad (ne b h)⟩
 refine⟨⟨ex,⟨[],by simp,by simp⟩,fun b _ h _=>ad fun e=>h (by rw[e];exact w),fun b h=>.inl h,n,fun b o u h=>by rw[ad (fun e=>v o u (by rw[<- e];exact h))];exact h⟩,by rw[ą];exact s.len,s.nd,fun b h=>n b (s.dom b h),fun b h=>n b (s.cd b h),fun j d b g f=>?_,fun t r=>⟨(s.tb t r).1.wr (s.notb m q),(s.tb t r).2⟩⟩;by_cases p:j=k
 ·subst p
  rw[m]at f;cases f;rw[ï (by rw[<- s.len];exact(zB.mp m).1)]at g;cases g;exact y
 ·rw[í (æ p)]at g
  have A:b≠a:=fun e=>p (by
   subst e;exact nodup_ix' s.nd f m)
  exact(s.cell j d b g f).mono ex (fun _ _ z=>z) (ad A) fun z=>z
where
 nodup_ix' {l:List Ç} (hN:l.Nodup) {i j:Nat}{x:Ç} (a:l[i]?=À x) (b:l[j]?=À x):i=j:=by
  obtain⟨C,g⟩:=zB.mp a;obtain⟨B,f⟩:=zB.mp b;exact(ŋ hN).mp (g.trans f.symm)
end
open PySem.Spec PyProof.Rows
open DD (PE_imp PT_imp PA_imp PS_imp PSs_imp OpR_imp PW_imp PG_imp)
abbrev St:=L2.St
abbrev _root_.L2.Cx.gm(X:Cx):Gm:=⟨X.K,X.mg⟩
def KG[O2]{α β:Type}(mg:Gm)(Rl:Gm->Pr->Hp->List Ç->α->β->Prop)(P:Pr)(φ:List Ç)(H:Hp)(r:Option (α×aa))(Q:β->Hp->Prop):Prop :=
 ∃a st',r=À (a,st')/\∀P' φ' H' b,Frm P φ H P' φ' H'->Sim mg P' φ' st' H'->Rl mg P' H' φ' a b->Q b H'
def RB{α:Type}(_:Gm)(_:Pr)(_:Hp)(_:List Ç)(a b:α):Prop:=a=b
section
variable{α β γ δ:Type}{mg:Gm}{Ra:Gm->Pr->Hp->List Ç->α->β->Prop}{Rc:Gm->Pr->Hp->List Ç->γ->δ->Prop}{P:Pr}{φ:List Ç}{H:Hp}
theorem KG.bind[O2]{m:Option (α×aa)}{k:α×aa->Option (γ×aa)}{Q:δ->Hp->Prop}(h:KG mg Rc P φ H (m.bind k) Q) :
  KG mg Ra P φ H m fun b H1=>∃P1 φ1 st1 a,Frm P φ H P1 φ1 H1/\Sim mg P1 φ1 st1 H1/\Ra mg P1 H1 φ1 a b/\KG mg Rc P1 φ1 H1 (k (a,st1)) Q:=by
 obtain⟨c,i,e,q⟩:=h;cases m with
 |none=>cases e
 |some p =>
  obtain⟨a,st1⟩:=p;refine⟨a,st1,rfl,fun P1 φ1 H1 b f s r=>⟨P1,φ1,st1,a,f,s,r,c,i,e,fun o g t d n j l=>q o g t d (f.trans n) j l⟩⟩
theorem KG.pure[O2]{a:α}{st:aa}{Q:β->Hp->Prop}{b:β}(h:KG mg Ra P φ H (À (a,st)) Q)(s:Sim mg P φ st H)(r:Ra mg P H φ a b):Q b H:=by
 obtain⟨_,_,e,q⟩:=h;cases e;exact q P φ H b Frm.refl s r
theorem KG.map[O2]{m:Option α}{st:aa}{Q:β->Hp->Prop}(h:KG mg Ra P φ H (m.map fun a=>(a,st)) Q):∃a,m=À a/\KG mg Ra P φ H (À (a,st)) Q:=by
 obtain⟨b,c,e,q⟩:=h;cases m with
 |none=>cases e
 |some a=>exact⟨a,rfl,b,c,e,q⟩
end
def Pa(mg:Gm)(P:Pr)(H:Hp)(φ:List Ç)(sl:Sl)(σ:St):Prop:=sl.length=σ.length/\∀(i:Nat) v,sl[i]?=À (À v)->∃w,σ[i]?=À (À w)/\RA mg P H φ v w
section
variable{mg:Gm}{P P':Pr}{H H':Hp}{φ φ':List Ç}{sl:Sl}{σ:St}
theorem Pa.frm(h:Pa mg P H φ sl σ)(f:Frm P φ H P' φ' H'):Pa mg P' H' φ' sl σ:=⟨h.1,fun i v e=>let⟨w,a,r⟩:=h.2 i v e;⟨w,a,r.frm f⟩⟩
theorem Pa.set(h:Pa mg P H φ sl σ)(r:RA mg P H φ v w)(i:Nat):Pa mg P H φ (sl.set i (À v)) (σ.set i (À w)):=by
 refine⟨by rw[ą,ą];exact h.1,fun j u e=>?_⟩;by_cases a:i=j
 ·subst a
  by_cases b:i<sl.length
  ·rw[ï b]at e
   cases e;exact⟨w,ï (by rw[<- h.1];exact b),r⟩
  ·rw[ä (by rw[ą];lia)]at e;cases e
 ·rw[í a]at e
  rw[í a];exact h.2 j u e
end
abbrev EF:=Sl->aa->Option (AV×aa)
abbrev TF:=Sl->aa->Option (Bool×aa)
abbrev AF:=Sl->aa->Option (List AV×aa)
def rE[O2](mg:Gm)(f:EF):TE:=fun σ H Q=>∃P φ sl st,Pa mg P H φ sl σ/\Sim mg P φ st H/\KG mg RA P φ H (f sl st) Q
def rT[O2](mg:Gm)(f:TF):TT:=fun σ H Q=>∃P φ sl st,Pa mg P H φ sl σ/\Sim mg P φ st H/\KG mg RB P φ H (f sl st) Q
def rA[O2](mg:Gm)(f:AF):TA:=fun σ H Q=>∃P φ sl st,Pa mg P H φ sl σ/\Sim mg P φ st H/\KG mg O6 P φ H (f sl st) Q
def QE[O2](X:Cx)(e:Î)(f:EF):Prop:=PE X e (rE X.gm f)
def QT[O2](X:Cx)(e:Î)(f:TF):Prop:=PT X e (rT X.gm f)
def QW[O2](X:Cx)(e:Î)(f:TF):Prop:=PW X e (rT X.gm f)
def QA[O2](X:Cx)(es:List Î)(f:AF):Prop:=PA X es (rA X.gm f)
def aV(i:Nat):EF:=fun sl st=>match sl[i]? with
 |some (À v)=>À (v,st)
 |_=>Á
def aC(v:AV):EF:=fun _ st=>À (v,st)
def eF:AF:=fun _ st=>À ([],st)
def dN(f:EF)(g:AF):AF:=fun sl st=>(f sl st).bind fun p=>(g sl p.2).bind fun q=>À (p.1::q.1,q.2)
noncomputable def qx:AV->Option V
 |.non=>À .non
 |.bl b=>À (.bl b)
 |.int i=>À (.int i)
 |.str x=>À (.str x)
 |_=>Á
theorem RA.sc(h:qx v=À w):RA mg P H φ v w:=by
 cases v<;>simp only[qx]at h<;>cases h<;>simp only[RA]
section
variable{X:Cx}{e:Î}{es:List Î}{pos:ė}
theorem Gp[O2]{i:Nat}(g:X.N[i]?=À x)(f:vJ X.env.scope x)(hd:(x==("__debug__":Í))=Ã)(b:(x==("__classdict__":Í))=Ã):QE X (.Name x pos) (aV i) :=
 PE_imp (GP g f hd b) fun l H Q a=>by
  obtain⟨P,j,c,m,r,s,k⟩:=a;unfold aV at k;cases h:c[i]? with
  |none=>rw[h]at k;obtain⟨_,_,e,_⟩:=k;cases e
  |some o =>
   cases o with
   |none=>rw[h]at k;obtain⟨_,_,e,_⟩:=k;cases e
   |some v =>
    rw[h]at k;obtain⟨w,e,d⟩:=r.2 i v h;exact⟨w,e,k.pure s d⟩
theorem sF[O2](a:qx v=À w)(h:PE X e t)(b:∀σ H Q,Q w H->t σ H Q):QE X e (aC v) :=
 PE_imp h fun σ H Q ⟨P,c,f,d,r,s,k⟩=>b σ H Q (k.pure s (RA.sc a))
theorem eM[O2]:QA X [] eF:=PA_imp yd fun b H Q ⟨P,a,d,c,r,s,k⟩=>k.pure s bg
theorem cQ[O2](G:QE X e f)(F:QA X es g)(E:Ê (e::es) X.env=(Ã,eval e X.env)::Ê es X.env):QA X (e::es) (dN f g) :=
 PA_imp (u8 G F E) fun V H Q ⟨P,o,m,u,r,s,k⟩=>⟨P,o,m,u,r,s,by
  obtain⟨a,l,N,q⟩:=k.bind (Ra:=RA);refine⟨a,l,N,fun S h U b L y r1=>?_⟩;obtain⟨R,d,j,a2,K,x,r2,D⟩:=q S h U b L y r1;refine⟨R,d,m,j,r.frm K,x,?_⟩;obtain⟨p,i,M,B⟩:=D.bind (Ra:=O6);refine⟨p,i,M,fun O c T bs J w A=>?_⟩;obtain⟨Y,n,t,W,I,v,z,C⟩:=B O c T bs J w A;exact C.pure v (aU (r2.frm I) z)⟩
end
def a2(f g:EF)(k:AV->AV->aa->Option (AV×aa)):EF:=fun sl st=>(f sl st).bind fun p=>(g sl p.2).bind fun q=>k p.1 q.1 q.2
def a1(f:EF)(k:AV->aa->Option (AV×aa)):EF:=fun sl st=>(f sl st).bind fun p=>k p.1 p.2
def r2[O2](mg:Gm)(k:AV->AV->aa->Option (AV×aa)):R2:=fun v w H Q=>∃P φ st x y,Sim mg P φ st H/\RA mg P H φ x v/\RA mg P H φ y w/\KG mg RA P φ H (k x y st) Q
def r1[O2](mg:Gm)(k:AV->aa->Option (AV×aa)):V->Hp->VK->Prop:=fun v H Q=>∃P φ st x,Sim mg P φ st H/\RA mg P H φ x v/\KG mg RA P φ H (k x st) Q
section
variable{mg:Gm}{k:AV->AV->aa->Option (AV×aa)}{k1:AV->aa->Option (AV×aa)}{f g:EF}
theorem xg[O2](q:rE mg (a2 f g k) σ H Q):xG (r2 mg k) (rE mg f) (rE mg g) σ H Q:=by
 obtain⟨P,p,n,r,o,s,C⟩:=q;refine⟨P,p,n,r,o,s,?_⟩;obtain⟨a,m,L,q⟩:=C.bind (Ra:=RA);refine⟨a,m,L,fun T h V b J w r1=>?_⟩;obtain⟨S,e,l,x,I,v,r2,E⟩:=q T h V b J w r1;refine⟨S,e,n,l,o.frm I,v,?_⟩;obtain⟨N,j,K,B⟩:=E.bind (Ra:=RA);refine⟨N,j,K,fun R d U M G u A=>?_⟩;obtain⟨O,c,i,y,F,t,z,D⟩:=B R d U M G u A;exact⟨O,c,i,x,y,t,r2.frm F,z,D⟩
theorem MO[O2](q:rE mg (a1 f k1) σ H Q):KU (r1 mg k1) (rE mg f) σ H Q:=by
 obtain⟨P,h,j,i,m,s,n⟩:=q;refine⟨P,h,j,i,m,s,?_⟩;obtain⟨a,g,r,q⟩:=n.bind (Ra:=RA);refine⟨a,g,r,fun u d v b p l r1=>?_⟩;obtain⟨t,c,e,x,w,k,r2,o⟩:=q u d v b p l r1;exact⟨t,c,e,x,k,r2,o⟩
end
def lu(h:aa->AV->AV->Option AV):AV->AV->aa->Option (AV×aa):=fun x y st=>(h st x y).map fun z=>(z,st)
def FO(h:aa->AV->Option AV):AV->aa->Option (AV×aa):=fun x st=>(h st x).map fun z=>(z,st)
noncomputable def dP(a b:Int):Bool:=(ß a.natAbs.log2 62||Nat.ble b.natAbs.log2 62)||(ß a.natAbs.log2 1000000&&ß b.natAbs.log2 1000000)
noncomputable def eO(b:Int):Bool:=!(b==0)&&ß b.natAbs.log2 8999
noncomputable def wm(a b:Int):Bool:=decide (0<=b)&&ß b.natAbs 100000&&ß a.natAbs.log2 62
noncomputable def vE(a b:Int):Int:=if 0<b then a/b else a.fdiv b
noncomputable def o9(a b:Int):Int:=if 0<b then a%b else a.fmod b
def t9:Ā->Int->Int->Option Int
 |.Add,a,b=>À (a+b)
 |.Sub,a,b=>À (a-b)
 |.Mult,a,b=>if dP a b=Â then À (a*b) else Á
 |.FloorDiv,a,b=>if eO b=Â then À (vE a b) else Á
 |.Mod,a,b=>if b=0 then Á else À (o9 a b)
 |.Pow,a,b=>if wm a b=Â then À (a^b.toNat) else Á
 |.LShift,a,b=>if wm a b=Â then À (a*2^b.toNat) else Á
 |.RShift,a,b=>if 0<=b then À (a/2^b.toNat) else Á
 |.BitAnd,a,b=>À (Builtin.bitAnd a b)
 |.BitOr,a,b=>À (Builtin.bitOr a b)
 |.BitXor,a,b=>À (Builtin.bitXor a b)
 |_,_,_=>Á
def bB(o:Ā)(_:aa):AV->AV->Option AV
 |.int a,.int b=>(t9 o a b).map .int
 |.str a,.str b=>if(decide (o=.Add)&&ß (a.length+b.length) 1000000)=Â then À (.str (a++b)) else Á
 |_,_=>Á
theorem log2_lt{n k:Nat}(h:ß n.log2 k=Â):n<2^(k+1):=by
 by_cases a:n=0
 ·subst a;exact Ö _
 ·exact(Ċ a).mp (ϣ (zS h))
theorem mG{a:Int}{k:Nat}(h:a.natAbs<2^k):g! a<=k:=by
 unfold g!;split
 ·lia
 ·rename_i b
  have:a.natAbs.log2<k:=(Ċ (by simpa using b)).mpr h;lia
theorem EA{a b:Int}(h:dP a b=Â):IntMulOk a b:=by
 unfold dP at h;rcases ϐ.mp h with h|h
 ·rcases ϐ.mp h with h|h
  ·exact .of_left (z5 (mG (log2_lt h)) dC)
  ·exact .of_right (z5 (mG (log2_lt h)) dC)
 ·obtain⟨d,c⟩:=Œ.mp h
  exact .of_bits (z5 (mG (log2_lt d)) dC) (z5 (mG (log2_lt c)) dC)
theorem ET{b:Int}(h:eO b=Â):b≠0/\b.natAbs.log2<9000:=by
 unfold eO at h;obtain⟨c,a⟩:=Œ.mp h;exact⟨by simpa using c,ϣ (zS a)⟩
theorem Il(a b:Int):a.fdiv b=vE a b:=by
 unfold vE;split
 ·exact h? _ oM
 ·rfl
theorem Ie(a b:Int):a.fmod b=o9 a b:=by
 unfold o9;split
 ·exact Int.fmod_eq_emod_of_nonneg _ oM
 ·rfl
theorem u7{a b:Int}(h:wm a b=Â):MR a b:=by
 unfold wm at h;simp only[zC,yB]at h;obtain⟨⟨e,c⟩,d⟩:=h;have c:=zS c;exact⟨e,by lia,zJ (log2_lt d) dC⟩
def Mj(o:Ā):R2:=fun x y H Q=>(∃i j k,x=.int i/\y=.int j/\t9 o i j=À k/\Q (.int k) H)\/(o=.Add/\∃i j,x=.str i/\y=.str j/\i.length+j.length<=Ì/\Q (.str (i++j)) H)
section
variable{X:Cx}
theorem G3(o:Ā):lY X (Ź o) (Mj o):=by
 have l:∀(h:∀i j k t u s (Q:Å->É->Prop) (E:Å->É->Prop),t9 o i j=À k->Q (.int k s.toks) { s with toks:=s.toks+1 }->Ï (model X.prog X.w) X.A (Ź o (.int i t) (.int j u)) Q E s)
   (d:List (Ç×Obj)) (s:É) (b:St) (H:Hp) (x y:V) (v u:Å) (Q:VK),Inv X d b H s->RelV x v->RelV y u->(∃i j k,x=.int i/\y=.int j/\t9 o i j=À k/\Q (.int k) H) ->
   Ï (model X.prog X.w) X.A (Ź o v u) (EP X d b Q) X.xe s:=by
  rintro h d s b H x y v u Q I rx f ⟨i,j,k,w,r,p,q⟩;subst w;subst r;obtain⟨t,rfl⟩:=rx;obtain⟨g,rfl⟩:=f;exact h i j k t g s _ _ p ⟨.int k,H,I.tok _,⟨_,rfl⟩,q⟩
 intro d s b H x y v u Q I rx f h;rcases h with h|⟨rfl,h⟩
 ·refine l ?_ d s b H x y v u Q I rx f h
  intro i j k t u s Q E e q;cases o<;>simp only[t9]at e
  case Add=>cases e;exact add_int q
  case Sub=>cases e;exact sub_int q
  case Mult =>
   split at e
   ·rename_i a;cases e;exact mul_int q (EA a)
   ·cases e
  case FloorDiv =>
   split at e
   ·rename_i a;cases e
    obtain⟨n,m⟩:=ET a;exact floordiv_int n (by rw[Il];exact q) (.inl (PyProof.noPylong_of_log2 m))
   ·cases e
  case Mod =>
   split at e
   ·cases e
   ·rename_i a;cases e
    exact mod_int' a (by rw[Ie];exact q)
  case Pow =>
   split at e
   ·rename_i a;cases e
    have c:=u7 a;exact pow_int_small c.1 c.2.1 c.2.2 q
   ·cases e
  case LShift =>
   split at e
   ·rename_i a;cases e
    have c:=u7 a;exact lshift_int_small c.1 c.2.1 c.2.2 q
   ·cases e
  case RShift =>
   split at e
   ·rename_i a;cases e
    exact rshift_int a (by rw[h? _ (vP _)];exact q)
   ·cases e
  case BitAnd=>cases e;exact and_int q
  case BitOr=>cases e;exact or_int q
  case BitXor=>cases e;exact xor_int q
  all_goals cases e
 ·exact wu d s b H x y v u Q I rx f h
theorem G5[O2](o:Ā):lY X (Ź o) (r2 X.gm (lu (bB o))):=OpR_imp (G3 o) fun v w H Q d=>by
 obtain ⟨P,i,j,x,y,s,r1,r2,k⟩:=d;obtain ⟨z,e,k⟩:=k.map;cases x <;> cases y <;> simp only [bB] at e <;> first | (cases e;done) | skip
 ·rename_i a b
  simp only[RA]at r1 r2;obtain⟨c,h,g⟩:=zE.mp e;subst g;exact .inl ⟨a,b,c,r1,r2,h,k.pure s (by simp only[RA])⟩
 ·rename_i a b
  simp only[RA]at r1 r2;split at e
  ·rename_i f
   cases e;simp only[zC,yB]at f;exact .inr ⟨f.1,a,b,r1,r2,z5 (zS f.2) dC,k.pure s (by simp only[RA])⟩
  ·cases e
theorem Gx[O2](d:QE X a f)(c:QE X b g):QE X (.BinOp a o b pos) (a2 f g (lu (bB o))) :=
 PE_imp (wq (G5 o) d c) fun _ _ _ q=>xg q
end
open DD (pyOk reads_each any_vals obj_list obj_tup)
def dr(st:aa):AV->AV
 |.ref k=>match st[k]? with
  |some (.al t)=>t
  |_=>.ref k
 |v=>v
def b8(st:aa)(v:AV):Option (List AV):=match dr st v with
 |.fz xs=>À xs
 |.ref k=>match st[k]? with
  |some (.lst xs)=>À xs
  |_=>Á
 |_=>Á
def jp(st:aa)(v:AV):Option (List AV):=match dr st v with
 |.tup xs=>À xs
 |_=>Á
section
variable{mg:Gm}{P:Pr}{φ:List Ç}{st:aa}{H:Hp}{v:AV}{w:V}{xs:List AV}
theorem RA.dr[O2](s:Sim mg P φ st H)(r:RA mg P H φ v w):RA mg P H φ (dr st v) w:=by
 cases v with
 |ref k =>
  unfold R.dr;dsimp only;split
  ·rename_i t h
   obtain⟨a,e,c⟩:=s.at h;simp only[RA]at r;obtain⟨d,b,rfl⟩:=r;rw[e]at b;cases b;exact c.2.lift
  ·exact r
 |_=>exact r
theorem RA.ls[O2](s:Sim mg P φ st H)(r:RA mg P H φ v w)(h:b8 st v=À xs):∃a vs,w=.ref a/\bR mg.K H a vs/\O6 mg P H φ xs vs:=by
 have r:=r.dr s;unfold b8 at h;split at h
 ·rename_i g e
  cases h;rw[e]at r;simp only[RA]at r;obtain⟨a,vs,d,b,q⟩:=r;exact⟨a,vs,d,b.sq,q.lift⟩
 ·rename_i k e
  rw[e]at r;simp only[RA]at r;obtain⟨a,d,b⟩:=r;split at h
  ·rename_i g l
   cases h;obtain⟨m,f,c⟩:=s.at l;rw[d]at f;cases f;obtain⟨_,vs,j,i⟩:=c;exact⟨a,vs,b,.inl (.inl j),i⟩
  ·cases h
 ·cases h
theorem RA.tp[O2](s:Sim mg P φ st H)(r:RA mg P H φ v w)(h:jp st v=À xs):∃a vs,w=.ref a/\H a=À (.tup vs)/\O6 mg P H φ xs vs:=by
 have r:=r.dr s;unfold jp at h;split at h
 ·rename_i d e
  cases h;rw[e]at r;simp only[RA]at r;obtain⟨a,vs,c,_,b,q⟩:=r;exact⟨a,vs,c,b,q⟩
 ·cases h
end
noncomputable def aQ{α β:Type}(f:α->Option β):List α->Option (List β)
 |[]=>À []
 |x::xs=>(f x).bind fun y=>(aQ f xs).map fun ys=>y::ys
theorem du{α b a:Type}{f:α->Option b}{i:a->α}{g:a->b}(h:∀x,f (i x)=À (g x))(xs:List a):aQ f (xs.map i)=À (xs.map g):=by
 induction xs with
 |nil=>rfl
 |cons x xs c=>simp only[zO,aQ,h,c,Æ,Û]
def cp:Nat->aa->AV->Option Ņ
 |_,_,.non=>À .none
 |_,_,.bl b=>À (.bool b)
 |_,_,.int i=>À (.int i)
 |_,_,.str x=>À (.str x)
 |n+1,st,.fz xs=>(aQ (cp n st) xs).map .list
 |n+1,st,.tup xs=>(aQ (cp n st) xs).map .tuple
 |n+1,st,.ref k=>match st[k]? with
  |some (.lst xs)=>(aQ (cp n st) xs).map .list
  |some (.al t)=>cp n st t
  |_=>Á
 |0,_,_=>Á
section
variable{X:Cx}{O0:List (Ç×Obj)}{σ:St}{H:Hp}{s:É}{P:Pr}{φ:List Ç}{st:aa}
theorem sB[O2]{n:Nat}(g:∀t v p u,RA mg P H φ t v->cp n st t=À p->RelV v u->∃as,Ų s.heap u p as) :
  ∀{xs:List AV}{vs:List V}{ps:List Ņ}{us:List Å},O6 mg P H φ xs vs->aQ (cp n st) xs=À ps->Vals vs us->∃as,a? s.heap us ps as:=by
 intro xs
 induction xs with
 |nil =>
  intro vs ps us r e q;simp only[O6]at r;subst r;cases e;cases q;exact⟨_,.nil⟩
 |cons x xs a =>
  intro vs ps us r e q;simp only[O6]at r;obtain⟨v,l,rfl,r1,r2⟩:=r;simp only[aQ]at e;obtain⟨p,k,j⟩:=zA e;obtain⟨m,i,h⟩:=zE.mp j;subst h;cases q with
  |cons f d =>
   obtain⟨as,c⟩:=g x v p _ r1 k f;obtain⟨bs,b⟩:=a r2 i d;exact⟨_,.cons c b⟩
theorem ik[O2](I:L2.Inv X O0 σ H s)(E:Sim X.gm P φ st H):∀(n:Nat)(t:AV)(v:V)(p:Ņ)(u:Å),RA X.gm P H φ t v->cp n st t=À p->RelV v u->∃as,Ų s.heap u p as:=by
 have lst:∀{a:Ç}{g:List V}{u:Å}{y:List Ņ},bR X.K H a g->RelV (.ref a) u->(∀{D:List Å},Vals g D->∃as,a? s.heap D y as)->∃as,Ų s.heap u (.list y) as:=by
  intro a g u y h d k;cases d;obtain⟨Q,G,m,j,o,l,N⟩:=obj_list I h;obtain⟨as,A⟩:=k j;exact⟨_,.list o l N A⟩
 have flat:∀(n:Nat)(t:AV)(v:V)(p:Ņ)(u:Å)(w:V),qx t=À w->RA X.gm P H φ t v->cp n st t=À p->RelV v u->∃as,Ų s.heap u p as:=by
  intro n t v p u w J r e d;cases t with
  | non=>cases n <;> (simp only [cp] at e;cases e;simp only [RA] at r;subst r;cases d;exact ⟨_,.none⟩)
  | bl b=>cases n <;> (simp only [cp] at e;cases e;simp only [RA] at r;subst r;cases d;exact ⟨_,.bool b⟩)
  | int i=>cases n <;> (simp only [cp] at e;cases e;simp only [RA] at r;subst r;obtain ⟨t,rfl⟩:=d;exact ⟨_,.int i t⟩)
  | str x=>cases n <;> (simp only [cp] at e;cases e;simp only [RA] at r;subst r;obtain ⟨t,rfl⟩:=d;exact ⟨_,.str x t⟩)
  |_=>cases J
 intro n
 induction n with
 |zero =>
  intro t v p u r e d;cases t with
  |non=>exact flat 0 _ v p u _ rfl r e d
  |bl b=>exact flat 0 _ v p u _ rfl r e d
  |int i=>exact flat 0 _ v p u _ rfl r e d
  |str x=>exact flat 0 _ v p u _ rfl r e d
  |_=>simp only[cp]at e;cases e
 |succ n z =>
  intro t v p u r e d;cases t with
  |non=>exact flat _ _ v p u _ rfl r e d
  |bl b=>exact flat _ _ v p u _ rfl r e d
  |int i=>exact flat _ _ v p u _ rfl r e d
  |str x=>exact flat _ _ v p u _ rfl r e d
  |fz C =>
   simp only[cp]at e;obtain⟨y,o,l⟩:=zE.mp e;subst l;simp only[RA]at r;obtain⟨a,g,rfl,h,q⟩:=r;exact lst h.sq d fun j=>sB z q.lift o j
  |tup C =>
   simp only [cp] at e;obtain ⟨y,o,l⟩:=zE.mp e;subst l;simp only [RA] at r;obtain ⟨a,g,rfl,_,h,q⟩:=r;cases d;obtain ⟨Q,G,m,j,M,L,K⟩:=obj_tup I (show iz X.K H a g from .inl (.inl h));obtain ⟨as,A⟩:=sB z q o j;exact ⟨_,.tuple M L K A⟩
  |ref k =>
   simp only[cp]at e;simp only[RA]at r;obtain⟨a,F,rfl⟩:=r;split at e
   ·rename_i C B
    obtain⟨y,o,l⟩:=zE.mp e;subst l;obtain⟨O,f,c⟩:=E.at B;rw[F]at f;cases f;obtain⟨_,g,h,q⟩:=c;exact lst (.inl (.inl h)) d fun j=>sB z q o j
   ·rename_i t B
    obtain⟨O,f,c⟩:=E.at B;rw[F]at f;cases f;exact z t _ p u c.2.lift e d
   ·cases e
end
noncomputable def AM:Ņ->Option Í
 |.str a=>À a
 |_=>Á
theorem uW{p:Ņ}{a:Í}(h:AM p=À a):p=.str a:=by
 cases p with
 |str b=>cases h;rfl
 |_=>cases h
def Ma(p q:Ņ):Option Bool:=(AM p).bind fun a=>(AM q).map fun b=>a==b
def iM(st:aa)(x y:AV):Option Bool:=(cp 9 st x).bind fun p=>(cp 9 st y).bind fun q=>if pyOk p q=Â then À (Õ p q) else Ma p q
def kG:AV->Option ba
 |.int i=>À (.inl i)
 |.str x=>À (.inr x)
 |_=>Á
noncomputable def nG{κ:Type}[DecidableEq κ](O1:List (κ×AV))(k:κ):Option AV:=(O1.find? fun kv=>decide (kv.1=k)).map (·.2)
def jE(st:aa):AV->Option (List (ba×AV))
 |.ref k=>match st[k]? with
  |some (.dK O1)=>À O1
  |_=>Á
 |_=>Á
def ni(st:aa):AV->Option (List (List ba×AV))
 |.ref k=>match st[k]? with
  |some (.dT O1)=>À O1
  |_=>Á
 |_=>Á
def n9(st:aa)(y x:AV):Option (Option AV):=match jE st y with
 |some O1=>(kG x).map fun k=>nG O1 k
 |none=>match ni st y with
  |some O1=>match x with
   |.tup xs=>(aQ kG xs).map fun k=>nG O1 k
   |_=>Á
  |none=>Á
def oT(st:aa)(x y:AV):Option Bool:=match n9 st y x with
 |some o=>À o.isSome
 |none=>match x,y with
  |.str a,.str b=>À (!(Builtin.Str.occurrences b a 0 b.length 1).isEmpty)
  |_,_=>(cp 9 st x).bind fun q=>(cp 9 st y).bind fun p=>match p with
   |.list ps=>if(ps.all fun r=>pyOk r q)=Â then À (ps.any fun r=>Õ r q) else Á
   |.tuple ps=>if(ps.all fun r=>pyOk r q)=Â then À (ps.any fun r=>Õ r q) else Á
   |_=>Á
noncomputable def Bt:ϙ->Int->Int->Option Bool
 |.Lt,a,b=>À (decide (a<b))
 |.LtE,a,b=>À (decide (a<=b))
 |.Gt,a,b=>À (decide (b<a))
 |.GtE,a,b=>À (decide (b<=a))
 |_,_,_=>Á
noncomputable def G7:AV->Bool
 |.non=>Â
 |_=>Ã
def zf(x y:AV):Option Bool:=match y with
 |.non=>À (G7 x)
 |.bl b=>(match x with
  |.bl a=>À (a==b)
  |_=>Á)
 |_=>Á
def cb(o:ϙ)(st:aa)(x y:AV):Option Bool:=match o with
 |.Eq=>iM st x y
 |.NotEq=>(iM st x y).map (!·)
 |.Is=>zf x y
 |.IsNot=>(zf x y).map (!·)
 |.In=>oT st x y
 |.NotIn=>(oT st x y).map (!·)
 |o=>match x,y with
  |.int a,.int b=>Bt o a b
  |_,_=>Á
def oh(o:ϙ)(st:aa)(x y:AV):Option AV:=(cb o st x y).map .bl
theorem pU(h:pyOk p q=Â):p.canLay0=Â/\q.canLay0=Â/\min p.depth q.depth<=50:=by
 simp only[pyOk,zC,yB]at h;exact⟨h.1.1,h.1.2,h.2⟩
theorem kz{P:Pr}{H:Hp}{φ:List Ç}{a:Type}[DecidableEq a]{O1:List (a×AV)}{ws:List (a×V)}(h:KVR mg P H φ O1 ws)(k:a) :
  (nG O1 k).isSome=(fq ws k).isSome/\∀v,nG O1 k=À v->∃w,fq ws k=À w/\RA mg P H φ v w:=by
 induction O1 generalizing ws with
 |nil =>
  have:ws=[]:=by simpa using h.1.symm
  subst this;exact⟨rfl,fun v e=>by cases e⟩
 |cons p O1 f =>
  cases ws with
  |nil=>exact absurd h.1 (by simp)
  |cons q ws =>
   obtain⟨d,b⟩:=h;rw[zO,zO]at d b;injection d with h3 h4;simp only[O6]at b;obtain⟨v,m,l,j,i⟩:=b;injection l with h8 h9;subst h8;subst h9;by_cases e:q.1=k
   ·have c:p.1=k:=h3.trans e
    simp only[nG,fq,Ć,e,c,decide_true,Û];refine⟨rfl,fun v g=>?_⟩;cases g;exact⟨_,rfl,j⟩
   ·have c:¬p.1=k:=fun z=>e (h3.symm.trans z)
    have:=f (ws:=ws) ⟨h4,i⟩
    simp only[nG,fq,Ć,e,c,decide_false]at this ⊢;exact this
section
variable{X:Cx}{O0:List (Ç×Obj)}{σ:St}{H:Hp}{s:É}{P:Pr}{φ:List Ç}{st:aa}
theorem nX(h:kG x=À k)(r:RA mg P H φ x v):v=kV k:=by
 cases x <;> simp only [kG] at h <;> first | (cases h;done) | skip
 ·cases h;simp only[RA]at r;exact r
 ·cases h;simp only[RA]at r;exact r
theorem qD[O2]:∀{xs:List AV}{vs:List V}{k:List ba},aQ kG xs=À k->O6 mg P H φ xs vs->vs=k.map kV:=by
 intro xs
 induction xs with
 |nil=>intro vs k e r;cases e;simp only[O6]at r;exact r
 |cons x xs a =>
  intro vs k e r;simp only[aQ]at e;obtain⟨p,f,d⟩:=zA e;obtain⟨h,c,b⟩:=zE.mp d;subst b;simp only[O6]at r;obtain⟨v,g,rfl,r1,r2⟩:=r;rw[nX f r1,a c r2];rfl
theorem tE[O2](r:Sim X.gm P φ st H){x y:AV}{v w:V}{o:Option AV}(h:n9 st y x=À o)(rx:RA X.gm P H φ x v)(i:RA X.gm P H φ y w) :
  ∃a o',w=.ref a/\DGet H a v o'/\o.isSome=o'.isSome/\∀t,o=À t->∃u,o'=À u/\RA X.gm P H φ t u:=by
 unfold n9 at h;split at h
 ·rename_i C e
  obtain ⟨k,q,p⟩:=zE.mp h;subst p;cases y <;> simp only [jE] at e <;> first | (cases e;done) | skip
  split at e
  ·rename_i j g n
   cases e;simp only[RA]at i;obtain⟨a,m,rfl⟩:=i;obtain⟨B,d,c⟩:=r.at n;rw[m]at d;cases d;obtain⟨_,z,l,f⟩:=c
   have:=nX q rx
   subst this;exact⟨a,_,rfl,DGet.k l,(kz f k).1,(kz f k).2⟩
  ·cases e
 ·split at h
  ·rename_i C e
   split at h
   ·rename_i D
    obtain ⟨k,q,p⟩:=zE.mp h;subst p;cases y <;> simp only [ni] at e <;> first | (cases e;done) | skip
    split at e
    ·rename_i j g n
     cases e;simp only[RA]at i;obtain⟨a,m,rfl⟩:=i;obtain⟨B,d,c⟩:=r.at n;rw[m]at d;cases d;obtain⟨_,z,l,f⟩:=c;simp only[RA]at rx;obtain⟨b,E,rfl,_,s,A⟩:=rx;rw[qD q A]at s;exact⟨a,_,rfl,DGet.t l s,(kz f k).1,(kz f k).2⟩
    ·cases e
   ·cases h
  ·cases h
theorem tx(C:X.A.units+64<ř){v:Å}{q:Ņ}{b bs:List Ç}{ps:List Ņ}{a:Array Å}(o:Ų s.heap v q b)(l:a? s.heap a.toList ps bs)(y:(ps.all fun r=>pyOk r q)=Â) :
  ∃e:Å->Bool,(∀z∈a,SeqAt.EqAt X.A.in1 s z v (e z))/\a.any e=ps.any fun r=>Õ r q:=by
 classical
 have k:∀z f c,Ų s.heap z f c->decide (∃p b,Ų s.heap z p b/\Õ p q=Â)=Õ f q:=by
  intro z f c d;rcases he:Õ f q with _|_
  ·refine z9 ?_
   rintro⟨u,j,t,m⟩
   have:=(h! d u j t).1
   rw[<- this,he]at m;cases m
  ·exact yV ⟨f,c,d,he⟩
 refine⟨fun z=>decide (∃p b,Ų s.heap z p b/\Õ p q=Â),fun z hz=>?_,?_⟩
 ·obtain⟨g,c,i,d⟩:=reads_each l z (by simpa using hz)
  obtain⟨x,w,B⟩:=pU (yQ.mp y g i);dsimp only;rw[k z g c d];exact ϰ g q _ s z v c b d o x w (by simp only[Around.in1_units];lia)
 ·have A:=any_vals (q:=q) (e:=fun z=>decide (∃p b,Ų s.heap z p b/\Õ p q=Â)) (h:=s.heap) (fun v p b n=>k v p b n) l
  rw[<- A];simp
theorem vn[O2](J:X.A.units+64<ř)(I:L2.Inv X O0 σ H s)(A:Sim X.gm P φ st H){x y:AV}{v w:V}{u r:Å}{b:Bool}(h:oT st x y=À b)(rx:RA X.gm P H φ x v)(l:RA X.gm P H φ y w)(m:RelV v u)(B:RelV w r){E:Å->É->Prop}
  {Q:Å->É->Prop}{Q':Å->É->Prop} (z:∀s',L2.Inv X O0 σ H s'->Q (.bool b) s') (d:∀s',L2.Inv X O0 σ H s'->Q' (.bool (!b)) s') :
  Ï (model X.prog X.w) X.A (Ď .In u r) Q E s/\Ï (model X.prog X.w) X.A (Ď .NotIn u r) Q' E s:=by
 unfold oT at h;split at h
 ·rename_i o e
  cases h;obtain⟨a,S,rfl,g,K,_⟩:=tE A e rx l;cases B;exact⟨MG oM I g m fun s' D=>by rw[<- K];exact z s' D,EU oM I g m fun s' D=>by rw[<- K];exact d s' D⟩
 ·split at h
  ·rename_i a c
   cases h;simp only[RA]at rx l;subst rx;subst l;obtain⟨t,rfl⟩:=m;obtain⟨R,rfl⟩:=B;exact⟨in_str (z s I),notIn_str (d s I)⟩
  ·obtain⟨q,O,N⟩:=zA h
   obtain⟨p,M,f⟩:=zA N;obtain⟨T,G⟩:=ik I A 9 _ _ _ _ rx O m;obtain⟨bs,F⟩:=ik I A 9 _ _ _ _ l M B;split at f
   ·rename_i L
    split at f
    ·rename_i C
     cases f;cases F with
     |@list a o items n xs as' hg hc hdt rall =>
      obtain⟨e,j,k⟩:=tx J G rall C;have i:s.heap.IsList a items:=⟨o,hg,hc,n,hdt⟩;exact⟨SeqAt.in_listAt e i j (by rw[k];exact z s I),SeqAt.notIn_listAt e i j (by rw[k];exact d s I)⟩
    ·cases f
   ·rename_i L
    split at f
    ·rename_i C
     cases f;cases F with
     |@tuple a o items n xs as' hg hc hdt rall =>
      obtain⟨e,j,k⟩:=tx J G rall C;have i:IsTup s.heap a items:=⟨o,hg,hc,n,hdt⟩;exact⟨SeqAt.in_tupleAt e i j (by rw[k];exact z s I),SeqAt.notIn_tupleAt e i j (by rw[k];exact d s I)⟩
    ·cases f
   ·cases f
end
section
variable{X:Cx}
theorem g_{T:Prop}(h:∀G:Prop,(T->G)->G):T:=h _ id
theorem yg[O2](T:X.A.units+64<ř)(o:ϙ):lY X (Ď o) (r2 X.gm (lu (oh o))):=by
 rintro S s F H v w u r Q I m n ⟨P,φ,Y,x,y,l,rx,j,k⟩;obtain⟨z,e,k⟩:=k.map;obtain⟨b,g,e2⟩:=zE.mp e;subst e2;have aw:∀J,L2.Inv X S F H J->EP X S F Q (.bool b) J:=fun J I'=>⟨.bl b,H,I',rfl,k.pure l (by simp only[RA])⟩
 have f:∀{o:Option Bool},o.map (!·)=À b->∃c,o=À c/\b=!c:=fun h=>by
  obtain⟨c,i,R⟩:=zE.mp h;exact⟨c,i,R.symm⟩
 have D:∀{c:Bool},iM Y x y=À c->∀{Q:Å->É->Prop}{E:Å->É->Prop},(Q (.bool c) s->Ï (model X.prog X.w) X.A (Ď .Eq u r) Q E s)/\(Q (.bool (!c)) s->Ï (model X.prog X.w) X.A (Ď .NotEq u r) Q E s):=by
  intro c h Q E;clear k aw f g e;refine g_ fun G bk=>?_
  unfold iM at h;obtain⟨p,i,R⟩:=zA h;obtain⟨q,O,N⟩:=zA R;split at N
  ·rename_i hk
   cases N;obtain⟨W,V,hd⟩:=pU hk;obtain⟨as,C⟩:=ik I l 9 _ _ _ _ rx i m;obtain⟨bs,B⟩:=ik I l 9 _ _ _ _ j O n;exact bk ⟨fun q=>SeqAt.eqOverData _ _ _ _ _ _ _ _ _ _ _ _ C B W V oM q,fun q=>SeqAt.neOverData _ _ _ _ _ _ _ _ _ _ _ _ C B W V oM q⟩
  ·obtain⟨a,ha,h5⟩:=zA N
   obtain⟨b,hb,h6⟩:=zE.mp h5;subst h6;rw[uW ha]at i;rw[uW hb]at O;obtain⟨as,C⟩:=ik I l 9 _ _ _ _ rx i m;obtain⟨bs,B⟩:=ik I l 9 _ _ _ _ j O n;cases C;cases B;exact bk ⟨fun q=>eq_str q,fun q=>ne_str q⟩
 have L:∀{c:Bool},zf x y=À c->∀{Q:Å->É->Prop}{E:Å->É->Prop},(Q (.bool c) s->Ï (model X.prog X.w) X.A (Ď .Is u r) Q E s)/\(Q (.bool (!c)) s->Ï (model X.prog X.w) X.A (Ď .IsNot u r) Q E s):=by
  intro c h Q E;clear k aw f g e D l;have Z:y=.non->c=(u==Ů)->(Q (.bool c) s->Ï (model X.prog X.w) X.A (Ď .Is u r) Q E s)/\(Q (.bool (!c)) s->Ï (model X.prog X.w) X.A (Ď .IsNot u r) Q E s):=fun M U=>by
   subst M;simp only[RA]at j;subst j;cases n;exact⟨fun q=>is_none_gen (by rw[<- U];exact q),fun q=>isnot_none_gen (by rw[<- U];exact q)⟩
  cases y with
  |non =>
   have h:À (G7 x)=À c:=h;cases h;refine Z rfl ?_;cases x with
   |non=>simp only[RA]at rx;subst rx;cases m;rfl
   | _=>rw [RelV.none_iff m];refine (z9 fun hv=>?_).symm;subst hv;simp only [RA] at rx;first | (cases rx;done) | (obtain ⟨_,_,z,_⟩:=rx;cases z;done) | (obtain ⟨_,_,z⟩:=rx;cases z;done)
  |bl d=>cases x with
   |bl a =>
    cases h;simp only[RA]at rx j;subst rx;subst j;cases m;cases n;cases a<;>cases d<;>exact⟨fun q=>yF q,fun q=>yF q⟩
   |_=>exact nomatch h
  |_=>exact nomatch h
 have K:∀{a c:Int},x=.int a->y=.int c->Bt o a c=À b->Ï (model X.prog X.w) X.A (Ď o u r) (EP X S F Q) X.xe s:=by
  intro a c hx M A;clear D L f k g e l;subst hx;subst M;simp only [RA] at rx j;subst rx;subst j;obtain ⟨t,rfl⟩:=m;obtain ⟨t',rfl⟩:=n;cases o <;> simp only [Bt] at A <;> first | (cases A;done) | skip
  ·cases A;exact lt_int (aw s I)
  ·cases A;exact le_int (aw s I)
  ·cases A;exact gt_int (aw s I)
  ·cases A;exact ge_int (aw s I)
 cases o<;>simp only[cb]at g
 case Eq=>exact(D g).1 (aw s I)
 case NotEq=>obtain⟨c,i,rfl⟩:=f g;exact(D i).2 (aw s I)
 case Is=>exact(L g).1 (aw s I)
 case IsNot=>obtain⟨c,i,rfl⟩:=f g;exact(L i).2 (aw s I)
 case In=>exact(vn T I l g rx j m n (Q':=fun _ _=>True) aw fun _ _=>trivial).1
 case NotIn=>obtain⟨c,i,rfl⟩:=f g;exact(vn T I l i rx j m n (Q:=fun _ _=>True) (fun _ _=>trivial) aw).2
 all_goals
  split at g
  ·exact K rfl rfl g
  ·cases g
noncomputable def my(op:ϙ)(b:Î):Bool:=!(Ϫ op b)
theorem sN(h:my op b=Â):Ϫ op b=Ã:=by simpa [my] using h
theorem Gw[O2](c:X.A.units+64<ř)(h:QE X a f)(e:QE X b g)(d:my o b=Â):QE X (.Compare a [o] [b] pos) (a2 f g (lu (oh o))) :=
 PE_imp (Er (yg c o) h e (sN d)) fun _ _ _ q=>xg q
def FF(f g:EF)(o:ϙ):TF:=fun sl st=>(f sl st).bind fun p=>(g sl p.2).bind fun q=>(cb o q.2 p.1 q.1).map fun b=>(b,q.2)
theorem F6[O2](v:X.A.units+64<ř)(z:QE X a f)(y:QE X b g)(x:my o b=Â):QT X (.Compare a [o] [b] pos) (FF f g o) :=
 PT_imp (DY (yg v o) z y (sN x)) fun K H Q h=>by
  obtain⟨P,j,n,m,u,s,k⟩:=h;refine xg (k:=lu (oh o)) ⟨P,j,n,m,u,s,?_⟩;obtain⟨b,l,e,q⟩:=k;unfold FF at e;obtain⟨p,G,F⟩:=zA e;obtain⟨r,E,D⟩:=zA F;obtain⟨c,C,B⟩:=zE.mp D;injection B with e7 e8;subst e7;subst e8;refine⟨.bl c,r.2,by simp only[a2,G,Æ,E,lu,oh,C,Û],fun I d J w A t i=>?_⟩;simp only[RA]at i;exact⟨c,i,q I d J c A t rfl⟩
def j3(o:UnaryOp)(_:aa):AV->Option AV
 |.int i=>match o with
  |.USub=>À (.int (-i))
  |.Invert=>À (.int (T5 i))
  |_=>Á
 |_=>Á
theorem Jp[O2](j:QE X a f):QE X (.UnaryOp o a pos) (a1 f (FO (j3 o))):=by
 have h:Am X (X6 o) (r1 X.gm (FO (j3 o))):=by
  rintro g s b H v u Q I d ⟨P,l,m,x,c,rx,k⟩;obtain ⟨z,e,k⟩:=k.map;cases x <;> simp only [j3] at e <;> first | (cases e;done) | skip
  rename_i i;simp only [RA] at rx;subst rx;cases o <;> first | (cases e;done) | skip
  ·cases e
   exact E9 g s b H _ u Q I d ⟨i,rfl,k.pure c (by simp only[RA])⟩
  ·cases e
   exact E8 g s b H _ u Q I d ⟨i,rfl,k.pure c (by simp only[RA])⟩
 exact PE_imp (JD h j) fun _ _ _ q=>MO q
def fu(st:aa)(v:AV):Option Bool:=match b8 st v with
 |some xs=>À !xs.isEmpty
 |none=>match v with
  |.non=>À Ã
  |.bl b=>À b
  |.int i=>À (i !=0)
  |.str x=>if ß x.length 1000000=Â then À ((x.length:Int) !=0) else Á
  |.tup xs=>À !xs.isEmpty
  |v=>(jE st v).map fun O1=>!O1.isEmpty
theorem qM(r:O6 mg P H φ xs vs):vs.isEmpty=xs.isEmpty:=by
 cases xs with
 |nil=>simp only[O6]at r;subst r;rfl
 |cons x xs=>simp only[O6]at r;obtain⟨v,a,rfl,_⟩:=r;rfl
theorem AD[O2]{P:Pr}{H:Hp}{φ:List Ç}{st:aa}(i:Sim X.gm P φ st H){v:AV}{w:V}{b:Bool}(h:fu st v=À b)(r:RA X.gm P H φ v w):B7 X.K w H b:=by
 unfold fu at h;split at h
 ·rename_i l e
  cases h;obtain⟨a,g,rfl,n,q⟩:=r.ls i e;exact .inl ⟨g,n,by rw[qM q]⟩
 ·cases v<;>simp only at h
  case non=>cases h;simp only[RA]at r;subst r;exact rfl
  case bl=>cases h;simp only[RA]at r;subst r;exact rfl
  case int=>cases h;simp only[RA]at r;subst r;exact rfl
  case str x =>
   simp only[RA]at r;subst r;split at h
   ·rename_i s;cases h;exact⟨z5 (zS s) dC,rfl⟩
   ·cases h
  case tup l =>
   cases h;simp only[RA]at r;obtain⟨a,g,rfl,_,e,q⟩:=r;exact .inr (.inl ⟨g,.inl (.inl e),by rw[qM q]⟩)
  case fz=>obtain⟨_,z,_⟩:=zE.mp h;simp[jE]at z
  case ref k =>
   obtain⟨C,f,y⟩:=zE.mp h;subst y;simp only[jE]at f;split at f
   ·rename_i j t
    cases f;simp only[RA]at r;obtain⟨a,u,rfl⟩:=r;obtain⟨B,d,c⟩:=i.at t;rw[u]at d;cases d;obtain⟨_,m,p,o,A⟩:=c;refine .inr (.inr ⟨m,p,?_⟩)
    have:=congrArg List.isEmpty o
    simpa using this
   ·cases f
def tV(f:EF):TF:=fun sl st=>(f sl st).bind fun p=>(fu p.2 p.1).map fun b=>(b,p.2)
theorem xP[O2](r:QE X a f)(he:∀whole,B! a X.env whole=(do let v <- whole;ŗ a.pos;holding [v] (truthy v))):QT X a (tV f) :=
 PT_imp (A7 r he) fun A H Q ⟨P,j,n,m,p,s,k⟩=>⟨P,j,n,m,p,s,by
  obtain⟨a,e,w,q⟩:=k.bind (Ra:=RA);refine⟨a,e,w,fun y d z b t o r1=>?_⟩;obtain⟨C,i,l,x,B,h,r2,g⟩:=q y d z b t o r1;obtain⟨c,u,g⟩:=g.map;exact⟨c,AD h u r2,g.pure h rfl⟩⟩
def K4(f g:TF):TF:=fun sl st=>(f sl st).bind fun p=>if p.1=Â then g sl p.2 else À (Ã,p.2)
def Fy(f g:TF):TF:=fun sl st=>(f sl st).bind fun p=>if p.1=Â then À (Â,p.2) else g sl p.2
def K2(f:TF):TF:=fun sl st=>(f sl st).bind fun p=>À (!p.1,p.2)
section
variable{a b:Î}{rest:List Î}{pos:ė}{f g:TF}
theorem F0[O2](b:J!)(c:QT X a f):QW X (.BoolOp b [a] pos) f:=by
 cases b
 ·exact DX c
 ·exact Gz c
theorem F4[O2](u:QT X a f)(t:QW X (.BoolOp .And (b::rest) pos) g):QW X (.BoolOp .And (a::b::rest) pos) (K4 f g) :=
 PW_imp (GB u t) fun C H Q ⟨P,o,j,p,m,s,k⟩=>⟨P,o,j,p,m,s,by
  obtain⟨a,i,y,q⟩:=k.bind (Ra:=RB);refine⟨a,i,y,fun A e B c w r r1=>?_⟩;obtain⟨z,d,h,x,v,l,r2,n⟩:=q A e B c w r r1;cases r2;cases c with
  |true=>exact⟨z,d,j,h,m.frm v,l,n⟩
  |false=>exact n.pure l rfl⟩
theorem Ji[O2](u:QT X a f)(t:QW X (.BoolOp .Or (b::rest) pos) g):QW X (.BoolOp .Or (a::b::rest) pos) (Fy f g) :=
 PW_imp (Jv u t) fun C H Q ⟨P,o,j,p,m,s,k⟩=>⟨P,o,j,p,m,s,by
  obtain⟨a,i,y,q⟩:=k.bind (Ra:=RB);refine⟨a,i,y,fun A e B c w r r1=>?_⟩;obtain⟨z,d,h,x,v,l,r2,n⟩:=q A e B c w r r1;cases r2;cases c with
  |false=>exact⟨z,d,j,h,m.frm v,l,n⟩
  |true=>exact n.pure l rfl⟩
theorem F5[O2](p:QT X a f):QT X (.UnaryOp .Not a pos) (K2 f) :=
 PT_imp (GC p) fun w H Q ⟨P,g,j,i,n,s,k⟩=>⟨P,g,j,i,n,s,by
  obtain⟨a,d,t,q⟩:=k.bind (Ra:=RB);refine⟨a,d,t,fun u b v c r m r1=>?_⟩;obtain⟨z,e,h,x,y,l,r2,o⟩:=q u b v c r m r1;cases r2;exact o.pure l rfl⟩
end
def C8(f g:EF):EF:=fun sl st=>(f sl st).bind fun p=>match p.1 with
 |.bl Â=>g sl p.2
 |.bl Ã=>À (.bl Ã,p.2)
 |_=>Á
def C4(f g:EF):EF:=fun sl st=>(f sl st).bind fun p=>match p.1 with
 |.bl Ã=>g sl p.2
 |.bl Â=>À (.bl Â,p.2)
 |_=>Á
def Lz(f:EF):EF:=fun sl st=>(f sl st).bind fun p=>match p.1 with
 |.bl b=>À (.bl !b,p.2)
 |_=>Á
def LA(t:TF)(f g:EF):EF:=fun sl st=>(t sl st).bind fun p=>if p.1=Â then f sl p.2 else g sl p.2
section
variable{a b c:Î}{rest:List Î}{pos:ė}{f g:EF}{t:TF}
theorem KG.no[O2]{α a:Type}{Ra:Gm->Pr->Hp->List Ç->α->a->Prop}{Q:a->Hp->Prop}(h:KG mg Ra P φ H Á Q):False:=by obtain⟨_,_,e,_⟩:=h;cases e
theorem Gy[O2](v:QE X a f)(u:QE X (.BoolOp .And (b::rest) pos) g):QE X (.BoolOp .And (a::b::rest) pos) (C8 f g) :=
 PE_imp (GZ v u) fun D H Q ⟨P,p,m,r,o,s,k⟩=>⟨P,p,m,r,o,s,by
  obtain⟨a,j,z,q⟩:=k.bind (Ra:=RA);refine⟨a,j,z,fun B h C c y t r1=>?_⟩;obtain⟨A,e,i,x,w,n,r2,l⟩:=q B h C c y t r1;cases x<;>first|exact l.no.elim|skip
  rename_i d;simp only[RA]at r2;refine⟨d,r2,?_⟩;cases d with
  |true=>exact⟨A,e,m,i,o.frm w,n,l⟩
  |false=>exact l.pure n (by simp only[RA])⟩
theorem Jr[O2](v:QE X a f)(u:QE X (.BoolOp .Or (b::rest) pos) g):QE X (.BoolOp .Or (a::b::rest) pos) (C4 f g) :=
 PE_imp (JE v u) fun D H Q ⟨P,p,m,r,o,s,k⟩=>⟨P,p,m,r,o,s,by
  obtain⟨a,j,z,q⟩:=k.bind (Ra:=RA);refine⟨a,j,z,fun B h C c y t r1=>?_⟩;obtain⟨A,e,i,x,w,n,r2,l⟩:=q B h C c y t r1;cases x<;>first|exact l.no.elim|skip
  rename_i d;simp only[RA]at r2;refine⟨d,r2,?_⟩;cases d with
  |false=>exact⟨A,e,m,i,o.frm w,n,l⟩
  |true=>exact l.pure n (by simp only[RA])⟩
theorem Gr[O2](r:QE X a f):QE X (.UnaryOp .Not a pos) (Lz f) :=
 PE_imp (GT r) fun y H Q ⟨P,i,m,l,p,s,k⟩=>⟨P,i,m,l,p,s,by
  obtain⟨a,e,u,q⟩:=k.bind (Ra:=RA);refine⟨a,e,u,fun v b w c t o r1=>?_⟩;obtain⟨A,h,j,x,z,n,r2,g⟩:=q v b w c t o r1;cases x<;>first|exact g.no.elim|skip
  rename_i d;simp only[RA]at r2;exact⟨d,r2,g.pure n (by simp only[RA])⟩⟩
theorem Jt[O2](w:QT X c t)(z:QE X a f)(y:QE X b g):QE X (.IfExp c a b pos) (LA t f g) :=
 PE_imp (Bo w z y) fun E H Q ⟨P,r,j,u,l,s,k⟩=>⟨P,r,j,u,l,s,by
  obtain⟨a,i,B,q⟩:=k.bind (Ra:=RB);refine⟨a,i,B,fun C h D c A v r1=>?_⟩;obtain⟨p,d,e,x,o,m,r2,n⟩:=q C h D c A v r1;cases r2;cases c with
  |true=>exact⟨p,d,j,e,l.frm o,m,n⟩
  |false=>exact⟨p,d,j,e,l.frm o,m,n⟩⟩
end
def aR(st:aa)(x y:AV):Option AV:=match n9 st x y with
 |some o=>o
 |none=>match y with
  |.int i=>match b8 st x with
   |some xs=>gJ xs i
   |none=>match jp st x with
    |some xs=>gJ xs i
    |none=>match x with
     |.str z=>if ß z.length 1000000=Â then(gJ z.cps.toList i).map fun c=>.str ⟨#[c]⟩ else Á
     |_=>Á
  |_=>Á
theorem qh{i:Int}(r:O6 mg P H φ xs vs)(h:gJ xs i=À x):∃v,gJ vs i=À v/\RA mg P H φ x v:=by
 unfold gJ at h ⊢;rw[<- r.length];obtain⟨j,b,a⟩:=zA h;rw[b,Æ];exact r.get a
theorem EK(o:X.A.units+64<ř):IxR X (fun x y H Q=>∃a v,x=.ref a/\DGet H a y (À v)/\Q v H):=by
 rintro b c k s h H x y v u Q I rx i ⟨a,t,ex,g,q⟩ j;subst ex;cases rx;have f:=uv I g;unfold ϩ;refine yE ?_;rw[getitemInPython_of_ne f.not_modules];refine yE (Z3 f PySem.F.slot_dict_getitem.lookup ?_);have aw:Ï (model X.prog X.w) X.A (subscripted c Ã (.ref a) u) (fun r d=>Ï (model X.prog X.w) X.A (letTemporaryGo b (.ref a) r>>=fun _=>pure r) (EP X k h Q) X.xe d) X.xe s:=by
  rw[j];exact wpAny_operating (Ac oM I g i fun m n l e=>yE (wpAny_letTemporaryGo (yF ⟨t,H,l,e,q⟩)))
 first
  |exact yF (yE aw)
  |exact yE (yF (yE aw))
  |exact yE aw
theorem Mx[O2](J:X.A.units+64<ř):IxR X (r2 X.gm (lu aR)):=by
 rintro b d A s l H v w u r Q I m n ⟨P,O,R,x,y,f,rx,C,F⟩ p;obtain⟨z,e,k⟩:=F.map;clear F;unfold aR at e;split at e
 ·rename_i o M
  subst e;obtain⟨a,S,rfl,g,_,L⟩:=tE f M C rx;obtain⟨t,rfl,h⟩:=L z rfl;exact EK J b d A s l H _ _ u r Q I m n ⟨a,t,rfl,g,k.pure f h⟩ p
 ·cases y with
  |int i =>
   simp only[RA]at C;subst C;dsimp only at e;split at e
   ·rename_i G E
    obtain⟨a,B,rfl,D,q⟩:=rx.ls f E;obtain⟨t,j,h⟩:=qh q e;exact td b d A s l H _ _ u r Q I m n (.inl ⟨a,B,i,t,rfl,rfl,D,j,k.pure f h⟩) p
   ·split at e
    ·rename_i G E
     obtain⟨a,B,rfl,D,q⟩:=rx.tp f E;obtain⟨t,j,h⟩:=qh q e;exact td b d A s l H _ _ u r Q I m n (.inr (.inl ⟨a,B,i,t,rfl,rfl,.inl (.inl D),j,k.pure f h⟩)) p
    ·cases x with
     |str x =>
      dsimp only at e;split at e
      ·rename_i K
       obtain⟨c,N,j⟩:=zE.mp e;subst j;simp only[RA]at rx;subst rx;exact td b d A s l H _ _ u r Q I m n (.inr (.inr ⟨x,i,c,rfl,rfl,z5 (zS K) dC,N,k.pure f (by simp only[RA])⟩)) p
      ·cases e
     |_=>cases e
  |_=>cases e
theorem Js[O2](c:X.A.units+64<ř)(h:QE X a f)(e:QE X b g)(d:qo b):QE X (.Subscript a b pos) (a2 f g (lu aR)) :=
 PE_imp (JG (Mx c) h e d) fun _ _ _ q=>xg q
def Ly(g:AF):EF:=fun sl st=>(g sl st).bind fun p=>if ß p.1.length 1000=Â then À (.tup p.1,p.2) else Á
theorem Gq[O2]{l:Nat}(h:QA X es g):QE X (.Tuple es l pos) (Ly g) :=
 PE_imp (GQ h) fun F H Q ⟨P,j,r,n,w,s,k⟩=>⟨P,j,r,n,w,s,by
  obtain⟨a,e,C,q⟩:=k.bind (Ra:=O6);refine⟨a,e,C,fun D c E d A v r1=>?_⟩;obtain⟨J,i,m,G,I,u,r2,b⟩:=q D c E d A v r1;dsimp only at b;split at b
  ·rename_i z
   refine⟨by rw[<- r2.length];exact z5 (zS z) dC,fun p y=>?_⟩;obtain⟨f,t⟩:=oC (o:=.tup d) u y;obtain⟨_,_,B,x⟩:=b;cases B;refine x _ _ _ _ f t ?_;simp only[RA];exact⟨p,d,rfl,.inr rfl,aD,r2.frm f⟩
  ·exact b.no.elim⟩
end
mutual
noncomputable def c5:AV->AV->Bool
 |.non,.non=>Â
 |.bl a,.bl b=>a==b
 |.int a,.int b=>a==b
 |.str a,.str b=>a==b
 |.ref a,.ref b=>a==b
 |.tup a,.tup b=>gD a b
 |.fz a,.fz b=>gD a b
 |_,_=>Ã
noncomputable def gD:List AV->List AV->Bool
 |[],[]=>Â
 |x::xs,y::ys=>c5 x y&&gD xs ys
 |_,_=>Ã
end
mutual
theorem qf:∀{x y:AV},c5 x y=Â->x=y
 |.non,y,h=>by cases y<;>simp only[c5]at h<;>first|rfl|cases h
 | .bl a,y,h=>by cases y <;> simp only [c5] at h <;> first | (rw [yJ h]) | cases h
 | .int a,y,h=>by cases y <;> simp only [c5] at h <;> first | (rw [yJ h]) | cases h
 | .str a,y,h=>by cases y <;> simp only [c5] at h <;> first | (rw [yJ h]) | cases h
 | .ref a,y,h=>by cases y <;> simp only [c5] at h <;> first | (rw [yJ h]) | cases h
 | .tup a,y,h=>by cases y <;> simp only [c5] at h <;> first | (rw [mH h]) | cases h
 | .fz a,y,h=>by cases y <;> simp only [c5] at h <;> first | (rw [mH h]) | cases h
theorem mH:∀{xs ys:List AV},gD xs ys=Â->xs=ys
 |[],ys,h=>by cases ys<;>simp only[gD]at h<;>first|rfl|cases h
 |x::xs,ys,h=>by
  cases ys with
  |nil=>simp only[gD]at h;cases h
  |cons y ys =>
   simp only[gD,zC]at h;rw[qf h.1,mH h.2]
end
mutual
theorem Aj:∀x:AV,c5 x x=Â
 |.non=>by simp only[c5]
 |.bl a=>by simp[c5]
 |.int a=>by simp[c5]
 |.str a=>by simp[c5]
 |.ref a=>by simp[c5]
 |.tup a=>by simp only[c5];exact jG a
 |.fz a=>by simp only[c5];exact jG a
theorem jG:∀xs:List AV,gD xs xs=Â
 |[]=>by simp only[gD]
 |x::xs=>by simp only[gD,Aj x,jG xs,Ģ]
end
abbrev Gd:=List (Nat×O3)
def xc:O3->O3->Bool
 |.lst a,.lst b=>gD a b
 |.dK a,.dK b=>decide (a.map (·.1)=b.map (·.1))&&gD (a.map (·.2)) (b.map (·.2))
 |_,_=>Ã
def cD:Gd->aa->Bool
 |[],_=>Â
 |g::gs,st=>(match st[g.1]? with|some c=>xc c g.2|none=>Ã)&&cD gs st
theorem BQ{k:Nat}{xs:List AV}{gs:Gd}{st:aa}(h:cD ((k,.lst xs)::gs) st=Â):st[k]?=À (.lst xs)/\cD gs st=Â:=by
 simp only[cD,zC]at h;refine⟨?_,h.2⟩;have h:=h.1;split at h
 ·rename_i c e
  cases c <;> simp only [xc] at h <;> first | (cases h;done) | skip
  rw[e,mH h]
 ·cases h
theorem vA{a b:Gd}{st:aa}(h:cD (a++b) st=Â):cD a st=Â/\cD b st=Â:=by
 induction a with
 |nil=>exact⟨rfl,h⟩
 |cons g a c =>
  simp only[ϭ,cD,zC]at h ⊢;exact⟨⟨h.1,(c h.2).1⟩,(c h.2).2⟩
structure Iv where
 O4:List AV
 gd:Gd
abbrev IF:=Sl->aa->Option (Iv×aa)
structure ul[O2](mg:Gm)(J:It)(iv:Iv)(P:Pr)(φ:List Ç)(H:Hp):Prop where
 go:∀P2 φ2 H2 st2 (i:Nat) x,Frm P φ H P2 φ2 H2->Sim mg P2 φ2 st2 H2->cD iv.gd st2=Â->iv.O4[i]?=À x->J.go i H2/\∀v H3,J.yld i H2 v H3->∃P3,Frm P2 φ2 H2 P3 φ2 H3/\Sim mg P3 φ2 st2 H3/\RA mg P3 H3 φ2 x v
 stop:∀P2 φ2 H2 st2,Frm P φ H P2 φ2 H2->Sim mg P2 φ2 st2 H2->cD iv.gd st2=Â->J.stop iv.O4.length H2
def rI[O2](mg:Gm)(f:IF):TI:=fun σ H R=>∃P φ sl st,Pa mg P H φ sl σ/\Sim mg P φ st H/\∃iv st',f sl st=À (iv,st')/\∀P' φ' H' J,Frm P φ H P' φ' H'->Sim mg P' φ' st' H'->ul mg J iv P' φ' H'->R J H'
def QI[O2](X:Cx)(tg iter:Î)(f:IF):Prop:=PI X tg iter (rI X.gm f)
theorem gY(h:PI X tg iter t)(i:∀σ H R,t' σ H R->t σ H R):PI X tg iter t':=fun b s σ H R I a=>h b s σ H R I (i σ H R a)
def ja(st:aa)(v:AV):Option Iv:=match dr st v with
 |.fz xs=>À ⟨xs,[]⟩
 |.ref k=>match st[k]? with
  |some (.lst xs)=>À ⟨xs,[(k,.lst xs)]⟩
  |_=>Á
 |_=>Á
section
variable{mg:Gm}{P:Pr}{φ:List Ç}{st:aa}{H:Hp}{v:AV}{w:V}{iv:Iv}
theorem lM[O2](s:Sim mg P φ st H)(r:RA mg P H φ v w)(h:ja st v=À iv):∃a,w=.ref a/\∀P2 φ2 H2 st2,Frm P φ H P2 φ2 H2->Sim mg P2 φ2 st2 H2->cD iv.gd st2=Â->∃vs,bR mg.K H2 a vs/\O6 mg P2 H2 φ2 iv.O4 vs:=by
 have r:=r.dr s;unfold ja at h;split at h
 ·rename_i j e
  cases h;rw[e]at r;simp only[RA]at r;obtain⟨a,vs,d,b,q⟩:=r;refine⟨a,d,fun P2 φ2 H2 st2 f _ _=>⟨vs,(b.mono f.ext).sq,?_⟩⟩;exact O6.lift (q.mono f.ext fun k a e=>by simp at e)
 ·rename_i k e
  rw[e]at r;simp only[RA]at r;obtain⟨a,d,b⟩:=r;split at h
  ·rename_i j o
   cases h;refine⟨a,b,fun P2 φ2 H2 st2 f l g=>?_⟩;obtain⟨g1,_⟩:=BQ g;obtain⟨p,i,c⟩:=l.at g1;rw[f.ix k a d]at i;cases i;obtain⟨_,vs,n,m⟩:=c;exact⟨vs,.inl (.inl n),m⟩
  ·cases h
 ·cases h
end
section
variable{X:Cx}{tg e a b:Î}{es:List Î}{pos p:ė}
def oQ(st:aa)(v:AV):Option Iv:=match v with
 |.str x=>if x.cps.all (·<128)=Â then À ⟨x.cps.toList.map fun c=>.str ⟨#[c]⟩,[]⟩ else Á
 |v=>match jp st v with
  |some xs=>À ⟨xs,[]⟩
  |none=>ja st v
def iE(f:EF):IF:=fun sl st=>(f sl st).bind fun p=>(oQ p.2 p.1).map fun iv=>(iv,p.2)
theorem GM[O2](r:PE X e tl):PI X tg e (fun σ H R=>tl σ H fun x H1=>(∃a,x=.ref a/\(∃xs,bR X.K H1 a xs)/\R (Df X.K a) H1)\/(∃a,x=.ref a/\(∃xs,iz X.K H1 a xs)/\R (Dd X.K a) H1)\/∃x':Í,x=.str x'/\x'.cps.all (·<128)=Â/\R (De x') H1):=by
 intro k s σ H R I h;refine ar (r k s σ H _ I h) fun v c f=>?_
 obtain⟨x,H1,d,r1,m⟩:=f;have i:∀b∈[c.heap.objs.size],dU X k H1 b:=fun b u=>by
  have e:b=c.heap.objs.size:=by simpa using u
  subst e;exact d.fpOk (zP _) (d.O8.fresh (zP _))
 rcases m with⟨a,e,⟨xs,g⟩,q⟩|⟨a,e,⟨xs,g⟩,q⟩|⟨y,e,n,q⟩
 ·subst e
  cases r1;obtain⟨j,l,p,hz⟩:=d.list g;refine ī p.isList ?_;exact⟨c.heap.objs.size,[c.heap.objs.size],_,_,H1,rfl,d.kept (t':=c.toks) fun b o e=>zG _ e,xu a _,⟨_,zY _ rfl,rfl,rfl⟩,i,q⟩
 ·subst e
  cases r1;obtain ⟨j,l,p,hz⟩:=d.tuple g;refine wpAny_pyIter_tuple (show c.heap.IsTuple a j.toArray from p) ?_;exact ⟨c.heap.objs.size,[c.heap.objs.size],_,_,H1,rfl,d.kept (t':=c.toks) fun b o e=>zG _ e,vQ a _,⟨_,zY _ rfl,rfl,rfl⟩,i,q⟩
 ·subst e
  obtain⟨t,rfl⟩:=r1;refine wpAny_pyIter_ascii n ?_;exact⟨c.heap.objs.size,[c.heap.objs.size],_,_,H1,rfl,d.kept (t':=c.toks) fun b o e=>zG _ e,AC y t _,⟨_,zY _ rfl,rfl,rfl⟩,i,q⟩
theorem BI[O2]{mg:Gm}{P:Pr}{φ:List Ç}{H:Hp}{K:Þ}{a:Ç}{d:Iv}(h:∀P2 φ2 H2 st2,Frm P φ H P2 φ2 H2->Sim mg P2 φ2 st2 H2->cD d.gd st2=Â->∃vs,bR K H2 a vs/\O6 mg P2 H2 φ2 d.O4 vs):ul mg (Df K a) d P φ H where
 go:=fun P2 φ2 H2 st2 i x f s g e=>by
  obtain⟨vs,b,c⟩:=h P2 φ2 H2 st2 f s g;obtain⟨v,k,r1⟩:=c.get e;refine⟨⟨vs,v,b,k⟩,fun w n j=>?_⟩;obtain⟨m,l⟩:=j;subst m
  have:=l vs b
  rw[k]at this;cases this;exact⟨P2,Frm.refl,s,r1⟩
 stop:=fun P2 φ2 H2 st2 f s g=>by
  obtain⟨vs,b,c⟩:=h P2 φ2 H2 st2 f s g;exact⟨vs,b,by rw[<- c.length];exact zP _⟩
theorem EL[O2]{mg:Gm}{P:Pr}{φ:List Ç}{H:Hp}{K:Þ}{a:Ç}{xs:List AV}{vs:List V}(j:P a)(k:H a=À (.tup vs))(h:O6 mg P H φ xs vs):ul mg (Dd K a) ⟨xs,[]⟩ P φ H where
 go:=fun n b o c i x f s g e=>by
  obtain⟨v,m,r1⟩:=(h.frm f).get e;have l:iz K o a vs:=.inl (.inl ((f.ext a j).2.trans k));refine⟨⟨vs,v,l,m⟩,fun w r d=>?_⟩;obtain⟨q,p⟩:=d;subst q
  have:=p vs l
  rw[m]at this;cases this;exact⟨n,Frm.refl,s,r1⟩
 stop:=fun n b o c f s g=>⟨vs,.inl (.inl ((f.ext a j).2.trans k)),by rw[<- h.length];exact zP _⟩
theorem EM[O2]:ul mg (De x) ⟨x.cps.toList.map fun c=>.str ⟨#[c]⟩,[]⟩ P φ H where
 go:=fun k a o b i y f s g e=>by
  rw[zR]at e;obtain⟨c,h,n⟩:=zE.mp e;rw[x?]at h;subst n;refine⟨⟨c,h⟩,fun w q d=>?_⟩;obtain⟨m,p,j,l⟩:=d;subst m;rw[h]at j;cases j;exact⟨k,Frm.refl,s,by simp only[RA];exact l⟩
 stop:=fun k a o b f s g=>by
  show x.cps[_]?=Á;simp
theorem lL{st:aa}{v:AV}{a:Iv}(h:ja st v=À a):cD a.gd st=Â:=by
 unfold ja at h;split at h
 ·cases h;rfl
 ·split at h
  ·rename_i k _ c b
   cases h;simp only[cD];rw[b];simp only[xc,jG,Ģ]
  ·cases h
 ·cases h
theorem Mm[O2](K:QE X e f):QI X tg e (iE f):=gY (GM K) fun Q H R ⟨P,y,B,A,C,s,I,z,t,k⟩=>⟨P,y,B,A,C,s,by
 unfold iE at t;obtain⟨p,O,N⟩:=zA t;obtain⟨G,b,M⟩:=zE.mp N;cases M;refine⟨p.1,p.2,O,fun l c d w r i r1=>?_⟩;unfold oQ at b;have q:∀v:AV,p.1=v->(match jp p.2 v with|some g=>À ⟨g,[]⟩|none=>ja p.2 v)=À I->((∃a,w=.ref a/\(∃g,bR X.K d a g)/\R (Df X.K a) d)\/(∃a,w=.ref a/\(∃g,iz X.K d a g)/\R (Dd X.K a) d)\/∃m:Í,w=.str m/\m.cps.all (·<128)=Â/\R (De m) d):=by
  intro v ev b;rw[ev]at r1;split at b
  ·rename_i g j
   cases b;have r2:=r1.dr i;unfold jp at j;split at j
   ·rename_i S L
    cases j;rw[L]at r2;simp only[RA]at r2;obtain⟨a,n,rfl,F,u,E⟩:=r2;exact .inr (.inl ⟨a,rfl,⟨n,.inl (.inl u)⟩,k l c d _ r i (EL F u E)⟩)
   ·cases j
  ·obtain⟨a,rfl,h⟩:=lM i r1 b
   obtain⟨n,D,_⟩:=h l c d p.2 Frm.refl i (lL b);exact .inl ⟨a,rfl,⟨n,D⟩,k l c d _ r i (BI h)⟩
 cases o:p.1 with
 |str x =>
  rw[o]at b r1;simp only at b;split at b
  ·rename_i J
   cases b;simp only[RA]at r1;exact .inr (.inr ⟨x,r1,J,k l c d _ r i EM⟩)
  ·cases b
 |_=>rw[o]at b;exact q _ o b⟩
noncomputable def fx(i:Int):Bool:=ß i.natAbs.log2 60
noncomputable def dF(i:Int)(n:Nat):List AV:=(Ä n).map fun k=>.int (i+(k:Nat))
def CJ(f:EF):IF:=fun sl st=>(f sl st).bind fun p=>match p.1 with
 |.int j=>if fx j=Â then À (⟨dF 0 j.toNat,[]⟩,p.2) else Á
 |_=>Á
def CI(f g:EF):IF:=fun sl st=>(f sl st).bind fun p=>(g sl p.2).bind fun q=>match p.1,q.1 with
 |.int i,.int j=>if(fx i&&fx j)=Â then À (⟨dF i (j-i).toNat,[]⟩,q.2) else Á
 |_,_=>Á
theorem gN{i:Int}(h:fx i=Â):-(2^62)<=i/\i<2^62:=by
 have:=log2_lt h
 have e:(2:Nat)^(60+1)=2305843009213693952:=by decide
 rw[e]at this;lia
theorem vi[O2]{i:Int}{n:Nat}:ul mg (As i n) ⟨dF i n,[]⟩ P φ H where
 go:=fun l a r b k y f s g e=>by
  unfold dF at e;rw[zR]at e;obtain⟨c,q,p⟩:=zE.mp e;obtain⟨j,h⟩:=zB.mp q;rw[Q7]at h;subst h p;rw[Ĥ]at j;refine⟨j,fun w t d=>?_⟩;obtain⟨o,m⟩:=d;subst o;exact⟨l,Frm.refl,s,by simp only[RA];exact m⟩
 stop:=fun l a r b f s g=>by
  show n<=(dF i n).length;simp[dF]
theorem xO[O2]{mg:Gm}{f:EF}{σ:St}{H:Hp}{Q:List V->Hp->Prop}{P:Pr}{φ:List Ç}{sl:Sl}{st:aa}(b:Pa mg P H φ sl σ)(s:Sim mg P φ st H)
  (h:∃v st1,f sl st=À (v,st1)/\∀P1 φ1 H1 w,Frm P φ H P1 φ1 H1->Sim mg P1 φ1 st1 H1->RA mg P1 H1 φ1 v w->Q [w] H1):rA mg (dN f eF) σ H Q:=by
 obtain⟨v,st1,e,k⟩:=h;refine⟨P,φ,sl,st,b,s,[v],st1,by simp only[dN,eF,e,Æ],fun P1 φ1 H1 d c a r1=>?_⟩;simp only[O6]at r1;obtain⟨w,g,rfl,r,rfl⟩:=r1;exact k P1 φ1 H1 w c a r
theorem FZ[O2]{mg:Gm}{f g:EF}{σ:St}{H:Hp}{Q:List V->Hp->Prop}{P:Pr}{φ:List Ç}{sl:Sl}{st:aa}(c:Pa mg P H φ sl σ)(s:Sim mg P φ st H)
  (h:∃v st1 u st2,f sl st=À (v,st1)/\g sl st1=À (u,st2)/\∀P1 φ1 H1 w w',Frm P φ H P1 φ1 H1->Sim mg P1 φ1 st2 H1->RA mg P1 H1 φ1 v w->RA mg P1 H1 φ1 u w'->Q [w,w'] H1):rA mg (dN f (dN g eF)) σ H Q:=by
 obtain⟨v,st1,u,st2,e,j,k⟩:=h;refine⟨P,φ,sl,st,c,s,[v,u],st2,by simp only[dN,eF,e,j,Æ],fun P1 φ1 H1 l i b r1=>?_⟩;simp only[O6]at r1;obtain⟨w,m,rfl,r,w',a,rfl,d,rfl⟩:=r1;exact k P1 φ1 H1 w w' i b r d
theorem Jn[O2](n:Gl X "range")(m:X.mg "range"=Á)(o:QE X a f)(e:Ê [a] X.env=[(Ã,eval a X.env)]):QI X tg (.Call (.Name "range" p) [a] [] pos) (CJ f) :=
 gY (ya n m (cQ o eM (by rw[e];rfl)) e) fun A H R d=>by
  obtain⟨P,z,C,B,l,s,D,h,u,k⟩:=d;obtain⟨q,v,b⟩:=zA u;refine xO l s ⟨q.1,q.2,v,fun x c y w r i r1=>?_⟩;split at b
  ·rename_i j t
   rw[t]at r1;split at b
   ·rename_i g
    cases b;simp only[RA]at r1;subst r1;exact⟨j,rfl,(gN g).1,(gN g).2,k x c y _ r i vi⟩
   ·cases b
  ·cases b
theorem Jm[O2](y:Gl X "range")(x:X.mg "range"=Á)(z:QE X a f)(l:QE X b g)(m:Ê [a,b] X.env=[(Ã,eval a X.env),(Ã,eval b X.env)])(c:Ê [b] X.env=[(Ã,eval b X.env)]) :
  QI X tg (.Call (.Name "range" p) [a,b] [] pos) (CI f g) :=
 gY (xZ y x (cQ z (cQ l eM (by rw[c];rfl)) (by rw[m,c])) m c) fun L H R h=>by
  obtain⟨P,K,O,N,v,s,Q,t,D,k⟩:=h;obtain⟨q,G,F⟩:=zA D;obtain⟨r,E,d⟩:=zA F;refine FZ v s ⟨q.1,q.2,r.1,r.2,G,E,fun I e J w M A u r1 r2=>?_⟩;split at d
  ·rename_i i j C B
   rw[C]at r1;rw[B]at r2;split at d
   ·rename_i l
    cases d;obtain⟨o,n⟩:=Œ.mp l;simp only[RA]at r1 r2;subst r1;subst r2;exact⟨i,j,rfl,⟨(gN o).1,(gN o).2,(gN n).1,(gN n).2⟩,k I e J _ A u vi⟩
   ·cases d
  ·cases d
def iZ(f g:EF):IF:=fun sl st=>(f sl st).bind fun p=>(g sl p.2).bind fun q=>(ja q.2 p.1).bind fun x=>(ja q.2 q.1).bind fun y=>À (⟨(x.O4.zip y.O4).map fun z=>.tup [z.1,z.2],x.gd++y.gd⟩,q.2)
theorem u9[O2]{mg:Gm}{P:Pr}{φ:List Ç}{st:aa}{H:Hp}{p:Ç}{x y:AV}{u w:V}(s:Sim mg P φ st H)(d:H p=Á)(rx:RA mg P H φ x u)(c:RA mg P H φ y w) :
  ∃P3,Frm P φ H P3 φ (ah H p (.tup [u,w]))/\Sim mg P3 φ st (ah H p (.tup [u,w]))/\RA mg P3 (ah H p (.tup [u,w])) φ (.tup [x,y]) (.ref p):=by
 obtain⟨a,b⟩:=oC (o:=.tup [u,w]) s d;refine⟨_,a,b,?_⟩;simp only[RA];exact⟨p,[u,w],rfl,.inr rfl,aD,aU (rx.frm a) (aU (c.frm a) bg)⟩
theorem Gj[O2]{x1:Nat}(hg:Gl X "zip")(hm:X.mg "zip"=Á)(ha:QE X a f)(hb:QE X b g)(V:Ê [a,b] X.env=[(Ã,eval a X.env),(Ã,eval b X.env)])(l:Ê [b] X.env=[(Ã,eval b X.env)]) :
  QI X (.Tuple elts x1 tpos) (.Call (.Name "zip" p) [a,b] [] pos) (iZ f g) :=
 gY (GL hg hm (cQ ha (cQ hb eM (by rw[l];rfl)) (by rw[V,l])) V l) fun σ H R m=>by
  obtain⟨P,φ,sl,st,rs,s,iv,st',ef,k⟩:=m;obtain⟨q,e1,e2⟩:=zA ef;obtain⟨r,e3,e4⟩:=zA e2;obtain⟨x,Y,e6⟩:=zA e4;obtain⟨y,W,e8⟩:=zA e6;cases e8;refine FZ rs s ⟨q.1,q.2,r.1,r.2,e1,e3,fun T j U w w' f1 o r1 r2=>?_⟩;obtain⟨a1,rfl,O⟩:=lM o r1 Y;obtain⟨a2,rfl,N⟩:=lM o r2 W;obtain⟨vs,K,_⟩:=O T j U r.2 Frm.refl o (lL Y);obtain⟨us,J,_⟩:=N T j U r.2 Frm.refl o (lL W);refine⟨a1,a2,rfl,⟨vs,K⟩,⟨us,J⟩,k T j U _ f1 o ⟨fun B c C d i t A n S F=>?_,fun B c C d A n S=>?_⟩⟩
  ·obtain⟨ga,Q⟩:=vA S
   obtain⟨e,I,M⟩:=O B c C d A n ga;obtain⟨h,G,L⟩:=N B c C d A n Q;rw[zR]at F;obtain⟨z,ez,F⟩:=zE.mp F;subst F;obtain⟨hx,hy⟩:=ş.mp ez;obtain⟨u1,c1,b1⟩:=M.get hx;obtain⟨u2,Z,b2⟩:=L.get hy;refine⟨⟨e,h,u1,u2,I,G,c1,Z⟩,fun v H3 m=>?_⟩;obtain⟨pp,u,w,E,D,hp,hH,hv⟩:=m;have E:=E e I;have D:=D h G;rw[c1]at E;rw[Z]at D;cases E;cases D;subst hH;subst hv;exact u9 n hp b1 b2
  ·obtain⟨ga,Q⟩:=vA S
   obtain⟨e,I,M⟩:=O B c C d A n ga;obtain⟨h,G,L⟩:=N B c C d A n Q;refine⟨e,h,I,G,?_⟩;rw[<- M.length,<- L.length];simp only[zH,ŀ];lia
noncomputable def fi(n0:Nat)(xs:List AV):List AV:=(xs.zipIdx n0).map fun z=>.tup [.int ((z.2:Nat):Int),z.1]
theorem tf[O2]{mg:Gm}{P:Pr}{φ:List Ç}{H:Hp}{K:Þ}{a:Ç}{b:Iv}{n0:Nat}(h:∀P2 φ2 H2 st2,Frm P φ H P2 φ2 H2->Sim mg P2 φ2 st2 H2->cD b.gd st2=Â->∃vs,bR K H2 a vs/\O6 mg P2 H2 φ2 b.O4 vs):ul mg (At K a n0) ⟨fi n0 b.O4,b.gd⟩ P φ H where
 go:=fun P2 φ2 H2 st2 i x f s g e=>by
  obtain⟨vs,c,d⟩:=h P2 φ2 H2 st2 f s g;unfold fi at e;rw[zR,Ż]at e;cases hz:b.O4[i]? with
  |none=>rw[hz]at e;cases e
  |some y =>
   rw[hz]at e;cases e;obtain⟨v,k,r1⟩:=d.get hz;refine⟨⟨vs,v,c,k⟩,fun w q j=>?_⟩;obtain⟨p,u,l,n,o,m⟩:=j
   have:=l vs c
   rw[k]at this;cases this;subst o;subst m;exact u9 s n (by simp only[RA]) r1
 stop:=fun P2 φ2 H2 st2 f s g=>by
  obtain⟨vs,c,d⟩:=h P2 φ2 H2 st2 f s g;exact⟨vs,c,by rw[<- d.length];simp[fi]⟩
def Lo(f:EF):IF:=fun sl st=>(f sl st).bind fun p=>(ja p.2 p.1).map fun iv=>(⟨fi 0 iv.O4,iv.gd⟩,p.2)
theorem Jo[O2]{m:Nat}(v:Gl X "enumerate")(u:X.mg "enumerate"=Á)(x:QE X a f)(g:Ê [a] X.env=[(Ã,eval a X.env)]) :
  QI X (.Tuple elts m tpos) (.Call (.Name "enumerate" p) [a] [] pos) (Lo f) :=
 gY (Ei v u (cQ x eM (by rw[g];rfl)) g) fun E H R e=>by
  obtain⟨P,D,G,F,r,s,I,o,z,k⟩:=e;obtain⟨q,C,B⟩:=zA z;obtain⟨t,i,A⟩:=zE.mp B;cases A;refine xO r s ⟨q.1,q.2,C,fun j b l w y c r1=>?_⟩;obtain⟨a1,rfl,h⟩:=lM c r1 i;obtain⟨n,d,_⟩:=h j b l q.2 Frm.refl c (lL i);exact⟨a1,rfl,⟨n,d⟩,k j b l _ y c (tf h)⟩
end
end R
namespace L2
open PySem PySem.Spec PyProof.Rows
section
variable{prog:Ò}{w:Ú}{A:ć}{E:Å->É->Prop}{s:É}
theorem zy(l:Ç)(items:Array Å)(n:Nat)(dct:Option Ç)(sl:Array (Option Å))(t:Tok)(i:Int)(hf:ļ i=Â) :
  Meets (w?.«enumerate.__new__» ⟨[.type "enumerate",.ref l],[("start",.int i t)]⟩) (fun _ R s=>s.heap.get? l=À { cls:=.type "list",dict:=dct,data:=.seq items n,slots:=sl } /\
   R (.ok (.ret (.ref (s.heap.push { cls:=.type "list_iterator",data:=.fields #[.ref l,.int 0 0] }).objs.size)))
    { s with heap:=(s.heap.push { cls:=.type "list_iterator",data:=.fields #[.ref l,.int 0 0] }).push { cls:=.type "enumerate",data:=.fields #[.none,.bool Ã,.ref s.heap.objs.size,z! i,.none,.none] } }):=Meets.of_wp fun e w A R s h=>by
  obtain⟨m,g,d,j,k⟩:=s;obtain⟨a,h⟩:=h;have f:=sub_enumerate;have b:Heap.IsList (Shared.heap ⟨m,g,d,j,k⟩) l items:=⟨_,a,rfl,n,rfl⟩
  wp_walk using İ a
  refine wpAny_stack_any fun o=>yF ?_
  split
  ·rename_i c _ _ _ _ _
   cases (c==N? "enumerate")
   ·wp_walk using İ a,ī b
    exact⟨_,rfl,h⟩
   ·wp_walk using İ a,ī b
    exact⟨_,rfl,h⟩
  ·wp_walk using İ a,ī b
   exact⟨_,rfl,h⟩
theorem xb{l:Ç}{j:Array Å}{t:Tok}{i:Int}{Q:Å->É->Prop}(L:ļ i=Â)(O:s.heap.IsList l j)
  (h:∀h',IsEnum h' (s.heap.objs.size+1) s.heap.objs.size i .none->h'.IsListIter s.heap.objs.size l 0->(∀b o,s.heap.get? b=À o->h'.get? b=À o)->Q (.ref (s.heap.objs.size+1)) { s with heap:=h' }) :
  Ï (model prog w) A (call (.type "enumerate") [.ref l] [("start",.int i t)]) Q E s:=by
 obtain⟨⟨W,C,V,I⟩,K,q,n,hd⟩:=O;dsimp only at q hd;subst q hd;have g:=F.called_enumerate;obtain⟨c,P,G⟩:=g.mro;have y:=g.made;have D:=g.sub;have U:=g.notType;have T:=g.canCreate;have M:=rY (.ref l) (.int i t);have B:=qZ (.ref l) (.int i t);refine y? (codeAny_of_tree ?_);show Ï _ _ (callAny (.type "enumerate") _) _ _ _;refine yF ⟨Code.quiet_builtin _ (by decide +kernel),ώ F.entry_type_call ?_⟩;rw[Around.under_plain (weight_type_call_type "enumerate" _ _) (units_type_call_type "enumerate" _ _)]
 repeat (any_goals (first | assumption | wp_step))
 have hz:(s.heap.push { cls:=.type "list_iterator",data:=.fields #[.ref l,.int 0 0] }).objs.size=s.heap.objs.size+1:=Ĩ ..;have z:=zY (s.heap.push { cls:=.type "list_iterator",data:=.fields #[.ref l,.int 0 0] }) (o:={ cls:=.type "enumerate",data:=.fields #[.none,.bool Ã,.ref s.heap.objs.size,z! i,.none,.none] }) rfl;rw[hz]at z;refine Š (U5 (R:=wants (fun f d=>d.TypeIs f "enumerate"/\Q f d) E) g.plain F.entry_enumerate_new (wpAny_of_eq B (zy l j n C I t i L prog w A.in1 _ s ⟨K,?_⟩))) fun r d u=>?_
 ·show _/\_
  rw[hz];exact⟨⟨_,z,rfl⟩,h _ z ⟨_,zG _ (zY _ rfl),rfl,rfl⟩ fun b o x=>zG _ (zG _ x)⟩
 ·cases r with
  |error e=>exact u
  |ok fl =>
   cases fl with
   |ret f =>
    obtain⟨H,v⟩:=u;have J:=g.init.lookup;have N:=g.init.bind f
    repeat (any_goals (first | assumption | wp_step))
    refine Š (U5 (R:=wants (fun r k=>r=.none/\Q f k) E) g.init.plain F.entry_object_init (g.init.check _ _ _ _ _ _ _ _ H (p5 f (.ref l) (.int i t)) (wT g.init.lookup g.made dC prog w A.in1 _ d ⟨H,rfl,v⟩))) fun p k a=>?_
    cases p with
    |error e=>exact a
    |ok m =>
     cases m with
     |ret r =>
      obtain⟨rfl,S⟩:=a
      repeat (any_goals (first | assumption | wp_step))
     |_=>exact a.elim
   |_=>exact u.elim
end
end L2
namespace R
open PySem PySem.Spec PyProof.Rows L2
open DD (PE_imp PT_imp PA_imp PS_imp PSs_imp OpR_imp PW_imp PG_imp pyOk)
section
variable{X:Cx}{tg e a b:Î}{es:List Î}{pos p kp:ė}
theorem Be[O2]{k:Nat}(B:Gl X "enumerate")(x:X.mg "enumerate"=Á)(D:PA X [a] ta)(C:PE X b tb)(e:Ê [a] X.env=[(Ã,eval a X.env)]) :
  PI X (.Tuple elts k tpos) (.Call (.Name "enumerate" p) [a] [⟨À "start",b,kp⟩] pos) (fun σ H R=>ta σ H fun vs H1=>tb σ H1 fun y H2=>∃l n0,vs=[.ref l]/\y=.int ((n0:Nat):Int)/\n0<=1000000/\(∃xs,bR X.K H2 l xs)/\R (At X.K l n0) H2):=by
 intro i s σ H R I h;refine ö (dB I B x qP (tY (by rw[e];rfl) (by rfl) ?_));have g:=D pos i s σ H _ I h;rw[e]at g ⊢;refine _! (by rfl) (AJ g fun K m d=>?_);obtain⟨vs,H1,J,r1,o⟩:=d;refine Z9 (ar (C i m σ H1 _ J o) fun u c ⟨y,H2,j,r2,l,n0,G,F,M,⟨xs,w⟩,q⟩=>Z8 ?_);subst G;subst F;obtain⟨t,rfl⟩:=r2;cases r1 with
 |cons r n =>
  cases n;cases r;obtain⟨N,L,v,_⟩:=j.list w;show Ï _ _ (call (.type "enumerate") [.ref l] [("start",.int ((n0:Nat):Int) t)]) _ _ _;refine xb (s:=c) ?_ v.isList fun E f A z=>?_
  ·unfold ļ
   simp only[zC,yB];lia
  refine Ϻ (s:={ c with heap:=E }) f ?_;exact tM (t':=c.toks) (n0:=n0) j f A z q
def wU(f g:EF):IF:=fun sl st=>(f sl st).bind fun p=>(g sl p.2).bind fun q=>match q.1 with
 |.int i=>if(decide (0<=i)&&ß i.natAbs 1000000)=Â then(ja q.2 p.1).map fun iv=>(⟨fi i.toNat iv.O4,iv.gd⟩,q.2) else Á
 |_=>Á
theorem Gk[O2]{A:Nat}(I:Gl X "enumerate")(G:X.mg "enumerate"=Á)(L:QE X a f)(K:QE X b g)(o:Ê [a] X.env=[(Ã,eval a X.env)]) :
  QI X (.Tuple elts A tpos) (.Call (.Name "enumerate" p) [a] [⟨À "start",b,kp⟩] pos) (wU f g) :=
 gY (Be I G (cQ L eM (by rw[o];rfl)) K o) fun W H R l=>by
  obtain⟨P,V,D,Z,n,s,iv,C,N,k⟩:=l;obtain⟨q,T,S⟩:=zA N;obtain⟨r,Q,d⟩:=zA S;refine xO n s ⟨q.1,q.2,T,fun U e H1 w v E r1=>⟨U,e,D,q.2,n.frm v,E,r.1,r.2,Q,fun y c z Y u h r2=>?_⟩⟩;split at d
  ·rename_i i M
   rw[M]at r2;simp only[RA]at r2;subst r2;split at d
   ·rename_i m
    simp only[zC,yB]at m;have J:=zS m.2;obtain⟨F,x,O⟩:=zE.mp d;cases O;obtain⟨a1,rfl,t⟩:=lM h (r1.frm u) x;obtain⟨B,j,_⟩:=t y c z r.2 Frm.refl h (lL x);exact⟨a1,i.toNat,rfl,by rw[Ř m.1],by lia,⟨B,j⟩,k y c z _ (v.trans u) h (tf t)⟩
   ·cases d
  ·cases d
end
mutual
noncomputable def rf:AV->Bool
 |.ref _=>Ã
 |.tup xs=>rfs xs
 |_=>Â
noncomputable def rfs:List AV->Bool
 |[]=>Â
 |x::xs=>rf x&&rfs xs
end
mutual
theorem RA.rf:∀{t:AV}{v:V},R.rf t=Â->RA mg P H φ t v->RA mg P H ψ t v
 |.non,_,_,h=>by simp only[RA]at h ⊢;exact h
 |.bl _,_,_,h=>by simp only[RA]at h ⊢;exact h
 |.int _,_,_,h=>by simp only[RA]at h ⊢;exact h
 |.str _,_,_,h=>by simp only[RA]at h ⊢;exact h
 |.fz _,_,_,h=>by simp only[RA]at h ⊢;exact h
 |.ref k,_,e,_=>by simp only[R.rf]at e;cases e
 |.tup xs,_,e,h=>by
  simp only[RA,R.rf]at h e ⊢;obtain⟨a,vs,r,p,e',q⟩:=h;exact⟨a,vs,r,p,e',O6.rf e q⟩
theorem O6.rf:∀{ts:List AV}{vs:List V},R.rfs ts=Â->O6 mg P H φ ts vs->O6 mg P H ψ ts vs
 |[],_,_,h=>by simp only[O6]at h ⊢;exact h
 |t::ts,_,e,h=>by
  simp only[O6,R.rfs,zC]at h e ⊢;obtain⟨v,ws,e',r,q⟩:=h;exact⟨v,ws,e',RA.rf e.1 r,O6.rf e.2 q⟩
end
abbrev NF:=Sl->aa->Option (List AV×aa)
def rN[O2](mg:Gm)(f:NF):TE:=fun σ H Q=>∃P φ sl st,Pa mg P H φ sl σ/\Sim mg P φ st H/\∃xs st',f sl st=À (xs,st') /\
 ∀P' φ' H' p vs,Frm P φ H P' φ' H'->Sim mg P' φ' st' H'->H' p=Á->O6 mg P' H' φ' xs vs->Q (.ref p) (ah H' p (.lst vs))
def QN[O2](X:Cx)(e:Î)(f:NF):Prop:=PE X e (rN X.gm f)
def NL(f:NF):EF:=fun sl st=>(f sl st).bind fun p=>if rfs p.1=Â then À (.fz p.1,p.2) else Á
def NK(f:NF):EF:=fun sl st=>(f sl st).bind fun p=>À (.ref p.2.length,p.2++[.lst p.1])
theorem HW[O2]{mg:Gm}{P:Pr}{φ:List Ç}{st:aa}{H:Hp}{p:Ç}{xs:List AV}{vs:List V}(s:Sim mg P φ st H)(d:H p=Á)(c:rfs xs=Â)(r:O6 mg P H φ xs vs) :
  ∃P3,Frm P φ H P3 φ (ah H p (.lst vs))/\Sim mg P3 φ st (ah H p (.lst vs))/\RA mg P3 (ah H p (.lst vs)) φ (.fz xs) (.ref p):=by
 obtain⟨a,b⟩:=oC (o:=.lst vs) s d;refine⟨_,a,b,?_⟩;simp only[RA];exact⟨p,vs,rfl,.inl ⟨.inr rfl,.inl aD⟩,O6.rf c (r.frm a)⟩
theorem Ha[O2]{mg:Gm}{P:Pr}{φ:List Ç}{st:aa}{H:Hp}{p:Ç}{xs:List AV}{vs:List V}(s:Sim mg P φ st H)(b:H p=Á)(r:O6 mg P H φ xs vs) :
  Frm P φ H P (φ++[p]) (ah H p (.lst vs))/\Sim mg P (φ++[p]) (st++[.lst xs]) (ah H p (.lst vs))/\RA mg P (ah H p (.lst vs)) (φ++[p]) (.ref st.length) (.ref p):=by
 have ne:∀a,H a≠Á->a≠p:=fun a h e=>h (by rw[e];exact b)
 obtain⟨f,d⟩:=nR (c:=.lst xs) (o:=.lst vs) s b ⟨fun z=>s.dom p z b,vs,aD,r.mono (fun a h=>⟨h,ad (ne a (s.dom a h))⟩) fun k a e=>by rw[zN (zB.mp e).1];exact e⟩;refine⟨f,d,?_⟩;simp only[RA];exact⟨p,by rw[<- s.len];simp,rfl⟩
section
variable{X:Cx}{e a b:Î}{es:List Î}{pos:ė}{f:NF}
noncomputable def cA(n:Nat):Bool:=ß n 1000000
theorem i6{n:Nat}(h:cA n=Â):n<=Ì:=z5 (zS h) dC
def Lg(g:AF):NF:=fun sl st=>(g sl st).bind fun p=>if cA p.1.length=Â then À p else Á
theorem DM[O2](h:QA X es g):QN X (.List es pos) (Lg g) :=
 PE_imp (yb h) fun x H Q c=>by
  obtain⟨P,e,l,j,n,s,f,b,t,k⟩:=c;obtain⟨q,u,d⟩:=zA t;split at d
  ·rename_i hz
   cases d;exact⟨P,e,l,j,n,s,f,b,u,fun v a w i r m r1=>⟨by rw[<- r1.length];exact i6 hz,fun p o=>k v a w p i r m o r1⟩⟩
  ·cases d
def nU(f g:EF):NF:=fun sl st=>(f sl st).bind fun p=>(g sl p.2).bind fun q=>(b8 q.2 p.1).bind fun xs=>(b8 q.2 q.1).bind fun ys=>if cA (xs.length+ys.length)=Â then À (xs++ys,q.2) else Á
theorem Gi[O2]{f g:EF}(F:QE X a f)(E:QE X b g):QN X (.BinOp a .Add b pos) (nU f g) :=
 PE_imp (wq Et F E) fun W H Q h=>by
  obtain⟨P,u,j,B,l,s,Y,A,G,k⟩:=h;obtain⟨q,O,N⟩:=zA G;obtain⟨r,M,L⟩:=zA N;obtain⟨x,K,J⟩:=zA L;obtain⟨y,I,i⟩:=zA J;split at i
  ·rename_i hz
   cases i;refine⟨P,u,j,B,l,s,q.1,q.2,O,fun U d H1 w t C r1=>⟨U,d,j,q.2,l.frm t,C,r.1,r.2,M,fun T c V Z o e r2=>?_⟩⟩;obtain⟨a1,v,rfl,S,n⟩:=(r1.frm o).ls e K;obtain⟨a2,z,rfl,R,m⟩:=r2.ls e I;exact⟨a1,a2,v,z,rfl,rfl,S,R,by rw[<- n.length,<- m.length];exact i6 hz,fun p D=>k T c V p _ (t.trans o) e D (n.app m)⟩
  ·cases i
def wA(g:AF)(f:EF):NF:=fun sl st=>(g sl st).bind fun p=>(f sl p.2).bind fun q=>match q.1 with
 |.int k=>if(fx k&&cA (p.1.length*k.toNat)&&cA p.1.length)=Â then À ((È k.toNat p.1).flatten,q.2) else Á
 |_=>Á
theorem O6.rep(h:O6 mg P H φ xs vs):∀k:Nat,O6 mg P H φ (È k xs).flatten (È k vs).flatten
 |0=>bg
 |k+1=>by rw[ë,ë,Ĉ,Ĉ];exact h.app (O6.rep h k)
theorem Gc[O2]{g:AF}{f:EF}{a:ė}(h:QA X es g)(K:QE X b f):QN X (.BinOp (.List es a) .Mult b pos) (wA g f) :=
 PE_imp (wq G2 (yb h) K) fun U H Q n=>by
  obtain⟨P,B,x,D,y,s,V,C,N,k⟩:=n;obtain⟨q,S,R⟩:=zA N;obtain⟨r,O,c⟩:=zA R;split at c
  ·rename_i j M
   split at c
   ·rename_i d
    cases c;simp only[zC]at d;refine⟨P,B,x,D,y,s,q.1,q.2,S,fun Y i Z l z G r1=>⟨by rw[<- r1.length];exact i6 d.2,fun p J=>?_⟩⟩
    obtain⟨v,F⟩:=oC (o:=.lst l) G J;refine⟨_,i,x,q.2,(y.frm z).frm v,F,r.1,r.2,O,fun T e A w u E m=>?_⟩;rw[M]at m;simp only[RA]at m;subst m;have L:A p=À (.lst l):=by rw[(u.ext p (.inr rfl)).2,aD]
    have W:=gN d.1.1;refine⟨p,j,l,rfl,rfl,L,by lia,by lia,by rw[<- r1.length];exact i6 d.1.2,fun I t=>?_⟩;exact k T e A I _ ((z.trans v).trans u) E t (O6.rep ((r1.frm v).frm u) _)
   ·cases c
  ·cases c
abbrev OF:=Sl->aa->Option (Option Int×aa)
def rO[O2](mg:Gm)(f:OF):TO:=fun σ H Q=>∃P φ sl st,Pa mg P H φ sl σ/\Sim mg P φ st H/\KG mg RB P φ H (f sl st) Q
def QO[O2](X:Cx)(e:Option Î)(f:OF):Prop:=PO X e (rO X.gm f)
def Ld:OF:=fun _ st=>À (Á,st)
def oA(f:EF):OF:=fun sl st=>(f sl st).bind fun p=>match p.1 with
 |.int i=>À (À i,p.2)
 |_=>Á
theorem vL(h:PO X eo t)(i:∀σ H Q,t' σ H Q->t σ H Q):PO X eo t':=fun b s σ H Q I a=>h b s σ H Q I (i σ H Q a)
theorem DL[O2]:QO X Á Ld:=vL Ed fun b H Q ⟨P,a,d,c,e,s,k⟩=>k.pure s rfl
theorem DK[O2]{f:EF}(h:QE X e f):QO X (À e) (oA f):=vL (Ec h) fun z H Q ⟨P,l,o,n,t,s,k⟩=>⟨P,l,o,n,t,s,by
 obtain⟨a,d,v,q⟩:=k.bind (Ra:=RA);refine⟨a,d,v,fun w b y c u r r1=>?_⟩;obtain⟨B,j,m,x,A,p,r2,g⟩:=q w b y c u r r1;cases x<;>first|exact g.no.elim|skip
 rename_i i;simp only[RA]at r2;exact⟨i,r2,g.pure p rfl⟩⟩
def cut{α:Type}(xs:List α)(lo hi:Option Int):List α:=(xs.drop (HT.Pd xs.length 0 lo)).take (HT.Pd xs.length xs.length hi-HT.Pd xs.length 0 lo)
theorem O6.cut(h:O6 mg P H φ xs vs)(a b:Option Int):O6 mg P H φ (R.cut xs a b) (qd vs a b):=by
 unfold R.cut qd;rw[h.length];exact(h.drop _).take _
theorem Mb[O2]{mg:Gm}{f:EF}{l h:OF}{σ:St}{H:Hp}{P:Pr}{φ:List Ç}{sl:Sl}{st:aa}(d:Pa mg P H φ sl σ)(s:Sim mg P φ st H){r:V->Option Int->Option Int->Hp->VK->Prop}{Q:VK}
  (k:∃v st1 lo st2 hi st3,f sl st=À (v,st1)/\l sl st1=À (lo,st2)/\h sl st2=À (hi,st3)/\∀P' φ' H' w,Frm P φ H P' φ' H'->Sim mg P' φ' st3 H'->RA mg P' H' φ' v w->r w lo hi H' Q):K1 r (rE mg f) (rO mg l) (rO mg h) σ H Q:=by
 obtain⟨v,st1,lo,st2,hi,st3,x,u,t,k⟩:=k;refine⟨P,φ,sl,st,d,s,v,st1,x,fun A c D w g n r1=>⟨A,c,sl,st1,d.frm g,n,lo,st2,u,fun z b C p e m r2=>⟨z,b,sl,st2,(d.frm g).frm e,m,hi,st3,t,fun y a B q i j o=>?_⟩⟩⟩;cases r2;cases o;exact k y a B w ((g.trans e).trans i) j ((r1.frm e).frm i)
def oF(f:EF)(l h:OF):NF:=fun sl st=>(f sl st).bind fun p=>(l sl p.2).bind fun q=>(h sl q.2).bind fun r=>(b8 r.2 p.1).map fun xs=>(cut xs q.1 r.1,r.2)
theorem Jk[O2]{f:EF}{l h:OF}{e g:Option Î}{o:ė}(y:QE X a f)(v:QO X e l)(x:QO X g h):QN X (.Subscript a (.Slice e g Á o) pos) (oF f l h) :=
 PE_imp (Bj Dx y v x) fun O H Q c=>by
  obtain⟨P,N,U,T,m,s,S,j,A,k⟩:=c;obtain⟨q,J,I⟩:=zA A;obtain⟨r,G,F⟩:=zA I;obtain⟨t,E,D⟩:=zA F;obtain⟨R,C,B⟩:=zE.mp D;cases B;refine Mb m s ⟨q.1,q.2,r.1,r.2,t.1,t.2,J,G,E,fun L b M w z d r1=>?_⟩;obtain⟨a1,i,rfl,K,n⟩:=r1.ls d C;exact⟨a1,i,rfl,K,fun p u=>k L b M p _ z d u (n.cut _ _)⟩
def wz(f g:EF):NF:=fun sl st=>(f sl st).bind fun p=>(g sl p.2).bind fun q=>match q.1 with
 |.int i=>if i=-1 then(b8 q.2 p.1).map fun xs=>(xs.reverse,q.2) else Á
 |_=>Á
theorem Gb[O2]{f g:EF}{A:ė}(E:QE X a f)(D:QE X b g):QN X (.Subscript a (.Slice Á Á (À b) A) pos) (wz f g) :=
 PE_imp (Bk E D) fun T H Q h=>by
  obtain⟨P,t,j,x,m,s,V,v,G,k⟩:=h;obtain⟨q,M,L⟩:=zA G;obtain⟨r,K,c⟩:=zA L;split at c
  ·rename_i i F
   split at c
   ·rename_i C
    obtain⟨U,J,I⟩:=zE.mp c;cases I;refine⟨P,t,j,x,m,s,q.1,q.2,M,fun R e Y w o y r1=>⟨R,e,j,q.2,m.frm o,y,r.1,r.2,K,fun O d S W n l r2=>?_⟩⟩;rw[F]at r2;simp only[RA]at r2;obtain⟨a1,u,rfl,N,z⟩:=(r1.frm n).ls l J;exact⟨by rw[r2,C],a1,u,rfl,N,fun p B=>k O d S p _ (o.trans n) l B z.rev⟩
   ·cases c
  ·cases c
def nT(f:EF):NF:=fun sl st=>(f sl st).bind fun p=>match b8 p.2 p.1 with
 |some xs=>À (xs,p.2)
 |none=>(jp p.2 p.1).map fun xs=>(xs,p.2)
theorem Gh[O2]{f:EF}{p pos:ė}(y:Gl X "list")(x:X.mg "list"=Á)(z:QE X a f)(m:Ê [a] X.env=[(Ã,eval a X.env)]):QN X (.Call (.Name "list" p) [a] [] pos) (nT f) :=
 PE_imp (qy tW y x kN (cQ z eM (by rw[m];rfl)) (he:=by rw[m];rfl) (hpl:=rfl)) fun E H Q g=>by
  obtain⟨P,D,I,G,v,s,F,u,A,k⟩:=g;obtain⟨q,C,j⟩:=zA A;refine xO v s ⟨q.1,q.2,C,fun o b r w n d r1=>?_⟩;split at j
  ·rename_i t i
   cases j;obtain⟨a1,c,rfl,l,e⟩:=r1.ls d i;exact⟨a1,c,rfl,.inl l,fun p h=>k o b r p c n d h e⟩
  ·obtain⟨t,i,B⟩:=zE.mp j
   cases B;obtain⟨a1,c,rfl,l,e⟩:=r1.tp d i;exact⟨a1,c,rfl,.inr (.inl (.inl l)),fun p h=>k o b r p c n d h e⟩
end
abbrev GF:=AV->Sl->aa->Option (Sl×aa)
abbrev um:=List AV->Sl->aa->Option (Sl×aa)
def KS[O2](mg:Gm)(P:Pr)(φ:List Ç)(H:Hp)(r:Option (Sl×aa))(Q:St->Hp->Prop):Prop :=
 ∃sl' st',r=À (sl',st')/\∀P' φ' H' σ',Frm P φ H P' φ' H'->Sim mg P' φ' st' H'->Pa mg P' H' φ' sl' σ'->Q σ' H'
def rG[O2](mg:Gm)(f:GF):TG:=fun v σ H Q=>∃P φ sl st x,Pa mg P H φ sl σ/\Sim mg P φ st H/\RA mg P H φ x v/\KS mg P φ H (f x sl st) Q
def Nj[O2](mg:Gm)(f:um):ug:=fun vs σ H Q=>∃P φ sl st xs,Pa mg P H φ sl σ/\Sim mg P φ st H/\O6 mg P H φ xs vs/\KS mg P φ H (f xs sl st) Q
def QG[O2](X:Cx)(tg:Î)(f:GF):Prop:=PG X tg (rG X.gm f)
def Ao[O2](X:Cx)(tgs:List Î)(f:um):Prop:=qW X tgs (Nj X.gm f)
def zo(i:Nat):GF:=fun x sl st=>À (sl.set i (À x),st)
def HP:um:=fun xs sl st=>match xs with
 |[]=>À (sl,st)
 |_=>Á
def HU(f:GF)(g:um):um:=fun xs sl st=>match xs with
 |x::xs=>(f x sl st).bind fun p=>g xs p.1 p.2
 |[]=>Á
def zn(n:Nat)(g:um):GF:=fun x sl st=>match jp st x with
 |some xs=>if xs.length=n then g xs sl st else Á
 |none=>match b8 st x with
  |some xs=>if xs.length=n then g xs sl st else Á
  |none=>Á
theorem ui(h:qW X tgs t)(i:∀v σ H Q,t' v σ H Q->t v σ H Q):qW X tgs t':=fun c s σ H v u Q I a b=>h c s σ H v u Q I a (i v σ H Q b)
section
variable{X:Cx}{e a b:Î}{es:List Î}{pos:ė}
theorem KS.pure[O2]{mg:Gm}{P:Pr}{φ:List Ç}{H:Hp}{sl:Sl}{st:aa}{σ:St}{Q:St->Hp->Prop}(h:KS mg P φ H (À (sl,st)) Q)(s:Sim mg P φ st H)(r:Pa mg P H φ sl σ):Q σ H:=by
 obtain⟨_,_,e,q⟩:=h;cases e;exact q P φ H σ Frm.refl s r
theorem DR[O2]{i:Nat}(e:X.N.Nodup)(c:X.N[i]?=À x)(b:Loc X.env.scope x)(d:X.fn x=Â\/X.env.scope.names.lookup x=À .local):QG X (.Name x pos) (zo i) :=
 PG_imp (Em e c b d) fun v g H Q ⟨P,f,j,h,x,a,s,rx,k⟩=>k.pure s (a.set rx i)
theorem DQ[O2]:Ao X [] HP:=ui Ek fun v f H Q a=>by
 obtain⟨P,d,h,g,b,c,s,rx,k⟩:=a;cases b with
 |nil=>simp only[O6]at rx;exact⟨rx,k.pure s c⟩
 |cons _ _=>obtain⟨_,_,e,_⟩:=k;cases e
theorem A4[O2](E:QG X e f)(D:Ao X es g)(C:(à (e::es) X.env).map (·.2)=assign e X.env::(à es X.env).map (·.2)):Ao X (e::es) (HU f g) :=
 ui (Bf E D C) fun v M H Q m=>by
  obtain⟨P,o,y,u,d,B,s,rx,k⟩:=m;cases d with
  |nil=>obtain⟨_,_,e,_⟩:=k;cases e
  |cons x d =>
   simp only[O6]at rx;obtain⟨w,t,rfl,r1,r2⟩:=rx;obtain⟨i,h,e,q⟩:=k;obtain⟨p,I,G⟩:=zA e;exact⟨w,t,rfl,P,o,y,u,x,B,s,r1,p.1,p.2,I,fun K b N r n A l=>⟨K,b,p.1,p.2,d,l,A,r2.frm n,i,h,G,fun J a L c F z j=>q J a L c (n.trans F) z j⟩⟩
theorem JC(h:PG X tg t)(h':PG X tg t'):PG X tg (fun v σ H Q=>t v σ H Q\/t' v σ H Q):=fun a s σ H v u Q I r q=>by
 rcases q with q|q
 ·exact h a s σ H v u Q I r q
 ·exact h' a s σ H v u Q I r q
theorem Gn[O2]{k n:Nat}(w:X.calm=Â)(h:Ao X es g)(u:(à es X.env).length=n)(d:(à es X.env).findIdx? (·.1)=Á):QG X (.Tuple es k pos) (zn n g) :=
 PG_imp (JC (GN (k:=k) w h u d) (El (k:=k) w h u d)) fun v z H Q j=>by
  obtain⟨P,o,r,p,x,t,s,rx,y⟩:=j;obtain⟨b,a,e,q⟩:=y;unfold zn at e;split at e
  ·rename_i f ex
   split at e
   ·rename_i l
    obtain⟨a1,i,rfl,m,c⟩:=rx.tp s ex;exact .inl ⟨a1,i,rfl,.inl (.inl m),by rw[<- c.length];exact l,P,o,r,p,f,t,s,c,b,a,e,q⟩
   ·cases e
  ·split at e
   ·rename_i f ex
    split at e
    ·rename_i l
     obtain⟨a1,i,rfl,m,c⟩:=rx.ls s ex;exact .inr ⟨a1,i,rfl,m,by rw[<- c.length];exact l,P,o,r,p,f,t,s,c,b,a,e,q⟩
    ·cases e
   ·cases e
noncomputable def nQ{κ:Type}[DecidableEq κ](O1:List (κ×AV))(k:κ)(v:AV):List (κ×AV) :=
 if(O1.any fun kv=>decide (kv.1=k))=Â then O1.map fun kv=>if kv.1=k then(kv.1,v) else kv else O1++[(k,v)]
theorem sG{P:Pr}{H:Hp}{φ:List Ç}{d:Type}[DecidableEq d]{O1:List (d×AV)}{ws:List (d×V)}{k:d}{v:AV}{w:V}(h:KVR mg P H φ O1 ws)(r:RA mg P H φ v w):KVR mg P H φ (nQ O1 k v) (fy ws k w):=by
 have b:(O1.any fun f=>decide (f.1=k))=(ws.any fun f=>decide (f.1=k)):=by
  have g:∀{j:Type} (l:List (d×j)),(l.any fun f=>decide (f.1=k))=((l.map (·.1)).any fun x=>decide (x=k)):=fun l=>by rw[Ϡ];rfl
  rw[g O1,g ws,h.1]
 unfold nQ fy;rw[b];split
 ·clear b
  rename_i m;clear m
  induction O1 generalizing ws with
  |nil =>
   have:ws=[]:=by simpa using h.1.symm
   subst this;exact⟨rfl,bg⟩
  |cons p O1 c =>
   cases ws with
   |nil=>exact absurd h.1 (by simp)
   |cons q ws =>
    obtain⟨g,i⟩:=h;rw[zO,zO]at g i;injection g with h3 h4;simp only[O6]at i;obtain⟨u,t,s,o,n⟩:=i;injection s with h8 h9;subst h8;subst h9;have c:=c (ws:=ws) ⟨h4,n⟩;have a:p.1=q.1:=h3;by_cases e:q.1=k
    ·rw[zO,zO,yH e,yH (a.trans e)]
     exact⟨by rw[zO,zO,c.1,a],aU r c.2⟩
    ·rw[zO,zO,yG e,yG (fun z=>e (a.symm.trans z))]
     exact⟨by rw[zO,zO,c.1,a],aU o c.2⟩
 ·refine⟨by rw[Ą,Ą,h.1];rfl,?_⟩
  rw[Ą,Ą];exact h.2.app (aU r bg)
def jO(st:aa)(o i v:AV):Option aa:=match o with
 |.ref k=>match st[k]? with
  |some (.lst xs)=>match i with
   |.int j=>(mT xs.length j).map fun n=>st.set k (.lst (xs.set n v))
   |_=>Á
  |some (.dK O1)=>(kG i).bind fun x=>if cA O1.length=Â then À (st.set k (.dK (nQ O1 x v))) else Á
  |some (.dT O1)=>match i with
   |.tup is=>(aQ kG is).bind fun x=>if cA O1.length=Â then À (st.set k (.dT (nQ O1 x v))) else Á
   |_=>Á
  |_=>Á
 |_=>Á
theorem Cq[O2](hu:X.A.units+64<ř):xh X (fun o i v H Q=>∃P φ st x y z st',Sim X.gm P φ st H/\RA X.gm P H φ x o/\RA X.gm P H φ y i/\RA X.gm P H φ z v/\jO st x y z=À st'/\∀P' φ' H',Frm P φ H P' φ' H'->Sim X.gm P' φ' st' H'->Q H'):=by
 rintro O0 s R H o i v V W u Q I G J F ⟨P,φ,st,x,y,z,st',q,rx,w,E,e,k⟩;unfold jO at e;cases x with
 |ref j =>
  simp only[RA]at rx;obtain⟨a,r,rfl⟩:=rx;dsimp only at e;split at e
  ·rename_i S A
   obtain⟨O,d,c⟩:=q.at A;rw[r]at d;cases d;obtain⟨f,M,p,l⟩:=c;cases y with
   |int n =>
    simp only[RA]at w;subst w;obtain⟨m,C,g⟩:=zE.mp e;subst g;have hp:P a->False:=f;obtain⟨B,t⟩:=iT (c:=.lst (S.set m z)) (o:=.lst (M.set m v)) q r f ⟨f,_,aD,(l.set E m).mono (fun b h=>⟨h,ad fun e=>f (e▸h)⟩) fun _ _ z=>z⟩ (fun _ _ z=>by rw[p]at z;cases z);exact AT O0 s R H _ _ v V W u Q I G J F ⟨a,M,n,m,rfl,rfl,p,by rw[<- l.length];exact C,k P φ _ B t⟩
   |_=>cases e
  ·rename_i K A
   obtain⟨O,d,c⟩:=q.at A;rw[r]at d;cases d;obtain⟨f,D,p,l⟩:=c;obtain⟨x,C,g⟩:=zA e;split at g
   ·rename_i hz
    cases g
    have:=nX C w
    subst this;cases G;obtain⟨B,t⟩:=iT (c:=.dK (nQ K x z)) (o:=.dK (fy D x v)) q r f ⟨f,_,aD,(sG l E).mono (fun b h=>⟨h,ad fun e=>f (e▸h)⟩) fun _ _ z=>z⟩ (fun _ _ z=>by rw[p]at z;cases z);refine qO oM I (DPut.k p ?_) J F fun T L=>⟨_,L,k P φ _ B t⟩
    have:=congrArg ő l.1
    rw[zH,zH]at this;rw[<- this];have Z:=zS hz;have Y:(1000000:Nat)<Ì:=by decide
    lia
   ·cases g
  ·rename_i K A
   obtain⟨O,d,c⟩:=q.at A;rw[r]at d;cases d;obtain⟨f,D,p,l⟩:=c;cases y with
   |tup is =>
    dsimp only at e;obtain⟨x,C,g⟩:=zA e;split at g
    ·rename_i hz
     cases g;simp only[RA]at w;obtain⟨b,us,rfl,_,N,U⟩:=w;rw[qD C U]at N;cases G;obtain⟨B,t⟩:=iT (c:=.dT (nQ K x z)) (o:=.dT (fy D x v)) q r f ⟨f,_,aD,(sG l E).mono (fun b h=>⟨h,ad fun e=>f (e▸h)⟩) fun _ _ z=>z⟩ (fun _ _ z=>by rw[p]at z;cases z);refine qO oM I (DPut.t p N ?_) J F fun T L=>⟨_,L,k P φ _ B t⟩
     have:=congrArg ő l.1
     rw[zH,zH]at this;rw[<- this];have Z:=zS hz;have Y:(1000000:Nat)<Ì:=by decide
     lia
    ·cases g
   |_=>cases e
  ·cases e
 |_=>cases e
def Lq(f g:EF):GF:=fun x sl st=>(f sl st).bind fun p=>(g sl p.2).bind fun q=>(jO q.2 p.1 q.1 x).map fun st'=>(sl,st')
theorem Go[O2](E:X.A.units+64<ř)(F:QE X o f)(G:QE X i g)
  (I:∀v,assign (.Subscript o i pos) X.env v=(do
   let ov <- holding [v] (eval o X.env)
   let iv <- holding [v,ov] (eval i X.env)
   ŗ pos
   holding [v,ov,iv] (Ϛ ov iv v)
   release [v,ov,iv] [])):QG X (.Subscript o i pos) (Lq f g) :=
 PG_imp (GO F G (Cq E) I) fun v u H Q m=>by
  obtain⟨P,t,n,y,x,l,s,rx,A,j,e,k⟩:=m;obtain⟨q,O,N⟩:=zA e;obtain⟨r,M,L⟩:=zA N;obtain⟨z,K,J⟩:=zE.mp L;cases J;exact⟨P,t,n,y,l,s,q.1,q.2,O,fun T h Y w b D r1=>⟨T,h,n,q.2,l.frm b,D,r.1,r.2,M,fun S d W V a C r2=>⟨S,d,r.2,q.1,r.1,x,j,C,r1.frm a,r2,(rx.frm b).frm a,K,fun R c U p B=>k R c U u ((b.trans a).trans p) B (((l.frm b).frm a).frm p)⟩⟩⟩
end
def hid(H:Hp)(p:Ç):Hp:=fun b=>if b=p then Á else H b
theorem bJ(h:b≠p):hid H p b=H b:=yG h
theorem dG:hid H p p=Á:=yH rfl
theorem Dj(h:H p=À o):ah (hid H p) p o=H:=by
 funext b;by_cases e:b=p
 ·subst e;rw[aD,h]
 ·rw[ad e,bJ e]
theorem vp:hid (ah H p o) p=hid H p:=by
 funext b;by_cases e:b=p
 ·subst e;rw[dG,dG]
 ·rw[bJ e,bJ e,ad e]
theorem BK(h:H p=Á):hid H p=H:=by
 funext b;by_cases e:b=p
 ·subst e;rw[dG,h]
 ·rw[bJ e]
section
variable{mg:Gm}{P P':Pr}{φ φ':List Ç}{st st':aa}{H H':Hp}{p:Ç}
theorem _root_.L2.gw.sh{P:Ç}{pos:ė}{q:Í}(h:gw (hid H p) P pos q):gw H P pos q:=by
 obtain⟨b,e,t,c⟩:=h;have ne:∀{a o},hid H p a=À o->H a=À o:=fun {a o} e=>by
  by_cases z:a=p
  ·rw[z,dG]at e;cases e
  ·rw[bJ z]at e;exact e
 refine⟨b,ne e,t,?_⟩;rcases c with c|⟨g,f,d⟩
 ·exact .inl c
 ·exact .inr ⟨g,f,ne d⟩
theorem _root_.L2.gw.hd{P:Ç}{pos:ė}{q:Í}(h:gw H P pos q)(f:∃vs,H p=À (.lst vs)):gw (hid H p) P pos q:=by
 obtain⟨d,e,t,c⟩:=h;obtain⟨vs,a⟩:=f;refine⟨d,by rw[bJ (wx e a fun z=>nomatch z)];exact e,t,?_⟩;rcases c with c|⟨i,g,b⟩
 ·exact .inl c
 ·exact .inr ⟨i,g,by rw[bJ (wx b a fun z=>nomatch z)];exact b⟩
theorem Sim.sh[O2](s:Sim mg P φ st (hid H p))(o:HO)(f:H p=À o):Sim mg P φ st H/\∀a,P a->P a/\H a=hid H p a:=by
 have c:∀a,P a->a≠p:=fun a h e=>s.dom a h (by rw[e];exact dG)
 have d:∀a∈φ,a≠p:=fun a h e=>s.cd a h (by rw[e];exact dG)
 have ex:∀a,P a->P a/\H a=hid H p a:=fun a h=>⟨h,(bJ (c a h)).symm⟩
 exact⟨s.stay ex (fun a h=>(bJ (d a h)).symm) (fun _ _ h=>h) (fun a h=>by rw[(ex a h).2];exact s.dom a h) fun t b=>⟨(s.tb t b).1.sh,(s.tb t b).2⟩,ex⟩
theorem Frm.hd[O2](l:Sim mg P φ st (hid H p))(k:∃vs,H p=À (.lst vs))(f:Frm P φ H P' φ' H')(s:Sim mg P' φ' st' H'):Frm P φ (hid H p) P' φ' (hid H' p)/\Sim mg P' φ' st' (hid H' p)/\(∀a,P' a->P' a/\hid H' p a=H' a)/\H' p=H p:=by
 have g:∀a,P a->a≠p:=fun a h e=>l.dom a h (by rw[e];exact dG)
 have i:∀a∈φ,a≠p:=fun a h e=>l.cd a h (by rw[e];exact dG)
 have j:H p≠Á:=fun z=>by obtain⟨vs,e⟩:=k;rw[z]at e;cases e
 have q:H' p=H p:=f.keep p j (fun h=>i p h rfl) fun v z=>by obtain⟨vs,e⟩:=k;rw[z]at e;cases e
 obtain⟨m,em,nm⟩:=f.new;have c:∀a,P' a->a≠p:=fun a h e=>by
  rcases f.pn a h with z|z|z
  ·exact g a z e
  ·exact j (by rw[<- e];exact z)
  ·exact i a z e
 have d:∀a∈φ',a≠p:=fun a h e=>by
  rw[em]at h;rcases zZ.mp h with z|z
  ·exact i a z e
  ·exact j (by rw[<- e];exact nm a z)
 have b:∀a,hid H p a≠Á->a≠p:=fun a h e=>h (by rw[e];exact dG)
 have ex:∀a,P' a->P' a/\hid H' p a=H' a:=fun a h=>⟨h,bJ (c a h)⟩
 refine⟨⟨fun a h=>⟨(f.ext a h).1,by rw[bJ (g a h),bJ (g a h)];exact(f.ext a h).2⟩,⟨m,em,fun a h=>?_⟩,fun a h n z=>?_,fun a h=>?_,fun a h=>?_,fun a o u h=>?_⟩,s.stay ex (fun a h=>bJ (d a h)) (fun _ _ h=>h) (fun a h=>by rw[(ex a h).2];exact s.dom a h) (fun t r=>⟨(s.tb t r).1.hd (by rw[q];exact k),(s.tb t r).2⟩),ex,q⟩
 ·rw[bJ (d a (by rw[em];exact zK _ h))];exact nm a h
 ·rw[bJ (b a h),bJ (b a h)]
  rw[bJ (b a h)]at z;rw[bJ (b a h)]at h;exact f.keep a h n z
 ·rcases f.pn a h with z|z|z
  ·exact .inl z
  ·exact .inr (.inl (by rw[bJ (c a h)];exact z))
  ·exact .inr (.inr z)
 ·rw[bJ (b a h)]
  rw[bJ (b a h)]at h;exact f.sm a h
 ·have ne:=b a (by rw[h];exact fun z=>nomatch z)
  rw[bJ ne]at h ⊢;exact f.fz a o u h
end
def im(gd:Gd)(g:GF)(t:TF)(f:EF)(sl:Sl):List AV->aa->Option (List AV×aa)
 |[],st=>if cD gd st=Â then À ([],st) else Á
 |x::xs,st=>if cD gd st=Â then(g x sl st).bind fun p=>(t p.1 p.2).bind fun q=>if q.1=Â then(f p.1 q.2).bind fun r=>(im gd g t f sl xs r.2).map fun z=>(r.1::z.1,z.2) else im gd g t f sl xs q.2 else Á
def Cz(k:Nat)(it:IF)(g:GF)(t:TF)(f:EF):NF:=fun sl st=>(it sl st).bind fun p=>if cA p.1.O4.length=Â then im p.1.gd g t f (sl++È k Á) p.1.O4 p.2 else Á
def K0:TF:=fun _ st=>À (Â,st)
theorem Pa.ext0(h:Pa mg P H φ sl σ)(k:Nat):Pa mg P H φ (sl++È k Á) (σ++È k Á):=by
 refine⟨by rw[zV,zV,h.1,ŉ,ŉ],fun i v e=>?_⟩;have a:i<sl.length:=by
  rcases yT i sl.length with z|z
  ·exact z
  ·rw[z6 z,ù]at e
   split at e<;>cases e
 rw[zN a]at e;rw[zN (by rw[<- h.1];exact a)];exact h.2 i v e
def pF(n:Nat)(g:GF):Prop:=∀x sl st sl' st',g x sl st=À (sl',st')->sl'.length=sl.length/\∀j,j<n->sl'[j]?=sl[j]?
theorem Pa.back{k:Nat}(h:Pa mg P H φ sl' σ)(a:sl'.length=(sl++È k Á).length)(b:∀j,j<sl.length->sl'[j]?=(sl++È k Á)[j]?):Pa mg P H φ (sl++È k Á) σ:=by
 refine⟨by rw[<- a];exact h.1,fun i v e=>?_⟩;have c:i<sl.length:=by
  rcases yT i sl.length with z|z
  ·exact z
  ·rw[z6 z,ù]at e
   split at e<;>cases e
 exact h.2 i v (by rw[b i c];exact e)
inductive LcI[O2](mg:Gm)(P1:Pr)(φ1:List Ç)(H1:Hp)(p:Ç)(sk:Sl)(gd:Gd)(g:GF)(t:TF)(f:EF)(L:List AV)(stE:aa)(out:List AV)(i m:Nat)(σ':St)(H':Hp):Prop
 |mk (P' φ' st' xs vs zs) (hm:m=L.length-i) (hle:i<=L.length) (f2:Frm P1 φ1 H1 P' φ' (hid H' p)) (s2:Sim mg P' φ' st' (hid H' p)) (rs2:Pa mg P' (hid H' p) φ' sk σ') (hv:H' p=À (.lst vs)) (rx:O6 mg P' (hid H' p) φ' xs vs) (hlen:xs.length<=i) (eg:im gd g t f sk (L.drop i) st'=À (zs,stE)) (eo:out=xs++zs)
theorem Hx[O2]{n k:Nat}(hk:pF n g)(hn:σ.length=n)(h:rN mg (Cz k it g t f) σ H Q):FC k (rI mg it) (rG mg g) (rT mg t) (rE mg f) σ H Q:=by
 obtain⟨P,φ,M,st,rs,s,out,stE,ef,kk⟩:=h;obtain⟨q,e1,e2⟩:=zA ef;split at e2
 ·rename_i hz
  refine⟨P,φ,M,st,rs,s,q.1,q.2,e1,fun P1 E H1 J f1 s1 ij=>fun p Y=>?_⟩;have hsl:M.length=n:=by rw[rs.1];exact hn
  refine⟨LcI mg P1 E H1 p (M++È k Á) q.1.gd g t f q.1.O4 stE out,⟨q.1.O4.length-0,?_⟩,?_⟩
  ·have e:hid (ah H1 p (.lst [])) p=H1:=by rw[vp,BK Y]
   exact .mk P1 E q.2 [] [] out rfl (Ě _) (by rw[e];exact Frm.refl) (by rw[e];exact s1) (by rw[e];exact(rs.frm f1).ext0 k) aD (by rw[e];exact bg) (zP _) (by simpa using e2) rfl
  ·intro i m σ' A hh
   refine g_ fun G bk=>?_
   obtain⟨P2,b,S,xs,R,zs,hm,hle,d,s2,V,I,rx,hlen,l,eo⟩:=hh;obtain⟨T,ex2⟩:=s2.sh _ I;have U:Pa mg P2 A b (M++È k Á) σ':=⟨V.1,fun i v e=>let⟨w,e',r⟩:=V.2 i v e;⟨w,e',r.mono ex2 fun _ _ z=>z⟩⟩;have hpn:A p≠Á:=by rw[I];exact fun z=>nomatch z
   have f2v:Frm P1 E H1 P2 b A:=by
    refine⟨fun a h=>⟨(d.ext a h).1,?_⟩,d.new,fun a h n z=>?_,fun a h=>d.pn a h,fun a h=>?_,fun a o u h=>?_⟩
    ·have ne:a≠p:=fun e=>s1.dom a h (by rw[e];exact Y)
     rw[<- bJ (H:=A) ne];exact(d.ext a h).2
    ·have ne:a≠p:=fun e=>h (by rw[e];exact Y)
     rw[<- bJ (H:=A) ne];exact d.keep a h n z
    ·have ne:a≠p:=fun e=>h (by rw[e];exact Y)
     rw[<- bJ (H:=A) ne];exact d.sm a h
    ·have ne:a≠p:=bt h Y
     rw[<- bJ (H:=A) ne];exact d.fz a o u h
   rcases yT i q.1.O4.length with N|N
   ·rw[ê N]at l
    simp only[im]at l;split at l
    ·rename_i L
     obtain⟨go,yl⟩:=ij.go P2 b A S i _ f2v T L (zF N);refine bk (Or.inr ⟨go,fun x H3 hy=>g_ fun G bk=>?_⟩);obtain⟨P3,f3,s3,r3⟩:=yl x H3 hy;obtain⟨X,e4,e5⟩:=zA l;obtain⟨W,e6,O⟩:=zA e5;obtain⟨kl,kj⟩:=hk _ _ _ _ _ e4;refine bk ⟨P3,b,M++È k Á,S,q.1.O4[i],U.frm f3,s3,r3,X.1,X.2,e4,fun P4 φ4 H4 σ4 f4 s4 F=>⟨P4,φ4,X.1,X.2,F,s4,W.1,W.2,e6,fun P5 D H5 c f5 s5 r5=>?_⟩⟩;cases r5;refine g_ fun G bk=>?_
     have f35:=(f3.trans f4).trans f5;have back:∀{P6:Pr}{B:List Ç}{H6:Hp},Frm P5 D H5 P6 B H6->Pa mg P6 H6 B (M++È k Á) σ4:=fun f6=>((F.frm f5).frm f6).back kl fun j hj=>kj j oM
     cases hc:W.1 with
     |true =>
      rw[hc]at O bk;simp only[if_true]at O bk;obtain⟨q8,e8,e9⟩:=zA O;obtain⟨z,e10,e11⟩:=zE.mp e9;cases e11;refine bk ⟨P5,D,X.1,W.2,F.frm f5,s5,q8.1,q8.2,e8,fun P6 B H6 y f6 s6 r6=>g_ fun G bk=>?_⟩;obtain⟨Z,sh,C,K⟩:=Frm.hd s2 ⟨_,I⟩ (f35.trans f6) s6;refine bk ⟨R,by rw[K];exact I,?_,q.1.O4.length-(i+1),by lia,?_⟩
      ·rw[<- rx.length]
       have h1:=zS hz;have h2:(1000000:Nat)<Ì:=by decide
       lia
      ·have eh:hid (ah H6 p (.lst (R++[y]))) p=hid H6 p:=vp
       refine .mk P6 B q8.2 (xs++[q8.1]) (R++[y]) z.1 rfl N (eh.symm▸d.trans Z) (eh.symm▸sh) (eh.symm▸?_) aD (eh.symm▸(rx.frm Z).app (aU (r6.mono C fun _ _ z=>z) bg)) (by rw[zV];simp;lia) e10 (by rw[eo,yM];rfl)
       have:=back f6
       exact⟨this.1,fun i v e=>let⟨w,e',r⟩:=this.2 i v e;⟨w,e',r.mono C fun _ _ z=>z⟩⟩
     |false =>
      rw[hc]at O bk;simp only[yA,if_false]at O bk;obtain⟨Z,sh,C,K⟩:=Frm.hd s2 ⟨_,I⟩ f35 s5;refine bk ⟨q.1.O4.length-(i+1),by lia,.mk P5 D W.2 xs R zs rfl N (d.trans Z) sh ?_ (by rw[K];exact I) (rx.frm Z) oM O eo⟩
      have:=back Frm.refl
      exact⟨this.1,fun i v e=>let⟨w,e',r⟩:=this.2 i v e;⟨w,e',r.mono C fun _ _ z=>z⟩⟩
    ·cases l
   ·have ei:i=q.1.O4.length:=e? hle N
    subst ei;rw[Ϭ]at l;simp only[im]at l;split at l
    ·rename_i L
     cases l;refine bk (Or.inl ⟨ij.stop P2 b A _ f2v T L,?_⟩)
     have:=kk P2 b (hid A p) p R (f1.trans d) s2 dG (by rw[eo,ó];exact rx)
     rw[Dj I]at this;exact this
    ·cases l
 ·cases e2
def vK[O2](X:Cx)(ifs:List Î)(t:TF):Prop:=vM X ifs (rT X.gm t)
section
variable{X:Cx}{elt iter tg:Î}{ifs:List Î}{N':List Í}{scope:ĝ}{pos:ė}{it:IF}{g:GF}{t:TF}{f:EF}
theorem DO[O2]:vK X [] K0:=fun c s a H Q I ⟨P,d,f,e,g,b,k⟩=>Eh c s a H Q I (k.pure b rfl)
theorem DN[O2](h:QT X e t):vK X [e] t:=Eg h
theorem IH{e:Î}{t t':TE}(h:PE X e t)(i:∀σ H Q,σ.length=X.N.length->t' σ H Q->t σ H Q):PE X e t':=fun b s σ H Q I a=>h b s σ H Q I (i σ H Q I.len a)
theorem IE{st:ľ}{t t':TS}(h:PS X st t)(i:∀D σ H,σ.length=X.N.length->t' D σ H->t D σ H):PS X st t':=fun b s σ H D I a=>h b s σ H D I (i D σ H I.len a)
theorem Cv[O2](j:X.calm=Â)(T:jX X N' scope)(e:QI X tg iter it)(i:∀cl s H fp O0,QG (cJ X N' scope cl s H fp O0) tg g)(a:∀cl s H fp O0,vK (cJ X N' scope cl s H fp O0) ifs t)
  (he:∀cl s H fp O0,QE (cJ X N' scope cl s H fp O0) elt f) (d:pF X.N.length g) (b:∀x,ô iter X.env x=pure x):QN X (.ListComp elt [⟨tg,iter,ifs,0⟩] scope pos) (Cz (N'.length-X.N.length) it g t f) :=
 IH (JF (g:=rG X.gm g) (tt:=rT X.gm t) (te:=rE X.gm f) j T e (fun cl s H fp O0=>i cl s H fp O0) (fun cl s H fp O0=>a cl s H fp O0) (fun cl s H fp O0=>he cl s H fp O0) b) fun k H Q c h=>Hx d c h
end
inductive Out where
 |nx (sl:Sl) (st:aa)|rt (v:AV) (st:aa)|bk (sl:Sl) (st:aa)|ct (sl:Sl) (st:aa)
abbrev SF:=Sl->aa->Option Out
def ThO[O2](mg:Gm)(P:Pr)(φ:List Ç)(H:Hp)(D:kU):Out->Prop
 |.nx sl st=>∀P' φ' H' σ',Frm P φ H P' φ' H'->Sim mg P' φ' st H'->Pa mg P' H' φ' sl σ'->D.nx σ' H'
 |.bk sl st=>∀P' φ' H' σ',Frm P φ H P' φ' H'->Sim mg P' φ' st H'->Pa mg P' H' φ' sl σ'->D.bk σ' H'
 |.ct sl st=>∀P' φ' H' σ',Frm P φ H P' φ' H'->Sim mg P' φ' st H'->Pa mg P' H' φ' sl σ'->D.ct σ' H'
 |.rt v st=>∀P' φ' H' w,Frm P φ H P' φ' H'->Sim mg P' φ' st H'->RA mg P' H' φ' v w->D.rt w H'
def KO[O2](mg:Gm)(P:Pr)(φ:List Ç)(H:Hp)(r:Option Out)(D:kU):Prop:=∃o,r=À o/\ThO mg P φ H D o
def rS[O2](mg:Gm)(f:SF):TS:=fun D σ H=>∃P φ sl st,Pa mg P H φ sl σ/\Sim mg P φ st H/\KO mg P φ H (f sl st) D
def QS[O2](X:Cx)(st:ľ)(f:SF):Prop:=PS X st (rS X.gm f)
def nB[O2](X:Cx)(sts:List ľ)(f:SF):Prop:=PSs X sts (rS X.gm f)
theorem ThO.frm[O2](h:ThO mg P φ H D o)(f:Frm P φ H P1 φ1 H1):ThO mg P1 φ1 H1 D o:=by
 cases o with
 |nx sl st=>exact fun d a e b c=>h d a e b (f.trans c)
 |bk sl st=>exact fun d a e b c=>h d a e b (f.trans c)
 |ct sl st=>exact fun d a e b c=>h d a e b (f.trans c)
 |rt v st=>exact fun d a e b c=>h d a e b (f.trans c)
theorem KO.bindE[O2]{α c:Type}{Ra:Gm->Pr->Hp->List Ç->α->c->Prop}{m:Option (α×aa)}{k:α×aa->Option Out}(h:KO mg P φ H (m.bind k) D) :
  KG mg Ra P φ H m fun b H1=>∃P1 φ1 st1 a,Frm P φ H P1 φ1 H1/\Sim mg P1 φ1 st1 H1/\Ra mg P1 H1 φ1 a b/\KO mg P1 φ1 H1 (k (a,st1)) D:=by
 obtain⟨o,e,q⟩:=h;cases m with
 |none=>cases e
 |some p=>exact⟨p.1,p.2,rfl,fun P1 φ1 H1 b f s r=>⟨P1,φ1,p.2,p.1,f,s,r,o,e,q.frm f⟩⟩
theorem KO.nx[O2]{mg:Gm}{P:Pr}{φ:List Ç}{H:Hp}{sl:Sl}{st:aa}{D:kU}{σ:St}(h:KO mg P φ H (À (.nx sl st)) D)(s:Sim mg P φ st H)(r:Pa mg P H φ sl σ):D.nx σ H:=by
 obtain⟨o,e,q⟩:=h;cases e;exact q P φ H σ Frm.refl s r
theorem KO.no[O2](h:KO mg P φ H Á D):False:=by obtain⟨_,e,_⟩:=h;cases e
section
variable{X:Cx}{st:ľ}{rest:List ľ}{e c tg:Î}{pos:ė}{s t:SF}{f:EF}{g:GF}{b:TF}
def K8:SF:=fun sl st=>À (.nx sl st)
def K6(s t:SF):SF:=fun sl st=>(s sl st).bind fun o=>match o with
 |.nx sl st=>t sl st
 |o=>À o
theorem DF[O2]:nB X [] K8:=PSs_imp DZ fun D c H ⟨P,b,e,d,a,s,k⟩=>k.nx s a
theorem A1[O2](n:QS X st s)(m:nB X rest t):nB X (st::rest) (K6 s t):=PSs_imp (A8 n m) fun D w H d=>by
 obtain⟨P,g,j,st,l,i,o,e,q⟩:=d;obtain⟨f,r,a⟩:=zA e;refine⟨P,g,j,st,l,i,f,r,?_⟩;cases f with
 |nx sl1 st1=>exact fun u b x h p k c=>⟨u,b,sl1,st1,c,k,o,a,q.frm p⟩
 |bk sl1 st1=>cases a;exact q
 |ct sl1 st1=>cases a;exact q
 |rt v st1=>cases a;exact q
def FR:SF:=fun _ _=>Á
theorem DI[O2]:QS X st FR:=PS_imp Ba fun D b H ⟨P,a,c,st,d,s,k⟩=>k.no
def Lb(f:EF):SF:=fun sl st=>(f sl st).bind fun p=>À (.nx sl p.2)
theorem DH[O2](he:QE X e f)(p:Ľ e Á pos.line X.env=pure Ã):QS X (.Expr e pos) (Lb f):=PS_imp (Ea he p) fun D z H ⟨P,h,l,j,d,s,k⟩=>⟨P,h,l,j,d,s,by
 obtain⟨a,c,u,q⟩:=k.bindE (Ra:=RA);refine⟨a,c,u,fun v b y w t n r1=>?_⟩;obtain⟨A,g,i,x,r,m,r2,o⟩:=q v b y w t n r1;exact o.nx m (d.frm r)⟩
def K7(f:EF):SF:=fun sl st=>(f sl st).bind fun p=>À (.rt p.1 p.2)
theorem F7[O2](he:QE X e f):QS X (.Return (À e) pos) (K7 f):=PS_imp (GE he) fun D A H ⟨P,h,l,j,p,s,k⟩=>⟨P,h,l,j,p,s,by
 obtain⟨a,d,v,q⟩:=k.bindE (Ra:=RA);refine⟨a,d,v,fun z c g w t n r1=>?_⟩;obtain⟨y,b,i,x,B,m,r2,o,u,r⟩:=q z c g w t n r1;cases u;exact r y b g w Frm.refl m r2⟩
def K9(b:TF)(s t:SF):SF:=fun sl st=>(b sl st).bind fun p=>if p.1=Â then s sl p.2 else t sl p.2
theorem Jj[O2](v:QT X c b)(A:nB X x s)(z:nB X y t):QS X (.If c x y pos) (K9 b s t):=PS_imp (Jw v A z) fun D G H ⟨P,o,h,p,i,r,k⟩=>⟨P,o,h,p,i,r,by
 obtain⟨a,g,C,q⟩:=k.bindE (Ra:=RB);refine⟨a,g,C,fun E f F w B u r1=>?_⟩;obtain⟨n,d,e,x,m,j,r2,l⟩:=q E f F w B u r1;cases r2;cases w with
 |true=>exact⟨n,d,h,e,i.frm m,j,l⟩
 |false=>exact⟨n,d,h,e,i.frm m,j,l⟩⟩
def xM(f:EF)(g:GF):SF:=fun sl st=>(f sl st).bind fun p=>(g p.1 sl p.2).bind fun q=>À (.nx q.1 q.2)
theorem xf[O2](h:rS mg (xM f g) D σ H):wc (rE mg f) (rG mg g) D σ H:=by
 obtain⟨P,l,i,m,j,s,o,e,q⟩:=h;obtain⟨p,z,y⟩:=zA e;obtain⟨r,x,v⟩:=zA y;cases v;exact⟨P,l,i,m,j,s,p.1,p.2,z,fun B b E w k t r1=>⟨B,b,i,p.2,p.1,j.frm k,t,r1,r.1,r.2,x,fun A a C c u n d=>q A a C c (k.trans u) n d⟩⟩
theorem sE[O2](he:QE X e f)(c:QG X tg g)(b:Ϩ [tg] e pos.line X.env=pure Ã)(a:Ħ [tg] e X.env=pure Á)(d:(à [tg] X.env).map (·.2)=[assign tg X.env]):QS X (.Assign [tg] e pos) (xM f g) :=
 PS_imp (GI he c b a d) fun D i H h=>xf h
theorem G8[O2]{i:Nat}(h:rG mg (zo i) v σ H Q):oZ i v σ H Q:=by
 obtain⟨P,b,d,c,x,a,s,rx,k⟩:=h;exact k.pure s (a.set rx i)
theorem xR[O2]{i:Nat}(r:X.N.Nodup)(p:X.N[i]?=À x)(n:Loc X.env.scope x)(he:QE X e f)(o:Ľ e (À (.Name x pos')) pos.line X.env=pure Ã)(q:X.fn x=Â\/X.env.scope.names.lookup x=À .local) :
  QS X (.Assign [.Name x pos'] e pos) (xM f (zo i)):=PS_imp (GD r p n he o q) fun D z H h=>by
 obtain⟨P,b,d,c,j,s,m,l,u,k⟩:=xf h;exact⟨P,b,d,c,j,s,m,l,u,fun v a y w t g r1=>G8 (k v a y w t g r1)⟩
def C5(m:Bool)(f:NF):EF:=if m=Â then NK f else NL f
theorem G6[O2]{mg:Gm}{m:Bool}{f:NF}{σ:St}{H:Hp}{Q:VK}(h:rE mg (C5 m f) σ H Q):rN mg f σ H Q:=by
 obtain⟨P,n,r,o,t,s,v,x,ev,k⟩:=h;cases m with
 |true =>
  obtain⟨q,l,b⟩:=zA ev;cases b;refine⟨P,n,r,o,t,s,q.1,q.2,l,fun u a A p w j d g r1=>?_⟩;obtain⟨i,c,e⟩:=Ha d g r1;exact k u _ _ _ (j.trans i) c e
 |false =>
  obtain⟨q,l,b⟩:=zA ev;split at b
  ·rename_i y
   cases b;refine⟨P,n,r,o,t,s,q.1,q.2,l,fun u a A p w j d g r1=>?_⟩;obtain⟨z,i,c,e⟩:=HW d g y r1;exact k z a _ _ (j.trans i) c e
  ·cases b
theorem g9[O2]{m:Bool}{f:NF}(h:QN X e f):QE X e (C5 m f):=PE_imp h fun _ _ _ q=>G6 q
theorem xQ[O2]{i:Nat}{y:Í}{n:ė}{elt a d:Î}{c:List Î}{N':List Í}{scope:ĝ}{pos b:ė}{it:IF}{g:GF}{t:TF}{f:EF}{m:Bool}(L:X.N.Nodup)(l:X.N[i]?=À y)(A:Loc X.env.scope y)
  (j:Ľ (.ListComp elt [⟨d,a,c,0⟩] scope pos) (À (.Name y n)) b.line X.env=pure Â)
  (K:X.calm=Â) (T:jX X N' scope) (G:QI X d a it) (I:∀cl s H fp O0,QG (cJ X N' scope cl s H fp O0) d g) (B:∀cl s H fp O0,vK (cJ X N' scope cl s H fp O0) c t)
  (he:∀cl s H fp O0,QE (cJ X N' scope cl s H fp O0) elt f) (F:pF X.N.length g) (C:∀x,ô a X.env x=pure x) (J:X.fn y=Â\/X.env.scope.names.lookup y=À .local) :
  QS X (.Assign [.Name y n] (.ListComp elt [⟨d,a,c,0⟩] scope pos) b) (xM (C5 m (Cz (N'.length-X.N.length) it g t f)) (zo i)) :=
 IE (xT (g:=rG X.gm g) (tt:=rT X.gm t) (te:=rE X.gm f) L l A j K T G (fun cl s H fp O0=>I cl s H fp O0) (fun cl s H fp O0=>B cl s H fp O0) (fun cl s H fp O0=>he cl s H fp O0) C J) fun D R H E h=>by
  obtain⟨P,o,q,p,u,s,z,v,N,k⟩:=xf h;exact Hx F E (G6 (m:=m) ⟨P,o,q,p,u,s,z,v,N,fun O e Q w M r r1=>G8 (k O e Q w M r r1)⟩)
def ud(o:Ā)(_:aa):AV->AV->Option AV
 |.int a,.int b=>match o with
  |.Add=>À (.int (a+b))
  |.Sub=>À (.int (a-b))
  |_=>Á
 |_,_=>Á
theorem HJ[O2](o:Ā):Ap X o (fun x y H Q=>∃P φ st a b c,Sim X.gm P φ st H/\RA X.gm P H φ a x/\RA X.gm P H φ b y/\ud o st a b=À c/\∀w,RA X.gm P H φ c w->Q w H):=by
 rintro l s d H x y v u Q I rx f ⟨P,φ,st,a,b,c,m,h,g,e,k⟩;cases a <;> cases b <;> simp only [ud] at e <;> first | (cases e;done) | skip
 rename_i i j;simp only [RA] at h g;subst h;subst g;cases o <;> first | (cases e;done) | skip
 ·cases e
  exact HI l s d H _ _ v u Q I rx f ⟨i,j,rfl,rfl,k _ (by simp only[RA])⟩
 ·cases e
  exact HH l s d H _ _ v u Q I rx f ⟨i,j,rfl,rfl,k _ (by simp only[RA])⟩
def Cr(i:Nat)(o:Ā)(f:EF):SF:=fun sl st=>match sl[i]? with
 |some (À x)=>(f sl st).bind fun p=>(ud o p.2 x p.1).bind fun z=>À (.nx (sl.set i (À z)) p.2)
 |_=>Á
theorem Ga[O2]{i:Nat}(C:X.N.Nodup)(A:X.N[i]?=À x)(t:Loc X.env.scope x)(he:QE X e f)(B:X.fn x=Â\/X.env.scope.names.lookup x=À .local):QS X (.AugAssign (.Name x pos') o e pos) (Cr i o f) :=
 PS_imp (GH C A t he (HJ o) B) fun D L H d=>by
  obtain⟨P,k,m,l,c,s,out,b,q⟩:=d;unfold Cr at b;split at b
  ·rename_i v u
   obtain⟨w,J,n⟩:=c.2 i v u;obtain⟨p,I,G⟩:=zA b;obtain⟨z,F,E⟩:=zA G;cases E;exact⟨w,J,P,k,m,l,c,s,p.1,p.2,I,fun j a K y g h r1=>⟨j,a,p.2,v,p.1,z,h,n.frm g,r1,F,fun M r=>q j a K _ g h ((c.frm g).set r i)⟩⟩
  ·cases b
theorem Ka[O2]:Cb X (fun x y H Q=>∃P φ st a b c,Sim X.gm P φ st H/\RA X.gm P H φ a x/\RA X.gm P H φ (.int b) y/\(∃xs,b8 st a=À xs/\gJ xs b=À c)/\∀w,RA X.gm P H φ c w->Q w H):=by
 rintro r s e H x y v u Q I rx h ⟨P,φ,st,a,b,c,g,i,d,⟨xs,o,n⟩,k⟩;obtain⟨p,f,rfl,q,l⟩:=i.ls g o;obtain⟨w,m,j⟩:=qh l n;simp only[RA]at d;exact BN r s e H _ y v u Q I rx h ⟨p,f,b,w,rfl,d,q,m,k w j⟩
def wg(o:Ā)(f g h:EF):SF:=fun sl st=>(f sl st).bind fun p=>(g sl p.2).bind fun q=>match q.1 with
 |.int i=>(b8 q.2 p.1).bind fun xs=>(gJ xs i).bind fun x=>(h sl q.2).bind fun r=>(ud o r.2 x r.1).bind fun z=>(jO r.2 p.1 (.int i) z).bind fun st'=>À (.nx sl st')
 |_=>Á
theorem DJ[O2]{a i:Î}{f g h:EF}{o:Ā}{d:ė}(Z:X.A.units+64<ř)(ho:QE X a f)(hi:QE X i g)(he:QE X e h)
  (ha:∀ov iv new,augStore i ov iv new=(do holding [new,ov,iv] (Ϛ ov iv new);release [new,ov,iv] [];pure .next)):QS X (.AugAssign (.Subscript a i d) o e pos) (wg o f g h) :=
 PS_imp (Eb ho hi Ka he (HJ o) (Cq Z) ha) fun D Q H A=>by
  obtain⟨P,O,y,S,m,s,out,eo,q⟩:=A;obtain⟨p,e1,e2⟩:=zA eo;obtain⟨r,e3,B⟩:=zA e2;split at B
  ·rename_i j hj
   obtain⟨R,e5,e6⟩:=zA B;obtain⟨x,e7,e8⟩:=zA e6;obtain⟨t,e9,I⟩:=zA e8;obtain⟨z,G,F⟩:=zA I;obtain⟨w,E,C⟩:=zA F;cases C;refine⟨P,O,y,S,m,s,p.1,p.2,e1,fun P1 v H1 w1 n U r1=>⟨P1,v,y,p.2,m.frm n,U,r.1,r.2,e3,fun N c H2 w2 l K r2=>?_⟩⟩;rw[hj]at r2;refine⟨N,c,r.2,p.1,j,x,K,r1.frm l,r2,⟨R,e5,e7⟩,fun w3 Y=>⟨N,c,y,r.2,(m.frm n).frm l,K,t.1,t.2,e9,fun M b H3 w4 k J W=>⟨M,b,t.2,x,t.1,z,J,Y.frm k,W,G,fun w5 V=>⟨M,b,t.2,p.1,.int j,z,w,J,(r1.frm l).frm k,r2.frm k,V,E,fun P4 u H4 L T=>?_⟩⟩⟩⟩;exact q P4 u H4 Q (((n.trans l).trans k).trans L) T ((((m.frm n).frm l).frm k).frm L)
  ·cases B
end
inductive Iw[O2](mg:Gm)(P1:Pr)(φ1:List Ç)(H1:Hp)(E:Sl->aa->Prop)(σ:St)(H:Hp):Prop
 |mk (P φ sl st) (f:Frm P1 φ1 H1 P φ H) (s:Sim mg P φ st H) (r:Pa mg P H φ sl σ) (e:E sl st)
def dH(gd:Gd)(g:GF)(s:SF):List AV->Sl->aa->Option Out
 |[],sl,st=>if cD gd st=Â then À (.nx sl st) else Á
 |x::xs,sl,st=>if cD gd st=Â then(g x sl st).bind fun p=>(s p.1 p.2).bind fun o=>match o with
  |.nx sl st=>dH gd g s xs sl st
  |.ct sl st=>dH gd g s xs sl st
  |.bk sl st=>À (.nx sl st)
  |.rt v st=>À (.rt v st) else Á
def La(it:IF)(g:GF)(s:SF):SF:=fun sl st=>(it sl st).bind fun p=>dH p.1.gd g s p.1.O4 sl p.2
def dq(t:TF)(s:SF):Nat->Sl->aa->Option Out
 |0,_,_=>Á
 |n+1,sl,st=>(t sl st).bind fun p=>if p.1=Â then(s sl p.2).bind fun o=>match o with
  |.nx sl st=>dq t s n sl st
  |.ct sl st=>dq t s n sl st
  |.bk sl st=>À (.nx sl st)
  |.rt v st=>À (.rt v st) else À (.nx sl p.2)
open Classical in
def mP(t:TF)(s:SF):SF:=fun sl st=>if h:∃n,(dq t s n sl st).isSome=Â then dq t s (č h) sl st else Á
theorem qr:∀{n m:Nat}{sl:Sl}{st:aa}{o:Out},n<=m->dq t s n sl st=À o->dq t s m sl st=À o:=by
 intro n
 induction n with
 |zero=>intro m sl st o _ h;cases h
 |succ n d =>
  intro m sl st o g h;cases m with
  |zero=>lia
  |succ m =>
   simp only[dq]at h ⊢;obtain⟨p,f,c⟩:=zA h;rw[f,Æ];split at c
   ·rename_i b
    rw[yH b];obtain⟨q,e,a⟩:=zA c;rw[e,Æ];cases q with
    |nx sl st=>exact d oM a
    |ct sl st=>exact d oM a
    |bk sl st=>exact a
    |rt v st=>exact a
   ·rename_i b
    rw[yG b];exact c
theorem lx{t:TF}{s:SF}{n:Nat}{sl:Sl}{st:aa}{o:Out}(h:dq t s n sl st=À o):mP t s sl st=À o:=by
 have a:∃n,(dq t s n sl st).isSome=Â:=⟨n,by rw[h];rfl⟩;unfold mP;rw[dif_pos a];obtain⟨e,b⟩:=Ĵ.mp (ę a);have d:=qr (Nat.le_max_left n (č a)) h;have c:=qr (Nat.le_max_right n (č a)) b;rw[b,<- d,c]
theorem ye{t:TF}{s:SF}{sl:Sl}{st:aa}{o:Out}(h:mP t s sl st=À o):∃n,dq t s n sl st=À o:=by
 unfold mP at h;split at h
 ·exact⟨_,h⟩
 ·cases h
section
variable{X:Cx}{tg iter c:Î}{body:List ľ}{pos:ė}{it:IF}{g:GF}{s:SF}{t:TF}
theorem F8[O2](hp:Ϝ (model X.prog X.w) X.A X.env X.xe)(hc:X.calm=Â)(hi:QI X tg iter it)(hg:QG X tg g)(hb:nB X body s)(hs:∀x,ô iter X.env x=pure x):QS X (.For tg iter body [] pos) (La it g s) :=
 PS_imp (xU hp hc hi hg hb hs) fun D σ H S=>by
  obtain⟨P,φ,u,B,Y,sm,o,e,q⟩:=S;obtain⟨p,e1,e2⟩:=zA e;refine⟨P,φ,u,B,Y,sm,p.1,p.2,e1,fun W h H1 J f1 s1 ij=>?_⟩;have R:=q.frm f1;refine⟨fun i m f y=>m=p.1.O4.length-i/\i<=p.1.O4.length/\Iw X.gm W h H1 (fun u B=>dH p.1.gd g s (p.1.O4.drop i) u B=À o) f y,⟨_,rfl,Ě _,W,h,u,p.2,Frm.refl,s1,Y.frm f1,by simpa using e2⟩,?_⟩;intro i m f y hh;refine g_ fun G bk=>?_
  obtain⟨em,T,V,d,N,A,K,O,C,c⟩:=hh;rcases yT i p.1.O4.length with l|U
  ·rw[ê l]at c
   simp only[dH]at c;split at c
   ·rename_i n
    obtain⟨go,yl⟩:=ij.go V d y A i _ K O n (zF l);obtain⟨F,e4,e5⟩:=zA c;obtain⟨Z,e6,L⟩:=zA e5;refine bk (.inr ⟨go,Iw X.gm W h H1 fun u B=>dH p.1.gd g s (p.1.O4.drop (i+1)) u B=À o,fun f y z=>⟨_,by lia,rfl,l,z⟩,fun x H3 hy=>g_ fun G bk=>?_⟩);obtain⟨P3,f3,s3,r3⟩:=yl x H3 hy;refine bk ⟨P3,d,N,A,_,C.frm f3,s3,r3,F.1,F.2,e4,fun P4 M H4 σ4 f4 s4 Q=>⟨P4,M,F.1,F.2,Q,s4,Z,e6,?_⟩⟩;have I:=(K.trans f3).trans f4;cases Z with
    |nx sl5 st5=>exact fun t a E j r k b=>⟨t,a,sl5,st5,I.trans r,k,b,L⟩
    |ct sl5 st5=>exact fun t a E j r k b=>⟨t,a,sl5,st5,I.trans r,k,b,L⟩
    |bk sl5 st5=>cases L;exact fun t a E j r k b=>R t a E j (I.trans r) k b
    |rt v st5=>cases L;exact fun t a E w r k r5=>R t a E w (I.trans r) k r5
   ·cases c
  ·have ei:i=p.1.O4.length:=e? T U
   subst ei;rw[Ϭ]at c;simp only[dH]at c;split at c
   ·rename_i n
    cases c;exact bk (.inl ⟨ij.stop V d y _ K O n,R V d y f K O C⟩)
   ·cases c
theorem A2[O2](O:Ϝ (model X.prog X.w) X.A X.env X.xe)(R:QT X c t)(S:nB X body s):QS X (.While c body [] pos) (mP t s) :=
 PS_imp (A9 O R S) fun D Z H E=>by
  obtain⟨P,C,r,n,K,J,o,e,q⟩:=E;obtain⟨N,V⟩:=ye e;refine⟨fun m=>Iw X.gm P C H fun r n=>dq t s m r n=À o,⟨N,P,C,r,n,Frm.refl,J,K,V⟩,?_⟩;intro m l Y Q;cases Q with|mk P2 φ2 sl2 st2 f2 s2 rs2 eg =>
  cases m with
  |zero=>cases eg
  |succ m =>
   simp only[dq]at eg;obtain⟨p,U,j⟩:=zA eg;refine⟨P2,φ2,sl2,st2,rs2,s2,p.1,p.2,U,fun I k W b A F M=>?_⟩;cases M;cases u:p.1 with
   |true =>
    rw[u]at j;simp only[if_true]at j ⊢;obtain⟨G,T,B⟩:=zA j;refine⟨Iw X.gm P C H fun r n=>dq t s m r n=À o,fun l Y z=>⟨m,ĳ m,z⟩,I,k,sl2,p.2,rs2.frm A,F,G,T,?_⟩;have y:=f2.trans A;cases G with
    |nx sl5 st5=>exact fun i a x f h g d=>⟨i,a,sl5,st5,y.trans h,g,d,B⟩
    |ct sl5 st5=>exact fun i a x f h g d=>⟨i,a,sl5,st5,y.trans h,g,d,B⟩
    |bk sl5 st5=>cases B;exact fun i a x f h g d=>q i a x f (y.trans h) g d
    |rt v st5=>cases B;exact fun i a x w h g L=>q i a x w (y.trans h) g L
   |false =>
    rw[u]at j;simp only[yA,if_false]at j ⊢;cases j;exact q I k W l (f2.trans A) F (rs2.frm A)
end
abbrev Fn:=List AV->aa->Option (AV×aa)
def dO[O2](mg:Gm)(n:Nat)(fn:Fn):Sp:=fun vs H Q _=>vs.length=n/\∃P φ args st,O6 mg P H φ args vs/\Sim mg P φ st H/\KG mg RA P φ H (fn args st) Q
def bu:Nat->aa->AV->Option AV
 |n+1,st,.ref k=>match st[k]? with
  |some (.lst xs)=>(aQ (bu n st) xs).map .fz
  |some (.al t)=>À t
  |_=>Á
 |n+1,st,.tup xs=>(aQ (bu n st) xs).map .tup
 |0,_,.ref _=>Á
 |0,_,.tup _=>Á
 |_,_,t=>À t
def de:aa->AV->Option AV:=bu 6
mutual
noncomputable def flat:AV->Bool
 |.ref _=>Ã
 |.fz _=>Ã
 |.tup xs=>pb xs
 |_=>Â
noncomputable def pb:List AV->Bool
 |[]=>Â
 |x::xs=>flat x&&pb xs
end
def qJ(st:aa)(x:AV):Option (AV×aa):=if rf x=Â then À (x,st) else match x with
 |.ref k=>match st[k]? with
  |some (.lst xs)=>if rfs xs=Â then À (.fz xs,st.set k (.al (.fz xs))) else Á
  |some (.al t)=>À (t,st)
  |_=>Á
 |_=>Á
def o6:aa->List AV->Option (List AV×aa)
 |st,[]=>À ([],st)
 |st,x::xs=>(qJ st x).bind fun p=>(o6 p.2 xs).map fun q=>(p.1::q.1,q.2)
def pm(fn:Fn):Fn:=fun args st=>if rfs args=Â then(fn args []).bind fun p=>(de p.2 p.1).map fun t=>(t,st)
 else(aQ (de st) args).bind fun ts=>(fn ts []).bind fun p=>(de p.2 p.1).bind fun t=>if flat t=Â then À (t,st) else
  (o6 st args).bind fun q=>(fn q.1 []).bind fun p=>(de p.2 p.1).map fun t=>(t,q.2)
section
variable{mg:Gm}{P:Pr}{φ:List Ç}{st:aa}{H:Hp}
theorem AW[O2]{n:Nat}(b:∀v w t,bu n st v=À t->RA mg P H φ v w->RA mg P' H [] t w):∀{xs:List AV}{vs:List V}{ts:List AV},aQ (bu n st) xs=À ts->O6 mg P H φ xs vs->O6 mg P' H [] ts vs:=by
 intro xs
 induction xs with
 |nil=>intro vs ts e r;cases e;simp only[O6]at r ⊢;exact r
 |cons x xs a =>
  intro vs ts e r;simp only[aQ]at e;obtain⟨y,g,f⟩:=zA e;obtain⟨h,d,c⟩:=zE.mp f;subst c;simp only[O6]at r;obtain⟨v,i,rfl,r1,r2⟩:=r;exact aU (b x v y g r1) (a d r2)
theorem sy[O2](s:Sim mg P φ st H):∀(n:Nat)(v:AV)(w:V)(t:AV),bu n st v=À t->RA mg P H φ v w->RA mg (fun a=>P a\/a∈φ) H [] t w:=by
 have ex:∀a,P a->(P a\/a∈φ)/\H a=H a:=fun a h=>⟨.inl h,rfl⟩
 have o:∀{t:AV}{w:V},R.rf t=Â->RA mg P H φ t w->RA mg (fun a=>P a\/a∈φ) H [] t w:=fun h r=>(RA.rf (ψ:=[]) h r).mono ex fun _ _ z=>z
 intro n
 induction n with
 |zero =>
  intro v w t e r;cases v <;> simp only [bu] at e <;> first | (cases e;done) | skip
  all_goals cases e;exact o rfl r
 |succ n q =>
  intro v w t e r;cases v with
  |ref k =>
   simp only[bu]at e;simp only[RA]at r;obtain⟨a,j,rfl⟩:=r;split at e
   ·rename_i u f
    obtain⟨x,m,l⟩:=zE.mp e;subst l;obtain⟨y,b,c⟩:=s.at f;rw[j]at b;cases b;obtain⟨_,d,i,g⟩:=c;simp only[RA];exact⟨a,d,rfl,.inl ⟨.inr (zW j),.inl i⟩,AW q m g⟩
   ·rename_i A f
    cases e;obtain⟨y,b,c⟩:=s.at f;rw[j]at b;cases b;exact c.2.mono ex fun _ _ z=>z
   ·cases e
  |tup u =>
   simp only[bu]at e;obtain⟨x,m,l⟩:=zE.mp e;subst l;simp only[RA]at r;obtain⟨a,d,rfl,p,i,g⟩:=r;simp only[RA];exact⟨a,d,rfl,.inl p,i,AW q m g⟩
  |_=>simp only[bu]at e;cases e;exact o rfl r
mutual
theorem RA.fl[O2](h:∀a vs,P a->H a=À (.tup vs)->P' a):∀{t:AV}{w:V},flat t=Â->RA mg P H φ t w->RA mg P' H ψ t w
 |.non,_,_,r=>by simp only[RA]at r ⊢;exact r
 |.bl _,_,_,r=>by simp only[RA]at r ⊢;exact r
 |.int _,_,_,r=>by simp only[RA]at r ⊢;exact r
 |.str _,_,_,r=>by simp only[RA]at r ⊢;exact r
 |.ref _,_,e,_=>by simp only[flat]at e;cases e
 |.fz _,_,e,_=>by simp only[flat]at e;cases e
 |.tup xs,_,e,r=>by
  simp only[RA,flat]at r e ⊢;obtain⟨a,vs,rfl,p,h1,h2⟩:=r;exact⟨a,vs,rfl,h a vs p h1,h1,O6.fl h e h2⟩
theorem O6.fl[O2](h:∀a vs,P a->H a=À (.tup vs)->P' a):∀{ts:List AV}{ws:List V},pb ts=Â->O6 mg P H φ ts ws->O6 mg P' H ψ ts ws
 |[],_,_,r=>by simp only[O6]at r ⊢;exact r
 |t::ts,_,e,r=>by
  simp only[O6,pb,zC]at r e ⊢;obtain⟨v,ws,rfl,r1,r2⟩:=r;exact⟨v,ws,rfl,RA.fl h e.1 r1,O6.fl h e.2 r2⟩
end
theorem HX[O2](s:Sim mg P φ st H)(e:qJ st x=À (t,st'))(r:RA mg P H φ x v):∃P',Frm P φ H P' φ H/\Sim mg P' φ st' H/\RA mg P' H [] t v:=by
 unfold qJ at e;split at e
 ·rename_i h
  cases e;exact⟨P,Frm.refl,s,RA.rf h r⟩
 ·cases x with
  |ref k =>
   simp only[RA]at r;obtain⟨a,f,rfl⟩:=r;dsimp only at e;split at e
   ·rename_i y o
    split at e
    ·rename_i B
     cases e;obtain⟨D,d,c⟩:=s.at o;rw[f]at d;cases d;obtain⟨F,A,w,u⟩:=c;have ex:∀b,P b->(P b\/b=a)/\H b=H b:=fun b h=>⟨.inl h,rfl⟩
     have m:=zW f;have q:RA mg (fun b=>P b\/b=a) H [] (.fz y) (.ref a):=by
      simp only[RA];exact⟨a,A,rfl,.inl ⟨.inr rfl,.inl w⟩,(O6.rf B u).mono ex fun _ _ z=>z⟩
     have C:∀b,(P b\/b=a)->H b≠Á:=fun b h=>by
      rcases h with h|h
      ·exact s.dom b h
      ·rw[h];exact s.cd a m
     refine⟨fun b=>P b\/b=a,⟨ex,⟨[],by simp,by simp⟩,fun _ _ _ _=>rfl,fun b h=>?_,fun _ h=>h,fun _ _ _ h=>h⟩,⟨by rw[ą];exact s.len,s.nd,C,s.cd,fun j c b i g=>?_,fun t l=>⟨(s.tb t l).1,fun z=>z.elim (s.tb t l).2 fun z=>s.tnc l (by rw[z];exact m)⟩⟩,q⟩
     ·rcases h with h|h
      ·exact .inl h
      ·exact .inr (.inr (by rw[h];exact m))
     ·by_cases p:j=k
      ·subst p
       rw[f]at g;cases g;rw[ï (by rw[<- s.len];exact(zB.mp f).1)]at i;cases i;exact⟨.inr rfl,q⟩
      ·rw[í (æ p)]at i
       refine(s.cell j c b i g).mono ex (fun _ _ z=>z) rfl fun n z=>?_
       rcases z with z|z
       ·exact n z
       ·refine p ?_
        subst z;obtain⟨w,i⟩:=zB.mp g;obtain⟨u,g⟩:=zB.mp f;exact(ŋ s.nd).mp (i.trans g.symm)
    ·cases e
   ·rename_i E o
    cases e;obtain⟨D,d,c⟩:=s.at o;rw[f]at d;cases d;exact⟨P,Frm.refl,s,c.2⟩
   ·cases e
  |_=>cases e
theorem HV[O2]:∀{xs ts:List AV}{st st':aa}{P:Pr}{vs:List V},Sim mg P φ st H->o6 st xs=À (ts,st')->O6 mg P H φ xs vs->∃P',Frm P φ H P' φ H/\Sim mg P' φ st' H/\O6 mg P' H [] ts vs:=by
 intro xs
 induction xs with
 |nil=>intro ts st st' P vs s e r;cases e;simp only[O6]at r;subst r;exact⟨P,Frm.refl,s,bg⟩
 |cons x xs h =>
  intro ts st st' P vs s e r;simp only[o6]at e;obtain⟨p,l,k⟩:=zA e;obtain⟨q,j,i⟩:=zE.mp k;cases i;simp only[O6]at r;obtain⟨v,n,rfl,r1,r2⟩:=r;obtain⟨o,b,d,g⟩:=HX s l r1;obtain⟨m,a,c,f⟩:=h d j (r2.frm b);exact⟨m,b.trans a,c,aU (g.mono a.ext fun _ _ z=>z) f⟩
theorem Lc[O2]{fn:Fn}{args:List AV}{vs:List V}{Q:VK}(s:Sim mg P φ st H)(r:O6 mg P H [] args vs)(h:KG mg RA P φ H ((fn args []).bind fun p=>(de p.2 p.1).map fun t=>(t,st)) Q):∃P φ args st,O6 mg P H φ args vs/\Sim mg P φ st H/\KG mg RA P φ H (fn args st) Q:=by
 obtain⟨t,o,e,k⟩:=h;obtain⟨p,A,y⟩:=zA e;obtain⟨B,x,v⟩:=zE.mp y;cases v;refine⟨P,[],args,[],r,Sim.nil s.dom s.tb,p.1,p.2,A,fun j d l w b c r1=>?_⟩;obtain⟨m,em,nm⟩:=b.new;have i:∀a,H a≠Á->(∀q,H a≠À (.tbl q))->l a=H a:=fun a h=>b.keep a h (by simp)
 have u:=s.ckeep (fun a h=>(b.ext a h).2) i;have g:∀a,(j a\/a∈d)->P a\/H a=Á:=fun a h=>by
  rcases h with h|h
  ·rcases b.pn a h with z|z|z
   ·exact .inl z
   ·exact .inr z
   ·cases z
  ·rw[em]at h;exact .inr (nm a h)
 refine k (fun a=>j a\/a∈d) φ l w ⟨fun a h=>⟨.inl (b.ext a h).1,(b.ext a h).2⟩,⟨[],by simp,by simp⟩,fun a h _ z=>i a h z,fun a h=>?_,b.sm,b.fz⟩ (s.stay (fun a h=>⟨.inl (b.ext a h).1,(b.ext a h).2⟩) u (fun a h n z=>?_) (fun a h=>?_) fun t f=>⟨(c.tb t f).1,fun z=>z.elim (c.tb t f).2 (c.tnc f)⟩) (RA.lift (sy c 6 _ _ _ x r1))
 ·rcases g a h with z|z
  ·exact .inl z
  ·exact .inr (.inl z)
 ·rcases g a z with z|z
  ·exact n z
  ·exact s.cd a h z
 ·rcases h with h|h
  ·exact c.dom a h
  ·exact c.cd a h
theorem JB[O2]{n:Nat}(h:dO mg n (pm fn) vs H Q E):dO mg n fn vs H Q E:=by
 obtain⟨S,P,o,J,M,r,s,k⟩:=h;refine⟨S,?_⟩;unfold pm at k;split at k
 ·rename_i R
  exact Lc s (O6.rf R r) k
 ·obtain⟨t,y,e,k⟩:=k
  obtain⟨L,e1,e2⟩:=zA e;obtain⟨p,e3,e4⟩:=zA e2;obtain⟨t',e5,A⟩:=zA e4;split at A
  ·rename_i T
   cases A;have dm:∀a,(P a\/a∈o)->H a≠Á:=fun a h=>by
    rcases h with h|h
    ·exact s.dom a h
    ·exact s.cd a h
   refine⟨fun a=>P a\/a∈o,[],L,[],AW (fun v w t e r=>sy s 6 v w t e r) e1 r,Sim.nil dm (fun t g=>⟨(s.tb t g).1,fun z=>z.elim (s.tb t g).2 (s.tnc g)⟩),p.1,p.2,e3,fun B l C w d f r1=>?_⟩;obtain⟨m,em,nm⟩:=d.new;have D:∀a,H a≠Á->(∀O,H a≠À (.tbl O))->C a=H a:=fun a h=>d.keep a h (by simp)
   have F:=s.ckeep (fun a h=>(d.ext a (.inl h)).2) D;have u:∀a,P a->((B a\/a∈l)/\(a∈o->P a))/\C a=H a:=fun a h=>⟨⟨.inl (d.ext a (.inl h)).1,fun _=>h⟩,(d.ext a (.inl h)).2⟩
   refine k (fun a=>(B a\/a∈l)/\(a∈o->P a)) o C w ⟨u,⟨[],by simp,by simp⟩,fun a h _ z=>D a h z,fun a h=>?_,d.sm,d.fz⟩ (s.stay u F (fun a h n z=>n (z.2 h)) (fun a h=>?_) fun t g=>⟨(f.tb t g).1,fun z=>z.1.elim (f.tb t g).2 (f.tnc g)⟩) (RA.fl (fun a K W V=>⟨W,fun G=>?_⟩) T (sy f 6 _ _ _ e5 r1))
   ·rcases h.1 with z|z
    ·rcases d.pn a z with z|z|z
     ·rcases z with z|z
      ·exact .inl z
      ·exact .inr (.inr z)
     ·exact .inr (.inl z)
     ·cases z
    ·rw[em]at z;exact .inr (.inl (nm a z))
   ·rcases h.1 with h|h
    ·exact f.dom a h
    ·exact f.cd a h
   ·obtain⟨j,I⟩:=z8 G
    obtain⟨c,U⟩:∃c,M[j]?=À c:=⟨_,zF (by rw[<- s.len];exact(zB.mp I).1)⟩;have i:=s.cell j c a U I;have b:H a=À (.tup K):=by rw[<- F a G];exact V
    cases c with
    |lst xs=>obtain⟨_,_,z,_⟩:=i;rw[b]at z;cases z
    |al t=>exact i.1
    |dK O1=>obtain⟨_,_,z,_⟩:=i;rw[b]at z;cases z
    |dT O1=>obtain⟨_,_,z,_⟩:=i;rw[b]at z;cases z
    |ins c fs=>obtain⟨_,_,_,_,_,z,_⟩:=i;rw[b]at z;cases z
    |wk O1=>obtain⟨_,_,_,z,_⟩:=i;rw[b]at z;cases z
  ·obtain⟨q,Z,Y⟩:=zA A
   obtain⟨B,d,f,r1⟩:=HV s Z r;exact Lc f r1 ⟨t,y,Y,fun P2 x H2 w X N r2=>k P2 x H2 w (d.trans X) N r2⟩
end
theorem FnOk.pm[O2]{P:Ò}{w:Ú}{K:Þ}{mg:Í->Option Å}{a:è}{k:Nat}{f:Ç}{fd:Ē}{ps:List Í}{n:Nat}{fn:Fn}(F:FnOk P w K mg a fj k f fd ps (dO ⟨K,mg⟩ n fn)):FnOk P w K mg a fj k f fd ps (dO ⟨K,mg⟩ n (R.pm fn)) :=
 F.imp fun _ _ _ _ h=>JB h
def run(n:Nat)(b:SF):Fn:=fun args st=>(b (args.map À++È (n-args.length) Á) st).bind fun o=>match o with
 |.rt v st=>À (v,st)
 |.nx _ st=>À (.non,st)
 |_=>Á
theorem Dw[O2](h:O6 mg P H φ args vs):Pa mg P H φ (args.map À++È (N.length-args.length) Á) (L2.start N vs):=by
 have b:=h.length;unfold L2.start;refine⟨by simp[b],fun i v e=>?_⟩;have c:i<args.length:=by
  rcases yT i args.length with z|z
  ·exact z
  ·rw[z6 (by simpa using z),ù]at e
   split at e<;>cases e
 rw[zN (by simpa using c),zR]at e;rw[zN (by rw[zH,<- b];exact c),zR];cases a:args[i]? with
 |none=>rw[a]at e;cases e
 |some x =>
  rw[a]at e;cases e;obtain⟨w,d,r1⟩:=h.get a;exact⟨w,by rw[d];rfl,r1⟩
def C7(fn:Fn)(g:AF):EF:=fun sl st=>(g sl st).bind fun p=>fn p.1 p.2
section
variable{X:Cx}{x:Í}{p pos:ė}{e o:Î}{es:List Î}{k:Nat}{f:Ç}{fd:Ē}{ps:List Í}{fn:Fn}{g:AF}{h:EF}
theorem MK[O2]{n:Nat}(o:∀sl st xs st',g sl st=À (xs,st')->xs.length=n)(q:rE mg (C7 fn g) σ H Q):wa (dO mg n fn) [] E (rA mg g) σ H Q:=by
 obtain⟨P,h,sl,st,k,s,l⟩:=q;refine⟨P,h,sl,st,k,s,?_⟩;obtain⟨a,st',f,q⟩:=l.bind (Ra:=O6);refine⟨a,st',f,fun t d u b p j r1=>?_⟩;obtain⟨r,c,e,xs,v,i,r2,m⟩:=q t d u b p j r1;rw[ó];exact⟨by rw[<- r1.length];exact o _ _ _ _ f,r,c,xs,e,r2,i,m⟩
theorem DW[O2](F:FnOk X.prog X.w X.K X.mg X.base fj k f fd ps (dO X.gm ps.length fn))(b:Room k X.A)(i:Gl X x)(d:X.mg x=À (.ref f))(h:Ĺ X.K (.ref f)=Â)(j:Binds X.K fd ps [])
  (l:QA X (e::es) g) (c:∀sl st xs st',g sl st=À (xs,st')->xs.length=ps.length) (a:(x==("__debug__":Í))=Ã) (he:Ê (e::es) X.env=(Ã,eval e X.env)::Ê es X.env) (hpl:(õ pos (Ê es X.env)).any (·.1)=Ã) :
  QE X (.Call (.Name x p) (e::es) [] pos) (C7 fn g):=PE_imp (Es (E:=E0) F b i d h j .nil oz l a he hpl) fun _ _ _ q=>MK c q
theorem A6[O2](F:FnOk X.prog X.w X.K X.mg X.base fj k f fd ps (dO X.gm ps.length fn))(e:Room k X.A)(j:Gl X x)(h:X.mg x=À (.ref f))(i:Ĺ X.K (.ref f)=Â)(l:Binds X.K fd ps [])
  (g:ps.length=0) (a:(x==("__debug__":Í))=Ã):QE X (.Call (.Name x p) [] [] pos) (C7 fn eF):=PE_imp (Br (E:=E0) F e j h i l .nil oz a) fun m H Q q=>by
 obtain⟨P,b,n,c,o,s,d⟩:=q;exact⟨by simp[g],P,b,[],c,bg,s,d⟩
def jR(st:aa)(c:Í):AV->Option (List (Í×AV))
 |.ref k=>match st[k]? with
  |some (.ins c' fs)=>if c'=c then À fs else Á
  |_=>Á
 |_=>Á
theorem oK(h:KVR mg P H φ fs ws)(f:Í):(fs.lookup f=Á->ws.lookup f=Á)/\∀v,fs.lookup f=À v->∃w,ws.lookup f=À w/\RA mg P H φ v w:=by
 induction fs generalizing ws with
 |nil =>
  have:ws=[]:=by simpa using h.1.symm
  subst this;exact⟨fun _=>rfl,fun v e=>by cases e⟩
 |cons p fs k =>
  cases ws with
  |nil=>exact absurd h.1 (by simp)
  |cons q ws =>
   obtain⟨j,g⟩:=h;rw[zO,zO]at j g;injection j with h3 h4;simp only[O6]at g;obtain⟨v,n,m,i,l⟩:=g;injection m with h8 h9;subst h8;subst h9;obtain⟨a,b⟩:=p;obtain⟨c,d⟩:=q;dsimp only at h3 i;subst h3;rw[yN,yN];cases o:f==a with
   |true=>exact⟨fun z=>(by cases z),fun v z=>(by cases z;exact⟨d,rfl,i⟩)⟩
   |false=>exact k ⟨h4,l⟩
theorem nY[O2]{mg:Gm}{P:Pr}{φ:List Ç}{st:aa}{H:Hp}{c:Í}{v:AV}{w:V}{fs:List (Í×AV)}(s:Sim mg P φ st H)(h:jR st c v=À fs)(r:RA mg P H φ v w) :
  ∃k a C dx ws,v=.ref k/\φ[k]?=À a/\¬P a/\w=.ref a/\mg.mg c=À (.ref C)/\H a=À (.ins C dx ws)/\KVR mg P H φ fs ws:=by
 cases v with
 |ref k =>
  simp only[jR]at h;split at h
  ·rename_i o m f
   split at h
   ·rename_i g
    cases h;subst g;simp only[RA]at r;obtain⟨a,d,rfl⟩:=r;obtain⟨p,b,n⟩:=s.at f;rw[d]at b;cases b;obtain⟨e,C,dx,ws,l,j,i⟩:=n;exact⟨k,a,C,dx,ws,rfl,d,e,rfl,l,j,i⟩
   ·cases h
  ·cases h
 |_=>cases h
def C6(c m:Í)(fn:Fn)(h:EF)(g:AF):EF:=fun sl st=>(h sl st).bind fun p=>(jR p.2 c p.1).bind fun fs=>if(fs.lookup m).isNone=Â then(g sl p.2).bind fun q=>fn (p.1::q.1) q.2 else Á
theorem Hk[O2]{n:Nat}(K:mg.mg c=À (.ref C))(I:∀sl st xs st',g sl st=À (xs,st')->xs.length+1=n)(q:rE mg (C6 c m fn h g) σ H Q):v8 C m (dO mg n fn) [] E (rE mg h) (rA mg g) σ H Q:=by
 obtain⟨P,y,sl,st,o,s,v,st',e,k⟩:=q;obtain⟨p,T,S⟩:=zA e;obtain⟨fs,R,i⟩:=zA S;split at i
 ·rename_i J
  obtain⟨q,x,O⟩:=zA i;refine⟨P,y,sl,st,o,s,p.1,p.2,T,fun Y f H1 w u l r1=>?_⟩;obtain⟨j,a,C',U,z,h1,h2,h3,rfl,r,M,L⟩:=nY l R r1;rw[K]at r;cases r;refine⟨a,U,z,rfl,M,(oK L m).1 (by simpa using J),Y,f,sl,p.2,o.frm u,l,q.1,q.2,x,fun X d H2 B t F r2=>?_⟩;show dO mg n fn (V.ref a::(B++[])) H2 Q E;rw[ó];exact⟨by rw[yX,<- r2.length];exact I _ _ _ _ x,X,d,p.1::q.1,q.2,aU (r1.frm t) r2,F,v,st',O,fun W b Z A N D G=>k W b Z A ((u.trans t).trans N) D G⟩
 ·cases i
theorem DU[O2](i:QE X o h)(cl:Cls X.K C)(r:X.mg c=À (.ref C))(l:kS X.K C m f)(F:FnOk X.prog X.w X.K X.mg X.base fj k f fd ps (dO X.gm ps.length fn))(d:Room k X.A)(n:Binds X.K fd ps [])
  (p:QA X (e::es) g) (j:∀sl st xs st',g sl st=À (xs,st')->xs.length+1=ps.length) (a:Ê (e::es) X.env=(Ã,eval e X.env)::Ê es X.env) (hpl:(õ pos (Ê es X.env)).any (·.1)=Ã)
  (b:eval (.Call (.Attribute o m apos) (e::es) [] pos) X.env=(do
   let ov <- eval o X.env
   ŗ apos.atName
   let(f,first) <- holding [ov] (Ŧ ov m pl)
   Ū pos f first (õ pos (Ê (e::es) X.env)) (ō pos (đ [] X.env)))):QE X (.Call (.Attribute o m apos) (e::es) [] pos) (C6 c m fn h g) :=
 PE_imp (En (E:=E0) i cl l F d n .nil oz p a hpl b) fun _ _ _ q=>Hk r j q
theorem A5[O2](K:QE X o h)(cl:Cls X.K C)(O:X.mg c=À (.ref C))(M:kS X.K C m f)(F:FnOk X.prog X.w X.K X.mg X.base fj k f fd ps (dO X.gm ps.length fn))(J:Room k X.A)(N:Binds X.K fd ps [])
  (L:ps.length=1)
  (I:eval (.Call (.Attribute o m apos) [] [] pos) X.env=(do
   let ov <- eval o X.env
   ŗ apos.atName
   let(f,first) <- holding [ov] (Ŧ ov m pl)
   Ū pos f first (õ pos (Ê [] X.env)) (ō pos (đ [] X.env)))):QE X (.Call (.Attribute o m apos) [] [] pos) (C6 c m fn h eF) :=
 PE_imp (Bm (E:=E0) K cl M F J N .nil oz I) fun σ H Q q=>by
  obtain⟨P,r,l,j,D,s,v,b,e,k⟩:=Hk (E:=E0) (C:=C) O (g:=eF) (n:=1) (fun l j t b e=>by cases e;rfl) q;refine⟨P,r,l,j,D,s,v,b,e,fun P1 i p w V A r1=>?_⟩;obtain⟨a,Y,fs,U,T,S,R⟩:=k P1 i p w V A r1;refine⟨a,Y,fs,U,T,S,?_⟩;obtain⟨Z,d,y,x,B,z,t,u,W,G⟩:=R;cases W
  have:=G Z d p [] Frm.refl z bg
  rw[L];exact this
def Al(c:Í)(fn:Fn)(g:AF):EF:=fun sl st=>(g sl st).bind fun p=>(fn (.ref p.2.length::p.1) (p.2++[.ins c []])).bind fun q=>match q.1 with
 |.non=>À (.ref p.2.length,q.2)
 |_=>Á
theorem Ey[O2]{mg:Gm}{P:Pr}{φ:List Ç}{st:aa}{H:Hp}{c:Í}{C x b:Ç}(s:Sim mg P φ st H)(m:mg.mg c=À (.ref C))(l:H x=Á)(hd:H b=Á)(ne:b≠x) :
  Frm P φ H P (φ++[x]) (ah (ah H b (.own x)) x (.ins C b []))/\Sim mg P (φ++[x]) (st++[.ins c []]) (ah (ah H b (.own x)) x (.ins C b [])):=by
 have f:∀a,H a≠Á->a≠b:=fun a h e=>h (by rw[e];exact hd)
 have g:Frm P φ H P φ (ah H b (.own x)):=⟨fun a h=>⟨h,ad (f a (s.dom a h))⟩,⟨[],by simp,by simp⟩,fun a h _ _=>ad (f a h),fun a h=>.inl h,fun a h=>by rw[ad (f a h)];exact h,fun a o u h=>by rw[ad (bt h hd)];exact h⟩;have i:Sim mg P φ st (ah H b (.own x)):=s.stay g.ext (fun a h=>ad (f a (s.cd a h))) (fun _ _ h=>h) (fun a h=>g.sm a (s.dom a h)) fun t j=>⟨(s.tb t j).1.new hd,(s.tb t j).2⟩
 have d:ah H b (.own x) x=Á:=by rw[ad (æ ne)];exact l
 obtain⟨n,k⟩:=nR (c:=.ins c []) (o:=.ins C b []) i d ⟨fun z=>i.dom x z d,C,b,[],m,aD,rfl,bg⟩;exact⟨g.trans n,k⟩
theorem Mo[O2]{mg:Gm}{c:Í}{C:Ç}{n:Nat}{E:XK}{σ:St}{H:Hp}{Q:VK}(D:mg.mg c=À (.ref C))(B:∀sl st xs st',g sl st=À (xs,st')->xs.length+1=n)(q:rE mg (Al c fn g) σ H Q):Cn C (dO mg n fn) [] E (rA mg g) σ H Q:=by
 obtain⟨P,t,sl,st,z,s,v,st',e,k⟩:=q;obtain⟨p,m,I⟩:=zA e;obtain⟨q,G,b⟩:=zA I;refine⟨P,t,sl,st,z,s,p.1,p.2,m,fun r a L M F h r1=>fun x o A hd ne=>?_⟩;obtain⟨l,y⟩:=Ey h D A hd ne;have rx:RA mg r (ah (ah L o (.own x)) x (.ins C o [])) (a++[x]) (.ref p.2.length) (.ref x):=by simp only[RA];exact⟨x,by rw[<- h.len];simp,rfl⟩
 rw[ó];refine⟨by rw[yX,<- r1.length];exact B _ _ _ _ m,r,a++[x],_,_,aU rx (r1.frm l),y,q.1,q.2,G,fun J d K w j u f=>?_⟩;cases i:q.1 with
 |non =>
  rw[i]at b f;cases b;simp only[RA]at f;exact⟨f,k J d K (.ref x) ((F.trans l).trans j) u (rx.frm j)⟩
 |_=>rw[i]at b;cases b
theorem Gs[O2](M:Mk X.K C f)(F:FnOk X.prog X.w X.K X.mg X.base fj k f fd ps (dO X.gm ps.length fn))(d:Room (k+1) X.A)(i:Gl X c)(b:X.mg c=À (.ref C))(j:Binds X.K fd ps [])
  (l:QA X (e::es) g) (h:∀sl st xs st',g sl st=À (xs,st')->xs.length+1=ps.length) (a:(c==("__debug__":Í))=Ã) (he:Ê (e::es) X.env=(Ã,eval e X.env)::Ê es X.env) (hpl:(õ pos (Ê es X.env)).any (·.1)=Ã) :
  QE X (.Call (.Name c p) (e::es) [] pos) (Al c fn g):=PE_imp (Eo (E:=E0) M F d i b j .nil oz l a he hpl) fun _ _ _ q=>Mo b h q
def LB(c fl:Í)(h:EF):EF:=fun sl st=>(h sl st).bind fun p=>(jR p.2 c p.1).bind fun fs=>(fs.lookup fl).map fun v=>(v,p.2)
theorem Gu[O2](A:QE X o h)(cl:Cls X.K C)(D:X.mg c=À (.ref C))(y:NoAttr X.K C fl)(B:Ė o fl X.env (eval o X.env)=eval o X.env):QE X (.Attribute o fl apos) (LB c fl h) :=
 PE_imp (GW A B) fun T H Q f=>by
  obtain⟨P,m,u,r,x,s,v,q,e,k⟩:=f;obtain⟨p,N,M⟩:=zA e;obtain⟨fs,L,K⟩:=zA M;obtain⟨t,J,I⟩:=zE.mp K;cases I;refine⟨P,m,u,r,x,s,p.1,p.2,N,fun R b S w G g r1=>?_⟩;obtain⟨j,a,l,O,n,W,V,U,rfl,i,F,E⟩:=nY g L r1;have:l=C:=by rw[show X.gm.mg c=X.mg c from rfl,D]at i;cases i;rfl
  subst this;obtain⟨w,z,d⟩:=(oK E fl).2 _ J;exact⟨a,l,O,n,w,rfl,F,cl,y,z,k R b S w G g d⟩
noncomputable def jr(f:Í)(v:AV):List (Í×AV)->List (Í×AV)
 |[]=>[(f,v)]
 |(g,x)::r=>if g=f then(g,v)::r else(g,x)::jr f v r
theorem xS{mg:Gm}{P:Pr}{H:Hp}{φ:List Ç}{f:Í}{v:AV}{w:V}(r:RA mg P H φ v w):∀{fs:List (Í×AV)}{ws:List (Í×V)},KVR mg P H φ fs ws->KVR mg P H φ (jr f v fs) (d4 f w ws):=by
 intro fs
 induction fs with
 |nil =>
  intro ws h;have:ws=[]:=by simpa using h.1.symm
  subst this;exact⟨rfl,aU r bg⟩
 |cons p fs m =>
  intro ws h;cases ws with
  |nil=>exact absurd h.1 (by simp)
  |cons q ws =>
   obtain⟨l,g⟩:=h;rw[zO,zO]at l g;injection l with h3 h4;simp only[O6]at g;obtain⟨u,o,n,k,j⟩:=g;injection n with h8 h9;subst h8;subst h9;obtain⟨a,b⟩:=p;obtain⟨c,d⟩:=q;dsimp only at h3 k;subst h3;have i:=m (ws:=ws) ⟨h4,j⟩;unfold jr d4;by_cases e:a=f
   ·rw[yH e,yH e]
    exact⟨by rw[zO,zO,h4],aU r j⟩
   ·rw[yG e,yG e]
    exact⟨by rw[zO,zO,i.1],aU k i.2⟩
def xK(c fl:Í)(h f:EF):SF:=fun sl st=>(f sl st).bind fun p=>(h sl p.2).bind fun q=>match q.1 with
 |.ref k=>(jR q.2 c (.ref k)).bind fun fs=>if ß fs.length 900=Â then À (.nx sl (q.2.set k (.ins c (jr fl p.1 fs)))) else Á
 |_=>Á
theorem F9[O2](T:QE X o h)(R:QE X e f')(cl:Cls X.K C)(A:X.mg c=À (.ref C))(O:NoAttr X.K C fl)(S:Ľ e (À (.Attribute o fl pos')) pos.line X.env=pure Ã):QS X (.Assign [.Attribute o fl pos'] e pos) (xK c fl h f') :=
 PS_imp (GG T R S) fun D J H l=>by
  obtain⟨P,I,x,L,k,s,out,Z,q⟩:=l;obtain⟨p,e1,e2⟩:=zA Z;obtain⟨r,e3,v⟩:=zA e2;split at v
  ·rename_i j V
   obtain⟨fs,e5,u⟩:=zA v;split at u
   ·rename_i U
    cases u;refine⟨P,I,x,L,k,s,p.1,p.2,e1,fun P1 g H1 K t N r1=>⟨P1,g,x,p.2,k.frm t,N,r.1,r.2,e3,fun P2 f H2 w2 n y r2=>?_⟩⟩;rw[V]at r2;obtain⟨j',a,d,w,i,Y,W,m,rfl,F,E,B⟩:=nY y e5 r2;cases Y;have:d=C:=by rw[show X.gm.mg c=X.mg c from rfl,A]at F;cases F;rfl
    subst this;have Q:i.length<1000:=by
     have z:=congrArg ő B.1;rw[zH,zH]at z
     have:=zS U
     lia
    obtain⟨G,M⟩:=iT (c:=.ins c (jr fl p.1 fs)) (o:=.ins d w (d4 fl K i)) y W m ⟨m,d,w,_,A,aD,(xS (r1.frm n) B).mono (fun b h=>⟨h,ad fun e=>m (e▸h)⟩) fun _ _ z=>z⟩ (fun _ _ z=>by rw[E]at z;cases z);exact⟨a,d,w,i,rfl,E,cl,O,Q,q P2 f _ J ((t.trans n).trans G) M (((k.frm t).frm n).frm G)⟩
   ·cases u
  ·cases v
end
open DD (obj_list obj_tup minL minL_eq cnt_vals)
abbrev BF:=List AV->aa->Option (AV×aa)
def rB[O2](mg:Gm)(k:BF):List V->Hp->VK->Prop:=fun vs H Q=>∃P φ st xs,Sim mg P φ st H/\O6 mg P H φ xs vs/\KG mg RA P φ H (k xs st) Q
def uf(k:BF)(g:AF):EF:=fun sl st=>(g sl st).bind fun p=>k p.1 p.2
theorem B5[O2](q:rE mg (uf k g) σ H Q):FD (rB mg k) (rA mg g) σ H Q:=by
 obtain⟨P,h,l,j,o,s,p⟩:=q;refine⟨P,h,l,j,o,s,?_⟩;obtain⟨a,f,u,q⟩:=p.bind (Ra:=O6);refine⟨a,f,u,fun w d x b t n r1=>?_⟩;obtain⟨v,c,e,i,y,m,r2,r⟩:=q w d x b t n r1;exact⟨v,c,e,i,m,r2,r⟩
def bY(h:aa->List AV->Option AV):BF:=fun xs st=>(h st xs).map fun z=>(z,st)
section
variable{X:Cx}{x:Í}{p pos:ė}{e o a:Î}{es:List Î}{g:AF}{k:BF}{bid T:String}
theorem oy[O2](h:c4 X (.builtin bid) (rB X.gm k))(f:Gl X x)(d:X.mg x=Á)(b:å x=À (.builtin bid))(i:QA X (e::es) g)(c:x≠"__name__")(a:(x==("__debug__":Í))=Ã)
  (he:Ê (e::es) X.env=(Ã,eval e X.env)::Ê es X.env) (hpl:(õ pos (Ê es X.env)).any (·.1)=Ã):QE X (.Call (.Name x p) (e::es) [] pos) (uf k g) :=
 PE_imp (Bq h f d b i c a he hpl) fun _ _ _ q=>B5 q
theorem Jq[O2](h:c4 X (.type T) (rB X.gm k))(f:Gl X x)(d:X.mg x=Á)(b:å x=À (.type T))(i:QA X (e::es) g)(c:x≠"__name__")(a:(x==("__debug__":Í))=Ã)
  (he:Ê (e::es) X.env=(Ã,eval e X.env)::Ê es X.env) (hpl:(õ pos (Ê es X.env)).any (·.1)=Ã):QE X (.Call (.Name x p) (e::es) [] pos) (uf k g) :=
 PE_imp (qy h f d b i c a he hpl) fun _ _ _ q=>B5 q
theorem O6.one{mg:Gm}{P:Pr}{H:Hp}{φ:List Ç}{x:AV}{vs:List V}(h:O6 mg P H φ [x] vs):∃v,vs=[v]/\RA mg P H φ x v:=by
 simp only[O6]at h;obtain⟨v,a,rfl,r,rfl⟩:=h;exact⟨v,rfl,r⟩
theorem O6.two{mg:Gm}{P:Pr}{H:Hp}{φ:List Ç}{x y:AV}{vs:List V}(h:O6 mg P H φ [x,y] vs):∃v w,vs=[v,w]/\RA mg P H φ x v/\RA mg P H φ y w:=by
 simp only[O6]at h;obtain⟨v,b,rfl,r,w,c,rfl,a,rfl⟩:=h;exact⟨v,w,rfl,r,a⟩
theorem pL(h:c4 X f r)(i:∀xs H Q,r' xs H Q->r xs H Q):c4 X f r':=fun e s a H xs b Q I c d=>h e s a H xs b Q I c (i xs H Q d)
def dj(st:aa):List AV->Option AV
 |[v]=>match b8 st v with
  |some xs=>À (.int xs.length)
  |none=>match jp st v with
   |some xs=>À (.int xs.length)
   |none=>match v with
    |.str x=>if cA x.length=Â then À (.int x.length) else Á
    |v=>match jE st v with
     |some O1=>À (.int O1.length)
     |none=>(ni st v).map fun O1=>.int O1.length
 |_=>Á
theorem xa:c4 X (.builtin "len") (fun xs H Q=>∃a O1,xs=[V.ref a]/\H a=À (.dK O1)/\Q (.int O1.length) H):=by
 intro k s i H xs j Q I r h;obtain⟨a,O1,rfl,f,q⟩:=h;obtain⟨u,rfl,d⟩:=eY r;cases d;obtain⟨z,hd,c,b,g⟩:=CW I.O8 f;have e:O1.length=c.length:=Paired.length b;have hz:Ì=16777216:=ϓ;exact call_len_dict hd g oM ⟨.int _,H,I.tok _,⟨_,by rw[e]⟩,q⟩
theorem Ky[O2]:c4 X (.builtin "len") (rB X.gm (bY dj)):=by
 rintro l s d H m f Q I g ⟨P,J,E,K,o,r,B⟩;obtain⟨z,e,k⟩:=B.map;clear B;unfold dj at e;split at e
 ·rename_i v
  obtain⟨w,F,A⟩:=r.one;clear r;subst F;have r:=A;clear A;have aw:∀n:Nat,z=.int n->Q (.int n) H:=fun n h=>by subst h;exact k.pure o (by simp only[RA])
  split at e
  ·rename_i D u
   cases e;obtain⟨a,m,rfl,y,b⟩:=r.ls o u;exact lT l s d H _ f Q I g ⟨a,m,rfl,.inl y,by rw[<- b.length];exact aw _ rfl⟩
  ·split at e
   ·rename_i D u
    cases e;obtain⟨a,m,rfl,y,b⟩:=r.tp o u;exact lT l s d H _ f Q I g ⟨a,m,rfl,.inr (.inl (.inl y)),by rw[<- b.length];exact aw _ rfl⟩
   ·cases v with
    |str x =>
     dsimp only at e;split at e
     ·rename_i hz
      cases e;simp only[RA]at r;subst r;exact tX l s d H _ f Q I g ⟨x,rfl,i6 hz,aw _ rfl⟩
     ·cases e
    |ref j =>
     simp only[RA]at r;obtain⟨a,G,rfl⟩:=r;dsimp only[jE,ni]at e;cases t:E[j]? with
     |none=>rw[t]at e;cases e
     |some c =>
      rw[t]at e;obtain⟨L,i,C⟩:=o.at t;rw[G]at i;cases i;cases c with
      |dK O1 =>
       cases e;obtain⟨_,p,b,q⟩:=C
       have:=congrArg ő q.1
       rw[zH,zH]at this;exact xa l s d H _ f Q I g ⟨a,p,rfl,b,by rw[<- this];exact aw _ rfl⟩
      |dT O1 =>
       cases e;obtain⟨_,p,b,q⟩:=C
       have:=congrArg ő q.1
       rw[zH,zH]at this;exact Ah l s d H _ f Q I g ⟨a,p,rfl,b,by rw[<- this];exact aw _ rfl⟩
      |_=>cases e
    |_=>cases e
 ·cases e
def hU:List AV->Option (List Int):=aQ fun x=>match x with
 |.int i=>À i
 |_=>Á
theorem qF(h:hU xs=À ns):xs=ns.map .int:=by
 unfold hU at h
 induction xs generalizing ns with
 |nil=>cases h;rfl
 |cons x xs b =>
  simp only [aQ] at h;obtain ⟨y,a,e⟩:=zA h;obtain ⟨f,d,c⟩:=zE.mp e;subst c;cases x <;> first | (cases a;done) | skip
  cases a;rw[b d];rfl
theorem BJ(ns:List Int):hU (ns.map .int)=À ns:=by
 have:=du (f:=fun x:AV=>match x with|.int i=>À i|_=>Á) (i:=AV.int) (g:=fun i=>i) (fun _=>rfl) ns
 unfold hU;simpa using this
def lsI(st:aa)(v:AV):Option (List Int):=(b8 st v).bind hU
theorem RA.lsI[O2]{mg:Gm}{P:Pr}{H:Hp}{φ:List Ç}{st:aa}{v:AV}{w:V}{ns:List Int}(s:Sim mg P φ st H)(r:RA mg P H φ v w)(h:R.lsI st v=À ns):∃a,w=.ref a/\bR mg.K H a (ns.map .int):=by
 obtain⟨f,e,d⟩:=zA h;obtain⟨a,g,rfl,b,c⟩:=r.ls s e
 have:=qF d
 subst this;rw[c.ints]at b;exact⟨a,rfl,b⟩
def rZ(st:aa):List AV->Option AV
 |[v]=>(lsI st v).map fun ns=>.int ns.sum
 |_=>Á
theorem Kv[O2](t:X.calm=Â):c4 X (.builtin "sum") (rB X.gm (bY rZ)):=by
 rintro K s C H D E Q I m ⟨P,B,G,xs,f,r,h⟩;obtain⟨z,e,k⟩:=h.map;clear h;unfold rZ at e;split at e
 ·rename_i v
  obtain⟨w,x,g⟩:=r.one;clear r;subst x;have r:=g;clear g;obtain⟨c,y,rfl⟩:=zE.mp e;obtain⟨a,rfl,A⟩:=r.lsI f y;obtain⟨u,rfl,n⟩:=eY m;cases n;obtain⟨d,o,p,_⟩:=I.list A;have j:ţ d c:=iQ o;obtain⟨b,i⟩:=j.allInts.items;refine sum_intListG (xs:=b) (I.ok.hd t) (by rw[<- i];exact p.isList) fun J F l q=>⟨.int c.sum,H,I.kept q,?_,k.pure f (by simp only[RA])⟩
  have:(preSum (A? b) b.size)=c.sum:=by
   rw[preSum_eq,ł (by simp),<- M?,<- i];rw[show d.toArray.toList=d from rfl,j.numsOf]
  rw[this];exact⟨l,rfl⟩
 ·cases e
def qk(_:aa):List AV->Option AV
 |[.int i]=>À (.int (if i<0 then -i else i))
 |_=>Á
theorem KA[O2]:c4 X (.builtin "abs") (rB X.gm (bY qk)):=pL B3 fun i H Q a=>by
 obtain⟨P,g,j,h,c,r,d⟩:=a;obtain⟨z,e,k⟩:=d.map;unfold qk at e;split at e
 ·cases e
  obtain⟨w,f,b⟩:=r.one;clear r;subst f;have r:=b;clear b;simp only[RA]at r;exact⟨_,by rw[r],k.pure c (by simp only[RA])⟩
 ·cases e
def wD(st:aa):List AV->Option AV
 |[.int i,.int j]=>À (.int (if j<i then j else i))
 |[v]=>(lsI st v).bind fun ns=>(minL ns).map .int
 |_=>Á
noncomputable def Hm:List Int->Option Int
 |[]=>Á
 |x::xs=>À (xs.foldl (fun a b=>if a<b then b else a) x)
theorem Mp:∀(xs:List Int)(x:Int),(xs.foldl (fun a b=>if a<b then b else a) x∈x::xs)/\∀a∈x::xs,a<=xs.foldl (fun a b=>if a<b then b else a) x:=by
 intro xs
 induction xs with
 |nil=>intro x;exact⟨by simp,by simp⟩
 |cons y xs f =>
  intro x;rw[â];obtain⟨g,e⟩:=f (if x<y then y else x);refine⟨?_,fun a c=>?_⟩
  ·rcases zT.mp g with h|h
   ·rw[h];split<;>simp
   ·exact zQ _ (zQ _ h)
  ·have d:=e _ z7
   rcases zT.mp c with rfl|c
   ·refine Ň ?_ d;split<;>lia
   ·rcases zT.mp c with rfl|c
    ·refine Ň ?_ d;split<;>lia
    ·exact e a (zQ _ c)
theorem EC{m x:Int}(h:Hm ns=À m)(d:x∈ns)(c:∀a∈ns,a<=x):x=m:=by
 cases ns with
 |nil=>cases h
 |cons y ns =>
  obtain⟨a,b⟩:=Mp ns y;have e:ns.foldl (fun a b=>if a<b then b else a) y=m:=by injection h
  rw[e]at a b
  have:=c m a
  have:=b x d
  lia
def pX(st:aa):List AV->Option AV
 |[.int i,.int j]=>À (.int (if j > i then j else i))
 |[v]=>(lsI st v).bind fun ns=>(Hm ns).map .int
 |_=>Á
theorem Kw[O2](C:X.calm=Â):c4 X (.builtin "min") (rB X.gm (bY wD)):=by
 rintro U s E H Y F Q I p ⟨P,V,st,xs,h,r,x⟩;obtain⟨z,e,k⟩:=x.map;clear x;unfold wD at e;split at e
 ·rename_i i j
  cases e;obtain⟨w,W,o,q,d⟩:=r.two;clear r;subst o;have r:=q;have g:=d;clear q d;simp only[RA]at r g;subst r;subst g;exact Af C U s E H _ F Q I p ⟨i,j,rfl,k.pure h (by simp only[RA])⟩
 ·rename_i v
  obtain⟨w,o,d⟩:=r.one;clear r;subst o;have r:=d;clear d;obtain⟨f,R,O⟩:=zA e;obtain⟨m,A,rfl⟩:=zE.mp O;obtain⟨a,rfl,S⟩:=r.lsI h R;obtain⟨u,rfl,G⟩:=eY p;cases G;obtain⟨T,g,J,_⟩:=I.list S;have B:ţ T f:=iQ g;obtain⟨c,y⟩:=B.allInts.items;have b:f=c.toList.map (·.1):=by rw[<- B.numsOf,<- M?,<- y]
  have l:0<c.size:=by
   cases f with
   |nil=>cases A
   |cons n f =>
    have:(n::f).length=c.size:=by rw[b,zH,ñ]
    simp at this;lia
  refine min_intList (xs:=c) (I.ok.hd C) (by rw[<- y];exact J.isList) l fun v h' Z K L=>?_
  obtain⟨t,rfl⟩:=intItems_at K;obtain⟨h1,N⟩:=argBest_lt (A? c) (c.size-1);refine⟨.int m,H,I.kept L,?_,k.pure h (by simp only[RA])⟩;have e:A? c (argBest (fun i j=>decide (A? c i<A? c j)) (c.size-1))=m:=by
   refine minL_eq A ?_ fun a D=>?_
   ·rw[b,U4];exact getD_mem (by rw[zH,ñ];lia)
   ·rw[b]at D
    obtain⟨j,M,rfl⟩:=mem_getD D;rw[zH,ñ]at M;rw[<- U4];exact N j oM
  exact⟨t,by rw[e]⟩
 ·cases e
theorem Kx[O2](C:X.calm=Â):c4 X (.builtin "max") (rB X.gm (bY pX)):=by
 rintro U s E H Y F Q I p ⟨P,V,st,xs,h,r,x⟩;obtain⟨z,e,k⟩:=x.map;clear x;unfold pX at e;split at e
 ·rename_i i j
  cases e;obtain⟨w,W,o,q,d⟩:=r.two;clear r;subst o;have r:=q;have g:=d;clear q d;simp only[RA]at r g;subst r;subst g;exact Ag C U s E H _ F Q I p ⟨i,j,rfl,k.pure h (by simp only[RA])⟩
 ·rename_i v
  obtain⟨w,o,d⟩:=r.one;clear r;subst o;have r:=d;clear d;obtain⟨f,R,O⟩:=zA e;obtain⟨m,A,rfl⟩:=zE.mp O;obtain⟨a,rfl,S⟩:=r.lsI h R;obtain⟨u,rfl,G⟩:=eY p;cases G;obtain⟨T,g,J,_⟩:=I.list S;have B:ţ T f:=iQ g;obtain⟨c,y⟩:=B.allInts.items;have b:f=c.toList.map (·.1):=by rw[<- B.numsOf,<- M?,<- y]
  have l:0<c.size:=by
   cases f with
   |nil=>cases A
   |cons n f =>
    have:(n::f).length=c.size:=by rw[b,zH,ñ]
    simp at this;lia
  refine max_intList (xs:=c) (I.ok.hd C) (by rw[<- y];exact J.isList) l fun v h' Z K L=>?_
  obtain⟨t,rfl⟩:=intItems_at K;obtain⟨h1,N⟩:=argBest_gt (A? c) (c.size-1);refine⟨.int m,H,I.kept L,?_,k.pure h (by simp only[RA])⟩;have e:A? c (argBest (fun i j=>decide (A? c i > A? c j)) (c.size-1))=m:=by
   refine EC A ?_ fun a D=>?_
   ·rw[b,U4];exact getD_mem (by rw[zH,ñ];lia)
   ·rw[b]at D
    obtain⟨j,M,rfl⟩:=mem_getD D;rw[zH,ñ]at M;rw[<- U4];exact N j oM
  exact⟨t,by rw[e]⟩
 ·cases e
def p4(_:aa):List AV->Option AV
 |[.int i]=>À (.int i)
 |[.bl b]=>À (.int (if b then 1 else 0))
 |_=>Á
theorem Kz[O2]:c4 X (.type "int") (rB X.gm (bY p4)):=pL Ai fun i H Q b=>by
 obtain⟨P,g,j,h,d,r,f⟩:=b;obtain⟨z,e,k⟩:=f.map;unfold p4 at e;split at e
 ·cases e
  obtain⟨w,c,a⟩:=r.one;clear r;subst c;have r:=a;clear a;simp only[RA]at r;exact .inl ⟨_,by rw[r],k.pure d (by simp only[RA])⟩
 ·cases e
  obtain⟨w,c,a⟩:=r.one;clear r;subst c;have r:=a;clear a;simp only[RA]at r;exact .inr ⟨_,by rw[r],k.pure d (by simp only[RA])⟩
 ·cases e
end
open DD (reads_each)
abbrev MF:=AV->List AV->aa->Option (AV×aa)
def rM[O2](mg:Gm)(k:MF):V->List V->Hp->VK->Prop:=fun x vs H Q=>∃P φ st a xs,Sim mg P φ st H/\RA mg P H φ a x/\O6 mg P H φ xs vs/\KG mg RA P φ H (k a xs st) Q
def qt(T:String)(st:aa)(v:AV):Bool:=match v with
 |.str _=>T=="str"
 |.int _=>T=="int"
 |v=>if T="list" then(b8 st v).isSome else if T="dict" then(jE st v).isSome||(ni st v).isSome else Ã
def lX(T:String)(k:MF)(f:EF)(g:AF):EF:=fun sl st=>(f sl st).bind fun p=>if qt T p.2 p.1=Â then(g sl p.2).bind fun q=>k p.1 q.1 q.2 else Á
section
variable{X:Cx}{e o:Î}{es:List Î}{f:EF}{g:AF}{k:MF}{name:Í}{apos cpos:ė}{T mid:String}
theorem Dl[O2]{P:Pr}{φ:List Ç}{st:aa}{H:Hp}{v:AV}{w:V}(s:Sim X.gm P φ st H)(r:RA X.gm P H φ v w)(h:qt T st v=Â):xt X.K T w H:=by
 have k:(if T="list" then(b8 st v).isSome else if T="dict" then(jE st v).isSome||(ni st v).isSome else Ã)=Â->xt X.K T w H:=fun h=>by
  split at h
  ·rename_i d
   obtain⟨p,e⟩:=Ĵ.mp h;obtain⟨a,m,rfl,o,_⟩:=r.ls s e;exact .inl ⟨d,m,o⟩
  ·split at h
   ·rename_i d
    cases v with
    |ref j =>
     simp only[RA]at r;obtain⟨a,n,rfl⟩:=r;simp only[jE,ni]at h;cases i:st[j]? with
     |none=>rw[i]at h;simp at h
     |some c =>
      rw[i]at h;obtain⟨q,b,l⟩:=s.at i;rw[n]at b;cases b;cases c with
      |dK O1=>obtain⟨_,f,g,_⟩:=l;exact .inr (.inr (.inl ⟨d,.inl ⟨f,g⟩⟩))
      |dT O1=>obtain⟨_,f,g,_⟩:=l;exact .inr (.inr (.inl ⟨d,.inr ⟨f,g⟩⟩))
      |_=>simp at h
    |_=>simp[jE,ni]at h
   ·cases h
 unfold qt at h;cases v with
 |str x=>simp only[RA]at r;subst r;exact yJ h
 |int x=>simp only[RA]at r;subst r;exact yJ h
 |_=>exact k h
theorem Hc[O2](q:rE X.gm (lX T k f g) σ H Q):K3 X.K T (rM X.gm k) (rE X.gm f) (rA X.gm g) σ H Q:=by
 obtain⟨P,n,h,t,j,s,v,d,ev,z⟩:=q;obtain⟨p,E,e⟩:=zA ev;split at e
 ·rename_i A
  obtain⟨r,D,C⟩:=zA e;exact⟨P,n,h,t,j,s,p.1,p.2,E,fun I c M w m i r1=>⟨Dl i r1 A,I,c,h,p.2,j.frm m,i,r.1,r.2,D,fun G b L K l x r2=>⟨G,b,r.2,p.1,r.1,x,r1.frm l,r2,v,d,C,fun F a J o B u y=>z F a J o ((m.trans l).trans B) u y⟩⟩⟩
 ·cases e
theorem ox[O2](j:D! T)(d:Slot T name mid)(i:typeOf (.builtin mid)=pure (.type "method_descriptor"))(n:lZ X mid (rM X.gm k))(m:QE X o f)(p:QA X (e::es) g)
  (c:Ė o name X.env (eval o X.env)=eval o X.env)
  (h:((õ cpos (Ê (e::es) X.env)).all (fun x=>!x.1)&&(ō cpos (đ [] X.env)).all (fun x=>x.1.isSome)
   && decide ((e::es).length+([]:List Ŏ).length+(if([]:List Ŏ).isEmpty then 0 else 1)<30))=Â)
  (b:(apos.endLine==cpos.line)=Â) (l:Ê (e::es) X.env=(Ã,eval e X.env)::Ê es X.env) (a:(õ cpos (Ê es X.env)).any (·.1)=Ã) :
  QE X (.Call (.Attribute o name apos) (e::es) [] cpos) (lX T k f g):=PE_imp (JH j d i n m p c h b l a) fun _ _ _ q=>Hc q
theorem lB[O2](z:D! T)(c:Slot T name mid)(h:typeOf (.builtin mid)=pure (.type "method_descriptor"))(D:lZ X mid (rM X.gm k))(C:QE X o f)
  (b:Ė o name X.env (eval o X.env)=eval o X.env) (a:(apos.endLine==cpos.line)=Â):QE X (.Call (.Attribute o name apos) [] [] cpos) (lX T k f eF) :=
 PE_imp (GY z c h D C b a) fun K H Q q=>by
  obtain⟨P,j,r,n,y,s,v,g,ev,A⟩:=Hc q;refine⟨P,j,r,n,y,s,v,g,ev,fun J e i w F u r1=>?_⟩;obtain⟨E,I,d,p,m,x,t,L,l,G,B⟩:=A J e i w F u r1;cases G;exact⟨E,B I d i [] Frm.refl t bg⟩
theorem kR(h:lZ X mid r)(i:∀x xs H Q,r' x xs H Q->r x xs H Q):lZ X mid r':=fun e s a H x xs v b Q I rx c d=>h e s a H x xs v b Q I rx c (i x xs H Q d)
def gC(st:aa):AV->Option (Nat×List AV)
 |.ref k=>match st[k]? with
  |some (.lst xs)=>À (k,xs)
  |_=>Á
 |_=>Á
theorem jF[O2]{mg:Gm}{P:Pr}{φ:List Ç}{st:aa}{H:Hp}{v:AV}{w:V}{j:Nat}{xs:List AV}(s:Sim mg P φ st H)(r:RA mg P H φ v w)(h:gC st v=À (j,xs)):∃a vs,w=.ref a/\φ[j]?=À a/\¬P a/\H a=À (.lst vs)/\O6 mg P H φ xs vs:=by
 cases v with
 |ref i =>
  simp only[gC]at h;split at h
  ·rename_i k e
   cases h;simp only[RA]at r;obtain⟨a,c,rfl⟩:=r;obtain⟨l,b,d,vs,g,f⟩:=s.at e;rw[c]at b;cases b;exact⟨a,vs,rfl,c,d,g,f⟩
  ·cases h
 |_=>cases h
theorem mf[O2]{mg:Gm}{P:Pr}{φ:List Ç}{st:aa}{H:Hp}{j:Nat}{a:Ç}{ys:List AV}{us:List V}(s:Sim mg P φ st H)(k:φ[j]?=À a)(d:¬P a)(g:∃vs,H a=À (.lst vs))(r:O6 mg P H φ ys us) :
  Frm P φ H P φ (ah H a (.lst us))/\Sim mg P φ (st.set j (.lst ys)) (ah H a (.lst us))/\∀{t:AV}{w:V},RA mg P H φ t w->RA mg P (ah H a (.lst us)) φ t w:=by
 have ex:∀b,P b->P b/\ah H a (.lst us) b=H b:=fun b h=>⟨h,ad fun e=>d (e▸h)⟩
 obtain⟨i,f⟩:=iT (c:=.lst ys) (o:=.lst us) s k d ⟨d,us,aD,r.mono ex fun _ _ z=>z⟩ (fun _ _ z=>by obtain⟨vs,q⟩:=g;rw[q]at z;cases z);exact⟨i,f,fun h=>h.mono ex fun _ _ z=>z⟩
def sR:MF:=fun x xs st=>match xs with
 |[y]=>(gC st x).bind fun c=>if cA c.2.length=Â then À (.non,st.set c.1 (.lst (c.2++[y]))) else Á
 |_=>Á
theorem Jb{n:Nat}(h:cA n=Â):n<Ì:=yL (zS h) dC
theorem CG[O2]:lZ X "list.append" (rM X.gm sR):=kR qz fun x z H Q d=>by
 obtain⟨P,i,A,a,u,s,r,m,v,k,e,o⟩:=d;unfold sR at e;split at e
 ·rename_i y
  obtain⟨c,t,f⟩:=zA e;split at f
  ·rename_i hz
   cases f;obtain⟨b,j,rfl,q,n,h,g⟩:=jF s r t;obtain⟨w,rfl,r1⟩:=m.one;obtain⟨p,l,_⟩:=mf s q n ⟨_,h⟩ (g.app (aU r1 bg));exact⟨b,j,w,rfl,rfl,h,by rw[<- g.length];exact Jb hz,o P i _ _ p l (by simp only[RA])⟩
  ·cases f
 ·cases e
def wI:MF:=fun x xs st=>match xs with
 |[]=>(gC st x).bind fun c=>(c.2[c.2.length-1]?).map fun y=>(y,st.set c.1 (.lst c.2.dropLast))
 |_=>Á
theorem O6.dropLast(h:O6 mg P H φ xs vs):O6 mg P H φ xs.dropLast vs.dropLast:=by
 rw[H?,H?,h.length];exact h.take _
theorem CC[O2]:lZ X "list.pop" (rM X.gm wI):=kR He fun x E H Q d=>by
 obtain⟨P,i,F,a,D,s,r,g,v,k,e,p⟩:=d;unfold wI at e;split at e
 ·obtain⟨c,C,B⟩:=zA e
  obtain⟨y,A,z⟩:=zE.mp B;cases z;obtain⟨b,j,rfl,t,n,h,f⟩:=jF s r C;simp only[O6]at g;obtain⟨w,u,m⟩:=f.get A;obtain⟨q,l,o⟩:=mf s t n ⟨_,h⟩ f.dropLast;exact⟨b,j,w,rfl,g,h,by rw[<- f.length];exact u,p P i _ _ q l (o m)⟩
 ·cases e
theorem O6.erase:∀{xs:List AV}{vs:List V} (n:Nat),O6 mg P H φ xs vs->O6 mg P H φ (xs.eraseIdx n) (vs.eraseIdx n)
 |[],_,_,h=>by simp only[O6]at h;subst h;exact bg
 |x::xs,_,n,h=>by
  simp only[O6]at h;obtain⟨v,ws,rfl,r,q⟩:=h;cases n with
  |zero=>exact q
  |succ n=>exact aU r (O6.erase n q)
def wJ:MF:=fun x xs st=>match xs with
 |[y]=>(gC st x).bind fun c=>(b8 st y).bind fun ys=>if cA (c.2.length+ys.length)=Â then À (.non,st.set c.1 (.lst (c.2++ys))) else Á
 |_=>Á
theorem CD[O2]:lZ X "list.extend" (rM X.gm wJ):=kR EB fun x G H Q f=>by
 obtain⟨P,k,I,a,F,s,r,o,v,m,e,q⟩:=f;unfold wJ at e;split at e
 ·rename_i y
  obtain⟨c,B,A⟩:=zA e;obtain⟨E,z,g⟩:=zA A;split at g
  ·rename_i hz
   cases g;obtain⟨b,l,rfl,u,p,j,i⟩:=jF s r B;obtain⟨w,rfl,r1⟩:=o.one;obtain⟨D,d,rfl,C,h⟩:=r1.ls s z;obtain⟨t,n,_⟩:=mf s u p ⟨_,j⟩ (i.app h);exact⟨b,D,l,d,rfl,rfl,j,C,by rw[<- i.length,<- h.length];exact i6 hz,q P k _ _ t n (by simp only[RA])⟩
  ·cases g
 ·cases e
def BA:MF:=fun x xs st=>match xs with
 |[y]=>(cp 9 st x).bind fun p=>(cp 9 st y).bind fun q=>match p with
  |.list ps=>if(ps.all fun r=>pyOk r q)=Â then À (.int ((ps.countP fun r=>Õ r q:Nat):Int),st) else Á
  |_=>Á
 |_=>Á
theorem CF[O2](hu:X.A.units+64<ř):lZ X "list.count" (rM X.gm BA):=by
 rintro O0 s σ H x vs v us Q I rx l ⟨P,E,st,a,F,k,r,K,z,G,e,T⟩;unfold BA at e;split at e
 ·rename_i y
  obtain⟨p,Z,Y⟩:=zA e;obtain⟨q,W,g⟩:=zA Y;split at g
  ·rename_i ps
   split at g
   ·rename_i O8
    cases g;obtain⟨w,rfl,r1⟩:=K.one;obtain⟨u,rfl,J⟩:=l.one;obtain⟨b,M⟩:=ik I k 9 _ _ _ _ r Z rx;obtain⟨bs,L⟩:=ik I k 9 _ _ _ _ r1 W J;cases M with
    |@list a o items n F i hg j hdt rall =>
     obtain⟨S,A,R,t⟩:=o;dsimp only at j hdt;subst j;subst hdt
     classical
     have C:∀z f c,Ų s.heap z f c->decide (∃p b,Ų s.heap z p b/\Õ p q=Â)=Õ f q:=by
      intro z f c d;rcases he:Õ f q with _|_
      ·refine z9 ?_
       rintro⟨O,i,N,D⟩
       have:=(h! d O i N).1
       rw[<- this,he]at D;cases D
      ·exact yV ⟨f,c,d,he⟩
     refine Ŗ š ⟨_,hg,rfl⟩ PySem.F.entry_list_count (PySem.F.args_list_count_2 _ _) (PySem.SeqAt.list_countAt a items n A t u (fun z=>decide (∃p b,Ų s.heap z p b/\Õ p q=Â))) ⟨hg,?_,?_⟩
     ·intro z hz
      obtain⟨m,c,B,d⟩:=reads_each rall z (by simpa using hz);obtain⟨V,U,k3⟩:=pU (yQ.mp O8 m B);rw[C z m c d];exact ϰ m q _ s z u c bs d L V U (by simp only[Around.in1_units];lia)
     ·have j:=cnt_vals (q:=q) (e:=fun z=>decide (∃p b,Ų s.heap z p b/\Õ p q=Â)) (h:=s.heap) (vs:=items.toList) (ps:=ps) (fun v p b l=>C v p b l) rall
      rw[j];exact⟨.int _,H,I.kept (fun _ _ e=>e),⟨_,rfl⟩,T P E H _ Frm.refl k (by simp only[RA])⟩
   ·cases g
  ·cases g
 ·cases e
def LC(t:Bool):EF:=fun _ st=>À (.ref st.length,st++[if t=Â then .dT [] else .dK []])
theorem DV[O2](h:PE X (.Dict [] [] pos) xH):QE X (.Dict [] [] pos) (LC Ã):=PE_imp h fun k H Q a=>by
 obtain⟨P,j,m,l,n,s,v,b,e,g⟩:=a;cases e;intro d hd;obtain⟨i,f⟩:=nR (c:=.dK []) (o:=.dK []) s hd ⟨fun z=>s.dom d z hd,[],aD,rfl,bg⟩;refine g P _ _ _ i f ?_;simp only[RA];exact⟨d,by rw[<- s.len];simp,rfl⟩
end
theorem tZ:å "min"=À (.builtin "min"):=by decide +kernel
def Bx(ns:List Int):AV:=match minL ns with
 |some m=>.int m
 |none=>.non
def oJ(st:aa):List AV->Option AV
 |[v]=>(lsI st v).map Bx
 |_=>Á
theorem Hi(a:Å):C! "min" ⟨[a],[(ÿ "default",.none)]⟩:=by unfold C!;kernel_rfl
theorem Hh(a v:Å):C! "min" ⟨[a],[(ÿ "key",v),(ÿ "default",.none)]⟩:=by unfold C!;kernel_rfl
theorem Hj{α:Type}{l:List α}{x:α}(h:x∈l):∃i:Nat,l[i]?=À x:=z8 h
section
variable{X:Cx}{a:Î}{f:EF}{p pos kp pc:ė}{j:Nat}
theorem DT[O2](N:X.calm=Â)(M:Gl X "min")(K:X.mg "min"=Á)(O:QE X a f)(q:Ê [a] X.env=[(Ã,eval a X.env)]) :
  QE X (.Call (.Name "min" p) [a] [⟨À "default",.Constant .none j pc,kp⟩] pos) (uf (bY oJ) (dN f eF)):=by
 intro T s D H Q I h;have t:=B5 h;refine ö (dB I M K tZ (callWith_kw (ar ((cQ O eM (by rw[q];rfl)) pos T s D H _ I t) fun us s1 ⟨Z,V,U,r1,F⟩=>?_) (by rw[q];rfl) (by rw[q];rfl) (by rfl) (by rfl)));refine kws_cons (P8 (kws_nil ?_));obtain⟨P,W,st,Y,o,r,G⟩:=F;obtain⟨z,e,k⟩:=G.map;unfold oJ at e;split at e
 ·rename_i v
  obtain⟨w,rfl,E⟩:=r.one;obtain⟨ns,S,C⟩:=zE.mp e;obtain⟨l,rfl,L⟩:=E.lsI o S;obtain⟨u,rfl,A⟩:=eY r1;cases A;refine sM (ko:=Á) (ns:=ns) (I.ok.hd N) (fun i=>ns.getD i 0) (fun _ H=>H=V) (fun i H e=>by rw[e];exact L) rfl (Hi _) (fun i n u pl s H c A y I=>.inl ⟨rfl,by simp[c],y⟩) (fun i n H c d y=>?_) (fun c=>?_) U rfl
  ·subst y
   have:minL ns=À n:=by
    cases B:minL ns with
    |none =>
     cases ns with
     |nil=>simp at c
     |cons _ _=>cases B
    |some m =>
     rw[minL_eq B (zW c) fun b t=>?_];obtain⟨J,g⟩:=Hj t;have R:=(d J (zB.mp g).1).1;simpa [c,g] using R
   have x:z=.int n:=by rw[<- C];unfold Bx;rw[this]
   subst x;exact k.pure o (by simp only[RA])
  ·subst c
   have x:z=.non:=by rw[<- C];rfl
   subst x;exact k.pure o (by simp only[RA])
 ·cases e
end
def za(key:EF)(sl:Sl)(st:aa)(n:Int):Option Int:=match key (sl++[À (.int n)]) st with
 |some (.int k,_)=>À k
 |_=>Á
noncomputable def lW:Int->Int->List (Int×Int)->Int
 |n,_,[]=>n
 |n,k,(m,j)::r=>if j<k then lW m j r else lW n k r
def qj:List (Int×Int)->AV
 |[]=>.non
 |(n,k)::r=>.int (lW n k r)
def rP(f key:EF):EF:=fun sl st=>(f sl st).bind fun p=>(lsI p.2 p.1).bind fun ns=>(aQ (za key sl p.2) ns).map fun ks=>(qj (ns.zip ks),p.2)
def Da(f:EF):Prop:=∀sl st v st',f sl st=À (v,st')->st'=st
theorem mL:∀(r:List (Int×Int))(n k:Int),∃(i:Nat)(κ:Int),((n,k)::r)[i]?=À (lW n k r,κ)/\∀(j:Nat) q,((n,k)::r)[j]?=À q->κ<=q.2/\(j<i->κ<q.2)
 |[],n,k=>⟨0,k,rfl,fun j q e=>by
   cases j with
   |zero=>cases e;exact⟨ϵ _,fun h=>absurd h (y0 _)⟩
   |succ j=>simp at e⟩
 |(m,j0)::r,n,k=>by
  by_cases hb:j0<k
  ·obtain⟨i,κ,e1,e2⟩:=mL r m j0
   refine⟨i+1,κ,by rw[ē];simpa [lW,hb] using e1,fun j q e=>?_⟩;cases j with
   |zero =>
    cases e
    have:=(e2 0 (m,j0) rfl).1
    exact⟨by show κ<=k;lia,fun _=>by show κ<k;lia⟩
   |succ j =>
    rw[ē]at e;exact⟨(e2 j q e).1,fun h=>(e2 j q e).2 oM⟩
  ·obtain⟨i,κ,e1,e2⟩:=mL r n k
   have b:lW n k ((m,j0)::r)=lW n k r:=by simp[lW,hb]
   have a:=(e2 0 (n,k) rfl).1;refine⟨if i=0 then 0 else i+1,κ,?_,fun j q e=>?_⟩
   ·rw[b]
    cases i with
    |zero=>simpa using e1
    |succ i=>simpa using e1
   ·cases j with
    |zero =>
     cases e;refine⟨a,fun h=>?_⟩;cases i with
     |zero=>simp at h
     |succ i=>exact(e2 0 (n,k) rfl).2 (D? i)
    |succ j =>
     rw[ē]at e;cases j with
     |zero =>
      cases e;refine⟨by show κ<=j0;lia,fun h=>?_⟩;cases i with
      |zero=>simp at h
      |succ i =>
       have:=(e2 0 (n,k) rfl).2 (D? i)
       show κ<j0;have:κ<k:=this;lia
     |succ j =>
      rw[ē]at e
      have:=e2 (j+1) q (by rw[ē];exact e)
      refine⟨this.1,fun h=>this.2 ?_⟩;cases i with
      |zero=>simp at h
      |succ i=>simp at h;lia
theorem EZ{ns ks:List Int}{i:Nat}{n:Int}(x:ns.length=ks.length)(f:ns[i]?=À n)(w:∀j,j<ns.length->ks.getD i 0<=ks.getD j 0/\(j<i->ks.getD i 0<ks.getD j 0)):qj (ns.zip ks)=.int n:=by
 have y:i<ns.length:=(zB.mp f).1;obtain⟨k,o⟩:∃k,ks[i]?=À k:=⟨_,zF oM⟩;have hz:(ns.zip ks)[i]?=À (n,k):=by rw[ş];exact⟨f,o⟩
 have hd:ks.getD i 0=k:=by simp[o]
 cases e:ns.zip ks with
 |nil=>rw[e]at hz;simp at hz
 |cons q r =>
  obtain⟨t,v⟩:=q;obtain⟨a,c,s,p⟩:=mL r t v;rw[<- e]at s p;have b:=ş.mp s;have g:a<ns.length:=(zB.mp b.1).1;have l:ks.getD a 0=c:=by simp[b.2]
  have m:=w a g;have m2:=p i (n,k) hz;rw[hd,l]at m;have u:c<=k:=m2.1;have d:i<a->c<k:=m2.2;have:i=a:=by
   rcases Nat.lt_trichotomy i a with h|h|h
   ·have:=d h;lia
   ·exact h
   ·have:=m.2 h;lia
  subst this;rw[f]at b
  have:=b.1
  simp only[qj];cases this;rfl
theorem sO{α a:Type}{f:α->Option a}:∀{l:List α}{r:List a},aQ f l=À r->l.length=r.length/\∀(i:Nat) x,l[i]?=À x->∃y,r[i]?=À y/\f x=À y
 |[],r,h=>by cases h;exact⟨rfl,fun i x e=>by simp at e⟩
 |x::l,r,h=>by
  simp only[aQ]at h;obtain⟨y,e1,e2⟩:=zA h;obtain⟨j,g,d⟩:=zE.mp e2;subst d;obtain⟨c,b⟩:=sO g;refine⟨by simp[c],fun i z e=>?_⟩;cases i with
  |zero=>cases e;exact⟨y,rfl,e1⟩
  |succ i=>exact b i z (by simpa using e)
section
variable{X:Cx}{a body:Î}{f key:EF}{p pos kp lp kp2 pc:ė}{j:Nat}{params:ϡ}{scope:ĝ}{N':List Í}{x:Í}{c P:Ç}
theorem Pa.snoc[O2]{mg:Gm}{P:Pr}{H:Hp}{φ:List Ç}{sl:Sl}{σ:St}{v:AV}{w:V}(h:Pa mg P H φ sl σ)(r:RA mg P H φ v w):Pa mg P H φ (sl++[À v]) (σ++[À w]):=by
 refine⟨by rw[zV,zV,h.1];rfl,fun i u e=>?_⟩;rcases yT i sl.length with a|a
 ·rw[zN a]at e
  rw[zN (by rw[<- h.1];exact a)];exact h.2 i u e
 ·rw[z6 a]at e
  rw[z6 (by rw[<- h.1];exact a),<- h.1];cases b:i-sl.length with
  |zero=>rw[b]at e;cases e;exact⟨w,rfl,r⟩
  |succ m=>rw[b]at e;simp at e
theorem DS[O2](hc:X.calm=Â)(hg:Gl X "min")(hm:X.mg "min"=Á)(ha:QE X a f)(hs:Ê [a] X.env=[(Ã,eval a X.env)])(hdef:W7 params X.env=([],[]))(hcode:X.env.code=.ref c)(C:X1 X.base c P)(B:jN X.mg X.base)
  (ht:(P,lp,X.env.qual++"<lambda>")∈O2.tb) (T:xm X N' scope x) (hp:plainA params=Â) (hps:params.args.map (·.arg)=[x]) (hd:X.A.in1.depth<ϔ) (pu:Da key)
  (he:∀cl f c' s H,QE (tQ X N' scope cl f (X.env.qual++"<lambda>") (.ref c') X.A.in1 s H) body key)
  (hdj:∀t∈O2.tb,t.1=P->t=(P,lp,X.env.qual++"<lambda>")) :
  QE X (.Call (.Name "min" p) [a] [⟨À "key",.Lambda params body scope lp,kp⟩,⟨À "default",.Constant .none j pc,kp2⟩] pos) (rP f key):=by
 rintro O0 s σ H Q I ⟨Pr0,φ,sl,st,rs,sm,v,st',ev,k⟩;obtain⟨J,e1,e2⟩:=zA ev;obtain⟨ns,e3,e4⟩:=zA e2;obtain⟨ks,e5,e6⟩:=zE.mp e4;cases e6;have hra:rA X.gm (dN f eF) σ H (fun vs G=>∃A d w,vs=[w]/\Frm Pr0 φ H A d G/\Sim X.gm A d J.2 G/\RA X.gm A G d J.1 w) :=
  xO rs sm ⟨J.1,J.2,e1,fun A d G w f1 s1 r1=>⟨A,d,w,rfl,f1,s1,r1⟩⟩
 refine ö (dB I hg hm tZ (callWith_kw (ar ((cQ ha eM (by rw[hs];rfl)) pos O0 s σ H _ I hra) fun us s1 ⟨vs,G,I1,r1,A,d,w,ew,f1,m,V⟩=>?_) (by rw[hs];rfl) (by rw[hs];rfl) (by rfl) (by rfl)));subst ew;obtain⟨l,rfl,hl0⟩:=V.lsI m e3;obtain⟨u,rfl,ru⟩:=eY r1;cases ru;obtain⟨cl,hcl,hcl1,hcl2⟩:=kM (scope:=scope) (env:=X.env) (fun y hy=>by
  rcases T.cy.free y hy with h|h
  ·exact I1.ok.has y (.inl h)
  ·exact I1.ok.has y (.inr h))
 refine kws_cons (BE I1 hdef hcode C B hcl (m.tb _ ht).1 fun q c' ctv S s2 hH2 Fv hx2 I2=>kws_cons (P8 (kws_nil ?_)))
 have fs:Frm A d G A d S/\Sim X.gm A d J.2 S:=by
  rcases hH2 with rfl|⟨ps,K,hP,hn,hne,rfl⟩
  ·exact⟨Frm.refl,m⟩
  ·have nP:∀b,A b->b≠P:=fun b h e=>(m.tb _ ht).2 (by rw[<- e];exact h)
   have N:∀b,G b≠Á->b≠c':=fun b h e=>h (by rw[e];exact hn)
   have M:∀b∈d,b≠P:=fun b h e=>m.tnc ht (by rw[<- e];exact h)
   have R:∀b,b≠P->b≠c'->ah (ah G P (.tbl (ps++K))) c' (gB c' (X.env.qual++"<lambda>")) b=G b:=fun b h1 h2=>by rw[ad h2,ad h1]
   have ex:∀b,A b->A b/\ah (ah G P (.tbl (ps++K))) c' (gB c' (X.env.qual++"<lambda>")) b=G b:=fun b h=>⟨h,R b (nP b h) (N b (m.dom b h))⟩
   refine⟨⟨ex,⟨[],by simp,by simp⟩,fun b h _ z=>R b (fun e=>z ps (by rw[e];exact hP)) (N b h),fun b h=>.inl h,fun b h=>?_,fun b o u h=>?_⟩,m.stay ex (fun b h=>R b (M b h) (N b (m.cd b h))) (fun _ _ h=>h) (fun b h=>by rw[(ex b h).2];exact m.dom b h) fun t O=>⟨?_,(m.tb t O).2⟩⟩
   ·by_cases e:b=P
    ·subst e;rw[ad hne,aD];exact fun z=>nomatch z
    ·rw[R b e (N b h)];exact h
   ·rw[R b (fun e=>by rw[e,hP]at h;cases h) (N b (by rw[h];exact fun z=>nomatch z))];exact h
   ·by_cases e:t.1=P
    ·rw[hdj t O e];exact Fv
    ·obtain⟨qs,g1,g2,g3⟩:=(m.tb t O).1
     refine⟨qs,by rw[R t.1 e (N _ (by rw[g1];exact fun z=>nomatch z))];exact g1,g2,?_⟩;rcases g3 with g3|⟨c2,g4,g5⟩
     ·exact .inl g3
     ·exact .inr ⟨c2,g4,by rw[R c2 (fun z=>by rw[z,hP]at g5;cases g5) (N _ (by rw[g5];exact fun z=>nomatch z))];exact g5⟩
 obtain⟨Z,hget⟩:=sO e5;have aw:∀F,(∃D g,Frm A d S D g F/\Sim X.gm D g J.2 F)->∀z,qj (ns.zip ks)=z->∀w,(∀D g,RA X.gm D F g z w)->Q w F:=fun F hq0 z hz w r=>by
  obtain⟨D,g,f',s'⟩:=hq0;rw[hz]at k;exact k D g F w ((f1.trans fs.1).trans f') s' (r D g)
 have hmc:=sM (X:=X) (O0:=O0++[(q,wP X.mg (X.env.qual++"<lambda>") params body scope cl (.ref c') ctv)]) (σ:=σ) (ko:=À (.ref q)) (kws:=[(ÿ "key",.ref q),(ÿ "default",.none)]) (l:=l) (ns:=ns) (H:=S) (s:=s2) (Q:=Q) (E:=X.xe)
  (I.ok.hd hc) (fun i=>ks.getD i 0) (fun _ F=>∃D g,Frm A d S D g F/\Sim X.gm D g J.2 F) (fun i F ⟨D,g,f',s'⟩=>?_) rfl (Hh _ _) (fun i n u pl s3 H3 en ru ⟨P3,U,f3,s3'⟩ I3=>.inr ⟨q,rfl,?_⟩) (fun i n F en Y hJ=>?_) (fun en=>?_) I2 ⟨A,d,Frm.refl,fs.2⟩
 ·exact ar hmc fun u s9 ⟨v9,H9,I9,r9,q9⟩=>⟨v9,H9,I9.pins_of fun p hp=>I9.pin p (zK _ (zL _ hp)),r9,q9⟩
 ·obtain⟨b,eb,hb⟩:=(V.frm (fs.1.trans f')).lsI s' e3
  cases eb;exact hb
 ·obtain⟨kv,ek,hk⟩:=hget i n en
  unfold za at hk;split at hk
  ·rename_i k0 st0 L
   cases hk
   have:=pu _ _ _ _ L
   subst this;have W:=I3.pin (q,wP X.mg (X.env.qual++"<lambda>") params body scope cl (.ref c') ctv) (zK _ (zL _ (zK _ (zM.mpr rfl))));have hcx:H3 c'=À (gB c' (X.env.qual++"<lambda>")):=fs.2.okeep f3 hx2;have hcr:s3.heap.CodeRec (.ref c') (X.env.qual++"<lambda>"):=(I3.O8 c' _ hcx).1;refine BG (te:=rE X.gm key) T I3 I.ok.frames (I.ok.hd hc) hd hcl1 hcl2 hp hps W.1 hcr (fun s H=>he cl q c' s H) ru ?_;have ksl:Pa X.gm P3 H3 U (sl++[À (.int n)]) (σ++[À (.int n)]):=Pa.snoc (((rs.frm f1).frm fs.1).frm f3) (by simp only[RA]);refine⟨P3,U,sl++[À (.int n)],J.2,ksl,s3',.int kv,J.2,L,fun P4 φ4 H4 b f4 s4 r4=>?_⟩;simp only[RA]at r4;exact⟨by rw[r4];simp[ek],P4,φ4,f3.trans f4,s4⟩
  ·cases hk
 ·exact aw F hJ _ (EZ Z en Y) _ fun D g=>by simp only[RA]
 ·subst en
  exact aw S ⟨A,d,Frm.refl,fs.2⟩ _ rfl _ fun D g=>by simp only[List.zip_nil_left,qj,RA]
end
section
variable{X:Cx}{a b:Î}{f g:EF}{pos p1 p2 pos2:ė}
noncomputable def mN(i:Int):Bool:=decide (0<=i)&&decide (i<=1000)
def pW(f:EF):NF:=fun sl st=>(f sl st).bind fun p=>match p.1 with
 |.int j=>if mN j=Â then À (dF 0 j.toNat,p.2) else Á
 |_=>Á
def wB(f g:EF):NF:=fun sl st=>(f sl st).bind fun p=>(g sl p.2).bind fun q=>match p.1,q.1 with
 |.int i,.int j=>if(mN i&&mN j&&decide (i<=j))=Â then À (dF i (j-i).toNat,q.2) else Á
 |_,_=>Á
theorem O6.rng(i:Nat):∀n:Nat,O6 mg P H φ (dF (i:Int) n) ((ħ i n).map fun(q:Nat)=>V.int (q:Int)):=by
 have a:∀(l:List Nat),O6 mg P H φ (l.map fun(k:Nat)=>AV.int ((i:Int)+(k:Int))) (l.map fun(k:Nat)=>V.int ((i:Int)+(k:Int))):=by
  intro l
  induction l with
  |nil=>exact bg
  |cons x l b=>exact aU (by simp only[RA]) b
 intro n;have:((ħ i n).map fun(q:Nat)=>V.int (q:Int))=(Ä n).map fun(k:Nat)=>V.int ((i:Int)+(k:Int)):=by
  rw[List.range'_eq_map_range,Ü];refine ý fun k _=>?_
  simp
 rw[this];exact a _
theorem Gg[O2](A:X.calm=Â)(i:Gl X "list")(g:X.mg "list"=Á)(h:Gl X "range")(e:X.mg "range"=Á)(C:QE X a f)
  (y:Ê [a] X.env=[(Ã,eval a X.env)]):QN X (.Call (.Name "list" p1) [.Call (.Name "range" p2) [a] [] pos2] [] pos) (pW f) :=
 PE_imp (Bn A i g h e C y) fun J H Q d=>by
  obtain⟨P,o,u,t,x,s,K,r,F,k⟩:=d;obtain⟨q,G,b⟩:=zA F;refine⟨P,o,u,t,x,s,q.1,q.2,G,fun I c m w D v r1=>?_⟩;show ∃j:Nat,[w]=[.int (j:Int)]/\j<=1000/\∀p,m p=Á->Q (.ref p) (ah m p (.lst ((ħ 0 j).map fun(q:Nat)=>V.int (q:Int))));split at b
  ·rename_i j E
   split at b
   ·rename_i B
    cases b;rw[E]at r1;simp only[RA]at r1;subst r1;obtain⟨l,n⟩:=Œ.mp B;have l:=of_decide_eq_true l;have n:=of_decide_eq_true n;refine⟨j.toNat,by rw[Ř l],by lia,fun p z=>?_⟩;exact k I c m p _ D v z (O6.rng 0 j.toNat)
   ·cases b
  ·cases b
theorem Gf[O2](E:X.calm=Â)(u:Gl X "list")(o:X.mg "list"=Á)(t:Gl X "range")(n:X.mg "range"=Á)(F:QE X a f)(h:QE X b g)
  (x:Ê [a,b] X.env=[(Ã,eval a X.env),(Ã,eval b X.env)]) (c:Ê [b] X.env=[(Ã,eval b X.env)]):QN X (.Call (.Name "list" p1) [.Call (.Name "range" p2) [a,b] [] pos2] [] pos) (wB f g) :=
 PE_imp (yc E u o t n (cQ F (cQ h eM (by rw[c];rfl)) (by rw[x,c])) x c) fun O H Q m=>by
  obtain⟨P,φ,U,T,C,s,R,A,M,k⟩:=m;obtain⟨q,l,v⟩:=zA M;obtain⟨r,N,e⟩:=zA v;refine FZ C s ⟨q.1,q.2,r.1,r.2,l,N,fun y d z w S J B r1 r2=>?_⟩;split at e
  ·rename_i i j L K
   split at e
   ·rename_i h
    cases e;rw[L]at r1;rw[K]at r2;simp only[RA]at r1 r2;subst r1;subst r2;simp only[mN,zC,yB]at h;obtain⟨⟨⟨I,Y⟩,G,W⟩,V⟩:=h;refine⟨i.toNat,j.toNat,by rw[Ř I,Ř G],by lia,by lia,fun p D=>?_⟩;refine k y d z p _ J B D ?_;have l:(j-i).toNat=j.toNat-i.toNat:=by lia
    have v:i=((i.toNat:Nat):Int):=by lia
    have:=O6.rng (mg:=X.gm) (P:=y) (H:=z) (φ:=d) i.toNat (j.toNat-i.toNat)
    rw[<- v,<- l]at this;rw[<- l];exact this
   ·cases e
  ·cases e
end
def oO:ba->AV
 |.inl i=>.int i
 |.inr x=>.str x
noncomputable def Cl(k:Nat):Out->Option Out
 |.nx sl st=>match st[k]? with
  |some (.wk O1)=>À (.nx sl (st.set k (.dK O1)))
  |_=>Á
 |.rt v st=>match st[k]? with
  |some (.wk O1)=>À (.rt v (st.set k (.dK O1)))
  |_=>Á
 |_=>Á
def wf(f:EF)(g:GF)(s:SF):SF:=fun sl st=>(f sl st).bind fun p=>match p.1 with
 |.ref k=>match p.2[k]? with
  |some (.dK O1)=>(dH [] g s (O1.map fun q=>oO q.1) sl (p.2.set k (.wk O1))).bind (Cl k)
  |_=>Á
 |_=>Á
section
variable{X:Cx}{tg iter:Î}{body:List ľ}{pos:ė}{f:EF}{g:GF}{s:SF}
theorem DG[O2](hp:Ϝ (model X.prog X.w) X.A X.env X.xe)(hc:X.calm=Â)(hi:QE X iter f)(hg:QG X tg g)(hb:nB X body s)(hs:∀x,ô iter X.env x=pure x):QS X (.For tg iter body [] pos) (wf f g s) :=
 PS_imp (D0 (xU hp hc (Ej hi) hg hb hs)) fun D σ H hq0=>by
  obtain⟨P,φ,Z,st,rs,sm,o,e,q⟩:=hq0;obtain⟨p,e1,e2⟩:=zA e;refine⟨P,φ,Z,st,rs,sm,p.1,p.2,e1,fun P1 N H1 w f1 s1 r1=>g_ fun G bk=>?_⟩;split at e2
  ·rename_i k ek
   rw[ek]at r1;simp only[RA]at r1;obtain⟨a,ea,ew⟩:=r1;split at e2
   ·rename_i O1 hk
    obtain⟨o1,e3,W⟩:=zA e2;obtain⟨na,K,h1,h2⟩:=s1.cell k _ a hk ea;refine bk ⟨a,K,ew,h1,fun U hn=>?_⟩;have J:(O1.map fun q=>oO q.1).length=K.length:=by
     have:=congrArg ő h2.1
     rw[zH,zH]at this;rw[zH];exact this
    obtain⟨fw,sw⟩:=iT (c:=.wk O1) (o:=.frz U (.dK K)) s1 ea na ⟨na,U,K,aD,h2.mono (fun b h=>⟨h,ad fun e=>na (e▸h)⟩) fun _ _ z=>z⟩ (fun _ _ z=>by rw[h1]at z;cases z);have rsw:Pa X.gm P1 (ah H1 a (.frz U (.dK K))) N Z σ:=(rs.frm f1).frm fw
    have back:∀{A d C l},Frm P1 N (ah H1 a (.frz U (.dK K))) A d C->Sim X.gm A d l C->∀{I},l[k]?=À (.wk I)->∃o5 E,C a=À (.frz o5 (.dK E)) /\
      Frm P φ H A d (ah C a (.dK E))/\Sim X.gm A d (l.set k (.dK I)) (ah C a (.dK E))/\∀b,A b->A b/\ah C a (.dK E) b=C b:=by
     intro A d C l Q F I hw;have T:d[k]?=À a:=Q.ix k a ea;obtain⟨na5,o5,E,g1,g2⟩:=F.cell k _ a hw T;have S:∀b,A b->A b/\ah C a (.dK E) b=C b:=fun b h=>⟨h,ad fun e=>na5 (e▸h)⟩
     refine⟨o5,E,g1,?_,?_,S⟩
     ·have B:=(f1.trans fw).trans Q
      obtain⟨m,em,nm⟩:=B.new;have hna:H a=Á\/a∈φ:=by
       rcases zZ.mp (show a ∈ φ++f1.new.choose by rw [<- f1.new.choose_spec.1];exact zW ea) with z | z
       ·exact .inr z
       ·exact .inl (f1.new.choose_spec.2 a z)
      refine⟨fun b h=>⟨(B.ext b h).1,?_⟩,⟨m,em,nm⟩,fun b h n z=>?_,B.pn,fun b h=>?_,fun b o u h=>?_⟩
      ·rw[(S b (B.ext b h).1).2];exact(B.ext b h).2
      ·have nb:b≠a:=fun e=>by
        rcases hna with y|y
        ·exact h (by rw[e];exact y)
        ·exact n (by rw[e];exact y)
       rw[ad nb];exact B.keep b h n z
      ·by_cases e:b=a
       ·rw[e,aD];exact fun z=>nomatch z
       ·rw[ad e];exact B.sm b h
      ·have nb:b≠a:=fun e=>by
        have:=f1.fz b o u h
        rw[e,h1]at this;cases this
       rw[ad nb];exact B.fz b o u h
     ·have hs5:l[k]?=À (.wk I):=hw
      refine⟨by rw[ą];exact F.len,F.nd,fun b h=>by rw[(S b h).2];exact F.dom b h,fun b h=>?_,fun j c b e5 e6=>?_,fun t ht=>⟨(F.tb t ht).1.wr (F.notb T na5),(F.tb t ht).2⟩⟩
      ·by_cases e:b=a
       ·rw[e,aD];exact fun z=>nomatch z
       ·rw[ad e];exact F.cd b h
      ·by_cases hj:j=k
       ·subst hj
        rw[T]at e6;cases e6;rw[ï (by rw[<- F.len];exact(zB.mp T).1)]at e5;cases e5;exact⟨na5,E,aD,g2.mono S fun _ _ z=>z⟩
       ·rw[í (æ hj)]at e5
        have hb:b≠a:=fun e=>hj (by
         subst e;obtain⟨l1,q1⟩:=zB.mp e6;obtain⟨l2,q2⟩:=zB.mp T;exact(ŋ F.nd).mp (q1.trans q2.symm))
        exact(F.cell j c b e5 e6).mono S (fun _ _ z=>z) (ad hb) fun z=>z
    have V:∀{A d C O L l},o1=.nx L l->Frm P1 N (ah H1 a (.frz U (.dK K))) A d C->Sim X.gm A d l C->Pa X.gm A C d L O->(re X.H₀ D).nx O C:=by
     intro A d C O L l eo Q F M;subst eo;simp only[Cl]at W;split at W
     ·rename_i I hw
      cases W;obtain⟨o5,E,g1,g2,g3,g4⟩:=back Q F hw;exact⟨a,o5,E,g1,hn,q A d _ O g2 g3 ⟨M.1,fun i v e=>let⟨w,e',r⟩:=M.2 i v e;⟨w,e',r.mono g4 fun _ _ z=>z⟩⟩⟩
     ·cases W
    have endR:∀{A d C v5 l w5},o1=.rt v5 l->Frm P1 N (ah H1 a (.frz U (.dK K))) A d C->Sim X.gm A d l C->RA X.gm A C d v5 w5->(re X.H₀ D).rt w5 C:=by
     intro A d C v5 l w5 eo Q F r5;subst eo;simp only[Cl]at W;split at W
     ·rename_i I hw
      cases W;obtain⟨o5,E,g1,g2,g3,g4⟩:=back Q F hw;exact⟨a,o5,E,g1,hn,q A d _ w5 g2 g3 (r5.mono g4 fun _ _ z=>z)⟩
     ·cases W
    refine⟨fun i m Y H'=>m=K.length-i/\i<=K.length/\Iw X.gm P1 N (ah H1 a (.frz U (.dK K))) (fun Z st=>dH [] g s ((O1.map fun q=>oO q.1).drop i) Z st=À o1) Y H',
     ⟨_,rfl,Ě _,P1,N,Z,_,Frm.refl,sw,rsw,by simpa using e3⟩,?_⟩
    intro i m Y H' hh;refine g_ fun G bk=>?_
    obtain⟨em,hle,P2,φ2,sl2,st2,f2,s2,rs2,eg⟩:=hh;have hfz:H' a=À (.frz U (.dK K)):=f2.fz a _ _ aD;rcases yT i K.length with R|hge
    ·rw[ê (by rw[J];exact R)]at eg
     simp only[dH,cD,if_true]at eg;obtain⟨q4,e5,e6⟩:=zA eg;obtain⟨o2,e7,e8⟩:=zA e6;refine bk (.inr ⟨⟨hfz,R⟩,Iw X.gm P1 N (ah H1 a (.frz U (.dK K))) fun Z st=>dH [] g s ((O1.map fun q=>oO q.1).drop (i+1)) Z st=À o1,fun Y H' z=>⟨_,by lia,rfl,R,z⟩,fun x H3 hy=>g_ fun G bj=>?_⟩);obtain⟨rfl,hx⟩:=hy;have rx:RA X.gm P2 H3 φ2 ((O1.map fun q=>oO q.1)[i]'(by rw[J];exact R)) x:=by
      have hkw:O1[i]?.map (·.1)=K[i]?.map (·.1):=by rw[<- zR,<- zR,h2.1]
      have hlt':i<O1.length:=by rw[zH]at J;lia
      rw[zR,zF R]at hx;rw[zF hlt',zF R]at hkw;simp only[Û,Option.some.injEq]at hx hkw;rw[List.getElem_map,hkw,<- hx];cases K[i].1 with
      |inl n=>simp only[oO,RA,kV]
      |inr z=>simp only[oO,RA,kV]
     refine bj ⟨P2,φ2,sl2,st2,_,rs2,s2,rx,q4.1,q4.2,e5,fun P4 φ4 H4 σ4 f4 s4 rs4=>⟨P4,φ4,q4.1,q4.2,rs4,s4,o2,e7,?_⟩⟩;have fa:=f2.trans f4;cases o2 with
     |nx L l=>exact fun A d C O Q F M=>⟨A,d,L,l,fa.trans Q,F,M,e8⟩
     |ct L l=>exact fun A d C O Q F M=>⟨A,d,L,l,fa.trans Q,F,M,e8⟩
     |bk L l=>exact fun A d C O Q F M=>V (yD e8).symm (fa.trans Q) F M
     |rt v l=>exact fun A d C w Q F r5=>endR (yD e8).symm (fa.trans Q) F r5
    ·have ei:i=K.length:=e? hle hge
     subst ei;rw[<- J,Ϭ]at eg;simp only[dH,cD,if_true]at eg;exact bk (.inl ⟨⟨hfz,zP _⟩,V (yD eg).symm f2 s2 rs2⟩)
   ·cases e2
  ·cases e2
end
noncomputable def cG:Î->Bool
 |.Starred _ _=>Ã
 |_=>Â
noncomputable def j5:Î->Bool
 |.Slice _ _ _ _=>Ã
 |_=>Â
noncomputable def Bv:Î->Bool
 |.Set _ _ _=>Ã
 |_=>Â
noncomputable def pV:Î->Bool
 |.Call (.Name _ _) [] [] _=>Ã
 |_=>Â
noncomputable def oH:Î->Bool
 |.ListComp _ _ _ _=>Ã
 |.SetComp _ _ _ _=>Ã
 |.DictComp _ _ _ _ _=>Ã
 |_=>Â
noncomputable def sK:Î->Bool
 |.Tuple _ _ _=>Ã
 |_=>Â
noncomputable def xW:Î->Bool
 |.UnaryOp .Not _ _=>Ã
 |.BoolOp _ _ _=>Ã
 |.IfExp _ _ _ _=>Ã
 |.Compare _ _ _ _=>Ã
 |_=>Â
section
variable{env:R?}{e o i a b:Î}{es:List Î}{pos cpos apos:ė}{f:Í}
theorem aE(h:cG e=Â):Ê (e::es) env=(Ã,eval e env)::Ê es env:=by
 cases e<;>first|rfl|cases h
theorem i7(h:es.all cG=Â):(õ pos (Ê es env)).any (·.1)=Ã:=by
 induction es with
 |nil=>rfl
 |cons e es a =>
  rw[Ļ,zC]at h;rw[aE h.1];show(Ã||(õ pos (Ê es env)).any (·.1))=Ã;rw[a h.2];rfl
theorem AS(h:es.all cG=Â):(õ pos (Ê es env)).all (fun x=>!x.1)=Â:=by
 induction es with
 |nil=>rfl
 |cons e es a =>
  rw[Ļ,zC]at h;rw[aE h.1];show(Â&&(õ pos (Ê es env)).all (fun x=>!x.1))=Â;rw[a h.2];rfl
theorem few(h:es.all cG=Â)(a:es.length<30):((õ cpos (Ê es env)).all (fun x=>!x.1)&&(ō cpos (đ [] env)).all (fun x=>x.1.isSome)&&decide (es.length+([]:List Ŏ).length+(if([]:List Ŏ).isEmpty then 0 else 1)<30))=Â:=by
 rw[AS h];have:decide (es.length+([]:List Ŏ).length+(if([]:List Ŏ).isEmpty then 0 else 1)<30)=Â:=yV (by simpa using a);rw[this];rfl
theorem gq(w:Y7 Å)(h:pV o=Â):Ė o f env w=w:=by
 unfold Ė;split
 ·simp[pV]at h
 ·rfl
theorem ve(g:pV o=Â)(d:es.all cG=Â)(e:es.length<30)(a:(apos.endLine==pos.line)=Â):eval (.Call (.Attribute o f apos) es [] pos) env=(do
   let ov <- eval o env
   ŗ apos.atName
   let(f,first) <- holding [ov] (Ŧ ov f (do return (<- importBound o env).getD Â))
   Ū pos f first (õ pos (Ê es env)) (ō pos (đ [] env))):=by
 rw[arm_eval_Call,gq _ g];have b:methodCallForm (es.length+([]:List Ŏ).length) (õ pos (Ê es env)) (ō pos (đ [] env))=Â:=few d e;have c:methodCallPos Â o env apos pos=pure pos:=by unfold methodCallPos;simp[a]
 unfold methodCall;rw[b,c];rfl
theorem sj(h:Bv e=Â)(x:Å):ô e env x=pure x:=by
 cases e<;>first|rfl|cases h
theorem JZ(h:j5 i=Â):qo i:=fun _ _=>by
 cases i<;>first|rfl|cases h
theorem FJ(h:j5 i=Â)(v:Å):assign (.Subscript o i pos) env v=(do
   let ov <- holding [v] (eval o env)
   let iv <- holding [v,ov] (eval i env)
   ŗ pos
   holding [v,ov,iv] (Ϛ ov iv v)
   release [v,ov,iv] []):=by
 cases i<;>first|rfl|cases h
theorem Iy(h:j5 i=Â)(a b new:Å):augStore i a b new=(do holding [new,a,b] (Ϛ a b new);release [new,a,b] [];pure .next):=by
 cases i<;>first|rfl|cases h
theorem uQ{l:Nat}(h:oH e=Â):Ľ e t l env=pure Ã:=by
 cases e<;>first|rfl|cases h
theorem AK{l:Nat}:Ľ e (À (.Attribute o f p)) l env=pure Ã:=by
 cases e<;>rfl
noncomputable def K5(nm:List (Í×NameKind))(t:Í)(tl:Nat)(sc:ĝ)(vl:Nat):Bool:=decide (nm.lookup t=À .local)&&(tl==vl)&&!(sc.names.any fun(n,k)=>n==t&&(k==.local||k==.cell))
theorem FG{l:Nat}(a:env.scope.kind=.function) :
  Ľ (.ListComp elt gens sc pos) (À (.Name t p)) l env=pure (K5 env.scope.names t p.line sc pos.line):=by
 have b:env.blockKind=.function:=by unfold Env.blockKind;rw[a];rfl
 show(pure (env.blockKind==.function&&env.kindOf t==À .local&&p.line==pos.line&&!(sc.names.any fun(n,k)=>n==t&&(k==.local||k==.cell))):Y7 Bool)=_;rw[b];have:(env.kindOf t==À NameKind.local)=decide (env.scope.names.lookup t=À .local):=by
  show(env.scope.names.lookup t==À NameKind.local)=_;cases h:env.scope.names.lookup t with
  |none=>rfl
  |some k=>cases k<;>rfl
 rw[this];rfl
theorem AO:Ħ [.Subscript a b p] e env=pure Á:=by cases e<;>rfl
theorem AN{k:Nat}(h:sK e=Â):Ħ [.Tuple ts k p] e env=pure Á:=by cases e<;>first|rfl|cases h
theorem p9(h:cG e=Â):(à [e] env).map (·.2)=[assign e env]:=by
 cases e<;>first|rfl|cases h
theorem BT(h:cG e=Â):(à (e::es) env).map (·.2)=assign e env::(à es env).map (·.2):=by
 cases e<;>first|rfl|cases h
theorem BU:(à es env).length=es.length:=by
 induction es with
 |nil=>rfl
 | cons e es ih=>cases e <;> (show (à es env).length + 1=es.length + 1;rw [ih])
theorem BV(h:es.all cG=Â):(à es env).findIdx? (·.1)=Á:=by
 have:∀p∈à es env,p.1=Ã:=by
  induction es with
  |nil=>intro p a;cases a
  |cons e es b =>
   rw[Ļ,zC]at h;have c:à (e::es) env=(Ã,assign e env)::à es env:=by
    cases e<;>first|rfl|cases h.1
   rw[c];intro p a;rcases zT.mp a with rfl|a
   ·rfl
   ·exact b h.2 p a
 rw[List.findIdx?_eq_none_iff];intro p a;rw[this p a]
theorem uA(h:xW e=Â)(a:Y7 Å):B! e env a=(do let v <- a;ŗ e.pos;holding [v] (truthy v)):=by
 cases e with
 |UnaryOp op x p=>cases op<;>first|rfl|cases h
 |BoolOp=>cases h
 |IfExp=>cases h
 |Compare=>cases h
 |_=>rfl
end
noncomputable def IK(a c:Int)(n:Nat):It:=⟨fun i _=>i<n,fun i H x H'=>H'=H/\x=.int (a+(i:Int)*c),fun i _=>n<=i⟩
theorem Fb{P:Ò}{w:Ú}{K:Þ}{J:Î}(it:Ç)(a c:Int)(n:Nat):jW P w K J (IK a c n) [it] it (fun i h=>o? h it (a+(i:Nat)*c) ((n:Int)-(i:Nat)) c) where
 mem:=by simp
 obj:=fun i h d b f=>by
  obtain rfl:b=it:=by simpa using f
  exact ⟨_,d,fun v z=>nomatch (show Data.fields _=Data.cell v from z)⟩
 keep:=fun i h l d k=>k it (by simp) _ d
 item:=by
  intro X r m u q i G s D H E I j d p;subst r m u;obtain⟨C,B,N,A,y,x⟩:=j it (by simp);refine(Walks.range (prog:=X.prog) (w:=X.w) (I.ok.hd q) it a c n).item i s _ _ p d fun v l F M g L=>?_
  obtain⟨t,rfl⟩:=M;have Q:Inv X G D H { s with heap:=l,toks:=F }:=I.turned (fun b o f e=>L b o (by simpa using f) e) C B A y x;exact⟨_,rfl,mB (s:={ s with heap:=l,toks:=F }) (n:="range_iterator") g rfl rfl dC ⟨.int (a+(i:Int)*c),H,Q,⟨t,rfl⟩,⟨rfl,rfl⟩,g,fun b f=>(j b f).1⟩⟩
 done:=by
  intro X r m u q i G s D H E I j d p;subst r m u;obtain⟨C,B,N,A,y,x⟩:=j it (by simp);exact R9 (I.ok.hd q) d (by have:n<=i:=p;lia) fun l O=>⟨rfl,I.turned (t':=s.toks) (fun b o f e=>O b o f e) C B A y x⟩
 self:=fun _ _ _ _ _ d h=>S? d h
noncomputable def wl(a b c:Int):Bool:=(decide (¬c=0)&&decide (0<=ĩ a b c))&&ß c.natAbs 1000000&&Z2 a b c
noncomputable def jq(a b c:Int):Nat:=(ĩ a b c).toNat
def sA(a b c:Int):List AV:=(Ä (jq a b c)).map fun(i:Nat)=>.int (a+(i:Int)*c)
section
variable{X:Cx}{tg:Î}{mg:Gm}{P:Pr}{φ:List Ç}{H:Hp}{a b c:Î}{f g h:EF}{p pos:ė}
def Nu(ta:TA):TI:=fun σ H R=>ta σ H fun vs H1=>∃i j k:Int,vs=[.int i,.int j,.int k]/\wl i j k=Â/\R (IK i k (jq i j k)) H1
theorem Mn{E:TA}(Q:Gl X "range")(P:X.mg "range"=Á)(S:PA X [a,b,c] E)(O:Ê [a,b,c] X.env=[(Ã,eval a X.env),(Ã,eval b X.env),(Ã,eval c X.env)])
  (l:Ê [b,c] X.env=[(Ã,eval b X.env),(Ã,eval c X.env)]):PI X tg (.Call (.Name "range" p) [a,b,c] [] pos) (Nu E):=by
 intro G s D H R I h;refine I? (dB I Q P ϯ (Ó (ar (S pos G s D H _ I h) fun L f B=>?_) (by rw[O,l]) (by rw[l];rfl)));obtain⟨Y,J,W,r1,i,j,k,e,m,q⟩:=B;subst e;unfold wl at m;simp only[zC,yB]at m;obtain⟨⟨⟨h1,h0⟩,F⟩,T⟩:=m;have F:=zS F;obtain⟨u1,x,rfl,A,r2⟩:∃u d,L=u::d/\RelV (.int i) u/\Vals [.int j,.int k] d:=by cases r1 with|cons r g=>exact⟨_,_,rfl,r,g⟩
 obtain⟨u2,w,rfl,z,N⟩:∃u d,x=u::d/\RelV (.int j) u/\Vals [.int k] d:=by cases r2 with|cons r g=>exact⟨_,_,rfl,r,g⟩
 obtain⟨Z,K,rfl,y,M⟩:∃u d,w=u::d/\RelV (.int k) u/\Vals [] d:=by cases N with|cons r g=>exact⟨_,_,rfl,r,g⟩
 cases M;obtain⟨v,rfl⟩:=A;obtain⟨t,rfl⟩:=z;obtain⟨n,rfl⟩:=y;refine call_range_3 oM ?_ (Or.inl (PyProof.noPylong_small oM));refine W3 (IsRange.new ..) T ?_;have C:Inv X G D J { f with heap:=f.heap.push { cls:=.type "range",data:=.fields #[.int i v,.int j t,.int k n] },toks:=f.toks }:=W.kept fun b o e=>zG _ e
 refine⟨(f.heap.push { cls:=.type "range",data:=.fields #[.int i v,.int j t,.int k n] }).objs.size,[(f.heap.push { cls:=.type "range",data:=.fields #[.int i v,.int j t,.int k n] }).objs.size],_,_,J,rfl,C.kept (t':=f.toks) fun b o e=>zG _ e,Fb _ i k (jq i j k),?_,fun b m=>?_,q⟩
 ·have V:i+((0:Nat):Int)*k=i:=by simp
  have U:((jq i j k:Nat):Int)-((0:Nat):Int)=ĩ i j k:=by unfold jq;lia
  show o? _ _ (i+((0:Nat):Int)*k) (((jq i j k:Nat):Int)-((0:Nat):Int)) k;rw[V,U];exact zY _ rfl
 ·obtain rfl:b=(f.heap.push { cls:=.type "range",data:=.fields #[.int i v,.int j t,.int k n] }).objs.size:=by simpa using m
  exact C.fpOk (zP _) (C.O8.fresh (zP _))
theorem J1[O2]{i k:Int}{j:Int}:ul mg (IK i k (jq i j k)) ⟨sA i j k,[]⟩ P φ H where
 go:=fun l a t b m y f s g e=>by
  unfold sA at e;rw[zR]at e;obtain⟨c,r,q⟩:=zE.mp e;obtain⟨h,d⟩:=zB.mp r;rw[Q7]at d;subst d q;rw[Ĥ]at h;refine⟨h,fun w u o=>?_⟩;obtain⟨p,n⟩:=o;subst p;exact⟨l,Frm.refl,s,by simp only[RA];exact n⟩
 stop:=fun l a t b f s g=>by
  show jq i j k<=(sA i j k).length;simp[sA]
theorem Nk[O2]{σ:St}{Q:List V->Hp->Prop}{sl:Sl}{st:aa}(j:Pa mg P H φ sl σ)(s:Sim mg P φ st H)
  (m:∃v st1 u st2 x st3,f sl st=À (v,st1)/\g sl st1=À (u,st2)/\h sl st2=À (x,st3)/\∀P1 φ1 H1 w w' w'',Frm P φ H P1 φ1 H1->Sim mg P1 φ1 st3 H1->RA mg P1 H1 φ1 v w->RA mg P1 H1 φ1 u w'->RA mg P1 H1 φ1 x w''->Q [w,w',w''] H1):rA mg (dN f (dN g (dN h eF))) σ H Q:=by
 obtain⟨v,st1,u,st2,x,st3,e,o,b,k⟩:=m;refine⟨P,φ,sl,st,j,s,[v,u,x],st3,by simp only[dN,eF,e,o,b,Æ],fun P1 φ1 H1 p n i r1=>?_⟩;simp only[O6]at r1;obtain⟨w,q,rfl,r,w',d,rfl,l,w'',c,rfl,a,rfl⟩:=r1;exact k P1 φ1 H1 w w' w'' n i r l a
def zj(f g h:EF):IF:=fun sl st=>(f sl st).bind fun p=>(g sl p.2).bind fun q=>(h sl q.2).bind fun r=>match p.1,q.1,r.1 with
 |.int i,.int j,.int k=>if wl i j k=Â then À (⟨sA i j k,[]⟩,r.2) else Á
 |_,_,_=>Á
theorem Jl[O2](D:Gl X "range")(C:X.mg "range"=Á)(F:QE X a f)(u:QE X b g)(E:QE X c h)(v:Ê [a,b,c] X.env=[(Ã,eval a X.env),(Ã,eval b X.env),(Ã,eval c X.env)])(d:Ê [b,c] X.env=[(Ã,eval b X.env),(Ã,eval c X.env)])(e:Ê [c] X.env=[(Ã,eval c X.env)]) :
  QI X tg (.Call (.Name "range" p) [a,b,c] [] pos) (zj f g h) :=
 gY (Mn D C (cQ F (cQ u (cQ E eM (by rw[e];rfl)) (by rw[d,e])) (by rw[v,d])) v d) fun V H R B=>by
  obtain⟨P,U,Z,Y,A,s,iv,y,K,k⟩:=B;obtain⟨q,Q,O⟩:=zA K;obtain⟨r,N,M⟩:=zA O;obtain⟨t,L,l⟩:=zA M;refine Nk A s ⟨q.1,q.2,r.1,r.2,t.1,t.2,Q,N,L,fun S n T w W x G z r1 r2 o=>?_⟩;split at l
  ·rename_i i j m J I em
   rw[J]at r1;rw[I]at r2;rw[em]at o;split at l
   ·rename_i u
    cases l;simp only[RA]at r1 r2 o;subst r1;subst r2;subst o;exact⟨i,j,m,rfl,u,k S n T _ G z J1⟩
   ·cases l
  ·cases l
end
open PyProof PySem.Calls
section
variable{X:Cx}
def Mg:V->List V->Hp->VK->Prop:=fun x vs H Q=>∃(l:Ç)(ns:List Int)(i:Int),x=.ref l/\vs=[.int i]/\H l=À (.lst (ns.map V.int))/\i∈ns/\ns.length<=Ì/\Q .non (ah H l (.lst ((ns.map V.int).eraseIdx (ns.idxOf i))))
theorem ue{i:Int}:∀{O4:List Å}{ns:List Int},ţ O4 ns->∀m (h:m<O4.length),∃h2:m<ns.length,isInt i O4[m]=(ns[m]==i)
 |_,_,.nil,m,h=>nomatch h
 |_,_,.cons n t r,m,h=>by
  cases m with
  |zero=>exact⟨by simp,rfl⟩
  |succ m =>
   obtain⟨h2,e⟩:=ue r m (by simpa using h);exact⟨by simpa using h2,by simpa using e⟩
theorem zh{i:Int}:∀(ns:List Int)(m:Nat)(h:m<ns.length),m<ns.idxOf i->(ns[m]==i)=Ã
 |[],m,h,_=>nomatch h
 |a::ns,m,h,hl=>by
  rw[ŵ]at hl;cases e:a==i with
  |true=>rw[e]at hl;exact absurd hl (d? _)
  |false =>
   rw[e]at hl;have hl:m<ns.idxOf i+1:=hl;cases m with
   |zero=>exact e
   |succ m=>exact zh ns m (by simpa using h) oM
theorem yn:Dc X "list.remove" Mg:=by
 intro J s D H x E v F Q I rx o h;obtain⟨l,a,i,rfl,rfl,j,C,hz,q⟩:=h;cases rx;obtain⟨u,rfl,p⟩:=o.one;obtain⟨t,rfl⟩:=p;obtain⟨z,b,n,r,B,e⟩:=I.lstM j;have c:ţ b a:=iQ r;rw[zH]at B;have G:a.idxOf i<a.length:=List.idxOf_lt_length_iff.mpr C;refine Ŗ Ś ⟨_,e,rfl⟩ PySem.F.entry_list_remove (PySem.F.args_list_remove_2 _ _)
  (MeetsSeq.list_remove l b.toArray n (.int i t) (isInt i) (fun y w=>eq_isInt i t c y (by simpa using w)) (a.idxOf i) (by rw[zI];lia) ?_ (fun m A f=>?_) (by rw[zI];lia)) ⟨e,?_⟩
 ·obtain⟨k,g⟩:=ue (i:=i) c (a.idxOf i) oM
  show isInt i b[a.idxOf i]=Â;rw[g,List.getElem_idxOf];simp
 ·have d:m<b.length:=by simpa using A
  obtain⟨k,g⟩:=ue (i:=i) c m d;show isInt i b[m]=Ã;rw[g];exact zh a m k f
 ·refine⟨.non,_,I.lset (its':=b.eraseIdx (a.idxOf i)) j e ?_ (r.eraseIdx _) ?_,rfl,q⟩
  ·show b.toArray.eraseIdxIfInBounds _=(b.eraseIdx _).toArray
   rw[ϥ]
  ·have:=qC (a.map V.int) (a.idxOf i)
   rw[zH]at this;lia
def sQ:MF:=fun x xs st=>match xs with
 |[.int i]=>(gC st x).bind fun c=>(hU c.2).bind fun ns=>if(decide (i∈ns)&&cA ns.length)=Â then À (.non,st.set c.1 (.lst (c.2.eraseIdx (ns.idxOf i)))) else Á
 |_=>Á
theorem CB[O2]:lZ X "list.remove" (rM X.gm sQ):=kR yn fun x D H Q d=>by
 obtain⟨P,m,F,a,C,s,r,p,v,n,e,k⟩:=d;unfold sQ at e;split at e
 ·rename_i i
  obtain⟨c,B,A⟩:=zA e;obtain⟨j,z,h⟩:=zA A;split at h
  ·rename_i f
   cases h;rw[zC]at f;obtain⟨b,E,rfl,y,q,l,g⟩:=jF s r B;obtain⟨w,rfl,r1⟩:=p.one;simp only[RA]at r1;subst r1;have ex:=qF z;rw[ex]at g k;have u:=g.ints;subst u;obtain⟨t,o,_⟩:=mf s y q ⟨_,l⟩ (g.erase (j.idxOf i));exact⟨b,j,i,rfl,rfl,l,of_decide_eq_true f.1,i6 f.2,k P m _ _ t o (by simp only[RA])⟩
  ·cases h
 ·cases e
end
set_option genInjectivity false
set_option genSizeOf false
set_option genSizeOfSpec false
inductive Bi where
 |len|sum|abs|min|max|int
inductive Mi where
 |app|pop|ext|cnt|rem
mutual
inductive Ex where
 |n|b (x:Bool)|i (x:Int)|s (x:Í)|v (k:Nat)|g (x:Í) (c:AV)|bin (o:Ā) (a b:Ex)|cmp (o:ϙ) (a b:Ex)|un (o:UnaryOp) (a:Ex)|no (a:Ex)|an (a b:Ex)|or (a b:Ex)|ife (t:Tx) (a b:Ex)|ix (a b:Ex)|tu (es:Exs)|nw (m:Bool) (x:Nx)|ca (p:Bool) (j:Nat) (es:Exs)|me (c m:Í) (j:Nat) (o:Ex) (es:Exs)|ne (c:Í) (j:Nat) (es:Exs)|fd (c f:Í) (o:Ex)|bi (b:Bi) (es:Exs)|mt (m:Mi) (o:Ex) (es:Exs)|dn|mnd (a:Ex)|mnk (a key:Ex)
inductive Tx where
 |va (e:Ex)|cmp (o:ϙ) (a b:Ex)|no (t:Tx)|an (t u:Tx)|or (t u:Tx)
inductive Exs where
 |nil|cons (e:Ex) (es:Exs)
inductive Nx where
 |li (es:Exs)|cat (a b:Ex)|rep (es:Exs) (b:Ex)|sl (a:Ex) (l h:Ox)|rev (a b:Ex)|lof (a:Ex)|lc (k:Nat) (it:Ix) (t:Tg) (c:Cx') (e:Ex)|lr1 (a:Ex)|lr2 (a b:Ex)
inductive Ox where
 |no|so (e:Ex)
inductive Cx' where
 |no|so (t:Tx)
inductive Ix where
 |e (a:Ex)|r1 (a:Ex)|r2 (a b:Ex)|zi (a b:Ex)|en (a:Ex)|es (a b:Ex)|r3 (a b c:Ex)
inductive Tg where
 |nm (k:Nat)|tu (n:Nat) (ts:Tgs)|su (a b:Ex)
inductive Tgs where
 |nil|cons (t:Tg) (ts:Tgs)
end
mutual
inductive Sx where
 |ex (e:Ex)|as (e:Ex) (t:Tg)|au (k:Nat) (o:Ā) (e:Ex)|aus (o:Ā) (a b e:Ex)|fl (c f:Í) (o e:Ex)|rt (e:Ex)|iff (t:Tx) (a b:Pc)|fo (it:Ix) (t:Tg) (b:Pc)|wh (t:Tx) (b:Pc)|dead|fd (a:Ex) (t:Tg) (b:Pc)
inductive Pc where
 |nil|cons (s:Sx) (ss:Pc)|dead
end
def pv:Bi->BF
 |.len=>bY dj
 |.sum=>bY rZ
 |.abs=>bY qk
 |.min=>bY wD
 |.max=>bY pX
 |.int=>bY p4
def qA:Mi->MF
 |.app=>sR
 |.pop=>wI
 |.ext=>wJ
 |.cnt=>BA
 |.rem=>sQ
noncomputable def qB:Mi->String
 |_=>"list"
def kf(ks:List Fn)(j:Nat):Fn:=ks.getD j fun _ _=>Á
def jt(p:Bool)(fn:Fn):Fn:=if p=Â then pm fn else fn
section
variable(ks:List Fn)
mutual
noncomputable def ev:Ex->EF
 |.n=>aC .non
 |.b x=>aC (.bl x)
 |.i x=>aC (.int x)
 |.s x=>aC (.str x)
 |.v k=>aV k
 |.g _ c=>aC c
 |.bin o a b=>a2 (ev a) (ev b) (lu (bB o))
 |.cmp o a b=>a2 (ev a) (ev b) (lu (oh o))
 |.un o a=>a1 (ev a) (FO (j3 o))
 |.no a=>Lz (ev a)
 |.an a b=>C8 (ev a) (ev b)
 |.or a b=>C4 (ev a) (ev b)
 |.ife t a b=>LA (tv t) (ev a) (ev b)
 |.ix a b=>a2 (ev a) (ev b) (lu aR)
 |.tu es=>Ly (eN es)
 |.nw m x=>C5 m (jB x)
 |.ca p j es=>C7 (jt p (kf ks j)) (eN es)
 |.me c m j o es=>C6 c m (kf ks j) (ev o) (eN es)
 |.ne c j es=>Al c (kf ks j) (eN es)
 |.fd c f o=>LB c f (ev o)
 |.bi b es=>uf (pv b) (eN es)
 |.mt m o es=>lX (qB m) (qA m) (ev o) (eN es)
 |.dn=>LC Ã
 |.mnd a=>uf (bY oJ) (dN (ev a) eF)
 |.mnk a key=>rP (ev a) (ev key)
noncomputable def tv:Tx->TF
 |.va e=>tV (ev e)
 |.cmp o a b=>FF (ev a) (ev b) o
 |.no a=>K2 (tv a)
 |.an a b=>K4 (tv a) (tv b)
 |.or a b=>Fy (tv a) (tv b)
noncomputable def eN:Exs->AF
 |.nil=>eF
 |.cons e es=>dN (ev e) (eN es)
noncomputable def jB:Nx->NF
 |.li es=>Lg (eN es)
 |.cat a b=>nU (ev a) (ev b)
 |.rep es b=>wA (eN es) (ev b)
 |.sl a l h=>oF (ev a) (tL l) (tL h)
 |.rev a b=>wz (ev a) (ev b)
 |.lof a=>nT (ev a)
 |.lc k it t c e=>Cz k (d3 it) (cB t) (jC c) (ev e)
 |.lr1 a=>pW (ev a)
 |.lr2 a b=>wB (ev a) (ev b)
noncomputable def tL:Ox->OF
 |.no=>Ld
 |.so e=>oA (ev e)
noncomputable def jC:Cx'->TF
 |.no=>K0
 |.so e=>tv e
noncomputable def d3:Ix->IF
 |.e a=>iE (ev a)
 |.r1 a=>CJ (ev a)
 |.r2 a b=>CI (ev a) (ev b)
 |.zi a b=>iZ (ev a) (ev b)
 |.en a=>Lo (ev a)
 |.es a b=>wU (ev a) (ev b)
 |.r3 a b c=>zj (ev a) (ev b) (ev c)
noncomputable def cB:Tg->GF
 |.nm k=>zo k
 |.tu n ts=>zn n (jT ts)
 |.su a b=>Lq (ev a) (ev b)
noncomputable def jT:Tgs->um
 |.nil=>HP
 |.cons t ts=>HU (cB t) (jT ts)
end
mutual
noncomputable def cW:Sx->SF
 |.ex e=>Lb (ev ks e)
 |.as e t=>xM (ev ks e) (cB ks t)
 |.au k o e=>Cr k o (ev ks e)
 |.aus o a b e=>wg o (ev ks a) (ev ks b) (ev ks e)
 |.fl c f o e=>xK c f (ev ks o) (ev ks e)
 |.rt e=>K7 (ev ks e)
 |.iff t a b=>K9 (tv ks t) (af a) (af b)
 |.fo it t b=>La (d3 ks it) (cB ks t) (af b)
 |.wh t b=>mP (tv ks t) (af b)
 |.dead=>FR
 |.fd a t b=>wf (ev ks a) (cB ks t) (af b)
noncomputable def af:Pc->SF
 |.nil=>K8
 |.cons s ss=>K6 (cW s) (af ss)
 |.dead=>FR
end
end
inductive Ke where
 |f (x:Í) (n:Nat)|m (c m:Í) (n:Nat)|k (c:Í) (n:Nat)
structure SC where
 N:List Í
 nm:List (Í×NameKind)
 cf:List Í
 ke:List Ke
 gs:List (Í×AV)
 cl:List (Í×List Í)
 la:List ė
 cn:List Í
 hs:List Nat
 ck:Bool
noncomputable def kd(C:SC)(x:Í):Option Ŭ:=C.nm.lookup x
def AA(C:SC)(x:Í):Bool:=match kd C x with
 |some .local=>Â
 |some .cell=>Â
 |some .free=>Â
 |_=>Ã
def wN(C:SC)(x:Í):Bool:=match kd C x with
 |some .local=>Â
 |some .cell=>C.cf.contains x
 |_=>Ã
noncomputable def Ab(x:Í):Bool:=!(x==("__debug__":Í))&&!(x==("__classdict__":Í))
def jz(C:SC)(x:Í):Bool:=(match kd C x with
 |some .globalImplicit=>Â
 |_=>Ã)&&Ab x
noncomputable def Ll(C:SC)(j:Nat)(x:Í)(n:Nat):Bool:=match C.ke[j]? with
 |some (.f y m)=>y==x&&m==n
 |_=>Ã
noncomputable def Lj(C:SC)(j:Nat)(c m:Í)(n:Nat):Bool:=match C.ke[j]? with
 |some (.m c' m' k)=>c'==c&&m'==m&&k==n
 |_=>Ã
noncomputable def Lk(C:SC)(j:Nat)(c:Í)(n:Nat):Bool:=match C.ke[j]? with
 |some (.k c' k)=>c'==c&&k==n
 |_=>Ã
noncomputable def bnames:List Í:=["len","sum","all","any","abs","min","max","int","tuple","range","zip","enumerate","list","isinstance","bool","str","sorted"]
noncomputable def Ir:List (Í×Bi):=[("len",.len)
 ,("sum",.sum)
 ,("abs",.abs)
 ,("min",.min)
 ,("max",.max)
 ,("int",.int)
 ]
noncomputable def Hg:List (Í×Mi):=[("append",.app)
 ,("pop",.pop)
 ,("extend",.ext)
 ,("count",.cnt)
 ,("remove",.rem)
 ]
noncomputable def Bi.nm:Bi->Í
 |.len=>"len"
 |.sum=>"sum"
 |.abs=>"abs"
 |.min=>"min"
 |.max=>"max"
 |.int=>"int"
noncomputable def Mi.nm:Mi->Í
 |.app=>"append"
 |.pop=>"pop"
 |.ext=>"extend"
 |.cnt=>"count"
 |.rem=>"remove"
noncomputable def Na:List (Í×String):=[("int","int"),("bool","bool"),("list","list"),("tuple","tuple"),("str","str")]
noncomputable def Bs(sc:ĝ):List Í:=(sc.names.filter fun p=>(match p.2 with|.local=>Â|.cell=>Â|_=>Ã)&&!(p.1==(".0":Í))).map (·.1)
noncomputable def tm(sc:ĝ)(x:Í):Bool:=match sc.names.lookup x with
 |some .free=>Â
 |_=>Ã
noncomputable def HM(k:Bool)(x:Í):Í:=match k with
 |true=>x++("!":Í)
 |false=>""
def eP(C:SC)(sc:ĝ):List Í:=(C.N.map fun x=>if tm sc x=Â then x else HM C.ck x)++Bs sc
noncomputable def Lr:Ŭ->Bool
 |.free=>Â
 |_=>Ã
noncomputable def CZ:Option Ŭ->Bool
 |some .cell=>Â
 |_=>Ã
noncomputable def ux{α:Type}(k:Bool)(x:List α):List α:=match k with
 |true=>x
 |false=>[]
@[reducible] def blk(C:SC)(sc:ĝ):SC:={ C with N:=eP C sc,nm:=ux C.ck (sc.names.map fun p=>if(Lr p.2&&CZ (kd C p.1))=Â then(p.1,.cell) else(p.1,p.2)),cf:=ux C.ck ((sc.names.filter fun p=>CZ (À p.2)).map (·.1)),la:=[] }
def t8(C:SC)(sc:ĝ):Bool :=
 (match sc.kind with|.function=>Â|_=>Ã)&&decide (sc.names.map (·.1)).Nodup&&decide (eP C sc).Nodup &&
 (sc.names.all fun p=>match p.2 with|.free=>(match kd C p.1 with|some .cell=>Â|some .free=>Â|_=>Ã)|_=>Â) &&
 ((Ä C.N.length).all fun i=>match (eP C sc)[i]? with
  |some x=>(match sc.names.lookup x with
   |some .free=>decide (C.N[i]?=À x)
   |some _=>Ã
   |none=>Â)
  |none=>Ã)
mutual
noncomputable def pR(n:Nat):Tg->Bool
 |.nm k=>ß n k
 |.tu _ ts=>rh n ts
 |.su _ _=>Ã
noncomputable def rh(n:Nat):Tgs->Bool
 |.nil=>Â
 |.cons t ts=>pR n t&&rh n ts
end
@[reducible] def Hz(C:SC)(sc:ĝ):SC:={ C with N:=eP C sc,nm:=ux C.ck sc.names,cf:=[],ke:=[],la:=[] }
noncomputable def Nr(C:SC)(p:ė):Bool:=C.la.any fun q=>q.line==p.line&&q.col==p.col&&q.endLine==p.endLine&&q.endCol==p.endCol
def BH(C:SC)(sc:ĝ)(ps:ϡ):Bool:=t8 C sc&&!sc.isCoroutine&&!sc.isGenerator&&plainA ps&&ps.defaults.isEmpty&&ps.kw_defaults.isEmpty &&
 (match Bs sc,ps.args.map (·.arg) with
  |[x],[y]=>x==y&&(match sc.names.lookup x with|some .local=>Â|_=>Ã)
  |_,_=>Ã)&&sc.names.all fun p=>!(CZ (À p.2))
noncomputable def mv:Ex->Bool
 |.v _=>Â
 |.i _=>Â
 |.ix a b=>mv a&&mv b
 |.fd _ _ o=>mv o
 |_=>Ã
theorem k4{P:Prop}(h:Ã=Â):P:=nomatch h
theorem bI{α:Type}{P:Prop}{m:α}(h:Á=À m):P:=nomatch h
theorem dg{a b:Bool}{P:Prop}(h:(a&&b)=Â)(H:a=Â->b=Â->P):P:=by cases a;exact k4 h;exact H rfl h
theorem lj{a b c:Bool}{P:Prop}(h:(a&&b&&c)=Â)(H:a=Â->b=Â->c=Â->P):P:=dg h fun x y=>dg x fun e d=>H e d y
theorem qU{a b c d:Bool}{P:Prop}(h:(a&&b&&c&&d)=Â)(H:a=Â->b=Â->c=Â->d=Â->P):P:=dg h fun x y=>lj x fun g f e=>H g f e y
section
variable{α β γ δ ε:Type}
noncomputable def gu(k c:Bool)(x:Option α):Option α:=match k with
 |false=>x
 |true=>if c=Â then x else Á
noncomputable def m2(f:α->β->γ)(x:Option α)(y:Option β):Option γ:=x.bind fun a=>y.map (f a)
def m3(f:α->β->γ->δ)(x:Option α)(y:Option β)(z:Option γ):Option δ:=x.bind fun a=>m2 (f a) y z
theorem aK{k c:Bool}{x:Option α}{m:α}{P:Prop}(a:k=Â)(h:gu k c x=À m)(H:c=Â->x=À m->P):P:=by
 subst a;cases c
 ·exact bI h
 ·exact H rfl h
@[elab_as_elim] theorem cx{f:α->β}{x:Option α}{m:β}{P:β->Prop}(h:x.map f=À m)(H:∀a,x=À a->P (f a)):P m:=by
 cases x with
 |none=>exact bI h
 |some a=>cases h;exact H a rfl
@[elab_as_elim] theorem b0{f:α->β->γ}{x:Option α}{y:Option β}{m:γ}{P:γ->Prop}(h:m2 f x y=À m)(H:∀a b,x=À a->y=À b->P (f a b)):P m:=by
 cases x with
 |none=>exact bI h
 |some a=>exact cx h fun b c=>H a b rfl c
@[elab_as_elim] theorem kD{f:α->β->γ->δ}{x:Option α}{y:Option β}{z:Option γ}{m:δ}{P:δ->Prop}(h:m3 f x y z=À m)(H:∀a b c,x=À a->y=À b->z=À c->P (f a b c)):P m:=by
 cases x with
 |none=>exact bI h
 |some a=>exact b0 h fun b c e d=>H a b c rfl e d
theorem gE{x:Option α}{f:α->Option β}{m:β}{P:Prop}(h:x.bind f=À m)(H:∀a,x=À a->f a=À m->P):P:=by
 cases x with
 |none=>exact bI h
 |some a=>exact H a rfl h
noncomputable def at_(x:Í):List Í->Nat->Option Nat
 |[],_=>Á
 |y::l,k=>if(y==x)=Â then À k else at_ x l (k+1)
theorem C2{x:Í}:∀{l:List Í}{k j:Nat},at_ x l k=À j->∃i,j=k+i/\l[i]?=À x
 |[],_,_,h=>bI h
 |y::l,k,j,h=>by
  unfold at_ at h;split at h
  ·rename_i e;cases h;exact⟨0,rfl,by rw[yJ e];rfl⟩
  ·obtain⟨i,e1,e2⟩:=C2 h
   exact⟨i+1,by lia,e2⟩
theorem Iz{x:Í}{l:List Í}{j:Nat}(h:at_ x l 0=À j):l[j]?=À x:=by
 obtain⟨i,e,h⟩:=C2 h;rw[e,Nat.zero_add];exact h
noncomputable def lk(x:Í):List (Í×α)->Option α
 |[]=>Á
 |p::l=>if(p.1==x)=Â then À p.2 else lk x l
theorem rC{x:Í}{v:α}:∀{l:List (Í×α)},lk x l=À v->(x,v)∈l
 |[],h=>bI h
 |p::l,h=>by
  unfold lk at h;split at h
  ·rename_i e;cases h;rw[<- yJ e];exact z7
  ·exact zQ _ (rC h)
def tT(f:Í):List (Í×List Í)->Option Í
 |[]=>Á
 |p::l=>match at_ f p.2 0 with
  |some _=>À p.1
  |none=>tT f l
theorem Ae{f c:Í}:∀{l:List (Í×List Í)},tT f l=À c->∃fs,(c,fs)∈l/\f∈fs
 |[],h=>bI h
 |p::l,h=>by
  unfold tT at h;split at h
  ·rename_i e;cases h;exact⟨p.2,z7,zW (Iz e)⟩
  ·obtain⟨fs,h1,h2⟩:=Ae h
   exact⟨fs,zQ _ h1,h2⟩
noncomputable def By(n:Nat):List Nat->Bool
 |[]=>Ã
 |m::l=>(m==n)||By n l
def hB(C:SC)(p:ė)(k:Nat):Bool:=By (((p.line*1000+p.col)*1000+p.endCol)*8+k) C.hs
end
noncomputable def nmO:Î->Option Í
 |.Name x _=>À x
 |_=>Á
theorem yj{e:Î}(h:nmO e=À x):∃p,e=.Name x p:=by
 cases e with
 |Name y p=>cases h;exact⟨p,rfl⟩
 |_=>exact bI h
noncomputable def lsO:Î->Option (List Î)
 |.List es _=>À es
 |_=>Á
theorem Ho{e:Î}(h:lsO e=À es):∃p,e=.List es p:=by
 cases e with
 |List y p=>cases h;exact⟨p,rfl⟩
 |_=>exact bI h
noncomputable def cN:Î->Bool
 |.Constant .none _ _=>Â
 |_=>Ã
theorem C1{e:Î}(h:cN e=Â):∃a p,e=.Constant .none a p:=by
 cases e with
 |Constant c a p=>cases c with
  |none=>exact⟨a,p,rfl⟩
  |_=>exact k4 h
 |_=>exact k4 h
noncomputable def kX:Const->Option Ex
 |.none=>À .n
 |.bool b=>À (.b b)
 |.int i=>À (.i i)
 |.str s=>À (.s s)
 |_=>Á
structure Tr where
 E:SC->Î->Option Ex
 T:SC->Î->Option Tx
 G:SC->Î->Option Tg
 S:SC->ľ->Option Sx
def Cj(C:SC)(x:Í):Option Ex:=match at_ x C.N 0 with
 |some k=>gu C.ck (AA C x&&Ab x) (À (.v k))
 |none=>(lk x C.gs).bind fun c=>gu C.ck (jz C x&&(qx c).isSome) (À (.g x c))
section
variable(r:Tr)(C:SC)
def kW:List Î->Option Exs
 |[]=>À .nil
 |e::es=>gu C.ck (cG e) (m2 .cons (r.E C e) (kW es))
noncomputable def trO:Option Î->Option Ox
 |none=>À .no
 |some e=>(r.E C e).map .so
def vU:List Î->Option Tgs
 |[]=>À .nil
 |e::es=>gu C.ck (cG e) (m2 .cons (r.G C e) (vU es))
def oq:List ľ->Option Pc
 |[]=>À .nil
 |s::ss=>m2 .cons (r.S C s) (oq ss)
noncomputable def Lx:J!->Ex->Ex->Ex
 |.And=>.an
 |.Or=>.or
noncomputable def Lw:J!->Tx->Tx->Tx
 |.And=>.an
 |.Or=>.or
def vY(o:J!):List Î->Option Ex
 |[]=>Á
 |[x]=>r.E C x
 |x::y::es=>m2 (Lx o) (r.E C x) (vY o (y::es))
def vW(o:J!):List Î->Option Tx
 |[]=>Á
 |[x]=>r.T C x
 |x::y::es=>m2 (Lw o) (r.T C x) (vW o (y::es))
noncomputable def trC:List Î->Option Cx'
 |[]=>À .no
 |[e]=>(r.T C e).map .so
 |_=>Á
def trR(es:List Î):Option Ix:=match es with
 |[a]=>(r.E C a).map .r1
 |[a,b]=>m2 .r2 (r.E C a) (r.E C b)
 |[a,b,c]=>m3 .r3 (r.E C a) (r.E C b) (r.E C c)
 |_=>Á
def trZ(es:List Î):Option Ix:=match es with
 |[a,b]=>m2 .zi (r.E C a) (r.E C b)
 |_=>Á
def trEn(a:Î)(kws:List Ŏ):Option Ix:=match kws with
 |[]=>(r.E C a).map .en
 |[⟨À y,b,_⟩]=>gu C.ck (y==("start":Í)) (m2 .es (r.E C a) (r.E C b))
 |_=>Á
def trIc(t e:Î)(es:List Î)(kws:List Ŏ)(o:Option Í):Option Ix:=match o with
 |some x =>
  if(x==("range":Í))=Â then gu C.ck (jz C "range"&&kws.isEmpty&&es.all cG) (trR r C es)
  else if(x==("zip":Í))=Â then gu C.ck (jz C "zip"&&kws.isEmpty&&es.all cG&&!sK t) (trZ r C es)
  else if(x==("enumerate":Í))=Â then gu C.ck (jz C "enumerate"&&es.all cG&&!sK t) (match es with
   |[a]=>trEn r C a kws
   |_=>Á)
  else(r.E C e).map .e
 |none=>(r.E C e).map .e
def trI(t e:Î):Option Ix:=match e with
 |.Call f es kws _=>trIc r C t e es kws (nmO f)
 |_=>(r.E C e).map .e
def trL(elt:Î)(gens:List Comprehension)(sc:ĝ):Option Nx:=match gens with
 |[⟨t,it,cs,i⟩]=>gu C.ck (t8 C sc&&(i==0)&&Bv it) ((trI r C t it).bind fun x=>(r.G (blk C sc) t).bind fun g=>gu C.ck (pR C.N.length g) (m2 (.lc ((eP C sc).length-C.N.length) x g) (trC r (blk C sc) cs) (r.E (blk C sc) elt)))
 |_=>Á
def trLr(p:ė)(es:List Î):Option Ex:=match es with
 |[a]=>(r.E C a).map fun a=>.nw (hB C p 0) (.lr1 a)
 |[a,b]=>m2 (fun a b=>.nw (hB C p 0) (.lr2 a b)) (r.E C a) (r.E C b)
 |_=>Á
def trLf(p:ė)(a:Î):Option Ex:=match a with
 |.Call f es kws _=>gu C.ck ((match nmO f with|some y=>y==("range":Í)|none=>Ã)&&kws.isEmpty&&jz C "range"&&es.all cG) (trLr r C p es)
 |a=>(r.E C a).map fun a=>.nw (hB C p 0) (.lof a)
def trF1(x:Í)(p:ė)(es:List Î):Option Ex:=match es with
 |[a] =>
  gu C.ck (x==("list":Í)&&jz C "list"&&cG a) (trLf r C p a)
 |_=>Á
def AG(x:Í)(es:List Î)(p:ė)(j:Nat)(o:Option (List Í)):Option Ex:=match o with
 |some _=>gu C.ck (Lk C j x (es.length+1)&&jz C x&&!es.isEmpty&&es.all cG) ((kW r C es).map (.ne x j))
 |_=>gu C.ck (Ll C j x es.length&&jz C x&&es.all cG) ((kW r C es).map (.ca (!hB C p 6) j))
def AH(x:Í)(es:List Î)(p:ė)(o:Option Bi):Option Ex:=match o with
 |some b=>gu C.ck (jz C x&&!es.isEmpty&&es.all cG) ((kW r C es).map (.bi b))
 |none=>trF1 r C x p es
def Ck(x:Í)(es:List Î)(p:ė):Option Ex:=match at_ x C.cn 0 with
 |some j=>AG r C x es p j (lk x C.cl)
 |none=>AH r C x es p (lk x Ir)
def trK(x:Í)(es:List Î)(kws:List Ŏ):Option Ex:=match es with
 |[a]=>(match kws with
  |[⟨À y,d,_⟩]=>gu C.ck (x==("min":Í)&&y==("default":Í)&&cN d&&(jz C "min"&&cG a)) ((r.E C a).map .mnd)
  |[⟨À y,.Lambda ps body sc lp,_⟩,⟨À z,d,_⟩]=>gu C.ck (x==("min":Í)&&y==("key":Í)&&z==("default":Í)&&(cN d&&jz C "min"&&cG a&&(Nr C lp&&BH C sc ps))) ((r.E C a).bind fun a=>(r.E (Hz C sc) body).bind fun b=>gu C.ck (mv b) (À (.mnk a b)))
  |_=>Á)
 |_=>Á
noncomputable def miA(q:Mi)(es:List Î):Mi:=match q,es with
 |q,_=>q
def Fh(o:Î)(m:Í)(ap:ė)(es:List Î)(p:ė):Option Ex:=gu C.ck (es.all cG&&T9 es.length 30&&pV o&&(ap.endLine==p.line)) (match at_ m C.cn 0 with
 |some j=>C.cl.head?.bind fun q=>gu C.ck (Lj C j q.1 m (es.length+1)) (m2 (.me q.1 m j) (r.E C o) (kW r C es))
 |none=>(lk m Hg).bind fun q=>m2 (.mt (miA q es)) (r.E C o) (kW r C es))
def trSl(a:Î)(l h st:Option Î)(p:ė):Option Ex:=match st with
 |none =>
  m3 (fun a l h=>.nw (hB C p 0) (.sl a l h)) (r.E C a) (trO r C l) (trO r C h)
 |some s=>gu C.ck (l.isNone&&h.isNone) (m2 (fun a s=>.nw (hB C p 0) (.rev a s)) (r.E C a) (r.E C s))
def trCe(a:Î)(os:List ϙ)(bs:List Î):Option Ex:=match os with
 |[o]=>(match bs with
  |[b]=>gu C.ck (my o b) (m2 (.cmp o) (r.E C a) (r.E C b))
  |_=>Á)
 |_=>Á
def trCt(a:Î)(os:List ϙ)(bs:List Î):Option Tx:=match os with
 |[o]=>(match bs with
  |[b]=>gu C.ck (my o b) (m2 (.cmp o) (r.E C a) (r.E C b))
  |_=>Á)
 |_=>Á
def trE(e:Î):Option Ex:=match e with
 |.Constant k _ _=>kX k
 |.Name x _=>Cj C x
 |.BinOp a o b p =>
  if hB C p 1=Â then gu C.ck (decide (o=.Add)) (m2 (fun x y=>.nw (hB C p 0) (.cat x y)) (r.E C a) (r.E C b)) else
  (match lsO a with
  |some es=>gu C.ck (decide (o=.Mult)) (m2 (fun x y=>.nw (hB C p 0) (.rep x y)) (kW r C es) (r.E C b))
  |none=>m2 (.bin o) (r.E C a) (r.E C b))
 |.Compare a os bs _=>trCe r C a os bs
 |.UnaryOp o a _=>(match o with
  |.Not=>(r.E C a).map .no
  |o=>(r.E C a).map (.un o))
 |.BoolOp o es _=>vY r C o es
 |.IfExp t a b _=>m3 .ife (r.T C t) (r.E C a) (r.E C b)
 |.Subscript a i p=>(match i with
  |.Slice l h st _=>trSl r C a l h st p
  |i=>gu C.ck (j5 i) (m2 .ix (r.E C a) (r.E C i)))
 |.Tuple es _ _=>(kW r C es).map .tu
 |.List es p=>(kW r C es).map fun x=>.nw (hB C p 0) (.li x)
 |.ListComp elt gens sc p=>(trL r C elt gens sc).map fun x=>.nw (hB C p 0) x
 |.Dict ks vs _=>gu C.ck (ks.isEmpty&&vs.isEmpty) (À .dn)
 |.Attribute o f _=>(tT f C.cl).bind fun c=>gu C.ck (pV o) ((r.E C o).map (.fd c f))
 |.Call f es kws p=>(match f with
  |.Name x _=>(match kws with
   |[]=>Ck r C x es p
   |kws=>trK r C x es kws)
  |.Attribute o m ap=>gu C.ck kws.isEmpty (Fh r C o m ap es p)
  |_=>Á)
 |_=>Á
def trT(e:Î):Option Tx:=match e with
 |.UnaryOp o a p=>(match o with
  |.Not=>(r.T C a).map .no
  |o=>(r.E C (.UnaryOp o a p)).map .va)
 |.BoolOp o es _=>vW r C o es
 |.Compare a os bs _=>trCt r C a os bs
 |e=>gu C.ck (xW e) ((r.E C e).map .va)
def pO(x:Í):Option Tg:=(at_ x C.N 0).bind fun k=>gu C.ck (wN C x&&Ab x) (À (.nm k))
def trG(e:Î):Option Tg:=match e with
 |.Name x _=>pO C x
 |.Tuple es _ _=>gu C.ck (es.all cG) ((vU r C es).map (.tu es.length))
 |.Subscript a b _=>gu C.ck (j5 b) (m2 .su (r.E C a) (r.E C b))
 |_=>Á
def Hw(C:SC)(x:Í):Bool:=match kd C x with
 |some .local=>Â
 |_=>Ã
def Np(C:SC):Î->Bool
 |.Name x _=>!Hw C x
 |_=>Â
noncomputable def Lv:Î->Bool
 |.Constant ..=>Â
 |_=>Ã
def AE(ts vs:List Î)(k kq:Nat)(p q:ė):Option Sx:=gu C.ck (vs.all Lv||ts.any (Np C)) (m2 .as (r.E C (.Tuple vs kq q)) (r.G C (.Tuple ts k p)))
def trAn(x:Í)(v:Î):Option Sx:=match v with
 |.ListComp elt gens sc q=>m2 .as ((trL r C elt gens sc).map fun x=>.nw (hB C q 0) x) (pO C x)
 |v=>gu C.ck (oH v) (m2 .as (r.E C v) (pO C x))
def trAs(t v:Î):Option Sx:=match t with
 |.Attribute o f _=>(tT f C.cl).bind fun c=>m2 (.fl c f) (r.E C o) (r.E C v)
 |.Name x _=>trAn r C x v
 |.Subscript a b p=>m2 .as (r.E C v) (r.G C (.Subscript a b p))
 |.Tuple ts k p=>(match v with
  |.Tuple vs kq q=>AE r C ts vs k kq p q
  |v=>gu C.ck (sK v&&oH v) (m2 .as (r.E C v) (r.G C (.Tuple ts k p))))
 |_=>Á
def trS(s:ľ):Option Sx:=match s with
 |.Expr e _=>gu C.ck (oH e) ((r.E C e).map .ex)
 |.Assign ts v _=>(match ts with
  |[t]=>trAs r C t v
  |_=>Á)
 |.AugAssign t o v _=>(match t with
  |.Name x _=>(at_ x C.N 0).bind fun k=>gu C.ck (wN C x&&Ab x) ((r.E C v).map (.au k o))
  |.Subscript a b _=>gu C.ck (j5 b) (m3 (.aus o) (r.E C a) (r.E C b) (r.E C v))
  |_=>Á)
 |.Return e _=>(match e with
  |none=>Á
  |some e=>(r.E C e).map .rt)
 |.If t a b _=>m3 .iff (r.T C t) (oq r C a) (oq r C b)
 |.For t it b els p=>gu C.ck (els.isEmpty&&Bv it) (
  if hB C p 4=Â then m3 .fd (r.E C it) (r.G C t) (oq r C b) else
  m3 .fo (trI r C t it) (r.G C t) (oq r C b))
 |.While t b els _=>gu C.ck els.isEmpty (m2 .wh (r.T C t) (oq r C b))
 |.Raise _ _ _=>À .dead
 |_=>Á
end
theorem HN{α:Type}{c:Bool}{x:Option α}:gu Ã c x=x:=rfl
theorem Ew{a b:String}(h:ÿ a=ÿ b):a=b:=by
 rw[Str.ofString_eq_byList]at h;have h:=congrArg (fun x=>x.cps.toList) h;exact String.toList_inj.mp (List.map_inj_right (fun x y e=>Char.toNat_inj.mp e) |>.mp h)
theorem G4{a b:String}:(ÿ a==ÿ b)=decide (a=b):=by
 by_cases h:a=b
 ·subst h;simp
 ·rw[z9 h]
  exact beq_eq_false_iff_ne.mpr fun e=>h (Ew e)
def tr:Nat->Tr
 |0=>⟨fun _ _=>Á,fun _ _=>Á,fun _ _=>Á,fun _ _=>Á⟩
 |n+1=>⟨trE (tr n),trT (tr n),trG (tr n),trS (tr n)⟩
section
variable{n:Nat}
theorem LR:(tr (n+1)).E=trE (tr n):=rfl
theorem LO:(tr (n+1)).T=trT (tr n):=rfl
theorem LQ:(tr (n+1)).G=trG (tr n):=rfl
theorem LP:(tr (n+1)).S=trS (tr n):=rfl
end
theorem uS:type_of% @trS.eq_def:=@trS.eq_def
theorem uE:type_of% @trE.eq_def:=@trE.eq_def
theorem uT:type_of% @trT.eq_def:=@trT.eq_def
theorem uG:type_of% @trG.eq_def:=@trG.eq_def
theorem M8:type_of% @trAs.eq_def:=@trAs.eq_def
theorem M9:type_of% @trAn.eq_def:=@trAn.eq_def
theorem uK:type_of% @trK.eq_def:=@trK.eq_def
theorem M7:type_of% @trCe.eq_def:=@trCe.eq_def
theorem M6:type_of% @trCt.eq_def:=@trCt.eq_def
theorem uI:type_of% @trI.eq_def:=@trI.eq_def
theorem MZ:type_of% @trIc.eq_def:=@trIc.eq_def
theorem MW:type_of% @trSl.eq_def:=@trSl.eq_def
theorem uL:type_of% @trL.eq_def:=@trL.eq_def
theorem M5:type_of% @trEn.eq_def:=@trEn.eq_def
theorem uR:type_of% @trR.eq_def:=@trR.eq_def
theorem uZ:type_of% @trZ.eq_def:=@trZ.eq_def
theorem M4:type_of% @trF1.eq_def:=@trF1.eq_def
theorem MY:type_of% @trLf.eq_def:=@trLf.eq_def
theorem MX:type_of% @trLr.eq_def:=@trLr.eq_def
theorem uO:type_of% @trO.eq_def:=@trO.eq_def
theorem uC:type_of% @trC.eq_def:=@trC.eq_def
theorem uX:type_of% @kX.eq_def:=@kX.eq_def
theorem uM:type_of% @nmO.eq_def:=@nmO.eq_def
theorem uN:type_of% @lsO.eq_def:=@lsO.eq_def
theorem uP:type_of% @miA.eq_def:=@miA.eq_def
def IJ[O2](P:Ò)(w:Ú)(K:Þ)(mg:Í->Option Å)(base:è)(A:ć)(fn:Fn):Ke->Prop
 |.f x n=>∃d f fd ps,ps.length=n/\FnOk P w K mg base fj d f fd ps (dO ⟨K,mg⟩ ps.length fn)/\Room d A/\mg x=À (.ref f)/\Ĺ K (.ref f)=Â/\Binds K fd ps []
 |.m c m n=>∃d f fd ps C,ps.length=n/\FnOk P w K mg base fj d f fd ps (dO ⟨K,mg⟩ ps.length fn)/\Room d A/\mg c=À (.ref C)/\Cls K C/\kS K C m f/\Binds K fd ps []
 |.k c n=>∃d f fd ps C,ps.length=n/\FnOk P w K mg base fj d f fd ps (dO ⟨K,mg⟩ ps.length fn)/\Room (d+1) A/\mg c=À (.ref C)/\Mk K C f/\Binds K fd ps []
structure Fit[O2](X:Cx)(C:SC)(ks:List Fn):Prop where
 N:X.N=C.N
 ck:C.ck=Â
 nm:X.env.scope.names=C.nm
 nd:C.N.Nodup
 kind:X.env.scope.kind=.function
 calm:X.calm=Â
 cf:∀x∈C.cf,X.fn x=Â
 hu:X.A.units+64<ř
 gd:X.A.guards=À []
 bl:∀x∈bnames,X.mg x=Á
 po:Ϝ (model X.prog X.w) X.A X.env X.xe
 ke:∀(j:Nat) k,C.ke[j]?=À k->IJ X.prog X.w X.K X.mg X.base X.A (kf ks j) k
 gs:∀p∈C.gs,∀w,qx p.2=À w->∃u,X.mg p.1=À u/\RelV w u
 cl:∀p∈C.cl,∃Ca,X.mg p.1=À (.ref Ca)/\Cls X.K Ca/\∀f∈p.2,NoAttr X.K Ca f
 la:∀p∈C.la,Room 2 X.A/\∃c P,X.env.code=.ref c/\X1 X.base c P/\jN X.mg X.base/\(P,p,X.env.qual++"<lambda>")∈O2.tb/\∀t∈O2.tb,t.1=P->t=(P,p,X.env.qual++"<lambda>")
section
variable{X:Cx}{C:SC}{ks:List Fn}
theorem Fit.kdO[O2](F:Fit X C ks)(x:Í):X.env.kindOf x=kd C x:=by unfold kd;rw[<- F.nm];rfl
theorem Fit.vis[O2](F:Fit X C ks)(h:AA C x=Â):vJ X.env.scope x:=by
 unfold AA kd at h;rw[<- F.nm]at h;unfold vJ;split at h
 ·rename_i e;exact .inl e
 ·rename_i e;exact .inr (.inl e)
 ·rename_i e;exact .inr (.inr e)
 ·cases h
theorem Fit.loc[O2](F:Fit X C ks)(h:wN C x=Â):L2.Loc X.env.scope x/\(X.fn x=Â\/X.env.scope.names.lookup x=À .local):=by
 unfold wN kd at h;rw[<- F.nm]at h;unfold L2.Loc;split at h
 ·rename_i e;exact⟨.inl e,.inr e⟩
 ·rename_i e;exact⟨.inr e,.inl (F.cf x (by simpa using h))⟩
 ·cases h
theorem tP(h:Ab x=Â):(x==("__debug__":Í))=Ã/\(x==("__classdict__":Í))=Ã:=dg h fun b a=>⟨by simpa using b,by simpa using a⟩
theorem Fit.gl[O2](F:Fit X C ks)(h:jz C x=Â):Gl X x/\(x==("__debug__":Í))=Ã:=by
 unfold jz at h;refine dg h fun a b=>⟨?_,(tP b).1⟩
 unfold Gl;rw[F.kdO];split at a
 ·rename_i e;exact e
 ·cases a
theorem Fit.nmb[O2](F:Fit X C ks){k:Nat}(h:at_ x C.N 0=À k):X.N[k]?=À x:=by rw[F.N];exact Iz h
theorem Fit.clb[O2](F:Fit X C ks){c f:Í}(h:tT f C.cl=À c):∃Ca,X.mg c=À (.ref Ca)/\Cls X.K Ca/\NoAttr X.K Ca f:=by
 obtain⟨fs,g,e⟩:=Ae h;obtain⟨Ca,a,b,d⟩:=F.cl _ g;exact⟨Ca,a,b,d f e⟩
theorem Fit.blt[O2](F:Fit X C ks)(h:x∈bnames):X.mg x=Á:=F.bl x h
theorem Ic(b:Ŭ):Lr b=(b==Ù):=by cases b<;>rfl
theorem Ip(o:Option Ŭ):CZ o=(o==À Ę):=by
 cases o with
 |none=>rfl
 |some k=>cases k<;>rfl
theorem Fit.blk[O2](F:Fit X C ks)(h:t8 C sc=Â):jX X (eP C sc) sc/\∀cl s H fp O0,Fit (cJ X (eP C sc) sc cl s H fp O0) (R.blk C sc) ks:=by
 unfold t8 at h;simp only[zC,yB]at h;obtain⟨⟨⟨⟨u,r⟩,z⟩,y⟩,w⟩:=h;have t:sc.kind=.function:=by
  split at u
  ·rename_i e;exact e
  ·cases u
 have j:C.N.length<=(eP C sc).length:=by unfold eP;rw[zV,zH];lia
 have l:∀x,(x,Ù)∈sc.names->X.env.kindOf x=À .cell\/X.env.kindOf x=À .free:=fun x f=>by
  have:=yQ.mp y _ f
  simp only at this;rw[F.kdO];split at this
  ·rename_i e;exact .inl e
  ·rename_i e;exact .inr e
  ·cases this
 have m:∀i x,i<X.N.length->(eP C sc)[i]?=À x->(∀k,(x,k)∈sc.names->k=.free/\X.N[i]?=À x):=fun i x d e k c=>by
  rw[F.N]at d ⊢
  have:=yQ.mp w i (Ë.mpr d)
  rw [e] at this;simp only at this;have v:=di r c;rw [v] at this;cases k <;> simp only at this <;> first | (cases this;done) | exact ⟨rfl,of_decide_eq_true this⟩
 refine ⟨⟨t,r,by rw [F.N];exact j,l,fun i x d e c=>(m i x d e _ c).2,fun i x d e n=>by obtain ⟨k,c⟩:=n;have:=(m i x d e k c).1;subst this;exact c⟩,fun cl s H fp O0=>?_⟩;refine ⟨rfl,F.ck,?_,z,t,F.calm,fun x f=>?_,F.hu,F.gd,F.bl,PassesOwn.never,F.ke,F.gs,F.cl,fun p q=>absurd (show p ∈ ([]:List ė) from q) (by simp)⟩
 ·show(relabel sc X.env).names=_
  unfold relabel R.blk;dsimp only;rw[F.kind,F.ck];apply ý;intro p _;obtain⟨a,b⟩:=p;simp only[F.kdO,Ic,Ip];simp
 ·unfold R.blk at f
  rw[F.ck]at f;obtain⟨p,q,e⟩:=yC.mp f;obtain⟨o,g⟩:=Ñ.mp q;obtain⟨a,b⟩:=p;dsimp only at e g;subst e;have:b=.cell:=by cases b<;>first|rfl|cases g
  subst this;show(sc.names.lookup a==À Ę)=Â;rw[di r o];rfl
end
section
variable{X:Cx}{C:SC}{ks:List Fn}
theorem Fit.lam[O2](F:Fit X C ks)(n:Room 2 X.A)(h:BH C sc ps=Â):∃x,xm X (eP C sc) sc x/\plainA ps=Â/\ps.args.map (·.arg)=[x]/\W7 ps X.env=([],[]) /\
  ∀cl f q cd s H,Fit (tQ X (eP C sc) sc cl f q cd X.A.in1 s H) (Hz C sc) ks:=by
 unfold BH at h;simp only[zC]at h;obtain⟨⟨⟨⟨⟨⟨⟨b,D⟩,B⟩,A⟩,z⟩,w⟩,a⟩,v⟩:=h;obtain⟨m,_⟩:=F.blk b;split at a
 ·rename_i x y ex E
  simp only[zC]at a;have g:=yJ a.1;subst g;have u:sc.names.lookup x=À .local:=by
   have:=a.2
   split at this
   ·rename_i e;exact e
   ·cases this
  have l:eP C sc=(C.N.map fun x=>if tm sc x=Â then x else HM C.ck x)++[x]:=by unfold eP;rw[ex]
  refine⟨x,⟨m,by simpa using D,by simpa using B,by rw[l,F.N];simp,by rw[l,F.N];simp,u,fun y o e=>?_⟩,A,E,?_,fun cl f q cd s H=>?_⟩
  ·have:=yQ.mp v y o
   rw[e]at this;cases this
  ·obtain⟨a1,a2,N,M,K,L,J⟩:=ps
   have I:J=[]:=é.mp z;have G:K=[]:=é.mp w;subst I;subst G;rfl
  ·have c:(eP C sc).Nodup:=by
    unfold t8 at b;simp only[zC,yB]at b;exact b.1.1.2
   have d:sc.kind=.function:=m.kind;have r1:Room 1 X.A.in1:=n.in1;have i:=Room.deeper r1 (W6 sc s.heap.objs.size Ð cl (q++".<locals>.") (À f) cd Á ĕ);refine ⟨rfl,F.ck,(by show _=ux C.ck sc.names;rw [F.ck];rfl),c,d,rfl,fun x r=>absurd (show x ∈ ([]:List Í) from r) (by simp),i.units,i.gd,F.bl,PassesOwn.never,fun j k e=>absurd (show ([]:List Ke)[j]?=À k from e) (by simp),F.gs,F.cl,fun p t=>absurd (show p ∈ ([]:List ė) from t) (by simp)⟩
 ·cases a
end
mutual
theorem uJ{n:Nat}:∀{t:Tg},pR n t=Â->pF n (cB ks t)
 |.nm k,h=>by
  simp only[pR]at h;have hk:=zS h;simp only[cB];intro x d c b a e;cases e;exact⟨ą,fun j f=>í oM⟩
 |.tu m ts,h=>by
  simp only[pR]at h;simp only[cB];intro x d c b a e;unfold zn at e;split at e
  ·split at e
   ·exact nK h _ _ _ _ _ e
   ·cases e
  ·split at e
   ·split at e
    ·exact nK h _ _ _ _ _ e
    ·cases e
   ·cases e
 |.su _ _,h=>by simp only[pR]at h;cases h
theorem nK{n:Nat}:∀{ts:Tgs},rh n ts=Â->∀xs sl st sl' st',jT ks ts xs sl st=À (sl',st')->sl'.length=sl.length/\∀j,j<n->sl'[j]?=sl[j]?
 |.nil,_,xs,sl,st,sl',st',e=>by
  simp only[jT]at e;cases xs with
  |nil=>cases e;exact⟨rfl,fun _ _=>rfl⟩
  |cons _ _=>cases e
 |.cons t ts,h,xs,sl,st,sl',st',e=>by
  simp only[rh,zC]at h;simp only[jT]at e;cases xs with
  |nil=>cases e
  |cons x xs =>
   obtain⟨p,e1,e2⟩:=zA e;obtain⟨a1,a2⟩:=uJ h.1 _ _ _ _ _ e1;obtain⟨c,b⟩:=nK h.2 _ _ _ _ _ e2;exact⟨c.trans a1,fun j a=>(b j a).trans (a2 j a)⟩
end
theorem mD{r:Tr}(b:C.ck=Â):∀{es:List Î}{as:Exs},kW r C es=À as->∀sl st xs st',eN ks as sl st=À (xs,st')->xs.length=es.length
 |[],as,h,sl,st,xs,st',e=>by cases h;cases e;rfl
 |x::es,as,h,sl,st,xs,st',e=>by
  refine aK b h fun _ h=>?_
  revert e
  refine b0 h fun a as _ h2 e=>?_
  obtain⟨p,e1,e2⟩:=zA e;obtain⟨q,d,c⟩:=zA e2;cases c;rw[yX,yX,mD b h2 _ _ _ _ d]
theorem KJ:å "len"=À (.builtin "len"):=by decide +kernel
theorem KD:å "sum"=À (.builtin "sum"):=by decide +kernel
theorem KM:å "abs"=À (.builtin "abs"):=by decide +kernel
theorem KH:å "min"=À (.builtin "min"):=by decide +kernel
theorem KI:å "max"=À (.builtin "max"):=by decide +kernel
theorem KK:å "int"=À (.type "int"):=by decide +kernel
section
variable{X:Cx}{C:SC}{ks:List Fn}
theorem KC[O2](F:Fit X C ks)(b:Bi){e:Î}{es:List Î}{g:AF}{p pos:ė}(h:jz C b.nm=Â)(d:QA X (e::es) g)(f:(e::es).all cG=Â):QE X (.Call (.Name b.nm p) (e::es) [] pos) (uf (pv b) g):=by
 have gl:=F.gl h;rw[Ļ,zC]at f;have c:=aE (env:=X.env) (es:=es) f.1;have a:=i7 (env:=X.env) (pos:=pos) f.2;cases b with
 |len=>exact oy Ky gl.1 (F.blt dC) KJ d dC gl.2 c a
 |sum=>exact oy (Kv F.calm) gl.1 (F.blt dC) KD d dC gl.2 c a
 |abs=>exact oy KA gl.1 (F.blt dC) KM d dC gl.2 c a
 |min=>exact oy (Kw F.calm) gl.1 (F.blt dC) KH d dC gl.2 c a
 |max=>exact oy (Kx F.calm) gl.1 (F.blt dC) KI d dC gl.2 c a
 |int=>exact Jq Kz gl.1 (F.blt dC) KK d dC gl.2 c a
theorem JM[O2](F:Fit X C ks)(m:Mi){o:Î}{es:List Î}{f:EF}{g:AF}{n p:ė}(h:QE X o f)(j:QA X es g)(r:es=[]->g=eF)(k:es.all cG=Â)(q:es.length<30)(l:pV o=Â)(b:(n.endLine==p.line)=Â) :
  QE X (.Call (.Attribute o m.nm n) es [] p) (lX (qB m) (qA m) f g):=by
 cases es with
 |nil =>
  have:=r rfl
  subst this;have a:=gq (env:=X.env) (f:=m.nm) (eval o X.env) l;cases m with
  |app=>exact lB Ø d! c! CG h a b
  |pop=>exact lB Ø l! k? CC h a b
  |ext=>exact lB Ø c? b? CD h a b
  |rem=>exact lB Ø Ś b! CB h a b
  |cnt=>exact lB Ø š f? (CF F.hu) h a b
 |cons e es =>
  have a:=gq (env:=X.env) (f:=m.nm) (eval o X.env) l;have c:=few (env:=X.env) (cpos:=p) k q;rw[Ļ,zC]at k;have i:=aE (env:=X.env) (es:=es) k.1;have d:=i7 (env:=X.env) (pos:=p) k.2;cases m with
  |app=>exact ox Ø d! c! CG h j a c b i d
  |pop=>exact ox Ø l! k? CC h j a c b i d
  |ext=>exact ox Ø c? b? CD h j a c b i d
  |rem=>exact ox Ø Ś b! CB h j a c b i d
  |cnt=>exact ox Ø š f? (CF F.hu) h j a c b i d
theorem GJ[O2]{P:Ò}{w:Ú}{K:Þ}{mg:Í->Option Å}{a:è}{k:Nat}{f:Ç}{fd:Ē}{ps:List Í}{n:Nat}{fn:Fn}(b:Bool)(F:FnOk P w K mg a fj k f fd ps (dO ⟨K,mg⟩ n fn)):FnOk P w K mg a fj k f fd ps (dO ⟨K,mg⟩ n (jt b fn)):=by
 cases b
 ·exact F
 ·exact FnOk.pm F
end
theorem kB{ks:List Fn}:∀{e:Ex},mv e=Â->Da (ev ks e)
 |.v k,_=>fun sl st v st' e=>by
  have e:aV k sl st=À (v,st'):=e;unfold aV at e;split at e
  ·cases e;rfl
  ·cases e
 |.i k,_=>fun sl st v st' e=>by
  cases e;rfl
 |.ix a b,h=>fun sl st v st' e=>by
  refine dg h fun n m=>?_
  obtain⟨p,j,i⟩:=zA e;obtain⟨q,l,g⟩:=zA i;obtain⟨z,r,d⟩:=zE.mp g;cases d;rw[kB m _ _ _ _ l,kB n _ _ _ _ j]
 |.fd c f o,h=>fun sl st v st' e=>by
  obtain ⟨p,j,i⟩:=zA e;obtain ⟨q,l,g⟩:=zA i;obtain ⟨z,r,d⟩:=zE.mp g;cases d;rw [kB (show mv o=Â from h) _ _ _ _ j]
theorem JP{α d c:Type}{f:α->d->c}{x:Option α}{y:Option d}{m:c}(h:m2 f x y=À m):∃a b,x=À a/\y=À b/\m=f a b:=b0 h fun a b g e=>⟨a,b,g,e,rfl⟩
structure B8[O2](r:Tr)(ks:List Fn):Prop where
 E:∀{X:Cx}{C:SC}{e:Î}{m:Ex},Fit X C ks->r.E C e=À m->QE X e (ev ks m)
 T:∀{X:Cx}{C:SC}{e:Î}{m:Tx},Fit X C ks->r.T C e=À m->QT X e (tv ks m)
 G:∀{X:Cx}{C:SC}{e:Î}{m:Tg},Fit X C ks->r.G C e=À m->QG X e (cB ks m)
 S:∀{X:Cx}{C:SC}{s:ľ}{m:Sx},Fit X C ks->r.S C s=À m->QS X s (cW ks m)
section
variable[O2]{ks:List Fn}{r:Tr}(R:B8 r ks){X:Cx}{C:SC}(F:Fit X C ks)
include R F
theorem gx:∀{es:List Î}{m:Exs},kW r C es=À m->QA X es (eN ks m)
 |[],m,h=>by cases h;exact eM
 |e::es,m,h=>aK F.ck h fun h0 h=>b0 h fun a as h1 h2=>cQ (R.E F h1) (gx h2) (aE h0)
theorem xB{e:Option Î}{m:Ox}(h:trO r C e=À m):QO X e (tL ks m):=by
 cases e with
 |none=>cases h;exact DL
 |some e=>exact cx h fun a h=>DK (R.E F h)
theorem i5:∀{ss:List ľ}{m:Pc},oq r C ss=À m->nB X ss (af ks m)
 |[],m,h=>by cases h;exact DF
 |s::ss,m,h=>b0 h fun a as h1 h2=>A1 (R.S F h1) (i5 h2)
theorem uD:∀{es:List Î}{m:Tgs},vU r C es=À m->Ao X es (jT ks m)
 |[],m,h=>by cases h;exact DQ
 |e::es,m,h=>aK F.ck h fun h0 h=>b0 h fun a as h1 h2=>A4 (R.G F h1) (uD h2) (BT h0)
theorem pQ{o:J!}{p:ė}:∀{x:Î}{es:List Î}{m:Ex},vY r C o (x::es)=À m->QE X (.BoolOp o (x::es) p) (ev ks m)
 |x,[],m,h=>by cases o<;>exact GS (R.E F h)
 |x,y::es,m,h=>b0 h fun a b h1 h2=>by
  cases o
  ·exact Gy (R.E F h1) (pQ h2)
  ·exact Jr (R.E F h1) (pQ h2)
theorem pP{o:J!}{p:ė}:∀{x:Î}{es:List Î}{m:Tx},vW r C o (x::es)=À m->QW X (.BoolOp o (x::es) p) (tv ks m)
 |x,[],m,h=>F0 o (R.T F h)
 |x,y::es,m,h=>b0 h fun a b h1 h2=>by
  cases o
  ·exact F4 (R.T F h1) (pP h2)
  ·exact Ji (R.T F h1) (pP h2)
theorem Ft{es:List Î}{m:Cx'}(h:trC r C es=À m):vK X es (jC ks m):=by
 rcases es with _|⟨e,_|_⟩
 ·cases h;exact DO
 ·exact cx h fun a h=>DN (R.T F h)
 ·exact bI h
omit R in
theorem Fd{x:Í}{p:ė}{m:Ex}(h:Cj C x=À m):QE X (.Name x p) (ev ks m):=by
 unfold Cj at h;split at h
 ·rename_i k g
  refine aK F.ck h fun e h=>dg e fun d a=>?_
  cases h;exact Gp (F.nmb g) (F.vis d) (tP a).1 (tP a).2
 ·refine gE h fun c i h=>aK F.ck h fun e h=>dg e fun d a=>?_
  cases h;obtain⟨w,f⟩:=Ĵ.mp a;obtain⟨u,b,j⟩:=F.gs _ (rC i) w f;obtain⟨g1,l⟩:=F.gl d;exact sF f (Ep g1 b j l) fun _ _ _ h=>h
omit R F in
theorem xA{t:Î}(h:(!sK t)=Â):∃ts k p,t=.Tuple ts k p:=by
 cases t with
 |Tuple ts k p=>exact⟨ts,k,p,rfl⟩
 |_=>exact k4 h
theorem xE{t e:Î}{m:Ix}(h:trI r C t e=À m):QI X t e (d3 ks m):=by
 have v:∀{m},(r.E C e).map .e=À m->QI X t e (d3 ks m):=fun h=>cx h fun a h=>Mm (R.E F h)
 cases e with
 |Call f es kws p =>
  have h:trIc r C t _ es kws (nmO f)=À m:=h;cases i:nmO f with
  |none=>rw[i]at h;exact v h
  |some x =>
   rw[i]at h;obtain⟨q,rfl⟩:=yj i;unfold trIc at h;split at h
   ·rename_i w
    rw[yJ w];refine aK F.ck h fun u g=>lj u fun o D j=>?_
    cases é.mp D;rcases es with _|⟨a,_|⟨b,_|⟨c,_|_⟩⟩⟩
    ·exact bI g
    ·refine dg j fun l _=>?_
     exact cx g fun x i=>Jn (F.gl o).1 (F.blt dC) (R.E F i) (aE l)
    ·refine dg j fun l j=>dg j fun n _=>?_
     exact b0 g fun x y i s=>Jm (F.gl o).1 (F.blt dC) (R.E F i) (R.E F s) (by rw[aE l,aE n];rfl) (aE n)
    ·refine dg j fun l j=>dg j fun n j=>dg j fun B _=>?_
     exact kD g fun x y z i s hz=>Jl (F.gl o).1 (F.blt dC) (R.E F i) (R.E F s) (R.E F hz) (by rw[aE l,aE n,aE B];rfl) (by rw[aE n,aE B];rfl) (aE B)
    all_goals exact bI g
   ·split at h
    ·rename_i w
     rw[yJ w];refine aK F.ck h fun u g=>qU u fun o D j A=>?_
     cases é.mp D;obtain⟨E,k,tp,rfl⟩:=xA A;rcases es with _|⟨a,_|⟨b,_|⟨c,_|⟨d,_|_⟩⟩⟩⟩
     ·exact bI g
     ·exact bI g
     ·refine dg j fun l j=>dg j fun n _=>?_
      exact b0 g fun x y i s=>Gj (F.gl o).1 (F.blt dC) (R.E F i) (R.E F s) (by rw[aE l,aE n];rfl) (aE n)
     ·exact bI g
     all_goals exact bI g
    ·split at h
     ·rename_i w
      rw[yJ w];refine aK F.ck h fun u g=>lj u fun o j A=>?_
      obtain⟨E,k,tp,rfl⟩:=xA A;rcases es with _|⟨a,_|_⟩
      ·exact bI g
      ·refine dg j fun l _=>?_
       unfold trEn at g;dsimp only at g;split at g
       ·exact cx g fun x i=>Jo (F.gl o).1 (F.blt dC) (R.E F i) (aE l)
       ·refine aK F.ck g fun u g=>?_
        rw[yJ u];exact b0 g fun x y i s=>Gk (F.gl o).1 (F.blt dC) (R.E F i) (R.E F s) (aE l)
       ·exact bI g
      ·exact bI g
     ·exact v h
 |_=>exact v h
theorem xD{elt:Î}{gens:List Comprehension}{sc:ĝ}{m:Nx}(h:trL r C elt gens sc=À m):∃t it cs x g c y N',gens=[⟨t,it,cs,0⟩]/\m=.lc (N'.length-X.N.length) x g c y/\jX X N' sc/\QI X t it (d3 ks x)/\(∀cl s H fp O0,QG (cJ X N' sc cl s H fp O0) t (cB ks g))/\(∀cl s H fp O0,vK (cJ X N' sc cl s H fp O0) cs (jC ks c)) /\
  (∀cl s H fp O0,QE (cJ X N' sc cl s H fp O0) elt (ev ks y))/\pF X.N.length (cB ks g)/\(∀x,ô it X.env x=pure x):=by
 unfold trL at h;split at h
 ·rename_i t it cs i
  refine aK F.ck h fun p h=>lj p fun o n l=>gE h fun x d h=>gE h fun g e h=>aK F.ck h fun j k=>?_
  cases yJ n;obtain⟨T,a⟩:=F.blk o;obtain⟨c,y,f,b,rfl⟩:=JP k;exact⟨t,it,cs,x,g,c,y,eP C sc,rfl,by rw[F.N],T,xE R F d,fun cl s H fp O0=>R.G (a cl s H fp O0) e,fun cl s H fp O0=>Ft R (a cl s H fp O0) f,fun cl s H fp O0=>R.E (a cl s H fp O0) b,by rw[F.N];exact uJ j,sj l⟩
 ·exact bI h
theorem Do{x:Í}{es:List Î}{p e:ė}{m:Ex}(h:trF1 r C x e es=À m):QE X (.Call (.Name x p) es [] e) (ev ks m):=by
 rcases es with _|⟨a,_|⟨b,_|_⟩⟩
 ·exact bI h
 ·skip
  refine aK F.ck h fun s g=>lj s fun d o z=>?_
  rw[yJ d];clear h;have t:∀{m},((r.E C a).map fun a=>Ex.nw (hB C e 0) (.lof a))=À m->QE X (.Call (.Name "list" p) [a] [] e) (ev ks m):=fun h=>cx h fun y h=>g9 (Gh (F.gl o).1 (F.blt dC) (R.E F h) (aE z))
  cases a with
  |Call f es' kws' q =>
   refine aK F.ck g fun s k=>qU s fun n w v i=>?_
   obtain⟨A,rfl⟩:∃q,f=.Name "range" q:=by
    split at n
    ·rename_i y j
     obtain⟨q,rfl⟩:=yj j;rw[yJ n];exact⟨q,rfl⟩
    ·exact k4 n
   cases é.mp w;rcases es' with _|⟨a,_|⟨b,_|⟨c,_|_⟩⟩⟩
   ·exact bI k
   ·exact dg i fun l _=>cx k fun x d=>g9 (Gg F.calm (F.gl o).1 (F.blt dC) (F.gl v).1 (F.blt dC) (R.E F d) (aE l))
   ·exact dg i fun l i=>dg i fun u _=>b0 k fun x y d j=>g9 (Gf F.calm (F.gl o).1 (F.blt dC) (F.gl v).1 (F.blt dC) (R.E F d) (R.E F j) ((aE l).trans (by rw[aE u];rfl)) (aE u))
   ·exact bI k
   all_goals exact bI k
  |_=>first|exact t g|exact bI g
 all_goals exact bI h
theorem Fl{x:Í}{es:List Î}{p E:ė}{m:Ex}(h:Ck r C x es E=À m):QE X (.Call (.Name x p) es [] E) (ev ks m):=by
 unfold Ck at h;split at h
 ·rename_i j _
  unfold AG at h;split at h
  ·refine aK F.ck h fun i h=>qU i fun a n D c=>cx h fun I h=>?_
   unfold Lk at a;split at a
   ·rename_i S k B
    refine dg a fun a1 a2=>?_
    obtain⟨d,f,P,w,T,A,Fn,s,H,M,l⟩:=F.ke j _ B;rw[yJ a1]at H;obtain⟨g1,u⟩:=F.gl n;cases es with
    |nil=>exact k4 D
    |cons Q o =>
     have t:w.length=o.length+2:=by rw[A];exact yJ a2
     refine dg c fun c N=>?_
     exact Gs M Fn s g1 H l (gx R F h) (fun L K J v e=>by rw[t,mD F.ck h _ _ _ _ e];rfl) u (aE c) (i7 N)
   ·exact k4 a
  ·refine aK F.ck h fun i h=>lj i fun a n c=>cx h fun I h=>?_
   unfold Ll at a;split at a
   ·rename_i y m B
    refine dg a fun a i=>?_
    obtain⟨d,f,P,w,A,Fn,s,z,G,l⟩:=F.ke j _ B;obtain⟨g1,u⟩:=F.gl n;rw[yJ a]at z;have t:w.length=es.length:=by rw[A];exact yJ i
    cases es with
    |nil=>cases h;exact A6 (GJ _ Fn) s g1 z G l t u
    |cons Q o =>
     refine dg c fun c O=>?_
     exact DW (GJ _ Fn) s g1 z G l (gx R F h) (fun L K J v e=>by rw[t];exact mD F.ck h _ _ _ _ e) u (aE c) (i7 O)
   ·exact k4 a
 ·unfold AH at h
  split at h
  ·rename_i b l
   refine aK F.ck h fun i h=>lj i fun a n D=>cx h fun I g=>?_
   cases es with
   |nil=>exact k4 n
   |cons e es =>
    obtain rfl:x=b.nm:=(show ∀ q ∈ Ir,q.1=q.2.nm by decide) _ (rC l);exact KC F b a (gx R F g) D
  ·exact Do R F h
theorem Fi{x:Í}{es:List Î}{kws:List Ŏ}{p K:ė}{m:Ex}(h:trK r C x es kws=À m):QE X (.Call (.Name x p) es kws K) (ev ks m):=by
 unfold trK at h;split at h
 rotate_left
 ·exact bI h
 split at h
 ·refine aK F.ck h fun u h=>qU u fun t o n b=>dg b fun b l=>cx h fun y g=>?_
  obtain⟨a,q,rfl⟩:=C1 n;rw[yJ t,yJ o];exact DT F.calm (F.gl b).1 (F.blt dC) (R.E F g) (aE l)
 ·rename_i a y ps D sc B p1 z d p2
  refine aK F.ck h fun u h=>qU u fun t o n b=>qU b fun b l U k=>dg k fun k S=>gE h fun y L h=>gE h fun w M h=>aK F.ck h fun Q h=>?_
  cases h;obtain⟨a,q,rfl⟩:=C1 b;rw[yJ t,yJ o,yJ n];obtain⟨q,N,i⟩:=ĭ.mp k;have v:q=B:=by
   refine qU i fun J I G E=>?_
   cases q;cases B;cases yJ J;cases yJ I;cases yJ G;cases yJ E;rfl
  subst v;obtain⟨A,c,P,g1,Z,Y,W,V⟩:=F.la q N;obtain⟨x,T,O,j,e,FL⟩:=F.lam A S;exact DS F.calm (F.gl l).1 (F.blt dC) (R.E F L) (aE U) e g1 Z Y W T O j A.in1.depth (kB Q) (fun cl f c' s H=>R.E (FL cl f _ _ s H) M) V
 ·exact bI h
theorem Fg{o:Î}{f:Í}{z p:ė}{es:List Î}{m:Ex}(h:Fh r C o f z es p=À m):QE X (.Call (.Attribute o f z) es [] p) (ev ks m):=by
 refine aK F.ck h fun L h=>qU L fun g K u t=>?_
 have c:es.length<30:=zJ (ĳ _) (zS K);split at h
 ·rename_i j _
  refine gE h fun q _ h=>aK F.ck h fun l h=>?_
  revert h;intro h
  refine b0 h fun a N i b=>?_
  unfold Lj at l;split at l
  ·rename_i V D k I
   refine lj l fun a1 a2 O=>?_
   obtain⟨d,U,T,B,W,H,Fn,w,s,cl,n,y⟩:=F.ke j _ I;rw[yJ a1]at s;rw[yJ a2]at n;have x:B.length=es.length+1:=by rw[H];exact yJ O
   cases es with
   |nil=>cases b;exact A5 (R.E F i) cl s n Fn w y x (ve u g c t)
   |cons M v =>
    have E:=ve (env:=X.env) (f:=f) (o:=o) (es:=M::v) u g c t;refine dg g fun g J=>?_
    exact DU (R.E F i) cl s n Fn w y (gx R F b) (fun S Q P A e=>by rw[x,mD F.ck b _ _ _ _ e]) (aE g) (i7 J) E
  ·exact k4 l
 ·refine gE h fun q G h=>b0 h fun a N i b=>?_
  have e:f=(miA q es).nm:=by
   have e:=(show ∀ q ∈ Hg,q.1=q.2.nm by decide) _ (rC G);dsimp only at e;rw [e];cases q <;> first | rfl | (cases es <;> rfl)
  subst e;exact JM F _ (R.E F i) (gx R F b) (fun e=>by subst e;cases b;rfl) g c u t
theorem Dm{a:Î}{l h s:Option Î}{p q:ė}{m:Ex}(e:trSl r C a l h s p=À m):QE X (.Subscript a (.Slice l h s q) p) (ev ks m):=by
 cases s with
 |none =>
  unfold trSl at e;exact kD e fun x y z c b hz=>g9 (Jk (R.E F c) (xB R F b) (xB R F hz))
 |some s =>
  refine aK F.ck e fun i g=>dg i fun f d=>?_
  cases l with
  |some _=>exact k4 f
  |none=>cases h with
   |some _=>exact k4 d
   |none=>exact b0 g fun x y c b=>g9 (Gb (R.E F c) (R.E F b))
theorem Fm{e:Î}{m:Ex}(h:trE r C e=À m):QE X e (ev ks m):=by
 cases e with
 |Constant k a p=>cases k with
  |none=>cases h;exact sF (w:=.non) rfl GU fun _ _ _ h=>h
  |bool b=>cases h;exact sF rfl JI fun _ _ _ h=>h
  |int b=>cases h;exact sF rfl GV fun _ _ _ h=>h
  |str b=>cases h;exact sF rfl GR fun _ _ _ h=>h
  |_=>exact bI h
 |Name x p=>exact Fd F h
 |BinOp a o b p =>
  unfold trE at h;split at h
  ·refine aK F.ck h fun j g=>?_
   cases of_decide_eq_true j;exact b0 g fun x y d n=>g9 (Gi (R.E F d) (R.E F n))
  ·split at h
   ·rename_i u B
    obtain⟨q,rfl⟩:=Ho B;refine aK F.ck h fun j g=>?_
    cases of_decide_eq_true j;exact b0 g fun x y d n=>g9 (Gc (gx R F d) (R.E F n))
   ·exact b0 h fun x y d n=>Gx (R.E F d) (R.E F n)
 |Compare a os bs p =>
  have h:trCe r C a os bs=À m:=h;rcases os with _|⟨o,_|⟨M,_|_⟩⟩
  ·exact bI h
  ·rcases bs with _|⟨b,_|_⟩<;>first|exact bI h|exact aK F.ck h fun j h=>b0 h fun x y d n=>Gw F.hu (R.E F d) (R.E F n) j
  ·exact bI h
  ·exact bI h
 |UnaryOp o a p=>cases o with
  |Not=>exact cx h fun x d=>Gr (R.E F d)
  |_=>exact cx h fun x d=>Jp (R.E F d)
 |BoolOp o u p=>cases u with
  |nil=>exact bI h
  |cons x u=>exact pQ R F h
 |IfExp t a b p=>exact kD h fun x y z d n hz=>Jt (R.T F d) (R.E F n) (R.E F hz)
 |Subscript a i p=>cases i with
  |Slice l h' s q=>exact Dm R F h
  |_=>exact aK F.ck h fun j h=>b0 h fun x y d n=>Js F.hu (R.E F d) (R.E F n) (JZ j)
 |Tuple u k p=>exact cx h fun x d=>Gq (gx R F d)
 |List u p=>exact cx h fun x d=>g9 (DM (gx R F d))
 |ListComp elt gens sc p =>
  refine cx h fun x d=>?_
  obtain⟨t,it,N,i,g,c,y,O,rfl,rfl,T,a1,a2,L,K,J,I⟩:=xD R F d;exact g9 (Cv F.calm T a1 a2 L K J I)
 |Dict k v p =>
  refine aK F.ck h fun j g=>dg j fun H G=>?_
  cases g;cases é.mp H;cases é.mp G;exact DV Bp
 |Attribute o f p =>
  refine gE h fun c D h=>aK F.ck h fun j h=>cx h fun x d=>?_
  obtain⟨P,E,cl,A⟩:=F.clb D;exact Gu (R.E F d) cl E A (gq _ j)
 |Call f u kws p=>cases f with
  |Name x q=>cases kws with
   |nil=>exact Fl R F h
   |cons _ _=>exact Fi R F h
  |Attribute o f q =>
   refine aK F.ck h fun j g=>?_
   cases é.mp j;exact Fg R F g
  |_=>exact bI h
 |_=>exact bI h
theorem Fe{e:Î}{m:Tx}(h:trT r C e=À m):QT X e (tv ks m):=by
 cases e with
 |UnaryOp o a p=>cases o with
  |Not=>exact cx h fun x c=>F5 (R.T F c)
  |_=>exact cx h fun x c=>xP (R.E F c) (uA rfl)
 |BoolOp o f p=>cases f with
  |nil=>exact bI h
  |cons x f=>exact PW.pt (pP R F h)
 |Compare a os bs p =>
  have h:trCt r C a os bs=À m:=h;rcases os with _|⟨o,_|⟨i,_|_⟩⟩
  ·exact bI h
  ·rcases bs with _|⟨b,_|_⟩<;>first|exact bI h|exact aK F.ck h fun d h=>b0 h fun x y c g=>F6 F.hu (R.E F c) (R.E F g) d
  ·exact bI h
  ·exact bI h
 |_=>exact aK F.ck h fun d h=>cx h fun x c=>xP (R.E F c) (uA d)
omit R in
theorem ww{x:Í}{m:Tg}(h:pO C x=À m):∃k,m=.nm k/\X.N[k]?=À x/\L2.Loc X.env.scope x/\(X.fn x=Â\/X.env.scope.names.lookup x=À .local):=by
 refine gE h fun k c h=>aK F.ck h fun e h=>dg e fun d _=>?_
 cases h;obtain⟨b,a⟩:=F.loc d;exact⟨k,rfl,F.nmb c,b,a⟩
theorem Fj{e:Î}{m:Tg}(h:trG r C e=À m):QG X e (cB ks m):=by
 have i:X.N.Nodup:=by rw[F.N];exact F.nd
 cases e with
 |Name x p =>
  obtain⟨k,rfl,a,b,c⟩:=ww F h;exact DR i a b c
 |Tuple es k p=>exact aK F.ck h fun f h=>cx h fun x d=>Gn F.calm (uD R F d) BU (BV f)
 |Subscript a b p=>exact aK F.ck h fun f h=>b0 h fun x y d g=>Go F.hu (R.E F d) (R.E F g) (FJ f)
 |_=>exact bI h
end
theorem xI{env:R?}{e o i:Î}{p:ė}{l:Nat}:Ϩ [.Subscript o i p] e l env=pure Ã:=by cases e<;>rfl
theorem qu{env:R?}{e:Î}{es:List Î}{k:Nat}{p:ė}{l:Nat}:Ϩ [.Tuple es k p] e l env=pure Ã:=by cases e<;>rfl
theorem AR{ts vs:List Î}{k b:Nat}{p a:ė}{env:R?}(h:vs.all Lv=Â):Ħ [.Tuple ts k p] (.Tuple vs b a) env=pure Á:=by
 have c:vs.all (foldedForSure 8)=Â:=yQ.mpr fun e d=>by
  have:=yQ.mp h e d
  cases e<;>first|rfl|cases this
 unfold Ħ;simp only[c,↓reduceIte]
 repeat' split
 all_goals rfl
theorem AQ{ts vs:List Î}{k c:Nat}{p b:ė}{env:R?}(h:∃e∈ts,∀x p,e=.Name x p->env.kindOf x≠À .local):Ħ [.Tuple ts k p] (.Tuple vs c b) env=pure Á:=by
 obtain⟨e,d,h⟩:=h;unfold Ħ;simp only;split
 ·rfl
 split
 ·rfl
 split
 ·rfl
 rename_i a;exfalso;simp only[Bool.or_eq_true,bne_iff_ne,ne_eq,not_or,Decidable.not_not]at a
 have:=List.filterMap_length_eq_length.mp a.1 e d
 cases e <;> first | (cases this;done) | skip
 rename_i x p
 have:=h x p rfl
 simp_all
section
variable[O2]{ks:List Fn}{r:Tr}(R:B8 r ks){X:Cx}{C:SC}(F:Fit X C ks)
include R F
theorem Dn{ts vs:List Î}{k f:Nat}{q d p:ė}{m:Sx}(h:AE r C ts vs k f q d=À m):QS X (.Assign [.Tuple ts k q] (.Tuple vs f d) p) (cW ks m):=by
 refine aK F.ck h fun b h=>b0 h fun x g i j=>sE (R.E F i) (R.G F j) qu ?_ (p9 rfl)
 rcases ϐ.mp b with b|b
 ·exact AR b
 ·obtain⟨e,l,a⟩:=ĭ.mp b
  refine AQ ⟨e,l,fun x p ex=>?_⟩;subst ex;intro c;have c:X.env.scope.names.lookup x=À .local:=c;have a:(!Hw C x)=Â:=a;unfold Hw kd at a;rw[<- F.nm,c]at a;cases a
theorem Dp{t v:Î}{p:ė}{m:Sx}(h:trAs r C t v=À m):QS X (.Assign [t] v p) (cW ks m):=by
 have z:X.N.Nodup:=by rw[F.N];exact F.nd
 have nm:∀{x q v m},oH v=Â->m2 Sx.as (r.E C v) (pO C x)=À m->QS X (.Assign [.Name x q] v p) (cW ks m):=fun j h=>b0 h fun a g s e=>by
  obtain⟨k,rfl,a1,a2,u⟩:=ww F e;exact xR z a1 a2 (R.E F s) (uQ j) u
 cases t with
 |Name x q=>cases v with
  |ListComp elt gens sc q2 =>
   refine b0 h fun a g s e=>?_
   clear h;obtain⟨k,rfl,D,B,A⟩:=ww F e;refine cx s fun y J=>?_
   obtain⟨t,it,N,i,g,c,y,P,rfl,rfl,T,a1,a2,u,H,G,E⟩:=xD R F J;have d:=FG (env:=X.env) (elt:=elt) (gens:=[⟨t,it,N,0⟩]) (sc:=sc) (pos:=q2) (t:=x) (p:=q) (l:=p.line) F.kind;cases n:K5 X.env.scope.names x q.line sc q2.line with
   |false=>rw[n]at d;exact xR z D B (g9 (Cv F.calm T a1 a2 u H G E)) d A
   |true=>rw[n]at d;exact xQ z D B d F.calm T a1 a2 u H G E A
  |_=>exact aK F.ck h fun j h=>nm j h
 |Subscript a b q=>exact b0 h fun x g w e=>sE (R.E F w) (R.G F e) xI AO (p9 rfl)
 |Tuple ts k q=>cases v with
  |Tuple vs k2 q2=>exact Dn R F h
  |_=>exact aK F.ck h fun j h=>dg j fun j O=>b0 h fun x g w e=>sE (R.E F w) (R.G F e) qu (AN j) (p9 rfl)
 |Attribute o f q =>
  refine gE h fun c K h=>b0 h fun a b s L=>?_
  obtain⟨Q,M,cl,I⟩:=F.clb K;exact F9 (R.E F s) (R.E F L) cl M I AK
 |_=>exact bI h
theorem Ff{s:ľ}{m:Sx}(h:trS r C s=À m):QS X s (cW ks m):=by
 cases s with
 |Expr e p=>exact aK F.ck h fun f h=>cx h fun x c=>DH (R.E F c) (uQ f)
 |Assign ts v p =>
  rcases ts with _|⟨t,_|_⟩
  ·exact bI h
  ·exact Dp R F h
  ·exact bI h
 |AugAssign t o v p=>cases t with
  |Name x q =>
   refine gE h fun k u h=>aK F.ck h fun f h=>dg f fun i _=>cx h fun y d=>?_
   obtain⟨n,l⟩:=F.loc i;exact Ga (by rw[F.N];exact F.nd) (F.nmb u) n (R.E F d) l
  |Subscript a b q=>exact aK F.ck h fun f h=>kD h fun x y z c d hz=>DJ F.hu (R.E F c) (R.E F d) (R.E F hz) (Iy f)
  |_=>exact bI h
 |Return e p=>cases e with
  | none=>first | exact bI h | (cases h;exact qs_retN)
  |some e=>exact cx h fun x c=>F7 (R.E F c)
 |If t a b p=>exact kD h fun x y z c d hz=>Jj (R.T F c) (i5 R F d) (i5 R F hz)
 |For t it b els p =>
  refine aK F.ck h fun f g=>dg f fun i j=>?_
  cases é.mp i;split at g
  ·exact kD g fun x y z c d hz=>DG F.po F.calm (R.E F c) (R.G F d) (i5 R F hz) (sj j)
  exact kD g fun x y z c d hz=>F8 F.po F.calm (xE R F c) (R.G F d) (i5 R F hz) (sj j)
 |While t b els p =>
  refine aK F.ck h fun f g=>?_
  cases é.mp f;exact b0 g fun x y c d=>A2 F.po (R.T F c) (i5 R F d)
 |Raise=>cases h;exact DI
 |_=>exact bI h
end
theorem om[O2]{ks:List Fn}:∀n:Nat,B8 (tr n) ks
 |0=>⟨fun _ h=>bI h,fun _ h=>bI h,fun _ h=>bI h,fun _ h=>bI h⟩
 |n+1=>⟨fun F h=>Fm (om n) F h,fun F h=>Fe (om n) F h,fun F h=>Fj (om n) F h,fun F h=>Ff (om n) F h⟩
section
variable(P:Ò)(w:Ú)(K:Þ)(mg:Í->Option Å)(base:è)
def NX[O2](d:Nat)(x:Í)(n:Nat)(fn:Fn):Prop:=∃f fd ps,ps.length=n/\FnOk P w K mg base fj d f fd ps (dO ⟨K,mg⟩ ps.length fn)/\mg x=À (.ref f)/\Ĺ K (.ref f)=Â/\Binds K fd ps []
def NN[O2](d:Nat)(c m:Í)(n:Nat)(fn:Fn):Prop:=∃f fd ps C,ps.length=n/\FnOk P w K mg base fj d f fd ps (dO ⟨K,mg⟩ ps.length fn)/\mg c=À (.ref C)/\Cls K C/\kS K C m f/\Binds K fd ps []
def NM[O2](d:Nat)(c:Í)(n:Nat)(fn:Fn):Prop:=∃f fd ps C,ps.length=n/\FnOk P w K mg base fj d f fd ps (dO ⟨K,mg⟩ ps.length fn)/\mg c=À (.ref C)/\Mk K C f/\Binds K fd ps []
def KOk[O2](d:Nat)(fn:Fn):Ke->Prop
 |.f x n=>NX P w K mg base d x n fn
 |.m c m n=>NN P w K mg base d c m n fn
 |.k c n=>NM P w K mg base d c n fn
def KsOk[O2](d:Nat):List Ke->List Fn->Prop
 |[],_=>True
 |k::ke,fn::ks=>KOk P w K mg base d fn k/\KsOk d ke ks
 |_::_,[]=>False
structure Ev(gs:List (Í×AV))(cl:List (Í×List Í)):Prop where
 bl:∀x∈bnames,mg x=Á
 gs:∀p∈gs,∀w,qx p.2=À w->∃u,mg p.1=À u/\RelV w u
 cl:∀p∈cl,∃Ca,mg p.1=À (.ref Ca)/\Cls K Ca/\∀f∈p.2,NoAttr K Ca f
end
section
variable{P:Ò}{w:Ú}{K:Þ}{mg:Í->Option Å}{base:è}{d d':Nat}{fn:Fn}
theorem KOk.mono[O2](h:d<=d'):∀{k:Ke},KOk P w K mg base d fn k->KOk P w K mg base d' fn k
 |.f _ _,⟨f,fd,ps,e,F,r⟩=>⟨f,fd,ps,e,F.mono h,r⟩
 |.m _ _ _,⟨f,fd,ps,C,e,F,r⟩=>⟨f,fd,ps,C,e,F.mono h,r⟩
 |.k _ _,⟨f,fd,ps,C,e,F,r⟩=>⟨f,fd,ps,C,e,F.mono h,r⟩
theorem KsOk.at[O2]:∀{ke:List Ke}{ks:List Fn}{j:Nat}{k:Ke},KsOk P w K mg base d ke ks->ke[j]?=À k->KOk P w K mg base d (kf ks j) k
 |[],_,_,_,_,e=>by simp at e
 |k::ke,[],_,_,h,_=>h.elim
 |k::ke,fn::ks,0,_,h,e=>by simp at e;subst e;exact h.1
 |k::ke,fn::ks,j+1,_,h,e=>by
  have:=KsOk.at (j:=j) h.2 (by simpa using e)
  exact this
theorem KOk.ok[O2](hr:Room (d+1) A):∀{k:Ke},KOk P w K mg base d fn k->IJ P w K mg base A fn k
 |.f _ _,⟨f,fd,ps,e,F,m,kp,b⟩=>⟨d,f,fd,ps,e,F,hr.mono (ž d),m,kp,b⟩
 |.m _ _ _,⟨f,fd,ps,C,e,F,m,c,me,b⟩=>⟨d,f,fd,ps,C,e,F,hr.mono (ž d),m,c,me,b⟩
 |.k _ _,⟨f,fd,ps,C,e,F,m,mk,b⟩=>⟨d,f,fd,ps,C,e,F,hr,m,mk,b⟩
end
def fU(st:ľ):List Í:=(cS st).args.map (·.arg)
noncomputable def Ia(N ps:List Í)(sc:ĝ):Bool:=(match sc.kind with|.function=>Â|_=>Ã)&&!sc.isCoroutine&&!sc.isGenerator&&decide N.Nodup&&decide (N.take ps.length=ps) &&
 (ps.all fun x=>match sc.names.lookup x with|some .local=>Â|some .cell=>Â|_=>Ã)&&(sc.names.all fun p=>match p.2 with|.free=>Ã|_=>Â)
theorem H0(h:Ia N ps sc=Â):mM N ps sc:=by
 unfold Ia at h;simp only[zC,yB]at h;obtain⟨⟨⟨⟨⟨⟨a,k⟩,j⟩,i⟩,g⟩,f⟩,d⟩:=h;refine⟨?_,by simpa using k,by simpa using j,i,g,fun x c=>?_,fun y b e=>?_⟩
 ·split at a
  ·rename_i e;exact e
  ·cases a
 ·have:=yQ.mp f x c
  split at this
  ·rename_i e;exact .inl e
  ·rename_i e;exact .inr e
  ·cases this
 ·have:=yQ.mp d y b
  rw[e]at this;cases this
structure FH where
 ke:Ke
 qual:Í
 st:ľ
 N:List Í
 cs:List Nat
 d:Nat
 la:List ė
 cn:List Í
 hs:List Nat
def FH.tr(e:FH)(k:Bool)(ke:List Ke)(gs:List (Í×AV))(cl:List (Í×List Í)):Option Pc :=
 gu k (Ia e.N (fU e.st) (bU e.st)&&plainA (cS e.st)&&decide (fU e.st).Nodup) (oq (R.tr 60) ⟨e.N,ux k (bU e.st).names,e.N,ke,gs,cl,e.la,e.cn,e.hs,k⟩ (cR e.st))
section
variable{P:Ò}{w:Ú}{K:Þ}{mg:Í->Option Å}{base:è}{d:Nat}{x qual:Í}{st:ľ}{f:Ç}{fd:Ē}{N:List Í}{ke:List Ke}{ks:List Fn}{gs:List (Í×AV)}{cl:List (Í×List Í)}{la:List ė}{b:Pc}
theorem Ki[O2]{N ps:List Í}{k:Nat}{b:SF}(F:Fun K x qual st f fd)(S:mM N ps (bU st))
  (c:∀(A:ć)(outer:List R?)(s:É)(H:Hp)(E:XK),Room k (A.deeper (Ϯ qual (bU st) s.heap.objs.size f fd.code))->nB (qc fj P w K mg base N qual (bU st) f fd.code A outer s H E).nox (cR st) b) :
  FnOk P w K mg base fj (k+1) f fd ps (dO ⟨K,mg⟩ ps.length (run N.length b)):=by
 obtain⟨O,M,kV,J,pm,T,L,ct,C,rfl,lk,i⟩:=F.ex;refine Kh lk i S (fun u H Q E h=>h.1) fun A outer s H u Q E D h=>?_
 obtain⟨R,P,p,n,st,r,z,k⟩:=h;have G:=c A outer s H E D;refine⟨_,PSs.nox G,?_⟩;obtain⟨v,y,e,q⟩:=k;obtain⟨o,I,d⟩:=zA e;refine⟨P,p,_,st,Dw r,z,o,I,?_⟩;cases o with
 |nx sl st1=>cases d;exact fun l a m t j g _=>q l a m .non j g (by simp only[RA])
 |rt v st1=>cases d;exact fun l a m w j g B=>q l a m w j g B
 |bk sl st1=>cases d
 |ct sl st1=>cases d
def uj[O2](mg:Í->Option Å)(base:è)(qual:Í)(cd:Å)(la:List ė):Prop:=∀p∈la,∃c P,cd=.ref c/\X1 base c P/\jN mg base/\(P,p,qual++".<locals>."++"<lambda>")∈O2.tb/\∀t∈O2.tb,t.1=P->t=(P,p,qual++".<locals>."++"<lambda>")
theorem o7[O2]{e:FH}(F:Fun K x qual e.st f fd)(E:Ev K mg gs cl)(g:uj mg base qual fd.code e.la)(l:KsOk P w K mg base d ke ks)(h:e.tr Â ke gs cl=À b) :
  FnOk P w K mg base fj (d+3) f fd (fU e.st) (dO ⟨K,mg⟩ (fU e.st).length (run e.N.length (af ks b)))/\Binds K fd (fU e.st) []:=by
 refine aK rfl h fun r m=>lj r fun q o n=>?_
 have S:=H0 q;refine⟨Ki F S fun A c s H B a=>?_,F.binds fun kV t pm z u y v g=>bind_plain o rfl (of_decide_eq_true n) g⟩;exact i5 (om _) ⟨rfl,rfl,rfl,S.nd,S.kind,rfl,fun _ _=>rfl,a.units,a.gd,E.bl,PassesOwn.never,fun j k e=>(l.at e).ok (a.mono oM),E.gs,E.cl,fun p i=>⟨a.mono oM,g p i⟩⟩ m
end
structure FE extends FH where
 b:Pc
def FE.fn(e:FE)(fs:List Fn):Fn:=run e.N.length (af (e.cs.map (kf fs)) e.b)
def FE.ok[O2](e:FE)(K:Þ)(mg:Í->Option Å)(base:è):Prop:=match e.ke with
 |.f x _=>∃f fd,mg x=À (.ref f)/\Fun K x e.qual e.st f fd/\uj mg base e.qual fd.code e.la
 |.m c m _=>∃f fd C,mg c=À (.ref C)/\Cls K C/\kS K C m f/\Fun K m e.qual e.st f fd/\uj mg base e.qual fd.code e.la
 |.k c _=>∃f fd C,mg c=À (.ref C)/\Mk K C f/\Fun K "__init__" e.qual e.st f fd/\uj mg base e.qual fd.code e.la
noncomputable def Ke.n:Ke->Nat
 |.f _ n=>n
 |.m _ _ n=>n
 |.k _ n=>n
noncomputable def sZ(pre:List FE)(j:Nat):Ke:=match pre[j]? with
 |some e=>e.ke
 |none=>.f "" 0
def FE.chk(gs:List (Í×AV))(cl:List (Í×List Í))(pre:List FE)(e:FE):Option Pc :=
 gu Â (e.ke.n==(fU e.st).length&&e.cs.all (fun j=>match pre[j]? with|some g=>ß (g.d+3) e.d|none=>Ã)&&ß 3 e.d) (e.tr Â (e.cs.map (sZ pre)) gs cl)
def pj(gs:List (Í×AV))(cl:List (Í×List Í)):List FE->List FE->List (Option Pc)
 |_,[]=>[]
 |pre,e::r=>e.chk gs cl pre::pj gs cl (pre++[e]) r
def jA:List Fn->List FE->List Fn
 |fs,[]=>fs
 |fs,e::r=>jA (fs++[e.fn fs]) r
section
variable{P:Ò}{w:Ú}{K:Þ}{mg:Í->Option Å}{base:è}{gs:List (Í×AV)}{cl:List (Í×List Í)}
def rQ[O2](P:Ò)(w:Ú)(K:Þ)(mg:Í->Option Å)(base:è)(pre:List FE)(fs:List Fn):Prop:=pre.length=fs.length/\∀(j:Nat) e,pre[j]?=À e->KOk P w K mg base e.d (kf fs j) e.ke
theorem wQ[O2]{d:Nat}(h:rQ P w K mg base pre fs):∀cs:List Nat,(cs.all fun j=>match pre[j]? with|some g=>ß (g.d+3) (d+3)|none=>Ã)=Â->KsOk P w K mg base d (cs.map (sZ pre)) (cs.map (kf fs))
 |[],_=>trivial
 |j::cs,hc=>by
  rw[Ļ,zC]at hc;refine⟨?_,wQ h cs hc.2⟩;have h1:=hc.1;split at h1
  ·rename_i g a
   have:=h.2 j g a
   unfold sZ;rw[a];exact this.mono (by have:=zS h1;lia)
  ·cases h1
theorem Kk[O2]{pre:List FE}{fs:List Fn}{e:FE}(E:Ev K mg gs cl)(h:rQ P w K mg base pre fs)(k:e.ok K mg base)(r:e.chk gs cl pre=À e.b):KOk P w K mg base e.d (e.fn fs) e.ke:=by
 obtain⟨y,u,v,t⟩:(e.ke.n==(fU e.st).length)=Â/\(e.cs.all fun j=>match pre[j]? with|some g=>ß (g.d+3) e.d|none=>Ã)=Â/\ß 3 e.d=Â/\e.tr Â (e.cs.map (sZ pre)) gs cl=À e.b:=aK rfl r fun z h=>lj z fun a b c=>⟨a,b,c,h⟩
 have i:=yJ y;obtain⟨d,hd⟩:∃d,e.d=d+3:=⟨e.d-3,by have:=zS v;lia⟩;rw[hd]at u ⊢;have q:=wQ h e.cs u;unfold FE.fn;unfold FE.ok at k;split at k
 ·rename_i x n o
  obtain⟨f,l,m,F,L⟩:=k;obtain⟨a1,a2⟩:=o7 (e:=e.toFH) F E L q t;rw[o]at i ⊢;exact⟨f,l,fU e.st,i.symm,a1,m,F.kp,a2⟩
 ·rename_i c m n o
  obtain⟨f,l,C,s,r,p,F,L⟩:=k;obtain⟨a1,a2⟩:=o7 (e:=e.toFH) F E L q t;rw[o]at i ⊢;exact⟨f,l,fU e.st,C,i.symm,a1,s,r,p,a2⟩
 ·rename_i c n o
  obtain⟨f,l,C,s,p,F,L⟩:=k;obtain⟨a1,a2⟩:=o7 (e:=e.toFH) F E L q t;rw[o]at i ⊢;exact⟨f,l,fU e.st,C,i.symm,a1,s,p,a2⟩
theorem zb{j:Nat}(h:j<fs.length):kf (fs++[g]) j=kf fs j:=by
 unfold kf;rw[zD,zD,zN h]
theorem EJ:kf (fs++[g]) fs.length=g:=by
 unfold kf;rw[zD];simp
theorem u6[O2](E:Ev K mg gs cl):∀(rest pre:List FE)(fs:List Fn),rQ P w K mg base pre fs->(∀e∈rest,e.ok K mg base)->pj gs cl pre rest=rest.map (fun e=>À e.b)->rQ P w K mg base (pre++rest) (jA fs rest)
 |[],pre,fs,h,_,_=>by rw[ó];exact h
 |e::r,pre,fs,h,hf,hc=>by
  obtain⟨hc1,hc2⟩:=List.cons.inj hc;have c:=Kk E h (hf e z7) hc1
  have:=u6 E r (pre++[e]) (fs++[e.fn fs]) ⟨by simp[h.1],fun j g a=>?_⟩ (fun g a=>hf g (zQ _ a)) hc2
  ·rw[yM]at this;exact this
  ·rcases yT j pre.length with b|b
   ·rw[zN b]at a
    rw[zb (by rw[<- h.1];exact b)];exact h.2 j g a
   ·have d:j=pre.length:=by
     have:=(zB.mp a).1
     rw[zV]at this;simp at this;lia
    subst d;simp at a;subst a;rw[h.1,EJ];exact c
end
theorem JW[O2]{K:Þ}{mg:Í->Option Å}{H:Hp}{a:Ç}{ns:List Int}{fn:Fn}{E:XK}(k:∃st,fn [.fz (ns.map .int)] []=À (.bl Â,st))(l:bR K H a (ns.map V.int))(g:∀t∈O2.tb,gw H t.1 t.2.1 t.2.2):dO ⟨K,mg⟩ 1 fn [.ref a] H (fun v _=>v=.bl Â) E:=by
 obtain ⟨st,e⟩:=k;refine ⟨rfl,fun c=>∃ b,Rd H c (.lst b),[],[.fz (ns.map .int)],[],aU ?_ bg,Sim.nil (fun c h=>?_) (fun t i=>⟨g t i,fun d=>by obtain ⟨b,z⟩:=d;obtain ⟨n,e,_⟩:=g t i;rcases z with z | ⟨o,z⟩ <;> (rw [e] at z;cases z)⟩),.bl Â,st,e,fun p j m w f s r=>by simpa only [RA] using r⟩
 ·simp only[RA]
  refine⟨a,ns.map V.int,rfl,?_,O6.of_ints⟩;rcases l with h|h
  ·exact .inl ⟨⟨_,h⟩,h⟩
  ·exact .inr fun m=>.inr h
 ·obtain ⟨b,h | ⟨o,h⟩⟩:=h <;> (rw [h];exact fun z=>nomatch z)
end R
namespace L2
open PySem PySem.Spec PyProof.Rows
theorem y9{P:Ò}{w:Ú}{K:Þ}{mg X:Í->Option Å}{CX:l8}{k:Nat}{fa a:Ç}{fd:Ē}{x:Í}{sp:Sp}{c:É}{vs:List Å}{ns:List Int}{tabs:List (Ç×Addr)}
  (KX:K.In c.heap) (B:c.heap.Ns Ð mg) (g:c.heap.Ns ĕ X) (hbb:∀x:Í,x≠"__name__"->X x=å x) (J:c.heap.NoLimit) (hg:c.gens=#[])
  (D:∃D ob,mg "__builtins__"=À (.ref D)/\D≠ĕ/\c.heap.get? D=À ob/\ob.cls=.type "module"/\ob.dict=À ĕ/\ob.data=.plain)
  (p:TabsAt tabs c.heap) (hK0:noTabs K=Â)
  (E:c.heap.get? a=À { cls:=.type "list",data:=.seq vs.toArray }) (hi:ţ vs ns) (hl:ns.length<=Ì) (hr:Room k ż)
  (F:∀base:è,K.In base->base.Ns Ð mg->jN mg base->FnOk P w K mg base CX k fa fd [x] sp) (C:∀(s:É)(u:Å),x! s fd ⟨[u],[]⟩ [(x,u)])
  (Y:∀H:Hp,(∀q∈tabs,H q.2=À (.tbl #[]))->bR K H a (ns.map V.int)->sp [.ref a] H (fun v _=>v=.bl Â) fun _ _ _=>False)
  (hCX:∀H e s',CX [] H c (fun _ _ _=>False) e s'->False) :
  Ō (model P w) ż (.call (.ref fa) ⟨[.ref a],[]⟩) (fun r s'=>r=.ok (.ret (.bool Â))/\OldK c.heap s'.heap/\s'.os=c.os/\ϊ s'.gens) c:=by
 have rv:=xo hi;have I:=hi.length;have y:∀H:Hp,bR K H a (ns.map V.int)->HOk P w H c.heap->(∀b,H b=Á\/(b=a/\K.lookup a=Á/\∃o xs,H b=À (.frz o (.lst xs)))\/(∃q∈tabs,b=q.2/\H b=À (.tbl #[])))->(∀q∈tabs,H q.2=À (.tbl #[])) ->
   Ō (model P w) ż (.call (.ref fa) ⟨[.ref a],[]⟩) (fun r s'=>r=.ok (.ret (.bool Â))/\OldK c.heap s'.heap/\s'.os=c.os/\ϊ s'.gens) c:=by
  intro H hS O8 R hTb;have gq:∀{b:Ç}{o:Y9},c.heap.get? b=À o->H b=Á->(jS c.heap H).get? b=À o:=fun e n=>BL e n
  have none_of:∀{b:Ç}{o:Y9},c.heap.get? b=À o->o.cls≠.type "list"->o≠S4 #[]->H b=Á:=fun {b o} e n1 n2=>by
   rcases R b with z|⟨rfl,_⟩|⟨q,f,rfl,_⟩
   ·exact z
   ·rw[E]at e;cases e;exact absurd rfl n1
   ·rw[(p q f).2]at e;cases e;exact absurd rfl n2
  have j:∀{b:Ç}{o:Y9}{M:Array DictEntry}{N:Nat},c.heap.get? b=À o->o.data=.dict M N->H b=Á:=fun {b o M N} e d=>by
   rcases R b with z|⟨rfl,_⟩|⟨q,f,rfl,_⟩
   ·exact z
   ·rw[E]at e;cases e;cases d
   ·rw[(p q f).2]at e;cases e;cases d
  have l:∀{b:Ç}{m:Í->Option Å},c.heap.Ns b m->(jS c.heap H).Ns b m:=fun {b m} ⟨o,M,N,e,d,r⟩=>⟨o,M,N,gq e (j e d),d,r⟩
  have L:K.In (jS c.heap H):=fun b o e=>gq (KX b o e) (by
   rcases R b with z|⟨rfl,z,_⟩|⟨q,f,rfl,_⟩
   ·exact z
   ·rw[z]at e;cases e
   ·have O:=KX _ o e
    rw[(p q f).2]at O;cases O;have h2:=yQ.mp hK0 _ (mem_of_lookupK e);exact absurd (show Ã=Â from h2) Ĝ)
  have hM:Mod K mg (jS c.heap H):=⟨L,l B,⟨X,l g,hbb⟩,let⟨mc,h1,h2⟩:=J;⟨mc,l h1,h2⟩⟩;have hBM:jN mg (jS c.heap H):=by
   obtain⟨D,ob,b1,b2,T,S,b5,b6⟩:=D;refine⟨D,ob,b1,b2,fun z=>?_,gq T (none_of T (by rw[S];intro z;injection z with z;exact absurd z dC) (fun z=>by rw[z]at S;cases S)),S,b5,b6⟩;obtain⟨o,M,N,e,d,_⟩:=B;rw[z,e]at T;cases T;rw[d]at b6;cases b6
  have e0:Env0 P w K mg (jS c.heap H) ż [] c H:=⟨rfl,hM,fun b o e=>Eu e,Ϥ (zl _ _),trivial,fun b g=>absurd (show b ∈ ([]:List Ç) from g) (by simp),O8,.of_eq hg⟩;refine Š ((F _ L (l B) hBM).run ż [] c H ⟨[.ref a],[]⟩ [.ref a] [.ref a] _ _ hr e0 (C c (.ref a)) (.cons rfl .nil) (Y H hTb hS)) fun r s' h=>?_
  cases r with
  |error e=>exact(hCX H e s' h).elim
  |ok fl =>
   cases fl with
   |next=>exact False.elim h
   |brk=>exact False.elim h
   |cont=>exact False.elim h
   |ret u =>
    obtain⟨v,H',os,Q,un,t,r',q⟩:=h;have q':v=.bl Â:=q;subst q';obtain rfl:u=O! Â:=r';have W:∀b o,c.heap.get? b=À o->asItWas c.heap s'.heap b o:=fun b o e=>by
     rcases R b with z|⟨rfl,_,ob,xs,z⟩|⟨q,f,rfl,z⟩
     ·exact .inl (un.keep b o e z (by intro z;exact absurd (show b ∈ ([]:List Ç) from z) (by simp)) (by simp))
     ·have U:=un.frzs b ob _ z
      obtain⟨O,_⟩:=O8 b _ z;obtain⟨e2,_⟩:=t b _ U;rw[e]at O;cases O;exact .inl e2
     ·obtain⟨G,U⟩:=un.tbls _ _ z
      have e2:=t _ _ U;rw[(p q f).2]at e;cases e;exact .inr (.inl ⟨((p q f).1.tab (p q f).2).isCodeTable,rfl,#[],G,rfl,e2⟩)
    refine⟨rfl,⟨W,fun b o e=>?_⟩,os,Q⟩;exact un.there b o e (by simp)
 have A:∀q∈tabs,q.2≠a:=fun q f e=>by
  have:=(p q f).2
  rw[e,E]at this;cases this
 cases Z:K.lookup a with
 |some o =>
  have e:=KX a o Z;rw[E]at e;cases e;refine y (fun b=>if b∈tabs.map (·.2) then À (.tbl #[]) else Á) (.inr ⟨_,vs.toArray,_,Z,rfl,rfl,rfl,by rw[zI,I];exact hl,by simpa using rv⟩) (fun b u z=>?_) (fun b=>?_) fun q f=>yH (Ϗ f)
  ·dsimp only at z
   by_cases g:b∈tabs.map (·.2)
   ·rw[yH g]at z;cases z
    obtain⟨q,f,rfl⟩:=yC.mp g;exact(p q f).2
   ·rw[yG g]at z;cases z
  ·by_cases g:b∈tabs.map (·.2)
   ·obtain⟨q,f,rfl⟩:=yC.mp g
    exact .inr (.inr ⟨q,f,rfl,yH g⟩)
   ·exact .inl (yG g)
 |none =>
  refine y (fun b=>if b∈tabs.map (·.2) then À (.tbl #[]) else if b=a then À (.frz { cls:=.type "list",data:=.seq vs.toArray } (.lst (ns.map V.int))) else Á) (.inl (.inr ⟨{ cls:=.type "list",data:=.seq vs.toArray },?_⟩)) (fun b u z=>?_) (fun b=>?_) fun q f=>yH (Ϗ f)
  ·dsimp only
   rw[yG (fun z=>by obtain⟨q,f,e⟩:=yC.mp z;exact A q f e),yH rfl]
  ·dsimp only at z
   by_cases g:b∈tabs.map (·.2)
   ·rw[yH g]at z;cases z
    obtain⟨q,f,rfl⟩:=yC.mp g;exact(p q f).2
   ·rw[yG g]at z
    by_cases i:b=a
    ·rw[yH i]at z;cases z
     subst i;exact⟨E,by rw[zH];exact hl,vs,_,rv,E⟩
    ·rw[yG i]at z;cases z
  ·by_cases g:b∈tabs.map (·.2)
   ·obtain⟨q,f,rfl⟩:=yC.mp g
    exact .inr (.inr ⟨q,f,rfl,yH g⟩)
   ·by_cases i:b=a
    ·exact .inr (.inl ⟨i,Z,_,_,(yG g).trans (yH i)⟩)
    ·exact .inl ((yG g).trans (yG i))
theorem E5{l:Q3}{n k:Nat}{q:Ò}{cj:List Í}{T:(Í->Option Å)->è->Prop}{D:Ú->è->Prop}{d:DefRec}{K:Params->Þ}{sp:Ú->Sp}{x:Í}{tabs:List (Ç×Addr)}
  (I:l.most=À n) (j:n<=Ì) (p:d.params.defaults=[]) (E:Room k ż)
  (O:∀(w:Ú)(h:è),D w h->(K w.params).In h/\∀q∈tabs,h.get? q.2=À (S4 #[])) (M:∀(w:Ú),∀q∈tabs,codeHdIn (K w.params) q.1 q.2=Â) (t:∀(w:Ú),noTabs (K w.params)=Â)
  (F:∀(w:Ú)(mg:Í->Option Å)(fa:Ç)(h:è),(K w.params).In h->h.Ns Ð mg->mg d.name=À (.ref fa) ->
   ∃fd:Ē,(∀(s:É)(u:Å),x! s fd ⟨[u],[]⟩ [(x,u)]) /\
    ∀base:è,(K w.params).In base->base.Ns Ð mg->jN mg base->FnOk l.prog w (K w.params) mg base fj k fa fd [x] (sp w))
  (i:∀(w:Ú)(H:Hp)(a:Ç)(ns:List Int),ns.length<=n->(∀q∈tabs,H q.2=À (.tbl #[]))->bR (K w.params) H a (ns.map V.int)->sp w [.ref a] H (fun v _=>v=.bl Â) fun _ _ _=>False) :
  T7 q cj T D l.row.toRowW d [] (fun f vs=>O? f vs):=by
 refine Att.attach_call I p fun w B A mg W fa o pm Z S a vs ns G Y X hd L m g c b J=>?_
 obtain⟨y,r⟩:=O w _ Y;obtain⟨fd,N,R⟩:=F w mg fa _ y G.T.g m;exact y9 (tabs:=tabs) y G.T.g G.T.b G.T.builtins G.T.nolimit J G.T.bmain (fun q C=>⟨codeHd_of_K y (M w q C),r q C⟩) (t w) g c (z5 b j) E R N (fun H Q P=>i w H a ns b Q P) fun H e U z=>z
end L2
namespace R
open PySem PySem.Spec PyProof.Rows L2
abbrev qX[O2](K:Þ)(qual:Í)(cd:Å)(la:List ė):Prop:=la=[]\/∃p c P,la=[p]/\cd=.ref c/\codeHdIn K c P=Â/\O2.tb=[(P,p,qual++".<locals>."++"<lambda>")]
abbrev FactF[O2](K:Þ)(x:Í)(e:FE):Prop:=∃(f:Ç)(oc:Å)(od:Option Ç)(sl:Array (Option Å))(kV dc pm:Å)(an:Option Ç)(cd ct:Å),nsIn K Ð x=À (À (.ref f)) /\
 K.lookup f=À ⟨oc,od,.func (fnOf x e.qual (cS e.st) (cR e.st) (bU e.st) .none kV dc pm an cd ct),sl⟩/\ϕ K cd e.qual=Â/\Ĺ K (.ref f)=Â/\qX K e.qual cd e.la
abbrev FactM[O2](K:Þ)(c m:Í)(e:FE):Prop:=∃(C f:Ç)(oc:Å)(od:Option Ç)(sl:Array (Option Å))(kV dc pm:Å)(an:Option Ç)(cd ct:Å),nsIn K Ð c=À (À (.ref C))/\Ŕ K (.ref C) m=À (À (.ref f)) /\
 K.lookup f=À ⟨oc,od,.func (fnOf m e.qual (cS e.st) (cR e.st) (bU e.st) .none kV dc pm an cd ct),sl⟩/\ϕ K cd e.qual=Â/\Ĺ K (.ref f)=Â/\isFn K (.ref f)=Â/\qX K e.qual cd e.la
section
variable[O2]{K:Þ}{C f:Ç}{oc:Å}{od:Option Ç}{sl:Array (Option Å)}{kV dc pm:Å}{an:Option Ç}{cd ct:Å}{x:Í}{e:FE}
theorem ff(a:nsIn K Ð x=À (À (.ref f)))(l:K.lookup f=À ⟨oc,od,.func (fnOf x e.qual (cS e.st) (cR e.st) (bU e.st) .none kV dc pm an cd ct),sl⟩)(c:ϕ K cd e.qual=Â)(k:Ĺ K (.ref f)=Â)(L:qX K e.qual cd e.la):FactF K x e:=⟨_,_,_,_,_,_,_,_,_,_,a,l,c,k,L⟩
theorem fm(a:nsIn K Ð x=À (À (.ref C)))(b:Ŕ K (.ref C) m=À (À (.ref f)))(l:K.lookup f=À ⟨oc,od,.func (fnOf m e.qual (cS e.st) (cR e.st) (bU e.st) .none kV dc pm an cd ct),sl⟩)(c:ϕ K cd e.qual=Â)(k:Ĺ K (.ref f)=Â)(i:isFn K (.ref f)=Â)(L:qX K e.qual cd e.la):FactM K x m e:=⟨_,_,_,_,_,_,_,_,_,_,_,a,b,l,c,k,i,L⟩
end
abbrev FactN(K:Þ)(c:Í):Prop:=∃C:Ç,nsIn K Ð c=À (À (.ref C))/\X8 K C=Â/\Ĺ K (.ref C)=Â
abbrev pG(K:Þ)(c:Í):Prop:=∃C:Ç,nsIn K Ð c=À (À (.ref C))/\A! K C Str.empty=Â/\Q? K C=Â/\Y5 K C=Â/\Ŕ K (.ref C) "__setattr__"=À (À (.builtin "object.__setattr__"))
abbrev xk(K:Þ)(c:Í)(fs:List Í):Prop:=∃C:Ç,nsIn K Ð c=À (À (.ref C))/\(fs.all fun f=>match Ŕ K (.ref C) f with|some Á=>Â|_=>Ã)=Â
abbrev Db(K:Þ):Prop:=(bnames.all fun x=>match nsIn K Ð x with|some Á=>Â|_=>Ã)=Â
section
variable[O2]{K:Þ}{h base:è}{mg:Í->Option Å}
theorem rF(B:K.In base)(g:jN mg base)(L:qX K qual cd la):uj mg base qual cd la:=by
 intro p b;rcases L with rfl|⟨q,c,P,rfl,e,f,a⟩
 ·cases b
 ·rw[zM.mp b]
  exact⟨c,P,e,codeHd_of_K B f,g,by rw[a];simp,fun t d _=>by rw[a]at d;exact zM.mp d⟩
theorem FactF.ok{n:Nat}(b:e.ke=.f x n)(F:FactF K x e)(X:K.In h)(G:h.Ns Ð mg)(B:K.In base)(d:jN mg base):e.ok K mg base:=by
 obtain⟨f,j,i,g,kV,m,pm,q,p,o,a,l,c,k,L⟩:=F;unfold FE.ok;rw[b];exact⟨f,_,X7 X G a,o8 l c k,rF B d L⟩
theorem Ad(F:pG K c)(X:K.In h)(G:h.Ns Ð mg)(b:nsIn K Ð c=À (À (.ref C))):mg c=À (.ref C)/\Cls K C:=by
 obtain⟨i,a,g,f,e,d⟩:=F;rw[b]at a;cases a;exact⟨X7 X G b,⟨g,f,e,d⟩⟩
theorem FactM.ok{n:Nat}(d:e.ke=.m c m n)(F:FactM K c m e)(p:pG K c)(X:K.In h)(G:h.Ns Ð mg)(B:K.In base)(j:jN mg base):e.ok K mg base:=by
 obtain⟨C,f,s,r,q,kV,t,pm,w,v,u,a,g,l,o,k,i,L⟩:=F;unfold FE.ok;rw[d];obtain⟨b,m2⟩:=Ad p X G a;exact⟨f,_,C,b,m2,⟨g,i,k⟩,o8 l o k,rF B j L⟩
theorem FactN.ok{n:Nat}(j:e.ke=.k c n)(F:FactM K c "__init__" e)(N:FactN K c)(X:K.In h)(G:h.Ns Ð mg)(B:K.In base)(m:jN mg base):e.ok K mg base:=by
 obtain⟨C,f,r,q,p,kV,s,pm,v,u,t,a,g,l,o,k,i,L⟩:=F;obtain⟨w,b,d,m2⟩:=N;rw[a]at b;cases b;unfold FE.ok;rw[j];exact⟨f,_,C,X7 X G a,⟨d,g,i,m2⟩,o8 l o k,rF B m L⟩
abbrev FactG(K:Þ)(p:Í×AV):Prop:=match p.2 with
 |.int i=>∃t,nsIn K Ð p.1=À (À (.int i t))
 |.str x=>∃t,nsIn K Ð p.1=À (À (.str x t))
 |_=>False
theorem FactG.ok(F:FactG K p)(X:K.In h)(G:h.Ns Ð mg):∀w,qx p.2=À w->∃u,mg p.1=À u/\RelV w u:=by
 obtain⟨x,c⟩:=p;intro w a;cases c with
 |int i=>obtain⟨t,e⟩:=F;cases a;exact⟨_,X7 X G e,t,rfl⟩
 |str y=>obtain⟨t,e⟩:=F;cases a;exact⟨_,X7 X G e,t,rfl⟩
 |_=>exact F.elim
theorem Kn(X:K.In h)(G:h.Ns Ð mg)(k:Db K)(g:∀p∈gs,FactG K p)(j:∀p∈cl,pG K p.1/\xk K p.1 p.2):Ev K mg gs cl:=by
 refine⟨fun x d=>?_,fun p b=>(g p b).ok X G,fun p b=>?_⟩
 ·have:=yQ.mp k x d
  split at this
  ·rename_i e;exact mg_none_of X G e
  ·cases this
 ·obtain⟨l,C,a,fs⟩:=j p b
  obtain⟨c,m2⟩:=Ad l X G a;refine⟨C,c,m2,fun f i=>?_⟩
  have:=yQ.mp fs f i
  split at this
  ·rename_i e;exact e
  ·cases this
end
abbrev iS[O2](K:Þ)(e:FE):Prop:=match e.ke with
 |.f x _=>FactF K x e
 |.m c m _=>FactM K c m e
 |.k c _=>FactM K c "__init__" e/\FactN K c
section
variable[O2]{K:Þ}{C f:Ç}{oc:Å}{od:Option Ç}{sl:Array (Option Å)}{kV dc pm:Å}{an:Option Ç}{cd ct:Å}{x m:Í}{n:Nat}{e:FE}
theorem fe_f(b:e.ke=.f x n)(a:nsIn K Ð x=À (À (.ref f)))(l:K.lookup f=À ⟨oc,od,.func (fnOf x e.qual (cS e.st) (cR e.st) (bU e.st) .none kV dc pm an cd ct),sl⟩)(c:ϕ K cd e.qual=Â)(k:Ĺ K (.ref f)=Â)(L:qX K e.qual cd e.la):iS K e:=by unfold iS;rw[b];exact ff a l c k L
theorem fe_m(d:e.ke=.m x m n)(a:nsIn K Ð x=À (À (.ref C)))(b:Ŕ K (.ref C) m=À (À (.ref f)))(l:K.lookup f=À ⟨oc,od,.func (fnOf m e.qual (cS e.st) (cR e.st) (bU e.st) .none kV dc pm an cd ct),sl⟩)(c:ϕ K cd e.qual=Â)(k:Ĺ K (.ref f)=Â)(i:isFn K (.ref f)=Â)(L:qX K e.qual cd e.la):iS K e:=by unfold iS;rw[d];exact fm a b l c k i L
end
def ku[O2](K:Þ):List FE->Prop
 |[]=>True
 |e::r=>iS K e/\ku K r
section
variable[O2]{K:Þ}{C f:Ç}{oc:Å}{od:Option Ç}{sl:Array (Option Å)}{kV dc pm:Å}{an:Option Ç}{cd ct:Å}{x:Í}{n:Nat}{e:FE}{r:List FE}
theorem fe_k(g:e.ke=.k x n)(a:nsIn K Ð x=À (À (.ref C)))(b:Ŕ K (.ref C) "__init__"=À (À (.ref f)))(l:K.lookup f=À ⟨oc,od,.func (fnOf "__init__" e.qual (cS e.st) (cR e.st) (bU e.st) .none kV dc pm an cd ct),sl⟩)(c:ϕ K cd e.qual=Â)(k:Ĺ K (.ref f)=Â)(i:isFn K (.ref f)=Â)(L:qX K e.qual cd e.la)
  (d:X8 K C=Â) (m2:Ĺ K (.ref C)=Â):iS K e:=by unfold iS;rw[g];exact⟨fm a b l c k i L,C,a,d,m2⟩
theorem fes_c(h:iS K e)(t:ku K r):ku K (e::r):=⟨h,t⟩
theorem fes_n:ku K []:=trivial
end
noncomputable def B0(cl:List (Í×List Í))(e:FE):Bool:=match e.ke with
 |.m c _ _=>decide (c∈cl.map (·.1))
 |_=>Â
theorem tJ[O2]{K:Þ}{h b:è}{mg:Í->Option Å}(X:K.In h)(G:h.Ns Ð mg)(B:K.In b)(d:jN mg b)(g:∀p∈cl,pG K p.1/\xk K p.1 p.2):∀{pre:List FE},pre.all (B0 cl)=Â->ku K pre->∀e∈pre,e.ok K mg b
 |[],_,_,_,h=>nomatch h
 |a::r,hx,h,e,he=>by
  rw[Ļ,zC]at hx;rcases zT.mp he with rfl|he
  ·have h1:=h.1
   have f:=hx.1;unfold iS at h1;unfold B0 at f;split at h1
   ·rename_i c;exact FactF.ok c h1 X G B d
   ·rename_i c
    rw[c]at f;obtain⟨p,i,j⟩:=yC.mp (of_decide_eq_true f);exact FactM.ok c h1 (by rw[<- j];exact(g p i).1) X G B d
   ·rename_i c;exact FactN.ok c h1.1 h1.2 X G B d
  ·exact tJ X G B d g hx.2 h.2 e he
def Dh:List Fn->List FE->List Fn->Prop
 |_,[],[]=>True
 |fs,e::r,F::Fs=>e.fn fs=F/\Dh (fs++[F]) r Fs
 |_,_,_=>False
theorem zx:∀{pre:List FE}{fs Fs:List Fn},Dh fs pre Fs->jA fs pre=fs++Fs
 |[],fs,[],_=>(ó fs).symm
 |e::r,fs,F::Fs,h=>by
  show jA (fs++[e.fn fs]) r=_;rw[h.1,zx h.2];simp
 |[],_,_::_,h=>h.elim
 |_::_,_,[],h=>h.elim
theorem law_F[O2]{P:Ò}{w:Ú}{K:Þ}{h:è}{mg:Í->Option Å}{J:Ç}{gs:List (Í×AV)}{cl:List (Í×List Í)}{pre:List FE}{e:FE}{fn:Fn}(X:K.In h)(G:h.Ns Ð mg)(y:mg "law"=À (.ref J))
  (W:Db K) (u:∀p∈gs,FactG K p) (C:∀p∈cl,pG K p.1/\xk K p.1 p.2) (r:pj gs cl [] pre=pre.map fun e=>À e.b) (z:e.chk gs cl pre=À e.b)
  (T:pre.all (B0 cl)=Â) (n:ku K pre) (Y:FactF K "law" e) (i:fU e.st=[("_law_script":Í)]) (x:e.fn (jA [] pre)=fn) :
  ∃fd:Ē,(∀(s:É)(v:Å),x! s fd ⟨[v],[]⟩ [("_law_script",v)])/\∀base:è,K.In base->base.Ns Ð mg->jN mg base ->
   FnOk P w K mg base fj e.d J fd ["_law_script"] (fun vs H Q E=>∀mg,dO ⟨K,mg⟩ 1 fn vs H Q E):=by
 have E:=Kn X G W u C;obtain⟨h2,D,Z,I⟩:(e.ke.n==(fU e.st).length)=Â/\(e.cs.all fun j=>match pre[j]? with|some g=>ß (g.d+3) e.d|none=>Ã)=Â/\ß 3 e.d=Â/\e.tr Â (e.cs.map (sZ pre)) gs cl=À e.b:=aK rfl z fun A h=>lj A fun a b c=>⟨a,b,c,h⟩
 obtain⟨d,hd⟩:∃d,e.d=d+3:=⟨e.d-3,by have:=zS Z;lia⟩;rw[hd]at D ⊢;obtain⟨f,oc,od,sl,kV,M,pm,R,O,N,a,l,c,k,L⟩:=Y;have m:=X7 X G a;rw[y]at m;cases m;have F:=o8 l c k;refine⟨fnOf "law" e.qual (cS e.st) (cR e.st) (bU e.st) .none kV M pm R O N,fun s v=>?_,fun base B _ t=>?_⟩
 ·have U:plainA (cS e.st)=Â:=aK rfl I fun A _=>lj A fun _ h _=>h
  refine .of_eq ?_
  have:=bind_plain (fd:=fnOf "law" e.qual (cS e.st) (cR e.st) (bU e.st) .none kV M pm R O N) (us:=[v]) U rfl (by show(fU e.st).Nodup;rw[i];simp) (by show _=(fU e.st).length;rw[i];rfl)
  rw[this];show pure ((fU e.st).zip [v])=_;rw[i];rfl
 ·have S:=u6 (P:=P) (w:=w) E pre [] [] ⟨rfl,fun j g u=>by simp at u⟩ (tJ X G B t C T n) r
  have V:=wQ (d:=d) S e.cs D
  have:=(o7 (e:=e.toFH) F E (rF B t L) V I).1
  rw[i]at this;have o:run e.N.length (af (e.cs.map (kf (jA [] pre))) e.b)=fn:=x;rw[o]at this;exact this.imp fun vs H Q E q=>q mg
theorem walk_R[O2]{l:Q3}{k:Nat}{q:Ò}{cj:List Í}{z:(Í->Option Å)->è->Prop}{g:Ú->è->Prop}{d:DefRec}{K:Params->Þ}{fn:Fn}{tabs:List (Ç×Addr)}
  (n:l.most=À 63) (b:d.params.defaults=[]) (j:Room k ż)
  (v:∀(w:Ú)(h:è),g w h->(K w.params).In h/\∀q∈tabs,h.get? q.2=À (S4 #[])) (r:∀(w:Ú),∀q∈tabs,codeHdIn (K w.params) q.1 q.2=Â) (c:∀(w:Ú),noTabs (K w.params)=Â)
  (i:∀t∈O2.tb,t.1∈tabs.map (·.2)) (p:∀ns:List Int,ns.length<=63->∃st,fn [.fz (ns.map .int)] []=À (.bl Â,st))
  (F:∀(w:Ú)(mg:Í->Option Å)(fa:Ç)(h:è),(K w.params).In h->h.Ns Ð mg->mg d.name=À (.ref fa) ->
   ∃fd:Ē,(∀(s:É)(u:Å),x! s fd ⟨[u],[]⟩ [("_law_script",u)]) /\
    ∀base:è,(K w.params).In base->base.Ns Ð mg->jN mg base->FnOk l.prog w (K w.params) mg base fj k fa fd ["_law_script"] (fun vs H Q E=>∀mg,dO ⟨K w.params,mg⟩ 1 fn vs H Q E)) :
  T7 q cj z g l.row.toRowW d [] (fun f vs=>O? f vs) :=
 E5 (sp:=fun w vs H Q E=>∀mg,dO ⟨K w.params,mg⟩ 1 fn vs H Q E) n dC b j v r c F fun w H a ns o x y mg=>JW (p ns o) y fun t h=>by
  obtain⟨q,m,e⟩:=yC.mp (i t h);exact⟨#[],by rw[<- e];exact x q m,trivial,.inl rfl⟩
end R
namespace SX
def O5:Nat->(Nat->Int)->Int
 |0,_=>0
 |n+1,f=>O5 n f+f n
theorem sum_congr{n:Nat}{f g:Nat->Int}(h:∀i,i<n->f i=g i):O5 n f=O5 n g:=by
 induction n with
 |zero=>rfl
 |succ n a=>simp only[O5];rw[a fun i b=>h i oM,h n oM]
theorem sum_zero{n:Nat}{f:Nat->Int}(h:∀i,i<n->f i=0):O5 n f=0:=by
 induction n with
 |zero=>rfl
 |succ n a=>simp only[O5];rw[a fun i b=>h i oM,h n oM];rfl
theorem sum_add(n:Nat)(f g:Nat->Int):O5 n (fun i=>f i+g i)=O5 n f+O5 n g:=by
 induction n with
 |zero=>rfl
 |succ n a=>simp only[O5];rw[a];lia
theorem sum_mul(n:Nat)(c:Int)(f:Nat->Int):O5 n (fun i=>c*f i)=c*O5 n f:=by
 induction n with
 |zero=>simp[O5]
 |succ n a=>simp only[O5];rw[a,P7]
theorem sum_one{n k:Nat}{f:Nat->Int}(e:k<n)(h:∀i,i<n->i≠k->f i=0):O5 n f=f k:=by
 induction n with
 |zero=>lia
 |succ n b =>
  simp only[O5];rcases yT k n with a|a
  ·rw[b a fun i c d=>h i oM d,h n oM oM];lia
  ·have:k=n:=by lia
   subst this;rw[sum_zero fun i c=>h i oM oM];lia
theorem uV{n k l:Nat}{f:Nat->Int}(d:k<n)(c:l<n)(a:k≠l)(h:∀i,i<n->i≠k->i≠l->f i=0):O5 n f=f k+f l:=by
 have e:O5 n f=O5 n (fun i=>(if i=k then f i else 0)+if i=k then 0 else f i):=sum_congr fun i _=>by split<;>lia
 rw[e,sum_add,sum_one (k:=k) d fun i _ b=>yG b,sum_one (k:=l) c fun i g b=>?_]
 ·rw[yH rfl,yG (fun z=>a z.symm)]
 ·by_cases z:i=k
  ·exact yH z
  ·rw[yG z];exact h i g z b
theorem AL(n m:Nat)(f:Nat->Nat->Int):O5 n (fun i=>O5 m (fun j=>f i j))=O5 m (fun j=>O5 n (fun i=>f i j)):=by
 induction n with
 |zero=>exact(sum_zero fun _ _=>rfl).symm
 |succ n a=>simp only[O5];rw[a,<- sum_add]
noncomputable def up(A:Nat->Nat->Int)(r:Nat)(u:Nat->Int):Nat->Nat->Int:=fun i=>if i=r then u else A i
theorem cg{A:Nat->Nat->Int}{r:Nat}{u:Nat->Int}:up A r u r=u:=yH rfl
theorem bE{A:Nat->Nat->Int}{r i:Nat}{u:Nat->Int}(h:i≠r):up A r u i=A i:=yG h
theorem f9{A:Nat->Nat->Int}{r:Nat}:up A r (A r)=A:=by
 funext i;by_cases h:i=r
 ·rw[h,cg]
 ·exact bE h
theorem iU{A:Nat->Nat->Int}{r q:Nat}{u v:Nat->Int}(h:r≠q):up (up A r u) q v=up (up A q v) r u:=by
 funext i;by_cases b:i=q
 ·subst b;rw[cg,bE (fun z=>h z.symm),cg]
 ·rw[bE b]
  by_cases a:i=r
  ·subst a;rw[cg,cg]
  ·rw[bE a,bE a,bE b]
noncomputable def skip(k i:Nat):Nat:=if i<k then i else i+1
noncomputable def jZ(k r:Nat):Nat:=if r<k then r else r-1
noncomputable def sg(k:Nat):Int:=if k%2=0 then 1 else -1
theorem Dz(k:Nat):sg (k+1)=- sg k:=by unfold sg;split<;>split<;>lia
theorem FN(k:Nat):(sg k).natAbs=1:=by unfold sg;split<;>rfl
def gK(A:Nat->Nat->Int)(k:Nat):Nat->Nat->Int:=fun i j=>A (skip k i) (j+1)
def bK:Nat->(Nat->Nat->Int)->Int
 |0,_=>1
 |n+1,A=>O5 (n+1) fun k=>sg k*A k 0*bK n (gK A k)
theorem nV{A:Nat->Nat->Int}{k:Nat}{u:Nat->Int}:gK (up A k u) k=gK A k:=by
 funext i j;unfold gK;rw[bE];unfold skip;split<;>lia
theorem sL{A:Nat->Nat->Int}{k r:Nat}{u:Nat->Int}(h:r≠k):gK (up A r u) k=up (gK A k) (jZ k r) (fun j=>u (j+1)):=by
 funext i j;unfold gK;by_cases a:i=jZ k r
 ·have:skip k i=r:=by unfold skip;unfold jZ at a;split at a<;>split<;>lia
  rw[this,cg,a,cg]
 ·have:skip k i≠r:=by unfold skip;unfold jZ at a;split at a<;>split<;>lia
  rw[bE this,bE a]
theorem dE:∀{n:Nat}{A B:Nat->Nat->Int},(∀i j,i<n->j<n->A i j=B i j)->bK n A=bK n B
 |0,_,_,_=>rfl
 |n+1,A,B,h=>sum_congr fun k hk=>by
  rw[h k 0 hk oM,dE (A:=gK A k) (B:=gK B k) fun i j hi hj=>h _ _ (by unfold skip;split<;>lia) oM]
theorem gT:∀{n:Nat}{A:Nat->Nat->Int}{r:Nat}{a b:Int}{u v:Nat->Int},r<n->bK n (up A r fun j=>a*u j+b*v j)=a*bK n (up A r u)+b*bK n (up A r v)
 |0,_,_,_,_,_,_,h=>by lia
 |n+1,A,r,a,b,u,v,h=>by
  show O5 (n+1) _=a*O5 (n+1) _+b*O5 (n+1) _;rw[<- sum_mul,<- sum_mul,<- sum_add];refine sum_congr fun k hk=>?_
  by_cases e:r=k
  ·subst e
   rw[nV,nV,nV,cg,cg,cg]
   grind
  ·rw[sL e,sL e,sL e,bE (fun z=>e z.symm),bE (fun z=>e z.symm),bE (fun z=>e z.symm)]
   rw[gT (A:=gK A k) (r:=jZ k r) (u:=fun j=>u (j+1)) (v:=fun j=>v (j+1)) (by unfold jZ;split<;>lia)]
   grind
theorem mF:∀{n:Nat}{A:Nat->Nat->Int}{r:Nat},r+1<n->(∀j,A r j=A (r+1) j)->bK n A=0
 |0,_,_,h,_=>by lia
 |n+1,A,r,h,e=>by
  show O5 (n+1) _=0;have hm:bK n (gK A r)=bK n (gK A (r+1)):=by
   refine dE fun i j _ _=>?_
   unfold gK;by_cases d:i=r
   ·subst d
    have c:skip i i=i+1:=by unfold skip;split<;>lia
    have b:skip (i+1) i=i:=by unfold skip;split<;>lia
    rw[c,b,e]
   ·have:skip r i=skip (r+1) i:=by unfold skip;split<;>split<;>lia
    rw[this]
  rw[uV (k:=r) (l:=r+1) oM h oM fun k f c b=>?_]
  ·rw[hm,e 0,Dz];grind
  ·have:bK n (gK A k)=0:=by
    rcases yT k r with a|a
    ·refine mF (r:=r-1) oM fun j=>?_
     unfold gK;have a1:skip k (r-1)=r:=by unfold skip;split<;>lia
     have a2:skip k (r-1+1)=r+1:=by unfold skip;split<;>lia
     rw[a1,a2,e]
    ·refine mF (r:=r) oM fun j=>?_
     unfold gK;have a1:skip k r=r:=by unfold skip;split<;>lia
     have a2:skip k (r+1)=r+1:=by unfold skip;split<;>lia
     rw[a1,a2,e]
   rw[this,yO]
theorem nj{n:Nat}{A:Nat->Nat->Int}{c j:Nat}(d:c<n)(e:j<n)(a:c≠j)(b:∀x:Nat->Int,bK n (up (up A c x) j x)=0)(u v:Nat->Int):bK n (up (up A c u) j v)=- bK n (up (up A c v) j u):=by
 have h:=b (fun k=>1*u k+1*v k);rw[gT e,iU a,gT d,iU a (v:=v),gT d,<- iU a,<- iU a,<- iU a,<- iU a,b u,b v]at h;lia
theorem qb{n:Nat}:∀(k:Nat){A:Nat->Nat->Int}{i j:Nat},j=i+k+1->j<n->(∀x,A i x=A j x)->bK n A=0
 |0,A,i,j,e,hj,h=>mF (r:=i) oM (by subst e;exact h)
 |k+1,A,i,j,e,hj,h=>by
  have alt:∀x:Nat->Int,bK n (up (up A (j-1) x) j x)=0:=fun x=>mF (r:=j-1) oM fun y=>by
   rw[show j-1+1=j by lia,cg,bE oM,cg]
  have a:=nj (A:=A) (c:=j-1) (j:=j) oM hj oM alt (A (j-1)) (A j);rw[f9,f9]at a;rw[a,qb k (A:=up (up A (j-1) (A j)) j (A (j-1))) (i:=i) (j:=j-1) oM oM fun x=>by
   rw[bE oM,bE oM,bE oM,cg,h]]
  rfl
theorem km{n:Nat}{A:Nat->Nat->Int}{i j:Nat}(c:i<n)(b:j<n)(a:i≠j)(h:∀x,A i x=A j x):bK n A=0:=by
 rcases yT i j with l|l
 ·exact qb (j-i-1) (i:=i) (j:=j) oM b h
 ·exact qb (i-j-1) (i:=j) (j:=i) oM c fun x=>(h x).symm
theorem BX{n:Nat}{A:Nat->Nat->Int}{c j:Nat}(d:c<n)(b:j<n)(a:c≠j)(u v:Nat->Int):bK n (up (up A c u) j v)=- bK n (up (up A c v) j u) :=
 nj d b a (fun x=>km d b a fun y=>by rw[bE a,cg,cg]) u v
theorem ki{n:Nat}{A:Nat->Nat->Int}{r:Nat}(c:r<n){t:Nat->Int}{b:Nat->Nat->Int}:∀m:Nat,bK n (up A r fun x=>O5 m fun k=>t k*b k x)=O5 m fun k=>t k*bK n (up A r (b k))
 |0=>by
  have:=gT (A:=A) (r:=r) (a:=0) (b:=0) (u:=fun _=>0) (v:=fun _=>0) c
  simp only[yP,Ġ]at this;exact this
 |m+1=>by
  have:=gT (A:=A) (r:=r) (a:=1) (b:=t m) (u:=fun x=>O5 m fun k=>t k*b k x) (v:=b m) c
  rw[ſ,ki c m]at this;simp only[ſ]at this;exact this
theorem qa{n:Nat}{A:Nat->Nat->Int}{r:Nat}(c:r<n){d:Int}{u:Nat->Int}:bK n (up A r fun x=>d*u x)=d*bK n (up A r u):=by
 have:=gT (A:=A) (r:=r) (a:=d) (b:=0) (u:=u) (v:=u) c
 simp only[yP,Ġ]at this;exact this
theorem jm{n:Nat}{A:Nat->Nat->Int}{r:Nat}{u v:Nat->Int}(h:∀x,x<n->u x=v x):bK n (up A r u)=bK n (up A r v):=dE fun i j _ a=>by
 by_cases e:i=r
 ·subst e;rw[cg,cg];exact h j a
 ·rw[bE e,bE e]
theorem Ks{n:Nat}{B:Nat->Nat->Int}{j:Nat}{d:Int}{v:Nat->Int}{t:Nat->Int}(b:j<n)(h:∀x,x<n->d*v x=O5 n fun k=>t k*B k x):d*bK n (up B j v)=t j*bK n B:=by
 rw[<- qa b,jm h,ki b,sum_one b fun k c a=>?_,f9];rw[km (i:=k) (j:=j) c b a fun x=>by rw[bE a,cg],yO]
theorem Kr{n:Nat}{B:Nat->Nat->Int}{c j:Nat}{d:Int}{u v:Nat->Int}{t:Nat->Int}(e:c<n)(b:j<n)(a:c≠j)(h:∀x,x<n->d*v x=O5 n fun k=>t k*B k x) :
  d*bK n (up (up B c u) j v)=t j*bK n (up B c u)-t c*bK n (up B j u):=by
 rw[<- qa b,jm h,ki b,uV b e (fun z=>a z.symm) fun k g f l=>?_]
 ·have m:up (up B c u) j (B j)=up B c u:=by
   have:up B c u j=B j:=bE fun z=>a z.symm
   rw[<- this,f9]
  rw[m,BX e b a u (B c),f9]
  grind
 ·rw[km (i:=k) (j:=j) g b f fun x=>by rw[bE f,bE l,cg],yO]
def fct:Nat->Nat
 |0=>1
 |n+1=>(n+1)*fct n
theorem abs_sum{n:Nat}{f:Nat->Int}{M:Nat}(h:∀i,i<n->(f i).natAbs<=M):(O5 n f).natAbs<=n*M:=by
 induction n with
 |zero=>simp[O5]
 |succ n a =>
  simp only[O5];have d:=a fun i b=>h i oM
  have c:=h n oM;rw[E!]
  have:=U0 (O5 n f) (f n)
  lia
theorem tO:∀{n:Nat}{A:Nat->Nat->Int}{M:Nat},(∀i j,i<n->j<n->(A i j).natAbs<=M)->(bK n A).natAbs<=fct n*M^n
 |0,_,_,_=>by simp[bK,fct]
 |n+1,A,M,h=>by
  show(O5 (n+1) _).natAbs<=_;refine z5 (abs_sum (M:=M*(fct n*M^n)) fun k hk=>?_) ?_
  ·rw[yZ,yZ,FN,ϲ]
   exact Ŝ (h k 0 hk oM) (tO fun i j hi hj=>h _ _ (by unfold skip;split<;>lia) oM)
  ·show(n+1)*(M*(fct n*M^n))<=(n+1)*fct n*M^(n+1)
   rw[E?];generalize fct n=a;generalize M^n=b;exact Ϥ (by grind)
noncomputable def eW(w:Nat):Nat->Int:=fun x=>if x=w then 1 else 0
def aM(w:Nat)(v:Nat->Nat->Int)(h:Nat->Nat):Nat->Nat->Int:=fun k=>if k=w then eW w else v (h k)
structure Lin(w m:Nat)(v:Nat->Nat->Int)(d:Int)(t:Nat->Nat->Int)(h s:Nat->Nat):Prop where
 pos:0<d
 lin:∀i,i<m->∀x,x<w+1->d*v (s i) x=O5 (w+1) fun k=>t i k*aM w v h k x
 dt:∃g:Int,g*g=1/\bK (w+1) (aM w v h)=g*d
structure qV(w m r c:Nat)(e d:Int)(t:Nat->Nat->Int)(h s:Nat->Nat)(d':Int)(t':Nat->Nat->Int)(h' s':Nat->Nat):Prop where
 e1:e*e=1
 ep:0<e*t r c
 d':d'=e*t r c
 tc:∀i,i<m->i≠r->t' i c=e*t i c
 tj:∀i,i<m->i≠r->∀j,j<w+1->j≠c->t' i j=(t i j*(e*t r c)-t i c*(e*t r j))/d
 rc:t' r c=e*d
 rj:∀j,j<w+1->j≠c->t' r j=- (e*t r j)
 hc:h' c=s r
 hj:∀j,j<w->j≠c->h' j=h j
 sr:s' r=h c
 si:∀i,i<m->i≠r->s' i=s i
section
variable{w m r c:Nat}{e d d':Int}{v t t':Nat->Nat->Int}{h s h' s':Nat->Nat}
theorem Lin.one(L:Lin w m v d t h s){g:Int}(e:bK (w+1) (aM w v h)=g*d){i j:Nat}(c:i<m)(b:j<w+1):bK (w+1) (up (aM w v h) j (v (s i)))=g*t i j:=by
 have a:=Ks (n:=w+1) (j:=j) b (L.lin i c);rw[e]at a;have f:d≠0:=by have:=L.pos;lia
 refine ť f ?_;rw[a];grind
theorem Lin.ex(L:Lin w m v d t h s){i j:Nat}(o:i<m)(b:r<m)(k:c<w+1)(e:j<w+1)(a:c≠j):d ∣ t i j*t r c-t i c*t r j:=by
 obtain⟨g,g1,f⟩:=L.dt;have l:=Kr (n:=w+1) (c:=c) (j:=j) (u:=v (s r)) k e a (L.lin i o);rw[L.one f b k,L.one f b e]at l;refine⟨g*bK (w+1) (up (up (aM w v h) c (v (s r))) j (v (s i))),?_⟩;generalize bK (w+1) (up (up (aM w v h) c (v (s r))) j (v (s i)))=D at l
 grind
theorem Lin.ex'(L:Lin w m v d t h s){i j:Nat}(g:i<m)(b:r<m)(l:c<w+1)(f:j<w+1)(a:c≠j):d*((t i j*(e*t r c)-t i c*(e*t r j))/d)=t i j*(e*t r c)-t i c*(e*t r j):=by
 refine P0 ?_;obtain⟨k,n⟩:=L.ex g b l f a;exact⟨e*k,by grind⟩
theorem uc(g:c<w)(d:h' c=s r)(b:∀j,j<w->j≠c->h' j=h j):∀k,k<w+1->aM w v h' k=up (aM w v h) c (v (s r)) k:=by
 intro k f;unfold aM;by_cases e:k=c
 ·subst e;rw[cg,yG oM,d]
 ·rw[bE e]
  by_cases a:k=w
  ·rw[yH a,yH a]
  ·rw[yG a,yG a,b k oM e]
theorem Lin.piv(L:Lin w m v d t h s)(P:qV w m r c e d t h s d' t' h' s')(o:r<m)(p:c<w):Lin w m v d' t' h' s':=by
 have u:d≠0:=by have:=L.pos;lia
 have A:=P.e1;refine⟨by rw[P.d'];exact P.ep,fun i f x n=>?_,?_⟩
 ·by_cases l:i=r
  ·subst l
   rw[P.sr,P.d'];have b:O5 (w+1) (fun k=>t' i k*aM w v h' k x)=O5 (w+1) fun k=>(- e)*(t i k*aM w v h k x)+if k=c then e*t i c*aM w v h c x+e*d*v (s i) x else 0:=by
    refine sum_congr fun k b=>?_
    rw[uc p P.hc P.hj k b];by_cases a:k=c
    ·subst a;rw[yH rfl,cg,P.rc];grind
    ·rw[yG a,bE a,P.rj k b a];grind
   rw[b,sum_add,sum_mul,<- L.lin i f x n,sum_one (k:=c) oM fun k _ z=>yG z,yH rfl];have:aM w v h c x=v (h c) x:=by unfold aM;rw[yG oM]
   rw[this];grind
  ·refine ť u ?_
   rw[P.si i f l,<- sum_mul];have b:O5 (w+1) (fun k=>d*(t' i k*aM w v h' k x))=O5 (w+1) fun k=>(e*t r c*(t i k*aM w v h k x)+(- (e*t i c))*(t r k*aM w v h k x))+if k=c then d*(e*t i c*v (s r) x) else 0:=by
    refine sum_congr fun k b=>?_
    rw[uc p P.hc P.hj k b];by_cases a:k=c
    ·subst a;rw[yH rfl,cg,P.tc i f l];grind
    ·rw[yG a,bE a,P.tj i f l k b a,<- t!,L.ex' f o oM b fun z=>a z.symm];grind
   rw[b,sum_add,sum_add,sum_mul,sum_mul,<- L.lin i f x n,<- L.lin r o x n,sum_one (k:=c) oM fun k _ z=>yG z,yH rfl,P.d']
   grind
 ·obtain⟨g,g1,q⟩:=L.dt
  refine⟨g*e,by grind,?_⟩;rw[dE (B:=up (aM w v h) c (v (s r))) fun i j f y=>by rw[uc p P.hc P.hj i f],L.one q o oM,P.d']
  grind
theorem Lin.func(L:Lin w m v d t h s)(C:∀q,q<w->∀x,x<w+1->v q x=if x=q then 1 else 0)(f:c<w+1){X:Nat->Int}(D:∀i,i<m->s i<w->X (s i)=t i c)(G:∀j,j<w->h j<w->X (h j)=if j=c then d else 0)
  (r:∀q,q<w->(∃i,i<m/\s i=q)\/∃j,j<w/\h j=q) :
  (∀i,i<m->(O5 w fun q=>v (s i) q*X q)+v (s i) w*(if c=w then d else 0)=t i c)/\∀j,j<w->(O5 w fun q=>v (h j) q*X q)+v (h j) w*(if c=w then d else 0)=if j=c then d else 0:=by
 obtain⟨g,g1,o⟩:=L.dt;have F:∀u:Nat->Int,(O5 w fun q=>u q*X q)+u w*(if c=w then d else 0)=g*bK (w+1) (up (aM w v h) c u):=fun u=>by
  have I:bK (w+1) (up (aM w v h) c u)=O5 (w+1) fun q=>u q*bK (w+1) (up (aM w v h) c (eW q)):=by
   rw[<- ki f];refine jm fun x p=>?_
   rw[sum_one p fun k _ z=>by unfold eW;rw[yG fun y=>z y.symm,yO]];unfold eW;rw[yH rfl,P?]
  have B:∀k,k<w+1->g*bK (w+1) (up (aM w v h) c (aM w v h k))=if k=c then d else 0:=fun k E=>by
   by_cases a:k=c
   ·rw[yH a,a,f9,o];grind
   ·rw[yG a,km (i:=k) (j:=c) E f a fun x=>by rw[bE a,cg],yO]
  rw[I,<- sum_mul];show _=O5 w _+_;congr 1
  ·refine sum_congr fun q l=>?_
   have:g*bK (w+1) (up (aM w v h) c (eW q))=X q:=by
    have ev:∀x,x<w+1->eW q x=v q x:=fun x p=>(C q l x p).symm
    rw[jm ev];rcases r q l with⟨i,n,rfl⟩|⟨j,A,rfl⟩
    ·rw[L.one o n f,D i n l];grind
    ·have:=B j oM
     rw[show aM w v h j=v (h j) by unfold aM;rw[yG oM]]at this;rw[this,G j A l]
   rw[<- this];grind
  ·have:=B w oM
   rw[show aM w v h w=eW w by unfold aM;rw[yH rfl]]at this;have H:(if c=w then d else 0)=if w=c then d else 0:=by
    by_cases z:c=w
    ·rw[yH z,yH z.symm]
    ·rw[yG z,yG fun y=>z y.symm]
   rw[H,<- this];grind
 refine⟨fun i n=>?_,fun j A=>?_⟩
 ·rw[F,L.one o n f];grind
 ·rw[F]
  have e:v (h j)=aM w v h j:=by unfold aM;rw[yG oM]
  rw[e];by_cases b:j=c
  ·rw[yH b,b,f9,o];grind
  ·rw[yG b,km (i:=j) (j:=c) oM f b fun x=>by rw[bE b,cg],yO]
theorem Lin.bound(L:Lin w m v d t h s){M:Nat}(o:1<=M)(c:∀q x,x<w+1->(v q x).natAbs<=M):d.natAbs<=fct (w+1)*M^(w+1)/\∀i,i<m->∀j,j<w+1->(t i j).natAbs<=fct (w+1)*M^(w+1):=by
 obtain⟨g,g1,e⟩:=L.dt;have ga:g.natAbs=1:=by
  have:g.natAbs*g.natAbs=1:=by rw[<- yZ,g1];rfl
  exact ϳ this
 have f:∀k x,x<w+1->(aM w v h k x).natAbs<=M:=fun k x a=>by
  unfold aM;split
  ·unfold eW;split<;>simp<;>lia
  ·exact c _ x a
 refine⟨?_,fun i l j b=>?_⟩
 ·have:=tO (n:=w+1) (A:=aM w v h) (M:=M) fun i j _ b=>f i j b
  rw[e,yZ,ga,ϲ]at this;exact this
 ·have:=tO (n:=w+1) (A:=up (aM w v h) j (v (s i))) (M:=M) fun k x _ a=>by
   by_cases z:k=j
   ·subst z;rw[cg];exact c _ x a
   ·rw[bE z];exact f k x a
  rw[L.one e l b,yZ,ga,ϲ]at this;exact this
end
structure Pm(w m:Nat)(h s:Nat->Nat):Prop where
 hl:∀j,j<w->h j<w+m
 sl:∀i,i<m->s i<w+m
 hi:∀j k,j<w->k<w->h j=h k->j=k
 si:∀j k,j<m->k<m->s j=s k->j=k
 hs:∀j i,j<w->i<m->h j≠s i
 cov:∀q,q<w+m->(∃i,i<m/\s i=q)\/∃j,j<w/\h j=q
structure Fea(w m:Nat)(G N:Nat->Prop)(t:Nat->Nat->Int)(h s:Nat->Nat):Prop where
 g:∀i,i<m->G (s i)->0<=t i w
 n:∀i,i<m->N (s i)->t i w=0/\∀j,j<w->¬N (h j)->t i j=0
 f:∀j,j<w->G (h j)\/N (h j)
section
variable{w m r c:Nat}{e d d':Int}{v t t':Nat->Nat->Int}{h s h' s':Nat->Nat}{G N G' N':Nat->Prop}
theorem Pm.piv(Q:Pm w m h s)(P:qV w m r c e d t h s d' t' h' s')(n:r<m)(o:c<w):Pm w m h' s':=by
 have u:∀j,j<w->(j=c/\h' j=s r)\/(j≠c/\h' j=h j):=fun j f=>by
  by_cases z:j=c
  ·subst z;exact .inl ⟨rfl,P.hc⟩
  ·exact .inr ⟨z,P.hj j f z⟩
 have p:∀i,i<m->(i=r/\s' i=h c)\/(i≠r/\s' i=s i):=fun i g=>by
  by_cases z:i=r
  ·subst z;exact .inl ⟨rfl,P.sr⟩
  ·exact .inr ⟨z,P.si i g z⟩
 refine⟨fun j f=>?_,fun i g=>?_,fun j k f l e=>?_,fun j k f l e=>?_,fun j i f g e=>?_,fun q v=>?_⟩
 ·rcases u j f with⟨_,z⟩|⟨_,z⟩<;>rw[z]
  ·exact Q.sl r n
  ·exact Q.hl j f
 ·rcases p i g with⟨_,z⟩|⟨_,z⟩<;>rw[z]
  ·exact Q.hl c o
  ·exact Q.sl i g
 ·rcases u j f with⟨a,z⟩|⟨a,z⟩<;>rcases u k l with⟨b,y⟩|⟨b,y⟩<;>rw[z,y]at e
  ·rw[a,b]
  ·exact absurd e.symm (Q.hs k r l n)
  ·exact absurd e (Q.hs j r f n)
  ·exact Q.hi j k f l e
 ·rcases p j f with⟨a,z⟩|⟨a,z⟩<;>rcases p k l with⟨b,y⟩|⟨b,y⟩<;>rw[z,y]at e
  ·rw[a,b]
  ·exact absurd e (Q.hs c k o l)
  ·exact absurd e.symm (Q.hs c j o f)
  ·exact Q.si j k f l e
 ·rcases u j f with⟨a,z⟩|⟨a,z⟩<;>rcases p i g with⟨b,y⟩|⟨b,y⟩<;>rw[z,y]at e
  ·exact Q.hs c r o n e.symm
  ·exact b (Q.si i r g n e.symm)
  ·exact a (Q.hi j c f o e)
  ·exact Q.hs j i f g e
 ·by_cases z:q=h c
  ·exact .inl ⟨r,n,by rw[P.sr,z]⟩
  ·by_cases y:q=s r
   ·exact .inr ⟨c,o,by rw[P.hc,y]⟩
   ·rcases Q.cov q v with⟨i,g,e⟩|⟨j,f,e⟩
    ·exact .inl ⟨i,g,by rw[P.si i g (fun x=>y (by rw[<- e,x]))];exact e⟩
    ·exact .inr ⟨j,f,by rw[P.hj j f (fun x=>z (by rw[<- e,x]))];exact e⟩
theorem wv{d x:Int}(hd:0<d)(h:0<=d*x):0<=x:=by
 rcases yU x 0 with z|z
 ·have:=Ť hd z;lia
 ·exact z
theorem Ax{d x:Int}(hd:0<d)(h:d*x=0):x=0:=by
 rcases W2.mp h with z|z
 ·lia
 ·exact z
theorem Fea.piv(L:Lin w m v d t h s)(Q:Pm w m h s)(F:Fea w m G N t h s)(P:qV w m r c e d t h s d' t' h' s')(b:r<m)(A:c<w)(C:¬N (h c))
  (val:∀i,i<m->i≠r->G (s i)->0<=t i w*(e*t r c)-t i c*(e*t r w)) (new:G (h c)->0<=- (e*t r w))
  (B:∀q,q≠s r->(G' q ↔ G q)) (o:∀q,q≠s r->(N' q ↔ N q)) (u:G' (s r)\/N' (s r)):Fea w m G' N' t' h' s':=by
 have g:∀i,i<m->i≠r->s i≠s r:=fun i a z y=>z (Q.si i r a b y)
 refine⟨fun i a n=>?_,fun i a l=>?_,fun j f=>?_⟩
 ·by_cases z:i=r
  ·subst z
   rw[P.rj w oM oM];rw[P.sr]at n;exact new ((B _ (Q.hs c i A b)).mp n)
  ·rw[P.si i a z]at n
   have:=val i a z ((B _ (g i a z)).mp n)
   rw[P.tj i a z w oM oM];exact wv L.pos (by rw[L.ex' a b oM oM oM];exact this)
 ·by_cases z:i=r
  ·subst z
   rw[P.sr]at l;exact absurd ((o _ (Q.hs c i A b)).mp l) C
  ·rw[P.si i a z]at l
   obtain⟨E,D⟩:=F.n i a ((o _ (g i a z)).mp l);have p:=D c A C;refine⟨?_,fun j f k=>?_⟩
   ·rw[P.tj i a z w oM oM]
    exact Ax L.pos (by rw[L.ex' a b oM oM oM,E,p];grind)
   ·by_cases y:j=c
    ·subst y;rw[P.tc i a z,p,yO]
    ·rw[P.hj j f y]at k
     have:=D j f fun x=>k ((o _ (Q.hs j r f b)).mpr x)
     rw[P.tj i a z j oM y];exact Ax L.pos (by rw[L.ex' a b oM oM (fun x=>y x.symm),this,p];grind)
 ·by_cases y:j=c
  ·subst y;rw[P.hc];exact u
  ·rw[P.hj j f y]
   rcases F.f j f with x|x
   ·exact .inl ((B _ (Q.hs j r f b)).mpr x)
   ·exact .inr ((o _ (Q.hs j r f b)).mpr x)
theorem Fea.tight(L:Lin w m v d t h s)(Q:Pm w m h s)(F:Fea w m G N t h s)(P:qV w m r c e d t h s d' t' h' s')(g:r<m)(x:c<w)(q:¬N (h c))(l:G (s r))(p:t r c<0)
  (o:∀i,i<m->G (s i)->t i c<0->t r w*- t i c<=t i w*- t r c):Fea w m G N t' h' s':=by
 have n:e=-1:=by
  have B:=P.ep;have A:=P.e1;rcases yU e 0 with z|z
  ·have:e*e=1:=A
   have:e=-1:=by
    rcases yU e (-1) with y|y
    ·have:1<e*e:=by
      have a:(-e)*1<(-e)*(-e):=ŝ oM oM;have b:(-e)*(-e)=e*e:=by grind
      lia
     lia
    ·lia
   exact this
  ·have:e*t r c<=0:=Ϙ z oM
   lia
 have f:=F.g r g l;refine Fea.piv L Q F P g x q (fun i j ne k=>?_) (fun _=>by rw[n];lia) (fun _ _=>.rfl) (fun _ _=>.rfl) (.inl l);have u:=F.g i j k;rw[n];rcases yU (t i c) 0 with z|z
 ·have:=o i j k z
  have a:t i w*(-1*t r c)-t i c*(-1*t r w)=t i w*- t r c-t r w*- t i c:=by grind
  rw[a];lia
 ·have a:t i w*(-1*t r c)-t i c*(-1*t r w)=t i w*- t r c+t i c*t r w:=by grind
  rw [a];have b:=ç u (show 0 <= - t r c by lia);have c:=ç z f;lia
theorem Fea.lift(L:Lin w m v d t h s)(Q:Pm w m h s)(F:Fea w m G N t h s)(P:qV w m r c e d t h s d' t' h' s')(p:r<m)(u:c<w)(n:¬N (h c))(pos:0<t r c)(low:t r w<0)
  (l:∀i,i<m->G (s i)->t i c<0->t r w*t i c<=t i w*t r c) (A:∀q,q≠s r->(G' q ↔ G q)) (x:∀q,q≠s r->(N' q ↔ N q)) (g:G' (s r)\/N' (s r)):Fea w m G' N' t' h' s':=by
 have f:e=1:=by
  have C:=P.ep;have B:=P.e1;have f:0<e:=by
   rcases yU 0 e with z|z
   ·exact z
   ·have:e*t r c<=0:=ā z oM
    lia
  rcases yU 1 e with y|y
  ·have:e*1<e*e:=ŝ y f
   lia
  ·lia
 refine Fea.piv L Q F P p u n (fun i j ne k=>?_) (fun _=>by rw[f];lia) A x g;have o:=F.g i j k;rw[f];rcases yU (t i c) 0 with z|z
 ·have:=l i j k z
  have a:t i w*(1*t r c)-t i c*(1*t r w)=t i w*t r c-t r w*t i c:=by grind
  rw[a];lia
 ·have a:t i w*(1*t r c)-t i c*(1*t r w)=t i w*t r c+t i c*- t r w:=by grind
  rw [a];have b:=ç o (show 0 <= t r c by lia);have c:=ç z (show 0 <= - t r w by lia);lia
theorem Fea.move(L:Lin w m v d t h s)(Q:Pm w m h s)(F:Fea w m G N t h s)(P:qV w m r c e d t h s d' t' h' s')(l:r<m)(p:c<w)(j:¬N (h c))(f:t r w=0)
  (x:∀q,q≠s r->(G' q ↔ G q)) (u:∀q,q≠s r->(N' q ↔ N q)) (g:G' (s r)\/N' (s r)):Fea w m G' N' t' h' s':=by
 refine Fea.piv L Q F P l p j (fun i n ne o=>?_) (fun _=>by rw[f];lia) x u g;have k:=F.g i n o
 have:=P.ep
 have b:=ç k (show 0 <= e * t r c by lia);rw [f];have a:t i w * (e * t r c) - t i c * (e * 0)=t i w * (e * t r c):=by grind
 rw[a];exact b
theorem EG{a b x y u z:Int}(m:b<0)(k:x<0)(l:0<u)(g:z*b<=a*u)(f:a*- x<=y*- b):z*x<=y*u:=by
 have d:(z*b)*(-x)<=(a*u)*(-x):=Ô g oM;have c:(a*- x)*u<=(y*- b)*u:=Ô f oM;have e:(z*x)*(-b)<=(y*u)*(-b):=by
  have j:(z*b)*(-x)=(z*x)*(-b):=by grind
  have i:(a*u)*(-x)=(a*- x)*u:=by grind
  have h:(y*- b)*u=(y*u)*(-b):=by grind
  rw[j,i]at d;rw[h]at c;exact Ň d c
 exact Ă e oM
theorem Fea.guard{p:Nat}(F:Fea w m G N t h s)(Q:Pm w m h s)(c:p<m)(e:0<=t p w):Fea w m (fun q=>G q\/q=s p) N t h s :=
 ⟨fun i b a=>by
  rcases a with a|a
  ·exact F.g i b a
  ·rw[Q.si i p b c a];exact e,F.n,fun j d=>(F.f j d).imp .inl id⟩
theorem Fea.nail{p:Nat}(F:Fea w m G N t h s)(Q:Pm w m h s)(f:p<m)(g:t p w=0)(hz:∀j,j<w->¬N (h j)->t p j=0):Fea w m G (fun q=>N q\/q=s p) t h s :=
 ⟨F.g,fun i e c=>by
  rcases c with c|c
  ·obtain⟨a,b⟩:=F.n i e c
   exact⟨a,fun j d z=>b j d fun y=>z (.inl y)⟩
  ·rw[Q.si i p e f c]
   exact⟨g,fun j d z=>hz j d fun y=>z (.inl y)⟩,fun j d=>(F.f j d).imp id .inl⟩
noncomputable def tv(v:Nat->Nat->Int)(q:Nat):Nat->Nat->Int:=fun k x=>if k=q then-v k x else v k x
theorem Lin.turn{p:Nat}(L:Lin w m v d t h s)(Q:Pm w m h s)(f:p<m)(o:∀j,j<w+1->t' p j=- t p j)(n:∀i,i<m->i≠p->∀j,j<w+1->t' i j=t i j):Lin w m (tv v (s p)) d t' h s:=by
 have c:∀k,k<w+1->aM w (tv v (s p)) h k=aM w v h k:=fun k a=>by
  unfold aM;by_cases z:k=w
  ·rw[yH z,yH z]
  ·rw[yG z,yG z];funext x;unfold tv;rw[yG (Q.hs k p oM f)]
 refine⟨L.pos,fun i b x e=>?_,?_⟩
 ·by_cases z:i=p
  ·subst z
   have:=L.lin i b x e
   rw[sum_congr (g:=fun k=>(-1)*(t i k*aM w v h k x)) fun k a=>by rw[c k a,o k a];grind,sum_mul,<- this];unfold tv;rw[yH rfl];grind
  ·rw[sum_congr (g:=fun k=>t i k*aM w v h k x) fun k a=>by rw[c k a,n i b z k a],<- L.lin i b x e]
   unfold tv;rw[yG fun y=>z (Q.si i p b f y)]
 ·obtain⟨g,g1,l⟩:=L.dt
  exact⟨g,g1,by rw[dE (B:=aM w v h) fun i j b _=>by rw[c i b]];exact l⟩
theorem Fea.turn{p:Nat}(F:Fea w m G N t h s)(Q:Pm w m h s)(n:p<m)(k:¬G (s p))(g:¬N (s p))(d:∀i,i<m->i≠p->∀j,j<w+1->t' i j=t i j):Fea w m G N t' h s:=by
 refine⟨fun i c f=>?_,fun i c e=>?_,F.f⟩
 ·rw[d i c (fun z=>k (by rw[<- z];exact f)) w oM];exact F.g i c f
 ·have ne:i≠p:=fun z=>g (by rw[<- z];exact e)
  obtain⟨a,b⟩:=F.n i c e;exact⟨by rw[d i c ne w oM];exact a,fun j l z=>by rw[d i c ne j oM];exact b j l z⟩
end
theorem xX:∀(M:Nat)(f:Nat->Nat),(∀n,f n<M)->∃i j,i<j/\f i=f j
 |0,f,h=>absurd (h 0) oM
 |M+1,f,h=>by
  by_cases c:∃n,∀k,n<=k->f k≠M
  ·obtain⟨n,hn⟩:=c
   obtain⟨i,j,g,e⟩:=xX M (fun k=>f (n+k)) fun k=>by have:=h (n+k);have:=hn (n+k) oM;lia
   exact⟨n+i,n+j,by lia,e⟩
  ·have b:∀n,∃k,n<=k/\f k=M:=fun n=>ð fun z=>c ⟨n,fun k d e=>z ⟨k,d,e⟩⟩
   obtain⟨i,_,l⟩:=b 0;obtain⟨j,m,a⟩:=b (i+1);exact⟨i,j,by lia,by rw[l,a]⟩
def jD(b:Nat)(h:Nat->Nat):Nat->Nat
 |0=>0
 |n+1=>jD b h n*b+h n
theorem Aa{b:Nat}{h:Nat->Nat}:∀{n:Nat},(∀j,j<n->h j<b)->jD b h n<b^n
 |0,_=>by simp[jD]
 |n+1,H=>by
  have h1:=Aa (n:=n) fun j a=>H j oM
  have c:=H n oM;show jD b h n*b+h n<b^(n+1);rw[E?];have:(jD b h n+1)*b<=b^n*b:=Ž b h1;rw[E!]at this;lia
theorem vF{b:Nat}{h g:Nat->Nat}:∀{n:Nat},(∀j,j<n->h j<b)->(∀j,j<n->g j<b)->jD b h n=jD b g n->∀j,j<n->h j=g j
 |0,_,_,_,j,hj=>by lia
 |n+1,H,K,e,j,hj=>by
  have h2:=H n oM;have a:=K n oM;have f:jD b h n*b+h n=jD b g n*b+g n:=e;have d:h n=g n:=by
   have:=congrArg (·%b) f
   simp only[Nat.mul_add_mod_self_right]at this
   rwa [U7 h2,U7 a]at this
  have c:jD b h n=jD b g n:=by
   have:jD b h n*b=jD b g n*b:=by lia
   exact Nat.eq_of_mul_eq_mul_right oM this
  rcases yT j n with z|z
  ·exact vF (fun j hj=>H j oM) (fun j hj=>K j oM) c j z
  ·rw[show j=n by lia];exact d
theorem xz(b:Nat->Prop){i:Nat}:∀(k:Nat),b i->¬b (i+k)->∃n,i<=n/\n<i+k/\b n/\¬b (n+1)
 |0,h,g=>absurd h g
 |k+1,h,g=>by
  by_cases z:b (i+k)
  ·exact⟨i+k,by lia,by lia,z,g⟩
  ·obtain⟨n,a,c,d⟩:=xz b k h z
   exact⟨n,a,by lia,d⟩
theorem xy(b:Nat->Prop){i j x y:Nat}(g:i<=x/\x<=j)(f:i<=y/\y<=j)(k:b x)(d:¬b y)(e:b i ↔ b j):∃n,i<=n/\n<j/\b n/\¬b (n+1):=by
 have h:∀a c,i<=a->a<=c->c<=j->b a->¬b c->∃n,i<=n/\n<j/\b n/\¬b (n+1):=fun a c t s r p q=>by
  obtain⟨n,o,m,l⟩:=xz b (c-a) p (by rwa [show a+(c-a)=c by lia]);exact⟨n,by lia,by lia,l⟩
 rcases Z? x y with z|z
 ·exact h x y g.1 z f.2 k d
 ·by_cases q:b j
  ·exact h i y oM f.1 f.2 (e.mpr q) d
  ·exact h x j g.1 g.2 (zP j) k q
structure St where
 d:Int
 t:Nat->Nat->Int
 h:Nat->Nat
 s:Nat->Nat
structure Bl(w m p:Nat)(G N:Nat->Prop)(r c:Nat)(e:Int)(S S':St):Prop where
 hc:c<w
 nc:¬N (S.h c)
 up:0<S.t p c
 least:∀j,j<w->¬N (S.h j)->0<S.t p j->S.h c<=S.h j
 hr:r<m
 gr:G (S.s r)
 neg:S.t r c<0
 ti:∀i,i<m->G (S.s i)->S.t i c<0->S.t r w*- S.t i c<S.t i w*- S.t r c\/(S.t r w*- S.t i c=S.t i w*- S.t r c/\S.s r<=S.s i)
 piv:qV w m r c e S.d S.t S.h S.s S'.d S'.t S'.h S'.s
def jo(w:Nat)(S:St)(q:Nat):Prop:=∃k,k<w/\S.h k=q
def Zr(w m:Nat)(S:St)(q:Nat):Prop:=∀i,i<m->S.s i=q->S.t i w=0
theorem CY{a b c d e f:Int}(p:0<b)(hd:0<d)(o:0<f)(k:a*d<=c*b)(j:c*f<=e*d):a*f<=e*b:=by
 have g:(a*d)*f<=(c*b)*f:=Ô k oM;have i:(c*f)*b<=(e*d)*b:=Ô j oM;have n:(c*b)*f=(c*f)*b:=by grind
 have h:(a*f)*d<=(e*b)*d:=by
  have m:(a*f)*d=(a*d)*f:=by grind
  have l:(e*b)*d=(e*d)*b:=by grind
  rw[m,l];rw[n]at g;exact Ň g i
 exact Ă h hd
section
variable{w m p:Nat}{v:Nat->Nat->Int}{G N:Nat->Prop}{S:Nat->St}{r c:Nat->Nat}{e:Nat->Int}
structure Run(w m p:Nat)(v:Nat->Nat->Int)(G N:Nat->Prop)(S:Nat->St)(r c:Nat->Nat)(e:Nat->Int):Prop where
 L:∀n,Lin w m v (S n).d (S n).t (S n).h (S n).s
 Q:∀n,Pm w m (S n).h (S n).s
 F:∀n,Fea w m G N (S n).t (S n).h (S n).s
 B:∀n,Bl w m p G N (r n) (c n) (e n) (S n) (S (n+1))
 hp:p<m
 np:¬G ((S 0).s p)
theorem Run.sp(R:Run w m p v G N S r c e):∀n,(S n).s p=(S 0).s p
 |0=>rfl
 |n+1=>by
  have h:=R.sp n;have:p≠r n:=fun z=>R.np (by rw[<- h,z];exact(R.B n).gr)
  rw[(R.B n).piv.si p R.hp this];exact h
theorem Run.pr(R:Run w m p v G N S r c e)(n:Nat):p≠r n:=fun z=>R.np (by rw[<- R.sp n,z];exact(R.B n).gr)
theorem Ez{e a:Int}(f:e*e=1)(d:0<e*a)(c:a<0):e=-1:=by
 have hz:e<0:=by
  rcases yU e 0 with z|z
  ·exact z
  ·have:e*a<=0:=Ϙ z oM
   lia
 rcases yU e (-1) with y|y
 ·have a:(-e)*1<(-e)*(-e):=ŝ oM oM
  have b:(-e)*(-e)=e*e:=by grind
  lia
 ·lia
theorem Run.em(R:Run w m p v G N S r c e)(n:Nat):e n=-1:=Ez (R.B n).piv.e1 (R.B n).piv.ep (R.B n).neg
theorem Run.col(R:Run w m p v G N S r c e)(n:Nat){i:Nat}(a:i<m)(ne:i≠r n):(S n).d*(S (n+1)).t i w=(S n).t i w*(S (n+1)).d+(S n).t i (c n)*(S n).t (r n) w:=by
 have B:=R.B n;rw[B.piv.tj i a ne w oM (by have:=B.hc;lia),(R.L n).ex' a B.hr (by have:=B.hc;lia) oM (by have:=B.hc;lia),B.piv.d',R.em n]
 grind
theorem Run.mono(R:Run w m p v G N S r c e)(n:Nat):(S n).t p w*(S (n+1)).d<=(S (n+1)).t p w*(S n).d:=by
 have B:=R.B n
 have:=R.col n R.hp (R.pr n)
 have a:=ç (show 0 <= (S n).t p (c n) by have:=B.up;lia) ((R.F n).g (r n) B.hr B.gr);rw [ϧ ((S (n + 1)).t p w)];lia
theorem Run.monos(R:Run w m p v G N S r c e)(i:Nat):∀k,(S i).t p w*(S (i+k)).d<=(S (i+k)).t p w*(S i).d
 |0=>ϵ _
 |k+1=>CY (R.L i).pos (R.L (i+k)).pos (R.L (i+k+1)).pos (R.monos i k) (R.mono (i+k))
theorem Run.same(R:Run w m p v G N S r c e){i j:Nat}(h:∀k,k<w->(S i).h k=(S j).h k):(S i).d=(S j).d/\(S i).t p w=(S j).t p w:=by
 have o:∀k,k<w+1->aM w v (S i).h k=aM w v (S j).h k:=fun k E=>by
  unfold aM;by_cases z:k=w
  ·rw[yH z,yH z]
  ·rw[yG z,yG z,h k oM]
 obtain⟨g,g1,n⟩:=(R.L i).dt;obtain⟨y,l,d⟩:=(R.L j).dt;have B:bK (w+1) (aM w v (S i).h)=bK (w+1) (aM w v (S j).h):=dE fun a b f _=>by rw[o a f]
 have t:=(R.L i).one n R.hp (j:=w) oM;have s:=(R.L j).one d R.hp (j:=w) oM;rw[R.sp i]at t;rw[R.sp j]at s;have A:bK (w+1) (up (aM w v (S i).h) w (v ((S 0).s p)))=bK (w+1) (up (aM w v (S j).h) w (v ((S 0).s p))):=dE fun a b f _=>by
  by_cases z:a=w
  ·subst z;rw[cg,cg]
  ·rw[bE z,bE z,o a f]
 rw[n,d]at B;rw[t,s]at A;have D:=(R.L i).pos;have C:=(R.L j).pos;have q:∀x:Int,x*x=1->x=1\/x=-1:=fun x u=>by
  have:x.natAbs*x.natAbs=1:=by rw[<- yZ,u];rfl
  have:=ϳ this
  lia
 rcases q g g1 with rfl|rfl<;>rcases q y l with rfl|rfl<;>constructor<;>lia
theorem Run.flat(R:Run w m p v G N S r c e){i j n:Nat}(h:∀k,k<w->(S i).h k=(S j).h k)(o:i<=n)(l:n<j):(S n).t (r n) w=0:=by
 have B:=R.B n;have a:=R.monos i (n-i);have b:=R.monos (n+1) (j-(n+1));rw[show i+(n-i)=n by lia]at a;rw[show n+1+(j-(n+1))=j by lia]at b;obtain⟨f,d⟩:=R.same h;rw[<- f,<- d]at b;have g:=CY (R.L (n+1)).pos (R.L i).pos (R.L n).pos b a;have s:=R.col n R.hp (R.pr n);have q:=(R.F n).g (r n) B.hr B.gr;rcases yU 0 ((S n).t (r n) w) with z|z
 ·have:=P! B.up z
  rw[ϧ ((S (n+1)).t p w)]at g;lia
 ·lia
theorem Run.zero(R:Run w m p v G N S r c e){n q:Nat}(f:(S n).t (r n) w=0):Zr w m (S n) q ↔ Zr w m (S (n+1)) q:=by
 have B:=R.B n;have P:=B.piv;have g:w≠c n:=by have:=B.hc;lia
 have d:(S (n+1)).t (r n) w=0:=by rw[P.rj w oM g,f];lia
 have b:∀i,i<m->i≠r n->((S n).t i w=0 ↔ (S (n+1)).t i w=0):=fun i a ne=>by
  have:=R.col n a ne
  rw[f,yO,Ġ]at this;constructor
  ·intro z;rw[z,yP]at this;exact Ax (R.L n).pos this
  ·intro z;rw[z,yO]at this
   rcases W2.mp this.symm with y|y
   ·exact y
   ·have:=(R.L (n+1)).pos;lia
 constructor
 ·intro h i a e
  by_cases z:i=r n
  ·rw[z];exact d
  ·rw[P.si i a z]at e;exact(b i a z).mp (h i a e)
 ·intro h i a e
  by_cases z:i=r n
  ·rw[z];exact f
  ·exact(b i a z).mpr (h i a (by rw[P.si i a z];exact e))
theorem Run.zeros(R:Run w m p v G N S r c e){i j q:Nat}(h:∀k,k<w->(S i).h k=(S j).h k){a:Nat}(ha:i<=a):∀k,a+k<=j->(Zr w m (S a) q ↔ Zr w m (S (a+k)) q)
 |0,_=>.rfl
 |k+1,hk=>(R.zeros h ha k oM).trans (R.zero (R.flat h oM oM))
theorem Run.zall(R:Run w m p v G N S r c e){i j q:Nat}(h:∀k,k<w->(S i).h k=(S j).h k){a b:Nat}(n:i<=a)(g:a<=j)(f:i<=b)(d:b<=j)(z:Zr w m (S a) q):Zr w m (S b) q:=by
 rcases Z? a b with l|l
 ·have:=(R.zeros (q:=q) h n (b-a) oM).mp;rw[show a+(b-a)=b by lia]at this;exact this z
 ·have:=(R.zeros (q:=q) h f (a-b) oM).mpr;rw[show b+(a-b)=a by lia]at this;exact this z
theorem Run.out(R:Run w m p v G N S r c e){n q:Nat}(h:jo w (S n) q)(g:¬jo w (S (n+1)) q):q=(S n).h (c n):=by
 obtain⟨k,a,rfl⟩:=h;by_cases z:k=c n
 ·rw[z]
 ·exact absurd ⟨k,a,(R.B n).piv.hj k a z⟩ g
theorem Run.inn(R:Run w m p v G N S r c e){n q:Nat}(h:¬jo w (S n) q)(g:jo w (S (n+1)) q):q=(S n).s (r n):=by
 obtain⟨k,a,rfl⟩:=g;by_cases z:k=c n
 ·rw[z];exact(R.B n).piv.hc
 ·exact absurd ⟨k,a,((R.B n).piv.hj k a z).symm⟩ h
theorem Run.hz(R:Run w m p v G N S r c e){n q:Nat}(h:jo w (S n) q):Zr w m (S n) q:=fun i b e=>by
 obtain⟨k,a,rfl⟩:=h;exact absurd e.symm ((R.Q n).hs k i a b)
theorem Bb{n:Nat}{f:Nat->Int}(h:0<O5 n f):∃k,k<n/\0<f k:=by
 induction n with
 |zero=>exact absurd h (by simp[O5])
 |succ n a =>
  by_cases z:0<f n
  ·exact⟨n,by lia,z⟩
  ·obtain⟨k,b,e⟩:=a (by simp only[O5]at h;lia)
   exact⟨k,by lia,e⟩
theorem Run.ends(R:Run w m p v G N S r c e):False:=by
 obtain⟨i,j,hij,eq⟩:=xX ((w+m)^w) (fun n=>jD (w+m) (S n).h w) fun n=>Aa (R.Q n).hl
 have I:=vF (R.Q i).hl (R.Q j).hl eq
 let C:Nat->Prop:=fun q=>∃a b,i<=a/\a<=j/\i<=b/\b<=j/\jo w (S a) q/\¬jo w (S b) q
 have f0:C ((S i).h (c i)):=⟨i,i+1,by lia,by lia,by lia,by lia,⟨c i,(R.B i).hc,rfl⟩,fun⟨k,h,e⟩=>(R.Q (i+1)).hs k (r i) h (R.B i).hr (by rw[e,(R.B i).piv.sr])⟩;have bd:∀q,C q->q<w+m:=fun q T=>by obtain⟨a,b,_,_,_,_,⟨k,h,e⟩,_⟩:=T;rw[<- e];exact(R.Q a).hl k h
 obtain⟨q,hq,V⟩:∃q,C q/\∀x,C x->x<=q:=by
  have go:∀k,(∃q,C q/\w+m<=q+k)->∃q,C q/\∀x,C x->x<=q:=fun k=>by
   induction k with
   |zero=>intro⟨q,F,U⟩;have:=bd q F;lia
   |succ k ih =>
    rintro⟨q,F,U⟩;by_cases z:∃x,C x/\q<x
    ·obtain⟨x,x1,x2⟩:=z;exact ih ⟨x,x1,by lia⟩
    ·exact⟨q,F,fun x E=>by
      rcases yT q x with y|y
      ·exact absurd ⟨x,E,y⟩ z
      ·exact y⟩
  exact go (w+m) ⟨_,f0,by lia⟩
 have B:jo w (S i) q ↔ jo w (S j) q:=⟨fun⟨k,h,e⟩=>⟨k,h,by rw[<- I k h];exact e⟩,fun⟨k,h,e⟩=>⟨k,h,by rw[I k h];exact e⟩⟩;obtain⟨a,b,a1,a2,b1,b2,ha,Z⟩:=id hq;obtain⟨f,u1,u2,u3,u4⟩:=xy (fun n=>jo w (S n) q) ⟨a1,a2⟩ ⟨b1,b2⟩ ha Z B;obtain⟨d,v1,v2,v3,K⟩:=xy (fun n=>¬jo w (S n) q) ⟨b1,b2⟩ ⟨a1,a2⟩ Z (fun z=>z ha) (not_congr B);have K:jo w (S (d+1)) q:=ð K;have M:=R.out u3 u4;have L:=R.inn v3 K;have J:=R.B f;have s:=R.B d
 obtain⟨g,g1,Y⟩:=(R.L d).dt
 let W:(Nat->Int)->Int:=fun u=>g*bK (w+1) (up (aM w v (S d).h) (c d) u)
 have t:c d<w+1:=by have:=s.hc;lia
 have Ws:∀k,k<m->W (v ((S d).s k))=(S d).t k (c d):=fun k h=>by
  show g*_=_;rw[(R.L d).one Y h t];grind
 have Wb:∀k,k<w+1->W (aM w v (S d).h k)=if k=c d then(S d).d else 0:=fun k h=>by
  show g*_=_;by_cases z:k=c d
  ·rw[yH z,z,f9,Y];grind
  ·rw[yG z,km (i:=k) (j:=c d) h t z fun x=>by rw[bE z,cg],yO]
 have P:(S f).d*(S d).t p (c d)=O5 w fun k=>(S f).t p k*W (v ((S f).h k)):=by
  have F:(S f).d*W (v ((S 0).s p))=O5 (w+1) fun k=>(S f).t p k*W (aM w v (S f).h k):=by
   show(S f).d*(g*bK (w+1) (up (aM w v (S d).h) (c d) (v ((S 0).s p))))=O5 (w+1) fun k=>(S f).t p k*(g*bK (w+1) (up (aM w v (S d).h) (c d) (aM w v (S f).h k)))
   have U:(S f).d*bK (w+1) (up (aM w v (S d).h) (c d) (v ((S 0).s p)))=O5 (w+1) fun k=>(S f).t p k*bK (w+1) (up (aM w v (S d).h) (c d) (aM w v (S f).h k)):=by
    rw[<- qa t,<- ki t];exact jm fun x E=>by rw[<- R.sp f];exact(R.L f).lin p R.hp x E
   rw[sum_congr (g:=fun k=>g*((S f).t p k*bK (w+1) (up (aM w v (S d).h) (c d) (aM w v (S f).h k)))) fun k _=>by grind,sum_mul,<- U];grind
  rw[<- Ws p R.hp,R.sp d,F];show O5 w _+_=_;have hw:W (aM w v (S f).h w)=0:=by
   have:aM w v (S f).h w=aM w v (S d).h w:=by unfold aM;rw[yH rfl,yH rfl]
   rw[this,Wb w oM,yG (by have:=s.hc;lia)]
  show O5 w _+(S f).t p w*W (aM w v (S f).h w)=_;rw[hw,yO,Ġ];exact sum_congr fun k h=>by rw[show aM w v (S f).h k=v ((S f).h k) by unfold aM;rw[yG oM]]
 obtain⟨k,h,D⟩:=Bb (by rw[<- P];exact P! (R.L f).pos s.up);have Q:jo w (S f) ((S f).h k):=⟨k,h,rfl⟩;rcases(R.Q d).cov ((S f).h k) ((R.Q f).hl k h) with⟨l,A,o⟩|⟨l,A,o⟩
 ·-- a line at d
  rw[<- o,Ws l A]at D;have O:¬jo w (S d) ((S f).h k):=fun⟨x,E,ex⟩=>(R.Q d).hs x l E A (by rw[ex,o])
  have le:=V _ ⟨f,d,by lia,by lia,by lia,by lia,Q,O⟩;have nt:(S d).t l (c d)≠0:=fun z=>by rw[z,yO]at D;lia
  have H:¬N ((S f).h k):=fun z=>nt (((R.F d).n l A (by rw[o];exact z)).2 (c d) s.hc s.nc)
  by_cases X:(S f).h k=q
  ·have kc:k=c f:=(R.Q f).hi k (c f) h J.hc (by rw[X];exact M)
   have lr:l=r d:=(R.Q d).si l (r d) A s.hr (by rw[o,X];exact L);rw[kc,lr]at D
   have:=Ť J.up s.neg
   lia
  ·have np:¬0<(S f).t p k:=fun z=>by
    have:=J.least k h H z
    rw[<- M]at this;lia
   have n0:(S f).t p k<0:=by
    rcases yU ((S f).t p k) 0 with z|z
    ·exact z
    ·rw[show(S f).t p k=0 by lia,yP]at D;lia
   have tl:(S d).t l (c d)<0:=by
    rcases yU ((S d).t l (c d)) 0 with z|z
    ·exact z
    ·have:=ā (Č n0) z;lia
   have gl:G ((S d).s l):=by
    rcases(R.F f).f k h with z|z
    ·rw[o];exact z
    ·exact absurd z H
   have lz:(S d).t l w=0:=R.zall I oM oM oM oM (R.hz Q) l A o;have rz:=R.flat I (n:=d) oM oM;rcases s.ti l A gl tl with z|⟨_,z⟩
   ·rw[lz,rz]at z;lia
   ·rw[<- L,o]at z;lia
 ·-- free at d
  have e1:v ((S f).h k)=aM w v (S d).h l:=by unfold aM;rw[yG oM,o]
  rw[e1,Wb l oM]at D;by_cases z:l=c d
  ·rw[yH z]at D
   have tp:0<(S f).t p k:=by
    rcases yU 0 ((S f).t p k) with y|y
    ·exact y
    ·have:=ā y (Č (R.L d).pos);lia
   have H:¬N ((S f).h k):=by rw[<- o,z];exact s.nc
   have l1:=J.least k h H tp;rw[<- M]at l1;have O:¬jo w (S (d+1)) ((S f).h k):=fun⟨x,E,ex⟩=>(R.Q (d+1)).hs x (r d) E s.hr (by rw[ex,s.piv.sr,<- o,z])
   have l2:=V _ ⟨f,d+1,by lia,by lia,by lia,by lia,Q,O⟩;have:q=(S f).h k:=by lia
   exact(R.Q d).hs l (r d) A s.hr (by rw[o,<- L,this])
  ·rw[yG z,yO]at D;lia
end
structure Sh where
 d:Int
 ls:List (List Int)
 hd:List Nat
 sd:List Nat
 gd:List Nat
 nl:List Nat
 tn:List Nat
noncomputable def gI(xs:List Int)(j:Nat):Int:=xs.getD j 0
noncomputable def row(S:Sh)(i:Nat):List Int:=S.ls.getD i []
def Sh.t(S:Sh)(i j:Nat):Int:=gI (row S i) j
noncomputable def Sh.h(S:Sh)(j:Nat):Nat:=S.hd.getD j 0
noncomputable def Sh.s(S:Sh)(i:Nat):Nat:=S.sd.getD i 0
noncomputable def fdvS(a b:Int):Int:=if 0<b then a/b else a.fdiv b
def chLine(l P:List Int)(c:Nat)(sg d:Int):List Int :=
 if gI l c=0 then(if gI P c=d then l else l.map fun x=>fdvS (x*gI P c) d) else((l.zip P).map fun z=>fdvS (z.1*gI P c-gI l c*z.2) d).set c (sg*gI l c)
noncomputable def sgn(x:Int):Int:=if x<0 then -1 else 1
def pvl(S:Sh)(r c:Nat):List Int:=(row S r).map fun x=>sgn (S.t r c)*x
def O9(S:Sh)(r c:Nat):Sh:={ S with
 d:=gI (pvl S r c) c
 ls:=(S.ls.map fun l=>chLine l (pvl S r c) c (sgn (S.t r c)) S.d).set r (((pvl S r c).map fun x=>- x).set c (sgn (S.t r c)*S.d))
 hd:=S.hd.set c (S.s r)
 sd:=S.sd.set r (S.h c) }
structure Pb(w m:Nat)(S:Sh):Prop where
 ls:S.ls.length=m
 row:∀l∈S.ls,l.length=w+1
 hd:S.hd.length=w
 sd:S.sd.length=m
theorem o0{f:Int->Int}{xs:List Int}{j:Nat}(h:j<xs.length):gI (xs.map f) j=f (gI xs j):=by
 unfold gI;simp[zD,h]
theorem gI_set_at{xs:List Int}{j:Nat}{x:Int}(h:j<xs.length):gI (xs.set j x) j=x:=by
 unfold gI;simp[zD,h]
theorem gI_set_ne{j k:Nat}{x:Int}(h:k≠j):gI (xs.set j x) k=gI xs k:=by
 unfold gI;simp[zD,yW,h.symm]
theorem gI_zip{xs ys:List Int}{f:Int×Int->Int}{j:Nat}(h:j<xs.length)(h':j<ys.length):gI ((xs.zip ys).map f) j=f (gI xs j,gI ys j):=by
 unfold gI;have hz:j<(xs.zip ys).length:=by rw[ŀ];lia
 simp only[zD,zR,zF h,zF h',zF hz,Û,ň,List.getElem_zip]
theorem getD_mem{α:Type}{xs:List α}{i:Nat}{a:α}(h:i<xs.length):xs.getD i a∈xs:=by
 simp[zD,zF h]
theorem Pb.rl{w m:Nat}(P:Pb w m S){i:Nat}(h:i<m):(SX.row S i).length=w+1:=P.row _ (getD_mem (by rw[P.ls];exact h))
theorem vD{a b:Int}(h:0<b):fdvS a b=a/b:=yH h
theorem wZ{c:Nat}{sg d:Int}(h:l.length=P.length):(chLine l P c sg d).length=l.length:=by
 unfold chLine;split
 ·split
  ·rfl
  ·simp
 ·simp[h]
theorem tK{r c i:Nat}(a:i<S.ls.length)(b:r<S.ls.length):SX.row (O9 S r c) i=if i=r then((pvl S r c).map fun x=>- x).set c (sgn (S.t r c)*S.d) else chLine (SX.row S i) (pvl S r c) c (sgn (S.t r c)) S.d:=by
 unfold SX.row O9;simp only[zD,yW,zH];by_cases e:i=r
 ·subst e;simp[a]
 ·rw[yG fun z=>e z.symm,yG e];simp[zF a]
theorem exch_shp{w m:Nat}{r c:Nat}(P:Pb w m S)(d:r<m):Pb w m (O9 S r c):=by
 have a:(pvl S r c).length=w+1:=by unfold pvl;rw[zH];exact P.rl d
 refine⟨by simp[O9,P.ls],fun l e=>?_,by simp[O9,P.hd],by simp[O9,P.sd]⟩;rcases ă e with h|h
 ·obtain⟨f,b,rfl⟩:=yC.mp h
  rw[wZ (by rw[P.row _ b,a])];exact P.row _ b
 ·rw[h];simp[a]
theorem FM(x:Int):sgn x*sgn x=1:=by unfold sgn;split<;>rfl
theorem Dy{x:Int}(h:x≠0):0<sgn x*x:=by unfold sgn;split<;>lia
theorem kK{w m:Nat}{r c:Nat}(P:Pb w m S)(f:r<m)(q:c<w)(hd:0<S.d)(p:S.t r c≠0):qV w m r c (sgn (S.t r c)) S.d S.t S.h S.s (O9 S r c).d (O9 S r c).t (O9 S r c).h (O9 S r c).s:=by
 have o:=P.rl f;have g:(pvl S r c).length=w+1:=by unfold pvl;rw[zH];exact o
 have e:∀j,j<w+1->gI (pvl S r c) j=sgn (S.t r c)*S.t r j:=fun j a=>by
  unfold pvl;rw[o0 (by rw[o];exact a)];rfl
 have b:∀i,i<m->i≠r->∀j,j<w+1->(O9 S r c).t i j=if j=c then sgn (S.t r c)*S.t i c else(S.t i j*(sgn (S.t r c)*S.t r c)-S.t i c*(sgn (S.t r c)*S.t r j))/S.d:=fun i d ne j a=>by
  have l:=P.rl d;show gI (SX.row (O9 S r c) i) j=_;rw[tK (by rw[P.ls];exact d) (by rw[P.ls];exact f),yG ne];have k:gI (SX.row S i) c=S.t i c:=rfl;have h:gI (SX.row S i) j=S.t i j:=rfl;unfold chLine;by_cases z:gI (SX.row S i) c=0
  ·rw[yH z]
   rw[k]at z;rw[z];have s:∀x:Int,x-0*(sgn (S.t r c)*S.t r j)=x:=fun x=>by rw[yP,Int.sub_zero]
   rw[s];by_cases y:gI (pvl S r c) c=S.d
   ·rw[yH y,h]
    rw[e c oM]at y;rw[y,Int.mul_ediv_cancel _ oM];by_cases x:j=c
    ·rw[yH x,x,z,yO]
    ·rw[yG x]
   ·rw[yG y,o0 (by rw[l];exact a),h,vD hd,e c oM]
    by_cases x:j=c
    ·rw[yH x,x,z,yO,yP,Int.zero_ediv]
    ·rw[yG x]
  ·rw[yG z]
   by_cases x:j=c
   ·rw[yH x,x,gI_set_at (by simp[l,g];lia),k]
   ·rw[yG x,gI_set_ne x,gI_zip (by rw[l];exact a) (by rw[g];exact a),vD hd,h,k,e c oM,e j a]
 have n:∀j,j<w+1->(O9 S r c).t r j=if j=c then sgn (S.t r c)*S.d else-(sgn (S.t r c)*S.t r j):=fun j a=>by
  show gI (SX.row (O9 S r c) r) j=_;rw[tK (by rw[P.ls];exact f) (by rw[P.ls];exact f),yH rfl];by_cases x:j=c
  ·rw[yH x,x,gI_set_at (by simp[g];lia)]
  ·rw[yG x,gI_set_ne x,o0 (by rw[g];exact a),e j a]
 refine⟨FM _,Dy p,e c oM,fun i d ne=>by rw[b i d ne c oM,yH rfl],fun i d ne j a x=>by rw[b i d ne j a,yG x],by rw[n c oM,yH rfl],fun j a x=>by rw[n j a,yG x],?_,fun j a x=>?_,?_,fun i d x=>?_⟩
 ·show((S.hd.set c (S.s r)).getD c 0)=_
  simp[zD,P.hd,q]
 ·show((S.hd.set c (S.s r)).getD j 0)=S.hd.getD j 0
  simp[zD,yW,x.symm]
 ·show((S.sd.set r (S.h c)).getD r 0)=_
  simp[zD,P.sd,f]
 ·show((S.sd.set r (S.h c)).getD i 0)=S.sd.getD i 0
  simp[zD,yW,x.symm]
def trn(S:Sh)(p:Nat):Sh:={ S with ls:=S.ls.set p ((row S p).map fun x=>- x),tn:=if S.s p∈S.tn then S.tn else S.tn++[S.s p] }
theorem trn_shp{w m p:Nat}(P:Pb w m S)(a:p<m):Pb w m (trn S p):=by
 refine⟨by simp[trn,P.ls],fun l b=>?_,P.hd,P.sd⟩;rcases ă b with h|h
 ·exact P.row _ h
 ·rw[h,zH];exact P.rl a
theorem trn_t{w m p:Nat}(P:Pb w m S)(c:p<m):(∀j,j<w+1->(trn S p).t p j=- S.t p j)/\∀i,i<m->i≠p->∀j,j<w+1->(trn S p).t i j=S.t i j:=by
 have b:∀i,i<m->row (trn S p) i=if i=p then(row S p).map (fun x=>- x) else row S i:=fun i a=>by
  show(S.ls.set p _).getD i []=_;simp only[zD,yW];by_cases e:i=p
  ·subst e;rw[yH rfl,yH (by rw[P.ls];exact a),yH rfl];rfl
  ·rw[yG fun z=>e z.symm,yG e];unfold row;rw[zD]
 refine⟨fun j d=>?_,fun i a ne j d=>?_⟩
 ·show gI (row (trn S p) p) j=_
  rw[b p c,yH rfl,o0 (by rw[P.rl c];exact d)];rfl
 ·show gI (row (trn S p) i) j=_
  rw[b i a,yG ne];rfl
def LD(S:Sh)(w q r i:Nat):Prop:=S.t r w*- S.t i q<S.t i w*- S.t r q\/(S.t r w*- S.t i q=S.t i w*- S.t r q/\S.s r<=S.s i)
def O7(S:Sh)(w q k:Nat)(o:Option Nat):Prop:=(o=Á->∀i,i<k->S.s i∈S.gd->¬S.t i q<0)/\∀r,o=À r->r<k/\S.s r∈S.gd/\S.t r q<0/\∀i,i<k->S.s i∈S.gd->S.t i q<0->LD S w q r i
theorem Nb{A B C x y z:Int}{a b c:Nat}(p:0<x)(j:0<y)(hz:0<z)(f:A*y<B*x\/(A*y=B*x/\a<=b))(d:B*z<C*y\/(B*z=C*y/\b<=c)):A*z<C*x\/(A*z=C*x/\a<=c):=by
 have i:A*y<=B*x:=by lia
 have h:B*z<=C*y:=by lia
 have o:(A*y)*z<=(B*x)*z:=Ô i oM;have n:(B*z)*x<=(C*y)*x:=Ô h oM;have t:(B*x)*z=(B*z)*x:=by grind
 have s:(A*y)*z=(A*z)*y:=by grind
 have r:(C*y)*x=(C*x)*y:=by grind
 have g:(A*z)*y<=(C*x)*y:=by lia
 have m:A*z<=C*x:=Ă g j;by_cases e:A*z=C*x
 ·right
  refine⟨e,?_⟩;have q:(A*z)*y=(C*x)*y:=by rw[e]
  have l:A*y=B*x:=by
   have:(A*y)*z=(B*x)*z:=by(omega)
   exact Ş oM this
  have k:B*z=C*y:=by
   have:(B*z)*x=(C*y)*x:=by lia
   exact Ş oM this
  rcases f with f|f
  ·lia
  ·rcases d with d|d
   ·lia
   ·lia
 ·left;(omega)
section
variable{S:Sh}{w q k r:Nat}{o:Option Nat}
theorem tt_zero:O7 S w q 0 Á:=⟨fun _ i h=>by lia,fun r h=>nomatch h⟩
theorem tt_skip(h:¬(S.t k q<0/\S.s k∈S.gd))(T:O7 S w q k o):O7 S w q (k+1) o:=by
 refine⟨fun e i j g f=>?_,fun r e=>?_⟩
 ·by_cases z:i=k
  ·subst z;exact h ⟨f,g⟩
  ·exact T.1 e i oM g f
 ·obtain⟨a,b,c,d⟩:=T.2 r e
  refine⟨by lia,b,c,fun i j g f=>?_⟩;by_cases z:i=k
  ·subst z;exact absurd ⟨f,g⟩ h
  ·exact d i oM g f
theorem tt_first(h:S.t k q<0)(a:S.s k∈S.gd)(T:O7 S w q k Á):O7 S w q (k+1) (À k):=by
 refine⟨(fun e=>nomatch e),fun r e=>?_⟩;cases e;refine⟨by lia,a,h,fun i c a b=>?_⟩;by_cases z:i=k
 ·subst z;exact .inr ⟨rfl,zP _⟩
 ·exact absurd b (T.1 rfl i oM a)
theorem tt_new(h:S.t k q<0)(l:S.s k∈S.gd)(j:S.t k w*- S.t r q<S.t r w*- S.t k q\/(S.t k w*- S.t r q=S.t r w*- S.t k q/\S.s k<S.s r))(T:O7 S w q k (À r)):O7 S w q (k+1) (À k):=by
 refine⟨(fun e=>nomatch e),fun m e=>?_⟩;cases e;obtain⟨a,b,c,d⟩:=T.2 r rfl;refine⟨by lia,l,h,fun i n g f=>?_⟩;by_cases z:i=k
 ·subst z;exact .inr ⟨rfl,zP _⟩
 ·exact Nb (x:=- S.t k q) (y:=- S.t r q) (z:=- S.t i q) oM oM oM (j.imp id fun x=>⟨x.1,by lia⟩) (d i oM g f)
theorem tt_old(h:S.t k q<0)(j:¬(S.t k w*- S.t r q<S.t r w*- S.t k q\/(S.t k w*- S.t r q=S.t r w*- S.t k q/\S.s k<S.s r)))(T:O7 S w q k (À r)):O7 S w q (k+1) (À r):=by
 refine⟨(fun e=>nomatch e),fun l e=>?_⟩;cases e;obtain⟨a,b,c,d⟩:=T.2 r rfl;refine⟨by lia,b,c,fun i m g f=>?_⟩;by_cases z:i=k
 ·subst z
  unfold LD;have n:¬(S.t i w*- S.t r q<S.t r w*- S.t i q):=fun x=>j (.inl x)
  by_cases e:S.t i w*- S.t r q=S.t r w*- S.t i q
  ·exact .inr ⟨e.symm,U9 fun x=>j (.inr ⟨e,x⟩)⟩
  ·left;(omega)
 ·exact d i oM g f
end
noncomputable def vt(v:Nat->Nat->Int)(tn:List Nat):Nat->Nat->Int:=fun q x=>if q∈tn then-v q x else v q x
structure MI(w m:Nat)(v:Nat->Nat->Int)(S:Sh):Prop where
 shp:Pb w m S
 lin:Lin w m (vt v S.tn) S.d S.t S.h S.s
 pm:Pm w m S.h S.s
 fea:Fea w m (·∈S.gd) (·∈S.nl) S.t S.h S.s
def toSt(S:Sh):St:=⟨S.d,S.t,S.h,S.s⟩
def Rais(w:Nat)(S:Sh)(p:Nat)(o:Option Nat):Prop:=(o=Á->∀j,j<w->S.h j∉S.nl->¬0<S.t p j)/\∀q,o=À q->q<w/\S.h q∉S.nl/\0<S.t p q/\∀j,j<w->S.h j∉S.nl->0<S.t p j->S.h q<=S.h j
structure Kept(m p:Nat)(S T:Sh):Prop where
 gd:T.gd=S.gd
 nl:T.nl=S.nl
 tn:T.tn=S.tn
 si:∀i,i<m->i≠p->S.s i∉S.gd->T.s i=S.s i
section
variable{w m p q r:Nat}{v:Nat->Nat->Int}{S T:Sh}
theorem Kept.refl:Kept m p S S:=⟨rfl,rfl,rfl,fun _ _ _ _=>rfl⟩
theorem Kept.trans(a:Kept m p S T)(b:Kept m p T U):Kept m p S U :=
 ⟨b.gd.trans a.gd,b.nl.trans a.nl,b.tn.trans a.tn,fun i c ne h=>by
  have d:=a.si i c ne h;rw[b.si i c ne (by rw[d,a.gd];exact h),d]⟩
theorem MI.step(I:MI w m v S)(n:p<m)(h:S.s p∉S.gd)(l:Rais w S p (À q))(k:O7 S w q m (À r)):MI w m v (O9 S r q)/\Bl w m p (·∈S.gd) (·∈S.nl) r q (sgn (S.t r q)) (toSt S) (toSt (O9 S r q))/\Kept m p S (O9 S r q)/\(O9 S r q).s p=S.s p:=by
 obtain ⟨b,g,s,o⟩:=l.2 q rfl;obtain ⟨r1,r2,f,e⟩:=k.2 r rfl;have a:=kK I.shp r1 b I.lin.pos (show S.t r q ≠ 0 by lia);refine ⟨⟨exch_shp I.shp r1,I.lin.piv a r1 b,I.pm.piv a r1 b,?_⟩,⟨b,g,s,o,r1,r2,f,e,a⟩,⟨rfl,rfl,rfl,fun i c _ d=>?_⟩,?_⟩
 ·exact Fea.tight I.lin I.pm I.fea a r1 b g r2 f fun i c d j=>by
   rcases e i c d j with z|z
   ·lia
   ·exact Z0 z.1
 ·exact a.si i c fun z=>d (by rw[z];exact r2)
 ·exact a.si p n fun z=>h (by rw[z];exact r2)
theorem MI.low(I:MI w m v S)(c:p<m)(f:S.s p∉S.gd)(h:Rais w S p (À q))(g:O7 S w q m (À r))(n:¬S.t p w*S.t r q<=S.t r w*S.t p q):(O9 S r q).t p w<0:=by
 obtain ⟨i,t,s,o⟩:=h.2 q rfl;obtain ⟨r1,r2,d,l⟩:=g.2 r rfl;have a:=kK I.shp r1 i I.lin.pos (show S.t r q ≠ 0 by lia);have ne:p ≠ r:=fun z=>f (by rw [z];exact r2)
 have b:=I.lin.ex' (e:=sgn (S.t r q)) c r1 (show q < w + 1 by lia) (show w < w + 1 by lia) (show q ≠ w by lia);rw [<- a.tj p c ne w oM oM] at b;have k:sgn (S.t r q)=-1:=by unfold sgn;rw [yH d]
 rw[k]at b;have j:S.t p w*(-1*S.t r q)-S.t p q*(-1*S.t r w)=S.t r w*S.t p q-S.t p w*S.t r q:=by grind
 rw[j]at b;rcases yU ((O9 S r q).t p w) 0 with z|z
 ·exact z
 ·have:=ç (Č I.lin.pos) z;lia
theorem MI.up(I:MI w m v S)(e:p<m)(C:S.s p∉S.gd)(B:S.s p∉S.nl)(low:S.t p w<0)(A:Rais w S p (À q))(h:O7 S w q m Á\/∃r,O7 S w q m (À r)/\S.t p w*S.t r q<=S.t r w*S.t p q) :
  MI w m v { O9 S p q with gd:=S.gd++[S.s p] }/\MI w m v { O9 S p q with nl:=S.nl++[S.s p] }/\Kept m p S (O9 S p q):=by
 obtain ⟨f,s,l,D⟩:=A.2 q rfl;have d:=kK I.shp e f I.lin.pos (show S.t p q ≠ 0 by lia);have sh:=exch_shp (c:=q) I.shp e;have n:∀ i,i < m->S.s i ∈ S.gd->S.t i q < 0->S.t p w * S.t i q <= S.t i w * S.t p q:=fun i j o k=>by
  rcases h with h|⟨r,h,y⟩
  ·exact absurd k (h.1 rfl i j o)
  ·obtain⟨r1,r2,u,t⟩:=h.2 r rfl
   refine EG (a:=S.t r w) (b:=S.t r q) u k l y ?_;rcases t i j o k with z|z
   ·lia
   ·exact Z0 z.1
 refine⟨⟨⟨sh.ls,sh.row,sh.hd,sh.sd⟩,I.lin.piv d e f,I.pm.piv d e f,?_⟩,⟨⟨sh.ls,sh.row,sh.hd,sh.sd⟩,I.lin.piv d e f,I.pm.piv d e f,?_⟩,⟨rfl,rfl,rfl,fun i j ne _=>d.si i j ne⟩⟩
 ·exact Fea.lift (G':=(·∈S.gd++[S.s p])) I.lin I.pm I.fea d e f s l low n (fun x g=>by simp[g]) (fun x g=>.rfl) (.inl (by simp))
 ·exact Fea.lift (N':=(·∈S.nl++[S.s p])) I.lin I.pm I.fea d e f s l low n (fun x g=>.rfl) (fun x g=>by simp[g]) (.inr (by simp))
theorem MI.move(I:MI w m v S)(b:p<m)(d:q<w)(f:S.h q∉S.nl)(h:S.t p w=0)(hz:S.t p q≠0):MI w m v { O9 S p q with nl:=S.nl++[S.s p] }/\Kept m p S (O9 S p q):=by
 have a:=kK I.shp b d I.lin.pos hz;have sh:=exch_shp (c:=q) I.shp b;refine⟨⟨⟨sh.ls,sh.row,sh.hd,sh.sd⟩,I.lin.piv a b d,I.pm.piv a b d,?_⟩,⟨rfl,rfl,rfl,fun i g ne _=>a.si i g ne⟩⟩;exact Fea.move (N':=(·∈S.nl++[S.s p])) I.lin I.pm I.fea a b d f h (fun x e=>.rfl) (fun x e=>by simp[e]) (.inr (by simp))
theorem MI.guard(I:MI w m v S)(a:p<m)(b:0<=S.t p w):MI w m v { S with gd:=S.gd++[S.s p] }:=by
 refine⟨⟨I.shp.ls,I.shp.row,I.shp.hd,I.shp.sd⟩,I.lin,I.pm,?_⟩;have e:(fun x=>x∈S.gd++[S.s p])=fun x=>x∈S.gd\/x=S.s p:=by funext x;simp
 show Fea w m (fun x=>x∈S.gd++[S.s p]) _ _ _ _;rw[e];exact Fea.guard I.fea I.pm a b
theorem MI.nail(I:MI w m v S)(a:p<m)(b:S.t p w=0)(hz:∀j,j<w->S.h j∉S.nl->S.t p j=0):MI w m v { S with nl:=S.nl++[S.s p] }:=by
 refine⟨⟨I.shp.ls,I.shp.row,I.shp.hd,I.shp.sd⟩,I.lin,I.pm,?_⟩;have e:(fun x=>x∈S.nl++[S.s p])=fun x=>x∈S.nl\/x=S.s p:=by funext x;simp
 show Fea w m _ (fun x=>x∈S.nl++[S.s p]) _ _ _;rw[e];exact Fea.nail I.fea I.pm a b hz
theorem MI.turn(I:MI w m v S)(a:p<m)(g:S.s p∉S.gd)(f:S.s p∉S.nl)(c:S.s p∉S.tn):MI w m v (trn S p):=by
 obtain⟨d,b⟩:=trn_t I.shp a;refine⟨trn_shp I.shp a,?_,I.pm,Fea.turn I.fea I.pm a g f b⟩;have e:vt v (trn S p).tn=tv (vt v S.tn) (S.s p):=by
  have:(trn S p).tn=S.tn++[S.s p]:=by show(if _ then _ else _)=_;rw[yG c]
  rw[this];funext q x;unfold vt tv;by_cases h:q=S.s p
  ·subst h;simp[c]
  ·simp[h]
 rw[e];exact Lin.turn I.lin I.pm a d b
theorem no_chain(k:p<m)(f:Nat->Sh)(h:∀n,MI w m v (f n)/\(∃r q e,Bl w m p (·∈(f n).gd) (·∈(f n).nl) r q e (toSt (f n)) (toSt (f (n+1))))/\Kept m p (f n) (f (n+1)))(i:(f 0).s p∉(f 0).gd):False:=by
 have a:∀n,Kept m p (f 0) (f n):=fun n=>by
  induction n with
  |zero=>exact Kept.refl
  |succ n j=>exact j.trans (h n).2.2
 have g:∀n,∃r q e,Bl w m p (·∈(f 0).gd) (·∈(f 0).nl) r q e (toSt (f n)) (toSt (f (n+1))):=fun n=>by
  have:=(h n).2.1;rw[(a n).gd,(a n).nl]at this;exact this
 let r:=fun n=>č (g n)
 have b:=fun n=>ę (g n)
 let q:=fun n=>č (b n)
 have d:=fun n=>ę (b n)
 let e:=fun n=>č (d n)
 have l:=fun n=>ę (d n)
 refine Run.ends (w:=w) (m:=m) (p:=p) (v:=vt v (f 0).tn) (G:=(·∈(f 0).gd)) (N:=(·∈(f 0).nl)) (S:=fun n=>toSt (f n)) (r:=r) (c:=q) (e:=e) ⟨fun n=>?_,fun n=>(h n).1.pm,fun n=>?_,fun n=>?_,k,i⟩
 ·have:=(h n).1.lin;rw[(a n).tn]at this;exact this
 ·have:=(h n).1.fea;rw[(a n).gd,(a n).nl]at this;exact this
 ·exact l n
theorem MI.bound(I:MI w m v S){M B:Nat}(f:1<=M)(b:∀q x,x<w+1->(v q x).natAbs<=M)(c:fct (w+1)*M^(w+1)<B):S.d.natAbs<B/\∀i,i<m->∀j,j<w+1->(S.t i j).natAbs<B:=by
 have:=I.lin.bound f (M:=M) fun q x a=>by
  unfold vt;split
  ·rw[ã];exact b q x a
  ·exact b q x a
 exact⟨yL this.1 c,fun i e j d=>yL (this.2 i e j d) c⟩
end
theorem vG:∀n:Nat,bK n (fun i j=>if j=i then 1 else 0)=1
 |0=>rfl
 |n+1=>by
  show O5 (n+1) _=1;rw[sum_one (k:=0) oM fun k hk ne=>by
   show sg k*(if 0=k then 1 else 0)*_=0;rw[yG fun z=>ne z.symm,yO,yP]]
  have:bK n (gK (fun i j=>if j=i then(1:Int) else 0) 0)=1:=by
   rw[dE (B:=fun i j=>if j=i then(1:Int) else 0) fun i j _ _=>?_]
   ·exact vG n
   ·unfold gK skip;simp
  rw[this];rfl
def v0(w:Nat)(L:List (List Int)):Nat->Nat->Int:=fun q x=>if q<w then(if x=q then 1 else 0) else gI (L.getD (q-w) []) x
noncomputable def openS(w:Nat)(L:List (List Int))(k:Nat):Sh:=⟨1,L,Ä w,(Ä L.length).map (w+·),Ä k,[],[]⟩
theorem open_MI{w nr:Nat}(r:∀l∈L,l.length=w+1)(hz:∀i,i<nr->gI (L.getD i []) w=0):MI w L.length (v0 w L) (openS w L (w+nr)):=by
 have d:∀j,j<w->(openS w L (w+nr)).h j=j:=fun j a=>by show(Ä w).getD j 0=j;simp[zD,a]
 have c:∀i,i<L.length->(openS w L (w+nr)).s i=w+i:=fun i b=>by show((Ä L.length).map (w+·)).getD i 0=w+i;simp[zD,b]
 have o:vt (v0 w L) (openS w L (w+nr)).tn=v0 w L:=by funext q x;unfold vt;exact yG (by show q∉[];simp)
 have m:∀k,k<w+1->∀x,x<w+1->aM w (v0 w L) (openS w L (w+nr)).h k x=if x=k then 1 else 0:=fun k f x g=>by
  unfold aM;by_cases e:k=w
  ·rw[yH e,e];rfl
  ·rw[yG e,d k oM];unfold v0;rw[yH oM]
 refine⟨⟨rfl,r,by simp[openS],by simp[openS]⟩,?_,?_,?_⟩
 ·rw[o]
  refine⟨Int.one_pos,fun i b x g=>?_,1,rfl,?_⟩
  ·rw[c i b,sum_one (k:=x) g fun k f ne=>by rw[m k f x g,yG fun z=>ne z.symm,yO],m x g x g,yH rfl]
   unfold v0;rw[yG oM,show w+i-w=i by lia];show 1*gI (L.getD i []) x=gI (L.getD i []) x*1;lia
  ·rw[dE (B:=fun i j=>if j=i then 1 else 0) fun i j b a=>m i b j a,vG];rfl
 ·refine⟨fun j a=>by rw[d j a];lia,fun i b=>by rw[c i b];lia,fun j k a f e=>by rw[d j a,d k f]at e;exact e,fun j k a f e=>by rw[c j a,c k f]at e;lia,fun j i a b e=>by rw[d j a,c i b]at e;lia,fun q s=>?_⟩
  by_cases h:q<w
  ·exact .inr ⟨q,h,d q h⟩
  ·exact .inl ⟨q-w,by lia,by rw[c _ oM];lia⟩
 ·refine⟨fun i b n=>?_,fun i b p=>?_,fun j a=>.inl ?_⟩
  ·rw[c i b]at n
   have:w+i<w+nr:=Ë.mp n;show 0<=gI (L.getD i []) w;rw[hz i oM];decide
  ·exact absurd (show _ ∈ ([]:List Nat) from p) (by simp)
  ·rw[d j a];exact Ë.mpr oM
theorem open_s{w k i:Nat}(a:i<L.length):(openS w L k).s i=w+i:=by show((Ä L.length).map (w+·)).getD i 0=w+i;simp[zD,a]
def Qt(w:Nat)(v:Nat->Nat->Int)(Y:Nat->Int)(e:Int)(q:Nat):Int:=(O5 w fun x=>v q x*Y x)+v q w*e
section
variable{w m p:Nat}{v:Nat->Nat->Int}{S:Sh}
theorem pE{Y:Nat->Int}{e:Int}{q:Nat}:Qt w (vt v S.tn) Y e q=if q∈S.tn then-Qt w v Y e q else Qt w v Y e q:=by
 unfold Qt vt;by_cases h:q∈S.tn
 ·simp only[yH h]
  rw[sum_congr (g:=fun x=>(-1)*(v q x*Y x)) fun x _=>by grind,sum_mul];grind
 ·simp only[yG h]
theorem MI.line(I:MI w m v S)(d:p<m)(Y:Nat->Int)(e:Int):S.d*Qt w (vt v S.tn) Y e (S.s p)=(O5 w fun j=>S.t p j*Qt w (vt v S.tn) Y e (S.h j))+S.t p w*e:=by
 have h:=I.lin.lin p d;have c:∀x,x<w+1->S.d*vt v S.tn (S.s p) x=(O5 w fun k=>S.t p k*vt v S.tn (S.h k) x)+S.t p w*(if x=w then 1 else 0):=fun x b=>by
  rw[h x b];show O5 w _+S.t p w*aM w (vt v S.tn) S.h w x=_;have a:aM w (vt v S.tn) S.h w x=if x=w then 1 else 0:=by unfold aM;rw[yH rfl];rfl
  rw[a];congr 1;exact sum_congr fun k l=>by unfold aM;rw[yG oM]
 unfold Qt;rw[P7,<- sum_mul];have a:(O5 w fun x=>S.d*(vt v S.tn (S.s p) x*Y x))=O5 w fun j=>S.t p j*O5 w fun x=>vt v S.tn (S.h j) x*Y x:=by
  rw[sum_congr (g:=fun x=>O5 w fun k=>S.t p k*(vt v S.tn (S.h k) x*Y x)) fun x b=>by
   rw[<- t!,c x oM,yG oM,yO,Ġ,ϧ,<- sum_mul];exact sum_congr fun k _=>by grind,AL]
  exact sum_congr fun j _=>by rw[sum_mul]
 have i:S.d*(vt v S.tn (S.s p) w*e)=(O5 w fun j=>S.t p j*(vt v S.tn (S.h j) w*e))+S.t p w*e:=by
  rw[<- t!,c w oM,yH rfl,P?,Int.add_mul];congr 1;rw[ϧ,<- sum_mul];exact sum_congr fun k _=>by grind
 rw[a,i,sum_congr (f:=fun j=>S.t p j*((O5 w fun x=>vt v S.tn (S.h j) x*Y x)+vt v S.tn (S.h j) w*e)) (g:=fun j=>S.t p j*(O5 w fun x=>vt v S.tn (S.h j) x*Y x)+S.t p j*(vt v S.tn (S.h j) w*e)) fun j _=>by rw[P7],sum_add];lia
theorem wd{n:Nat}{f:Nat->Int}(h:∀i,i<n->f i<=0):O5 n f<=0:=by
 induction n with
 |zero=>exact ϵ 0
 |succ n a=>have:=a fun i b=>h i oM;have:=h n oM;simp only[O5];lia
theorem MI.dual(I:MI w m v S)(d:p<m)(g:∀j,j<w->S.h j∉S.nl->¬0<S.t p j)(tn:∀q∈S.tn,q∈S.nl\/q=S.s p){Y:Nat->Int}{e:Int}(k:∀j,j<w->S.h j∉S.nl->0<=Qt w v Y e (S.h j))(i:∀j,j<w->S.h j∈S.nl->Qt w v Y e (S.h j)=0) :
  S.d*(if S.s p∈S.tn then-Qt w v Y e (S.s p) else Qt w v Y e (S.s p))<=S.t p w*e:=by
 rw[<- pE,I.line d Y e];have:(O5 w fun j=>S.t p j*Qt w (vt v S.tn) Y e (S.h j))<=0:=wd fun j c=>by
  by_cases h:S.h j∈S.nl
  ·rw[pE,i j c h];split<;>lia
  ·have f:S.h j∉S.tn:=fun z=>by
    rcases tn _ z with y|y
    ·exact h y
    ·exact I.pm.hs j p c d y
   rw[pE,yG f];have a:=g j c h;have b:=k j c h;exact ā oM b
 lia
theorem MI.vert(I:MI w m v S)(l:∀q,q<w->∀x,x<w+1->v q x=if x=q then 1 else 0)(g:∀q∈S.tn,w<=q){c:Nat}(p:c<w+1){X:Nat->Int}(s:∀i,i<m->S.s i<w->X (S.s i)=S.t i c)(r:∀j,j<w->S.h j<w->X (S.h j)=if j=c then S.d else 0) :
  (∀i,i<m->Qt w v X (if c=w then S.d else 0) (S.s i)=if S.s i∈S.tn then-S.t i c else S.t i c)/\∀j,j<w->Qt w v X (if c=w then S.d else 0) (S.h j)=if j=c then(if S.h j∈S.tn then-S.d else S.d) else 0:=by
 have d:∀q,q<w->∀x,x<w+1->vt v S.tn q x=if x=q then 1 else 0:=fun q f x k=>by
  unfold vt;rw[yG fun z=>by have:=g q z;lia];exact l q f x k
 obtain⟨a,b⟩:=I.lin.func d p s r fun q f=>I.pm.cov q oM
 refine⟨fun i o=>?_,fun j n=>?_⟩
 ·have e:Qt w (vt v S.tn) X (if c=w then S.d else 0) (S.s i)=S.t i c:=a i o
  rw[pE]at e;split at e
  ·rename_i h;rw[yH h];lia
  ·rename_i h;rw[yG h];exact e
 ·have e:Qt w (vt v S.tn) X (if c=w then S.d else 0) (S.h j)=if j=c then S.d else 0:=b j n
  rw[pE]at e;by_cases h:j=c
  ·rw[yH h]at e ⊢
   split at e
   ·rename_i h;rw[yH h];lia
   ·rename_i h;rw[yG h];exact e
  ·rw[yG h]at e ⊢
   split at e
   ·lia
   ·exact e
end
end SX
namespace R
open PySem PySem.Spec L2
open DD (pyOk)
section
variable{ks:List Fn}{sl:Sl}{st:aa}
@[simp] theorem OV:ev ks .n sl st=À (.non,st):=rfl
@[simp] theorem OX{x:Bool}:ev ks (.b x) sl st=À (.bl x,st):=rfl
@[simp] theorem xq{x:Int}:ev ks (.i x) sl st=À (.int x,st):=rfl
@[simp] theorem KQ{x:Í}:ev ks (.s x) sl st=À (.str x,st):=rfl
@[simp] theorem OW{x:Í}{c:AV}:ev ks (.g x c) sl st=À (c,st):=rfl
@[simp] theorem oj{k:Nat}:ev ks (.v k) sl st=aV k sl st:=rfl
@[simp] theorem kQ{v:AV}:aV 0 (À v::sl) st=À (v,st):=rfl
@[simp] theorem kP{k:Nat}{x:Option AV}:aV (k+1) (x::sl) st=aV k sl st:=rfl
@[simp] theorem Cg{o:Ā}{a b:Ex}:ev ks (.bin o a b) sl st=(ev ks a sl st).bind fun p=>(ev ks b sl p.2).bind fun q=>(bB o q.2 p.1 q.1).map fun z=>(z,q.2):=rfl
@[simp] theorem N1{o:ϙ}{a b:Ex}:ev ks (.cmp o a b) sl st=(ev ks a sl st).bind fun p=>(ev ks b sl p.2).bind fun q=>(oh o q.2 p.1 q.1).map fun z=>(z,q.2):=rfl
@[simp] theorem Of{o:UnaryOp}{a:Ex}:ev ks (.un o a) sl st=(ev ks a sl st).bind fun p=>(j3 o p.2 p.1).map fun z=>(z,p.2):=rfl
def No(x:AV)(st:aa):Option (AV×aa):=match x with
 |.bl b=>À (.bl !b,st)
 |_=>Á
def IC(x:AV)(st:aa)(r:Option (AV×aa)):Option (AV×aa):=match x with
 |.bl b=>if b=Â then r else À (.bl Ã,st)
 |_=>Á
def G0(x:AV)(st:aa)(r:Option (AV×aa)):Option (AV×aa):=match x with
 |.bl b=>if b=Â then À (.bl Â,st) else r
 |_=>Á
@[simp] theorem N7{b:Bool}:No (.bl b) st=À (.bl !b,st):=rfl
@[simp] theorem Oe{b:Bool}{r:Option (AV×aa)}:IC (.bl b) st r=if b=Â then r else À (.bl Ã,st):=rfl
@[simp] theorem N6{b:Bool}{r:Option (AV×aa)}:G0 (.bl b) st r=if b=Â then À (.bl Â,st) else r:=rfl
@[simp] theorem On{a b:Ex}:ev ks (.an a b) sl st=(ev ks a sl st).bind fun p=>IC p.1 p.2 (ev ks b sl p.2):=by
 show C8 (ev ks a) (ev ks b) sl st=_;unfold C8 IC;congr 1;funext p;cases p.1<;>first|rfl|skip
 rename_i x;cases x<;>rfl
@[simp] theorem Og{a b:Ex}:ev ks (.or a b) sl st=(ev ks a sl st).bind fun p=>G0 p.1 p.2 (ev ks b sl p.2):=by
 show C4 (ev ks a) (ev ks b) sl st=_;unfold C4 G0;congr 1;funext p;cases p.1<;>first|rfl|skip
 rename_i x;cases x<;>rfl
@[simp] theorem Cf{t:Tx}{a b:Ex}:ev ks (.ife t a b) sl st=(tv ks t sl st).bind fun p=>if p.1=Â then ev ks a sl p.2 else ev ks b sl p.2:=rfl
@[simp] theorem vO{a b:Ex}:ev ks (.ix a b) sl st=(ev ks a sl st).bind fun p=>(ev ks b sl p.2).bind fun q=>(aR q.2 p.1 q.1).map fun z=>(z,q.2):=rfl
@[simp] theorem nJ{p:Bool}{j:Nat}{es:Exs}:ev ks (.ca p j es) sl st=(eN ks es sl st).bind fun q=>jt p (kf ks j) q.1 q.2:=rfl
@[simp] theorem rk{f:Fn}:jt Â f=pm f:=rfl
@[simp] theorem wo{f:Fn}:jt Ã f=f:=rfl
@[simp] theorem nW{f:Fn}:kf (f::ks) 0=f:=rfl
@[simp] theorem pY{f:Fn}{j:Nat}:kf (f::ks) (j+1)=kf ks j:=rfl
@[simp] theorem fF:eN ks .nil sl st=À ([],st):=rfl
@[simp] theorem eA{e:Ex}{es:Exs}:eN ks (.cons e es) sl st=(ev ks e sl st).bind fun p=>(eN ks es sl p.2).bind fun q=>À (p.1::q.1,q.2):=rfl
@[simp] theorem E6{es:Exs}:ev ks (.tu es) sl st=(eN ks es sl st).bind fun p=>if ß p.1.length 1000=Â then À (.tup p.1,p.2) else Á:=rfl
@[simp] theorem fR{x:Nx}:ev ks (.nw Ã x) sl st=(jB ks x sl st).bind fun p=>if rfs p.1=Â then À (.fz p.1,p.2) else Á:=rfl
@[simp] theorem E7{x:Nx}:ev ks (.nw Â x) sl st=(jB ks x sl st).bind fun p=>À (.ref p.2.length,p.2++[.lst p.1]):=rfl
@[simp] theorem Oj{c m:Í}{j:Nat}{o:Ex}{es:Exs}:ev ks (.me c m j o es) sl st=(ev ks o sl st).bind fun p=>(jR p.2 c p.1).bind fun fs=>if(fs.lookup m).isNone=Â then(eN ks es sl p.2).bind fun q=>kf ks j (p.1::q.1) q.2 else Á:=rfl
@[simp] theorem Oh{c:Í}{j:Nat}{es:Exs}:ev ks (.ne c j es) sl st=Al c (kf ks j) (eN ks es) sl st:=rfl
@[simp] theorem Ol{c f:Í}{o:Ex}:ev ks (.fd c f o) sl st=(ev ks o sl st).bind fun p=>(jR p.2 c p.1).bind fun fs=>(fs.lookup f).map fun v=>(v,p.2):=rfl
@[simp] theorem LM{b:Bi}{es:Exs}:ev ks (.bi b es) sl st=(eN ks es sl st).bind fun p=>pv b p.1 p.2:=rfl
@[simp] theorem NH:pv .len=bY dj:=rfl
@[simp] theorem Iu:pv .sum=bY rZ:=rfl
@[simp] theorem NJ:pv .abs=bY qk:=rfl
@[simp] theorem NE:pv .min=bY wD:=rfl
@[simp] theorem NG:pv .max=bY pX:=rfl
@[simp] theorem NI:pv .int=bY p4:=rfl
@[simp] theorem Oi{m:Mi}{o:Ex}{es:Exs}:ev ks (.mt m o es) sl st=lX (qB m) (qA m) (ev ks o) (eN ks es) sl st:=rfl
@[simp] theorem Om:ev ks .dn sl st=À (.ref st.length,st++[.dK []]):=rfl
@[simp] theorem N0{a:Ex}:ev ks (.mnd a) sl st=(ev ks a sl st).bind fun p=>bY oJ [p.1] p.2:=by
 show(dN (ev ks a) eF sl st).bind _=_;unfold dN eF;cases ev ks a sl st<;>rfl
@[simp] theorem NZ{a k:Ex}:ev ks (.mnk a k) sl st=rP (ev ks a) (ev ks k) sl st:=rfl
@[simp] theorem OI{a b c:Ex}:d3 ks (.r3 a b c) sl st=zj (ev ks a) (ev ks b) (ev ks c) sl st:=rfl
@[simp] theorem OG{es:Exs}:jB ks (.li es) sl st=(eN ks es sl st).bind fun p=>if cA p.1.length=Â then À p else Á:=rfl
@[simp] theorem wy{a b:Ex}:jB ks (.cat a b) sl st=nU (ev ks a) (ev ks b) sl st:=rfl
@[simp] theorem JK{es:Exs}{b:Ex}:jB ks (.rep es b) sl st=wA (eN ks es) (ev ks b) sl st:=rfl
@[simp] theorem OE{a:Ex}{l h:Ox}:jB ks (.sl a l h) sl st=oF (ev ks a) (tL ks l) (tL ks h) sl st:=rfl
@[simp] theorem Oa{a:Ex}:jB ks (.lof a) sl st=nT (ev ks a) sl st:=rfl
@[simp] theorem N9{a:Ex}:jB ks (.lr1 a) sl st=pW (ev ks a) sl st:=rfl
@[simp] theorem N8{a b:Ex}:jB ks (.lr2 a b) sl st=wB (ev ks a) (ev ks b) sl st:=rfl
@[simp] theorem G9{k:Nat}{it:Ix}{t:Tg}{c:Cx'}{e:Ex}:jB ks (.lc k it t c e) sl st=(d3 ks it sl st).bind fun p=>if cA p.1.O4.length=Â then im p.1.gd (cB ks t) (jC ks c) (ev ks e) (sl++È k Á) p.1.O4 p.2 else Á:=rfl
@[simp] theorem OD:tL ks .no sl st=À (Á,st):=rfl
@[simp] theorem OC{e:Ex}:tL ks (.so e) sl st=oA (ev ks e) sl st:=rfl
@[simp] theorem OP:jC ks .no sl st=À (Â,st):=rfl
@[simp] theorem OO{t:Tx}:jC ks (.so t) sl st=tv ks t sl st:=rfl
@[simp] theorem OY{a:Ex}:d3 ks (.e a) sl st=(ev ks a sl st).bind fun p=>(oQ p.2 p.1).map fun iv=>(iv,p.2):=rfl
@[simp] theorem OK{a:Ex}:d3 ks (.r1 a) sl st=CJ (ev ks a) sl st:=rfl
@[simp] theorem OJ{a b:Ex}:d3 ks (.r2 a b) sl st=CI (ev ks a) (ev ks b) sl st:=rfl
@[simp] theorem OH{a b:Ex}:d3 ks (.zi a b) sl st=iZ (ev ks a) (ev ks b) sl st:=rfl
@[simp] theorem My{a:Ex}:d3 ks (.en a) sl st=(ev ks a sl st).bind fun p=>(ja p.2 p.1).map fun iv=>(⟨fi 0 iv.O4,iv.gd⟩,p.2):=rfl
@[simp] theorem OL{a b:Ex}:d3 ks (.es a b) sl st=wU (ev ks a) (ev ks b) sl st:=rfl
@[simp] theorem BP{k:Nat}{x:AV}:cB ks (.nm k) x sl st=À (sl.set k (À x),st):=rfl
@[simp] theorem OM{n:Nat}{ts:Tgs}{x:AV}:cB ks (.tu n ts) x sl st=zn n (jT ks ts) x sl st:=rfl
@[simp] theorem ON{a b:Ex}{x:AV}:cB ks (.su a b) x sl st=(ev ks a sl st).bind fun p=>(ev ks b sl p.2).bind fun q=>(jO q.2 p.1 q.1 x).map fun st'=>(sl,st'):=rfl
@[simp] theorem Nw{xs:List AV}:jT ks .nil xs sl st=HP xs sl st:=rfl
@[simp] theorem MU{t:Tg}{ts:Tgs}{xs:List AV}:jT ks (.cons t ts) xs sl st=HU (cB ks t) (jT ks ts) xs sl st:=rfl
@[simp] theorem Oo{e:Ex}:tv ks (.va e) sl st=(ev ks e sl st).bind fun p=>(fu p.2 p.1).map fun b=>(b,p.2):=rfl
@[simp] theorem v6{o:ϙ}{a b:Ex}:tv ks (.cmp o a b) sl st=(ev ks a sl st).bind fun p=>(ev ks b sl p.2).bind fun q=>(cb o q.2 p.1 q.1).map fun b=>(b,q.2):=rfl
@[simp] theorem Oq{t:Tx}:tv ks (.no t) sl st=(tv ks t sl st).bind fun p=>À (!p.1,p.2):=rfl
@[simp] theorem Os{t u:Tx}:tv ks (.an t u) sl st=(tv ks t sl st).bind fun p=>if p.1=Â then tv ks u sl p.2 else À (Ã,p.2):=rfl
@[simp] theorem Op{t u:Tx}:tv ks (.or t u) sl st=(tv ks t sl st).bind fun p=>if p.1=Â then À (Â,p.2) else tv ks u sl p.2:=rfl
@[simp] theorem NY:af ks .nil sl st=À (.nx sl st):=rfl
def kZ(o:Out)(k:Sl->aa->Option Out):Option Out:=match o with
 |.nx sl st=>k sl st
 |o=>À o
@[simp] theorem yi{k:Sl->aa->Option Out}:kZ (.nx sl st) k=k sl st:=rfl
@[simp] theorem yh{v:AV}{k:Sl->aa->Option Out}:kZ (.rt v st) k=À (.rt v st):=rfl
@[simp] theorem Nn{k:Sl->aa->Option Out}:kZ (.bk sl st) k=À (.bk sl st):=rfl
@[simp] theorem Nm{k:Sl->aa->Option Out}:kZ (.ct sl st) k=À (.ct sl st):=rfl
@[simp] theorem lm{s:Sx}{a:Pc}:af ks (.cons s a) sl st=(cW ks s sl st).bind fun o=>kZ o (af ks a):=by
 show(cW ks s sl st).bind _=(cW ks s sl st).bind _;congr 1
@[simp] theorem FQ{e:Ex}:cW ks (.ex e) sl st=(ev ks e sl st).bind fun p=>À (.nx sl p.2):=rfl
@[simp] theorem iC{e:Ex}{t:Tg}:cW ks (.as e t) sl st=(ev ks e sl st).bind fun p=>(cB ks t p.1 sl p.2).bind fun q=>À (.nx q.1 q.2):=rfl
@[simp] theorem Ou{k:Nat}{o:Ā}{e:Ex}:cW ks (.au k o e) sl st=Cr k o (ev ks e) sl st:=rfl
@[simp] theorem Jc{o:Ā}{a b e:Ex}:cW ks (.aus o a b e) sl st=wg o (ev ks a) (ev ks b) (ev ks e) sl st:=rfl
@[simp] theorem Ot{c f:Í}{o e:Ex}:cW ks (.fl c f o e) sl st=xK c f (ev ks o) (ev ks e) sl st:=rfl
@[simp] theorem sn{e:Ex}:cW ks (.rt e) sl st=(ev ks e sl st).bind fun p=>À (.rt p.1 p.2):=rfl
@[simp] theorem mn{t:Tx}{a b:Pc}:cW ks (.iff t a b) sl st=(tv ks t sl st).bind fun p=>if p.1=Â then af ks a sl p.2 else af ks b sl p.2:=rfl
@[simp] theorem jP{it:Ix}{t:Tg}{b:Pc}:cW ks (.fo it t b) sl st=(d3 ks it sl st).bind fun p=>dH p.1.gd (cB ks t) (af ks b) p.1.O4 sl p.2:=rfl
@[simp] theorem N3{a:Ex}{t:Tg}{b:Pc}:cW ks (.fd a t b) sl st=wf (ev ks a) (cB ks t) (af ks b) sl st:=rfl
@[simp] theorem FP{t:Tx}{b:Pc}:cW ks (.wh t b) sl st=mP (tv ks t) (af ks b) sl st:=rfl
@[simp] theorem Nh:cW ks .dead sl st=Á:=rfl
def aw(o:Out):Option (AV×aa):=match o with
 |.rt v st=>À (v,st)
 |.nx _ st=>À (.non,st)
 |_=>Á
@[simp] theorem Nz{v:AV}:aw (.rt v st)=À (v,st):=rfl
@[simp] theorem NA:aw (.nx sl st)=À (.non,st):=rfl
theorem aB{n:Nat}{b:Pc}{args:List AV}:R.run n (af ks b) args st=(af ks b (args.map À++È (n-args.length) Á) st).bind aw:=by
 unfold R.run;congr 1
end
@[simp] theorem N4:rfs []=Â:=rfl
@[simp] theorem N5{x:AV}{xs:List AV}:rfs (x::xs)=(rf x&&rfs xs):=by simp only[rfs]
@[simp] theorem Oz{i:Int}:rf (.int i)=Â:=rfl
@[simp] theorem OB{i:Bool}:rf (.bl i)=Â:=rfl
@[simp] theorem Ow{i:Í}:rf (.str i)=Â:=rfl
@[simp] theorem Oy:rf .non=Â:=rfl
@[simp] theorem OA{xs:List AV}:rf (.fz xs)=Â:=rfl
@[simp] theorem Ov{xs:List AV}:rf (.tup xs)=rfs xs:=by simp only[rf]
section
variable{st:aa}{a b:Int}
theorem CT:iM st (.int a) (.int b)=À (decide (a=b)):=by
 show(if pyOk (.int a) (.int b)=Â then À (Õ (.int a) (.int b)) else Á)=_;rw[yH (by simp[pyOk,Đ,m?])];congr 1
@[simp] theorem OU:cb .Eq st (.int a) (.int b)=À (decide (a=b)):=CT
@[simp] theorem ML:cb .NotEq st (.int a) (.int b)=À (!decide (a=b)):=by show((iM st (.int a) (.int b)).map fun x=>!x)=_;rw[CT];rfl
@[simp] theorem OQ:cb .Lt st (.int a) (.int b)=À (decide (a<b)):=rfl
@[simp] theorem OR:cb .LtE st (.int a) (.int b)=À (decide (a<=b)):=rfl
@[simp] theorem OS:cb .Gt st (.int a) (.int b)=À (decide (b<a)):=rfl
@[simp] theorem OT:cb .GtE st (.int a) (.int b)=À (decide (b<=a)):=rfl
@[simp] theorem OZ{o:ϙ}{x y:AV}:oh o st x y=(cb o st x y).map .bl:=rfl
@[simp] theorem Ob:cb .Is st .non .non=À Â:=rfl
@[simp] theorem Oc:cb .Is st (.int a) .non=À Ã:=rfl
@[simp] theorem NC:cb .IsNot st .non .non=À Ã:=rfl
@[simp] theorem ND:cb .IsNot st (.int a) .non=À Â:=rfl
@[simp] theorem Od:bB .Add st (.int a) (.int b)=À (.int (a+b)):=rfl
@[simp] theorem KF:bB .Sub st (.int a) (.int b)=À (.int (a-b)):=rfl
theorem cM(h:dP a b=Â):bB .Mult st (.int a) (.int b)=À (.int (a*b)):=by
 show(if dP a b=Â then _ else _:Option Int).map _=_;rw[yH h];rfl
theorem pC(h:eO b=Â):bB .FloorDiv st (.int a) (.int b)=À (.int (vE a b)):=by
 show(if eO b=Â then _ else _:Option Int).map _=_;rw[yH h];rfl
theorem pB(h:b≠0):bB .Mod st (.int a) (.int b)=À (.int (o9 a b)):=by
 show(if b=0 then _ else _:Option Int).map _=_;rw[yG h];rfl
@[simp] theorem N2:j3 .USub st (.int a)=À (.int (-a)):=rfl
theorem df{x y:Int}(d:x.natAbs<2^9000)(c:y.natAbs<2^9000):dP x y=Â:=by
 have a:∀z:Nat,z<2^9000->ß z.log2 1000000=Â:=fun z hz=>by
  by_cases b:z=0
  ·subst b;rfl
  ·exact yK (z5 (yY ((Ċ b).mpr hz)) oM)
 unfold dP;rw[a _ d,a _ c,Bool.and_true,Bool.or_true]
theorem tN{y:Int}(b:y≠0)(a:y.natAbs<2^9000):eO y=Â:=by
 unfold eO;have:ß y.natAbs.log2 8999=Â:=yK (by have:=(Ċ (n:=y.natAbs) oM).mpr a;lia);rw[this];simp[b]
end
open SX (Sh gI)
noncomputable def iL(l:List Int):List AV:=l.map .int
abbrev Is(x:Int):Option AV:=À (.int x)
abbrev Rs(x:Nat):Option AV:=À (.ref x)
abbrev Zs(x:List AV):Option AV:=À (.fz x)
abbrev Ls(x:List Int):Option AV:=À (.fz (iL x))
noncomputable def nL(l:List Nat):List AV:=l.map fun q=>.int ((q:Nat):Int)
def kL(l:List Nat):List (ba×AV):=l.map fun q=>(.inl ((q:Nat):Int),.bl Â)
def db(d:Int)(a b c g n u:Nat):List (Í×AV):=[("below",.int d),("lines",.ref a),("heads",.ref b),("sides",.ref c),("guarded",.ref g),("nailed",.ref n),("turned",.ref u)]
section
variable{d:Int}{a b c g n u:Nat}
@[simp] theorem Mv:(db d a b c g n u).lookup ("below":Í)=À (AV.int d):=rfl
@[simp] theorem Mt:(db d a b c g n u).lookup ("lines":Í)=À (AV.ref a):=rfl
@[simp] theorem Mu:(db d a b c g n u).lookup ("heads":Í)=À (AV.ref b):=rfl
@[simp] theorem Ms:(db d a b c g n u).lookup ("sides":Í)=À (AV.ref c):=rfl
@[simp] theorem JS:(db d a b c g n u).lookup ("guarded":Í)=À (AV.ref g):=rfl
@[simp] theorem Li:(db d a b c g n u).lookup ("nailed":Í)=À (AV.ref n):=rfl
@[simp] theorem Lh:(db d a b c g n u).lookup ("turned":Í)=À (AV.ref u):=rfl
@[simp] theorem BC:(db d a b c g n u).lookup ("loose_columns":Í)=Á:=rfl
@[simp] theorem Av:(db d a b c g n u).lookup ("raising_column":Í)=Á:=rfl
@[simp] theorem Au:(db d a b c g n u).lookup ("tightest_place":Í)=Á:=rfl
@[simp] theorem E4:(db d a b c g n u).lookup ("is_tighter":Í)=Á:=rfl
@[simp] theorem EE:(db d a b c g n u).lookup ("is_up_first":Í)=Á:=rfl
@[simp] theorem IN:(db d a b c g n u).lookup ("exchange":Í)=Á:=rfl
@[simp] theorem MT:(db d a b c g n u).lookup ("lift":Í)=Á:=rfl
@[simp] theorem IP:(db d a b c g n u).lookup ("drive_up":Í)=Á:=rfl
@[simp] theorem BB:(db d a b c g n u).lookup ("moving_column":Í)=Á:=rfl
@[simp] theorem Mr:(db d a b c g n u).lookup ("guard":Í)=Á:=rfl
@[simp] theorem MS:(db d a b c g n u).lookup ("nail":Í)=Á:=rfl
@[simp] theorem Hu:(db d a b c g n u).lookup ("turn_line":Í)=Á:=rfl
end
def RowR(st:aa)(x:AV)(l:List Int):Prop:=x=.fz (iL l)\/∃r,x=.ref r/\(st[r]?=À (.lst (iL l))\/st[r]?=À (.al (.fz (iL l))))
structure Rep(st:aa)(k a b c g n u:Nat)(rows:List AV)(S:Sh):Prop where
 hk:st[k]?=À (.ins "Sheet" (db S.d a b c g n u))
 ha:st[a]?=À (.lst rows)
 hb:st[b]?=À (.lst (nL S.hd))
 hc:st[c]?=À (.lst (nL S.sd))
 hg:st[g]?=À (.dK (kL S.gd))
 hn:st[n]?=À (.dK (kL S.nl))
 hu:st[u]?=À (.dK (kL S.tn))
 len:rows.length=S.ls.length
 row:∀i x,rows[i]?=À x->RowR st x (SX.row S i)
 ab:a≠b
 ac:a≠c
 bc:b≠c
 gn:g≠n
 gu:g≠u
 nu:n≠u
 ra:∀(i r:Nat),rows[i]?=À (.ref r)->r≠a/\r≠b/\r≠c
section
variable{st:aa}{x:AV}{xs:List AV}{l:List Int}{i:Int}
theorem RowR.ls(h:RowR st x l):b8 st x=À (iL l):=by
 rcases h with rfl|⟨r,rfl,h|h⟩
 ·rfl
 ·unfold b8 dr;simp only[h]
 ·unfold b8 dr;simp only[h]
theorem cH(h:b8 st x=À xs):aR st x (.int i)=gJ xs i:=by
 have hd:n9 st x (.int i)=Á:=by
  unfold n9;have b:jE st x=Á:=by
   cases x<;>first|rfl|skip
   rename_i k;unfold b8 dr at h;unfold jE;dsimp only at h ⊢;cases e:st[k]? with
   |none=>rfl
   | some c=>cases c <;> first | rfl | (rw [e] at h;simp only [e] at h;cases h)
  have a:ni st x=Á:=by
   cases x<;>first|rfl|skip
   rename_i k;unfold b8 dr at h;unfold ni;dsimp only at h ⊢;cases e:st[k]? with
   |none=>rfl
   | some c=>cases c <;> first | rfl | (rw [e] at h;simp only [e] at h;cases h)
  rw[b,a]
 unfold aR;rw[hd];dsimp only;rw[h]
theorem cC{α:Type}{xs:List α}{j:Nat}:gJ xs ((j:Nat):Int)=xs[j]?:=by
 unfold gJ mT;rw[yH oM];by_cases h:j<xs.length
 ·rw[yH oM];simp
 ·rw[yG oM,ä oM];rfl
theorem mJ{α:Type}{xs:List α}{n:Nat}(h:xs.length=n+1):gJ xs (-1)=xs[n]?:=by
 unfold gJ mT;rw[yG oM,yH oM,h,Æ];congr 1;lia
theorem cw{j:Nat}(h:j<l.length):(iL l)[j]?=À (.int (gI l j)):=by
 unfold iL gI;simp[h,zD]
theorem iW{l:List Nat}{j:Nat}(h:j<l.length):(nL l)[j]?=À (.int ((l.getD j 0:Nat):Int)):=by
 unfold nL;simp[h,zD]
theorem cm{k:Nat}(h:st[k]?=À (.lst xs)):b8 st (.ref k)=À xs:=by unfold b8 dr;simp only[h]
theorem vm{g:Nat}{l:List Nat}{q:Nat}(h:st[g]?=À (.dK (kL l))):oT st (.int q) (.ref g)=À (decide (q∈l)):=by
 unfold oT n9 jE;simp only[h,kG,Û];congr 1;unfold nG kL;rw[Ł,List.find?_map,Ł,Bool.eq_iff_iff,List.isSome_find?,ĭ];simp[Int.ofNat_inj]
end
noncomputable def ly(rows:List AV)(i:Nat):AV:=rows.getD i .non
section
variable{st:aa}{k a b c g n u w m:Nat}{rows:List AV}{S:Sh}{i j:Nat}
theorem Rep.ins(R:Rep st k a b c g n u rows S):jR st "Sheet" (.ref k)=À (db S.d a b c g n u):=by
 unfold jR;simp only[R.hk];rfl
theorem Rep.rx(R:Rep st k a b c g n u rows S)(P:SX.Pb w m S)(d:i<m):rows[i]?=À (ly rows i):=by
 have:i<rows.length:=by rw[R.len,P.ls];exact d
 unfold ly;rw[zD,zF this];rfl
theorem Rep.line(R:Rep st k a b c g n u rows S)(P:SX.Pb w m S)(d:i<m):aR st (.ref a) (.int (i:Int))=À (ly rows i):=by
 rw[cH (cm R.ha),cC];exact R.rx P d
theorem Rep.rowl(R:Rep st k a b c g n u rows S)(P:SX.Pb w m S)(d:i<m):b8 st (ly rows i)=À (iL (SX.row S i)):=(R.row i _ (R.rx P d)).ls
theorem Rep.cell(R:Rep st k a b c g n u rows S)(P:SX.Pb w m S)(d:i<m)(e:j<w+1):aR st (ly rows i) (.int (j:Int))=À (.int (S.t i j)):=by
 rw[cH (R.rowl P d),cC,cw (by rw[P.rl d];exact e)];rfl
theorem Rep.last(R:Rep st k a b c g n u rows S)(P:SX.Pb w m S)(d:i<m):aR st (ly rows i) (.int (-1))=À (.int (S.t i w)):=by
 rw[cH (R.rowl P d),mJ (n:=w) (by unfold iL;rw[zH];exact P.rl d),cw (by rw[P.rl d];lia)];rfl
theorem Rep.side(R:Rep st k a b c g n u rows S)(P:SX.Pb w m S)(d:i<m):aR st (.ref c) (.int (i:Int))=À (.int (S.s i:Int)):=by
 rw[cH (cm R.hc),cC,iW (by rw[P.sd];exact d)];rfl
theorem Rep.head(R:Rep st k a b c g n u rows S)(P:SX.Pb w m S)(d:j<w):aR st (.ref b) (.int (j:Int))=À (.int (S.h j:Int)):=by
 rw[cH (cm R.hb),cC,iW (by rw[P.hd];exact d)];rfl
theorem Rep.ing(R:Rep st k a b c g n u rows S){q:Nat}:cb .In st (.int q) (.ref g)=À (decide (q∈S.gd)):=vm R.hg
theorem Rep.nin(R:Rep st k a b c g n u rows S){q:Nat}:cb .NotIn st (.int q) (.ref n)=À (!decide (q∈S.nl)):=by show(oT st _ _).map _=_;rw[vm R.hn];rfl
end
theorem gQ{α:Type}{em:α->AV}{B:α->Bool}{F:α->AV}(a:cD gd st=Â):∀{xs:List α},(∀x∈xs,∃sl1,g (em x) sl st=À (sl1,st)/\t sl1 st=À (B x,st)/\(B x=Â->f sl1 st=À (F x,st)))->im gd g t f sl (xs.map em) st=À ((xs.filter B).map F,st)
 |[],_=>by show(if cD gd st=Â then _ else _)=_;rw[yH a];rfl
 |x::xs,h=>by
  obtain⟨sl1,h1,h2,h3⟩:=h x z7;have b:=gQ a (xs:=xs) fun y c=>h y (zQ _ c)
  show(if cD gd st=Â then(g (em x) sl st).bind _ else Á)=_;rw[yH a,h1,Æ];dsimp only;rw[h2,Æ];cases hB:B x with
  |true=>rw[yH rfl];dsimp only;rw[h3 hB,Æ];dsimp only;rw[b,U?,hB];rfl
  |false=>rw[yG (by simp)];dsimp only;rw[b,U?,hB];rfl
theorem dy:∀{xs:List AV},(∀x∈xs,rf x=Â)->rfs xs=Â
 |[],_=>rfl
 |x::xs,h=>by simp only[rfs,zC];exact⟨h x z7,dy fun y hy=>h y (zQ _ hy)⟩
theorem AZ:rfs (iL l)=Â:=dy fun x a=>by obtain⟨i,_,rfl⟩:=yC.mp a;rfl
theorem kA:rfs (nL l)=Â:=dy fun x a=>by obtain⟨i,_,rfl⟩:=yC.mp a;rfl
mutual
theorem Ak:∀(x:AV),c5 x x=Â
 |.non=>rfl
 |.bl _=>by simp[c5]
 |.int _=>by simp[c5]
 |.str _=>by simp[c5]
 |.ref _=>by simp[c5]
 |.tup a=>by simp only[c5];exact jH a
 |.fz a=>by simp only[c5];exact jH a
theorem jH:∀(xs:List AV),gD xs xs=Â
 |[]=>rfl
 |x::xs=>by simp only[gD,Ak x,jH xs,Ģ]
end
theorem gR{k:Nat}(h:st[k]?=À (.lst xs)):cD [(k,.lst xs)] st=Â:=by
 simp only[cD,h,xc,jH,Ģ]
theorem Kq:fi 0 (nL l)=l.zipIdx.map fun z=>.tup [.int ((z.2:Nat):Int),.int ((z.1:Nat):Int)]:=by
 unfold fi nL;rw[List.zipIdx_map,Ü];rfl
@[simp] theorem Nc:jp st (.tup xs)=À xs:=rfl
@[simp] theorem Nt:oQ st (.fz xs)=À ⟨xs,[]⟩:=rfl
@[simp] theorem HG:ja st (.fz xs)=À ⟨xs,[]⟩:=rfl
@[simp] theorem d5:b8 st (.fz xs)=À xs:=rfl
theorem j6{k:Nat}(h:st[k]?=À (.lst xs)):ja st (.ref k)=À ⟨xs,[(k,.lst xs)]⟩:=by
 unfold ja dr;simp only[h]
theorem p0{k:Nat}(h:st[k]?=À (.lst xs)):oQ st (.ref k)=À ⟨xs,[(k,.lst xs)]⟩:=by
 have:jp st (.ref k)=Á:=by unfold jp dr;simp only[h]
 unfold oQ;dsimp only;rw[this];exact j6 h
@[simp] theorem gk:cD [] st=Â:=rfl
theorem vj:hU (nL l)=À (l.map fun q=>((q:Nat):Int)):=by
 unfold hU nL;exact du (f:=fun x=>match x with|.int i=>À i|_=>Á) (i:=fun q:Nat=>AV.int q) (g:=fun q=>((q:Nat):Int)) (fun _=>rfl) l
noncomputable def oN:Option Nat->AV
 |none=>.non
 |some c=>.int (c:Int)
noncomputable def cj(S:Sh):List Nat:=(S.hd.zipIdx.filter fun z=>!decide (z.1∈S.nl)).map (·.2)
theorem ju{w m:Nat}(P:SX.Pb w m S){j:Nat}:j∈cj S ↔ j<w/\S.h j∉S.nl:=by
 unfold cj;simp only[yC,Ñ,Prod.exists];constructor
 ·rintro⟨q,i,⟨c,b⟩,rfl⟩
  have d:=List.mem_zipIdx' c;have a:i<S.hd.length:=d.1;refine⟨by rw[<- P.hd];exact a,?_⟩;have:S.h i=q:=by
   show S.hd.getD i 0=q;rw[zD,zF a,d.2];rfl
  rw[this];simpa using b
 ·rintro⟨c,b⟩
  have a:j<S.hd.length:=by rw[P.hd];exact c
  refine⟨S.h j,j,⟨?_,by simpa using b⟩,rfl⟩;have e:S.h j=S.hd[j]:=by
   show S.hd.getD j 0=_;rw[zD,zF a];rfl
  rw[e,List.mem_zipIdx_iff_getElem?];exact zF a
theorem bW{n:Nat}(h:n<=1000):cA n=Â:=yK oM
theorem IA{key:Nat->Nat}:∃o:Option Nat,qj ((l.map fun q=>((q:Nat):Int)).zip (l.map fun q=>((key q:Nat):Int)))=oN o/\(o=Á->l=[])/\∀c,o=À c->c∈l/\∀j∈l,key c<=key j:=by
 cases l with
 |nil=>exact⟨Á,rfl,fun _=>rfl,fun c h=>nomatch h⟩
 |cons x l =>
  have hz:((x::l).map fun q=>((q:Nat):Int)).zip ((x::l).map fun q=>((key q:Nat):Int))=(x::l).map fun q=>(((q:Nat):Int),((key q:Nat):Int)):=by
   generalize x::l=b
   induction b with
   |nil=>rfl
   |cons y b g=>simp only[zO,ě,g]
  rw[hz];obtain⟨i,p,a,d⟩:=mL (l.map fun q=>(((q:Nat):Int),((key q:Nat):Int))) (x:Int) (key x:Int);rw[<- zO (f:=fun q:Nat=>(((q:Nat):Int),((key q:Nat):Int)))]at a d;rw[zR]at a;obtain⟨c,n,e⟩:=zE.mp a;injection e with e1 e2;refine⟨À c,?_,(fun h=>nomatch h),fun r h=>?_⟩
  ·show AV.int _=AV.int _
   rw[e1]
  ·cases h
   refine⟨zW n,fun j m=>?_⟩;obtain⟨t,k⟩:=z8 m
   have:=(d t ((j:Int),(key j:Int)) (by rw[zR,k];rfl)).1
   rw[<- e2]at this;have:((key c:Nat):Int)<=((key j:Nat):Int):=this;lia
theorem Hn{l:List Nat}{key:EF}{sl:Sl}{st:aa}{f:Nat->Nat}(h:∀q∈l,key (sl++[Is ((q:Nat):Int)]) st=À (.int ((f q:Nat):Int),st)):aQ (za key sl st) (l.map fun q=>((q:Nat):Int))=À (l.map fun q=>((f q:Nat):Int)):=by
 induction l with
 |nil=>rfl
 |cons x l a =>
  have c:za key sl st (x:Int)=À ((f x:Nat):Int):=by unfold za;rw[h x z7]
  simp only[zO,aQ,c,a fun q b=>h q (zQ _ b),Æ,Û]
def fk(gd:Gd)(g:GF)(s:SF)(xs:List AV):Out->Option Out
 |.nx sl st=>dH gd g s xs sl st
 |.ct sl st=>dH gd g s xs sl st
 |.bk sl st=>À (.nx sl st)
 |.rt v st=>À (.rt v st)
theorem zw(a:cD gd st=Â)(c:g x sl st=À p)(b:s p.1 p.2=À o):dH gd g s (x::xs) sl st=fk gd g s xs o:=by
 show(if cD gd st=Â then(g x sl st).bind _ else Á)=_;rw[yH a,c,Æ,b,Æ];cases o<;>rfl
theorem kh{gd:Gd}{g:GF}{s:SF}{I:Nat->Sl->aa->Prop}{Post:AV->aa->Prop}{xs:List AV}(d:∀i sl st,i<=xs.length->I i sl st->cD gd st=Â)
  (h:∀i x sl st,xs[i]?=À x->I i sl st->∃p o,g x sl st=À p/\s p.1 p.2=À o/\((∃sl2 st2,o=.nx sl2 st2/\I (i+1) sl2 st2)\/∃v st2,o=.rt v st2/\Post v st2)) :
  ∀{sl:Sl}{st:aa},I 0 sl st->(∃sl' st',dH gd g s xs sl st=À (.nx sl' st')/\I xs.length sl' st')\/∃v st',dH gd g s xs sl st=À (.rt v st')/\Post v st':=by
 have q:∀(r:Nat)(j:Nat){sl:Sl}{st:aa},j+r=xs.length->I j sl st->(∃sl' st',dH gd g s (xs.drop j) sl st=À (.nx sl' st')/\I xs.length sl' st')\/∃v st',dH gd g s (xs.drop j) sl st=À (.rt v st')/\Post v st':=fun r=>by
  induction r with
  |zero =>
   intro j sl st k a;left;rw[v? oM];refine⟨sl,st,?_,by rw[show xs.length=j by lia];exact a⟩;show(if cD gd st=Â then _ else _)=_;rw[yH (d j sl st oM a)]
  |succ r f =>
   intro j sl st k a;have c:j<xs.length:=by lia
   obtain⟨p,o,m,l,b⟩:=h j xs[j] sl st (zF c) a;rw[ê c];have e:=zw (xs:=xs.drop (j+1)) (d j sl st oM a) m l;rw[e];rcases b with⟨sl2,st2,rfl,b⟩|⟨v,st2,rfl,b⟩
   ·exact f (j+1) oM b
   ·exact .inr ⟨v,st2,rfl,b⟩
 intro sl st n
 have:=q xs.length 0 oM n
 rw[ń]at this;exact this
theorem fb{gd:Gd}{g:GF}{s:SF}{I:Nat->Sl->aa->Prop}{xs:List AV}(e:∀i sl st,i<=xs.length->I i sl st->cD gd st=Â)
  (h:∀i x sl st,xs[i]?=À x->I i sl st->∃p sl2 st2,g x sl st=À p/\s p.1 p.2=À (.nx sl2 st2)/\I (i+1) sl2 st2) {sl:Sl}{st:aa} (j:I 0 sl st):∃sl' st',dH gd g s xs sl st=À (.nx sl' st')/\I xs.length sl' st':=by
 rcases kh (Post:=fun _ _=>False) e (fun i x sl st d f=>by
  obtain⟨p,sl2,st2,a,b,c⟩:=h i x sl st d f;exact⟨p,_,a,b,.inl ⟨sl2,st2,rfl,c⟩⟩) j with h|⟨_,_,_,h⟩
 ·exact h
 ·exact h.elim
theorem pf{i:Nat}(h:(fi 0 xs)[i]?=À y):∃x,xs[i]?=À x/\y=.tup [.int ((i:Nat):Int),x]:=by
 unfold fi at h;rw[zR]at h;obtain⟨z,a,rfl⟩:=zE.mp h;rw[Ż]at a;obtain⟨x,b,rfl⟩:=zE.mp a;exact⟨x,b,by simp⟩
theorem mE:(fi 0 xs).length=xs.length:=by unfold fi;simp
section
variable{st:aa}{k a b c g n u w m:Nat}{rows:List AV}{S:Sh}{i j q:Nat}{x:AV}{l:List Int}{e e':O3}
theorem aA(h:q≠j):(st.set q e')[j]?=st[j]?:=by rw[yW];simp[h]
theorem gA(h:st[q]?=À e):(st.set q e')[q]?=À e':=by
 rw[yW];simp[(zB.mp h).1]
theorem ga(h:st[j]?=À e):(st++ys)[j]?=À e:=by
 rw[zN (zB.mp h).1];exact h
theorem gl:(st++[e])[st.length]?=À e:=by simp
theorem bH(a:st[i]?=À e)(b:st[j]?=À e')(h:e≠e'):i≠j:=fun z=>h (by rw[z,b]at a;injection a with a;exact a.symm)
theorem RowR.set(h:RowR st x l)(b:∀r,x=.ref r->q≠r):RowR (st.set q e') x l:=by
 rcases h with h|⟨r,a,c⟩
 ·exact .inl h
 ·exact .inr ⟨r,a,by rw[aA (b r a)];exact c⟩
theorem RowR.app(h:RowR st x l):RowR (st++ys) x l:=by
 rcases h with h|⟨r,b,a|a⟩
 ·exact .inl h
 ·exact .inr ⟨r,b,.inl (ga a)⟩
 ·exact .inr ⟨r,b,.inr (ga a)⟩
theorem Rep.app(R:Rep st k a b c g n u rows S):Rep (st++ys) k a b c g n u rows S :=
 ⟨ga R.hk,ga R.ha,ga R.hb,ga R.hc,ga R.hg,ga R.hn,ga R.hu,R.len,fun i x h=>(R.row i x h).app,R.ab,R.ac,R.bc,R.gn,R.gu,R.nu,R.ra⟩
theorem Rep.rowk(R:Rep st k a b c g n u rows S){r:Nat}(h:rows[i]?=À (.ref r)):r≠k/\r≠g/\r≠n/\r≠u:=by
 have e:=R.row i _ h;rcases e with h|⟨j,f,d⟩
 ·cases h
 ·cases f
  rcases d with d|d
  ·exact⟨bH d R.hk (fun z=>nomatch z),bH d R.hg (fun z=>nomatch z),bH d R.hn (fun z=>nomatch z),bH d R.hu (fun z=>nomatch z)⟩
  ·exact⟨bH d R.hk (fun z=>nomatch z),bH d R.hg (fun z=>nomatch z),bH d R.hn (fun z=>nomatch z),bH d R.hu (fun z=>nomatch z)⟩
theorem Rep.fields{d:Nat}(R:Rep st k a b c g n u rows S)(l:st[d]?=À (.lst rows'))(v:S'.hd=S.hd)(t:S'.sd=S.sd)(s:S'.gd=S.gd)(q:S'.nl=S.nl)(p:S'.tn=S.tn)(j:rows'.length=S'.ls.length)
  (row:∀i x,rows'[i]?=À x->RowR st x (SX.row S' i)) (A:d≠b) (y:d≠c) (m:∀(i r:Nat),rows'[i]?=À (.ref r)->r≠d/\r≠b/\r≠c):Rep (st.set k (.ins "Sheet" (db S'.d d b c g n u))) k d b c g n u rows' S':=by
 have o:k≠d:=bH R.hk l (fun z=>nomatch z);refine⟨gA R.hk,by rw[aA o];exact l,?_,?_,?_,?_,?_,j,fun i x h=>(row i x h).set fun r e=>?_,A,y,R.bc,R.gn,R.gu,R.nu,m⟩
 ·rw[aA (bH R.hk R.hb (fun z=>nomatch z)),v];exact R.hb
 ·rw[aA (bH R.hk R.hc (fun z=>nomatch z)),t];exact R.hc
 ·rw[aA (bH R.hk R.hg (fun z=>nomatch z)),s];exact R.hg
 ·rw[aA (bH R.hk R.hn (fun z=>nomatch z)),q];exact R.hn
 ·rw[aA (bH R.hk R.hu (fun z=>nomatch z)),p];exact R.hu
 ·subst e
  rcases row i _ h with z|⟨B,w,f⟩
  ·cases z
  ·cases w
   rcases f with f|f
   ·exact bH R.hk f (fun z=>nomatch z)
   ·exact bH R.hk f (fun z=>nomatch z)
theorem Rep.heads(R:Rep st k a b c g n u rows S):Rep (st.set b (.lst (nL hd'))) k a b c g n u rows { S with hd:=hd' } :=
 ⟨by rw[aA (bH R.hb R.hk (fun z=>nomatch z))];exact R.hk,by rw[aA (æ R.ab)];exact R.ha,gA R.hb,by rw[aA R.bc];exact R.hc,by rw[aA (bH R.hb R.hg (fun z=>nomatch z))];exact R.hg,by rw[aA (bH R.hb R.hn (fun z=>nomatch z))];exact R.hn,
  by rw[aA (bH R.hb R.hu (fun z=>nomatch z))];exact R.hu,R.len,fun i x h=>(R.row i x h).set fun r e=>æ (R.ra i r (by rw[<- e];exact h)).2.1,R.ab,R.ac,R.bc,R.gn,R.gu,R.nu,R.ra⟩
theorem Rep.sides(R:Rep st k a b c g n u rows S):Rep (st.set c (.lst (nL sd'))) k a b c g n u rows { S with sd:=sd' } :=
 ⟨by rw[aA (bH R.hc R.hk (fun z=>nomatch z))];exact R.hk,by rw[aA (æ R.ac)];exact R.ha,by rw[aA (æ R.bc)];exact R.hb,gA R.hc,by rw[aA (bH R.hc R.hg (fun z=>nomatch z))];exact R.hg,by rw[aA (bH R.hc R.hn (fun z=>nomatch z))];exact R.hn,
  by rw[aA (bH R.hc R.hu (fun z=>nomatch z))];exact R.hu,R.len,fun i x h=>(R.row i x h).set fun r e=>æ (R.ra i r (by rw[<- e];exact h)).2.2,R.ab,R.ac,R.bc,R.gn,R.gu,R.nu,R.ra⟩
theorem Rep.guard(R:Rep st k a b c g n u rows S):Rep (st.set g (.dK (kL gd'))) k a b c g n u rows { S with gd:=gd' } :=
 ⟨by rw[aA (bH R.hg R.hk (fun z=>nomatch z))];exact R.hk,by rw[aA (bH R.hg R.ha (fun z=>nomatch z))];exact R.ha,by rw[aA (bH R.hg R.hb (fun z=>nomatch z))];exact R.hb,by rw[aA (bH R.hg R.hc (fun z=>nomatch z))];exact R.hc,gA R.hg,by rw[aA R.gn];exact R.hn,by rw[aA R.gu];exact R.hu,
  R.len,fun i x h=>(R.row i x h).set fun r e=>æ (R.rowk (i:=i) (by rw[<- e];exact h)).2.1,R.ab,R.ac,R.bc,R.gn,R.gu,R.nu,R.ra⟩
theorem Rep.nail(R:Rep st k a b c g n u rows S):Rep (st.set n (.dK (kL nl'))) k a b c g n u rows { S with nl:=nl' } :=
 ⟨by rw[aA (bH R.hn R.hk (fun z=>nomatch z))];exact R.hk,by rw[aA (bH R.hn R.ha (fun z=>nomatch z))];exact R.ha,by rw[aA (bH R.hn R.hb (fun z=>nomatch z))];exact R.hb,by rw[aA (bH R.hn R.hc (fun z=>nomatch z))];exact R.hc,by rw[aA (æ R.gn)];exact R.hg,gA R.hn,by rw[aA R.nu];exact R.hu,
  R.len,fun i x h=>(R.row i x h).set fun r e=>æ (R.rowk (i:=i) (by rw[<- e];exact h)).2.2.1,R.ab,R.ac,R.bc,R.gn,R.gu,R.nu,R.ra⟩
theorem Rep.turned(R:Rep st k a b c g n u rows S):Rep (st.set u (.dK (kL tn'))) k a b c g n u rows { S with tn:=tn' } :=
 ⟨by rw[aA (bH R.hu R.hk (fun z=>nomatch z))];exact R.hk,by rw[aA (bH R.hu R.ha (fun z=>nomatch z))];exact R.ha,by rw[aA (bH R.hu R.hb (fun z=>nomatch z))];exact R.hb,by rw[aA (bH R.hu R.hc (fun z=>nomatch z))];exact R.hc,by rw[aA (æ R.gu)];exact R.hg,by rw[aA (æ R.nu)];exact R.hn,gA R.hu,
  R.len,fun i x h=>(R.row i x h).set fun r e=>æ (R.rowk (i:=i) (by rw[<- e];exact h)).2.2.2,R.ab,R.ac,R.bc,R.gn,R.gu,R.nu,R.ra⟩
theorem u0{p i:Nat}:SX.row { S with ls:=S.ls.set p l } i=if i=p/\p<S.ls.length then l else SX.row S i:=by
 unfold SX.row;simp only[zD,yW];by_cases h:i=p
 ·subst h
  by_cases a:i<S.ls.length
  ·simp[a]
  ·simp[a]
 ·rw[yG fun z=>h z.symm,yG fun z=>h z.1]
theorem Rep.rowset{p:Nat}(R:Rep st k a b c g n u rows S)(o:RowR st x l)(m:∀r,x=.ref r->r≠a/\r≠b/\r≠c):Rep (st.set a (.lst (rows.set p x))) k a b c g n u (rows.set p x) { S with ls:=S.ls.set p l }:=by
 have j:∀i y,(rows.set p x)[i]?=À y->(i=p/\p<rows.length/\y=x)\/(i≠p/\rows[i]?=À y):=fun i y h=>by
  rw[yW]at h;by_cases e:p=i
  ·rw[yH e]at h
   split at h
   ·cases h;exact .inl ⟨e.symm,by assumption,rfl⟩
   ·cases h
  ·rw[yG e]at h;exact .inr ⟨fun z=>e z.symm,h⟩
 refine⟨by rw[aA (bH R.ha R.hk (fun z=>nomatch z))];exact R.hk,gA R.ha,by rw[aA R.ab];exact R.hb,by rw[aA R.ac];exact R.hc,by rw[aA (bH R.ha R.hg (fun z=>nomatch z))];exact R.hg,by rw[aA (bH R.ha R.hn (fun z=>nomatch z))];exact R.hn,
  by rw[aA (bH R.ha R.hu (fun z=>nomatch z))];exact R.hu,by simp[R.len],fun i y h=>?_,R.ab,R.ac,R.bc,R.gn,R.gu,R.nu,fun i r h=>?_⟩
 ·rw[u0]
  rcases j i y h with⟨f,d,rfl⟩|⟨f,d⟩
  ·rw[yH ⟨f,by rw[<- R.len];exact d⟩];exact o.set fun r e=>æ (m r e).1
  ·rw[yG fun z=>f z.1];exact(R.row i y d).set fun r e=>æ (R.ra i r (by rw[<- e];exact d)).1
 ·rcases j i _ h with⟨f,d,q⟩|⟨f,d⟩
  ·exact m r q.symm
  ·exact R.ra i r d
theorem Rep.cellset{p r:Nat}(R:Rep st k a b c g n u rows S)(d:rows[p]?=À (.ref r))(A:∀i,i≠p->rows[i]?≠À (.ref r)):Rep (st.set r (.lst (iL l))) k a b c g n u rows { S with ls:=S.ls.set p l }:=by
 obtain⟨x,w,v⟩:=R.ra p r d;obtain⟨t,s,q,o⟩:=R.rowk d;have j:p<S.ls.length:=by rw[<- R.len];exact(zB.mp d).1
 refine⟨by rw[aA t];exact R.hk,by rw[aA x];exact R.ha,by rw[aA w];exact R.hb,by rw[aA v];exact R.hc,by rw[aA s];exact R.hg,by rw[aA q];exact R.hn,by rw[aA o];exact R.hu,by simp[R.len],fun i y h=>?_,R.ab,R.ac,R.bc,R.gn,R.gu,R.nu,R.ra⟩;rw[u0];by_cases e:i=p
 ·subst e
  rw[yH ⟨rfl,j⟩];rw[d]at h;cases h;rcases R.row i _ d with z|⟨m,B,f⟩
  ·cases z
  ·cases B
   rcases f with f|f
   ·exact .inr ⟨r,rfl,.inl (gA f)⟩
   ·exact .inr ⟨r,rfl,.inl (gA f)⟩
 ·rw[yG fun z=>e z.1]
  exact(R.row i y h).set fun m C z=>A i e (by rw[z,<- C];exact h)
theorem Rep.freeze{r:Nat}(R:Rep st k a b c g n u rows S)(o:rows[i]?=À (.ref r))(f:st[r]?=À (.lst (iL l))):Rep (st.set r (.al (.fz (iL l)))) k a b c g n u rows S:=by
 obtain⟨A,x,w⟩:=R.ra i r o;obtain⟨v,t,s,q⟩:=R.rowk o;refine⟨by rw[aA v];exact R.hk,by rw[aA A];exact R.ha,by rw[aA x];exact R.hb,by rw[aA w];exact R.hc,by rw[aA t];exact R.hg,by rw[aA s];exact R.hn,by rw[aA q];exact R.hu,R.len,fun j y h=>?_,R.ab,R.ac,R.bc,R.gn,R.gu,R.nu,R.ra⟩;rcases R.row j y h with z|⟨m,p,d⟩
 ·exact .inl z
 ·by_cases e:r=m
  ·subst e
   refine .inr ⟨r,p,.inr ?_⟩;rw[gA f];rcases d with d|d
   ·rw[f]at d;injection d with d;injection d with d;rw[d]
   ·rw[f]at d;cases d
  ·exact .inr ⟨m,p,by rw[aA e];exact d⟩
theorem RowR.it(h:RowR st x l):∃gd,oQ st x=À ⟨iL l,gd⟩/\cD gd st=Â:=by
 rcases h with rfl|⟨r,rfl,h|h⟩
 ·exact⟨[],rfl,rfl⟩
 ·exact⟨_,p0 h,gR h⟩
 ·refine⟨[],?_,rfl⟩
  have:jp st (.ref r)=Á:=by unfold jp dr;simp only[h]
  unfold oQ;dsimp only;rw[this];unfold ja dr;simp only[h]
end
theorem yz{gd:Gd}{g:GF}{t:TF}{f:EF}{sl:Sl}{J:Nat->aa->Prop}{F:Nat->AV}{xs:List AV}(d:∀i st,i<=xs.length->J i st->cD gd st=Â)
  (h:∀i x st,xs[i]?=À x->J i st->∃sl1 st1,g x sl st=À (sl1,st)/\t sl1 st=À (Â,st)/\f sl1 st=À (F i,st1)/\J (i+1) st1) {st:aa} (q:J 0 st):∃st',im gd g t f sl xs st=À ((Ä xs.length).map F,st')/\J xs.length st':=by
 have s:∀(r j:Nat){st:aa},j+r=xs.length->J j st->∃st',im gd g t f sl (xs.drop j) st=À ((ħ j r).map F,st')/\J xs.length st':=fun r=>by
  induction r with
  |zero =>
   intro j st l a;rw[v? oM];refine⟨st,?_,by rw[show xs.length=j by lia];exact a⟩;show(if cD gd st=Â then _ else _)=_;rw[yH (d j st oM a)];rfl
  |succ r k =>
   intro j st l a;have c:j<xs.length:=by lia
   obtain⟨sl1,st1,p,o,n,m⟩:=h j xs[j] st (zF c) a;obtain⟨st',e,b⟩:=k (j+1) oM m;refine⟨st',?_,b⟩;rw[ê c];show(if cD gd st=Â then(g xs[j] sl st).bind _ else Á)=_;rw[yH (d j st oM a),p,Æ];dsimp only;rw[o,Æ,yH rfl];dsimp only;rw[n,Æ];dsimp only;rw[e];rfl
 obtain⟨st',e,a⟩:=s xs.length 0 oM q;rw[ń]at e;rw[<- List.range_eq_range']at e;exact⟨st',e,a⟩
@[simp] theorem io:(iL l).length=l.length:=by unfold iL;simp
@[simp] theorem oG:(nL l).length=l.length:=by unfold nL;simp
@[simp] theorem d6:rfs (iL l)=Â:=AZ
@[simp] theorem wC:rfs (nL l)=Â:=kA
theorem fH{q:Nat}{x:Int}:(iL l).set q (.int x)=iL (l.set q x):=by unfold iL;rw[Y0]
theorem ym{q x:Nat}:(nL l).set q (.int (x:Int))=nL (l.set q x):=by unfold nL;rw[Y0]
theorem y7{α:Type}{em:α->AV}{F:α->Int}{xs:List α}(e:cD gd st=Â)(h:∀x∈xs,∃sl1,g (em x) sl st=À (sl1,st)/\t sl1 st=À (Â,st)/\f sl1 st=À (.int (F x),st)):im gd g t f sl (xs.map em) st=À (iL (xs.map F),st):=by
 rw[gQ (B:=fun _=>Â) (F:=fun x=>.int (F x)) e fun x d=>by obtain⟨s,a,b,c⟩:=h x d;exact⟨s,a,b,fun _=>c⟩];unfold iL;rw[Ü,ì.mpr fun _ _=>rfl];rfl
theorem kF(a:cD gd st=Â)(h:∀x∈l,∃sl1,g (.int x) sl st=À (sl1,st)/\t sl1 st=À (Â,st)/\f sl1 st=À (.int (F x),st)):im gd g t f sl (iL l) st=À (iL (l.map F),st):=y7 a h
theorem dD{k q:Nat}(h:st[k]?=À (.lst xs))(a:q<xs.length):jO st (.ref k) (.int (q:Int)) x=À (st.set k (.lst (xs.set q x))):=by
 unfold jO;simp only[h];have:mT xs.length (q:Int)=À q:=by unfold mT;rw[yH oM,yH oM];simp
 rw[this];rfl
theorem pZ{k q:Nat}(h:st[k]?=À (.dK (kL l)))(c:l.length<=1000):jO st (.ref k) (.int (q:Int)) (.bl Â)=À (st.set k (.dK (kL (if q∈l then l else l++[q])))):=by
 unfold jO;simp only[h,kG,Æ];rw[yH (bW (by unfold kL;rw[zH];exact c))];congr 2;unfold nQ kL;by_cases a:q∈l
 ·rw[yH a,yH (by simp only[Ϡ,ĭ];exact⟨q,a,by simp⟩),Ü]
  congr 1;refine ý fun x b=>?_
  show(if _ then _ else _)=_;split
  ·rfl
  ·rfl
 ·rw[yG a,yG (by
   simp only[Ϡ,ĭ,T4];rintro⟨x,b,e⟩;have:x=q:=by have:((x:Nat):Int)=((q:Nat):Int):=(by simpa using e);lia
   exact a (this▸b)),Ą]
  rfl
theorem ae(h:cW ks s sl st=À (.nx sl' st'))(a:(af ks ss sl' st').bind aw=r):(af ks (.cons s ss) sl st).bind aw=r:=by
 rw[lm,h,Æ,yi];exact a
theorem ay(h:cW ks s sl st=À (.nx sl' st'))(a:af ks ss sl' st'=r):af ks (.cons s ss) sl st=r:=by
 rw[lm,h,Æ,yi];exact a
theorem cq(h:cW ks s sl st=À (.rt v st')):(af ks (.cons s ss) sl st).bind aw=À (v,st'):=by
 rw[lm,h,Æ,yh];rfl
theorem aZ(h:rfs args=Â)(b:fn args []=À (v,st'))(a:de st' v=À t):pm fn args st=À (t,st):=by
 unfold pm;rw[yH h,b,Æ];dsimp only;rw[a];rfl
section
variable{d:Int}{a b c g n u:Nat}
theorem Bh{d':Int}:jr "below" (.int d') (db d a b c g n u)=db d' a b c g n u:=rfl
theorem Bg{e:Nat}:jr "lines" (.ref e) (db d a b c g n u)=db d e b c g n u:=rfl
theorem iO{k:Nat}(d:ev ks e sl st=À (v,st'))(c:ev ks o sl st'=À (.ref k,st'))(b:jR st' cn (.ref k)=À fs)(a:ß fs.length 900=Â):cW ks (.fl cn f o e) sl st=À (.nx sl (st'.set k (.ins cn (jr f v fs)))):=by
 show xK cn f (ev ks o) (ev ks e) sl st=_;unfold xK;rw[d,Æ];dsimp only;rw[c,Æ];dsimp only;rw[b,Æ,yH a]
end
theorem uy{α:Type}{t:TF}{s:SF}{I:α->Sl->aa->Prop}{Q:α->α->Prop}{Post:Out->Prop}{a0:α}(e:∀f:Nat->α,f 0=a0->(∀n,Q (f n) (f (n+1)))->False)
  (h:∀x sl st,I x sl st->(∃o,dq t s 1 sl st=À o/\Post o)\/∃x' sl' st',Q x x'/\I x' sl' st'/\∀n o,dq t s n sl' st'=À o->dq t s (n+1) sl st=À o) {sl:Sl}{st:aa} (p:I a0 sl st):∃o,mP t s sl st=À o/\Post o:=by
 apply ð;intro j
 let a:α×Sl×aa->Prop:=fun z=>I z.1 z.2.1 z.2.2/\¬∃n o,dq t s n z.2.1 z.2.2=À o/\Post o
 have g:a (a0,sl,st):=⟨p,fun⟨n,o,c,b⟩=>j ⟨o,lx c,b⟩⟩;have nx:∀z:{ z // a z },∃i:{ z // a z },Q z.1.1 i.1.1:=fun d=>by
  obtain⟨z,hz⟩:=d;rcases h z.1 z.2.1 z.2.2 hz.1 with⟨o,c,b⟩|⟨x',sl',st',c,b,m⟩
  ·exact absurd ⟨1,o,c,b⟩ hz.2
  ·exact⟨⟨(x',sl',st'),b,fun⟨n,o,l,k⟩=>hz.2 ⟨n+1,o,m n o l,k⟩⟩,c⟩
 let f:Nat->{ z // a z }:=fun n=>Nat.rec ⟨_,g⟩ (fun _ z=>č (nx z)) n
 exact e (fun n=>(f n).1.1) rfl fun n=>ę (nx (f n))
theorem jY(h:t sl st=À (Ã,st')):dq t s 1 sl st=À (.nx sl st'):=by
 show(t sl st).bind _=_;rw[h,Æ,yG (by simp)]
theorem rW(h:t sl st=À (Â,st'))(a:s sl st'=À (.rt v st2)):dq t s 1 sl st=À (.rt v st2):=by
 show(t sl st).bind _=_;rw[h,Æ,yH rfl];dsimp only;rw[a];rfl
theorem md{n:Nat}(h:t sl st=À (Â,st'))(b:s sl st'=À (.nx sl2 st2))(a:dq t s n sl2 st2=À o):dq t s (n+1) sl st=À o:=by
 show(t sl st).bind _=_;rw[h,Æ,yH rfl];dsimp only;rw[b];exact a
theorem fE(h:cW ks s sl st=À (.rt v st')):af ks (.cons s ss) sl st=À (.rt v st'):=by
 rw[lm,h,Æ,yh]
theorem FT{ks:List Fn}{T:Tx}{B rest:Pc}{sl:Sl}{st:aa}{Post:Out->Prop}{Q:AV×aa->Prop}(h:∃o,mP (tv ks T) (af ks B) sl st=À o/\Post o)(c:∀o,Post o->∃r,(kZ o (af ks rest)).bind aw=À r/\Q r):∃r,(af ks (.cons (.wh T B) rest) sl st).bind aw=À r/\Q r:=by
 obtain⟨o,e,b⟩:=h;obtain⟨r,d,a⟩:=c o b;refine⟨r,?_,a⟩;rw[lm,FP,e,Æ];exact d
theorem ai{ks:List Fn}{s:Sx}{a:Pc}{sl sl':Sl}{st st':aa}{Q:AV×aa->Prop}(h:cW ks s sl st=À (.nx sl' st'))(b:∃r,(af ks a sl' st').bind aw=À r/\Q r):∃r,(af ks (.cons s a) sl st).bind aw=À r/\Q r:=by
 obtain⟨r,e,q⟩:=b;exact⟨r,ae h e,q⟩
def aG(L:List (List Int)):List AV:=L.map fun l=>.fz (iL l)
@[simp] theorem MV:(aG L).length=L.length:=by unfold aG;simp
@[simp] theorem Ny:rfs (aG L)=Â:=dy fun x a=>by obtain⟨l,_,rfl⟩:=yC.mp a;rfl
theorem tz:iL a++iL b=iL (a++b):=by unfold iL;rw[Ą]
theorem zk{x:Int}:[AV.int x]=iL [x]:=rfl
theorem wO{α:Type}{em:α->AV}{F:α->List Int}{xs:List α}(e:cD gd st=Â)(h:∀x∈xs,∃sl1,g (em x) sl st=À (sl1,st)/\t sl1 st=À (Â,st)/\f sl1 st=À (.fz (iL (F x)),st)):im gd g t f sl (xs.map em) st=À (aG (xs.map F),st):=by
 rw[gQ (B:=fun _=>Â) (F:=fun x=>.fz (iL (F x))) e fun x d=>by obtain⟨s,a,b,c⟩:=h x d;exact⟨s,a,b,fun _=>c⟩];unfold aG;rw[Ü,ì.mpr fun _ _=>rfl];rfl
theorem kn(g:ev ks a sl st=À (x,s1))(f:ev ks b sl s1=À (y,s2))(e:b8 s2 x=À (iL l))(d:b8 s2 y=À (iL l'))(c:l.length+l'.length<=1000):jB ks (.cat a b) sl st=À (iL (l++l'),s2):=by
 rw[wy];unfold nU;rw[g,Æ];dsimp only;rw[f,Æ];dsimp only;rw[e,Æ,d,Æ,yH (bW (by simpa using c)),tz]
theorem ms{n:Nat}:dF 0 n=nL (Ä n):=by unfold dF nL;simp
theorem Jd{w n:Nat}:dF (w:Int) n=nL ((Ä n).map (w+·)):=by unfold dF nL;simp[Ü,Function.comp_def]
theorem DB{n:Nat}:aQ (bu n st) (iL l)=À (iL l):=du (f:=bu n st) (i:=AV.int) (g:=AV.int) (fun x=>by cases n<;>rfl) l
theorem mo{k:Nat}(h:st[k]?=À (.lst (iL l))):de st (.ref k)=À (.fz (iL l)):=by
 show bu 6 st (.ref k)=_;unfold bu;simp only[h,DB,Û]
theorem FV{k:Nat}(h:st[k]?=À (.al t)):de st (.ref k)=À t:=by
 show bu 6 st (.ref k)=_;unfold bu;simp only[h]
theorem lD{fn:Fn}{rest:List AV}{st st':aa}{x v t:AV}{l:List Int}(c:RowR st x l)(k:rfs rest=Â)(e:aQ (de st) rest=À rest)(g:∀s,o6 s rest=À (rest,s))(b:fn (.fz (iL l)::rest) []=À (v,st'))(a:de st' v=À t)(d:flat t=Ã) :
  ∃st1,pm fn (x::rest) st=À (t,st1)/\(st1=st\/∃r,x=.ref r/\st[r]?=À (.lst (iL l))/\st1=st.set r (.al (.fz (iL l)))):=by
 have aw:∀r st1,x=.ref r->de st (.ref r)=À (.fz (iL l))->qJ st (.ref r)=À (.fz (iL l),st1)->pm fn (x::rest) st=À (t,st1):=fun r st1 ex j i=>by
  subst ex;have m:aQ (de st) (.ref r::rest)=À (.fz (iL l)::rest):=by simp only[aQ,j,e];rfl
  have f:o6 st (.ref r::rest)=À (.fz (iL l)::rest,st1):=by simp only[o6,i,Æ,g];rfl
  unfold pm;rw[yG (by simp[rf]),m,Æ,b,Æ];dsimp only;rw[a,Æ,yG (by rw[d];simp),f,Æ];dsimp only;rw[b,Æ];dsimp only;rw[a];rfl
 rcases c with rfl|⟨r,rfl,h|h⟩
 ·exact⟨st,aZ (by simp[k]) b a,.inl rfl⟩
 ·exact⟨_,aw r (st.set r (.al (.fz (iL l)))) rfl (mo h) (by unfold qJ;simp[rf,h]),.inr ⟨r,rfl,h,rfl⟩⟩
 ·exact⟨_,aw r st rfl (FV h) (by unfold qJ;simp[rf,h]),.inl rfl⟩
theorem eJ:(st++[x]).set st.length y=st++[y]:=by simp
end R
namespace LW
open PySem L2 R
noncomputable def top(i:Nat):ľ:=X?.main.body.getD i (.Pass ⟨0,0,0,0⟩)
def Ku(s:ľ):List ľ:=match s with
 |.ClassDef _ _ _ b _ _ _ _ _ _ _=>b
 |_=>[]
def gO(i j:Nat):ľ:=(Ku (top i)).getD j (.Pass ⟨0,0,0,0⟩)
noncomputable def gs:List (Í×AV):=[]
noncomputable def cl:List (Í×List Í):=[("Sheet",["below","guarded","heads","lines","nailed","sides","turned"])]
noncomputable abbrev B(_:FH):Type:=Pc
local macro_rules | `(tactic| walk_at "tr")=>`(tactic| (refine (?f:FH.tr ?h false [] gs cl=some ?m->B ?h) ?p;(case p=>unfold FH.tr;rw [HN];(conv in cR _=>whnf);simp [-Option.map_map,↓HN,gs,cl,ux,oq,LP,LR,LO,LQ,uS,uE,uT,uG,M8,M9,pO,AE,kW,uO,uC,vU,Cj,uI,MZ,uR,uZ,M5,uL,Ck,M4,AG,AH,MY,MX,uK,Fh,MW,vY,vW,M7,M6,Lx,Lw,uX,m2,m3,at_,lk,tT,G4,hB,By,uM,uN,uP,Ir,Hg,Na,eP,Bs,tm,HM];rfl);exact fun _=>?m))
@[simp] def lO:FH:=⟨.f "_law_draws" 3,"_law_draws",top 48,["_law_script","_law_turn","_law_many_here","_law_cells","_law_found","_law_left","_law_k","_law_at","_law_place","_law_number"],[],3,[],[],[2520136377,2528136152,2544160552]⟩
noncomputable def gG:B lO:=by walk_at "tr"
@[simp] def oY:FH:=⟨.f "_law_pop" 1,"_law_pop",top 49,["_law_draws_here"],[],3,[],[],[]⟩
noncomputable def kO:B oY:=by walk_at "tr"
@[simp] def oX:FH:=⟨.f "_law_row" 2,"_law_row",top 50,["_law_n","_law_some","_law_row_here","_law_group","_law_number"],[],3,[],[],[2688160360]⟩
noncomputable def iR:B oX:=by walk_at "tr"
@[simp] def m9:FH:=⟨.f "_law_rest" 3,"_law_rest",top 51,["_law_n","_law_a","_law_b"],[2],6,[],["_law_row"],[]⟩
noncomputable def jV:B m9:=by walk_at "tr"
@[simp] def k9:FH:=⟨.f "_law_shared" 4,"_law_shared",top 52,["_law_n","_law_a","_law_b","_law_c"],[2],6,[],["_law_row"],[]⟩
noncomputable def iD:B k9:=by walk_at "tr"
@[simp] def lb:FH:=⟨.f "_law_saying" 2,"_law_saying",top 53,["_law_draws_here","_law_n","_law_number","_law_whole","_law_a","_law_b","_law_c","_law_sign","_law_count"],[1,2,3,4],9,[],["_law_pop","_law_row","_law_rest","_law_shared"],[2768144350,2816400606]⟩
noncomputable def fP:B lb:=by walk_at "tr"
@[simp] def k8:FH:=⟨.f "_law_wanted" 3,"_law_wanted",top 54,["_law_draws_here","_law_n","_law_book","_law_number","_law_one","_law_row_here","_law_sign","_law_count","_law_more","_law_mark","_law_add"],[1,5],12,[],["_law_pop","_law_saying"],[2920144350,2928120414]⟩
noncomputable def fO:B k8:=by walk_at "tr"
@[simp] def jb:FH:=⟨.f "upward_sayings" 1,"upward_sayings",top 35,["saying","row","number","upward"],[],3,[],[],[1944104264]⟩
noncomputable def fV:B jb:=by walk_at "tr"
@[simp] def mZ:FH:=⟨.f "all_names" 1,"all_names",top 1,["n"],[],3,[],[],[]⟩
noncomputable def nA:B mZ:=by walk_at "tr"
@[simp] def ip:FH:=⟨.f "pairs_with_known" 3,"pairs_with_known",top 7,["n","i","j","both"],[8],6,[],["all_names"],[]⟩
noncomputable def iy:B ip:=by walk_at "tr"
@[simp] def vw:FH:=⟨.f "rules" 1,"rules",top 8,["n","found","i","j"],[9],9,[],["pairs_with_known"],[168096344]⟩
noncomputable def vI:B vw:=by walk_at "tr"
@[simp] def j7:FH:=⟨.f "row_of_terms" 2,"row_of_terms",top 2,["n","terms","row","group","number"],[8],6,[],["all_names"],[40080224]⟩
noncomputable def kr:B j7:=by walk_at "tr"
@[simp] def oV:FH:=⟨.f "rest_row" 3,"rest_row",top 3,["n","a","b"],[11],9,[],["row_of_terms"],[]⟩
noncomputable def px:B oV:=by walk_at "tr"
@[simp] def lN:FH:=⟨.f "shared_row" 4,"shared_row",top 4,["n","a","b","c"],[11],9,[],["row_of_terms"],[]⟩
noncomputable def lU:B lN:=by walk_at "tr"
@[simp] def oU:FH:=⟨.f "rule_row" 2,"rule_row",top 9,["n","rule","one"],[8,12,13],12,[],["all_names","rest_row","shared_row"],[]⟩
noncomputable def pw:B oU:=by walk_at "tr"
@[simp] def mV:FH:=⟨.f "rule_rows" 1,"rule_rows",top 10,["n"],[10,14],15,[],["rules","rule_row"],[]⟩
noncomputable def nk:B mV:=by walk_at "tr"
@[simp] def ji:FH:=⟨.k "Sheet" 3,"Sheet.__init__",gO 13 0,["self","width","lines"],[],3,[],[],[368168408,376168312,384168472]⟩
noncomputable def f7:B ji:=by walk_at "tr"
@[simp] def ld:FH:=⟨.m "Sheet" "guard" 2,"Sheet.guard",gO 13 1,["self","quantity"],[],3,[],[],[]⟩
noncomputable def iF:B ld:=by walk_at "tr"
@[simp] def jx:FH:=⟨.f "opening_sheet" 3,"opening_sheet",top 25,["n","givens","goal","lines","guarded","sheet","quantity"],[15,8,16,17],18,[],["rule_rows","all_names","Sheet","guard"],[1360096376,1360104177,1376144313,1384136409]⟩
noncomputable def gF:B jx:=by walk_at "tr"
@[simp] def iK:FH:=⟨.m "Sheet" "turn_line" 2,"Sheet.turn_line",gO 13 3,["self","place"],[],3,[],[],[]⟩
noncomputable def fD:B iK:=by walk_at "tr"
@[simp] def gj:FH:=⟨.m "Sheet" "loose_columns" 1,"Sheet.loose_columns",gO 13 5,["self"],[],3,[],[],[]⟩
noncomputable def dS:B gj:=by walk_at "tr"
@[simp] def fK:FH:=⟨.m "Sheet" "raising_column" 2,"Sheet.raising_column",gO 13 6,["self","place","line","found"],[20],6,[⟨81,30,81,63⟩],["loose_columns"],[]⟩
noncomputable def dJ:B fK:=by walk_at "tr"
@[simp] def iu:FH:=⟨.m "Sheet" "is_tighter" 4,"Sheet.is_tighter",gO 13 8,["self","one","other","column","ahead","behind"],[],3,[],[],[]⟩
noncomputable def eU:B iu:=by walk_at "tr"
@[simp] def fJ:FH:=⟨.m "Sheet" "tightest_place" 2,"Sheet.tightest_place",gO 13 9,["self","column","best","place","line"],[22],6,[],["is_tighter"],[]⟩
noncomputable def dI:B fJ:=by walk_at "tr"
@[simp] def gM:FH:=⟨.m "Sheet" "is_up_first" 4,"Sheet.is_up_first",gO 13 10,["self","place","tight","column","up"],[],3,[],[],[]⟩
noncomputable def eE:B gM:=by walk_at "tr"
@[simp] def kb:FH:=⟨.f "changed_line" 5,"changed_line",top 12,["line","pivot_line","column","sign","below","pivot","factor","changed"],[],3,[],[],[312112808]⟩
noncomputable def dQ:B kb:=by walk_at "tr"
@[simp] def jg:FH:=⟨.m "Sheet" "exchange" 3,"Sheet.exchange",gO 13 4,["self","place","column","sign","pivot_line","below","freed"],[25],6,[],["changed_line"],[536168776,544224496]⟩
noncomputable def fY:B jg:=by walk_at "tr"
@[simp] def lR:FH:=⟨.m "Sheet" "lift" 2,"Sheet.lift",gO 13 11,["self","place","column","tight"],[21,23,24,26],9,[],["raising_column","tightest_place","is_up_first","exchange"],[]⟩
noncomputable def eS:B lR:=by walk_at "tr"
@[simp] def gi:FH:=⟨.m "Sheet" "moving_column" 2,"Sheet.moving_column",gO 13 7,["self","place","line"],[20],6,[],["loose_columns"],[]⟩
noncomputable def dR:B gi:=by walk_at "tr"
@[simp] def lQ:FH:=⟨.m "Sheet" "nail" 2,"Sheet.nail",gO 13 2,["self","quantity"],[],3,[],[],[]⟩
noncomputable def jn:B lQ:=by walk_at "tr"
@[simp] def mX:FH:=⟨.f "keep_just" 2,"keep_just",top 26,["sheet","place","quantity","column"],[19,27,28,26,29],12,[],["turn_line","lift","moving_column","exchange","nail"],[]⟩
noncomputable def jU:B mX:=by walk_at "tr"
@[simp] def j9:FH:=⟨.f "keep_no_less" 2,"keep_no_less",top 27,["sheet","place","quantity"],[27,17],12,[],["lift","guard"],[]⟩
noncomputable def fc:B j9:=by walk_at "tr"
@[simp] def oW:FH:=⟨.f "names_in" 2,"names_in",top 15,["n","group"],[],3,[],[],[]⟩
noncomputable def pA:B oW:=by walk_at "tr"
@[simp] def mW:FH:=⟨.f "pair_rule" 3,"pair_rule",top 16,["one","other","known"],[],3,[],[],[]⟩
noncomputable def nq:B mW:=by walk_at "tr"
@[simp] def jw:FH:=⟨.f "rules_of_name" 3,"rules_of_name",top 17,["n","k","known","used","j"],[32,33],6,[],["names_in","pair_rule"],[1048088104]⟩
noncomputable def jK:B jw:=by walk_at "tr"
@[simp] def jv:FH:=⟨.f "rules_of_rest" 3,"rules_of_rest",top 18,["n","a","b","used","known","k"],[32,34],9,[],["names_in","rules_of_name"],[1104088104]⟩
noncomputable def jJ:B jv:=by walk_at "tr"
@[simp] def mY:FH:=⟨.f "how_often" 2,"how_often",top 19,["n","used"],[10],12,[],["rules"],[]⟩
noncomputable def ny:B mY:=by walk_at "tr"
@[simp] def iG:FH:=⟨.f "weights_by_line" 3,"weights_by_line",top 28,["n","sheet","place","taken","column","quantity","weights","group","often","rule","count"],[8,35,36],15,[],["all_names","rules_of_rest","how_often"],[1584096440,1616032340,1632112288]⟩
noncomputable def fA:B iG:=by walk_at "tr"
@[simp] def jf:FH:=⟨.f "common_divisor" 1,"common_divisor",top 21,["numbers","divisor","number","other","left"],[],3,[],[],[]⟩
noncomputable def d7:B jf:=by walk_at "tr"
@[simp] def iJ:FH:=⟨.f "in_lowest_terms" 1,"in_lowest_terms",top 22,["numbers","divisor"],[38],6,[],["common_divisor"],[]⟩
noncomputable def dM:B iJ:=by walk_at "tr"
@[simp] def jh:FH:=⟨.m "Sheet" "drive_up" 2,"Sheet.drive_up",gO 13 12,["self","place","column","tight"],[21,23,26],9,[],["raising_column","tightest_place","exchange"],[]⟩
noncomputable def fZ:B jh:=by walk_at "tr"
@[simp] def iH:FH:=⟨.f "lowest_fraction" 2,"lowest_fraction",top 23,["top","bottom","numbers"],[39],9,[],["in_lowest_terms"],[]⟩
noncomputable def fC:B iH:=by walk_at "tr"
@[simp] def iq:FH:=⟨.f "groups_in_column" 3,"groups_in_column",top 29,["n","sheet","column","found","place","quantity"],[8],6,[],["all_names"],[1696096240]⟩
noncomputable def eQ:B iq:=by walk_at "tr"
@[simp] def j8:FH:=⟨.f "lowest_table" 2,"lowest_table",top 24,["numbers","below","found"],[39],9,[],["in_lowest_terms"],[1336224361]⟩
noncomputable def gU:B j8:=by walk_at "tr"
@[simp] def jd:FH:=⟨.f "table_of_sheet" 2,"table_of_sheet",top 30,["n","sheet"],[42,43],12,[],["groups_in_column","lowest_table"],[1744192438]⟩
noncomputable def fW:B jd:=by walk_at "tr"
@[simp] def je:FH:=⟨.f "least_of_sheet" 3,"least_of_sheet",top 32,["n","sheet","place","least","weights"],[41,37,39,44],18,[],["lowest_fraction","weights_by_line","in_lowest_terms","table_of_sheet"],[1808240502,1808240625,1816224422]⟩
noncomputable def fX:B je:=by walk_at "tr"
@[simp] def mU:FH:=⟨.f "way_along" 3,"way_along",top 31,["n","sheet","column","way"],[42,39],9,[],["groups_in_column","in_lowest_terms"],[1760080358]⟩
noncomputable def ib:B mU:=by walk_at "tr"
@[simp] def tD:FH:=⟨.f "answer" 3,"answer",top 33,["n","givens","goal","sheet","last","place","given","kept","column"],[18,30,31,37,39,40,45,44,46],21,[],["opening_sheet","keep_just","keep_no_less","weights_by_line","in_lowest_terms","drive_up","least_of_sheet","table_of_sheet","way_along"],[1832096342,1856120310,1856504718,1872360622,1896120366,1904184382,1904392614]⟩
noncomputable def oi:B tD:=by walk_at "tr"
@[simp] def vq:FH:=⟨.f "value" 2,"value",top 5,["row","table"],[],3,[],[],[]⟩
noncomputable def qg:B vq:=by walk_at "tr"
@[simp] def k7:FH:=⟨.f "table_along" 4,"table_along",top 36,["table","way","row","number","below","above","fall","steps"],[48,43],12,[],["value","lowest_table"],[]⟩
noncomputable def fN:B k7:=by walk_at "tr"
@[simp] def jy:FH:=⟨.f "follow_upward" 4,"follow_upward",top 37,["n","givens","row","number","found"],[47,49],24,[],["answer","table_along"],[]⟩
noncomputable def eI:B jy:=by walk_at "tr"
@[simp] def qH:FH:=⟨.f "follows" 3,"follows",top 38,["n","givens","saying","papers","row","sign","number","told"],[7,50],27,[],["upward_sayings","follow_upward"],[2104104120]⟩
noncomputable def jL:B qH:=by walk_at "tr"
@[simp] def ka:FH:=⟨.f "follows_from" 4,"follows_from",top 41,["n","book","places","saying"],[51],30,[],["follows"],[]⟩
noncomputable def fe:B ka:=by walk_at "tr"
@[simp] def gh:FH:=⟨.f "follows_from_others" 4,"follows_from_others",top 44,["n","book","places","place","others"],[52],33,[],["follows_from"],[]⟩
noncomputable def c8:B gh:=by walk_at "tr"
@[simp] def qG:FH:=⟨.f "thinned" 2,"thinned",top 46,["n","book","left","place"],[53],36,[],["follows_from_others"],[2464088264]⟩
noncomputable def jI:B qG:=by walk_at "tr"
@[simp] def vv:FH:=⟨.f "spare" 2,"spare",top 45,["n","book","places"],[53],36,[],["follows_from_others"],[]⟩
noncomputable def mI:B vv:=by walk_at "tr"
@[simp] def m7:FH:=⟨.f "_law_thin" 2,"_law_thin",top 56,["_law_n","_law_book","_law_left","_law_short","_law_one"],[54,55,51],39,[],["thinned","spare","follows"],[]⟩
noncomputable def ic:B m7:=by walk_at "tr"
@[simp] def lP:FH:=⟨.f "_law_again" 3,"_law_again",top 57,["_law_n","_law_book","_law_place","_law_more","_law_found"],[54,55],39,[],["thinned","spare"],[3120128913]⟩
noncomputable def gH:B lP:=by walk_at "tr"
@[simp] def iI:FH:=⟨.f "lists_of_places" 2,"lists_of_places",top 40,["many","few","found","step","longer","places","first"],[],3,[],[],[2192136152,2216216345]⟩
noncomputable def iN:B iI:=by walk_at "tr"
@[simp] def k6:FH:=⟨.f "tried_lists" 4,"tried_lists",top 42,["n","book","few","saying","tried","places","told"],[58,52],33,[],["lists_of_places","follows_from"],[2264096112]⟩
noncomputable def fM:B k6:=by walk_at "tr"
@[simp] def tB:FH:=⟨.f "fewest" 3,"fewest",top 43,["n","book","saying","few","tables","tried"],[51,59],36,[],["follows","tried_lists"],[]⟩
noncomputable def gX:B tB:=by walk_at "tr"
@[simp] def nh:FH:=⟨.f "_law_many" 1,"_law_many",top 55,["_law_found"],[],3,[],[],[]⟩
noncomputable def ie:B nh:=by walk_at "tr"
@[simp] def CK:FH:=⟨.f "law" 1,"law",top 58,["_law_script","_law_draws_here","_law_number","_law_n","_law_book","_law_saying_here","_law_more","_law_many_here","_law_at"],[0,1,5,6,56,57,60,61],42,[],["_law_draws","_law_pop","_law_saying","_law_wanted","_law_thin","_law_again","fewest","_law_many"],[3168176422,3176144350,3192136430,3200184566,3208128422,3280288553,3280288729]⟩
noncomputable def rL:B CK:=by walk_at "tr"
def e_law:FE:=⟨CK,rL⟩
def pre:List FE:=[⟨lO,gG⟩,⟨oY,kO⟩,⟨oX,iR⟩,⟨m9,jV⟩,⟨k9,iD⟩,⟨lb,fP⟩,⟨k8,fO⟩,⟨jb,fV⟩,⟨mZ,nA⟩,⟨ip,iy⟩,⟨vw,vI⟩,⟨j7,kr⟩,⟨oV,px⟩,⟨lN,lU⟩,⟨oU,pw⟩,⟨mV,nk⟩,⟨ji,f7⟩,⟨ld,iF⟩,⟨jx,gF⟩,⟨iK,fD⟩,⟨gj,dS⟩,⟨fK,dJ⟩,⟨iu,eU⟩,⟨fJ,dI⟩,⟨gM,eE⟩,⟨kb,dQ⟩,⟨jg,fY⟩,⟨lR,eS⟩,⟨gi,dR⟩,⟨lQ,jn⟩,⟨mX,jU⟩,⟨j9,fc⟩,⟨oW,pA⟩,⟨mW,nq⟩,⟨jw,jK⟩,⟨jv,jJ⟩,⟨mY,ny⟩,⟨iG,fA⟩,⟨jf,d7⟩,⟨iJ,dM⟩,⟨jh,fZ⟩,⟨iH,fC⟩,⟨iq,eQ⟩,⟨j8,gU⟩,⟨jd,fW⟩,⟨je,fX⟩,⟨mU,ib⟩,⟨tD,oi⟩,⟨vq,qg⟩,⟨k7,fN⟩,⟨jy,eI⟩,⟨qH,jL⟩,⟨ka,fe⟩,⟨gh,c8⟩,⟨qG,jI⟩,⟨vv,mI⟩,⟨m7,ic⟩,⟨lP,gH⟩,⟨iI,iN⟩,⟨k6,fM⟩,⟨tB,gX⟩,⟨nh,ie⟩]
theorem EW:pj gs cl [] pre=pre.map fun e=>À e.b:=by kernel_rfl
theorem EX:e_law.chk gs cl pre=À e_law.b:=by kernel_rfl
instance:O2:=⟨[(117,⟨81,30,81,63⟩,("Sheet.raising_column":Í)++".<locals>."++"<lambda>")]⟩
def dX:Fn:=run 10 (af [] gG)
def aW:Fn:=run 1 (af [] kO)
def cO:Fn:=run 5 (af [] iR)
def dk:Fn:=run 3 (af [cO] jV)
def cV:Fn:=run 4 (af [cO] iD)
def aO:Fn:=run 9 (af [aW,cO,dk,cV] fP)
def dz:Fn:=run 11 (af [aW,aO] fO)
def bA:Fn:=run 4 (af [] fV)
def ao:Fn:=run 1 (af [] nA)
def iB:Fn:=run 4 (af [ao] iy)
def qp:Fn:=run 4 (af [iB] vI)
def g6:Fn:=run 5 (af [ao] kr)
def pJ:Fn:=run 3 (af [g6] px)
def l7:Fn:=run 4 (af [g6] lU)
def pH:Fn:=run 3 (af [ao,pJ,l7] pw)
def aT:Fn:=run 1 (af [qp,pH] nk)
def aH:Fn:=run 3 (af [] f7)
def aP:Fn:=run 2 (af [] iF)
def b9:Fn:=run 7 (af [aT,ao,aH,aP] gF)
def cT:Fn:=run 2 (af [] fD)
def cE:Fn:=run 1 (af [] dS)
def aJ:Fn:=run 4 (af [cE] dJ)
def cF:Fn:=run 6 (af [] eU)
def aI:Fn:=run 5 (af [cF] dI)
def aY:Fn:=run 5 (af [] eE)
def bQ:Fn:=run 8 (af [] dQ)
def aL:Fn:=run 7 (af [bQ] fY)
def cP:Fn:=run 4 (af [aJ,aI,aY,aL] eS)
def ce:Fn:=run 3 (af [cE] dR)
def dZ:Fn:=run 2 (af [] jn)
def cL:Fn:=run 4 (af [cT,cP,ce,aL,dZ] jU)
def bO:Fn:=run 3 (af [cP,aP] fc)
def kT:Fn:=run 2 (af [] pA)
def nD:Fn:=run 3 (af [] nq)
def jM:Fn:=run 5 (af [kT,nD] jK)
def c9:Fn:=run 6 (af [kT,jM] jJ)
def eB:Fn:=run 2 (af [qp] ny)
def aN:Fn:=run 11 (af [ao,c9,eB] fA)
def cY:Fn:=run 5 (af [] d7)
def aj:Fn:=run 2 (af [cY] dM)
def bM:Fn:=run 4 (af [aJ,aI,aL] fZ)
def dh:Fn:=run 3 (af [aj] fC)
def c6:Fn:=run 6 (af [ao] eQ)
def bN:Fn:=run 3 (af [aj] gU)
def aX:Fn:=run 2 (af [c6,bN] fW)
def bL:Fn:=run 5 (af [dh,aN,aj,aX] fX)
def cK:Fn:=run 4 (af [c6,aj] ib)
def g7:Fn:=run 9 (af [b9,cL,bO,aN,aj,bM,bL,aX,cK] oi)
def gZ:Fn:=run 2 (af [] qg)
def d9:Fn:=run 8 (af [gZ,bN] fN)
def bF:Fn:=run 5 (af [g7,d9] eI)
def aS:Fn:=run 8 (af [bA,bF] jL)
def bo:Fn:=run 4 (af [aS] fe)
def aF:Fn:=run 5 (af [bo] c8)
def cU:Fn:=run 4 (af [aF] jI)
def dW:Fn:=run 3 (af [aF] mI)
def eC:Fn:=run 5 (af [cU,dW,aS] ic)
def dY:Fn:=run 5 (af [cU,dW] gH)
def bC:Fn:=run 7 (af [] iN)
def bh:Fn:=run 7 (af [bC,bo] fM)
def eV:Fn:=run 6 (af [aS,bh] gX)
def dL:Fn:=run 1 (af [] ie)
def pK:Fn:=run 9 (af [dX,aW,aO,dz,eC,dY,eV,dL] rL)
def Fs:List Fn:=[dX,aW,cO,dk,cV,aO,dz,bA,ao,iB,qp,g6,pJ,l7,pH,aT,aH,aP,b9,cT,cE,aJ,cF,aI,aY,bQ,aL,cP,ce,dZ,cL,bO,kT,nD,jM,c9,eB,aN,cY,aj,bM,dh,c6,bN,aX,bL,cK,g7,gZ,d9,bF,aS,bo,aF,cU,dW,eC,dY,bC,bh,eV,dL]
theorem Kg:jA [] pre=Fs:=zx (by(repeat refine⟨rfl,?_⟩);trivial)
theorem JV:e_law.fn (jA [] pre)=pK:=by rw[Kg];rfl
def Lu:Fn:=pK
open PySem.Spec
open SX (Sh Pb)
def Bd(w m:Nat)(S:Sh):Prop:=S.d.natAbs<2^9000/\∀i,i<m->∀j,j<w+1->(S.t i j).natAbs<2^9000
section
variable{st:aa}{k a b c g n u w m:Nat}{rows:List AV}{S:Sh}
theorem J4(R:Rep st k a b c g n u rows S)(P:Pb w m S)(B:Bd w m S){i r q:Nat}(e:i<m)(d:r<m)(l:q<w) :
  cF [.ref k,.int i,.int r,.int q] st=À (.bl (decide (S.t i w*- S.t r q<S.t r w*- S.t i q)||(decide (S.t i w*- S.t r q=S.t r w*- S.t i q)&&decide (S.s i<S.s r))),st):=by
 have f:dP (S.t i w) (- S.t r q)=Â:=df (B.2 i e w oM) (by rw [ã];exact B.2 r d q oM);have m2:dP (S.t r w) (- S.t i q)=Â:=df (B.2 r d w oM) (by rw [ã];exact B.2 i e q oM);simp [cF,aB,eU,R.ins,R.line P e,R.line P d,R.last P e,R.last P d,R.cell P e (show q < w + 1 by lia),R.cell P d (show q < w + 1 by lia),cM f,cM m2,R.side P e,R.side P d];by_cases j:S.t i w * -S.t r q < S.t r w * -S.t i q <;> by_cases h:S.t i w * -S.t r q=S.t r w * -S.t i q <;> simp [j,h]
theorem Ch(R:Rep st k a b c g n u rows S)(P:Pb w m S)(B:Bd w m S){i r q:Nat}(e:i<m)(d:r<m)(h:q<w) :
  aY [.ref k,.int i,.int r,.int q] st=À (.bl (decide (S.t i w*S.t r q<=S.t r w*S.t i q)),st):=by
 have f:dP (S.t i w) (S.t r q)=Â:=df (B.2 i e w oM) (B.2 r d q oM);have m2:dP (S.t r w) (S.t i q)=Â:=df (B.2 r d w oM) (B.2 i e q oM);simp [aY,aB,eE,R.ins,R.line P e,R.line P d,R.last P e,R.last P d,R.cell P e (show q < w + 1 by lia),R.cell P d (show q < w + 1 by lia),cM f,cM m2]
theorem vf(R:Rep st k a b c g n u rows S)(P:Pb w m S)(f:w<=100):cE [.ref k] st=À (.fz (nL (cj S)),st):=by
 have e:nL (cj S)=(S.hd.zipIdx.filter fun z=>!decide (z.1∈S.nl)).map fun z=>(AV.int ((z.2:Nat):Int)):=by unfold nL cj;rw[Ü];rfl
 have d:=kA (l:=cj S);rw [e] at d ⊢;simp [cE,aB,dS,R.ins,j6 R.hb,Kq,bW (show S.hd.length <= 1000 by rw [P.hd];lia)];rw [gQ (B:=fun z=>!decide (z.1 ∈ S.nl)) (F:=fun z=>.int ((z.2:Nat):Int)) (gR R.hb) fun z _=>⟨_,rfl,by simp [R.ins,R.nin],fun _=>rfl⟩];simp [d]
theorem sD(R:Rep st k a b c g n u rows S)(P:Pb w m S)(y:w<=100){p:Nat}(r:p<m):∃o,aJ [.ref k,.int p] st=À (oN o,st)/\SX.Rais w S p o:=by
 have x:(cj S).length<=1000:=by
  unfold cj;rw[zH]
  have:=Ŋ (fun z:Nat×Nat=>!decide (z.1∈S.nl)) S.hd.zipIdx
  rw[Q6,P.hd]at this;lia
 obtain⟨o,C,G,E⟩:=IA (l:=(cj S).filter fun j=>decide (0<S.t p j)) (key:=S.h);have inl:∀j,j∈(cj S).filter (fun j=>decide (0<S.t p j)) ↔ (j<w/\S.h j∉S.nl)/\0<S.t p j:=fun j=>by rw[Ñ,ju P];simp
 refine⟨o,?_,fun e j d i h=>?_,fun q e=>?_⟩
 ·simp[aJ,aB,dJ,R.ins,R.line P r,vf R P y,nL,bW x]
  rw [gQ (B:=fun j=>decide (0 < S.t p j)) (F:=fun j:Nat=>.int (j:Int)) gk fun j d=>⟨_,rfl,by simp [R.cell P r (show j < w + 1 by have:=(ju P).mp d;lia)],fun _=>rfl⟩];have D:rfs (((cj S).filter fun j=>decide (0 < S.t p j)).map fun j:Nat=>(AV.int (j:Int)))=Â:=kA;have t:=vj (l:=(cj S).filter fun j=>decide (0 < S.t p j));unfold nL at t;simp [D,rP,lsI,t];rw [Hn (f:=S.h) fun q A=>by simp [R.ins,R.head P ((inl q).mp A).1.1]];simp [C]
 ·have:=G e
  have s:=(inl j).mpr ⟨⟨d,i⟩,h⟩;rw[this]at s;cases s
 ·obtain⟨v,m2⟩:=E q e
  have:=(inl q).mp v
  exact⟨this.1.1,this.1.2,this.2,fun j d i h=>m2 j ((inl j).mpr ⟨⟨d,i⟩,h⟩)⟩
theorem uF(R:Rep st k a b c g n u rows S)(P:Pb w m S)(B:Bd w m S){q:Nat}(z:q<w):∃o,aI [.ref k,.int q] st=À (oN o,st)/\SX.O7 S w q m o:=by
 have rl:rows.length=m:=by rw[R.len,P.ls]
 obtain⟨t,p,e,rfl,o,x,y,rfl,T⟩:=fb (gd:=[(a,.lst rows)]) (g:=cB [cF] (.tu 2 (.cons (.nm 3) (.cons (.nm 4) .nil)))) (s:=af [cF] (.cons (.iff (.an (.cmp .Lt (.ix (.v 4) (.v 1)) (.i 0)) (.cmp .In (.ix (.fd "Sheet" "sides" (.v 0)) (.v 3)) (.fd "Sheet" "guarded" (.v 0))))
   (.cons (.iff (.or (.cmp .Is (.v 2) .n) (.va (.me "Sheet" "is_tighter" 0 (.v 0) (.cons (.v 3) (.cons (.v 2) (.cons (.v 1) .nil)))))) (.cons (.as (.v 3) (.nm 2)) .nil) .nil) .nil) .nil) .nil))
  (I:=fun i sl s=>s=st/\∃o x y,sl=[Rs k,Is q,À (oN o),x,y]/\SX.O7 S w q i o) (xs:=fi 0 rows) (fun i sl s _ j=>by rw[j.1];exact gR R.ha)
  (fun i y sl s v j=>by
   obtain⟨rfl,o,C,A,rfl,T⟩:=j;obtain⟨x,l,rfl⟩:=pf v;have f:i<m:=by rw[<- rl];exact(zB.mp l).1
   have ex:x=ly rows i:=by have:=R.rx P f;rw[l]at this;injection this
   subst ex;refine⟨_,[Rs k,Is q,À (oN (if S.t i q<0/\S.s i∈S.gd then(match o with|none=>À i|some r=>if S.t i w*- S.t r q<S.t r w*- S.t i q\/(S.t i w*- S.t r q=S.t r w*- S.t i q/\S.s i<S.s r) then À i else À r) else o)),Is i,À (ly rows i)],s,rfl,?_,rfl,_,_,_,rfl,?_⟩
   ·by_cases d:S.t i q<0
    ·by_cases h:S.s i∈S.gd
     ·cases o with
      | none=>simp [R.cell P f (show q < w + 1 by lia),d,R.side P f,R.ins,R.ing,h,oN]
      |some r =>
       have D:=(T.2 r rfl).1
       have:=J4 R P B f (show r < m by lia) z
       simp [R.cell P f (show q < w + 1 by lia),d,R.side P f,R.ins,R.ing,h,oN,this,fu,b8,dr];split <;> rfl
     ·simp [R.cell P f (show q < w + 1 by lia),d,R.side P f,R.ins,R.ing,h]
    ·simp [R.cell P f (show q < w + 1 by lia),d]
   ·by_cases d:S.t i q<0/\S.s i∈S.gd
    ·rw[yH d]
     cases o with
     |none=>exact SX.tt_first d.1 d.2 T
     |some r =>
      dsimp only;split
      ·rename_i h;exact SX.tt_new d.1 d.2 h T
      ·rename_i h;exact SX.tt_old d.1 h T
    ·rw[yG d];exact SX.tt_skip d T) (sl:=[Rs k,Is q,À .non,Á,Á]) (st:=st) ⟨rfl,Á,Á,Á,rfl,SX.tt_zero⟩
 rw[mE,rl]at T;refine⟨o,?_,T⟩;simp[aI,aB,dI,R.ins,j6 R.ha];rw[e];simp
end
open SX (gI chLine pvl sgn)
theorem rV:((iL l).zip (iL P)).map (fun z=>AV.tup [z.1,z.2])=(l.zip P).map fun z=>.tup [.int z.1,.int z.2]:=by
 unfold iL;rw[List.zip_map,Ü];rfl
section
variable{l P:List Int}{q w:Nat}{sg d:Int}
theorem mC{M:Nat}(h:∀x∈l,x.natAbs<M)(a:0<M)(j:Nat):(gI l j).natAbs<M:=by
 unfold gI;rw[zD];cases e:l[j]? with
 |none=>exact a
 |some x=>exact h x (zW e)
theorem MH(s:l.length=w+1)(t:P.length=w+1)(r:q<w+1)(p:w<=100)(g:∀x∈l,x.natAbs<2^9000)(m:∀x∈P,x.natAbs<2^9000)(hd:d≠0)(bd:d.natAbs<2^9000)(bs:sg.natAbs<2^9000) :
  ∃v st',bQ [.fz (iL l),.fz (iL P),.int q,.int sg,.int d] []=À (v,st')/\de st' v=À (.fz (iL (chLine l P q sg d))):=by
 have h:(0:Nat)<2^9000:=Ö _;have f:∀b:aa,aR b (.fz (iL P)) (.int (q:Int))=À (.int (gI P q)):=fun b=>by rw[cH d5,cC,cw oM]
 have e:∀b:aa,aR b (.fz (iL l)) (.int (q:Int))=À (.int (gI l q)):=fun b=>by rw[cH d5,cC,cw oM]
 have j:=mC m h q;have k:=mC g h q;have i:=tN hd bd;unfold chLine;by_cases a:gI l q=0
 ·by_cases c:gI P q=d
  ·refine⟨.fz (iL l),[],?_,by rw[yH a,yH c];rfl⟩
   simp[bQ,aB,dQ,f,e,a,c]
  ·refine⟨.fz (iL (l.map fun x=>SX.fdvS (x*gI P q) d)),[],?_,by rw[yH a,yG c];rfl⟩
   simp [bQ,aB,dQ,f,e,a,c,bW (show l.length <= 1000 by lia)];rw [kF (F:=fun x=>SX.fdvS (x * gI P q) d) gk fun x o=>⟨_,rfl,rfl,by simp [cM (df (g x o) j),pC i];rfl⟩];simp
 ·refine⟨.ref 0,[.lst (iL (((l.zip P).map fun z=>SX.fdvS (z.1*gI P q-gI l q*z.2) d).set q (sg*gI l q)))],?_,by rw[yG a];exact mo rfl⟩
  have n:=df bs k;have hz:((l.zip P).length)<=1000:=by rw[ŀ];lia
  simp[bQ,aB,dQ,f,e,a,iZ,rV];rw[yH (bW oM),y7 (F:=fun z=>SX.fdvS (z.1*gI P q-gI l q*z.2) d) gk fun z hz=>⟨_,rfl,rfl,by
   have:=û hz
   simp[cM (df (g _ this.1) j),cM (df k (m _ this.2)),pC i];rfl⟩]
  simp[cM n];rw[dD (xs:=iL ((l.zip P).map fun z=>SX.fdvS (z.1*gI P q-gI l q*z.2) d)) rfl (by simp;lia),fH];simp
theorem Kt(b:RowR st x l)(f:l.length=w+1)(g:P.length=w+1)(e:q<w+1)(c:w<=100)(j:∀x∈l,x.natAbs<2^9000)(k:∀x∈P,x.natAbs<2^9000)(hd:d≠0)(bd:d.natAbs<2^9000)(bs:sg.natAbs<2^9000) :
  ∃st1,pm bQ [x,.fz (iL P),.int q,.int sg,.int d] st=À (.fz (iL (chLine l P q sg d)),st1)/\(st1=st\/∃r,x=.ref r/\st[r]?=À (.lst (iL l))/\st1=st.set r (.al (.fz (iL l)))):=by
 obtain⟨v,a,i,h⟩:=MH f g e c j k hd bd bs;exact lD (rest:=[.fz (iL P),.int q,.int sg,.int d]) b (by simp) rfl (fun s=>by simp[o6,qJ,rf]) i h (by simp[flat])
end
section
variable{st:aa}{k a b c g n u w m:Nat}{rows:List AV}{S:Sh}
theorem Bd.row(B:Bd w m S)(P:Pb w m S){i:Nat}(c:i<m):∀x∈SX.row S i,x.natAbs<2^9000:=fun x d=>by
 obtain⟨j,b⟩:=z8 d;have a:=(zB.mp b).1;rw[P.rl c]at a
 have:=B.2 i c j a
 have e:S.t i j=x:=by show(SX.row S i).getD j 0=x;rw[zD,b];rfl
 rw[e]at this;exact this
theorem pe(R:Rep st k a b c g n u rows S)(P:Pb w m S)(B:Bd w m S)(hd:S.d≠0)(hw:w<=100)(hm:m<=1000){p q:Nat}(A:p<m)(hq:q<w) :
  ∃st' a' rows',aL [.ref k,.int p,.int q] st=À (.non,st')/\Rep st' k a' b c g n u rows' (SX.O9 S p q):=by
 have rl:rows.length=m:=by rw[R.len,P.ls]
 obtain⟨sg,D⟩:∃x,x=sgn (S.t p q):=⟨_,rfl⟩;obtain⟨o,N⟩:∃x,x=pvl S p q:=⟨_,rfl⟩;have E:o=(SX.row S p).map fun x=>sg*x:=by rw[N,D];rfl
 have lp:o.length=w+1:=by rw[E,zH];exact P.rl A
 have sa:sg.natAbs=1:=by rw[D];unfold sgn;split<;>rfl
 have bs:sg.natAbs<2^9000:=by rw[sa];exact Nat.one_lt_two_pow oM
 have bP:∀x∈o,x.natAbs<2^9000:=fun x G=>by
  rw[E]at G;obtain⟨y,hy,rfl⟩:=yC.mp G;rw[yZ,sa,ϲ];exact B.row P A y hy
 have s1:∃t,im [(a,.lst rows)] (cB [bQ] (.nm 7)) (jC [bQ] .no) (ev [bQ] (.ca Â 0 (.cons (.v 7) (.cons (.v 4) (.cons (.v 2) (.cons (.v 3) (.cons (.v 5) .nil))))))) [Rs k,Is p,Is q,Is sg,Ls o,Is S.d,Á,Á] rows st
   = À ((Ä rows.length).map fun i=>.fz (iL (chLine (SX.row S i) o q sg S.d)),t)/\Rep t k a b c g n u rows S:=by
  refine yz (J:=fun _ s=>Rep s k a b c g n u rows S) (fun _ s _ Z=>gR Z.ha) (fun i x s G Z=>?_) R;have hi:i<m:=by rw[<- rl];exact(zB.mp G).1
  obtain ⟨s1,e1,Y⟩:=Kt (Z.row i x G) (P.rl hi) lp (show q < w + 1 by lia) hw (B.row P hi) bP hd B.1 bs;refine ⟨_,s1,rfl,rfl,by simp [e1],?_⟩;rcases Y with rfl | ⟨r,rfl,h2,rfl⟩
  ·exact Z
  ·exact Z.freeze G h2
 obtain⟨t,e1,R1⟩:=s1;obtain⟨f,M⟩:∃x,x=(Ä rows.length).map fun i=>AV.fz (iL (chLine (SX.row S i) o q sg S.d)):=⟨_,rfl⟩
 rw[<- M]at e1;have O:∀i x,f[i]?=À x->i<m/\x=.fz (iL (chLine (SX.row S i) o q sg S.d)):=fun i x h=>by
  rw[M,zR]at h;obtain⟨j,Y,rfl⟩:=zE.mp h;have W:=(zB.mp Y).1;rw[Ĥ]at W;rw[Ķ W]at Y;cases Y;exact⟨by lia,rfl⟩
 have l2:f.length=m:=by rw[M,zH,Ĥ,rl]
 have lt:∀{s:aa}{i:Nat}{x:O3},s[i]?=À x->i<s.length:=fun h=>(zB.mp h).1
 have R2:Rep ((t++[O3.lst f]).set k (.ins "Sheet" (db S.d t.length b c g n u))) k t.length b c g n u f { S with ls:=S.ls.map fun l=>chLine l o q sg S.d }:=by
  refine Rep.fields (S':={ S with ls:=S.ls.map fun l=>chLine l o q sg S.d }) (R1.app (ys:=[O3.lst f])) gl rfl rfl rfl rfl rfl (by simp[l2,P.ls]) (fun i x h=>?_) (Ĳ (lt R1.hb)) (Ĳ (lt R1.hc)) fun i r h=>?_
  ·obtain⟨hi,rfl⟩:=O i x h
   left;unfold SX.row;simp [zD,zF (show i < S.ls.length by rw [P.ls];exact hi)]
  ·have:=(O i _ h).2;cases this
 obtain⟨C,L⟩:∃x,x=(t++[O3.lst f]).set k (.ins "Sheet" (db S.d t.length b c g n u)):=⟨_,rfl⟩;rw[<- L]at R2;obtain⟨a',X⟩:∃x,x=t.length:=⟨_,rfl⟩;rw[<- X]at R2 L;have R3:=Rep.rowset (p:=p) (x:=.ref C.length) (l:=o.map fun x=>- x) (R2.app (ys:=[O3.lst (iL (o.map fun x=>- x))])) (.inr ⟨C.length,rfl,.inl gl⟩) fun r e=>by cases e;exact⟨Ĳ (lt R2.ha),Ĳ (lt R2.hb),Ĳ (lt R2.hc)⟩
 obtain⟨t3,K⟩:∃x,x=(C++[O3.lst (iL (o.map fun x=>- x))]).set a' (.lst (f.set p (.ref C.length))):=⟨_,rfl⟩;rw[<- K]at R3;have g3:t3[C.length]?=À (.lst (iL (o.map fun x=>- x))):=by rw[K,aA (zU (lt R2.ha))];exact gl
 have p3:(f.set p (.ref C.length))[p]?=À (.ref C.length):=by simp[l2,A]
 have H:=Rep.cellset (l:=(o.map fun x=>- x).set q (sg*S.d)) R3 p3 fun i ne h=>by
  rw[yW,yG (fun z=>ne z.symm)]at h
  have:=(O i _ h).2;cases this
 obtain⟨t4,V⟩:∃x,x=t3.set C.length (.lst (iL ((o.map fun x=>- x).set q (sg*S.d)))):=⟨_,rfl⟩;rw[<- V]at H;have I:=Rep.fields (S':={ d:=gI o q,ls:=_,hd:=S.hd,sd:=S.sd,gd:=S.gd,nl:=S.nl,tn:=S.tn }) H H.ha rfl rfl rfl rfl rfl H.len H.row H.ab H.ac H.ra;obtain⟨t5,U⟩:∃x,x=t4.set k (.ins "Sheet" (db (gI o q) a' b c g n u)):=⟨_,rfl⟩;have I:=U▸I;have R6:=Rep.sides (sd':=S.sd.set p (S.h q)) I;obtain⟨t6,T⟩:∃x,x=t5.set c (.lst (nL (S.sd.set p (S.h q)))):=⟨_,rfl⟩;rw[<- T]at R6;have R7:=Rep.heads (hd':=S.hd.set q (S.s p)) R6;obtain⟨t7,Q⟩:∃x,x=t6.set b (.lst (nL (S.hd.set q (S.s p)))):=⟨_,rfl⟩;rw[<- Q]at R7;refine⟨t7,a',f.set p (.ref C.length),?_,?_⟩
 rotate_left
 ·have e:SX.O9 S p q={ d:=gI o q,ls:=((S.ls.map fun l=>chLine l o q sg S.d).set p (o.map fun x=>- x)).set p ((o.map fun x=>- x).set q (sg*S.d)),hd:=S.hd.set q (S.s p),sd:=S.sd.set p (S.h q),gd:=S.gd,nl:=S.nl,tn:=S.tn }:=by
   unfold SX.O9;rw[u!,N,D]
  rw[e];exact R7
 rw[aL,aB];unfold fY;refine ae (sl':=[Rs k,Is p,Is q,Is sg,Á,Á,Á]) (st':=st) ?_ ?_
 ·by_cases h:S.t p q<0
  ·simp [R.ins,R.line P A,R.cell P A (show q < w + 1 by lia),h,D,sgn]
  ·simp [R.ins,R.line P A,R.cell P A (show q < w + 1 by lia),h,D,sgn]
 refine ae (sl':=[Rs k,Is p,Is q,Is sg,Ls o,Á,Á]) (st':=st) ?_ ?_
 ·obtain⟨gd,i1,i2⟩:=(R.row p _ (R.rx P A)).it
  simp [R.ins,R.line P A,i1,bW (show (SX.row S p).length <= 1000 by rw [P.rl A];lia)];rw [kF (F:=fun x=>sg * x) i2 fun x G=>⟨_,rfl,rfl,by simp [cM (df bs (B.row P A x G))]⟩];simp [E]
 refine ae (sl':=[Rs k,Is p,Is q,Is sg,Ls o,Is S.d,Á]) (st':=st) (by simp[R.ins]) ?_;refine ae (sl':=[Rs k,Is p,Is q,Is sg,Ls o,Is S.d,Á]) (st':=C) ?_ ?_
 ·rw[iO (v:=.ref a') (st':=t++[.lst f]) (k:=k) (by simp[R.ins,p0 R.ha,rl,bW hm,e1,X]) (by simp) R1.app.ins rfl,Bg,L]
 refine ae (sl':=[Rs k,Is p,Is q,Is sg,Ls o,Is S.d,Á]) (st':=t3) ?_ ?_
 ·simp [bW (show o.length <= 1000 by lia)]
  rw [kF (F:=fun x=>- x) gk fun x G=>⟨_,rfl,rfl,by simp⟩];simp [R2.app.ins,dD (R2.app (ys:=[O3.lst (iL (o.map fun x=>- x))])).ha (show p < f.length by lia),K]
 have P4:Pb w m { S with ls:=((S.ls.map fun l=>chLine l o q sg S.d).set p (o.map fun x=>- x)).set p ((o.map fun x=>- x).set q (sg*S.d)) }:=by
  have:=SX.exch_shp (c:=q) P A
  refine⟨by simp[P.ls],fun l W=>this.row l ?_,P.hd,P.sd⟩;show l∈(S.ls.map fun l=>chLine l (pvl S p q) q (sgn (S.t p q)) S.d).set p _;rw[<- N,<- D];rw[u!]at W;exact W
 have rx:ly (f.set p (.ref C.length)) p=.ref C.length:=by unfold ly;rw[zD,p3];rfl
 refine ae (sl':=[Rs k,Is p,Is q,Is sg,Ls o,Is S.d,Á]) (st':=t4) ?_ ?_
 ·have li:aR t3 (.ref a') (.int (p:Int))=À (.ref C.length):=by rw[cH (cm R3.ha),cC];exact p3
  simp [cM (df bs B.1),R3.ins,li,dD g3 (show q < (iL (o.map fun x=>- x)).length by simp;lia),fH,V]
 refine ae (sl':=[Rs k,Is p,Is q,Is sg,Ls o,Is S.d,Á]) (st':=t5) ?_ ?_
 ·have xi:aR t4 (.fz (iL o)) (.int (q:Int))=À (.int (gI o q)):=by rw[cH d5,cC,cw oM]
  rw[iO (v:=.int (gI o q)) (st':=t4) (k:=k) (by simp[xi]) (by simp) H.ins rfl,Bh,U]
 have P5:Pb w m { S with d:=gI o q,ls:=((S.ls.map fun l=>chLine l o q sg S.d).set p (o.map fun x=>- x)).set p ((o.map fun x=>- x).set q (sg*S.d)) }:=⟨P4.ls,P4.row,P4.hd,P4.sd⟩;refine ae (sl':=[Rs k,Is p,Is q,Is sg,Ls o,Is S.d,Is (S.s p:Int)]) (st':=t5) ?_ ?_
 ·have:=I.side P5 A
  simp[I.ins,this];rfl
 refine ae (sl':=[Rs k,Is p,Is q,Is sg,Ls o,Is S.d,Is (S.s p:Int)]) (st':=t6) ?_ ?_
 ·have:=I.head P5 hq
  simp [I.ins,this,dD I.hc (show p < (nL S.sd).length by simp [P.sd,A]),T];rw [<- ym];rfl
 refine ae (sl':=[Rs k,Is p,Is q,Is sg,Ls o,Is S.d,Is (S.s p:Int)]) (st':=t7) ?_ rfl;simp [R6.ins,dD R6.hb (show q < (nL S.hd).length by simp [P.hd,hq]),Q,ym]
end
open SX (MI Rais O7 Kept O9)
noncomputable def ins(l:List Nat)(q:Nat):List Nat:=if q∈l then l else l++[q]
section
variable{st:aa}{k a b c g n u w m:Nat}{rows:List AV}{S:Sh}{p q:Nat}
theorem vy(R:Rep st k a b c g n u rows S)(d:S.gd.length<=1000):∃st',aP [.ref k,.int q] st=À (.non,st')/\Rep st' k a b c g n u rows { S with gd:=ins S.gd q }:=by
 refine⟨_,?_,R.guard⟩;simp[aP,aB,iF,R.ins,pZ R.hg d,ins]
theorem sJ(R:Rep st k a b c g n u rows S)(d:S.nl.length<=1000):∃st',dZ [.ref k,.int q] st=À (.non,st')/\Rep st' k a b c g n u rows { S with nl:=ins S.nl q }:=by
 refine⟨_,?_,R.nail⟩;simp[dZ,aB,jn,R.ins,pZ R.hn d,ins]
theorem Fa(R:Rep st k a b c g n u rows S)(P:Pb w m S)(s:w<=100)(d:p<m)(j:S.tn.length<=1000):∃st' rows',cT [.ref k,.int p] st=À (.non,st')/\Rep st' k a b c g n u rows' (SX.trn S p):=by
 have f:=Rep.rowset (p:=p) (x:=.fz (iL ((SX.row S p).map fun x=>- x))) (l:=(SX.row S p).map fun x=>- x) R (.inl rfl) fun r e=>nomatch e
 have R2:=Rep.turned (tn':=if S.s p∈S.tn then S.tn else S.tn++[S.s p]) f;refine⟨_,_,?_,R2⟩;obtain⟨t,i,h⟩:=(R.row p _ (R.rx P d)).it;have o:Pb w m { S with ls:=S.ls.set p ((SX.row S p).map fun x=>- x) }:=⟨(SX.trn_shp P d).ls,(SX.trn_shp P d).row,P.hd,P.sd⟩;rw[cT,aB];unfold fD;refine ae (sl':=[Rs k,Is p]) (st':=st.set a (.lst (rows.set p (.fz (iL ((SX.row S p).map fun x=>- x)))))) ?_ ?_
 ·simp [R.ins,R.line P d,i,bW (show (SX.row S p).length <= 1000 by rw [P.rl d];lia)]
  rw [kF (F:=fun x=>- x) h fun x q=>⟨_,rfl,rfl,by simp⟩];simp [R.ins,dD R.ha (show p < rows.length by rw [R.len,P.ls];exact d)]
 ·have:=f.side o d
  simp[f.ins,this];rw[pZ f.hu j];rfl
theorem JL(R:Rep st k a b c g n u rows S)(P:Pb w m S)(A:w<=100)(r:p<m):∃o:Option Nat,ce [.ref k,.int p] st=À (oN o,st)/\(o=Á->∀j,j<w->S.h j∉S.nl->S.t p j=0)/\∀q,o=À q->q<w/\S.h q∉S.nl/\S.t p q≠0:=by
 have t:(cj S).length<=1000:=by
  unfold cj;rw[zH]
  have:=Ŋ (fun z:Nat×Nat=>!decide (z.1∈S.nl)) S.hd.zipIdx
  rw[Q6,P.hd]at this;lia
 have inl:∀j,j∈(cj S).filter (fun j=>!decide (S.t p j=0)) ↔ (j<w/\S.h j∉S.nl)/\S.t p j≠0:=fun j=>by rw[Ñ,ju P];simp
 have d:∃o:Option Nat,Bx (((cj S).filter fun j=>!decide (S.t p j=0)).map fun j=>((j:Nat):Int))=oN o/\(o=Á->(cj S).filter (fun j=>!decide (S.t p j=0))=[])/\∀q,o=À q->q∈(cj S).filter fun j=>!decide (S.t p j=0):=by
  generalize (cj S).filter (fun j=>!decide (S.t p j=0))=l;cases l with
  |nil=>exact⟨Á,rfl,fun _=>rfl,fun q h=>nomatch h⟩
  |cons x l =>
   have h:=(DD.minF (l.map fun j=>((j:Nat):Int)) (x:Int)).1;rw[<- zO (f:=fun j:Nat=>((j:Nat):Int))]at h;obtain⟨y,v,e⟩:=yC.mp h;refine⟨À y,?_,(fun z=>nomatch z),fun q z=>by cases z;exact v⟩;show AV.int _=AV.int _;rw[e]
 obtain⟨o,D,I,H⟩:=d;refine⟨o,?_,fun e j i E=>ð fun C=>?_,fun q e=>?_⟩
 ·simp[ce,aB,dR,R.ins,R.line P r,vf R P A,nL,bW t]
  rw [gQ (B:=fun j=>!decide (S.t p j=0)) (F:=fun j:Nat=>.int (j:Int)) gk fun j i=>⟨_,rfl,by simp [R.cell P r (show j < w + 1 by have:=(ju P).mp i;lia)],fun _=>rfl⟩];have G:rfs (((cj S).filter fun j=>!decide (S.t p j=0)).map fun j:Nat=>(AV.int (j:Int)))=Â:=kA;have s:=vj (l:=(cj S).filter fun j=>!decide (S.t p j=0));unfold nL at s;simp [G,bY,oJ,lsI,s,D]
 ·have d:=(inl j).mpr ⟨⟨i,E⟩,C⟩
  rw[I e]at d;cases d
 ·have:=(inl q).mp (H q e)
  exact⟨this.1.1,this.1.2,this.2⟩
end
section
variable{st:aa}{k a b c g n u w m:Nat}{rows:List AV}{S:Sh}{p:Nat}{v:Nat->Nat->Int}
structure Bnd(w m:Nat)(v:Nat->Nat->Int):Prop where
 ex:∃M:Nat,1<=M/\(∀q x,x<w+1->(v q x).natAbs<=M)/\SX.fct (w+1)*M^(w+1)<2^2500
 hw:w<=100
 hm:m<=1000
theorem Bnd.bd(H:Bnd w m v)(I:MI w m v S):Bd w m S:=by
 obtain⟨M,c,b,a⟩:=H.ex;exact I.bound c b (F! a (œ dC dC))
theorem Bnd.bd8(H:Bnd w m v)(I:MI w m v S):S.d.natAbs<2^8900/\∀i,i<m->∀j,j<w+1->(S.t i j).natAbs<2^8900:=by
 obtain⟨M,c,b,a⟩:=H.ex;exact I.bound c b (F! a (œ dC dC))
theorem Bnd.bd2(H:Bnd w m v)(I:MI w m v S):S.d.natAbs<2^2500/\∀i,i<m->∀j,j<w+1->(S.t i j).natAbs<2^2500:=by
 obtain⟨M,c,b,a⟩:=H.ex;exact I.bound c b a
def vN(w m:Nat)(v:Nat->Nat->Int)(k b c g n u p:Nat)(S0:Sh)(o:Out):Prop:=∃(S:Sh)(st':aa)(a':Nat)(rows':List AV),Rep st' k a' b c g n u rows' S/\Kept m p S0 S /\
 ((o=.rt (.bl Â) st'/\MI w m v { S with gd:=S.gd++[S0.s p] }/\MI w m v { S with nl:=S.nl++[S0.s p] }) \/
  (o=.rt (.bl Ã) st'/\MI w m v S/\S.s p=S0.s p/\S.t p w<0/\∀j,j<w->S.h j∉S.nl->¬0<S.t p j) \/
  ∃sl,o=.nx sl st'/\MI w m v S/\S.s p=S0.s p/\0<=S0.t p w)
theorem yx(H:Bnd w m v)(R:Rep st k a b c g n u rows S0)(I:MI w m v S0)(j:p<m)(V:S0.s p∉S0.gd)(X:S0.s p∉S0.nl) :
  ∃o,mP (tv [aJ,aI,aY,aL] (.cmp .Lt (.ix (.ix (.fd "Sheet" "lines" (.v 0)) (.v 1)) (.un .USub (.i 1))) (.i 0)))
   (af [aJ,aI,aY,aL] (.cons (.as (.me "Sheet" "raising_column" 0 (.v 0) (.cons (.v 1) .nil)) (.nm 2))
    (.cons (.iff (.cmp .Is (.v 2) .n) (.cons (.rt (.b Ã)) .nil) .nil)
    (.cons (.as (.me "Sheet" "tightest_place" 1 (.v 0) (.cons (.v 2) .nil)) (.nm 3))
    (.cons (.iff (.or (.cmp .Is (.v 3) .n) (.va (.me "Sheet" "is_up_first" 2 (.v 0) (.cons (.v 1) (.cons (.v 3) (.cons (.v 2) .nil)))))) (.cons (.ex (.me "Sheet" "exchange" 3 (.v 0) (.cons (.v 1) (.cons (.v 2) .nil)))) (.cons (.rt (.b Â)) .nil)) .nil)
    (.cons (.ex (.me "Sheet" "exchange" 3 (.v 0) (.cons (.v 3) (.cons (.v 2) .nil)))) .nil)))))) [Rs k,Is p,x,y] st=À o/\vN w m v k b c g n u p S0 o:=by
 refine uy (α:=Sh) (a0:=S0) (I:=fun S U s=>(∃L d x y,U=[Rs k,Is p,x,y]/\Rep s k L b c g n u d S)/\MI w m v S/\Kept m p S0 S/\S.s p=S0.s p/\(S0.t p w<0->S.t p w<0))
  (Q:=fun S T=>MI w m v S/\(∃r q e,SX.Bl w m p (·∈S.gd) (·∈S.nl) r q e (SX.toSt S) (SX.toSt T))/\Kept m p S T) (fun f h0 hf=>SX.no_chain j f hf (by rw[h0];exact V)) (fun S U s hI=>?_) ⟨⟨a,rows,x,y,rfl,R⟩,I,Kept.refl,rfl,id⟩
 obtain⟨⟨L,d,x,y,rfl,R⟩,I,K,sp,Z⟩:=hI;have B:=H.bd I;have P:=I.shp;have t:S.s p∉S.gd:=by rw[sp,K.gd];exact V
 have M:S.s p∉S.nl:=by rw[sp,K.nl];exact X
 have C:tv [aJ,aI,aY,aL] (.cmp .Lt (.ix (.ix (.fd "Sheet" "lines" (.v 0)) (.v 1)) (.un .USub (.i 1))) (.i 0)) [Rs k,Is p,x,y] s=À (decide (S.t p w<0),s):=by
  simp[R.ins,R.line P j,R.last P j]
 by_cases low:S.t p w<0
 ·rw[yV low]at C
  obtain⟨o,J,F⟩:=sD R P H.hw j;cases o with
  |none =>
   left;refine⟨_,rW (v:=.bl Ã) (st2:=s) C ?_,S,s,L,d,R,K,.inr (.inl ⟨rfl,I,sp,low,F.1 rfl⟩)⟩;simp[R.ins,J,oN]
  |some q =>
   obtain⟨E,_,q3,_⟩:=F.2 q rfl;obtain⟨o,O,D⟩:=uF R P B E;have W:S.d≠0:=by have:=I.lin.pos;lia
   have aw:(O7 S w q m Á\/∃r,O7 S w q m (À r)/\S.t p w*S.t r q<=S.t r w*S.t p q)->o=Á\/(∃r,o=À r/\S.t p w*S.t r q<=S.t r w*S.t p q)->∃o,dq (tv [aJ,aI,aY,aL] (.cmp .Lt (.ix (.ix (.fd "Sheet" "lines" (.v 0)) (.v 1)) (.un .USub (.i 1))) (.i 0)))
     (af [aJ,aI,aY,aL] (.cons (.as (.me "Sheet" "raising_column" 0 (.v 0) (.cons (.v 1) .nil)) (.nm 2))
    (.cons (.iff (.cmp .Is (.v 2) .n) (.cons (.rt (.b Ã)) .nil) .nil)
    (.cons (.as (.me "Sheet" "tightest_place" 1 (.v 0) (.cons (.v 2) .nil)) (.nm 3))
    (.cons (.iff (.or (.cmp .Is (.v 3) .n) (.va (.me "Sheet" "is_up_first" 2 (.v 0) (.cons (.v 1) (.cons (.v 3) (.cons (.v 2) .nil)))))) (.cons (.ex (.me "Sheet" "exchange" 3 (.v 0) (.cons (.v 1) (.cons (.v 2) .nil)))) (.cons (.rt (.b Â)) .nil)) .nil)
    (.cons (.ex (.me "Sheet" "exchange" 3 (.v 0) (.cons (.v 3) (.cons (.v 2) .nil)))) .nil)))))) 1 [Rs k,Is p,x,y] s=À o/\vN w m v k b c g n u p S0 o:=fun hT ho=>by
    obtain⟨l,a2,i,G,R2⟩:=pe R P B W H.hw H.hm j E;obtain⟨N,m2,m3⟩:=I.up j t M low F hT;refine⟨_,rW (v:=.bl Â) (st2:=l) C ?_,O9 S p q,l,a2,i,R2,K.trans m3,.inl ⟨rfl,by rw[<- sp];exact N,by rw[<- sp];exact m2⟩⟩;rcases ho with rfl|⟨r,rfl,A⟩
    ·simp[R.ins,J,oN,O,G]
    ·have:=Ch R P B j (D.2 r rfl).1 E
     simp[R.ins,J,oN,O,G,this,fu,b8,dr,A]
   cases o with
   |none=>exact .inl (aw (.inl D) (.inl rfl))
   |some r =>
    by_cases A:S.t p w*S.t r q<=S.t r w*S.t p q
    ·exact .inl (aw (.inr ⟨r,D,A⟩) (.inr ⟨r,rfl,A⟩))
    ·right
     have r1:=(D.2 r rfl).1;obtain⟨l,a2,i,G,R2⟩:=pe R P B W H.hw H.hm r1 E;obtain⟨N,m2,m3,Y⟩:=I.step j t F D;refine⟨O9 S r q,[Rs k,Is p,Is q,Is r],l,⟨I,⟨r,q,_,m2⟩,m3⟩,⟨⟨a2,i,_,_,rfl,R2⟩,N,K.trans m3,Y.trans sp,fun _=>I.low j t F D A⟩,fun n o h=>md C ?_ h⟩
     have:=Ch R P B j r1 E
     simp[R.ins,J,oN,O,G,this,fu,b8,dr,A]
 ·rw[z9 low]at C
  left;exact⟨_,jY C,S,s,L,d,R,K,.inr (.inr ⟨_,rfl,I,sp,by
   rcases yU (S0.t p w) 0 with z|z
   ·exact absurd (Z z) low
   ·exact z⟩)⟩
end
section
variable{st:aa}{k a b c g n u w m:Nat}{rows:List AV}{S:Sh}{p:Nat}{v:Nat->Nat->Int}
theorem yw(H:Bnd w m v)(R:Rep st k a b c g n u rows S0)(I:MI w m v S0)(d:p<m)(s:S0.s p∉S0.gd)(r:S0.s p∉S0.nl) :
  ∃(S:Sh)(st':aa)(a':Nat)(rows':List AV)(bb:Bool),cP [.ref k,.int p] st=À (.bl bb,st')/\Rep st' k a' b c g n u rows' S/\Kept m p S0 S /\
   ((bb=Â/\MI w m v { S with gd:=S.gd++[S0.s p] }/\(S0.t p w<0->MI w m v { S with nl:=S.nl++[S0.s p] })) \/
    (bb=Ã/\MI w m v S/\S.s p=S0.s p/\S.t p w<0/\∀j,j<w->S.h j∉S.nl->¬0<S.t p j)):=by
 by_cases low:S0.t p w<0
 ·obtain⟨o,e,S,st',a',rows',q,K,h⟩:=yx H R I d s r (x:=Á) (y:=Á)
  rcases h with⟨rfl,i,f⟩|⟨rfl,i,f,l,t⟩|⟨A,rfl,i,f,l⟩
  ·refine⟨S,st',a',rows',Â,?_,q,K,.inl ⟨rfl,i,fun _=>f⟩⟩
   simp[cP,aB,eS,e]
  ·refine⟨S,st',a',rows',Ã,?_,q,K,.inr ⟨rfl,i,f,l,t⟩⟩
   simp[cP,aB,eS,e]
  ·lia
 ·refine⟨S0,st,a,rows,Â,?_,R,Kept.refl,.inl ⟨rfl,I.guard d oM,fun z=>absurd z low⟩⟩
  have P:=I.shp;rw[cP,aB];unfold eS;refine ae (sl':=[Rs k,Is p,Á,Á]) (st':=st) (lx (n:=1) (jY (by simp[R.ins,R.line P d,R.last P d,low]))) ?_;simp
theorem ER(H:Bnd w m v)(R:Rep st k a b c g n u rows S0)(I:MI w m v S0)(l:p<m)(A:S0.s p∉S0.gd) :
  ∃r,bM [.ref k,.int p] st=À r/\∃(S:Sh)(a':Nat)(rows':List AV),Rep r.2 k a' b c g n u rows' S/\Kept m p S0 S/\MI w m v S/\S.s p=S0.s p /\
   ((r.1=.non/\Rais w S p Á)\/∃q,r.1=.int ((q:Nat):Int)/\Rais w S p (À q)/\O7 S w q m Á):=by
 rw[bM];simp only[aB];unfold fZ;obtain⟨o,V,i⟩:=sD R I.shp H.hw l;refine ai (sl':=[Rs k,Is p,À (oN o),Á]) (st':=st) (by simp[R.ins,V]) ?_;refine FT (Post:=fun out=>∃(S:Sh)(a':Nat)(rows':List AV)(st':aa),Rep st' k a' b c g n u rows' S/\Kept m p S0 S/\MI w m v S/\S.s p=S0.s p /\
   ((∃j,out=.nx j st'/\Rais w S p Á)\/∃q,out=.rt (.int ((q:Nat):Int)) st'/\Rais w S p (À q)/\O7 S w q m Á))
  (uy (α:=Sh) (a0:=S0) (I:=fun S j s=>(∃a' rows' x o,j=[Rs k,Is p,À (oN o),x]/\Rep s k a' b c g n u rows' S/\Rais w S p o)/\MI w m v S/\Kept m p S0 S/\S.s p=S0.s p)
   (Q:=fun S T=>MI w m v S/\(∃r q e,SX.Bl w m p (·∈S.gd) (·∈S.nl) r q e (SX.toSt S) (SX.toSt T))/\Kept m p S T) (fun f N J=>SX.no_chain l f J (by rw[N];exact A)) (fun S j s L=>?_) ⟨⟨a,rows,Á,o,rfl,R,i⟩,I,Kept.refl,rfl⟩) ?_
 ·obtain⟨⟨a',rows',x,o,rfl,R,i⟩,I,K,sp⟩:=L
  have B:=H.bd I;have P:=I.shp;have t:S.s p∉S.gd:=by rw[sp,K.gd];exact A
  cases o with
  |none =>
   left;exact⟨_,jY (st':=s) (by simp[oN]),S,a',rows',s,R,K,I,sp,.inl ⟨_,rfl,i⟩⟩
  |some q =>
   obtain⟨z,_,X,_⟩:=i.2 q rfl;obtain⟨o,D,y⟩:=uF R P B z;cases o with
   |none =>
    left;refine⟨_,rW (v:=.int q) (st':=s) (st2:=s) (by simp[oN]) ?_,S,a',rows',s,R,K,I,sp,.inr ⟨q,rfl,i,y⟩⟩;simp[R.ins,oN,D]
   |some r =>
    right;have W:S.d≠0:=by have:=I.lin.pos;lia
    have r1:=(y.2 r rfl).1;obtain⟨st',a2,d,U,R2⟩:=pe R P B W H.hw H.hm r1 z;obtain⟨C,m2,m3,G⟩:=I.step l t i y;obtain⟨o,O,M⟩:=sD R2 C.shp H.hw l;refine⟨O9 S r q,[Rs k,Is p,À (oN o),Is r],st',⟨I,⟨r,q,_,m2⟩,m3⟩,⟨⟨a2,d,_,o,rfl,R2,M⟩,C,K.trans m3,G.trans sp⟩,fun n Y h=>md (st':=s) (by simp[oN]) ?_ h⟩;simp[R.ins,oN,D,U,R2.ins,O]
 ·rintro out ⟨S,a',rows',st',E,K,F,sp,⟨j,rfl,h⟩|⟨q,rfl,h⟩⟩
  ·exact⟨(.non,st'),by simp,S,a',rows',E,K,F,sp,.inl ⟨rfl,h⟩⟩
  ·exact⟨(.int q,st'),by simp,S,a',rows',E,K,F,sp,.inr ⟨q,rfl,h⟩⟩
end
structure Kj(m p:Nat)(S T:Sh):Prop where
 tn:T.tn=S.tn\/T.tn=S.tn++[S.s p]
 si:∀i,i<m->i≠p->S.s i∉S.gd->T.s i=S.s i
section
variable{st:aa}{k a b c g n u w m:Nat}{rows:List AV}{S:Sh}{p:Nat}{v:Nat->Nat->Int}
theorem JX(H:Bnd w m v)(R:Rep st k a b c g n u rows S0)(I:MI w m v S0)(i:p<m)(r:S0.s p∉S0.gd)(t:S0.s p∉S0.nl)(x:S0.gd.length<=1000) :
  ∃(S:Sh)(st':aa)(a':Nat)(rows':List AV)(bb:Bool),bO [.ref k,.int p] st=À (.bl bb,st')/\Rep st' k a' b c g n u rows' S/\Kj m p S0 S/\S.tn=S0.tn/\S.nl=S0.nl/\MI w m v S /\
   ((bb=Â/\S.gd=S0.gd++[S0.s p])\/(bb=Ã/\S.gd=S0.gd/\S.s p=S0.s p/\S.t p w<0/\∀j,j<w->S.h j∉S.nl->¬0<S.t p j)):=by
 have P:=I.shp;obtain⟨S,f,a1,d,bb,s,o,K,h⟩:=yw H R I i r t;rcases h with⟨rfl,l,_⟩|⟨rfl,l,y⟩
 ·obtain⟨e,A,R2⟩:=vy (q:=S0.s p) o (by rw[K.gd];exact x)
  have z:ins S.gd (S0.s p)=S.gd++[S0.s p]:=yG (by rw[K.gd];exact r);rw[z]at R2;refine⟨{ S with gd:=S.gd++[S0.s p] },e,a1,d,Â,?_,R2,⟨.inl K.tn,K.si⟩,K.tn,K.nl,l,.inl ⟨rfl,by rw[K.gd]⟩⟩;simp[bO,aB,fc,R.ins,R.side P i,s,fu,b8,dr,o.ins,A]
 ·refine⟨S,f,a1,d,Ã,?_,o,⟨.inl K.tn,K.si⟩,K.tn,K.nl,l,.inr ⟨rfl,K.gd,y⟩⟩
  simp[bO,aB,fc,R.ins,R.side P i,s,fu,b8,dr]
theorem JY(H:Bnd w m v)(R:Rep st k a b c g n u rows S0)(I:MI w m v S0)(f:p<m)(ng:S0.s p∉S0.gd)(J:S0.s p∉S0.nl)(nt:S0.s p∉S0.tn)(X:S0.nl.length<=1000)(W:S0.tn.length<=1000) :
  ∃(S:Sh)(st':aa)(a':Nat)(rows':List AV)(bb:Bool),cL [.ref k,.int p] st=À (.bl bb,st')/\Rep st' k a' b c g n u rows' S/\Kj m p S0 S/\S.gd=S0.gd/\MI w m v S /\
   ((bb=Â/\S.nl=S0.nl++[S0.s p])\/(bb=Ã/\S.nl=S0.nl/\S.s p=S0.s p/\S.t p w<0/\∀j,j<w->S.h j∉S.nl->¬0<S.t p j)):=by
 have P:=I.shp
 have s1:∃(d:Sh)(t:aa)(e:List AV),cW [cT,cP,ce,aL,dZ] (.iff (.cmp .Gt (.ix (.ix (.fd "Sheet" "lines" (.v 0)) (.v 1)) (.un .USub (.i 1))) (.i 0)) (.cons (.ex (.me "Sheet" "turn_line" 0 (.v 0) (.cons (.v 1) .nil))) .nil) .nil) [Rs k,Is p,Is (S0.s p:Int),Á] st=À (.nx [Rs k,Is p,Is (S0.s p:Int),Á] t) /\
   Rep t k a b c g n u e d/\MI w m v d/\d.gd=S0.gd/\d.nl=S0.nl/\(d.tn=S0.tn\/d.tn=S0.tn++[S0.s p])/\d.sd=S0.sd/\d.t p w<=0:=by
  by_cases h:0<S0.t p w
  ·obtain⟨t,e,Y,s⟩:=Fa R P H.hw f W
   refine⟨SX.trn S0 p,t,e,?_,s,I.turn f ng J nt,rfl,rfl,.inr (yG nt),rfl,?_⟩
   ·simp[R.ins,R.line P f,R.last P f,h,Y]
   ·rw[(SX.trn_t P f).1 w oM];lia
  ·refine⟨S0,st,rows,?_,R,I,rfl,rfl,.inl rfl,rfl,by lia⟩
   simp[R.ins,R.line P f,R.last P f,h]
 refine g_ fun G bk=>?_
 obtain⟨d,t,e,Y,s,E,g1,y,t1,d1,low1⟩:=s1;have B:∀i,d.s i=S0.s i:=fun i=>by show d.sd.getD i 0=S0.sd.getD i 0;rw[d1]
 have z:=E.shp;have U:d.s p∉d.nl:=by rw[B,y];exact J
 have V:d.s p∉d.gd:=by rw[B,g1];exact ng
 have D:∀T:Sh,Kept m p d T->Kj m p S0 T:=fun T K=>⟨by rw[K.tn];exact t1,fun i hi ne h=>by rw[K.si i hi ne (by rw[B,g1];exact h),B]⟩
 have hd:∀{r:AV×aa},(af [cT,cP,ce,aL,dZ] (.cons (.iff (.cmp .Lt (.ix (.ix (.fd "Sheet" "lines" (.v 0)) (.v 1)) (.un .USub (.i 1))) (.i 0)) (.cons (.iff (.no (.va (.me "Sheet" "lift" 1 (.v 0) (.cons (.v 1) .nil)))) (.cons (.rt (.b Ã)) .nil) .nil) .nil)
   (.cons (.as (.me "Sheet" "moving_column" 2 (.v 0) (.cons (.v 1) .nil)) (.nm 3)) (.cons (.iff (.cmp .IsNot (.v 3) .n) (.cons (.ex (.me "Sheet" "exchange" 3 (.v 0) (.cons (.v 1) (.cons (.v 3) .nil)))) .nil) .nil) .nil)))
   (.cons (.ex (.me "Sheet" "nail" 4 (.v 0) (.cons (.v 2) .nil))) (.cons (.rt (.b Â)) .nil))) [Rs k,Is p,Is (S0.s p:Int),Á] t).bind aw=À r->cL [.ref k,.int p] st=À r:=fun h=>by
  rw[cL,aB];unfold jU;exact ae (sl':=[Rs k,Is p,Is (S0.s p:Int),Á]) (st':=st) (by simp[R.ins,R.side P f]) (ae Y h)
 by_cases low:d.t p w<0
 ·obtain⟨S,F,a2,l,bb,O,R2,K,h⟩:=yw H s E f V U
  rcases h with⟨rfl,Q,A⟩|⟨rfl,Q,A⟩
  ·obtain⟨x,N,C⟩:=sJ (q:=S0.s p) R2 (by rw[K.nl,y];exact X)
   have M:ins S.nl (S0.s p)=S.nl++[S0.s p]:=yG (by rw[K.nl,y];exact J);rw[M]at C;have A:=A low;rw[B]at A;refine bk ⟨{ S with nl:=S.nl++[S0.s p] },x,a2,l,Â,hd ?_,C,⟨(D S K).tn,(D S K).si⟩,K.gd.trans g1,A,.inl ⟨rfl,by rw[K.nl,y]⟩⟩;simp[s.ins,s.line z f,s.last z f,low,O,fu,b8,dr,R2.ins,N]
  ·refine bk ⟨S,F,a2,l,Ã,hd ?_,R2,D S K,K.gd.trans g1,Q,.inr ⟨rfl,K.nl.trans y,A.1.trans (B p),A.2⟩⟩
   simp[s.ins,s.line z f,s.last z f,low,O,fu,b8,dr]
 ·have z0:d.t p w=0:=by lia
  obtain⟨o,O,Q,A⟩:=JL s z H.hw f;cases o with
  |none =>
   obtain⟨x,N,C⟩:=sJ (q:=S0.s p) s (by rw[y];exact X);have M:ins d.nl (S0.s p)=d.nl++[S0.s p]:=yG (by rw[y];exact J);rw[M]at C;have L:=E.nail f z0 (Q rfl);rw[B]at L;refine bk ⟨{ d with nl:=d.nl++[S0.s p] },x,a,e,Â,hd ?_,C,⟨(D d Kept.refl).tn,(D d Kept.refl).si⟩,g1,L,.inl ⟨rfl,by rw[y]⟩⟩;simp[s.ins,s.line z f,s.last z f,z0,O,oN,N]
  |some q =>
   obtain⟨Z,q2,q3⟩:=A q rfl;have d0:d.d≠0:=by have:=E.lin.pos;lia
   obtain⟨F,a2,l,e4,R2⟩:=pe s z (H.bd E) d0 H.hw H.hm f Z;obtain⟨x,N,C⟩:=sJ (q:=S0.s p) R2 (by show d.nl.length<=1000;rw[y];exact X);have M:ins (O9 d p q).nl (S0.s p)=d.nl++[S0.s p]:=yG (by show S0.s p∉d.nl;rw[y];exact J);rw[M]at C;obtain⟨L,K⟩:=E.move f Z q2 z0 q3;rw[B]at L;refine bk ⟨{ O9 d p q with nl:=d.nl++[S0.s p] },x,a2,l,Â,hd ?_,C,⟨(D _ K).tn,(D _ K).si⟩,g1,L,.inl ⟨rfl,by rw[y]⟩⟩;simp[s.ins,s.line z f,s.last z f,z0,O,oN,e4,R2.ins,N]
end
open SX (openS)
structure Gv where
 row:List Int
 eq:Bool
 num:Int
def Gv.av(x:Gv):AV:=.tup [.fz (iL x.row),.str (if x.eq then "=" else ">"),.int x.num]
def ak(RR:List (List Int))(gv:List Gv)(goal:List Int):List (List Int):=RR.map (·++[0])++gv.map (fun x=>x.row++[-x.num])++[goal.map (fun x=>- x)++[0]]
section
variable{w:Nat}{L RR:List (List Int)}{gv:List Gv}{goal:List Int}
abbrev qL:List (Í×AV):=[("below",.int 1)]
abbrev Ik:List (Í×AV):=[("below",.int 1),("lines",.ref 2)]
abbrev Ij:List (Í×AV):=[("below",.int 1),("lines",.ref 2),("heads",.ref 3)]
abbrev Ii:List (Í×AV):=[("below",.int 1),("lines",.ref 2),("heads",.ref 3),("sides",.ref 4)]
abbrev Ih:List (Í×AV):=[("below",.int 1),("lines",.ref 2),("heads",.ref 3),("sides",.ref 4),("guarded",.ref 5)]
abbrev Ig:List (Í×AV):=[("below",.int 1),("lines",.ref 2),("heads",.ref 3),("sides",.ref 4),("guarded",.ref 5),("nailed",.ref 6)]
abbrev Ng(w:Nat)(L:List (List Int)):aa:=[.lst (aG L),.ins "Sheet" (db 1 2 3 4 5 6 7),.lst (aG L),.lst (nL (Ä w)),.lst (nL ((Ä L.length).map (w+·))),.dK [],.dK [],.dK []]
theorem HK(i:w<=100)(m:L.length<=400):aH [.ref 1,.int w,.ref 0] [.lst (aG L),.ins "Sheet" []]=À (.non,[.lst (aG L),.ins "Sheet" (db 1 2 3 4 5 6 7),.lst (aG L),.lst (nL (Ä w)),.lst (nL ((Ä L.length).map (w+·))),.dK [],.dK [],.dK []]):=by
 have b:mN (w:Int)=Â:=by unfold mN;simp;lia
 have a:mN ((w:Int)+(L.length:Int))=Â:=by unfold mN;simp;lia
 have c:∀X:aa,b8 (.lst (aG L)::X) (.ref 0)=À (aG L):=fun X=>cm rfl
 rw[aH,aB];unfold f7;refine ae (st':=[.lst (aG L),.ins "Sheet" qL]) (iO (v:=.int 1) (st':=[.lst (aG L),.ins "Sheet" []]) (k:=1) (fs:=[]) rfl rfl rfl rfl) ?_;refine ae (st':=[.lst (aG L),.ins "Sheet" Ik,.lst (aG L)]) (iO (v:=.ref 2) (st':=[.lst (aG L),.ins "Sheet" qL,.lst (aG L)]) (k:=1) (fs:=qL) ?_ rfl rfl rfl) ?_
 ·have e:=wO (gd:=[(0,.lst (aG L))]) (g:=cB [] (.nm 3)) (t:=jC [] .no) (f:=ev [] (.nw Ã (.lof (.v 3)))) (sl:=[Rs 1,Is w,Rs 0,Á]) (st:=[.lst (aG L),.ins "Sheet" qL]) (em:=fun l=>.fz (iL l)) (F:=fun l=>l) (xs:=L) (gR rfl) fun l j=>⟨_,rfl,rfl,by simp[nT]⟩
  rw [List.map_id'] at e;have h:im [(0,.lst (aG L))] (cB [] (.nm 3)) (jC [] .no) (ev [] (.nw Ã (.lof (.v 3)))) [Rs 1,Is w,Rs 0,Á] (aG L) [.lst (aG L),.ins "Sheet" qL]=À (aG L,[.lst (aG L),.ins "Sheet" qL]):=e;have d:oQ [.lst (aG L),.ins "Sheet" qL] (.ref 0)=À ⟨aG L,[(0,.lst (aG L))]⟩:=p0 rfl;show ev [] (.nw Â (.lc 1 (.e (.v 2)) (.nm 3) .no (.nw Ã (.lof (.v 3))))) [Rs 1,Is w,Rs 0] [.lst (aG L),.ins "Sheet" qL]=_;simp [-aG,d,bW (show L.length <= 1000 by lia),h]
 refine ae (st':=[.lst (aG L),.ins "Sheet" Ij,.lst (aG L),.lst (nL (Ä w))]) (iO (v:=.ref 3) (st':=[.lst (aG L),.ins "Sheet" Ik,.lst (aG L),.lst (nL (Ä w))]) (k:=1) (fs:=Ik) ?_ rfl rfl rfl) ?_
 ·simp[pW,b,ms]
 refine ae (st':=[.lst (aG L),.ins "Sheet" Ii,.lst (aG L),.lst (nL (Ä w)),.lst (nL ((Ä L.length).map (w+·)))]) (iO (v:=.ref 4) (st':=[.lst (aG L),.ins "Sheet" Ij,.lst (aG L),.lst (nL (Ä w)),.lst (nL ((Ä L.length).map (w+·)))]) (k:=1) (fs:=Ij) ?_ rfl rfl rfl) ?_
 ·simp[wB,b,a,bY,dj,c]
  have e:((w:Int)+(L.length:Int)).toNat-w=L.length:=by lia
  rw[e,Jd,yH oM];simp
 refine ae (st':=[.lst (aG L),.ins "Sheet" Ih,.lst (aG L),.lst (nL (Ä w)),.lst (nL ((Ä L.length).map (w+·))),.dK []]) (iO (v:=.ref 5) (st':=[.lst (aG L),.ins "Sheet" Ii,.lst (aG L),.lst (nL (Ä w)),.lst (nL ((Ä L.length).map (w+·))),.dK []]) (k:=1) (fs:=Ii) rfl rfl rfl rfl) ?_;refine ae (st':=[.lst (aG L),.ins "Sheet" Ig,.lst (aG L),.lst (nL (Ä w)),.lst (nL ((Ä L.length).map (w+·))),.dK [],.dK []]) (iO (v:=.ref 6) (st':=[.lst (aG L),.ins "Sheet" Ih,.lst (aG L),.lst (nL (Ä w)),.lst (nL ((Ä L.length).map (w+·))),.dK [],.dK []]) (k:=1) (fs:=Ih) rfl rfl rfl rfl) ?_;refine ae (st':=[.lst (aG L),.ins "Sheet" (db 1 2 3 4 5 6 7),.lst (aG L),.lst (nL (Ä w)),.lst (nL ((Ä L.length).map (w+·))),.dK [],.dK [],.dK []]) (iO (v:=.ref 7) (st':=[.lst (aG L),.ins "Sheet" Ig,.lst (aG L),.lst (nL (Ä w)),.lst (nL ((Ä L.length).map (w+·))),.dK [],.dK [],.dK []]) (k:=1) (fs:=Ig) rfl rfl rfl rfl) ?_;rfl
theorem Km{k:Nat}(g:ev ks a sl st=À (.ref k,st))(f:ev ks e sl st=À (y,st))(b:st[k]?=À (.lst xs))(d:b8 st y=À ys)(c:xs.length+ys.length<=1000):ev ks (.mt .ext a (.cons e .nil)) sl st=À (.non,st.set k (.lst (xs++ys))):=by
 simp[lX,qB,qA,g,qt,cm b,f,wJ,gC,b,d,bW c]
theorem KP{k:Nat}(f:ev ks a sl st=À (.ref k,st))(d:ev ks e sl st=À (y,st))(b:st[k]?=À (.lst xs))(c:xs.length<=1000):ev ks (.mt .app a (.cons e .nil)) sl st=À (.non,st.set k (.lst (xs++[y]))):=by
 simp[lX,qB,qA,f,qt,cm b,d,sR,gC,b,bW c]
theorem G1{n:Int}(P:∀st,pm aT [.int n] st=À (.fz (aG RR),st))(B:∀st,pm ao [.int n] st=À (.int w,st))(Q:w<=15)(T:RR.length<=100)(H:∀l∈RR,l.length=w)(S:gv.length<=100)(d:∀x∈gv,x.row.length=w)(j:goal.length=w) :
  ∃st',b9 [.int n,.fz (gv.map Gv.av),.fz (iL goal)] []=À (.ref 1,st')/\Rep st' 1 2 3 4 5 6 7 (aG (ak RR gv goal)) (openS w (ak RR gv goal) (w+RR.length)):=by
 have U:(ak RR gv goal).length=RR.length+gv.length+1:=by simp[ak];lia
 have O:Rep [.lst (aG (ak RR gv goal)),.ins "Sheet" (db 1 2 3 4 5 6 7),.lst (aG (ak RR gv goal)),.lst (nL (Ä w)),.lst (nL ((Ä (ak RR gv goal).length).map (w+·))),.dK [],.dK [],.dK []] 1 2 3 4 5 6 7 (aG (ak RR gv goal)) (openS w (ak RR gv goal) 0):=by
  refine⟨rfl,rfl,rfl,rfl,rfl,rfl,rfl,by simp[openS],fun i x h=>.inl ?_,by decide,by decide,by decide,by decide,by decide,by decide,fun i r h=>?_⟩
  ·unfold aG at h
   rw[zR]at h;obtain⟨l,u,rfl⟩:=zE.mp h;show _=AV.fz (iL ((ak RR gv goal).getD i []));rw[zD,u];rfl
  ·unfold aG at h
   rw[zR]at h;obtain⟨l,u,m⟩:=zE.mp h;cases m
 obtain⟨sl',st',e,x,rfl,A⟩:=fb (gd:=[]) (g:=cB [aT,ao,aH,aP] (.nm 6)) (s:=af [aT,ao,aH,aP] (.cons (.ex (.me "Sheet" "guard" 3 (.v 5) (.cons (.v 6) .nil))) .nil))
  (I:=fun i sl s=>∃x,sl=[Is n,Zs (gv.map Gv.av),Ls goal,Rs 0,Is ((w:Int)+(RR.length:Int)),Rs 1,x]/\Rep s 1 2 3 4 5 6 7 (aG (ak RR gv goal)) (openS w (ak RR gv goal) i)) (xs:=dF 0 (w+RR.length)) (fun _ _ _ _ _=>rfl)
  (fun i y sl s a K=>by
   obtain⟨x,rfl,R⟩:=K;rw[ms]at a;have p:i<w+RR.length:=by have:=(zB.mp a).1;simpa using this
   have M:y=.int ((i:Nat):Int):=by
    rw[iW (by simpa using p)]at a;injection a with a;rw[<- a];simp[zD,p]
   subst M;obtain⟨C,N,z⟩:=vy (q:=i) R (by simp[openS];lia);refine⟨_,[Is n,Zs (gv.map Gv.av),Ls goal,Rs 0,Is ((w:Int)+(RR.length:Int)),Rs 1,Is ((i:Nat):Int)],C,rfl,?_,_,rfl,?_⟩
   ·simp[R.ins,N]
   ·have:ins (Ä i) i=Ä (i+1):=by unfold ins;rw[yG (by simp),V?]
    have m:{ openS w (ak RR gv goal) i with gd:=ins (openS w (ak RR gv goal) i).gd i }=openS w (ak RR gv goal) (i+1):=by show Sh.mk _ _ _ _ (ins (Ä i) i) _ _=_;rw[this];rfl
    rw[m]at z;exact z) (sl:=[Is n,Zs (gv.map Gv.av),Ls goal,Rs 0,Is ((w:Int)+(RR.length:Int)),Rs 1,Á]) (st:=_) ⟨Á,rfl,O⟩
 have E:(dF 0 (w+RR.length)).length=w+RR.length:=by rw[ms];simp
 rw[E]at A;refine⟨st',?_,A⟩;rw[b9,aB];unfold gF;refine ae (sl':=[Is n,Zs (gv.map Gv.av),Ls goal,Rs 0,Á,Á,Á]) (st':=[.lst (aG (RR.map (·++[0])))]) ?_ ?_
 ·have c:=wO (gd:=[]) (g:=cB [aT,ao,aH,aP] (.nm 7)) (t:=jC [aT,ao,aH,aP] .no) (f:=ev [aT,ao,aH,aP] (.nw Ã (.cat (.v 7) (.nw Ã (.li (.cons (.i 0) .nil))))))
   (sl:=[Is n,Zs (gv.map Gv.av),Ls goal,Á,Á,Á,Á,Á]) (st:=[]) (em:=fun l=>.fz (iL l)) (F:=fun l=>l++[0]) (xs:=RR) rfl fun l J=>⟨_,rfl,rfl,by
    rw[fR,kn (l:=l) (l':=[0]) (s1:=[]) (s2:=[]) (y:=.fz (iL [0])) rfl (by simp[cA,iL]) rfl rfl (by rw[H l J];simp;lia)];simp⟩
  have b:im [] (cB [aT,ao,aH,aP] (.nm 7)) (jC [aT,ao,aH,aP] .no) (ev [aT,ao,aH,aP] (.nw Ã (.cat (.v 7) (.nw Ã (.li (.cons (.i 0) .nil)))))) [Is n,Zs (gv.map Gv.av),Ls goal,Á,Á,Á,Á,Á] (aG RR) []=À (aG (RR.map (·++[0])),[]):=c;simp [P,bW (show RR.length <= 1000 by lia),b]
 have G:∀(x:List AV)(X:aa),b8 (.lst x::X) (.ref 0)=À x:=fun x X=>cm rfl
 refine ae (sl':=[Is n,Zs (gv.map Gv.av),Ls goal,Rs 0,Is ((w:Int)+(RR.length:Int)),Á,Á]) (st':=[.lst (aG (RR.map (·++[0])))]) (by simp[B,bY,dj,G]) ?_;refine ae (sl':=[Is n,Zs (gv.map Gv.av),Ls goal,Rs 0,Is ((w:Int)+(RR.length:Int)),Á,Á]) (st':=[.lst (aG (RR.map (·++[0]))++aG (gv.map fun x=>x.row++[-x.num]))]) ?_ ?_
 ·rw[FQ,Km (k:=0) (xs:=aG (RR.map (·++[0]))) (ys:=aG (gv.map fun x=>x.row++[-x.num])) (y:=.fz (aG (gv.map fun x=>x.row++[-x.num]))) rfl ?_ rfl rfl (by simp;lia)]
  ·rfl
  ·have c:=wO (gd:=[]) (g:=cB [aT,ao,aH,aP] (.tu 3 (.cons (.nm 7) (.cons (.nm 8) (.cons (.nm 9) .nil))))) (t:=jC [aT,ao,aH,aP] .no) (f:=ev [aT,ao,aH,aP] (.nw Ã (.cat (.nw Ã (.lof (.v 7))) (.nw Ã (.li (.cons (.un .USub (.v 9)) .nil))))))
    (sl:=[Is n,Zs (gv.map Gv.av),Ls goal,Rs 0,Is ((w:Int)+(RR.length:Int)),Á,Á,Á,Á,Á]) (st:=[.lst (aG (RR.map (·++[0])))]) (em:=Gv.av) (F:=fun x=>x.row++[-x.num]) (xs:=gv) rfl fun x o=>⟨_,rfl,rfl,by
     rw[fR,kn (l:=x.row) (l':=[-x.num]) (s1:=[.lst (aG (RR.map (·++[0])))]) (s2:=[.lst (aG (RR.map (·++[0])))]) (x:=.fz (iL x.row)) (y:=.fz (iL [-x.num])) (by simp[nT]) (by simp[cA,iL]) rfl rfl (by rw[d x o];simp;lia)];simp⟩
   simp [bW (show gv.length <= 1000 by lia),c]
 refine ae (sl':=[Is n,Zs (gv.map Gv.av),Ls goal,Rs 0,Is ((w:Int)+(RR.length:Int)),Á,Á]) (st':=[.lst (aG (ak RR gv goal))]) ?_ ?_
 ·rw[FQ,KP (k:=0) (xs:=aG (RR.map (·++[0]))++aG (gv.map fun x=>x.row++[-x.num])) (y:=.fz (iL (goal.map (fun x=>- x)++[0]))) rfl ?_ rfl (by simp;lia)]
  ·rw[Æ]
   have:aG (RR.map (·++[0]))++aG (gv.map fun x=>x.row++[-x.num])++[AV.fz (iL (goal.map (fun x=>- x)++[0]))]=aG (ak RR gv goal):=by
    simp[ak,aG]
   show À (Out.nx _ [.lst (_++[_])])=_;rw[this]
  ·rw[fR,kn (l:=goal.map fun x=>- x) (l':=[0]) (s1:=[.lst (aG (RR.map (·++[0]))++aG (gv.map fun x=>x.row++[-x.num]))]) (s2:=[.lst (aG (RR.map (·++[0]))++aG (gv.map fun x=>x.row++[-x.num]))]) (x:=.fz (iL (goal.map fun x=>- x))) (y:=.fz (iL [0])) ?_ (by simp[cA,iL]) rfl rfl (by simp[j];lia)]
   ·simp
   ·simp [bW (show goal.length <= 1000 by lia)]
    rw[kF (F:=fun x=>- x) gk fun x o=>⟨_,rfl,rfl,by simp⟩];simp
 refine ae (sl':=[Is n,Zs (gv.map Gv.av),Ls goal,Rs 0,Is ((w:Int)+(RR.length:Int)),Rs 1,Á]) (st':=Ng w (ak RR gv goal)) ?_ ?_
 ·have:=HK (w:=w) (L:=ak RR gv goal) oM oM
  simp[Al,B,this]
 ·refine ae (sl':=[Is n,Zs (gv.map Gv.av),Ls goal,Rs 0,Is ((w:Int)+(RR.length:Int)),Rs 1,x]) (st':=st') ?_ (by simp)
  have D:fx ((w:Int)+(RR.length:Int))=Â:=by
   unfold fx;refine yK ?_;have:((w:Int)+(RR.length:Int)).natAbs=w+RR.length:=by lia
   rw[this];by_cases v:w+RR.length=0
   ·rw[v];decide
   ·exact yY ((Ċ v).mpr oM)
  simp[CJ,D];rw[show((w:Int)+(RR.length:Int)).toNat=w+RR.length by lia];exact e
end
noncomputable def gL(l:List Int):Nat:=l.foldl (fun g x=>ú g x.natAbs) 0
def aq(l:List Int):List Int:=if gL l=0 then l else l.map fun x=>x/(gL l:Int)
theorem BO{d o:Nat}:ú o (d%o)=ú d o:=by rw[Z',<- Nat.gcd_rec,Z']
theorem NB:∀(o d:Nat)(y:Option AV),∃y',cW [] (.wh (.cmp .NotEq (.v 3) (.i 0)) (.cons (.as (.bin .Mod (.v 1) (.v 3)) (.nm 4)) (.cons (.as (.v 3) (.nm 1)) (.cons (.as (.v 4) (.nm 3)) .nil)))) [l,Is d,x,Is o,y] st=À (.nx [l,Is (ú d o:Nat),x,Is 0,y'] st):=by
 intro o
 induction o using Nat.strongRecOn with
 |_ o ih =>
  intro d y;by_cases h:o=0
  ·subst h
   refine⟨y,?_⟩;rw[Nat.gcd_zero_right];exact lx (n:=1) (jY (by simp))
  ·obtain⟨y',e⟩:=ih (d%o) (T! _ oM) o (À (.int ((d%o:Nat):Int)))
   obtain⟨n,a⟩:=ye e;refine⟨y',?_⟩;rw[BO]at a;refine lx (n:=n+1) (md (st':=st) (by simp;lia) ?_ a);have c:(o:Int)≠0:=by lia
   have b:o9 (d:Int) (o:Int)=((d%o:Nat):Int):=by unfold o9;rw[yH oM];simp
   simp[pB c,b]
theorem zq:gL (a++b)=b.foldl (fun g x=>ú g x.natAbs) (gL a):=by unfold gL;rw[ϟ]
theorem tH:∀b:List Int,b.foldl (fun g x=>ú g x.natAbs) 1=1
 |[]=>rfl
 |x::b=>by rw[â,Nat.gcd_one_left];exact tH b
theorem MJ:∃r,cY [.fz (iL l)] st=À (r,st)/\r=.int (gL l:Int):=by
 have o:=kh (gd:=[]) (g:=cB [] (.nm 2)) (s:=af [] (.cons (.as (.bi .abs (.cons (.v 2) .nil)) (.nm 3)) (.cons (.wh (.cmp .NotEq (.v 3) (.i 0)) (.cons (.as (.bin .Mod (.v 1) (.v 3)) (.nm 4)) (.cons (.as (.v 3) (.nm 1)) (.cons (.as (.v 4) (.nm 3)) .nil)))) (.cons (.iff (.cmp .Eq (.v 1) (.i 1)) (.cons (.rt (.i 1)) .nil) .nil) .nil))))
  (I:=fun i sl s=>s=st/\∃x y z,sl=[Ls l,Is (gL (l.take i):Nat),x,y,z]) (Post:=fun v s=>s=st/\v=.int (gL l:Nat)) (xs:=iL l) (fun _ _ _ _ _=>rfl)
  (fun i x sl s b q=>by
   obtain⟨rfl,u,k,c,rfl⟩:=q;have f:i<l.length:=by have:=(zB.mp b).1;simpa using this
   rw[cw f]at b;injection b with b;subst b;have n:l.take (i+1)=l.take i++[gI l i]:=by
    rw[W!,zF f];unfold gI;rw[zD,zF f];rfl
   have p:gL (l.take (i+1))=ú (gL (l.take i)) (gI l i).natAbs:=by rw[n,zq];rfl
   obtain⟨j,e⟩:=NB (l:=À (.fz (iL l))) (x:=À (.int (gI l i))) (st:=s) (gI l i).natAbs (gL (l.take i)) c;rw[<- p]at e;have t:qk s [.int (gI l i)]=À (.int ((gI l i).natAbs:Nat)):=by
    show À (AV.int (if gI l i<0 then-gI l i else gI l i))=_;congr 2;split<;>lia
   have a:cW [] (.as (.bi .abs (.cons (.v 2) .nil)) (.nm 3)) [Ls l,Is (gL (l.take i):Nat),Is (gI l i),k,c] s=À (.nx [Ls l,Is (gL (l.take i):Nat),Is (gI l i),Is ((gI l i).natAbs:Nat),c] s):=by
    simp[bY,t]
   by_cases h:gL (l.take (i+1))=1
   ·refine⟨_,.rt (.int 1) s,rfl,ay a (ay e ?_),.inr ⟨_,s,rfl,rfl,?_⟩⟩
    ·simp[h]
    ·have:gL l=1:=by
      have:l=l.take (i+1)++l.drop (i+1):=(F? _ _).symm;rw[this,zq,h,tH]
     rw[this];rfl
   ·refine⟨_,.nx [Ls l,Is (gL (l.take (i+1)):Nat),Is (gI l i),Is 0,j] s,rfl,ay a (ay e ?_),.inl ⟨_,s,rfl,rfl,_,_,_,rfl⟩⟩
    have:¬((gL (l.take (i+1)):Nat):Int)=1:=by lia
    simp[this]) (sl:=[Ls l,Is 0,Á,Á,Á]) (st:=st) ⟨rfl,Á,Á,Á,rfl⟩
 rcases o with⟨m,d,e,rfl,x,y,z,rfl⟩|⟨v,d,e,rfl,rfl⟩
 ·refine⟨_,?_,rfl⟩
  rw[io,Ĭ]at e;simp[cY,aB,d7,e]
 ·refine⟨_,?_,rfl⟩
  simp[cY,aB,d7,e]
theorem zp:∀x∈l,gL l ∣ x.natAbs:=by
 have f:∀(b:List Int)(g:Nat),(b.foldl (fun g x=>ú g x.natAbs) g) ∣ g/\∀x∈b,(b.foldl (fun g x=>ú g x.natAbs) g) ∣ x.natAbs:=fun b=>by
  induction b with
  |nil=>intro g;exact⟨Nat.dvd_refl g,fun x a=>by cases a⟩
  |cons y b d =>
   intro g;obtain⟨c,e⟩:=d (ú g y.natAbs);refine⟨Y? c (V! _ _),fun x a=>?_⟩;rcases zT.mp a with rfl|a
   ·exact Y? c (T8 _ _)
   ·exact e x a
 exact(f l 0).2
theorem Kc{B:Nat}(hB:0<B)(h:∀x∈l,x.natAbs<B):gL l<B:=by
 by_cases hz:∃x∈l,x≠0
 ·obtain⟨x,a,f⟩:=hz
  exact yL (Nat.le_of_dvd oM (zp x a)) (h x a)
 ·have:∀(b:List Int),(∀x∈b,x=0)->b.foldl (fun g x=>ú g x.natAbs) 0=0:=fun b=>by
   induction b with
   |nil=>intro _;rfl
   |cons y b d=>intro c;rw[â,c y z7];exact d fun x a=>c x (zQ _ a)
  have e:gL l=0:=this l fun x a=>ð fun z=>hz ⟨x,a,z⟩
  lia
theorem rq(b:l.length<=1000)(c:∀x∈l,x.natAbs<2^9000):aj [.fz (iL l)] []=À (.fz (iL (aq l)),[]):=by
 obtain⟨r,e,rfl⟩:=MJ (l:=l) (st:=[]);have a:∀st,pm cY [.fz (iL l)] st=À (.int (gL l:Int),st):=fun st=>aZ rfl e rfl
 unfold aq;by_cases h:gL l=0
 ·rw[yH h]
  simp[aj,aB,dM,a,h,nT]
 ·rw[yG h]
  have d:¬((gL l:Nat):Int)=0:=by lia
  have f:eO ((gL l:Nat):Int)=Â:=tN d (by rw[ϗ];exact Kc (Ö _) c);simp[aj,aB,dM,a,h,bW b];rw[kF (F:=fun x=>x/(gL l:Int)) gk fun x g=>⟨_,rfl,rfl,by
   simp[pC f];unfold vE;rw[yH oM]⟩]
  simp
theorem sS(a:l.length<=1000)(b:∀x∈l,x.natAbs<2^9000):pm aj [.fz (iL l)] st=À (.fz (iL (aq l)),st):=aZ rfl (rq a b) rfl
theorem i9:(aq l).length=l.length:=by unfold aq;split<;>simp
theorem Ib{a b:Int}(j:a.natAbs<2^9000)(h:b.natAbs<2^9000):pm dh [.int a,.int b] st=À (.tup [.int (gI (aq [a,b]) 0),.int (gI (aq [a,b]) 1)],st):=by
 have e:=sS (l:=[a,b]) (st:=[]) (by simp) (fun x c=>by simp at c;rcases c with rfl|rfl<;>assumption);have k:(aq [a,b]).length=2:=i9;have f:aR [] (.fz (iL (aq [a,b]))) (.int 0)=À (.int (gI (aq [a,b]) 0)):=by
  have:=cH (st:=[]) (x:=.fz (iL (aq [a,b]))) (i:=((0:Nat):Int)) d5;rw[cC,cw oM]at this;exact this
 have d:aR [] (.fz (iL (aq [a,b]))) (.int 1)=À (.int (gI (aq [a,b]) 1)):=by
  have:=cH (st:=[]) (x:=.fz (iL (aq [a,b]))) (i:=((1:Nat):Int)) d5;rw[cC,cw oM]at this;exact this
 refine aZ rfl (v:=.tup [.int (gI (aq [a,b]) 0),.int (gI (aq [a,b]) 1)]) (st':=[]) ?_ rfl;have g:pm aj [.fz [.int a,.int b]] []=À (.fz (iL (aq [a,b])),[]):=e;simp[dh,aB,fC,cA,g,f,d]
structure GX(S:Sh)(w cc k:Nat)(X:List Int):Prop where
 len:X.length=w
 at_:∀i,i<k->S.s i<w->gI X (S.s i)=S.t i cc
 no:∀q,q<w->(∀i,i<k->S.s i≠q)->gI X q=0
section
variable{st:aa}{k a b c g n u w m:Nat}{rows:List AV}{S:Sh}{v:Nat->Nat->Int}{nn:Int}
theorem Ct{j:Nat}(h:ev ks e sl st=À (.int (j:Int),st))(c:j<=1000):jB ks (.rep (.cons (.i 0) .nil) e) sl st=À (iL (È j 0),st):=by
 rw[JK];unfold wA;have d:eN ks (.cons (.i 0) .nil) sl st=À ([.int 0],st):=rfl;rw[d,Æ];dsimp only;rw[h,Æ];dsimp only;have b:fx (j:Int)=Â:=by
  unfold fx;refine yK ?_;rw[ϗ];by_cases a:j=0
  ·rw[a];decide
  ·exact yY ((Ċ a).mpr (yL c dC))
 rw[b,bW (n:=[AV.int 0].length*((j:Int)).toNat) (by simp;lia),bW (n:=[AV.int 0].length) (by simp)];show À _=À _;congr 2;show(È j [AV.int 0]).flatten=iL (È j 0);unfold iL
 induction j with
 |zero=>rfl
 |succ j f=>rw[ë,Ĉ,ë,zO];simp
theorem zt{j q:Nat}:gI (È j 0) q=0:=by
 unfold gI;rw[zD,ù];split<;>rfl
theorem CM(R:Rep st k a b c g n u rows S)(P:Pb w m S)(Q:SX.Pm w m S.h S.s)(J:∀st,pm ao [.int nn] st=À (.int w,st))(K:w<=100)(L:m<=1000){cI:Int}{cc:Nat}
  (H:∀{s:aa}{a:Nat}{rows:List AV},Rep s k a b c g n u rows S->∀i,i<m->aR s (ly rows i) (.int cI)=À (.int (S.t i cc))) :
  ∃X,c6 [.int nn,.ref k,.int cI] st=À (.ref st.length,st++[.lst (iL X)])/\GX S w cc m X:=by
 have sl:S.sd.length=m:=P.sd;obtain⟨sl',st',e,X,t,r,rfl,rfl,d⟩:=fb (gd:=[(c,.lst (nL S.sd))]) (g:=cB [ao] (.tu 2 (.cons (.nm 4) (.cons (.nm 5) .nil)))) (s:=af [ao] (.cons (.iff (.cmp .Lt (.v 5) (.bi .len (.cons (.v 3) .nil))) (.cons (.as (.ix (.ix (.fd "Sheet" "lines" (.v 1)) (.v 4)) (.v 2)) (.su (.v 3) (.v 5))) .nil) .nil) .nil))
  (I:=fun i sl s=>∃X t r,s=st++[.lst (iL X)]/\sl=[Is nn,Rs k,Is cI,Rs st.length,t,r]/\GX S w cc i X) (xs:=fi 0 (nL S.sd)) (fun i sl s _ E=>by obtain⟨X,_,_,rfl,_⟩:=E;exact gR (R.app (ys:=[_])).hc)
  (fun i y sl s G E=>by
   obtain⟨X,t,r,rfl,rfl,d⟩:=E;obtain⟨x,f,rfl⟩:=pf G;have A:i<m:=by have:=(zB.mp f).1;simpa [sl] using this
   have B:(nL S.sd)[i]?=À (.int ((S.s i:Nat):Int)):=iW oM;rw[B]at f;injection f with f;subst f;have p:=R.app (ys:=[O3.lst (iL X)]);have F:b8 (st++[O3.lst (iL X)]) (.ref st.length)=À (iL X):=cm gl;by_cases h:S.s i<w
   ·refine⟨_,[Is nn,Rs k,Is cI,Rs st.length,Is i,Is (S.s i:Int)],st++[.lst (iL (X.set (S.s i) (S.t i cc)))],rfl,?_,X.set (S.s i) (S.t i cc),_,_,rfl,rfl,?_⟩
    ·have o:=dD (x:=.int (S.t i cc)) (gl (st:=st) (e:=O3.lst (iL X))) (show S.s i < (iL X).length by simp [d.len,h])
     rw[fH,eJ]at o;have l:S.s i<X.length:=by rw[d.len];exact h
     simp[bY,dj,F,l,p.ins,p.line P A,H p i A,o]
    ·refine⟨by simp[d.len],fun j D o=>?_,fun q C v=>?_⟩
     ·by_cases e:j=i
      ·subst e;rw[SX.gI_set_at (by rw[d.len];exact h)]
      ·rw[SX.gI_set_ne (fun z=>e (Q.si j i oM A z))];exact d.at_ j oM o
     ·rw[SX.gI_set_ne (fun z=>v i oM z.symm)];exact d.no q C fun j D=>v j oM
   ·refine⟨_,[Is nn,Rs k,Is cI,Rs st.length,Is i,Is (S.s i:Int)],st++[.lst (iL X)],rfl,?_,X,_,_,rfl,rfl,?_⟩
    ·have l:¬S.s i<X.length:=by rw[d.len];exact h
     simp[bY,dj,F,l]
    ·refine⟨d.len,fun j D o=>?_,fun q C v=>d.no q C fun j D=>v j oM⟩
     by_cases e:j=i
     ·subst e;exact absurd o h
     ·exact d.at_ j oM o) (sl:=[Is nn,Rs k,Is cI,Rs st.length,Á,Á]) (st:=st++[.lst (iL (È w 0))]) ⟨_,Á,Á,rfl,rfl,by simp,fun i A=>by lia,fun q _ _=>zt⟩
 rw[mE,oG,sl]at d;refine⟨X,?_,d⟩;rw[c6,aB];unfold eQ;refine ae (sl':=[Is nn,Rs k,Is cI,Rs st.length,Á,Á]) (st':=st++[.lst (iL (È w 0))]) ?_ ?_
 ·rw[iC,E7,Ct (j:=w) (by simp[J]) oM];rfl
 refine ae (sl':=[Is nn,Rs k,Is cI,Rs st.length,t,r]) (st':=st++[.lst (iL X)]) ?_ (by simp);have p:=R.app (ys:=[O3.lst (iL (È w 0))]);simp[p.ins,j6 p.hc];exact e
theorem vo{n:Nat}:(iL l).take n=iL (l.take n):=by unfold iL;rw[n?]
theorem EN{n:Nat}:(iL l).drop n=iL (l.drop n):=by unfold iL;rw[X']
theorem tR{n:Nat}(a:l.length=n+1):cut (iL l) Á (À (-1))=iL (l.take n):=by
 unfold cut;rw[io,a,HT.sIx_none,ń];have:HT.Pd (n+1) (n+1) (À (-1))=n:=by
  show(if(-1:Int)<0 then((-1:Int)+((n+1:Nat):Int)).toNat else min (-1:Int).toNat (n+1))=n;rw[yH dC];lia
 rw[this,Ϣ,vo]
theorem EV{w m:Nat}(a:l.length=w+(m+1)):cut (iL l) (À (w:Int)) (À (-1))=iL ((l.drop w).take m):=by
 unfold cut;rw[io,a,HT.sIx_nat];have:HT.Pd (w+(m+1)) (w+(m+1)) (À (-1))=w+m:=by
  show(if(-1:Int)<0 then((-1:Int)+((w+(m+1):Nat):Int)).toNat else min (-1:Int).toNat (w+(m+1)))=w+m;rw[yH dC];lia
 rw[this,e! oM,EN,vo,show w+m-w=m by lia]
theorem yq{d:Int}(k:X.length<=100)(j:∀x∈X,x.natAbs<2^9000)(hd:d.natAbs<2^9000):bN [.fz (iL X),.int d] []=À (.tup [.fz (iL ((aq (X++[d])).take X.length)),.int (gI (aq (X++[d])) X.length)],[]):=by
 have f:(aq (X++[d])).length=X.length+1:=by rw[i9];simp
 have e:=sS (l:=X++[d]) (st:=[]) (by simp;lia) fun x i=>by
  rcases zZ.mp i with h|h
  ·exact j x h
  ·rw[zM.mp h];exact hd
 have g:aR [] (.fz (iL (aq (X++[d])))) (.int (-1))=À (.int (gI (aq (X++[d])) X.length)):=by
  rw[cH d5,mJ (n:=X.length) (by simp[f]),cw oM]
 rw[bN,aB];unfold gU;refine ae (sl':=[Ls X,Is d,Ls (aq (X++[d]))]) (st':=[]) ?_ ?_
 ·have c:=kn (ks:=[aj]) (a:=.v 0) (b:=.nw Ã (.li (.cons (.v 1) .nil))) (sl:=[Ls X,Is d,Á]) (st:=[]) (s1:=[]) (s2:=[]) (x:=.fz (iL X)) (y:=.fz (iL [d])) (l:=X) (l':=[d]) rfl (by simp[cA,iL]) rfl rfl (by simp;lia)
  simp[-wy,c,e]
 ·simp[oF,oA,tR f,g]
theorem Cm(R:Rep st k a b c g n u rows S)(P:Pb w m S)(Q:SX.Pm w m S.h S.s)(B:Bd w m S)(H:∀st,pm ao [.int nn] st=À (.int w,st))(y:w<=100)(C:m<=1000) :
  ∃X T st1,aX [.int nn,.ref k] st=À (.tup [.fz (iL T),.int (gI (aq (X++[S.d])) w)],st1)/\T=(aq (X++[S.d])).take w/\GX S w w m X/\Rep st1 k a b c g n u rows S:=by
 obtain⟨X,e,f⟩:=CM (cI:=-1) (cc:=w) R P Q H y C fun G i d=>G.last P d
 have D:∀x∈X,x.natAbs<2^9000:=fun x v=>by
  obtain⟨q,o⟩:=z8 v;have j:=(zB.mp o).1;rw[f.len]at j;have p:gI X q=x:=by unfold gI;rw[zD,o];rfl
  by_cases h:∃i,i<m/\S.s i=q
  ·obtain⟨i,d,rfl⟩:=h
   rw[<- p,f.at_ i d j];exact B.2 i d w oM
  ·rw[<- p,f.no q j fun i d z=>h ⟨i,d,z⟩];exact Ö _
 obtain⟨st1,t,E⟩:=lD (fn:=bN) (rest:=[.int S.d]) (x:=.ref st.length) (l:=X) (.inr ⟨_,rfl,.inl (gl (st:=st) (e:=.lst (iL X)))⟩) rfl rfl (fun s=>by simp[o6,qJ]) (yq (by rw[f.len];lia) D B.1) rfl (by simp[flat,pb]);refine⟨X,_,st1,?_,rfl,f,?_⟩
 ·have F:=R.app (ys:=[O3.lst (iL X)])
  rw[f.len]at t;simp[aX,aB,fW,e,F.ins,t]
 ·rcases E with rfl|⟨r,A,_,rfl⟩
  ·exact R.app
  ·cases A;rw[eJ];exact R.app
theorem IR(R:Rep st k a b c g n u rows S)(P:Pb w m S)(Q:SX.Pm w m S.h S.s)(B:Bd w m S)(L:∀st,pm ao [.int nn] st=À (.int w,st))(H:w<=100)(I:m<=1000){q:Nat}(D:q<w) :
  ∃X st1,cK [.int nn,.ref k,.int q] st=À (.fz (iL (aq (if S.h q<w then X.set (S.h q) S.d else X))),st1)/\GX S w q m X:=by
 obtain⟨X,e,d⟩:=CM (cI:=q) (cc:=q) R P Q L H I fun K i o=>K.cell P o oM
 have F:∀x∈X,x.natAbs<2^9000:=fun x r=>by
  obtain⟨j,E⟩:=z8 r;have t:=(zB.mp E).1;rw[d.len]at t;have G:gI X j=x:=by unfold gI;rw[zD,E];rfl
  by_cases h:∃i,i<m/\S.s i=j
  ·obtain⟨i,o,rfl⟩:=h
   rw[<- G,d.at_ i o t];exact B.2 i o q oM
  ·rw[<- G,d.no j t fun i o z=>h ⟨i,o,z⟩];exact Ö _
 have p:=R.app (ys:=[O3.lst (iL X)]);have A:b8 (st++[O3.lst (iL X)]) (.ref st.length)=À (iL X):=cm gl;by_cases h:S.h q<w
 ·have v:∀x∈X.set (S.h q) S.d,x.natAbs<2^9000:=fun x r=>by
   rcases ă r with h|h
   ·exact F x h
   ·rw[h];exact B.1
  obtain ⟨st1,y,J⟩:=lD (fn:=aj) (rest:=[]) (st:=st++[.lst (iL (X.set (S.h q) S.d))]) (x:=.ref st.length) (l:=X.set (S.h q) S.d) (.inr ⟨_,rfl,.inl gl⟩) rfl rfl (fun s=>rfl) (rq (by simp [d.len];lia) v) rfl (by simp [flat]);refine ⟨X,st1,?_,d⟩;rw [yH h];have C:=dD (x:=.int S.d) (gl (st:=st) (e:=O3.lst (iL X))) (show S.h q < (iL X).length by simp [d.len,h]);rw [fH,eJ] at C;have f:S.h q < X.length:=by rw [d.len];exact h
  simp[cK,aB,ib,e,p.ins,p.head P D,bY,dj,A,f,C,y]
 ·obtain⟨st1,y,J⟩:=lD (fn:=aj) (rest:=[]) (st:=st++[.lst (iL X)]) (x:=.ref st.length) (l:=X) (.inr ⟨_,rfl,.inl gl⟩) rfl rfl (fun s=>rfl) (rq (by simp[d.len];lia) F) rfl (by simp[flat])
  refine⟨X,st1,?_,d⟩;rw[yG h];have f:¬S.h q<X.length:=by rw[d.len];exact h
  simp[cK,aB,ib,e,p.ins,p.head P D,bY,dj,A,f,y]
end
open SX (O5)
structure TK(S:Sh)(w m p:Nat)(T:List Int):Prop where
 len:T.length=w+m
 hd:∀j,j<w->gI T (S.h j)=if S.h j∈S.tn then S.t p j else-S.t p j
 sd:gI T (S.s p)=if S.s p∈S.tn then-S.d else S.d
 no:∀q,q<w+m->(∀j,j<w->S.h j≠q)->q≠S.s p->gI T q=0
def wt(T:List Int)(HO:Nat->List Int)(w j k:Nat):Int:=gI T (w+k)+O5 j fun x=>gI T x*gI (HO (x+1)) k
section
variable{st:aa}{k a b c g n u w m p:Nat}{rows:List AV}{S:Sh}{nn:Int}{HO:Nat->List Int}
abbrev KW:List Fn:=[ao,c9,eB]
theorem p6{q x:Nat}{y:Int}(h:q<T.length):gI (T.set q y) x=if x=q then y else gI T x:=by
 by_cases e:x=q
 ·subst e;rw[yH rfl,SX.gI_set_at h]
 ·rw[yG e,SX.gI_set_ne e]
theorem Dr(R:Rep st k a b c g n u rows S)(P:Pb w m S)(Q:SX.Pm w m S.h S.s)(F:p<m)(nt:S.tn.Nodup)(ht:∀q∈S.tn,q<w+m)(hw:w<=100)(hm:m<=800){ss:Pc}{r:AV×aa->Prop}
  (h:∀T x1 x2,TK S w m p T->∃z,(af KW ss [Is nn,Rs k,Is p,Rs st.length,x1,x2,Á,Á,Á,Á,Á] (st++[O3.lst (iL T)])).bind aw=À z/\r z) :
  ∃z,(af KW (.cons (.as (.nw Â (.rep (.cons (.i 0) .nil) (.bin .Add (.bi .len (.cons (.fd "Sheet" "heads" (.v 1)) .nil)) (.bi .len (.cons (.fd "Sheet" "sides" (.v 1)) .nil))))) (.nm 3))
   (.cons (.fo (.en (.fd "Sheet" "heads" (.v 1))) (.tu 2 (.cons (.nm 4) (.cons (.nm 5) .nil))) (.cons (.as (.un .USub (.ix (.ix (.fd "Sheet" "lines" (.v 1)) (.v 2)) (.v 4))) (.su (.v 3) (.v 5))) .nil))
   (.cons (.as (.fd "Sheet" "below" (.v 1)) (.su (.v 3) (.ix (.fd "Sheet" "sides" (.v 1)) (.v 2))))
   (.cons (.fd (.fd "Sheet" "turned" (.v 1)) (.nm 5) (.cons (.as (.un .USub (.ix (.v 3) (.v 5))) (.su (.v 3) (.v 5))) .nil)) ss)))) [Is nn,Rs k,Is p,Á,Á,Á,Á,Á,Á,Á,Á] st).bind aw=À z/\r z:=by
 have lh:b8 st (.ref b)=À (nL S.hd):=cm R.hb;have O:b8 st (.ref c)=À (nL S.sd):=cm R.hc;refine ai (sl':=[Is nn,Rs k,Is p,Rs st.length,Á,Á,Á,Á,Á,Á,Á]) (st':=st++[O3.lst (iL (È (w+m) 0))]) ?_ ?_
 ·rw[iC,E7,Ct (j:=w+m) ?_ oM]
  ·rfl
  ·simp[R.ins,bY,dj,lh,O,P.hd,P.sd]
 obtain⟨sl',st',e,T,x1,x2,rfl,rfl,t,N,M⟩:=fb (gd:=[(b,.lst (nL S.hd))]) (g:=cB KW (.tu 2 (.cons (.nm 4) (.cons (.nm 5) .nil)))) (s:=af KW (.cons (.as (.un .USub (.ix (.ix (.fd "Sheet" "lines" (.v 1)) (.v 2)) (.v 4))) (.su (.v 3) (.v 5))) .nil))
  (I:=fun i sl s=>∃T x1 x2,s=st++[O3.lst (iL T)]/\sl=[Is nn,Rs k,Is p,Rs st.length,x1,x2,Á,Á,Á,Á,Á]/\T.length=w+m/\(∀j,j<i->gI T (S.h j)=- S.t p j)/\∀q,(∀j,j<i->S.h j≠q)->gI T q=0) (xs:=fi 0 (nL S.hd)) (fun i sl s _ K=>by obtain⟨X,_,_,rfl,_⟩:=K;exact gR (R.app (ys:=[_])).hb)
  (fun i y sl s A K=>by
   obtain⟨T,x1,x2,rfl,rfl,t,N,M⟩:=K;obtain⟨x,f,rfl⟩:=pf A;have v:i<w:=by have:=(zB.mp f).1;simpa [P.hd] using this
   have U:(nL S.hd)[i]?=À (.int ((S.h i:Nat):Int)):=iW (by rw [P.hd];exact v);rw [U] at f;injection f with f;subst f;have l:=R.app (ys:=[O3.lst (iL T)]);have W:=Q.hl i v;have o:=dD (x:=.int (- S.t p i)) (gl (st:=st) (e:=O3.lst (iL T))) (show S.h i < (iL T).length by simp [t,W]);rw [fH,eJ] at o;refine ⟨_,[Is nn,Rs k,Is p,Rs st.length,Is i,Is (S.h i:Int),Á,Á,Á,Á,Á],st++[O3.lst (iL (T.set (S.h i) (- S.t p i)))],rfl,?_,T.set (S.h i) (- S.t p i),_,_,rfl,rfl,by simp [t],fun j G=>?_,fun q D=>?_⟩
   ·simp [l.ins,l.line P F,l.cell P F (show i < w + 1 by lia),o]
   ·rw[p6 (by rw[t];exact W)]
    by_cases e:j=i
    ·subst e;rw[yH rfl]
    ·rw[yG fun z=>e (Q.hi j i oM v z)];exact N j oM
   ·rw[p6 (by rw[t];exact W),yG fun z=>D i oM z.symm];exact M q fun j G=>D j oM) (sl:=[Is nn,Rs k,Is p,Rs st.length,Á,Á,Á,Á,Á,Á,Á]) (st:=st++[O3.lst (iL (È (w+m) 0))]) ⟨_,Á,Á,rfl,rfl,by simp,fun j G=>by lia,fun q _=>zt⟩
 rw[mE,oG,P.hd]at N M;refine ai (sl':=[Is nn,Rs k,Is p,Rs st.length,x1,x2,Á,Á,Á,Á,Á]) (st':=st++[O3.lst (iL T)]) ?_ ?_
 ·have l:=R.app (ys:=[O3.lst (iL (È (w+m) 0))])
  simp[l.ins,j6 l.hb];exact e
 have l:=R.app (ys:=[O3.lst (iL T)]);have sb:=Q.sl p F;have o:=dD (x:=.int S.d) (gl (st:=st) (e:=O3.lst (iL T))) (show S.s p < (iL T).length by simp [t,sb]);rw [fH,eJ] at o;refine ai (sl':=[Is nn,Rs k,Is p,Rs st.length,x1,x2,Á,Á,Á,Á,Á]) (st':=st++[O3.lst (iL (T.set (S.s p) S.d))]) (by simp [l.ins,l.side P F,o]) ?_;have l2:(T.set (S.s p) S.d).length=w + m:=by simp [t]
 obtain⟨C,J⟩:∃x,x=T.set (S.s p) S.d:=⟨_,rfl⟩;rw[<- J]at l2 ⊢
 have Ru:=(R.app (ys:=[O3.lst (iL C)])).hu;have E:u<st.length:=(zB.mp R.hu).1;obtain⟨sl',st',e,d,x2,rfl,rfl,L,B⟩:=fb (gd:=[]) (g:=cB KW (.nm 5)) (s:=af KW (.cons (.as (.un .USub (.ix (.v 3) (.v 5))) (.su (.v 3) (.v 5))) .nil))
  (I:=fun i sl s=>∃d x2,s=(st++[O3.lst (iL d)]).set u (.wk (kL S.tn))/\sl=[Is nn,Rs k,Is p,Rs st.length,x1,x2,Á,Á,Á,Á,Á]/\d.length=w+m/\∀q,gI d q=if q∈S.tn.take i then-gI C q else gI C q) (xs:=nL S.tn) (fun _ _ _ _ _=>rfl)
  (fun i y sl s A K=>by
   obtain⟨d,x2,rfl,rfl,L,B⟩:=K;have v:i<S.tn.length:=by have:=(zB.mp A).1;simpa using this
   rw[iW v]at A;injection A with A;subst A;obtain⟨q,D⟩:∃q,q=S.tn.getD i 0:=⟨_,rfl⟩;rw[<- D];have qi:S.tn[i]=q:=by rw[D,zD,zF v];rfl
   have qm:q∈S.tn:=by rw[<- qi];exact Ý v
   have ql:=ht q qm;have Z:S.tn.take (i+1)=S.tn.take i++[q]:=by rw[W!,zF v,qi];rfl
   have qn:q∉S.tn.take i:=fun z=>by
    have:=nt.sublist (T0 (i+1) S.tn)
    rw[Z,Ϟ]at this;exact this.2.2 q z q (by simp) rfl
   have gc:((st++[O3.lst (iL d)]).set u (.wk (kL S.tn)))[st.length]?=À (.lst (iL d)):=by rw[aA (zU E)];exact gl
   have o:=dD (x:=.int (- gI d q)) gc (show q < (iL d).length by simp [L,ql]);have sc:((st++[O3.lst (iL d)]).set u (.wk (kL S.tn))).set st.length (.lst (iL (d.set q (- gI d q))))=(st++[O3.lst (iL (d.set q (- gI d q)))]).set u (.wk (kL S.tn)):=by
    rw[List.set_comm _ _ (zU E),eJ]
   rw[fH,sc]at o;have xi:aR ((st++[O3.lst (iL d)]).set u (.wk (kL S.tn))) (.ref st.length) (.int (q:Int))=À (.int (gI d q)):=by rw[cH (cm gc),cC,cw oM]
   refine⟨_,[Is nn,Rs k,Is p,Rs st.length,x1,Is q,Á,Á,Á,Á,Á],(st++[O3.lst (iL (d.set q (- gI d q)))]).set u (.wk (kL S.tn)),rfl,?_,_,_,rfl,rfl,by simp[L],fun x=>?_⟩
   ·simp[xi,o]
   ·rw[p6 oM,Z]
    by_cases e:x=q
    ·subst e;rw[yH rfl,yH (by simp),B x,yG qn]
    ·rw[yG e,B x];simp[e]) (sl:=[Is nn,Rs k,Is p,Rs st.length,x1,x2,Á,Á,Á,Á,Á]) (st:=(st++[O3.lst (iL C)]).set u (.wk (kL S.tn))) ⟨C,x2,rfl,rfl,l2,fun q=>by simp⟩
 rw[oG,Ĭ]at B;refine ai (sl':=[Is nn,Rs k,Is p,Rs st.length,x1,x2,Á,Á,Á,Á,Á]) (st':=st++[O3.lst (iL d)]) ?_ (h d x1 x2 ?_)
 ·have Rb:=R.app (ys:=[O3.lst (iL C)])
  have ky:(kL S.tn).map (fun q=>oO q.1)=nL S.tn:=by unfold kL nL;rw[Ü];rfl
  have f1:(((st++[O3.lst (iL d)]).set u (.wk (kL S.tn))))[u]?=À (.wk (kL S.tn)):=gA (R.app (ys:=[O3.lst (iL d)])).hu;have f2:((st++[O3.lst (iL d)]).set u (.wk (kL S.tn))).set u (.dK (kL S.tn))=st++[O3.lst (iL d)]:=by
   rw[u!]
   have:=(R.app (ys:=[O3.lst (iL d)])).hu
   obtain⟨hlt,H⟩:=zB.mp this;rw[<- H,List.set_getElem_self]
  simp[wf,Rb.ins,Rb.hu];rw[show(kL S.tn).map ((fun q=>oO q.1))=nL S.tn from ky]at *;rw[e];simp[Cl,f1,f2]
 ·have Y:∀q,gI C q=if q=S.s p then S.d else gI T q:=fun q=>by rw[J,p6 (by rw[t];exact sb)]
  refine⟨L,fun j G=>?_,?_,fun q D hn V=>?_⟩
  ·rw[B,Y,yG (Q.hs j p G F),N j G];split<;>lia
  ·rw[B,Y,yH rfl]
  ·rw[B,Y,yG V,M q hn];split<;>rfl
end
structure HOk(nn:Int)(w nr:Nat)(HO:Nat->List Int):Prop where
 ex:∀grp:Nat,1<=grp->grp<=w->∃rr,(∀st,pm c9 [.int nn,.int grp,.int 0] st=À (rr,st))/\∀st,pm eB [.int nn,rr] st=À (.fz (iL (HO grp)),st)
 len:∀grp:Nat,1<=grp->grp<=w->(HO grp).length=nr
 bd:∀(grp:Nat),1<=grp->grp<=w->∀x∈HO grp,x.natAbs<=15
section
variable{st:aa}{k a b c g n u w m p nr:Nat}{rows:List AV}{S:Sh}{nn:Int}{HO:Nat->List Int}
theorem KN{r q:Nat}{x:Int}(e:ev ks ea sl s=À (.ref r,s))(d:ev ks eb sl s=À (.int (q:Int),s))(c:ev ks ec sl s=À (.int x,s))(a:s[r]?=À (.lst (iL l)))(b:q<l.length):cW ks (.aus .Add ea eb ec) sl s=À (.nx sl (s.set r (.lst (iL (l.set q (gI l q+x)))))):=by
 rw[Jc];unfold wg;rw[e,Æ];dsimp only;rw[d,Æ];dsimp only;rw[cm a,Æ,cC,cw b,Æ,c,Æ];dsimp only;have:ud .Add s (.int (gI l q)) (.int x)=À (.int (gI l q+x)):=rfl;rw[this,Æ,dD a (by simp[b]),fH,Æ]
theorem Cc(R:Rep st k a b c g n u rows S)(P:Pb w (m+1) S)(Q:SX.Pm w (m+1) S.h S.s)(hp:p<m+1)(nt:S.tn.Nodup)(ht:∀q∈S.tn,q<w+(m+1))(hw:w<=100)(hm:m+1<=800)(HA:∀st,pm ao [.int nn] st=À (.int w,st))(H:HOk nn w nr HO)(hnr:nr<=m) :
  ∃z,aN [.int nn,.ref k,.int p] st=À z/\∃T W,TK S w (m+1) p T/\W.length=m/\(∀x,x<m->gI W x=wt T HO w w x)/\z.1=.ref (st.length+1)/\z.2=st++[O3.lst (iL T)]++[O3.lst (iL W)]:=by
 rw[aN];simp only[aB];unfold fA;refine Dr R P Q hp nt ht hw hm fun T h f U=>?_
 have sT:(st++[O3.lst (iL T)])[st.length]?=À (.lst (iL T)):=gl;refine ai (sl':=[Is nn,Rs k,Is p,Rs st.length,h,f,Rs (st.length+1),Á,Á,Á,Á]) (st':=st++[O3.lst (iL T)]++[O3.lst (iL ((T.drop w).take m))]) ?_ ?_
 ·simp[oF,oA,HA,cm sT,EV U.len]
 have ll:(st++[O3.lst (iL T)]).length=st.length+1:=by simp
 have V:∀W:List Int,(st++[O3.lst (iL T)]++[O3.lst (iL W)])[st.length]?=À (.lst (iL T)):=fun W=>ga sT
 have sW:∀W:List Int,(st++[O3.lst (iL T)]++[O3.lst (iL W)])[st.length+1]?=À (.lst (iL W)):=fun W=>by rw[<- ll];exact gl
 have L:∀W d:List Int,(st++[O3.lst (iL T)]++[O3.lst (iL W)]).set (st.length+1) (.lst (iL d))=st++[O3.lst (iL T)]++[O3.lst (iL d)]:=fun W d=>by rw[<- ll];exact eJ
 have hW0:∀x,x<m->gI ((T.drop w).take m) x=wt T HO w 0 x:=fun x v=>by
  unfold wt gI;rw[zD,ĺ v,Q8,zD];simp[O5]
 obtain⟨sl',st',e,W,N,J,B,A,rfl,rfl,O,M⟩:=fb (gd:=[]) (g:=cB KW (.nm 7)) (s:=af KW (.cons (.as (.ix (.v 3) (.bin .Sub (.v 7) (.i 1))) (.nm 8)) (.cons (.iff (.cmp .NotEq (.v 8) (.i 0))
   (.cons (.fo (.en (.ca Â 2 (.cons (.v 0) (.cons (.ca Â 1 (.cons (.v 0) (.cons (.v 7) (.cons (.i 0) .nil)))) .nil)))) (.tu 2 (.cons (.nm 9) (.cons (.nm 10) .nil))) (.cons (.aus .Add (.v 6) (.v 9) (.bin .Mult (.v 8) (.v 10))) .nil)) .nil) .nil) .nil)))
  (I:=fun i sl s=>∃W N J B A,s=st++[O3.lst (iL T)]++[O3.lst (iL W)]/\sl=[Is nn,Rs k,Is p,Rs st.length,h,f,Rs (st.length+1),N,J,B,A]/\W.length=m/\∀x,x<m->gI W x=wt T HO w i x) (xs:=dF 1 w) (fun _ _ _ _ _=>rfl)
  (fun i y sl s C hI=>by
   obtain⟨W,N,J,B,A,rfl,rfl,O,M⟩:=hI;have hi:i<w:=by have:=(zB.mp C).1;unfold dF at this;simpa using this
   have ey:y=.int (((i+1:Nat)):Int):=by
    unfold dF at C;rw[zR,Ķ hi]at C;injection C with C;rw[<- C];show AV.int (1+(i:Int))=_;congr 1;lia
   subst ey;have xi:aR (st++[O3.lst (iL T)]++[O3.lst (iL W)]) (.ref st.length) (.int (i:Int))=À (.int (gI T i)):=by rw[cH (cm (V W)),cC,cw (by rw[U.len];lia)]
   have K:cW KW (.as (.ix (.v 3) (.bin .Sub (.v 7) (.i 1))) (.nm 8)) [Is nn,Rs k,Is p,Rs st.length,h,f,Rs (st.length+1),Is ((i+1:Nat):Int),J,B,A] (st++[O3.lst (iL T)]++[O3.lst (iL W)])=À (.nx [Is nn,Rs k,Is p,Rs st.length,h,f,Rs (st.length+1),Is ((i+1:Nat):Int),Is (gI T i),B,A] (st++[O3.lst (iL T)]++[O3.lst (iL W)])):=by
    have e0:((i+1:Nat):Int)-1=(i:Int):=by lia
    have hb:bB .Sub (st++[O3.lst (iL T)]++[O3.lst (iL W)]) (.int ((i+1:Nat):Int)) (.int 1)=À (.int (i:Int)):=by rw[KF,e0]
    simp only[iC,vO,Cg,oj,xq,kQ,kP,Æ,hb,Û,xi];rfl
   by_cases h0:gI T i=0
   ·refine⟨_,_,_,rfl,ay K ?_,W,Is ((i+1:Nat):Int),Is (gI T i),B,A,rfl,rfl,O,fun x v=>?_⟩
    ·simp[h0]
    ·rw[M x v];unfold wt;simp only[O5,h0];lia
   ·obtain⟨rr,r1,r2⟩:=H.ex (i+1) oM oM
    have D:=H.len (i+1) oM oM;obtain⟨sl',st',e,d,G,F,rfl,rfl,E,t⟩:=fb (gd:=[]) (g:=cB KW (.tu 2 (.cons (.nm 9) (.cons (.nm 10) .nil)))) (s:=af KW (.cons (.aus .Add (.v 6) (.v 9) (.bin .Mult (.v 8) (.v 10))) .nil))
     (I:=fun j sl s=>∃d G F,s=st++[O3.lst (iL T)]++[O3.lst (iL d)]/\sl=[Is nn,Rs k,Is p,Rs st.length,h,f,Rs (st.length+1),Is ((i+1:Nat):Int),Is (gI T i),G,F]/\d.length=m/\∀x,x<m->gI d x=gI W x+if x<j then gI T i*gI (HO (i+1)) x else 0) (xs:=fi 0 (iL (HO (i+1)))) (fun _ _ _ _ _=>rfl)
     (fun j y sl s C hI=>by
      obtain⟨d,G,F,rfl,rfl,E,t⟩:=hI;obtain⟨x,o,rfl⟩:=pf C;have hj:j<nr:=by have:=(zB.mp o).1;simpa [D] using this
      rw[cw oM]at o;injection o with o;subst o;have hc:(gI (HO (i+1)) j).natAbs<=15:=by
       refine H.bd (i+1) oM oM _ ?_;unfold gI;exact SX.getD_mem oM
      have mb:dP (gI T i) (gI (HO (i+1)) j)=Â:=by
       unfold dP;have:ß (gI (HO (i+1)) j).natAbs.log2 62=Â:=yK (by
        by_cases hz:(gI (HO (i+1)) j).natAbs=0
        ·rw[hz];decide
        ·exact yY ((Ċ hz).mpr (yL hc dC)))
       rw[this];simp
      refine⟨_,_,_,rfl,ay (KN (r:=st.length+1) (q:=j) (l:=d) (x:=gI T i*gI (HO (i+1)) j) rfl rfl (by simp[cM mb]) (sW d) oM) rfl,d.set j (gI d j+gI T i*gI (HO (i+1)) j),_,_,L _ _,rfl,by simp[E],fun x v=>?_⟩;rw[p6 oM];by_cases e:x=j
      ·subst e;rw[yH rfl,t x v,yG oM,yH oM];lia
      ·rw[yG e,t x v]
       by_cases e2:x<j
       ·rw[yH e2,yH oM]
       ·rw[yG e2,yG oM]) (sl:=[Is nn,Rs k,Is p,Rs st.length,h,f,Rs (st.length+1),Is ((i+1:Nat):Int),Is (gI T i),B,A]) (st:=st++[O3.lst (iL T)]++[O3.lst (iL W)]) ⟨W,B,A,rfl,rfl,O,fun x v=>by simp⟩
    rw[mE,io,D]at t;refine⟨_,_,_,rfl,ay K (ay (sl':=[Is nn,Rs k,Is p,Rs st.length,h,f,Rs (st.length+1),Is ((i+1:Nat):Int),Is (gI T i),G,F]) (st':=st++[O3.lst (iL T)]++[O3.lst (iL d)]) ?_ rfl),d,Is ((i+1:Nat):Int),Is (gI T i),G,F,rfl,rfl,E,fun x v=>?_⟩
    ·have r1':=r1 (st++[O3.lst (iL T)]++[O3.lst (iL W)])
     have Z:=r2 (st++[O3.lst (iL T)]++[O3.lst (iL W)]);simp only[mn,v6,oj,xq,kQ,kP,Æ,ML,Û,z9 h0,Bool.not_false,ite_true];refine ay (sl':=[Is nn,Rs k,Is p,Rs st.length,h,f,Rs (st.length+1),Is ((i+1:Nat):Int),Is (gI T i),G,F]) (st':=st++[O3.lst (iL T)]++[O3.lst (iL d)]) ?_ rfl;rw[jP,My];simp only[nJ,eA,fF,oj,xq,kQ,kP,Æ,rk,nW,pY];rw[r1'];simp only[Æ];rw[Z];simp only[Æ,HG,Û];exact e
    ·rw[t x v,M x v]
     unfold wt;simp only[O5];by_cases e:x<nr
     ·rw[yH e];lia
     ·rw[yG e]
      have:gI (HO (i+1)) x=0:=by unfold gI;rw[zD,ä oM];rfl
      rw[this,yO];lia) (sl:=[Is nn,Rs k,Is p,Rs st.length,h,f,Rs (st.length+1),Á,Á,Á,Á]) (st:=st++[O3.lst (iL T)]++[O3.lst (iL ((T.drop w).take m))]) ⟨_,Á,Á,Á,Á,rfl,rfl,by simp[U.len],hW0⟩
 have rl:(dF 1 w).length=w:=by unfold dF;simp
 rw[rl]at M;refine⟨(.ref (st.length+1),st++[O3.lst (iL T)]++[O3.lst (iL W)]),?_,T,W,U,O,M,rfl,rfl⟩;refine ae (sl':=[Is nn,Rs k,Is p,Rs st.length,h,f,Rs (st.length+1),N,J,B,A]) (st':=st++[O3.lst (iL T)]++[O3.lst (iL W)]) ?_ (by simp);have Y:fx 1=Â:=by decide
 have X:fx ((w:Int)+1)=Â:=by
  unfold fx;refine yK ?_;rw[show((w:Int)+1).natAbs=w+1 by lia];exact yY ((Ċ oM).mpr oM)
 rw[jP];have ei:d3 KW (.r2 (.i 1) (.bin .Add (.ca Â 0 (.cons (.v 0) .nil)) (.i 1))) [Is nn,Rs k,Is p,Rs st.length,h,f,Rs (st.length+1),Á,Á,Á,Á] (st++[O3.lst (iL T)]++[O3.lst (iL ((T.drop w).take m))])=À (⟨dF 1 w,[]⟩,st++[O3.lst (iL T)]++[O3.lst (iL ((T.drop w).take m))]):=by
  have e2:((w:Int)+1-1).toNat=w:=by lia
  simp[-List.append_assoc,CI,HA,Y,X]
 rw[ei,Æ];exact e
end
section
variable{st:aa}{k a b c g n u w m p nr:Nat}{rows:List AV}{S:Sh}{nn:Int}{HO:Nat->List Int}{v:Nat->Nat->Int}
theorem TK.bd(a:TK S w m p T)(f:p<m)(Q:SX.Pm w m S.h S.s)(B:S.d.natAbs<2^8900/\∀i,i<m->∀j,j<w+1->(S.t i j).natAbs<2^8900)(q:Nat):(gI T q).natAbs<2^8900:=by
 by_cases e:q<w+m
 ·by_cases d:∃j,j<w/\S.h j=q
  ·obtain⟨j,b,rfl⟩:=d
   rw[a.hd j b]
   have:=B.2 p f j oM
   split
   ·exact this
   ·rw[ã];exact this
  ·by_cases c:q=S.s p
   ·rw[c,a.sd]
    split
    ·rw[ã];exact B.1
    ·exact B.1
   ·rw[a.no q e (fun j b z=>d ⟨j,b,z⟩) c];exact Ö _
 ·have:gI T q=0:=by unfold gI;rw[zD,ä (by rw[a.len];lia)];rfl
  rw[this];exact Ö _
theorem Cd(a:∀q,(gI T q).natAbs<2^8900)(H:HOk nn w nr HO)(b:w<=15)(x:Nat):(wt T HO w w x).natAbs<2^9000:=by
 unfold wt;have l:=SX.abs_sum (n:=w) (f:=fun y=>gI T y*gI (HO (y+1)) x) (M:=2^8900*15) fun i g=>by
  rw[yZ];refine Ŝ (yY (a i)) ?_;unfold gI;rw[zD];cases e:(HO (i+1))[x]? with
  |none=>simp
  |some z=>exact H.bd (i+1) oM oM z (zW e)
 have k:=a (w+x);have j:=U0 (gI T (w+x)) (O5 w fun y=>gI T y*gI (HO (y+1)) x);have h:w*(2^8900*15)<=15*(2^8900*15):=Ž _ b;have d:(2:Nat)^9000=2^8900*2^100:=by rw[<- ŧ]
 have c:(2:Nat)^100=1267650600228229401496703205376:=by decide
 rw[d,c];generalize (2:Nat)^8900=B at *;lia
theorem BD(R:Rep st k a b c g n u rows S)(I:MI w (m+1) v S)(D:Bnd w (m+1) v)(i:p<m+1)(J:S.tn.Nodup)(M:∀q∈S.tn,q<w+(m+1))(L:w<=15)(hm:m+1<=400)(E:∀st,pm ao [.int nn] st=À (.int w,st))(H:HOk nn w nr HO)(r:nr<=m) :
  ∃z,bL [.int nn,.ref k,.int p] st=À z/\∃X T W,GX S w w (m+1) X/\TK S w (m+1) p T/\W.length=m/\(∀x,x<m->gI W x=wt T HO w w x) /\
   z.1=.tup [.str "least",.tup [.int (gI (aq [- S.t p w,S.d]) 0),.int (gI (aq [- S.t p w,S.d]) 1)],.tup [.fz (iL ((aq (X++[S.d])).take w)),.int (gI (aq (X++[S.d])) w)],.int (gI (aq (W++[S.d])) m),.fz (iL ((aq (W++[S.d])).take m))]:=by
 have P:=I.shp;have B:=D.bd I;obtain⟨z,e1,T,W,C,o,A,f,e⟩:=Cc R P I.pm i J M oM oM E H r;obtain⟨z1,z2⟩:=z;dsimp only at f e;subst f;subst e;have R2:=(R.app (ys:=[O3.lst (iL T)])).app (ys:=[O3.lst (iL W)]);have G:∀x∈W++[S.d],x.natAbs<2^9000:=fun x K=>by
  rcases zZ.mp K with h|h
  ·obtain⟨j,t⟩:=z8 h
   have N:=(zB.mp t).1;have V:gI W j=x:=by unfold gI;rw[zD,t];rfl
   rw[<- V,A j oM];exact Cd (C.bd i I.pm (D.bd8 I)) H L j
  ·rw[zM.mp h];exact B.1
 have Z:=sS (l:=W++[S.d]) (st:=st++[O3.lst (iL T)]++[O3.lst (iL W)]) (by simp[o];lia) G;obtain⟨X,T',d,Y,rfl,O,R3⟩:=Cm R2 P I.pm B E oM oM;have U:=Ib (a:=- S.t p w) (b:=S.d) (st:=st) (by rw[ã];exact B.2 p i w oM) B.1;refine⟨(_,d),?_,X,T,W,O,C,o,A,rfl⟩;have s:(aq (W++[S.d])).length=m+1:=by rw[i9];simp[o]
 rw[bL,aB];unfold fX;refine ae (sl':=[Is nn,Rs k,Is p,À (.tup [.int (gI (aq [- S.t p w,S.d]) 0),.int (gI (aq [- S.t p w,S.d]) 1)]),Á]) (st':=st) (by simp[R.ins,R.line P i,R.last P i,U]) ?_;refine ae (sl':=[Is nn,Rs k,Is p,À (.tup [.int (gI (aq [- S.t p w,S.d]) 0),.int (gI (aq [- S.t p w,S.d]) 1)]),Ls (aq (W++[S.d]))]) (st':=st++[O3.lst (iL T)]++[O3.lst (iL W)]) ?_ ?_
 ·have Q:(st++[O3.lst (iL T)]++[O3.lst (iL W)])[st.length+1]?=À (.lst (iL W)):=by
   have:(st++[O3.lst (iL T)]).length=st.length+1:=by simp
   rw[<- this];exact gl
  have c:=kn (ks:=[dh,aN,aj,aX]) (a:=.ca Ã 1 (.cons (.v 0) (.cons (.v 1) (.cons (.v 2) .nil)))) (b:=.nw Ã (.li (.cons (.fd "Sheet" "below" (.v 1)) .nil)))
   (sl:=[Is nn,Rs k,Is p,À (.tup [.int (gI (aq [- S.t p w,S.d]) 0),.int (gI (aq [- S.t p w,S.d]) 1)]),Á]) (st:=st) (s1:=st++[O3.lst (iL T)]++[O3.lst (iL W)]) (s2:=st++[O3.lst (iL T)]++[O3.lst (iL W)]) (x:=.ref (st.length+1)) (y:=.fz [AV.int S.d]) (l:=W) (l':=[S.d])
   (by simp only[nJ,eA,fF,oj,kQ,kP,Æ,wo,nW,pY];exact e1) (by simp[-List.append_assoc,cA,R2.ins]) (cm Q) rfl (by simp[o];lia)
  simp only[iC,nJ,eA,fF,fR,c,Æ,d6,ite_true,rk,nW,pY,Z,BP];rfl
 ·have F:aR d (.fz (iL (aq (W++[S.d])))) (.int (-1))=À (.int (gI (aq (W++[S.d])) m)):=by rw[cH d5,mJ (n:=m) (by simp[s]),cw oM]
  simp[-List.append_assoc,Y,oF,oA,tR s,F]
end
open SX (Qt v0)
def val(w:Nat)(r:List Int)(Y:Nat->Int):Int:=O5 w fun x=>gI r x*Y x
structure Kp(w:Nat)(RR:List (List Int))(gv:List Gv)(Y:Nat->Int)(e:Int):Prop where
 rule:∀r∈RR,0<=val w r Y
 eq:∀z∈gv,z.eq=Â->val w z.row Y=z.num*e
 ge:∀z∈gv,z.eq=Ã->z.num*e<=val w z.row Y
structure TbS(w:Nat)(RR:List (List Int))(gv:List Gv)(X:List Int)(D:Int):Prop where
 len:X.length=w
 pos:0<D
 bd:(∀x∈X,x.natAbs<2^2500)/\D.natAbs<2^2500
 kp:Kp w RR gv (gI X) D
def xn(w:Nat)(RR:List (List Int))(gv:List Gv)(goal:List Int)(t:AV):Prop :=
 ((∃W,t=.tup [.str "never",.fz (iL W)])/\∀Y e,0<e->¬Kp w RR gv Y e) \/
 (∃T d X D K W,t=.tup [.str "least",.tup [.int (gI (aq [T,d]) 0),.int (gI (aq [T,d]) 1)],.tup [.fz (iL X),.int D],.int K,.fz (iL W)]/\0<d/\(T.natAbs<2^2500/\d.natAbs<2^2500)/\(TbS w RR gv X D/\val w goal (gI X)*d=T*D)/\∀Y e,0<e->Kp w RR gv Y e->T*e<=val w goal Y*d) \/
 ∃X D Z,t=.tup [.str "endless",.tup [.fz (iL X),.int D],.fz (iL Z)]/\TbS w RR gv X D/\(Z.length=w/\∀x∈Z,x.natAbs<2^2500)/\Kp w RR gv (gI Z) 0/\val w goal (gI Z)<0
section
variable{w:Nat}{RR:List (List Int)}{gv:List Gv}{goal:List Int}{Y Y':Nat->Int}{e e' g T d:Int}
theorem mh{r:List Int}(h:∀x,x<w->Y x=g*Y' x):val w r Y=g*val w r Y':=by
 unfold val;rw[<- SX.sum_mul];exact SX.sum_congr fun x a=>by rw[h x a];grind
theorem Kp.div(b:0<g)(he:e=g*e')(h:∀x,x<w->Y x=g*Y' x)(K:Kp w RR gv Y e):Kp w RR gv Y' e':=by
 refine⟨fun r c=>?_,fun z hz a=>?_,fun z hz a=>?_⟩
 ·have:=K.rule r c
  rw[mh h]at this;exact p? (by rw[yO];exact this) b
 ·have:=K.eq z hz a
  rw[mh h,he]at this;exact ť oM (this.trans (by grind))
 ·have:=K.ge z hz a
  rw[mh h,he]at this;exact p? (Ň (by rw[show g*(z.num*e')=z.num*(g*e') by grind];exact ϵ _) this) b
theorem wL(l:List Int):∃g:Int,0<g/\∀i,gI l i=g*gI (aq l) i:=by
 by_cases h:gL l=0
 ·exact⟨1,by decide,fun i=>by unfold aq;rw[yH h,ſ]⟩
 ·refine⟨(gL l:Int),by lia,fun i=>?_⟩
  unfold aq;rw[yG h];unfold gI;rw[zD,zD,zR];cases e:l[i]? with
  |none=>simp
  |some x =>
   have:=zp x (zW e)
   exact(P0 (i!.mp (ű.mpr this))).symm
theorem sU{l:List Int}{M:Nat}(b:0<M)(h:∀x∈l,x.natAbs<M)(i:Nat):(gI (aq l) i).natAbs<M:=by
 obtain⟨g,c,e⟩:=wL l;have a:=mC h b i;rw[e i,yZ]at a;exact yL (Nat.le_mul_of_pos_left _ oM) a
theorem lE{l:List Int}{P:Int->Prop}(h:∀i,i<l.length->P (gI l i)):∀x∈l,P x:=fun x b=>by
 obtain⟨i,a⟩:=z8 b
 have:=h i (zB.mp a).1
 unfold gI at this;rw[zD,a]at this;exact this
theorem p7{l:List Int}{w i:Nat}(h:i<w):gI (l.take w) i=gI l i:=by
 unfold gI;rw[zD,zD,ĺ h]
theorem HS{l l':List Int}{i:Nat}(h:i<l.length):gI (l++l') i=gI l i:=by
 unfold gI;rw[zD,zD,zN h]
theorem HQ{l:List Int}{d:Int}:gI (l++[d]) l.length=d:=by
 unfold gI;rw[zD];simp
theorem TbS.low{X:List Int}(a:X.length=w)(hd:0<d)(i:(∀x∈X,x.natAbs<2^9000)/\d.natAbs<2^9000)(K:Kp w RR gv (gI X) d):∃g,0<g/\d=g*gI (aq (X++[d])) w/\(∀r,val w r (gI X)=g*val w r (gI ((aq (X++[d])).take w))) /\
  ((aq (X++[d])).take w).length=w/\0<gI (aq (X++[d])) w/\Kp w RR gv (gI ((aq (X++[d])).take w)) (gI (aq (X++[d])) w):=by
 obtain⟨g,b,e⟩:=wL (X++[d]);have c:d=g*gI (aq (X++[d])) w:=by
  have:=e w
  rw[<- a,HQ]at this;rw[<- a];exact this
 have ex:∀x,x<w->gI X x=g*gI ((aq (X++[d])).take w) x:=fun x f=>by
  rw[p7 f,<- e x,HS oM]
 refine⟨g,b,c,fun r=>mh ex,?_,?_,K.div b c ex⟩
 ·rw[ϫ,i9,zV,a];simp
 ·rcases U1 0 (gI (aq (X++[d])) w) with h|h|h
  ·exact h
  ·rw[<- h]at c;lia
  ·have:=Ť b h;lia
theorem TbS.of{X:List Int}(k:X.length=w)(hd:0<d)(a:(∀x∈X,x.natAbs<2^2500)/\d.natAbs<2^2500)(K:Kp w RR gv (gI X) d)(f:val w goal (gI X)=T):TbS w RR gv ((aq (X++[d])).take w) (gI (aq (X++[d])) w)/\val w goal (gI ((aq (X++[d])).take w))*d=T*gI (aq (X++[d])) w:=by
 have big:(2:Nat)^2500<=2^9000:=ĉ dC dC;obtain⟨g,p,m,ev,e,j,n⟩:=TbS.low k hd ⟨fun x b=>zJ (a.1 x b) big,zJ a.2 big⟩ K;have c:=sU (l:=X++[d]) (Ö 2500) fun x b=>by
  rcases zZ.mp b with h|h
  ·exact a.1 x h
  ·rw[zM.mp h];exact a.2
 refine⟨⟨e,j,⟨lE fun i o=>?_,c w⟩,n⟩,?_⟩
 ·rw[p7 oM];exact c i
 ·rw[<- f,ev goal]
  generalize gI (aq (X++[d])) w=D at *;rw[m];grind
end
structure AI(w nr:Nat)(gv:List Gv)(L:List (List Int))(i:Nat)(S:Sh):Prop where
 mi:MI w (nr+gv.length+1) (v0 w L) S
 un:∀x,nr+i<=x->x<nr+gv.length+1->S.s x=w+x
 g1:∀q∈S.gd,q<w+nr\/∃y z,y<i/\gv[y]?=À z/\z.eq=Ã/\q=w+nr+y
 g2:∀q,q<w+nr->q∈S.gd
 g3:∀y z,y<i->gv[y]?=À z->z.eq=Ã->w+nr+y∈S.gd
 n1:∀q∈S.nl,∃y z,y<i/\gv[y]?=À z/\z.eq=Â/\q=w+nr+y
 n2:∀y z,y<i->gv[y]?=À z->z.eq=Â->w+nr+y∈S.nl
 t1:∀q∈S.tn,q∈S.nl
 tn:S.tn.Nodup
 lg:S.gd.length<=w+nr+i
 ln:S.nl.length<=i
 lt:S.tn.length<=i
section
variable{w nr i:Nat}{RR:List (List Int)}{gv:List Gv}{goal:List Int}{S:Sh}{Y:Nat->Int}{e:Int}
theorem tF{c:Int}{x:Nat}(h:r.length=w):gI (r++[c]) x=if x<w then gI r x else if x=w then c else 0:=by
 unfold gI;simp only[zD];by_cases b:x<w
 ·rw[yH b,zN oM]
 ·rw[yG b,z6 oM]
  by_cases a:x=w
  ·rw[yH a,h,a];simp
  ·rw[yG a,ä (by simp;lia)];rfl
theorem fg{c:Int}{j:Nat}(f:L[j]?=À (r++[c]))(b:r.length=w):Qt w (v0 w L) Y e (w+j)=val w r Y+c*e:=by
 have a:∀x,v0 w L (w+j) x=gI (r++[c]) x:=fun x=>by
  unfold v0;rw[yG oM,show w+j-w=j by lia,zD,f];rfl
 unfold Qt val;rw[a,tF b,yG oM,yH rfl];congr 1;exact SX.sum_congr fun x d=>by rw[a,tF b,yH d]
theorem ID{q:Nat}(b:q<w):Qt w (v0 w L) Y e q=Y q:=by
 have a:∀x,v0 w L q x=if x=q then 1 else 0:=fun x=>by unfold v0;rw[yH b]
 unfold Qt;rw[SX.sum_one b fun x _ ne=>by rw[a,yG ne,yP],a,yH rfl,a,yG oM];lia
theorem uk(a:i<RR.length):(ak RR gv goal)[i]?=À (RR[i]++[0]):=by
 unfold ak;rw[yM,zN (by simpa using a)];simp[a]
theorem kt(hz:gv[i]?=À z):(ak RR gv goal)[RR.length+i]?=À (z.row++[- z.num]):=by
 have a:=(zB.mp hz).1;unfold ak;rw[yM,z6 (by simp),zN (by simp;exact a)];simp[hz]
theorem Ar:(ak RR gv goal)[RR.length+gv.length]?=À (goal.map (fun x=>- x)++[0]):=by
 unfold ak;rw[z6 (by simp)];simp
theorem xj:(ak RR gv goal).length=RR.length+gv.length+1:=by simp[ak];lia
theorem pM:val w (goal.map fun x=>- x) Y=- val w goal Y:=by
 unfold val;have:∀x,gI (goal.map fun x=>- x) x=- gI goal x:=fun x=>by
  unfold gI;rw[zD,zD,zR];cases goal[x]?<;>rfl
 rw[SX.sum_congr (g:=fun x=>(-1)*(gI goal x*Y x)) fun x _=>by rw[this];grind,SX.sum_mul];lia
structure Sz(w:Nat)(RR:List (List Int))(gv:List Gv)(goal:List Int):Prop where
 r:∀l∈RR,l.length=w
 g:∀z∈gv,z.row.length=w
 o:goal.length=w
 hg:∀Y:Nat->Int,(∀r∈RR,0<=val w r Y)->∀x,x<w->0<=Y x
theorem AI.of(Z:Sz w RR gv goal)(A:AI w RR.length gv (ak RR gv goal) i S)(F:Kp w RR gv Y e):(∀q∈S.gd,0<=Qt w (v0 w (ak RR gv goal)) Y e q)/\∀q∈S.nl,Qt w (v0 w (ak RR gv goal)) Y e q=0:=by
 refine⟨fun q c=>?_,fun q c=>?_⟩
 ·rcases A.g1 q c with h|⟨y,z,j,b,f,rfl⟩
  ·by_cases g:q<w
   ·rw[ID g];exact Z.hg Y F.rule q g
   ·have d:q-w<RR.length:=by lia
    have:=fg (Y:=Y) (e:=e) (uk (gv:=gv) (goal:=goal) d) (Z.r _ (Ý d))
    rw[show w+(q-w)=q by lia]at this;rw[this,yP,Ġ];exact F.rule _ (Ý d)
  ·have a:=zW b
   rw[ŏ,fg (kt b) (Z.g z a)]
   have:=F.ge z a f
   have k:- z.num*e=- (z.num*e):=by grind
   lia
 ·obtain⟨y,z,j,b,f,rfl⟩:=A.n1 q c
  have a:=zW b;rw[ŏ,fg (kt b) (Z.g z a)]
  have:=F.eq z a f
  have k:- z.num*e=- (z.num*e):=by grind
  lia
theorem AI.to(Z:Sz w RR gv goal)(A:AI w RR.length gv (ak RR gv goal) gv.length S)(f:∀q∈S.gd,0<=Qt w (v0 w (ak RR gv goal)) Y e q)(h:∀q∈S.nl,Qt w (v0 w (ak RR gv goal)) Y e q=0):Kp w RR gv Y e:=by
 refine⟨fun r g=>?_,fun z hz c=>?_,fun z hz c=>?_⟩
 ·obtain⟨i,d⟩:=z8 g
  have b:=(zB.mp d).1;have j:RR[i]=r:=(zB.mp d).2
  have:=f (w+i) (A.g2 _ oM)
  rw[fg (uk b) (Z.r _ (Ý b)),yP,Ġ,j]at this;exact this
 ·obtain⟨y,a⟩:=z8 hz
  have b:=(zB.mp a).1
  have:=h _ (A.n2 y z b a c)
  rw[ŏ,fg (kt a) (Z.g z hz)]at this;have k:- z.num*e=- (z.num*e):=by grind
  lia
 ·obtain⟨y,a⟩:=z8 hz
  have b:=(zB.mp a).1
  have:=f _ (A.g3 y z b a c)
  rw[ŏ,fg (kt a) (Z.g z hz)]at this;have k:- z.num*e=- (z.num*e):=by grind
  lia
theorem Di:∀q,q<w->∀x,x<w+1->v0 w L q x=if x=q then 1 else 0:=fun q a x _=>by unfold v0;rw[yH a]
theorem AI.vert(Z:Sz w RR gv goal)(A:AI w RR.length gv (ak RR gv goal) gv.length S){c:Nat}(J:c<w+1)(g:c<w->S.h c∉S.nl){X:Nat->Int}(r:∀i,i<RR.length+gv.length+1->S.s i<w->X (S.s i)=S.t i c)(b:∀j,j<w->S.h j<w->X (S.h j)=if j=c then S.d else 0)
  (e:∀i,i<RR.length+gv.length+1->S.s i∈S.gd->0<=S.t i c):Kp w RR gv X (if c=w then S.d else 0)/\val w goal X=- S.t (RR.length+gv.length) c:=by
 have I:=A.mi;have C:∀q∈S.tn,w<=q:=fun q a=>by obtain⟨y,z,_,_,_,rfl⟩:=A.n1 q (A.t1 q a);lia
 obtain⟨m,p⟩:=I.vert Di C J r b;have l:∀q∈S.gd,q∉S.tn:=fun q H F=>by
  obtain⟨y,z,x,v,u,t⟩:=A.n1 q (A.t1 q F);rcases A.g1 q H with h|⟨B,s,r,b,k,K⟩
  ·lia
  ·have:y=B:=by lia
   subst this;rw[v]at b;cases b;rw[u]at k;cases k
 have hd:=I.lin.pos;refine⟨A.to Z (fun q a=>?_) (fun q a=>?_),?_⟩
 ·have d:q<w+(RR.length+gv.length+1):=by
   rcases A.g1 q a with h|⟨y,z,_,b,_,rfl⟩
   ·lia
   ·have:=(zB.mp b).1;lia
  rcases I.pm.cov q d with⟨i,f,rfl⟩|⟨j,o,rfl⟩
  ·rw[m i f,yG (l _ a)];exact e i f a
  ·rw[p j o,yG (l _ a)];split<;>lia
 ·have d:q<w+(RR.length+gv.length+1):=by
   obtain⟨y,z,_,b,_,rfl⟩:=A.n1 q a
   have:=(zB.mp b).1;lia
  rcases I.pm.cov q d with⟨i,f,rfl⟩|⟨j,o,rfl⟩
  ·obtain⟨E,D⟩:=I.fea.n i f a
   have:S.t i c=0:=by
    by_cases h:c=w
    ·rw[h];exact E
    ·exact D c oM (g oM)
   rw[m i f,this];split<;>rfl
  ·rw[p j o,yG fun z=>g oM (by rw[<- z];exact a)]
 ·have G:=A.un (RR.length+gv.length) oM oM
  have k:=m (RR.length+gv.length) oM;rw[G]at k;have n:w+(RR.length+gv.length)∉S.tn:=fun z=>by
   obtain⟨y,s,x,_,_,t⟩:=A.n1 _ (A.t1 _ z);lia
  rw[yG n,fg Ar (by rw[zH];exact Z.o),pM,yP,Ġ]at k;lia
end
section
variable{w:Nat}{RR:List (List Int)}{gv:List Gv}{goal:List Int}{nn:Int}{HO:Nat->List Int}
theorem EQ{n0:Nat}{i:Nat}(h:(fi n0 xs)[i]?=À y):∃x,xs[i]?=À x/\y=.tup [.int ((n0+i:Nat):Int),x]:=by
 unfold fi at h;rw[zR]at h;obtain⟨z,a,rfl⟩:=zE.mp h;rw[Ż]at a;obtain⟨x,b,rfl⟩:=zE.mp a;exact⟨x,b,rfl⟩
theorem Ko:cb .Eq s (.str "=") (.str "=")=À Â:=by kernel_rfl
theorem J9:cb .Eq s (.str ">") (.str "=")=À Ã:=by kernel_rfl
structure Qu(nn:Int)(w:Nat)(RR:List (List Int))(HO:Nat->List Int)(gv:List Gv)(goal:List Int):Prop where
 HR:∀st,pm aT [.int nn] st=À (.fz (aG RR),st)
 HA:∀st,pm ao [.int nn] st=À (.int w,st)
 H:HOk nn w RR.length HO
 Z:Sz w RR gv goal
 hw:w<=15
 hR:RR.length<=100
 hg:gv.length<=100
 B:Bnd w (RR.length+gv.length+1) (v0 w (ak RR gv goal))
theorem vd(q:Qu nn w RR HO gv goal){k a b c g n u p:Nat}(R:Rep st k a b c g n u rows S)(I:MI w (RR.length+gv.length+1) (v0 w (ak RR gv goal)) S)(f:p<RR.length+gv.length+1)(m:S.tn.Nodup)(r:∀x∈S.tn,x<w+(RR.length+gv.length+1)) :
  ∃st1 W st2,aN [.int nn,.ref k,.int p] st=À (.ref (st.length+1),st1)/\pm aj [.ref (st.length+1)] st1=À (.fz (iL W),st2):=by
 obtain⟨z,D,T,W,y,G,v,e,d⟩:=Cc R I.shp I.pm f m r (by have:=q.hw;lia) (by have:=q.hg;have:=q.hR;lia) q.HA q.H oM;obtain⟨F,E⟩:=z;dsimp only at e d;subst e;subst d;have A:(st++[O3.lst (iL T)]++[O3.lst (iL W)])[st.length+1]?=À (.lst (iL W)):=by
  have:(st++[O3.lst (iL T)]).length=st.length+1:=by simp
  rw[<- this];exact gl
 have i:∀x∈W,x.natAbs<2^9000:=fun x o=>by
  obtain⟨j,h⟩:=z8 o;have t:=(zB.mp h).1;have B:gI W j=x:=by unfold gI;rw[zD,h];rfl
  rw[<- B,v j oM];exact Cd (y.bd f I.pm (q.B.bd8 I)) q.H q.hw j
 obtain⟨st2,C,_⟩:=lD (fn:=aj) (rest:=[]) (st:=st++[O3.lst (iL T)]++[O3.lst (iL W)]) (x:=.ref (st.length+1)) (l:=W) (.inr ⟨_,rfl,.inl A⟩) rfl rfl (fun s=>rfl) (rq (by have:=q.hg;have:=q.hR;lia) i) rfl (by simp[flat]);exact⟨_,_,st2,D,C⟩
theorem B6(q:Qu nn w RR HO gv goal):∃z,g7 [.int nn,.fz (gv.map Gv.av),.fz (iL goal)] []=À z/\∃t,de z.2 z.1=À t/\xn w RR gv goal t:=by
 have Z:=q.Z;obtain⟨m,hm⟩:∃m,m=RR.length+gv.length:=⟨_,rfl⟩;have hLl:(ak RR gv goal).length=m+1:=by rw[xj,hm]
 obtain⟨L,hL⟩:∃L,L=ak RR gv goal:=⟨_,rfl⟩;obtain⟨N,e1,R1⟩:=G1 (gv:=gv) (goal:=goal) q.HR q.HA q.hw q.hR Z.r q.hg Z.g Z.o;have A0:AI w RR.length gv (ak RR gv goal) 0 (SX.openS w (ak RR gv goal) (w+RR.length)):=by
  have hLen:∀l∈ak RR gv goal,l.length=w+1:=fun l hl=>by
   unfold ak at hl;simp only[zZ,yC,zM]at hl;rcases hl with(⟨r,hr,rfl⟩|⟨z,hz,rfl⟩)|rfl
   ·simp[Z.r r hr]
   ·simp[Z.g z hz]
   ·simp[Z.o]
  have hI:=SX.open_MI (w:=w) (nr:=RR.length) (L:=ak RR gv goal) hLen fun i B=>by
   rw[zD,uk B];show gI (RR[i]++[0]) w=0;rw[tF (Z.r _ (Ý B)),yG oM,yH rfl]
  rw[xj]at hI;refine⟨hI,fun x _ b=>SX.open_s (by rw[xj];exact b),fun x b=>.inl (Ë.mp b),fun x b=>Ë.mpr b,fun y z h=>by lia,fun x b=>?_,fun y z h=>by lia,fun x b=>?_,W?,by simp[SX.openS],zP 0,zP 0⟩
  ·exact absurd (show x ∈ ([]:List Nat) from b) (by simp)
  ·exact absurd (show x ∈ ([]:List Nat) from b) (by simp)
 have sm:=q.hg;have sm2:=q.hR;have sm3:=q.hw;rw[g7];simp only[aB];unfold oi;refine ai (sl':=[Is nn,Zs (gv.map Gv.av),Ls goal,Rs 1,Á,Á,Á,Á,Á]) (st':=N) (by simp[e1]) ?_;have l2:b8 N (.ref 2)=À (aG (ak RR gv goal)):=cm R1.ha;refine ai (sl':=[Is nn,Zs (gv.map Gv.av),Ls goal,Rs 1,Is (m:Int),Á,Á,Á,Á]) (st':=N) (by simp[R1.ins,bY,dj,l2,hLl]) ?_
 have loop:=kh (gd:=[]) (g:=cB [b9,cL,bO,aN,aj,bM,bL,aX,cK] (.tu 2 (.cons (.nm 5) (.cons (.nm 6) .nil))))
  (s:=af [b9,cL,bO,aN,aj,bM,bL,aX,cK] (.cons (.as (.ife (.cmp .Eq (.ix (.v 6) (.i 1)) (.s "=")) (.ca Ã 1 (.cons (.v 3) (.cons (.v 5) .nil))) (.ca Ã 2 (.cons (.v 3) (.cons (.v 5) .nil)))) (.nm 7))
   (.cons (.iff (.no (.va (.v 7))) (.cons (.rt (.tu (.cons (.s "never") (.cons (.ca Â 4 (.cons (.ca Ã 3 (.cons (.v 0) (.cons (.v 3) (.cons (.v 5) .nil)))) .nil)) .nil)))) .nil) .nil) .nil)))
  (I:=fun i sl s=>∃a P S x5 x6 x7,sl=[Is nn,Zs (gv.map Gv.av),Ls goal,Rs 1,Is (m:Int),x5,x6,x7,Á]/\Rep s 1 a 3 4 5 6 7 P S/\AI w RR.length gv (ak RR gv goal) i S)
  (Post:=fun v s=>∃t,de s v=À t/\xn w RR gv goal t) (xs:=fi RR.length (gv.map Gv.av)) (fun _ _ _ _ _=>rfl)
  (fun i y sl s E hI=>by
   obtain⟨a,P,S,x5,x6,x7,rfl,R,A⟩:=hI;obtain⟨x,b,rfl⟩:=EQ E;rw[zR]at b;obtain⟨z,hz,rfl⟩:=zE.mp b;have hzm:=zW hz;have B:=(zB.mp hz).1;have hp:RR.length+i<RR.length+gv.length+1:=by lia
   have I:=A.mi;have sp:S.s (RR.length+i)=w+RR.length+i:=by rw[A.un _ (zP _) hp];lia
   have ng:S.s (RR.length+i)∉S.gd:=fun h=>by
    rcases A.g1 _ h with h|⟨y,_,h,_,_,f⟩<;>lia
   have nn':S.s (RR.length+i)∉S.nl:=fun h=>by obtain⟨y,_,h,_,_,f⟩:=A.n1 _ h;lia
   have nt:S.s (RR.length+i)∉S.tn:=fun h=>nn' (A.t1 _ h)
   have unk:∀T:Sh,Kj (RR.length+gv.length+1) (RR.length+i) S T->∀x,RR.length+(i+1)<=x->x<RR.length+gv.length+1->T.s x=w+x:=fun T K x k f=>by
    have e:=A.un x oM f;rw[K.si x f oM (by rw[e];intro h;rcases A.g1 _ h with h|⟨y,_,h,_,_,f⟩<;>lia),e]
   have lst:∀x∈S.nl,x<w+(RR.length+gv.length+1):=fun x b=>by
    obtain⟨y,_,h,_,_,f⟩:=A.n1 _ b;lia
   have nev:∀(T:Sh),MI w (RR.length+gv.length+1) (v0 w (ak RR gv goal)) T->T.gd=S.gd->T.nl=S.nl->(∀x∈T.tn,x∈T.nl\/x=T.s (RR.length+i))->T.s (RR.length+i)=S.s (RR.length+i)->T.t (RR.length+i) w<0->(∀j,j<w->T.h j∉T.nl->¬0<T.t (RR.length+i) j)->(z.eq=Ã->T.s (RR.length+i)∉T.tn)->∀Y e,0<e->¬Kp w RR gv Y e:=fun T I' C G Q U low hr hzt Y e he F=>by
    obtain⟨f1,f2⟩:=A.of Z F;have d:=I'.dual hp hr Q (Y:=Y) (e:=e) (fun j hj h=>by
     rcases I'.fea.f j hj with k|k
     ·rw[show(T.h j∈T.gd)=(T.h j∈S.gd) by rw[C]]at k;exact f1 _ k
     ·exact absurd k h) (fun j hj h=>by rw[G]at h;exact f2 _ h)
    have neg:=p! low he;have qe:=fg (Y:=Y) (e:=e) (kt (RR:=RR) (goal:=goal) hz) (Z.g z hzm);have e1:- z.num*e=- (z.num*e):=by grind
    rw[U,sp,ŏ,qe]at d;cases u:z.eq with
    |true =>
     have:=F.eq z hzm u
     rw[show val w z.row Y+- z.num*e=0 by lia]at d;split at d<;>lia
    |false =>
     have h3:=F.ge z hzm u;have h4:=hzt u;rw[U,sp,ŏ]at h4;rw[yG h4]at d
     have:=ç (Č I'.lin.pos) (show 0 <= val w z.row Y + - z.num * e by lia)
     lia
   cases u:z.eq with
   |true =>
    obtain⟨T,s2,a2,J,bb,e2,R2,K,C,I2,hb⟩:=JY q.B R I hp ng nn' nt (by have:=A.ln;lia) (by have:=A.lt;lia);have tnd:T.tn.Nodup:=by
     rcases K.tn with h|h
     ·rw[h];exact A.tn
     ·rw[h]
      rw[Ϟ];exact⟨A.tn,by simp,fun x b y E e=>nt (by rw[<- zM.mp E,<- e];exact b)⟩
    have es:cW [b9,cL,bO,aN,aj,bM,bL,aX,cK] (.as (.ife (.cmp .Eq (.ix (.v 6) (.i 1)) (.s "=")) (.ca Ã 1 (.cons (.v 3) (.cons (.v 5) .nil))) (.ca Ã 2 (.cons (.v 3) (.cons (.v 5) .nil)))) (.nm 7)) [Is nn,Zs (gv.map Gv.av),Ls goal,Rs 1,Is (m:Int),Is ((RR.length+i:Nat):Int),À z.av,x7,Á] s
      = À (.nx [Is nn,Zs (gv.map Gv.av),Ls goal,Rs 1,Is (m:Int),Is ((RR.length+i:Nat):Int),À z.av,À (.bl bb),Á] s2):=by
     have xi:aR s z.av (.int 1)=À (.str "="):=by
      have:z.av=.tup [.fz (iL z.row),.str "=",.int z.num]:=by unfold Gv.av;rw[u];rfl
      rw[this];rfl
     simp only[iC,Cf,v6,vO,oj,xq,KQ,kQ,kP,Æ,xi,Û,Ko,ite_true,nJ,eA,fF,wo,nW,pY,e2,BP];rfl
    rcases hb with⟨rfl,G⟩|⟨rfl,G,U,low,hr⟩
    ·refine⟨_,.nx [Is nn,Zs (gv.map Gv.av),Ls goal,Rs 1,Is (m:Int),Is ((RR.length+i:Nat):Int),À z.av,À (.bl Â),Á] s2,rfl,ay es ?_,.inl ⟨_,s2,rfl,a2,J,T,_,_,_,rfl,R2,⟨I2,unk T K,fun x b=>?_,fun x b=>by rw[C];exact A.g2 x b,fun y H E k f=>?_,fun x b=>?_,fun y H E k f=>?_,fun x b=>?_,tnd,?_,?_,?_⟩⟩⟩
     ·simp[fu,b8,dr]
     ·rw[C]at b
      rcases A.g1 x b with h|⟨y,H,k,f⟩
      ·exact .inl h
      ·exact .inr ⟨y,H,by lia,f⟩
     ·rw[C]
      by_cases e:y=i
      ·subst e;rw[hz]at k;cases k;rw[u]at f;cases f
      ·exact A.g3 y H oM k f
     ·rw[G,zZ,zM]at b
      rcases b with b|b
      ·obtain⟨y,H,k,f⟩:=A.n1 x b;exact⟨y,H,by lia,f⟩
      ·exact⟨i,z,by lia,hz,u,by rw[b,sp]⟩
     ·rw[G,zZ,zM]
      by_cases e:y=i
      ·subst e;exact .inr (by rw[sp])
      ·exact .inl (A.n2 y H oM k f)
     ·rw[G,zZ,zM]
      rcases K.tn with h|h
      ·rw[h]at b;exact .inl (A.t1 x b)
      ·rw[h,zZ,zM]at b
       exact b.imp (A.t1 x) id
     ·rw[C];have:=A.lg;lia
     ·rw[G,zV];have:=A.ln;simp;lia
     ·rcases K.tn with h|h
      ·rw[h];have:=A.lt;lia
      ·rw[h,zV];have:=A.lt;simp;lia
    ·have tq:∀x∈T.tn,x∈T.nl\/x=T.s (RR.length+i):=fun x b=>by
      rw[G,U];rcases K.tn with h|h
      ·rw[h]at b;exact .inl (A.t1 x b)
      ·rw[h,zZ,zM]at b
       exact b.imp (A.t1 x) id
     obtain⟨s3,W,s4,e3,e4⟩:=vd q R2 I2 hp tnd fun x b=>by
      rcases tq x b with h|h
      ·rw[G]at h;exact lst x h
      ·rw[h,U,sp];lia
     refine⟨_,.rt (.tup [.str "never",.fz (iL W)]) s4,rfl,ay es ?_,.inr ⟨_,s4,rfl,_,rfl,.inl ⟨⟨W,rfl⟩,nev T I2 C G tq U low hr (fun h=>by rw[u]at h;cases h)⟩⟩⟩;rw[W1]at e3;simp[fu,b8,dr,e3,e4]
   |false =>
    obtain⟨T,s2,a2,J,bb,e2,R2,K,Q,G,I2,hb⟩:=JX q.B R I hp ng nn' (by have:=A.lg;lia);have es:cW [b9,cL,bO,aN,aj,bM,bL,aX,cK] (.as (.ife (.cmp .Eq (.ix (.v 6) (.i 1)) (.s "=")) (.ca Ã 1 (.cons (.v 3) (.cons (.v 5) .nil))) (.ca Ã 2 (.cons (.v 3) (.cons (.v 5) .nil)))) (.nm 7)) [Is nn,Zs (gv.map Gv.av),Ls goal,Rs 1,Is (m:Int),Is ((RR.length+i:Nat):Int),À z.av,x7,Á] s
      = À (.nx [Is nn,Zs (gv.map Gv.av),Ls goal,Rs 1,Is (m:Int),Is ((RR.length+i:Nat):Int),À z.av,À (.bl bb),Á] s2):=by
     have xi:aR s z.av (.int 1)=À (.str ">"):=by
      have:z.av=.tup [.fz (iL z.row),.str ">",.int z.num]:=by unfold Gv.av;rw[u];rfl
      rw[this];rfl
     simp only[iC,Cf,v6,vO,oj,xq,KQ,kQ,kP,Æ,xi,Û,J9,yA,ite_false,nJ,eA,fF,wo,nW,pY,e2,BP];rfl
    rcases hb with⟨rfl,C⟩|⟨rfl,C,U,low,hr⟩
    ·refine⟨_,.nx [Is nn,Zs (gv.map Gv.av),Ls goal,Rs 1,Is (m:Int),Is ((RR.length+i:Nat):Int),À z.av,À (.bl Â),Á] s2,rfl,ay es ?_,.inl ⟨_,s2,rfl,a2,J,T,_,_,_,rfl,R2,⟨I2,unk T K,fun x b=>?_,fun x b=>by rw[C];exact zL _ (A.g2 x b),fun y H E k f=>?_,fun x b=>?_,fun y H E k f=>?_,fun x b=>by rw[Q]at b;rw[G];exact A.t1 x b,by rw[Q];exact A.tn,?_,by rw[G];have:=A.ln;lia,by rw[Q];have:=A.lt;lia⟩⟩⟩
     ·simp[fu,b8,dr]
     ·rw[C,zZ,zM]at b
      rcases b with b|b
      ·rcases A.g1 x b with h|⟨y,H,k,f⟩
       ·exact .inl h
       ·exact .inr ⟨y,H,by lia,f⟩
      ·exact .inr ⟨i,z,by lia,hz,u,by rw[b,sp]⟩
     ·rw[C,zZ,zM]
      by_cases e:y=i
      ·subst e;exact .inr (by rw[sp])
      ·exact .inl (A.g3 y H oM k f)
     ·rw[G]at b
      obtain⟨y,H,k,f⟩:=A.n1 x b;exact⟨y,H,by lia,f⟩
     ·rw[G]
      by_cases e:y=i
      ·subst e;rw[hz]at k;cases k;rw[u]at f;cases f
      ·exact A.n2 y H oM k f
     ·rw[C,zV];have:=A.lg;simp;lia
    ·have tq:∀x∈T.tn,x∈T.nl\/x=T.s (RR.length+i):=fun x b=>.inl (by rw[Q]at b;rw[G];exact A.t1 x b)
     obtain⟨s3,W,s4,e3,e4⟩:=vd q R2 I2 hp (by rw[Q];exact A.tn) fun x b=>by rw[Q]at b;exact lst x (A.t1 x b)
     refine⟨_,.rt (.tup [.str "never",.fz (iL W)]) s4,rfl,ay es ?_,.inr ⟨_,s4,rfl,_,rfl,.inl ⟨⟨W,rfl⟩,nev T I2 C G tq U low hr (fun _=>by rw[Q,U];exact nt)⟩⟩⟩;rw[W1]at e3;simp[fu,b8,dr,e3,e4]) (sl:=[Is nn,Zs (gv.map Gv.av),Ls goal,Rs 1,Is (m:Int),Á,Á,Á,Á]) (st:=N) ⟨2,_,_,Á,Á,Á,rfl,R1,A0⟩
 have ei:d3 [b9,cL,bO,aN,aj,bM,bL,aX,cK] (.es (.v 1) (.bin .Sub (.v 4) (.bi .len (.cons (.v 1) .nil)))) [Is nn,Zs (gv.map Gv.av),Ls goal,Rs 1,Is (m:Int),Á,Á,Á,Á] N=À (⟨fi RR.length (gv.map Gv.av),[]⟩,N):=by
  have k:(m:Int)-(gv.length:Int)=(RR.length:Int):=by lia
  have f:ß RR.length 1000000=Â:=yK oM;simp[wU,bY,dj,k];lia
 rcases loop with⟨sl',st2,e2,a,P,S,x5,x6,x7,rfl,R,A⟩|⟨v,st2,e2,t,Q,hA⟩
 ·rw[show(fi RR.length (gv.map Gv.av)).length=gv.length by unfold fi;simp]at A
  refine ai (sl':=[Is nn,Zs (gv.map Gv.av),Ls goal,Rs 1,Is (m:Int),x5,x6,x7,Á]) (st':=st2) (by rw[jP,ei,Æ];exact e2) ?_;have hp:m<RR.length+gv.length+1:=by lia
  have spg:S.s m=w+m:=A.un m oM hp;have ng:S.s m∉S.gd:=fun h=>by rcases A.g1 _ h with h|⟨y,_,h,_,_,f⟩<;>lia
  obtain⟨r,e3,n,a3,rows3,R3,K,o,sp3,h3⟩:=ER q.B R A.mi hp ng;have A3:AI w RR.length gv (ak RR gv goal) gv.length n:=by
   refine⟨o,fun x k f=>?_,by rw[K.gd];exact A.g1,by rw[K.gd];exact A.g2,by rw[K.gd];exact A.g3,by rw[K.nl];exact A.n1,by rw[K.nl];exact A.n2,by rw[K.tn,K.nl];exact A.t1,by rw[K.tn];exact A.tn,by rw[K.gd];exact A.lg,by rw[K.nl];exact A.ln,by rw[K.tn];exact A.lt⟩;have:x=m:=by lia
   subst this;rw[sp3,spg]
  have P3:=o.shp;have lst:∀x∈n.tn,x<w+(RR.length+gv.length+1):=fun x b=>by
   obtain⟨y,_,h,_,_,f⟩:=A3.n1 _ (A3.t1 x b);lia
  obtain⟨r1,r2⟩:=r;dsimp only at R3 h3
  have tb:∀X,GX n w w (RR.length+gv.length+1) X->Kp w RR gv (gI X) n.d/\val w goal (gI X)=- n.t m w:=fun X D=>by
   have:=A3.vert Z (c:=w) oM (fun h=>by lia) (X:=gI X) D.at_ (fun j hj h=>by
    rw[yG oM];exact D.no _ h fun i B=>æ (o.pm.hs j i hj B)) (fun i B C=>o.fea.g i B C)
   rw[yH rfl,<- hm]at this;exact this
  rcases h3 with⟨rfl,hr⟩|⟨M,rfl,hr,htn⟩
  ·refine ai (sl':=[Is nn,Zs (gv.map Gv.av),Ls goal,Rs 1,Is (m:Int),x5,x6,x7,À .non]) (st':=r2) (by simp[R.ins,e3]) ?_
   obtain⟨z,e4,X,T,W,D,hT,hl,hW,hz⟩:=BD (m:=RR.length+gv.length) (p:=m) R3 o q.B oM A3.tn lst q.hw oM q.HA q.H oM;obtain⟨z1,z2⟩:=z;dsimp only at hz;have gb:∀x∈X,x.natAbs<2^2500:=lE fun i B=>by
    rw[D.len]at B;by_cases h:∃y,y<RR.length+gv.length+1/\n.s y=i
    ·obtain⟨y,E,rfl⟩:=h
     rw[D.at_ y E B];exact(q.B.bd2 o).2 y E w oM
    ·rw[D.no i B fun y E z=>h ⟨y,E,z⟩];exact Ö _
   refine⟨(z1,z2),by simp[e4],z1,by rw[hz];rfl,.inr (.inl ⟨- n.t m w,n.d,_,_,_,_,hz,o.lin.pos,⟨by rw[ã];exact(q.B.bd2 o).2 m oM w oM,(q.B.bd2 o).1⟩,TbS.of D.len o.lin.pos ⟨gb,(q.B.bd2 o).1⟩ (tb X D).1 (tb X D).2,fun Y e he F=>?_⟩)⟩;obtain⟨f1,f2⟩:=A3.of Z F;have d:=o.dual hp (hr.1 rfl) (fun x b=>.inl (A3.t1 x b)) (Y:=Y) (e:=e) (fun j hj h=>by
    rcases o.fea.f j hj with k|k
    ·exact f1 _ k
    ·exact absurd k h) (fun j hj h=>f2 _ h)
   have hnt:n.s m∉n.tn:=fun z=>by
    obtain⟨y,_,h,_,_,f⟩:=A3.n1 _ (A3.t1 _ z);rw[sp3,spg]at f;lia
   rw[yG hnt,sp3,spg,hm,fg Ar (by rw[zH];exact Z.o),pM,yP,Ġ,<- hm]at d;have e5:n.d*- val w goal Y=- (val w goal Y*n.d):=by grind
   have e6:- n.t m w*e=- (n.t m w*e):=by grind
   lia
  ·refine ai (sl':=[Is nn,Zs (gv.map Gv.av),Ls goal,Rs 1,Is (m:Int),x5,x6,x7,Is (M:Int)]) (st':=r2) (by simp[R.ins,e3]) ?_
   obtain⟨q1,q2,q3,_⟩:=hr.2 M rfl;obtain⟨X,T,st4,e4,eT,D,R4⟩:=Cm R3 P3 o.pm (q.B.bd o) q.HA oM oM;subst eT;have gb:∀c,c<w+1->∀X,GX n w c (RR.length+gv.length+1) X->∀x∈X,x.natAbs<2^2500:=fun c hc X D=>lE fun i B=>by
    rw[D.len]at B;by_cases h:∃y,y<RR.length+gv.length+1/\n.s y=i
    ·obtain⟨y,E,rfl⟩:=h
     rw[D.at_ y E B];exact(q.B.bd2 o).2 y E c hc
    ·rw[D.no i B fun y E z=>h ⟨y,E,z⟩];exact Ö _
   obtain⟨X2,st5,e5,O⟩:=IR R4 P3 o.pm (q.B.bd o) q.HA oM oM q1;obtain⟨V,hV⟩:∃V,V=if n.h M<w then X2.set (n.h M) n.d else X2:=⟨_,rfl⟩
   rw[<- hV]at e5;have hVl:V.length=w:=by rw[hV];split<;>simp[O.len]
   have hVb:∀x∈V,x.natAbs<2^2500:=fun x b=>by
    rw[hV]at b;split at b
    ·rcases ă b with h|h
     ·exact gb M oM X2 O x h
     ·rw[h];exact(q.B.bd2 o).1
    ·exact gb M oM X2 O x b
   have hVx:∀x,x<w->gI V x=if x=n.h M then n.d else gI X2 x:=fun x b=>by
    rw[hV];by_cases h:n.h M<w
    ·rw[yH h,p6 (by rw[O.len];exact h)]
    ·rw[yG h,yG oM]
   obtain⟨g',hg',eg⟩:=wL V;refine⟨(.tup [.str "endless",.tup [.fz (iL ((aq (X++[n.d])).take w)),.int (gI (aq (X++[n.d])) w)],.fz (iL (aq V))],st5),by simp[e4,e5],_,rfl,.inr (.inr ⟨_,_,_,rfl,(TbS.of D.len o.lin.pos ⟨gb w oM X D,(q.B.bd2 o).1⟩ (tb X D).1 (tb X D).2).1,⟨by rw[i9,hVl],lE fun i _=>sU (Ö _) hVb i⟩,?_⟩)⟩
   have:=A3.vert Z (c:=M) oM (fun _=>q2) (X:=fun x=>if x=n.h M then n.d else gI X2 x) (fun i B U=>by
    rw[yG (æ (o.pm.hs M i q1 B))];exact O.at_ i B U) (fun j hj h=>by
    by_cases e:j=M
    ·subst e;rw[yH rfl,yH rfl]
    ·rw[yG fun z=>e (o.pm.hi j M hj q1 z),yG e]
     exact O.no _ h fun i B=>æ (o.pm.hs j i hj B)) (fun i B C=>by have:=htn.1 rfl i B C;lia)
   rw[yG oM,<- hm]at this;have ew:∀x,x<w->(if x=n.h M then n.d else gI X2 x)=g'*gI (aq V) x:=fun x b=>by rw[<- eg,hVx x b]
   refine⟨this.1.div hg' (by rw[yO]) ew,?_⟩;have e2:=this.2;rw[mh ew]at e2;have:g'*val w goal (gI (aq V))<0:=by rw[e2];lia
   rcases yU (val w goal (gI (aq V))) 0 with h|h
   ·exact h
   ·have:=ç (Č hg') h;lia
 ·refine⟨(v,st2),?_,t,Q,hA⟩
  refine cq ?_;rw[jP,ei,Æ];exact e2
end
noncomputable def RR2:List (List Int):=[[0,-1,1],[-1,0,1],[1,1,-1]]
noncomputable def LJ:Nat->List Int
 |1=>[1,0,1]
 |2=>[0,1,1]
 |_=>[1,1,1]
noncomputable def RR3:List (List Int):=[[0,0,0,0,0,-1,1],[0,0,0,0,-1,0,1],[0,0,-1,0,0,0,1],[1,1,-1,0,0,0,0],[0,0,0,-1,1,1,-1],[1,0,0,1,-1,0,0],[0,-1,1,0,0,1,-1],[0,1,0,1,0,-1,0],[-1,0,1,0,1,0,-1]]
noncomputable def LI:Nat->List Int
 |1=>[1,0,0,1,0,0,1,0,0]
 |2=>[0,1,0,1,0,0,0,0,1]
 |3=>[1,1,0,1,0,0,1,0,1]
 |4=>[0,0,1,0,0,1,0,0,1]
 |5=>[1,0,1,1,0,0,1,0,1]
 |6=>[0,1,1,1,0,0,1,0,1]
 |_=>[1,1,1,1,0,0,1,0,1]
theorem eZ(a:rfs args=Â)(h:((fn args []).bind fun p=>de p.2 p.1)=À t):pm fn args st=À (t,st):=by
 obtain⟨p,c,b⟩:=zA h;exact aZ a c b
def Nv(nn:Int)(w nr:Nat)(HO:Nat->List Int):Bool:=(Ä w).all fun g=>(match (c9 [.int nn,.int ((g+1:Nat):Int),.int 0] []).bind fun p=>de p.2 p.1 with
 |some rr=>rf rr&&(match (eB [.int nn,rr] []).bind fun p=>de p.2 p.1 with
  |some x=>c5 x (.fz (iL (HO (g+1))))
  |none=>Ã)
 |none=>Ã)&&((HO (g+1)).length==nr&&(HO (g+1)).all fun x=>ß x.natAbs 15)
theorem wV{f:Int}{w nr:Nat}{HO:Nat->List Int}(h:Nv f w nr HO=Â):HOk f w nr HO:=by
 have at_:∀a:Nat,1<=a->a<=w->(∃e,(∀b,pm c9 [.int f,.int a,.int 0] b=À (e,b))/\∀b,pm eB [.int f,e] b=À (.fz (iL (HO a)),b))/\(HO a).length=nr/\∀x∈HO a,x.natAbs<=15:=fun a d c=>by
  obtain⟨g,rfl⟩:∃g,a=g+1:=⟨a-1,by lia⟩;have h:=yQ.mp h g (Ë.mpr oM);simp only[zC]at h;obtain⟨i,o,n⟩:=h;refine⟨?_,yJ o,fun x l=>zS (yQ.mp n x l)⟩;split at i
  ·rename_i e p
   simp only[zC]at i;obtain⟨m,j⟩:=i;split at j
   ·rename_i x k
    rw[qf j]at k;exact⟨e,fun b=>eZ rfl p,fun b=>eZ (by simp[rfs,rf,m]) k⟩
   ·cases j
  ·cases i
 exact⟨fun a d c=>(at_ a d c).1,fun a d c=>(at_ a d c).2.1,fun a d c=>(at_ a d c).2.2⟩
theorem NV:∀st,pm ao [.int 2] st=À (.int ((3:Nat):Int),st):=fun st=>eZ rfl (by kernel_rfl)
theorem NU:∀st,pm ao [.int 3] st=À (.int ((7:Nat):Int),st):=fun st=>eZ rfl (by kernel_rfl)
theorem NP:∀st,pm aT [.int 2] st=À (.fz (aG RR2),st):=fun st=>eZ rfl (by kernel_rfl)
theorem NO:∀st,pm aT [.int 3] st=À (.fz (aG RR3),st):=fun st=>eZ rfl (by kernel_rfl)
theorem NS:HOk 2 3 RR2.length LJ:=wV (by kernel_rfl)
theorem NR:HOk 3 7 RR3.length LI:=wV (by kernel_rfl)
noncomputable def RR1:List (List Int):=[[1]]
noncomputable def LK:Nat->List Int:=fun _=>[1]
theorem NW:∀st,pm ao [.int 1] st=À (.int ((1:Nat):Int),st):=fun st=>eZ rfl (by kernel_rfl)
theorem NQ:∀st,pm aT [.int 1] st=À (.fz (aG RR1),st):=fun st=>eZ rfl (by kernel_rfl)
theorem NT:HOk 1 1 RR1.length LK:=wV (by kernel_rfl)
noncomputable def M0:Nat:=2^120
theorem Iq{w:Nat}(o:w<=15)(t:RR.length<=100)(s:gv.length<=100)(k:∀l∈RR,∀x∈l,x.natAbs<=M0)(c:∀z∈gv,(∀x∈z.row,x.natAbs<=M0)/\z.num.natAbs<=M0)(j:∀x∈goal,x.natAbs<=M0):Bnd w (RR.length+gv.length+1) (v0 w (ak RR gv goal)):=by
 refine⟨⟨M0,ϖ,fun q x n=>?_,?_⟩,by lia,by lia⟩
 ·have i:1<=M0:=ϖ
  unfold v0;split
  ·split<;>simp[i]
  ·unfold gI
   rw[zD,zD];cases e:(ak RR gv goal)[q-w]? with
   |none=>simp
   |some l =>
    have b:=zW e;simp only[ň];cases m:l[x]? with
    |none=>simp
    |some y =>
     have a:=zW m;simp only[ň];unfold ak at b;simp only[zZ,yC,zM]at b;rcases b with(⟨r,g,rfl⟩|⟨z,hz,rfl⟩)|rfl
     ·rcases zZ.mp a with h|h
      ·exact k r g y h
      ·rw[zM.mp h];simp
     ·rcases zZ.mp a with h|h
      ·exact(c z hz).1 y h
      ·rw[zM.mp h,ã];exact(c z hz).2
     ·rcases zZ.mp a with h|h
      ·obtain⟨u,d,rfl⟩:=yC.mp h
       rw[ã];exact j u d
      ·rw[zM.mp h];simp
 ·have f:SX.fct (w+1)<=2^45:=(by decide:∀w,w<16->SX.fct (w+1)<=2^45) w oM
  have p:M0^(w+1)<=2^1920:=by
   unfold M0;rw[<- Nat.pow_mul];exact ĉ dC oM
  refine yL (Ŝ f p) ?_;rw[<- ŧ];exact œ dC dC
def kE(cs:List Int)(RR:List (List Int))(x:Nat):Int:=((cs.zip RR).map fun z=>z.1*gI z.2 x).sum
theorem vg{w:Nat}{Y:Nat->Int}:∀(cs:List Int)(RR:List (List Int)),O5 w (fun x=>kE cs RR x*Y x)=((cs.zip RR).map fun z=>z.1*val w z.2 Y).sum
 |[],_=>by simp[kE];exact SX.sum_zero fun _ _=>rfl
 |_::_,[]=>by simp[kE];exact SX.sum_zero fun _ _=>rfl
 |c::cs,r::RR=>by
  rw[ě,zO,n!,<- vg cs RR];unfold val;rw[<- SX.sum_mul,<- SX.sum_add];refine SX.sum_congr fun x _=>?_
  show kE (c::cs) (r::RR) x*Y x=_;have:kE (c::cs) (r::RR) x=c*gI r x+kE cs RR x:=by simp[kE]
  rw[this];grind
theorem Hv{w:Nat}{Y:Nat->Int}{a:List Int}{RR:List (List Int)}(e:∀c∈a,0<=c)(h:∀r∈RR,0<=val w r Y):0<=((a.zip RR).map fun z=>z.1*val w z.2 Y).sum:=by
 have:∀l:List (Int×List Int),(∀z∈l,0<=z.1/\0<=val w z.2 Y)->0<=(l.map fun z=>z.1*val w z.2 Y).sum:=fun l=>by
  induction l with
  |nil=>intro _;simp
  |cons z l b =>
   intro h;rw[zO,n!];have g:=ç (h z z7).1 (h z z7).2;have f:=b fun y d=>h y (zQ _ d)
   lia
 exact this _ fun z hz=>⟨e _ (û hz).1,h _ (û hz).2⟩
def Lf(w:Nat)(RR:List (List Int))(HO:Nat->List Int):Bool:=(Ä w).all fun g=>(HO (g+1)).all (fun c=>decide (0<=c))&&(Ä w).all fun x=>kE (HO (g+1)) RR x==if x=g then 1 else 0
theorem wv{w:Nat}{RR:List (List Int)}{HO:Nat->List Int}(a:Lf w RR HO=Â):∀Y:Nat->Int,(∀r∈RR,0<=val w r Y)->∀x,x<w->0<=Y x:=fun Y h g d=>by
 have a:=yQ.mp a g (Ë.mpr d);rw[zC]at a;have f:∀c∈HO (g+1),0<=c:=fun c f=>of_decide_eq_true (yQ.mp a.1 c f)
 have b:∀x,x<w->kE (HO (g+1)) RR x=if x=g then 1 else 0:=fun x b=>yJ (yQ.mp a.2 x (Ë.mpr b))
 have e:=vg (w:=w) (Y:=Y) (HO (g+1)) RR;rw[SX.sum_one d fun x j i=>by rw[b x j,yG i,yP],b g d,yH rfl,ſ]at e;rw[e];exact Hv f h
def i8(n:Nat):Prop:=n=1\/n=2\/n=3
def uh(n:Nat):List (List Int):=if n=1 then RR1 else if n=2 then RR2 else RR3
def LH(n:Nat):Nat->List Int:=if n=1 then LK else if n=2 then LJ else LI
theorem Nl{n:Nat}{gv:List Gv}{goal:List Int}(a:i8 n)(c:gv.length<=100)(g:∀z∈gv,z.row.length=2^n-1/\(∀x∈z.row,x.natAbs<=M0)/\z.num.natAbs<=M0)(f:goal.length=2^n-1/\∀x∈goal,x.natAbs<=M0):Qu n (2^n-1) (uh n) (LH n) gv goal:=by
 have h:∀l∈uh n,l.length=2^n-1/\∀x∈l,x.natAbs<=1:=by rcases a with rfl|rfl|rfl<;>decide +kernel
 have d:(uh n).length<=100:=by rcases a with rfl|rfl|rfl<;>decide
 have b:2^n-1<=15:=by rcases a with rfl|rfl|rfl<;>decide
 have k:1<=M0:=ϖ;have j:Lf (2^n-1) (uh n) (LH n)=Â:=by rcases a with rfl|rfl|rfl<;>kernel_rfl
 have B:=Iq b d c (fun l e x i=>z5 ((h l e).2 x i) k) (fun z hz=>(g z hz).2) f.2;have Z:Sz (2^n-1) (uh n) gv goal:=⟨fun l e=>(h l e).1,fun z hz=>(g z hz).1,f.1,wv j⟩;rcases a with rfl|rfl|rfl
 ·exact⟨NQ,NW,NT,Z,b,d,c,B⟩
 ·exact⟨NP,NV,NS,Z,b,d,c,B⟩
 ·exact⟨NO,NU,NR,Z,b,d,c,B⟩
theorem IB{a:Int}{w:Nat}{RR:List (List Int)}{HO:Nat->List Int}{gv:List Gv}{goal:List Int}(q:Qu a w RR HO gv goal):∃t,(∀st,pm g7 [.int a,.fz (gv.map Gv.av),.fz (iL goal)] st=À (t,st))/\xn w RR gv goal t:=by
 obtain⟨z,e,t,h,A⟩:=B6 q;exact⟨t,fun st=>aZ rfl e h,A⟩
theorem rp{a b:Int}(h:a.natAbs<2^62):dP a b=Â:=by
 unfold dP;have:ß a.natAbs.log2 62=Â:=yK (by
  by_cases hz:a.natAbs=0
  ·rw[hz];decide
  ·exact yY ((Ċ hz).mpr h))
 rw[this];simp
theorem CA{a b:Int}(h:b.natAbs<2^62):dP a b=Â:=by
 unfold dP;have:ß b.natAbs.log2 62=Â:=yK (by
  by_cases hz:b.natAbs=0
  ·rw[hz];decide
  ·exact yY ((Ċ hz).mpr h))
 rw[this];simp
theorem CP{a b:Int}(h:0<b):o9 a b=a%b:=yH h
theorem Kl{a b:Int}(h:0<b):vE a b=a/b:=yH h
theorem JN{a b:Int}(h:0<b):0<=a%b/\a%b<b:=⟨ġ _ oM,ğ _ h⟩
theorem Jz{r:Nat}{x:Int}(h:st[r]?=À (.lst (iL (D++[x])))):aW [.ref r] st=À (.int x,st.set r (.lst (iL D))):=by
 have k:∀l:List Int,aQ (cp 8 st) (iL l)=À (l.map á):=fun l=>du (f:=cp 8 st) (i:=AV.int) (g:=á) (fun _=>rfl) l
 have m:∀l:List Int,ø (l.map á)=Â:=fun l=>by
  induction l with
  |nil=>rfl
  |cons a l j=>simp only[zO,ø,Đ,j,Ģ]
 have c:cb .Eq st (.ref r) (.fz [])=À Ã:=by
  show iM st (.ref r) (.fz [])=_;unfold iM;have e:cp 9 st (.ref r)=À (.list ((D++[x]).map á)):=by
   unfold cp;simp only[h,k,Û]
  have d:cp 9 st (.fz [])=À (.list []):=rfl;rw[e,d,Æ,Æ,yH ?_]
  ·rw[Ą]
   cases D.map á<;>rfl
  ·have p:(ś ((D++[x]).map á)).canLay0=Â:=by unfold Đ;exact m _
   have o:(ś []).canLay0=Â:=rfl;have n:min (ś ((D++[x]).map á)).depth (ś []).depth<=50:=z5 (U8 _ _) dC;unfold DD.pyOk;rw[p,o,yV n];rfl
 have b:(iL (D++[x]))[D.length]?=À (.int x):=by unfold iL;simp
 have q:(iL (D++[x])).dropLast=iL D:=by unfold iL;simp
 simp[aW,aB,kO,cA,c,lX,qB,qA,qt,cm h,wI,gC,h,b,q];exact(zB.mp b).2
section
variable{ks:List Fn}{sl:Sl}{st:aa}{ss:Pc}{P:AV×aa->Prop}
theorem eK{s:Sx}{v:AV}{st':aa}(h:cW ks s sl st=À (.rt v st'))(a:P (v,st')):∃r,(af ks (.cons s ss) sl st).bind aw=À r/\P r:=⟨_,cq h,a⟩
theorem ou{α:Type}{em:α->AV}{it:Ix}{t:Tg}{b:Pc}{xs:List α}{gd:Gd}{st0:aa}(I:Nat->Sl->aa->Prop)(k:d3 ks it sl st=À (⟨xs.map em,gd⟩,st0))(l:∀i sl st,I i sl st->cD gd st=Â)(m:I 0 sl st0)
  (h:∀i x sl st,xs[i]?=À x->I i sl st->∃p sl2 st2,cB ks t (em x) sl st=À p/\af ks b p.1 p.2=À (.nx sl2 st2)/\I (i+1) sl2 st2)
  (f:∀sl' st',I xs.length sl' st'->∃r,(af ks ss sl' st').bind aw=À r/\P r):∃r,(af ks (.cons (.fo it t b) ss) sl st).bind aw=À r/\P r:=by
 obtain⟨sl',st',e,a⟩:=fb (gd:=gd) (g:=cB ks t) (s:=af ks b) (I:=I) (xs:=xs.map em) (fun i sl st _ a=>l i sl st a) (fun i y sl st c a=>by
  rw[zR]at c;obtain⟨x,d,rfl⟩:=zE.mp c;exact h i x sl st d a) m
 rw[zH]at a;obtain⟨r,n,j⟩:=f sl' st' a;exact⟨r,ae (by rw[jP,k,Æ];exact e) n,j⟩
theorem IQ{α:Type}{em:α->AV}{it:Ix}{t:Tg}{b:Pc}{xs:List α}{gd:Gd}{st0:aa}{Q:Out->Prop}(I:Nat->Sl->aa->Prop)(k:d3 ks it sl st=À (⟨xs.map em,gd⟩,st0))(l:∀i sl st,I i sl st->cD gd st=Â)(m:I 0 sl st0)
  (h:∀i x sl st,xs[i]?=À x->I i sl st->∃p sl2 st2,cB ks t (em x) sl st=À p/\af ks b p.1 p.2=À (.nx sl2 st2)/\I (i+1) sl2 st2)
  (f:∀sl' st',I xs.length sl' st'->∃r,af ks ss sl' st'=À r/\Q r):∃r,af ks (.cons (.fo it t b) ss) sl st=À r/\Q r:=by
 obtain⟨sl',st',e,a⟩:=fb (gd:=gd) (g:=cB ks t) (s:=af ks b) (I:=I) (xs:=xs.map em) (fun i sl st _ a=>l i sl st a) (fun i y sl st c a=>by
  rw[zR]at c;obtain⟨x,d,rfl⟩:=zE.mp c;exact h i x sl st d a) m
 rw[zH]at a;obtain⟨r,n,j⟩:=f sl' st' a;exact⟨r,ay (by rw[jP,k,Æ];exact e) n,j⟩
theorem Ay{s:Sx}{sl':Sl}{st':aa}{Q:Out->Prop}(h:cW ks s sl st=À (.nx sl' st'))(a:∃r,af ks ss sl' st'=À r/\Q r):∃r,af ks (.cons s ss) sl st=À r/\Q r:=by
 obtain⟨r,e,q⟩:=a;exact⟨r,ay h e,q⟩
end
theorem Fv{f:AV->AV->Option AV}{h:Nat->Nat->Nat} (t:∀x:Nat,x<16->∀y:Nat,y<16->(match f (.int x) (.int y) with
  |some (.int b)=>decide (b=(h x y:Int))
  |_=>Ã)=Â) {x y:Nat} (c:x<16) (a:y<16):f (.int (x:Int)) (.int (y:Int))=À (.int (h x y:Int)):=by
 have t:=t x c y a;split at t
 ·rename_i b e
  rw[of_decide_eq_true t]at e;exact e
 ·cases t
section
variable{st:aa}{os:List Nat}{n g k j:Nat}{D:List Int}
theorem sH{x y:Nat}(b:x<16)(a:y<16):bB .BitOr st (.int (x:Int)) (.int (y:Int))=À (.int ((x ||| y:Nat):Int)):=by
 show bB .BitOr [] (.int (x:Int)) (.int (y:Int))=_;exact Fv (f:=bB .BitOr []) (h:=fun x y=>x ||| y) (by decide +kernel) b a
theorem wj{ks:List Fn}{a:Ex}{sl:Sl}{n:Nat}(h:ev ks a sl st=À (.int (n:Int),st))(b:n<=1000):d3 ks (.r1 a) sl st=À (⟨(Ä n).map fun q:Nat=>AV.int (q:Int),[]⟩,st):=by
 show(ev ks a sl st).bind _=_;rw[h,Æ];dsimp only;have:fx (n:Int)=Â:=by
  unfold fx;refine yK ?_;rw[ϗ];by_cases hz:n=0
  ·subst hz;decide
  ·exact yY ((Ċ hz).mpr (yL b dC))
 rw[yH this,Ϧ,ms];rfl
theorem pD{ks:List Fn}{a e:Ex}{sl:Sl}{y:AV}{xs:List AV}{k:Nat}(f:ev ks a sl st=À (.ref k,st))(d:ev ks e sl st=À (y,st))(b:st[k]?=À (.lst xs))(c:xs.length<=1000):cW ks (.ex (.mt .app a (.cons e .nil))) sl st=À (.nx sl (st.set k (.lst (xs++[y])))):=by
 simp[lX,qB,qA,f,qt,cm b,d,sR,gC,b,bW c]
theorem lI{α:Type}{ks:List Fn}{k:Nat}{it:Ix}{t:Tg}{c:Cx'}{e:Ex}{sl:Sl}{gd:Gd}{em:α->AV}{B:α->Bool}{F:α->AV}{xs:List α}(a:d3 ks it sl st=À (⟨xs.map em,gd⟩,st))(b:cD gd st=Â)(hz:xs.length<=1000)
  (h:∀x∈xs,∃sl1,cB ks t (em x) (sl++È k Á) st=À (sl1,st)/\jC ks c sl1 st=À (B x,st)/\(B x=Â->ev ks e sl1 st=À (F x,st))):jB ks (.lc k it t c e) sl st=À ((xs.filter B).map F,st):=by
 rw[G9,a,Æ];dsimp only;rw[yH (bW (by rw[zH];exact hz))];exact gQ b h
theorem d8{b:Bool}:fu st (.bl b)=À b:=rfl
theorem yp{m:Nat}{l:List Int}:aQ (cp (m+1) st) (iL l)=À (l.map á):=du (f:=cp (m+1) st) (i:=AV.int) (g:=á) (fun _=>rfl) l
theorem rD(h:D≠[]):∃D' x,D=D'++[x]:=⟨D.dropLast,D.getLast h,(ϴ h).symm⟩
end
section
variable{st:aa}{os:List Nat}{n g k j:Nat}{A B O:O3}{D T:List Int}
def okD(D:List Int):Prop:=∀x∈D,0<=x/\x<2147483587
theorem okD.at{D:List Int}{x:Int}(h:okD (D++[x])):0<=x/\okD D:=⟨(h x (by simp)).1,fun y a=>h y (by simp[a])⟩
theorem Lm{i:Nat}(a:i<T.length):aR st (.fz (iL T)) (.int (i:Int))=À (.int (SX.gI T i)):=by rw[cH d5,cC,cw a]
theorem jk{z c:Int}(a:eO c=Â)(b:0<c):bB .FloorDiv st (.int z) (.int c)=À (.int (z/c)):=by rw[pC a];exact congrArg (fun q=>À (AV.int q)) (yH b)
theorem fG{z c:Int}(a:0<c):bB .Mod st (.int z) (.int c)=À (.int (z%c)):=by rw[pB oM];exact congrArg (fun q=>À (AV.int q)) (yH a)
theorem JT{l:List Int}:bY dj [.fz (iL l)] st=À (.int ((l.length:Nat):Int),st):=by
 show À (AV.int ((iL l).length:Int),st)=_;rw[io]
theorem C3{l:List AV}{i:Int}(c:0<=i)(b:i<l.length):∃x∈l,aR st (.fz l) (.int i)=À x:=by
 obtain⟨q,rfl⟩:∃q:Nat,i=(q:Int):=⟨i.toNat,by lia⟩;have a:q<l.length:=by lia
 refine⟨l[q],Ý a,?_⟩;rw[cH d5,cC,zF a]
end
section
variable{st:aa}
theorem JQ{l:List Int}:lsI st (.fz (iL l))=À l:=by
 unfold lsI;rw[d5,Æ];unfold hU;rw[show iL l=l.map AV.int from rfl,du (i:=AV.int) (g:=id) (fun _=>rfl),List.map_id]
theorem fQ:∀l:List Gv,rfs (l.map Gv.av)=Â:=fun l=>dy fun x a=>by
 obtain⟨z,_,rfl⟩:=yC.mp a;simp[Gv.av,rf,rfs,d6]
variable{w:Nat}{RR:List (List Int)}{gv:List Gv}{X Y Z:Nat->Int}{e:Int}{goal:List Int}
theorem pN{r:List Int}:val w r (fun x=>X x+Z x)=val w r X+val w r Z:=by
 unfold val;rw[<- SX.sum_add];exact SX.sum_congr fun x _=>by grind
theorem Kp.add(h:Kp w RR gv X e)(c:Kp w RR gv Z 0):Kp w RR gv (fun x=>X x+Z x) e:=by
 refine⟨fun r d=>?_,fun z hz a=>?_,fun z hz a=>?_⟩
 ·have:=h.rule r d;have:=c.rule r d;rw[pN];lia
 ·have f:=h.eq z hz a;have b:=c.eq z hz a;rw[pN];rw[yO]at b;lia
 ·have f:=h.ge z hz a;have b:=c.ge z hz a;rw[pN];rw[yO]at b;lia
theorem Ht{T d:Int}(hd:0<d):∃q:Int,0<q/\T=gI (aq [T,d]) 0*q/\d=gI (aq [T,d]) 1*q/\0<gI (aq [T,d]) 1:=by
 have a:gL [T,d]=ú T.natAbs d.natAbs:=by
  show ú (ú 0 T.natAbs) d.natAbs=_;rw[Nat.gcd_zero_left]
 have g:0<ú T.natAbs d.natAbs:=Nat.gcd_pos_of_pos_right _ oM;have e:aq [T,d]=[T/(ú T.natAbs d.natAbs:Int),d/(ú T.natAbs d.natAbs:Int)]:=by
  unfold aq;rw[yG (by rw[a];lia),a];rfl
 have f:((ú T.natAbs d.natAbs:Nat):Int) ∣ T:=i!.mp (ű.mpr (V! _ _));have b:((ú T.natAbs d.natAbs:Nat):Int) ∣ d:=i!.mp (ű.mpr (T8 _ _));rw[e];refine⟨(ú T.natAbs d.natAbs:Nat),by lia,(ϑ f).symm,(ϑ b).symm,?_⟩;show 0<d / _;have c:=ϑ b;rcases U1 0 (d/((ú T.natAbs d.natAbs:Nat):Int)) with h|h|h
 ·exact h
 ·rw[<- h]at c;lia
 ·have:=p! h (show (0:Int) < ((ú T.natAbs d.natAbs:Nat):Int) by lia);lia
theorem oE{a b:Int}{m n:Nat}(d:a.natAbs<2^m)(c:b.natAbs<2^n):(a*b).natAbs<2^(m+n):=by
 rw[yZ,ŧ];exact Nat.mul_lt_mul'' d c
theorem yk{a b:Int}{m:Nat}(d:a.natAbs<2^m)(c:b.natAbs<2^m):(a+b).natAbs<2^(m+1):=by
 rw[E?];generalize 2^m=q at *;lia
theorem Cy{a b q:Int}{m:Nat}(h:b=a*q)(d:0<q)(c:b.natAbs<2^m):a.natAbs<2^m:=by
 refine yL ?_ c;rw[h,yZ];exact Nat.le_mul_of_pos_right _ oM
end
section
variable{nn:Int}{st:aa}{w:Nat}{RR:List (List Int)}{HO:Nat->List Int}{gv:List Gv}{r X Z goal:List Int}{Y:Nat->Int}{e D num:Int}
theorem FI(n:Nat)(f:Nat->Int):O5 (n+1) f=f 0+O5 n fun i=>f (i+1):=by
 induction n with
 |zero=>simp[O5]
 |succ n a=>rw[O5,a,O5];lia
theorem uU:∀(r X:List Int),r.length=X.length->((r.zip X).map fun z=>z.1*z.2).sum=O5 r.length fun x=>gI r x*gI X x
 |[],_,_=>rfl
 |x::r,[],h=>by simp at h
 |x::r,y::X,h=>by
  rw[ě,zO,n!,uU r X (by simpa using h),yX,FI];rfl
theorem uz(a:r.length=w)(h:X.length=w)(g:w<=15)(d:∀x∈r,x.natAbs<2^9000)(f:∀x∈X,x.natAbs<2^9000):pm gZ [.fz (iL r),.fz (iL X)] st=À (.int (val w r (gI X)),st):=by
 have e:=lI (st:=[]) (ks:=[]) (k:=2) (it:=.zi (.v 0) (.v 1)) (t:=.tu 2 (.cons (.nm 2) (.cons (.nm 3) .nil))) (c:=.no) (e:=.bin .Mult (.v 2) (.v 3)) (sl:=[Ls r,Ls X]) (gd:=[]) (em:=fun z:Int×Int=>AV.tup [.int z.1,.int z.2]) (xs:=r.zip X) (B:=fun _=>Â) (F:=fun z=>AV.int (z.1*z.2)) (by
  rw[<- rV];rfl) rfl (by rw[ŀ];lia) fun z hz=>by
   have:=û hz
   exact⟨[Ls r,Ls X,Is z.1,Is z.2],rfl,rfl,fun _=>by simp[cM (df (d _ this.1) (f _ this.2))]⟩
 rw[ì.mpr (fun _ _=>rfl),show(r.zip X).map (fun z=>AV.int (z.1*z.2))=iL ((r.zip X).map fun z=>z.1*z.2) by unfold iL;rw[Ü];rfl]at e;have b:ev [] (.nw Ã (.lc 2 (.zi (.v 0) (.v 1)) (.tu 2 (.cons (.nm 2) (.cons (.nm 3) .nil))) .no (.bin .Mult (.v 2) (.v 3)))) [Ls r,Ls X] []=À (.fz (iL ((r.zip X).map fun z=>z.1*z.2)),[]):=by
  rw[fR,e,Æ,yH d6]
 refine aZ (by simp[rfs,rf,d6]) (v:=.int (val w r (gI X))) (st':=[]) ?_ rfl;rw[gZ,aB];show(af [] qg [Ls r,Ls X] []).bind aw=_;refine cq ?_;simp only[sn,LM,eA,fF,b,Æ,Iu,bY,rZ,JQ,Û];rw[uU r X oM,a];rfl
theorem xp{M N:Nat}(d:r.length=w)(j:X.length=w)(a:w<=15)(b:∀x∈r,x.natAbs<2^M)(c:∀x∈X,x.natAbs<2^N):(val w r (gI X)).natAbs<2^(M+N+4):=by
 have h:=SX.abs_sum (n:=w) (f:=fun x=>gI r x*gI X x) (M:=2^(M+N)) fun i g=>by
  rw[yZ,ŧ];exact Ŝ (yY (mC b (Ö _) i)) (yY (mC c (Ö _) i))
 have k:w*2^(M+N)<=15*2^(M+N):=Ž _ a;have e:=Ö (M+N);unfold val;rw[ŧ _ (M+N)];generalize 2^(M+N)=B at *;lia
theorem Kp.scale{c:Int}(b:0<=c)(h:Kp w RR gv Y 0):Kp w RR gv (fun x=>c*Y x) 0:=by
 have e:∀r,val w r (fun x=>c*Y x)=c*val w r Y:=fun r=>mh fun _ _=>rfl
 refine⟨fun r d=>?_,fun z hz a=>?_,fun z hz a=>?_⟩
 ·rw[e];exact ç b (h.rule r d)
 ·rw[e,h.eq z hz a,yO,yO]
 ·rw[e,yO]
  have:=h.ge z hz a
  rw[yO]at this;exact ç b this
theorem fL{x:Int}{M:Nat}(h:x.natAbs<2^M)(a:M<=9000):x.natAbs<2^9000:=zJ h (ĉ dC a)
theorem JO{a b:Int}:bY pX [.int a,.int b] st=À (.int (max a b),st):=by
 have:bY pX [.int a,.int b] st=À (.int (if b > a then b else a),st):=rfl;rw[this];congr 3;split<;>lia
structure An(w:Nat)(RR:List (List Int))(gv:List Gv)(X:List Int)(D:Int):Prop where
 len:X.length=w
 pos:0<D
 bd:(∀x∈X,x.natAbs<2^9000)/\D.natAbs<2^9000
 kp:Kp w RR gv (gI X) D
theorem TbS.f(h:TbS w RR gv X D):An w RR gv X D:=⟨h.len,h.pos,⟨fun x a=>fL (h.bd.1 x a) dC,fL h.bd.2 dC⟩,h.kp⟩
theorem E1(A:w<=15)(G:r.length=w)(I:∀x∈r,x.natAbs<2^121)(bn:num.natAbs<2^121)(T:TbS w RR gv X D)(hZ:Z.length=w/\∀x∈Z,x.natAbs<2^2500)(KZ:Kp w RR gv (gI Z) 0)(hn:val w r (gI Z)<0) :
  ∃V E,(∀st,pm d9 [.tup [.fz (iL X),.int D],.fz (iL Z),.fz (iL r),.int num] st=À (.tup [.fz (iL V),.int E],st))/\An w RR gv V E/\val w r (gI V)<num*E:=by
 obtain⟨Y,N,⟨R,n⟩,KX⟩:=T;obtain⟨Zl,J⟩:=hZ;have bx:=xp G Y A I R;have bz:=xp G Zl A I J;have vx:=fun st=>uz (st:=st) G Y A (fun x h=>fL (I x h) dC) (fun x h=>fL (R x h) dC)
 have vz:=fun st=>uz (st:=st) G Zl A (fun x h=>fL (I x h) dC) (fun x h=>fL (J x h) dC)
 generalize M:val w r (gI X)=U at *;generalize L:val w r (gI Z)=y at *;obtain⟨f,p⟩:∃f,f=U-num*D:=⟨_,rfl⟩;obtain⟨fl,m⟩:∃fl,fl=- y*D:=⟨_,rfl⟩;have m1:dP num D=Â:=df (fL bn dC) (fL n dC);have m2:dP (- y) D=Â:=df (by rw[ã];exact fL bz dC) (fL n dC);have O:0<fl:=by rw[m];exact P! oM N
 have Q:fl.natAbs<2^5125:=by
  have:=oE (a:=- y) (b:=D) (by rw[ã];exact bz) n
  rw[m];exact this
 have bab:f.natAbs<2^2627:=by
  have q:=oE bn n;have o:U.natAbs<2^2626:=zJ bx (ĉ dC dC);have h3:(- (num*D)).natAbs<2^2626:=by rw[ã];exact zJ q (ĉ dC dC)
  have:=yk o h3
  rw[p,Int.sub_eq_add_neg];exact this
 obtain⟨s,C⟩:∃s,s=max 0 (f/fl+1):=⟨_,rfl⟩;have s0:0<=s:=by rw[C];lia
 have bs:s.natAbs<2^2629:=by
  have q:(f/fl).natAbs<=f.natAbs+1:=by
   have:=Int.natAbs_ediv_le_natAbs f fl
   lia
  have o:(2:Nat)^2629=2^2627*4:=by rw[show(4:Nat)=2^2 from rfl,<- ŧ]
  have h3:=Ö 2627;rw[C,o];generalize (2:Nat)^2627=B at *;lia
 have u:=oE bs n;have m3:dP s D=Â:=df (fL bs dC) (fL n dC);have dv:eO fl=Â:=tN oM (fL Q dC);obtain⟨V,H⟩:∃V,V=(X.zip Z).map fun z=>z.1+s*D*z.2:=⟨_,rfl⟩
 have W:V.length=w:=by rw[H,zH,ŀ];lia
 have S:∀x∈V,x.natAbs<2^9000:=fun x j=>by
  rw [H] at j;obtain ⟨z,hz,rfl⟩:=yC.mp j;obtain ⟨z1,z2⟩:=û hz;have q:=oE u (J _ z2);have o:=yk (zJ (R _ z1) (ĉ dC (show 2500 <= 2629 + 2500 + 2500 by decide))) q;exact fL o dC
 have gV:∀x,x<w->gI V x=gI X x+s*D*gI Z x:=fun x j=>by rw[H,SX.gI_zip oM oM]
 have KV:Kp w RR gv (gI V) D:=by
  have h:=KX.add (KZ.scale (ç s0 (Č N)));exact h.div (g:=1) dC oM fun x j=>by rw[gV x j,ſ]
 have K:val w r (gI V)<num*D:=by
  have e1:val w r (gI V)=U+s*D*y:=by
   rw[<- M,<- L];unfold val;rw[<- SX.sum_mul,<- SX.sum_add];exact SX.sum_congr fun x j=>by rw[gV x j];grind
  have q:=Int.lt_ediv_add_one_mul_self f O;have o:(f/fl+1)*fl<=s*fl:=Ô (by rw[C];lia) (Č O);have e2:s*D*y=- (s*fl):=by rw[m];grind
  lia
 obtain⟨g,hg,ed,P,ll,hp,K'⟩:=TbS.low W N ⟨S,fL n dC⟩ KV;have b2:=sU (l:=V++[D]) (Ö 9000) fun x j=>by
  rcases zZ.mp j with h|h
  ·exact S x h
  ·rw[zM.mp h];exact fL n dC
 refine⟨(aq (V++[D])).take w,gI (aq (V++[D])) w,fun st=>?_,⟨ll,hp,⟨lE fun i hi=>?_,b2 w⟩,K'⟩,?_⟩
 ·have lt:=yq (X:=V) (d:=D) oM S (fL n dC)
  rw[W]at lt;have lt:pm bN [.fz (iL V),.int D] []=À (.tup [.fz (iL ((aq (V++[D])).take w)),.int (gI (aq (V++[D])) w)],[]):=aZ (by simp[rfs,rf,d6]) lt rfl;refine aZ (by simp[rfs,rf,d6]) (v:=.tup [.fz (iL ((aq (V++[D])).take w)),.int (gI (aq (V++[D])) w)]) (st':=[]) ?_ rfl;have i0:aR [] (.tup [.fz (iL X),.int D]) (.int 0)=À (.fz (iL X)):=rfl;have i1:aR [] (.tup [.fz (iL X),.int D]) (.int 1)=À (.int D):=rfl;rw[d9,aB];show(af [gZ,bN] fN [À (.tup [.fz (iL X),.int D]),Ls Z,Ls r,Is num,Á,Á,Á,Á] []).bind aw=_;unfold fN;refine ae (sl':=[À (.tup [.fz (iL X),.int D]),Ls Z,Ls r,Is num,Is D,Á,Á,Á]) (st':=[]) (by simp[i1]) ?_;refine ae (sl':=[À (.tup [.fz (iL X),.int D]),Ls Z,Ls r,Is num,Is D,Is f,Á,Á]) (st':=[]) (by simp[i0,vx,cM m1,p]) ?_;refine ae (sl':=[À (.tup [.fz (iL X),.int D]),Ls Z,Ls r,Is num,Is D,Is f,Is fl,Á]) (st':=[]) (by simp[vz,cM m2,m,j3]) ?_;refine ae (sl':=[À (.tup [.fz (iL X),.int D]),Ls Z,Ls r,Is num,Is D,Is f,Is fl,Is s]) (st':=[]) (by simp[jk dv O,JO,<- C]) (cq ?_);have e:=lI (st:=[]) (ks:=[gZ,bN]) (k:=2) (it:=.zi (.ix (.v 0) (.i 0)) (.v 1)) (t:=.tu 2 (.cons (.nm 8) (.cons (.nm 9) .nil))) (c:=.no) (e:=.bin .Add (.v 8) (.bin .Mult (.bin .Mult (.v 7) (.v 4)) (.v 9))) (sl:=[À (.tup [.fz (iL X),.int D]),Ls Z,Ls r,Is num,Is D,Is f,Is fl,Is s]) (gd:=[]) (em:=fun z:Int×Int=>AV.tup [.int z.1,.int z.2]) (xs:=X.zip Z) (B:=fun _=>Â) (F:=fun z=>AV.int (z.1+s*D*z.2)) (by
   rw[<- rV];rfl) rfl (by rw[ŀ];lia) fun z hz=>by
    have:=û hz
    exact⟨[À (.tup [.fz (iL X),.int D]),Ls Z,Ls r,Is num,Is D,Is f,Is fl,Is s,Is z.1,Is z.2],rfl,rfl,fun _=>by simp[cM m3,cM (df (fL u dC) (fL (J _ this.2) dC))]⟩
  rw[ì.mpr (fun _ _=>rfl),show(X.zip Z).map (fun z=>AV.int (z.1+s*D*z.2))=iL V by rw[H];unfold iL;rw[Ü];rfl]at e;have e2:ev [gZ,bN] (.nw Ã (.lc 2 (.zi (.ix (.v 0) (.i 0)) (.v 1)) (.tu 2 (.cons (.nm 8) (.cons (.nm 9) .nil))) .no (.bin .Add (.v 8) (.bin .Mult (.bin .Mult (.v 7) (.v 4)) (.v 9))))) [À (.tup [.fz (iL X),.int D]),Ls Z,Ls r,Is num,Is D,Is f,Is fl,Is s] []=À (.fz (iL V),[]):=by
   rw[fR,e,Æ,yH d6]
  simp only[sn,nJ,eA,fF,e2,oj,kQ,kP,Æ,Û,rk,nW,pY,lt]
 ·rw[p7 oM];exact b2 i
 ·rw[P r]at K
  generalize (aq (V++[D])).take w=V' at *;generalize gI (aq (V++[D])) w=E at *;rw[ed]at K;exact Int.lt_of_mul_lt_mul_left (a:=g) (by rw[show g*(num*E)=num*(g*E) by grind];exact K) (Č hg)
end
section
variable{nn:Int}{st:aa}{w:Nat}{RR:List (List Int)}{HO:Nat->List Int}{gv:List Gv}{r X Z goal:List Int}{Y:Nat->Int}{e D num:Int}{z:Gv}
inductive Pp where
 |nv (W:List Int)
 |by_ (K:Int) (W:List Int)
def Pp.av:Pp->AV
 |.nv W=>.tup [.str "never",.fz (iL W)]
 |.by_ K W=>.tup [.str "by",.int K,.fz (iL W)]
theorem Jx{n:Nat}(p:Pp):bu (n+1) st p.av=À p.av:=by cases p<;>(cases n<;>rfl)
theorem Jy{k:Nat}{ps:List Pp}(h:st[k]?=À (.lst (ps.map Pp.av))):de st (.tup [.bl Â,.ref k])=À (.tup [.bl Â,.fz (ps.map Pp.av)]):=by
 have e:aQ (bu 4 st) (ps.map Pp.av)=À (ps.map Pp.av):=du (f:=bu 4 st) (i:=Pp.av) (g:=Pp.av) (fun p=>Jx p) ps;show(aQ (bu 5 st) [.bl Â,.ref k]).map AV.tup=_;have b:bu 5 st (.ref k)=À (.fz (ps.map Pp.av)):=by
  show(match st[k]? with
  |some (.lst a)=>(aQ (bu 4 st) a).map AV.fz
  |some (.al t)=>À t
  |_=>Á)=_
  rw[h];simp only[e,Û]
 simp only[aQ,b,show bu 5 st (.bl Â)=À (.bl Â) from rfl,Æ,Û]
def FU(w:Nat)(RR:List (List Int))(gv:List Gv)(r:List Int)(num:Int)(t:AV):Prop :=
 (∃p:Pp,t=.tup [.bl Â,p.av]/\∀Y e,0<e->Kp w RR gv Y e->num*e<=val w r Y) \/
 ∃V E,t=.tup [.bl Ã,.tup [.fz (iL V),.int E]]/\An w RR gv V E/\val w r (gI V)<num*E
theorem MD(q:Qu nn w RR HO gv r)(br:∀x∈r,x.natAbs<2^121)(P:num.natAbs<2^121):∃t,(∀st,pm bF [.int nn,.fz (gv.map Gv.av),.fz (iL r),.int num] st=À (t,st))/\FU w RR gv r num t:=by
 obtain⟨t,H,A⟩:=IB q;have H:=H [];have z:∃j,bF [.int nn,.fz (gv.map Gv.av),.fz (iL r),.int num] []=À j/\∃t,de j.2 j.1=À t/\FU w RR gv r num t:=by
  rw[bF,aB];show ∃j,(af [g7,d9] eI [Is nn,Zs (gv.map Gv.av),Ls r,Is num,Á] []).bind aw=À j/\_;unfold eI;refine ai (sl':=[Is nn,Zs (gv.map Gv.av),Ls r,Is num,À t]) (st':=[]) (by simp[H]) ?_;rcases A with⟨⟨W,rfl⟩,h⟩|⟨T,d,X,D,K,W,rfl,hd,⟨bT,bd⟩,⟨o,I⟩,h⟩|⟨X,D,Z,rfl,o,hZ,KZ,Q⟩
  ·refine eK (v:=.tup [.bl Â,.tup [.str "never",.fz (iL W)]]) (st':=[]) ?_ ⟨_,rfl,.inl ⟨.nv W,rfl,fun Y e n K=>absurd K (h Y e n)⟩⟩
   have g:aR [] (.tup [.str "never",.fz (iL W)]) (.int 0)=À (.str "never"):=rfl;have eq:cb .Eq [] (.str "never") (.str "never")=À Â:=by kernel_rfl
   simp[g,eq,kZ]
  ·obtain⟨c,G,l,k,N⟩:=Ht (T:=T) hd
   have bp:=Cy l G bT;have bq:=Cy k G bd;generalize gI (aq [T,d]) 0=p at *;generalize gI (aq [T,d]) 1=b at *;obtain⟨u,f⟩:∃u,u=AV.tup [.str "least",.tup [.int p,.int b],.tup [.fz (iL X),.int D],.int K,.fz (iL W)]:=⟨_,rfl⟩;have g:aR [] u (.int 0)=À (.str "least"):=by rw[f];rfl
   have m:aR [] u (.int 1)=À (.tup [.int p,.int b]):=by rw[f];rfl
   have B:aR [] u (.int 2)=À (.tup [.fz (iL X),.int D]):=by rw[f];rfl
   have i3:aR [] u (.int 3)=À (.int K):=by rw[f];rfl
   have U:aR [] u (.int 4)=À (.fz (iL W)):=by rw[f];rfl
   have M:aR [] (.tup [.int p,.int b]) (.int 0)=À (.int p):=rfl;have L:aR [] (.tup [.int p,.int b]) (.int 1)=À (.int b):=rfl;have y:cb .Eq [] (.str "least") (.str "never")=À Ã:=by kernel_rfl
   have s:cb .Eq [] (.str "least") (.str "endless")=À Ã:=by kernel_rfl
   have J:bB .Mult [] (.int num) (.int b)=À (.int (num*b)):=cM (df (fL P dC) (fL bq dC));rw[<- f];refine ai (sl':=[Is nn,Zs (gv.map Gv.av),Ls r,Is num,À u]) (st':=[]) (by simp[g,y]) ?_;refine ai (sl':=[Is nn,Zs (gv.map Gv.av),Ls r,Is num,À u]) (st':=[]) (by simp[g,s]) ?_;by_cases C:p<num*b
   ·refine eK (v:=.tup [.bl Ã,.tup [.fz (iL X),.int D]]) (st':=[]) (by simp[m,B,M,L,J,C,kZ]) ⟨_,rfl,.inr ⟨X,D,rfl,o.f,?_⟩⟩
    rw[l,k]at I;have S:val w r (gI X)*b=p*D:=Ş (a:=c) oM (by rw[show val w r (gI X)*b*c=val w r (gI X)*(b*c) by grind,I];grind);have h2:p*D<num*b*D:=Int.mul_lt_mul_of_pos_right C o.pos;exact Int.lt_of_mul_lt_mul_right (a:=b) (by rw[S,show num*D*b=num*b*D by grind];exact h2) (Č N)
   ·refine ai (sl':=[Is nn,Zs (gv.map Gv.av),Ls r,Is num,À u]) (st':=[]) (by simp[m,M,L,J,C]) ?_
    refine eK (v:=.tup [.bl Â,.tup [.str "by",.int K,.fz (iL W)]]) (st':=[]) (by simp[i3,U]) ⟨_,rfl,.inl ⟨.by_ K W,rfl,fun Y e n KY=>?_⟩⟩;have O:=h Y e n KY;rw[l,k]at O;have h4:p*e<=val w r Y*b:=Ă (a:=c) (by rw[show p*e*c=p*c*e by grind,show val w r Y*b*c=val w r Y*(b*c) by grind];exact O) G;have h5:num*b*e<=p*e:=Ô oM (Č n);exact Ă (a:=b) (by rw[show num*e*b=num*b*e by grind];lia) N
  ·obtain⟨V,E,i,TV,R⟩:=E1 (num:=num) q.hw q.Z.o br P o hZ KZ Q
   have i:=i [];obtain⟨u,f⟩:∃u,u=AV.tup [.str "endless",.tup [.fz (iL X),.int D],.fz (iL Z)]:=⟨_,rfl⟩;have g:aR [] u (.int 0)=À (.str "endless"):=by rw[f];rfl
   have m:aR [] u (.int 1)=À (.tup [.fz (iL X),.int D]):=by rw[f];rfl
   have B:aR [] u (.int 2)=À (.fz (iL Z)):=by rw[f];rfl
   have y:cb .Eq [] (.str "endless") (.str "never")=À Ã:=by kernel_rfl
   have s:cb .Eq [] (.str "endless") (.str "endless")=À Â:=by kernel_rfl
   rw[<- f];refine ai (sl':=[Is nn,Zs (gv.map Gv.av),Ls r,Is num,À u]) (st':=[]) (by simp[g,y]) ?_;refine eK (v:=.tup [.bl Ã,.tup [.fz (iL V),.int E]]) (st':=[]) (by simp[g,m,B,s,i,kZ]) ⟨_,rfl,.inr ⟨V,E,rfl,TV,R⟩⟩
 obtain⟨j,l,t,k,F⟩:=z;exact⟨t,fun st=>aZ (by simp[rfs,rf,d6,fQ]) l k,F⟩
noncomputable def oB(l:List Int):List Int:=l.map fun x=>- x
def iY(z:Gv):List Gv:=⟨z.row,Ã,z.num⟩::if z.eq=Â then [⟨oB z.row,Ã,- z.num⟩] else []
theorem LN(o:z.row.length<=1000):pm bA [z.av] st=À (.fz ((iY z).map Gv.av),st):=by
 obtain⟨r,b,d⟩:=z;have o:r.length<=1000:=o;have v:∀st,aR st (Gv.av ⟨r,b,d⟩) (.int 0)=À (.fz (iL r)):=fun _=>rfl
 have j:∀st,aR st (Gv.av ⟨r,b,d⟩) (.int 1)=À (.str (if b=Â then "=" else ">")):=fun _=>rfl
 have q:∀st,aR st (Gv.av ⟨r,b,d⟩) (.int 2)=À (.int d):=fun _=>rfl
 have m:∀st,cb .Eq st (.str (if b=Â then "=" else ">")) (.str "=")=À b:=fun st=>by cases b<;>kernel_rfl
 obtain⟨u,w⟩:∃u,u=Gv.av ⟨r,b,d⟩:=⟨_,rfl⟩;have D:rf u=Â:=by rw[w];simp[Gv.av,rf,rfs,d6]
 rw[<- w]at v j q ⊢;have n:∃st',bA [u] []=À (.ref 0,st')/\st'[0]?=À (.lst ((iY ⟨r,b,d⟩).map Gv.av)):=by
  rw[bA,aB];unfold fV;have A:∀{x y},(af [] x [À u,Ls r,Is d,Rs 0] [.lst [Gv.av ⟨r,Ã,d⟩]]).bind aw=À y->(af [] (.cons (.as (.ix (.v 0) (.i 0)) (.nm 1)) (.cons (.as (.ix (.v 0) (.i 2)) (.nm 2)) (.cons (.as (.nw Â (.li (.cons (.tu (.cons (.v 1) (.cons (.s ">") (.cons (.v 2) .nil)))) .nil))) (.nm 3)) x))) [À u,Á,Á,Á] []).bind aw=À y:=fun {x y} h=>by
   refine ae (sl':=[À u,Ls r,Á,Á]) (st':=[]) (by simp[v]) ?_;refine ae (sl':=[À u,Ls r,Is d,Á]) (st':=[]) (by simp[q]) ?_;exact ae (sl':=[À u,Ls r,Is d,Rs 0]) (st':=[.lst [Gv.av ⟨r,Ã,d⟩]]) (by simp[cA];rfl) h
  cases b with
  |false =>
   refine⟨[.lst [Gv.av ⟨r,Ã,d⟩]],A (ae (sl':=[À u,Ls r,Is d,Rs 0]) (st':=[.lst [Gv.av ⟨r,Ã,d⟩]]) (by
    have m:=m [.lst [Gv.av ⟨r,Ã,d⟩]];have j:=j [.lst [Gv.av ⟨r,Ã,d⟩]];generalize AV.str (if Ã=Â then "=" else ">")=s at m j;simp[j,m]) (cq rfl)),rfl⟩
  |true =>
   refine⟨[.lst [Gv.av ⟨r,Ã,d⟩,Gv.av ⟨oB r,Ã,- d⟩]],A (ae (sl':=[À u,Ls r,Is d,Rs 0]) (st':=[.lst [Gv.av ⟨r,Ã,d⟩,Gv.av ⟨oB r,Ã,- d⟩]]) ?_ (cq rfl)),rfl⟩;have m:=m [.lst [Gv.av ⟨r,Ã,d⟩]];have j:=j [.lst [Gv.av ⟨r,Ã,d⟩]];have e:=lI (st:=[.lst [Gv.av ⟨r,Ã,d⟩]]) (ks:=[]) (k:=1) (it:=.e (.v 1)) (t:=.nm 4) (c:=.no) (e:=.un .USub (.v 4)) (sl:=[À u,Ls r,Is d,Rs 0]) (gd:=[]) (em:=AV.int) (xs:=r) (B:=fun _=>Â) (F:=fun x=>AV.int (- x)) rfl rfl o fun x H=>⟨[À u,Ls r,Is d,Rs 0,Is x],rfl,rfl,fun _=>rfl⟩
   rw[ì.mpr (fun _ _=>rfl),show r.map (fun x=>AV.int (- x))=iL (oB r) by unfold iL oB;rw[Ü];rfl]at e;have p:ev [] (.nw Ã (.lc 1 (.e (.v 1)) (.nm 4) .no (.un .USub (.v 4)))) [À u,Ls r,Is d,Rs 0] [.lst [Gv.av ⟨r,Ã,d⟩]]=À (.fz (iL (oB r)),[.lst [Gv.av ⟨r,Ã,d⟩]]):=by
    rw[fR,e,Æ,yH d6]
   have G:=pD (ks:=[]) (a:=.v 3) (e:=.tu (.cons (.nw Ã (.lc 1 (.e (.v 1)) (.nm 4) .no (.un .USub (.v 4)))) (.cons (.s ">") (.cons (.un .USub (.v 2)) .nil)))) (y:=Gv.av ⟨oB r,Ã,- d⟩) (k:=0) (xs:=[Gv.av ⟨r,Ã,d⟩]) (sl:=[À u,Ls r,Is d,Rs 0]) (st:=[.lst [Gv.av ⟨r,Ã,d⟩]]) rfl (by
    simp only[E6,eA,fF,p,Æ,Û];rfl) rfl (by simp)
   generalize AV.str (if Â=Â then "=" else ">")=s at m j;have C:tv [] (.cmp .Eq (.ix (.v 0) (.i 1)) (.s "=")) [À u,Ls r,Is d,Rs 0] [.lst [Gv.av ⟨r,Ã,d⟩]]=À (Â,[.lst [Gv.av ⟨r,Ã,d⟩]]):=by simp[j,m]
   rw[mn,C,Æ];exact ay G rfl
 obtain⟨st',E,p⟩:=n;refine aZ (by simp[rfs,D]) E ?_;have:∀l:List Gv,aQ (bu 5 st') (l.map Gv.av)=À (l.map Gv.av):=fun l=>du (f:=bu 5 st') (i:=Gv.av) (g:=Gv.av) (fun z=>rfl) l
 show bu 6 st' (.ref 0)=_;unfold bu;simp only[p,this,Û]
end
section
variable{nn:Int}{st:aa}{w:Nat}{RR:List (List Int)}{HO:Nat->List Int}{gv:List Gv}{Y:Nat->Int}{e:Int}{z:Gv}
def Hd(w:Nat)(z:Gv)(Y:Nat->Int)(e:Int):Prop:=z.num*e<=val w z.row Y/\(z.eq=Â->val w z.row Y=z.num*e)
theorem hd_ups:Hd w z Y e ↔ ∀u∈iY z,u.num*e<=val w u.row Y:=by
 obtain⟨r,b,a⟩:=z;unfold Hd iY;cases b with
 |false=>simp
 |true =>
  have i:val w (oB r) Y=- val w r Y:=pM;have g:- a*e=- (a*e):=Int.neg_mul _ _;constructor
  ·rintro⟨d,c⟩ u f
   have c:=c rfl;dsimp only at d c;rcases zT.mp f with rfl|f
   ·exact d
   ·rw[zM.mp f]
    dsimp only;lia
  ·intro h
   have d:=h _ z7;have c:=h _ (zQ _ (zM.mpr rfl));dsimp only at d c ⊢;exact⟨d,fun _=>by lia⟩
def FS(w:Nat)(RR:List (List Int))(gv:List Gv)(z:Gv)(t:AV):Prop :=
 (∃ps:List Pp,t=.tup [.bl Â,.fz (ps.map Pp.av)]/\∀Y e,0<e->Kp w RR gv Y e->Hd w z Y e) \/
 ∃V E,t=.tup [.bl Ã,.tup [.fz (iL V),.int E]]/\An w RR gv V E/\¬Hd w z (gI V) E
theorem Kf(hs:z.row.length<=1000)(C:∀u∈iY z,Qu nn w RR HO gv u.row/\(∀x∈u.row,x.natAbs<2^121)/\u.num.natAbs<2^121):∃t,(∀st,pm aS [.int nn,.fz (gv.map Gv.av),z.av] st=À (t,st))/\FS w RR gv z t:=by
 have hf:∀u∈iY z,u.eq=Ã:=fun u h=>by
  unfold iY at h;rcases zT.mp h with rfl|h
  ·rfl
  ·split at h
   ·rw[zM.mp h]
   ·cases h
 have A:=kh (gd:=[]) (g:=cB [bA,bF] (.tu 3 (.cons (.nm 4) (.cons (.nm 5) (.cons (.nm 6) .nil)))))
  (s:=af [bA,bF] (.cons (.as (.ca Â 1 (.cons (.v 0) (.cons (.v 1) (.cons (.v 4) (.cons (.v 6) .nil))))) (.nm 7))
 (.cons (.iff (.no (.va (.ix (.v 7) (.i 0))))
 (.cons (.rt (.v 7))
 .nil)
 .nil)
 (.cons (.ex (.mt .app (.v 3) (.cons (.ix (.v 7) (.i 1)) .nil)))
 .nil))))
  (I:=fun i sl st=>∃(f:List Pp)(a b c d:Option AV),st=[.lst (f.map Pp.av)]/\f.length=i/\sl=[Is nn,Zs (gv.map Gv.av),À z.av,Rs 0,a,b,c,d]/\∀j u,j<i->(iY z)[j]?=À u->∀Y e,0<e->Kp w RR gv Y e->u.num*e<=val w u.row Y)
  (Post:=fun v _=>∃V E,v=.tup [.bl Ã,.tup [.fz (iL V),.int E]]/\An w RR gv V E/\∃u∈iY z,val w u.row (gI V)<u.num*E) (xs:=(iY z).map Gv.av) (fun _ _ _ _ _=>rfl) (fun i x sl st R L=>by
   obtain⟨f,a,b,c,d,es,S,O,N⟩:=L;subst es;subst O;rw[zR]at R;obtain⟨u,m,rfl⟩:=zE.mp R;have n:=zW m;have hi2:i<2:=by
    have h1:=(zB.mp m).1;have h2:(iY z).length<=2:=by unfold iY;split<;>simp
    lia
   obtain⟨q,b1,b2⟩:=C u n;obtain⟨t,r,F⟩:=MD q b1 b2;have r:=r [.lst (f.map Pp.av)];obtain⟨l,X,un⟩:=u;have:X=Ã:=hf _ n;subst this;rcases F with⟨p,rfl,hp⟩|⟨V,E,rfl,P,T⟩
   ·have B:∀st,aR st (.tup [.bl Â,p.av]) (.int 0)=À (.bl Â):=fun _=>rfl
    have Q:∀st,aR st (.tup [.bl Â,p.av]) (.int 1)=À p.av:=fun _=>rfl
    obtain⟨t,G⟩:∃t,t=AV.tup [.bl Â,p.av]:=⟨_,rfl⟩;rw[<- G]at B Q r;refine⟨([Is nn,Zs (gv.map Gv.av),À z.av,Rs 0,Ls l,À (.str ">"),Is un,d],[.lst (f.map Pp.av)]),.nx [Is nn,Zs (gv.map Gv.av),À z.av,Rs 0,Ls l,À (.str ">"),Is un,À t] [.lst ((f++[p]).map Pp.av)],rfl,?_,.inl ⟨_,_,rfl,f++[p],_,_,_,_,rfl,by simp[S],rfl,fun j u M C Y e H K=>?_⟩⟩
    ·refine ay (sl':=[Is nn,Zs (gv.map Gv.av),À z.av,Rs 0,Ls l,À (.str ">"),Is un,À t]) (st':=[.lst (f.map Pp.av)]) (by simp[r]) ?_
     refine ay (sl':=[Is nn,Zs (gv.map Gv.av),À z.av,Rs 0,Ls l,À (.str ">"),Is un,À t]) (st':=[.lst (f.map Pp.av)]) (by simp[B,d8]) ?_;have ap:=pD (ks:=[bA,bF]) (a:=.v 3) (e:=.ix (.v 7) (.i 1)) (y:=p.av) (k:=0) (xs:=f.map Pp.av) (sl:=[Is nn,Zs (gv.map Gv.av),À z.av,Rs 0,Ls l,À (.str ">"),Is un,À t]) (st:=[.lst (f.map Pp.av)]) rfl (by simp[Q]) rfl (by simp;lia);refine ay ap ?_;show À _=À _;simp
    ·by_cases h:j=i
     ·subst h
      rw[m]at C;obtain rfl:=yD C;exact hp Y e H K
     ·exact N j u oM C Y e H K
   ·have B:∀st,aR st (.tup [.bl Ã,.tup [.fz (iL V),.int E]]) (.int 0)=À (.bl Ã):=fun _=>rfl
    obtain⟨t,G⟩:∃t,t=AV.tup [.bl Ã,.tup [.fz (iL V),.int E]]:=⟨_,rfl⟩;rw[<- G]at B r;refine⟨([Is nn,Zs (gv.map Gv.av),À z.av,Rs 0,Ls l,À (.str ">"),Is un,d],[.lst (f.map Pp.av)]),.rt t [.lst (f.map Pp.av)],rfl,?_,.inr ⟨_,_,rfl,V,E,G,P,_,n,T⟩⟩;refine ay (sl':=[Is nn,Zs (gv.map Gv.av),À z.av,Rs 0,Ls l,À (.str ">"),Is un,À t]) (st':=[.lst (f.map Pp.av)]) (by simp[r]) ?_;refine fE ?_;simp[B,d8,kZ]) (sl:=[Is nn,Zs (gv.map Gv.av),À z.av,Rs 0,Á,Á,Á,Á]) (st:=[.lst []]) ⟨[],_,_,_,_,rfl,rfl,rfl,fun j _ h=>absurd h (d? _)⟩
 have J:∃o,aS [.int nn,.fz (gv.map Gv.av),z.av] []=À o/\∃t,de o.2 o.1=À t/\FS w RR gv z t:=by
  rw[aS,aB];show ∃o,(af [bA,bF] jL [Is nn,Zs (gv.map Gv.av),À z.av,Á,Á,Á,Á,Á] []).bind aw=À o/\_;unfold jL;refine ai (sl':=[Is nn,Zs (gv.map Gv.av),À z.av,Rs 0,Á,Á,Á,Á]) (st':=[.lst []]) rfl ?_;have W:=LN (st:=[.lst []]) hs;have U:d3 [bA,bF] (.e (.ca Â 0 (.cons (.v 2) .nil))) [Is nn,Zs (gv.map Gv.av),À z.av,Rs 0,Á,Á,Á,Á] [.lst []]=À (⟨(iY z).map Gv.av,[]⟩,[.lst []]):=by simp[W]
  rcases A with⟨sl',st',D,f,a,b,c,d,rfl,S,rfl,N⟩|⟨v,st',D,V,E,rfl,P,u,n,T⟩
  ·refine ai (sl':=[Is nn,Zs (gv.map Gv.av),À z.av,Rs 0,a,b,c,d]) (st':=[.lst (f.map Pp.av)]) (by rw[jP,U,Æ];exact D) ?_
   refine eK (v:=.tup [.bl Â,.ref 0]) (st':=[.lst (f.map Pp.av)]) rfl ⟨_,Jy rfl,.inl ⟨f,rfl,fun Y e H K=>hd_ups.mpr fun u n=>?_⟩⟩;obtain⟨j,M⟩:=z8 n;exact N j u (by rw[zH];exact(zB.mp M).1) M Y e H K
  ·refine⟨(.tup [.bl Ã,.tup [.fz (iL V),.int E]],st'),cq (by rw[jP,U,Æ];exact D),_,rfl,.inr ⟨V,E,rfl,P,fun h=>?_⟩⟩
   have:=hd_ups.mp h u n
   lia
 obtain⟨o,D,t,e2,F⟩:=J;have Z:rf z.av=Â:=by simp[Gv.av,rf,rfs,d6]
 exact⟨t,fun st=>aZ (by simp[rfs,rf,fQ,Z]) D e2,F⟩
theorem ME{n:Nat}(d:i8 n)(g:gv.length<=100)(i:∀z∈gv,z.row.length=2^n-1/\(∀x∈z.row,x.natAbs<=M0)/\z.num.natAbs<=M0)(b:z.row.length=2^n-1/\(∀x∈z.row,x.natAbs<=M0)/\z.num.natAbs<=M0):∃t,(∀st,pm aS [.int n,.fz (gv.map Gv.av),z.av] st=À (t,st))/\FS (2^n-1) (uh n) gv z t:=by
 have j:2^n-1<=15:=by rcases d with rfl|rfl|rfl<;>decide
 have e:M0<2^121:=œ dC dC;have a:∀u∈iY z,u.row.length=2^n-1/\(∀x∈u.row,x.natAbs<=M0)/\u.num.natAbs<=M0:=fun u h=>by
  unfold iY at h;rcases zT.mp h with rfl|h
  ·exact b
  ·split at h
   ·rw[zM.mp h]
    refine⟨by simp[oB,b.1],fun x c=>?_,by rw[ã];exact b.2.2⟩;obtain⟨y,f,rfl⟩:=yC.mp c;rw[ã];exact b.2.1 y f
   ·cases h
 exact Kf oM fun u h=>⟨Nl d g i ⟨(a u h).1,(a u h).2.1⟩,fun x c=>yL ((a u h).2.1 x c) e,yL (a u h).2.2 e⟩
end
section
variable{n w:Nat}{Y:Nat->Int}{ts:List (Nat×Int)}{L:List Int}{a b c k j g:Nat}
def fT(L:List Int)(t:Nat×Int):List Int:=if t.1=0 then L else L.set (t.1-1) (gI L (t.1-1)+t.2)
def eD(n:Nat)(ts:List (Nat×Int)):List Int:=ts.foldl fT (È (2^n-1) 0)
theorem AY{t:Nat×Int}:(fT L t).length=L.length:=by unfold fT;split<;>simp
theorem oe:∀(ts:List (Nat×Int))(L:List Int),(ts.foldl fT L).length=L.length
 |[],_=>rfl
 |t::ts,L=>by rw[â,oe ts,AY]
theorem AX:(eD n ts).length=2^n-1:=by unfold eD;rw[oe];simp
noncomputable def mO(a b c:Nat):List (Nat×Int):=[(a ||| c,1),(b ||| c,1),(a ||| b ||| c,-1),(c,-1)]
end
section
variable{ns:List Int}{st:aa}
theorem cX{ks:List Fn}{a b:Pc}{c:Tx}{sl:Sl}{P:AV×aa->Prop}(h:tv ks c sl st=À (Ã,st))(d:∃r,(af ks a sl st).bind aw=À r/\P r):∃r,(af ks (.cons (.iff c b .nil) a) sl st).bind aw=À r/\P r:=ai (sl':=sl) (st':=st) (by rw[mn,h];rfl) d
theorem gy{ks:List Fn}{a b g:Pc}{c:Tx}{sl:Sl}{P:AV×aa->Prop}(h:tv ks c sl st=À (Â,st))(f:∃r,af ks b sl st=À r/\∃v st',r=.rt v st'/\P (v,st')):∃r,(af ks (.cons (.iff c b g) a) sl st).bind aw=À r/\P r:=by
 obtain⟨r,e,v,st',rfl,d⟩:=f;exact⟨_,cq (by rw[mn,h,Æ];exact e),d⟩
theorem Hl{x c:Int}(h:0<c)(d:c<2147483648):∃y:Int,y=x%c/\0<=y/\y<c/\y.natAbs<2^62:=by
 have b:=ġ x (show c ≠ 0 by lia);have a:=ğ x h;exact ⟨_,rfl,b,a,zJ (m:=2147483648) oM dC⟩
theorem ES(hn:ns.length<=63):∃D R,dX [.fz (iL ns),.int 2,.int 24] []=À (.ref 0,O3.lst (iL D)::R)/\D.length=24/\∀x∈D,0<=x/\x<2147483587:=by
 obtain⟨C,X⟩:∃C,C=ns++[2]:=⟨_,rfl⟩;have lC:C.length=ns.length+1:=by rw[X];simp
 have Q:∃r,dX [.fz (iL ns),.int 2,.int 24] []=À r/\∃D R,r=(.ref 0,O3.lst (iL D)::R)/\D.length=24/\∀x∈D,0<=x/\x<2147483587:=by
  rw[dX,aB];show ∃r,(af [] gG [Ls ns,Is 2,Is 24,Á,Á,Á,Á,Á,Á,Á] []).bind aw=À r/\_;unfold gG;refine ai (sl':=[Ls ns,Is 2,Is 24,Ls C,Á,Á,Á,Á,Á,Á]) (st':=[]) ?_ ?_
  ·have cu:cut (iL ns) Á (À 63)=iL ns:=by
    unfold cut;have:HT.Pd (iL ns).length (iL ns).length (À 63)=(iL ns).length:=by
     rw[show(63:Int)=((63:Nat):Int) from rfl,HT.sIx_nat,io];lia
    rw[this,HT.sIx_none,ń,Ϣ,Ĭ]
   have c:=kn (ks:=[]) (a:=.nw Ã (.sl (.v 0) .no (.so (.i 63)))) (b:=.nw Ã (.li (.cons (.v 1) .nil))) (sl:=[Ls ns,Is 2,Is 24,Á,Á,Á,Á,Á,Á,Á]) (st:=[]) (s1:=[]) (s2:=[]) (x:=.fz (iL ns)) (y:=.fz [AV.int 2]) (l:=ns) (l':=[2]) (by simp[oF,oA,cu]) (by simp[cA]) rfl rfl (by simp;lia);simp[-wy,c,X]
  refine ai (sl':=[Ls ns,Is 2,Is 24,Ls C,Rs 0,Á,Á,Á,Á,Á]) (st':=[.lst (iL [])]) rfl ?_;have Z:∀st:aa,aR st (.fz (iL C)) (.int 0)=À (.int (gI C 0)):=fun st=>by rw[cH d5,show(0:Int)=((0:Nat):Int) from rfl,cC,cw oM]
  have S:∀st,tv [] (.cmp .Eq (.bin .Mod (.bin .FloorDiv (.ix (.v 3) (.i 0)) (.i 50000)) (.i 2)) (.i 1)) [Ls ns,Is 2,Is 24,Ls C,Rs 0,Á,Á,Á,Á,Á] st=À (decide (gI C 0/50000%2=1),st):=fun st=>by
   by_cases h:gI C 0 / 50000 % 2=1 <;> simp [Z,jk (show eO 50000=Â from rfl),fG (show (0:Int) < 2 by decide),h]
  have z:∀N:Nat,N<=1000->∀sl st,∀a:Ex,ev [] a sl st=À (.int (N:Int),st)->d3 [] (.r1 a) sl st=À (⟨(Ä N).map fun q:Nat=>AV.int (q:Int),[]⟩,st):=fun N h sl st a e=>wj e h
  by_cases W:gI C 0/50000%2=1
  ·refine gy (by rw[S,yV W]) ?_
   refine Ay (sl':=[Ls ns,Is 2,Is 24,Ls C,Rs 0,Rs 1,Á,Á,Á,Á]) (st':=[.lst (iL []),.lst (iL (C.map fun x=>x/100000))]) ?_ ?_
   ·have I:eO 100000=Â:=by decide
    simp [bW (show C.length <= 1000 by lia)];rw [kF (F:=fun x=>x / 100000) gk fun x G=>⟨_,rfl,rfl,by simp [pC I,Kl (show (0:Int) < 100000 by decide)]⟩];simp
   refine IQ (em:=fun q:Nat=>.int (q:Int)) (xs:=Ä 26) (gd:=[]) (st0:=[.lst (iL []),.lst (iL (C.map fun x=>x/100000))]) (fun i sl s=>∃d f n M,s=[.lst (iL d),.lst (iL f)]/\sl=[Ls ns,Is 2,Is 24,Ls C,Rs 0,Rs 1,n,M,Á,Á]/\f.length=C.length/\d.length=i-2/\∀x∈d,0<=x/\x<2147483587) (z 26 dC _ _ _ rfl) (fun _ _ _ _=>rfl) ⟨[],_,_,_,rfl,rfl,by simp,rfl,by simp⟩ ?_ ?_
   ·rintro i q sl s o ⟨d,f,n,M,rfl,rfl,H,t,g⟩
    obtain⟨hi,rfl⟩:i<26/\q=i:=by
     have:=(zB.mp o).1
     rw[Ķ (by simpa using this)]at o;exact⟨by simpa using this,(yD o).symm⟩
    obtain⟨j,A⟩:∃j,j=q%C.length:=⟨_,rfl⟩;have V:j<C.length:=by rw[A];exact T! _ oM
    have J:o9 ((q:Nat):Int) ((C.length:Nat):Int)=((j:Nat):Int):=by rw[CP oM,A];simp
    have K:∀d:List Int,aR [.lst (iL d),.lst (iL f)] (.ref 1) (.int (j:Int))=À (.int (gI f j)):=fun d=>by rw[cH (cm (xs:=iL f) rfl),cC,cw oM]
    have T:∀d:List Int,jO [.lst (iL d),.lst (iL f)] (.ref 1) (.int (j:Int)) (.int (gI f j/2147483587))=À [.lst (iL d),.lst (iL (f.set j (gI f j/2147483587)))]:=fun d=>by
     have:=dD (st:=[O3.lst (iL d),.lst (iL f)]) (k:=1) (q:=j) (xs:=iL f) (x:=.int (gI f j/2147483587)) rfl (by simp;lia)
     rw[fH]at this;exact this
    have U:bY dj [.ref 1] [.lst (iL d),.lst (iL f)]=À (.int ((C.length:Nat):Int),[.lst (iL d),.lst (iL f)]):=by
     show À (AV.int ((iL f).length:Int),_)=_;rw[io,H]
    have I:eO 2147483587=Â:=by decide
    by_cases h2:2<=q
    ·refine⟨_,[Ls ns,Is 2,Is 24,Ls C,Rs 0,Rs 1,Is (q:Int),Is (j:Int),Á,Á],[.lst (iL (d++[gI f j%2147483587])),.lst (iL (f.set j (gI f j/2147483587)))],rfl,?_,_,_,_,_,rfl,rfl,by simp[H],by simp[t];lia,fun x G=>?_⟩
     ·refine ay (sl':=[Ls ns,Is 2,Is 24,Ls C,Rs 0,Rs 1,Is (q:Int),Is (j:Int),Á,Á]) (st':=[.lst (iL d),.lst (iL f)]) (by simp [U,pB (show ((C.length:Nat):Int) ≠ 0 by lia),J]) ?_
      have B:=pD (ks:=[]) (a:=.v 4) (e:=.bin .Mod (.ix (.v 5) (.v 7)) (.i 2147483587)) (y:=.int (gI f j % 2147483587)) (k:=0) (xs:=iL d) (sl:=[Ls ns,Is 2,Is 24,Ls C,Rs 0,Rs 1,Is (q:Int),Is (j:Int),Á,Á]) (st:=[.lst (iL d),.lst (iL f)]) rfl (by simp [K,fG (show (0:Int) < 2147483587 by decide)]) rfl (by simp;lia);rw [zk,tz] at B;refine ay (sl':=[Ls ns,Is 2,Is 24,Ls C,Rs 0,Rs 1,Is (q:Int),Is (j:Int),Á,Á]) (st':=[.lst (iL (d++[gI f j % 2147483587])),.lst (iL f)]) ?_ ?_
      ·have tt:tv [] (.cmp .GtE (.v 6) (.v 1)) [Ls ns,Is 2,Is 24,Ls C,Rs 0,Rs 1,Is (q:Int),Is (j:Int),Á,Á] [.lst (iL d),.lst (iL f)]=À (Â,[.lst (iL d),.lst (iL f)]):=by simp[show(2:Int)<=(q:Int) by lia]
       rw[mn,tt,Æ];exact ay B rfl
      ·exact ay (sl':=[Ls ns,Is 2,Is 24,Ls C,Rs 0,Rs 1,Is (q:Int),Is (j:Int),Á,Á]) (st':=[.lst (iL (d++[gI f j%2147483587])),.lst (iL (f.set j (gI f j/2147483587)))]) (by simp[K,T,jk I]) rfl
     ·rcases zZ.mp G with h|h
      ·exact g x h
      ·rw[zM.mp h];exact JN dC
    ·refine⟨_,[Ls ns,Is 2,Is 24,Ls C,Rs 0,Rs 1,Is (q:Int),Is (j:Int),Á,Á],[.lst (iL d),.lst (iL (f.set j (gI f j/2147483587)))],rfl,?_,_,_,_,_,rfl,rfl,by simp[H],by lia,g⟩
     refine ay (sl':=[Ls ns,Is 2,Is 24,Ls C,Rs 0,Rs 1,Is (q:Int),Is (j:Int),Á,Á]) (st':=[.lst (iL d),.lst (iL f)]) (by simp [U,pB (show ((C.length:Nat):Int) ≠ 0 by lia),J]) ?_;refine ay (sl':=[Ls ns,Is 2,Is 24,Ls C,Rs 0,Rs 1,Is (q:Int),Is (j:Int),Á,Á]) (st':=[.lst (iL d),.lst (iL f)]) (by simp [show ¬ (2:Int) <= (q:Int) by lia]) ?_;exact ay (sl':=[Ls ns,Is 2,Is 24,Ls C,Rs 0,Rs 1,Is (q:Int),Is (j:Int),Á,Á]) (st':=[.lst (iL d),.lst (iL (f.set j (gI f j / 2147483587)))]) (by simp [K,T,jk I]) rfl
   ·rintro sl s ⟨d,f,n,M,rfl,rfl,H,t,g⟩
    exact⟨_,fE rfl,_,_,rfl,d,_,rfl,by simpa using t,g⟩
  ·refine cX (by rw[S,z9 W]) ?_
   refine ou (em:=fun q:Nat=>.int (q:Int)) (xs:=Ä 24) (gd:=[]) (st0:=[.lst (iL [])]) (fun i sl s=>∃d n L E,s=[.lst (iL d)]/\sl=[Ls ns,Is 2,Is 24,Ls C,Rs 0,Á,n,Á,L,E]/\d.length=i/\∀x∈d,0<=x/\x<2147483587) (z 24 dC _ _ _ rfl) (fun _ _ _ _=>rfl) ⟨[],_,_,_,rfl,rfl,rfl,by simp⟩ ?_ ?_
   ·rintro i q sl s o ⟨d,n,L,E,rfl,rfl,t,g⟩
    obtain⟨hi,rfl⟩:i<24/\q=i:=by
     have:=(zB.mp o).1
     rw[Ķ (by simpa using this)]at o;exact⟨by simpa using this,(yD o).symm⟩
    obtain⟨j,A⟩:∃j,j=q%C.length:=⟨_,rfl⟩;have V:j<C.length:=by rw[A];exact T! _ oM
    have J:o9 ((q:Nat):Int) ((C.length:Nat):Int)=((j:Nat):Int):=by rw[CP oM,A];simp
    have Y:aR [.lst (iL d)] (.fz (iL C)) (.int (j:Int))=À (.int (gI C j)):=by rw[cH d5,cC,cw V]
    obtain⟨p,hp,p62⟩:∃p:Int,p=((q:Int)+2)*((q:Int)+2)*7919+104729/\(((q:Int)+2)*((q:Int)+2)).natAbs<2^62:=by
     refine ⟨_,rfl,?_⟩;rw [yZ];exact yL (Ŝ (show ((q:Int) + 2).natAbs <= 32 by lia) (show ((q:Int) + 2).natAbs <= 32 by lia)) dC
    obtain⟨u,hu,_,_,P⟩:=Hl (x:=(gI C j%2147483647+p)*48271) (c:=2147483647) dC dC;obtain⟨v,hv,_,_,O⟩:=Hl (x:=u*u+69621*(q:Int)) (c:=2147483629) dC dC;obtain⟨w,hw,w0,w1,_⟩:=Hl (x:=v*v) (c:=2147483587) dC dC;have m1:bB .Mult [.lst (iL d)] (.int ((q:Int)+2)) (.int ((q:Int)+2))=À (.int (((q:Int)+2)*((q:Int)+2))):=cM (rp (yL (m:=32) oM dC));have m2:bB .Mult [.lst (iL d)] (.int (((q:Int)+2)*((q:Int)+2))) (.int 7919)=À (.int (((q:Int)+2)*((q:Int)+2)*7919)):=cM (CA dC);have m3:bB .Mult [.lst (iL d)] (.int (gI C j%2147483647+p)) (.int 48271)=À (.int ((gI C j%2147483647+p)*48271)):=cM (CA dC);have m4:bB .Mult [.lst (iL d)] (.int u) (.int u)=À (.int (u*u)):=cM (rp P);have m5:bB .Mult [.lst (iL d)] (.int 69621) (.int (q:Int))=À (.int (69621*(q:Int))):=cM (rp dC);have m6:bB .Mult [.lst (iL d)] (.int v) (.int v)=À (.int (v*v)):=cM (rp O);refine⟨_,[Ls ns,Is 2,Is 24,Ls C,Rs 0,Á,Is (q:Int),Á,Is p,Is v],[.lst (iL (d++[w]))],rfl,?_,_,_,_,_,rfl,rfl,by simp[t],fun x G=>?_⟩
    ·refine ay (sl':=[Ls ns,Is 2,Is 24,Ls C,Rs 0,Á,Is (q:Int),Á,Is p,E]) (st':=[.lst (iL d)]) (by simp[m1,m2,<- hp]) ?_
     refine ay (sl':=[Ls ns,Is 2,Is 24,Ls C,Rs 0,Á,Is (q:Int),Á,Is p,Is u]) (st':=[.lst (iL d)]) (by simp [bY,dj,pB (show ((C.length:Nat):Int) ≠ 0 by lia),J,Y,fG (show (0:Int) < 2147483647 by decide),m3,<- hu]) ?_;refine ay (sl':=[Ls ns,Is 2,Is 24,Ls C,Rs 0,Á,Is (q:Int),Á,Is p,Is v]) (st':=[.lst (iL d)]) (by simp [m4,m5,fG (show (0:Int) < 2147483629 by decide),<- hv]) ?_;have B:=pD (ks:=[]) (a:=.v 4) (e:=.bin .Mod (.bin .Mult (.v 9) (.v 9)) (.i 2147483587)) (y:=.int w) (k:=0) (xs:=iL d) (sl:=[Ls ns,Is 2,Is 24,Ls C,Rs 0,Á,Is (q:Int),Á,Is p,Is v]) (st:=[.lst (iL d)]) rfl (by simp [m6,fG (show (0:Int) < 2147483587 by decide),<- hw]) rfl (by simp;lia);rw [zk,tz] at B;exact ay B rfl
    ·rcases zZ.mp G with h|h
     ·exact g x h
     ·rw[zM.mp h];exact⟨w0,w1⟩
   ·rintro sl s ⟨d,n,L,E,rfl,rfl,t,g⟩
    exact⟨_,rfl,d,_,rfl,by simpa using t,g⟩
 obtain⟨r,e,D,R,rfl,h⟩:=Q;exact⟨D,R,e,h⟩
end
section
variable{st:aa}{n a b c:Nat}{ts:List (Nat×Int)}{D:List Int}{R:aa}{G:List Gv}
noncomputable def kY(z:Nat×Int):AV:=.tup [.int (z.1:Int),.int z.2]
theorem IT:∀l:List (Nat×Int),rfs (l.map kY)=Â:=fun l=>dy fun x a=>by
 obtain⟨z,_,rfl⟩:=yC.mp a;rfl
theorem mq(j:i8 n)(l:∀t∈ts,t.1<2^n):pm cO [.int n,.fz (ts.map kY)] st=À (.fz (iL (eD n ts)),st):=by
 have p:2^n-1<=15:=by rcases j with rfl|rfl|rfl<;>decide
 have e:∃r,cO [.int n,.fz (ts.map kY)] []=À r/\de r.2 r.1=À (.fz (iL (eD n ts))):=by
  rw[cO,aB];show ∃r,(af [] iR [Is n,Zs (ts.map kY),Á,Á,Á] []).bind aw=À r/\_;unfold iR;refine ai (sl':=[Is n,Zs (ts.map kY),Rs 0,Á,Á]) (st':=[.lst (iL (È (2^n-1) 0))]) (by rcases j with rfl|rfl|rfl<;>rfl) ?_;refine ou (em:=kY) (xs:=ts) (gd:=[]) (st0:=[.lst (iL (È (2^n-1) 0))]) (fun i d s=>s=[.lst (iL ((ts.take i).foldl fT (È (2^n-1) 0)))]/\∃x y,d=[Is n,Zs (ts.map kY),Rs 0,x,y]) rfl (fun _ _ _ _=>rfl) ⟨rfl,_,_,rfl⟩ ?_ ?_
  ·rintro i ⟨g,c⟩ d s hz ⟨rfl,x,y,rfl⟩
   have m:=l _ (zW hz);have u:((ts.take i).foldl fT (È (2^n-1) 0)).length=2^n-1:=by rw[oe];simp
   have b:(ts.take (i+1)).foldl fT (È (2^n-1) 0)=fT ((ts.take i).foldl fT (È (2^n-1) 0)) (g,c):=by
    rw[ϝ,hz,J?,ϟ];rfl
   rw[b];generalize (ts.take i).foldl fT (È (2^n-1) 0)=L at *;refine⟨([Is n,Zs (ts.map kY),Rs 0,Is (g:Int),Is c],[.lst (iL L)]),[Is n,Zs (ts.map kY),Rs 0,Is (g:Int),Is c],[.lst (iL (fT L (g,c)))],rfl,?_,rfl,_,_,rfl⟩;unfold fT;dsimp only at m ⊢;refine ay (s:=.iff _ _ _) ?_ rfl;by_cases f:g=0
   ·rw[yH f];subst f;rfl
   ·rw[yG f]
    have a:g-1<L.length:=by lia
    have ix:aR [.lst (iL L)] (.ref 0) (.int ((g-1:Nat):Int))=À (.int (SX.gI L (g-1))):=by rw[cH (cm (xs:=iL L) rfl),cC,cw a]
    have h:=dD (st:=[.lst (iL L)]) (k:=0) (q:=g-1) (xs:=iL L) (x:=.int (SX.gI L (g-1)+c)) rfl (by rw[io];exact a);rw[fH]at h;have b:(g:Int)-1=((g-1:Nat):Int):=by lia
    simp [eq_true (show 0 < g by lia),b,ix,h]
  ·rintro d s ⟨rfl,x,y,rfl⟩
   rw[Ĭ];exact⟨_,rfl,mo rfl⟩
 obtain⟨r,b,o⟩:=e;exact aZ (by simp[rfs,rf,IT]) b o
theorem jQ(b:i8 n)(h:a<2^n):a<16:=zJ h (by rcases b with rfl|rfl|rfl<;>decide)
theorem ED(c:i8 n)(f:a<2^n)(d:b<2^n):pm dk [.int n,.int a,.int b] st=À (.fz (iL (eD n [(a ||| b,1),(b,-1)])),st):=by
 have h:a ||| b<2^n:=ņ f d;have g:=sH (st:=[]) (jQ c f) (jQ c d);have e:=mq (st:=[]) (ts:=[(a ||| b,1),(b,-1)]) c (by simp only[zT,zX,or_false];rintro t (rfl|rfl)<;>assumption);refine aZ rfl (v:=.fz (iL (eD n [(a ||| b,1),(b,-1)]))) (st':=[]) ?_ rfl;rw[dk,aB];unfold jV;refine cq ?_;simp only[zO,Ń,kY]at e;generalize a ||| b=q1 at *;simp[cA,rfs,rf,g,e,j3]
theorem yt(d:i8 n)(h:a<2^n)(g:b<2^n)(f:c<2^n):pm cV [.int n,.int a,.int b,.int c] st=À (.fz (iL (eD n (mO a b c))),st):=by
 have q:a ||| c<2^n:=ņ h f;have p:b ||| c<2^n:=ņ g f;have i:a ||| b<2^n:=ņ h g;have o:a ||| b ||| c<2^n:=ņ i f;have m:=sH (st:=[]) (jQ d h) (jQ d f);have l:=sH (st:=[]) (jQ d g) (jQ d f);have k:=sH (st:=[]) (jQ d h) (jQ d g);have j:=sH (st:=[]) (jQ d i) (jQ d f);have e:=mq (st:=[]) (ts:=mO a b c) d (by simp only[mO,zT,zX,or_false];rintro t (rfl|rfl|rfl|rfl)<;>assumption);refine aZ rfl (v:=.fz (iL (eD n (mO a b c)))) (st':=[]) ?_ rfl;rw[cV,aB];unfold iD;refine cq ?_;simp only[mO,zO,Ń,kY]at e ⊢;generalize a ||| b ||| c=q4 at *;generalize a ||| b=q3 at *;generalize a ||| c=q1 at *;generalize b ||| c=q2 at *;simp[cA,rfs,rf,m,l,k,j,e,j3]
theorem mr{m k:Nat}(h:∀t∈ts,t.2.natAbs<=k)(i:ts.length*k<=m):∀x∈eD n ts,x.natAbs<=m:=by
 have g:∀(ts:List (Nat×Int))(L:List Int)(b:Nat),(∀t∈ts,t.2.natAbs<=k)->(∀x∈L,x.natAbs<=b)->∀x∈ts.foldl fT L,x.natAbs<=b+ts.length*k:=fun ts=>by
  induction ts with
  |nil=>intro L b _ h x a;have:=h x a;lia
  |cons t ts f =>
   intro L b e d x a
   have:=f (fT L t) (b+k) (fun y c=>e y (zQ _ c)) (fun y c=>by
    unfold fT at c;split at c
    ·have:=d y c;lia
    ·rcases ă c with h|h
     ·have:=d y h;lia
     ·have j:(gI L (t.1-1)).natAbs<b+1:=mC (fun x a=>ϣ (d x a)) (D? b) _
      have:=e t z7
      rw[h];lia) x a
   rw[yX,Nat.add_mul];lia
 intro x a
 have:=g ts _ 0 h (fun x a=>by rw[List.eq_of_mem_replicate a];decide) x a
 lia
def okB(n:Nat)(z:Gv):Prop:=z.row.length=2^n-1/\(∀x∈z.row,x.natAbs<=16)/\z.num.natAbs<=200000000000
theorem wn{x:Int}:aW [.ref 0] (.lst (iL (D++[x]))::R)=À (.int x,.lst (iL D)::R):=Jz (st:=.lst (iL (D++[x]))::R) (r:=0) rfl
theorem kC{z:Int}{m:Nat}(h:0<m):∃q:Nat,q<m/\z%(m:Int)=(q:Int):=by
 have b:=ġ z (show (m:Int) ≠ 0 by lia);have a:=ğ z (show (0:Int) < (m:Int) by lia);exact ⟨(z % (m:Int)).toNat,by lia,by lia⟩
theorem nO(A:i8 n)(C:2<=D.length)(hd:okD D):∃(D':List Int)(z:Gv),aO [.ref 0,.int n] (.lst (iL D)::R)=À (z.av,.lst (iL D')::R)/\(okB n z/\z.num.natAbs<=100000000000)/\okD D'/\D.length=D'.length+2:=by
 obtain⟨D1,x,rfl⟩:=rD (D:=D) (fun z=>by rw[z]at C;simp at C);obtain⟨hx,P⟩:=hd.at;have Y:=wn (R:=R) (D:=D1) (x:=x);simp only[zV,ģ]at C ⊢;obtain⟨s,y,rfl⟩:=rD (D:=D1) (fun z=>by rw[z]at C;simp at C);obtain⟨hy,O⟩:=P.at;have K:=wn (R:=R) (D:=s) (x:=y);obtain⟨S,hS⟩:∃S,S=O3.lst (iL s)::R:=⟨_,rfl⟩;obtain⟨p,B⟩:∃p,p=O3.lst (iL (s++[y]))::R:=⟨_,rfl⟩;obtain⟨w,hw,J⟩:∃w:Nat,w+1=2^n/\0<w:=by rcases A with rfl|rfl|rfl<;>exact⟨_,rfl,by decide⟩
 obtain⟨a,Q,ea⟩:∃a:Nat,a<2^n/\1+x/64%(w:Int)=(a:Int):=by obtain⟨q,h,e⟩:=kC (z:=x/64) J;exact⟨q+1,by lia,by lia⟩
 obtain⟨b,hb,eb⟩:∃a:Nat,a<2^n/\1+x/960%(w:Int)=(a:Int):=by obtain⟨q,h,e⟩:=kC (z:=x/960) J;exact⟨q+1,by lia,by lia⟩
 obtain⟨c,hc,ec⟩:∃a:Nat,a<2^n/\x/14400%((w:Int)+1)=(a:Int):=by obtain⟨q,h,e⟩:=kC (z:=x/14400) (m:=w+1) oM;exact⟨q,by lia,e⟩
 obtain⟨g,hg,eg⟩:∃a:Nat,a<2^n/\1+(c:Int)%(w:Int)=(a:Int):=by obtain⟨q,h,e⟩:=kC (z:=(c:Int)) J;exact⟨q+1,by lia,by lia⟩
 obtain⟨k,hk,k2⟩:∃k:Int,x/16%4-1=k/\k.natAbs<=2:=by
  have F:=ġ (x / 16) (show (4:Int) ≠ 0 by decide);have E:=ğ (x / 16) (show (0:Int) < 4 by decide);exact ⟨_,rfl,by lia⟩
 obtain⟨sg,es⟩:∃sg:Bool,aR p (.fz [.str "=",.str ">"]) (.int (x/8%2))=À (.str (if sg=Â then "=" else ">")):=by
  rcases Int.emod_two_eq (x/8) with h|h<;>rw[h]
  ·exact⟨Â,rfl⟩
  ·exact⟨Ã,rfl⟩
 have w1:=ġ y (show (8:Int) ≠ 0 by decide);have w2:=ğ y (show (0:Int) < 8 by decide);have M:∀ st,bB .Pow st (.int 10) (.int 11)=À (.int 100000000000):=fun _=>by kernel_rfl
 have V:∀st,j3 .USub st (.int 1)=À (.int (-1)):=fun _=>rfl
 obtain⟨v,hv,xv⟩:=C3 (st:=S) (l:=[.int 0,.int 0,.int 1,.int 2,.int 3,.int 5,.int (-1),.int 100000000000]) w1 w2;obtain⟨o,rfl,j⟩:∃o:Int,v=.int o/\o.natAbs<=100000000000:=by
  simp only[zT,zX,or_false]at hv;rcases hv with rfl|rfl|rfl|rfl|rfl|rfl|rfl|rfl<;>exact⟨_,rfl,by decide⟩
 have N:∃r,aO [.ref 0,.int n] (.lst (iL (s++[y]++[x]))::R)=À r/\∃z:Gv,r=(z.av,S)/\okB n z/\z.num.natAbs<=100000000000:=by
  rw[aO,aB];show ∃r,(af [aW,cO,dk,cV] fP [Rs 0,Is n,Á,Á,Á,Á,Á,Á,Á] (.lst (iL (s++[y]++[x]))::R)).bind aw=À r/\_;unfold fP;have ew:∀u st,ev [aW,cO,dk,cV] (.bin .Sub (.bin .LShift (.i 1) (.v 1)) (.i 1)) (Rs 0::Is n::u) st=À (.int (w:Int),st):=fun u st=>by
   have:w=2^n-1:=by lia
   rw[this];rcases A with rfl|rfl|rfl<;>rfl
  rw[<- B]at Y;rw[<- hS]at K;rw[<- B]at K;generalize (O3.lst (iL (s++[y]++[x]))::R)=S0 at *;have U:(0:Int)<(w:Int):=by lia
  refine ai (sl':=[Rs 0,Is n,Is x,Á,Á,Á,Á,Á,Á]) (st':=p) (by simp [Y,jt]) ?_;refine ai (sl':=[Rs 0,Is n,Is x,Is (w:Int),Á,Á,Á,Á,Á]) (st':=p) (by rw [iC,ew];rfl) ?_;refine ai (sl':=[Rs 0,Is n,Is x,Is (w:Int),Is (a:Int),Á,Á,Á,Á]) (st':=p) (by simp [jk (show eO 64=Â from rfl),fG U,ea]) ?_;refine ai (sl':=[Rs 0,Is n,Is x,Is (w:Int),Is (a:Int),Is (b:Int),Á,Á,Á]) (st':=p) (by simp [jk (show eO 960=Â from rfl),fG U,eb]) ?_;refine ai (sl':=[Rs 0,Is n,Is x,Is (w:Int),Is (a:Int),Is (b:Int),Is (c:Int),Á,Á]) (st':=p) (by simp [jk (show eO 14400=Â from rfl),fG (show (0:Int) < (w:Int) + 1 by lia),ec]) ?_;refine ai (sl':=[Rs 0,Is n,Is x,Is (w:Int),Is (a:Int),Is (b:Int),Is (c:Int),À (.str (if sg=Â then "=" else ">")),Á]) (st':=p) (by simp [jk (show eO 8=Â from rfl),fG (show (0:Int) < 2 by decide),es,cA,rfs,rf]) ?_;refine ai (sl':=[Rs 0,Is n,Is x,Is (w:Int),Is (a:Int),Is (b:Int),Is (c:Int),À (.str (if sg=Â then "=" else ">")),Is o]) (st':=S) (by simp [V,M,K,jt,fG (show (0:Int) < 8 by decide),xv,cA,rfs,rf]) ?_;have f:bB .Mod S (.int x) (.int 8)=À (.int (x % 8)):=fG dC;have T:bB .FloorDiv S (.int x) (.int 16)=À (.int (x / 16)):=jk rfl dC;have m4:bB .Mod S (.int (x / 16)) (.int 4)=À (.int (x / 16 % 4)):=fG dC;have mw:bB .Mod S (.int (c:Int)) (.int (w:Int))=À (.int ((c:Int) % (w:Int))):=fG U;have r1:=mq (st:=S) (ts:=[(a,1)]) A (by simp only [zM];rintro t rfl;exact Q);have r2:=ED (st:=S) A Q hc;have X:=yt (st:=S) A Q hb hc;have W:=mq (st:=S) (ts:=[(a,k),(b,1),(g,-1)]) A (by simp only [zT,zX,or_false];rintro t (rfl | rfl | rfl) <;> assumption);have o1:∀ x ∈ eD n [(a,1)],x.natAbs <= 16:=mr (k:=1) (by simp) (by simp);have o2:∀ x ∈ eD n [(a ||| c,1),(c,-1)],x.natAbs <= 16:=mr (k:=1) (by simp) (by simp);have Z:∀ x ∈ eD n (mO a b c),x.natAbs <= 16:=mr (k:=1) (by simp [mO]) (by simp [mO]);have o4:∀ x ∈ eD n [(a,k),(b,1),(g,-1)],x.natAbs <= 16:=mr (k:=2) (by simp;lia) (by simp);have G:∀ ts,(eD n ts).length=2 ^ n - 1:=fun _=>AX
  have l1:=G [(a,1)];have l2:=G [(a ||| c,1),(c,-1)];have l3:=G (mO a b c);have l4:=G [(a,k),(b,1),(g,-1)];simp only[zO,Ń,kY]at r1 W;generalize eD n [(a,1)]=R1 at *;generalize eD n [(a ||| c,1),(c,-1)]=R2 at *;generalize eD n (mO a b c)=R3 at *;generalize eD n [(a,k),(b,1),(g,-1)]=R4 at *;have d:∀(L:List Int)(sg:Bool)(c:Int)(e:Pc)(u:Sl),L.length=2^n-1->(∀x∈L,x.natAbs<=16)->c.natAbs<=100000000000->af [aW,cO,dk,cV] e u S=À (.rt (.tup [.fz (iL L),.str (if sg=Â then "=" else ">"),.int c]) S)->∃r,af [aW,cO,dk,cV] e u S=À r/\∃v st',r=.rt v st'/\∃z:Gv,(v,st')=(z.av,S)/\okB n z/\z.num.natAbs<=100000000000:=fun L sg c e u F E I H=>⟨_,H,_,_,rfl,⟨L,sg,c⟩,rfl,⟨F,E,by dsimp only;lia⟩,I⟩
  have e8:=ġ x (show (8:Int) ≠ 0 by decide);generalize x % 8=q at *;generalize i:AV.str (if sg=Â then "=" else ">")=sx at *;by_cases F:q < 2
  ·refine gy (by simp[f,F]) (d R1 sg o _ _ l1 o1 j ?_)
   rw[i];refine fE ?_;simp[cA,rfs,rf,r1]
  refine cX (by simp[f,F]) ?_;by_cases E:q=2
  ·refine gy (by simp[f,E]) (d R2 sg o _ _ l2 o2 j ?_)
   rw[i];refine fE ?_;simp[r2]
  refine cX (by simp[f,E]) ?_;by_cases I:q=3
  ·refine gy (by simp[f,I]) (d R2 Â 0 _ _ l2 o2 dC ?_)
   refine fE ?_;simp[r2]
  refine cX (by simp[f,I]) ?_;by_cases H:q=4
  ·refine gy (by simp[f,H]) (d R3 sg o _ _ l3 Z j ?_)
   rw[i];refine fE ?_;simp[X]
  refine cX (by simp[f,H]) ?_;by_cases h5:q=5
  ·refine gy (by simp[f,h5]) (d R3 Â 0 _ _ l3 Z dC ?_)
   refine fE ?_;simp[X]
  refine cX (by simp[f,h5]) ?_;refine eK (v:=.tup [.fz (iL R4),sx,.int o]) (st':=S) ?_ ⟨⟨R4,sg,o⟩,by rw[<- i];rfl,⟨l4,o4,by dsimp only;lia⟩,j⟩;simp[T,m4,hk,mw,eg,V,cA,rfs,rf,W]
 obtain⟨r,e,z,rfl,hz⟩:=N;exact⟨s,z,by rw[hS]at e;exact e,hz,O,by simp⟩
end
section
variable{st:aa}{n:Nat}{D:List Int}{R:aa}{G:List Gv}
def qI(z:Gv):Ņ:=.tuple [.list (z.row.map á),.str (if z.eq=Â then "=" else ">"),.int z.num]
theorem Ju(z:Gv):cp 8 st z.av=À (qI z):=by
 obtain⟨r,e,m⟩:=z;have:cp 7 st (.fz (iL r))=À (.list (r.map á)):=by show(aQ (cp 6 st) _).map _=_;rw[yp];rfl
 show(aQ (cp 7 st) [.fz (iL r),_,_]).map _=_;simp only[aQ,this,Æ];cases e<;>rfl
theorem Hy(z:Gv):(qI z).canLay0=Â:=by
 obtain⟨r,e,m⟩:=z;have:∀l:List Int,ø (l.map á)=Â:=fun l=>by
  induction l with
  |nil=>rfl
  |cons x l c=>simp only[zO,ø,Đ,c,Ģ]
 have b:V8 "="=Â:=by decide +kernel
 have a:V8 ">"=Â:=by decide +kernel
 cases e<;>simp[qI,Đ,ø,this,b,a]
theorem y8:∀G:List Gv,ø (G.map qI)=Â
 |[]=>rfl
 |x::l=>by simp only[zO,ø,Hy,y8 l,Ģ]
theorem CS:cb .Eq st (.fz (G.map Gv.av)) (.fz [])=À G.isEmpty:=by
 change iM st _ (.fz [])=_;have a:cp 9 st (.fz (G.map Gv.av))=À (.list (G.map qI)):=by
  have:aQ (cp 8 st) (G.map Gv.av)=À (G.map qI):=du (f:=cp 8 st) (i:=Gv.av) (g:=qI) (fun z=>Ju z) G;show(aQ (cp 8 st) _).map _=_;rw[this];rfl
 unfold iM;rw[a,show cp 9 st (.fz [])=À (.list []) from rfl,Æ,Æ,yH (by
  unfold DD.pyOk;rw[show(ś (G.map qI)).canLay0=Â by simp only[Đ,y8],yV (z5 (U8 _ _) dC)];rfl)]
 cases G<;>rfl
def j4(n:Nat)(z:Gv):Prop:=z.row.length=2^n-1/\(∀x∈z.row,x.natAbs<=32)/\z.num.natAbs<=1000000000000
theorem CN{T:List Int}{q:Nat}(h:q<T.length):SX.gI T q∈T:=by
 unfold SX.gI;rw[zD,zF h];exact Ý h
theorem okB.w{z:Gv}(h:okB n z):j4 n z:=⟨h.1,fun x a=>by have:=h.2.1 x a;lia,by have:=h.2.2;lia⟩
theorem wM{ks:List Fn}{e:Ex}{sl:Sl}{l:List Int}(h:ev ks e sl st=À (.fz (iL l),st))(a:l.length<=1000):ev ks (.nw Ã (.lof e)) sl st=À (.fz (iL l),st):=by
 simp[nT,h,bW a]
theorem CH{i:Nat}(a:i<G.length):∃z∈G,aR st (.fz (G.map Gv.av)) (.int (i:Int))=À z.av:=by
 refine⟨G[i],Ý a,?_⟩;rw[cH d5,cC,zR,zF a];rfl
theorem Az(hn:i8 n)(hD:3<=D.length)(hd:okD D)(hG:G.length<=6)(hz:∀z∈G,okB n z):∃(D':List Int)(z:Gv),dz [.ref 0,.int n,.fz (G.map Gv.av)] (.lst (iL D)::R)=À (z.av,.lst (iL D')::R)/\j4 n z/\okD D'/\D'.length+3=D.length:=by
 have hN:2^n-1<=15:=by rcases hn with rfl|rfl|rfl<;>decide
 obtain⟨W,x,rfl⟩:=rD (D:=D) (fun z=>by rw[z]at hD;simp at hD);obtain⟨hx,hd1⟩:=hd.at;have p1:=wn (R:=R) (D:=W) (x:=x);simp only[zV,ģ]at hD;obtain⟨D2,o,V,⟨ho,_⟩,hd2,hl2⟩:=nO (R:=R) hn oM hd1;have s:∃r,dz [.ref 0,.int n,.fz (G.map Gv.av)] (.lst (iL (W++[x]))::R)=À r/\∃z:Gv,r=(z.av,.lst (iL D2)::R)/\j4 n z:=by
  rw[dz,aB];show ∃r,(af [aW,aO] fO [Rs 0,Is n,Zs (G.map Gv.av),Á,Á,Á,Á,Á,Á,Á,Á] (.lst (iL (W++[x]))::R)).bind aw=À r/\_;unfold fO;obtain⟨S,hS⟩:∃S,S=O3.lst (iL D2)::R:=⟨_,rfl⟩;obtain⟨a,g⟩:∃a,a=o.av:=⟨_,rfl⟩;rw[<- hS,<- g]at V;rw[<- hS];refine ai (sl':=[Rs 0,Is n,Zs (G.map Gv.av),Is x,Á,Á,Á,Á,Á,Á,Á]) (st':=.lst (iL W)::R) (by simp[p1,jt]) ?_;refine ai (sl':=[Rs 0,Is n,Zs (G.map Gv.av),Is x,À a,Á,Á,Á,Á,Á,Á]) (st':=S) (by simp[V,jt]) ?_;have I:bB .Mod S (.int x) (.int 4)=À (.int (x%4)):=fG dC;have eg:=CS (st:=S) (G:=G);have Z:tv [aW,aO] (.or (.cmp .Eq (.v 2) (.nw Ã (.li .nil))) (.cmp .Eq (.bin .Mod (.v 3) (.i 4)) (.i 0))) [Rs 0,Is n,Zs (G.map Gv.av),Is x,À a,Á,Á,Á,Á,Á,Á] S=À (G.isEmpty||decide (x%4=0),S):=by
   cases hG:G.isEmpty <;> (rw [hG] at eg;simp [eg,I,cA])
  cases L:(G.isEmpty||decide (x%4=0)) with
  |true=>exact gy (by rw[Z,L]) ⟨_,rfl,_,_,rfl,o,by rw[g],ho.w⟩
  |false =>
  rw[L]at Z;refine cX Z ?_;rw[Bool.or_eq_false_iff]at L;have h0:¬x%4=0:=of_decide_eq_false L.2;have gl:0<G.length:=by
   cases G with
   |nil=>cases L.1
   |cons _ _=>simp
  obtain⟨i,hi,ei⟩:=kC (z:=x/4) gl;obtain⟨j,hj,ej⟩:=kC (z:=x/24) gl;obtain⟨z1,U,x1⟩:=CH (st:=S) hi;obtain⟨z2,Q,x2⟩:=CH (st:=S) hj;obtain⟨C,A,b13⟩:=hz _ U;obtain⟨b21,N,b23⟩:=hz _ Q;obtain⟨r1,H,d⟩:=z1;obtain⟨r2,O,f⟩:=z2;dsimp only at C A b13 b21 N b23;have ln:bY dj [.fz (G.map Gv.av)] S=À (.int (G.length:Int),S):=by simp[bY,dj]
  have f4:bB .FloorDiv S (.int x) (.int 4)=À (.int (x/4)):=jk rfl dC;have f24:bB .FloorDiv S (.int x) (.int 24)=À (.int (x/24)):=jk rfl dC;have M:bB .FloorDiv S (.int x) (.int 144)=À (.int (x/144)):=jk rfl dC;have mi:bB .Mod S (.int (x/4)) (.int (G.length:Int))=À (.int (i:Int)):=by rw[fG oM,ei]
  have mj:bB .Mod S (.int (x/24)) (.int (G.length:Int))=À (.int (j:Int)):=by rw[fG oM,ej]
  have m2:bB .Mod S (.int (x/144)) (.int 2)=À (.int (x/144%2)):=fG dC;refine ai (sl':=[Rs 0,Is n,Zs (G.map Gv.av),Is x,À a,Ls r1,À (.str (if H=Â then "=" else ">")),Is d,Á,Á,Á]) (st':=S) (by simp[f4,ln,mi,x1];rfl) ?_;refine ai (sl':=[Rs 0,Is n,Zs (G.map Gv.av),Is x,À a,Ls r1,À (.str (if H=Â then "=" else ">")),Is d,Ls r2,À (.str (if O=Â then "=" else ">")),Is f]) (st':=S) (by simp[f24,ln,mj,x2];rfl) ?_;obtain⟨p,K⟩:∃v,v=AV.str (if H=Â then "=" else ">"):=⟨_,rfl⟩;obtain⟨m,J⟩:∃v,v=AV.str (if O=Â then "=" else ">"):=⟨_,rfl⟩;rw[<- K,<- J];by_cases U:x%4=1
  ·refine gy (by simp[I,U]) ⟨_,fE (v:=(⟨r1,Ã,d-x/144%2⟩:Gv).av) (st':=S) ?_,_,_,rfl,⟨r1,Ã,d-x/144%2⟩,rfl,C,fun y h=>by have:=A y h;lia,by dsimp only;lia⟩
   have lo:=wM (st:=S) (ks:=[aW,aO]) (e:=.v 5) (sl:=[Rs 0,Is n,Zs (G.map Gv.av),Is x,À a,Ls r1,À p,Is d,Ls r2,À m,Is f]) (l:=r1) rfl oM;generalize Ex.nw Ã (.lof (.v 5))=ee at *;simp[lo,M,m2,Gv.av]
  refine cX (by simp[I,U]) ?_;by_cases Q:x%4=2
  ·obtain⟨sg,esg⟩:∃sg:Bool,ev [aW,aO] (.ix (.nw Ã (.li (.cons (.s "=") (.cons (.s ">") .nil)))) (.bi .int (.cons (.cmp .In (.s ">") (.tu (.cons (.v 6) (.cons (.v 9) .nil)))) .nil))) [Rs 0,Is n,Zs (G.map Gv.av),Is x,À a,Ls r1,À p,Is d,Ls r2,À m,Is f] S=À (.str (if sg=Â then "=" else ">"),S):=by
    have s:∃b:Bool,cb .In S (.str ">") (.tup [p,m])=À b:=by
     rw[K,J];refine⟨!(H&&O),?_⟩;cases H<;>cases O<;>kernel_rfl
    obtain⟨b,hb⟩:=s;have k0:aR S (.fz [.str "=",.str ">"]) (.int 0)=À (.str "="):=rfl;have k1:aR S (.fz [.str "=",.str ">"]) (.int 1)=À (.str ">"):=rfl;cases b with
    |true=>exact⟨Ã,by simp[cA,rfs,rf,hb,bY,p4,k1]⟩
    |false=>exact⟨Â,by simp[cA,rfs,rf,hb,bY,p4,k0]⟩
   have lc:=lI (st:=S) (ks:=[aW,aO]) (k:=1) (it:=.r1 (.bi .len (.cons (.v 5) .nil))) (t:=.nm 11) (c:=.no) (e:=.bin .Add (.ix (.v 5) (.v 11)) (.ix (.v 8) (.v 11))) (sl:=[Rs 0,Is n,Zs (G.map Gv.av),Is x,À a,Ls r1,À p,Is d,Ls r2,À m,Is f]) (gd:=[]) (em:=fun q:Nat=>AV.int (q:Int)) (xs:=Ä r1.length) (B:=fun _=>Â) (F:=fun q=>AV.int (gI r1 q+gI r2 q)) (wj (by simp[JT]) oM) rfl (by simp;lia) fun q w=>by
    have w:=Ë.mp w;have i1:=Lm (st:=S) (T:=r1) (i:=q) w;have i2:=Lm (st:=S) (T:=r2) (i:=q) oM;exact⟨[Rs 0,Is n,Zs (G.map Gv.av),Is x,À a,Ls r1,À p,Is d,Ls r2,À m,Is f,Is (q:Int)],rfl,rfl,fun _=>by simp[i1,i2]⟩
   rw[ì.mpr (fun _ _=>rfl),show(Ä r1.length).map (fun q=>AV.int (gI r1 q+gI r2 q))=iL ((Ä r1.length).map fun q=>gI r1 q+gI r2 q) by unfold iL;rw[Ü];rfl]at lc;obtain⟨E,u⟩:∃E,E=(Ä r1.length).map fun q=>gI r1 q+gI r2 q:=⟨_,rfl⟩
   rw[<- u]at lc;have V:ev [aW,aO] (.nw Ã (.lc 1 (.r1 (.bi .len (.cons (.v 5) .nil))) (.nm 11) .no (.bin .Add (.ix (.v 5) (.v 11)) (.ix (.v 8) (.v 11))))) [Rs 0,Is n,Zs (G.map Gv.av),Is x,À a,Ls r1,À p,Is d,Ls r2,À m,Is f] S=À (.fz (iL E),S):=by rw[fR,lc,Æ,yH d6]
   refine gy (by simp[I,Q]) ⟨_,fE (v:=(⟨E,sg,d+f⟩:Gv).av) (st':=S) ?_,_,_,rfl,⟨E,sg,d+f⟩,rfl,by simp[u,C],fun y h=>?_,by dsimp only;lia⟩
   ·simp only[sn,E6,eA,fF,V,esg,Cg,oj,kQ,kP,Æ,Û]
    rfl
   ·have h:y∈E:=h
    rw[u]at h;obtain⟨q,w,rfl⟩:=yC.mp h;have w:=Ë.mp w
    have:=A _ (CN (T:=r1) (q:=q) w)
    have:=N _ (CN (T:=r2) (q:=q) oM)
    lia
  refine cX (by simp[I,Q]) ?_;obtain⟨P,so,no⟩:=o;obtain⟨c1,c2,c3⟩:=ho;dsimp only at c1 c2 c3;have Y:aR S a (.int 0)=À (.fz (iL P)):=by rw[g];rfl
  have X:aR S a (.int 2)=À (.int no):=by rw[g];rfl
  refine eK (v:=(⟨P,Ã,0-(no.natAbs:Int)⟩:Gv).av) (st':=S) ?_ ⟨⟨P,Ã,0-(no.natAbs:Int)⟩,rfl,c1,fun y h=>by have:=c2 y h;lia,by dsimp only;lia⟩;have lo:=wM (st:=S) (ks:=[aW,aO]) (e:=.ix (.v 4) (.i 0)) (sl:=[Rs 0,Is n,Zs (G.map Gv.av),Is x,À a,Ls r1,À p,Is d,Ls r2,À m,Is f]) (l:=P) (by simp[Y]) oM;have ab:bY qk [.int no] S=À (.int (no.natAbs:Int),S):=by
   have:((no.natAbs:Nat):Int)=if no<0 then -no else no:=by split<;>lia
   rw[this];rfl
  generalize Ex.nw Ã (.lof (.ix (.v 4) (.i 0)))=ee at *;simp[lo,X,ab,Gv.av]
 obtain⟨r,e,z,rfl,hz⟩:=s;exact⟨D2,z,e,hz,hd2,by simp;lia⟩
end
noncomputable def Lp(m:Nat):Nat->List (List Nat)
 |0=>[[]]
 |k+1=>(Lp m k).flatMap fun ps=>((Ä m).filter fun q=>ps.all fun p=>T9 p q).map fun q=>ps++[q]
def Hs(F:Fn)(m k:Nat):Bool:=match (F [.int (m:Int),.int (k:Int)] []).bind fun p=>de p.2 p.1 with
 |some t=>c5 t (.fz ((Lp m k).map fun ps=>.fz (nL ps)))
 |none=>Ã
def Nq(m:Nat):Bool:=(Ä (m+1)).all fun k=>Hs bC m k&&((Lp m k).all (fun ps=>ps.all (fun p=>T9 p m)&&ps.length==k)&&!(Lp m k).isEmpty&&ß (Lp m k).length 100)
theorem wK{m:Nat}(h:m<=6):Nq m=Â/\Lp m m=[Ä m]:=by
 have:m=0\/m=1\/m=2\/m=3\/m=4\/m=5\/m=6:=by lia
 rcases this with rfl|rfl|rfl|rfl|rfl|rfl|rfl<;>exact⟨by kernel_rfl,by decide⟩
theorem lF{m k:Nat}(h:m<=6)(f:k<=m):(∀ps∈Lp m k,(∀p∈ps,p<m)/\ps.length=k)/\Lp m k≠[]/\(Lp m k).length<=100:=by
 have a:=yQ.mp (wK h).1 k (Ë.mpr oM);simp only[zC]at a;obtain⟨_,⟨a1,a2⟩,d⟩:=a;refine⟨fun ps c=>?_,(fun e=>by rw[e]at a2;cases a2),zS d⟩
 have:=yQ.mp a1 ps c
 rw[zC]at this;refine⟨fun p b=>T?.mp (yQ.mp this.1 p b),?_⟩;exact yJ this.2
noncomputable def nZ(a i:Nat):Nat:=if T9 i a=Â then i else i+1
theorem Hq{m k:Nat}(h:m<=3)(b:k<=m):∀q∈Lp m k,(q.map fun i=>m-1-i).reverse∈Lp m k:=by
 have:(Ä 4).all (fun m=>(Ä (m+1)).all fun k=>(Lp m k).all fun q=>(Lp m k).contains (q.map fun i=>m-1-i).reverse)=Â:=by decide +kernel
 intro q a
 have:=yQ.mp (yQ.mp (yQ.mp this m (Ë.mpr oM)) k (Ë.mpr oM)) q a
 exact I!.mp this
theorem Hr{m k a:Nat}(h:m<=3)(c:k<=m)(d:a<=m):∀q∈Lp m k,q.map (nZ a)∈Lp (m+1) k:=by
 have:(Ä 4).all (fun m=>(Ä (m+1)).all fun k=>(Ä (m+1)).all fun a=>(Lp m k).all fun q=>(Lp (m+1) k).contains (q.map (nZ a)))=Â:=by decide +kernel
 intro q b
 have:=yQ.mp (yQ.mp (yQ.mp (yQ.mp this m (Ë.mpr oM)) k (Ë.mpr oM)) a (Ë.mpr oM)) q b
 exact I!.mp this
section
variable{st:aa}{m k:Nat}
theorem JR{F:Fn}(h:Hs F m k=Â):pm F [.int (m:Int),.int (k:Int)] st=À (.fz ((Lp m k).map fun ps=>.fz (nL ps)),st):=by
 unfold Hs at h;split at h
 ·rename_i t e
  rw[qf h]at e;exact eZ rfl e
 ·cases h
theorem Mq(h:m<=6)(b:k<=m):pm bC [.int (m:Int),.int (k:Int)] st=À (.fz ((Lp m k).map fun ps=>.fz (nL ps)),st):=by
 have a:=yQ.mp (wK h).1 k (Ë.mpr oM);simp only[zC]at a;exact JR a.1
end
structure Fo(n:AV)(GA:List AV)(zz:AV)(b:List Nat->Bool)(x:List Nat->AV):Prop where
 rn:rf n=Â
 rg:rfs GA=Â
 rz:rf zz=Â
 hf:∀ps:List Nat,(∀p∈ps,p<GA.length)->ps.length<=6->∀st,pm aS [n,.fz (ps.map fun p=>GA.getD p .non),zz] st=À (.tup [.bl (b ps),x ps],st)
 rx:∀ps,rf (x ps)=Â
 sx:∀ps st j,bu (j+1) st (x ps)=À (x ps)
 lg:GA.length<=6
section
variable{st:aa}{n zz:AV}{GA:List AV}{b:List Nat->Bool}{x:List Nat->AV}{k:Nat}{ps:List Nat}
noncomputable def tq(b:List Nat->Bool)(x:List Nat->AV)(ps:List Nat):AV:=.tup [.bl (b ps),x ps]
def te(b:List Nat->Bool)(x:List Nat->AV)(ps:List Nat):AV:=.tup [.fz (nL ps),tq b x ps]
def tr(b:List Nat->Bool):List (List Nat)->List (List Nat)
 |[]=>[]
 |p::l=>if b p=Â then [p] else p::tr b l
theorem vS:∀l:List (List Nat),(∀p∈l,b p=Ã)->tr b l=l
 |[],_=>rfl
 |p::l,h=>by
  unfold tr;rw[yG (by rw[h p z7];decide),vS l fun q hq=>h q (zQ _ hq)]
theorem vT:∀(l:List (List Nat))(p:List Nat)(l2:List (List Nat)),(∀q∈l,b q=Ã)->b p=Â->tr b (l++p::l2)=l++[p]
 |[],p,l2,_,hp=>by show(if b p=Â then [p] else p::tr b l2)=_;rw[yH hp];rfl
 |q::l,p,l2,h,hp=>by
  show(if b q=Â then [q] else q::tr b (l++p::l2))=_;rw[yG (by rw[h q z7];decide),vT l p l2 (fun q hq=>h q (zQ _ hq)) hp];rfl
theorem iV:∀{xs:List AV}{y:AV},rfs xs=Â->y∈xs->rf y=Â
 |[],_,_,h=>nomatch h
 |z::xs,y,h,hm=>by
  simp only[rfs,zC]at h;rcases zT.mp hm with rfl|hm
  ·exact h.1
  ·exact iV h.2 hm
theorem wR(h:k<GA.length):aR st (.fz GA) (.int (k:Int))=À (GA.getD k .non):=by
 rw[cH d5,cC,zD,zF h];rfl
theorem Cp{ks:List Fn}{it c v:Nat}{sl:Sl}(H:∀p∈ps,p<GA.length)(m:ps.length<=6)(h:rfs GA=Â)(b:sl.length=c)(l:d3 ks (.e (.v it)) sl st=À (⟨nL ps,[]⟩,st))(j:∀y,ev ks (.v v) (sl++[y]) st=À (.fz GA,st)):ev ks (.nw Ã (.lc 1 (.e (.v it)) (.nm c) .no (.ix (.v v) (.v c)))) sl st=À (.fz (ps.map fun p=>GA.getD p .non),st):=by
 have e:=lI (st:=st) (ks:=ks) (k:=1) (it:=.e (.v it)) (t:=.nm c) (c:=.no) (e:=.ix (.v v) (.v c)) (sl:=sl) (gd:=[]) (em:=fun q:Nat=>AV.int (q:Int)) (xs:=ps) (B:=fun _=>Â) (F:=fun p=>GA.getD p .non) l rfl oM fun p a=>by
  refine⟨sl++[Is (p:Int)],?_,rfl,fun _=>?_⟩
  ·show À ((sl++[Á]).set c (À (.int (p:Int))),st)=_
   rw[<- b,G! _ _ (zP _),Z!];rfl
  ·have f:=j (Is (p:Int))
   have d:ev ks (.v c) (sl++[Is (p:Int)]) st=À (.int (p:Int),st):=by
    show(aV c _ st)=_;have:(sl++[Is (p:Int)])[c]?=À (Is (p:Int)):=by rw[<- b];simp
    unfold aV;rw[this]
   simp only[vO,f,d,Æ,wR (H p a),Û]
 rw[ì.mpr (fun _ _=>rfl)]at e;have g:rfs (ps.map fun p=>GA.getD p .non)=Â:=dy fun y i=>by
  obtain⟨p,a,rfl⟩:=yC.mp i;rw[zD,zF (H p a)];exact iV h (Ý (H p a))
 rw[fR,e,Æ,yH g]
theorem CQ:∀l:List Int,U6 (l.map á) (l.map á)=Â
 |[]=>rfl
 |x::l=>by simp[U6,Õ,CQ l]
end
section
variable{st:aa}{n zz:AV}{GA:List AV}{b:List Nat->Bool}{x:List Nat->AV}{k:Nat}{ps:List Nat}
theorem IS(F:Fo n GA zz b x):∀l:List (List Nat),aQ (bu 5 st) (l.map (te b x))=À (l.map (te b x)):=fun l=>du (f:=bu 5 st) (i:=te b x) (g:=te b x) (fun p=>by
 have a:bu 4 st (tq b x p)=À (tq b x p):=by
  show(aQ (bu 3 st) [.bl (b p),x p]).map AV.tup=_;simp only[aQ,F.sx,show bu 3 st (.bl (b p))=À (.bl (b p)) from rfl,Æ,Û];rfl
 show(aQ (bu 4 st) [.fz (nL p),tq b x p]).map AV.tup=_;simp only[aQ,a,show bu 4 st (.fz (nL p))=À (.fz (nL p)) from rfl,Æ,Û];rfl) l
theorem zu(F:Fo n GA zz b x)(H:∀p∈ps,p<GA.length)(d:ps.length<=6):pm bo [n,.fz GA,.fz (nL ps),zz] st=À (tq b x ps,st):=by
 have f:=Cp (st:=[]) (ks:=[aS]) (it:=2) (c:=4) (v:=1) (sl:=[À n,Zs GA,Zs (nL ps),À zz]) H d F.rg rfl rfl fun _=>rfl
 have e:=F.hf ps H d [];have h:rfs (ps.map fun p=>GA.getD p .non)=Â:=dy fun y g=>by
  obtain⟨p,a,rfl⟩:=yC.mp g;rw[zD,zF (H p a)];exact iV F.rg (Ý (H p a))
 have sl:de [] (tq b x ps)=À (tq b x ps):=by
  show(aQ (bu 5 []) [.bl (b ps),x ps]).map AV.tup=_;simp only[aQ,F.sx,show bu 5 [] (.bl (b ps))=À (.bl (b ps)) from rfl,Æ,Û];rfl
 refine aZ (by simp[rfs,rf,F.rn,F.rg,F.rz]) (v:=tq b x ps) (st':=[]) ?_ sl;rw[bo,aB];show(af [aS] fe [À n,Zs GA,Zs (nL ps),À zz] []).bind aw=_;unfold fe;refine cq ?_;simp only[sn,nJ,eA,fF,oj,kQ,kP,Æ,f,rk,nW,e,Û];rfl
theorem uB(F:Fo n GA zz b x)(O:k<=GA.length):pm bh [n,.fz GA,.int (k:Int),zz] st=À (.fz ((tr b (Lp GA.length k)).map (te b x)),st):=by
 obtain⟨V,h0,P⟩:=lF F.lg O;have Z:=F.lg;have A:=fun st=>Mq (st:=st) F.lg O
 generalize Lp GA.length k=L at *;have B:∃r,bh [n,.fz GA,.int (k:Int),zz] []=À r/\de r.2 r.1=À (.fz ((tr b L).map (te b x))):=by
  rw[bh,aB];show ∃r,(af [bC,bo] fM [À n,Zs GA,Is (k:Int),À zz,Á,Á,Á] []).bind aw=À r/\_;unfold fM;refine ai (sl':=[À n,Zs GA,Is (k:Int),À zz,Rs 0,Á,Á]) (st':=[.lst (([]:List (List Nat)).map (te b x))]) rfl ?_;have d:∀l:List (List Nat),de [.lst (l.map (te b x))] (.ref 0)=À (.fz (l.map (te b x))):=fun l=>by
   show bu 6 _ (.ref 0)=_;unfold bu;simp only[s?,IS F,Û]
  have T:∀st:aa,bY dj [.fz GA] st=À (.int (GA.length:Int),st):=fun st=>rfl
  have Q:d3 [bC,bo] (.e (.ca Â 0 (.cons (.bi .len (.cons (.v 1) .nil)) (.cons (.v 2) .nil)))) [À n,Zs GA,Is (k:Int),À zz,Rs 0,Á,Á] [.lst (([]:List (List Nat)).map (te b x))]=À (⟨L.map fun z=>.fz (nL z),[]⟩,[.lst (([]:List (List Nat)).map (te b x))]):=by
   have A:=A [.lst (([]:List (List Nat)).map (te b x))];generalize [O3.lst (([]:List (List Nat)).map (te b x))]=S at *;simp[T,A]
  rcases kh (gd:=[]) (g:=cB [bC,bo] (.nm 5)) (s:=af [bC,bo] (.cons (.as (.ca Â 1 (.cons (.v 0) (.cons (.v 1) (.cons (.v 5) (.cons (.v 3) .nil))))) (.nm 6))
 (.cons (.ex (.mt .app (.v 4) (.cons (.tu (.cons (.v 5) (.cons (.v 6) .nil))) .nil)))
 (.cons (.iff (.va (.ix (.v 6) (.i 0)))
 (.cons (.rt (.v 4))
 .nil)
 .nil)
 .nil))))
   (I:=fun i sl s=>i<=100/\(∀p∈L.take i,b p=Ã)/\s=[.lst ((L.take i).map (te b x))]/\∃w u,sl=[À n,Zs GA,Is (k:Int),À zz,Rs 0,w,u]) (Post:=fun v s=>v=.ref 0/\s=[.lst ((tr b L).map (te b x))]) (xs:=L.map fun z=>.fz (nL z)) (fun _ _ _ _ _=>rfl) (fun i y sl s N D=>by
    obtain⟨hi,o,U,w,u,C⟩:=D;subst U;subst C;rw[zR]at N;obtain⟨p,G,rfl⟩:=zE.mp N;obtain⟨H,E⟩:=zB.mp G;obtain⟨R,Y⟩:=V p (zW G);have J:=zu (st:=[.lst ((L.take i).map (te b x))]) F R oM;have c:∀st,aR st (tq b x p) (.int 0)=À (.bl (b p)):=fun _=>rfl
    obtain⟨h,m⟩:∃h,h=tq b x p:=⟨_,rfl⟩;have M:=pD (ks:=[bC,bo]) (a:=.v 4) (e:=.tu (.cons (.v 5) (.cons (.v 6) .nil))) (y:=te b x p) (k:=0) (xs:=(L.take i).map (te b x)) (sl:=[À n,Zs GA,Is (k:Int),À zz,Rs 0,Zs (nL p),À h]) (st:=[.lst ((L.take i).map (te b x))]) rfl (by rw[m];rfl) rfl (by simp;lia);have K:L.take (i+1)=L.take i++[p]:=by rw[ϝ,G];rfl
    have f:(L.take i).map (te b x)++[te b x p]=(L.take (i+1)).map (te b x):=by rw[K];simp
    rw[f]at M;rw[<- m]at c J;cases t:b p with
    |false =>
     refine⟨_,_,rfl,ay (sl':=[À n,Zs GA,Is (k:Int),À zz,Rs 0,Zs (nL p),À h]) (st':=[.lst ((L.take i).map (te b x))]) (by simp[J,-List.map_take]) (ay M (ay (sl':=[À n,Zs GA,Is (k:Int),À zz,Rs 0,Zs (nL p),À h]) (st':=[.lst ((L.take (i+1)).map (te b x))]) ?_ rfl)),.inl ⟨_,_,rfl,by lia,fun q j=>?_,rfl,_,_,rfl⟩⟩
     ·have c:=c [.lst ((L.take (i+1)).map (te b x))]
      rw[t]at c;generalize (L.take (i+1)).map (te b x)=LL at *;simp[c,d8]
     ·rw[K]at j
      rcases zZ.mp j with j|j
      ·exact o q j
      ·rw[zM.mp j];exact t
    |true =>
     have W:tr b L=L.take (i+1):=by
      have:=vT (b:=b) (L.take i) p (L.drop (i+1)) o t
      rw[K,<- this];congr 1
      conv=>lhs;rw[<- F? i L,ê H,E]
     refine⟨_,.rt (.ref 0) [.lst ((tr b L).map (te b x))],rfl,ay (sl':=[À n,Zs GA,Is (k:Int),À zz,Rs 0,Zs (nL p),À h]) (st':=[.lst ((L.take i).map (te b x))]) (by simp[J,-List.map_take]) (ay M ?_),.inr ⟨_,_,rfl,rfl,rfl⟩⟩;rw[W];refine fE ?_;have c:=c [.lst ((L.take (i+1)).map (te b x))];rw[t]at c;generalize (L.take (i+1)).map (te b x)=LL at *;simp[c,d8,kZ]) (sl:=[À n,Zs GA,Is (k:Int),À zz,Rs 0,Á,Á]) (st:=[.lst (([]:List (List Nat)).map (te b x))]) ⟨Ě _,by simp,rfl,_,_,rfl⟩ with⟨sl',st',f,_,o,rfl,w,u,rfl⟩|⟨v,st',f,rfl,rfl⟩
  ·rw[zH,Ĭ]at *
   rw[vS L o];exact⟨_,ae (by rw[jP,Q,Æ];exact f) rfl,d _⟩
  ·exact⟨_,cq (by rw[jP,Q,Æ];exact f),d _⟩
 obtain⟨r,f,X⟩:=B;exact aZ (by simp[rfs,rf,F.rn,F.rg,F.rz]) f X
def IL(b:List Nat->Bool)(m:Nat)(p:List Nat):Prop:=∃k,k<=m/\(∀j,j<k->∀q∈Lp m j,b q=Ã)/\∃l1 l2,Lp m k=l1++p::l2/\(∀q∈l1,b q=Ã)/\b p=Â
theorem HZ{m:Nat}(x:m<=6)(w:b (Ä m)=Â):∃p,IL b m p:=by
 have ls:∀L:List (List Nat),(∃q∈L,b q=Â)->∃d p f,L=d++p::f/\(∀q∈d,b q=Ã)/\b p=Â:=fun L=>by
  induction L with
  |nil=>rintro⟨q,h,_⟩;cases h
  |cons a L n =>
   rintro⟨q,c,h⟩;cases s:b a with
   |true=>exact⟨[],a,L,rfl,by simp,s⟩
   |false =>
    obtain⟨d,p,f,e,i,g⟩:=n ⟨q,by
     rcases zT.mp c with rfl|c
     ·rw[s]at h;cases h
     ·exact c,h⟩
    exact⟨a::d,p,f,by rw[e];rfl,fun q c=>by
     rcases zT.mp c with rfl|c
     ·exact s
     ·exact i q c,g⟩
 have y:∀r k,k+r=m->(∀j,j<k->∀q∈Lp m j,b q=Ã)->∃p,IL b m p:=fun r=>by
  induction r with
  |zero =>
   intro k u l;have:k=m:=by lia
   subst this;obtain⟨d,p,f,e,i,g⟩:=ls (Lp k k) ⟨_,by rw[(wK x).2];exact zM.mpr rfl,w⟩;exact⟨p,k,by lia,l,d,f,e,i,g⟩
  |succ r n =>
   intro k u l;by_cases t:∃q∈Lp m k,b q=Â
   ·obtain⟨d,p,f,e,i,g⟩:=ls _ t
    exact⟨p,k,by lia,l,d,f,e,i,g⟩
   ·refine n (k+1) oM fun j v q c=>?_
    by_cases e:j=k
    ·subst e
     cases o:b q with
     |false=>rfl
     |true=>exact absurd ⟨q,c,o⟩ t
    ·exact l j oM q c
 exact y m 0 oM fun j h=>absurd h (d? _)
end
section
variable{st:aa}{n zz:AV}{GA:List AV}{b:List Nat->Bool}{x:List Nat->AV}{k:Nat}{ps:List Nat}
theorem HY(GA:List AV):((Ä GA.length).map fun p=>GA.getD p .non)=GA:=by
 refine List.ext_getElem? fun i=>?_
 rw[zR];by_cases h:i<GA.length
 ·rw[Ķ h,Û,zD,zF h];rfl
 ·rw[ä (by simp;lia),ä oM];rfl
theorem vC(F:Fo n GA zz b x):pm aS [n,.fz GA,zz] st=À (tq b x (Ä GA.length),st):=by
 have:=F.hf (Ä GA.length) (fun p a=>Ë.mp a) (by rw[Ĥ];exact F.lg) st
 rw[HY]at this;exact this
theorem sY(l:List (List Nat))(p:List Nat):aR st (.fz ((l++[p]).map (te b x))) (.int (-1))=À (te b x p):=by
 rw[cH d5,mJ (n:=l.length) (by simp)];simp
theorem BS(F:Fo n GA zz b x)(h:b (Ä GA.length)=Ã):pm eV [n,.fz GA,zz] st=À (.non,st):=by
 refine aZ (by simp[rfs,rf,F.rn,F.rg,F.rz]) (v:=.non) (st':=[]) ?_ rfl;rw[eV,aB];show(af [aS,bh] gX [À n,Zs GA,À zz,Á,Á,Á] []).bind aw=_;unfold gX;have e:=vC (st:=[]) F;have a:aR [] (tq b x (Ä GA.length)) (.int 0)=À (.bl Ã):=by rw[<- h];rfl
 generalize tq b x (Ä GA.length)=tt at *;refine cq (s:=.iff _ _ _) ?_;simp[e,a,d8,kZ]
theorem BR(F:Fo n GA zz b x)(h:b (Ä GA.length)=Â){p:List Nat}(V:IL b GA.length p):∃y1 y2,(rf y1=Â/\rf y2=Â)/\∀st,pm eV [n,.fz GA,zz] st=À (.tup [.fz (nL p),y1,y2],st):=by
 obtain⟨r,W,s,m,O,Z,C,u⟩:=V;have e0:=vC (st:=[]) F;have R:aR [] (tq b x (Ä GA.length)) (.int 0)=À (.bl Â):=by rw[<- h];rfl
 have M:∀d k,k+d=r->∀T:List AV,rfs T=Â->∃N g,rfs g=Â/\dq (tv [aS,bh] (.no (.va (.ix (.ix (.ix (.v 5) (.un .USub (.i 1))) (.i 1)) (.i 0))))) (af [aS,bh] (.cons (.au 3 .Add (.i 1))
 (.cons (.as (.nw Ã (.lc 2 (.e (.v 5)) (.tu 2 (.cons (.nm 6) (.cons (.nm 7) .nil))) .no (.tu (.cons (.v 6) (.cons (.ix (.v 7) (.i 1)) .nil))))) (.nm 4))
 (.cons (.as (.ca Â 1 (.cons (.v 0) (.cons (.v 1) (.cons (.v 3) (.cons (.v 2) .nil))))) (.nm 5))
 .nil)))) N [À n,Zs GA,À zz,Is (k:Int),Zs T,Zs ((tr b (Lp GA.length k)).map (te b x))] []=À (.nx [À n,Zs GA,À zz,Is (r:Int),Zs g,Zs ((m++[p]).map (te b x))] []):=fun d=>by
  have un:j3 .USub ([]:aa) (.int 1)=À (.int (-1)):=rfl;have i:∀q,aR [] (te b x q) (.int 1)=À (tq b x q):=fun _=>rfl
  have f:∀q,aR [] (tq b x q) (.int 0)=À (.bl (b q)):=fun _=>rfl
  induction d with
  |zero =>
   intro k X T K;have:k=r:=by lia
   subst this;have e:=vT (b:=b) m p O C u;rw[<- Z]at e;rw[e];have o:=sY (st:=[]) (b:=b) (x:=x) m p;have i:=i p;have f:=f p;rw[u]at f;generalize (m++[p]).map (te b x)=LL at *;generalize te b x p=t1 at *;generalize tq b x p=t2 at *;exact⟨1,T,K,jY (by simp[un,o,i,f,d8])⟩
  |succ d Q =>
   intro k X T K;have D:k<=GA.length:=by lia
   have lg:=F.lg;obtain⟨_,A,L⟩:=lF F.lg D;have Y:=vS (b:=b) (Lp GA.length k) fun q U=>s k oM q U
   rw[Y];have H:=s k oM;obtain⟨l,q,J⟩:∃l q,Lp GA.length k=l++[q]:=⟨_,_,(ϴ A).symm⟩;have E:=H q (by rw[J];simp);have o:=sY (st:=[]) (b:=b) (x:=x) l q;rw[<- J]at o;have rT:rfs ((Lp GA.length k).map fun a=>AV.tup [.fz (nL a),x a])=Â:=dy fun y S=>by
    obtain⟨p,_,rfl⟩:=yC.mp S;simp[rf,rfs,F.rx]
   obtain⟨N,g,w,G⟩:=Q (k+1) oM ((Lp GA.length k).map fun a=>.tup [.fz (nL a),x a]) rT;have j:=uB (st:=[]) F (k:=k+1) oM;have I:=lI (st:=[]) (ks:=[aS,bh]) (k:=2) (it:=.e (.v 5)) (t:=.tu 2 (.cons (.nm 6) (.cons (.nm 7) .nil))) (c:=.no) (e:=.tu (.cons (.v 6) (.cons (.ix (.v 7) (.i 1)) .nil))) (sl:=[À n,Zs GA,À zz,Is ((k+1:Nat):Int),Zs T,Zs ((Lp GA.length k).map (te b x))]) (gd:=[]) (em:=te b x) (xs:=Lp GA.length k) (B:=fun _=>Â) (F:=fun a=>.tup [.fz (nL a),x a]) rfl rfl oM fun a _=>⟨[À n,Zs GA,À zz,Is ((k+1:Nat):Int),Zs T,Zs ((Lp GA.length k).map (te b x)),Zs (nL a),À (tq b x a)],rfl,rfl,fun _=>rfl⟩
   rw[ì.mpr (fun _ _=>rfl)]at I;have e4:ev [aS,bh] (.nw Ã (.lc 2 (.e (.v 5)) (.tu 2 (.cons (.nm 6) (.cons (.nm 7) .nil))) .no (.tu (.cons (.v 6) (.cons (.ix (.v 7) (.i 1)) .nil))))) [À n,Zs GA,À zz,Is ((k+1:Nat):Int),Zs T,Zs ((Lp GA.length k).map (te b x))] []=À (.fz ((Lp GA.length k).map fun a=>.tup [.fz (nL a),x a]),[]):=by rw[fR,I,Æ,yH rT]
   refine⟨N+1,g,w,md (st':=[]) ?_ ?_ G⟩
   ·have i:=i q
    have f:=f q;rw[E]at f;generalize (Lp GA.length k).map (te b x)=LL at *;generalize te b x q=t1 at *;generalize tq b x q=t2 at *;simp[un,o,i,f,d8]
   ·refine ay (sl':=[À n,Zs GA,À zz,Is ((k+1:Nat):Int),Zs T,Zs ((Lp GA.length k).map (te b x))]) (st':=[]) rfl ?_
    refine ay (sl':=[À n,Zs GA,À zz,Is ((k+1:Nat):Int),Zs ((Lp GA.length k).map fun a=>.tup [.fz (nL a),x a]),Zs ((Lp GA.length k).map (te b x))]) (st':=[]) (by rw[iC,e4];rfl) ?_;generalize (Lp GA.length k).map (te b x)=L1 at *;generalize (Lp GA.length k).map (fun a=>AV.tup [.fz (nL a),x a])=L2 at *;exact ay (sl':=[À n,Zs GA,À zz,Is ((k+1:Nat):Int),Zs L2,Zs ((tr b (Lp GA.length (k+1))).map (te b x))]) (st':=[]) (by
     generalize (tr b (Lp GA.length (k+1))).map (te b x)=L3 at *;have j:pm bh [n,.fz GA,.int ((k+1:Nat):Int),zz] []=À (.fz L3,[]):=j;generalize ((k+1:Nat):Int)=kk at *;simp[j]) rfl
 obtain⟨N,g,w,G⟩:=M r 0 oM [] rfl;refine⟨x p,.fz g,⟨F.rx p,rfl⟩,fun st=>aZ (by simp[rfs,rf,F.rn,F.rg,F.rz]) (v:=.tup [.fz (nL p),x p,.fz g]) (st':=[]) ?_ ?_⟩
 ·rw[eV,aB]
  show(af [aS,bh] gX [À n,Zs GA,À zz,Á,Á,Á] []).bind aw=_;unfold gX;have z:=uB (st:=[]) F (k:=0) (Ě _);refine ae (sl':=[À n,Zs GA,À zz,Á,Á,Á]) (st':=[]) (by
   generalize tq b x (Ä GA.length)=tt at *;simp[e0,R,d8]) ?_
  refine ae (sl':=[À n,Zs GA,À zz,Is 0,Á,Á]) (st':=[]) rfl ?_;refine ae (sl':=[À n,Zs GA,À zz,Is 0,Zs [],Á]) (st':=[]) rfl ?_;refine ae (sl':=[À n,Zs GA,À zz,Is 0,Zs [],Zs ((tr b (Lp GA.length 0)).map (te b x))]) (st':=[]) (by
   generalize (tr b (Lp GA.length 0)).map (te b x)=LL at *;have z:pm bh [n,.fz GA,.int 0,zz] []=À (.fz LL,[]):=z;simp[z]) ?_
  refine ae (sl':=[À n,Zs GA,À zz,Is (r:Int),Zs g,Zs ((m++[p]).map (te b x))]) (st':=[]) (by rw[FP];exact lx G) (cq ?_);have o:=sY (st:=[]) (b:=b) (x:=x) m p;have un:j3 .USub ([]:aa) (.int 1)=À (.int (-1)):=rfl;have f:aR [] (te b x p) (.int 0)=À (.fz (nL p)):=rfl;have i:aR [] (te b x p) (.int 1)=À (tq b x p):=rfl;have P:aR [] (tq b x p) (.int 1)=À (x p):=rfl;generalize (m++[p]).map (te b x)=LL at *;generalize te b x p=t1 at *;generalize tq b x p=t2 at *;simp[un,o,f,i,P]
 ·show(aQ (bu 5 []) [.fz (nL p),x p,.fz g]).map AV.tup=_
  simp only[aQ,F.sx,show ∀l,bu 5 [] (.fz l)=À (.fz l) from fun _=>rfl,Æ,Û]
end
structure Fq(n:Int)(GA:List AV)(B:List Nat->Nat->Bool):Prop where
 rg:rfs GA=Â
 lg:GA.length<=6
 fo:∀q,q<GA.length->∃x,Fo (.int n) GA (GA.getD q .non) (fun ps=>B ps q) x
section
variable{st:aa}{n:AV}{GA:List AV}{b:List Nat->Bool}{x:List Nat->AV}{B:List Nat->Nat->Bool}{ps:List Nat}{p q k:Nat}
theorem KB{ks:List Fn}{it c v:Nat}{sl:Sl}(j:ps.length<=6)(d:sl.length=c)(g:d3 ks (.e (.v it)) sl st=À (⟨nL ps,[]⟩,st))(a:∀y,ev ks (.v v) (sl++[y]) st=À (.int (q:Int),st)):ev ks (.nw Ã (.lc 1 (.e (.v it)) (.nm c) (.so (.cmp .NotEq (.v c) (.v v))) (.v c))) sl st=À (.fz (nL (ps.filter fun p=>p !=q)),st):=by
 have e:=lI (st:=st) (ks:=ks) (k:=1) (it:=.e (.v it)) (t:=.nm c) (c:=.so (.cmp .NotEq (.v c) (.v v))) (e:=.v c) (sl:=sl) (gd:=[]) (em:=fun q:Nat=>AV.int (q:Int)) (xs:=ps) (B:=fun p=>p !=q) (F:=fun p=>AV.int (p:Int)) g rfl oM fun p i=>by
  have f:=a (Is (p:Int));have b:ev ks (.v c) (sl++[Is (p:Int)]) st=À (.int (p:Int),st):=by
   show(aV c _ st)=_;have:(sl++[Is (p:Int)])[c]?=À (Is (p:Int)):=by rw[<- d];simp
   unfold aV;rw[this]
  refine⟨sl++[Is (p:Int)],?_,?_,fun _=>b⟩
  ·show À ((sl++[Á]).set c (À (.int (p:Int))),st)=_
   rw[<- d,G! _ _ (zP _),Z!];rfl
  ·have ne:cb .NotEq st (.int (p:Int)) (.int (q:Int))=À (p !=q):=by
    show À (!((p:Int)==(q:Int)))=À (!(p==q));have:((p:Int)==(q:Int))=(p==q):=by
     by_cases h:p=q
     ·rw[h,beq_self_eq_true,beq_self_eq_true]
     ·have a:¬(p:Int)=(q:Int):=by lia
      rw[beq_eq_false_iff_ne.mpr h,beq_eq_false_iff_ne.mpr a]
    rw[this]
   show(tv ks (.cmp .NotEq (.v c) (.v v)) _ st)=_;generalize Ex.v c=e1 at *;generalize Ex.v v=e2 at *;simp[b,f,ne]
 rw[fR,e,Æ];dsimp only;rw[show(ps.filter fun p=>p !=q).map (fun p:Nat=>AV.int (p:Int))=nL (ps.filter fun p=>p !=q) from rfl,yH wC]
theorem Cw(F:Fo n GA (GA.getD q .non) b x)(H:∀p∈ps,p<GA.length)(f:q<GA.length)(a:ps.length<=6):pm aF [n,.fz GA,.fz (nL ps),.int (q:Int)] st=À (.bl (b (ps.filter fun p=>p !=q)),st):=by
 refine aZ (by simp[rfs,rf,F.rn,F.rg]) (v:=.bl (b (ps.filter fun p=>p !=q))) (st':=[]) ?_ rfl;rw[aF,aB];show(af [bo] c8 [À n,Zs GA,Zs (nL ps),Is (q:Int),Á] []).bind aw=_;unfold c8;have i:=KB (st:=[]) (ks:=[bo]) (it:=2) (c:=5) (v:=3) (sl:=[À n,Zs GA,Zs (nL ps),Is (q:Int),Á]) (q:=q) a rfl rfl fun _=>rfl
 have fl:(ps.filter fun p=>p !=q).length<=6:=z5 (Ŋ _ _) a;have h:=zu (st:=[]) F (fun p g=>H p (Ñ.mp g).1) fl;have d:=wR (st:=[]) f;have e:aR [] (tq b x (ps.filter fun p=>p !=q)) (.int 0)=À (.bl (b (ps.filter fun p=>p !=q))):=rfl;generalize ps.filter (fun p=>p !=q)=qs at *;generalize GA.getD q .non=zz at *;refine ae (sl':=[À n,Zs GA,Zs (nL ps),Is (q:Int),Zs (nL qs)]) (st':=[]) (by rw[iC,i];rfl) (cq ?_);generalize tq b x qs=tt at *;simp[d,h,e]
theorem Ee{fn:Fn}{args ts:List AV}{v t:AV}{st':aa}(h:rfs args=Ã)(m:aQ (de st) args=À ts)(e:fn ts []=À (v,st'))(r:de st' v=À t)(f:flat t=Â):pm fn args st=À (t,st):=by
 unfold pm;rw[yG (by rw[h];decide),m,Æ,e,Æ];dsimp only;rw[r,Æ,yH f]
theorem Cs{k:Nat}{l:List Nat}(h:st[k]?=À (.lst (nL l))):de st (.ref k)=À (.fz (nL l)):=by
 have e:nL l=iL (l.map fun q:Nat=>(q:Int)):=by unfold nL iL;rw[Ü];rfl
 rw[e]at h ⊢;exact mo h
theorem JA{fn:Fn}{args:List AV}{t:AV}(h:∀st,pm fn args st=À (t,st))(d:rfs args=Â):∃v st',fn args []=À (v,st')/\de st' v=À t:=by
 have a:=h [];unfold pm at a;rw[yH d]at a;obtain⟨⟨v,c⟩,g,f⟩:=zA a;obtain⟨i,e,b⟩:=zE.mp f;simp only[Prod.mk.injEq,and_true]at b;subst b;exact⟨v,c,g,e⟩
theorem Je{l:List Nat}(h:st[k]?=À (.lst (nL l)))(c:p∈l)(hd:l.Nodup)(f:l.length<=1000):sQ (.ref k) [.int (p:Int)] st=À (.non,st.set k (.lst (nL (l.filter fun q=>q !=p)))):=by
 have m:nL l=iL (l.map fun q:Nat=>(q:Int)):=by unfold nL iL;rw[Ü];rfl
 have d:hU (nL l)=À (l.map fun q:Nat=>(q:Int)):=by rw[m];exact BJ _
 have ix:∀l:List Nat,(l.map fun q:Nat=>(q:Int)).idxOf (p:Int)=l.idxOf p:=fun l=>by
  induction l with
  |nil=>rfl
  |cons a l b =>
   rw[zO,ŵ,ŵ,b];by_cases h:a=p
   ·rw[h,beq_self_eq_true,beq_self_eq_true]
   ·have g:¬(a:Int)=(p:Int):=by lia
    rw[beq_eq_false_iff_ne.mpr h,beq_eq_false_iff_ne.mpr g]
 have i:∀l:List Nat,p∈l->l.eraseIdx (l.idxOf p)=l.erase p:=fun l=>by
  induction l with
  |nil=>intro h;cases h
  |cons a l b =>
   intro h;rw[ŵ,List.erase_cons];cases e:a==p with
   |true=>rfl
   |false =>
    have h:p∈l:=by
     rcases zT.mp h with h|h
     ·rw[h]at e;simp at e
     ·exact h
    show a::l.eraseIdx (l.idxOf p)=a::l.erase p;rw[b h]
 unfold sQ;simp only[gC,h,Æ,d];rw[yH (by rw[zC];exact⟨yV (yC.mpr ⟨p,c,rfl⟩),bW (by simpa using f)⟩),ix];have n:∀j,(nL l).eraseIdx j=nL (l.eraseIdx j):=fun j=>by unfold nL;simp only[List.eraseIdx_eq_take_drop_succ,Ą,n?,X']
 rw[n,i l c,hd.erase_eq_filter]
def c7(B:List Nat->Nat->Bool)(l:List Nat)(p:Nat):List Nat:=if B (l.filter fun q=>q !=p) p=Â then l.filter fun q=>q !=p else l
noncomputable def gf(m:Nat):List Nat:=(Ä m).map fun i=>m-1-i
def ar(B:List Nat->Nat->Bool)(m:Nat):List Nat:=(gf m).foldl (c7 B) (Ä m)
theorem FK{l:List Nat}{m:Nat}(h:l.Nodup/\(∀q∈l,q<m)/\l.length<=m):(c7 B l p).Nodup/\(∀q∈c7 B l p,q<m)/\(c7 B l p).length<=m:=by
 unfold c7;split
 ·exact⟨h.1.filter _,fun q a=>h.2.1 q (Ñ.mp a).1,z5 (Ŋ _ _) h.2.2⟩
 ·exact h
theorem Dv{l:List Nat}(h:q∈l)(a:q≠p):q∈c7 B l p:=by
 unfold c7;split
 ·exact Ñ.mpr ⟨h,by simpa using a⟩
 ·exact h
theorem p8{m:Nat}:∀(ps l:List Nat),l.Nodup/\(∀q∈l,q<m)/\l.length<=m->(ps.foldl (c7 B) l).Nodup/\(∀q∈ps.foldl (c7 B) l,q<m)/\(ps.foldl (c7 B) l).length<=m
 |[],_,h=>h
 |p::ps,l,h=>by rw[â];exact p8 ps _ (FK h)
theorem tI:∀(ps l:List Nat)(q:Nat),q∈l->q∉ps->q∈ps.foldl (c7 B) l
 |[],_,_,h,_=>h
 |p::ps,l,q,h,hn=>by
  rw[â];exact tI ps _ q (Dv h fun e=>hn (by rw[e];exact z7)) fun z=>hn (zQ _ z)
theorem xN{m:Nat}:(Ä m).Nodup/\(∀q∈Ä m,q<m)/\(Ä m).length<=m:=⟨List.nodup_range,fun q h=>Ë.mp h,by simp⟩
theorem GK{m i:Nat}(h:i<m):(gf m)[i]?=À (m-1-i)/\(m-1-i)∉(gf m).take i:=by
 refine⟨by simp[gf,h],fun a=>?_⟩;unfold gf at a;rw[<- n?,List.take_range]at a;obtain⟨j,b,e⟩:=yC.mp a
 have:=Ë.mp b
 lia
theorem Ml{m:Nat}(h:m<=6):∀st,(∀sl:Sl,ev [aF] (.bin .Sub (.bi .len (.cons (.v 1) .nil)) (.i 1)) sl st=À (.int ((m:Int)-1),st)->d3 [aF] (.r3 (.bin .Sub (.bi .len (.cons (.v 1) .nil)) (.i 1)) (.un .USub (.i 1)) (.un .USub (.i 1))) sl st=À (⟨(gf m).map fun q:Nat=>AV.int (q:Int),[]⟩,st)):=fun st sl a=>by
 have un:ev [aF] (.un .USub (.i 1)) sl st=À (.int (-1),st):=rfl;show zj _ _ _ sl st=_;unfold zj;rw[a,Æ];dsimp only;rw[un,Æ];dsimp only;rw[un,Æ];dsimp only;have:m=0\/m=1\/m=2\/m=3\/m=4\/m=5\/m=6:=by lia
 rcases this with rfl|rfl|rfl|rfl|rfl|rfl|rfl<;>kernel_rfl
theorem lq{n:Int}(F:Fq n GA B):pm cU [.int n,.fz GA] st=À (.fz (nL (ar B GA.length)),st):=by
 have b:∀st,∃r,cU [.int n,.fz GA] st=À r/\r=(.ref st.length,st++[.lst (nL (ar B GA.length))]):=fun st=>by
  rw[cU,aB];show ∃r,(af [aF] jI [Is n,Zs GA,Á,Á] st).bind aw=À r/\_;unfold jI;have g:∀st:aa,bY dj [.fz GA] st=À (.int (GA.length:Int),st):=fun st=>rfl
  have J:=F.lg;have I:=F.rg;refine ai (sl':=[Is n,Zs GA,Rs st.length,Á]) (st':=st++[.lst (nL (Ä GA.length))]) (by
   have:fx (GA.length:Int)=Â/\mN (GA.length:Int)=Â:=by
    have:GA.length=0\/GA.length=1\/GA.length=2\/GA.length=3\/GA.length=4\/GA.length=5\/GA.length=6:=by lia
    rcases this with h|h|h|h|h|h|h<;>rw[h]<;>decide
   simp[g,pW,this,ms]) ?_
  refine ou (em:=fun q:Nat=>AV.int (q:Int)) (xs:=gf GA.length) (gd:=[]) (st0:=st++[.lst (nL (Ä GA.length))]) (fun i a s=>∃y,s=st++[.lst (nL (((gf GA.length).take i).foldl (c7 B) (Ä GA.length)))]/\a=[Is n,Zs GA,Rs st.length,y]) (Ml F.lg _ _ (by simp[g])) (fun _ _ _ _=>rfl) ⟨_,rfl,rfl⟩ ?_ ?_
  ·rintro i p a s c ⟨y,rfl,rfl⟩
   have d:i<GA.length:=by have:=(zB.mp c).1;simpa [gf] using this
   obtain⟨m,E⟩:=GK d;rw[m]at c;obtain rfl:=yD c;have l:=p8 (B:=B) ((gf GA.length).take i) (Ä GA.length) xN;have C:=tI (B:=B) ((gf GA.length).take i) (Ä GA.length) (GA.length-1-i) (Ë.mpr oM) E;have D:((gf GA.length).take (i+1)).foldl (c7 B) (Ä GA.length)=c7 B (((gf GA.length).take i).foldl (c7 B) (Ä GA.length)) (GA.length-1-i):=by
    rw[ϝ,m,J?,ϟ];rfl
   rw[D];generalize ((gf GA.length).take i).foldl (c7 B) (Ä GA.length)=L at *;have j:GA.length-1-i<GA.length:=by lia
   generalize GA.length-1-i=p at *;have g1:(st++[O3.lst (nL L)])[st.length]?=À (.lst (nL L)):=by simp
   obtain ⟨x,G⟩:=F.fo p j;obtain ⟨v,H,t,o⟩:=JA (fun st=>Cw (st:=st) G l.2.1 j oM) (show rfs [.int n,.fz GA,.fz (nL L),.int (p:Int)]=Â by simp [rfs,rf,F.rg]);have z:=Ee (st:=st++[.lst (nL L)]) (args:=[.int n,.fz GA,.ref st.length,.int (p:Int)]) (ts:=[.int n,.fz GA,.fz (nL L),.int (p:Int)]) (by simp [rfs,rf]) (by simp only [aQ,show ∀ st,de st (.int n)=À (.int n) from fun _=>rfl,Cs g1,show de (st++[O3.lst (nL L)]) (.fz GA)=À (.fz GA) from rfl,show de (st++[O3.lst (nL L)]) (.int (p:Int))=À (.int (p:Int)) from rfl,Æ,Û]) t o rfl;refine ⟨_,[Is n,Zs GA,Rs st.length,Is (p:Int)],st++[.lst (nL (c7 B L p))],rfl,ay (s:=.iff _ _ _) ?_ rfl,_,rfl,rfl⟩;have u:tv [aF] (.va (.ca Â 0 (.cons (.v 0) (.cons (.v 1) (.cons (.v 2) (.cons (.v 3) .nil)))))) [Is n,Zs GA,Rs st.length,Is (p:Int)] (st++[.lst (nL L)])=À (B (L.filter fun q=>q != p) p,st++[.lst (nL L)]):=by simp [z,d8]
   show cW _ _ [Is n,Zs GA,Rs st.length,Is (p:Int)] _=_;rw[mn,u,Æ];unfold c7;cases K:B (L.filter fun q=>q !=p) p with
   |false=>rfl
   |true =>
    rw[yH rfl];refine ay (s:=.ex _) ?_ rfl;have f:=Je (st:=st++[.lst (nL L)]) (k:=st.length) (p:=p) g1 C l.1 oM;have w:(st++[O3.lst (nL L)]).set st.length (.lst (nL (L.filter fun q=>q !=p)))=st++[.lst (nL (L.filter fun q=>q !=p))]:=eJ;rw[w]at f;have A:b8 (st++[O3.lst (nL L)]) (.ref st.length)=À (nL L):=cm g1;simp[lX,qB,qA,qt,A,f]
  ·rintro a s ⟨y,rfl,rfl⟩
   rw[ł (zP _)];exact⟨_,rfl,rfl⟩
 obtain⟨r,e,rfl⟩:=b [];exact aZ (by simp[rfs,rf,F.rg]) e (Cs rfl)
theorem uY{n:Int}(F:Fq n GA B):pm dW [.int n,.fz GA] st=À (.fz (nL ((Ä GA.length).filter fun q=>B ((Ä GA.length).filter fun p=>p !=q) q)),st):=by
 have i:=F.lg;refine aZ (by simp[rfs,rf,F.rg]) (v:=.fz (nL ((Ä GA.length).filter fun q=>B ((Ä GA.length).filter fun p=>p !=q) q))) (st':=[]) ?_ rfl;rw[dW,aB];show(af [aF] mI [Is n,Zs GA,Á] []).bind aw=_;unfold mI;have d:∀st:aa,bY dj [.fz GA] st=À (.int (GA.length:Int),st):=fun st=>rfl
 refine ae (sl':=[Is n,Zs GA,Zs (nL (Ä GA.length))]) (st':=[]) (by
  have:fx (GA.length:Int)=Â/\mN (GA.length:Int)=Â:=by
   have:GA.length=0\/GA.length=1\/GA.length=2\/GA.length=3\/GA.length=4\/GA.length=5\/GA.length=6:=by lia
   rcases this with h|h|h|h|h|h|h<;>rw[h]<;>decide
  simp[d,pW,this,ms,wC]) (cq ?_)
 have e:=lI (st:=[]) (ks:=[aF]) (k:=1) (it:=.e (.v 2)) (t:=.nm 3) (c:=.so (.va (.ca Â 0 (.cons (.v 0) (.cons (.v 1) (.cons (.v 2) (.cons (.v 3) .nil))))))) (e:=.v 3) (sl:=[Is n,Zs GA,Zs (nL (Ä GA.length))]) (gd:=[]) (em:=fun q:Nat=>AV.int (q:Int)) (xs:=Ä GA.length) (B:=fun q=>B ((Ä GA.length).filter fun p=>p !=q) q) (F:=fun q=>AV.int (q:Int)) rfl rfl (by simp;lia) fun q a=>by
  have a:=Ë.mp a;obtain⟨x,g⟩:=F.fo q a;have b:=Cw (st:=[]) (ps:=Ä GA.length) g (fun p f=>Ë.mp f) a (by simp;lia);generalize Ä GA.length=L at *;exact⟨[Is n,Zs GA,Zs (nL L),Is (q:Int)],rfl,by show(tv _ (.va (.ca Â 0 _)) _ _)=_;simp[b,d8],fun _=>rfl⟩
 rw[sn,fR,e,Æ];dsimp only;rw[show((Ä GA.length).filter fun q=>B ((Ä GA.length).filter fun p=>p !=q) q).map (fun p:Nat=>AV.int (p:Int))=nL ((Ä GA.length).filter fun q=>B ((Ä GA.length).filter fun p=>p !=q) q) from rfl,yH wC];rfl
end
noncomputable def z0:Gv:=⟨[],Â,0⟩
def Fol(n:Nat)(gs:List Gv)(z:Gv):Prop:=∀(Y:Nat->Int)(e:Int),0<e->(∀r∈uh n,0<=val (2^n-1) r Y)->(∀g∈gs,Hd (2^n-1) g Y e)->Hd (2^n-1) z Y e
section
variable{st:aa}{n m:Nat}{G gs hs:List Gv}{z:Gv}
theorem kp_hd{w:Nat}{RR:List (List Int)}{Y:Nat->Int}{e:Int}:Kp w RR gs Y e ↔ (∀r∈RR,0<=val w r Y)/\∀g∈gs,Hd w g Y e:=by
 refine⟨fun h=>⟨h.rule,fun g b=>?_⟩,fun⟨f,c⟩=>⟨f,fun z hz d=>(c z hz).2 d,fun z hz _=>(c z hz).1⟩⟩;cases a:g.eq with
 |true=>have:=h.eq g b a;exact⟨by lia,fun _=>this⟩
 |false=>exact⟨h.ge g b a,fun z=>by rw[a]at z;cases z⟩
theorem Fol.mono(h:Fol n gs z)(a:∀g∈gs,g∈hs):Fol n hs z:=fun Y e f b c=>h Y e f b fun g d=>c g (a g d)
theorem Fol.self(h:z∈gs):Fol n gs z:=fun _ _ _ _ a=>a z h
def og(n:Nat)(gs:List Gv)(z:Gv):Bool:=@decide (Fol n gs z) (ϸ _)
theorem fB:og n gs z=Â ↔ Fol n gs z:=by unfold og;exact @decide_eq_true_iff _ (ϸ _)
theorem CO(k:i8 n)(r:gs.length<=6)(p:∀y∈gs,j4 n y)(hz:j4 n z):∃x,(∀st,pm aS [.int n,.fz (gs.map Gv.av),z.av] st=À (.tup [.bl (og n gs z),x],st))/\rf x=Â/\∀st j,bu (j+1) st x=À x:=by
 have s:1000000000000<=M0:=by unfold M0;decide
 have b:∀y:Gv,j4 n y->y.row.length=2^n-1/\(∀x∈y.row,x.natAbs<=M0)/\y.num.natAbs<=M0:=fun y h=>⟨h.1,fun x g=>by have:=h.2.1 x g;lia,by have:=h.2.2;lia⟩
 obtain⟨t,a,F⟩:=ME (gv:=gs) (z:=z) k oM (fun y f=>b y (p y f)) (b z hz);rcases F with⟨q,rfl,h⟩|⟨V,E,rfl,T,h⟩
 ·have:og n gs z=Â:=fB.mpr fun Y e m i l=>h Y e m (kp_hd.mpr ⟨i,l⟩)
  rw[this];exact⟨_,a,rfl,fun st j=>rfl⟩
 ·have:og n gs z=Ã:=by
   cases o:og n gs z with
   |false=>rfl
   |true =>
    obtain⟨d,c⟩:=kp_hd.mp T.kp;exact absurd (fB.mp o _ _ T.pos d c) h
  rw[this];exact⟨_,a,by simp[rf,rfs],fun st j=>by cases j<;>rfl⟩
def bz(n:Nat)(G:List Gv)(z:Gv)(ps:List Nat):Bool:=og n (ps.map fun p=>G.getD p z0) z
def bG(n:Nat)(G:List Gv)(ps:List Nat)(q:Nat):Bool:=bz n G (G.getD q z0) ps
theorem kJ{p:Nat}(h:p<G.length):(G.map Gv.av).getD p .non=(G.getD p z0).av/\G.getD p z0∈G:=by
 have e:G.getD p z0=G[p]:=by rw[zD,zF h];rfl
 refine⟨?_,by rw[e];exact Ý h⟩;rw[e,zD,zR,zF h];rfl
theorem CL{ps:List Nat}(h:∀p∈ps,p<G.length):(ps.map fun p=>(G.map Gv.av).getD p .non)=(ps.map fun p=>G.getD p z0).map Gv.av:=by
 rw[Ü];exact ý fun p a=>(kJ (h p a)).1
theorem rK(o:i8 n)(t:G.length<=6)(s:∀y∈G,j4 n y)(hz:j4 n z):∃x,Fo (.int n) (G.map Gv.av) z.av (bz n G z) x:=by
 have q:∀a:List Nat,∃x:AV,(rf x=Â/\∀d j,bu (j+1) d x=À x)/\((∀p∈a,p<(G.map Gv.av).length)->a.length<=6->∀d,pm aS [.int n,.fz (a.map fun p=>(G.map Gv.av).getD p .non),z.av] d=À (.tup [.bl (bz n G z a),x],d)):=fun a=>by
  by_cases h:(∀p∈a,p<G.length)/\a.length<=6
  ·obtain⟨x,b,c,u⟩:=CO (gs:=a.map fun p=>G.getD p z0) o (by simpa using h.2) (fun y k=>by
    obtain⟨p,l,rfl⟩:=yC.mp k;exact s _ (kJ (h.1 p l)).2) hz
   rw[<- CL h.1]at b;exact⟨x,⟨c,u⟩,fun _ _=>b⟩
  ·exact⟨.non,⟨rfl,fun _ _=>rfl⟩,fun b c=>absurd ⟨by simpa using b,c⟩ h⟩
 obtain⟨f,g⟩:=Ϲ q;have i:rf z.av=Â:=by obtain⟨r,e,m⟩:=z;simp[Gv.av,rf,rfs,d6]
 exact⟨f,rfl,fQ _,i,fun a b c=>(g a).2 b c,fun a=>(g a).1.1,fun a=>(g a).1.2,by simpa using t⟩
theorem rJ(d:i8 n)(c:G.length<=6)(b:∀y∈G,j4 n y):Fq n (G.map Gv.av) (bG n G):=⟨fQ _,by simpa using c,fun q a=>by
 rw[zH]at a;obtain⟨x,F⟩:=rK (z:=G.getD q z0) d c b (b _ (kJ a).2);rw[(kJ a).1];exact⟨x,F⟩⟩
theorem oa{B:List Nat->Nat->Bool}:∀(ps l:List Nat),∀q∈ps.foldl (c7 B) l,q∈l
 |[],_,_,h=>h
 |p::ps,l,q,h=>by
  have:=oa ps _ q h
  unfold c7 at this;split at this
  ·exact(Ñ.mp this).1
  ·exact this
theorem uH:∀(ps l:List Nat),(∀q,q<G.length->Fol n (l.map fun p=>G.getD p z0) (G.getD q z0))->∀q,q<G.length->Fol n ((ps.foldl (c7 (bG n G)) l).map fun p=>G.getD p z0) (G.getD q z0)
 |[],_,h=>h
 |p::ps,l,h=>by
  rw[â];refine uH ps _ fun q hq=>?_
  unfold c7;split
  ·rename_i hb
   have hb:=fB.mp hb;intro Y e f b d;refine h q hq Y e f b fun g i=>?_
   obtain⟨r,a,rfl⟩:=yC.mp i;by_cases c:r=p
   ·rw[c];exact hb Y e f b d
   ·exact d _ (yC.mpr ⟨r,Ñ.mpr ⟨a,by simpa using c⟩,rfl⟩)
  ·exact h q hq
theorem xF:∀(ps l:List Nat),∀q∈ps,q∈ps.foldl (c7 (bG n G)) l->¬Fol n (((ps.foldl (c7 (bG n G)) l).filter fun p=>p !=q).map fun p=>G.getD p z0) (G.getD q z0)
 |p::ps,l,q,hq,hm=>by
  rw[â]at hm ⊢;by_cases hqs:q∈ps
  ·exact xF ps _ q hqs hm
  ·have e:q=p:=by
    rcases zT.mp hq with h|h
    ·exact h
    ·exact absurd h hqs
   subst e;have b:=oa ps _ q hm;intro i;have f:bG n G (l.filter fun p=>p !=q) q=Â:=fB.mpr (i.mono fun g d=>by
    obtain⟨r,c,rfl⟩:=yC.mp d;obtain⟨k,j⟩:=Ñ.mp c;have a:=oa ps _ r k;refine yC.mpr ⟨r,Ñ.mpr ⟨?_,j⟩,rfl⟩;unfold c7 at a;split at a
    ·exact(Ñ.mp a).1
    ·exact a)
   unfold c7 at b;rw[yH f]at b
   have:=(Ñ.mp b).2
   simp at this
theorem vB{A B:List Nat->Nat->Bool}:∀(ps l:List Nat),(∀q∈ps,q<m)->(∀q∈l,q<m)->(∀l q,(∀p∈l,p<m)->q<m->A l q=B l q)->ps.foldl (c7 A) l=ps.foldl (c7 B) l
 |[],_,_,_,_=>rfl
 |p::ps,l,h1,h2,h=>by
  have e:c7 A l p=c7 B l p:=by
   unfold c7;rw[h _ p (fun q a=>h2 q (Ñ.mp a).1) (h1 p z7)]
  rw[â,â,e];refine vB ps _ (fun q a=>h1 q (zQ _ a)) (fun q a=>?_) h;unfold c7 at a;split at a
  ·exact h2 q (Ñ.mp a).1
  ·exact h2 q a
theorem jj{p:Nat}(h:p<G.length):(G++[z]).getD p z0=G.getD p z0:=by
 rw[zD,zD,zN h]
theorem n8:(G++[z]).getD G.length z0=z:=by simp[zD]
theorem Dq{p:Nat}(b:p<G.length):ar (bG n (G++[G.getD p z0])) (G.length+1)=ar (bG n G) G.length:=by
 have h:gf (G.length+1)=G.length::gf G.length:=by
  unfold gf;rw[u?,zO,Ü];congr 1;exact ý fun i _=>by show G.length+1-1-(i+1)=_;lia
 have g:(Ä (G.length+1)).filter (fun q=>q !=G.length)=Ä G.length:=by
  rw[V?,List.filter_append,ì.mpr fun q a=>by have:=Ë.mp a;simp;lia];simp
 have f:bG n (G++[G.getD p z0]) (Ä G.length) G.length=Â:=by
  refine fB.mpr (Fol.self ?_);rw[n8];exact yC.mpr ⟨p,Ë.mpr b,jj b⟩
 unfold ar;rw[h,â];have e:c7 (bG n (G++[G.getD p z0])) (Ä (G.length+1)) G.length=Ä G.length:=by
  unfold c7;rw[g,yH f]
 rw[e];refine vB (m:=G.length) _ _ (fun q a=>?_) (fun q a=>Ë.mp a) fun l q c a=>?_
 ·obtain⟨i,d,rfl⟩:=yC.mp a
  have:=Ë.mp d
  lia
 ·show bz n _ _ _=bz n _ _ _
  unfold bz;rw[jj a,ý fun p b=>jj (c p b)]
def MN(B:List Nat->Bool)(m k:Nat):Prop:=(B (Ä m)=Ã/\k=9)\/(B (Ä m)=Â/\k<=m/\(∀j,j<k->∀q∈Lp m j,B q=Ã)/\∃q∈Lp m k,B q=Â)
theorem MN.le{A B:List Nat->Bool}{a k c:Nat}(h:MN A m k)(h':MN B a c)(s:a<=4)(g:A (Ä m)=Â->B (Ä a)=Â)(i:∀j,j<=m->∀q∈Lp m j,A q=Â->∃q'∈Lp a j,B q'=Â):c<=k:=by
 rcases h with⟨d,rfl⟩|⟨d,r,t,q,p,o⟩
 ·rcases h' with⟨_,rfl⟩|⟨_,h,_⟩<;>lia
 ·rcases h' with⟨b,rfl⟩|⟨_,b,n,_⟩
  ·rw[g d]at b;cases b
  ·apply ð
   intro l;obtain⟨q',f,e⟩:=i k r q p o
   have:=n k oM q' f
   rw[e]at this;cases this
theorem u5{p:Nat}(h:p<G.length):G.reverse.getD (G.length-1-p) z0=G.getD p z0:=by
 rw[zD,zD,H! oM];congr 2;lia
theorem yo{k d:Nat}(l:G.length<=3)(h:MN (bz n G z) G.length k)(h':MN (bz n G.reverse z) G.length d):d<=k:=by
 refine h.le h' oM (fun c=>fB.mpr ((fB.mp c).mono fun g b=>?_)) fun j f q e c=>⟨_,Hq l f q e,fB.mpr ((fB.mp c).mono fun g b=>?_)⟩
 ·obtain⟨p,a,rfl⟩:=yC.mp b
  have a:=Ë.mp a;exact yC.mpr ⟨G.length-1-p,Ë.mpr oM,u5 a⟩
 ·obtain⟨p,a,rfl⟩:=yC.mp b
  have i:=((lF oM f).1 q e).1 p a;exact yC.mpr ⟨G.length-1-p,U!.mpr (yC.mpr ⟨p,a,rfl⟩),u5 i⟩
theorem iX{a p:Nat}{y:Gv}(c:a<=G.length)(h:p<G.length):(G.take a++[y]++G.drop a).getD (nZ a p) z0=G.getD p z0/\nZ a p<G.length+1:=by
 unfold nZ;rw[zD,zD];split
 ·rename_i b
  have b:=T?.mp b;refine⟨?_,by lia⟩;rw[yM,zN (by simp;lia),ĺ b]
 ·rename_i b
  have b:¬p<a:=fun z=>b (T?.mpr z)
  refine⟨?_,by lia⟩;rw[z6 (by simp;lia),Q8];congr 2;simp;lia
theorem Hf{k f a:Nat}{y:Gv}(o:G.length<=3)(e:a<=G.length)(h:MN (bz n G z) G.length k)(h':MN (bz n (G.take a++[y]++G.drop a) z) (G.length+1) f):f<=k:=by
 refine h.le h' oM (fun d=>fB.mpr ((fB.mp d).mono fun g c=>?_)) fun j l q i d=>⟨_,Hr o l e q i,fB.mpr ((fB.mp d).mono fun g c=>?_)⟩
 ·obtain⟨p,b,rfl⟩:=yC.mp c
  obtain⟨s,r⟩:=iX (y:=y) e (Ë.mp b);exact yC.mpr ⟨nZ a p,Ë.mpr r,s⟩
 ·obtain⟨p,b,rfl⟩:=yC.mp c
  have m:=((lF oM l).1 q i).1 p b;exact yC.mpr ⟨nZ a p,yC.mpr ⟨p,b,rfl⟩,(iX e m).1⟩
end
section
variable{st:aa}{n:Nat}{G:List Gv}{z:Gv}{GA:List AV}{zz:AV}{b:List Nat->Bool}{x:List Nat->AV}
theorem sP(F:Fo (.int n) GA zz b x):∃v k,(∀st,pm eV [.int n,.fz GA,zz] st=À (v,st))/\(∀st,pm dL [v] st=À (.int (k:Nat),st))/\MN b GA.length k:=by
 have l:=F.lg;cases a:b (Ä GA.length) with
 |false=>exact⟨.non,9,fun st=>BS F a,fun st=>aZ rfl (v:=.int 9) (st':=[]) (by rw[dL,aB];rfl) rfl,.inl ⟨a,rfl⟩⟩
 |true =>
  obtain⟨p,q⟩:=HZ l a;obtain⟨d,c,⟨g,f⟩,e⟩:=BR F a q;obtain⟨k,s,z,D,C,A,E,y⟩:=q;have r:p∈Lp GA.length k:=by rw[A];simp
  have u:=((lF l s).1 p r).2;refine⟨_,k,e,fun st=>?_,.inr ⟨a,s,z,p,r,y⟩⟩;have o:aR [] (.tup [.fz (nL p),d,c]) (.int 0)=À (.fz (nL p)):=rfl;have t:bY dj [.fz (nL p)] []=À (.int (k:Int),[]):=by
   show À (AV.int ((nL p).length:Int),_)=_;rw[oG,u]
  have m:zf (.tup [.fz (nL p),d,c]) .non=À Ã:=rfl;obtain⟨w,j⟩:∃w,w=AV.tup [.fz (nL p),d,c]:=⟨_,rfl⟩;have h:∀st,pm dL [w] st=À (.int (k:Int),st):=fun st=>by
   have i:rf w=Â:=by rw[j];simp[rf,rfs,g,f]
   rw[<- j]at o m;refine aZ (by simp[rfs,i]) (v:=.int (k:Int)) (st':=[]) ?_ rfl;rw[dL,aB];show(af [] ie [À w] []).bind aw=_;unfold ie;refine ae (sl':=[À w]) (st':=[]) ?_ (cq (by simp[o,t]));have B:cb .Is [] w .non=À Ã:=m;simp[B]
  rw[<- j];exact h st
theorem HL{c:Nat}{l:List Nat}(h:c∈l):cb .In st (.int (c:Int)) (.fz (nL l))=À Â:=by
 show oT st (.int (c:Int)) (.fz (nL l))=_;have b:cp 9 st (.fz (nL l))=À (.list (l.map fun q:Nat=>á (q:Int))):=by
  show(aQ (cp 8 st) (nL l)).map _=_;rw[show aQ (cp 8 st) (nL l)=À (l.map fun q:Nat=>á (q:Int)) from du (f:=cp 8 st) (i:=fun q:Nat=>AV.int (q:Int)) (g:=fun q:Nat=>á (q:Int)) (fun _=>rfl) l];rfl
 have e:oT st (.int (c:Int)) (.fz (nL l))=(cp 9 st (.int (c:Int))).bind fun q=>(cp 9 st (.fz (nL l))).bind fun p=>match p with
   |.list ps=>if(ps.all fun r=>DD.pyOk r q)=Â then À (ps.any fun r=>Õ r q) else Á
   |.tuple ps=>if(ps.all fun r=>DD.pyOk r q)=Â then À (ps.any fun r=>Õ r q) else Á
   |_=>Á:=rfl
 rw[e,b];show(if _ then _ else _)=_;have a:((l.map fun q:Nat=>á (q:Int)).all fun r=>DD.pyOk r (.int (c:Int)))=Â:=by
  rw[List.all_map,yQ];intro q _;rfl
 rw[yH a];congr 1;rw[Ϡ,ĭ];exact⟨c,h,by simp[Õ]⟩
theorem JJ{l:List Nat}:cb .NotEq st (.fz (nL l)) (.fz (nL l))=À Ã:=by
 have d:∀l:List Int,(ś (l.map á)).canLay0=Â:=fun l=>by
  simp only[Đ]
  induction l with
  |nil=>rfl
  |cons x l a=>simp only[zO,ø,Đ,a,Ģ]
 have f:∀l:List Int,S8 (l.map á)=0:=fun l=>by
  induction l with
  |nil=>rfl
  |cons x l a=>simp only[zO,S8,m?,a,Nat.max_self]
 have e:nL l=iL (l.map fun q:Nat=>(q:Int)):=by unfold nL iL;rw[Ü];rfl
 rw[e];generalize l.map (fun q:Nat=>(q:Int))=l at *;change (iM st _ _).map (fun b=>!b)=_;unfold iM;have c:cp 9 st (.fz (iL l))=À (.list (l.map á)):=by show(aQ (cp 8 st) _).map _=_;rw[yp];rfl
 rw[c,Æ,Æ,yH (by
  unfold DD.pyOk;rw[d,yV (z5 (Nat.min_le_left _ _) (by simp only[m?,f];decide))];rfl)]
 simp[Õ,CQ l]
theorem Fu(D:i8 n)(hG:G.length<=3)(H:∀y∈G,j4 n y):pm eC [.int n,.fz (G.map Gv.av)] st=À (.bl Â,st):=by
 have F:=rJ D oM H;have f:=lq (st:=[]) F;rw[zH]at f;obtain⟨T,I⟩:∃T,T=ar (bG n G) G.length:=⟨_,rfl⟩;have m:=p8 (B:=bG n G) (gf G.length) (Ä G.length) xN;have E:=uH (n:=n) (G:=G) (gf G.length) (Ä G.length) fun q d=>Fol.self (yC.mpr ⟨q,Ë.mpr d,rfl⟩)
 have C:∀q∈T,¬Fol n ((T.filter fun p=>p !=q).map fun p=>G.getD p z0) (G.getD q z0):=fun q d=>by
  rw[I]at d ⊢;have Q:=m.2.1 q d;exact xF (gf G.length) (Ä G.length) q (yC.mpr ⟨G.length-1-q,Ë.mpr oM,by lia⟩) d
 change (ar (bG n G) G.length).Nodup/\(∀q∈ar (bG n G) G.length,_)/\(ar (bG n G) G.length).length<=_ at m;change ∀q,q<G.length->Fol n ((ar (bG n G) G.length).map _) _ at E;rw[<- I]at f m E;clear I;obtain⟨S,o⟩:∃S,S=T.map fun p=>G.getD p z0:=⟨_,rfl⟩
 have Y:S.length=T.length:=by rw[o,zH]
 have L:∀y∈S,j4 n y:=fun y k=>by
  rw[o]at k;obtain⟨p,R,rfl⟩:=yC.mp k;exact H _ (kJ (m.2.1 p R)).2
 have sp:=uY (st:=[]) (rJ (G:=S) D oM L);have nil:(Ä (S.map Gv.av).length).filter (fun q=>bG n S ((Ä (S.map Gv.av).length).filter fun p=>p !=q) q)=[]:=by
  rw[zH];refine v!.mpr fun j K hB=>?_
  have K:=Ë.mp K;have sg:∀i,i<T.length->S.getD i z0=G.getD (T.getD i 0) z0:=fun i w=>by
   rw[o,zD,zR,zF w,Û,ň,zD (l:=T),zF w,ň]
  have u:∀i,(h:i<T.length)->T.getD i 0=T[i]:=fun i h=>by rw[zD,zF h];rfl
  have a:j<T.length:=by lia
  refine C (T.getD j 0) (by rw[u j a];exact Ý a) ?_;rw[<- sg j a];refine(fB.mp hB).mono fun g U=>?_
  obtain⟨i,w,rfl⟩:=yC.mp U;obtain⟨z,t⟩:=Ñ.mp w;have b:i<T.length:=by have:=Ë.mp z;lia
  rw[sg i b];refine yC.mpr ⟨_,Ñ.mpr ⟨by rw[u i b];exact Ý b,?_⟩,rfl⟩;rw[u i b,u j a];have:T[i]≠T[j]:=fun e=>by
   have:=(ŋ m.1).mp e
   rw[this]at t;simp at t
  simpa using this
 rw[nil]at sp;have J:=Cp (st:=[]) (ks:=[cU,dW,aS]) (it:=2) (c:=5) (v:=1) (GA:=G.map Gv.av) (ps:=T) (sl:=[Is n,Zs (G.map Gv.av),Zs (nL T),Á,Á]) (by simpa using m.2.1) oM (fQ _) rfl rfl fun _=>rfl
 rw[CL m.2.1,<- o]at J;have V:∀y∈G,∃x,pm aS [.int n,.fz (S.map Gv.av),y.av] []=À (.tup [.bl Â,x],[]):=fun y k=>by
  obtain⟨q,d,e⟩:=List.mem_iff_getElem.mp k;have W:G.getD q z0=y:=by rw[zD,zF d];exact e
  have z:=E q d;rw[W,<- o]at z;obtain⟨x,t,_⟩:=CO (gs:=S) D oM L (H y k);rw[fB.mpr z]at t;exact⟨x,t []⟩
 have rS:rfs (S.map Gv.av)=Â:=fQ _;have A:∃r,eC [.int n,.fz (G.map Gv.av)] []=À r/\r=(.bl Â,[]):=by
  rw[eC,aB];show ∃r,(af [cU,dW,aS] ic [Is n,Zs (G.map Gv.av),Á,Á,Á] []).bind aw=À r/\_;unfold ic;refine ai (sl':=[Is n,Zs (G.map Gv.av),Zs (nL T),Á,Á]) (st':=[]) (by
   generalize G.map Gv.av=GA at *;generalize nL T=TT at *;simp[f]) ?_
  refine ai (sl':=[Is n,Zs (G.map Gv.av),Zs (nL T),Zs (S.map Gv.av),Á]) (st':=[]) (by rw[iC,J];rfl) ?_;have N:cb .NotEq [] (.fz (nL [])) (.fz [])=À Ã:=by kernel_rfl
  refine cX (by
   generalize S.map Gv.av=SA at *;generalize AV.fz (nL [])=e1 at *;simp[sp,cA,N]) ?_
  refine ou (em:=Gv.av) (xs:=G) (gd:=[]) (st0:=[]) (fun i sl s=>s=[]/\∃y,sl=[Is n,Zs (G.map Gv.av),Zs (nL T),Zs (S.map Gv.av),y]) rfl (fun _ _ _ _=>rfl) ⟨rfl,_,rfl⟩ ?_ ?_
  ·rintro i y sl s k ⟨rfl,M,rfl⟩
   obtain⟨x,P⟩:=V y (zW k);refine⟨_,[Is n,Zs (G.map Gv.av),Zs (nL T),Zs (S.map Gv.av),À y.av],[],rfl,?_,rfl,_,rfl⟩;refine ay (s:=.iff _ _ _) ?_ rfl;have O:aR [] (.tup [.bl Â,x]) (.int 0)=À (.bl Â):=rfl;have Z:zf (.bl Â) (.bl Â)=À Â:=rfl;have X:cb .IsNot [] (.bl Â) (.bl Â)=À Ã:=rfl;generalize AV.tup [.bl Â,x]=tt at *;generalize S.map Gv.av=SA at *;generalize G.map Gv.av=GA at *;generalize y.av=yy at *;simp[P,O,X]
  ·rintro sl s ⟨rfl,M,rfl⟩
   exact⟨_,cq rfl,rfl⟩
 obtain⟨r,e,rfl⟩:=A;exact aZ (by simp[rfs,rf,fQ]) e rfl
theorem E2{p:Nat}(o:i8 n)(I:G.length<=3)(i:∀y∈G,j4 n y)(b:p<G.length):pm dY [.int n,.fz (G.map Gv.av),.int (p:Int)] st=À (.bl Â,st):=by
 have P:2^n-1<=7:=by rcases o with rfl|rfl|rfl<;>decide
 obtain⟨y,g⟩:∃y,y=G.getD p z0:=⟨_,rfl⟩;have f:y∈G:=by rw[g];exact(kJ b).2
 have c:=lq (st:=[]) (rJ o oM i);have v:=rJ (G:=G++[y]) o (by simp;lia) fun u k=>by
  rcases zZ.mp k with h|h
  ·exact i u h
  ·rw[zM.mp h];exact i y f
 have a:=lq (st:=[]) v;have sp:=uY (st:=[]) v;have t:=Dq (n:=n) b;rw[<- g]at t;simp only[zH,zV,ģ]at c a sp;rw[t]at a;generalize ar (bG n G) G.length=T at *;have B:p∈(Ä (G.length+1)).filter (fun q=>bG n (G++[y]) ((Ä (G.length+1)).filter fun p=>p !=q) q):=by
  refine Ñ.mpr ⟨Ë.mpr oM,fB.mpr (Fol.self ?_)⟩;rw[jj b,<- g];exact yC.mpr ⟨G.length,Ñ.mpr ⟨Ë.mpr oM,by simp;lia⟩,n8⟩
 have m2:G.length∈(Ä (G.length+1)).filter (fun q=>bG n (G++[y]) ((Ä (G.length+1)).filter fun p=>p !=q) q):=by
  refine Ñ.mpr ⟨Ë.mpr oM,fB.mpr (Fol.self ?_)⟩;rw[n8];exact yC.mpr ⟨p,Ñ.mpr ⟨Ë.mpr oM,by simp;lia⟩,by rw[jj b,<- g]⟩
 generalize (Ä (G.length+1)).filter (fun q=>bG n (G++[y]) ((Ä (G.length+1)).filter fun p=>p !=q) q)=S at *;have L:(G++[y]).map Gv.av=G.map Gv.av++[y.av]:=by simp
 have rG:rfs ((G++[y]).map Gv.av)=Â:=fQ _;have d:aR [] (.fz (G.map Gv.av)) (.int (p:Int))=À y.av:=by
  rw[wR (by simpa using b),(kJ b).1,g]
 have E:bY dj [.fz (G.map Gv.av)] []=À (.int (G.length:Int),[]):=by
  show À (AV.int ((G.map Gv.av).length:Int),_)=_;rw[zH]
 have C:y.row.length<=1000:=by have:=(i y f).1;lia
 have j:dY [.int n,.fz (G.map Gv.av),.int (p:Int)] []=À (.bl Â,[]):=by
  rw[dY,aB];show(af [cU,dW] gH [Is n,Zs (G.map Gv.av),Is (p:Int),Á,Á] []).bind aw=_;unfold gH;have O:(G.map Gv.av).length<=3:=by simpa using I
  have K:ev [cU,dW] (.nw Ã (.cat (.v 1) (.nw Ã (.li (.cons (.tu (.cons (.nw Ã (.lof (.ix (.ix (.v 1) (.v 2)) (.i 0)))) (.cons (.ix (.ix (.v 1) (.v 2)) (.i 1)) (.cons (.ix (.ix (.v 1) (.v 2)) (.i 2)) .nil)))) .nil))))) [Is n,Zs (G.map Gv.av),Is (p:Int),Á,Á] []=À (.fz ((G++[y]).map Gv.av),[]):=by
   rw[L]at rG ⊢;generalize G.map Gv.av=GA at *;obtain⟨r,s,m⟩:=y;have D:=wM (st:=[]) (ks:=[cU,dW]) (e:=.ix (.ix (.v 1) (.v 2)) (.i 0)) (sl:=[Is n,Zs GA,Is (p:Int),Á,Á]) (l:=r) (by simp[d];rfl) C;have H:aR [] (⟨r,s,m⟩:Gv).av (.int 1)=À (.str (if s=Â then "=" else ">")):=rfl;have F:aR [] (⟨r,s,m⟩:Gv).av (.int 2)=À (.int m):=rfl;have x:cA (GA.length+1)=Â:=bW oM;have w:cA 1=Â:=rfl;have z:rf (⟨r,s,m⟩:Gv).av=Â:=by simp[Gv.av,rf,rfs,d6]
   have J:ev [cU,dW] (.tu (.cons (.nw Ã (.lof (.ix (.ix (.v 1) (.v 2)) (.i 0)))) (.cons (.ix (.ix (.v 1) (.v 2)) (.i 1)) (.cons (.ix (.ix (.v 1) (.v 2)) (.i 2)) .nil)))) [Is n,Zs GA,Is (p:Int),Á,Á] []=À ((⟨r,s,m⟩:Gv).av,[]):=by
    generalize Ex.nw Ã (.lof (.ix (.ix (.v 1) (.v 2)) (.i 0)))=ee at *;generalize k:(⟨r,s,m⟩:Gv).av=u at *;simp[D,d,H,F];rw[<- k];rfl
   generalize (⟨r,s,m⟩:Gv).av=u at *;generalize Ex.tu (.cons (.nw Ã (.lof (.ix (.ix (.v 1) (.v 2)) (.i 0)))) (.cons (.ix (.ix (.v 1) (.v 2)) (.i 1)) (.cons (.ix (.ix (.v 1) (.v 2)) (.i 2)) .nil)))=ee at *;rw[fR];simp[nU,J,x,w,rfs,z];exact rG
  refine ae (sl':=[Is n,Zs (G.map Gv.av),Is (p:Int),Zs ((G++[y]).map Gv.av),Á]) (st':=[]) (by rw[iC,K];rfl) ?_;generalize (G++[y]).map Gv.av=HA at *;generalize G.map Gv.av=GA at *;have A:=JJ (st:=[]) (l:=T);have N:=HL (st:=[]) B;have M:=HL (st:=[]) m2;generalize nL T=TT at *;generalize nL S=SS at *;refine ae (sl':=[Is n,Zs GA,Is (p:Int),Zs HA,Á]) (st':=[]) (by simp[c,a,A]) ?_;refine ae (sl':=[Is n,Zs GA,Is (p:Int),Zs HA,Zs SS]) (st':=[]) (by simp[sp]) (cq (by simp[E,N,M]))
 exact aZ (by simp[rfs,rf,fQ]) j rfl
end
abbrev KL:List Fn:=[dX,aW,aO,dz,eC,dY,eV,dL]
section
variable{st:aa}{ns:List Int}{n:Nat}{G:List Gv}{z:Gv}
theorem JU(hns:ns.length<=63):∃st,pK [.fz (iL ns)] []=À (.bl Â,st):=by
 obtain⟨D,d,M,hD,hd⟩:=ES hns;have hd:okD D:=hd;obtain⟨O,x,rfl⟩:=rD (D:=D) (fun z=>by rw[z]at hD;simp at hD);obtain⟨hx,hd1⟩:=hd.at;have Z:=wn (R:=d) (D:=O) (x:=x);simp only[zV,ģ]at hD;have key:∃r,pK [.fz (iL ns)] []=À r/\r.1=.bl Â:=by
  rw [pK,aB];show ∃ r,(af KL rL [Ls ns,Á,Á,Á,Á,Á,Á,Á,Á] []).bind aw=À r/\_;unfold rL;obtain ⟨S,hS⟩:∃ S,S=O3.lst (iL O)::d:=⟨_,rfl⟩;rw [<- hS] at Z;have X:=ġ x (show (8:Int) ≠ 0 by decide);have W:=ğ x (show (0:Int) < 8 by decide);obtain ⟨v,k,xv⟩:=C3 (st:=S) (l:=[.int 3,.int 2,.int 3,.int 1,.int 3,.int 2,.int 3,.int 2]) X W;obtain ⟨n,rfl,o⟩:∃ n:Nat,v=.int (n:Int)/\i8 n:=by
   unfold i8;simp only[zT,zX,or_false]at k;rcases k with rfl|rfl|rfl|rfl|rfl|rfl|rfl|rfl
   ·exact⟨3,rfl,by decide⟩
   ·exact⟨2,rfl,by decide⟩
   ·exact⟨3,rfl,by decide⟩
   ·exact⟨1,rfl,by decide⟩
   ·exact⟨3,rfl,by decide⟩
   ·exact⟨2,rfl,by decide⟩
   ·exact⟨3,rfl,by decide⟩
   ·exact⟨2,rfl,by decide⟩
  obtain⟨c,hc0,ec0⟩:∃c:Nat,c<4/\x/8%4=(c:Int):=kC dC;have f8:∀st,bB .FloorDiv st (.int x) (.int 8)=À (.int (x/8)):=fun st=>jk rfl dC
  have f32:∀st,bB .FloorDiv st (.int x) (.int 32)=À (.int (x/32)):=fun st=>jk rfl dC
  have f96:∀st,bB .FloorDiv st (.int x) (.int 96)=À (.int (x/96)):=fun st=>jk rfl dC
  have m8:bB .Mod S (.int x) (.int 8)=À (.int (x%8)):=fG dC;have m4:bB .Mod S (.int (x/8)) (.int 4)=À (.int (c:Int)):=by rw[fG dC,ec0]
  refine ai (sl':=[Ls ns,Rs 0,Á,Á,Á,Á,Á,Á,Á]) (st':=.lst (iL (O++[x]))::d) (by simp[M,jt]) ?_;refine ai (sl':=[Ls ns,Rs 0,Is x,Á,Á,Á,Á,Á,Á]) (st':=S) (by simp[Z,jt]) ?_;refine ai (sl':=[Ls ns,Rs 0,Is x,Is n,Á,Á,Á,Á,Á]) (st':=S) (by simp[m8,xv,cA,rfs,rf]) ?_
  have hc:∀D:List Int,∃p:List Int×Gv,(2<=D.length/\okD D)->aO [.ref 0,.int n] (.lst (iL D)::d)=À (p.2.av,.lst (iL p.1)::d)/\okB n p.2/\okD p.1/\D.length=p.1.length+2:=fun D=>by
   by_cases h:2<=D.length/\okD D
   ·obtain⟨D',z,A,w,I⟩:=nO (R:=d) o h.1 h.2
    exact⟨(D',z),fun _=>⟨A,w.1,I⟩⟩
   ·exact⟨([],⟨[],Â,0⟩),fun z=>absurd z h⟩
  obtain⟨f,hf⟩:=Ϲ hc;obtain⟨it,C,O4⟩:∃it:Nat->List Int,it 0=O/\∀i,it (i+1)=(f (it i)).1:=⟨fun i=>Nat.rec O (fun _ D=>(f D).1) i,rfl,fun _=>rfl⟩;have hJ:∀i,i<=c->okD (it i)/\(it i).length+2*i=23:=fun i=>by
   induction i with
   |zero=>intro _;rw[C];exact⟨hd1,by lia⟩
   |succ i ih =>
    intro Q;obtain⟨A,w⟩:=ih oM;obtain⟨_,_,I,h4⟩:=hf (it i) ⟨by lia,A⟩;rw[O4];exact⟨I,by lia⟩
  have hF:∀i,i<c->aO [.ref 0,.int n] (.lst (iL (it i))::d)=À ((f (it i)).2.av,.lst (iL (it (i+1)))::d)/\okB n (f (it i)).2:=fun i Q=>by
   obtain⟨A,w⟩:=hJ i oM;obtain⟨I,h4,_⟩:=hf (it i) ⟨by lia,A⟩;rw[O4];exact⟨I,h4⟩
  obtain⟨st',L,hl,K⟩:=yz (gd:=[]) (g:=cB KL (.nm 9)) (t:=jC KL .no) (f:=ev KL (.ca Ã 2 (.cons (.v 1) (.cons (.v 3) .nil)))) (sl:=[Ls ns,Rs 0,Is x,Is n,Á,Á,Á,Á,Á,Á]) (xs:=(Ä c).map fun q:Nat=>AV.int (q:Int))
   (J:=fun i st=>i<=c/\st=.lst (iL (it i))::d) (F:=fun i=>(f (it i)).2.av) (fun _ _ _ _=>rfl) (fun i y st E hq0=>by
    obtain⟨Q,hst⟩:=hq0;have hi2:i<c:=by have:=(zB.mp E).1;simpa using this
    subst hst;have h:=(hF i hi2).1;exact⟨[Ls ns,Rs 0,Is x,Is n,Á,Á,Á,Á,Á,À y],_,rfl,rfl,by simp[h,jt],by lia,rfl⟩) (st:=S) ⟨Ě _,by rw[C];exact hS⟩
  obtain⟨G,U⟩:∃G,G=(Ä c).map fun i=>(f (it i)).2:=⟨_,rfl⟩
  have lG:G.length=c:=by rw[U];simp
  have N:∀z∈G,okB n z:=fun z hz=>by
   rw[U]at hz;obtain⟨i,Q,rfl⟩:=yC.mp hz;exact(hF i (Ë.mp Q)).2
  rw[zH,Ĥ]at L K;have eG:(Ä c).map (fun i=>(f (it i)).2.av)=G.map Gv.av:=by rw[U,Ü];rfl
  rw[eG]at L;obtain⟨hd2,hl2⟩:=hJ c (zP _);generalize it c=D2 at *;subst K;have rG:rfs (G.map Gv.av)=Â:=fQ _;have e4:ev KL (.nw Ã (.lc 1 (.r1 (.bin .Mod (.bin .FloorDiv (.v 2) (.i 8)) (.i 4))) (.nm 9) .no (.ca Ã 2 (.cons (.v 1) (.cons (.v 3) .nil))))) [Ls ns,Rs 0,Is x,Is n,Á,Á,Á,Á,Á] S=À (.fz (G.map Gv.av),.lst (iL D2)::d):=by
   have rb:=wj (st:=S) (ks:=KL) (a:=.bin .Mod (.bin .FloorDiv (.v 2) (.i 8)) (.i 4)) (sl:=[Ls ns,Rs 0,Is x,Is n,Á,Á,Á,Á,Á]) (n:=c) (by simp[f8,m4]) oM;rw[fR,G9,rb,Æ];dsimp only;rw[yH (bW (by simp;lia))];show((im [] _ _ _ [Ls ns,Rs 0,Is x,Is n,Á,Á,Á,Á,Á,Á] _ _).bind _)=_;rw[L,Æ];show(if rfs (G.map Gv.av)=Â then _ else _)=_;rw[yH rG]
  refine ai (sl':=[Ls ns,Rs 0,Is x,Is n,Zs (G.map Gv.av),Á,Á,Á,Á]) (st':=.lst (iL D2)::d) (by rw[iC,e4];rfl) ?_;clear L e4 hF hJ hf hc xv m8 m4 Z M eG U;obtain⟨D3,z,ew,hz,hd3,hl3⟩:=Az (R:=d) (G:=G) o oM hd2 oM N;obtain⟨D4,y,ey,⟨E,_⟩,_,_⟩:=nO (R:=d) (D:=D3) o oM hd3;have u:∀z∈G,j4 n z:=fun z h=>(N z h).w
  have E:=E.w;have Y:=fun st=>Fu (st:=st) o oM u
  have ag:=fun st (p:Nat) (hp:p<G.length)=>E2 (st:=st) (p:=p) o oM u hp
  obtain⟨x1,F1⟩:=rK o oM u hz;obtain⟨x2,F2⟩:=rK (G:=G.reverse) o (by simp;lia) (fun z h=>u z (U!.mp h)) hz;obtain⟨a,ha,ea⟩:∃a:Nat,a<G.length+1/\x/96%((G.length+1:Nat):Int)=(a:Int):=kC oM;obtain⟨H,T⟩:∃H,H=G.take a++[y]++G.drop a:=⟨_,rfl⟩;have lH:H.length=G.length+1:=by rw[T];simp;lia
  obtain⟨x3,F3⟩:=rK (G:=H) o oM (fun z h=>by
   rw[T]at h;rcases zZ.mp h with h|h
   ·rcases zZ.mp h with h|h
    ·exact u z (List.mem_of_mem_take h)
    ·rw[zM.mp h];exact E
   ·exact u z (List.mem_of_mem_drop h)) hz
  obtain⟨v1,k1,f1,q1,V⟩:=sP F1;obtain⟨v2,j,f2,q2,M2⟩:=sP F2;obtain⟨v3,k3,f3,q3,M3⟩:=sP F3;simp only[zH,ĵ]at V M2 M3;rw[lH]at M3;have k12:j=k1:=by
   have A:=yo oM V M2;have M1':MN (bz n G.reverse.reverse z) G.reverse.length k1:=by rw[List.reverse_reverse,ĵ];exact V
   have w:=yo (G:=G.reverse) (by simp;lia) (by rw[ĵ];exact M2) M1';lia
  subst k12;have hk3:k3<=j:=Hf (a:=a) (y:=y) oM oM V (by rw[<- T];exact M3);have eH:H.map Gv.av=(G.map Gv.av).take a++[y.av]++(G.map Gv.av).drop a:=by rw[T];simp
  have rR:rfs (G.reverse.map Gv.av)=Â:=fQ _;have P:rfs (H.map Gv.av)=Â:=fQ _;have eR:G.reverse.map Gv.av=(G.map Gv.av).reverse:=by simp
  have B:=fun st=>CS (st:=st) (G:=G)
  have lA:(G.map Gv.av).length=G.length:=by simp
  rw[eH]at f3 P;rw[eR]at f2 rR;have ln:∀st:aa,bY dj [.fz (G.map Gv.av)] st=À (.int (G.length:Int),st):=fun st=>by rw[<- lA];rfl
  have yr:rf y.av=Â:=by obtain⟨r,e,m⟩:=y;simp[Gv.av,rf,rfs,d6]
  have iE:G.isEmpty=Â\/(G.isEmpty=Ã/\0<G.length):=by cases G<;>simp
  generalize hm:G.length=m at *;generalize G.map Gv.av=GA at *;generalize z.av=zz at *;generalize y.av=yy at *;refine ai (sl':=[Ls ns,Rs 0,Is x,Is n,Zs GA,À zz,Á,Á,Á]) (st':=.lst (iL D3)::d) (by simp[ew,jt]) ?_;refine ai (sl':=[Ls ns,Rs 0,Is x,Is n,Zs GA,À zz,À yy,Á,Á]) (st':=.lst (iL D4)::d) (by simp[ey,jt]) ?_;generalize O3.lst (iL D4)::d=S at *;refine cX (by simp[Y,d8]) ?_;refine cX (b:=.cons (.rt (.b Ã)) .nil) ?_ ?_
  ·rcases iE with h|⟨h,w⟩
   ·have B:=B S
    have cn:cb .NotEq S (.fz GA) (.fz [])=À Ã:=by
     show(iM S _ _).map _=_;have:iM S (.fz GA) (.fz [])=À Â:=by rw[<- h];exact B
     rw[this];rfl
    simp[cA,cn]
   ·have B:=B S
    have cn:cb .NotEq S (.fz GA) (.fz [])=À Â:=by
     show(iM S _ _).map _=_;have:iM S (.fz GA) (.fz [])=À Ã:=by rw[<- h];exact B
     rw[this];rfl
    obtain⟨p,hp,ep⟩:=kC (z:=x/32) w;have mp:bB .Mod S (.int (x/32)) (.int (m:Int))=À (.int (p:Int)):=by rw[fG oM,ep]
    simp[cA,cn,f32,ln,mp,ag S p hp,d8]
  refine ai (sl':=[Ls ns,Rs 0,Is x,Is n,Zs GA,À zz,À yy,Is (j:Int),Á]) (st':=S) (by simp[f1,q1]) ?_;have er:∀sl,ev KL (.nw Ã (.rev (.v 4) (.un .USub (.i 1)))) (Ls ns::Rs 0::Is x::Is n::Zs GA::sl) S=À (.fz GA.reverse,S):=fun sl=>by
   rw[fR];have u1:j3 .USub S (.int 1)=À (.int (-1)):=rfl;show((wz (ev KL (.v 4)) (ev KL (.un .USub (.i 1))) _ S).bind _)=_;simp[wz,u1,rR]
  refine cX (b:=.cons (.rt (.b Ã)) .nil) (by
   generalize Ex.nw Ã (.rev (.v 4) (.un .USub (.i 1)))=ee at *;simp[er,f2,q2]) ?_
  have ma:bB .Mod S (.int (x/96)) (.int ((m:Int)+1))=À (.int (a:Int)):=by rw[fG oM];congr 2
  refine ai (sl':=[Ls ns,Rs 0,Is x,Is n,Zs GA,À zz,À yy,Is (j:Int),Is (a:Int)]) (st':=S) (by simp[f96,ln,ma]) ?_;have cu1:cut GA Á (À (a:Int))=GA.take a:=by
   unfold cut;rw[HT.sIx_nat,HT.sIx_none,ń,Ϣ,e! oM]
  have cu2:cut GA (À (a:Int)) Á=GA.drop a:=by
   unfold cut;rw[HT.sIx_nat,HT.sIx_none,e! oM];exact ł (by simp)
  have ec:ev KL (.nw Ã (.cat (.nw Ã (.cat (.nw Ã (.sl (.v 4) .no (.so (.v 8)))) (.nw Ã (.li (.cons (.v 6) .nil))))) (.nw Ã (.sl (.v 4) (.so (.v 8)) .no)))) [Ls ns,Rs 0,Is x,Is n,Zs GA,À zz,À yy,Is (j:Int),Is (a:Int)] S=À (.fz (GA.take a++[yy]++GA.drop a),S):=by
   have s1:cA ((GA.take a++[yy]).length+(GA.drop a).length)=Â:=bW (by simp;lia);have s2:cA ((GA.take a).length+1)=Â:=bW (by simp;lia);have r1:rfs (GA.take a++[yy])=Â:=dy fun v k=>iV P (zL _ k)
   have r2:rfs (GA.take a)=Â:=dy fun v k=>iV r1 (zL _ k)
   have r3:rfs (GA.drop a)=Â:=dy fun v k=>iV P (zK _ k)
   generalize GA.take a=T1 at *;generalize GA.drop a=T2 at *;generalize hT:T1++[yy]=T3 at *;have X:ev KL (.nw Ã (.sl (.v 4) .no (.so (.v 8)))) [Ls ns,Rs 0,Is x,Is n,Zs GA,À zz,À yy,Is (j:Int),Is (a:Int)] S=À (.fz T1,S):=by simp[oF,oA,cu1,r2]
   have W:ev KL (.nw Ã (.sl (.v 4) (.so (.v 8)) .no)) [Ls ns,Rs 0,Is x,Is n,Zs GA,À zz,À yy,Is (j:Int),Is (a:Int)] S=À (.fz T2,S):=by simp[oF,oA,cu2,r3]
   generalize Ex.nw Ã (.sl (.v 4) .no (.so (.v 8)))=M at *;generalize Ex.nw Ã (.sl (.v 4) (.so (.v 8)) .no)=e2 at *;have w3:ev KL (.nw Ã (.cat M (.nw Ã (.li (.cons (.v 6) .nil))))) [Ls ns,Rs 0,Is x,Is n,Zs GA,À zz,À yy,Is (j:Int),Is (a:Int)] S=À (.fz T3,S):=by simp[nU,X,s2,show cA 1=Â from rfl,rfs,yr,hT,r1]
   generalize Ex.nw Ã (.cat M (.nw Ã (.li (.cons (.v 6) .nil))))=L at *;simp[nU,w3,W,s1,P]
  refine eK (v:=.bl Â) (st':=S) ?_ rfl;generalize Ex.nw Ã (.cat (.nw Ã (.cat (.nw Ã (.sl (.v 4) .no (.so (.v 8)))) (.nw Ã (.li (.cons (.v 6) .nil))))) (.nw Ã (.sl (.v 4) (.so (.v 8)) .no)))=ee at *;generalize GA.take a++[yy]++GA.drop a=HA at *;simp[ec,f3,q3,hk3]
 obtain⟨⟨v,s⟩,e,h⟩:=key;have h:v=.bl Â:=h;subst h;exact⟨s,e⟩
theorem Md:Room e_law.d ż:=⟨rfl,by decide,by decide,rfl⟩
theorem Ds:∀t∈(O2.tb:List (Ç×Pos×Str)),t.1∈([(119,117)]:List (Ç×Addr)).map (·.2):=by
 intro t a;have:t=(117,⟨81,30,81,63⟩,("Sheet.raising_column":Í)++".<locals>."++"<lambda>"):=zM.mp a;rw[this];exact zM.mpr rfl
theorem holds:∀ns:List Int,ns.length<=63->∃st,Lu [.fz (ns.map .int)] []=À (.bl Â,st):=fun _ h=>JU h
end
end LW
namespace PySem.W.Fast
def tw9193405261884989450:=()
def tw14242050589166829177:=()
def tw6237873342004510839:=()
def tw15500317742678437650:=()
def tw4788754274060371793:=()
def tw8249914432605135156:=()
def tw14268811452632275926:=()
def tw15676506346845242101:=()
def tw8703614034271280497:=()
def tw11439855675232641941:=()
def tw3042004729842254567:=()
def tw10057733163872688296:=()
def tw16480732936986008481:=()
def tw7224962728988984399:=()
def tw10201689214323572624:=()
def tw9987752833397146645:=()
def tw6645649129332590937:=()
def tw11295284943088798838:=()
def tw9093158721271848961:=()
def tw11745822556860382199:=()
def tw1531832253075764368:=()
def tw12290861153419631088:=()
def tw359323643730326306:=()
def tw17577866789373888570:=()
def tw16160187508174000089:=()
def tw9695829336268422522:=()
def tw2091663374270051229:=()
def tw3172224384066472040:=()
def tw5143014560362874418:=()
def tw13376031542547532391:=()
def tw1489527236423341494:=()
def tw15243694711685274645:=()
def tw4054901393904117348:=()
def tw2268120765785924304:=()
def tw18406151228238420253:=()
def tw10529079977694987430:=()
def tw712925845105878171:=()
def tw2232774144766323132:=()
def tw10314334176345364594:=()
def tw2379736087693855037:=()
def tw57393842507144196:=()
def tw11185668564528542836:=()
def tw18117093455845380836:=()
def tw14860885848500112976:=()
def tw17226010723740710771:=()
def tw1816967440092218123:=()
def tw10516173511423040739:=()
def tw8168845011218551172:=()
def tw14403286712914072432:=()
def tw6399883049988557423:=()
def tw277581585111767935:=()
def tw1516558384386630229:=()
def tw6354585446097661748:=()
def tw12510772886813635385:=()
def tw14288984228244172359:=()
def tw1471717685069886537:=()
def tw13101345062279109944:=()
def tw10713813984126926804:=()
def tw7809058987360301331:=()
def tw13924064701159531958:=()
def tw13455473707893667717:=()
def tw15050088855224821519:=()
def tw8014534034090242616:=()
def tw15319708806350181373:=()
def tw783888127264828177:=()
def tw6407943817738045258:=()
def tw14278500259677258964:=()
def tw9462726767331956487:=()
def tw9569328602030461099:=()
def tw8702073907117013147:=()
def tw5929210377576516517:=()
def tw4724015692136915014:=()
def tw5435276103192665101:=()
def tw9000520676161545054:=()
def tw6789638207377834358:=()
def tw15061934747002571482:=()
def tw2239641033952321188:=()
def tw12571521921647270172:=()
def tw18282664813060373052:=()
def tw17144167269222740016:=()
def tw2385181267196449178:=()
def tw7845149881069885001:=()
def tw1296305609475418385:=()
def tw9411031947180624977:=()
def tw2967246075333649253:=()
def tw1652240200083583378:=()
def tw7610125116099748819:=()
def tw6349623288561136852:=()
def tw3366478700014594099:=()
def tw7700842769623771224:=()
def tw14493172338551253801:=()
def tw12977170805530267927:=()
def tw12932328063883990142:=()
def tw14882420571093945329:=()
def tw18027973980992766226:=()
def tw3826301007191047485:=()
def tw18272181176155282900:=()
def tw5650790049720576622:=()
def tw6390330615113510558:=()
def tw16132641552958682331:=()
def tw4455876973521666310:=()
def tw6634306584684714207:=()
def tw9586461007300626800:=()
def tw4951398267459986261:=()
def tw6446431882435390042:=()
def tw16293896681267584443:=()
def tw14703462628420404638:=()
def tw9572349003704155048:=()
def tw12480064760229779300:=()
def tw16738343794044708997:=()
def tw6109298800457495785:=()
def tw8417803581602922542:=()
def tw14795996169855970543:=()
def tw7702314550035292921:=()
def tw17506354867457490228:=()
def tw13798303760171449002:=()
def tw197366700278697874:=()
def tw15042725848980882933:=()
def tw11250104367355554012:=()
def tw6333635499873782978:=()
def tw16243278417745054709:=()
def tw14884829314682881390:=()
def tw3473852621517365081:=()
def tw14410647174695942208:=()
def tw2630983763054953733:=()
def tw3741796143853805034:=()
def tw6052911231918418859:=()
def tw9810320134975459035:=()
def tw3998458897315127343:=()
def tw4415359288561855007:=()
def tw5665325968669320204:=()
def tw1991545958557132943:=()
def tw4011412352852257728:=()
def tw12903666097066446610:=()
def tw10233902759378202912:=()
def tw10522477820562903635:=()
def tw17501828319289851364:=()
def tw11594904177567419803:=()
def tw18189132252859173681:=()
def tw10318661798554420277:=()
def tw9571990912567974280:=()
def tw16068036655076353386:=()
def tw3035130938176238183:=()
def tw11914729441385184071:=()
def tw9827269467800008982:=()
def tw2292488736154079317:=()
def tw7237259608334785030:=()
def tw8935638319097142342:=()
def tw15389785596166532688:=()
def tw7565984650709409572:=()
def tw11535440050483525956:=()
def tw10986292806508442497:=()
def tw2093782486776537269:=()
def tw3767586452218669028:=()
def tw3368313558523845811:=()
def tw12793569425850938098:=()
def tw8637003979570890948:=()
def tw14939693215457920369:=()
def tw9235202341339024244:=()
def tw13230851751620174931:=()
def tw17511990372234909193:=()
def tw7262122543391797522:=()
def tw8705550227352907642:=()
def tw8318775262696192195:=()
def tw9867293645306888895:=()
def tw5109144119657204646:=()
def tw3074126528840596065:=()
def tw18117677709889944229:=()
def tw10076131009681578626:=()
def tw4733999978237896399:=()
def tw5323995499299566652:=()
def tw14758723815242384764:=()
def tw12315542911213646492:=()
def tw17510898890723795281:=()
def tw1444778023507712605:=()
def tw2791224898802315086:=()
def tw2921008245059582425:=()
def tw14659819845253542545:=()
def tw8988503047731181312:=()
def tw5667419663519356953:=()
def tw3538360919631127:=()
def tw17933516345021870160:=()
def tw13065715939196869882:=()
def tw8240579340977610542:=()
def tw18445466392174366010:=()
def tw12747659910625098266:=()
def tw834337904535324199:=()
def tw1419581584834161183:=()
def tw5521484150641554495:=()
def tw1267275016732485813:=()
def tw13798296987924307759:=()
def tw6113162600300563936:=()
def tw7705137695443587229:=()
def tw4612730790952070575:=()
def tw3763872674896669201:=()
def tw12553211008148538342:=()
def tw12098905391505598520:=()
def tw15386770981416391814:=()
def tw4408562320277771376:=()
def tw7159475832707653646:=()
def tw12576516015506599770:=()
def tw10677720101891508769:=()
def tw10423729220342451091:=()
def tw15684406469845910241:=()
def tw2680094801325337434:=()
def tw11227987577920343132:=()
def tw14314957384182939534:=()
def tw1511769703938433464:=()
def tw7317271723711955717:=()
def tw16484876063660484777:=()
def tw14524856769784534277:=()
def tw13040636478391068775:=()
def tw11394547717406359188:=()
def tw9914113430866466618:=()
def tw2759484778014001627:=()
def tw11271842411031324470:=()
def tw10042999718428956463:=()
def tw5563688819520610288:=()
def tw4011218757714414333:=()
def tw2985294261172513688:=()
def tw2196918563228457075:=()
def tw18429841755574535135:=()
def tw16767749772053681087:=()
def tw16549031857577986002:=()
def tw16001945175163574265:=()
def tw11008654932942934479:=()
def tw10726419899466867641:=()
def tw10246155916086583855:=()
def tw10053087882079874710:=()
def tw9753795693159899747:=()
def tw9703361497829326628:=()
def tw9362584664907016658:=()
def tw8547624264605906145:=()
def tw8349179499878167149:=()
def tw8199887835502880806:=()
def tw7283978587768209036:=()
def tw6874458745651694235:=()
def tw5980237428815396681:=()
def tw4188656356810418623:=()
def tw3904331959022598029:=()
def tw3211819938055470680:=()
def tw16947899776511118120:=()
def tw16260437520173975206:=()
def tw14988433242110168969:=()
def tw14585944974702076980:=()
def tw14547060607979387150:=()
def tw14030909442253831402:=()
def tw13397714905966661222:=()
def tw13057486406335420550:=()
def tw12836181136355974250:=()
end PySem.W.Fast
open PySem PySem.W PyProof.Rows
set_option maxRecDepth 100000 in
set_option maxHeartbeats 0 in
theorem PySem.Challenge.cw_telltight_k23_whole_books_bent_holds : PySem.Challenge.rw_telltight_k23_whole_books_bent.Holds := by
 w_on; o_law; k_head; (case hw => w_witness2)
 k_fill
 refine R.walk_R (l := PySem.Challenge.rw_telltight_k23_whole_books_bent) (k := LW.e_law.d) (fn := LW.Lu) (tabs := [(119, 117)]) rfl rfl ?hrr (fun w h Y => ⟨km_in_of Y, fun q hq => km_tabs_of Y q.2 (by simp only [zM] at hq ⊢; rw [hq])⟩) ?hcc ?hKK ?htt LW.holds ?F
 case hrr => exact LW.Md
 case hcc => intro w q hq; simp only [zM] at hq; rw [hq]; kernel_rfl
 case hKK => intro w; kernel_rfl
 case htt => intro t ht; exact LW.Ds t ht
 case F =>
  intro w mg fa h KX G hmg;refine R.law_F (gs := LW.gs) (cl := LW.cl) (pre := LW.pre) (e := LW.e_law) KX G hmg ?nb ?gs ?cl LW.EW LW.EX rfl ?fs ?law rfl LW.JV
  case nb => kernel_rfl
  case gs => intro p hp; simp only [LW.gs, zT, zX, or_false] at hp
  case cl => intro p hp; simp only [LW.cl, zT, zX, or_false] at hp; rcases hp with rfl <;> exact ⟨⟨_, by k_is, by kernel_rfl, by kernel_rfl, by kernel_rfl, by kernel_rfl⟩, ⟨_, by k_is, by kernel_rfl⟩⟩
  case law => exact R.ff (by k_is) (by k_is) (by kernel_rfl) (by k_is) (.inl rfl)
  case fs =>
   repeat' first | exact R.fes_n | refine R.fes_c ?_ ?_
   iterate 16 next => exact R.fe_f (by exact rfl) (by k_is) (by k_is) (by kernel_rfl) (by k_is) (.inl rfl)
   next => exact R.fe_k (by exact rfl) (by k_is) (by k_is) (by k_is) (by kernel_rfl) (by k_is) (by k_is) (.inl rfl) (by kernel_rfl) (by kernel_rfl)
   next => exact R.fe_m (by exact rfl) (by k_is) (by k_is) (by k_is) (by kernel_rfl) (by k_is) (by k_is) (.inl rfl)
   next => exact R.fe_f (by exact rfl) (by k_is) (by k_is) (by kernel_rfl) (by k_is) (.inl rfl)
   iterate 2 next => exact R.fe_m (by exact rfl) (by k_is) (by k_is) (by k_is) (by kernel_rfl) (by k_is) (by k_is) (.inl rfl)
   next => exact R.fe_m (by exact rfl) (by k_is) (by k_is) (by k_is) (by kernel_rfl) (by k_is) (by k_is) (.inr ⟨_, _, _, rfl, rfl, by kernel_rfl, rfl⟩)
   iterate 3 next => exact R.fe_m (by exact rfl) (by k_is) (by k_is) (by k_is) (by kernel_rfl) (by k_is) (by k_is) (.inl rfl)
   next => exact R.fe_f (by exact rfl) (by k_is) (by k_is) (by kernel_rfl) (by k_is) (.inl rfl)
   iterate 4 next => exact R.fe_m (by exact rfl) (by k_is) (by k_is) (by k_is) (by kernel_rfl) (by k_is) (by k_is) (.inl rfl)
   iterate 10 next => exact R.fe_f (by exact rfl) (by k_is) (by k_is) (by kernel_rfl) (by k_is) (.inl rfl)
   next => exact R.fe_m (by exact rfl) (by k_is) (by k_is) (by k_is) (by kernel_rfl) (by k_is) (by k_is) (.inl rfl)
   iterate 21 next => exact R.fe_f (by exact rfl) (by k_is) (by k_is) (by kernel_rfl) (by k_is) (.inl rfl)
#print axioms PySem.Challenge.cw_telltight_k23_whole_books_bent_holds
