import PyProof.Rows.All
import Wide.All
import OpenK.AllK
import Wide.FinOn
import PySem.Challenge.RW_telltight_k93_whole_heaps_keep_what_foll
set_option bootstrap.genMatcherCode false
set_option compiler.extract_closed false
noncomputable section
open Array renaming length_toList → ø, size_append → S8, toList → Y!, toList_append → O?
open Bool renaming and_eq_true → zC, and_eq_true_iff → ŏ, and_self → ϟ, and_true → y!, eq_iff_iff → W0, false → Ä, false_eq_true → yC, false_ne_true → Ğ, not_false → X!, or_eq_true_iff → R?, or_false → X9, or_true → Y8, true → Ã
open Classical renaming byContradiction → ö, choose → Đ, choose_spec → Ĝ
open ForInStep renaming yield → İ
open Function renaming comp → i!
open Int renaming add_zero → ģ, dvd_natAbs → s?, ediv_mul_cancel → Ϟ, emod_lt_of_pos → U', emod_nonneg → W9, eq_of_mul_eq_mul_left → ţ, eq_of_mul_eq_mul_right → ŝ, fdiv_eq_ediv_of_nonneg → r?, le_of_eq → _!, le_of_lt → ý, le_of_mul_le_mul_left → x?, le_of_mul_le_mul_right → ß, le_refl → h?, le_trans → ĵ, lt_or_le → yW, lt_trichotomy → U6, mul_add → Q9, mul_assoc → A?, mul_comm → ϵ, mul_ediv_cancel' → Q8, mul_eq_zero → W8, mul_le_mul_of_nonneg_right → Ó, mul_lt_mul_of_pos_left → Ŝ, mul_neg_of_neg_of_pos → x!, mul_neg_of_pos_of_neg → Ţ, mul_nonneg → è, mul_nonpos_of_nonneg_of_nonpos → Ϧ, mul_nonpos_of_nonpos_of_nonneg → ĉ, mul_one → h!, mul_pos → Ũ, mul_zero → yQ, natAbs_add_le → U5, natAbs_mul → xA, natAbs_natCast → Ģ, natAbs_neg → ä, natCast_add → W7, natCast_dvd_natCast → ŷ, one_mul → ϓ, toNat_natCast → U4, toNat_of_nonneg → ŗ, zero_mul → yR
open List renaming all_cons → Ļ, all_eq_true → yS, any_cons → ŧ, any_eq_true → Ų, any_map → D!, append_assoc → yO, append_nil → û, cons_append → ė, countP_cons → U3, drop_eq_getElem_cons → ã, drop_length → a!, drop_nil → X7, drop_of_length_le → C?, drop_zero → Ś, eq_of_mem_replicate → w!, filterMap_cons → Ŕ, filter_cons → ű, filter_eq_nil_iff → C!, filter_eq_self → Ø, find?_cons → ċ, flatMap_cons → š, flatten_cons → č, foldl → S7, foldl_append → Ϯ, foldl_cons → Õ, forIn_cons → W?, forIn_nil → W6, getD_eq_getElem?_getD → zD, getElem?_append_left → zN, getElem?_append_right → z6, getElem?_cons_succ → Ė, getElem?_eq_getElem → zF, getElem?_eq_none → í, getElem?_eq_some_iff → zB, getElem?_map → zR, getElem?_of_mem → yA, getElem?_range → ϛ, getElem?_replicate → Ă, getElem?_set → yY, getElem?_set_ne → ñ, getElem?_set_self → õ, getElem?_take_of_lt → Ŧ, getElem?_zipIdx → ō, getElem?_zip_eq_some → Ş, getElem_inj → Ű, getElem_mem → Į, getElem_range → S6, isEmpty_iff → ë, length → ŀ, length_append → zV, length_cons → yZ, length_drop → ů, length_filter_le → Ņ, length_map → zH, length_nil → W!, length_range → ô, length_replicate → ń, length_set → ç, length_singleton → ϊ, length_take → ĕ, length_zip → Ą, length_zipIdx → Ϡ, lookup → Ō, lookup_cons → yP, map_append → ï, map_congr_left → ķ, map_cons → zO, map_drop → ϝ, map_id' → Y6, map_map → Ù, map_nil → Ŗ, map_set → B', map_take → Ϝ, mem_append → zZ, mem_append_left → zL, mem_append_right → zK, mem_cons → zT, mem_cons_of_mem → zQ, mem_cons_self → z7, mem_filter → ú, mem_filterMap → S5, mem_flatMap → Ů, mem_map → yE, mem_map_of_mem → Ϛ, mem_of_getElem? → zW, mem_or_eq_of_mem_set → Ċ, mem_range → Ò, mem_singleton → zM, nil_append → Ĥ, nodup_append → ϭ, nodup_cons → Ŀ, nodup_nil → W5, not_mem_nil → zX, of_mem_zip → î, pairwise_append → O!, pairwise_singleton → A!, range → È, range' → ħ, range_succ → g?, replicate → É, replicate_succ → ì, set_set → B?, size_toArray → zI, sum_cons → ĺ, take_add_one → Ϭ, take_length → ĭ, take_of_length_le → Ź, take_sublist → U?, take_succ → W4, take_zero → W3, zipIdx_map → V9, zip_cons_cons → ĝ
open List.Pairwise renaming and_mem → Z9, nil → Ŏ
open Nat renaming add_assoc → ŋ, add_sub_cancel_left → Ŷ, ble → Þ, ble_eq_true_of_le → yM, div_add_mod → œ, dvd_trans → Y5, eq_of_testBit_eq → Q7, eq_one_of_mul_eq_one_left → g!, eq_zero_or_pos → U!, gcd → ă, gcd_comm → Z8, gcd_dvd_left → V8, gcd_dvd_right → U2, le_add_right → d!, le_antisymm → ſ, le_of_ble_eq_true → zS, le_of_eq → ϴ, le_of_lt → y0, le_of_not_lt → V7, le_of_succ_le → ď, le_refl → zP, le_succ → f?, le_total → ϳ, le_trans → z5, log2_lt → Ĉ, lt_add_of_pos_right → ŵ, lt_irrefl → xB, lt_log2_self → V6, lt_of_le_of_lt → yN, lt_of_lt_of_le → zJ, lt_or_ge → yV, lt_succ_of_le → ϲ, lt_succ_self → Ĵ, lt_trans → M?, min_eq_left → ð, min_eq_right → c?, mod_eq_of_lt → c!, mod_lt → ŉ, mod_pow_succ → V0, mod_two_eq_zero_or_one → q?, mul_le_mul → ś, mul_le_mul_right → ϑ, ne_of_gt → ĳ, ne_of_lt → zU, one_le_two_pow → ϥ, one_mul → e?, or_lt_two_pow → á, pow_add → ť, pow_le_pow_right → Ý, pow_lt_pow_right → Ī, pow_succ → ż, strongRecOn → W2, sub_zero → M!, succ_mul → L', succ_pos → L?, testBit_and → W1, testBit_div_two_pow → B!, testBit_eq_decide_div_mod_eq → Ď, testBit_or → q!, testBit_xor → ê, two_pow_pos → Ñ, xor_assoc → Ú, xor_comm → ϱ, xor_lt_two_pow → T9, xor_self → ć, xor_zero → Ń, zero_add → L!, zero_le → Ő, zero_testBit → V?, zero_xor → ϰ
open Ne renaming symm → æ
open Option renaming bind → ž, bind_some → Â, getD_none → S4, getD_some → ϫ, isSome_iff_exists → Ķ, isSome_map → ł, isSome_some → N?, map_eq_some_iff → zE, map_some → Æ, none → Á, some → À, toList_some → ϙ
open Option.some renaming inj → yF
open PyProof.Rows renaming AllBare → ϔ, Call_ → M', Constant_none → R!, IntsAre → ϒ, boot_range → b!, callWith_builtin1 → _8, callWith_type1 → Ö, envOfC → a?, evalArgs_kwB → _7, get?_update_seq → _2, kws_cons → _6, kws_nil → _5, seqObj → Ż, sub_tuple_tuple → _1, subscriptTail → P?, subscriptTail_builtinR → T4
open PySem renaming Addr → Ç, Arguments → ϯ, Around → Č, BindsTo → E!, BoolOp → N!, Builtin → D', CmpOp → ϧ, Env → U7, Expr → Î, Fin → T6, FuncData → Ĕ, Heap → é, IsRangeIter → w?, Keyword → Ŋ, NameKind → Ŭ, Obj → Z7, Operator → Ġ, Paired → T8, PassesOwn → Ϫ, PlainAttrs → K?, Pos → ĥ, Program → Ô, PyData → ň, Reads → Ÿ, ReadsAll → k!, Scope → ğ, Sem → Z5, Shared → Ê, Stmt → ľ, Str → Í, Value → Å, Within → z?, World → Ü, argsOk → J?, assignEach → â, atKey → J!, attributeBase → Ě, backTo → ā, backToKw → Ň, behindInMarks → Ϲ, binaryOp → ύ, bindArgs → I?, bindC → S?, bindL → S!, bootBuiltins → ò, builtinsNs → ę, cLine → ř, call → Q5, callWith → Ū, call_list_range → _3, call_meets → ϐ, callerA → Ϗ, cellsFrom → Ē, closureFor → X4, codeAny → ņ, codeAny_builtin → Ϙ, codeAny_call_builtin → V!, codeAny_mono → ş, compareOp → đ, defaultsOf → X3, foldedSetIterable → ü, getItem → T5, getMethod → Ť, isTrue → I!, keywordEach → ē, letOwnedTupleGo → ϗ, mainGlobals → Ð, mem_of_lookup → Ĳ, newEnv → X1, newFunctionEnv → H?, numAt → H!, numAt_eq → U9, nums_intItems → Q0, plainId_quiet → Q?, pushCells → ό, pushCells_keeps → z!, pyNext → G!, rangeSize_one → Q!, rawInt → F?, recursionLimit → ϣ, seqIndex_neg → j?, seqIndex_of → t?, seqItems? → Z?, setItem → Ϩ, sizeLine → Ì, sizeLine_eq → Ϣ, sliceBounds → Ř, small_one → Z!, standAt → ŕ, starEach → Ë, swappedStores → ϸ, swapsWith → Ľ, swapsWithSole → Ϸ, sysModules → Ę, tupleKind → ϋ, tupleKind_room_in1 → ũ, typeIs_int → X0, unaryOp → Y0, updateSeq → R8, valueAt → j!, wpAny → Ï, wpAny_Call_Name_kw → Ā, wpAny_Name → X', wpAny_assign_Name → Y?, wpAny_bind → yG, wpAny_call → F!, wpAny_comprehension_free → P!, wpAny_execs_nil → y?, wpAny_getItem_list_neg → T0, wpAny_holding → yT, wpAny_letGo → ϡ, wpAny_loadPart' → ϖ, wpAny_mono → yU, wpAny_passesOwn → Ħ, wpAny_pure → yH, wpAny_pyIter_enum → i?, wpAny_pyIter_list → Ĭ, wpAny_pyIter_range → X?, wpAny_pyIter_rangeiter → T?, wpAny_pyIter_zip → Y9, wpAny_pyNext_list_end → U0, wpAny_pyNext_list_item → T!, wpAny_pyNext_range_end → S9, wpAny_seqItems → E?, wpAny_specialOf → _0, wpAny_standAt → ź, wpAny_truthy_bool → ī, wpAny_tryCatch → ĸ, wpAny_updateSeq → ϕ
open PySem.AutoSeq1 renaming wpAny_loadPart' → ı
open PySem.Builtin renaming bitAnd → Ł, bitNot → d?, bitOr → n!, bitXor → Ž
open PySem.Builtin.Builtins renaming bindParams → ώ
open PySem.Builtin.Dict renaming pendingCount → _9
open PySem.Builtin.Int renaming intBits → þ
open PySem.Builtin.List renaming listTooLong → ù
open PySem.Builtin.Range renaming rangeSize → ĩ, small → _'
open PySem.Builtin.SmallTypes renaming fitsIndex → ļ
open PySem.Challenge renaming pw_telltight_k93_whole_heaps_keep_what_foll → X6
open PySem.F renaming entry_min_loop → ū, plainAttrs_int → p?, plainAttrs_list → ÿ, plain_min_loop → ą, slot_dict_len → v!, slot_int_bit_length → ϻ, slot_list_append → m?, slot_list_count → Š, slot_list_extend → l?, type_int_bit_length → Ϻ, type_list_append → l!, type_list_count → n?, type_list_extend → k?
open PySem.Heap renaming ExtBut → _?, SameBut → į, get?_push_of_some → zG, get?_push_size → zY, get?_update_other → D?, lt_size → yK, size_push → Ĩ
open PySem.Heap.IsSliceOf renaming new → Y7
open PySem.Heap.SameBut renaming refl → t!, update → ų
open PySem.NameKind renaming cell → ě, free → Û
open PySem.Obj renaming mapSeq → ġ
open PySem.PyData renaming canLay0 → e!, canLayAll0 → Q6, depth → v?, depthAll → T7, eqv → å, int → ŭ
open PySem.Reads renaming unique → p!
open PySem.SeqAt renaming eqAt_reads → b?
open PySem.Str renaming ofString → Ć
open PySem.Value renaming bool → Q4, bytes → Y4, float → Y3, int → u?, isInt → K!, isStrOf → o?, none → Ŵ, ref → ó, str → u!, type → Q3
open PySem.W renaming CodeHd → X8, Frag → à, OpenLaw → S3, WalkO → U1, callWith_K → X5, callWith_K0 → A', codeIn → Ϥ, emptyDict → Œ, findIn → ő, hasDictIn → R9, instObj → ϩ, keepIn → Ĺ, makesIn → Y2, methodCall_KW → Q2, methodObj → Z0, mg_of → Y1, plainGet → G?, plainGet_of → U8, plainOver → Z', tabObj → T1
open PySem.W.Looks renaming here → Z6
open PySem.Within renaming cons → _4
open Option (bind_some map_some)
open PySem.W (CodeHd Frag InitBack InstAt TabsAt any_some bind_fn callWith_K cellsFrom_some codeHdIn codeHd_of_K codeIn codeRec_of emptyDict findIn findObj_own fnOf get_value handedIn hasDictIn hideAll hideAll_get hideAll_none hideAll_size instObj isFn keepIn ki_setAt ki_setBack kla_callFunE kla_codeExpr kla_eval kla_fn kla_makeFunction kla_makeFunctionHit km_in_of km_tabs_of lookIn looks_clsIn looks_findIn make_core makesIn makes_of mem_of_lookupK methodCall_KW methodObj method_fn mg_none_of mg_of noTabs nsIn of_hideAll osa_open plainGet plainGet_of plainOver set_plain tabObj takerIn truthy_bytes typeIn)
theorem Ax0(_:True:=by decide):True:=trivial
theorem Ax1(_:True:=by first|exact .inl rfl|exact .inr rfl|assumption):True:=trivial
theorem Ax2(_:True:=by rfl):True:=trivial
theorem Ax3(_:True:=by intro _;rfl):True:=trivial
theorem oM{p:Prop}(h:p:=by first|lia|omega|(refine @id (@Ne Nat _ _) ?_;omega)):p:=h
theorem dC{p:Prop}(h:autoParam (p) Ax0._auto_1):p:=h
set_option Elab.async false
set_option linter.all false
set_option maxRecDepth 100000
theorem zA{α c}{o:Option α}{f:α->Option c}{b}:o.bind f=À b->∃a,o=À a∧f a=À b:=Option.bind_eq_some_iff.mp
theorem yB:type_of% @decide_eq_false:=@decide_eq_false
theorem yD:type_of% @decide_eq_true_eq:=@decide_eq_true_eq
theorem yI:type_of% @if_neg:=@if_neg
theorem yJ:type_of% @if_pos:=@if_pos
theorem yL:type_of% @eq_of_beq:=@eq_of_beq
theorem yX:type_of% @decide_eq_true:=@decide_eq_true
namespace L2
open PySem PySem.Spec PyProof.Rows
abbrev bv:=Sum Int Í
def je:bv->Å->Bool
 |.inl k,v=>K! k v
 |.inr x,v=>o? x v
def NS(w:Ü):bv->Int
 |.inl k=>hashInt k
 |.inr x=>hashStr w x
theorem dq:∀{k:bv}{v:Å},je k v=Ã->(∃i t,k=Sum.inl i/\v=u? i t)\/(∃x t,k=Sum.inr x/\v=u! x t)
 |.inl i,v,h=>by
  obtain⟨t,e⟩:=Value.isInt_shape (k:=i) (v:=v) h;exact .inl ⟨i,t,rfl,e⟩
 |.inr x,v,h=>by
  obtain⟨t,e⟩:=Value.isStrOf_shape (x:=x) (v:=v) h;exact .inr ⟨x,t,rfl,e⟩
theorem Ar(i:Int)(t:Tok):je (.inl i) (.int i t)=Ã:=by simp[je,K!]
theorem Ap(x:Í)(t:Tok):je (.inr x) (.str x t)=Ã:=by simp[je,o?]
theorem IZ(a b:Int):decide ((Sum.inl a:bv)=Sum.inl b)=(a==b):=by
 by_cases e:a=b
 ·subst e;simp
 ·have h:¬(Sum.inl a:bv)=Sum.inl b:=fun q=>e (Sum.inl.inj q)
  rw[yB h];exact(beq_eq_false_iff_ne.mpr e).symm
theorem IW(a b:Í):decide ((Sum.inr a:bv)=Sum.inr b)=decide (a=b):=by
 by_cases e:a=b
 ·subst e;simp
 ·have h:¬(Sum.inr a:bv)=Sum.inr b:=fun q=>e (Sum.inr.inj q)
  rw[yB h,yB e]
theorem IY(a:Int)(b:Í):decide ((Sum.inl a:bv)=Sum.inr b)=Ä:=yB (fun q=>nomatch q)
theorem IX(a:Í)(b:Int):decide ((Sum.inr a:bv)=Sum.inl b)=Ä:=yB (fun q=>nomatch q)
def cO(prog:Ô)(w:Ü):PySem.KeyKind prog w bv where
 is:=je
 hash:=NS w
 inj:=fun v a b ha hb=>by
  rcases dq ha with⟨i,t,rfl,rfl⟩|⟨x,t,rfl,rfl⟩
  ·rcases dq hb with⟨j,u,rfl,e⟩|⟨y,u,rfl,e⟩
   ·injection e with e1 _;rw[e1]
   ·exact nomatch e
  ·rcases dq hb with⟨j,u,rfl,e⟩|⟨y,u,rfl,e⟩
   ·exact nomatch e
   ·injection e with e1 _;rw[e1]
 byValue:=fun k v h=>by
  rcases dq h with⟨i,t,rfl,rfl⟩|⟨x,t,rfl,rfl⟩<;>rfl
 pyHash:=fun hv h=>by
  rcases dq hv with⟨i,t,rfl,rfl⟩|⟨x,t,rfl,rfl⟩
  ·exact wpAny_pyHash_int h
  ·exact wpAny_pyHash_str h
 eqBool:=fun hu hv h=>by
  rcases dq hu with⟨i,t,rfl,rfl⟩|⟨x,t,rfl,rfl⟩
  ·rcases dq hv with⟨j,u,rfl,rfl⟩|⟨y,u,rfl,rfl⟩
   ·rw[IZ]at h;exact wpAny_eqBool_int h
   ·rw[IY]at h;exact SeqAt.EqAt.int_str i t y u _ _ _ _ h
  ·rcases dq hv with⟨j,u,rfl,rfl⟩|⟨y,u,rfl,rfl⟩
   ·rw[IX]at h;exact SeqAt.EqAt.str_int x t j u _ _ _ _ h
   ·rw[IW]at h;exact wpAny_eqBool_str h
 «strs»:=fun k x t v h=>by
  rcases dq h with⟨i,u,rfl,e⟩|⟨y,u,rfl,e⟩
  ·exact nomatch e
  ·injection e with e1 _
   subst e1;cases v<;>rfl
theorem vp(prog:Ô)(w:Ü)(i:Int)(t:Tok):(cO prog w).is (.inl i) (.int i t)=Ã:=Ar i t
theorem vo(prog:Ô)(w:Ü)(x:Í)(t:Tok):(cO prog w).is (.inr x) (.str x t)=Ã:=Ap x t
inductive V where
 |non|bl (b:Bool)|int (i:Int)|str (x:Í)|byt (b:Array UInt8)|flt (b:UInt64)|ref (a:Ç)|ty (n:String)
 deriving DecidableEq
def RelV:V->Å->Prop
 |.non,u=>u=Ŵ
 |.bl b,u=>u=Q4 b
 |.int i,u=>∃t,u=u? i t
 |.str x,u=>∃t,u=u! x t
 |.byt b,u=>∃t,u=Y4 b t
 |.flt b,u=>∃t,u=Y3 b t
 |.ref a,u=>u=ó a
 |.ty n,u=>u=Q3 n
abbrev Vals:List V->List Å->Prop:=T8 RelV
theorem Vals.length{xs:List V}{us:List Å}(r:Vals xs us):xs.length=us.length:=Paired.length r
theorem Vals.get:∀{xs:List V}{us:List Å}{i:Nat}{x:V},Vals xs us->xs[i]?=À x->∃u,us[i]?=À u/\RelV x u
 |_,_,_,_,.nil,e=>by simp at e
 |_,_,0,_,.cons r _,e=>by simp at e;subst e;exact⟨_,rfl,r⟩
 |_,_,i+1,x,.cons _ t,e=>by
  obtain⟨u,h1,h2⟩:=Vals.get (i:=i) (x:=x) t (by simpa using e);exact⟨u,by simpa using h1,h2⟩
theorem Vals.set(r:RelV x u):∀{xs:List V}{us:List Å} (i:Nat),Vals xs us->Vals (xs.set i x) (us.set i u)
 |_,_,_,.nil=>.nil
 |_,_,0,.cons _ t=>.cons r t
 |_,_,i+1,.cons q t=>.cons q (Vals.set r i t)
theorem Vals.append:∀{xs ys:List V}{us ws:List Å},Vals xs us->Vals ys ws->Vals (xs++ys) (us++ws):=by
 intro xs ys us ws h s
 induction h with
 |nil=>exact s
 |cons r t a=>exact .cons r a
theorem Vals.take:∀{xs:List V}{us:List Å} (n:Nat),Vals xs us->Vals (xs.take n) (us.take n):=by
 intro xs us n h
 induction h generalizing n with
 |nil=>cases n<;>exact .nil
 |cons r t a=>cases n with
  |zero=>exact .nil
  |succ n=>exact .cons r (a n)
theorem Vals.drop:∀{xs:List V}{us:List Å} (n:Nat),Vals xs us->Vals (xs.drop n) (us.drop n):=by
 intro xs us n h
 induction h generalizing n with
 |nil=>cases n<;>exact .nil
 |cons r t a=>cases n with
  |zero=>exact .cons r t
  |succ n=>exact a n
def RelO:Option V->Option Å->Prop
 |some v,À u=>RelV v u
 |none,Á=>True
 |_,_=>False
def KV{a:Type}:List (a×V)->List (a×Value)->Prop:=T8 fun(p:a×V)(q:a×Value)=>p.1=q.1/\RelV p.2 q.2
def kV:bv->V
 |.inl i=>.int i
 |.inr x=>.str x
inductive HO where
  |lst (xs:List V)
  |tup (xs:List V)
  |dK (Qb:List (bv×V))|dT (Qb:List (List bv×V))
  |set (S:Int->Bool) (n:Nat)
  |ins (C dx:Ç) (fs:List (Í×V))
  |own (x:Ç)
  |xd (fs:List (Í×V))
  |met (f x:Ç)
  |rng (lo hi:Int)
  |frz (o:Z7) (u:HO)
  |tbl (ps:Array Å)
  |ext (φ:é->Prop)
abbrev Hp:=Ç->Option HO
def ai(H:Hp)(a:Ç)(o:HO):Hp:=fun b=>if b=a then À o else H b
theorem aF:ai H a o a=À o:=by unfold ai;rw[yJ rfl]
theorem ad(h:b≠a):ai H a o b=H b:=by unfold ai;rw[yI h]
theorem xa{H:Hp}{a b:Ç}{o u:HO}(h:H a=À o)(h':H b=À u)(d:o≠u):a≠b:=by
 intro e;subst e;rw[h]at h';exact d (yF h')
theorem bB{H:Hp}{a b:Ç}{o:HO}(h:H a=À o)(h':H b=Á):a≠b:=by
 intro e;subst e;rw[h]at h';cases h'
section
variable(P:Ô)(w:Ü)
def ObjOk(H:Hp)(h:é)(a:Ç):HO->Prop
 |.lst xs=>xs.length<=Ì/\∃(Qe:List Å)(n:Nat),Vals xs Qe/\h.get? a=À { cls:=.type "list",data:=.seq Qe.toArray n }
 |.tup xs=>xs.length<=Ì/\∃Qe:List Å,Vals xs Qe/\IsTup h a Qe.toArray
 |.dK Qb=>Qb.length<=Ì/\(a==Ę)=Ä/\∃vs,KV Qb vs/\h.DictOf (cO P w) a vs
 |.dT Qb=>Qb.length<=Ì/\(a==Ę)=Ä/\∃xs:List (List bv×Addr×Value),
   T8 (fun(p:List bv×V)(q:List bv×Addr×Value)=>p.1=q.1/\H q.2.1=À (.tup (p.1.map kV))/\RelV p.2 q.2.2) Qb xs /\
   ∃o es ep,h.get? a=À o/\o.ExactDict/\o.data=.dict es ep/\es.toList=xs.map (entryOfKey (ϋ (cO P w)))/\(xs.map (·.1)).Nodup
 |.set S n=>h.SetOf (intKind P w) a S n
 |.ins C dx fs=>H dx=À (.own a)/\fs.length<=1000/\dx≠a/\h.get? a=À (ϩ C dx) /\
   ∃mA,h.Ns1 dx mA/\(∀f,RelO (fs.lookup f) (mA f))/\z? mA (fs.map (·.1))
 |.own _=>∃o,h.get? a=À o
 |.xd fs=>∃mA,h.Ns1 a mA/\∀f,RelO (fs.lookup f) (mA f)
 |.rng lo hi=>∃t u v,h.get? a=À { cls:=.type "range",data:=.fields #[.int lo t,.int hi u,.int 1 v] }
 |.frz o u=>h.get? a=À o/\ObjOk H h a u
 |.tbl ps=>h.get? a=À { cls:=.none,data:=.fields ps }
 |.met f x=>h.get? a=À (Z0 (.ref f) (.ref x))
 |.ext φ=>φ h/\(∃o,h.get? a=À o)/\∀h1 h2:é,φ h1->(∀o,h1.get? a=À o->h2.get? a=À o)->φ h2
def HOk(H:Hp)(h:é):Prop:=∀a o,H a=À o->ObjOk P w H h a o
end
section
variable{P:Ô}{w:Ü}{H H':Hp}{h h':é}{a:Ç}{o:HO}
theorem ObjOk.lt(x:ObjOk P w H h a o):a<h.objs.size:=by
 cases o with
 |lst xs=>obtain⟨_,_,_,_,e⟩:=x;exact yK e
 |tup xs=>obtain⟨_,_,_,p⟩:=x;exact p.lt
 |dK Qb=>obtain⟨_,_,_,_,o,_,_,e,_⟩:=x;exact yK e
 |dT Qb=>obtain⟨_,_,_,_,o,_,_,e,_⟩:=x;exact yK e
 |set S n=>obtain⟨o,_,_,_,e,_⟩:=x;exact yK e
 |ins C dx fs=>obtain⟨_,_,_,e,_⟩:=x;exact yK e
 |own y=>obtain⟨_,e⟩:=x;exact yK e
 |xd fs=>obtain⟨_,⟨_,_,_,e,_⟩,_⟩:=x;exact yK e
 |rng lo hi=>obtain⟨_,_,_,e⟩:=x;exact yK e
 |frz ob u=>obtain⟨e,_⟩:=x;exact yK e
 | tbl ps=>exact yK (show h.get? a=À _ from x)
 | met f y=>exact yK (show h.get? a=À _ from x)
 |ext φ=>obtain⟨_,⟨_,e⟩,_⟩:=x;exact yK e
theorem Paired.mapP{α c:Type}{F G:α->c->Prop}:∀{l₁:List α}{l₂:List c},T8 F l₁ l₂->(∀a b,F a b->G a b)->T8 G l₁ l₂:=by
 intro l₁ l₂ h f
 induction h with
 |nil=>exact .nil
 |cons r t d=>exact .cons (f _ _ r) d
theorem ObjOk.stay(x:ObjOk P w H h a o)(k:∀b u,(b=a\/H b=À (.own a))->h.get? b=À u->h'.get? b=À u)
  (E:∀b,H b=À (.own a)->H' b=À (.own a)) (D:∀b xs,H b=À (.tup xs)->H' b=À (.tup xs)):ObjOk P w H' h' a o:=by
 induction o with
 |lst xs=>obtain⟨z,s,n,r,e⟩:=x;exact⟨z,s,n,r,k _ _ (.inl rfl) e⟩
 |tup xs=>obtain⟨z,s,r,g,e,c⟩:=x;exact⟨z,s,r,g,k _ _ (.inl rfl) e,c⟩
 |dK Qb=>obtain⟨z,y,B,r,g,i,j,e,c⟩:=x;exact⟨z,y,B,r,g,i,j,k _ _ (.inl rfl) e,c⟩
 |dT Qb =>
  obtain⟨z,y,xs,r,g,i,j,e,c⟩:=x;exact⟨z,y,xs,Paired.mapP r fun p q z=>⟨z.1,D _ _ z.2.1,z.2.2⟩,g,i,j,k _ _ (.inl rfl) e,c⟩
 |set S n=>obtain⟨g,i,j,t,e,c⟩:=x;exact⟨g,i,j,t,k _ _ (.inl rfl) e,c⟩
 |ins C dx fs =>
  obtain⟨d,z,ne,e,m,⟨l,i,j,F,c⟩,r⟩:=x;exact⟨E _ d,z,ne,k _ _ (.inl rfl) e,m,⟨l,i,j,k _ _ (.inr d) F,c⟩,r⟩
 |own y=>obtain⟨g,e⟩:=x;exact⟨g,k _ _ (.inl rfl) e⟩
 |xd fs=>obtain⟨m,⟨l,i,j,e,c⟩,r⟩:=x;exact⟨m,⟨l,i,j,k _ _ (.inl rfl) e,c⟩,r⟩
 |rng lo hi=>obtain⟨t,u,v,e⟩:=x;exact⟨t,u,v,k _ _ (.inl rfl) e⟩
 |frz g u ih=>obtain⟨e,q⟩:=x;exact⟨k _ _ (.inl rfl) e,ih q⟩
 |tbl ps =>
  have e:h.get? a=À { cls:=.none,data:=.fields ps }:=x;show h'.get? a=À { cls:=.none,data:=.fields ps };exact k a _ (.inl rfl) e
 |met f y =>
  have e:h.get? a=À (Z0 (.ref f) (.ref y)):=x;show h'.get? a=À (Z0 (.ref f) (.ref y));exact k a _ (.inl rfl) e
 |ext φ=>obtain⟨p,⟨o,e⟩,A⟩:=x;exact⟨A _ _ p fun o q=>k _ _ (.inl rfl) q,⟨o,k _ _ (.inl rfl) e⟩,A⟩
theorem HOk.lt(x:HOk P w H h)(e:H a=À o):a<h.objs.size:=(x a o e).lt
theorem HOk.fresh(x:HOk P w H h)(e:h.objs.size<=a):H a=Á:=by
 cases q:H a with
 |none=>rfl
 |some u=>exact absurd (zJ (x.lt q) e) (xB _)
theorem HOk.kept(x:HOk P w H h)(k:∀b u,h.get? b=À u->h'.get? b=À u):HOk P w H h':=fun a o e =>
 (x a o e).stay (fun b u _ q=>k b u q) (fun _ q=>q) fun _ _ q=>q
theorem HOk.laid(x:HOk P w H h)(k:∀b u,h.get? b=À u->h'.get? b=À u)(g:h.objs.size<=a)(new:ObjOk P w (ai H a o) h' a o):HOk P w (ai H a o) h':=fun b u e=>by
 have d:=x.fresh g;by_cases f:b=a
 ·subst f;rw[aF]at e;cases e;exact new
 ·rw[ad f]at e
  exact(x b u e).stay (fun c v _ q=>k c v q) (fun c q=>by rw[ad (bB q d)];exact q) fun c i q=>by rw[ad (bB q d)];exact q
end
def Rd(H:Hp)(a:Ç)(u:HO):Prop:=H a=À u\/∃o,H a=À (.frz o u)
theorem Rd.ok(r:Rd H a u)(x:HOk P w H h):ObjOk P w H h a u:=by
 rcases r with r|⟨o,r⟩
 ·exact x a u r
 ·obtain⟨_,q⟩:=x a _ r
  exact q
def A5:Option HO->Prop
 |some (.lst _)=>True
 |some (.dK _)=>True
 |some (.dT _)=>True
 |some (.set _ _)=>True
 |some (.ins _ _ _)=>True
 |some (.ext _)=>True
 |_=>False
section
variable{P:Ô}{w:Ü}{H:Hp}{h h':é}{x e:Ç}{o':HO}
theorem HOk.write(ok:HOk P w H h)(i:A5 (H x))(he:e=x\/H e=À (.own x))(k:∀b u,b≠e->h.get? b=À u->h'.get? b=À u)(m:∃u,h'.get? e=À u)
  (new:ObjOk P w (ai H x o') h' x o'):HOk P w (ai H x o') h':=fun b u q=>by
 have d:∀c y,H c=À (.own y)->c≠x:=fun c y r z=>by subst z;rw[r]at i;exact i
 have f:∀c g,H c=À (.tup g)->c≠x:=fun c g r z=>by subst z;rw[r]at i;exact i
 by_cases l:b=x
 ·subst l;rw[aF]at q;cases q;exact new
 ·rw[ad l]at q
  by_cases a:b=e
  ·have n:H b=À (.own x):=by
    rcases he with z|z
    ·exact absurd (a.trans z) l
    ·rw[a];exact z
   rw[q]at n;cases n;obtain⟨v,o⟩:=m;exact⟨v,by rw[a];exact o⟩
  ·refine(ok b u q).stay (fun c v j r=>k c v ?_ r) (fun c r=>by rw[ad (d c b r)];exact r) fun c g r=>by rw[ad (f c g r)];exact r
   rcases j with rfl|j
   ·exact a
   ·rintro rfl
    rcases he with z|z
    ·exact d c b j z
    ·rw[j]at z;cases z;exact l rfl
end
structure Un(fs ex:List Ç)(H H':Hp)(h h':é):Prop where
 keep:∀b o,h.get? b=À o->H b=Á->b∉fs->b∉ex->h'.get? b=À o
 slot:∀b o,h.get? b=À o->H b=Á->b∈fs->b∉ex->∃sl,h'.get? b=À { o with slots:=sl }
 free:∀b o,h.get? b=À o->H b=Á->b∉ex->H' b=Á
 there:∀b o,h.get? b=À o->b∉ex->∃o',h'.get? b=À o'
 tups:∀b xs,H b=À (.tup xs)->H' b=À (.tup xs)
 frzs:∀b o u,H b=À (.frz o u)->H' b=À (.frz o u)
 tbls:∀b ps,H b=À (.tbl ps)->∃more,H' b=À (.tbl (ps++more))
section
variable{fs fs' ex ex':List Ç}{H H1 H2:Hp}{h h1 h2 h':é}{a x e:Ç}{o:HO}
theorem Un.any(u:Un fs ex H H1 h h1){b:Ç}{a:Z7}(q:h.get? b=À a)(n:H b=Á)(c:b∉ex):∃sl,h1.get? b=À { a with slots:=sl }:=by
 by_cases d:b∈fs
 ·exact u.slot b a q n d c
 ·exact⟨a.slots,u.keep b a q n d c⟩
theorem Un.kept(k:∀b u,h.get? b=À u->h'.get? b=À u):Un fs ex H H h h' :=
 ⟨fun b a q _ _ _=>k b a q,fun b a q _ _ _=>⟨a.slots,k b a q⟩,fun _ _ _ n _=>n,fun b a q _=>⟨a,k b a q⟩,fun _ _ q=>q,fun _ _ _ q=>q,fun _ c q=>⟨#[],by rw[q];simp⟩⟩
theorem Un.refl:Un fs ex H H h h:=Un.kept fun _ _ q=>q
theorem Un.laid(k:∀b u,h.get? b=À u->h'.get? b=À u)(e:h.objs.size<=a)(c:H a=Á):Un fs ex H (ai H a o) h h' where
 keep:=fun b u q _ _ _=>k b u q
 slot:=fun b u q _ _ _=>⟨u.slots,k b u q⟩
 free:=fun b u q n _=>by rw[ad (zU (zJ (yK q) e))];exact n
 there:=fun b u q _=>⟨u,k b u q⟩
 tups:=fun b d q=>by rw[ad (bB q c)];exact q
 frzs:=fun b u d q=>by rw[ad (bB q c)];exact q
 tbls:=fun b f q=>⟨#[],by rw[ad (bB q c),q];simp⟩
theorem Un.write(c:A5 (H x))(he:e=x\/H e=À (.own x))(k:∀b u,b≠e->h.get? b=À u->h'.get? b=À u)(f:∃u,h'.get? e=À u):Un fs ex H (ai H x o) h h':=by
 have g:∀b,H b=Á->b≠x:=fun b n z=>by subst z;rw[n]at c;exact c
 have i:∀b,H b=Á->b≠e:=fun b n z=>by
  subst z;rcases he with r|r
  ·exact g b n r
  ·rw[n]at r;cases r
 have d:∀b u,H b=À u->¬A5 (À u)->b≠x:=fun b u q nm z=>by subst z;rw[q]at c;exact nm c
 refine⟨fun b u q n _ _=>k b u (i b n) q,fun b u q n _ _=>⟨u.slots,k b u (i b n) q⟩,fun b u q n _=>by rw[ad (g b n)];exact n,fun b u q _=>?_,
  fun b j q=>by rw[ad (d b _ q fun z=>z)];exact q,fun b u j q=>by rw[ad (d b _ q fun z=>z)];exact q,fun b l q=>⟨#[],by rw[ad (d b _ q fun z=>z),q];simp⟩⟩
 by_cases a:b=e
 ·subst a;exact f
 ·exact⟨u,k b u a q⟩
end
def C9(h:é)(H:Hp):List Ç:=(È h.objs.size).filter fun a=>(H a).isSome
def j8(h:é)(H:Hp):é:=hideAll h (C9 h H)
theorem Aw(h:é)(H:Hp):(j8 h H).objs.size=h.objs.size:=hideAll_size _ _
theorem CA(e:h.get? b=À o)(n:H b=Á):(j8 h H).get? b=À o :=
 hideAll_get _ e fun a=>by
  have q:(H b).isSome=Ã:=(ú.mp a).2;rw[n]at q;simp at q
theorem Fm(e:(j8 h H).get? b=À o):h.get? b=À o/\H b=Á:=by
 have a:h.get? b=À o:=of_hideAll (C9 h H) e;refine⟨a,?_⟩;cases q:H b with
 |none=>rfl
 |some x =>
  have c:b∈C9 h H:=ú.mpr ⟨Ò.mpr (yK a),by simp[q]⟩;have z:(j8 h H).get? b=Á:=hideAll_none (C9 h H) c;rw[z]at e;cases e
structure Mod(K:à)(mg:Í->Option Å)(base:é):Prop where
 kin:K.In base
 glob:base.Ns Ð mg
 blt:∃mb,base.Ns ę mb/\∀x:Í,x≠"__name__"->mb x=ò x
 nolimit:base.NoLimit
structure Cx where
 prog:Ô
 w:Ü
 K:à
 mg:Í->Option Å
 base:é
 A:Č
 N:List Í
 s₀:Ê
 H₀:Hp
 env:U7
 outer:List U7
 stack:List U7
 ex:List Ç
 fn:Í->Bool
 calm:Bool
 pn:List (Ç×Obj)
 xe:Å->Ê->Prop
noncomputable def kJ(l:List U7):List Ç:=l.filterMap (·.frame)
abbrev Cx.fs(X:Cx):List Ç:=kJ X.outer
def AY(sc:ğ)(x:Í):Prop:=sc.names.lookup x=À .local\/sc.names.lookup x=À .cell\/sc.names.lookup x=À .free
def Loc(sc:ğ)(x:Í):Prop:=sc.names.lookup x=À .local\/sc.names.lookup x=À .cell
def Oh(env:U7)(h:é)(m:Í->Option Å)(x:Í)(u:Å):Prop :=
 (env.kindOf x=À .local/\m x=À u)\/((env.kindOf x=À .cell\/env.kindOf x=À .free)/\∃c,env.cells.lookup x=À c/\h.IsCell c (À u))
structure Cx.Ok(X:Cx):Prop where
 mod:Mod X.K X.mg X.base
 kind:X.env.scope.kind=.function
 glob:X.env.globals=Ð
 blt:X.env.builtins=ę
 above:X.s₀.heap.objs.size<=X.env.locals
 inj:∀x y c,X.env.cells.lookup x=À c->X.env.cells.lookup y=À c->x=y
 has:∀x,(X.env.kindOf x=À .cell\/X.env.kindOf x=À .free)->∃c,X.env.cells.lookup x=À c
 cab:∀x c,X.fn x=Ã->X.env.cells.lookup x=À c->X.s₀.heap.objs.size<=c
 hd:X.calm=Ã->X.A.handled=Á
 frames:X.A.frames=À X.stack
 stk:X.stack=X.outer\/(X.stack=X.env::X.outer/\X.env.frame=À X.env.locals)
 exf:∀b∈X.ex,b≠X.env.locals/\∀x c,X.env.cells.lookup x=À c->c≠b
 bs:∀b o,X.base.get? b=À o->X.s₀.heap.get? b=À o/\X.H₀ b=Á
 bsz:X.base.objs.size<=X.s₀.heap.objs.size
 noex:∀b o,X.base.get? b=À o->b∉X.ex
 exfs:∀b∈X.ex,b∉X.fs
 funs:X.s₀.heap.FunFrames X.base X.outer
 frf:∀b∈X.fs,X.H₀ b=Á
structure Inv(X:Cx)(Qa:List (Ç×Obj))(σ:List (Option V))(H:Hp)(s:Ê):Prop where
 ok:X.Ok
 os:s.os=X.s₀.os
 bare:ϔ s.gens
 base:Un X.fs X.ex X.H₀ H X.s₀.heap s.heap
 loc:∃m,s.heap.Ns X.env.locals m/\∀(i:Nat)(x:Í)(v:V),X.N[i]?=À x->σ[i]?=À (À v)->AY X.env.scope x->∃u,RelV v u/\Oh X.env s.heap m x u
 cell:∀x c,X.env.cells.lookup x=À c->∃v,s.heap.IsCell c v
 free:H X.env.locals=Á
 freeC:∀x c,X.env.cells.lookup x=À c->H c=Á
 pin:∀p∈X.pn++Qa,s.heap.get? p.1=À p.2/\H p.1=Á/\p.1≠X.env.locals/\p.1∉X.fs/\∀v,p.2.data≠.cell v
 Qi:HOk X.prog X.w H s.heap
 len:σ.length=X.N.length
section
variable{X:Cx}{Qa:List (Ç×Obj)}{σ:List (Option V)}{H H':Hp}{s:Ê}{h':é}
theorem Cx.Ok.nofr(ok:X.Ok)(e:X.base.get? b=À o):b∉X.fs:=fun a=>by
 have:=(ok.funs.mem a).1
 rw[e]at this;cases this
theorem Inv.bs(I:Inv X Qa σ H s):∀b o,X.base.get? b=À o->s.heap.get? b=À o/\H b=Á:=fun b o e =>
 ⟨I.base.keep b o (I.ok.bs b o e).1 (I.ok.bs b o e).2 (I.ok.nofr e) (I.ok.noex b o e),I.base.free b o (I.ok.bs b o e).1 (I.ok.bs b o e).2 (I.ok.noex b o e)⟩
theorem Inv.bk(I:Inv X Qa σ H s):∀b o,X.base.get? b=À o->s.heap.get? b=À o:=fun b o e=>(I.bs b o e).1
theorem Inv.mod(I:Inv X Qa σ H s):Mod X.K X.mg X.base:=I.ok.mod
theorem Inv.kIn(I:Inv X Qa σ H s):X.K.In s.heap:=I.ok.mod.kin.keeps I.bk
theorem Inv.nolimit(I:Inv X Qa σ H s):s.heap.NoLimit:=I.ok.mod.nolimit.keeps I.bk
theorem Inv.lt(I:Inv X Qa σ H s):X.env.locals<s.heap.objs.size:=let⟨_,a,_⟩:=I.loc;a.lt
theorem Inv.sz(I:Inv X Qa σ H s):X.s₀.heap.objs.size<=s.heap.objs.size:=z5 I.ok.above (y0 I.lt)
theorem Inv.nofs(I:Inv X Qa σ H s)(h:s.heap.objs.size<=a):a∉X.fs:=fun c=>by
 obtain⟨_,o,b,_⟩:=I.ok.funs.mem c;exact absurd (zJ (yK b) (z5 I.sz h)) (xB _)
theorem Inv.cne(I:Inv X Qa σ H s):∀x c,X.env.cells.lookup x=À c->c≠X.env.locals:=fun x c e z=>by
 obtain⟨v,o,d,hd⟩:=I.cell x c e;obtain⟨m,⟨f,g,h,a,b,_⟩,_⟩:=I.loc;rw[z,a]at d;cases d;rw[b]at hd;cases hd
theorem Inv.funs(I:Inv X Qa σ H s):s.heap.FunFrames X.base X.outer:=by
 have all:∀(l:List U7),(∀b∈kJ l,b∈X.fs)->X.s₀.heap.FunFrames X.base l->s.heap.FunFrames X.base l:=by
  intro l
  induction l with
  |nil=>intro _ _;trivial
  |cons n r g =>
   intro f k;obtain⟨m,⟨L,o,a,j,i,hd⟩,h⟩:=k;have d:L∈X.fs:=f L (by unfold kJ;rw[Ŕ,a];exact z7);obtain⟨p,e⟩:=I.base.slot L o i (I.ok.frf L d) d fun z=>I.ok.exfs L z d
   exact⟨m,⟨L,_,a,j,e,hd⟩,g (fun b c=>f b (by unfold kJ;rw[Ŕ,a];exact zQ _ c)) h⟩
 exact all X.outer (fun _ c=>c) I.ok.funs
theorem Inv.stack(I:Inv X Qa σ H s):s.heap.FunFrames X.base X.stack:=by
 rcases I.ok.stk with e|⟨e,b⟩
 ·rw[e];exact I.funs
 ·rw[e]
  obtain⟨m,a,_⟩:=I.loc;refine .cons (by rw[I.ok.kind];decide) b a ?_ I.funs;exact Heap.get?_none_of_le (z5 I.ok.bsz I.ok.above)
theorem Inv.stkSub(I:Inv X Qa σ H s):∀b∈kJ X.stack,b∈X.env.locals::X.fs:=fun b a=>by
 rcases I.ok.stk with e|⟨e,c⟩
 ·rw[e]at a;exact zQ _ a
 ·rw[e]at a
  unfold kJ at a;rw[Ŕ,c]at a;exact a
theorem Inv.stkFree(I:Inv X Qa σ H s):∀b∈kJ X.stack,H b=Á:=fun b a=>by
 rcases zT.mp (I.stkSub b a) with e|a
 ·rw[e];exact I.free
 ·obtain⟨_,o,c,_⟩:=I.ok.funs.mem a
  exact I.base.free b o c (I.ok.frf b a) fun z=>I.ok.exfs b z a
theorem Inv.step{g':Array GenState}{t':Nat}{d':Drawn}{ch:List Ç}(I:Inv X Qa σ H s)
  (j:∀b∈ch,(b∈X.ex\/X.s₀.heap.objs.size<=b)/\b≠X.env.locals/\(∀x c,X.env.cells.lookup x=À c->c≠b)/\∀p∈X.pn++Qa,p.1≠b)
  (h:∀b o,b≠X.env.locals->b∉X.fs->b∉ch->s.heap.get? b=À o->H b=Á->h'.get? b=À o)
  (A:∀b o,b≠X.env.locals->b∈X.fs->b∉ch->s.heap.get? b=À o->H b=Á->∃sl,h'.get? b=À { o with slots:=sl }) (f:∀b o,b∉ch->s.heap.get? b=À o->H b=Á->H' b=Á)
  (B:∀b o,b∉ch->s.heap.get? b=À o->∃o',h'.get? b=À o')
  (E:∀b xs,H b=À (.tup xs)->H' b=À (.tup xs)) (J:∀b o u,H b=À (.frz o u)->H' b=À (.frz o u)) (F:∀b ps,H b=À (.tbl ps)->∃more,H' b=À (.tbl (ps++more)))
  (ns:∀m,s.heap.Ns X.env.locals m->h'.Ns X.env.locals m) (V:HOk X.prog X.w H' h') (T:ϔ g') :
  Inv X Qa σ H' { s with heap:=h',gens:=g',drawn:=d',toks:=t' }:=by
 have G:∀b o,X.s₀.heap.get? b=À o->b≠X.env.locals:=fun b o e=>zU (zJ (yK e) I.ok.above)
 have w:∀b o,X.s₀.heap.get? b=À o->b∉X.ex->b∉ch:=fun b o e a C=>by
  rcases(j b C).1 with z|z
  ·exact a z
  ·exact absurd (zJ (yK e) z) (xB _)
 have t:∀x c,X.env.cells.lookup x=À c->∀v,s.heap.IsCell c v->h'.IsCell c v:=fun x c e v M=>by
  obtain⟨o,D,hd⟩:=M;have g:c∉ch:=fun z=>(j c z).2.2.1 x c e rfl
  by_cases P:c∈X.fs
  ·obtain⟨sl,q⟩:=A c o (I.cne x c e) P g D (I.freeC x c e)
   exact⟨_,q,hd⟩
  ·exact⟨o,h c o (I.cne x c e) P g D (I.freeC x c e),hd⟩
 refine⟨I.ok,I.os,T,⟨fun b o e n C a=>?_,fun b o e n C a=>?_,fun b o e n a=>?_,fun b o e a=>?_,fun b xs e=>E b xs (I.base.tups b xs e),fun b o xs e=>J b o xs (I.base.frzs b o xs e),fun b ps e=>?_⟩,?_,fun x c e=>?_,?_,fun x c e=>?_,fun p O=>?_,V,I.len⟩
 ·exact h b o (G b o e) C (w b o e a) (I.base.keep b o e n C a) (I.base.free b o e n a)
 ·obtain⟨sl,y⟩:=I.base.slot b o e n C a
  obtain⟨L,K⟩:=A b _ (G b o e) C (w b o e a) y (I.base.free b o e n a);exact⟨L,K⟩
 ·obtain⟨o',y⟩:=I.base.there b o e a
  exact f b o' (w b o e a) y (I.base.free b o e n a)
 ·obtain⟨o',y⟩:=I.base.there b o e a
  exact B b o' (w b o e a) y
 ·obtain⟨Q,y⟩:=I.base.tbls b ps e
  obtain⟨m2,K⟩:=F b _ y;exact⟨Q++m2,by rw[K,Array.append_assoc]⟩
 ·obtain⟨m,R,S⟩:=I.loc
  refine⟨m,ns m R,fun i x v y K U=>?_⟩;obtain⟨u,r,l⟩:=S i x v y K U;refine⟨u,r,?_⟩;rcases l with l|⟨k,c,e,z⟩
  ·exact .inl l
  ·exact .inr ⟨k,c,e,t x c e _ z⟩
 ·obtain⟨v,z⟩:=I.cell x c e
  exact⟨v,t x c e v z⟩
 ·obtain⟨m,⟨o,_,_,D,_⟩,_⟩:=I.loc
  exact f _ o (fun z=>(j _ z).2.1 rfl) D I.free
 ·obtain⟨v,o,D,hd⟩:=I.cell x c e
  exact f c o (fun z=>(j c z).2.2.1 x c e rfl) D (I.freeC x c e)
 ·obtain⟨e,n,ne,N,d⟩:=I.pin p O
  have g:p.1∉ch:=fun z=>(j p.1 z).2.2.2 p O rfl
  exact⟨h p.1 p.2 ne N g e n,f p.1 p.2 g e n,ne,N,d⟩
theorem Inv.un{t':Nat}(I:Inv X Qa σ H s)(u:Un X.fs [] H H' s.heap h')(k:HOk X.prog X.w H' h'):Inv X Qa σ H' { s with heap:=h',toks:=t' }:=by
 obtain⟨m,⟨o,t,v,g,r⟩,_⟩:=id I.loc;obtain⟨l,j⟩:=u.any g I.free (by simp);exact I.step (g':=s.gens) (d':=s.drawn) (ch:=[]) (fun _ z=>nomatch z) (fun b o _ c _ e n=>u.keep b o e n c (by simp)) (fun b o _ c _ e n=>u.slot b o e n c (by simp)) (fun b o _ e n=>u.free b o e n (by simp)) (fun b o _ e=>u.there b o e (by simp)) u.tups u.frzs u.tbls (fun q i=>by
  obtain⟨p,d,f,a,h⟩:=i;rw[g]at a;cases a;exact⟨_,d,f,j,h⟩) k I.bare
theorem Inv.call{g':Array GenState}{t':Nat}{d':Drawn}{ch:List Ç}(I:Inv X Qa σ H s)(u:Un (kJ X.stack) ch H H' s.heap h')(v:HOk X.prog X.w H' h')(q:ϔ g')
  (f:∀b∈ch,(b∈X.ex\/X.s₀.heap.objs.size<=b)/\b≠X.env.locals/\(∀x c,X.env.cells.lookup x=À c->c≠b)/\∀p∈X.pn++Qa,p.1≠b) :
  Inv X Qa σ H' { s with heap:=h',gens:=g',drawn:=d',toks:=t' }:=by
 obtain⟨m,⟨o,B,C,j,r⟩,_⟩:=id I.loc;obtain⟨w,g⟩:=u.any j I.free fun z=>(f _ z).2.1 rfl
 exact I.step (ch:=ch) f (fun b o g t a e n=>u.keep b o e n (fun z=>(zT.mp (I.stkSub b z)).elim g t) a) (fun b o _ _ a e n=>u.any e n a) (fun b o a e n=>u.free b o e n a) (fun b o a e=>u.there b o e a) u.tups u.frzs u.tbls (fun A l=>by
  obtain⟨y,h,i,d,k⟩:=l;rw[j]at d;cases d;exact⟨_,h,i,g,k⟩) v q
theorem Inv.turned{t':Nat}{it:Ç}(I:Inv X Qa σ H s)(k:∀b o,b≠it->s.heap.get? b=À o->h'.get? b=À o)(h:H it=Á)(f:it≠X.env.locals)
  (w:it∈X.ex\/X.s₀.heap.objs.size<=it) (t:∀x c,X.env.cells.lookup x=À c->c≠it) (l:∀p∈X.pn++Qa,p.1≠it):Inv X Qa σ H { s with heap:=h',toks:=t' }:=by
 have d:∀b u,H b=À u->b≠it:=fun b u e z=>by rw[z,h]at e;cases e
 refine I.step (g':=s.gens) (d':=s.drawn) (ch:=[it]) (fun b j=>?_) (fun b o _ _ a e _=>k b o (fun z=>a (by simp[z])) e) (fun b o _ _ a e _=>⟨o.slots,k b o (fun z=>a (by simp[z])) e⟩) (fun _ _ _ _ n=>n)
  (fun b o a e=>⟨o,k b o (fun z=>a (by simp[z])) e⟩) (fun _ _ e=>e) (fun _ _ _ e=>e) (fun b B e=>⟨#[],by rw[e];simp⟩) (fun m i=>?_) (fun b u e=>?_) I.bare
 ·have e:b=it:=by simpa using j
  subst e;exact⟨w,f,t,l⟩
 ·obtain⟨o,y,A,g,r⟩:=i
  exact⟨o,y,A,k _ o (æ f) g,r⟩
 ·refine(I.Qi b u e).stay (fun c v a q=>k c v ?_ q) (fun _ q=>q) fun _ _ q=>q
  rcases a with z|z
  ·rw[z];exact d b u e
  ·exact d c _ z
theorem Inv.tok(I:Inv X Qa σ H s)(t:Nat):Inv X Qa σ H { s with toks:=t }:=I.un (h':=s.heap) (t':=t) Un.refl I.Qi
theorem Inv.kept{t':Nat}(I:Inv X Qa σ H s)(k:∀b u,s.heap.get? b=À u->h'.get? b=À u):Inv X Qa σ H { s with heap:=h',toks:=t' }:=I.un (Un.kept k) (I.Qi.kept k)
theorem Inv.laid{t':Nat}(I:Inv X Qa σ H s)(k:∀b u,s.heap.get? b=À u->h'.get? b=À u)(c:s.heap.objs.size<=a)(new:ObjOk X.prog X.w (ai H a o) h' a o) :
  Inv X Qa σ (ai H a o) { s with heap:=h',toks:=t' }:=I.un (Un.laid k c (I.Qi.fresh c)) (I.Qi.laid k c new)
theorem Inv.write{t':Nat}(I:Inv X Qa σ H s)(c:A5 (H x))(he:e=x\/H e=À (.own x))(k:∀b u,b≠e->s.heap.get? b=À u->h'.get? b=À u)(a:∃u,h'.get? e=À u)
  (new:ObjOk X.prog X.w (ai H x o) h' x o):Inv X Qa σ (ai H x o) { s with heap:=h',toks:=t' }:=I.un (Un.write c he k a) (I.Qi.write c he k a new)
theorem Inv.pins_of(I:Inv X Qa σ H s)(h:∀p∈pins',s.heap.get? p.1=À p.2/\H p.1=Á/\p.1≠X.env.locals/\p.1∉X.fs/\∀v,p.2.data≠.cell v):Inv X pins' σ H s :=
 ⟨I.ok,I.os,I.bare,I.base,I.loc,I.cell,I.free,I.freeC,fun p a=>(zZ.mp a).elim (fun z=>I.pin p (zL _ z)) (h p),I.Qi,I.len⟩
theorem tM{N:List Í}(c:N.Nodup){i j:Nat}{x:Í}(a:N[i]?=À x)(b:N[j]?=À x):i=j:=by
 obtain⟨g,e⟩:=zB.mp a;obtain⟨f,d⟩:=zB.mp b;exact(Ű c).mp (e.trans d.symm)
theorem qR{M:Model}{A:Č}{E:Å->Ê->Prop}{i:Nat}{x:Í}{v:V}{u:Å}{Q:Unit->Ê->Prop}(I:Inv X Qa σ H s)(hN:X.N.Nodup)(P:X.N[i]?=À x)(w:Loc X.env.scope x)(r:RelV v u)
  (h:∀s',Inv X Qa (σ.set i (À v)) H s'->(∃a,į a s.heap s'.heap/\(a=X.env.locals\/X.env.cells.lookup x=À a))->Q () s') (hf:autoParam (X.fn x=Ã\/X.env.scope.names.lookup x=À .local) Ax1._auto_1):Ï M A (storeName X.env x u) Q E s:=by
 obtain⟨m,hn,hl⟩:=id I.loc;have R:(X.env.scope.kind==.class||(X.env.scope.kind==.module&&X.env.locals !=X.env.globals))=Ä:=by rw[I.ok.kind];rfl
 have F:i<σ.length:=by rw[I.len];exact(zB.mp P).1
 have cne:=I.cne;have g:∀{a:Ç}{L:é},(∃o,s.heap.get? a=À o/\H a=Á)->į a s.heap L->HOk X.prog X.w H L:=fun {a L} ha f b ob e=>by
  obtain⟨_,_,B⟩:=ha;refine(I.Qi b ob e).stay (fun c U t q=>(f.2 c ?_).trans q) (fun _ q=>q) fun _ _ q=>q
  rintro rfl;rcases t with rfl|t
  ·rw[B]at e;cases e
  ·rw[B]at t;cases t
 rcases w with D|D
 ·refine wpAny_storeName_local D hn (fun L hn' f=>?_) R
  obtain⟨oL,_,_,hoL,_⟩:=id hn;refine h _ ⟨I.ok,I.os,I.bare,⟨fun b o e n K w=>?_,fun b o e n K w=>?_,I.base.free,fun b o e w=>?_,I.base.tups,I.base.frzs,I.base.tbls⟩,⟨_,hn',fun j y Y l C e3=>?_⟩,fun y c e=>?_,I.free,I.freeC,fun p hp=>?_,g ⟨oL,hoL,I.free⟩ f,by simpa using I.len⟩ ⟨_,f,.inl rfl⟩
  ·exact(f.2 b (zU (zJ (yK e) I.ok.above))).trans (I.base.keep b o e n K w)
  ·obtain⟨sl,l⟩:=I.base.slot b o e n K w
   exact⟨sl,(f.2 b (zU (zJ (yK e) I.ok.above))).trans l⟩
  ·obtain⟨o',l⟩:=I.base.there b o e w
   exact⟨o',(f.2 b (zU (zJ (yK e) I.ok.above))).trans l⟩
  ·by_cases G:j=i
   ·subst G
    rw[P]at l;cases l;rw[õ F]at C;cases C;exact⟨u,r,.inl ⟨D,by simp⟩⟩
   ·rw[ñ (æ G)]at C
    obtain⟨Z,r',q⟩:=hl j y Y l C e3;refine⟨Z,r',?_⟩;rcases q with⟨k,e⟩|⟨k,c,e,z⟩
    ·refine .inl ⟨k,?_⟩
     have:y≠x:=fun e=>G (tM hN l (e▸P))
     simp[this,e]
    ·exact .inr ⟨k,c,e,z.sameBut f (cne y c e)⟩
  ·obtain⟨U,z⟩:=I.cell y c e
   exact⟨U,z.sameBut f (cne y c e)⟩
  ·obtain⟨e,n,ne,nf,d⟩:=I.pin p hp
   exact⟨(f.2 p.1 ne).trans e,n,ne,nf,d⟩
 ·have J:X.fn x=Ã:=by
   rcases hf with z|z
   ·exact z
   ·rw[z]at D;cases D
  obtain⟨c,t⟩:=I.ok.has x (.inl D);obtain⟨U,z⟩:=I.cell x c t;refine wpAny_storeName_cell I.ok.kind D t z (fun L T f=>?_);obtain⟨oc,O,N⟩:=id z;refine h { s with heap:=L } ⟨I.ok,I.os,I.bare,⟨fun b o e n K w=>?_,fun b o e n K w=>?_,I.base.free,fun b o e w=>?_,I.base.tups,I.base.frzs,I.base.tbls⟩,⟨m,hn.sameBut f (æ (cne x c t)),fun j y Y l C e3=>?_⟩,fun y W e=>?_,I.free,I.freeC,fun p hp=>?_,g ⟨oc,O,I.freeC x c t⟩ f,by simpa using I.len⟩ ⟨c,f,.inr t⟩
  ·exact(f.2 b (zU (zJ (yK e) (I.ok.cab x c J t)))).trans (I.base.keep b o e n K w)
  ·obtain⟨sl,l⟩:=I.base.slot b o e n K w
   exact⟨sl,(f.2 b (zU (zJ (yK e) (I.ok.cab x c J t)))).trans l⟩
  ·obtain⟨o',l⟩:=I.base.there b o e w
   exact⟨o',(f.2 b (zU (zJ (yK e) (I.ok.cab x c J t)))).trans l⟩
  ·by_cases G:j=i
   ·subst G
    rw[P]at l;cases l;rw[õ F]at C;cases C;exact⟨u,r,.inr ⟨.inl D,c,t,T⟩⟩
   ·rw[ñ (æ G)]at C
    obtain⟨Z,r',q⟩:=hl j y Y l C e3;refine⟨Z,r',?_⟩;rcases q with q|⟨k,W,e,z'⟩
    ·exact .inl q
    ·refine .inr ⟨k,W,e,z'.sameBut f ?_⟩
     rintro rfl;exact G (tM hN l (I.ok.inj _ _ _ e t▸P))
  ·by_cases S:W=c
   ·subst S;exact⟨_,T⟩
   ·obtain⟨w2,z2⟩:=I.cell y W e
    exact⟨w2,z2.sameBut f S⟩
  ·obtain⟨e,n,ne,nf,d⟩:=I.pin p hp
   refine⟨(f.2 p.1 ?_).trans e,n,ne,nf,d⟩;intro q;rw[q,O]at e;have q':oc=p.2:=yF e;exact d U (by rw[<- q'];exact N)
theorem tm{i:Nat}(I:Inv X Qa σ H s)(d:X.N.Nodup)(b:X.N[i]?=À x)(a:Loc X.env.scope x)(r:RelV v u)
  (h:∀s',Inv X Qa (σ.set i (À v)) H s'->Q () s') (c:autoParam (X.fn x=Ã\/X.env.scope.names.lookup x=À .local) Ax1._auto_1):Ï M A (storeName X.env x u) Q E s :=
 qR I d b a r (fun s' e _=>h s' e) c
theorem Inv.call'(I:Inv X Qa σ H s)(f:s'.os=s.os)(u:Un (kJ X.stack) ch H H' s.heap s'.heap)(h:HOk X.prog X.w H' s'.heap)(g:ϔ s'.gens)
  (a:∀b∈ch,(b∈X.ex\/X.s₀.heap.objs.size<=b)/\b≠X.env.locals/\(∀x c,X.env.cells.lookup x=À c->c≠b)/\∀p∈X.pn++Qa,p.1≠b):Inv X Qa σ H' s':=by
 obtain⟨i,g',d',t',d⟩:=s';have e:d=s.os:=f;subst e;exact I.call (g':=g') (t':=t') (d':=d') u h g a
end
abbrev XK:=Å->Option Ç->Hp->Prop
abbrev St:=List (Option V)
abbrev VK:=V->Hp->Prop
abbrev TE:=St->Hp->VK->Prop
abbrev TT:=St->Hp->(Bool->Hp->Prop)->Prop
abbrev TA:=St->Hp->(List V->Hp->Prop)->Prop
structure lE where
 nx:St->Hp->Prop
 rt:VK
 bk:St->Hp->Prop:=fun _ _=>False
 ct:St->Hp->Prop:=fun _ _=>False
abbrev TS:=lE->St->Hp->Prop
def EP(X:Cx)(Qa:List (Ç×Obj))(σ:St)(Q:VK)(u:Å)(s':Ê):Prop:=∃v a,Inv X Qa σ a s'/\RelV v u/\Q v a
def TP(X:Cx)(Qa:List (Ç×Obj))(σ:St)(Q:Bool->Hp->Prop)(b:Bool)(s':Ê):Prop:=∃a,Inv X Qa σ a s'/\Q b a
def AP(X:Cx)(Qa:List (Ç×Obj))(σ:St)(Q:List V->Hp->Prop)(us:List Å)(s':Ê):Prop:=∃a b,Inv X Qa σ b s'/\Vals a us/\Q a b
def SP(X:Cx)(Qa:List (Ç×Obj))(D:lE)(f:Flow)(s':Ê):Prop :=
 match f with
 |.next=>∃a b,Inv X Qa a b s'/\D.nx a b
 |.brk=>∃a b,Inv X Qa a b s'/\D.bk a b
 |.cont=>∃a b,Inv X Qa a b s'/\D.ct a b
 |.ret u=>∃v a b,Inv X Qa a b s'/\RelV v u/\D.rt v b
def PE(X:Cx)(e:Î)(t:TE):Prop :=
 ∀(b:List (Ç×Obj))(s:Ê)(a:St)(H:Hp)(Q:VK),Inv X b a H s->t a H Q->Ï (model X.prog X.w) X.A (eval e X.env) (EP X b a Q) X.xe s
def PT(X:Cx)(e:Î)(t:TT):Prop :=
 ∀(b:List (Ç×Obj))(s:Ê)(a:St)(H:Hp)(Q:Bool->Hp->Prop),Inv X b a H s->t a H Q->Ï (model X.prog X.w) X.A (I! e X.env (eval e X.env)) (TP X b a Q) X.xe s
def PW(X:Cx)(e:Î)(t:TT):Prop :=
 ∀(a:Z5 Å)(c:List (Ç×Obj))(s:Ê)(b:St)(H:Hp)(Q:Bool->Hp->Prop),Inv X c b H s->t b H Q->Ï (model X.prog X.w) X.A (I! e X.env a) (TP X c b Q) X.xe s
theorem PW.pt(h:PW X e t):PT X e t:=h _
def PA(X:Cx)(es:List Î)(t:TA):Prop :=
 ∀(b:ĥ)(c:List (Ç×Obj))(s:Ê)(a:St)(H:Hp)(Q:List V->Hp->Prop),Inv X c a H s->t a H Q->Ï (model X.prog X.w) X.A (spliced (ā b (Ë es X.env))) (AP X c a Q) X.xe s
def PS(X:Cx)(st:ľ)(t:TS):Prop :=
 ∀(b:List (Ç×Obj))(s:Ê)(a:St)(H:Hp)(D:lE),Inv X b a H s->t D a H->Ï (model X.prog X.w) X.A (exec st X.env) (SP X b D) X.xe s
def PSs(X:Cx)(st:List ľ)(t:TS):Prop :=
 ∀(b:List (Ç×Obj))(s:Ê)(a:St)(H:Hp)(D:lE),Inv X b a H s->t D a H->Ï (model X.prog X.w) X.A (execs st X.env) (SP X b D) X.xe s
theorem aK{α:Type}{t:Z5 α}{Q Q':α->Ê->Prop}(h:Ï M A t Q E s)(b:∀a s,Q a s->Q' a s):Ï M A t Q' E s:=yU h b fun _ _ x=>x
section
variable{X:Cx}
theorem bin{a b:Î}{e d:TE}(m:PE X a e)(l:PE X b d){Qa:List (Ç×Obj)}{s:Ê}{σ:St}{H:Hp}{R:V->V->Hp->Prop}(I:Inv X Qa σ H s)(h:e σ H fun x H1=>d σ H1 fun y H2=>R x y H2)
  {α:Type}{Q:α->Ê->Prop}{f:Å->Å->Z5 α}
  (k:∀v u s2 x y H2,Inv X Qa σ H2 s2->RelV x v->RelV y u->R x y H2->Ï (model X.prog X.w) X.A (f v u) Q X.xe s2) :
  Ï (model X.prog X.w) X.A (eval a X.env) (fun v s₁=>Ï (model X.prog X.w) X.A (eval b X.env) (fun u s₂=>Ï (model X.prog X.w) X.A (f v u) Q X.xe s₂) X.xe s₁) X.xe s:=by
 refine aK (m Qa s σ H _ I h) fun v g c=>?_
 obtain⟨x,H1,o,r1,j⟩:=c;refine aK (l Qa g σ H1 _ o j) fun u s2 c=>?_
 obtain⟨y,H2,n,r2,i⟩:=c;exact k v u s2 x y H2 n r1 r2 i
noncomputable def Ni(i:Nat):TE:=fun a H Q=>∃v,a[i]?=À (À v)/\Q v H
noncomputable def tC(v:V):TE:=fun _ H Q=>Q v H
theorem HQ{i:Nat}(p:X.N[i]?=À x)(j:AY X.env.scope x)(hd:autoParam ((x==("__debug__":Í))=Ä) Ax0._auto_1)(d:autoParam ((x==("__classdict__":Í))=Ä) Ax0._auto_1):PE X (.Name x pos) (Ni i):=by
 intro q s g H Q I h;obtain⟨v,e,h⟩:=h;obtain⟨m,k,o⟩:=I.loc;obtain⟨u,r,l⟩:=o i x v p e j;have au:EP X q g Q u s:=⟨v,H,I,r,h⟩;rcases l with⟨b,n⟩|⟨b,c,f,a⟩
 ·exact X' (wpAny_loadName_local I.ok.kind b k n au) hd
 ·rcases b with b|b
  ·exact X' (wpAny_loadName_cell I.ok.kind b f a au) hd
  ·exact X' (wpAny_loadName_free I.ok.kind b f a au d) hd
theorem HY{i j pos}:PE X (.Constant (.int i) j pos) (tC (.int i)):=fun _ _ _ H _ I h=>wpAny_Constant_int ⟨.int i,H,I.tok _,⟨_,rfl⟩,h⟩
theorem K7{b j pos}:PE X (.Constant (.bool b) j pos) (tC (.bl b)):=fun _ _ _ H _ I h=>Constant_bool ⟨.bl b,H,I,rfl,h⟩
theorem HX{j pos}:PE X (.Constant .none j pos) (tC .non):=fun _ _ _ H _ I h=>R! ⟨.non,H,I,rfl,h⟩
theorem HU{x j pos}:PE X (.Constant (.str x) j pos) (tC (.str x)):=fun _ _ _ H _ I h=>Calls.Constant_str ⟨.str x,H,I.tok _,⟨_,rfl⟩,h⟩
def Gl(X:Cx)(x:Í):Prop:=X.env.kindOf x=À .globalImplicit
theorem mU(I:Inv X Qa σ H s)(b:Gl X x)(a:X.mg x=À u)(h:Q u s)
  (hd:autoParam ((x==("__debug__":Í))=Ä) Ax0._auto_1):Ï (model X.prog X.w) X.A (eval (.Name x pos) X.env) Q E s :=
 Calls.Name_function_global I.ok.kind b (Calls.loadGlobal_global (by rw[I.ok.glob];exact I.mod.glob.keeps I.bk) a h) hd
theorem d5(I:Inv X Qa σ H s)(d:Gl X x)(c:X.mg x=Á)(a:ò x=À u)(h:Q u s)
  (b:autoParam (x≠"__name__") Ax0._auto_1) (hd:autoParam ((x==("__debug__":Í))=Ä) Ax0._auto_1):Ï (model X.prog X.w) X.A (eval (.Name x pos) X.env) Q E s:=by
 obtain⟨g,f,e⟩:=I.mod.blt;exact Calls.Name_function_global I.ok.kind d (Calls.loadGlobal_builtin (by rw[I.ok.glob];exact I.mod.glob.keeps I.bk) c (by rw[I.ok.blt];exact f.keeps I.bk) ((e x b).trans a) h) hd
theorem Fh(b:Gl X x)(a:X.mg x=À u)(r:RelV v u)(hd:autoParam ((x==("__debug__":Í))=Ä) Ax0._auto_1):PE X (.Name x pos) (tC v) :=
 fun _ _ _ H _ I h=>mU I b a ⟨v,H,I,r,h⟩ hd
variable{a b:Î}{ta tb:TE}{pos:ĥ}
theorem RelV.none_iff(r:RelV x v):(v==Ŵ)=decide (x=.non):=by
 cases x with
 |non=>cases r;rfl
 |bl _=>cases r;rfl
 |int _=>obtain⟨t,rfl⟩:=r;rfl
 |str _=>obtain⟨t,rfl⟩:=r;rfl
 |byt _=>obtain⟨t,rfl⟩:=r;rfl
 |flt _=>obtain⟨t,rfl⟩:=r;rfl
 |ref _=>cases r;rfl
 |ty _=>cases r;rfl
variable{tA tB':TT}{rest:List Î}
noncomputable def Nu(t u:TT):TT:=fun a H Q=>t a H fun c b=>if c=Ã then u a b Q else Q Ä b
noncomputable def OE(t u:TT):TT:=fun a H Q=>t a H fun c b=>if c=Ã then Q Ã b else u a b Q
noncomputable def Nn(t:TT):TT:=fun a H Q=>t a H fun c b=>Q (!c) b
theorem EZ(d:PT X a tA):PW X (.BoolOp .And [a] pos) tA:=by
 intro g f s b H Q I h;refine isTrue_and (aK (d f s b H Q I h) fun c i e=>?_);cases c with
 |true=>exact isTrue_and_nil e
 |false=>exact e
theorem HB(d:PT X a tA):PW X (.BoolOp .Or [a] pos) tA:=by
 intro g f s b H Q I h;refine isTrue_or (aK (d f s b H Q I h) fun c i e=>?_);cases c with
 |false=>exact isTrue_or_nil e
 |true=>exact e
theorem HC(n:PT X a tA)(m:PW X (.BoolOp .And (b::rest) pos) tB'):PW X (.BoolOp .And (a::b::rest) pos) (Nu tA tB'):=by
 intro k g s e H Q I h;refine isTrue_and (aK (n g s e H _ I h) fun c l d=>?_);obtain⟨j,i,f⟩:=d;cases c with
 |true=>exact m k g l e j Q i f
 |false=>exact⟨j,i,f⟩
theorem KN(n:PT X a tA)(m:PW X (.BoolOp .Or (b::rest) pos) tB'):PW X (.BoolOp .Or (a::b::rest) pos) (OE tA tB'):=by
 intro k g s e H Q I h;refine isTrue_or (aK (n g s e H _ I h) fun c l d=>?_);obtain⟨j,i,f⟩:=d;cases c with
 |true=>exact⟨j,i,f⟩
 |false=>exact m k g l e j Q i f
theorem HD(d:PT X a tA):PT X (.UnaryOp .Not a pos) (Nn tA):=by
 intro e s b H Q I h;exact isTrue_not (d e s b H (fun c f=>Q (!c) f) I h)
noncomputable def Km(e d:TE):TE:=fun a H Q=>e a H fun x b=>∃c,x=.bl c/\if c=Ã then d a b Q else Q (.bl Ä) b
noncomputable def Nm(e d:TE):TE:=fun a H Q=>e a H fun x b=>∃c,x=.bl c/\if c=Ã then Q (.bl Ã) b else d a b Q
noncomputable def Kh(b:TE):TE:=fun a H Q=>b a H fun x d=>∃c,x=.bl c/\Q (.bl (!c)) d
theorem HV{c}(h:PE X a t):PE X (.BoolOp c [a] pos) t:=fun e s b H Q I d=>BoolOp_one (h e s b H Q I d)
theorem Ia(m:PE X a ta)(l:PE X (.BoolOp .And (b::rest) pos) tb):PE X (.BoolOp .And (a::b::rest) pos) (Km ta tb):=by
 intro g s f H Q I h;refine BoolOp_and (aK (m g s f H _ I h) fun v k e=>?_);obtain⟨x,j,i,r1,d⟩:=e;obtain⟨c,rfl,d⟩:=d;cases r1;refine ī ?_;cases c with
 |true=>exact l g k f j Q i d
 |false=>exact⟨.bl Ä,j,i,rfl,d⟩
theorem K3(m:PE X a ta)(l:PE X (.BoolOp .Or (b::rest) pos) tb):PE X (.BoolOp .Or (a::b::rest) pos) (Nm ta tb):=by
 intro g s f H Q I h;refine BoolOp_or (aK (m g s f H _ I h) fun v k e=>?_);obtain⟨x,j,i,r1,d⟩:=e;obtain⟨c,rfl,d⟩:=d;cases r1;refine ī ?_;cases c with
 |false=>exact l g k f j Q i d
 |true=>exact⟨.bl Ã,j,i,rfl,d⟩
theorem HW(f:PE X a ta):PE X (.UnaryOp .Not a pos) (Kh ta):=by
 intro g s e H Q I h;refine UnaryOp_ (aK (f g s e H _ I h) fun v k d=>?_);obtain⟨x,j,i,r1,b⟩:=d;obtain⟨c,rfl,b⟩:=b;cases r1;exact not_of (ī ⟨.bl (!c),j,i,rfl,b⟩)
noncomputable def OG(t:TT)(e d:TE):TE:=fun a H Q=>t a H fun c b=>if c=Ã then e a b Q else d a b Q
theorem B6(m:PT X c tA)(o:PE X a ta)(n:PE X b tb):PE X (.IfExp c a b pos) (OG tA ta tb):=by
 intro g s e H Q I h;refine wpAny_IfExp (aK (m g s e H _ I h) fun d i f=>?_);obtain⟨l,k,j⟩:=f;cases d with
 |true=>exact o g i e l Q k j
 |false=>exact n g i e l Q k j
end
def cu(K:à)(H:Hp)(a:Ç)(xs:List V):Prop :=
 Rd H a (.lst xs) \/
  ∃(o:Z7)(b:Array Å)(n:Nat),K.lookup a=À o/\o.cls=.type "list"/\o.dict=Á/\o.data=.seq b n/\b.size<=Ì/\Vals xs b.toList
def iT(K:à)(H:Hp)(a:Ç)(xs:List V):Prop :=
 Rd H a (.tup xs) \/
  ∃(o:Z7)(b:Array Å)(n:Nat),K.lookup a=À o/\o.cls=.type "tuple"/\o.data=.seq b n/\b.size<=Ì/\Vals xs b.toList
noncomputable def Oe:Å->Option V
 |.none=>À .non
 |.bool b=>À (.bl b)
 |.int i _=>À (.int i)
 |.str x _=>À (.str x)
 |.bytes b _=>À (.byt b)
 |.float b _=>À (.flt b)
 |.ref a=>À (.ref a)
 |.type n=>À (.ty n)
 |_=>Á
theorem RelV.abs(r:RelV x u):Oe u=À x:=by
 cases x with
 |non=>cases r;rfl
 |bl _=>cases r;rfl
 |int _=>obtain⟨t,rfl⟩:=r;rfl
 |str _=>obtain⟨t,rfl⟩:=r;rfl
 |byt _=>obtain⟨t,rfl⟩:=r;rfl
 |flt _=>obtain⟨t,rfl⟩:=r;rfl
 |ref _=>cases r;rfl
 |ty _=>cases r;rfl
theorem RelV.inj(r:RelV x u)(q:RelV y u):x=y:=yF (r.abs.symm.trans q.abs)
theorem Vals.inj{xs ys:List V}{us:List Å}(h:Vals xs us):Vals ys us->xs=ys:=by
 induction h generalizing ys with
 |nil=>intro a;cases a;rfl
 |cons r t d =>
  intro a;cases a with
  |cons c b=>rw[r.inj c,d b]
section
variable{X:Cx}{Qa:List (Ç×Obj)}{σ:St}{H:Hp}{s:Ê}{a:Ç}{xs ys:List V}
theorem Inv.list(I:Inv X Qa σ H s)(h:cu X.K H a xs):∃Qe:List Å,Vals xs Qe/\PlainL s.heap a Qe.toArray/\xs.length<=Ì:=by
 rcases h with h|⟨o,Qe,n,c,d,hd,b,hz,r⟩
 ·obtain⟨z,Qe,n,r,e⟩:=h.ok I.Qi
  exact⟨Qe,r,⟨_,n,e,rfl,rfl,rfl⟩,z⟩
 ·refine⟨Qe.toList,r,⟨o,n,I.kIn a o c,d,hd,by simpa using b⟩,?_⟩
  have e:=r.length;simp only[ø]at e;lia
theorem Inv.tuple(I:Inv X Qa σ H s)(h:iT X.K H a xs):∃Qe:List Å,Vals xs Qe/\IsTup s.heap a Qe.toArray/\xs.length<=Ì:=by
 rcases h with h|⟨o,Qe,n,c,d,b,hz,r⟩
 ·obtain⟨z,Qe,r,p⟩:=h.ok I.Qi
  exact⟨Qe,r,p,z⟩
 ·refine⟨Qe.toList,r,⟨o,I.kIn a o c,d,n,by simpa using b⟩,?_⟩
  have e:=r.length;simp only[ø]at e;lia
theorem Inv.list_inj(I:Inv X Qa σ H s)(h:cu X.K H a xs)(h':cu X.K H a ys):xs=ys:=by
 obtain⟨i,r,⟨o,n,e,_,_,d⟩,_⟩:=I.list h;obtain⟨b,g,⟨j,k,c,_,_,f⟩,_⟩:=I.list h';rw[e]at c;cases c;rw[d]at f;injection f with d1 _;have:i=b:=by simpa using congrArg Y! d1
 subst this;exact r.inj g
theorem Inv.tuple_inj(I:Inv X Qa σ H s)(h:iT X.K H a xs)(h':iT X.K H a ys):xs=ys:=by
 obtain⟨i,r,⟨o,e,_,n,d⟩,_⟩:=I.tuple h;obtain⟨b,g,⟨j,c,_,k,f⟩,_⟩:=I.tuple h';rw[e]at c;cases c;rw[d]at f;injection f with d1 _;have:i=b:=by simpa using congrArg Y! d1
 subst this;exact r.inj g
end
abbrev Cx.wish(X:Cx)(E:Å->Ê->Prop):Cx:={ X with xe:=E }
abbrev Cx.nox(X:Cx):Cx:=X.wish fun _ _=>False
theorem Cx.Ok.wish{X:Cx}(ok:X.Ok)(E:Å->Ê->Prop):(X.wish E).Ok :=
 ⟨ok.mod,ok.kind,ok.glob,ok.blt,ok.above,ok.inj,ok.has,ok.cab,ok.hd,ok.frames,ok.stk,ok.exf,ok.bs,ok.bsz,ok.noex,ok.exfs,ok.funs,ok.frf⟩
theorem Cx.Ok.unwish{X:Cx}{E:Å->Ê->Prop}(ok:(X.wish E).Ok):X.Ok :=
 ⟨ok.mod,ok.kind,ok.glob,ok.blt,ok.above,ok.inj,ok.has,ok.cab,ok.hd,ok.frames,ok.stk,ok.exf,ok.bs,ok.bsz,ok.noex,ok.exfs,ok.funs,ok.frf⟩
section
variable{X:Cx}{Qa:List (Ç×Obj)}{σ:St}{H:Hp}{s:Ê}{E:Å->Ê->Prop}
theorem Inv.wish(I:Inv X Qa σ H s)(E:Å->Ê->Prop):Inv (X.wish E) Qa σ H s:=⟨I.ok.wish E,I.os,I.bare,I.base,I.loc,I.cell,I.free,I.freeC,I.pin,I.Qi,I.len⟩
theorem Inv.unwish(I:Inv (X.wish E) Qa σ H s):Inv X Qa σ H s:=⟨I.ok.unwish,I.os,I.bare,I.base,I.loc,I.cell,I.free,I.freeC,I.pin,I.Qi,I.len⟩
theorem SP.unwish(h:SP (X.wish E) Qa D f s'):SP X Qa D f s':=by
 cases f with
 |next=>obtain⟨a,b,I,q⟩:=h;exact⟨a,b,I.unwish,q⟩
 |brk=>obtain⟨a,b,I,q⟩:=h;exact⟨a,b,I.unwish,q⟩
 |cont=>obtain⟨a,b,I,q⟩:=h;exact⟨a,b,I.unwish,q⟩
 |ret u=>obtain⟨v,a,b,I,r,q⟩:=h;exact⟨v,a,b,I.unwish,r,q⟩
theorem PSs.nox{st:List ľ}{t:TS}(h:PSs X.nox st t):PSs X st t:=fun c s a H D I b =>
 yU (h c s a H D (I.wish _) b) (fun _ _ q=>q.unwish) fun _ _ z=>False.elim z
end
section
variable{X:Cx}{st:ľ}{rest:List ľ}{t u:TS}{e:Î}{te:TE}{pos:ĥ}
noncomputable def Ki:TS:=fun D a H=>D.nx a H
noncomputable def Nk(t u:TS):TS:=fun D a H=>t { D with nx:=u D } a H
theorem E2:PSs X [] Ki:=fun _ _ a H _ I h=>y? ⟨a,H,I,h⟩
theorem BT(g:PS X st t)(e:PSs X rest u):PSs X (st::rest) (Nk t u):=by
 intro b s c H D I h;refine wpAny_execs_cons (aK (g b s c H { D with nx:=u D } I h) fun f d q=>?_);cases f with
 |next =>
  obtain⟨a,j,i,q⟩:=q;exact e b d a j D i q
 |ret v=>exact q
 |brk=>exact q
 |cont=>exact q
theorem Inv.quiet(I:Inv X Qa σ H s):interactive X.env=Ä:=by simp[interactive,I.ok.kind]
noncomputable def Kk(te:TE):TS:=fun D a H=>te a H fun _ b=>D.nx a b
theorem E4(he:PE X e te)(hs:autoParam (Ľ e Á pos.line X.env=pure Ä) Ax2._auto_1):PS X (.Expr e pos) (Kk te):=by
 intro c s a H D I h;exact wpAny_Expr_any (aK (he c s a H _ I h) fun v g ⟨x,f,d,r1,b⟩=>⟨a,f,d,b⟩) I.quiet hs
noncomputable def Nl(te:TE):TS:=fun D a H=>te a H D.rt
theorem HF(he:PE X e te):PS X (.Return (À e) pos) (Nl te):=by
 intro c s a H D I h;exact wpAny_Return_some (aK (he c s a H _ I h) fun v g ⟨x,f,d,r1,b⟩=>⟨x,a,f,d,r1,b⟩)
noncomputable def Np(c:TT)(t u:TS):TS:=fun D a H=>c a H fun b d=>if b=Ã then t D a d else u D a d
theorem KP(m:PT X c tc)(o:PSs X a t)(n:PSs X b u):PS X (.If c a b pos) (Np tc t u):=by
 intro g s e H D I h;refine wpAny_If (aK (m g s e H _ I h) fun d i f=>?_);obtain⟨l,k,j⟩:=f;cases d with
 |true=>exact o g i e l D k j
 |false=>exact n g i e l D k j
noncomputable def GL:TS:=fun _ _ _=>False
theorem BV:PS X st GL:=fun _ _ _ _ _ _ h=>h.elim
end
abbrev TG:=V->St->Hp->(St->Hp->Prop)->Prop
abbrev vh:=List V->St->Hp->(St->Hp->Prop)->Prop
def PG(X:Cx)(a:Î)(t:TG):Prop :=
 ∀(d:List (Ç×Obj))(s:Ê)(c:St)(H:Hp)(v:V)(u:Å)(Q:St->Hp->Prop),Inv X d c H s->RelV v u->t v c H Q ->
  Ï (model X.prog X.w) X.A (assign a X.env u) (fun _ f=>∃b e,Inv X d b e f/\Q b e) X.xe s
def rZ(X:Cx)(g:List Î)(t:vh):Prop :=
 ∀(e:List (Ç×Obj))(s:Ê)(b:St)(H:Hp)(c:List V)(d:List Å)(Q:St->Hp->Prop),Inv X e b H s->Vals c d->t c b H Q ->
  Ï (model X.prog X.w) X.A (assignInOrder ((â g X.env).map (·.2)) d) (fun _ h=>∃a f,Inv X e a f h/\Q a f) X.xe s
abbrev CY:=V->V->V->Hp->(Hp->Prop)->Prop
def xO(X:Cx)(t:CY):Prop :=
 ∀(d:List (Ç×Obj))(s:Ê)(a:St)(H:Hp)(o i v:V)(b c u:Å)(Q:Hp->Prop),Inv X d a H s->RelV o b->RelV i c->RelV v u->t o i v H Q ->
  Ï (model X.prog X.w) X.A (Ϩ b c u) (fun _ f=>∃e,Inv X d a e f/\Q e) X.xe s
abbrev JX:=V->V->Hp->VK->Prop
def DX(X:Cx)(c:Ġ)(t:JX):Prop :=
 ∀(b:List (Ç×Obj))(s:Ê)(a:St)(H:Hp)(x y:V)(v u:Å)(Q:VK),Inv X b a H s->RelV x v->RelV y u->t x y H Q ->
  Ï (model X.prog X.w) X.A (inplaceOp c v u) (EP X b a Q) X.xe s
section
variable{X:Cx}{pos:ĥ}
noncomputable def pJ(i:Nat):TG:=fun v a H Q=>Q (a.set i (À v)) H
theorem Fe{i:Nat}(d:X.N.Nodup)(b:X.N[i]?=À x)(a:Loc X.env.scope x)(c:autoParam (X.fn x=Ã\/X.env.scope.names.lookup x=À .local) Ax1._auto_1):PG X (.Name x pos) (pJ i):=by
 intro j s f H v u Q I r h;exact Y? (tm I d b a r (fun g e=>⟨_,H,e,h⟩) c)
noncomputable def N1:vh:=fun b a H Q=>b=[]/\Q a H
noncomputable def LF(t:TG)(u:vh):vh:=fun c b H Q=>∃v r,c=v::r/\t v b H fun a d=>u r a d Q
theorem Fc:rZ X [] N1:=by
 intro d s a H b c Q I r h;obtain⟨e,h⟩:=h;subst e;cases r;exact assignInOrder_nil ⟨a,H,I,h⟩
theorem BY(k:PG X e t)(j:rZ X es u)
  (hs:autoParam ((â (e::es) X.env).map (·.2)=assign e X.env::(â es X.env).map (·.2)) Ax2._auto_1):rZ X (e::es) (LF t u):=by
 intro c s d H o q Q I r h;obtain⟨v,p,l,h⟩:=h;subst l;cases r with
 |cons r g =>
  rw[hs];refine assignInOrder_cons (aK (k c s d H _ _ _ I r h) fun _ f b=>?_);obtain⟨a,n,m,i⟩:=b;exact j c f a n _ _ Q m g i
noncomputable def NZ(K:à)(n:Nat)(t:vh):TG:=fun v c H Q=>∃a b,v=.ref a/\iT K H a b/\b.length=n/\t b c H Q
theorem HN{k:Nat}{n:Nat}(x:X.calm=Ã)(h:rZ X es t)
  (q:autoParam ((â es X.env).length=n) Ax2._auto_1) (d:autoParam ((â es X.env).findIdx? (·.1)=Á) Ax2._auto_1):PG X (.Tuple es k pos) (NZ X.K n t):=by
 intro i s f H v u Q I r c;obtain⟨a,j,z,p,w,c⟩:=c;subst z;cases r;obtain⟨B,g,m,hz⟩:=I.tuple p;refine assign_Tuple_tuple (I.ok.hd x) m (by simp[q,<- w,g.length]) d fun y l=>?_
 have A:Inv X i f H { s with heap:=y }:=I.kept (t':=s.toks) fun b o e=>l b o (zU (yK e)) e
 exact h i _ f H j _ Q A (by simpa using g) c
noncomputable def N0(to b:TE)(t:CY):TG:=fun v a H Q=>to a H fun o e=>b a e fun i d=>t o i v d fun c=>Q a c
theorem HP(k:PE X o to)(l:PE X i ti)(hs:xO X t)
  (m:autoParam (∀v,assign (.Subscript o i pos) X.env v=(do
   let ov <- holding [v] (eval o X.env)
   let iv <- holding [v,ov] (eval i X.env)
   ŕ pos
   holding [v,ov,iv] (Ϩ ov iv v)
   release [v,ov,iv] [])) Ax3._auto_1):PG X (.Subscript o i pos) (N0 to ti t):=by
 intro c s b H v u Q I r h;rw[m];refine yG (yT (aK (k c s b H _ I h) fun ov e a=>?_));obtain⟨x,A,q,r1,j⟩:=a;refine yG (yT (aK (l c e b A _ q j) fun iv d a=>?_));obtain⟨y,z,p,r2,g⟩:=a;refine yG (ź (yG (yT (aK (hs c d b z x y v ov iv u _ p r1 r2 r g) fun _ B a=>?_))));obtain⟨w,n,f⟩:=a;exact wpAny_release ⟨b,w,n,f⟩
noncomputable def wR(te:TE)(g:TG):TS:=fun D a H=>te a H fun x b=>g x a b D.nx
theorem HI(he:PE X e te)(j:PG X tg g)(hs:autoParam (Ϸ [tg] e pos.line X.env=pure Ä) Ax2._auto_1)(i:autoParam (ϸ [tg] e X.env=pure Á) Ax2._auto_1)
  (k:autoParam ((â [tg] X.env).map (·.2)=[assign tg X.env]) Ax2._auto_1):PS X (.Assign [tg] e pos) (wR te g):=by
 intro c s b H D I h;refine wpAny_Assign_stores (aK (he c s b H _ I h) fun v d a=>?_) hs i;obtain⟨x,m,l,r1,f⟩:=a;rw[k];exact aK (j c d b m x v _ l r1 f) fun _ n q=>q
theorem HE{i:Nat}(j:X.N.Nodup)(f:X.N[i]?=À x)(d:Loc X.env.scope x)(he:PE X e te)(hs:autoParam (Ľ e (À (.Name x pos')) pos.line X.env=pure Ä) Ax2._auto_1)(g:autoParam (X.fn x=Ã\/X.env.scope.names.lookup x=À .local) Ax1._auto_1) :
  PS X (.Assign [.Name x pos'] e pos) (wR te (pJ i)):=by
 intro k s b H D I h;refine wpAny_Assign_Name (aK (he k s b H _ I h) fun v p a=>?_) hs;obtain⟨y,n,m,r1,c⟩:=a;exact tm m j f d r1 (fun o l=>⟨_,n,l,c⟩) g
def Kl(to e te:TE)(b:V->V->Hp->VK->Prop)(d:JX)(a:CY):TS:=fun D c H=>to c H fun o l=>e c l fun i k=>b o i k fun x j=>te c j fun y h=>d x y h fun z g=>a o i z g fun f=>D.nx c f
def C1(X:Cx)(t:V->V->Hp->VK->Prop):Prop :=
 ∀(d:List (Ç×Obj))(s:Ê)(a:St)(H:Hp)(o i:V)(b c:Å)(Q:VK),Inv X d a H s->RelV o b->RelV i c->t o i H Q ->
  Ï (model X.prog X.w) X.A (T5 b c) (EP X d a Q) X.xe s
theorem E5(F:PE X o to)(G:PE X i ti)(J:C1 X tget)(he:PE X e te)(E:DX X op tip)(hs:xO X tset)
  (K:∀ov iv new,augStore i ov iv new=(do holding [new,ov,iv] (Ϩ ov iv new);release [new,ov,iv] [];pure .next):=by intros;rfl):PS X (.AugAssign (.Subscript o i tpos) op e pos) (Kl to ti te tget tip tset):=by
 intro c s b H D I h;refine wpAny_AugAssign_SubscriptAny (aK (F c s b H _ I h) fun ov r a=>?_) K;obtain⟨g,W,Q,r1,C⟩:=a;refine aK (G c r b W _ Q C) fun iv q a=>?_
 obtain⟨f,V,P,r2,B⟩:=a;refine aK (J c q b V g f ov iv _ P r1 r2 B) fun d p a=>?_
 obtain⟨l,U,O,w,A⟩:=a;refine aK (he c p b U _ O A) fun v n a=>?_
 obtain⟨k,T,N,u,z⟩:=a;refine aK (E c n b T l k d v _ N w u z) fun new m a=>?_
 obtain⟨j,S,M,t,y⟩:=a;exact aK (hs c m b S g f j ov iv new _ M r1 r2 t y) fun _ Y ⟨R,L,x⟩=>⟨b,R,L,x⟩
noncomputable def ME(f:Int->Int->Int):JX:=fun x y H Q=>∃i j,x=.int i/\y=.int j/\Q (.int (f i j)) H
theorem Jd:DX X .Add (ME fun i j=>i+j):=by
 intro e s c H x y v u Q I r1 r2 h;obtain⟨i,j,b,a,q⟩:=h;subst b;subst a;obtain⟨t,rfl⟩:=r1;obtain⟨d,rfl⟩:=r2;exact iadd_int ⟨.int _,H,I.tok _,⟨_,rfl⟩,q⟩
theorem Jc:DX X .Sub (ME fun i j=>i-j):=by
 intro e s c H x y v u Q I r1 r2 h;obtain⟨i,j,b,a,q⟩:=h;subst b;subst a;obtain⟨t,rfl⟩:=r1;obtain⟨d,rfl⟩:=r2;exact isub_int ⟨.int _,H,I.tok _,⟨_,rfl⟩,q⟩
end
section
variable{X:Cx}{pos:ĥ}
def GJ(c:TT)(h:TS):TS:=fun D a H=>∃W:Nat->St->Hp->Prop,(∃m,W m a H)/\∀m a H,W m a H ->
 c a H fun b f=>if b=Ã then ∃N:St->Hp->Prop,(∀d g,N d g->∃e,e<m/\W e d g)/\h { D with nx:=N,ct:=N,bk:=D.nx } a f else D.nx a f
theorem BU(t:Ϫ (model X.prog X.w) X.A X.env X.xe)(K:PT X c tc)(L:PSs X body tb):PS X (.While c body [] pos) (GJ tc tb):=by
 intro q s A H D I h;obtain⟨W,⟨J,C⟩,turn⟩:=h;refine wpAny_While (codeAny_whileLoop (fun n G=>∃e z,Inv X q e z G/\W n e z) ?_ J ⟨A,H,I,C⟩);rintro n F ⟨d,y,M,B⟩;refine Ħ t (aK (K q F d y _ M (turn n d y B)) fun b E o=>?_);obtain⟨x,w,j⟩:=o;cases b with
 |true =>
  obtain⟨N,u,j⟩:=j;rw[yJ rfl];refine Ħ t (aK (L q E d x _ w j) fun f O i=>?_);cases f with
  |next =>
   obtain⟨a,g,r,l⟩:=i;obtain⟨m,p,k⟩:=u a g l;exact⟨m,p,a,g,r,k⟩
  |cont =>
   obtain⟨a,g,r,l⟩:=i;obtain⟨m,p,k⟩:=u a g l;exact⟨m,p,a,g,r,k⟩
  |brk=>exact i
  |ret v=>exact i
 |false =>
  rw[yI Ğ];exact y? ⟨d,x,w,j⟩
end
structure It where
 go:Nat->Hp->Prop
 yld:Nat->Hp->V->Hp->Prop
 stop:Nat->Hp->Prop
def eU(X:Cx)(Qa:List (Ç×Obj))(H:Hp)(b:Ç):Prop :=
 H b=Á/\b≠X.env.locals/\b∉X.fs/\(b∈X.ex\/X.s₀.heap.objs.size<=b)/\(∀x c,X.env.cells.lookup x=À c->c≠b)/\∀p∈X.pn++Qa,p.1≠b
theorem Inv.fpOk(I:Inv X Qa σ H s)(a:s.heap.objs.size<=b)(f:H' b=Á):eU X Qa H' b:=by
 refine⟨f,ĳ (zJ I.lt a),I.nofs a,.inr (z5 I.sz a),fun x c e z=>?_,fun p d z=>?_⟩
 ·obtain⟨v,q⟩:=I.cell x c e
  exact absurd (zJ q.lt (by rw[z];exact a)) (xB _)
 ·exact absurd (zJ (yK (I.pin p d).1) (by rw[z];exact a)) (xB _)
structure kn(P:Ô)(w:Ü)(K:à)(tg:Î)(J:It)(fp:List Ç)(it:Ç)(tn:Nat->é->Prop):Prop where
 mem:it∈fp
 obj:∀i h,tn i h->∀b∈fp,∃o,h.get? b=À o/\∀v,o.data≠.cell v
 keep:∀i h h',tn i h->(∀b∈fp,∀o,h.get? b=À o->h'.get? b=À o)->tn i h'
 item:∀(X:Cx),X.prog=P->X.w=w->X.K=K->X.calm=Ã->∀(i:Nat)(Qa:List (Ç×Obj))(s:Ê)(σ:St)(H:Hp)(E:Å->Ê->Prop),Inv X Qa σ H s->(∀b∈fp,eU X Qa H b)->tn i s.heap->J.go i H ->
  Ï (model P w) X.A (G! (.ref it)) (fun r s1=>∃u,r=À u /\
   Ï (model P w) X.A (ϗ tg (.ref it) u) (fun _ s2=>∃x H',Inv X Qa σ H' s2/\RelV x u/\J.yld i H x H'/\tn (i+1) s2.heap/\∀b∈fp,H' b=Á) E s1) E s
 done:∀(X:Cx),X.prog=P->X.w=w->X.K=K->X.calm=Ã->∀(i:Nat)(Qa:List (Ç×Obj))(s:Ê)(σ:St)(H:Hp)(E:Å->Ê->Prop),Inv X Qa σ H s->(∀b∈fp,eU X Qa H b)->tn i s.heap->J.stop i H ->
  Ï (model P w) X.A (G! (.ref it)) (fun r s1=>r=Á/\Inv X Qa σ H s1) E s
 self:∀(A:Č)(i:Nat)(s:Ê)(Q:Å->Ê->Prop)(E:Å->Ê->Prop),tn i s.heap->Q (.ref it) s->Ï (model P w) A (pyIter (.ref it)) Q E s
abbrev TI:=St->Hp->(It->Hp->Prop)->Prop
def J4(X:Cx)(Qa:List (Ç×Obj))(σ:St)(f:Î)(R:It->Hp->Prop)(a:Å)(s2:Ê):Prop :=
 ∃(it:Ç)(e:List Ç)(d:Nat->é->Prop)(J:It)(c:Hp),a=.ref it/\Inv X Qa σ c s2/\kn X.prog X.w X.K f J e it d/\d 0 s2.heap/\(∀b∈e,eU X Qa c b)/\R J c
def PI(X:Cx)(e a:Î)(d:TI):Prop :=
 ∀(c:List (Ç×Obj))(s:Ê)(b:St)(H:Hp)(R:It->Hp->Prop),Inv X c b H s->d b H R ->
  Ï (model X.prog X.w) X.A (eval a X.env) (fun v f=>Ï (model X.prog X.w) X.A (pyIter v) (J4 X c b e R) X.xe f) X.xe s
theorem mY(b:s.heap.get? it=À o)(d:o.cls=.type n)(hd:o.data=.fields vs)
  (c:["enumerate","zip","dict_itemiterator","dict_reverseitemiterator","odict_iterator","itertools.zip_longest","itertools.pairwise"].contains n=Ä) (a:Q () s):Ï M A (ϗ tg (.ref it) u) Q E s:=by
 unfold ϗ;cases tg<;>first
  |exact yH a
  | (cases u <;> first
    |exact yH a
    | (refine yG (wpAny_load b ?_)
       rw[d,hd];show Ï M A (if(["enumerate","zip","dict_itemiterator","dict_reverseitemiterator","odict_iterator","itertools.zip_longest","itertools.pairwise"].contains n&&vs[0]?==À (F? _))=Ã then _ else _) Q E s;rw[yI (by intro h;rw[c,Bool.false_and]at h;cases h)];exact yH a))
noncomputable def Ea(K:à)(a:Ç):It :=
 ⟨fun i H=>∃b x,cu K H a b/\b[i]?=À x,fun i H x c=>c=H/\∀b,cu K H a b->b[i]?=À x,fun i H=>∃b,cu K H a b/\b.length<=i⟩
noncomputable def DZ(K:à)(a:Ç):It :=
 ⟨fun i H=>∃b x,iT K H a b/\b[i]?=À x,fun i H x c=>c=H/\∀b,iT K H a b->b[i]?=À x,fun i H=>∃b,iT K H a b/\b.length<=i⟩
noncomputable def A7(a:Int)(n:Nat):It:=⟨fun i _=>i<n,fun i H x b=>b=H/\x=.int (a+i),fun i _=>n<=i⟩
theorem xX{P:Ô}{w:Ü}{K:à}{Q:Î}(a it:Ç):kn P w K Q (Ea K a) [it] it (fun i h=>h.IsListIter it a i) where
 mem:=by simp
 obj:=fun i h f b g=>by
  have e:b=it:=by simpa using g
  subst e;obtain⟨o,e,c,d⟩:=f;exact⟨o,e,fun v z=>by rw[d]at z;cases z⟩
 keep:=fun i h n f k=>f.at fun o e=>k it (by simp) o e
 item:=by
  intro X A t B M i N s L H E I m f y;subst A t B;obtain⟨O,x,l,r⟩:=y;obtain⟨Y,q,p,hz⟩:=I.list l;obtain⟨u,U,S⟩:=q.get r;obtain⟨J,G,V,F,D,C⟩:=m it (by simp);refine T! f p.isList (x:=u) (by simpa using U) fun n j R=>?_
  have Z:Inv X N L H { s with heap:=n }:=I.turned (t':=s.toks) (fun b o g e=>(R.2 b g).trans e) J G F D C;obtain⟨o,e,c,d⟩:=id j;exact⟨u,rfl,mY (s:={ s with heap:=n }) e c d dC ⟨x,H,Z,S,⟨rfl,fun ys T=>by rw[I.list_inj T l];exact r⟩,j,fun b g=>(m b g).1⟩⟩
 done:=by
  intro X A t B M i N s L H E I m f y;subst A t B;obtain⟨O,l,r⟩:=y;obtain⟨Y,q,p,hz⟩:=I.list l;obtain⟨J,G,V,F,D,C⟩:=m it (by simp);have hl:=q.length;exact U0 (I.ok.hd M) f p.isList (by simp;lia) fun n W=>⟨rfl,I.turned (t':=s.toks) (fun b o g e=>W b o g e) J G F D C⟩
 self:=fun _ _ _ _ _ f h=>wpAny_pyIter_listiter f h
theorem wJ{P:Ô}{w:Ü}{K:à}{R:Î}(a it:Ç):kn P w K R (DZ K a) [it] it (fun i h=>h.IsTupleIter it a i) where
 mem:=by simp
 obj:=fun i h f b g=>by
  have e:b=it:=by simpa using g
  subst e;obtain⟨o,e,c,d⟩:=f;exact⟨o,e,fun v z=>by rw[d]at z;cases z⟩
 keep:=fun i h n f k=>f.at fun o e=>k it (by simp) o e
 item:=by
  intro X A t B N i O s M H E I m f y;subst A t B;obtain ⟨Q,x,l,r⟩:=y;obtain ⟨L,q,p,hz⟩:=I.tuple l;obtain ⟨u,V,T⟩:=q.get r;obtain ⟨J,G,W,F,D,C⟩:=m it (by simp);refine wpAny_pyNext_tuple_item f (show s.heap.IsTuple a L.toArray from p) (x:=u) (by simpa using V) fun n j S=>?_
  have Z:Inv X O M H { s with heap:=n }:=I.turned (t':=s.toks) (fun b o g e=>(S.2 b g).trans e) J G F D C;obtain⟨o,e,c,d⟩:=id j;exact⟨u,rfl,mY (s:={ s with heap:=n }) e c d dC ⟨x,H,Z,T,⟨rfl,fun ys U=>by rw[I.tuple_inj U l];exact r⟩,j,fun b g=>(m b g).1⟩⟩
 done:=by
  intro X A t B N i O s M H E I m f y;subst A t B;obtain ⟨Q,l,r⟩:=y;obtain ⟨L,q,p,hz⟩:=I.tuple l;obtain ⟨J,G,W,F,D,C⟩:=m it (by simp);have hl:=q.length;exact wpAny_pyNext_tuple_end (I.ok.hd N) f (show s.heap.IsTuple a L.toArray from p) (by simp;lia) fun n Y=>⟨rfl,I.turned (t':=s.toks) (fun b o g e=>Y b o g e) J G F D C⟩
 self:=fun _ _ _ _ _ f h=>wpAny_pyIter_tupleiter f h
theorem wK{P:Ô}{w:Ü}{K:à}{J:Î}(it:Ç)(f:Int)(n:Nat):kn P w K J (A7 f n) [it] it (fun i h=>w? h it (f+(i:Nat)*1) ((n:Int)-(i:Nat)) 1) where
 mem:=by simp
 obj:=fun i h a b c=>by
  have e:b=it:=by simpa using c
  subst e;exact⟨_,a,fun v z=>by
   have G:Data.fields _=Data.cell v:=z;cases G⟩
 keep:=fun i h j a k=>k it (by simp) _ a
 item:=by
  intro X q l r p i F s C H E I g a m;subst q l r;obtain⟨B,A,N,y,x,u⟩:=g it (by simp);have W:=Walks.range (prog:=X.prog) (w:=X.w) (I.ok.hd p) it f 1 n;refine W.item i s _ _ m a fun v j D M d L=>?_
  obtain⟨t,rfl⟩:=M;have Q:Inv X F C H { s with heap:=j,toks:=D }:=I.turned (fun b o c e=>L b o (by simpa using c) e) B A y x u;refine⟨_,rfl,mY (s:={ s with heap:=j,toks:=D }) (n:="range_iterator") d rfl rfl dC ⟨.int (f+i),H,Q,⟨t,?_⟩,⟨rfl,rfl⟩,d,fun b c=>(g b c).1⟩⟩;rw[h!]
 done:=by
  intro X q l r p i F s C H E I g a m;subst q l r;obtain⟨B,A,N,y,x,u⟩:=g it (by simp);exact S9 (I.ok.hd p) a (by have:n<=i:=m;lia) fun j O=>⟨rfl,I.turned (t':=s.toks) (fun b o c e=>O b o c e) B A y x u⟩
 self:=fun _ _ _ _ _ a h=>T? a h
section
variable{X:Cx}{tg:Î}
theorem tH{a c:Int}{d:Nat}(I:Inv X Qa σ H s)(k:-(2^62)<=a)(j:a<2^62)(i:-(2^62)<=c)(h:c<2^62)
  (q:R (A7 a (c-a).toNat) H):Ï (model X.prog X.w) X.A (pyIter (.ref s.heap.objs.size)) (J4 X Qa σ tg R) E { s with heap:=s.heap.push { cls:=.type "range",data:=.fields #[.int a t,.int c u,.int 1 v] },toks:=d }:=by
 refine X? (IsRange.new ..) (Z! k j i h) ?_;have f:Inv X Qa σ H { s with heap:=s.heap.push { cls:=.type "range",data:=.fields #[.int a t,.int c u,.int 1 v] },toks:=d }:=I.kept fun b o e=>zG _ e
 refine⟨(s.heap.push { cls:=.type "range",data:=.fields #[.int a t,.int c u,.int 1 v] }).objs.size,[(s.heap.push { cls:=.type "range",data:=.fields #[.int a t,.int c u,.int 1 v] }).objs.size],_,_,H,rfl,
  f.kept (t':=d) fun b o e=>zG _ e,wK _ a (c-a).toNat,?_,fun b g=>?_,q⟩
 ·have m:a+((0:Nat):Int)*1=a:=by simp
  have l:(((c-a).toNat:Nat):Int)-((0:Nat):Int)=ĩ a c 1:=by rw[Q!];split<;>lia
  show w? _ _ (a+((0:Nat):Int)*1) ((((c-a).toNat:Nat):Int)-((0:Nat):Int)) 1;rw[m,l];exact zY _ rfl
 ·have e:b=(s.heap.push { cls:=.type "range",data:=.fields #[.int a t,.int c u,.int 1 v] }).objs.size:=by simpa using g
  subst e;exact f.fpOk (zP _) (f.Qi.fresh (zP _))
def Lx(c:TA):TI:=fun a H R=>c a H fun b d=>∃j:Int,b=[.int j]/\-(2^62)<=j/\j<2^62/\R (A7 0 j.toNat) d
def Lw(c:TA):TI:=fun a H R=>c a H fun b d=>∃i j:Int,b=[.int i,.int j]/\(-(2^62)<=i/\i<2^62/\-(2^62)<=j/\j<2^62)/\R (A7 i (j-i).toNat) d
theorem zn(k:Gl X "range")(i:X.mg "range"=Á)(l:PA X [a] ta)(hs:autoParam (Ë [a] X.env=[(Ä,eval a X.env)]) Ax2._auto_1):PI X tg (.Call (.Name "range" p) [a] [] pos) (Lx ta):=by
 intro m s d H R I h;refine M' (d5 I k i b! (Ö (aK (l pos m s d H _ I h) fun u v c=>?_) hs rfl));obtain⟨o,w,n,r1,b⟩:=c;obtain⟨j,e,b,g,q⟩:=b;subst e;cases r1 with
 |cons r f =>
  cases f;obtain⟨t,rfl⟩:=r;exact call_range_1 (tH n oM oM b g (by simpa using q))
theorem zm(u:Gl X "range")(o:X.mg "range"=Á)(v:PA X [a,b] ta)(hs:autoParam (Ë [a,b] X.env=[(Ä,eval a X.env),(Ä,eval b X.env)]) Ax2._auto_1)(c:autoParam (Ë [b] X.env=[(Ä,eval b X.env)]) Ax2._auto_1) :
  PI X tg (.Call (.Name "range" p) [a,b] [] pos) (Lw ta):=by
 intro w s g H R I h;refine M' (d5 I u o b! (Ö (aK (v pos w s g H _ I h) fun z B ⟨y,C,x,r1,f⟩=>?_) (by rw[hs,c]) (by rw[c];rfl)));obtain⟨i,j,e,⟨f,n,m,l⟩,q⟩:=f;subst e;cases r1 with
 |cons r d =>
  cases d with
  |cons k d =>
   cases d;obtain⟨t,rfl⟩:=r;obtain⟨A,rfl⟩:=k;exact call_range_2 (tH x f n m l q)
def Nq(f:TI)(g:TG)(h:TS):TS:=fun D a H=>f a H fun J k=>∃W:Nat->Nat->St->Hp->Prop,(∃m,W 0 m a k)/\∀i m a H,W i m a H ->
 (J.stop i H/\D.nx a H)\/(J.go i H/\∃N:St->Hp->Prop,(∀b c,N b c->∃e,e<m/\W (i+1) e b c)/\∀x c,J.yld i H x c->g x a c fun d j=>h { D with nx:=N,ct:=N,bk:=D.nx } d j)
noncomputable def gZ(a:List Ç)(h:é):List (Ç×Obj):=a.filterMap fun b=>(h.get? b).map fun o=>(b,o)
theorem dZ(a:b∈fp)(e:h.get? b=À o):(b,o)∈gZ fp h:=S5.mpr ⟨b,a,by rw[e];rfl⟩
theorem zu(a:p∈gZ fp h):p.1∈fp/\h.get? p.1=À p.2:=by
 obtain⟨b,c,e⟩:=S5.mp a;cases q:h.get? b with
 |none=>rw[q]at e;cases e
 |some o =>
  rw[q]at e;have d:(b,o)=p:=yF e;subst d;exact⟨c,q⟩
theorem Inv.pinned(I:Inv X Qa σ H s)(h:∀b∈fp,eU X Qa H b)(g:∀b∈fp,∃o,s.heap.get? b=À o/\∀v,o.data≠.cell v):Inv X (Qa++gZ fp s.heap) σ H s :=
 I.pins_of fun p f=>(zZ.mp f).elim (fun z=>I.pin p (zK _ z)) fun z=>by
  obtain⟨a,e⟩:=zu z;obtain⟨k,j,i,_⟩:=h p.1 a;obtain⟨o,c,d⟩:=g p.1 a;rw[e]at c;cases c;exact⟨e,k,j,i,d⟩
theorem Inv.unpinned(I:Inv X (Qa++pl) σ H s):Inv X Qa σ H s:=I.pins_of fun p a=>I.pin p (zK _ (zL _ a))
theorem zf(G:Ϫ (model X.prog X.w) X.A X.env X.xe)(hc:X.calm=Ã)(hi:PI X tg iter wi)(hg:PG X tg g)(p:PSs X body tb)
  (hs:autoParam (∀x,ü iter X.env x=pure x) Ax3._auto_1):PS X (.For tg iter body [] pos) (Nq wi g tb):=by
 intro B s V H D I h;refine wpAny_For (aK (hi B s V H _ I h) fun v s1 h1=>aK h1 fun itv s2 h2=>?_) hs;obtain⟨it,L,Y,J,H2,e,I2,T,P,f2,W,⟨m0,w0⟩,turn⟩:=h2;subst e
 have l:∀{y:Hp},(∀b∈L,y b=Á)->∀b∈L,eU X B y b:=fun hn b p=>⟨hn b p,(f2 b p).2⟩
 refine codeAny_forLoop_any (fun n s'=>∃i k y,Inv X B k y s'/\Y i s'.heap/\(∀b∈L,y b=Á)/\W i n k y) ?_ m0 ⟨0,V,H2,I2,P,fun b p=>(f2 b p).1,w0⟩;rintro n s3 ⟨i,j,M,I3,E,K,w3⟩;rcases turn i n j M w3 with⟨C,qn⟩|⟨go,N,hN,step⟩
 ·refine Ħ G (aK (T.done X rfl rfl rfl hc i B s3 j M X.xe I3 (l K) E C) fun r s4 c=>?_)
  obtain⟨R,I4⟩:=c;subst R;exact y? ⟨j,M,I4,qn⟩
 ·refine Ħ G (aK (T.item X rfl rfl rfl hc i B s3 j M X.xe I3 (l K) E go) fun r s4 c=>?_)
  obtain⟨u,R,h4⟩:=c;subst R;refine Ħ G (aK h4 fun _ Z c=>?_);obtain⟨x,H5,I5,r5,y5,A,S⟩:=c;have U:=I5.pinned (l S) (T.obj _ _ A);refine Ħ G (aK (hg _ Z j H5 x u _ U r5 (step x H5 y5)) fun _ s6 c=>?_);obtain⟨O,H6,I6,q6⟩:=c;refine Ħ G (aK (p _ s6 O H6 _ I6 q6) fun f Q z=>?_);have q:∀{a:St}{w:Hp},Inv X (B++gZ L Z.heap) a w Q->N a w->∃m,m<n/\∃i k y,Inv X B k y Q/\Y i Q.heap/\(∀b∈L,y b=Á)/\W i m k y:=fun {a w} t F=>by
   obtain⟨m',hm,w7⟩:=hN a w F;refine⟨m',hm,i+1,a,w,t.unpinned,T.keep _ _ _ A fun b p o e=>(t.pin (b,o) (zK _ (zK _ (dZ p e)))).1,fun b p=>?_,w7⟩;obtain⟨o,e,d⟩:=T.obj _ _ A b p;exact(t.pin (b,o) (zK _ (zK _ (dZ p e)))).2.1
  cases f with
  |next=>obtain⟨a,w,t,F⟩:=z;exact q t F
  |cont=>obtain⟨a,w,t,F⟩:=z;exact q t F
  |brk=>obtain⟨a,w,t,z⟩:=z;exact⟨a,w,t.unpinned,z⟩
  |ret v=>obtain⟨x7,a,w,t,r7,z⟩:=z;exact⟨x7,a,w,t.unpinned,r7,z⟩
end
abbrev R2:=V->V->Hp->VK->Prop
def mK(X:Cx)(f:Å->Å->Z5 Å)(r:R2):Prop :=
 ∀(b:List (Ç×Obj))(s:Ê)(a:St)(H:Hp)(x y:V)(v u:Å)(Q:VK),Inv X b a H s->RelV x v->RelV y u->r x y H Q ->
  Ï (model X.prog X.w) X.A (f v u) (EP X b a Q) X.xe s
def AZ(X:Cx)(f:Å->Z5 Å)(r:V->Hp->VK->Prop):Prop :=
 ∀(b:List (Ç×Obj))(s:Ê)(a:St)(H:Hp)(x:V)(v:Å)(Q:VK),Inv X b a H s->RelV x v->r x H Q ->
  Ï (model X.prog X.w) X.A (f v) (EP X b a Q) X.xe s
def dS(X:Cx)(f:Å)(r:List V->Hp->VK->Prop):Prop :=
 ∀(d:List (Ç×Obj))(s:Ê)(a:St)(H:Hp)(b:List V)(c:List Å)(Q:VK),Inv X d a H s->Vals b c->r b H Q ->
  Ï (model X.prog X.w) X.A (call f c) (EP X d a Q) X.xe s
def Og(X:Cx)(r:V->Hp->(Bool->Hp->Prop)->Prop):Prop :=
 ∀(b:List (Ç×Obj))(s:Ê)(a:St)(H:Hp)(x:V)(v:Å)(Q:Bool->Hp->Prop),Inv X b a H s->RelV x v->r x H Q ->
  Ï (model X.prog X.w) X.A (truthy v) (TP X b a Q) X.xe s
noncomputable def yg(r:R2)(c b:TE):TE:=fun a H Q=>c a H fun x e=>b a e fun y d=>r x y d Q
def Mf(r:V->Hp->VK->Prop)(b:TE):TE:=fun a H Q=>b a H fun x c=>r x c Q
def rU(g:Int->V):V->Hp->VK->Prop:=fun x H Q=>∃i,x=.int i/\Q (g i) H
section
variable{X:Cx}{a b c:Î}{ta tb tc:TE}{pos:ĥ}
theorem CS(k:PE X a ta)(j:PE X b tb){Qa:List (Ç×Obj)}{s:Ê}{σ:St}{H:Hp}{R:V->V->Hp->Prop}(I:Inv X Qa σ H s)
  (h:ta σ H fun x H1=>tb σ H1 fun y H2=>R x y H2) {Q:Å->Ê->Prop}{f:Å->Å->Z5 Å}
  (i:∀v u s2 x y H2,Inv X Qa σ H2 s2->RelV x v->RelV y u->R x y H2->Ï (model X.prog X.w) X.A (f v u) Q X.xe s2) :
  Ï (model X.prog X.w) X.A (eval a X.env) (fun v s₁=>Ï (model X.prog X.w) X.A (eval b X.env) (fun u s₂=>Ï (model X.prog X.w) X.A (f v u) Q X.xe s₂) X.xe s₁) X.xe s:=by
 refine aK (k Qa s σ H _ I h) fun v d c=>?_
 obtain⟨x,H1,m,r1,g⟩:=c;refine aK (j Qa d σ H1 _ m g) fun u s2 c=>?_
 obtain⟨y,H2,l,r2,e⟩:=c;exact i v u s2 x y H2 l r1 r2 e
theorem wW{c:Ġ}{r:R2}(g:mK X (ύ c) r)(j:PE X a ta)(i:PE X b tb):PE X (.BinOp a c b pos) (yg r ta tb):=by
 intro k s d H Q I h;exact wpAny_BinOp (CS j i I h fun v u e x y m l rx f q=>g k e d m x y v u Q l rx f q)
theorem K2(f:AZ X (Y0 op) r)(g:PE X a ta):PE X (.UnaryOp op a pos) (Mf r ta):=by
 intro c s b H Q I h;exact UnaryOp_ (aK (g c s b H _ I h) fun v d ⟨x,j,i,r1,e⟩=>f c d b j x v Q i r1 e)
def Oi(i j:Int):Prop:=0<=j/\j<=1000000/\i.natAbs<2^64
theorem wI(k:Nat):(0:Int)<=2^k:=by
 rw[two_pow_cast];exact Int.natCast_nonneg _
theorem Me{f:Å->Z5 Å}{g:Int->Int}
  (a:∀(i:Int)(t:Tok)(s:Ê)(Q:Å->Ê->Prop)(E:Å->Ê->Prop),Q (.int (g i) s.toks) { s with toks:=s.toks+1 }->Ï (model X.prog X.w) X.A (f (.int i t)) Q E s) :
  AZ X f (rU fun i=>.int (g i)):=by
 intro c s b H x v Q I rx h;obtain⟨i,rfl,q⟩:=h;obtain⟨t,rfl⟩:=rx;exact a i t s _ _ ⟨.int (g i),H,I.tok _,⟨_,rfl⟩,q⟩
theorem Gq:AZ X (Y0 .USub) (rU fun i=>.int (-i)):=Me fun _ _ _ _ _ q=>neg_int q
theorem Gr:AZ X (Y0 .Invert) (rU fun i=>.int (d? i)):=Me fun _ _ _ _ _ q=>invert_int q
end
section
variable{X:Cx}{a b c:Î}{ta tb tc:TE}{pos:ĥ}
theorem Fi(f:mK X (đ op) r)(j:PE X a ta)(i:PE X b tb)(g:Ϲ op b=Ä):PE X (.Compare a [op] [b] pos) (yg r ta tb):=by
 intro k s c H Q I h;exact wpAny_Compare1 (CS j i I h fun v u d x y m l rx e q=>f k d c m x y v u Q l rx e q) g
noncomputable def Kf(t:TE):TT:=fun a H Q=>t a H fun x b=>∃k,x=.bl k/\Q k b
theorem E1(o:mK X (đ op) r)(t:PE X a ta)(q:PE X b tb)(p:Ϲ op b=Ä):PT X (.Compare a [op] [b] pos) (Kf (yg r ta tb)):=by
 intro f s d H Q I h;refine wpAny_isTrue_Compare1 (aK (t f s d H _ I h) fun v i ⟨x,E,B,r1,n⟩=>aK (q f i d E _ B n) fun u g ⟨y,D,A,r2,m⟩ =>
  aK (o f g d D x y v u _ A r1 r2 m) fun c F ⟨z,C,w,j,k,e,l⟩=>?_) p
 subst e;cases j;exact ī ⟨C,w,l⟩
def CV(K:à)(x:V)(H:Hp)(k:Bool):Prop :=
 match x with
 |.non=>k=Ä
 |.bl b=>k=b
 |.int i=>k=(i !=0)
 |.str y=>y.length<=Ì/\k=((y.length:Int) !=0)
 |.byt y=>y.size<=Ì/\k=((y.size:Int) !=0)
 |.ref p=>(∃a,cu K H p a/\k=!a.isEmpty)\/(∃a,iT K H p a/\k=!a.isEmpty)\/∃c,H p=À (.dK c)/\k=!c.isEmpty
 |_=>False
theorem xx{a:Type}{Qb:List (a×V)}{vs:List (a×Value)}(r:KV Qb vs):(!vs.isEmpty)=!Qb.isEmpty:=by
 cases r<;>rfl
theorem pA{xs:List V}{Qe:List Å}(r:Vals xs Qe):(!Qe.toArray.isEmpty)=!xs.isEmpty:=by
 cases r<;>simp
theorem iN:(Ì:Nat)<2^63:=by rw[Ϣ];decide
theorem Gw:Og X (fun x H Q=>∃k,CV X.K x H k/\Q k H):=by
 intro B s w H x v Q I rx h;obtain⟨k,e,q⟩:=h;have A:=iN;have z:Ì=16777216:=Ϣ;cases x with
 |non =>
  cases rx;have a:k=Ä:=e;subst a;exact truthy_none ⟨H,I,q⟩
 |bl b =>
  cases rx;have a:k=b:=e;subst a;exact ī ⟨H,I,q⟩
 |int i =>
  obtain⟨t,rfl⟩:=rx;have a:k=(i !=0):=e;subst a;exact PySem.P.truthy_int ⟨H,I,q⟩
 |str y =>
  obtain⟨t,rfl⟩:=rx;obtain⟨n,a⟩:y.length<=Ì/\k=((y.length:Int) !=0):=e;subst a;exact PySem.P.truthy_str oM ⟨H,I.tok _,q⟩
 |byt y =>
  obtain⟨t,rfl⟩:=rx;obtain⟨n,a⟩:y.size<=Ì/\k=((y.size:Int) !=0):=e;subst a;exact truthy_bytes oM ⟨H,I.tok _,q⟩
 |ref p =>
  cases rx;have a:(∃d,cu X.K H p d/\k=!d.isEmpty)\/(∃d,iT X.K H p d/\k=!d.isEmpty)\/∃f,H p=À (.dK f)/\k=!f.isEmpty:=e;rcases a with⟨d,g,a⟩|⟨d,g,a⟩|⟨f,g,a⟩
  ·subst a
   obtain⟨u,r,l,hz⟩:=I.list g;have c:=r.length;exact wpAny_truthy_list l.isList (by simp only[zI];lia) ⟨H,I.tok _,by rw[pA r];exact q⟩
  ·subst a
   obtain⟨u,r,l,hz⟩:=I.tuple g;have c:=r.length;exact truthy_tuple l (by simp only[zI];lia) ⟨H,I.tok _,by rw[pA r];exact q⟩
  ·subst a
   obtain⟨hz,o,j,r,m⟩:f.length<=Ì/\(p==Ę)=Ä/\∃j,KV f j/\s.heap.DictOf (cO X.prog X.w) p j:=I.Qi p _ g;have c:f.length=j.length:=Paired.length r;exact wpAny_truthy_dict o m oM ⟨H,I.tok _,by rw[xx r];exact q⟩
 | _=>exact (show False from e).elim
theorem BS(e:PE X a ta)(he:∀whole,I! a X.env whole=(do let v <- whole;ŕ a.pos;holding [v] (truthy v))) :
  PT X a (fun σ H Q=>ta σ H fun x H'=>∃k,CV X.K x H' k/\Q k H'):=by
 intro b s σ H Q I h;exact isTrue_plain (aK (e b s σ H _ I h) fun v c ⟨x,g,f,r1,d⟩=>Gw b c σ g x v Q f r1 d) (he _)
theorem wY:mK X (ύ .Add) (fun x y H Q=>∃i j,x=.str i/\y=.str j/\i.length+j.length<=Ì/\Q (.str (i++j)) H):=by
 intro e s c H x y v u Q I rx b h;obtain⟨i,j,rfl,rfl,hz,q⟩:=h;obtain⟨t,rfl⟩:=rx;obtain⟨a,rfl⟩:=b;exact add_str (fun a d=>⟨.str (i++j),H,I.tok _,⟨_,rfl⟩,q⟩) hz
theorem gX(r:Vals [x] us):∃u,us=[u]/\RelV x u:=by
 cases r with
 |cons r1 r2=>cases r2;exact⟨_,rfl,r1⟩
theorem C6(r:Vals [x,y] us):∃u w',us=[u,w']/\RelV x u/\RelV y w':=by
 cases r with
 |cons r1 r2 =>
  cases r2 with
  |cons b a=>cases a;exact⟨_,_,rfl,r1,b⟩
theorem CO:dS X (.builtin "abs") (fun xs H Q=>∃i,xs=[.int i]/\Q (.int (if i<0 then -i else i)) H):=by
 intro d s a H xs b Q I r h;obtain⟨i,rfl,q⟩:=h;obtain⟨u,rfl,t,rfl⟩:=gX r;exact call_abs_int fun u c=>⟨.int (if i<0 then -i else i),H,I.tok _,⟨_,rfl⟩,q⟩
theorem AN(b:X.calm=Ã):dS X (.builtin "max") (fun xs H Q=>∃i j,xs=[.int i,.int j]/\Q (.int (if j > i then j else i)) H):=by
 intro m s c H xs e Q I r h;obtain⟨i,j,rfl,q⟩:=h;obtain⟨u,d,rfl,⟨t,rfl⟩,⟨g,rfl⟩⟩:=C6 r;refine max_two_ints (I.ok.hd b) fun l f k=>⟨_,H,I.kept k,?_,q⟩
 by_cases a:j > i
 ·rw[yJ a,yJ a];exact⟨_,rfl⟩
 ·rw[yI a,yI a];exact⟨_,rfl⟩
theorem AM(b:X.calm=Ã):dS X (.builtin "min") (fun xs H Q=>∃i j,xs=[.int i,.int j]/\Q (.int (if j<i then j else i)) H):=by
 intro m s c H xs e Q I r h;obtain⟨i,j,rfl,q⟩:=h;obtain⟨u,d,rfl,⟨t,rfl⟩,⟨g,rfl⟩⟩:=C6 r;refine min_two_ints (I.ok.hd b) fun l f k=>⟨_,H,I.kept k,?_,q⟩
 by_cases a:j<i
 ·rw[yJ a,yJ a];exact⟨_,rfl⟩
 ·rw[yI a,yI a];exact⟨_,rfl⟩
end
structure ObjM(h:é)(x dx C:Ç)(mA:Í->Option Å):Prop where
 obj:h.get? x=À (ϩ C dx)
 ns:h.Ns1 dx mA
 ne:dx≠x
theorem Ah{h:é}{f:Ç}{c:Í->Option Å}(n:h.Ns1 f c):∃od,h.get? f=À od/\∀name,lookIn name od=À (c name):=by
 obtain⟨o,d,m,i,hd,k,_,j⟩:=n;refine⟨o,i,fun name=>?_⟩;have e:=j name;unfold nsFind findBy at e;rw[<- Array.find?_toList]at e;unfold lookIn;rw[hd];dsimp only;split
 ·rename_i y q
  rw[q]at e;exact congrArg À e
 ·rename_i q
  rw[q]at e;have a:d.toList.any (·.refKey)=Ä:=by
   rw[List.any_eq_false];intro y g;obtain⟨z,t,b⟩:=k y (Array.mem_toList_iff.mp g);simp[DictEntry.refKey,b]
  have l:¬d.toList.any (·.refKey)=Ã:=by rw[a];exact Ğ
  rw[yI l];exact congrArg À e
theorem ObjM.look(I:ObjM h x dx C mA):∃od,InstAt h x (ϩ C dx) C (À od)/\∀name,lookIn name od=À (mA name) :=
 let⟨od,a,b⟩:=Ah I.ns
 ⟨od,⟨I.obj,rfl,rfl,a⟩,b⟩
section
variable{prog:Ô}{w:Ü}{A:Č}{E:Å->Ê->Prop}{s:Ê}{K:à}{x dx C f:Ç}{mA:Í->Option Å}{name:Í}{v:Å}
theorem FZ{a:Bool}(X:K.In s.heap)(I:ObjM s.heap x dx C mA)(f:G? K C name=Ã)(e:R9 K C=Ã)
  (g:ő K (.ref C) name=À Á) (c:mA name=À v) (b:handedIn v=Ã) (h:Q v { s with toks:=s.toks+1 }) :
  Ï (model prog w) A (getAttr (.ref x) name a) Q E s:=by
 obtain⟨i,J,d⟩:=I.look;exact get_value X J (U8 f).1 (findObj_own e g rfl (by rw[d,c])) b h
theorem CB(X:K.In s.heap)(I:ObjM s.heap x dx C mA)(a:G? K C name=Ã)
  (g:ő K (.ref C) name=À (À (.ref f))) (d:isFn K (.ref f)=Ã) (c:mA name=Á) (h:Q (.ref f,[.ref x]) s) :
  Ï (model prog w) A (Ť (.ref x) name pl) Q E s:=by
 obtain⟨b,J,e⟩:=I.look;exact method_fn X J (U8 a).1 (U8 a).2 g (beq_iff_eq.mp d) (by show(lookIn name b).map (·.isSome)=À Ä;rw[e,c];rfl) h
theorem EB(X:K.In s.heap)(I:ObjM s.heap x dx C mA)
  (hs:ő K (.ref C) "__setattr__"=À (À (.builtin "object.__setattr__"))) (m:Z' K C=Ã) (l:takerIn K C name=À Á) (n:R9 K C=Ã)
  (k:z? mA ns) (hsz:ns.length<=Ì)
  (h:∀h',ObjM h' x dx C (fun y=>if y=name then À v else mA y)->į dx s.heap h'->Q () { s with heap:=h',toks:=s.toks+2 }) :
  Ï (model prog w) A (setAttr (.ref x) name v) Q E s:=by
 obtain⟨t,J,z⟩:=I.look;refine set_plain X J hs (osa_open (s:={ s with toks:=s.toks+1 }) (r:=Á) X J m l fun b=>?_);obtain⟨B,o,g⟩:=any_some n;have j:s.heap.get? x=À ⟨.ref C,À dx,.plain,#[]⟩:=I.obj;refine yG (yH (yG (yG (wpAny_loadPart j (yG (Z6 (s:={ s with toks:=s.toks+1 }) (looks_clsIn X o) ?_))))));rw[g];refine yH (a:=À dx) (yG (yH (yG ?_)));refine wpAny_nsSet1 (s:={ s with toks:=s.toks+1 }) I.ns fun h' d c=>?_
 obtain⟨u,p,q,e,f,i⟩:=d.count (_4 name v k);refine yG (wpAny_lookBehind e (by rw[f];exact pastItsLine_dict (z5 i (by rw[yZ];lia))) ?_);exact yH (h _ ⟨(c.2 _ (æ I.ne)).trans I.obj,d,I.ne⟩ c)
theorem Cm(X:K.In s.heap)(b:Y2 K C=Ã)
  (c:ő K (.ref C) "__init__"=À (À (.ref f))) (e:typeIn K (.ref f)=À (.type "function"))
  (h:ņ (model prog w) (A.under (.builtin "type.__call__" ⟨.ref C::vs,kw⟩)) (.call (.ref f) ⟨.ref (s.heap.objs.size+1)::vs,kw⟩) (InitBack (s.heap.objs.size+1) R)
   { s with heap:=(s.heap.push Œ).push (ϩ C s.heap.objs.size) }) :
  ņ (model prog w) A (.call (.ref C) ⟨vs,kw⟩) R s:=by
 obtain⟨j,g,d,t,i⟩:=s;exact make_core (makes_of X b) (looks_findIn X c) (fun a=>bind_fn X a e) (.inl rfl) h
end
noncomputable def fj(f:Í)(v:V):List (Í×V)->List (Í×V)
 |[]=>[(f,v)]
 |(g,x)::r=>if g=f then(g,v)::r else(g,x)::fj f v r
theorem nF(f g:Í)(v:V):∀fs:List (Í×V),(fj f v fs).lookup g=if g=f then À v else fs.lookup g
 |[]=>by
  show Ō g [(f,v)]=_;by_cases h:g=f
  ·have hb:(g==f)=Ã:=beq_iff_eq.mpr h
   simp only[Ō,hb,yJ h]
  ·have hb:(g==f)=Ä:=beq_eq_false_iff_ne.mpr h
   simp only[Ō,hb,yI h]
 |(k,x)::r=>by
  have b:=nF f g v r;rw[show fj f v ((k,x)::r)=(if k=f then(k,v)::r else(k,x)::fj f v r) from rfl];by_cases a:k=f
  ·rw[yJ a]
   by_cases h:g=k
   ·have hb:(g==k)=Ã:=beq_iff_eq.mpr h
    simp only[Ō,hb,yJ (h.trans a)]
   ·have hb:(g==k)=Ä:=beq_eq_false_iff_ne.mpr h
    simp only[Ō,hb,yI (fun e:g=f=>h (e.trans a.symm))]
  ·rw[yI a]
   by_cases h:g=k
   ·have hb:(g==k)=Ã:=beq_iff_eq.mpr h
    simp only[Ō,hb,yI (fun e:g=f=>a (h.symm.trans e))]
   ·have hb:(g==k)=Ä:=beq_eq_false_iff_ne.mpr h
    simp only[Ō,hb];exact b
theorem lY(f:Í)(v:V):∀fs:List (Í×V),f∈(fj f v fs).map (·.1)/\∀g,g∈fs.map (·.1)->g∈(fj f v fs).map (·.1)
 |[]=>⟨by simp[fj],fun g h=>by simp at h⟩
 |(k,x)::r=>by
  obtain⟨i1,i2⟩:=lY f v r;rw[show fj f v ((k,x)::r)=(if k=f then(k,v)::r else(k,x)::fj f v r) from rfl];by_cases a:k=f
  ·rw[yJ a]
   subst a;exact⟨by simp,fun g h=>by simpa using h⟩
  ·rw[yI a]
   refine⟨?_,fun g h=>?_⟩
   ·rw[zO]
    exact zQ _ i1
   ·rw[zO]at h ⊢
    rcases zT.mp h with e|e
    ·exact zT.mpr (.inl e)
    ·exact zQ _ (i2 g e)
theorem nJ(f:Í)(v:V):∀fs:List (Í×V),(fj f v fs).length<=fs.length+1
 |[]=>by simp[fj]
 |(k,x)::r=>by
  have ih:=nJ f v r;rw[show fj f v ((k,x)::r)=(if k=f then(k,v)::r else(k,x)::fj f v r) from rfl];by_cases a:k=f
  ·rw[yJ a,yZ,yZ];lia
  ·rw[yI a,yZ,yZ];lia
theorem RelO.some_of(r:RelO (À v) o):∃u,o=À u/\RelV v u:=by
 cases o with
 | none=>exact (show False from r).elim
 |some u=>exact⟨u,rfl,r⟩
theorem RelO.none_of(r:RelO Á o):o=Á:=by
 cases o with
 |none=>rfl
 | some u=>exact (show False from r).elim
theorem Ax(r:RelV v u):handedIn u=Ã:=by
 cases v with
 | non=>cases (show u=Ŵ from r);rfl
 | bl b=>cases (show u=Q4 b from r);rfl
 | int i=>obtain ⟨t,e⟩:=(show ∃ t,u=u? i t from r);cases e;rfl
 | str x=>obtain ⟨t,e⟩:=(show ∃ t,u=u! x t from r);cases e;rfl
 | byt b=>obtain ⟨t,e⟩:=(show ∃ t,u=Y4 b t from r);cases e;rfl
 | flt b=>obtain ⟨t,e⟩:=(show ∃ t,u=Y3 b t from r);cases e;rfl
 | ref a=>cases (show u=ó a from r);rfl
 | ty n=>cases (show u=Q3 n from r);rfl
section
variable{P:Ô}{w:Ü}{H H':Hp}{h h':é}{a C dx:Ç}{fs fs':List (Í×V)}
theorem qA(c:HOk P w H h)(e:H a=À (.ins C dx fs)):∃mA,ObjM h a dx C mA/\(∀f,RelO (fs.lookup f) (mA f))/\z? mA (fs.map (·.1))/\fs.length<=1000/\H dx=À (.own a):=by
 obtain ⟨d,z,ne,b,mA,n,r,q⟩:=(show ObjOk P w H h a (.ins C dx fs) from c a _ e);exact ⟨mA,⟨b,n,ne⟩,r,q,z,d⟩
end
structure Cls(K:à)(C:Ç):Prop where
 pg:G? K C Str.empty=Ã
 hd:R9 K C=Ã
 po:Z' K C=Ã
 sa:ő K (.ref C) "__setattr__"=À (À (.builtin "object.__setattr__"))
theorem Cls.get{K:à}{C:Ç}(c:Cls K C)(f:Í):G? K C f=Ã:=c.pg
def NoAttr(K:à)(C:Ç)(f:Í):Prop:=ő K (.ref C) f=À Á
theorem NoAttr.taker{K:à}{C:Ç}{f:Í}(n:NoAttr K C f):takerIn K C f=À Á:=by
 unfold takerIn;rw[show ő K (.ref C) f=À Á from n];rfl
structure lC(K:à)(C:Ç)(m:Í)(f:Ç):Prop where
 at_:ő K (.ref C) m=À (À (.ref f))
 fn:isFn K (.ref f)=Ã
 kp:Ĺ K (.ref f)=Ã
section
variable{X:Cx}{Qa:List (Ç×Obj)}{σ:St}{H:Hp}{s:Ê}{a C dx:Ç}{fs:List (Í×V)}{f:Í}{v:V}{A:Č}{E:Å->Ê->Prop}
theorem xC{b:Bool}(I:Inv X Qa σ H s)(e:H a=À (.ins C dx fs))(c:Cls X.K C)(n:NoAttr X.K C f)(l:fs.lookup f=À v)
  (h:∀u s',Inv X Qa σ H s'->RelV v u->Q u s'):Ï (model X.prog X.w) A (getAttr (.ref a) f b) Q E s:=by
 obtain⟨g,O,r,_,_,_⟩:=qA I.Qi e;obtain⟨u,i,d⟩:=RelO.some_of (v:=v) (o:=g f) (by rw[<- l];exact r f);exact FZ I.kIn O (c.get f) c.hd n i (Ax d) (h u _ (I.tok _) d)
theorem k8(I:Inv X Qa σ H s)(e:H a=À (.ins C dx fs))(c:Cls X.K C)(k:lC X.K C m g)(l:fs.lookup m=Á)
  (h:Q (.ref g,[.ref a]) s):Ï (model X.prog X.w) A (Ť (.ref a) m pl) Q E s:=by
 obtain⟨b,O,r,_,_,_⟩:=qA I.Qi e;have d:b m=Á:=RelO.none_of (by rw[<- l];exact r m);exact CB I.kIn O (c.get m) k.at_ k.fn d h
theorem wT(I:Inv X Qa σ H s)(e:H a=À (.ins C dx fs))(c:Cls X.K C)(n:NoAttr X.K C f)(B:fs.length<1000)(m:RelV y u)
  (h:∀s',Inv X Qa σ (ai H a (.ins C dx (fj f y fs))) s'->Q () s'):Ï (model X.prog X.w) A (setAttr (.ref a) f u) Q E s:=by
 obtain⟨j,O,r,i,_,k⟩:=qA I.Qi e;have hz:(fs.map (·.1)).length<=Ì:=by rw[zH,Ϣ];lia
 refine EB I.kIn O c.sa c.po n.taker c.hd i hz fun v d l=>h _ ?_
 have hd:∃o,v.get? dx=À o:=let⟨o,_,_,w,_⟩:=d.ns;⟨o,w⟩;refine I.write (x:=a) (e:=dx) (by rw[e];exact True.intro) (.inr k) (fun b q t z=>(l.2 b t).trans z) hd ?_;refine⟨by rw[ad O.ne];exact k,?_,O.ne,d.obj,_,d.ns,fun g=>?_,fun g p=>?_⟩
 ·have:=nJ f y fs;lia
 ·show RelO ((fj f y fs).lookup g) (if g=f then À u else j g)
  rw[nF];by_cases q:g=f
  ·rw[yJ q,yJ q];exact m
  ·rw[yI q,yI q];exact r g
 ·by_cases q:g=f
  ·rw[q];exact(lY f y fs).1
  ·refine(lY f y fs).2 g (i g fun z=>p ?_)
   show(if g=f then À u else j g)=Á;rw[yI q];exact z
theorem Inv.made(I:Inv X Qa σ H s):Inv X Qa σ (ai (ai H s.heap.objs.size (.own (s.heap.objs.size+1))) (s.heap.objs.size+1) (.ins C s.heap.objs.size []))
  { s with heap:=(s.heap.push Œ).push (ϩ C s.heap.objs.size) }:=by
 have c:(s.heap.push Œ).get? s.heap.objs.size=À Œ:=zY s.heap rfl;have h:((s.heap.push Œ).push (ϩ C s.heap.objs.size)).get? (s.heap.objs.size+1)=À (ϩ C s.heap.objs.size):=by
  have:=zY (s.heap.push Œ) (o:=ϩ C s.heap.objs.size) rfl
  rwa [Ĩ]at this
 have g:(s.heap.push Œ).Ns s.heap.objs.size (fun _=>Á):=⟨Œ,#[],_,c,rfl,(fun e f=>absurd f (by simp)),fun _=>rfl⟩;have i:=I.laid (a:=s.heap.objs.size) (o:=.own (s.heap.objs.size+1)) (h':=s.heap.push Œ) (t':=s.toks) (fun b u q=>zG _ q) (zP _) ⟨_,c⟩;refine i.laid (a:=s.heap.objs.size+1) (o:=.ins C s.heap.objs.size []) (t':=s.toks) (fun b u q=>zG _ q) (ϴ (Ĩ _ _)) ?_;have ne:s.heap.objs.size≠s.heap.objs.size+1:=zU (Ĵ _);refine⟨by rw[ad ne,aF],Ő _,ne,h,fun _=>Á,(Heap.Ns1.of_empty g).at fun o q=>zG _ q,fun _=>True.intro,fun y d=>absurd rfl d⟩
theorem Gf(a:Ě e f env (eval e env)=eval e env)
  (h:Ï (model prog w) A (eval e env) (fun o s₁=>Ï (model prog w) A (getAttr o f Ã) Q E s₁) E s):Ï (model prog w) A (eval (.Attribute e f pos) env) Q E s :=
 Attribute_any_ h (by rw[arm_eval_Attribute,a])
end
def Nr(K:à)(d:TE)(f:Í):TE:=fun c H Q=>d c H fun x b=>∃a C e fs v,x=.ref a/\b a=À (.ins C e fs)/\Cls K C/\NoAttr K C f/\fs.lookup f=À v/\Q v b
def Nz(K:à)(e tv:TE)(f:Í):TS:=fun D b H=>tv b H fun y g=>e b g fun x d=>∃a C c fs,x=.ref a/\d a=À (.ins C c fs)/\Cls K C/\NoAttr K C f/\fs.length<1000 /\
 D.nx b (ai d a (.ins C c (fj f y fs)))
section
variable{X:Cx}{o e value:Î}{f:Í}{pos pos' tpos:ĥ}{ta tv:TE}
theorem HZ(he:PE X e ta)(i:Ě e f X.env (eval e X.env)=eval e X.env):PE X (.Attribute e f pos) (Nr X.K ta f):=by
 intro k s d H Q I h;refine Gf i (aK (he k s d H _ I h) fun u w b=>?_);obtain⟨x,p,o,rx,a,C,y,fs,v,ex,j,c,n,l,q⟩:=b;subst ex;obtain rfl:u=ó a:=rx;exact xC o j c n l fun r t m g=>⟨v,p,m,g,q⟩
theorem HG(p:PE X o ta)(m:PE X value tv)(hs:Ľ value (À (.Attribute o f pos')) pos.line X.env=pure Ä):PS X (.Assign [.Attribute o f pos'] value pos) (Nz X.K ta tv f):=by
 intro e s b H D I h;refine plainObj_wpAny_Assign_Attribute (aK (m e s b H _ I h) fun u g ⟨y,z,w,i,q⟩=>aK (p e g b z _ w q) fun k B d=>?_) hs;obtain⟨x,F,v,rx,a,C,E,fs,ex,r,c,n,l,j⟩:=d;subst ex;obtain rfl:k=ó a:=rx;exact wT v r c n l i fun A t=>⟨b,_,t,j⟩
theorem J9(he:PE X e te)(I:Inv X Qa σ H s)
  (h:te σ H fun x H1=>∃a C dx fs g,x=.ref a/\H1 a=À (.ins C dx fs)/\Cls X.K C/\lC X.K C m g/\fs.lookup m=Á /\
   ∀s1,Inv X Qa σ H1 s1->Ï (model X.prog X.w) X.A (Ū pos (.ref g) [.ref a] (ā pos (Ë args X.env)) (Ň pos (ē [] X.env))) Q X.xe s1)
  (i:eval (.Call (.Attribute e m apos) args [] pos) X.env=(do
   let ov <- eval e X.env
   ŕ apos.atName
   let(f,first) <- holding [ov] (Ť ov m pl)
   Ū pos f first (ā pos (Ë args X.env)) (Ň pos (ē [] X.env)))) :
  Ï (model X.prog X.w) X.A (eval (.Call (.Attribute e m apos) args [] pos) X.env) Q X.xe s:=by
 refine Q2 (pl:=pl) (aK (he Qa s σ H _ I h) fun u s1 b=>?_) i;obtain⟨x,H1,d,rx,a,C,dx,fs,g,ex,j,c,k,l,q⟩:=b;subst ex;obtain rfl:u=ó a:=rx;exact k8 d j c k l (q s1 d)
end
structure Room(k:Nat)(A:Č):Prop where
 hd:A.handled=Á
 dp:A.depth+3*k+5<ϣ
 un:A.units+16*k+200<ř
 gd:A.guards=À []
theorem Room.mono{j k:Nat}(r:Room k A)(h:j<=k):Room j A:=⟨r.hd,by have:=r.dp;lia,by have:=r.un;lia,r.gd⟩
theorem Room.deeper{k:Nat}(r:Room (k+1) A)(env:U7):Room k (A.deeper env) :=
 ⟨r.hd,by have:=r.dp;show A.depth+1+3*k+5<_;lia,by have:=r.un;show A.units+3+16*k+200<_;lia,r.gd⟩
theorem Room.in1{k:Nat}(r:Room (k+1) A):Room k A.in1 :=
 ⟨r.hd,by have:=r.dp;show A.depth+3*k+5<_;lia,by have:=r.un;show A.units+1+16*k+200<_;lia,r.gd⟩
theorem xo{A:Č}{C:Ç}{us:List Å}{a:List (Í×Value)}:(A.under (.builtin "type.__call__" ⟨.ref C::us,a⟩)).depth=A.depth+1:=by
 first|rfl|simp[Around.under,Code.weight,Code.isCreation,Code.isGuard,Code.isCaller,Code.frames,Code.isFrame,guardIds]
theorem xn{A:Č}{C:Ç}{us:List Å}{a:List (Í×Value)}:(A.under (.builtin "type.__call__" ⟨.ref C::us,a⟩)).units=A.units+1:=by
 first|rfl|simp[Around.under,Code.cUnits,Code.frames,Code.isFrame]
theorem vq{A:Č}{C:Ç}{us:List Å}{a:List (Í×Value)}:(A.under (.builtin "type.__call__" ⟨.ref C::us,a⟩)).guards=A.guards:=by
 first|rfl|simp[Around.under,Code.guards,Code.isGuard,guardIds,pushGuards]
theorem Room.make{k:Nat}{A:Č}(r:Room (k+1) A)(C:Ç)(us:List Å)(a:List (Í×Value)):Room k (A.under (.builtin "type.__call__" ⟨.ref C::us,a⟩)) :=
 ⟨r.hd,by have:=r.dp;rw[xo];lia,by have:=r.un;rw[xn];lia,by rw[vq];exact r.gd⟩
theorem Room.depth{k:Nat}(r:Room k A):A.depth<ϣ:=by have:=r.dp;lia
theorem Room.units{k:Nat}(r:Room k A):A.units+64<ř:=by have:=r.un;lia
noncomputable def wO:TA:=fun _ H Q=>Q [] H
noncomputable def Df(c:TE)(tr:TA):TA:=fun a H Q=>c a H fun x e=>tr a e fun b d=>Q (x::b) d
section
variable{X:Cx}{e:Î}{es:List Î}{te:TE}{t:TA}{pos:ĥ}
theorem zr:PA X [] wO:=fun _ _ _ _ H Q I h=>Calls.spliced_nil ⟨[],H,I,.nil,h⟩
theorem vS(l:PE X e te)(k:PA X es t)(hs:autoParam (Ë (e::es) X.env=(Ä,eval e X.env)::Ë es X.env) Ax2._auto_1):PA X (e::es) (Df te t):=by
 intro a d s c H Q I h;rw[hs];show Ï _ _ (spliced ((Ä,eval e X.env)::ā a (Ë es X.env))) _ _ s;refine Calls.spliced_cons (aK (l d s c H _ I h) fun u g b=>?_);obtain⟨x,p,n,r1,j⟩:=b;exact aK (k a d g c p _ n j) fun q r ⟨f,o,m,r2,i⟩=>⟨x::f,o,m,.cons r1 r2,i⟩
def Nj(t:TA):TE:=fun c H Q=>t c H fun a b=>a.length<=Ì/\∀p,b p=Á->Q (.ref p) (ai b p (.tup a))
def No(t:TA):TE:=fun c H Q=>t c H fun a b=>a.length<=Ì/\∀p,b p=Á->Q (.ref p) (ai b p (.lst a))
theorem HS{i}(h:PA X es t):PE X (.Tuple es i pos) (Nj t):=by
 intro m s f H Q I k;refine wpAny_Tuple_spliced (aK (h pos m s f H _ I k) fun j a ⟨g,d,c,r,z,q⟩=>⟨by rw[<- r.length];exact z,?_⟩);have l:d a.heap.objs.size=Á:=c.Qi.fresh (zP _);refine⟨.ref a.heap.objs.size,ai d a.heap.objs.size (.tup g),c.laid (t':=a.toks) (fun b u e=>zG _ e) (zP _) ?_,rfl,q _ l⟩;exact⟨z,j,r,⟨_,zY _ rfl,rfl,_,rfl⟩⟩
theorem zo(h:PA X es t):PE X (.List es pos) (No t):=by
 intro l s f H Q I j;refine wpAny_List_spliced (aK (h pos l s f H _ I j) fun i a ⟨g,d,c,r,z,q⟩=>⟨by rw[<- r.length];exact z,?_⟩);have k:d a.heap.objs.size=Á:=c.Qi.fresh (zP _);refine⟨.ref a.heap.objs.size,ai d a.heap.objs.size (.lst g),c.laid (t':=a.toks) (fun b u e=>zG _ e) (zP _) ?_,rfl,q _ k⟩;exact⟨z,i,0,r,zY _ rfl⟩
end
abbrev Sp:=List V->Hp->VK->XK->Prop
abbrev mN:=List U7->Hp->Ê->XK->Å->Ê->Prop
structure Env0(P:Ô)(w:Ü)(K:à)(mg:Í->Option Å)(base:é)(A:Č)(outer:List U7)(s:Ê)(H:Hp):Prop where
 frames:A.frames=À outer
 mod:Mod K mg base
 bs:∀b o,base.get? b=À o->s.heap.get? b=À o/\H b=Á
 bsz:base.objs.size<=s.heap.objs.size
 funs:s.heap.FunFrames base outer
 frf:∀b∈kJ outer,H b=Á
 Qi:HOk P w H s.heap
 bare:ϔ s.gens
def CE(outer:List U7)(P:Ô)(w:Ü)(H:Hp)(s:Ê)(Q:VK)(u:Å)(s':Ê):Prop :=
 ∃v a,s'.os=s.os/\ϔ s'.gens/\Un (kJ outer) [] H a s.heap s'.heap/\HOk P w a s'.heap/\RelV v u/\Q v a
def CR(a:mN)(outer:List U7)(P:Ô)(w:Ü)(H:Hp)(s:Ê)(Q:VK)(E:XK)(r:Result)(s':Ê):Prop :=
 match r with
 |.ok (.ret u)=>CE outer P w H s Q u s'
 |.ok _=>False
 |.error e=>a outer H s E e s'
structure FnOk(P:Ô)(w:Ü)(K:à)(mg:Í->Option Å)(base:é)(CX:mN)(k:Nat)(f:Ç)(fd:Ĕ)(ps:List Í)(sp:Sp):Prop where
 len:∀vs H Q E,sp vs H Q E->vs.length=ps.length
 run:∀(A:Č)(outer:List U7)(s:Ê)(H:Hp)(args:Args)(us:List Å)(vs:List V)(Q:VK)(E:XK),Room k A->Env0 P w K mg base A outer s H->E! s fd args (ps.zip us)->Vals vs us->sp vs H Q E ->
  ņ (model P w) A (.call (.ref f) args) (CR CX outer P w H s Q E) s
theorem FnOk.mono{P:Ô}{w:Ü}{K:à}{mg:Í->Option Å}{base:é}{c:mN}{j k:Nat}{f:Ç}{fd:Ĕ}{ps:List Í}{sp:Sp}(F:FnOk P w K mg base c j f fd ps sp)(h:j<=k) :
  FnOk P w K mg base c k f fd ps sp:=⟨F.len,fun A a s H b e d Q E g=>F.run A a s H b e d Q E (g.mono h)⟩
theorem FnOk.imp{P:Ô}{w:Ü}{K:à}{mg:Í->Option Å}{base:é}{d:mN}{k:Nat}{f:Ç}{fd:Ĕ}{ps:List Í}{sp b:Sp}(F:FnOk P w K mg base d k f fd ps sp)
  (h:∀vs H Q E,b vs H Q E->sp vs H Q E):FnOk P w K mg base d k f fd ps b :=
 ⟨fun vs H Q E q=>F.len vs H Q E (h _ _ _ _ q),fun A a s H c e vs Q E j l m g i=>F.run A a s H c e vs Q E j l m g (h _ _ _ _ i)⟩
theorem Env0.make{P:Ô}{w:Ü}{K:à}{mg:Í->Option Å}{base:é}{A:Č}{outer:List U7}{s:Ê}{H:Hp}(e:Env0 P w K mg base A outer s H)(C:Ç)(us:List Å)(a:List (Í×Value)) :
  Env0 P w K mg base (A.under (.builtin "type.__call__" ⟨.ref C::us,a⟩)) outer s H:=⟨by first|exact e.frames|(simpa [Around.under,Code.envs,Code.isFrame,pushEnvs] using e.frames),e.mod,e.bs,e.bsz,e.funs,e.frf,e.Qi,e.bare⟩
section
variable{X:Cx}{Qa:List (Ç×Obj)}{σ:St}{H:Hp}{s s':Ê}
theorem Inv.env0(I:Inv X Qa σ H s):Env0 X.prog X.w X.K X.mg X.base X.A X.stack s H :=
 ⟨I.ok.frames,I.ok.mod,I.bs,z5 I.ok.bsz I.sz,I.stack,I.stkFree,I.Qi,I.bare⟩
theorem Inv.after(I:Inv X Qa σ H s)(h:CE X.stack X.prog X.w H s Q u s'):EP X Qa σ Q u s':=by
 obtain⟨v,j,e,a,un,i,r,q⟩:=h;obtain⟨f,g,d,t,c⟩:=s';obtain rfl:c=s.os:=e;exact⟨v,j,I.call (h':=f) (g':=g) (d':=d) (t':=t) (ch:=[]) un i a (fun b z=>absurd z (by simp)),r,q⟩
end
noncomputable def wQ(sp:Sp)(a:List V)(E:XK)(t:TA):TE:=fun b H Q=>t b H fun c d=>sp (c++a) d Q E
def wP(C:Ç)(m:Í)(sp:Sp)(b:List V)(E:XK)(f:TE)(t:TA):TE:=fun c H Q=>f c H fun x d=>∃a g fs,x=.ref a/\d a=À (.ins C g fs)/\fs.lookup m=Á /\
 t c d fun e h=>sp (x::(e++b)) h Q E
def De(C:Ç)(sp:Sp)(b:List V)(E:XK)(t:TA):TE:=fun d H Q=>t d H fun e c=>∀x a,c x=Á->c a=Á->a≠x ->
 sp (.ref x::(e++b)) (ai (ai c a (.own x)) x (.ins C a [])) (fun v f=>v=.non/\Q (.ref x) f) E
def Binds(K:à)(fd:Ĕ)(ps:List Í)(b:List Å):Prop :=
 ∀(s:Ê)(a:List Å),K.In s.heap->(a++b).length=ps.length->E! s fd ⟨a,[]⟩ (ps.zip (a++b))
theorem Binds.all{K:à}{fd:Ĕ}{ps:List Í}(h:∀us:List Å,us.length=ps.length->I? fd ⟨us,[]⟩=pure (ps.zip us)):Binds K fd ps []:=fun s us _ a=>by
 rw[û]at a ⊢;exact .of_eq (h us a)
def iU(d:mN)(X:Cx)(E:XK):Prop:=∀(c:List (Ç×Obj))(b:St)(H:Hp)(s:Ê)(e:Å)(a:Ê),Inv X c b H s->d X.stack H s E e a->X.xe e a
section
variable{X:Cx}{CX:mN}{k:Nat}{f C:Ç}{fd:Ĕ}{ps:List Í}{sp:Sp}{dvs:List V}{ds:List Å}{E:XK}{x m:Í}{p pos apos:ĥ}{e o:Î}{es:List Î}{ta:TE}{t:TA}
theorem oV(F:FnOk X.prog X.w X.K X.mg X.base CX k f fd ps sp)(d:Room k X.A)(i:Binds X.K fd ps ds)(hd:Vals dvs ds)(c:iU CX X E)
  (I:Inv X Qa σ H s) (r:Vals vs us) (h:sp (vs++dvs) H Q E):Ï (model X.prog X.w) X.A (call (.ref f) us) (EP X Qa σ Q) X.xe s:=by
 have r2:Vals (vs++dvs) (us++ds):=r.append hd;have g:(us++ds).length=ps.length:=by rw[<- r2.length];exact F.len _ _ _ _ h
 refine F! (ş (F.run X.A X.stack s H ⟨us,[]⟩ (us++ds) (vs++dvs) Q E d I.env0 (i s us I.kIn g) r2 h) fun r b a=>?_);cases r with
 |error e=>exact c Qa σ H s e b I a
 |ok fl =>
  cases fl with
  |ret u=>exact I.after a
  |next=>exact False.elim a
  |brk=>exact False.elim a
  |cont=>exact False.elim a
theorem Fj(F:FnOk X.prog X.w X.K X.mg X.base CX k f fd ps sp)(g:Room k X.A)(l:Gl X x)(i:X.mg x=À (.ref f))(j:Ĺ X.K (.ref f)=Ã)(m:Binds X.K fd ps ds)(hd:Vals dvs ds)(d:iU CX X E)
  (n:PA X (e::es) t) (a:autoParam ((x==("__debug__":Í))=Ä) Ax0._auto_1) (he:autoParam (Ë (e::es) X.env=(Ä,eval e X.env)::Ë es X.env) Ax2._auto_1) (hpl:autoParam ((ā pos (Ë es X.env)).any (·.1)=Ä) Ax2._auto_1) :
  PE X (.Call (.Name x p) (e::es) [] pos) (wQ sp dvs E t):=by
 intro o s c H Q I h;refine Ā (mU I l i ?_ a);refine X5 (h₀:=X.base) I.ok.mod.kin j (aK (n pos o s c H _ I h) fun v w ⟨u,y,b,r,q⟩=>⟨b.kIn,?_⟩) he hpl;exact oV F g m hd d b r q
theorem B9(F:FnOk X.prog X.w X.K X.mg X.base CX k f fd ps sp)(c:Room k X.A)(g:Gl X x)(d:X.mg x=À (.ref f))(e:Ĺ X.K (.ref f)=Ã)(i:Binds X.K fd ps ds)(hd:Vals dvs ds)(b:iU CX X E)
  (a:autoParam ((x==("__debug__":Í))=Ä) Ax0._auto_1):PE X (.Call (.Name x p) [] [] pos) (wQ sp dvs E wO):=by
 intro l s j H Q I h;refine Ā (mU I g d ?_ a);exact A' I.kIn e (oV (us:=[]) F c i hd b I .nil h)
theorem Ff(he:PE X o ta)(c:Cls X.K C)(i:lC X.K C m f)(F:FnOk X.prog X.w X.K X.mg X.base CX k f fd ps sp)(A:Room k X.A)(B:Binds X.K fd ps ds)(hd:Vals dvs ds)(y:iU CX X E)(D:PA X (e::es) t)
  (b:autoParam (Ë (e::es) X.env=(Ä,eval e X.env)::Ë es X.env) Ax2._auto_1) (hpl:autoParam ((ā pos (Ë es X.env)).any (·.1)=Ä) Ax2._auto_1)
  (z:autoParam (eval (.Call (.Attribute o m apos) (e::es) [] pos) X.env=(do
   let ov <- eval o X.env
   ŕ apos.atName
   let(f,first) <- holding [ov] (Ť ov m pl)
   Ū pos f first (ā pos (Ë (e::es) X.env)) (Ň pos (ē [] X.env)))) Ax2._auto_1) :
  PE X (.Call (.Attribute o m apos) (e::es) [] pos) (wP C m sp dvs E ta t):=by
 intro j s g H Q I h;refine Q2 (pl:=pl) (aK (he j s g H _ I h) fun u v d=>?_) z;obtain⟨x,J,p,rx,a,L,fs,ex,G,l,q⟩:=d;subst ex;obtain rfl:u=ó a:=rx;refine k8 p G c i l ?_;refine X5 (first:=[.ref a]) (h₀:=X.base) I.ok.mod.kin i.kp (aK (D pos j v g J _ p q) fun us K ⟨vs,M,n,r,w⟩=>⟨n.kIn,?_⟩) b hpl;exact oV (us:=.ref a::us) (vs:=.ref a::vs) F A B hd y n (.cons rfl r) w
theorem B4(he:PE X o ta)(c:Cls X.K C)(e:lC X.K C m f)(F:FnOk X.prog X.w X.K X.mg X.base CX k f fd ps sp)(n:Room k X.A)(p:Binds X.K fd ps ds)(hd:Vals dvs ds)(i:iU CX X E)
  (j:autoParam (eval (.Call (.Attribute o m apos) [] [] pos) X.env=(do
   let ov <- eval o X.env
   ŕ apos.atName
   let(f,first) <- holding [ov] (Ť ov m pl)
   Ū pos f first (ā pos (Ë [] X.env)) (Ň pos (ē [] X.env)))) Ax2._auto_1) :
  PE X (.Call (.Attribute o m apos) [] [] pos) (wP C m sp dvs E ta wO):=by
 intro t s g H Q I h;refine Q2 (pl:=pl) (aK (he t s g H _ I h) fun u v b=>?_) j;obtain⟨x,y,d,rx,a,w,fs,ex,r,l,q⟩:=b;subst ex;obtain rfl:u=ó a:=rx;refine k8 d r c e l ?_;exact A' (first:=[.ref a]) d.kIn e.kp (oV (us:=[.ref a]) (vs:=[.ref a]) F n p hd i d (.cons rfl .nil) q)
structure Mk(K:à)(C f:Ç):Prop where
 makes:Y2 K C=Ã
 init:ő K (.ref C) "__init__"=À (À (.ref f))
 fn:isFn K (.ref f)=Ã
 kp:Ĺ K (.ref C)=Ã
theorem BE(M:Mk X.K C f)(F:FnOk X.prog X.w X.K X.mg X.base CX k f fd ps sp)(l:Room (k+1) X.A)(n:Binds X.K fd ps ds)(hd:Vals dvs ds)
  (j:iU CX X E) (I:Inv X Qa σ H s) (r:Vals vs us)
  (h:∀x dx,H x=Á->H dx=Á->dx≠x->sp (.ref x::(vs++dvs)) (ai (ai H dx (.own x)) x (.ins C dx [])) (fun v H2=>v=.non/\Q (.ref x) H2) E) :
  Ï (model X.prog X.w) X.A (call (.ref C) us) (EP X Qa σ Q) X.xe s:=by
 have c:=h (s.heap.objs.size+1) s.heap.objs.size (I.Qi.fresh (f? _)) (I.Qi.fresh (zP _)) (zU (Ĵ _));have b:=Inv.made (C:=C) I;have r2:Vals (V.ref (s.heap.objs.size+1)::(vs++dvs)) (ó (s.heap.objs.size+1)::(us++ds)):=.cons rfl (r.append hd);have m:(ó (s.heap.objs.size+1)::us++ds).length=ps.length:=by
  have e:=r2.length;rw[F.len _ _ _ _ c]at e;exact e.symm
 refine F! (Cm (f:=f) I.kIn M.makes M.init (beq_iff_eq.mp M.fn) (ş (F.run _ X.stack _ _ ⟨ó (s.heap.objs.size+1)::us,[]⟩ (ó (s.heap.objs.size+1)::(us++ds)) _ _ E (l.make C us [])
  (b.env0.make C us []) (n _ (ó (s.heap.objs.size+1)::us) b.kIn m) r2 c) fun r d a=>?_))
 cases r with
 |error e=>exact j Qa σ _ _ e d b a
 |ok fl =>
  cases fl with
  |ret u =>
   obtain⟨v,p,o,g,ev,i⟩:=b.after a;subst ev;exact⟨g,⟨V.ref (s.heap.objs.size+1),p,o,rfl,i⟩⟩
  |next=>exact False.elim a
  |brk=>exact False.elim a
  |cont=>exact False.elim a
theorem Fg(M:Mk X.K C f)(F:FnOk X.prog X.w X.K X.mg X.base CX k f fd ps sp)(g:Room (k+1) X.A)(j:Gl X x)(i:X.mg x=À (.ref C))(l:Binds X.K fd ps ds)(hd:Vals dvs ds)(d:iU CX X E)
  (m:PA X (e::es) t) (a:autoParam ((x==("__debug__":Í))=Ä) Ax0._auto_1) (he:autoParam (Ë (e::es) X.env=(Ä,eval e X.env)::Ë es X.env) Ax2._auto_1) (hpl:autoParam ((ā pos (Ë es X.env)).any (·.1)=Ä) Ax2._auto_1) :
  PE X (.Call (.Name x p) (e::es) [] pos) (De C sp dvs E t):=by
 intro n s c H Q I h;refine Ā (mU I j i ?_ a);refine X5 (h₀:=X.base) I.ok.mod.kin M.kp (aK (m pos n s c H _ I h) fun u v ⟨o,w,b,r,q⟩=>⟨b.kIn,?_⟩) he hpl;exact BE M F g l hd d b r q
end
structure ny(N P:List Í)(sc:ğ):Prop where
 kind:sc.kind=.function
 co:sc.isCoroutine=Ä
 gen:sc.isGenerator=Ä
 nd:N.Nodup
 pre:N.take P.length=P
 par:∀x∈P,sc.names.lookup x=À .local\/sc.names.lookup x=À .cell
 nofree:∀y∈sc.names,y.2≠.free
theorem rL{a:Í->Option Ŭ}{x:Í}:∀{binds:List (Í×Value)}{m:Í->Option Å},(∀v,(x,v)∉binds)->S! a binds m x=m x
 |[],_,_=>rfl
 |(n,v)::r,m,h=>by
  unfold S!;rw[rL fun w hw=>h w (zQ _ hw)];split
  ·have:x≠n:=by rintro rfl;exact h v z7
   simp[this]
  ·rfl
theorem rQ{a:Í->Option Ŭ}{x:Í}:∀{binds:List (Í×Value)}{m:Í->Option Å},(∀v,(x,v)∉binds)->S? a binds m x=m x
 |[],_,_=>rfl
 |(n,v)::r,m,h=>by
  unfold S?;rw[rQ fun w hw=>h w (zQ _ hw)];split
  ·rfl
  ·have:x≠n:=by rintro rfl;exact h v z7
   simp[this]
theorem rP{kindOf:Í->Option Ŭ}{x:Í}{v:Å}:∀{P:List Í}{vs:List Å}{i:Nat}{m:Í->Option Å},P.Nodup->P[i]?=À x->vs[i]?=À v->kindOf x=À .local ->
  S! kindOf (P.zip vs) m x=À v
 |[],_,_,_,_,h,_,_=>by simp at h
 |_::_,[],_,_,_,_,h,_=>by simp at h
 |p::P,w::vs,0,m,nd,h1,h2,hk=>by
  simp at h1 h2;subst h1;subst h2;show S! kindOf ((p,w)::P.zip vs) m p=_;unfold S!;rw[rL fun v hv=>(Ŀ.mp nd).1 (î hv).1,yJ hk];simp
 |p::P,w::vs,i+1,m,nd,h1,h2,hk=>by
  show S! kindOf ((p,w)::P.zip vs) m x=_;unfold S!;exact rP (i:=i) (Ŀ.mp nd).2 (by simpa using h1) (by simpa using h2) hk
theorem rR{kindOf:Í->Option Ŭ}{x:Í}{v:Å}:∀{P:List Í}{vs:List Å}{i:Nat}{m:Í->Option Å},P.Nodup->P[i]?=À x->vs[i]?=À v->kindOf x≠À .local ->
  S? kindOf (P.zip vs) m x=À v
 |[],_,_,_,_,h,_,_=>by simp at h
 |_::_,[],_,_,_,_,h,_=>by simp at h
 |p::P,w::vs,0,m,nd,h1,h2,hk=>by
  simp at h1 h2;subst h1;subst h2;show S? kindOf ((p,w)::P.zip vs) m p=_;unfold S?;rw[rQ fun v hv=>(Ŀ.mp nd).1 (î hv).1,yI hk];simp
 |p::P,w::vs,i+1,m,nd,h1,h2,hk=>by
  show S? kindOf ((p,w)::P.zip vs) m x=_;unfold S?;exact rR (i:=i) (Ŀ.mp nd).2 (by simpa using h1) (by simpa using h2) hk
def start(N:List Í)(vs:List V):St:=vs.map À++É (N.length-vs.length) Á
def qH(b:mN)(P:Ô)(w:Ü)(K:à)(mg:Í->Option Å)(base:é)(N:List Í)(qual:Í)(scope:ğ)(f:Ç)(cd:Å)(A:Č)(outer:List U7)(s:Ê)(H:Hp)(E:XK):Cx where
 prog:=P
 w:=w
 K:=K
 mg:=mg
 base:=base
 A:=A.deeper (a? qual scope s.heap.objs.size f cd)
 N:=N
 s₀:=s
 H₀:=H
 env:=a? qual scope s.heap.objs.size f cd
 outer:=outer
 stack:=a? qual scope s.heap.objs.size f cd::outer
 ex:=[]
 calm:=Ã
 fn:=fun _=>Ã
 pn:=[]
 xe:=fun e c=>Ï (model P w) (A.deeper (a? qual scope s.heap.objs.size f cd)) (leaving (a? qual scope s.heap.objs.size f cd) e) (fun _ a=>b outer H s E e a) (fun d a=>b outer H s E d a) c
theorem u5{sc:ğ}{n:Nat}{x:Í}(h:sc.names.lookup x=À .cell):∃c,(Ē n sc.names []).lookup x=À c:=by
 have q:=cellsFrom_some sc.names n [] (.inl h);exact Ķ.mp q
theorem Au{F:mN}{P:Ô}{w:Ü}{K:à}{mg:Í->Option Å}{base:é}{N ps:List Í}{qual:Í}{scope:ğ}{f:Ç}{cd:Å}{A:Č}{outer:List U7}{s s1:Ê}{H:Hp}{E:XK}{us:List Å}{vs:List V}
  (S:ny N ps scope) (hd:A.handled=Á) (g:Env0 P w K mg base A outer s H) (M:vs.length=ps.length) (r:Vals vs us)
  (x:InCallC s s.heap.objs.size (S! (a? qual scope s.heap.objs.size f cd).kindOf (ps.zip us) fun _=>Á) (Ē (s.heap.objs.size+1) scope.names []) (S? (a? qual scope s.heap.objs.size f cd).kindOf (ps.zip us) fun _=>Á) s1) :
  Inv (qH F P w K mg base N qual scope f cd A outer s H E) [] (start N vs) H s1:=by
 have I:ps.length<=N.length:=by have:=congrArg ŀ S.pre;rw[ĕ]at this;lia
 obtain ⟨B,L,rfl,D⟩:=x.done;have j:∀ b:Ç,b ∉ (qH F P w K mg base N qual scope f cd A outer s H E).ex:=fun b z=>absurd (show b ∈ ([]:List Ç) from z) (by simp)
 refine⟨⟨g.mod,S.kind,rfl,rfl,zP _,fun y z c B d=>?_,fun y l=>?_,fun y c _ h=>?_,fun _=>hd,Around.frames_deeper g.frames,.inr ⟨rfl,rfl⟩,fun b z=>absurd z (j b),g.bs,g.bsz,fun b _ _=>j b,fun b z=>absurd z (j b),g.funs,g.frf⟩,
  rfl,g.bare,Un.kept D,⟨_,x.toInCall.ns,fun i y v B d O=>?_⟩,fun y c h=>⟨_,x.cell y c h⟩,g.Qi.fresh (zP _),fun y c h=>?_,fun p o=>absurd (show p∈([]:List (Ç×Obj)) from o) (by simp),g.Qi.kept D,?_⟩
 ·exact name_of_addr x.apart (Ĳ B) (Ĳ d)
 ·have l:scope.names.lookup y=À .cell\/scope.names.lookup y=À .free:=l
  rcases l with l|l
  ·exact u5 l
  ·exact absurd rfl (S.nofree _ (Ĳ l))
 ·exact y0 (x.above y c (Ĳ h))
 ·have t:i<vs.length:=by
   unfold start at d;by_cases t:i<vs.length
   ·exact t
   ·rw[z6 (by simpa using t)]at d
    rw[Ă]at d;split at d<;>cases d
  have J:vs[i]?=À v:=by
   unfold start at d;rw[zN (by simpa using t),zR]at d;cases e:vs[i]? with
   |none=>rw[e]at d;cases d
   |some a=>rw[e]at d;cases d;rfl
  obtain⟨u,C,G⟩:=r.get J;have o:ps[i]?=À y:=by
   rw[<- S.pre,Ŧ oM];exact B
  have m:ps.Nodup:=by rw[<- S.pre];exact S.nd.sublist (U? _ _)
  refine⟨u,G,?_⟩;rcases S.par y (zW o) with k|k
  ·exact .inl ⟨k,rP m o C k⟩
  ·obtain⟨c,e⟩:=u5 (n:=s.heap.objs.size+1) k
   refine .inr ⟨.inl k,c,e,?_⟩;have q:=x.cell y c e;rw[rR m o C (by show scope.names.lookup y≠_;rw[k];decide)]at q;exact q
 ·exact g.Qi.fresh (y0 (x.above y c (Ĳ h)))
 ·unfold start
  show _=N.length;rw[zV,zH,ń];lia
theorem LI{z:mN}{P:Ô}{w:Ü}{K:à}{mg:Í->Option Å}{base:é}{k:Nat}{f:Ç}{name qual:Í}{c:ϯ}{d:List ľ}{scope:ğ}{R kV p pm a ct Z:Å}{U Y:Option Ç}
  {D:Array (Option Å)}{N ps:List Í}{sp:Sp} (lk:K.lookup f=À ⟨Z,Y,.func (fnOf name qual c d scope R kV p pm U a ct),D⟩) (M:Ϥ K a qual=Ã) (S:ny N ps scope)
  (len:∀vs H Q E,sp vs H Q E->vs.length=ps.length)
  (i:∀(A:Č)(outer:List U7)(s:Ê)(H:Hp)(vs:List V)(Q:VK)(E:XK),Room k (A.deeper (a? qual scope s.heap.objs.size f a))->sp vs H Q E ->
   ∃t,PSs (qH z P w K mg base N qual scope f a A outer s H E) d t/\t { nx:=fun _ H'=>Q .non H',rt:=Q } (start N vs) H) :
  FnOk P w K mg base z (k+1) f (fnOf name qual c d scope R kV p pm U a ct) ps sp:=by
 refine⟨len,fun A outer s H T X vs Q E G m hb r l=>?_⟩;have hl:=len _ _ _ _ l;have W:K.In s.heap:=m.mod.kin.keeps fun b o e=>(m.bs b o e).1
 have F:s.heap.NoLimit:=m.mod.nolimit.keeps fun b o e=>(m.bs b o e).1
 have h:∀y∈ps.zip X,scope.names.lookup y.1=À .local\/(scope.names.lookup y.1=À .cell/\((Ē (s.heap.objs.size+1) scope.names []).lookup y.1).isSome=Ã):=fun L hy=>by
  obtain⟨n,v⟩:=L;rcases S.par n (î hy).1 with q|q
  ·exact .inl q
  ·exact .inr ⟨q,cellsFrom_some _ _ _ (.inl q)⟩
 refine codeAny_call_function G.depth (W _ _ lk) rfl S.co S.gen rfl (codeRec_of W M) (hb _ _ _ _ ?_);refine wpAny_newFunctionEnv_cells S.kind h fun env he O x=>?_
 subst he;refine⟨F.keeps x.toInCall.keep,codeAny_func ?_⟩;obtain⟨t,ht,hq⟩:=i A outer s H vs Q E (G.deeper _) l;have I:Inv (qH z P w K mg base N qual scope f a A outer s H E) [] (start N vs) H O:=Au S G.hd m hl r x;refine yU (ht [] O (start N vs) H _ I hq) (fun fl B j=>?_) fun e B j=>j
 have au:∀{g:St}{H':Hp}{v:V}{u:Å},Inv (qH z P w K mg base N qual scope f a A outer s H E) [] g H' B->RelV v u->Q v H'->CE outer P w H s Q u B :=
  fun {g H' v u} J C q=>⟨v,H',J.os,J.bare,J.base,J.Qi,C,q⟩
 cases fl with
 |ret u =>
  obtain⟨v,g,H',J,C,q⟩:=j;exact au J C q
 |next =>
  obtain⟨g,H',J,q⟩:=j;exact au (v:=V.non) (u:=Ŵ) J rfl q
 |brk =>
  obtain⟨_,_,_,q⟩:=j;exact False.elim q
 |cont =>
  obtain⟨_,_,_,q⟩:=j;exact False.elim q
section
variable{X:Cx}{x:Í}{p pos:ĥ}{e:Î}{es:List Î}{t:TA}{id T:String}{r:List V->Hp->VK->Prop}
def GO(r:List V->Hp->VK->Prop)(t:TA):TE:=fun a H Q=>t a H fun b c=>r b c Q
theorem B8(n:dS X (.builtin id) r)(m:Gl X x)(l:X.mg x=Á)(j:ò x=À (.builtin id))(o:PA X (e::es) t)(k:autoParam (x≠"__name__") Ax0._auto_1)(a:autoParam ((x==("__debug__":Í))=Ä) Ax0._auto_1)
  (he:autoParam (Ë (e::es) X.env=(Ä,eval e X.env)::Ë es X.env) Ax2._auto_1) (hpl:autoParam ((ā pos (Ë es X.env)).any (·.1)=Ä) Ax2._auto_1):PE X (.Call (.Name x p) (e::es) [] pos) (GO r t):=by
 intro c s b H Q I h;refine Ā (d5 I m l j ?_ k a);exact _8 (aK (o pos c s b H _ I h) fun f g ⟨d,u,q,r1,i⟩=>n c g b u d f Q q r1 i) he hpl
theorem zq(n:dS X (.type T) r)(m:Gl X x)(l:X.mg x=Á)(j:ò x=À (.type T))(o:PA X (e::es) t)(k:autoParam (x≠"__name__") Ax0._auto_1)(a:autoParam ((x==("__debug__":Í))=Ä) Ax0._auto_1)
  (he:autoParam (Ë (e::es) X.env=(Ä,eval e X.env)::Ë es X.env) Ax2._auto_1) (hpl:autoParam ((ā pos (Ë es X.env)).any (·.1)=Ä) Ax2._auto_1):PE X (.Call (.Name x p) (e::es) [] pos) (GO r t):=by
 intro c s b H Q I h;refine Ā (d5 I m l j ?_ k a);exact Ö (aK (o pos c s b H _ I h) fun f g ⟨d,u,q,r1,i⟩=>n c g b u d f Q q r1 i) he hpl
end
end L2
namespace HT
open PySem PyProof.Rows
section
variable{prog:Ô}{w:Ü}{A:Č}{E:Å->Ê->Prop}{s:Ê}
noncomputable def Qn(n d:Nat):Option Int->Nat
 |none=>d
 |some v=>if v<0 then(v+(n:Int)).toNat else min v.toNat n
theorem sIx_none(n d:Nat):Qn n d Á=d:=rfl
theorem sIx_nat(n d k:Nat):Qn n d (À (k:Int))=min k n:=by
 show(if(k:Int)<0 then((k:Int)+(n:Int)).toNat else min (k:Int).toNat n)=min k n;rw[yI oM,U4]
end
end HT
namespace L2
open PySem PySem.Spec PyProof.Rows
abbrev TO:=St->Hp->(Option Int->Hp->Prop)->Prop
def PO(X:Cx)(e:Option Î)(t:TO):Prop :=
 ∀(b:List (Ç×Obj))(s:Ê)(a:St)(H:Hp)(Q:Option Int->Hp->Prop),Inv X b a H s->t a H Q ->
  Ï (model X.prog X.w) X.A (evalPart e X.env) (fun u d=>∃o c,Inv X b a c d/\IsPart u o/\Q o c) X.xe s
noncomputable def Et:TO:=fun _ H Q=>Q Á H
noncomputable def Kg(t:TE):TO:=fun a H Q=>t a H fun x b=>∃i,x=.int i/\Q (À i) b
theorem k7:∀{us:List Å},Vals (ns.map V.int) us->ϒ us ns:=by
 induction ns with
 |nil=>intro us r;rw[Ŗ]at r;cases r;exact .nil
 |cons n ns a =>
  intro us r;rw[zO]at r;cases r with
  |cons r1 r2 =>
   obtain⟨t,e⟩:=r1;subst e;exact .cons n t (a r2)
section
variable{X:Cx}{e:Î}{te:TE}{lo hi:Option Î}{tl th:TO}{pos p2:ĥ}
theorem E7:PO X Á Et:=by
 intro b s a H Q I h;rw[evalPart_none];exact yH ⟨Á,H,I,.none,h⟩
theorem E6(h:PE X e te):PO X (À e) (Kg te):=by
 intro f s b H Q I d;rw[evalPart_some];refine aK (h f s b H _ I d) fun u k a=>?_
 obtain⟨x,j,g,r1,c⟩:=a;obtain⟨i,rfl,q⟩:=c;obtain⟨t,rfl⟩:=r1;exact⟨À i,j,g,.int i t,q⟩
def Qk(X:Cx)(r:V->Option Int->Option Int->Hp->VK->Prop):Prop :=
 ∀(g:List (Ç×Obj))(s:Ê)(a:St)(H:Hp)(x:V)(v c b:Å)(e f:Option Int)(d:Ç)(Q:VK),Inv X g a H s->RelV x v->s.heap.IsSliceOf d c b .none->IsPart c e->IsPart b f->r x e f H Q ->
  ∃T id,typeLookup (.type T) "__getitem__"=pure (À (.builtin id))/\s.TypeIs v T/\Ï (model X.prog X.w) X.A (T5 v (.ref d)) (EP X g a Q) X.xe s
def Mh(r:V->Option Int->Option Int->Hp->VK->Prop)(te:TE)(b c:TO):TE:=fun a H Q=>te a H fun x f=>b a f fun l e=>c a e fun u d=>r x l u d Q
theorem B3(A:Qk X r)(he:PE X e te)(B:PO X lo tl)(y:PO X hi th):PE X (.Subscript e (.Slice lo hi Á p2) pos) (Mh r te tl th):=by
 intro f s d H Q I h;refine Subscript_ (aK (he f s d H _ I h) fun v m c=>?_);obtain⟨x,L,J,r1,p⟩:=c;refine wpAny_Slice (aK (B f m d L _ J p) fun i k ⟨l,K,G,w,o⟩=>aK (y f k d K _ G o) fun g a c=>?_);obtain⟨u,j,F,t,n⟩:=c;rw[evalPart_none];refine yH ?_;have E:Inv X f d j { a with heap:=a.heap.push { cls:=.type "slice",data:=.fields #[i,g,.none] } }:=F.kept (t':=a.toks) fun b M q=>zG _ q
 obtain⟨T,id,D,z,C⟩:=A f { a with heap:=a.heap.push { cls:=.type "slice",data:=.fields #[i,g,.none] } } d j x v i g l u a.heap.objs.size Q E r1 (Y7 ..) w t n;show Ï (model X.prog X.w) X.A (P? e (.Slice lo hi Á p2) v (.ref a.heap.objs.size)) (EP X f d Q) X.xe { a with heap:=a.heap.push { cls:=.type "slice",data:=.fields #[i,g,.none] } };exact tail_any (ops:=[.ref a.heap.objs.size,v]) z D C (by with_unfolding_all rfl)
def qI(xs:List V)(a b:Option Int):List V:=(xs.drop (HT.Qn xs.length 0 a)).take (HT.Qn xs.length xs.length b-HT.Qn xs.length 0 a)
theorem vA(xs:List V)(a b:Option Int):(qI xs a b).length<=xs.length:=by
 unfold qI;rw[ĕ,ů];lia
end
noncomputable def ma(n:Nat)(i:Int):Option Nat:=if 0<=i then(if i<n then À i.toNat else Á) else if -(n:Int)<=i then À (i+n).toNat else Á
def ii{α:Type}(xs:List α)(i:Int):Option α:=(ma xs.length i).bind fun j=>xs[j]?
theorem wa{n:Nat}{i:Int}{j:Nat}(h:ma n i=À j):seqIndex? i n=À j/\j<n/\-(n:Int)<=i/\i<n:=by
 unfold ma at h;by_cases b:0<=i
 ·rw[yJ b]at h
  by_cases a:i<n
  ·rw[yJ a]at h
   have e:i.toNat=j:=yF h;exact⟨by rw[t? b a,e],by lia,by lia,a⟩
  ·rw[yI a]at h;cases h
 ·rw[yI b]at h
  by_cases a:-(n:Int)<=i
  ·rw[yJ a]at h
   have e:(i+n).toNat=j:=yF h;exact⟨by rw[j? oM a,e],by lia,a,by lia⟩
  ·rw[yI a]at h;cases h
theorem nk{α:Type}{xs:List α}{i:Int}{v:α}(h:ii xs i=À v):∃j,seqIndex? i xs.length=À j/\xs[j]?=À v/\j<xs.length/\-(xs.length:Int)<=i/\i<xs.length:=by
 unfold ii at h;cases e:ma xs.length i with
 |none=>rw[e]at h;cases h
 |some j =>
  rw[e]at h;obtain⟨d,c,b,a⟩:=wa e;exact⟨j,d,h,c,b,a⟩
def qO(b:Î):Prop:=∀o i,subscripted b Ä o i=operate [o,i] (T5 o i)
def IxR(X:Cx)(r:R2):Prop :=
 ∀(b a:Î)(d:List (Ç×Obj))(s:Ê)(c:St)(H:Hp)(x y:V)(v u:Å)(Q:VK),Inv X d c H s->RelV x v->RelV y u->r x y H Q ->
  subscripted a Ä v u=operate [v,u] (T5 v u)->Ï (model X.prog X.w) X.A (P? b a v u) (EP X d c Q) X.xe s
def mL(X:Cx)(id:String)(r:V->List V->Hp->VK->Prop):Prop :=
 ∀(d:List (Ç×Obj))(s:Ê)(a:St)(H:Hp)(x:V)(b:List V)(v:Å)(c:List Å)(Q:VK),Inv X d a H s->RelV x v->Vals b c->r x b H Q ->
  Ï (model X.prog X.w) X.A (call (.builtin id) (v::c)) (EP X d a Q) X.xe s
section
variable{X:Cx}{a b:Î}{ta tb:TE}{pos:ĥ}
theorem IxR.or(h:IxR X r)(h':IxR X r'):IxR X (fun x y H Q=>r x y H Q\/r' x y H Q):=by
 intro a b f s c H x y v u Q I rx d q e;rcases q with q|q
 ·exact h a b f s c H x y v u Q I rx d q e
 ·exact h' a b f s c H x y v u Q I rx d q e
theorem K5(f:IxR X r)(i:PE X a ta)(g:PE X b tb)(hs:qO b):PE X (.Subscript a b pos) (yg r ta tb):=by
 intro j s c H Q I h;exact Subscript_ (CS i g I h fun v u d x y l k rx e q=>f a b j d c l x y v u Q k rx e q (hs _ _))
def G7(K:à):R2:=fun x y H Q=>∃p a i v,x=.ref p/\y=.int i/\cu K H p a/\ii a i=À v/\Q v H
def G5(K:à):R2:=fun x y H Q=>∃p a i v,x=.ref p/\y=.int i/\iT K H p a/\ii a i=À v/\Q v H
def G6:R2:=fun x y H Q=>∃z i c,x=.str z/\y=.int i/\z.length<=Ì/\ii z.cps.toList i=À c/\Q (.str ⟨#[c]⟩) H
theorem ix_list:IxR X (G7 X.K):=by
 intro b c n s g H x y v u Q I rx A h k;obtain⟨p,K,i,z,rfl,rfl,B,D,q⟩:=h;cases rx;obtain⟨t,rfl⟩:=A;obtain⟨J,r,e,hz⟩:=I.list B;obtain⟨j,a,G,M,F,E⟩:=nk D;obtain⟨w,m,d⟩:=r.get G;have C:=r.length;have L:=iN;have au:EP X n g Q w s:=⟨z,H,I,d,q⟩;by_cases l:0<=i
 ·have f:i.toNat=j:=by
   rw[t? l E]at a;exact yF a
  exact item_listR e.isList l oM (by rw[f];simpa using m) au k
 ·have f:(i+(J.toArray.size:Int)).toNat=j:=by
   rw[j? oM F]at a;rw[zI,<- C];exact yF a
  exact T4 (x:=w) e.isList.typeIs slot_list_getitem.lookup
   (T0 (Q:=fun r o=>r=w/\EP X n g Q r o) e.isList oM (by rw[zI]<;>lia) oM (by rw[f];simpa using m) ⟨rfl,au⟩) k
theorem ix_tup:IxR X (G5 X.K):=by
 intro a b f s d H x y v u Q I rx k h l;obtain⟨p,D,i,z,rfl,rfl,m,o,q⟩:=h;cases rx;obtain⟨t,rfl⟩:=k;obtain⟨K,r,e,hz⟩:=I.tuple m;obtain⟨j,B,A,J,G,F⟩:=nk o;obtain⟨w,C,c⟩:=r.get A;have n:=r.length;have E:=iN;have au:EP X f d Q w s:=⟨z,H,I,c,q⟩;exact T4 (x:=w) e.typeIs slot_tuple_getitem.lookup
  (getItem_tuple (j:=j) (Q:=fun r g=>r=w/\EP X f d Q r g) e oM oM (by rw[zI,<- n];exact B) (by simpa using C) ⟨rfl,au⟩) l
theorem Ja:IxR X G6:=by
 intro a b C s r H x y v u Q I rx e h f;obtain⟨z,i,c,rfl,rfl,hz,k,q⟩:=h;obtain⟨t,rfl⟩:=rx;obtain⟨w,rfl⟩:=e;obtain⟨j,d,n,B,m,l⟩:=nk k;have g:z.cps.toList.length=z.length:=by simp[Str.length]
 rw[g]at d m l;have A:=iN;exact tail_any (typeIs_str s z t) slot_str_getitem.lookup (getItem_str (c:=c) (by
  have p:decide (i < -(2^63:Int))=Ä:=yB oM;have o:decide (i ≥ 2^63)=Ä:=yB oM;rw[p,o,X9]) (by rw[d];simpa using n) ⟨.str ⟨#[c]⟩,H,I.tok _,⟨_,rfl⟩,q⟩) f
def OK(K:à):R2:=fun x y H Q=>G7 K x y H Q\/G5 K x y H Q\/G6 x y H Q
theorem ui:IxR X (OK X.K):=ix_list.or (ix_tup.or Ja)
theorem xm(Qe:List Å)(n j:Nat)(u:Å):ġ (·.setIfInBounds j u) { cls:=.type "list",data:=.seq Qe.toArray n }={ cls:=.type "list",data:=.seq (Qe.set j u).toArray n }:=by
 simp[ġ]
theorem Inv.lst(I:Inv X Qa σ H s)(h:H p=À (.lst xs)) :
  ∃(Qe:List Å)(n:Nat),Vals xs Qe/\s.heap.get? p=À { cls:=.type "list",data:=.seq Qe.toArray n }/\xs.length<=Ì:=by
 obtain⟨z,Qe,n,r,e⟩:=I.Qi p _ h;exact⟨Qe,n,r,e,z⟩
theorem Inv.lstUpd{Qa:List (Ç×Obj)}{σ:St}{H:Hp}{s:Ê}{p:Ç}{xs ys:List V}{Qe its':List Å}{n a:Nat}{f:Z7->Z7}(I:Inv X Qa σ H s)(h:H p=À (.lst xs))
  (d:s.heap.get? p=À { cls:=.type "list",data:=.seq Qe.toArray n }) (c:f { cls:=.type "list",data:=.seq Qe.toArray n }={ cls:=.type "list",data:=.seq its'.toArray a }) (r:Vals ys its') (hz:ys.length<=Ì) (t:Nat) :
  Inv X Qa σ (ai H p (.lst ys)) { s with heap:=s.heap.update p f,toks:=t }:=by
 have e:(s.heap.update p f).get? p=À { cls:=.type "list",data:=.seq its'.toArray a }:=by
  rw[Heap.get?_update_self f d (by rw[c]<;>rfl),c]
 refine I.write (x:=p) (e:=p) (by rw[h];trivial) (.inl rfl) (fun b u g q=>(D? _ _ (æ g)).trans q) ⟨_,e⟩ ?_;exact⟨hz,its',a,r,e⟩
def Kw:V->V->V->Hp->(Hp->Prop)->Prop:=fun o i v H Q=>∃p a k j,o=.ref p/\i=.int k/\H p=À (.lst a)/\ma a.length k=À j/\Q (ai H p (.lst (a.set j v)))
theorem BD:xO X Kw:=by
 intro D s x H o i v E F u Q I A B z h;obtain⟨p,y,k,j,rfl,rfl,e,C,q⟩:=h;cases A;obtain⟨t,rfl⟩:=B;obtain⟨m,n,r,b,hz⟩:=I.lst e;obtain⟨a,J,g,f⟩:=wa C;have c:=r.length;have G:=iN;have w:Inv X D x (ai H p (.lst (y.set j v))) { s with heap:=s.heap.update p (ġ (·.setIfInBounds j u)) } :=
  I.lstUpd e b (xm m n j u) (r.set z j) (by rw[ç];exact hz) s.toks
 by_cases l:0<=k
 ·have d:k.toNat=j:=by
   rw[t? l f]at a;exact yF a
  exact ki_setAt b l oM (by rw[zI,<- c];exact f) (by rw[d];exact⟨_,w,q⟩)
 ·have d:(k+(m.toArray.size:Int)).toNat=j:=by
   rw[j? oM g]at a;rw[zI,<- c];exact yF a
  exact ki_setBack b oM (by rw[zI,<- c];exact g) oM (by rw[d];exact⟨_,w,q⟩)
theorem tx(a b:Option Int)(n:Nat):(Ř a b Á n).1=((HT.Qn n 0 a:Nat):Int)/\(Ř a b Á n).2.1=((HT.Qn n n b:Nat):Int)/\(Ř a b Á n).2.2=1:=by
 refine⟨?_,?_,rfl⟩
 ·cases a with
  |none=>simp[Ř,HT.Qn]
  |some i =>
   simp only[Ř,HT.Qn,S4,show(1:Int) > 0 by decide,if_true];by_cases h:i<0
   ·simp only[h,if_true]<;>lia
   ·simp only[h,if_false]<;>lia
 ·cases b with
  |none=>simp[Ř,HT.Qn]
  |some i =>
   simp only[Ř,HT.Qn,S4,show(1:Int) > 0 by decide,if_true];by_cases h:i<0
   ·simp only[h,if_true]<;>lia
   ·simp only[h,if_false]<;>lia
theorem sf(Qe:List Å)(a b:Option Int):slicePick Qe.toArray a b Á=((Qe.drop (HT.Qn Qe.length 0 a)).take (HT.Qn Qe.length Qe.length b-HT.Qn Qe.length 0 a)).toArray:=by
 obtain⟨e,d,c⟩:=tx a b Qe.toArray.size;unfold slicePick;rw[e,d,c];simp only[sliceRange_one,pick_run,zI]<;>rfl
def NB(K:à):V->Option Int->Option Int->Hp->VK->Prop:=fun x c d H Q=>∃a b,x=.ref a/\cu K H a b/\∀p,H p=Á->Q (.ref p) (ai H p (.lst (qI b c d)))
theorem Ey:Qk X (NB X.K):=by
 intro y s m H x v p n e f t Q I rx l j i h;obtain⟨a,c,rfl,k,q⟩:=h;cases rx;obtain⟨w,r,g,hz⟩:=I.list k;have d:=r.length;refine⟨"list",_,slot_list_getitem.lookup,g.isList.typeIs,?_⟩;refine wpAny_getItem_list_slice g.isList l j i .none (by simp) ?_ (by rw[zI]<;>lia);rw[sf,<- d];refine⟨.ref s.heap.objs.size,_,I.laid (t':=s.toks) (o:=.lst (qI c e f)) (fun b u q=>zG _ q) (zP _) ?_,rfl,q _ (I.Qi.fresh (zP _))⟩;exact⟨z5 (vA c e f) hz,_,0,(r.drop (HT.Qn c.length 0 e)).take (HT.Qn c.length c.length f-HT.Qn c.length 0 e),zY _ rfl⟩
theorem mD:dS X (.builtin "len") (fun xs H Q=>∃p ys,xs=[.ref p]/\(cu X.K H p ys\/iT X.K H p ys)/\Q (.int ys.length) H):=by
 intro j s f H xs g Q I r h;obtain⟨p,ys,rfl,b,q⟩:=h;obtain⟨u,rfl,rx⟩:=gX r;cases rx;have i:=iN;rcases b with b|b
 ·obtain⟨e,c,d,hz⟩:=I.list b
  have a:=c.length;exact Calls.call_len_list d.isList (by simp only[zI]<;>lia) ⟨.int ys.length,H,I.tok _,⟨s.toks+1,by rw[zI,a]⟩,q⟩
 ·obtain⟨e,c,d,hz⟩:=I.tuple b
  have a:=c.length;exact len_tuple d (by simp only[zI]<;>lia) ⟨.int ys.length,H,I.tok _,⟨s.toks+1,by rw[zI,a]⟩,q⟩
theorem u7:dS X (.builtin "len") (fun xs H Q=>∃z,xs=[.str z]/\z.length<=Ì/\Q (.int z.length) H):=by
 intro d s a H xs b Q I r h;obtain⟨z,rfl,hz,q⟩:=h;obtain⟨u,rfl,t,rfl⟩:=gX r;have c:=iN;exact len_str oM ⟨.int z.length,H,I.tok _,⟨_,rfl⟩,q⟩
theorem u6:dS X (.type "list") (fun xs H Q=>∃p ys,xs=[.ref p]/\(cu X.K H p ys\/iT X.K H p ys)/\∀l,H l=Á->Q (.ref l) (ai H l (.lst ys))):=by
 intro x s w H xs y Q I r h;obtain⟨p,ys,rfl,i,q⟩:=h;obtain⟨u,rfl,rx⟩:=gX r;cases rx;have au:∀(c:List Å),Vals ys c->ys.length<=Ì->∀(a:é)(f:Nat),(∀b v,s.heap.get? b=À v->a.get? b=À v) ->
   a.get? s.heap.objs.size=À { cls:=.type "list",dict:=Á,data:=.seq c.toArray f,slots:=#[] }->EP X x w Q (.ref s.heap.objs.size) { s with heap:=a }:=fun c d hz a f g e =>
  ⟨.ref s.heap.objs.size,_,I.laid (t':=s.toks) g (zP _) (show ObjOk X.prog X.w _ a _ (.lst ys) from ⟨hz,c,f,d,e⟩),rfl,q _ (I.Qi.fresh (zP _))⟩
 rcases i with i|i
 ·obtain⟨c,d,k,hz⟩:=I.list i
  have j:=d.length;obtain⟨o,m,t,n,hd⟩:=k.isList;exact call_list_seq p (.inl rfl) m t hd (fun a f g e=>au c d hz a f g e) (by simp only[zI]<;>lia)
 ·obtain⟨c,d,k,hz⟩:=I.tuple i
  have j:=d.length;obtain⟨o,m,t,n,hd⟩:=k;exact call_list_seq p (.inr rfl) m t hd (fun a f g e=>au c d hz a f g e) (by simp only[zI]<;>lia)
def xW(K:à)(T:String)(x:V)(H:Hp):Prop:=match x with
 |.str _=>T="str"
 |.int _=>T="int"
 |.ref p=>(T="list"/\∃b,cu K H p b)\/(T="tuple"/\∃o,K.lookup p=À o/\o.cls=.type "tuple"/\o.dict=Á) \/
   (T="dict"/\((∃a,H p=À (.dK a))\/∃a,H p=À (.dT a)))\/(T="set"/\∃S n,H p=À (.set S n))
 |_=>False
theorem xV(I:Inv X Qa σ H s)(r:RelV x v)(d:xW X.K T x H) :
  s.TypeIs v T/\∀a,v=.ref a->∃ob,s.heap.get? a=À ob/\ob.dict=Á:=by
 cases x with
 |str z =>
  obtain ⟨t,rfl⟩:=r;cases (show T="str" from d);exact ⟨typeIs_str s z t,fun _ e=>nomatch e⟩
 |int i =>
  obtain ⟨t,rfl⟩:=r;cases (show T="int" from d);exact ⟨X0 s i t,fun _ e=>nomatch e⟩
 |ref p =>
  cases r;rcases d with⟨rfl,l,h⟩|⟨rfl,o,b,j,hd⟩|⟨rfl,b⟩|⟨rfl,S,n,b⟩
  ·obtain⟨m,_,g,_⟩:=I.list h
   refine⟨g.isList.typeIs,fun a e=>?_⟩;cases e;obtain⟨o,n,e,c,hd,_⟩:=g;exact⟨o,e,hd⟩
  ·refine⟨⟨o,I.kIn p o b,j⟩,fun a e=>?_⟩
   cases e;exact⟨o,I.kIn _ o b,hd⟩
  ·have z:∃o,s.heap.get? p=À o/\o.ExactDict:=by
    rcases b with⟨k,b⟩|⟨k,b⟩
    ·obtain⟨_,_,_,_,o,_,_,e,ex,_⟩:=I.Qi p _ b
     exact⟨o,e,ex⟩
    ·obtain⟨_,_,_,_,o,_,_,e,ex,_⟩:=I.Qi p _ b
     exact⟨o,e,ex⟩
   obtain⟨o,e,ex⟩:=z;refine⟨⟨o,e,ex.1⟩,fun a f=>?_⟩;cases f;exact⟨o,e,ex.2.1⟩
  ·obtain⟨o,_,_,_,e,ex,_⟩:=I.Qi p _ b
   refine⟨⟨o,e,ex.1⟩,fun a f=>?_⟩;cases f;exact⟨o,e,ex.2.1⟩
 |_=>exact False.elim d
def Nt(K:à)(T:String)(r:V->List V->Hp->VK->Prop)(to:TE):TE:=fun b H Q=>to b H fun x a=>xW K T x a/\r x [] a Q
def Ml(K:à)(T:String)(r:V->List V->Hp->VK->Prop)(to:TE)(t:TA):TE:=fun a H Q=>to a H fun x b=>xW K T x b/\t a b fun c d=>r x c d Q
variable{o e:Î}{es:List Î}{to:TE}{t:TA}{name:Í}{apos cpos:ĥ}{T id:String}{r:V->List V->Hp->VK->Prop}
theorem H0(m:K? T)(c:Slot T name id)(d:typeOf (.builtin id)=pure (.type "method_descriptor"))(p:mL X id r)(n:PE X o to)
  (b:autoParam (Ě o name X.env (eval o X.env)=eval o X.env) Ax2._auto_1) (a:autoParam ((apos.endLine==cpos.line)=Ã) Ax2._auto_1):PE X (.Call (.Attribute o name apos) [] [] cpos) (Nt X.K T r to):=by
 intro g s f H Q I h;refine wpAny_Call_method0_late b a (aK (n g s f H _ I h) fun v k e=>?_);obtain⟨x,u,i,r1,j,l⟩:=e;obtain⟨t,q⟩:=xV i r1 j;exact⟨T,id,m,c,d,t,q,Calls.callWith_builtin rfl (PySem.evalArgs_none (p g k f u x [] v [] Q i r1 .nil l))⟩
theorem K6(A:K? T)(d:Slot T name id)(i:typeOf (.builtin id)=pure (.type "method_descriptor"))(C:mL X id r)(B:PE X o to)(D:PA X (e::es) t)
  (c:autoParam (Ě o name X.env (eval o X.env)=eval o X.env) Ax2._auto_1)
  (f:autoParam (((ā cpos (Ë (e::es) X.env)).all (fun x=>!x.1)&&(Ň cpos (ē [] X.env)).all (fun x=>x.1.isSome)
   && decide ((e::es).length+([]:List Ŋ).length+(if([]:List Ŋ).isEmpty then 0 else 1)<30))=Ã) Ax2._auto_1)
  (b:autoParam ((apos.endLine==cpos.line)=Ã) Ax2._auto_1) (hs:autoParam (Ë (e::es) X.env=(Ä,eval e X.env)::Ë es X.env) Ax2._auto_1) (a:autoParam ((ā cpos (Ë es X.env)).any (·.1)=Ä) Ax2._auto_1) :
  PE X (.Call (.Attribute o name apos) (e::es) [] cpos) (Ml X.K T r to t):=by
 intro k s g H Q I h;refine wpAny_Call_method_late c f b rfl (aK (B k s g H _ I h) fun v w j=>?_);obtain⟨x,K,m,r1,q,z⟩:=j;obtain⟨F,E⟩:=xV m r1 q;refine⟨T,id,A,d,i,F,E,?_⟩;have l:=D cpos k w g K _ m z;rw[hs]at l ⊢;refine Calls.callWith_builtin (by show(Ä||(ā cpos (Ë es X.env)).any (·.1))=Ä;rw[a]<;>rfl) (Calls.evalArgs_plain ?_);exact aK l fun p u ⟨n,J,G,r2,y⟩=>C k u g J x n v p Q G r1 r2 y
end
def MU(X:Cx)(id:String)(r:V->List V->Hp->VK->Prop):Prop :=
 ∀(d:List (Ç×Obj))(s:Ê)(a:St)(H:Hp)(x:V)(b:List V)(v:Å)(c:List Å)(Q:VK),Inv X d a H s->RelV x v->Vals b c->r x b H Q ->
  Ï (model X.prog X.w) X.A (call (.builtin id) (v::c)) (EP X d a Q) X.xe s
theorem Vals.one{x:V}{us:List Å}(h:Vals [x] us):∃u,us=[u]/\RelV x u:=by
 cases h with
 |cons r h=>cases h;exact⟨_,rfl,r⟩
theorem Vals.rep(h:Vals xs us):∀k:Nat,Vals (É k xs).flatten (É k us).flatten
 |0=>.nil
 |k+1=>by
  rw[ì,ì,č,č];exact Vals.append h (Vals.rep h k)
theorem rh(Qe:List Å):∀(k:Nat)(acc:List Å),
  S7 (fun x1 x2=>x1++x2) acc.toArray (É k Qe.toArray)=(acc++(É k Qe).flatten).toArray
 |0,acc=>by simp
 |k+1,acc=>by
  have e:acc.toArray++Qe.toArray=(acc++Qe).toArray:=by simp
  have a:(acc++Qe)++(É k Qe).flatten=acc++(É (k+1) Qe).flatten:=by
   rw[ì,č,yO]
  rw[<- a,<- rh Qe k (acc++Qe),<- e,ì,Õ]
section
variable{X:Cx}{Qa:List (Ç×Obj)}{σ:St}{H:Hp}{s:Ê}{l b:Ç}{xs ys zs:List V}
theorem Inv.lset{Qe its':List Å}{n:Nat}{f:Array Å->Array Å}{t':Nat}(I:Inv X Qa σ H s)(g:H l=À (.lst xs))
  (e:s.heap.get? l=À { cls:=.type "list",data:=.seq Qe.toArray n }) (c:f Qe.toArray=its'.toArray) (a:Vals ys its') (hz:ys.length<=Ì) :
  Inv X Qa σ (ai H l (.lst ys)) { s with heap:=s.heap.update l (ġ f),toks:=t' }:=by
 have q:=PySem.IsL.update e f;rw[c]at q;refine I.write (x:=l) (e:=l) (by rw[g];exact trivial) (.inl rfl) (fun h u d b=>(D? s.heap (ġ f) (æ d)).trans b) ⟨_,q⟩ ?_;exact⟨hz,its',_,a,q⟩
theorem Inv.lnew{t':Nat}(I:Inv X Qa σ H s)(a:Vals ys Qe)(hz:ys.length<=Ì) :
  Inv X Qa σ (ai H s.heap.objs.size (.lst ys)) { s with heap:=s.heap.push { cls:=.type "list",data:=.seq Qe.toArray },toks:=t' } :=
 I.laid (fun _ _ q=>zG _ q) (zP _) ⟨hz,Qe,0,a,zY _ rfl⟩
theorem Inv.fresh(I:Inv X Qa σ H s):H s.heap.objs.size=Á:=I.Qi.fresh (zP _)
theorem Inv.lstM(I:Inv X Qa σ H s)(a:H l=À (.lst xs)):xs.length<=Ì/\∃(Qe:List Å)(n:Nat),Vals xs Qe/\xs.length=Qe.length/\s.heap.get? l=À { cls:=.type "list",data:=.seq Qe.toArray n }:=by
 obtain⟨z,Qe,n,r,e⟩:=I.Qi l _ a;exact⟨z,Qe,n,r,r.length,e⟩
theorem notLongL{n:Nat}(h:n<=Ì):ù n=Ä:=by
 unfold ù;exact yB oM
end
section
variable{X:Cx}
def EG:V->List V->Hp->VK->Prop:=fun x b H Q=>∃l a y,x=.ref l/\b=[y]/\H l=À (.lst a)/\a.length<Ì/\Q .non (ai H l (.lst (a++[y])))
theorem qV:MU X "list.append" EG:=by
 intro m s f H x i v j Q I rx c h;obtain⟨l,g,y,rfl,rfl,a,hz,q⟩:=h;cases rx;obtain⟨u,rfl,d⟩:=c.one;obtain⟨z,b,n,r,k,e⟩:=I.lstM a;refine ϐ F.slot_list_append ⟨_,e,rfl⟩ F.entry_list_append (F.args_list_append_2 _ _) (PySem.list_append l b.toArray n u (by rw[zI];lia)) ⟨e,?_⟩;refine⟨.non,_,I.lset (its':=b++[u]) a e (by simp) (r.append (.cons d .nil)) ?_,rfl,q⟩;rw[zV,ϊ];lia
def NC:R2:=fun x y H Q=>∃l k a,x=.ref l/\y=.int k/\H l=À (.lst a)/\-(2^63)<=k/\k<2^63/\a.length*k.toNat<=Ì /\
 ∀p,H p=Á->Q (.ref p) (ai H p (.lst (É k.toNat a).flatten))
theorem FK{α:Type}(xs:List α)(k:Nat):(É k xs).flatten.length=k*xs.length:=by
 induction k with
 |zero=>simp
 |succ k a=>rw[ì,č,zV,a,L',Nat.add_comm]
theorem Ie:mK X (ύ .Mult) NC:=by
 intro L s G H x y v u Q I rx w h;obtain⟨l,k,J,rfl,rfl,B,D,C,hz,q⟩:=h;cases rx;obtain⟨t,rfl⟩:=w;obtain⟨z,b,n,r,A,e⟩:=I.lstM B;have f:b.toArray.size*k.toNat<=Ì:=by rw[zI,<- A];exact hz
 have i:¬b.toArray.size*k.toNat > (2^63-1)/8:=by
  have:(Ì:Nat)<=(2^63-1)/8:=by decide
  lia
 have g:¬(!Builtin.List.listFitsIndex k)=Ã:=by
  rw[fitsIndex_both D C];exact Ğ
 have c:¬ù (b.toArray.size*k.toNat)=Ã:=by
  rw[notLongL f];exact Ğ
 have d:S7 (fun o j=>o++j) #[] (É (if b.toArray.isEmpty=Ã then 0 else k.toNat) b.toArray)=(É k.toNat b).flatten.toArray:=by
  have E:∀m:Nat,S7 (fun o j=>o++j) #[] (É m b.toArray)=(É m b).flatten.toArray:=fun m=>by
   have:=rh b m []
   rw[Ĥ]at this;exact this
  rw[E];cases b with
  |nil=>simp
  |cons a K=>rw[yI (by simp)]
 refine wpAny_binaryOp_repeat_ref (T:="list") (U:="int") dC ⟨_,e,rfl⟩ (fun p=>X0 p k t) noFill_list_mul F.fills_int_mul F.slot_int_rmul repeat_list F.slot_int_index.lookup
  (ϐ F.slot_int_rmul (X0 s k t) F.entry_int_rmul (F.args_int_rmul_2 _ _) (int___rmul___int_list k t l b.toArray n)
   ⟨e,rfl,⟨_,e,rfl⟩,ϐ F.slot_list_mul ⟨_,e,rfl⟩ F.entry_list_mul (F.args_list_mul_2 _ _) (AutoListH.list___mul___list_int_3 l b.toArray n k t g i c) ⟨e,?_⟩⟩)
 rw[d];exact⟨.ref _,_,I.lnew (t':=s.toks) (r.rep k.toNat) (by rw[FK,Nat.mul_comm];exact hz),rfl,q _ I.fresh⟩
end
end L2
namespace Att
open PySem PySem.W PySem.Calls PyProof.Rows
theorem pB:∀(ns:List Int)(vs:List Å),WellAll P h vs (ns.map WData.int)->ϒ vs ns:=by
 intro ns
 induction ns with
 |nil =>
  intro vs w;rw[Ŗ]at w;cases w;exact .nil
 |cons n ns c =>
  intro vs w;rw[zO]at w;cases w with
  |cons a b =>
   cases a;exact .cons _ _ (c _ b)
theorem yo{l:OpenLaw}{n:Nat}(s:l.most=À n){P:Params}{h:é}{args:List WData}{b:List Å}
  (c:l.row.toRowW.claim.pre args=Ã) (i:WellAll P h b args) :
  ∃a vs ns,b=[ó a]/\args=[WData.list (ns.map WData.int)]/\h.get? a=À { cls:=.type "list",data:=.seq vs.toArray }/\ϒ vs ns/\ns.length<=n:=by
 have j:WShape.hasAll [] args [.list .int]=Ã:=(pre_splitW c).1;have k:l.pre.holds [] { args:=args }=Ã:=(pre_splitW c).2;obtain⟨d,r,rfl,v,u⟩:=hasAllW_cons j;obtain rfl:=hasAllW_nil u;obtain⟨w,rfl,t⟩:=hasW_list v;obtain⟨ns,rfl⟩:=items_int t;have e:ns.length<=n:=by
  unfold OpenLaw.pre at k;have g:(WTm.not (.lt (.lit (.int (n:Int))) (.len (.arg 0)))).holds [] { args:=[.list (ns.map .int)] }=Ã:=by
   have g:=(holds_andW k).1;rw[s]at g;exact g
  have f:=condW_of g (w_not (w_lt w_lit (w_len_list (w_arg rfl))));rw[zH]at f;refine V7 fun q=>?_
  have p:(n:Int)<((ns.length:Nat):Int):=by lia
  first
   | (rw [yX p] at f;exact absurd f dC)
   | (simp at f;lia)
 cases i with
 |cons o m =>
  cases m;cases o with
  |list ho hall=>exact⟨_,_,ns,rfl,rfl,ho,pB ns _ hall,e⟩
theorem zg(l:OpenLaw)(args:List WData):l.row.toRowW.claim.post args (.bool Ã) args=Ã :=
 postW_of (r:=l.row.toRowW) (X:=(Ã==Ã))
  (show WShape.has [] (.bool Ã) .bool=Ã by first | rfl | decide | simp [WShape.has,WShape.arms,WShape.armsAll])
  (show (WTm.eq .res (.lit (.bool Ã))).value [] { args:=args,res:=À (.bool Ã),after:=args }=À (.bool (Ã == Ã)) from w_eq_bool (w_res rfl) w_lit) rfl
theorem attach_call{l:OpenLaw}{n:Nat}{q:Ô}{cB:List Í}{v:(Í->Option Å)->é->Prop}{u:Ü->é->Prop}{d:DefRec}
  (A:l.most=À n) (j:d.params.defaults=[])
  (call:∀(w:Ü)(s₀ s₁:Ê)(mg mb:Í->Option Å)(fa:Ç)(o:Z7)(pm cd doc:Å)(a:Ç)(vs:List Å)(ns:List Int),
   Ground q cB [] v w s₀ mg mb s₁.heap->u w s₁.heap ->
   s₁.heap.get? fa=À o->o.data=.func (docDef d.name d.params d.body d.scope pm cd doc)->s₁.heap.CodeRec cd d.name->mg d.name=À (.ref fa) ->
   s₁.heap.get? a=À { cls:=.type "list",data:=.seq vs.toArray }->ϒ vs ns->ns.length<=n->s₁.gens=#[] ->
   ņ (model l.prog w) Ϗ (.call (.ref fa) ⟨[.ref a],[]⟩) (fun r s'=>r=.ok (.ret (.bool Ã))/\OldK s₁.heap s'.heap/\s'.os=s₁.os/\ϔ s'.gens) s₁) :
  WalkO q cB v u l.row.toRowW d [] (fun f vs=>Q5 f vs):=by
 intro w s₀ s₁ mg mb G Y fa o pm cd doc I kV z hd k s i D t m J c p x h C;obtain rfl:I=.none:=Dflts.none s j;obtain rfl:kV=.none:=Dflts.noKw s;obtain⟨a,vs,ns,rfl,rfl,e,b,g⟩:=yo A c h;refine enter_call (ş (call w s₀ s₁ mg mb fa o pm cd doc a vs ns G Y z (fd_plain hd) k i e b g D) fun r s' y=>?_);obtain⟨rfl,H,F,E⟩:=y;exact⟨.inl ⟨.bool Ã,.bool Ã,[],rfl,fun _=>rfl,.bool Ã,zg l _,fun _=>⟨Ŏ,fun _ B=>(nomatch B)⟩⟩,H,F,E⟩
end Att
namespace L2
open PySem PySem.Spec PyProof.Rows
theorem xU:∀{vs:List Å}{ns:List Int},ϒ vs ns->Vals (ns.map V.int) vs:=by
 intro vs ns h
 induction h with
 |nil=>exact .nil
 |cons n t h a=>exact .cons ⟨t,rfl⟩ a
noncomputable def dg(s:ľ):ϯ:=match s with
 |.FunctionDef _ a _ _ _ _ _ _ _ _=>a
 |_=>{ posonlyargs:=[],args:=[],vararg:=Á,kwonlyargs:=[],kw_defaults:=[],kwarg:=Á,defaults:=[] }
noncomputable def df(s:ľ):List ľ:=match s with
 |.FunctionDef _ _ b _ _ _ _ _ _ _=>b
 |_=>[]
noncomputable def cq(s:ľ):ğ:=match s with
 |.FunctionDef _ _ _ _ _ _ sc _ _ _=>sc
 |_=>{ kind:=.function,names:=[],isGenerator:=Ä,isCoroutine:=Ä }
abbrev f9:mN:=fun _ _ _ _ _ _=>False
abbrev E0:XK:=fun _ _ _=>False
theorem o0:iU f9 X E0:=fun _ _ _ _ _ _ _ h=>h.elim
structure Fun(K:à)(x qual:Í)(st:ľ)(f:Ç)(fd:Ĕ):Prop where
 ex:∃(oc:Å)(od:Option Ç)(kV doc pm:Å)(an:Option Ç)(cdv ct:Å)(osl:Array (Option Å)),
  fd=fnOf x qual (dg st) (df st) (cq st) .none kV doc pm an cdv ct/\K.lookup f=À ⟨oc,od,.func fd,osl⟩/\Ϥ K cdv qual=Ã
 kp:Ĺ K (.ref f)=Ã
section
variable{P:Ô}{w:Ü}{K:à}{mg:Í->Option Å}{base:é}
theorem Fun.binds{x qual:Í}{st:ľ}{f:Ç}{fd:Ĕ}{ps:List Í}(F:Fun K x qual st f fd)
  (h:∀(kV doc pm:Å)(an:Option Ç)(cdv ct:Å)(us:List Å),us.length=ps.length->I? (fnOf x qual (dg st) (df st) (cq st) .none kV doc pm an cdv ct) ⟨us,[]⟩=pure (ps.zip us)):Binds K fd ps []:=by
 obtain⟨d,c,kV,doc,pm,an,cdv,ct,a,rfl,lk,b⟩:=F.ex;exact .all (h kV doc pm an cdv ct)
theorem pN{x qual:Í}{st:ľ}{f:Ç}{h:Å}{g e:Option Ç}{d:Array (Option Å)}{kV b pm a ct:Å}(l:K.lookup f=À ⟨h,g,.func (fnOf x qual (dg st) (df st) (cq st) .none kV b pm e a ct),d⟩)
  (c:Ϥ K a qual=Ã) (k:Ĺ K (.ref f)=Ã):Fun K x qual st f (fnOf x qual (dg st) (df st) (cq st) .none kV b pm e a ct):=⟨⟨h,g,kV,b,pm,e,a,ct,d,rfl,l,c⟩,k⟩
end
theorem qS{n:Nat}(h:n<=1000):n<Ì:=yN h dC
end L2
set_option maxHeartbeats 4000000
namespace DD
open PySem PySem.Spec PyProof.Rows L2
abbrev St:=L2.St
section
variable{X:Cx}{e:Î}{es:List Î}{st:ľ}{sts:List ľ}
theorem PE_imp(h:PE X e t)(i:∀σ H Q,t' σ H Q->t σ H Q):PE X e t':=fun b s σ H Q I a=>h b s σ H Q I (i σ H Q a)
theorem PT_imp(h:PT X e t)(i:∀σ H Q,t' σ H Q->t σ H Q):PT X e t':=fun b s σ H Q I a=>h b s σ H Q I (i σ H Q a)
theorem PW_imp(h:PW X e t)(i:∀σ H Q,t' σ H Q->t σ H Q):PW X e t':=fun a c s σ H Q I b=>h a c s σ H Q I (i σ H Q b)
theorem PA_imp(h:PA X es t)(i:∀σ H Q,t' σ H Q->t σ H Q):PA X es t':=fun p b s σ H Q I a=>h p b s σ H Q I (i σ H Q a)
theorem PS_imp(h:PS X st t)(i:∀D σ H,t' D σ H->t D σ H):PS X st t':=fun b s σ H D I a=>h b s σ H D I (i D σ H a)
theorem PSs_imp(h:PSs X sts t)(i:∀D σ H,t' D σ H->t D σ H):PSs X sts t':=fun b s σ H D I a=>h b s σ H D I (i D σ H a)
theorem OpR_imp(h:mK X f r)(i:∀x y H Q,r' x y H Q->r x y H Q):mK X f r':=fun e s c H x y v u Q I a b d=>h e s c H x y v u Q I a b (i x y H Q d)
end
theorem PG_imp(h:PG X tg t)(i:∀v σ H Q,t' v σ H Q->t v σ H Q):PG X tg t':=fun c s σ H v u Q I a b=>h c s σ H v u Q I a (i v σ H Q b)
end DD
namespace L2
open PySem PySem.Spec PyProof.Rows
theorem pX:∀(names:List (Í×NameKind))(n:Nat)(acc:List (Í×Addr)),∃own,Ē n names acc=own++acc/\(∀p∈own,n<=p.2/\(p.1,ě)∈names) /\
  (∀x,(x,ě)∈names->∃c,(x,c)∈own)/\own.Pairwise fun x y=>x.2≠y.2
 |[],n,acc=>⟨[],rfl,(fun _ h=>by cases h),(fun _ h=>by cases h),Ŏ⟩
 |(name,kind)::r,n,acc=>by
  unfold Ē;by_cases hk:kind=.cell
  ·subst hk
   obtain⟨own,e,h1,h2,h3⟩:=pX r (n+1) ((name,n)::acc);refine⟨own++[(name,n)],?_,?_,?_,?_⟩
   ·rw[yJ dC,e,yO];rfl
   ·intro p f
    rcases zZ.mp f with f|f
    ·exact⟨ď (h1 p f).1,zQ _ (h1 p f).2⟩
    ·rw[zM.mp f];exact⟨zP _,z7⟩
   ·intro x d
    rcases zT.mp d with d|d
    ·cases d;exact⟨n,zK _ z7⟩
    ·obtain⟨c,j⟩:=h2 x d;exact⟨c,zL _ j⟩
   ·refine O!.mpr ⟨h3,A! _ _,fun a l b k e=>?_⟩
    rw[zM.mp k]at e;have i:=(h1 a l).1;rw[show a.2=n from e]at i;exact absurd i (Nat.not_succ_le_self n)
  ·obtain⟨own,e,h1,h2,h3⟩:=pX r n acc
   have g:(kind==ě)=Ä:=by cases kind<;>first|rfl|exact absurd rfl hk
   refine⟨own,by rw[g];exact e,fun p f=>⟨(h1 p f).1,zQ _ (h1 p f).2⟩,fun x d=>?_,h3⟩;rcases zT.mp d with d|d
   ·cases d;exact absurd rfl hk
   ·exact h2 x d
theorem lj(h:∀x,(x,Û)∈scope.names->∃c,env.cells.lookup x=À c) :
  ∃cl,X4 scope env=pure cl/\(∀p∈cl,env.cells.lookup p.1=À p.2)/\∀x,(x,Û)∈scope.names->∃c,(x,c)∈cl:=by
 have all:∀(a:List (Í×NameKind))(b:List (Í×Addr)),(∀x,(x,Û)∈a->∃c,env.cells.lookup x=À c)->(∀p∈b,env.cells.lookup p.1=À p.2) ->
   ∃cl,(forIn (m:=Z5) a b fun(p:Í×NameKind)(w:List (Í×Addr))=>if(p.2==Û)=Ã then do let f <- cellOf env p.1;pure (İ ((p.1,f)::w)) else pure (İ w))=pure cl /\
    (∀p∈cl,env.cells.lookup p.1=À p.2)/\(∀p∈b,p∈cl)/\∀x,(x,Û)∈a->∃c,(x,c)∈cl:=by
  intro a
  induction a with
  |nil=>intro b _ n;exact⟨b,by rw[W6],n,fun _ h=>h,(fun _ h=>by cases h)⟩
  |cons p r u =>
   obtain⟨g,i⟩:=p;intro b q n;by_cases t:i=.free
   ·subst t
    obtain⟨c,v⟩:=q g z7;obtain⟨cl,e,l,o,k⟩:=u ((g,c)::b) (fun x d=>q x (zQ _ d)) (fun p j=>by
     rcases zT.mp j with rfl|j
     ·exact v
     ·exact n p j)
    refine⟨cl,?_,l,fun p j=>o p (zQ _ j),fun x d=>?_⟩
    ·rw[W?]
     have y:cellOf env g=pure c:=by unfold cellOf;rw[v]
     simp only[y];exact e
    ·rcases zT.mp d with d|d
     ·cases d;exact⟨c,o _ z7⟩
     ·exact k x d
   ·obtain⟨cl,e,l,o,k⟩:=u b (fun x d=>q x (zQ _ d)) n
    have s:(i==Û)=Ä:=by cases i<;>first|rfl|exact absurd rfl t
    refine⟨cl,?_,l,o,fun x d=>?_⟩
    ·rw[W?];simp only[s,yC,if_false];exact e
    ·rcases zT.mp d with d|d
     ·cases d;exact absurd rfl t
     ·exact k x d
 obtain⟨cl,e,l,_,k⟩:=all scope.names [] h (fun _ h=>by cases h);refine⟨cl,?_,l,k⟩;simp only[X4];rw[e];rfl
theorem Cf
  (e:Q (X1 scope s.heap.objs.size env.globals (Ē (s.heap.objs.size+1) scope.names cl) env.qual Á .none (À env) ę) { s with heap:=ό (s.heap.push { cls:=.type "dict",data:=.dict #[] }) scope.names }) :
  Ï M A (H? scope env.globals cl [] env.qual Á .none (À env)) Q E s:=by
 simp only[H?,N?,if_true];refine yG (wpAny_alloc ?_);refine yG (wpAny_layCells _ (fun d a c=>by cases b:a==ě<;>simp[b]) _ _ _ _ ?_);rw[show({ s with heap:=s.heap.push { cls:=.type "dict",data:=.dict #[] } }:Ê).heap.objs.size=s.heap.objs.size+1 from Ĩ ..];refine yG ?_;rw[W6];exact yH (yH e)
def cY(X:Cx)(N':List Í)(scope:ğ)(cl:List (Í×Addr))(s:Ê)(H:Hp)(a:List Ç)(Qa:List (Ç×Obj)):Cx :=
 { X with N:=N',s₀:=s,H₀:=H,env:=compEnvC scope (Ē (s.heap.objs.size+1) scope.names cl) s.heap.objs.size X.env,outer:=X.stack,stack:=X.stack,ex:=a,
          fn:=fun x=>scope.names.lookup x==À .cell,pn:=X.pn++Qa,xe:=fun _ _=>False }
structure kr(X:Cx)(N':List Í)(scope:ğ):Prop where
 kind:scope.kind=.function
 nd:(scope.names.map (·.1)).Nodup
 len:X.N.length<=N'.length
 free:∀x,(x,Û)∈scope.names->X.env.kindOf x=À .cell\/X.env.kindOf x=À .free
 same:∀i x,i<X.N.length->N'[i]?=À x->(x,Û)∈scope.names->X.N[i]?=À x
 hid:∀i x,i<X.N.length->N'[i]?=À x->(∃k,(x,k)∈scope.names)->(x,Û)∈scope.names
theorem dM{α:Type}:∀{l:List (Í×α)}{x:Í}{k:α},(l.map (·.1)).Nodup->(x,k)∈l->l.lookup x=À k
 |(y,j)::r,x,k,nd,h=>by
  rw[zO,Ŀ]at nd;rcases zT.mp h with h|h
  ·cases h;rw[yP];simp
  ·have ne:x≠y:=fun e=>nd.1 (e▸Ϛ (f:=(·.1)) h)
   rw[yP];have:(x==y)=Ä:=by simpa using ne
   rw[this];exact dM nd.2 h
theorem gO{α:Type}:∀{l:List (Í×α)}{x:Í}{k:α},(x,k)∈l->∃k',l.lookup x=À k'
 |(y,j)::r,x,k,h=>by
  rw[yP];cases hb:x==y with
  |true=>exact⟨j,rfl⟩
  |false =>
   rcases zT.mp h with h|h
   ·cases h;simp at hb
   ·exact gO h
theorem iG(h:(relabel scope env).names.lookup x=À k):(x,k)∈scope.names\/((x,Û)∈scope.names/\k=.cell):=by
 have b:=mem_of_lookup h;unfold relabel at b;obtain⟨⟨n,j⟩,a,e⟩:=yE.mp b;dsimp only at e;split at e
 ·rename_i c
  cases e;refine .inr ⟨?_,rfl⟩;have:j=.free:=by
   cases j<;>simp at c<;>rfl
  subst this;exact a
 ·cases e;exact .inl a
theorem sn{α:Type}{a b:List (Í×α)}(h:∀p∈a,p.1≠x):(a++b).lookup x=b.lookup x:=by
 induction a with
 |nil=>rfl
 |cons p r c =>
  obtain⟨y,j⟩:=p;rw[ė,yP];have:(x==y)=Ä:=by
   have:=h (y,j) z7
   simpa using fun e:x=y=>this e.symm
  rw[this];exact c fun p d=>h p (zQ _ d)
section
variable{X:Cx}{N':List Í}{scope:ğ}{cl:List (Í×Addr)}{s:Ê}{H:Hp}{fp:List Ç}{Qa:List (Ç×Obj)}{σ:St}
theorem CM(T:kr X N' scope)(I:Inv X Qa σ H s)(O:∀p∈cl,X.env.cells.lookup p.1=À p.2)(Z:∀x,(x,Û)∈scope.names->∃c,(x,c)∈cl)
  (hf:∀b∈fp,eU X Qa H b) (ho:∀b∈fp,∃o,s.heap.get? b=À o) :
  Inv (cY X N' scope cl s H fp Qa) [] (σ++É (N'.length-X.N.length) Á) H { s with heap:=ό (s.heap.push { cls:=.type "dict",data:=.dict #[] }) scope.names }:=by
 obtain⟨g,N,o1,o2,o3⟩:=pX scope.names (s.heap.objs.size+1) cl;have B:∀b o,s.heap.get? b=À o->(ό (s.heap.push { cls:=.type "dict",data:=.dict #[] }) scope.names).get? b=À o:=fun b o e=>z! _ _ b o (zG _ e)
 have clt:∀x c,(x,c)∈cl->c<s.heap.objs.size:=fun x c h=>by
  obtain⟨v,z⟩:=I.cell x c (O _ h);exact z.lt
 have f:∀x c,(g++cl).lookup x=À c->(s.heap.objs.size+1<=c/\(x,c)∈g)\/X.env.cells.lookup x=À c:=fun x c h=>by
  rcases zZ.mp (mem_of_lookup h) with h|h
  ·exact .inl ⟨(o1 _ h).1,h⟩
  ·exact .inr (O _ h)
 have hst:∀b∈fp,b∉kJ X.stack:=fun b J z=>by
  rcases zT.mp (I.stkSub b z) with e|e
  ·exact(hf b J).2.1 e
  ·exact(hf b J).2.2.1 e
 have okc:CellsOk (ό (s.heap.push { cls:=.type "dict",data:=.dict #[] }) scope.names) (s.heap.objs.size+1) (Ē (s.heap.objs.size+1) scope.names []):=by
  have q:=cellsFrom_ok scope.names (s.heap.push { cls:=.type "dict",data:=.dict #[] }) (s.heap.objs.size+1) [] ⟨(fun _ _ Y=>by cases Y),Ŏ⟩ (by rw[Ĩ];exact zP _);rw[Ĩ]at q;exact q
 have eown:Ē (s.heap.objs.size+1) scope.names []=g:=by
  obtain⟨own',e',_⟩:=pX scope.names (s.heap.objs.size+1) [];have R:∀(A:List (Í×NameKind))(n:Nat)(D:List (Í×Addr)),Ē n A D=Ē n A []++D:=by
   intro A
   induction A with
   |nil=>intro n D;rfl
   |cons p r V =>
    obtain⟨F,U⟩:=p;intro n D;unfold Ē;split
    ·rw[V (n+1) ((F,n)::D),V (n+1) [(F,n)],yO];rfl
    ·exact V n D
  have:=R scope.names (s.heap.objs.size+1) cl
  rw[N]at this;exact(List.append_cancel_right this).symm
 have ok:(cY X N' scope cl s H fp Qa).Ok:=by
  refine⟨I.ok.mod,T.kind,I.ok.glob,I.ok.blt,zP _,fun x y c h1 L=>?_,fun x h=>?_,fun x c h1 L=>?_,I.ok.hd,I.ok.frames,.inl rfl,fun b J=>⟨?_,fun x c h=>?_⟩,I.bs,z5 I.ok.bsz I.sz,fun b o e J=>?_,hst,I.stack,I.stkFree⟩
  ·have h1:(g++cl).lookup x=À c:=N▸h1
   have L:(g++cl).lookup y=À c:=N▸L;rcases f x c h1 with⟨K,S⟩|E
   ·rcases f y c L with⟨l2,m2⟩|M
    ·exact name_of_addr o3 S m2
    ·obtain⟨v,z⟩:=I.cell y c M
     exact absurd (zJ z.lt (ď (by first|exact l2|exact K))) (xB _)
   ·rcases f y c L with⟨l2,m2⟩|M
    ·obtain⟨v,z⟩:=I.cell x c E
     exact absurd (zJ z.lt (ď (by first|exact l2|exact K))) (xB _)
    ·exact I.ok.inj x y c E M
  ·show ∃c,(Ē (s.heap.objs.size+1) scope.names cl).lookup x=À c
   rw[N];have w:(x,Û)∈scope.names->∃c,(g++cl).lookup x=À c:=fun Y=>by
    obtain⟨c,Q⟩:=Z x Y;exact gO (zK g Q)
   have C:(x,ě)∈scope.names->∃c,(g++cl).lookup x=À c:=fun Y=>by
    obtain⟨c,Q⟩:=o2 x Y;exact gO (zL cl Q)
   rcases h with h|h
   ·rcases iG h with h|⟨h,_⟩
    ·exact C h
    ·exact w h
   ·rcases iG h with h|⟨h,e⟩
    ·exact w h
    ·cases e
  ·have L:(g++cl).lookup x=À c:=N▸L
   have Q:scope.names.lookup x=À .cell:=by
    have:(scope.names.lookup x==À ě)=Ã:=h1;simpa using this
   rcases f x c L with⟨K,S⟩|E
   ·exact ď K
   ·-- x is one of the block's g: Qe cell stands ahead
    obtain⟨c',P⟩:=o2 x (mem_of_lookup Q);obtain⟨c2,G⟩:=gO P;have:(g++cl).lookup x=À c2:=by
     have R:∀l:List (Í×Addr),l.lookup x=À c2->(l++cl).lookup x=À c2:=by
      intro l
      induction l with
      |nil=>intro h;cases h
      |cons p r V =>
       obtain⟨y,j⟩:=p;intro h;rw[ė,yP];rw[yP]at h;cases J:x==y with
       |true=>rw[J]at h;exact h
       |false=>rw[J]at h;exact V h
     exact R g G
    rw[this]at L;cases L;exact ď (o1 _ (mem_of_lookup G)).1
  ·obtain⟨o,e⟩:=ho b J
   exact zU (yK e)
  ·have h:(g++cl).lookup x=À c:=N▸h
   obtain⟨o,e⟩:=ho b J;have hlt:=yK e;rcases f x c h with⟨K,S⟩|E
   ·intro z
    rw[z]at K;exact absurd (zJ hlt (ď K)) (xB _)
   ·exact(hf b J).2.2.2.2.1 x c E
  ·rcases(hf b J).2.2.2.1 with z|z
   ·exact I.ok.noex b o e z
   ·exact absurd (zJ (yK e) (z5 I.ok.bsz z)) (xB _)
 refine⟨ok,rfl,I.bare,Un.kept B,⟨fun _=>Á,(Heap.Ns.new s.heap (.type "dict")).keeps (z! _ _),fun i x v E M e3=>?_⟩,fun x c h=>?_,I.Qi.fresh (zP _),fun x c h=>?_,fun p hp=>?_,I.Qi.kept B,?_⟩
 ·-- a F of the code around
  have hlen:=I.len;have hi:i<σ.length:=by
   rcases yV i σ.length with h|h
   ·exact h
   ·rw[z6 h]at M
    rw[Ă]at M;split at M<;>cases M
  rw[zN hi]at M;have W:∃k,(x,k)∈scope.names:=by
   have:∃k,(relabel scope X.env).names.lookup x=À k:=by
    rcases e3 with h|h|h<;>exact⟨_,h⟩
   obtain⟨k,h⟩:=this;rcases iG h with h|⟨h,_⟩<;>exact⟨_,h⟩
  have t:=T.hid i x oM E W;have eX:=T.same i x oM E t;have kX:=T.free x t;obtain⟨m,hn,hl⟩:=I.loc;obtain⟨u,ru,lk⟩:=hl i x v eX M (by rcases kX with h|h;exact .inr (.inl h);exact .inr (.inr h));refine⟨u,ru,.inr ⟨?_,?_⟩⟩
  ·-- Qe U in the block
   have:∃k,(relabel scope X.env).names.lookup x=À k:=by
    rcases e3 with h|h|h<;>exact⟨_,h⟩
   obtain⟨k,h⟩:=this;rcases iG h with h'|⟨h',e⟩
   ·have e5:=dM T.nd h'
    have e6:=dM T.nd t;rw[e5]at e6;cases e6;exact .inr h
   ·subst e;exact .inl h
  ·rcases lk with⟨k1,_⟩|⟨_,c,Q,z⟩
   ·rcases kX with h|h<;>rw[h]at k1<;>cases k1
   ·refine⟨c,?_,z.keeps B⟩
    show(Ē (s.heap.objs.size+1) scope.names cl).lookup x=À c;rw[N,sn fun p hp e=>?_]
    ·obtain⟨c',P⟩:=Z x t
     obtain⟨c2,G⟩:=gO P
     have:=O _ (mem_of_lookup G)
     rw[Q]at this;cases this;exact G
    ·have e5:=dM T.nd (o1 p hp).2
     rw[e]at e5;have e6:=dM T.nd t;rw[e5]at e6;cases e6
 ·have h:(g++cl).lookup x=À c:=N▸h
  rcases f x c h with⟨K,S⟩|E
  ·exact⟨Á,(okc.empty x c (eown▸S)).1⟩
  ·obtain⟨v,z⟩:=I.cell x c E
   exact⟨v,z.keeps B⟩
 ·have h:(g++cl).lookup x=À c:=N▸h
  rcases f x c h with⟨K,S⟩|E
  ·exact I.Qi.fresh (ď K)
  ·exact I.freeC x c E
 ·rw[û]at hp
  obtain⟨e,n,ne,nf,d⟩:=I.pin p hp;refine⟨B _ _ e,n,zU (yK e),fun z=>?_,d⟩;rcases zT.mp (I.stkSub p.1 z) with z|z
  ·exact ne z
  ·exact nf z
 ·show(σ++É (N'.length-X.N.length) Á).length=N'.length
  rw[zV,ń,I.len]
  have:=T.len
  lia
theorem JF(I:Inv X Qa σ H s)(h:∀b∈fp,eU X Qa H b)(g:Inv (cY X N' scope cl s H fp Qa) pins1 σ1 H1 s1)(hs:į s.heap.objs.size s1.heap h') :
  Inv X Qa σ H1 { s1 with heap:=h' }:=by
 have i:∀b o,s.heap.get? b=À o->b≠s.heap.objs.size:=fun b o e=>zU (yK e)
 have u:=g.base;have j:Un (kJ X.stack) fp H H1 s.heap h':=by
  refine⟨fun b o e n a d=>?_,fun b o e n a d=>?_,u.free,fun b o e d=>?_,u.tups,u.frzs,u.tbls⟩
  ·rw[hs.2 b (i b o e)];exact u.keep b o e n a d
  ·obtain⟨k,q⟩:=u.slot b o e n a d
   exact⟨k,by rw[hs.2 b (i b o e)];exact q⟩
  ·obtain⟨l,q⟩:=u.there b o e d
   exact⟨l,by rw[hs.2 b (i b o e)];exact q⟩
 have f:H1 s.heap.objs.size=Á:=g.free;refine I.call' (s':={ s1 with heap:=h' }) g.os j (fun b o e=>?_) g.bare fun b a=>⟨(h b a).2.2.2.1,(h b a).2.1,(h b a).2.2.2.2.1,(h b a).2.2.2.2.2⟩
 refine(g.Qi b o e).stay (fun c v m q=>(hs.2 c ?_).trans q) (fun _ q=>q) fun _ _ q=>q
 rintro rfl;rcases m with z|z
 ·rw[<- z,f]at e;cases e
 ·rw[f]at z;cases z
def wE(X:Cx)(b:List Î)(t:TT):Prop :=
 ∀(d:List (Ç×Obj))(s:Ê)(a:St)(H:Hp)(Q:Bool->Hp->Prop),Inv X d a H s->t a H Q ->
  Ï (model X.prog X.w) X.A (forIn b Ã fun c r=>if r=Ã then do let ok <- I! c X.env (eval c X.env);pure (İ ok) else pure (İ r)) (TP X d a Q) X.xe s
theorem E9:wE X [] (fun _ H Q=>Q Ã H):=fun b s a H Q I h=>wpAny_tests_nil ⟨H,I,h⟩
theorem E8(h:PT X c t):wE X [c] t:=fun d s a H Q I b=>wpAny_tests_one (h d s a H Q I b)
def GN(k:Nat)(o:TI)(g:TG)(tt:TT)(te:TE):TE:=fun f H Q=>o f H fun J n=>∀p,n p=Á ->
 ∃W:Nat->Nat->St->Hp->Prop,(∃m,W 0 m (f++É k Á) (ai n p (.lst [])))/\∀i m b d,W i m b d ->
  (J.stop i d/\Q (.ref p) d)\/(J.go i d/\∀x l,J.yld i d x l->g x b l fun a q=>tt a q fun ok j=>if ok=Ã then
   te a j fun y h=>∃e,h p=À (.lst e)/\e.length<Ì/\∃c,c<m/\W (i+1) c a (ai h p (.lst (e++[y])))
   else ∃c,c<m/\W (i+1) c a j)
theorem uW(I:Nat->Ê->Prop)
  (turn:∀n s,I n s->Ï (model prog w) A (G! it) (fun r s₁=>match r with
   |none=>R (.ok .next) s₁
   |some v=>Ï (model prog w) A (ϗ target it v) (fun _ s₁'=>Ï (model prog w) A (assign target env v) (fun _ s₂ =>
     Ï (model prog w) A (forIn ifs Ã fun c r=>if r=Ã then do let ok <- I! c env (eval c env);pure (İ ok) else pure (İ r)) (fun ok s₃ =>
      if ok=Ã then Ï (model prog w) A (eval elt env) (fun x s₄ =>
       Ï (model prog w) A (call (.builtin "list.append") [acc,x]) (fun _ s₅=>∃m,m<n/\I m s₅) (fun _ _=>False) s₄) (fun _ _=>False) s₃
      else ∃m,m<n/\I m s₃) (fun _ _=>False) s₂) (fun _ _=>False) s₁') (fun _ _=>False) s₁) (fun _ _=>False) s)
  (n:Nat) (h:I n s):ņ (model prog w) A (.compLoop (.ListComp elt [⟨target,iter,ifs,0⟩] scope pos) 0 it acc env) R s:=by
 refine codeAny_loop rfl I (fun n s j=>?_) n h;show Ï _ A ((compTurn (.ListComp elt [⟨target,iter,ifs,0⟩] scope pos) 0 it acc env).onRaise (fun x=>do noteFrame x env;theTreesLotGoes x)) _ _ s;refine wpAny_noted ?_;rw[compTurn_list];refine yG (ź (yG (yU (turn n s j) (fun r s₁ d=>?_) fun _ _ a=>a.elim)));cases r with
 |none=>exact yH d
 |some v =>
  refine yG (yU d (fun _ s₁' e=>?_) fun _ _ a=>a.elim);refine yG (yU e (fun _ s₂ i=>yG (yU i (fun ok s₃ b=>?_) fun _ _ a=>a.elim)) fun _ _ a=>a.elim);cases ok with
  |false=>exact yH ⟨rfl,b⟩
  |true =>
   exact yG (yG (yU b (fun x s₄ g=>yG (yU g (fun _ s₅ f=>yH (yH ⟨rfl,f⟩)) fun _ _ a=>a.elim)) fun _ _ a=>a.elim))
theorem ug{elt z S:Î}{B:List Î}{pos:ĥ}{g:TG}{tt:TT}{te:TE}{J:It}{it:Ç}{tn:Nat->é->Prop}{Q:VK}{E:Å->Ê->Prop}{RR:Å->Ç->Result->Ê->Prop}
  (hc:X.calm=Ã) (T:kr X N' scope) (hcl:∀p∈cl,X.env.cells.lookup p.1=À p.2) (hfr:∀x,(x,Û)∈scope.names->∃c,(x,c)∈cl)
  (hg:∀cl s H fp Qa,PG (cY X N' scope cl s H fp Qa) S g) (ht:∀cl s H fp Qa,wE (cY X N' scope cl s H fp Qa) B tt) (he:∀cl s H fp Qa,PE (cY X N' scope cl s H fp Qa) elt te)
  (I:Inv X Qa σ H s) (v:kn X.prog X.w X.K S J fp it tn) (st0:tn 0 s.heap) (hf:∀b∈fp,eU X Qa H b)
  (h:∀p,H p=Á->∃W:Nat->Nat->St->Hp->Prop,(∃m,W 0 m (σ++É (N'.length-X.N.length) Á) (ai H p (.lst [])))/\∀i m σ' H',W i m σ' H' ->
   (J.stop i H'/\Q (.ref p) H')\/(J.go i H'/\∀x H2,J.yld i H' x H2->g x σ' H2 fun σ2 H3=>tt σ2 H3 fun ok H4=>if ok=Ã then
    te σ2 H4 fun y H5=>∃ys,H5 p=À (.lst ys)/\ys.length<Ì/\∃m',m'<m/\W (i+1) m' σ2 (ai H5 p (.lst (ys++[y])))
    else ∃m',m'<m/\W (i+1) m' σ2 H4))
  (hRR:∀p C s1 H1,Inv X Qa σ H1 s1->Q (.ref p) H1->(∃m,s1.heap.Ns C m)->H1 C=Á->s.heap.objs.size<=C->RR (.ref p) C (.ok .next) s1) :
  Ï (model X.prog X.w) X.A (newList []) (fun acc s₃=>Ï (model X.prog X.w) X.A (H? scope X.env.globals cl [] X.env.qual Á .none (À X.env)) (fun cenv s₄ =>
   ņ (model X.prog X.w) X.A (.compStart (.ListComp elt [⟨S,z,B,0⟩] scope pos) 0 (.ref it) acc { cenv with scope:=relabel scope X.env }) (RR acc cenv.locals) s₄) E s₃) E s:=by
 refine wpAny_newObj_type (Cf ?_);have Y:H s.heap.objs.size=Á:=I.fresh;obtain⟨W,⟨m0,w0⟩,turn⟩:=h _ Y;have I2:Inv X Qa σ (ai H s.heap.objs.size (.lst [])) { s with heap:=s.heap.push { cls:=.type "list",data:=.seq ([]:List Å).toArray } }:=Inv.lnew (t':=s.toks) (Qe:=[]) (ys:=[]) I .nil (Ő _);have D:∀b∈fp,eU X Qa (ai H s.heap.objs.size (.lst [])) b:=fun b f=>by
  obtain⟨o,e,_⟩:=v.obj _ _ st0 b f;exact⟨by rw[ad (zU (yK e))];exact(hf b f).1,(hf b f).2⟩
 have ho2:∀b∈fp,∃o,(s.heap.push { cls:=.type "list",data:=.seq ([]:List Å).toArray }:é).get? b=À o:=fun b f=>by
  obtain⟨o,e,_⟩:=v.obj _ _ st0 b f;exact⟨o,zG _ e⟩
 have R:=CM T I2 hcl hfr D ho2;have M:tn 0 (ό ((s.heap.push { cls:=.type "list",data:=.seq ([]:List Å).toArray }).push { cls:=.type "dict",data:=.dict #[] }) scope.names) :=
  v.keep _ _ _ st0 fun b f o e=>z! _ _ b o (zG _ (zG _ e))
 generalize t:({ s with heap:=s.heap.push { cls:=.type "list",data:=.seq ([]:List Å).toArray } }:Ê)=s2 at I2 R;have hC:s.heap.objs.size<=s2.heap.objs.size:=by rw[<- t];exact y0 (by show _<(s.heap.push _).objs.size;rw[Ĩ];exact Ĵ _)
 have k:∀{H':Hp},(∀b∈fp,H' b=Á)->∀b∈fp,eU (cY X N' scope cl s2 (ai H s.heap.objs.size (.lst [])) fp Qa) [] H' b:=fun {H'} hn b f=>by
  refine⟨hn b f,(R.ok.exf b f).1,R.ok.exfs b f,.inl f,(R.ok.exf b f).2,fun p Y=>?_⟩;rw[û]at Y;exact(hf b f).2.2.2.2.2 p Y
 have w:∀s4,s4=({ s2 with heap:=ό (s2.heap.push { cls:=.type "dict",data:=.dict #[] }) scope.names }:Ê) ->
   ņ (model X.prog X.w) X.A (.compLoop (.ListComp elt [⟨S,z,B,0⟩] scope pos) 0 (.ref it) (.ref s.heap.objs.size) (cY X N' scope cl s2 (ai H s.heap.objs.size (.lst [])) fp Qa).env) (RR (.ref s.heap.objs.size) s2.heap.objs.size) s4:=by
  rintro s4 rfl;refine uW (fun n U=>∃i σ' H',Inv (cY X N' scope cl s2 (ai H s.heap.objs.size (.lst [])) fp Qa) [] σ' H' U/\tn i U.heap/\(∀b∈fp,H' b=Á)/\W i n σ' H') ?_ m0
   ⟨0,_,_,R,by subst t;exact M,fun b f=>(D b f).1,w0⟩
  rintro n s3 ⟨i,q,H3,I4,L,O,w4⟩;rcases turn i n q H3 w4 with⟨K,qn⟩|⟨go,step⟩
  ·refine aK (v.done (cY X N' scope cl s2 (ai H s.heap.objs.size (.lst [])) fp Qa) rfl rfl rfl hc i [] s3 q H3 (fun _ _=>False) I4 (k O) L K) fun r s5 a=>?_
   obtain⟨hr,I5⟩:=a;subst hr;obtain⟨m,hn,_⟩:=I5.loc;exact hRR _ _ s5 H3 (JF I2 D I5 (t! _ _)) qn ⟨m,hn⟩ I5.free hC
  ·refine aK (v.item (cY X N' scope cl s2 (ai H s.heap.objs.size (.lst [])) fp Qa) rfl rfl rfl hc i [] s3 q H3 (fun _ _=>False) I4 (k O) L go) fun r s5 a=>?_
   obtain⟨u,hr,h5⟩:=a;subst hr;refine aK h5 fun _ s6 a=>?_
   obtain⟨x,H6,I6,r6,y6,A,fr6⟩:=a;have I6':=I6.pinned (k fr6) (v.obj _ _ A);have l:∀{j:St}{G:Hp}{F:Ê}{m':Nat},Inv (cY X N' scope cl s2 (ai H s.heap.objs.size (.lst [])) fp Qa) ([]++gZ fp s6.heap) j G F->m'<n->W (i+1) m' j G ->
     ∃m,m<n/\∃i σ' H',Inv (cY X N' scope cl s2 (ai H s.heap.objs.size (.lst [])) fp Qa) [] σ' H' F/\tn i F.heap/\(∀b∈fp,H' b=Á)/\W i m σ' H':=fun {j G F m'} P N w7=>by
    refine⟨m',N,i+1,j,G,P.unpinned,v.keep _ _ _ A fun b f o e=>(P.pin (b,o) (zK _ (zK _ (dZ f e)))).1,fun b f=>?_,w7⟩;obtain⟨o,e,d⟩:=v.obj _ _ A b f;exact(P.pin (b,o) (zK _ (zK _ (dZ f e)))).2.1
   refine aK (hg _ _ _ _ _ _ s6 q H6 x u _ I6' r6 (step x H6 y6)) fun _ F a=>?_
   obtain⟨j,G,P,q7⟩:=a;refine aK (ht _ _ _ _ _ _ F j G _ P q7) fun ok s8 a=>?_
   obtain⟨H8,I8,V⟩:=a;cases ok with
   |false =>
    simp only[yC,if_false]at V ⊢;obtain⟨m',N,w8⟩:=V;exact l I8 N w8
   |true =>
    simp only[if_true]at V ⊢;refine aK (he _ _ _ _ _ _ s8 j H8 _ I8 V) fun y s9 a=>?_
    obtain⟨Z,H9,I9,r9,ys,e9,l9,m',N,w9⟩:=a;refine aK (qV _ s9 j H9 (.ref s.heap.objs.size) [Z] (.ref s.heap.objs.size) [y] (fun _ H'=>H'=ai H9 s.heap.objs.size (.lst (ys++[Z]))) I9 rfl (.cons r9 .nil) ⟨_,ys,Z,rfl,rfl,e9,l9,rfl⟩) fun _ s10 a=>?_
    obtain⟨_,H10,I10,_,e10⟩:=a;subst e10;exact l I10 N w9
 have st5:tn 0 (ό (s2.heap.push { cls:=.type "dict",data:=.dict #[] }) scope.names):=by subst t;exact M
 have au:=codeAny_compStart_list (w _ rfl) (v.self X.A 0 _ _ (notedBy (model X.prog X.w) X.A (cY X N' scope cl s2 (ai H s.heap.objs.size (.lst [])) fp Qa).env fun x U=>RR (.ref s.heap.objs.size) s2.heap.objs.size (.error x) U) st5 (w _ rfl));subst t;exact au
end
section
variable{X:Cx}{N':List Í}{scope:ğ}{Qa:List (Ç×Obj)}{σ:St}{elt iter tg:Î}{ifs:List Î}{pos:ĥ}{wi:TI}{g:TG}{tt:TT}{te:TE}
theorem uf(T:kr X N' scope):∀x∈scope.names,x.2=.local->scope.names.lookup x.1=À .local:=fun x a e=>by
 obtain⟨n,k⟩:=x;cases e;exact dM T.nd a
theorem K4(F:X.calm=Ã)(T:kr X N' scope)(D:PI X tg iter wi)(E:∀cl s H fp Qa,PG (cY X N' scope cl s H fp Qa) tg g)(y:∀cl s H fp Qa,wE (cY X N' scope cl s H fp Qa) ifs tt)
  (he:∀cl s H fp Qa,PE (cY X N' scope cl s H fp Qa) elt te) (hs:autoParam (∀x,ü iter X.env x=pure x) Ax3._auto_1) :
  PE X (.ListComp elt [⟨tg,iter,ifs,0⟩] scope pos) (GN (N'.length-X.N.length) wi g tt te):=by
 intro Qa s r H Q I h;obtain⟨cl,d,l,k⟩:=lj (scope:=scope) (env:=X.env) fun x w=>I.ok.has x (T.free x w)
 rw[eval_ListComp];refine P! (use:=Á) rfl hs d T.kind (uf T) (yU (D Qa s r H _ I h) (fun U Y M=>yU M (fun u W L=>?_) fun _ _ e=>e) fun _ _ e=>e);obtain⟨it,fp,V,J,H2,rfl,f,O,i,N,R⟩:=L;refine ug (Q:=Q) (RR:=fun n C=>compPost (model X.prog X.w) X.A X.xe Á (EP X Qa r Q) n C) F T l k E y he f O i N R ?_;rintro p C t S P q ⟨m,B⟩ K a;refine⟨m,B,fun Z j=>⟨.ref p,S,?_,rfl,q⟩⟩;refine P.turned (t':=t.toks) (it:=C) (fun b o G e=>(j.2 b G).trans e) K ?_ (.inr (z5 f.sz a)) (fun x c e=>?_) fun p A=>?_
 ·exact æ (zU (zJ f.lt a))
 ·obtain⟨v,z⟩:=f.cell x c e
  exact zU (zJ z.lt a)
 ·exact zU (zJ (yK (f.pin p A).1) a)
theorem ze{i:Nat}(hN:X.N.Nodup)(E:X.N[i]?=À y)(t:Loc X.env.scope y)(u:Ľ (.ListComp elt [⟨tg,iter,ifs,0⟩] scope pos) (À (.Name y py)) spos.line X.env=pure Ã)
  (hc:X.calm=Ã) (T:kr X N' scope) (W:PI X tg iter wi) (Y:∀cl s H fp Qa,PG (cY X N' scope cl s H fp Qa) tg g) (P:∀cl s H fp Qa,wE (cY X N' scope cl s H fp Qa) ifs tt)
  (he:∀cl s H fp Qa,PE (cY X N' scope cl s H fp Qa) elt te) (hs:autoParam (∀x,ü iter X.env x=pure x) Ax3._auto_1) (Z:autoParam (X.fn y=Ã\/X.env.scope.names.lookup y=À .local) Ax1._auto_1) :
  PS X (.Assign [.Name y py] (.ListComp elt [⟨tg,iter,ifs,0⟩] scope pos) spos) (wR (GN (N'.length-X.N.length) wi g tt te) (pJ i)):=by
 intro Qa s L H D I h;obtain⟨cl,f,G,F⟩:=lj (scope:=scope) (env:=X.env) fun x t=>I.ok.has x (T.free x t)
 rw[exec_Assign_Name_used _ _ _ _ u];refine yG (ź (yG ?_));show Ï _ X.A (do let _ <- comprehension (.ListComp elt [⟨tg,iter,ifs,0⟩] scope pos) scope X.env _ (newList []) Ä (eval iter X.env) (À (assign (.Name y py) X.env))) _ _ s;refine yG (yU (P! (use:=À (assign (.Name y py) X.env)) (Q:=fun _ n=>SP X Qa D .next n) rfl hs f T.kind (uf T)
  (yU (W Qa s L H _ I h) (fun xv s1 h1=>yU h1 (fun O s2 h2=>?_) fun _ _ e=>e) fun _ _ e=>e)) (fun _ n S=>yH (yH S)) fun _ _ e=>e)
 obtain⟨it,fp,tn,J,H2,rfl,l,Tn,r,f2,R⟩:=h2;refine ug (Q:=fun x H1=>pJ i x L H1 D.nx) (RR:=fun K C=>compPost (model X.prog X.w) X.A X.xe (À (assign (.Name y py) X.env)) (fun _ n=>SP X Qa D .next n) K C) hc T G F Y P he l Tn r f2 R ?_;rintro p C s3 H3 I3 q ⟨m,V⟩ hC d;have k:C≠X.env.locals:=æ (zU (zJ l.lt d));have j:∀x c,X.env.cells.lookup x=À c->c≠C:=fun x c e=>by
  obtain⟨v,z⟩:=l.cell x c e;exact zU (zJ z.lt d)
 show Ï _ X.A (assign (.Name y py) X.env (.ref p)) _ _ _;refine Y? (qR (v:=.ref p) I3 hN E t rfl (fun N I4 A=>?_) Z);obtain⟨a,M,ha⟩:=A;have B:C≠a:=by
  rcases ha with e|e
  ·rw[e];exact k
  ·exact(j _ _ e).symm
 refine⟨m,V.sameBut M B,fun h' w=>⟨_,H3,?_,q⟩⟩;refine I4.turned (t':=N.toks) (it:=C) (fun b o hb e=>(w.2 b hb).trans e) hC k (.inr (z5 l.sz d)) j fun p U=>?_
 exact zU (zJ (yK (l.pin p U).1) d)
end
end L2
namespace DD
open PySem PySem.Spec PyProof.Rows L2
section
variable{X:Cx}{Qa:List (Ç×Obj)}{σ:St}{H:Hp}{s:Ê}{F:Ç->Prop}
theorem obj_list(I:L2.Inv X Qa σ H s)(h:cu X.K H a vs):∃Qe o n,Vals vs Qe/\s.heap.get? a=À o/\o.cls=.type "list"/\o.data=.seq Qe.toArray n:=by
 obtain⟨Qe,r,⟨o,n,e,c,_,d⟩,_⟩:=I.list h;exact⟨Qe,o,n,r,e,c,d⟩
theorem obj_tup(I:L2.Inv X Qa σ H s)(h:iT X.K H a vs):∃Qe o n,Vals vs Qe/\s.heap.get? a=À o/\o.cls=.type "tuple"/\o.data=.seq Qe.toArray n:=by
 obtain⟨Qe,r,⟨o,e,c,n,d⟩,_⟩:=I.tuple h;exact⟨Qe,o,n,r,e,c,d⟩
end
noncomputable def pyOk(p q:ň):Bool:=p.canLay0&&q.canLay0&&decide (min p.depth q.depth<=50)
end DD
namespace L2
open PySem PySem.Spec PyProof.Rows
def MV(K:à)(a b:Ç):It :=
 ⟨fun i H=>∃d c x y,cu K H a d/\cu K H b c/\d[i]?=À x/\c[i]?=À y,
  fun i H x e=>∃p u w,(∀d,cu K H a d->d[i]?=À u)/\(∀c,cu K H b c->c[i]?=À w)/\H p=Á/\e=ai H p (.tup [u,w])/\x=.ref p,
  fun i H=>∃d c,cu K H a d/\cu K H b c/\(d.length<=i\/c.length<=i)⟩
theorem Inv.turnT{X:Cx}{Qa:List (Ç×Obj)}{σ:St}{H:Hp}{s:Ê}{h':é}{ch:List Ç}{u w:V}{x y:Å}(I:Inv X Qa σ H s)(g:∀b∈ch,eU X Qa H b)(l:RelV u x)(j:RelV w y)
  (i:∀c o,c∉ch->s.heap.get? c=À o->h'.get? c=À o) (B:IsPair h' s.heap.objs.size x y) (p:∀b∈ch,∃o,h'.get? b=À o):Inv X Qa σ (ai H s.heap.objs.size (.tup [u,w])) { s with heap:=h' }:=by
 have a:H s.heap.objs.size=Á:=I.fresh;have h:∀b o,H b=À o->b∉ch:=fun b o e f=>by rw[(g b f).1]at e;cases e
 have ne:∀b o,s.heap.get? b=À o->b≠s.heap.objs.size:=fun b o e=>zU (yK e)
 refine I.step (g':=s.gens) (d':=s.drawn) (t':=s.toks) (ch:=ch) (fun b f=>⟨(g b f).2.2.2.1,(g b f).2.1,(g b f).2.2.2.2.1,(g b f).2.2.2.2.2⟩) (fun b o _ _ d e _=>i b o d e)
  (fun b o _ _ d e _=>⟨o.slots,i b o d e⟩) (fun b o _ e n=>by rw[ad (ne b o e)];exact n) (fun b o d e=>⟨o,i b o d e⟩) (fun b k e=>by rw[ad (bB e a)];exact e)
  (fun b o v e=>by rw[ad (bB e a)];exact e) (fun b E e=>⟨#[],by rw[ad (bB e a),e];simp⟩) (fun m A=>?_) (fun b o e=>?_) I.bare
 ·obtain⟨o,C,D,t,r⟩:=A
  exact⟨o,C,D,i _ o (fun z=>(g _ z).2.1 rfl) t,r⟩
 ·by_cases f:b=s.heap.objs.size
  ·subst f
   rw[aF]at e;cases e;refine⟨by show 2<=Ì;decide,[x,y],.cons l (.cons j .nil),⟨_,B,rfl,_,rfl⟩⟩
  ·rw[ad f]at e
   refine(I.Qi b o e).stay (fun c v d q=>i c v ?_ q) (fun c q=>by rw[ad (bB q a)];exact q) fun c k q=>by rw[ad (bB q a)];exact q
   rcases d with rfl|d
   ·exact h _ _ e
   ·exact h _ _ d
theorem Inv.turnN{X:Cx}{Qa:List (Ç×Obj)}{σ:St}{H:Hp}{s:Ê}{h':é}{ch:List Ç}(I:Inv X Qa σ H s)(d:∀b∈ch,eU X Qa H b)
  (h:∀c o,c∉ch->s.heap.get? c=À o->h'.get? c=À o):Inv X Qa σ H { s with heap:=h' }:=by
 have g:∀b o,H b=À o->b∉ch:=fun b o e f=>by rw[(d b f).1]at e;cases e
 refine I.step (g':=s.gens) (d':=s.drawn) (t':=s.toks) (ch:=ch) (fun b f=>⟨(d b f).2.2.2.1,(d b f).2.1,(d b f).2.2.2.2.1,(d b f).2.2.2.2.2⟩) (fun b o _ _ a e _=>h b o a e)
  (fun b o _ _ a e _=>⟨o.slots,h b o a e⟩) (fun b o _ e n=>n) (fun b o a e=>⟨o,h b o a e⟩) (fun b i e=>e)
  (fun b o v e=>e) (fun b t e=>⟨#[],by rw[e];simp⟩) (fun m k=>?_) (fun b o e=>?_) I.bare
 ·obtain⟨o,l,p,j,r⟩:=k
  exact⟨o,l,p,h _ o (fun z=>(d _ z).2.1 rfl) j,r⟩
 ·refine(I.Qi b o e).stay (fun c v a q=>h c v ?_ q) (fun c q=>q) fun c i q=>q
  rcases a with rfl|a
  ·exact g _ _ e
  ·exact g _ _ a
theorem dP(I:Inv X Qa σ H s)(h:cu X.K H a xs)(j:eU X Qa H b)(d:∃o,s.heap.get? b=À o/\o.cls≠.type "list"):a≠b:=by
 rintro rfl;obtain⟨k,r,⟨o,n,e,c,_⟩,_⟩:=I.list h;obtain⟨i,f,g⟩:=d;rw[e]at f;cases f;exact g c
theorem Bm{P:Ô}{w:Ü}{K:à}{Y:List Î}{x1:Nat}{O:ĥ}(a b z TI TO g f:Ç)(D1:TI≠z)(D2:TO≠z)(D3:g≠z)(D4:f≠z)(D5:TI≠TO)(D6:TI≠g)(D7:TI≠f)(D8:TO≠g)(D9:TO≠f)(D10:g≠f) :
  kn P w K (.Tuple Y x1 O) (MV K a b) [z,TI,TO,g,f] z (fun i h=>IsZip h z TI TO .none/\IsPair h TI (.ref g) (.ref f)/\(∃u v,IsPair h TO u v)/\h.IsListIter g a i/\h.IsListIter f b i) where
 mem:=by simp
 obj:=fun i h hq0 c d=>by
  obtain⟨hz,l,⟨u,v,j⟩,⟨o1,B,c1,d1⟩,⟨o2,A,c2,d2⟩⟩:=hq0;simp only[zT,zX,or_false]at d;rcases d with rfl|rfl|rfl|rfl|rfl
  ·exact⟨_,hz,fun v z=>nomatch z⟩
  ·exact⟨_,l,fun v z=>nomatch z⟩
  ·exact⟨_,j,fun v z=>nomatch z⟩
  ·exact⟨_,B,fun v z=>by rw[d1]at z;cases z⟩
  ·exact⟨_,A,fun v z=>by rw[d2]at z;cases z⟩
 keep:=fun i h N ⟨hz,l,⟨u,v,j⟩,F,C⟩ k=>⟨k z (by simp) _ hz,k TI (by simp) _ l,⟨u,v,k TO (by simp) _ j⟩,F.at fun o e=>k g (by simp) o e,C.at fun o e=>k f (by simp) o e⟩
 item:=by
  rintro X hP hw hK d i Z s σ H E I M ⟨hz,l,⟨ua,ub,j⟩,F,C⟩ ⟨xs,ys,x,y,n,m,hx,hy⟩;subst hP hw hK;obtain⟨T,J,p1,_⟩:=I.list n;obtain⟨S,G,p2,_⟩:=I.list m;obtain⟨u1,hu1,ru1⟩:=J.get hx;obtain⟨u2,hu2,ru2⟩:=G.get hy;have R:∀c∈[z,TO,g,f],∃o,s.heap.get? c=À o/\o.cls≠.type "list":=fun c d=>by
   obtain⟨o1,B,c1,d1⟩:=id F;obtain⟨o2,A,c2,d2⟩:=id C;simp only[zT,zX,or_false]at d;rcases d with rfl|rfl|rfl|rfl
   ·exact⟨_,hz,by simp⟩
   ·exact⟨_,j,by simp⟩
   ·exact⟨_,B,by rw[c1];simp⟩
   ·exact⟨_,A,by rw[c2];simp⟩
  have t:∀c∈[z,TO,g,f],a≠c:=fun c d=>dP I n (M c (by simp at d ⊢;rcases d with h|h|h|h<;>simp[h])) (R c d)
  have r:∀c∈[z,TO,g,f],b≠c:=fun c d=>dP I m (M c (by simp at d ⊢;rcases d with h|h|h|h<;>simp[h])) (R c d)
  have D:ZipApart z TI TO g f a b:=⟨D1,D2,D3,D4,D5,D6,D7,D8,D9,D10,t z (by simp),t TO (by simp),t g (by simp),t f (by simp),r z (by simp),r TO (by simp),r g (by simp),r f (by simp)⟩;refine wpAny_pyNext_zip_item D hz l j F C p1.isList p2.isList (x:=u1) (y:=u2) (by simpa using hu1) (by simpa using hu2) fun N a1 a2 a3 a4 a5 a6 hk=>?_
  have p:∀c∈[z,TO,g,f],eU X Z H c:=fun c d=>M c (by simp at d ⊢;rcases d with h|h|h|h<;>simp[h])
  have U:∀c o,c∉[z,TO,g,f]->s.heap.get? c=À o->N.get? c=À o:=fun c o d e=>hk c o (fun q=>d (by simp[q])) (fun q=>d (by simp[q])) (fun q=>d (by simp[q])) (fun q=>d (by simp[q])) e
  have I1:Inv X Z σ (ai H s.heap.objs.size (.tup [x,y])) { s with heap:=N }:=I.turnT p ru1 ru2 U a5 (fun c d=>by
   obtain⟨o1,B,_⟩:=id a3;obtain⟨o2,A,_⟩:=id a4;simp only[zT,zX,or_false]at d;rcases d with rfl|rfl|rfl|rfl
   ·exact⟨_,a1⟩
   ·exact⟨_,a2⟩
   ·exact⟨_,B⟩
   ·exact⟨_,A⟩)
  have hfr:H s.heap.objs.size=Á:=I.fresh;refine⟨_,rfl,wpAny_letOwnedTupleGo_zip (s:={ s with heap:=N }) a1 fun h'' z1 Q=>?_⟩;have V:∀c∈[z,TI,TO,g,f],(ai H s.heap.objs.size (.tup [x,y])) c=Á:=fun c d=>by
   have lt:c<s.heap.objs.size:=by
    obtain⟨o1,B,_⟩:=id F;obtain⟨o2,A,_⟩:=id C;simp only[zT,zX,or_false]at d;rcases d with rfl|rfl|rfl|rfl|rfl
    ·exact yK hz
    ·exact yK l
    ·exact yK j
    ·exact yK B
    ·exact yK A
   rw[ad (zU lt)];exact(M c d).1
  have I2:Inv X Z σ (ai H s.heap.objs.size (.tup [x,y])) { s with heap:=h'' }:=Inv.turnN (s:={ s with heap:=N }) (ch:=[z]) I1 (fun c d=>by
   have:c=z:=by simpa using d
   subst this;exact⟨V c (by simp),(M c (by simp)).2⟩) (fun c o d e=>(Q.2 c (fun q=>d (by simp[q]))).trans e)
  refine⟨.ref s.heap.objs.size,_,I2,rfl,⟨_,x,y,fun zs L=>by rw[I.list_inj L n];exact hx,fun zs L=>by rw[I.list_inj L m];exact hy,hfr,rfl,rfl⟩,⟨z1,?_,⟨u1,u2,?_⟩,?_,?_⟩,V⟩
  ·exact(Q.2 TI D1).trans (U TI _ (by simp[D1,D5,D6,D7]) l)
  ·exact(Q.2 TO D2).trans a2
  ·exact a3.at fun o e=>(Q.2 g D3).trans e
  ·exact a4.at fun o e=>(Q.2 f D4).trans e
 done:=by
  rintro X hP hw hK d i Z s σ H E I M ⟨hz,l,⟨ua,ub,j⟩,F,C⟩ ⟨xs,ys,n,m,W⟩;subst hP hw hK;obtain⟨T,J,p1,_⟩:=I.list n;obtain⟨S,G,p2,_⟩:=I.list m;have R:∀c∈[z,TO,g,f],∃o,s.heap.get? c=À o/\o.cls≠.type "list":=fun c d=>by
   obtain⟨o1,B,c1,d1⟩:=id F;obtain⟨o2,A,c2,d2⟩:=id C;simp only[zT,zX,or_false]at d;rcases d with rfl|rfl|rfl|rfl
   ·exact⟨_,hz,by simp⟩
   ·exact⟨_,j,by simp⟩
   ·exact⟨_,B,by rw[c1];simp⟩
   ·exact⟨_,A,by rw[c2];simp⟩
  have p:∀c∈[z,TO,g,f],eU X Z H c:=fun c d=>M c (by simp at d ⊢;rcases d with h|h|h|h<;>simp[h])
  have t:∀c∈[z,TO,g,f],a≠c:=fun c d=>dP I n (p c d) (R c d)
  have r:∀c∈[z,TO,g,f],b≠c:=fun c d=>dP I m (p c d) (R c d)
  have D:ZipApart z TI TO g f a b:=⟨D1,D2,D3,D4,D5,D6,D7,D8,D9,D10,t z (by simp),t TO (by simp),t g (by simp),t f (by simp),r z (by simp),r TO (by simp),r g (by simp),r f (by simp)⟩;have hl1:=J.length;have hl2:=G.length;refine wpAny_pyNext_zip_end (I.ok.hd d) D hz l j F C p1.isList p2.isList (by rcases W with h|h;(left;simp;lia);(right;simp;lia)) fun N hk=>⟨rfl,?_⟩
  exact I.turnN p fun c o d e=>hk c o (fun q=>d (by simp[q])) (fun q=>d (by simp[q])) (fun q=>d (by simp[q])) (fun q=>d (by simp[q])) e
 self:=fun _ _ _ _ _ ⟨hz,_⟩ h=>Y9 hz h
def NX(K:à)(h:TA):TI:=fun d H R=>h d H fun g c=>∃a b,g=[.ref a,.ref b]/\(∃f,cu K c a f)/\(∃e,cu K c b e)/\R (MV K a b) c
theorem HL{C:Nat}(Q:Gl X "zip")(O:X.mg "zip"=Á)(S:PA X [a,b] ta)(hs:autoParam (Ë [a,b] X.env=[(Ä,eval a X.env),(Ä,eval b X.env)]) Ax2._auto_1)(f:autoParam (Ë [b] X.env=[(Ä,eval b X.env)]) Ax2._auto_1) :
  PI X (.Tuple elts C tpos) (.Call (.Name "zip" p) [a,b] [] pos) (NX X.K ta):=by
 intro A s u H R I h;refine M' (d5 I Q O boot_zip (Ö (aK (S pos A s u H _ I h) fun us d ⟨vs,B,i,r1,G⟩=>?_) (by rw[hs,f]) (by rw[f];rfl)));obtain⟨M,L,e,⟨xs,m⟩,⟨ys,l⟩,q⟩:=G;subst e;cases r1 with
 |cons r j =>
  cases j with
  |cons F j =>
   cases j;cases r;cases F;obtain⟨w,E,K,_⟩:=i.list m;obtain⟨v,D,J,_⟩:=i.list l;refine call_zip_2 K.isList J.isList fun y hz t o U T N P=>?_
   have I2:Inv X A u B { d with heap:=y }:=i.kept (t':=d.toks) P;refine Y9 (s:={ d with heap:=y }) hz ?_;have lt:∀k:Nat,d.heap.objs.size<=d.heap.objs.size+k:=fun k=>d! _ _
   refine⟨_,[d.heap.objs.size+4,d.heap.objs.size+2,d.heap.objs.size+3,d.heap.objs.size,d.heap.objs.size+1],_,_,B,rfl,I2,
    Bm M L (d.heap.objs.size+4) (d.heap.objs.size+2) (d.heap.objs.size+3) d.heap.objs.size (d.heap.objs.size+1) ?_ ?_ ?_ ?_ ?_ ?_ ?_ ?_ ?_ ?_,⟨hz,t,⟨_,_,o⟩,U,T⟩,fun c x=>?_,q⟩
   all_goals first
    | (show _ + _ ≠ _ + _;intro z;exact absurd (Nat.add_left_cancel z) dC)
    | (show _ ≠ _ + _;intro z;exact absurd z (by have:=ŵ (n:=d.heap.objs.size) (k:=4) dC;have:=ŵ (n:=d.heap.objs.size) (k:=1) dC;exact zU (by assumption)))
    | (show _ + _ ≠ _;exact ĳ (ŵ dC))
    |skip
   have g:d.heap.objs.size<=c:=by
    simp only[zT,zX,or_false]at x;rcases x with rfl|rfl|rfl|rfl|rfl
    ·exact lt 4
    ·exact lt 2
    ·exact lt 3
    ·exact zP _
    ·exact lt 1
   obtain⟨f0,f1,Z,Y,W,V⟩:=i.fpOk g (i.Qi.fresh g);exact⟨f0,f1,Z,Y,W,V⟩
theorem CC:C1 X (fun o i H Q=>∃p xs k v,o=.ref p/\i=.int k/\cu X.K H p xs/\ii xs k=À v/\Q v H):=by
 rintro D s g H o i E F Q I h l ⟨p,xs,k,v,B,A,m,u,q⟩;subst B A;cases h;obtain⟨t,rfl⟩:=l;obtain⟨C,r,d,hz⟩:=I.list m;obtain⟨j,a,z,J,y,x⟩:=nk u;obtain⟨w,f,b⟩:=r.get z;have n:=r.length;have G:=iN;have au:EP X D g Q w s:=⟨v,H,I,b,q⟩;by_cases e:0<=k
 ·have c:k.toNat=j:=by
   rw[t? e x]at a;exact yF a
  exact wpAny_getItem_list d.isList e oM (by rw[c];simpa using f) au
 ·have c:(k+(C.toArray.size:Int)).toNat=j:=by
   rw[j? oM y]at a;rw[zI,<- n];exact yF a
  exact T0 d.isList oM (by rw[zI]<;>lia) oM (by rw[c];simpa using f) au
end L2
namespace DD
open PySem PySem.Spec PyProof.Rows L2
section
variable{X:Cx}{e o a b:Î}{es:List Î}{p q:DP}{c c':DE}{pos apos cpos:ĥ}{i:Nat}{js:List DP}
theorem cnt_vals{h:é}{q:ň}{e:Å->Bool}(he:∀v p as,Ÿ h v p as->e v=å p q):∀{vs:List Å}{ps:List ň}{as:List Ç},k! h vs ps as->vs.countP e=ps.countP fun r=>å r q:=by
 intro vs
 induction vs with
 |nil=>intro ps as h;cases h;rfl
 |cons v vs b =>
  intro ps as h;cases h with
  |cons r a=>rw[U3,U3,b a,he _ _ _ r]
theorem reads_each{h:é}:∀{vs:List Å}{ps:List ň}{as:List Ç},k! h vs ps as->∀v∈vs,∃p as',p∈ps/\Ÿ h v p as':=by
 intro vs
 induction vs with
 |nil=>intro ps as h v a;cases a
 |cons v vs c =>
  intro ps as h v a;cases h with
  |cons r b =>
   rcases zT.mp a with rfl|a
   ·exact⟨_,_,z7,r⟩
   ·obtain⟨p,as',d,h⟩:=c b v a
    exact⟨p,as',zQ _ d,h⟩
noncomputable def minL:List Int->Option Int
 |[]=>Á
 |x::xs=>À (xs.foldl (fun a b=>if b<a then b else a) x)
theorem minF:∀(xs:List Int)(x:Int),(xs.foldl (fun a b=>if b<a then b else a) x∈x::xs)/\∀a∈x::xs,xs.foldl (fun a b=>if b<a then b else a) x<=a
 |[],x=>⟨by simp,by simp⟩
 |y::xs,x=>by
  obtain⟨h1,h2⟩:=minF xs (if y<x then y else x);rw[Õ];constructor
  ·rcases zT.mp h1 with h|h
   ·rw[h];split<;>simp
   ·simp[h]
  ·intro a c
   have d:=h2 (if y<x then y else x) (by simp);have f:(if y<x then y else x)<=x:=by split<;>lia
   have e:(if y<x then y else x)<=y:=by split<;>lia
   rcases zT.mp c with rfl|c
   ·exact ĵ d f
   ·rcases zT.mp c with rfl|c
    ·exact ĵ d e
    ·exact h2 a (by simp[c])
theorem minL_eq{m M:Int}(h:minL ns=À m)(b:M∈ns)(d:∀a∈ns,M<=a):M=m:=by
 cases ns with
 |nil=>cases b
 |cons x c =>
  cases h;obtain⟨g1,e⟩:=minF c x;have a1:=e M b;have a2:=d _ g1;lia
end
section
variable{X:Cx}{e o a b:Î}{es:List Î}{p q:DP}{c c':DE}{pos apos cpos:ĥ}{i:Nat}{js:List DP}
theorem any_vals{h:é}{q:ň}{e:Å->Bool}(he:∀v p as,Ÿ h v p as->e v=å p q):∀{vs:List Å}{ps:List ň}{as:List Ç},k! h vs ps as->vs.any e=ps.any fun r=>å r q
 |_,_,_,.nil=>rfl
 |_,_,_,.cons r rs=>by rw[ŧ,ŧ,any_vals he rs,he _ _ _ r]
end
end DD
namespace L2
open PySem PySem.Spec PyProof.Rows
def A8(K:à)(a:Ç)(n0:Nat):It :=
 ⟨fun i H=>∃b x,cu K H a b/\b[i]?=À x,
  fun i H x c=>∃p u,(∀b,cu K H a b->b[i]?=À u)/\H p=Á/\c=ai H p (.tup [.int ((n0+i:Nat):Int),u])/\x=.ref p,
  fun i H=>∃b,cu K H a b/\b.length=i⟩
theorem rF(k:A.handled=Á)(it l:Ç)(d:l≠it)(a:Array Å)(n0:Nat) :
  Draws prog w A it [it,l] (n0+a.size) (fun i v=>n0<=i/\a[i-n0]?=À v) (fun i h=>n0<=i/\h.IsListIter it l (i-n0)/\h.IsList l a) where
 live:=fun _ _ q=>by obtain⟨o,j,_⟩:=q.2.1;exact⟨o,j⟩
 frame:=fun _ _ _ q g=>⟨q.1,q.2.1.at fun o e=>g it (by simp) o e,q.2.2.at fun o e=>g l (by simp) o e⟩
 item:=fun i s Q E r q m=>by
  have f:i-n0<a.size:=by have:=q.1;lia
  refine wpAny_nextOf_list_item q.2.1 q.2.2 (x:=a[i-n0]) (by simp[f]) fun p c b=>?_
  refine m _ p s.toks ⟨q.1,by simp[f]⟩ ⟨Nat.le_succ_of_le q.1,?_,q.2.2.extBut b.extBut d⟩ b;rw[show i+1-n0=i-n0+1 by have:=q.1;lia];exact c
 done:=fun s Q E q n=>wpAny_nextOf_list_end k q.2.1 q.2.2 (by simp) n
theorem xY{P:Ô}{w:Ü}{K:à}{y:List Î}{x1:Nat}{n:ĥ}(a z it:Ç)(n0:Nat)(D:z≠it) :
  kn P w K (.Tuple y x1 n) (A8 K a n0) [z,it] z (fun i h=>(∃old,IsEnum h z it ((n0+i:Nat):Int) old)/\h.IsListIter it a i) where
 mem:=by simp
 obj:=fun i h S c b=>by
  obtain⟨⟨old,hz⟩,⟨F,d,J,d1⟩⟩:=S;simp only[zT,zX,or_false]at b;rcases b with rfl|rfl
  ·exact⟨_,hz,fun v z=>nomatch z⟩
  ·exact⟨_,d,fun v z=>by rw[d1]at z;cases z⟩
 keep:=fun i h l ⟨⟨old,hz⟩,g⟩ k=>⟨⟨old,k z (by simp) _ hz⟩,g.at fun o e=>k it (by simp) o e⟩
 item:=by
  rintro X Z R hK b i B s C H E I f ⟨⟨old,hz⟩,g⟩ ⟨xs,x,j,hx⟩;subst Z R hK;obtain⟨L,M,N,_⟩:=I.list j;obtain⟨u,hu,ru⟩:=M.get hx;have na:a≠z:=dP I j (f z (by simp)) ⟨_,hz,by simp⟩;have O:a≠it:=dP I j (f it (by simp)) (by obtain⟨F,d,J,d1⟩:=id g;exact⟨_,d,by rw[J];simp⟩);have V:i<L.length:=(zB.mp hu).1;refine wpAny_pyNext_enum_itemD (rF (A:=X.A.in1) (I.ok.hd b) it a O L.toArray n0) hz ⟨d! _ _,by rw[Ŷ];exact g,N.isList⟩ (by simp[V]) D (by simp[D,na.symm]) fun v l m hv ho p hT hsz U=>?_
  have ev:v=u:=by
   have G:=hv.2;rw[Ŷ]at G;simp only[List.getElem?_toArray]at G;rw[hu]at G;exact(yF G).symm
  subst ev;have Y:∀c∈[z,it],eU X B H c:=fun c b=>f c b
  have T:∀c o,c∉[z,it]->s.heap.get? c=À o->l.get? c=À o:=fun c o b e=>U c o (fun q=>b (by simp[q])) (fun q=>b (by simp[q])) e
  have I0:Inv X B C (ai H s.heap.objs.size (.tup [.int ((n0+i:Nat):Int),x])) { s with heap:=l }:=I.turnT Y (u:=.int ((n0+i:Nat):Int)) ⟨m,rfl⟩ ru T hT (fun c b=>by
   obtain⟨F,d,_⟩:=id p.2.1;simp only[zT,zX,or_false]at b;rcases b with rfl|rfl
   ·exact⟨_,ho⟩
   ·exact⟨_,d⟩)
  have I1:Inv X B C (ai H s.heap.objs.size (.tup [.int ((n0+i:Nat):Int),x])) { s with heap:=l,toks:=m+1 }:=I0.kept (t':=m+1) (fun _ _ e=>e);have W:H s.heap.objs.size=Á:=I.fresh;refine⟨_,rfl,wpAny_letOwnedTupleGo_enum (s:={ s with heap:=l,toks:=m+1 }) ho fun h'' z1 sb=>?_⟩;have r:∀c∈[z,it],(ai H s.heap.objs.size (.tup [.int ((n0+i:Nat):Int),x])) c=Á:=fun c b=>by
   have lt:c<s.heap.objs.size:=by
    obtain⟨F,d,_⟩:=id g;simp only[zT,zX,or_false]at b;rcases b with rfl|rfl
    ·exact yK hz
    ·exact yK d
   rw[ad (zU lt)];exact(f c b).1
  have I2:Inv X B C (ai H s.heap.objs.size (.tup [.int ((n0+i:Nat):Int),x])) { s with heap:=h'',toks:=m+1 }:=Inv.turnN (s:={ s with heap:=l,toks:=m+1 }) (ch:=[z]) I1 (fun c b=>by
   have:c=z:=by simpa using b
   subst this;exact⟨r c (by simp),(f c (by simp)).2⟩) (fun c o b e=>(sb.2 c (fun q=>b (by simp[q]))).trans e)
  refine⟨.ref s.heap.objs.size,_,I2,rfl,⟨_,x,fun zs Q=>by rw[I.list_inj Q j];exact hx,W,rfl,rfl⟩,⟨⟨_,by rw[show((n0+(i+1):Nat):Int)=((n0+i:Nat):Int)+1 by lia];exact z1⟩,?_⟩,r⟩;have h3:=p.2.1;rw[show n0+i+1-n0=i+1 by lia]at h3;exact h3.at fun o e=>(sb.2 it D.symm).trans e
 done:=by
  rintro X Z R hK b i B s C H E I f ⟨⟨old,hz⟩,g⟩ ⟨xs,j,t⟩;subst Z R hK;obtain⟨L,M,N,_⟩:=I.list j;have O:a≠it:=dP I j (f it (by simp)) (by obtain⟨F,d,J,d1⟩:=id g;exact⟨_,d,by rw[J];simp⟩);have hl:=M.length;refine wpAny_pyNext_enum_endD (rF (A:=X.A.in1) (I.ok.hd b) it a O L.toArray n0) hz ⟨d! _ _,?_,N.isList⟩ fun l U=>⟨rfl,?_⟩
  ·rw[Ŷ,zI,<- hl,t];exact g
  ·exact I.turnN (ch:=[z,it]) (fun c b=>f c b) fun c o b e=>U c o (fun q=>b (by simp[q])) e
 self:=fun _ _ _ _ _ ⟨⟨_,hz⟩,_⟩ h=>i? hz h
theorem rK:ò "enumerate"=À (.type "enumerate"):=by decide +kernel
def Ly(K:à)(n0:Nat)(f:TA):TI:=fun c H R=>f c H fun e b=>∃a,e=[.ref a]/\(∃d,cu K b a d)/\R (A8 K a n0) b
theorem uH{X:Cx}{Qa:List (Ç×Obj)}{σ:St}{f:Hp}{s1:Ê}{h':é}{t':Nat}{l:Ç}{n0:Nat}{e:List Î}{i:Nat}{a:ĥ}{R:It->Hp->Prop}(g:Inv X Qa σ f s1)(he:IsEnum h' (s1.heap.objs.size+1) s1.heap.objs.size (n0:Int) .none)(k:h'.IsListIter s1.heap.objs.size l 0)
  (j:∀b o,s1.heap.get? b=À o->h'.get? b=À o) (q:R (A8 X.K l n0) f):J4 X Qa σ (.Tuple e i a) R (.ref (s1.heap.objs.size+1)) { s1 with heap:=h',toks:=t' }:=by
 have u:Inv X Qa σ f { s1 with heap:=h',toks:=t' }:=g.kept (t':=t') j;refine⟨_,[s1.heap.objs.size+1,s1.heap.objs.size],_,_,f,rfl,u,xY l (s1.heap.objs.size+1) s1.heap.objs.size n0 (ĳ (Ĵ _)),⟨⟨_,by simpa using he⟩,k⟩,fun c h=>?_,q⟩;have d:s1.heap.objs.size<=c:=by
  simp only[zT,zX,or_false]at h;rcases h with rfl|rfl
  ·exact f? _
  ·exact zP _
 obtain⟨t,s,r,p,n,m⟩:=g.fpOk d (g.Qi.fresh d);exact⟨t,s,r,p,n,m⟩
theorem Fa{g:Nat}(v:Gl X "enumerate")(o:X.mg "enumerate"=Á)(w:PA X [a] ta)(hs:autoParam (Ë [a] X.env=[(Ä,eval a X.env)]) Ax2._auto_1) :
  PI X (.Tuple elts g tpos) (.Call (.Name "enumerate" p) [a] [] pos) (Ly X.K 0 ta):=by
 intro y s f H R I h;refine M' (d5 I v o rK (Ö (aK (w pos y s f H _ I h) fun B b ⟨A,E,d,r1,j⟩=>?_) (by rw[hs];rfl) (by rfl)));obtain⟨l,e,⟨z,n⟩,q⟩:=j;subst e;cases r1 with
 |cons r i =>
  cases i;cases r;obtain⟨D,C,k,_⟩:=d.list n;refine call_enumerate_list k.isList fun x c u m t=>?_
  refine i? (s:={ b with heap:=x }) c ?_;exact uH (t':=b.toks) (n0:=0) d c u t q
section
variable{prog:Ô}{w:Ü}{A:Č}{E:Å->Ê->Prop}{s:Ê}
theorem Bt{α:Type}{x:Z5 α}{Q b:α->Ê->Prop}(h:Ï M A x Q E s)(c:∀a s,Q a s->b a s):Ï M A x b E s:=yU h c fun _ _ x=>x
theorem sX(a v:Å):checkTypeCall "enumerate" ⟨[a],[("start",v)]⟩=pure ():=by kernel_rfl
theorem sj(a v:Å):checkBuiltinCall "enumerate.__new__" ⟨[.type "enumerate",a],[("start",v)]⟩=pure ():=by kernel_rfl
theorem qB(o a v:Å):J? "object.__init__" ⟨[o,a],[("start",v)]⟩:=by
 unfold J?;rw[signature?_of (id:="object.__init__") (n:=['_','_','t','i','n','i','_','_']) (o:=['t','c','e','j','b','o']) (by kernel_rfl) F.owner_object]
 kernel_rfl
theorem xy(hl:typeLookup (.type T) "__init__"=pure (À (.builtin "object.__init__")))(hm:Bind.madeBy (.type T)=pure (À newId))(hne:(À newId !=À "object.__new__")=Ã) :
  Meets (D'.«object.__init__» ⟨[self,a],[("start",v)]⟩) (fun _ R s=>s.TypeIs self T/\R (.ok (.ret .none)) s):=Meets.of_wp fun b w A R s c=>by
 obtain⟨e,d⟩:=c
 repeat (any_goals (first | assumption | wp_step))
 exact⟨_,rfl,d⟩
theorem u8(e:args.any (·.1)=Ä)(f:kws.any (·.1.isNone)=Ä)
  (h:Ï M A (evalArgs (.type T) Ã args kws) (fun a s₁=>Ï M A (call (.type T) a.pos a.kw) Q E s₁) E s):Ï M A (Ū pos (.type T) [] args kws) Q E s:=by
 unfold Ū;refine yG (yT (Bt h fun a s₁ b=>yG (ź ?_)));simp only[e,f,X9];refine yG (yH (yG (Bt b fun r c d=>yG (yT (wpAny_point (yH d))))))
end
section
variable{prog:Ô}{w:Ü}{A:Č}{E:Å->Ê->Prop}{s:Ê}
theorem DJ(f:t≠it):∀(n i:Nat)(s:Ê)(Q:List Å->Ê->Prop),s.heap.IsListIter it t i->s.heap.IsList t items->i+n<=items.size ->
  (∀h',h'.IsListIter it t (i+n)->į it s.heap h'->Q ((items.toList.drop i).take n) { s with heap:=h' })->Ï (model prog w) A (draw (.ref it) n) Q E s
 |0,i,s,Q,hit,_,_,hQ=>yH (by simpa using hQ s.heap hit (t! ..))
 |n+1,i,s,Q,hit,ht,hle,hQ=>by
  have hlt:i<items.size:=by lia
  refine yG (m:=G! (.ref it)) (T! hit ht (x:=items[i]) (by simp[hlt]) fun g c a=>?_);refine yG (yT (DJ f n (i+1) _ _ c (ht.extBut a.extBut f) oM fun e b d=>yH ?_));have q:=hQ e (by rw[show i+(n+1)=i+1+n by lia];exact b) (a.trans d);rw[show items.toList.drop i=items[i]::items.toList.drop (i+1) by simp[ã,hlt],List.take_succ_cons]at q;exact q
theorem El(p:A.handled=Á)(i:s.heap.IsList t items)(n:targets.length=items.size)(d:targets.findIdx? (·.1)=Á)
  (h:∀h',_? s.heap.objs.size s.heap h'->Ï (model prog w) A (assignInOrder (targets.map (·.2)) items.toList) Q E { s with heap:=h' }):Ï (model prog w) A (unpack (.ref t) targets) Q E s:=by
 have j:t≠s.heap.objs.size:=by obtain⟨o,m,_⟩:=i;exact zU (yK m)
 unfold unpack;rw[n,d];refine yG (yT ?_);unfold unpackItems;refine yG ?_;unfold notIterableAtAll;refine yG (_0 i.typeIs slot_list_iter.lookup (yH ?_));simp only[yC,if_false];refine yG (yT (Ĭ i (yG (yT (DJ j items.size 0 _ _ ⟨_,zY _ rfl,rfl,rfl⟩ (i.push _) oM fun k c a=>?_)))));rw[show List.take items.size (List.drop 0 items.toList)=items.toList by rw[Ś];exact Ź (by simp),yI (by simp)];refine yG (yT (U0 p c ((i.push _).extBut a.extBut j) (by simp) fun g f=>?_));simp only[Option.isSome_none,yC,if_false];exact yH (h g fun b o l e=>f b o l (a.extBut b o l (zG _ e)))
end
section
variable{X:Cx}{pos:ĥ}
noncomputable def LC(K:à)(n:Nat)(t:vh):TG:=fun v c H Q=>∃a b,v=.ref a/\cu K H a b/\b.length=n/\t b c H Q
theorem Fd{k:Nat}{n:Nat}(x:X.calm=Ã)(h:rZ X es t)(q:autoParam ((â es X.env).length=n) Ax2._auto_1)(d:autoParam ((â es X.env).findIdx? (·.1)=Á) Ax2._auto_1):PG X (.Tuple es k pos) (LC X.K n t):=by
 intro i s f H v u Q I r c;obtain⟨a,j,z,p,w,c⟩:=c;subst z;cases r;obtain⟨B,g,l,hz⟩:=I.list p;rw[arm_assign_Tuple];refine yG (ź (El (I.ok.hd x) l.isList (by simp[q,<- w,g.length]) d fun y m=>?_));have A:Inv X i f H { s with heap:=y }:=I.kept (t':=s.toks) fun b o e=>m b o (zU (yK e)) e
 exact h i _ f H j _ Q A (by simpa using g) c
theorem kR:∀(l:List Å)(k:Nat),(∀(j:Nat)(v:Å),l[j]?=À v->∃t,v=.int ((k+j:Nat):Int) t)->Vals ((ħ k l.length).map fun(q:Nat)=>V.int (q:Int)) l
 |[],_,_=>.nil
 |u::l,k,h=>by
  rw[yZ,List.range'_succ,zO];refine .cons ?_ (kR l (k+1) fun j v e=>?_)
  ·obtain⟨t,e⟩:=h 0 u rfl
   exact⟨t,e⟩
  ·obtain⟨t,a⟩:=h (j+1) v (by simpa using e)
   exact⟨t,by rw[a,show k+(j+1)=k+1+j by lia]⟩
theorem lq:ò "list"=À (.type "list"):=by decide +kernel
def GM(d:TE):TE:=fun b H Q=>Df d wO b H fun c a=>∃j:Nat,c=[.int (j:Int)]/\j<=1000/\∀p,a p=Á->Q (.ref p) (ai a p (.lst ((ħ 0 j).map fun(q:Nat)=>V.int (q:Int))))
theorem B5(C:X.calm=Ã)(p:Gl X "list")(l:X.mg "list"=Á)(m:Gl X "range")(k:X.mg "range"=Á)(D:PE X a ta)
  (hs:autoParam (Ë [a] X.env=[(Ä,eval a X.env)]) Ax2._auto_1) (g:autoParam (Ë [.Call (.Name "range" p2) [a] [] pos2] X.env=[(Ä,eval (.Call (.Name "range" p2) [a] [] pos2) X.env)]) Ax2._auto_1) :
  PE X (.Call (.Name "list" p1) [.Call (.Name "range" p2) [a] [] pos2] [] pos) (GM ta):=by
 intro y s u H Q I h;refine M' (d5 I p l lq (Ö ?_ (by rw[g];rfl) (by rfl)));rw[g];refine Calls.spliced_cons (M' (d5 I m k b! (Ö (aK ((vS D zr hs) pos2 y s u H _ I h) fun M f ⟨L,K,J,r1,w⟩=>?_) (by rw[hs];rfl) (by rfl))));cases r1 with
 |nil=>obtain⟨j,e,_⟩:=w;cases e
 |cons r A =>
  obtain⟨j,e,O,q⟩:=w;cases e;cases A;obtain⟨t,rfl⟩:=r;refine call_range_1 (Calls.spliced_nil ?_);have z:Inv X y u K { f with heap:=f.heap.push { cls:=.type "range",data:=.fields #[.int 0 f.toks,.int (j:Int) t,.int 1 (f.toks+1)] },toks:=f.toks+1+1 }:=J.kept fun b o e=>zG _ e
  refine _3 (n:=j) (I.ok.hd C) (IsRange.new ..) (Z! oM oM oM oM) (by rw[Q!];split<;>lia) oM fun P N c G B E d=>?_
  have x:=kR c.toList 0 (fun i v e=>by
   obtain⟨t,F⟩:=d.2 i v (by simpa using e);exact⟨t,by rw[F];congr 1;lia⟩)
  rw[show c.toList.length=j by simpa using d.1]at x;exact⟨.ref _,_,z.laid (o:=.lst ((ħ 0 j).map fun(q:Nat)=>V.int (q:Int))) B (zP _) ⟨y0 (qS (by simp;lia)),c.toList,G,x,E⟩,rfl,q _ z.fresh⟩
end
end L2
namespace PySem.AutoSeq1
theorem xD(l:Ç)(items:Array Å)(n:Nat)(b:Ç)(items2:Array Å)(n2:Nat)(sl:Array (Option Å))(hc0:¬(!items.isEmpty&&ù (items.size+items2.size))=Ã)(hc1:items.size<=Ì)(hs2:items.size+items2.size<=Ì+1) :
  Meets (D'.«list.extend» ⟨[.ref l,.ref b],[]⟩) (fun _ R s=>s.heap.get? l=À { cls:=.type "list",dict:=Á,data:=.seq items n,slots:=#[] }/\s.heap.get? b=À { cls:=.type "list",dict:=Á,data:=.seq items2 n2,slots:=sl }/\R (.ok (.ret Ŵ)) { s with heap:=s.heap.update l (ġ fun x=>x++items2),toks:=s.toks }) :=
 .of_wp fun c w A R s h=>by
  obtain⟨k,g,d,i,j⟩:=s;obtain⟨e,f,h⟩:=h;have r:=idx_int;have q:=_1;have p:=sub_list_list;have o:=sub_tuple_list;have m:=sub_list_tuple;have a:(items++items2).size<=Ì+1:=by rw[S8];exact hs2
  wp_walk using (ϕ e rfl (hz:=hc1) (_hz':=a)),ϖ e,ϖ f;exact⟨_,rfl,h⟩
end PySem.AutoSeq1
namespace L2
open PySem PySem.Spec PyProof.Rows
section
variable{X:Cx}
def Kx(K:à):V->List V->Hp->VK->Prop:=fun x d H Q=>∃l b c a,x=.ref l/\d=[.ref b]/\H l=À (.lst c)/\cu K H b a/\c.length+a.length<=Ì/\Q .non (ai H l (.lst (c++a)))
theorem Fv:MU X "list.extend" (Kx X.K):=by
 intro P s E H x K v L Q I rx p h;obtain⟨l,b,J,G,rfl,rfl,j,hB,hz,q⟩:=h;cases rx;obtain⟨u,rfl,t⟩:=p.one;cases t;obtain⟨z,d,n,r,O,e⟩:=I.lstM j;obtain⟨a,r2,w,B⟩:=I.list hB;obtain⟨o,A,D,m,k,i⟩:=w;obtain⟨N,M,y,f⟩:=o;dsimp only at m k i;subst m;subst k;subst i;have C:=r2.length;have g:d.toArray.size+a.toArray.size<=Ì:=by rw[zI,zI];lia
 have c:¬(!d.toArray.isEmpty&&ù (d.toArray.size+a.toArray.size))=Ã:=by
  rw[notLongL g,Bool.and_false];exact Ğ
 refine ϐ F.slot_list_extend ⟨_,e,rfl⟩ F.entry_list_extend (F.args_list_extend_2 _ _)
  (PySem.AutoSeq1.xD l d.toArray n b a.toArray A f c (by rw[zI];lia) oM) ⟨e,D,?_⟩
 refine⟨.non,_,I.lset (its':=d++a) j e (by simp) (r.append r2) ?_,rfl,q⟩;rw[zV];lia
end
section
variable{X:Cx}
def Kz:V->List V->Hp->VK->Prop:=fun x a H Q=>∃i,x=.int i/\a=[]/\Q (.int ((þ i:Nat):Int)) H
theorem Fw:mL X "int.bit_length" Kz:=by
 intro e s b H x c v d Q I rx a h;obtain⟨i,ex,ev,q⟩:=h;subst ex;subst ev;obtain⟨t,rfl⟩:=rx;cases a;exact call_int_bit_length ⟨.int _,H,I.tok _,⟨_,rfl⟩,q⟩
end
end L2
namespace PySem.AutoSeq1
theorem Gi(l:Ç)(items:Array Å)(n:Nat)(sl1:Array (Option Å))(b:Ç)(items2:Array Å)(n2:Nat)(sl:Array (Option Å))(hs2:items.size+items2.size<=Ì) :
  Meets (D'.«list.__add__» ⟨[.ref l,.ref b],[]⟩) (fun _ R s=>s.heap.get? l=À { cls:=.type "list",dict:=Á,data:=.seq items n,slots:=sl1 }/\s.heap.get? b=À { cls:=.type "list",dict:=Á,data:=.seq items2 n2,slots:=sl }/\R (.ok (.ret (ó s.heap.objs.size))) { s with heap:=s.heap.push { cls:=.type "list",data:=.seq (items++items2) },toks:=s.toks }) :=
 .of_wp fun c w A R s h=>by
  obtain⟨m,g,d,j,k⟩:=s;obtain⟨f,i,h⟩:=h;have t:=idx_int;have r:=_1;have q:=sub_list_list;have p:=sub_tuple_list;have o:=sub_list_tuple;have e:(items++items2).size<=Ì+1:=by rw[S8];lia
  have a:ù (items.size+items2.size)=Ä:=L2.notLongL hs2
  wp_walk using ϖ f,ϖ i
  all_goals first|exact⟨_,rfl,h⟩|skip
end PySem.AutoSeq1
namespace L2
open PySem PySem.Spec PyProof.Rows
section
variable{X:Cx}
def Ky(K:à):R2:=fun x y H Q=>∃l b c a,x=.ref l/\y=.ref b/\cu K H l c/\cu K H b a/\c.length+a.length<=Ì/\∀p,H p=Á->Q (.ref p) (ai H p (.lst (c++a)))
theorem Fl:mK X (ύ .Add) (Ky X.K):=by
 intro U s L H x y v u Q I rx t h;obtain⟨l,b,N,M,rfl,rfl,J,hB,hz,q⟩:=h;cases rx;cases t;obtain⟨c,r,⟨B,D,g,p,n,j⟩,_⟩:=I.list J;obtain⟨a,r2,⟨A,C,k,o,m,i⟩,_⟩:=I.list hB;obtain⟨S,R,z,e⟩:=B;obtain⟨P,O,w,d⟩:=A;dsimp only at p n j o m i;subst p;subst n;subst j;subst o;subst m;subst i;have G:=r.length;have E:=r2.length;have f:c.toArray.size+a.toArray.size<=Ì:=by rw[zI,zI];lia
 refine wpAny_binaryOp_concat (T:="list") (id:="list.__add__") ⟨_,g,rfl⟩ ⟨_,k,rfl⟩ noFill_list_add (by rfl) ?_;refine ϐ F.slot_list_add ⟨_,g,rfl⟩ F.entry_list_add (F.args_list_add_2 _ _) (PySem.AutoSeq1.Gi l c.toArray D e b a.toArray C d f) ⟨g,k,?_⟩;have K:c.toArray++a.toArray=(c++a).toArray:=by simp
 rw[K];exact⟨.ref _,_,I.lnew (t':=s.toks) (r.append r2) (by rw[zV];lia),rfl,q _ I.fresh⟩
end
section
variable{κ:Type}[DecidableEq κ]
noncomputable def gf(Qb:List (κ×V))(k:κ):Option V:=(Qb.find? fun a=>decide (a.1=k)).map (·.2)
noncomputable def gi(Qb:List (κ×V))(k:κ)(v:V):List (κ×V) :=
 if(Qb.any fun a=>decide (a.1=k))=Ã then Qb.map (fun a=>if a.1=k then(a.1,v) else a) else Qb++[(k,v)]
theorem oo{p:κ×V}{r:List (κ×V)}{k:κ}(e:p.1=k):gf (p::r) k=À p.2:=by simp[gf,ċ,e]
theorem oq{p:κ×V}{r:List (κ×V)}{k:κ}(e:¬p.1=k):gf (p::r) k=gf r k:=by simp[gf,ċ,e]
theorem sV(k:κ):∀Qb:List (κ×V),(Qb.any fun kv=>decide (kv.1=k))=(gf Qb k).isSome
 |[]=>rfl
 |p::r=>by
  rw[ŧ];by_cases e:p.1=k
  ·simp only[oo e,yX e,Bool.true_or,N?]
  ·rw[oq e,yB e,Bool.false_or];exact sV k r
theorem nG(Qb:List (κ×V))(k:κ)(v:V):(gi Qb k v).length<=Qb.length+1:=by
 unfold gi;split
 ·rw[zH];lia
 ·rw[zV,yZ,W!];lia
theorem RelO.isSome_eq{o:Option V}{u:Option Å}(r:RelO o u):o.isSome=u.isSome:=by
 cases o with
 |none=>cases u with
  |none=>rfl
  | some _=>exact (show False from r).elim
 |some _=>cases u with
  | none=>exact (show False from r).elim
  |some _=>rfl
theorem KV.val{Qb:List (κ×V)}{vs:List (κ×Value)}(r:KV Qb vs)(k:κ):RelO (gf Qb k) (j! vs k):=by
 unfold KV at r
 induction r with
 |nil=>exact True.intro
 |@cons p q i a h t f =>
  obtain⟨d,g⟩:=h;by_cases e:p.1=k
  ·have c:q.1=k:=d.symm.trans e
   have b:j! (q::a) k=À q.2:=by simp[j!,ċ,c]
   rw[oo e,b];exact g
  ·have c:¬q.1=k:=fun z=>e (d.trans z)
   have b:j! (q::a) k=j! a k:=by simp[j!,ċ,c]
   rw[oq e,b];exact f
theorem KV.any{Qb:List (κ×V)}{vs:List (κ×Value)}(r:KV Qb vs)(k:κ):(Qb.any fun kv=>decide (kv.1=k))=vs.any fun kv=>decide (kv.1=k):=by
 unfold KV at r
 induction r with
 |nil=>rfl
 |cons h t a=>rw[ŧ,ŧ,a,h.1]
theorem KV.repl{Qb:List (κ×V)}{vs:List (κ×Value)}(r:KV Qb vs)(k:κ){y:V}{u:Å}(b:RelV y u) :
  KV (Qb.map fun kv=>if kv.1=k then(kv.1,y) else kv) (vs.map fun kv=>if kv.1=k then(kv.1,u) else kv):=by
 unfold KV at r ⊢
 induction r with
 |nil=>exact .nil
 |@cons p q g f h t c =>
  rw[zO,zO];refine .cons ?_ c;obtain⟨a,d⟩:=h;by_cases e:p.1=k
  ·rw[yJ e,yJ (a.symm.trans e)];exact⟨a,b⟩
  ·rw[yI e,yI (fun z=>e (a.trans z))];exact⟨a,d⟩
theorem KV.put{Qb:List (κ×V)}{vs:List (κ×Value)}(r:KV Qb vs)(k:κ){y:V}{u:Å}(a:RelV y u):KV (gi Qb k y) (stored vs k u):=by
 unfold gi stored;rw[r.any k];by_cases e:(vs.any fun b=>decide (b.1=k))=Ã
 ·rw[yJ e,yJ e];exact r.repl k a
 ·rw[yI e,yI e];exact Paired.snoc r ⟨rfl,a⟩
theorem KV.length{Qb:List (κ×V)}{vs:List (κ×Value)}(r:KV Qb vs):Qb.length=vs.length:=Paired.length r
end
theorem pw{P:Ô}{w:Ü}{k:bv}{u:Å}(r:RelV (kV k) u):(cO P w).is k u=Ã:=by
 cases k with
 | inl i=>obtain ⟨t,e⟩:=(show ∃ t,u=u? i t from r);subst e;exact vp P w i t
 | inr x=>obtain ⟨t,e⟩:=(show ∃ t,u=u! x t from r);subst e;exact vo P w x t
theorem qX{P:Ô}{w:Ü}:∀{ks:List bv}{us:List Å},Vals (ks.map kV) us->ItemsAre (cO P w) ks us
 |[],_,r=>by rw[Ŗ]at r;cases r;exact .nil
 |k::ks,_,r=>by
  rw[zO]at r;cases r with
  |cons h t=>exact .cons (pw h) (qX t)
abbrev KT(H:Hp):List (List bv×V)->List (List bv×Addr×Value)->Prop:=T8 fun p q=>p.1=q.1/\H q.2.1=À (.tup (p.1.map kV))/\RelV p.2 q.2.2
theorem KT.val{H:Hp}{Qb:List (List bv×V)}{xs:List (List bv×Addr×Value)}(r:KT H Qb xs)(k:List bv):RelO (gf Qb k) ((J! xs k).map (·.2)):=by
 induction r with
 |nil=>exact True.intro
 |@cons p q i a h t f =>
  obtain⟨d,_,g⟩:=h;by_cases e:p.1=k
  ·have c:q.1=k:=d.symm.trans e
   have b:J! (q::a) k=À q.2:=by simp[J!,ċ,c]
   rw[oo e,b];exact g
  ·have c:¬q.1=k:=fun z=>e (d.trans z)
   have b:J! (q::a) k=J! a k:=by simp[J!,ċ,c]
   rw[oq e,b];exact f
theorem KT.repl{H:Hp}{Qb:List (List bv×V)}{xs:List (List bv×Addr×Value)}(r:KT H Qb xs)(k:List bv){y:V}{u:Å}(c:RelV y u) :
  KT H (Qb.map fun kv=>if kv.1=k then(kv.1,y) else kv) (xs.map (putAt k u)):=by
 induction r with
 |nil=>exact .nil
 |@cons p q i g h t d =>
  rw[zO,zO];refine .cons ?_ d;obtain⟨a,b,f⟩:=h;unfold putAt;by_cases e:p.1=k
  ·rw[yJ e,yJ (a.symm.trans e)];exact⟨a,b,c⟩
  ·rw[yI e,yI (fun z=>e (a.trans z))];exact⟨a,b,f⟩
theorem KT.put{H:Hp}{Qb:List (List bv×V)}{xs:List (List bv×Addr×Value)}(r:KT H Qb xs)(k:List bv){b:Ç}{y:V}{u:Å}(d:H b=À (.tup (k.map kV)))(a:RelV y u) :
  KT H (gi Qb k y) (storedH xs k b u):=by
 have e:(Qb.any fun c=>decide (c.1=k))=(J! xs k).isSome:=by
  rw[sV,(r.val k).isSome_eq,ł]
 unfold gi storedH;rw[e];by_cases q:(J! xs k).isSome=Ã
 ·rw[yJ q,yJ q];exact r.repl k a
 ·rw[yI q,yI q];exact Paired.snoc r ⟨rfl,d,a⟩
theorem KT.keeps{H a:Hp}{Qb:List (List bv×V)}{xs:List (List bv×Addr×Value)}(r:KT H Qb xs)(c:∀b ys,H b=À (.tup ys)->a b=À (.tup ys)):KT a Qb xs :=
 Paired.mapP r fun _ _ z=>⟨z.1,c _ _ z.2.1,z.2.2⟩
section
variable{P:Ô}{w:Ü}{H:Hp}{h:é}{a:Ç}
theorem Dk{u:HO}(ok:HOk P w H h)(e:Rd H a u):ObjOk P w H h a u:=e.ok ok
theorem pU{Qb:List (bv×V)}(ok:HOk P w H h)(e:Rd H a (.dK Qb)):Qb.length<=Ì/\(a==Ę)=Ä/\∃vs,KV Qb vs/\h.DictOf (cO P w) a vs :=
 show ObjOk P w H h a (.dK Qb) from Dk ok e
theorem DK{Qb:List (bv×V)}(ok:HOk P w H h)(e:H a=À (.dK Qb)):Qb.length<=Ì/\(a==Ę)=Ä/\∃vs,KV Qb vs/\h.DictOf (cO P w) a vs:=pU ok (.inl e)
theorem l7{ks:List bv}(ok:HOk P w H h)(e:H a=À (.tup (ks.map kV))):(ϋ (cO P w)).is h ks a:=by
 obtain ⟨_,f,r,o,d,c,n,b⟩:=(show ObjOk P w H h a (.tup (ks.map kV)) from ok a _ e);exact ⟨o,f.toArray,n,d,c,b,by simpa using qX r⟩
theorem pT{Qb:List (List bv×V)}(ok:HOk P w H h)(e:Rd H a (.dT Qb)):Qb.length<=Ì/\(a==Ę)=Ä /\
  ∃xs,KT H Qb xs/\h.DictOfH (ϋ (cO P w)) a xs:=by
 obtain ⟨z,y,xs,r,o,n,s,k,j,i,g,f⟩:=(show ObjOk P w H h a (.dT Qb) from Dk ok e);refine ⟨z,y,xs,r,o,n,s,k,j,i,g,fun x b=>?_,f⟩;have all:∀ {l:List (List bv × V)}{m:List (List bv × Ç × Å)},KT H l m->∀ x ∈ m,(ϋ (cO P w)).is h x.1 x.2.1:=by
  intro l m q
  induction q with
  |nil=>intro x b;exact nomatch b
  |@cons p q v u c t d =>
   intro x b;rcases zT.mp b with e|b
   ·subst e
    exact l7 ok (by rw[<- c.1];exact c.2.1)
   ·exact d x b
 exact all r x b
theorem DI{Qb:List (List bv×V)}(ok:HOk P w H h)(e:H a=À (.dT Qb)):Qb.length<=Ì/\(a==Ę)=Ä /\
  ∃xs,KT H Qb xs/\h.DictOfH (ϋ (cO P w)) a xs:=pT ok (.inl e)
end
def DGet(H:Hp)(a:Ç)(y:V)(r:Option V):Prop :=
 (∃c k,Rd H a (.dK c)/\y=kV k/\r=gf c k)\/∃c k b,Rd H a (.dT c)/\y=.ref b/\H b=À (.tup (k.map kV))/\r=gf c k
def DPut(H:Hp)(a:Ç)(y v:V)(d:Hp):Prop :=
 (∃c k,H a=À (.dK c)/\y=kV k/\c.length<Ì/\d=ai H a (.dK (gi c k v))) \/
 ∃c k b,H a=À (.dT c)/\y=.ref b/\H b=À (.tup (k.map kV))/\c.length<Ì/\d=ai H a (.dT (gi c k v))
theorem DGet.k{H:Hp}{a:Ç}{Qb:List (bv×V)}{k:bv}(e:H a=À (.dK Qb)):DGet H a (kV k) (gf Qb k):=.inl ⟨Qb,k,.inl e,rfl,rfl⟩
theorem DGet.t{H:Hp}{a b:Ç}{Qb:List (List bv×V)}{k:List bv}(e:H a=À (.dT Qb))(c:H b=À (.tup (k.map kV))):DGet H a (.ref b) (gf Qb k):=.inr ⟨Qb,k,b,.inl e,rfl,c,rfl⟩
theorem DPut.k{H:Hp}{a:Ç}{Qb:List (bv×V)}{k:bv}{v:V}(e:H a=À (.dK Qb))(b:Qb.length<Ì):DPut H a (kV k) v (ai H a (.dK (gi Qb k v))):=.inl ⟨Qb,k,e,rfl,b,rfl⟩
theorem DPut.t{H:Hp}{a b:Ç}{Qb:List (List bv×V)}{k:List bv}{v:V}(e:H a=À (.dT Qb))(d:H b=À (.tup (k.map kV)))(c:Qb.length<Ì) :
  DPut H a (.ref b) v (ai H a (.dT (gi Qb k v))):=.inr ⟨Qb,k,b,e,rfl,d,c,rfl⟩
section
variable{X:Cx}{Qa:List (Ç×Obj)}{σ:St}{H:Hp}{s:Ê}{a:Ç}{y v:V}{u r:Å}{o:Option V}{A:Č}{E:Å->Ê->Prop}
theorem Inv.big(I:Inv X Qa σ H s):Ę<s.heap.objs.size:=by
 have h:Ð<s.heap.objs.size:=(I.mod.glob.keeps I.bk).lt;exact M? dC h
theorem AH{Q:Å->Ê->Prop}(t:A.units+1<ř)(I:Inv X Qa σ H s)(g:DGet H a y (À v))(n:RelV y u)(h:∀w' s',Inv X Qa σ H s'->RelV v w'->Q w' s') :
  Ï (model X.prog X.w) A (T5 (.ref a) u) Q E s:=by
 rcases g with⟨B,k,e,j,l⟩|⟨B,k,b,e,j,x,l⟩
 ·subst j
  obtain⟨z,hd,r,d,m⟩:=pU I.Qi e;obtain⟨w',f,c⟩:=RelO.some_of (v:=v) (o:=j! r k) (by rw[l];exact d.val k);exact wpAny_getItem_of (pw n) m.mapOf f (h w' _ (I.tok _) c)
 ·subst j
  cases (show u=ó b from n);obtain ⟨z,hd,q,d,m⟩:=pT I.Qi e;obtain ⟨w',f,c⟩:=RelO.some_of (v:=v) (o:=(J! q k).map (·.2)) (by rw [l];exact d.val k);obtain ⟨p,w,i⟩:=zE.mp f;refine wpAny_getItem_heap (ũ t) (l7 I.Qi x) m w ?_;rw [i];exact h w' _ (I.tok _) c
theorem N5{Q:Å->Ê->Prop}(j:A.units+1<ř)(I:Inv X Qa σ H s)(g:DGet H a y o)(i:RelV y u)(h:∀s',Inv X Qa σ H s'->Q (.bool o.isSome) s') :
  Ï (model X.prog X.w) A (đ .In u (.ref a)) Q E s:=by
 rcases g with⟨n,k,e,d,l⟩|⟨n,k,b,e,d,m,l⟩
 ·subst d
  obtain⟨z,hd,r,c,f⟩:=pU I.Qi e;refine wpAny_in_of (pw i) hd f.mapOf ?_;rw[<- (c.val k).isSome_eq,<- l];exact h _ (I.tok _)
 ·subst d
  cases (show u=ó b from i);obtain ⟨z,hd,p,c,f⟩:=pT I.Qi e;refine wpAny_in_heap (ũ j) (l7 I.Qi m) hd f ?_;have q:=(c.val k).isSome_eq;rw [ł] at q;rw [<- q,<- l];exact h _ (I.tok _)
theorem F6{Q:Å->Ê->Prop}(j:A.units+1<ř)(I:Inv X Qa σ H s)(g:DGet H a y o)(i:RelV y u)(h:∀s',Inv X Qa σ H s'->Q (.bool (!o.isSome)) s') :
  Ï (model X.prog X.w) A (đ .NotIn u (.ref a)) Q E s:=by
 rcases g with⟨n,k,e,d,l⟩|⟨n,k,b,e,d,m,l⟩
 ·subst d
  obtain⟨z,hd,r,c,f⟩:=pU I.Qi e;refine wpAny_notIn_of (pw i) hd f.mapOf ?_;rw[<- (c.val k).isSome_eq,<- l];exact h _ (I.tok _)
 ·subst d
  cases (show u=ó b from i);obtain ⟨z,hd,p,c,f⟩:=pT I.Qi e;refine wpAny_notIn_heap (ũ j) (l7 I.Qi m) hd f ?_;have q:=(c.val k).isSome_eq;rw [ł] at q;rw [<- q,<- l];exact h _ (I.tok _)
theorem wx{h':é}{t':Nat}{c:HO}(I:Inv X Qa σ H s)(d:A5 (H a))(hs:į a s.heap h')(he:∃q,h'.get? a=À q)(new:ObjOk X.prog X.w (ai H a c) h' a c) :
  Inv X Qa σ (ai H a c) { s with heap:=h',toks:=t' } :=
 I.write (x:=a) (e:=a) d (.inl rfl) (fun b q f z=>(hs.2 b f).trans z) he new
theorem JE{P:Ô}{w:Ü}{d:Hp}{h':é}{Qb:List (bv×V)}{vs:List (bv×Value)}(z:Qb.length<=Ì)(hd:(a==Ę)=Ä)(b:KV Qb vs)(c:h'.DictOf (cO P w) a vs) :
  ObjOk P w d h' a (.dK Qb):=⟨z,hd,vs,b,c⟩
theorem rH{F:Hp}{Q:Unit->Ê->Prop}(K:A.units+1<ř)(I:Inv X Qa σ H s)(g:DPut H a y v F)(w:RelV y u)(x:RelV v r)(h:∀s',Inv X Qa σ F s'->Q () s') :
  Ï (model X.prog X.w) A (Ϩ (.ref a) u r) Q E s:=by
 rcases g with⟨i,k,e,o,l,p⟩|⟨i,k,b,e,o,D,l,p⟩
 ·subst o p
  obtain⟨z,hd,J,d,t⟩:=DK I.Qi e;have hz:J.length<=Ì:=by rw[<- d.length];exact z
  have n:(gi i k v).length<=Ì:=by have:=nG i k v;lia
  refine wpAny_setItem_pairs (hsz:=hz) (pw w) t fun B f m=>h _ ?_
  have L:∃q,B.get? a=À q:=let⟨q,_,_,j,_⟩:=f;⟨q,j⟩;exact wx I (by rw[e];exact True.intro) m L (JE n hd (d.put k x) f)
 ·subst o p
  cases (show u=ó b from w);obtain ⟨z,hd,G,d,t⟩:=DI I.Qi e;have hz:G.length <= Ì:=by rw [<- Paired.length d];exact z
  have n:(gi i k v).length<=Ì:=by have:=nG i k v;lia
  refine wpAny_setItem_heap (hsz:=hz) (ũ K) (l7 I.Qi D) t fun B f m=>h _ ?_
  obtain⟨q,R,S,j,P,O,N,_,M⟩:=f;refine wx I (by rw[e];exact True.intro) m ⟨q,j⟩ ⟨n,hd,_,(d.put k D x).keeps fun c T C=>?_,q,R,S,j,P,O,N,M⟩;rw[ad (xa C e (fun z=>nomatch z))];exact C
end
theorem vy{X:Cx}{Qa:List (Ç×Obj)}{σ:St}{H:Hp}{s:Ê}{a:Ç}{y:V}{o:Option V}(I:Inv X Qa σ H s)(g:DGet H a y o):s.TypeIs (.ref a) "dict":=by
 rcases g with⟨d,k,e,_,_⟩|⟨d,k,b,e,_,_,_⟩
 ·obtain⟨_,_,h,_,c⟩:=pU I.Qi e
  exact c.typeIs
 ·obtain⟨_,_,f,_,c⟩:=pT I.Qi e
  exact c.typeIs
theorem CJ{P:Ô}{w:Ü}{H:Hp}(h:é)(a:Ę<h.objs.size):ObjOk P w H (h.push { cls:=.type "dict",data:=.dict #[] }) h.objs.size (.dK []) :=
 ⟨Ő _,beq_eq_false_iff_ne.mpr (æ (zU a)),[],.nil,Heap.DictOf.new h⟩
def yh:TE:=fun _ H Q=>∀p,H p=Á->Q (.ref p) (ai H p (.dK []))
section
variable{X:Cx}{pos:ĥ}
theorem B7:PE X (.Dict [] [] pos) yh:=fun c s b H Q I h =>
 wpAny_Dict_empty ⟨.ref s.heap.objs.size,_,I.laid (a:=s.heap.objs.size) (o:=.dK []) (t':=s.toks) (fun _ _ q=>zG _ q) (zP _) (CJ s.heap I.big),rfl,h _ (I.Qi.fresh (zP _))⟩
end
open PySem.Calls
section
variable{prog:Ô}{w:Ü}{A:Č}{E:Å->Ê->Prop}{s:Ê}
theorem xk(d:Ç)(hd:(d==Ę)=Ä) :
  MeetsIn prog w (D'.«dict.__len__» ⟨[.ref d],[]⟩) (fun _ R s=>∃xs:List (List bv×Addr×Value),s.heap.DictOfH (ϋ (cO prog w)) d xs/\R (.ok (.ret (.int xs.length s.toks))) { s with toks:=s.toks+1 }) :=
 .of_wp fun A R s b=>by
  obtain⟨i,e,h⟩:=b;obtain⟨o,g,m,c,l,a,f,j,k⟩:=e;show Ï _ _ (dictSize d>>=_) _ _ s;unfold dictSize;refine yG (yG (wpAny_dictEntries c a (yH ?_)));show Ï _ _ (_9 d>>=_) _ _ s;refine yG (wpAny_pendingCount_other hd ?_);refine wpAny_ret_mkInt ?_;have:g.size=i.length:=size_of_entries f;simpa [this] using h
theorem xG(hd:(d==Ę)=Ä)(hm:s.heap.DictOfH (ϋ (cO prog w)) d xs)(hfit:(xs.length:Int)<2^63)
  (h:Q (.int xs.length (s.toks+1)) { s with toks:=s.toks+1+1 }):Ï (model prog w) A (call (.builtin "len") [.ref d]) Q E s:=by
 refine Calls.call_function_entry kind_len plain_len entry_len (args_len1 _) ?_;unfold D'.«len»;refine yG (m:=oneArg "len" _) (yH ?_);refine yG (m:=callSpecial? (.ref d) (Ć "__len__")) (wpAny_callSpecial?_slot (name:=Ć "__len__") hm.typeIs v!
  (call_meetsIn v! hm.typeIs PySem.F.entry_dict_len (PySem.F.args_dict_len_1 _) (xk d hd) ⟨xs,hm,?_⟩))
 show Ï _ _ _ _ _ { s with toks:=s.toks+1 };refine yG (yT (yH ?_));refine yG (ϡ ?_);show Ï _ _ (if((xs.length:Nat):Int)<0 then _ else _) _ _ _;rw[yI oM];show Ï _ _ (if((xs.length:Nat):Int) ≥ 2^63 then _ else _) _ _ _;rw[yI oM];exact yG (wpAny_mkInt (yH ⟨_,rfl,h⟩))
end
section
variable{X:Cx}
theorem AO:dS X (.builtin "len") (fun xs H Q=>∃a Qb,xs=[V.ref a]/\H a=À (.dT Qb)/\Q (.int Qb.length) H):=by
 intro j s g H xs i Q I r h;obtain⟨a,Qb,rfl,e,q⟩:=h;obtain⟨u,rfl,d⟩:=gX r;cases d;obtain⟨z,hd,xs,b,f⟩:=DI I.Qi e;have c:=Paired.length b;refine xG hd f (by rw[<- c];rw[Ϣ]at z;lia) ?_;rw[<- c];exact⟨.int Qb.length,H,I.tok _,⟨_,rfl⟩,q⟩
end
end L2
namespace DD
open PySem PySem.Spec PyProof.Rows L2
section
variable{K:à}{F F':Ç->Prop}{H H':Hp}{A:List Ç}
open Classical in
variable{σD:DSt}{σ:L2.St}{R:Ro}{d:D}{v:V}
end
end DD
namespace L2
open PySem PySem.Spec PyProof.Rows
noncomputable def D0(x:Í):It:=⟨fun i _=>∃c,x.cps[i]?=À c,fun i H v a=>a=H/\∃c,x.cps[i]?=À c/\v=.str ⟨#[c]⟩,fun i _=>x.cps[i]?=Á⟩
theorem Bn{P:Ô}{w:Ü}{K:à}{L:Î}(x:Í)(t:Tok)(it:Ç):kn P w K L (D0 x) [it] it (fun i h=>h.IsStrIter it "str_ascii_iterator" x t i) where
 mem:=by simp
 obj:=fun i h a b f=>by
  have e:b=it:=by simpa using f
  subst e;obtain⟨o,e,c,d⟩:=a;exact⟨o,e,fun v z=>by rw[d]at z;cases z⟩
 keep:=fun i h l a k=>by
  obtain⟨o,e,r⟩:=a;exact⟨o,k it (by simp) o e,r⟩
 item:=by
  intro X p m q G i J s D H E I j a n;subst p m q;obtain⟨c,F⟩:=n;obtain⟨C,B,N,A,y,u⟩:=j it (by simp);refine wpAny_pyNext_ascii_item a F fun l g M=>?_
  have Q:Inv X J D H { s with heap:=l,toks:=s.toks+1 }:=I.turned (fun b o f e=>(M.2 b f).trans e) C B A y u;obtain⟨o,e,cl,d⟩:=id g;exact⟨_,rfl,mY (s:={ s with heap:=l,toks:=s.toks+1 }) e cl d dC ⟨.str ⟨#[c]⟩,H,Q,⟨_,rfl⟩,⟨rfl,c,F,rfl⟩,g,fun b f=>(j b f).1⟩⟩
 done:=by
  intro X p m q G i J s D H E I j a n;subst p m q;obtain⟨C,B,N,A,y,u⟩:=j it (by simp);exact wpAny_pyNext_ascii_end (I.ok.hd G) a n fun l O=>⟨rfl,I.turned (t':=s.toks) (fun b o f e=>O b o f e) C B A y u⟩
 self:=fun _ _ _ _ _ a h=>wpAny_pyIter_striter_ascii a h
section
variable{X:Cx}{pos:ĥ}
def Eu(d:TA):TE:=fun b H Q=>d b H fun c a=>∃i j:Nat,c=[.int (i:Int),.int (j:Int)]/\i<=j/\j<=1000/\∀p,a p=Á->Q (.ref p) (ai a p (.lst ((ħ i (j-i)).map fun(q:Nat)=>V.int (q:Int))))
theorem zp(S:X.calm=Ã)(D:Gl X "list")(B:X.mg "list"=Á)(C:Gl X "range")(A:X.mg "range"=Á)(T:PA X [a,b] ta)
  (hs:autoParam (Ë [a,b] X.env=[(Ä,eval a X.env),(Ä,eval b X.env)]) Ax2._auto_1) (g:autoParam (Ë [b] X.env=[(Ä,eval b X.env)]) Ax2._auto_1) (l:autoParam (Ë [.Call (.Name "range" p2) [a,b] [] pos2] X.env=[(Ä,eval (.Call (.Name "range" p2) [a,b] [] pos2) X.env)]) Ax2._auto_1) :
  PE X (.Call (.Name "list" p1) [.Call (.Name "range" p2) [a,b] [] pos2] [] pos) (Eu ta):=by
 intro G s E H Q I h;refine M' (d5 I D B lq (Ö ?_ (by rw[l];rfl) (by rfl)));rw[l];refine Calls.spliced_cons (M' (d5 I C A b! (Ö (aK (T pos2 G s E H _ I h) fun L m z=>?_) (by rw[hs,g]) (by rw[g];rfl))));obtain⟨vs,H1,Z,r1,i,j,e,R,hj,q⟩:=z;subst e;obtain⟨u1,p,rfl,x,r2⟩:∃u c,L=u::c/\RelV (.int (i:Int)) u/\Vals [.int (j:Int)] c:=by cases r1 with|cons r y=>exact⟨_,_,rfl,r,y⟩
 obtain⟨u2,K,rfl,w,O⟩:∃u c,p=u::c/\RelV (.int (j:Int)) u/\Vals [] c:=by cases r2 with|cons r y=>exact⟨_,_,rfl,r,y⟩
 cases O;obtain⟨N,rfl⟩:=x;obtain⟨M,rfl⟩:=w;refine call_range_2 (Calls.spliced_nil ?_);have J:Inv X G E H1 { m with heap:=m.heap.push { cls:=.type "range",data:=.fields #[.int (i:Int) N,.int (j:Int) M,.int 1 m.toks] },toks:=m.toks+1 }:=Z.kept fun b o e=>zG _ e
 refine _3 (n:=j-i) (I.ok.hd S) (IsRange.new ..) (Z! oM oM oM oM) (by rw[Q!];split<;>lia) oM fun h' tk d Y P U f=>?_
 have F:=kR d.toList i (fun k v e=>by
  obtain⟨t,W⟩:=f.2 k v (by simpa using e);exact⟨t,by rw[W];congr 1;lia⟩)
 rw[show d.toList.length=j-i by simpa using f.1]at F;exact⟨.ref _,_,J.laid (o:=.lst ((ħ i (j-i)).map fun(q:Nat)=>V.int (q:Int))) P (zP _) ⟨y0 (qS (by simp;lia)),d.toList,Y,F,U⟩,rfl,q _ J.fresh⟩
end
def Eb(X:Cx)(Qa:List (Ç×Obj))(b:Ç):Prop:=b≠X.env.locals/\b∉X.fs/\(b∈X.ex\/X.s₀.heap.objs.size<=b)/\(∀x c,X.env.cells.lookup x=À c->c≠b)/\∀p∈X.pn++Qa,p.1≠b
section
variable{X:Cx}{Qa:List (Ç×Obj)}{σ:St}{key:Å}{kw:List (Í×Value)}{l I S:Ç}{ns:List Int}{R:Result->Ê->Prop}
theorem Ch(hh:X.A.handled=Á)(kf:Nat->Int)(J:Nat->Hp->Prop)(hl:∀i H,J i H->cu X.K H l (ns.map V.int))
  (turn:∀(i:Nat)(n:Int)(u:Å)(pl:List (Ç×Obj))(s:Ê)(H:Hp),ns[i]?=À n->RelV (V.int n) u->J i H->Inv X (Qa++pl) σ H s->(key=.none/\kf i=n/\J (i+1) H) \/
   ∃q,key=.ref q/\Ï (model X.prog X.w) X.A.in1 (call (.ref q) [u]) (EP X (Qa++pl) σ (fun y H'=>y=.int (kf i)/\J (i+1) H')) (fun _ _=>False) s)
  (hR:∀(i:Nat)(n:Int)(u:Å)(H:Hp)(s:Ê),ns[i]?=À n->(∀j,j<ns.length->kf i<=kf j/\(j<i->kf i<kf j))->J ns.length H->Inv X Qa σ H s->RelV (V.int n) u->R (.ok (.ret u)) s)
  (K:Eb X Qa I) (G:Eb X Qa S) (hIS:I≠S) :
  ∀(r j i:Nat)(H:Hp)(s:Ê)(vb:Å)(tb:Tok)(c:Nat),ns.length-(j+1)=r->j+1<=ns.length->Inv X Qa σ H s->H I=Á->H S=Á ->
   s.heap.get? S=À (Ż "list" #[vb,.int (kf i) tb] c)->s.heap.IsListIter I l (j+1)->(∃n,ns[i]?=À n/\RelV (V.int n) vb)->i<=j->J (j+1) H->(∀j',j'<=j->kf i<=kf j'/\(j'<i->kf i<kf j')) ->
   ņ (model X.prog X.w) X.A (.builtin "min.loop" ⟨[.ref I,key,.ref S],kw⟩) R s:=by
 have hname:(toString "min"++toString ".loop":String)="min.loop":=by decide
 intro r
 induction r with
 |zero =>
  intro j i H s vb tb c hr hj Iv nI nS gS it U hij hJ hb;have hin:j+1=ns.length:=by lia
  obtain⟨p,rv,pl,_⟩:=Iv.list (hl _ _ hJ);have Q:p.length=ns.length:=by rw[<- rv.length,zH]
  have hL:s.heap.IsList l p.toArray:=pl.isList;have Z:l≠I:=fun e=>by
   obtain⟨o,E,L,_⟩:=hL;obtain⟨o',e3,e4,_⟩:=it;rw[e,e3]at E;cases E;rw[e4]at L;simp at L
  have W:=Walks.list (prog:=X.prog) (w:=X.w) (A:=X.A.in1) hh I l Z p.toArray;have Y:p.toArray.size=p.length:=zI ..;refine Ϙ ū ?_;rw[Around.under_plainId ą _];show Ï _ X.A.in1 (Z? (.ref S)>>=_) _ _ _;refine yG (E? gS rfl ?_);show Ï _ X.A.in1 (tryCatch (G! (.ref I)) _>>=_) _ _ _;refine yG (ĸ (W.done _ _ _ ⟨by rw[Y,Q,<- hin];exact it,hL⟩ fun T B D=>?_));have V1:Inv X Qa σ H { s with heap:=T,toks:=B }:=Iv.turned (fun b o a e=>D b o (by simpa using a) e) nI K.1 K.2.2.1 K.2.2.2.1 K.2.2.2.2;have F:=D S _ (by simpa using hIS.symm) gS;show Ï _ X.A.in1 (R8 S (fun _=>#[])>>=_) _ _ _;refine yG ?_;refine ϕ F rfl (yG (ϡ (yH ?_)));obtain⟨n,E,L⟩:=U;have s1:=ų T S (ġ fun _=>(#[]:Array Å));exact hR i n vb H _ E (fun j' hj'=>hb j' oM) (hin▸hJ) (V1.turned (t':=B) (fun b o a e=>(s1.2 b a).trans e) nS G.1 G.2.2.1 G.2.2.2.1 G.2.2.2.2) L
 |succ r ih =>
  intro j i H s vb tb c hr hj Iv nI nS gS it U hij hJ hb;have hlt:j+1<ns.length:=by lia
  obtain⟨p,rv,pl,_⟩:=Iv.list (hl _ _ hJ);have Q:p.length=ns.length:=by rw[<- rv.length,zH]
  have hL:s.heap.IsList l p.toArray:=pl.isList;have Z:l≠I:=fun e=>by
   obtain⟨o,E,L,_⟩:=hL;obtain⟨o',e3,e4,_⟩:=it;rw[e,e3]at E;cases E;rw[e4]at L;simp at L
  have W:=Walks.list (prog:=X.prog) (w:=X.w) (A:=X.A.in1) hh I l Z p.toArray;have Y:p.toArray.size=p.length:=zI ..;refine Ϙ ū ?_;rw[Around.under_plainId ą _];show Ï _ X.A.in1 (Z? (.ref S)>>=_) _ _ _;refine yG (E? gS rfl ?_);show Ï _ X.A.in1 (tryCatch (G! (.ref I)) _>>=_) _ _ _;refine yG (ĸ (W.item (j+1) _ _ _ (by rw[Y];lia) ⟨it,hL⟩ fun u T B hP hst' D=>?_));have hu:p[j+1]?=À u:=by simpa using hP
  obtain⟨n,hn⟩:∃n,ns[j+1]?=À n:=⟨_,zF hlt⟩;have ru:RelV (V.int n) u:=by
   obtain⟨u',E,L⟩:=rv.get (i:=j+1) (x:=V.int n) (by rw[zR,hn];rfl);rw[hu]at E;cases E;exact L
  have V1:Inv X Qa σ H { s with heap:=T,toks:=B }:=Iv.turned (fun b o a e=>D b o (by simpa using a) e) nI K.1 K.2.2.1 K.2.2.2.1 K.2.2.2.2;have F:=D S _ (by simpa using hIS.symm) gS;have hf:∀b∈[I,S],eU X Qa H b:=fun b a=>by
   rcases zT.mp a with rfl|a
   ·exact⟨nI,K⟩
   ·rw[zM.mp a];exact⟨nS,G⟩
  obtain⟨oI,goI,coI,doI⟩:=hst'.1;have ho:∀b∈[I,S],∃o,T.get? b=À o/\∀v:Option Å,o.data≠.cell v:=fun b a=>by
   rcases zT.mp a with rfl|a
   ·exact⟨_,goI,fun v z=>by rw[doI]at z;cases z⟩
   ·rw[zM.mp a];exact⟨_,F,fun v z=>nomatch z⟩
  have V2:Inv X (Qa++gZ [I,S] T) σ H { s with heap:=T,toks:=B }:=V1.pinned hf ho
  have O:∀(f:Tok)(H2:Hp)(N:Ê),Inv X (Qa++gZ [I,S] T) σ H2 N->J (j+1+1) H2->∀(Rf:T6->Ê->Prop)(Ef:Å->Ê->Prop),
    (∀C m g k t3 c3,Inv X Qa σ m C->m I=Á->m S=Á->C.heap.get? S=À (Ż "list" #[g,.int (kf k) t3] c3)->C.heap.IsListIter I l (j+1+1)->(∃n,ns[k]?=À n/\RelV (V.int n) g)->k<=j+1->J (j+1+1) m->(∀j',j'<=j+1->kf k<=kf j'/\(j'<k->kf k<kf j')) ->
     Rf (.again (.builtin "min.loop" ⟨[.ref I,key,.ref S],kw⟩)) C) ->
    Ï (model X.prog X.w) X.A.in1 ((do
     let M <- tryCatch (holding [u,.int (kf (j+1)) f] do
      let d <- richCompare .Lt (.int (kf (j+1)) f) (.int (kf i) tb)
      let yes <- holding [d] (truthy d)
      letGo [d]
      pure yes) fun e=>do
       R8 S fun _=>#[]
       letGo ([.int (kf (j+1)) f,u]++[vb,.int (kf i) tb].reverse) [e]
       throw e
     if M=Ã then do
      R8 S fun _=>#[u,.int (kf (j+1)) f]
      letGo [.int (kf i) tb,vb]
      again (.builtin "min.loop" ⟨[.ref I,key,.ref S],kw⟩)
     else do
      letGo [u,.int (kf (j+1)) f]
      again (.builtin "min.loop" ⟨[.ref I,key,.ref S],kw⟩)):Z5 T6) Rf Ef N:=by
   intro f H2 N V3 J3 Rf Ef au;have pI:=V3.pin (I,oI) (zK _ (zK _ (dZ (by simp) goI)));have pS:=V3.pin (S,Ż "list" #[vb,.int (kf i) tb] c) (zK _ (zK _ (dZ (by simp) F)));have V4:Inv X Qa σ H2 N:=V3.unpinned;refine yG (ĸ (yT (yG (CmpOf.ints_lt (prog:=X.prog) (w:=X.w) (A:=X.A.in1) (P:=fun i v=>∃t,v=.int (kf i) t) kf (fun i v h=>h) (j+1) i _ _ _ _ _ ⟨f,rfl⟩ ⟨tb,rfl⟩ ?_))));refine yG (yT (ī ?_));refine yG (ϡ (yH ?_));have it2:N.heap.IsListIter I l (j+1+1):=⟨oI,pI.1,coI,doI⟩;by_cases a:kf (j+1)<kf i
   ·simp only[a,decide_true,if_true]
    have s1:=ų N.heap S (ġ fun _=>#[u,.int (kf (j+1)) f]);obtain⟨c2,hc2⟩:∃c2,(N.heap.update S (ġ fun _=>#[u,.int (kf (j+1)) f])).get? S=À (Ż "list" #[u,.int (kf (j+1)) f] c2):=⟨_,_2 pS.1 fun _=>#[u,.int (kf (j+1)) f]⟩;refine yG ?_;refine ϕ pS.1 rfl (yG (ϡ (yH ?_)));obtain⟨sh,sg,sd,stk,sos⟩:=N;refine au _ H2 u (j+1) f c2 (V4.turned (t':=stk) (fun b o hb'' e=>(s1.2 b hb'').trans e) pS.2.1 G.1 G.2.2.1 G.2.2.2.1 G.2.2.2.2) pI.2.1 pS.2.1 hc2 ⟨oI,(s1.2 I hIS).trans pI.1,coI,doI⟩ ⟨n,hn,ru⟩ (zP _) J3 fun j' hj'=>?_
    by_cases e:j'=j+1
    ·subst e
     exact⟨by lia,fun _=>by lia⟩
    ·have hb1:=hb j' oM
     have hb2:=hb1.1;exact⟨by lia,fun _=>by lia⟩
   ·simp only[a,decide_false,yC,if_false]
    refine yG (ϡ (yH ?_));refine au _ H2 vb i tb c V4 pI.2.1 pS.2.1 pS.1 it2 U oM J3 fun j' hj'=>?_
    by_cases e:j'=j+1
    ·subst e
     exact⟨by lia,fun _=>by lia⟩
    ·exact hb j' oM
  have au:∀C m g k t3 c3,Inv X Qa σ m C->m I=Á->m S=Á->C.heap.get? S=À (Ż "list" #[g,.int (kf k) t3] c3)->C.heap.IsListIter I l (j+1+1)->(∃n,ns[k]?=À n/\RelV (V.int n) g)->k<=j+1->J (j+1+1) m->(∀j',j'<=j+1->kf k<=kf j'/\(j'<k->kf k<kf j')) ->
    ((Code.builtin "min.loop" ⟨[.ref I,key,.ref S],kw⟩).quiet=Ã/\ņ (model X.prog X.w) X.A (.builtin "min.loop" ⟨[.ref I,key,.ref S],kw⟩) R C):=fun C m g k t3 c3 a1 a2 a3 a4 a5 a6 a7 a8 a9 =>
   ⟨Q? ą _,ih (j+1) k m C g t3 c3 oM hlt a1 a2 a3 a4 a5 a6 a7 a8 a9⟩
  rcases turn (j+1) n u _ _ H hn ru hJ V2 with⟨hk0,hkf,J2⟩|⟨q,hkq,call0⟩
  ·subst hk0
   obtain⟨f,rfl⟩:=ru;refine yG (yH ?_)
   have:=O f H _ V2 J2
   rw[hkf]at this;exact this _ _ au
  ·subst hkq
   refine yG (ĸ (yT (yU call0 (fun x s'' he=>?_) fun _ _ hF=>hF.elim)));obtain⟨y,m,V3,ry,rfl,J3⟩:=he;obtain⟨f,rfl⟩:=ry;exact O f m s'' V3 J3 _ _ au
end
section
variable{X:Cx}{Qa:List (Ç×Obj)}{σ:St}{ko:Option Å}{kws:List (Í×Value)}{l:Ç}{ns:List Int}{H:Hp}{s:Ê}{Q:VK}{E:Å->Ê->Prop}
theorem tR(hh:X.A.handled=Á)(kf:Nat->Int)(J:Nat->Hp->Prop)(hl:∀i H,J i H->cu X.K H l (ns.map V.int))
  (hb:ώ "min" ["key","default"] 0 ⟨[],kws⟩=pure [ko,À .none]) (ha:J? "min" ⟨[.ref l],kws⟩)
  (turn:∀(i:Nat)(n:Int)(u:Å)(pl:List (Ç×Obj))(s:Ê)(H:Hp),ns[i]?=À n->RelV (V.int n) u->J i H->Inv X (Qa++pl) σ H s->(ko.getD .none=.none/\kf i=n/\J (i+1) H) \/
   ∃q,ko.getD .none=.ref q/\Ï (model X.prog X.w) X.A.in1 (call (.ref q) [u]) (EP X (Qa++pl) σ (fun y H'=>y=.int (kf i)/\J (i+1) H')) (fun _ _=>False) s)
  (hQ:∀(i:Nat)(n:Int)(H:Hp),ns[i]?=À n->(∀j,j<ns.length->kf i<=kf j/\(j<i->kf i<kf j))->J ns.length H->Q (.int n) H) (hE:ns=[]->Q .non H)
  (Iv:Inv X Qa σ H s) (J0:J 0 H):Ï (model X.prog X.w) X.A (call (.builtin "min") [.ref l] kws) (EP X Qa σ Q) E s:=by
 have C:(toString "min"++toString ".loop":String)="min.loop":=by decide
 obtain⟨G,rv,pl,_⟩:=Iv.list (hl _ _ J0);have U:G.length=ns.length:=by rw[<- rv.length,zH]
 have hL:s.heap.IsList l G.toArray:=pl.isList;obtain⟨ol,B,_⟩:=id hL;have hll:l<s.heap.objs.size:=yK B;refine kmk_tree PySem.F.kind_min PySem.F.plain_min PySem.F.entry_min ha ?_;show Ï _ X.A.in1 (ώ "min" ["key","default"] 0 ⟨[],kws⟩>>=_) _ _ s;refine yG (wpAny_of_eq hb ?_);refine yG (yH ?_);refine yG (Ĭ hL ?_);refine yG (wpAny_newList ?_ (Ő _));rw[C];have hS:(s.heap.push { cls:=.type "list_iterator",data:=.fields #[.ref l,.int 0 0] }).objs.size=s.heap.objs.size+1:=size_push' ..;have hlI:l≠s.heap.objs.size:=zU hll;refine yH ⟨Q? ą _,?_⟩;generalize hI:s.heap.objs.size=I at *;generalize hSS:(s.heap.push { cls:=.type "list_iterator",data:=.fields #[.ref l,.int 0 0] }).objs.size=S at *;have nI:H I=Á:=by rw[<- hI];exact Iv.fresh
 have nS:H S=Á:=Iv.Qi.fresh (by rw[hS,hI];lia);have D:I≠S:=by rw[hS];lia
 have gI:((s.heap.push { cls:=.type "list_iterator",data:=.fields #[.ref l,.int 0 0] }).push (Ż "list" #[] 0)).get? I=À { cls:=.type "list_iterator",data:=.fields #[.ref l,.int 0 0] }:=by
  rw[<- hI];exact zG _ (zY _ rfl)
 have gS:((s.heap.push { cls:=.type "list_iterator",data:=.fields #[.ref l,.int 0 0] }).push (Ż "list" #[] 0)).get? S=À (Ż "list" #[] 0):=by
  rw[<- hSS];exact zY _ rfl
 have kp:∀b o,s.heap.get? b=À o->((s.heap.push { cls:=.type "list_iterator",data:=.fields #[.ref l,.int 0 0] }).push (Ż "list" #[] 0)).get? b=À o:=fun b o e=>zG _ (zG _ e)
 have g:Eb X Qa I:=(Iv.fpOk (b:=I) (ϴ hI) nI).2;have M:Eb X Qa S:=(Iv.fpOk (b:=S) (by rw[hS,hI];lia) nS).2;generalize hH1:((s.heap.push { cls:=.type "list_iterator",data:=.fields #[.ref l,.int 0 0] }).push (Ż "list" #[] 0))=h1 at gI gS kp;have V1:Inv X Qa σ H { s with heap:=h1,toks:=s.toks }:=Iv.kept kp;have Z:h1.IsList l G.toArray:=⟨ol,kp _ _ B,by obtain⟨o2,N,r2⟩:=hL;rw[B]at N;cases N;exact r2⟩;have O:h1.IsListIter I l 0:=⟨_,gI,rfl,rfl⟩;have W:=Walks.list (prog:=X.prog) (w:=X.w) (A:=X.A.in1) hh I l hlI G.toArray;have P:G.toArray.size=G.length:=zI ..;have au:∀(i:Nat)(n:Int)(u:Å)(H:Hp)(s:Ê),ns[i]?=À n->(∀j,j<ns.length->kf i<=kf j/\(j<i->kf i<kf j))->J ns.length H->Inv X Qa σ H s->RelV (V.int n) u->EP X Qa σ Q u s :=
  fun i n u H s e1 N e3 e4 e5=>⟨_,H,e4,e5,hQ i n H e1 N e3⟩
 show ņ _ X.A (.builtin "min.loop" ⟨[.ref I,ko.getD .none,.ref S],[("default",.none)]⟩) _ { s with heap:=h1,toks:=s.toks };refine Ϙ ū ?_;rw[Around.under_plainId ą _];show Ï _ X.A.in1 (Z? (.ref S)>>=_) _ _ _;refine yG (E? gS rfl ?_);show Ï _ X.A.in1 (tryCatch (G! (.ref I)) _>>=_) _ _ _;by_cases K:ns=[]
 ·subst K
  refine yG (ĸ (W.done _ _ _ ⟨by rw[P,U];exact O,Z⟩ fun L p k=>?_));refine yG (wpAny_rule (yH ?_));exact⟨.non,H,V1.turned (fun b o a e=>k b o (by simpa using a) e) nI g.1 g.2.2.1 g.2.2.2.1 g.2.2.2.2,rfl,hE rfl⟩
 ·have T:0<ns.length:=List.length_pos_iff.mpr K
  refine yG (ĸ (W.item 0 _ _ _ (by rw[P];lia) ⟨O,Z⟩ fun u L p hP R k=>?_));have hu:G[0]?=À u:=by simpa using hP
  obtain⟨n,K⟩:∃n,ns[0]?=À n:=⟨_,zF T⟩;have ru:RelV (V.int n) u:=by
   obtain⟨u',e1,N⟩:=rv.get (i:=0) (x:=V.int n) (by rw[zR,K];rfl);rw[hu]at e1;cases e1;exact N
  have V2:Inv X Qa σ H { s with heap:=L,toks:=p }:=V1.turned (fun b o a e=>k b o (by simpa using a) e) nI g.1 g.2.2.1 g.2.2.2.1 g.2.2.2.2;have gS':=k S _ (by simpa using D.symm) gS;have hf:∀b∈[I,S],eU X Qa H b:=fun b a=>by
   rcases zT.mp a with rfl|a
   ·exact⟨nI,g⟩
   ·rw[zM.mp a];exact⟨nS,M⟩
  obtain⟨oI,goI,coI,doI⟩:=R.1;have ho:∀b∈[I,S],∃o,L.get? b=À o/\∀v:Option Å,o.data≠.cell v:=fun b a=>by
   rcases zT.mp a with rfl|a
   ·exact⟨_,goI,fun v z=>by rw[doI]at z;cases z⟩
   ·rw[zM.mp a];exact⟨_,gS',fun v z=>nomatch z⟩
  have V3:Inv X (Qa++gZ [I,S] L) σ H { s with heap:=L,toks:=p }:=V2.pinned hf ho;have c:∀(d:Tok)(H2:Hp)(t:Ê),Inv X (Qa++gZ [I,S] L) σ H2 t->J 1 H2 ->
    Ï (model X.prog X.w) X.A.in1 ((do
     R8 S fun _=>#[u,.int (kf 0) d]
     again (.builtin "min.loop" ⟨[.ref I,ko.getD .none,.ref S],[("default",.none)]⟩)):Z5 T6) (fun au m=>match au with
      |.done f=>(match (Except.ok f:Result) with|.ok (.ret v)=>EP X Qa σ Q v m|.ok _=>False|.error e=>E e m)
      |.again c'=>c'.quiet=Ã/\ņ (model X.prog X.w) X.A c' (fun r m=>match r with|.ok (.ret v)=>EP X Qa σ Q v m|.ok _=>False|.error e=>E e m) m) (fun e m=>E e m) t:=by
   intro d H2 t V4 J2;have pI:=V4.pin (I,oI) (zK _ (zK _ (dZ (by simp) goI)));have pS:=V4.pin (S,Ż "list" #[] 0) (zK _ (zK _ (dZ (by simp) gS')));have V5:Inv X Qa σ H2 t:=V4.unpinned;have s1:=ų t.heap S (ġ fun _=>#[u,.int (kf 0) d]);obtain⟨c2,hc2⟩:∃c2,(t.heap.update S (ġ fun _=>#[u,.int (kf 0) d])).get? S=À (Ż "list" #[u,.int (kf 0) d] c2):=⟨_,_2 pS.1 fun _=>#[u,.int (kf 0) d]⟩;refine yG ?_;refine ϕ pS.1 rfl (yH ⟨Q? ą _,?_⟩);obtain⟨sh,sg,sd,stk,sos⟩:=t;refine Ch hh kf J hl turn au g M D _ 0 0 H2 _ u d c2 rfl T (V5.turned (t':=stk) (fun b o Y e=>(s1.2 b Y).trans e) pS.2.1 M.1 M.2.2.1 M.2.2.2.1 M.2.2.2.2) pI.2.1 pS.2.1 hc2 ⟨oI,(s1.2 I D).trans pI.1,coI,doI⟩ ⟨n,K,ru⟩ (zP _) J2 fun j' hj'=>?_
   have e:j'=0:=by lia
   subst e;exact⟨by lia,fun h=>absurd h (xB _)⟩
  rcases turn 0 n u _ _ H K ru J0 V3 with⟨hk0,hkf,J2⟩|⟨q,hkq,F⟩
  ·rw[hk0]at c ⊢
   obtain⟨d,rfl⟩:=ru;refine yG (yH ?_)
   have:=c d H _ V3 J2
   rw[hkf]at this;exact this
  ·rw[hkq]at c ⊢
   refine yG (ĸ (yT (yU F (fun x s'' he=>?_) fun _ _ hF=>hF.elim)));obtain⟨y,H3,V4,ry,rfl,J3⟩:=he;obtain⟨d,rfl⟩:=ry;exact c d H3 s'' V4 J3
end
end L2
namespace R
open PySem PySem.Spec PyProof.Rows L2
theorem Bb:∀{ps:List Í}{us:List Å},ps.Nodup->us.length=ps.length->ps.filterMap (fun n=>((ps.zip us).lookup n).map fun v=>(n,v))=ps.zip us/\ps.filter (fun n=>((ps.zip us).lookup n).isNone)=[]:=by
 have g:∀{ps:List Í}{us:List Å},us.length=ps.length->∀n∈ps,((ps.zip us).lookup n).isSome=Ã:=by
  intro ps
  induction ps with
  |nil=>intro us _ n d;cases d
  |cons p ps i =>
   intro us c n d;cases us with
   |nil=>cases c
   |cons u us =>
    rw[ĝ,yP];cases o:n==p with
    |true=>rfl
    |false =>
     rcases zT.mp d with rfl|d
     ·simp at o
     ·exact i (by simpa using c) n d
 intro ps us f c;refine⟨?_,C!.mpr fun n d=>by
  have:=g c n d
  cases h:(ps.zip us).lookup n with
  |none=>rw[h]at this;cases this
  |some v=>simp⟩
 have k:∀(a:List Í)(b:List Å),a.Nodup->b.length=a.length->∀l:List (Í×Value),(∀q∈a,l.lookup q=(a.zip b).lookup q)->a.filterMap (fun n=>(l.lookup n).map fun v=>(n,v))=a.zip b:=by
  intro a
  induction a with
  |nil=>intro b _ _ l _;rfl
  |cons q a i =>
   intro b f c l h;cases b with
   |nil=>cases c
   |cons v b =>
    have j:=h q z7;rw[ĝ,yP]at j;simp only[beq_self_eq_true]at j;rw[Ŕ,j];rw[Ŀ]at f
    have:=i b f.2 (by simpa using c) l fun p m=>by
     have:=h p (zQ _ m)
     rw[ĝ,yP]at this;have ne:(p==q)=Ä:=by
      have:p≠q:=fun e=>f.1 (e▸m)
      simpa using this
     rw[ne]at this;exact this
    simp only[Æ];rw[this];rfl
 exact k ps us f c _ fun _ _=>rfl
noncomputable def plainA(a:ϯ):Bool:=a.posonlyargs.isEmpty&&a.vararg.isNone&&a.kwonlyargs.isEmpty&&a.kwarg.isNone
theorem bind_plain(g:plainA fd.params=Ã)(hd:fd.defaults=.none)(m:(fd.params.args.map (·.arg)).Nodup)(i:us.length=(fd.params.args.map (·.arg)).length):I? fd ⟨us,[]⟩=pure ((fd.params.args.map (·.arg)).zip us):=by
 obtain⟨l,j⟩:=Bb m i;obtain⟨_,_,⟨_,d,_,_,_⟩,_,_,_,_,t,_,_,_,_,_,_,_⟩:=fd;unfold plainA at g;simp only[zC,ë,Option.isNone_iff_eq_none]at g;obtain⟨⟨⟨r,q⟩,p⟩,o⟩:=g;dsimp only at r q p o hd m i l j ⊢;cases r;cases q;cases p;cases o;cases hd;have k:∀{s:Type}{c:Prop} [Decidable c] {a b x:s},¬c->b=x->(if c then a else b)=x:=fun h e=>(yI h).trans e
 unfold I?;show(if(decide (us.length > (d.map (·.arg)).length)&&Ã)=Ã then _ else _)=_;refine k (by simp[i]) ?_;show(if(!(((d.map (·.arg)).take ((d.map (·.arg)).length-(([]:List Å).drop (0-(d.map (·.arg)).length)).length)).filter (fun n=>(((d.map (·.arg)).zip us).lookup n).isNone)).isEmpty)=Ã then _ else _)=_;refine k (by rw[X7,W!,M!,ĭ,j];decide) ?_;show forIn (((d.map (·.arg)).drop ((d.map (·.arg)).length-(([]:List Å).drop (0-(d.map (·.arg)).length)).length)).zip (([]:List Å).drop (0-(d.map (·.arg)).length))) ((d.map (·.arg)).zip us) _>>=_=_;rw[X7,List.zip_nil_right];exact congrArg (pure (f:=Z5)) ((congrArg (List.filterMap _) (û _)).trans l)
end R
namespace L2
open PySem PySem.Spec PyProof.Rows
def j5(mg:Í->Option Å)(base:é):Prop:=∃a o,mg "__builtins__"=À (.ref a)/\a≠ę/\a≠Ð/\base.get? a=À o/\o.cls=.type "module"/\o.dict=À ę/\o.data=.plain
noncomputable def ia(c:Ç)(q:Í):HO:=.ext fun h=>h.CodeRec (.ref c) q
section
variable{X:Cx}{Qa:List (Ç×Obj)}{σ:St}{H:Hp}{s:Ê}
theorem Inv.grown{t':Nat}(I:Inv X Qa σ H s)(a:H P=À (.tbl ps))(m:_? P s.heap h')(x:s.heap.objs.size<=c')(E:h'.CodeRec (.ref c') q)
  (F:h'.get? P=À (T1 (ps++more))):Inv X Qa σ (ai (ai H P (.tbl (ps++more))) c' (ia c' q)) { s with heap:=h',toks:=t' }:=by
 have A:s.heap.get? P=À (T1 ps):=I.Qi P _ a;have w:H c'=Á:=I.Qi.fresh x;have y:P≠c':=zU (zJ (yK A) x);have h:∀b u,H b=À u->b≠c':=fun b u e z=>by rw[z,w]at e;cases e
 have f:∀b,b≠P->b≠c'->ai (ai H P (.tbl (ps++more))) c' (ia c' q) b=H b:=fun b j g=>by rw[ad g,ad j]
 refine I.un ⟨fun b o e n _ _=>m b o (fun z=>by rw[z,a]at n;cases n) e,fun b o e n _ _=>⟨o.slots,m b o (fun z=>by rw[z,a]at n;cases n) e⟩,fun b o e n _=>?_,fun b o e _=>?_,fun b J e=>?_,fun b o u e=>?_,fun b K e=>?_⟩ fun b u e=>?_
 ·rw[f b (fun z=>by rw[z,a]at n;cases n) (zU (zJ (yK e) x))];exact n
 ·by_cases i:b=P
  ·exact⟨_,i▸F⟩
  ·exact⟨o,m b o i e⟩
 ·rw[f b (fun z=>by rw[z,a]at e;cases e) (h _ _ e)];exact e
 ·rw[f b (fun z=>by rw[z,a]at e;cases e) (h _ _ e)];exact e
 ·by_cases i:b=P
  ·subst i
   rw[a]at e;cases e;exact⟨more,by rw[ad y,aF]⟩
  ·exact⟨#[],by rw[f b i (h _ _ e),e];simp⟩
 ·by_cases j:b=c'
  ·subst j
   rw[aF]at e;cases e;obtain⟨c,p,D,t,C,B,G⟩:=id E;cases C;refine⟨E,⟨p,B⟩,fun j g r k=>?_⟩;obtain⟨c,p,D,t,C,B,G⟩:=r;cases C;exact⟨_,p,D,t,rfl,k _ B,G⟩
  ·rw[ad j]at e
   by_cases g:b=P
   ·subst g
    rw[aF]at e;cases e;exact F
   ·rw[ad g]at e
    refine(I.Qi b u e).stay (fun d v hd q=>m d v (fun z=>?_) q) (fun d q=>?_) fun d J q=>?_
    ·rcases hd with l|l
     ·exact g (l.symm.trans z)
     ·rw[z,a]at l;cases l
    ·rw[f d (fun z=>by rw[z,a]at q;cases q) (h _ _ q)];exact q
    ·rw[f d (fun z=>by rw[z,a]at q;cases q) (h _ _ q)];exact q
abbrev xt(mg:Í->Option Å)(qual:Í)(a:ϯ)(b:Î)(scope:ğ)(cl:List (Í×Addr))(d c:Å):Z7 :=
 { cls:=.type "function",data:=.func (kla_fn "<lambda>" qual a b scope cl ((mg "__name__").getD .none) d c) }
def gU(H:Hp)(P:Ç)(pos:ĥ)(q:Í):Prop:=∃a,H P=À (.tbl a)/\TriplesOk a.toList/\(codeAmong pos a.toList=Á\/∃c,codeAmong pos a.toList=À (.ref c)/\H c=À (ia c q))
theorem Cu(I:Inv X Qa σ H s)(l:X3 params X.env=([],[]))(hcode:X.env.code=.ref c)
  (C:X8 X.base c P) (B:j5 X.mg X.base) (m:X4 scope X.env=pure cl) (T:gU H P pos (X.env.qual++"<lambda>"))
  (h:∀f c' ctv H' s',(H'=H\/∃ps more,H P=À (.tbl ps)/\H c'=Á/\P≠c'/\H'=ai (ai H P (.tbl (ps++more))) c' (ia c' (X.env.qual++"<lambda>")))->gU H' P pos (X.env.qual++"<lambda>")->H' c'=À (ia c' (X.env.qual++"<lambda>")) ->
   Inv X (Qa++[(f,xt X.mg (X.env.qual++"<lambda>") params body scope cl (.ref c') ctv)]) σ H' s'->Q (.ref f) s') :
  Ï (model X.prog X.w) X.A (eval (.Lambda params body scope pos) X.env) Q E s:=by
 refine kla_eval l ?_;obtain⟨ps,r,i,x⟩:=T;have y:s.heap.get? P=À (T1 ps):=I.Qi P _ r;have G:s.heap.Ns Ð X.mg:=I.mod.glob.keeps I.bk;have F:Ð≠P:=fun q=>by
  obtain⟨o,es,ep,e,hd,_⟩:=G;rw[q,y]at e;cases e;cases hd
 obtain⟨O,R,b1,b2,b3,V,b5,b6,b7⟩:=B;have L:O≠P:=fun q=>by
  have:=(I.bs O R V).2
  rw[q,r]at this;cases this
 have U:s.heap.BuiltinsAt X.mg P:=⟨O,R,b1,b2,b3,L,I.bk _ _ V,b5,b6,b7⟩;have Y:X8 s.heap c P:=C.keeps I.bk
 have last:∀(A:Hp)(g:é)(a:Nat)(o:Z7),Inv X Qa σ A { s with heap:=g,toks:=a }->(∀v,o.data≠.cell v)->o.isFreed=Ä->Inv X (Qa++[(g.objs.size,o)]) σ A { s with heap:=g.push o,toks:=a }:=by
  intro A g a o J hd K;have W:Inv X Qa σ A { s with heap:=g.push o,toks:=a }:=J.kept fun b u e=>zG _ e
  have N:=J.fpOk (b:=g.objs.size) (zP _) J.fresh;refine W.pins_of fun p k=>?_
  rcases zZ.mp k with k|k
  ·exact W.pin p (zK _ k)
  ·rw[zM.mp k]
   exact⟨zY _ K,N.1,N.2.1,N.2.2.1,hd⟩
 rcases x with S|⟨c',x,w⟩
 ·refine kla_makeFunction (mg:=X.mg) m I.ok.glob G hcode Y y i S F U fun c' ctv M t w d Z j D=>?_
  have n:P≠c':=zU (zJ (yK y) d);have J:=I.grown (t':=t) r w d j D;have e1:ai (ai H P (.tbl (ps++#[F? pos.line,F? pos.col,.ref c']))) c' (ia c' (X.env.qual++"<lambda>")) P=À (.tbl (ps++#[F? pos.line,F? pos.col,.ref c'])):=by rw[ad n,aF]
  refine h _ c' ctv _ _ (.inr ⟨ps,_,r,I.Qi.fresh d,n,rfl⟩) ⟨_,e1,?_,.inr ⟨c',?_,aF⟩⟩ aF (last _ M t _ J (fun v z=>nomatch z) rfl)
  ·rw[O?];exact TriplesOk_snoc _ _ _ _ i
  ·rw[O?];exact codeAmong_snoc _ i S
 ·refine kla_makeFunctionHit (mg:=X.mg) m I.ok.glob G hcode Y y i x U fun ctv M t hk d=>?_
  exact h _ c' ctv H _ (.inl rfl) ⟨ps,r,i,.inr ⟨c',x,w⟩⟩ w (last H M t _ (I.kept hk) (fun v z=>nomatch z) rfl)
def uU(X:Cx)(N':List Í)(scope:ğ)(cl:List (Í×Addr))(f:Ç)(qual:Í)(cd:Å)(A:Č)(s:Ê)(H:Hp):Cx :=
 { X with N:=N',s₀:=s,H₀:=H,env:=X1 scope s.heap.objs.size Ð cl (qual++".<locals>.") (À f) cd Á ę,outer:=X.stack,stack:=X1 scope s.heap.objs.size Ð cl (qual++".<locals>.") (À f) cd Á ę::X.stack,
          A:=A.deeper (X1 scope s.heap.objs.size Ð cl (qual++".<locals>.") (À f) cd Á ę),ex:=[],fn:=fun _=>Ä,calm:=Ã,pn:=[],xe:=fun _ _=>False }
structure xR(X:Cx)(N':List Í)(scope:ğ)(x:Í):Prop where
 cy:kr X N' scope
 co:scope.isCoroutine=Ä
 gen:scope.isGenerator=Ä
 len:N'.length=X.N.length+1
 own:N'[X.N.length]?=À x
 loc:scope.names.lookup x=À .local
 nc:∀y∈scope.names,y.2≠.cell
theorem CL{t':Nat}(T:xR X N' scope x)(I:Inv X Qa σ H s)(J:A.frames=À X.stack)(Y:A.handled=Á)
  (g:∀p∈cl,X.env.cells.lookup p.1=À p.2) (G:∀x,(x,Û)∈scope.names->∃c,(x,c)∈cl) (r:RelV v u)
  (V:h'.Ns s.heap.objs.size (fun y=>[(x,u)].reverse.lookup y)) (hs:į s.heap.objs.size (s.heap.push { cls:=.type "frame",data:=.dict #[] }) h') :
  Inv (uU X N' scope cl f qual cd A s H) [] (σ++[À v]) H { s with heap:=h',toks:=t' }:=by
 have d:∀b o,s.heap.get? b=À o->h'.get? b=À o:=fun b o e=>(hs.2 b (zU (yK e))).trans (zG _ e)
 have look:∀x,(x,Û)∈scope.names->∃c,cl.lookup x=À c/\X.env.cells.lookup x=À c:=fun x R=>by
  obtain⟨c,C⟩:=G x R;obtain⟨N,B⟩:=gO C;exact⟨N,B,g _ (mem_of_lookup B)⟩
 have j:∀ b:Ç,b ∉ (uU X N' scope cl f qual cd A s H).ex:=fun b z=>absurd (show b ∈ ([]:List Ç) from z) (by simp)
 refine⟨⟨I.ok.mod,T.cy.kind,rfl,rfl,zP _,fun y z c h1 Z=>?_,fun y l=>?_,fun y c h=>(by cases h),fun _=>Y,Around.frames_deeper J,.inr ⟨rfl,rfl⟩,fun b z=>absurd z (j b),I.bs,z5 I.ok.bsz I.sz,fun b _ _=>j b,fun b z=>absurd z (j b),I.stack,I.stkFree⟩,
  rfl,I.bare,Un.kept d,⟨_,V,fun i y w q n e3=>?_⟩,fun y c h=>?_,I.Qi.fresh (zP _),fun y c h=>?_,fun p S=>absurd (show p∈([]:List (Ç×Obj)) from S) (by simp),I.Qi.kept d,?_⟩
 ·exact I.ok.inj y z c (g _ (mem_of_lookup h1)) (g _ (mem_of_lookup Z))
 ·have l:scope.names.lookup y=À .cell\/scope.names.lookup y=À .free:=l
  rcases l with l|l
  ·exact absurd rfl (T.nc _ (mem_of_lookup l))
  ·obtain⟨c,C,_⟩:=look y (mem_of_lookup l)
   exact⟨c,C⟩
 ·have M:=I.len
  rcases yV i σ.length with F|F
  ·rw[zN F]at n
   have t:∃k,(y,k)∈scope.names:=by
    rcases e3 with h|h|h<;>exact⟨_,mem_of_lookup h⟩
   have a:=T.cy.hid i y oM q t;have eX:=T.cy.same i y oM q a;have kX:=T.cy.free y a;obtain⟨m,U,W⟩:=I.loc;obtain⟨O,P,lk⟩:=W i y w eX n (by rcases kX with h|h;exact .inr (.inl h);exact .inr (.inr h));refine⟨O,P,.inr ⟨.inr (dM T.cy.nd a),?_⟩⟩;rcases lk with⟨L,_⟩|⟨_,c,C,z⟩
   ·rcases kX with h|h<;>rw[h]at L<;>cases L
   ·obtain⟨N,Q,K⟩:=look y a
    rw[C]at K;cases K;exact⟨c,Q,z.keeps d⟩
  ·rw[z6 F]at n
   have E:i-σ.length=0:=by
    rcases U! (i-σ.length) with z|z
    ·exact z
    ·rw [í (show [À v].length <= _ from z)] at n;cases n
   rw[E]at n;cases n;have D:i=X.N.length:=by lia
   subst D;have q:N'[X.N.length]?=À y:=q;rw[T.own]at q;cases q;exact⟨u,r,.inl ⟨T.loc,by simp⟩⟩
 ·obtain⟨w,z⟩:=I.cell y c (g _ (mem_of_lookup h))
  exact⟨w,z.keeps d⟩
 ·exact I.freeC y c (g _ (mem_of_lookup h))
 ·show(σ++[À v]).length=N'.length
  rw[zV,I.len,T.len];rfl
theorem Cv(T:xR X N' scope x)(I:Inv X Qa σ H s)(m:A.frames=À X.stack)(K:A.handled=Á)
  (hd:A.depth<ϣ) (n:∀p∈cl,X.env.cells.lookup p.1=À p.2) (l:∀x,(x,Û)∈scope.names->∃c,(x,c)∈cl) (F:R.plainA params=Ã) (a:params.args.map (·.arg)=[x])
  (L:s.heap.get? f=À (xt X.mg qual params body scope cl (.ref c') ctv)) (D:s.heap.CodeRec (.ref c') qual)
  (he:∀s H,PE (uU X N' scope cl f qual (.ref c') A s H) body te) (r:RelV v u) (h:te (σ++[À v]) H Q) :
  Ï (model X.prog X.w) A (call (.ref f) [u]) (EP X Qa σ Q) E s:=by
 refine F! (kla_callFunE hd L rfl T.co T.gen rfl D ?_);have M:I? (kla_fn "<lambda>" qual params body scope cl ((X.mg "__name__").getD .none) (.ref c') ctv) ⟨[u],[]⟩=pure [(x,u)]:=by
  have:=R.bind_plain (fd:=kla_fn "<lambda>" qual params body scope cl ((X.mg "__name__").getD .none) (.ref c') ctv) (us:=[u]) F rfl (by show(params.args.map (·.arg)).Nodup;rw[a];simp) (by show _=(params.args.map (·.arg)).length;rw[a];rfl)
  rw[this];show pure ((params.args.map (·.arg)).zip [u])=_;rw[a];rfl
 rw[M];refine yH ?_;refine wpAny_newFunctionEnv (around:=Á) (fun y j=>T.nc y j) (fun y j=>by rw[zM.mp j];exact T.loc) (fun t G g=>?_) T.cy.kind;have g:į s.heap.objs.size (s.heap.push { cls:=.type "frame",data:=.dict #[] }) t:=g;have d:∀b o,s.heap.get? b=À o->t.get? b=À o:=fun b o e=>(g.2 b (zU (yK e))).trans (zG _ e)
 refine⟨I.nolimit.keeps d,kla_codeExpr ?_⟩;have J:=CL (cd:=.ref c') (f:=f) (qual:=qual) (t':=s.toks+[(x,u)].length) T I m K n l r G g;refine yU (he s H [] _ (σ++[À v]) H Q J h) (fun w B k=>?_) fun e B z=>z.elim
 obtain⟨y,N,i,C,q⟩:=k;exact I.after ⟨y,N,i.os,i.bare,i.base,i.Qi,C,q⟩
end
theorem Aq(h:je k v=Ã):RelV (kV k) v:=by
 cases k with
 |inl i =>
  cases v <;> first | (cases h;done) | skip
  rename_i j t;have e:j=i:=by simpa [je,K!] using h
  subst e;exact⟨t,rfl⟩
 |inr x =>
  cases v <;> first | (cases h;done) | skip
  rename_i y t;have e:y=x:=by simpa [je,o?] using h
  subst e;exact⟨t,rfl⟩
theorem FN{a:Type}{Qb:List (a×V)}{vs:List (a×Value)}(r:KV Qb vs):Qb.map (·.1)=vs.map (·.1):=by
 induction r with
 |nil=>rfl
 |cons h t b=>simp only[zO];rw[h.1,b]
def MW(d:Ç)(o:Z7)(Qb:List (bv×V)):It :=
 ⟨fun i H=>H d=À (.frz o (.dK Qb))/\i<Qb.length,fun i H x a=>a=H/\(Qb.map fun p=>kV p.1)[i]?=À x,fun i H=>H d=À (.frz o (.dK Qb))/\Qb.length<=i⟩
theorem uy{b:Nat}(I:Inv X Qa σ H s)(h:H d=À (.frz o (.dK Qb)))(a:o.data=.dict es b) :
  ∃vs,KV Qb vs/\s.heap.DictAt (cO X.prog X.w) d vs b:=by
 obtain⟨e,_,_,vs,r,l,g,i,c,k,f,j⟩:=I.Qi d _ h;rw[e]at c;cases c;rw[a]at f;cases f;exact⟨vs,r,o,es,e,k,a,j⟩
theorem xZ{P:Ô}{w:Ü}{K:à}{Y:Î}{d:Ç}{o:Z7}{Qb:List (bv×V)}{es:Array DictEntry}{U:Nat}(it:Ç)(hd:o.data=.dict es U):kn P w K Y (MW d o Qb) [it] it (fun i h=>h.IsKeyIter it d i Qb.length U) where
 mem:=by simp
 obj:=fun i h a b g=>by
  obtain rfl:b=it:=by simpa using g
  obtain⟨o,e,c,d⟩:=a;exact⟨o,e,fun v z=>by rw[d]at z;cases z⟩
 keep:=fun i h y a k=>let⟨o,e,r⟩:=a;⟨o,k it (by simp) _ e,r⟩
 item:=by
  intro X D C F T i W s R H E I x a f;subst D C F;obtain⟨f,hi⟩:=f;obtain⟨l,r,O⟩:=uy I f hd;have u:Qb.length=l.length:=Paired.length r;obtain⟨N,M,f2,L,J,G⟩:=x it (by simp);obtain⟨q,S⟩:∃q,l[i]?=À q:=⟨_,zF oM⟩;have j:Qb[i]?.map (·.1)=l[i]?.map (·.1):=by
   rw[<- zR,<- zR,FN r]
  rw[u]at a;refine wpAny_pyNext_dict_item a O (k:=q.1) (v:=q.2) S fun B y t m Z=>?_
  have I1:Inv X W R H { s with heap:=y }:=I.turned (t':=s.toks) (fun b o g e=>(Z.2 b g).trans e) N M L J G;obtain⟨o',e,c,dd⟩:=id m;refine⟨B,rfl,mY (s:={ s with heap:=y }) e c dd dC ⟨kV q.1,H,I1,Aq t,⟨rfl,?_⟩,by rw[u];exact m,fun b g=>(x b g).1⟩⟩;rw[zR];rw[S]at j;cases n:Qb[i]? with
  |none=>rw[n]at j;cases j
  |some p=>rw[n]at j;simp at j;simp[j]
 done:=by
  intro X D C F T i W s R H E I x a f;subst D C F;obtain⟨f,hi⟩:=f;obtain⟨l,r,O⟩:=uy I f hd;have u:Qb.length=l.length:=Paired.length r;obtain⟨N,M,f2,L,J,G⟩:=x it (by simp);rw[u]at a;exact wpAny_pyNext_dict_end (I.ok.hd T) a O (í oM) fun y eb=>⟨rfl,I.turned (t':=s.toks) (fun b o g e=>eb b o g e) N M L J G⟩
 self:=fun A i s Q E a h=>wpAny_pyIter_keyiter a h
section
variable{X:Cx}{Qa:List (Ç×Obj)}{σ:St}{H:Hp}{s:Ê}{d:Ç}{Qb:List (bv×V)}{o:Z7}
theorem Inv.frzD(I:Inv X Qa σ H s)(h:H d=À (.dK Qb))(e:s.heap.get? d=À o):Inv X Qa σ (ai H d (.frz o (.dK Qb))) { s with toks:=s.toks }:=by
 have ne:∀b u,H b=À u->(∀Qb,u≠.dK Qb)->b≠d:=fun b u q n z=>by rw[z,h]at q;cases q;exact n _ rfl
 refine I.un (h':=s.heap) ⟨fun b o e _ _ _=>e,fun b o e _ _ _=>⟨o.slots,e⟩,fun b o e n _=>by rw[ad (fun z=>by rw[z,h]at n;cases n)];exact n,fun b o e _=>⟨o,e⟩,fun b g q=>by rw[ad (ne b _ q fun _ z=>nomatch z)];exact q,fun b o u q=>by rw[ad (ne b _ q fun _ z=>nomatch z)];exact q,
  fun b i q=>⟨#[],by rw[ad (ne b _ q fun _ z=>nomatch z),q];simp⟩⟩ fun b u q=>?_
 have a:∀b u,H b=À u->ObjOk X.prog X.w (ai H d (.frz o (.dK Qb))) s.heap b u:=fun b u q=>(I.Qi b u q).stay (fun _ _ _ z=>z) (fun c z=>by rw[ad (ne c _ z fun _ y=>nomatch y)];exact z) fun c g z=>by rw[ad (ne c _ z fun _ y=>nomatch y)];exact z
 by_cases f:b=d
 ·subst f;rw[aF]at q;cases q;exact⟨e,a _ _ h⟩
 ·rw[ad f]at q;exact a b u q
theorem Inv.thawD(I:Inv X Qa σ H s)(h:H d=À (.frz o (.dK Qb)))(t:∀o u,X.H₀ d≠À (.frz o u)):Inv X Qa σ (ai H d (.dK Qb)) s:=by
 have ne:∀b u,H b=À u->(∀o l,u≠.frz o l)->b≠d:=fun b u q n z=>by rw[z,h]at q;cases q;exact n _ _ rfl
 have f:∀b,H b=Á->b≠d:=fun b q z=>by rw[z,h]at q;cases q
 have w:HOk X.prog X.w (ai H d (.dK Qb)) s.heap:=fun b u q=>by
  have i:∀b u,H b=À u->ObjOk X.prog X.w (ai H d (.dK Qb)) s.heap b u:=fun b u q=>(I.Qi b u q).stay (fun _ _ _ z=>z) (fun c z=>by rw[ad (ne c _ z fun _ _ y=>nomatch y)];exact z) fun c g z=>by rw[ad (ne c _ z fun _ _ y=>nomatch y)];exact z
  by_cases k:b=d
  ·subst k;rw[aF]at q;cases q;exact(i _ _ h).2
  ·rw[ad k]at q;exact i b u q
 refine⟨I.ok,I.os,I.bare,⟨I.base.keep,I.base.slot,fun b o e n j=>by rw[ad (f b (I.base.free b o e n j))];exact I.base.free b o e n j,I.base.there,fun b g e=>by rw[ad (ne b _ (I.base.tups b g e) fun _ _ y=>nomatch y)];exact I.base.tups b g e,
  fun b o u e=>by rw[ad (fun z=>t o u (by rw[<- z];exact e))];exact I.base.frzs b o u e,fun b m e=>?_⟩,I.loc,I.cell,by rw[ad (f _ I.free)];exact I.free,fun x c e=>by rw[ad (f _ (I.freeC x c e))];exact I.freeC x c e,
  fun p r=>by obtain⟨a1,a2,v⟩:=I.pin p r;exact⟨a1,by rw[ad (f _ a2)];exact a2,v⟩,w,I.len⟩
 obtain⟨a,q⟩:=I.base.tbls b m e;exact⟨a,by rw[ad (ne b _ q fun _ _ y=>nomatch y)];exact q⟩
end
section
variable{X:Cx}{tg iter:Î}{te:TE}
def Lz(n0:Hp)(te:TE):TI:=fun c H R=>te c H fun x b=>∃d a,x=.ref d/\b d=À (.dK a)/\∀o,(∀o u,n0 d≠À (.frz o u))->R (MW d o a) (ai b d (.frz o (.dK a)))
theorem Fb(i:PE X iter te):PI X tg iter (Lz X.H₀ te):=by
 intro r s l H R I h;refine aK (i r s l H _ I h) fun v a g=>?_
 obtain⟨x,F,k,r1,d,Qb,e,hd,q⟩:=g;subst e;cases r1;obtain⟨hz,c,m,t,f,A,B,n,D,p,C⟩:=k.Qi d _ hd;have i:Qb.length=m.length:=Paired.length t;have w:∀o u,X.H₀ d≠À (.frz o u):=fun o u z=>by
  have:=k.base.frzs d o u z
  rw[hd]at this;cases this
 have j:=k.frzD hd n;refine wpAny_pyIter_dict c (knd:=cO X.prog X.w) ⟨f,A,n,D,p,C⟩ ?_;have E:Inv X r l (ai F d (.frz f (.dK Qb))) { a with heap:=a.heap.push { cls:=.type "dict_keyiterator",data:=.fields #[.ref d,.int 0 0,.int m.length 0,.int B 0] },toks:=a.toks }:=j.kept fun b o e=>zG _ e
 refine⟨a.heap.objs.size,[a.heap.objs.size],_,_,_,rfl,E,xZ (Qb:=Qb) _ p,⟨_,zY _ rfl,rfl,by rw[i];rfl⟩,fun b y=>?_,q f w⟩;obtain rfl:b=a.heap.objs.size:=by simpa using y
 exact j.fpOk (zP _) j.fresh
def sx(n0:Hp)(D:lE):lE:={ nx:=fun b H=>∃d o a,H d=À (.frz o (.dK a))/\(∀o u,n0 d≠À (.frz o u))/\D.nx b (ai H d (.dK a)),rt:=fun v H=>∃d o a,H d=À (.frz o (.dK a))/\(∀o u,n0 d≠À (.frz o u))/\D.rt v (ai H d (.dK a)) }
theorem E3{st:ľ}{t:TS}(h:PS X st t):PS X st (fun D σ H=>t (sx X.H₀ D) σ H):=by
 intro g s σ H D I q;refine aK (h g s σ H (sx X.H₀ D) I q) fun f j b=>?_
 cases f with
 |next=>obtain⟨a,i,J,d,o,c,e,n,q⟩:=b;exact⟨a,_,J.thawD e n,q⟩
 |ret u=>obtain⟨v,a,i,J,r,d,o,c,e,n,q⟩:=b;exact⟨v,a,_,J.thawD e n,r,q⟩
 |brk=>obtain⟨_,_,_,q⟩:=b;exact q.elim
 |cont=>obtain⟨_,_,_,q⟩:=b;exact q.elim
end
end L2
namespace R
open PySem L2
theorem e7{α g f e:Sort _}{A B C:α->g->f->e->Prop}{G:Prop}(h:∃a b c d,A a b c d/\B a b c d/\C a b c d)(k:∀a b c d,A a b c d->B a b c d->C a b c d->G):G:=by obtain⟨a,b,c,d,x,y,z⟩:=h;exact k a b c d x y z
theorem i7{α g f e:Sort _}{A B C:α->g->f->e->Prop}{a:α}{b:g}{c:f}{d:e}(x:A a b c d)(y:B a b c d)(z:C a b c d):∃a b c d,A a b c d/\B a b c d/\C a b c d:=⟨a,b,c,d,x,y,z⟩
inductive AV where
 |non|bl (b:Bool)|int (i:Int)|str (x:Í)|ref (k:Nat)|tup (xs:List AV)|fz (xs:List AV)
inductive Qd where
 |lst (xs:List AV)|al (t:AV)|dK (Qb:List (bv×AV))|dT (Qb:List (List bv×AV))|ins (c:Í) (fs:List (Í×AV))|wk (Qb:List (bv×AV))
abbrev aa:=List Qd
abbrev Sl:=List (Option AV)
abbrev Pr:=Ç->Prop
class Qc where
 tb:List (Ç×Pos×Str)
structure Gm where
 K:à
 mg:Í->Option Å
def FLk(mg:Gm)(P:Pr)(H:Hp)(a:Ç)(vs:List V):Prop:=(P a/\Rd H a (.lst vs))\/∀b,cu mg.K b a vs
mutual
def RA(mg:Gm)(P:Pr)(H:Hp)(φ:List Ç):AV->V->Prop
 |.non,v=>v=.non
 |.bl b,v=>v=.bl b
 |.int i,v=>v=.int i
 |.str x,v=>v=.str x
 |.ref k,v=>∃a,φ[k]?=À a/\v=.ref a
 |.tup xs,v=>∃a vs,v=.ref a/\P a/\H a=À (.tup vs)/\Qg mg P H φ xs vs
 |.fz xs,v=>∃a vs,v=.ref a/\FLk mg P H a vs/\Qg mg P H [] xs vs
def Qg(mg:Gm)(P:Pr)(H:Hp)(φ:List Ç):List AV->List V->Prop
 |[],vs=>vs=[]
 |x::xs,vs=>∃v ws,vs=v::ws/\RA mg P H φ x v/\Qg mg P H φ xs ws
end
theorem bU:Qg mg P H φ [] []:=by simp only[Qg]
theorem bw(h:RA mg P H φ x v)(t:Qg mg P H φ xs vs):Qg mg P H φ (x::xs) (v::vs):=by simp only[Qg];exact⟨v,vs,rfl,h,t⟩
structure Frm(P:Pr)(φ:List Ç)(H:Hp)(P':Pr)(φ':List Ç)(H':Hp):Prop where
 ext:∀a,P a->P' a/\H' a=H a
 new:∃more,φ'=φ++more/\∀a∈more,H a=Á
 keep:∀a,H a≠Á->a∉φ->(∀ps,H a≠À (.tbl ps))->H' a=H a
 pn:∀a,P' a->P a\/H a=Á\/a∈φ
 sm:∀a,H a≠Á->H' a≠Á
 fz:∀a o u,H a=À (.frz o u)->H' a=À (.frz o u)
theorem Frm.refl:Frm P φ H P φ H:=⟨fun _ h=>⟨h,rfl⟩,⟨[],by simp,by simp⟩,fun _ _ _ _=>rfl,fun _ h=>.inl h,fun _ h=>h,fun _ _ _ h=>h⟩
theorem Frm.trans{P p n:Pr}{φ d c:List Ç}{H k q:Hp}(a:Frm P φ H p d k)(b:Frm p d k n c q):Frm P φ H n c q:=by
 obtain⟨s,j,i⟩:=a.new;obtain⟨m2,t,r⟩:=b.new;have l:∀x,k x=Á->H x=Á:=fun x h=>by
  cases e:H x with
  |none=>rfl
  |some o=>exact absurd h (a.sm x (by rw[e];exact fun z=>nomatch z))
 refine⟨fun x h=>?_,⟨s++m2,by rw[t,j,yO],fun x h=>?_⟩,fun x f g m=>?_,fun x h=>?_,fun x h=>b.sm x (a.sm x h),fun x o u h=>b.fz x o u (a.fz x o u h)⟩
 ·obtain⟨f,e⟩:=a.ext x h
  obtain⟨g,v⟩:=b.ext x f;exact⟨g,v.trans e⟩
 ·rcases zZ.mp h with h|h
  ·exact i x h
  ·exact l x (r x h)
 ·have e:=a.keep x f g m
  refine(b.keep x (by rw[e];exact f) (fun z=>?_) (by rw[e];exact m)).trans e;rw[j]at z;rcases zZ.mp z with z|z
  ·exact g z
  ·exact f (i x z)
 ·rcases b.pn x h with h|h|h
  ·exact a.pn x h
  ·exact .inr (.inl (l x h))
  ·rw[j]at h
   rcases zZ.mp h with h|h
   ·exact .inr (.inr h)
   ·exact .inr (.inl (i x h))
theorem Rd.at(h:Rd H a u)(e:H' a=H a):Rd H' a u:=by
 rcases h with h|⟨o,h⟩
 ·exact .inl (e.trans h)
 ·exact .inr ⟨o,e.trans h⟩
theorem FLk.mono{mg:Gm}{P b:Pr}{H c:Hp}{a:Ç}{vs:List V}(h:FLk mg P H a vs)(x:∀a,P a->b a/\c a=H a):FLk mg b c a vs:=by
 rcases h with⟨p,r⟩|h
 ·exact .inl ⟨(x a p).1,Rd.at r (x a p).2⟩
 ·exact .inr h
theorem FLk.sq(h:FLk mg P H a vs):cu mg.K H a vs:=by
 rcases h with⟨_,r⟩|h
 ·exact .inl r
 ·exact h H
section
variable{mg:Gm}{P P':Pr}{H H':Hp}{φ φ':List Ç}
mutual
theorem RA.mono'(x:∀a,P a->P' a/\H' a=H a):∀{t:AV}{v:V}{φ φ':List Ç},(∀(k:Nat) a,φ[k]?=À a->φ'[k]?=À a)->RA mg P H φ t v->RA mg P' H' φ' t v
 |.non,_,_,_,_,h=>by simp only[RA]at h ⊢;exact h
 |.bl _,_,_,_,_,h=>by simp only[RA]at h ⊢;exact h
 |.int _,_,_,_,_,h=>by simp only[RA]at h ⊢;exact h
 |.str _,_,_,_,_,h=>by simp only[RA]at h ⊢;exact h
 |.ref k,_,_,_,hφ,h=>by simp only[RA]at h ⊢;obtain⟨a,e,r⟩:=h;exact⟨a,hφ k a e,r⟩
 |.tup xs,_,_,_,hφ,h=>by
  simp only[RA]at h ⊢;obtain⟨a,b,r,p,e,q⟩:=h;exact⟨a,b,r,(x a p).1,(x a p).2.trans e,Qg.mono' x hφ q⟩
 |.fz xs,_,_,_,hφ,h=>by
  simp only[RA]at h ⊢;obtain⟨a,b,r,e,q⟩:=h;exact⟨a,b,r,e.mono x,Qg.mono' x (fun _ _ z=>z) q⟩
theorem Qg.mono'(x:∀a,P a->P' a/\H' a=H a):∀{ts:List AV}{vs:List V}{φ φ':List Ç},(∀(k:Nat) a,φ[k]?=À a->φ'[k]?=À a)->Qg mg P H φ ts vs->Qg mg P' H' φ' ts vs
 |[],_,_,_,_,h=>by simp only[Qg]at h ⊢;exact h
 |t::ts,_,_,_,hφ,h=>by
  simp only[Qg]at h ⊢;obtain⟨v,ws,e,r,q⟩:=h;exact⟨v,ws,e,RA.mono' x hφ r,Qg.mono' x hφ q⟩
end
theorem RA.mono{t:AV}{v:V}(h:RA mg P H φ t v)(x:∀a,P a->P' a/\H' a=H a)(b:∀(k:Nat) a,φ[k]?=À a->φ'[k]?=À a):RA mg P' H' φ' t v:=RA.mono' x b h
theorem Qg.mono{c:List AV}{vs:List V}(h:Qg mg P H φ c vs)(x:∀a,P a->P' a/\H' a=H a)(b:∀(k:Nat) a,φ[k]?=À a->φ'[k]?=À a):Qg mg P' H' φ' c vs:=Qg.mono' x b h
theorem Frm.ix(f:Frm P φ H P' φ' H'):∀(k:Nat) a,φ[k]?=À a->φ'[k]?=À a:=fun k a e=>by
 obtain⟨m,rfl,_⟩:=f.new;rw[zN (zB.mp e).1];exact e
theorem RA.frm(h:RA mg P H φ t v)(f:Frm P φ H P' φ' H'):RA mg P' H' φ' t v:=h.mono f.ext f.ix
theorem Qg.frm(h:Qg mg P H φ ts vs)(f:Frm P φ H P' φ' H'):Qg mg P' H' φ' ts vs:=h.mono f.ext f.ix
theorem RA.lift(h:RA mg P H [] t v):RA mg P H φ t v:=h.mono (fun _ h=>⟨h,rfl⟩) fun k a e=>by simp at e
theorem Qg.lift(h:Qg mg P H [] ts vs):Qg mg P H φ ts vs:=h.mono (fun _ h=>⟨h,rfl⟩) fun k a e=>by simp at e
theorem Qg.length:∀{ts:List AV}{vs:List V},Qg mg P H φ ts vs->ts.length=vs.length
 |[],_,h=>by simp only[Qg]at h;subst h;rfl
 |t::ts,_,h=>by
  simp only[Qg]at h;obtain⟨v,ws,rfl,_,q⟩:=h;rw[yZ,yZ,Qg.length q]
theorem Qg.get:∀{ts:List AV}{vs:List V}{i:Nat}{t:AV},Qg mg P H φ ts vs->ts[i]?=À t->∃v,vs[i]?=À v/\RA mg P H φ t v
 |[],_,_,_,_,e=>by simp at e
 |x::ts,_,i,t,h,e=>by
  simp only[Qg]at h;obtain⟨v,ws,rfl,r,q⟩:=h;cases i with
  |zero=>simp at e;subst e;exact⟨v,rfl,r⟩
  |succ i=>simpa using Qg.get (i:=i) q (by simpa using e)
theorem Qg.app:∀{xs ys:List AV}{vs ws:List V},Qg mg P H φ xs vs->Qg mg P H φ ys ws->Qg mg P H φ (xs++ys) (vs++ws)
 |[],_,_,_,h,g=>by simp only[Qg]at h;subst h;exact g
 |x::xs,_,_,_,h,g=>by
  simp only[Qg]at h;obtain⟨v,ws,rfl,r,q⟩:=h;exact bw r (Qg.app q g)
theorem Qg.take:∀{xs:List AV}{vs:List V} (n:Nat),Qg mg P H φ xs vs->Qg mg P H φ (xs.take n) (vs.take n)
 |xs,vs,0,_=>by rw[W3,W3];exact bU
 |[],vs,n+1,h=>by simp only[Qg]at h;subst h;exact bU
 |x::xs,vs,n+1,h=>by
  simp only[Qg]at h;obtain⟨v,ws,rfl,r,q⟩:=h;exact bw r (Qg.take n q)
theorem Qg.drop:∀{xs:List AV}{vs:List V} (n:Nat),Qg mg P H φ xs vs->Qg mg P H φ (xs.drop n) (vs.drop n)
 |xs,vs,0,h=>h
 |[],vs,n+1,h=>by simp only[Qg]at h;subst h;exact bU
 |x::xs,vs,n+1,h=>by
  simp only[Qg]at h;obtain⟨v,ws,rfl,r,q⟩:=h;exact Qg.drop n q
theorem Qg.set(r:RA mg P H φ x v):∀{xs:List AV}{vs:List V} (n:Nat),Qg mg P H φ xs vs->Qg mg P H φ (xs.set n x) (vs.set n v)
 |[],vs,_,h=>by simp only[Qg]at h;subst h;exact bU
 |y::xs,vs,n,h=>by
  simp only[Qg]at h;obtain⟨w,ws,rfl,q,t⟩:=h;cases n with
  |zero=>exact bw r t
  |succ n=>exact bw q (Qg.set r n t)
theorem Qg.ints:∀{ns:List Int}{vs:List V},Qg mg P H φ (ns.map .int) vs->vs=ns.map .int
 |[],_,h=>by simpa only[Ŗ,Qg] using h
 |n::ns,_,h=>by
  simp only[zO,Qg,RA]at h;obtain⟨v,ws,rfl,rfl,q⟩:=h;rw[Qg.ints q];rfl
theorem Qg.of_ints:∀{ns:List Int},Qg mg P H φ (ns.map .int) (ns.map V.int)
 |[]=>bU
 |n::ns=>bw (by simp only[RA]) Qg.of_ints
end
def KVR(mg:Gm)(P:Pr)(H:Hp)(φ:List Ç){a:Type}(Qb:List (a×AV))(ws:List (a×V)):Prop:=Qb.map (·.1)=ws.map (·.1)/\Qg mg P H φ (Qb.map (·.2)) (ws.map (·.2))
def CellR(mg:Gm)(P:Pr)(H:Hp)(φ:List Ç)(a:Ç):Qd->Prop
 |.lst xs=>¬P a/\∃vs,H a=À (.lst vs)/\Qg mg P H φ xs vs
 |.al t=>P a/\RA mg P H [] t (.ref a)
 |.dK Qb=>¬P a/\∃ws,H a=À (.dK ws)/\KVR mg P H φ Qb ws
 |.dT Qb=>¬P a/\∃ws,H a=À (.dT ws)/\KVR mg P H φ Qb ws
 |.ins c fs=>¬P a/\∃C dx ws,mg.mg c=À (.ref C)/\H a=À (.ins C dx ws)/\KVR mg P H φ fs ws
 |.wk Qb=>¬P a/\∃o ws,H a=À (.frz o (.dK ws))/\KVR mg P H φ Qb ws
def J6(o:Option HO):Prop:=(∀a,o≠À (.tbl a))/\∀f,o≠À (.ext f)
theorem _root_.L2.gU.new(h:gU H P pos q)(a:H p=Á):gU (ai H p o) P pos q:=by
 obtain⟨d,e,t,c⟩:=h;refine⟨d,by rw[ad (bB e a)];exact e,t,?_⟩;rcases c with c|⟨g,f,b⟩
 ·exact .inl c
 ·exact .inr ⟨g,f,by rw[ad (bB b a)];exact b⟩
theorem _root_.L2.gU.ne(h:gU H P pos q)(a:H p=Á):P≠p:=by
 obtain⟨b,e,_⟩:=h;exact bB e a
theorem _root_.L2.gU.wr(h:gU H P pos q)(b:J6 (H p)):gU (ai H p o) P pos q:=by
 obtain⟨a,e,t,c⟩:=h;refine⟨a,by rw[ad fun z=>b.1 a (by rw[<- z];exact e)];exact e,t,?_⟩;rcases c with c|⟨g,f,d⟩
 ·exact .inl c
 ·exact .inr ⟨g,f,by rw[ad fun z=>b.2 _ (by rw[<- z];exact d)];exact d⟩
structure Sim[Qc](mg:Gm)(P:Pr)(φ:List Ç)(st:aa)(H:Hp):Prop where
 len:φ.length=st.length
 nd:φ.Nodup
 dom:∀a,P a->H a≠Á
 cd:∀a∈φ,H a≠Á
 cell:∀(k:Nat) c a,st[k]?=À c->φ[k]?=À a->CellR mg P H φ a c
 tb:∀t∈Qc.tb,gU H t.1 t.2.1 t.2.2/\¬P t.1
section
variable{mg:Gm}{P P':Pr}{H H':Hp}{φ φ':List Ç}{st st':aa}{a:Ç}
theorem KVR.mono{c:Type}{Qb:List (c×AV)}{ws:List (c×V)}(h:KVR mg P H φ Qb ws)(x:∀a,P a->P' a/\H' a=H a)(b:∀(k:Nat) a,φ[k]?=À a->φ'[k]?=À a):KVR mg P' H' φ' Qb ws:=⟨h.1,h.2.mono x b⟩
theorem CellR.mono{c:Qd}(h:CellR mg P H φ a c)(x:∀a,P a->P' a/\H' a=H a)(b:∀(k:Nat) a,φ[k]?=À a->φ'[k]?=À a)(e:H' a=H a)(f:¬P a->¬P' a):CellR mg P' H' φ' a c:=by
 cases c with
 |lst xs=>obtain⟨n,d,r,q⟩:=h;exact⟨f n,d,e.trans r,q.mono x b⟩
 |al t=>exact⟨(x a h.1).1,h.2.mono x fun _ _ z=>z⟩
 |dK Qb=>obtain⟨n,d,r,q⟩:=h;exact⟨f n,d,e.trans r,q.mono x b⟩
 |dT Qb=>obtain⟨n,d,r,q⟩:=h;exact⟨f n,d,e.trans r,q.mono x b⟩
 |ins c fs=>obtain⟨n,C,i,g,m,r,q⟩:=h;exact⟨f n,C,i,g,m,e.trans r,q.mono x b⟩
 |wk Qb=>obtain⟨n,o,g,r,q⟩:=h;exact⟨f n,o,g,e.trans r,q.mono x b⟩
theorem Sim.at[Qc](s:Sim mg P φ st H){k:Nat}(e:st[k]?=À c):∃a,φ[k]?=À a/\CellR mg P H φ a c:=by
 have b:k<φ.length:=by rw[s.len];exact(zB.mp e).1
 exact⟨φ[k],zF b,s.cell k c _ e (zF b)⟩
theorem Sim.notb[Qc](s:Sim mg P φ st H){k:Nat}(d:φ[k]?=À a)(f:¬P a):J6 (H a):=by
 obtain⟨c,g⟩:∃c,st[k]?=À c:=⟨_,zF (by rw[<- s.len];exact(zB.mp d).1)⟩;have h:=s.cell k c a g d;cases c with
 |lst xs=>obtain⟨n,b,r,q⟩:=h;rw[r];exact⟨fun _ z=>(nomatch z),fun _ z=>(nomatch z)⟩
 |al t=>exact absurd h.1 f
 |dK Qb=>obtain⟨n,b,r,q⟩:=h;rw[r];exact⟨fun _ z=>(nomatch z),fun _ z=>(nomatch z)⟩
 |dT Qb=>obtain⟨n,b,r,q⟩:=h;rw[r];exact⟨fun _ z=>(nomatch z),fun _ z=>(nomatch z)⟩
 |ins c fs=>obtain⟨n,C,i,e,m,r,q⟩:=h;rw[r];exact⟨fun _ z=>(nomatch z),fun _ z=>(nomatch z)⟩
 |wk Qb=>obtain⟨n,o,e,r,q⟩:=h;rw[r];exact⟨fun _ z=>(nomatch z),fun _ z=>(nomatch z)⟩
theorem Sim.tnc[Qc](s:Sim mg P φ st H)(a:t∈Qc.tb):t.1∉φ:=fun h=>by
 obtain⟨j,c⟩:=yA h;obtain⟨b,e,_⟩:=(s.tb t a).1;exact(s.notb c (s.tb t a).2).1 b e
theorem Sim.okeep[Qc](s:Sim mg P φ st H)(f:Frm P φ H P' φ' H')(h:H c=À (ia c q)):H' c=À (ia c q):=by
 by_cases a:P c
 ·exact(f.ext c a).2.trans h
 ·refine(f.keep c (by rw[h];exact fun z=>nomatch z) (fun z=>?_) fun d z=>by rw[h]at z;cases z).trans h
  obtain⟨j,b⟩:=yA z;exact(s.notb b a).2 _ h
theorem Sim.ckeep[Qc](s:Sim mg P φ st H)(x:∀a,P a->H' a=H a)(k:∀a,H a≠Á->(∀ps,H a≠À (.tbl ps))->H' a=H a):∀a∈φ,H' a=H a:=fun a h=>by
 by_cases b:P a
 ·exact x a b
 ·obtain⟨j,c⟩:=yA h
  exact k a (s.cd a h) (s.notb c b).1
theorem Sim.stay[Qc](s:Sim mg P φ st H)(x:∀a,P a->P' a/\H' a=H a)(d:∀a∈φ,H' a=H a)(f:∀a∈φ,¬P a->¬P' a)(i:∀a,P' a->H' a≠Á)(e:∀t∈Qc.tb,gU H' t.1 t.2.1 t.2.2/\¬P' t.1):Sim mg P' φ st H' :=
 ⟨s.len,s.nd,i,fun a h=>by rw[d a h];exact s.cd a h,fun k c a g b=>(s.cell k c a g b).mono x (fun _ _ z=>z) (d a (zW b)) (f a (zW b)),e⟩
theorem Sim.nil[Qc](d:∀a,P a->H a≠Á)(b:∀t∈Qc.tb,gU H t.1 t.2.1 t.2.2/\¬P t.1):Sim mg P [] [] H:=⟨rfl,W5,d,fun _ h=>by simp at h,fun k c a e _=>by simp at e,b⟩
theorem o8[Qc](s:Sim mg P φ st H)(b:H p=Á):Frm P φ H (fun a=>P a\/a=p) φ (ai H p o)/\Sim mg (fun a=>P a\/a=p) φ st (ai H p o):=by
 have ne:∀a,H a≠Á->a≠p:=fun a h e=>h (by rw[e];exact b)
 have f:Frm P φ H (fun a=>P a\/a=p) φ (ai H p o):=by
  refine⟨fun a h=>⟨.inl h,ad (ne a (s.dom a h))⟩,⟨[],by simp,by simp⟩,fun a h _ _=>ad (ne a h),fun a h=>?_,fun a h=>by rw[ad (ne a h)];exact h,fun a o u h=>by rw[ad (bB h b)];exact h⟩;rcases h with h|h
  ·exact .inl h
  ·exact .inr (.inl (by rw[h];exact b))
 refine⟨f,s.stay f.ext (fun a h=>ad (ne a (s.cd a h))) (fun a h n z=>?_) (fun a h=>?_) fun t c=>⟨(s.tb t c).1.new b,fun z=>z.elim (s.tb t c).2 (fun e=>(s.tb t c).1.ne b e)⟩⟩
 ·rcases z with z|z
  ·exact n z
  ·exact ne a (s.cd a h) z
 ·rcases h with h|h
  ·rw[ad (ne a (s.dom a h))];exact s.dom a h
  ·rw[h,aF];exact fun z=>nomatch z
theorem oz[Qc](s:Sim mg P φ st H)(i:H p=Á)(q:CellR mg P (ai H p o) (φ++[p]) p c):Frm P φ H P (φ++[p]) (ai H p o)/\Sim mg P (φ++[p]) (st++[c]) (ai H p o):=by
 have ne:∀a,H a≠Á->a≠p:=fun a h e=>h (by rw[e];exact i)
 have ex:∀a,P a->P a/\ai H p o a=H a:=fun a h=>⟨h,ad (ne a (s.dom a h))⟩
 have ix:∀(k:Nat) a,φ[k]?=À a->(φ++[p])[k]?=À a:=fun k a e=>by rw[zN (zB.mp e).1];exact e
 have j:∀a,H a≠Á->ai H p o a≠Á:=fun a h=>by rw[ad (ne a h)];exact h
 refine⟨⟨ex,⟨[p],rfl,fun a h=>by rw[zM.mp h];exact i⟩,fun a h _ _=>ad (ne a h),fun a h=>.inl h,j,fun a o u h=>by rw[ad (bB h i)];exact h⟩,?_,?_,fun a h=>j a (s.dom a h),fun a h=>?_,fun k d a g f=>?_,fun t m=>⟨(s.tb t m).1.new i,(s.tb t m).2⟩⟩
 ·rw[zV,zV,s.len];rfl
 ·exact ϭ.mpr ⟨s.nd,(by simp),fun a h b r e=>ne a (s.cd a h) (by rw[e];exact zM.mp r)⟩
 ·rcases zZ.mp h with h|h
  ·exact j a (s.cd a h)
  ·rw[zM.mp h,aF];exact fun z=>nomatch z
 ·by_cases n:k<st.length
  ·rw[zN n]at g
   rw[zN (by rw[s.len];exact n)]at f;exact(s.cell k d a g f).mono ex ix (ad (ne a (s.cd a (zW f)))) fun z=>z
  ·have l:k=st.length:=by
    have:=(zB.mp g).1
    rw[zV]at this;simp at this;lia
   subst l;simp at g;rw[<- s.len]at f;simp at f;subst g;subst f;exact q
theorem jj[Qc]{k:Nat}(s:Sim mg P φ st H)(m:φ[k]?=À a)(q:¬P a)(y:CellR mg P (ai H a o) φ a c)(v:∀o u,H a≠À (.frz o u)):Frm P φ H P φ (ai H a o)/\Sim mg P φ (st.set k c) (ai H a o):=by
 have w:a∈φ:=zW m;have ne:∀b,P b->b≠a:=fun b h e=>q (by rw[<- e];exact h)
 have n:∀b,H b≠Á->ai H a o b≠Á:=fun b h=>by
  by_cases e:b=a
  ·rw[e,aF];exact fun z=>nomatch z
  ·rw[ad e];exact h
 have ex:∀b,P b->P b/\ai H a o b=H b:=fun b h=>⟨h,ad (ne b h)⟩
 refine⟨⟨ex,⟨[],by simp,by simp⟩,fun b _ h _=>ad fun e=>h (by rw[e];exact w),fun b h=>.inl h,n,fun b o u h=>by rw[ad (fun e=>v o u (by rw[<- e];exact h))];exact h⟩,by rw[ç];exact s.len,s.nd,fun b h=>n b (s.dom b h),fun b h=>n b (s.cd b h),fun j d b g f=>?_,fun t r=>⟨(s.tb t r).1.wr (s.notb m q),(s.tb t r).2⟩⟩;by_cases p:j=k
 ·subst p
  rw[m]at f;cases f;rw[õ (by rw[<- s.len];exact(zB.mp m).1)]at g;cases g;exact y
 ·rw[ñ (æ p)]at g
  have A:b≠a:=fun e=>p (by
   subst e;exact nodup_ix' s.nd f m)
  exact(s.cell j d b g f).mono ex (fun _ _ z=>z) (ad A) fun z=>z
where
 nodup_ix' {l:List Ç} (hN:l.Nodup) {i j:Nat}{x:Ç} (a:l[i]?=À x) (b:l[j]?=À x):i=j:=by
  obtain⟨C,g⟩:=zB.mp a;obtain⟨B,f⟩:=zB.mp b;exact(Ű hN).mp (g.trans f.symm)
end
open PySem.Spec PyProof.Rows
open DD (PE_imp PT_imp PA_imp PS_imp PSs_imp OpR_imp PW_imp PG_imp)
abbrev St:=L2.St
abbrev _root_.L2.Cx.gm(X:Cx):Gm:=⟨X.K,X.mg⟩
def KG[Qc]{α g:Type}(mg:Gm)(h:Gm->Pr->Hp->List Ç->α->g->Prop)(P:Pr)(φ:List Ç)(H:Hp)(r:Option (α×aa))(Q:g->Hp->Prop):Prop :=
 ∃a d,r=À (a,d)/\∀f c e b,Frm P φ H f c e->Sim mg f c d e->h mg f e c a b->Q b e
def RB{α:Type}(_:Gm)(_:Pr)(_:Hp)(_:List Ç)(a b:α):Prop:=a=b
section
variable{α β γ δ:Type}{mg:Gm}{Ra:Gm->Pr->Hp->List Ç->α->β->Prop}{Rc:Gm->Pr->Hp->List Ç->γ->δ->Prop}{P:Pr}{φ:List Ç}{H:Hp}
theorem KG.bind[Qc]{m:Option (α×aa)}{k:α×aa->Option (γ×aa)}{Q:δ->Hp->Prop}(h:KG mg Rc P φ H (m.bind k) Q) :
  KG mg Ra P φ H m fun b H1=>∃P1 φ1 st1 a,Frm P φ H P1 φ1 H1/\Sim mg P1 φ1 st1 H1/\Ra mg P1 H1 φ1 a b/\KG mg Rc P1 φ1 H1 (k (a,st1)) Q:=by
 obtain⟨c,i,e,q⟩:=h;cases m with
 |none=>cases e
 |some p =>
  obtain⟨a,st1⟩:=p;refine⟨a,st1,rfl,fun P1 φ1 H1 b f s r=>⟨P1,φ1,st1,a,f,s,r,c,i,e,fun o g t d n j l=>q o g t d (f.trans n) j l⟩⟩
theorem KG.pure[Qc]{a:α}{st:aa}{Q:β->Hp->Prop}{b:β}(h:KG mg Ra P φ H (À (a,st)) Q)(s:Sim mg P φ st H)(r:Ra mg P H φ a b):Q b H:=by
 obtain⟨_,_,e,q⟩:=h;cases e;exact q P φ H b Frm.refl s r
theorem KG.map[Qc]{m:Option α}{st:aa}{Q:β->Hp->Prop}(h:KG mg Ra P φ H (m.map fun a=>(a,st)) Q):∃a,m=À a/\KG mg Ra P φ H (À (a,st)) Q:=by
 obtain⟨b,c,e,q⟩:=h;cases m with
 |none=>cases e
 |some a=>exact⟨a,rfl,b,c,e,q⟩
end
def Qk(mg:Gm)(P:Pr)(H:Hp)(φ:List Ç)(sl:Sl)(σ:St):Prop:=sl.length=σ.length/\∀(i:Nat) v,sl[i]?=À (À v)->∃w,σ[i]?=À (À w)/\RA mg P H φ v w
section
variable{mg:Gm}{P P':Pr}{H H':Hp}{φ φ':List Ç}{sl:Sl}{σ:St}
theorem Qk.frm(h:Qk mg P H φ sl σ)(f:Frm P φ H P' φ' H'):Qk mg P' H' φ' sl σ:=⟨h.1,fun i v e=>let⟨w,a,r⟩:=h.2 i v e;⟨w,a,r.frm f⟩⟩
theorem Qk.set(h:Qk mg P H φ sl σ)(r:RA mg P H φ v w)(i:Nat):Qk mg P H φ (sl.set i (À v)) (σ.set i (À w)):=by
 refine⟨by rw[ç,ç];exact h.1,fun j u e=>?_⟩;by_cases a:i=j
 ·subst a
  by_cases b:i<sl.length
  ·rw[õ b]at e
   cases e;exact⟨w,õ (by rw[<- h.1];exact b),r⟩
  ·rw[í (by rw[ç];lia)]at e;cases e
 ·rw[ñ a]at e
  rw[ñ a];exact h.2 j u e
end
abbrev EF:=Sl->aa->Option (AV×aa)
abbrev TF:=Sl->aa->Option (Bool×aa)
abbrev AF:=Sl->aa->Option (List AV×aa)
def rE[Qc](mg:Gm)(f:EF):TE:=fun d H Q=>∃P a c b,Qk mg P H a c d/\Sim mg P a b H/\KG mg RA P a H (f c b) Q
def rT[Qc](mg:Gm)(f:TF):TT:=fun d H Q=>∃P a c b,Qk mg P H a c d/\Sim mg P a b H/\KG mg RB P a H (f c b) Q
def rA[Qc](mg:Gm)(f:AF):TA:=fun d H Q=>∃P a c b,Qk mg P H a c d/\Sim mg P a b H/\KG mg Qg P a H (f c b) Q
def QE[Qc](X:Cx)(e:Î)(f:EF):Prop:=PE X e (rE X.gm f)
def QT[Qc](X:Cx)(e:Î)(f:TF):Prop:=PT X e (rT X.gm f)
def QW[Qc](X:Cx)(e:Î)(f:TF):Prop:=PW X e (rT X.gm f)
def QA[Qc](X:Cx)(es:List Î)(f:AF):Prop:=PA X es (rA X.gm f)
def aV(i:Nat):EF:=fun b a=>match b[i]? with
 |some (À v)=>À (v,a)
 |_=>Á
def aC(v:AV):EF:=fun _ a=>À (v,a)
def fB:AF:=fun _ a=>À ([],a)
def eM(f:EF)(g:AF):AF:=fun a b=>(f a b).bind fun p=>(g a p.2).bind fun q=>À (p.1::q.1,q.2)
noncomputable def qU:AV->Option V
 |.non=>À .non
 |.bl b=>À (.bl b)
 |.int i=>À (.int i)
 |.str x=>À (.str x)
 |_=>Á
theorem RA.sc(h:qU v=À w):RA mg P H φ v w:=by
 cases v<;>simp only[qU]at h<;>cases h<;>simp only[RA]
section
variable{X:Cx}{e:Î}{es:List Î}{pos:ĥ}
theorem Hs[Qc]{i:Nat}(g:X.N[i]?=À x)(f:AY X.env.scope x)(hd:(x==("__debug__":Í))=Ä)(b:(x==("__classdict__":Í))=Ä):QE X (.Name x pos) (aV i) :=
 PE_imp (HQ g f hd b) fun l H Q a=>by
  refine e7 a fun P j c m r s k=>?_
  unfold aV at k;cases h:c[i]? with
  |none=>rw[h]at k;obtain⟨_,_,e,_⟩:=k;cases e
  |some o =>
   cases o with
   |none=>rw[h]at k;obtain⟨_,_,e,_⟩:=k;cases e
   |some v =>
    rw[h]at k;obtain⟨w,e,d⟩:=r.2 i v h;exact⟨w,e,k.pure s d⟩
theorem tJ[Qc](b:qU v=À w)(h:PE X e t)(c:∀σ H Q,Q w H->t σ H Q):QE X e (aC v) :=
 PE_imp h fun σ H Q a=>e7 a fun P d g f r s k=>c σ H Q (k.pure s (RA.sc b))
theorem fH[Qc]:QA X [] fB:=PA_imp zr fun c H Q a=>e7 a fun P b e d r s k=>k.pure s bU
theorem c9[Qc](E:QE X e f)(D:QA X es g)(hs:Ë (e::es) X.env=(Ä,eval e X.env)::Ë es X.env):QA X (e::es) (eM f g) :=
 PA_imp (vS E D hs) fun U H Q m=>e7 m fun P T t V r s k=>i7 r s (by
  obtain⟨a,l,L,q⟩:=k.bind (Ra:=RA);refine⟨a,l,L,fun O h S b J x r1=>?_⟩;obtain⟨N,d,j,a2,I,w,r2,C⟩:=q O h S b J x r1;refine⟨N,d,t,j,r.frm I,w,?_⟩;obtain⟨o,i,K,A⟩:=C.bind (Ra:=Qg);refine⟨o,i,K,fun M c R bs G v z=>?_⟩;obtain⟨Y,n,p,W,F,u,y,B⟩:=A M c R bs G v z;exact B.pure u (bw (r2.frm F) y))
end
def a2(f g:EF)(k:AV->AV->aa->Option (AV×aa)):EF:=fun a b=>(f a b).bind fun p=>(g a p.2).bind fun q=>k p.1 q.1 q.2
def a1(f:EF)(k:AV->aa->Option (AV×aa)):EF:=fun b a=>(f b a).bind fun p=>k p.1 p.2
def r2[Qc](mg:Gm)(k:AV->AV->aa->Option (AV×aa)):R2:=fun v w H Q=>∃P a b x y,Sim mg P a b H/\RA mg P H a x v/\RA mg P H a y w/\KG mg RA P a H (k x y b) Q
def r1[Qc](mg:Gm)(k:AV->aa->Option (AV×aa)):V->Hp->VK->Prop:=fun v H Q=>∃P a b x,Sim mg P a b H/\RA mg P H a x v/\KG mg RA P a H (k x b) Q
section
variable{mg:Gm}{k:AV->AV->aa->Option (AV×aa)}{k1:AV->aa->Option (AV×aa)}{f g:EF}
theorem xN[Qc](q:rE mg (a2 f g k) σ H Q):yg (r2 mg k) (rE mg f) (rE mg g) σ H Q:=by
 refine e7 q fun P U o V n s A=>?_
 refine i7 n s ?_;obtain⟨a,m,J,q⟩:=A.bind (Ra:=RA);refine⟨a,m,J,fun R h T b G u r1=>?_⟩;obtain⟨O,e,l,x,F,t,r2,C⟩:=q R h T b G u r1;refine⟨O,e,o,l,n.frm F,t,?_⟩;obtain⟨L,j,I,z⟩:=C.bind (Ra:=RA);refine⟨L,j,I,fun N d S K E r w=>?_⟩;obtain⟨M,c,i,y,D,p,v,B⟩:=z N d S K E r w;exact⟨M,c,i,x,y,p,r2.frm D,v,B⟩
theorem Of[Qc](q:rE mg (a1 f k1) σ H Q):Mf (r1 mg k1) (rE mg f) σ H Q:=by
 refine e7 q fun P t v u j s k=>?_
 refine i7 j s ?_;obtain⟨a,g,n,q⟩:=k.bind (Ra:=RA);refine⟨a,g,n,fun p d r b m i r1=>?_⟩;obtain⟨o,c,e,x,w,h,r2,l⟩:=q p d r b m i r1;exact⟨o,c,e,x,h,r2,l⟩
end
def lP(h:aa->AV->AV->Option AV):AV->AV->aa->Option (AV×aa):=fun x y a=>(h a x y).map fun z=>(z,a)
def GW(h:aa->AV->Option AV):AV->aa->Option (AV×aa):=fun x a=>(h a x).map fun z=>(z,a)
noncomputable def c7(a b:Int):Bool:=(Þ a.natAbs.log2 62||Nat.ble b.natAbs.log2 62)||(Þ a.natAbs.log2 1000000&&Þ b.natAbs.log2 1000000)
noncomputable def hU(b:Int):Bool:=!(b==0)&&Þ b.natAbs.log2 8999
noncomputable def qt(a b:Int):Bool:=decide (0<=b)&&Þ b.natAbs 100000&&Þ a.natAbs.log2 62
noncomputable def uB(a b:Int):Int:=if 0<b then a/b else a.fdiv b
noncomputable def rn(a b:Int):Int:=if 0<b then a%b else a.fmod b
def oH:Ġ->Int->Int->Option Int
 |.Add,a,b=>À (a+b)
 |.Sub,a,b=>À (a-b)
 |.Mult,a,b=>if c7 a b=Ã then À (a*b) else Á
 |.FloorDiv,a,b=>if hU b=Ã then À (uB a b) else Á
 |.Mod,a,b=>if b=0 then Á else À (rn a b)
 |.Pow,a,b=>if qt a b=Ã then À (a^b.toNat) else Á
 |.LShift,a,b=>if qt a b=Ã then À (a*2^b.toNat) else Á
 |.RShift,a,b=>if 0<=b then À (a/2^b.toNat) else Á
 |.BitAnd,a,b=>À (Ł a b)
 |.BitOr,a,b=>À (n! a b)
 |.BitXor,a,b=>À (Ž a b)
 |_,_,_=>Á
def aP(o:Ġ)(_:aa):AV->AV->Option AV
 |.int a,.int b=>(oH o a b).map .int
 |.str a,.str b=>if(decide (o=.Add)&&Þ (a.length+b.length) 1000000)=Ã then À (.str (a++b)) else Á
 |_,_=>Á
theorem log2_lt{n k:Nat}(h:Þ n.log2 k=Ã):n<2^(k+1):=by
 by_cases a:n=0
 ·subst a;exact Ñ _
 ·exact(Ĉ a).mp (ϲ (zS h))
theorem nh{a:Int}{k:Nat}(h:a.natAbs<2^k):þ a<=k:=by
 unfold þ;split
 ·lia
 ·rename_i b
  have:a.natAbs.log2<k:=(Ĉ (by simpa using b)).mpr h;lia
theorem Fu{a b:Int}(h:c7 a b=Ã):IntMulOk a b:=by
 unfold c7 at h;rcases R?.mp h with h|h
 ·rcases R?.mp h with h|h
  ·exact .of_left (z5 (nh (log2_lt h)) dC)
  ·exact .of_right (z5 (nh (log2_lt h)) dC)
 ·obtain⟨d,c⟩:=ŏ.mp h
  exact .of_bits (z5 (nh (log2_lt d)) dC) (z5 (nh (log2_lt c)) dC)
theorem F5{b:Int}(h:hU b=Ã):b≠0/\b.natAbs.log2<9000:=by
 unfold hU at h;obtain⟨c,a⟩:=ŏ.mp h;exact⟨by simpa using c,ϲ (zS a)⟩
theorem JD(a b:Int):a.fdiv b=uB a b:=by
 unfold uB;split
 ·exact r? _ oM
 ·rfl
theorem Jx(a b:Int):a.fmod b=rn a b:=by
 unfold rn;split
 ·exact Int.fmod_eq_emod_of_nonneg _ oM
 ·rfl
theorem vR{a b:Int}(h:qt a b=Ã):Oi a b:=by
 unfold qt at h;simp only[zC,yD]at h;obtain⟨⟨e,c⟩,d⟩:=h;have c:=zS c;exact⟨e,by lia,zJ (log2_lt d) dC⟩
def ND(o:Ġ):R2:=fun x y H Q=>(∃i j k,x=.int i/\y=.int j/\oH o i j=À k/\Q (.int k) H)\/(o=.Add/\∃i j,x=.str i/\y=.str j/\i.length+j.length<=Ì/\Q (.str (i++j)) H)
section
variable{X:Cx}
theorem Ig(o:Ġ):mK X (ύ o) (ND o):=by
 have l:∀(h:∀i j k t u s (Q:Å->Ê->Prop) (E:Å->Ê->Prop),oH o i j=À k->Q (.int k s.toks) { s with toks:=s.toks+1 }->Ï (model X.prog X.w) X.A (ύ o (.int i t) (.int j u)) Q E s)
   (d:List (Ç×Obj)) (s:Ê) (b:St) (H:Hp) (x y:V) (v u:Å) (Q:VK),Inv X d b H s->RelV x v->RelV y u->(∃i j k,x=.int i/\y=.int j/\oH o i j=À k/\Q (.int k) H) ->
   Ï (model X.prog X.w) X.A (ύ o v u) (EP X d b Q) X.xe s:=by
  rintro h d s b H x y v u Q I rx f ⟨i,j,k,w,r,p,q⟩;subst w;subst r;obtain⟨t,rfl⟩:=rx;obtain⟨g,rfl⟩:=f;exact h i j k t g s _ _ p ⟨.int k,H,I.tok _,⟨_,rfl⟩,q⟩
 intro d s b H x y v u Q I rx f h;rcases h with h|⟨rfl,h⟩
 ·refine l ?_ d s b H x y v u Q I rx f h
  intro i j k t u s Q E e q;cases o<;>simp only[oH]at e
  case Add=>cases e;exact add_int q
  case Sub=>cases e;exact sub_int q
  case Mult =>
   split at e
   ·rename_i a;cases e;exact mul_int q (Fu a)
   ·cases e
  case FloorDiv =>
   split at e
   ·rename_i a;cases e
    obtain⟨n,m⟩:=F5 a;exact floordiv_int n (by rw[JD];exact q) (.inl (PyProof.noPylong_of_log2 m))
   ·cases e
  case Mod =>
   split at e
   ·cases e
   ·rename_i a;cases e
    exact mod_int' a (by rw[Jx];exact q)
  case Pow =>
   split at e
   ·rename_i a;cases e
    have c:=vR a;exact pow_int_small c.1 c.2.1 c.2.2 q
   ·cases e
  case LShift =>
   split at e
   ·rename_i a;cases e
    have c:=vR a;exact lshift_int_small c.1 c.2.1 c.2.2 q
   ·cases e
  case RShift =>
   split at e
   ·rename_i a;cases e
    exact rshift_int a (by rw[r? _ (wI _)];exact q)
   ·cases e
  case BitAnd=>cases e;exact and_int q
  case BitOr=>cases e;exact or_int q
  case BitXor=>cases e;exact xor_int q
  all_goals cases e
 ·exact wY d s b H x y v u Q I rx f h
theorem Ii[Qc](o:Ġ):mK X (ύ o) (r2 X.gm (lP (aP o))):=OpR_imp (Ig o) fun v w H Q d=>by
 obtain ⟨P,i,j,x,y,s,r1,r2,k⟩:=d;obtain ⟨z,e,k⟩:=k.map;cases x <;> cases y <;> simp only [aP] at e <;> first | (cases e;done) | skip
 ·rename_i a b
  simp only[RA]at r1 r2;obtain⟨c,h,g⟩:=zE.mp e;subst g;exact .inl ⟨a,b,c,r1,r2,h,k.pure s (by simp only[RA])⟩
 ·rename_i a b
  simp only[RA]at r1 r2;split at e
  ·rename_i f
   cases e;simp only[zC,yD]at f;exact .inr ⟨f.1,a,b,r1,r2,z5 (zS f.2) dC,k.pure s (by simp only[RA])⟩
  ·cases e
theorem Hy[Qc](d:QE X a f)(c:QE X b g):QE X (.BinOp a o b pos) (a2 f g (lP (aP o))) :=
 PE_imp (wW (Ii o) d c) fun _ _ _ q=>xN q
end
open DD (pyOk reads_each any_vals obj_list obj_tup)
def dr(st:aa):AV->AV
 |.ref k=>match st[k]? with
  |some (.al t)=>t
  |_=>.ref k
 |v=>v
def cj(st:aa)(v:AV):Option (List AV):=match dr st v with
 |.fz a=>À a
 |.ref k=>match st[k]? with
  |some (.lst a)=>À a
  |_=>Á
 |_=>Á
def jL(st:aa)(v:AV):Option (List AV):=match dr st v with
 |.tup xs=>À xs
 |_=>Á
section
variable{mg:Gm}{P:Pr}{φ:List Ç}{st:aa}{H:Hp}{v:AV}{w:V}{xs:List AV}
theorem RA.dr[Qc](s:Sim mg P φ st H)(r:RA mg P H φ v w):RA mg P H φ (dr st v) w:=by
 cases v with
 |ref k =>
  unfold R.dr;dsimp only;split
  ·rename_i t h
   obtain⟨a,e,c⟩:=s.at h;simp only[RA]at r;obtain⟨d,b,rfl⟩:=r;rw[e]at b;cases b;exact c.2.lift
  ·exact r
 |_=>exact r
theorem RA.ls[Qc](s:Sim mg P φ st H)(r:RA mg P H φ v w)(h:cj st v=À xs):∃a vs,w=.ref a/\cu mg.K H a vs/\Qg mg P H φ xs vs:=by
 have r:=r.dr s;unfold cj at h;split at h
 ·rename_i g e
  cases h;rw[e]at r;simp only[RA]at r;obtain⟨a,vs,d,b,q⟩:=r;exact⟨a,vs,d,b.sq,q.lift⟩
 ·rename_i k e
  rw[e]at r;simp only[RA]at r;obtain⟨a,d,b⟩:=r;split at h
  ·rename_i g l
   cases h;obtain⟨m,f,c⟩:=s.at l;rw[d]at f;cases f;obtain⟨_,vs,j,i⟩:=c;exact⟨a,vs,b,.inl (.inl j),i⟩
  ·cases h
 ·cases h
theorem RA.tp[Qc](s:Sim mg P φ st H)(r:RA mg P H φ v w)(h:jL st v=À xs):∃a vs,w=.ref a/\H a=À (.tup vs)/\Qg mg P H φ xs vs:=by
 have r:=r.dr s;unfold jL at h;split at h
 ·rename_i d e
  cases h;rw[e]at r;simp only[RA]at r;obtain⟨a,vs,c,_,b,q⟩:=r;exact⟨a,vs,c,b,q⟩
 ·cases h
end
noncomputable def bC{α β:Type}(f:α->Option β):List α->Option (List β)
 |[]=>À []
 |x::xs=>(f x).bind fun y=>(bC f xs).map fun ys=>y::ys
theorem fJ{α b a:Type}{f:α->Option b}{i:a->α}{g:a->b}(h:∀x,f (i x)=À (g x))(xs:List a):bC f (xs.map i)=À (xs.map g):=by
 induction xs with
 |nil=>rfl
 |cons x xs c=>simp only[zO,bC,h,c,Â,Æ]
def fc:Nat->aa->AV->Option ň
 |_,_,.non=>À .none
 |_,_,.bl b=>À (.bool b)
 |_,_,.int i=>À (.int i)
 |_,_,.str x=>À (.str x)
 |n+1,st,.fz xs=>(bC (fc n st) xs).map .list
 |n+1,st,.tup xs=>(bC (fc n st) xs).map .tuple
 |n+1,st,.ref k=>match st[k]? with
  |some (.lst xs)=>(bC (fc n st) xs).map .list
  |some (.al t)=>fc n st t
  |_=>Á
 |0,_,_=>Á
section
variable{X:Cx}{Qa:List (Ç×Obj)}{σ:St}{H:Hp}{s:Ê}{P:Pr}{φ:List Ç}{st:aa}
theorem tG[Qc]{n:Nat}(g:∀t v p u,RA mg P H φ t v->fc n st t=À p->RelV v u->∃as,Ÿ s.heap u p as) :
  ∀{xs:List AV}{vs:List V}{ps:List ň}{us:List Å},Qg mg P H φ xs vs->bC (fc n st) xs=À ps->Vals vs us->∃as,k! s.heap us ps as:=by
 intro xs
 induction xs with
 |nil =>
  intro vs ps us r e q;simp only[Qg]at r;subst r;cases e;cases q;exact⟨_,.nil⟩
 |cons x xs a =>
  intro vs ps us r e q;simp only[Qg]at r;obtain⟨v,l,rfl,r1,r2⟩:=r;simp only[bC]at e;obtain⟨p,k,j⟩:=zA e;obtain⟨m,i,h⟩:=zE.mp j;subst h;cases q with
  |cons f d =>
   obtain⟨as,c⟩:=g x v p _ r1 k f;obtain⟨bs,b⟩:=a r2 i d;exact⟨_,.cons c b⟩
theorem iM[Qc](I:L2.Inv X Qa σ H s)(E:Sim X.gm P φ st H):∀(n:Nat)(t:AV)(v:V)(p:ň)(u:Å),RA X.gm P H φ t v->fc n st t=À p->RelV v u->∃as,Ÿ s.heap u p as:=by
 have lst:∀{a:Ç}{g:List V}{u:Å}{y:List ň},cu X.K H a g->RelV (.ref a) u->(∀{D:List Å},Vals g D->∃as,k! s.heap D y as)->∃as,Ÿ s.heap u (.list y) as:=by
  intro a g u y h d k;cases d;obtain⟨Q,G,m,j,o,l,N⟩:=obj_list I h;obtain⟨as,A⟩:=k j;exact⟨_,.list o l N A⟩
 have flat:∀(n:Nat)(t:AV)(v:V)(p:ň)(u:Å)(w:V),qU t=À w->RA X.gm P H φ t v->fc n st t=À p->RelV v u->∃as,Ÿ s.heap u p as:=by
  intro n t v p u w J r e d;cases t with
  | non=>cases n <;> (simp only [fc] at e;cases e;simp only [RA] at r;subst r;cases d;exact ⟨_,.none⟩)
  | bl b=>cases n <;> (simp only [fc] at e;cases e;simp only [RA] at r;subst r;cases d;exact ⟨_,.bool b⟩)
  | int i=>cases n <;> (simp only [fc] at e;cases e;simp only [RA] at r;subst r;obtain ⟨t,rfl⟩:=d;exact ⟨_,.int i t⟩)
  | str x=>cases n <;> (simp only [fc] at e;cases e;simp only [RA] at r;subst r;obtain ⟨t,rfl⟩:=d;exact ⟨_,.str x t⟩)
  |_=>cases J
 intro n
 induction n with
 |zero =>
  intro t v p u r e d;cases t with
  |non=>exact flat 0 _ v p u _ rfl r e d
  |bl b=>exact flat 0 _ v p u _ rfl r e d
  |int i=>exact flat 0 _ v p u _ rfl r e d
  |str x=>exact flat 0 _ v p u _ rfl r e d
  |_=>simp only[fc]at e;cases e
 |succ n z =>
  intro t v p u r e d;cases t with
  |non=>exact flat _ _ v p u _ rfl r e d
  |bl b=>exact flat _ _ v p u _ rfl r e d
  |int i=>exact flat _ _ v p u _ rfl r e d
  |str x=>exact flat _ _ v p u _ rfl r e d
  |fz C =>
   simp only[fc]at e;obtain⟨y,o,l⟩:=zE.mp e;subst l;simp only[RA]at r;obtain⟨a,g,rfl,h,q⟩:=r;exact lst h.sq d fun j=>tG z q.lift o j
  |tup C =>
   simp only [fc] at e;obtain ⟨y,o,l⟩:=zE.mp e;subst l;simp only [RA] at r;obtain ⟨a,g,rfl,_,h,q⟩:=r;cases d;obtain ⟨Q,G,m,j,M,L,K⟩:=obj_tup I (show iT X.K H a g from .inl (.inl h));obtain ⟨as,A⟩:=tG z q o j;exact ⟨_,.tuple M L K A⟩
  |ref k =>
   simp only[fc]at e;simp only[RA]at r;obtain⟨a,F,rfl⟩:=r;split at e
   ·rename_i C B
    obtain⟨y,o,l⟩:=zE.mp e;subst l;obtain⟨O,f,c⟩:=E.at B;rw[F]at f;cases f;obtain⟨_,g,h,q⟩:=c;exact lst (.inl (.inl h)) d fun j=>tG z q o j
   ·rename_i t B
    obtain⟨O,f,c⟩:=E.at B;rw[F]at f;cases f;exact z t _ p u c.2.lift e d
   ·cases e
end
noncomputable def Bw:ň->Option Í
 |.str a=>À a
 |_=>Á
theorem vL{p:ň}{a:Í}(h:Bw p=À a):p=.str a:=by
 cases p with
 |str b=>cases h;rfl
 |_=>cases h
def Nv(p q:ň):Option Bool:=(Bw p).bind fun a=>(Bw q).map fun b=>a==b
def rC(st:aa)(x y:AV):Option Bool:=(fc 9 st x).bind fun p=>(fc 9 st y).bind fun q=>if pyOk p q=Ã then À (å p q) else Nv p q
def k6:AV->Option bv
 |.int i=>À (.inl i)
 |.str x=>À (.inr x)
 |_=>Á
noncomputable def ot{a:Type}[DecidableEq a](Qb:List (a×AV))(k:a):Option AV:=(Qb.find? fun b=>decide (b.1=k)).map (·.2)
def jW(st:aa):AV->Option (List (bv×AV))
 |.ref k=>match st[k]? with
  |some (.dK Qb)=>À Qb
  |_=>Á
 |_=>Á
def nZ(st:aa):AV->Option (List (List bv×AV))
 |.ref k=>match st[k]? with
  |some (.dT Qb)=>À Qb
  |_=>Á
 |_=>Á
def oF(st:aa)(y x:AV):Option (Option AV):=match jW st y with
 |some a=>(k6 x).map fun k=>ot a k
 |none=>match nZ st y with
  |some a=>match x with
   |.tup xs=>(bC k6 xs).map fun k=>ot a k
   |_=>Á
  |none=>Á
def uo(st:aa)(x y:AV):Option Bool:=match oF st y x with
 |some o=>À o.isSome
 |none=>match x,y with
  |.str a,.str b=>À (!(Builtin.Str.occurrences b a 0 b.length 1).isEmpty)
  |_,_=>(fc 9 st x).bind fun q=>(fc 9 st y).bind fun p=>match p with
   |.list ps=>if(ps.all fun r=>pyOk r q)=Ã then À (ps.any fun r=>å r q) else Á
   |.tuple ps=>if(ps.all fun r=>pyOk r q)=Ã then À (ps.any fun r=>å r q) else Á
   |_=>Á
noncomputable def Cc:ϧ->Int->Int->Option Bool
 |.Lt,a,b=>À (decide (a<b))
 |.LtE,a,b=>À (decide (a<=b))
 |.Gt,a,b=>À (decide (b<a))
 |.GtE,a,b=>À (decide (b<=a))
 |_,_,_=>Á
noncomputable def Ik:AV->Bool
 |.non=>Ã
 |_=>Ä
def Jb(x y:AV):Option Bool:=match y with
 |.non=>À (Ik x)
 |.bl b=>(match x with
  |.bl a=>À (a==b)
  |_=>Á)
 |_=>Á
def cJ(o:ϧ)(st:aa)(x y:AV):Option Bool:=match o with
 |.Eq=>rC st x y
 |.NotEq=>(rC st x y).map (!·)
 |.Is=>Jb x y
 |.IsNot=>(Jb x y).map (!·)
 |.In=>uo st x y
 |.NotIn=>(uo st x y).map (!·)
 |o=>match x,y with
  |.int a,.int b=>Cc o a b
  |_,_=>Á
def oG(o:ϧ)(st:aa)(x y:AV):Option AV:=(cJ o st x y).map .bl
theorem qr(h:pyOk p q=Ã):p.canLay0=Ã/\q.canLay0=Ã/\min p.depth q.depth<=50:=by
 simp only[pyOk,zC,yD]at h;exact⟨h.1.1,h.1.2,h.2⟩
theorem kS{P:Pr}{H:Hp}{φ:List Ç}{a:Type}[DecidableEq a]{Qb:List (a×AV)}{ws:List (a×V)}(h:KVR mg P H φ Qb ws)(k:a) :
  (ot Qb k).isSome=(gf ws k).isSome/\∀v,ot Qb k=À v->∃w,gf ws k=À w/\RA mg P H φ v w:=by
 induction Qb generalizing ws with
 |nil =>
  have:ws=[]:=by simpa using h.1.symm
  subst this;exact⟨rfl,fun v e=>by cases e⟩
 |cons p Qb f =>
  cases ws with
  |nil=>exact absurd h.1 (by simp)
  |cons q ws =>
   obtain⟨d,b⟩:=h;rw[zO,zO]at d b;injection d with h3 h4;simp only[Qg]at b;obtain⟨v,m,l,j,i⟩:=b;injection l with h8 h9;subst h8;subst h9;by_cases e:q.1=k
   ·have c:p.1=k:=h3.trans e
    simp only[ot,gf,ċ,e,c,decide_true,Æ];refine⟨rfl,fun v g=>?_⟩;cases g;exact⟨_,rfl,j⟩
   ·have c:¬p.1=k:=fun z=>e (h3.symm.trans z)
    have:=f (ws:=ws) ⟨h4,i⟩
    simp only[ot,gf,ċ,e,c,decide_false]at this ⊢;exact this
section
variable{X:Cx}{Qa:List (Ç×Obj)}{σ:St}{H:Hp}{s:Ê}{P:Pr}{φ:List Ç}{st:aa}
theorem oC(h:k6 x=À k)(r:RA mg P H φ x v):v=kV k:=by
 cases x <;> simp only [k6] at h <;> first | (cases h;done) | skip
 ·cases h;simp only[RA]at r;exact r
 ·cases h;simp only[RA]at r;exact r
theorem qW[Qc]:∀{xs:List AV}{vs:List V}{k:List bv},bC k6 xs=À k->Qg mg P H φ xs vs->vs=k.map kV:=by
 intro xs
 induction xs with
 |nil=>intro vs k e r;cases e;simp only[Qg]at r;exact r
 |cons x xs a =>
  intro vs k e r;simp only[bC]at e;obtain⟨p,f,d⟩:=zA e;obtain⟨h,c,b⟩:=zE.mp d;subst b;simp only[Qg]at r;obtain⟨v,g,rfl,r1,r2⟩:=r;rw[oC f r1,a c r2];rfl
theorem uv[Qc](r:Sim X.gm P φ st H){x y:AV}{v w:V}{o:Option AV}(h:oF st y x=À o)(rx:RA X.gm P H φ x v)(i:RA X.gm P H φ y w) :
  ∃a o',w=.ref a/\DGet H a v o'/\o.isSome=o'.isSome/\∀t,o=À t->∃u,o'=À u/\RA X.gm P H φ t u:=by
 unfold oF at h;split at h
 ·rename_i C e
  obtain ⟨k,q,p⟩:=zE.mp h;subst p;cases y <;> simp only [jW] at e <;> first | (cases e;done) | skip
  split at e
  ·rename_i j g n
   cases e;simp only[RA]at i;obtain⟨a,m,rfl⟩:=i;obtain⟨B,d,c⟩:=r.at n;rw[m]at d;cases d;obtain⟨_,z,l,f⟩:=c
   have:=oC q rx
   subst this;exact⟨a,_,rfl,DGet.k l,(kS f k).1,(kS f k).2⟩
  ·cases e
 ·split at h
  ·rename_i C e
   split at h
   ·rename_i D
    obtain ⟨k,q,p⟩:=zE.mp h;subst p;cases y <;> simp only [nZ] at e <;> first | (cases e;done) | skip
    split at e
    ·rename_i j g n
     cases e;simp only[RA]at i;obtain⟨a,m,rfl⟩:=i;obtain⟨B,d,c⟩:=r.at n;rw[m]at d;cases d;obtain⟨_,z,l,f⟩:=c;simp only[RA]at rx;obtain⟨b,E,rfl,_,s,A⟩:=rx;rw[qW q A]at s;exact⟨a,_,rfl,DGet.t l s,(kS f k).1,(kS f k).2⟩
    ·cases e
   ·cases h
  ·cases h
theorem um(C:X.A.units+64<ř){v:Å}{q:ň}{b bs:List Ç}{ps:List ň}{a:Array Å}(o:Ÿ s.heap v q b)(l:k! s.heap a.toList ps bs)(y:(ps.all fun r=>pyOk r q)=Ã) :
  ∃e:Å->Bool,(∀z∈a,SeqAt.EqAt X.A.in1 s z v (e z))/\a.any e=ps.any fun r=>å r q:=by
 classical
 have k:∀z f c,Ÿ s.heap z f c->decide (∃p b,Ÿ s.heap z p b/\å p q=Ã)=å f q:=by
  intro z f c d;rcases he:å f q with _|_
  ·refine yB ?_
   rintro⟨u,j,t,m⟩
   have:=(p! d u j t).1
   rw[<- this,he]at m;cases m
  ·exact yX ⟨f,c,d,he⟩
 refine⟨fun z=>decide (∃p b,Ÿ s.heap z p b/\å p q=Ã),fun z hz=>?_,?_⟩
 ·obtain⟨g,c,i,d⟩:=reads_each l z (by simpa using hz)
  obtain⟨x,w,B⟩:=qr (yS.mp y g i);dsimp only;rw[k z g c d];exact b? g q _ s z v c b d o x w (by simp only[Around.in1_units];lia)
 ·have A:=any_vals (q:=q) (e:=fun z=>decide (∃p b,Ÿ s.heap z p b/\å p q=Ã)) (h:=s.heap) (fun v p b n=>k v p b n) l
  rw[<- A];simp
theorem we[Qc](J:X.A.units+64<ř)(I:L2.Inv X Qa σ H s)(A:Sim X.gm P φ st H){x y:AV}{v w:V}{u r:Å}{b:Bool}(h:uo st x y=À b)(rx:RA X.gm P H φ x v)(l:RA X.gm P H φ y w)(m:RelV v u)(B:RelV w r){E:Å->Ê->Prop}
  {Q:Å->Ê->Prop}{Q':Å->Ê->Prop} (z:∀s',L2.Inv X Qa σ H s'->Q (.bool b) s') (d:∀s',L2.Inv X Qa σ H s'->Q' (.bool (!b)) s') :
  Ï (model X.prog X.w) X.A (đ .In u r) Q E s/\Ï (model X.prog X.w) X.A (đ .NotIn u r) Q' E s:=by
 unfold uo at h;split at h
 ·rename_i o e
  cases h;obtain⟨a,S,rfl,g,K,_⟩:=uv A e rx l;cases B;exact⟨N5 oM I g m fun s' D=>by rw[<- K];exact z s' D,F6 oM I g m fun s' D=>by rw[<- K];exact d s' D⟩
 ·split at h
  ·rename_i a c
   cases h;simp only[RA]at rx l;subst rx;subst l;obtain⟨t,rfl⟩:=m;obtain⟨R,rfl⟩:=B;exact⟨in_str (z s I),notIn_str (d s I)⟩
  ·obtain⟨q,O,N⟩:=zA h
   obtain⟨p,M,f⟩:=zA N;obtain⟨T,G⟩:=iM I A 9 _ _ _ _ rx O m;obtain⟨bs,F⟩:=iM I A 9 _ _ _ _ l M B;split at f
   ·rename_i L
    split at f
    ·rename_i C
     cases f;cases F with
     |@list a o items n xs as' hg hc hdt rall =>
      obtain⟨e,j,k⟩:=um J G rall C;have i:s.heap.IsList a items:=⟨o,hg,hc,n,hdt⟩;exact⟨SeqAt.in_listAt e i j (by rw[k];exact z s I),SeqAt.notIn_listAt e i j (by rw[k];exact d s I)⟩
    ·cases f
   ·rename_i L
    split at f
    ·rename_i C
     cases f;cases F with
     |@tuple a o items n xs as' hg hc hdt rall =>
      obtain⟨e,j,k⟩:=um J G rall C;have i:IsTup s.heap a items:=⟨o,hg,hc,n,hdt⟩;exact⟨SeqAt.in_tupleAt e i j (by rw[k];exact z s I),SeqAt.notIn_tupleAt e i j (by rw[k];exact d s I)⟩
    ·cases f
   ·cases f
end
section
variable{X:Cx}
theorem g_{T:Prop}(h:∀G:Prop,(T->G)->G):T:=h _ id
theorem zw[Qc](T:X.A.units+64<ř)(o:ϧ):mK X (đ o) (r2 X.gm (lP (oG o))):=by
 rintro S s F H v w u r Q I m n ⟨P,φ,Y,x,y,l,rx,j,k⟩;obtain⟨z,e,k⟩:=k.map;obtain⟨b,g,e2⟩:=zE.mp e;subst e2;have au:∀J,L2.Inv X S F H J->EP X S F Q (.bool b) J:=fun J I'=>⟨.bl b,H,I',rfl,k.pure l (by simp only[RA])⟩
 have f:∀{o:Option Bool},o.map (!·)=À b->∃c,o=À c/\b=!c:=fun h=>by
  obtain⟨c,i,R⟩:=zE.mp h;exact⟨c,i,R.symm⟩
 have D:∀{c:Bool},rC Y x y=À c->∀{Q:Å->Ê->Prop}{E:Å->Ê->Prop},(Q (.bool c) s->Ï (model X.prog X.w) X.A (đ .Eq u r) Q E s)/\(Q (.bool (!c)) s->Ï (model X.prog X.w) X.A (đ .NotEq u r) Q E s):=by
  intro c h Q E;clear k au f g e;refine g_ fun G bk=>?_
  unfold rC at h;obtain⟨p,i,R⟩:=zA h;obtain⟨q,O,N⟩:=zA R;split at N
  ·rename_i hk
   cases N;obtain⟨W,V,hd⟩:=qr hk;obtain⟨as,C⟩:=iM I l 9 _ _ _ _ rx i m;obtain⟨bs,B⟩:=iM I l 9 _ _ _ _ j O n;exact bk ⟨fun q=>SeqAt.eqOverData _ _ _ _ _ _ _ _ _ _ _ _ C B W V oM q,fun q=>SeqAt.neOverData _ _ _ _ _ _ _ _ _ _ _ _ C B W V oM q⟩
  ·obtain⟨a,ha,h5⟩:=zA N
   obtain⟨b,hb,h6⟩:=zE.mp h5;subst h6;rw[vL ha]at i;rw[vL hb]at O;obtain⟨as,C⟩:=iM I l 9 _ _ _ _ rx i m;obtain⟨bs,B⟩:=iM I l 9 _ _ _ _ j O n;cases C;cases B;exact bk ⟨fun q=>eq_str q,fun q=>ne_str q⟩
 have L:∀{c:Bool},Jb x y=À c->∀{Q:Å->Ê->Prop}{E:Å->Ê->Prop},(Q (.bool c) s->Ï (model X.prog X.w) X.A (đ .Is u r) Q E s)/\(Q (.bool (!c)) s->Ï (model X.prog X.w) X.A (đ .IsNot u r) Q E s):=by
  intro c h Q E;clear k au f g e D l;have Z:y=.non->c=(u==Ŵ)->(Q (.bool c) s->Ï (model X.prog X.w) X.A (đ .Is u r) Q E s)/\(Q (.bool (!c)) s->Ï (model X.prog X.w) X.A (đ .IsNot u r) Q E s):=fun M U=>by
   subst M;simp only[RA]at j;subst j;cases n;exact⟨fun q=>is_none_gen (by rw[<- U];exact q),fun q=>isnot_none_gen (by rw[<- U];exact q)⟩
  cases y with
  |non =>
   have h:À (Ik x)=À c:=h;cases h;refine Z rfl ?_;cases x with
   |non=>simp only[RA]at rx;subst rx;cases m;rfl
   | _=>rw [RelV.none_iff m];refine (yB fun hv=>?_).symm;subst hv;simp only [RA] at rx;first | (cases rx;done) | (obtain ⟨_,_,z,_⟩:=rx;cases z;done) | (obtain ⟨_,_,z⟩:=rx;cases z;done)
  |bl d=>cases x with
   |bl a =>
    cases h;simp only[RA]at rx j;subst rx;subst j;cases m;cases n;cases a<;>cases d<;>exact⟨fun q=>yH q,fun q=>yH q⟩
   |_=>exact nomatch h
  |_=>exact nomatch h
 have K:∀{a c:Int},x=.int a->y=.int c->Cc o a c=À b->Ï (model X.prog X.w) X.A (đ o u r) (EP X S F Q) X.xe s:=by
  intro a c hx M A;clear D L f k g e l;subst hx;subst M;simp only [RA] at rx j;subst rx;subst j;obtain ⟨t,rfl⟩:=m;obtain ⟨t',rfl⟩:=n;cases o <;> simp only [Cc] at A <;> first | (cases A;done) | skip
  ·cases A;exact lt_int (au s I)
  ·cases A;exact le_int (au s I)
  ·cases A;exact gt_int (au s I)
  ·cases A;exact ge_int (au s I)
 cases o<;>simp only[cJ]at g
 case Eq=>exact(D g).1 (au s I)
 case NotEq=>obtain⟨c,i,rfl⟩:=f g;exact(D i).2 (au s I)
 case Is=>exact(L g).1 (au s I)
 case IsNot=>obtain⟨c,i,rfl⟩:=f g;exact(L i).2 (au s I)
 case In=>exact(we T I l g rx j m n (Q':=fun _ _=>True) au fun _ _=>trivial).1
 case NotIn=>obtain⟨c,i,rfl⟩:=f g;exact(we T I l i rx j m n (Q:=fun _ _=>True) (fun _ _=>trivial) au).2
 all_goals
  split at g
  ·exact K rfl rfl g
  ·cases g
noncomputable def mT(a:ϧ)(b:Î):Bool:=!(Ϲ a b)
theorem tY(h:mT op b=Ã):Ϲ op b=Ä:=by simpa [mT] using h
theorem Hx[Qc](c:X.A.units+64<ř)(h:QE X a f)(e:QE X b g)(d:mT o b=Ã):QE X (.Compare a [o] [b] pos) (a2 f g (lP (oG o))) :=
 PE_imp (Fi (zw c o) h e (tY d)) fun _ _ _ q=>xN q
def GP(f g:EF)(o:ϧ):TF:=fun a c=>(f a c).bind fun p=>(g a p.2).bind fun q=>(cJ o q.2 p.1 q.1).map fun b=>(b,q.2)
theorem He[Qc](n:X.A.units+64<ř)(v:QE X a f)(u:QE X b g)(t:mT o b=Ã):QT X (.Compare a [o] [b] pos) (GP f g o) :=
 PT_imp (E1 (zw n o) v u (tY t)) fun I H Q h=>by
  refine e7 h fun P G K J m s k=>?_
  refine xN (k:=lP (oG o)) (i7 m s ?_);obtain⟨b,j,e,q⟩:=k;unfold GP at e;obtain⟨p,D,C⟩:=zA e;obtain⟨r,B,A⟩:=zA C;obtain⟨c,z,y⟩:=zE.mp A;injection y with e7 e8;subst e7;subst e8;refine⟨.bl c,r.2,by simp only[a2,D,Â,B,lP,oG,z,Æ],fun E d F w x l i=>?_⟩;simp only[RA]at i;exact⟨c,i,q E d F c x l rfl⟩
def lO(o:UnaryOp)(_:aa):AV->Option AV
 |.int i=>match o with
  |.USub=>À (.int (-i))
  |.Invert=>À (.int (d? i))
  |_=>Á
 |_=>Á
theorem KJ[Qc](j:QE X a f):QE X (.UnaryOp o a pos) (a1 f (GW (lO o))):=by
 have h:AZ X (Y0 o) (r1 X.gm (GW (lO o))):=by
  rintro g s b H v u Q I d ⟨P,l,m,x,c,rx,k⟩;obtain ⟨z,e,k⟩:=k.map;cases x <;> simp only [lO] at e <;> first | (cases e;done) | skip
  rename_i i;simp only [RA] at rx;subst rx;cases o <;> first | (cases e;done) | skip
  ·cases e
   exact Gr g s b H _ u Q I d ⟨i,rfl,k.pure c (by simp only[RA])⟩
  ·cases e
   exact Gq g s b H _ u Q I d ⟨i,rfl,k.pure c (by simp only[RA])⟩
 exact PE_imp (K2 h j) fun _ _ _ q=>Of q
def gg(st:aa)(v:AV):Option Bool:=match cj st v with
 |some a=>À !a.isEmpty
 |none=>match v with
  |.non=>À Ä
  |.bl b=>À b
  |.int i=>À (i !=0)
  |.str x=>if Þ x.length 1000000=Ã then À ((x.length:Int) !=0) else Á
  |.tup a=>À !a.isEmpty
  |v=>(jW st v).map fun c=>!c.isEmpty
theorem rD(r:Qg mg P H φ xs vs):vs.isEmpty=xs.isEmpty:=by
 cases xs with
 |nil=>simp only[Qg]at r;subst r;rfl
 |cons x xs=>simp only[Qg]at r;obtain⟨v,a,rfl,_⟩:=r;rfl
theorem Bo[Qc]{P:Pr}{H:Hp}{φ:List Ç}{st:aa}(i:Sim X.gm P φ st H){v:AV}{w:V}{b:Bool}(h:gg st v=À b)(r:RA X.gm P H φ v w):CV X.K w H b:=by
 unfold gg at h;split at h
 ·rename_i l e
  cases h;obtain⟨a,g,rfl,n,q⟩:=r.ls i e;exact .inl ⟨g,n,by rw[rD q]⟩
 ·cases v<;>simp only at h
  case non=>cases h;simp only[RA]at r;subst r;exact rfl
  case bl=>cases h;simp only[RA]at r;subst r;exact rfl
  case int=>cases h;simp only[RA]at r;subst r;exact rfl
  case str x =>
   simp only[RA]at r;subst r;split at h
   ·rename_i s;cases h;exact⟨z5 (zS s) dC,rfl⟩
   ·cases h
  case tup l =>
   cases h;simp only[RA]at r;obtain⟨a,g,rfl,_,e,q⟩:=r;exact .inr (.inl ⟨g,.inl (.inl e),by rw[rD q]⟩)
  case fz=>obtain⟨_,z,_⟩:=zE.mp h;simp[jW]at z
  case ref k =>
   obtain⟨C,f,y⟩:=zE.mp h;subst y;simp only[jW]at f;split at f
   ·rename_i j t
    cases f;simp only[RA]at r;obtain⟨a,u,rfl⟩:=r;obtain⟨B,d,c⟩:=i.at t;rw[u]at d;cases d;obtain⟨_,m,p,o,A⟩:=c;refine .inr (.inr ⟨m,p,?_⟩)
    have:=congrArg List.isEmpty o
    simpa using this
   ·cases f
def tV(f:EF):TF:=fun c a=>(f c a).bind fun p=>(gg p.2 p.1).map fun b=>(b,p.2)
theorem yz[Qc](o:QE X a f)(he:∀whole,I! a X.env whole=(do let v <- whole;ŕ a.pos;holding [v] (truthy v))):QT X a (tV f) :=
 PT_imp (BS o he) fun z H Q h=>e7 h fun P y B A n s k=>i7 n s (by
  obtain⟨a,e,t,q⟩:=k.bind (Ra:=RA);refine⟨a,e,t,fun u d w b p m r1=>?_⟩;obtain⟨D,j,l,x,C,i,r2,g⟩:=q u d w b p m r1;obtain⟨c,r,g⟩:=g.map;exact⟨c,Bo i r r2,g.pure i rfl⟩)
def Mm(f g:TF):TF:=fun a b=>(f a b).bind fun p=>if p.1=Ã then g a p.2 else À (Ä,p.2)
def GK(f g:TF):TF:=fun a b=>(f a b).bind fun p=>if p.1=Ã then À (Ã,p.2) else g a p.2
def Mj(f:TF):TF:=fun b a=>(f b a).bind fun p=>À (!p.1,p.2)
section
variable{a b:Î}{rest:List Î}{pos:ĥ}{f g:TF}
theorem G9[Qc](b:N!)(c:QT X a f):QW X (.BoolOp b [a] pos) f:=by
 cases b
 ·exact EZ c
 ·exact HB c
theorem Ha[Qc](t:QT X a f)(r:QW X (.BoolOp .And (b::rest) pos) g):QW X (.BoolOp .And (a::b::rest) pos) (Mm f g) :=
 PW_imp (HC t r) fun C H Q j=>e7 j fun P B o D m s k=>i7 m s (by
  obtain⟨a,i,w,q⟩:=k.bind (Ra:=RB);refine⟨a,i,w,fun z e A c v p r1=>?_⟩;obtain⟨y,d,h,x,u,l,r2,n⟩:=q z e A c v p r1;cases r2;cases c with
  |true=>exact⟨y,d,o,h,m.frm u,l,n⟩
  |false=>exact n.pure l rfl)
theorem KA[Qc](t:QT X a f)(r:QW X (.BoolOp .Or (b::rest) pos) g):QW X (.BoolOp .Or (a::b::rest) pos) (GK f g) :=
 PW_imp (KN t r) fun C H Q j=>e7 j fun P B o D m s k=>i7 m s (by
  obtain⟨a,i,w,q⟩:=k.bind (Ra:=RB);refine⟨a,i,w,fun z e A c v p r1=>?_⟩;obtain⟨y,d,h,x,u,l,r2,n⟩:=q z e A c v p r1;cases r2;cases c with
  |false=>exact⟨y,d,o,h,m.frm u,l,n⟩
  |true=>exact n.pure l rfl)
theorem Hc[Qc](n:QT X a f):QT X (.UnaryOp .Not a pos) (Mj f) :=
 PT_imp (HD n) fun v H Q e=>e7 e fun P u y w l s k=>i7 l s (by
  obtain⟨a,d,p,q⟩:=k.bind (Ra:=RB);refine⟨a,d,p,fun r b t c o j r1=>?_⟩;obtain⟨A,g,h,x,z,i,r2,m⟩:=q r b t c o j r1;cases r2;exact m.pure i rfl)
end
def DV(f g:EF):EF:=fun a b=>(f a b).bind fun p=>match p.1 with
 |.bl Ã=>g a p.2
 |.bl Ä=>À (.bl Ä,p.2)
 |_=>Á
def DR(f g:EF):EF:=fun a b=>(f a b).bind fun p=>match p.1 with
 |.bl Ä=>g a p.2
 |.bl Ã=>À (.bl Ã,p.2)
 |_=>Á
def MP(f:EF):EF:=fun c a=>(f c a).bind fun p=>match p.1 with
 |.bl b=>À (.bl !b,p.2)
 |_=>Á
def MQ(t:TF)(f g:EF):EF:=fun a b=>(t a b).bind fun p=>if p.1=Ã then f a p.2 else g a p.2
section
variable{a b c:Î}{rest:List Î}{pos:ĥ}{f g:EF}{t:TF}
theorem KG.no[Qc]{α a:Type}{Ra:Gm->Pr->Hp->List Ç->α->a->Prop}{Q:a->Hp->Prop}(h:KG mg Ra P φ H Á Q):False:=by obtain⟨_,_,e,_⟩:=h;cases e
theorem Hz[Qc](u:QE X a f)(t:QE X (.BoolOp .And (b::rest) pos) g):QE X (.BoolOp .And (a::b::rest) pos) (DV f g) :=
 PE_imp (Ia u t) fun D H Q m=>e7 m fun P C p E o s k=>i7 o s (by
  obtain⟨a,j,y,q⟩:=k.bind (Ra:=RA);refine⟨a,j,y,fun A h B c w r r1=>?_⟩;obtain⟨z,e,i,x,v,n,r2,l⟩:=q A h B c w r r1;cases x<;>first|exact l.no.elim|skip
  rename_i d;simp only[RA]at r2;refine⟨d,r2,?_⟩;cases d with
  |true=>exact⟨z,e,p,i,o.frm v,n,l⟩
  |false=>exact l.pure n (by simp only[RA]))
theorem KK[Qc](u:QE X a f)(t:QE X (.BoolOp .Or (b::rest) pos) g):QE X (.BoolOp .Or (a::b::rest) pos) (DR f g) :=
 PE_imp (K3 u t) fun D H Q m=>e7 m fun P C p E o s k=>i7 o s (by
  obtain⟨a,j,y,q⟩:=k.bind (Ra:=RA);refine⟨a,j,y,fun A h B c w r r1=>?_⟩;obtain⟨z,e,i,x,v,n,r2,l⟩:=q A h B c w r r1;cases x<;>first|exact l.no.elim|skip
  rename_i d;simp only[RA]at r2;refine⟨d,r2,?_⟩;cases d with
  |false=>exact⟨z,e,p,i,o.frm v,n,l⟩
  |true=>exact l.pure n (by simp only[RA]))
theorem Hu[Qc](o:QE X a f):QE X (.UnaryOp .Not a pos) (MP f) :=
 PE_imp (HW o) fun w H Q g=>e7 g fun P v z y n s k=>i7 n s (by
  obtain⟨a,e,r,q⟩:=k.bind (Ra:=RA);refine⟨a,e,r,fun t b u c p m r1=>?_⟩;obtain⟨B,i,j,x,A,l,r2,h⟩:=q t b u c p m r1;cases x<;>first|exact h.no.elim|skip
  rename_i d;simp only[RA]at r2;exact⟨d,r2,h.pure l (by simp only[RA])⟩)
theorem KM[Qc](v:QT X c t)(y:QE X a f)(w:QE X b g):QE X (.IfExp c a b pos) (MQ t f g) :=
 PE_imp (B6 v y w) fun E H Q l=>e7 l fun P D m F j s k=>i7 j s (by
  obtain⟨a,i,A,q⟩:=k.bind (Ra:=RB);refine⟨a,i,A,fun B h C c z u r1=>?_⟩;obtain⟨r,d,e,x,p,n,r2,o⟩:=q B h C c z u r1;cases r2;cases c with
  |true=>exact⟨r,d,m,e,j.frm p,n,o⟩
  |false=>exact⟨r,d,m,e,j.frm p,n,o⟩)
end
def aZ(st:aa)(x y:AV):Option AV:=match oF st x y with
 |some o=>o
 |none=>match y with
  |.int i=>match cj st x with
   |some a=>ii a i
   |none=>match jL st x with
    |some a=>ii a i
    |none=>match x with
     |.str z=>if Þ z.length 1000000=Ã then(ii z.cps.toList i).map fun c=>.str ⟨#[c]⟩ else Á
     |_=>Á
  |_=>Á
theorem qM{i:Int}(r:Qg mg P H φ xs vs)(h:ii xs i=À x):∃v,ii vs i=À v/\RA mg P H φ x v:=by
 unfold ii at h ⊢;rw[<- r.length];obtain⟨j,b,a⟩:=zA h;rw[b,Â];exact r.get a
theorem FP(o:X.A.units+64<ř):IxR X (fun x y H Q=>∃a v,x=.ref a/\DGet H a y (À v)/\Q v H):=by
 rintro b c k s h H x y v u Q I rx i ⟨a,t,ex,g,q⟩ j;subst ex;cases rx;have f:=vy I g;unfold P?;refine yG ?_;rw[getitemInPython_of_ne f.not_modules];refine yG (_0 f PySem.F.slot_dict_getitem.lookup ?_);have au:Ï (model X.prog X.w) X.A (subscripted c Ä (.ref a) u) (fun r d=>Ï (model X.prog X.w) X.A (letTemporaryGo b (.ref a) r>>=fun _=>pure r) (EP X k h Q) X.xe d) X.xe s:=by
  rw[j];exact wpAny_operating (AH oM I g i fun m n l e=>yG (wpAny_letTemporaryGo (yH ⟨t,H,l,e,q⟩)))
 first
  |exact yH (yG au)
  |exact yG (yH (yG au))
  |exact yG au
theorem NT[Qc](J:X.A.units+64<ř):IxR X (r2 X.gm (lP aZ)):=by
 rintro b d A s l H v w u r Q I m n ⟨P,O,R,x,y,f,rx,C,F⟩ p;obtain⟨z,e,k⟩:=F.map;clear F;unfold aZ at e;split at e
 ·rename_i o M
  subst e;obtain⟨a,S,rfl,g,_,L⟩:=uv f M C rx;obtain⟨t,rfl,h⟩:=L z rfl;exact FP J b d A s l H _ _ u r Q I m n ⟨a,t,rfl,g,k.pure f h⟩ p
 ·cases y with
  |int i =>
   simp only[RA]at C;subst C;dsimp only at e;split at e
   ·rename_i G E
    obtain⟨a,B,rfl,D,q⟩:=rx.ls f E;obtain⟨t,j,h⟩:=qM q e;exact ui b d A s l H _ _ u r Q I m n (.inl ⟨a,B,i,t,rfl,rfl,D,j,k.pure f h⟩) p
   ·split at e
    ·rename_i G E
     obtain⟨a,B,rfl,D,q⟩:=rx.tp f E;obtain⟨t,j,h⟩:=qM q e;exact ui b d A s l H _ _ u r Q I m n (.inr (.inl ⟨a,B,i,t,rfl,rfl,.inl (.inl D),j,k.pure f h⟩)) p
    ·cases x with
     |str x =>
      dsimp only at e;split at e
      ·rename_i K
       obtain⟨c,N,j⟩:=zE.mp e;subst j;simp only[RA]at rx;subst rx;exact ui b d A s l H _ _ u r Q I m n (.inr (.inr ⟨x,i,c,rfl,rfl,z5 (zS K) dC,N,k.pure f (by simp only[RA])⟩)) p
      ·cases e
     |_=>cases e
  |_=>cases e
theorem KL[Qc](c:X.A.units+64<ř)(e:QE X a f)(d:QE X b g)(hs:qO b):QE X (.Subscript a b pos) (a2 f g (lP aZ)) :=
 PE_imp (K5 (NT c) e d hs) fun _ _ _ q=>xN q
def MO(g:AF):EF:=fun b a=>(g b a).bind fun p=>if Þ p.1.length 1000=Ã then À (.tup p.1,p.2) else Á
theorem Ht[Qc]{l:Nat}(h:QA X es g):QE X (.Tuple es l pos) (MO g) :=
 PE_imp (HS h) fun E H Q f=>e7 f fun P D I G u s k=>i7 u s (by
  obtain⟨a,e,A,q⟩:=k.bind (Ra:=Qg);refine⟨a,e,A,fun B c C d y t r1=>?_⟩;obtain⟨K,j,m,F,J,r,r2,b⟩:=q B c C d y t r1;dsimp only at b;split at b
  ·rename_i x
   refine⟨by rw[<- r2.length];exact z5 (zS x) dC,fun p w=>?_⟩;obtain⟨i,n⟩:=o8 (o:=.tup d) r w;obtain⟨_,_,z,v⟩:=b;cases z;refine v _ _ _ _ i n ?_;simp only[RA];exact⟨p,d,rfl,.inr rfl,aF,r2.frm i⟩
  ·exact b.no.elim)
end
mutual
noncomputable def dH:AV->AV->Bool
 |.non,.non=>Ã
 |.bl a,.bl b=>a==b
 |.int a,.int b=>a==b
 |.str a,.str b=>a==b
 |.ref a,.ref b=>a==b
 |.tup a,.tup b=>ib a b
 |.fz a,.fz b=>ib a b
 |_,_=>Ä
noncomputable def ib:List AV->List AV->Bool
 |[],[]=>Ã
 |x::xs,y::ys=>dH x y&&ib xs ys
 |_,_=>Ä
end
mutual
theorem wy:∀{x y:AV},dH x y=Ã->x=y
 |.non,y,h=>by cases y<;>simp only[dH]at h<;>first|rfl|cases h
 | .bl a,y,h=>by cases y <;> simp only [dH] at h <;> first | (rw [yL h]) | cases h
 | .int a,y,h=>by cases y <;> simp only [dH] at h <;> first | (rw [yL h]) | cases h
 | .str a,y,h=>by cases y <;> simp only [dH] at h <;> first | (rw [yL h]) | cases h
 | .ref a,y,h=>by cases y <;> simp only [dH] at h <;> first | (rw [yL h]) | cases h
 | .tup a,y,h=>by cases y <;> simp only [dH] at h <;> first | (rw [ni h]) | cases h
 | .fz a,y,h=>by cases y <;> simp only [dH] at h <;> first | (rw [ni h]) | cases h
theorem ni:∀{xs ys:List AV},ib xs ys=Ã->xs=ys
 |[],ys,h=>by cases ys<;>simp only[ib]at h<;>first|rfl|cases h
 |x::xs,ys,h=>by
  cases ys with
  |nil=>simp only[ib]at h;cases h
  |cons y ys =>
   simp only[ib,zC]at h;rw[wy h.1,ni h.2]
end
mutual
theorem AT:∀x:AV,dH x x=Ã
 |.non=>by simp only[dH]
 |.bl a=>by simp[dH]
 |.int a=>by simp[dH]
 |.str a=>by simp[dH]
 |.ref a=>by simp[dH]
 |.tup a=>by simp only[dH];exact jX a
 |.fz a=>by simp only[dH];exact jX a
theorem jX:∀xs:List AV,ib xs xs=Ã
 |[]=>by simp only[ib]
 |x::xs=>by simp only[ib,AT x,jX xs,ϟ]
end
abbrev Gd:=List (Nat×Qd)
def xJ:Qd->Qd->Bool
 |.lst a,.lst b=>ib a b
 |.dK a,.dK b=>decide (a.map (·.1)=b.map (·.1))&&ib (a.map (·.2)) (b.map (·.2))
 |_,_=>Ä
def cM:Gd->aa->Bool
 |[],_=>Ã
 |g::gs,st=>(match st[g.1]? with|some c=>xJ c g.2|none=>Ä)&&cM gs st
theorem CF{k:Nat}{xs:List AV}{gs:Gd}{st:aa}(h:cM ((k,.lst xs)::gs) st=Ã):st[k]?=À (.lst xs)/\cM gs st=Ã:=by
 simp only[cM,zC]at h;refine⟨?_,h.2⟩;have h:=h.1;split at h
 ·rename_i c e
  cases c <;> simp only [xJ] at h <;> first | (cases h;done) | skip
  rw[e,ni h]
 ·cases h
theorem wo{a b:Gd}{st:aa}(h:cM (a++b) st=Ã):cM a st=Ã/\cM b st=Ã:=by
 induction a with
 |nil=>exact⟨rfl,h⟩
 |cons g a c =>
  simp only[ė,cM,zC]at h ⊢;exact⟨⟨h.1,(c h.2).1⟩,(c h.2).2⟩
structure Iv where
 Qe:List AV
 gd:Gd
abbrev IF:=Sl->aa->Option (Iv×aa)
structure vm[Qc](mg:Gm)(J:It)(iv:Iv)(P:Pr)(φ:List Ç)(H:Hp):Prop where
 go:∀P2 φ2 H2 st2 (i:Nat) x,Frm P φ H P2 φ2 H2->Sim mg P2 φ2 st2 H2->cM iv.gd st2=Ã->iv.Qe[i]?=À x->J.go i H2/\∀v H3,J.yld i H2 v H3->∃P3,Frm P2 φ2 H2 P3 φ2 H3/\Sim mg P3 φ2 st2 H3/\RA mg P3 H3 φ2 x v
 stop:∀P2 φ2 H2 st2,Frm P φ H P2 φ2 H2->Sim mg P2 φ2 st2 H2->cM iv.gd st2=Ã->J.stop iv.Qe.length H2
def rI[Qc](mg:Gm)(f:IF):TI:=fun j H R=>∃P d h g,Qk mg P H d h j/\Sim mg P d g H/\∃i b,f h g=À (i,b)/\∀e a c J,Frm P d H e a c->Sim mg e a b c->vm mg J i e a c->R J c
def QI[Qc](X:Cx)(b a:Î)(f:IF):Prop:=PI X b a (rI X.gm f)
theorem iB(h:PI X tg iter t)(i:∀σ H R,t' σ H R->t σ H R):PI X tg iter t':=fun b s σ H R I a=>h b s σ H R I (i σ H R a)
def jt(st:aa)(v:AV):Option Iv:=match dr st v with
 |.fz a=>À ⟨a,[]⟩
 |.ref k=>match st[k]? with
  |some (.lst a)=>À ⟨a,[(k,.lst a)]⟩
  |_=>Á
 |_=>Á
section
variable{mg:Gm}{P:Pr}{φ:List Ç}{st:aa}{H:Hp}{v:AV}{w:V}{iv:Iv}
theorem mf[Qc](s:Sim mg P φ st H)(r:RA mg P H φ v w)(h:jt st v=À iv):∃a,w=.ref a/\∀P2 φ2 H2 st2,Frm P φ H P2 φ2 H2->Sim mg P2 φ2 st2 H2->cM iv.gd st2=Ã->∃vs,cu mg.K H2 a vs/\Qg mg P2 H2 φ2 iv.Qe vs:=by
 have r:=r.dr s;unfold jt at h;split at h
 ·rename_i j e
  cases h;rw[e]at r;simp only[RA]at r;obtain⟨a,vs,d,b,q⟩:=r;refine⟨a,d,fun P2 φ2 H2 st2 f _ _=>⟨vs,(b.mono f.ext).sq,?_⟩⟩;exact Qg.lift (q.mono f.ext fun k a e=>by simp at e)
 ·rename_i k e
  rw[e]at r;simp only[RA]at r;obtain⟨a,d,b⟩:=r;split at h
  ·rename_i j o
   cases h;refine⟨a,b,fun P2 φ2 H2 st2 f l g=>?_⟩;obtain⟨g1,_⟩:=CF g;obtain⟨p,i,c⟩:=l.at g1;rw[f.ix k a d]at i;cases i;obtain⟨_,vs,n,m⟩:=c;exact⟨vs,.inl (.inl n),m⟩
  ·cases h
 ·cases h
end
section
variable{X:Cx}{tg e a b:Î}{es:List Î}{pos p:ĥ}
def px(st:aa)(v:AV):Option Iv:=match v with
 |.str x=>if x.cps.all (·<128)=Ã then À ⟨x.cps.toList.map fun c=>.str ⟨#[c]⟩,[]⟩ else Á
 |v=>match jL st v with
  |some a=>À ⟨a,[]⟩
  |none=>jt st v
def iE(f:EF):IF:=fun b a=>(f b a).bind fun p=>(px p.2 p.1).map fun c=>(c,p.2)
theorem HM[Qc](r:PE X e tl):PI X tg e (fun σ H R=>tl σ H fun x H1=>(∃a,x=.ref a/\(∃xs,cu X.K H1 a xs)/\R (Ea X.K a) H1)\/(∃a,x=.ref a/\(∃xs,iT X.K H1 a xs)/\R (DZ X.K a) H1)\/∃x':Í,x=.str x'/\x'.cps.all (·<128)=Ã/\R (D0 x') H1):=by
 intro k s σ H R I h;refine aK (r k s σ H _ I h) fun v c f=>?_
 obtain⟨x,H1,d,r1,m⟩:=f;have i:∀b∈[c.heap.objs.size],eU X k H1 b:=fun b u=>by
  have e:b=c.heap.objs.size:=by simpa using u
  subst e;exact d.fpOk (zP _) (d.Qi.fresh (zP _))
 rcases m with⟨a,e,⟨xs,g⟩,q⟩|⟨a,e,⟨xs,g⟩,q⟩|⟨y,e,n,q⟩
 ·subst e
  cases r1;obtain⟨j,l,p,hz⟩:=d.list g;refine Ĭ p.isList ?_;exact⟨c.heap.objs.size,[c.heap.objs.size],_,_,H1,rfl,d.kept (t':=c.toks) fun b o e=>zG _ e,xX a _,⟨_,zY _ rfl,rfl,rfl⟩,i,q⟩
 ·subst e
  cases r1;obtain ⟨j,l,p,hz⟩:=d.tuple g;refine wpAny_pyIter_tuple (show c.heap.IsTuple a j.toArray from p) ?_;exact ⟨c.heap.objs.size,[c.heap.objs.size],_,_,H1,rfl,d.kept (t':=c.toks) fun b o e=>zG _ e,wJ a _,⟨_,zY _ rfl,rfl,rfl⟩,i,q⟩
 ·subst e
  obtain⟨t,rfl⟩:=r1;refine wpAny_pyIter_ascii n ?_;exact⟨c.heap.objs.size,[c.heap.objs.size],_,_,H1,rfl,d.kept (t':=c.toks) fun b o e=>zG _ e,Bn y t _,⟨_,zY _ rfl,rfl,rfl⟩,i,q⟩
theorem Cy[Qc]{mg:Gm}{P:Pr}{φ:List Ç}{H:Hp}{K:à}{a:Ç}{d:Iv}(h:∀P2 φ2 H2 st2,Frm P φ H P2 φ2 H2->Sim mg P2 φ2 st2 H2->cM d.gd st2=Ã->∃vs,cu K H2 a vs/\Qg mg P2 H2 φ2 d.Qe vs):vm mg (Ea K a) d P φ H where
 go:=fun P2 φ2 H2 st2 i x f s g e=>by
  obtain⟨vs,b,c⟩:=h P2 φ2 H2 st2 f s g;obtain⟨v,k,r1⟩:=c.get e;refine⟨⟨vs,v,b,k⟩,fun w n j=>?_⟩;obtain⟨m,l⟩:=j;subst m
  have:=l vs b
  rw[k]at this;cases this;exact⟨P2,Frm.refl,s,r1⟩
 stop:=fun P2 φ2 H2 st2 f s g=>by
  obtain⟨vs,b,c⟩:=h P2 φ2 H2 st2 f s g;exact⟨vs,b,by rw[<- c.length];exact zP _⟩
theorem FQ[Qc]{mg:Gm}{P:Pr}{φ:List Ç}{H:Hp}{K:à}{a:Ç}{xs:List AV}{vs:List V}(j:P a)(k:H a=À (.tup vs))(h:Qg mg P H φ xs vs):vm mg (DZ K a) ⟨xs,[]⟩ P φ H where
 go:=fun n b o c i x f s g e=>by
  obtain⟨v,m,r1⟩:=(h.frm f).get e;have l:iT K o a vs:=.inl (.inl ((f.ext a j).2.trans k));refine⟨⟨vs,v,l,m⟩,fun w r d=>?_⟩;obtain⟨q,p⟩:=d;subst q
  have:=p vs l
  rw[m]at this;cases this;exact⟨n,Frm.refl,s,r1⟩
 stop:=fun n b o c f s g=>⟨vs,.inl (.inl ((f.ext a j).2.trans k)),by rw[<- h.length];exact zP _⟩
theorem FR[Qc]:vm mg (D0 x) ⟨x.cps.toList.map fun c=>.str ⟨#[c]⟩,[]⟩ P φ H where
 go:=fun k a o b i y f s g e=>by
  rw[zR]at e;obtain⟨c,h,n⟩:=zE.mp e;rw[Array.getElem?_toList]at h;subst n;refine⟨⟨c,h⟩,fun w q d=>?_⟩;obtain⟨m,p,j,l⟩:=d;subst m;rw[h]at j;cases j;exact⟨k,Frm.refl,s,by simp only[RA];exact l⟩
 stop:=fun k a o b f s g=>by
  show x.cps[_]?=Á;simp
theorem md{st:aa}{v:AV}{a:Iv}(h:jt st v=À a):cM a.gd st=Ã:=by
 unfold jt at h;split at h
 ·cases h;rfl
 ·split at h
  ·rename_i k _ c b
   cases h;simp only[cM];rw[b];simp only[xJ,jX,ϟ]
  ·cases h
 ·cases h
theorem NE[Qc](G:QE X e f):QI X tg e (iE f):=iB (HM G) fun N H R ⟨P,M,S,Q,z,s,E,y,t,k⟩=>i7 z s (by
 unfold iE at t;obtain⟨p,L,K⟩:=zA t;obtain⟨D,b,J⟩:=zE.mp K;cases J;refine⟨p.1,p.2,L,fun l c d w r i r1=>?_⟩;unfold px at b;have q:∀v:AV,p.1=v->(match jL p.2 v with|some g=>À ⟨g,[]⟩|none=>jt p.2 v)=À E->((∃a,w=.ref a/\(∃g,cu X.K d a g)/\R (Ea X.K a) d)\/(∃a,w=.ref a/\(∃g,iT X.K d a g)/\R (DZ X.K a) d)\/∃m:Í,w=.str m/\m.cps.all (·<128)=Ã/\R (D0 m) d):=by
  intro v ev b;rw[ev]at r1;split at b
  ·rename_i g j
   cases b;have r2:=r1.dr i;unfold jL at j;split at j
   ·rename_i O I
    cases j;rw[I]at r2;simp only[RA]at r2;obtain⟨a,n,rfl,C,u,B⟩:=r2;exact .inr (.inl ⟨a,rfl,⟨n,.inl (.inl u)⟩,k l c d _ r i (FQ C u B)⟩)
   ·cases j
  ·obtain⟨a,rfl,h⟩:=mf i r1 b
   obtain⟨n,A,_⟩:=h l c d p.2 Frm.refl i (md b);exact .inl ⟨a,rfl,⟨n,A⟩,k l c d _ r i (Cy h)⟩
 cases o:p.1 with
 |str x =>
  rw[o]at b r1;simp only at b;split at b
  ·rename_i F
   cases b;simp only[RA]at r1;exact .inr (.inr ⟨x,r1,F,k l c d _ r i FR⟩)
  ·cases b
 |_=>rw[o]at b;exact q _ o b)
noncomputable def gC(i:Int):Bool:=Þ i.natAbs.log2 60
noncomputable def eu(i:Int)(n:Nat):List AV:=(È n).map fun k=>.int (i+(k:Nat))
def Dy(f:EF):IF:=fun b a=>(f b a).bind fun p=>match p.1 with
 |.int j=>if gC j=Ã then À (⟨eu 0 j.toNat,[]⟩,p.2) else Á
 |_=>Á
def wf(f g:EF):IF:=fun a b=>(f a b).bind fun p=>(g a p.2).bind fun q=>match p.1,q.1 with
 |.int i,.int j=>if(gC i&&gC j)=Ã then À (⟨eu i (j-i).toNat,[]⟩,q.2) else Á
 |_,_=>Á
theorem im{i:Int}(h:gC i=Ã):-(2^62)<=i/\i<2^62:=by
 have:=log2_lt h
 have e:(2:Nat)^(60+1)=2305843009213693952:=by decide
 rw[e]at this;lia
theorem wc[Qc]{i:Int}{n:Nat}:vm mg (A7 i n) ⟨eu i n,[]⟩ P φ H where
 go:=fun l a r b k y f s g e=>by
  unfold eu at e;rw[zR]at e;obtain⟨c,q,p⟩:=zE.mp e;obtain⟨j,h⟩:=zB.mp q;rw[S6]at h;subst h p;rw[ô]at j;refine⟨j,fun w t d=>?_⟩;obtain⟨o,m⟩:=d;subst o;exact⟨l,Frm.refl,s,by simp only[RA];exact m⟩
 stop:=fun l a r b f s g=>by
  show n<=(eu i n).length;simp[eu]
theorem yy[Qc]{mg:Gm}{f:EF}{σ:St}{H:Hp}{Q:List V->Hp->Prop}{P:Pr}{φ:List Ç}{sl:Sl}{st:aa}(b:Qk mg P H φ sl σ)(s:Sim mg P φ st H)
  (h:∃v st1,f sl st=À (v,st1)/\∀P1 φ1 H1 w,Frm P φ H P1 φ1 H1->Sim mg P1 φ1 st1 H1->RA mg P1 H1 φ1 v w->Q [w] H1):rA mg (eM f fB) σ H Q:=by
 obtain⟨v,st1,e,k⟩:=h;refine i7 b s ⟨[v],st1,by simp only[eM,fB,e,Â],fun P1 φ1 H1 d c a r1=>?_⟩;simp only[Qg]at r1;obtain⟨w,g,rfl,r,rfl⟩:=r1;exact k P1 φ1 H1 w c a r
theorem G8[Qc]{mg:Gm}{f g:EF}{σ:St}{H:Hp}{Q:List V->Hp->Prop}{P:Pr}{φ:List Ç}{sl:Sl}{st:aa}(c:Qk mg P H φ sl σ)(s:Sim mg P φ st H)
  (h:∃v st1 u st2,f sl st=À (v,st1)/\g sl st1=À (u,st2)/\∀P1 φ1 H1 w w',Frm P φ H P1 φ1 H1->Sim mg P1 φ1 st2 H1->RA mg P1 H1 φ1 v w->RA mg P1 H1 φ1 u w'->Q [w,w'] H1):rA mg (eM f (eM g fB)) σ H Q:=by
 obtain⟨v,st1,u,st2,e,j,k⟩:=h;refine i7 c s ⟨[v,u],st2,by simp only[eM,fB,e,j,Â],fun P1 φ1 H1 l i b r1=>?_⟩;simp only[Qg]at r1;obtain⟨w,m,rfl,r,w',a,rfl,d,rfl⟩:=r1;exact k P1 φ1 H1 w w' i b r d
theorem KH[Qc](n:Gl X "range")(m:X.mg "range"=Á)(o:QE X a f)(hs:Ë [a] X.env=[(Ä,eval a X.env)]):QI X tg (.Call (.Name "range" p) [a] [] pos) (Dy f) :=
 iB (zn n m (c9 o fH (by rw[hs];rfl)) hs) fun A H R d=>by
  refine e7 d fun P z C B i s l=>?_
  obtain⟨D,g,u,k⟩:=l;obtain⟨q,v,b⟩:=zA u;refine yy i s ⟨q.1,q.2,v,fun x c y w r h r1=>?_⟩;split at b
  ·rename_i j t
   rw[t]at r1;split at b
   ·rename_i e
    cases b;simp only[RA]at r1;subst r1;exact⟨j,rfl,(im e).1,(im e).2,k x c y _ r h wc⟩
   ·cases b
  ·cases b
theorem KF[Qc](y:Gl X "range")(x:X.mg "range"=Á)(z:QE X a f)(l:QE X b g)(hs:Ë [a,b] X.env=[(Ä,eval a X.env),(Ä,eval b X.env)])(c:Ë [b] X.env=[(Ä,eval b X.env)]) :
  QI X tg (.Call (.Name "range" p) [a,b] [] pos) (wf f g) :=
 iB (zm y x (c9 z (c9 l fH (by rw[c];rfl)) (by rw[hs,c])) hs c) fun L H R h=>by
  refine e7 h fun P K O N u s v=>?_
  obtain⟨Q,o,D,k⟩:=v;obtain⟨q,G,F⟩:=zA D;obtain⟨r,E,d⟩:=zA F;refine G8 u s ⟨q.1,q.2,r.1,r.2,G,E,fun I e J w M A t r1 r2=>?_⟩;split at d
  ·rename_i i j C B
   rw[C]at r1;rw[B]at r2;split at d
   ·rename_i l
    cases d;obtain⟨n,m⟩:=ŏ.mp l;simp only[RA]at r1 r2;subst r1;subst r2;exact⟨i,j,rfl,⟨(im n).1,(im n).2,(im m).1,(im m).2⟩,k I e J _ A t wc⟩
   ·cases d
  ·cases d
def iZ(f g:EF):IF:=fun a b=>(f a b).bind fun p=>(g a p.2).bind fun q=>(jt q.2 p.1).bind fun x=>(jt q.2 q.1).bind fun y=>À (⟨(x.Qe.zip y.Qe).map fun z=>.tup [z.1,z.2],x.gd++y.gd⟩,q.2)
theorem vT[Qc]{mg:Gm}{P:Pr}{φ:List Ç}{st:aa}{H:Hp}{p:Ç}{x y:AV}{u w:V}(s:Sim mg P φ st H)(d:H p=Á)(rx:RA mg P H φ x u)(c:RA mg P H φ y w) :
  ∃P3,Frm P φ H P3 φ (ai H p (.tup [u,w]))/\Sim mg P3 φ st (ai H p (.tup [u,w]))/\RA mg P3 (ai H p (.tup [u,w])) φ (.tup [x,y]) (.ref p):=by
 obtain⟨a,b⟩:=o8 (o:=.tup [u,w]) s d;refine⟨_,a,b,?_⟩;simp only[RA];exact⟨p,[u,w],rfl,.inr rfl,aF,bw (rx.frm a) (bw (c.frm a) bU)⟩
theorem Hn[Qc]{Z:Nat}(hg:Gl X "zip")(hm:X.mg "zip"=Á)(ha:QE X a f)(hb:QE X b g)(hs:Ë [a,b] X.env=[(Ä,eval a X.env),(Ä,eval b X.env)])(l:Ë [b] X.env=[(Ä,eval b X.env)]) :
  QI X (.Tuple elts Z tpos) (.Call (.Name "zip" p) [a,b] [] pos) (iZ f g) :=
 iB (HL hg hm (c9 ha (c9 hb fH (by rw[l];rfl)) (by rw[hs,l])) hs l) fun σ H R m=>by
  refine e7 m fun P φ sl st rs s q0=>?_
  obtain⟨iv,st',ef,k⟩:=q0;obtain⟨q,e1,e2⟩:=zA ef;obtain⟨r,e3,e4⟩:=zA e2;obtain⟨x,V,e6⟩:=zA e4;obtain⟨y,e7,e8⟩:=zA e6;cases e8;refine G8 rs s ⟨q.1,q.2,r.1,r.2,e1,e3,fun T j U w w' f1 o r1 r2=>?_⟩;obtain⟨a1,rfl,O⟩:=mf o r1 V;obtain⟨a2,rfl,N⟩:=mf o r2 e7;obtain⟨vs,K,_⟩:=O T j U r.2 Frm.refl o (md V);obtain⟨us,J,_⟩:=N T j U r.2 Frm.refl o (md e7);refine⟨a1,a2,rfl,⟨vs,K⟩,⟨us,J⟩,k T j U _ f1 o ⟨fun B c C d i t A n S F=>?_,fun B c C d A n S=>?_⟩⟩
  ·obtain⟨ga,Q⟩:=wo S
   obtain⟨e,I,M⟩:=O B c C d A n ga;obtain⟨h,G,L⟩:=N B c C d A n Q;rw[zR]at F;obtain⟨z,ez,F⟩:=zE.mp F;subst F;obtain⟨hx,hy⟩:=Ş.mp ez;obtain⟨u1,Y,b1⟩:=M.get hx;obtain⟨u2,W,b2⟩:=L.get hy;refine⟨⟨e,h,u1,u2,I,G,Y,W⟩,fun v H3 m=>?_⟩;obtain⟨pp,u,w,E,D,hp,hH,hv⟩:=m;have E:=E e I;have D:=D h G;rw[Y]at E;rw[W]at D;cases E;cases D;subst hH;subst hv;exact vT n hp b1 b2
  ·obtain⟨ga,Q⟩:=wo S
   obtain⟨e,I,M⟩:=O B c C d A n ga;obtain⟨h,G,L⟩:=N B c C d A n Q;refine⟨e,h,I,G,?_⟩;rw[<- M.length,<- L.length];simp only[zH,Ą];lia
noncomputable def fL(n0:Nat)(xs:List AV):List AV:=(xs.zipIdx n0).map fun z=>.tup [.int ((z.2:Nat):Int),z.1]
theorem uj[Qc]{mg:Gm}{P:Pr}{φ:List Ç}{H:Hp}{K:à}{a:Ç}{b:Iv}{n0:Nat}(h:∀P2 φ2 H2 st2,Frm P φ H P2 φ2 H2->Sim mg P2 φ2 st2 H2->cM b.gd st2=Ã->∃vs,cu K H2 a vs/\Qg mg P2 H2 φ2 b.Qe vs):vm mg (A8 K a n0) ⟨fL n0 b.Qe,b.gd⟩ P φ H where
 go:=fun P2 φ2 H2 st2 i x f s g e=>by
  obtain⟨vs,c,d⟩:=h P2 φ2 H2 st2 f s g;unfold fL at e;rw[zR,ō]at e;cases hz:b.Qe[i]? with
  |none=>rw[hz]at e;cases e
  |some y =>
   rw[hz]at e;cases e;obtain⟨v,k,r1⟩:=d.get hz;refine⟨⟨vs,v,c,k⟩,fun w q j=>?_⟩;obtain⟨p,u,l,n,o,m⟩:=j
   have:=l vs c
   rw[k]at this;cases this;subst o;subst m;exact vT s n (by simp only[RA]) r1
 stop:=fun P2 φ2 H2 st2 f s g=>by
  obtain⟨vs,c,d⟩:=h P2 φ2 H2 st2 f s g;exact⟨vs,c,by rw[<- d.length];simp[fL]⟩
def MG(f:EF):IF:=fun c b=>(f c b).bind fun p=>(jt p.2 p.1).map fun a=>(⟨fL 0 a.Qe,a.gd⟩,p.2)
theorem KI[Qc]{l:Nat}(v:Gl X "enumerate")(u:X.mg "enumerate"=Á)(x:QE X a f)(hs:Ë [a] X.env=[(Ä,eval a X.env)]) :
  QI X (.Tuple elts l tpos) (.Call (.Name "enumerate" p) [a] [] pos) (MG f) :=
 iB (Fa v u (c9 x fH (by rw[hs];rfl)) hs) fun E H R e=>by
  refine e7 e fun P D G F o s r=>?_
  obtain⟨I,n,z,k⟩:=r;obtain⟨q,C,B⟩:=zA z;obtain⟨t,h,A⟩:=zE.mp B;cases A;refine yy o s ⟨q.1,q.2,C,fun i b j w y c r1=>?_⟩;obtain⟨a1,rfl,g⟩:=mf c r1 h;obtain⟨m,d,_⟩:=g i b j q.2 Frm.refl c (md h);exact⟨a1,rfl,⟨m,d⟩,k i b j _ y c (uj g)⟩
end
end R
namespace L2
open PySem PySem.Spec PyProof.Rows
section
variable{prog:Ô}{w:Ü}{A:Č}{E:Å->Ê->Prop}{s:Ê}
theorem AE(l:Ç)(items:Array Å)(n:Nat)(dct:Option Ç)(sl:Array (Option Å))(t:Tok)(i:Int)(hf:ļ i=Ã) :
  Meets (D'.«enumerate.__new__» ⟨[.type "enumerate",.ref l],[("start",.int i t)]⟩) (fun _ R s=>s.heap.get? l=À { cls:=.type "list",dict:=dct,data:=.seq items n,slots:=sl } /\
   R (.ok (.ret (.ref (s.heap.push { cls:=.type "list_iterator",data:=.fields #[.ref l,.int 0 0] }).objs.size)))
    { s with heap:=(s.heap.push { cls:=.type "list_iterator",data:=.fields #[.ref l,.int 0 0] }).push { cls:=.type "enumerate",data:=.fields #[.none,.bool Ä,.ref s.heap.objs.size,F? i,.none,.none] } }):=Meets.of_wp fun e w A R s h=>by
  obtain⟨m,g,d,j,k⟩:=s;obtain⟨a,h⟩:=h;have f:=sub_enumerate;have b:Heap.IsList (Shared.heap ⟨m,g,d,j,k⟩) l items:=⟨_,a,rfl,n,rfl⟩
  wp_walk using ı a
  refine wpAny_stack_any fun o=>yH ?_
  split
  ·rename_i c _ _ _ _ _
   cases (c==Q3 "enumerate")
   ·wp_walk using ı a,Ĭ b
    exact⟨_,rfl,h⟩
   ·wp_walk using ı a,Ĭ b
    exact⟨_,rfl,h⟩
  ·wp_walk using ı a,Ĭ b
   exact⟨_,rfl,h⟩
theorem xI{l:Ç}{j:Array Å}{t:Tok}{i:Int}{Q:Å->Ê->Prop}(L:ļ i=Ã)(O:s.heap.IsList l j)
  (h:∀h',IsEnum h' (s.heap.objs.size+1) s.heap.objs.size i .none->h'.IsListIter s.heap.objs.size l 0->(∀b o,s.heap.get? b=À o->h'.get? b=À o)->Q (.ref (s.heap.objs.size+1)) { s with heap:=h' }) :
  Ï (model prog w) A (call (.type "enumerate") [.ref l] [("start",.int i t)]) Q E s:=by
 obtain⟨⟨W,C,V,I⟩,K,q,n,hd⟩:=O;dsimp only at q hd;subst q hd;have g:=F.called_enumerate;obtain⟨c,P,G⟩:=g.mro;have y:=g.made;have D:=g.sub;have U:=g.notType;have T:=g.canCreate;have M:=sX (.ref l) (.int i t);have B:=sj (.ref l) (.int i t);refine F! (codeAny_of_tree ?_);show Ï _ _ (callAny (.type "enumerate") _) _ _ _;refine yH ⟨Code.quiet_builtin _ (by decide +kernel),Ϙ F.entry_type_call ?_⟩;rw[Around.under_plain (weight_type_call_type "enumerate" _ _) (units_type_call_type "enumerate" _ _)]
 repeat (any_goals (first | assumption | wp_step))
 have hz:(s.heap.push { cls:=.type "list_iterator",data:=.fields #[.ref l,.int 0 0] }).objs.size=s.heap.objs.size+1:=Ĩ ..;have z:=zY (s.heap.push { cls:=.type "list_iterator",data:=.fields #[.ref l,.int 0 0] }) (o:={ cls:=.type "enumerate",data:=.fields #[.none,.bool Ä,.ref s.heap.objs.size,F? i,.none,.none] }) rfl;rw[hz]at z;refine ş (V! (R:=wants (fun f d=>d.TypeIs f "enumerate"/\Q f d) E) g.plain F.entry_enumerate_new (wpAny_of_eq B (AE l j n C I t i L prog w A.in1 _ s ⟨K,?_⟩))) fun r d u=>?_
 ·show _/\_
  rw[hz];exact⟨⟨_,z,rfl⟩,h _ z ⟨_,zG _ (zY _ rfl),rfl,rfl⟩ fun b o x=>zG _ (zG _ x)⟩
 ·cases r with
  |error e=>exact u
  |ok fl =>
   cases fl with
   |ret f =>
    obtain⟨H,v⟩:=u;have J:=g.init.lookup;have N:=g.init.bind f
    repeat (any_goals (first | assumption | wp_step))
    refine ş (V! (R:=wants (fun r k=>r=.none/\Q f k) E) g.init.plain F.entry_object_init (g.init.check _ _ _ _ _ _ _ _ H (qB f (.ref l) (.int i t)) (xy g.init.lookup g.made dC prog w A.in1 _ d ⟨H,rfl,v⟩))) fun p k a=>?_
    cases p with
    |error e=>exact a
    |ok m =>
     cases m with
     |ret r =>
      obtain⟨rfl,S⟩:=a
      repeat (any_goals (first | assumption | wp_step))
     |_=>exact a.elim
   |_=>exact u.elim
end
end L2
namespace R
open PySem PySem.Spec PyProof.Rows L2
open DD (PE_imp PT_imp PA_imp PS_imp PSs_imp OpR_imp PW_imp PG_imp pyOk)
section
variable{X:Cx}{tg e a b:Î}{es:List Î}{pos p kp:ĥ}
theorem BX[Qc]{j:Nat}(A:Gl X "enumerate")(w:X.mg "enumerate"=Á)(C:PA X [a] ta)(B:PE X b tb)(hs:Ë [a] X.env=[(Ä,eval a X.env)]) :
  PI X (.Tuple elts j tpos) (.Call (.Name "enumerate" p) [a] [⟨À "start",b,kp⟩] pos) (fun σ H R=>ta σ H fun vs H1=>tb σ H1 fun y H2=>∃l n0,vs=[.ref l]/\y=.int ((n0:Nat):Int)/\n0<=1000000/\(∃xs,cu X.K H2 l xs)/\R (A8 X.K l n0) H2):=by
 intro g s σ H R I h;refine Ā (d5 I A w rK (u8 (by rw[hs];rfl) (by rfl) ?_));have f:=C pos g s σ H _ I h;rw[hs]at f ⊢;refine _7 (by rfl) (Bt f fun J k d=>?_);obtain⟨vs,H1,G,r1,n⟩:=d;refine _6 (aK (B g k σ H1 _ G n) fun u c ⟨y,H2,i,r2,l,n0,F,E,L,⟨xs,v⟩,q⟩=>_5 ?_);subst F;subst E;obtain⟨t,rfl⟩:=r2;cases r1 with
 |cons r m =>
  cases m;cases r;obtain⟨M,K,o,_⟩:=i.list v;show Ï _ _ (call (.type "enumerate") [.ref l] [("start",.int ((n0:Nat):Int) t)]) _ _ _;refine xI (s:=c) ?_ o.isList fun D e z x=>?_
  ·unfold ļ
   simp only[zC,yD];lia
  refine i? (s:={ c with heap:=D }) e ?_;exact uH (t':=c.toks) (n0:=n0) i e z x q
def xz(f g:EF):IF:=fun a c=>(f a c).bind fun p=>(g a p.2).bind fun q=>match q.1 with
 |.int i=>if(decide (0<=i)&&Þ i.natAbs 1000000)=Ã then(jt q.2 p.1).map fun b=>(⟨fL i.toNat b.Qe,b.gd⟩,q.2) else Á
 |_=>Á
theorem Ho[Qc]{z:Nat}(I:Gl X "enumerate")(G:X.mg "enumerate"=Á)(L:QE X a f)(K:QE X b g)(hs:Ë [a] X.env=[(Ä,eval a X.env)]) :
  QI X (.Tuple elts z tpos) (.Call (.Name "enumerate" p) [a] [⟨À "start",b,kp⟩] pos) (xz f g) :=
 iB (BX I G (c9 L fH (by rw[hs];rfl)) K hs) fun W H R l=>by
  refine e7 l fun P V C Z n s E=>?_
  obtain⟨iv,B,N,k⟩:=E;obtain⟨q,T,S⟩:=zA N;obtain⟨r,Q,d⟩:=zA S;refine yy n s ⟨q.1,q.2,T,fun U e H1 w u D r1=>⟨U,e,C,q.2,n.frm u,D,r.1,r.2,Q,fun x c y Y t h r2=>?_⟩⟩;split at d
  ·rename_i i M
   rw[M]at r2;simp only[RA]at r2;subst r2;split at d
   ·rename_i m
    simp only[zC,yD]at m;have J:=zS m.2;obtain⟨F,v,O⟩:=zE.mp d;cases O;obtain⟨a1,rfl,o⟩:=mf h (r1.frm t) v;obtain⟨A,j,_⟩:=o x c y r.2 Frm.refl h (md v);exact⟨a1,i.toNat,rfl,by rw[ŗ m.1],by lia,⟨A,j⟩,k x c y _ (u.trans t) h (uj o)⟩
   ·cases d
  ·cases d
end
mutual
noncomputable def rf:AV->Bool
 |.ref _=>Ä
 |.tup xs=>rfs xs
 |_=>Ã
noncomputable def rfs:List AV->Bool
 |[]=>Ã
 |x::xs=>rf x&&rfs xs
end
mutual
theorem RA.rf:∀{t:AV}{v:V},R.rf t=Ã->RA mg P H φ t v->RA mg P H ψ t v
 |.non,_,_,h=>by simp only[RA]at h ⊢;exact h
 |.bl _,_,_,h=>by simp only[RA]at h ⊢;exact h
 |.int _,_,_,h=>by simp only[RA]at h ⊢;exact h
 |.str _,_,_,h=>by simp only[RA]at h ⊢;exact h
 |.fz _,_,_,h=>by simp only[RA]at h ⊢;exact h
 |.ref k,_,e,_=>by simp only[R.rf]at e;cases e
 |.tup xs,_,e,h=>by
  simp only[RA,R.rf]at h e ⊢;obtain⟨a,vs,r,p,e',q⟩:=h;exact⟨a,vs,r,p,e',Qg.rf e q⟩
theorem Qg.rf:∀{ts:List AV}{vs:List V},R.rfs ts=Ã->Qg mg P H φ ts vs->Qg mg P H ψ ts vs
 |[],_,_,h=>by simp only[Qg]at h ⊢;exact h
 |t::ts,_,e,h=>by
  simp only[Qg,R.rfs,zC]at h e ⊢;obtain⟨v,ws,e',r,q⟩:=h;exact⟨v,ws,e',RA.rf e.1 r,Qg.rf e.2 q⟩
end
abbrev NF:=Sl->aa->Option (List AV×aa)
def rN[Qc](mg:Gm)(f:NF):TE:=fun k H Q=>∃P d j i,Qk mg P H d j k/\Sim mg P d i H/\∃g b,f j i=À (g,b) /\
 ∀e a c p h,Frm P d H e a c->Sim mg e a b c->c p=Á->Qg mg e c a g h->Q (.ref p) (ai c p (.lst h))
def QN[Qc](X:Cx)(e:Î)(f:NF):Prop:=PE X e (rN X.gm f)
def O2(f:NF):EF:=fun b a=>(f b a).bind fun p=>if rfs p.1=Ã then À (.fz p.1,p.2) else Á
def O1(f:NF):EF:=fun b a=>(f b a).bind fun p=>À (.ref p.2.length,p.2++[.lst p.1])
theorem Jr[Qc]{mg:Gm}{P:Pr}{φ:List Ç}{st:aa}{H:Hp}{p:Ç}{xs:List AV}{vs:List V}(s:Sim mg P φ st H)(d:H p=Á)(c:rfs xs=Ã)(r:Qg mg P H φ xs vs) :
  ∃P3,Frm P φ H P3 φ (ai H p (.lst vs))/\Sim mg P3 φ st (ai H p (.lst vs))/\RA mg P3 (ai H p (.lst vs)) φ (.fz xs) (.ref p):=by
 obtain⟨a,b⟩:=o8 (o:=.lst vs) s d;refine⟨_,a,b,?_⟩;simp only[RA];exact⟨p,vs,rfl,.inl ⟨.inr rfl,.inl aF⟩,Qg.rf c (r.frm a)⟩
theorem Ip[Qc]{mg:Gm}{P:Pr}{φ:List Ç}{st:aa}{H:Hp}{p:Ç}{xs:List AV}{vs:List V}(s:Sim mg P φ st H)(b:H p=Á)(r:Qg mg P H φ xs vs) :
  Frm P φ H P (φ++[p]) (ai H p (.lst vs))/\Sim mg P (φ++[p]) (st++[.lst xs]) (ai H p (.lst vs))/\RA mg P (ai H p (.lst vs)) (φ++[p]) (.ref st.length) (.ref p):=by
 have ne:∀a,H a≠Á->a≠p:=fun a h e=>h (by rw[e];exact b)
 obtain⟨f,d⟩:=oz (c:=.lst xs) (o:=.lst vs) s b ⟨fun z=>s.dom p z b,vs,aF,r.mono (fun a h=>⟨h,ad (ne a (s.dom a h))⟩) fun k a e=>by rw[zN (zB.mp e).1];exact e⟩;refine⟨f,d,?_⟩;simp only[RA];exact⟨p,by rw[<- s.len];simp,rfl⟩
section
variable{X:Cx}{e a b:Î}{es:List Î}{pos:ĥ}{f:NF}
noncomputable def fE(n:Nat):Bool:=Þ n 1000000
theorem ku{n:Nat}(h:fE n=Ã):n<=Ì:=z5 (zS h) dC
def My(g:AF):NF:=fun b a=>(g b a).bind fun p=>if fE p.1.length=Ã then À p else Á
theorem EO[Qc](h:QA X es g):QN X (.List es pos) (My g) :=
 PE_imp (zo h) fun w H Q c=>by
  refine e7 c fun P v y x j s l=>?_
  obtain⟨e,b,o,k⟩:=l;obtain⟨q,r,d⟩:=zA o;split at d
  ·rename_i hz
   cases d;exact i7 j s ⟨e,b,r,fun t a u f n i r1=>⟨by rw[<- r1.length];exact ku hz,fun p m=>k t a u p f n i m r1⟩⟩
  ·cases d
def qw(f g:EF):NF:=fun c d=>(f c d).bind fun p=>(g c p.2).bind fun q=>(cj q.2 p.1).bind fun b=>(cj q.2 q.1).bind fun a=>if fE (b.length+a.length)=Ã then À (b++a,q.2) else Á
theorem Hm[Qc]{f g:EF}(E:QE X a f)(D:QE X b g):QN X (.BinOp a .Add b pos) (qw f g) :=
 PE_imp (wW Fl E D) fun V H Q h=>by
  refine e7 h fun P U z Z j s B=>?_
  obtain⟨W,v,F,k⟩:=B;obtain⟨q,M,L⟩:=zA F;obtain⟨r,K,J⟩:=zA L;obtain⟨x,I,G⟩:=zA J;obtain⟨y,e7,i⟩:=zA G;split at i
  ·rename_i hz
   cases i;refine i7 j s ⟨q.1,q.2,M,fun S d H1 w o A r1=>⟨S,d,z,q.2,j.frm o,A,r.1,r.2,K,fun R c T Y n e r2=>?_⟩⟩;obtain⟨a1,t,rfl,O,m⟩:=(r1.frm n).ls e I;obtain⟨a2,u,rfl,N,l⟩:=r2.ls e e7;exact⟨a1,a2,t,u,rfl,rfl,O,N,by rw[<- m.length,<- l.length];exact ku hz,fun p C=>k R c T p _ (o.trans n) e C (m.app l)⟩
  ·cases i
def xf(g:AF)(f:EF):NF:=fun a b=>(g a b).bind fun p=>(f a p.2).bind fun q=>match q.1 with
 |.int k=>if(gC k&&fE (p.1.length*k.toNat)&&fE p.1.length)=Ã then À ((É k.toNat p.1).flatten,q.2) else Á
 |_=>Á
theorem Qg.rep(h:Qg mg P H φ xs vs):∀k:Nat,Qg mg P H φ (É k xs).flatten (É k vs).flatten
 |0=>bU
 |k+1=>by rw[ì,ì,č,č];exact h.app (Qg.rep h k)
theorem Hi[Qc]{g:AF}{f:EF}{a:ĥ}(h:QA X es g)(J:QE X b f):QN X (.BinOp (.List es a) .Mult b pos) (xf g f) :=
 PE_imp (wW Ie (zo h) J) fun U H Q n=>by
  refine e7 n fun P T B W x s F=>?_
  obtain⟨V,A,M,k⟩:=F;obtain⟨q,R,O⟩:=zA M;obtain⟨r,N,c⟩:=zA O;split at c
  ·rename_i j L
   split at c
   ·rename_i d
    cases c;simp only[zC]at d;refine i7 x s ⟨q.1,q.2,R,fun Z i H1 l y E r1=>⟨by rw[<- r1.length];exact ku d.2,fun p I=>?_⟩⟩
    obtain⟨v,D⟩:=o8 (o:=.lst l) E I;refine⟨_,i,B,q.2,(x.frm y).frm v,D,r.1,r.2,N,fun S e z w u C m=>?_⟩;rw[L]at m;simp only[RA]at m;subst m;have K:z p=À (.lst l):=by rw[(u.ext p (.inr rfl)).2,aF]
    have Y:=im d.1.1;refine⟨p,j,l,rfl,rfl,K,by lia,by lia,by rw[<- r1.length];exact ku d.1.2,fun G t=>?_⟩;exact k S e z G _ ((y.trans v).trans u) C t (Qg.rep ((r1.frm v).frm u) _)
   ·cases c
  ·cases c
abbrev OF:=Sl->aa->Option (Option Int×aa)
def rO[Qc](mg:Gm)(f:OF):TO:=fun d H Q=>∃P a c b,Qk mg P H a c d/\Sim mg P a b H/\KG mg RB P a H (f c b) Q
def QO[Qc](X:Cx)(e:Option Î)(f:OF):Prop:=PO X e (rO X.gm f)
def Mw:OF:=fun _ a=>À (Á,a)
def o6(f:EF):OF:=fun b a=>(f b a).bind fun p=>match p.1 with
 |.int i=>À (À i,p.2)
 |_=>Á
theorem wD(h:PO X eo t)(i:∀σ H Q,t' σ H Q->t σ H Q):PO X eo t':=fun b s σ H Q I a=>h b s σ H Q I (i σ H Q a)
theorem EN[Qc]:QO X Á Mw:=wD E7 fun c H Q a=>e7 a fun P b e d f s k=>k.pure s rfl
theorem EM[Qc]{f:EF}(h:QE X e f):QO X (À e) (o6 f):=wD (E6 h) fun y H Q g=>e7 g fun P w A z p s k=>i7 p s (by
 obtain⟨a,d,t,q⟩:=k.bind (Ra:=RA);refine⟨a,d,t,fun u b v c r o r1=>?_⟩;obtain⟨C,l,m,x,B,n,r2,j⟩:=q u b v c r o r1;cases x<;>first|exact j.no.elim|skip
 rename_i i;simp only[RA]at r2;exact⟨i,r2,j.pure n rfl⟩)
def cut{α:Type}(xs:List α)(a b:Option Int):List α:=(xs.drop (HT.Qn xs.length 0 a)).take (HT.Qn xs.length xs.length b-HT.Qn xs.length 0 a)
theorem Qg.cut(h:Qg mg P H φ xs vs)(a b:Option Int):Qg mg P H φ (R.cut xs a b) (qI vs a b):=by
 unfold R.cut qI;rw[h.length];exact(h.drop _).take _
theorem Nw[Qc]{mg:Gm}{f:EF}{l h:OF}{σ:St}{H:Hp}{P:Pr}{φ:List Ç}{sl:Sl}{st:aa}(d:Qk mg P H φ sl σ)(s:Sim mg P φ st H){r:V->Option Int->Option Int->Hp->VK->Prop}{Q:VK}
  (k:∃v st1 lo st2 hi st3,f sl st=À (v,st1)/\l sl st1=À (lo,st2)/\h sl st2=À (hi,st3)/\∀P' φ' H' w,Frm P φ H P' φ' H'->Sim mg P' φ' st3 H'->RA mg P' H' φ' v w->r w lo hi H' Q):Mh r (rE mg f) (rO mg l) (rO mg h) σ H Q:=by
 obtain⟨v,st1,lo,st2,hi,st3,x,u,t,k⟩:=k;refine i7 d s ⟨v,st1,x,fun A c D w g n r1=>⟨A,c,sl,st1,d.frm g,n,lo,st2,u,fun z b C p e m r2=>⟨z,b,sl,st2,(d.frm g).frm e,m,hi,st3,t,fun y a B q i j o=>?_⟩⟩⟩;cases r2;cases o;exact k y a B w ((g.trans e).trans i) j ((r1.frm e).frm i)
def nE(f:EF)(l h:OF):NF:=fun a c=>(f a c).bind fun p=>(l a p.2).bind fun q=>(h a q.2).bind fun r=>(cj r.2 p.1).map fun b=>(cut b q.1 r.1,r.2)
theorem KC[Qc]{f:EF}{l h:OF}{e g:Option Î}{u:ĥ}(z:QE X a f)(x:QO X e l)(y:QO X g h):QN X (.Subscript a (.Slice e g Á u) pos) (nE f l h) :=
 PE_imp (B3 Ey z x y) fun O H Q c=>by
  refine e7 c fun P N U T m s o=>?_
  obtain⟨S,j,B,k⟩:=o;obtain⟨q,J,I⟩:=zA B;obtain⟨r,G,F⟩:=zA I;obtain⟨t,E,D⟩:=zA F;obtain⟨R,e7,C⟩:=zE.mp D;cases C;refine Nw m s ⟨q.1,q.2,r.1,r.2,t.1,t.2,J,G,E,fun L b M w A d r1=>?_⟩;obtain⟨a1,i,rfl,K,n⟩:=r1.ls d e7;exact⟨a1,i,rfl,K,fun p v=>k L b M p _ A d v (n.cut _ _)⟩
def qv(f:EF):NF:=fun c b=>(f c b).bind fun p=>match cj p.2 p.1 with
 |some a=>À (a,p.2)
 |none=>(jL p.2 p.1).map fun a=>(a,p.2)
theorem Hl[Qc]{f:EF}{p pos:ĥ}(y:Gl X "list")(x:X.mg "list"=Á)(z:QE X a f)(hs:Ë [a] X.env=[(Ä,eval a X.env)]):QN X (.Call (.Name "list" p) [a] [] pos) (qv f) :=
 PE_imp (zq u6 y x lq (c9 z fH (by rw[hs];rfl)) (he:=by rw[hs];rfl) (hpl:=rfl)) fun E H Q g=>by
  refine e7 g fun P D I G u s v=>?_
  obtain⟨F,t,A,k⟩:=v;obtain⟨q,C,j⟩:=zA A;refine yy u s ⟨q.1,q.2,C,fun n b o w m d r1=>?_⟩;split at j
  ·rename_i r i
   cases j;obtain⟨a1,c,rfl,l,e⟩:=r1.ls d i;exact⟨a1,c,rfl,.inl l,fun p h=>k n b o p c m d h e⟩
  ·obtain⟨r,i,B⟩:=zE.mp j
   cases B;obtain⟨a1,c,rfl,l,e⟩:=r1.tp d i;exact⟨a1,c,rfl,.inr (.inl (.inl l)),fun p h=>k n b o p c m d h e⟩
end
abbrev GF:=AV->Sl->aa->Option (Sl×aa)
abbrev vn:=List AV->Sl->aa->Option (Sl×aa)
def KS[Qc](mg:Gm)(P:Pr)(φ:List Ç)(H:Hp)(r:Option (Sl×aa))(Q:St->Hp->Prop):Prop :=
 ∃d c,r=À (d,c)/\∀f a e b,Frm P φ H f a e->Sim mg f a c e->Qk mg f e a d b->Q b e
def rG[Qc](mg:Gm)(f:GF):TG:=fun v d H Q=>∃P a c b x,Qk mg P H a c d/\Sim mg P a b H/\RA mg P H a x v/\KS mg P a H (f x c b) Q
def OL[Qc](mg:Gm)(f:vn):vh:=fun g e H Q=>∃P a d c b,Qk mg P H a d e/\Sim mg P a c H/\Qg mg P H a b g/\KS mg P a H (f b d c) Q
def QG[Qc](X:Cx)(a:Î)(f:GF):Prop:=PG X a (rG X.gm f)
def A4[Qc](X:Cx)(a:List Î)(f:vn):Prop:=rZ X a (OL X.gm f)
def Az(i:Nat):GF:=fun x b a=>À (b.set i (À x),a)
def Jm:vn:=fun a c b=>match a with
 |[]=>À (c,b)
 |_=>Á
def Jp(f:GF)(g:vn):vn:=fun a c b=>match a with
 |x::a=>(f x c b).bind fun p=>g a p.1 p.2
 |[]=>Á
def Ay(n:Nat)(g:vn):GF:=fun x c b=>match jL b x with
 |some a=>if a.length=n then g a c b else Á
 |none=>match cj b x with
  |some a=>if a.length=n then g a c b else Á
  |none=>Á
theorem vi(h:rZ X tgs t)(i:∀v σ H Q,t' v σ H Q->t v σ H Q):rZ X tgs t':=fun c s σ H v u Q I a b=>h c s σ H v u Q I a (i v σ H Q b)
section
variable{X:Cx}{e a b:Î}{es:List Î}{pos:ĥ}
theorem KS.pure[Qc]{mg:Gm}{P:Pr}{φ:List Ç}{H:Hp}{sl:Sl}{st:aa}{σ:St}{Q:St->Hp->Prop}(h:KS mg P φ H (À (sl,st)) Q)(s:Sim mg P φ st H)(r:Qk mg P H φ sl σ):Q σ H:=by
 obtain⟨_,_,e,q⟩:=h;cases e;exact q P φ H σ Frm.refl s r
theorem ET[Qc]{i:Nat}(e:X.N.Nodup)(c:X.N[i]?=À x)(b:Loc X.env.scope x)(d:X.fn x=Ã\/X.env.scope.names.lookup x=À .local):QG X (.Name x pos) (Az i) :=
 PG_imp (Fe e c b d) fun v g H Q ⟨P,f,j,h,x,a,s,rx,k⟩=>k.pure s (a.set rx i)
theorem ES[Qc]:A4 X [] Jm:=vi Fc fun v f H Q a=>by
 obtain⟨P,d,h,g,b,c,s,rx,k⟩:=a;cases b with
 |nil=>simp only[Qg]at rx;exact⟨rx,k.pure s c⟩
 |cons _ _=>obtain⟨_,_,e,_⟩:=k;cases e
theorem BP[Qc](D:QG X e f)(C:A4 X es g)(hs:(â (e::es) X.env).map (·.2)=assign e X.env::(â es X.env).map (·.2)):A4 X (e::es) (Jp f g) :=
 vi (BY D C hs) fun v L H Q m=>by
  obtain⟨P,o,y,u,d,B,s,rx,k⟩:=m;cases d with
  |nil=>obtain⟨_,_,e,_⟩:=k;cases e
  |cons x d =>
   simp only[Qg]at rx;obtain⟨w,t,rfl,r1,r2⟩:=rx;obtain⟨i,h,e,q⟩:=k;obtain⟨p,G,F⟩:=zA e;exact⟨w,t,rfl,P,o,y,u,x,B,s,r1,p.1,p.2,G,fun J b M r n A l=>⟨J,b,p.1,p.2,d,l,A,r2.frm n,i,h,F,fun I a K c E z j=>q I a K c (n.trans E) z j⟩⟩
theorem K1(h:PG X tg t)(h':PG X tg t'):PG X tg (fun v σ H Q=>t v σ H Q\/t' v σ H Q):=fun a s σ H v u Q I r q=>by
 rcases q with q|q
 ·exact h a s σ H v u Q I r q
 ·exact h' a s σ H v u Q I r q
theorem Hq[Qc]{k n:Nat}(w:X.calm=Ã)(h:A4 X es g)(u:(â es X.env).length=n)(d:(â es X.env).findIdx? (·.1)=Á):QG X (.Tuple es k pos) (Ay n g) :=
 PG_imp (K1 (HN (k:=k) w h u d) (Fd (k:=k) w h u d)) fun v z H Q j=>by
  obtain⟨P,o,r,p,x,t,s,rx,y⟩:=j;obtain⟨b,a,e,q⟩:=y;unfold Ay at e;split at e
  ·rename_i f ex
   split at e
   ·rename_i l
    obtain⟨a1,i,rfl,m,c⟩:=rx.tp s ex;exact .inl ⟨a1,i,rfl,.inl (.inl m),by rw[<- c.length];exact l,P,o,r,p,f,t,s,c,b,a,e,q⟩
   ·cases e
  ·split at e
   ·rename_i f ex
    split at e
    ·rename_i l
     obtain⟨a1,i,rfl,m,c⟩:=rx.ls s ex;exact .inr ⟨a1,i,rfl,m,by rw[<- c.length];exact l,P,o,r,p,f,t,s,c,b,a,e,q⟩
    ·cases e
   ·cases e
noncomputable def oy{b:Type}[DecidableEq b](Qb:List (b×AV))(k:b)(v:AV):List (b×AV) :=
 if(Qb.any fun a=>decide (a.1=k))=Ã then Qb.map fun a=>if a.1=k then(a.1,v) else a else Qb++[(k,v)]
theorem tK{P:Pr}{H:Hp}{φ:List Ç}{d:Type}[DecidableEq d]{Qb:List (d×AV)}{ws:List (d×V)}{k:d}{v:AV}{w:V}(h:KVR mg P H φ Qb ws)(r:RA mg P H φ v w):KVR mg P H φ (oy Qb k v) (gi ws k w):=by
 have b:(Qb.any fun f=>decide (f.1=k))=(ws.any fun f=>decide (f.1=k)):=by
  have g:∀{j:Type} (l:List (d×j)),(l.any fun f=>decide (f.1=k))=((l.map (·.1)).any fun x=>decide (x=k)):=fun l=>by rw[D!];rfl
  rw[g Qb,g ws,h.1]
 unfold oy gi;rw[b];split
 ·clear b
  rename_i m;clear m
  induction Qb generalizing ws with
  |nil =>
   have:ws=[]:=by simpa using h.1.symm
   subst this;exact⟨rfl,bU⟩
  |cons p Qb c =>
   cases ws with
   |nil=>exact absurd h.1 (by simp)
   |cons q ws =>
    obtain⟨g,i⟩:=h;rw[zO,zO]at g i;injection g with h3 h4;simp only[Qg]at i;obtain⟨u,t,s,o,n⟩:=i;injection s with h8 h9;subst h8;subst h9;have c:=c (ws:=ws) ⟨h4,n⟩;have a:p.1=q.1:=h3;by_cases e:q.1=k
    ·rw[zO,zO,yJ e,yJ (a.trans e)]
     exact⟨by rw[zO,zO,c.1,a],bw r c.2⟩
    ·rw[zO,zO,yI e,yI (fun z=>e (a.symm.trans z))]
     exact⟨by rw[zO,zO,c.1,a],bw o c.2⟩
 ·refine⟨by rw[ï,ï,h.1];rfl,?_⟩
  rw[ï,ï];exact h.2.app (bw r bU)
def j6(st:aa)(o i v:AV):Option aa:=match o with
 |.ref k=>match st[k]? with
  |some (.lst b)=>match i with
   |.int j=>(ma b.length j).map fun n=>st.set k (.lst (b.set n v))
   |_=>Á
  |some (.dK a)=>(k6 i).bind fun x=>if fE a.length=Ã then À (st.set k (.dK (oy a x v))) else Á
  |some (.dT a)=>match i with
   |.tup is=>(bC k6 is).bind fun x=>if fE a.length=Ã then À (st.set k (.dT (oy a x v))) else Á
   |_=>Á
  |_=>Á
 |_=>Á
theorem Dh[Qc](hu:X.A.units+64<ř):xO X (fun o i v H Q=>∃P φ st x y z st',Sim X.gm P φ st H/\RA X.gm P H φ x o/\RA X.gm P H φ y i/\RA X.gm P H φ z v/\j6 st x y z=À st'/\∀P' φ' H',Frm P φ H P' φ' H'->Sim X.gm P' φ' st' H'->Q H'):=by
 rintro Qa s R H o i v V W u Q I G J F ⟨P,φ,st,x,y,z,st',q,rx,w,E,e,k⟩;unfold j6 at e;cases x with
 |ref j =>
  simp only[RA]at rx;obtain⟨a,r,rfl⟩:=rx;dsimp only at e;split at e
  ·rename_i S A
   obtain⟨O,d,c⟩:=q.at A;rw[r]at d;cases d;obtain⟨f,M,p,l⟩:=c;cases y with
   |int n =>
    simp only[RA]at w;subst w;obtain⟨m,C,g⟩:=zE.mp e;subst g;have hp:P a->False:=f;obtain⟨B,t⟩:=jj (c:=.lst (S.set m z)) (o:=.lst (M.set m v)) q r f ⟨f,_,aF,(l.set E m).mono (fun b h=>⟨h,ad fun e=>f (e▸h)⟩) fun _ _ z=>z⟩ (fun _ _ z=>by rw[p]at z;cases z);exact BD Qa s R H _ _ v V W u Q I G J F ⟨a,M,n,m,rfl,rfl,p,by rw[<- l.length];exact C,k P φ _ B t⟩
   |_=>cases e
  ·rename_i K A
   obtain⟨O,d,c⟩:=q.at A;rw[r]at d;cases d;obtain⟨f,D,p,l⟩:=c;obtain⟨x,C,g⟩:=zA e;split at g
   ·rename_i hz
    cases g
    have:=oC C w
    subst this;cases G;obtain⟨B,t⟩:=jj (c:=.dK (oy K x z)) (o:=.dK (gi D x v)) q r f ⟨f,_,aF,(tK l E).mono (fun b h=>⟨h,ad fun e=>f (e▸h)⟩) fun _ _ z=>z⟩ (fun _ _ z=>by rw[p]at z;cases z);refine rH oM I (DPut.k p ?_) J F fun T L=>⟨_,L,k P φ _ B t⟩
    have:=congrArg ŀ l.1
    rw[zH,zH]at this;rw[<- this];have Z:=zS hz;have Y:(1000000:Nat)<Ì:=by decide
    lia
   ·cases g
  ·rename_i K A
   obtain⟨O,d,c⟩:=q.at A;rw[r]at d;cases d;obtain⟨f,D,p,l⟩:=c;cases y with
   |tup is =>
    dsimp only at e;obtain⟨x,C,g⟩:=zA e;split at g
    ·rename_i hz
     cases g;simp only[RA]at w;obtain⟨b,us,rfl,_,N,U⟩:=w;rw[qW C U]at N;cases G;obtain⟨B,t⟩:=jj (c:=.dT (oy K x z)) (o:=.dT (gi D x v)) q r f ⟨f,_,aF,(tK l E).mono (fun b h=>⟨h,ad fun e=>f (e▸h)⟩) fun _ _ z=>z⟩ (fun _ _ z=>by rw[p]at z;cases z);refine rH oM I (DPut.t p N ?_) J F fun T L=>⟨_,L,k P φ _ B t⟩
     have:=congrArg ŀ l.1
     rw[zH,zH]at this;rw[<- this];have Z:=zS hz;have Y:(1000000:Nat)<Ì:=by decide
     lia
    ·cases g
   |_=>cases e
  ·cases e
 |_=>cases e
def MH(f g:EF):GF:=fun x b c=>(f b c).bind fun p=>(g b p.2).bind fun q=>(j6 q.2 p.1 q.1 x).map fun a=>(b,a)
theorem Hr[Qc](C:X.A.units+64<ř)(D:QE X o f)(E:QE X i g)
  (F:∀v,assign (.Subscript o i pos) X.env v=(do
   let ov <- holding [v] (eval o X.env)
   let iv <- holding [v,ov] (eval i X.env)
   ŕ pos
   holding [v,ov,iv] (Ϩ ov iv v)
   release [v,ov,iv] [])):QG X (.Subscript o i pos) (MH f g) :=
 PG_imp (HP D E (Dh C) F) fun v p H Q m=>by
  obtain⟨P,T,u,V,x,l,s,rx,t,j,e,k⟩:=m;obtain⟨q,M,L⟩:=zA e;obtain⟨r,K,J⟩:=zA L;obtain⟨z,I,G⟩:=zE.mp J;cases G;exact i7 l s ⟨q.1,q.2,M,fun R h Y w b B r1=>⟨R,h,u,q.2,l.frm b,B,r.1,r.2,K,fun O d W U a A r2=>⟨O,d,r.2,q.1,r.1,x,j,A,r1.frm a,r2,(rx.frm b).frm a,I,fun N c S n y=>k N c S p ((b.trans a).trans n) y (((l.frm b).frm a).frm n)⟩⟩⟩
end
def hid(H:Hp)(p:Ç):Hp:=fun b=>if b=p then Á else H b
theorem bO(h:b≠p):hid H p b=H b:=yI h
theorem eC:hid H p p=Á:=yJ rfl
theorem Ek(h:H p=À o):ai (hid H p) p o=H:=by
 funext b;by_cases e:b=p
 ·subst e;rw[aF,h]
 ·rw[ad e,bO e]
theorem wj:hid (ai H p o) p=hid H p:=by
 funext b;by_cases e:b=p
 ·subst e;rw[eC,eC]
 ·rw[bO e,bO e,ad e]
theorem Cz(h:H p=Á):hid H p=H:=by
 funext b;by_cases e:b=p
 ·subst e;rw[eC,h]
 ·rw[bO e]
section
variable{mg:Gm}{P P':Pr}{φ φ':List Ç}{st st':aa}{H H':Hp}{p:Ç}
theorem _root_.L2.gU.sh{P:Ç}{pos:ĥ}{q:Í}(h:gU (hid H p) P pos q):gU H P pos q:=by
 obtain⟨b,e,t,c⟩:=h;have ne:∀{a o},hid H p a=À o->H a=À o:=fun {a o} e=>by
  by_cases z:a=p
  ·rw[z,eC]at e;cases e
  ·rw[bO z]at e;exact e
 refine⟨b,ne e,t,?_⟩;rcases c with c|⟨g,f,d⟩
 ·exact .inl c
 ·exact .inr ⟨g,f,ne d⟩
theorem _root_.L2.gU.hd{P:Ç}{pos:ĥ}{q:Í}(h:gU H P pos q)(f:∃vs,H p=À (.lst vs)):gU (hid H p) P pos q:=by
 obtain⟨d,e,t,c⟩:=h;obtain⟨vs,a⟩:=f;refine⟨d,by rw[bO (xa e a fun z=>nomatch z)];exact e,t,?_⟩;rcases c with c|⟨i,g,b⟩
 ·exact .inl c
 ·exact .inr ⟨i,g,by rw[bO (xa b a fun z=>nomatch z)];exact b⟩
theorem Sim.sh[Qc](s:Sim mg P φ st (hid H p))(o:HO)(f:H p=À o):Sim mg P φ st H/\∀a,P a->P a/\H a=hid H p a:=by
 have c:∀a,P a->a≠p:=fun a h e=>s.dom a h (by rw[e];exact eC)
 have d:∀a∈φ,a≠p:=fun a h e=>s.cd a h (by rw[e];exact eC)
 have ex:∀a,P a->P a/\H a=hid H p a:=fun a h=>⟨h,(bO (c a h)).symm⟩
 exact⟨s.stay ex (fun a h=>(bO (d a h)).symm) (fun _ _ h=>h) (fun a h=>by rw[(ex a h).2];exact s.dom a h) fun t b=>⟨(s.tb t b).1.sh,(s.tb t b).2⟩,ex⟩
theorem Frm.hd[Qc](l:Sim mg P φ st (hid H p))(k:∃vs,H p=À (.lst vs))(f:Frm P φ H P' φ' H')(s:Sim mg P' φ' st' H'):Frm P φ (hid H p) P' φ' (hid H' p)/\Sim mg P' φ' st' (hid H' p)/\(∀a,P' a->P' a/\hid H' p a=H' a)/\H' p=H p:=by
 have g:∀a,P a->a≠p:=fun a h e=>l.dom a h (by rw[e];exact eC)
 have i:∀a∈φ,a≠p:=fun a h e=>l.cd a h (by rw[e];exact eC)
 have j:H p≠Á:=fun z=>by obtain⟨vs,e⟩:=k;rw[z]at e;cases e
 have q:H' p=H p:=f.keep p j (fun h=>i p h rfl) fun v z=>by obtain⟨vs,e⟩:=k;rw[z]at e;cases e
 obtain⟨m,em,nm⟩:=f.new;have c:∀a,P' a->a≠p:=fun a h e=>by
  rcases f.pn a h with z|z|z
  ·exact g a z e
  ·exact j (by rw[<- e];exact z)
  ·exact i a z e
 have d:∀a∈φ',a≠p:=fun a h e=>by
  rw[em]at h;rcases zZ.mp h with z|z
  ·exact i a z e
  ·exact j (by rw[<- e];exact nm a z)
 have b:∀a,hid H p a≠Á->a≠p:=fun a h e=>h (by rw[e];exact eC)
 have ex:∀a,P' a->P' a/\hid H' p a=H' a:=fun a h=>⟨h,bO (c a h)⟩
 refine⟨⟨fun a h=>⟨(f.ext a h).1,by rw[bO (g a h),bO (g a h)];exact(f.ext a h).2⟩,⟨m,em,fun a h=>?_⟩,fun a h n z=>?_,fun a h=>?_,fun a h=>?_,fun a o u h=>?_⟩,s.stay ex (fun a h=>bO (d a h)) (fun _ _ h=>h) (fun a h=>by rw[(ex a h).2];exact s.dom a h) (fun t r=>⟨(s.tb t r).1.hd (by rw[q];exact k),(s.tb t r).2⟩),ex,q⟩
 ·rw[bO (d a (by rw[em];exact zK _ h))];exact nm a h
 ·rw[bO (b a h),bO (b a h)]
  rw[bO (b a h)]at z;rw[bO (b a h)]at h;exact f.keep a h n z
 ·rcases f.pn a h with z|z|z
  ·exact .inl z
  ·exact .inr (.inl (by rw[bO (c a h)];exact z))
  ·exact .inr (.inr z)
 ·rw[bO (b a h)]
  rw[bO (b a h)]at h;exact f.sm a h
 ·have ne:=b a (by rw[h];exact fun z=>nomatch z)
  rw[bO ne]at h ⊢;exact f.fz a o u h
end
def iX(gd:Gd)(g:GF)(t:TF)(f:EF)(sl:Sl):List AV->aa->Option (List AV×aa)
 |[],st=>if cM gd st=Ã then À ([],st) else Á
 |x::xs,st=>if cM gd st=Ã then(g x sl st).bind fun p=>(t p.1 p.2).bind fun q=>if q.1=Ã then(f p.1 q.2).bind fun r=>(iX gd g t f sl xs r.2).map fun z=>(r.1::z.1,z.2) else iX gd g t f sl xs q.2 else Á
def Dn(k:Nat)(it:IF)(g:GF)(t:TF)(f:EF):NF:=fun a b=>(it a b).bind fun p=>if fE p.1.Qe.length=Ã then iX p.1.gd g t f (a++É k Á) p.1.Qe p.2 else Á
def Mg:TF:=fun _ a=>À (Ã,a)
theorem Qk.ext0(h:Qk mg P H φ sl σ)(k:Nat):Qk mg P H φ (sl++É k Á) (σ++É k Á):=by
 refine⟨by rw[zV,zV,h.1,ń,ń],fun i v e=>?_⟩;have a:i<sl.length:=by
  rcases yV i sl.length with z|z
  ·exact z
  ·rw[z6 z,Ă]at e
   split at e<;>cases e
 rw[zN a]at e;rw[zN (by rw[<- h.1];exact a)];exact h.2 i v e
def p5(n:Nat)(g:GF):Prop:=∀x c d a b,g x c d=À (a,b)->a.length=c.length/\∀j,j<n->a[j]?=c[j]?
theorem Qk.back{k:Nat}(h:Qk mg P H φ sl' σ)(a:sl'.length=(sl++É k Á).length)(b:∀j,j<sl.length->sl'[j]?=(sl++É k Á)[j]?):Qk mg P H φ (sl++É k Á) σ:=by
 refine⟨by rw[<- a];exact h.1,fun i v e=>?_⟩;have c:i<sl.length:=by
  rcases yV i sl.length with z|z
  ·exact z
  ·rw[z6 z,Ă]at e
   split at e<;>cases e
 exact h.2 i v (by rw[b i c];exact e)
inductive LcI[Qc](mg:Gm)(P1:Pr)(φ1:List Ç)(H1:Hp)(p:Ç)(sk:Sl)(gd:Gd)(g:GF)(t:TF)(f:EF)(L:List AV)(stE:aa)(out:List AV)(i m:Nat)(σ':St)(H':Hp):Prop
 |mk (P' φ' st' xs vs zs) (hm:m=L.length-i) (hle:i<=L.length) (f2:Frm P1 φ1 H1 P' φ' (hid H' p)) (s2:Sim mg P' φ' st' (hid H' p)) (rs2:Qk mg P' (hid H' p) φ' sk σ') (hv:H' p=À (.lst vs)) (rx:Qg mg P' (hid H' p) φ' xs vs) (hlen:xs.length<=i) (eg:iX gd g t f sk (L.drop i) st'=À (zs,stE)) (eo:out=xs++zs)
theorem IT[Qc]{n k:Nat}(hk:p5 n g)(hn:σ.length=n)(h:rN mg (Dn k it g t f) σ H Q):GN k (rI mg it) (rG mg g) (rT mg t) (rE mg f) σ H Q:=by
 refine e7 h fun P φ R st rs s q0=>?_
 obtain⟨out,stE,ef,kk⟩:=q0;obtain⟨q,e1,e2⟩:=zA ef;split at e2
 ·rename_i hz
  refine i7 rs s ⟨q.1,q.2,e1,fun P1 E H1 J f1 s1 ij=>fun p X=>?_⟩;have hsl:R.length=n:=by rw[rs.1];exact hn
  refine⟨LcI mg P1 E H1 p (R++É k Á) q.1.gd g t f q.1.Qe stE out,⟨q.1.Qe.length-0,?_⟩,?_⟩
  ·have e:hid (ai H1 p (.lst [])) p=H1:=by rw[wj,Cz X]
   exact .mk P1 E q.2 [] [] out rfl (Ő _) (by rw[e];exact Frm.refl) (by rw[e];exact s1) (by rw[e];exact(rs.frm f1).ext0 k) aF (by rw[e];exact bU) (zP _) (by simpa using e2) rfl
  ·intro i m σ' A hh
   refine g_ fun G bk=>?_
   obtain⟨P2,b,O,xs,N,zs,hm,hle,d,s2,U,I,rx,hlen,l,eo⟩:=hh;obtain⟨S,ex2⟩:=s2.sh _ I;have T:Qk mg P2 A b (R++É k Á) σ':=⟨U.1,fun i v e=>let⟨w,e',r⟩:=U.2 i v e;⟨w,e',r.mono ex2 fun _ _ z=>z⟩⟩;have hpn:A p≠Á:=by rw[I];exact fun z=>nomatch z
   have f2v:Frm P1 E H1 P2 b A:=by
    refine⟨fun a h=>⟨(d.ext a h).1,?_⟩,d.new,fun a h n z=>?_,fun a h=>d.pn a h,fun a h=>?_,fun a o u h=>?_⟩
    ·have ne:a≠p:=fun e=>s1.dom a h (by rw[e];exact X)
     rw[<- bO (H:=A) ne];exact(d.ext a h).2
    ·have ne:a≠p:=fun e=>h (by rw[e];exact X)
     rw[<- bO (H:=A) ne];exact d.keep a h n z
    ·have ne:a≠p:=fun e=>h (by rw[e];exact X)
     rw[<- bO (H:=A) ne];exact d.sm a h
    ·have ne:a≠p:=bB h X
     rw[<- bO (H:=A) ne];exact d.fz a o u h
   rcases yV i q.1.Qe.length with M|M
   ·rw[ã M]at l
    simp only[iX]at l;split at l
    ·rename_i L
     obtain⟨go,yl⟩:=ij.go P2 b A O i _ f2v S L (zF M);refine bk (Or.inr ⟨go,fun x H3 hy=>g_ fun G bk=>?_⟩);obtain⟨P3,f3,s3,r3⟩:=yl x H3 hy;obtain⟨W,e4,e5⟩:=zA l;obtain⟨V,e6,e7⟩:=zA e5;obtain⟨kl,kj⟩:=hk _ _ _ _ _ e4;refine bk ⟨P3,b,R++É k Á,O,q.1.Qe[i],T.frm f3,s3,r3,W.1,W.2,e4,fun P4 φ4 H4 σ4 f4 s4 F=>⟨P4,φ4,W.1,W.2,F,s4,V.1,V.2,e6,fun P5 D H5 c f5 s5 r5=>?_⟩⟩;cases r5;refine g_ fun G bk=>?_
     have Z:=(f3.trans f4).trans f5;have back:∀{P6:Pr}{B:List Ç}{H6:Hp},Frm P5 D H5 P6 B H6->Qk mg P6 H6 B (R++É k Á) σ4:=fun f6=>((F.frm f5).frm f6).back kl fun j hj=>kj j oM
     cases hc:V.1 with
     |true =>
      rw[hc]at e7 bk;simp only[if_true]at e7 bk;obtain⟨q8,e8,e9⟩:=zA e7;obtain⟨z,e10,e11⟩:=zE.mp e9;cases e11;refine bk ⟨P5,D,W.1,V.2,F.frm f5,s5,q8.1,q8.2,e8,fun P6 B H6 y f6 s6 r6=>g_ fun G bk=>?_⟩;obtain⟨Y,sh,C,K⟩:=Frm.hd s2 ⟨_,I⟩ (Z.trans f6) s6;refine bk ⟨N,by rw[K];exact I,?_,q.1.Qe.length-(i+1),by lia,?_⟩
      ·rw[<- rx.length]
       have h1:=zS hz;have h2:(1000000:Nat)<Ì:=by decide
       lia
      ·have eh:hid (ai H6 p (.lst (N++[y]))) p=hid H6 p:=wj
       refine .mk P6 B q8.2 (xs++[q8.1]) (N++[y]) z.1 rfl M (eh.symm▸d.trans Y) (eh.symm▸sh) (eh.symm▸?_) aF (eh.symm▸(rx.frm Y).app (bw (r6.mono C fun _ _ z=>z) bU)) (by rw[zV];simp;lia) e10 (by rw[eo,yO];rfl)
       have:=back f6
       exact⟨this.1,fun i v e=>let⟨w,e',r⟩:=this.2 i v e;⟨w,e',r.mono C fun _ _ z=>z⟩⟩
     |false =>
      rw[hc]at e7 bk;simp only[yC,if_false]at e7 bk;obtain⟨Y,sh,C,K⟩:=Frm.hd s2 ⟨_,I⟩ Z s5;refine bk ⟨q.1.Qe.length-(i+1),by lia,.mk P5 D V.2 xs N zs rfl M (d.trans Y) sh ?_ (by rw[K];exact I) (rx.frm Y) oM e7 eo⟩
      have:=back Frm.refl
      exact⟨this.1,fun i v e=>let⟨w,e',r⟩:=this.2 i v e;⟨w,e',r.mono C fun _ _ z=>z⟩⟩
    ·cases l
   ·have ei:i=q.1.Qe.length:=ſ hle M
    subst ei;rw[a!]at l;simp only[iX]at l;split at l
    ·rename_i L
     cases l;refine bk (Or.inl ⟨ij.stop P2 b A _ f2v S L,?_⟩)
     have:=kk P2 b (hid A p) p N (f1.trans d) s2 eC (by rw[eo,û];exact rx)
     rw[Ek I]at this;exact this
    ·cases l
 ·cases e2
def wC[Qc](X:Cx)(a:List Î)(t:TF):Prop:=wE X a (rT X.gm t)
section
variable{X:Cx}{elt iter tg:Î}{ifs:List Î}{N':List Í}{scope:ğ}{pos:ĥ}{it:IF}{g:GF}{t:TF}{f:EF}
theorem ER[Qc]:wC X [] Mg:=fun d s b H Q I a=>e7 a fun P e g f h c k=>E9 d s b H Q I (k.pure c rfl)
theorem EQ[Qc](h:QT X e t):wC X [e] t:=E8 h
theorem J5{e:Î}{t t':TE}(h:PE X e t)(i:∀σ H Q,σ.length=X.N.length->t' σ H Q->t σ H Q):PE X e t':=fun b s σ H Q I a=>h b s σ H Q I (i σ H Q I.len a)
theorem J1{st:ľ}{t t':TS}(h:PS X st t)(i:∀D σ H,σ.length=X.N.length->t' D σ H->t D σ H):PS X st t':=fun b s σ H D I a=>h b s σ H D I (i D σ H I.len a)
theorem Dm[Qc](i:X.calm=Ã)(T:kr X N' scope)(d:QI X tg iter it)(e:∀cl s H fp Qa,QG (cY X N' scope cl s H fp Qa) tg g)(a:∀cl s H fp Qa,wC (cY X N' scope cl s H fp Qa) ifs t)
  (he:∀cl s H fp Qa,QE (cY X N' scope cl s H fp Qa) elt f) (c:p5 X.N.length g) (hs:∀x,ü iter X.env x=pure x):QN X (.ListComp elt [⟨tg,iter,ifs,0⟩] scope pos) (Dn (N'.length-X.N.length) it g t f) :=
 J5 (K4 (g:=rG X.gm g) (tt:=rT X.gm t) (te:=rE X.gm f) i T d (fun cl s H fp Qa=>e cl s H fp Qa) (fun cl s H fp Qa=>a cl s H fp Qa) (fun cl s H fp Qa=>he cl s H fp Qa) hs) fun j H Q b h=>IT c b h
end
inductive Out where
 |nx (sl:Sl) (st:aa)|rt (v:AV) (st:aa)|bk (sl:Sl) (st:aa)|ct (sl:Sl) (st:aa)
abbrev SF:=Sl->aa->Option Out
def ThO[Qc](mg:Gm)(P:Pr)(φ:List Ç)(H:Hp)(D:lE):Out->Prop
 |.nx sl st=>∀P' φ' H' σ',Frm P φ H P' φ' H'->Sim mg P' φ' st H'->Qk mg P' H' φ' sl σ'->D.nx σ' H'
 |.bk sl st=>∀P' φ' H' σ',Frm P φ H P' φ' H'->Sim mg P' φ' st H'->Qk mg P' H' φ' sl σ'->D.bk σ' H'
 |.ct sl st=>∀P' φ' H' σ',Frm P φ H P' φ' H'->Sim mg P' φ' st H'->Qk mg P' H' φ' sl σ'->D.ct σ' H'
 |.rt v st=>∀P' φ' H' w,Frm P φ H P' φ' H'->Sim mg P' φ' st H'->RA mg P' H' φ' v w->D.rt w H'
def KO[Qc](mg:Gm)(P:Pr)(φ:List Ç)(H:Hp)(r:Option Out)(D:lE):Prop:=∃o,r=À o/\ThO mg P φ H D o
def rS[Qc](mg:Gm)(f:SF):TS:=fun D d H=>∃P a c b,Qk mg P H a c d/\Sim mg P a b H/\KO mg P a H (f c b) D
def QS[Qc](X:Cx)(st:ľ)(f:SF):Prop:=PS X st (rS X.gm f)
def oj[Qc](X:Cx)(a:List ľ)(f:SF):Prop:=PSs X a (rS X.gm f)
theorem ThO.frm[Qc](h:ThO mg P φ H D o)(f:Frm P φ H P1 φ1 H1):ThO mg P1 φ1 H1 D o:=by
 cases o with
 |nx sl st=>exact fun d a e b c=>h d a e b (f.trans c)
 |bk sl st=>exact fun d a e b c=>h d a e b (f.trans c)
 |ct sl st=>exact fun d a e b c=>h d a e b (f.trans c)
 |rt v st=>exact fun d a e b c=>h d a e b (f.trans c)
theorem KO.bindE[Qc]{α c:Type}{Ra:Gm->Pr->Hp->List Ç->α->c->Prop}{m:Option (α×aa)}{k:α×aa->Option Out}(h:KO mg P φ H (m.bind k) D) :
  KG mg Ra P φ H m fun b H1=>∃P1 φ1 st1 a,Frm P φ H P1 φ1 H1/\Sim mg P1 φ1 st1 H1/\Ra mg P1 H1 φ1 a b/\KO mg P1 φ1 H1 (k (a,st1)) D:=by
 obtain⟨o,e,q⟩:=h;cases m with
 |none=>cases e
 |some p=>exact⟨p.1,p.2,rfl,fun P1 φ1 H1 b f s r=>⟨P1,φ1,p.2,p.1,f,s,r,o,e,q.frm f⟩⟩
theorem KO.nx[Qc]{mg:Gm}{P:Pr}{φ:List Ç}{H:Hp}{sl:Sl}{st:aa}{D:lE}{σ:St}(h:KO mg P φ H (À (.nx sl st)) D)(s:Sim mg P φ st H)(r:Qk mg P H φ sl σ):D.nx σ H:=by
 obtain⟨o,e,q⟩:=h;cases e;exact q P φ H σ Frm.refl s r
theorem KO.no[Qc](h:KO mg P φ H Á D):False:=by obtain⟨_,e,_⟩:=h;cases e
section
variable{X:Cx}{st:ľ}{rest:List ľ}{e c tg:Î}{pos:ĥ}{s t:SF}{f:EF}{g:GF}{b:TF}
def Mq:SF:=fun b a=>À (.nx b a)
def Mo(s t:SF):SF:=fun b a=>(s b a).bind fun o=>match o with
 |.nx b a=>t b a
 |o=>À o
theorem EH[Qc]:oj X [] Mq:=PSs_imp E2 fun D d H a=>e7 a fun P c f e b s k=>k.nx s b
theorem BN[Qc](m:QS X st s)(l:oj X rest t):oj X (st::rest) (Mo s t):=PSs_imp (BT m l) fun D w H d=>by
 refine e7 d fun P u x st j h k=>?_
 obtain⟨o,e,q⟩:=k;obtain⟨f,p,a⟩:=zA e;refine i7 j h ⟨f,p,?_⟩;cases f with
 |nx sl1 st1=>exact fun r b y g n i c=>⟨r,b,sl1,st1,c,i,o,a,q.frm n⟩
 |bk sl1 st1=>cases a;exact q
 |ct sl1 st1=>cases a;exact q
 |rt v st1=>cases a;exact q
def GZ:SF:=fun _ _=>Á
theorem EK[Qc]:QS X st GZ:=PS_imp BV fun D c H a=>e7 a fun P b d st e s k=>k.no
def Mt(f:EF):SF:=fun a b=>(f a b).bind fun p=>À (.nx a p.2)
theorem EJ[Qc](he:QE X e f)(hs:Ľ e Á pos.line X.env=pure Ä):QS X (.Expr e pos) (Mt f):=PS_imp (E4 he hs) fun D v H d=>e7 d fun P u z y g s k=>i7 g s (by
 obtain⟨a,c,p,q⟩:=k.bindE (Ra:=RA);refine⟨a,c,p,fun r b t w o l r1=>?_⟩;obtain⟨A,h,i,x,n,j,r2,m⟩:=q r b t w o l r1;exact m.nx j (g.frm n))
def Mp(f:EF):SF:=fun b a=>(f b a).bind fun p=>À (.rt p.1 p.2)
theorem Hf[Qc](he:QE X e f):QS X (.Return (À e) pos) (Mp f):=PS_imp (HF he) fun D z H g=>e7 g fun P y B A m s k=>i7 m s (by
 obtain⟨a,d,t,q⟩:=k.bindE (Ra:=RA);refine⟨a,d,t,fun v c h w p l r1=>?_⟩;obtain⟨u,b,i,x,C,j,r2,o,r,n⟩:=q v c h w p l r1;cases r;exact n u b h w Frm.refl j r2)
def Mr(b:TF)(s t:SF):SF:=fun a c=>(b a c).bind fun p=>if p.1=Ã then s a p.2 else t a p.2
theorem KB[Qc](u:QT X c b)(z:oj X x s)(v:oj X y t):QS X (.If c x y pos) (Mr b s t):=PS_imp (KP u z v) fun D G H i=>e7 i fun P F j I h p k=>i7 h p (by
 obtain⟨a,g,B,q⟩:=k.bindE (Ra:=RB);refine⟨a,g,B,fun C f E w A r r1=>?_⟩;obtain⟨o,d,e,x,n,l,r2,m⟩:=q C f E w A r r1;cases r2;cases w with
 |true=>exact⟨o,d,j,e,h.frm n,l,m⟩
 |false=>exact⟨o,d,j,e,h.frm n,l,m⟩)
def yq(f:EF)(g:GF):SF:=fun a b=>(f a b).bind fun p=>(g p.1 a p.2).bind fun q=>À (.nx q.1 q.2)
theorem xM[Qc](h:rS mg (yq f g) D σ H):wR (rE mg f) (rG mg g) D σ H:=by
 refine e7 h fun P C k E i s n=>?_
 obtain⟨o,e,q⟩:=n;obtain⟨p,y,x⟩:=zA e;obtain⟨r,v,u⟩:=zA x;cases u;exact i7 i s ⟨p.1,p.2,y,fun A b F w j m r1=>⟨A,b,k,p.2,p.1,i.frm j,m,r1,r.1,r.2,v,fun z a B c t l d=>q z a B c (j.trans t) l d⟩⟩
theorem zc[Qc](he:QE X e f)(b:QG X tg g)(hs:Ϸ [tg] e pos.line X.env=pure Ä)(a:ϸ [tg] e X.env=pure Á)(c:(â [tg] X.env).map (·.2)=[assign tg X.env]):QS X (.Assign [tg] e pos) (yq f g) :=
 PS_imp (HI he b hs a c) fun D d H h=>xM h
theorem Im[Qc]{i:Nat}(h:rG mg (Az i) v σ H Q):pJ i v σ H Q:=by
 obtain⟨P,b,d,c,x,a,s,rx,k⟩:=h;exact k.pure s (a.set rx i)
theorem zb[Qc]{i:Nat}(n:X.N.Nodup)(l:X.N[i]?=À x)(j:Loc X.env.scope x)(he:QE X e f)(hs:Ľ e (À (.Name x pos')) pos.line X.env=pure Ä)(m:X.fn x=Ã\/X.env.scope.names.lookup x=À .local) :
  QS X (.Assign [.Name x pos'] e pos) (yq f (Az i)):=PS_imp (HE n l j he hs m) fun D u H h=>by
 obtain⟨P,t,y,v,c,s,g,d,p,k⟩:=xM h;exact i7 c s ⟨g,d,p,fun q a r w o b r1=>Im (k q a r w o b r1)⟩
def DS(m:Bool)(f:NF):EF:=if m=Ã then O1 f else O2 f
theorem Ij[Qc]{mg:Gm}{m:Bool}{f:NF}{σ:St}{H:Hp}{Q:VK}(h:rE mg (DS m f) σ H Q):rN mg f σ H Q:=by
 refine e7 h fun P z B A n s u=>?_
 obtain⟨v,t,ev,k⟩:=u;cases m with
 |true =>
  obtain⟨q,l,b⟩:=zA ev;cases b;refine i7 n s ⟨q.1,q.2,l,fun o a y p r j d g r1=>?_⟩;obtain⟨i,c,e⟩:=Ip d g r1;exact k o _ _ _ (j.trans i) c e
 |false =>
  obtain⟨q,l,b⟩:=zA ev;split at b
  ·rename_i w
   cases b;refine i7 n s ⟨q.1,q.2,l,fun o a y p r j d g r1=>?_⟩;obtain⟨x,i,c,e⟩:=Jr d g w r1;exact k x a _ _ (j.trans i) c e
  ·cases b
theorem jd[Qc]{m:Bool}{f:NF}(h:QN X e f):QE X e (DS m f):=PE_imp h fun _ _ _ q=>Ij q
theorem za[Qc]{i:Nat}{y:Í}{n:ĥ}{elt a d:Î}{c:List Î}{N':List Í}{scope:ğ}{pos b:ĥ}{it:IF}{g:GF}{t:TF}{f:EF}{m:Bool}(G:X.N.Nodup)(l:X.N[i]?=À y)(u:Loc X.env.scope y)
  (j:Ľ (.ListComp elt [⟨d,a,c,0⟩] scope pos) (À (.Name y n)) b.line X.env=pure Ã)
  (F:X.calm=Ã) (T:kr X N' scope) (B:QI X d a it) (C:∀cl s H fp Qa,QG (cY X N' scope cl s H fp Qa) d g) (v:∀cl s H fp Qa,wC (cY X N' scope cl s H fp Qa) c t)
  (he:∀cl s H fp Qa,QE (cY X N' scope cl s H fp Qa) elt f) (A:p5 X.N.length g) (hs:∀x,ü a X.env x=pure x) (E:X.fn y=Ã\/X.env.scope.names.lookup y=À .local) :
  QS X (.Assign [.Name y n] (.ListComp elt [⟨d,a,c,0⟩] scope pos) b) (yq (DS m (Dn (N'.length-X.N.length) it g t f)) (Az i)) :=
 J1 (ze (g:=rG X.gm g) (tt:=rT X.gm t) (te:=rE X.gm f) G l u j F T B (fun cl s H fp Qa=>C cl s H fp Qa) (fun cl s H fp Qa=>v cl s H fp Qa) (fun cl s H fp Qa=>he cl s H fp Qa) hs E) fun D N H z h=>by
  obtain⟨P,M,Q,O,p,s,r,q,J,k⟩:=xM h;exact IT A z (Ij (m:=m) (i7 p s ⟨r,q,J,fun K e L w I o r1=>Im (k K e L w I o r1)⟩))
def xL(o:Ġ)(_:aa):AV->AV->Option AV
 |.int a,.int b=>match o with
  |.Add=>À (.int (a+b))
  |.Sub=>À (.int (a-b))
  |_=>Á
 |_,_=>Á
theorem NU[Qc](o:Ġ):DX X o (fun x y H Q=>∃P φ st a b c,Sim X.gm P φ st H/\RA X.gm P H φ a x/\RA X.gm P H φ b y/\xL o st a b=À c/\∀w,RA X.gm P H φ c w->Q w H):=by
 rintro l s d H x y v u Q I rx f ⟨P,φ,st,a,b,c,m,h,g,e,k⟩;cases a <;> cases b <;> simp only [xL] at e <;> first | (cases e;done) | skip
 rename_i i j;simp only [RA] at h g;subst h;subst g;cases o <;> first | (cases e;done) | skip
 ·cases e
  exact Jd l s d H _ _ v u Q I rx f ⟨i,j,rfl,rfl,k _ (by simp only[RA])⟩
 ·cases e
  exact Jc l s d H _ _ v u Q I rx f ⟨i,j,rfl,rfl,k _ (by simp only[RA])⟩
theorem LB[Qc]:C1 X (fun x y H Q=>∃P φ st a b c,Sim X.gm P φ st H/\RA X.gm P H φ a x/\RA X.gm P H φ (.int b) y/\(∃xs,cj st a=À xs/\ii xs b=À c)/\∀w,RA X.gm P H φ c w->Q w H):=by
 rintro r s e H x y v u Q I rx h ⟨P,φ,st,a,b,c,g,i,d,⟨xs,o,n⟩,k⟩;obtain⟨p,f,rfl,q,l⟩:=i.ls g o;obtain⟨w,m,j⟩:=qM l n;simp only[RA]at d;exact CC r s e H _ y v u Q I rx h ⟨p,f,b,w,rfl,d,q,m,k w j⟩
def wV(o:Ġ)(f g h:EF):SF:=fun a d=>(f a d).bind fun p=>(g a p.2).bind fun q=>match q.1 with
 |.int i=>(cj q.2 p.1).bind fun c=>(ii c i).bind fun x=>(h a q.2).bind fun r=>(xL o r.2 x r.1).bind fun z=>(j6 r.2 p.1 (.int i) z).bind fun b=>À (.nx a b)
 |_=>Á
theorem EL[Qc]{a i:Î}{f g h:EF}{o:Ġ}{d:ĥ}(Y:X.A.units+64<ř)(Z:QE X a f)(hi:QE X i g)(he:QE X e h)
  (ha:∀ov iv new,augStore i ov iv new=(do holding [new,ov,iv] (Ϩ ov iv new);release [new,ov,iv] [];pure .next)):QS X (.AugAssign (.Subscript a i d) o e pos) (wV o f g h) :=
 PS_imp (E5 Z hi LB he (NU o) (Dh Y) ha) fun D O H y=>by
  refine e7 y fun P φ I st m s W=>?_
  obtain⟨out,eo,q⟩:=W;obtain⟨p,e1,e2⟩:=zA eo;obtain⟨r,e3,A⟩:=zA e2;split at A
  ·rename_i j hj
   obtain⟨Q,e5,e6⟩:=zA A;obtain⟨x,e7,e8⟩:=zA e6;obtain⟨t,e9,G⟩:=zA e8;obtain⟨z,F,E⟩:=zA G;obtain⟨w,C,B⟩:=zA E;cases B;refine i7 m s ⟨p.1,p.2,e1,fun P1 v H1 w1 n S r1=>⟨P1,v,I,p.2,m.frm n,S,r.1,r.2,e3,fun N c H2 w2 l K r2=>?_⟩⟩;rw[hj]at r2;refine⟨N,c,r.2,p.1,j,x,K,r1.frm l,r2,⟨Q,e5,e7⟩,fun w3 V=>⟨N,c,I,r.2,(m.frm n).frm l,K,t.1,t.2,e9,fun M b H3 w4 k J U=>⟨M,b,t.2,x,t.1,z,J,V.frm k,U,F,fun w5 T=>⟨M,b,t.2,p.1,.int j,z,w,J,(r1.frm l).frm k,r2.frm k,T,C,fun P4 u H4 L R=>?_⟩⟩⟩⟩;exact q P4 u H4 O (((n.trans l).trans k).trans L) R ((((m.frm n).frm l).frm k).frm L)
  ·cases A
end
inductive Iw[Qc](mg:Gm)(P1:Pr)(φ1:List Ç)(H1:Hp)(E:Sl->aa->Prop)(σ:St)(H:Hp):Prop
 |mk (P φ sl st) (f:Frm P1 φ1 H1 P φ H) (s:Sim mg P φ st H) (r:Qk mg P H φ sl σ) (e:E sl st)
def eF(gd:Gd)(g:GF)(s:SF):List AV->Sl->aa->Option Out
 |[],sl,st=>if cM gd st=Ã then À (.nx sl st) else Á
 |x::xs,sl,st=>if cM gd st=Ã then(g x sl st).bind fun p=>(s p.1 p.2).bind fun o=>match o with
  |.nx sl st=>eF gd g s xs sl st
  |.ct sl st=>eF gd g s xs sl st
  |.bk sl st=>À (.nx sl st)
  |.rt v st=>À (.rt v st) else Á
def Ms(it:IF)(g:GF)(s:SF):SF:=fun a b=>(it a b).bind fun p=>eF p.1.gd g s p.1.Qe a p.2
def dU(t:TF)(s:SF):Nat->Sl->aa->Option Out
 |0,_,_=>Á
 |n+1,sl,st=>(t sl st).bind fun p=>if p.1=Ã then(s sl p.2).bind fun o=>match o with
  |.nx sl st=>dU t s n sl st
  |.ct sl st=>dU t s n sl st
  |.bk sl st=>À (.nx sl st)
  |.rt v st=>À (.rt v st) else À (.nx sl p.2)
open Classical in
def nA(t:TF)(s:SF):SF:=fun b a=>if h:∃n,(dU t s n b a).isSome=Ã then dU t s (Đ h) b a else Á
theorem qQ:∀{n m:Nat}{sl:Sl}{st:aa}{o:Out},n<=m->dU t s n sl st=À o->dU t s m sl st=À o:=by
 intro n
 induction n with
 |zero=>intro m sl st o _ h;cases h
 |succ n d =>
  intro m sl st o g h;cases m with
  |zero=>lia
  |succ m =>
   simp only[dU]at h ⊢;obtain⟨p,f,c⟩:=zA h;rw[f,Â];split at c
   ·rename_i b
    rw[yJ b];obtain⟨q,e,a⟩:=zA c;rw[e,Â];cases q with
    |nx sl st=>exact d oM a
    |ct sl st=>exact d oM a
    |bk sl st=>exact a
    |rt v st=>exact a
   ·rename_i b
    rw[yI b];exact c
theorem oU{t:TF}{s:SF}{n:Nat}{sl:Sl}{st:aa}{o:Out}(h:dU t s n sl st=À o):nA t s sl st=À o:=by
 have a:∃n,(dU t s n sl st).isSome=Ã:=⟨n,by rw[h];rfl⟩;unfold nA;rw[dif_pos a];obtain⟨e,b⟩:=Ķ.mp (Ĝ a);have d:=qQ (Nat.le_max_left n (Đ a)) h;have c:=qQ (Nat.le_max_right n (Đ a)) b;rw[b,<- d,c]
theorem zt{t:TF}{s:SF}{sl:Sl}{st:aa}{o:Out}(h:nA t s sl st=À o):∃n,dU t s n sl st=À o:=by
 unfold nA at h;split at h
 ·exact⟨_,h⟩
 ·cases h
section
variable{X:Cx}{tg iter c:Î}{body:List ľ}{pos:ĥ}{it:IF}{g:GF}{s:SF}{t:TF}
theorem Hg[Qc](hp:Ϫ (model X.prog X.w) X.A X.env X.xe)(hc:X.calm=Ã)(hi:QI X tg iter it)(hg:QG X tg g)(hb:oj X body s)(hs:∀x,ü iter X.env x=pure x):QS X (.For tg iter body [] pos) (Ms it g s) :=
 PS_imp (zf hp hc hi hg hb hs) fun D σ H R=>by
  refine e7 R fun P φ A E W sm q0=>?_
  obtain⟨o,e,q⟩:=q0;obtain⟨p,e1,e2⟩:=zA e;refine i7 W sm ⟨p.1,p.2,e1,fun V h H1 J f1 s1 Z=>?_⟩;have Q:=q.frm f1;refine⟨fun i m f u=>m=p.1.Qe.length-i/\i<=p.1.Qe.length/\Iw X.gm V h H1 (fun A E=>eF p.1.gd g s (p.1.Qe.drop i) A E=À o) f u,⟨_,rfl,Ő _,V,h,A,p.2,Frm.refl,s1,W.frm f1,by simpa using e2⟩,?_⟩;intro i m f u hh;refine g_ fun G bk=>?_
  obtain⟨em,S,U,d,M,y,K,N,B,c⟩:=hh;rcases yV i p.1.Qe.length with l|T
  ·rw[ã l]at c
   simp only[eF]at c;split at c
   ·rename_i n
    obtain⟨go,yl⟩:=Z.go U d u y i _ K N n (zF l);obtain⟨F,e4,e5⟩:=zA c;obtain⟨Y,e6,e7⟩:=zA e5;refine bk (.inr ⟨go,Iw X.gm V h H1 fun A E=>eF p.1.gd g s (p.1.Qe.drop (i+1)) A E=À o,fun f u z=>⟨_,by lia,rfl,l,z⟩,fun x H3 hy=>g_ fun G bk=>?_⟩);obtain⟨P3,f3,s3,r3⟩:=yl x H3 hy;refine bk ⟨P3,d,M,y,_,B.frm f3,s3,r3,F.1,F.2,e4,fun P4 L H4 σ4 f4 s4 O=>⟨P4,L,F.1,F.2,O,s4,Y,e6,?_⟩⟩;have I:=(K.trans f3).trans f4;cases Y with
    |nx sl5 st5=>exact fun t a C j r k b=>⟨t,a,sl5,st5,I.trans r,k,b,e7⟩
    |ct sl5 st5=>exact fun t a C j r k b=>⟨t,a,sl5,st5,I.trans r,k,b,e7⟩
    |bk sl5 st5=>cases e7;exact fun t a C j r k b=>Q t a C j (I.trans r) k b
    |rt v st5=>cases e7;exact fun t a C w r k r5=>Q t a C w (I.trans r) k r5
   ·cases c
  ·have ei:i=p.1.Qe.length:=ſ S T
   subst ei;rw[a!]at c;simp only[eF]at c;split at c
   ·rename_i n
    cases c;exact bk (.inl ⟨Z.stop U d u _ K N n,Q U d u f K N B⟩)
   ·cases c
theorem BO[Qc](O:Ϫ (model X.prog X.w) X.A X.env X.xe)(R:QT X c t)(S:oj X body s):QS X (.While c body [] pos) (nA t s) :=
 PS_imp (BU O R S) fun D Z H C=>by
  refine e7 C fun P B r n J I M=>?_
  obtain⟨o,e,q⟩:=M;obtain⟨N,V⟩:=zt e;refine⟨fun m=>Iw X.gm P B H fun r n=>dU t s m r n=À o,⟨N,P,B,r,n,Frm.refl,I,J,V⟩,?_⟩;intro m l Y Q;cases Q with|mk P2 φ2 sl2 st2 f2 s2 rs2 eg =>
  cases m with
  |zero=>cases eg
  |succ m =>
   simp only[dU]at eg;obtain⟨p,U,j⟩:=zA eg;refine⟨P2,φ2,sl2,st2,rs2,s2,p.1,p.2,U,fun G k W b A E L=>?_⟩;cases L;cases u:p.1 with
   |true =>
    rw[u]at j;simp only[if_true]at j ⊢;obtain⟨F,T,e7⟩:=zA j;refine⟨Iw X.gm P B H fun r n=>dU t s m r n=À o,fun l Y z=>⟨m,Ĵ m,z⟩,G,k,sl2,p.2,rs2.frm A,E,F,T,?_⟩;have y:=f2.trans A;cases F with
    |nx sl5 st5=>exact fun i a x f h g d=>⟨i,a,sl5,st5,y.trans h,g,d,e7⟩
    |ct sl5 st5=>exact fun i a x f h g d=>⟨i,a,sl5,st5,y.trans h,g,d,e7⟩
    |bk sl5 st5=>cases e7;exact fun i a x f h g d=>q i a x f (y.trans h) g d
    |rt v st5=>cases e7;exact fun i a x w h g K=>q i a x w (y.trans h) g K
   |false =>
    rw[u]at j;simp only[yC,if_false]at j ⊢;cases j;exact q G k W l (f2.trans A) E (rs2.frm A)
end
abbrev Fn:=List AV->aa->Option (AV×aa)
def eN[Qc](mg:Gm)(n:Nat)(fn:Fn):Sp:=fun c H Q _=>c.length=n/\∃P b a d,Qg mg P H b a c/\Sim mg P b d H/\KG mg RA P b H (fn a d) Q
def bF:Nat->aa->AV->Option AV
 |n+1,st,.ref k=>match st[k]? with
  |some (.lst xs)=>(bC (bF n st) xs).map .fz
  |some (.al t)=>À t
  |_=>Á
 |n+1,st,.tup xs=>(bC (bF n st) xs).map .tup
 |0,_,.ref _=>Á
 |0,_,.tup _=>Á
 |_,_,t=>À t
def fF:aa->AV->Option AV:=bF 6
mutual
noncomputable def flat:AV->Bool
 |.ref _=>Ä
 |.fz _=>Ä
 |.tup xs=>pO xs
 |_=>Ã
noncomputable def pO:List AV->Bool
 |[]=>Ã
 |x::xs=>flat x&&pO xs
end
def rg(st:aa)(x:AV):Option (AV×aa):=if rf x=Ã then À (x,st) else match x with
 |.ref k=>match st[k]? with
  |some (.lst a)=>if rfs a=Ã then À (.fz a,st.set k (.al (.fz a))) else Á
  |some (.al t)=>À (t,st)
  |_=>Á
 |_=>Á
def pL:aa->List AV->Option (List AV×aa)
 |st,[]=>À ([],st)
 |st,x::xs=>(rg st x).bind fun p=>(pL p.2 xs).map fun q=>(p.1::q.1,q.2)
def pm(fn:Fn):Fn:=fun a b=>if rfs a=Ã then(fn a []).bind fun p=>(fF p.2 p.1).map fun t=>(t,b)
 else(bC (fF b) a).bind fun c=>(fn c []).bind fun p=>(fF p.2 p.1).bind fun t=>if flat t=Ã then À (t,b) else
  (pL b a).bind fun q=>(fn q.1 []).bind fun p=>(fF p.2 p.1).map fun t=>(t,q.2)
section
variable{mg:Gm}{P:Pr}{φ:List Ç}{st:aa}{H:Hp}
theorem BG[Qc]{n:Nat}(b:∀v w t,bF n st v=À t->RA mg P H φ v w->RA mg P' H [] t w):∀{xs:List AV}{vs:List V}{ts:List AV},bC (bF n st) xs=À ts->Qg mg P H φ xs vs->Qg mg P' H [] ts vs:=by
 intro xs
 induction xs with
 |nil=>intro vs ts e r;cases e;simp only[Qg]at r ⊢;exact r
 |cons x xs a =>
  intro vs ts e r;simp only[bC]at e;obtain⟨y,g,f⟩:=zA e;obtain⟨h,d,c⟩:=zE.mp f;subst c;simp only[Qg]at r;obtain⟨v,i,rfl,r1,r2⟩:=r;exact bw (b x v y g r1) (a d r2)
theorem tB[Qc](s:Sim mg P φ st H):∀(n:Nat)(v:AV)(w:V)(t:AV),bF n st v=À t->RA mg P H φ v w->RA mg (fun a=>P a\/a∈φ) H [] t w:=by
 have ex:∀a,P a->(P a\/a∈φ)/\H a=H a:=fun a h=>⟨.inl h,rfl⟩
 have o:∀{t:AV}{w:V},R.rf t=Ã->RA mg P H φ t w->RA mg (fun a=>P a\/a∈φ) H [] t w:=fun h r=>(RA.rf (ψ:=[]) h r).mono ex fun _ _ z=>z
 intro n
 induction n with
 |zero =>
  intro v w t e r;cases v <;> simp only [bF] at e <;> first | (cases e;done) | skip
  all_goals cases e;exact o rfl r
 |succ n q =>
  intro v w t e r;cases v with
  |ref k =>
   simp only[bF]at e;simp only[RA]at r;obtain⟨a,j,rfl⟩:=r;split at e
   ·rename_i u f
    obtain⟨x,m,l⟩:=zE.mp e;subst l;obtain⟨y,b,c⟩:=s.at f;rw[j]at b;cases b;obtain⟨_,d,i,g⟩:=c;simp only[RA];exact⟨a,d,rfl,.inl ⟨.inr (zW j),.inl i⟩,BG q m g⟩
   ·rename_i A f
    cases e;obtain⟨y,b,c⟩:=s.at f;rw[j]at b;cases b;exact c.2.mono ex fun _ _ z=>z
   ·cases e
  |tup u =>
   simp only[bF]at e;obtain⟨x,m,l⟩:=zE.mp e;subst l;simp only[RA]at r;obtain⟨a,d,rfl,p,i,g⟩:=r;simp only[RA];exact⟨a,d,rfl,.inl p,i,BG q m g⟩
  |_=>simp only[bF]at e;cases e;exact o rfl r
mutual
theorem RA.fl[Qc](h:∀a vs,P a->H a=À (.tup vs)->P' a):∀{t:AV}{w:V},flat t=Ã->RA mg P H φ t w->RA mg P' H ψ t w
 |.non,_,_,r=>by simp only[RA]at r ⊢;exact r
 |.bl _,_,_,r=>by simp only[RA]at r ⊢;exact r
 |.int _,_,_,r=>by simp only[RA]at r ⊢;exact r
 |.str _,_,_,r=>by simp only[RA]at r ⊢;exact r
 |.ref _,_,e,_=>by simp only[flat]at e;cases e
 |.fz _,_,e,_=>by simp only[flat]at e;cases e
 |.tup xs,_,e,r=>by
  simp only[RA,flat]at r e ⊢;obtain⟨a,vs,rfl,p,h1,h2⟩:=r;exact⟨a,vs,rfl,h a vs p h1,h1,Qg.fl h e h2⟩
theorem Qg.fl[Qc](h:∀a vs,P a->H a=À (.tup vs)->P' a):∀{ts:List AV}{ws:List V},pO ts=Ã->Qg mg P H φ ts ws->Qg mg P' H ψ ts ws
 |[],_,_,r=>by simp only[Qg]at r ⊢;exact r
 |t::ts,_,e,r=>by
  simp only[Qg,pO,zC]at r e ⊢;obtain⟨v,ws,rfl,r1,r2⟩:=r;exact⟨v,ws,rfl,RA.fl h e.1 r1,Qg.fl h e.2 r2⟩
end
theorem Js[Qc](s:Sim mg P φ st H)(e:rg st x=À (t,st'))(r:RA mg P H φ x v):∃P',Frm P φ H P' φ H/\Sim mg P' φ st' H/\RA mg P' H [] t v:=by
 unfold rg at e;split at e
 ·rename_i h
  cases e;exact⟨P,Frm.refl,s,RA.rf h r⟩
 ·cases x with
  |ref k =>
   simp only[RA]at r;obtain⟨a,f,rfl⟩:=r;dsimp only at e;split at e
   ·rename_i y o
    split at e
    ·rename_i B
     cases e;obtain⟨D,d,c⟩:=s.at o;rw[f]at d;cases d;obtain⟨F,A,w,u⟩:=c;have ex:∀b,P b->(P b\/b=a)/\H b=H b:=fun b h=>⟨.inl h,rfl⟩
     have m:=zW f;have q:RA mg (fun b=>P b\/b=a) H [] (.fz y) (.ref a):=by
      simp only[RA];exact⟨a,A,rfl,.inl ⟨.inr rfl,.inl w⟩,(Qg.rf B u).mono ex fun _ _ z=>z⟩
     have C:∀b,(P b\/b=a)->H b≠Á:=fun b h=>by
      rcases h with h|h
      ·exact s.dom b h
      ·rw[h];exact s.cd a m
     refine⟨fun b=>P b\/b=a,⟨ex,⟨[],by simp,by simp⟩,fun _ _ _ _=>rfl,fun b h=>?_,fun _ h=>h,fun _ _ _ h=>h⟩,⟨by rw[ç];exact s.len,s.nd,C,s.cd,fun j c b i g=>?_,fun t l=>⟨(s.tb t l).1,fun z=>z.elim (s.tb t l).2 fun z=>s.tnc l (by rw[z];exact m)⟩⟩,q⟩
     ·rcases h with h|h
      ·exact .inl h
      ·exact .inr (.inr (by rw[h];exact m))
     ·by_cases p:j=k
      ·subst p
       rw[f]at g;cases g;rw[õ (by rw[<- s.len];exact(zB.mp f).1)]at i;cases i;exact⟨.inr rfl,q⟩
      ·rw[ñ (æ p)]at i
       refine(s.cell j c b i g).mono ex (fun _ _ z=>z) rfl fun n z=>?_
       rcases z with z|z
       ·exact n z
       ·refine p ?_
        subst z;obtain⟨w,i⟩:=zB.mp g;obtain⟨u,g⟩:=zB.mp f;exact(Ű s.nd).mp (i.trans g.symm)
    ·cases e
   ·rename_i E o
    cases e;obtain⟨D,d,c⟩:=s.at o;rw[f]at d;cases d;exact⟨P,Frm.refl,s,c.2⟩
   ·cases e
  |_=>cases e
theorem Jq[Qc]:∀{xs ts:List AV}{st st':aa}{P:Pr}{vs:List V},Sim mg P φ st H->pL st xs=À (ts,st')->Qg mg P H φ xs vs->∃P',Frm P φ H P' φ H/\Sim mg P' φ st' H/\Qg mg P' H [] ts vs:=by
 intro xs
 induction xs with
 |nil=>intro ts st st' P vs s e r;cases e;simp only[Qg]at r;subst r;exact⟨P,Frm.refl,s,bU⟩
 |cons x xs h =>
  intro ts st st' P vs s e r;simp only[pL]at e;obtain⟨p,l,k⟩:=zA e;obtain⟨q,j,i⟩:=zE.mp k;cases i;simp only[Qg]at r;obtain⟨v,n,rfl,r1,r2⟩:=r;obtain⟨o,b,d,g⟩:=Js s l r1;obtain⟨m,a,c,f⟩:=h d j (r2.frm b);exact⟨m,b.trans a,c,bw (g.mono a.ext fun _ _ z=>z) f⟩
theorem Mv[Qc]{fn:Fn}{args:List AV}{vs:List V}{Q:VK}(s:Sim mg P φ st H)(r:Qg mg P H [] args vs)(h:KG mg RA P φ H ((fn args []).bind fun p=>(fF p.2 p.1).map fun t=>(t,st)) Q):∃P φ args st,Qg mg P H φ args vs/\Sim mg P φ st H/\KG mg RA P φ H (fn args st) Q:=by
 obtain⟨t,o,e,k⟩:=h;obtain⟨p,A,y⟩:=zA e;obtain⟨B,x,v⟩:=zE.mp y;cases v;refine⟨P,[],args,[],r,Sim.nil s.dom s.tb,p.1,p.2,A,fun j d l w b c r1=>?_⟩;obtain⟨m,em,nm⟩:=b.new;have i:∀a,H a≠Á->(∀q,H a≠À (.tbl q))->l a=H a:=fun a h=>b.keep a h (by simp)
 have u:=s.ckeep (fun a h=>(b.ext a h).2) i;have g:∀a,(j a\/a∈d)->P a\/H a=Á:=fun a h=>by
  rcases h with h|h
  ·rcases b.pn a h with z|z|z
   ·exact .inl z
   ·exact .inr z
   ·cases z
  ·rw[em]at h;exact .inr (nm a h)
 refine k (fun a=>j a\/a∈d) φ l w ⟨fun a h=>⟨.inl (b.ext a h).1,(b.ext a h).2⟩,⟨[],by simp,by simp⟩,fun a h _ z=>i a h z,fun a h=>?_,b.sm,b.fz⟩ (s.stay (fun a h=>⟨.inl (b.ext a h).1,(b.ext a h).2⟩) u (fun a h n z=>?_) (fun a h=>?_) fun t f=>⟨(c.tb t f).1,fun z=>z.elim (c.tb t f).2 (c.tnc f)⟩) (RA.lift (tB c 6 _ _ _ x r1))
 ·rcases g a h with z|z
  ·exact .inl z
  ·exact .inr (.inl z)
 ·rcases g a z with z|z
  ·exact n z
  ·exact s.cd a h z
 ·rcases h with h|h
  ·exact c.dom a h
  ·exact c.cd a h
theorem K0[Qc]{n:Nat}(h:eN mg n (pm fn) vs H Q E):eN mg n fn vs H Q E:=by
 obtain⟨S,P,o,J,M,r,s,k⟩:=h;refine⟨S,?_⟩;unfold pm at k;split at k
 ·rename_i R
  exact Mv s (Qg.rf R r) k
 ·obtain⟨t,y,e,k⟩:=k
  obtain⟨L,e1,e2⟩:=zA e;obtain⟨p,e3,e4⟩:=zA e2;obtain⟨t',Z,A⟩:=zA e4;split at A
  ·rename_i T
   cases A;have dm:∀a,(P a\/a∈o)->H a≠Á:=fun a h=>by
    rcases h with h|h
    ·exact s.dom a h
    ·exact s.cd a h
   refine⟨fun a=>P a\/a∈o,[],L,[],BG (fun v w t e r=>tB s 6 v w t e r) e1 r,Sim.nil dm (fun t g=>⟨(s.tb t g).1,fun z=>z.elim (s.tb t g).2 (s.tnc g)⟩),p.1,p.2,e3,fun B l C w d f r1=>?_⟩;obtain⟨m,em,nm⟩:=d.new;have D:∀a,H a≠Á->(∀O,H a≠À (.tbl O))->C a=H a:=fun a h=>d.keep a h (by simp)
   have F:=s.ckeep (fun a h=>(d.ext a (.inl h)).2) D;have u:∀a,P a->((B a\/a∈l)/\(a∈o->P a))/\C a=H a:=fun a h=>⟨⟨.inl (d.ext a (.inl h)).1,fun _=>h⟩,(d.ext a (.inl h)).2⟩
   refine k (fun a=>(B a\/a∈l)/\(a∈o->P a)) o C w ⟨u,⟨[],by simp,by simp⟩,fun a h _ z=>D a h z,fun a h=>?_,d.sm,d.fz⟩ (s.stay u F (fun a h n z=>n (z.2 h)) (fun a h=>?_) fun t g=>⟨(f.tb t g).1,fun z=>z.1.elim (f.tb t g).2 (f.tnc g)⟩) (RA.fl (fun a K W V=>⟨W,fun G=>?_⟩) T (tB f 6 _ _ _ Z r1))
   ·rcases h.1 with z|z
    ·rcases d.pn a z with z|z|z
     ·rcases z with z|z
      ·exact .inl z
      ·exact .inr (.inr z)
     ·exact .inr (.inl z)
     ·cases z
    ·rw[em]at z;exact .inr (.inl (nm a z))
   ·rcases h.1 with h|h
    ·exact f.dom a h
    ·exact f.cd a h
   ·obtain⟨j,I⟩:=yA G
    obtain⟨c,U⟩:∃c,M[j]?=À c:=⟨_,zF (by rw[<- s.len];exact(zB.mp I).1)⟩;have i:=s.cell j c a U I;have b:H a=À (.tup K):=by rw[<- F a G];exact V
    cases c with
    |lst xs=>obtain⟨_,_,z,_⟩:=i;rw[b]at z;cases z
    |al t=>exact i.1
    |dK Qb=>obtain⟨_,_,z,_⟩:=i;rw[b]at z;cases z
    |dT Qb=>obtain⟨_,_,z,_⟩:=i;rw[b]at z;cases z
    |ins c fs=>obtain⟨_,_,_,_,_,z,_⟩:=i;rw[b]at z;cases z
    |wk Qb=>obtain⟨_,_,_,z,_⟩:=i;rw[b]at z;cases z
  ·obtain⟨q,e7,Y⟩:=zA A
   obtain⟨B,d,f,r1⟩:=Jq s e7 r;exact Mv f r1 ⟨t,y,Y,fun P2 x H2 w X N r2=>k P2 x H2 w (d.trans X) N r2⟩
end
theorem FnOk.pm[Qc]{P:Ô}{w:Ü}{K:à}{mg:Í->Option Å}{base:é}{k:Nat}{f:Ç}{fd:Ĕ}{ps:List Í}{n:Nat}{fn:Fn}(F:FnOk P w K mg base f9 k f fd ps (eN ⟨K,mg⟩ n fn)):FnOk P w K mg base f9 k f fd ps (eN ⟨K,mg⟩ n (R.pm fn)) :=
 F.imp fun _ _ _ _ h=>K0 h
def run(n:Nat)(b:SF):Fn:=fun a c=>(b (a.map À++É (n-a.length) Á) c).bind fun o=>match o with
 |.rt v c=>À (v,c)
 |.nx _ c=>À (.non,c)
 |_=>Á
theorem Ew[Qc](h:Qg mg P H φ args vs):Qk mg P H φ (args.map À++É (N.length-args.length) Á) (L2.start N vs):=by
 have b:=h.length;unfold L2.start;refine⟨by simp[b],fun i v e=>?_⟩;have c:i<args.length:=by
  rcases yV i args.length with z|z
  ·exact z
  ·rw[z6 (by simpa using z),Ă]at e
   split at e<;>cases e
 rw[zN (by simpa using c),zR]at e;rw[zN (by rw[zH,<- b];exact c),zR];cases a:args[i]? with
 |none=>rw[a]at e;cases e
 |some x =>
  rw[a]at e;cases e;obtain⟨w,d,r1⟩:=h.get a;exact⟨w,by rw[d];rfl,r1⟩
def DU(fn:Fn)(g:AF):EF:=fun b a=>(g b a).bind fun p=>fn p.1 p.2
section
variable{X:Cx}{x:Í}{p pos:ĥ}{e o:Î}{es:List Î}{k:Nat}{f:Ç}{fd:Ĕ}{ps:List Í}{fn:Fn}{g:AF}{h:EF}
theorem N9[Qc]{n:Nat}(m:∀sl st xs st',g sl st=À (xs,st')->xs.length=n)(q:rE mg (DU fn g) σ H Q):wQ (eN mg n fn) [] E (rA mg g) σ H Q:=by
 refine e7 q fun P u sl st j s k=>?_
 refine i7 j s ?_;obtain⟨a,st',f,q⟩:=k.bind (Ra:=Qg);refine⟨a,st',f,fun r d t b o i r1=>?_⟩;obtain⟨p,c,e,xs,v,h,r2,l⟩:=q r d t b o i r1;rw[û];exact⟨by rw[<- r1.length];exact m _ _ _ _ f,p,c,xs,e,r2,h,l⟩
theorem EY[Qc](F:FnOk X.prog X.w X.K X.mg X.base f9 k f fd ps (eN X.gm ps.length fn))(b:Room k X.A)(i:Gl X x)(d:X.mg x=À (.ref f))(h:Ĺ X.K (.ref f)=Ã)(j:Binds X.K fd ps [])
  (l:QA X (e::es) g) (c:∀sl st xs st',g sl st=À (xs,st')->xs.length=ps.length) (a:(x==("__debug__":Í))=Ä) (he:Ë (e::es) X.env=(Ä,eval e X.env)::Ë es X.env) (hpl:(ā pos (Ë es X.env)).any (·.1)=Ä) :
  QE X (.Call (.Name x p) (e::es) [] pos) (DU fn g):=PE_imp (Fj (E:=E0) F b i d h j .nil o0 l a he hpl) fun _ _ _ q=>N9 c q
theorem BR[Qc](F:FnOk X.prog X.w X.K X.mg X.base f9 k f fd ps (eN X.gm ps.length fn))(e:Room k X.A)(j:Gl X x)(h:X.mg x=À (.ref f))(i:Ĺ X.K (.ref f)=Ã)(l:Binds X.K fd ps [])
  (g:ps.length=0) (a:(x==("__debug__":Í))=Ä):QE X (.Call (.Name x p) [] [] pos) (DU fn fB):=PE_imp (B9 (E:=E0) F e j h i l .nil o0 a) fun m H Q q=>by
 refine e7 q fun P b n c o s d=>?_
 exact⟨by simp[g],P,b,[],c,bU,s,d⟩
def j7(st:aa)(c:Í):AV->Option (List (Í×AV))
 |.ref k=>match st[k]? with
  |some (.ins c' fs)=>if c'=c then À fs else Á
  |_=>Á
 |_=>Á
theorem pj(h:KVR mg P H φ fs ws)(f:Í):(fs.lookup f=Á->ws.lookup f=Á)/\∀v,fs.lookup f=À v->∃w,ws.lookup f=À w/\RA mg P H φ v w:=by
 induction fs generalizing ws with
 |nil =>
  have:ws=[]:=by simpa using h.1.symm
  subst this;exact⟨fun _=>rfl,fun v e=>by cases e⟩
 |cons p fs k =>
  cases ws with
  |nil=>exact absurd h.1 (by simp)
  |cons q ws =>
   obtain⟨j,g⟩:=h;rw[zO,zO]at j g;injection j with h3 h4;simp only[Qg]at g;obtain⟨v,n,m,i,l⟩:=g;injection m with h8 h9;subst h8;subst h9;obtain⟨a,b⟩:=p;obtain⟨c,d⟩:=q;dsimp only at h3 i;subst h3;rw[yP,yP];cases o:f==a with
   |true=>exact⟨fun z=>(by cases z),fun v z=>(by cases z;exact⟨d,rfl,i⟩)⟩
   |false=>exact k ⟨h4,l⟩
theorem oE[Qc]{mg:Gm}{P:Pr}{φ:List Ç}{st:aa}{H:Hp}{c:Í}{v:AV}{w:V}{fs:List (Í×AV)}(s:Sim mg P φ st H)(h:j7 st c v=À fs)(r:RA mg P H φ v w) :
  ∃k a C dx ws,v=.ref k/\φ[k]?=À a/\¬P a/\w=.ref a/\mg.mg c=À (.ref C)/\H a=À (.ins C dx ws)/\KVR mg P H φ fs ws:=by
 cases v with
 |ref k =>
  simp only[j7]at h;split at h
  ·rename_i o m f
   split at h
   ·rename_i g
    cases h;subst g;simp only[RA]at r;obtain⟨a,d,rfl⟩:=r;obtain⟨p,b,n⟩:=s.at f;rw[d]at b;cases b;obtain⟨e,C,dx,ws,l,j,i⟩:=n;exact⟨k,a,C,dx,ws,rfl,d,e,rfl,l,j,i⟩
   ·cases h
  ·cases h
 |_=>cases h
def DT(c m:Í)(fn:Fn)(h:EF)(g:AF):EF:=fun a b=>(h a b).bind fun p=>(j7 p.2 c p.1).bind fun fs=>if(fs.lookup m).isNone=Ã then(g a p.2).bind fun q=>fn (p.1::q.1) q.2 else Á
theorem IB[Qc]{n:Nat}(K:mg.mg c=À (.ref C))(I:∀sl st xs st',g sl st=À (xs,st')->xs.length+1=n)(q:rE mg (DT c m fn h g) σ H Q):wP C m (eN mg n fn) [] E (rE mg h) (rA mg g) σ H Q:=by
 refine e7 q fun P φ sl st o s G=>?_
 obtain⟨v,st',e,k⟩:=G;obtain⟨p,T,S⟩:=zA e;obtain⟨fs,R,i⟩:=zA S;split at i
 ·rename_i J
  obtain⟨q,x,O⟩:=zA i;refine i7 o s ⟨p.1,p.2,T,fun Y f H1 w u l r1=>?_⟩;obtain⟨j,a,C',U,y,h1,h2,h3,rfl,r,M,L⟩:=oE l R r1;rw[K]at r;cases r;refine⟨a,U,y,rfl,M,(pj L m).1 (by simpa using J),Y,f,sl,p.2,o.frm u,l,q.1,q.2,x,fun X d H2 A t D r2=>?_⟩;show eN mg n fn (V.ref a::(A++[])) H2 Q E;rw[û];exact⟨by rw[yZ,<- r2.length];exact I _ _ _ _ x,X,d,p.1::q.1,q.2,bw (r1.frm t) r2,D,v,st',O,fun W b Z z N B F=>k W b Z z ((u.trans t).trans N) B F⟩
 ·cases i
theorem EW[Qc](i:QE X o h)(cl:Cls X.K C)(r:X.mg c=À (.ref C))(l:lC X.K C m f)(F:FnOk X.prog X.w X.K X.mg X.base f9 k f fd ps (eN X.gm ps.length fn))(d:Room k X.A)(n:Binds X.K fd ps [])
  (p:QA X (e::es) g) (j:∀sl st xs st',g sl st=À (xs,st')->xs.length+1=ps.length) (a:Ë (e::es) X.env=(Ä,eval e X.env)::Ë es X.env) (hpl:(ā pos (Ë es X.env)).any (·.1)=Ä)
  (b:eval (.Call (.Attribute o m apos) (e::es) [] pos) X.env=(do
   let ov <- eval o X.env
   ŕ apos.atName
   let(f,first) <- holding [ov] (Ť ov m pl)
   Ū pos f first (ā pos (Ë (e::es) X.env)) (Ň pos (ē [] X.env)))):QE X (.Call (.Attribute o m apos) (e::es) [] pos) (DT c m fn h g) :=
 PE_imp (Ff (E:=E0) i cl l F d n .nil o0 p a hpl b) fun _ _ _ q=>IB r j q
theorem BQ[Qc](J:QE X o h)(cl:Cls X.K C)(N:X.mg c=À (.ref C))(L:lC X.K C m f)(F:FnOk X.prog X.w X.K X.mg X.base f9 k f fd ps (eN X.gm ps.length fn))(I:Room k X.A)(M:Binds X.K fd ps [])
  (K:ps.length=1)
  (G:eval (.Call (.Attribute o m apos) [] [] pos) X.env=(do
   let ov <- eval o X.env
   ŕ apos.atName
   let(f,first) <- holding [ov] (Ť ov m pl)
   Ū pos f first (ā pos (Ë [] X.env)) (Ň pos (ē [] X.env)))):QE X (.Call (.Attribute o m apos) [] [] pos) (DT c m fn h fB) :=
 PE_imp (B4 (E:=E0) J cl L F I M .nil o0 G) fun σ H Q q=>by
  obtain⟨P,φ,x,t,B,s,v,b,e,k⟩:=IB (E:=E0) (C:=C) N (g:=fB) (n:=1) (fun x t l b e=>by cases e;rfl) q;refine i7 B s ⟨v,b,e,fun Z i j w U z r1=>?_⟩;obtain⟨a,W,fs,T,S,R,O⟩:=k Z i j w U z r1;refine⟨a,W,fs,T,S,R,?_⟩;obtain⟨Y,d,u,r,A,y,l,p,V,D⟩:=O;cases V
  have:=D Y d j [] Frm.refl y bU
  rw[K];exact this
def AX(c:Í)(fn:Fn)(g:AF):EF:=fun b a=>(g b a).bind fun p=>(fn (.ref p.2.length::p.1) (p.2++[.ins c []])).bind fun q=>match q.1 with
 |.non=>À (.ref p.2.length,q.2)
 |_=>Á
theorem Fp[Qc]{mg:Gm}{P:Pr}{φ:List Ç}{st:aa}{H:Hp}{c:Í}{C x b:Ç}(s:Sim mg P φ st H)(m:mg.mg c=À (.ref C))(l:H x=Á)(hd:H b=Á)(ne:b≠x) :
  Frm P φ H P (φ++[x]) (ai (ai H b (.own x)) x (.ins C b []))/\Sim mg P (φ++[x]) (st++[.ins c []]) (ai (ai H b (.own x)) x (.ins C b [])):=by
 have f:∀a,H a≠Á->a≠b:=fun a h e=>h (by rw[e];exact hd)
 have g:Frm P φ H P φ (ai H b (.own x)):=⟨fun a h=>⟨h,ad (f a (s.dom a h))⟩,⟨[],by simp,by simp⟩,fun a h _ _=>ad (f a h),fun a h=>.inl h,fun a h=>by rw[ad (f a h)];exact h,fun a o u h=>by rw[ad (bB h hd)];exact h⟩;have i:Sim mg P φ st (ai H b (.own x)):=s.stay g.ext (fun a h=>ad (f a (s.cd a h))) (fun _ _ h=>h) (fun a h=>g.sm a (s.dom a h)) fun t j=>⟨(s.tb t j).1.new hd,(s.tb t j).2⟩
 have d:ai H b (.own x) x=Á:=by rw[ad (æ ne)];exact l
 obtain⟨n,k⟩:=oz (c:=.ins c []) (o:=.ins C b []) i d ⟨fun z=>i.dom x z d,C,b,[],m,aF,rfl,bU⟩;exact⟨g.trans n,k⟩
theorem NJ[Qc]{mg:Gm}{c:Í}{C:Ç}{n:Nat}{E:XK}{σ:St}{H:Hp}{Q:VK}(D:mg.mg c=À (.ref C))(B:∀sl st xs st',g sl st=À (xs,st')->xs.length+1=n)(q:rE mg (AX c fn g) σ H Q):De C (eN mg n fn) [] E (rA mg g) σ H Q:=by
 refine e7 q fun P M sl st y s z=>?_
 obtain⟨v,st',e,k⟩:=z;obtain⟨p,m,I⟩:=zA e;obtain⟨q,G,b⟩:=zA I;refine i7 y s ⟨p.1,p.2,m,fun r a L N F h r1=>fun x o A hd ne=>?_⟩;obtain⟨l,u⟩:=Fp h D A hd ne;have rx:RA mg r (ai (ai L o (.own x)) x (.ins C o [])) (a++[x]) (.ref p.2.length) (.ref x):=by simp only[RA];exact⟨x,by rw[<- h.len];simp,rfl⟩
 rw[û];refine⟨by rw[yZ,<- r1.length];exact B _ _ _ _ m,r,a++[x],_,_,bw rx (r1.frm l),u,q.1,q.2,G,fun J d K w j t f=>?_⟩;cases i:q.1 with
 |non =>
  rw[i]at b f;cases b;simp only[RA]at f;exact⟨f,k J d K (.ref x) ((F.trans l).trans j) t (rx.frm j)⟩
 |_=>rw[i]at b;cases b
theorem Hv[Qc](M:Mk X.K C f)(F:FnOk X.prog X.w X.K X.mg X.base f9 k f fd ps (eN X.gm ps.length fn))(d:Room (k+1) X.A)(i:Gl X c)(b:X.mg c=À (.ref C))(j:Binds X.K fd ps [])
  (l:QA X (e::es) g) (h:∀sl st xs st',g sl st=À (xs,st')->xs.length+1=ps.length) (a:(c==("__debug__":Í))=Ä) (he:Ë (e::es) X.env=(Ä,eval e X.env)::Ë es X.env) (hpl:(ā pos (Ë es X.env)).any (·.1)=Ä) :
  QE X (.Call (.Name c p) (e::es) [] pos) (AX c fn g):=PE_imp (Fg (E:=E0) M F d i b j .nil o0 l a he hpl) fun _ _ _ q=>NJ b h q
def MR(c fl:Í)(h:EF):EF:=fun b a=>(h b a).bind fun p=>(j7 p.2 c p.1).bind fun fs=>(fs.lookup fl).map fun v=>(v,p.2)
theorem Hw[Qc](y:QE X o h)(cl:Cls X.K C)(A:X.mg c=À (.ref C))(u:NoAttr X.K C fl)(z:Ě o fl X.env (eval o X.env)=eval o X.env):QE X (.Attribute o fl apos) (MR c fl h) :=
 PE_imp (HZ y z) fun S H Q f=>by
  refine e7 f fun P R U T q s r=>?_
  obtain⟨v,n,e,k⟩:=r;obtain⟨p,L,K⟩:=zA e;obtain⟨fs,J,I⟩:=zA K;obtain⟨t,G,F⟩:=zE.mp I;cases F;refine i7 q s ⟨p.1,p.2,L,fun N b O w E g r1=>?_⟩;obtain⟨j,a,l,M,m,Y,W,V,rfl,i,D,B⟩:=oE g J r1;have:l=C:=by rw[show X.gm.mg c=X.mg c from rfl,A]at i;cases i;rfl
  subst this;obtain⟨w,x,d⟩:=(pj B fl).2 _ G;exact⟨a,l,M,m,w,rfl,D,cl,u,x,k N b O w E g d⟩
noncomputable def jM(f:Í)(v:AV):List (Í×AV)->List (Í×AV)
 |[]=>[(f,v)]
 |(g,x)::r=>if g=f then(g,v)::r else(g,x)::jM f v r
theorem zd{mg:Gm}{P:Pr}{H:Hp}{φ:List Ç}{f:Í}{v:AV}{w:V}(r:RA mg P H φ v w):∀{fs:List (Í×AV)}{ws:List (Í×V)},KVR mg P H φ fs ws->KVR mg P H φ (jM f v fs) (fj f w ws):=by
 intro fs
 induction fs with
 |nil =>
  intro ws h;have:ws=[]:=by simpa using h.1.symm
  subst this;exact⟨rfl,bw r bU⟩
 |cons p fs m =>
  intro ws h;cases ws with
  |nil=>exact absurd h.1 (by simp)
  |cons q ws =>
   obtain⟨l,g⟩:=h;rw[zO,zO]at l g;injection l with h3 h4;simp only[Qg]at g;obtain⟨u,o,n,k,j⟩:=g;injection n with h8 h9;subst h8;subst h9;obtain⟨a,b⟩:=p;obtain⟨c,d⟩:=q;dsimp only at h3 k;subst h3;have i:=m (ws:=ws) ⟨h4,j⟩;unfold jM fj;by_cases e:a=f
   ·rw[yJ e,yJ e]
    exact⟨by rw[zO,zO,h4],bw r j⟩
   ·rw[yI e,yI e]
    exact⟨by rw[zO,zO,i.1],bw k i.2⟩
def yp(c fl:Í)(h f:EF):SF:=fun a b=>(f a b).bind fun p=>(h a p.2).bind fun q=>match q.1 with
 |.ref k=>(j7 q.2 c (.ref k)).bind fun fs=>if Þ fs.length 900=Ã then À (.nx a (q.2.set k (.ins c (jM fl p.1 fs)))) else Á
 |_=>Á
theorem Hh[Qc](R:QE X o h)(Q:QE X e f')(cl:Cls X.K C)(y:X.mg c=À (.ref C))(N:NoAttr X.K C fl)(hs:Ľ e (À (.Attribute o fl pos')) pos.line X.env=pure Ä):QS X (.Assign [.Attribute o fl pos'] e pos) (yp c fl h f') :=
 PS_imp (HG R Q hs) fun D G H l=>by
  refine e7 l fun P φ J st k s M=>?_
  obtain⟨out,W,q⟩:=M;obtain⟨p,e1,e2⟩:=zA W;obtain⟨r,Z,v⟩:=zA e2;split at v
  ·rename_i j T
   obtain⟨fs,Y,u⟩:=zA v;split at u
   ·rename_i S
    cases u;refine i7 k s ⟨p.1,p.2,e1,fun P1 g H1 I t L r1=>⟨P1,g,J,p.2,k.frm t,L,r.1,r.2,Z,fun P2 f H2 w2 n x r2=>?_⟩⟩;rw[T]at r2;obtain⟨j',a,d,w,i,V,U,m,rfl,E,B,A⟩:=oE x Y r2;cases V;have:d=C:=by rw[show X.gm.mg c=X.mg c from rfl,y]at E;cases E;rfl
    subst this;have O:i.length<1000:=by
     have z:=congrArg ŀ A.1;rw[zH,zH]at z
     have:=zS S
     lia
    obtain⟨F,K⟩:=jj (c:=.ins c (jM fl p.1 fs)) (o:=.ins d w (fj fl I i)) x U m ⟨m,d,w,_,y,aF,(zd (r1.frm n) A).mono (fun b h=>⟨h,ad fun e=>m (e▸h)⟩) fun _ _ z=>z⟩ (fun _ _ z=>by rw[B]at z;cases z);exact⟨a,d,w,i,rfl,B,cl,N,O,q P2 f _ G ((t.trans n).trans F) K (((k.frm t).frm n).frm F)⟩
   ·cases u
  ·cases v
end
open DD (obj_list obj_tup minL minL_eq cnt_vals)
abbrev BF:=List AV->aa->Option (AV×aa)
def rB[Qc](mg:Gm)(k:BF):List V->Hp->VK->Prop:=fun d H Q=>∃P a c b,Sim mg P a c H/\Qg mg P H a b d/\KG mg RA P a H (k b c) Q
def wB(k:BF)(g:AF):EF:=fun b a=>(g b a).bind fun p=>k p.1 p.2
theorem JQ[Qc](q:rE mg (wB k g) σ H Q):GO (rB mg k) (rA mg g) σ H Q:=by
 refine e7 q fun P v x w l s m=>?_
 refine i7 l s ?_;obtain⟨a,f,p,q⟩:=m.bind (Ra:=Qg);refine⟨a,f,p,fun t d u b o j r1=>?_⟩;obtain⟨r,c,e,h,y,i,r2,n⟩:=q t d u b o j r1;exact⟨r,c,e,h,i,r2,n⟩
def cF(h:aa->List AV->Option AV):BF:=fun b a=>(h a b).map fun z=>(z,a)
section
variable{X:Cx}{x:Í}{p pos:ĥ}{e o a:Î}{es:List Î}{g:AF}{k:BF}{bid T:String}
theorem oZ[Qc](h:dS X (.builtin bid) (rB X.gm k))(f:Gl X x)(d:X.mg x=Á)(b:ò x=À (.builtin bid))(i:QA X (e::es) g)(c:x≠"__name__")(a:(x==("__debug__":Í))=Ä)
  (he:Ë (e::es) X.env=(Ä,eval e X.env)::Ë es X.env) (hpl:(ā pos (Ë es X.env)).any (·.1)=Ä):QE X (.Call (.Name x p) (e::es) [] pos) (wB k g) :=
 PE_imp (B8 h f d b i c a he hpl) fun _ _ _ q=>JQ q
theorem Qg.one{mg:Gm}{P:Pr}{H:Hp}{φ:List Ç}{x:AV}{vs:List V}(h:Qg mg P H φ [x] vs):∃v,vs=[v]/\RA mg P H φ x v:=by
 simp only[Qg]at h;obtain⟨v,a,rfl,r,rfl⟩:=h;exact⟨v,rfl,r⟩
theorem Qg.two{mg:Gm}{P:Pr}{H:Hp}{φ:List Ç}{x y:AV}{vs:List V}(h:Qg mg P H φ [x,y] vs):∃v w,vs=[v,w]/\RA mg P H φ x v/\RA mg P H φ y w:=by
 simp only[Qg]at h;obtain⟨v,b,rfl,r,w,c,rfl,a,rfl⟩:=h;exact⟨v,w,rfl,r,a⟩
theorem xS(h:dS X f r)(i:∀xs H Q,r' xs H Q->r xs H Q):dS X f r':=fun e s a H xs b Q I c d=>h e s a H xs b Q I c (i xs H Q d)
def eO(st:aa):List AV->Option AV
 |[v]=>match cj st v with
  |some xs=>À (.int xs.length)
  |none=>match jL st v with
   |some xs=>À (.int xs.length)
   |none=>match v with
    |.str x=>if fE x.length=Ã then À (.int x.length) else Á
    |v=>match jW st v with
     |some Qb=>À (.int Qb.length)
     |none=>(nZ st v).map fun Qb=>.int Qb.length
 |_=>Á
theorem xH:dS X (.builtin "len") (fun xs H Q=>∃a Qb,xs=[V.ref a]/\H a=À (.dK Qb)/\Q (.int Qb.length) H):=by
 intro k s i H xs j Q I r h;obtain⟨a,Qb,rfl,f,q⟩:=h;obtain⟨u,rfl,d⟩:=gX r;cases d;obtain⟨z,hd,c,b,g⟩:=DK I.Qi f;have e:Qb.length=c.length:=Paired.length b;have hz:Ì=16777216:=Ϣ;exact call_len_dict hd g oM ⟨.int _,H,I.tok _,⟨_,by rw[e]⟩,q⟩
theorem L0[Qc]:dS X (.builtin "len") (rB X.gm (cF eO)):=by
 rintro l s d H m f Q I g ⟨P,J,E,K,o,r,B⟩;obtain⟨z,e,k⟩:=B.map;clear B;unfold eO at e;split at e
 ·rename_i v
  obtain⟨w,F,A⟩:=r.one;clear r;subst F;have r:=A;clear A;have au:∀n:Nat,z=.int n->Q (.int n) H:=fun n h=>by subst h;exact k.pure o (by simp only[RA])
  split at e
  ·rename_i D u
   cases e;obtain⟨a,m,rfl,y,b⟩:=r.ls o u;exact mD l s d H _ f Q I g ⟨a,m,rfl,.inl y,by rw[<- b.length];exact au _ rfl⟩
  ·split at e
   ·rename_i D u
    cases e;obtain⟨a,m,rfl,y,b⟩:=r.tp o u;exact mD l s d H _ f Q I g ⟨a,m,rfl,.inr (.inl (.inl y)),by rw[<- b.length];exact au _ rfl⟩
   ·cases v with
    |str x =>
     dsimp only at e;split at e
     ·rename_i hz
      cases e;simp only[RA]at r;subst r;exact u7 l s d H _ f Q I g ⟨x,rfl,ku hz,au _ rfl⟩
     ·cases e
    |ref j =>
     simp only[RA]at r;obtain⟨a,G,rfl⟩:=r;dsimp only[jW,nZ]at e;cases t:E[j]? with
     |none=>rw[t]at e;cases e
     |some c =>
      rw[t]at e;obtain⟨L,i,C⟩:=o.at t;rw[G]at i;cases i;cases c with
      |dK Qb =>
       cases e;obtain⟨_,p,b,q⟩:=C
       have:=congrArg ŀ q.1
       rw[zH,zH]at this;exact xH l s d H _ f Q I g ⟨a,p,rfl,b,by rw[<- this];exact au _ rfl⟩
      |dT Qb =>
       cases e;obtain⟨_,p,b,q⟩:=C
       have:=congrArg ŀ q.1
       rw[zH,zH]at this;exact AO l s d H _ f Q I g ⟨a,p,rfl,b,by rw[<- this];exact au _ rfl⟩
      |_=>cases e
    |_=>cases e
 ·cases e
def mX:List AV->Option (List Int):=bC fun x=>match x with
 |.int i=>À i
 |_=>Á
theorem Av(h:mX xs=À ns):xs=ns.map .int:=by
 unfold mX at h
 induction xs generalizing ns with
 |nil=>cases h;rfl
 |cons x xs b =>
  simp only [bC] at h;obtain ⟨y,a,e⟩:=zA h;obtain ⟨f,d,c⟩:=zE.mp e;subst c;cases x <;> first | (cases a;done) | skip
  cases a;rw[b d];rfl
def lsI(st:aa)(v:AV):Option (List Int):=(cj st v).bind mX
theorem RA.lsI[Qc]{mg:Gm}{P:Pr}{H:Hp}{φ:List Ç}{st:aa}{v:AV}{w:V}{ns:List Int}(s:Sim mg P φ st H)(r:RA mg P H φ v w)(h:R.lsI st v=À ns):∃a,w=.ref a/\cu mg.K H a (ns.map .int):=by
 obtain⟨f,e,d⟩:=zA h;obtain⟨a,g,rfl,b,c⟩:=r.ls s e
 have:=Av d
 subst this;rw[c.ints]at b;exact⟨a,rfl,b⟩
def ow(st:aa):List AV->Option AV
 |[v]=>(lsI st v).map fun ns=>.int ns.sum
 |_=>Á
theorem LX[Qc](t:X.calm=Ã):dS X (.builtin "sum") (rB X.gm (cF ow)):=by
 rintro K s C H D E Q I m ⟨P,B,G,xs,f,r,h⟩;obtain⟨z,e,k⟩:=h.map;clear h;unfold ow at e;split at e
 ·rename_i v
  obtain⟨w,x,g⟩:=r.one;clear r;subst x;have r:=g;clear g;obtain⟨c,y,rfl⟩:=zE.mp e;obtain⟨a,rfl,A⟩:=r.lsI f y;obtain⟨u,rfl,n⟩:=gX m;cases n;obtain⟨d,o,p,_⟩:=I.list A;have j:ϒ d c:=k7 o;obtain⟨b,i⟩:=j.allInts.items;refine sum_intListG (xs:=b) (I.ok.hd t) (by rw[<- i];exact p.isList) fun J F l q=>⟨.int c.sum,H,I.kept q,?_,k.pure f (by simp only[RA])⟩
  have:(preSum (H! b) b.size)=c.sum:=by
   rw[preSum_eq,Ź (by simp),<- Q0,<- i];rw[show d.toArray.toList=d from rfl,j.numsOf]
  rw[this];exact⟨l,rfl⟩
 ·cases e
def lB(_:aa):List AV->Option AV
 |[.int i]=>À (.int (if i<0 then -i else i))
 |_=>Á
theorem L1[Qc]:dS X (.builtin "abs") (rB X.gm (cF lB)):=xS CO fun i H Q a=>by
 obtain⟨P,g,j,h,c,r,d⟩:=a;obtain⟨z,e,k⟩:=d.map;unfold lB at e;split at e
 ·cases e
  obtain⟨w,f,b⟩:=r.one;clear r;subst f;have r:=b;clear b;simp only[RA]at r;exact⟨_,by rw[r],k.pure c (by simp only[RA])⟩
 ·cases e
def tS(st:aa):List AV->Option AV
 |[.int i,.int j]=>À (.int (if j<i then j else i))
 |[v]=>(lsI st v).bind fun ns=>(minL ns).map .int
 |_=>Á
noncomputable def IC:List Int->Option Int
 |[]=>Á
 |x::xs=>À (xs.foldl (fun a b=>if a<b then b else a) x)
theorem NM:∀(xs:List Int)(x:Int),(xs.foldl (fun a b=>if a<b then b else a) x∈x::xs)/\∀a∈x::xs,a<=xs.foldl (fun a b=>if a<b then b else a) x:=by
 intro xs
 induction xs with
 |nil=>intro x;exact⟨by simp,by simp⟩
 |cons y xs f =>
  intro x;rw[Õ];obtain⟨g,e⟩:=f (if x<y then y else x);refine⟨?_,fun a c=>?_⟩
  ·rcases zT.mp g with h|h
   ·rw[h];split<;>simp
   ·exact zQ _ (zQ _ h)
  ·have d:=e _ z7
   rcases zT.mp c with rfl|c
   ·refine ĵ ?_ d;split<;>lia
   ·rcases zT.mp c with rfl|c
    ·refine ĵ ?_ d;split<;>lia
    ·exact e a (zQ _ c)
theorem Fy{m x:Int}(h:IC ns=À m)(d:x∈ns)(c:∀a∈ns,a<=x):x=m:=by
 cases ns with
 |nil=>cases h
 |cons y ns =>
  obtain⟨a,b⟩:=NM ns y;have e:ns.foldl (fun a b=>if a<b then b else a) y=m:=by injection h
  rw[e]at a b
  have:=c m a
  have:=b x d
  lia
def qx(st:aa):List AV->Option AV
 |[.int i,.int j]=>À (.int (if j > i then j else i))
 |[v]=>(lsI st v).bind fun ns=>(IC ns).map .int
 |_=>Á
theorem LY[Qc](C:X.calm=Ã):dS X (.builtin "min") (rB X.gm (cF tS)):=by
 rintro U s E H Y F Q I p ⟨P,V,st,xs,h,r,x⟩;obtain⟨z,e,k⟩:=x.map;clear x;unfold tS at e;split at e
 ·rename_i i j
  cases e;obtain⟨w,W,o,q,d⟩:=r.two;clear r;subst o;have r:=q;have g:=d;clear q d;simp only[RA]at r g;subst r;subst g;exact AM C U s E H _ F Q I p ⟨i,j,rfl,k.pure h (by simp only[RA])⟩
 ·rename_i v
  obtain⟨w,o,d⟩:=r.one;clear r;subst o;have r:=d;clear d;obtain⟨f,R,O⟩:=zA e;obtain⟨m,A,rfl⟩:=zE.mp O;obtain⟨a,rfl,S⟩:=r.lsI h R;obtain⟨u,rfl,G⟩:=gX p;cases G;obtain⟨T,g,J,_⟩:=I.list S;have B:ϒ T f:=k7 g;obtain⟨c,y⟩:=B.allInts.items;have b:f=c.toList.map (·.1):=by rw[<- B.numsOf,<- Q0,<- y]
  have l:0<c.size:=by
   cases f with
   |nil=>cases A
   |cons n f =>
    have:(n::f).length=c.size:=by rw[b,zH,ø]
    simp at this;lia
  refine min_intList (xs:=c) (I.ok.hd C) (by rw[<- y];exact J.isList) l fun v h' Z K L=>?_
  obtain⟨t,rfl⟩:=intItems_at K;obtain⟨h1,N⟩:=argBest_lt (H! c) (c.size-1);refine⟨.int m,H,I.kept L,?_,k.pure h (by simp only[RA])⟩;have e:H! c (argBest (fun i j=>decide (H! c i<H! c j)) (c.size-1))=m:=by
   refine minL_eq A ?_ fun a D=>?_
   ·rw[b,U9];exact getD_mem (by rw[zH,ø];lia)
   ·rw[b]at D
    obtain⟨j,M,rfl⟩:=mem_getD D;rw[zH,ø]at M;rw[<- U9];exact N j oM
  exact⟨t,by rw[e]⟩
 ·cases e
theorem LZ[Qc](C:X.calm=Ã):dS X (.builtin "max") (rB X.gm (cF qx)):=by
 rintro U s E H Y F Q I p ⟨P,V,st,xs,h,r,x⟩;obtain⟨z,e,k⟩:=x.map;clear x;unfold qx at e;split at e
 ·rename_i i j
  cases e;obtain⟨w,W,o,q,d⟩:=r.two;clear r;subst o;have r:=q;have g:=d;clear q d;simp only[RA]at r g;subst r;subst g;exact AN C U s E H _ F Q I p ⟨i,j,rfl,k.pure h (by simp only[RA])⟩
 ·rename_i v
  obtain⟨w,o,d⟩:=r.one;clear r;subst o;have r:=d;clear d;obtain⟨f,R,O⟩:=zA e;obtain⟨m,A,rfl⟩:=zE.mp O;obtain⟨a,rfl,S⟩:=r.lsI h R;obtain⟨u,rfl,G⟩:=gX p;cases G;obtain⟨T,g,J,_⟩:=I.list S;have B:ϒ T f:=k7 g;obtain⟨c,y⟩:=B.allInts.items;have b:f=c.toList.map (·.1):=by rw[<- B.numsOf,<- Q0,<- y]
  have l:0<c.size:=by
   cases f with
   |nil=>cases A
   |cons n f =>
    have:(n::f).length=c.size:=by rw[b,zH,ø]
    simp at this;lia
  refine max_intList (xs:=c) (I.ok.hd C) (by rw[<- y];exact J.isList) l fun v h' Z K L=>?_
  obtain⟨t,rfl⟩:=intItems_at K;obtain⟨h1,N⟩:=argBest_gt (H! c) (c.size-1);refine⟨.int m,H,I.kept L,?_,k.pure h (by simp only[RA])⟩;have e:H! c (argBest (fun i j=>decide (H! c i > H! c j)) (c.size-1))=m:=by
   refine Fy A ?_ fun a D=>?_
   ·rw[b,U9];exact getD_mem (by rw[zH,ø];lia)
   ·rw[b]at D
    obtain⟨j,M,rfl⟩:=mem_getD D;rw[zH,ø]at M;rw[<- U9];exact N j oM
  exact⟨t,by rw[e]⟩
 ·cases e
end
open DD (reads_each)
abbrev MF:=AV->List AV->aa->Option (AV×aa)
def rM[Qc](mg:Gm)(k:MF):V->List V->Hp->VK->Prop:=fun x e H Q=>∃P b d a c,Sim mg P b d H/\RA mg P H b a x/\Qg mg P H b c e/\KG mg RA P b H (k a c d) Q
def sY(T:String)(st:aa)(v:AV):Bool:=match v with
 |.str _=>T=="str"
 |.int _=>T=="int"
 |v=>if T="list" then(cj st v).isSome else if T="dict" then(jW st v).isSome||(nZ st v).isSome else Ä
def mJ(T:String)(k:MF)(f:EF)(g:AF):EF:=fun a b=>(f a b).bind fun p=>if sY T p.2 p.1=Ã then(g a p.2).bind fun q=>k p.1 q.1 q.2 else Á
section
variable{X:Cx}{e o:Î}{es:List Î}{f:EF}{g:AF}{k:MF}{name:Í}{apos cpos:ĥ}{T mid:String}
theorem Em[Qc]{P:Pr}{φ:List Ç}{st:aa}{H:Hp}{v:AV}{w:V}(s:Sim X.gm P φ st H)(r:RA X.gm P H φ v w)(h:sY T st v=Ã):xW X.K T w H:=by
 have k:(if T="list" then(cj st v).isSome else if T="dict" then(jW st v).isSome||(nZ st v).isSome else Ä)=Ã->xW X.K T w H:=fun h=>by
  split at h
  ·rename_i d
   obtain⟨p,e⟩:=Ķ.mp h;obtain⟨a,m,rfl,o,_⟩:=r.ls s e;exact .inl ⟨d,m,o⟩
  ·split at h
   ·rename_i d
    cases v with
    |ref j =>
     simp only[RA]at r;obtain⟨a,n,rfl⟩:=r;simp only[jW,nZ]at h;cases i:st[j]? with
     |none=>rw[i]at h;simp at h
     |some c =>
      rw[i]at h;obtain⟨q,b,l⟩:=s.at i;rw[n]at b;cases b;cases c with
      |dK Qb=>obtain⟨_,f,g,_⟩:=l;exact .inr (.inr (.inl ⟨d,.inl ⟨f,g⟩⟩))
      |dT Qb=>obtain⟨_,f,g,_⟩:=l;exact .inr (.inr (.inl ⟨d,.inr ⟨f,g⟩⟩))
      |_=>simp at h
    |_=>simp[jW,nZ]at h
   ·cases h
 unfold sY at h;cases v with
 |str x=>simp only[RA]at r;subst r;exact yL h
 |int x=>simp only[RA]at r;subst r;exact yL h
 |_=>exact k h
theorem Iq[Qc](q:rE X.gm (mJ T k f g) σ H Q):Ml X.K T (rM X.gm k) (rE X.gm f) (rA X.gm g) σ H Q:=by
 refine e7 q fun P J n L i s x=>?_
 obtain⟨v,d,ev,y⟩:=x;obtain⟨p,D,e⟩:=zA ev;split at e
 ·rename_i z
  obtain⟨r,C,B⟩:=zA e;exact i7 i s ⟨p.1,p.2,D,fun G c N w l h r1=>⟨Em h r1 z,G,c,n,p.2,i.frm l,h,r.1,r.2,C,fun F b M K j t r2=>⟨F,b,r.2,p.1,r.1,t,r1.frm j,r2,v,d,B,fun E a I m A o u=>y E a I m ((l.trans j).trans A) o u⟩⟩⟩
 ·cases e
theorem sC[Qc](j:K? T)(d:Slot T name mid)(i:typeOf (.builtin mid)=pure (.type "method_descriptor"))(m:mL X mid (rM X.gm k))(l:QE X o f)(n:QA X (e::es) g)
  (c:Ě o name X.env (eval o X.env)=eval o X.env)
  (h:((ā cpos (Ë (e::es) X.env)).all (fun x=>!x.1)&&(Ň cpos (ē [] X.env)).all (fun x=>x.1.isSome)
   && decide ((e::es).length+([]:List Ŋ).length+(if([]:List Ŋ).isEmpty then 0 else 1)<30))=Ã)
  (b:(apos.endLine==cpos.line)=Ã) (hs:Ë (e::es) X.env=(Ä,eval e X.env)::Ë es X.env) (a:(ā cpos (Ë es X.env)).any (·.1)=Ä) :
  QE X (.Call (.Attribute o name apos) (e::es) [] cpos) (mJ T k f g):=PE_imp (K6 j d i m l n c h b hs a) fun _ _ _ q=>Iq q
theorem oY[Qc](u:K? T)(c:Slot T name mid)(h:typeOf (.builtin mid)=pure (.type "method_descriptor"))(A:mL X mid (rM X.gm k))(z:QE X o f)
  (b:Ě o name X.env (eval o X.env)=eval o X.env) (a:(apos.endLine==cpos.line)=Ã):QE X (.Call (.Attribute o name apos) [] [] cpos) (mJ T k f fB) :=
 PE_imp (H0 u c h A z b a) fun I H Q q=>by
  obtain⟨P,G,L,K,t,s,v,g,ev,x⟩:=Iq q;refine i7 t s ⟨v,g,ev,fun F e i w C p r1=>?_⟩;obtain⟨B,E,d,m,l,r,n,J,j,D,y⟩:=x F e i w C p r1;cases D;exact⟨B,y E d i [] Frm.refl n bU⟩
theorem oK(h:mL X mid r)(i:∀x xs H Q,r' x xs H Q->r x xs H Q):mL X mid r':=fun e s a H x xs v b Q I rx c d=>h e s a H x xs v b Q I rx c (i x xs H Q d)
def jf(st:aa):AV->Option (Nat×List AV)
 |.ref k=>match st[k]? with
  |some (.lst xs)=>À (k,xs)
  |_=>Á
 |_=>Á
theorem rJ[Qc]{mg:Gm}{P:Pr}{φ:List Ç}{st:aa}{H:Hp}{v:AV}{w:V}{j:Nat}{xs:List AV}(s:Sim mg P φ st H)(r:RA mg P H φ v w)(h:jf st v=À (j,xs)):∃a vs,w=.ref a/\φ[j]?=À a/\¬P a/\H a=À (.lst vs)/\Qg mg P H φ xs vs:=by
 cases v with
 |ref i =>
  simp only[jf]at h;split at h
  ·rename_i k e
   cases h;simp only[RA]at r;obtain⟨a,c,rfl⟩:=r;obtain⟨l,b,d,vs,g,f⟩:=s.at e;rw[c]at b;cases b;exact⟨a,vs,rfl,c,d,g,f⟩
  ·cases h
 |_=>cases h
theorem vB[Qc]{mg:Gm}{P:Pr}{φ:List Ç}{st:aa}{H:Hp}{j:Nat}{a:Ç}{ys:List AV}{us:List V}(s:Sim mg P φ st H)(k:φ[j]?=À a)(d:¬P a)(g:∃vs,H a=À (.lst vs))(r:Qg mg P H φ ys us) :
  Frm P φ H P φ (ai H a (.lst us))/\Sim mg P φ (st.set j (.lst ys)) (ai H a (.lst us))/\∀{t:AV}{w:V},RA mg P H φ t w->RA mg P (ai H a (.lst us)) φ t w:=by
 have ex:∀b,P b->P b/\ai H a (.lst us) b=H b:=fun b h=>⟨h,ad fun e=>d (e▸h)⟩
 obtain⟨i,f⟩:=jj (c:=.lst ys) (o:=.lst us) s k d ⟨d,us,aF,r.mono ex fun _ _ z=>z⟩ (fun _ _ z=>by obtain⟨vs,q⟩:=g;rw[q]at z;cases z);exact⟨i,f,fun h=>h.mono ex fun _ _ z=>z⟩
def t9:MF:=fun x b a=>match b with
 |[y]=>(jf a x).bind fun c=>if fE c.2.length=Ã then À (.non,a.set c.1 (.lst (c.2++[y]))) else Á
 |_=>Á
theorem Kn{n:Nat}(h:fE n=Ã):n<Ì:=yN (zS h) dC
theorem Dq[Qc]:mL X "list.append" (rM X.gm t9):=oK qV fun x z H Q d=>by
 obtain⟨P,i,A,a,u,s,r,m,v,k,e,o⟩:=d;unfold t9 at e;split at e
 ·rename_i y
  obtain⟨c,t,f⟩:=zA e;split at f
  ·rename_i hz
   cases f;obtain⟨b,j,rfl,q,n,h,g⟩:=rJ s r t;obtain⟨w,rfl,r1⟩:=m.one;obtain⟨p,l,_⟩:=vB s q n ⟨_,h⟩ (g.app (bw r1 bU));exact⟨b,j,w,rfl,rfl,h,by rw[<- g.length];exact Kn hz,o P i _ _ p l (by simp only[RA])⟩
  ·cases f
 ·cases e
def Pt:MF:=fun x b a=>match b with
 |[.int i]=>(jf a x).bind fun c=>if gC i=Ã then(ma c.2.length i).bind fun j=>(c.2[j]?).map fun y=>(y,a.set c.1 (.lst (c.2.eraseIdx j))) else Á
 |_=>Á
def t8:MF:=fun x d a=>match d with
 |[y]=>(jf a x).bind fun c=>(cj a y).bind fun b=>if fE (c.2.length+b.length)=Ã then À (.non,a.set c.1 (.lst (c.2++b))) else Á
 |_=>Á
theorem Do[Qc]:mL X "list.extend" (rM X.gm t8):=oK Fv fun x G H Q f=>by
 obtain⟨P,k,I,a,F,s,r,o,v,m,e,q⟩:=f;unfold t8 at e;split at e
 ·rename_i y
  obtain⟨c,B,A⟩:=zA e;obtain⟨E,z,g⟩:=zA A;split at g
  ·rename_i hz
   cases g;obtain⟨b,l,rfl,u,p,j,i⟩:=rJ s r B;obtain⟨w,rfl,r1⟩:=o.one;obtain⟨D,d,rfl,C,h⟩:=r1.ls s z;obtain⟨t,n,_⟩:=vB s u p ⟨_,j⟩ (i.app h);exact⟨b,D,l,d,rfl,rfl,j,C,by rw[<- i.length,<- h.length];exact ku hz,q P k _ _ t n (by simp only[RA])⟩
  ·cases g
 ·cases e
def Cn:MF:=fun x b a=>match b with
 |[y]=>(fc 9 a x).bind fun p=>(fc 9 a y).bind fun q=>match p with
  |.list ps=>if(ps.all fun r=>pyOk r q)=Ã then À (.int ((ps.countP fun r=>å r q:Nat):Int),a) else Á
  |_=>Á
 |_=>Á
theorem Dp[Qc](hu:X.A.units+64<ř):mL X "list.count" (rM X.gm Cn):=by
 rintro Qa s σ H x vs v us Q I rx l ⟨P,E,st,a,F,k,r,K,z,G,e,T⟩;unfold Cn at e;split at e
 ·rename_i y
  obtain⟨p,Z,Y⟩:=zA e;obtain⟨q,W,g⟩:=zA Y;split at g
  ·rename_i ps
   split at g
   ·rename_i Qi
    cases g;obtain⟨w,rfl,r1⟩:=K.one;obtain⟨u,rfl,J⟩:=l.one;obtain⟨b,M⟩:=iM I k 9 _ _ _ _ r Z rx;obtain⟨bs,L⟩:=iM I k 9 _ _ _ _ r1 W J;cases M with
    |@list a o items n F i hg j hdt rall =>
     obtain⟨S,A,R,t⟩:=o;dsimp only at j hdt;subst j;subst hdt
     classical
     have C:∀z f c,Ÿ s.heap z f c->decide (∃p b,Ÿ s.heap z p b/\å p q=Ã)=å f q:=by
      intro z f c d;rcases he:å f q with _|_
      ·refine yB ?_
       rintro⟨O,i,N,D⟩
       have:=(p! d O i N).1
       rw[<- this,he]at D;cases D
      ·exact yX ⟨f,c,d,he⟩
     refine ϐ Š ⟨_,hg,rfl⟩ PySem.F.entry_list_count (PySem.F.args_list_count_2 _ _) (PySem.SeqAt.list_countAt a items n A t u (fun z=>decide (∃p b,Ÿ s.heap z p b/\å p q=Ã))) ⟨hg,?_,?_⟩
     ·intro z hz
      obtain⟨m,c,B,d⟩:=reads_each rall z (by simpa using hz);obtain⟨V,U,k3⟩:=qr (yS.mp Qi m B);rw[C z m c d];exact b? m q _ s z u c bs d L V U (by simp only[Around.in1_units];lia)
     ·have j:=cnt_vals (q:=q) (e:=fun z=>decide (∃p b,Ÿ s.heap z p b/\å p q=Ã)) (h:=s.heap) (vs:=items.toList) (ps:=ps) (fun v p b l=>C v p b l) rall
      rw[j];exact⟨.int _,H,I.kept (fun _ _ e=>e),⟨_,rfl⟩,T P E H _ Frm.refl k (by simp only[RA])⟩
   ·cases g
  ·cases g
 ·cases e
def IJ:MF:=fun x a b=>match x,a with
 |.int i,[]=>À (.int ((þ i:Nat):Int),b)
 |_,_=>Á
theorem II[Qc]:mL X "int.bit_length" (rM X.gm IJ):=oK Fw fun x i H Q b=>by
 obtain⟨P,d,j,a,h,s,r,c,v,f,e,g⟩:=b;unfold IJ at e;split at e
 ·cases e
  simp only[RA]at r;simp only[Qg]at c;exact⟨_,r,c,g P d H _ Frm.refl s (by simp only[RA])⟩
 ·cases e
def MS(t:Bool):EF:=fun _ a=>À (.ref a.length,a++[if t=Ã then .dT [] else .dK []])
theorem EX[Qc](i:PE X (.Dict [] [] pos) yh):QE X (.Dict [] [] pos) (MS Ä):=PE_imp i fun l H Q a=>by
 refine e7 a fun P k n m p s g=>?_
 obtain⟨v,b,e,h⟩:=g;cases e;intro d hd;obtain⟨j,f⟩:=oz (c:=.dK []) (o:=.dK []) s hd ⟨fun z=>s.dom d z hd,[],aF,rfl,bU⟩;refine h P _ _ _ j f ?_;simp only[RA];exact⟨d,by rw[<- s.len];simp,rfl⟩
end
theorem vd:ò "min"=À (.builtin "min"):=by decide +kernel
def Cj(ns:List Int):AV:=match minL ns with
 |some m=>.int m
 |none=>.non
def ph(st:aa):List AV->Option AV
 |[v]=>(lsI st v).map Cj
 |_=>Á
theorem Iz(a:Å):J? "min" ⟨[a],[(Ć "default",.none)]⟩:=by unfold J?;kernel_rfl
theorem Iy(a v:Å):J? "min" ⟨[a],[(Ć "key",v),(Ć "default",.none)]⟩:=by unfold J?;kernel_rfl
theorem IA{α:Type}{l:List α}{x:α}(h:x∈l):∃i:Nat,l[i]?=À x:=yA h
section
variable{X:Cx}{a:Î}{f:EF}{p pos kp pc:ĥ}{j:Nat}
theorem EV[Qc](M:X.calm=Ã)(L:Gl X "min")(J:X.mg "min"=Á)(N:QE X a f)(hs:Ë [a] X.env=[(Ä,eval a X.env)]) :
  QE X (.Call (.Name "min" p) [a] [⟨À "default",.Constant .none j pc,kp⟩] pos) (wB (cF ph) (eM f fB)):=by
 intro S s C H Q I h;have q:=JQ h;refine Ā (d5 I L J vd (callWith_kw (aK ((c9 N fH (by rw[hs];rfl)) pos S s C H _ I q) fun Z s1 ⟨Y,U,T,r1,E⟩=>?_) (by rw[hs];rfl) (by rw[hs];rfl) (by rfl) (by rfl)));refine kws_cons (R! (kws_nil ?_));obtain⟨P,V,st,W,o,r,F⟩:=E;obtain⟨z,e,k⟩:=F.map;unfold ph at e;split at e
 ·rename_i v
  obtain⟨w,rfl,D⟩:=r.one;obtain⟨ns,R,B⟩:=zE.mp e;obtain⟨l,rfl,K⟩:=D.lsI o R;obtain⟨u,rfl,y⟩:=gX r1;cases y;refine tR (ko:=Á) (ns:=ns) (I.ok.hd M) (fun i=>ns.getD i 0) (fun _ H=>H=U) (fun i H e=>by rw[e];exact K) rfl (Iz _) (fun i n u pl s H c y x I=>.inl ⟨rfl,by simp[c],x⟩) (fun i n H c d x=>?_) (fun c=>?_) T rfl
  ·subst x
   have:minL ns=À n:=by
    cases A:minL ns with
    |none =>
     cases ns with
     |nil=>simp at c
     |cons _ _=>cases A
    |some m =>
     rw[minL_eq A (zW c) fun b q=>?_];obtain⟨G,g⟩:=IA q;have O:=(d G (zB.mp g).1).1;simpa [c,g] using O
   have t:z=.int n:=by rw[<- B];unfold Cj;rw[this]
   subst t;exact k.pure o (by simp only[RA])
  ·subst c
   have t:z=.non:=by rw[<- B];rfl
   subst t;exact k.pure o (by simp only[RA])
 ·cases e
end
def An(key:EF)(sl:Sl)(st:aa)(n:Int):Option Int:=match key (sl++[À (.int n)]) st with
 |some (.int k,_)=>À k
 |_=>Á
noncomputable def mI:Int->Int->List (Int×Int)->Int
 |n,_,[]=>n
 |n,k,(m,j)::r=>if j<k then mI m j r else mI n k r
def qN:List (Int×Int)->AV
 |[]=>.non
 |(n,k)::r=>.int (mI n k r)
def sN(f key:EF):EF:=fun a c=>(f a c).bind fun p=>(lsI p.2 p.1).bind fun b=>(bC (An key a p.2) b).map fun d=>(qN (b.zip d),p.2)
def DW(f:EF):Prop:=∀c b v a,f c b=À (v,a)->a=b
theorem nq:∀(r:List (Int×Int))(n k:Int),∃(i:Nat)(κ:Int),((n,k)::r)[i]?=À (mI n k r,κ)/\∀(j:Nat) q,((n,k)::r)[j]?=À q->κ<=q.2/\(j<i->κ<q.2)
 |[],n,k=>⟨0,k,rfl,fun j q e=>by
   cases j with
   |zero=>cases e;exact⟨h? _,fun h=>absurd h (xB _)⟩
   |succ j=>simp at e⟩
 |(m,j0)::r,n,k=>by
  by_cases hb:j0<k
  ·obtain⟨i,κ,e1,e2⟩:=nq r m j0
   refine⟨i+1,κ,by rw[Ė];simpa [mI,hb] using e1,fun j q e=>?_⟩;cases j with
   |zero =>
    cases e
    have:=(e2 0 (m,j0) rfl).1
    exact⟨by show κ<=k;lia,fun _=>by show κ<k;lia⟩
   |succ j =>
    rw[Ė]at e;exact⟨(e2 j q e).1,fun h=>(e2 j q e).2 oM⟩
  ·obtain⟨i,κ,e1,e2⟩:=nq r n k
   have b:mI n k ((m,j0)::r)=mI n k r:=by simp[mI,hb]
   have a:=(e2 0 (n,k) rfl).1;refine⟨if i=0 then 0 else i+1,κ,?_,fun j q e=>?_⟩
   ·rw[b]
    cases i with
    |zero=>simpa using e1
    |succ i=>simpa using e1
   ·cases j with
    |zero =>
     cases e;refine⟨a,fun h=>?_⟩;cases i with
     |zero=>simp at h
     |succ i=>exact(e2 0 (n,k) rfl).2 (L? i)
    |succ j =>
     rw[Ė]at e;cases j with
     |zero =>
      cases e;refine⟨by show κ<=j0;lia,fun h=>?_⟩;cases i with
      |zero=>simp at h
      |succ i =>
       have:=(e2 0 (n,k) rfl).2 (L? i)
       show κ<j0;have:κ<k:=this;lia
     |succ j =>
      rw[Ė]at e
      have:=e2 (j+1) q (by rw[Ė];exact e)
      refine⟨this.1,fun h=>this.2 ?_⟩;cases i with
      |zero=>simp at h
      |succ i=>simp at h;lia
theorem Gg{ns ks:List Int}{i:Nat}{n:Int}(x:ns.length=ks.length)(f:ns[i]?=À n)(w:∀j,j<ns.length->ks.getD i 0<=ks.getD j 0/\(j<i->ks.getD i 0<ks.getD j 0)):qN (ns.zip ks)=.int n:=by
 have y:i<ns.length:=(zB.mp f).1;obtain⟨k,o⟩:∃k,ks[i]?=À k:=⟨_,zF oM⟩;have hz:(ns.zip ks)[i]?=À (n,k):=by rw[Ş];exact⟨f,o⟩
 have hd:ks.getD i 0=k:=by simp[o]
 cases e:ns.zip ks with
 |nil=>rw[e]at hz;simp at hz
 |cons q r =>
  obtain⟨t,v⟩:=q;obtain⟨a,c,s,p⟩:=nq r t v;rw[<- e]at s p;have b:=Ş.mp s;have g:a<ns.length:=(zB.mp b.1).1;have l:ks.getD a 0=c:=by simp[b.2]
  have m:=w a g;have m2:=p i (n,k) hz;rw[hd,l]at m;have u:c<=k:=m2.1;have d:i<a->c<k:=m2.2;have:i=a:=by
   rcases Nat.lt_trichotomy i a with h|h|h
   ·have:=d h;lia
   ·exact h
   ·have:=m.2 h;lia
  subst this;rw[f]at b
  have:=b.1
  simp only[qN];cases this;rfl
theorem tZ{α a:Type}{f:α->Option a}:∀{l:List α}{r:List a},bC f l=À r->l.length=r.length/\∀(i:Nat) x,l[i]?=À x->∃y,r[i]?=À y/\f x=À y
 |[],r,h=>by cases h;exact⟨rfl,fun i x e=>by simp at e⟩
 |x::l,r,h=>by
  simp only[bC]at h;obtain⟨y,e1,e2⟩:=zA h;obtain⟨j,g,d⟩:=zE.mp e2;subst d;obtain⟨c,b⟩:=tZ g;refine⟨by simp[c],fun i z e=>?_⟩;cases i with
  |zero=>cases e;exact⟨y,rfl,e1⟩
  |succ i=>exact b i z (by simpa using e)
section
variable{X:Cx}{a body:Î}{f key:EF}{p pos kp lp kp2 pc:ĥ}{j:Nat}{params:ϯ}{scope:ğ}{N':List Í}{x:Í}{c P:Ç}
theorem Qk.snoc[Qc]{mg:Gm}{P:Pr}{H:Hp}{φ:List Ç}{sl:Sl}{σ:St}{v:AV}{w:V}(h:Qk mg P H φ sl σ)(r:RA mg P H φ v w):Qk mg P H φ (sl++[À v]) (σ++[À w]):=by
 refine⟨by rw[zV,zV,h.1];rfl,fun i u e=>?_⟩;rcases yV i sl.length with a|a
 ·rw[zN a]at e
  rw[zN (by rw[<- h.1];exact a)];exact h.2 i u e
 ·rw[z6 a]at e
  rw[z6 (by rw[<- h.1];exact a),<- h.1];cases b:i-sl.length with
  |zero=>rw[b]at e;cases e;exact⟨w,rfl,r⟩
  |succ m=>rw[b]at e;simp at e
theorem EU[Qc](hc:X.calm=Ã)(hg:Gl X "min")(hm:X.mg "min"=Á)(ha:QE X a f)(hs:Ë [a] X.env=[(Ä,eval a X.env)])(hdef:X3 params X.env=([],[]))(hcode:X.env.code=.ref c)(C:X8 X.base c P)(B:j5 X.mg X.base)
  (ht:(P,lp,X.env.qual++"<lambda>")∈Qc.tb) (T:xR X N' scope x) (hp:plainA params=Ã) (hps:params.args.map (·.arg)=[x]) (hd:X.A.in1.depth<ϣ) (pu:DW key)
  (he:∀cl f c' s H,QE (uU X N' scope cl f (X.env.qual++"<lambda>") (.ref c') X.A.in1 s H) body key)
  (hdj:∀t∈Qc.tb,t.1=P->t=(P,lp,X.env.qual++"<lambda>")) :
  QE X (.Call (.Name "min" p) [a] [⟨À "key",.Lambda params body scope lp,kp⟩,⟨À "default",.Constant .none j pc,kp2⟩] pos) (sN f key):=by
 rintro Qa s σ H Q I ⟨Pr0,φ,sl,st,rs,sm,v,st',ev,k⟩;obtain⟨J,e1,e2⟩:=zA ev;obtain⟨ns,e3,e4⟩:=zA e2;obtain⟨ks,e5,e6⟩:=zE.mp e4;cases e6;have hra:rA X.gm (eM f fB) σ H (fun vs G=>∃A d w,vs=[w]/\Frm Pr0 φ H A d G/\Sim X.gm A d J.2 G/\RA X.gm A G d J.1 w) :=
  yy rs sm ⟨J.1,J.2,e1,fun A d G w f1 s1 r1=>⟨A,d,w,rfl,f1,s1,r1⟩⟩
 refine Ā (d5 I hg hm vd (callWith_kw (aK ((c9 ha fH (by rw[hs];rfl)) pos Qa s σ H _ I hra) fun us s1 ⟨vs,G,I1,r1,A,d,w,ew,f1,m,V⟩=>?_) (by rw[hs];rfl) (by rw[hs];rfl) (by rfl) (by rfl)));subst ew;obtain⟨l,rfl,hl0⟩:=V.lsI m e3;obtain⟨u,rfl,ru⟩:=gX r1;cases ru;obtain⟨cl,hcl,hcl1,hcl2⟩:=lj (scope:=scope) (env:=X.env) (fun y hy=>by
  rcases T.cy.free y hy with h|h
  ·exact I1.ok.has y (.inl h)
  ·exact I1.ok.has y (.inr h))
 refine kws_cons (Cu I1 hdef hcode C B hcl (m.tb _ ht).1 fun q c' ctv S s2 hH2 GI hx2 I2=>kws_cons (R! (kws_nil ?_)))
 have fs:Frm A d G A d S/\Sim X.gm A d J.2 S:=by
  rcases hH2 with rfl|⟨ps,K,hP,hn,hne,rfl⟩
  ·exact⟨Frm.refl,m⟩
  ·have nP:∀b,A b->b≠P:=fun b h e=>(m.tb _ ht).2 (by rw[<- e];exact h)
   have N:∀b,G b≠Á->b≠c':=fun b h e=>h (by rw[e];exact hn)
   have M:∀b∈d,b≠P:=fun b h e=>m.tnc ht (by rw[<- e];exact h)
   have R:∀b,b≠P->b≠c'->ai (ai G P (.tbl (ps++K))) c' (ia c' (X.env.qual++"<lambda>")) b=G b:=fun b h1 h2=>by rw[ad h2,ad h1]
   have ex:∀b,A b->A b/\ai (ai G P (.tbl (ps++K))) c' (ia c' (X.env.qual++"<lambda>")) b=G b:=fun b h=>⟨h,R b (nP b h) (N b (m.dom b h))⟩
   refine⟨⟨ex,⟨[],by simp,by simp⟩,fun b h _ z=>R b (fun e=>z ps (by rw[e];exact hP)) (N b h),fun b h=>.inl h,fun b h=>?_,fun b o u h=>?_⟩,m.stay ex (fun b h=>R b (M b h) (N b (m.cd b h))) (fun _ _ h=>h) (fun b h=>by rw[(ex b h).2];exact m.dom b h) fun t O=>⟨?_,(m.tb t O).2⟩⟩
   ·by_cases e:b=P
    ·subst e;rw[ad hne,aF];exact fun z=>nomatch z
    ·rw[R b e (N b h)];exact h
   ·rw[R b (fun e=>by rw[e,hP]at h;cases h) (N b (by rw[h];exact fun z=>nomatch z))];exact h
   ·by_cases e:t.1=P
    ·rw[hdj t O e];exact GI
    ·obtain⟨qs,g1,g2,g3⟩:=(m.tb t O).1
     refine⟨qs,by rw[R t.1 e (N _ (by rw[g1];exact fun z=>nomatch z))];exact g1,g2,?_⟩;rcases g3 with g3|⟨c2,g4,g5⟩
     ·exact .inl g3
     ·exact .inr ⟨c2,g4,by rw[R c2 (fun z=>by rw[z,hP]at g5;cases g5) (N _ (by rw[g5];exact fun z=>nomatch z))];exact g5⟩
 obtain⟨Z,hget⟩:=tZ e5;have au:∀F,(∃D g,Frm A d S D g F/\Sim X.gm D g J.2 F)->∀z,qN (ns.zip ks)=z->∀w,(∀D g,RA X.gm D F g z w)->Q w F:=fun F hq0 z hz w r=>by
  obtain⟨D,g,f',s'⟩:=hq0;rw[hz]at k;exact k D g F w ((f1.trans fs.1).trans f') s' (r D g)
 have hmc:=tR (X:=X) (Qa:=Qa++[(q,xt X.mg (X.env.qual++"<lambda>") params body scope cl (.ref c') ctv)]) (σ:=σ) (ko:=À (.ref q)) (kws:=[(Ć "key",.ref q),(Ć "default",.none)]) (l:=l) (ns:=ns) (H:=S) (s:=s2) (Q:=Q) (E:=X.xe)
  (I.ok.hd hc) (fun i=>ks.getD i 0) (fun _ F=>∃D g,Frm A d S D g F/\Sim X.gm D g J.2 F) (fun i F ⟨D,g,f',s'⟩=>?_) rfl (Iy _ _) (fun i n u pl s3 H3 en ru ⟨P3,U,f3,s3'⟩ I3=>.inr ⟨q,rfl,?_⟩) (fun i n F en Y hJ=>?_) (fun en=>?_) I2 ⟨A,d,Frm.refl,fs.2⟩
 ·exact aK hmc fun u s9 ⟨v9,H9,I9,r9,q9⟩=>⟨v9,H9,I9.pins_of fun p hp=>I9.pin p (zK _ (zL _ hp)),r9,q9⟩
 ·obtain⟨b,eb,hb⟩:=(V.frm (fs.1.trans f')).lsI s' e3
  cases eb;exact hb
 ·obtain⟨kv,ek,hk⟩:=hget i n en
  unfold An at hk;split at hk
  ·rename_i k0 st0 L
   cases hk
   have:=pu _ _ _ _ L
   subst this;have W:=I3.pin (q,xt X.mg (X.env.qual++"<lambda>") params body scope cl (.ref c') ctv) (zK _ (zL _ (zK _ (zM.mpr rfl))));have hcx:H3 c'=À (ia c' (X.env.qual++"<lambda>")):=fs.2.okeep f3 hx2;have hcr:s3.heap.CodeRec (.ref c') (X.env.qual++"<lambda>"):=(I3.Qi c' _ hcx).1;refine Cv (te:=rE X.gm key) T I3 I.ok.frames (I.ok.hd hc) hd hcl1 hcl2 hp hps W.1 hcr (fun s H=>he cl q c' s H) ru ?_;have ksl:Qk X.gm P3 H3 U (sl++[À (.int n)]) (σ++[À (.int n)]):=Qk.snoc (((rs.frm f1).frm fs.1).frm f3) (by simp only[RA]);refine⟨P3,U,sl++[À (.int n)],J.2,ksl,s3',.int kv,J.2,L,fun P4 φ4 H4 b f4 s4 r4=>?_⟩;simp only[RA]at r4;exact⟨by rw[r4];simp[ek],P4,φ4,f3.trans f4,s4⟩
  ·cases hk
 ·exact au F hJ _ (Gg Z en Y) _ fun D g=>by simp only[RA]
 ·subst en
  exact au S ⟨A,d,Frm.refl,fs.2⟩ _ rfl _ fun D g=>by simp only[List.zip_nil_left,qN,RA]
end
section
variable{X:Cx}{a b:Î}{f g:EF}{pos p1 p2 pos2:ĥ}
noncomputable def qT(i:Int):Bool:=decide (0<=i)&&decide (i<=1000)
def xh(f:EF):NF:=fun b a=>(f b a).bind fun p=>match p.1 with
 |.int j=>if qT j=Ã then À (eu 0 j.toNat,p.2) else Á
 |_=>Á
def xg(f g:EF):NF:=fun a b=>(f a b).bind fun p=>(g a p.2).bind fun q=>match p.1,q.1 with
 |.int i,.int j=>if(qT i&&qT j&&decide (i<=j))=Ã then À (eu i (j-i).toNat,q.2) else Á
 |_,_=>Á
theorem Qg.rng(i:Nat):∀n:Nat,Qg mg P H φ (eu (i:Int) n) ((ħ i n).map fun(q:Nat)=>V.int (q:Int)):=by
 have a:∀(l:List Nat),Qg mg P H φ (l.map fun(k:Nat)=>AV.int ((i:Int)+(k:Int))) (l.map fun(k:Nat)=>V.int ((i:Int)+(k:Int))):=by
  intro l
  induction l with
  |nil=>exact bU
  |cons x l b=>exact bw (by simp only[RA]) b
 intro n;have:((ħ i n).map fun(q:Nat)=>V.int (q:Int))=(È n).map fun(k:Nat)=>V.int ((i:Int)+(k:Int)):=by
  rw[List.range'_eq_map_range,Ù];refine ķ fun k _=>?_
  simp
 rw[this];exact a _
theorem Hk[Qc](x:X.calm=Ã)(i:Gl X "list")(g:X.mg "list"=Á)(h:Gl X "range")(e:X.mg "range"=Á)(z:QE X a f)
  (hs:Ë [a] X.env=[(Ä,eval a X.env)]):QN X (.Call (.Name "list" p1) [.Call (.Name "range" p2) [a] [] pos2] [] pos) (xh f) :=
 PE_imp (B5 x i g h e z hs) fun G H Q d=>by
  refine e7 d fun P F K J t s u=>?_
  obtain⟨I,o,C,k⟩:=u;obtain⟨q,D,b⟩:=zA C;refine i7 t s ⟨q.1,q.2,D,fun E c m w A r r1=>?_⟩;show ∃j:Nat,[w]=[.int (j:Int)]/\j<=1000/\∀p,m p=Á->Q (.ref p) (ai m p (.lst ((ħ 0 j).map fun(q:Nat)=>V.int (q:Int))));split at b
  ·rename_i j B
   split at b
   ·rename_i y
    cases b;rw[B]at r1;simp only[RA]at r1;subst r1;obtain⟨l,n⟩:=ŏ.mp y;have l:=of_decide_eq_true l;have n:=of_decide_eq_true n;refine⟨j.toNat,by rw[ŗ l],by lia,fun p v=>?_⟩;exact k E c m p _ A r v (Qg.rng 0 j.toNat)
   ·cases b
  ·cases b
theorem Hj[Qc](E:X.calm=Ã)(u:Gl X "list")(o:X.mg "list"=Á)(t:Gl X "range")(n:X.mg "range"=Á)(F:QE X a f)(h:QE X b g)
  (hs:Ë [a,b] X.env=[(Ä,eval a X.env),(Ä,eval b X.env)]) (c:Ë [b] X.env=[(Ä,eval b X.env)]):QN X (.Call (.Name "list" p1) [.Call (.Name "range" p2) [a,b] [] pos2] [] pos) (xg f g) :=
 PE_imp (zp E u o t n (c9 F (c9 h fH (by rw[c];rfl)) (by rw[hs,c])) hs c) fun O H Q m=>by
  refine e7 m fun P φ U T B s C=>?_
  obtain⟨R,z,M,k⟩:=C;obtain⟨q,l,v⟩:=zA M;obtain⟨r,N,e⟩:=zA v;refine G8 B s ⟨q.1,q.2,r.1,r.2,l,N,fun x d y w S J A r1 r2=>?_⟩;split at e
  ·rename_i i j L K
   split at e
   ·rename_i h
    cases e;rw[L]at r1;rw[K]at r2;simp only[RA]at r1 r2;subst r1;subst r2;simp only[qT,zC,yD]at h;obtain⟨⟨⟨I,Y⟩,G,W⟩,V⟩:=h;refine⟨i.toNat,j.toNat,by rw[ŗ I,ŗ G],by lia,by lia,fun p D=>?_⟩;refine k x d y p _ J A D ?_;have l:(j-i).toNat=j.toNat-i.toNat:=by lia
    have v:i=((i.toNat:Nat):Int):=by lia
    have:=Qg.rng (mg:=X.gm) (P:=x) (H:=y) (φ:=d) i.toNat (j.toNat-i.toNat)
    rw[<- v,<- l]at this;rw[<- l];exact this
   ·cases e
  ·cases e
end
def pv:bv->AV
 |.inl i=>.int i
 |.inr x=>.str x
noncomputable def Dc(k:Nat):Out->Option Out
 |.nx sl st=>match st[k]? with
  |some (.wk Qb)=>À (.nx sl (st.set k (.dK Qb)))
  |_=>Á
 |.rt v st=>match st[k]? with
  |some (.wk Qb)=>À (.rt v (st.set k (.dK Qb)))
  |_=>Á
 |_=>Á
def wU(f:EF)(g:GF)(s:SF):SF:=fun a c=>(f a c).bind fun p=>match p.1 with
 |.ref k=>match p.2[k]? with
  |some (.dK b)=>(eF [] g s (b.map fun q=>pv q.1) a (p.2.set k (.wk b))).bind (Dc k)
  |_=>Á
 |_=>Á
section
variable{X:Cx}{tg iter:Î}{body:List ľ}{pos:ĥ}{f:EF}{g:GF}{s:SF}
theorem EI[Qc](hp:Ϫ (model X.prog X.w) X.A X.env X.xe)(hc:X.calm=Ã)(hi:QE X iter f)(hg:QG X tg g)(hb:oj X body s)(hs:∀x,ü iter X.env x=pure x):QS X (.For tg iter body [] pos) (wU f g s) :=
 PS_imp (E3 (zf hp hc (Fb hi) hg hb hs)) fun D σ H hq0=>by
  refine e7 hq0 fun P φ sl st rs sm q0=>?_
  obtain⟨o,e,q⟩:=q0;obtain⟨p,e1,e2⟩:=zA e;refine i7 rs sm ⟨p.1,p.2,e1,fun P1 N H1 w f1 s1 r1=>g_ fun G bk=>?_⟩;split at e2
  ·rename_i k ek
   rw[ek]at r1;simp only[RA]at r1;obtain⟨a,ea,ew⟩:=r1;split at e2
   ·rename_i Qb hk
    obtain⟨o1,e3,W⟩:=zA e2;obtain⟨na,K,h1,h2⟩:=s1.cell k _ a hk ea;refine bk ⟨a,K,ew,h1,fun U hn=>?_⟩;have J:(Qb.map fun q=>pv q.1).length=K.length:=by
     have:=congrArg ŀ h2.1
     rw[zH,zH]at this;rw[zH];exact this
    obtain⟨fw,sw⟩:=jj (c:=.wk Qb) (o:=.frz U (.dK K)) s1 ea na ⟨na,U,K,aF,h2.mono (fun b h=>⟨h,ad fun e=>na (e▸h)⟩) fun _ _ z=>z⟩ (fun _ _ z=>by rw[h1]at z;cases z);have rsw:Qk X.gm P1 (ai H1 a (.frz U (.dK K))) N sl σ:=(rs.frm f1).frm fw
    have back:∀{A d C l},Frm P1 N (ai H1 a (.frz U (.dK K))) A d C->Sim X.gm A d l C->∀{I},l[k]?=À (.wk I)->∃Z E,C a=À (.frz Z (.dK E)) /\
      Frm P φ H A d (ai C a (.dK E))/\Sim X.gm A d (l.set k (.dK I)) (ai C a (.dK E))/\∀b,A b->A b/\ai C a (.dK E) b=C b:=by
     intro A d C l Q F I hw;have T:d[k]?=À a:=Q.ix k a ea;obtain⟨na5,Z,E,g1,g2⟩:=F.cell k _ a hw T;have S:∀b,A b->A b/\ai C a (.dK E) b=C b:=fun b h=>⟨h,ad fun e=>na5 (e▸h)⟩
     refine⟨Z,E,g1,?_,?_,S⟩
     ·have B:=(f1.trans fw).trans Q
      obtain⟨m,em,nm⟩:=B.new;have hna:H a=Á\/a∈φ:=by
       rcases zZ.mp (show a ∈ φ++f1.new.choose by rw [<- f1.new.choose_spec.1];exact zW ea) with z | z
       ·exact .inr z
       ·exact .inl (f1.new.choose_spec.2 a z)
      refine⟨fun b h=>⟨(B.ext b h).1,?_⟩,⟨m,em,nm⟩,fun b h n z=>?_,B.pn,fun b h=>?_,fun b o u h=>?_⟩
      ·rw[(S b (B.ext b h).1).2];exact(B.ext b h).2
      ·have nb:b≠a:=fun e=>by
        rcases hna with y|y
        ·exact h (by rw[e];exact y)
        ·exact n (by rw[e];exact y)
       rw[ad nb];exact B.keep b h n z
      ·by_cases e:b=a
       ·rw[e,aF];exact fun z=>nomatch z
       ·rw[ad e];exact B.sm b h
      ·have nb:b≠a:=fun e=>by
        have:=f1.fz b o u h
        rw[e,h1]at this;cases this
       rw[ad nb];exact B.fz b o u h
     ·have hs5:l[k]?=À (.wk I):=hw
      refine⟨by rw[ç];exact F.len,F.nd,fun b h=>by rw[(S b h).2];exact F.dom b h,fun b h=>?_,fun j c b e5 e6=>?_,fun t ht=>⟨(F.tb t ht).1.wr (F.notb T na5),(F.tb t ht).2⟩⟩
      ·by_cases e:b=a
       ·rw[e,aF];exact fun z=>nomatch z
       ·rw[ad e];exact F.cd b h
      ·by_cases hj:j=k
       ·subst hj
        rw[T]at e6;cases e6;rw[õ (by rw[<- F.len];exact(zB.mp T).1)]at e5;cases e5;exact⟨na5,E,aF,g2.mono S fun _ _ z=>z⟩
       ·rw[ñ (æ hj)]at e5
        have hb:b≠a:=fun e=>hj (by
         subst e;obtain⟨l1,q1⟩:=zB.mp e6;obtain⟨l2,q2⟩:=zB.mp T;exact(Ű F.nd).mp (q1.trans q2.symm))
        exact(F.cell j c b e5 e6).mono S (fun _ _ z=>z) (ad hb) fun z=>z
    have V:∀{A d C O L l},o1=.nx L l->Frm P1 N (ai H1 a (.frz U (.dK K))) A d C->Sim X.gm A d l C->Qk X.gm A C d L O->(sx X.H₀ D).nx O C:=by
     intro A d C O L l eo Q F M;subst eo;simp only[Dc]at W;split at W
     ·rename_i I hw
      cases W;obtain⟨Z,E,g1,g2,g3,g4⟩:=back Q F hw;exact⟨a,Z,E,g1,hn,q A d _ O g2 g3 ⟨M.1,fun i v e=>let⟨w,e',r⟩:=M.2 i v e;⟨w,e',r.mono g4 fun _ _ z=>z⟩⟩⟩
     ·cases W
    have endR:∀{A d C v5 l w5},o1=.rt v5 l->Frm P1 N (ai H1 a (.frz U (.dK K))) A d C->Sim X.gm A d l C->RA X.gm A C d v5 w5->(sx X.H₀ D).rt w5 C:=by
     intro A d C v5 l w5 eo Q F r5;subst eo;simp only[Dc]at W;split at W
     ·rename_i I hw
      cases W;obtain⟨Z,E,g1,g2,g3,g4⟩:=back Q F hw;exact⟨a,Z,E,g1,hn,q A d _ w5 g2 g3 (r5.mono g4 fun _ _ z=>z)⟩
     ·cases W
    refine⟨fun i m Y H'=>m=K.length-i/\i<=K.length/\Iw X.gm P1 N (ai H1 a (.frz U (.dK K))) (fun sl st=>eF [] g s ((Qb.map fun q=>pv q.1).drop i) sl st=À o1) Y H',
     ⟨_,rfl,Ő _,P1,N,sl,_,Frm.refl,sw,rsw,by simpa using e3⟩,?_⟩
    intro i m Y H' hh;refine g_ fun G bk=>?_
    obtain⟨em,hle,P2,φ2,sl2,st2,f2,s2,rs2,eg⟩:=hh;have hfz:H' a=À (.frz U (.dK K)):=f2.fz a _ _ aF;rcases yV i K.length with R|hge
    ·rw[ã (by rw[J];exact R)]at eg
     simp only[eF,cM,if_true]at eg;obtain⟨q4,e5,e6⟩:=zA eg;obtain⟨o2,e7,e8⟩:=zA e6;refine bk (.inr ⟨⟨hfz,R⟩,Iw X.gm P1 N (ai H1 a (.frz U (.dK K))) fun sl st=>eF [] g s ((Qb.map fun q=>pv q.1).drop (i+1)) sl st=À o1,fun Y H' z=>⟨_,by lia,rfl,R,z⟩,fun x H3 hy=>g_ fun G bj=>?_⟩);obtain⟨rfl,hx⟩:=hy;have rx:RA X.gm P2 H3 φ2 ((Qb.map fun q=>pv q.1)[i]'(by rw[J];exact R)) x:=by
      have hkw:Qb[i]?.map (·.1)=K[i]?.map (·.1):=by rw[<- zR,<- zR,h2.1]
      have hlt':i<Qb.length:=by rw[zH]at J;lia
      rw[zR,zF R]at hx;rw[zF hlt',zF R]at hkw;simp only[Æ,Option.some.injEq]at hx hkw;rw[List.getElem_map,hkw,<- hx];cases K[i].1 with
      |inl n=>simp only[pv,RA,kV]
      |inr z=>simp only[pv,RA,kV]
     refine bj ⟨P2,φ2,sl2,st2,_,rs2,s2,rx,q4.1,q4.2,e5,fun P4 φ4 H4 σ4 f4 s4 rs4=>⟨P4,φ4,q4.1,q4.2,rs4,s4,o2,e7,?_⟩⟩;have fa:=f2.trans f4;cases o2 with
     |nx L l=>exact fun A d C O Q F M=>⟨A,d,L,l,fa.trans Q,F,M,e8⟩
     |ct L l=>exact fun A d C O Q F M=>⟨A,d,L,l,fa.trans Q,F,M,e8⟩
     |bk L l=>exact fun A d C O Q F M=>V (yF e8).symm (fa.trans Q) F M
     |rt v l=>exact fun A d C w Q F r5=>endR (yF e8).symm (fa.trans Q) F r5
    ·have ei:i=K.length:=ſ hle hge
     subst ei;rw[<- J,a!]at eg;simp only[eF,cM,if_true]at eg;exact bk (.inl ⟨⟨hfz,zP _⟩,V (yF eg).symm f2 s2 rs2⟩)
   ·cases e2
  ·cases e2
end
noncomputable def cX:Î->Bool
 |.Starred _ _=>Ä
 |_=>Ã
noncomputable def kz:Î->Bool
 |.Slice _ _ _ _=>Ä
 |_=>Ã
noncomputable def Cg:Î->Bool
 |.Set _ _ _=>Ä
 |_=>Ã
noncomputable def qu:Î->Bool
 |.Call (.Name _ _) [] [] _=>Ä
 |_=>Ã
noncomputable def pe:Î->Bool
 |.ListComp _ _ _ _=>Ä
 |.SetComp _ _ _ _=>Ä
 |.DictComp _ _ _ _ _=>Ä
 |_=>Ã
noncomputable def tO:Î->Bool
 |.Tuple _ _ _=>Ä
 |_=>Ã
noncomputable def zj:Î->Bool
 |.UnaryOp .Not _ _=>Ä
 |.BoolOp _ _ _=>Ä
 |.IfExp _ _ _ _=>Ä
 |.Compare _ _ _ _=>Ä
 |_=>Ã
section
variable{env:U7}{e o i a b:Î}{es:List Î}{pos cpos apos:ĥ}{f:Í}
theorem aH(h:cX e=Ã):Ë (e::es) env=(Ä,eval e env)::Ë es env:=by
 cases e<;>first|rfl|cases h
theorem jo(h:es.all cX=Ã):(ā pos (Ë es env)).any (·.1)=Ä:=by
 induction es with
 |nil=>rfl
 |cons e es a =>
  rw[Ļ,zC]at h;rw[aH h.1];show(Ä||(ā pos (Ë es env)).any (·.1))=Ä;rw[a h.2];rfl
theorem BC(h:es.all cX=Ã):(ā pos (Ë es env)).all (fun x=>!x.1)=Ã:=by
 induction es with
 |nil=>rfl
 |cons e es a =>
  rw[Ļ,zC]at h;rw[aH h.1];show(Ã&&(ā pos (Ë es env)).all (fun x=>!x.1))=Ã;rw[a h.2];rfl
theorem ML(h:es.all cX=Ã)(a:es.length<30):((ā cpos (Ë es env)).all (fun x=>!x.1)&&(Ň cpos (ē [] env)).all (fun x=>x.1.isSome)&&decide (es.length+([]:List Ŋ).length+(if([]:List Ŋ).isEmpty then 0 else 1)<30))=Ã:=by
 rw[BC h];have:decide (es.length+([]:List Ŋ).length+(if([]:List Ŋ).isEmpty then 0 else 1)<30)=Ã:=yX (by simpa using a);rw[this];rfl
theorem gT(w:Z5 Å)(h:qu o=Ã):Ě o f env w=w:=by
 unfold Ě;split
 ·simp[qu]at h
 ·rfl
theorem vW(e:qu o=Ã)(hs:es.all cX=Ã)(d:es.length<30)(a:(apos.endLine==pos.line)=Ã):eval (.Call (.Attribute o f apos) es [] pos) env=(do
   let ov <- eval o env
   ŕ apos.atName
   let(f,first) <- holding [ov] (Ť ov f (do return (<- importBound o env).getD Ã))
   Ū pos f first (ā pos (Ë es env)) (Ň pos (ē [] env))):=by
 rw[arm_eval_Call,gT _ e];have b:methodCallForm (es.length+([]:List Ŋ).length) (ā pos (Ë es env)) (Ň pos (ē [] env))=Ã:=ML hs d;have c:methodCallPos Ã o env apos pos=pure pos:=by unfold methodCallPos;simp[a]
 unfold methodCall;rw[b,c];rfl
theorem tz(h:Cg e=Ã)(x:Å):ü e env x=pure x:=by
 cases e<;>first|rfl|cases h
theorem Lr(h:kz i=Ã):qO i:=fun _ _=>by
 cases i<;>first|rfl|cases h
theorem GT(h:kz i=Ã)(v:Å):assign (.Subscript o i pos) env v=(do
   let ov <- holding [v] (eval o env)
   let iv <- holding [v,ov] (eval i env)
   ŕ pos
   holding [v,ov,iv] (Ϩ ov iv v)
   release [v,ov,iv] []):=by
 cases i<;>first|rfl|cases h
theorem JS(h:kz i=Ã)(a b new:Å):augStore i a b new=(do holding [new,a,b] (Ϩ a b new);release [new,a,b] [];pure .next):=by
 cases i<;>first|rfl|cases h
theorem vJ{l:Nat}(h:pe e=Ã):Ľ e t l env=pure Ä:=by
 cases e<;>first|rfl|cases h
theorem Bu{l:Nat}:Ľ e (À (.Attribute o f p)) l env=pure Ä:=by
 cases e<;>rfl
noncomputable def Mn(nm:List (Í×NameKind))(t:Í)(b:Nat)(sc:ğ)(a:Nat):Bool:=decide (nm.lookup t=À .local)&&(b==a)&&!(sc.names.any fun(n,k)=>n==t&&(k==.local||k==.cell))
theorem GQ{l:Nat}(a:env.scope.kind=.function) :
  Ľ (.ListComp elt gens sc pos) (À (.Name t p)) l env=pure (Mn env.scope.names t p.line sc pos.line):=by
 have b:env.blockKind=.function:=by unfold Env.blockKind;rw[a];rfl
 show(pure (env.blockKind==.function&&env.kindOf t==À .local&&p.line==pos.line&&!(sc.names.any fun(n,k)=>n==t&&(k==.local||k==.cell))):Z5 Bool)=_;rw[b];have:(env.kindOf t==À NameKind.local)=decide (env.scope.names.lookup t=À .local):=by
  show(env.scope.names.lookup t==À NameKind.local)=_;cases h:env.scope.names.lookup t with
  |none=>rfl
  |some k=>cases k<;>rfl
 rw[this];rfl
theorem By:ϸ [.Subscript a b p] e env=pure Á:=by cases e<;>rfl
theorem Bx{k:Nat}(h:tO e=Ã):ϸ [.Tuple ts k p] e env=pure Á:=by cases e<;>first|rfl|cases h
theorem wv(h:cX e=Ã):(â [e] env).map (·.2)=[assign e env]:=by
 cases e<;>first|rfl|cases h
theorem CG(h:cX e=Ã):(â (e::es) env).map (·.2)=assign e env::(â es env).map (·.2):=by
 cases e<;>first|rfl|cases h
theorem CH:(â es env).length=es.length:=by
 induction es with
 |nil=>rfl
 | cons e es ih=>cases e <;> (show (â es env).length + 1=es.length + 1;rw [ih])
theorem CI(h:es.all cX=Ã):(â es env).findIdx? (·.1)=Á:=by
 have:∀p∈â es env,p.1=Ä:=by
  induction es with
  |nil=>intro p a;cases a
  |cons e es b =>
   rw[Ļ,zC]at h;have c:â (e::es) env=(Ä,assign e env)::â es env:=by
    cases e<;>first|rfl|cases h.1
   rw[c];intro p a;rcases zT.mp a with rfl|a
   ·rfl
   ·exact b h.2 p a
 rw[List.findIdx?_eq_none_iff];intro p a;rw[this p a]
theorem vF(h:zj e=Ã)(a:Z5 Å):I! e env a=(do let v <- a;ŕ e.pos;holding [v] (truthy v)):=by
 cases e with
 |UnaryOp op x p=>cases op<;>first|rfl|cases h
 |BoolOp=>cases h
 |IfExp=>cases h
 |Compare=>cases h
 |_=>rfl
end
noncomputable def J8(a c:Int)(n:Nat):It:=⟨fun i _=>i<n,fun i H x b=>b=H/\x=.int (a+(i:Int)*c),fun i _=>n<=i⟩
theorem Gu{P:Ô}{w:Ü}{K:à}{J:Î}(it:Ç)(a c:Int)(n:Nat):kn P w K J (J8 a c n) [it] it (fun i h=>w? h it (a+(i:Nat)*c) ((n:Int)-(i:Nat)) c) where
 mem:=by simp
 obj:=fun i h d b f=>by
  obtain rfl:b=it:=by simpa using f
  exact ⟨_,d,fun v z=>nomatch (show Data.fields _=Data.cell v from z)⟩
 keep:=fun i h l d k=>k it (by simp) _ d
 item:=by
  intro X r m u q i G s D H E I j d p;subst r m u;obtain⟨C,B,N,A,y,x⟩:=j it (by simp);refine(Walks.range (prog:=X.prog) (w:=X.w) (I.ok.hd q) it a c n).item i s _ _ p d fun v l F M g L=>?_
  obtain⟨t,rfl⟩:=M;have Q:Inv X G D H { s with heap:=l,toks:=F }:=I.turned (fun b o f e=>L b o (by simpa using f) e) C B A y x;exact⟨_,rfl,mY (s:={ s with heap:=l,toks:=F }) (n:="range_iterator") g rfl rfl dC ⟨.int (a+(i:Int)*c),H,Q,⟨t,rfl⟩,⟨rfl,rfl⟩,g,fun b f=>(j b f).1⟩⟩
 done:=by
  intro X r m u q i G s D H E I j d p;subst r m u;obtain⟨C,B,N,A,y,x⟩:=j it (by simp);exact S9 (I.ok.hd q) d (by have:n<=i:=p;lia) fun l O=>⟨rfl,I.turned (t':=s.toks) (fun b o f e=>O b o f e) C B A y x⟩
 self:=fun _ _ _ _ _ d h=>T? d h
noncomputable def oW(a b c:Int):Bool:=(decide (¬c=0)&&decide (0<=ĩ a b c))&&Þ c.natAbs 1000000&&_' a b c
noncomputable def iF(a b c:Int):Nat:=(ĩ a b c).toNat
def ox(a b c:Int):List AV:=(È (iF a b c)).map fun(i:Nat)=>.int (a+(i:Int)*c)
section
variable{X:Cx}{tg:Î}{mg:Gm}{P:Pr}{φ:List Ç}{H:Hp}{a b c:Î}{f g h:EF}{p pos:ĥ}
def OR(c:TA):TI:=fun a H R=>c a H fun b d=>∃i j k:Int,b=[.int i,.int j,.int k]/\oW i j k=Ã/\R (J8 i k (iF i j k)) d
theorem NH{E:TA}(P:Gl X "range")(O:X.mg "range"=Á)(Q:PA X [a,b,c] E)(hs:Ë [a,b,c] X.env=[(Ä,eval a X.env),(Ä,eval b X.env),(Ä,eval c X.env)])
  (l:Ë [b,c] X.env=[(Ä,eval b X.env),(Ä,eval c X.env)]):PI X tg (.Call (.Name "range" p) [a,b,c] [] pos) (OR E):=by
 intro G s D H R I h;refine M' (d5 I P O b! (Ö (aK (Q pos G s D H _ I h) fun L f B=>?_) (by rw[hs,l]) (by rw[l];rfl)));obtain⟨W,J,V,r1,i,j,k,e,m,q⟩:=B;subst e;unfold oW at m;simp only[zC,yD]at m;obtain⟨⟨⟨h1,h0⟩,F⟩,S⟩:=m;have F:=zS F;obtain⟨u1,x,rfl,A,r2⟩:∃u d,L=u::d/\RelV (.int i) u/\Vals [.int j,.int k] d:=by cases r1 with|cons r g=>exact⟨_,_,rfl,r,g⟩
 obtain⟨Z,w,rfl,z,N⟩:∃u d,x=u::d/\RelV (.int j) u/\Vals [.int k] d:=by cases r2 with|cons r g=>exact⟨_,_,rfl,r,g⟩
 obtain⟨Y,K,rfl,y,M⟩:∃u d,w=u::d/\RelV (.int k) u/\Vals [] d:=by cases N with|cons r g=>exact⟨_,_,rfl,r,g⟩
 cases M;obtain⟨v,rfl⟩:=A;obtain⟨t,rfl⟩:=z;obtain⟨n,rfl⟩:=y;refine call_range_3 oM ?_ (Or.inl (PyProof.noPylong_small oM));refine X? (IsRange.new ..) S ?_;have C:Inv X G D J { f with heap:=f.heap.push { cls:=.type "range",data:=.fields #[.int i v,.int j t,.int k n] },toks:=f.toks }:=V.kept fun b o e=>zG _ e
 refine⟨(f.heap.push { cls:=.type "range",data:=.fields #[.int i v,.int j t,.int k n] }).objs.size,[(f.heap.push { cls:=.type "range",data:=.fields #[.int i v,.int j t,.int k n] }).objs.size],_,_,J,rfl,C.kept (t':=f.toks) fun b o e=>zG _ e,Gu _ i k (iF i j k),?_,fun b m=>?_,q⟩
 ·have U:i+((0:Nat):Int)*k=i:=by simp
  have T:((iF i j k:Nat):Int)-((0:Nat):Int)=ĩ i j k:=by unfold iF;lia
  show w? _ _ (i+((0:Nat):Int)*k) (((iF i j k:Nat):Int)-((0:Nat):Int)) k;rw[U,T];exact zY _ rfl
 ·obtain rfl:b=(f.heap.push { cls:=.type "range",data:=.fields #[.int i v,.int j t,.int k n] }).objs.size:=by simpa using m
  exact C.fpOk (zP _) (C.Qi.fresh (zP _))
theorem Lu[Qc]{i k:Int}{j:Int}:vm mg (J8 i k (iF i j k)) ⟨ox i j k,[]⟩ P φ H where
 go:=fun l a t b m y f s g e=>by
  unfold ox at e;rw[zR]at e;obtain⟨c,r,q⟩:=zE.mp e;obtain⟨h,d⟩:=zB.mp r;rw[S6]at d;subst d q;rw[ô]at h;refine⟨h,fun w u o=>?_⟩;obtain⟨p,n⟩:=o;subst p;exact⟨l,Frm.refl,s,by simp only[RA];exact n⟩
 stop:=fun l a t b f s g=>by
  show iF i j k<=(ox i j k).length;simp[ox]
theorem OM[Qc]{σ:St}{Q:List V->Hp->Prop}{sl:Sl}{st:aa}(j:Qk mg P H φ sl σ)(s:Sim mg P φ st H)
  (m:∃v st1 u st2 x st3,f sl st=À (v,st1)/\g sl st1=À (u,st2)/\h sl st2=À (x,st3)/\∀P1 φ1 H1 w w' w'',Frm P φ H P1 φ1 H1->Sim mg P1 φ1 st3 H1->RA mg P1 H1 φ1 v w->RA mg P1 H1 φ1 u w'->RA mg P1 H1 φ1 x w''->Q [w,w',w''] H1):rA mg (eM f (eM g (eM h fB))) σ H Q:=by
 obtain⟨v,st1,u,st2,x,st3,e,o,b,k⟩:=m;refine i7 j s ⟨[v,u,x],st3,by simp only[eM,fB,e,o,b,Â],fun P1 φ1 H1 p n i r1=>?_⟩;simp only[Qg]at r1;obtain⟨w,q,rfl,r,w',d,rfl,l,w'',c,rfl,a,rfl⟩:=r1;exact k P1 φ1 H1 w w' w'' n i r l a
def Dx(f g h:EF):IF:=fun a b=>(f a b).bind fun p=>(g a p.2).bind fun q=>(h a q.2).bind fun r=>match p.1,q.1,r.1 with
 |.int i,.int j,.int k=>if oW i j k=Ã then À (⟨ox i j k,[]⟩,r.2) else Á
 |_,_,_=>Á
theorem KD[Qc](D:Gl X "range")(C:X.mg "range"=Á)(F:QE X a f)(u:QE X b g)(E:QE X c h)(hs:Ë [a,b,c] X.env=[(Ä,eval a X.env),(Ä,eval b X.env),(Ä,eval c X.env)])(d:Ë [b,c] X.env=[(Ä,eval b X.env),(Ä,eval c X.env)])(e:Ë [c] X.env=[(Ä,eval c X.env)]) :
  QI X tg (.Call (.Name "range" p) [a,b,c] [] pos) (Dx f g h) :=
 iB (NH D C (c9 F (c9 u (c9 E fH (by rw[e];rfl)) (by rw[d,e])) (by rw[hs,d])) hs d) fun V H R B=>by
  refine e7 B fun P U Z Y z s A=>?_
  obtain⟨iv,x,K,k⟩:=A;obtain⟨q,Q,O⟩:=zA K;obtain⟨r,N,M⟩:=zA O;obtain⟨t,L,l⟩:=zA M;refine OM z s ⟨q.1,q.2,r.1,r.2,t.1,t.2,Q,N,L,fun S n T w W v G y r1 r2 o=>?_⟩;split at l
  ·rename_i i j m J I em
   rw[J]at r1;rw[I]at r2;rw[em]at o;split at l
   ·rename_i u
    cases l;simp only[RA]at r1 r2 o;subst r1;subst r2;subst o;exact⟨i,j,m,rfl,u,k S n T _ G y Lu⟩
   ·cases l
  ·cases l
end
set_option genInjectivity false
set_option genSizeOf false
set_option genSizeOfSpec false
inductive Bi where
 |len|sum|abs|min|max
inductive Mi where
 |app|ext|cnt|bl
mutual
inductive Ex where
 |n|b (x:Bool)|i (x:Int)|s (x:Í)|v (k:Nat)|g (x:Í) (c:AV)|bin (o:Ġ) (a b:Ex)|cmp (o:ϧ) (a b:Ex)|un (o:UnaryOp) (a:Ex)|no (a:Ex)|an (a b:Ex)|or (a b:Ex)|ife (t:Tx) (a b:Ex)|ix (a b:Ex)|tu (es:Exs)|nw (m:Bool) (x:Nx)|ca (p:Bool) (j:Nat) (es:Exs)|me (c m:Í) (j:Nat) (o:Ex) (es:Exs)|ne (c:Í) (j:Nat) (es:Exs)|fd (c f:Í) (o:Ex)|bi (b:Bi) (es:Exs)|mt (m:Mi) (o:Ex) (es:Exs)|dn|mnd (a:Ex)|mnk (a key:Ex)
inductive Tx where
 |va (e:Ex)|cmp (o:ϧ) (a b:Ex)|no (t:Tx)|an (t u:Tx)|or (t u:Tx)
inductive Exs where
 |nil|cons (e:Ex) (es:Exs)
inductive Nx where
 |li (es:Exs)|cat (a b:Ex)|rep (es:Exs) (b:Ex)|sl (a:Ex) (l h:Ox)|lof (a:Ex)|lc (k:Nat) (it:Ix) (t:Tg) (c:Cx') (e:Ex)|lr1 (a:Ex)|lr2 (a b:Ex)
inductive Ox where
 |no|so (e:Ex)
inductive Cx' where
 |no|so (t:Tx)
inductive Ix where
 |e (a:Ex)|r1 (a:Ex)|r2 (a b:Ex)|zi (a b:Ex)|en (a:Ex)|es (a b:Ex)|r3 (a b c:Ex)
inductive Tg where
 |nm (k:Nat)|tu (n:Nat) (ts:Tgs)|su (a b:Ex)
inductive Tgs where
 |nil|cons (t:Tg) (ts:Tgs)
end
mutual
inductive Sx where
 |ex (e:Ex)|as (e:Ex) (t:Tg)|aus (o:Ġ) (a b e:Ex)|fl (c f:Í) (o e:Ex)|rt (e:Ex)|iff (t:Tx) (a b:Qm)|fo (it:Ix) (t:Tg) (b:Qm)|wh (t:Tx) (b:Qm)|dead|fd (a:Ex) (t:Tg) (b:Qm)
inductive Qm where
 |nil|cons (s:Sx) (ss:Qm)|dead
end
def rV:Bi->BF
 |.len=>cF eO
 |.sum=>cF ow
 |.abs=>cF lB
 |.min=>cF tS
 |.max=>cF qx
def tT:Mi->MF
 |.app=>t9
 |.ext=>t8
 |.cnt=>Cn
 |.bl=>IJ
noncomputable def tU:Mi->String
 |.bl=>"int"
 |_=>"list"
def kf(ks:List Fn)(j:Nat):Fn:=ks.getD j fun _ _=>Á
def zh(p:Bool)(fn:Fn):Fn:=if p=Ã then pm fn else fn
section
variable(ks:List Fn)
mutual
noncomputable def ev:Ex->EF
 |.n=>aC .non
 |.b x=>aC (.bl x)
 |.i x=>aC (.int x)
 |.s x=>aC (.str x)
 |.v k=>aV k
 |.g _ c=>aC c
 |.bin o a b=>a2 (ev a) (ev b) (lP (aP o))
 |.cmp o a b=>a2 (ev a) (ev b) (lP (oG o))
 |.un o a=>a1 (ev a) (GW (lO o))
 |.no a=>MP (ev a)
 |.an a b=>DV (ev a) (ev b)
 |.or a b=>DR (ev a) (ev b)
 |.ife t a b=>MQ (tv t) (ev a) (ev b)
 |.ix a b=>a2 (ev a) (ev b) (lP aZ)
 |.tu es=>MO (fK es)
 |.nw m x=>DS m (i9 x)
 |.ca p j es=>DU (zh p (kf ks j)) (fK es)
 |.me c m j o es=>DT c m (kf ks j) (ev o) (fK es)
 |.ne c j es=>AX c (kf ks j) (fK es)
 |.fd c f o=>MR c f (ev o)
 |.bi b es=>wB (rV b) (fK es)
 |.mt m o es=>mJ (tU m) (tT m) (ev o) (fK es)
 |.dn=>MS Ä
 |.mnd a=>wB (cF ph) (eM (ev a) fB)
 |.mnk a key=>sN (ev a) (ev key)
noncomputable def tv:Tx->TF
 |.va e=>tV (ev e)
 |.cmp o a b=>GP (ev a) (ev b) o
 |.no a=>Mj (tv a)
 |.an a b=>Mm (tv a) (tv b)
 |.or a b=>GK (tv a) (tv b)
noncomputable def fK:Exs->AF
 |.nil=>fB
 |.cons e es=>eM (ev e) (fK es)
noncomputable def i9:Nx->NF
 |.li es=>My (fK es)
 |.cat a b=>qw (ev a) (ev b)
 |.rep es b=>xf (fK es) (ev b)
 |.sl a l h=>nE (ev a) (pQ l) (pQ h)
 |.lof a=>qv (ev a)
 |.lc k it t c e=>Dn k (d6 it) (cP t) (kK c) (ev e)
 |.lr1 a=>xh (ev a)
 |.lr2 a b=>xg (ev a) (ev b)
noncomputable def pQ:Ox->OF
 |.no=>Mw
 |.so e=>o6 (ev e)
noncomputable def kK:Cx'->TF
 |.no=>Mg
 |.so e=>tv e
noncomputable def d6:Ix->IF
 |.e a=>iE (ev a)
 |.r1 a=>Dy (ev a)
 |.r2 a b=>wf (ev a) (ev b)
 |.zi a b=>iZ (ev a) (ev b)
 |.en a=>MG (ev a)
 |.es a b=>xz (ev a) (ev b)
 |.r3 a b c=>Dx (ev a) (ev b) (ev c)
noncomputable def cP:Tg->GF
 |.nm k=>Az k
 |.tu n ts=>Ay n (j9 ts)
 |.su a b=>MH (ev a) (ev b)
noncomputable def j9:Tgs->vn
 |.nil=>Jm
 |.cons t ts=>Jp (cP t) (j9 ts)
end
mutual
noncomputable def cT:Sx->SF
 |.ex e=>Mt (ev ks e)
 |.as e t=>yq (ev ks e) (cP ks t)
 |.aus o a b e=>wV o (ev ks a) (ev ks b) (ev ks e)
 |.fl c f o e=>yp c f (ev ks o) (ev ks e)
 |.rt e=>Mp (ev ks e)
 |.iff t a b=>Mr (tv ks t) (ae a) (ae b)
 |.fo it t b=>Ms (d6 ks it) (cP ks t) (ae b)
 |.wh t b=>nA (tv ks t) (ae b)
 |.dead=>GZ
 |.fd a t b=>wU (ev ks a) (cP ks t) (ae b)
noncomputable def ae:Qm->SF
 |.nil=>Mq
 |.cons s ss=>Mo (cT s) (ae ss)
 |.dead=>GZ
end
end
inductive Ke where
 |f (x:Í) (n:Nat)|m (c m:Í) (n:Nat)|k (c:Í) (n:Nat)
structure SC where
 N:List Í
 nm:List (Í×NameKind)
 cf:List Í
 ke:List Ke
 gs:List (Í×AV)
 cl:List (Í×List Í)
 la:List ĥ
 cn:List Í
 hs:List Nat
 ck:Bool
noncomputable def kd(C:SC)(x:Í):Option Ŭ:=C.nm.lookup x
def Bh(C:SC)(x:Í):Bool:=match kd C x with
 |some .local=>Ã
 |some .cell=>Ã
 |some .free=>Ã
 |_=>Ä
def Cp(C:SC)(x:Í):Bool:=match kd C x with
 |some .local=>Ã
 |some .cell=>C.cf.contains x
 |_=>Ä
noncomputable def DL(x:Í):Bool:=!(x==("__debug__":Í))&&!(x==("__classdict__":Í))
def jT(C:SC)(x:Í):Bool:=(match kd C x with
 |some .globalImplicit=>Ã
 |_=>Ä)&&DL x
noncomputable def MD(C:SC)(j:Nat)(x:Í)(n:Nat):Bool:=match C.ke[j]? with
 |some (.f y m)=>y==x&&m==n
 |_=>Ä
noncomputable def MB(C:SC)(j:Nat)(c m:Í)(n:Nat):Bool:=match C.ke[j]? with
 |some (.m b a k)=>b==c&&a==m&&k==n
 |_=>Ä
noncomputable def MC(C:SC)(j:Nat)(c:Í)(n:Nat):Bool:=match C.ke[j]? with
 |some (.k a k)=>a==c&&k==n
 |_=>Ä
noncomputable def bnames:List Í:=["len","sum","all","any","abs","min","max","int","tuple","range","zip","enumerate","list","isinstance","bool","str","sorted"]
noncomputable def JP:List (Í×Bi):=[("len",.len)
 ,("sum",.sum)
 ,("abs",.abs)
 ,("min",.min)
 ,("max",.max)
 ]
noncomputable def Iu:List (Í×Mi):=[("append",.app)
 ,("extend",.ext)
 ,("count",.cnt)
 ,("bit_length",.bl)
 ]
noncomputable def Bi.nm:Bi->Í
 |.len=>"len"
 |.sum=>"sum"
 |.abs=>"abs"
 |.min=>"min"
 |.max=>"max"
noncomputable def Mi.nm:Mi->Í
 |.app=>"append"
 |.ext=>"extend"
 |.cnt=>"count"
 |.bl=>"bit_length"
noncomputable def OB:List (Í×String):=[("int","int"),("bool","bool"),("list","list"),("tuple","tuple"),("str","str")]
noncomputable def Cb(sc:ğ):List Í:=(sc.names.filter fun p=>(match p.2 with|.local=>Ã|.cell=>Ã|_=>Ä)&&!(p.1==(".0":Í))).map (·.1)
noncomputable def uk(sc:ğ)(x:Í):Bool:=match sc.names.lookup x with
 |some .free=>Ã
 |_=>Ä
noncomputable def Jj(k:Bool)(x:Í):Í:=match k with
 |true=>x++("!":Í)
 |false=>""
def fM(C:SC)(sc:ğ):List Í:=(C.N.map fun x=>if uk sc x=Ã then x else Jj C.ck x)++Cb sc
noncomputable def MJ:Ŭ->Bool
 |.free=>Ã
 |_=>Ä
noncomputable def DN:Option Ŭ->Bool
 |some .cell=>Ã
 |_=>Ä
noncomputable def vC{α:Type}(k:Bool)(x:List α):List α:=match k with
 |true=>x
 |false=>[]
@[reducible] def blk(C:SC)(sc:ğ):SC:={ C with N:=fM C sc,nm:=vC C.ck (sc.names.map fun p=>if(MJ p.2&&DN (kd C p.1))=Ã then(p.1,.cell) else(p.1,p.2)),cf:=vC C.ck ((sc.names.filter fun p=>DN (À p.2)).map (·.1)),la:=[] }
def ve(C:SC)(sc:ğ):Bool :=
 (match sc.kind with|.function=>Ã|_=>Ä)&&decide (sc.names.map (·.1)).Nodup&&decide (fM C sc).Nodup &&
 (sc.names.all fun p=>match p.2 with|.free=>(match kd C p.1 with|some .cell=>Ã|some .free=>Ã|_=>Ä)|_=>Ã) &&
 ((È C.N.length).all fun i=>match (fM C sc)[i]? with
  |some x=>(match sc.names.lookup x with
   |some .free=>decide (C.N[i]?=À x)
   |some _=>Ä
   |none=>Ã)
  |none=>Ä)
mutual
noncomputable def qk(n:Nat):Tg->Bool
 |.nm k=>Þ n k
 |.tu _ ts=>sy n ts
 |.su _ _=>Ä
noncomputable def sy(n:Nat):Tgs->Bool
 |.nil=>Ã
 |.cons t ts=>qk n t&&sy n ts
end
@[reducible] def IV(C:SC)(sc:ğ):SC:={ C with N:=fM C sc,nm:=vC C.ck sc.names,cf:=[],ke:=[],la:=[] }
noncomputable def OQ(C:SC)(p:ĥ):Bool:=C.la.any fun q=>q.line==p.line&&q.col==p.col&&q.endLine==p.endLine&&q.endCol==p.endCol
def Cw(C:SC)(sc:ğ)(ps:ϯ):Bool:=ve C sc&&!sc.isCoroutine&&!sc.isGenerator&&plainA ps&&ps.defaults.isEmpty&&ps.kw_defaults.isEmpty &&
 (match Cb sc,ps.args.map (·.arg) with
  |[x],[y]=>x==y&&(match sc.names.lookup x with|some .local=>Ã|_=>Ä)
  |_,_=>Ä)&&sc.names.all fun p=>!(DN (À p.2))
noncomputable def mR:Ex->Bool
 |.v _=>Ã
 |.i _=>Ã
 |.ix a b=>mR a&&mR b
 |.fd _ _ o=>mR o
 |_=>Ä
theorem nD{P:Prop}(h:Ä=Ã):P:=nomatch h
theorem bJ{α:Type}{P:Prop}{m:α}(h:Á=À m):P:=nomatch h
theorem dQ{a b:Bool}{P:Prop}(h:(a&&b)=Ã)(H:a=Ã->b=Ã->P):P:=by cases a;exact nD h;exact H rfl h
theorem lK{a b c:Bool}{P:Prop}(h:(a&&b&&c)=Ã)(H:a=Ã->b=Ã->c=Ã->P):P:=dQ h fun x y=>dQ x fun e d=>H e d y
theorem rW{a b c d:Bool}{P:Prop}(h:(a&&b&&c&&d)=Ã)(H:a=Ã->b=Ã->c=Ã->d=Ã->P):P:=dQ h fun x y=>lK x fun g f e=>H g f e y
section
variable{α β γ δ ε:Type}
noncomputable def gu(k c:Bool)(x:Option α):Option α:=match k with
 |false=>x
 |true=>if c=Ã then x else Á
noncomputable def m2(f:α->β->γ)(x:Option α)(y:Option β):Option γ:=x.bind fun a=>y.map (f a)
def m3(f:α->β->γ->δ)(x:Option α)(y:Option β)(z:Option γ):Option δ:=x.bind fun a=>m2 (f a) y z
theorem aX{k c:Bool}{x:Option α}{m:α}{P:Prop}(a:k=Ã)(h:gu k c x=À m)(H:c=Ã->x=À m->P):P:=by
 subst a;cases c
 ·exact bJ h
 ·exact H rfl h
@[elab_as_elim] theorem cS{f:α->β}{x:Option α}{m:β}{P:β->Prop}(h:x.map f=À m)(H:∀a,x=À a->P (f a)):P m:=by
 cases x with
 |none=>exact bJ h
 |some a=>cases h;exact H a rfl
@[elab_as_elim] theorem cH{f:α->β->γ}{x:Option α}{y:Option β}{m:γ}{P:γ->Prop}(h:m2 f x y=À m)(H:∀a b,x=À a->y=À b->P (f a b)):P m:=by
 cases x with
 |none=>exact bJ h
 |some a=>exact cS h fun b c=>H a b rfl c
@[elab_as_elim] theorem kZ{f:α->β->γ->δ}{x:Option α}{y:Option β}{z:Option γ}{m:δ}{P:δ->Prop}(h:m3 f x y z=À m)(H:∀a b c,x=À a->y=À b->z=À c->P (f a b c)):P m:=by
 cases x with
 |none=>exact bJ h
 |some a=>exact cH h fun b c e d=>H a b c rfl e d
theorem iH{x:Option α}{f:α->Option β}{m:β}{P:Prop}(h:x.bind f=À m)(H:∀a,x=À a->f a=À m->P):P:=by
 cases x with
 |none=>exact bJ h
 |some a=>exact H a rfl h
noncomputable def at_(x:Í):List Í->Nat->Option Nat
 |[],_=>Á
 |y::l,k=>if(y==x)=Ã then À k else at_ x l (k+1)
theorem DQ{x:Í}:∀{l:List Í}{k j:Nat},at_ x l k=À j->∃i,j=k+i/\l[i]?=À x
 |[],_,_,h=>bJ h
 |y::l,k,j,h=>by
  unfold at_ at h;split at h
  ·rename_i e;cases h;exact⟨0,rfl,by rw[yL e];rfl⟩
  ·obtain⟨i,e1,e2⟩:=DQ h
   exact⟨i+1,by lia,e2⟩
theorem JT{x:Í}{l:List Í}{j:Nat}(h:at_ x l 0=À j):l[j]?=À x:=by
 obtain⟨i,e,h⟩:=DQ h;rw[e,L!];exact h
noncomputable def lk(x:Í):List (Í×α)->Option α
 |[]=>Á
 |p::l=>if(p.1==x)=Ã then À p.2 else lk x l
theorem sH{x:Í}{v:α}:∀{l:List (Í×α)},lk x l=À v->(x,v)∈l
 |[],h=>bJ h
 |p::l,h=>by
  unfold lk at h;split at h
  ·rename_i e;cases h;rw[<- yL e];exact z7
  ·exact zQ _ (sH h)
def uY(f:Í):List (Í×List Í)->Option Í
 |[]=>Á
 |p::l=>match at_ f p.2 0 with
  |some _=>À p.1
  |none=>uY f l
theorem AL{f c:Í}:∀{l:List (Í×List Í)},uY f l=À c->∃fs,(c,fs)∈l/\f∈fs
 |[],h=>bJ h
 |p::l,h=>by
  unfold uY at h;split at h
  ·rename_i e;cases h;exact⟨p.2,z7,zW (JT e)⟩
  ·obtain⟨fs,h1,h2⟩:=AL h
   exact⟨fs,zQ _ h1,h2⟩
noncomputable def Ck(n:Nat):List Nat->Bool
 |[]=>Ä
 |m::l=>(m==n)||Ck n l
def hB(C:SC)(p:ĥ)(k:Nat):Bool:=Ck (((p.line*1000+p.col)*1000+p.endCol)*8+k) C.hs
end
noncomputable def nmO:Î->Option Í
 |.Name x _=>À x
 |_=>Á
theorem Aa{e:Î}(h:nmO e=À x):∃p,e=.Name x p:=by
 cases e with
 |Name y p=>cases h;exact⟨p,rfl⟩
 |_=>exact bJ h
noncomputable def lsO:Î->Option (List Î)
 |.List es _=>À es
 |_=>Á
theorem IN{e:Î}(h:lsO e=À es):∃p,e=.List es p:=by
 cases e with
 |List y p=>cases h;exact⟨p,rfl⟩
 |_=>exact bJ h
noncomputable def cN:Î->Bool
 |.Constant .none _ _=>Ã
 |_=>Ä
theorem DO{e:Î}(h:cN e=Ã):∃a p,e=.Constant .none a p:=by
 cases e with
 |Constant c a p=>cases c with
  |none=>exact⟨a,p,rfl⟩
  |_=>exact nD h
 |_=>exact nD h
noncomputable def kX:Const->Option Ex
 |.none=>À .n
 |.bool b=>À (.b b)
 |.int i=>À (.i i)
 |.str s=>À (.s s)
 |_=>Á
structure Tr where
 E:SC->Î->Option Ex
 T:SC->Î->Option Tx
 G:SC->Î->Option Tg
 S:SC->ľ->Option Sx
def Da(C:SC)(x:Í):Option Ex:=match at_ x C.N 0 with
 |some k=>gu C.ck (Bh C x&&DL x) (À (.v k))
 |none=>(lk x C.gs).bind fun c=>gu C.ck (jT C x&&(qU c).isSome) (À (.g x c))
section
variable(r:Tr)(C:SC)
def lF:List Î->Option Exs
 |[]=>À .nil
 |e::es=>gu C.ck (cX e) (m2 .cons (r.E C e) (lF es))
noncomputable def trO:Option Î->Option Ox
 |none=>À .no
 |some e=>(r.E C e).map .so
def wL:List Î->Option Tgs
 |[]=>À .nil
 |e::es=>gu C.ck (cX e) (m2 .cons (r.G C e) (wL es))
def oQ:List ľ->Option Qm
 |[]=>À .nil
 |s::ss=>m2 .cons (r.S C s) (oQ ss)
noncomputable def MN:N!->Ex->Ex->Ex
 |.And=>.an
 |.Or=>.or
noncomputable def MM:N!->Tx->Tx->Tx
 |.And=>.an
 |.Or=>.or
def wN(o:N!):List Î->Option Ex
 |[]=>Á
 |[x]=>r.E C x
 |x::y::es=>m2 (MN o) (r.E C x) (wN o (y::es))
def wM(o:N!):List Î->Option Tx
 |[]=>Á
 |[x]=>r.T C x
 |x::y::es=>m2 (MM o) (r.T C x) (wM o (y::es))
noncomputable def trC:List Î->Option Cx'
 |[]=>À .no
 |[e]=>(r.T C e).map .so
 |_=>Á
def trR(es:List Î):Option Ix:=match es with
 |[a]=>(r.E C a).map .r1
 |[a,b]=>m2 .r2 (r.E C a) (r.E C b)
 |[a,b,c]=>m3 .r3 (r.E C a) (r.E C b) (r.E C c)
 |_=>Á
def trZ(es:List Î):Option Ix:=match es with
 |[a,b]=>m2 .zi (r.E C a) (r.E C b)
 |_=>Á
def trEn(a:Î)(kws:List Ŋ):Option Ix:=match kws with
 |[]=>(r.E C a).map .en
 |[⟨À y,b,_⟩]=>gu C.ck (y==("start":Í)) (m2 .es (r.E C a) (r.E C b))
 |_=>Á
def trIc(t e:Î)(es:List Î)(kws:List Ŋ)(o:Option Í):Option Ix:=match o with
 |some x =>
  if(x==("range":Í))=Ã then gu C.ck (jT C "range"&&kws.isEmpty&&es.all cX) (trR r C es)
  else if(x==("zip":Í))=Ã then gu C.ck (jT C "zip"&&kws.isEmpty&&es.all cX&&!tO t) (trZ r C es)
  else if(x==("enumerate":Í))=Ã then gu C.ck (jT C "enumerate"&&es.all cX&&!tO t) (match es with
   |[a]=>trEn r C a kws
   |_=>Á)
  else(r.E C e).map .e
 |none=>(r.E C e).map .e
def trI(t e:Î):Option Ix:=match e with
 |.Call f es kws _=>trIc r C t e es kws (nmO f)
 |_=>(r.E C e).map .e
def trL(elt:Î)(gens:List Comprehension)(sc:ğ):Option Nx:=match gens with
 |[⟨t,it,cs,i⟩]=>gu C.ck (ve C sc&&(i==0)&&Cg it) ((trI r C t it).bind fun x=>(r.G (blk C sc) t).bind fun g=>gu C.ck (qk C.N.length g) (m2 (.lc ((fM C sc).length-C.N.length) x g) (trC r (blk C sc) cs) (r.E (blk C sc) elt)))
 |_=>Á
def trLr(p:ĥ)(es:List Î):Option Ex:=match es with
 |[a]=>(r.E C a).map fun a=>.nw (hB C p 0) (.lr1 a)
 |[a,b]=>m2 (fun a b=>.nw (hB C p 0) (.lr2 a b)) (r.E C a) (r.E C b)
 |_=>Á
def trLf(p:ĥ)(a:Î):Option Ex:=match a with
 |.Call f es kws _=>gu C.ck ((match nmO f with|some y=>y==("range":Í)|none=>Ä)&&kws.isEmpty&&jT C "range"&&es.all cX) (trLr r C p es)
 |a=>(r.E C a).map fun a=>.nw (hB C p 0) (.lof a)
def trF1(x:Í)(p:ĥ)(es:List Î):Option Ex:=match es with
 |[a] =>
  gu C.ck (x==("list":Í)&&jT C "list"&&cX a) (trLf r C p a)
 |_=>Á
def Br(x:Í)(es:List Î)(p:ĥ)(j:Nat)(o:Option (List Í)):Option Ex:=match o with
 |some _=>gu C.ck (MC C j x (es.length+1)&&jT C x&&!es.isEmpty&&es.all cX) ((lF r C es).map (.ne x j))
 |_=>gu C.ck (MD C j x es.length&&jT C x&&es.all cX) ((lF r C es).map (.ca (!hB C p 6) j))
def Bs(x:Í)(es:List Î)(p:ĥ)(o:Option Bi):Option Ex:=match o with
 |some b=>gu C.ck (jT C x&&!es.isEmpty&&es.all cX) ((lF r C es).map (.bi b))
 |none=>trF1 r C x p es
def Db(x:Í)(es:List Î)(p:ĥ):Option Ex:=match at_ x C.cn 0 with
 |some j=>Br r C x es p j (lk x C.cl)
 |none=>Bs r C x es p (lk x JP)
def trK(x:Í)(es:List Î)(kws:List Ŋ):Option Ex:=match es with
 |[a]=>(match kws with
  |[⟨À y,d,_⟩]=>gu C.ck (x==("min":Í)&&y==("default":Í)&&cN d&&(jT C "min"&&cX a)) ((r.E C a).map .mnd)
  |[⟨À y,.Lambda ps body sc lp,_⟩,⟨À z,d,_⟩]=>gu C.ck (x==("min":Í)&&y==("key":Í)&&z==("default":Í)&&(cN d&&jT C "min"&&cX a&&(OQ C lp&&Cw C sc ps))) ((r.E C a).bind fun a=>(r.E (IV C sc) body).bind fun b=>gu C.ck (mR b) (À (.mnk a b)))
  |_=>Á)
 |_=>Á
noncomputable def miA(q:Mi)(es:List Î):Mi:=match q,es with
 |q,_=>q
def GB(o:Î)(m:Í)(a:ĥ)(es:List Î)(p:ĥ):Option Ex:=gu C.ck (es.all cX&&Nat.blt es.length 30&&qu o&&(a.endLine==p.line)) (match at_ m C.cn 0 with
 |some j=>C.cl.head?.bind fun q=>gu C.ck (MB C j q.1 m (es.length+1)) (m2 (.me q.1 m j) (r.E C o) (lF r C es))
 |none=>(lk m Iu).bind fun q=>m2 (.mt (miA q es)) (r.E C o) (lF r C es))
def trSl(a:Î)(l h st:Option Î)(p:ĥ):Option Ex:=match st with
 |none =>
  m3 (fun a l h=>.nw (hB C p 0) (.sl a l h)) (r.E C a) (trO r C l) (trO r C h)
 |some _=>Á
def trCe(a:Î)(c:List ϧ)(bs:List Î):Option Ex:=match c with
 |[o]=>(match bs with
  |[b]=>gu C.ck (mT o b) (m2 (.cmp o) (r.E C a) (r.E C b))
  |_=>Á)
 |_=>Á
def trCt(a:Î)(c:List ϧ)(bs:List Î):Option Tx:=match c with
 |[o]=>(match bs with
  |[b]=>gu C.ck (mT o b) (m2 (.cmp o) (r.E C a) (r.E C b))
  |_=>Á)
 |_=>Á
def trE(e:Î):Option Ex:=match e with
 |.Constant k _ _=>kX k
 |.Name x _=>Da C x
 |.BinOp a o b p =>
  if hB C p 1=Ã then gu C.ck (decide (o=.Add)) (m2 (fun x y=>.nw (hB C p 0) (.cat x y)) (r.E C a) (r.E C b)) else
  (match lsO a with
  |some d=>gu C.ck (decide (o=.Mult)) (m2 (fun x y=>.nw (hB C p 0) (.rep x y)) (lF r C d) (r.E C b))
  |none=>m2 (.bin o) (r.E C a) (r.E C b))
 |.Compare a os bs _=>trCe r C a os bs
 |.UnaryOp o a _=>(match o with
  |.Not=>(r.E C a).map .no
  |o=>(r.E C a).map (.un o))
 |.BoolOp o d _=>wN r C o d
 |.IfExp t a b _=>m3 .ife (r.T C t) (r.E C a) (r.E C b)
 |.Subscript a i p=>(match i with
  |.Slice l h st _=>trSl r C a l h st p
  |i=>gu C.ck (kz i) (m2 .ix (r.E C a) (r.E C i)))
 |.Tuple d _ _=>(lF r C d).map .tu
 |.List d p=>(lF r C d).map fun x=>.nw (hB C p 0) (.li x)
 |.ListComp elt gens sc p=>(trL r C elt gens sc).map fun x=>.nw (hB C p 0) x
 |.Dict ks vs _=>gu C.ck (ks.isEmpty&&vs.isEmpty) (À .dn)
 |.Attribute o f _=>(uY f C.cl).bind fun c=>gu C.ck (qu o) ((r.E C o).map (.fd c f))
 |.Call f d kws p=>(match f with
  |.Name x _=>(match kws with
   |[]=>Db r C x d p
   |kws=>trK r C x d kws)
  |.Attribute o m ap=>gu C.ck kws.isEmpty (GB r C o m ap d p)
  |_=>Á)
 |_=>Á
def trT(e:Î):Option Tx:=match e with
 |.UnaryOp o a p=>(match o with
  |.Not=>(r.T C a).map .no
  |o=>(r.E C (.UnaryOp o a p)).map .va)
 |.BoolOp o es _=>wM r C o es
 |.Compare a os bs _=>trCt r C a os bs
 |e=>gu C.ck (zj e) ((r.E C e).map .va)
def qf(x:Í):Option Tg:=(at_ x C.N 0).bind fun k=>gu C.ck (Cp C x&&DL x) (À (.nm k))
def trG(e:Î):Option Tg:=match e with
 |.Name x _=>qf C x
 |.Tuple es _ _=>gu C.ck (es.all cX) ((wL r C es).map (.tu es.length))
 |.Subscript a b _=>gu C.ck (kz b) (m2 .su (r.E C a) (r.E C b))
 |_=>Á
def trAn(x:Í)(v:Î):Option Sx:=match v with
 |.ListComp elt gens sc q=>m2 .as ((trL r C elt gens sc).map fun x=>.nw (hB C q 0) x) (qf C x)
 |v=>gu C.ck (pe v) (m2 .as (r.E C v) (qf C x))
def trAs(t v:Î):Option Sx:=match t with
 |.Attribute o f _=>(uY f C.cl).bind fun c=>m2 (.fl c f) (r.E C o) (r.E C v)
 |.Name x _=>trAn r C x v
 |.Subscript a b p=>m2 .as (r.E C v) (r.G C (.Subscript a b p))
 |.Tuple ts k p=>(match v with
  |v=>gu C.ck (tO v&&pe v) (m2 .as (r.E C v) (r.G C (.Tuple ts k p))))
 |_=>Á
def trS(s:ľ):Option Sx:=match s with
 |.Expr e _=>gu C.ck (pe e) ((r.E C e).map .ex)
 |.Assign ts v _=>(match ts with
  |[t]=>trAs r C t v
  |_=>Á)
 |.AugAssign t o v _=>(match t with
  |.Subscript a b _=>gu C.ck (kz b) (m3 (.aus o) (r.E C a) (r.E C b) (r.E C v))
  |_=>Á)
 |.Return e _=>(match e with
  |none=>Á
  |some e=>(r.E C e).map .rt)
 |.If t a b _=>m3 .iff (r.T C t) (oQ r C a) (oQ r C b)
 |.For t it b els p=>gu C.ck (els.isEmpty&&Cg it) (
  if hB C p 4=Ã then m3 .fd (r.E C it) (r.G C t) (oQ r C b) else
  m3 .fo (trI r C t it) (r.G C t) (oQ r C b))
 |.While t b els _=>gu C.ck els.isEmpty (m2 .wh (r.T C t) (oQ r C b))
 |.Raise _ _ _=>À .dead
 |_=>Á
end
theorem Jk{α:Type}{c:Bool}{x:Option α}:gu Ä c x=x:=rfl
theorem Fo{a b:String}(h:Ć a=Ć b):a=b:=by
 rw[Str.ofString_eq_byList]at h;have h:=congrArg (fun x=>x.cps.toList) h;exact String.toList_inj.mp (List.map_inj_right (fun x y e=>Char.toNat_inj.mp e) |>.mp h)
theorem Ih{a b:String}:(Ć a==Ć b)=decide (a=b):=by
 by_cases h:a=b
 ·subst h;simp
 ·rw[yB h]
  exact beq_eq_false_iff_ne.mpr fun e=>h (Fo e)
def tr:Nat->Tr
 |0=>⟨fun _ _=>Á,fun _ _=>Á,fun _ _=>Á,fun _ _=>Á⟩
 |n+1=>⟨trE (tr n),trT (tr n),trG (tr n),trS (tr n)⟩
section
variable{n:Nat}
theorem Nd:(tr (n+1)).E=trE (tr n):=rfl
theorem Na:(tr (n+1)).T=trT (tr n):=rfl
theorem Nc:(tr (n+1)).G=trG (tr n):=rfl
theorem Nb:(tr (n+1)).S=trS (tr n):=rfl
end
theorem uS:type_of% @trS.eq_def:=@trS.eq_def
theorem uE:type_of% @trE.eq_def:=@trE.eq_def
theorem uT:type_of% @trT.eq_def:=@trT.eq_def
theorem uG:type_of% @trG.eq_def:=@trG.eq_def
theorem Oz:type_of% @trAs.eq_def:=@trAs.eq_def
theorem OA:type_of% @trAn.eq_def:=@trAn.eq_def
theorem uK:type_of% @trK.eq_def:=@trK.eq_def
theorem Oy:type_of% @trCe.eq_def:=@trCe.eq_def
theorem Ow:type_of% @trCt.eq_def:=@trCt.eq_def
theorem uI:type_of% @trI.eq_def:=@trI.eq_def
theorem Ot:type_of% @trIc.eq_def:=@trIc.eq_def
theorem Op:type_of% @trSl.eq_def:=@trSl.eq_def
theorem uL:type_of% @trL.eq_def:=@trL.eq_def
theorem Ov:type_of% @trEn.eq_def:=@trEn.eq_def
theorem uR:type_of% @trR.eq_def:=@trR.eq_def
theorem uZ:type_of% @trZ.eq_def:=@trZ.eq_def
theorem Ou:type_of% @trF1.eq_def:=@trF1.eq_def
theorem Os:type_of% @trLf.eq_def:=@trLf.eq_def
theorem Oq:type_of% @trLr.eq_def:=@trLr.eq_def
theorem uO:type_of% @trO.eq_def:=@trO.eq_def
theorem uC:type_of% @trC.eq_def:=@trC.eq_def
theorem uX:type_of% @kX.eq_def:=@kX.eq_def
theorem uM:type_of% @nmO.eq_def:=@nmO.eq_def
theorem uN:type_of% @lsO.eq_def:=@lsO.eq_def
theorem uP:type_of% @miA.eq_def:=@miA.eq_def
def J7[Qc](P:Ô)(w:Ü)(K:à)(mg:Í->Option Å)(base:é)(A:Č)(fn:Fn):Ke->Prop
 |.f x n=>∃d f fd ps,ps.length=n/\FnOk P w K mg base f9 d f fd ps (eN ⟨K,mg⟩ ps.length fn)/\Room d A/\mg x=À (.ref f)/\Ĺ K (.ref f)=Ã/\Binds K fd ps []
 |.m c m n=>∃d f fd ps C,ps.length=n/\FnOk P w K mg base f9 d f fd ps (eN ⟨K,mg⟩ ps.length fn)/\Room d A/\mg c=À (.ref C)/\Cls K C/\lC K C m f/\Binds K fd ps []
 |.k c n=>∃d f fd ps C,ps.length=n/\FnOk P w K mg base f9 d f fd ps (eN ⟨K,mg⟩ ps.length fn)/\Room (d+1) A/\mg c=À (.ref C)/\Mk K C f/\Binds K fd ps []
structure Fit[Qc](X:Cx)(C:SC)(ks:List Fn):Prop where
 N:X.N=C.N
 ck:C.ck=Ã
 nm:X.env.scope.names=C.nm
 nd:C.N.Nodup
 kind:X.env.scope.kind=.function
 calm:X.calm=Ã
 cf:∀x∈C.cf,X.fn x=Ã
 hu:X.A.units+64<ř
 gd:X.A.guards=À []
 bl:∀x∈bnames,X.mg x=Á
 po:Ϫ (model X.prog X.w) X.A X.env X.xe
 ke:∀(j:Nat) k,C.ke[j]?=À k->J7 X.prog X.w X.K X.mg X.base X.A (kf ks j) k
 gs:∀p∈C.gs,∀w,qU p.2=À w->∃u,X.mg p.1=À u/\RelV w u
 cl:∀p∈C.cl,∃Ca,X.mg p.1=À (.ref Ca)/\Cls X.K Ca/\∀f∈p.2,NoAttr X.K Ca f
 la:∀p∈C.la,Room 2 X.A/\∃c P,X.env.code=.ref c/\X8 X.base c P/\j5 X.mg X.base/\(P,p,X.env.qual++"<lambda>")∈Qc.tb/\∀t∈Qc.tb,t.1=P->t=(P,p,X.env.qual++"<lambda>")
section
variable{X:Cx}{C:SC}{ks:List Fn}
theorem Fit.kdO[Qc](F:Fit X C ks)(x:Í):X.env.kindOf x=kd C x:=by unfold kd;rw[<- F.nm];rfl
theorem Fit.vis[Qc](F:Fit X C ks)(h:Bh C x=Ã):AY X.env.scope x:=by
 unfold Bh kd at h;rw[<- F.nm]at h;unfold AY;split at h
 ·rename_i e;exact .inl e
 ·rename_i e;exact .inr (.inl e)
 ·rename_i e;exact .inr (.inr e)
 ·cases h
theorem Fit.loc[Qc](F:Fit X C ks)(h:Cp C x=Ã):L2.Loc X.env.scope x/\(X.fn x=Ã\/X.env.scope.names.lookup x=À .local):=by
 unfold Cp kd at h;rw[<- F.nm]at h;unfold L2.Loc;split at h
 ·rename_i e;exact⟨.inl e,.inr e⟩
 ·rename_i e;exact⟨.inr e,.inl (F.cf x (by simpa using h))⟩
 ·cases h
theorem uQ(h:DL x=Ã):(x==("__debug__":Í))=Ä/\(x==("__classdict__":Í))=Ä:=dQ h fun b a=>⟨by simpa using b,by simpa using a⟩
theorem Fit.gl[Qc](F:Fit X C ks)(h:jT C x=Ã):Gl X x/\(x==("__debug__":Í))=Ä:=by
 unfold jT at h;refine dQ h fun a b=>⟨?_,(uQ b).1⟩
 unfold Gl;rw[F.kdO];split at a
 ·rename_i e;exact e
 ·cases a
theorem Fit.nmb[Qc](F:Fit X C ks){k:Nat}(h:at_ x C.N 0=À k):X.N[k]?=À x:=by rw[F.N];exact JT h
theorem Fit.clb[Qc](F:Fit X C ks){c f:Í}(h:uY f C.cl=À c):∃Ca,X.mg c=À (.ref Ca)/\Cls X.K Ca/\NoAttr X.K Ca f:=by
 obtain⟨fs,g,e⟩:=AL h;obtain⟨Ca,a,b,d⟩:=F.cl _ g;exact⟨Ca,a,b,d f e⟩
theorem Fit.blt[Qc](F:Fit X C ks)(h:x∈bnames):X.mg x=Á:=F.bl x h
theorem Jw(b:Ŭ):MJ b=(b==Û):=by cases b<;>rfl
theorem JI(o:Option Ŭ):DN o=(o==À ě):=by
 cases o with
 |none=>rfl
 |some k=>cases k<;>rfl
theorem Fit.blk[Qc](F:Fit X C ks)(h:ve C sc=Ã):kr X (fM C sc) sc/\∀cl s H fp Qa,Fit (cY X (fM C sc) sc cl s H fp Qa) (R.blk C sc) ks:=by
 unfold ve at h;simp only[zC,yD]at h;obtain⟨⟨⟨⟨u,r⟩,z⟩,y⟩,w⟩:=h;have t:sc.kind=.function:=by
  split at u
  ·rename_i e;exact e
  ·cases u
 have j:C.N.length<=(fM C sc).length:=by unfold fM;rw[zV,zH];lia
 have l:∀x,(x,Û)∈sc.names->X.env.kindOf x=À .cell\/X.env.kindOf x=À .free:=fun x f=>by
  have:=yS.mp y _ f
  simp only at this;rw[F.kdO];split at this
  ·rename_i e;exact .inl e
  ·rename_i e;exact .inr e
  ·cases this
 have m:∀i x,i<X.N.length->(fM C sc)[i]?=À x->(∀k,(x,k)∈sc.names->k=.free/\X.N[i]?=À x):=fun i x d e k c=>by
  rw[F.N]at d ⊢
  have:=yS.mp w i (Ò.mpr d)
  rw [e] at this;simp only at this;have v:=dM r c;rw [v] at this;cases k <;> simp only at this <;> first | (cases this;done) | exact ⟨rfl,of_decide_eq_true this⟩
 refine ⟨⟨t,r,by rw [F.N];exact j,l,fun i x d e c=>(m i x d e _ c).2,fun i x d e n=>by obtain ⟨k,c⟩:=n;have:=(m i x d e k c).1;subst this;exact c⟩,fun cl s H fp Qa=>?_⟩;refine ⟨rfl,F.ck,?_,z,t,F.calm,fun x f=>?_,F.hu,F.gd,F.bl,PassesOwn.never,F.ke,F.gs,F.cl,fun p q=>absurd (show p ∈ ([]:List ĥ) from q) (by simp)⟩
 ·show(relabel sc X.env).names=_
  unfold relabel R.blk;dsimp only;rw[F.kind,F.ck];apply ķ;intro p _;obtain⟨a,b⟩:=p;simp only[F.kdO,Jw,JI];simp
 ·unfold R.blk at f
  rw[F.ck]at f;obtain⟨p,q,e⟩:=yE.mp f;obtain⟨o,g⟩:=ú.mp q;obtain⟨a,b⟩:=p;dsimp only at e g;subst e;have:b=.cell:=by cases b<;>first|rfl|cases g
  subst this;show(sc.names.lookup a==À ě)=Ã;rw[dM r o];rfl
end
section
variable{X:Cx}{C:SC}{ks:List Fn}
theorem Fit.lam[Qc](F:Fit X C ks)(n:Room 2 X.A)(h:Cw C sc ps=Ã):∃x,xR X (fM C sc) sc x/\plainA ps=Ã/\ps.args.map (·.arg)=[x]/\X3 ps X.env=([],[]) /\
  ∀cl f q cd s H,Fit (uU X (fM C sc) sc cl f q cd X.A.in1 s H) (IV C sc) ks:=by
 unfold Cw at h;simp only[zC]at h;obtain⟨⟨⟨⟨⟨⟨⟨b,D⟩,B⟩,A⟩,z⟩,w⟩,a⟩,v⟩:=h;obtain⟨m,_⟩:=F.blk b;split at a
 ·rename_i x y ex E
  simp only[zC]at a;have g:=yL a.1;subst g;have u:sc.names.lookup x=À .local:=by
   have:=a.2
   split at this
   ·rename_i e;exact e
   ·cases this
  have l:fM C sc=(C.N.map fun x=>if uk sc x=Ã then x else Jj C.ck x)++[x]:=by unfold fM;rw[ex]
  refine⟨x,⟨m,by simpa using D,by simpa using B,by rw[l,F.N];simp,by rw[l,F.N];simp,u,fun y o e=>?_⟩,A,E,?_,fun cl f q cd s H=>?_⟩
  ·have:=yS.mp v y o
   rw[e]at this;cases this
  ·obtain⟨a1,a2,N,M,K,L,J⟩:=ps
   have I:J=[]:=ë.mp z;have G:K=[]:=ë.mp w;subst I;subst G;rfl
  ·have c:(fM C sc).Nodup:=by
    unfold ve at b;simp only[zC,yD]at b;exact b.1.1.2
   have d:sc.kind=.function:=m.kind;have r1:Room 1 X.A.in1:=n.in1;have i:=Room.deeper r1 (X1 sc s.heap.objs.size Ð cl (q++".<locals>.") (À f) cd Á ę);refine ⟨rfl,F.ck,(by show _=vC C.ck sc.names;rw [F.ck];rfl),c,d,rfl,fun x r=>absurd (show x ∈ ([]:List Í) from r) (by simp),i.units,i.gd,F.bl,PassesOwn.never,fun j k e=>absurd (show ([]:List Ke)[j]?=À k from e) (by simp),F.gs,F.cl,fun p t=>absurd (show p ∈ ([]:List ĥ) from t) (by simp)⟩
 ·cases a
end
mutual
theorem vI{n:Nat}:∀{t:Tg},qk n t=Ã->p5 n (cP ks t)
 |.nm k,h=>by
  simp only[qk]at h;have hk:=zS h;simp only[cP];intro x d c b a e;cases e;exact⟨ç,fun j f=>ñ oM⟩
 |.tu m ts,h=>by
  simp only[qk]at h;simp only[cP];intro x d c b a e;unfold Ay at e;split at e
  ·split at e
   ·exact ou h _ _ _ _ _ e
   ·cases e
  ·split at e
   ·split at e
    ·exact ou h _ _ _ _ _ e
    ·cases e
   ·cases e
 |.su _ _,h=>by simp only[qk]at h;cases h
theorem ou{n:Nat}:∀{ts:Tgs},sy n ts=Ã->∀xs sl st sl' st',j9 ks ts xs sl st=À (sl',st')->sl'.length=sl.length/\∀j,j<n->sl'[j]?=sl[j]?
 |.nil,_,xs,sl,st,sl',st',e=>by
  simp only[j9]at e;cases xs with
  |nil=>cases e;exact⟨rfl,fun _ _=>rfl⟩
  |cons _ _=>cases e
 |.cons t ts,h,xs,sl,st,sl',st',e=>by
  simp only[sy,zC]at h;simp only[j9]at e;cases xs with
  |nil=>cases e
  |cons x xs =>
   obtain⟨p,e1,e2⟩:=zA e;obtain⟨a1,a2⟩:=vI h.1 _ _ _ _ _ e1;obtain⟨c,b⟩:=ou h.2 _ _ _ _ _ e2;exact⟨c.trans a1,fun j a=>(b j a).trans (a2 j a)⟩
end
theorem m7{r:Tr}(b:C.ck=Ã):∀{es:List Î}{as:Exs},lF r C es=À as->∀sl st xs st',fK ks as sl st=À (xs,st')->xs.length=es.length
 |[],as,h,sl,st,xs,st',e=>by cases h;cases e;rfl
 |x::es,as,h,sl,st,xs,st',e=>by
  refine aX b h fun _ h=>?_
  revert e
  refine cH h fun a as _ h2 e=>?_
  obtain⟨p,e1,e2⟩:=zA e;obtain⟨q,d,c⟩:=zA e2;cases c;rw[yZ,yZ,m7 b h2 _ _ _ _ d]
theorem L8:ò "len"=À (.builtin "len"):=by decide +kernel
theorem L5:ò "sum"=À (.builtin "sum"):=by decide +kernel
theorem L9:ò "abs"=À (.builtin "abs"):=by decide +kernel
theorem L6:ò "min"=À (.builtin "min"):=by decide +kernel
theorem L7:ò "max"=À (.builtin "max"):=by decide +kernel
section
variable{X:Cx}{C:SC}{ks:List Fn}
theorem L4[Qc](F:Fit X C ks)(b:Bi){e:Î}{es:List Î}{g:AF}{p pos:ĥ}(f:jT C b.nm=Ã)(d:QA X (e::es) g)(hs:(e::es).all cX=Ã):QE X (.Call (.Name b.nm p) (e::es) [] pos) (wB (rV b) g):=by
 have gl:=F.gl f;rw[Ļ,zC]at hs;have c:=aH (env:=X.env) (es:=es) hs.1;have a:=jo (env:=X.env) (pos:=pos) hs.2;cases b with
 |len=>exact oZ L0 gl.1 (F.blt dC) L8 d dC gl.2 c a
 |sum=>exact oZ (LX F.calm) gl.1 (F.blt dC) L5 d dC gl.2 c a
 |abs=>exact oZ L1 gl.1 (F.blt dC) L9 d dC gl.2 c a
 |min=>exact oZ (LY F.calm) gl.1 (F.blt dC) L6 d dC gl.2 c a
 |max=>exact oZ (LZ F.calm) gl.1 (F.blt dC) L7 d dC gl.2 c a
theorem Lc[Qc](F:Fit X C ks)(m:Mi){o:Î}{es:List Î}{f:EF}{g:AF}{l p:ĥ}(h:QE X o f)(j:QA X es g)(q:es=[]->g=fB)(hs:es.all cX=Ã)(n:es.length<30)(k:qu o=Ã)(b:(l.endLine==p.line)=Ã) :
  QE X (.Call (.Attribute o m.nm l) es [] p) (mJ (tU m) (tT m) f g):=by
 cases es with
 |nil =>
  have:=q rfl
  subst this;have a:=gT (env:=X.env) (f:=m.nm) (eval o X.env) k;cases m with
  |app=>exact oY ÿ m? l! Dq h a b
  |ext=>exact oY ÿ l? k? Do h a b
  |cnt=>exact oY ÿ Š n? (Dp F.hu) h a b
  |bl=>exact oY p? ϻ Ϻ II h a b
 |cons e es =>
  have a:=gT (env:=X.env) (f:=m.nm) (eval o X.env) k;have c:=ML (env:=X.env) (cpos:=p) hs n;rw[Ļ,zC]at hs;have i:=aH (env:=X.env) (es:=es) hs.1;have d:=jo (env:=X.env) (pos:=p) hs.2;cases m with
  |app=>exact sC ÿ m? l! Dq h j a c b i d
  |ext=>exact sC ÿ l? k? Do h j a c b i d
  |cnt=>exact sC ÿ Š n? (Dp F.hu) h j a c b i d
  |bl=>exact sC p? ϻ Ϻ II h j a c b i d
theorem HJ[Qc]{P:Ô}{w:Ü}{K:à}{mg:Í->Option Å}{base:é}{k:Nat}{f:Ç}{fd:Ĕ}{ps:List Í}{n:Nat}{fn:Fn}(b:Bool)(F:FnOk P w K mg base f9 k f fd ps (eN ⟨K,mg⟩ n fn)):FnOk P w K mg base f9 k f fd ps (eN ⟨K,mg⟩ n (zh b fn)):=by
 cases b
 ·exact F
 ·exact FnOk.pm F
end
theorem kY{ks:List Fn}:∀{e:Ex},mR e=Ã->DW (ev ks e)
 |.v k,_=>fun sl st v st' e=>by
  have e:aV k sl st=À (v,st'):=e;unfold aV at e;split at e
  ·cases e;rfl
  ·cases e
 |.i k,_=>fun sl st v st' e=>by
  cases e;rfl
 |.ix a b,h=>fun sl st v st' e=>by
  refine dQ h fun n m=>?_
  obtain⟨p,j,i⟩:=zA e;obtain⟨q,l,g⟩:=zA i;obtain⟨z,r,d⟩:=zE.mp g;cases d;rw[kY m _ _ _ _ l,kY n _ _ _ _ j]
 |.fd c f o,h=>fun sl st v st' e=>by
  obtain ⟨p,j,i⟩:=zA e;obtain ⟨q,l,g⟩:=zA i;obtain ⟨z,r,d⟩:=zE.mp g;cases d;rw [kY (show mR o=Ã from h) _ _ _ _ j]
theorem Lf{α d c:Type}{f:α->d->c}{x:Option α}{y:Option d}{m:c}(h:m2 f x y=À m):∃a b,x=À a/\y=À b/\m=f a b:=cH h fun a b g e=>⟨a,b,g,e,rfl⟩
structure CW[Qc](r:Tr)(ks:List Fn):Prop where
 E:∀{X:Cx}{C:SC}{e:Î}{m:Ex},Fit X C ks->r.E C e=À m->QE X e (ev ks m)
 T:∀{X:Cx}{C:SC}{e:Î}{m:Tx},Fit X C ks->r.T C e=À m->QT X e (tv ks m)
 G:∀{X:Cx}{C:SC}{e:Î}{m:Tg},Fit X C ks->r.G C e=À m->QG X e (cP ks m)
 S:∀{X:Cx}{C:SC}{s:ľ}{m:Sx},Fit X C ks->r.S C s=À m->QS X s (cT ks m)
section
variable[Qc]{ks:List Fn}{r:Tr}(R:CW r ks){X:Cx}{C:SC}(F:Fit X C ks)
include R F
theorem gY:∀{es:List Î}{m:Exs},lF r C es=À m->QA X es (fK ks m)
 |[],m,h=>by cases h;exact fH
 |e::es,m,h=>aX F.ck h fun h0 h=>cH h fun a as h1 h2=>c9 (R.E F h1) (gY h2) (aH h0)
theorem yd{e:Option Î}{m:Ox}(h:trO r C e=À m):QO X e (pQ ks m):=by
 cases e with
 |none=>cases h;exact EN
 |some e=>exact cS h fun a h=>EM (R.E F h)
theorem jn:∀{ss:List ľ}{m:Qm},oQ r C ss=À m->oj X ss (ae ks m)
 |[],m,h=>by cases h;exact EH
 |s::ss,m,h=>cH h fun a as h1 h2=>BN (R.S F h1) (jn h2)
theorem vG:∀{es:List Î}{m:Tgs},wL r C es=À m->A4 X es (j9 ks m)
 |[],m,h=>by cases h;exact ES
 |e::es,m,h=>aX F.ck h fun h0 h=>cH h fun a as h1 h2=>BP (R.G F h1) (vG h2) (CG h0)
theorem qh{o:N!}{p:ĥ}:∀{x:Î}{es:List Î}{m:Ex},wN r C o (x::es)=À m->QE X (.BoolOp o (x::es) p) (ev ks m)
 |x,[],m,h=>by cases o<;>exact HV (R.E F h)
 |x,y::es,m,h=>cH h fun a b h1 h2=>by
  cases o
  ·exact Hz (R.E F h1) (qh h2)
  ·exact KK (R.E F h1) (qh h2)
theorem qg{o:N!}{p:ĥ}:∀{x:Î}{es:List Î}{m:Tx},wM r C o (x::es)=À m->QW X (.BoolOp o (x::es) p) (tv ks m)
 |x,[],m,h=>G9 o (R.T F h)
 |x,y::es,m,h=>cH h fun a b h1 h2=>by
  cases o
  ·exact Ha (R.T F h1) (qg h2)
  ·exact KA (R.T F h1) (qg h2)
theorem GH{es:List Î}{m:Cx'}(h:trC r C es=À m):wC X es (kK ks m):=by
 rcases es with _|⟨e,_|_⟩
 ·cases h;exact ER
 ·exact cS h fun a h=>EQ (R.T F h)
 ·exact bJ h
omit R in
theorem Gx{x:Í}{p:ĥ}{m:Ex}(h:Da C x=À m):QE X (.Name x p) (ev ks m):=by
 unfold Da at h;split at h
 ·rename_i k g
  refine aX F.ck h fun e h=>dQ e fun d a=>?_
  cases h;exact Hs (F.nmb g) (F.vis d) (uQ a).1 (uQ a).2
 ·refine iH h fun c i h=>aX F.ck h fun e h=>dQ e fun d a=>?_
  cases h;obtain⟨w,f⟩:=Ķ.mp a;obtain⟨u,b,j⟩:=F.gs _ (sH i) w f;obtain⟨g1,l⟩:=F.gl d;exact tJ f (Fh g1 b j l) fun _ _ _ h=>h
omit R F in
theorem yc{t:Î}(h:(!tO t)=Ã):∃ts k p,t=.Tuple ts k p:=by
 cases t with
 |Tuple ts k p=>exact⟨ts,k,p,rfl⟩
 |_=>exact nD h
theorem yf{t e:Î}{m:Ix}(h:trI r C t e=À m):QI X t e (d6 ks m):=by
 have v:∀{m},(r.E C e).map .e=À m->QI X t e (d6 ks m):=fun h=>cS h fun a h=>NE (R.E F h)
 cases e with
 |Call f es kws p =>
  have h:trIc r C t _ es kws (nmO f)=À m:=h;cases i:nmO f with
  |none=>rw[i]at h;exact v h
  |some x =>
   rw[i]at h;obtain⟨q,rfl⟩:=Aa i;unfold trIc at h;split at h
   ·rename_i w
    rw[yL w];refine aX F.ck h fun u g=>lK u fun o D j=>?_
    cases ë.mp D;rcases es with _|⟨a,_|⟨b,_|⟨c,_|_⟩⟩⟩
    ·exact bJ g
    ·refine dQ j fun l _=>?_
     exact cS g fun x i=>KH (F.gl o).1 (F.blt dC) (R.E F i) (aH l)
    ·refine dQ j fun l j=>dQ j fun n _=>?_
     exact cH g fun x y i s=>KF (F.gl o).1 (F.blt dC) (R.E F i) (R.E F s) (by rw[aH l,aH n];rfl) (aH n)
    ·refine dQ j fun l j=>dQ j fun n j=>dQ j fun B _=>?_
     exact kZ g fun x y z i s hz=>KD (F.gl o).1 (F.blt dC) (R.E F i) (R.E F s) (R.E F hz) (by rw[aH l,aH n,aH B];rfl) (by rw[aH n,aH B];rfl) (aH B)
    all_goals exact bJ g
   ·split at h
    ·rename_i w
     rw[yL w];refine aX F.ck h fun u g=>rW u fun o D j A=>?_
     cases ë.mp D;obtain⟨E,k,tp,rfl⟩:=yc A;rcases es with _|⟨a,_|⟨b,_|⟨c,_|⟨d,_|_⟩⟩⟩⟩
     ·exact bJ g
     ·exact bJ g
     ·refine dQ j fun l j=>dQ j fun n _=>?_
      exact cH g fun x y i s=>Hn (F.gl o).1 (F.blt dC) (R.E F i) (R.E F s) (by rw[aH l,aH n];rfl) (aH n)
     ·exact bJ g
     all_goals exact bJ g
    ·split at h
     ·rename_i w
      rw[yL w];refine aX F.ck h fun u g=>lK u fun o j A=>?_
      obtain⟨E,k,tp,rfl⟩:=yc A;rcases es with _|⟨a,_|_⟩
      ·exact bJ g
      ·refine dQ j fun l _=>?_
       unfold trEn at g;dsimp only at g;split at g
       ·exact cS g fun x i=>KI (F.gl o).1 (F.blt dC) (R.E F i) (aH l)
       ·refine aX F.ck g fun u g=>?_
        rw[yL u];exact cH g fun x y i s=>Ho (F.gl o).1 (F.blt dC) (R.E F i) (R.E F s) (aH l)
       ·exact bJ g
      ·exact bJ g
     ·exact v h
 |_=>exact v h
theorem ye{elt:Î}{gens:List Comprehension}{sc:ğ}{m:Nx}(h:trL r C elt gens sc=À m):∃t it cs x g c y N',gens=[⟨t,it,cs,0⟩]/\m=.lc (N'.length-X.N.length) x g c y/\kr X N' sc/\QI X t it (d6 ks x)/\(∀cl s H fp Qa,QG (cY X N' sc cl s H fp Qa) t (cP ks g))/\(∀cl s H fp Qa,wC (cY X N' sc cl s H fp Qa) cs (kK ks c)) /\
  (∀cl s H fp Qa,QE (cY X N' sc cl s H fp Qa) elt (ev ks y))/\p5 X.N.length (cP ks g)/\(∀x,ü it X.env x=pure x):=by
 unfold trL at h;split at h
 ·rename_i t it cs i
  refine aX F.ck h fun p h=>lK p fun o n l=>iH h fun x d h=>iH h fun g e h=>aX F.ck h fun j k=>?_
  cases yL n;obtain⟨T,a⟩:=F.blk o;obtain⟨c,y,f,b,rfl⟩:=Lf k;exact⟨t,it,cs,x,g,c,y,fM C sc,rfl,by rw[F.N],T,yf R F d,fun cl s H fp Qa=>R.G (a cl s H fp Qa) e,fun cl s H fp Qa=>GH R (a cl s H fp Qa) f,fun cl s H fp Qa=>R.E (a cl s H fp Qa) b,by rw[F.N];exact vI j,tz l⟩
 ·exact bJ h
theorem Eo{x:Í}{es:List Î}{p e:ĥ}{m:Ex}(h:trF1 r C x e es=À m):QE X (.Call (.Name x p) es [] e) (ev ks m):=by
 rcases es with _|⟨a,_|⟨b,_|_⟩⟩
 ·exact bJ h
 ·skip
  refine aX F.ck h fun s g=>lK s fun d o z=>?_
  rw[yL d];clear h;have t:∀{m},((r.E C a).map fun a=>Ex.nw (hB C e 0) (.lof a))=À m->QE X (.Call (.Name "list" p) [a] [] e) (ev ks m):=fun h=>cS h fun y h=>jd (Hl (F.gl o).1 (F.blt dC) (R.E F h) (aH z))
  cases a with
  |Call f es' kws' q =>
   refine aX F.ck g fun s k=>rW s fun n w v i=>?_
   obtain⟨A,rfl⟩:∃q,f=.Name "range" q:=by
    split at n
    ·rename_i y j
     obtain⟨q,rfl⟩:=Aa j;rw[yL n];exact⟨q,rfl⟩
    ·exact nD n
   cases ë.mp w;rcases es' with _|⟨a,_|⟨b,_|⟨c,_|_⟩⟩⟩
   ·exact bJ k
   ·exact dQ i fun l _=>cS k fun x d=>jd (Hk F.calm (F.gl o).1 (F.blt dC) (F.gl v).1 (F.blt dC) (R.E F d) (aH l))
   ·exact dQ i fun l i=>dQ i fun u _=>cH k fun x y d j=>jd (Hj F.calm (F.gl o).1 (F.blt dC) (F.gl v).1 (F.blt dC) (R.E F d) (R.E F j) ((aH l).trans (by rw[aH u];rfl)) (aH u))
   ·exact bJ k
   all_goals exact bJ k
  |_=>first|exact t g|exact bJ g
 all_goals exact bJ h
theorem GE{x:Í}{es:List Î}{p E:ĥ}{m:Ex}(h:Db r C x es E=À m):QE X (.Call (.Name x p) es [] E) (ev ks m):=by
 unfold Db at h;split at h
 ·rename_i j _
  unfold Br at h;split at h
  ·refine aX F.ck h fun i h=>rW i fun a n D c=>cS h fun I h=>?_
   unfold MC at a;split at a
   ·rename_i S k B
    refine dQ a fun a1 a2=>?_
    obtain⟨d,f,P,w,T,A,Fn,s,H,M,l⟩:=F.ke j _ B;rw[yL a1]at H;obtain⟨g1,u⟩:=F.gl n;cases es with
    |nil=>exact nD D
    |cons Q o =>
     have t:w.length=o.length+2:=by rw[A];exact yL a2
     refine dQ c fun c N=>?_
     exact Hv M Fn s g1 H l (gY R F h) (fun L K J v e=>by rw[t,m7 F.ck h _ _ _ _ e];rfl) u (aH c) (jo N)
   ·exact nD a
  ·refine aX F.ck h fun i h=>lK i fun a n c=>cS h fun I h=>?_
   unfold MD at a;split at a
   ·rename_i y m B
    refine dQ a fun a i=>?_
    obtain⟨d,f,P,w,A,Fn,s,z,G,l⟩:=F.ke j _ B;obtain⟨g1,u⟩:=F.gl n;rw[yL a]at z;have t:w.length=es.length:=by rw[A];exact yL i
    cases es with
    |nil=>cases h;exact BR (HJ _ Fn) s g1 z G l t u
    |cons Q o =>
     refine dQ c fun c O=>?_
     exact EY (HJ _ Fn) s g1 z G l (gY R F h) (fun L K J v e=>by rw[t];exact m7 F.ck h _ _ _ _ e) u (aH c) (jo O)
   ·exact nD a
 ·unfold Bs at h
  split at h
  ·rename_i b l
   refine aX F.ck h fun i h=>lK i fun a n D=>cS h fun I g=>?_
   cases es with
   |nil=>exact nD n
   |cons e es =>
    obtain rfl:x=b.nm:=(show ∀ q ∈ JP,q.1=q.2.nm by decide) _ (sH l);exact L4 F b a (gY R F g) D
  ·exact Eo R F h
theorem GC{x:Í}{es:List Î}{kws:List Ŋ}{p K:ĥ}{m:Ex}(h:trK r C x es kws=À m):QE X (.Call (.Name x p) es kws K) (ev ks m):=by
 unfold trK at h;split at h
 rotate_left
 ·exact bJ h
 split at h
 ·refine aX F.ck h fun u h=>rW u fun t o n b=>dQ b fun b l=>cS h fun y g=>?_
  obtain⟨a,q,rfl⟩:=DO n;rw[yL t,yL o];exact EV F.calm (F.gl b).1 (F.blt dC) (R.E F g) (aH l)
 ·rename_i a y ps D sc B p1 z d p2
  refine aX F.ck h fun u h=>rW u fun t o n b=>rW b fun b l U k=>dQ k fun k S=>iH h fun y L h=>iH h fun w M h=>aX F.ck h fun Q h=>?_
  cases h;obtain⟨a,q,rfl⟩:=DO b;rw[yL t,yL o,yL n];obtain⟨q,N,i⟩:=Ų.mp k;have v:q=B:=by
   refine rW i fun J I G E=>?_
   cases q;cases B;cases yL J;cases yL I;cases yL G;cases yL E;rfl
  subst v;obtain⟨A,c,P,g1,Z,Y,W,V⟩:=F.la q N;obtain⟨x,T,O,j,e,FL⟩:=F.lam A S;exact EU F.calm (F.gl l).1 (F.blt dC) (R.E F L) (aH U) e g1 Z Y W T O j A.in1.depth (kY Q) (fun cl f c' s H=>R.E (FL cl f _ _ s H) M) V
 ·exact bJ h
theorem GA{o:Î}{f:Í}{z p:ĥ}{es:List Î}{m:Ex}(h:GB r C o f z es p=À m):QE X (.Call (.Attribute o f z) es [] p) (ev ks m):=by
 refine aX F.ck h fun L h=>rW L fun g K u t=>?_
 have c:es.length<30:=zJ (Ĵ _) (zS K);split at h
 ·rename_i j _
  refine iH h fun q _ h=>aX F.ck h fun l h=>?_
  revert h;intro h
  refine cH h fun a N i b=>?_
  unfold MB at l;split at l
  ·rename_i V D k I
   refine lK l fun a1 a2 O=>?_
   obtain⟨d,U,T,B,W,H,Fn,w,s,cl,n,y⟩:=F.ke j _ I;rw[yL a1]at s;rw[yL a2]at n;have x:B.length=es.length+1:=by rw[H];exact yL O
   cases es with
   |nil=>cases b;exact BQ (R.E F i) cl s n Fn w y x (vW u g c t)
   |cons M v =>
    have E:=vW (env:=X.env) (f:=f) (o:=o) (es:=M::v) u g c t;refine dQ g fun g J=>?_
    exact EW (R.E F i) cl s n Fn w y (gY R F b) (fun S Q P A e=>by rw[x,m7 F.ck b _ _ _ _ e]) (aH g) (jo J) E
  ·exact nD l
 ·refine iH h fun q G h=>cH h fun a N i b=>?_
  have e:f=(miA q es).nm:=by
   have e:=(show ∀ q ∈ Iu,q.1=q.2.nm by decide) _ (sH G);dsimp only at e;rw [e];cases q <;> first | rfl | (cases es <;> rfl)
  subst e;exact Lc F _ (R.E F i) (gY R F b) (fun e=>by subst e;cases b;rfl) g c u t
theorem En{a:Î}{l h s:Option Î}{p q:ĥ}{m:Ex}(e:trSl r C a l h s p=À m):QE X (.Subscript a (.Slice l h s q) p) (ev ks m):=by
 cases s with
 |none =>
  unfold trSl at e;exact kZ e fun x y z c b hz=>jd (KC (R.E F c) (yd R F b) (yd R F hz))
 |some s =>
  exact bJ e
theorem GG{e:Î}{m:Ex}(h:trE r C e=À m):QE X e (ev ks m):=by
 cases e with
 |Constant k a p=>cases k with
  |none=>cases h;exact tJ (w:=.non) rfl HX fun _ _ _ h=>h
  |bool b=>cases h;exact tJ rfl K7 fun _ _ _ h=>h
  |int b=>cases h;exact tJ rfl HY fun _ _ _ h=>h
  |str b=>cases h;exact tJ rfl HU fun _ _ _ h=>h
  |_=>exact bJ h
 |Name x p=>exact Gx F h
 |BinOp a o b p =>
  unfold trE at h;split at h
  ·refine aX F.ck h fun j g=>?_
   cases of_decide_eq_true j;exact cH g fun x y d n=>jd (Hm (R.E F d) (R.E F n))
  ·split at h
   ·rename_i u B
    obtain⟨q,rfl⟩:=IN B;refine aX F.ck h fun j g=>?_
    cases of_decide_eq_true j;exact cH g fun x y d n=>jd (Hi (gY R F d) (R.E F n))
   ·exact cH h fun x y d n=>Hy (R.E F d) (R.E F n)
 |Compare a os bs p =>
  have h:trCe r C a os bs=À m:=h;rcases os with _|⟨o,_|⟨M,_|_⟩⟩
  ·exact bJ h
  ·rcases bs with _|⟨b,_|_⟩<;>first|exact bJ h|exact aX F.ck h fun j h=>cH h fun x y d n=>Hx F.hu (R.E F d) (R.E F n) j
  ·exact bJ h
  ·exact bJ h
 |UnaryOp o a p=>cases o with
  |Not=>exact cS h fun x d=>Hu (R.E F d)
  |_=>exact cS h fun x d=>KJ (R.E F d)
 |BoolOp o u p=>cases u with
  |nil=>exact bJ h
  |cons x u=>exact qh R F h
 |IfExp t a b p=>exact kZ h fun x y z d n hz=>KM (R.T F d) (R.E F n) (R.E F hz)
 |Subscript a i p=>cases i with
  |Slice l h' s q=>exact En R F h
  |_=>exact aX F.ck h fun j h=>cH h fun x y d n=>KL F.hu (R.E F d) (R.E F n) (Lr j)
 |Tuple u k p=>exact cS h fun x d=>Ht (gY R F d)
 |List u p=>exact cS h fun x d=>jd (EO (gY R F d))
 |ListComp elt gens sc p =>
  refine cS h fun x d=>?_
  obtain⟨t,it,N,i,g,c,y,O,rfl,rfl,T,a1,a2,L,K,J,I⟩:=ye R F d;exact jd (Dm F.calm T a1 a2 L K J I)
 |Dict k v p =>
  refine aX F.ck h fun j g=>dQ j fun H G=>?_
  cases g;cases ë.mp H;cases ë.mp G;exact EX B7
 |Attribute o f p =>
  refine iH h fun c D h=>aX F.ck h fun j h=>cS h fun x d=>?_
  obtain⟨P,E,cl,A⟩:=F.clb D;exact Hw (R.E F d) cl E A (gT _ j)
 |Call f u kws p=>cases f with
  |Name x q=>cases kws with
   |nil=>exact GE R F h
   |cons _ _=>exact GC R F h
  |Attribute o f q =>
   refine aX F.ck h fun j g=>?_
   cases ë.mp j;exact GA R F g
  |_=>exact bJ h
 |_=>exact bJ h
theorem Gy{e:Î}{m:Tx}(h:trT r C e=À m):QT X e (tv ks m):=by
 cases e with
 |UnaryOp o a p=>cases o with
  |Not=>exact cS h fun x c=>Hc (R.T F c)
  |_=>exact cS h fun x c=>yz (R.E F c) (vF rfl)
 |BoolOp o f p=>cases f with
  |nil=>exact bJ h
  |cons x f=>exact PW.pt (qg R F h)
 |Compare a os bs p =>
  have h:trCt r C a os bs=À m:=h;rcases os with _|⟨o,_|⟨i,_|_⟩⟩
  ·exact bJ h
  ·rcases bs with _|⟨b,_|_⟩<;>first|exact bJ h|exact aX F.ck h fun d h=>cH h fun x y c g=>He F.hu (R.E F c) (R.E F g) d
  ·exact bJ h
  ·exact bJ h
 |_=>exact aX F.ck h fun d h=>cS h fun x c=>yz (R.E F c) (vF d)
omit R in
theorem w6{x:Í}{m:Tg}(h:qf C x=À m):∃k,m=.nm k/\X.N[k]?=À x/\L2.Loc X.env.scope x/\(X.fn x=Ã\/X.env.scope.names.lookup x=À .local):=by
 refine iH h fun k c h=>aX F.ck h fun e h=>dQ e fun d _=>?_
 cases h;obtain⟨b,a⟩:=F.loc d;exact⟨k,rfl,F.nmb c,b,a⟩
theorem GD{e:Î}{m:Tg}(h:trG r C e=À m):QG X e (cP ks m):=by
 have i:X.N.Nodup:=by rw[F.N];exact F.nd
 cases e with
 |Name x p =>
  obtain⟨k,rfl,a,b,c⟩:=w6 F h;exact ET i a b c
 |Tuple es k p=>exact aX F.ck h fun f h=>cS h fun x d=>Hq F.calm (vG R F d) CH (CI f)
 |Subscript a b p=>exact aX F.ck h fun f h=>cH h fun x y d g=>Hr F.hu (R.E F d) (R.E F g) (GT f)
 |_=>exact bJ h
end
theorem yj{env:U7}{e o i:Î}{p:ĥ}{l:Nat}:Ϸ [.Subscript o i p] e l env=pure Ä:=by cases e<;>rfl
theorem yi{env:U7}{e:Î}{es:List Î}{k:Nat}{p:ĥ}{l:Nat}:Ϸ [.Tuple es k p] e l env=pure Ä:=by cases e<;>rfl
section
variable[Qc]{ks:List Fn}{r:Tr}(R:CW r ks){X:Cx}{C:SC}(F:Fit X C ks)
include R F
theorem Ep{t v:Î}{p:ĥ}{m:Sx}(h:trAs r C t v=À m):QS X (.Assign [t] v p) (cT ks m):=by
 have z:X.N.Nodup:=by rw[F.N];exact F.nd
 have nm:∀{x q v m},pe v=Ã->m2 Sx.as (r.E C v) (qf C x)=À m->QS X (.Assign [.Name x q] v p) (cT ks m):=fun j h=>cH h fun a g s e=>by
  obtain⟨k,rfl,a1,a2,u⟩:=w6 F e;exact zb z a1 a2 (R.E F s) (vJ j) u
 cases t with
 |Name x q=>cases v with
  |ListComp elt gens sc q2 =>
   refine cH h fun a g s e=>?_
   clear h;obtain⟨k,rfl,D,B,A⟩:=w6 F e;refine cS s fun y J=>?_
   obtain⟨t,it,N,i,g,c,y,P,rfl,rfl,T,a1,a2,u,H,G,E⟩:=ye R F J;have d:=GQ (env:=X.env) (elt:=elt) (gens:=[⟨t,it,N,0⟩]) (sc:=sc) (pos:=q2) (t:=x) (p:=q) (l:=p.line) F.kind;cases n:Mn X.env.scope.names x q.line sc q2.line with
   |false=>rw[n]at d;exact zb z D B (jd (Dm F.calm T a1 a2 u H G E)) d A
   |true=>rw[n]at d;exact za z D B d F.calm T a1 a2 u H G E A
  |_=>exact aX F.ck h fun j h=>nm j h
 |Subscript a b q=>exact cH h fun x g w e=>zc (R.E F w) (R.G F e) yj By (wv rfl)
 |Tuple ts k q=>cases v with
  |_=>exact aX F.ck h fun j h=>dQ j fun j O=>cH h fun x g w e=>zc (R.E F w) (R.G F e) yi (Bx j) (wv rfl)
 |Attribute o f q =>
  refine iH h fun c K h=>cH h fun a b s L=>?_
  obtain⟨Q,M,cl,I⟩:=F.clb K;exact Hh (R.E F s) (R.E F L) cl M I Bu
 |_=>exact bJ h
theorem Gz{s:ľ}{m:Sx}(h:trS r C s=À m):QS X s (cT ks m):=by
 cases s with
 |Expr e p=>exact aX F.ck h fun f h=>cS h fun x c=>EJ (R.E F c) (vJ f)
 |Assign ts v p =>
  rcases ts with _|⟨t,_|_⟩
  ·exact bJ h
  ·exact Ep R F h
  ·exact bJ h
 |AugAssign t o v p=>cases t with
  |Subscript a b q=>exact aX F.ck h fun f h=>kZ h fun x y z c d hz=>EL F.hu (R.E F c) (R.E F d) (R.E F hz) (JS f)
  |_=>exact bJ h
 |Return e p=>cases e with
  | none=>first | exact bJ h | (cases h;exact qs_retN)
  |some e=>exact cS h fun x c=>Hf (R.E F c)
 |If t a b p=>exact kZ h fun x y z c d hz=>KB (R.T F c) (jn R F d) (jn R F hz)
 |For t it b els p =>
  refine aX F.ck h fun f g=>dQ f fun j i=>?_
  cases ë.mp j;split at g
  ·exact kZ g fun x y z c d hz=>EI F.po F.calm (R.E F c) (R.G F d) (jn R F hz) (tz i)
  exact kZ g fun x y z c d hz=>Hg F.po F.calm (yf R F c) (R.G F d) (jn R F hz) (tz i)
 |While t b els p =>
  refine aX F.ck h fun f g=>?_
  cases ë.mp f;exact cH g fun x y c d=>BO F.po (R.T F c) (jn R F d)
 |Raise=>cases h;exact EK
 |_=>exact bJ h
end
theorem oP[Qc]{ks:List Fn}:∀n:Nat,CW (tr n) ks
 |0=>⟨fun _ h=>bJ h,fun _ h=>bJ h,fun _ h=>bJ h,fun _ h=>bJ h⟩
 |n+1=>⟨fun F h=>GG (oP n) F h,fun F h=>Gy (oP n) F h,fun F h=>GD (oP n) F h,fun F h=>Gz (oP n) F h⟩
section
variable(P:Ô)(w:Ü)(K:à)(mg:Í->Option Å)(base:é)
def Pe[Qc](d:Nat)(x:Í)(n:Nat)(fn:Fn):Prop:=∃f b a,a.length=n/\FnOk P w K mg base f9 d f b a (eN ⟨K,mg⟩ a.length fn)/\mg x=À (.ref f)/\Ĺ K (.ref f)=Ã/\Binds K b a []
def O5[Qc](d:Nat)(c m:Í)(n:Nat)(fn:Fn):Prop:=∃f b a C,a.length=n/\FnOk P w K mg base f9 d f b a (eN ⟨K,mg⟩ a.length fn)/\mg c=À (.ref C)/\Cls K C/\lC K C m f/\Binds K b a []
def O4[Qc](d:Nat)(c:Í)(n:Nat)(fn:Fn):Prop:=∃f b a C,a.length=n/\FnOk P w K mg base f9 d f b a (eN ⟨K,mg⟩ a.length fn)/\mg c=À (.ref C)/\Mk K C f/\Binds K b a []
def KOk[Qc](d:Nat)(fn:Fn):Ke->Prop
 |.f x n=>Pe P w K mg base d x n fn
 |.m c m n=>O5 P w K mg base d c m n fn
 |.k c n=>O4 P w K mg base d c n fn
def KsOk[Qc](d:Nat):List Ke->List Fn->Prop
 |[],_=>True
 |k::ke,fn::ks=>KOk P w K mg base d fn k/\KsOk d ke ks
 |_::_,[]=>False
structure Ev(gs:List (Í×AV))(cl:List (Í×List Í)):Prop where
 bl:∀x∈bnames,mg x=Á
 gs:∀p∈gs,∀w,qU p.2=À w->∃u,mg p.1=À u/\RelV w u
 cl:∀p∈cl,∃Ca,mg p.1=À (.ref Ca)/\Cls K Ca/\∀f∈p.2,NoAttr K Ca f
end
section
variable{P:Ô}{w:Ü}{K:à}{mg:Í->Option Å}{base:é}{d d':Nat}{fn:Fn}
theorem KOk.mono[Qc](h:d<=d'):∀{k:Ke},KOk P w K mg base d fn k->KOk P w K mg base d' fn k
 |.f _ _,⟨f,fd,ps,e,F,r⟩=>⟨f,fd,ps,e,F.mono h,r⟩
 |.m _ _ _,⟨f,fd,ps,C,e,F,r⟩=>⟨f,fd,ps,C,e,F.mono h,r⟩
 |.k _ _,⟨f,fd,ps,C,e,F,r⟩=>⟨f,fd,ps,C,e,F.mono h,r⟩
theorem KsOk.at[Qc]:∀{ke:List Ke}{ks:List Fn}{j:Nat}{k:Ke},KsOk P w K mg base d ke ks->ke[j]?=À k->KOk P w K mg base d (kf ks j) k
 |[],_,_,_,_,e=>by simp at e
 |k::ke,[],_,_,h,_=>h.elim
 |k::ke,fn::ks,0,_,h,e=>by simp at e;subst e;exact h.1
 |k::ke,fn::ks,j+1,_,h,e=>by
  have:=KsOk.at (j:=j) h.2 (by simpa using e)
  exact this
theorem KOk.ok[Qc](hr:Room (d+1) A):∀{k:Ke},KOk P w K mg base d fn k->J7 P w K mg base A fn k
 |.f _ _,⟨f,fd,ps,e,F,m,kp,b⟩=>⟨d,f,fd,ps,e,F,hr.mono (f? d),m,kp,b⟩
 |.m _ _ _,⟨f,fd,ps,C,e,F,m,c,me,b⟩=>⟨d,f,fd,ps,C,e,F,hr.mono (f? d),m,c,me,b⟩
 |.k _ _,⟨f,fd,ps,C,e,F,m,mk,b⟩=>⟨d,f,fd,ps,C,e,F,hr,m,mk,b⟩
end
def gD(st:ľ):List Í:=(dg st).args.map (·.arg)
noncomputable def Ju(N ps:List Í)(sc:ğ):Bool:=(match sc.kind with|.function=>Ã|_=>Ä)&&!sc.isCoroutine&&!sc.isGenerator&&decide N.Nodup&&decide (N.take ps.length=ps) &&
 (ps.all fun x=>match sc.names.lookup x with|some .local=>Ã|some .cell=>Ã|_=>Ä)&&(sc.names.all fun p=>match p.2 with|.free=>Ä|_=>Ã)
theorem Jt(h:Ju N ps sc=Ã):ny N ps sc:=by
 unfold Ju at h;simp only[zC,yD]at h;obtain⟨⟨⟨⟨⟨⟨a,k⟩,j⟩,i⟩,g⟩,f⟩,d⟩:=h;refine⟨?_,by simpa using k,by simpa using j,i,g,fun x c=>?_,fun y b e=>?_⟩
 ·split at a
  ·rename_i e;exact e
  ·cases a
 ·have:=yS.mp f x c
  split at this
  ·rename_i e;exact .inl e
  ·rename_i e;exact .inr e
  ·cases this
 ·have:=yS.mp d y b
  rw[e]at this;cases this
structure FH where
 ke:Ke
 qual:Í
 st:ľ
 N:List Í
 cs:List Nat
 d:Nat
 la:List ĥ
 cn:List Í
 hs:List Nat
def FH.tr(e:FH)(k:Bool)(ke:List Ke)(gs:List (Í×AV))(cl:List (Í×List Í)):Option Qm :=
 gu k (Ju e.N (gD e.st) (cq e.st)&&plainA (dg e.st)&&decide (gD e.st).Nodup) (oQ (R.tr 60) ⟨e.N,vC k (cq e.st).names,e.N,ke,gs,cl,e.la,e.cn,e.hs,k⟩ (df e.st))
section
variable{P:Ô}{w:Ü}{K:à}{mg:Í->Option Å}{base:é}{d:Nat}{x qual:Í}{st:ľ}{f:Ç}{fd:Ĕ}{N:List Í}{ke:List Ke}{ks:List Fn}{gs:List (Í×AV)}{cl:List (Í×List Í)}{la:List ĥ}{b:Qm}
theorem LJ[Qc]{N ps:List Í}{k:Nat}{b:SF}(F:Fun K x qual st f fd)(S:ny N ps (cq st))
  (c:∀(A:Č)(outer:List U7)(s:Ê)(H:Hp)(E:XK),Room k (A.deeper (a? qual (cq st) s.heap.objs.size f fd.code))->oj (qH f9 P w K mg base N qual (cq st) f fd.code A outer s H E).nox (df st) b) :
  FnOk P w K mg base f9 (k+1) f fd ps (eN ⟨K,mg⟩ ps.length (run N.length b)):=by
 obtain⟨O,M,kV,J,pm,T,L,ct,C,rfl,lk,i⟩:=F.ex;refine LI lk i S (fun u H Q E h=>h.1) fun A outer s H u Q E D h=>?_
 obtain⟨R,P,p,n,st,r,z,k⟩:=h;have G:=c A outer s H E D;refine⟨_,PSs.nox G,?_⟩;obtain⟨v,y,e,q⟩:=k;obtain⟨o,I,d⟩:=zA e;refine⟨P,p,_,st,Ew r,z,o,I,?_⟩;cases o with
 |nx sl st1=>cases d;exact fun l a m t j g _=>q l a m .non j g (by simp only[RA])
 |rt v st1=>cases d;exact fun l a m w j g B=>q l a m w j g B
 |bk sl st1=>cases d
 |ct sl st1=>cases d
def vj[Qc](mg:Í->Option Å)(base:é)(qual:Í)(cd:Å)(la:List ĥ):Prop:=∀p∈la,∃c P,cd=.ref c/\X8 base c P/\j5 mg base/\(P,p,qual++".<locals>."++"<lambda>")∈Qc.tb/\∀t∈Qc.tb,t.1=P->t=(P,p,qual++".<locals>."++"<lambda>")
theorem pM[Qc]{e:FH}(F:Fun K x qual e.st f fd)(E:Ev K mg gs cl)(g:vj mg base qual fd.code e.la)(l:KsOk P w K mg base d ke ks)(h:e.tr Ã ke gs cl=À b) :
  FnOk P w K mg base f9 (d+3) f fd (gD e.st) (eN ⟨K,mg⟩ (gD e.st).length (run e.N.length (ae ks b)))/\Binds K fd (gD e.st) []:=by
 refine aX rfl h fun r m=>lK r fun q o n=>?_
 have S:=Jt q;refine⟨LJ F S fun A c s H B a=>?_,F.binds fun kV t pm z u y v g=>bind_plain o rfl (of_decide_eq_true n) g⟩;exact jn (oP _) ⟨rfl,rfl,rfl,S.nd,S.kind,rfl,fun _ _=>rfl,a.units,a.gd,E.bl,PassesOwn.never,fun j k e=>(l.at e).ok (a.mono oM),E.gs,E.cl,fun p i=>⟨a.mono oM,g p i⟩⟩ m
end
structure FE extends FH where
 b:Qm
def FE.fn(e:FE)(fs:List Fn):Fn:=run e.N.length (ae (e.cs.map (kf fs)) e.b)
def FE.ok[Qc](e:FE)(K:à)(mg:Í->Option Å)(base:é):Prop:=match e.ke with
 |.f x _=>∃f a,mg x=À (.ref f)/\Fun K x e.qual e.st f a/\vj mg base e.qual a.code e.la
 |.m c m _=>∃f a C,mg c=À (.ref C)/\Cls K C/\lC K C m f/\Fun K m e.qual e.st f a/\vj mg base e.qual a.code e.la
 |.k c _=>∃f a C,mg c=À (.ref C)/\Mk K C f/\Fun K "__init__" e.qual e.st f a/\vj mg base e.qual a.code e.la
noncomputable def Ke.n:Ke->Nat
 |.f _ n=>n
 |.m _ _ n=>n
 |.k _ n=>n
noncomputable def uh(pre:List FE)(j:Nat):Ke:=match pre[j]? with
 |some e=>e.ke
 |none=>.f "" 0
def FE.chk(gs:List (Í×AV))(cl:List (Í×List Í))(pre:List FE)(e:FE):Option Qm :=
 gu Ã (e.ke.n==(gD e.st).length&&e.cs.all (fun j=>match pre[j]? with|some g=>Þ (g.d+3) e.d|none=>Ä)&&Þ 3 e.d) (e.tr Ã (e.cs.map (uh pre)) gs cl)
def pW(gs:List (Í×AV))(cl:List (Í×List Í)):List FE->List FE->List (Option Qm)
 |_,[]=>[]
 |pre,e::r=>e.chk gs cl pre::pW gs cl (pre++[e]) r
def jU:List Fn->List FE->List Fn
 |fs,[]=>fs
 |fs,e::r=>jU (fs++[e.fn fs]) r
section
variable{P:Ô}{w:Ü}{K:à}{mg:Í->Option Å}{base:é}{gs:List (Í×AV)}{cl:List (Í×List Í)}
def sO[Qc](P:Ô)(w:Ü)(K:à)(mg:Í->Option Å)(base:é)(pre:List FE)(fs:List Fn):Prop:=pre.length=fs.length/\∀(j:Nat) e,pre[j]?=À e->KOk P w K mg base e.d (kf fs j) e.ke
theorem xw[Qc]{d:Nat}(h:sO P w K mg base pre fs):∀cs:List Nat,(cs.all fun j=>match pre[j]? with|some g=>Þ (g.d+3) (d+3)|none=>Ä)=Ã->KsOk P w K mg base d (cs.map (uh pre)) (cs.map (kf fs))
 |[],_=>trivial
 |j::cs,hc=>by
  rw[Ļ,zC]at hc;refine⟨?_,xw h cs hc.2⟩;have h1:=hc.1;split at h1
  ·rename_i g a
   have:=h.2 j g a
   unfold uh;rw[a];exact this.mono (by have:=zS h1;lia)
  ·cases h1
theorem LL[Qc]{pre:List FE}{fs:List Fn}{e:FE}(E:Ev K mg gs cl)(h:sO P w K mg base pre fs)(k:e.ok K mg base)(r:e.chk gs cl pre=À e.b):KOk P w K mg base e.d (e.fn fs) e.ke:=by
 obtain⟨y,u,v,t⟩:(e.ke.n==(gD e.st).length)=Ã/\(e.cs.all fun j=>match pre[j]? with|some g=>Þ (g.d+3) e.d|none=>Ä)=Ã/\Þ 3 e.d=Ã/\e.tr Ã (e.cs.map (uh pre)) gs cl=À e.b:=aX rfl r fun z h=>lK z fun a b c=>⟨a,b,c,h⟩
 have i:=yL y;obtain⟨d,hd⟩:∃d,e.d=d+3:=⟨e.d-3,by have:=zS v;lia⟩;rw[hd]at u ⊢;have q:=xw h e.cs u;unfold FE.fn;unfold FE.ok at k;split at k
 ·rename_i x n o
  obtain⟨f,l,m,F,L⟩:=k;obtain⟨a1,a2⟩:=pM (e:=e.toFH) F E L q t;rw[o]at i ⊢;exact⟨f,l,gD e.st,i.symm,a1,m,F.kp,a2⟩
 ·rename_i c m n o
  obtain⟨f,l,C,s,r,p,F,L⟩:=k;obtain⟨a1,a2⟩:=pM (e:=e.toFH) F E L q t;rw[o]at i ⊢;exact⟨f,l,gD e.st,C,i.symm,a1,s,r,p,a2⟩
 ·rename_i c n o
  obtain⟨f,l,C,s,p,F,L⟩:=k;obtain⟨a1,a2⟩:=pM (e:=e.toFH) F E L q t;rw[o]at i ⊢;exact⟨f,l,gD e.st,C,i.symm,a1,s,p,a2⟩
theorem Ao{j:Nat}(h:j<fs.length):kf (fs++[g]) j=kf fs j:=by
 unfold kf;rw[zD,zD,zN h]
theorem FO:kf (fs++[g]) fs.length=g:=by
 unfold kf;rw[zD];simp
theorem vQ[Qc](E:Ev K mg gs cl):∀(rest pre:List FE)(fs:List Fn),sO P w K mg base pre fs->(∀e∈rest,e.ok K mg base)->pW gs cl pre rest=rest.map (fun e=>À e.b)->sO P w K mg base (pre++rest) (jU fs rest)
 |[],pre,fs,h,_,_=>by rw[û];exact h
 |e::r,pre,fs,h,hf,hc=>by
  obtain⟨hc1,hc2⟩:=List.cons.inj hc;have c:=LL E h (hf e z7) hc1
  have:=vQ E r (pre++[e]) (fs++[e.fn fs]) ⟨by simp[h.1],fun j g a=>?_⟩ (fun g a=>hf g (zQ _ a)) hc2
  ·rw[yO]at this;exact this
  ·rcases yV j pre.length with b|b
   ·rw[zN b]at a
    rw[Ao (by rw[<- h.1];exact b)];exact h.2 j g a
   ·have d:j=pre.length:=by
     have:=(zB.mp a).1
     rw[zV]at this;simp at this;lia
    subst d;simp at a;subst a;rw[h.1,FO];exact c
end
theorem Lm[Qc]{K:à}{mg:Í->Option Å}{H:Hp}{a:Ç}{ns:List Int}{fn:Fn}{E:XK}(k:∃st,fn [.fz (ns.map .int)] []=À (.bl Ã,st))(l:cu K H a (ns.map V.int))(g:∀t∈Qc.tb,gU H t.1 t.2.1 t.2.2):eN ⟨K,mg⟩ 1 fn [.ref a] H (fun v _=>v=.bl Ã) E:=by
 obtain ⟨st,e⟩:=k;refine ⟨rfl,fun c=>∃ b,Rd H c (.lst b),[],[.fz (ns.map .int)],[],bw ?_ bU,Sim.nil (fun c h=>?_) (fun t i=>⟨g t i,fun d=>by obtain ⟨b,z⟩:=d;obtain ⟨n,e,_⟩:=g t i;rcases z with z | ⟨o,z⟩ <;> (rw [e] at z;cases z)⟩),.bl Ã,st,e,fun p j m w f s r=>by simpa only [RA] using r⟩
 ·simp only[RA]
  refine⟨a,ns.map V.int,rfl,?_,Qg.of_ints⟩;rcases l with h|h
  ·exact .inl ⟨⟨_,h⟩,h⟩
  ·exact .inr fun m=>.inr h
 ·obtain ⟨b,h | ⟨o,h⟩⟩:=h <;> (rw [h];exact fun z=>nomatch z)
end R
namespace L2
open PySem PySem.Spec PyProof.Rows
theorem Am{P:Ô}{w:Ü}{K:à}{mg X:Í->Option Å}{CX:mN}{k:Nat}{fa a:Ç}{fd:Ĕ}{x:Í}{sp:Sp}{c:Ê}{vs:List Å}{ns:List Int}{tabs:List (Ç×Addr)}
  (KX:K.In c.heap) (B:c.heap.Ns Ð mg) (g:c.heap.Ns ę X) (hbb:∀x:Í,x≠"__name__"->X x=ò x) (J:c.heap.NoLimit) (hg:c.gens=#[])
  (D:∃D ob,mg "__builtins__"=À (.ref D)/\D≠ę/\c.heap.get? D=À ob/\ob.cls=.type "module"/\ob.dict=À ę/\ob.data=.plain)
  (p:TabsAt tabs c.heap) (hK0:noTabs K=Ã)
  (E:c.heap.get? a=À { cls:=.type "list",data:=.seq vs.toArray }) (hi:ϒ vs ns) (hl:ns.length<=Ì) (hr:Room k Ϗ)
  (F:∀base:é,K.In base->base.Ns Ð mg->j5 mg base->FnOk P w K mg base CX k fa fd [x] sp) (C:∀(s:Ê)(u:Å),E! s fd ⟨[u],[]⟩ [(x,u)])
  (Y:∀H:Hp,(∀q∈tabs,H q.2=À (.tbl #[]))->cu K H a (ns.map V.int)->sp [.ref a] H (fun v _=>v=.bl Ã) fun _ _ _=>False)
  (hCX:∀H e s',CX [] H c (fun _ _ _=>False) e s'->False) :
  ņ (model P w) Ϗ (.call (.ref fa) ⟨[.ref a],[]⟩) (fun r s'=>r=.ok (.ret (.bool Ã))/\OldK c.heap s'.heap/\s'.os=c.os/\ϔ s'.gens) c:=by
 have rv:=xU hi;have I:=hi.length;have y:∀H:Hp,cu K H a (ns.map V.int)->HOk P w H c.heap->(∀b,H b=Á\/(b=a/\K.lookup a=Á/\∃o xs,H b=À (.frz o (.lst xs)))\/(∃q∈tabs,b=q.2/\H b=À (.tbl #[])))->(∀q∈tabs,H q.2=À (.tbl #[])) ->
   ņ (model P w) Ϗ (.call (.ref fa) ⟨[.ref a],[]⟩) (fun r s'=>r=.ok (.ret (.bool Ã))/\OldK c.heap s'.heap/\s'.os=c.os/\ϔ s'.gens) c:=by
  intro H hS Qi R hTb;have gT:∀{b:Ç}{o:Z7},c.heap.get? b=À o->H b=Á->(j8 c.heap H).get? b=À o:=fun e n=>CA e n
  have none_of:∀{b:Ç}{o:Z7},c.heap.get? b=À o->o.cls≠.type "list"->o≠T1 #[]->H b=Á:=fun {b o} e n1 n2=>by
   rcases R b with z|⟨rfl,_⟩|⟨q,f,rfl,_⟩
   ·exact z
   ·rw[E]at e;cases e;exact absurd rfl n1
   ·rw[(p q f).2]at e;cases e;exact absurd rfl n2
  have j:∀{b:Ç}{o:Z7}{M:Array DictEntry}{N:Nat},c.heap.get? b=À o->o.data=.dict M N->H b=Á:=fun {b o M N} e d=>by
   rcases R b with z|⟨rfl,_⟩|⟨q,f,rfl,_⟩
   ·exact z
   ·rw[E]at e;cases e;cases d
   ·rw[(p q f).2]at e;cases e;cases d
  have l:∀{b:Ç}{m:Í->Option Å},c.heap.Ns b m->(j8 c.heap H).Ns b m:=fun {b m} ⟨o,M,N,e,d,r⟩=>⟨o,M,N,gT e (j e d),d,r⟩
  have L:K.In (j8 c.heap H):=fun b o e=>gT (KX b o e) (by
   rcases R b with z|⟨rfl,z,_⟩|⟨q,f,rfl,_⟩
   ·exact z
   ·rw[z]at e;cases e
   ·have O:=KX _ o e
    rw[(p q f).2]at O;cases O;have h2:=yS.mp hK0 _ (mem_of_lookupK e);exact absurd (show Ä=Ã from h2) Ğ)
  have hM:Mod K mg (j8 c.heap H):=⟨L,l B,⟨X,l g,hbb⟩,let⟨mc,h1,h2⟩:=J;⟨mc,l h1,h2⟩⟩;have hBM:j5 mg (j8 c.heap H):=by
   obtain⟨D,ob,b1,b2,T,S,b5,b6⟩:=D;refine⟨D,ob,b1,b2,fun z=>?_,gT T (none_of T (by rw[S];intro z;injection z with z;exact absurd z dC) (fun z=>by rw[z]at S;cases S)),S,b5,b6⟩;obtain⟨o,M,N,e,d,_⟩:=B;rw[z,e]at T;cases T;rw[d]at b6;cases b6
  have e0:Env0 P w K mg (j8 c.heap H) Ϗ [] c H:=⟨rfl,hM,fun b o e=>Fm e,ϴ (Aw _ _),trivial,fun b g=>absurd (show b ∈ ([]:List Ç) from g) (by simp),Qi,.of_eq hg⟩;refine ş ((F _ L (l B) hBM).run Ϗ [] c H ⟨[.ref a],[]⟩ [.ref a] [.ref a] _ _ hr e0 (C c (.ref a)) (.cons rfl .nil) (Y H hTb hS)) fun r s' h=>?_
  cases r with
  |error e=>exact(hCX H e s' h).elim
  |ok fl =>
   cases fl with
   |next=>exact False.elim h
   |brk=>exact False.elim h
   |cont=>exact False.elim h
   |ret u =>
    obtain⟨v,H',os,Q,un,t,r',q⟩:=h;have q':v=.bl Ã:=q;subst q';obtain rfl:u=Q4 Ã:=r';have W:∀b o,c.heap.get? b=À o->asItWas c.heap s'.heap b o:=fun b o e=>by
     rcases R b with z|⟨rfl,_,ob,xs,z⟩|⟨q,f,rfl,z⟩
     ·exact .inl (un.keep b o e z (by intro z;exact absurd (show b ∈ ([]:List Ç) from z) (by simp)) (by simp))
     ·have U:=un.frzs b ob _ z
      obtain⟨O,_⟩:=Qi b _ z;obtain⟨e2,_⟩:=t b _ U;rw[e]at O;cases O;exact .inl e2
     ·obtain⟨G,U⟩:=un.tbls _ _ z
      have e2:=t _ _ U;rw[(p q f).2]at e;cases e;exact .inr (.inl ⟨((p q f).1.tab (p q f).2).isCodeTable,rfl,#[],G,rfl,e2⟩)
    refine⟨rfl,⟨W,fun b o e=>?_⟩,os,Q⟩;exact un.there b o e (by simp)
 have A:∀q∈tabs,q.2≠a:=fun q f e=>by
  have:=(p q f).2
  rw[e,E]at this;cases this
 cases Z:K.lookup a with
 |some o =>
  have e:=KX a o Z;rw[E]at e;cases e;refine y (fun b=>if b∈tabs.map (·.2) then À (.tbl #[]) else Á) (.inr ⟨_,vs.toArray,_,Z,rfl,rfl,rfl,by rw[zI,I];exact hl,by simpa using rv⟩) (fun b u z=>?_) (fun b=>?_) fun q f=>yJ (Ϛ f)
  ·dsimp only at z
   by_cases g:b∈tabs.map (·.2)
   ·rw[yJ g]at z;cases z
    obtain⟨q,f,rfl⟩:=yE.mp g;exact(p q f).2
   ·rw[yI g]at z;cases z
  ·by_cases g:b∈tabs.map (·.2)
   ·obtain⟨q,f,rfl⟩:=yE.mp g
    exact .inr (.inr ⟨q,f,rfl,yJ g⟩)
   ·exact .inl (yI g)
 |none =>
  refine y (fun b=>if b∈tabs.map (·.2) then À (.tbl #[]) else if b=a then À (.frz { cls:=.type "list",data:=.seq vs.toArray } (.lst (ns.map V.int))) else Á) (.inl (.inr ⟨{ cls:=.type "list",data:=.seq vs.toArray },?_⟩)) (fun b u z=>?_) (fun b=>?_) fun q f=>yJ (Ϛ f)
  ·dsimp only
   rw[yI (fun z=>by obtain⟨q,f,e⟩:=yE.mp z;exact A q f e),yJ rfl]
  ·dsimp only at z
   by_cases g:b∈tabs.map (·.2)
   ·rw[yJ g]at z;cases z
    obtain⟨q,f,rfl⟩:=yE.mp g;exact(p q f).2
   ·rw[yI g]at z
    by_cases i:b=a
    ·rw[yJ i]at z;cases z
     subst i;exact⟨E,by rw[zH];exact hl,vs,_,rv,E⟩
    ·rw[yI i]at z;cases z
  ·by_cases g:b∈tabs.map (·.2)
   ·obtain⟨q,f,rfl⟩:=yE.mp g
    exact .inr (.inr ⟨q,f,rfl,yJ g⟩)
   ·by_cases i:b=a
    ·exact .inr (.inl ⟨i,Z,_,_,(yI g).trans (yJ i)⟩)
    ·exact .inl ((yI g).trans (yI i))
theorem Gn{l:S3}{n k:Nat}{q:Ô}{cB:List Í}{T:(Í->Option Å)->é->Prop}{D:Ü->é->Prop}{d:DefRec}{K:Params->à}{sp:Ü->Sp}{x:Í}{tabs:List (Ç×Addr)}
  (I:l.most=À n) (j:n<=Ì) (p:d.params.defaults=[]) (E:Room k Ϗ)
  (O:∀(w:Ü)(h:é),D w h->(K w.params).In h/\∀q∈tabs,h.get? q.2=À (T1 #[])) (M:∀(w:Ü),∀q∈tabs,codeHdIn (K w.params) q.1 q.2=Ã) (t:∀(w:Ü),noTabs (K w.params)=Ã)
  (F:∀(w:Ü)(mg:Í->Option Å)(fa:Ç)(h:é),(K w.params).In h->h.Ns Ð mg->mg d.name=À (.ref fa) ->
   ∃fd:Ĕ,(∀(s:Ê)(u:Å),E! s fd ⟨[u],[]⟩ [(x,u)]) /\
    ∀base:é,(K w.params).In base->base.Ns Ð mg->j5 mg base->FnOk l.prog w (K w.params) mg base f9 k fa fd [x] (sp w))
  (i:∀(w:Ü)(H:Hp)(a:Ç)(ns:List Int),ns.length<=n->(∀q∈tabs,H q.2=À (.tbl #[]))->cu (K w.params) H a (ns.map V.int)->sp w [.ref a] H (fun v _=>v=.bl Ã) fun _ _ _=>False) :
  U1 q cB T D l.row.toRowW d [] (fun f vs=>Q5 f vs):=by
 refine Att.attach_call I p fun w B A mg W fa o pm Z S a vs ns G Y X hd L m g c b J=>?_
 obtain⟨y,r⟩:=O w _ Y;obtain⟨fd,N,R⟩:=F w mg fa _ y G.T.g m;exact Am (tabs:=tabs) y G.T.g G.T.b G.T.builtins G.T.nolimit J G.T.bmain (fun q C=>⟨codeHd_of_K y (M w q C),r q C⟩) (t w) g c (z5 b j) E R N (fun H Q P=>i w H a ns b Q P) fun H e U z=>z
end L2
namespace R
open PySem PySem.Spec PyProof.Rows L2
abbrev se[Qc](K:à)(qual:Í)(cd:Å)(la:List ĥ):Prop:=la=[]\/∃p c P,la=[p]/\cd=.ref c/\codeHdIn K c P=Ã/\Qc.tb=[(P,p,qual++".<locals>."++"<lambda>")]
abbrev FactF[Qc](K:à)(x:Í)(e:FE):Prop:=∃(f:Ç)(d:Å)(c:Option Ç)(b:Array (Option Å))(kV g pm:Å)(i:Option Ç)(a h:Å),nsIn K Ð x=À (À (.ref f)) /\
 K.lookup f=À ⟨d,c,.func (fnOf x e.qual (dg e.st) (df e.st) (cq e.st) .none kV g pm i a h),b⟩/\Ϥ K a e.qual=Ã/\Ĺ K (.ref f)=Ã/\se K e.qual a e.la
abbrev FactM[Qc](K:à)(c m:Í)(e:FE):Prop:=∃(C f:Ç)(g:Å)(d:Option Ç)(b:Array (Option Å))(kV h pm:Å)(j:Option Ç)(a i:Å),nsIn K Ð c=À (À (.ref C))/\ő K (.ref C) m=À (À (.ref f)) /\
 K.lookup f=À ⟨g,d,.func (fnOf m e.qual (dg e.st) (df e.st) (cq e.st) .none kV h pm j a i),b⟩/\Ϥ K a e.qual=Ã/\Ĺ K (.ref f)=Ã/\isFn K (.ref f)=Ã/\se K e.qual a e.la
section
variable[Qc]{K:à}{C f:Ç}{oc:Å}{od:Option Ç}{sl:Array (Option Å)}{kV dc pm:Å}{an:Option Ç}{cd ct:Å}{x:Í}{e:FE}
theorem ff(a:nsIn K Ð x=À (À (.ref f)))(l:K.lookup f=À ⟨oc,od,.func (fnOf x e.qual (dg e.st) (df e.st) (cq e.st) .none kV dc pm an cd ct),sl⟩)(c:Ϥ K cd e.qual=Ã)(k:Ĺ K (.ref f)=Ã)(L:se K e.qual cd e.la):FactF K x e:=⟨_,_,_,_,_,_,_,_,_,_,a,l,c,k,L⟩
theorem fm(a:nsIn K Ð x=À (À (.ref C)))(b:ő K (.ref C) m=À (À (.ref f)))(l:K.lookup f=À ⟨oc,od,.func (fnOf m e.qual (dg e.st) (df e.st) (cq e.st) .none kV dc pm an cd ct),sl⟩)(c:Ϥ K cd e.qual=Ã)(k:Ĺ K (.ref f)=Ã)(i:isFn K (.ref f)=Ã)(L:se K e.qual cd e.la):FactM K x m e:=⟨_,_,_,_,_,_,_,_,_,_,_,a,b,l,c,k,i,L⟩
end
abbrev FactN(K:à)(c:Í):Prop:=∃C:Ç,nsIn K Ð c=À (À (.ref C))/\Y2 K C=Ã/\Ĺ K (.ref C)=Ã
abbrev p6(K:à)(c:Í):Prop:=∃C:Ç,nsIn K Ð c=À (À (.ref C))/\G? K C Str.empty=Ã/\R9 K C=Ã/\Z' K C=Ã/\ő K (.ref C) "__setattr__"=À (À (.builtin "object.__setattr__"))
abbrev xQ(K:à)(c:Í)(fs:List Í):Prop:=∃C:Ç,nsIn K Ð c=À (À (.ref C))/\(fs.all fun f=>match ő K (.ref C) f with|some Á=>Ã|_=>Ä)=Ã
abbrev DY(K:à):Prop:=(bnames.all fun x=>match nsIn K Ð x with|some Á=>Ã|_=>Ä)=Ã
section
variable[Qc]{K:à}{h base:é}{mg:Í->Option Å}
theorem sI(B:K.In base)(g:j5 mg base)(L:se K qual cd la):vj mg base qual cd la:=by
 intro p b;rcases L with rfl|⟨q,c,P,rfl,e,f,a⟩
 ·cases b
 ·rw[zM.mp b]
  exact⟨c,P,e,codeHd_of_K B f,g,by rw[a];simp,fun t d _=>by rw[a]at d;exact zM.mp d⟩
theorem FactF.ok{n:Nat}(b:e.ke=.f x n)(F:FactF K x e)(X:K.In h)(G:h.Ns Ð mg)(B:K.In base)(d:j5 mg base):e.ok K mg base:=by
 obtain⟨f,j,i,g,kV,m,pm,q,p,o,a,l,c,k,L⟩:=F;unfold FE.ok;rw[b];exact⟨f,_,Y1 X G a,pN l c k,sI B d L⟩
theorem AK(F:p6 K c)(X:K.In h)(G:h.Ns Ð mg)(b:nsIn K Ð c=À (À (.ref C))):mg c=À (.ref C)/\Cls K C:=by
 obtain⟨i,a,g,f,e,d⟩:=F;rw[b]at a;cases a;exact⟨Y1 X G b,⟨g,f,e,d⟩⟩
theorem FactM.ok{n:Nat}(d:e.ke=.m c m n)(F:FactM K c m e)(p:p6 K c)(X:K.In h)(G:h.Ns Ð mg)(B:K.In base)(j:j5 mg base):e.ok K mg base:=by
 obtain⟨C,f,s,r,q,kV,t,pm,w,v,u,a,g,l,o,k,i,L⟩:=F;unfold FE.ok;rw[d];obtain⟨b,m2⟩:=AK p X G a;exact⟨f,_,C,b,m2,⟨g,i,k⟩,pN l o k,sI B j L⟩
theorem FactN.ok{n:Nat}(j:e.ke=.k c n)(F:FactM K c "__init__" e)(N:FactN K c)(X:K.In h)(G:h.Ns Ð mg)(B:K.In base)(m:j5 mg base):e.ok K mg base:=by
 obtain⟨C,f,r,q,p,kV,s,pm,v,u,t,a,g,l,o,k,i,L⟩:=F;obtain⟨w,b,d,m2⟩:=N;rw[a]at b;cases b;unfold FE.ok;rw[j];exact⟨f,_,C,Y1 X G a,⟨d,g,i,m2⟩,pN l o k,sI B m L⟩
abbrev FactG(K:à)(p:Í×AV):Prop:=match p.2 with
 |.int i=>∃t,nsIn K Ð p.1=À (À (.int i t))
 |.str x=>∃t,nsIn K Ð p.1=À (À (.str x t))
 |_=>False
theorem FactG.ok(F:FactG K p)(X:K.In h)(G:h.Ns Ð mg):∀w,qU p.2=À w->∃u,mg p.1=À u/\RelV w u:=by
 obtain⟨x,c⟩:=p;intro w a;cases c with
 |int i=>obtain⟨t,e⟩:=F;cases a;exact⟨_,Y1 X G e,t,rfl⟩
 |str y=>obtain⟨t,e⟩:=F;cases a;exact⟨_,Y1 X G e,t,rfl⟩
 |_=>exact F.elim
theorem LO(X:K.In h)(G:h.Ns Ð mg)(k:DY K)(g:∀p∈gs,FactG K p)(j:∀p∈cl,p6 K p.1/\xQ K p.1 p.2):Ev K mg gs cl:=by
 refine⟨fun x d=>?_,fun p b=>(g p b).ok X G,fun p b=>?_⟩
 ·have:=yS.mp k x d
  split at this
  ·rename_i e;exact mg_none_of X G e
  ·cases this
 ·obtain⟨l,C,a,fs⟩:=j p b
  obtain⟨c,m2⟩:=AK l X G a;refine⟨C,c,m2,fun f i=>?_⟩
  have:=yS.mp fs f i
  split at this
  ·rename_i e;exact e
  ·cases this
end
abbrev ji[Qc](K:à)(e:FE):Prop:=match e.ke with
 |.f x _=>FactF K x e
 |.m c m _=>FactM K c m e
 |.k c _=>FactM K c "__init__" e/\FactN K c
section
variable[Qc]{K:à}{C f:Ç}{oc:Å}{od:Option Ç}{sl:Array (Option Å)}{kV dc pm:Å}{an:Option Ç}{cd ct:Å}{x m:Í}{n:Nat}{e:FE}
theorem fe_f(b:e.ke=.f x n)(a:nsIn K Ð x=À (À (.ref f)))(l:K.lookup f=À ⟨oc,od,.func (fnOf x e.qual (dg e.st) (df e.st) (cq e.st) .none kV dc pm an cd ct),sl⟩)(c:Ϥ K cd e.qual=Ã)(k:Ĺ K (.ref f)=Ã)(L:se K e.qual cd e.la):ji K e:=by unfold ji;rw[b];exact ff a l c k L
theorem fe_m(d:e.ke=.m x m n)(a:nsIn K Ð x=À (À (.ref C)))(b:ő K (.ref C) m=À (À (.ref f)))(l:K.lookup f=À ⟨oc,od,.func (fnOf m e.qual (dg e.st) (df e.st) (cq e.st) .none kV dc pm an cd ct),sl⟩)(c:Ϥ K cd e.qual=Ã)(k:Ĺ K (.ref f)=Ã)(i:isFn K (.ref f)=Ã)(L:se K e.qual cd e.la):ji K e:=by unfold ji;rw[d];exact fm a b l c k i L
end
def kQ[Qc](K:à):List FE->Prop
 |[]=>True
 |e::r=>ji K e/\kQ K r
section
variable[Qc]{K:à}{C f:Ç}{oc:Å}{od:Option Ç}{sl:Array (Option Å)}{kV dc pm:Å}{an:Option Ç}{cd ct:Å}{x:Í}{n:Nat}{e:FE}{r:List FE}
theorem fe_k(g:e.ke=.k x n)(a:nsIn K Ð x=À (À (.ref C)))(b:ő K (.ref C) "__init__"=À (À (.ref f)))(l:K.lookup f=À ⟨oc,od,.func (fnOf "__init__" e.qual (dg e.st) (df e.st) (cq e.st) .none kV dc pm an cd ct),sl⟩)(c:Ϥ K cd e.qual=Ã)(k:Ĺ K (.ref f)=Ã)(i:isFn K (.ref f)=Ã)(L:se K e.qual cd e.la)
  (d:Y2 K C=Ã) (m2:Ĺ K (.ref C)=Ã):ji K e:=by unfold ji;rw[g];exact⟨fm a b l c k i L,C,a,d,m2⟩
theorem fes_c(h:ji K e)(t:kQ K r):kQ K (e::r):=⟨h,t⟩
theorem fes_n:kQ K []:=trivial
end
noncomputable def CN(cl:List (Í×List Í))(e:FE):Bool:=match e.ke with
 |.m c _ _=>decide (c∈cl.map (·.1))
 |_=>Ã
theorem uD[Qc]{K:à}{h base:é}{mg:Í->Option Å}(X:K.In h)(G:h.Ns Ð mg)(B:K.In base)(c:j5 mg base)(f:∀p∈cl,p6 K p.1/\xQ K p.1 p.2):∀{pre:List FE},pre.all (CN cl)=Ã->kQ K pre->∀e∈pre,e.ok K mg base
 |[],_,_,_,h=>nomatch h
 |a::r,hx,h,e,he=>by
  rw[Ļ,zC]at hx;rcases zT.mp he with rfl|he
  ·have h1:=h.1
   have d:=hx.1;unfold ji at h1;unfold CN at d;split at h1
   ·rename_i b;exact FactF.ok b h1 X G B c
   ·rename_i b
    rw[b]at d;obtain⟨p,g,i⟩:=yE.mp (of_decide_eq_true d);exact FactM.ok b h1 (by rw[<- i];exact(f p g).1) X G B c
   ·rename_i b;exact FactN.ok b h1.1 h1.2 X G B c
  ·exact uD X G B c f hx.2 h.2 e he
def Ec:List Fn->List FE->List Fn->Prop
 |_,[],[]=>True
 |fs,e::r,F::Fs=>e.fn fs=F/\Ec (fs++[F]) r Fs
 |_,_,_=>False
theorem AD:∀{pre:List FE}{fs Fs:List Fn},Ec fs pre Fs->jU fs pre=fs++Fs
 |[],fs,[],_=>(û fs).symm
 |e::r,fs,F::Fs,h=>by
  show jU (fs++[e.fn fs]) r=_;rw[h.1,AD h.2];simp
 |[],_,_::_,h=>h.elim
 |_::_,_,[],h=>h.elim
theorem law_F[Qc]{P:Ô}{w:Ü}{K:à}{h:é}{mg:Í->Option Å}{J:Ç}{gs:List (Í×AV)}{cl:List (Í×List Í)}{pre:List FE}{e:FE}{fn:Fn}(X:K.In h)(G:h.Ns Ð mg)(y:mg "law"=À (.ref J))
  (W:DY K) (u:∀p∈gs,FactG K p) (C:∀p∈cl,p6 K p.1/\xQ K p.1 p.2) (r:pW gs cl [] pre=pre.map fun e=>À e.b) (z:e.chk gs cl pre=À e.b)
  (T:pre.all (CN cl)=Ã) (n:kQ K pre) (Y:FactF K "law" e) (i:gD e.st=[("_law_script":Í)]) (x:e.fn (jU [] pre)=fn) :
  ∃fd:Ĕ,(∀(s:Ê)(v:Å),E! s fd ⟨[v],[]⟩ [("_law_script",v)])/\∀base:é,K.In base->base.Ns Ð mg->j5 mg base ->
   FnOk P w K mg base f9 e.d J fd ["_law_script"] (fun vs H Q E=>∀mg,eN ⟨K,mg⟩ 1 fn vs H Q E):=by
 have E:=LO X G W u C;obtain⟨h2,D,Z,I⟩:(e.ke.n==(gD e.st).length)=Ã/\(e.cs.all fun j=>match pre[j]? with|some g=>Þ (g.d+3) e.d|none=>Ä)=Ã/\Þ 3 e.d=Ã/\e.tr Ã (e.cs.map (uh pre)) gs cl=À e.b:=aX rfl z fun A h=>lK A fun a b c=>⟨a,b,c,h⟩
 obtain⟨d,hd⟩:∃d,e.d=d+3:=⟨e.d-3,by have:=zS Z;lia⟩;rw[hd]at D ⊢;obtain⟨f,oc,od,sl,kV,M,pm,R,O,N,a,l,c,k,L⟩:=Y;have m:=Y1 X G a;rw[y]at m;cases m;have F:=pN l c k;refine⟨fnOf "law" e.qual (dg e.st) (df e.st) (cq e.st) .none kV M pm R O N,fun s v=>?_,fun base B _ t=>?_⟩
 ·have U:plainA (dg e.st)=Ã:=aX rfl I fun A _=>lK A fun _ h _=>h
  refine .of_eq ?_
  have:=bind_plain (fd:=fnOf "law" e.qual (dg e.st) (df e.st) (cq e.st) .none kV M pm R O N) (us:=[v]) U rfl (by show(gD e.st).Nodup;rw[i];simp) (by show _=(gD e.st).length;rw[i];rfl)
  rw[this];show pure ((gD e.st).zip [v])=_;rw[i];rfl
 ·have S:=vQ (P:=P) (w:=w) E pre [] [] ⟨rfl,fun j g u=>by simp at u⟩ (uD X G B t C T n) r
  have V:=xw (d:=d) S e.cs D
  have:=(pM (e:=e.toFH) F E (sI B t L) V I).1
  rw[i]at this;have o:run e.N.length (ae (e.cs.map (kf (jU [] pre))) e.b)=fn:=x;rw[o]at this;exact this.imp fun vs H Q E q=>q mg
theorem walk_R[Qc]{l:S3}{k:Nat}{q:Ô}{cB:List Í}{z:(Í->Option Å)->é->Prop}{g:Ü->é->Prop}{d:DefRec}{K:Params->à}{fn:Fn}{tabs:List (Ç×Addr)}
  (n:l.most=À 63) (b:d.params.defaults=[]) (j:Room k Ϗ)
  (v:∀(w:Ü)(h:é),g w h->(K w.params).In h/\∀q∈tabs,h.get? q.2=À (T1 #[])) (r:∀(w:Ü),∀q∈tabs,codeHdIn (K w.params) q.1 q.2=Ã) (c:∀(w:Ü),noTabs (K w.params)=Ã)
  (i:∀t∈Qc.tb,t.1∈tabs.map (·.2)) (p:∀ns:List Int,ns.length<=63->∃st,fn [.fz (ns.map .int)] []=À (.bl Ã,st))
  (F:∀(w:Ü)(mg:Í->Option Å)(fa:Ç)(h:é),(K w.params).In h->h.Ns Ð mg->mg d.name=À (.ref fa) ->
   ∃fd:Ĕ,(∀(s:Ê)(u:Å),E! s fd ⟨[u],[]⟩ [("_law_script",u)]) /\
    ∀base:é,(K w.params).In base->base.Ns Ð mg->j5 mg base->FnOk l.prog w (K w.params) mg base f9 k fa fd ["_law_script"] (fun vs H Q E=>∀mg,eN ⟨K w.params,mg⟩ 1 fn vs H Q E)) :
  U1 q cB z g l.row.toRowW d [] (fun f vs=>Q5 f vs) :=
 Gn (sp:=fun w vs H Q E=>∀mg,eN ⟨K w.params,mg⟩ 1 fn vs H Q E) n dC b j v r c F fun w H a ns o x y mg=>Lm (p ns o) y fun t h=>by
  obtain⟨q,m,e⟩:=yE.mp (i t h);exact⟨#[],by rw[<- e];exact x q m,trivial,.inl rfl⟩
end R
namespace SX
def Qf:Nat->(Nat->Int)->Int
 |0,_=>0
 |n+1,f=>Qf n f+f n
theorem sum_congr{n:Nat}{f g:Nat->Int}(h:∀i,i<n->f i=g i):Qf n f=Qf n g:=by
 induction n with
 |zero=>rfl
 |succ n a=>simp only[Qf];rw[a fun i b=>h i oM,h n oM]
theorem sum_zero{n:Nat}{f:Nat->Int}(h:∀i,i<n->f i=0):Qf n f=0:=by
 induction n with
 |zero=>rfl
 |succ n a=>simp only[Qf];rw[a fun i b=>h i oM,h n oM];rfl
theorem sum_add(n:Nat)(f g:Nat->Int):Qf n (fun i=>f i+g i)=Qf n f+Qf n g:=by
 induction n with
 |zero=>rfl
 |succ n a=>simp only[Qf];rw[a];lia
theorem sum_mul(n:Nat)(c:Int)(f:Nat->Int):Qf n (fun i=>c*f i)=c*Qf n f:=by
 induction n with
 |zero=>simp[Qf]
 |succ n a=>simp only[Qf];rw[a,Q9]
theorem sum_one{n k:Nat}{f:Nat->Int}(e:k<n)(h:∀i,i<n->i≠k->f i=0):Qf n f=f k:=by
 induction n with
 |zero=>lia
 |succ n b =>
  simp only[Qf];rcases yV k n with a|a
  ·rw[b a fun i c d=>h i oM d,h n oM oM];lia
  ·have:k=n:=by lia
   subst this;rw[sum_zero fun i c=>h i oM oM];lia
theorem vK{n k l:Nat}{f:Nat->Int}(d:k<n)(c:l<n)(a:k≠l)(h:∀i,i<n->i≠k->i≠l->f i=0):Qf n f=f k+f l:=by
 have e:Qf n f=Qf n (fun i=>(if i=k then f i else 0)+if i=k then 0 else f i):=sum_congr fun i _=>by split<;>lia
 rw[e,sum_add,sum_one (k:=k) d fun i _ b=>yI b,sum_one (k:=l) c fun i g b=>?_]
 ·rw[yJ rfl,yI (fun z=>a z.symm)]
 ·by_cases z:i=k
  ·exact yJ z
  ·rw[yI z];exact h i g z b
theorem Bv(n m:Nat)(f:Nat->Nat->Int):Qf n (fun i=>Qf m (fun j=>f i j))=Qf m (fun j=>Qf n (fun i=>f i j)):=by
 induction n with
 |zero=>exact(sum_zero fun _ _=>rfl).symm
 |succ n a=>simp only[Qf];rw[a,<- sum_add]
noncomputable def up(A:Nat->Nat->Int)(r:Nat)(u:Nat->Int):Nat->Nat->Int:=fun i=>if i=r then u else A i
theorem cz{A:Nat->Nat->Int}{r:Nat}{u:Nat->Int}:up A r u r=u:=yJ rfl
theorem bI{A:Nat->Nat->Int}{r i:Nat}{u:Nat->Int}(h:i≠r):up A r u i=A i:=yI h
theorem gN{A:Nat->Nat->Int}{r:Nat}:up A r (A r)=A:=by
 funext i;by_cases h:i=r
 ·rw[h,cz]
 ·exact bI h
theorem jk{A:Nat->Nat->Int}{r q:Nat}{u v:Nat->Int}(h:r≠q):up (up A r u) q v=up (up A q v) r u:=by
 funext i;by_cases b:i=q
 ·subst b;rw[cz,bI (fun z=>h z.symm),cz]
 ·rw[bI b]
  by_cases a:i=r
  ·subst a;rw[cz,cz]
  ·rw[bI a,bI a,bI b]
noncomputable def skip(k i:Nat):Nat:=if i<k then i else i+1
noncomputable def kt(k r:Nat):Nat:=if r<k then r else r-1
noncomputable def sg(k:Nat):Int:=if k%2=0 then 1 else -1
theorem EA(k:Nat):sg (k+1)=- sg k:=by unfold sg;split<;>split<;>lia
theorem GV(k:Nat):(sg k).natAbs=1:=by unfold sg;split<;>rfl
def ik(A:Nat->Nat->Int)(k:Nat):Nat->Nat->Int:=fun i j=>A (skip k i) (j+1)
def bQ:Nat->(Nat->Nat->Int)->Int
 |0,_=>1
 |n+1,A=>Qf (n+1) fun k=>sg k*A k 0*bQ n (ik A k)
theorem oA{A:Nat->Nat->Int}{k:Nat}{u:Nat->Int}:ik (up A k u) k=ik A k:=by
 funext i j;unfold ik;rw[bI];unfold skip;split<;>lia
theorem tQ{A:Nat->Nat->Int}{k r:Nat}{u:Nat->Int}(h:r≠k):ik (up A r u) k=up (ik A k) (kt k r) (fun j=>u (j+1)):=by
 funext i j;unfold ik;by_cases a:i=kt k r
 ·have:skip k i=r:=by unfold skip;unfold kt at a;split at a<;>split<;>lia
  rw[this,cz,a,cz]
 ·have:skip k i≠r:=by unfold skip;unfold kt at a;split at a<;>split<;>lia
  rw[bI this,bI a]
theorem d7:∀{n:Nat}{A B:Nat->Nat->Int},(∀i j,i<n->j<n->A i j=B i j)->bQ n A=bQ n B
 |0,_,_,_=>rfl
 |n+1,A,B,h=>sum_congr fun k hk=>by
  rw[h k 0 hk oM,d7 (A:=ik A k) (B:=ik B k) fun i j hi hj=>h _ _ (by unfold skip;split<;>lia) oM]
theorem iy:∀{n:Nat}{A:Nat->Nat->Int}{r:Nat}{a b:Int}{u v:Nat->Int},r<n->bQ n (up A r fun j=>a*u j+b*v j)=a*bQ n (up A r u)+b*bQ n (up A r v)
 |0,_,_,_,_,_,_,h=>by lia
 |n+1,A,r,a,b,u,v,h=>by
  show Qf (n+1) _=a*Qf (n+1) _+b*Qf (n+1) _;rw[<- sum_mul,<- sum_mul,<- sum_add];refine sum_congr fun k hk=>?_
  by_cases e:r=k
  ·subst e
   rw[oA,oA,oA,cz,cz,cz]
   grind
  ·rw[tQ e,tQ e,tQ e,bI (fun z=>e z.symm),bI (fun z=>e z.symm),bI (fun z=>e z.symm)]
   rw[iy (A:=ik A k) (r:=kt k r) (u:=fun j=>u (j+1)) (v:=fun j=>v (j+1)) (by unfold kt;split<;>lia)]
   grind
theorem m9:∀{n:Nat}{A:Nat->Nat->Int}{r:Nat},r+1<n->(∀j,A r j=A (r+1) j)->bQ n A=0
 |0,_,_,h,_=>by lia
 |n+1,A,r,h,e=>by
  show Qf (n+1) _=0;have hm:bQ n (ik A r)=bQ n (ik A (r+1)):=by
   refine d7 fun i j _ _=>?_
   unfold ik;by_cases d:i=r
   ·subst d
    have c:skip i i=i+1:=by unfold skip;split<;>lia
    have b:skip (i+1) i=i:=by unfold skip;split<;>lia
    rw[c,b,e]
   ·have:skip r i=skip (r+1) i:=by unfold skip;split<;>split<;>lia
    rw[this]
  rw[vK (k:=r) (l:=r+1) oM h oM fun k f c b=>?_]
  ·rw[hm,e 0,EA];grind
  ·have:bQ n (ik A k)=0:=by
    rcases yV k r with a|a
    ·refine m9 (r:=r-1) oM fun j=>?_
     unfold ik;have a1:skip k (r-1)=r:=by unfold skip;split<;>lia
     have a2:skip k (r-1+1)=r+1:=by unfold skip;split<;>lia
     rw[a1,a2,e]
    ·refine m9 (r:=r) oM fun j=>?_
     unfold ik;have a1:skip k r=r:=by unfold skip;split<;>lia
     have a2:skip k (r+1)=r+1:=by unfold skip;split<;>lia
     rw[a1,a2,e]
   rw[this,yQ]
theorem n8{n:Nat}{A:Nat->Nat->Int}{c j:Nat}(d:c<n)(e:j<n)(a:c≠j)(b:∀x:Nat->Int,bQ n (up (up A c x) j x)=0)(u v:Nat->Int):bQ n (up (up A c u) j v)=- bQ n (up (up A c v) j u):=by
 have h:=b (fun k=>1*u k+1*v k);rw[iy e,jk a,iy d,jk a (v:=v),iy d,<- jk a,<- jk a,<- jk a,<- jk a,b u,b v]at h;lia
theorem qG{n:Nat}:∀(k:Nat){A:Nat->Nat->Int}{i j:Nat},j=i+k+1->j<n->(∀x,A i x=A j x)->bQ n A=0
 |0,A,i,j,e,hj,h=>m9 (r:=i) oM (by subst e;exact h)
 |k+1,A,i,j,e,hj,h=>by
  have alt:∀x:Nat->Int,bQ n (up (up A (j-1) x) j x)=0:=fun x=>m9 (r:=j-1) oM fun y=>by
   rw[show j-1+1=j by lia,cz,bI oM,cz]
  have a:=n8 (A:=A) (c:=j-1) (j:=j) oM hj oM alt (A (j-1)) (A j);rw[gN,gN]at a;rw[a,qG k (A:=up (up A (j-1) (A j)) j (A (j-1))) (i:=i) (j:=j-1) oM oM fun x=>by
   rw[bI oM,bI oM,bI oM,cz,h]]
  rfl
theorem kN{n:Nat}{A:Nat->Nat->Int}{i j:Nat}(c:i<n)(b:j<n)(a:i≠j)(h:∀x,A i x=A j x):bQ n A=0:=by
 rcases yV i j with l|l
 ·exact qG (j-i-1) (i:=i) (j:=j) oM b h
 ·exact qG (i-j-1) (i:=j) (j:=i) oM c fun x=>(h x).symm
theorem CK{n:Nat}{A:Nat->Nat->Int}{c j:Nat}(d:c<n)(b:j<n)(a:c≠j)(u v:Nat->Int):bQ n (up (up A c u) j v)=- bQ n (up (up A c v) j u) :=
 n8 d b a (fun x=>kN d b a fun y=>by rw[bI a,cz,cz]) u v
theorem kM{n:Nat}{A:Nat->Nat->Int}{r:Nat}(c:r<n){t:Nat->Int}{b:Nat->Nat->Int}:∀m:Nat,bQ n (up A r fun x=>Qf m fun k=>t k*b k x)=Qf m fun k=>t k*bQ n (up A r (b k))
 |0=>by
  have:=iy (A:=A) (r:=r) (a:=0) (b:=0) (u:=fun _=>0) (v:=fun _=>0) c
  simp only[yR,ģ]at this;exact this
 |m+1=>by
  have:=iy (A:=A) (r:=r) (a:=1) (b:=t m) (u:=fun x=>Qf m fun k=>t k*b k x) (v:=b m) c
  rw[ϓ,kM c m]at this;simp only[ϓ]at this;exact this
theorem qF{n:Nat}{A:Nat->Nat->Int}{r:Nat}(c:r<n){d:Int}{u:Nat->Int}:bQ n (up A r fun x=>d*u x)=d*bQ n (up A r u):=by
 have:=iy (A:=A) (r:=r) (a:=d) (b:=0) (u:=u) (v:=u) c
 simp only[yR,ģ]at this;exact this
theorem jB{n:Nat}{A:Nat->Nat->Int}{r:Nat}{u v:Nat->Int}(h:∀x,x<n->u x=v x):bQ n (up A r u)=bQ n (up A r v):=d7 fun i j _ a=>by
 by_cases e:i=r
 ·subst e;rw[cz,cz];exact h j a
 ·rw[bI e,bI e]
theorem LS{n:Nat}{B:Nat->Nat->Int}{j:Nat}{d:Int}{v:Nat->Int}{t:Nat->Int}(b:j<n)(h:∀x,x<n->d*v x=Qf n fun k=>t k*B k x):d*bQ n (up B j v)=t j*bQ n B:=by
 rw[<- qF b,jB h,kM b,sum_one b fun k c a=>?_,gN];rw[kN (i:=k) (j:=j) c b a fun x=>by rw[bI a,cz],yQ]
theorem LR{n:Nat}{B:Nat->Nat->Int}{c j:Nat}{d:Int}{u v:Nat->Int}{t:Nat->Int}(e:c<n)(b:j<n)(a:c≠j)(h:∀x,x<n->d*v x=Qf n fun k=>t k*B k x) :
  d*bQ n (up (up B c u) j v)=t j*bQ n (up B c u)-t c*bQ n (up B j u):=by
 rw[<- qF b,jB h,kM b,vK b e (fun z=>a z.symm) fun k g f l=>?_]
 ·have m:up (up B c u) j (B j)=up B c u:=by
   have:up B c u j=B j:=bI fun z=>a z.symm
   rw[<- this,gN]
  rw[m,CK e b a u (B c),gN]
  grind
 ·rw[kN (i:=k) (j:=j) g b f fun x=>by rw[bI f,bI l,cz],yQ]
def fct:Nat->Nat
 |0=>1
 |n+1=>(n+1)*fct n
theorem abs_sum{n:Nat}{f:Nat->Int}{M:Nat}(h:∀i,i<n->(f i).natAbs<=M):(Qf n f).natAbs<=n*M:=by
 induction n with
 |zero=>simp[Qf]
 |succ n a =>
  simp only[Qf];have d:=a fun i b=>h i oM
  have c:=h n oM;rw[L']
  have:=U5 (Qf n f) (f n)
  lia
theorem uJ:∀{n:Nat}{A:Nat->Nat->Int}{M:Nat},(∀i j,i<n->j<n->(A i j).natAbs<=M)->(bQ n A).natAbs<=fct n*M^n
 |0,_,_,_=>by simp[bQ,fct]
 |n+1,A,M,h=>by
  show(Qf (n+1) _).natAbs<=_;refine z5 (abs_sum (M:=M*(fct n*M^n)) fun k hk=>?_) ?_
  ·rw[xA,xA,GV,e?]
   exact ś (h k 0 hk oM) (uJ fun i j hi hj=>h _ _ (by unfold skip;split<;>lia) oM)
  ·show(n+1)*(M*(fct n*M^n))<=(n+1)*fct n*M^(n+1)
   rw[ż];generalize fct n=a;generalize M^n=b;exact ϴ (by grind)
noncomputable def eW(w:Nat):Nat->Int:=fun x=>if x=w then 1 else 0
def aT(w:Nat)(v:Nat->Nat->Int)(h:Nat->Nat):Nat->Nat->Int:=fun k=>if k=w then eW w else v (h k)
structure Lin(w m:Nat)(v:Nat->Nat->Int)(d:Int)(t:Nat->Nat->Int)(h s:Nat->Nat):Prop where
 pos:0<d
 lin:∀i,i<m->∀x,x<w+1->d*v (s i) x=Qf (w+1) fun k=>t i k*aT w v h k x
 dt:∃g:Int,g*g=1/\bQ (w+1) (aT w v h)=g*d
structure rY(w m r c:Nat)(e d:Int)(t:Nat->Nat->Int)(h s:Nat->Nat)(d':Int)(t':Nat->Nat->Int)(h' s':Nat->Nat):Prop where
 e1:e*e=1
 ep:0<e*t r c
 d':d'=e*t r c
 tc:∀i,i<m->i≠r->t' i c=e*t i c
 tj:∀i,i<m->i≠r->∀j,j<w+1->j≠c->t' i j=(t i j*(e*t r c)-t i c*(e*t r j))/d
 rc:t' r c=e*d
 rj:∀j,j<w+1->j≠c->t' r j=- (e*t r j)
 hc:h' c=s r
 hj:∀j,j<w->j≠c->h' j=h j
 sr:s' r=h c
 si:∀i,i<m->i≠r->s' i=s i
section
variable{w m r c:Nat}{e d d':Int}{v t t':Nat->Nat->Int}{h s h' s':Nat->Nat}
theorem Lin.one(L:Lin w m v d t h s){g:Int}(e:bQ (w+1) (aT w v h)=g*d){i j:Nat}(c:i<m)(b:j<w+1):bQ (w+1) (up (aT w v h) j (v (s i)))=g*t i j:=by
 have a:=LS (n:=w+1) (j:=j) b (L.lin i c);rw[e]at a;have f:d≠0:=by have:=L.pos;lia
 refine ţ f ?_;rw[a];grind
theorem Lin.ex(L:Lin w m v d t h s){i j:Nat}(o:i<m)(b:r<m)(k:c<w+1)(e:j<w+1)(a:c≠j):d ∣ t i j*t r c-t i c*t r j:=by
 obtain⟨g,g1,f⟩:=L.dt;have l:=LR (n:=w+1) (c:=c) (j:=j) (u:=v (s r)) k e a (L.lin i o);rw[L.one f b k,L.one f b e]at l;refine⟨g*bQ (w+1) (up (up (aT w v h) c (v (s r))) j (v (s i))),?_⟩;generalize bQ (w+1) (up (up (aT w v h) c (v (s r))) j (v (s i)))=D at l
 grind
theorem Lin.ex'(L:Lin w m v d t h s){i j:Nat}(g:i<m)(b:r<m)(l:c<w+1)(f:j<w+1)(a:c≠j):d*((t i j*(e*t r c)-t i c*(e*t r j))/d)=t i j*(e*t r c)-t i c*(e*t r j):=by
 refine Q8 ?_;obtain⟨k,n⟩:=L.ex g b l f a;exact⟨e*k,by grind⟩
theorem vg(g:c<w)(d:h' c=s r)(b:∀j,j<w->j≠c->h' j=h j):∀k,k<w+1->aT w v h' k=up (aT w v h) c (v (s r)) k:=by
 intro k f;unfold aT;by_cases e:k=c
 ·subst e;rw[cz,yI oM,d]
 ·rw[bI e]
  by_cases a:k=w
  ·rw[yJ a,yJ a]
  ·rw[yI a,yI a,b k oM e]
theorem Lin.piv(L:Lin w m v d t h s)(P:rY w m r c e d t h s d' t' h' s')(o:r<m)(p:c<w):Lin w m v d' t' h' s':=by
 have u:d≠0:=by have:=L.pos;lia
 have A:=P.e1;refine⟨by rw[P.d'];exact P.ep,fun i f x n=>?_,?_⟩
 ·by_cases l:i=r
  ·subst l
   rw[P.sr,P.d'];have b:Qf (w+1) (fun k=>t' i k*aT w v h' k x)=Qf (w+1) fun k=>(- e)*(t i k*aT w v h k x)+if k=c then e*t i c*aT w v h c x+e*d*v (s i) x else 0:=by
    refine sum_congr fun k b=>?_
    rw[vg p P.hc P.hj k b];by_cases a:k=c
    ·subst a;rw[yJ rfl,cz,P.rc];grind
    ·rw[yI a,bI a,P.rj k b a];grind
   rw[b,sum_add,sum_mul,<- L.lin i f x n,sum_one (k:=c) oM fun k _ z=>yI z,yJ rfl];have:aT w v h c x=v (h c) x:=by unfold aT;rw[yI oM]
   rw[this];grind
  ·refine ţ u ?_
   rw[P.si i f l,<- sum_mul];have b:Qf (w+1) (fun k=>d*(t' i k*aT w v h' k x))=Qf (w+1) fun k=>(e*t r c*(t i k*aT w v h k x)+(- (e*t i c))*(t r k*aT w v h k x))+if k=c then d*(e*t i c*v (s r) x) else 0:=by
    refine sum_congr fun k b=>?_
    rw[vg p P.hc P.hj k b];by_cases a:k=c
    ·subst a;rw[yJ rfl,cz,P.tc i f l];grind
    ·rw[yI a,bI a,P.tj i f l k b a,<- A?,L.ex' f o oM b fun z=>a z.symm];grind
   rw[b,sum_add,sum_add,sum_mul,sum_mul,<- L.lin i f x n,<- L.lin r o x n,sum_one (k:=c) oM fun k _ z=>yI z,yJ rfl,P.d']
   grind
 ·obtain⟨g,g1,q⟩:=L.dt
  refine⟨g*e,by grind,?_⟩;rw[d7 (B:=up (aT w v h) c (v (s r))) fun i j f y=>by rw[vg p P.hc P.hj i f],L.one q o oM,P.d']
  grind
theorem Lin.func(L:Lin w m v d t h s)(C:∀q,q<w->∀x,x<w+1->v q x=if x=q then 1 else 0)(f:c<w+1){X:Nat->Int}(hs:∀i,i<m->s i<w->X (s i)=t i c)(E:∀j,j<w->h j<w->X (h j)=if j=c then d else 0)
  (r:∀q,q<w->(∃i,i<m/\s i=q)\/∃j,j<w/\h j=q) :
  (∀i,i<m->(Qf w fun q=>v (s i) q*X q)+v (s i) w*(if c=w then d else 0)=t i c)/\∀j,j<w->(Qf w fun q=>v (h j) q*X q)+v (h j) w*(if c=w then d else 0)=if j=c then d else 0:=by
 obtain⟨g,g1,o⟩:=L.dt;have F:∀u:Nat->Int,(Qf w fun q=>u q*X q)+u w*(if c=w then d else 0)=g*bQ (w+1) (up (aT w v h) c u):=fun u=>by
  have H:bQ (w+1) (up (aT w v h) c u)=Qf (w+1) fun q=>u q*bQ (w+1) (up (aT w v h) c (eW q)):=by
   rw[<- kM f];refine jB fun x p=>?_
   rw[sum_one p fun k _ z=>by unfold eW;rw[yI fun y=>z y.symm,yQ]];unfold eW;rw[yJ rfl,h!]
  have B:∀k,k<w+1->g*bQ (w+1) (up (aT w v h) c (aT w v h k))=if k=c then d else 0:=fun k D=>by
   by_cases a:k=c
   ·rw[yJ a,a,gN,o];grind
   ·rw[yI a,kN (i:=k) (j:=c) D f a fun x=>by rw[bI a,cz],yQ]
  rw[H,<- sum_mul];show _=Qf w _+_;congr 1
  ·refine sum_congr fun q l=>?_
   have:g*bQ (w+1) (up (aT w v h) c (eW q))=X q:=by
    have ev:∀x,x<w+1->eW q x=v q x:=fun x p=>(C q l x p).symm
    rw[jB ev];rcases r q l with⟨i,n,rfl⟩|⟨j,A,rfl⟩
    ·rw[L.one o n f,hs i n l];grind
    ·have:=B j oM
     rw[show aT w v h j=v (h j) by unfold aT;rw[yI oM]]at this;rw[this,E j A l]
   rw[<- this];grind
  ·have:=B w oM
   rw[show aT w v h w=eW w by unfold aT;rw[yJ rfl]]at this;have G:(if c=w then d else 0)=if w=c then d else 0:=by
    by_cases z:c=w
    ·rw[yJ z,yJ z.symm]
    ·rw[yI z,yI fun y=>z y.symm]
   rw[G,<- this];grind
 refine⟨fun i n=>?_,fun j A=>?_⟩
 ·rw[F,L.one o n f];grind
 ·rw[F]
  have e:v (h j)=aT w v h j:=by unfold aT;rw[yI oM]
  rw[e];by_cases b:j=c
  ·rw[yJ b,b,gN,o];grind
  ·rw[yI b,kN (i:=j) (j:=c) oM f b fun x=>by rw[bI b,cz],yQ]
theorem Lin.bound(L:Lin w m v d t h s){M:Nat}(o:1<=M)(c:∀q x,x<w+1->(v q x).natAbs<=M):d.natAbs<=fct (w+1)*M^(w+1)/\∀i,i<m->∀j,j<w+1->(t i j).natAbs<=fct (w+1)*M^(w+1):=by
 obtain⟨g,g1,e⟩:=L.dt;have ga:g.natAbs=1:=by
  have:g.natAbs*g.natAbs=1:=by rw[<- xA,g1];rfl
  exact g! this
 have f:∀k x,x<w+1->(aT w v h k x).natAbs<=M:=fun k x a=>by
  unfold aT;split
  ·unfold eW;split<;>simp<;>lia
  ·exact c _ x a
 refine⟨?_,fun i l j b=>?_⟩
 ·have:=uJ (n:=w+1) (A:=aT w v h) (M:=M) fun i j _ b=>f i j b
  rw[e,xA,ga,e?]at this;exact this
 ·have:=uJ (n:=w+1) (A:=up (aT w v h) j (v (s i))) (M:=M) fun k x _ a=>by
   by_cases z:k=j
   ·subst z;rw[cz];exact c _ x a
   ·rw[bI z];exact f k x a
  rw[L.one e l b,xA,ga,e?]at this;exact this
end
structure Pm(w m:Nat)(h s:Nat->Nat):Prop where
 hl:∀j,j<w->h j<w+m
 sl:∀i,i<m->s i<w+m
 hi:∀j k,j<w->k<w->h j=h k->j=k
 si:∀j k,j<m->k<m->s j=s k->j=k
 hs:∀j i,j<w->i<m->h j≠s i
 cov:∀q,q<w+m->(∃i,i<m/\s i=q)\/∃j,j<w/\h j=q
structure Fea(w m:Nat)(G N:Nat->Prop)(t:Nat->Nat->Int)(h s:Nat->Nat):Prop where
 g:∀i,i<m->G (s i)->0<=t i w
 n:∀i,i<m->N (s i)->t i w=0/\∀j,j<w->¬N (h j)->t i j=0
 f:∀j,j<w->G (h j)\/N (h j)
section
variable{w m r c:Nat}{e d d':Int}{v t t':Nat->Nat->Int}{h s h' s':Nat->Nat}{G N G' N':Nat->Prop}
theorem Pm.piv(Q:Pm w m h s)(P:rY w m r c e d t h s d' t' h' s')(n:r<m)(o:c<w):Pm w m h' s':=by
 have u:∀j,j<w->(j=c/\h' j=s r)\/(j≠c/\h' j=h j):=fun j f=>by
  by_cases z:j=c
  ·subst z;exact .inl ⟨rfl,P.hc⟩
  ·exact .inr ⟨z,P.hj j f z⟩
 have p:∀i,i<m->(i=r/\s' i=h c)\/(i≠r/\s' i=s i):=fun i g=>by
  by_cases z:i=r
  ·subst z;exact .inl ⟨rfl,P.sr⟩
  ·exact .inr ⟨z,P.si i g z⟩
 refine⟨fun j f=>?_,fun i g=>?_,fun j k f l e=>?_,fun j k f l e=>?_,fun j i f g e=>?_,fun q v=>?_⟩
 ·rcases u j f with⟨_,z⟩|⟨_,z⟩<;>rw[z]
  ·exact Q.sl r n
  ·exact Q.hl j f
 ·rcases p i g with⟨_,z⟩|⟨_,z⟩<;>rw[z]
  ·exact Q.hl c o
  ·exact Q.sl i g
 ·rcases u j f with⟨a,z⟩|⟨a,z⟩<;>rcases u k l with⟨b,y⟩|⟨b,y⟩<;>rw[z,y]at e
  ·rw[a,b]
  ·exact absurd e.symm (Q.hs k r l n)
  ·exact absurd e (Q.hs j r f n)
  ·exact Q.hi j k f l e
 ·rcases p j f with⟨a,z⟩|⟨a,z⟩<;>rcases p k l with⟨b,y⟩|⟨b,y⟩<;>rw[z,y]at e
  ·rw[a,b]
  ·exact absurd e (Q.hs c k o l)
  ·exact absurd e.symm (Q.hs c j o f)
  ·exact Q.si j k f l e
 ·rcases u j f with⟨a,z⟩|⟨a,z⟩<;>rcases p i g with⟨b,y⟩|⟨b,y⟩<;>rw[z,y]at e
  ·exact Q.hs c r o n e.symm
  ·exact b (Q.si i r g n e.symm)
  ·exact a (Q.hi j c f o e)
  ·exact Q.hs j i f g e
 ·by_cases z:q=h c
  ·exact .inl ⟨r,n,by rw[P.sr,z]⟩
  ·by_cases y:q=s r
   ·exact .inr ⟨c,o,by rw[P.hc,y]⟩
   ·rcases Q.cov q v with⟨i,g,e⟩|⟨j,f,e⟩
    ·exact .inl ⟨i,g,by rw[P.si i g (fun x=>y (by rw[<- e,x]))];exact e⟩
    ·exact .inr ⟨j,f,by rw[P.hj j f (fun x=>z (by rw[<- e,x]))];exact e⟩
theorem wZ{d x:Int}(hd:0<d)(h:0<=d*x):0<=x:=by
 rcases yW x 0 with z|z
 ·have:=Ţ hd z;lia
 ·exact z
theorem Bc{d x:Int}(hd:0<d)(h:d*x=0):x=0:=by
 rcases W8.mp h with z|z
 ·lia
 ·exact z
theorem Fea.piv(L:Lin w m v d t h s)(Q:Pm w m h s)(F:Fea w m G N t h s)(P:rY w m r c e d t h s d' t' h' s')(b:r<m)(A:c<w)(C:¬N (h c))
  (val:∀i,i<m->i≠r->G (s i)->0<=t i w*(e*t r c)-t i c*(e*t r w)) (new:G (h c)->0<=- (e*t r w))
  (B:∀q,q≠s r->(G' q ↔ G q)) (o:∀q,q≠s r->(N' q ↔ N q)) (u:G' (s r)\/N' (s r)):Fea w m G' N' t' h' s':=by
 have g:∀i,i<m->i≠r->s i≠s r:=fun i a z y=>z (Q.si i r a b y)
 refine⟨fun i a n=>?_,fun i a l=>?_,fun j f=>?_⟩
 ·by_cases z:i=r
  ·subst z
   rw[P.rj w oM oM];rw[P.sr]at n;exact new ((B _ (Q.hs c i A b)).mp n)
  ·rw[P.si i a z]at n
   have:=val i a z ((B _ (g i a z)).mp n)
   rw[P.tj i a z w oM oM];exact wZ L.pos (by rw[L.ex' a b oM oM oM];exact this)
 ·by_cases z:i=r
  ·subst z
   rw[P.sr]at l;exact absurd ((o _ (Q.hs c i A b)).mp l) C
  ·rw[P.si i a z]at l
   obtain⟨E,D⟩:=F.n i a ((o _ (g i a z)).mp l);have p:=D c A C;refine⟨?_,fun j f k=>?_⟩
   ·rw[P.tj i a z w oM oM]
    exact Bc L.pos (by rw[L.ex' a b oM oM oM,E,p];grind)
   ·by_cases y:j=c
    ·subst y;rw[P.tc i a z,p,yQ]
    ·rw[P.hj j f y]at k
     have:=D j f fun x=>k ((o _ (Q.hs j r f b)).mpr x)
     rw[P.tj i a z j oM y];exact Bc L.pos (by rw[L.ex' a b oM oM (fun x=>y x.symm),this,p];grind)
 ·by_cases y:j=c
  ·subst y;rw[P.hc];exact u
  ·rw[P.hj j f y]
   rcases F.f j f with x|x
   ·exact .inl ((B _ (Q.hs j r f b)).mpr x)
   ·exact .inr ((o _ (Q.hs j r f b)).mpr x)
theorem Fea.tight(L:Lin w m v d t h s)(Q:Pm w m h s)(F:Fea w m G N t h s)(P:rY w m r c e d t h s d' t' h' s')(g:r<m)(u:c<w)(p:¬N (h c))(gr:G (s r))(o:t r c<0)
  (n:∀i,i<m->G (s i)->t i c<0->t r w*- t i c<=t i w*- t r c):Fea w m G N t' h' s':=by
 have l:e=-1:=by
  have A:=P.ep;have x:=P.e1;rcases yW e 0 with z|z
  ·have:e*e=1:=x
   have:e=-1:=by
    rcases yW e (-1) with y|y
    ·have:1<e*e:=by
      have a:(-e)*1<(-e)*(-e):=Ŝ oM oM;have b:(-e)*(-e)=e*e:=by grind
      lia
     lia
    ·lia
   exact this
  ·have:e*t r c<=0:=Ϧ z oM
   lia
 have f:=F.g r g gr;refine Fea.piv L Q F P g u p (fun i j ne k=>?_) (fun _=>by rw[l];lia) (fun _ _=>.rfl) (fun _ _=>.rfl) (.inl gr);have q:=F.g i j k;rw[l];rcases yW (t i c) 0 with z|z
 ·have:=n i j k z
  have a:t i w*(-1*t r c)-t i c*(-1*t r w)=t i w*- t r c-t r w*- t i c:=by grind
  rw[a];lia
 ·have a:t i w*(-1*t r c)-t i c*(-1*t r w)=t i w*- t r c+t i c*t r w:=by grind
  rw [a];have b:=è q (show 0 <= - t r c by lia);have c:=è z f;lia
theorem Fea.lift(L:Lin w m v d t h s)(Q:Pm w m h s)(F:Fea w m G N t h s)(P:rY w m r c e d t h s d' t' h' s')(p:r<m)(u:c<w)(n:¬N (h c))(pos:0<t r c)(low:t r w<0)
  (l:∀i,i<m->G (s i)->t i c<0->t r w*t i c<=t i w*t r c) (A:∀q,q≠s r->(G' q ↔ G q)) (x:∀q,q≠s r->(N' q ↔ N q)) (g:G' (s r)\/N' (s r)):Fea w m G' N' t' h' s':=by
 have f:e=1:=by
  have C:=P.ep;have B:=P.e1;have f:0<e:=by
   rcases yW 0 e with z|z
   ·exact z
   ·have:e*t r c<=0:=ĉ z oM
    lia
  rcases yW 1 e with y|y
  ·have:e*1<e*e:=Ŝ y f
   lia
  ·lia
 refine Fea.piv L Q F P p u n (fun i j ne k=>?_) (fun _=>by rw[f];lia) A x g;have o:=F.g i j k;rw[f];rcases yW (t i c) 0 with z|z
 ·have:=l i j k z
  have a:t i w*(1*t r c)-t i c*(1*t r w)=t i w*t r c-t r w*t i c:=by grind
  rw[a];lia
 ·have a:t i w*(1*t r c)-t i c*(1*t r w)=t i w*t r c+t i c*- t r w:=by grind
  rw [a];have b:=è o (show 0 <= t r c by lia);have c:=è z (show 0 <= - t r w by lia);lia
theorem Fea.move(L:Lin w m v d t h s)(Q:Pm w m h s)(F:Fea w m G N t h s)(P:rY w m r c e d t h s d' t' h' s')(l:r<m)(p:c<w)(j:¬N (h c))(f:t r w=0)
  (x:∀q,q≠s r->(G' q ↔ G q)) (u:∀q,q≠s r->(N' q ↔ N q)) (g:G' (s r)\/N' (s r)):Fea w m G' N' t' h' s':=by
 refine Fea.piv L Q F P l p j (fun i n ne o=>?_) (fun _=>by rw[f];lia) x u g;have k:=F.g i n o
 have:=P.ep
 have b:=è k (show 0 <= e * t r c by lia);rw [f];have a:t i w * (e * t r c) - t i c * (e * 0)=t i w * (e * t r c):=by grind
 rw[a];exact b
theorem FJ{a b x y u z:Int}(m:b<0)(k:x<0)(l:0<u)(g:z*b<=a*u)(f:a*- x<=y*- b):z*x<=y*u:=by
 have d:(z*b)*(-x)<=(a*u)*(-x):=Ó g oM;have c:(a*- x)*u<=(y*- b)*u:=Ó f oM;have e:(z*x)*(-b)<=(y*u)*(-b):=by
  have j:(z*b)*(-x)=(z*x)*(-b):=by grind
  have i:(a*u)*(-x)=(a*- x)*u:=by grind
  have h:(y*- b)*u=(y*u)*(-b):=by grind
  rw[j,i]at d;rw[h]at c;exact ĵ d c
 exact ß e oM
theorem Fea.guard{p:Nat}(F:Fea w m G N t h s)(Q:Pm w m h s)(c:p<m)(e:0<=t p w):Fea w m (fun q=>G q\/q=s p) N t h s :=
 ⟨fun i b a=>by
  rcases a with a|a
  ·exact F.g i b a
  ·rw[Q.si i p b c a];exact e,F.n,fun j d=>(F.f j d).imp .inl id⟩
theorem Fea.nail{p:Nat}(F:Fea w m G N t h s)(Q:Pm w m h s)(f:p<m)(g:t p w=0)(hz:∀j,j<w->¬N (h j)->t p j=0):Fea w m G (fun q=>N q\/q=s p) t h s :=
 ⟨F.g,fun i e c=>by
  rcases c with c|c
  ·obtain⟨a,b⟩:=F.n i e c
   exact⟨a,fun j d z=>b j d fun y=>z (.inl y)⟩
  ·rw[Q.si i p e f c]
   exact⟨g,fun j d z=>hz j d fun y=>z (.inl y)⟩,fun j d=>(F.f j d).imp id .inl⟩
noncomputable def tv(v:Nat->Nat->Int)(q:Nat):Nat->Nat->Int:=fun k x=>if k=q then-v k x else v k x
theorem Lin.turn{p:Nat}(L:Lin w m v d t h s)(Q:Pm w m h s)(f:p<m)(o:∀j,j<w+1->t' p j=- t p j)(n:∀i,i<m->i≠p->∀j,j<w+1->t' i j=t i j):Lin w m (tv v (s p)) d t' h s:=by
 have c:∀k,k<w+1->aT w (tv v (s p)) h k=aT w v h k:=fun k a=>by
  unfold aT;by_cases z:k=w
  ·rw[yJ z,yJ z]
  ·rw[yI z,yI z];funext x;unfold tv;rw[yI (Q.hs k p oM f)]
 refine⟨L.pos,fun i b x e=>?_,?_⟩
 ·by_cases z:i=p
  ·subst z
   have:=L.lin i b x e
   rw[sum_congr (g:=fun k=>(-1)*(t i k*aT w v h k x)) fun k a=>by rw[c k a,o k a];grind,sum_mul,<- this];unfold tv;rw[yJ rfl];grind
  ·rw[sum_congr (g:=fun k=>t i k*aT w v h k x) fun k a=>by rw[c k a,n i b z k a],<- L.lin i b x e]
   unfold tv;rw[yI fun y=>z (Q.si i p b f y)]
 ·obtain⟨g,g1,l⟩:=L.dt
  exact⟨g,g1,by rw[d7 (B:=aT w v h) fun i j b _=>by rw[c i b]];exact l⟩
theorem Fea.turn{p:Nat}(F:Fea w m G N t h s)(Q:Pm w m h s)(n:p<m)(k:¬G (s p))(g:¬N (s p))(d:∀i,i<m->i≠p->∀j,j<w+1->t' i j=t i j):Fea w m G N t' h s:=by
 refine⟨fun i c f=>?_,fun i c e=>?_,F.f⟩
 ·rw[d i c (fun z=>k (by rw[<- z];exact f)) w oM];exact F.g i c f
 ·have ne:i≠p:=fun z=>g (by rw[<- z];exact e)
  obtain⟨a,b⟩:=F.n i c e;exact⟨by rw[d i c ne w oM];exact a,fun j l z=>by rw[d i c ne j oM];exact b j l z⟩
end
theorem zk:∀(M:Nat)(f:Nat->Nat),(∀n,f n<M)->∃i j,i<j/\f i=f j
 |0,f,h=>absurd (h 0) oM
 |M+1,f,h=>by
  by_cases c:∃n,∀k,n<=k->f k≠M
  ·obtain⟨n,hn⟩:=c
   obtain⟨i,j,g,e⟩:=zk M (fun k=>f (n+k)) fun k=>by have:=h (n+k);have:=hn (n+k) oM;lia
   exact⟨n+i,n+j,by lia,e⟩
  ·have b:∀n,∃k,n<=k/\f k=M:=fun n=>ö fun z=>c ⟨n,fun k d e=>z ⟨k,d,e⟩⟩
   obtain⟨i,_,l⟩:=b 0;obtain⟨j,m,a⟩:=b (i+1);exact⟨i,j,by lia,by rw[l,a]⟩
def jV(b:Nat)(h:Nat->Nat):Nat->Nat
 |0=>0
 |n+1=>jV b h n*b+h n
theorem AG{b:Nat}{h:Nat->Nat}:∀{n:Nat},(∀j,j<n->h j<b)->jV b h n<b^n
 |0,_=>by simp[jV]
 |n+1,H=>by
  have h1:=AG (n:=n) fun j a=>H j oM
  have c:=H n oM;show jV b h n*b+h n<b^(n+1);rw[ż];have:(jV b h n+1)*b<=b^n*b:=ϑ b h1;rw[L']at this;lia
theorem wu{b:Nat}{h g:Nat->Nat}:∀{n:Nat},(∀j,j<n->h j<b)->(∀j,j<n->g j<b)->jV b h n=jV b g n->∀j,j<n->h j=g j
 |0,_,_,_,j,hj=>by lia
 |n+1,H,K,e,j,hj=>by
  have h2:=H n oM;have a:=K n oM;have f:jV b h n*b+h n=jV b g n*b+g n:=e;have d:h n=g n:=by
   have:=congrArg (·%b) f
   simp only[Nat.mul_add_mod_self_right]at this
   rwa [c! h2,c! a]at this
  have c:jV b h n=jV b g n:=by
   have:jV b h n*b=jV b g n*b:=by lia
   exact Nat.eq_of_mul_eq_mul_right oM this
  rcases yV j n with z|z
  ·exact wu (fun j hj=>H j oM) (fun j hj=>K j oM) c j z
  ·rw[show j=n by lia];exact d
theorem x9(b:Nat->Prop){i:Nat}:∀(k:Nat),b i->¬b (i+k)->∃n,i<=n/\n<i+k/\b n/\¬b (n+1)
 |0,h,g=>absurd h g
 |k+1,h,g=>by
  by_cases z:b (i+k)
  ·exact⟨i+k,by lia,by lia,z,g⟩
  ·obtain⟨n,a,c,d⟩:=x9 b k h z
   exact⟨n,a,by lia,d⟩
theorem x8(b:Nat->Prop){i j x y:Nat}(g:i<=x/\x<=j)(f:i<=y/\y<=j)(k:b x)(d:¬b y)(e:b i ↔ b j):∃n,i<=n/\n<j/\b n/\¬b (n+1):=by
 have h:∀a c,i<=a->a<=c->c<=j->b a->¬b c->∃n,i<=n/\n<j/\b n/\¬b (n+1):=fun a c t s r p q=>by
  obtain⟨n,o,m,l⟩:=x9 b (c-a) p (by rwa [show a+(c-a)=c by lia]);exact⟨n,by lia,by lia,l⟩
 rcases ϳ x y with z|z
 ·exact h x y g.1 z f.2 k d
 ·by_cases q:b j
  ·exact h i y oM f.1 f.2 (e.mpr q) d
  ·exact h x j g.1 g.2 (zP j) k q
structure St where
 d:Int
 t:Nat->Nat->Int
 h:Nat->Nat
 s:Nat->Nat
structure Bl(w m p:Nat)(G N:Nat->Prop)(r c:Nat)(e:Int)(S S':St):Prop where
 hc:c<w
 nc:¬N (S.h c)
 up:0<S.t p c
 least:∀j,j<w->¬N (S.h j)->0<S.t p j->S.h c<=S.h j
 hr:r<m
 gr:G (S.s r)
 neg:S.t r c<0
 ti:∀i,i<m->G (S.s i)->S.t i c<0->S.t r w*- S.t i c<S.t i w*- S.t r c\/(S.t r w*- S.t i c=S.t i w*- S.t r c/\S.s r<=S.s i)
 piv:rY w m r c e S.d S.t S.h S.s S'.d S'.t S'.h S'.s
def jK(w:Nat)(S:St)(q:Nat):Prop:=∃k,k<w/\S.h k=q
def Zr(w m:Nat)(S:St)(q:Nat):Prop:=∀i,i<m->S.s i=q->S.t i w=0
theorem DM{a b c d e f:Int}(p:0<b)(hd:0<d)(o:0<f)(k:a*d<=c*b)(j:c*f<=e*d):a*f<=e*b:=by
 have g:(a*d)*f<=(c*b)*f:=Ó k oM;have i:(c*f)*b<=(e*d)*b:=Ó j oM;have n:(c*b)*f=(c*f)*b:=by grind
 have h:(a*f)*d<=(e*b)*d:=by
  have m:(a*f)*d=(a*d)*f:=by grind
  have l:(e*b)*d=(e*d)*b:=by grind
  rw[m,l];rw[n]at g;exact ĵ g i
 exact ß h hd
section
variable{w m p:Nat}{v:Nat->Nat->Int}{G N:Nat->Prop}{S:Nat->St}{r c:Nat->Nat}{e:Nat->Int}
structure Run(w m p:Nat)(v:Nat->Nat->Int)(G N:Nat->Prop)(S:Nat->St)(r c:Nat->Nat)(e:Nat->Int):Prop where
 L:∀n,Lin w m v (S n).d (S n).t (S n).h (S n).s
 Q:∀n,Pm w m (S n).h (S n).s
 F:∀n,Fea w m G N (S n).t (S n).h (S n).s
 B:∀n,Bl w m p G N (r n) (c n) (e n) (S n) (S (n+1))
 hp:p<m
 np:¬G ((S 0).s p)
theorem Run.sp(R:Run w m p v G N S r c e):∀n,(S n).s p=(S 0).s p
 |0=>rfl
 |n+1=>by
  have h:=R.sp n;have:p≠r n:=fun z=>R.np (by rw[<- h,z];exact(R.B n).gr)
  rw[(R.B n).piv.si p R.hp this];exact h
theorem Run.pr(R:Run w m p v G N S r c e)(n:Nat):p≠r n:=fun z=>R.np (by rw[<- R.sp n,z];exact(R.B n).gr)
theorem Fq{e a:Int}(f:e*e=1)(d:0<e*a)(c:a<0):e=-1:=by
 have hz:e<0:=by
  rcases yW e 0 with z|z
  ·exact z
  ·have:e*a<=0:=Ϧ z oM
   lia
 rcases yW e (-1) with y|y
 ·have a:(-e)*1<(-e)*(-e):=Ŝ oM oM
  have b:(-e)*(-e)=e*e:=by grind
  lia
 ·lia
theorem Run.em(R:Run w m p v G N S r c e)(n:Nat):e n=-1:=Fq (R.B n).piv.e1 (R.B n).piv.ep (R.B n).neg
theorem Run.col(R:Run w m p v G N S r c e)(n:Nat){i:Nat}(a:i<m)(ne:i≠r n):(S n).d*(S (n+1)).t i w=(S n).t i w*(S (n+1)).d+(S n).t i (c n)*(S n).t (r n) w:=by
 have B:=R.B n;rw[B.piv.tj i a ne w oM (by have:=B.hc;lia),(R.L n).ex' a B.hr (by have:=B.hc;lia) oM (by have:=B.hc;lia),B.piv.d',R.em n]
 grind
theorem Run.mono(R:Run w m p v G N S r c e)(n:Nat):(S n).t p w*(S (n+1)).d<=(S (n+1)).t p w*(S n).d:=by
 have B:=R.B n
 have:=R.col n R.hp (R.pr n)
 have a:=è (show 0 <= (S n).t p (c n) by have:=B.up;lia) ((R.F n).g (r n) B.hr B.gr);rw [ϵ ((S (n + 1)).t p w)];lia
theorem Run.monos(R:Run w m p v G N S r c e)(i:Nat):∀k,(S i).t p w*(S (i+k)).d<=(S (i+k)).t p w*(S i).d
 |0=>h? _
 |k+1=>DM (R.L i).pos (R.L (i+k)).pos (R.L (i+k+1)).pos (R.monos i k) (R.mono (i+k))
theorem Run.same(R:Run w m p v G N S r c e){i j:Nat}(h:∀k,k<w->(S i).h k=(S j).h k):(S i).d=(S j).d/\(S i).t p w=(S j).t p w:=by
 have o:∀k,k<w+1->aT w v (S i).h k=aT w v (S j).h k:=fun k E=>by
  unfold aT;by_cases z:k=w
  ·rw[yJ z,yJ z]
  ·rw[yI z,yI z,h k oM]
 obtain⟨g,g1,n⟩:=(R.L i).dt;obtain⟨y,l,d⟩:=(R.L j).dt;have B:bQ (w+1) (aT w v (S i).h)=bQ (w+1) (aT w v (S j).h):=d7 fun a b f _=>by rw[o a f]
 have t:=(R.L i).one n R.hp (j:=w) oM;have s:=(R.L j).one d R.hp (j:=w) oM;rw[R.sp i]at t;rw[R.sp j]at s;have A:bQ (w+1) (up (aT w v (S i).h) w (v ((S 0).s p)))=bQ (w+1) (up (aT w v (S j).h) w (v ((S 0).s p))):=d7 fun a b f _=>by
  by_cases z:a=w
  ·subst z;rw[cz,cz]
  ·rw[bI z,bI z,o a f]
 rw[n,d]at B;rw[t,s]at A;have D:=(R.L i).pos;have C:=(R.L j).pos;have q:∀x:Int,x*x=1->x=1\/x=-1:=fun x u=>by
  have:x.natAbs*x.natAbs=1:=by rw[<- xA,u];rfl
  have:=g! this
  lia
 rcases q g g1 with rfl|rfl<;>rcases q y l with rfl|rfl<;>constructor<;>lia
theorem Run.flat(R:Run w m p v G N S r c e){i j n:Nat}(h:∀k,k<w->(S i).h k=(S j).h k)(o:i<=n)(l:n<j):(S n).t (r n) w=0:=by
 have B:=R.B n;have a:=R.monos i (n-i);have b:=R.monos (n+1) (j-(n+1));rw[show i+(n-i)=n by lia]at a;rw[show n+1+(j-(n+1))=j by lia]at b;obtain⟨f,d⟩:=R.same h;rw[<- f,<- d]at b;have g:=DM (R.L (n+1)).pos (R.L i).pos (R.L n).pos b a;have s:=R.col n R.hp (R.pr n);have q:=(R.F n).g (r n) B.hr B.gr;rcases yW 0 ((S n).t (r n) w) with z|z
 ·have:=Ũ B.up z
  rw[ϵ ((S (n+1)).t p w)]at g;lia
 ·lia
theorem Run.zero(R:Run w m p v G N S r c e){n q:Nat}(f:(S n).t (r n) w=0):Zr w m (S n) q ↔ Zr w m (S (n+1)) q:=by
 have B:=R.B n;have P:=B.piv;have g:w≠c n:=by have:=B.hc;lia
 have d:(S (n+1)).t (r n) w=0:=by rw[P.rj w oM g,f];lia
 have b:∀i,i<m->i≠r n->((S n).t i w=0 ↔ (S (n+1)).t i w=0):=fun i a ne=>by
  have:=R.col n a ne
  rw[f,yQ,ģ]at this;constructor
  ·intro z;rw[z,yR]at this;exact Bc (R.L n).pos this
  ·intro z;rw[z,yQ]at this
   rcases W8.mp this.symm with y|y
   ·exact y
   ·have:=(R.L (n+1)).pos;lia
 constructor
 ·intro h i a e
  by_cases z:i=r n
  ·rw[z];exact d
  ·rw[P.si i a z]at e;exact(b i a z).mp (h i a e)
 ·intro h i a e
  by_cases z:i=r n
  ·rw[z];exact f
  ·exact(b i a z).mpr (h i a (by rw[P.si i a z];exact e))
theorem Run.zeros(R:Run w m p v G N S r c e){i j q:Nat}(h:∀k,k<w->(S i).h k=(S j).h k){a:Nat}(ha:i<=a):∀k,a+k<=j->(Zr w m (S a) q ↔ Zr w m (S (a+k)) q)
 |0,_=>.rfl
 |k+1,hk=>(R.zeros h ha k oM).trans (R.zero (R.flat h oM oM))
theorem Run.zall(R:Run w m p v G N S r c e){i j q:Nat}(h:∀k,k<w->(S i).h k=(S j).h k){a b:Nat}(n:i<=a)(g:a<=j)(f:i<=b)(d:b<=j)(z:Zr w m (S a) q):Zr w m (S b) q:=by
 rcases ϳ a b with l|l
 ·have:=(R.zeros (q:=q) h n (b-a) oM).mp;rw[show a+(b-a)=b by lia]at this;exact this z
 ·have:=(R.zeros (q:=q) h f (a-b) oM).mpr;rw[show b+(a-b)=a by lia]at this;exact this z
theorem Run.out(R:Run w m p v G N S r c e){n q:Nat}(h:jK w (S n) q)(g:¬jK w (S (n+1)) q):q=(S n).h (c n):=by
 obtain⟨k,a,rfl⟩:=h;by_cases z:k=c n
 ·rw[z]
 ·exact absurd ⟨k,a,(R.B n).piv.hj k a z⟩ g
theorem Run.inn(R:Run w m p v G N S r c e){n q:Nat}(h:¬jK w (S n) q)(g:jK w (S (n+1)) q):q=(S n).s (r n):=by
 obtain⟨k,a,rfl⟩:=g;by_cases z:k=c n
 ·rw[z];exact(R.B n).piv.hc
 ·exact absurd ⟨k,a,((R.B n).piv.hj k a z).symm⟩ h
theorem Run.hz(R:Run w m p v G N S r c e){n q:Nat}(h:jK w (S n) q):Zr w m (S n) q:=fun i b e=>by
 obtain⟨k,a,rfl⟩:=h;exact absurd e.symm ((R.Q n).hs k i a b)
theorem BW{n:Nat}{f:Nat->Int}(h:0<Qf n f):∃k,k<n/\0<f k:=by
 induction n with
 |zero=>exact absurd h (by simp[Qf])
 |succ n a =>
  by_cases z:0<f n
  ·exact⟨n,by lia,z⟩
  ·obtain⟨k,b,e⟩:=a (by simp only[Qf]at h;lia)
   exact⟨k,by lia,e⟩
theorem Run.ends(R:Run w m p v G N S r c e):False:=by
 obtain⟨i,j,hij,eq⟩:=zk ((w+m)^w) (fun n=>jV (w+m) (S n).h w) fun n=>AG (R.Q n).hl
 have I:=wu (R.Q i).hl (R.Q j).hl eq
 let C:Nat->Prop:=fun q=>∃a b,i<=a/\a<=j/\i<=b/\b<=j/\jK w (S a) q/\¬jK w (S b) q
 have f0:C ((S i).h (c i)):=⟨i,i+1,by lia,by lia,by lia,by lia,⟨c i,(R.B i).hc,rfl⟩,fun⟨k,h,e⟩=>(R.Q (i+1)).hs k (r i) h (R.B i).hr (by rw[e,(R.B i).piv.sr])⟩;have bd:∀q,C q->q<w+m:=fun q T=>by obtain⟨a,b,_,_,_,_,⟨k,h,e⟩,_⟩:=T;rw[<- e];exact(R.Q a).hl k h
 obtain⟨q,hq,V⟩:∃q,C q/\∀x,C x->x<=q:=by
  have go:∀k,(∃q,C q/\w+m<=q+k)->∃q,C q/\∀x,C x->x<=q:=fun k=>by
   induction k with
   |zero=>intro⟨q,F,U⟩;have:=bd q F;lia
   |succ k ih =>
    rintro⟨q,F,U⟩;by_cases z:∃x,C x/\q<x
    ·obtain⟨x,x1,x2⟩:=z;exact ih ⟨x,x1,by lia⟩
    ·exact⟨q,F,fun x E=>by
      rcases yV q x with y|y
      ·exact absurd ⟨x,E,y⟩ z
      ·exact y⟩
  exact go (w+m) ⟨_,f0,by lia⟩
 have B:jK w (S i) q ↔ jK w (S j) q:=⟨fun⟨k,h,e⟩=>⟨k,h,by rw[<- I k h];exact e⟩,fun⟨k,h,e⟩=>⟨k,h,by rw[I k h];exact e⟩⟩;obtain⟨a,b,a1,a2,b1,b2,ha,Z⟩:=id hq;obtain⟨f,u1,u2,u3,u4⟩:=x8 (fun n=>jK w (S n) q) ⟨a1,a2⟩ ⟨b1,b2⟩ ha Z B;obtain⟨d,v1,v2,v3,K⟩:=x8 (fun n=>¬jK w (S n) q) ⟨b1,b2⟩ ⟨a1,a2⟩ Z (fun z=>z ha) (not_congr B);have K:jK w (S (d+1)) q:=ö K;have M:=R.out u3 u4;have L:=R.inn v3 K;have J:=R.B f;have s:=R.B d
 obtain⟨g,g1,Y⟩:=(R.L d).dt
 let W:(Nat->Int)->Int:=fun u=>g*bQ (w+1) (up (aT w v (S d).h) (c d) u)
 have t:c d<w+1:=by have:=s.hc;lia
 have Ws:∀k,k<m->W (v ((S d).s k))=(S d).t k (c d):=fun k h=>by
  show g*_=_;rw[(R.L d).one Y h t];grind
 have Wb:∀k,k<w+1->W (aT w v (S d).h k)=if k=c d then(S d).d else 0:=fun k h=>by
  show g*_=_;by_cases z:k=c d
  ·rw[yJ z,z,gN,Y];grind
  ·rw[yI z,kN (i:=k) (j:=c d) h t z fun x=>by rw[bI z,cz],yQ]
 have P:(S f).d*(S d).t p (c d)=Qf w fun k=>(S f).t p k*W (v ((S f).h k)):=by
  have F:(S f).d*W (v ((S 0).s p))=Qf (w+1) fun k=>(S f).t p k*W (aT w v (S f).h k):=by
   show(S f).d*(g*bQ (w+1) (up (aT w v (S d).h) (c d) (v ((S 0).s p))))=Qf (w+1) fun k=>(S f).t p k*(g*bQ (w+1) (up (aT w v (S d).h) (c d) (aT w v (S f).h k)))
   have U:(S f).d*bQ (w+1) (up (aT w v (S d).h) (c d) (v ((S 0).s p)))=Qf (w+1) fun k=>(S f).t p k*bQ (w+1) (up (aT w v (S d).h) (c d) (aT w v (S f).h k)):=by
    rw[<- qF t,<- kM t];exact jB fun x E=>by rw[<- R.sp f];exact(R.L f).lin p R.hp x E
   rw[sum_congr (g:=fun k=>g*((S f).t p k*bQ (w+1) (up (aT w v (S d).h) (c d) (aT w v (S f).h k)))) fun k _=>by grind,sum_mul,<- U];grind
  rw[<- Ws p R.hp,R.sp d,F];show Qf w _+_=_;have hw:W (aT w v (S f).h w)=0:=by
   have:aT w v (S f).h w=aT w v (S d).h w:=by unfold aT;rw[yJ rfl,yJ rfl]
   rw[this,Wb w oM,yI (by have:=s.hc;lia)]
  show Qf w _+(S f).t p w*W (aT w v (S f).h w)=_;rw[hw,yQ,ģ];exact sum_congr fun k h=>by rw[show aT w v (S f).h k=v ((S f).h k) by unfold aT;rw[yI oM]]
 obtain⟨k,h,D⟩:=BW (by rw[<- P];exact Ũ (R.L f).pos s.up);have Q:jK w (S f) ((S f).h k):=⟨k,h,rfl⟩;rcases(R.Q d).cov ((S f).h k) ((R.Q f).hl k h) with⟨l,A,o⟩|⟨l,A,o⟩
 ·-- a line at d
  rw[<- o,Ws l A]at D;have O:¬jK w (S d) ((S f).h k):=fun⟨x,E,ex⟩=>(R.Q d).hs x l E A (by rw[ex,o])
  have le:=V _ ⟨f,d,by lia,by lia,by lia,by lia,Q,O⟩;have nt:(S d).t l (c d)≠0:=fun z=>by rw[z,yQ]at D;lia
  have H:¬N ((S f).h k):=fun z=>nt (((R.F d).n l A (by rw[o];exact z)).2 (c d) s.hc s.nc)
  by_cases X:(S f).h k=q
  ·have kc:k=c f:=(R.Q f).hi k (c f) h J.hc (by rw[X];exact M)
   have lr:l=r d:=(R.Q d).si l (r d) A s.hr (by rw[o,X];exact L);rw[kc,lr]at D
   have:=Ţ J.up s.neg
   lia
  ·have np:¬0<(S f).t p k:=fun z=>by
    have:=J.least k h H z
    rw[<- M]at this;lia
   have n0:(S f).t p k<0:=by
    rcases yW ((S f).t p k) 0 with z|z
    ·exact z
    ·rw[show(S f).t p k=0 by lia,yR]at D;lia
   have tl:(S d).t l (c d)<0:=by
    rcases yW ((S d).t l (c d)) 0 with z|z
    ·exact z
    ·have:=ĉ (ý n0) z;lia
   have gl:G ((S d).s l):=by
    rcases(R.F f).f k h with z|z
    ·rw[o];exact z
    ·exact absurd z H
   have lz:(S d).t l w=0:=R.zall I oM oM oM oM (R.hz Q) l A o;have rz:=R.flat I (n:=d) oM oM;rcases s.ti l A gl tl with z|⟨_,z⟩
   ·rw[lz,rz]at z;lia
   ·rw[<- L,o]at z;lia
 ·-- free at d
  have e1:v ((S f).h k)=aT w v (S d).h l:=by unfold aT;rw[yI oM,o]
  rw[e1,Wb l oM]at D;by_cases z:l=c d
  ·rw[yJ z]at D
   have tp:0<(S f).t p k:=by
    rcases yW 0 ((S f).t p k) with y|y
    ·exact y
    ·have:=ĉ y (ý (R.L d).pos);lia
   have H:¬N ((S f).h k):=by rw[<- o,z];exact s.nc
   have l1:=J.least k h H tp;rw[<- M]at l1;have O:¬jK w (S (d+1)) ((S f).h k):=fun⟨x,E,ex⟩=>(R.Q (d+1)).hs x (r d) E s.hr (by rw[ex,s.piv.sr,<- o,z])
   have l2:=V _ ⟨f,d+1,by lia,by lia,by lia,by lia,Q,O⟩;have:q=(S f).h k:=by lia
   exact(R.Q d).hs l (r d) A s.hr (by rw[o,<- L,this])
  ·rw[yI z,yQ]at D;lia
end
structure Sh where
 d:Int
 ls:List (List Int)
 hd:List Nat
 sd:List Nat
 gd:List Nat
 nl:List Nat
 tn:List Nat
noncomputable def gI(xs:List Int)(j:Nat):Int:=xs.getD j 0
noncomputable def row(S:Sh)(i:Nat):List Int:=S.ls.getD i []
def Sh.t(S:Sh)(i j:Nat):Int:=gI (row S i) j
noncomputable def Sh.h(S:Sh)(j:Nat):Nat:=S.hd.getD j 0
noncomputable def Sh.s(S:Sh)(i:Nat):Nat:=S.sd.getD i 0
noncomputable def fdvS(a b:Int):Int:=if 0<b then a/b else a.fdiv b
def chLine(l P:List Int)(c:Nat)(sg d:Int):List Int :=
 if gI l c=0 then(if gI P c=d then l else l.map fun x=>fdvS (x*gI P c) d) else((l.zip P).map fun z=>fdvS (z.1*gI P c-gI l c*z.2) d).set c (sg*gI l c)
noncomputable def sgn(x:Int):Int:=if x<0 then -1 else 1
def pvl(S:Sh)(r c:Nat):List Int:=(row S r).map fun x=>sgn (S.t r c)*x
def Qj(S:Sh)(r c:Nat):Sh:={ S with
 d:=gI (pvl S r c) c
 ls:=(S.ls.map fun l=>chLine l (pvl S r c) c (sgn (S.t r c)) S.d).set r (((pvl S r c).map fun x=>- x).set c (sgn (S.t r c)*S.d))
 hd:=S.hd.set c (S.s r)
 sd:=S.sd.set r (S.h c) }
structure Ql(w m:Nat)(S:Sh):Prop where
 ls:S.ls.length=m
 row:∀l∈S.ls,l.length=w+1
 hd:S.hd.length=w
 sd:S.sd.length=m
theorem pK{f:Int->Int}{xs:List Int}{j:Nat}(h:j<xs.length):gI (xs.map f) j=f (gI xs j):=by
 unfold gI;simp[zD,h]
theorem gI_set_at{xs:List Int}{j:Nat}{x:Int}(h:j<xs.length):gI (xs.set j x) j=x:=by
 unfold gI;simp[zD,h]
theorem gI_set_ne{j k:Nat}{x:Int}(h:k≠j):gI (xs.set j x) k=gI xs k:=by
 unfold gI;simp[zD,yY,h.symm]
theorem gI_zip{xs ys:List Int}{f:Int×Int->Int}{j:Nat}(h:j<xs.length)(h':j<ys.length):gI ((xs.zip ys).map f) j=f (gI xs j,gI ys j):=by
 unfold gI;have hz:j<(xs.zip ys).length:=by rw[Ą];lia
 simp only[zD,zR,zF h,zF h',zF hz,Æ,ϫ,List.getElem_zip]
theorem getD_mem{α:Type}{xs:List α}{i:Nat}{a:α}(h:i<xs.length):xs.getD i a∈xs:=by
 simp[zD,zF h]
theorem Ql.rl{w m:Nat}(P:Ql w m S){i:Nat}(h:i<m):(SX.row S i).length=w+1:=P.row _ (getD_mem (by rw[P.ls];exact h))
theorem wq{a b:Int}(h:0<b):fdvS a b=a/b:=yJ h
theorem xF{c:Nat}{sg d:Int}(h:l.length=P.length):(chLine l P c sg d).length=l.length:=by
 unfold chLine;split
 ·split
  ·rfl
  ·simp
 ·simp[h]
theorem uF{r c i:Nat}(a:i<S.ls.length)(b:r<S.ls.length):SX.row (Qj S r c) i=if i=r then((pvl S r c).map fun x=>- x).set c (sgn (S.t r c)*S.d) else chLine (SX.row S i) (pvl S r c) c (sgn (S.t r c)) S.d:=by
 unfold SX.row Qj;simp only[zD,yY,zH];by_cases e:i=r
 ·subst e;simp[a]
 ·rw[yI fun z=>e z.symm,yI e];simp[zF a]
theorem exch_shp{w m:Nat}{r c:Nat}(P:Ql w m S)(d:r<m):Ql w m (Qj S r c):=by
 have a:(pvl S r c).length=w+1:=by unfold pvl;rw[zH];exact P.rl d
 refine⟨by simp[Qj,P.ls],fun l e=>?_,by simp[Qj,P.hd],by simp[Qj,P.sd]⟩;rcases Ċ e with h|h
 ·obtain⟨f,b,rfl⟩:=yE.mp h
  rw[xF (by rw[P.row _ b,a])];exact P.row _ b
 ·rw[h];simp[a]
theorem GU(x:Int):sgn x*sgn x=1:=by unfold sgn;split<;>rfl
theorem Ez{x:Int}(h:x≠0):0<sgn x*x:=by unfold sgn;split<;>lia
theorem ld{w m:Nat}{r c:Nat}(P:Ql w m S)(f:r<m)(q:c<w)(hd:0<S.d)(p:S.t r c≠0):rY w m r c (sgn (S.t r c)) S.d S.t S.h S.s (Qj S r c).d (Qj S r c).t (Qj S r c).h (Qj S r c).s:=by
 have o:=P.rl f;have g:(pvl S r c).length=w+1:=by unfold pvl;rw[zH];exact o
 have e:∀j,j<w+1->gI (pvl S r c) j=sgn (S.t r c)*S.t r j:=fun j a=>by
  unfold pvl;rw[pK (by rw[o];exact a)];rfl
 have b:∀i,i<m->i≠r->∀j,j<w+1->(Qj S r c).t i j=if j=c then sgn (S.t r c)*S.t i c else(S.t i j*(sgn (S.t r c)*S.t r c)-S.t i c*(sgn (S.t r c)*S.t r j))/S.d:=fun i d ne j a=>by
  have l:=P.rl d;show gI (SX.row (Qj S r c) i) j=_;rw[uF (by rw[P.ls];exact d) (by rw[P.ls];exact f),yI ne];have k:gI (SX.row S i) c=S.t i c:=rfl;have h:gI (SX.row S i) j=S.t i j:=rfl;unfold chLine;by_cases z:gI (SX.row S i) c=0
  ·rw[yJ z]
   rw[k]at z;rw[z];have s:∀x:Int,x-0*(sgn (S.t r c)*S.t r j)=x:=fun x=>by rw[yR,Int.sub_zero]
   rw[s];by_cases y:gI (pvl S r c) c=S.d
   ·rw[yJ y,h]
    rw[e c oM]at y;rw[y,Int.mul_ediv_cancel _ oM];by_cases x:j=c
    ·rw[yJ x,x,z,yQ]
    ·rw[yI x]
   ·rw[yI y,pK (by rw[l];exact a),h,wq hd,e c oM]
    by_cases x:j=c
    ·rw[yJ x,x,z,yQ,yR,Int.zero_ediv]
    ·rw[yI x]
  ·rw[yI z]
   by_cases x:j=c
   ·rw[yJ x,x,gI_set_at (by simp[l,g];lia),k]
   ·rw[yI x,gI_set_ne x,gI_zip (by rw[l];exact a) (by rw[g];exact a),wq hd,h,k,e c oM,e j a]
 have n:∀j,j<w+1->(Qj S r c).t r j=if j=c then sgn (S.t r c)*S.d else-(sgn (S.t r c)*S.t r j):=fun j a=>by
  show gI (SX.row (Qj S r c) r) j=_;rw[uF (by rw[P.ls];exact f) (by rw[P.ls];exact f),yJ rfl];by_cases x:j=c
  ·rw[yJ x,x,gI_set_at (by simp[g];lia)]
  ·rw[yI x,gI_set_ne x,pK (by rw[g];exact a),e j a]
 refine⟨GU _,Ez p,e c oM,fun i d ne=>by rw[b i d ne c oM,yJ rfl],fun i d ne j a x=>by rw[b i d ne j a,yI x],by rw[n c oM,yJ rfl],fun j a x=>by rw[n j a,yI x],?_,fun j a x=>?_,?_,fun i d x=>?_⟩
 ·show((S.hd.set c (S.s r)).getD c 0)=_
  simp[zD,P.hd,q]
 ·show((S.hd.set c (S.s r)).getD j 0)=S.hd.getD j 0
  simp[zD,yY,x.symm]
 ·show((S.sd.set r (S.h c)).getD r 0)=_
  simp[zD,P.sd,f]
 ·show((S.sd.set r (S.h c)).getD i 0)=S.sd.getD i 0
  simp[zD,yY,x.symm]
def trn(S:Sh)(p:Nat):Sh:={ S with ls:=S.ls.set p ((row S p).map fun x=>- x),tn:=if S.s p∈S.tn then S.tn else S.tn++[S.s p] }
theorem trn_shp{w m p:Nat}(P:Ql w m S)(a:p<m):Ql w m (trn S p):=by
 refine⟨by simp[trn,P.ls],fun l b=>?_,P.hd,P.sd⟩;rcases Ċ b with h|h
 ·exact P.row _ h
 ·rw[h,zH];exact P.rl a
theorem trn_t{w m p:Nat}(P:Ql w m S)(c:p<m):(∀j,j<w+1->(trn S p).t p j=- S.t p j)/\∀i,i<m->i≠p->∀j,j<w+1->(trn S p).t i j=S.t i j:=by
 have b:∀i,i<m->row (trn S p) i=if i=p then(row S p).map (fun x=>- x) else row S i:=fun i a=>by
  show(S.ls.set p _).getD i []=_;simp only[zD,yY];by_cases e:i=p
  ·subst e;rw[yJ rfl,yJ (by rw[P.ls];exact a),yJ rfl];rfl
  ·rw[yI fun z=>e z.symm,yI e];unfold row;rw[zD]
 refine⟨fun j d=>?_,fun i a ne j d=>?_⟩
 ·show gI (row (trn S p) p) j=_
  rw[b p c,yJ rfl,pK (by rw[P.rl c];exact d)];rfl
 ·show gI (row (trn S p) i) j=_
  rw[b i a,yI ne];rfl
def MT(S:Sh)(w q r i:Nat):Prop:=S.t r w*- S.t i q<S.t i w*- S.t r q\/(S.t r w*- S.t i q=S.t i w*- S.t r q/\S.s r<=S.s i)
def Qh(S:Sh)(w q k:Nat)(o:Option Nat):Prop:=(o=Á->∀i,i<k->S.s i∈S.gd->¬S.t i q<0)/\∀r,o=À r->r<k/\S.s r∈S.gd/\S.t r q<0/\∀i,i<k->S.s i∈S.gd->S.t i q<0->MT S w q r i
theorem OC{A B C x y z:Int}{a b c:Nat}(p:0<x)(j:0<y)(hz:0<z)(f:A*y<B*x\/(A*y=B*x/\a<=b))(d:B*z<C*y\/(B*z=C*y/\b<=c)):A*z<C*x\/(A*z=C*x/\a<=c):=by
 have i:A*y<=B*x:=by lia
 have h:B*z<=C*y:=by lia
 have o:(A*y)*z<=(B*x)*z:=Ó i oM;have n:(B*z)*x<=(C*y)*x:=Ó h oM;have t:(B*x)*z=(B*z)*x:=by grind
 have s:(A*y)*z=(A*z)*y:=by grind
 have r:(C*y)*x=(C*x)*y:=by grind
 have g:(A*z)*y<=(C*x)*y:=by lia
 have m:A*z<=C*x:=ß g j;by_cases e:A*z=C*x
 ·right
  refine⟨e,?_⟩;have q:(A*z)*y=(C*x)*y:=by rw[e]
  have l:A*y=B*x:=by
   have:(A*y)*z=(B*x)*z:=by(omega)
   exact ŝ oM this
  have k:B*z=C*y:=by
   have:(B*z)*x=(C*y)*x:=by lia
   exact ŝ oM this
  rcases f with f|f
  ·lia
  ·rcases d with d|d
   ·lia
   ·lia
 ·left;(omega)
section
variable{S:Sh}{w q k r:Nat}{o:Option Nat}
theorem tt_zero:Qh S w q 0 Á:=⟨fun _ i h=>by lia,fun r h=>nomatch h⟩
theorem tt_skip(h:¬(S.t k q<0/\S.s k∈S.gd))(T:Qh S w q k o):Qh S w q (k+1) o:=by
 refine⟨fun e i j g f=>?_,fun r e=>?_⟩
 ·by_cases z:i=k
  ·subst z;exact h ⟨f,g⟩
  ·exact T.1 e i oM g f
 ·obtain⟨a,b,c,d⟩:=T.2 r e
  refine⟨by lia,b,c,fun i j g f=>?_⟩;by_cases z:i=k
  ·subst z;exact absurd ⟨f,g⟩ h
  ·exact d i oM g f
theorem tt_first(h:S.t k q<0)(a:S.s k∈S.gd)(T:Qh S w q k Á):Qh S w q (k+1) (À k):=by
 refine⟨(fun e=>nomatch e),fun r e=>?_⟩;cases e;refine⟨by lia,a,h,fun i c a b=>?_⟩;by_cases z:i=k
 ·subst z;exact .inr ⟨rfl,zP _⟩
 ·exact absurd b (T.1 rfl i oM a)
theorem tt_new(h:S.t k q<0)(l:S.s k∈S.gd)(j:S.t k w*- S.t r q<S.t r w*- S.t k q\/(S.t k w*- S.t r q=S.t r w*- S.t k q/\S.s k<S.s r))(T:Qh S w q k (À r)):Qh S w q (k+1) (À k):=by
 refine⟨(fun e=>nomatch e),fun m e=>?_⟩;cases e;obtain⟨a,b,c,d⟩:=T.2 r rfl;refine⟨by lia,l,h,fun i n g f=>?_⟩;by_cases z:i=k
 ·subst z;exact .inr ⟨rfl,zP _⟩
 ·exact OC (x:=- S.t k q) (y:=- S.t r q) (z:=- S.t i q) oM oM oM (j.imp id fun x=>⟨x.1,by lia⟩) (d i oM g f)
theorem tt_old(h:S.t k q<0)(j:¬(S.t k w*- S.t r q<S.t r w*- S.t k q\/(S.t k w*- S.t r q=S.t r w*- S.t k q/\S.s k<S.s r)))(T:Qh S w q k (À r)):Qh S w q (k+1) (À r):=by
 refine⟨(fun e=>nomatch e),fun l e=>?_⟩;cases e;obtain⟨a,b,c,d⟩:=T.2 r rfl;refine⟨by lia,b,c,fun i m g f=>?_⟩;by_cases z:i=k
 ·subst z
  unfold MT;have n:¬(S.t i w*- S.t r q<S.t r w*- S.t i q):=fun x=>j (.inl x)
  by_cases e:S.t i w*- S.t r q=S.t r w*- S.t i q
  ·exact .inr ⟨e.symm,V7 fun x=>j (.inr ⟨e,x⟩)⟩
  ·left;(omega)
 ·exact d i oM g f
end
noncomputable def vt(v:Nat->Nat->Int)(tn:List Nat):Nat->Nat->Int:=fun q x=>if q∈tn then-v q x else v q x
structure MI(w m:Nat)(v:Nat->Nat->Int)(S:Sh):Prop where
 shp:Ql w m S
 lin:Lin w m (vt v S.tn) S.d S.t S.h S.s
 pm:Pm w m S.h S.s
 fea:Fea w m (·∈S.gd) (·∈S.nl) S.t S.h S.s
def toSt(S:Sh):St:=⟨S.d,S.t,S.h,S.s⟩
def Rais(w:Nat)(S:Sh)(p:Nat)(o:Option Nat):Prop:=(o=Á->∀j,j<w->S.h j∉S.nl->¬0<S.t p j)/\∀q,o=À q->q<w/\S.h q∉S.nl/\0<S.t p q/\∀j,j<w->S.h j∉S.nl->0<S.t p j->S.h q<=S.h j
structure Kept(m p:Nat)(S T:Sh):Prop where
 gd:T.gd=S.gd
 nl:T.nl=S.nl
 tn:T.tn=S.tn
 si:∀i,i<m->i≠p->S.s i∉S.gd->T.s i=S.s i
section
variable{w m p q r:Nat}{v:Nat->Nat->Int}{S T:Sh}
theorem Kept.refl:Kept m p S S:=⟨rfl,rfl,rfl,fun _ _ _ _=>rfl⟩
theorem Kept.trans(a:Kept m p S T)(b:Kept m p T U):Kept m p S U :=
 ⟨b.gd.trans a.gd,b.nl.trans a.nl,b.tn.trans a.tn,fun i c ne h=>by
  have d:=a.si i c ne h;rw[b.si i c ne (by rw[d,a.gd];exact h),d]⟩
theorem MI.step(I:MI w m v S)(n:p<m)(h:S.s p∉S.gd)(l:Rais w S p (À q))(k:Qh S w q m (À r)):MI w m v (Qj S r q)/\Bl w m p (·∈S.gd) (·∈S.nl) r q (sgn (S.t r q)) (toSt S) (toSt (Qj S r q))/\Kept m p S (Qj S r q)/\(Qj S r q).s p=S.s p:=by
 obtain ⟨b,g,s,o⟩:=l.2 q rfl;obtain ⟨r1,r2,f,e⟩:=k.2 r rfl;have a:=ld I.shp r1 b I.lin.pos (show S.t r q ≠ 0 by lia);refine ⟨⟨exch_shp I.shp r1,I.lin.piv a r1 b,I.pm.piv a r1 b,?_⟩,⟨b,g,s,o,r1,r2,f,e,a⟩,⟨rfl,rfl,rfl,fun i c _ d=>?_⟩,?_⟩
 ·exact Fea.tight I.lin I.pm I.fea a r1 b g r2 f fun i c d j=>by
   rcases e i c d j with z|z
   ·lia
   ·exact _! z.1
 ·exact a.si i c fun z=>d (by rw[z];exact r2)
 ·exact a.si p n fun z=>h (by rw[z];exact r2)
theorem MI.low(I:MI w m v S)(c:p<m)(f:S.s p∉S.gd)(h:Rais w S p (À q))(g:Qh S w q m (À r))(n:¬S.t p w*S.t r q<=S.t r w*S.t p q):(Qj S r q).t p w<0:=by
 obtain ⟨i,t,s,o⟩:=h.2 q rfl;obtain ⟨r1,r2,d,l⟩:=g.2 r rfl;have a:=ld I.shp r1 i I.lin.pos (show S.t r q ≠ 0 by lia);have ne:p ≠ r:=fun z=>f (by rw [z];exact r2)
 have b:=I.lin.ex' (e:=sgn (S.t r q)) c r1 (show q < w + 1 by lia) (show w < w + 1 by lia) (show q ≠ w by lia);rw [<- a.tj p c ne w oM oM] at b;have k:sgn (S.t r q)=-1:=by unfold sgn;rw [yJ d]
 rw[k]at b;have j:S.t p w*(-1*S.t r q)-S.t p q*(-1*S.t r w)=S.t r w*S.t p q-S.t p w*S.t r q:=by grind
 rw[j]at b;rcases yW ((Qj S r q).t p w) 0 with z|z
 ·exact z
 ·have:=è (ý I.lin.pos) z;lia
theorem MI.up(I:MI w m v S)(e:p<m)(C:S.s p∉S.gd)(B:S.s p∉S.nl)(low:S.t p w<0)(A:Rais w S p (À q))(h:Qh S w q m Á\/∃r,Qh S w q m (À r)/\S.t p w*S.t r q<=S.t r w*S.t p q) :
  MI w m v { Qj S p q with gd:=S.gd++[S.s p] }/\MI w m v { Qj S p q with nl:=S.nl++[S.s p] }/\Kept m p S (Qj S p q):=by
 obtain ⟨f,s,l,D⟩:=A.2 q rfl;have d:=ld I.shp e f I.lin.pos (show S.t p q ≠ 0 by lia);have sh:=exch_shp (c:=q) I.shp e;have n:∀ i,i < m->S.s i ∈ S.gd->S.t i q < 0->S.t p w * S.t i q <= S.t i w * S.t p q:=fun i j o k=>by
  rcases h with h|⟨r,h,y⟩
  ·exact absurd k (h.1 rfl i j o)
  ·obtain⟨r1,r2,u,t⟩:=h.2 r rfl
   refine FJ (a:=S.t r w) (b:=S.t r q) u k l y ?_;rcases t i j o k with z|z
   ·lia
   ·exact _! z.1
 refine⟨⟨⟨sh.ls,sh.row,sh.hd,sh.sd⟩,I.lin.piv d e f,I.pm.piv d e f,?_⟩,⟨⟨sh.ls,sh.row,sh.hd,sh.sd⟩,I.lin.piv d e f,I.pm.piv d e f,?_⟩,⟨rfl,rfl,rfl,fun i j ne _=>d.si i j ne⟩⟩
 ·exact Fea.lift (G':=(·∈S.gd++[S.s p])) I.lin I.pm I.fea d e f s l low n (fun x g=>by simp[g]) (fun x g=>.rfl) (.inl (by simp))
 ·exact Fea.lift (N':=(·∈S.nl++[S.s p])) I.lin I.pm I.fea d e f s l low n (fun x g=>.rfl) (fun x g=>by simp[g]) (.inr (by simp))
theorem MI.move(I:MI w m v S)(b:p<m)(d:q<w)(f:S.h q∉S.nl)(h:S.t p w=0)(hz:S.t p q≠0):MI w m v { Qj S p q with nl:=S.nl++[S.s p] }/\Kept m p S (Qj S p q):=by
 have a:=ld I.shp b d I.lin.pos hz;have sh:=exch_shp (c:=q) I.shp b;refine⟨⟨⟨sh.ls,sh.row,sh.hd,sh.sd⟩,I.lin.piv a b d,I.pm.piv a b d,?_⟩,⟨rfl,rfl,rfl,fun i g ne _=>a.si i g ne⟩⟩;exact Fea.move (N':=(·∈S.nl++[S.s p])) I.lin I.pm I.fea a b d f h (fun x e=>.rfl) (fun x e=>by simp[e]) (.inr (by simp))
theorem MI.guard(I:MI w m v S)(a:p<m)(b:0<=S.t p w):MI w m v { S with gd:=S.gd++[S.s p] }:=by
 refine⟨⟨I.shp.ls,I.shp.row,I.shp.hd,I.shp.sd⟩,I.lin,I.pm,?_⟩;have e:(fun x=>x∈S.gd++[S.s p])=fun x=>x∈S.gd\/x=S.s p:=by funext x;simp
 show Fea w m (fun x=>x∈S.gd++[S.s p]) _ _ _ _;rw[e];exact Fea.guard I.fea I.pm a b
theorem MI.nail(I:MI w m v S)(a:p<m)(b:S.t p w=0)(hz:∀j,j<w->S.h j∉S.nl->S.t p j=0):MI w m v { S with nl:=S.nl++[S.s p] }:=by
 refine⟨⟨I.shp.ls,I.shp.row,I.shp.hd,I.shp.sd⟩,I.lin,I.pm,?_⟩;have e:(fun x=>x∈S.nl++[S.s p])=fun x=>x∈S.nl\/x=S.s p:=by funext x;simp
 show Fea w m _ (fun x=>x∈S.nl++[S.s p]) _ _ _;rw[e];exact Fea.nail I.fea I.pm a b hz
theorem MI.turn(I:MI w m v S)(a:p<m)(g:S.s p∉S.gd)(f:S.s p∉S.nl)(c:S.s p∉S.tn):MI w m v (trn S p):=by
 obtain⟨d,b⟩:=trn_t I.shp a;refine⟨trn_shp I.shp a,?_,I.pm,Fea.turn I.fea I.pm a g f b⟩;have e:vt v (trn S p).tn=tv (vt v S.tn) (S.s p):=by
  have:(trn S p).tn=S.tn++[S.s p]:=by show(if _ then _ else _)=_;rw[yI c]
  rw[this];funext q x;unfold vt tv;by_cases h:q=S.s p
  ·subst h;simp[c]
  ·simp[h]
 rw[e];exact Lin.turn I.lin I.pm a d b
theorem no_chain(k:p<m)(f:Nat->Sh)(h:∀n,MI w m v (f n)/\(∃r q e,Bl w m p (·∈(f n).gd) (·∈(f n).nl) r q e (toSt (f n)) (toSt (f (n+1))))/\Kept m p (f n) (f (n+1)))(i:(f 0).s p∉(f 0).gd):False:=by
 have a:∀n,Kept m p (f 0) (f n):=fun n=>by
  induction n with
  |zero=>exact Kept.refl
  |succ n j=>exact j.trans (h n).2.2
 have g:∀n,∃r q e,Bl w m p (·∈(f 0).gd) (·∈(f 0).nl) r q e (toSt (f n)) (toSt (f (n+1))):=fun n=>by
  have:=(h n).2.1;rw[(a n).gd,(a n).nl]at this;exact this
 let r:=fun n=>Đ (g n)
 have b:=fun n=>Ĝ (g n)
 let q:=fun n=>Đ (b n)
 have d:=fun n=>Ĝ (b n)
 let e:=fun n=>Đ (d n)
 have l:=fun n=>Ĝ (d n)
 refine Run.ends (w:=w) (m:=m) (p:=p) (v:=vt v (f 0).tn) (G:=(·∈(f 0).gd)) (N:=(·∈(f 0).nl)) (S:=fun n=>toSt (f n)) (r:=r) (c:=q) (e:=e) ⟨fun n=>?_,fun n=>(h n).1.pm,fun n=>?_,fun n=>?_,k,i⟩
 ·have:=(h n).1.lin;rw[(a n).tn]at this;exact this
 ·have:=(h n).1.fea;rw[(a n).gd,(a n).nl]at this;exact this
 ·exact l n
theorem MI.bound(I:MI w m v S){M B:Nat}(f:1<=M)(b:∀q x,x<w+1->(v q x).natAbs<=M)(c:fct (w+1)*M^(w+1)<B):S.d.natAbs<B/\∀i,i<m->∀j,j<w+1->(S.t i j).natAbs<B:=by
 have:=I.lin.bound f (M:=M) fun q x a=>by
  unfold vt;split
  ·rw[ä];exact b q x a
  ·exact b q x a
 exact⟨yN this.1 c,fun i e j d=>yN (this.2 i e j d) c⟩
end
theorem ww:∀n:Nat,bQ n (fun i j=>if j=i then 1 else 0)=1
 |0=>rfl
 |n+1=>by
  show Qf (n+1) _=1;rw[sum_one (k:=0) oM fun k hk ne=>by
   show sg k*(if 0=k then 1 else 0)*_=0;rw[yI fun z=>ne z.symm,yQ,yR]]
  have:bQ n (ik (fun i j=>if j=i then(1:Int) else 0) 0)=1:=by
   rw[d7 (B:=fun i j=>if j=i then(1:Int) else 0) fun i j _ _=>?_]
   ·exact ww n
   ·unfold ik skip;simp
  rw[this];rfl
def v0(w:Nat)(L:List (List Int)):Nat->Nat->Int:=fun q x=>if q<w then(if x=q then 1 else 0) else gI (L.getD (q-w) []) x
noncomputable def openS(w:Nat)(L:List (List Int))(k:Nat):Sh:=⟨1,L,È w,(È L.length).map (w+·),È k,[],[]⟩
theorem open_MI{w nr:Nat}(r:∀l∈L,l.length=w+1)(hz:∀i,i<nr->gI (L.getD i []) w=0):MI w L.length (v0 w L) (openS w L (w+nr)):=by
 have d:∀j,j<w->(openS w L (w+nr)).h j=j:=fun j a=>by show(È w).getD j 0=j;simp[zD,a]
 have c:∀i,i<L.length->(openS w L (w+nr)).s i=w+i:=fun i b=>by show((È L.length).map (w+·)).getD i 0=w+i;simp[zD,b]
 have o:vt (v0 w L) (openS w L (w+nr)).tn=v0 w L:=by funext q x;unfold vt;exact yI (by show q∉[];simp)
 have m:∀k,k<w+1->∀x,x<w+1->aT w (v0 w L) (openS w L (w+nr)).h k x=if x=k then 1 else 0:=fun k f x g=>by
  unfold aT;by_cases e:k=w
  ·rw[yJ e,e];rfl
  ·rw[yI e,d k oM];unfold v0;rw[yJ oM]
 refine⟨⟨rfl,r,by simp[openS],by simp[openS]⟩,?_,?_,?_⟩
 ·rw[o]
  refine⟨Int.one_pos,fun i b x g=>?_,1,rfl,?_⟩
  ·rw[c i b,sum_one (k:=x) g fun k f ne=>by rw[m k f x g,yI fun z=>ne z.symm,yQ],m x g x g,yJ rfl]
   unfold v0;rw[yI oM,show w+i-w=i by lia];show 1*gI (L.getD i []) x=gI (L.getD i []) x*1;lia
  ·rw[d7 (B:=fun i j=>if j=i then 1 else 0) fun i j b a=>m i b j a,ww];rfl
 ·refine⟨fun j a=>by rw[d j a];lia,fun i b=>by rw[c i b];lia,fun j k a f e=>by rw[d j a,d k f]at e;exact e,fun j k a f e=>by rw[c j a,c k f]at e;lia,fun j i a b e=>by rw[d j a,c i b]at e;lia,fun q s=>?_⟩
  by_cases h:q<w
  ·exact .inr ⟨q,h,d q h⟩
  ·exact .inl ⟨q-w,by lia,by rw[c _ oM];lia⟩
 ·refine⟨fun i b n=>?_,fun i b p=>?_,fun j a=>.inl ?_⟩
  ·rw[c i b]at n
   have:w+i<w+nr:=Ò.mp n;show 0<=gI (L.getD i []) w;rw[hz i oM];decide
  ·exact absurd (show _ ∈ ([]:List Nat) from p) (by simp)
  ·rw[d j a];exact Ò.mpr oM
theorem open_s{w k i:Nat}(a:i<L.length):(openS w L k).s i=w+i:=by show((È L.length).map (w+·)).getD i 0=w+i;simp[zD,a]
def Qt(w:Nat)(v:Nat->Nat->Int)(Y:Nat->Int)(e:Int)(q:Nat):Int:=(Qf w fun x=>v q x*Y x)+v q w*e
section
variable{w m p:Nat}{v:Nat->Nat->Int}{S:Sh}
theorem p4{Y:Nat->Int}{e:Int}{q:Nat}:Qt w (vt v S.tn) Y e q=if q∈S.tn then-Qt w v Y e q else Qt w v Y e q:=by
 unfold Qt vt;by_cases h:q∈S.tn
 ·simp only[yJ h]
  rw[sum_congr (g:=fun x=>(-1)*(v q x*Y x)) fun x _=>by grind,sum_mul];grind
 ·simp only[yI h]
theorem MI.line(I:MI w m v S)(d:p<m)(Y:Nat->Int)(e:Int):S.d*Qt w (vt v S.tn) Y e (S.s p)=(Qf w fun j=>S.t p j*Qt w (vt v S.tn) Y e (S.h j))+S.t p w*e:=by
 have h:=I.lin.lin p d;have c:∀x,x<w+1->S.d*vt v S.tn (S.s p) x=(Qf w fun k=>S.t p k*vt v S.tn (S.h k) x)+S.t p w*(if x=w then 1 else 0):=fun x b=>by
  rw[h x b];show Qf w _+S.t p w*aT w (vt v S.tn) S.h w x=_;have a:aT w (vt v S.tn) S.h w x=if x=w then 1 else 0:=by unfold aT;rw[yJ rfl];rfl
  rw[a];congr 1;exact sum_congr fun k l=>by unfold aT;rw[yI oM]
 unfold Qt;rw[Q9,<- sum_mul];have a:(Qf w fun x=>S.d*(vt v S.tn (S.s p) x*Y x))=Qf w fun j=>S.t p j*Qf w fun x=>vt v S.tn (S.h j) x*Y x:=by
  rw[sum_congr (g:=fun x=>Qf w fun k=>S.t p k*(vt v S.tn (S.h k) x*Y x)) fun x b=>by
   rw[<- A?,c x oM,yI oM,yQ,ģ,ϵ,<- sum_mul];exact sum_congr fun k _=>by grind,Bv]
  exact sum_congr fun j _=>by rw[sum_mul]
 have i:S.d*(vt v S.tn (S.s p) w*e)=(Qf w fun j=>S.t p j*(vt v S.tn (S.h j) w*e))+S.t p w*e:=by
  rw[<- A?,c w oM,yJ rfl,h!,Int.add_mul];congr 1;rw[ϵ,<- sum_mul];exact sum_congr fun k _=>by grind
 rw[a,i,sum_congr (f:=fun j=>S.t p j*((Qf w fun x=>vt v S.tn (S.h j) x*Y x)+vt v S.tn (S.h j) w*e)) (g:=fun j=>S.t p j*(Qf w fun x=>vt v S.tn (S.h j) x*Y x)+S.t p j*(vt v S.tn (S.h j) w*e)) fun j _=>by rw[Q9],sum_add];lia
theorem wS{n:Nat}{f:Nat->Int}(h:∀i,i<n->f i<=0):Qf n f<=0:=by
 induction n with
 |zero=>exact h? 0
 |succ n a=>have:=a fun i b=>h i oM;have:=h n oM;simp only[Qf];lia
theorem MI.dual(I:MI w m v S)(d:p<m)(g:∀j,j<w->S.h j∉S.nl->¬0<S.t p j)(tn:∀q∈S.tn,q∈S.nl\/q=S.s p){Y:Nat->Int}{e:Int}(k:∀j,j<w->S.h j∉S.nl->0<=Qt w v Y e (S.h j))(i:∀j,j<w->S.h j∈S.nl->Qt w v Y e (S.h j)=0) :
  S.d*(if S.s p∈S.tn then-Qt w v Y e (S.s p) else Qt w v Y e (S.s p))<=S.t p w*e:=by
 rw[<- p4,I.line d Y e];have:(Qf w fun j=>S.t p j*Qt w (vt v S.tn) Y e (S.h j))<=0:=wS fun j c=>by
  by_cases h:S.h j∈S.nl
  ·rw[p4,i j c h];split<;>lia
  ·have f:S.h j∉S.tn:=fun z=>by
    rcases tn _ z with y|y
    ·exact h y
    ·exact I.pm.hs j p c d y
   rw[p4,yI f];have a:=g j c h;have b:=k j c h;exact ĉ oM b
 lia
theorem MI.vert(I:MI w m v S)(l:∀q,q<w->∀x,x<w+1->v q x=if x=q then 1 else 0)(g:∀q∈S.tn,w<=q){c:Nat}(p:c<w+1){X:Nat->Int}(s:∀i,i<m->S.s i<w->X (S.s i)=S.t i c)(r:∀j,j<w->S.h j<w->X (S.h j)=if j=c then S.d else 0) :
  (∀i,i<m->Qt w v X (if c=w then S.d else 0) (S.s i)=if S.s i∈S.tn then-S.t i c else S.t i c)/\∀j,j<w->Qt w v X (if c=w then S.d else 0) (S.h j)=if j=c then(if S.h j∈S.tn then-S.d else S.d) else 0:=by
 have d:∀q,q<w->∀x,x<w+1->vt v S.tn q x=if x=q then 1 else 0:=fun q f x k=>by
  unfold vt;rw[yI fun z=>by have:=g q z;lia];exact l q f x k
 obtain⟨a,b⟩:=I.lin.func d p s r fun q f=>I.pm.cov q oM
 refine⟨fun i o=>?_,fun j n=>?_⟩
 ·have e:Qt w (vt v S.tn) X (if c=w then S.d else 0) (S.s i)=S.t i c:=a i o
  rw[p4]at e;split at e
  ·rename_i h;rw[yJ h];lia
  ·rename_i h;rw[yI h];exact e
 ·have e:Qt w (vt v S.tn) X (if c=w then S.d else 0) (S.h j)=if j=c then S.d else 0:=b j n
  rw[p4]at e;by_cases h:j=c
  ·rw[yJ h]at e ⊢
   split at e
   ·rename_i h;rw[yJ h];lia
   ·rename_i h;rw[yI h];exact e
  ·rw[yI h]at e ⊢
   split at e
   ·lia
   ·exact e
end
end SX
namespace R
open PySem PySem.Spec L2
open DD (pyOk)
section
variable{ks:List Fn}{sl:Sl}{st:aa}
@[simp] theorem P8:ev ks .n sl st=À (.non,st):=rfl
@[simp] theorem Oo{x:Bool}:ev ks (.b x) sl st=À (.bl x,st):=rfl
@[simp] theorem aQ{x:Int}:ev ks (.i x) sl st=À (.int x,st):=rfl
@[simp] theorem lN{x:Í}:ev ks (.s x) sl st=À (.str x,st):=rfl
@[simp] theorem P9{x:Í}{c:AV}:ev ks (.g x c) sl st=À (c,st):=rfl
@[simp] theorem aI{k:Nat}:ev ks (.v k) sl st=aV k sl st:=rfl
@[simp] theorem ar{v:AV}:aV 0 (À v::sl) st=À (v,st):=rfl
@[simp] theorem aw{k:Nat}{x:Option AV}:aV (k+1) (x::sl) st=aV k sl st:=rfl
@[simp] theorem aG{o:Ġ}{a b:Ex}:ev ks (.bin o a b) sl st=(ev ks a sl st).bind fun p=>(ev ks b sl p.2).bind fun q=>(aP o q.2 p.1 q.1).map fun z=>(z,q.2):=rfl
@[simp] theorem wH{o:ϧ}{a b:Ex}:ev ks (.cmp o a b) sl st=(ev ks a sl st).bind fun p=>(ev ks b sl p.2).bind fun q=>(oG o q.2 p.1 q.1).map fun z=>(z,q.2):=rfl
@[simp] theorem Pz{o:UnaryOp}{a:Ex}:ev ks (.un o a) sl st=(ev ks a sl st).bind fun p=>(lO o p.2 p.1).map fun z=>(z,p.2):=rfl
def OP(x:AV)(st:aa):Option (AV×aa):=match x with
 |.bl b=>À (.bl !b,st)
 |_=>Á
def JW(x:AV)(st:aa)(r:Option (AV×aa)):Option (AV×aa):=match x with
 |.bl b=>if b=Ã then r else À (.bl Ä,st)
 |_=>Á
def Ib(x:AV)(st:aa)(r:Option (AV×aa)):Option (AV×aa):=match x with
 |.bl b=>if b=Ã then À (.bl Ã,st) else r
 |_=>Á
@[simp] theorem Pn{b:Bool}:OP (.bl b) st=À (.bl !b,st):=rfl
@[simp] theorem Px{b:Bool}{r:Option (AV×aa)}:JW (.bl b) st r=if b=Ã then r else À (.bl Ä,st):=rfl
@[simp] theorem Pl{b:Bool}{r:Option (AV×aa)}:Ib (.bl b) st r=if b=Ã then À (.bl Ã,st) else r:=rfl
@[simp] theorem PJ{a b:Ex}:ev ks (.an a b) sl st=(ev ks a sl st).bind fun p=>JW p.1 p.2 (ev ks b sl p.2):=by
 show DV (ev ks a) (ev ks b) sl st=_;unfold DV JW;congr 1;funext p;cases p.1<;>first|rfl|skip
 rename_i x;cases x<;>rfl
@[simp] theorem PB{a b:Ex}:ev ks (.or a b) sl st=(ev ks a sl st).bind fun p=>Ib p.1 p.2 (ev ks b sl p.2):=by
 show DR (ev ks a) (ev ks b) sl st=_;unfold DR Ib;congr 1;funext p;cases p.1<;>first|rfl|skip
 rename_i x;cases x<;>rfl
@[simp] theorem C7{t:Tx}{a b:Ex}:ev ks (.ife t a b) sl st=(tv ks t sl st).bind fun p=>if p.1=Ã then ev ks a sl p.2 else ev ks b sl p.2:=rfl
@[simp] theorem dj{a b:Ex}:ev ks (.ix a b) sl st=(ev ks a sl st).bind fun p=>(ev ks b sl p.2).bind fun q=>(aZ q.2 p.1 q.1).map fun z=>(z,q.2):=rfl
@[simp] theorem cm{p:Bool}{j:Nat}{es:Exs}:ev ks (.ca p j es) sl st=(fK ks es sl st).bind fun q=>zh p (kf ks j) q.1 q.2:=rfl
@[simp] theorem bG{f:Fn}:zh Ã f=pm f:=rfl
@[simp] theorem sE{f:Fn}:zh Ä f=f:=rfl
@[simp] theorem cp{f:Fn}:kf (f::ks) 0=f:=rfl
@[simp] theorem cU{f:Fn}{j:Nat}:kf (f::ks) (j+1)=kf ks j:=rfl
@[simp] theorem aD:fK ks .nil sl st=À ([],st):=rfl
@[simp] theorem aq{e:Ex}{es:Exs}:fK ks (.cons e es) sl st=(ev ks e sl st).bind fun p=>(fK ks es sl p.2).bind fun q=>À (p.1::q.1,q.2):=rfl
@[simp] theorem wG{es:Exs}:ev ks (.tu es) sl st=(fK ks es sl st).bind fun p=>if Þ p.1.length 1000=Ã then À (.tup p.1,p.2) else Á:=rfl
@[simp] theorem dO{x:Nx}:ev ks (.nw Ä x) sl st=(i9 ks x sl st).bind fun p=>if rfs p.1=Ã then À (.fz p.1,p.2) else Á:=rfl
@[simp] theorem Bk{x:Nx}:ev ks (.nw Ã x) sl st=(i9 ks x sl st).bind fun p=>À (.ref p.2.length,p.2++[.lst p.1]):=rfl
@[simp] theorem PD{c m:Í}{j:Nat}{o:Ex}{es:Exs}:ev ks (.me c m j o es) sl st=(ev ks o sl st).bind fun p=>(j7 p.2 c p.1).bind fun fs=>if(fs.lookup m).isNone=Ã then(fK ks es sl p.2).bind fun q=>kf ks j (p.1::q.1) q.2 else Á:=rfl
@[simp] theorem PC{c:Í}{j:Nat}{es:Exs}:ev ks (.ne c j es) sl st=AX c (kf ks j) (fK ks es) sl st:=rfl
@[simp] theorem PF{c f:Í}{o:Ex}:ev ks (.fd c f o) sl st=(ev ks o sl st).bind fun p=>(j7 p.2 c p.1).bind fun fs=>(fs.lookup f).map fun v=>(v,p.2):=rfl
@[simp] theorem kT{b:Bi}{es:Exs}:ev ks (.bi b es) sl st=(fK ks es sl st).bind fun p=>rV b p.1 p.2:=rfl
@[simp] theorem mF:rV .len=cF eO:=rfl
@[simp] theorem vf:rV .sum=cF ow:=rfl
@[simp] theorem O0:rV .abs=cF lB:=rfl
@[simp] theorem AS:rV .min=cF tS:=rfl
@[simp] theorem JR:rV .max=cF qx:=rfl
@[simp] theorem M8{m:Mi}{o:Ex}{es:Exs}:ev ks (.mt m o es) sl st=mJ (tU m) (tT m) (ev ks o) (fK ks es) sl st:=rfl
@[simp] theorem PH:ev ks .dn sl st=À (.ref st.length,st++[.dK []]):=rfl
@[simp] theorem Pg{a:Ex}:ev ks (.mnd a) sl st=(ev ks a sl st).bind fun p=>cF ph [p.1] p.2:=by
 show(eM (ev ks a) fB sl st).bind _=_;unfold eM fB;cases ev ks a sl st<;>rfl
@[simp] theorem Pf{a k:Ex}:ev ks (.mnk a k) sl st=sN (ev ks a) (ev ks k) sl st:=rfl
@[simp] theorem NW{a b c:Ex}:d6 ks (.r3 a b c) sl st=Dx (ev ks a) (ev ks b) (ev ks c) sl st:=rfl
@[simp] theorem PU{es:Exs}:i9 ks (.li es) sl st=(fK ks es sl st).bind fun p=>if fE p.1.length=Ã then À p else Á:=rfl
@[simp] theorem sF{a b:Ex}:i9 ks (.cat a b) sl st=qw (ev ks a) (ev ks b) sl st:=rfl
@[simp] theorem La{es:Exs}{b:Ex}:i9 ks (.rep es b) sl st=xf (fK ks es) (ev ks b) sl st:=rfl
@[simp] theorem xc{a:Ex}{l h:Ox}:i9 ks (.sl a l h) sl st=nE (ev ks a) (pQ ks l) (pQ ks h) sl st:=rfl
@[simp] theorem Ps{a:Ex}:i9 ks (.lof a) sl st=qv (ev ks a) sl st:=rfl
@[simp] theorem Pq{a:Ex}:i9 ks (.lr1 a) sl st=xh (ev ks a) sl st:=rfl
@[simp] theorem Po{a b:Ex}:i9 ks (.lr2 a b) sl st=xg (ev ks a) (ev ks b) sl st:=rfl
@[simp] theorem NK{k:Nat}{it:Ix}{t:Tg}{c:Cx'}{e:Ex}:i9 ks (.lc k it t c e) sl st=(d6 ks it sl st).bind fun p=>if fE p.1.Qe.length=Ã then iX p.1.gd (cP ks t) (kK ks c) (ev ks e) (sl++É k Á) p.1.Qe p.2 else Á:=rfl
@[simp] theorem NI:pQ ks .no sl st=À (Á,st):=rfl
@[simp] theorem Ce{e:Ex}:pQ ks (.so e) sl st=o6 (ev ks e) sl st:=rfl
@[simp] theorem P0:kK ks .no sl st=À (Ã,st):=rfl
@[simp] theorem JK{t:Tx}:kK ks (.so t) sl st=tv ks t sl st:=rfl
@[simp] theorem Dw{a:Ex}:d6 ks (.e a) sl st=(ev ks a sl st).bind fun p=>(px p.2 p.1).map fun iv=>(iv,p.2):=rfl
@[simp] theorem PX{a:Ex}:d6 ks (.r1 a) sl st=Dy (ev ks a) sl st:=rfl
@[simp] theorem Jf{a b:Ex}:d6 ks (.r2 a b) sl st=wf (ev ks a) (ev ks b) sl st:=rfl
@[simp] theorem PV{a b:Ex}:d6 ks (.zi a b) sl st=iZ (ev ks a) (ev ks b) sl st:=rfl
@[simp] theorem Jg{a:Ex}:d6 ks (.en a) sl st=(ev ks a sl st).bind fun p=>(jt p.2 p.1).map fun iv=>(⟨fL 0 iv.Qe,iv.gd⟩,p.2):=rfl
@[simp] theorem PY{a b:Ex}:d6 ks (.es a b) sl st=xz (ev ks a) (ev ks b) sl st:=rfl
@[simp] theorem k9{k:Nat}{x:AV}:cP ks (.nm k) x sl st=À (sl.set k (À x),st):=rfl
@[simp] theorem PZ{n:Nat}{a:Tgs}{x:AV}:cP ks (.tu n a) x sl st=Ay n (j9 ks a) x sl st:=rfl
@[simp] theorem NY{a b:Ex}{x:AV}:cP ks (.su a b) x sl st=(ev ks a sl st).bind fun p=>(ev ks b sl p.2).bind fun q=>(j6 q.2 p.1 q.1 x).map fun st'=>(sl,st'):=rfl
@[simp] theorem OT{xs:List AV}:j9 ks .nil xs sl st=Jm xs sl st:=rfl
@[simp] theorem Om{t:Tg}{a:Tgs}{xs:List AV}:j9 ks (.cons t a) xs sl st=Jp (cP ks t) (j9 ks a) xs sl st:=rfl
@[simp] theorem Nf{e:Ex}:tv ks (.va e) sl st=(ev ks e sl st).bind fun p=>(gg p.2 p.1).map fun b=>(b,p.2):=rfl
@[simp] theorem cA{o:ϧ}{a b:Ex}:tv ks (.cmp o a b) sl st=(ev ks a sl st).bind fun p=>(ev ks b sl p.2).bind fun q=>(cJ o q.2 p.1 q.1).map fun b=>(b,q.2):=rfl
@[simp] theorem Nh{t:Tx}:tv ks (.no t) sl st=(tv ks t sl st).bind fun p=>À (!p.1,p.2):=rfl
@[simp] theorem tf{t u:Tx}:tv ks (.an t u) sl st=(tv ks t sl st).bind fun p=>if p.1=Ã then tv ks u sl p.2 else À (Ä,p.2):=rfl
@[simp] theorem Ng{t u:Tx}:tv ks (.or t u) sl st=(tv ks t sl st).bind fun p=>if p.1=Ã then À (Ã,p.2) else tv ks u sl p.2:=rfl
@[simp] theorem Kc:ae ks .nil sl st=À (.nx sl st):=rfl
def lU(o:Out)(k:Sl->aa->Option Out):Option Out:=match o with
 |.nx sl st=>k sl st
 |o=>À o
@[simp] theorem tL{k:Sl->aa->Option Out}:lU (.nx sl st) k=k sl st:=rfl
@[simp] theorem zx{v:AV}{k:Sl->aa->Option Out}:lU (.rt v st) k=À (.rt v st):=rfl
@[simp] theorem OO{k:Sl->aa->Option Out}:lU (.bk sl st) k=À (.bk sl st):=rfl
@[simp] theorem ON{k:Sl->aa->Option Out}:lU (.ct sl st) k=À (.ct sl st):=rfl
@[simp] theorem jl{s:Sx}{a:Qm}:ae ks (.cons s a) sl st=(cT ks s sl st).bind fun o=>lU o (ae ks a):=by
 show(cT ks s sl st).bind _=(cT ks s sl st).bind _;congr 1
@[simp] theorem GY{e:Ex}:cT ks (.ex e) sl st=(ev ks e sl st).bind fun p=>À (.nx sl p.2):=rfl
@[simp] theorem bH{e:Ex}{t:Tg}:cT ks (.as e t) sl st=(ev ks e sl st).bind fun p=>(cP ks t p.1 sl p.2).bind fun q=>À (.nx q.1 q.2):=rfl
@[simp] theorem Ko{o:Ġ}{a b e:Ex}:cT ks (.aus o a b e) sl st=wV o (ev ks a) (ev ks b) (ev ks e) sl st:=rfl
@[simp] theorem PK{c f:Í}{o e:Ex}:cT ks (.fl c f o e) sl st=yp c f (ev ks o) (ev ks e) sl st:=rfl
@[simp] theorem gh{e:Ex}:cT ks (.rt e) sl st=(ev ks e sl st).bind fun p=>À (.rt p.1 p.2):=rfl
@[simp] theorem cG{t:Tx}{a b:Qm}:cT ks (.iff t a b) sl st=(tv ks t sl st).bind fun p=>if p.1=Ã then ae ks a sl p.2 else ae ks b sl p.2:=rfl
@[simp] theorem lQ{it:Ix}{t:Tg}{b:Qm}:cT ks (.fo it t b) sl st=(d6 ks it sl st).bind fun p=>eF p.1.gd (cP ks t) (ae ks b) p.1.Qe sl p.2:=rfl
@[simp] theorem Pi{a:Ex}{t:Tg}{b:Qm}:cT ks (.fd a t b) sl st=wU (ev ks a) (cP ks t) (ae ks b) sl st:=rfl
@[simp] theorem Ny{t:Tx}{b:Qm}:cT ks (.wh t b) sl st=nA (tv ks t) (ae ks b) sl st:=rfl
@[simp] theorem OI:cT ks .dead sl st=Á:=rfl
def au(o:Out):Option (AV×aa):=match o with
 |.rt v st=>À (v,st)
 |.nx _ st=>À (.non,st)
 |_=>Á
@[simp] theorem OV{v:AV}:au (.rt v st)=À (v,st):=rfl
@[simp] theorem OW:au (.nx sl st)=À (.non,st):=rfl
theorem ay{n:Nat}{b:Qm}{args:List AV}:R.run n (ae ks b) args st=(ae ks b (args.map À++É (n-args.length) Á) st).bind au:=by
 unfold R.run;congr 1
end
@[simp] theorem Pj:rfs []=Ã:=rfl
@[simp] theorem Pk{x:AV}{xs:List AV}:rfs (x::xs)=(rf x&&rfs xs):=by simp only[rfs]
@[simp] theorem PP{i:Int}:rf (.int i)=Ã:=rfl
@[simp] theorem PR{i:Bool}:rf (.bl i)=Ã:=rfl
@[simp] theorem PM{i:Í}:rf (.str i)=Ã:=rfl
@[simp] theorem PN:rf .non=Ã:=rfl
@[simp] theorem PQ{xs:List AV}:rf (.fz xs)=Ã:=rfl
@[simp] theorem PL{xs:List AV}:rf (.tup xs)=rfs xs:=by simp only[rf]
section
variable{st:aa}{a b:Int}
theorem DH:rC st (.int a) (.int b)=À (decide (a=b)):=by
 show(if pyOk (.int a) (.int b)=Ã then À (å (.int a) (.int b)) else Á)=_;rw[yJ (by simp[pyOk,e!,v?])];congr 1
@[simp] theorem lm:cJ .Eq st (.int a) (.int b)=À (decide (a=b)):=DH
@[simp] theorem u9:cJ .NotEq st (.int a) (.int b)=À (!decide (a=b)):=by show((rC st (.int a) (.int b)).map fun x=>!x)=_;rw[DH];rfl
@[simp] theorem P7:cJ .Lt st (.int a) (.int b)=À (decide (a<b)):=rfl
@[simp] theorem Oa:cJ .LtE st (.int a) (.int b)=À (decide (a<=b)):=rfl
@[simp] theorem vc:cJ .Gt st (.int a) (.int b)=À (decide (b<a)):=rfl
@[simp] theorem Ob:cJ .GtE st (.int a) (.int b)=À (decide (b<=a)):=rfl
@[simp] theorem JJ{o:ϧ}{x y:AV}:oG o st x y=(cJ o st x y).map .bl:=rfl
@[simp] theorem Pv:cJ .Is st .non .non=À Ã:=rfl
@[simp] theorem Pw:cJ .Is st (.int a) .non=À Ä:=rfl
@[simp] theorem OY:cJ .IsNot st .non .non=À Ä:=rfl
@[simp] theorem OZ:cJ .IsNot st (.int a) .non=À Ã:=rfl
@[simp] theorem dw:aP .Add st (.int a) (.int b)=À (.int (a+b)):=rfl
@[simp] theorem nj:aP .Sub st (.int a) (.int b)=À (.int (a-b)):=rfl
theorem bW(h:c7 a b=Ã):aP .Mult st (.int a) (.int b)=À (.int (a*b)):=by
 show(if c7 a b=Ã then _ else _:Option Int).map _=_;rw[yJ h];rfl
theorem ly(h:hU b=Ã):aP .FloorDiv st (.int a) (.int b)=À (.int (uB a b)):=by
 show(if hU b=Ã then _ else _:Option Int).map _=_;rw[yJ h];rfl
theorem iJ(h:b≠0):aP .Mod st (.int a) (.int b)=À (.int (rn a b)):=by
 show(if b=0 then _ else _:Option Int).map _=_;rw[yI h];rfl
@[simp] theorem Ph:lO .USub st (.int a)=À (.int (-a)):=rfl
theorem c6{x y:Int}(d:x.natAbs<2^9000)(c:y.natAbs<2^9000):c7 x y=Ã:=by
 have a:∀z:Nat,z<2^9000->Þ z.log2 1000000=Ã:=fun z hz=>by
  by_cases b:z=0
  ·subst b;rfl
  ·exact yM (z5 (y0 ((Ĉ b).mpr hz)) oM)
 unfold c7;rw[a _ d,a _ c,y!,Y8]
theorem pV{y:Int}(b:y≠0)(a:y.natAbs<2^9000):hU y=Ã:=by
 unfold hU;have:Þ y.natAbs.log2 8999=Ã:=yM (by have:=(Ĉ (n:=y.natAbs) oM).mpr a;lia);rw[this];simp[b]
end
open SX (Sh gI)
noncomputable def iL(l:List Int):List AV:=l.map .int
abbrev Is(x:Int):Option AV:=À (.int x)
abbrev Rs(x:Nat):Option AV:=À (.ref x)
abbrev Zs(x:List AV):Option AV:=À (.fz x)
abbrev Ls(x:List Int):Option AV:=À (.fz (iL x))
noncomputable def nL(l:List Nat):List AV:=l.map fun q=>.int ((q:Nat):Int)
def kL(l:List Nat):List (bv×AV):=l.map fun q=>(.inl ((q:Nat):Int),.bl Ã)
def dI(d:Int)(a b c g n u:Nat):List (Í×AV):=[("below",.int d),("lines",.ref a),("heads",.ref b),("sides",.ref c),("guarded",.ref g),("nailed",.ref n),("turned",.ref u)]
section
variable{d:Int}{a b c g n u:Nat}
@[simp] theorem NR:(dI d a b c g n u).lookup ("below":Í)=À (AV.int d):=rfl
@[simp] theorem NP:(dI d a b c g n u).lookup ("lines":Í)=À (AV.ref a):=rfl
@[simp] theorem NQ:(dI d a b c g n u).lookup ("heads":Í)=À (AV.ref b):=rfl
@[simp] theorem NO:(dI d a b c g n u).lookup ("sides":Í)=À (AV.ref c):=rfl
@[simp] theorem Li:(dI d a b c g n u).lookup ("guarded":Í)=À (AV.ref g):=rfl
@[simp] theorem MA:(dI d a b c g n u).lookup ("nailed":Í)=À (AV.ref n):=rfl
@[simp] theorem Mz:(dI d a b c g n u).lookup ("turned":Í)=À (AV.ref u):=rfl
@[simp] theorem Cr:(dI d a b c g n u).lookup ("loose_columns":Í)=Á:=rfl
@[simp] theorem Ba:(dI d a b c g n u).lookup ("raising_column":Í)=Á:=rfl
@[simp] theorem A9:(dI d a b c g n u).lookup ("tightest_place":Í)=Á:=rfl
@[simp] theorem Gj:(dI d a b c g n u).lookup ("is_tighter":Í)=Á:=rfl
@[simp] theorem FG:(dI d a b c g n u).lookup ("is_up_first":Í)=Á:=rfl
@[simp] theorem Ka:(dI d a b c g n u).lookup ("exchange":Í)=Á:=rfl
@[simp] theorem Ol:(dI d a b c g n u).lookup ("lift":Í)=Á:=rfl
@[simp] theorem Kb:(dI d a b c g n u).lookup ("drive_up":Í)=Á:=rfl
@[simp] theorem Cq:(dI d a b c g n u).lookup ("moving_column":Í)=Á:=rfl
@[simp] theorem NN:(dI d a b c g n u).lookup ("guard":Í)=Á:=rfl
@[simp] theorem Oj:(dI d a b c g n u).lookup ("nail":Í)=Á:=rfl
@[simp] theorem IP:(dI d a b c g n u).lookup ("turn_line":Í)=Á:=rfl
end
def RowR(st:aa)(x:AV)(l:List Int):Prop:=x=.fz (iL l)\/∃r,x=.ref r/\(st[r]?=À (.lst (iL l))\/st[r]?=À (.al (.fz (iL l))))
structure Rep(st:aa)(k a b c g n u:Nat)(rows:List AV)(S:Sh):Prop where
 hk:st[k]?=À (.ins "Sheet" (dI S.d a b c g n u))
 ha:st[a]?=À (.lst rows)
 hb:st[b]?=À (.lst (nL S.hd))
 hc:st[c]?=À (.lst (nL S.sd))
 hg:st[g]?=À (.dK (kL S.gd))
 hn:st[n]?=À (.dK (kL S.nl))
 hu:st[u]?=À (.dK (kL S.tn))
 len:rows.length=S.ls.length
 row:∀i x,rows[i]?=À x->RowR st x (SX.row S i)
 ab:a≠b
 ac:a≠c
 bc:b≠c
 gn:g≠n
 gu:g≠u
 nu:n≠u
 ra:∀(i r:Nat),rows[i]?=À (.ref r)->r≠a/\r≠b/\r≠c
section
variable{st:aa}{x:AV}{xs:List AV}{l:List Int}{i:Int}
theorem RowR.ls(h:RowR st x l):cj st x=À (iL l):=by
 rcases h with rfl|⟨r,rfl,h|h⟩
 ·rfl
 ·unfold cj dr;simp only[h]
 ·unfold cj dr;simp only[h]
theorem dF(h:cj st x=À xs):aZ st x (.int i)=ii xs i:=by
 have hd:oF st x (.int i)=Á:=by
  unfold oF;have b:jW st x=Á:=by
   cases x<;>first|rfl|skip
   rename_i k;unfold cj dr at h;unfold jW;dsimp only at h ⊢;cases e:st[k]? with
   |none=>rfl
   | some c=>cases c <;> first | rfl | (rw [e] at h;simp only [e] at h;cases h)
  have a:nZ st x=Á:=by
   cases x<;>first|rfl|skip
   rename_i k;unfold cj dr at h;unfold nZ;dsimp only at h ⊢;cases e:st[k]? with
   |none=>rfl
   | some c=>cases c <;> first | rfl | (rw [e] at h;simp only [e] at h;cases h)
  rw[b,a]
 unfold aZ;rw[hd];dsimp only;rw[h]
theorem di{α:Type}{xs:List α}{j:Nat}:ii xs ((j:Nat):Int)=xs[j]?:=by
 unfold ii ma;rw[yJ oM];by_cases h:j<xs.length
 ·rw[yJ oM];simp
 ·rw[yI oM,í oM];rfl
theorem qL{α:Type}{xs:List α}{n:Nat}(h:xs.length=n+1):ii xs (-1)=xs[n]?:=by
 unfold ii ma;rw[yI oM,yJ oM,h,Â];congr 1;lia
theorem de{j:Nat}(h:j<l.length):(iL l)[j]?=À (.int (gI l j)):=by
 unfold iL gI;simp[h,zD]
theorem io{l:List Nat}{j:Nat}(h:j<l.length):(nL l)[j]?=À (.int ((l.getD j 0:Nat):Int)):=by
 unfold nL;simp[h,zD]
theorem cC{k:Nat}(h:st[k]?=À (.lst xs)):cj st (.ref k)=À xs:=by unfold cj dr;simp only[h]
theorem wd{g:Nat}{l:List Nat}{q:Nat}(h:st[g]?=À (.dK (kL l))):uo st (.int q) (.ref g)=À (decide (q∈l)):=by
 unfold uo oF jW;simp only[h,k6,Æ];congr 1;unfold ot kL;rw[ł,List.find?_map,ł,W0,List.isSome_find?,Ų];simp[Int.ofNat_inj]
end
noncomputable def lS(rows:List AV)(i:Nat):AV:=rows.getD i .non
section
variable{st:aa}{k a b c g n u w m:Nat}{rows:List AV}{S:Sh}{i j:Nat}
theorem Rep.ins(R:Rep st k a b c g n u rows S):j7 st "Sheet" (.ref k)=À (dI S.d a b c g n u):=by
 unfold j7;simp only[R.hk];rfl
theorem Rep.rx(R:Rep st k a b c g n u rows S)(P:SX.Ql w m S)(d:i<m):rows[i]?=À (lS rows i):=by
 have:i<rows.length:=by rw[R.len,P.ls];exact d
 unfold lS;rw[zD,zF this];rfl
theorem Rep.line(R:Rep st k a b c g n u rows S)(P:SX.Ql w m S)(d:i<m):aZ st (.ref a) (.int (i:Int))=À (lS rows i):=by
 rw[dF (cC R.ha),di];exact R.rx P d
theorem Rep.rowl(R:Rep st k a b c g n u rows S)(P:SX.Ql w m S)(d:i<m):cj st (lS rows i)=À (iL (SX.row S i)):=(R.row i _ (R.rx P d)).ls
theorem Rep.cell(R:Rep st k a b c g n u rows S)(P:SX.Ql w m S)(d:i<m)(e:j<w+1):aZ st (lS rows i) (.int (j:Int))=À (.int (S.t i j)):=by
 rw[dF (R.rowl P d),di,de (by rw[P.rl d];exact e)];rfl
theorem Rep.last(R:Rep st k a b c g n u rows S)(P:SX.Ql w m S)(d:i<m):aZ st (lS rows i) (.int (-1))=À (.int (S.t i w)):=by
 rw[dF (R.rowl P d),qL (n:=w) (by unfold iL;rw[zH];exact P.rl d),de (by rw[P.rl d];lia)];rfl
theorem Rep.side(R:Rep st k a b c g n u rows S)(P:SX.Ql w m S)(d:i<m):aZ st (.ref c) (.int (i:Int))=À (.int (S.s i:Int)):=by
 rw[dF (cC R.hc),di,io (by rw[P.sd];exact d)];rfl
theorem Rep.head(R:Rep st k a b c g n u rows S)(P:SX.Ql w m S)(d:j<w):aZ st (.ref b) (.int (j:Int))=À (.int (S.h j:Int)):=by
 rw[dF (cC R.hb),di,io (by rw[P.hd];exact d)];rfl
theorem Rep.ing(R:Rep st k a b c g n u rows S){q:Nat}:cJ .In st (.int q) (.ref g)=À (decide (q∈S.gd)):=wd R.hg
theorem Rep.nin(R:Rep st k a b c g n u rows S){q:Nat}:cJ .NotIn st (.int q) (.ref n)=À (!decide (q∈S.nl)):=by show(uo st _ _).map _=_;rw[wd R.hn];rfl
end
theorem iq{α:Type}{em:α->AV}{B:α->Bool}{F:α->AV}(a:cM gd st=Ã):∀{xs:List α},(∀x∈xs,∃sl1,g (em x) sl st=À (sl1,st)/\t sl1 st=À (B x,st)/\(B x=Ã->f sl1 st=À (F x,st)))->iX gd g t f sl (xs.map em) st=À ((xs.filter B).map F,st)
 |[],_=>by show(if cM gd st=Ã then _ else _)=_;rw[yJ a];rfl
 |x::xs,h=>by
  obtain⟨sl1,h1,h2,h3⟩:=h x z7;have b:=iq a (xs:=xs) fun y c=>h y (zQ _ c)
  show(if cM gd st=Ã then(g (em x) sl st).bind _ else Á)=_;rw[yJ a,h1,Â];dsimp only;rw[h2,Â];cases hB:B x with
  |true=>rw[yJ rfl];dsimp only;rw[h3 hB,Â];dsimp only;rw[b,ű,hB];rfl
  |false=>rw[yI (by simp)];dsimp only;rw[b,ű,hB];rfl
theorem fV:∀{xs:List AV},(∀x∈xs,rf x=Ã)->rfs xs=Ã
 |[],_=>rfl
 |x::xs,h=>by simp only[rfs,zC];exact⟨h x z7,fV fun y hy=>h y (zQ _ hy)⟩
theorem BJ:rfs (iL l)=Ã:=fV fun x a=>by obtain⟨i,_,rfl⟩:=yE.mp a;rfl
theorem fG:rfs (nL l)=Ã:=fV fun x a=>by obtain⟨i,_,rfl⟩:=yE.mp a;rfl
mutual
theorem AU:∀(x:AV),dH x x=Ã
 |.non=>rfl
 |.bl _=>by simp[dH]
 |.int _=>by simp[dH]
 |.str _=>by simp[dH]
 |.ref _=>by simp[dH]
 |.tup a=>by simp only[dH];exact jY a
 |.fz a=>by simp only[dH];exact jY a
theorem jY:∀(xs:List AV),ib xs xs=Ã
 |[]=>rfl
 |x::xs=>by simp only[ib,AU x,jY xs,ϟ]
end
theorem fW{k:Nat}(h:st[k]?=À (.lst xs)):cM [(k,.lst xs)] st=Ã:=by
 simp only[cM,h,xJ,jY,ϟ]
theorem LP:fL 0 (nL l)=l.zipIdx.map fun z=>.tup [.int ((z.2:Nat):Int),.int ((z.1:Nat):Int)]:=by
 unfold fL nL;rw[V9,Ù];rfl
@[simp] theorem OD:jL st (.tup xs)=À xs:=rfl
@[simp] theorem At:px st (.fz xs)=À ⟨xs,[]⟩:=rfl
@[simp] theorem As:jt st (.fz xs)=À ⟨xs,[]⟩:=rfl
@[simp] theorem dR:cj st (.fz xs)=À xs:=rfl
theorem kB{k:Nat}(h:st[k]?=À (.lst xs)):jt st (.ref k)=À ⟨xs,[(k,.lst xs)]⟩:=by
 unfold jt dr;simp only[h]
theorem mW{k:Nat}(h:st[k]?=À (.lst xs)):px st (.ref k)=À ⟨xs,[(k,.lst xs)]⟩:=by
 have:jL st (.ref k)=Á:=by unfold jL dr;simp only[h]
 unfold px;dsimp only;rw[this];exact kB h
@[simp] theorem iu:cM [] st=Ã:=rfl
theorem qz:mX (nL l)=À (l.map fun q=>((q:Nat):Int)):=by
 unfold mX nL;exact fJ (f:=fun x=>match x with|.int i=>À i|_=>Á) (i:=fun q:Nat=>AV.int q) (g:=fun q=>((q:Nat):Int)) (fun _=>rfl) l
noncomputable def oN:Option Nat->AV
 |none=>.non
 |some c=>.int (c:Int)
noncomputable def cB(S:Sh):List Nat:=(S.hd.zipIdx.filter fun z=>!decide (z.1∈S.nl)).map (·.2)
theorem jO{w m:Nat}(P:SX.Ql w m S){j:Nat}:j∈cB S ↔ j<w/\S.h j∉S.nl:=by
 unfold cB;simp only[yE,ú,Prod.exists];constructor
 ·rintro⟨q,i,⟨c,b⟩,rfl⟩
  have d:=List.mem_zipIdx' c;have a:i<S.hd.length:=d.1;refine⟨by rw[<- P.hd];exact a,?_⟩;have:S.h i=q:=by
   show S.hd.getD i 0=q;rw[zD,zF a,d.2];rfl
  rw[this];simpa using b
 ·rintro⟨c,b⟩
  have a:j<S.hd.length:=by rw[P.hd];exact c
  refine⟨S.h j,j,⟨?_,by simpa using b⟩,rfl⟩;have e:S.h j=S.hd[j]:=by
   show S.hd.getD j 0=_;rw[zD,zF a];rfl
  rw[e,List.mem_zipIdx_iff_getElem?];exact zF a
theorem cR{n:Nat}(h:n<=1000):fE n=Ã:=yM oM
theorem JU{key:Nat->Nat}:∃o:Option Nat,qN ((l.map fun q=>((q:Nat):Int)).zip (l.map fun q=>((key q:Nat):Int)))=oN o/\(o=Á->l=[])/\∀c,o=À c->c∈l/\∀j∈l,key c<=key j:=by
 cases l with
 |nil=>exact⟨Á,rfl,fun _=>rfl,fun c h=>nomatch h⟩
 |cons x l =>
  have hz:((x::l).map fun q=>((q:Nat):Int)).zip ((x::l).map fun q=>((key q:Nat):Int))=(x::l).map fun q=>(((q:Nat):Int),((key q:Nat):Int)):=by
   generalize x::l=b
   induction b with
   |nil=>rfl
   |cons y b g=>simp only[zO,ĝ,g]
  rw[hz];obtain⟨i,p,a,d⟩:=nq (l.map fun q=>(((q:Nat):Int),((key q:Nat):Int))) (x:Int) (key x:Int);rw[<- zO (f:=fun q:Nat=>(((q:Nat):Int),((key q:Nat):Int)))]at a d;rw[zR]at a;obtain⟨c,n,e⟩:=zE.mp a;injection e with e1 e2;refine⟨À c,?_,(fun h=>nomatch h),fun r h=>?_⟩
  ·show AV.int _=AV.int _
   rw[e1]
  ·cases h
   refine⟨zW n,fun j m=>?_⟩;obtain⟨t,k⟩:=yA m
   have:=(d t ((j:Int),(key j:Int)) (by rw[zR,k];rfl)).1
   rw[<- e2]at this;have:((key c:Nat):Int)<=((key j:Nat):Int):=this;lia
theorem IE{l:List Nat}{key:EF}{sl:Sl}{st:aa}{f:Nat->Nat}(h:∀q∈l,key (sl++[Is ((q:Nat):Int)]) st=À (.int ((f q:Nat):Int),st)):bC (An key sl st) (l.map fun q=>((q:Nat):Int))=À (l.map fun q=>((f q:Nat):Int)):=by
 induction l with
 |nil=>rfl
 |cons x l a =>
  have c:An key sl st (x:Int)=À ((f x:Nat):Int):=by unfold An;rw[h x z7]
  simp only[zO,bC,c,a fun q b=>h q (zQ _ b),Â,Æ]
def fk(gd:Gd)(g:GF)(s:SF)(xs:List AV):Out->Option Out
 |.nx sl st=>eF gd g s xs sl st
 |.ct sl st=>eF gd g s xs sl st
 |.bk sl st=>À (.nx sl st)
 |.rt v st=>À (.rt v st)
theorem AC(a:cM gd st=Ã)(c:g x sl st=À p)(b:s p.1 p.2=À o):eF gd g s (x::xs) sl st=fk gd g s xs o:=by
 show(if cM gd st=Ã then(g x sl st).bind _ else Á)=_;rw[yJ a,c,Â,b,Â];cases o<;>rfl
theorem m6{gd:Gd}{g:GF}{s:SF}{I:Nat->Sl->aa->Prop}{Post:AV->aa->Prop}{xs:List AV}(d:∀i sl st,i<=xs.length->I i sl st->cM gd st=Ã)
  (h:∀i x sl st,xs[i]?=À x->I i sl st->∃p o,g x sl st=À p/\s p.1 p.2=À o/\((∃sl2 st2,o=.nx sl2 st2/\I (i+1) sl2 st2)\/∃v st2,o=.rt v st2/\Post v st2)) :
  ∀{sl:Sl}{st:aa},I 0 sl st->(∃sl' st',eF gd g s xs sl st=À (.nx sl' st')/\I xs.length sl' st')\/∃v st',eF gd g s xs sl st=À (.rt v st')/\Post v st':=by
 have q:∀(r:Nat)(j:Nat){sl:Sl}{st:aa},j+r=xs.length->I j sl st->(∃sl' st',eF gd g s (xs.drop j) sl st=À (.nx sl' st')/\I xs.length sl' st')\/∃v st',eF gd g s (xs.drop j) sl st=À (.rt v st')/\Post v st':=fun r=>by
  induction r with
  |zero =>
   intro j sl st k a;left;rw[C? oM];refine⟨sl,st,?_,by rw[show xs.length=j by lia];exact a⟩;show(if cM gd st=Ã then _ else _)=_;rw[yJ (d j sl st oM a)]
  |succ r f =>
   intro j sl st k a;have c:j<xs.length:=by lia
   obtain⟨p,o,m,l,b⟩:=h j xs[j] sl st (zF c) a;rw[ã c];have e:=AC (xs:=xs.drop (j+1)) (d j sl st oM a) m l;rw[e];rcases b with⟨sl2,st2,rfl,b⟩|⟨v,st2,rfl,b⟩
   ·exact f (j+1) oM b
   ·exact .inr ⟨v,st2,rfl,b⟩
 intro sl st n
 have:=q xs.length 0 oM n
 rw[Ś]at this;exact this
theorem fX{gd:Gd}{g:GF}{s:SF}{I:Nat->Sl->aa->Prop}{xs:List AV}(e:∀i sl st,i<=xs.length->I i sl st->cM gd st=Ã)
  (h:∀i x sl st,xs[i]?=À x->I i sl st->∃p sl2 st2,g x sl st=À p/\s p.1 p.2=À (.nx sl2 st2)/\I (i+1) sl2 st2) {sl:Sl}{st:aa} (j:I 0 sl st):∃sl' st',eF gd g s xs sl st=À (.nx sl' st')/\I xs.length sl' st':=by
 rcases m6 (Post:=fun _ _=>False) e (fun i x sl st d f=>by
  obtain⟨p,sl2,st2,a,b,c⟩:=h i x sl st d f;exact⟨p,_,a,b,.inl ⟨sl2,st2,rfl,c⟩⟩) j with h|⟨_,_,_,h⟩
 ·exact h
 ·exact h.elim
theorem pR{i:Nat}(h:(fL 0 xs)[i]?=À y):∃x,xs[i]?=À x/\y=.tup [.int ((i:Nat):Int),x]:=by
 unfold fL at h;rw[zR]at h;obtain⟨z,a,rfl⟩:=zE.mp h;rw[ō]at a;obtain⟨x,b,rfl⟩:=zE.mp a;exact⟨x,b,by simp⟩
theorem m8:(fL 0 xs).length=xs.length:=by unfold fL;simp
section
variable{st:aa}{k a b c g n u w m:Nat}{rows:List AV}{S:Sh}{i j q:Nat}{x:AV}{l:List Int}{e e':Qd}
theorem aB(h:q≠j):(st.set q e')[j]?=st[j]?:=by rw[yY];simp[h]
theorem g9(h:st[q]?=À e):(st.set q e')[q]?=À e':=by
 rw[yY];simp[(zB.mp h).1]
theorem ga(h:st[j]?=À e):(st++ys)[j]?=À e:=by
 rw[zN (zB.mp h).1];exact h
theorem gl:(st++[e])[st.length]?=À e:=by simp
theorem bN(a:st[i]?=À e)(b:st[j]?=À e')(h:e≠e'):i≠j:=fun z=>h (by rw[z,b]at a;injection a with a;exact a.symm)
theorem RowR.set(h:RowR st x l)(b:∀r,x=.ref r->q≠r):RowR (st.set q e') x l:=by
 rcases h with h|⟨r,a,c⟩
 ·exact .inl h
 ·exact .inr ⟨r,a,by rw[aB (b r a)];exact c⟩
theorem RowR.app(h:RowR st x l):RowR (st++ys) x l:=by
 rcases h with h|⟨r,b,a|a⟩
 ·exact .inl h
 ·exact .inr ⟨r,b,.inl (ga a)⟩
 ·exact .inr ⟨r,b,.inr (ga a)⟩
theorem Rep.app(R:Rep st k a b c g n u rows S):Rep (st++ys) k a b c g n u rows S :=
 ⟨ga R.hk,ga R.ha,ga R.hb,ga R.hc,ga R.hg,ga R.hn,ga R.hu,R.len,fun i x h=>(R.row i x h).app,R.ab,R.ac,R.bc,R.gn,R.gu,R.nu,R.ra⟩
theorem Rep.rowk(R:Rep st k a b c g n u rows S){r:Nat}(h:rows[i]?=À (.ref r)):r≠k/\r≠g/\r≠n/\r≠u:=by
 have e:=R.row i _ h;rcases e with h|⟨j,f,d⟩
 ·cases h
 ·cases f
  rcases d with d|d
  ·exact⟨bN d R.hk (fun z=>nomatch z),bN d R.hg (fun z=>nomatch z),bN d R.hn (fun z=>nomatch z),bN d R.hu (fun z=>nomatch z)⟩
  ·exact⟨bN d R.hk (fun z=>nomatch z),bN d R.hg (fun z=>nomatch z),bN d R.hn (fun z=>nomatch z),bN d R.hu (fun z=>nomatch z)⟩
theorem Rep.fields{d:Nat}(R:Rep st k a b c g n u rows S)(j:st[d]?=À (.lst rows'))(t:S'.hd=S.hd)(s:S'.sd=S.sd)(q:S'.gd=S.gd)(p:S'.nl=S.nl)(o:S'.tn=S.tn)(len:rows'.length=S'.ls.length)
  (row:∀i x,rows'[i]?=À x->RowR st x (SX.row S' i)) (y:d≠b) (w:d≠c) (l:∀(i r:Nat),rows'[i]?=À (.ref r)->r≠d/\r≠b/\r≠c):Rep (st.set k (.ins "Sheet" (dI S'.d d b c g n u))) k d b c g n u rows' S':=by
 have m:k≠d:=bN R.hk j (fun z=>nomatch z);refine⟨g9 R.hk,by rw[aB m];exact j,?_,?_,?_,?_,?_,len,fun i x h=>(row i x h).set fun r e=>?_,y,w,R.bc,R.gn,R.gu,R.nu,l⟩
 ·rw[aB (bN R.hk R.hb (fun z=>nomatch z)),t];exact R.hb
 ·rw[aB (bN R.hk R.hc (fun z=>nomatch z)),s];exact R.hc
 ·rw[aB (bN R.hk R.hg (fun z=>nomatch z)),q];exact R.hg
 ·rw[aB (bN R.hk R.hn (fun z=>nomatch z)),p];exact R.hn
 ·rw[aB (bN R.hk R.hu (fun z=>nomatch z)),o];exact R.hu
 ·subst e
  rcases row i _ h with z|⟨A,v,f⟩
  ·cases z
  ·cases v
   rcases f with f|f
   ·exact bN R.hk f (fun z=>nomatch z)
   ·exact bN R.hk f (fun z=>nomatch z)
theorem Rep.heads(R:Rep st k a b c g n u rows S):Rep (st.set b (.lst (nL hd'))) k a b c g n u rows { S with hd:=hd' } :=
 ⟨by rw[aB (bN R.hb R.hk (fun z=>nomatch z))];exact R.hk,by rw[aB (æ R.ab)];exact R.ha,g9 R.hb,by rw[aB R.bc];exact R.hc,by rw[aB (bN R.hb R.hg (fun z=>nomatch z))];exact R.hg,by rw[aB (bN R.hb R.hn (fun z=>nomatch z))];exact R.hn,
  by rw[aB (bN R.hb R.hu (fun z=>nomatch z))];exact R.hu,R.len,fun i x h=>(R.row i x h).set fun r e=>æ (R.ra i r (by rw[<- e];exact h)).2.1,R.ab,R.ac,R.bc,R.gn,R.gu,R.nu,R.ra⟩
theorem Rep.sides(R:Rep st k a b c g n u rows S):Rep (st.set c (.lst (nL sd'))) k a b c g n u rows { S with sd:=sd' } :=
 ⟨by rw[aB (bN R.hc R.hk (fun z=>nomatch z))];exact R.hk,by rw[aB (æ R.ac)];exact R.ha,by rw[aB (æ R.bc)];exact R.hb,g9 R.hc,by rw[aB (bN R.hc R.hg (fun z=>nomatch z))];exact R.hg,by rw[aB (bN R.hc R.hn (fun z=>nomatch z))];exact R.hn,
  by rw[aB (bN R.hc R.hu (fun z=>nomatch z))];exact R.hu,R.len,fun i x h=>(R.row i x h).set fun r e=>æ (R.ra i r (by rw[<- e];exact h)).2.2,R.ab,R.ac,R.bc,R.gn,R.gu,R.nu,R.ra⟩
theorem Rep.guard(R:Rep st k a b c g n u rows S):Rep (st.set g (.dK (kL gd'))) k a b c g n u rows { S with gd:=gd' } :=
 ⟨by rw[aB (bN R.hg R.hk (fun z=>nomatch z))];exact R.hk,by rw[aB (bN R.hg R.ha (fun z=>nomatch z))];exact R.ha,by rw[aB (bN R.hg R.hb (fun z=>nomatch z))];exact R.hb,by rw[aB (bN R.hg R.hc (fun z=>nomatch z))];exact R.hc,g9 R.hg,by rw[aB R.gn];exact R.hn,by rw[aB R.gu];exact R.hu,
  R.len,fun i x h=>(R.row i x h).set fun r e=>æ (R.rowk (i:=i) (by rw[<- e];exact h)).2.1,R.ab,R.ac,R.bc,R.gn,R.gu,R.nu,R.ra⟩
theorem Rep.nail(R:Rep st k a b c g n u rows S):Rep (st.set n (.dK (kL nl'))) k a b c g n u rows { S with nl:=nl' } :=
 ⟨by rw[aB (bN R.hn R.hk (fun z=>nomatch z))];exact R.hk,by rw[aB (bN R.hn R.ha (fun z=>nomatch z))];exact R.ha,by rw[aB (bN R.hn R.hb (fun z=>nomatch z))];exact R.hb,by rw[aB (bN R.hn R.hc (fun z=>nomatch z))];exact R.hc,by rw[aB (æ R.gn)];exact R.hg,g9 R.hn,by rw[aB R.nu];exact R.hu,
  R.len,fun i x h=>(R.row i x h).set fun r e=>æ (R.rowk (i:=i) (by rw[<- e];exact h)).2.2.1,R.ab,R.ac,R.bc,R.gn,R.gu,R.nu,R.ra⟩
theorem Rep.turned(R:Rep st k a b c g n u rows S):Rep (st.set u (.dK (kL tn'))) k a b c g n u rows { S with tn:=tn' } :=
 ⟨by rw[aB (bN R.hu R.hk (fun z=>nomatch z))];exact R.hk,by rw[aB (bN R.hu R.ha (fun z=>nomatch z))];exact R.ha,by rw[aB (bN R.hu R.hb (fun z=>nomatch z))];exact R.hb,by rw[aB (bN R.hu R.hc (fun z=>nomatch z))];exact R.hc,by rw[aB (æ R.gu)];exact R.hg,by rw[aB (æ R.nu)];exact R.hn,g9 R.hu,
  R.len,fun i x h=>(R.row i x h).set fun r e=>æ (R.rowk (i:=i) (by rw[<- e];exact h)).2.2.2,R.ab,R.ac,R.bc,R.gn,R.gu,R.nu,R.ra⟩
theorem vN{p i:Nat}:SX.row { S with ls:=S.ls.set p l } i=if i=p/\p<S.ls.length then l else SX.row S i:=by
 unfold SX.row;simp only[zD,yY];by_cases h:i=p
 ·subst h
  by_cases a:i<S.ls.length
  ·simp[a]
  ·simp[a]
 ·rw[yI fun z=>h z.symm,yI fun z=>h z.1]
theorem Rep.rowset{p:Nat}(R:Rep st k a b c g n u rows S)(o:RowR st x l)(m:∀r,x=.ref r->r≠a/\r≠b/\r≠c):Rep (st.set a (.lst (rows.set p x))) k a b c g n u (rows.set p x) { S with ls:=S.ls.set p l }:=by
 have j:∀i y,(rows.set p x)[i]?=À y->(i=p/\p<rows.length/\y=x)\/(i≠p/\rows[i]?=À y):=fun i y h=>by
  rw[yY]at h;by_cases e:p=i
  ·rw[yJ e]at h
   split at h
   ·cases h;exact .inl ⟨e.symm,by assumption,rfl⟩
   ·cases h
  ·rw[yI e]at h;exact .inr ⟨fun z=>e z.symm,h⟩
 refine⟨by rw[aB (bN R.ha R.hk (fun z=>nomatch z))];exact R.hk,g9 R.ha,by rw[aB R.ab];exact R.hb,by rw[aB R.ac];exact R.hc,by rw[aB (bN R.ha R.hg (fun z=>nomatch z))];exact R.hg,by rw[aB (bN R.ha R.hn (fun z=>nomatch z))];exact R.hn,
  by rw[aB (bN R.ha R.hu (fun z=>nomatch z))];exact R.hu,by simp[R.len],fun i y h=>?_,R.ab,R.ac,R.bc,R.gn,R.gu,R.nu,fun i r h=>?_⟩
 ·rw[vN]
  rcases j i y h with⟨f,d,rfl⟩|⟨f,d⟩
  ·rw[yJ ⟨f,by rw[<- R.len];exact d⟩];exact o.set fun r e=>æ (m r e).1
  ·rw[yI fun z=>f z.1];exact(R.row i y d).set fun r e=>æ (R.ra i r (by rw[<- e];exact d)).1
 ·rcases j i _ h with⟨f,d,q⟩|⟨f,d⟩
  ·exact m r q.symm
  ·exact R.ra i r d
theorem Rep.cellset{p r:Nat}(R:Rep st k a b c g n u rows S)(d:rows[p]?=À (.ref r))(A:∀i,i≠p->rows[i]?≠À (.ref r)):Rep (st.set r (.lst (iL l))) k a b c g n u rows { S with ls:=S.ls.set p l }:=by
 obtain⟨x,w,v⟩:=R.ra p r d;obtain⟨t,s,q,o⟩:=R.rowk d;have j:p<S.ls.length:=by rw[<- R.len];exact(zB.mp d).1
 refine⟨by rw[aB t];exact R.hk,by rw[aB x];exact R.ha,by rw[aB w];exact R.hb,by rw[aB v];exact R.hc,by rw[aB s];exact R.hg,by rw[aB q];exact R.hn,by rw[aB o];exact R.hu,by simp[R.len],fun i y h=>?_,R.ab,R.ac,R.bc,R.gn,R.gu,R.nu,R.ra⟩;rw[vN];by_cases e:i=p
 ·subst e
  rw[yJ ⟨rfl,j⟩];rw[d]at h;cases h;rcases R.row i _ d with z|⟨m,B,f⟩
  ·cases z
  ·cases B
   rcases f with f|f
   ·exact .inr ⟨r,rfl,.inl (g9 f)⟩
   ·exact .inr ⟨r,rfl,.inl (g9 f)⟩
 ·rw[yI fun z=>e z.1]
  exact(R.row i y h).set fun m C z=>A i e (by rw[z,<- C];exact h)
theorem Rep.freeze{r:Nat}(R:Rep st k a b c g n u rows S)(o:rows[i]?=À (.ref r))(f:st[r]?=À (.lst (iL l))):Rep (st.set r (.al (.fz (iL l)))) k a b c g n u rows S:=by
 obtain⟨A,x,w⟩:=R.ra i r o;obtain⟨v,t,s,q⟩:=R.rowk o;refine⟨by rw[aB v];exact R.hk,by rw[aB A];exact R.ha,by rw[aB x];exact R.hb,by rw[aB w];exact R.hc,by rw[aB t];exact R.hg,by rw[aB s];exact R.hn,by rw[aB q];exact R.hu,R.len,fun j y h=>?_,R.ab,R.ac,R.bc,R.gn,R.gu,R.nu,R.ra⟩;rcases R.row j y h with z|⟨m,p,d⟩
 ·exact .inl z
 ·by_cases e:r=m
  ·subst e
   refine .inr ⟨r,p,.inr ?_⟩;rw[g9 f];rcases d with d|d
   ·rw[f]at d;injection d with d;injection d with d;rw[d]
   ·rw[f]at d;cases d
  ·exact .inr ⟨m,p,by rw[aB e];exact d⟩
theorem RowR.it(h:RowR st x l):∃gd,px st x=À ⟨iL l,gd⟩/\cM gd st=Ã:=by
 rcases h with rfl|⟨r,rfl,h|h⟩
 ·exact⟨[],rfl,rfl⟩
 ·exact⟨_,mW h,fW h⟩
 ·refine⟨[],?_,rfl⟩
  have:jL st (.ref r)=Á:=by unfold jL dr;simp only[h]
  unfold px;dsimp only;rw[this];unfold jt dr;simp only[h]
end
theorem IS{gd:Gd}{g:GF}{t:TF}{f:EF}{sl:Sl}{J:Nat->aa->Prop}{F:Nat->AV}{xs:List AV}(d:∀i st,i<=xs.length->J i st->cM gd st=Ã)
  (h:∀i x st,xs[i]?=À x->J i st->∃sl1 st1,g x sl st=À (sl1,st)/\t sl1 st=À (Ã,st)/\f sl1 st=À (F i,st1)/\J (i+1) st1) {st:aa} (q:J 0 st):∃st',iX gd g t f sl xs st=À ((È xs.length).map F,st')/\J xs.length st':=by
 have s:∀(r j:Nat){st:aa},j+r=xs.length->J j st->∃st',iX gd g t f sl (xs.drop j) st=À ((ħ j r).map F,st')/\J xs.length st':=fun r=>by
  induction r with
  |zero =>
   intro j st l a;rw[C? oM];refine⟨st,?_,by rw[show xs.length=j by lia];exact a⟩;show(if cM gd st=Ã then _ else _)=_;rw[yJ (d j st oM a)];rfl
  |succ r k =>
   intro j st l a;have c:j<xs.length:=by lia
   obtain⟨sl1,st1,p,o,n,m⟩:=h j xs[j] st (zF c) a;obtain⟨st',e,b⟩:=k (j+1) oM m;refine⟨st',?_,b⟩;rw[ã c];show(if cM gd st=Ã then(g xs[j] sl st).bind _ else Á)=_;rw[yJ (d j st oM a),p,Â];dsimp only;rw[o,Â,yJ rfl];dsimp only;rw[n,Â];dsimp only;rw[e];rfl
 obtain⟨st',e,a⟩:=s xs.length 0 oM q;rw[Ś]at e;rw[<- List.range_eq_range']at e;exact⟨st',e,a⟩
@[simp] theorem kC:(iL l).length=l.length:=by unfold iL;simp
@[simp] theorem g6:(nL l).length=l.length:=by unfold nL;simp
@[simp] theorem du:rfs (iL l)=Ã:=BJ
@[simp] theorem pb:rfs (nL l)=Ã:=fG
theorem iO{q:Nat}{x:Int}:(iL l).set q (.int x)=iL (l.set q x):=by unfold iL;rw[B']
theorem Ac{q x:Nat}:(nL l).set q (.int (x:Int))=nL (l.set q x):=by unfold nL;rw[B']
theorem Al{α:Type}{em:α->AV}{F:α->Int}{xs:List α}(e:cM gd st=Ã)(h:∀x∈xs,∃sl1,g (em x) sl st=À (sl1,st)/\t sl1 st=À (Ã,st)/\f sl1 st=À (.int (F x),st)):iX gd g t f sl (xs.map em) st=À (iL (xs.map F),st):=by
 rw[iq (B:=fun _=>Ã) (F:=fun x=>.int (F x)) e fun x d=>by obtain⟨s,a,b,c⟩:=h x d;exact⟨s,a,b,fun _=>c⟩];unfold iL;rw[Ù,Ø.mpr fun _ _=>rfl];rfl
theorem mV(a:cM gd st=Ã)(h:∀x∈l,∃sl1,g (.int x) sl st=À (sl1,st)/\t sl1 st=À (Ã,st)/\f sl1 st=À (.int (F x),st)):iX gd g t f sl (iL l) st=À (iL (l.map F),st):=Al a h
theorem eP{k q:Nat}(h:st[k]?=À (.lst xs))(a:q<xs.length):j6 st (.ref k) (.int (q:Int)) x=À (st.set k (.lst (xs.set q x))):=by
 unfold j6;simp only[h];have:ma xs.length (q:Int)=À q:=by unfold ma;rw[yJ oM,yJ oM];simp
 rw[this];rfl
theorem qy{k q:Nat}(h:st[k]?=À (.dK (kL l)))(c:l.length<=1000):j6 st (.ref k) (.int (q:Int)) (.bl Ã)=À (st.set k (.dK (kL (if q∈l then l else l++[q])))):=by
 unfold j6;simp only[h,k6,Â];rw[yJ (cR (by unfold kL;rw[zH];exact c))];congr 2;unfold oy kL;by_cases a:q∈l
 ·rw[yJ a,yJ (by simp only[D!,Ų];exact⟨q,a,by simp⟩),Ù]
  congr 1;refine ķ fun x b=>?_
  show(if _ then _ else _)=_;split
  ·rfl
  ·rfl
 ·rw[yI a,yI (by
   simp only[D!,Ų,i!];rintro⟨x,b,e⟩;have:x=q:=by have:((x:Nat):Int)=((q:Nat):Int):=(by simpa using e);lia
   exact a (this▸b)),ï]
  rfl
theorem ag(h:cT ks s sl st=À (.nx sl' st'))(a:(ae ks ss sl' st').bind au=r):(ae ks (.cons s ss) sl st).bind au=r:=by
 rw[jl,h,Â,tL];exact a
theorem aj(h:cT ks s sl st=À (.nx sl' st'))(a:ae ks ss sl' st'=r):ae ks (.cons s ss) sl st=r:=by
 rw[jl,h,Â,tL];exact a
theorem bS(h:cT ks s sl st=À (.rt v st')):(ae ks (.cons s ss) sl st).bind au=À (v,st'):=by
 rw[jl,h,Â,zx];rfl
theorem aM(h:rfs args=Ã)(b:fn args []=À (v,st'))(a:fF st' v=À t):pm fn args st=À (t,st):=by
 unfold pm;rw[yJ h,b,Â];dsimp only;rw[a];rfl
section
variable{d:Int}{a b c g n u:Nat}
theorem B0{d':Int}:jM "below" (.int d') (dI d a b c g n u)=dI d' a b c g n u:=rfl
theorem BZ{e:Nat}:jM "lines" (.ref e) (dI d a b c g n u)=dI d e b c g n u:=rfl
theorem jb{k:Nat}(d:ev ks e sl st=À (v,st'))(c:ev ks o sl st'=À (.ref k,st'))(b:j7 st' cn (.ref k)=À fs)(a:Þ fs.length 900=Ã):cT ks (.fl cn f o e) sl st=À (.nx sl (st'.set k (.ins cn (jM f v fs)))):=by
 show yp cn f (ev ks o) (ev ks e) sl st=_;unfold yp;rw[d,Â];dsimp only;rw[c,Â];dsimp only;rw[b,Â,yJ a]
end
theorem vD{α:Type}{t:TF}{s:SF}{I:α->Sl->aa->Prop}{Q:α->α->Prop}{Post:Out->Prop}{a0:α}(e:∀f:Nat->α,f 0=a0->(∀n,Q (f n) (f (n+1)))->False)
  (h:∀x sl st,I x sl st->(∃o,dU t s 1 sl st=À o/\Post o)\/∃x' sl' st',Q x x'/\I x' sl' st'/\∀n o,dU t s n sl' st'=À o->dU t s (n+1) sl st=À o) {sl:Sl}{st:aa} (p:I a0 sl st):∃o,nA t s sl st=À o/\Post o:=by
 apply ö;intro j
 let a:α×Sl×aa->Prop:=fun z=>I z.1 z.2.1 z.2.2/\¬∃n o,dU t s n z.2.1 z.2.2=À o/\Post o
 have g:a (a0,sl,st):=⟨p,fun⟨n,o,c,b⟩=>j ⟨o,oU c,b⟩⟩;have nx:∀z:{ z // a z },∃i:{ z // a z },Q z.1.1 i.1.1:=fun d=>by
  obtain⟨z,hz⟩:=d;rcases h z.1 z.2.1 z.2.2 hz.1 with⟨o,c,b⟩|⟨x',sl',st',c,b,m⟩
  ·exact absurd ⟨1,o,c,b⟩ hz.2
  ·exact⟨⟨(x',sl',st'),b,fun⟨n,o,l,k⟩=>hz.2 ⟨n+1,o,m n o l,k⟩⟩,c⟩
 let f:Nat->{ z // a z }:=fun n=>Nat.rec ⟨_,g⟩ (fun _ z=>Đ (nx z)) n
 exact e (fun n=>(f n).1.1) rfl fun n=>Ĝ (nx (f n))
theorem mO(h:t sl st=À (Ä,st')):dU t s 1 sl st=À (.nx sl st'):=by
 show(t sl st).bind _=_;rw[h,Â,yI (by simp)]
theorem sQ(h:t sl st=À (Ã,st'))(a:s sl st'=À (.rt v st2)):dU t s 1 sl st=À (.rt v st2):=by
 show(t sl st).bind _=_;rw[h,Â,yJ rfl];dsimp only;rw[a];rfl
theorem qb{n:Nat}(h:t sl st=À (Ã,st'))(b:s sl st'=À (.nx sl2 st2))(a:dU t s n sl2 st2=À o):dU t s (n+1) sl st=À o:=by
 show(t sl st).bind _=_;rw[h,Â,yJ rfl];dsimp only;rw[b];exact a
theorem oO(h:cT ks s sl st=À (.rt v st')):ae ks (.cons s ss) sl st=À (.rt v st'):=by
 rw[jl,h,Â,zx]
theorem G0{ks:List Fn}{T:Tx}{B rest:Qm}{sl:Sl}{st:aa}{Post:Out->Prop}{Q:AV×aa->Prop}(h:∃o,nA (tv ks T) (ae ks B) sl st=À o/\Post o)(c:∀o,Post o->∃r,(lU o (ae ks rest)).bind au=À r/\Q r):∃r,(ae ks (.cons (.wh T B) rest) sl st).bind au=À r/\Q r:=by
 obtain⟨o,e,b⟩:=h;obtain⟨r,d,a⟩:=c o b;refine⟨r,?_,a⟩;rw[jl,Ny,e,Â];exact d
theorem aA{ks:List Fn}{s:Sx}{a:Qm}{sl sl':Sl}{st st':aa}{Q:AV×aa->Prop}(h:cT ks s sl st=À (.nx sl' st'))(b:∃r,(ae ks a sl' st').bind au=À r/\Q r):∃r,(ae ks (.cons s a) sl st).bind au=À r/\Q r:=by
 obtain⟨r,e,q⟩:=b;exact⟨r,ag h e,q⟩
def aJ(L:List (List Int)):List AV:=L.map fun l=>.fz (iL l)
@[simp] theorem On:(aJ L).length=L.length:=by unfold aJ;simp
@[simp] theorem OU:rfs (aJ L)=Ã:=fV fun x a=>by obtain⟨l,_,rfl⟩:=yE.mp a;rfl
theorem Jh:iL a++iL b=iL (a++b):=by unfold iL;rw[ï]
theorem xr{α:Type}{em:α->AV}{F:α->List Int}{xs:List α}(e:cM gd st=Ã)(h:∀x∈xs,∃sl1,g (em x) sl st=À (sl1,st)/\t sl1 st=À (Ã,st)/\f sl1 st=À (.fz (iL (F x)),st)):iX gd g t f sl (xs.map em) st=À (aJ (xs.map F),st):=by
 rw[iq (B:=fun _=>Ã) (F:=fun x=>.fz (iL (F x))) e fun x d=>by obtain⟨s,a,b,c⟩:=h x d;exact⟨s,a,b,fun _=>c⟩];unfold aJ;rw[Ù,Ø.mpr fun _ _=>rfl];rfl
theorem mC(g:ev ks a sl st=À (x,s1))(f:ev ks b sl s1=À (y,s2))(e:cj s2 x=À (iL l))(d:cj s2 y=À (iL l'))(c:l.length+l'.length<=1000):i9 ks (.cat a b) sl st=À (iL (l++l'),s2):=by
 rw[sF];unfold qw;rw[g,Â];dsimp only;rw[f,Â];dsimp only;rw[e,Â,d,Â,yJ (cR (by simpa using c)),Jh]
theorem sA{n:Nat}:eu 0 n=nL (È n):=by unfold eu nL;simp
theorem Ks{w n:Nat}:eu (w:Int) n=nL ((È n).map (w+·)):=by unfold eu nL;simp[Ù,Function.comp_def]
theorem EC{n:Nat}:bC (bF n st) (iL l)=À (iL l):=fJ (f:=bF n st) (i:=AV.int) (g:=AV.int) (fun x=>by cases n<;>rfl) l
theorem vM{k:Nat}(h:st[k]?=À (.lst (iL l))):fF st (.ref k)=À (.fz (iL l)):=by
 show bF 6 st (.ref k)=_;unfold bF;simp only[h,EC,Æ]
theorem G1{k:Nat}(h:st[k]?=À (.al t)):fF st (.ref k)=À t:=by
 show bF 6 st (.ref k)=_;unfold bF;simp only[h]
theorem lT{fn:Fn}{rest:List AV}{st st':aa}{x v t:AV}{l:List Int}(c:RowR st x l)(k:rfs rest=Ã)(e:bC (fF st) rest=À rest)(g:∀s,pL s rest=À (rest,s))(b:fn (.fz (iL l)::rest) []=À (v,st'))(a:fF st' v=À t)(d:flat t=Ä) :
  ∃st1,pm fn (x::rest) st=À (t,st1)/\(st1=st\/∃r,x=.ref r/\st[r]?=À (.lst (iL l))/\st1=st.set r (.al (.fz (iL l)))):=by
 have au:∀r st1,x=.ref r->fF st (.ref r)=À (.fz (iL l))->rg st (.ref r)=À (.fz (iL l),st1)->pm fn (x::rest) st=À (t,st1):=fun r st1 ex j i=>by
  subst ex;have m:bC (fF st) (.ref r::rest)=À (.fz (iL l)::rest):=by simp only[bC,j,e];rfl
  have f:pL st (.ref r::rest)=À (.fz (iL l)::rest,st1):=by simp only[pL,i,Â,g];rfl
  unfold pm;rw[yI (by simp[rf]),m,Â,b,Â];dsimp only;rw[a,Â,yI (by rw[d];simp),f,Â];dsimp only;rw[b,Â];dsimp only;rw[a];rfl
 rcases c with rfl|⟨r,rfl,h|h⟩
 ·exact⟨st,aM (by simp[k]) b a,.inl rfl⟩
 ·exact⟨_,au r (st.set r (.al (.fz (iL l)))) rfl (vM h) (by unfold rg;simp[rf,h]),.inr ⟨r,rfl,h,rfl⟩⟩
 ·exact⟨_,au r st rfl (G1 h) (by unfold rg;simp[rf,h]),.inl rfl⟩
theorem gB:(st++[x]).set st.length y=st++[y]:=by simp
end R
namespace LW
open PySem L2 R
noncomputable def top(i:Nat):ľ:=X6.main.body.getD i (.Pass ⟨0,0,0,0⟩)
def LV(s:ľ):List ľ:=match s with
 |.ClassDef _ _ _ b _ _ _ _ _ _ _=>b
 |_=>[]
def ip(i j:Nat):ľ:=(LV (top i)).getD j (.Pass ⟨0,0,0,0⟩)
noncomputable def gs:List (Í×AV):=[]
noncomputable def cl:List (Í×List Í):=[("Sheet",["below","guarded","heads","lines","nailed","sides","turned"])]
noncomputable abbrev B(_:FH):Type:=Qm
local macro_rules | `(tactic| walk_at "tr")=>`(tactic| (refine (?f:FH.tr ?h false [] gs cl=some ?m->B ?h) ?p;(case p=>unfold FH.tr;rw [Jk];(conv in df _=>whnf);simp [-Option.map_map,↓Jk,gs,cl,vC,oQ,Nb,Nd,Na,Nc,uS,uE,uT,uG,Oz,OA,qf,lF,uO,uC,wL,Da,uI,Ot,uR,uZ,Ov,uL,Db,Ou,Br,Bs,Os,Oq,uK,GB,Op,wN,wM,Oy,Ow,MN,MM,uX,m2,m3,at_,lk,uY,Ih,hB,Ck,uM,uN,uP,JP,Iu,OB,fM,Cb,uk,Jj];rfl);exact fun _=>?m))
@[simp] def kI:FH:=⟨.f "_law_cell_at" 2,"_law_cell_at",top 48,["_law_script","_law_k"],[],3,[],[],[]⟩
noncomputable def iA:B kI:=by walk_at "tr"
@[simp] def my:FH:=⟨.f "_law_draws" 3,"_law_draws",top 49,["_law_cell","_law_many","_law_base","_law_found","_law_left","_law_k","_law_number"],[],3,[],[],[2480136152]⟩
noncomputable def jI:B my:=by walk_at "tr"
@[simp] def nY:FH:=⟨.f "_law_bits" 1,"_law_bits",top 50,["_law_mask_here"],[],3,[],[],[]⟩
noncomputable def km:B nY:=by walk_at "tr"
@[simp] def nX:FH:=⟨.f "_law_heap" 3,"_law_heap",top 52,["_law_cell","_law_n","_law_most","_law_digits","_law_many","_law_views","_law_name","_law_row_here","_law_j","_law_digit","_law_mask_here"],[1,2],6,[],["_law_draws","_law_bits"],[2624136152,2640192208]⟩
noncomputable def ki:B nX:=by walk_at "tr"
@[simp] def nW:FH:=⟨.f "_law_mask" 1,"_law_mask",top 51,["_law_view"],[],3,[],[],[]⟩
noncomputable def oh:B nW:=by walk_at "tr"
@[simp] def mr:FH:=⟨.f "_law_masks" 2,"_law_masks",top 53,["_law_heap_here","_law_g","_law_found","_law_name"],[4],6,[],["_law_mask"],[2744200849]⟩
noncomputable def jH:B mr:=by walk_at "tr"
@[simp] def nV:FH:=⟨.f "_law_rank" 1,"_law_rank",top 54,["_law_masks_here","_law_rows","_law_mask_here","_law_row_here"],[],3,[],[],[2768128144]⟩
noncomputable def kh:B nV:=by walk_at "tr"
@[simp] def mq:FH:=⟨.f "_law_table" 1,"_law_table",top 55,["_law_heap_here"],[5,6],9,[],["_law_masks","_law_rank"],[]⟩
noncomputable def jG:B mq:=by walk_at "tr"
@[simp] def lI:FH:=⟨.f "_law_shared" 4,"_law_shared",top 63,["_law_n","_law_a","_law_b","_law_c","_law_row_here"],[],3,[],[],[3072160448]⟩
noncomputable def gA:B lI:=by walk_at "tr"
@[simp] def pH:FH:=⟨.f "_law_row" 2,"_law_row",top 64,["_law_cell","_law_n","_law_digits","_law_way","_law_row_here","_law_k","_law_one","_law_other","_law_a","_law_c","_law_more","_law_by"],[1,8],6,[],["_law_draws","_law_shared"],[]⟩
noncomputable def jg:B pH:=by walk_at "tr"
@[simp] def mo:FH:=⟨.f "_law_value" 2,"_law_value",top 66,["_law_row_here","_law_table_here"],[],3,[],[],[]⟩
noncomputable def jF:B mo:=by walk_at "tr"
@[simp] def mw:FH:=⟨.f "_law_given" 3,"_law_given",top 68,["_law_cell","_law_n","_law_table_here","_law_row_here","_law_number"],[9,10],9,[],["_law_row","_law_value"],[]⟩
noncomputable def ig:B mw:=by walk_at "tr"
@[simp] def mv:FH:=⟨.f "_law_keeps" 2,"_law_keeps",top 67,["_law_saying_here","_law_table_here"],[10],6,[],["_law_value"],[]⟩
noncomputable def ie:B mv:=by walk_at "tr"
@[simp] def nU:FH:=⟨.f "all_names" 1,"all_names",top 1,["n"],[],3,[],[],[]⟩
noncomputable def og:B nU:=by walk_at "tr"
@[simp] def pF:FH:=⟨.f "names_in" 2,"names_in",top 15,["n","group"],[],3,[],[],[1016088440]⟩
noncomputable def lv:B pF:=by walk_at "tr"
@[simp] def pC:FH:=⟨.f "views_of" 2,"views_of",top 40,["heap","g","found","name"],[14],6,[],["names_in"],[2176096112,2184128334]⟩
noncomputable def lu:B pC:=by walk_at "tr"
@[simp] def qZ:FH:=⟨.f "mask_of" 1,"mask_of",top 41,["view"],[],3,[],[],[]⟩
noncomputable def rX:B qZ:=by walk_at "tr"
@[simp] def mj:FH:=⟨.f "less_lines" 3,"less_lines",top 42,["lines","mask","made","lead","other","how"],[],3,[],[],[]⟩
noncomputable def jD:B mj:=by walk_at "tr"
@[simp] def nK:FH:=⟨.f "with_line" 3,"with_line",top 43,["lines","mask","made","lead","changed","other","there","how"],[],3,[],[],[2288112128,2336088329]⟩
noncomputable def ka:B nK:=by walk_at "tr"
@[simp] def pG:FH:=⟨.f "lines_of" 1,"lines_of",top 44,["views","lines","place","view","left"],[16,17,18],6,[],["mask_of","less_lines","with_line"],[]⟩
noncomputable def lx:B pG:=by walk_at "tr"
@[simp] def qY:FH:=⟨.f "rank_of" 1,"rank_of",top 45,["views"],[19],9,[],["lines_of"],[]⟩
noncomputable def mH:B qY:=by walk_at "tr"
@[simp] def mn:FH:=⟨.f "coin_table" 1,"coin_table",top 46,["heap"],[13,15,20],12,[],["all_names","views_of","rank_of"],[]⟩
noncomputable def jE:B mn:=by walk_at "tr"
@[simp] def ju:FH:=⟨.f "upward_sayings" 1,"upward_sayings",top 35,["saying","row","number","upward"],[],3,[],[],[1944104264]⟩
noncomputable def gE:B ju:=by walk_at "tr"
@[simp] def iP:FH:=⟨.f "pairs_with_known" 3,"pairs_with_known",top 7,["n","i","j","both"],[13],6,[],["all_names"],[]⟩
noncomputable def iS:B iP:=by walk_at "tr"
@[simp] def wm:FH:=⟨.f "rules" 1,"rules",top 8,["n","found","i","j"],[23],9,[],["pairs_with_known"],[168096344]⟩
noncomputable def wz:B wm:=by walk_at "tr"
@[simp] def kD:FH:=⟨.f "row_of_terms" 2,"row_of_terms",top 2,["n","terms","row","group","number"],[13],6,[],["all_names"],[40080224]⟩
noncomputable def kO:B kD:=by walk_at "tr"
@[simp] def pE:FH:=⟨.f "rest_row" 3,"rest_row",top 3,["n","a","b"],[25],9,[],["row_of_terms"],[]⟩
noncomputable def pZ:B pE:=by walk_at "tr"
@[simp] def mh:FH:=⟨.f "shared_row" 4,"shared_row",top 4,["n","a","b","c"],[25],9,[],["row_of_terms"],[]⟩
noncomputable def mG:B mh:=by walk_at "tr"
@[simp] def pD:FH:=⟨.f "rule_row" 2,"rule_row",top 9,["n","rule","one"],[13,26,27],12,[],["all_names","rest_row","shared_row"],[]⟩
noncomputable def pY:B pD:=by walk_at "tr"
@[simp] def nO:FH:=⟨.f "rule_rows" 1,"rule_rows",top 10,["n"],[24,28],15,[],["rules","rule_row"],[]⟩
noncomputable def n9:B nO:=by walk_at "tr"
@[simp] def jA:FH:=⟨.k "Sheet" 3,"Sheet.__init__",ip 13 0,["self","width","lines"],[],3,[],[],[368168408,376168312,384168472]⟩
noncomputable def gK:B jA:=by walk_at "tr"
@[simp] def lJ:FH:=⟨.m "Sheet" "guard" 2,"Sheet.guard",ip 13 1,["self","quantity"],[],3,[],[],[]⟩
noncomputable def iW:B lJ:=by walk_at "tr"
@[simp] def jR:FH:=⟨.f "opening_sheet" 3,"opening_sheet",top 25,["n","givens","goal","lines","guarded","sheet","quantity"],[29,13,30,31],18,[],["rule_rows","all_names","Sheet","guard"],[1360096376,1360104177,1376144313,1384136409]⟩
noncomputable def ic:B jR:=by walk_at "tr"
@[simp] def i8:FH:=⟨.m "Sheet" "turn_line" 2,"Sheet.turn_line",ip 13 3,["self","place"],[],3,[],[],[]⟩
noncomputable def gq:B i8:=by walk_at "tr"
@[simp] def gR:FH:=⟨.m "Sheet" "loose_columns" 1,"Sheet.loose_columns",ip 13 5,["self"],[],3,[],[],[]⟩
noncomputable def eS:B gR:=by walk_at "tr"
@[simp] def gy:FH:=⟨.m "Sheet" "raising_column" 2,"Sheet.raising_column",ip 13 6,["self","place","line","found"],[34],6,[⟨81,30,81,63⟩],["loose_columns"],[]⟩
noncomputable def eI:B gy:=by walk_at "tr"
@[simp] def iR:FH:=⟨.m "Sheet" "is_tighter" 4,"Sheet.is_tighter",ip 13 8,["self","one","other","column","ahead","behind"],[],3,[],[],[]⟩
noncomputable def fP:B iR:=by walk_at "tr"
@[simp] def gx:FH:=⟨.m "Sheet" "tightest_place" 2,"Sheet.tightest_place",ip 13 9,["self","column","best","place","line"],[36],6,[],["is_tighter"],[]⟩
noncomputable def eG:B gx:=by walk_at "tr"
@[simp] def il:FH:=⟨.m "Sheet" "is_up_first" 4,"Sheet.is_up_first",ip 13 10,["self","place","tight","column","up"],[],3,[],[],[]⟩
noncomputable def fA:B il:=by walk_at "tr"
@[simp] def kG:FH:=⟨.f "changed_line" 5,"changed_line",top 12,["line","pivot_line","column","sign","below","pivot","factor","changed"],[],3,[],[],[312112808]⟩
noncomputable def eQ:B kG:=by walk_at "tr"
@[simp] def jy:FH:=⟨.m "Sheet" "exchange" 3,"Sheet.exchange",ip 13 4,["self","place","column","sign","pivot_line","below","freed"],[39],6,[],["changed_line"],[536168776,544224496]⟩
noncomputable def gH:B jy:=by walk_at "tr"
@[simp] def mB:FH:=⟨.m "Sheet" "lift" 2,"Sheet.lift",ip 13 11,["self","place","column","tight"],[35,37,38,40],9,[],["raising_column","tightest_place","is_up_first","exchange"],[]⟩
noncomputable def fO:B mB:=by walk_at "tr"
@[simp] def gQ:FH:=⟨.m "Sheet" "moving_column" 2,"Sheet.moving_column",ip 13 7,["self","place","line"],[34],6,[],["loose_columns"],[]⟩
noncomputable def eR:B gQ:=by walk_at "tr"
@[simp] def mz:FH:=⟨.m "Sheet" "nail" 2,"Sheet.nail",ip 13 2,["self","quantity"],[],3,[],[],[]⟩
noncomputable def jJ:B mz:=by walk_at "tr"
@[simp] def nR:FH:=⟨.f "keep_just" 2,"keep_just",top 26,["sheet","place","quantity","column"],[33,41,42,40,43],12,[],["turn_line","lift","moving_column","exchange","nail"],[]⟩
noncomputable def kg:B nR:=by walk_at "tr"
@[simp] def kF:FH:=⟨.f "keep_no_less" 2,"keep_no_less",top 27,["sheet","place","quantity"],[41,31],12,[],["lift","guard"],[]⟩
noncomputable def fY:B kF:=by walk_at "tr"
@[simp] def nQ:FH:=⟨.f "pair_rule" 3,"pair_rule",top 16,["one","other","known"],[],3,[],[],[]⟩
noncomputable def oa:B nQ:=by walk_at "tr"
@[simp] def jQ:FH:=⟨.f "rules_of_name" 3,"rules_of_name",top 17,["n","k","known","used","j"],[14,46],6,[],["names_in","pair_rule"],[1048088104,1056104350]⟩
noncomputable def j2:B jQ:=by walk_at "tr"
@[simp] def jP:FH:=⟨.f "rules_of_rest" 3,"rules_of_rest",top 18,["n","a","b","used","known","k"],[14,47],9,[],["names_in","rules_of_name"],[1104088104,1120104262]⟩
noncomputable def jZ:B jP:=by walk_at "tr"
@[simp] def nT:FH:=⟨.f "how_often" 2,"how_often",top 19,["n","used"],[24],12,[],["rules"],[]⟩
noncomputable def oe:B nT:=by walk_at "tr"
@[simp] def iY:FH:=⟨.f "weights_by_line" 3,"weights_by_line",top 28,["n","sheet","place","taken","column","quantity","weights","group","often","rule","count"],[13,48,49],15,[],["all_names","rules_of_rest","how_often"],[1584096440,1616032340,1632112288]⟩
noncomputable def gj:B iY:=by walk_at "tr"
@[simp] def jx:FH:=⟨.f "common_divisor" 1,"common_divisor",top 21,["numbers","divisor","number","other","left"],[],3,[],[],[]⟩
noncomputable def fq:B jx:=by walk_at "tr"
@[simp] def i6:FH:=⟨.f "in_lowest_terms" 1,"in_lowest_terms",top 22,["numbers","divisor"],[51],6,[],["common_divisor"],[]⟩
noncomputable def eK:B i6:=by walk_at "tr"
@[simp] def jz:FH:=⟨.m "Sheet" "drive_up" 2,"Sheet.drive_up",ip 13 12,["self","place","column","tight"],[35,37,40],9,[],["raising_column","tightest_place","exchange"],[]⟩
noncomputable def gJ:B jz:=by walk_at "tr"
@[simp] def i5:FH:=⟨.f "lowest_fraction" 2,"lowest_fraction",top 23,["top","bottom","numbers"],[52],9,[],["in_lowest_terms"],[]⟩
noncomputable def gk:B i5:=by walk_at "tr"
@[simp] def iQ:FH:=⟨.f "groups_in_column" 3,"groups_in_column",top 29,["n","sheet","column","found","place","quantity"],[13],6,[],["all_names"],[1696096240]⟩
noncomputable def fN:B iQ:=by walk_at "tr"
@[simp] def kE:FH:=⟨.f "lowest_table" 2,"lowest_table",top 24,["numbers","below","found"],[52],9,[],["in_lowest_terms"],[1336224361]⟩
noncomputable def iz:B kE:=by walk_at "tr"
@[simp] def jv:FH:=⟨.f "table_of_sheet" 2,"table_of_sheet",top 30,["n","sheet"],[55,56],12,[],["groups_in_column","lowest_table"],[1744192438]⟩
noncomputable def gF:B jv:=by walk_at "tr"
@[simp] def jw:FH:=⟨.f "least_of_sheet" 3,"least_of_sheet",top 32,["n","sheet","place","least","weights"],[54,50,52,57],18,[],["lowest_fraction","weights_by_line","in_lowest_terms","table_of_sheet"],[1808240502,1808240625,1816224422]⟩
noncomputable def gG:B jw:=by walk_at "tr"
@[simp] def nM:FH:=⟨.f "way_along" 3,"way_along",top 31,["n","sheet","column","way"],[55,52],9,[],["groups_in_column","in_lowest_terms"],[1760080358]⟩
noncomputable def iI:B nM:=by walk_at "tr"
@[simp] def ut:FH:=⟨.f "answer" 3,"answer",top 33,["n","givens","goal","sheet","last","place","given","kept","column"],[32,44,45,50,52,53,58,57,59],21,[],["opening_sheet","keep_just","keep_no_less","weights_by_line","in_lowest_terms","drive_up","least_of_sheet","table_of_sheet","way_along"],[1832096342,1856120310,1856504718,1872360622,1896120366,1904184382,1904392614]⟩
noncomputable def oJ:B ut:=by walk_at "tr"
@[simp] def wl:FH:=⟨.f "value" 2,"value",top 5,["row","table"],[],3,[],[],[]⟩
noncomputable def qK:B wl:=by walk_at "tr"
@[simp] def lH:FH:=⟨.f "table_along" 4,"table_along",top 36,["table","way","row","number","below","above","fall","steps"],[61,56],12,[],["value","lowest_table"],[]⟩
noncomputable def gz:B lH:=by walk_at "tr"
@[simp] def jS:FH:=⟨.f "follow_upward" 4,"follow_upward",top 37,["n","givens","row","number","found"],[60,62],24,[],["answer","table_along"],[]⟩
noncomputable def fD:B jS:=by walk_at "tr"
@[simp] def re:FH:=⟨.f "follows" 3,"follows",top 38,["n","givens","saying","papers","row","sign","number","told"],[22,63],27,[],["upward_sayings","follow_upward"],[2104104120]⟩
noncomputable def j3:B re:=by walk_at "tr"
@[simp] def Dz:FH:=⟨.f "law" 1,"law",top 69,["_law_script","_law_k","_law_cell","_law_n","_law_heap_here","_law_table_here","_law_more","_law_digits","_law_givens","_law_last","_law_row_here","_law_there","_law_saying_here","_law_told","_law_found"],[0,3,7,1,11,9,10,12,21,64,60],30,[],["_law_cell_at","_law_heap","_law_table","_law_draws","_law_given","_law_row","_law_value","_law_keeps","coin_table","follows","answer"],[]⟩
noncomputable def sM:B Dz:=by walk_at "tr"
def e_law:FE:=⟨Dz,sM⟩
def pre:List FE:=[⟨kI,iA⟩,⟨my,jI⟩,⟨nY,km⟩,⟨nX,ki⟩,⟨nW,oh⟩,⟨mr,jH⟩,⟨nV,kh⟩,⟨mq,jG⟩,⟨lI,gA⟩,⟨pH,jg⟩,⟨mo,jF⟩,⟨mw,ig⟩,⟨mv,ie⟩,⟨nU,og⟩,⟨pF,lv⟩,⟨pC,lu⟩,⟨qZ,rX⟩,⟨mj,jD⟩,⟨nK,ka⟩,⟨pG,lx⟩,⟨qY,mH⟩,⟨mn,jE⟩,⟨ju,gE⟩,⟨iP,iS⟩,⟨wm,wz⟩,⟨kD,kO⟩,⟨pE,pZ⟩,⟨mh,mG⟩,⟨pD,pY⟩,⟨nO,n9⟩,⟨jA,gK⟩,⟨lJ,iW⟩,⟨jR,ic⟩,⟨i8,gq⟩,⟨gR,eS⟩,⟨gy,eI⟩,⟨iR,fP⟩,⟨gx,eG⟩,⟨il,fA⟩,⟨kG,eQ⟩,⟨jy,gH⟩,⟨mB,fO⟩,⟨gQ,eR⟩,⟨mz,jJ⟩,⟨nR,kg⟩,⟨kF,fY⟩,⟨nQ,oa⟩,⟨jQ,j2⟩,⟨jP,jZ⟩,⟨nT,oe⟩,⟨iY,gj⟩,⟨jx,fq⟩,⟨i6,eK⟩,⟨jz,gJ⟩,⟨i5,gk⟩,⟨iQ,fN⟩,⟨kE,iz⟩,⟨jv,gF⟩,⟨jw,gG⟩,⟨nM,iI⟩,⟨ut,oJ⟩,⟨wl,qK⟩,⟨lH,gz⟩,⟨jS,fD⟩,⟨re,j3⟩]
theorem F8:pW gs cl [] pre=pre.map fun e=>À e.b:=by kernel_rfl
theorem F9:e_law.chk gs cl pre=À e_law.b:=by kernel_rfl
instance:Qc:=⟨[(117,⟨81,30,81,63⟩,("Sheet.raising_column":Í)++".<locals>."++"<lambda>")]⟩
def eZ:Fn:=run 2 (ae [] iA)
def aE:Fn:=run 7 (ae [] jI)
def dA:Fn:=run 1 (ae [] km)
def eJ:Fn:=run 11 (ae [aE,dA] ki)
def cE:Fn:=run 1 (ae [] oh)
def cQ:Fn:=run 4 (ae [cE] jH)
def c5:Fn:=run 4 (ae [] kh)
def fU:Fn:=run 1 (ae [cQ,c5] jG)
def cb:Fn:=run 5 (ae [] gA)
def d9:Fn:=run 12 (ae [aE,cb] jg)
def cD:Fn:=run 2 (ae [] jF)
def eY:Fn:=run 5 (ae [d9,cD] ig)
def eV:Fn:=run 2 (ae [cD] ie)
def ah:Fn:=run 1 (ae [] og)
def dz:Fn:=run 2 (ae [] lv)
def dy:Fn:=run 4 (ae [dz] lu)
def fe:Fn:=run 1 (ae [] rX)
def dD:Fn:=run 6 (ae [] jD)
def dN:Fn:=run 8 (ae [] ka)
def f7:Fn:=run 5 (ae [fe,dD,dN] lx)
def d8:Fn:=run 1 (ae [f7] mH)
def fR:Fn:=run 1 (ae [ah,dy,d8] jE)
def bE:Fn:=run 4 (ae [] gE)
def iV:Fn:=run 4 (ae [ah] iS)
def qP:Fn:=run 4 (ae [iV] wz)
def iD:Fn:=run 5 (ae [ah] kO)
def p8:Fn:=run 3 (ae [iD] pZ)
def mM:Fn:=run 4 (ae [iD] mG)
def p7:Fn:=run 3 (ae [ah,p8,mM] pY)
def aY:Fn:=run 1 (ae [qP,p7] n9)
def aL:Fn:=run 3 (ae [] gK)
def aW:Fn:=run 2 (ae [] iW)
def cw:Fn:=run 7 (ae [aY,ah,aL,aW] ic)
def dh:Fn:=run 2 (ae [] gq)
def cV:Fn:=run 1 (ae [] eS)
def aO:Fn:=run 4 (ae [cV] eI)
def cW:Fn:=run 6 (ae [] fP)
def aN:Fn:=run 5 (ae [cW] eG)
def bu:Fn:=run 5 (ae [] fA)
def ci:Fn:=run 8 (ae [] eQ)
def aR:Fn:=run 7 (ae [ci] gH)
def c8:Fn:=run 4 (ae [aO,aN,bu,aR] fO)
def cx:Fn:=run 3 (ae [cV] eR)
def fb:Fn:=run 2 (ae [] jJ)
def c4:Fn:=run 4 (ae [dh,c8,cx,aR,fb] kg)
def cg:Fn:=run 3 (ae [c8,aW] fY)
def om:Fn:=run 3 (ae [] oa)
def j4:Fn:=run 5 (ae [dz,om] j2)
def dG:Fn:=run 6 (ae [dz,j4] jZ)
def fx:Fn:=run 2 (ae [qP] oe)
def aU:Fn:=run 11 (ae [ah,dG,fx] gj)
def dk:Fn:=run 5 (ae [] fq)
def ak:Fn:=run 2 (ae [dk] eK)
def b8:Fn:=run 4 (ae [aO,aN,aR] gJ)
def dJ:Fn:=run 3 (ae [ak] gk)
def dE:Fn:=run 6 (ae [ah] fN)
def ce:Fn:=run 3 (ae [ak] iz)
def bt:Fn:=run 2 (ae [dE,ce] gF)
def bY:Fn:=run 5 (ae [dJ,aU,ak,bt] gG)
def cZ:Fn:=run 4 (ae [dE,ak] iI)
def fT:Fn:=run 9 (ae [cw,c4,cg,aU,ak,b8,bY,bt,cZ] oJ)
def iC:Fn:=run 2 (ae [] qK)
def fu:Fn:=run 8 (ae [iC,ce] gz)
def bK:Fn:=run 5 (ae [fT,fu] fD)
def fQ:Fn:=run 8 (ae [bE,bK] j3)
def p9:Fn:=run 15 (ae [eZ,eJ,fU,aE,eY,d9,cD,eV,fR,fQ,fT] sM)
def Fs:List Fn:=[eZ,aE,dA,eJ,cE,cQ,c5,fU,cb,d9,cD,eY,eV,ah,dz,dy,fe,dD,dN,f7,d8,fR,bE,iV,qP,iD,p8,mM,p7,aY,aL,aW,cw,dh,cV,aO,cW,aN,bu,ci,aR,c8,cx,fb,c4,cg,om,j4,dG,fx,aU,dk,ak,b8,dJ,dE,ce,bt,bY,cZ,fT,iC,fu,bK,fQ]
theorem LH:jU [] pre=Fs:=AD (by(repeat refine⟨rfl,?_⟩);trivial)
theorem Ll:e_law.fn (jU [] pre)=p9:=by rw[LH];rfl
def MK:Fn:=p9
end LW
namespace RK
noncomputable def af:List Nat->List Nat
 |[]=>[0]
 |r::rs=>af rs++(af rs).map (r ^^^ ·)
theorem oR:∀rs,0∈af rs:=by
 intro rs
 induction rs with
 |nil=>simp[af]
 |cons r rs a=>simp only[af,zZ];exact .inl a
theorem dY{r:Nat}:∀{rs:List Nat},r∈rs->r∈af rs:=by
 intro rs
 induction rs with
 |nil=>intro h;cases h
 |cons a rs b =>
  intro h;simp only[af,zZ,yE];rcases zT.mp h with rfl|h
  ·exact .inr ⟨0,oR rs,by simp⟩
  ·exact .inl (b h)
theorem dW:∀{rs:List Nat}{x y:Nat},x∈af rs->y∈af rs->x ^^^ y∈af rs:=by
 intro rs
 induction rs with
 |nil=>intro x y d c;simp only[af,zM]at d c;subst d;subst c;simp[af]
 |cons r rs f =>
  intro x y d c;simp only[af,zZ,yE]at d c ⊢;rcases d with d|⟨a,h,rfl⟩
  ·rcases c with c|⟨b,g,rfl⟩
   ·exact .inl (f d c)
   ·exact .inr ⟨x ^^^ b,f d g,by rw[<- Ú,<- Ú,ϱ r x]⟩
  ·rcases c with c|⟨b,g,rfl⟩
   ·exact .inr ⟨a ^^^ y,f h c,by rw[Ú]⟩
   ·refine .inl ?_
    have e:r ^^^ a ^^^ (r ^^^ b)=a ^^^ b:=by
     rw[ϱ r a,Ú,<- Ú r r b,ć,ϰ]
    rw[e];exact f h g
theorem dX{c d:List Nat}(h:∀r∈c,r∈af d):∀{x},x∈af c->x∈af d:=by
 induction c with
 |nil=>intro x b;simp only[af,zM]at b;subst b;exact oR d
 |cons r c f =>
  intro x b;simp only[af,zZ,yE]at b;rcases b with b|⟨a,g,rfl⟩
  ·exact f (fun q e=>h q (by simp[e])) b
  ·exact dW (h r (by simp)) (f (fun q e=>h q (by simp[e])) g)
def p0:List (Nat×Nat)->Prop
 |[]=>True
 |b::bs=>b.2.testBit b.1=Ã/\(∀c∈bs,c.2.testBit b.1=Ä)/\p0 bs
theorem ym{t:Nat}:∀{rs:List Nat}{x:Nat},(∀r∈rs,r.testBit t=Ä)->x∈af rs->x.testBit t=Ä:=by
 intro rs
 induction rs with
 |nil=>intro x _ b;simp only[af,zM]at b;subst b;simp
 |cons r rs d =>
  intro x h b;simp only[af,zZ,yE]at b;rcases b with b|⟨a,e,rfl⟩
  ·exact d (fun q c=>h q (by simp[c])) b
  ·rw[ê,h r (by simp),d (fun q c=>h q (by simp[c])) e];rfl
theorem Bp:∀{bs:List (Nat×Nat)}{x:Nat},p0 bs->x∈af (bs.map (·.2))->(∀b∈bs,x.testBit b.1=Ä)->x=0:=by
 intro bs
 induction bs with
 |nil=>intro x _ a _;simpa [af] using a
 |cons b bs g =>
  intro x i a e;obtain⟨n,m,l⟩:=i;simp only[zO,af,zZ,yE]at a;rcases a with a|⟨y,h,rfl⟩
  ·exact g l a fun c d=>e c (by simp[d])
  ·exfalso
   have f:=e b (by simp);have k:=ym (t:=b.1) (fun r j=>by obtain⟨c,d,rfl⟩:=yE.mp j;exact m c d) h;rw[ê,n,k]at f;cases f
theorem tF{bs:List (Nat×Nat)}(a:p0 bs){x z:Nat}(hs:x ^^^ z∈af (bs.map (·.2)))(hz:∀b∈bs,z.testBit b.1=Ä):z=0 ↔ x∈af (bs.map (·.2)):=by
 constructor
 ·intro h;subst h;simpa using hs
 ·intro h
  refine Bp a ?_ hz;have e:x ^^^ (x ^^^ z)=z:=by rw[<- Ú,ć,ϰ]
  rw[<- e];exact dW h hs
def gr(done:List Nat):List Nat->Nat
 |[]=>0
 |m::ms=>(if m∈af done then 0 else 1)+gr (m::done) ms
theorem mQ{r:Nat}(h:r≠0):r.testBit r.log2=Ã:=by
 rw[Ď,yD];have c:=Nat.log2_self_le h;have b:r<2^(r.log2+1):=V6;rw[ż]at b;have a:r/2^r.log2=1:=by
  apply Nat.div_eq_of_lt_le
  ·lia
  ·lia
 rw[a]
theorem AQ{n m i:Nat}(d:n.testBit i=Ä)(f:m.testBit i=Ã)(h:∀j,i<j->n.testBit j=m.testBit j):n<m:=by
 have e:n/2^(i+1)=m/2^(i+1):=by
  apply Q7;intro j;rw[B!,B!];exact h _ oM
 rw[Ď]at d f;have p:=of_decide_eq_false d;have c:=of_decide_eq_true f;have l:=V0 (x:=n) (b:=2) (k:=i);have o:=V0 (x:=m) (b:=2) (k:=i);have a:n/2^i%2=0:=by lia
 rw [a,Nat.mul_zero] at l;rw [c,Nat.mul_one] at o;have q:=ŉ n (show 0 < 2 ^ i from Nat.pow_pos dC);have g:=œ n (2 ^ (i + 1));have m3:=œ m (2 ^ (i + 1));rw [e] at g;lia
theorem Fx{m r:Nat}(h:r≠0):(min m (m ^^^ r)).testBit r.log2=Ä:=by
 have d:=mQ h;have e:∀j,r.log2<j->r.testBit j=Ä:=fun j c=>Nat.testBit_lt_two_pow (zJ (V6) (Ý dC c))
 cases b:m.testBit r.log2
 ·have a:m<m ^^^ r:=AQ (i:=r.log2) b (by rw[ê,b,d];rfl) fun j c=>by rw[ê,e j c];simp
  rw[ð (y0 a)];exact b
 ·have a:m ^^^ r<m:=AQ (i:=r.log2) (by rw[ê,b,d];rfl) b fun j c=>by rw[ê,e j c];simp
  rw[c? (y0 a),ê,b,d];rfl
theorem Ci{m r t:Nat}(a:m.testBit t=Ä)(b:r.testBit t=Ä):(min m (m ^^^ r)).testBit t=Ä:=by
 rcases ϳ m (m ^^^ r) with h|h
 ·rw[ð h];exact a
 ·rw[c? h,ê,a,b];rfl
noncomputable def bo(rows:List Nat)(x:Nat):Nat:=rows.foldl (fun m r=>min m (m ^^^ r)) x
noncomputable def vP(rows:List Nat):List (Nat×Nat):=rows.map fun r=>(r.log2,r)
theorem vO(rows:List Nat):(vP rows).map (·.2)=rows:=by
 unfold vP;rw[Ù];exact Y6 rows
theorem BK:∀(rows:List Nat)(x:Nat),x ^^^ bo rows x∈af rows:=by
 intro rows
 induction rows with
 |nil=>intro x;simp[bo,af]
 |cons r rows b =>
  intro x;have h:=b (min x (x ^^^ r));simp only[bo,Õ]at h ⊢;simp only[af,zZ,yE];rcases ϳ x (x ^^^ r) with a|a
  ·rw[ð a]at h ⊢;exact .inl h
  ·rw[c? a]at h ⊢
   refine .inr ⟨_,h,?_⟩;rw[<- Ú,<- Ú,ϱ r x,Ú x r r,ć,Ń]
theorem BL{t:Nat}:∀(rows:List Nat)(x:Nat),x.testBit t=Ä->(∀r∈rows,r.testBit t=Ä)->(bo rows x).testBit t=Ä:=by
 intro rows
 induction rows with
 |nil=>intro x h _;exact h
 |cons r rows b =>
  intro x h a;simp only[bo,Õ];exact b _ (Ci h (a r (by simp))) fun q c=>a q (by simp[c])
theorem BM:∀(rows:List Nat)(x:Nat),p0 (vP rows)->(∀r∈rows,r≠0)->∀b∈vP rows,(bo rows x).testBit b.1=Ä:=by
 intro rows
 induction rows with
 |nil=>intro x _ _ b a;cases a
 |cons r rows e =>
  intro x f d b a;obtain⟨i,h,g⟩:=f;simp only[bo,Õ];rcases zT.mp a with rfl|a
  ·exact BL rows _ (Fx (d r (by simp))) fun q c=>h (q.log2,q) (yE.mpr ⟨q,c,rfl⟩)
  ·exact e _ g (fun q c=>d q (by simp[c])) b a
theorem Bq{b:Nat×Nat}:∀{bs:List (Nat×Nat)},p0 bs->b.2.testBit b.1=Ã->(∀c∈bs,b.2.testBit c.1=Ä)->p0 (bs++[b]):=by
 intro bs
 induction bs with
 |nil=>intro _ a _;exact⟨a,(fun c k=>by cases k),trivial⟩
 |cons c bs i =>
  intro j a e;obtain⟨h,g,f⟩:=j;refine⟨h,?_,i f a fun d hd=>e d (by simp[hd])⟩;intro d hd;have hd:d∈bs++[b]:=hd;rw[zZ,zM]at hd;rcases hd with hd|rfl
  ·exact g d hd
  ·exact e c (by simp)
def db(rows:List Nat)(m:Nat):List Nat:=if bo rows m > 0 then rows++[bo rows m] else rows
theorem oS{b a:List Nat}(d:∀r∈b,r∈af a)(c:∀s∈a,s∈af b)(x:Nat):x∈af b ↔ x∈af a:=⟨dX d,dX c⟩
theorem IU:∀(ms done rows:List Nat),p0 (vP rows)->(∀r∈rows,r≠0)->(∀r∈rows,r∈af done)->(∀d∈done,d∈af rows)->(ms.foldl db rows).length=rows.length+gr done ms:=by
 intro ms
 induction ms with
 |nil=>intro done rows _ _ _ _;simp[gr]
 |cons m ms q =>
  intro done rows k o s n;rw[Õ];have f:=BK rows m;have hz:=BM rows m k o;have i:bo rows m=0 ↔ m∈af rows:=by
   have:=tF k (x:=m) (z:=bo rows m) (by rw[vO];exact f) hz
   rw[vO]at this;exact this
  have a:=oS s n;have hd:∀r∈rows,r∈af (m::done):=fun r c=>by simp only[af,zZ];exact .inl (s r c)
  by_cases j:m∈af done
  ·have l:=i.mpr ((a m).mpr j)
   have p:db rows m=rows:=by unfold db;rw[l];rfl
   rw[p,q (m::done) rows k o hd (fun d b=>by
    rcases zT.mp b with rfl|b
    ·exact(a _).mpr j
    ·exact n d b)]
   simp only[gr,j,if_true];lia
  ·have l:bo rows m≠0:=fun h=>j ((a m).mp (i.mp h))
   have p:db rows m=rows++[bo rows m]:=by unfold db;rw[yJ oM]
   have t:m=(m ^^^ bo rows m) ^^^ bo rows m:=by rw[Ú,ć,Ń]
   have g:∀r∈rows,r∈af (rows++[bo rows m]):=fun r c=>dY (by simp[c])
   rw[p,q (m::done) _ (by
    unfold vP;rw[ï];exact Bq k (mQ l) hz) (fun r c=>by
     rw[zZ,zM]at c;rcases c with c|rfl
     ·exact o r c
     ·exact l) (fun r c=>by
     rw[zZ,zM]at c;rcases c with c|rfl
     ·exact hd r c
     ·have a1:m ^^^ bo rows m∈af (m::done):=dX hd f
      have a2:m∈af (m::done):=dY (by simp);have e:m ^^^ (m ^^^ bo rows m)=bo rows m:=by rw[<- Ú,ć,ϰ]
      rw[<- e];exact dW a2 a1) (fun d b=>by
     rcases zT.mp b with rfl|b
     ·have a1:=dX g f
      have a2:bo rows d∈af (rows++[bo rows d]):=dY (by simp);have u:=dW a1 a2
      rwa [Ú,ć,Ń]at u
     ·exact dX g (n d b))]
   simp only[gr,j,if_false,zV,ϊ];lia
theorem oB(ms:List Nat):(ms.foldl db []).length=gr [] ms:=by
 have:=IU ms [] [] trivial (fun r a=>by cases a) (fun r a=>by cases a) (fun d hd=>by cases hd)
 simpa using this
noncomputable def d4(ls:List (Nat×Nat))(x:Nat):Nat:=ls.foldl (fun m l=>if m.testBit l.1=Ã then m ^^^ l.2 else m) x
def Rd(ls:List (Nat×Nat)):Prop:=(∀l∈ls,l.2.testBit l.1=Ã)/\ls.Pairwise fun a b=>a.2.testBit b.1=Ä/\b.2.testBit a.1=Ä
theorem Rd.tri:∀{ls:List (Nat×Nat)},Rd ls->p0 ls:=by
 intro ls
 induction ls with
 |nil=>intro _;trivial
 |cons l ls e =>
  intro h;obtain⟨d,b⟩:=h;rw[List.pairwise_cons]at b;exact⟨d l (by simp),fun c a=>(b.1 c a).2,e ⟨fun c a=>d c (by simp[a]),b.2⟩⟩
theorem FA:∀(ls:List (Nat×Nat))(x:Nat),x ^^^ d4 ls x∈af (ls.map (·.2)):=by
 intro ls
 induction ls with
 |nil=>intro x;simp[d4,af]
 |cons l ls a =>
  intro x;simp only[d4,Õ,zO,af,zZ,yE];by_cases h:x.testBit l.1=Ã
  ·rw[yJ h]
   refine .inr ⟨_,a (x ^^^ l.2),?_⟩;simp only[d4];rw[<- Ú,<- Ú,ϱ l.2 x,Ú x l.2 l.2,ć,Ń]
  ·rw[yI h];exact .inl (a x)
theorem FC{t:Nat}:∀(ls:List (Nat×Nat))(x:Nat),x.testBit t=Ä->(∀l∈ls,l.2.testBit t=Ä)->(d4 ls x).testBit t=Ä:=by
 intro ls
 induction ls with
 |nil=>intro x h _;exact h
 |cons l ls b =>
  intro x h a;simp only[d4,Õ];refine b _ ?_ fun q c=>a q (by simp[c])
  split
  ·rw[ê,h,a l (by simp)];rfl
  ·exact h
theorem FF:∀(ls:List (Nat×Nat))(x:Nat),p0 ls->∀b∈ls,(d4 ls x).testBit b.1=Ä:=by
 intro ls
 induction ls with
 |nil=>intro x _ b a;cases a
 |cons l ls c =>
  intro x d b a;obtain⟨i,g,f⟩:=d;simp only[d4,Õ];rcases zT.mp a with rfl|a
  ·refine FC ls _ ?_ fun q e=>g q e
   split
   ·rename_i h;rw[ê,h,i];rfl
   ·rename_i h;simpa using h
  ·exact c _ f b a
noncomputable def ja(m:Nat)(l:Nat×Nat):Nat×Nat:=if l.2.testBit m.log2=Ã then(l.1,l.2 ^^^ m) else l
theorem xE(m:Nat)(l:Nat×Nat):(ja m l).1=l.1:=by unfold ja;split<;>rfl
theorem qJ{m:Nat}{l:Nat×Nat}{t:Nat}(h:m.testBit t=Ä):(ja m l).2.testBit t=l.2.testBit t:=by
 unfold ja;split
 ·rw[ê,h];simp
 ·rfl
theorem Ga{m:Nat}{l:Nat×Nat}(h:m≠0):(ja m l).2.testBit m.log2=Ä:=by
 unfold ja;split
 ·rename_i a;rw[ê,a,mQ h];rfl
 ·rename_i a;simpa using a
def fg(ls:List (Nat×Nat))(m:Nat):List (Nat×Nat):=ls.map (ja m)++[(m.log2,m)]
theorem Ee{ls:List (Nat×Nat)}{m:Nat}(h:Rd ls)(i:m≠0)(f:∀l∈ls,m.testBit l.1=Ä):Rd (fg ls m):=by
 obtain⟨p,o⟩:=h;constructor
 ·intro l d
  unfold fg at d;rw[zZ,zM]at d;rcases d with d|rfl
  ·obtain⟨k,e,rfl⟩:=yE.mp d
   rw[xE,qJ (f k e)];exact p k e
  ·exact mQ i
 ·unfold fg
  rw[O!];refine⟨?_,A! _ _,?_⟩
  ·rw[List.pairwise_map]
   refine(Z9.mp o).imp ?_;rintro a b ⟨g,c,n,j⟩;rw[xE,xE,qJ (f b c),qJ (f a g)];exact⟨n,j⟩
  ·intro a g b c
   rw[zM]at c;subst c;obtain⟨k,e,rfl⟩:=yE.mp g;refine⟨Ga i,?_⟩;rw[xE];exact f k e
def g7(ls:List (Nat×Nat))(m:Nat):List (Nat×Nat):=if d4 ls m≠0 then fg ls (d4 ls m) else ls
theorem sS(ls:List (Nat×Nat))(m:Nat):m∈af ((fg ls m).map (·.2)):=dY (by unfold fg;simp)
theorem sR(ls:List (Nat×Nat))(m:Nat):∀r∈ls.map (·.2),r∈af ((fg ls m).map (·.2)):=by
 intro r b;obtain⟨l,c,rfl⟩:=yE.mp b;have a:(ja m l).2∈af ((fg ls m).map (·.2)):=dY (yE.mpr ⟨ja m l,by unfold fg;simp only[zZ,yE];exact .inl ⟨l,c,rfl⟩,rfl⟩);by_cases h:l.2.testBit m.log2=Ã
 ·have e:(ja m l).2=l.2 ^^^ m:=by unfold ja;rw[yJ h]
  rw[e]at a;have d:=dW a (sS ls m)
  rwa [Ú,ć,Ń]at d
 ·have e:(ja m l).2=l.2:=by unfold ja;rw[yI h]
  rw[e]at a;exact a
theorem Eg{ls:List (Nat×Nat)}{m:Nat}{c:List Nat}(g:∀r∈ls.map (·.2),r∈af c)(d:m∈af c):∀r∈(fg ls m).map (·.2),r∈af c:=by
 intro r e;obtain⟨l,a,rfl⟩:=yE.mp e;unfold fg at a;rw[zZ,zM]at a;rcases a with a|rfl
 ·obtain⟨k,f,rfl⟩:=yE.mp a
  have b:=g k.2 (yE.mpr ⟨k,f,rfl⟩);unfold ja;split
  ·exact dW b d
  ·exact b
 ·exact d
theorem Lh:∀(ms done:List Nat)(ls:List (Nat×Nat)),Rd ls->(∀r∈ls.map (·.2),r∈af done)->(∀d∈done,d∈af (ls.map (·.2)))->(ms.foldl g7 ls).length=ls.length+gr done ms:=by
 intro ms
 induction ms with
 |nil=>intro done ls _ _ _;simp[gr]
 |cons m ms n =>
  intro done ls e o j;rw[Õ];have c:=FA ls m;have hz:=FF ls m e.tri;have f:=tF e.tri (x:=m) (z:=d4 ls m) c hz;have a:=oS o j;have hd:∀r∈ls.map (·.2),r∈af (m::done):=fun r e=>by simp only[af,zZ];exact .inl (o r e)
  by_cases g:m∈af done
  ·have i:=f.mpr ((a m).mpr g)
   have k:g7 ls m=ls:=by unfold g7;rw[i];rfl
   rw[k,n (m::done) ls e hd (fun d b=>by
    rcases zT.mp b with rfl|b
    ·exact(a _).mpr g
    ·exact j d b)]
   simp only[gr,g,if_true];lia
  ·have i:d4 ls m≠0:=fun h=>g ((a m).mp (f.mp h))
   have k:g7 ls m=fg ls (d4 ls m):=by unfold g7;rw[yJ i]
   rw[k,n (m::done) _ (Ee e i hz) (Eg hd (by
     have a1:=dX hd c;have a2:m∈af (m::done):=dY (by simp);have l:=dW a2 a1
     rwa [<- Ú,ć,ϰ]at l)) (fun d b=>by
     rcases zT.mp b with rfl|b
     ·have a1:=dX (sR ls (d4 ls d)) c
      have l:=dW a1 (sS ls (d4 ls d))
      rwa [Ú,ć,Ń]at l
     ·exact dX (sR ls _) (j d b))]
   simp only[gr,g,if_false,fg,zV,zH,ϊ];lia
theorem yu(ms:List Nat):(ms.foldl g7 []).length=(ms.foldl db []).length:=by
 rw[oB]
 have:=Lh ms [] [] ⟨(fun l b=>by cases b),Ŏ⟩ (fun r a=>by cases a) (fun d hd=>by cases hd)
 simpa using this
theorem uu:∀(ms:List Nat){d e:List Nat},(∀x,x∈af d ↔ x∈af e)->gr d ms=gr e ms:=by
 intro ms
 induction ms with
 |nil=>intro d e _;rfl
 |cons m ms a =>
  intro d e h;have b:∀x,x∈af (m::d) ↔ x∈af (m::e):=fun x=>by
   simp only[af,zZ,yE,h]
  simp only[gr,a b,h m]
theorem FX:∀(ms:List Nat){d e:List Nat},(∀x,x∈af d->x∈af e)->gr e ms<=gr d ms:=by
 intro ms
 induction ms with
 |nil=>intro d e _;exact zP _
 |cons m ms f =>
  intro d e h;have i:∀x,x∈af (m::d)->x∈af (m::e):=fun x b=>by
   simp only[af,zZ,yE]at b ⊢;rcases b with b|⟨a,g,rfl⟩
   ·exact .inl (h x b)
   ·exact .inr ⟨a,h a g,rfl⟩
  have:=f i
  simp only[gr];by_cases c:m∈af d
  ·rw[yJ c,yJ (h m c)];lia
  ·rw[yI c];split<;>lia
theorem Jl:∀(as bs d:List Nat),gr d (as++bs)=gr d as+gr (as.reverse++d) bs:=by
 intro as
 induction as with
 |nil=>intro bs d;simp[gr]
 |cons a as b =>
  intro bs d;simp only[ė,gr,b,List.reverse_cons,yO,Ĥ];lia
theorem iK{b a:List Nat}(h:∀r∈b,r∈a){x:Nat}(c:x∈af b):x∈af a:=dX (fun r d=>dY (h r d)) c
def rk(ms:List Nat):Nat:=gr [] ms
theorem oX(b bs:List Nat):rk (b++bs)=rk b+gr b bs:=by
 unfold rk;rw[Jl];congr 1;refine uu bs fun x=>⟨fun h=>iK (fun r a=>by simpa using a) h,fun h=>iK (fun r a=>by simpa using a) h⟩
theorem FV(d:List Nat)(a b:Nat)(ms:List Nat):gr d (a::b::ms)=gr d (b::a::ms):=by
 have n:gr (b::a::d) ms=gr (a::b::d) ms:=uu ms fun x=>⟨fun h=>iK (fun r f=>by simp at f ⊢;rcases f with h|h|h<;>simp[h]) h,fun h=>iK (fun r f=>by simp at f ⊢;rcases f with h|h|h<;>simp[h]) h⟩
 have m:∀p q:Nat,p∉af d->q∉af d->q∈af (p::d)->p∈af (q::d):=by
  intro p q k g h;simp only[af,zZ,yE]at h ⊢;rcases h with h|⟨s,i,rfl⟩
  ·exact absurd h g
  ·exact .inr ⟨s,i,by rw[Ú,ć,Ń]⟩
 have j:∀p q:Nat,q∈af d->q∈af (p::d):=fun p q h=>by simp only[af,zZ];exact .inl h
 have l:∀p q:Nat,p∈af d->q∉af d->q∉af (p::d):=by
  intro p q k g h;simp only[af,zZ,yE]at h;rcases h with h|⟨s,i,rfl⟩
  ·exact g h
  ·exact g (dW k i)
 simp only[gr,n];by_cases e:a∈af d<;>by_cases c:b∈af d
 ·simp[e,c,j]
 ·simp[e,c,j,l a b e c]
 ·simp[e,c,j,l b a c e]
 ·by_cases h:b∈af (a::d)
  ·simp[e,c,h,m a b e c h]
  ·have:a∉af (b::d):=fun o=>h (m b a c e o)
   simp[e,c,h,this]
theorem FW{a bs:List Nat}(p:a.Perm bs):∀d,gr d a=gr d bs:=by
 induction p with
 |nil=>intro d;rfl
 |cons x _ b=>intro d;simp only[gr,b]
 |swap x y l=>intro d;exact FV d y x l
 |trans _ _ h1 h2=>intro d;rw[h1,h2]
theorem EE{a bs:List Nat}(p:a.Perm bs):rk a=rk bs:=FW p []
theorem LA:∀(ms d:List Nat),(∀m∈ms,m∈af d)->gr d ms=0:=by
 intro ms
 induction ms with
 |nil=>intro d _;rfl
 |cons m ms a =>
  intro d h;simp only[gr,h m (by simp),if_true];rw[a (m::d) fun x b=>by simp only[af,zZ];exact .inl (h x (by simp[b]))]
theorem G3{a bs:List Nat}(h:∀b∈bs,b∈af a):rk (a++bs)=rk a:=by rw[oX,LA bs a h];rfl
theorem Di{a bs:List Nat}(h:∀b∈bs,b∈af a):rk bs<=rk a:=by
 have d:=G3 h;have c:=EE (List.perm_append_comm (l₁:=a) (l₂:=bs));rw[oX bs a]at c;lia
theorem ED{c bs:List Nat}(h:∀b∈bs,b∈af c)(h':∀a∈c,a∈af bs):rk c=rk bs:=ſ (Di h') (Di h)
theorem G2(z a bs:List Nat):rk (z++a++bs)+rk z<=rk (z++a)+rk (z++bs):=by
 have f:=oX (z++a) bs;have e:=oX z bs;have d:gr (z++a) bs<=gr z bs:=FX bs fun x b=>iK (fun r c=>by simp[c]) b
 lia
open PySem
theorem Cd:∀a b:Nat,(a &&& b)+(a ^^^ b)=a ||| b:=by
 intro a
 induction a using W2 with
 |ind a ih =>
  intro b;rcases U! a with rfl|h
  ·simp
  ·have c:=ih (a/2) oM (b/2)
   rw[<- Nat.and_div_two,<- Nat.xor_div_two,<- Nat.or_div_two]at c;have d:(a &&& b)%2+(a ^^^ b)%2=(a ||| b)%2:=by
    rw[Nat.and_mod_two_pow (n:=1) (a:=a) (b:=b) |> fun h=>h,Nat.xor_mod_two_pow (n:=1) (a:=a) (b:=b),Nat.or_mod_two_pow (n:=1) (a:=a) (b:=b)];rcases q? a with e|e<;>rcases q? b with f|f<;>rw[show(2:Nat)^1=2 from rfl,e,f]<;>rfl
   have j:=œ (a &&& b) 2;have i:=œ (a ^^^ b) 2;have g:=œ (a ||| b) 2;lia
theorem CT(a b:Nat):Ł (a:Int) (b:Int)=((a &&& b:Nat):Int):=by
 unfold Ł;simp
theorem Gc(a b:Nat):n! (a:Int) (b:Int)=((a ||| b:Nat):Int):=by
 unfold n! Ł d?;rw[show decide ((0:Int)<=-(a:Int)-1)=Ä from yB oM,show decide ((0:Int)<=-(b:Int)-1)=Ä from yB oM];dsimp only;rw[show(-(-(a:Int)-1)-1).toNat=a by lia,show(-(-(b:Int)-1)-1).toNat=b by lia];lia
theorem CP(a b:Nat):Ž (a:Int) (b:Int)=((a ^^^ b:Nat):Int):=by
 have h:=Cd a b;unfold Ž;rw[Gc,CT];lia
theorem CQ{m:Nat}(h:m≠0):((þ (m:Int):Nat):Int)-1=((m.log2:Nat):Int):=by
 unfold þ;have:((m:Int)==0)=Ä:=by rw[beq_eq_false_iff_ne];lia
 rw[this];simp only[yC,if_false,Ģ];lia
abbrev L3:=Nat×Nat×Nat
def dL(ls:List L3)(x:Nat×Nat):Nat×Nat:=ls.foldl (fun p l=>if p.1.testBit l.1=Ã then(p.1 ^^^ l.2.1,p.2 ^^^ l.2.2) else p) x
def nB(l:L3):Nat×Nat:=(l.1,l.2.1)
theorem Co:∀(ls:List L3)(x:Nat×Nat),(dL ls x).1=d4 (ls.map nB) x.1:=by
 intro ls
 induction ls with
 |nil=>intro x;rfl
 |cons l ls a =>
  intro x;simp only[dL,d4,Õ,zO,nB]at a ⊢;by_cases h:x.1.testBit l.1=Ã
  ·rw[yJ h,yJ h];exact a _
  ·rw[yI h,yI h];exact a _
def fy(m q:Nat)(l:L3):L3:=if l.2.1.testBit m.log2=Ã then(l.1,l.2.1 ^^^ m,l.2.2 ^^^ q) else l
def fC(ls:List L3)(m q:Nat):List L3:=ls.map (fy m q)++[(m.log2,m,q)]
theorem Bf(ls:List L3)(m q:Nat):(fC ls m q).map nB=fg (ls.map nB) m:=by
 unfold fC fg;rw[ï,Ù,Ù];congr 1;apply ķ;intro l _;by_cases h:l.2.1.testBit m.log2=Ã
 ·simp[i!,fy,ja,nB,h]
 ·simp[i!,fy,ja,nB,h]
def fi(ls:List L3)(m q:Nat):List L3:=if(dL ls (m,q)).1≠0 then fC ls (dL ls (m,q)).1 (dL ls (m,q)).2 else ls
theorem BA(ls:List L3)(m q:Nat):(fi ls m q).map nB=g7 (ls.map nB) m:=by
 unfold fi g7;rw[Co];split
 ·rw[Bf]
 ·rfl
def dB:List L3->Nat->List Nat->List L3
 |ls,_,[]=>ls
 |ls,n,m::ms=>dB (fi ls m (2^n)) (n+1) ms
theorem Ai:∀(ms:List Nat)(ls:List L3)(n:Nat),(dB ls n ms).map nB=ms.foldl g7 (ls.map nB):=by
 intro ms
 induction ms with
 |nil=>intro ls n;rfl
 |cons m ms a=>intro ls n;simp only[dB,a,BA,Õ]
theorem xq(ms:List Nat):(dB [] 0 ms).length=rk ms:=by
 have h:=congrArg ŀ (Ai ms [] 0);rw[zH,Ŗ,yu,oB]at h;exact h
def Bd(B:Nat)(ls:List L3):Prop:=∀l∈ls,l.2.1<2^B
theorem vY{B:Nat}:∀{ls:List L3},Bd B ls->∀{x:Nat×Nat},x.1<2^B->(dL ls x).1<2^B:=by
 intro ls
 induction ls with
 |nil=>intro _ x h;exact h
 |cons l ls b =>
  intro a x h;simp only[dL,Õ];refine b (fun k c=>a k (by simp[c])) ?_;split
  ·exact T9 h (a l (by simp))
  ·exact h
theorem Bg{B:Nat}{ls:List L3}(h:Bd B ls){m q:Nat}(b:m<2^B):Bd B (fC ls m q):=by
 intro l a;unfold fC at a;rw[zZ,zM]at a;rcases a with a|rfl
 ·obtain⟨k,c,rfl⟩:=yE.mp a
  unfold fy;split
  ·exact T9 (h k c) b
  ·exact h k c
 ·exact b
theorem BB{B:Nat}{ls:List L3}(h:Bd B ls){m q:Nat}(a:m<2^B):Bd B (fi ls m q):=by
 unfold fi;split
 ·exact Bg h (vY h a)
 ·exact h
theorem yk(ls:List L3)(m q:Nat):(fi ls m q).length<=ls.length+1:=by
 unfold fi fC;split<;>simp
end RK
namespace LW
open PySem PySem.Spec L2 R
open SX (Sh Ql)
def Bd(w m:Nat)(S:Sh):Prop:=S.d.natAbs<2^9000/\∀i,i<m->∀j,j<w+1->(S.t i j).natAbs<2^9000
section
variable{st:aa}{k a b c g n u w m:Nat}{rows:List AV}{S:Sh}
theorem Lv(R:Rep st k a b c g n u rows S)(P:Ql w m S)(B:Bd w m S){i r q:Nat}(e:i<m)(d:r<m)(l:q<w) :
  cW [.ref k,.int i,.int r,.int q] st=À (.bl (decide (S.t i w*- S.t r q<S.t r w*- S.t i q)||(decide (S.t i w*- S.t r q=S.t r w*- S.t i q)&&decide (S.s i<S.s r))),st):=by
 have f:c7 (S.t i w) (- S.t r q)=Ã:=c6 (B.2 i e w oM) (by rw [ä];exact B.2 r d q oM);have m2:c7 (S.t r w) (- S.t i q)=Ã:=c6 (B.2 r d w oM) (by rw [ä];exact B.2 i e q oM);simp [cW,ay,fP,R.ins,R.line P e,R.line P d,R.last P e,R.last P d,R.cell P e (show q < w + 1 by lia),R.cell P d (show q < w + 1 by lia),bW f,bW m2,R.side P e,R.side P d];by_cases j:S.t i w * -S.t r q < S.t r w * -S.t i q <;> by_cases h:S.t i w * -S.t r q=S.t r w * -S.t i q <;> simp [j,h]
theorem C8(R:Rep st k a b c g n u rows S)(P:Ql w m S)(B:Bd w m S){i r q:Nat}(e:i<m)(d:r<m)(h:q<w) :
  bu [.ref k,.int i,.int r,.int q] st=À (.bl (decide (S.t i w*S.t r q<=S.t r w*S.t i q)),st):=by
 have f:c7 (S.t i w) (S.t r q)=Ã:=c6 (B.2 i e w oM) (B.2 r d q oM);have m2:c7 (S.t r w) (S.t i q)=Ã:=c6 (B.2 r d w oM) (B.2 i e q oM);simp [bu,ay,fA,R.ins,R.line P e,R.line P d,R.last P e,R.last P d,R.cell P e (show q < w + 1 by lia),R.cell P d (show q < w + 1 by lia),bW f,bW m2]
theorem v6(R:Rep st k a b c g n u rows S)(P:Ql w m S)(f:w<=100):cV [.ref k] st=À (.fz (nL (cB S)),st):=by
 have e:nL (cB S)=(S.hd.zipIdx.filter fun z=>!decide (z.1∈S.nl)).map fun z=>(AV.int ((z.2:Nat):Int)):=by unfold nL cB;rw[Ù];rfl
 have d:=fG (l:=cB S);rw [e] at d ⊢;simp [cV,ay,eS,R.ins,kB R.hb,LP,cR (show S.hd.length <= 1000 by rw [P.hd];lia)];rw [iq (B:=fun z=>!decide (z.1 ∈ S.nl)) (F:=fun z=>.int ((z.2:Nat):Int)) (fW R.hb) fun z _=>⟨_,rfl,by simp [R.ins,R.nin],fun _=>rfl⟩];simp [d]
theorem tI(R:Rep st k a b c g n u rows S)(P:Ql w m S)(y:w<=100){p:Nat}(r:p<m):∃o,aO [.ref k,.int p] st=À (oN o,st)/\SX.Rais w S p o:=by
 have x:(cB S).length<=1000:=by
  unfold cB;rw[zH]
  have:=Ņ (fun z:Nat×Nat=>!decide (z.1∈S.nl)) S.hd.zipIdx
  rw[Ϡ,P.hd]at this;lia
 obtain⟨o,C,G,E⟩:=JU (l:=(cB S).filter fun j=>decide (0<S.t p j)) (key:=S.h);have inl:∀j,j∈(cB S).filter (fun j=>decide (0<S.t p j)) ↔ (j<w/\S.h j∉S.nl)/\0<S.t p j:=fun j=>by rw[ú,jO P];simp
 refine⟨o,?_,fun e j d i h=>?_,fun q e=>?_⟩
 ·simp[aO,ay,eI,R.ins,R.line P r,v6 R P y,nL,cR x]
  rw [iq (B:=fun j=>decide (0 < S.t p j)) (F:=fun j:Nat=>.int (j:Int)) iu fun j d=>⟨_,rfl,by simp [R.cell P r (show j < w + 1 by have:=(jO P).mp d;lia)],fun _=>rfl⟩];have D:rfs (((cB S).filter fun j=>decide (0 < S.t p j)).map fun j:Nat=>(AV.int (j:Int)))=Ã:=fG;have t:=qz (l:=(cB S).filter fun j=>decide (0 < S.t p j));unfold nL at t;simp [D,sN,lsI,t];rw [IE (f:=S.h) fun q A=>by simp [R.ins,R.head P ((inl q).mp A).1.1]];simp [C]
 ·have:=G e
  have s:=(inl j).mpr ⟨⟨d,i⟩,h⟩;rw[this]at s;cases s
 ·obtain⟨v,m2⟩:=E q e
  have:=(inl q).mp v
  exact⟨this.1.1,this.1.2,this.2,fun j d i h=>m2 j ((inl j).mpr ⟨⟨d,i⟩,h⟩)⟩
theorem vH(R:Rep st k a b c g n u rows S)(P:Ql w m S)(B:Bd w m S){q:Nat}(z:q<w):∃o,aN [.ref k,.int q] st=À (oN o,st)/\SX.Qh S w q m o:=by
 have rl:rows.length=m:=by rw[R.len,P.ls]
 obtain⟨t,p,e,rfl,o,x,y,rfl,T⟩:=fX (gd:=[(a,.lst rows)]) (g:=cP [cW] (.tu 2 (.cons (.nm 3) (.cons (.nm 4) .nil)))) (s:=ae [cW] (.cons (.iff (.an (.cmp .Lt (.ix (.v 4) (.v 1)) (.i 0)) (.cmp .In (.ix (.fd "Sheet" "sides" (.v 0)) (.v 3)) (.fd "Sheet" "guarded" (.v 0))))
   (.cons (.iff (.or (.cmp .Is (.v 2) .n) (.va (.me "Sheet" "is_tighter" 0 (.v 0) (.cons (.v 3) (.cons (.v 2) (.cons (.v 1) .nil)))))) (.cons (.as (.v 3) (.nm 2)) .nil) .nil) .nil) .nil) .nil))
  (I:=fun i sl s=>s=st/\∃o x y,sl=[Rs k,Is q,À (oN o),x,y]/\SX.Qh S w q i o) (xs:=fL 0 rows) (fun i sl s _ j=>by rw[j.1];exact fW R.ha)
  (fun i y sl s v j=>by
   obtain⟨rfl,o,C,A,rfl,T⟩:=j;obtain⟨x,l,rfl⟩:=pR v;have f:i<m:=by rw[<- rl];exact(zB.mp l).1
   have ex:x=lS rows i:=by have:=R.rx P f;rw[l]at this;injection this
   subst ex;refine⟨_,[Rs k,Is q,À (oN (if S.t i q<0/\S.s i∈S.gd then(match o with|none=>À i|some r=>if S.t i w*- S.t r q<S.t r w*- S.t i q\/(S.t i w*- S.t r q=S.t r w*- S.t i q/\S.s i<S.s r) then À i else À r) else o)),Is i,À (lS rows i)],s,rfl,?_,rfl,_,_,_,rfl,?_⟩
   ·by_cases d:S.t i q<0
    ·by_cases h:S.s i∈S.gd
     ·cases o with
      | none=>simp [R.cell P f (show q < w + 1 by lia),d,R.side P f,R.ins,R.ing,h,oN]
      |some r =>
       have D:=(T.2 r rfl).1
       have:=Lv R P B f (show r < m by lia) z
       simp [R.cell P f (show q < w + 1 by lia),d,R.side P f,R.ins,R.ing,h,oN,this,gg,cj,dr];split <;> rfl
     ·simp [R.cell P f (show q < w + 1 by lia),d,R.side P f,R.ins,R.ing,h]
    ·simp [R.cell P f (show q < w + 1 by lia),d]
   ·by_cases d:S.t i q<0/\S.s i∈S.gd
    ·rw[yJ d]
     cases o with
     |none=>exact SX.tt_first d.1 d.2 T
     |some r =>
      dsimp only;split
      ·rename_i h;exact SX.tt_new d.1 d.2 h T
      ·rename_i h;exact SX.tt_old d.1 h T
    ·rw[yI d];exact SX.tt_skip d T) (sl:=[Rs k,Is q,À .non,Á,Á]) (st:=st) ⟨rfl,Á,Á,Á,rfl,SX.tt_zero⟩
 rw[m8,rl]at T;refine⟨o,?_,T⟩;simp[aN,ay,eG,R.ins,kB R.ha];rw[e];simp
end
open SX (gI chLine pvl sgn)
theorem lM:((iL l).zip (iL P)).map (fun z=>AV.tup [z.1,z.2])=(l.zip P).map fun z=>.tup [.int z.1,.int z.2]:=by
 unfold iL;rw[List.zip_map,Ù];rfl
section
variable{l P:List Int}{q w:Nat}{sg d:Int}
theorem mZ{M:Nat}(h:∀x∈l,x.natAbs<M)(a:0<M)(j:Nat):(gI l j).natAbs<M:=by
 unfold gI;rw[zD];cases e:l[j]? with
 |none=>exact a
 |some x=>exact h x (zW e)
theorem N7(s:l.length=w+1)(t:P.length=w+1)(r:q<w+1)(p:w<=100)(g:∀x∈l,x.natAbs<2^9000)(m:∀x∈P,x.natAbs<2^9000)(hd:d≠0)(bd:d.natAbs<2^9000)(bs:sg.natAbs<2^9000) :
  ∃v st',ci [.fz (iL l),.fz (iL P),.int q,.int sg,.int d] []=À (v,st')/\fF st' v=À (.fz (iL (chLine l P q sg d))):=by
 have h:(0:Nat)<2^9000:=Ñ _;have f:∀b:aa,aZ b (.fz (iL P)) (.int (q:Int))=À (.int (gI P q)):=fun b=>by rw[dF dR,di,de oM]
 have e:∀b:aa,aZ b (.fz (iL l)) (.int (q:Int))=À (.int (gI l q)):=fun b=>by rw[dF dR,di,de oM]
 have j:=mZ m h q;have k:=mZ g h q;have i:=pV hd bd;unfold chLine;by_cases a:gI l q=0
 ·by_cases c:gI P q=d
  ·refine⟨.fz (iL l),[],?_,by rw[yJ a,yJ c];rfl⟩
   simp[ci,ay,eQ,f,e,a,c]
  ·refine⟨.fz (iL (l.map fun x=>SX.fdvS (x*gI P q) d)),[],?_,by rw[yJ a,yI c];rfl⟩
   simp [ci,ay,eQ,f,e,a,c,cR (show l.length <= 1000 by lia)];rw [mV (F:=fun x=>SX.fdvS (x * gI P q) d) iu fun x o=>⟨_,rfl,rfl,by simp [bW (c6 (g x o) j),ly i];rfl⟩];simp
 ·refine⟨.ref 0,[.lst (iL (((l.zip P).map fun z=>SX.fdvS (z.1*gI P q-gI l q*z.2) d).set q (sg*gI l q)))],?_,by rw[yI a];exact vM rfl⟩
  have n:=c6 bs k;have hz:((l.zip P).length)<=1000:=by rw[Ą];lia
  simp[ci,ay,eQ,f,e,a,iZ,lM];rw[yJ (cR oM),Al (F:=fun z=>SX.fdvS (z.1*gI P q-gI l q*z.2) d) iu fun z hz=>⟨_,rfl,rfl,by
   have:=î hz
   simp[bW (c6 (g _ this.1) j),bW (c6 k (m _ this.2)),ly i];rfl⟩]
  simp[bW n];rw[eP (xs:=iL ((l.zip P).map fun z=>SX.fdvS (z.1*gI P q-gI l q*z.2) d)) rfl (by simp;lia),iO];simp
theorem LU(b:RowR st x l)(f:l.length=w+1)(g:P.length=w+1)(e:q<w+1)(c:w<=100)(j:∀x∈l,x.natAbs<2^9000)(k:∀x∈P,x.natAbs<2^9000)(hd:d≠0)(bd:d.natAbs<2^9000)(bs:sg.natAbs<2^9000) :
  ∃st1,pm ci [x,.fz (iL P),.int q,.int sg,.int d] st=À (.fz (iL (chLine l P q sg d)),st1)/\(st1=st\/∃r,x=.ref r/\st[r]?=À (.lst (iL l))/\st1=st.set r (.al (.fz (iL l)))):=by
 obtain⟨v,a,i,h⟩:=N7 f g e c j k hd bd bs;exact lT (rest:=[.fz (iL P),.int q,.int sg,.int d]) b (by simp) rfl (fun s=>by simp[pL,rg,rf]) i h (by simp[flat])
end
section
variable{st:aa}{k a b c g n u w m:Nat}{rows:List AV}{S:Sh}
theorem Bd.row(B:Bd w m S)(P:Ql w m S){i:Nat}(c:i<m):∀x∈SX.row S i,x.natAbs<2^9000:=fun x d=>by
 obtain⟨j,b⟩:=yA d;have a:=(zB.mp b).1;rw[P.rl c]at a
 have:=B.2 i c j a
 have e:S.t i j=x:=by show(SX.row S i).getD j 0=x;rw[zD,b];rfl
 rw[e]at this;exact this
theorem pP(R:Rep st k a b c g n u rows S)(P:Ql w m S)(B:Bd w m S)(hd:S.d≠0)(hw:w<=100)(hm:m<=1000){p q:Nat}(A:p<m)(hq:q<w) :
  ∃st' a' rows',aR [.ref k,.int p,.int q] st=À (.non,st')/\Rep st' k a' b c g n u rows' (SX.Qj S p q):=by
 have rl:rows.length=m:=by rw[R.len,P.ls]
 obtain⟨sg,D⟩:∃x,x=sgn (S.t p q):=⟨_,rfl⟩;obtain⟨o,N⟩:∃x,x=pvl S p q:=⟨_,rfl⟩;have E:o=(SX.row S p).map fun x=>sg*x:=by rw[N,D];rfl
 have lp:o.length=w+1:=by rw[E,zH];exact P.rl A
 have sa:sg.natAbs=1:=by rw[D];unfold sgn;split<;>rfl
 have bs:sg.natAbs<2^9000:=by rw[sa];exact Nat.one_lt_two_pow oM
 have bP:∀x∈o,x.natAbs<2^9000:=fun x G=>by
  rw[E]at G;obtain⟨y,hy,rfl⟩:=yE.mp G;rw[xA,sa,e?];exact B.row P A y hy
 have s1:∃t,iX [(a,.lst rows)] (cP [ci] (.nm 7)) (kK [ci] .no) (ev [ci] (.ca Ã 0 (.cons (.v 7) (.cons (.v 4) (.cons (.v 2) (.cons (.v 3) (.cons (.v 5) .nil))))))) [Rs k,Is p,Is q,Is sg,Ls o,Is S.d,Á,Á] rows st
   = À ((È rows.length).map fun i=>.fz (iL (chLine (SX.row S i) o q sg S.d)),t)/\Rep t k a b c g n u rows S:=by
  refine IS (J:=fun _ s=>Rep s k a b c g n u rows S) (fun _ s _ Z=>fW Z.ha) (fun i x s G Z=>?_) R;have hi:i<m:=by rw[<- rl];exact(zB.mp G).1
  obtain ⟨s1,e1,Y⟩:=LU (Z.row i x G) (P.rl hi) lp (show q < w + 1 by lia) hw (B.row P hi) bP hd B.1 bs;refine ⟨_,s1,rfl,rfl,by simp [e1],?_⟩;rcases Y with rfl | ⟨r,rfl,h2,rfl⟩
  ·exact Z
  ·exact Z.freeze G h2
 obtain⟨t,e1,R1⟩:=s1;obtain⟨f,M⟩:∃x,x=(È rows.length).map fun i=>AV.fz (iL (chLine (SX.row S i) o q sg S.d)):=⟨_,rfl⟩
 rw[<- M]at e1;have O:∀i x,f[i]?=À x->i<m/\x=.fz (iL (chLine (SX.row S i) o q sg S.d)):=fun i x h=>by
  rw[M,zR]at h;obtain⟨j,Y,rfl⟩:=zE.mp h;have W:=(zB.mp Y).1;rw[ô]at W;rw[ϛ W]at Y;cases Y;exact⟨by lia,rfl⟩
 have l2:f.length=m:=by rw[M,zH,ô,rl]
 have lt:∀{s:aa}{i:Nat}{x:Qd},s[i]?=À x->i<s.length:=fun h=>(zB.mp h).1
 have R2:Rep ((t++[Qd.lst f]).set k (.ins "Sheet" (dI S.d t.length b c g n u))) k t.length b c g n u f { S with ls:=S.ls.map fun l=>chLine l o q sg S.d }:=by
  refine Rep.fields (S':={ S with ls:=S.ls.map fun l=>chLine l o q sg S.d }) (R1.app (ys:=[Qd.lst f])) gl rfl rfl rfl rfl rfl (by simp[l2,P.ls]) (fun i x h=>?_) (ĳ (lt R1.hb)) (ĳ (lt R1.hc)) fun i r h=>?_
  ·obtain⟨hi,rfl⟩:=O i x h
   left;unfold SX.row;simp [zD,zF (show i < S.ls.length by rw [P.ls];exact hi)]
  ·have:=(O i _ h).2;cases this
 obtain⟨C,L⟩:∃x,x=(t++[Qd.lst f]).set k (.ins "Sheet" (dI S.d t.length b c g n u)):=⟨_,rfl⟩;rw[<- L]at R2;obtain⟨a',X⟩:∃x,x=t.length:=⟨_,rfl⟩;rw[<- X]at R2 L;have R3:=Rep.rowset (p:=p) (x:=.ref C.length) (l:=o.map fun x=>- x) (R2.app (ys:=[Qd.lst (iL (o.map fun x=>- x))])) (.inr ⟨C.length,rfl,.inl gl⟩) fun r e=>by cases e;exact⟨ĳ (lt R2.ha),ĳ (lt R2.hb),ĳ (lt R2.hc)⟩
 obtain⟨t3,K⟩:∃x,x=(C++[Qd.lst (iL (o.map fun x=>- x))]).set a' (.lst (f.set p (.ref C.length))):=⟨_,rfl⟩;rw[<- K]at R3;have g3:t3[C.length]?=À (.lst (iL (o.map fun x=>- x))):=by rw[K,aB (zU (lt R2.ha))];exact gl
 have p3:(f.set p (.ref C.length))[p]?=À (.ref C.length):=by simp[l2,A]
 have H:=Rep.cellset (l:=(o.map fun x=>- x).set q (sg*S.d)) R3 p3 fun i ne h=>by
  rw[yY,yI (fun z=>ne z.symm)]at h
  have:=(O i _ h).2;cases this
 obtain⟨t4,V⟩:∃x,x=t3.set C.length (.lst (iL ((o.map fun x=>- x).set q (sg*S.d)))):=⟨_,rfl⟩;rw[<- V]at H;have I:=Rep.fields (S':={ d:=gI o q,ls:=_,hd:=S.hd,sd:=S.sd,gd:=S.gd,nl:=S.nl,tn:=S.tn }) H H.ha rfl rfl rfl rfl rfl H.len H.row H.ab H.ac H.ra;obtain⟨t5,U⟩:∃x,x=t4.set k (.ins "Sheet" (dI (gI o q) a' b c g n u)):=⟨_,rfl⟩;have I:=U▸I;have R6:=Rep.sides (sd':=S.sd.set p (S.h q)) I;obtain⟨t6,T⟩:∃x,x=t5.set c (.lst (nL (S.sd.set p (S.h q)))):=⟨_,rfl⟩;rw[<- T]at R6;have R7:=Rep.heads (hd':=S.hd.set q (S.s p)) R6;obtain⟨t7,Q⟩:∃x,x=t6.set b (.lst (nL (S.hd.set q (S.s p)))):=⟨_,rfl⟩;rw[<- Q]at R7;refine⟨t7,a',f.set p (.ref C.length),?_,?_⟩
 rotate_left
 ·have e:SX.Qj S p q={ d:=gI o q,ls:=((S.ls.map fun l=>chLine l o q sg S.d).set p (o.map fun x=>- x)).set p ((o.map fun x=>- x).set q (sg*S.d)),hd:=S.hd.set q (S.s p),sd:=S.sd.set p (S.h q),gd:=S.gd,nl:=S.nl,tn:=S.tn }:=by
   unfold SX.Qj;rw[B?,N,D]
  rw[e];exact R7
 rw[aR,ay];unfold gH;refine ag (sl':=[Rs k,Is p,Is q,Is sg,Á,Á,Á]) (st':=st) ?_ ?_
 ·by_cases h:S.t p q<0
  ·simp [R.ins,R.line P A,R.cell P A (show q < w + 1 by lia),h,D,sgn]
  ·simp [R.ins,R.line P A,R.cell P A (show q < w + 1 by lia),h,D,sgn]
 refine ag (sl':=[Rs k,Is p,Is q,Is sg,Ls o,Á,Á]) (st':=st) ?_ ?_
 ·obtain⟨gd,i1,i2⟩:=(R.row p _ (R.rx P A)).it
  simp [R.ins,R.line P A,i1,cR (show (SX.row S p).length <= 1000 by rw [P.rl A];lia)];rw [mV (F:=fun x=>sg * x) i2 fun x G=>⟨_,rfl,rfl,by simp [bW (c6 bs (B.row P A x G))]⟩];simp [E]
 refine ag (sl':=[Rs k,Is p,Is q,Is sg,Ls o,Is S.d,Á]) (st':=st) (by simp[R.ins]) ?_;refine ag (sl':=[Rs k,Is p,Is q,Is sg,Ls o,Is S.d,Á]) (st':=C) ?_ ?_
 ·rw[jb (v:=.ref a') (st':=t++[.lst f]) (k:=k) (by simp[R.ins,mW R.ha,rl,cR hm,e1,X]) (by simp) R1.app.ins rfl,BZ,L]
 refine ag (sl':=[Rs k,Is p,Is q,Is sg,Ls o,Is S.d,Á]) (st':=t3) ?_ ?_
 ·simp [cR (show o.length <= 1000 by lia)]
  rw [mV (F:=fun x=>- x) iu fun x G=>⟨_,rfl,rfl,by simp⟩];simp [R2.app.ins,eP (R2.app (ys:=[Qd.lst (iL (o.map fun x=>- x))])).ha (show p < f.length by lia),K]
 have P4:Ql w m { S with ls:=((S.ls.map fun l=>chLine l o q sg S.d).set p (o.map fun x=>- x)).set p ((o.map fun x=>- x).set q (sg*S.d)) }:=by
  have:=SX.exch_shp (c:=q) P A
  refine⟨by simp[P.ls],fun l W=>this.row l ?_,P.hd,P.sd⟩;show l∈(S.ls.map fun l=>chLine l (pvl S p q) q (sgn (S.t p q)) S.d).set p _;rw[<- N,<- D];rw[B?]at W;exact W
 have rx:lS (f.set p (.ref C.length)) p=.ref C.length:=by unfold lS;rw[zD,p3];rfl
 refine ag (sl':=[Rs k,Is p,Is q,Is sg,Ls o,Is S.d,Á]) (st':=t4) ?_ ?_
 ·have li:aZ t3 (.ref a') (.int (p:Int))=À (.ref C.length):=by rw[dF (cC R3.ha),di];exact p3
  simp [bW (c6 bs B.1),R3.ins,li,eP g3 (show q < (iL (o.map fun x=>- x)).length by simp;lia),iO,V]
 refine ag (sl':=[Rs k,Is p,Is q,Is sg,Ls o,Is S.d,Á]) (st':=t5) ?_ ?_
 ·have xi:aZ t4 (.fz (iL o)) (.int (q:Int))=À (.int (gI o q)):=by rw[dF dR,di,de oM]
  rw[jb (v:=.int (gI o q)) (st':=t4) (k:=k) (by simp[xi]) (by simp) H.ins rfl,B0,U]
 have P5:Ql w m { S with d:=gI o q,ls:=((S.ls.map fun l=>chLine l o q sg S.d).set p (o.map fun x=>- x)).set p ((o.map fun x=>- x).set q (sg*S.d)) }:=⟨P4.ls,P4.row,P4.hd,P4.sd⟩;refine ag (sl':=[Rs k,Is p,Is q,Is sg,Ls o,Is S.d,Is (S.s p:Int)]) (st':=t5) ?_ ?_
 ·have:=I.side P5 A
  simp[I.ins,this];rfl
 refine ag (sl':=[Rs k,Is p,Is q,Is sg,Ls o,Is S.d,Is (S.s p:Int)]) (st':=t6) ?_ ?_
 ·have:=I.head P5 hq
  simp [I.ins,this,eP I.hc (show p < (nL S.sd).length by simp [P.sd,A]),T];rw [<- Ac];rfl
 refine ag (sl':=[Rs k,Is p,Is q,Is sg,Ls o,Is S.d,Is (S.s p:Int)]) (st':=t7) ?_ rfl;simp [R6.ins,eP R6.hb (show q < (nL S.hd).length by simp [P.hd,hq]),Q,Ac]
end
open SX (MI Rais Qh Kept Qj)
noncomputable def ins(l:List Nat)(q:Nat):List Nat:=if q∈l then l else l++[q]
section
variable{st:aa}{k a b c g n u w m:Nat}{rows:List AV}{S:Sh}{p q:Nat}
theorem wn(R:Rep st k a b c g n u rows S)(d:S.gd.length<=1000):∃st',aW [.ref k,.int q] st=À (.non,st')/\Rep st' k a b c g n u rows { S with gd:=ins S.gd q }:=by
 refine⟨_,?_,R.guard⟩;simp[aW,ay,iW,R.ins,qy R.hg d,ins]
theorem tN(R:Rep st k a b c g n u rows S)(d:S.nl.length<=1000):∃st',fb [.ref k,.int q] st=À (.non,st')/\Rep st' k a b c g n u rows { S with nl:=ins S.nl q }:=by
 refine⟨_,?_,R.nail⟩;simp[fb,ay,jJ,R.ins,qy R.hn d,ins]
theorem Gs(R:Rep st k a b c g n u rows S)(P:Ql w m S)(s:w<=100)(d:p<m)(j:S.tn.length<=1000):∃st' rows',dh [.ref k,.int p] st=À (.non,st')/\Rep st' k a b c g n u rows' (SX.trn S p):=by
 have f:=Rep.rowset (p:=p) (x:=.fz (iL ((SX.row S p).map fun x=>- x))) (l:=(SX.row S p).map fun x=>- x) R (.inl rfl) fun r e=>nomatch e
 have R2:=Rep.turned (tn':=if S.s p∈S.tn then S.tn else S.tn++[S.s p]) f;refine⟨_,_,?_,R2⟩;obtain⟨t,i,h⟩:=(R.row p _ (R.rx P d)).it;have o:Ql w m { S with ls:=S.ls.set p ((SX.row S p).map fun x=>- x) }:=⟨(SX.trn_shp P d).ls,(SX.trn_shp P d).row,P.hd,P.sd⟩;rw[dh,ay];unfold gq;refine ag (sl':=[Rs k,Is p]) (st':=st.set a (.lst (rows.set p (.fz (iL ((SX.row S p).map fun x=>- x)))))) ?_ ?_
 ·simp [R.ins,R.line P d,i,cR (show (SX.row S p).length <= 1000 by rw [P.rl d];lia)]
  rw [mV (F:=fun x=>- x) h fun x q=>⟨_,rfl,rfl,by simp⟩];simp [R.ins,eP R.ha (show p < rows.length by rw [R.len,P.ls];exact d)]
 ·have:=f.side o d
  simp[f.ins,this];rw[qy f.hu j];rfl
theorem Lb(R:Rep st k a b c g n u rows S)(P:Ql w m S)(A:w<=100)(r:p<m):∃o:Option Nat,cx [.ref k,.int p] st=À (oN o,st)/\(o=Á->∀j,j<w->S.h j∉S.nl->S.t p j=0)/\∀q,o=À q->q<w/\S.h q∉S.nl/\S.t p q≠0:=by
 have t:(cB S).length<=1000:=by
  unfold cB;rw[zH]
  have:=Ņ (fun z:Nat×Nat=>!decide (z.1∈S.nl)) S.hd.zipIdx
  rw[Ϡ,P.hd]at this;lia
 have inl:∀j,j∈(cB S).filter (fun j=>!decide (S.t p j=0)) ↔ (j<w/\S.h j∉S.nl)/\S.t p j≠0:=fun j=>by rw[ú,jO P];simp
 have d:∃o:Option Nat,Cj (((cB S).filter fun j=>!decide (S.t p j=0)).map fun j=>((j:Nat):Int))=oN o/\(o=Á->(cB S).filter (fun j=>!decide (S.t p j=0))=[])/\∀q,o=À q->q∈(cB S).filter fun j=>!decide (S.t p j=0):=by
  generalize (cB S).filter (fun j=>!decide (S.t p j=0))=l;cases l with
  |nil=>exact⟨Á,rfl,fun _=>rfl,fun q h=>nomatch h⟩
  |cons x l =>
   have h:=(DD.minF (l.map fun j=>((j:Nat):Int)) (x:Int)).1;rw[<- zO (f:=fun j:Nat=>((j:Nat):Int))]at h;obtain⟨y,v,e⟩:=yE.mp h;refine⟨À y,?_,(fun z=>nomatch z),fun q z=>by cases z;exact v⟩;show AV.int _=AV.int _;rw[e]
 obtain⟨o,D,I,H⟩:=d;refine⟨o,?_,fun e j i E=>ö fun C=>?_,fun q e=>?_⟩
 ·simp[cx,ay,eR,R.ins,R.line P r,v6 R P A,nL,cR t]
  rw [iq (B:=fun j=>!decide (S.t p j=0)) (F:=fun j:Nat=>.int (j:Int)) iu fun j i=>⟨_,rfl,by simp [R.cell P r (show j < w + 1 by have:=(jO P).mp i;lia)],fun _=>rfl⟩];have G:rfs (((cB S).filter fun j=>!decide (S.t p j=0)).map fun j:Nat=>(AV.int (j:Int)))=Ã:=fG;have s:=qz (l:=(cB S).filter fun j=>!decide (S.t p j=0));unfold nL at s;simp [G,cF,ph,lsI,s,D]
 ·have d:=(inl j).mpr ⟨⟨i,E⟩,C⟩
  rw[I e]at d;cases d
 ·have:=(inl q).mp (H q e)
  exact⟨this.1.1,this.1.2,this.2⟩
end
section
variable{st:aa}{k a b c g n u w m:Nat}{rows:List AV}{S:Sh}{p:Nat}{v:Nat->Nat->Int}
structure Bnd(w m:Nat)(v:Nat->Nat->Int):Prop where
 ex:∃M:Nat,1<=M/\(∀q x,x<w+1->(v q x).natAbs<=M)/\SX.fct (w+1)*M^(w+1)<2^2500
 hw:w<=100
 hm:m<=1000
theorem Bnd.bd(H:Bnd w m v)(I:MI w m v S):Bd w m S:=by
 obtain⟨M,c,b,a⟩:=H.ex;exact I.bound c b (M? a (Ī dC dC))
theorem Bnd.bd8(H:Bnd w m v)(I:MI w m v S):S.d.natAbs<2^8900/\∀i,i<m->∀j,j<w+1->(S.t i j).natAbs<2^8900:=by
 obtain⟨M,c,b,a⟩:=H.ex;exact I.bound c b (M? a (Ī dC dC))
theorem Bnd.bd2(H:Bnd w m v)(I:MI w m v S):S.d.natAbs<2^2500/\∀i,i<m->∀j,j<w+1->(S.t i j).natAbs<2^2500:=by
 obtain⟨M,c,b,a⟩:=H.ex;exact I.bound c b a
def wF(w m:Nat)(v:Nat->Nat->Int)(k b c g n u p:Nat)(e:Sh)(o:Out):Prop:=∃(S:Sh)(a:aa)(h:Nat)(d:List AV),Rep a k h b c g n u d S/\Kept m p e S /\
 ((o=.rt (.bl Ã) a/\MI w m v { S with gd:=S.gd++[e.s p] }/\MI w m v { S with nl:=S.nl++[e.s p] }) \/
  (o=.rt (.bl Ä) a/\MI w m v S/\S.s p=e.s p/\S.t p w<0/\∀j,j<w->S.h j∉S.nl->¬0<S.t p j) \/
  ∃f,o=.nx f a/\MI w m v S/\S.s p=e.s p/\0<=e.t p w)
theorem Ak(H:Bnd w m v)(R:Rep st k a b c g n u rows S0)(I:MI w m v S0)(j:p<m)(V:S0.s p∉S0.gd)(X:S0.s p∉S0.nl) :
  ∃o,nA (tv [aO,aN,bu,aR] (.cmp .Lt (.ix (.ix (.fd "Sheet" "lines" (.v 0)) (.v 1)) (.un .USub (.i 1))) (.i 0)))
   (ae [aO,aN,bu,aR] (.cons (.as (.me "Sheet" "raising_column" 0 (.v 0) (.cons (.v 1) .nil)) (.nm 2))
    (.cons (.iff (.cmp .Is (.v 2) .n) (.cons (.rt (.b Ä)) .nil) .nil)
    (.cons (.as (.me "Sheet" "tightest_place" 1 (.v 0) (.cons (.v 2) .nil)) (.nm 3))
    (.cons (.iff (.or (.cmp .Is (.v 3) .n) (.va (.me "Sheet" "is_up_first" 2 (.v 0) (.cons (.v 1) (.cons (.v 3) (.cons (.v 2) .nil)))))) (.cons (.ex (.me "Sheet" "exchange" 3 (.v 0) (.cons (.v 1) (.cons (.v 2) .nil)))) (.cons (.rt (.b Ã)) .nil)) .nil)
    (.cons (.ex (.me "Sheet" "exchange" 3 (.v 0) (.cons (.v 3) (.cons (.v 2) .nil)))) .nil)))))) [Rs k,Is p,x,y] st=À o/\wF w m v k b c g n u p S0 o:=by
 refine vD (α:=Sh) (a0:=S0) (I:=fun S U s=>(∃L d x y,U=[Rs k,Is p,x,y]/\Rep s k L b c g n u d S)/\MI w m v S/\Kept m p S0 S/\S.s p=S0.s p/\(S0.t p w<0->S.t p w<0))
  (Q:=fun S T=>MI w m v S/\(∃r q e,SX.Bl w m p (·∈S.gd) (·∈S.nl) r q e (SX.toSt S) (SX.toSt T))/\Kept m p S T) (fun f h0 hf=>SX.no_chain j f hf (by rw[h0];exact V)) (fun S U s hI=>?_) ⟨⟨a,rows,x,y,rfl,R⟩,I,Kept.refl,rfl,id⟩
 obtain⟨⟨L,d,x,y,rfl,R⟩,I,K,sp,Z⟩:=hI;have B:=H.bd I;have P:=I.shp;have t:S.s p∉S.gd:=by rw[sp,K.gd];exact V
 have M:S.s p∉S.nl:=by rw[sp,K.nl];exact X
 have C:tv [aO,aN,bu,aR] (.cmp .Lt (.ix (.ix (.fd "Sheet" "lines" (.v 0)) (.v 1)) (.un .USub (.i 1))) (.i 0)) [Rs k,Is p,x,y] s=À (decide (S.t p w<0),s):=by
  simp[R.ins,R.line P j,R.last P j]
 by_cases low:S.t p w<0
 ·rw[yX low]at C
  obtain⟨o,J,F⟩:=tI R P H.hw j;cases o with
  |none =>
   left;refine⟨_,sQ (v:=.bl Ä) (st2:=s) C ?_,S,s,L,d,R,K,.inr (.inl ⟨rfl,I,sp,low,F.1 rfl⟩)⟩;simp[R.ins,J,oN]
  |some q =>
   obtain⟨E,_,q3,_⟩:=F.2 q rfl;obtain⟨o,O,D⟩:=vH R P B E;have W:S.d≠0:=by have:=I.lin.pos;lia
   have au:(Qh S w q m Á\/∃r,Qh S w q m (À r)/\S.t p w*S.t r q<=S.t r w*S.t p q)->o=Á\/(∃r,o=À r/\S.t p w*S.t r q<=S.t r w*S.t p q)->∃o,dU (tv [aO,aN,bu,aR] (.cmp .Lt (.ix (.ix (.fd "Sheet" "lines" (.v 0)) (.v 1)) (.un .USub (.i 1))) (.i 0)))
     (ae [aO,aN,bu,aR] (.cons (.as (.me "Sheet" "raising_column" 0 (.v 0) (.cons (.v 1) .nil)) (.nm 2))
    (.cons (.iff (.cmp .Is (.v 2) .n) (.cons (.rt (.b Ä)) .nil) .nil)
    (.cons (.as (.me "Sheet" "tightest_place" 1 (.v 0) (.cons (.v 2) .nil)) (.nm 3))
    (.cons (.iff (.or (.cmp .Is (.v 3) .n) (.va (.me "Sheet" "is_up_first" 2 (.v 0) (.cons (.v 1) (.cons (.v 3) (.cons (.v 2) .nil)))))) (.cons (.ex (.me "Sheet" "exchange" 3 (.v 0) (.cons (.v 1) (.cons (.v 2) .nil)))) (.cons (.rt (.b Ã)) .nil)) .nil)
    (.cons (.ex (.me "Sheet" "exchange" 3 (.v 0) (.cons (.v 3) (.cons (.v 2) .nil)))) .nil)))))) 1 [Rs k,Is p,x,y] s=À o/\wF w m v k b c g n u p S0 o:=fun hT ho=>by
    obtain⟨l,a2,i,G,R2⟩:=pP R P B W H.hw H.hm j E;obtain⟨N,m2,m3⟩:=I.up j t M low F hT;refine⟨_,sQ (v:=.bl Ã) (st2:=l) C ?_,Qj S p q,l,a2,i,R2,K.trans m3,.inl ⟨rfl,by rw[<- sp];exact N,by rw[<- sp];exact m2⟩⟩;rcases ho with rfl|⟨r,rfl,A⟩
    ·simp[R.ins,J,oN,O,G]
    ·have:=C8 R P B j (D.2 r rfl).1 E
     simp[R.ins,J,oN,O,G,this,gg,cj,dr,A]
   cases o with
   |none=>exact .inl (au (.inl D) (.inl rfl))
   |some r =>
    by_cases A:S.t p w*S.t r q<=S.t r w*S.t p q
    ·exact .inl (au (.inr ⟨r,D,A⟩) (.inr ⟨r,rfl,A⟩))
    ·right
     have r1:=(D.2 r rfl).1;obtain⟨l,a2,i,G,R2⟩:=pP R P B W H.hw H.hm r1 E;obtain⟨N,m2,m3,Y⟩:=I.step j t F D;refine⟨Qj S r q,[Rs k,Is p,Is q,Is r],l,⟨I,⟨r,q,_,m2⟩,m3⟩,⟨⟨a2,i,_,_,rfl,R2⟩,N,K.trans m3,Y.trans sp,fun _=>I.low j t F D A⟩,fun n o h=>qb C ?_ h⟩
     have:=C8 R P B j r1 E
     simp[R.ins,J,oN,O,G,this,gg,cj,dr,A]
 ·rw[yB low]at C
  left;exact⟨_,mO C,S,s,L,d,R,K,.inr (.inr ⟨_,rfl,I,sp,by
   rcases yW (S0.t p w) 0 with z|z
   ·exact absurd (Z z) low
   ·exact z⟩)⟩
end
section
variable{st:aa}{k a b c g n u w m:Nat}{rows:List AV}{S:Sh}{p:Nat}{v:Nat->Nat->Int}
theorem Aj(H:Bnd w m v)(R:Rep st k a b c g n u rows S0)(I:MI w m v S0)(d:p<m)(s:S0.s p∉S0.gd)(r:S0.s p∉S0.nl) :
  ∃(S:Sh)(st':aa)(a':Nat)(rows':List AV)(bb:Bool),c8 [.ref k,.int p] st=À (.bl bb,st')/\Rep st' k a' b c g n u rows' S/\Kept m p S0 S /\
   ((bb=Ã/\MI w m v { S with gd:=S.gd++[S0.s p] }/\(S0.t p w<0->MI w m v { S with nl:=S.nl++[S0.s p] })) \/
    (bb=Ä/\MI w m v S/\S.s p=S0.s p/\S.t p w<0/\∀j,j<w->S.h j∉S.nl->¬0<S.t p j)):=by
 by_cases low:S0.t p w<0
 ·obtain⟨o,e,S,st',a',rows',q,K,h⟩:=Ak H R I d s r (x:=Á) (y:=Á)
  rcases h with⟨rfl,i,f⟩|⟨rfl,i,f,l,t⟩|⟨A,rfl,i,f,l⟩
  ·refine⟨S,st',a',rows',Ã,?_,q,K,.inl ⟨rfl,i,fun _=>f⟩⟩
   simp[c8,ay,fO,e]
  ·refine⟨S,st',a',rows',Ä,?_,q,K,.inr ⟨rfl,i,f,l,t⟩⟩
   simp[c8,ay,fO,e]
  ·lia
 ·refine⟨S0,st,a,rows,Ã,?_,R,Kept.refl,.inl ⟨rfl,I.guard d oM,fun z=>absurd z low⟩⟩
  have P:=I.shp;rw[c8,ay];unfold fO;refine ag (sl':=[Rs k,Is p,Á,Á]) (st':=st) (oU (n:=1) (mO (by simp[R.ins,R.line P d,R.last P d,low]))) ?_;simp
theorem F3(H:Bnd w m v)(R:Rep st k a b c g n u rows S0)(I:MI w m v S0)(l:p<m)(A:S0.s p∉S0.gd) :
  ∃r,b8 [.ref k,.int p] st=À r/\∃(S:Sh)(a':Nat)(rows':List AV),Rep r.2 k a' b c g n u rows' S/\Kept m p S0 S/\MI w m v S/\S.s p=S0.s p /\
   ((r.1=.non/\Rais w S p Á)\/∃q,r.1=.int ((q:Nat):Int)/\Rais w S p (À q)/\Qh S w q m Á):=by
 rw[b8];simp only[ay];unfold gJ;obtain⟨o,V,i⟩:=tI R I.shp H.hw l;refine aA (sl':=[Rs k,Is p,À (oN o),Á]) (st':=st) (by simp[R.ins,V]) ?_;refine G0 (Post:=fun out=>∃(S:Sh)(a':Nat)(rows':List AV)(st':aa),Rep st' k a' b c g n u rows' S/\Kept m p S0 S/\MI w m v S/\S.s p=S0.s p /\
   ((∃j,out=.nx j st'/\Rais w S p Á)\/∃q,out=.rt (.int ((q:Nat):Int)) st'/\Rais w S p (À q)/\Qh S w q m Á))
  (vD (α:=Sh) (a0:=S0) (I:=fun S j s=>(∃a' rows' x o,j=[Rs k,Is p,À (oN o),x]/\Rep s k a' b c g n u rows' S/\Rais w S p o)/\MI w m v S/\Kept m p S0 S/\S.s p=S0.s p)
   (Q:=fun S T=>MI w m v S/\(∃r q e,SX.Bl w m p (·∈S.gd) (·∈S.nl) r q e (SX.toSt S) (SX.toSt T))/\Kept m p S T) (fun f N J=>SX.no_chain l f J (by rw[N];exact A)) (fun S j s L=>?_) ⟨⟨a,rows,Á,o,rfl,R,i⟩,I,Kept.refl,rfl⟩) ?_
 ·obtain⟨⟨a',rows',x,o,rfl,R,i⟩,I,K,sp⟩:=L
  have B:=H.bd I;have P:=I.shp;have t:S.s p∉S.gd:=by rw[sp,K.gd];exact A
  cases o with
  |none =>
   left;exact⟨_,mO (st':=s) (by simp[oN]),S,a',rows',s,R,K,I,sp,.inl ⟨_,rfl,i⟩⟩
  |some q =>
   obtain⟨z,_,X,_⟩:=i.2 q rfl;obtain⟨o,D,y⟩:=vH R P B z;cases o with
   |none =>
    left;refine⟨_,sQ (v:=.int q) (st':=s) (st2:=s) (by simp[oN]) ?_,S,a',rows',s,R,K,I,sp,.inr ⟨q,rfl,i,y⟩⟩;simp[R.ins,oN,D]
   |some r =>
    right;have W:S.d≠0:=by have:=I.lin.pos;lia
    have r1:=(y.2 r rfl).1;obtain⟨st',a2,d,U,R2⟩:=pP R P B W H.hw H.hm r1 z;obtain⟨C,m2,m3,G⟩:=I.step l t i y;obtain⟨o,O,M⟩:=tI R2 C.shp H.hw l;refine⟨Qj S r q,[Rs k,Is p,À (oN o),Is r],st',⟨I,⟨r,q,_,m2⟩,m3⟩,⟨⟨a2,d,_,o,rfl,R2,M⟩,C,K.trans m3,G.trans sp⟩,fun n Y h=>qb (st':=s) (by simp[oN]) ?_ h⟩;simp[R.ins,oN,D,U,R2.ins,O]
 ·rintro out ⟨S,a',rows',st',E,K,F,sp,⟨j,rfl,h⟩|⟨q,rfl,h⟩⟩
  ·exact⟨(.non,st'),by simp,S,a',rows',E,K,F,sp,.inl ⟨rfl,h⟩⟩
  ·exact⟨(.int q,st'),by simp,S,a',rows',E,K,F,sp,.inr ⟨q,rfl,h⟩⟩
end
structure Kj(m p:Nat)(S T:Sh):Prop where
 tn:T.tn=S.tn\/T.tn=S.tn++[S.s p]
 si:∀i,i<m->i≠p->S.s i∉S.gd->T.s i=S.s i
section
variable{st:aa}{k a b c g n u w m:Nat}{rows:List AV}{S:Sh}{p:Nat}{v:Nat->Nat->Int}
theorem Lo(H:Bnd w m v)(R:Rep st k a b c g n u rows S0)(I:MI w m v S0)(i:p<m)(r:S0.s p∉S0.gd)(t:S0.s p∉S0.nl)(x:S0.gd.length<=1000) :
  ∃(S:Sh)(st':aa)(a':Nat)(rows':List AV)(bb:Bool),cg [.ref k,.int p] st=À (.bl bb,st')/\Rep st' k a' b c g n u rows' S/\Kj m p S0 S/\S.tn=S0.tn/\S.nl=S0.nl/\MI w m v S /\
   ((bb=Ã/\S.gd=S0.gd++[S0.s p])\/(bb=Ä/\S.gd=S0.gd/\S.s p=S0.s p/\S.t p w<0/\∀j,j<w->S.h j∉S.nl->¬0<S.t p j)):=by
 have P:=I.shp;obtain⟨S,f,a1,d,bb,s,o,K,h⟩:=Aj H R I i r t;rcases h with⟨rfl,l,_⟩|⟨rfl,l,y⟩
 ·obtain⟨e,A,R2⟩:=wn (q:=S0.s p) o (by rw[K.gd];exact x)
  have z:ins S.gd (S0.s p)=S.gd++[S0.s p]:=yI (by rw[K.gd];exact r);rw[z]at R2;refine⟨{ S with gd:=S.gd++[S0.s p] },e,a1,d,Ã,?_,R2,⟨.inl K.tn,K.si⟩,K.tn,K.nl,l,.inl ⟨rfl,by rw[K.gd]⟩⟩;simp[cg,ay,fY,R.ins,R.side P i,s,gg,cj,dr,o.ins,A]
 ·refine⟨S,f,a1,d,Ä,?_,o,⟨.inl K.tn,K.si⟩,K.tn,K.nl,l,.inr ⟨rfl,K.gd,y⟩⟩
  simp[cg,ay,fY,R.ins,R.side P i,s,gg,cj,dr]
theorem Lp(H:Bnd w m v)(R:Rep st k a b c g n u rows S0)(I:MI w m v S0)(f:p<m)(ng:S0.s p∉S0.gd)(J:S0.s p∉S0.nl)(nt:S0.s p∉S0.tn)(Y:S0.nl.length<=1000)(X:S0.tn.length<=1000) :
  ∃(S:Sh)(st':aa)(a':Nat)(rows':List AV)(bb:Bool),c4 [.ref k,.int p] st=À (.bl bb,st')/\Rep st' k a' b c g n u rows' S/\Kj m p S0 S/\S.gd=S0.gd/\MI w m v S /\
   ((bb=Ã/\S.nl=S0.nl++[S0.s p])\/(bb=Ä/\S.nl=S0.nl/\S.s p=S0.s p/\S.t p w<0/\∀j,j<w->S.h j∉S.nl->¬0<S.t p j)):=by
 have P:=I.shp
 have s1:∃(d:Sh)(t:aa)(e:List AV),cT [dh,c8,cx,aR,fb] (.iff (.cmp .Gt (.ix (.ix (.fd "Sheet" "lines" (.v 0)) (.v 1)) (.un .USub (.i 1))) (.i 0)) (.cons (.ex (.me "Sheet" "turn_line" 0 (.v 0) (.cons (.v 1) .nil))) .nil) .nil) [Rs k,Is p,Is (S0.s p:Int),Á] st=À (.nx [Rs k,Is p,Is (S0.s p:Int),Á] t) /\
   Rep t k a b c g n u e d/\MI w m v d/\d.gd=S0.gd/\d.nl=S0.nl/\(d.tn=S0.tn\/d.tn=S0.tn++[S0.s p])/\d.sd=S0.sd/\d.t p w<=0:=by
  by_cases h:0<S0.t p w
  ·obtain⟨t,e,Z,s⟩:=Gs R P H.hw f X
   refine⟨SX.trn S0 p,t,e,?_,s,I.turn f ng J nt,rfl,rfl,.inr (yI nt),rfl,?_⟩
   ·simp[R.ins,R.line P f,R.last P f,h,Z]
   ·rw[(SX.trn_t P f).1 w oM];lia
  ·refine⟨S0,st,rows,?_,R,I,rfl,rfl,.inl rfl,rfl,by lia⟩
   simp[R.ins,R.line P f,R.last P f,h]
 refine g_ fun G bk=>?_
 obtain⟨d,t,e,Z,s,E,g1,y,t1,d1,low1⟩:=s1;have B:∀i,d.s i=S0.s i:=fun i=>by show d.sd.getD i 0=S0.sd.getD i 0;rw[d1]
 have z:=E.shp;have V:d.s p∉d.nl:=by rw[B,y];exact J
 have W:d.s p∉d.gd:=by rw[B,g1];exact ng
 have D:∀T:Sh,Kept m p d T->Kj m p S0 T:=fun T K=>⟨by rw[K.tn];exact t1,fun i hi ne h=>by rw[K.si i hi ne (by rw[B,g1];exact h),B]⟩
 have hd:∀{r:AV×aa},(ae [dh,c8,cx,aR,fb] (.cons (.iff (.cmp .Lt (.ix (.ix (.fd "Sheet" "lines" (.v 0)) (.v 1)) (.un .USub (.i 1))) (.i 0)) (.cons (.iff (.no (.va (.me "Sheet" "lift" 1 (.v 0) (.cons (.v 1) .nil)))) (.cons (.rt (.b Ä)) .nil) .nil) .nil)
   (.cons (.as (.me "Sheet" "moving_column" 2 (.v 0) (.cons (.v 1) .nil)) (.nm 3)) (.cons (.iff (.cmp .IsNot (.v 3) .n) (.cons (.ex (.me "Sheet" "exchange" 3 (.v 0) (.cons (.v 1) (.cons (.v 3) .nil)))) .nil) .nil) .nil)))
   (.cons (.ex (.me "Sheet" "nail" 4 (.v 0) (.cons (.v 2) .nil))) (.cons (.rt (.b Ã)) .nil))) [Rs k,Is p,Is (S0.s p:Int),Á] t).bind au=À r->c4 [.ref k,.int p] st=À r:=fun h=>by
  rw[c4,ay];unfold kg;exact ag (sl':=[Rs k,Is p,Is (S0.s p:Int),Á]) (st':=st) (by simp[R.ins,R.side P f]) (ag Z h)
 by_cases low:d.t p w<0
 ·obtain⟨S,F,a2,l,bb,O,R2,K,h⟩:=Aj H s E f W V
  rcases h with⟨rfl,U,A⟩|⟨rfl,U,A⟩
  ·obtain⟨x,N,C⟩:=tN (q:=S0.s p) R2 (by rw[K.nl,y];exact Y)
   have M:ins S.nl (S0.s p)=S.nl++[S0.s p]:=yI (by rw[K.nl,y];exact J);rw[M]at C;have A:=A low;rw[B]at A;refine bk ⟨{ S with nl:=S.nl++[S0.s p] },x,a2,l,Ã,hd ?_,C,⟨(D S K).tn,(D S K).si⟩,K.gd.trans g1,A,.inl ⟨rfl,by rw[K.nl,y]⟩⟩;simp[s.ins,s.line z f,s.last z f,low,O,gg,cj,dr,R2.ins,N]
  ·refine bk ⟨S,F,a2,l,Ä,hd ?_,R2,D S K,K.gd.trans g1,U,.inr ⟨rfl,K.nl.trans y,A.1.trans (B p),A.2⟩⟩
   simp[s.ins,s.line z f,s.last z f,low,O,gg,cj,dr]
 ·have Q:d.t p w=0:=by lia
  obtain⟨o,O,U,A⟩:=Lb s z H.hw f;cases o with
  |none =>
   obtain⟨x,N,C⟩:=tN (q:=S0.s p) s (by rw[y];exact Y);have M:ins d.nl (S0.s p)=d.nl++[S0.s p]:=yI (by rw[y];exact J);rw[M]at C;have L:=E.nail f Q (U rfl);rw[B]at L;refine bk ⟨{ d with nl:=d.nl++[S0.s p] },x,a,e,Ã,hd ?_,C,⟨(D d Kept.refl).tn,(D d Kept.refl).si⟩,g1,L,.inl ⟨rfl,by rw[y]⟩⟩;simp[s.ins,s.line z f,s.last z f,Q,O,oN,N]
  |some q =>
   obtain⟨q1,q2,q3⟩:=A q rfl;have d0:d.d≠0:=by have:=E.lin.pos;lia
   obtain⟨F,a2,l,e4,R2⟩:=pP s z (H.bd E) d0 H.hw H.hm f q1;obtain⟨x,N,C⟩:=tN (q:=S0.s p) R2 (by show d.nl.length<=1000;rw[y];exact Y);have M:ins (Qj d p q).nl (S0.s p)=d.nl++[S0.s p]:=yI (by show S0.s p∉d.nl;rw[y];exact J);rw[M]at C;obtain⟨L,K⟩:=E.move f q1 q2 Q q3;rw[B]at L;refine bk ⟨{ Qj d p q with nl:=d.nl++[S0.s p] },x,a2,l,Ã,hd ?_,C,⟨(D _ K).tn,(D _ K).si⟩,g1,L,.inl ⟨rfl,by rw[y]⟩⟩;simp[s.ins,s.line z f,s.last z f,Q,O,oN,e4,R2.ins,N]
end
open SX (openS)
structure Gv where
 row:List Int
 eq:Bool
 num:Int
def Gv.av(x:Gv):AV:=.tup [.fz (iL x.row),.str (if x.eq then "=" else ">"),.int x.num]
def am(RR:List (List Int))(gv:List Gv)(goal:List Int):List (List Int):=RR.map (·++[0])++gv.map (fun x=>x.row++[-x.num])++[goal.map (fun x=>- x)++[0]]
section
variable{w:Nat}{L RR:List (List Int)}{gv:List Gv}{goal:List Int}
abbrev rp:List (Í×AV):=[("below",.int 1)]
abbrev JC:List (Í×AV):=[("below",.int 1),("lines",.ref 2)]
abbrev JB:List (Í×AV):=[("below",.int 1),("lines",.ref 2),("heads",.ref 3)]
abbrev JA:List (Í×AV):=[("below",.int 1),("lines",.ref 2),("heads",.ref 3),("sides",.ref 4)]
abbrev Jz:List (Í×AV):=[("below",.int 1),("lines",.ref 2),("heads",.ref 3),("sides",.ref 4),("guarded",.ref 5)]
abbrev Jy:List (Í×AV):=[("below",.int 1),("lines",.ref 2),("heads",.ref 3),("sides",.ref 4),("guarded",.ref 5),("nailed",.ref 6)]
abbrev OH(w:Nat)(L:List (List Int)):aa:=[.lst (aJ L),.ins "Sheet" (dI 1 2 3 4 5 6 7),.lst (aJ L),.lst (nL (È w)),.lst (nL ((È L.length).map (w+·))),.dK [],.dK [],.dK []]
theorem Je(i:w<=100)(m:L.length<=400):aL [.ref 1,.int w,.ref 0] [.lst (aJ L),.ins "Sheet" []]=À (.non,[.lst (aJ L),.ins "Sheet" (dI 1 2 3 4 5 6 7),.lst (aJ L),.lst (nL (È w)),.lst (nL ((È L.length).map (w+·))),.dK [],.dK [],.dK []]):=by
 have b:qT (w:Int)=Ã:=by unfold qT;simp;lia
 have a:qT ((w:Int)+(L.length:Int))=Ã:=by unfold qT;simp;lia
 have c:∀X:aa,cj (.lst (aJ L)::X) (.ref 0)=À (aJ L):=fun X=>cC rfl
 rw[aL,ay];unfold gK;refine ag (st':=[.lst (aJ L),.ins "Sheet" rp]) (jb (v:=.int 1) (st':=[.lst (aJ L),.ins "Sheet" []]) (k:=1) (fs:=[]) rfl rfl rfl rfl) ?_;refine ag (st':=[.lst (aJ L),.ins "Sheet" JC,.lst (aJ L)]) (jb (v:=.ref 2) (st':=[.lst (aJ L),.ins "Sheet" rp,.lst (aJ L)]) (k:=1) (fs:=rp) ?_ rfl rfl rfl) ?_
 ·have e:=xr (gd:=[(0,.lst (aJ L))]) (g:=cP [] (.nm 3)) (t:=kK [] .no) (f:=ev [] (.nw Ä (.lof (.v 3)))) (sl:=[Rs 1,Is w,Rs 0,Á]) (st:=[.lst (aJ L),.ins "Sheet" rp]) (em:=fun l=>.fz (iL l)) (F:=fun l=>l) (xs:=L) (fW rfl) fun l j=>⟨_,rfl,rfl,by simp[qv]⟩
  rw [Y6] at e;have h:iX [(0,.lst (aJ L))] (cP [] (.nm 3)) (kK [] .no) (ev [] (.nw Ä (.lof (.v 3)))) [Rs 1,Is w,Rs 0,Á] (aJ L) [.lst (aJ L),.ins "Sheet" rp]=À (aJ L,[.lst (aJ L),.ins "Sheet" rp]):=e;have d:px [.lst (aJ L),.ins "Sheet" rp] (.ref 0)=À ⟨aJ L,[(0,.lst (aJ L))]⟩:=mW rfl;show ev [] (.nw Ã (.lc 1 (.e (.v 2)) (.nm 3) .no (.nw Ä (.lof (.v 3))))) [Rs 1,Is w,Rs 0] [.lst (aJ L),.ins "Sheet" rp]=_;simp [-aJ,d,cR (show L.length <= 1000 by lia),h]
 refine ag (st':=[.lst (aJ L),.ins "Sheet" JB,.lst (aJ L),.lst (nL (È w))]) (jb (v:=.ref 3) (st':=[.lst (aJ L),.ins "Sheet" JC,.lst (aJ L),.lst (nL (È w))]) (k:=1) (fs:=JC) ?_ rfl rfl rfl) ?_
 ·simp[xh,b,sA]
 refine ag (st':=[.lst (aJ L),.ins "Sheet" JA,.lst (aJ L),.lst (nL (È w)),.lst (nL ((È L.length).map (w+·)))]) (jb (v:=.ref 4) (st':=[.lst (aJ L),.ins "Sheet" JB,.lst (aJ L),.lst (nL (È w)),.lst (nL ((È L.length).map (w+·)))]) (k:=1) (fs:=JB) ?_ rfl rfl rfl) ?_
 ·simp[xg,b,a,cF,eO,c]
  have e:((w:Int)+(L.length:Int)).toNat-w=L.length:=by lia
  rw[e,Ks,yJ oM];simp
 refine ag (st':=[.lst (aJ L),.ins "Sheet" Jz,.lst (aJ L),.lst (nL (È w)),.lst (nL ((È L.length).map (w+·))),.dK []]) (jb (v:=.ref 5) (st':=[.lst (aJ L),.ins "Sheet" JA,.lst (aJ L),.lst (nL (È w)),.lst (nL ((È L.length).map (w+·))),.dK []]) (k:=1) (fs:=JA) rfl rfl rfl rfl) ?_;refine ag (st':=[.lst (aJ L),.ins "Sheet" Jy,.lst (aJ L),.lst (nL (È w)),.lst (nL ((È L.length).map (w+·))),.dK [],.dK []]) (jb (v:=.ref 6) (st':=[.lst (aJ L),.ins "Sheet" Jz,.lst (aJ L),.lst (nL (È w)),.lst (nL ((È L.length).map (w+·))),.dK [],.dK []]) (k:=1) (fs:=Jz) rfl rfl rfl rfl) ?_;refine ag (st':=[.lst (aJ L),.ins "Sheet" (dI 1 2 3 4 5 6 7),.lst (aJ L),.lst (nL (È w)),.lst (nL ((È L.length).map (w+·))),.dK [],.dK [],.dK []]) (jb (v:=.ref 7) (st':=[.lst (aJ L),.ins "Sheet" Jy,.lst (aJ L),.lst (nL (È w)),.lst (nL ((È L.length).map (w+·))),.dK [],.dK [],.dK []]) (k:=1) (fs:=Jy) rfl rfl rfl rfl) ?_;rfl
theorem LM{k:Nat}(g:ev ks a sl st=À (.ref k,st))(f:ev ks e sl st=À (y,st))(b:st[k]?=À (.lst xs))(d:cj st y=À ys)(c:xs.length+ys.length<=1000):ev ks (.mt .ext a (.cons e .nil)) sl st=À (.non,st.set k (.lst (xs++ys))):=by
 simp[mJ,tU,tT,g,sY,cC b,f,t8,jf,b,d,cR c]
theorem Mc{k:Nat}(f:ev ks a sl st=À (.ref k,st))(d:ev ks e sl st=À (y,st))(b:st[k]?=À (.lst xs))(c:xs.length<=1000):ev ks (.mt .app a (.cons e .nil)) sl st=À (.non,st.set k (.lst (xs++[y]))):=by
 simp[mJ,tU,tT,f,sY,cC b,d,t9,jf,b,cR c]
theorem Ic{n:Int}(P:∀st,pm aY [.int n] st=À (.fz (aJ RR),st))(B:∀st,pm ah [.int n] st=À (.int w,st))(Q:w<=15)(T:RR.length<=100)(H:∀l∈RR,l.length=w)(S:gv.length<=100)(d:∀x∈gv,x.row.length=w)(j:goal.length=w) :
  ∃st',cw [.int n,.fz (gv.map Gv.av),.fz (iL goal)] []=À (.ref 1,st')/\Rep st' 1 2 3 4 5 6 7 (aJ (am RR gv goal)) (openS w (am RR gv goal) (w+RR.length)):=by
 have U:(am RR gv goal).length=RR.length+gv.length+1:=by simp[am];lia
 have O:Rep [.lst (aJ (am RR gv goal)),.ins "Sheet" (dI 1 2 3 4 5 6 7),.lst (aJ (am RR gv goal)),.lst (nL (È w)),.lst (nL ((È (am RR gv goal).length).map (w+·))),.dK [],.dK [],.dK []] 1 2 3 4 5 6 7 (aJ (am RR gv goal)) (openS w (am RR gv goal) 0):=by
  refine⟨rfl,rfl,rfl,rfl,rfl,rfl,rfl,by simp[openS],fun i x h=>.inl ?_,by decide,by decide,by decide,by decide,by decide,by decide,fun i r h=>?_⟩
  ·unfold aJ at h
   rw[zR]at h;obtain⟨l,u,rfl⟩:=zE.mp h;show _=AV.fz (iL ((am RR gv goal).getD i []));rw[zD,u];rfl
  ·unfold aJ at h
   rw[zR]at h;obtain⟨l,u,m⟩:=zE.mp h;cases m
 obtain⟨sl',st',e,x,rfl,A⟩:=fX (gd:=[]) (g:=cP [aY,ah,aL,aW] (.nm 6)) (s:=ae [aY,ah,aL,aW] (.cons (.ex (.me "Sheet" "guard" 3 (.v 5) (.cons (.v 6) .nil))) .nil))
  (I:=fun i sl s=>∃x,sl=[Is n,Zs (gv.map Gv.av),Ls goal,Rs 0,Is ((w:Int)+(RR.length:Int)),Rs 1,x]/\Rep s 1 2 3 4 5 6 7 (aJ (am RR gv goal)) (openS w (am RR gv goal) i)) (xs:=eu 0 (w+RR.length)) (fun _ _ _ _ _=>rfl)
  (fun i y sl s a K=>by
   obtain⟨x,rfl,R⟩:=K;rw[sA]at a;have p:i<w+RR.length:=by have:=(zB.mp a).1;simpa using this
   have M:y=.int ((i:Nat):Int):=by
    rw[io (by simpa using p)]at a;injection a with a;rw[<- a];simp[zD,p]
   subst M;obtain⟨C,N,z⟩:=wn (q:=i) R (by simp[openS];lia);refine⟨_,[Is n,Zs (gv.map Gv.av),Ls goal,Rs 0,Is ((w:Int)+(RR.length:Int)),Rs 1,Is ((i:Nat):Int)],C,rfl,?_,_,rfl,?_⟩
   ·simp[R.ins,N]
   ·have:ins (È i) i=È (i+1):=by unfold ins;rw[yI (by simp),g?]
    have m:{ openS w (am RR gv goal) i with gd:=ins (openS w (am RR gv goal) i).gd i }=openS w (am RR gv goal) (i+1):=by show Sh.mk _ _ _ _ (ins (È i) i) _ _=_;rw[this];rfl
    rw[m]at z;exact z) (sl:=[Is n,Zs (gv.map Gv.av),Ls goal,Rs 0,Is ((w:Int)+(RR.length:Int)),Rs 1,Á]) (st:=_) ⟨Á,rfl,O⟩
 have E:(eu 0 (w+RR.length)).length=w+RR.length:=by rw[sA];simp
 rw[E]at A;refine⟨st',?_,A⟩;rw[cw,ay];unfold ic;refine ag (sl':=[Is n,Zs (gv.map Gv.av),Ls goal,Rs 0,Á,Á,Á]) (st':=[.lst (aJ (RR.map (·++[0])))]) ?_ ?_
 ·have c:=xr (gd:=[]) (g:=cP [aY,ah,aL,aW] (.nm 7)) (t:=kK [aY,ah,aL,aW] .no) (f:=ev [aY,ah,aL,aW] (.nw Ä (.cat (.v 7) (.nw Ä (.li (.cons (.i 0) .nil))))))
   (sl:=[Is n,Zs (gv.map Gv.av),Ls goal,Á,Á,Á,Á,Á]) (st:=[]) (em:=fun l=>.fz (iL l)) (F:=fun l=>l++[0]) (xs:=RR) rfl fun l J=>⟨_,rfl,rfl,by
    rw[dO,mC (l:=l) (l':=[0]) (s1:=[]) (s2:=[]) (y:=.fz (iL [0])) rfl (by simp[fE,iL]) rfl rfl (by rw[H l J];simp;lia)];simp⟩
  have b:iX [] (cP [aY,ah,aL,aW] (.nm 7)) (kK [aY,ah,aL,aW] .no) (ev [aY,ah,aL,aW] (.nw Ä (.cat (.v 7) (.nw Ä (.li (.cons (.i 0) .nil)))))) [Is n,Zs (gv.map Gv.av),Ls goal,Á,Á,Á,Á,Á] (aJ RR) []=À (aJ (RR.map (·++[0])),[]):=c;simp [P,cR (show RR.length <= 1000 by lia),b]
 have G:∀(x:List AV)(X:aa),cj (.lst x::X) (.ref 0)=À x:=fun x X=>cC rfl
 refine ag (sl':=[Is n,Zs (gv.map Gv.av),Ls goal,Rs 0,Is ((w:Int)+(RR.length:Int)),Á,Á]) (st':=[.lst (aJ (RR.map (·++[0])))]) (by simp[B,cF,eO,G]) ?_;refine ag (sl':=[Is n,Zs (gv.map Gv.av),Ls goal,Rs 0,Is ((w:Int)+(RR.length:Int)),Á,Á]) (st':=[.lst (aJ (RR.map (·++[0]))++aJ (gv.map fun x=>x.row++[-x.num]))]) ?_ ?_
 ·rw[GY,LM (k:=0) (xs:=aJ (RR.map (·++[0]))) (ys:=aJ (gv.map fun x=>x.row++[-x.num])) (y:=.fz (aJ (gv.map fun x=>x.row++[-x.num]))) rfl ?_ rfl rfl (by simp;lia)]
  ·rfl
  ·have c:=xr (gd:=[]) (g:=cP [aY,ah,aL,aW] (.tu 3 (.cons (.nm 7) (.cons (.nm 8) (.cons (.nm 9) .nil))))) (t:=kK [aY,ah,aL,aW] .no) (f:=ev [aY,ah,aL,aW] (.nw Ä (.cat (.nw Ä (.lof (.v 7))) (.nw Ä (.li (.cons (.un .USub (.v 9)) .nil))))))
    (sl:=[Is n,Zs (gv.map Gv.av),Ls goal,Rs 0,Is ((w:Int)+(RR.length:Int)),Á,Á,Á,Á,Á]) (st:=[.lst (aJ (RR.map (·++[0])))]) (em:=Gv.av) (F:=fun x=>x.row++[-x.num]) (xs:=gv) rfl fun x o=>⟨_,rfl,rfl,by
     rw[dO,mC (l:=x.row) (l':=[-x.num]) (s1:=[.lst (aJ (RR.map (·++[0])))]) (s2:=[.lst (aJ (RR.map (·++[0])))]) (x:=.fz (iL x.row)) (y:=.fz (iL [-x.num])) (by simp[qv]) (by simp[fE,iL]) rfl rfl (by rw[d x o];simp;lia)];simp⟩
   simp [cR (show gv.length <= 1000 by lia),c]
 refine ag (sl':=[Is n,Zs (gv.map Gv.av),Ls goal,Rs 0,Is ((w:Int)+(RR.length:Int)),Á,Á]) (st':=[.lst (aJ (am RR gv goal))]) ?_ ?_
 ·rw[GY,Mc (k:=0) (xs:=aJ (RR.map (·++[0]))++aJ (gv.map fun x=>x.row++[-x.num])) (y:=.fz (iL (goal.map (fun x=>- x)++[0]))) rfl ?_ rfl (by simp;lia)]
  ·rw[Â]
   have:aJ (RR.map (·++[0]))++aJ (gv.map fun x=>x.row++[-x.num])++[AV.fz (iL (goal.map (fun x=>- x)++[0]))]=aJ (am RR gv goal):=by
    simp[am,aJ]
   show À (Out.nx _ [.lst (_++[_])])=_;rw[this]
  ·rw[dO,mC (l:=goal.map fun x=>- x) (l':=[0]) (s1:=[.lst (aJ (RR.map (·++[0]))++aJ (gv.map fun x=>x.row++[-x.num]))]) (s2:=[.lst (aJ (RR.map (·++[0]))++aJ (gv.map fun x=>x.row++[-x.num]))]) (x:=.fz (iL (goal.map fun x=>- x))) (y:=.fz (iL [0])) ?_ (by simp[fE,iL]) rfl rfl (by simp[j];lia)]
   ·simp
   ·simp [cR (show goal.length <= 1000 by lia)]
    rw[mV (F:=fun x=>- x) iu fun x o=>⟨_,rfl,rfl,by simp⟩];simp
 refine ag (sl':=[Is n,Zs (gv.map Gv.av),Ls goal,Rs 0,Is ((w:Int)+(RR.length:Int)),Rs 1,Á]) (st':=OH w (am RR gv goal)) ?_ ?_
 ·have:=Je (w:=w) (L:=am RR gv goal) oM oM
  simp[AX,B,this]
 ·refine ag (sl':=[Is n,Zs (gv.map Gv.av),Ls goal,Rs 0,Is ((w:Int)+(RR.length:Int)),Rs 1,x]) (st':=st') ?_ (by simp)
  have D:gC ((w:Int)+(RR.length:Int))=Ã:=by
   unfold gC;refine yM ?_;have:((w:Int)+(RR.length:Int)).natAbs=w+RR.length:=by lia
   rw[this];by_cases v:w+RR.length=0
   ·rw[v];decide
   ·exact y0 ((Ĉ v).mpr oM)
  simp[Dy,D];rw[show((w:Int)+(RR.length:Int)).toNat=w+RR.length by lia];exact e
end
noncomputable def gL(l:List Int):Nat:=l.foldl (fun g x=>ă g x.natAbs) 0
def ao(l:List Int):List Int:=if gL l=0 then l else l.map fun x=>x/(gL l:Int)
theorem CD{d o:Nat}:ă o (d%o)=ă d o:=by rw[Z8,<- Nat.gcd_rec,Z8]
theorem OX:∀(o d:Nat)(y:Option AV),∃y',cT [] (.wh (.cmp .NotEq (.v 3) (.i 0)) (.cons (.as (.bin .Mod (.v 1) (.v 3)) (.nm 4)) (.cons (.as (.v 3) (.nm 1)) (.cons (.as (.v 4) (.nm 3)) .nil)))) [l,Is d,x,Is o,y] st=À (.nx [l,Is (ă d o:Nat),x,Is 0,y'] st):=by
 intro o
 induction o using W2 with
 |_ o ih =>
  intro d y;by_cases h:o=0
  ·subst h
   refine⟨y,?_⟩;rw[Nat.gcd_zero_right];exact oU (n:=1) (mO (by simp))
  ·obtain⟨y',e⟩:=ih (d%o) (ŉ _ oM) o (À (.int ((d%o:Nat):Int)))
   obtain⟨n,a⟩:=zt e;refine⟨y',?_⟩;rw[CD]at a;refine oU (n:=n+1) (qb (st':=st) (by simp;lia) ?_ a);have c:(o:Int)≠0:=by lia
   have b:rn (d:Int) (o:Int)=((d%o:Nat):Int):=by unfold rn;rw[yJ oM];simp
   simp[iJ c,b]
theorem AB:gL (a++b)=b.foldl (fun g x=>ă g x.natAbs) (gL a):=by unfold gL;rw[Ϯ]
theorem uA:∀b:List Int,b.foldl (fun g x=>ă g x.natAbs) 1=1
 |[]=>rfl
 |x::b=>by rw[Õ,Nat.gcd_one_left];exact uA b
theorem N8:∃r,dk [.fz (iL l)] st=À (r,st)/\r=.int (gL l:Int):=by
 have o:=m6 (gd:=[]) (g:=cP [] (.nm 2)) (s:=ae [] (.cons (.as (.bi .abs (.cons (.v 2) .nil)) (.nm 3)) (.cons (.wh (.cmp .NotEq (.v 3) (.i 0)) (.cons (.as (.bin .Mod (.v 1) (.v 3)) (.nm 4)) (.cons (.as (.v 3) (.nm 1)) (.cons (.as (.v 4) (.nm 3)) .nil)))) (.cons (.iff (.cmp .Eq (.v 1) (.i 1)) (.cons (.rt (.i 1)) .nil) .nil) .nil))))
  (I:=fun i sl s=>s=st/\∃x y z,sl=[Ls l,Is (gL (l.take i):Nat),x,y,z]) (Post:=fun v s=>s=st/\v=.int (gL l:Nat)) (xs:=iL l) (fun _ _ _ _ _=>rfl)
  (fun i x sl s b q=>by
   obtain⟨rfl,u,k,c,rfl⟩:=q;have f:i<l.length:=by have:=(zB.mp b).1;simpa using this
   rw[de f]at b;injection b with b;subst b;have n:l.take (i+1)=l.take i++[gI l i]:=by
    rw[W4,zF f];unfold gI;rw[zD,zF f];rfl
   have p:gL (l.take (i+1))=ă (gL (l.take i)) (gI l i).natAbs:=by rw[n,AB];rfl
   obtain⟨j,e⟩:=OX (l:=À (.fz (iL l))) (x:=À (.int (gI l i))) (st:=s) (gI l i).natAbs (gL (l.take i)) c;rw[<- p]at e;have t:lB s [.int (gI l i)]=À (.int ((gI l i).natAbs:Nat)):=by
    show À (AV.int (if gI l i<0 then-gI l i else gI l i))=_;congr 2;split<;>lia
   have a:cT [] (.as (.bi .abs (.cons (.v 2) .nil)) (.nm 3)) [Ls l,Is (gL (l.take i):Nat),Is (gI l i),k,c] s=À (.nx [Ls l,Is (gL (l.take i):Nat),Is (gI l i),Is ((gI l i).natAbs:Nat),c] s):=by
    simp[cF,t]
   by_cases h:gL (l.take (i+1))=1
   ·refine⟨_,.rt (.int 1) s,rfl,aj a (aj e ?_),.inr ⟨_,s,rfl,rfl,?_⟩⟩
    ·simp[h]
    ·have:gL l=1:=by
      have:l=l.take (i+1)++l.drop (i+1):=(List.take_append_drop _ _).symm;rw[this,AB,h,uA]
     rw[this];rfl
   ·refine⟨_,.nx [Ls l,Is (gL (l.take (i+1)):Nat),Is (gI l i),Is 0,j] s,rfl,aj a (aj e ?_),.inl ⟨_,s,rfl,rfl,_,_,_,rfl⟩⟩
    have:¬((gL (l.take (i+1)):Nat):Int)=1:=by lia
    simp[this]) (sl:=[Ls l,Is 0,Á,Á,Á]) (st:=st) ⟨rfl,Á,Á,Á,rfl⟩
 rcases o with⟨m,d,e,rfl,x,y,z,rfl⟩|⟨v,d,e,rfl,rfl⟩
 ·refine⟨_,?_,rfl⟩
  rw[kC,ĭ]at e;simp[dk,ay,fq,e]
 ·refine⟨_,?_,rfl⟩
  simp[dk,ay,fq,e]
theorem AA:∀x∈l,gL l ∣ x.natAbs:=by
 have f:∀(b:List Int)(g:Nat),(b.foldl (fun g x=>ă g x.natAbs) g) ∣ g/\∀x∈b,(b.foldl (fun g x=>ă g x.natAbs) g) ∣ x.natAbs:=fun b=>by
  induction b with
  |nil=>intro g;exact⟨Nat.dvd_refl g,fun x a=>by cases a⟩
  |cons y b d =>
   intro g;obtain⟨c,e⟩:=d (ă g y.natAbs);refine⟨Y5 c (V8 _ _),fun x a=>?_⟩;rcases zT.mp a with rfl|a
   ·exact Y5 c (U2 _ _)
   ·exact e x a
 exact(f l 0).2
theorem LD{B:Nat}(hB:0<B)(h:∀x∈l,x.natAbs<B):gL l<B:=by
 by_cases hz:∃x∈l,x≠0
 ·obtain⟨x,a,f⟩:=hz
  exact yN (Nat.le_of_dvd oM (AA x a)) (h x a)
 ·have:∀(b:List Int),(∀x∈b,x=0)->b.foldl (fun g x=>ă g x.natAbs) 0=0:=fun b=>by
   induction b with
   |nil=>intro _;rfl
   |cons y b d=>intro c;rw[Õ,c y z7];exact d fun x a=>c x (zQ _ a)
  have e:gL l=0:=this l fun x a=>ö fun z=>hz ⟨x,a,z⟩
  lia
theorem sG(b:l.length<=1000)(c:∀x∈l,x.natAbs<2^9000):ak [.fz (iL l)] []=À (.fz (iL (ao l)),[]):=by
 obtain⟨r,e,rfl⟩:=N8 (l:=l) (st:=[]);have a:∀st,pm dk [.fz (iL l)] st=À (.int (gL l:Int),st):=fun st=>aM rfl e rfl
 unfold ao;by_cases h:gL l=0
 ·rw[yJ h]
  simp[ak,ay,eK,a,h,qv]
 ·rw[yI h]
  have d:¬((gL l:Nat):Int)=0:=by lia
  have f:hU ((gL l:Nat):Int)=Ã:=pV d (by rw[Ģ];exact LD (Ñ _) c);simp[ak,ay,eK,a,h,cR b];rw[mV (F:=fun x=>x/(gL l:Int)) iu fun x g=>⟨_,rfl,rfl,by
   simp[ly f];unfold uB;rw[yJ oM]⟩]
  simp
theorem uc(a:l.length<=1000)(b:∀x∈l,x.natAbs<2^9000):pm ak [.fz (iL l)] st=À (.fz (iL (ao l)),st):=aM rfl (sG a b) rfl
theorem jr:(ao l).length=l.length:=by unfold ao;split<;>simp
theorem Jv{a b:Int}(j:a.natAbs<2^9000)(h:b.natAbs<2^9000):pm dJ [.int a,.int b] st=À (.tup [.int (gI (ao [a,b]) 0),.int (gI (ao [a,b]) 1)],st):=by
 have e:=uc (l:=[a,b]) (st:=[]) (by simp) (fun x c=>by simp at c;rcases c with rfl|rfl<;>assumption);have k:(ao [a,b]).length=2:=jr;have f:aZ [] (.fz (iL (ao [a,b]))) (.int 0)=À (.int (gI (ao [a,b]) 0)):=by
  have:=dF (st:=[]) (x:=.fz (iL (ao [a,b]))) (i:=((0:Nat):Int)) dR;rw[di,de oM]at this;exact this
 have d:aZ [] (.fz (iL (ao [a,b]))) (.int 1)=À (.int (gI (ao [a,b]) 1)):=by
  have:=dF (st:=[]) (x:=.fz (iL (ao [a,b]))) (i:=((1:Nat):Int)) dR;rw[di,de oM]at this;exact this
 refine aM rfl (v:=.tup [.int (gI (ao [a,b]) 0),.int (gI (ao [a,b]) 1)]) (st':=[]) ?_ rfl;have g:pm ak [.fz [.int a,.int b]] []=À (.fz (iL (ao [a,b])),[]):=e;simp[dJ,ay,gk,fE,g,f,d]
structure GX(S:Sh)(w cc k:Nat)(X:List Int):Prop where
 len:X.length=w
 at_:∀i,i<k->S.s i<w->gI X (S.s i)=S.t i cc
 no:∀q,q<w->(∀i,i<k->S.s i≠q)->gI X q=0
section
variable{st:aa}{k a b c g n u w m:Nat}{rows:List AV}{S:Sh}{v:Nat->Nat->Int}{nn:Int}
theorem Dj{j:Nat}(h:ev ks e sl st=À (.int (j:Int),st))(c:j<=1000):i9 ks (.rep (.cons (.i 0) .nil) e) sl st=À (iL (É j 0),st):=by
 rw[La];unfold xf;have d:fK ks (.cons (.i 0) .nil) sl st=À ([.int 0],st):=rfl;rw[d,Â];dsimp only;rw[h,Â];dsimp only;have b:gC (j:Int)=Ã:=by
  unfold gC;refine yM ?_;rw[Ģ];by_cases a:j=0
  ·rw[a];decide
  ·exact y0 ((Ĉ a).mpr (yN c dC))
 rw[b,cR (n:=[AV.int 0].length*((j:Int)).toNat) (by simp;lia),cR (n:=[AV.int 0].length) (by simp)];show À _=À _;congr 2;show(É j [AV.int 0]).flatten=iL (É j 0);unfold iL
 induction j with
 |zero=>rfl
 |succ j f=>rw[ì,č,ì,zO];simp
theorem uw{j q:Nat}:gI (É j 0) q=0:=by
 unfold gI;rw[zD,Ă];split<;>rfl
theorem DB(R:Rep st k a b c g n u rows S)(P:Ql w m S)(Q:SX.Pm w m S.h S.s)(J:∀st,pm ah [.int nn] st=À (.int w,st))(K:w<=100)(L:m<=1000){cI:Int}{cc:Nat}
  (H:∀{s:aa}{a:Nat}{rows:List AV},Rep s k a b c g n u rows S->∀i,i<m->aZ s (lS rows i) (.int cI)=À (.int (S.t i cc))) :
  ∃X,dE [.int nn,.ref k,.int cI] st=À (.ref st.length,st++[.lst (iL X)])/\GX S w cc m X:=by
 have sl:S.sd.length=m:=P.sd;obtain⟨sl',st',e,X,t,r,rfl,rfl,d⟩:=fX (gd:=[(c,.lst (nL S.sd))]) (g:=cP [ah] (.tu 2 (.cons (.nm 4) (.cons (.nm 5) .nil)))) (s:=ae [ah] (.cons (.iff (.cmp .Lt (.v 5) (.bi .len (.cons (.v 3) .nil))) (.cons (.as (.ix (.ix (.fd "Sheet" "lines" (.v 1)) (.v 4)) (.v 2)) (.su (.v 3) (.v 5))) .nil) .nil) .nil))
  (I:=fun i sl s=>∃X t r,s=st++[.lst (iL X)]/\sl=[Is nn,Rs k,Is cI,Rs st.length,t,r]/\GX S w cc i X) (xs:=fL 0 (nL S.sd)) (fun i sl s _ E=>by obtain⟨X,_,_,rfl,_⟩:=E;exact fW (R.app (ys:=[_])).hc)
  (fun i y sl s G E=>by
   obtain⟨X,t,r,rfl,rfl,d⟩:=E;obtain⟨x,f,rfl⟩:=pR G;have A:i<m:=by have:=(zB.mp f).1;simpa [sl] using this
   have B:(nL S.sd)[i]?=À (.int ((S.s i:Nat):Int)):=io oM;rw[B]at f;injection f with f;subst f;have p:=R.app (ys:=[Qd.lst (iL X)]);have F:cj (st++[Qd.lst (iL X)]) (.ref st.length)=À (iL X):=cC gl;by_cases h:S.s i<w
   ·refine⟨_,[Is nn,Rs k,Is cI,Rs st.length,Is i,Is (S.s i:Int)],st++[.lst (iL (X.set (S.s i) (S.t i cc)))],rfl,?_,X.set (S.s i) (S.t i cc),_,_,rfl,rfl,?_⟩
    ·have o:=eP (x:=.int (S.t i cc)) (gl (st:=st) (e:=Qd.lst (iL X))) (show S.s i < (iL X).length by simp [d.len,h])
     rw[iO,gB]at o;have l:S.s i<X.length:=by rw[d.len];exact h
     simp[cF,eO,F,l,p.ins,p.line P A,H p i A,o]
    ·refine⟨by simp[d.len],fun j D o=>?_,fun q C v=>?_⟩
     ·by_cases e:j=i
      ·subst e;rw[SX.gI_set_at (by rw[d.len];exact h)]
      ·rw[SX.gI_set_ne (fun z=>e (Q.si j i oM A z))];exact d.at_ j oM o
     ·rw[SX.gI_set_ne (fun z=>v i oM z.symm)];exact d.no q C fun j D=>v j oM
   ·refine⟨_,[Is nn,Rs k,Is cI,Rs st.length,Is i,Is (S.s i:Int)],st++[.lst (iL X)],rfl,?_,X,_,_,rfl,rfl,?_⟩
    ·have l:¬S.s i<X.length:=by rw[d.len];exact h
     simp[cF,eO,F,l]
    ·refine⟨d.len,fun j D o=>?_,fun q C v=>d.no q C fun j D=>v j oM⟩
     by_cases e:j=i
     ·subst e;exact absurd o h
     ·exact d.at_ j oM o) (sl:=[Is nn,Rs k,Is cI,Rs st.length,Á,Á]) (st:=st++[.lst (iL (É w 0))]) ⟨_,Á,Á,rfl,rfl,by simp,fun i A=>by lia,fun q _ _=>uw⟩
 rw[m8,g6,sl]at d;refine⟨X,?_,d⟩;rw[dE,ay];unfold fN;refine ag (sl':=[Is nn,Rs k,Is cI,Rs st.length,Á,Á]) (st':=st++[.lst (iL (É w 0))]) ?_ ?_
 ·rw[bH,Bk,Dj (j:=w) (by simp[J]) oM];rfl
 refine ag (sl':=[Is nn,Rs k,Is cI,Rs st.length,t,r]) (st':=st++[.lst (iL X)]) ?_ (by simp);have p:=R.app (ys:=[Qd.lst (iL (É w 0))]);simp[p.ins,kB p.hc];exact e
theorem wg{n:Nat}:(iL l).take n=iL (l.take n):=by unfold iL;rw[Ϝ]
theorem FT{n:Nat}:(iL l).drop n=iL (l.drop n):=by unfold iL;rw[ϝ]
theorem uV{n:Nat}(a:l.length=n+1):cut (iL l) Á (À (-1))=iL (l.take n):=by
 unfold cut;rw[kC,a,HT.sIx_none,Ś];have:HT.Qn (n+1) (n+1) (À (-1))=n:=by
  show(if(-1:Int)<0 then((-1:Int)+((n+1:Nat):Int)).toNat else min (-1:Int).toNat (n+1))=n;rw[yJ dC];lia
 rw[this,M!,wg]
theorem F7{w m:Nat}(a:l.length=w+(m+1)):cut (iL l) (À (w:Int)) (À (-1))=iL ((l.drop w).take m):=by
 unfold cut;rw[kC,a,HT.sIx_nat];have:HT.Qn (w+(m+1)) (w+(m+1)) (À (-1))=w+m:=by
  show(if(-1:Int)<0 then((-1:Int)+((w+(m+1):Nat):Int)).toNat else min (-1:Int).toNat (w+(m+1)))=w+m;rw[yJ dC];lia
 rw[this,ð oM,FT,wg,show w+m-w=m by lia]
theorem Ae{d:Int}(k:X.length<=100)(j:∀x∈X,x.natAbs<2^9000)(hd:d.natAbs<2^9000):ce [.fz (iL X),.int d] []=À (.tup [.fz (iL ((ao (X++[d])).take X.length)),.int (gI (ao (X++[d])) X.length)],[]):=by
 have f:(ao (X++[d])).length=X.length+1:=by rw[jr];simp
 have e:=uc (l:=X++[d]) (st:=[]) (by simp;lia) fun x i=>by
  rcases zZ.mp i with h|h
  ·exact j x h
  ·rw[zM.mp h];exact hd
 have g:aZ [] (.fz (iL (ao (X++[d])))) (.int (-1))=À (.int (gI (ao (X++[d])) X.length)):=by
  rw[dF dR,qL (n:=X.length) (by simp[f]),de oM]
 rw[ce,ay];unfold iz;refine ag (sl':=[Ls X,Is d,Ls (ao (X++[d]))]) (st':=[]) ?_ ?_
 ·have c:=mC (ks:=[ak]) (a:=.v 0) (b:=.nw Ä (.li (.cons (.v 1) .nil))) (sl:=[Ls X,Is d,Á]) (st:=[]) (s1:=[]) (s2:=[]) (x:=.fz (iL X)) (y:=.fz (iL [d])) (l:=X) (l':=[d]) rfl (by simp[fE,iL]) rfl rfl (by simp;lia)
  simp[-sF,c,e]
 ·simp[nE,o6,uV f,g]
theorem Dd(R:Rep st k a b c g n u rows S)(P:Ql w m S)(Q:SX.Pm w m S.h S.s)(B:Bd w m S)(H:∀st,pm ah [.int nn] st=À (.int w,st))(y:w<=100)(C:m<=1000) :
  ∃X T st1,bt [.int nn,.ref k] st=À (.tup [.fz (iL T),.int (gI (ao (X++[S.d])) w)],st1)/\T=(ao (X++[S.d])).take w/\GX S w w m X/\Rep st1 k a b c g n u rows S:=by
 obtain⟨X,e,f⟩:=DB (cI:=-1) (cc:=w) R P Q H y C fun G i d=>G.last P d
 have D:∀x∈X,x.natAbs<2^9000:=fun x v=>by
  obtain⟨q,o⟩:=yA v;have j:=(zB.mp o).1;rw[f.len]at j;have p:gI X q=x:=by unfold gI;rw[zD,o];rfl
  by_cases h:∃i,i<m/\S.s i=q
  ·obtain⟨i,d,rfl⟩:=h
   rw[<- p,f.at_ i d j];exact B.2 i d w oM
  ·rw[<- p,f.no q j fun i d z=>h ⟨i,d,z⟩];exact Ñ _
 obtain⟨st1,t,E⟩:=lT (fn:=ce) (rest:=[.int S.d]) (x:=.ref st.length) (l:=X) (.inr ⟨_,rfl,.inl (gl (st:=st) (e:=.lst (iL X)))⟩) rfl rfl (fun s=>by simp[pL,rg]) (Ae (by rw[f.len];lia) D B.1) rfl (by simp[flat,pO]);refine⟨X,_,st1,?_,rfl,f,?_⟩
 ·have F:=R.app (ys:=[Qd.lst (iL X)])
  rw[f.len]at t;simp[bt,ay,gF,e,F.ins,t]
 ·rcases E with rfl|⟨r,A,_,rfl⟩
  ·exact R.app
  ·cases A;rw[gB];exact R.app
theorem Kd(R:Rep st k a b c g n u rows S)(P:Ql w m S)(Q:SX.Pm w m S.h S.s)(B:Bd w m S)(L:∀st,pm ah [.int nn] st=À (.int w,st))(H:w<=100)(I:m<=1000){q:Nat}(D:q<w) :
  ∃X st1,cZ [.int nn,.ref k,.int q] st=À (.fz (iL (ao (if S.h q<w then X.set (S.h q) S.d else X))),st1)/\GX S w q m X:=by
 obtain⟨X,e,d⟩:=DB (cI:=q) (cc:=q) R P Q L H I fun K i o=>K.cell P o oM
 have F:∀x∈X,x.natAbs<2^9000:=fun x r=>by
  obtain⟨j,E⟩:=yA r;have t:=(zB.mp E).1;rw[d.len]at t;have G:gI X j=x:=by unfold gI;rw[zD,E];rfl
  by_cases h:∃i,i<m/\S.s i=j
  ·obtain⟨i,o,rfl⟩:=h
   rw[<- G,d.at_ i o t];exact B.2 i o q oM
  ·rw[<- G,d.no j t fun i o z=>h ⟨i,o,z⟩];exact Ñ _
 have p:=R.app (ys:=[Qd.lst (iL X)]);have A:cj (st++[Qd.lst (iL X)]) (.ref st.length)=À (iL X):=cC gl;by_cases h:S.h q<w
 ·have v:∀x∈X.set (S.h q) S.d,x.natAbs<2^9000:=fun x r=>by
   rcases Ċ r with h|h
   ·exact F x h
   ·rw[h];exact B.1
  obtain ⟨st1,y,J⟩:=lT (fn:=ak) (rest:=[]) (st:=st++[.lst (iL (X.set (S.h q) S.d))]) (x:=.ref st.length) (l:=X.set (S.h q) S.d) (.inr ⟨_,rfl,.inl gl⟩) rfl rfl (fun s=>rfl) (sG (by simp [d.len];lia) v) rfl (by simp [flat]);refine ⟨X,st1,?_,d⟩;rw [yJ h];have C:=eP (x:=.int S.d) (gl (st:=st) (e:=Qd.lst (iL X))) (show S.h q < (iL X).length by simp [d.len,h]);rw [iO,gB] at C;have f:S.h q < X.length:=by rw [d.len];exact h
  simp[cZ,ay,iI,e,p.ins,p.head P D,cF,eO,A,f,C,y]
 ·obtain⟨st1,y,J⟩:=lT (fn:=ak) (rest:=[]) (st:=st++[.lst (iL X)]) (x:=.ref st.length) (l:=X) (.inr ⟨_,rfl,.inl gl⟩) rfl rfl (fun s=>rfl) (sG (by simp[d.len];lia) F) rfl (by simp[flat])
  refine⟨X,st1,?_,d⟩;rw[yI h];have f:¬S.h q<X.length:=by rw[d.len];exact h
  simp[cZ,ay,iI,e,p.ins,p.head P D,cF,eO,A,f,y]
end
open SX (Qf)
structure TK(S:Sh)(w m p:Nat)(T:List Int):Prop where
 len:T.length=w+m
 hd:∀j,j<w->gI T (S.h j)=if S.h j∈S.tn then S.t p j else-S.t p j
 sd:gI T (S.s p)=if S.s p∈S.tn then-S.d else S.d
 no:∀q,q<w+m->(∀j,j<w->S.h j≠q)->q≠S.s p->gI T q=0
def wt(T:List Int)(HO:Nat->List Int)(w j k:Nat):Int:=gI T (w+k)+Qf j fun x=>gI T x*gI (HO (x+1)) k
section
variable{st:aa}{k a b c g n u w m p:Nat}{rows:List AV}{S:Sh}{nn:Int}{HO:Nat->List Int}
abbrev KW:List Fn:=[ah,dG,fx]
theorem qC{q x:Nat}{y:Int}(h:q<T.length):gI (T.set q y) x=if x=q then y else gI T x:=by
 by_cases e:x=q
 ·subst e;rw[yJ rfl,SX.gI_set_at h]
 ·rw[yI e,SX.gI_set_ne e]
theorem Er(R:Rep st k a b c g n u rows S)(P:Ql w m S)(Q:SX.Pm w m S.h S.s)(F:p<m)(nt:S.tn.Nodup)(ht:∀q∈S.tn,q<w+m)(hw:w<=100)(hm:m<=800){ss:Qm}{r:AV×aa->Prop}
  (h:∀T x1 x2,TK S w m p T->∃z,(ae KW ss [Is nn,Rs k,Is p,Rs st.length,x1,x2,Á,Á,Á,Á,Á] (st++[Qd.lst (iL T)])).bind au=À z/\r z) :
  ∃z,(ae KW (.cons (.as (.nw Ã (.rep (.cons (.i 0) .nil) (.bin .Add (.bi .len (.cons (.fd "Sheet" "heads" (.v 1)) .nil)) (.bi .len (.cons (.fd "Sheet" "sides" (.v 1)) .nil))))) (.nm 3))
   (.cons (.fo (.en (.fd "Sheet" "heads" (.v 1))) (.tu 2 (.cons (.nm 4) (.cons (.nm 5) .nil))) (.cons (.as (.un .USub (.ix (.ix (.fd "Sheet" "lines" (.v 1)) (.v 2)) (.v 4))) (.su (.v 3) (.v 5))) .nil))
   (.cons (.as (.fd "Sheet" "below" (.v 1)) (.su (.v 3) (.ix (.fd "Sheet" "sides" (.v 1)) (.v 2))))
   (.cons (.fd (.fd "Sheet" "turned" (.v 1)) (.nm 5) (.cons (.as (.un .USub (.ix (.v 3) (.v 5))) (.su (.v 3) (.v 5))) .nil)) ss)))) [Is nn,Rs k,Is p,Á,Á,Á,Á,Á,Á,Á,Á] st).bind au=À z/\r z:=by
 have lh:cj st (.ref b)=À (nL S.hd):=cC R.hb;have O:cj st (.ref c)=À (nL S.sd):=cC R.hc;refine aA (sl':=[Is nn,Rs k,Is p,Rs st.length,Á,Á,Á,Á,Á,Á,Á]) (st':=st++[Qd.lst (iL (É (w+m) 0))]) ?_ ?_
 ·rw[bH,Bk,Dj (j:=w+m) ?_ oM]
  ·rfl
  ·simp[R.ins,cF,eO,lh,O,P.hd,P.sd]
 obtain⟨sl',st',e,T,x1,x2,rfl,rfl,t,N,M⟩:=fX (gd:=[(b,.lst (nL S.hd))]) (g:=cP KW (.tu 2 (.cons (.nm 4) (.cons (.nm 5) .nil)))) (s:=ae KW (.cons (.as (.un .USub (.ix (.ix (.fd "Sheet" "lines" (.v 1)) (.v 2)) (.v 4))) (.su (.v 3) (.v 5))) .nil))
  (I:=fun i sl s=>∃T x1 x2,s=st++[Qd.lst (iL T)]/\sl=[Is nn,Rs k,Is p,Rs st.length,x1,x2,Á,Á,Á,Á,Á]/\T.length=w+m/\(∀j,j<i->gI T (S.h j)=- S.t p j)/\∀q,(∀j,j<i->S.h j≠q)->gI T q=0) (xs:=fL 0 (nL S.hd)) (fun i sl s _ K=>by obtain⟨X,_,_,rfl,_⟩:=K;exact fW (R.app (ys:=[_])).hb)
  (fun i y sl s A K=>by
   obtain⟨T,x1,x2,rfl,rfl,t,N,M⟩:=K;obtain⟨x,f,rfl⟩:=pR A;have v:i<w:=by have:=(zB.mp f).1;simpa [P.hd] using this
   have U:(nL S.hd)[i]?=À (.int ((S.h i:Nat):Int)):=io (by rw [P.hd];exact v);rw [U] at f;injection f with f;subst f;have l:=R.app (ys:=[Qd.lst (iL T)]);have W:=Q.hl i v;have o:=eP (x:=.int (- S.t p i)) (gl (st:=st) (e:=Qd.lst (iL T))) (show S.h i < (iL T).length by simp [t,W]);rw [iO,gB] at o;refine ⟨_,[Is nn,Rs k,Is p,Rs st.length,Is i,Is (S.h i:Int),Á,Á,Á,Á,Á],st++[Qd.lst (iL (T.set (S.h i) (- S.t p i)))],rfl,?_,T.set (S.h i) (- S.t p i),_,_,rfl,rfl,by simp [t],fun j G=>?_,fun q D=>?_⟩
   ·simp [l.ins,l.line P F,l.cell P F (show i < w + 1 by lia),o]
   ·rw[qC (by rw[t];exact W)]
    by_cases e:j=i
    ·subst e;rw[yJ rfl]
    ·rw[yI fun z=>e (Q.hi j i oM v z)];exact N j oM
   ·rw[qC (by rw[t];exact W),yI fun z=>D i oM z.symm];exact M q fun j G=>D j oM) (sl:=[Is nn,Rs k,Is p,Rs st.length,Á,Á,Á,Á,Á,Á,Á]) (st:=st++[Qd.lst (iL (É (w+m) 0))]) ⟨_,Á,Á,rfl,rfl,by simp,fun j G=>by lia,fun q _=>uw⟩
 rw[m8,g6,P.hd]at N M;refine aA (sl':=[Is nn,Rs k,Is p,Rs st.length,x1,x2,Á,Á,Á,Á,Á]) (st':=st++[Qd.lst (iL T)]) ?_ ?_
 ·have l:=R.app (ys:=[Qd.lst (iL (É (w+m) 0))])
  simp[l.ins,kB l.hb];exact e
 have l:=R.app (ys:=[Qd.lst (iL T)]);have sb:=Q.sl p F;have o:=eP (x:=.int S.d) (gl (st:=st) (e:=Qd.lst (iL T))) (show S.s p < (iL T).length by simp [t,sb]);rw [iO,gB] at o;refine aA (sl':=[Is nn,Rs k,Is p,Rs st.length,x1,x2,Á,Á,Á,Á,Á]) (st':=st++[Qd.lst (iL (T.set (S.s p) S.d))]) (by simp [l.ins,l.side P F,o]) ?_;have l2:(T.set (S.s p) S.d).length=w + m:=by simp [t]
 obtain⟨C,J⟩:∃x,x=T.set (S.s p) S.d:=⟨_,rfl⟩;rw[<- J]at l2 ⊢
 have Ru:=(R.app (ys:=[Qd.lst (iL C)])).hu;have E:u<st.length:=(zB.mp R.hu).1;obtain⟨sl',st',e,d,x2,rfl,rfl,L,B⟩:=fX (gd:=[]) (g:=cP KW (.nm 5)) (s:=ae KW (.cons (.as (.un .USub (.ix (.v 3) (.v 5))) (.su (.v 3) (.v 5))) .nil))
  (I:=fun i sl s=>∃d x2,s=(st++[Qd.lst (iL d)]).set u (.wk (kL S.tn))/\sl=[Is nn,Rs k,Is p,Rs st.length,x1,x2,Á,Á,Á,Á,Á]/\d.length=w+m/\∀q,gI d q=if q∈S.tn.take i then-gI C q else gI C q) (xs:=nL S.tn) (fun _ _ _ _ _=>rfl)
  (fun i y sl s A K=>by
   obtain⟨d,x2,rfl,rfl,L,B⟩:=K;have v:i<S.tn.length:=by have:=(zB.mp A).1;simpa using this
   rw[io v]at A;injection A with A;subst A;obtain⟨q,D⟩:∃q,q=S.tn.getD i 0:=⟨_,rfl⟩;rw[<- D];have qi:S.tn[i]=q:=by rw[D,zD,zF v];rfl
   have qm:q∈S.tn:=by rw[<- qi];exact Į v
   have ql:=ht q qm;have Z:S.tn.take (i+1)=S.tn.take i++[q]:=by rw[W4,zF v,qi];rfl
   have qn:q∉S.tn.take i:=fun z=>by
    have:=nt.sublist (U? (i+1) S.tn)
    rw[Z,ϭ]at this;exact this.2.2 q z q (by simp) rfl
   have gc:((st++[Qd.lst (iL d)]).set u (.wk (kL S.tn)))[st.length]?=À (.lst (iL d)):=by rw[aB (zU E)];exact gl
   have o:=eP (x:=.int (- gI d q)) gc (show q < (iL d).length by simp [L,ql]);have sc:((st++[Qd.lst (iL d)]).set u (.wk (kL S.tn))).set st.length (.lst (iL (d.set q (- gI d q))))=(st++[Qd.lst (iL (d.set q (- gI d q)))]).set u (.wk (kL S.tn)):=by
    rw[List.set_comm _ _ (zU E),gB]
   rw[iO,sc]at o;have xi:aZ ((st++[Qd.lst (iL d)]).set u (.wk (kL S.tn))) (.ref st.length) (.int (q:Int))=À (.int (gI d q)):=by rw[dF (cC gc),di,de oM]
   refine⟨_,[Is nn,Rs k,Is p,Rs st.length,x1,Is q,Á,Á,Á,Á,Á],(st++[Qd.lst (iL (d.set q (- gI d q)))]).set u (.wk (kL S.tn)),rfl,?_,_,_,rfl,rfl,by simp[L],fun x=>?_⟩
   ·simp[xi,o]
   ·rw[qC oM,Z]
    by_cases e:x=q
    ·subst e;rw[yJ rfl,yJ (by simp),B x,yI qn]
    ·rw[yI e,B x];simp[e]) (sl:=[Is nn,Rs k,Is p,Rs st.length,x1,x2,Á,Á,Á,Á,Á]) (st:=(st++[Qd.lst (iL C)]).set u (.wk (kL S.tn))) ⟨C,x2,rfl,rfl,l2,fun q=>by simp⟩
 rw[g6,ĭ]at B;refine aA (sl':=[Is nn,Rs k,Is p,Rs st.length,x1,x2,Á,Á,Á,Á,Á]) (st':=st++[Qd.lst (iL d)]) ?_ (h d x1 x2 ?_)
 ·have Rb:=R.app (ys:=[Qd.lst (iL C)])
  have ky:(kL S.tn).map (fun q=>pv q.1)=nL S.tn:=by unfold kL nL;rw[Ù];rfl
  have f1:(((st++[Qd.lst (iL d)]).set u (.wk (kL S.tn))))[u]?=À (.wk (kL S.tn)):=g9 (R.app (ys:=[Qd.lst (iL d)])).hu;have f2:((st++[Qd.lst (iL d)]).set u (.wk (kL S.tn))).set u (.dK (kL S.tn))=st++[Qd.lst (iL d)]:=by
   rw[B?]
   have:=(R.app (ys:=[Qd.lst (iL d)])).hu
   obtain⟨hlt,H⟩:=zB.mp this;rw[<- H,List.set_getElem_self]
  simp[wU,Rb.ins,Rb.hu];rw[show(kL S.tn).map ((fun q=>pv q.1))=nL S.tn from ky]at *;rw[e];simp[Dc,f1,f2]
 ·have Y:∀q,gI C q=if q=S.s p then S.d else gI T q:=fun q=>by rw[J,qC (by rw[t];exact sb)]
  refine⟨L,fun j G=>?_,?_,fun q D hn V=>?_⟩
  ·rw[B,Y,yI (Q.hs j p G F),N j G];split<;>lia
  ·rw[B,Y,yJ rfl]
  ·rw[B,Y,yI V,M q hn];split<;>rfl
end
structure HOk(nn:Int)(w nr:Nat)(HO:Nat->List Int):Prop where
 ex:∀grp:Nat,1<=grp->grp<=w->∃rr,(∀st,pm dG [.int nn,.int grp,.int 0] st=À (rr,st))/\∀st,pm fx [.int nn,rr] st=À (.fz (iL (HO grp)),st)
 len:∀grp:Nat,1<=grp->grp<=w->(HO grp).length=nr
 bd:∀(grp:Nat),1<=grp->grp<=w->∀x∈HO grp,x.natAbs<=15
section
variable{st:aa}{k a b c g n u w m p nr:Nat}{rows:List AV}{S:Sh}{nn:Int}{HO:Nat->List Int}
theorem Ma{r q:Nat}{x:Int}(e:ev ks ea sl s=À (.ref r,s))(d:ev ks eb sl s=À (.int (q:Int),s))(c:ev ks ec sl s=À (.int x,s))(a:s[r]?=À (.lst (iL l)))(b:q<l.length):cT ks (.aus .Add ea eb ec) sl s=À (.nx sl (s.set r (.lst (iL (l.set q (gI l q+x)))))):=by
 rw[Ko];unfold wV;rw[e,Â];dsimp only;rw[d,Â];dsimp only;rw[cC a,Â,di,de b,Â,c,Â];dsimp only;have:xL .Add s (.int (gI l q)) (.int x)=À (.int (gI l q+x)):=rfl;rw[this,Â,eP a (by simp[b]),iO,Â]
theorem C3(R:Rep st k a b c g n u rows S)(P:Ql w (m+1) S)(Q:SX.Pm w (m+1) S.h S.s)(hp:p<m+1)(nt:S.tn.Nodup)(ht:∀q∈S.tn,q<w+(m+1))(hw:w<=100)(hm:m+1<=800)(HA:∀st,pm ah [.int nn] st=À (.int w,st))(H:HOk nn w nr HO)(hnr:nr<=m) :
  ∃z,aU [.int nn,.ref k,.int p] st=À z/\∃T W,TK S w (m+1) p T/\W.length=m/\(∀x,x<m->gI W x=wt T HO w w x)/\z.1=.ref (st.length+1)/\z.2=st++[Qd.lst (iL T)]++[Qd.lst (iL W)]:=by
 rw[aU];simp only[ay];unfold gj;refine Er R P Q hp nt ht hw hm fun T h f U=>?_
 have sT:(st++[Qd.lst (iL T)])[st.length]?=À (.lst (iL T)):=gl;refine aA (sl':=[Is nn,Rs k,Is p,Rs st.length,h,f,Rs (st.length+1),Á,Á,Á,Á]) (st':=st++[Qd.lst (iL T)]++[Qd.lst (iL ((T.drop w).take m))]) ?_ ?_
 ·simp[nE,o6,HA,cC sT,F7 U.len]
 have ll:(st++[Qd.lst (iL T)]).length=st.length+1:=by simp
 have V:∀W:List Int,(st++[Qd.lst (iL T)]++[Qd.lst (iL W)])[st.length]?=À (.lst (iL T)):=fun W=>ga sT
 have sW:∀W:List Int,(st++[Qd.lst (iL T)]++[Qd.lst (iL W)])[st.length+1]?=À (.lst (iL W)):=fun W=>by rw[<- ll];exact gl
 have L:∀W d:List Int,(st++[Qd.lst (iL T)]++[Qd.lst (iL W)]).set (st.length+1) (.lst (iL d))=st++[Qd.lst (iL T)]++[Qd.lst (iL d)]:=fun W d=>by rw[<- ll];exact gB
 have hW0:∀x,x<m->gI ((T.drop w).take m) x=wt T HO w 0 x:=fun x v=>by
  unfold wt gI;rw[zD,Ŧ v,List.getElem?_drop,zD];simp[Qf]
 obtain⟨sl',st',e,W,N,J,B,A,rfl,rfl,O,M⟩:=fX (gd:=[]) (g:=cP KW (.nm 7)) (s:=ae KW (.cons (.as (.ix (.v 3) (.bin .Sub (.v 7) (.i 1))) (.nm 8)) (.cons (.iff (.cmp .NotEq (.v 8) (.i 0))
   (.cons (.fo (.en (.ca Ã 2 (.cons (.v 0) (.cons (.ca Ã 1 (.cons (.v 0) (.cons (.v 7) (.cons (.i 0) .nil)))) .nil)))) (.tu 2 (.cons (.nm 9) (.cons (.nm 10) .nil))) (.cons (.aus .Add (.v 6) (.v 9) (.bin .Mult (.v 8) (.v 10))) .nil)) .nil) .nil) .nil)))
  (I:=fun i sl s=>∃W N J B A,s=st++[Qd.lst (iL T)]++[Qd.lst (iL W)]/\sl=[Is nn,Rs k,Is p,Rs st.length,h,f,Rs (st.length+1),N,J,B,A]/\W.length=m/\∀x,x<m->gI W x=wt T HO w i x) (xs:=eu 1 w) (fun _ _ _ _ _=>rfl)
  (fun i y sl s C hI=>by
   obtain⟨W,N,J,B,A,rfl,rfl,O,M⟩:=hI;have hi:i<w:=by have:=(zB.mp C).1;unfold eu at this;simpa using this
   have ey:y=.int (((i+1:Nat)):Int):=by
    unfold eu at C;rw[zR,ϛ hi]at C;injection C with C;rw[<- C];show AV.int (1+(i:Int))=_;congr 1;lia
   subst ey;have xi:aZ (st++[Qd.lst (iL T)]++[Qd.lst (iL W)]) (.ref st.length) (.int (i:Int))=À (.int (gI T i)):=by rw[dF (cC (V W)),di,de (by rw[U.len];lia)]
   have K:cT KW (.as (.ix (.v 3) (.bin .Sub (.v 7) (.i 1))) (.nm 8)) [Is nn,Rs k,Is p,Rs st.length,h,f,Rs (st.length+1),Is ((i+1:Nat):Int),J,B,A] (st++[Qd.lst (iL T)]++[Qd.lst (iL W)])=À (.nx [Is nn,Rs k,Is p,Rs st.length,h,f,Rs (st.length+1),Is ((i+1:Nat):Int),Is (gI T i),B,A] (st++[Qd.lst (iL T)]++[Qd.lst (iL W)])):=by
    have e0:((i+1:Nat):Int)-1=(i:Int):=by lia
    have hb:aP .Sub (st++[Qd.lst (iL T)]++[Qd.lst (iL W)]) (.int ((i+1:Nat):Int)) (.int 1)=À (.int (i:Int)):=by rw[nj,e0]
    simp only[bH,dj,aG,aI,aQ,ar,aw,Â,hb,Æ,xi];rfl
   by_cases h0:gI T i=0
   ·refine⟨_,_,_,rfl,aj K ?_,W,Is ((i+1:Nat):Int),Is (gI T i),B,A,rfl,rfl,O,fun x v=>?_⟩
    ·simp[h0]
    ·rw[M x v];unfold wt;simp only[Qf,h0];lia
   ·obtain⟨rr,r1,r2⟩:=H.ex (i+1) oM oM
    have D:=H.len (i+1) oM oM;obtain⟨sl',st',e,d,G,F,rfl,rfl,E,t⟩:=fX (gd:=[]) (g:=cP KW (.tu 2 (.cons (.nm 9) (.cons (.nm 10) .nil)))) (s:=ae KW (.cons (.aus .Add (.v 6) (.v 9) (.bin .Mult (.v 8) (.v 10))) .nil))
     (I:=fun j sl s=>∃d G F,s=st++[Qd.lst (iL T)]++[Qd.lst (iL d)]/\sl=[Is nn,Rs k,Is p,Rs st.length,h,f,Rs (st.length+1),Is ((i+1:Nat):Int),Is (gI T i),G,F]/\d.length=m/\∀x,x<m->gI d x=gI W x+if x<j then gI T i*gI (HO (i+1)) x else 0) (xs:=fL 0 (iL (HO (i+1)))) (fun _ _ _ _ _=>rfl)
     (fun j y sl s C hI=>by
      obtain⟨d,G,F,rfl,rfl,E,t⟩:=hI;obtain⟨x,o,rfl⟩:=pR C;have hj:j<nr:=by have:=(zB.mp o).1;simpa [D] using this
      rw[de oM]at o;injection o with o;subst o;have hc:(gI (HO (i+1)) j).natAbs<=15:=by
       refine H.bd (i+1) oM oM _ ?_;unfold gI;exact SX.getD_mem oM
      have mb:c7 (gI T i) (gI (HO (i+1)) j)=Ã:=by
       unfold c7;have:Þ (gI (HO (i+1)) j).natAbs.log2 62=Ã:=yM (by
        by_cases hz:(gI (HO (i+1)) j).natAbs=0
        ·rw[hz];decide
        ·exact y0 ((Ĉ hz).mpr (yN hc dC)))
       rw[this];simp
      refine⟨_,_,_,rfl,aj (Ma (r:=st.length+1) (q:=j) (l:=d) (x:=gI T i*gI (HO (i+1)) j) rfl rfl (by simp[bW mb]) (sW d) oM) rfl,d.set j (gI d j+gI T i*gI (HO (i+1)) j),_,_,L _ _,rfl,by simp[E],fun x v=>?_⟩;rw[qC oM];by_cases e:x=j
      ·subst e;rw[yJ rfl,t x v,yI oM,yJ oM];lia
      ·rw[yI e,t x v]
       by_cases e2:x<j
       ·rw[yJ e2,yJ oM]
       ·rw[yI e2,yI oM]) (sl:=[Is nn,Rs k,Is p,Rs st.length,h,f,Rs (st.length+1),Is ((i+1:Nat):Int),Is (gI T i),B,A]) (st:=st++[Qd.lst (iL T)]++[Qd.lst (iL W)]) ⟨W,B,A,rfl,rfl,O,fun x v=>by simp⟩
    rw[m8,kC,D]at t;refine⟨_,_,_,rfl,aj K (aj (sl':=[Is nn,Rs k,Is p,Rs st.length,h,f,Rs (st.length+1),Is ((i+1:Nat):Int),Is (gI T i),G,F]) (st':=st++[Qd.lst (iL T)]++[Qd.lst (iL d)]) ?_ rfl),d,Is ((i+1:Nat):Int),Is (gI T i),G,F,rfl,rfl,E,fun x v=>?_⟩
    ·have r1':=r1 (st++[Qd.lst (iL T)]++[Qd.lst (iL W)])
     have Z:=r2 (st++[Qd.lst (iL T)]++[Qd.lst (iL W)]);simp only[cG,cA,aI,aQ,ar,aw,Â,u9,Æ,yB h0,X!,ite_true];refine aj (sl':=[Is nn,Rs k,Is p,Rs st.length,h,f,Rs (st.length+1),Is ((i+1:Nat):Int),Is (gI T i),G,F]) (st':=st++[Qd.lst (iL T)]++[Qd.lst (iL d)]) ?_ rfl;rw[lQ,Jg];simp only[cm,aq,aD,aI,aQ,ar,aw,Â,bG,cp,cU];rw[r1'];simp only[Â];rw[Z];simp only[Â,As,Æ];exact e
    ·rw[t x v,M x v]
     unfold wt;simp only[Qf];by_cases e:x<nr
     ·rw[yJ e];lia
     ·rw[yI e]
      have:gI (HO (i+1)) x=0:=by unfold gI;rw[zD,í oM];rfl
      rw[this,yQ];lia) (sl:=[Is nn,Rs k,Is p,Rs st.length,h,f,Rs (st.length+1),Á,Á,Á,Á]) (st:=st++[Qd.lst (iL T)]++[Qd.lst (iL ((T.drop w).take m))]) ⟨_,Á,Á,Á,Á,rfl,rfl,by simp[U.len],hW0⟩
 have rl:(eu 1 w).length=w:=by unfold eu;simp
 rw[rl]at M;refine⟨(.ref (st.length+1),st++[Qd.lst (iL T)]++[Qd.lst (iL W)]),?_,T,W,U,O,M,rfl,rfl⟩;refine ag (sl':=[Is nn,Rs k,Is p,Rs st.length,h,f,Rs (st.length+1),N,J,B,A]) (st':=st++[Qd.lst (iL T)]++[Qd.lst (iL W)]) ?_ (by simp);have Y:gC 1=Ã:=by decide
 have X:gC ((w:Int)+1)=Ã:=by
  unfold gC;refine yM ?_;rw[show((w:Int)+1).natAbs=w+1 by lia];exact y0 ((Ĉ oM).mpr oM)
 rw[lQ];have ei:d6 KW (.r2 (.i 1) (.bin .Add (.ca Ã 0 (.cons (.v 0) .nil)) (.i 1))) [Is nn,Rs k,Is p,Rs st.length,h,f,Rs (st.length+1),Á,Á,Á,Á] (st++[Qd.lst (iL T)]++[Qd.lst (iL ((T.drop w).take m))])=À (⟨eu 1 w,[]⟩,st++[Qd.lst (iL T)]++[Qd.lst (iL ((T.drop w).take m))]):=by
  have e2:((w:Int)+1-1).toNat=w:=by lia
  simp[-List.append_assoc,wf,HA,Y,X]
 rw[ei,Â];exact e
end
section
variable{st:aa}{k a b c g n u w m p nr:Nat}{rows:List AV}{S:Sh}{nn:Int}{HO:Nat->List Int}{v:Nat->Nat->Int}
theorem TK.bd(a:TK S w m p T)(f:p<m)(Q:SX.Pm w m S.h S.s)(B:S.d.natAbs<2^8900/\∀i,i<m->∀j,j<w+1->(S.t i j).natAbs<2^8900)(q:Nat):(gI T q).natAbs<2^8900:=by
 by_cases e:q<w+m
 ·by_cases d:∃j,j<w/\S.h j=q
  ·obtain⟨j,b,rfl⟩:=d
   rw[a.hd j b]
   have:=B.2 p f j oM
   split
   ·exact this
   ·rw[ä];exact this
  ·by_cases c:q=S.s p
   ·rw[c,a.sd]
    split
    ·rw[ä];exact B.1
    ·exact B.1
   ·rw[a.no q e (fun j b z=>d ⟨j,b,z⟩) c];exact Ñ _
 ·have:gI T q=0:=by unfold gI;rw[zD,í (by rw[a.len];lia)];rfl
  rw[this];exact Ñ _
theorem C4(a:∀q,(gI T q).natAbs<2^8900)(H:HOk nn w nr HO)(b:w<=15)(x:Nat):(wt T HO w w x).natAbs<2^9000:=by
 unfold wt;have l:=SX.abs_sum (n:=w) (f:=fun y=>gI T y*gI (HO (y+1)) x) (M:=2^8900*15) fun i g=>by
  rw[xA];refine ś (y0 (a i)) ?_;unfold gI;rw[zD];cases e:(HO (i+1))[x]? with
  |none=>simp
  |some z=>exact H.bd (i+1) oM oM z (zW e)
 have k:=a (w+x);have j:=U5 (gI T (w+x)) (Qf w fun y=>gI T y*gI (HO (y+1)) x);have h:w*(2^8900*15)<=15*(2^8900*15):=ϑ _ b;have d:(2:Nat)^9000=2^8900*2^100:=by rw[<- ť]
 have c:(2:Nat)^100=1267650600228229401496703205376:=by decide
 rw[d,c];generalize (2:Nat)^8900=B at *;lia
theorem Ct(R:Rep st k a b c g n u rows S)(I:MI w (m+1) v S)(D:Bnd w (m+1) v)(i:p<m+1)(J:S.tn.Nodup)(M:∀q∈S.tn,q<w+(m+1))(L:w<=15)(hm:m+1<=400)(E:∀st,pm ah [.int nn] st=À (.int w,st))(H:HOk nn w nr HO)(r:nr<=m) :
  ∃z,bY [.int nn,.ref k,.int p] st=À z/\∃X T W,GX S w w (m+1) X/\TK S w (m+1) p T/\W.length=m/\(∀x,x<m->gI W x=wt T HO w w x) /\
   z.1=.tup [.str "least",.tup [.int (gI (ao [- S.t p w,S.d]) 0),.int (gI (ao [- S.t p w,S.d]) 1)],.tup [.fz (iL ((ao (X++[S.d])).take w)),.int (gI (ao (X++[S.d])) w)],.int (gI (ao (W++[S.d])) m),.fz (iL ((ao (W++[S.d])).take m))]:=by
 have P:=I.shp;have B:=D.bd I;obtain⟨z,e1,T,W,C,o,A,f,e⟩:=C3 R P I.pm i J M oM oM E H r;obtain⟨z1,z2⟩:=z;dsimp only at f e;subst f;subst e;have R2:=(R.app (ys:=[Qd.lst (iL T)])).app (ys:=[Qd.lst (iL W)]);have G:∀x∈W++[S.d],x.natAbs<2^9000:=fun x K=>by
  rcases zZ.mp K with h|h
  ·obtain⟨j,t⟩:=yA h
   have N:=(zB.mp t).1;have V:gI W j=x:=by unfold gI;rw[zD,t];rfl
   rw[<- V,A j oM];exact C4 (C.bd i I.pm (D.bd8 I)) H L j
  ·rw[zM.mp h];exact B.1
 have Z:=uc (l:=W++[S.d]) (st:=st++[Qd.lst (iL T)]++[Qd.lst (iL W)]) (by simp[o];lia) G;obtain⟨X,T',d,Y,rfl,O,R3⟩:=Dd R2 P I.pm B E oM oM;have U:=Jv (a:=- S.t p w) (b:=S.d) (st:=st) (by rw[ä];exact B.2 p i w oM) B.1;refine⟨(_,d),?_,X,T,W,O,C,o,A,rfl⟩;have s:(ao (W++[S.d])).length=m+1:=by rw[jr];simp[o]
 rw[bY,ay];unfold gG;refine ag (sl':=[Is nn,Rs k,Is p,À (.tup [.int (gI (ao [- S.t p w,S.d]) 0),.int (gI (ao [- S.t p w,S.d]) 1)]),Á]) (st':=st) (by simp[R.ins,R.line P i,R.last P i,U]) ?_;refine ag (sl':=[Is nn,Rs k,Is p,À (.tup [.int (gI (ao [- S.t p w,S.d]) 0),.int (gI (ao [- S.t p w,S.d]) 1)]),Ls (ao (W++[S.d]))]) (st':=st++[Qd.lst (iL T)]++[Qd.lst (iL W)]) ?_ ?_
 ·have Q:(st++[Qd.lst (iL T)]++[Qd.lst (iL W)])[st.length+1]?=À (.lst (iL W)):=by
   have:(st++[Qd.lst (iL T)]).length=st.length+1:=by simp
   rw[<- this];exact gl
  have c:=mC (ks:=[dJ,aU,ak,bt]) (a:=.ca Ä 1 (.cons (.v 0) (.cons (.v 1) (.cons (.v 2) .nil)))) (b:=.nw Ä (.li (.cons (.fd "Sheet" "below" (.v 1)) .nil)))
   (sl:=[Is nn,Rs k,Is p,À (.tup [.int (gI (ao [- S.t p w,S.d]) 0),.int (gI (ao [- S.t p w,S.d]) 1)]),Á]) (st:=st) (s1:=st++[Qd.lst (iL T)]++[Qd.lst (iL W)]) (s2:=st++[Qd.lst (iL T)]++[Qd.lst (iL W)]) (x:=.ref (st.length+1)) (y:=.fz [AV.int S.d]) (l:=W) (l':=[S.d])
   (by simp only[cm,aq,aD,aI,ar,aw,Â,sE,cp,cU];exact e1) (by simp[-List.append_assoc,fE,R2.ins]) (cC Q) rfl (by simp[o];lia)
  simp only[bH,cm,aq,aD,dO,c,Â,du,ite_true,bG,cp,cU,Z,k9];rfl
 ·have F:aZ d (.fz (iL (ao (W++[S.d])))) (.int (-1))=À (.int (gI (ao (W++[S.d])) m)):=by rw[dF dR,qL (n:=m) (by simp[s]),de oM]
  simp[-List.append_assoc,Y,nE,o6,uV s,F]
end
open SX (Qt v0)
def val(w:Nat)(r:List Int)(Y:Nat->Int):Int:=Qf w fun x=>gI r x*Y x
structure Kp(w:Nat)(RR:List (List Int))(gv:List Gv)(Y:Nat->Int)(e:Int):Prop where
 rule:∀r∈RR,0<=val w r Y
 eq:∀z∈gv,z.eq=Ã->val w z.row Y=z.num*e
 ge:∀z∈gv,z.eq=Ä->z.num*e<=val w z.row Y
structure TbS(w:Nat)(RR:List (List Int))(gv:List Gv)(X:List Int)(D:Int):Prop where
 len:X.length=w
 pos:0<D
 bd:(∀x∈X,x.natAbs<2^2500)/\D.natAbs<2^2500
 kp:Kp w RR gv (gI X) D
def sP(w:Nat)(RR:List (List Int))(gv:List Gv)(goal:List Int)(t:AV):Prop :=
 ((∃W,t=.tup [.str "never",.fz (iL W)])/\∀Y e,0<e->¬Kp w RR gv Y e) \/
 (∃T d X D K W,t=.tup [.str "least",.tup [.int (gI (ao [T,d]) 0),.int (gI (ao [T,d]) 1)],.tup [.fz (iL X),.int D],.int K,.fz (iL W)]/\0<d/\(T.natAbs<2^2500/\d.natAbs<2^2500)/\(TbS w RR gv X D/\val w goal (gI X)*d=T*D)/\∀Y e,0<e->Kp w RR gv Y e->T*e<=val w goal Y*d) \/
 ∃X D Z,t=.tup [.str "endless",.tup [.fz (iL X),.int D],.fz (iL Z)]/\TbS w RR gv X D/\(Z.length=w/\∀x∈Z,x.natAbs<2^2500)/\Kp w RR gv (gI Z) 0/\val w goal (gI Z)<0
section
variable{w:Nat}{RR:List (List Int)}{gv:List Gv}{goal:List Int}{Y Y':Nat->Int}{e e' g T d:Int}
theorem mP{r:List Int}(h:∀x,x<w->Y x=g*Y' x):val w r Y=g*val w r Y':=by
 unfold val;rw[<- SX.sum_mul];exact SX.sum_congr fun x a=>by rw[h x a];grind
theorem Kp.div(b:0<g)(he:e=g*e')(h:∀x,x<w->Y x=g*Y' x)(K:Kp w RR gv Y e):Kp w RR gv Y' e':=by
 refine⟨fun r c=>?_,fun z hz a=>?_,fun z hz a=>?_⟩
 ·have:=K.rule r c
  rw[mP h]at this;exact x? (by rw[yQ];exact this) b
 ·have:=K.eq z hz a
  rw[mP h,he]at this;exact ţ oM (this.trans (by grind))
 ·have:=K.ge z hz a
  rw[mP h,he]at this;exact x? (ĵ (by rw[show g*(z.num*e')=z.num*(g*e') by grind];exact h? _) this) b
theorem xp(l:List Int):∃g:Int,0<g/\∀i,gI l i=g*gI (ao l) i:=by
 by_cases h:gL l=0
 ·exact⟨1,by decide,fun i=>by unfold ao;rw[yJ h,ϓ]⟩
 ·refine⟨(gL l:Int),by lia,fun i=>?_⟩
  unfold ao;rw[yI h];unfold gI;rw[zD,zD,zR];cases e:l[i]? with
  |none=>simp
  |some x =>
   have:=AA x (zW e)
   exact(Q8 (s?.mp (ŷ.mpr this))).symm
theorem ud{l:List Int}{M:Nat}(b:0<M)(h:∀x∈l,x.natAbs<M)(i:Nat):(gI (ao l) i).natAbs<M:=by
 obtain⟨g,c,e⟩:=xp l;have a:=mZ h b i;rw[e i,xA]at a;exact yN (Nat.le_mul_of_pos_left _ oM) a
theorem lW{l:List Int}{P:Int->Prop}(h:∀i,i<l.length->P (gI l i)):∀x∈l,P x:=fun x b=>by
 obtain⟨i,a⟩:=yA b
 have:=h i (zB.mp a).1
 unfold gI at this;rw[zD,a]at this;exact this
theorem qD{l:List Int}{w i:Nat}(h:i<w):gI (l.take w) i=gI l i:=by
 unfold gI;rw[zD,zD,Ŧ h]
theorem Jo{l l':List Int}{i:Nat}(h:i<l.length):gI (l++l') i=gI l i:=by
 unfold gI;rw[zD,zD,zN h]
theorem Jn{l:List Int}{d:Int}:gI (l++[d]) l.length=d:=by
 unfold gI;rw[zD];simp
theorem TbS.low{X:List Int}(a:X.length=w)(hd:0<d)(i:(∀x∈X,x.natAbs<2^9000)/\d.natAbs<2^9000)(K:Kp w RR gv (gI X) d):∃g,0<g/\d=g*gI (ao (X++[d])) w/\(∀r,val w r (gI X)=g*val w r (gI ((ao (X++[d])).take w))) /\
  ((ao (X++[d])).take w).length=w/\0<gI (ao (X++[d])) w/\Kp w RR gv (gI ((ao (X++[d])).take w)) (gI (ao (X++[d])) w):=by
 obtain⟨g,b,e⟩:=xp (X++[d]);have c:d=g*gI (ao (X++[d])) w:=by
  have:=e w
  rw[<- a,Jn]at this;rw[<- a];exact this
 have ex:∀x,x<w->gI X x=g*gI ((ao (X++[d])).take w) x:=fun x f=>by
  rw[qD f,<- e x,Jo oM]
 refine⟨g,b,c,fun r=>mP ex,?_,?_,K.div b c ex⟩
 ·rw[ĕ,jr,zV,a];simp
 ·rcases U6 0 (gI (ao (X++[d])) w) with h|h|h
  ·exact h
  ·rw[<- h]at c;lia
  ·have:=Ţ b h;lia
theorem TbS.of{X:List Int}(k:X.length=w)(hd:0<d)(a:(∀x∈X,x.natAbs<2^2500)/\d.natAbs<2^2500)(K:Kp w RR gv (gI X) d)(f:val w goal (gI X)=T):TbS w RR gv ((ao (X++[d])).take w) (gI (ao (X++[d])) w)/\val w goal (gI ((ao (X++[d])).take w))*d=T*gI (ao (X++[d])) w:=by
 have big:(2:Nat)^2500<=2^9000:=Ý dC dC;obtain⟨g,p,m,ev,e,j,n⟩:=TbS.low k hd ⟨fun x b=>zJ (a.1 x b) big,zJ a.2 big⟩ K;have c:=ud (l:=X++[d]) (Ñ 2500) fun x b=>by
  rcases zZ.mp b with h|h
  ·exact a.1 x h
  ·rw[zM.mp h];exact a.2
 refine⟨⟨e,j,⟨lW fun i o=>?_,c w⟩,n⟩,?_⟩
 ·rw[qD oM];exact c i
 ·rw[<- f,ev goal]
  generalize gI (ao (X++[d])) w=D at *;rw[m];grind
end
structure AI(w nr:Nat)(gv:List Gv)(L:List (List Int))(i:Nat)(S:Sh):Prop where
 mi:MI w (nr+gv.length+1) (v0 w L) S
 un:∀x,nr+i<=x->x<nr+gv.length+1->S.s x=w+x
 g1:∀q∈S.gd,q<w+nr\/∃y z,y<i/\gv[y]?=À z/\z.eq=Ä/\q=w+nr+y
 g2:∀q,q<w+nr->q∈S.gd
 g3:∀y z,y<i->gv[y]?=À z->z.eq=Ä->w+nr+y∈S.gd
 n1:∀q∈S.nl,∃y z,y<i/\gv[y]?=À z/\z.eq=Ã/\q=w+nr+y
 n2:∀y z,y<i->gv[y]?=À z->z.eq=Ã->w+nr+y∈S.nl
 t1:∀q∈S.tn,q∈S.nl
 tn:S.tn.Nodup
 lg:S.gd.length<=w+nr+i
 ln:S.nl.length<=i
 lt:S.tn.length<=i
section
variable{w nr i:Nat}{RR:List (List Int)}{gv:List Gv}{goal:List Int}{S:Sh}{Y:Nat->Int}{e:Int}
theorem ux{c:Int}{x:Nat}(h:r.length=w):gI (r++[c]) x=if x<w then gI r x else if x=w then c else 0:=by
 unfold gI;simp only[zD];by_cases b:x<w
 ·rw[yJ b,zN oM]
 ·rw[yI b,z6 oM]
  by_cases a:x=w
  ·rw[yJ a,h,a];simp
  ·rw[yI a,í (by simp;lia)];rfl
theorem fZ{c:Int}{j:Nat}(f:L[j]?=À (r++[c]))(b:r.length=w):Qt w (v0 w L) Y e (w+j)=val w r Y+c*e:=by
 have a:∀x,v0 w L (w+j) x=gI (r++[c]) x:=fun x=>by
  unfold v0;rw[yI oM,show w+j-w=j by lia,zD,f];rfl
 unfold Qt val;rw[a,ux b,yI oM,yJ rfl];congr 1;exact SX.sum_congr fun x d=>by rw[a,ux b,yJ d]
theorem JZ{q:Nat}(b:q<w):Qt w (v0 w L) Y e q=Y q:=by
 have a:∀x,v0 w L q x=if x=q then 1 else 0:=fun x=>by unfold v0;rw[yJ b]
 unfold Qt;rw[SX.sum_one b fun x _ ne=>by rw[a,yI ne,yR],a,yJ rfl,a,yI oM];lia
theorem vk(a:i<RR.length):(am RR gv goal)[i]?=À (RR[i]++[0]):=by
 unfold am;rw[yO,zN (by simpa using a)];simp[a]
theorem kP(hz:gv[i]?=À z):(am RR gv goal)[RR.length+i]?=À (z.row++[- z.num]):=by
 have a:=(zB.mp hz).1;unfold am;rw[yO,z6 (by simp),zN (by simp;exact a)];simp[hz]
theorem A6:(am RR gv goal)[RR.length+gv.length]?=À (goal.map (fun x=>- x)++[0]):=by
 unfold am;rw[z6 (by simp)];simp
theorem xP:(am RR gv goal).length=RR.length+gv.length+1:=by simp[am];lia
theorem qc:val w (goal.map fun x=>- x) Y=- val w goal Y:=by
 unfold val;have:∀x,gI (goal.map fun x=>- x) x=- gI goal x:=fun x=>by
  unfold gI;rw[zD,zD,zR];cases goal[x]?<;>rfl
 rw[SX.sum_congr (g:=fun x=>(-1)*(gI goal x*Y x)) fun x _=>by rw[this];grind,SX.sum_mul];lia
structure Sz(w:Nat)(RR:List (List Int))(gv:List Gv)(goal:List Int):Prop where
 r:∀l∈RR,l.length=w
 g:∀z∈gv,z.row.length=w
 o:goal.length=w
 hg:∀Y:Nat->Int,(∀r∈RR,0<=val w r Y)->∀x,x<w->0<=Y x
theorem AI.of(Z:Sz w RR gv goal)(A:AI w RR.length gv (am RR gv goal) i S)(F:Kp w RR gv Y e):(∀q∈S.gd,0<=Qt w (v0 w (am RR gv goal)) Y e q)/\∀q∈S.nl,Qt w (v0 w (am RR gv goal)) Y e q=0:=by
 refine⟨fun q c=>?_,fun q c=>?_⟩
 ·rcases A.g1 q c with h|⟨y,z,j,b,f,rfl⟩
  ·by_cases g:q<w
   ·rw[JZ g];exact Z.hg Y F.rule q g
   ·have d:q-w<RR.length:=by lia
    have:=fZ (Y:=Y) (e:=e) (vk (gv:=gv) (goal:=goal) d) (Z.r _ (Į d))
    rw[show w+(q-w)=q by lia]at this;rw[this,yR,ģ];exact F.rule _ (Į d)
  ·have a:=zW b
   rw[ŋ,fZ (kP b) (Z.g z a)]
   have:=F.ge z a f
   have k:- z.num*e=- (z.num*e):=by grind
   lia
 ·obtain⟨y,z,j,b,f,rfl⟩:=A.n1 q c
  have a:=zW b;rw[ŋ,fZ (kP b) (Z.g z a)]
  have:=F.eq z a f
  have k:- z.num*e=- (z.num*e):=by grind
  lia
theorem AI.to(Z:Sz w RR gv goal)(A:AI w RR.length gv (am RR gv goal) gv.length S)(f:∀q∈S.gd,0<=Qt w (v0 w (am RR gv goal)) Y e q)(h:∀q∈S.nl,Qt w (v0 w (am RR gv goal)) Y e q=0):Kp w RR gv Y e:=by
 refine⟨fun r g=>?_,fun z hz c=>?_,fun z hz c=>?_⟩
 ·obtain⟨i,d⟩:=yA g
  have b:=(zB.mp d).1;have j:RR[i]=r:=(zB.mp d).2
  have:=f (w+i) (A.g2 _ oM)
  rw[fZ (vk b) (Z.r _ (Į b)),yR,ģ,j]at this;exact this
 ·obtain⟨y,a⟩:=yA hz
  have b:=(zB.mp a).1
  have:=h _ (A.n2 y z b a c)
  rw[ŋ,fZ (kP a) (Z.g z hz)]at this;have k:- z.num*e=- (z.num*e):=by grind
  lia
 ·obtain⟨y,a⟩:=yA hz
  have b:=(zB.mp a).1
  have:=f _ (A.g3 y z b a c)
  rw[ŋ,fZ (kP a) (Z.g z hz)]at this;have k:- z.num*e=- (z.num*e):=by grind
  lia
theorem Ej:∀q,q<w->∀x,x<w+1->v0 w L q x=if x=q then 1 else 0:=fun q a x _=>by unfold v0;rw[yJ a]
theorem AI.vert(Z:Sz w RR gv goal)(A:AI w RR.length gv (am RR gv goal) gv.length S){c:Nat}(J:c<w+1)(g:c<w->S.h c∉S.nl){X:Nat->Int}(r:∀i,i<RR.length+gv.length+1->S.s i<w->X (S.s i)=S.t i c)(b:∀j,j<w->S.h j<w->X (S.h j)=if j=c then S.d else 0)
  (e:∀i,i<RR.length+gv.length+1->S.s i∈S.gd->0<=S.t i c):Kp w RR gv X (if c=w then S.d else 0)/\val w goal X=- S.t (RR.length+gv.length) c:=by
 have I:=A.mi;have C:∀q∈S.tn,w<=q:=fun q a=>by obtain⟨y,z,_,_,_,rfl⟩:=A.n1 q (A.t1 q a);lia
 obtain⟨m,p⟩:=I.vert Ej C J r b;have l:∀q∈S.gd,q∉S.tn:=fun q H F=>by
  obtain⟨y,z,x,v,u,t⟩:=A.n1 q (A.t1 q F);rcases A.g1 q H with h|⟨B,s,r,b,k,K⟩
  ·lia
  ·have:y=B:=by lia
   subst this;rw[v]at b;cases b;rw[u]at k;cases k
 have hd:=I.lin.pos;refine⟨A.to Z (fun q a=>?_) (fun q a=>?_),?_⟩
 ·have d:q<w+(RR.length+gv.length+1):=by
   rcases A.g1 q a with h|⟨y,z,_,b,_,rfl⟩
   ·lia
   ·have:=(zB.mp b).1;lia
  rcases I.pm.cov q d with⟨i,f,rfl⟩|⟨j,o,rfl⟩
  ·rw[m i f,yI (l _ a)];exact e i f a
  ·rw[p j o,yI (l _ a)];split<;>lia
 ·have d:q<w+(RR.length+gv.length+1):=by
   obtain⟨y,z,_,b,_,rfl⟩:=A.n1 q a
   have:=(zB.mp b).1;lia
  rcases I.pm.cov q d with⟨i,f,rfl⟩|⟨j,o,rfl⟩
  ·obtain⟨E,D⟩:=I.fea.n i f a
   have:S.t i c=0:=by
    by_cases h:c=w
    ·rw[h];exact E
    ·exact D c oM (g oM)
   rw[m i f,this];split<;>rfl
  ·rw[p j o,yI fun z=>g oM (by rw[<- z];exact a)]
 ·have G:=A.un (RR.length+gv.length) oM oM
  have k:=m (RR.length+gv.length) oM;rw[G]at k;have n:w+(RR.length+gv.length)∉S.tn:=fun z=>by
   obtain⟨y,s,x,_,_,t⟩:=A.n1 _ (A.t1 _ z);lia
  rw[yI n,fZ A6 (by rw[zH];exact Z.o),qc,yR,ģ]at k;lia
end
section
variable{w:Nat}{RR:List (List Int)}{gv:List Gv}{goal:List Int}{nn:Int}{HO:Nat->List Int}
theorem F2{n0:Nat}{i:Nat}(h:(fL n0 xs)[i]?=À y):∃x,xs[i]?=À x/\y=.tup [.int ((n0+i:Nat):Int),x]:=by
 unfold fL at h;rw[zR]at h;obtain⟨z,a,rfl⟩:=zE.mp h;rw[ō]at a;obtain⟨x,b,rfl⟩:=zE.mp a;exact⟨x,b,rfl⟩
theorem DG:cJ .Eq s (.str "=") (.str "=")=À Ã:=by kernel_rfl
theorem DA:cJ .Eq s (.str ">") (.str "=")=À Ä:=by kernel_rfl
structure Qu(nn:Int)(w:Nat)(RR:List (List Int))(HO:Nat->List Int)(gv:List Gv)(goal:List Int):Prop where
 HR:∀st,pm aY [.int nn] st=À (.fz (aJ RR),st)
 HA:∀st,pm ah [.int nn] st=À (.int w,st)
 H:HOk nn w RR.length HO
 Z:Sz w RR gv goal
 hw:w<=15
 hR:RR.length<=100
 hg:gv.length<=100
 B:Bnd w (RR.length+gv.length+1) (v0 w (am RR gv goal))
theorem vU(q:Qu nn w RR HO gv goal){k a b c g n u p:Nat}(R:Rep st k a b c g n u rows S)(I:MI w (RR.length+gv.length+1) (v0 w (am RR gv goal)) S)(f:p<RR.length+gv.length+1)(m:S.tn.Nodup)(r:∀x∈S.tn,x<w+(RR.length+gv.length+1)) :
  ∃st1 W st2,aU [.int nn,.ref k,.int p] st=À (.ref (st.length+1),st1)/\pm ak [.ref (st.length+1)] st1=À (.fz (iL W),st2):=by
 obtain⟨z,D,T,W,y,G,v,e,d⟩:=C3 R I.shp I.pm f m r (by have:=q.hw;lia) (by have:=q.hg;have:=q.hR;lia) q.HA q.H oM;obtain⟨F,E⟩:=z;dsimp only at e d;subst e;subst d;have A:(st++[Qd.lst (iL T)]++[Qd.lst (iL W)])[st.length+1]?=À (.lst (iL W)):=by
  have:(st++[Qd.lst (iL T)]).length=st.length+1:=by simp
  rw[<- this];exact gl
 have i:∀x∈W,x.natAbs<2^9000:=fun x o=>by
  obtain⟨j,h⟩:=yA o;have t:=(zB.mp h).1;have B:gI W j=x:=by unfold gI;rw[zD,h];rfl
  rw[<- B,v j oM];exact C4 (y.bd f I.pm (q.B.bd8 I)) q.H q.hw j
 obtain⟨st2,C,_⟩:=lT (fn:=ak) (rest:=[]) (st:=st++[Qd.lst (iL T)]++[Qd.lst (iL W)]) (x:=.ref (st.length+1)) (l:=W) (.inr ⟨_,rfl,.inl A⟩) rfl rfl (fun s=>rfl) (sG (by have:=q.hg;have:=q.hR;lia) i) rfl (by simp[flat]);exact⟨_,_,st2,D,C⟩
theorem CU(q:Qu nn w RR HO gv goal):∃z,fT [.int nn,.fz (gv.map Gv.av),.fz (iL goal)] []=À z/\∃t,fF z.2 z.1=À t/\sP w RR gv goal t:=by
 have Z:=q.Z;obtain⟨m,hm⟩:∃m,m=RR.length+gv.length:=⟨_,rfl⟩;have hLl:(am RR gv goal).length=m+1:=by rw[xP,hm]
 obtain⟨L,hL⟩:∃L,L=am RR gv goal:=⟨_,rfl⟩;obtain⟨M,e1,R1⟩:=Ic (gv:=gv) (goal:=goal) q.HR q.HA q.hw q.hR Z.r q.hg Z.g Z.o;have A0:AI w RR.length gv (am RR gv goal) 0 (SX.openS w (am RR gv goal) (w+RR.length)):=by
  have hLen:∀l∈am RR gv goal,l.length=w+1:=fun l hl=>by
   unfold am at hl;simp only[zZ,yE,zM]at hl;rcases hl with(⟨r,U,rfl⟩|⟨z,hz,rfl⟩)|rfl
   ·simp[Z.r r U]
   ·simp[Z.g z hz]
   ·simp[Z.o]
  have hI:=SX.open_MI (w:=w) (nr:=RR.length) (L:=am RR gv goal) hLen fun i u=>by
   rw[zD,vk u];show gI (RR[i]++[0]) w=0;rw[ux (Z.r _ (Į u)),yI oM,yJ rfl]
  rw[xP]at hI;refine⟨hI,fun x _ b=>SX.open_s (by rw[xP];exact b),fun x b=>.inl (Ò.mp b),fun x b=>Ò.mpr b,fun y z h=>by lia,fun x b=>?_,fun y z h=>by lia,fun x b=>?_,W5,by simp[SX.openS],zP 0,zP 0⟩
  ·exact absurd (show x ∈ ([]:List Nat) from b) (by simp)
  ·exact absurd (show x ∈ ([]:List Nat) from b) (by simp)
 have sm:=q.hg;have sm2:=q.hR;have sm3:=q.hw;rw[fT];simp only[ay];unfold oJ;refine aA (sl':=[Is nn,Zs (gv.map Gv.av),Ls goal,Rs 1,Á,Á,Á,Á,Á]) (st':=M) (by simp[e1]) ?_;have l2:cj M (.ref 2)=À (aJ (am RR gv goal)):=cC R1.ha;refine aA (sl':=[Is nn,Zs (gv.map Gv.av),Ls goal,Rs 1,Is (m:Int),Á,Á,Á,Á]) (st':=M) (by simp[R1.ins,cF,eO,l2,hLl]) ?_
 have loop:=m6 (gd:=[]) (g:=cP [cw,c4,cg,aU,ak,b8,bY,bt,cZ] (.tu 2 (.cons (.nm 5) (.cons (.nm 6) .nil))))
  (s:=ae [cw,c4,cg,aU,ak,b8,bY,bt,cZ] (.cons (.as (.ife (.cmp .Eq (.ix (.v 6) (.i 1)) (.s "=")) (.ca Ä 1 (.cons (.v 3) (.cons (.v 5) .nil))) (.ca Ä 2 (.cons (.v 3) (.cons (.v 5) .nil)))) (.nm 7))
   (.cons (.iff (.no (.va (.v 7))) (.cons (.rt (.tu (.cons (.s "never") (.cons (.ca Ã 4 (.cons (.ca Ä 3 (.cons (.v 0) (.cons (.v 3) (.cons (.v 5) .nil)))) .nil)) .nil)))) .nil) .nil) .nil)))
  (I:=fun i sl s=>∃a O S x5 x6 x7,sl=[Is nn,Zs (gv.map Gv.av),Ls goal,Rs 1,Is (m:Int),x5,x6,x7,Á]/\Rep s 1 a 3 4 5 6 7 O S/\AI w RR.length gv (am RR gv goal) i S)
  (Post:=fun v s=>∃t,fF s v=À t/\sP w RR gv goal t) (xs:=fL RR.length (gv.map Gv.av)) (fun _ _ _ _ _=>rfl)
  (fun i y sl s D hI=>by
   obtain⟨a,O,S,x5,x6,x7,rfl,R,A⟩:=hI;obtain⟨x,b,rfl⟩:=F2 D;rw[zR]at b;obtain⟨z,hz,rfl⟩:=zE.mp b;have hzm:=zW hz;have u:=(zB.mp hz).1;have hp:RR.length+i<RR.length+gv.length+1:=by lia
   have I:=A.mi;have sp:S.s (RR.length+i)=w+RR.length+i:=by rw[A.un _ (zP _) hp];lia
   have ng:S.s (RR.length+i)∉S.gd:=fun h=>by
    rcases A.g1 _ h with h|⟨y,_,h,_,_,f⟩<;>lia
   have nn':S.s (RR.length+i)∉S.nl:=fun h=>by obtain⟨y,_,h,_,_,f⟩:=A.n1 _ h;lia
   have nt:S.s (RR.length+i)∉S.tn:=fun h=>nn' (A.t1 _ h)
   have unk:∀T:Sh,Kj (RR.length+gv.length+1) (RR.length+i) S T->∀x,RR.length+(i+1)<=x->x<RR.length+gv.length+1->T.s x=w+x:=fun T K x k f=>by
    have e:=A.un x oM f;rw[K.si x f oM (by rw[e];intro h;rcases A.g1 _ h with h|⟨y,_,h,_,_,f⟩<;>lia),e]
   have lst:∀x∈S.nl,x<w+(RR.length+gv.length+1):=fun x b=>by
    obtain⟨y,_,h,_,_,f⟩:=A.n1 _ b;lia
   have nev:∀(T:Sh),MI w (RR.length+gv.length+1) (v0 w (am RR gv goal)) T->T.gd=S.gd->T.nl=S.nl->(∀x∈T.tn,x∈T.nl\/x=T.s (RR.length+i))->T.s (RR.length+i)=S.s (RR.length+i)->T.t (RR.length+i) w<0->(∀j,j<w->T.h j∉T.nl->¬0<T.t (RR.length+i) j)->(z.eq=Ä->T.s (RR.length+i)∉T.tn)->∀Y e,0<e->¬Kp w RR gv Y e:=fun T I' B E P Q low U hzt Y e he F=>by
    obtain⟨f1,f2⟩:=A.of Z F;have d:=I'.dual hp U P (Y:=Y) (e:=e) (fun j hj h=>by
     rcases I'.fea.f j hj with k|k
     ·rw[show(T.h j∈T.gd)=(T.h j∈S.gd) by rw[B]]at k;exact f1 _ k
     ·exact absurd k h) (fun j hj h=>by rw[E]at h;exact f2 _ h)
    have neg:=x! low he;have qe:=fZ (Y:=Y) (e:=e) (kP (RR:=RR) (goal:=goal) hz) (Z.g z hzm);have e1:- z.num*e=- (z.num*e):=by grind
    rw[Q,sp,ŋ,qe]at d;cases o:z.eq with
    |true =>
     have:=F.eq z hzm o
     rw[show val w z.row Y+- z.num*e=0 by lia]at d;split at d<;>lia
    |false =>
     have h3:=F.ge z hzm o;have h4:=hzt o;rw[Q,sp,ŋ]at h4;rw[yI h4]at d
     have:=è (ý I'.lin.pos) (show 0 <= val w z.row Y + - z.num * e by lia)
     lia
   cases o:z.eq with
   |true =>
    obtain⟨T,s2,a2,H,bb,e2,R2,K,B,I2,hb⟩:=Lp q.B R I hp ng nn' nt (by have:=A.ln;lia) (by have:=A.lt;lia);have tnd:T.tn.Nodup:=by
     rcases K.tn with h|h
     ·rw[h];exact A.tn
     ·rw[h]
      rw[ϭ];exact⟨A.tn,by simp,fun x b y D e=>nt (by rw[<- zM.mp D,<- e];exact b)⟩
    have es:cT [cw,c4,cg,aU,ak,b8,bY,bt,cZ] (.as (.ife (.cmp .Eq (.ix (.v 6) (.i 1)) (.s "=")) (.ca Ä 1 (.cons (.v 3) (.cons (.v 5) .nil))) (.ca Ä 2 (.cons (.v 3) (.cons (.v 5) .nil)))) (.nm 7)) [Is nn,Zs (gv.map Gv.av),Ls goal,Rs 1,Is (m:Int),Is ((RR.length+i:Nat):Int),À z.av,x7,Á] s
      = À (.nx [Is nn,Zs (gv.map Gv.av),Ls goal,Rs 1,Is (m:Int),Is ((RR.length+i:Nat):Int),À z.av,À (.bl bb),Á] s2):=by
     have xi:aZ s z.av (.int 1)=À (.str "="):=by
      have:z.av=.tup [.fz (iL z.row),.str "=",.int z.num]:=by unfold Gv.av;rw[o];rfl
      rw[this];rfl
     simp only[bH,C7,cA,dj,aI,aQ,lN,ar,aw,Â,xi,Æ,DG,ite_true,cm,aq,aD,sE,cp,cU,e2,k9];rfl
    rcases hb with⟨rfl,E⟩|⟨rfl,E,Q,low,U⟩
    ·refine⟨_,.nx [Is nn,Zs (gv.map Gv.av),Ls goal,Rs 1,Is (m:Int),Is ((RR.length+i:Nat):Int),À z.av,À (.bl Ã),Á] s2,rfl,aj es ?_,.inl ⟨_,s2,rfl,a2,H,T,_,_,_,rfl,R2,⟨I2,unk T K,fun x b=>?_,fun x b=>by rw[B];exact A.g2 x b,fun y G D k f=>?_,fun x b=>?_,fun y G D k f=>?_,fun x b=>?_,tnd,?_,?_,?_⟩⟩⟩
     ·simp[gg,cj,dr]
     ·rw[B]at b
      rcases A.g1 x b with h|⟨y,G,k,f⟩
      ·exact .inl h
      ·exact .inr ⟨y,G,by lia,f⟩
     ·rw[B]
      by_cases e:y=i
      ·subst e;rw[hz]at k;cases k;rw[o]at f;cases f
      ·exact A.g3 y G oM k f
     ·rw[E,zZ,zM]at b
      rcases b with b|b
      ·obtain⟨y,G,k,f⟩:=A.n1 x b;exact⟨y,G,by lia,f⟩
      ·exact⟨i,z,by lia,hz,o,by rw[b,sp]⟩
     ·rw[E,zZ,zM]
      by_cases e:y=i
      ·subst e;exact .inr (by rw[sp])
      ·exact .inl (A.n2 y G oM k f)
     ·rw[E,zZ,zM]
      rcases K.tn with h|h
      ·rw[h]at b;exact .inl (A.t1 x b)
      ·rw[h,zZ,zM]at b
       exact b.imp (A.t1 x) id
     ·rw[B];have:=A.lg;lia
     ·rw[E,zV];have:=A.ln;simp;lia
     ·rcases K.tn with h|h
      ·rw[h];have:=A.lt;lia
      ·rw[h,zV];have:=A.lt;simp;lia
    ·have tq:∀x∈T.tn,x∈T.nl\/x=T.s (RR.length+i):=fun x b=>by
      rw[E,Q];rcases K.tn with h|h
      ·rw[h]at b;exact .inl (A.t1 x b)
      ·rw[h,zZ,zM]at b
       exact b.imp (A.t1 x) id
     obtain⟨s3,W,s4,e3,e4⟩:=vU q R2 I2 hp tnd fun x b=>by
      rcases tq x b with h|h
      ·rw[E]at h;exact lst x h
      ·rw[h,Q,sp];lia
     refine⟨_,.rt (.tup [.str "never",.fz (iL W)]) s4,rfl,aj es ?_,.inr ⟨_,s4,rfl,_,rfl,.inl ⟨⟨W,rfl⟩,nev T I2 B E tq Q low U (fun h=>by rw[o]at h;cases h)⟩⟩⟩;rw[W7]at e3;simp[gg,cj,dr,e3,e4]
   |false =>
    obtain⟨T,s2,a2,H,bb,e2,R2,K,P,E,I2,hb⟩:=Lo q.B R I hp ng nn' (by have:=A.lg;lia);have es:cT [cw,c4,cg,aU,ak,b8,bY,bt,cZ] (.as (.ife (.cmp .Eq (.ix (.v 6) (.i 1)) (.s "=")) (.ca Ä 1 (.cons (.v 3) (.cons (.v 5) .nil))) (.ca Ä 2 (.cons (.v 3) (.cons (.v 5) .nil)))) (.nm 7)) [Is nn,Zs (gv.map Gv.av),Ls goal,Rs 1,Is (m:Int),Is ((RR.length+i:Nat):Int),À z.av,x7,Á] s
      = À (.nx [Is nn,Zs (gv.map Gv.av),Ls goal,Rs 1,Is (m:Int),Is ((RR.length+i:Nat):Int),À z.av,À (.bl bb),Á] s2):=by
     have xi:aZ s z.av (.int 1)=À (.str ">"):=by
      have:z.av=.tup [.fz (iL z.row),.str ">",.int z.num]:=by unfold Gv.av;rw[o];rfl
      rw[this];rfl
     simp only[bH,C7,cA,dj,aI,aQ,lN,ar,aw,Â,xi,Æ,DA,yC,ite_false,cm,aq,aD,sE,cp,cU,e2,k9];rfl
    rcases hb with⟨rfl,B⟩|⟨rfl,B,Q,low,U⟩
    ·refine⟨_,.nx [Is nn,Zs (gv.map Gv.av),Ls goal,Rs 1,Is (m:Int),Is ((RR.length+i:Nat):Int),À z.av,À (.bl Ã),Á] s2,rfl,aj es ?_,.inl ⟨_,s2,rfl,a2,H,T,_,_,_,rfl,R2,⟨I2,unk T K,fun x b=>?_,fun x b=>by rw[B];exact zL _ (A.g2 x b),fun y G D k f=>?_,fun x b=>?_,fun y G D k f=>?_,fun x b=>by rw[P]at b;rw[E];exact A.t1 x b,by rw[P];exact A.tn,?_,by rw[E];have:=A.ln;lia,by rw[P];have:=A.lt;lia⟩⟩⟩
     ·simp[gg,cj,dr]
     ·rw[B,zZ,zM]at b
      rcases b with b|b
      ·rcases A.g1 x b with h|⟨y,G,k,f⟩
       ·exact .inl h
       ·exact .inr ⟨y,G,by lia,f⟩
      ·exact .inr ⟨i,z,by lia,hz,o,by rw[b,sp]⟩
     ·rw[B,zZ,zM]
      by_cases e:y=i
      ·subst e;exact .inr (by rw[sp])
      ·exact .inl (A.g3 y G oM k f)
     ·rw[E]at b
      obtain⟨y,G,k,f⟩:=A.n1 x b;exact⟨y,G,by lia,f⟩
     ·rw[E]
      by_cases e:y=i
      ·subst e;rw[hz]at k;cases k;rw[o]at f;cases f
      ·exact A.n2 y G oM k f
     ·rw[B,zV];have:=A.lg;simp;lia
    ·have tq:∀x∈T.tn,x∈T.nl\/x=T.s (RR.length+i):=fun x b=>.inl (by rw[P]at b;rw[E];exact A.t1 x b)
     obtain⟨s3,W,s4,e3,e4⟩:=vU q R2 I2 hp (by rw[P];exact A.tn) fun x b=>by rw[P]at b;exact lst x (A.t1 x b)
     refine⟨_,.rt (.tup [.str "never",.fz (iL W)]) s4,rfl,aj es ?_,.inr ⟨_,s4,rfl,_,rfl,.inl ⟨⟨W,rfl⟩,nev T I2 B E tq Q low U (fun _=>by rw[P,Q];exact nt)⟩⟩⟩;rw[W7]at e3;simp[gg,cj,dr,e3,e4]) (sl:=[Is nn,Zs (gv.map Gv.av),Ls goal,Rs 1,Is (m:Int),Á,Á,Á,Á]) (st:=M) ⟨2,_,_,Á,Á,Á,rfl,R1,A0⟩
 have ei:d6 [cw,c4,cg,aU,ak,b8,bY,bt,cZ] (.es (.v 1) (.bin .Sub (.v 4) (.bi .len (.cons (.v 1) .nil)))) [Is nn,Zs (gv.map Gv.av),Ls goal,Rs 1,Is (m:Int),Á,Á,Á,Á] M=À (⟨fL RR.length (gv.map Gv.av),[]⟩,M):=by
  have k:(m:Int)-(gv.length:Int)=(RR.length:Int):=by lia
  have f:Þ RR.length 1000000=Ã:=yM oM;simp[xz,cF,eO,k];lia
 rcases loop with⟨sl',st2,e2,a,O,S,x5,x6,x7,rfl,R,A⟩|⟨v,st2,e2,t,P,hA⟩
 ·rw[show(fL RR.length (gv.map Gv.av)).length=gv.length by unfold fL;simp]at A
  refine aA (sl':=[Is nn,Zs (gv.map Gv.av),Ls goal,Rs 1,Is (m:Int),x5,x6,x7,Á]) (st':=st2) (by rw[lQ,ei,Â];exact e2) ?_;have hp:m<RR.length+gv.length+1:=by lia
  have spg:S.s m=w+m:=A.un m oM hp;have ng:S.s m∉S.gd:=fun h=>by rcases A.g1 _ h with h|⟨y,_,h,_,_,f⟩<;>lia
  obtain⟨r,e3,S2,a3,rows3,R3,K,n,sp3,h3⟩:=F3 q.B R A.mi hp ng;have A3:AI w RR.length gv (am RR gv goal) gv.length S2:=by
   refine⟨n,fun x k f=>?_,by rw[K.gd];exact A.g1,by rw[K.gd];exact A.g2,by rw[K.gd];exact A.g3,by rw[K.nl];exact A.n1,by rw[K.nl];exact A.n2,by rw[K.tn,K.nl];exact A.t1,by rw[K.tn];exact A.tn,by rw[K.gd];exact A.lg,by rw[K.nl];exact A.ln,by rw[K.tn];exact A.lt⟩;have:x=m:=by lia
   subst this;rw[sp3,spg]
  have P3:=n.shp;have lst:∀x∈S2.tn,x<w+(RR.length+gv.length+1):=fun x b=>by
   obtain⟨y,_,h,_,_,f⟩:=A3.n1 _ (A3.t1 x b);lia
  obtain⟨r1,r2⟩:=r;dsimp only at R3 h3
  have tb:∀X,GX S2 w w (RR.length+gv.length+1) X->Kp w RR gv (gI X) S2.d/\val w goal (gI X)=- S2.t m w:=fun X C=>by
   have:=A3.vert Z (c:=w) oM (fun h=>by lia) (X:=gI X) C.at_ (fun j hj h=>by
    rw[yI oM];exact C.no _ h fun i u=>æ (n.pm.hs j i hj u)) (fun i u B=>n.fea.g i u B)
   rw[yJ rfl,<- hm]at this;exact this
  rcases h3 with⟨rfl,U⟩|⟨J,rfl,U,htn⟩
  ·refine aA (sl':=[Is nn,Zs (gv.map Gv.av),Ls goal,Rs 1,Is (m:Int),x5,x6,x7,À .non]) (st':=r2) (by simp[R.ins,e3]) ?_
   obtain⟨z,e4,X,T,W,C,hT,hl,hW,hz⟩:=Ct (m:=RR.length+gv.length) (p:=m) R3 n q.B oM A3.tn lst q.hw oM q.HA q.H oM;obtain⟨z1,z2⟩:=z;dsimp only at hz;have gb:∀x∈X,x.natAbs<2^2500:=lW fun i u=>by
    rw[C.len]at u;by_cases h:∃y,y<RR.length+gv.length+1/\S2.s y=i
    ·obtain⟨y,D,rfl⟩:=h
     rw[C.at_ y D u];exact(q.B.bd2 n).2 y D w oM
    ·rw[C.no i u fun y D z=>h ⟨y,D,z⟩];exact Ñ _
   refine⟨(z1,z2),by simp[e4],z1,by rw[hz];rfl,.inr (.inl ⟨- S2.t m w,S2.d,_,_,_,_,hz,n.lin.pos,⟨by rw[ä];exact(q.B.bd2 n).2 m oM w oM,(q.B.bd2 n).1⟩,TbS.of C.len n.lin.pos ⟨gb,(q.B.bd2 n).1⟩ (tb X C).1 (tb X C).2,fun Y e he F=>?_⟩)⟩;obtain⟨f1,f2⟩:=A3.of Z F;have d:=n.dual hp (U.1 rfl) (fun x b=>.inl (A3.t1 x b)) (Y:=Y) (e:=e) (fun j hj h=>by
    rcases n.fea.f j hj with k|k
    ·exact f1 _ k
    ·exact absurd k h) (fun j hj h=>f2 _ h)
   have hnt:S2.s m∉S2.tn:=fun z=>by
    obtain⟨y,_,h,_,_,f⟩:=A3.n1 _ (A3.t1 _ z);rw[sp3,spg]at f;lia
   rw[yI hnt,sp3,spg,hm,fZ A6 (by rw[zH];exact Z.o),qc,yR,ģ,<- hm]at d;have e5:S2.d*- val w goal Y=- (val w goal Y*S2.d):=by grind
   have e6:- S2.t m w*e=- (S2.t m w*e):=by grind
   lia
  ·refine aA (sl':=[Is nn,Zs (gv.map Gv.av),Ls goal,Rs 1,Is (m:Int),x5,x6,x7,Is (J:Int)]) (st':=r2) (by simp[R.ins,e3]) ?_
   obtain⟨q1,q2,q3,_⟩:=U.2 J rfl;obtain⟨X,T,st4,e4,eT,C,R4⟩:=Dd R3 P3 n.pm (q.B.bd n) q.HA oM oM;subst eT;have gb:∀c,c<w+1->∀X,GX S2 w c (RR.length+gv.length+1) X->∀x∈X,x.natAbs<2^2500:=fun c hc X C=>lW fun i u=>by
    rw[C.len]at u;by_cases h:∃y,y<RR.length+gv.length+1/\S2.s y=i
    ·obtain⟨y,D,rfl⟩:=h
     rw[C.at_ y D u];exact(q.B.bd2 n).2 y D c hc
    ·rw[C.no i u fun y D z=>h ⟨y,D,z⟩];exact Ñ _
   obtain⟨X2,st5,e5,N⟩:=Kd R4 P3 n.pm (q.B.bd n) q.HA oM oM q1;obtain⟨V,hV⟩:∃V,V=if S2.h J<w then X2.set (S2.h J) S2.d else X2:=⟨_,rfl⟩
   rw[<- hV]at e5;have hVl:V.length=w:=by rw[hV];split<;>simp[N.len]
   have hVb:∀x∈V,x.natAbs<2^2500:=fun x b=>by
    rw[hV]at b;split at b
    ·rcases Ċ b with h|h
     ·exact gb J oM X2 N x h
     ·rw[h];exact(q.B.bd2 n).1
    ·exact gb J oM X2 N x b
   have hVx:∀x,x<w->gI V x=if x=S2.h J then S2.d else gI X2 x:=fun x b=>by
    rw[hV];by_cases h:S2.h J<w
    ·rw[yJ h,qC (by rw[N.len];exact h)]
    ·rw[yI h,yI oM]
   obtain⟨g',hg',eg⟩:=xp V;refine⟨(.tup [.str "endless",.tup [.fz (iL ((ao (X++[S2.d])).take w)),.int (gI (ao (X++[S2.d])) w)],.fz (iL (ao V))],st5),by simp[e4,e5],_,rfl,.inr (.inr ⟨_,_,_,rfl,(TbS.of C.len n.lin.pos ⟨gb w oM X C,(q.B.bd2 n).1⟩ (tb X C).1 (tb X C).2).1,⟨by rw[jr,hVl],lW fun i _=>ud (Ñ _) hVb i⟩,?_⟩)⟩
   have:=A3.vert Z (c:=J) oM (fun _=>q2) (X:=fun x=>if x=S2.h J then S2.d else gI X2 x) (fun i u Q=>by
    rw[yI (æ (n.pm.hs J i q1 u))];exact N.at_ i u Q) (fun j hj h=>by
    by_cases e:j=J
    ·subst e;rw[yJ rfl,yJ rfl]
    ·rw[yI fun z=>e (n.pm.hi j J hj q1 z),yI e]
     exact N.no _ h fun i u=>æ (n.pm.hs j i hj u)) (fun i u B=>by have:=htn.1 rfl i u B;lia)
   rw[yI oM,<- hm]at this;have ew:∀x,x<w->(if x=S2.h J then S2.d else gI X2 x)=g'*gI (ao V) x:=fun x b=>by rw[<- eg,hVx x b]
   refine⟨this.1.div hg' (by rw[yQ]) ew,?_⟩;have e2:=this.2;rw[mP ew]at e2;have:g'*val w goal (gI (ao V))<0:=by rw[e2];lia
   rcases yW (val w goal (gI (ao V))) 0 with h|h
   ·exact h
   ·have:=è (ý hg') h;lia
 ·refine⟨(v,st2),?_,t,P,hA⟩
  refine bS ?_;rw[lQ,ei,Â];exact e2
end
noncomputable def RR2:List (List Int):=[[0,-1,1],[-1,0,1],[1,1,-1]]
noncomputable def M2:Nat->List Int
 |1=>[1,0,1]
 |2=>[0,1,1]
 |_=>[1,1,1]
noncomputable def RR3:List (List Int):=[[0,0,0,0,0,-1,1],[0,0,0,0,-1,0,1],[0,0,-1,0,0,0,1],[1,1,-1,0,0,0,0],[0,0,0,-1,1,1,-1],[1,0,0,1,-1,0,0],[0,-1,1,0,0,1,-1],[0,1,0,1,0,-1,0],[-1,0,1,0,1,0,-1]]
noncomputable def MZ:Nat->List Int
 |1=>[1,0,0,1,0,0,1,0,0]
 |2=>[0,1,0,1,0,0,0,0,1]
 |3=>[1,1,0,1,0,0,1,0,1]
 |4=>[0,0,1,0,0,1,0,0,1]
 |5=>[1,0,1,1,0,0,1,0,1]
 |6=>[0,1,1,1,0,0,1,0,1]
 |_=>[1,1,1,1,0,0,1,0,1]
noncomputable def mk(w p m:Nat):List Int:=(È w).map fun i=>if p.testBit i then 1 else if m.testBit i then -1 else 0
def RR4:List (List Int):=[(16384,8192),(16384,4096),(16384,1024),(16384,64),(3,4),(48,72),(768,1152),(12288,18432),(9,16),(36,66),(2304,4224),(9216,16896),(129,256),(516,1026),(2064,4104),(8256,16416),(10,32),(20,65),(2560,8320),(5120,16640),(130,512),(260,1025),(2080,8200),(4160,16400),(136,2048),(272,4097),(544,8194),(1088,16388)].map fun z:Nat×Nat=>mk 15 z.1 z.2
def MY(g:Nat):List Int:=mk 28 ([33297,8519698,8552979,134349060,134382101,142737942,142770711,136318984,136348185,142745626,142770715,142754060,142770717,142770718,142770719].getD (g-1) 0) 0
theorem fv(a:rfs args=Ã)(h:((fn args []).bind fun p=>fF p.2 p.1)=À t):pm fn args st=À (t,st):=by
 obtain⟨p,c,b⟩:=zA h;exact aM a c b
def OS(b:Int)(w nr:Nat)(HO:Nat->List Int):Bool:=(È w).all fun g=>(match (dG [.int b,.int ((g+1:Nat):Int),.int 0] []).bind fun p=>fF p.2 p.1 with
 |some a=>rf a&&(match (fx [.int b,a] []).bind fun p=>fF p.2 p.1 with
  |some x=>dH x (.fz (iL (HO (g+1))))
  |none=>Ä)
 |none=>Ä)&&((HO (g+1)).length==nr&&(HO (g+1)).all fun x=>Þ x.natAbs 15)
theorem sK{f:Int}{w nr:Nat}{HO:Nat->List Int}(h:OS f w nr HO=Ã):HOk f w nr HO:=by
 have at_:∀a:Nat,1<=a->a<=w->(∃e,(∀b,pm dG [.int f,.int a,.int 0] b=À (e,b))/\∀b,pm fx [.int f,e] b=À (.fz (iL (HO a)),b))/\(HO a).length=nr/\∀x∈HO a,x.natAbs<=15:=fun a d c=>by
  obtain⟨g,rfl⟩:∃g,a=g+1:=⟨a-1,by lia⟩;have h:=yS.mp h g (Ò.mpr oM);simp only[zC]at h;obtain⟨i,o,n⟩:=h;refine⟨?_,yL o,fun x l=>zS (yS.mp n x l)⟩;split at i
  ·rename_i e p
   simp only[zC]at i;obtain⟨m,j⟩:=i;split at j
   ·rename_i x k
    rw[wy j]at k;exact⟨e,fun b=>fv rfl p,fun b=>fv (by simp[rfs,rf,m]) k⟩
   ·cases j
  ·cases i
 exact⟨fun a d c=>(at_ a d c).1,fun a d c=>(at_ a d c).2.1,fun a d c=>(at_ a d c).2.2⟩
theorem M6:∀st,pm ah [.int 2] st=À (.int ((3:Nat):Int),st):=fun st=>fv rfl (by kernel_rfl)
theorem M5:∀st,pm ah [.int 3] st=À (.int ((7:Nat):Int),st):=fun st=>fv rfl (by kernel_rfl)
theorem M4:∀st,pm ah [.int 4] st=À (.int ((15:Nat):Int),st):=fun st=>fv rfl (by kernel_rfl)
theorem O8:∀st,pm aY [.int 2] st=À (.fz (aJ RR2),st):=fun st=>fv rfl (by kernel_rfl)
theorem O7:∀st,pm aY [.int 3] st=À (.fz (aJ RR3),st):=fun st=>fv rfl (by kernel_rfl)
theorem O6:∀st,pm aY [.int 4] st=À (.fz (aJ RR4),st):=fun st=>fv rfl (by kernel_rfl)
theorem Pc:HOk 2 3 RR2.length M2:=sK (by kernel_rfl)
theorem Pb:HOk 3 7 RR3.length MZ:=sK (by kernel_rfl)
theorem Pa:HOk 4 15 RR4.length MY:=sK (by kernel_rfl)
noncomputable def RR1:List (List Int):=[[1]]
noncomputable def M3:Nat->List Int:=fun _=>[1]
theorem M7:∀st,pm ah [.int 1] st=À (.int ((1:Nat):Int),st):=fun st=>fv rfl (by kernel_rfl)
theorem O9:∀st,pm aY [.int 1] st=À (.fz (aJ RR1),st):=fun st=>fv rfl (by kernel_rfl)
theorem Pd:HOk 1 1 RR1.length M3:=sK (by kernel_rfl)
noncomputable def M0:Nat:=2^120
theorem JM{w:Nat}(o:w<=15)(t:RR.length<=100)(s:gv.length<=100)(k:∀l∈RR,∀x∈l,x.natAbs<=M0)(c:∀z∈gv,(∀x∈z.row,x.natAbs<=M0)/\z.num.natAbs<=M0)(j:∀x∈goal,x.natAbs<=M0):Bnd w (RR.length+gv.length+1) (v0 w (am RR gv goal)):=by
 refine⟨⟨M0,ϥ,fun q x n=>?_,?_⟩,by lia,by lia⟩
 ·have i:1<=M0:=ϥ
  unfold v0;split
  ·split<;>simp[i]
  ·unfold gI
   rw[zD,zD];cases e:(am RR gv goal)[q-w]? with
   |none=>simp
   |some l =>
    have b:=zW e;simp only[ϫ];cases m:l[x]? with
    |none=>simp
    |some y =>
     have a:=zW m;simp only[ϫ];unfold am at b;simp only[zZ,yE,zM]at b;rcases b with(⟨r,g,rfl⟩|⟨z,hz,rfl⟩)|rfl
     ·rcases zZ.mp a with h|h
      ·exact k r g y h
      ·rw[zM.mp h];simp
     ·rcases zZ.mp a with h|h
      ·exact(c z hz).1 y h
      ·rw[zM.mp h,ä];exact(c z hz).2
     ·rcases zZ.mp a with h|h
      ·obtain⟨u,d,rfl⟩:=yE.mp h
       rw[ä];exact j u d
      ·rw[zM.mp h];simp
 ·have f:SX.fct (w+1)<=2^45:=(by decide:∀w,w<16->SX.fct (w+1)<=2^45) w oM
  have p:M0^(w+1)<=2^1920:=by
   unfold M0;rw[<- Nat.pow_mul];exact Ý dC oM
  refine yN (ś f p) ?_;rw[<- ť];exact Ī dC dC
def k4(a:List Int)(RR:List (List Int))(x:Nat):Int:=((a.zip RR).map fun z=>z.1*gI z.2 x).sum
theorem v7{w:Nat}{Y:Nat->Int}:∀(cs:List Int)(RR:List (List Int)),Qf w (fun x=>k4 cs RR x*Y x)=((cs.zip RR).map fun z=>z.1*val w z.2 Y).sum
 |[],_=>by simp[k4];exact SX.sum_zero fun _ _=>rfl
 |_::_,[]=>by simp[k4];exact SX.sum_zero fun _ _=>rfl
 |c::cs,r::RR=>by
  rw[ĝ,zO,ĺ,<- v7 cs RR];unfold val;rw[<- SX.sum_mul,<- SX.sum_add];refine SX.sum_congr fun x _=>?_
  show k4 (c::cs) (r::RR) x*Y x=_;have:k4 (c::cs) (r::RR) x=c*gI r x+k4 cs RR x:=by simp[k4]
  rw[this];grind
theorem IQ{w:Nat}{Y:Nat->Int}{a:List Int}{RR:List (List Int)}(e:∀c∈a,0<=c)(h:∀r∈RR,0<=val w r Y):0<=((a.zip RR).map fun z=>z.1*val w z.2 Y).sum:=by
 have:∀l:List (Int×List Int),(∀z∈l,0<=z.1/\0<=val w z.2 Y)->0<=(l.map fun z=>z.1*val w z.2 Y).sum:=fun l=>by
  induction l with
  |nil=>intro _;simp
  |cons z l b =>
   intro h;rw[zO,ĺ];have g:=è (h z z7).1 (h z z7).2;have f:=b fun y d=>h y (zQ _ d)
   lia
 exact this _ fun z hz=>⟨e _ (î hz).1,h _ (î hz).2⟩
def Mx(w:Nat)(RR:List (List Int))(HO:Nat->List Int):Bool:=(È w).all fun g=>(HO (g+1)).all (fun c=>decide (0<=c))&&(È w).all fun x=>k4 (HO (g+1)) RR x==if x=g then 1 else 0
theorem wZ{w:Nat}{RR:List (List Int)}{HO:Nat->List Int}(a:Mx w RR HO=Ã):∀Y:Nat->Int,(∀r∈RR,0<=val w r Y)->∀x,x<w->0<=Y x:=fun Y h g d=>by
 have a:=yS.mp a g (Ò.mpr d);rw[zC]at a;have f:∀c∈HO (g+1),0<=c:=fun c f=>of_decide_eq_true (yS.mp a.1 c f)
 have b:∀x,x<w->k4 (HO (g+1)) RR x=if x=g then 1 else 0:=fun x b=>yL (yS.mp a.2 x (Ò.mpr b))
 have e:=v7 (w:=w) (Y:=Y) (HO (g+1)) RR;rw[SX.sum_one d fun x j i=>by rw[b x j,yI i,yR],b g d,yJ rfl,ϓ]at e;rw[e];exact IQ f h
def gw(n:Nat):Prop:=n=1\/n=2\/n=3\/n=4
def oi(n:Nat):List (List Int):=if n=1 then RR1 else if n=2 then RR2 else if n=3 then RR3 else RR4
def MX(n:Nat):Nat->List Int:=if n=1 then M3 else if n=2 then M2 else if n=3 then MZ else MY
theorem Mu{n:Nat}{gv:List Gv}{goal:List Int}(b:gw n)(c:gv.length<=100)(g:∀z∈gv,z.row.length=2^n-1/\(∀x∈z.row,x.natAbs<=M0)/\z.num.natAbs<=M0)(f:goal.length=2^n-1/\∀x∈goal,x.natAbs<=M0):Qu n (2^n-1) (oi n) (MX n) gv goal:=by
 have h:∀l∈oi n,l.length=2^n-1/\∀x∈l,x.natAbs<=1:=by rcases b with rfl|rfl|rfl|rfl<;>decide +kernel
 have d:(oi n).length<=100:=by rcases b with rfl|rfl|rfl|rfl<;>decide
 have a:2^n-1<=15:=by rcases b with rfl|rfl|rfl|rfl<;>decide
 have k:1<=M0:=ϥ;have j:Mx (2^n-1) (oi n) (MX n)=Ã:=by rcases b with rfl|rfl|rfl|rfl<;>kernel_rfl
 have B:=JM a d c (fun l e x i=>z5 ((h l e).2 x i) k) (fun z hz=>(g z hz).2) f.2;have Z:Sz (2^n-1) (oi n) gv goal:=⟨fun l e=>(h l e).1,fun z hz=>(g z hz).1,f.1,wZ j⟩;rcases b with rfl|rfl|rfl|rfl
 ·exact⟨O9,M7,Pd,Z,a,d,c,B⟩
 ·exact⟨O8,M6,Pc,Z,a,d,c,B⟩
 ·exact⟨O7,M5,Pb,Z,a,d,c,B⟩
 ·exact⟨O6,M4,Pa,Z,a,d,c,B⟩
theorem AW{a:Int}{w:Nat}{RR:List (List Int)}{HO:Nat->List Int}{gv:List Gv}{goal:List Int}(q:Qu a w RR HO gv goal):∃t,(∀st,pm fT [.int a,.fz (gv.map Gv.av),.fz (iL goal)] st=À (t,st))/\sP w RR gv goal t:=by
 obtain⟨z,e,t,h,A⟩:=CU q;exact⟨t,fun st=>aM rfl e h,A⟩
section
variable{ks:List Fn}{sl:Sl}{st:aa}{ss:Qm}{P:AV×aa->Prop}
theorem cK{s:Sx}{v:AV}{st':aa}(h:cT ks s sl st=À (.rt v st'))(a:P (v,st')):∃r,(ae ks (.cons s ss) sl st).bind au=À r/\P r:=⟨_,bS h,a⟩
theorem kx{α:Type}{em:α->AV}{it:Ix}{t:Tg}{b:Qm}{xs:List α}{gd:Gd}{st0:aa}(I:Nat->Sl->aa->Prop)(k:d6 ks it sl st=À (⟨xs.map em,gd⟩,st0))(l:∀i sl st,I i sl st->cM gd st=Ã)(m:I 0 sl st0)
  (h:∀i x sl st,xs[i]?=À x->I i sl st->∃p sl2 st2,cP ks t (em x) sl st=À p/\ae ks b p.1 p.2=À (.nx sl2 st2)/\I (i+1) sl2 st2)
  (f:∀sl' st',I xs.length sl' st'->∃r,(ae ks ss sl' st').bind au=À r/\P r):∃r,(ae ks (.cons (.fo it t b) ss) sl st).bind au=À r/\P r:=by
 obtain⟨sl',st',e,a⟩:=fX (gd:=gd) (g:=cP ks t) (s:=ae ks b) (I:=I) (xs:=xs.map em) (fun i sl st _ a=>l i sl st a) (fun i y sl st c a=>by
  rw[zR]at c;obtain⟨x,d,rfl⟩:=zE.mp c;exact h i x sl st d a) m
 rw[zH]at a;obtain⟨r,n,j⟩:=f sl' st' a;exact⟨r,ag (by rw[lQ,k,Â];exact e) n,j⟩
theorem C2{α:Type}{em:α->AV}{it:Ix}{t:Tg}{b:Qm}{xs:List α}{gd:Gd}{st0:aa}{Q:Out->Prop}(I:Nat->Sl->aa->Prop)(k:d6 ks it sl st=À (⟨xs.map em,gd⟩,st0))(l:∀i sl st,I i sl st->cM gd st=Ã)(m:I 0 sl st0)
  (h:∀i x sl st,xs[i]?=À x->I i sl st->∃p sl2 st2,cP ks t (em x) sl st=À p/\ae ks b p.1 p.2=À (.nx sl2 st2)/\I (i+1) sl2 st2)
  (f:∀sl' st',I xs.length sl' st'->∃r,ae ks ss sl' st'=À r/\Q r):∃r,ae ks (.cons (.fo it t b) ss) sl st=À r/\Q r:=by
 obtain⟨sl',st',e,a⟩:=fX (gd:=gd) (g:=cP ks t) (s:=ae ks b) (I:=I) (xs:=xs.map em) (fun i sl st _ a=>l i sl st a) (fun i y sl st c a=>by
  rw[zR]at c;obtain⟨x,d,rfl⟩:=zE.mp c;exact h i x sl st d a) m
 rw[zH]at a;obtain⟨r,n,j⟩:=f sl' st' a;exact⟨r,aj (by rw[lQ,k,Â];exact e) n,j⟩
theorem bh{s:Sx}{sl':Sl}{st':aa}{Q:Out->Prop}(h:cT ks s sl st=À (.nx sl' st'))(a:∃r,ae ks ss sl' st'=À r/\Q r):∃r,ae ks (.cons s ss) sl st=À r/\Q r:=by
 obtain⟨r,e,q⟩:=a;exact⟨r,aj h e,q⟩
end
section
variable{ks:List Fn}{sl:Sl}{st:aa}{ss:Qm}{P:AV×aa->Prop}
theorem jp{α c:Type}{em:c->AV}{it:Ix}{t:Tg}{b:Qm}{xs:List c}{gd:Gd}{st0:aa}(I:Nat->α->Sl->aa->Prop)(f:α->c->α)(a:α)(j:d6 ks it sl st=À (⟨xs.map em,gd⟩,st0))(o:I 0 a sl st0)(k:∀i a sl st,I i a sl st->cM gd st=Ã)
  (h:∀i a x sl st,xs[i]?=À x->I i a sl st->∃p sl2 st2,cP ks t (em x) sl st=À p/\ae ks b p.1 p.2=À (.nx sl2 st2)/\I (i+1) (f a x) sl2 st2)
  (g:∀sl' st',I xs.length (xs.foldl f a) sl' st'->∃r,(ae ks ss sl' st').bind au=À r/\P r):∃r,(ae ks (.cons (.fo it t b) ss) sl st).bind au=À r/\P r:=by
 refine kx (fun i=>I i ((xs.take i).foldl f a)) j (fun i=>k _ _) o (fun i x sl st e d=>?_) fun sl' st' d=>g sl' st' (by rwa [ĭ]at d)
 obtain⟨p,sl2,st2,n,m,l⟩:=h i _ x sl st e d;refine⟨p,sl2,st2,n,m,?_⟩;rw[Ϭ,e,ϙ,Ϯ];exact l
theorem Ed{α c:Type}{em:c->AV}{it:Ix}{t:Tg}{b:Qm}{xs:List c}{gd:Gd}{st0:aa}{Q:Out->Prop}(I:Nat->α->Sl->aa->Prop)(f:α->c->α)(a:α)(j:d6 ks it sl st=À (⟨xs.map em,gd⟩,st0))(o:I 0 a sl st0)(k:∀i a sl st,I i a sl st->cM gd st=Ã)
  (h:∀i a x sl st,xs[i]?=À x->I i a sl st->∃p sl2 st2,cP ks t (em x) sl st=À p/\ae ks b p.1 p.2=À (.nx sl2 st2)/\I (i+1) (f a x) sl2 st2)
  (g:∀sl' st',I xs.length (xs.foldl f a) sl' st'->∃r,ae ks ss sl' st'=À r/\Q r):∃r,ae ks (.cons (.fo it t b) ss) sl st=À r/\Q r:=by
 refine C2 (fun i=>I i ((xs.take i).foldl f a)) j (fun i=>k _ _) o (fun i x sl st e d=>?_) fun sl' st' d=>g sl' st' (by rwa [ĭ]at d)
 obtain⟨p,sl2,st2,n,m,l⟩:=h i _ x sl st e d;refine⟨p,sl2,st2,n,m,?_⟩;rw[Ϭ,e,ϙ,Ϯ];exact l
end
theorem GI{f:AV->AV->Option AV}{h:Nat->Nat->Nat} (t:∀x:Nat,x<16->∀y:Nat,y<16->(match f (.int x) (.int y) with
  |some (.int b)=>decide (b=(h x y:Int))
  |_=>Ä)=Ã) {x y:Nat} (c:x<16) (a:y<16):f (.int (x:Int)) (.int (y:Int))=À (.int (h x y:Int)):=by
 have t:=t x c y a;split at t
 ·rename_i b e
  rw[of_decide_eq_true t]at e;exact e
 ·cases t
section
variable{st:aa}{os:List Nat}{n g k j:Nat}{D:List Int}
theorem wX{x y:Nat}(b:x<16)(a:y<16):aP .BitOr st (.int (x:Int)) (.int (y:Int))=À (.int ((x ||| y:Nat):Int)):=by
 show aP .BitOr [] (.int (x:Int)) (.int (y:Int))=_;exact GI (f:=aP .BitOr []) (h:=fun x y=>x ||| y) (by decide +kernel) b a
theorem kW{ks:List Fn}{a:Ex}{sl:Sl}{n:Nat}(h:ev ks a sl st=À (.int (n:Int),st))(b:n<=1000):d6 ks (.r1 a) sl st=À (⟨(È n).map fun q:Nat=>AV.int (q:Int),[]⟩,st):=by
 show(ev ks a sl st).bind _=_;rw[h,Â];dsimp only;have:gC (n:Int)=Ã:=by
  unfold gC;refine yM ?_;rw[Ģ];by_cases hz:n=0
  ·subst hz;decide
  ·exact y0 ((Ĉ hz).mpr (yN b dC))
 rw[yJ this,U4,sA];rfl
theorem jh{ks:List Fn}{a e:Ex}{sl:Sl}{y:AV}{xs:List AV}{k:Nat}(f:ev ks a sl st=À (.ref k,st))(d:ev ks e sl st=À (y,st))(b:st[k]?=À (.lst xs))(c:xs.length<=1000):cT ks (.ex (.mt .app a (.cons e .nil))) sl st=À (.nx sl (st.set k (.lst (xs++[y])))):=by
 simp[mJ,tU,tT,f,sY,cC b,d,t9,jf,b,cR c]
theorem g8{α:Type}{ks:List Fn}{k:Nat}{it:Ix}{t:Tg}{c:Cx'}{e:Ex}{sl:Sl}{gd:Gd}{em:α->AV}{B:α->Bool}{F:α->AV}{xs:List α}(a:d6 ks it sl st=À (⟨xs.map em,gd⟩,st))(b:cM gd st=Ã)(hz:xs.length<=1000)
  (h:∀x∈xs,∃sl1,cP ks t (em x) (sl++É k Á) st=À (sl1,st)/\kK ks c sl1 st=À (B x,st)/\(B x=Ã->ev ks e sl1 st=À (F x,st))):i9 ks (.lc k it t c e) sl st=À ((xs.filter B).map F,st):=by
 rw[NK,a,Â];dsimp only;rw[yJ (cR (by rw[zH];exact hz))];exact iq b h
theorem sZ{b:Bool}:gg st (.bl b)=À b:=rfl
theorem IG{m:Nat}{l:List Int}:bC (fc (m+1) st) (iL l)=À (l.map ŭ):=fJ (f:=fc (m+1) st) (i:=AV.int) (g:=ŭ) (fun _=>rfl) l
end
section
variable{st:aa}{os:List Nat}{n g k j:Nat}{A B O:Qd}{D T:List Int}
theorem rq{z c:Int}(a:hU c=Ã)(b:0<c):aP .FloorDiv st (.int z) (.int c)=À (.int (z/c)):=by rw[ly a];exact congrArg (fun q=>À (AV.int q)) (yJ b)
theorem tX{z c:Int}(a:0<c):aP .Mod st (.int z) (.int c)=À (.int (z%c)):=by rw[iJ oM];exact congrArg (fun q=>À (AV.int q)) (yJ a)
theorem JV{x y:Nat}:aP .BitAnd st (.int (x:Int)) (.int (y:Int))=À (.int ((x &&& y:Nat):Int)):=by
 show À (AV.int (Ł (x:Int) (y:Int)))=_;rfl
theorem Lj{l:List Int}:cF eO [.fz (iL l)] st=À (.int ((l.length:Nat):Int),st):=by
 show À (AV.int ((iL l).length:Int),st)=_;rw[kC]
theorem Mb{l:List AV}{i:Int}(c:0<=i)(b:i<l.length):∃x∈l,aZ st (.fz l) (.int i)=À x:=by
 obtain⟨q,rfl⟩:∃q:Nat,i=(q:Int):=⟨i.toNat,by lia⟩;have a:q<l.length:=by lia
 refine⟨l[q],Į a,?_⟩;rw[dF dR,di,zF a]
end
section
variable{st:aa}
theorem u0{ns:List Int}{k:Nat}:pm eZ [.fz (iL ns),.int (k:Int)] st=À (.int (SX.gI ns k),st):=by
 refine aM (by simp[rfs,rf,du]) (v:=.int (SX.gI ns k)) (st':=[]) ?_ rfl;rw[eZ,ay];show(ae [] iA [À (.fz (iL ns)),À (.int (k:Int))] []).bind au=_;by_cases h:k<ns.length
 ·refine bS (s:=.iff _ _ _) ?_
  have c:decide ((k:Int)<((ns.length:Nat):Int))=Ã:=yX oM;have a:aZ ([]:aa) (.fz (iL ns)) (.int (k:Int))=À (.int (SX.gI ns k)):=by rw[dF dR,di,de h]
  simp[cF,eO,h,a,lU]
 ·have b:SX.gI ns k=0:=by unfold SX.gI;rw[zD,í oM];rfl
  refine ag (sl':=[À (.fz (iL ns)),À (.int (k:Int))]) (st':=[]) ?_ (bS (by rw[b];rfl));simp[cF,eO,h]
theorem jN{a b:Int}(h:a.natAbs<2^62):c7 a b=Ã:=by
 unfold c7;have:Þ a.natAbs.log2 62=Ã:=yM (by
  by_cases hz:a.natAbs=0
  ·rw[hz];decide
  ·exact y0 ((Ĉ hz).mpr h))
 rw[this];simp
theorem xj{a b:Int}(h:b.natAbs<2^62):c7 a b=Ã:=by
 unfold c7;have:Þ b.natAbs.log2 62=Ã:=yM (by
  by_cases hz:b.natAbs=0
  ·rw[hz];decide
  ·exact y0 ((Ĉ hz).mpr h))
 rw[this];simp
theorem lb{a b:Int}(h:0<b):rn a b=a%b:=yJ h
theorem DF{a b:Int}(h:0<b):uB a b=a/b:=yJ h
theorem kA{a:Int}{b:Nat}(h:0<b):∃r:Nat,a%(b:Int)=(r:Int)/\r<b:=by
 have d:=W9 a (b:=(b:Int)) oM;have c:=U' a (b:=(b:Int)) oM;exact⟨(a%(b:Int)).toNat,by lia,by lia⟩
theorem Kr{k:Nat}{l:List Nat}(h:st[k]?=À (.lst (nL l))):fF st (.ref k)=À (.fz (nL l)):=by
 show bF 6 st (.ref k)=_;unfold bF;have:bC (bF 5 st) (nL l)=À (nL l):=fJ (f:=bF 5 st) (i:=fun q:Nat=>AV.int (q:Int)) (g:=fun q:Nat=>AV.int (q:Int)) (fun x=>rfl) l;simp only[h,this,Æ]
theorem sD:aP .Pow st (.int 10) (.int 18)=À (.int 1000000000000000000):=by kernel_rfl
theorem qE{c:Int}{many base:Nat}(hm:many<=100)(P:0<base)(C:base<2^62):∃D:List Nat,pm aE [.int c,.int (many:Int),.int (base:Int)] st=À (.fz (nL D),st)/\D.length=many/\∀x∈D,x<base:=by
 have K:(base:Int)≠0:=by lia
 have I:(0:Int)<(base:Int):=by lia
 have J:hU (base:Int)=Ã:=pV K (zJ (by rw[Ģ];exact C) (Ý dC dC));have B:∃r,aE [.int c,.int (many:Int),.int (base:Int)] []=À r/\∃D:List Nat,r=(.ref 0,[.lst (nL D)])/\D.length=many/\∀x∈D,x<base:=by
  rw[aE,ay];show ∃r,(ae [] jI [À (.int c),À (.int (many:Int)),À (.int (base:Int)),Á,Á,Á,Á] []).bind au=À r/\_;refine aA (sl':=[À (.int c),À (.int (many:Int)),À (.int (base:Int)),À (.ref 0),Á,Á,Á]) (st':=[.lst []]) rfl ?_;refine aA (sl':=[À (.int c),À (.int (many:Int)),À (.int (base:Int)),À (.ref 0),À (.int c),Á,Á]) (st':=[.lst []]) rfl ?_;refine kx (xs:=È many) (em:=fun q:Nat=>AV.int (q:Int)) (fun i L st=>∃l w f D,L=[À (.int c),À (.int (many:Int)),À (.int (base:Int)),À (.ref 0),À (.int l),w,f]/\st=[.lst (nL D)]/\D.length=i/\∀x∈D,x<base) (kW (n:=many) rfl oM) (fun _ _ _ _=>rfl) ⟨c,Á,Á,[],rfl,rfl,rfl,by simp⟩ (fun i x L st O F=>?_) fun sl' st' F=>?_
  ·obtain⟨l,w,f,D,rfl,rfl,t,s⟩:=F
   have hi:i<many:=by have:=(zB.mp O).1;simpa using this
   have ex:x=i:=by have:=(zB.mp O).2;simpa using this.symm
   subst ex;by_cases p:1000000000000000000<=(if c<0 then -c else c)/\l≠0/\l≠-1
   ·obtain⟨r,o,g⟩:=kA (a:=l) (b:=base) P
    refine⟨_,[À (.int c),À (.int (many:Int)),À (.int (base:Int)),À (.ref 0),À (.int (l/(base:Int))),À (.int (x:Int)),f],[.lst (nL (D++[r]))],rfl,?_,_,_,_,_,rfl,rfl,by simp[t],fun z hz=>?_⟩
    ·refine aj (sl':=[À (.int c),À (.int (many:Int)),À (.int (base:Int)),À (.ref 0),À (.int (l/(base:Int))),À (.int (x:Int)),f]) (st':=[.lst (nL (D++[r]))]) ?_ rfl
     have A:tv [] (.an (.cmp .GtE (.bi .abs (.cons (.v 0) .nil)) (.bin .Pow (.i 10) (.i 18))) (.an (.cmp .NotEq (.v 4) (.i 0)) (.cmp .NotEq (.v 4) (.un .USub (.i 1))))) [À (.int c),À (.int (many:Int)),À (.int (base:Int)),À (.ref 0),À (.int l),À (.int (x:Int)),f] [.lst (nL D)]=À (Ã,[.lst (nL D)]):=by
      simp[cF,lB,sD,p.1,p.2.1,p.2.2,lO]
     show(ž (tv [] _ [À (.int c),À (.int (many:Int)),À (.int (base:Int)),À (.ref 0),À (.int l),À (.int (x:Int)),f] [.lst (nL D)]) _)=_;rw[A,Â];dsimp only;rw[yJ rfl];refine aj (jh (k:=0) (xs:=nL D) (y:=.int (r:Int)) rfl (by simp[iJ K,lb I];exact o) rfl (by simp;lia)) ?_;refine aj (sl':=[À (.int c),À (.int (many:Int)),À (.int (base:Int)),À (.ref 0),À (.int (l/(base:Int))),À (.int (x:Int)),f]) (st':=[.lst (nL (D++[r]))]) ?_ rfl;have H:nL D++[AV.int (r:Int)]=nL (D++[r]):=by unfold nL;simp
     simp[ly J,DF I,H]
    ·rcases zZ.mp hz with h|h
     ·exact s z h
     ·rw[zM.mp h];exact g
   ·obtain⟨a,E,Z⟩:=kA (a:=(c+1009)*69621+7919*(x:Int)) (b:=2147483629) dC
    obtain⟨b,j,Y⟩:=kA (a:=(a:Int)*(a:Int)+17*(x:Int)+5) (b:=2147483629) dC;obtain⟨d,hd,X⟩:=kA (a:=(b:Int)*(b:Int)) (b:=2147483587) dC;obtain⟨r,o,g⟩:=kA (a:=(d:Int)/64) (b:=base) P;have two:(2:Nat)^62=4611686018427387904:=by decide
    refine⟨_,[À (.int c),À (.int (many:Int)),À (.int (base:Int)),À (.ref 0),À (.int l),À (.int (x:Int)),À (.int (b:Int))],[.lst (nL (D++[r]))],rfl,?_,_,_,_,_,rfl,rfl,by simp[t],fun z hz=>?_⟩
    ·refine aj (sl':=[À (.int c),À (.int (many:Int)),À (.int (base:Int)),À (.ref 0),À (.int l),À (.int (x:Int)),À (.int (b:Int))]) (st':=[.lst (nL (D++[r]))]) ?_ rfl
     have A:tv [] (.an (.cmp .GtE (.bi .abs (.cons (.v 0) .nil)) (.bin .Pow (.i 10) (.i 18))) (.an (.cmp .NotEq (.v 4) (.i 0)) (.cmp .NotEq (.v 4) (.un .USub (.i 1))))) [À (.int c),À (.int (many:Int)),À (.int (base:Int)),À (.ref 0),À (.int l),À (.int (x:Int)),f] [.lst (nL D)]=À (Ä,[.lst (nL D)]):=by
      by_cases m:1000000000000000000<=(if c<0 then -c else c)
      ·by_cases u:l=0
       ·simp[cF,lB,sD,m,u,lO]
       ·have G:l=-1:=ö fun G=>p ⟨m,u,G⟩
        simp[cF,lB,sD,m,G,lO]
      ·simp[cF,lB,sD,m,lO]
     show(ž (tv [] _ [À (.int c),À (.int (many:Int)),À (.int (base:Int)),À (.ref 0),À (.int l),À (.int (x:Int)),f] [.lst (nL D)]) _)=_;rw[A,Â];dsimp only;rw[yI dC];have W:c7 (c+1009) 69621=Ã:=xj dC;have m2:c7 7919 (x:Int)=Ã:=jN dC;have m3:c7 (a:Int) (a:Int)=Ã:=jN oM;have V:c7 17 (x:Int)=Ã:=jN dC;have U:c7 (b:Int) (b:Int)=Ã:=jN oM;have E:((c+1009)*69621+7919*(x:Int))%2147483629=(a:Int):=E;have j:((a:Int)*(a:Int)+17*(x:Int)+5)%2147483629=(b:Int):=j;have hd:((b:Int)*(b:Int))%2147483587=(d:Int):=hd;have o:((d:Int)/64)%(base:Int)=(r:Int):=o;have N:(2147483629:Int)≠0:=by decide
     have T:(2147483587:Int)≠0:=by decide
     have S:=K;have M:(0:Int)<2147483629:=by decide
     have R:(0:Int)<2147483587:=by decide
     have Q:=I;have dv:hU 64=Ã:=by decide
     refine aj (sl':=[À (.int c),À (.int (many:Int)),À (.int (base:Int)),À (.ref 0),À (.int l),À (.int (x:Int)),À (.int (a:Int))]) (st':=[.lst (nL D)]) (by simp [bW W,bW m2,iJ N,lb M,E]) ?_;refine aj (sl':=[À (.int c),À (.int (many:Int)),À (.int (base:Int)),À (.ref 0),À (.int l),À (.int (x:Int)),À (.int (b:Int))]) (st':=[.lst (nL D)]) (by simp [bW m3,bW V,iJ N,lb M,j]) ?_;refine (aj (jh (k:=0) (xs:=nL D) (y:=.int (r:Int)) rfl (by simp [bW U,iJ T,iJ S,lb R,lb Q,hd,ly dv,DF (show (0:Int) < 64 by decide),o]) rfl (by simp;lia)) rfl).trans ?_;have H:nL D++[AV.int (r:Int)]=nL (D++[r]):=by unfold nL;simp
     rw[H];rfl
    ·rcases zZ.mp hz with h|h
     ·exact s z h
     ·rw[zM.mp h];exact g
  ·obtain⟨l,w,f,D,rfl,rfl,t,s⟩:=F
   refine cK (v:=.ref 0) (st':=[.lst (nL D)]) rfl ⟨D,rfl,by simpa using t,s⟩
 obtain⟨r,e,D,rfl,m,u⟩:=B;refine⟨D,aM rfl e (Kr rfl),m,u⟩
end
section
variable{st:aa}
theorem Ds{l:List Int}:lsI st (.fz (iL l))=À l:=by
 unfold lsI;rw[dR,Â];unfold mX;rw[show iL l=l.map AV.int from rfl,fJ (i:=AV.int) (g:=id) (fun _=>rfl),List.map_id]
theorem xK:∀l:List Gv,rfs (l.map Gv.av)=Ã:=fun l=>fV fun x a=>by
 obtain⟨z,_,rfl⟩:=yE.mp a;simp[Gv.av,rf,rfs,du]
variable{w:Nat}{RR:List (List Int)}{gv:List Gv}{X Y Z:Nat->Int}{e:Int}{goal:List Int}
theorem qd{r:List Int}:val w r (fun x=>X x+Z x)=val w r X+val w r Z:=by
 unfold val;rw[<- SX.sum_add];exact SX.sum_congr fun x _=>by grind
theorem Kp.add(h:Kp w RR gv X e)(c:Kp w RR gv Z 0):Kp w RR gv (fun x=>X x+Z x) e:=by
 refine⟨fun r d=>?_,fun z hz a=>?_,fun z hz a=>?_⟩
 ·have:=h.rule r d;have:=c.rule r d;rw[qd];lia
 ·have f:=h.eq z hz a;have b:=c.eq z hz a;rw[qd];rw[yQ]at b;lia
 ·have f:=h.ge z hz a;have b:=c.ge z hz a;rw[qd];rw[yQ]at b;lia
theorem Ag{T d:Int}(hd:0<d):∃q:Int,0<q/\T=gI (ao [T,d]) 0*q/\d=gI (ao [T,d]) 1*q/\0<gI (ao [T,d]) 1:=by
 have a:gL [T,d]=ă T.natAbs d.natAbs:=by
  show ă (ă 0 T.natAbs) d.natAbs=_;rw[Nat.gcd_zero_left]
 have g:0<ă T.natAbs d.natAbs:=Nat.gcd_pos_of_pos_right _ oM;have e:ao [T,d]=[T/(ă T.natAbs d.natAbs:Int),d/(ă T.natAbs d.natAbs:Int)]:=by
  unfold ao;rw[yI (by rw[a];lia),a];rfl
 have f:((ă T.natAbs d.natAbs:Nat):Int) ∣ T:=s?.mp (ŷ.mpr (V8 _ _));have b:((ă T.natAbs d.natAbs:Nat):Int) ∣ d:=s?.mp (ŷ.mpr (U2 _ _));rw[e];refine⟨(ă T.natAbs d.natAbs:Nat),by lia,(Ϟ f).symm,(Ϟ b).symm,?_⟩;show 0<d / _;have c:=Ϟ b;rcases U6 0 (d/((ă T.natAbs d.natAbs:Nat):Int)) with h|h|h
 ·exact h
 ·rw[<- h]at c;lia
 ·have:=x! h (show (0:Int) < ((ă T.natAbs d.natAbs:Nat):Int) by lia);lia
theorem o9{a b:Int}{m n:Nat}(d:a.natAbs<2^m)(c:b.natAbs<2^n):(a*b).natAbs<2^(m+n):=by
 rw[xA,ť];exact Nat.mul_lt_mul'' d c
theorem Ab{a b:Int}{m:Nat}(d:a.natAbs<2^m)(c:b.natAbs<2^m):(a+b).natAbs<2^(m+1):=by
 rw[ż];generalize 2^m=q at *;lia
theorem xb{a b q:Int}{m:Nat}(h:b=a*q)(d:0<q)(c:b.natAbs<2^m):a.natAbs<2^m:=by
 refine yN ?_ c;rw[h,xA];exact Nat.le_mul_of_pos_right _ oM
end
section
variable{nn:Int}{st:aa}{w:Nat}{RR:List (List Int)}{HO:Nat->List Int}{gv:List Gv}{r X Z goal:List Int}{Y:Nat->Int}{e D num:Int}
theorem GR(n:Nat)(f:Nat->Int):Qf (n+1) f=f 0+Qf n fun i=>f (i+1):=by
 induction n with
 |zero=>simp[Qf]
 |succ n a=>rw[Qf,a,Qf];lia
theorem qo:∀(r X:List Int),r.length=X.length->((r.zip X).map fun z=>z.1*z.2).sum=Qf r.length fun x=>gI r x*gI X x
 |[],_,_=>rfl
 |x::r,[],h=>by simp at h
 |x::r,y::X,h=>by
  rw[ĝ,zO,ĺ,qo r X (by simpa using h),yZ,GR];rfl
theorem vE(a:r.length=w)(h:X.length=w)(g:w<=15)(d:∀x∈r,x.natAbs<2^9000)(f:∀x∈X,x.natAbs<2^9000):pm iC [.fz (iL r),.fz (iL X)] st=À (.int (val w r (gI X)),st):=by
 have e:=g8 (st:=[]) (ks:=[]) (k:=2) (it:=.zi (.v 0) (.v 1)) (t:=.tu 2 (.cons (.nm 2) (.cons (.nm 3) .nil))) (c:=.no) (e:=.bin .Mult (.v 2) (.v 3)) (sl:=[Ls r,Ls X]) (gd:=[]) (em:=fun z:Int×Int=>AV.tup [.int z.1,.int z.2]) (xs:=r.zip X) (B:=fun _=>Ã) (F:=fun z=>AV.int (z.1*z.2)) (by
  rw[<- lM];rfl) rfl (by rw[Ą];lia) fun z hz=>by
   have:=î hz
   exact⟨[Ls r,Ls X,Is z.1,Is z.2],rfl,rfl,fun _=>by simp[bW (c6 (d _ this.1) (f _ this.2))]⟩
 rw[Ø.mpr (fun _ _=>rfl),show(r.zip X).map (fun z=>AV.int (z.1*z.2))=iL ((r.zip X).map fun z=>z.1*z.2) by unfold iL;rw[Ù];rfl]at e;have b:ev [] (.nw Ä (.lc 2 (.zi (.v 0) (.v 1)) (.tu 2 (.cons (.nm 2) (.cons (.nm 3) .nil))) .no (.bin .Mult (.v 2) (.v 3)))) [Ls r,Ls X] []=À (.fz (iL ((r.zip X).map fun z=>z.1*z.2)),[]):=by
  rw[dO,e,Â,yJ du]
 refine aM (by simp[rfs,rf,du]) (v:=.int (val w r (gI X))) (st':=[]) ?_ rfl;rw[iC,ay];show(ae [] qK [Ls r,Ls X] []).bind au=_;refine bS ?_;simp only[gh,kT,aq,aD,b,Â,vf,cF,ow,Ds,Æ];rw[qo r X oM,a];rfl
theorem sU{M N:Nat}(d:r.length=w)(j:X.length=w)(a:w<=15)(b:∀x∈r,x.natAbs<2^M)(c:∀x∈X,x.natAbs<2^N):(val w r (gI X)).natAbs<2^(M+N+4):=by
 have h:=SX.abs_sum (n:=w) (f:=fun x=>gI r x*gI X x) (M:=2^(M+N)) fun i g=>by
  rw[xA,ť];exact ś (y0 (mZ b (Ñ _) i)) (y0 (mZ c (Ñ _) i))
 have k:w*2^(M+N)<=15*2^(M+N):=ϑ _ a;have e:=Ñ (M+N);unfold val;rw[ť _ (M+N)];generalize 2^(M+N)=B at *;lia
theorem Kp.scale{c:Int}(b:0<=c)(h:Kp w RR gv Y 0):Kp w RR gv (fun x=>c*Y x) 0:=by
 have e:∀r,val w r (fun x=>c*Y x)=c*val w r Y:=fun r=>mP fun _ _=>rfl
 refine⟨fun r d=>?_,fun z hz a=>?_,fun z hz a=>?_⟩
 ·rw[e];exact è b (h.rule r d)
 ·rw[e,h.eq z hz a,yQ,yQ]
 ·rw[e,yQ]
  have:=h.ge z hz a
  rw[yQ]at this;exact è b this
theorem f8{x:Int}{M:Nat}(h:x.natAbs<2^M)(a:M<=9000):x.natAbs<2^9000:=zJ h (Ý dC a)
theorem Ld{a b:Int}:cF qx [.int a,.int b] st=À (.int (max a b),st):=by
 have:cF qx [.int a,.int b] st=À (.int (if b > a then b else a),st):=rfl;rw[this];congr 3;split<;>lia
structure A2(w:Nat)(RR:List (List Int))(gv:List Gv)(X:List Int)(D:Int):Prop where
 len:X.length=w
 pos:0<D
 bd:(∀x∈X,x.natAbs<2^9000)/\D.natAbs<2^9000
 kp:Kp w RR gv (gI X) D
theorem TbS.f(h:TbS w RR gv X D):A2 w RR gv X D:=⟨h.len,h.pos,⟨fun x a=>f8 (h.bd.1 x a) dC,f8 h.bd.2 dC⟩,h.kp⟩
theorem Gh(A:w<=15)(G:r.length=w)(I:∀x∈r,x.natAbs<2^121)(bn:num.natAbs<2^121)(T:TbS w RR gv X D)(hZ:Z.length=w/\∀x∈Z,x.natAbs<2^2500)(KZ:Kp w RR gv (gI Z) 0)(hn:val w r (gI Z)<0) :
  ∃V E,(∀st,pm fu [.tup [.fz (iL X),.int D],.fz (iL Z),.fz (iL r),.int num] st=À (.tup [.fz (iL V),.int E],st))/\A2 w RR gv V E/\val w r (gI V)<num*E:=by
 obtain⟨W,N,⟨R,n⟩,KX⟩:=T;obtain⟨Zl,J⟩:=hZ;have bx:=sU G W A I R;have bz:=sU G Zl A I J;have vx:=fun st=>vE (st:=st) G W A (fun x h=>f8 (I x h) dC) (fun x h=>f8 (R x h) dC)
 have vz:=fun st=>vE (st:=st) G Zl A (fun x h=>f8 (I x h) dC) (fun x h=>f8 (J x h) dC)
 generalize M:val w r (gI X)=U at *;generalize L:val w r (gI Z)=y at *;obtain⟨f,p⟩:∃f,f=U-num*D:=⟨_,rfl⟩;obtain⟨fl,m⟩:∃fl,fl=- y*D:=⟨_,rfl⟩;have m1:c7 num D=Ã:=c6 (f8 bn dC) (f8 n dC);have m2:c7 (- y) D=Ã:=c6 (by rw[ä];exact f8 bz dC) (f8 n dC);have O:0<fl:=by rw[m];exact Ũ oM N
 have Q:fl.natAbs<2^5125:=by
  have:=o9 (a:=- y) (b:=D) (by rw[ä];exact bz) n
  rw[m];exact this
 have bab:f.natAbs<2^2627:=by
  have q:=o9 bn n;have o:U.natAbs<2^2626:=zJ bx (Ý dC dC);have Y:(- (num*D)).natAbs<2^2626:=by rw[ä];exact zJ q (Ý dC dC)
  have:=Ab o Y
  rw[p,Int.sub_eq_add_neg];exact this
 obtain⟨s,C⟩:∃s,s=max 0 (f/fl+1):=⟨_,rfl⟩;have s0:0<=s:=by rw[C];lia
 have bs:s.natAbs<2^2629:=by
  have q:(f/fl).natAbs<=f.natAbs+1:=by
   have:=Int.natAbs_ediv_le_natAbs f fl
   lia
  have o:(2:Nat)^2629=2^2627*4:=by rw[show(4:Nat)=2^2 from rfl,<- ť]
  have Y:=Ñ 2627;rw[C,o];generalize (2:Nat)^2627=B at *;lia
 have u:=o9 bs n;have m3:c7 s D=Ã:=c6 (f8 bs dC) (f8 n dC);have dv:hU fl=Ã:=pV oM (f8 Q dC);obtain⟨V,H⟩:∃V,V=(X.zip Z).map fun z=>z.1+s*D*z.2:=⟨_,rfl⟩
 have lV:V.length=w:=by rw[H,zH,Ą];lia
 have S:∀x∈V,x.natAbs<2^9000:=fun x j=>by
  rw [H] at j;obtain ⟨z,hz,rfl⟩:=yE.mp j;obtain ⟨z1,z2⟩:=î hz;have q:=o9 u (J _ z2);have o:=Ab (zJ (R _ z1) (Ý dC (show 2500 <= 2629 + 2500 + 2500 by decide))) q;exact f8 o dC
 have gV:∀x,x<w->gI V x=gI X x+s*D*gI Z x:=fun x j=>by rw[H,SX.gI_zip oM oM]
 have KV:Kp w RR gv (gI V) D:=by
  have h:=KX.add (KZ.scale (è s0 (ý N)));exact h.div (g:=1) dC oM fun x j=>by rw[gV x j,ϓ]
 have K:val w r (gI V)<num*D:=by
  have e1:val w r (gI V)=U+s*D*y:=by
   rw[<- M,<- L];unfold val;rw[<- SX.sum_mul,<- SX.sum_add];exact SX.sum_congr fun x j=>by rw[gV x j];grind
  have q:=Int.lt_ediv_add_one_mul_self f O;have o:(f/fl+1)*fl<=s*fl:=Ó (by rw[C];lia) (ý O);have e2:s*D*y=- (s*fl):=by rw[m];grind
  lia
 obtain⟨g,hg,ed,P,ll,hp,K'⟩:=TbS.low lV N ⟨S,f8 n dC⟩ KV;have b2:=ud (l:=V++[D]) (Ñ 9000) fun x j=>by
  rcases zZ.mp j with h|h
  ·exact S x h
  ·rw[zM.mp h];exact f8 n dC
 refine⟨(ao (V++[D])).take w,gI (ao (V++[D])) w,fun st=>?_,⟨ll,hp,⟨lW fun i hi=>?_,b2 w⟩,K'⟩,?_⟩
 ·have lt:=Ae (X:=V) (d:=D) oM S (f8 n dC)
  rw[lV]at lt;have lt:pm ce [.fz (iL V),.int D] []=À (.tup [.fz (iL ((ao (V++[D])).take w)),.int (gI (ao (V++[D])) w)],[]):=aM (by simp[rfs,rf,du]) lt rfl;refine aM (by simp[rfs,rf,du]) (v:=.tup [.fz (iL ((ao (V++[D])).take w)),.int (gI (ao (V++[D])) w)]) (st':=[]) ?_ rfl;have i0:aZ [] (.tup [.fz (iL X),.int D]) (.int 0)=À (.fz (iL X)):=rfl;have i1:aZ [] (.tup [.fz (iL X),.int D]) (.int 1)=À (.int D):=rfl;rw[fu,ay];show(ae [iC,ce] gz [À (.tup [.fz (iL X),.int D]),Ls Z,Ls r,Is num,Á,Á,Á,Á] []).bind au=_;unfold gz;refine ag (sl':=[À (.tup [.fz (iL X),.int D]),Ls Z,Ls r,Is num,Is D,Á,Á,Á]) (st':=[]) (by simp[i1]) ?_;refine ag (sl':=[À (.tup [.fz (iL X),.int D]),Ls Z,Ls r,Is num,Is D,Is f,Á,Á]) (st':=[]) (by simp[i0,vx,bW m1,p]) ?_;refine ag (sl':=[À (.tup [.fz (iL X),.int D]),Ls Z,Ls r,Is num,Is D,Is f,Is fl,Á]) (st':=[]) (by simp[vz,bW m2,m,lO]) ?_;refine ag (sl':=[À (.tup [.fz (iL X),.int D]),Ls Z,Ls r,Is num,Is D,Is f,Is fl,Is s]) (st':=[]) (by simp[rq dv O,Ld,<- C]) (bS ?_);have e:=g8 (st:=[]) (ks:=[iC,ce]) (k:=2) (it:=.zi (.ix (.v 0) (.i 0)) (.v 1)) (t:=.tu 2 (.cons (.nm 8) (.cons (.nm 9) .nil))) (c:=.no) (e:=.bin .Add (.v 8) (.bin .Mult (.bin .Mult (.v 7) (.v 4)) (.v 9))) (sl:=[À (.tup [.fz (iL X),.int D]),Ls Z,Ls r,Is num,Is D,Is f,Is fl,Is s]) (gd:=[]) (em:=fun z:Int×Int=>AV.tup [.int z.1,.int z.2]) (xs:=X.zip Z) (B:=fun _=>Ã) (F:=fun z=>AV.int (z.1+s*D*z.2)) (by
   rw[<- lM];rfl) rfl (by rw[Ą];lia) fun z hz=>by
    have:=î hz
    exact⟨[À (.tup [.fz (iL X),.int D]),Ls Z,Ls r,Is num,Is D,Is f,Is fl,Is s,Is z.1,Is z.2],rfl,rfl,fun _=>by simp[bW m3,bW (c6 (f8 u dC) (f8 (J _ this.2) dC))]⟩
  rw[Ø.mpr (fun _ _=>rfl),show(X.zip Z).map (fun z=>AV.int (z.1+s*D*z.2))=iL V by rw[H];unfold iL;rw[Ù];rfl]at e;have e2:ev [iC,ce] (.nw Ä (.lc 2 (.zi (.ix (.v 0) (.i 0)) (.v 1)) (.tu 2 (.cons (.nm 8) (.cons (.nm 9) .nil))) .no (.bin .Add (.v 8) (.bin .Mult (.bin .Mult (.v 7) (.v 4)) (.v 9))))) [À (.tup [.fz (iL X),.int D]),Ls Z,Ls r,Is num,Is D,Is f,Is fl,Is s] []=À (.fz (iL V),[]):=by
   rw[dO,e,Â,yJ du]
  simp only[gh,cm,aq,aD,e2,aI,ar,aw,Â,Æ,bG,cp,cU,lt]
 ·rw[qD oM];exact b2 i
 ·rw[P r]at K
  generalize (ao (V++[D])).take w=V' at *;generalize gI (ao (V++[D])) w=E at *;rw[ed]at K;exact Int.lt_of_mul_lt_mul_left (a:=g) (by rw[show g*(num*E)=num*(g*E) by grind];exact K) (ý hg)
end
section
variable{nn:Int}{st:aa}{w:Nat}{RR:List (List Int)}{HO:Nat->List Int}{gv:List Gv}{r X Z goal:List Int}{Y:Nat->Int}{e D num:Int}{z:Gv}
inductive Pp where
 |nv (W:List Int)
 |by_ (K:Int) (W:List Int)
def Pp.av:Pp->AV
 |.nv W=>.tup [.str "never",.fz (iL W)]
 |.by_ K W=>.tup [.str "by",.int K,.fz (iL W)]
theorem KQ{n:Nat}(p:Pp):bF (n+1) st p.av=À p.av:=by cases p<;>(cases n<;>rfl)
theorem KR{k:Nat}{ps:List Pp}(h:st[k]?=À (.lst (ps.map Pp.av))):fF st (.tup [.bl Ã,.ref k])=À (.tup [.bl Ã,.fz (ps.map Pp.av)]):=by
 have e:bC (bF 4 st) (ps.map Pp.av)=À (ps.map Pp.av):=fJ (f:=bF 4 st) (i:=Pp.av) (g:=Pp.av) (fun p=>KQ p) ps;show(bC (bF 5 st) [.bl Ã,.ref k]).map AV.tup=_;have b:bF 5 st (.ref k)=À (.fz (ps.map Pp.av)):=by
  show(match st[k]? with
  |some (.lst a)=>(bC (bF 4 st) a).map AV.fz
  |some (.al t)=>À t
  |_=>Á)=_
  rw[h];simp only[e,Æ]
 simp only[bC,b,show bF 5 st (.bl Ã)=À (.bl Ã) from rfl,Â,Æ]
def FU(w:Nat)(RR:List (List Int))(gv:List Gv)(r:List Int)(num:Int)(t:AV):Prop :=
 (∃p:Pp,t=.tup [.bl Ã,p.av]/\∀Y e,0<e->Kp w RR gv Y e->num*e<=val w r Y) \/
 ∃V E,t=.tup [.bl Ä,.tup [.fz (iL V),.int E]]/\A2 w RR gv V E/\val w r (gI V)<num*E
theorem N2(q:Qu nn w RR HO gv r)(br:∀x∈r,x.natAbs<2^121)(P:num.natAbs<2^121):∃t,(∀st,pm bK [.int nn,.fz (gv.map Gv.av),.fz (iL r),.int num] st=À (t,st))/\FU w RR gv r num t:=by
 obtain⟨t,H,A⟩:=AW q;have H:=H [];have z:∃j,bK [.int nn,.fz (gv.map Gv.av),.fz (iL r),.int num] []=À j/\∃t,fF j.2 j.1=À t/\FU w RR gv r num t:=by
  rw[bK,ay];show ∃j,(ae [fT,fu] fD [Is nn,Zs (gv.map Gv.av),Ls r,Is num,Á] []).bind au=À j/\_;unfold fD;refine aA (sl':=[Is nn,Zs (gv.map Gv.av),Ls r,Is num,À t]) (st':=[]) (by simp[H]) ?_;rcases A with⟨⟨W,rfl⟩,h⟩|⟨T,d,X,D,K,W,rfl,hd,⟨bT,bd⟩,⟨o,I⟩,h⟩|⟨X,D,Z,rfl,o,hZ,KZ,Q⟩
  ·refine cK (v:=.tup [.bl Ã,.tup [.str "never",.fz (iL W)]]) (st':=[]) ?_ ⟨_,rfl,.inl ⟨.nv W,rfl,fun Y e n K=>absurd K (h Y e n)⟩⟩
   have g:aZ [] (.tup [.str "never",.fz (iL W)]) (.int 0)=À (.str "never"):=rfl;have eq:cJ .Eq [] (.str "never") (.str "never")=À Ã:=by kernel_rfl
   simp[g,eq,lU]
  ·obtain⟨c,G,l,k,N⟩:=Ag (T:=T) hd
   have bp:=xb l G bT;have bq:=xb k G bd;generalize gI (ao [T,d]) 0=p at *;generalize gI (ao [T,d]) 1=b at *;obtain⟨u,f⟩:∃u,u=AV.tup [.str "least",.tup [.int p,.int b],.tup [.fz (iL X),.int D],.int K,.fz (iL W)]:=⟨_,rfl⟩;have g:aZ [] u (.int 0)=À (.str "least"):=by rw[f];rfl
   have m:aZ [] u (.int 1)=À (.tup [.int p,.int b]):=by rw[f];rfl
   have B:aZ [] u (.int 2)=À (.tup [.fz (iL X),.int D]):=by rw[f];rfl
   have i3:aZ [] u (.int 3)=À (.int K):=by rw[f];rfl
   have U:aZ [] u (.int 4)=À (.fz (iL W)):=by rw[f];rfl
   have M:aZ [] (.tup [.int p,.int b]) (.int 0)=À (.int p):=rfl;have L:aZ [] (.tup [.int p,.int b]) (.int 1)=À (.int b):=rfl;have y:cJ .Eq [] (.str "least") (.str "never")=À Ä:=by kernel_rfl
   have s:cJ .Eq [] (.str "least") (.str "endless")=À Ä:=by kernel_rfl
   have J:aP .Mult [] (.int num) (.int b)=À (.int (num*b)):=bW (c6 (f8 P dC) (f8 bq dC));rw[<- f];refine aA (sl':=[Is nn,Zs (gv.map Gv.av),Ls r,Is num,À u]) (st':=[]) (by simp[g,y]) ?_;refine aA (sl':=[Is nn,Zs (gv.map Gv.av),Ls r,Is num,À u]) (st':=[]) (by simp[g,s]) ?_;by_cases C:p<num*b
   ·refine cK (v:=.tup [.bl Ä,.tup [.fz (iL X),.int D]]) (st':=[]) (by simp[m,B,M,L,J,C,lU]) ⟨_,rfl,.inr ⟨X,D,rfl,o.f,?_⟩⟩
    rw[l,k]at I;have S:val w r (gI X)*b=p*D:=ŝ (a:=c) oM (by rw[show val w r (gI X)*b*c=val w r (gI X)*(b*c) by grind,I];grind);have h2:p*D<num*b*D:=Int.mul_lt_mul_of_pos_right C o.pos;exact Int.lt_of_mul_lt_mul_right (a:=b) (by rw[S,show num*D*b=num*b*D by grind];exact h2) (ý N)
   ·refine aA (sl':=[Is nn,Zs (gv.map Gv.av),Ls r,Is num,À u]) (st':=[]) (by simp[m,M,L,J,C]) ?_
    refine cK (v:=.tup [.bl Ã,.tup [.str "by",.int K,.fz (iL W)]]) (st':=[]) (by simp[i3,U]) ⟨_,rfl,.inl ⟨.by_ K W,rfl,fun Y e n KY=>?_⟩⟩;have O:=h Y e n KY;rw[l,k]at O;have h4:p*e<=val w r Y*b:=ß (a:=c) (by rw[show p*e*c=p*c*e by grind,show val w r Y*b*c=val w r Y*(b*c) by grind];exact O) G;have h5:num*b*e<=p*e:=Ó oM (ý n);exact ß (a:=b) (by rw[show num*e*b=num*b*e by grind];lia) N
  ·obtain⟨V,E,i,TV,R⟩:=Gh (num:=num) q.hw q.Z.o br P o hZ KZ Q
   have i:=i [];obtain⟨u,f⟩:∃u,u=AV.tup [.str "endless",.tup [.fz (iL X),.int D],.fz (iL Z)]:=⟨_,rfl⟩;have g:aZ [] u (.int 0)=À (.str "endless"):=by rw[f];rfl
   have m:aZ [] u (.int 1)=À (.tup [.fz (iL X),.int D]):=by rw[f];rfl
   have B:aZ [] u (.int 2)=À (.fz (iL Z)):=by rw[f];rfl
   have y:cJ .Eq [] (.str "endless") (.str "never")=À Ä:=by kernel_rfl
   have s:cJ .Eq [] (.str "endless") (.str "endless")=À Ã:=by kernel_rfl
   rw[<- f];refine aA (sl':=[Is nn,Zs (gv.map Gv.av),Ls r,Is num,À u]) (st':=[]) (by simp[g,y]) ?_;refine cK (v:=.tup [.bl Ä,.tup [.fz (iL V),.int E]]) (st':=[]) (by simp[g,m,B,s,i,lU]) ⟨_,rfl,.inr ⟨V,E,rfl,TV,R⟩⟩
 obtain⟨j,l,t,k,F⟩:=z;exact⟨t,fun st=>aM (by simp[rfs,rf,du,xK]) l k,F⟩
noncomputable def o7(l:List Int):List Int:=l.map fun x=>- x
def jm(z:Gv):List Gv:=⟨z.row,Ä,z.num⟩::if z.eq=Ã then [⟨o7 z.row,Ä,- z.num⟩] else []
theorem M9(o:z.row.length<=1000):pm bE [z.av] st=À (.fz ((jm z).map Gv.av),st):=by
 obtain⟨r,b,d⟩:=z;have o:r.length<=1000:=o;have v:∀st,aZ st (Gv.av ⟨r,b,d⟩) (.int 0)=À (.fz (iL r)):=fun _=>rfl
 have j:∀st,aZ st (Gv.av ⟨r,b,d⟩) (.int 1)=À (.str (if b=Ã then "=" else ">")):=fun _=>rfl
 have q:∀st,aZ st (Gv.av ⟨r,b,d⟩) (.int 2)=À (.int d):=fun _=>rfl
 have m:∀st,cJ .Eq st (.str (if b=Ã then "=" else ">")) (.str "=")=À b:=fun st=>by cases b<;>kernel_rfl
 obtain⟨u,w⟩:∃u,u=Gv.av ⟨r,b,d⟩:=⟨_,rfl⟩;have D:rf u=Ã:=by rw[w];simp[Gv.av,rf,rfs,du]
 rw[<- w]at v j q ⊢;have n:∃st',bE [u] []=À (.ref 0,st')/\st'[0]?=À (.lst ((jm ⟨r,b,d⟩).map Gv.av)):=by
  rw[bE,ay];unfold gE;have A:∀{x y},(ae [] x [À u,Ls r,Is d,Rs 0] [.lst [Gv.av ⟨r,Ä,d⟩]]).bind au=À y->(ae [] (.cons (.as (.ix (.v 0) (.i 0)) (.nm 1)) (.cons (.as (.ix (.v 0) (.i 2)) (.nm 2)) (.cons (.as (.nw Ã (.li (.cons (.tu (.cons (.v 1) (.cons (.s ">") (.cons (.v 2) .nil)))) .nil))) (.nm 3)) x))) [À u,Á,Á,Á] []).bind au=À y:=fun {x y} h=>by
   refine ag (sl':=[À u,Ls r,Á,Á]) (st':=[]) (by simp[v]) ?_;refine ag (sl':=[À u,Ls r,Is d,Á]) (st':=[]) (by simp[q]) ?_;exact ag (sl':=[À u,Ls r,Is d,Rs 0]) (st':=[.lst [Gv.av ⟨r,Ä,d⟩]]) (by simp[fE];rfl) h
  cases b with
  |false =>
   refine⟨[.lst [Gv.av ⟨r,Ä,d⟩]],A (ag (sl':=[À u,Ls r,Is d,Rs 0]) (st':=[.lst [Gv.av ⟨r,Ä,d⟩]]) (by
    have m:=m [.lst [Gv.av ⟨r,Ä,d⟩]];have j:=j [.lst [Gv.av ⟨r,Ä,d⟩]];generalize AV.str (if Ä=Ã then "=" else ">")=s at m j;simp[j,m]) (bS rfl)),rfl⟩
  |true =>
   refine⟨[.lst [Gv.av ⟨r,Ä,d⟩,Gv.av ⟨o7 r,Ä,- d⟩]],A (ag (sl':=[À u,Ls r,Is d,Rs 0]) (st':=[.lst [Gv.av ⟨r,Ä,d⟩,Gv.av ⟨o7 r,Ä,- d⟩]]) ?_ (bS rfl)),rfl⟩;have m:=m [.lst [Gv.av ⟨r,Ä,d⟩]];have j:=j [.lst [Gv.av ⟨r,Ä,d⟩]];have e:=g8 (st:=[.lst [Gv.av ⟨r,Ä,d⟩]]) (ks:=[]) (k:=1) (it:=.e (.v 1)) (t:=.nm 4) (c:=.no) (e:=.un .USub (.v 4)) (sl:=[À u,Ls r,Is d,Rs 0]) (gd:=[]) (em:=AV.int) (xs:=r) (B:=fun _=>Ã) (F:=fun x=>AV.int (- x)) rfl rfl o fun x H=>⟨[À u,Ls r,Is d,Rs 0,Is x],rfl,rfl,fun _=>rfl⟩
   rw[Ø.mpr (fun _ _=>rfl),show r.map (fun x=>AV.int (- x))=iL (o7 r) by unfold iL o7;rw[Ù];rfl]at e;have p:ev [] (.nw Ä (.lc 1 (.e (.v 1)) (.nm 4) .no (.un .USub (.v 4)))) [À u,Ls r,Is d,Rs 0] [.lst [Gv.av ⟨r,Ä,d⟩]]=À (.fz (iL (o7 r)),[.lst [Gv.av ⟨r,Ä,d⟩]]):=by
    rw[dO,e,Â,yJ du]
   have G:=jh (ks:=[]) (a:=.v 3) (e:=.tu (.cons (.nw Ä (.lc 1 (.e (.v 1)) (.nm 4) .no (.un .USub (.v 4)))) (.cons (.s ">") (.cons (.un .USub (.v 2)) .nil)))) (y:=Gv.av ⟨o7 r,Ä,- d⟩) (k:=0) (xs:=[Gv.av ⟨r,Ä,d⟩]) (sl:=[À u,Ls r,Is d,Rs 0]) (st:=[.lst [Gv.av ⟨r,Ä,d⟩]]) rfl (by
    simp only[wG,aq,aD,p,Â,Æ];rfl) rfl (by simp)
   generalize AV.str (if Ã=Ã then "=" else ">")=s at m j;have C:tv [] (.cmp .Eq (.ix (.v 0) (.i 1)) (.s "=")) [À u,Ls r,Is d,Rs 0] [.lst [Gv.av ⟨r,Ä,d⟩]]=À (Ã,[.lst [Gv.av ⟨r,Ä,d⟩]]):=by simp[j,m]
   rw[cG,C,Â];exact aj G rfl
 obtain⟨st',E,p⟩:=n;refine aM (by simp[rfs,D]) E ?_;have:∀l:List Gv,bC (bF 5 st') (l.map Gv.av)=À (l.map Gv.av):=fun l=>fJ (f:=bF 5 st') (i:=Gv.av) (g:=Gv.av) (fun z=>rfl) l
 show bF 6 st' (.ref 0)=_;unfold bF;simp only[p,this,Æ]
end
section
variable{nn:Int}{st:aa}{w:Nat}{RR:List (List Int)}{HO:Nat->List Int}{gv:List Gv}{Y:Nat->Int}{e:Int}{z:Gv}
def Hd(w:Nat)(z:Gv)(Y:Nat->Int)(e:Int):Prop:=z.num*e<=val w z.row Y/\(z.eq=Ã->val w z.row Y=z.num*e)
theorem hd_ups:Hd w z Y e ↔ ∀u∈jm z,u.num*e<=val w u.row Y:=by
 obtain⟨r,b,a⟩:=z;unfold Hd jm;cases b with
 |false=>simp
 |true =>
  have i:val w (o7 r) Y=- val w r Y:=qc;have g:- a*e=- (a*e):=Int.neg_mul _ _;constructor
  ·rintro⟨d,c⟩ u f
   have c:=c rfl;dsimp only at d c;rcases zT.mp f with rfl|f
   ·exact d
   ·rw[zM.mp f]
    dsimp only;lia
  ·intro h
   have d:=h _ z7;have c:=h _ (zQ _ (zM.mpr rfl));dsimp only at d c ⊢;exact⟨d,fun _=>by lia⟩
def FS(w:Nat)(RR:List (List Int))(gv:List Gv)(z:Gv)(t:AV):Prop :=
 (∃a:List Pp,t=.tup [.bl Ã,.fz (a.map Pp.av)]/\∀Y e,0<e->Kp w RR gv Y e->Hd w z Y e) \/
 ∃V E,t=.tup [.bl Ä,.tup [.fz (iL V),.int E]]/\A2 w RR gv V E/\¬Hd w z (gI V) E
theorem LG(hs:z.row.length<=1000)(C:∀u∈jm z,Qu nn w RR HO gv u.row/\(∀x∈u.row,x.natAbs<2^121)/\u.num.natAbs<2^121):∃t,(∀st,pm fQ [.int nn,.fz (gv.map Gv.av),z.av] st=À (t,st))/\FS w RR gv z t:=by
 have hf:∀u∈jm z,u.eq=Ä:=fun u h=>by
  unfold jm at h;rcases zT.mp h with rfl|h
  ·rfl
  ·split at h
   ·rw[zM.mp h]
   ·cases h
 have A:=m6 (gd:=[]) (g:=cP [bE,bK] (.tu 3 (.cons (.nm 4) (.cons (.nm 5) (.cons (.nm 6) .nil)))))
  (s:=ae [bE,bK] (.cons (.as (.ca Ã 1 (.cons (.v 0) (.cons (.v 1) (.cons (.v 4) (.cons (.v 6) .nil))))) (.nm 7))
 (.cons (.iff (.no (.va (.ix (.v 7) (.i 0))))
 (.cons (.rt (.v 7))
 .nil)
 .nil)
 (.cons (.ex (.mt .app (.v 3) (.cons (.ix (.v 7) (.i 1)) .nil)))
 .nil))))
  (I:=fun i sl st=>∃(f:List Pp)(a b c d:Option AV),st=[.lst (f.map Pp.av)]/\f.length=i/\sl=[Is nn,Zs (gv.map Gv.av),À z.av,Rs 0,a,b,c,d]/\∀j u,j<i->(jm z)[j]?=À u->∀Y e,0<e->Kp w RR gv Y e->u.num*e<=val w u.row Y)
  (Post:=fun v _=>∃V E,v=.tup [.bl Ä,.tup [.fz (iL V),.int E]]/\A2 w RR gv V E/\∃u∈jm z,val w u.row (gI V)<u.num*E) (xs:=(jm z).map Gv.av) (fun _ _ _ _ _=>rfl) (fun i x sl st R L=>by
   obtain⟨f,a,b,c,d,es,S,O,N⟩:=L;subst es;subst O;rw[zR]at R;obtain⟨u,m,rfl⟩:=zE.mp R;have n:=zW m;have hi2:i<2:=by
    have h1:=(zB.mp m).1;have h2:(jm z).length<=2:=by unfold jm;split<;>simp
    lia
   obtain⟨q,b1,b2⟩:=C u n;obtain⟨t,r,F⟩:=N2 q b1 b2;have r:=r [.lst (f.map Pp.av)];obtain⟨l,X,un⟩:=u;have:X=Ä:=hf _ n;subst this;rcases F with⟨p,rfl,hp⟩|⟨V,E,rfl,P,T⟩
   ·have B:∀st,aZ st (.tup [.bl Ã,p.av]) (.int 0)=À (.bl Ã):=fun _=>rfl
    have Q:∀st,aZ st (.tup [.bl Ã,p.av]) (.int 1)=À p.av:=fun _=>rfl
    obtain⟨t,G⟩:∃t,t=AV.tup [.bl Ã,p.av]:=⟨_,rfl⟩;rw[<- G]at B Q r;refine⟨([Is nn,Zs (gv.map Gv.av),À z.av,Rs 0,Ls l,À (.str ">"),Is un,d],[.lst (f.map Pp.av)]),.nx [Is nn,Zs (gv.map Gv.av),À z.av,Rs 0,Ls l,À (.str ">"),Is un,À t] [.lst ((f++[p]).map Pp.av)],rfl,?_,.inl ⟨_,_,rfl,f++[p],_,_,_,_,rfl,by simp[S],rfl,fun j u M C Y e H K=>?_⟩⟩
    ·refine aj (sl':=[Is nn,Zs (gv.map Gv.av),À z.av,Rs 0,Ls l,À (.str ">"),Is un,À t]) (st':=[.lst (f.map Pp.av)]) (by simp[r]) ?_
     refine aj (sl':=[Is nn,Zs (gv.map Gv.av),À z.av,Rs 0,Ls l,À (.str ">"),Is un,À t]) (st':=[.lst (f.map Pp.av)]) (by simp[B,sZ]) ?_;have ap:=jh (ks:=[bE,bK]) (a:=.v 3) (e:=.ix (.v 7) (.i 1)) (y:=p.av) (k:=0) (xs:=f.map Pp.av) (sl:=[Is nn,Zs (gv.map Gv.av),À z.av,Rs 0,Ls l,À (.str ">"),Is un,À t]) (st:=[.lst (f.map Pp.av)]) rfl (by simp[Q]) rfl (by simp;lia);refine aj ap ?_;show À _=À _;simp
    ·by_cases h:j=i
     ·subst h
      rw[m]at C;obtain rfl:=yF C;exact hp Y e H K
     ·exact N j u oM C Y e H K
   ·have B:∀st,aZ st (.tup [.bl Ä,.tup [.fz (iL V),.int E]]) (.int 0)=À (.bl Ä):=fun _=>rfl
    obtain⟨t,G⟩:∃t,t=AV.tup [.bl Ä,.tup [.fz (iL V),.int E]]:=⟨_,rfl⟩;rw[<- G]at B r;refine⟨([Is nn,Zs (gv.map Gv.av),À z.av,Rs 0,Ls l,À (.str ">"),Is un,d],[.lst (f.map Pp.av)]),.rt t [.lst (f.map Pp.av)],rfl,?_,.inr ⟨_,_,rfl,V,E,G,P,_,n,T⟩⟩;refine aj (sl':=[Is nn,Zs (gv.map Gv.av),À z.av,Rs 0,Ls l,À (.str ">"),Is un,À t]) (st':=[.lst (f.map Pp.av)]) (by simp[r]) ?_;refine oO ?_;simp[B,sZ,lU]) (sl:=[Is nn,Zs (gv.map Gv.av),À z.av,Rs 0,Á,Á,Á,Á]) (st:=[.lst []]) ⟨[],_,_,_,_,rfl,rfl,rfl,fun j _ h=>absurd h (Nat.not_lt_zero _)⟩
 have J:∃o,fQ [.int nn,.fz (gv.map Gv.av),z.av] []=À o/\∃t,fF o.2 o.1=À t/\FS w RR gv z t:=by
  rw[fQ,ay];show ∃o,(ae [bE,bK] j3 [Is nn,Zs (gv.map Gv.av),À z.av,Á,Á,Á,Á,Á] []).bind au=À o/\_;unfold j3;refine aA (sl':=[Is nn,Zs (gv.map Gv.av),À z.av,Rs 0,Á,Á,Á,Á]) (st':=[.lst []]) rfl ?_;have W:=M9 (st:=[.lst []]) hs;have U:d6 [bE,bK] (.e (.ca Ã 0 (.cons (.v 2) .nil))) [Is nn,Zs (gv.map Gv.av),À z.av,Rs 0,Á,Á,Á,Á] [.lst []]=À (⟨(jm z).map Gv.av,[]⟩,[.lst []]):=by simp[W]
  rcases A with⟨sl',st',D,f,a,b,c,d,rfl,S,rfl,N⟩|⟨v,st',D,V,E,rfl,P,u,n,T⟩
  ·refine aA (sl':=[Is nn,Zs (gv.map Gv.av),À z.av,Rs 0,a,b,c,d]) (st':=[.lst (f.map Pp.av)]) (by rw[lQ,U,Â];exact D) ?_
   refine cK (v:=.tup [.bl Ã,.ref 0]) (st':=[.lst (f.map Pp.av)]) rfl ⟨_,KR rfl,.inl ⟨f,rfl,fun Y e H K=>hd_ups.mpr fun u n=>?_⟩⟩;obtain⟨j,M⟩:=yA n;exact N j u (by rw[zH];exact(zB.mp M).1) M Y e H K
  ·refine⟨(.tup [.bl Ä,.tup [.fz (iL V),.int E]],st'),bS (by rw[lQ,U,Â];exact D),_,rfl,.inr ⟨V,E,rfl,P,fun h=>?_⟩⟩
   have:=hd_ups.mp h u n
   lia
 obtain⟨o,D,t,e2,F⟩:=J;have Z:rf z.av=Ã:=by simp[Gv.av,rf,rfs,du]
 exact⟨t,fun st=>aM (by simp[rfs,rf,xK,Z]) D e2,F⟩
theorem N4{n:Nat}(d:gw n)(g:gv.length<=100)(i:∀z∈gv,z.row.length=2^n-1/\(∀x∈z.row,x.natAbs<=M0)/\z.num.natAbs<=M0)(b:z.row.length=2^n-1/\(∀x∈z.row,x.natAbs<=M0)/\z.num.natAbs<=M0):∃t,(∀st,pm fQ [.int n,.fz (gv.map Gv.av),z.av] st=À (t,st))/\FS (2^n-1) (oi n) gv z t:=by
 have j:2^n-1<=15:=by rcases d with rfl|rfl|rfl|rfl<;>decide
 have e:M0<2^121:=Ī dC dC;have a:∀u∈jm z,u.row.length=2^n-1/\(∀x∈u.row,x.natAbs<=M0)/\u.num.natAbs<=M0:=fun u h=>by
  unfold jm at h;rcases zT.mp h with rfl|h
  ·exact b
  ·split at h
   ·rw[zM.mp h]
    refine⟨by simp[o7,b.1],fun x c=>?_,by rw[ä];exact b.2.2⟩;obtain⟨y,f,rfl⟩:=yE.mp c;rw[ä];exact b.2.1 y f
   ·cases h
 exact LG oM fun u h=>⟨Mu d g i ⟨(a u h).1,(a u h).2.1⟩,fun x c=>yN ((a u h).2.1 x c) e,yN (a u h).2.2 e⟩
end
section
variable{n w:Nat}{Y:Nat->Int}{ts:List (Nat×Int)}{L:List Int}{a b c k j g:Nat}
noncomputable def HH(Y:Nat->Int)(g:Nat):Int:=if g=0 then 0 else Y (g-1)
def qp(L:List Int)(t:Nat×Int):List Int:=if t.1=0 then L else L.set (t.1-1) (gI L (t.1-1)+t.2)
def tD(n:Nat)(a:List (Nat×Int)):List Int:=a.foldl qp (É (2^n-1) 0)
theorem Ei{q:Nat}{x:Int}(c:L.length=w)(a:q<w):val w (L.set q (gI L q+x)) Y=val w L Y+x*Y q:=by
 have e:val w (L.set q (gI L q+x)) Y=Qf w fun i=>gI L i*Y i+(if i=q then x*Y q else 0):=SX.sum_congr fun i b=>by
  by_cases h:i=q
  ·subst h;rw[SX.gI_set_at oM,yJ rfl];grind
  ·rw[SX.gI_set_ne h,yI h];lia
 rw[e,SX.sum_add,SX.sum_one a fun i _ h=>yI h,yJ rfl];rfl
theorem BI{t:Nat×Int}:(qp L t).length=L.length:=by unfold qp;split<;>simp
theorem uz(b:w+1=2^n):∀(ts:List (Nat×Int))(L:List Int),L.length=w->(∀t∈ts,t.1<2^n)->val w (ts.foldl qp L) Y=val w L Y+(ts.map fun t=>t.2*HH Y t.1).sum
 |[],L,_,_=>by simp
 |t::ts,L,hL,h=>by
  rw[Õ,uz b ts _ (by rw[BI];exact hL) fun x hx=>h x (zQ _ hx),zO,ĺ];have ht:=h t z7;have:val w (qp L t) Y=val w L Y+t.2*HH Y t.1:=by
   unfold qp HH;by_cases a:t.1=0
   ·rw[yJ a,yJ a];lia
   ·rw[yI a,yI a,Ei hL oM]
  lia
theorem Bj(h:∀t∈ts,t.1<2^n):val (2^n-1) (tD n ts) Y=(ts.map fun t=>t.2*HH Y t.1).sum:=by
 have:=Ñ n
 unfold tD;rw[uz oM ts _ (by simp) h];have:val (2^n-1) (É (2^n-1) 0) Y=0:=SX.sum_zero fun i _=>by rw[uw];exact yR _
 lia
noncomputable def yn(a b c:Nat):List (Nat×Int):=[(a ||| c,1),(b ||| c,1),(a ||| b ||| c,-1),(c,-1)]
def IH(Y:Nat->Int)(a b c:Nat):Int:=HH Y (a ||| c)+HH Y (b ||| c)-HH Y (a ||| b ||| c)-HH Y c
theorem Gp(f:a<2^n)(e:b<2^n)(d:c<2^n):val (2^n-1) (tD n (yn a b c)) Y=IH Y a b c:=by
 have i:a ||| c<2^n:=á f d;have h:b ||| c<2^n:=á e d;have g:a ||| b ||| c<2^n:=á (á f e) d;rw[Bj (by simp only[yn,zT,zX,or_false];rintro t (rfl|rfl|rfl|rfl)<;>assumption)];simp only[yn,zO,Ŗ,ĺ,List.sum_nil,IH];lia
def eB(n:Nat):Bool:=(È n).all fun k=>(È n).all fun j=>(È (2^n)).all fun c=>k==j||c.testBit k||c.testBit j||(oi n).contains (tD n (yn (2^k) (2^j) c))
end
section
variable{st:aa}
theorem NG{k:Nat}(a:k<=1000):qt 1 (k:Int)=Ã:=by
 unfold qt;have:Þ (k:Int).natAbs 100000=Ã:=yM oM;rw[this];simp;decide
theorem kU{k:Nat}(a:k<=1000):aP .LShift st (.int 1) (.int (k:Int))=À (.int ((2^k:Nat):Int)):=by
 show(oH .LShift 1 (k:Int)).map AV.int=_;simp only[oH,NG a,_root_.if_true,Æ];congr 2;simp
theorem LQ{k:Nat}(c:k<=1000):hU ((2^k:Nat):Int)=Ã:=by
 unfold hU;have b:(((2^k:Nat):Int)==0)=Ä:=by
  have:=Ñ k
  rw[beq_eq_false_iff_ne];lia
 have a:Þ (((2^k:Nat):Int).natAbs.log2) 8999=Ã:=yM (by rw[Ģ,Nat.log2_two_pow];lia);rw[b,a];rfl
theorem mE{m k:Nat}(a:k<=1000):aP .FloorDiv st (.int (m:Int)) (.int ((2^k:Nat):Int))=À (.int ((m/2^k:Nat):Int)):=by
 rw[ly (LQ a)]
 have:=Ñ k
 rw[show uB (m:Int) ((2^k:Nat):Int)=(m:Int)/((2^k:Nat):Int) from yJ oM];rfl
theorem Ir{m:Nat}:aP .Mod st (.int (m:Int)) (.int 2)=À (.int ((m%2:Nat):Int)):=by
 rw[iJ dC,show rn (m:Int) 2=(m:Int)%2 from yJ dC];rfl
theorem AR{m k:Nat}:decide (((m/2^k%2:Nat):Int)=1)=m.testBit k:=by
 rw[Ď];apply decide_eq_decide.mpr;lia
noncomputable def jC(m:Nat):List Nat:=(È 41).filter fun i=>m.testBit i
theorem wA{g k:Nat}:(g &&& 2^k=0) ↔ g.testBit k=Ä:=by
 have a:(g &&& 2^k).testBit k=g.testBit k:=by rw[W1,Nat.testBit_two_pow_self,y!]
 constructor
 ·intro h;rw[<- a,h,V?]
 ·intro h
  apply Q7;intro i;rw[W1,Nat.testBit_two_pow,V?];by_cases e:k=i
  ·subst e;rw[h];rfl
  ·simp[e]
theorem JN{m:Nat}:pm dA [.int (m:Int)] st=À (.fz (nL (jC m)),st):=by
 refine aM rfl (v:=.fz (nL (jC m))) (st':=[]) ?_ rfl;rw[dA,ay];show(ae [] km [À (.int (m:Int))] []).bind au=_;refine bS ?_;rw[gh,dO,g8 (kW (n:=41) rfl dC) rfl dC (B:=fun q=>m.testBit q) (F:=fun q=>AV.int (q:Int)) fun q a=>⟨[À (.int (m:Int)),À (.int (q:Int))],rfl,by
   have a:=Ò.mp a;simp only[JK,cA,aG,aI,aQ,ar,aw,Â,kU (show q<=1000 by lia),mE (show q<=1000 by lia),Ir,Æ,lm,AR],fun _=>rfl⟩]
 have b:rfs (nL (jC m))=Ã:=fG;show(ž (if rfs (nL (jC m))=Ã then À (AV.fz (nL (jC m)),([]:aa)) else Á) _)=_;rw[yJ b];rfl
theorem Ft{n g:Nat}(d:n<=100):dz [.int (n:Int),.int (g:Int)] st=À (.ref st.length,st++[.lst (nL ((È n).filter fun i=>g.testBit i))]):=by
 have c:∀k:Nat,aP .BitAnd st (.int (g:Int)) (.int ((2^k:Nat):Int))=À (.int ((g &&& 2^k:Nat):Int)):=fun k=>by
  show À (AV.int (Ł (g:Int) ((2^k:Nat):Int)))=_;rfl
 have b:∀k:Nat,(!decide (((g &&& 2^k:Nat):Int)=0))=g.testBit k:=fun k=>by
  have:(g &&& 2^k=0) ↔ g.testBit k=Ä:=wA;cases h:g.testBit k
  ·rw[this.mpr h];rfl
  ·have:¬g &&& 2^k=0:=fun z=>by rw[this.mp z]at h;cases h
   rw[yB oM];rfl
 rw[dz,ay];show(ae [] lv [À (.int (n:Int)),À (.int (g:Int))] st).bind au=_;refine bS ?_;rw[gh,Bk,g8 (kW (n:=n) rfl oM) rfl (by rw[ô];lia) (B:=fun q=>g.testBit q) (F:=fun q=>AV.int (q:Int)) fun q a=>⟨[À (.int (n:Int)),À (.int (g:Int)),À (.int (q:Int))],rfl,by
   have a:=Ò.mp a;simp only[JK,cA,aG,aI,aQ,ar,aw,Â,kU (show q<=1000 by lia),c,Æ,u9,b],fun _=>rfl⟩]
 rfl
noncomputable def S2(l:List Nat):Nat:=(l.map fun c=>2^c).sum
theorem GS{l:List Nat}:ow st [.fz (nL l)]=À (.int ((l.sum:Nat):Int)):=by
 show(lsI st (.fz (nL l))).map _=_;have:lsI st (.fz (nL l))=À (l.map fun q:Nat=>(q:Int)):=by unfold lsI;rw[dR,Â,qz]
 rw[this];have:∀l:List Nat,(l.map fun q:Nat=>(q:Int)).sum=((l.sum:Nat):Int):=fun l=>by
  induction l with
  |nil=>rfl
  |cons x l a=>rw[zO,ĺ,ĺ,a];lia
 simp only[Æ,this]
theorem ID{l:List Nat}(f:∀c∈l,c<=1000)(hz:l.length<=1000):pm fe [.fz (nL l)] st=À (.int ((S2 l:Nat):Int),st)/\pm cE [.fz (nL l)] st=À (.int ((S2 l:Nat):Int),st):=by
 have h:ev ([]:List Fn) (.nw Ä (.lc 1 (.e (.v 0)) (.nm 1) .no (.bin .LShift (.i 1) (.v 1)))) [À (.fz (nL l))] []=À (.fz (nL (l.map fun c=>2^c)),[]):=by
  have g:d6 ([]:List Fn) (.e (.v 0)) [À (.fz (nL l))] []=À (⟨l.map fun q:Nat=>AV.int (q:Int),[]⟩,[]):=rfl;rw[dO,g8 g rfl hz (B:=fun _=>Ã) (F:=fun q=>AV.int ((2^q:Nat):Int)) fun q e=>⟨[À (.fz (nL l)),À (.int (q:Int))],rfl,rfl,fun _=>by
   simp only[aG,aI,aQ,ar,aw,Â,kU (f q e),Æ]⟩]
  rw[Ø.mpr fun _ _=>rfl];have:(l.map fun q=>AV.int ((2^q:Nat):Int))=nL (l.map fun c=>2^c):=by unfold nL;rw[Ù];rfl
  rw[this,Â];dsimp only;rw[yJ fG]
 have b:∀a:Sl,a=[À (.fz (nL l))]->cT ([]:List Fn) (.rt (.bi .sum (.cons (.nw Ä (.lc 1 (.e (.v 0)) (.nm 1) .no (.bin .LShift (.i 1) (.v 1)))) .nil))) a []=À (.rt (.int ((S2 l:Nat):Int)) []):=fun a d=>by
  subst d;simp only[gh,kT,aq,aD,h,Â,vf,cF,GS,Æ];rfl
 constructor
 ·refine aM (by simp[rfs,rf,pb]) (v:=.int _) (st':=[]) ?_ rfl
  rw[fe,ay];exact bS (b _ rfl)
 ·refine aM (by simp[rfs,rf,pb]) (v:=.int _) (st':=[]) ?_ rfl
  rw[cE,ay];exact bS (b _ rfl)
end
section
variable{st:aa}
theorem CZ(m:Nat):∀n,S2 ((È n).filter fun i=>m.testBit i)=m%2^n:=by
 intro n
 induction n with
 |zero=>simp[S2,Nat.mod_one]
 |succ n a =>
  rw[g?,List.filter_append];unfold S2 at a ⊢;rw[ï,List.sum_append,a,ż,Nat.mod_mul];have b:m.testBit n=decide (m/2^n%2=1):=Ď;have:m/2^n%2=0\/m/2^n%2=1:=by lia
  rcases this with h|h<;>simp[ű,b,h]
theorem JY{m:Nat}(h:m<2^41):S2 (jC m)=m:=by unfold jC;rw[CZ,c! h]
theorem JL{m:Nat}:∀c∈jC m,c<41:=fun c a=>Ò.mp (ú.mp a).1
theorem Gb{m:Nat}:(jC m).length<=41:=by unfold jC;exact z5 (Ņ ..) (by simp)
theorem Ad{m:Nat}(h:m<2^41):pm fe [.fz (nL (jC m))] st=À (.int (m:Int),st)/\pm cE [.fz (nL (jC m))] st=À (.int (m:Int),st):=by
 have:=ID (st:=st) (l:=jC m) (fun c a=>by have:=JL c a;lia) (by have:=Gb (m:=m);lia)
 rw[JY h]at this;exact this
theorem F4{c:Int}{many:Nat}(a:many<=100):∃D:List Nat,pm aE [.int c,.int (many:Int),.int 65536] st=À (.fz (nL D),st)/\D.length=many/\∀x∈D,x<65536:=qE (base:=65536) a dC dC
end
def vw(m:Nat):AV:=.fz (nL (jC m))
def lG(r:List Nat):AV:=.fz (r.map vw)
def aS(M:Nat)(hs:List (List Nat)):AV:=.tup [.int (M:Int),.fz (hs.map lG)]
section
variable{st:aa}
theorem pf{a:Nat}{k:Nat}:aP .Mod st (.int (a:Int)) (.int ((2^k:Nat):Int))=À (.int ((a%2^k:Nat):Int)):=by
 have:=Ñ k
 rw[iJ oM,lb oM];rfl
theorem mS{a b:Nat}(h:0<b):aP .Mod st (.int (a:Int)) (.int (b:Int))=À (.int ((a%b:Nat):Int)):=by
 rw[iJ oM,lb oM];rfl
theorem Dt{D:List Nat}{k:Nat}(h:k<D.length):aZ st (.fz (nL D)) (.int (k:Int))=À (.int ((D.getD k 0:Nat):Int)):=by rw[dF dR,di,io h]
theorem F0{D:List Nat}{b:Nat}(a:0<b)(h:∀x∈D,x<b)(k:Nat):D.getD k 0<b:=by
 rw[zD];cases e:D[k]? with
 |none=>exact a
 |some x=>exact h x (zW e)
def cL(rows:List (List Nat)):aa:=.lst ((È rows.length).map fun j:Nat=>AV.ref (j+1))::rows.map fun r=>Qd.lst (r.map vw)
theorem xT{n:Nat}{l:List Nat}{s:aa}:bC (bF (n+1) s) (l.map vw)=À (l.map vw):=fJ (f:=bF (n+1) s) (i:=vw) (g:=vw) (fun x=>rfl) l
theorem Cl{α:Type}{f:AV->Option AV}{i g:α->AV}:∀{l:List α},(∀x∈l,f (i x)=À (g x))->bC f (l.map i)=À (l.map g):=by
 intro l
 induction l with
 |nil=>intro _;rfl
 |cons x l a =>
  intro h;rw[zO,zO];show(f (i x)).bind _=_;rw[h x (z7 ..),Â,a fun y b=>h y (zQ _ b)];rfl
theorem BH{M:Nat}{hs:List (List Nat)}(l:hs.length<=100):fF (cL hs) (.tup [.int (M:Int),.ref 0])=À (aS M hs):=by
 have row:∀j∈È hs.length,bF 4 (cL hs) (.ref (j+1))=À (lG (hs.getD j [])):=fun j b=>by
  have b:=Ò.mp b;have:(cL hs)[j+1]?=À (.lst ((hs.getD j []).map vw)):=by
   show(hs.map fun r=>Qd.lst (r.map vw))[j]?=_;rw[zR,zD,zF b];rfl
  show(match (cL hs)[j+1]? with
   |some (.lst d)=>(bC (bF 3 (cL hs)) d).map AV.fz
   |some (.al t)=>À t
   |_=>Á)=_
  rw[this];show(bC (bF 3 (cL hs)) ((hs.getD j []).map vw)).map AV.fz=_;rw[xT];rfl
 have a:=Cl (f:=bF 4 (cL hs)) (i:=fun j:Nat=>AV.ref (j+1)) (g:=fun j=>lG (hs.getD j [])) row;have e:(È hs.length).map (fun j=>lG (hs.getD j []))=hs.map lG:=by
  apply List.ext_getElem
  ·simp
  ·intro i c m
   simp at c;simp[zD,c]
 rw[e]at a;have h:bF 5 (cL hs) (.ref 0)=À (.fz (hs.map lG)):=by
  show(bC (bF 4 (cL hs)) ((È hs.length).map fun j:Nat=>AV.ref (j+1))).map AV.fz=_;rw[a];rfl
 show(bC (bF 5 (cL hs)) [.int (M:Int),.ref 0]).map AV.tup=_;have k:bF 5 (cL hs) (.int (M:Int))=À (.int (M:Int)):=rfl;simp only[bC,h,k,Â,Æ];rfl
theorem Ji{c:Int}{n most:Nat}(hn:n<=4)(hm:most<=40):∃M hs,pm eJ [.int c,.int (n:Int),.int (most:Int)] st=À (aS M hs,st)/\M<=most/\hs.length=n/\∀r∈hs,r.length<=3/\∀m∈r,m<2^M:=by
 obtain ⟨D,U,lD,bD⟩:=F4 (c:=c) (many:=18) (st:=[]) dC;have U:pm aE [.int c,.int 18,.int 65536] []=À (.fz (nL D),[]):=U;obtain ⟨M,hM⟩:∃ M,M=D.getD 0 0 % (most + 1):=⟨_,rfl⟩;have M1:M <= most:=by have:=ŉ (D.getD 0 0) (show 0 < most + 1 by lia);lia
 have I:∃r,eJ [.int c,.int (n:Int),.int (most:Int)] []=À r/\∃hs:List (List Nat),r=(.tup [.int (M:Int),.ref 0],cL hs)/\hs.length=n/\∀r∈hs,r.length<=3/\∀m∈r,m<2^M:=by
  rw[eJ,ay];show ∃r,(ae [aE,dA] ki [À (.int c),À (.int (n:Int)),À (.int (most:Int)),Á,Á,Á,Á,Á,Á,Á,Á] []).bind au=À r/\_;refine aA (sl':=[À (.int c),À (.int (n:Int)),À (.int (most:Int)),À (.fz (nL D)),Á,Á,Á,Á,Á,Á,Á]) (st':=[]) (by simp[U]) ?_;refine aA (sl':=[À (.int c),À (.int (n:Int)),À (.int (most:Int)),À (.fz (nL D)),À (.int (M:Int)),Á,Á,Á,Á,Á,Á]) (st':=[]) ?_ ?_
  ·have V:aP .Mod ([]:aa) (.int ((D.getD 0 0:Nat):Int)) (.int ((most:Int)+1))=À (.int (M:Int)):=by rw[hM];exact mS (b:=most+1) oM
   have e0:aZ ([]:aa) (.fz (nL D)) (.int 0)=À (.int ((D.getD 0 0:Nat):Int)):=Dt (k:=0) oM;simp only[bH,aG,dj,aI,aQ,ar,aw,Â,e0,Æ,dw,V,k9];rfl
  refine aA (sl':=[À (.int c),À (.int (n:Int)),À (.int (most:Int)),À (.fz (nL D)),À (.int (M:Int)),À (.ref 0),Á,Á,Á,Á,Á]) (st':=cL []) rfl ?_;refine kx (xs:=È n) (em:=fun q:Nat=>AV.int (q:Int)) (fun i B st=>∃hs H G w u g,B=[À (.int c),À (.int (n:Int)),À (.int (most:Int)),À (.fz (nL D)),À (.int (M:Int)),À (.ref 0),H,G,w,u,g]/\st=cL hs/\hs.length=i/\∀r∈hs,r.length<=3/\∀m∈r,m<2^M)
   (kW (n:=n) rfl oM) (fun _ _ _ _=>rfl) ⟨[],Á,Á,Á,Á,Á,rfl,rfl,rfl,by simp⟩ (fun i x B st Y P=>?_) fun sl' st' P=>?_
  ·obtain⟨hs,H,G,w,u,g,rfl,rfl,E,L⟩:=P
   have hi:i<n:=by have:=(zB.mp Y).1;simpa using this
   have ex:x=i:=by have:=(zB.mp Y).2;simpa using this.symm
   subst ex;have ls:(cL hs).length=x+1:=by simp[cL,E]
   have F:∃r,ae [aE,dA] (.cons (.as (.nw Ã (.li .nil)) (.nm 7)) (.cons (.fo (.r1 (.bin .Mod (.ix (.v 3) (.bin .Add (.i 1) (.v 6))) (.i 4))) (.nm 8) (.cons (.as (.ix (.v 3) (.bin .Add (.bin .Add (.i 5) (.bin .Mult (.i 3) (.v 6))) (.v 8))) (.nm 9)) (.cons (.as (.bin .Mod (.v 9) (.bin .LShift (.i 1) (.v 4))) (.nm 10)) (.cons (.iff (.cmp .Gt (.v 4) (.i 16)) (.cons (.as (.bin .Mod (.bin .Mult (.bin .Add (.bin .Mult (.bin .Mult (.v 9) (.v 9)) (.i 48271)) (.v 9)) (.bin .Add (.v 9) (.i 77))) (.bin .LShift (.i 1) (.v 4))) (.nm 10)) .nil) .nil) (.cons (.ex (.mt .app (.v 7) (.cons (.ca Ã 1 (.cons (.v 10) .nil)) .nil))) .nil))))) (.cons (.ex (.mt .app (.v 5) (.cons (.v 7) .nil))) .nil)))
     [À (.int c),À (.int (n:Int)),À (.int (most:Int)),À (.fz (nL D)),À (.int (M:Int)),À (.ref 0),À (.int (x:Int)),G,w,u,g] (cL hs)=À r/\∃(row:List Nat)(t f a:Option AV),r=.nx [À (.int c),À (.int (n:Int)),À (.int (most:Int)),À (.fz (nL D)),À (.int (M:Int)),À (.ref 0),À (.int (x:Int)),À (.ref (x+1)),t,f,a] (cL (hs++[row]))/\row.length<=3/\∀m∈row,m<2^M:=by
    refine bh (sl':=[À (.int c),À (.int (n:Int)),À (.int (most:Int)),À (.fz (nL D)),À (.int (M:Int)),À (.ref 0),À (.int (x:Int)),À (.ref (x+1)),w,u,g]) (st':=cL hs++[.lst []]) (by rw[<- ls];rfl) ?_;obtain⟨q,hq⟩:∃q,q=D.getD (1+x) 0%4:=⟨_,rfl⟩;have q4:q<4:=by lia
    have V:aZ (cL hs++[.lst []]) (.fz (nL D)) (.int (1+(x:Int)))=À (.int ((D.getD (1+x) 0:Nat):Int)):=by
     rw[show(1:Int)+(x:Int)=((1+x:Nat):Int) by lia];exact Dt oM
    have e2:aP .Mod (cL hs++[.lst []]) (.int ((D.getD (1+x) 0:Nat):Int)) (.int 4)=À (.int (q:Int)):=by rw[hq];exact mS (b:=4) dC
    refine C2 (xs:=È q) (em:=fun q:Nat=>AV.int (q:Int)) (fun j B st=>∃row t f a,B=[À (.int c),À (.int (n:Int)),À (.int (most:Int)),À (.fz (nL D)),À (.int (M:Int)),À (.ref 0),À (.int (x:Int)),À (.ref (x+1)),t,f,a]/\st=cL hs++[.lst (row.map vw)]/\row.length=j/\∀m∈row,m<2^M)
     (kW (n:=q) (by simp only[aG,dj,aI,aQ,ar,aw,Â,Æ,dw,V,e2]) oM) (fun _ _ _ _=>rfl) ⟨[],w,u,g,rfl,rfl,rfl,by simp⟩ (fun j y B st X O=>?_) fun sl' st' O=>?_
    ·obtain⟨row,t,f,a,rfl,rfl,K,s⟩:=O
     have hy1:j<q:=by have:=(zB.mp X).1;simpa using this
     have ey:y=j:=by have:=(zB.mp X).2;simpa using this.symm
     subst ey;obtain⟨d,hd⟩:∃d,d=D.getD (5+3*x+y) 0:=⟨_,rfl⟩;have d1:d<65536:=by rw[hd];exact F0 dC bD _
     obtain⟨S,N⟩:∃S,S=cL hs++[Qd.lst (row.map vw)]:=⟨_,rfl⟩;have i1:aZ S (.fz (nL D)) (.int (5+3*(x:Int)+(y:Int)))=À (.int (d:Int)):=by
      rw[show(5:Int)+3*(x:Int)+(y:Int)=((5+3*x+y:Nat):Int) by lia,hd];exact Dt oM
     have m3:c7 3 (x:Int)=Ã:=jN dC;have two:(2:Nat)^62=4611686018427387904:=by decide
     have gM:S[x+1]?=À (.lst (row.map vw)):=by rw[N,<- ls];exact gl
     have au:∀m:Nat,m<2^M->∀f:Option AV,∃l p,ae [aE,dA] (.cons (.ex (.mt .app (.v 7) (.cons (.ca Ã 1 (.cons (.v 10) .nil)) .nil))) .nil) [À (.int c),À (.int (n:Int)),À (.int (most:Int)),À (.fz (nL D)),À (.int (M:Int)),À (.ref 0),À (.int (x:Int)),À (.ref (x+1)),À (.int (y:Int)),f,À (.int (m:Int))] S=À (.nx l p) /\
       ∃(row:List Nat)(t f a:Option AV),l=[À (.int c),À (.int (n:Int)),À (.int (most:Int)),À (.fz (nL D)),À (.int (M:Int)),À (.ref 0),À (.int (x:Int)),À (.ref (x+1)),t,f,a]/\p=cL hs++[.lst (row.map vw)]/\row.length=y+1/\∀m∈row,m<2^M:=fun m J f=>by
      refine⟨_,_,aj (jh (k:=x+1) (xs:=row.map vw) (y:=vw m) rfl (by simp only[cm,aq,aD,aI,ar,aw,Â,bG,cp,cU,JN];rfl) gM (by simp;lia)) rfl,row++[m],_,_,_,rfl,?_,by simp[K],fun z hz=>?_⟩
      ·rw[N,<- ls,List.set_append_right _ _ (zP _)];simp
      ·rcases zZ.mp hz with h|h
       ·exact s z h
       ·rw[zM.mp h];exact J
     rw[<- N];have A:cT [aE,dA] (.as (.ix (.v 3) (.bin .Add (.bin .Add (.i 5) (.bin .Mult (.i 3) (.v 6))) (.v 8))) (.nm 9)) [À (.int c),À (.int (n:Int)),À (.int (most:Int)),À (.fz (nL D)),À (.int (M:Int)),À (.ref 0),À (.int (x:Int)),À (.ref (x+1)),À (.int (y:Int)),f,a] S=À (.nx [À (.int c),À (.int (n:Int)),À (.int (most:Int)),À (.fz (nL D)),À (.int (M:Int)),À (.ref 0),À (.int (x:Int)),À (.ref (x+1)),À (.int (y:Int)),À (.int (d:Int)),a] S):=by
      simp only[bH,dj,aG,aI,aQ,ar,aw,Â,bW m3,Æ,dw,i1,k9];rfl
     have p:cT [aE,dA] (.as (.bin .Mod (.v 9) (.bin .LShift (.i 1) (.v 4))) (.nm 10)) [À (.int c),À (.int (n:Int)),À (.int (most:Int)),À (.fz (nL D)),À (.int (M:Int)),À (.ref 0),À (.int (x:Int)),À (.ref (x+1)),À (.int (y:Int)),À (.int (d:Int)),a] S=À (.nx [À (.int c),À (.int (n:Int)),À (.int (most:Int)),À (.fz (nL D)),À (.int (M:Int)),À (.ref 0),À (.int (x:Int)),À (.ref (x+1)),À (.int (y:Int)),À (.int (d:Int)),À (.int ((d%2^M:Nat):Int))] S):=by
      simp only [bH,aG,aI,aQ,ar,aw,Â,kU (show M <= 1000 by lia),Æ,pf,k9];rfl
     by_cases h16:16<M
     ·obtain⟨m,C⟩:∃m,m=(d*d*48271+d)*(d+77)%2^M:=⟨_,rfl⟩
      obtain⟨l,o,e,W⟩:=au m (by rw[C];exact ŉ _ (Ñ _)) (À (.int (d:Int)));refine⟨_,l,o,rfl,aj A (aj p (aj (sl':=[À (.int c),À (.int (n:Int)),À (.int (most:Int)),À (.fz (nL D)),À (.int (M:Int)),À (.ref 0),À (.int (x:Int)),À (.ref (x+1)),À (.int (y:Int)),À (.int (d:Int)),À (.int (m:Int))]) (st':=S) ?_ e)),W⟩;have n1:c7 (d:Int) (d:Int)=Ã:=jN oM;have n2:c7 ((d:Int)*(d:Int)) 48271=Ã:=xj dC;have n3:c7 ((d:Int)*(d:Int)*48271+(d:Int)) ((d:Int)+77)=Ã:=xj oM;have Z:aP .Mod S (.int (((d:Int)*(d:Int)*48271+(d:Int))*((d:Int)+77))) (.int ((2^M:Nat):Int))=À (.int (m:Int)):=by
       rw[C,show((d:Int)*(d:Int)*48271+(d:Int))*((d:Int)+77)=(((d*d*48271+d)*(d+77):Nat):Int) by simp];exact pf
      have T:decide ((16:Int) < (M:Int))=Ã:=yX oM;simp only [cG,cA,aI,aQ,ar,aw,Â,vc,T,Æ,jl,bH,aG,bW n1,bW n2,dw,bW n3,kU (show M <= 1000 by lia),Z,k9];rfl
     ·obtain⟨l,o,e,W⟩:=au (d%2^M) (ŉ _ (Ñ _)) (À (.int (d:Int)))
      refine⟨_,l,o,rfl,aj A (aj p (aj (sl':=[À (.int c),À (.int (n:Int)),À (.int (most:Int)),À (.fz (nL D)),À (.int (M:Int)),À (.ref 0),À (.int (x:Int)),À (.ref (x+1)),À (.int (y:Int)),À (.int (d:Int)),À (.int ((d%2^M:Nat):Int))]) (st':=S) ?_ e)),W⟩;have T:decide ((16:Int)<(M:Int))=Ä:=yB oM;simp only[cG,cA,aI,aQ,ar,aw,Â,vc,T,Æ];rfl
    ·obtain⟨row,t,f,a,rfl,rfl,K,s⟩:=O
     rw[ô]at K;refine⟨_,aj (jh (k:=0) (xs:=(È hs.length).map fun j:Nat=>AV.ref (j+1)) (y:=.ref (x+1)) rfl rfl rfl (by simp;lia)) rfl,row,t,f,a,?_,by lia,s⟩;congr 1;simp[cL,g?,E]
   obtain⟨r,e,row,t,f,a,rfl,R,Q⟩:=F;exact⟨_,_,_,rfl,e,hs++[row],_,_,_,_,_,rfl,rfl,by simp[E],fun r hr=>by
    rcases zZ.mp hr with h|h
    ·exact L r h
    ·rw[zM.mp h];exact⟨R,Q⟩⟩
  ·obtain⟨hs,H,G,w,u,g,rfl,rfl,E,L⟩:=P
   exact cK (v:=.tup [.int (M:Int),.ref 0]) (st':=cL hs) rfl ⟨hs,rfl,by simpa using E,L⟩
 obtain⟨r,e,hs,rfl,R,Q⟩:=I;exact⟨M,hs,aM rfl e (BH oM),M1,R,Q⟩
end
open RK
section
variable{ks:List Fn}{sl:Sl}{st:aa}{ss:Qm}{P:AV×aa->Prop}
theorem yt{n i x:Nat}(h:(È n)[i]?=À x):i<n/\i=x:=by
 obtain⟨b,a⟩:=zB.mp h;exact⟨by simpa using b,by simpa using a⟩
theorem Be{a b:Nat}:aP .BitXor st (.int (a:Int)) (.int (b:Int))=À (.int ((a ^^^ b:Nat):Int)):=by
 show À (AV.int (Ž (a:Int) (b:Int)))=_;rw[CP]
theorem JO{g k:Nat}:(!decide (((g &&& 2^k:Nat):Int)=0))=g.testBit k:=by
 have:(g &&& 2^k=0) ↔ g.testBit k=Ä:=wA;cases h:g.testBit k
 ·rw[this.mpr h];rfl
 ·have:¬g &&& 2^k=0:=fun z=>by rw[this.mp z]at h;cases h
  rw[yB oM];rfl
theorem sJ{M:Nat}{hs:List (List Nat)}:aZ st (aS M hs) (.int 1)=À (.fz (hs.map lG)):=rfl
theorem Dv{hs:List (List Nat)}{k:Nat}(h:k<hs.length):aZ st (.fz (hs.map lG)) (.int (k:Int))=À (lG (hs.getD k [])):=by
 rw[dF dR,di,zR,zD,zF h];rfl
theorem ue{xs:List AV}:cF eO [.fz xs] st=À (.int ((xs.length:Nat):Int),st):=rfl
theorem C5{l:List Nat}:rfs (l.map vw)=Ã:=fV fun x a=>by obtain⟨i,_,rfl⟩:=yE.mp a;rfl
theorem yr{l:List (List Nat)}:rfs (l.map lG)=Ã:=fV fun x a=>by obtain⟨i,_,rfl⟩:=yE.mp a;rfl
@[simp] theorem Pu{M:Nat}{hs:List (List Nat)}:rf (aS M hs)=Ã:=by simp[aS]
def jq(n g:Nat):List Nat:=(È n).filter fun i=>g.testBit i
def gm(hs:List (List Nat))(g:Nat):List Nat:=(jq hs.length g).flatMap fun k=>hs.getD k []
structure HK(M:Nat)(hs:List (List Nat)):Prop where
 m:M<=40
 n:hs.length<=4
 r:∀r∈hs,r.length<=3/\∀m∈r,m<2^M
theorem HK.row{M:Nat}{hs:List (List Nat)}(h:HK M hs)(k:Nat):(hs.getD k []).length<=3/\∀m∈hs.getD k [],m<2^M:=by
 rw[zD];cases e:hs[k]? with
 |none=>exact⟨by simp,by simp⟩
 |some r=>exact h.r r (zW e)
theorem HK.lt{M:Nat}{hs:List (List Nat)}(h:HK M hs){g m:Nat}(a:m∈gm hs g):m<2^M:=by
 obtain⟨k,_,b⟩:=Ů.mp a;exact(h.row k).2 m b
theorem zy{n g:Nat}:(jq n g).length<=n:=by unfold jq;exact z5 (Ņ ..) (by simp)
theorem LK{α a:Type}{f:α->List a}{c:Nat}:∀{l:List α},(∀x∈l,(f x).length<=c)->(l.flatMap f).length<=c*l.length:=by
 intro l
 induction l with
 |nil=>intro _;simp
 |cons x l b =>
  intro h;rw[š,zV,yZ,Nat.mul_succ]
  have:=h x (z7 ..)
  have:=b fun y d=>h y (zQ _ d)
  lia
theorem HK.len{M:Nat}{hs:List (List Nat)}(h:HK M hs)(g:Nat):(gm hs g).length<=12:=by
 have a:(gm hs g).length<=3*(jq hs.length g).length:=LK fun k _=>(h.row k).1
 have:=zy (n:=hs.length) (g:=g)
 have:=h.n
 lia
theorem wp{α b:Type}{f:α->List b}:∀(l:List α)(a:List b),l.foldl (fun a k=>a++f k) a=a++l.flatMap f:=by
 intro l
 induction l with
 |nil=>intro a;simp
 |cons x l c=>intro a;rw[Õ,c,š,yO]
theorem F1{α b:Type}{f:α->List b}{p:α->Bool}:∀(l:List α)(a:List b),l.foldl (fun a k=>if p k=Ã then a++f k else a) a=a++(l.filter p).flatMap f:=by
 intro l
 induction l with
 |nil=>intro a;simp
 |cons x l c =>
  intro a;rw[Õ,c,ű];split
  ·rw[š,yO]
  ·rfl
theorem IL{m M:Nat}(h:m<2^M)(a:M<=40):m<2^41:=zJ h (Ý dC oM)
theorem Io{a b:List Nat}:nL a++nL b=nL (a++b):=by unfold nL;rw[ï]
theorem IM{r:List Nat}:cj st (lG r)=À (r.map vw):=rfl
theorem Fz{M:Nat}{hs:List (List Nat)}(b:HK M hs){g:Nat}:pm cQ [aS M hs,.int (g:Int)] st=À (.fz (nL (gm hs g)),st):=by
 have f:∃r,cQ [aS M hs,.int (g:Int)] []=À r/\r=(.fz (nL (gm hs g)),[]):=by
  rw[cQ,ay];show ∃r,(ae [cE] jH [À (aS M hs),À (.int (g:Int)),Á,Á] []).bind au=À r/\_;refine aA (sl':=[À (aS M hs),À (.int (g:Int)),À (.fz (nL [])),Á]) (st':=[]) rfl ?_;refine jp (gd:=[]) (xs:=È hs.length) (em:=fun q:Nat=>AV.int (q:Int)) (fun i (a:List Nat) o st=>(∃y,o=[À (aS M hs),À (.int (g:Int)),À (.fz (nL a)),y])/\st=[]/\a.length<=3*i) (fun a k=>if g.testBit k=Ã then a++hs.getD k [] else a) [] ?_ ⟨⟨Á,rfl⟩,rfl,by simp⟩ (fun _ _ _ _ _=>rfl) (fun i a x o st u l=>?_) fun sl' st' l=>?_
  ·refine kW (n:=hs.length) ?_ (by have:=b.n;lia)
   simp only[kT,aq,aD,dj,aI,aQ,ar,sJ,Â,Æ,mF,ue,zH]
  ·obtain⟨⟨y,rfl⟩,rfl,G⟩:=l
   obtain⟨A,rfl⟩:=yt u;have E:=b.n;have w:=b.row i;have m:tv [cE] (.cmp .Eq (.bin .Mod (.bin .FloorDiv (.v 1) (.bin .LShift (.i 1) (.v 3))) (.i 2)) (.i 1)) [À (aS M hs),À (.int (g:Int)),À (.fz (nL a)),À (.int (i:Int))] []=À (g.testBit i,[]):=by
    simp only [cA,aG,aI,aQ,ar,aw,Â,kU (show i <= 1000 by lia),mE (show i <= 1000 by lia),Ir,Æ,lm,AR]
   cases s:g.testBit i with
   |false =>
    refine⟨_,[À (aS M hs),À (.int (g:Int)),À (.fz (nL a)),À (.int (i:Int))],[],rfl,?_,?_⟩
    ·refine aj (sl':=[À (aS M hs),À (.int (g:Int)),À (.fz (nL a)),À (.int (i:Int))]) (st':=[]) ?_ rfl
     show(tv _ _ [À (aS M hs),À (.int (g:Int)),À (.fz (nL a)),À (.int (i:Int))] []).bind _=_;rw[m,s];rfl
    ·exact⟨⟨_,rfl⟩,rfl,by simp;lia⟩
   |true =>
    refine⟨([À (aS M hs),À (.int (g:Int)),À (.fz (nL a)),À (.int (i:Int))],[]),[À (aS M hs),À (.int (g:Int)),À (.fz (nL (a++hs.getD i []))),À (.int (i:Int))],[],rfl,?_,?_⟩
    ·refine aj (sl':=[À (aS M hs),À (.int (g:Int)),À (.fz (nL (a++hs.getD i []))),À (.int (i:Int))]) (st':=[]) ?_ rfl
     show(tv _ _ [À (aS M hs),À (.int (g:Int)),À (.fz (nL a)),À (.int (i:Int))] []).bind _=_;rw[m,s,Â];dsimp only;rw[yJ rfl];refine aj (sl':=[À (aS M hs),À (.int (g:Int)),À (.fz (nL (a++hs.getD i []))),À (.int (i:Int))]) (st':=[]) ?_ rfl;have j:d6 [cE] (.e (.ix (.ix (.v 0) (.i 1)) (.v 3))) [À (aS M hs),À (.int (g:Int)),À (.fz (nL a)),À (.int (i:Int))] []=À (⟨(hs.getD i []).map vw,[]⟩,[]):=by
      simp only[Dw,dj,aI,aQ,ar,aw,Â,Æ,sJ,Dv A];rfl
     have d:=g8 (ks:=[cE]) (k:=1) (t:=.nm 4) (c:=.no) (e:=.ca Ã 0 (.cons (.v 4) .nil)) (xs:=hs.getD i []) (em:=vw) j rfl oM (B:=fun _=>Ã) (F:=fun q:Nat=>AV.int (q:Int)) fun q z=>⟨[À (aS M hs),À (.int (g:Int)),À (.fz (nL a)),À (.int (i:Int)),À (vw q)],rfl,rfl,fun _=>by
      simp only[cm,aq,aD,aI,ar,aw,Â,bG,cp];exact(Ad (IL (w.2 q z) b.m)).2⟩
     rw[Ø.mpr fun _ _=>rfl]at d;have d:_=À (nL (hs.getD i []),[]):=d;have p:∀xs:List AV,rfs xs=Ã->(if rfs xs=Ã then À (AV.fz xs,([]:aa)) else Á)=À (.fz xs,[]):=fun xs h=>yJ h
     have D:ev [cE] (.nw Ä (.lc 1 (.e (.ix (.ix (.v 0) (.i 1)) (.v 3))) (.nm 4) .no (.ca Ã 0 (.cons (.v 4) .nil)))) [À (aS M hs),À (.int (g:Int)),À (.fz (nL a)),À (.int (i:Int))] []=À (.fz (nL (hs.getD i [])),[]):=by rw[dO,d,Â];exact p _ fG
     have C:i9 [cE] (.cat (.v 2) (.nw Ä (.lc 1 (.e (.ix (.ix (.v 0) (.i 1)) (.v 3))) (.nm 4) .no (.ca Ã 0 (.cons (.v 4) .nil))))) [À (aS M hs),À (.int (g:Int)),À (.fz (nL a)),À (.int (i:Int))] []=À (nL (a++hs.getD i []),[]):=by
      rw[sF];unfold qw;rw[show ev [cE] (.v 2) [À (aS M hs),À (.int (g:Int)),À (.fz (nL a)),À (.int (i:Int))] []=À (.fz (nL a),[]) from rfl,Â];dsimp only;rw[D,Â];dsimp only;rw[dR,Â,dR,Â,yJ (cR (by rw[g6,g6];lia)),Io]
     rw[bH,dO,C,Â];dsimp only;rw[p _ fG];rfl
    ·exact⟨⟨_,rfl⟩,rfl,by rw[yJ rfl,zV];lia⟩
  ·obtain⟨⟨y,rfl⟩,rfl,_⟩:=l
   rw[F1,Ĥ];exact cK (v:=.fz (nL (gm hs g))) (st':=[]) rfl rfl
 obtain⟨r,e,rfl⟩:=f;exact aM (by simp) e rfl
end
section
variable{ks:List Fn}{sl:Sl}{st:aa}
theorem LN{a e:Ex}{y:AV}{xs ys:List AV}{k:Nat}(g:ev ks a sl st=À (.ref k,st))(f:ev ks e sl st=À (y,st))(b:st[k]?=À (.lst xs))(c:cj st y=À ys)(d:xs.length+ys.length<=1000):cT ks (.ex (.mt .ext a (.cons e .nil))) sl st=À (.nx sl (st.set k (.lst (xs++ys)))):=by
 simp[mJ,tU,tT,g,sY,cC b,f,t8,jf,b,c,cR d]
theorem Cs{M:Nat}{hs:List (List Nat)}(h:ev ks (.v 0) sl st=À (aS M hs,st)):ev ks (.bi .len (.cons (.ix (.v 0) (.i 1)) .nil)) sl st=À (.int ((hs.length:Nat):Int),st):=by
 simp only[kT,aq,aD,dj,aQ,h,sJ,Â,Æ,mF,ue,zH]
theorem K8{M:Nat}{hs:List (List Nat)}{g:Nat}(a:HK M hs)(c:ev (dz::ks) (.v 0) sl st=À (aS M hs,st))(b:ev (dz::ks) (.v 1) sl st=À (.int (g:Int),st)) :
  d6 (dz::ks) (.e (.ca Ä 0 (.cons (.bi .len (.cons (.ix (.v 0) (.i 1)) .nil)) (.cons (.v 1) .nil)))) sl st=À (⟨(jq hs.length g).map fun q:Nat=>AV.int (q:Int),[(st.length,.lst (nL (jq hs.length g)))]⟩,st++[.lst (nL (jq hs.length g))]):=by
 have d:=a.n;rw[Dw,cm,aq,Cs c,Â];dsimp only;rw[aq,b,Â];dsimp only;rw[aD,Â,Â,Â];dsimp only;rw[sE,cp,Ft oM,Â];dsimp only;rw[mW gl];rfl
theorem Il{n g k:Nat}(h:k∈jq n g):k<n/\g.testBit k=Ã:=by
 obtain⟨b,a⟩:=ú.mp h;exact⟨Ò.mp b,a⟩
theorem Go{a b:List Nat}:a.map vw++b.map vw=(a++b).map vw:=by rw[ï]
theorem Eh{M:Nat}{hs:List (List Nat)}(f:HK M hs){g:Nat}:pm dy [aS M hs,.int (g:Int)] st=À (.fz ((gm hs g).map vw),st):=by
 have d:∃r,dy [aS M hs,.int (g:Int)] []=À r/\r=(.ref 0,[.lst ((gm hs g).map vw),.lst (nL (jq hs.length g))]):=by
  rw[dy,ay];show ∃r,(ae [dz] lu [À (aS M hs),À (.int (g:Int)),Á,Á] []).bind au=À r/\_;refine aA (sl':=[À (aS M hs),À (.int (g:Int)),À (.ref 0),Á]) (st':=[.lst []]) rfl ?_;refine jp (gd:=[(1,.lst (nL (jq hs.length g)))]) (xs:=jq hs.length g) (em:=fun q:Nat=>AV.int (q:Int)) (fun i (a:List Nat) c st=>(∃y,c=[À (aS M hs),À (.int (g:Int)),À (.ref 0),y])/\st=[.lst (a.map vw),.lst (nL (jq hs.length g))]/\a.length<=3*i) (fun a k=>a++hs.getD k []) [] (K8 f rfl rfl) ⟨⟨Á,rfl⟩,rfl,by simp⟩ (fun i a c st b=>?_) (fun i a x c st h b=>?_) fun sl' st' b=>?_
  ·obtain⟨_,rfl,_⟩:=b;exact fW rfl
  ·obtain⟨⟨y,rfl⟩,rfl,p⟩:=b
   have j:=Il (zW h);have o:i<hs.length:=by have:=(zB.mp h).1;have:=zy (n:=hs.length) (g:=g);lia
   have m:=f.n;have l:=f.row x;refine⟨([À (aS M hs),À (.int (g:Int)),À (.ref 0),À (.int (x:Int))],[.lst (a.map vw),.lst (nL (jq hs.length g))]),_,_,rfl,aj (LN (k:=0) (xs:=a.map vw) (y:=lG (hs.getD x [])) (ys:=(hs.getD x []).map vw) rfl ?_ rfl IM (by rw[zH,zH];lia)) rfl,⟨_,rfl⟩,?_,by rw[zV];lia⟩
   ·simp only[dj,aI,aQ,ar,aw,Â,Æ,sJ,Dv j.1]
   ·rw[Go];rfl
  ·obtain⟨⟨y,rfl⟩,rfl,_⟩:=b
   rw[wp,Ĥ];exact cK (v:=.ref 0) rfl rfl
 obtain⟨r,e,rfl⟩:=d;refine aM (by simp) e ?_;show(bC (bF 5 _) ((gm hs g).map vw)).map AV.fz=_;rw[xT];rfl
theorem Bz{rows:List Nat}{m:Nat}:(db rows m).length<=rows.length+1:=by unfold db;split<;>simp
theorem NL{a b:Nat}:cF tS [.int (a:Int),.int (b:Int)] st=À (.int ((min a b:Nat):Int),st):=by
 show À (AV.int (if(b:Int)<(a:Int) then(b:Int) else(a:Int)),st)=_;have:(if(b:Int)<(a:Int) then(b:Int) else(a:Int))=((min a b:Nat):Int):=by split<;>lia
 rw[this]
theorem FM{k:Nat}{xs:List AV}(h:st[k]?=À (.lst xs)):cF eO [.ref k] st=À (.int ((xs.length:Nat):Int),st):=by
 unfold cF eO;simp[cC h]
theorem G4{ms:List Nat}(s:ms.length<=100):pm c5 [.fz (nL ms)] st=À (.int ((rk ms:Nat):Int),st):=by
 have f:∃r,c5 [.fz (nL ms)] []=À r/\r.1=.int ((rk ms:Nat):Int):=by
  rw[c5,ay];show ∃r,(ae [] kh [À (.fz (nL ms)),Á,Á,Á] []).bind au=À r/\_;refine aA (sl':=[À (.fz (nL ms)),À (.ref 0),Á,Á]) (st':=[.lst []]) rfl ?_;refine jp (gd:=[]) (xs:=ms) (em:=fun q:Nat=>AV.int (q:Int)) (fun i (a:List Nat) c st=>(∃y z,c=[À (.fz (nL ms)),À (.ref 0),y,z])/\st=[.lst (nL a)]/\a.length<=i) db [] rfl ⟨⟨Á,Á,rfl⟩,rfl,by simp⟩ (fun _ _ _ _ _=>rfl) (fun i a x c st g b=>?_) fun sl' st' b=>?_
  ·obtain⟨⟨y,z,rfl⟩,rfl,u⟩:=b
   have t:i<ms.length:=(zB.mp g).1;have d:∃r,ae [] (.cons (.fo (.e (.v 1)) (.nm 3) (.cons (.as (.bi .min (.cons (.v 2) (.cons (.bin .BitXor (.v 2) (.v 3)) .nil))) (.nm 2)) .nil)) (.cons (.iff (.cmp .Gt (.v 2) (.i 0)) (.cons (.ex (.mt .app (.v 1) (.cons (.v 2) .nil))) .nil) .nil) .nil)) [À (.fz (nL ms)),À (.ref 0),À (.int (x:Int)),z] [.lst (nL a)]=À r/\∃y z,r=.nx [À (.fz (nL ms)),À (.ref 0),y,z] [.lst (nL (db a x))]:=by
    refine Ed (gd:=[(0,.lst (nL a))]) (xs:=a) (em:=fun q:Nat=>AV.int (q:Int)) (fun i (m:Nat) c st=>(∃z,c=[À (.fz (nL ms)),À (.ref 0),À (.int (m:Int)),z])/\st=[.lst (nL a)]) (fun m r=>min m (m ^^^ r)) x rfl ⟨⟨z,rfl⟩,rfl⟩ (fun i m c st b=>?_) (fun i m q c st p b=>?_) fun sl' st' b=>?_
    ·obtain⟨_,rfl⟩:=b;exact fW rfl
    ·obtain⟨⟨z,rfl⟩,rfl⟩:=b
     refine⟨([À (.fz (nL ms)),À (.ref 0),À (.int (m:Int)),À (.int (q:Int))],[.lst (nL a)]),[À (.fz (nL ms)),À (.ref 0),À (.int ((min m (m ^^^ q):Nat):Int)),À (.int (q:Int))],_,rfl,aj ?_ rfl,⟨_,rfl⟩,rfl⟩;simp only[bH,kT,aq,aD,aG,aI,ar,aw,Â,Be,Æ,AS,NL,k9];rfl
    ·obtain⟨⟨z,rfl⟩,rfl⟩:=b
     change ∃r,ae [] _ [À (.fz (nL ms)),À (.ref 0),À (.int ((bo a x:Nat):Int)),z] _=_/\_;by_cases h:bo a x > 0
     ·refine bh (sl':=[À (.fz (nL ms)),À (.ref 0),À (.int ((bo a x:Nat):Int)),z]) (st':=[.lst (nL (a++[bo a x]))]) ?_ ⟨_,rfl,_,_,by unfold db;rw[yJ h]⟩
      rw [cG,cA];simp only [aI,aQ,ar,aw,Â,vc,Æ,yX (show (0:Int) < ((bo a x:Nat):Int) by lia)];rw [yJ trivial];refine (aj (jh (k:=0) (xs:=nL a) (y:=.int ((bo a x:Nat):Int)) rfl rfl rfl (by simp;lia)) rfl).trans ?_;have j:nL a++[AV.int ((bo a x:Nat):Int)]=nL (a++[bo a x]):=by unfold nL;simp
      rw[j];rfl
     ·refine bh (sl':=[À (.fz (nL ms)),À (.ref 0),À (.int ((bo a x:Nat):Int)),z]) (st':=[.lst (nL a)]) ?_ ⟨_,rfl,_,_,by unfold db;rw[yI h]⟩
      rw [cG,cA];simp only [aI,aQ,ar,aw,Â,vc,Æ,yB (show ¬ (0:Int) < ((bo a x:Nat):Int) by lia)];rfl
   obtain⟨r,e,n,l,rfl⟩:=d;exact⟨([À (.fz (nL ms)),À (.ref 0),À (.int (x:Int)),z],[.lst (nL a)]),_,_,rfl,e,⟨_,_,rfl⟩,rfl,by have:=Bz (rows:=a) (m:=x);lia⟩
  ·obtain⟨⟨y,z,rfl⟩,rfl,_⟩:=b
   refine cK (v:=.int ((rk ms:Nat):Int)) (st':=[.lst (nL (ms.foldl db []))]) ?_ rfl;have:rk ms=(ms.foldl db []).length:=(oB ms).symm;rw [this];simp only [gh,kT,aq,aD,aI,ar,aw,Â,mF,FM (show ([.lst (nL (ms.foldl db []))]:aa)[0]?=_ from rfl),g6]
 obtain⟨⟨v,o⟩,e,h⟩:=f;have h:v=.int ((rk ms:Nat):Int):=h;subst h;exact aM (by simp) e rfl
end
def lV(l:L3):AV:=.tup [.int ((2^l.1:Nat):Int),.int (l.2.1:Int),.int (l.2.2:Int)]
section
variable{ks:List Fn}{sl:Sl}{st:aa}
theorem xu{l:List L3}:rfs (l.map lV)=Ã:=fV fun x a=>by obtain⟨i,_,rfl⟩:=yE.mp a;rfl
theorem Du{a b:AV}:aZ st (.tup [a,b]) (.int 0)=À a:=rfl
theorem Lq{a b:AV}:aZ st (.tup [a,b]) (.int 1)=À b:=rfl
theorem IR{ls:List L3}{x y:Nat}:pm dD [.fz (ls.map lV),.int (x:Int),.int (y:Int)] st=À (.tup [.int (((dL ls (x,y)).1:Nat):Int),.int (((dL ls (x,y)).2:Nat):Int)],st):=by
 have d:∃r,dD [.fz (ls.map lV),.int (x:Int),.int (y:Int)] []=À r/\r=(.tup [.int (((dL ls (x,y)).1:Nat):Int),.int (((dL ls (x,y)).2:Nat):Int)],[]):=by
  rw[dD,ay];show ∃r,(ae [] jD [À (.fz (ls.map lV)),À (.int (x:Int)),À (.int (y:Int)),Á,Á,Á] []).bind au=À r/\_;refine jp (gd:=[]) (xs:=ls) (em:=lV) (fun _ (p:Nat×Nat) h st=>(∃a b c,h=[À (.fz (ls.map lV)),À (.int (p.1:Int)),À (.int (p.2:Int)),a,b,c])/\st=[]) (fun p l=>if p.1.testBit l.1=Ã then(p.1 ^^^ l.2.1,p.2 ^^^ l.2.2) else p) (x,y) rfl ⟨⟨Á,Á,Á,rfl⟩,rfl⟩ (fun _ _ _ _ _=>rfl) (fun i p l h st m f=>?_) fun k st' f=>?_
  ·obtain⟨⟨a,b,c,rfl⟩,rfl⟩:=f
   have g:tv [] (.cmp .NotEq (.bin .BitAnd (.v 1) (.v 3)) (.i 0)) [À (.fz (ls.map lV)),À (.int (p.1:Int)),À (.int (p.2:Int)),À (.int ((2^l.1:Nat):Int)),À (.int (l.2.1:Int)),À (.int (l.2.2:Int))] []=À (p.1.testBit l.1,[]):=by
    simp only[cA,aG,aI,aQ,ar,aw,Â,JV,Æ,u9,JO]
   cases j:p.1.testBit l.1 with
   |false =>
    refine⟨([À (.fz (ls.map lV)),À (.int (p.1:Int)),À (.int (p.2:Int)),À (.int ((2^l.1:Nat):Int)),À (.int (l.2.1:Int)),À (.int (l.2.2:Int))],[]),_,[],rfl,aj (by rw[cG,g,j];rfl) rfl,⟨_,_,_,rfl⟩,rfl⟩
   |true =>
    refine⟨([À (.fz (ls.map lV)),À (.int (p.1:Int)),À (.int (p.2:Int)),À (.int ((2^l.1:Nat):Int)),À (.int (l.2.1:Int)),À (.int (l.2.2:Int))],[]),[À (.fz (ls.map lV)),À (.int ((p.1 ^^^ l.2.1:Nat):Int)),À (.int ((p.2 ^^^ l.2.2:Nat):Int)),À (.int ((2^l.1:Nat):Int)),À (.int (l.2.1:Int)),À (.int (l.2.2:Int))],[],rfl,aj ?_ rfl,⟨_,_,_,rfl⟩,rfl⟩;rw[cG,g,j,Â];dsimp only;rw[yJ rfl];simp only[jl,bH,aG,aI,ar,aw,Â,Be,Æ,k9,tL,List.set_cons_succ,List.set_cons_zero,Kc]
  ·obtain⟨⟨a,b,c,rfl⟩,rfl⟩:=f
   exact cK (st':=[]) rfl rfl
 obtain⟨r,e,rfl⟩:=d;exact aM (by simp[xu]) e rfl
theorem Oc{m:Nat}(h:m≠0)(d:ev ks (.v 1) sl st=À (.int (m:Int),st))(a:m<2^1000):ev ks (.bin .LShift (.i 1) (.bin .Sub (.mt .bl (.v 1) .nil) (.i 1))) sl st=À (.int ((2^m.log2:Nat):Int),st):=by
 have b:m.log2<1000:=(Ĉ h).mpr a;have c:ev ks (.mt .bl (.v 1) .nil) sl st=À (.int ((þ (m:Int):Nat):Int),st):=by
  rw[M8];unfold mJ;rw[d,Â];rfl
 have e:=CQ h;simp only [aG,aQ,c,Â,nj,Æ,e,kU (show m.log2 <= 1000 by lia)]
theorem Gk{ls:List L3}{m q:Nat}(h:m≠0)(A:m<2^1000)(B:ls.length<=100):pm dN [.fz (ls.map lV),.int (m:Int),.int (q:Int)] st=À (.fz ((fC ls m q).map lV),st):=by
 have g:∃r,dN [.fz (ls.map lV),.int (m:Int),.int (q:Int)] []=À r/\r.1=.fz ((fC ls m q).map lV):=by
  rw[dN,ay];show ∃r,(ae [] ka [À (.fz (ls.map lV)),À (.int (m:Int)),À (.int (q:Int)),Á,Á,Á,Á,Á] []).bind au=À r/\_;refine aA (sl':=[À (.fz (ls.map lV)),À (.int (m:Int)),À (.int (q:Int)),À (.int ((2^m.log2:Nat):Int)),Á,Á,Á,Á]) (st':=[]) (by rw[bH,Oc h rfl A];rfl) ?_;refine aA (sl':=[À (.fz (ls.map lV)),À (.int (m:Int)),À (.int (q:Int)),À (.int ((2^m.log2:Nat):Int)),À (.ref 0),Á,Á,Á]) (st':=[.lst []]) rfl ?_;refine jp (gd:=[]) (xs:=ls) (em:=lV) (fun i (p:List L3) o st=>(∃a b c,o=[À (.fz (ls.map lV)),À (.int (m:Int)),À (.int (q:Int)),À (.int ((2^m.log2:Nat):Int)),À (.ref 0),a,b,c])/\st=[.lst (p.map lV)]/\p.length=i) (fun p l=>p++[fy m q l]) [] rfl ⟨⟨Á,Á,Á,rfl⟩,rfl,rfl⟩ (fun _ _ _ _ _=>rfl) (fun i p l o st w n=>?_) fun sl' st' n=>?_
  ·obtain⟨⟨a,b,c,rfl⟩,rfl,j⟩:=n
   have F:i<ls.length:=(zB.mp w).1;have t:tv [] (.cmp .NotEq (.bin .BitAnd (.v 6) (.v 3)) (.i 0)) [À (.fz (ls.map lV)),À (.int (m:Int)),À (.int (q:Int)),À (.int ((2^m.log2:Nat):Int)),À (.ref 0),À (.int ((2^l.1:Nat):Int)),À (.int (l.2.1:Int)),À (.int (l.2.2:Int))] [.lst (p.map lV)]=À (l.2.1.testBit m.log2,[.lst (p.map lV)]):=by
    simp only[cA,aG,aI,aQ,ar,aw,Â,JV,Æ,u9,JO]
   refine⟨([À (.fz (ls.map lV)),À (.int (m:Int)),À (.int (q:Int)),À (.int ((2^m.log2:Nat):Int)),À (.ref 0),À (.int ((2^l.1:Nat):Int)),À (.int (l.2.1:Int)),À (.int (l.2.2:Int))],[.lst (p.map lV)]),[À (.fz (ls.map lV)),À (.int (m:Int)),À (.int (q:Int)),À (.int ((2^m.log2:Nat):Int)),À (.ref 0),À (.int ((2^l.1:Nat):Int)),À (.int (l.2.1:Int)),À (.int (l.2.2:Int))],[.lst ((p++[fy m q l]).map lV)],rfl,aj ?_ rfl,⟨_,_,_,rfl⟩,rfl,by simp[j]⟩;have d:∀y:AV,List.map lV p++[lV (fy m q l)]=List.map lV (p++[fy m q l]):=fun _=>by simp
   rw[cG,t,Â];dsimp only;unfold fy at d ⊢;cases s:l.2.1.testBit m.log2 with
   |false =>
    rw[yI (by simp)];rw[s,yI (by simp)]at d;rw[yI (by simp),<- d .non];exact aj (jh (k:=0) (xs:=p.map lV) (y:=lV l) rfl rfl rfl (by simp;lia)) rfl
   |true =>
    rw[yJ rfl];rw[s,yJ rfl]at d;rw[yJ rfl,<- d .non];refine aj (jh (k:=0) (xs:=p.map lV) (y:=lV (l.1,l.2.1 ^^^ m,l.2.2 ^^^ q)) rfl ?_ rfl (by simp;lia)) rfl;simp only[wG,aq,aD,aG,aI,ar,aw,Â,Be,Æ];rfl
  ·obtain⟨⟨a,b,c,rfl⟩,rfl,j⟩:=n
   have D:(ls.foldl (fun p l=>p++[fy m q l]) [])=ls.map (fy m q):=by
    have:=wp (f:=fun l=>[fy m q l]) ls []
    rw[this,Ĥ];clear this j;induction ls with
    |nil=>rfl
    |cons x ls u=>rw[š,zO];exact congrArg (fy m q x::·) (u (by simp at B;lia))
   rw[D];refine cK (v:=.fz ((fC ls m q).map lV)) (st':=[.lst ((ls.map (fy m q)).map lV)]) ?_ rfl;have C:(ls.map (fy m q)).map lV++[lV (m.log2,m,q)]=(fC ls m q).map lV:=by unfold fC;simp
   have z:i9 [] (.cat (.v 4) (.nw Ä (.li (.cons (.tu (.cons (.v 3) (.cons (.v 1) (.cons (.v 2) .nil)))) .nil)))) [À (.fz (ls.map lV)),À (.int (m:Int)),À (.int (q:Int)),À (.int ((2^m.log2:Nat):Int)),À (.ref 0),a,b,c] [.lst ((ls.map (fy m q)).map lV)]=À ((fC ls m q).map lV,[.lst ((ls.map (fy m q)).map lV)]):=by
    rw[<- C,sF];unfold qw;show(if fE (((ls.map (fy m q)).map lV).length+1)=Ã then _ else _)=_;rw[yJ (cR (by simp;lia))];rfl
   rw[gh,dO,z,Â];dsimp only;rw[yJ xu];rfl
 obtain⟨⟨v,E⟩,e,h⟩:=g;have h:v=.fz ((fC ls m q).map lV):=h;subst h;exact aM (by simp[xu]) e rfl
theorem vv:∀(ms:List Nat)(ls:List L3)(n m:Nat),dB ls n (ms++[m])=fi (dB ls n ms) m (2^(n+ms.length)):=by
 intro ms
 induction ms with
 |nil=>intro ls n m;rfl
 |cons x ms a=>intro ls n m;simp only[ė,dB,a,yZ];rw[show n+1+ms.length=n+(ms.length+1) by lia]
theorem FI{ms:List Nat}(y:∀m∈ms,m<2^41)(t:ms.length<=50):pm f7 [.fz (ms.map vw)] st=À (.fz ((dB [] 0 ms).map lV),st):=by
 have g:∃r,f7 [.fz (ms.map vw)] []=À r/\r=(.fz ((dB [] 0 ms).map lV),[]):=by
  rw[f7,ay];show ∃r,(ae [fe,dD,dN] lx [À (.fz (ms.map vw)),Á,Á,Á,Á] []).bind au=À r/\_;refine aA (sl':=[À (.fz (ms.map vw)),À (.fz []),Á,Á,Á]) (st':=[]) rfl ?_;refine kx (gd:=[]) (xs:=ms.zipIdx) (em:=fun z:Nat×Nat=>AV.tup [.int (z.2:Int),vw z.1]) (fun i p st=>(∃a b c,p=[À (.fz (ms.map vw)),À (.fz ((dB [] 0 (ms.take i)).map lV)),a,b,c])/\st=[]/\(dB [] 0 (ms.take i)).length<=i/\∀l∈dB [] 0 (ms.take i),l.2.1<2^41) ?_ (fun _ _ _ _=>rfl) ⟨⟨Á,Á,Á,rfl⟩,rfl,by simp[dB],by intro l t;cases t⟩ (fun i z p st s h=>?_) fun sl' st' h=>?_
  ·simp only[Jg,aI,ar,Â,As,Æ]
   unfold fL;rw[V9,Ù];rfl
  ·obtain⟨⟨a,b,c,rfl⟩,rfl,A,hB⟩:=h
   obtain⟨m,j⟩:=z;rw[ō]at s;obtain⟨E,d,e⟩:=zE.mp s;cases e;rw[L!];have x:i<ms.length:=(zB.mp d).1;have f:=y m (zW d);obtain⟨L,u⟩:∃L,L=dB [] 0 (ms.take i):=⟨_,rfl⟩;have B:dB [] 0 (ms.take (i+1))=fi L m (2^i):=by
    rw[Ϭ,d,ϙ,vv,<- u];rw[L!,ĕ,ð (y0 x)]
   rw[B];rw[<- u]at A hB ⊢;have w:(dL L (m,2^i)).1<2^41:=vY hB f;have q:cT [fe,dD,dN] (.as (.ca Ã 1 (.cons (.v 1) (.cons (.ca Ã 0 (.cons (.v 3) .nil)) (.cons (.bin .LShift (.i 1) (.v 2)) .nil)))) (.nm 4)) [À (.fz (ms.map vw)),À (.fz (L.map lV)),À (.int (i:Int)),À (vw m),c] []=À (.nx [À (.fz (ms.map vw)),À (.fz (L.map lV)),À (.int (i:Int)),À (vw m),À (.tup [.int (((dL L (m,2^i)).1:Nat):Int),.int (((dL L (m,2^i)).2:Nat):Int)])] []):=by
    have C:=(Ad (st:=[]) f).1;simp only [bH,cm,aq,aD,aI,aQ,aG,ar,aw,Â,bG,cp,cU];rw [show vw m=AV.fz (nL (jC m)) from rfl,C,Â];dsimp only;rw [kU (show i <= 1000 by lia),Æ,Â,Â,Â,Â];dsimp only;rw [IR];rfl
   have o:tv [fe,dD,dN] (.cmp .NotEq (.ix (.v 4) (.i 0)) (.i 0)) [À (.fz (ms.map vw)),À (.fz (L.map lV)),À (.int (i:Int)),À (vw m),À (.tup [.int (((dL L (m,2^i)).1:Nat):Int),.int (((dL L (m,2^i)).2:Nat):Int)])] []=À (!decide ((((dL L (m,2^i)).1:Nat):Int)=0),[]):=by
    simp only[cA,dj,aI,aQ,ar,aw,Â,Du,Æ,u9]
   have D:=yk L m (2^i);have n:∀l∈fi L m (2^i),l.2.1<2^41:=BB hB f;by_cases hz:(dL L (m,2^i)).1=0
   ·have k:fi L m (2^i)=L:=by unfold fi;rw[yI (by simp[hz])]
    rw[k]at D n ⊢;refine⟨([À (.fz (ms.map vw)),À (.fz (L.map lV)),À (.int (i:Int)),À (vw m),c],[]),_,[],rfl,aj q (aj (sl':=[À (.fz (ms.map vw)),À (.fz (L.map lV)),À (.int (i:Int)),À (vw m),À (.tup [.int (((dL L (m,2^i)).1:Nat):Int),.int (((dL L (m,2^i)).2:Nat):Int)])]) (st':=[]) ?_ rfl),⟨_,_,_,rfl⟩,rfl,by lia,n⟩;rw[cG,o,Â];dsimp only;rw[hz];rfl
   ·have k:fi L m (2^i)=fC L (dL L (m,2^i)).1 (dL L (m,2^i)).2:=by unfold fi;rw[yJ hz]
    refine⟨([À (.fz (ms.map vw)),À (.fz (L.map lV)),À (.int (i:Int)),À (vw m),c],[]),_,[],rfl,aj q (aj (sl':=[À (.fz (ms.map vw)),À (.fz ((fi L m (2^i)).map lV)),À (.int (i:Int)),À (vw m),À (.tup [.int (((dL L (m,2^i)).1:Nat):Int),.int (((dL L (m,2^i)).2:Nat):Int)])]) (st':=[]) ?_ rfl),⟨_,_,_,rfl⟩,rfl,by lia,n⟩;rw[cG,o,Â];dsimp only;rw[yB oM,X!,yJ rfl];refine aj ?_ rfl;simp only[bH,cm,aq,aD,dj,aI,aQ,ar,aw,Â,bG,cp,cU,Du,Lq,Æ];rw[Gk hz (zJ w (Ý dC dC)) oM,<- k];rfl
  ·obtain⟨⟨a,b,c,rfl⟩,rfl,_⟩:=h
   rw[Ϡ,ĭ];exact cK (v:=.fz ((dB [] 0 ms).map lV)) (st':=[]) rfl rfl
 obtain⟨r,e,rfl⟩:=g;exact aM (by simp[C5]) e rfl
end
section
variable{st:aa}{n M:Nat}{hs:List (List Nat)}
theorem tW{g m:Nat}:m∈gm hs g ↔ ∃k,k<hs.length/\g.testBit k=Ã/\m∈hs.getD k []:=by
 unfold gm jq;rw[Ů];constructor
 ·rintro⟨k,d,a⟩
  obtain⟨c,b⟩:=ú.mp d;exact⟨k,Ò.mp c,b,a⟩
 ·rintro⟨k,c,b,a⟩
  exact⟨k,ú.mpr ⟨Ò.mpr c,b⟩,a⟩
theorem sL{a b m:Nat}:m∈gm hs (a ||| b) ↔ m∈gm hs a++gm hs b:=by
 rw[zZ,tW,tW,tW];constructor
 ·rintro⟨k,e,d,c⟩
  rw[q!,Bool.or_eq_true]at d;rcases d with h|h
  ·exact .inl ⟨k,e,h,c⟩
  ·exact .inr ⟨k,e,h,c⟩
 ·rintro(⟨k,e,d,c⟩|⟨k,e,d,c⟩)
  ·exact⟨k,e,by rw[q!,d];rfl,c⟩
  ·exact⟨k,e,by rw[q!,d,Y8],c⟩
theorem tE{c bs:List Nat}(h:∀m,m∈c ↔ m∈bs):rk c=rk bs:=ED (fun b d=>dY ((h b).mpr d)) fun a e=>dY ((h a).mp e)
def rT(n:Nat)(hs:List (List Nat)):List Int:=(È (2^n-1)).map fun k=>((rk (gm hs (k+1)):Nat):Int)
theorem sB{g:Nat}(a:g<2^n):HH (gI (rT n hs)) g=((rk (gm hs g):Nat):Int):=by
 unfold HH;by_cases h:g=0
 ·rw[yJ h,h]
  have:gm hs 0=[]:=by unfold gm jq;rw[show((È hs.length).filter fun i=>(0:Nat).testBit i)=[] from C!.mpr fun x _=>by simp];rfl
  rw[this];rfl
 ·rw[yI h]
  unfold rT gI;rw[zD,zR,ϛ oM];show((rk (gm hs (g-1+1)):Nat):Int)=_;rw[Nat.sub_add_cancel oM]
theorem Kv{a b c:Nat}(f:a<2^n)(e:b<2^n)(d:c<2^n):0<=IH (gI (rT n hs)) a b c:=by
 have j:=á f d;have i:=á e d;have g:=á (á f e) d;unfold IH;rw[sB j,sB i,sB g,sB d];have o:rk (gm hs (a ||| c))=rk (gm hs c++gm hs a):=tE fun m=>by rw[sL];simp only[zZ];exact or_comm
 have l:rk (gm hs (b ||| c))=rk (gm hs c++gm hs b):=tE fun m=>by rw[sL];simp only[zZ];exact or_comm
 have k:rk (gm hs (a ||| b ||| c))=rk (gm hs c++gm hs a++gm hs b):=tE fun m=>by
  rw[sL];simp only[zZ];rw[sL];simp only[zZ];constructor
  ·rintro((h|h)|h)
   ·exact .inl (.inr h)
   ·exact .inr h
   ·exact .inl (.inl h)
  ·rintro((h|h)|h)
   ·exact .inr h
   ·exact .inl (.inl h)
   ·exact .inl (.inr h)
 have s:=G2 (gm hs c) (gm hs a) (gm hs b);rw[o,l,k];lia
def OJ(n:Nat):Bool:=(oi n).all fun r=>((È n).flatMap fun i=>(È n).flatMap fun j=>(È (2^n)).map fun c=>tD n (yn (2^i) (2^j) c)).contains r
theorem Kq(a:gw n):OJ n=Ã:=by rcases a with rfl|rfl|rfl|rfl<;>decide +kernel
theorem Ku(g:gw n):∀r∈oi n,0<=val (2^n-1) r (gI (rT n hs)):=fun r f=>by
 have h:=yS.mp (Kq g) r f;rw[List.contains_iff_mem,Ů]at h;obtain⟨i,d,h⟩:=h;obtain⟨j,b,h⟩:=Ů.mp h;obtain⟨c,e,rfl⟩:=yE.mp h;have a:∀{k},k<n->2^k<2^n:=fun h=>Ī dC h
 rw[Gp (a (Ò.mp d)) (a (Ò.mp b)) (Ò.mp e)];exact Kv (a (Ò.mp d)) (a (Ò.mp b)) (Ò.mp e)
theorem yx:(rT n hs).length=2^n-1:=by unfold rT;simp
theorem tP(a:gw n):2^n<=16/\2^n-1<=15/\2<=2^n:=by rcases a with rfl|rfl|rfl|rfl<;>decide
theorem DC:∀(ms d:List Nat),gr d ms<=ms.length
 |[],_=>zP _
 |m::ms,d=>by
  have:=DC ms (m::d)
  simp only[gr,yZ];split<;>lia
theorem Dl(b:HK M hs):∀x∈rT n hs,0<=x/\x<=12:=fun x a=>by
 obtain⟨k,_,rfl⟩:=yE.mp a;have d:=b.len (k+1);have c:rk (gm hs (k+1))<=(gm hs (k+1)).length:=DC _ _;lia
theorem yw(a:HK M hs)(g:Nat):pm d8 [.fz ((gm hs g).map vw)] st=À (.int ((rk (gm hs g):Nat):Int),st):=by
 have l:=FI (st:=[]) (ms:=gm hs g) (fun m c=>IL (a.lt c) a.m) (by have:=a.len g;lia);refine aM (by simp[rfs,rf,C5]) (v:=.int ((rk (gm hs g):Nat):Int)) (st':=[]) ?_ rfl;rw[d8,ay];show(ae [f7] mH [À (.fz ((gm hs g).map vw))] []).bind au=_;refine bS ?_;have b:cF eO [.fz ((dB [] 0 (gm hs g)).map lV)] []=À (.int ((rk (gm hs g):Nat):Int),[]):=by
  rw[ue,zH,xq]
 rw[gh];simp only[kT,aq,aD,cm,aI,ar,Â,Æ,bG,cp,l,mF,b]
theorem Od(a:gw n):pm ah [.int n] st=À (.int ((2^n-1:Nat):Int),st):=by
 rcases a with rfl|rfl|rfl|rfl
 ·exact M7 st
 ·exact M6 st
 ·exact M5 st
 ·exact M4 st
theorem JH(a:gw n)(b:HK M hs)(f:hs.length=n):pm fR [aS M hs] st=À (.fz (iL (rT n hs)),st):=by
 have h:=tP a;have it:d6 [ah,dy,d8] (.r2 (.i 1) (.bin .Add (.ca Ã 0 (.cons (.bi .len (.cons (.ix (.v 0) (.i 1)) .nil)) .nil)) (.i 1))) [À (aS M hs)] []=À (⟨(È (2^n-1)).map fun q:Nat=>AV.int (1+(q:Int)),[]⟩,[]):=by
  have d:ev [ah,dy,d8] (.bi .len (.cons (.ix (.v 0) (.i 1)) .nil)) [À (aS M hs)] []=À (.int (n:Int),[]):=by
   have:=Cs (ks:=[ah,dy,d8]) (st:=[]) (sl:=[À (aS M hs)]) (M:=M) (hs:=hs) rfl
   rw[this,f]
  rw[Jf];unfold wf;simp only[aQ,aG,cm,aq,aD,d,Â,Æ,bG,cp,Od a,dw];rcases a with rfl|rfl|rfl|rfl<;>rfl
 have c:=g8 (st:=[]) (ks:=[ah,dy,d8]) (k:=1) (t:=.nm 1) (c:=.no) (e:=.ca Ã 2 (.cons (.ca Ã 1 (.cons (.v 0) (.cons (.v 1) .nil))) .nil)) (em:=fun q:Nat=>AV.int (1+(q:Int))) (B:=fun _=>Ã) (F:=fun q=>AV.int ((rk (gm hs (q+1)):Nat):Int)) it rfl (by rw[ô];lia) fun q _=>by
  have j:=Eh (st:=[]) b (g:=q+1);have i:=yw (st:=[]) b (q+1);refine⟨[À (aS M hs),Is (1+(q:Int))],rfl,rfl,fun _=>?_⟩;rw[show(1:Int)+(q:Int)=((q+1:Nat):Int) by lia];simp only[cm,aq,aD,aI,ar,aw,Â,Æ,bG,cp,cU,j,i]
 rw[Ø.mpr (fun _ _=>rfl),show(È (2^n-1)).map (fun q=>AV.int ((rk (gm hs (q+1)):Nat):Int))=iL (rT n hs) by unfold iL rT;rw[Ù];rfl]at c;refine aM (by simp[rfs,rf,aS,yr]) (v:=.fz (iL (rT n hs))) (st':=[]) ?_ rfl;rw[fR,ay];show(ae [ah,dy,d8] jE [À (aS M hs)] []).bind au=_;exact bS (by rw[gh,dO,c,Â,yJ du];rfl)
theorem Lg(a:gw n)(b:HK M hs)(f:hs.length=n):pm fU [aS M hs] st=À (.fz (iL (rT n hs)),st):=by
 have h:=tP a;have it:d6 [cQ,c5] (.r2 (.i 1) (.bin .LShift (.i 1) (.bi .len (.cons (.ix (.v 0) (.i 1)) .nil)))) [À (aS M hs)] []=À (⟨(È (2^n-1)).map fun q:Nat=>AV.int (1+(q:Int)),[]⟩,[]):=by
  have d:ev [cQ,c5] (.bi .len (.cons (.ix (.v 0) (.i 1)) .nil)) [À (aS M hs)] []=À (.int (n:Int),[]):=by
   have:=Cs (ks:=[cQ,c5]) (st:=[]) (sl:=[À (aS M hs)]) (M:=M) (hs:=hs) rfl
   rw[this,f]
  rw[Jf];unfold wf;simp only[aQ,aG,d,Â,Æ];rcases a with rfl|rfl|rfl|rfl<;>rfl
 have c:=g8 (st:=[]) (ks:=[cQ,c5]) (k:=1) (t:=.nm 1) (c:=.no) (e:=.ca Ã 1 (.cons (.ca Ã 0 (.cons (.v 0) (.cons (.v 1) .nil))) .nil)) (em:=fun q:Nat=>AV.int (1+(q:Int))) (B:=fun _=>Ã) (F:=fun q=>AV.int ((rk (gm hs (q+1)):Nat):Int)) it rfl (by rw[ô];lia) fun q _=>by
  have j:=Fz (st:=[]) b (g:=q+1);have i:=G4 (st:=[]) (ms:=gm hs (q+1)) (by have:=b.len (q+1);lia);refine⟨[À (aS M hs),Is (1+(q:Int))],rfl,rfl,fun _=>?_⟩;rw[show(1:Int)+(q:Int)=((q+1:Nat):Int) by lia];simp only[cm,aq,aD,aI,ar,aw,Â,Æ,bG,cp,cU,j,i]
 rw[Ø.mpr (fun _ _=>rfl),show(È (2^n-1)).map (fun q=>AV.int ((rk (gm hs (q+1)):Nat):Int))=iL (rT n hs) by unfold iL rT;rw[Ù];rfl]at c;refine aM (by simp[rfs,rf,aS,yr]) (v:=.fz (iL (rT n hs))) (st':=[]) ?_ rfl;rw[fU,ay];show(ae [cQ,c5] jG [À (aS M hs)] []).bind au=_;exact bS (by rw[gh,dO,c,Â,yJ du];rfl)
end
section
variable{ks:List Fn}{sl:Sl}{st:aa}{n:Nat}{L T:List Int}{ss:Qm}
theorem lX{a:Nat}(b:gw n)(h:a<2^n):a<16:=zJ h (tP b).1
theorem AJ{α:Type}{l:List α}{a b:Nat}:cut l (À (a:Int)) (À (b:Int))=(l.drop (min a l.length)).take (min b l.length-min a l.length):=by
 unfold cut;rw[HT.sIx_nat,HT.sIx_nat]
theorem JG{α:Type}{l:List α}{a:Nat}:cut l (À (a:Int)) Á=l.drop (min a l.length):=by
 unfold cut;rw[HT.sIx_nat,show HT.Qn l.length l.length Á=l.length from rfl,Ź (by rw[ů];exact zP _)]
theorem N6{D:List Nat}{j:Nat}(h:j+2<=D.length):cut (nL D) (À (j:Int)) (À (((j+2:Nat)):Int))=nL [D.getD j 0,D.getD (j+1) 0]:=by
 have e:D.drop j=D.getD j 0::D.getD (j+1) 0::D.drop (j+2):=by
  rw [ã (show j < D.length by lia),ã (show j + 1 < D.length by lia),zD,zD,zF (show j < D.length by lia),zF (show j + 1 < D.length by lia)];rfl
 rw [AJ,g6,ð (show j <= D.length by lia),ð h,show j + 2 - j=2 by lia];unfold nL;rw [<- ϝ,<- Ϝ,e];rfl
theorem sv{E:Ex}{g:Nat}(c:∀s,ev ks (.v 4) sl s=À (.ref 0,s))(d:∀s,ev ks E sl s=À (.int (g:Int),s))(a:g<T.length) :
  cT ks (.as (.bin .Add (.ix (.v 4) E) (.i 1)) (.su (.v 4) E)) sl [.lst (iL T)]=À (.nx sl [.lst (iL (T.set g (gI T g+1)))])/\cT ks (.as (.bin .Sub (.ix (.v 4) E) (.i 1)) (.su (.v 4) E)) sl [.lst (iL T)]=À (.nx sl [.lst (iL (T.set g (gI T g-1)))]):=by
 have ix:aZ [.lst (iL T)] (.ref 0) (.int (g:Int))=À (.int (gI T g)):=by rw[dF (cC rfl),di,de a]
 have b:∀x:Int,j6 [.lst (iL T)] (.ref 0) (.int (g:Int)) (.int x)=À [.lst (iL (T.set g x))]:=fun x=>by
  rw[eP (q:=g) rfl (by simpa using a)];unfold iL;rw[B'];rfl
 constructor<;>simp only[bH,aG,dj,aQ,c,d,Â,ix,Æ,dw,nj,NY,b]
theorem oT{k g:Nat}{y:Int}(h:∀x∈T,x.natAbs<=k)(a:y=gI T g+1\/y=gI T g-1):∀x∈T.set g y,x.natAbs<=k+1:=fun x b=>by
 have d:=mZ (fun x b=>ϲ (h x b)) (L? k) g;rcases Ċ b with c|c
 ·have:=h x c;lia
 ·rcases a with a|a<;>lia
theorem Dr(e:gw n){a b c:Nat}(p:a<2^n)(o:b<2^n)(h:c<2^n):∃L,pm cb [.int n,.int (a:Int),.int (b:Int),.int (c:Int)] st=À (.fz (iL L),st)/\L.length=2^n-1/\∀x∈L,x.natAbs<=4:=by
 have U:=tP e;obtain⟨Z,q⟩:∃Z:List Int,Z=É (2^n) 0:=⟨_,rfl⟩;have S:Z.length=2^n:=by rw[q];simp
 have X:∀x∈Z,x.natAbs<=0:=fun x m=>by rw[q]at m;rw[w! m];exact zP _
 obtain⟨g,d⟩:∃g:Sl,g=[Is n,Is (a:Int),Is (b:Int),Is (c:Int),Rs 0]:=⟨_,rfl⟩;have W:cT [] (.as (.nw Ã (.lc 1 (.r1 (.bin .LShift (.i 1) (.v 0))) (.nm 5) .no (.i 0))) (.nm 4)) [Is n,Is (a:Int),Is (b:Int),Is (c:Int),Á] []=À (.nx g [.lst (iL Z)]):=by rw[d,q];rcases e with rfl|rfl|rfl|rfl<;>rfl
 have l1:=á p h;have l2:=á o h;have D:=á p o;have Y:=á D h;have i:∀s,ev [] (.v 4) g s=À (.ref 0,s):=fun s=>by rw[d];rfl
 have N:∀s,ev [] (.bin .BitOr (.v 1) (.v 3)) g s=À (.int ((a ||| c:Nat):Int),s):=fun s=>by
  rw[d];simp only[aG,aI,ar,aw,Â,wX (lX e p) (lX e h),Æ]
 have M:∀s,ev [] (.bin .BitOr (.v 2) (.v 3)) g s=À (.int ((b ||| c:Nat):Int),s):=fun s=>by
  rw[d];simp only[aG,aI,ar,aw,Â,wX (lX e o) (lX e h),Æ]
 have K:∀s,ev [] (.bin .BitOr (.bin .BitOr (.v 1) (.v 2)) (.v 3)) g s=À (.int ((a ||| b ||| c:Nat):Int),s):=fun s=>by
  rw[d];simp only[aG,aI,ar,aw,Â,wX (lX e p) (lX e o),wX (lX e D) (lX e h),Æ]
 have J:∀s,ev [] (.v 3) g s=À (.int (c:Int),s):=fun s=>by rw[d];rfl
 obtain⟨l,w⟩:∃T,T=Z.set (a ||| c) (gI Z (a ||| c)+1):=⟨_,rfl⟩;obtain⟨k,u⟩:∃T,T=l.set (b ||| c) (gI l (b ||| c)+1):=⟨_,rfl⟩;obtain⟨j,t⟩:∃T,T=k.set (a ||| b ||| c) (gI k (a ||| b ||| c)-1):=⟨_,rfl⟩;obtain⟨f,r⟩:∃T,T=j.set c (gI j c-1):=⟨_,rfl⟩;have R:l.length=2^n:=by rw[w,ç,S]
 have Q:k.length=2^n:=by rw[u,ç,R]
 have P:j.length=2^n:=by rw[t,ç,Q]
 have O:f.length=2^n:=by rw[r,ç,P]
 have H:=oT (y:=gI Z (a ||| c)+1) X (.inl rfl);rw[<- w]at H;have G:=oT (y:=gI l (b ||| c)+1) H (.inl rfl);rw[<- u]at G;have F:=oT (y:=gI k (a ||| b ||| c)-1) G (.inr rfl);rw[<- t]at F;have E:=oT (y:=gI j c-1) F (.inr rfl);rw[<- r]at E;have C:=(sv (T:=Z) i N oM).1;rw[<- w]at C;have B:=(sv (T:=l) i M oM).1;rw[<- u]at B;have A:=(sv (T:=k) i K oM).2;rw[<- t]at A;have z:=(sv (T:=j) i J oM).2;rw[<- r]at z;refine⟨f.drop 1,aM rfl (v:=.fz (iL (f.drop 1))) (st':=[.lst (iL f)]) ?_ rfl,by rw[ů,O],fun x m=>E x (List.mem_of_mem_drop m)⟩;rw[cb,ay];show(ae [] gA [Is n,Is (a:Int),Is (b:Int),Is (c:Int),Á] []).bind au=_;unfold gA;refine ag W (ag C (ag B (ag A (ag z (bS ?_)))));have V:cut (iL f) (À 1) Á=iL (f.drop 1):=by
  rw[show(1:Int)=((1:Nat):Int) from rfl,JG,kC,ð oM];unfold iL;rw[ϝ]
 rw[gh,dO,xc];unfold nE;rw[i,Â];show(ž (ž (Option.map (fun I=>(cut I (À 1) Á,[Qd.lst (iL f)])) (cj [.lst (iL f)] (.ref 0))) _) _)=_;rw[cC rfl,Æ,Â];dsimp only;rw[V,yJ du];rfl
theorem Af(K:gw n){c:Int}:∃L,pm d9 [.int c,.int n] st=À (.fz (iL L),st)/\L.length=2^n-1/\∀x∈L,x.natAbs<=100:=by
 have h16:=tP K;obtain⟨D,hD,lD,bD⟩:=qE (st:=[]) (c:=c) (many:=2^n+8) (base:=4096) oM dC dC;have Y:pm aE [.int c,.int (((2^n:Nat):Int)+8),.int 4096] []=À (.fz (nL D),[]):=by
  rw[show((2^n:Nat):Int)+8=((2^n+8:Nat):Int) by lia];exact hD
 obtain⟨w,hw⟩:∃w,w=D.getD 0 0%4:=⟨_,rfl⟩;have w4:w<4:=by lia
 have x0:aZ [] (.fz (nL D)) (.int 0)=À (.int ((D.getD 0 0:Nat):Int)):=Dt (st:=[]) (D:=D) (k:=0) oM;have m0:aP .Mod [] (.int ((D.getD 0 0:Nat):Int)) (.int 4)=À (.int (w:Int)):=by rw[hw];exact mS (b:=4) dC
 have sh:=fun st=>kU (st:=st) (k:=n) (by rcases K with rfl|rfl|rfl|rfl<;>decide)
 have V:∃r,d9 [.int c,.int n] []=À r/\∃L:List Int,r=(.fz (iL L),[])/\L.length=2^n-1/\∀x∈L,x.natAbs<=100:=by
  rw[d9,ay];show ∃r,(ae [aE,cb] jg [À (.int c),Is n,Á,Á,Á,Á,Á,Á,Á,Á,Á,Á] []).bind au=À r/\_;unfold jg;refine aA (sl':=[À (.int c),Is n,Zs (nL D),Á,Á,Á,Á,Á,Á,Á,Á,Á]) (st':=[]) (by
   simp only[bH,cm,aq,aD,aG,aI,aQ,ar,aw,Â,Æ,sh,dw,bG,cp,cU,Y];rfl) ?_
  refine aA (sl':=[À (.int c),Is n,Zs (nL D),Is (w:Int),Á,Á,Á,Á,Á,Á,Á,Á]) (st':=[]) (by
   simp only[bH,aG,dj,aI,aQ,ar,aw,Â,Æ,x0,m0];rfl) ?_
  obtain⟨R,W⟩:∃R:List Int,R=É (2^n-1) 0:=⟨_,rfl⟩;refine aA (sl':=[À (.int c),Is n,Zs (nL D),Is (w:Int),Ls R,Á,Á,Á,Á,Á,Á,Á]) (st':=[]) (by
   rw[W];rcases K with rfl|rfl|rfl|rfl<;>rfl) ?_
  by_cases w0:w=0
  ·obtain⟨C,M⟩:∃C,C=(D.drop 1).take (2^n-1):=⟨_,rfl⟩
   have ec:cut (nL D) (À 1) (À ((2^n:Nat):Int))=nL C:=by
    rw[show(1:Int)=((1:Nat):Int) from rfl,AJ,g6,ð oM,ð oM,M];unfold nL;rw[Ϝ,ϝ]
   have l1:C.length=2^n-1:=by rw[M,ĕ,ů];lia
   have J:=g8 (st:=[]) (ks:=[aE,cb]) (k:=1) (it:=.e (.nw Ä (.sl (.v 2) (.so (.i 1)) (.so (.bin .LShift (.i 1) (.v 1)))))) (t:=.nm 12) (c:=.no) (e:=.bin .Sub (.bin .Mod (.v 12) (.i 5)) (.i 2)) (sl:=[À (.int c),Is n,Zs (nL D),Is (w:Int),Ls R,Á,Á,Á,Á,Á,Á,Á]) (gd:=[]) (em:=fun q:Nat=>AV.int (q:Int)) (xs:=C) (B:=fun _=>Ã) (F:=fun q=>AV.int (((q%5:Nat):Int)-2)) (by
    rw[Dw,dO,xc];unfold nE;rw[aI,show aV 2 [À (.int c),Is n,Zs (nL D),Is (w:Int),Ls R,Á,Á,Á,Á,Á,Á,Á] []=À (.fz (nL D),[]) from rfl,Â];dsimp only;have eo:pQ [aE,cb] (.so (.bin .LShift (.i 1) (.v 1))) [À (.int c),Is n,Zs (nL D),Is (w:Int),Ls R,Á,Á,Á,Á,Á,Á,Á] []=À (À ((2^n:Nat):Int),[]):=by
     rw[Ce];unfold o6;simp only[aG,aQ,aI,ar,aw,Â,sh,Æ]
    rw[show pQ [aE,cb] (.so (.i 1)) [À (.int c),Is n,Zs (nL D),Is (w:Int),Ls R,Á,Á,Á,Á,Á,Á,Á] []=À (À 1,[]) from rfl,Â];dsimp only;rw[eo,Â];dsimp only;rw[dR,Æ,Â];dsimp only;rw[ec,yJ pb,Â,At];rfl) rfl oM fun q _=>by
     have:=mS (st:=[]) (a:=q) (b:=5) dC
     exact⟨[À (.int c),Is n,Zs (nL D),Is (w:Int),Ls R,Á,Á,Á,Á,Á,Á,Á,Is (q:Int)],rfl,rfl,fun _=>by
      simp only[aG,aQ,aI,ar,aw,Â,Æ,show aP .Mod [] (.int (q:Int)) (.int 5)=À (.int ((q%5:Nat):Int)) from this,nj]⟩
   obtain⟨N,m⟩:∃N:List Int,N=C.map fun q=>((q%5:Nat):Int)-2:=⟨_,rfl⟩
   rw[Ø.mpr (fun _ _=>rfl),show C.map (fun q=>AV.int (((q%5:Nat):Int)-2))=iL N by rw[m];unfold iL;rw[Ù];rfl]at J;refine cK (s:=.iff _ _ _) (v:=.fz (iL N)) (st':=[]) ?_ ⟨N,rfl,by rw[m,zH,l1],fun x f=>by
    rw[m]at f;obtain⟨q,_,rfl⟩:=yE.mp f;lia⟩
   rw[cG];simp only[cA,aI,aQ,ar,aw,Â,Æ,lm];rw[yJ (by rw[w0];rfl)];exact oO (by rw[gh,dO,J,Â,yJ du];rfl)
  refine aA (sl':=[À (.int c),Is n,Zs (nL D),Is (w:Int),Ls R,Á,Á,Á,Á,Á,Á,Á]) (st':=[]) (by
   rw[cG];simp only[cA,aI,aQ,ar,aw,Â,Æ,lm];rw[yI (by rw[yD];lia)];rfl) ?_
  refine kx (xs:=È w) (em:=fun q:Nat=>AV.int (q:Int)) (gd:=[]) (fun i sl st=>∃Q I H E l g d,∃R:List Int,sl=[À (.int c),Is n,Zs (nL D),Is (w:Int),Ls R,Q,I,H,E,l,g,d]/\st=[]/\R.length=2^n-1/\∀x∈R,x.natAbs<=8*i) (kW (n:=w) rfl oM) (fun _ _ _ _=>rfl) ⟨_,_,_,_,_,_,_,R,rfl,rfl,by rw[W];simp,fun x f=>by rw[W]at f;rw[w! f];exact zP _⟩ (fun i x sl st f X=>?_) fun sl' st' X=>?_
  ·obtain⟨Q,I,H,E,l,g,d,R,rfl,rfl,lR,Z⟩:=X
   obtain⟨hi,rfl⟩:=yt f;obtain⟨p,hp⟩:∃p,p=D.getD (2*i+1) 0:=⟨_,rfl⟩;obtain⟨q,hq⟩:∃q,q=D.getD (2*i+2) 0:=⟨_,rfl⟩;have c2:=N6 (D:=D) (j:=2*i+1) oM;rw[show 2*i+1+1=2*i+2 from rfl,<- hp,<- hq,show((2*i+1:Nat):Int)=2*(i:Int)+1 by lia,show((2*i+1+2:Nat):Int)=2*(i:Int)+3 by lia]at c2;have ml:aP .Mult [] (.int 2) (.int (i:Int))=À (.int (2*(i:Int))):=bW (jN dC);have U:=Ñ n;obtain⟨u,hu⟩:∃u,u=p%2^n:=⟨_,rfl⟩;obtain⟨v,hv⟩:∃v,v=q%2^n:=⟨_,rfl⟩;obtain⟨z,hz⟩:∃z,z=q/64%2^n:=⟨_,rfl⟩;have T:u<2^n:=by rw[hu];exact ŉ _ U
   have vl:v<2^n:=by rw[hv];exact ŉ _ U
   have zl:z<2^n:=by rw[hz];exact ŉ _ U
   have e1:aP .Mod [] (.int (p:Int)) (.int ((2^n:Nat):Int))=À (.int (u:Int)):=by rw[hu];exact pf
   have e2:aP .Mod [] (.int (q:Int)) (.int ((2^n:Nat):Int))=À (.int (v:Int)):=by rw[hv];exact pf
   have e3:aP .FloorDiv [] (.int (q:Int)) (.int 64)=À (.int ((q/64:Nat):Int)):=mE (k:=6) dC;have e4:aP .Mod [] (.int ((q/64:Nat):Int)) (.int ((2^n:Nat):Int))=À (.int (z:Int)):=by rw[hz];exact pf
   have e5:aP .FloorDiv [] (.int (p:Int)) (.int 64)=À (.int ((p/64:Nat):Int)):=mE (k:=6) dC;have e6:aP .FloorDiv [] (.int (p:Int)) (.int 128)=À (.int ((p/128:Nat):Int)):=mE (k:=7) dC;have e7:aP .Mod [] (.int ((p/64:Nat):Int)) (.int 2)=À (.int ((p/64%2:Nat):Int)):=mS (b:=2) dC;have e8:aP .Mod [] (.int ((p/128:Nat):Int)) (.int 4)=À (.int ((p/128%4:Nat):Int)):=mS (b:=4) dC;obtain⟨A1,a1,a2,a3⟩:=Dr (st:=[]) K T vl zl;obtain⟨B1,b1,b2,b3⟩:=Dr (st:=[]) K T T zl;obtain⟨y,hy,G⟩:∃y:Int,aZ [] (.fz [.int 1,.int 1,.int 2,.int (-1)]) (.int ((p/128%4:Nat):Int))=À (.int y)/\y.natAbs<=2:=by
    obtain⟨r,hr⟩:∃r,r=p/128%4:=⟨_,rfl⟩;have:r<4:=by lia
    rw[<- hr]
    match r,this with
    |0,_=>exact⟨1,rfl,by decide⟩
    |1,_=>exact⟨1,rfl,by decide⟩
    |2,_=>exact⟨2,rfl,by decide⟩
    |3,_=>exact⟨-1,rfl,by decide⟩
   obtain⟨A,P⟩:∃A,A=if p/64%2=1 then B1 else A1:=⟨_,rfl⟩
   have lA:A.length=2^n-1:=by rw[P];split<;>assumption
   have bA:∀x∈A,x.natAbs<=4:=by rw[P];split<;>assumption
   obtain⟨O,o⟩:∃O:List Int,O=(R.zip A).map fun z=>z.1+y*z.2:=⟨_,rfl⟩
   have J:=g8 (st:=[]) (ks:=[aE,cb]) (k:=2) (it:=.zi (.v 4) (.v 10)) (t:=.tu 2 (.cons (.nm 12) (.cons (.nm 13) .nil))) (c:=.no) (e:=.bin .Add (.v 12) (.bin .Mult (.v 11) (.v 13))) (sl:=[À (.int c),Is n,Zs (nL D),Is (w:Int),Ls R,Is (i:Int),Is (p:Int),Is (q:Int),Is (u:Int),Is (z:Int),Ls A,Is y]) (gd:=[]) (em:=fun z:Int×Int=>AV.tup [.int z.1,.int z.2]) (xs:=R.zip A) (B:=fun _=>Ã) (F:=fun z=>AV.int (z.1+y*z.2)) (by
    rw[<- lM];rfl) rfl (by rw[Ą];lia) fun z hz=>by
     exact⟨[À (.int c),Is n,Zs (nL D),Is (w:Int),Ls R,Is (i:Int),Is (p:Int),Is (q:Int),Is (u:Int),Is _,Ls A,Is y,Is z.1,Is z.2],rfl,rfl,fun _=>by
      simp only[aG,aI,ar,aw,Â,Æ,bW (jN (a:=y) (b:=z.2) (yN G dC)),dw]⟩
   rw[Ø.mpr (fun _ _=>rfl),show(R.zip A).map (fun z=>AV.int (z.1+y*z.2))=iL O by rw[o];unfold iL;rw[Ù];rfl]at J;refine⟨([À (.int c),Is n,Zs (nL D),Is (w:Int),Ls R,Is (i:Int),I,H,E,l,g,d],[]),[À (.int c),Is n,Zs (nL D),Is (w:Int),Ls O,Is (i:Int),Is (p:Int),Is (q:Int),Is (u:Int),Is (z:Int),Ls A,Is y],[],rfl,?_,_,_,_,_,_,_,_,O,rfl,rfl,by rw[o,zH,Ą];lia,fun x f=>?_⟩
   ·refine aj (sl':=[À (.int c),Is n,Zs (nL D),Is (w:Int),Ls R,Is (i:Int),Is (p:Int),Is (q:Int),E,l,g,d]) (st':=[]) (by
     have S:ev [aE,cb] (.nw Ä (.sl (.v 2) (.so (.bin .Add (.bin .Mult (.i 2) (.v 5)) (.i 1))) (.so (.bin .Add (.bin .Mult (.i 2) (.v 5)) (.i 3))))) [À (.int c),Is n,Zs (nL D),Is (w:Int),Ls R,Is (i:Int),I,H,E,l,g,d] []=À (.fz (nL [p,q]),[]):=by
      rw[dO,xc];unfold nE;simp only[aI,ar,aw,Â,Ce,o6,aG,aQ,ml,Æ,dw,dR,c2];rw[yJ pb]
     rw[bH,S];rfl) ?_
    refine aj (sl':=[À (.int c),Is n,Zs (nL D),Is (w:Int),Ls R,Is (i:Int),Is (p:Int),Is (q:Int),Is (u:Int),l,g,d]) (st':=[]) (by
     simp only[bH,aG,aI,aQ,ar,aw,Â,Æ,sh,e1];rfl) ?_
    refine aj (sl':=[À (.int c),Is n,Zs (nL D),Is (w:Int),Ls R,Is (i:Int),Is (p:Int),Is (q:Int),Is (u:Int),Is (z:Int),g,d]) (st':=[]) (by
     simp only[bH,aG,aI,aQ,ar,aw,Â,Æ,sh,e3,e4];rfl) ?_
    refine aj (sl':=[À (.int c),Is n,Zs (nL D),Is (w:Int),Ls R,Is (i:Int),Is (p:Int),Is (q:Int),Is (u:Int),Is (z:Int),Ls A1,d]) (st':=[]) (by
     simp only[bH,cm,aq,aD,aG,aI,aQ,ar,aw,Â,Æ,sh,e2,bG,cp,cU,a1];rfl) ?_
    refine aj (sl':=[À (.int c),Is n,Zs (nL D),Is (w:Int),Ls R,Is (i:Int),Is (p:Int),Is (q:Int),Is (u:Int),Is (z:Int),Ls A,d]) (st':=[]) (by
     rw[cG];simp only[cA,aG,aI,aQ,ar,aw,Â,Æ,e5,e7,lm];by_cases h:p/64%2=1
     ·rw[yJ (by rw[h];rfl)]
      refine aj (sl':=[À (.int c),Is n,Zs (nL D),Is (w:Int),Ls R,Is (i:Int),Is (p:Int),Is (q:Int),Is (u:Int),Is (z:Int),Ls A,d]) (st':=[]) ?_ rfl;rw[P,yJ h];simp only[bH,cm,aq,aD,aI,ar,aw,Â,Æ,bG,cp,cU,b1];rfl
     ·rw[yI (by rw[yD];lia),P,yI h];rfl) ?_
    refine aj (sl':=[À (.int c),Is n,Zs (nL D),Is (w:Int),Ls R,Is (i:Int),Is (p:Int),Is (q:Int),Is (u:Int),Is (z:Int),Ls A,Is y]) (st':=[]) (by
     have S:ev [aE,cb] (.nw Ä (.li (.cons (.i 1) (.cons (.i 1) (.cons (.i 2) (.cons (.un .USub (.i 1)) .nil)))))) [À (.int c),Is n,Zs (nL D),Is (w:Int),Ls R,Is (i:Int),Is (p:Int),Is (q:Int),Is (u:Int),Is (z:Int),Ls A,d] []=À (.fz [.int 1,.int 1,.int 2,.int (-1)],[]):=rfl;rw[bH,dj,S];simp only[aG,aI,aQ,ar,aw,Â,Æ,e6,e8,hy];rfl) ?_
    exact aj (by rw[bH,dO,J,Â,yJ du];rfl) rfl
   ·rw[o]at f
    obtain⟨s,hs,rfl⟩:=yE.mp f;obtain⟨s1,s2⟩:=î hs;have t1:=Z _ s1;have t2:=bA _ s2;have t3:(y*s.2).natAbs<=2*4:=by rw[xA];exact ś G t2
    (omega)
  ·obtain⟨Q,I,H,E,l,g,d,R,rfl,rfl,lR,Z⟩:=X
   refine cK (v:=.fz (iL R)) (st':=[]) rfl ⟨R,rfl,lR,fun x f=>?_⟩
   have:=Z x f
   rw[ô]at this;lia
 obtain⟨r,e,L,rfl,h1,h2⟩:=V;exact⟨L,aM rfl e rfl,h1,h2⟩
end
section
variable{st:aa}{n M w:Nat}{L T ns goal:List Int}{hs:List (List Nat)}{RR:List (List Int)}{gv:List Gv}{Y:Nat->Int}{t:AV}{z g:Gv}
theorem Dg{x:Int}{k:Nat}(h:x.natAbs<=k)(a:k<2^125):x.natAbs<2^9000:=yN h (zJ a (Ý dC dC))
theorem IK(f:L.length<=15)(g:T.length=L.length)(b:∀x∈L,x.natAbs<2^9000)(d:∀x∈T,x.natAbs<2^9000):pm cD [.fz (iL L),.fz (iL T)] st=À (.int (val L.length L (gI T)),st):=by
 have e:=g8 (st:=[]) (ks:=[]) (k:=2) (it:=.zi (.v 0) (.v 1)) (t:=.tu 2 (.cons (.nm 2) (.cons (.nm 3) .nil))) (c:=.no) (e:=.bin .Mult (.v 2) (.v 3)) (sl:=[Ls L,Ls T]) (gd:=[]) (em:=fun z:Int×Int=>AV.tup [.int z.1,.int z.2]) (xs:=L.zip T) (B:=fun _=>Ã) (F:=fun z=>AV.int (z.1*z.2)) (by
  rw[<- lM];rfl) rfl (by rw[Ą];lia) fun z hz=>by
   have:=î hz
   exact⟨[Ls L,Ls T,Is z.1,Is z.2],rfl,rfl,fun _=>by simp[bW (c6 (b _ this.1) (d _ this.2))]⟩
 rw[Ø.mpr (fun _ _=>rfl),show(L.zip T).map (fun z=>AV.int (z.1*z.2))=iL ((L.zip T).map fun z=>z.1*z.2) by unfold iL;rw[Ù];rfl]at e;refine aM (by simp[rfs,rf,du]) (v:=.int (val L.length L (gI T))) (st':=[]) ?_ rfl;rw[cD,ay];show(ae [] jF [Ls L,Ls T] []).bind au=_;refine bS ?_;have a:ev [] (.nw Ä (.lc 2 (.zi (.v 0) (.v 1)) (.tu 2 (.cons (.nm 2) (.cons (.nm 3) .nil))) .no (.bin .Mult (.v 2) (.v 3)))) [Ls L,Ls T] []=À (.fz (iL ((L.zip T).map fun z=>z.1*z.2)),[]):=by
  rw[dO,e,Â,yJ du]
 simp only[gh,kT,aq,aD,a,Â,vf,cF,ow,Ds,Æ];rw[qo L T oM];rfl
theorem qj(c:gw n)(d:HK M hs)(b:L.length=2^n-1)(f:∀x∈L,x.natAbs<=M0):pm cD [.fz (iL L),.fz (iL (rT n hs))] st=À (.int (val (2^n-1) L (gI (rT n hs))),st):=by
 have e:=tP c
 have:=IK (st:=st) (L:=L) (T:=rT n hs) oM (by rw[yx,b]) (fun x a=>Dg (f x a) (by unfold M0;decide)) (fun x a=>Dg (k:=12) (by have:=Dl d x a;lia) dC)
 rw[b]at this;exact this
theorem td(c:gw n)(d:HK M hs)(b:L.length=2^n-1)(e:∀x∈L,x.natAbs<=100):(val (2^n-1) L (gI (rT n hs))).natAbs<32768 :=
 sU (M:=7) (N:=4) b yx (tP c).2.1 (fun x a=>yN (e x a) dC) (fun x a=>by have:=Dl d x a;show x.natAbs<16;lia)
theorem pi{x:Int}(h:x.natAbs<=40000):x.natAbs<=M0:=z5 h (by unfold M0;decide)
theorem FY(d:gw n)(j:HK M hs)(c:Int):∃g:Gv,(∀st,pm eY [.int c,.int n,.fz (iL (rT n hs))] st=À (g.av,st))/\(g.row.length=2^n-1/\(∀x∈g.row,x.natAbs<=M0)/\g.num.natAbs<=M0)/\Hd (2^n-1) g (gI (rT n hs)) 1:=by
 obtain⟨L,o,a,k⟩:=Af (st:=[]) d (c:=c/16);have f:∀x∈L,x.natAbs<=M0:=fun x m=>pi (by have:=k x m;lia)
 have tv:=qj (st:=[]) d j a f;have l:=td d j a k;obtain⟨v,b⟩:∃v,v=val (2^n-1) L (gI (rT n hs)):=⟨_,rfl⟩;rw[<- b]at tv l;have e:aP .FloorDiv [] (.int c) (.int 16)=À (.int (c/16)):=rq dC dC;have p:aP .FloorDiv [] (.int c) (.int 2)=À (.int (c/2)):=rq dC dC;have m2:aP .Mod [] (.int c) (.int 2)=À (.int (c%2)):=tX dC;have m3:aP .Mod [] (.int (c/2)) (.int 3)=À (.int (c/2%3)):=tX dC;have run:eY [.int c,.int n,.fz (iL (rT n hs))] []=À (if c%2=1 then .tup [.fz (iL L),.str "=",.int v] else .tup [.fz (iL L),.str ">",.int (v-c/2%3)],[]):=by
  rw[eY,ay];show(ae [d9,cD] ig [À (.int c),Is n,Ls (rT n hs),Á,Á] []).bind au=_;unfold ig;refine ag (sl':=[À (.int c),Is n,Ls (rT n hs),Ls L,Á]) (st':=[]) (by
   simp only[bH,cm,aq,aD,aG,aI,aQ,ar,aw,Â,Æ,bG,cp,cU,e,o];rfl) ?_
  refine ag (sl':=[À (.int c),Is n,Ls (rT n hs),Ls L,Is v]) (st':=[]) (by
   simp only[bH,cm,aq,aD,aI,ar,aw,Â,Æ,bG,cp,cU,tv];rfl) ?_
  by_cases h:c%2=1
  ·rw[yJ h]
   refine bS (s:=.iff _ _ _) ?_;rw[cG];simp only[cA,aG,aI,aQ,ar,aw,Â,Æ,m2,lm];rw[yJ (by rw[h];rfl)];exact oO rfl
  ·rw[yI h]
   refine ag (s:=.iff _ _ _) (sl':=[À (.int c),Is n,Ls (rT n hs),Ls L,Is v]) (st':=[]) ?_ (bS ?_)
   ·rw[cG]
    simp only[cA,aG,aI,aQ,ar,aw,Â,Æ,m2,lm];rw[yI (by rw[yD];exact h)];rfl
   ·simp only[gh,wG,aq,aD,lN,aG,aI,aQ,ar,aw,Â,Æ,p,m3,nj];rfl
 have i:rfs [.int c,.int n,.fz (iL (rT n hs))]=Ã:=by simp[rfs,rf,du]
 by_cases h:c%2=1
 ·rw[yJ h]at run
  exact⟨⟨L,Ã,v⟩,fun st=>aM i run rfl,⟨a,f,pi (by dsimp only;lia)⟩,by show v*1<=val _ L _;rw[<- b];lia,fun _=>by show val _ L _=v*1;rw[<- b];lia⟩
 ·rw[yI h]at run
  exact⟨⟨L,Ä,v-c/2%3⟩,fun st=>aM i run rfl,⟨a,f,pi (by dsimp only;lia)⟩,by show(v-c/2%3)*1<=val _ L _;rw[<- b];lia,fun h=>nomatch h⟩
theorem v8(l:gw n)(o:HK M hs)(d:g.row.length=2^n-1)(k:∀x∈g.row,x.natAbs<=M0):∃b:Bool,(∀st,pm eV [g.av,.fz (iL (rT n hs))] st=À (.bl b,st))/\(b=Ã ↔ Hd (2^n-1) g (gI (rT n hs)) 1):=by
 obtain⟨L,e,m⟩:=g;have tv:=qj (st:=[]) l o d k;dsimp only at tv d k;unfold Hd;dsimp only;generalize val (2^n-1) L (gI (rT n hs))=v at *;have c:rfs [(⟨L,e,m⟩:Gv).av,.fz (iL (rT n hs))]=Ã:=by simp[rfs,rf,du,Gv.av]
 have j:aZ [] (⟨L,e,m⟩:Gv).av (.int 0)=À (.fz (iL L)):=rfl;have i:aZ [] (⟨L,e,m⟩:Gv).av (.int 1)=À (.str (if e then "=" else ">")):=rfl;have f:aZ [] (⟨L,e,m⟩:Gv).av (.int 2)=À (.int m):=rfl;cases e with
 |true =>
  refine⟨decide (v=m),fun st=>aM c (v:=.bl (decide (v=m))) (st':=[]) ?_ rfl,by rw[yD];exact⟨fun h=>⟨by lia,fun _=>by lia⟩,fun h=>by have:=h.2 rfl;lia⟩⟩;rw[eV,ay];generalize (⟨L,Ã,m⟩:Gv).av=a at *;show(ae [cD] ie [À a,Ls (rT n hs)] []).bind au=_;refine bS (s:=.iff _ _ _) ?_;rw[cG];simp only[cA,dj,aI,aQ,lN,ar,Â,Æ,i,ite_true,DG];exact oO (by simp only[gh,wH,cm,aq,aD,dj,aI,aQ,ar,aw,Â,Æ,bG,cp,j,f,tv,JJ,lm])
 |false =>
  refine⟨decide (m<=v),fun st=>aM c (v:=.bl (decide (m<=v))) (st':=[]) ?_ rfl,by rw[yD];exact⟨fun h=>⟨by lia,fun h=>nomatch h⟩,fun h=>by have:=h.1;lia⟩⟩;rw[eV,ay];generalize (⟨L,Ä,m⟩:Gv).av=a at *;show(ae [cD] ie [À a,Ls (rT n hs)] []).bind au=_;refine ag (s:=.iff _ _ _) (sl':=[À a,Ls (rT n hs)]) (st':=[]) ?_ (bS ?_)
  ·rw[cG]
   simp only[cA,dj,aI,aQ,lN,ar,Â,Æ,i,yC,ite_false,DA];rfl
  ·simp only[gh,wH,cm,aq,aD,dj,aI,aQ,ar,aw,Â,Æ,bG,cp,j,f,tv,JJ,Ob]
theorem Ln(a:gw n)(h:∀g∈gv,Hd (2^n-1) g (gI (rT n hs)) 1):Kp (2^n-1) (oi n) gv (gI (rT n hs)) 1:=⟨Ku a,fun z hz b=>(h z hz).2 b,fun z hz _=>(h z hz).1⟩
theorem Md(A:sP w RR gv goal t)(K:Kp w RR gv Y 1):(∃x1 x2,t=.tup [.str "endless",x1,x2])\/∃p q x1 x2 x3,t=.tup [.str "least",.tup [.int p,.int q],x1,x2,x3]/\q.natAbs<2^9000/\p<=val w goal Y*q/\∀num,(∀Y e,0<e->Kp w RR gv Y e->num*e<=val w goal Y) ↔ num*q<=p:=by
 rcases A with⟨⟨W,rfl⟩,h⟩|⟨T,d,X,D,k,W,rfl,hd,⟨B,bd⟩,⟨m,r⟩,h⟩|⟨X,D,Z,rfl,_⟩
 ·exact absurd K (h Y 1 dC)
 ·obtain⟨c,b,l,i,s⟩:=Ag (T:=T) hd
  have v:=f8 (xb i b bd) dC;have o:=h Y 1 dC K;refine .inr ⟨_,_,_,_,_,rfl,v,?_,fun num=>⟨fun j=>?_,fun j Y e n z=>?_⟩⟩
  ·generalize gI (ao [T,d]) 0=p at *
   generalize gI (ao [T,d]) 1=q at *;rw[l,i,h!]at o;exact ß (a:=c) (by rw[show val w goal Y*q*c=val w goal Y*(q*c) by grind];exact o) b
  ·have g:=j _ _ m.pos m.kp
   have u:=m.pos;generalize val w goal (gI X)=x at *;generalize gI (ao [T,d]) 0=p at *;generalize gI (ao [T,d]) 1=q at *;have f:=Ó g (ý hd);rw[r,l,i]at f;exact ß (a:=c*D) (by rw[show num*q*(c*D)=num*D*(q*c) by grind,show p*(c*D)=p*c*D by grind];exact f) (Ũ b u)
  ·have g:=h Y e n z
   generalize val w goal Y=y at *;generalize gI (ao [T,d]) 0=p at *;generalize gI (ao [T,d]) 1=q at *;rw[l,i]at g;have f:=Ó j (ý (Ũ n b));exact ß (a:=q*c) (by
    rw[show num*e*(q*c)=num*q*(e*c) by grind];rw[show p*(e*c)=p*c*e by grind]at f;exact ĵ f g) (Ũ s b)
 ·exact .inl ⟨_,_,rfl⟩
theorem N3(F:FS w RR gv z t)(K:Kp w RR gv Y 1):∃b:Bool,(∀st,aZ st t (.int 0)=À (.bl b))/\(b=Ã->Hd w z Y 1)/\(z.eq=Ä->(b=Ã ↔ ∀Y e,0<e->Kp w RR gv Y e->z.num*e<=val w z.row Y)):=by
 rcases F with⟨f,rfl,h⟩|⟨V,E,rfl,a,d⟩
 ·exact⟨Ã,fun _=>rfl,fun _=>h Y 1 dC K,fun _=>⟨fun _ Y e c K=>(h Y e c K).1,fun _=>rfl⟩⟩
 ·exact⟨Ä,fun _=>rfl,fun h=>(nomatch h),fun hz=>⟨fun h=>(nomatch h),fun h=>absurd ⟨h _ _ a.pos a.kp,fun h=>by rw[hz]at h;cases h⟩ d⟩⟩
theorem K9(f:HK M hs)(d:gw n):cJ .NotEq st (.fz (iL (rT n hs))) (.fz (iL (rT n hs)))=À Ä:=by
 have e:fc 9 st (.fz (iL (rT n hs)))=À (.list ((rT n hs).map ŭ)):=by show(bC (fc 8 st) _).map _=_;rw[IG];rfl
 have:∀l:List Int,Q6 (l.map ŭ)=Ã/\T7 (l.map ŭ)<=0:=fun l=>by
  induction l with
  |nil=>exact⟨rfl,zP _⟩
  |cons x l c=>exact⟨by simp only[zO,Q6,c.1,y!];rfl,by simp only[zO,T7,v?];lia⟩
 obtain⟨a,b⟩:=this (rT n hs);have ok:e! (.list ((rT n hs).map ŭ))=Ã:=by simp only[e!,a]
 show(rC st _ _).map (!·)=_;unfold rC;rw[e,Â,Â,yJ (by unfold DD.pyOk;rw[ok,yX (by simp only[v?];lia)];rfl),SeqAt.eqv_refl _ ok];rfl
theorem NV{α:Type}{gs:List α}(h:gs.length<=3):cJ .In st (.bl Ä) (.fz (gs.map fun _=>AV.bl Ã))=À Ä:=by
 match gs,h with
 |[],_=>kernel_rfl
 |[_],_=>kernel_rfl
 |[_,_],_=>kernel_rfl
 |[_,_,_],_=>kernel_rfl
theorem KU:aP .Pow st (.int 10) (.int 15)=À (.int 1000000000000000):=by kernel_rfl
end
section
variable{st:aa}{n M:Nat}{L T ns:List Int}{hs:List (List Nat)}{gv:List Gv}
abbrev KS:List Fn:=[eZ,eJ,fU,aE,eY,d9,cD,eV,fR,fQ,fT]
theorem Kt{sl:Sl}{ks:List Fn}(d:ns.length<=63)(h:ev ks (.v 0) sl st=À (.fz (iL ns),st)):∃N,d6 ks (.r3 (.i 0) (.bi .max (.cons (.i 3) (.cons (.bi .min (.cons (.i 12) (.cons (.bin .Sub (.bi .len (.cons (.v 0) .nil)) (.i 2)) .nil))) .nil))) (.i 3)) sl st=À (⟨(È N).map fun q:Nat=>AV.int ((3*q:Nat):Int),[]⟩,st):=by
 obtain⟨j,a⟩:∃j:Int,j=(if(if((ns.length:Nat):Int)-2<12 then((ns.length:Nat):Int)-2 else 12) > 3 then(if((ns.length:Nat):Int)-2<12 then((ns.length:Nat):Int)-2 else 12) else 3):=⟨_,rfl⟩;have b:∃q:Nat,q<=12/\j=(q:Int):=⟨j.toNat,by rw[a];split<;>split<;>lia,by rw[a];split<;>split<;>lia⟩;have e:ev ks (.bi .max (.cons (.i 3) (.cons (.bi .min (.cons (.i 12) (.cons (.bin .Sub (.bi .len (.cons (.v 0) .nil)) (.i 2)) .nil))) .nil))) sl st=À (.int j,st):=by
  simp only[kT,aq,aD,aG,aQ,h,Â,mF,Lj,nj,Æ,AS,JR];rw[a];rfl
 obtain⟨q,c,rfl⟩:=b;refine⟨iF 0 (q:Int) 3,?_⟩;rw[NW];unfold Dx;rw[aQ,Â];dsimp only;rw[e,Â];dsimp only;rw[aQ,Â];dsimp only;have ok:oW 0 (q:Int) 3=Ã:=by
  have:∀q:Nat,q<=12->oW 0 (q:Int) 3=Ã:=by decide
  exact this q c
 rw[yJ ok];have:ox 0 (q:Int) 3=(È (iF 0 (q:Int) 3)).map fun q:Nat=>AV.int ((3*q:Nat):Int):=by
  unfold ox;refine ķ fun i _=>?_
  rw[show(0:Int)+(i:Int)*3=((3*i:Nat):Int) by lia]
 rw[this]
def O3(ns:List Int)(sl:Sl):Prop:=∃n m l k j i h g f e d c b a,sl=[Ls ns,n,m,l,k,j,i,h,g,f,e,d,c,b,a]
theorem Lk(hns:ns.length<=63):∃st,p9 [.fz (iL ns)] []=À (.bl Ã,st):=by
 have key:∃r,p9 [.fz (iL ns)] []=À r/\r.1=.bl Ã:=by
  rw[p9,ay];show ∃r,(ae KS sM [Ls ns,Á,Á,Á,Á,Á,Á,Á,Á,Á,Á,Á,Á,Á,Á] []).bind au=À r/\_;unfold sM;obtain⟨N,hN⟩:=Kt (ks:=KS) (st:=[]) (sl:=[Ls ns,Á,Á,Á,Á,Á,Á,Á,Á,Á,Á,Á,Á,Á,Á]) hns rfl;refine kx (em:=fun q:Nat=>AV.int ((3*q:Nat):Int)) (xs:=È N) (gd:=[]) (st0:=[]) (fun i sl s=>∃y1 y2 y3 T R P O J E A y w u o,sl=[Ls ns,y1,y2,y3,T,R,P,O,J,E,A,y,w,u,o]) hN (fun _ _ _ _=>rfl) ⟨_,_,_,_,_,_,_,_,_,_,_,_,_,_,rfl⟩ ?_ fun sl' st' _=>cK (v:=.bl Ã) (st':=st') rfl rfl
  rintro i q sl s _ ⟨y1,y2,y3,T,R,P,O,J,E,A,y,w,u,o,rfl⟩;obtain⟨k,hk⟩:∃k,k=3*q:=⟨_,rfl⟩;obtain⟨V,h0,h03⟩:∃V:Nat,(1:Int)+gI ns k%3=(V:Int)/\(V=1\/V=2\/V=3):=by
   have h1:=W9 (gI ns k) (show (3:Int) ≠ 0 by decide);have h2:=U' (gI ns k) (show (0:Int) < 3 by decide);exact ⟨(1 + gI ns k % 3).toNat,by lia,by lia⟩
  obtain⟨n,X⟩:∃n:Nat,n=if gI ns k/3%16=5 then 4 else V:=⟨_,rfl⟩
  have I:gw n:=by unfold gw;rw[X];split<;>lia
  obtain⟨M,j,e4,hM,hl,hr⟩:=Ji (st:=s) (c:=gI ns k/48) (n:=n) (most:=9) (by unfold gw at I;lia) dC;have S:HK M j:=⟨by lia,by unfold gw at I;lia,hr⟩;have e4:pm eJ [.int (gI ns k/48),.int n,.int 9] s=À (aS M j,s):=e4;obtain⟨D,e7,lD,_⟩:=qE (st:=s) (c:=gI ns (k+1)/4) (many:=3) (base:=1000000000000000) dC dC dC;have e7:pm aE [.int (gI ns (k+1)/4),.int 3,.int 1000000000000000] s=À (.fz (nL D),s):=e7;obtain⟨G,hG⟩:=Classical.axiomOfChoice fun q:Nat=>FY I S (q:Int)
  obtain⟨m,hm,m3⟩:∃m:Nat,gI ns (k+1)%4=(m:Int)/\m<=3:=by
   obtain⟨r,h1,h2⟩:=kA (a:=gI ns (k+1)) (b:=4) dC;exact⟨r,h1,by lia⟩
  obtain⟨gv,Y⟩:∃gv,gv=(D.take m).map G:=⟨_,rfl⟩;have lg:gv.length<=3:=by rw[Y,zH,ĕ];lia
  have hg:∀g∈gv,(g.row.length=2^n-1/\(∀x∈g.row,x.natAbs<=M0)/\g.num.natAbs<=M0)/\Hd (2^n-1) g (gI (rT n j)) 1:=fun g h=>by
   rw[Y]at h;obtain⟨q,_,rfl⟩:=yE.mp h;exact(hG q).2
  have K:=Ln I fun g h=>(hg g h).2
  obtain⟨L,eA,lL,bL⟩:=Af (st:=s) I (c:=gI ns (k+2)/16);have bM:∀x∈L,x.natAbs<=M0:=fun x hx=>pi (by have:=bL x hx;lia)
  have eB:=qj (st:=s) I S lL bM;have vb:=td I S lL bL;obtain⟨v,hv⟩:∃v,v=val (2^n-1) L (gI (rT n j)):=⟨_,rfl⟩;rw[<- hv]at eB vb;obtain⟨e,he⟩:∃e:Bool,aZ s (.fz [.str ">",.str "="]) (.int (gI ns (k+2)%2))=À (.str (if e=Ã then "=" else ">")):=by
   rcases (show gI ns (k + 2) % 2=0\/gI ns (k + 2) % 2=1 by lia) with h | h
   ·exact⟨Ä,by rw[h];rfl⟩
   ·exact⟨Ã,by rw[h];rfl⟩
  obtain⟨d,hd,d2⟩:∃d:Int,aZ s (.fz [.int 0,.int 0,.int 1,.int (-1),.int 0,.int 2,.int 0,.int (-2)]) (.int (gI ns (k+2)/2%8))=À (.int d)/\d.natAbs<=2:=by
   obtain⟨x,hx,h⟩:=Mb (st:=s) (l:=[.int 0,.int 0,.int 1,.int (-1),.int 0,.int 2,.int 0,.int (-2)]) (i:=gI ns (k+2)/2%8) oM (by show _<(8:Int);lia);rw[h];simp only[zT,zX,or_false]at hx;rcases hx with rfl|rfl|rfl|rfl|rfl|rfl|rfl|rfl<;>exact⟨_,rfl,by decide⟩
  obtain⟨z,hz⟩:∃z:Gv,z=⟨L,e,v+d⟩:=⟨_,rfl⟩;have z1:z.row=L:=by rw[hz]
  have z2:z.num=v+d:=by rw[hz]
  have bz:z.row.length=2^n-1/\(∀x∈z.row,x.natAbs<=M0)/\z.num.natAbs<=M0:=by rw[z1,z2];exact⟨lL,bM,pi oM⟩
  have zv:AV.tup [.fz (iL L),.str (if e=Ã then "=" else ">"),.int (v+d)]=z.av:=by rw[hz];rfl
  obtain⟨t,eD,FD⟩:=N4 (gv:=gv) (z:=z) I oM (fun g h=>(hg g h).1) bz;obtain⟨f,eE,FE⟩:=AW (Mu (gv:=gv) (goal:=L) I oM (fun g h=>(hg g h).1) ⟨lL,bM⟩);obtain⟨b,ht,hb1,hb2⟩:=N3 FD K;obtain⟨kb,ek,hkb⟩:=v8 I S bz.1 bz.2.1;have FE:=Md FE K;rw[<- hv]at FE;rw[z1,z2]at hb2;have c0:=u0 (st:=s) (ns:=ns) (k:=k);have c1:=u0 (st:=s) (ns:=ns) (k:=k+1);have c2:=u0 (st:=s) (ns:=ns) (k:=k+2);have k1:(k:Int)+1=((k+1:Nat):Int):=by lia
  have k2:(k:Int)+2=((k+2:Nat):Int):=by lia
  have q1:aP .Mod s (.int (gI ns k)) (.int 3)=À (.int (gI ns k%3)):=tX dC;have q2:aP .FloorDiv s (.int (gI ns k)) (.int 3)=À (.int (gI ns k/3)):=rq dC dC;have q3:aP .Mod s (.int (gI ns k/3)) (.int 16)=À (.int (gI ns k/3%16)):=tX dC;have q4:aP .FloorDiv s (.int (gI ns k)) (.int 48)=À (.int (gI ns k/48)):=rq dC dC;have q5:aP .FloorDiv s (.int (gI ns (k+1))) (.int 4)=À (.int (gI ns (k+1)/4)):=rq dC dC;have q6:aP .Mod s (.int (gI ns (k+1))) (.int 4)=À (.int (m:Int)):=by rw[<- hm];exact tX dC
  have q7:aP .FloorDiv s (.int (gI ns (k+2))) (.int 16)=À (.int (gI ns (k+2)/16)):=rq dC dC;have q8:aP .Mod s (.int (gI ns (k+2))) (.int 2)=À (.int (gI ns (k+2)%2)):=tX dC;have q9:aP .FloorDiv s (.int (gI ns (k+2))) (.int 2)=À (.int (gI ns (k+2)/2)):=rq dC dC;have qa:aP .Mod s (.int (gI ns (k+2)/2)) (.int 8)=À (.int (gI ns (k+2)/2%8)):=tX dC;have e5:=Lg (st:=s) I S hl;have ec:=JH (st:=s) I S hl
  suffices H:∃r,ae KS (.cons (.as (.ca Ã 0 (.cons (.v 0) (.cons (.v 1) .nil))) (.nm 2)) _) [Ls ns,Is (k:Int),y2,y3,T,R,P,O,J,E,A,y,w,u,o] s=À r/\∃Q U,r=.nx Q U/\O3 ns Q by
   obtain⟨r,er,Q,U,rfl,h⟩:=H;exact⟨([Ls ns,Is (k:Int),y2,y3,T,R,P,O,J,E,A,y,w,u,o],s),Q,U,by rw[hk];rfl,er,h⟩
  refine bh (sl':=[Ls ns,Is (k:Int),Is (gI ns k),y3,T,R,P,O,J,E,A,y,w,u,o]) (st':=s) (by
   simp only[bH,cm,aq,aD,aG,aI,aQ,ar,aw,Â,Æ,bG,cp,cU,dw,c0];rfl) ?_
  refine bh (sl':=[Ls ns,Is (k:Int),Is (gI ns k),Is (V:Int),T,R,P,O,J,E,A,y,w,u,o]) (st':=s) (by
   simp only[bH,cm,aq,aD,aG,aI,aQ,ar,aw,Â,Æ,bG,cp,cU,dw,q1,h0];rfl) ?_
  refine bh (sl':=[Ls ns,Is (k:Int),Is (gI ns k),Is (n:Int),T,R,P,O,J,E,A,y,w,u,o]) (st':=s) (by
   rw[cG];simp only[cA,aG,aI,aQ,ar,aw,Â,Æ,q2,q3,lm];by_cases h:gI ns k/3%16=5
   ·rw[yJ (by rw[h];rfl),X,yJ h];rfl
   ·rw[yI (by rw[yD];exact h),X,yI h];rfl) ?_
  refine bh (sl':=[Ls ns,Is (k:Int),Is (gI ns k),Is (n:Int),À (aS M j),R,P,O,J,E,A,y,w,u,o]) (st':=s) (by
   simp only[bH,cm,aq,aD,aG,aI,aQ,ar,aw,Â,Æ,bG,cp,cU,dw,q4,e4];rfl) ?_
  refine bh (sl':=[Ls ns,Is (k:Int),Is (gI ns k),Is (n:Int),À (aS M j),Ls (rT n j),P,O,J,E,A,y,w,u,o]) (st':=s) (by
   simp only[bH,cm,aq,aD,aG,aI,aQ,ar,aw,Â,Æ,bG,cp,cU,dw,e5];rfl) ?_
  refine bh (sl':=[Ls ns,Is (k:Int),Is (gI ns k),Is (n:Int),À (aS M j),Ls (rT n j),Is (gI ns (k+1)),O,J,E,A,y,w,u,o]) (st':=s) (by
   simp only[bH,cm,aq,aD,aG,aI,aQ,ar,aw,Â,Æ,bG,cp,cU,dw,k1,c1];rfl) ?_
  refine bh (sl':=[Ls ns,Is (k:Int),Is (gI ns k),Is (n:Int),À (aS M j),Ls (rT n j),Is (gI ns (k+1)),Zs (nL D),J,E,A,y,w,u,o]) (st':=s) (by
   simp only[bH,cm,aq,aD,aG,aI,aQ,ar,aw,Â,Æ,bG,cp,cU,dw,q5,KU,e7];rfl) ?_
  have l8:=g8 (st:=s) (ks:=KS) (k:=1) (it:=.e (.nw Ä (.sl (.v 7) .no (.so (.bin .Mod (.v 6) (.i 4)))))) (t:=.nm 15) (c:=.no) (e:=.ca Ã 4 (.cons (.v 15) (.cons (.v 3) (.cons (.v 5) .nil)))) (sl:=[Ls ns,Is (k:Int),Is (gI ns k),Is (n:Int),À (aS M j),Ls (rT n j),Is (gI ns (k+1)),Zs (nL D),J,E,A,y,w,u,o]) (gd:=[]) (em:=fun q:Nat=>AV.int (q:Int)) (xs:=D.take m) (B:=fun _=>Ã) (F:=fun q=>(G q).av) (by
   have ct:cut (nL D) Á (À (m:Int))=nL (D.take m):=by
    unfold cut;rw [HT.sIx_none,HT.sIx_nat,Ś,M!,g6,ð (show m <= D.length by lia)];unfold nL;rw [Ϝ]
   rw[Dw,dO,xc];unfold nE;simp only[aI,ar,aw,Â,NI,Ce,o6,aG,aQ,q6,Æ,dR,ct];rw[yJ pb,Â,At];rfl) rfl (by rw[ĕ];lia) fun q _=>by
    have e:=(hG q).1 s;exact⟨[Ls ns,Is (k:Int),Is (gI ns k),Is (n:Int),À (aS M j),Ls (rT n j),Is (gI ns (k+1)),Zs (nL D),J,E,A,y,w,u,o]++[Is (q:Int)],rfl,rfl,fun _=>by
     simp only[ė,Ĥ,cm,aq,aD,aI,ar,aw,Â,Æ,bG,cp,cU,e]⟩
  rw[Ø.mpr (fun _ _=>rfl),show(D.take m).map (fun q=>(G q).av)=gv.map Gv.av by rw[Y,Ù];rfl]at l8;refine bh (sl':=[Ls ns,Is (k:Int),Is (gI ns k),Is (n:Int),À (aS M j),Ls (rT n j),Is (gI ns (k+1)),Zs (nL D),Zs (gv.map Gv.av),E,A,y,w,u,o]) (st':=s) (by rw[bH,dO,l8,Â,yJ (xK _)];rfl) ?_;refine bh (sl':=[Ls ns,Is (k:Int),Is (gI ns k),Is (n:Int),À (aS M j),Ls (rT n j),Is (gI ns (k+1)),Zs (nL D),Zs (gv.map Gv.av),Is (gI ns (k+2)),A,y,w,u,o]) (st':=s) (by
   simp only[bH,cm,aq,aD,aG,aI,aQ,ar,aw,Â,Æ,bG,cp,cU,dw,k2,c2];rfl) ?_
  refine bh (sl':=[Ls ns,Is (k:Int),Is (gI ns k),Is (n:Int),À (aS M j),Ls (rT n j),Is (gI ns (k+1)),Zs (nL D),Zs (gv.map Gv.av),Is (gI ns (k+2)),Ls L,y,w,u,o]) (st':=s) (by
   simp only[bH,cm,aq,aD,aG,aI,aQ,ar,aw,Â,Æ,bG,cp,cU,dw,q7,eA];rfl) ?_
  refine bh (sl':=[Ls ns,Is (k:Int),Is (gI ns k),Is (n:Int),À (aS M j),Ls (rT n j),Is (gI ns (k+1)),Zs (nL D),Zs (gv.map Gv.av),Is (gI ns (k+2)),Ls L,Is v,w,u,o]) (st':=s) (by
   simp only[bH,cm,aq,aD,aG,aI,aQ,ar,aw,Â,Æ,bG,cp,cU,dw,eB];rfl) ?_
  refine bh (sl':=[Ls ns,Is (k:Int),Is (gI ns k),Is (n:Int),À (aS M j),Ls (rT n j),Is (gI ns (k+1)),Zs (nL D),Zs (gv.map Gv.av),Is (gI ns (k+2)),Ls L,Is v,À z.av,u,o]) (st':=s) (by
   have w1:ev KS (.nw Ä (.li (.cons (.s ">") (.cons (.s "=") .nil)))) [Ls ns,Is (k:Int),Is (gI ns k),Is (n:Int),À (aS M j),Ls (rT n j),Is (gI ns (k+1)),Zs (nL D),Zs (gv.map Gv.av),Is (gI ns (k+2)),Ls L,Is v,w,u,o] s=À (.fz [.str ">",.str "="],s):=rfl;have w2:ev KS (.nw Ä (.li (.cons (.i 0) (.cons (.i 0) (.cons (.i 1) (.cons (.un .USub (.i 1)) (.cons (.i 0) (.cons (.i 2) (.cons (.i 0) (.cons (.un .USub (.i 2)) .nil)))))))))) [Ls ns,Is (k:Int),Is (gI ns k),Is (n:Int),À (aS M j),Ls (rT n j),Is (gI ns (k+1)),Zs (nL D),Zs (gv.map Gv.av),Is (gI ns (k+2)),Ls L,Is v,w,u,o] s=À (.fz [.int 0,.int 0,.int 1,.int (-1),.int 0,.int 2,.int 0,.int (-2)],s):=rfl;rw[bH,wG];simp only[aq,aD,dj,w1,w2,aG,aI,aQ,ar,aw,Â,Æ,q8,q9,qa,he,hd,dw];rw[yJ (show Þ _ 1000=Ã from rfl),zv];rfl) ?_
  refine bh (sl':=[Ls ns,Is (k:Int),Is (gI ns k),Is (n:Int),À (aS M j),Ls (rT n j),Is (gI ns (k+1)),Zs (nL D),Zs (gv.map Gv.av),Is (gI ns (k+2)),Ls L,Is v,À z.av,u,o]) (st':=s) (by
   have l3:=g8 (st:=s) (ks:=KS) (k:=1) (it:=.e (.v 8)) (t:=.nm 15) (c:=.no) (e:=.ca Ã 7 (.cons (.v 15) (.cons (.v 5) .nil))) (sl:=[Ls ns,Is (k:Int),Is (gI ns k),Is (n:Int),À (aS M j),Ls (rT n j),Is (gI ns (k+1)),Zs (nL D),Zs (gv.map Gv.av),Is (gI ns (k+2)),Ls L,Is v,À z.av,u,o]) (gd:=[]) (em:=Gv.av) (xs:=gv) (B:=fun _=>Ã) (F:=fun _=>AV.bl Ã) rfl rfl oM fun g h=>by
    obtain⟨a,ea,ha⟩:=v8 I S (hg g h).1.1 (hg g h).1.2.1;have ea:=ea s;rw[ha.mpr (hg g h).2]at ea;exact⟨[Ls ns,Is (k:Int),Is (gI ns k),Is (n:Int),À (aS M j),Ls (rT n j),Is (gI ns (k+1)),Zs (nL D),Zs (gv.map Gv.av),Is (gI ns (k+2)),Ls L,Is v,À z.av,u,o]++[À g.av],rfl,rfl,fun _=>by
     simp only[ė,Ĥ,cm,aq,aD,aI,ar,aw,Â,Æ,bG,cp,cU,ea]⟩
   rw[Ø.mpr (fun _ _=>rfl)]at l3;have w1:ev KS (.nw Ä (.lc 1 (.e (.v 8)) (.nm 15) .no (.ca Ã 7 (.cons (.v 15) (.cons (.v 5) .nil))))) [Ls ns,Is (k:Int),Is (gI ns k),Is (n:Int),À (aS M j),Ls (rT n j),Is (gI ns (k+1)),Zs (nL D),Zs (gv.map Gv.av),Is (gI ns (k+2)),Ls L,Is v,À z.av,u,o] s=À (.fz (gv.map fun _=>AV.bl Ã),s):=by
    rw[dO,l3,Â,yJ (fV fun x hx=>by obtain⟨i,_,rfl⟩:=yE.mp hx;rfl)]
   have n1:=K9 (st:=s) S I;have n2:=NV (st:=s) lg;rw[cG];simp only[Ng,cA,w1,Oo,cm,aq,aD,aI,ar,aw,Â,Æ,bG,cp,cU,ec,n1,n2,yC,ite_false];rfl) ?_
  have eD:=eD s;have eE:=eE s;have ek:=ek s;have ht:=ht s;refine bh (sl':=[Ls ns,Is (k:Int),Is (gI ns k),Is (n:Int),À (aS M j),Ls (rT n j),Is (gI ns (k+1)),Zs (nL D),Zs (gv.map Gv.av),Is (gI ns (k+2)),Ls L,Is v,À z.av,À t,o]) (st':=s) (by
   simp only[bH,cm,aq,aD,aG,aI,aQ,ar,aw,Â,Æ,bG,cp,cU,dw,eD];rfl) ?_
  refine bh (sl':=[Ls ns,Is (k:Int),Is (gI ns k),Is (n:Int),À (aS M j),Ls (rT n j),Is (gI ns (k+1)),Zs (nL D),Zs (gv.map Gv.av),Is (gI ns (k+2)),Ls L,Is v,À z.av,À t,o]) (st':=s) (by
   have hk1:b=Ã->kb=Ã:=fun h=>hkb.mpr (hb1 h)
   rw[cG];simp only[tf,Nf,Nh,dj,cm,aq,aD,aI,aQ,ar,aw,Â,Æ,bG,cp,cU,ht,sZ,ek];cases b with
   |false=>rfl
   |true=>rw[hk1 rfl];rfl) ?_
  refine bh (sl':=[Ls ns,Is (k:Int),Is (gI ns k),Is (n:Int),À (aS M j),Ls (rT n j),Is (gI ns (k+1)),Zs (nL D),Zs (gv.map Gv.av),Is (gI ns (k+2)),Ls L,Is v,À z.av,À t,À f]) (st':=s) (by
   simp only[bH,cm,aq,aD,aG,aI,aQ,ar,aw,Â,Æ,bG,cp,cU,dw,eE];rfl) ?_
  have b9:v.natAbs<2^9000:=Dg (k:=32768) oM dC;rcases FE with⟨x1,Z,rfl⟩|⟨p,C,x1,Z,x3,rfl,bq,h1,h2⟩
  ·have W:aZ s (.tup [.str "endless",x1,Z]) (.int 0)=À (.str "endless"):=rfl
   have s1:cJ .Eq s (.str "endless") (.str "never")=À Ä:=by kernel_rfl
   have s2:cJ .Eq s (.str "endless") (.str "least")=À Ä:=by kernel_rfl
   generalize AV.tup [.str "endless",x1,Z]=f at *;refine bh (sl':=[Ls ns,Is (k:Int),Is (gI ns k),Is (n:Int),À (aS M j),Ls (rT n j),Is (gI ns (k+1)),Zs (nL D),Zs (gv.map Gv.av),Is (gI ns (k+2)),Ls L,Is v,À z.av,À t,À f]) (st':=s) (by
    rw[cG];simp only[cA,dj,aI,aQ,lN,ar,aw,Â,Æ,W,s1];rfl) ?_
   refine bh (sl':=[Ls ns,Is (k:Int),Is (gI ns k),Is (n:Int),À (aS M j),Ls (rT n j),Is (gI ns (k+1)),Zs (nL D),Zs (gv.map Gv.av),Is (gI ns (k+2)),Ls L,Is v,À z.av,À t,À f]) (st':=s) (by
    rw[cG];simp only[tf,cA,dj,aI,aQ,lN,ar,aw,Â,Æ,W,s2];rfl) ?_
   exact⟨_,aj (sl':=[Ls ns,Is (k:Int),Is (gI ns k),Is (n:Int),À (aS M j),Ls (rT n j),Is (gI ns (k+1)),Zs (nL D),Zs (gv.map Gv.av),Is (gI ns (k+2)),Ls L,Is v,À z.av,À t,À f]) (st':=s) (by
    rw[cG];simp only[tf,cA,dj,aI,aQ,lN,ar,aw,Â,Æ,W,s2];rfl) rfl,_,_,rfl,_,_,_,_,_,_,_,_,_,_,_,_,_,_,rfl⟩
  ·have W:aZ s (.tup [.str "least",.tup [.int p,.int C],x1,Z,x3]) (.int 0)=À (.str "least"):=rfl
   have j1:aZ s (.tup [.str "least",.tup [.int p,.int C],x1,Z,x3]) (.int 1)=À (.tup [.int p,.int C]):=rfl;have i0:aZ s (.tup [.int p,.int C]) (.int 0)=À (.int p):=rfl;have i1:aZ s (.tup [.int p,.int C]) (.int 1)=À (.int C):=rfl;have s1:cJ .Eq s (.str "least") (.str "never")=À Ä:=by kernel_rfl
   have s2:cJ .Eq s (.str "least") (.str "least")=À Ã:=by kernel_rfl
   have m1:aP .Mult s (.int v) (.int C)=À (.int (v*C)):=bW (c6 b9 bq);have m2:aP .Mult s (.int (v+d)) (.int C)=À (.int ((v+d)*C)):=bW (c6 (Dg (k:=40000) oM dC) bq);have g1:aZ s z.av (.int 1)=À (.str (if e=Ã then "=" else ">")):=by rw[hz];rfl
   have g2:aZ s z.av (.int 2)=À (.int (v+d)):=by rw[hz];rfl
   have hze:z.eq=e:=by rw[hz]
   generalize z.av=zz at *;generalize AV.tup [.str "least",.tup [.int p,.int C],x1,Z,x3]=f at *;generalize AV.tup [.int p,.int C]=pq at *;refine bh (sl':=[Ls ns,Is (k:Int),Is (gI ns k),Is (n:Int),À (aS M j),Ls (rT n j),Is (gI ns (k+1)),Zs (nL D),Zs (gv.map Gv.av),Is (gI ns (k+2)),Ls L,Is v,À zz,À t,À f]) (st':=s) (by
    rw[cG];simp only[cA,dj,aI,aQ,lN,ar,aw,Â,Æ,W,s1];rfl) ?_
   refine bh (sl':=[Ls ns,Is (k:Int),Is (gI ns k),Is (n:Int),À (aS M j),Ls (rT n j),Is (gI ns (k+1)),Zs (nL D),Zs (gv.map Gv.av),Is (gI ns (k+2)),Ls L,Is v,À zz,À t,À f]) (st':=s) (by
    have c3:decide (v*C<p)=Ä:=yB (Int.not_lt.mpr h1);rw[cG];simp only[tf,cA,dj,aG,aI,aQ,lN,ar,aw,Â,Æ,W,s2,j1,i0,i1,m1,ite_true,vc,c3];rfl) ?_
   refine⟨_,aj (sl':=[Ls ns,Is (k:Int),Is (gI ns k),Is (n:Int),À (aS M j),Ls (rT n j),Is (gI ns (k+1)),Zs (nL D),Zs (gv.map Gv.av),Is (gI ns (k+2)),Ls L,Is v,À zz,À t,À f]) (st':=s) (by
    rw[cG];simp only[tf,cA,dj,aG,wH,aI,aQ,lN,ar,aw,Â,Æ,W,s2,ite_true,g1];cases e with
    |true =>
     have s3:cJ .Eq s (.str "=") (.str ">")=À Ä:=by kernel_rfl
     simp only[ite_true,s3,Æ,Â];rfl
    |false =>
     have s3:cJ .Eq s (.str ">") (.str ">")=À Ã:=by kernel_rfl
     have hb:b=decide ((v+d)*C<=p):=by
      have:=(hb2 hze).trans (h2 (v+d))
      rw[W0,yD];exact this
     have nb:cJ .NotEq s (.bl b) (.bl (decide ((v+d)*C<=p)))=À Ä:=by rw[hb];cases decide ((v+d)*C<=p)<;>rfl
     simp only[yC,ite_false,s3,Æ,Â,ite_true,ht,g2,j1,i0,i1,m2,JJ,Oa,nb];rfl) rfl,_,_,rfl,_,_,_,_,_,_,_,_,_,_,_,_,_,_,rfl⟩
 obtain⟨⟨v,s⟩,e,h⟩:=key;have h:v=.bl Ã:=h;subst h;exact⟨s,e⟩
theorem NA:Room e_law.d Ϗ:=⟨rfl,by decide,by decide,rfl⟩
theorem Es:∀t∈(Qc.tb:List (Ç×Pos×Str)),t.1∈([(119,117)]:List (Ç×Addr)).map (·.2):=by
 intro t a;have:t=(117,⟨81,30,81,63⟩,("Sheet.raising_column":Í)++".<locals>."++"<lambda>"):=zM.mp a;rw[this];exact zM.mpr rfl
theorem holds:∀ns:List Int,ns.length<=63->∃st,MK [.fz (ns.map .int)] []=À (.bl Ã,st):=fun _ h=>Lk h
end
end LW
namespace PySem.W.Fast
def tw901719273274066761:=()
def tw8665098196759847945:=()
def tw7613723593977556945:=()
def tw7393667854210286544:=()
def tw7281010500896643022:=()
def tw5558729302585813972:=()
def tw5485288805375308094:=()
def tw5245970380254317115:=()
def tw5101397997874234827:=()
def tw4887309739270229847:=()
def tw4630834728584733364:=()
def tw451405073998889279:=()
def tw4474778526542254676:=()
def tw4443099337179875482:=()
def tw4407613542399243146:=()
def tw405228531920130078:=()
def tw3979769794061104098:=()
def tw3463211721998856825:=()
def tw2364141602607927034:=()
def tw18163039270484564650:=()
def tw17784634697678874210:=()
def tw16470604195220108145:=()
def tw16318071426331564957:=()
def tw16116688726714983310:=()
def tw1589355105525791229:=()
def tw15874491177844584280:=()
def tw1583499105434893988:=()
def tw15636108470290280939:=()
def tw15359643265708726914:=()
def tw14417109036837862382:=()
def tw14265306192825386751:=()
def tw1396178251719361881:=()
def tw13328146804016331425:=()
def tw13262727770265679286:=()
def tw13202430732451827136:=()
def tw13159255463514183608:=()
def tw12985127467905095032:=()
def tw12764033417144640173:=()
def tw12380587994710965163:=()
def tw11809761678710270316:=()
def tw11290407421969326191:=()
def tw11185378834530639045:=()
def tw1101593449643567819:=()
def tw10737213931554534438:=()
def tw2776529512545442647:=()
def tw14220160334617204973:=()
def tw11718857534718165648:=()
def tw8357994306977672327:=()
def tw5569901621647775217:=()
def tw2248454443437339185:=()
def tw13981928844403851794:=()
def tw13857047052299227700:=()
def tw2949867081299406331:=()
def tw1431177110017608545:=()
def tw16980382931213636981:=()
def tw16835490287687636363:=()
def tw10789816862646649292:=()
def tw13359886030418079796:=()
def tw11064531268599775824:=()
def tw15491228114171093563:=()
def tw4682130447320211321:=()
def tw3252072140689766867:=()
def tw4923169890380537985:=()
def tw11708633835408254296:=()
def tw17464808870677224976:=()
def tw16112603294049401996:=()
def tw16698440573495325680:=()
def tw7726705286564395749:=()
def tw6585576138001039405:=()
def tw15764023926403852636:=()
def tw11601120633194894858:=()
def tw4770383797896719838:=()
def tw18311576410316463383:=()
def tw9168350944742368263:=()
def tw2427954062343550069:=()
def tw7073391815506259017:=()
def tw11802128760526072527:=()
def tw15484715384584088816:=()
def tw17576722287526879008:=()
def tw3846630105420592651:=()
def tw1772782417235451004:=()
def tw189599754042805682:=()
def tw17259506331925259736:=()
def tw1734604046815049138:=()
def tw17401676195790175316:=()
def tw14640068461959860336:=()
def tw5197079847014453855:=()
def tw4529596665506721464:=()
def tw3548401342640248951:=()
def tw2812050329670964668:=()
def tw11636701507551554203:=()
def tw8709524598666064821:=()
def tw3221796437408933421:=()
def tw1676502783090674181:=()
def tw7765499012296152636:=()
def tw3233112009731773153:=()
def tw12233420066592824641:=()
def tw6356939701513070263:=()
def tw6822930522638670976:=()
def tw3385783541696232001:=()
def tw2208521544943925656:=()
def tw7907076367633388266:=()
def tw2682805232978552745:=()
def tw3225429177834365793:=()
def tw9148149452762194421:=()
def tw14737537023374337729:=()
def tw18297919704003276781:=()
def tw9218330260455889640:=()
def tw13609069731745467138:=()
def tw4782182164195587494:=()
def tw118089562364812752:=()
def tw2252526012164875952:=()
def tw13871715723646570873:=()
def tw10770887188958289250:=()
def tw6922695226269577460:=()
def tw8539226200241881108:=()
def tw12658520525660216347:=()
def tw9264618401127261272:=()
def tw2936970668069441020:=()
def tw2399124115121045870:=()
def tw15371714643571108042:=()
def tw13573418658560588789:=()
def tw6136453817255097117:=()
def tw1389374760350601794:=()
def tw10002525140664000512:=()
def tw16505152398369460770:=()
def tw12603565691087336847:=()
def tw14264183616573558636:=()
def tw8915901481447447641:=()
def tw3278036785566778133:=()
def tw16965784572633449099:=()
def tw15640915604220623487:=()
def tw1605243583175436744:=()
def tw16613532005083967369:=()
def tw3638454376506430080:=()
def tw17451342400326247003:=()
def tw4465080005744652707:=()
def tw10077649854429105601:=()
def tw3326364912673193978:=()
def tw18079907528686529991:=()
def tw4749319556344607008:=()
def tw7286103144222068908:=()
def tw13337225700848178532:=()
def tw9613714054688331822:=()
def tw5450673846712114133:=()
def tw7079796297968551191:=()
def tw10001930596429848082:=()
def tw602223012479949467:=()
def tw1687925248212531022:=()
def tw8579001562718326162:=()
def tw18070743711701515803:=()
def tw2160543928461810985:=()
def tw10977277331413944323:=()
def tw1113320241765784913:=()
def tw16699040023632927658:=()
def tw10243247521026685708:=()
def tw1780039087871102461:=()
def tw1979014702850534957:=()
def tw12642167025702563315:=()
def tw11087189552084253000:=()
def tw3614335146144090263:=()
def tw13628613262001811683:=()
def tw7225195598048178865:=()
def tw7720169868433478576:=()
def tw13201724536953941742:=()
def tw8465373426210992634:=()
def tw10058790253957145594:=()
def tw11043963904280014358:=()
def tw7617642615025448213:=()
def tw11451382695015990783:=()
def tw9251129133016978755:=()
def tw3877993828865203065:=()
def tw7244652929746491638:=()
def tw427783301765095213:=()
def tw12571323645526181230:=()
def tw3643113554586304768:=()
def tw16555191935387370973:=()
def tw18018295744018231316:=()
def tw11689130859084293146:=()
def tw11725037578673715478:=()
def tw17132322807940471108:=()
def tw11139880023691967443:=()
def tw2702986865433002953:=()
def tw2524399655504676202:=()
def tw15989593163323384665:=()
def tw11495239065785131188:=()
def tw15251089599584797231:=()
def tw9394640975526581137:=()
def tw1453110493758026000:=()
def tw6864101548818411226:=()
def tw17626453429801343865:=()
def tw5865020529776805665:=()
def tw7158337835609287440:=()
def tw12097211140462959719:=()
def tw3413900604705235691:=()
def tw16867407044126686149:=()
def tw12662697235214329623:=()
def tw914001494942880128:=()
def tw5822491417335769590:=()
def tw12343512900834824559:=()
def tw10750832258535045158:=()
def tw10305902206105984541:=()
def tw17655310674181356859:=()
def tw18224374479214445882:=()
def tw13563845720010044229:=()
def tw7694926118234245769:=()
def tw6153573460677612183:=()
def tw1920829633701839561:=()
def tw11963037171963847525:=()
def tw4344282519951613098:=()
def tw9756104745071556290:=()
def tw14906363729518980940:=()
def tw8584211997274845022:=()
def tw14264432264170704808:=()
def tw1273365651752557132:=()
def tw10090771355706999094:=()
def tw8762671723533228134:=()
def tw11325290079986406633:=()
def tw7183018348308680880:=()
def tw6250492981977861359:=()
def tw2622902261039385549:=()
def tw2428649123309138530:=()
def tw3081007063783132433:=()
def tw8234718668707691872:=()
def tw15705086946765400686:=()
def tw478702373031328843:=()
def tw17889851036818821941:=()
def tw12167609489119047307:=()
def tw9355642401671109628:=()
def tw4262974141738189353:=()
def tw588052836223580357:=()
def tw4322128879842546875:=()
def tw8852601447075801674:=()
def tw2913095331154644455:=()
def tw7807384386470904841:=()
def tw14921371668375794485:=()
def tw5845067387598394596:=()
def tw15701991181593984792:=()
def tw5844738256008801892:=()
def tw2838960021577432875:=()
def tw14805252973279444262:=()
def tw5275457130096285870:=()
def tw17956458647944277433:=()
def tw16148708670350809289:=()
def tw7883870947007696002:=()
def tw931009356883932452:=()
def tw4421268551227537882:=()
def tw17064826718435317911:=()
def tw15364562281175965791:=()
def tw13944893808846240864:=()
def tw1294725010349161132:=()
def tw12804730990786348583:=()
def tw12740674786499008540:=()
def tw3937448153867018438:=()
def tw1700517628744545004:=()
def tw12314868810220715045:=()
def tw15336537905774067640:=()
def tw3033783577879121153:=()
def tw15121410311199262767:=()
def tw13487524117043640262:=()
def tw16861268725126170628:=()
def tw16433111632343363132:=()
def tw6972494265280757908:=()
def tw3110998569261814162:=()
def tw15119929108844836065:=()
def tw12792689743605090442:=()
def tw15111449016375252683:=()
def tw12993850886966295489:=()
def tw13620621122238926655:=()
def tw15069267002935175311:=()
def tw6699952289670161939:=()
def tw599340997758823767:=()
def tw15805922274298484084:=()
def tw8812039580353811903:=()
def tw8731071689883071731:=()
def tw82765969644864440:=()
def tw6374344492904442623:=()
def tw6222096111376877630:=()
def tw4666809551485922058:=()
def tw17846838730159220140:=()
def tw17774089714086951532:=()
def tw17012192259105540741:=()
def tw15559631557490948736:=()
def tw1104002239775734314:=()
def tw16183815515748902044:=()
def tw5830405986379887260:=()
def tw12879891076860565820:=()
def tw9070395376058284542:=()
def tw1129472358018785184:=()
def tw2692058931050861683:=()
def tw9796115238293739165:=()
def tw8508381346186052121:=()
def tw6689945665802770626:=()
def tw15226574140348596608:=()
def tw11379977129750248320:=()
def tw897592453418008597:=()
def tw6226234657845377817:=()
def tw9153031358165718042:=()
def tw11304750474001801048:=()
def tw8887593777998049319:=()
def tw272080084054380941:=()
def tw2683574012774019551:=()
def tw16673996500529483959:=()
def tw9960923600748827472:=()
def tw9809170242486017941:=()
def tw9304110344685901236:=()
end PySem.W.Fast
open PySem PySem.W PyProof.Rows
set_option maxRecDepth 100000 in
set_option maxHeartbeats 0 in
theorem PySem.Challenge.cw_telltight_k93_whole_heaps_keep_what_foll_holds : PySem.Challenge.rw_telltight_k93_whole_heaps_keep_what_foll.Holds := by
 w_on; o_law; k_head; (case hw => w_witness2)
 k_fill
 refine R.walk_R (l := PySem.Challenge.rw_telltight_k93_whole_heaps_keep_what_foll) (k := LW.e_law.d) (fn := LW.MK) (tabs := [(119, 117)]) rfl rfl ?hrr (fun w h Y => ⟨km_in_of Y, fun q hq => km_tabs_of Y q.2 (by simp only [zM] at hq ⊢; rw [hq])⟩) ?hcc ?hKK ?htt LW.holds ?F
 case hrr => exact LW.NA
 case hcc => intro w q hq; simp only [zM] at hq; rw [hq]; kernel_rfl
 case hKK => intro w; kernel_rfl
 case htt => intro t ht; exact LW.Es t ht
 case F =>
  intro w mg fa h KX G hmg;refine R.law_F (gs := LW.gs) (cl := LW.cl) (pre := LW.pre) (e := LW.e_law) KX G hmg ?nb ?gs ?cl LW.F8 LW.F9 rfl ?fs ?law rfl LW.Ll
  case nb => kernel_rfl
  case gs => intro p hp; simp only [LW.gs, zT, zX, or_false] at hp
  case cl => intro p hp; simp only [LW.cl, zT, zX, or_false] at hp; rcases hp with rfl <;> exact ⟨⟨_, by k_is, by kernel_rfl, by kernel_rfl, by kernel_rfl, by kernel_rfl⟩, ⟨_, by k_is, by kernel_rfl⟩⟩
  case law => exact R.ff (by k_is) (by k_is) (by kernel_rfl) (by k_is) (.inl rfl)
  case fs =>
   repeat' first | exact R.fes_n | refine R.fes_c ?_ ?_
   iterate 30 next => exact R.fe_f (by exact rfl) (by k_is) (by k_is) (by kernel_rfl) (by k_is) (.inl rfl)
   next => exact R.fe_k (by exact rfl) (by k_is) (by k_is) (by k_is) (by kernel_rfl) (by k_is) (by k_is) (.inl rfl) (by kernel_rfl) (by kernel_rfl)
   next => exact R.fe_m (by exact rfl) (by k_is) (by k_is) (by k_is) (by kernel_rfl) (by k_is) (by k_is) (.inl rfl)
   next => exact R.fe_f (by exact rfl) (by k_is) (by k_is) (by kernel_rfl) (by k_is) (.inl rfl)
   iterate 2 next => exact R.fe_m (by exact rfl) (by k_is) (by k_is) (by k_is) (by kernel_rfl) (by k_is) (by k_is) (.inl rfl)
   next => exact R.fe_m (by exact rfl) (by k_is) (by k_is) (by k_is) (by kernel_rfl) (by k_is) (by k_is) (.inr ⟨_, _, _, rfl, rfl, by kernel_rfl, rfl⟩)
   iterate 3 next => exact R.fe_m (by exact rfl) (by k_is) (by k_is) (by k_is) (by kernel_rfl) (by k_is) (by k_is) (.inl rfl)
   next => exact R.fe_f (by exact rfl) (by k_is) (by k_is) (by kernel_rfl) (by k_is) (.inl rfl)
   iterate 4 next => exact R.fe_m (by exact rfl) (by k_is) (by k_is) (by k_is) (by kernel_rfl) (by k_is) (by k_is) (.inl rfl)
   iterate 9 next => exact R.fe_f (by exact rfl) (by k_is) (by k_is) (by kernel_rfl) (by k_is) (.inl rfl)
   next => exact R.fe_m (by exact rfl) (by k_is) (by k_is) (by k_is) (by kernel_rfl) (by k_is) (by k_is) (.inl rfl)
   iterate 11 next => exact R.fe_f (by exact rfl) (by k_is) (by k_is) (by kernel_rfl) (by k_is) (.inl rfl)
#print axioms PySem.Challenge.cw_telltight_k93_whole_heaps_keep_what_foll_holds
