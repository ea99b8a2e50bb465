import PyProof.Rows.All
import Wide.All
import OpenK.AllK
import Wide.FinOn
import PySem.Challenge.RW_telltight_k56_whole_broken_by_sorts
set_option bootstrap.genMatcherCode false
set_option compiler.extract_closed false
noncomputable section
open Array renaming length_toList → é, size_append → S?, toList → X0, toList_append → K!
open Bool renaming and_eq_true → zC, and_eq_true_iff → Ĉ, and_self → ť, eq_iff_iff → V6, false → Ä, false_eq_true → yA, false_ne_true → ğ, false_or → q?, or_eq_true_iff → Q?, or_false → X', true → Â
open Classical renaming byContradiction → ñ, choose → Č, choose_spec → ě
open ForInStep renaming yield → ı
open Function renaming comp → T6
open Int renaming add_zero → ĥ, dvd_natAbs → k?, ediv_mul_cancel → ϗ, ediv_one → Z!, emod_lt_of_pos → ř, emod_nonneg → Ź, eq_of_mul_eq_mul_left → Š, eq_of_mul_eq_mul_right → Ř, fdiv_eq_ediv_of_nonneg → k!, le_of_eq → Y9, le_of_lt → Ă, le_of_mul_le_mul_left → q!, le_of_mul_le_mul_right → Ą, le_refl → Ő, le_trans → Ķ, lt_or_le → yU, lt_trichotomy → U2, mul_add → P9, mul_assoc → t?, mul_comm → ϫ, mul_ediv_cancel' → P8, mul_eq_zero → h!, mul_le_mul_of_nonneg_right → Õ, mul_lt_mul_of_pos_left → ŗ, mul_neg_of_neg_of_pos → p?, mul_neg_of_pos_of_neg → ş, mul_nonneg → Ý, mul_nonpos_of_nonneg_of_nonpos → ϟ, mul_nonpos_of_nonpos_of_nonneg → ă, mul_one → P7, mul_pos → P0, mul_zero → yO, natAbs_add_le → U1, natAbs_mul → yZ, natAbs_natCast → Ĥ, natAbs_neg → â, natCast_add → W?, natCast_dvd_natCast → Ű, one_mul → Ϗ, toNat_natCast → Ϫ, toNat_of_nonneg → ò, zero_mul → yP
open List renaming all_cons → ĩ, all_eq_true → yQ, any_cons → Ŋ, any_eq_true → ū, any_map → w?, append_assoc → yM, append_nil → ô, cons_append → ϳ, contains_iff_mem → H?, countP_cons → U0, drop_eq_getElem_cons → è, drop_length → ϲ, drop_nil → X!, drop_of_length_le → w!, drop_zero → ſ, filterMap_cons → ā, filterMap_map → ϙ, filter_cons → U', filter_eq_self → Ú, find?_append → T5, find?_cons → í, flatten_cons → ć, foldl → S!, foldl_append → T4, foldl_cons → ħ, forIn_cons → V0, forIn_nil → W!, getD_eq_getElem?_getD → zD, getElem?_append_left → zN, getElem?_append_right → z6, getElem?_cons_succ → Ė, getElem?_eq_getElem → zF, getElem?_eq_none → ë, getElem?_eq_some_iff → zB, getElem?_map → zR, getElem?_of_mem → z8, getElem?_range → P?, getElem?_replicate → þ, getElem?_set → yW, getElem?_set_ne → î, getElem?_set_self → ð, getElem?_take_of_lt → Ť, getElem?_toArray → H!, getElem?_zipIdx → ž, getElem?_zip_eq_some → Ś, getElem_inj → Ū, getElem_mem → ĕ, getElem_range → R9, isEmpty_iff → ç, length → ŏ, length_append → zV, length_cons → yX, length_drop → ņ, length_filter_le → G?, length_map → zH, length_nil → V?, length_range → Ń, length_replicate → Ņ, length_reverse → œ, length_set → à, length_take → Ĕ, length_zip → ą, length_zipIdx → R8, lookup → Ŏ, lookup_cons → yN, map_append → Ħ, map_congr_left → ķ, map_cons → zO, map_drop → ţ, map_map → ß, map_nil → Ğ, map_set → X9, map_take → ϖ, mem_append → zZ, mem_append_left → zL, mem_append_right → zK, mem_cons → zT, mem_cons_of_mem → zQ, mem_cons_self → z7, mem_filter → ŀ, mem_filterMap → R?, mem_map → yC, mem_map_of_mem → ϕ, mem_of_getElem? → zW, mem_of_mem_drop → J?, mem_or_eq_of_mem_set → ö, mem_range → Ö, mem_reverse → U?, mem_singleton → zM, nodup_append → ϥ, nodup_cons → Ŀ, nodup_nil → V9, not_mem_nil → zX, of_mem_zip → ì, range → É, range' → ĭ, range_succ → ŵ, replicate → Æ, replicate_succ → ê, reverse_cons → Ş, set_set → v?, size_toArray → zI, sum_cons → ú, sum_nil → v!, take_add_one → ŝ, take_append_drop → G!, take_length → ē, take_of_length_le → Ų, take_sublist → T1, take_succ → V8, take_zero → V7, zip_cons_cons → ĝ
open List.Pairwise renaming nil → Ŷ
open Nat renaming add_assoc → ō, add_sub_cancel_left → ů, ble → Û, ble_eq_true_of_le → yK, dvd_trans → X8, eq_one_of_mul_eq_one_left → a?, gcd → ÿ, gcd_comm → Y8, gcd_dvd_left → V!, gcd_dvd_right → U!, le_add_right → ϸ, le_antisymm → g?, le_of_ble_eq_true → zS, le_of_eq → ϩ, le_of_lt → yY, le_of_not_lt → U9, le_of_succ_le → ċ, le_refl → zP, le_succ → a!, le_total → Y7, le_trans → z5, log2_lt → Ċ, lt_add_of_pos_right → Ů, lt_irrefl → y0, lt_of_le_of_lt → yL, lt_of_lt_of_le → zJ, lt_or_ge → yT, lt_succ_of_le → Ϩ, lt_succ_self → ĵ, lt_trans → ϧ, min_eq_left → Ÿ, mod_eq_of_lt → U8, mod_lt → ģ, mul_le_mul → ύ, mul_le_mul_right → ό, ne_of_gt → Ĵ, ne_of_lt → zU, one_le_two_pow → Ϟ, one_mul → ϻ, or_comm → _', or_lt_two_pow → Ñ, pow_add → Ţ, pow_le_pow_right → å, pow_lt_pow_right → ĉ, pow_succ → F?, sub_zero → Y6, succ_mul → F!, succ_pos → E?, testBit_or → W9, testBit_two_pow → R!, two_pow_pos → Ô, zero_le → ł, zero_or → P!
open Ne renaming symm → ä
open Option renaming bind → u?, bind_some → Ã, getD_none → Q9, getD_some → Ϥ, isSome_iff_exists → ø, isSome_map → Ł, isSome_some → J!, map_eq_some_iff → zE, map_some → Ì, none → Á, some → À, toList_some → ŕ
open Option.some renaming inj → yD
open PyProof.Rows renaming AllBare → ϐ, Call_ → I!, Constant_none → Q!, IntsAre → ώ, Subscript_ → W7, boot_range → ϵ, callWith_builtin1 → _?, callWith_type1 → Ó, envOfC → ϴ, evalArgs_kwB → _!, get?_update_seq → Z5, kws_cons → Z9, kws_nil → Z8, seqObj → Ŵ, slot_tuple_getitem → Ļ, sub_tuple_tuple → Z4, subscriptTail → Ϯ, subscriptTail_builtinR → S9
open PySem renaming Addr → Ç, Arguments → Ϧ, Around → Ć, BindsTo → y!, BoolOp → I?, Builtin → x?, CmpOp → Ϡ, Env → U3, Expr → Ï, Fin → T!, FuncData → Ē, Heap → æ, IsPart → j?, IsRangeIter → p!, Keyword → ŋ, NameKind → ũ, Obj → Y5, Operator → ġ, Paired → T0, PassesOwn → ϣ, PlainAttrs → E!, Pos → Ĝ, Program → Ò, PyData → Ī, Reads → ű, ReadsAll → d?, Scope → Ġ, Sem → Y3, Shared → È, Stmt → ľ, Str → Í, Value → Å, Within → t!, World → Ù, argsOk → D!, assignEach → Þ, atKey → C?, attributeBase → ę, backTo → ù, backToKw → ŉ, behindInMarks → ϯ, binaryOp → ż, bindArgs → C!, bindC → Q7, bindL → Q6, bootBuiltins → á, builtinsNs → Ę, cLine → Ŗ, call → O!, callWith → ŧ, call_list_range → Z6, call_meets → ϋ, callerA → ϊ, cellsFrom → Ď, closureFor → W5, codeAny → ň, codeAny_builtin → ϔ, codeAny_call_builtin → U7, codeAny_mono → ś, compareOp → č, defaultsOf → W4, evalPart_none → M', foldedSetIterable → õ, getItem → d!, getMethod → š, isTrue → B?, keywordEach → đ, letOwnedTupleGo → ϓ, mainGlobals → Ð, mem_of_lookup → ĳ, newEnv → W3, newFunctionEnv → B!, numAt → A', numAt_eq → U6, nums_intItems → M!, plainId_quiet → L', pushCells → Ż, pushCells_keeps → s?, pyNext → A!, rangeSize_one → L?, rawInt → z?, recursionLimit → Ϝ, seqIndex_neg → c?, seqIndex_of → l?, seqItems? → Y0, setItem → ϡ, sizeLine → Ë, sizeLine_eq → ϛ, sliceBounds → Ĺ, slicePick → Q4, small_one → Y?, standAt → Ŕ, starEach → Ê, swappedStores → ϭ, swapsWith → Ľ, swapsWithSole → Ϭ, sysModules → ė, tupleKind → ź, tupleKind_room_in1 → Ŧ, typeIs_int → W2, unaryOp → X3, updateSeq → Q3, valueAt → c!, wpAny → Î, wpAny_Call_Name_kw → ý, wpAny_Name → W1, wpAny_assign_Name → X1, wpAny_bind → yE, wpAny_call → z!, wpAny_callSpecial?_slot → Q0, wpAny_comprehension_free → L!, wpAny_execs_nil → r?, wpAny_field → U4, wpAny_getItem_list_neg → S7, wpAny_getItem_list_slice → K?, wpAny_holding → yR, wpAny_letGo → Ϛ, wpAny_loadPart' → ϒ, wpAny_mono → yS, wpAny_newObj_type → Ň, wpAny_passesOwn → Ĭ, wpAny_pure → yF, wpAny_pyIter_enum → b?, wpAny_pyIter_list → Đ, wpAny_pyIter_range → W0, wpAny_pyIter_rangeiter → S6, wpAny_pyIter_zip → Y!, wpAny_pyNext_list_end → T8, wpAny_pyNext_list_item → S5, wpAny_pyNext_range_end → S4, wpAny_seqItems → y?, wpAny_specialOf → Z3, wpAny_standAt → ų, wpAny_truthy_bool → ď, wpAny_tryCatch → ĸ, wpAny_updateSeq → ϑ
open PySem.AutoSeq1 renaming wpAny_loadPart' → Ĳ
open PySem.Builtin renaming bitNot → T7
open PySem.Builtin.Builtins renaming bindParams → Ž
open PySem.Builtin.Dict renaming pendingCount → _0
open PySem.Builtin.Int renaming intBits → ń
open PySem.Builtin.List renaming listTooLong → ó
open PySem.Builtin.Range renaming rangeSize → į, small → Z2
open PySem.Builtin.Slice renaming sliceAdjust → Ō, sliceApplied → Ϙ, sliceFields → Z1, slicePartIndex → Z0, slicePlaces → Ĩ
open PySem.Builtin.SmallTypes renaming fitsIndex → ļ
open PySem.Builtin.Tuple renaming tupleExact → ī, tupleItemsOf → Z'
open PySem.Challenge renaming pw_telltight_k56_whole_broken_by_sorts → W8
open PySem.F renaming entry_min_loop → Ũ, plainAttrs_int → j!, plainAttrs_list → ü, plain_min_loop → Ā, slot_dict_len → n?, slot_int_bit_length → ϱ, slot_list_append → g!, slot_list_count → Ŝ, slot_list_extend → f?, type_int_bit_length → ϰ, type_list_append → e?, type_list_count → h?, type_list_extend → e!
open PySem.Heap renaming ExtBut → Z?, SameBut → İ, get?_push_of_some → zG, get?_push_size → zY, get?_update_other → x!, lt_size → yI, size_push → Į
open PySem.Heap.IsSliceOf renaming new → b!
open PySem.Heap.SameBut renaming refl → l!, update → Ŭ
open PySem.NameKind renaming cell → Ě, free → Ø
open PySem.Obj renaming mapSeq → Ģ
open PySem.P renaming truthy_int → D'
open PySem.PyData renaming bool → ŷ, canLay0 → Ϻ, canLayAll0 → O?, depth → o?, depthAll → T?, eqv → ã, int → Ϲ
open PySem.Reads renaming unique → i?
open PySem.SeqAt renaming eqAt_reads → Ϸ
open PySem.Str renaming ofString → û
open PySem.Value renaming bool → N?, bytes → X7, float → X6, int → n!, isInt → D?, isStrOf → i!, none → ŭ, ref → ï, str → m?, type → N!
open PySem.W renaming CodeHd → X?, Frag → Ü, OpenLaw → Q8, WalkO → T9, callWith_K → W6, callWith_K0 → u!, codeIn → ϝ, emptyDict → Œ, findIn → ő, hasDictIn → Q5, instObj → Ϣ, keepIn → ĺ, makesIn → X5, methodCall_KW → M?, methodObj → Y2, mg_of → X4, plainGet → A?, plainGet_of → U5, plainOver → Y1, tabObj → S8
open PySem.W.Looks renaming here → Y4
open PySem.Within renaming cons → Z7
open Option (bind_some map_some)
open PySem.W (CodeHd Frag InitBack InstAt TabsAt any_some bind_fn callWith_K cellsFrom_some codeHdIn codeHd_of_K codeIn codeRec_of emptyDict findIn findObj_own fnOf get_value handedIn hasDictIn hideAll hideAll_get hideAll_none hideAll_size instObj isFn keepIn ki_setAt ki_setBack kla_callFunE kla_codeExpr kla_eval kla_fn kla_makeFunction kla_makeFunctionHit km_in_of km_tabs_of lookIn looks_clsIn looks_findIn make_core makesIn makes_of mem_of_lookupK methodCall_KW methodObj method_fn mg_none_of mg_of noTabs nsIn of_hideAll osa_open plainGet plainGet_of plainOver set_plain tabObj takerIn truthy_bytes typeIn)
theorem Ax0(_:True:=by decide):True:=trivial
theorem Ax1(_:True:=by first|exact .inl rfl|exact .inr rfl|assumption):True:=trivial
theorem Ax2(_:True:=by rfl):True:=trivial
theorem Ax3(_:True:=by intro _;rfl):True:=trivial
theorem oM{p:Prop}(h:p:=by first|lia|omega|(refine @id (@Ne Nat _ _) ?_;omega)):p:=h
theorem dC{p:Prop}(h:autoParam (p) Ax0._auto_1):p:=h
set_option Elab.async false
set_option linter.all false
set_option maxRecDepth 100000
theorem zA{α c}{o:Option α}{f:α->Option c}{b}:o.bind f=À b->∃a,o=À a∧f a=À b:=Option.bind_eq_some_iff.mp
theorem z9:type_of% @decide_eq_false:=@decide_eq_false
theorem yB:type_of% @decide_eq_true_eq:=@decide_eq_true_eq
theorem yG:type_of% @if_neg:=@if_neg
theorem yH:type_of% @if_pos:=@if_pos
theorem yJ:type_of% @eq_of_beq:=@eq_of_beq
theorem yV:type_of% @decide_eq_true:=@decide_eq_true
namespace L2
open PySem PySem.Spec PyProof.Rows
abbrev aU:=Sum Int Í
noncomputable def iN:aU->Å->Bool
 |.inl k,v=>D? k v
 |.inr x,v=>i! x v
noncomputable def Nh(w:Ù):aU->Int
 |.inl k=>hashInt k
 |.inr x=>hashStr w x
theorem c5:∀{k:aU}{v:Å},iN k v=Â->(∃i t,k=Sum.inl i/\v=n! i t)\/(∃x t,k=Sum.inr x/\v=m? x t)
 |.inl i,v,h=>by
  obtain⟨t,e⟩:=Value.isInt_shape (k:=i) (v:=v) h;exact .inl ⟨i,t,rfl,e⟩
 |.inr x,v,h=>by
  obtain⟨t,e⟩:=Value.isStrOf_shape (x:=x) (v:=v) h;exact .inr ⟨x,t,rfl,e⟩
theorem Au(i:Int)(t:Tok):iN (.inl i) (.int i t)=Â:=by simp[iN,D?]
theorem As(x:Í)(t:Tok):iN (.inr x) (.str x t)=Â:=by simp[iN,i!]
theorem Iy(a b:Int):decide ((Sum.inl a:aU)=Sum.inl b)=(a==b):=by
 by_cases e:a=b
 ·subst e;simp
 ·have h:¬(Sum.inl a:aU)=Sum.inl b:=fun q=>e (Sum.inl.inj q)
  rw[z9 h];exact(beq_eq_false_iff_ne.mpr e).symm
theorem Iq(a b:Í):decide ((Sum.inr a:aU)=Sum.inr b)=decide (a=b):=by
 by_cases e:a=b
 ·subst e;simp
 ·have h:¬(Sum.inr a:aU)=Sum.inr b:=fun q=>e (Sum.inr.inj q)
  rw[z9 h,z9 e]
theorem Iu(a:Int)(b:Í):decide ((Sum.inl a:aU)=Sum.inr b)=Ä:=z9 (fun q=>nomatch q)
theorem Ir(a:Í)(b:Int):decide ((Sum.inr a:aU)=Sum.inl b)=Ä:=z9 (fun q=>nomatch q)
def cg(prog:Ò)(w:Ù):PySem.KeyKind prog w aU where
 is:=iN
 hash:=Nh w
 inj:=fun v a b ha hb=>by
  rcases c5 ha with⟨i,t,rfl,rfl⟩|⟨x,t,rfl,rfl⟩
  ·rcases c5 hb with⟨j,u,rfl,e⟩|⟨y,u,rfl,e⟩
   ·injection e with e1 _;rw[e1]
   ·exact nomatch e
  ·rcases c5 hb with⟨j,u,rfl,e⟩|⟨y,u,rfl,e⟩
   ·exact nomatch e
   ·injection e with e1 _;rw[e1]
 byValue:=fun k v h=>by
  rcases c5 h with⟨i,t,rfl,rfl⟩|⟨x,t,rfl,rfl⟩<;>rfl
 pyHash:=fun hv h=>by
  rcases c5 hv with⟨i,t,rfl,rfl⟩|⟨x,t,rfl,rfl⟩
  ·exact wpAny_pyHash_int h
  ·exact wpAny_pyHash_str h
 eqBool:=fun hu hv h=>by
  rcases c5 hu with⟨i,t,rfl,rfl⟩|⟨x,t,rfl,rfl⟩
  ·rcases c5 hv with⟨j,u,rfl,rfl⟩|⟨y,u,rfl,rfl⟩
   ·rw[Iy]at h;exact wpAny_eqBool_int h
   ·rw[Iu]at h;exact SeqAt.EqAt.int_str i t y u _ _ _ _ h
  ·rcases c5 hv with⟨j,u,rfl,rfl⟩|⟨y,u,rfl,rfl⟩
   ·rw[Ir]at h;exact SeqAt.EqAt.str_int x t j u _ _ _ _ h
   ·rw[Iq]at h;exact wpAny_eqBool_str h
 «strs»:=fun k x t v h=>by
  rcases c5 h with⟨i,u,rfl,e⟩|⟨y,u,rfl,e⟩
  ·exact nomatch e
  ·injection e with e1 _
   subst e1;cases v<;>rfl
theorem vo(prog:Ò)(w:Ù)(i:Int)(t:Tok):(cg prog w).is (.inl i) (.int i t)=Â:=Au i t
theorem vn(prog:Ò)(w:Ù)(x:Í)(t:Tok):(cg prog w).is (.inr x) (.str x t)=Â:=As x t
inductive V where
 |non|bl (b:Bool)|int (i:Int)|str (x:Í)|byt (b:Array UInt8)|flt (b:UInt64)|ref (a:Ç)|ty (n:String)
 deriving DecidableEq
def RelV:V->Å->Prop
 |.non,u=>u=ŭ
 |.bl b,u=>u=N? b
 |.int i,u=>∃t,u=n! i t
 |.str x,u=>∃t,u=m? x t
 |.byt b,u=>∃t,u=X7 b t
 |.flt b,u=>∃t,u=X6 b t
 |.ref a,u=>u=ï a
 |.ty n,u=>u=N! n
abbrev Vals:List V->List Å->Prop:=T0 RelV
theorem Vals.length{xs:List V}{us:List Å}(r:Vals xs us):xs.length=us.length:=Paired.length r
theorem Vals.get:∀{xs:List V}{us:List Å}{i:Nat}{x:V},Vals xs us->xs[i]?=À x->∃u,us[i]?=À u/\RelV x u
 |_,_,_,_,.nil,e=>by simp at e
 |_,_,0,_,.cons r _,e=>by simp at e;subst e;exact⟨_,rfl,r⟩
 |_,_,i+1,x,.cons _ t,e=>by
  obtain⟨u,h1,h2⟩:=Vals.get (i:=i) (x:=x) t (by simpa using e);exact⟨u,by simpa using h1,h2⟩
theorem Vals.set(r:RelV x u):∀{xs:List V}{us:List Å} (i:Nat),Vals xs us->Vals (xs.set i x) (us.set i u)
 |_,_,_,.nil=>.nil
 |_,_,0,.cons _ t=>.cons r t
 |_,_,i+1,.cons q t=>.cons q (Vals.set r i t)
theorem Vals.append:∀{xs ys:List V}{us ws:List Å},Vals xs us->Vals ys ws->Vals (xs++ys) (us++ws):=by
 intro xs ys us ws h s
 induction h with
 |nil=>exact s
 |cons r t a=>exact .cons r a
theorem Vals.take:∀{xs:List V}{us:List Å} (n:Nat),Vals xs us->Vals (xs.take n) (us.take n):=by
 intro xs us n h
 induction h generalizing n with
 |nil=>cases n<;>exact .nil
 |cons r t a=>cases n with
  |zero=>exact .nil
  |succ n=>exact .cons r (a n)
theorem Vals.drop:∀{xs:List V}{us:List Å} (n:Nat),Vals xs us->Vals (xs.drop n) (us.drop n):=by
 intro xs us n h
 induction h generalizing n with
 |nil=>cases n<;>exact .nil
 |cons r t a=>cases n with
  |zero=>exact .cons r t
  |succ n=>exact a n
def RelO:Option V->Option Å->Prop
 |some v,À u=>RelV v u
 |none,Á=>True
 |_,_=>False
def KV{a:Type}:List (a×V)->List (a×Value)->Prop:=T0 fun(p:a×V)(q:a×Value)=>p.1=q.1/\RelV p.2 q.2
noncomputable def kV:aU->V
 |.inl i=>.int i
 |.inr x=>.str x
inductive HO where
  |lst (xs:List V)
  |tup (xs:List V)
  |dK (Px:List (aU×V))|dT (Px:List (List aU×V))
  |set (S:Int->Bool) (n:Nat)
  |ins (C dx:Ç) (fs:List (Í×V))
  |own (x:Ç)
  |xd (fs:List (Í×V))
  |met (f x:Ç)
  |rng (lo hi:Int)
  |frz (o:Y5) (u:HO)
  |tbl (ps:Array Å)
  |ext (φ:æ->Prop)
abbrev Hp:=Ç->Option HO
noncomputable def ag(H:Hp)(a:Ç)(o:HO):Hp:=fun b=>if b=a then À o else H b
theorem ar:ag H a o a=À o:=by unfold ag;rw[yH rfl]
theorem ad(h:b≠a):ag H a o b=H b:=by unfold ag;rw[yG h]
theorem xq{H:Hp}{a b:Ç}{o u:HO}(h:H a=À o)(h':H b=À u)(d:o≠u):a≠b:=by
 intro e;subst e;rw[h]at h';exact d (yD h')
theorem aW{H:Hp}{a b:Ç}{o:HO}(h:H a=À o)(h':H b=Á):a≠b:=by
 intro e;subst e;rw[h]at h';cases h'
section
variable(P:Ò)(w:Ù)
def ObjOk(H:Hp)(h:æ)(a:Ç):HO->Prop
 |.lst xs=>xs.length<=Ë/\∃(PB:List Å)(n:Nat),Vals xs PB/\h.get? a=À { cls:=.type "list",data:=.seq PB.toArray n }
 |.tup xs=>xs.length<=Ë/\∃PB:List Å,Vals xs PB/\IsTup h a PB.toArray
 |.dK Px=>Px.length<=Ë/\(a==ė)=Ä/\∃vs,KV Px vs/\h.DictOf (cg P w) a vs
 |.dT Px=>Px.length<=Ë/\(a==ė)=Ä/\∃xs:List (List aU×Addr×Value),
   T0 (fun(p:List aU×V)(q:List aU×Addr×Value)=>p.1=q.1/\H q.2.1=À (.tup (p.1.map kV))/\RelV p.2 q.2.2) Px xs /\
   ∃o es ep,h.get? a=À o/\o.ExactDict/\o.data=.dict es ep/\es.toList=xs.map (entryOfKey (ź (cg P w)))/\(xs.map (·.1)).Nodup
 |.set S n=>h.SetOf (intKind P w) a S n
 |.ins C dx fs=>H dx=À (.own a)/\fs.length<=1000/\dx≠a/\h.get? a=À (Ϣ C dx) /\
   ∃mA,h.Ns1 dx mA/\(∀f,RelO (fs.lookup f) (mA f))/\t! mA (fs.map (·.1))
 |.own _=>∃o,h.get? a=À o
 |.xd fs=>∃mA,h.Ns1 a mA/\∀f,RelO (fs.lookup f) (mA f)
 |.rng lo hi=>∃t u v,h.get? a=À { cls:=.type "range",data:=.fields #[.int lo t,.int hi u,.int 1 v] }
 |.frz o u=>h.get? a=À o/\ObjOk H h a u
 |.tbl ps=>h.get? a=À { cls:=.none,data:=.fields ps }
 |.met f x=>h.get? a=À (Y2 (.ref f) (.ref x))
 |.ext φ=>φ h/\(∃o,h.get? a=À o)/\∀h1 h2:æ,φ h1->(∀o,h1.get? a=À o->h2.get? a=À o)->φ h2
def HOk(H:Hp)(h:æ):Prop:=∀a o,H a=À o->ObjOk P w H h a o
end
section
variable{P:Ò}{w:Ù}{H H':Hp}{h h':æ}{a:Ç}{o:HO}
theorem ObjOk.lt(x:ObjOk P w H h a o):a<h.objs.size:=by
 cases o with
 |lst xs=>obtain⟨_,_,_,_,e⟩:=x;exact yI e
 |tup xs=>obtain⟨_,_,_,p⟩:=x;exact p.lt
 |dK Px=>obtain⟨_,_,_,_,o,_,_,e,_⟩:=x;exact yI e
 |dT Px=>obtain⟨_,_,_,_,o,_,_,e,_⟩:=x;exact yI e
 |set S n=>obtain⟨o,_,_,_,e,_⟩:=x;exact yI e
 |ins C dx fs=>obtain⟨_,_,_,e,_⟩:=x;exact yI e
 |own y=>obtain⟨_,e⟩:=x;exact yI e
 |xd fs=>obtain⟨_,⟨_,_,_,e,_⟩,_⟩:=x;exact yI e
 |rng lo hi=>obtain⟨_,_,_,e⟩:=x;exact yI e
 |frz ob u=>obtain⟨e,_⟩:=x;exact yI e
 | tbl ps=>exact yI (show h.get? a=À _ from x)
 | met f y=>exact yI (show h.get? a=À _ from x)
 |ext φ=>obtain⟨_,⟨_,e⟩,_⟩:=x;exact yI e
theorem Paired.mapP{α c:Type}{F G:α->c->Prop}:∀{l₁:List α}{l₂:List c},T0 F l₁ l₂->(∀a b,F a b->G a b)->T0 G l₁ l₂:=by
 intro l₁ l₂ h f
 induction h with
 |nil=>exact .nil
 |cons r t d=>exact .cons (f _ _ r) d
theorem ObjOk.stay(x:ObjOk P w H h a o)(k:∀b u,(b=a\/H b=À (.own a))->h.get? b=À u->h'.get? b=À u)
  (E:∀b,H b=À (.own a)->H' b=À (.own a)) (D:∀b xs,H b=À (.tup xs)->H' b=À (.tup xs)):ObjOk P w H' h' a o:=by
 induction o with
 |lst xs=>obtain⟨z,s,n,r,e⟩:=x;exact⟨z,s,n,r,k _ _ (.inl rfl) e⟩
 |tup xs=>obtain⟨z,s,r,g,e,c⟩:=x;exact⟨z,s,r,g,k _ _ (.inl rfl) e,c⟩
 |dK Px=>obtain⟨z,y,B,r,g,i,j,e,c⟩:=x;exact⟨z,y,B,r,g,i,j,k _ _ (.inl rfl) e,c⟩
 |dT Px =>
  obtain⟨z,y,xs,r,g,i,j,e,c⟩:=x;exact⟨z,y,xs,Paired.mapP r fun p q z=>⟨z.1,D _ _ z.2.1,z.2.2⟩,g,i,j,k _ _ (.inl rfl) e,c⟩
 |set S n=>obtain⟨g,i,j,t,e,c⟩:=x;exact⟨g,i,j,t,k _ _ (.inl rfl) e,c⟩
 |ins C dx fs =>
  obtain⟨d,z,ne,e,m,⟨l,i,j,F,c⟩,r⟩:=x;exact⟨E _ d,z,ne,k _ _ (.inl rfl) e,m,⟨l,i,j,k _ _ (.inr d) F,c⟩,r⟩
 |own y=>obtain⟨g,e⟩:=x;exact⟨g,k _ _ (.inl rfl) e⟩
 |xd fs=>obtain⟨m,⟨l,i,j,e,c⟩,r⟩:=x;exact⟨m,⟨l,i,j,k _ _ (.inl rfl) e,c⟩,r⟩
 |rng lo hi=>obtain⟨t,u,v,e⟩:=x;exact⟨t,u,v,k _ _ (.inl rfl) e⟩
 |frz g u ih=>obtain⟨e,q⟩:=x;exact⟨k _ _ (.inl rfl) e,ih q⟩
 |tbl ps =>
  have e:h.get? a=À { cls:=.none,data:=.fields ps }:=x;show h'.get? a=À { cls:=.none,data:=.fields ps };exact k a _ (.inl rfl) e
 |met f y =>
  have e:h.get? a=À (Y2 (.ref f) (.ref y)):=x;show h'.get? a=À (Y2 (.ref f) (.ref y));exact k a _ (.inl rfl) e
 |ext φ=>obtain⟨p,⟨o,e⟩,A⟩:=x;exact⟨A _ _ p fun o q=>k _ _ (.inl rfl) q,⟨o,k _ _ (.inl rfl) e⟩,A⟩
theorem HOk.lt(x:HOk P w H h)(e:H a=À o):a<h.objs.size:=(x a o e).lt
theorem HOk.fresh(x:HOk P w H h)(e:h.objs.size<=a):H a=Á:=by
 cases q:H a with
 |none=>rfl
 |some u=>exact absurd (zJ (x.lt q) e) (y0 _)
theorem HOk.kept(x:HOk P w H h)(k:∀b u,h.get? b=À u->h'.get? b=À u):HOk P w H h':=fun a o e =>
 (x a o e).stay (fun b u _ q=>k b u q) (fun _ q=>q) fun _ _ q=>q
theorem HOk.laid(x:HOk P w H h)(k:∀b u,h.get? b=À u->h'.get? b=À u)(g:h.objs.size<=a)(new:ObjOk P w (ag H a o) h' a o):HOk P w (ag H a o) h':=fun b u e=>by
 have d:=x.fresh g;by_cases f:b=a
 ·subst f;rw[ar]at e;cases e;exact new
 ·rw[ad f]at e
  exact(x b u e).stay (fun c v _ q=>k c v q) (fun c q=>by rw[ad (aW q d)];exact q) fun c i q=>by rw[ad (aW q d)];exact q
end
def Rd(H:Hp)(a:Ç)(u:HO):Prop:=H a=À u\/∃o,H a=À (.frz o u)
theorem Rd.ok(r:Rd H a u)(x:HOk P w H h):ObjOk P w H h a u:=by
 rcases r with r|⟨o,r⟩
 ·exact x a u r
 ·obtain⟨_,q⟩:=x a _ r
  exact q
def A7:Option HO->Prop
 |some (.lst _)=>True
 |some (.dK _)=>True
 |some (.dT _)=>True
 |some (.set _ _)=>True
 |some (.ins _ _ _)=>True
 |some (.ext _)=>True
 |_=>False
section
variable{P:Ò}{w:Ù}{H:Hp}{h h':æ}{x e:Ç}{o':HO}
theorem HOk.write(ok:HOk P w H h)(i:A7 (H x))(he:e=x\/H e=À (.own x))(k:∀b u,b≠e->h.get? b=À u->h'.get? b=À u)(m:∃u,h'.get? e=À u)
  (new:ObjOk P w (ag H x o') h' x o'):HOk P w (ag H x o') h':=fun b u q=>by
 have d:∀c y,H c=À (.own y)->c≠x:=fun c y r z=>by subst z;rw[r]at i;exact i
 have f:∀c g,H c=À (.tup g)->c≠x:=fun c g r z=>by subst z;rw[r]at i;exact i
 by_cases l:b=x
 ·subst l;rw[ar]at q;cases q;exact new
 ·rw[ad l]at q
  by_cases a:b=e
  ·have n:H b=À (.own x):=by
    rcases he with z|z
    ·exact absurd (a.trans z) l
    ·rw[a];exact z
   rw[q]at n;cases n;obtain⟨v,o⟩:=m;exact⟨v,by rw[a];exact o⟩
  ·refine(ok b u q).stay (fun c v j r=>k c v ?_ r) (fun c r=>by rw[ad (d c b r)];exact r) fun c g r=>by rw[ad (f c g r)];exact r
   rcases j with rfl|j
   ·exact a
   ·rintro rfl
    rcases he with z|z
    ·exact d c b j z
    ·rw[j]at z;cases z;exact l rfl
end
structure Un(fs ex:List Ç)(H H':Hp)(h h':æ):Prop where
 keep:∀b o,h.get? b=À o->H b=Á->b∉fs->b∉ex->h'.get? b=À o
 slot:∀b o,h.get? b=À o->H b=Á->b∈fs->b∉ex->∃sl,h'.get? b=À { o with slots:=sl }
 free:∀b o,h.get? b=À o->H b=Á->b∉ex->H' b=Á
 there:∀b o,h.get? b=À o->b∉ex->∃o',h'.get? b=À o'
 tups:∀b xs,H b=À (.tup xs)->H' b=À (.tup xs)
 frzs:∀b o u,H b=À (.frz o u)->H' b=À (.frz o u)
 tbls:∀b ps,H b=À (.tbl ps)->∃more,H' b=À (.tbl (ps++more))
section
variable{fs fs' ex ex':List Ç}{H H1 H2:Hp}{h h1 h2 h':æ}{a x e:Ç}{o:HO}
theorem Un.any(u:Un fs ex H H1 h h1){b:Ç}{a:Y5}(q:h.get? b=À a)(n:H b=Á)(c:b∉ex):∃sl,h1.get? b=À { a with slots:=sl }:=by
 by_cases d:b∈fs
 ·exact u.slot b a q n d c
 ·exact⟨a.slots,u.keep b a q n d c⟩
theorem Un.kept(k:∀b u,h.get? b=À u->h'.get? b=À u):Un fs ex H H h h' :=
 ⟨fun b a q _ _ _=>k b a q,fun b a q _ _ _=>⟨a.slots,k b a q⟩,fun _ _ _ n _=>n,fun b a q _=>⟨a,k b a q⟩,fun _ _ q=>q,fun _ _ _ q=>q,fun _ c q=>⟨#[],by rw[q];simp⟩⟩
theorem Un.refl:Un fs ex H H h h:=Un.kept fun _ _ q=>q
theorem Un.laid(k:∀b u,h.get? b=À u->h'.get? b=À u)(e:h.objs.size<=a)(c:H a=Á):Un fs ex H (ag H a o) h h' where
 keep:=fun b u q _ _ _=>k b u q
 slot:=fun b u q _ _ _=>⟨u.slots,k b u q⟩
 free:=fun b u q n _=>by rw[ad (zU (zJ (yI q) e))];exact n
 there:=fun b u q _=>⟨u,k b u q⟩
 tups:=fun b d q=>by rw[ad (aW q c)];exact q
 frzs:=fun b u d q=>by rw[ad (aW q c)];exact q
 tbls:=fun b f q=>⟨#[],by rw[ad (aW q c),q];simp⟩
theorem Un.write(c:A7 (H x))(he:e=x\/H e=À (.own x))(k:∀b u,b≠e->h.get? b=À u->h'.get? b=À u)(f:∃u,h'.get? e=À u):Un fs ex H (ag H x o) h h':=by
 have g:∀b,H b=Á->b≠x:=fun b n z=>by subst z;rw[n]at c;exact c
 have i:∀b,H b=Á->b≠e:=fun b n z=>by
  subst z;rcases he with r|r
  ·exact g b n r
  ·rw[n]at r;cases r
 have d:∀b u,H b=À u->¬A7 (À u)->b≠x:=fun b u q nm z=>by subst z;rw[q]at c;exact nm c
 refine⟨fun b u q n _ _=>k b u (i b n) q,fun b u q n _ _=>⟨u.slots,k b u (i b n) q⟩,fun b u q n _=>by rw[ad (g b n)];exact n,fun b u q _=>?_,
  fun b j q=>by rw[ad (d b _ q fun z=>z)];exact q,fun b u j q=>by rw[ad (d b _ q fun z=>z)];exact q,fun b l q=>⟨#[],by rw[ad (d b _ q fun z=>z),q];simp⟩⟩
 by_cases a:b=e
 ·subst a;exact f
 ·exact⟨u,k b u a q⟩
end
noncomputable def CW(h:æ)(H:Hp):List Ç:=(É h.objs.size).filter fun a=>(H a).isSome
def jX(h:æ)(H:Hp):æ:=hideAll h (CW h H)
theorem Az(h:æ)(H:Hp):(jX h H).objs.size=h.objs.size:=hideAll_size _ _
theorem Cm(e:h.get? b=À o)(n:H b=Á):(jX h H).get? b=À o :=
 hideAll_get _ e fun a=>by
  have q:(H b).isSome=Â:=(ŀ.mp a).2;rw[n]at q;simp at q
theorem E8(e:(jX h H).get? b=À o):h.get? b=À o/\H b=Á:=by
 have a:h.get? b=À o:=of_hideAll (CW h H) e;refine⟨a,?_⟩;cases q:H b with
 |none=>rfl
 |some x =>
  have c:b∈CW h H:=ŀ.mpr ⟨Ö.mpr (yI a),by simp[q]⟩;have z:(jX h H).get? b=Á:=hideAll_none (CW h H) c;rw[z]at e;cases e
structure Mod(K:Ü)(mg:Í->Option Å)(base:æ):Prop where
 kin:K.In base
 glob:base.Ns Ð mg
 blt:∃mb,base.Ns Ę mb/\∀x:Í,x≠"__name__"->mb x=á x
 nolimit:base.NoLimit
structure Cx where
 prog:Ò
 w:Ù
 K:Ü
 mg:Í->Option Å
 base:æ
 A:Ć
 N:List Í
 s₀:È
 H₀:Hp
 env:U3
 outer:List U3
 stack:List U3
 ex:List Ç
 fn:Í->Bool
 calm:Bool
 pn:List (Ç×Obj)
 xe:Å->È->Prop
noncomputable def kx(l:List U3):List Ç:=l.filterMap (·.frame)
abbrev Cx.fs(X:Cx):List Ç:=kx X.outer
def A2(sc:Ġ)(x:Í):Prop:=sc.names.lookup x=À .local\/sc.names.lookup x=À .cell\/sc.names.lookup x=À .free
def Loc(sc:Ġ)(x:Í):Prop:=sc.names.lookup x=À .local\/sc.names.lookup x=À .cell
def NE(env:U3)(h:æ)(m:Í->Option Å)(x:Í)(u:Å):Prop :=
 (env.kindOf x=À .local/\m x=À u)\/((env.kindOf x=À .cell\/env.kindOf x=À .free)/\∃c,env.cells.lookup x=À c/\h.IsCell c (À u))
structure Cx.Ok(X:Cx):Prop where
 mod:Mod X.K X.mg X.base
 kind:X.env.scope.kind=.function
 glob:X.env.globals=Ð
 blt:X.env.builtins=Ę
 above:X.s₀.heap.objs.size<=X.env.locals
 inj:∀x y c,X.env.cells.lookup x=À c->X.env.cells.lookup y=À c->x=y
 has:∀x,(X.env.kindOf x=À .cell\/X.env.kindOf x=À .free)->∃c,X.env.cells.lookup x=À c
 cab:∀x c,X.fn x=Â->X.env.cells.lookup x=À c->X.s₀.heap.objs.size<=c
 hd:X.calm=Â->X.A.handled=Á
 frames:X.A.frames=À X.stack
 stk:X.stack=X.outer\/(X.stack=X.env::X.outer/\X.env.frame=À X.env.locals)
 exf:∀b∈X.ex,b≠X.env.locals/\∀x c,X.env.cells.lookup x=À c->c≠b
 bs:∀b o,X.base.get? b=À o->X.s₀.heap.get? b=À o/\X.H₀ b=Á
 bsz:X.base.objs.size<=X.s₀.heap.objs.size
 noex:∀b o,X.base.get? b=À o->b∉X.ex
 exfs:∀b∈X.ex,b∉X.fs
 funs:X.s₀.heap.FunFrames X.base X.outer
 frf:∀b∈X.fs,X.H₀ b=Á
structure Inv(X:Cx)(Pw:List (Ç×Obj))(σ:List (Option V))(H:Hp)(s:È):Prop where
 ok:X.Ok
 os:s.os=X.s₀.os
 bare:ϐ s.gens
 base:Un X.fs X.ex X.H₀ H X.s₀.heap s.heap
 loc:∃m,s.heap.Ns X.env.locals m/\∀(i:Nat)(x:Í)(v:V),X.N[i]?=À x->σ[i]?=À (À v)->A2 X.env.scope x->∃u,RelV v u/\NE X.env s.heap m x u
 cell:∀x c,X.env.cells.lookup x=À c->∃v,s.heap.IsCell c v
 free:H X.env.locals=Á
 freeC:∀x c,X.env.cells.lookup x=À c->H c=Á
 pin:∀p∈X.pn++Pw,s.heap.get? p.1=À p.2/\H p.1=Á/\p.1≠X.env.locals/\p.1∉X.fs/\∀v,p.2.data≠.cell v
 PJ:HOk X.prog X.w H s.heap
 len:σ.length=X.N.length
section
variable{X:Cx}{Pw:List (Ç×Obj)}{σ:List (Option V)}{H H':Hp}{s:È}{h':æ}
theorem Cx.Ok.nofr(ok:X.Ok)(e:X.base.get? b=À o):b∉X.fs:=fun a=>by
 have:=(ok.funs.mem a).1
 rw[e]at this;cases this
theorem Inv.bs(I:Inv X Pw σ H s):∀b o,X.base.get? b=À o->s.heap.get? b=À o/\H b=Á:=fun b o e =>
 ⟨I.base.keep b o (I.ok.bs b o e).1 (I.ok.bs b o e).2 (I.ok.nofr e) (I.ok.noex b o e),I.base.free b o (I.ok.bs b o e).1 (I.ok.bs b o e).2 (I.ok.noex b o e)⟩
theorem Inv.bk(I:Inv X Pw σ H s):∀b o,X.base.get? b=À o->s.heap.get? b=À o:=fun b o e=>(I.bs b o e).1
theorem Inv.mod(I:Inv X Pw σ H s):Mod X.K X.mg X.base:=I.ok.mod
theorem Inv.kIn(I:Inv X Pw σ H s):X.K.In s.heap:=I.ok.mod.kin.keeps I.bk
theorem Inv.nolimit(I:Inv X Pw σ H s):s.heap.NoLimit:=I.ok.mod.nolimit.keeps I.bk
theorem Inv.lt(I:Inv X Pw σ H s):X.env.locals<s.heap.objs.size:=let⟨_,a,_⟩:=I.loc;a.lt
theorem Inv.sz(I:Inv X Pw σ H s):X.s₀.heap.objs.size<=s.heap.objs.size:=z5 I.ok.above (yY I.lt)
theorem Inv.nofs(I:Inv X Pw σ H s)(h:s.heap.objs.size<=a):a∉X.fs:=fun c=>by
 obtain⟨_,o,b,_⟩:=I.ok.funs.mem c;exact absurd (zJ (yI b) (z5 I.sz h)) (y0 _)
theorem Inv.cne(I:Inv X Pw σ H s):∀x c,X.env.cells.lookup x=À c->c≠X.env.locals:=fun x c e z=>by
 obtain⟨v,o,d,hd⟩:=I.cell x c e;obtain⟨m,⟨f,g,h,a,b,_⟩,_⟩:=I.loc;rw[z,a]at d;cases d;rw[b]at hd;cases hd
theorem Inv.funs(I:Inv X Pw σ H s):s.heap.FunFrames X.base X.outer:=by
 have all:∀(l:List U3),(∀b∈kx l,b∈X.fs)->X.s₀.heap.FunFrames X.base l->s.heap.FunFrames X.base l:=by
  intro l
  induction l with
  |nil=>intro _ _;trivial
  |cons n r g =>
   intro f k;obtain⟨m,⟨L,o,a,j,i,hd⟩,h⟩:=k;have d:L∈X.fs:=f L (by unfold kx;rw[ā,a];exact z7);obtain⟨p,e⟩:=I.base.slot L o i (I.ok.frf L d) d fun z=>I.ok.exfs L z d
   exact⟨m,⟨L,_,a,j,e,hd⟩,g (fun b c=>f b (by unfold kx;rw[ā,a];exact zQ _ c)) h⟩
 exact all X.outer (fun _ c=>c) I.ok.funs
theorem Inv.stack(I:Inv X Pw σ H s):s.heap.FunFrames X.base X.stack:=by
 rcases I.ok.stk with e|⟨e,b⟩
 ·rw[e];exact I.funs
 ·rw[e]
  obtain⟨m,a,_⟩:=I.loc;refine .cons (by rw[I.ok.kind];decide) b a ?_ I.funs;exact Heap.get?_none_of_le (z5 I.ok.bsz I.ok.above)
theorem Inv.stkSub(I:Inv X Pw σ H s):∀b∈kx X.stack,b∈X.env.locals::X.fs:=fun b a=>by
 rcases I.ok.stk with e|⟨e,c⟩
 ·rw[e]at a;exact zQ _ a
 ·rw[e]at a
  unfold kx at a;rw[ā,c]at a;exact a
theorem Inv.stkFree(I:Inv X Pw σ H s):∀b∈kx X.stack,H b=Á:=fun b a=>by
 rcases zT.mp (I.stkSub b a) with e|a
 ·rw[e];exact I.free
 ·obtain⟨_,o,c,_⟩:=I.ok.funs.mem a
  exact I.base.free b o c (I.ok.frf b a) fun z=>I.ok.exfs b z a
theorem Inv.step{g':Array GenState}{t':Nat}{d':Drawn}{ch:List Ç}(I:Inv X Pw σ H s)
  (j:∀b∈ch,(b∈X.ex\/X.s₀.heap.objs.size<=b)/\b≠X.env.locals/\(∀x c,X.env.cells.lookup x=À c->c≠b)/\∀p∈X.pn++Pw,p.1≠b)
  (h:∀b o,b≠X.env.locals->b∉X.fs->b∉ch->s.heap.get? b=À o->H b=Á->h'.get? b=À o)
  (A:∀b o,b≠X.env.locals->b∈X.fs->b∉ch->s.heap.get? b=À o->H b=Á->∃sl,h'.get? b=À { o with slots:=sl }) (f:∀b o,b∉ch->s.heap.get? b=À o->H b=Á->H' b=Á)
  (B:∀b o,b∉ch->s.heap.get? b=À o->∃o',h'.get? b=À o')
  (E:∀b xs,H b=À (.tup xs)->H' b=À (.tup xs)) (J:∀b o u,H b=À (.frz o u)->H' b=À (.frz o u)) (F:∀b ps,H b=À (.tbl ps)->∃more,H' b=À (.tbl (ps++more)))
  (ns:∀m,s.heap.Ns X.env.locals m->h'.Ns X.env.locals m) (V:HOk X.prog X.w H' h') (T:ϐ g') :
  Inv X Pw σ H' { s with heap:=h',gens:=g',drawn:=d',toks:=t' }:=by
 have G:∀b o,X.s₀.heap.get? b=À o->b≠X.env.locals:=fun b o e=>zU (zJ (yI e) I.ok.above)
 have w:∀b o,X.s₀.heap.get? b=À o->b∉X.ex->b∉ch:=fun b o e a C=>by
  rcases(j b C).1 with z|z
  ·exact a z
  ·exact absurd (zJ (yI e) z) (y0 _)
 have t:∀x c,X.env.cells.lookup x=À c->∀v,s.heap.IsCell c v->h'.IsCell c v:=fun x c e v M=>by
  obtain⟨o,D,hd⟩:=M;have g:c∉ch:=fun z=>(j c z).2.2.1 x c e rfl
  by_cases P:c∈X.fs
  ·obtain⟨sl,q⟩:=A c o (I.cne x c e) P g D (I.freeC x c e)
   exact⟨_,q,hd⟩
  ·exact⟨o,h c o (I.cne x c e) P g D (I.freeC x c e),hd⟩
 refine⟨I.ok,I.os,T,⟨fun b o e n C a=>?_,fun b o e n C a=>?_,fun b o e n a=>?_,fun b o e a=>?_,fun b xs e=>E b xs (I.base.tups b xs e),fun b o xs e=>J b o xs (I.base.frzs b o xs e),fun b ps e=>?_⟩,?_,fun x c e=>?_,?_,fun x c e=>?_,fun p O=>?_,V,I.len⟩
 ·exact h b o (G b o e) C (w b o e a) (I.base.keep b o e n C a) (I.base.free b o e n a)
 ·obtain⟨sl,y⟩:=I.base.slot b o e n C a
  obtain⟨L,K⟩:=A b _ (G b o e) C (w b o e a) y (I.base.free b o e n a);exact⟨L,K⟩
 ·obtain⟨o',y⟩:=I.base.there b o e a
  exact f b o' (w b o e a) y (I.base.free b o e n a)
 ·obtain⟨o',y⟩:=I.base.there b o e a
  exact B b o' (w b o e a) y
 ·obtain⟨Q,y⟩:=I.base.tbls b ps e
  obtain⟨m2,K⟩:=F b _ y;exact⟨Q++m2,by rw[K,Array.append_assoc]⟩
 ·obtain⟨m,R,S⟩:=I.loc
  refine⟨m,ns m R,fun i x v y K U=>?_⟩;obtain⟨u,r,l⟩:=S i x v y K U;refine⟨u,r,?_⟩;rcases l with l|⟨k,c,e,z⟩
  ·exact .inl l
  ·exact .inr ⟨k,c,e,t x c e _ z⟩
 ·obtain⟨v,z⟩:=I.cell x c e
  exact⟨v,t x c e v z⟩
 ·obtain⟨m,⟨o,_,_,D,_⟩,_⟩:=I.loc
  exact f _ o (fun z=>(j _ z).2.1 rfl) D I.free
 ·obtain⟨v,o,D,hd⟩:=I.cell x c e
  exact f c o (fun z=>(j c z).2.2.1 x c e rfl) D (I.freeC x c e)
 ·obtain⟨e,n,ne,N,d⟩:=I.pin p O
  have g:p.1∉ch:=fun z=>(j p.1 z).2.2.2 p O rfl
  exact⟨h p.1 p.2 ne N g e n,f p.1 p.2 g e n,ne,N,d⟩
theorem Inv.un{t':Nat}(I:Inv X Pw σ H s)(u:Un X.fs [] H H' s.heap h')(k:HOk X.prog X.w H' h'):Inv X Pw σ H' { s with heap:=h',toks:=t' }:=by
 obtain⟨m,⟨o,t,v,g,r⟩,_⟩:=id I.loc;obtain⟨l,j⟩:=u.any g I.free (by simp);exact I.step (g':=s.gens) (d':=s.drawn) (ch:=[]) (fun _ z=>nomatch z) (fun b o _ c _ e n=>u.keep b o e n c (by simp)) (fun b o _ c _ e n=>u.slot b o e n c (by simp)) (fun b o _ e n=>u.free b o e n (by simp)) (fun b o _ e=>u.there b o e (by simp)) u.tups u.frzs u.tbls (fun q i=>by
  obtain⟨p,d,f,a,h⟩:=i;rw[g]at a;cases a;exact⟨_,d,f,j,h⟩) k I.bare
theorem Inv.call{g':Array GenState}{t':Nat}{d':Drawn}{ch:List Ç}(I:Inv X Pw σ H s)(u:Un (kx X.stack) ch H H' s.heap h')(v:HOk X.prog X.w H' h')(q:ϐ g')
  (f:∀b∈ch,(b∈X.ex\/X.s₀.heap.objs.size<=b)/\b≠X.env.locals/\(∀x c,X.env.cells.lookup x=À c->c≠b)/\∀p∈X.pn++Pw,p.1≠b) :
  Inv X Pw σ H' { s with heap:=h',gens:=g',drawn:=d',toks:=t' }:=by
 obtain⟨m,⟨o,B,C,j,r⟩,_⟩:=id I.loc;obtain⟨w,g⟩:=u.any j I.free fun z=>(f _ z).2.1 rfl
 exact I.step (ch:=ch) f (fun b o g t a e n=>u.keep b o e n (fun z=>(zT.mp (I.stkSub b z)).elim g t) a) (fun b o _ _ a e n=>u.any e n a) (fun b o a e n=>u.free b o e n a) (fun b o a e=>u.there b o e a) u.tups u.frzs u.tbls (fun A l=>by
  obtain⟨y,h,i,d,k⟩:=l;rw[j]at d;cases d;exact⟨_,h,i,g,k⟩) v q
theorem Inv.turned{t':Nat}{it:Ç}(I:Inv X Pw σ H s)(k:∀b o,b≠it->s.heap.get? b=À o->h'.get? b=À o)(h:H it=Á)(f:it≠X.env.locals)
  (w:it∈X.ex\/X.s₀.heap.objs.size<=it) (t:∀x c,X.env.cells.lookup x=À c->c≠it) (l:∀p∈X.pn++Pw,p.1≠it):Inv X Pw σ H { s with heap:=h',toks:=t' }:=by
 have d:∀b u,H b=À u->b≠it:=fun b u e z=>by rw[z,h]at e;cases e
 refine I.step (g':=s.gens) (d':=s.drawn) (ch:=[it]) (fun b j=>?_) (fun b o _ _ a e _=>k b o (fun z=>a (by simp[z])) e) (fun b o _ _ a e _=>⟨o.slots,k b o (fun z=>a (by simp[z])) e⟩) (fun _ _ _ _ n=>n)
  (fun b o a e=>⟨o,k b o (fun z=>a (by simp[z])) e⟩) (fun _ _ e=>e) (fun _ _ _ e=>e) (fun b B e=>⟨#[],by rw[e];simp⟩) (fun m i=>?_) (fun b u e=>?_) I.bare
 ·have e:b=it:=by simpa using j
  subst e;exact⟨w,f,t,l⟩
 ·obtain⟨o,y,A,g,r⟩:=i
  exact⟨o,y,A,k _ o (ä f) g,r⟩
 ·refine(I.PJ b u e).stay (fun c v a q=>k c v ?_ q) (fun _ q=>q) fun _ _ q=>q
  rcases a with z|z
  ·rw[z];exact d b u e
  ·exact d c _ z
theorem Inv.tok(I:Inv X Pw σ H s)(t:Nat):Inv X Pw σ H { s with toks:=t }:=I.un (h':=s.heap) (t':=t) Un.refl I.PJ
theorem Inv.kept{t':Nat}(I:Inv X Pw σ H s)(k:∀b u,s.heap.get? b=À u->h'.get? b=À u):Inv X Pw σ H { s with heap:=h',toks:=t' }:=I.un (Un.kept k) (I.PJ.kept k)
theorem Inv.laid{t':Nat}(I:Inv X Pw σ H s)(k:∀b u,s.heap.get? b=À u->h'.get? b=À u)(c:s.heap.objs.size<=a)(new:ObjOk X.prog X.w (ag H a o) h' a o) :
  Inv X Pw σ (ag H a o) { s with heap:=h',toks:=t' }:=I.un (Un.laid k c (I.PJ.fresh c)) (I.PJ.laid k c new)
theorem Inv.write{t':Nat}(I:Inv X Pw σ H s)(c:A7 (H x))(he:e=x\/H e=À (.own x))(k:∀b u,b≠e->s.heap.get? b=À u->h'.get? b=À u)(a:∃u,h'.get? e=À u)
  (new:ObjOk X.prog X.w (ag H x o) h' x o):Inv X Pw σ (ag H x o) { s with heap:=h',toks:=t' }:=I.un (Un.write c he k a) (I.PJ.write c he k a new)
theorem Inv.pins_of(I:Inv X Pw σ H s)(h:∀p∈pins',s.heap.get? p.1=À p.2/\H p.1=Á/\p.1≠X.env.locals/\p.1∉X.fs/\∀v,p.2.data≠.cell v):Inv X pins' σ H s :=
 ⟨I.ok,I.os,I.bare,I.base,I.loc,I.cell,I.free,I.freeC,fun p a=>(zZ.mp a).elim (fun z=>I.pin p (zL _ z)) (h p),I.PJ,I.len⟩
theorem tO{N:List Í}(c:N.Nodup){i j:Nat}{x:Í}(a:N[i]?=À x)(b:N[j]?=À x):i=j:=by
 obtain⟨g,e⟩:=zB.mp a;obtain⟨f,d⟩:=zB.mp b;exact(Ū c).mp (e.trans d.symm)
theorem re{M:Model}{A:Ć}{E:Å->È->Prop}{i:Nat}{x:Í}{v:V}{u:Å}{Q:Unit->È->Prop}(I:Inv X Pw σ H s)(hN:X.N.Nodup)(P:X.N[i]?=À x)(w:Loc X.env.scope x)(r:RelV v u)
  (h:∀s',Inv X Pw (σ.set i (À v)) H s'->(∃a,İ a s.heap s'.heap/\(a=X.env.locals\/X.env.cells.lookup x=À a))->Q () s') (hf:autoParam (X.fn x=Â\/X.env.scope.names.lookup x=À .local) Ax1._auto_1):Î M A (storeName X.env x u) Q E s:=by
 obtain⟨m,hn,hl⟩:=id I.loc;have R:(X.env.scope.kind==.class||(X.env.scope.kind==.module&&X.env.locals !=X.env.globals))=Ä:=by rw[I.ok.kind];rfl
 have F:i<σ.length:=by rw[I.len];exact(zB.mp P).1
 have cne:=I.cne;have g:∀{a:Ç}{L:æ},(∃o,s.heap.get? a=À o/\H a=Á)->İ a s.heap L->HOk X.prog X.w H L:=fun {a L} ha f b ob e=>by
  obtain⟨_,_,B⟩:=ha;refine(I.PJ b ob e).stay (fun c U t q=>(f.2 c ?_).trans q) (fun _ q=>q) fun _ _ q=>q
  rintro rfl;rcases t with rfl|t
  ·rw[B]at e;cases e
  ·rw[B]at t;cases t
 rcases w with D|D
 ·refine wpAny_storeName_local D hn (fun L hn' f=>?_) R
  obtain⟨oL,_,_,hoL,_⟩:=id hn;refine h _ ⟨I.ok,I.os,I.bare,⟨fun b o e n K w=>?_,fun b o e n K w=>?_,I.base.free,fun b o e w=>?_,I.base.tups,I.base.frzs,I.base.tbls⟩,⟨_,hn',fun j y Y l C e3=>?_⟩,fun y c e=>?_,I.free,I.freeC,fun p hp=>?_,g ⟨oL,hoL,I.free⟩ f,by simpa using I.len⟩ ⟨_,f,.inl rfl⟩
  ·exact(f.2 b (zU (zJ (yI e) I.ok.above))).trans (I.base.keep b o e n K w)
  ·obtain⟨sl,l⟩:=I.base.slot b o e n K w
   exact⟨sl,(f.2 b (zU (zJ (yI e) I.ok.above))).trans l⟩
  ·obtain⟨o',l⟩:=I.base.there b o e w
   exact⟨o',(f.2 b (zU (zJ (yI e) I.ok.above))).trans l⟩
  ·by_cases G:j=i
   ·subst G
    rw[P]at l;cases l;rw[ð F]at C;cases C;exact⟨u,r,.inl ⟨D,by simp⟩⟩
   ·rw[î (ä G)]at C
    obtain⟨Z,r',q⟩:=hl j y Y l C e3;refine⟨Z,r',?_⟩;rcases q with⟨k,e⟩|⟨k,c,e,z⟩
    ·refine .inl ⟨k,?_⟩
     have:y≠x:=fun e=>G (tO hN l (e▸P))
     simp[this,e]
    ·exact .inr ⟨k,c,e,z.sameBut f (cne y c e)⟩
  ·obtain⟨U,z⟩:=I.cell y c e
   exact⟨U,z.sameBut f (cne y c e)⟩
  ·obtain⟨e,n,ne,nf,d⟩:=I.pin p hp
   exact⟨(f.2 p.1 ne).trans e,n,ne,nf,d⟩
 ·have J:X.fn x=Â:=by
   rcases hf with z|z
   ·exact z
   ·rw[z]at D;cases D
  obtain⟨c,t⟩:=I.ok.has x (.inl D);obtain⟨U,z⟩:=I.cell x c t;refine wpAny_storeName_cell I.ok.kind D t z (fun L T f=>?_);obtain⟨oc,O,N⟩:=id z;refine h { s with heap:=L } ⟨I.ok,I.os,I.bare,⟨fun b o e n K w=>?_,fun b o e n K w=>?_,I.base.free,fun b o e w=>?_,I.base.tups,I.base.frzs,I.base.tbls⟩,⟨m,hn.sameBut f (ä (cne x c t)),fun j y Y l C e3=>?_⟩,fun y W e=>?_,I.free,I.freeC,fun p hp=>?_,g ⟨oc,O,I.freeC x c t⟩ f,by simpa using I.len⟩ ⟨c,f,.inr t⟩
  ·exact(f.2 b (zU (zJ (yI e) (I.ok.cab x c J t)))).trans (I.base.keep b o e n K w)
  ·obtain⟨sl,l⟩:=I.base.slot b o e n K w
   exact⟨sl,(f.2 b (zU (zJ (yI e) (I.ok.cab x c J t)))).trans l⟩
  ·obtain⟨o',l⟩:=I.base.there b o e w
   exact⟨o',(f.2 b (zU (zJ (yI e) (I.ok.cab x c J t)))).trans l⟩
  ·by_cases G:j=i
   ·subst G
    rw[P]at l;cases l;rw[ð F]at C;cases C;exact⟨u,r,.inr ⟨.inl D,c,t,T⟩⟩
   ·rw[î (ä G)]at C
    obtain⟨Z,r',q⟩:=hl j y Y l C e3;refine⟨Z,r',?_⟩;rcases q with q|⟨k,W,e,z'⟩
    ·exact .inl q
    ·refine .inr ⟨k,W,e,z'.sameBut f ?_⟩
     rintro rfl;exact G (tO hN l (I.ok.inj _ _ _ e t▸P))
  ·by_cases S:W=c
   ·subst S;exact⟨_,T⟩
   ·obtain⟨w2,z2⟩:=I.cell y W e
    exact⟨w2,z2.sameBut f S⟩
  ·obtain⟨e,n,ne,nf,d⟩:=I.pin p hp
   refine⟨(f.2 p.1 ?_).trans e,n,ne,nf,d⟩;intro q;rw[q,O]at e;have q':oc=p.2:=yD e;exact d U (by rw[<- q'];exact N)
theorem tx{i:Nat}(I:Inv X Pw σ H s)(d:X.N.Nodup)(b:X.N[i]?=À x)(a:Loc X.env.scope x)(r:RelV v u)
  (h:∀s',Inv X Pw (σ.set i (À v)) H s'->Q () s') (c:autoParam (X.fn x=Â\/X.env.scope.names.lookup x=À .local) Ax1._auto_1):Î M A (storeName X.env x u) Q E s :=
 re I d b a r (fun s' e _=>h s' e) c
theorem Inv.call'(I:Inv X Pw σ H s)(f:s'.os=s.os)(u:Un (kx X.stack) ch H H' s.heap s'.heap)(h:HOk X.prog X.w H' s'.heap)(g:ϐ s'.gens)
  (a:∀b∈ch,(b∈X.ex\/X.s₀.heap.objs.size<=b)/\b≠X.env.locals/\(∀x c,X.env.cells.lookup x=À c->c≠b)/\∀p∈X.pn++Pw,p.1≠b):Inv X Pw σ H' s':=by
 obtain⟨i,g',d',t',d⟩:=s';have e:d=s.os:=f;subst e;exact I.call (g':=g') (t':=t') (d':=d') u h g a
end
abbrev XK:=Å->Option Ç->Hp->Prop
abbrev St:=List (Option V)
abbrev VK:=V->Hp->Prop
abbrev TE:=St->Hp->VK->Prop
abbrev TT:=St->Hp->(Bool->Hp->Prop)->Prop
abbrev TA:=St->Hp->(List V->Hp->Prop)->Prop
structure lj where
 nx:St->Hp->Prop
 rt:VK
 bk:St->Hp->Prop:=fun _ _=>False
 ct:St->Hp->Prop:=fun _ _=>False
abbrev TS:=lj->St->Hp->Prop
def EP(X:Cx)(Pw:List (Ç×Obj))(σ:St)(Q:VK)(u:Å)(s':È):Prop:=∃v a,Inv X Pw σ a s'/\RelV v u/\Q v a
def TP(X:Cx)(Pw:List (Ç×Obj))(σ:St)(Q:Bool->Hp->Prop)(b:Bool)(s':È):Prop:=∃a,Inv X Pw σ a s'/\Q b a
def AP(X:Cx)(Pw:List (Ç×Obj))(σ:St)(Q:List V->Hp->Prop)(us:List Å)(s':È):Prop:=∃a b,Inv X Pw σ b s'/\Vals a us/\Q a b
def SP(X:Cx)(Pw:List (Ç×Obj))(D:lj)(f:Flow)(s':È):Prop :=
 match f with
 |.next=>∃a b,Inv X Pw a b s'/\D.nx a b
 |.brk=>∃a b,Inv X Pw a b s'/\D.bk a b
 |.cont=>∃a b,Inv X Pw a b s'/\D.ct a b
 |.ret u=>∃v a b,Inv X Pw a b s'/\RelV v u/\D.rt v b
def PE(X:Cx)(e:Ï)(t:TE):Prop :=
 ∀(b:List (Ç×Obj))(s:È)(a:St)(H:Hp)(Q:VK),Inv X b a H s->t a H Q->Î (model X.prog X.w) X.A (eval e X.env) (EP X b a Q) X.xe s
def PT(X:Cx)(e:Ï)(t:TT):Prop :=
 ∀(b:List (Ç×Obj))(s:È)(a:St)(H:Hp)(Q:Bool->Hp->Prop),Inv X b a H s->t a H Q->Î (model X.prog X.w) X.A (B? e X.env (eval e X.env)) (TP X b a Q) X.xe s
def PW(X:Cx)(e:Ï)(t:TT):Prop :=
 ∀(a:Y3 Å)(c:List (Ç×Obj))(s:È)(b:St)(H:Hp)(Q:Bool->Hp->Prop),Inv X c b H s->t b H Q->Î (model X.prog X.w) X.A (B? e X.env a) (TP X c b Q) X.xe s
theorem PW.pt(h:PW X e t):PT X e t:=h _
def PA(X:Cx)(es:List Ï)(t:TA):Prop :=
 ∀(b:Ĝ)(c:List (Ç×Obj))(s:È)(a:St)(H:Hp)(Q:List V->Hp->Prop),Inv X c a H s->t a H Q->Î (model X.prog X.w) X.A (spliced (ù b (Ê es X.env))) (AP X c a Q) X.xe s
def PS(X:Cx)(st:ľ)(t:TS):Prop :=
 ∀(b:List (Ç×Obj))(s:È)(a:St)(H:Hp)(D:lj),Inv X b a H s->t D a H->Î (model X.prog X.w) X.A (exec st X.env) (SP X b D) X.xe s
def PSs(X:Cx)(st:List ľ)(t:TS):Prop :=
 ∀(b:List (Ç×Obj))(s:È)(a:St)(H:Hp)(D:lj),Inv X b a H s->t D a H->Î (model X.prog X.w) X.A (execs st X.env) (SP X b D) X.xe s
theorem aB{α:Type}{t:Y3 α}{Q Q':α->È->Prop}(h:Î M A t Q E s)(b:∀a s,Q a s->Q' a s):Î M A t Q' E s:=yS h b fun _ _ x=>x
section
variable{X:Cx}
theorem bin{a b:Ï}{e d:TE}(m:PE X a e)(l:PE X b d){Pw:List (Ç×Obj)}{s:È}{σ:St}{H:Hp}{R:V->V->Hp->Prop}(I:Inv X Pw σ H s)(h:e σ H fun x H1=>d σ H1 fun y H2=>R x y H2)
  {α:Type}{Q:α->È->Prop}{f:Å->Å->Y3 α}
  (k:∀v u s2 x y H2,Inv X Pw σ H2 s2->RelV x v->RelV y u->R x y H2->Î (model X.prog X.w) X.A (f v u) Q X.xe s2) :
  Î (model X.prog X.w) X.A (eval a X.env) (fun v s₁=>Î (model X.prog X.w) X.A (eval b X.env) (fun u s₂=>Î (model X.prog X.w) X.A (f v u) Q X.xe s₂) X.xe s₁) X.xe s:=by
 refine aB (m Pw s σ H _ I h) fun v g c=>?_
 obtain⟨x,H1,o,r1,j⟩:=c;refine aB (l Pw g σ H1 _ o j) fun u s2 c=>?_
 obtain⟨y,H2,n,r2,i⟩:=c;exact k v u s2 x y H2 n r1 r2 i
noncomputable def MH(i:Nat):TE:=fun a H Q=>∃v,a[i]?=À (À v)/\Q v H
noncomputable def tC(v:V):TE:=fun _ H Q=>Q v H
theorem Hr{i:Nat}(p:X.N[i]?=À x)(j:A2 X.env.scope x)(hd:autoParam ((x==("__debug__":Í))=Ä) Ax0._auto_1)(d:autoParam ((x==("__classdict__":Í))=Ä) Ax0._auto_1):PE X (.Name x pos) (MH i):=by
 intro q s g H Q I h;obtain⟨v,e,h⟩:=h;obtain⟨m,k,o⟩:=I.loc;obtain⟨u,r,l⟩:=o i x v p e j;have au:EP X q g Q u s:=⟨v,H,I,r,h⟩;rcases l with⟨b,n⟩|⟨b,c,f,a⟩
 ·exact W1 (wpAny_loadName_local I.ok.kind b k n au) hd
 ·rcases b with b|b
  ·exact W1 (wpAny_loadName_cell I.ok.kind b f a au) hd
  ·exact W1 (wpAny_loadName_free I.ok.kind b f a au d) hd
theorem Hx{i j pos}:PE X (.Constant (.int i) j pos) (tC (.int i)):=fun _ _ _ H _ I h=>wpAny_Constant_int ⟨.int i,H,I.tok _,⟨_,rfl⟩,h⟩
theorem Ks{b j pos}:PE X (.Constant (.bool b) j pos) (tC (.bl b)):=fun _ _ _ H _ I h=>Constant_bool ⟨.bl b,H,I,rfl,h⟩
theorem Hw{j pos}:PE X (.Constant .none j pos) (tC .non):=fun _ _ _ H _ I h=>Q! ⟨.non,H,I,rfl,h⟩
theorem Ht{x j pos}:PE X (.Constant (.str x) j pos) (tC (.str x)):=fun _ _ _ H _ I h=>Calls.Constant_str ⟨.str x,H,I.tok _,⟨_,rfl⟩,h⟩
def Gl(X:Cx)(x:Í):Prop:=X.env.kindOf x=À .globalImplicit
theorem mV(I:Inv X Pw σ H s)(b:Gl X x)(a:X.mg x=À u)(h:Q u s)
  (hd:autoParam ((x==("__debug__":Í))=Ä) Ax0._auto_1):Î (model X.prog X.w) X.A (eval (.Name x pos) X.env) Q E s :=
 Calls.Name_function_global I.ok.kind b (Calls.loadGlobal_global (by rw[I.ok.glob];exact I.mod.glob.keeps I.bk) a h) hd
theorem dJ(I:Inv X Pw σ H s)(d:Gl X x)(c:X.mg x=Á)(a:á x=À u)(h:Q u s)
  (b:autoParam (x≠"__name__") Ax0._auto_1) (hd:autoParam ((x==("__debug__":Í))=Ä) Ax0._auto_1):Î (model X.prog X.w) X.A (eval (.Name x pos) X.env) Q E s:=by
 obtain⟨g,f,e⟩:=I.mod.blt;exact Calls.Name_function_global I.ok.kind d (Calls.loadGlobal_builtin (by rw[I.ok.glob];exact I.mod.glob.keeps I.bk) c (by rw[I.ok.blt];exact f.keeps I.bk) ((e x b).trans a) h) hd
theorem E4(b:Gl X x)(a:X.mg x=À u)(r:RelV v u)(hd:autoParam ((x==("__debug__":Í))=Ä) Ax0._auto_1):PE X (.Name x pos) (tC v) :=
 fun _ _ _ H _ I h=>mV I b a ⟨v,H,I,r,h⟩ hd
variable{a b:Ï}{ta tb:TE}{pos:Ĝ}
theorem RelV.none_iff(r:RelV x v):(v==ŭ)=decide (x=.non):=by
 cases x with
 |non=>cases r;rfl
 |bl _=>cases r;rfl
 |int _=>obtain⟨t,rfl⟩:=r;rfl
 |str _=>obtain⟨t,rfl⟩:=r;rfl
 |byt _=>obtain⟨t,rfl⟩:=r;rfl
 |flt _=>obtain⟨t,rfl⟩:=r;rfl
 |ref _=>cases r;rfl
 |ty _=>cases r;rfl
variable{tA tB':TT}{rest:List Ï}
noncomputable def MT(t u:TT):TT:=fun a H Q=>t a H fun c b=>if c=Â then u a b Q else Q Ä b
noncomputable def NY(t u:TT):TT:=fun a H Q=>t a H fun c b=>if c=Â then Q Â b else u a b Q
noncomputable def MN(t:TT):TT:=fun a H Q=>t a H fun c b=>Q (!c) b
theorem EK(d:PT X a tA):PW X (.BoolOp .And [a] pos) tA:=by
 intro g f s b H Q I h;refine isTrue_and (aB (d f s b H Q I h) fun c i e=>?_);cases c with
 |true=>exact isTrue_and_nil e
 |false=>exact e
theorem Hc(d:PT X a tA):PW X (.BoolOp .Or [a] pos) tA:=by
 intro g f s b H Q I h;refine isTrue_or (aB (d f s b H Q I h) fun c i e=>?_);cases c with
 |false=>exact isTrue_or_nil e
 |true=>exact e
theorem He(n:PT X a tA)(m:PW X (.BoolOp .And (b::rest) pos) tB'):PW X (.BoolOp .And (a::b::rest) pos) (MT tA tB'):=by
 intro k g s e H Q I h;refine isTrue_and (aB (n g s e H _ I h) fun c l d=>?_);obtain⟨j,i,f⟩:=d;cases c with
 |true=>exact m k g l e j Q i f
 |false=>exact⟨j,i,f⟩
theorem Kd(n:PT X a tA)(m:PW X (.BoolOp .Or (b::rest) pos) tB'):PW X (.BoolOp .Or (a::b::rest) pos) (NY tA tB'):=by
 intro k g s e H Q I h;refine isTrue_or (aB (n g s e H _ I h) fun c l d=>?_);obtain⟨j,i,f⟩:=d;cases c with
 |true=>exact⟨j,i,f⟩
 |false=>exact m k g l e j Q i f
theorem Hf(d:PT X a tA):PT X (.UnaryOp .Not a pos) (MN tA):=by
 intro e s b H Q I h;exact isTrue_not (d e s b H (fun c f=>Q (!c) f) I h)
noncomputable def JN(e d:TE):TE:=fun a H Q=>e a H fun x b=>∃c,x=.bl c/\if c=Â then d a b Q else Q (.bl Ä) b
noncomputable def MM(e d:TE):TE:=fun a H Q=>e a H fun x b=>∃c,x=.bl c/\if c=Â then Q (.bl Â) b else d a b Q
noncomputable def JJ(b:TE):TE:=fun a H Q=>b a H fun x d=>∃c,x=.bl c/\Q (.bl (!c)) d
theorem Hu{c}(h:PE X a t):PE X (.BoolOp c [a] pos) t:=fun e s b H Q I d=>BoolOp_one (h e s b H Q I d)
theorem HB(m:PE X a ta)(l:PE X (.BoolOp .And (b::rest) pos) tb):PE X (.BoolOp .And (a::b::rest) pos) (JN ta tb):=by
 intro g s f H Q I h;refine BoolOp_and (aB (m g s f H _ I h) fun v k e=>?_);obtain⟨x,j,i,r1,d⟩:=e;obtain⟨c,rfl,d⟩:=d;cases r1;refine ď ?_;cases c with
 |true=>exact l g k f j Q i d
 |false=>exact⟨.bl Ä,j,i,rfl,d⟩
theorem Kn(m:PE X a ta)(l:PE X (.BoolOp .Or (b::rest) pos) tb):PE X (.BoolOp .Or (a::b::rest) pos) (MM ta tb):=by
 intro g s f H Q I h;refine BoolOp_or (aB (m g s f H _ I h) fun v k e=>?_);obtain⟨x,j,i,r1,d⟩:=e;obtain⟨c,rfl,d⟩:=d;cases r1;refine ď ?_;cases c with
 |false=>exact l g k f j Q i d
 |true=>exact⟨.bl Â,j,i,rfl,d⟩
theorem Hv(f:PE X a ta):PE X (.UnaryOp .Not a pos) (JJ ta):=by
 intro g s e H Q I h;refine UnaryOp_ (aB (f g s e H _ I h) fun v k d=>?_);obtain⟨x,j,i,r1,b⟩:=d;obtain⟨c,rfl,b⟩:=b;cases r1;exact not_of (ď ⟨.bl (!c),j,i,rfl,b⟩)
noncomputable def NZ(t:TT)(e d:TE):TE:=fun a H Q=>t a H fun c b=>if c=Â then e a b Q else d a b Q
theorem BU(m:PT X c tA)(o:PE X a ta)(n:PE X b tb):PE X (.IfExp c a b pos) (NZ tA ta tb):=by
 intro g s e H Q I h;refine wpAny_IfExp (aB (m g s e H _ I h) fun d i f=>?_);obtain⟨l,k,j⟩:=f;cases d with
 |true=>exact o g i e l Q k j
 |false=>exact n g i e l Q k j
end
def bJ(K:Ü)(H:Hp)(a:Ç)(xs:List V):Prop :=
 Rd H a (.lst xs) \/
  ∃(o:Y5)(b:Array Å)(n:Nat),K.lookup a=À o/\o.cls=.type "list"/\o.dict=Á/\o.data=.seq b n/\b.size<=Ë/\Vals xs b.toList
def gO(K:Ü)(H:Hp)(a:Ç)(xs:List V):Prop :=
 Rd H a (.tup xs) \/
  ∃(o:Y5)(b:Array Å)(n:Nat),K.lookup a=À o/\o.cls=.type "tuple"/\o.data=.seq b n/\b.size<=Ë/\Vals xs b.toList
noncomputable def NB:Å->Option V
 |.none=>À .non
 |.bool b=>À (.bl b)
 |.int i _=>À (.int i)
 |.str x _=>À (.str x)
 |.bytes b _=>À (.byt b)
 |.float b _=>À (.flt b)
 |.ref a=>À (.ref a)
 |.type n=>À (.ty n)
 |_=>Á
theorem RelV.abs(r:RelV x u):NB u=À x:=by
 cases x with
 |non=>cases r;rfl
 |bl _=>cases r;rfl
 |int _=>obtain⟨t,rfl⟩:=r;rfl
 |str _=>obtain⟨t,rfl⟩:=r;rfl
 |byt _=>obtain⟨t,rfl⟩:=r;rfl
 |flt _=>obtain⟨t,rfl⟩:=r;rfl
 |ref _=>cases r;rfl
 |ty _=>cases r;rfl
theorem RelV.inj(r:RelV x u)(q:RelV y u):x=y:=yD (r.abs.symm.trans q.abs)
theorem Vals.inj{xs ys:List V}{us:List Å}(h:Vals xs us):Vals ys us->xs=ys:=by
 induction h generalizing ys with
 |nil=>intro a;cases a;rfl
 |cons r t d =>
  intro a;cases a with
  |cons c b=>rw[r.inj c,d b]
section
variable{X:Cx}{Pw:List (Ç×Obj)}{σ:St}{H:Hp}{s:È}{a:Ç}{xs ys:List V}
theorem Inv.list(I:Inv X Pw σ H s)(h:bJ X.K H a xs):∃PB:List Å,Vals xs PB/\PlainL s.heap a PB.toArray/\xs.length<=Ë:=by
 rcases h with h|⟨o,PB,n,c,d,hd,b,hz,r⟩
 ·obtain⟨z,PB,n,r,e⟩:=h.ok I.PJ
  exact⟨PB,r,⟨_,n,e,rfl,rfl,rfl⟩,z⟩
 ·refine⟨PB.toList,r,⟨o,n,I.kIn a o c,d,hd,by simpa using b⟩,?_⟩
  have e:=r.length;simp only[é]at e;lia
theorem Inv.tuple(I:Inv X Pw σ H s)(h:gO X.K H a xs):∃PB:List Å,Vals xs PB/\IsTup s.heap a PB.toArray/\xs.length<=Ë:=by
 rcases h with h|⟨o,PB,n,c,d,b,hz,r⟩
 ·obtain⟨z,PB,r,p⟩:=h.ok I.PJ
  exact⟨PB,r,p,z⟩
 ·refine⟨PB.toList,r,⟨o,I.kIn a o c,d,n,by simpa using b⟩,?_⟩
  have e:=r.length;simp only[é]at e;lia
theorem Inv.list_inj(I:Inv X Pw σ H s)(h:bJ X.K H a xs)(h':bJ X.K H a ys):xs=ys:=by
 obtain⟨i,r,⟨o,n,e,_,_,d⟩,_⟩:=I.list h;obtain⟨b,g,⟨j,k,c,_,_,f⟩,_⟩:=I.list h';rw[e]at c;cases c;rw[d]at f;injection f with d1 _;have:i=b:=by simpa using congrArg X0 d1
 subst this;exact r.inj g
theorem Inv.tuple_inj(I:Inv X Pw σ H s)(h:gO X.K H a xs)(h':gO X.K H a ys):xs=ys:=by
 obtain⟨i,r,⟨o,e,_,n,d⟩,_⟩:=I.tuple h;obtain⟨b,g,⟨j,c,_,k,f⟩,_⟩:=I.tuple h';rw[e]at c;cases c;rw[d]at f;injection f with d1 _;have:i=b:=by simpa using congrArg X0 d1
 subst this;exact r.inj g
end
noncomputable abbrev Cx.wish(X:Cx)(E:Å->È->Prop):Cx:={ X with xe:=E }
abbrev Cx.nox(X:Cx):Cx:=X.wish fun _ _=>False
theorem Cx.Ok.wish{X:Cx}(ok:X.Ok)(E:Å->È->Prop):(X.wish E).Ok :=
 ⟨ok.mod,ok.kind,ok.glob,ok.blt,ok.above,ok.inj,ok.has,ok.cab,ok.hd,ok.frames,ok.stk,ok.exf,ok.bs,ok.bsz,ok.noex,ok.exfs,ok.funs,ok.frf⟩
theorem Cx.Ok.unwish{X:Cx}{E:Å->È->Prop}(ok:(X.wish E).Ok):X.Ok :=
 ⟨ok.mod,ok.kind,ok.glob,ok.blt,ok.above,ok.inj,ok.has,ok.cab,ok.hd,ok.frames,ok.stk,ok.exf,ok.bs,ok.bsz,ok.noex,ok.exfs,ok.funs,ok.frf⟩
section
variable{X:Cx}{Pw:List (Ç×Obj)}{σ:St}{H:Hp}{s:È}{E:Å->È->Prop}
theorem Inv.wish(I:Inv X Pw σ H s)(E:Å->È->Prop):Inv (X.wish E) Pw σ H s:=⟨I.ok.wish E,I.os,I.bare,I.base,I.loc,I.cell,I.free,I.freeC,I.pin,I.PJ,I.len⟩
theorem Inv.unwish(I:Inv (X.wish E) Pw σ H s):Inv X Pw σ H s:=⟨I.ok.unwish,I.os,I.bare,I.base,I.loc,I.cell,I.free,I.freeC,I.pin,I.PJ,I.len⟩
theorem SP.unwish(h:SP (X.wish E) Pw D f s'):SP X Pw D f s':=by
 cases f with
 |next=>obtain⟨a,b,I,q⟩:=h;exact⟨a,b,I.unwish,q⟩
 |brk=>obtain⟨a,b,I,q⟩:=h;exact⟨a,b,I.unwish,q⟩
 |cont=>obtain⟨a,b,I,q⟩:=h;exact⟨a,b,I.unwish,q⟩
 |ret u=>obtain⟨v,a,b,I,r,q⟩:=h;exact⟨v,a,b,I.unwish,r,q⟩
theorem PSs.nox{st:List ľ}{t:TS}(h:PSs X.nox st t):PSs X st t:=fun c s a H D I b =>
 yS (h c s a H D (I.wish _) b) (fun _ _ q=>q.unwish) fun _ _ z=>False.elim z
end
section
variable{X:Cx}{st:ľ}{rest:List ľ}{t u:TS}{e:Ï}{te:TE}{pos:Ĝ}
noncomputable def JK:TS:=fun D a H=>D.nx a H
noncomputable def MK(t u:TS):TS:=fun D a H=>t { D with nx:=u D } a H
theorem EM:PSs X [] JK:=fun _ _ a H _ I h=>r? ⟨a,H,I,h⟩
theorem BH(g:PS X st t)(e:PSs X rest u):PSs X (st::rest) (MK t u):=by
 intro b s c H D I h;refine wpAny_execs_cons (aB (g b s c H { D with nx:=u D } I h) fun f d q=>?_);cases f with
 |next =>
  obtain⟨a,j,i,q⟩:=q;exact e b d a j D i q
 |ret v=>exact q
 |brk=>exact q
 |cont=>exact q
theorem Inv.quiet(I:Inv X Pw σ H s):interactive X.env=Ä:=by simp[interactive,I.ok.kind]
noncomputable def JL(te:TE):TS:=fun D a H=>te a H fun _ b=>D.nx a b
theorem EO(he:PE X e te)(c:autoParam (Ľ e Á pos.line X.env=pure Ä) Ax2._auto_1):PS X (.Expr e pos) (JL te):=by
 intro d s a H D I h;exact wpAny_Expr_any (aB (he d s a H _ I h) fun v i ⟨x,g,f,r1,b⟩=>⟨a,g,f,b⟩) I.quiet c
noncomputable def ML(te:TE):TS:=fun D a H=>te a H D.rt
theorem Hh(he:PE X e te):PS X (.Return (À e) pos) (ML te):=by
 intro c s a H D I h;exact wpAny_Return_some (aB (he c s a H _ I h) fun v g ⟨x,f,d,r1,b⟩=>⟨x,a,f,d,r1,b⟩)
noncomputable def MP(c:TT)(t u:TS):TS:=fun D a H=>c a H fun b d=>if b=Â then t D a d else u D a d
theorem Kf(m:PT X c tc)(o:PSs X a t)(n:PSs X b u):PS X (.If c a b pos) (MP tc t u):=by
 intro g s e H D I h;refine wpAny_If (aB (m g s e H _ I h) fun d i f=>?_);obtain⟨l,k,j⟩:=f;cases d with
 |true=>exact o g i e l D k j
 |false=>exact n g i e l D k j
noncomputable def Gf:TS:=fun _ _ _=>False
theorem BJ:PS X st Gf:=fun _ _ _ _ _ _ h=>h.elim
end
abbrev TG:=V->St->Hp->(St->Hp->Prop)->Prop
abbrev vf:=List V->St->Hp->(St->Hp->Prop)->Prop
def PG(X:Cx)(a:Ï)(t:TG):Prop :=
 ∀(d:List (Ç×Obj))(s:È)(c:St)(H:Hp)(v:V)(u:Å)(Q:St->Hp->Prop),Inv X d c H s->RelV v u->t v c H Q ->
  Î (model X.prog X.w) X.A (assign a X.env u) (fun _ f=>∃b e,Inv X d b e f/\Q b e) X.xe s
def sy(X:Cx)(ts:List Ï)(t:vf):Prop :=
 ∀(e:List (Ç×Obj))(s:È)(b:St)(H:Hp)(c:List V)(d:List Å)(Q:St->Hp->Prop),Inv X e b H s->Vals c d->t c b H Q ->
  Î (model X.prog X.w) X.A (assignInOrder ((Þ ts X.env).map (·.2)) d) (fun _ g=>∃a f,Inv X e a f g/\Q a f) X.xe s
abbrev CM:=V->V->V->Hp->(Hp->Prop)->Prop
def xY(X:Cx)(t:CM):Prop :=
 ∀(d:List (Ç×Obj))(s:È)(a:St)(H:Hp)(o i v:V)(b c u:Å)(Q:Hp->Prop),Inv X d a H s->RelV o b->RelV i c->RelV v u->t o i v H Q ->
  Î (model X.prog X.w) X.A (ϡ b c u) (fun _ f=>∃e,Inv X d a e f/\Q e) X.xe s
abbrev Ju:=V->V->Hp->VK->Prop
def DL(X:Cx)(c:ġ)(t:Ju):Prop :=
 ∀(b:List (Ç×Obj))(s:È)(a:St)(H:Hp)(x y:V)(v u:Å)(Q:VK),Inv X b a H s->RelV x v->RelV y u->t x y H Q ->
  Î (model X.prog X.w) X.A (inplaceOp c v u) (EP X b a Q) X.xe s
section
variable{X:Cx}{pos:Ĝ}
noncomputable def pR(i:Nat):TG:=fun v a H Q=>Q (a.set i (À v)) H
theorem EZ{i:Nat}(d:X.N.Nodup)(b:X.N[i]?=À x)(a:Loc X.env.scope x)(c:autoParam (X.fn x=Â\/X.env.scope.names.lookup x=À .local) Ax1._auto_1):PG X (.Name x pos) (pR i):=by
 intro j s f H v u Q I r h;exact X1 (tx I d b a r (fun g e=>⟨_,H,e,h⟩) c)
noncomputable def Nr:vf:=fun b a H Q=>b=[]/\Q a H
noncomputable def K1(t:TG)(u:vf):vf:=fun c b H Q=>∃v r,c=v::r/\t v b H fun a d=>u r a d Q
theorem EX:sy X [] Nr:=by
 intro d s a H b c Q I r h;obtain⟨e,h⟩:=h;subst e;cases r;exact assignInOrder_nil ⟨a,H,I,h⟩
theorem BO(l:PG X e t)(k:sy X es u)
  (j:autoParam ((Þ (e::es) X.env).map (·.2)=assign e X.env::(Þ es X.env).map (·.2)) Ax2._auto_1):sy X (e::es) (K1 t u):=by
 intro c s d H p w Q I r h;obtain⟨v,q,m,h⟩:=h;subst m;cases r with
 |cons r g =>
  rw[j];refine assignInOrder_cons (aB (l c s d H _ _ _ I r h) fun _ f b=>?_);obtain⟨a,o,n,i⟩:=b;exact k c f a o _ _ Q n g i
noncomputable def Np(K:Ü)(n:Nat)(t:vf):TG:=fun v c H Q=>∃a b,v=.ref a/\gO K H a b/\b.length=n/\t b c H Q
theorem Ho{k:Nat}{n:Nat}(x:X.calm=Â)(h:sy X es t)
  (q:autoParam ((Þ es X.env).length=n) Ax2._auto_1) (d:autoParam ((Þ es X.env).findIdx? (·.1)=Á) Ax2._auto_1):PG X (.Tuple es k pos) (Np X.K n t):=by
 intro i s f H v u Q I r c;obtain⟨a,j,z,p,w,c⟩:=c;subst z;cases r;obtain⟨B,g,m,hz⟩:=I.tuple p;refine assign_Tuple_tuple (I.ok.hd x) m (by simp[q,<- w,g.length]) d fun y l=>?_
 have A:Inv X i f H { s with heap:=y }:=I.kept (t':=s.toks) fun b o e=>l b o (zU (yI e)) e
 exact h i _ f H j _ Q A (by simpa using g) c
noncomputable def Nq(to b:TE)(t:CM):TG:=fun v a H Q=>to a H fun o e=>b a e fun i d=>t o i v d fun c=>Q a c
theorem Hq(l:PE X o to)(m:PE X i ti)(k:xY X t)
  (n:autoParam (∀v,assign (.Subscript o i pos) X.env v=(do
   let ov <- holding [v] (eval o X.env)
   let iv <- holding [v,ov] (eval i X.env)
   Ŕ pos
   holding [v,ov,iv] (ϡ ov iv v)
   release [v,ov,iv] [])) Ax3._auto_1):PG X (.Subscript o i pos) (Nq to ti t):=by
 intro c s b H v u Q I r h;rw[n];refine yE (yR (aB (l c s b H _ I h) fun ov e a=>?_));obtain⟨x,B,w,r1,j⟩:=a;refine yE (yR (aB (m c e b B _ w j) fun iv d a=>?_));obtain⟨y,A,q,r2,g⟩:=a;refine yE (ų (yE (yR (aB (k c d b A x y v ov iv u _ q r1 r2 r g) fun _ C a=>?_))));obtain⟨z,p,f⟩:=a;exact wpAny_release ⟨b,z,p,f⟩
noncomputable def wY(te:TE)(g:TG):TS:=fun D a H=>te a H fun x b=>g x a b D.nx
theorem Hj(he:PE X e te)(k:PG X tg g)(j:autoParam (Ϭ [tg] e pos.line X.env=pure Ä) Ax2._auto_1)(i:autoParam (ϭ [tg] e X.env=pure Á) Ax2._auto_1)
  (l:autoParam ((Þ [tg] X.env).map (·.2)=[assign tg X.env]) Ax2._auto_1):PS X (.Assign [tg] e pos) (wY te g):=by
 intro c s b H D I h;refine wpAny_Assign_stores (aB (he c s b H _ I h) fun v d a=>?_) j i;obtain⟨x,n,m,r1,f⟩:=a;rw[l];exact aB (k c d b n x v _ m r1 f) fun _ o q=>q
theorem Hg{i:Nat}(k:X.N.Nodup)(g:X.N[i]?=À x)(d:Loc X.env.scope x)(he:PE X e te)(f:autoParam (Ľ e (À (.Name x pos')) pos.line X.env=pure Ä) Ax2._auto_1)(j:autoParam (X.fn x=Â\/X.env.scope.names.lookup x=À .local) Ax1._auto_1) :
  PS X (.Assign [.Name x pos'] e pos) (wY te (pR i)):=by
 intro l s b H D I h;refine wpAny_Assign_Name (aB (he l s b H _ I h) fun v q a=>?_) f;obtain⟨y,o,n,r1,c⟩:=a;exact tx n k g d r1 (fun p m=>⟨_,o,m,c⟩) j
def JM(to e te:TE)(b:V->V->Hp->VK->Prop)(d:Ju)(a:CM):TS:=fun D c H=>to c H fun o l=>e c l fun i k=>b o i k fun x j=>te c j fun y h=>d x y h fun z g=>a o i z g fun f=>D.nx c f
def CN(X:Cx)(t:V->V->Hp->VK->Prop):Prop :=
 ∀(d:List (Ç×Obj))(s:È)(a:St)(H:Hp)(o i:V)(b c:Å)(Q:VK),Inv X d a H s->RelV o b->RelV i c->t o i H Q ->
  Î (model X.prog X.w) X.A (d! b c) (EP X d a Q) X.xe s
theorem EQ(G:PE X o to)(J:PE X i ti)(K:CN X tget)(he:PE X e te)(F:DL X op tip)(E:xY X tset)
  (L:∀ov iv new,augStore i ov iv new=(do holding [new,ov,iv] (ϡ ov iv new);release [new,ov,iv] [];pure .next):=by intros;rfl):PS X (.AugAssign (.Subscript o i tpos) op e pos) (JM to ti te tget tip tset):=by
 intro c s b H D I h;refine wpAny_AugAssign_SubscriptAny (aB (G c s b H _ I h) fun ov r a=>?_) L;obtain⟨g,Y,R,r1,C⟩:=a;refine aB (J c r b Y _ R C) fun iv q a=>?_
 obtain⟨f,W,Q,r2,B⟩:=a;refine aB (K c q b W g f ov iv _ Q r1 r2 B) fun d p a=>?_
 obtain⟨l,V,P,w,A⟩:=a;refine aB (he c p b V _ P A) fun v n a=>?_
 obtain⟨k,U,O,u,z⟩:=a;refine aB (F c n b U l k d v _ O w u z) fun new m a=>?_
 obtain⟨j,T,N,t,y⟩:=a;exact aB (E c m b T g f j ov iv new _ N r1 r2 t y) fun _ Z ⟨S,M,x⟩=>⟨b,S,M,x⟩
noncomputable def L8(f:Int->Int->Int):Ju:=fun x y H Q=>∃i j,x=.int i/\y=.int j/\Q (.int (f i j)) H
theorem ID:DL X .Add (L8 fun i j=>i+j):=by
 intro e s c H x y v u Q I r1 r2 h;obtain⟨i,j,b,a,q⟩:=h;subst b;subst a;obtain⟨t,rfl⟩:=r1;obtain⟨d,rfl⟩:=r2;exact iadd_int ⟨.int _,H,I.tok _,⟨_,rfl⟩,q⟩
theorem IC:DL X .Sub (L8 fun i j=>i-j):=by
 intro e s c H x y v u Q I r1 r2 h;obtain⟨i,j,b,a,q⟩:=h;subst b;subst a;obtain⟨t,rfl⟩:=r1;obtain⟨d,rfl⟩:=r2;exact isub_int ⟨.int _,H,I.tok _,⟨_,rfl⟩,q⟩
end
section
variable{X:Cx}{pos:Ĝ}
def Ga(c:TT)(h:TS):TS:=fun D a H=>∃W:Nat->St->Hp->Prop,(∃m,W m a H)/\∀m a H,W m a H ->
 c a H fun b f=>if b=Â then ∃N:St->Hp->Prop,(∀d g,N d g->∃e,e<m/\W e d g)/\h { D with nx:=N,ct:=N,bk:=D.nx } a f else D.nx a f
theorem BI(t:ϣ (model X.prog X.w) X.A X.env X.xe)(K:PT X c tc)(L:PSs X body tb):PS X (.While c body [] pos) (Ga tc tb):=by
 intro q s A H D I h;obtain⟨W,⟨J,C⟩,turn⟩:=h;refine wpAny_While (codeAny_whileLoop (fun n G=>∃e z,Inv X q e z G/\W n e z) ?_ J ⟨A,H,I,C⟩);rintro n F ⟨d,y,M,B⟩;refine Ĭ t (aB (K q F d y _ M (turn n d y B)) fun b E o=>?_);obtain⟨x,w,j⟩:=o;cases b with
 |true =>
  obtain⟨N,u,j⟩:=j;rw[yH rfl];refine Ĭ t (aB (L q E d x _ w j) fun f O i=>?_);cases f with
  |next =>
   obtain⟨a,g,r,l⟩:=i;obtain⟨m,p,k⟩:=u a g l;exact⟨m,p,a,g,r,k⟩
  |cont =>
   obtain⟨a,g,r,l⟩:=i;obtain⟨m,p,k⟩:=u a g l;exact⟨m,p,a,g,r,k⟩
  |brk=>exact i
  |ret v=>exact i
 |false =>
  rw[yG ğ];exact r? ⟨d,x,w,j⟩
end
structure It where
 go:Nat->Hp->Prop
 yld:Nat->Hp->V->Hp->Prop
 stop:Nat->Hp->Prop
def d6(X:Cx)(Pw:List (Ç×Obj))(H:Hp)(b:Ç):Prop :=
 H b=Á/\b≠X.env.locals/\b∉X.fs/\(b∈X.ex\/X.s₀.heap.objs.size<=b)/\(∀x c,X.env.cells.lookup x=À c->c≠b)/\∀p∈X.pn++Pw,p.1≠b
theorem Inv.fpOk(I:Inv X Pw σ H s)(a:s.heap.objs.size<=b)(f:H' b=Á):d6 X Pw H' b:=by
 refine⟨f,Ĵ (zJ I.lt a),I.nofs a,.inr (z5 I.sz a),fun x c e z=>?_,fun p d z=>?_⟩
 ·obtain⟨v,q⟩:=I.cell x c e
  exact absurd (zJ q.lt (by rw[z];exact a)) (y0 _)
 ·exact absurd (zJ (yI (I.pin p d).1) (by rw[z];exact a)) (y0 _)
structure j2(P:Ò)(w:Ù)(K:Ü)(tg:Ï)(J:It)(fp:List Ç)(it:Ç)(tn:Nat->æ->Prop):Prop where
 mem:it∈fp
 obj:∀i h,tn i h->∀b∈fp,∃o,h.get? b=À o/\∀v,o.data≠.cell v
 keep:∀i h h',tn i h->(∀b∈fp,∀o,h.get? b=À o->h'.get? b=À o)->tn i h'
 item:∀(X:Cx),X.prog=P->X.w=w->X.K=K->X.calm=Â->∀(i:Nat)(Pw:List (Ç×Obj))(s:È)(σ:St)(H:Hp)(E:Å->È->Prop),Inv X Pw σ H s->(∀b∈fp,d6 X Pw H b)->tn i s.heap->J.go i H ->
  Î (model P w) X.A (A! (.ref it)) (fun r s1=>∃u,r=À u /\
   Î (model P w) X.A (ϓ tg (.ref it) u) (fun _ s2=>∃x H',Inv X Pw σ H' s2/\RelV x u/\J.yld i H x H'/\tn (i+1) s2.heap/\∀b∈fp,H' b=Á) E s1) E s
 done:∀(X:Cx),X.prog=P->X.w=w->X.K=K->X.calm=Â->∀(i:Nat)(Pw:List (Ç×Obj))(s:È)(σ:St)(H:Hp)(E:Å->È->Prop),Inv X Pw σ H s->(∀b∈fp,d6 X Pw H b)->tn i s.heap->J.stop i H ->
  Î (model P w) X.A (A! (.ref it)) (fun r s1=>r=Á/\Inv X Pw σ H s1) E s
 self:∀(A:Ć)(i:Nat)(s:È)(Q:Å->È->Prop)(E:Å->È->Prop),tn i s.heap->Q (.ref it) s->Î (model P w) A (pyIter (.ref it)) Q E s
abbrev TI:=St->Hp->(It->Hp->Prop)->Prop
def Jx(X:Cx)(Pw:List (Ç×Obj))(σ:St)(f:Ï)(R:It->Hp->Prop)(a:Å)(s2:È):Prop :=
 ∃(it:Ç)(e:List Ç)(d:Nat->æ->Prop)(J:It)(c:Hp),a=.ref it/\Inv X Pw σ c s2/\j2 X.prog X.w X.K f J e it d/\d 0 s2.heap/\(∀b∈e,d6 X Pw c b)/\R J c
def PI(X:Cx)(e a:Ï)(d:TI):Prop :=
 ∀(c:List (Ç×Obj))(s:È)(b:St)(H:Hp)(R:It->Hp->Prop),Inv X c b H s->d b H R ->
  Î (model X.prog X.w) X.A (eval a X.env) (fun v f=>Î (model X.prog X.w) X.A (pyIter v) (Jx X c b e R) X.xe f) X.xe s
theorem mY(b:s.heap.get? it=À o)(d:o.cls=.type n)(hd:o.data=.fields vs)
  (c:["enumerate","zip","dict_itemiterator","dict_reverseitemiterator","odict_iterator","itertools.zip_longest","itertools.pairwise"].contains n=Ä) (a:Q () s):Î M A (ϓ tg (.ref it) u) Q E s:=by
 unfold ϓ;cases tg<;>first
  |exact yF a
  | (cases u <;> first
    |exact yF a
    | (refine yE (wpAny_load b ?_)
       rw[d,hd];show Î M A (if(["enumerate","zip","dict_itemiterator","dict_reverseitemiterator","odict_iterator","itertools.zip_longest","itertools.pairwise"].contains n&&vs[0]?==À (z? _))=Â then _ else _) Q E s;rw[yG (by intro h;rw[c,Bool.false_and]at h;cases h)];exact yF a))
noncomputable def DQ(K:Ü)(a:Ç):It :=
 ⟨fun i H=>∃b x,bJ K H a b/\b[i]?=À x,fun i H x c=>c=H/\∀b,bJ K H a b->b[i]?=À x,fun i H=>∃b,bJ K H a b/\b.length<=i⟩
noncomputable def DN(K:Ü)(a:Ç):It :=
 ⟨fun i H=>∃b x,gO K H a b/\b[i]?=À x,fun i H x c=>c=H/\∀b,gO K H a b->b[i]?=À x,fun i H=>∃b,gO K H a b/\b.length<=i⟩
noncomputable def A9(a:Int)(n:Nat):It:=⟨fun i _=>i<n,fun i H x b=>b=H/\x=.int (a+i),fun i _=>n<=i⟩
theorem yk{P:Ò}{w:Ù}{K:Ü}{Q:Ï}(a it:Ç):j2 P w K Q (DQ K a) [it] it (fun i h=>h.IsListIter it a i) where
 mem:=by simp
 obj:=fun i h f b g=>by
  have e:b=it:=by simpa using g
  subst e;obtain⟨o,e,c,d⟩:=f;exact⟨o,e,fun v z=>by rw[d]at z;cases z⟩
 keep:=fun i h n f k=>f.at fun o e=>k it (by simp) o e
 item:=by
  intro X A t B M i N s L H E I m f y;subst A t B;obtain⟨O,x,l,r⟩:=y;obtain⟨Y,q,p,hz⟩:=I.list l;obtain⟨u,U,S⟩:=q.get r;obtain⟨J,G,V,F,D,C⟩:=m it (by simp);refine S5 f p.isList (x:=u) (by simpa using U) fun n j R=>?_
  have Z:Inv X N L H { s with heap:=n }:=I.turned (t':=s.toks) (fun b o g e=>(R.2 b g).trans e) J G F D C;obtain⟨o,e,c,d⟩:=id j;exact⟨u,rfl,mY (s:={ s with heap:=n }) e c d dC ⟨x,H,Z,S,⟨rfl,fun ys T=>by rw[I.list_inj T l];exact r⟩,j,fun b g=>(m b g).1⟩⟩
 done:=by
  intro X A t B M i N s L H E I m f y;subst A t B;obtain⟨O,l,r⟩:=y;obtain⟨Y,q,p,hz⟩:=I.list l;obtain⟨J,G,V,F,D,C⟩:=m it (by simp);have hl:=q.length;exact T8 (I.ok.hd M) f p.isList (by simp;lia) fun n W=>⟨rfl,I.turned (t':=s.toks) (fun b o g e=>W b o g e) J G F D C⟩
 self:=fun _ _ _ _ _ f h=>wpAny_pyIter_listiter f h
theorem wQ{P:Ò}{w:Ù}{K:Ü}{R:Ï}(a it:Ç):j2 P w K R (DN K a) [it] it (fun i h=>h.IsTupleIter it a i) where
 mem:=by simp
 obj:=fun i h f b g=>by
  have e:b=it:=by simpa using g
  subst e;obtain⟨o,e,c,d⟩:=f;exact⟨o,e,fun v z=>by rw[d]at z;cases z⟩
 keep:=fun i h n f k=>f.at fun o e=>k it (by simp) o e
 item:=by
  intro X A t B N i O s M H E I m f y;subst A t B;obtain ⟨Q,x,l,r⟩:=y;obtain ⟨L,q,p,hz⟩:=I.tuple l;obtain ⟨u,V,T⟩:=q.get r;obtain ⟨J,G,W,F,D,C⟩:=m it (by simp);refine wpAny_pyNext_tuple_item f (show s.heap.IsTuple a L.toArray from p) (x:=u) (by simpa using V) fun n j S=>?_
  have Z:Inv X O M H { s with heap:=n }:=I.turned (t':=s.toks) (fun b o g e=>(S.2 b g).trans e) J G F D C;obtain⟨o,e,c,d⟩:=id j;exact⟨u,rfl,mY (s:={ s with heap:=n }) e c d dC ⟨x,H,Z,T,⟨rfl,fun ys U=>by rw[I.tuple_inj U l];exact r⟩,j,fun b g=>(m b g).1⟩⟩
 done:=by
  intro X A t B N i O s M H E I m f y;subst A t B;obtain ⟨Q,l,r⟩:=y;obtain ⟨L,q,p,hz⟩:=I.tuple l;obtain ⟨J,G,W,F,D,C⟩:=m it (by simp);have hl:=q.length;exact wpAny_pyNext_tuple_end (I.ok.hd N) f (show s.heap.IsTuple a L.toArray from p) (by simp;lia) fun n Y=>⟨rfl,I.turned (t':=s.toks) (fun b o g e=>Y b o g e) J G F D C⟩
 self:=fun _ _ _ _ _ f h=>wpAny_pyIter_tupleiter f h
theorem wR{P:Ò}{w:Ù}{K:Ü}{J:Ï}(it:Ç)(f:Int)(n:Nat):j2 P w K J (A9 f n) [it] it (fun i h=>p! h it (f+(i:Nat)*1) ((n:Int)-(i:Nat)) 1) where
 mem:=by simp
 obj:=fun i h a b c=>by
  have e:b=it:=by simpa using c
  subst e;exact⟨_,a,fun v z=>by
   have G:Data.fields _=Data.cell v:=z;cases G⟩
 keep:=fun i h j a k=>k it (by simp) _ a
 item:=by
  intro X q l r p i F s C H E I g a m;subst q l r;obtain⟨B,A,N,y,x,u⟩:=g it (by simp);have W:=Walks.range (prog:=X.prog) (w:=X.w) (I.ok.hd p) it f 1 n;refine W.item i s _ _ m a fun v j D M d L=>?_
  obtain⟨t,rfl⟩:=M;have Q:Inv X F C H { s with heap:=j,toks:=D }:=I.turned (fun b o c e=>L b o (by simpa using c) e) B A y x u;refine⟨_,rfl,mY (s:={ s with heap:=j,toks:=D }) (n:="range_iterator") d rfl rfl dC ⟨.int (f+i),H,Q,⟨t,?_⟩,⟨rfl,rfl⟩,d,fun b c=>(g b c).1⟩⟩;rw[P7]
 done:=by
  intro X q l r p i F s C H E I g a m;subst q l r;obtain⟨B,A,N,y,x,u⟩:=g it (by simp);exact S4 (I.ok.hd p) a (by have:n<=i:=m;lia) fun j O=>⟨rfl,I.turned (t':=s.toks) (fun b o c e=>O b o c e) B A y x u⟩
 self:=fun _ _ _ _ _ a h=>S6 a h
section
variable{X:Cx}{tg:Ï}
theorem tI{a c:Int}{d:Nat}(I:Inv X Pw σ H s)(k:-(2^62)<=a)(j:a<2^62)(i:-(2^62)<=c)(h:c<2^62)
  (q:R (A9 a (c-a).toNat) H):Î (model X.prog X.w) X.A (pyIter (.ref s.heap.objs.size)) (Jx X Pw σ tg R) E { s with heap:=s.heap.push { cls:=.type "range",data:=.fields #[.int a t,.int c u,.int 1 v] },toks:=d }:=by
 refine W0 (IsRange.new ..) (Y? k j i h) ?_;have f:Inv X Pw σ H { s with heap:=s.heap.push { cls:=.type "range",data:=.fields #[.int a t,.int c u,.int 1 v] },toks:=d }:=I.kept fun b o e=>zG _ e
 refine⟨(s.heap.push { cls:=.type "range",data:=.fields #[.int a t,.int c u,.int 1 v] }).objs.size,[(s.heap.push { cls:=.type "range",data:=.fields #[.int a t,.int c u,.int 1 v] }).objs.size],_,_,H,rfl,
  f.kept (t':=d) fun b o e=>zG _ e,wR _ a (c-a).toNat,?_,fun b g=>?_,q⟩
 ·have m:a+((0:Nat):Int)*1=a:=by simp
  have l:(((c-a).toNat:Nat):Int)-((0:Nat):Int)=į a c 1:=by rw[L?];split<;>lia
  show p! _ _ (a+((0:Nat):Int)*1) ((((c-a).toNat:Nat):Int)-((0:Nat):Int)) 1;rw[m,l];exact zY _ rfl
 ·have e:b=(s.heap.push { cls:=.type "range",data:=.fields #[.int a t,.int c u,.int 1 v] }).objs.size:=by simpa using g
  subst e;exact f.fpOk (zP _) (f.PJ.fresh (zP _))
def KM(c:TA):TI:=fun a H R=>c a H fun b d=>∃j:Int,b=[.int j]/\-(2^62)<=j/\j<2^62/\R (A9 0 j.toNat) d
def KL(c:TA):TI:=fun a H R=>c a H fun b d=>∃i j:Int,b=[.int i,.int j]/\(-(2^62)<=i/\i<2^62/\-(2^62)<=j/\j<2^62)/\R (A9 i (j-i).toNat) d
theorem zx(l:Gl X "range")(k:X.mg "range"=Á)(m:PA X [a] ta)(i:autoParam (Ê [a] X.env=[(Ä,eval a X.env)]) Ax2._auto_1):PI X tg (.Call (.Name "range" p) [a] [] pos) (KM ta):=by
 intro n s d H R I h;refine I! (dJ I l k ϵ (Ó (aB (m pos n s d H _ I h) fun v w c=>?_) i rfl));obtain⟨u,x,o,r1,b⟩:=c;obtain⟨j,e,b,g,q⟩:=b;subst e;cases r1 with
 |cons r f =>
  cases f;obtain⟨t,rfl⟩:=r;exact call_range_1 (tI o oM oM b g (by simpa using q))
theorem zw(v:Gl X "range")(u:X.mg "range"=Á)(w:PA X [a,b] ta)(o:autoParam (Ê [a,b] X.env=[(Ä,eval a X.env),(Ä,eval b X.env)]) Ax2._auto_1)(c:autoParam (Ê [b] X.env=[(Ä,eval b X.env)]) Ax2._auto_1) :
  PI X tg (.Call (.Name "range" p) [a,b] [] pos) (KL ta):=by
 intro x s g H R I h;refine I! (dJ I v u ϵ (Ó (aB (w pos x s g H _ I h) fun A C ⟨z,D,y,r1,f⟩=>?_) (by rw[o,c]) (by rw[c];rfl)));obtain⟨i,j,e,⟨f,n,m,l⟩,q⟩:=f;subst e;cases r1 with
 |cons r d =>
  cases d with
  |cons k d =>
   cases d;obtain⟨t,rfl⟩:=r;obtain⟨B,rfl⟩:=k;exact call_range_2 (tI y f n m l q)
def MQ(f:TI)(g:TG)(h:TS):TS:=fun D a H=>f a H fun J k=>∃W:Nat->Nat->St->Hp->Prop,(∃m,W 0 m a k)/\∀i m a H,W i m a H ->
 (J.stop i H/\D.nx a H)\/(J.go i H/\∃N:St->Hp->Prop,(∀b c,N b c->∃e,e<m/\W (i+1) e b c)/\∀x c,J.yld i H x c->g x a c fun d j=>h { D with nx:=N,ct:=N,bk:=D.nx } d j)
noncomputable def gB(a:List Ç)(h:æ):List (Ç×Obj):=a.filterMap fun b=>(h.get? b).map fun o=>(b,o)
theorem dH(a:b∈fp)(e:h.get? b=À o):(b,o)∈gB fp h:=R?.mpr ⟨b,a,by rw[e];rfl⟩
theorem Ad(a:p∈gB fp h):p.1∈fp/\h.get? p.1=À p.2:=by
 obtain⟨b,c,e⟩:=R?.mp a;cases q:h.get? b with
 |none=>rw[q]at e;cases e
 |some o =>
  rw[q]at e;have d:(b,o)=p:=yD e;subst d;exact⟨c,q⟩
theorem Inv.pinned(I:Inv X Pw σ H s)(h:∀b∈fp,d6 X Pw H b)(g:∀b∈fp,∃o,s.heap.get? b=À o/\∀v,o.data≠.cell v):Inv X (Pw++gB fp s.heap) σ H s :=
 I.pins_of fun p f=>(zZ.mp f).elim (fun z=>I.pin p (zK _ z)) fun z=>by
  obtain⟨a,e⟩:=Ad z;obtain⟨k,j,i,_⟩:=h p.1 a;obtain⟨o,c,d⟩:=g p.1 a;rw[e]at c;cases c;exact⟨e,k,j,i,d⟩
theorem Inv.unpinned(I:Inv X (Pw++pl) σ H s):Inv X Pw σ H s:=I.pins_of fun p a=>I.pin p (zK _ (zL _ a))
theorem zp(G:ϣ (model X.prog X.w) X.A X.env X.xe)(hc:X.calm=Â)(hi:PI X tg iter wi)(hg:PG X tg g)(p:PSs X body tb)
  (hs:autoParam (∀x,õ iter X.env x=pure x) Ax3._auto_1):PS X (.For tg iter body [] pos) (MQ wi g tb):=by
 intro B s V H D I h;refine wpAny_For (aB (hi B s V H _ I h) fun v s1 h1=>aB h1 fun itv s2 h2=>?_) hs;obtain⟨it,L,Y,J,H2,e,I2,T,P,f2,W,⟨m0,w0⟩,turn⟩:=h2;subst e
 have l:∀{y:Hp},(∀b∈L,y b=Á)->∀b∈L,d6 X B y b:=fun hn b p=>⟨hn b p,(f2 b p).2⟩
 refine codeAny_forLoop_any (fun n s'=>∃i k y,Inv X B k y s'/\Y i s'.heap/\(∀b∈L,y b=Á)/\W i n k y) ?_ m0 ⟨0,V,H2,I2,P,fun b p=>(f2 b p).1,w0⟩;rintro n s3 ⟨i,j,M,I3,E,K,w3⟩;rcases turn i n j M w3 with⟨C,qn⟩|⟨go,N,hN,step⟩
 ·refine Ĭ G (aB (T.done X rfl rfl rfl hc i B s3 j M X.xe I3 (l K) E C) fun r s4 c=>?_)
  obtain⟨R,I4⟩:=c;subst R;exact r? ⟨j,M,I4,qn⟩
 ·refine Ĭ G (aB (T.item X rfl rfl rfl hc i B s3 j M X.xe I3 (l K) E go) fun r s4 c=>?_)
  obtain⟨u,R,h4⟩:=c;subst R;refine Ĭ G (aB h4 fun _ Z c=>?_);obtain⟨x,H5,I5,r5,y5,A,S⟩:=c;have U:=I5.pinned (l S) (T.obj _ _ A);refine Ĭ G (aB (hg _ Z j H5 x u _ U r5 (step x H5 y5)) fun _ s6 c=>?_);obtain⟨O,H6,I6,q6⟩:=c;refine Ĭ G (aB (p _ s6 O H6 _ I6 q6) fun f Q z=>?_);have q:∀{a:St}{w:Hp},Inv X (B++gB L Z.heap) a w Q->N a w->∃m,m<n/\∃i k y,Inv X B k y Q/\Y i Q.heap/\(∀b∈L,y b=Á)/\W i m k y:=fun {a w} t F=>by
   obtain⟨m',hm,w7⟩:=hN a w F;refine⟨m',hm,i+1,a,w,t.unpinned,T.keep _ _ _ A fun b p o e=>(t.pin (b,o) (zK _ (zK _ (dH p e)))).1,fun b p=>?_,w7⟩;obtain⟨o,e,d⟩:=T.obj _ _ A b p;exact(t.pin (b,o) (zK _ (zK _ (dH p e)))).2.1
  cases f with
  |next=>obtain⟨a,w,t,F⟩:=z;exact q t F
  |cont=>obtain⟨a,w,t,F⟩:=z;exact q t F
  |brk=>obtain⟨a,w,t,z⟩:=z;exact⟨a,w,t.unpinned,z⟩
  |ret v=>obtain⟨x7,a,w,t,r7,z⟩:=z;exact⟨x7,a,w,t.unpinned,r7,z⟩
end
abbrev R2:=V->V->Hp->VK->Prop
def mI(X:Cx)(f:Å->Å->Y3 Å)(r:R2):Prop :=
 ∀(b:List (Ç×Obj))(s:È)(a:St)(H:Hp)(x y:V)(v u:Å)(Q:VK),Inv X b a H s->RelV x v->RelV y u->r x y H Q ->
  Î (model X.prog X.w) X.A (f v u) (EP X b a Q) X.xe s
def A4(X:Cx)(f:Å->Y3 Å)(r:V->Hp->VK->Prop):Prop :=
 ∀(b:List (Ç×Obj))(s:È)(a:St)(H:Hp)(x:V)(v:Å)(Q:VK),Inv X b a H s->RelV x v->r x H Q ->
  Î (model X.prog X.w) X.A (f v) (EP X b a Q) X.xe s
def cT(X:Cx)(f:Å)(r:List V->Hp->VK->Prop):Prop :=
 ∀(d:List (Ç×Obj))(s:È)(a:St)(H:Hp)(b:List V)(c:List Å)(Q:VK),Inv X d a H s->Vals b c->r b H Q ->
  Î (model X.prog X.w) X.A (call f c) (EP X d a Q) X.xe s
def ND(X:Cx)(r:V->Hp->(Bool->Hp->Prop)->Prop):Prop :=
 ∀(b:List (Ç×Obj))(s:È)(a:St)(H:Hp)(x:V)(v:Å)(Q:Bool->Hp->Prop),Inv X b a H s->RelV x v->r x H Q ->
  Î (model X.prog X.w) X.A (truthy v) (TP X b a Q) X.xe s
noncomputable def yw(r:R2)(c b:TE):TE:=fun a H Q=>c a H fun x e=>b a e fun y d=>r x y d Q
def LG(r:V->Hp->VK->Prop)(b:TE):TE:=fun a H Q=>b a H fun x c=>r x c Q
def rU(g:Int->V):V->Hp->VK->Prop:=fun x H Q=>∃i,x=.int i/\Q (g i) H
section
variable{X:Cx}{a b c:Ï}{ta tb tc:TE}{pos:Ĝ}
theorem CG(k:PE X a ta)(j:PE X b tb){Pw:List (Ç×Obj)}{s:È}{σ:St}{H:Hp}{R:V->V->Hp->Prop}(I:Inv X Pw σ H s)
  (h:ta σ H fun x H1=>tb σ H1 fun y H2=>R x y H2) {Q:Å->È->Prop}{f:Å->Å->Y3 Å}
  (i:∀v u s2 x y H2,Inv X Pw σ H2 s2->RelV x v->RelV y u->R x y H2->Î (model X.prog X.w) X.A (f v u) Q X.xe s2) :
  Î (model X.prog X.w) X.A (eval a X.env) (fun v s₁=>Î (model X.prog X.w) X.A (eval b X.env) (fun u s₂=>Î (model X.prog X.w) X.A (f v u) Q X.xe s₂) X.xe s₁) X.xe s:=by
 refine aB (k Pw s σ H _ I h) fun v d c=>?_
 obtain⟨x,H1,m,r1,g⟩:=c;refine aB (j Pw d σ H1 _ m g) fun u s2 c=>?_
 obtain⟨y,H2,l,r2,e⟩:=c;exact i v u s2 x y H2 l r1 r2 e
theorem xm{c:ġ}{r:R2}(g:mI X (ż c) r)(j:PE X a ta)(i:PE X b tb):PE X (.BinOp a c b pos) (yw r ta tb):=by
 intro k s d H Q I h;exact wpAny_BinOp (CG j i I h fun v u e x y m l rx f q=>g k e d m x y v u Q l rx f q)
theorem Km(f:A4 X (X3 op) r)(g:PE X a ta):PE X (.UnaryOp op a pos) (LG r ta):=by
 intro c s b H Q I h;exact UnaryOp_ (aB (g c s b H _ I h) fun v d ⟨x,j,i,r1,e⟩=>f c d b j x v Q i r1 e)
def NG(i j:Int):Prop:=0<=j/\j<=1000000/\i.natAbs<2^64
theorem wP(k:Nat):(0:Int)<=2^k:=by
 rw[two_pow_cast];exact Int.natCast_nonneg _
theorem LF{f:Å->Y3 Å}{g:Int->Int}
  (a:∀(i:Int)(t:Tok)(s:È)(Q:Å->È->Prop)(E:Å->È->Prop),Q (.int (g i) s.toks) { s with toks:=s.toks+1 }->Î (model X.prog X.w) X.A (f (.int i t)) Q E s) :
  A4 X f (rU fun i=>.int (g i)):=by
 intro c s b H x v Q I rx h;obtain⟨i,rfl,q⟩:=h;obtain⟨t,rfl⟩:=rx;exact a i t s _ _ ⟨.int (g i),H,I.tok _,⟨_,rfl⟩,q⟩
theorem FR:A4 X (X3 .USub) (rU fun i=>.int (-i)):=LF fun _ _ _ _ _ q=>neg_int q
theorem FT:A4 X (X3 .Invert) (rU fun i=>.int (T7 i)):=LF fun _ _ _ _ _ q=>invert_int q
end
section
variable{X:Cx}{a b c:Ï}{ta tb tc:TE}{pos:Ĝ}
theorem E5(f:mI X (č op) r)(j:PE X a ta)(i:PE X b tb)(g:ϯ op b=Ä):PE X (.Compare a [op] [b] pos) (yw r ta tb):=by
 intro k s c H Q I h;exact wpAny_Compare1 (CG j i I h fun v u d x y m l rx e q=>f k d c m x y v u Q l rx e q) g
noncomputable def JH(t:TE):TT:=fun a H Q=>t a H fun x b=>∃k,x=.bl k/\Q k b
theorem EL(o:mI X (č op) r)(t:PE X a ta)(q:PE X b tb)(p:ϯ op b=Ä):PT X (.Compare a [op] [b] pos) (JH (yw r ta tb)):=by
 intro f s d H Q I h;refine wpAny_isTrue_Compare1 (aB (t f s d H _ I h) fun v i ⟨x,E,B,r1,n⟩=>aB (q f i d E _ B n) fun u g ⟨y,D,A,r2,m⟩ =>
  aB (o f g d D x y v u _ A r1 r2 m) fun c F ⟨z,C,w,j,k,e,l⟩=>?_) p
 subst e;cases j;exact ď ⟨C,w,l⟩
def CK(K:Ü)(x:V)(H:Hp)(k:Bool):Prop :=
 match x with
 |.non=>k=Ä
 |.bl b=>k=b
 |.int i=>k=(i !=0)
 |.str y=>y.length<=Ë/\k=((y.length:Int) !=0)
 |.byt y=>y.size<=Ë/\k=((y.size:Int) !=0)
 |.ref p=>(∃a,bJ K H p a/\k=!a.isEmpty)\/(∃a,gO K H p a/\k=!a.isEmpty)\/∃c,H p=À (.dK c)/\k=!c.isEmpty
 |_=>False
theorem xI{a:Type}{Px:List (a×V)}{vs:List (a×Value)}(r:KV Px vs):(!vs.isEmpty)=!Px.isEmpty:=by
 cases r<;>rfl
theorem pF{xs:List V}{PB:List Å}(r:Vals xs PB):(!PB.toArray.isEmpty)=!xs.isEmpty:=by
 cases r<;>simp
theorem il:(Ë:Nat)<2^63:=by rw[ϛ];decide
theorem FX:ND X (fun x H Q=>∃k,CK X.K x H k/\Q k H):=by
 intro B s w H x v Q I rx h;obtain⟨k,e,q⟩:=h;have A:=il;have z:Ë=16777216:=ϛ;cases x with
 |non =>
  cases rx;have a:k=Ä:=e;subst a;exact truthy_none ⟨H,I,q⟩
 |bl b =>
  cases rx;have a:k=b:=e;subst a;exact ď ⟨H,I,q⟩
 |int i =>
  obtain⟨t,rfl⟩:=rx;have a:k=(i !=0):=e;subst a;exact D' ⟨H,I,q⟩
 |str y =>
  obtain⟨t,rfl⟩:=rx;obtain⟨n,a⟩:y.length<=Ë/\k=((y.length:Int) !=0):=e;subst a;exact PySem.P.truthy_str oM ⟨H,I.tok _,q⟩
 |byt y =>
  obtain⟨t,rfl⟩:=rx;obtain⟨n,a⟩:y.size<=Ë/\k=((y.size:Int) !=0):=e;subst a;exact truthy_bytes oM ⟨H,I.tok _,q⟩
 |ref p =>
  cases rx;have a:(∃d,bJ X.K H p d/\k=!d.isEmpty)\/(∃d,gO X.K H p d/\k=!d.isEmpty)\/∃f,H p=À (.dK f)/\k=!f.isEmpty:=e;rcases a with⟨d,g,a⟩|⟨d,g,a⟩|⟨f,g,a⟩
  ·subst a
   obtain⟨u,r,l,hz⟩:=I.list g;have c:=r.length;exact wpAny_truthy_list l.isList (by simp only[zI];lia) ⟨H,I.tok _,by rw[pF r];exact q⟩
  ·subst a
   obtain⟨u,r,l,hz⟩:=I.tuple g;have c:=r.length;exact truthy_tuple l (by simp only[zI];lia) ⟨H,I.tok _,by rw[pF r];exact q⟩
  ·subst a
   obtain⟨hz,o,j,r,m⟩:f.length<=Ë/\(p==ė)=Ä/\∃j,KV f j/\s.heap.DictOf (cg X.prog X.w) p j:=I.PJ p _ g;have c:f.length=j.length:=Paired.length r;exact wpAny_truthy_dict o m oM ⟨H,I.tok _,by rw[xI r];exact q⟩
 | _=>exact (show False from e).elim
theorem BG(e:PE X a ta)(he:∀whole,B? a X.env whole=(do let v <- whole;Ŕ a.pos;holding [v] (truthy v))) :
  PT X a (fun σ H Q=>ta σ H fun x H'=>∃k,CK X.K x H' k/\Q k H'):=by
 intro b s σ H Q I h;exact isTrue_plain (aB (e b s σ H _ I h) fun v c ⟨x,g,f,r1,d⟩=>FX b c σ g x v Q f r1 d) (he _)
theorem xn:mI X (ż .Add) (fun x y H Q=>∃i j,x=.str i/\y=.str j/\i.length+j.length<=Ë/\Q (.str (i++j)) H):=by
 intro e s c H x y v u Q I rx b h;obtain⟨i,j,rfl,rfl,hz,q⟩:=h;obtain⟨t,rfl⟩:=rx;obtain⟨a,rfl⟩:=b;exact add_str (fun a d=>⟨.str (i++j),H,I.tok _,⟨_,rfl⟩,q⟩) hz
theorem eM(r:Vals [x] us):∃u,us=[u]/\RelV x u:=by
 cases r with
 |cons r1 r2=>cases r2;exact⟨_,rfl,r1⟩
theorem CT(r:Vals [x,y] us):∃u w',us=[u,w']/\RelV x u/\RelV y w':=by
 cases r with
 |cons r1 r2 =>
  cases r2 with
  |cons b a=>cases a;exact⟨_,_,rfl,r1,b⟩
theorem CD:cT X (.builtin "abs") (fun xs H Q=>∃i,xs=[.int i]/\Q (.int (if i<0 then -i else i)) H):=by
 intro d s a H xs b Q I r h;obtain⟨i,rfl,q⟩:=h;obtain⟨u,rfl,t,rfl⟩:=eM r;exact call_abs_int fun u c=>⟨.int (if i<0 then -i else i),H,I.tok _,⟨_,rfl⟩,q⟩
theorem AS(b:X.calm=Â):cT X (.builtin "max") (fun xs H Q=>∃i j,xs=[.int i,.int j]/\Q (.int (if j > i then j else i)) H):=by
 intro m s c H xs e Q I r h;obtain⟨i,j,rfl,q⟩:=h;obtain⟨u,d,rfl,⟨t,rfl⟩,⟨g,rfl⟩⟩:=CT r;refine max_two_ints (I.ok.hd b) fun l f k=>⟨_,H,I.kept k,?_,q⟩
 by_cases a:j > i
 ·rw[yH a,yH a];exact⟨_,rfl⟩
 ·rw[yG a,yG a];exact⟨_,rfl⟩
theorem AR(b:X.calm=Â):cT X (.builtin "min") (fun xs H Q=>∃i j,xs=[.int i,.int j]/\Q (.int (if j<i then j else i)) H):=by
 intro m s c H xs e Q I r h;obtain⟨i,j,rfl,q⟩:=h;obtain⟨u,d,rfl,⟨t,rfl⟩,⟨g,rfl⟩⟩:=CT r;refine min_two_ints (I.ok.hd b) fun l f k=>⟨_,H,I.kept k,?_,q⟩
 by_cases a:j<i
 ·rw[yH a,yH a];exact⟨_,rfl⟩
 ·rw[yG a,yG a];exact⟨_,rfl⟩
theorem AU:cT X (.type "int") (fun xs H Q=>(∃i,xs=[.int i]/\Q (.int i) H)\/∃k,xs=[.bl k]/\Q (.int (if k then 1 else 0)) H):=by
 intro c s a H xs b Q I r h;rcases h with⟨i,rfl,q⟩|⟨k,rfl,q⟩
 ·obtain⟨u,rfl,t,rfl⟩:=eM r
  exact call_int_int ⟨.int i,H,I,⟨_,rfl⟩,q⟩
 ·obtain⟨u,rfl,r1⟩:=eM r
  cases r1;exact call_int_bool ⟨.int (if k then 1 else 0),H,I.tok _,⟨_,rfl⟩,q⟩
end
structure ObjM(h:æ)(x dx C:Ç)(mA:Í->Option Å):Prop where
 obj:h.get? x=À (Ϣ C dx)
 ns:h.Ns1 dx mA
 ne:dx≠x
theorem Al{h:æ}{f:Ç}{c:Í->Option Å}(n:h.Ns1 f c):∃od,h.get? f=À od/\∀name,lookIn name od=À (c name):=by
 obtain⟨o,d,m,i,hd,k,_,j⟩:=n;refine⟨o,i,fun name=>?_⟩;have e:=j name;unfold nsFind findBy at e;rw[<- Array.find?_toList]at e;unfold lookIn;rw[hd];dsimp only;split
 ·rename_i y q
  rw[q]at e;exact congrArg À e
 ·rename_i q
  rw[q]at e;have a:d.toList.any (·.refKey)=Ä:=by
   rw[List.any_eq_false];intro y g;obtain⟨z,t,b⟩:=k y (Array.mem_toList_iff.mp g);simp[DictEntry.refKey,b]
  have l:¬d.toList.any (·.refKey)=Â:=by rw[a];exact ğ
  rw[yG l];exact congrArg À e
theorem ObjM.look(I:ObjM h x dx C mA):∃od,InstAt h x (Ϣ C dx) C (À od)/\∀name,lookIn name od=À (mA name) :=
 let⟨od,a,b⟩:=Al I.ns
 ⟨od,⟨I.obj,rfl,rfl,a⟩,b⟩
section
variable{prog:Ò}{w:Ù}{A:Ć}{E:Å->È->Prop}{s:È}{K:Ü}{x dx C f:Ç}{mA:Í->Option Å}{name:Í}{v:Å}
theorem Fw{a:Bool}(X:K.In s.heap)(I:ObjM s.heap x dx C mA)(f:A? K C name=Â)(e:Q5 K C=Â)
  (g:ő K (.ref C) name=À Á) (c:mA name=À v) (b:handedIn v=Â) (h:Q v { s with toks:=s.toks+1 }) :
  Î (model prog w) A (getAttr (.ref x) name a) Q E s:=by
 obtain⟨i,J,d⟩:=I.look;exact get_value X J (U5 f).1 (findObj_own e g rfl (by rw[d,c])) b h
theorem Cn(X:K.In s.heap)(I:ObjM s.heap x dx C mA)(a:A? K C name=Â)
  (g:ő K (.ref C) name=À (À (.ref f))) (d:isFn K (.ref f)=Â) (c:mA name=Á) (h:Q (.ref f,[.ref x]) s) :
  Î (model prog w) A (š (.ref x) name pl) Q E s:=by
 obtain⟨b,J,e⟩:=I.look;exact method_fn X J (U5 a).1 (U5 a).2 g (beq_iff_eq.mp d) (by show(lookIn name b).map (·.isSome)=À Ä;rw[e,c];rfl) h
theorem Em(X:K.In s.heap)(I:ObjM s.heap x dx C mA)
  (m:ő K (.ref C) "__setattr__"=À (À (.builtin "object.__setattr__"))) (n:Y1 K C=Â) (l:takerIn K C name=À Á) (o:Q5 K C=Â)
  (k:t! mA ns) (hsz:ns.length<=Ë)
  (h:∀h',ObjM h' x dx C (fun y=>if y=name then À v else mA y)->İ dx s.heap h'->Q () { s with heap:=h',toks:=s.toks+2 }) :
  Î (model prog w) A (setAttr (.ref x) name v) Q E s:=by
 obtain⟨u,J,B⟩:=I.look;refine set_plain X J m (osa_open (s:={ s with toks:=s.toks+1 }) (r:=Á) X J n l fun b=>?_);obtain⟨D,p,g⟩:=any_some o;have j:s.heap.get? x=À ⟨.ref C,À dx,.plain,#[]⟩:=I.obj;refine yE (yF (yE (yE (wpAny_loadPart j (yE (Y4 (s:={ s with toks:=s.toks+1 }) (looks_clsIn X p) ?_))))));rw[g];refine yF (a:=À dx) (yE (yF (yE ?_)));refine wpAny_nsSet1 (s:={ s with toks:=s.toks+1 }) I.ns fun h' d c=>?_
 obtain⟨z,q,t,e,f,i⟩:=d.count (Z7 name v k);refine yE (wpAny_lookBehind e (by rw[f];exact pastItsLine_dict (z5 i (by rw[yX];lia))) ?_);exact yF (h _ ⟨(c.2 _ (ä I.ne)).trans I.obj,d,I.ne⟩ c)
theorem B9(X:K.In s.heap)(b:X5 K C=Â)
  (c:ő K (.ref C) "__init__"=À (À (.ref f))) (e:typeIn K (.ref f)=À (.type "function"))
  (h:ň (model prog w) (A.under (.builtin "type.__call__" ⟨.ref C::vs,kw⟩)) (.call (.ref f) ⟨.ref (s.heap.objs.size+1)::vs,kw⟩) (InitBack (s.heap.objs.size+1) R)
   { s with heap:=(s.heap.push Œ).push (Ϣ C s.heap.objs.size) }) :
  ň (model prog w) A (.call (.ref C) ⟨vs,kw⟩) R s:=by
 obtain⟨j,g,d,t,i⟩:=s;exact make_core (makes_of X b) (looks_findIn X c) (fun a=>bind_fn X a e) (.inl rfl) h
end
noncomputable def eC(f:Í)(v:V):List (Í×V)->List (Í×V)
 |[]=>[(f,v)]
 |(g,x)::r=>if g=f then(g,v)::r else(g,x)::eC f v r
theorem nF(f g:Í)(v:V):∀fs:List (Í×V),(eC f v fs).lookup g=if g=f then À v else fs.lookup g
 |[]=>by
  show Ŏ g [(f,v)]=_;by_cases h:g=f
  ·have hb:(g==f)=Â:=beq_iff_eq.mpr h
   simp only[Ŏ,hb,yH h]
  ·have hb:(g==f)=Ä:=beq_eq_false_iff_ne.mpr h
   simp only[Ŏ,hb,yG h]
 |(k,x)::r=>by
  have b:=nF f g v r;rw[show eC f v ((k,x)::r)=(if k=f then(k,v)::r else(k,x)::eC f v r) from rfl];by_cases a:k=f
  ·rw[yH a]
   by_cases h:g=k
   ·have hb:(g==k)=Â:=beq_iff_eq.mpr h
    simp only[Ŏ,hb,yH (h.trans a)]
   ·have hb:(g==k)=Ä:=beq_eq_false_iff_ne.mpr h
    simp only[Ŏ,hb,yG (fun e:g=f=>h (e.trans a.symm))]
  ·rw[yG a]
   by_cases h:g=k
   ·have hb:(g==k)=Â:=beq_iff_eq.mpr h
    simp only[Ŏ,hb,yG (fun e:g=f=>a (h.symm.trans e))]
   ·have hb:(g==k)=Ä:=beq_eq_false_iff_ne.mpr h
    simp only[Ŏ,hb];exact b
theorem lX(f:Í)(v:V):∀fs:List (Í×V),f∈(eC f v fs).map (·.1)/\∀g,g∈fs.map (·.1)->g∈(eC f v fs).map (·.1)
 |[]=>⟨by simp[eC],fun g h=>by simp at h⟩
 |(k,x)::r=>by
  obtain⟨i1,i2⟩:=lX f v r;rw[show eC f v ((k,x)::r)=(if k=f then(k,v)::r else(k,x)::eC f v r) from rfl];by_cases a:k=f
  ·rw[yH a]
   subst a;exact⟨by simp,fun g h=>by simpa using h⟩
  ·rw[yG a]
   refine⟨?_,fun g h=>?_⟩
   ·rw[zO]
    exact zQ _ i1
   ·rw[zO]at h ⊢
    rcases zT.mp h with e|e
    ·exact zT.mpr (.inl e)
    ·exact zQ _ (i2 g e)
theorem nJ(f:Í)(v:V):∀fs:List (Í×V),(eC f v fs).length<=fs.length+1
 |[]=>by simp[eC]
 |(k,x)::r=>by
  have ih:=nJ f v r;rw[show eC f v ((k,x)::r)=(if k=f then(k,v)::r else(k,x)::eC f v r) from rfl];by_cases a:k=f
  ·rw[yH a,yX,yX];lia
  ·rw[yG a,yX,yX];lia
theorem RelO.some_of(r:RelO (À v) o):∃u,o=À u/\RelV v u:=by
 cases o with
 | none=>exact (show False from r).elim
 |some u=>exact⟨u,rfl,r⟩
theorem RelO.none_of(r:RelO Á o):o=Á:=by
 cases o with
 |none=>rfl
 | some u=>exact (show False from r).elim
theorem AA(r:RelV v u):handedIn u=Â:=by
 cases v with
 | non=>cases (show u=ŭ from r);rfl
 | bl b=>cases (show u=N? b from r);rfl
 | int i=>obtain ⟨t,e⟩:=(show ∃ t,u=n! i t from r);cases e;rfl
 | str x=>obtain ⟨t,e⟩:=(show ∃ t,u=m? x t from r);cases e;rfl
 | byt b=>obtain ⟨t,e⟩:=(show ∃ t,u=X7 b t from r);cases e;rfl
 | flt b=>obtain ⟨t,e⟩:=(show ∃ t,u=X6 b t from r);cases e;rfl
 | ref a=>cases (show u=ï a from r);rfl
 | ty n=>cases (show u=N! n from r);rfl
section
variable{P:Ò}{w:Ù}{H H':Hp}{h h':æ}{a C dx:Ç}{fs fs':List (Í×V)}
theorem qL(c:HOk P w H h)(e:H a=À (.ins C dx fs)):∃mA,ObjM h a dx C mA/\(∀f,RelO (fs.lookup f) (mA f))/\t! mA (fs.map (·.1))/\fs.length<=1000/\H dx=À (.own a):=by
 obtain ⟨d,z,ne,b,mA,n,r,q⟩:=(show ObjOk P w H h a (.ins C dx fs) from c a _ e);exact ⟨mA,⟨b,n,ne⟩,r,q,z,d⟩
end
structure Cls(K:Ü)(C:Ç):Prop where
 pg:A? K C Str.empty=Â
 hd:Q5 K C=Â
 po:Y1 K C=Â
 sa:ő K (.ref C) "__setattr__"=À (À (.builtin "object.__setattr__"))
theorem Cls.get{K:Ü}{C:Ç}(c:Cls K C)(f:Í):A? K C f=Â:=c.pg
def NoAttr(K:Ü)(C:Ç)(f:Í):Prop:=ő K (.ref C) f=À Á
theorem NoAttr.taker{K:Ü}{C:Ç}{f:Í}(n:NoAttr K C f):takerIn K C f=À Á:=by
 unfold takerIn;rw[show ő K (.ref C) f=À Á from n];rfl
structure ld(K:Ü)(C:Ç)(m:Í)(f:Ç):Prop where
 at_:ő K (.ref C) m=À (À (.ref f))
 fn:isFn K (.ref f)=Â
 kp:ĺ K (.ref f)=Â
section
variable{X:Cx}{Pw:List (Ç×Obj)}{σ:St}{H:Hp}{s:È}{a C dx:Ç}{fs:List (Í×V)}{f:Í}{v:V}{A:Ć}{E:Å->È->Prop}
theorem xL{b:Bool}(I:Inv X Pw σ H s)(e:H a=À (.ins C dx fs))(c:Cls X.K C)(n:NoAttr X.K C f)(l:fs.lookup f=À v)
  (h:∀u s',Inv X Pw σ H s'->RelV v u->Q u s'):Î (model X.prog X.w) A (getAttr (.ref a) f b) Q E s:=by
 obtain⟨g,O,r,_,_,_⟩:=qL I.PJ e;obtain⟨u,i,d⟩:=RelO.some_of (v:=v) (o:=g f) (by rw[<- l];exact r f);exact Fw I.kIn O (c.get f) c.hd n i (AA d) (h u _ (I.tok _) d)
theorem kW(I:Inv X Pw σ H s)(e:H a=À (.ins C dx fs))(c:Cls X.K C)(k:ld X.K C m g)(l:fs.lookup m=Á)
  (h:Q (.ref g,[.ref a]) s):Î (model X.prog X.w) A (š (.ref a) m pl) Q E s:=by
 obtain⟨b,O,r,_,_,_⟩:=qL I.PJ e;have d:b m=Á:=RelO.none_of (by rw[<- l];exact r m);exact Cn I.kIn O (c.get m) k.at_ k.fn d h
theorem xa(I:Inv X Pw σ H s)(e:H a=À (.ins C dx fs))(c:Cls X.K C)(n:NoAttr X.K C f)(B:fs.length<1000)(m:RelV y u)
  (h:∀s',Inv X Pw σ (ag H a (.ins C dx (eC f y fs))) s'->Q () s'):Î (model X.prog X.w) A (setAttr (.ref a) f u) Q E s:=by
 obtain⟨j,O,r,i,_,k⟩:=qL I.PJ e;have hz:(fs.map (·.1)).length<=Ë:=by rw[zH,ϛ];lia
 refine Em I.kIn O c.sa c.po n.taker c.hd i hz fun v d l=>h _ ?_
 have hd:∃o,v.get? dx=À o:=let⟨o,_,_,w,_⟩:=d.ns;⟨o,w⟩;refine I.write (x:=a) (e:=dx) (by rw[e];exact True.intro) (.inr k) (fun b q t z=>(l.2 b t).trans z) hd ?_;refine⟨by rw[ad O.ne];exact k,?_,O.ne,d.obj,_,d.ns,fun g=>?_,fun g p=>?_⟩
 ·have:=nJ f y fs;lia
 ·show RelO ((eC f y fs).lookup g) (if g=f then À u else j g)
  rw[nF];by_cases q:g=f
  ·rw[yH q,yH q];exact m
  ·rw[yG q,yG q];exact r g
 ·by_cases q:g=f
  ·rw[q];exact(lX f y fs).1
  ·refine(lX f y fs).2 g (i g fun z=>p ?_)
   show(if g=f then À u else j g)=Á;rw[yG q];exact z
theorem Inv.made(I:Inv X Pw σ H s):Inv X Pw σ (ag (ag H s.heap.objs.size (.own (s.heap.objs.size+1))) (s.heap.objs.size+1) (.ins C s.heap.objs.size []))
  { s with heap:=(s.heap.push Œ).push (Ϣ C s.heap.objs.size) }:=by
 have c:(s.heap.push Œ).get? s.heap.objs.size=À Œ:=zY s.heap rfl;have h:((s.heap.push Œ).push (Ϣ C s.heap.objs.size)).get? (s.heap.objs.size+1)=À (Ϣ C s.heap.objs.size):=by
  have:=zY (s.heap.push Œ) (o:=Ϣ C s.heap.objs.size) rfl
  rwa [Į]at this
 have g:(s.heap.push Œ).Ns s.heap.objs.size (fun _=>Á):=⟨Œ,#[],_,c,rfl,(fun e f=>absurd f (by simp)),fun _=>rfl⟩;have i:=I.laid (a:=s.heap.objs.size) (o:=.own (s.heap.objs.size+1)) (h':=s.heap.push Œ) (t':=s.toks) (fun b u q=>zG _ q) (zP _) ⟨_,c⟩;refine i.laid (a:=s.heap.objs.size+1) (o:=.ins C s.heap.objs.size []) (t':=s.toks) (fun b u q=>zG _ q) (ϩ (Į _ _)) ?_;have ne:s.heap.objs.size≠s.heap.objs.size+1:=zU (ĵ _);refine⟨by rw[ad ne,ar],ł _,ne,h,fun _=>Á,(Heap.Ns1.of_empty g).at fun o q=>zG _ q,fun _=>True.intro,fun y d=>absurd rfl d⟩
theorem FJ(a:ę e f env (eval e env)=eval e env)
  (h:Î (model prog w) A (eval e env) (fun o s₁=>Î (model prog w) A (getAttr o f Â) Q E s₁) E s):Î (model prog w) A (eval (.Attribute e f pos) env) Q E s :=
 Attribute_any_ h (by rw[arm_eval_Attribute,a])
end
def MR(K:Ü)(d:TE)(f:Í):TE:=fun c H Q=>d c H fun x b=>∃a C e fs v,x=.ref a/\b a=À (.ins C e fs)/\Cls K C/\NoAttr K C f/\fs.lookup f=À v/\Q v b
def MX(K:Ü)(e tv:TE)(f:Í):TS:=fun D b H=>tv b H fun y g=>e b g fun x d=>∃a C c fs,x=.ref a/\d a=À (.ins C c fs)/\Cls K C/\NoAttr K C f/\fs.length<1000 /\
 D.nx b (ag d a (.ins C c (eC f y fs)))
section
variable{X:Cx}{o e value:Ï}{f:Í}{pos pos' tpos:Ĝ}{ta tv:TE}
theorem Hy(he:PE X e ta)(i:ę e f X.env (eval e X.env)=eval e X.env):PE X (.Attribute e f pos) (MR X.K ta f):=by
 intro k s d H Q I h;refine FJ i (aB (he k s d H _ I h) fun u w b=>?_);obtain⟨x,p,o,rx,a,C,y,fs,v,ex,j,c,n,l,q⟩:=b;subst ex;obtain rfl:u=ï a:=rx;exact xL o j c n l fun r t m g=>⟨v,p,m,g,q⟩
theorem Hi(r:PE X o ta)(m:PE X value tv)(p:Ľ value (À (.Attribute o f pos')) pos.line X.env=pure Ä):PS X (.Assign [.Attribute o f pos'] value pos) (MX X.K ta tv f):=by
 intro e s b H D I h;refine plainObj_wpAny_Assign_Attribute (aB (m e s b H _ I h) fun u g ⟨y,A,z,i,q⟩=>aB (r e g b A _ z q) fun k E d=>?_) p;obtain⟨x,G,w,rx,a,C,F,fs,ex,t,c,n,l,j⟩:=d;subst ex;obtain rfl:k=ï a:=rx;exact xa w t c n l i fun B v=>⟨b,_,v,j⟩
theorem JC(he:PE X e te)(I:Inv X Pw σ H s)
  (h:te σ H fun x H1=>∃a C dx fs g,x=.ref a/\H1 a=À (.ins C dx fs)/\Cls X.K C/\ld X.K C m g/\fs.lookup m=Á /\
   ∀s1,Inv X Pw σ H1 s1->Î (model X.prog X.w) X.A (ŧ pos (.ref g) [.ref a] (ù pos (Ê args X.env)) (ŉ pos (đ [] X.env))) Q X.xe s1)
  (i:eval (.Call (.Attribute e m apos) args [] pos) X.env=(do
   let ov <- eval e X.env
   Ŕ apos.atName
   let(f,first) <- holding [ov] (š ov m pl)
   ŧ pos f first (ù pos (Ê args X.env)) (ŉ pos (đ [] X.env)))) :
  Î (model X.prog X.w) X.A (eval (.Call (.Attribute e m apos) args [] pos) X.env) Q X.xe s:=by
 refine M? (pl:=pl) (aB (he Pw s σ H _ I h) fun u s1 b=>?_) i;obtain⟨x,H1,d,rx,a,C,dx,fs,g,ex,j,c,k,l,q⟩:=b;subst ex;obtain rfl:u=ï a:=rx;exact kW d j c k l (q s1 d)
end
structure Room(k:Nat)(A:Ć):Prop where
 hd:A.handled=Á
 dp:A.depth+3*k+5<Ϝ
 un:A.units+16*k+200<Ŗ
 gd:A.guards=À []
theorem Room.mono{j k:Nat}(r:Room k A)(h:j<=k):Room j A:=⟨r.hd,by have:=r.dp;lia,by have:=r.un;lia,r.gd⟩
theorem Room.deeper{k:Nat}(r:Room (k+1) A)(env:U3):Room k (A.deeper env) :=
 ⟨r.hd,by have:=r.dp;show A.depth+1+3*k+5<_;lia,by have:=r.un;show A.units+3+16*k+200<_;lia,r.gd⟩
theorem Room.in1{k:Nat}(r:Room (k+1) A):Room k A.in1 :=
 ⟨r.hd,by have:=r.dp;show A.depth+3*k+5<_;lia,by have:=r.un;show A.units+1+16*k+200<_;lia,r.gd⟩
theorem xC{A:Ć}{C:Ç}{us:List Å}{a:List (Í×Value)}:(A.under (.builtin "type.__call__" ⟨.ref C::us,a⟩)).depth=A.depth+1:=by
 first|rfl|simp[Around.under,Code.weight,Code.isCreation,Code.isGuard,Code.isCaller,Code.frames,Code.isFrame,guardIds]
theorem xB{A:Ć}{C:Ç}{us:List Å}{a:List (Í×Value)}:(A.under (.builtin "type.__call__" ⟨.ref C::us,a⟩)).units=A.units+1:=by
 first|rfl|simp[Around.under,Code.cUnits,Code.frames,Code.isFrame]
theorem vp{A:Ć}{C:Ç}{us:List Å}{a:List (Í×Value)}:(A.under (.builtin "type.__call__" ⟨.ref C::us,a⟩)).guards=A.guards:=by
 first|rfl|simp[Around.under,Code.guards,Code.isGuard,guardIds,pushGuards]
theorem Room.make{k:Nat}{A:Ć}(r:Room (k+1) A)(C:Ç)(us:List Å)(a:List (Í×Value)):Room k (A.under (.builtin "type.__call__" ⟨.ref C::us,a⟩)) :=
 ⟨r.hd,by have:=r.dp;rw[xC];lia,by have:=r.un;rw[xB];lia,by rw[vp];exact r.gd⟩
theorem Room.depth{k:Nat}(r:Room k A):A.depth<Ϝ:=by have:=r.dp;lia
theorem Room.units{k:Nat}(r:Room k A):A.units+64<Ŗ:=by have:=r.un;lia
noncomputable def wV:TA:=fun _ H Q=>Q [] H
noncomputable def C4(c:TE)(tr:TA):TA:=fun a H Q=>c a H fun x e=>tr a e fun b d=>Q (x::b) d
section
variable{X:Cx}{e:Ï}{es:List Ï}{te:TE}{t:TA}{pos:Ĝ}
theorem Aa:PA X [] wV:=fun _ _ _ _ H Q I h=>Calls.spliced_nil ⟨[],H,I,.nil,h⟩
theorem vP(m:PE X e te)(l:PA X es t)(k:autoParam (Ê (e::es) X.env=(Ä,eval e X.env)::Ê es X.env) Ax2._auto_1):PA X (e::es) (C4 te t):=by
 intro a d s c H Q I h;rw[k];show Î _ _ (spliced ((Ä,eval e X.env)::ù a (Ê es X.env))) _ _ s;refine Calls.spliced_cons (aB (m d s c H _ I h) fun u g b=>?_);obtain⟨x,q,o,r1,j⟩:=b;exact aB (l a d g c q _ o j) fun r v ⟨f,p,n,r2,i⟩=>⟨x::f,p,n,.cons r1 r2,i⟩
def MJ(t:TA):TE:=fun c H Q=>t c H fun a b=>a.length<=Ë/\∀p,b p=Á->Q (.ref p) (ag b p (.tup a))
def MO(t:TA):TE:=fun c H Q=>t c H fun a b=>a.length<=Ë/\∀p,b p=Á->Q (.ref p) (ag b p (.lst a))
theorem Hs{i}(h:PA X es t):PE X (.Tuple es i pos) (MJ t):=by
 intro m s f H Q I k;refine wpAny_Tuple_spliced (aB (h pos m s f H _ I k) fun j a ⟨g,d,c,r,z,q⟩=>⟨by rw[<- r.length];exact z,?_⟩);have l:d a.heap.objs.size=Á:=c.PJ.fresh (zP _);refine⟨.ref a.heap.objs.size,ag d a.heap.objs.size (.tup g),c.laid (t':=a.toks) (fun b u e=>zG _ e) (zP _) ?_,rfl,q _ l⟩;exact⟨z,j,r,⟨_,zY _ rfl,rfl,_,rfl⟩⟩
theorem zy(h:PA X es t):PE X (.List es pos) (MO t):=by
 intro l s f H Q I j;refine wpAny_List_spliced (aB (h pos l s f H _ I j) fun i a ⟨g,d,c,r,z,q⟩=>⟨by rw[<- r.length];exact z,?_⟩);have k:d a.heap.objs.size=Á:=c.PJ.fresh (zP _);refine⟨.ref a.heap.objs.size,ag d a.heap.objs.size (.lst g),c.laid (t':=a.toks) (fun b u e=>zG _ e) (zP _) ?_,rfl,q _ k⟩;exact⟨z,i,0,r,zY _ rfl⟩
end
abbrev Sp:=List V->Hp->VK->XK->Prop
abbrev mN:=List U3->Hp->È->XK->Å->È->Prop
structure Env0(P:Ò)(w:Ù)(K:Ü)(mg:Í->Option Å)(base:æ)(A:Ć)(outer:List U3)(s:È)(H:Hp):Prop where
 frames:A.frames=À outer
 mod:Mod K mg base
 bs:∀b o,base.get? b=À o->s.heap.get? b=À o/\H b=Á
 bsz:base.objs.size<=s.heap.objs.size
 funs:s.heap.FunFrames base outer
 frf:∀b∈kx outer,H b=Á
 PJ:HOk P w H s.heap
 bare:ϐ s.gens
def CE(outer:List U3)(P:Ò)(w:Ù)(H:Hp)(s:È)(Q:VK)(u:Å)(s':È):Prop :=
 ∃v a,s'.os=s.os/\ϐ s'.gens/\Un (kx outer) [] H a s.heap s'.heap/\HOk P w a s'.heap/\RelV v u/\Q v a
def CR(a:mN)(outer:List U3)(P:Ò)(w:Ù)(H:Hp)(s:È)(Q:VK)(E:XK)(r:Result)(s':È):Prop :=
 match r with
 |.ok (.ret u)=>CE outer P w H s Q u s'
 |.ok _=>False
 |.error e=>a outer H s E e s'
structure FnOk(P:Ò)(w:Ù)(K:Ü)(mg:Í->Option Å)(base:æ)(CX:mN)(k:Nat)(f:Ç)(fd:Ē)(ps:List Í)(sp:Sp):Prop where
 len:∀vs H Q E,sp vs H Q E->vs.length=ps.length
 run:∀(A:Ć)(outer:List U3)(s:È)(H:Hp)(args:Args)(us:List Å)(vs:List V)(Q:VK)(E:XK),Room k A->Env0 P w K mg base A outer s H->y! s fd args (ps.zip us)->Vals vs us->sp vs H Q E ->
  ň (model P w) A (.call (.ref f) args) (CR CX outer P w H s Q E) s
theorem FnOk.mono{P:Ò}{w:Ù}{K:Ü}{mg:Í->Option Å}{base:æ}{c:mN}{j k:Nat}{f:Ç}{fd:Ē}{ps:List Í}{sp:Sp}(F:FnOk P w K mg base c j f fd ps sp)(h:j<=k) :
  FnOk P w K mg base c k f fd ps sp:=⟨F.len,fun A a s H b e d Q E g=>F.run A a s H b e d Q E (g.mono h)⟩
theorem FnOk.imp{P:Ò}{w:Ù}{K:Ü}{mg:Í->Option Å}{base:æ}{d:mN}{k:Nat}{f:Ç}{fd:Ē}{ps:List Í}{sp b:Sp}(F:FnOk P w K mg base d k f fd ps sp)
  (h:∀vs H Q E,b vs H Q E->sp vs H Q E):FnOk P w K mg base d k f fd ps b :=
 ⟨fun vs H Q E q=>F.len vs H Q E (h _ _ _ _ q),fun A a s H c e vs Q E j l m g i=>F.run A a s H c e vs Q E j l m g (h _ _ _ _ i)⟩
theorem Env0.make{P:Ò}{w:Ù}{K:Ü}{mg:Í->Option Å}{base:æ}{A:Ć}{outer:List U3}{s:È}{H:Hp}(e:Env0 P w K mg base A outer s H)(C:Ç)(us:List Å)(a:List (Í×Value)) :
  Env0 P w K mg base (A.under (.builtin "type.__call__" ⟨.ref C::us,a⟩)) outer s H:=⟨by first|exact e.frames|(simpa [Around.under,Code.envs,Code.isFrame,pushEnvs] using e.frames),e.mod,e.bs,e.bsz,e.funs,e.frf,e.PJ,e.bare⟩
section
variable{X:Cx}{Pw:List (Ç×Obj)}{σ:St}{H:Hp}{s s':È}
theorem Inv.env0(I:Inv X Pw σ H s):Env0 X.prog X.w X.K X.mg X.base X.A X.stack s H :=
 ⟨I.ok.frames,I.ok.mod,I.bs,z5 I.ok.bsz I.sz,I.stack,I.stkFree,I.PJ,I.bare⟩
theorem Inv.after(I:Inv X Pw σ H s)(h:CE X.stack X.prog X.w H s Q u s'):EP X Pw σ Q u s':=by
 obtain⟨v,j,e,a,un,i,r,q⟩:=h;obtain⟨f,g,d,t,c⟩:=s';obtain rfl:c=s.os:=e;exact⟨v,j,I.call (h':=f) (g':=g) (d':=d) (t':=t) (ch:=[]) un i a (fun b z=>absurd z (by simp)),r,q⟩
end
noncomputable def wX(sp:Sp)(a:List V)(E:XK)(t:TA):TE:=fun b H Q=>t b H fun c d=>sp (c++a) d Q E
def wW(C:Ç)(m:Í)(sp:Sp)(b:List V)(E:XK)(f:TE)(t:TA):TE:=fun c H Q=>f c H fun x d=>∃a g fs,x=.ref a/\d a=À (.ins C g fs)/\fs.lookup m=Á /\
 t c d fun e h=>sp (x::(e++b)) h Q E
def C3(C:Ç)(sp:Sp)(b:List V)(E:XK)(t:TA):TE:=fun d H Q=>t d H fun e c=>∀x a,c x=Á->c a=Á->a≠x ->
 sp (.ref x::(e++b)) (ag (ag c a (.own x)) x (.ins C a [])) (fun v f=>v=.non/\Q (.ref x) f) E
def Binds(K:Ü)(fd:Ē)(ps:List Í)(b:List Å):Prop :=
 ∀(s:È)(a:List Å),K.In s.heap->(a++b).length=ps.length->y! s fd ⟨a,[]⟩ (ps.zip (a++b))
theorem Binds.all{K:Ü}{fd:Ē}{ps:List Í}(h:∀us:List Å,us.length=ps.length->C! fd ⟨us,[]⟩=pure (ps.zip us)):Binds K fd ps []:=fun s us _ a=>by
 rw[ô]at a ⊢;exact .of_eq (h us a)
def iu(d:mN)(X:Cx)(E:XK):Prop:=∀(c:List (Ç×Obj))(b:St)(H:Hp)(s:È)(e:Å)(a:È),Inv X c b H s->d X.stack H s E e a->X.xe e a
section
variable{X:Cx}{CX:mN}{k:Nat}{f C:Ç}{fd:Ē}{ps:List Í}{sp:Sp}{dvs:List V}{ds:List Å}{E:XK}{x m:Í}{p pos apos:Ĝ}{e o:Ï}{es:List Ï}{ta:TE}{t:TA}
theorem o8(F:FnOk X.prog X.w X.K X.mg X.base CX k f fd ps sp)(d:Room k X.A)(i:Binds X.K fd ps ds)(hd:Vals dvs ds)(c:iu CX X E)
  (I:Inv X Pw σ H s) (r:Vals vs us) (h:sp (vs++dvs) H Q E):Î (model X.prog X.w) X.A (call (.ref f) us) (EP X Pw σ Q) X.xe s:=by
 have r2:Vals (vs++dvs) (us++ds):=r.append hd;have g:(us++ds).length=ps.length:=by rw[<- r2.length];exact F.len _ _ _ _ h
 refine z! (ś (F.run X.A X.stack s H ⟨us,[]⟩ (us++ds) (vs++dvs) Q E d I.env0 (i s us I.kIn g) r2 h) fun r b a=>?_);cases r with
 |error e=>exact c Pw σ H s e b I a
 |ok fl =>
  cases fl with
  |ret u=>exact I.after a
  |next=>exact False.elim a
  |brk=>exact False.elim a
  |cont=>exact False.elim a
theorem E6(F:FnOk X.prog X.w X.K X.mg X.base CX k f fd ps sp)(g:Room k X.A)(l:Gl X x)(i:X.mg x=À (.ref f))(j:ĺ X.K (.ref f)=Â)(m:Binds X.K fd ps ds)(hd:Vals dvs ds)(d:iu CX X E)
  (n:PA X (e::es) t) (a:autoParam ((x==("__debug__":Í))=Ä) Ax0._auto_1) (he:autoParam (Ê (e::es) X.env=(Ä,eval e X.env)::Ê es X.env) Ax2._auto_1) (hpl:autoParam ((ù pos (Ê es X.env)).any (·.1)=Ä) Ax2._auto_1) :
  PE X (.Call (.Name x p) (e::es) [] pos) (wX sp dvs E t):=by
 intro o s c H Q I h;refine ý (mV I l i ?_ a);refine W6 (h₀:=X.base) I.ok.mod.kin j (aB (n pos o s c H _ I h) fun v w ⟨u,y,b,r,q⟩=>⟨b.kIn,?_⟩) he hpl;exact o8 F g m hd d b r q
theorem BX(F:FnOk X.prog X.w X.K X.mg X.base CX k f fd ps sp)(c:Room k X.A)(g:Gl X x)(d:X.mg x=À (.ref f))(e:ĺ X.K (.ref f)=Â)(i:Binds X.K fd ps ds)(hd:Vals dvs ds)(b:iu CX X E)
  (a:autoParam ((x==("__debug__":Í))=Ä) Ax0._auto_1):PE X (.Call (.Name x p) [] [] pos) (wX sp dvs E wV):=by
 intro l s j H Q I h;refine ý (mV I g d ?_ a);exact u! I.kIn e (o8 (us:=[]) F c i hd b I .nil h)
theorem E1(he:PE X o ta)(c:Cls X.K C)(i:ld X.K C m f)(F:FnOk X.prog X.w X.K X.mg X.base CX k f fd ps sp)(A:Room k X.A)(B:Binds X.K fd ps ds)(hd:Vals dvs ds)(y:iu CX X E)(D:PA X (e::es) t)
  (b:autoParam (Ê (e::es) X.env=(Ä,eval e X.env)::Ê es X.env) Ax2._auto_1) (hpl:autoParam ((ù pos (Ê es X.env)).any (·.1)=Ä) Ax2._auto_1)
  (z:autoParam (eval (.Call (.Attribute o m apos) (e::es) [] pos) X.env=(do
   let ov <- eval o X.env
   Ŕ apos.atName
   let(f,first) <- holding [ov] (š ov m pl)
   ŧ pos f first (ù pos (Ê (e::es) X.env)) (ŉ pos (đ [] X.env)))) Ax2._auto_1) :
  PE X (.Call (.Attribute o m apos) (e::es) [] pos) (wW C m sp dvs E ta t):=by
 intro j s g H Q I h;refine M? (pl:=pl) (aB (he j s g H _ I h) fun u v d=>?_) z;obtain⟨x,J,p,rx,a,L,fs,ex,G,l,q⟩:=d;subst ex;obtain rfl:u=ï a:=rx;refine kW p G c i l ?_;refine W6 (first:=[.ref a]) (h₀:=X.base) I.ok.mod.kin i.kp (aB (D pos j v g J _ p q) fun us K ⟨vs,M,n,r,w⟩=>⟨n.kIn,?_⟩) b hpl;exact o8 (us:=.ref a::us) (vs:=.ref a::vs) F A B hd y n (.cons rfl r) w
theorem BS(he:PE X o ta)(c:Cls X.K C)(e:ld X.K C m f)(F:FnOk X.prog X.w X.K X.mg X.base CX k f fd ps sp)(n:Room k X.A)(p:Binds X.K fd ps ds)(hd:Vals dvs ds)(i:iu CX X E)
  (j:autoParam (eval (.Call (.Attribute o m apos) [] [] pos) X.env=(do
   let ov <- eval o X.env
   Ŕ apos.atName
   let(f,first) <- holding [ov] (š ov m pl)
   ŧ pos f first (ù pos (Ê [] X.env)) (ŉ pos (đ [] X.env)))) Ax2._auto_1) :
  PE X (.Call (.Attribute o m apos) [] [] pos) (wW C m sp dvs E ta wV):=by
 intro t s g H Q I h;refine M? (pl:=pl) (aB (he t s g H _ I h) fun u v b=>?_) j;obtain⟨x,y,d,rx,a,w,fs,ex,r,l,q⟩:=b;subst ex;obtain rfl:u=ï a:=rx;refine kW d r c e l ?_;exact u! (first:=[.ref a]) d.kIn e.kp (o8 (us:=[.ref a]) (vs:=[.ref a]) F n p hd i d (.cons rfl .nil) q)
structure Mk(K:Ü)(C f:Ç):Prop where
 makes:X5 K C=Â
 init:ő K (.ref C) "__init__"=À (À (.ref f))
 fn:isFn K (.ref f)=Â
 kp:ĺ K (.ref C)=Â
theorem Bx(M:Mk X.K C f)(F:FnOk X.prog X.w X.K X.mg X.base CX k f fd ps sp)(l:Room (k+1) X.A)(n:Binds X.K fd ps ds)(hd:Vals dvs ds)
  (j:iu CX X E) (I:Inv X Pw σ H s) (r:Vals vs us)
  (h:∀x dx,H x=Á->H dx=Á->dx≠x->sp (.ref x::(vs++dvs)) (ag (ag H dx (.own x)) x (.ins C dx [])) (fun v H2=>v=.non/\Q (.ref x) H2) E) :
  Î (model X.prog X.w) X.A (call (.ref C) us) (EP X Pw σ Q) X.xe s:=by
 have c:=h (s.heap.objs.size+1) s.heap.objs.size (I.PJ.fresh (a! _)) (I.PJ.fresh (zP _)) (zU (ĵ _));have b:=Inv.made (C:=C) I;have r2:Vals (V.ref (s.heap.objs.size+1)::(vs++dvs)) (ï (s.heap.objs.size+1)::(us++ds)):=.cons rfl (r.append hd);have m:(ï (s.heap.objs.size+1)::us++ds).length=ps.length:=by
  have e:=r2.length;rw[F.len _ _ _ _ c]at e;exact e.symm
 refine z! (B9 (f:=f) I.kIn M.makes M.init (beq_iff_eq.mp M.fn) (ś (F.run _ X.stack _ _ ⟨ï (s.heap.objs.size+1)::us,[]⟩ (ï (s.heap.objs.size+1)::(us++ds)) _ _ E (l.make C us [])
  (b.env0.make C us []) (n _ (ï (s.heap.objs.size+1)::us) b.kIn m) r2 c) fun r d a=>?_))
 cases r with
 |error e=>exact j Pw σ _ _ e d b a
 |ok fl =>
  cases fl with
  |ret u =>
   obtain⟨v,p,o,g,ev,i⟩:=b.after a;subst ev;exact⟨g,⟨V.ref (s.heap.objs.size+1),p,o,rfl,i⟩⟩
  |next=>exact False.elim a
  |brk=>exact False.elim a
  |cont=>exact False.elim a
theorem E3(M:Mk X.K C f)(F:FnOk X.prog X.w X.K X.mg X.base CX k f fd ps sp)(g:Room (k+1) X.A)(j:Gl X x)(i:X.mg x=À (.ref C))(l:Binds X.K fd ps ds)(hd:Vals dvs ds)(d:iu CX X E)
  (m:PA X (e::es) t) (a:autoParam ((x==("__debug__":Í))=Ä) Ax0._auto_1) (he:autoParam (Ê (e::es) X.env=(Ä,eval e X.env)::Ê es X.env) Ax2._auto_1) (hpl:autoParam ((ù pos (Ê es X.env)).any (·.1)=Ä) Ax2._auto_1) :
  PE X (.Call (.Name x p) (e::es) [] pos) (C3 C sp dvs E t):=by
 intro n s c H Q I h;refine ý (mV I j i ?_ a);refine W6 (h₀:=X.base) I.ok.mod.kin M.kp (aB (m pos n s c H _ I h) fun u v ⟨o,w,b,r,q⟩=>⟨b.kIn,?_⟩) he hpl;exact Bx M F g l hd d b r q
end
structure nD(N P:List Í)(sc:Ġ):Prop where
 kind:sc.kind=.function
 co:sc.isCoroutine=Ä
 gen:sc.isGenerator=Ä
 nd:N.Nodup
 pre:N.take P.length=P
 par:∀x∈P,sc.names.lookup x=À .local\/sc.names.lookup x=À .cell
 nofree:∀y∈sc.names,y.2≠.free
theorem rY{a:Í->Option ũ}{x:Í}:∀{binds:List (Í×Value)}{m:Í->Option Å},(∀v,(x,v)∉binds)->Q6 a binds m x=m x
 |[],_,_=>rfl
 |(n,v)::r,m,h=>by
  unfold Q6;rw[rY fun w hw=>h w (zQ _ hw)];split
  ·have:x≠n:=by rintro rfl;exact h v z7
   simp[this]
  ·rfl
theorem se{a:Í->Option ũ}{x:Í}:∀{binds:List (Í×Value)}{m:Í->Option Å},(∀v,(x,v)∉binds)->Q7 a binds m x=m x
 |[],_,_=>rfl
 |(n,v)::r,m,h=>by
  unfold Q7;rw[se fun w hw=>h w (zQ _ hw)];split
  ·rfl
  ·have:x≠n:=by rintro rfl;exact h v z7
   simp[this]
theorem rZ{kindOf:Í->Option ũ}{x:Í}{v:Å}:∀{P:List Í}{vs:List Å}{i:Nat}{m:Í->Option Å},P.Nodup->P[i]?=À x->vs[i]?=À v->kindOf x=À .local ->
  Q6 kindOf (P.zip vs) m x=À v
 |[],_,_,_,_,h,_,_=>by simp at h
 |_::_,[],_,_,_,_,h,_=>by simp at h
 |p::P,w::vs,0,m,nd,h1,h2,hk=>by
  simp at h1 h2;subst h1;subst h2;show Q6 kindOf ((p,w)::P.zip vs) m p=_;unfold Q6;rw[rY fun v hv=>(Ŀ.mp nd).1 (ì hv).1,yH hk];simp
 |p::P,w::vs,i+1,m,nd,h1,h2,hk=>by
  show Q6 kindOf ((p,w)::P.zip vs) m x=_;unfold Q6;exact rZ (i:=i) (Ŀ.mp nd).2 (by simpa using h1) (by simpa using h2) hk
theorem sf{kindOf:Í->Option ũ}{x:Í}{v:Å}:∀{P:List Í}{vs:List Å}{i:Nat}{m:Í->Option Å},P.Nodup->P[i]?=À x->vs[i]?=À v->kindOf x≠À .local ->
  Q7 kindOf (P.zip vs) m x=À v
 |[],_,_,_,_,h,_,_=>by simp at h
 |_::_,[],_,_,_,_,h,_=>by simp at h
 |p::P,w::vs,0,m,nd,h1,h2,hk=>by
  simp at h1 h2;subst h1;subst h2;show Q7 kindOf ((p,w)::P.zip vs) m p=_;unfold Q7;rw[se fun v hv=>(Ŀ.mp nd).1 (ì hv).1,yG hk];simp
 |p::P,w::vs,i+1,m,nd,h1,h2,hk=>by
  show Q7 kindOf ((p,w)::P.zip vs) m x=_;unfold Q7;exact sf (i:=i) (Ŀ.mp nd).2 (by simpa using h1) (by simpa using h2) hk
noncomputable def start(N:List Í)(vs:List V):St:=vs.map À++Æ (N.length-vs.length) Á
noncomputable def qR(b:mN)(P:Ò)(w:Ù)(K:Ü)(mg:Í->Option Å)(base:æ)(N:List Í)(qual:Í)(scope:Ġ)(f:Ç)(cd:Å)(A:Ć)(outer:List U3)(s:È)(H:Hp)(E:XK):Cx where
 prog:=P
 w:=w
 K:=K
 mg:=mg
 base:=base
 A:=A.deeper (ϴ qual scope s.heap.objs.size f cd)
 N:=N
 s₀:=s
 H₀:=H
 env:=ϴ qual scope s.heap.objs.size f cd
 outer:=outer
 stack:=ϴ qual scope s.heap.objs.size f cd::outer
 ex:=[]
 calm:=Â
 fn:=fun _=>Â
 pn:=[]
 xe:=fun e c=>Î (model P w) (A.deeper (ϴ qual scope s.heap.objs.size f cd)) (leaving (ϴ qual scope s.heap.objs.size f cd) e) (fun _ a=>b outer H s E e a) (fun d a=>b outer H s E d a) c
theorem uW{sc:Ġ}{n:Nat}{x:Í}(h:sc.names.lookup x=À .cell):∃c,(Ď n sc.names []).lookup x=À c:=by
 have q:=cellsFrom_some sc.names n [] (.inl h);exact ø.mp q
theorem Aw{F:mN}{P:Ò}{w:Ù}{K:Ü}{mg:Í->Option Å}{base:æ}{N ps:List Í}{qual:Í}{scope:Ġ}{f:Ç}{cd:Å}{A:Ć}{outer:List U3}{s s1:È}{H:Hp}{E:XK}{us:List Å}{vs:List V}
  (S:nD N ps scope) (hd:A.handled=Á) (g:Env0 P w K mg base A outer s H) (M:vs.length=ps.length) (r:Vals vs us)
  (x:InCallC s s.heap.objs.size (Q6 (ϴ qual scope s.heap.objs.size f cd).kindOf (ps.zip us) fun _=>Á) (Ď (s.heap.objs.size+1) scope.names []) (Q7 (ϴ qual scope s.heap.objs.size f cd).kindOf (ps.zip us) fun _=>Á) s1) :
  Inv (qR F P w K mg base N qual scope f cd A outer s H E) [] (start N vs) H s1:=by
 have I:ps.length<=N.length:=by have:=congrArg ŏ S.pre;rw[Ĕ]at this;lia
 obtain ⟨B,L,rfl,D⟩:=x.done;have j:∀ b:Ç,b ∉ (qR F P w K mg base N qual scope f cd A outer s H E).ex:=fun b z=>absurd (show b ∈ ([]:List Ç) from z) (by simp)
 refine⟨⟨g.mod,S.kind,rfl,rfl,zP _,fun y z c B d=>?_,fun y l=>?_,fun y c _ h=>?_,fun _=>hd,Around.frames_deeper g.frames,.inr ⟨rfl,rfl⟩,fun b z=>absurd z (j b),g.bs,g.bsz,fun b _ _=>j b,fun b z=>absurd z (j b),g.funs,g.frf⟩,
  rfl,g.bare,Un.kept D,⟨_,x.toInCall.ns,fun i y v B d O=>?_⟩,fun y c h=>⟨_,x.cell y c h⟩,g.PJ.fresh (zP _),fun y c h=>?_,fun p o=>absurd (show p∈([]:List (Ç×Obj)) from o) (by simp),g.PJ.kept D,?_⟩
 ·exact name_of_addr x.apart (ĳ B) (ĳ d)
 ·have l:scope.names.lookup y=À .cell\/scope.names.lookup y=À .free:=l
  rcases l with l|l
  ·exact uW l
  ·exact absurd rfl (S.nofree _ (ĳ l))
 ·exact yY (x.above y c (ĳ h))
 ·have t:i<vs.length:=by
   unfold start at d;by_cases t:i<vs.length
   ·exact t
   ·rw[z6 (by simpa using t)]at d
    rw[þ]at d;split at d<;>cases d
  have J:vs[i]?=À v:=by
   unfold start at d;rw[zN (by simpa using t),zR]at d;cases e:vs[i]? with
   |none=>rw[e]at d;cases d
   |some a=>rw[e]at d;cases d;rfl
  obtain⟨u,C,G⟩:=r.get J;have o:ps[i]?=À y:=by
   rw[<- S.pre,Ť oM];exact B
  have m:ps.Nodup:=by rw[<- S.pre];exact S.nd.sublist (T1 _ _)
  refine⟨u,G,?_⟩;rcases S.par y (zW o) with k|k
  ·exact .inl ⟨k,rZ m o C k⟩
  ·obtain⟨c,e⟩:=uW (n:=s.heap.objs.size+1) k
   refine .inr ⟨.inl k,c,e,?_⟩;have q:=x.cell y c e;rw[sf m o C (by show scope.names.lookup y≠_;rw[k];decide)]at q;exact q
 ·exact g.PJ.fresh (yY (x.above y c (ĳ h)))
 ·unfold start
  show _=N.length;rw[zV,zH,Ņ];lia
theorem K6{B:mN}{P:Ò}{w:Ù}{K:Ü}{mg:Í->Option Å}{base:æ}{k:Nat}{f:Ç}{name qual:Í}{c:Ϧ}{d:List ľ}{scope:Ġ}{T kV z pm a ct oc:Å}{W Z:Option Ç}
  {F:Array (Option Å)}{N ps:List Í}{sp:Sp} (lk:K.lookup f=À ⟨oc,Z,.func (fnOf name qual c d scope T kV z pm W a ct),F⟩) (O:ϝ K a qual=Â) (S:nD N ps scope)
  (l:∀vs H Q E,sp vs H Q E->vs.length=ps.length)
  (i:∀(A:Ć)(outer:List U3)(s:È)(H:Hp)(vs:List V)(Q:VK)(E:XK),Room k (A.deeper (ϴ qual scope s.heap.objs.size f a))->sp vs H Q E ->
   ∃t,PSs (qR B P w K mg base N qual scope f a A outer s H E) d t/\t { nx:=fun _ H'=>Q .non H',rt:=Q } (start N vs) H) :
  FnOk P w K mg base B (k+1) f (fnOf name qual c d scope T kV z pm W a ct) ps sp:=by
 refine⟨l,fun A outer s H U Y vs Q E L p hb r m=>?_⟩;have hl:=l _ _ _ _ m;have X:K.In s.heap:=p.mod.kin.keeps fun b o e=>(p.bs b o e).1
 have G:s.heap.NoLimit:=p.mod.nolimit.keeps fun b o e=>(p.bs b o e).1
 have h:∀y∈ps.zip Y,scope.names.lookup y.1=À .local\/(scope.names.lookup y.1=À .cell/\((Ď (s.heap.objs.size+1) scope.names []).lookup y.1).isSome=Â):=fun M hy=>by
  obtain⟨n,v⟩:=M;rcases S.par n (ì hy).1 with q|q
  ·exact .inl q
  ·exact .inr ⟨q,cellsFrom_some _ _ _ (.inl q)⟩
 refine codeAny_call_function L.depth (X _ _ lk) rfl S.co S.gen rfl (codeRec_of X O) (hb _ _ _ _ ?_);refine wpAny_newFunctionEnv_cells S.kind h fun env he R x=>?_
 subst he;refine⟨G.keeps x.toInCall.keep,codeAny_func ?_⟩;obtain⟨t,ht,hq⟩:=i A outer s H vs Q E (L.deeper _) m;have I:Inv (qR B P w K mg base N qual scope f a A outer s H E) [] (start N vs) H R:=Aw S L.hd p hl r x;refine yS (ht [] R (start N vs) H _ I hq) (fun fl C j=>?_) fun e C j=>j
 have au:∀{g:St}{H':Hp}{v:V}{u:Å},Inv (qR B P w K mg base N qual scope f a A outer s H E) [] g H' C->RelV v u->Q v H'->CE outer P w H s Q u C :=
  fun {g H' v u} J D q=>⟨v,H',J.os,J.bare,J.base,J.PJ,D,q⟩
 cases fl with
 |ret u =>
  obtain⟨v,g,H',J,D,q⟩:=j;exact au J D q
 |next =>
  obtain⟨g,H',J,q⟩:=j;exact au (v:=V.non) (u:=ŭ) J rfl q
 |brk =>
  obtain⟨_,_,_,q⟩:=j;exact False.elim q
 |cont =>
  obtain⟨_,_,_,q⟩:=j;exact False.elim q
section
variable{X:Cx}{x:Í}{p pos:Ĝ}{e:Ï}{es:List Ï}{t:TA}{id T:String}{r:List V->Hp->VK->Prop}
def Gi(r:List V->Hp->VK->Prop)(t:TA):TE:=fun a H Q=>t a H fun b c=>r b c Q
theorem BW(n:cT X (.builtin id) r)(m:Gl X x)(l:X.mg x=Á)(j:á x=À (.builtin id))(o:PA X (e::es) t)(k:autoParam (x≠"__name__") Ax0._auto_1)(a:autoParam ((x==("__debug__":Í))=Ä) Ax0._auto_1)
  (he:autoParam (Ê (e::es) X.env=(Ä,eval e X.env)::Ê es X.env) Ax2._auto_1) (hpl:autoParam ((ù pos (Ê es X.env)).any (·.1)=Ä) Ax2._auto_1):PE X (.Call (.Name x p) (e::es) [] pos) (Gi r t):=by
 intro c s b H Q I h;refine ý (dJ I m l j ?_ k a);exact _? (aB (o pos c s b H _ I h) fun f g ⟨d,u,q,r1,i⟩=>n c g b u d f Q q r1 i) he hpl
theorem rn(n:cT X (.type T) r)(m:Gl X x)(l:X.mg x=Á)(j:á x=À (.type T))(o:PA X (e::es) t)(k:autoParam (x≠"__name__") Ax0._auto_1)(a:autoParam ((x==("__debug__":Í))=Ä) Ax0._auto_1)
  (he:autoParam (Ê (e::es) X.env=(Ä,eval e X.env)::Ê es X.env) Ax2._auto_1) (hpl:autoParam ((ù pos (Ê es X.env)).any (·.1)=Ä) Ax2._auto_1):PE X (.Call (.Name x p) (e::es) [] pos) (Gi r t):=by
 intro c s b H Q I h;refine ý (dJ I m l j ?_ k a);exact Ó (aB (o pos c s b H _ I h) fun f g ⟨d,u,q,r1,i⟩=>n c g b u d f Q q r1 i) he hpl
end
end L2
namespace HT
open PySem PyProof.Rows
section
variable{prog:Ò}{w:Ù}{A:Ć}{E:Å->È->Prop}{s:È}
noncomputable def PL(n d:Nat):Option Int->Nat
 |none=>d
 |some v=>if v<0 then(v+(n:Int)).toNat else min v.toNat n
theorem sIx_none(n d:Nat):PL n d Á=d:=rfl
theorem sIx_nat(n d k:Nat):PL n d (À (k:Int))=min k n:=by
 show(if(k:Int)<0 then((k:Int)+(n:Int)).toNat else min (k:Int).toNat n)=min k n;rw[yG oM,Ϫ]
theorem GB(n d:Nat)(hd:d<=n)(o:Option Int):PL n d o<=n:=by
 cases o with
 |none=>exact hd
 |some v =>
  show(if v<0 then(v+(n:Int)).toNat else min v.toNat n)<=n;by_cases a:v<0
  ·rw[yH a];lia
  ·rw[yG a];exact Nat.min_le_right _ _
theorem wC(v:Int)(n d:Nat):(if v<0 then max (v+(n:Int)) 0 else min v (n:Int))=((PL n d (À v):Nat):Int):=by
 show(if v<0 then max (v+(n:Int)) 0 else min v (n:Int))=(((if v<0 then(v+(n:Int)).toNat else min v.toNat n):Nat):Int);by_cases a:v<0
 ·simp only[yH a];lia
 ·simp only[yG a];lia
theorem xW(a b:Option Int)(n:Nat):Ō a b 1 (n:Int)=(((PL n 0 a:Nat):Int),((PL n n b:Nat):Int)):=by
 have c:¬((1:Int)<0):=by lia
 unfold Ō;simp only[c,if_false];refine Prod.ext ?_ ?_
 ·cases a with
  |none=>rfl
  |some v=>exact wC v n 0
 ·cases b with
  |none=>rfl
  |some v=>exact wC v n n
theorem xj(i j:Nat):Ĩ (i:Int) (j:Int) 1=j-i:=by
 unfold Ĩ;have a:(1:Int) > 0:=by lia
 simp only[a,if_true,Z!];split<;>lia
theorem o6(p:j? v o)(h:Q o s):Î (model prog w) A (Z0 v) Q E s:=by
 cases p with
 |none=>exact slicePart_none h
 |int i t=>exact slicePart_int h
theorem oA{sl:Ç}{f e:Å}{a c:Option Int}{n:Nat}{Q:Int×Int×Nat->È->Prop}(i:s.heap.IsSliceOf sl f e .none)(pl:j? f a)(g:j? e c)
  (h:Q (((PL n 0 a:Nat):Int),1,PL n n c-PL n 0 a) s):Î (model prog w) A (Ϙ (.ref sl) (pure (n:Int))) Q E s:=by
 obtain⟨k,b,j,d⟩:=id i;unfold Ϙ Z1;refine yE (yE (U4 b d (x:=f) rfl (yE (U4 b d (x:=e) rfl (yE (U4 b d (x:=.none) rfl (yF ?_)))))));refine yE (slicePart_none ?_);show Î _ _ (if((1:Int)==0)=Â then _ else _) _ _ s;rw[yG dC];refine yE (o6 pl (yE (o6 g (yE (yF ?_)))));show Î _ _ (match Ō a c 1 (n:Int) with|(a,c)=>pure (a,(1:Int),Ĩ a c 1)) _ _ s;rw[xW a c n];show Î _ _ (pure (((PL n 0 a:Nat):Int),(1:Int),Ĩ ((PL n 0 a:Nat):Int) ((PL n n c:Nat):Int) 1)) _ _ s;rw[xj];exact yF h
theorem BL(xs:Array Å)(i k:Nat):((É k).filterMap fun(m:Nat)=>xs[((i:Int)+(m:Int)*1).toNat]?).toArray=((xs.toList.drop i).take k).toArray:=by
 have e:(fun(m:Nat)=>xs[((i:Int)+(m:Int)*1).toNat]?)=fun m=>xs[i+m]?:=by
  funext m;have:((i:Int)+(m:Int)*1).toNat=i+m:=by lia
  rw[this]
 rw[e]
 have:=pick_run xs i k
 rw[ϙ]at this;have a:((fun x=>xs[x]?) ∘ fun x=>i+x)=fun m=>xs[i+m]?:=rfl
 rw[a]at this;rw[this]
theorem getItem_tuple_cut{t sl:Ç}{a:Array Å}{l k:Å}{c d:Option Int}{Q:Å->È->Prop}(e:IsTup s.heap t a)(n:s.heap.IsSliceOf sl l k .none)(pl:j? l c)(o:j? k d)
  (r:¬(PL a.size 0 c=0/\PL a.size a.size d=a.size))
  (h:Q (.ref s.heap.objs.size) { s with heap:=s.heap.push { cls:=.type "tuple",data:=.seq ((a.toList.drop (PL a.size 0 c)).take (PL a.size a.size d-PL a.size 0 c)).toArray } })
  (hsz:a.size<=Ë):Î (model prog w) A (d! (.ref t) (.ref sl)) Q E s:=by
 have b:sizeOk (.seq ((a.toList.drop (PL a.size 0 c)).take (PL a.size a.size d-PL a.size 0 c)).toArray):=by
  show((a.toList.drop (PL a.size 0 c)).take (PL a.size a.size d-PL a.size 0 c)).toArray.size<=Ë;rw[zI,Ĕ,ņ,é];lia
 have y:PL a.size a.size d<=a.size:=GB _ _ (zP _) d;obtain⟨p,f,i,u⟩:=id n;have j:s.TypeIs (.ref sl) "slice":=⟨p,f,i⟩;unfold d!
 try with_reducible refine yR ?_
 first|refine yE (yF ?_)|skip
 refine yE (wpAny_sequenceKey e.typeIs dC ?_);refine yE (Q0 (name:=û "__getitem__") e.typeIs Ļ
  (wpAny_call_entry Ļ e.typeIs entry_tuple_getitem ?_ (args_tuple_getitem _ _)))
 show Î _ _ (Z' (.ref t)>>=_) _ _ s;refine yE (tupleItemsOf_ e ?_);refine yE (wpAny_typeOf j ?_);rw[yH dC];refine yE (oA n pl o ?_);have g:¬((((PL a.size 0 c:Nat):Int)==0&&(1:Int)==1&&(PL a.size a.size d-PL a.size 0 c)==a.size)=Â):=by
  intro q;rw[zC,zC]at q;have x:((PL a.size 0 c:Nat):Int)=0:=yJ q.1.1;have v:PL a.size a.size d-PL a.size 0 c=a.size:=yJ q.2;exact r ⟨by lia,by lia⟩
 show Î _ _ (if(((PL a.size 0 c:Nat):Int)==0&&(1:Int)==1&&(PL a.size a.size d-PL a.size 0 c)==a.size)=Â then _ else _) _ _ s;rw[yG g,BL]
 first
  |exact yE (m:=ī _) (Ň (yF ⟨_,rfl,yF h⟩) b)
  |exact yE (m:=ī _) (Ň (yE (yF (yF ⟨_,rfl,yF h⟩))) b)
  |exact yE (yE (m:=ī _) (Ň (yF (yF ⟨_,rfl,yF h⟩)) b))
  |exact yE (yE (m:=ī _) (Ň (yF ⟨_,rfl,yF h⟩) b))
end
end HT
namespace L2
open PySem PySem.Spec PyProof.Rows
abbrev TO:=St->Hp->(Option Int->Hp->Prop)->Prop
def PO(X:Cx)(e:Option Ï)(t:TO):Prop :=
 ∀(b:List (Ç×Obj))(s:È)(a:St)(H:Hp)(Q:Option Int->Hp->Prop),Inv X b a H s->t a H Q ->
  Î (model X.prog X.w) X.A (evalPart e X.env) (fun u d=>∃o c,Inv X b a c d/\j? u o/\Q o c) X.xe s
noncomputable def Ee:TO:=fun _ H Q=>Q Á H
noncomputable def JI(t:TE):TO:=fun a H Q=>t a H fun x b=>∃i,x=.int i/\Q (À i) b
theorem kU:∀{us:List Å},Vals (ns.map V.int) us->ώ us ns:=by
 induction ns with
 |nil=>intro us r;rw[Ğ]at r;cases r;exact .nil
 |cons n ns a =>
  intro us r;rw[zO]at r;cases r with
  |cons r1 r2 =>
   obtain⟨t,e⟩:=r1;subst e;exact .cons n t (a r2)
section
variable{X:Cx}{e:Ï}{te:TE}{lo hi:Option Ï}{tl th:TO}{pos p2:Ĝ}
theorem ES:PO X Á Ee:=by
 intro b s a H Q I h;rw[M'];exact yF ⟨Á,H,I,.none,h⟩
theorem ER(h:PE X e te):PO X (À e) (JI te):=by
 intro f s b H Q I d;rw[evalPart_some];refine aB (h f s b H _ I d) fun u k a=>?_
 obtain⟨x,j,g,r1,c⟩:=a;obtain⟨i,rfl,q⟩:=c;obtain⟨t,rfl⟩:=r1;exact⟨À i,j,g,.int i t,q⟩
def PM(X:Cx)(r:V->Option Int->Option Int->Hp->VK->Prop):Prop :=
 ∀(g:List (Ç×Obj))(s:È)(a:St)(H:Hp)(x:V)(v c b:Å)(e f:Option Int)(d:Ç)(Q:VK),Inv X g a H s->RelV x v->s.heap.IsSliceOf d c b .none->j? c e->j? b f->r x e f H Q ->
  ∃T id,typeLookup (.type T) "__getitem__"=pure (À (.builtin id))/\s.TypeIs v T/\Î (model X.prog X.w) X.A (d! v (.ref d)) (EP X g a Q) X.xe s
def LI(r:V->Option Int->Option Int->Hp->VK->Prop)(te:TE)(b c:TO):TE:=fun a H Q=>te a H fun x f=>b a f fun l e=>c a e fun u d=>r x l u d Q
theorem tM(A:PM X r)(he:PE X e te)(B:PO X lo tl)(y:PO X hi th):PE X (.Subscript e (.Slice lo hi Á p2) pos) (LI r te tl th):=by
 intro f s d H Q I h;refine W7 (aB (he f s d H _ I h) fun v m c=>?_);obtain⟨x,L,J,r1,p⟩:=c;refine wpAny_Slice (aB (B f m d L _ J p) fun i k ⟨l,K,G,w,o⟩=>aB (y f k d K _ G o) fun g a c=>?_);obtain⟨u,j,F,t,n⟩:=c;rw[M'];refine yF ?_;have E:Inv X f d j { a with heap:=a.heap.push { cls:=.type "slice",data:=.fields #[i,g,.none] } }:=F.kept (t':=a.toks) fun b M q=>zG _ q
 obtain⟨T,id,D,z,C⟩:=A f { a with heap:=a.heap.push { cls:=.type "slice",data:=.fields #[i,g,.none] } } d j x v i g l u a.heap.objs.size Q E r1 (b! ..) w t n;show Î (model X.prog X.w) X.A (Ϯ e (.Slice lo hi Á p2) v (.ref a.heap.objs.size)) (EP X f d Q) X.xe { a with heap:=a.heap.push { cls:=.type "slice",data:=.fields #[i,g,.none] } };exact tail_any (ops:=[.ref a.heap.objs.size,v]) z D C (by with_unfolding_all rfl)
def kZ(xs:List V)(a b:Option Int):List V:=(xs.drop (HT.PL xs.length 0 a)).take (HT.PL xs.length xs.length b-HT.PL xs.length 0 a)
theorem nZ(xs:List V)(a b:Option Int):(kZ xs a b).length<=xs.length:=by
 unfold kZ;rw[Ĕ,ņ];lia
def MZ(K:Ü):V->Option Int->Option Int->Hp->VK->Prop:=fun x c d H Q=>∃a b,x=.ref a/\gO K H a b /\
 ¬(HT.PL b.length 0 c=0/\HT.PL b.length b.length d=b.length)/\∀p,H p=Á->Q (.ref p) (ag H p (.tup (kZ b c d)))
theorem Gr:PM X (MZ X.K):=by
 intro z s p H x v u t e f w Q I rx m j i h;obtain⟨a,d,rfl,k,l,q⟩:=h;cases rx;obtain⟨n,r,g,hz⟩:=I.tuple k;have c:n.toArray.size=d.length:=by rw[zI];exact r.length.symm
 refine⟨"tuple",_,Ļ.lookup,g.typeIs,?_⟩;refine HT.getItem_tuple_cut g m j i (by rw[c];exact l) ?_ (by rw[c];exact hz);rw[c];refine⟨.ref s.heap.objs.size,_,I.laid (t':=s.toks) (o:=.tup (kZ d e f)) (fun b y q=>zG _ q) (zP _) ?_,rfl,q _ (I.PJ.fresh (zP _))⟩;exact⟨z5 (nZ d e f) hz,_,(r.drop (HT.PL d.length 0 e)).take (HT.PL d.length d.length f-HT.PL d.length 0 e),IsTup.new _ _⟩
end
noncomputable def jz(n:Nat)(i:Int):Option Nat:=if 0<=i then(if i<n then À i.toNat else Á) else if -(n:Int)<=i then À (i+n).toNat else Á
def gy{α:Type}(xs:List α)(i:Int):Option α:=(jz xs.length i).bind fun j=>xs[j]?
theorem v7{n:Nat}{i:Int}{j:Nat}(h:jz n i=À j):seqIndex? i n=À j/\j<n/\-(n:Int)<=i/\i<n:=by
 unfold jz at h;by_cases b:0<=i
 ·rw[yH b]at h
  by_cases a:i<n
  ·rw[yH a]at h
   have e:i.toNat=j:=yD h;exact⟨by rw[l? b a,e],by lia,by lia,a⟩
  ·rw[yG a]at h;cases h
 ·rw[yG b]at h
  by_cases a:-(n:Int)<=i
  ·rw[yH a]at h
   have e:(i+n).toNat=j:=yD h;exact⟨by rw[c? oM a,e],by lia,a,by lia⟩
  ·rw[yG a]at h;cases h
theorem ny{α:Type}{xs:List α}{i:Int}{v:α}(h:gy xs i=À v):∃j,seqIndex? i xs.length=À j/\xs[j]?=À v/\j<xs.length/\-(xs.length:Int)<=i/\i<xs.length:=by
 unfold gy at h;cases e:jz xs.length i with
 |none=>rw[e]at h;cases h
 |some j =>
  rw[e]at h;obtain⟨d,c,b,a⟩:=v7 e;exact⟨j,d,h,c,b,a⟩
def qW(b:Ï):Prop:=∀o i,subscripted b Ä o i=operate [o,i] (d! o i)
def IxR(X:Cx)(r:R2):Prop :=
 ∀(b a:Ï)(d:List (Ç×Obj))(s:È)(c:St)(H:Hp)(x y:V)(v u:Å)(Q:VK),Inv X d c H s->RelV x v->RelV y u->r x y H Q ->
  subscripted a Ä v u=operate [v,u] (d! v u)->Î (model X.prog X.w) X.A (Ϯ b a v u) (EP X d c Q) X.xe s
def mJ(X:Cx)(id:String)(r:V->List V->Hp->VK->Prop):Prop :=
 ∀(d:List (Ç×Obj))(s:È)(a:St)(H:Hp)(x:V)(b:List V)(v:Å)(c:List Å)(Q:VK),Inv X d a H s->RelV x v->Vals b c->r x b H Q ->
  Î (model X.prog X.w) X.A (call (.builtin id) (v::c)) (EP X d a Q) X.xe s
section
variable{X:Cx}{a b:Ï}{ta tb:TE}{pos:Ĝ}
theorem IxR.or(h:IxR X r)(h':IxR X r'):IxR X (fun x y H Q=>r x y H Q\/r' x y H Q):=by
 intro a b f s c H x y v u Q I rx d q e;rcases q with q|q
 ·exact h a b f s c H x y v u Q I rx d q e
 ·exact h' a b f s c H x y v u Q I rx d q e
theorem Kq(g:IxR X r)(j:PE X a ta)(i:PE X b tb)(f:qW b):PE X (.Subscript a b pos) (yw r ta tb):=by
 intro k s c H Q I h;exact W7 (CG j i I h fun v u d x y m l rx e q=>g a b k d c m x y v u Q l rx e q (f _ _))
def GI(K:Ü):R2:=fun x y H Q=>∃p a i v,x=.ref p/\y=.int i/\bJ K H p a/\gy a i=À v/\Q v H
def GG(K:Ü):R2:=fun x y H Q=>∃p a i v,x=.ref p/\y=.int i/\gO K H p a/\gy a i=À v/\Q v H
def GH:R2:=fun x y H Q=>∃z i c,x=.str z/\y=.int i/\z.length<=Ë/\gy z.cps.toList i=À c/\Q (.str ⟨#[c]⟩) H
theorem ix_list:IxR X (GI X.K):=by
 intro b c n s g H x y v u Q I rx A h k;obtain⟨p,K,i,z,rfl,rfl,B,D,q⟩:=h;cases rx;obtain⟨t,rfl⟩:=A;obtain⟨J,r,e,hz⟩:=I.list B;obtain⟨j,a,G,M,F,E⟩:=ny D;obtain⟨w,m,d⟩:=r.get G;have C:=r.length;have L:=il;have au:EP X n g Q w s:=⟨z,H,I,d,q⟩;by_cases l:0<=i
 ·have f:i.toNat=j:=by
   rw[l? l E]at a;exact yD a
  exact item_listR e.isList l oM (by rw[f];simpa using m) au k
 ·have f:(i+(J.toArray.size:Int)).toNat=j:=by
   rw[c? oM F]at a;rw[zI,<- C];exact yD a
  exact S9 (x:=w) e.isList.typeIs slot_list_getitem.lookup
   (S7 (Q:=fun r o=>r=w/\EP X n g Q r o) e.isList oM (by rw[zI]<;>lia) oM (by rw[f];simpa using m) ⟨rfl,au⟩) k
theorem ix_tup:IxR X (GG X.K):=by
 intro a b f s d H x y v u Q I rx k h l;obtain⟨p,D,i,z,rfl,rfl,m,o,q⟩:=h;cases rx;obtain⟨t,rfl⟩:=k;obtain⟨K,r,e,hz⟩:=I.tuple m;obtain⟨j,B,A,J,G,F⟩:=ny o;obtain⟨w,C,c⟩:=r.get A;have n:=r.length;have E:=il;have au:EP X f d Q w s:=⟨z,H,I,c,q⟩;exact S9 (x:=w) e.typeIs slot_tuple_getitem.lookup
  (getItem_tuple (j:=j) (Q:=fun r g=>r=w/\EP X f d Q r g) e oM oM (by rw[zI,<- n];exact B) (by simpa using C) ⟨rfl,au⟩) l
theorem IA:IxR X GH:=by
 intro a b C s r H x y v u Q I rx e h f;obtain⟨z,i,c,rfl,rfl,hz,k,q⟩:=h;obtain⟨t,rfl⟩:=rx;obtain⟨w,rfl⟩:=e;obtain⟨j,d,n,B,m,l⟩:=ny k;have g:z.cps.toList.length=z.length:=by simp[Str.length]
 rw[g]at d m l;have A:=il;exact tail_any (typeIs_str s z t) slot_str_getitem.lookup (getItem_str (c:=c) (by
  have p:decide (i < -(2^63:Int))=Ä:=z9 oM;have o:decide (i ≥ 2^63)=Ä:=z9 oM;rw[p,o,X']) (by rw[d];simpa using n) ⟨.str ⟨#[c]⟩,H,I.tok _,⟨_,rfl⟩,q⟩) f
def N2(K:Ü):R2:=fun x y H Q=>GI K x y H Q\/GG K x y H Q\/GH x y H Q
theorem uf:IxR X (N2 X.K):=ix_list.or (ix_tup.or IA)
theorem xA(PB:List Å)(n j:Nat)(u:Å):Ģ (·.setIfInBounds j u) { cls:=.type "list",data:=.seq PB.toArray n }={ cls:=.type "list",data:=.seq (PB.set j u).toArray n }:=by
 simp[Ģ]
theorem Inv.lst(I:Inv X Pw σ H s)(h:H p=À (.lst xs)) :
  ∃(PB:List Å)(n:Nat),Vals xs PB/\s.heap.get? p=À { cls:=.type "list",data:=.seq PB.toArray n }/\xs.length<=Ë:=by
 obtain⟨z,PB,n,r,e⟩:=I.PJ p _ h;exact⟨PB,n,r,e,z⟩
theorem Inv.lstUpd{Pw:List (Ç×Obj)}{σ:St}{H:Hp}{s:È}{p:Ç}{xs ys:List V}{PB its':List Å}{n a:Nat}{f:Y5->Y5}(I:Inv X Pw σ H s)(h:H p=À (.lst xs))
  (d:s.heap.get? p=À { cls:=.type "list",data:=.seq PB.toArray n }) (c:f { cls:=.type "list",data:=.seq PB.toArray n }={ cls:=.type "list",data:=.seq its'.toArray a }) (r:Vals ys its') (hz:ys.length<=Ë) (t:Nat) :
  Inv X Pw σ (ag H p (.lst ys)) { s with heap:=s.heap.update p f,toks:=t }:=by
 have e:(s.heap.update p f).get? p=À { cls:=.type "list",data:=.seq its'.toArray a }:=by
  rw[Heap.get?_update_self f d (by rw[c]<;>rfl),c]
 refine I.write (x:=p) (e:=p) (by rw[h];trivial) (.inl rfl) (fun b u g q=>(x! _ _ (ä g)).trans q) ⟨_,e⟩ ?_;exact⟨hz,its',a,r,e⟩
def JU:V->V->V->Hp->(Hp->Prop)->Prop:=fun o i v H Q=>∃p a k j,o=.ref p/\i=.int k/\H p=À (.lst a)/\jz a.length k=À j/\Q (ag H p (.lst (a.set j v)))
theorem Bw:xY X JU:=by
 intro D s x H o i v E F u Q I A B z h;obtain⟨p,y,k,j,rfl,rfl,e,C,q⟩:=h;cases A;obtain⟨t,rfl⟩:=B;obtain⟨m,n,r,b,hz⟩:=I.lst e;obtain⟨a,J,g,f⟩:=v7 C;have c:=r.length;have G:=il;have w:Inv X D x (ag H p (.lst (y.set j v))) { s with heap:=s.heap.update p (Ģ (·.setIfInBounds j u)) } :=
  I.lstUpd e b (xA m n j u) (r.set z j) (by rw[à];exact hz) s.toks
 by_cases l:0<=k
 ·have d:k.toNat=j:=by
   rw[l? l f]at a;exact yD a
  exact ki_setAt b l oM (by rw[zI,<- c];exact f) (by rw[d];exact⟨_,w,q⟩)
 ·have d:(k+(m.toArray.size:Int)).toNat=j:=by
   rw[c? oM g]at a;rw[zI,<- c];exact yD a
  exact ki_setBack b oM (by rw[zI,<- c];exact g) oM (by rw[d];exact⟨_,w,q⟩)
theorem tz(a b:Option Int)(n:Nat):(Ĺ a b Á n).1=((HT.PL n 0 a:Nat):Int)/\(Ĺ a b Á n).2.1=((HT.PL n n b:Nat):Int)/\(Ĺ a b Á n).2.2=1:=by
 refine⟨?_,?_,rfl⟩
 ·cases a with
  |none=>simp[Ĺ,HT.PL]
  |some i =>
   simp only[Ĺ,HT.PL,Q9,show(1:Int) > 0 by decide,if_true];by_cases h:i<0
   ·simp only[h,if_true]<;>lia
   ·simp only[h,if_false]<;>lia
 ·cases b with
  |none=>simp[Ĺ,HT.PL]
  |some i =>
   simp only[Ĺ,HT.PL,Q9,show(1:Int) > 0 by decide,if_true];by_cases h:i<0
   ·simp only[h,if_true]<;>lia
   ·simp only[h,if_false]<;>lia
theorem sD(PB:List Å)(a b:Option Int):Q4 PB.toArray a b Á=((PB.drop (HT.PL PB.length 0 a)).take (HT.PL PB.length PB.length b-HT.PL PB.length 0 a)).toArray:=by
 obtain⟨e,d,c⟩:=tz a b PB.toArray.size;unfold Q4;rw[e,d,c];simp only[sliceRange_one,pick_run,zI]<;>rfl
def M2(K:Ü):V->Option Int->Option Int->Hp->VK->Prop:=fun x c d H Q=>∃a b,x=.ref a/\bJ K H a b/\∀p,H p=Á->Q (.ref p) (ag H p (.lst (kZ b c d)))
theorem Ej:PM X (M2 X.K):=by
 intro w s m H x v p n e f t Q I rx l j i h;obtain⟨a,c,rfl,k,q⟩:=h;cases rx;obtain⟨y,r,g,hz⟩:=I.list k;have d:=r.length;refine⟨"list",_,slot_list_getitem.lookup,g.isList.typeIs,?_⟩;refine K? g.isList l j i .none (by simp) ?_ (by rw[zI]<;>lia);rw[sD,<- d];refine⟨.ref s.heap.objs.size,_,I.laid (t':=s.toks) (o:=.lst (kZ c e f)) (fun b u q=>zG _ q) (zP _) ?_,rfl,q _ (I.PJ.fresh (zP _))⟩;exact⟨z5 (nZ c e f) hz,_,0,(r.drop (HT.PL c.length 0 e)).take (HT.PL c.length c.length f-HT.PL c.length 0 e),zY _ rfl⟩
theorem mB:cT X (.builtin "len") (fun xs H Q=>∃p ys,xs=[.ref p]/\(bJ X.K H p ys\/gO X.K H p ys)/\Q (.int ys.length) H):=by
 intro j s f H xs g Q I r h;obtain⟨p,ys,rfl,b,q⟩:=h;obtain⟨u,rfl,rx⟩:=eM r;cases rx;have i:=il;rcases b with b|b
 ·obtain⟨e,c,d,hz⟩:=I.list b
  have a:=c.length;exact Calls.call_len_list d.isList (by simp only[zI]<;>lia) ⟨.int ys.length,H,I.tok _,⟨s.toks+1,by rw[zI,a]⟩,q⟩
 ·obtain⟨e,c,d,hz⟩:=I.tuple b
  have a:=c.length;exact len_tuple d (by simp only[zI]<;>lia) ⟨.int ys.length,H,I.tok _,⟨s.toks+1,by rw[zI,a]⟩,q⟩
theorem u0:cT X (.builtin "len") (fun xs H Q=>∃z,xs=[.str z]/\z.length<=Ë/\Q (.int z.length) H):=by
 intro d s a H xs b Q I r h;obtain⟨z,rfl,hz,q⟩:=h;obtain⟨u,rfl,t,rfl⟩:=eM r;have c:=il;exact len_str oM ⟨.int z.length,H,I.tok _,⟨_,rfl⟩,q⟩
theorem uY:cT X (.type "list") (fun xs H Q=>∃p ys,xs=[.ref p]/\(bJ X.K H p ys\/gO X.K H p ys)/\∀l,H l=Á->Q (.ref l) (ag H l (.lst ys))):=by
 intro x s w H xs y Q I r h;obtain⟨p,ys,rfl,i,q⟩:=h;obtain⟨u,rfl,rx⟩:=eM r;cases rx;have au:∀(c:List Å),Vals ys c->ys.length<=Ë->∀(a:æ)(f:Nat),(∀b v,s.heap.get? b=À v->a.get? b=À v) ->
   a.get? s.heap.objs.size=À { cls:=.type "list",dict:=Á,data:=.seq c.toArray f,slots:=#[] }->EP X x w Q (.ref s.heap.objs.size) { s with heap:=a }:=fun c d hz a f g e =>
  ⟨.ref s.heap.objs.size,_,I.laid (t':=s.toks) g (zP _) (show ObjOk X.prog X.w _ a _ (.lst ys) from ⟨hz,c,f,d,e⟩),rfl,q _ (I.PJ.fresh (zP _))⟩
 rcases i with i|i
 ·obtain⟨c,d,k,hz⟩:=I.list i
  have j:=d.length;obtain⟨o,m,t,n,hd⟩:=k.isList;exact call_list_seq p (.inl rfl) m t hd (fun a f g e=>au c d hz a f g e) (by simp only[zI]<;>lia)
 ·obtain⟨c,d,k,hz⟩:=I.tuple i
  have j:=d.length;obtain⟨o,m,t,n,hd⟩:=k;exact call_list_seq p (.inr rfl) m t hd (fun a f g e=>au c d hz a f g e) (by simp only[zI]<;>lia)
def yj(K:Ü)(T:String)(x:V)(H:Hp):Prop:=match x with
 |.str _=>T="str"
 |.int _=>T="int"
 |.ref p=>(T="list"/\∃b,bJ K H p b)\/(T="tuple"/\∃o,K.lookup p=À o/\o.cls=.type "tuple"/\o.dict=Á) \/
   (T="dict"/\((∃a,H p=À (.dK a))\/∃a,H p=À (.dT a)))\/(T="set"/\∃S n,H p=À (.set S n))
 |_=>False
theorem yi(I:Inv X Pw σ H s)(r:RelV x v)(d:yj X.K T x H) :
  s.TypeIs v T/\∀a,v=.ref a->∃ob,s.heap.get? a=À ob/\ob.dict=Á:=by
 cases x with
 |str z =>
  obtain ⟨t,rfl⟩:=r;cases (show T="str" from d);exact ⟨typeIs_str s z t,fun _ e=>nomatch e⟩
 |int i =>
  obtain ⟨t,rfl⟩:=r;cases (show T="int" from d);exact ⟨W2 s i t,fun _ e=>nomatch e⟩
 |ref p =>
  cases r;rcases d with⟨rfl,l,h⟩|⟨rfl,o,b,j,hd⟩|⟨rfl,b⟩|⟨rfl,S,n,b⟩
  ·obtain⟨m,_,g,_⟩:=I.list h
   refine⟨g.isList.typeIs,fun a e=>?_⟩;cases e;obtain⟨o,n,e,c,hd,_⟩:=g;exact⟨o,e,hd⟩
  ·refine⟨⟨o,I.kIn p o b,j⟩,fun a e=>?_⟩
   cases e;exact⟨o,I.kIn _ o b,hd⟩
  ·have z:∃o,s.heap.get? p=À o/\o.ExactDict:=by
    rcases b with⟨k,b⟩|⟨k,b⟩
    ·obtain⟨_,_,_,_,o,_,_,e,ex,_⟩:=I.PJ p _ b
     exact⟨o,e,ex⟩
    ·obtain⟨_,_,_,_,o,_,_,e,ex,_⟩:=I.PJ p _ b
     exact⟨o,e,ex⟩
   obtain⟨o,e,ex⟩:=z;refine⟨⟨o,e,ex.1⟩,fun a f=>?_⟩;cases f;exact⟨o,e,ex.2.1⟩
  ·obtain⟨o,_,_,_,e,ex,_⟩:=I.PJ p _ b
   refine⟨⟨o,e,ex.1⟩,fun a f=>?_⟩;cases f;exact⟨o,e,ex.2.1⟩
 |_=>exact False.elim d
def MS(K:Ü)(T:String)(r:V->List V->Hp->VK->Prop)(to:TE):TE:=fun b H Q=>to b H fun x a=>yj K T x a/\r x [] a Q
def LL(K:Ü)(T:String)(r:V->List V->Hp->VK->Prop)(to:TE)(t:TA):TE:=fun a H Q=>to a H fun x b=>yj K T x b/\t a b fun c d=>r x c d Q
variable{o e:Ï}{es:List Ï}{to:TE}{t:TA}{name:Í}{apos cpos:Ĝ}{T id:String}{r:V->List V->Hp->VK->Prop}
theorem Hz(m:E! T)(c:Slot T name id)(d:typeOf (.builtin id)=pure (.type "method_descriptor"))(p:mJ X id r)(n:PE X o to)
  (b:autoParam (ę o name X.env (eval o X.env)=eval o X.env) Ax2._auto_1) (a:autoParam ((apos.endLine==cpos.line)=Â) Ax2._auto_1):PE X (.Call (.Attribute o name apos) [] [] cpos) (MS X.K T r to):=by
 intro g s f H Q I h;refine wpAny_Call_method0_late b a (aB (n g s f H _ I h) fun v k e=>?_);obtain⟨x,u,i,r1,j,l⟩:=e;obtain⟨t,q⟩:=yi i r1 j;exact⟨T,id,m,c,d,t,q,Calls.callWith_builtin rfl (PySem.evalArgs_none (p g k f u x [] v [] Q i r1 .nil l))⟩
theorem Kr(A:E! T)(d:Slot T name id)(i:typeOf (.builtin id)=pure (.type "method_descriptor"))(D:mJ X id r)(C:PE X o to)(E:PA X (e::es) t)
  (c:autoParam (ę o name X.env (eval o X.env)=eval o X.env) Ax2._auto_1)
  (f:autoParam (((ù cpos (Ê (e::es) X.env)).all (fun x=>!x.1)&&(ŉ cpos (đ [] X.env)).all (fun x=>x.1.isSome)
   && decide ((e::es).length+([]:List ŋ).length+(if([]:List ŋ).isEmpty then 0 else 1)<30))=Â) Ax2._auto_1)
  (b:autoParam ((apos.endLine==cpos.line)=Â) Ax2._auto_1) (B:autoParam (Ê (e::es) X.env=(Ä,eval e X.env)::Ê es X.env) Ax2._auto_1) (a:autoParam ((ù cpos (Ê es X.env)).any (·.1)=Ä) Ax2._auto_1) :
  PE X (.Call (.Attribute o name apos) (e::es) [] cpos) (LL X.K T r to t):=by
 intro k s g H Q I h;refine wpAny_Call_method_late c f b rfl (aB (C k s g H _ I h) fun v w j=>?_);obtain⟨x,L,m,r1,q,z⟩:=j;obtain⟨G,F⟩:=yi m r1 q;refine⟨T,id,A,d,i,G,F,?_⟩;have l:=E cpos k w g L _ m z;rw[B]at l ⊢;refine Calls.callWith_builtin (by show(Ä||(ù cpos (Ê es X.env)).any (·.1))=Ä;rw[a]<;>rfl) (Calls.evalArgs_plain ?_);exact aB l fun p u ⟨n,K,J,r2,y⟩=>D k u g K x n v p Q J r1 r2 y
end
def Mr(X:Cx)(id:String)(r:V->List V->Hp->VK->Prop):Prop :=
 ∀(d:List (Ç×Obj))(s:È)(a:St)(H:Hp)(x:V)(b:List V)(v:Å)(c:List Å)(Q:VK),Inv X d a H s->RelV x v->Vals b c->r x b H Q ->
  Î (model X.prog X.w) X.A (call (.builtin id) (v::c)) (EP X d a Q) X.xe s
theorem Vals.one{x:V}{us:List Å}(h:Vals [x] us):∃u,us=[u]/\RelV x u:=by
 cases h with
 |cons r h=>cases h;exact⟨_,rfl,r⟩
theorem Vals.reverse(h:Vals xs us):Vals xs.reverse us.reverse:=by
 induction h with
 |nil=>exact .nil
 |cons r t a=>rw[Ş,Ş];exact Vals.append a (.cons r .nil)
theorem Vals.rep(h:Vals xs us):∀k:Nat,Vals (Æ k xs).flatten (Æ k us).flatten
 |0=>.nil
 |k+1=>by
  rw[ê,ê,ć,ć];exact Vals.append h (Vals.rep h k)
theorem rJ(PB:List Å):∀(k:Nat)(acc:List Å),
  S! (fun x1 x2=>x1++x2) acc.toArray (Æ k PB.toArray)=(acc++(Æ k PB).flatten).toArray
 |0,acc=>by simp
 |k+1,acc=>by
  have e:acc.toArray++PB.toArray=(acc++PB).toArray:=by simp
  have a:(acc++PB)++(Æ k PB).flatten=acc++(Æ (k+1) PB).flatten:=by
   rw[ê,ć,yM]
  rw[<- a,<- rJ PB k (acc++PB),<- e,ê,ħ]
section
variable{X:Cx}{Pw:List (Ç×Obj)}{σ:St}{H:Hp}{s:È}{l b:Ç}{xs ys zs:List V}
theorem Inv.lset{PB its':List Å}{n:Nat}{f:Array Å->Array Å}{t':Nat}(I:Inv X Pw σ H s)(g:H l=À (.lst xs))
  (e:s.heap.get? l=À { cls:=.type "list",data:=.seq PB.toArray n }) (c:f PB.toArray=its'.toArray) (a:Vals ys its') (hz:ys.length<=Ë) :
  Inv X Pw σ (ag H l (.lst ys)) { s with heap:=s.heap.update l (Ģ f),toks:=t' }:=by
 have q:=PySem.IsL.update e f;rw[c]at q;refine I.write (x:=l) (e:=l) (by rw[g];exact trivial) (.inl rfl) (fun h u d b=>(x! s.heap (Ģ f) (ä d)).trans b) ⟨_,q⟩ ?_;exact⟨hz,its',_,a,q⟩
theorem Inv.lnew{t':Nat}(I:Inv X Pw σ H s)(a:Vals ys PB)(hz:ys.length<=Ë) :
  Inv X Pw σ (ag H s.heap.objs.size (.lst ys)) { s with heap:=s.heap.push { cls:=.type "list",data:=.seq PB.toArray },toks:=t' } :=
 I.laid (fun _ _ q=>zG _ q) (zP _) ⟨hz,PB,0,a,zY _ rfl⟩
theorem Inv.fresh(I:Inv X Pw σ H s):H s.heap.objs.size=Á:=I.PJ.fresh (zP _)
theorem Inv.lstM(I:Inv X Pw σ H s)(a:H l=À (.lst xs)):xs.length<=Ë/\∃(PB:List Å)(n:Nat),Vals xs PB/\xs.length=PB.length/\s.heap.get? l=À { cls:=.type "list",data:=.seq PB.toArray n }:=by
 obtain⟨z,PB,n,r,e⟩:=I.PJ l _ a;exact⟨z,PB,n,r,r.length,e⟩
theorem notLongL{n:Nat}(h:n<=Ë):ó n=Ä:=by
 unfold ó;exact z9 oM
end
section
variable{X:Cx}
def Eo:V->List V->Hp->VK->Prop:=fun x b H Q=>∃l a y,x=.ref l/\b=[y]/\H l=À (.lst a)/\a.length<Ë/\Q .non (ag H l (.lst (a++[y])))
theorem rp:Mr X "list.append" Eo:=by
 intro m s f H x i v j Q I rx c h;obtain⟨l,g,y,rfl,rfl,a,hz,q⟩:=h;cases rx;obtain⟨u,rfl,d⟩:=c.one;obtain⟨z,b,n,r,k,e⟩:=I.lstM a;refine ϋ F.slot_list_append ⟨_,e,rfl⟩ F.entry_list_append (F.args_list_append_2 _ _) (PySem.list_append l b.toArray n u (by rw[zI];lia)) ⟨e,?_⟩;refine⟨.non,_,I.lset (its':=b++[u]) a e (by simp) (r.append (.cons d .nil)) ?_,rfl,q⟩;rw[zV,List.length_singleton];lia
def M3:R2:=fun x y H Q=>∃l k a,x=.ref l/\y=.int k/\H l=À (.lst a)/\-(2^63)<=k/\k<2^63/\a.length*k.toNat<=Ë /\
 ∀p,H p=Á->Q (.ref p) (ag H p (.lst (Æ k.toNat a).flatten))
theorem Fl{α:Type}(xs:List α)(k:Nat):(Æ k xs).flatten.length=k*xs.length:=by
 induction k with
 |zero=>simp
 |succ k a=>rw[ê,ć,zV,a,F!,Nat.add_comm]
theorem HE:mI X (ż .Mult) M3:=by
 intro L s G H x y v u Q I rx w h;obtain⟨l,k,J,rfl,rfl,B,D,C,hz,q⟩:=h;cases rx;obtain⟨t,rfl⟩:=w;obtain⟨z,b,n,r,A,e⟩:=I.lstM B;have f:b.toArray.size*k.toNat<=Ë:=by rw[zI,<- A];exact hz
 have i:¬b.toArray.size*k.toNat > (2^63-1)/8:=by
  have:(Ë:Nat)<=(2^63-1)/8:=by decide
  lia
 have g:¬(!Builtin.List.listFitsIndex k)=Â:=by
  rw[fitsIndex_both D C];exact ğ
 have c:¬ó (b.toArray.size*k.toNat)=Â:=by
  rw[notLongL f];exact ğ
 have d:S! (fun o j=>o++j) #[] (Æ (if b.toArray.isEmpty=Â then 0 else k.toNat) b.toArray)=(Æ k.toNat b).flatten.toArray:=by
  have E:∀m:Nat,S! (fun o j=>o++j) #[] (Æ m b.toArray)=(Æ m b).flatten.toArray:=fun m=>by
   have:=rJ b m []
   rw[List.nil_append]at this;exact this
  rw[E];cases b with
  |nil=>simp
  |cons a K=>rw[yG (by simp)]
 refine wpAny_binaryOp_repeat_ref (T:="list") (U:="int") dC ⟨_,e,rfl⟩ (fun p=>W2 p k t) noFill_list_mul F.fills_int_mul F.slot_int_rmul repeat_list F.slot_int_index.lookup
  (ϋ F.slot_int_rmul (W2 s k t) F.entry_int_rmul (F.args_int_rmul_2 _ _) (int___rmul___int_list k t l b.toArray n)
   ⟨e,rfl,⟨_,e,rfl⟩,ϋ F.slot_list_mul ⟨_,e,rfl⟩ F.entry_list_mul (F.args_list_mul_2 _ _) (AutoListH.list___mul___list_int_3 l b.toArray n k t g i c) ⟨e,?_⟩⟩)
 rw[d];exact⟨.ref _,_,I.lnew (t':=s.toks) (r.rep k.toNat) (by rw[Fl,Nat.mul_comm];exact hz),rfl,q _ I.fresh⟩
end
end L2
namespace Att
open PySem PySem.W PySem.Calls PyProof.Rows
theorem pG:∀(ns:List Int)(vs:List Å),WellAll P h vs (ns.map WData.int)->ώ vs ns:=by
 intro ns
 induction ns with
 |nil =>
  intro vs w;rw[Ğ]at w;cases w;exact .nil
 |cons n ns c =>
  intro vs w;rw[zO]at w;cases w with
  |cons a b =>
   cases a;exact .cons _ _ (c _ b)
theorem zb{l:OpenLaw}{n:Nat}(s:l.most=À n){P:Params}{h:æ}{args:List WData}{b:List Å}
  (c:l.row.toRowW.claim.pre args=Â) (i:WellAll P h b args) :
  ∃a vs ns,b=[ï a]/\args=[WData.list (ns.map WData.int)]/\h.get? a=À { cls:=.type "list",data:=.seq vs.toArray }/\ώ vs ns/\ns.length<=n:=by
 have j:WShape.hasAll [] args [.list .int]=Â:=(pre_splitW c).1;have k:l.pre.holds [] { args:=args }=Â:=(pre_splitW c).2;obtain⟨d,r,rfl,v,u⟩:=hasAllW_cons j;obtain rfl:=hasAllW_nil u;obtain⟨w,rfl,t⟩:=hasW_list v;obtain⟨ns,rfl⟩:=items_int t;have e:ns.length<=n:=by
  unfold OpenLaw.pre at k;have g:(WTm.not (.lt (.lit (.int (n:Int))) (.len (.arg 0)))).holds [] { args:=[.list (ns.map .int)] }=Â:=by
   have g:=(holds_andW k).1;rw[s]at g;exact g
  have f:=condW_of g (w_not (w_lt w_lit (w_len_list (w_arg rfl))));rw[zH]at f;refine U9 fun q=>?_
  have p:(n:Int)<((ns.length:Nat):Int):=by lia
  first
   | (rw [yV p] at f;exact absurd f dC)
   | (simp at f;lia)
 cases i with
 |cons o m =>
  cases m;cases o with
  |list ho hall=>exact⟨_,_,ns,rfl,rfl,ho,pG ns _ hall,e⟩
theorem zq(l:OpenLaw)(args:List WData):l.row.toRowW.claim.post args (.bool Â) args=Â :=
 postW_of (r:=l.row.toRowW) (X:=(Â==Â))
  (show WShape.has [] (.bool Â) .bool=Â by first | rfl | decide | simp [WShape.has,WShape.arms,WShape.armsAll])
  (show (WTm.eq .res (.lit (.bool Â))).value [] { args:=args,res:=À (.bool Â),after:=args }=À (.bool (Â == Â)) from w_eq_bool (w_res rfl) w_lit) rfl
theorem attach_call{l:OpenLaw}{n:Nat}{q:Ò}{b8:List Í}{v:(Í->Option Å)->æ->Prop}{u:Ù->æ->Prop}{d:DefRec}
  (A:l.most=À n) (j:d.params.defaults=[])
  (call:∀(w:Ù)(s₀ s₁:È)(mg mb:Í->Option Å)(fa:Ç)(o:Y5)(pm cd doc:Å)(a:Ç)(vs:List Å)(ns:List Int),
   Ground q b8 [] v w s₀ mg mb s₁.heap->u w s₁.heap ->
   s₁.heap.get? fa=À o->o.data=.func (docDef d.name d.params d.body d.scope pm cd doc)->s₁.heap.CodeRec cd d.name->mg d.name=À (.ref fa) ->
   s₁.heap.get? a=À { cls:=.type "list",data:=.seq vs.toArray }->ώ vs ns->ns.length<=n->s₁.gens=#[] ->
   ň (model l.prog w) ϊ (.call (.ref fa) ⟨[.ref a],[]⟩) (fun r s'=>r=.ok (.ret (.bool Â))/\OldK s₁.heap s'.heap/\s'.os=s₁.os/\ϐ s'.gens) s₁) :
  WalkO q b8 v u l.row.toRowW d [] (fun f vs=>O! f vs):=by
 intro w s₀ s₁ mg mb G Y fa o pm cd doc I kV z hd k s i D t m J c p x h C;obtain rfl:I=.none:=Dflts.none s j;obtain rfl:kV=.none:=Dflts.noKw s;obtain⟨a,vs,ns,rfl,rfl,e,b,g⟩:=zb A c h;refine enter_call (ś (call w s₀ s₁ mg mb fa o pm cd doc a vs ns G Y z (fd_plain hd) k i e b g D) fun r s' y=>?_);obtain⟨rfl,H,F,E⟩:=y;exact⟨.inl ⟨.bool Â,.bool Â,[],rfl,fun _=>rfl,.bool Â,zq l _,fun _=>⟨Ŷ,fun _ B=>(nomatch B)⟩⟩,H,F,E⟩
end Att
namespace L2
open PySem PySem.Spec PyProof.Rows
theorem yf:∀{vs:List Å}{ns:List Int},ώ vs ns->Vals (ns.map V.int) vs:=by
 intro vs ns h
 induction h with
 |nil=>exact .nil
 |cons n t h a=>exact .cons ⟨t,rfl⟩ a
noncomputable def cP(s:ľ):Ϧ:=match s with
 |.FunctionDef _ a _ _ _ _ _ _ _ _=>a
 |_=>{ posonlyargs:=[],args:=[],vararg:=Á,kwonlyargs:=[],kw_defaults:=[],kwarg:=Á,defaults:=[] }
noncomputable def cO(s:ľ):List ľ:=match s with
 |.FunctionDef _ _ b _ _ _ _ _ _ _=>b
 |_=>[]
noncomputable def bM(s:ľ):Ġ:=match s with
 |.FunctionDef _ _ _ _ _ _ sc _ _ _=>sc
 |_=>{ kind:=.function,names:=[],isGenerator:=Ä,isCoroutine:=Ä }
abbrev fE:mN:=fun _ _ _ _ _ _=>False
abbrev E0:XK:=fun _ _ _=>False
theorem pe:iu fE X E0:=fun _ _ _ _ _ _ _ h=>h.elim
structure Fun(K:Ü)(x qual:Í)(st:ľ)(f:Ç)(fd:Ē):Prop where
 ex:∃(oc:Å)(od:Option Ç)(kV doc pm:Å)(an:Option Ç)(cdv ct:Å)(osl:Array (Option Å)),
  fd=fnOf x qual (cP st) (cO st) (bM st) .none kV doc pm an cdv ct/\K.lookup f=À ⟨oc,od,.func fd,osl⟩/\ϝ K cdv qual=Â
 kp:ĺ K (.ref f)=Â
section
variable{P:Ò}{w:Ù}{K:Ü}{mg:Í->Option Å}{base:æ}
theorem Fun.binds{x qual:Í}{st:ľ}{f:Ç}{fd:Ē}{ps:List Í}(F:Fun K x qual st f fd)
  (h:∀(kV doc pm:Å)(an:Option Ç)(cdv ct:Å)(us:List Å),us.length=ps.length->C! (fnOf x qual (cP st) (cO st) (bM st) .none kV doc pm an cdv ct) ⟨us,[]⟩=pure (ps.zip us)):Binds K fd ps []:=by
 obtain⟨d,c,kV,doc,pm,an,cdv,ct,a,rfl,lk,b⟩:=F.ex;exact .all (h kV doc pm an cdv ct)
theorem pW{x qual:Í}{st:ľ}{f:Ç}{h:Å}{g e:Option Ç}{d:Array (Option Å)}{kV b pm a ct:Å}(l:K.lookup f=À ⟨h,g,.func (fnOf x qual (cP st) (cO st) (bM st) .none kV b pm e a ct),d⟩)
  (c:ϝ K a qual=Â) (k:ĺ K (.ref f)=Â):Fun K x qual st f (fnOf x qual (cP st) (cO st) (bM st) .none kV b pm e a ct):=⟨⟨h,g,kV,b,pm,e,a,ct,d,rfl,l,c⟩,k⟩
end
theorem rg{n:Nat}(h:n<=1000):n<Ë:=yL h dC
end L2
set_option maxHeartbeats 4000000
namespace DD
open PySem PySem.Spec PyProof.Rows L2
abbrev St:=L2.St
section
variable{X:Cx}{e:Ï}{es:List Ï}{st:ľ}{sts:List ľ}
theorem PE_imp(h:PE X e t)(i:∀σ H Q,t' σ H Q->t σ H Q):PE X e t':=fun b s σ H Q I a=>h b s σ H Q I (i σ H Q a)
theorem PT_imp(h:PT X e t)(i:∀σ H Q,t' σ H Q->t σ H Q):PT X e t':=fun b s σ H Q I a=>h b s σ H Q I (i σ H Q a)
theorem PW_imp(h:PW X e t)(i:∀σ H Q,t' σ H Q->t σ H Q):PW X e t':=fun a c s σ H Q I b=>h a c s σ H Q I (i σ H Q b)
theorem PA_imp(h:PA X es t)(i:∀σ H Q,t' σ H Q->t σ H Q):PA X es t':=fun p b s σ H Q I a=>h p b s σ H Q I (i σ H Q a)
theorem PS_imp(h:PS X st t)(i:∀D σ H,t' D σ H->t D σ H):PS X st t':=fun b s σ H D I a=>h b s σ H D I (i D σ H a)
theorem PSs_imp(h:PSs X sts t)(i:∀D σ H,t' D σ H->t D σ H):PSs X sts t':=fun b s σ H D I a=>h b s σ H D I (i D σ H a)
theorem OpR_imp(h:mI X f r)(i:∀x y H Q,r' x y H Q->r x y H Q):mI X f r':=fun e s c H x y v u Q I a b d=>h e s c H x y v u Q I a b (i x y H Q d)
end
theorem PG_imp(h:PG X tg t)(i:∀v σ H Q,t' v σ H Q->t v σ H Q):PG X tg t':=fun c s σ H v u Q I a b=>h c s σ H v u Q I a (i v σ H Q b)
end DD
namespace L2
open PySem PySem.Spec PyProof.Rows
theorem p9:∀(names:List (Í×NameKind))(n:Nat)(acc:List (Í×Addr)),∃own,Ď n names acc=own++acc/\(∀p∈own,n<=p.2/\(p.1,Ě)∈names) /\
  (∀x,(x,Ě)∈names->∃c,(x,c)∈own)/\own.Pairwise fun x y=>x.2≠y.2
 |[],n,acc=>⟨[],rfl,(fun _ h=>by cases h),(fun _ h=>by cases h),Ŷ⟩
 |(name,kind)::r,n,acc=>by
  unfold Ď;by_cases hk:kind=.cell
  ·subst hk
   obtain⟨own,e,h1,h2,h3⟩:=p9 r (n+1) ((name,n)::acc);refine⟨own++[(name,n)],?_,?_,?_,?_⟩
   ·rw[yH dC,e,yM];rfl
   ·intro p f
    rcases zZ.mp f with f|f
    ·exact⟨ċ (h1 p f).1,zQ _ (h1 p f).2⟩
    ·rw[zM.mp f];exact⟨zP _,z7⟩
   ·intro x d
    rcases zT.mp d with d|d
    ·cases d;exact⟨n,zK _ z7⟩
    ·obtain⟨c,j⟩:=h2 x d;exact⟨c,zL _ j⟩
   ·refine List.pairwise_append.mpr ⟨h3,List.pairwise_singleton _ _,fun a l b k e=>?_⟩
    rw[zM.mp k]at e;have i:=(h1 a l).1;rw[show a.2=n from e]at i;exact absurd i (Nat.not_succ_le_self n)
  ·obtain⟨own,e,h1,h2,h3⟩:=p9 r n acc
   have g:(kind==Ě)=Ä:=by cases kind<;>first|rfl|exact absurd rfl hk
   refine⟨own,by rw[g];exact e,fun p f=>⟨(h1 p f).1,zQ _ (h1 p f).2⟩,fun x d=>?_,h3⟩;rcases zT.mp d with d|d
   ·cases d;exact absurd rfl hk
   ·exact h2 x d
theorem k4(h:∀x,(x,Ø)∈scope.names->∃c,env.cells.lookup x=À c) :
  ∃cl,W5 scope env=pure cl/\(∀p∈cl,env.cells.lookup p.1=À p.2)/\∀x,(x,Ø)∈scope.names->∃c,(x,c)∈cl:=by
 have all:∀(a:List (Í×NameKind))(b:List (Í×Addr)),(∀x,(x,Ø)∈a->∃c,env.cells.lookup x=À c)->(∀p∈b,env.cells.lookup p.1=À p.2) ->
   ∃cl,(forIn (m:=Y3) a b fun(p:Í×NameKind)(w:List (Í×Addr))=>if(p.2==Ø)=Â then do let f <- cellOf env p.1;pure (ı ((p.1,f)::w)) else pure (ı w))=pure cl /\
    (∀p∈cl,env.cells.lookup p.1=À p.2)/\(∀p∈b,p∈cl)/\∀x,(x,Ø)∈a->∃c,(x,c)∈cl:=by
  intro a
  induction a with
  |nil=>intro b _ n;exact⟨b,by rw[W!],n,fun _ h=>h,(fun _ h=>by cases h)⟩
  |cons p r u =>
   obtain⟨g,i⟩:=p;intro b q n;by_cases t:i=.free
   ·subst t
    obtain⟨c,v⟩:=q g z7;obtain⟨cl,e,l,o,k⟩:=u ((g,c)::b) (fun x d=>q x (zQ _ d)) (fun p j=>by
     rcases zT.mp j with rfl|j
     ·exact v
     ·exact n p j)
    refine⟨cl,?_,l,fun p j=>o p (zQ _ j),fun x d=>?_⟩
    ·rw[V0]
     have y:cellOf env g=pure c:=by unfold cellOf;rw[v]
     simp only[y];exact e
    ·rcases zT.mp d with d|d
     ·cases d;exact⟨c,o _ z7⟩
     ·exact k x d
   ·obtain⟨cl,e,l,o,k⟩:=u b (fun x d=>q x (zQ _ d)) n
    have s:(i==Ø)=Ä:=by cases i<;>first|rfl|exact absurd rfl t
    refine⟨cl,?_,l,o,fun x d=>?_⟩
    ·rw[V0];simp only[s,yA,if_false];exact e
    ·rcases zT.mp d with d|d
     ·cases d;exact absurd rfl t
     ·exact k x d
 obtain⟨cl,e,l,_,k⟩:=all scope.names [] h (fun _ h=>by cases h);refine⟨cl,?_,l,k⟩;simp only[W5];rw[e];rfl
theorem B0
  (e:Q (W3 scope s.heap.objs.size env.globals (Ď (s.heap.objs.size+1) scope.names cl) env.qual Á .none (À env) Ę) { s with heap:=Ż (s.heap.push { cls:=.type "dict",data:=.dict #[] }) scope.names }) :
  Î M A (B! scope env.globals cl [] env.qual Á .none (À env)) Q E s:=by
 simp only[B!,J!,if_true];refine yE (wpAny_alloc ?_);refine yE (wpAny_layCells _ (fun d a c=>by cases b:a==Ě<;>simp[b]) _ _ _ _ ?_);rw[show({ s with heap:=s.heap.push { cls:=.type "dict",data:=.dict #[] } }:È).heap.objs.size=s.heap.objs.size+1 from Į ..];refine yE ?_;rw[W!];exact yF (yF e)
noncomputable def cE(X:Cx)(N':List Í)(scope:Ġ)(cl:List (Í×Addr))(s:È)(H:Hp)(a:List Ç)(Pw:List (Ç×Obj)):Cx :=
 { X with N:=N',s₀:=s,H₀:=H,env:=compEnvC scope (Ď (s.heap.objs.size+1) scope.names cl) s.heap.objs.size X.env,outer:=X.stack,stack:=X.stack,ex:=a,
          fn:=fun x=>scope.names.lookup x==À .cell,pn:=X.pn++Pw,xe:=fun _ _=>False }
structure j3(X:Cx)(N':List Í)(scope:Ġ):Prop where
 kind:scope.kind=.function
 nd:(scope.names.map (·.1)).Nodup
 len:X.N.length<=N'.length
 free:∀x,(x,Ø)∈scope.names->X.env.kindOf x=À .cell\/X.env.kindOf x=À .free
 same:∀i x,i<X.N.length->N'[i]?=À x->(x,Ø)∈scope.names->X.N[i]?=À x
 hid:∀i x,i<X.N.length->N'[i]?=À x->(∃k,(x,k)∈scope.names)->(x,Ø)∈scope.names
theorem di{α:Type}:∀{l:List (Í×α)}{x:Í}{k:α},(l.map (·.1)).Nodup->(x,k)∈l->l.lookup x=À k
 |(y,j)::r,x,k,nd,h=>by
  rw[zO,Ŀ]at nd;rcases zT.mp h with h|h
  ·cases h;rw[yN];simp
  ·have ne:x≠y:=fun e=>nd.1 (e▸ϕ (f:=(·.1)) h)
   rw[yN];have:(x==y)=Ä:=by simpa using ne
   rw[this];exact di nd.2 h
theorem gk{α:Type}:∀{l:List (Í×α)}{x:Í}{k:α},(x,k)∈l->∃k',l.lookup x=À k'
 |(y,j)::r,x,k,h=>by
  rw[yN];cases hb:x==y with
  |true=>exact⟨j,rfl⟩
  |false =>
   rcases zT.mp h with h|h
   ·cases h;simp at hb
   ·exact gk h
theorem ib(h:(relabel scope env).names.lookup x=À k):(x,k)∈scope.names\/((x,Ø)∈scope.names/\k=.cell):=by
 have b:=mem_of_lookup h;unfold relabel at b;obtain⟨⟨n,j⟩,a,e⟩:=yC.mp b;dsimp only at e;split at e
 ·rename_i c
  cases e;refine .inr ⟨?_,rfl⟩;have:j=.free:=by
   cases j<;>simp at c<;>rfl
  subst this;exact a
 ·cases e;exact .inl a
theorem sF{α:Type}{a b:List (Í×α)}(h:∀p∈a,p.1≠x):(a++b).lookup x=b.lookup x:=by
 induction a with
 |nil=>rfl
 |cons p r c =>
  obtain⟨y,j⟩:=p;rw[ϳ,yN];have:(x==y)=Ä:=by
   have:=h (y,j) z7
   simpa using fun e:x=y=>this e.symm
  rw[this];exact c fun p d=>h p (zQ _ d)
section
variable{X:Cx}{N':List Í}{scope:Ġ}{cl:List (Í×Addr)}{s:È}{H:Hp}{fp:List Ç}{Pw:List (Ç×Obj)}{σ:St}
theorem CA(T:j3 X N' scope)(I:Inv X Pw σ H s)(O:∀p∈cl,X.env.cells.lookup p.1=À p.2)(Z:∀x,(x,Ø)∈scope.names->∃c,(x,c)∈cl)
  (hf:∀b∈fp,d6 X Pw H b) (ho:∀b∈fp,∃o,s.heap.get? b=À o) :
  Inv (cE X N' scope cl s H fp Pw) [] (σ++Æ (N'.length-X.N.length) Á) H { s with heap:=Ż (s.heap.push { cls:=.type "dict",data:=.dict #[] }) scope.names }:=by
 obtain⟨g,N,o1,o2,o3⟩:=p9 scope.names (s.heap.objs.size+1) cl;have B:∀b o,s.heap.get? b=À o->(Ż (s.heap.push { cls:=.type "dict",data:=.dict #[] }) scope.names).get? b=À o:=fun b o e=>s? _ _ b o (zG _ e)
 have clt:∀x c,(x,c)∈cl->c<s.heap.objs.size:=fun x c h=>by
  obtain⟨v,z⟩:=I.cell x c (O _ h);exact z.lt
 have f:∀x c,(g++cl).lookup x=À c->(s.heap.objs.size+1<=c/\(x,c)∈g)\/X.env.cells.lookup x=À c:=fun x c h=>by
  rcases zZ.mp (mem_of_lookup h) with h|h
  ·exact .inl ⟨(o1 _ h).1,h⟩
  ·exact .inr (O _ h)
 have hst:∀b∈fp,b∉kx X.stack:=fun b J z=>by
  rcases zT.mp (I.stkSub b z) with e|e
  ·exact(hf b J).2.1 e
  ·exact(hf b J).2.2.1 e
 have okc:CellsOk (Ż (s.heap.push { cls:=.type "dict",data:=.dict #[] }) scope.names) (s.heap.objs.size+1) (Ď (s.heap.objs.size+1) scope.names []):=by
  have q:=cellsFrom_ok scope.names (s.heap.push { cls:=.type "dict",data:=.dict #[] }) (s.heap.objs.size+1) [] ⟨(fun _ _ Y=>by cases Y),Ŷ⟩ (by rw[Į];exact zP _);rw[Į]at q;exact q
 have eown:Ď (s.heap.objs.size+1) scope.names []=g:=by
  obtain⟨own',e',_⟩:=p9 scope.names (s.heap.objs.size+1) [];have R:∀(A:List (Í×NameKind))(n:Nat)(D:List (Í×Addr)),Ď n A D=Ď n A []++D:=by
   intro A
   induction A with
   |nil=>intro n D;rfl
   |cons p r V =>
    obtain⟨F,U⟩:=p;intro n D;unfold Ď;split
    ·rw[V (n+1) ((F,n)::D),V (n+1) [(F,n)],yM];rfl
    ·exact V n D
  have:=R scope.names (s.heap.objs.size+1) cl
  rw[N]at this;exact(List.append_cancel_right this).symm
 have ok:(cE X N' scope cl s H fp Pw).Ok:=by
  refine⟨I.ok.mod,T.kind,I.ok.glob,I.ok.blt,zP _,fun x y c h1 L=>?_,fun x h=>?_,fun x c h1 L=>?_,I.ok.hd,I.ok.frames,.inl rfl,fun b J=>⟨?_,fun x c h=>?_⟩,I.bs,z5 I.ok.bsz I.sz,fun b o e J=>?_,hst,I.stack,I.stkFree⟩
  ·have h1:(g++cl).lookup x=À c:=N▸h1
   have L:(g++cl).lookup y=À c:=N▸L;rcases f x c h1 with⟨K,S⟩|E
   ·rcases f y c L with⟨l2,m2⟩|M
    ·exact name_of_addr o3 S m2
    ·obtain⟨v,z⟩:=I.cell y c M
     exact absurd (zJ z.lt (ċ (by first|exact l2|exact K))) (y0 _)
   ·rcases f y c L with⟨l2,m2⟩|M
    ·obtain⟨v,z⟩:=I.cell x c E
     exact absurd (zJ z.lt (ċ (by first|exact l2|exact K))) (y0 _)
    ·exact I.ok.inj x y c E M
  ·show ∃c,(Ď (s.heap.objs.size+1) scope.names cl).lookup x=À c
   rw[N];have w:(x,Ø)∈scope.names->∃c,(g++cl).lookup x=À c:=fun Y=>by
    obtain⟨c,Q⟩:=Z x Y;exact gk (zK g Q)
   have C:(x,Ě)∈scope.names->∃c,(g++cl).lookup x=À c:=fun Y=>by
    obtain⟨c,Q⟩:=o2 x Y;exact gk (zL cl Q)
   rcases h with h|h
   ·rcases ib h with h|⟨h,_⟩
    ·exact C h
    ·exact w h
   ·rcases ib h with h|⟨h,e⟩
    ·exact w h
    ·cases e
  ·have L:(g++cl).lookup x=À c:=N▸L
   have Q:scope.names.lookup x=À .cell:=by
    have:(scope.names.lookup x==À Ě)=Â:=h1;simpa using this
   rcases f x c L with⟨K,S⟩|E
   ·exact ċ K
   ·-- x is one of the block's g: PB cell stands ahead
    obtain⟨c',P⟩:=o2 x (mem_of_lookup Q);obtain⟨c2,G⟩:=gk P;have:(g++cl).lookup x=À c2:=by
     have R:∀l:List (Í×Addr),l.lookup x=À c2->(l++cl).lookup x=À c2:=by
      intro l
      induction l with
      |nil=>intro h;cases h
      |cons p r V =>
       obtain⟨y,j⟩:=p;intro h;rw[ϳ,yN];rw[yN]at h;cases J:x==y with
       |true=>rw[J]at h;exact h
       |false=>rw[J]at h;exact V h
     exact R g G
    rw[this]at L;cases L;exact ċ (o1 _ (mem_of_lookup G)).1
  ·obtain⟨o,e⟩:=ho b J
   exact zU (yI e)
  ·have h:(g++cl).lookup x=À c:=N▸h
   obtain⟨o,e⟩:=ho b J;have hlt:=yI e;rcases f x c h with⟨K,S⟩|E
   ·intro z
    rw[z]at K;exact absurd (zJ hlt (ċ K)) (y0 _)
   ·exact(hf b J).2.2.2.2.1 x c E
  ·rcases(hf b J).2.2.2.1 with z|z
   ·exact I.ok.noex b o e z
   ·exact absurd (zJ (yI e) (z5 I.ok.bsz z)) (y0 _)
 refine⟨ok,rfl,I.bare,Un.kept B,⟨fun _=>Á,(Heap.Ns.new s.heap (.type "dict")).keeps (s? _ _),fun i x v E M e3=>?_⟩,fun x c h=>?_,I.PJ.fresh (zP _),fun x c h=>?_,fun p hp=>?_,I.PJ.kept B,?_⟩
 ·-- a F of the code around
  have hlen:=I.len;have hi:i<σ.length:=by
   rcases yT i σ.length with h|h
   ·exact h
   ·rw[z6 h]at M
    rw[þ]at M;split at M<;>cases M
  rw[zN hi]at M;have W:∃k,(x,k)∈scope.names:=by
   have:∃k,(relabel scope X.env).names.lookup x=À k:=by
    rcases e3 with h|h|h<;>exact⟨_,h⟩
   obtain⟨k,h⟩:=this;rcases ib h with h|⟨h,_⟩<;>exact⟨_,h⟩
  have t:=T.hid i x oM E W;have eX:=T.same i x oM E t;have kX:=T.free x t;obtain⟨m,hn,hl⟩:=I.loc;obtain⟨u,ru,lk⟩:=hl i x v eX M (by rcases kX with h|h;exact .inr (.inl h);exact .inr (.inr h));refine⟨u,ru,.inr ⟨?_,?_⟩⟩
  ·-- PB U in the block
   have:∃k,(relabel scope X.env).names.lookup x=À k:=by
    rcases e3 with h|h|h<;>exact⟨_,h⟩
   obtain⟨k,h⟩:=this;rcases ib h with h'|⟨h',e⟩
   ·have e5:=di T.nd h'
    have e6:=di T.nd t;rw[e5]at e6;cases e6;exact .inr h
   ·subst e;exact .inl h
  ·rcases lk with⟨k1,_⟩|⟨_,c,Q,z⟩
   ·rcases kX with h|h<;>rw[h]at k1<;>cases k1
   ·refine⟨c,?_,z.keeps B⟩
    show(Ď (s.heap.objs.size+1) scope.names cl).lookup x=À c;rw[N,sF fun p hp e=>?_]
    ·obtain⟨c',P⟩:=Z x t
     obtain⟨c2,G⟩:=gk P
     have:=O _ (mem_of_lookup G)
     rw[Q]at this;cases this;exact G
    ·have e5:=di T.nd (o1 p hp).2
     rw[e]at e5;have e6:=di T.nd t;rw[e5]at e6;cases e6
 ·have h:(g++cl).lookup x=À c:=N▸h
  rcases f x c h with⟨K,S⟩|E
  ·exact⟨Á,(okc.empty x c (eown▸S)).1⟩
  ·obtain⟨v,z⟩:=I.cell x c E
   exact⟨v,z.keeps B⟩
 ·have h:(g++cl).lookup x=À c:=N▸h
  rcases f x c h with⟨K,S⟩|E
  ·exact I.PJ.fresh (ċ K)
  ·exact I.freeC x c E
 ·rw[ô]at hp
  obtain⟨e,n,ne,nf,d⟩:=I.pin p hp;refine⟨B _ _ e,n,zU (yI e),fun z=>?_,d⟩;rcases zT.mp (I.stkSub p.1 z) with z|z
  ·exact ne z
  ·exact nf z
 ·show(σ++Æ (N'.length-X.N.length) Á).length=N'.length
  rw[zV,Ņ,I.len]
  have:=T.len
  lia
theorem Jf(I:Inv X Pw σ H s)(i:∀b∈fp,d6 X Pw H b)(g:Inv (cE X N' scope cl s H fp Pw) pins1 σ1 H1 s1)(h:İ s.heap.objs.size s1.heap h') :
  Inv X Pw σ H1 { s1 with heap:=h' }:=by
 have j:∀b o,s.heap.get? b=À o->b≠s.heap.objs.size:=fun b o e=>zU (yI e)
 have u:=g.base;have k:Un (kx X.stack) fp H H1 s.heap h':=by
  refine⟨fun b o e n a d=>?_,fun b o e n a d=>?_,u.free,fun b o e d=>?_,u.tups,u.frzs,u.tbls⟩
  ·rw[h.2 b (j b o e)];exact u.keep b o e n a d
  ·obtain⟨l,q⟩:=u.slot b o e n a d
   exact⟨l,by rw[h.2 b (j b o e)];exact q⟩
  ·obtain⟨m,q⟩:=u.there b o e d
   exact⟨m,by rw[h.2 b (j b o e)];exact q⟩
 have f:H1 s.heap.objs.size=Á:=g.free;refine I.call' (s':={ s1 with heap:=h' }) g.os k (fun b o e=>?_) g.bare fun b a=>⟨(i b a).2.2.2.1,(i b a).2.1,(i b a).2.2.2.2.1,(i b a).2.2.2.2.2⟩
 refine(g.PJ b o e).stay (fun c v p q=>(h.2 c ?_).trans q) (fun _ q=>q) fun _ _ q=>q
 rintro rfl;rcases p with z|z
 ·rw[<- z,f]at e;cases e
 ·rw[f]at z;cases z
def wJ(X:Cx)(b:List Ï)(t:TT):Prop :=
 ∀(d:List (Ç×Obj))(s:È)(a:St)(H:Hp)(Q:Bool->Hp->Prop),Inv X d a H s->t a H Q ->
  Î (model X.prog X.w) X.A (forIn b Â fun c r=>if r=Â then do let ok <- B? c X.env (eval c X.env);pure (ı ok) else pure (ı r)) (TP X d a Q) X.xe s
theorem EU:wJ X [] (fun _ H Q=>Q Â H):=fun b s a H Q I h=>wpAny_tests_nil ⟨H,I,h⟩
theorem ET(h:PT X c t):wJ X [c] t:=fun d s a H Q I b=>wpAny_tests_one (h d s a H Q I b)
def Gh(k:Nat)(o:TI)(g:TG)(tt:TT)(te:TE):TE:=fun f H Q=>o f H fun J n=>∀p,n p=Á ->
 ∃W:Nat->Nat->St->Hp->Prop,(∃m,W 0 m (f++Æ k Á) (ag n p (.lst [])))/\∀i m b d,W i m b d ->
  (J.stop i d/\Q (.ref p) d)\/(J.go i d/\∀x l,J.yld i d x l->g x b l fun a q=>tt a q fun ok j=>if ok=Â then
   te a j fun y h=>∃e,h p=À (.lst e)/\e.length<Ë/\∃c,c<m/\W (i+1) c a (ag h p (.lst (e++[y])))
   else ∃c,c<m/\W (i+1) c a j)
theorem uQ(I:Nat->È->Prop)
  (turn:∀n s,I n s->Î (model prog w) A (A! it) (fun r s₁=>match r with
   |none=>R (.ok .next) s₁
   |some v=>Î (model prog w) A (ϓ target it v) (fun _ s₁'=>Î (model prog w) A (assign target env v) (fun _ s₂ =>
     Î (model prog w) A (forIn ifs Â fun c r=>if r=Â then do let ok <- B? c env (eval c env);pure (ı ok) else pure (ı r)) (fun ok s₃ =>
      if ok=Â then Î (model prog w) A (eval elt env) (fun x s₄ =>
       Î (model prog w) A (call (.builtin "list.append") [acc,x]) (fun _ s₅=>∃m,m<n/\I m s₅) (fun _ _=>False) s₄) (fun _ _=>False) s₃
      else ∃m,m<n/\I m s₃) (fun _ _=>False) s₂) (fun _ _=>False) s₁') (fun _ _=>False) s₁) (fun _ _=>False) s)
  (n:Nat) (h:I n s):ň (model prog w) A (.compLoop (.ListComp elt [⟨target,iter,ifs,0⟩] scope pos) 0 it acc env) R s:=by
 refine codeAny_loop rfl I (fun n s j=>?_) n h;show Î _ A ((compTurn (.ListComp elt [⟨target,iter,ifs,0⟩] scope pos) 0 it acc env).onRaise (fun x=>do noteFrame x env;theTreesLotGoes x)) _ _ s;refine wpAny_noted ?_;rw[compTurn_list];refine yE (ų (yE (yS (turn n s j) (fun r s₁ d=>?_) fun _ _ a=>a.elim)));cases r with
 |none=>exact yF d
 |some v =>
  refine yE (yS d (fun _ s₁' e=>?_) fun _ _ a=>a.elim);refine yE (yS e (fun _ s₂ i=>yE (yS i (fun ok s₃ b=>?_) fun _ _ a=>a.elim)) fun _ _ a=>a.elim);cases ok with
  |false=>exact yF ⟨rfl,b⟩
  |true =>
   exact yE (yE (yS b (fun x s₄ g=>yE (yS g (fun _ s₅ f=>yF (yF ⟨rfl,f⟩)) fun _ _ a=>a.elim)) fun _ _ a=>a.elim))
theorem ud{elt z S:Ï}{B:List Ï}{pos:Ĝ}{g:TG}{tt:TT}{te:TE}{J:It}{it:Ç}{tn:Nat->æ->Prop}{Q:VK}{E:Å->È->Prop}{RR:Å->Ç->Result->È->Prop}
  (hc:X.calm=Â) (T:j3 X N' scope) (hcl:∀p∈cl,X.env.cells.lookup p.1=À p.2) (hfr:∀x,(x,Ø)∈scope.names->∃c,(x,c)∈cl)
  (hg:∀cl s H fp Pw,PG (cE X N' scope cl s H fp Pw) S g) (ht:∀cl s H fp Pw,wJ (cE X N' scope cl s H fp Pw) B tt) (he:∀cl s H fp Pw,PE (cE X N' scope cl s H fp Pw) elt te)
  (I:Inv X Pw σ H s) (v:j2 X.prog X.w X.K S J fp it tn) (st0:tn 0 s.heap) (hf:∀b∈fp,d6 X Pw H b)
  (h:∀p,H p=Á->∃W:Nat->Nat->St->Hp->Prop,(∃m,W 0 m (σ++Æ (N'.length-X.N.length) Á) (ag H p (.lst [])))/\∀i m σ' H',W i m σ' H' ->
   (J.stop i H'/\Q (.ref p) H')\/(J.go i H'/\∀x H2,J.yld i H' x H2->g x σ' H2 fun σ2 H3=>tt σ2 H3 fun ok H4=>if ok=Â then
    te σ2 H4 fun y H5=>∃ys,H5 p=À (.lst ys)/\ys.length<Ë/\∃m',m'<m/\W (i+1) m' σ2 (ag H5 p (.lst (ys++[y])))
    else ∃m',m'<m/\W (i+1) m' σ2 H4))
  (hRR:∀p C s1 H1,Inv X Pw σ H1 s1->Q (.ref p) H1->(∃m,s1.heap.Ns C m)->H1 C=Á->s.heap.objs.size<=C->RR (.ref p) C (.ok .next) s1) :
  Î (model X.prog X.w) X.A (newList []) (fun acc s₃=>Î (model X.prog X.w) X.A (B! scope X.env.globals cl [] X.env.qual Á .none (À X.env)) (fun cenv s₄ =>
   ň (model X.prog X.w) X.A (.compStart (.ListComp elt [⟨S,z,B,0⟩] scope pos) 0 (.ref it) acc { cenv with scope:=relabel scope X.env }) (RR acc cenv.locals) s₄) E s₃) E s:=by
 refine Ň (B0 ?_);have Y:H s.heap.objs.size=Á:=I.fresh;obtain⟨W,⟨m0,w0⟩,turn⟩:=h _ Y;have I2:Inv X Pw σ (ag H s.heap.objs.size (.lst [])) { s with heap:=s.heap.push { cls:=.type "list",data:=.seq ([]:List Å).toArray } }:=Inv.lnew (t':=s.toks) (PB:=[]) (ys:=[]) I .nil (ł _);have D:∀b∈fp,d6 X Pw (ag H s.heap.objs.size (.lst [])) b:=fun b f=>by
  obtain⟨o,e,_⟩:=v.obj _ _ st0 b f;exact⟨by rw[ad (zU (yI e))];exact(hf b f).1,(hf b f).2⟩
 have ho2:∀b∈fp,∃o,(s.heap.push { cls:=.type "list",data:=.seq ([]:List Å).toArray }:æ).get? b=À o:=fun b f=>by
  obtain⟨o,e,_⟩:=v.obj _ _ st0 b f;exact⟨o,zG _ e⟩
 have R:=CA T I2 hcl hfr D ho2;have M:tn 0 (Ż ((s.heap.push { cls:=.type "list",data:=.seq ([]:List Å).toArray }).push { cls:=.type "dict",data:=.dict #[] }) scope.names) :=
  v.keep _ _ _ st0 fun b f o e=>s? _ _ b o (zG _ (zG _ e))
 generalize t:({ s with heap:=s.heap.push { cls:=.type "list",data:=.seq ([]:List Å).toArray } }:È)=s2 at I2 R;have hC:s.heap.objs.size<=s2.heap.objs.size:=by rw[<- t];exact yY (by show _<(s.heap.push _).objs.size;rw[Į];exact ĵ _)
 have k:∀{H':Hp},(∀b∈fp,H' b=Á)->∀b∈fp,d6 (cE X N' scope cl s2 (ag H s.heap.objs.size (.lst [])) fp Pw) [] H' b:=fun {H'} hn b f=>by
  refine⟨hn b f,(R.ok.exf b f).1,R.ok.exfs b f,.inl f,(R.ok.exf b f).2,fun p Y=>?_⟩;rw[ô]at Y;exact(hf b f).2.2.2.2.2 p Y
 have w:∀s4,s4=({ s2 with heap:=Ż (s2.heap.push { cls:=.type "dict",data:=.dict #[] }) scope.names }:È) ->
   ň (model X.prog X.w) X.A (.compLoop (.ListComp elt [⟨S,z,B,0⟩] scope pos) 0 (.ref it) (.ref s.heap.objs.size) (cE X N' scope cl s2 (ag H s.heap.objs.size (.lst [])) fp Pw).env) (RR (.ref s.heap.objs.size) s2.heap.objs.size) s4:=by
  rintro s4 rfl;refine uQ (fun n U=>∃i σ' H',Inv (cE X N' scope cl s2 (ag H s.heap.objs.size (.lst [])) fp Pw) [] σ' H' U/\tn i U.heap/\(∀b∈fp,H' b=Á)/\W i n σ' H') ?_ m0
   ⟨0,_,_,R,by subst t;exact M,fun b f=>(D b f).1,w0⟩
  rintro n s3 ⟨i,q,H3,I4,L,O,w4⟩;rcases turn i n q H3 w4 with⟨K,qn⟩|⟨go,step⟩
  ·refine aB (v.done (cE X N' scope cl s2 (ag H s.heap.objs.size (.lst [])) fp Pw) rfl rfl rfl hc i [] s3 q H3 (fun _ _=>False) I4 (k O) L K) fun r s5 a=>?_
   obtain⟨hr,I5⟩:=a;subst hr;obtain⟨m,hn,_⟩:=I5.loc;exact hRR _ _ s5 H3 (Jf I2 D I5 (l! _ _)) qn ⟨m,hn⟩ I5.free hC
  ·refine aB (v.item (cE X N' scope cl s2 (ag H s.heap.objs.size (.lst [])) fp Pw) rfl rfl rfl hc i [] s3 q H3 (fun _ _=>False) I4 (k O) L go) fun r s5 a=>?_
   obtain⟨u,hr,h5⟩:=a;subst hr;refine aB h5 fun _ s6 a=>?_
   obtain⟨x,H6,I6,r6,y6,A,fr6⟩:=a;have I6':=I6.pinned (k fr6) (v.obj _ _ A);have l:∀{j:St}{G:Hp}{F:È}{m':Nat},Inv (cE X N' scope cl s2 (ag H s.heap.objs.size (.lst [])) fp Pw) ([]++gB fp s6.heap) j G F->m'<n->W (i+1) m' j G ->
     ∃m,m<n/\∃i σ' H',Inv (cE X N' scope cl s2 (ag H s.heap.objs.size (.lst [])) fp Pw) [] σ' H' F/\tn i F.heap/\(∀b∈fp,H' b=Á)/\W i m σ' H':=fun {j G F m'} P N w7=>by
    refine⟨m',N,i+1,j,G,P.unpinned,v.keep _ _ _ A fun b f o e=>(P.pin (b,o) (zK _ (zK _ (dH f e)))).1,fun b f=>?_,w7⟩;obtain⟨o,e,d⟩:=v.obj _ _ A b f;exact(P.pin (b,o) (zK _ (zK _ (dH f e)))).2.1
   refine aB (hg _ _ _ _ _ _ s6 q H6 x u _ I6' r6 (step x H6 y6)) fun _ F a=>?_
   obtain⟨j,G,P,q7⟩:=a;refine aB (ht _ _ _ _ _ _ F j G _ P q7) fun ok s8 a=>?_
   obtain⟨H8,I8,V⟩:=a;cases ok with
   |false =>
    simp only[yA,if_false]at V ⊢;obtain⟨m',N,w8⟩:=V;exact l I8 N w8
   |true =>
    simp only[if_true]at V ⊢;refine aB (he _ _ _ _ _ _ s8 j H8 _ I8 V) fun y s9 a=>?_
    obtain⟨Z,H9,I9,r9,ys,e9,l9,m',N,w9⟩:=a;refine aB (rp _ s9 j H9 (.ref s.heap.objs.size) [Z] (.ref s.heap.objs.size) [y] (fun _ H'=>H'=ag H9 s.heap.objs.size (.lst (ys++[Z]))) I9 rfl (.cons r9 .nil) ⟨_,ys,Z,rfl,rfl,e9,l9,rfl⟩) fun _ s10 a=>?_
    obtain⟨_,H10,I10,_,e10⟩:=a;subst e10;exact l I10 N w9
 have st5:tn 0 (Ż (s2.heap.push { cls:=.type "dict",data:=.dict #[] }) scope.names):=by subst t;exact M
 have au:=codeAny_compStart_list (w _ rfl) (v.self X.A 0 _ _ (notedBy (model X.prog X.w) X.A (cE X N' scope cl s2 (ag H s.heap.objs.size (.lst [])) fp Pw).env fun x U=>RR (.ref s.heap.objs.size) s2.heap.objs.size (.error x) U) st5 (w _ rfl));subst t;exact au
end
section
variable{X:Cx}{N':List Í}{scope:Ġ}{Pw:List (Ç×Obj)}{σ:St}{elt iter tg:Ï}{ifs:List Ï}{pos:Ĝ}{wi:TI}{g:TG}{tt:TT}{te:TE}
theorem uc(T:j3 X N' scope):∀x∈scope.names,x.2=.local->scope.names.lookup x.1=À .local:=fun x a e=>by
 obtain⟨n,k⟩:=x;cases e;exact di T.nd a
theorem Ko(G:X.calm=Â)(T:j3 X N' scope)(E:PI X tg iter wi)(F:∀cl s H fp Pw,PG (cE X N' scope cl s H fp Pw) tg g)(y:∀cl s H fp Pw,wJ (cE X N' scope cl s H fp Pw) ifs tt)
  (he:∀cl s H fp Pw,PE (cE X N' scope cl s H fp Pw) elt te) (A:autoParam (∀x,õ iter X.env x=pure x) Ax3._auto_1) :
  PE X (.ListComp elt [⟨tg,iter,ifs,0⟩] scope pos) (Gh (N'.length-X.N.length) wi g tt te):=by
 intro Pw s r H Q I h;obtain⟨cl,d,l,k⟩:=k4 (scope:=scope) (env:=X.env) fun x w=>I.ok.has x (T.free x w)
 rw[eval_ListComp];refine L! (use:=Á) rfl A d T.kind (uc T) (yS (E Pw s r H _ I h) (fun V Z N=>yS N (fun u Y M=>?_) fun _ _ e=>e) fun _ _ e=>e);obtain⟨it,fp,W,J,H2,rfl,f,P,i,O,R⟩:=M;refine ud (Q:=Q) (RR:=fun n C=>compPost (model X.prog X.w) X.A X.xe Á (EP X Pw r Q) n C) G T l k F y he f P i O R ?_;rintro p C t U S q ⟨m,D⟩ L a;refine⟨m,D,fun h' j=>⟨.ref p,U,?_,rfl,q⟩⟩;refine S.turned (t':=t.toks) (it:=C) (fun b o K e=>(j.2 b K).trans e) L ?_ (.inr (z5 f.sz a)) (fun x c e=>?_) fun p B=>?_
 ·exact ä (zU (zJ f.lt a))
 ·obtain⟨v,z⟩:=f.cell x c e
  exact zU (zJ z.lt a)
 ·exact zU (zJ (yI (f.pin p B).1) a)
theorem zo{i:Nat}(hN:X.N.Nodup)(E:X.N[i]?=À y)(t:Loc X.env.scope y)(u:Ľ (.ListComp elt [⟨tg,iter,ifs,0⟩] scope pos) (À (.Name y py)) spos.line X.env=pure Â)
  (hc:X.calm=Â) (T:j3 X N' scope) (Y:PI X tg iter wi) (Z:∀cl s H fp Pw,PG (cE X N' scope cl s H fp Pw) tg g) (P:∀cl s H fp Pw,wJ (cE X N' scope cl s H fp Pw) ifs tt)
  (he:∀cl s H fp Pw,PE (cE X N' scope cl s H fp Pw) elt te) (S:autoParam (∀x,õ iter X.env x=pure x) Ax3._auto_1) (hf:autoParam (X.fn y=Â\/X.env.scope.names.lookup y=À .local) Ax1._auto_1) :
  PS X (.Assign [.Name y py] (.ListComp elt [⟨tg,iter,ifs,0⟩] scope pos) spos) (wY (Gh (N'.length-X.N.length) wi g tt te) (pR i)):=by
 intro Pw s L H D I h;obtain⟨cl,f,G,F⟩:=k4 (scope:=scope) (env:=X.env) fun x t=>I.ok.has x (T.free x t)
 rw[exec_Assign_Name_used _ _ _ _ u];refine yE (ų (yE ?_));show Î _ X.A (do let _ <- comprehension (.ListComp elt [⟨tg,iter,ifs,0⟩] scope pos) scope X.env _ (newList []) Ä (eval iter X.env) (À (assign (.Name y py) X.env))) _ _ s;refine yE (yS (L! (use:=À (assign (.Name y py) X.env)) (Q:=fun _ n=>SP X Pw D .next n) rfl S f T.kind (uc T)
  (yS (Y Pw s L H _ I h) (fun xv s1 h1=>yS h1 (fun O s2 h2=>?_) fun _ _ e=>e) fun _ _ e=>e)) (fun _ n U=>yF (yF U)) fun _ _ e=>e)
 obtain⟨it,fp,tn,J,H2,rfl,l,Tn,r,f2,R⟩:=h2;refine ud (Q:=fun x H1=>pR i x L H1 D.nx) (RR:=fun K C=>compPost (model X.prog X.w) X.A X.xe (À (assign (.Name y py) X.env)) (fun _ n=>SP X Pw D .next n) K C) hc T G F Z P he l Tn r f2 R ?_;rintro p C s3 H3 I3 q ⟨m,W⟩ hC d;have k:C≠X.env.locals:=ä (zU (zJ l.lt d));have j:∀x c,X.env.cells.lookup x=À c->c≠C:=fun x c e=>by
  obtain⟨v,z⟩:=l.cell x c e;exact zU (zJ z.lt d)
 show Î _ X.A (assign (.Name y py) X.env (.ref p)) _ _ _;refine X1 (re (v:=.ref p) I3 hN E t rfl (fun N I4 A=>?_) hf);obtain⟨a,M,ha⟩:=A;have B:C≠a:=by
  rcases ha with e|e
  ·rw[e];exact k
  ·exact(j _ _ e).symm
 refine⟨m,W.sameBut M B,fun h' w=>⟨_,H3,?_,q⟩⟩;refine I4.turned (t':=N.toks) (it:=C) (fun b o hb e=>(w.2 b hb).trans e) hC k (.inr (z5 l.sz d)) j fun p V=>?_
 exact zU (zJ (yI (l.pin p V).1) d)
end
end L2
namespace DD
open PySem PySem.Spec PyProof.Rows L2
section
variable{X:Cx}{Pw:List (Ç×Obj)}{σ:St}{H:Hp}{s:È}{F:Ç->Prop}
theorem obj_list(I:L2.Inv X Pw σ H s)(h:bJ X.K H a vs):∃PB o n,Vals vs PB/\s.heap.get? a=À o/\o.cls=.type "list"/\o.data=.seq PB.toArray n:=by
 obtain⟨PB,r,⟨o,n,e,c,_,d⟩,_⟩:=I.list h;exact⟨PB,o,n,r,e,c,d⟩
theorem obj_tup(I:L2.Inv X Pw σ H s)(h:gO X.K H a vs):∃PB o n,Vals vs PB/\s.heap.get? a=À o/\o.cls=.type "tuple"/\o.data=.seq PB.toArray n:=by
 obtain⟨PB,r,⟨o,e,c,n,d⟩,_⟩:=I.tuple h;exact⟨PB,o,n,r,e,c,d⟩
end
noncomputable def pyOk(p q:Ī):Bool:=p.canLay0&&q.canLay0&&decide (min p.depth q.depth<=50)
end DD
namespace L2
open PySem PySem.Spec PyProof.Rows
def Ms(K:Ü)(a b:Ç):It :=
 ⟨fun i H=>∃d c x y,bJ K H a d/\bJ K H b c/\d[i]?=À x/\c[i]?=À y,
  fun i H x e=>∃p u w,(∀d,bJ K H a d->d[i]?=À u)/\(∀c,bJ K H b c->c[i]?=À w)/\H p=Á/\e=ag H p (.tup [u,w])/\x=.ref p,
  fun i H=>∃d c,bJ K H a d/\bJ K H b c/\(d.length<=i\/c.length<=i)⟩
theorem Inv.turnT{X:Cx}{Pw:List (Ç×Obj)}{σ:St}{H:Hp}{s:È}{h':æ}{ch:List Ç}{u w:V}{x y:Å}(I:Inv X Pw σ H s)(g:∀b∈ch,d6 X Pw H b)(l:RelV u x)(j:RelV w y)
  (i:∀c o,c∉ch->s.heap.get? c=À o->h'.get? c=À o) (B:IsPair h' s.heap.objs.size x y) (p:∀b∈ch,∃o,h'.get? b=À o):Inv X Pw σ (ag H s.heap.objs.size (.tup [u,w])) { s with heap:=h' }:=by
 have a:H s.heap.objs.size=Á:=I.fresh;have h:∀b o,H b=À o->b∉ch:=fun b o e f=>by rw[(g b f).1]at e;cases e
 have ne:∀b o,s.heap.get? b=À o->b≠s.heap.objs.size:=fun b o e=>zU (yI e)
 refine I.step (g':=s.gens) (d':=s.drawn) (t':=s.toks) (ch:=ch) (fun b f=>⟨(g b f).2.2.2.1,(g b f).2.1,(g b f).2.2.2.2.1,(g b f).2.2.2.2.2⟩) (fun b o _ _ d e _=>i b o d e)
  (fun b o _ _ d e _=>⟨o.slots,i b o d e⟩) (fun b o _ e n=>by rw[ad (ne b o e)];exact n) (fun b o d e=>⟨o,i b o d e⟩) (fun b k e=>by rw[ad (aW e a)];exact e)
  (fun b o v e=>by rw[ad (aW e a)];exact e) (fun b E e=>⟨#[],by rw[ad (aW e a),e];simp⟩) (fun m A=>?_) (fun b o e=>?_) I.bare
 ·obtain⟨o,C,D,t,r⟩:=A
  exact⟨o,C,D,i _ o (fun z=>(g _ z).2.1 rfl) t,r⟩
 ·by_cases f:b=s.heap.objs.size
  ·subst f
   rw[ar]at e;cases e;refine⟨by show 2<=Ë;decide,[x,y],.cons l (.cons j .nil),⟨_,B,rfl,_,rfl⟩⟩
  ·rw[ad f]at e
   refine(I.PJ b o e).stay (fun c v d q=>i c v ?_ q) (fun c q=>by rw[ad (aW q a)];exact q) fun c k q=>by rw[ad (aW q a)];exact q
   rcases d with rfl|d
   ·exact h _ _ e
   ·exact h _ _ d
theorem Inv.turnN{X:Cx}{Pw:List (Ç×Obj)}{σ:St}{H:Hp}{s:È}{h':æ}{ch:List Ç}(I:Inv X Pw σ H s)(d:∀b∈ch,d6 X Pw H b)
  (h:∀c o,c∉ch->s.heap.get? c=À o->h'.get? c=À o):Inv X Pw σ H { s with heap:=h' }:=by
 have g:∀b o,H b=À o->b∉ch:=fun b o e f=>by rw[(d b f).1]at e;cases e
 refine I.step (g':=s.gens) (d':=s.drawn) (t':=s.toks) (ch:=ch) (fun b f=>⟨(d b f).2.2.2.1,(d b f).2.1,(d b f).2.2.2.2.1,(d b f).2.2.2.2.2⟩) (fun b o _ _ a e _=>h b o a e)
  (fun b o _ _ a e _=>⟨o.slots,h b o a e⟩) (fun b o _ e n=>n) (fun b o a e=>⟨o,h b o a e⟩) (fun b i e=>e)
  (fun b o v e=>e) (fun b t e=>⟨#[],by rw[e];simp⟩) (fun m k=>?_) (fun b o e=>?_) I.bare
 ·obtain⟨o,l,p,j,r⟩:=k
  exact⟨o,l,p,h _ o (fun z=>(d _ z).2.1 rfl) j,r⟩
 ·refine(I.PJ b o e).stay (fun c v a q=>h c v ?_ q) (fun c q=>q) fun c i q=>q
  rcases a with rfl|a
  ·exact g _ _ e
  ·exact g _ _ a
theorem dy(I:Inv X Pw σ H s)(h:bJ X.K H a xs)(j:d6 X Pw H b)(d:∃o,s.heap.get? b=À o/\o.cls≠.type "list"):a≠b:=by
 rintro rfl;obtain⟨k,r,⟨o,n,e,c,_⟩,_⟩:=I.list h;obtain⟨i,f,g⟩:=d;rw[e]at f;cases f;exact g c
theorem Bh{P:Ò}{w:Ù}{K:Ü}{Y:List Ï}{x1:Nat}{O:Ĝ}(a b z TI TO g f:Ç)(D1:TI≠z)(D2:TO≠z)(D3:g≠z)(D4:f≠z)(D5:TI≠TO)(D6:TI≠g)(D7:TI≠f)(D8:TO≠g)(D9:TO≠f)(D10:g≠f) :
  j2 P w K (.Tuple Y x1 O) (Ms K a b) [z,TI,TO,g,f] z (fun i h=>IsZip h z TI TO .none/\IsPair h TI (.ref g) (.ref f)/\(∃u v,IsPair h TO u v)/\h.IsListIter g a i/\h.IsListIter f b i) where
 mem:=by simp
 obj:=fun i h hq0 c d=>by
  obtain⟨hz,l,⟨u,v,j⟩,⟨o1,B,c1,d1⟩,⟨o2,A,c2,d2⟩⟩:=hq0;simp only[zT,zX,or_false]at d;rcases d with rfl|rfl|rfl|rfl|rfl
  ·exact⟨_,hz,fun v z=>nomatch z⟩
  ·exact⟨_,l,fun v z=>nomatch z⟩
  ·exact⟨_,j,fun v z=>nomatch z⟩
  ·exact⟨_,B,fun v z=>by rw[d1]at z;cases z⟩
  ·exact⟨_,A,fun v z=>by rw[d2]at z;cases z⟩
 keep:=fun i h N ⟨hz,l,⟨u,v,j⟩,F,C⟩ k=>⟨k z (by simp) _ hz,k TI (by simp) _ l,⟨u,v,k TO (by simp) _ j⟩,F.at fun o e=>k g (by simp) o e,C.at fun o e=>k f (by simp) o e⟩
 item:=by
  rintro X hP hw hK d i Z s σ H E I M ⟨hz,l,⟨ua,ub,j⟩,F,C⟩ ⟨xs,ys,x,y,n,m,hx,hy⟩;subst hP hw hK;obtain⟨T,J,p1,_⟩:=I.list n;obtain⟨S,G,p2,_⟩:=I.list m;obtain⟨u1,hu1,ru1⟩:=J.get hx;obtain⟨u2,hu2,ru2⟩:=G.get hy;have R:∀c∈[z,TO,g,f],∃o,s.heap.get? c=À o/\o.cls≠.type "list":=fun c d=>by
   obtain⟨o1,B,c1,d1⟩:=id F;obtain⟨o2,A,c2,d2⟩:=id C;simp only[zT,zX,or_false]at d;rcases d with rfl|rfl|rfl|rfl
   ·exact⟨_,hz,by simp⟩
   ·exact⟨_,j,by simp⟩
   ·exact⟨_,B,by rw[c1];simp⟩
   ·exact⟨_,A,by rw[c2];simp⟩
  have t:∀c∈[z,TO,g,f],a≠c:=fun c d=>dy I n (M c (by simp at d ⊢;rcases d with h|h|h|h<;>simp[h])) (R c d)
  have r:∀c∈[z,TO,g,f],b≠c:=fun c d=>dy I m (M c (by simp at d ⊢;rcases d with h|h|h|h<;>simp[h])) (R c d)
  have D:ZipApart z TI TO g f a b:=⟨D1,D2,D3,D4,D5,D6,D7,D8,D9,D10,t z (by simp),t TO (by simp),t g (by simp),t f (by simp),r z (by simp),r TO (by simp),r g (by simp),r f (by simp)⟩;refine wpAny_pyNext_zip_item D hz l j F C p1.isList p2.isList (x:=u1) (y:=u2) (by simpa using hu1) (by simpa using hu2) fun N a1 a2 a3 a4 a5 a6 hk=>?_
  have p:∀c∈[z,TO,g,f],d6 X Z H c:=fun c d=>M c (by simp at d ⊢;rcases d with h|h|h|h<;>simp[h])
  have U:∀c o,c∉[z,TO,g,f]->s.heap.get? c=À o->N.get? c=À o:=fun c o d e=>hk c o (fun q=>d (by simp[q])) (fun q=>d (by simp[q])) (fun q=>d (by simp[q])) (fun q=>d (by simp[q])) e
  have I1:Inv X Z σ (ag H s.heap.objs.size (.tup [x,y])) { s with heap:=N }:=I.turnT p ru1 ru2 U a5 (fun c d=>by
   obtain⟨o1,B,_⟩:=id a3;obtain⟨o2,A,_⟩:=id a4;simp only[zT,zX,or_false]at d;rcases d with rfl|rfl|rfl|rfl
   ·exact⟨_,a1⟩
   ·exact⟨_,a2⟩
   ·exact⟨_,B⟩
   ·exact⟨_,A⟩)
  have hfr:H s.heap.objs.size=Á:=I.fresh;refine⟨_,rfl,wpAny_letOwnedTupleGo_zip (s:={ s with heap:=N }) a1 fun h'' z1 Q=>?_⟩;have V:∀c∈[z,TI,TO,g,f],(ag H s.heap.objs.size (.tup [x,y])) c=Á:=fun c d=>by
   have lt:c<s.heap.objs.size:=by
    obtain⟨o1,B,_⟩:=id F;obtain⟨o2,A,_⟩:=id C;simp only[zT,zX,or_false]at d;rcases d with rfl|rfl|rfl|rfl|rfl
    ·exact yI hz
    ·exact yI l
    ·exact yI j
    ·exact yI B
    ·exact yI A
   rw[ad (zU lt)];exact(M c d).1
  have I2:Inv X Z σ (ag H s.heap.objs.size (.tup [x,y])) { s with heap:=h'' }:=Inv.turnN (s:={ s with heap:=N }) (ch:=[z]) I1 (fun c d=>by
   have:c=z:=by simpa using d
   subst this;exact⟨V c (by simp),(M c (by simp)).2⟩) (fun c o d e=>(Q.2 c (fun q=>d (by simp[q]))).trans e)
  refine⟨.ref s.heap.objs.size,_,I2,rfl,⟨_,x,y,fun zs L=>by rw[I.list_inj L n];exact hx,fun zs L=>by rw[I.list_inj L m];exact hy,hfr,rfl,rfl⟩,⟨z1,?_,⟨u1,u2,?_⟩,?_,?_⟩,V⟩
  ·exact(Q.2 TI D1).trans (U TI _ (by simp[D1,D5,D6,D7]) l)
  ·exact(Q.2 TO D2).trans a2
  ·exact a3.at fun o e=>(Q.2 g D3).trans e
  ·exact a4.at fun o e=>(Q.2 f D4).trans e
 done:=by
  rintro X hP hw hK d i Z s σ H E I M ⟨hz,l,⟨ua,ub,j⟩,F,C⟩ ⟨xs,ys,n,m,W⟩;subst hP hw hK;obtain⟨T,J,p1,_⟩:=I.list n;obtain⟨S,G,p2,_⟩:=I.list m;have R:∀c∈[z,TO,g,f],∃o,s.heap.get? c=À o/\o.cls≠.type "list":=fun c d=>by
   obtain⟨o1,B,c1,d1⟩:=id F;obtain⟨o2,A,c2,d2⟩:=id C;simp only[zT,zX,or_false]at d;rcases d with rfl|rfl|rfl|rfl
   ·exact⟨_,hz,by simp⟩
   ·exact⟨_,j,by simp⟩
   ·exact⟨_,B,by rw[c1];simp⟩
   ·exact⟨_,A,by rw[c2];simp⟩
  have p:∀c∈[z,TO,g,f],d6 X Z H c:=fun c d=>M c (by simp at d ⊢;rcases d with h|h|h|h<;>simp[h])
  have t:∀c∈[z,TO,g,f],a≠c:=fun c d=>dy I n (p c d) (R c d)
  have r:∀c∈[z,TO,g,f],b≠c:=fun c d=>dy I m (p c d) (R c d)
  have D:ZipApart z TI TO g f a b:=⟨D1,D2,D3,D4,D5,D6,D7,D8,D9,D10,t z (by simp),t TO (by simp),t g (by simp),t f (by simp),r z (by simp),r TO (by simp),r g (by simp),r f (by simp)⟩;have hl1:=J.length;have hl2:=G.length;refine wpAny_pyNext_zip_end (I.ok.hd d) D hz l j F C p1.isList p2.isList (by rcases W with h|h;(left;simp;lia);(right;simp;lia)) fun N hk=>⟨rfl,?_⟩
  exact I.turnN p fun c o d e=>hk c o (fun q=>d (by simp[q])) (fun q=>d (by simp[q])) (fun q=>d (by simp[q])) (fun q=>d (by simp[q])) e
 self:=fun _ _ _ _ _ ⟨hz,_⟩ h=>Y! hz h
def Nn(K:Ü)(h:TA):TI:=fun d H R=>h d H fun g c=>∃a b,g=[.ref a,.ref b]/\(∃f,bJ K c a f)/\(∃e,bJ K c b e)/\R (Ms K a b) c
theorem Hm{C:Nat}(S:Gl X "zip")(P:X.mg "zip"=Á)(T:PA X [a,b] ta)(O:autoParam (Ê [a,b] X.env=[(Ä,eval a X.env),(Ä,eval b X.env)]) Ax2._auto_1)(f:autoParam (Ê [b] X.env=[(Ä,eval b X.env)]) Ax2._auto_1) :
  PI X (.Tuple elts C tpos) (.Call (.Name "zip" p) [a,b] [] pos) (Nn X.K ta):=by
 intro A s u H R I h;refine I! (dJ I S P boot_zip (Ó (aB (T pos A s u H _ I h) fun us d ⟨vs,B,i,r1,G⟩=>?_) (by rw[O,f]) (by rw[f];rfl)));obtain⟨M,L,e,⟨xs,m⟩,⟨ys,l⟩,q⟩:=G;subst e;cases r1 with
 |cons r j =>
  cases j with
  |cons F j =>
   cases j;cases r;cases F;obtain⟨w,E,K,_⟩:=i.list m;obtain⟨v,D,J,_⟩:=i.list l;refine call_zip_2 K.isList J.isList fun y hz t o V U N Q=>?_
   have I2:Inv X A u B { d with heap:=y }:=i.kept (t':=d.toks) Q;refine Y! (s:={ d with heap:=y }) hz ?_;have lt:∀k:Nat,d.heap.objs.size<=d.heap.objs.size+k:=fun k=>ϸ _ _
   refine⟨_,[d.heap.objs.size+4,d.heap.objs.size+2,d.heap.objs.size+3,d.heap.objs.size,d.heap.objs.size+1],_,_,B,rfl,I2,
    Bh M L (d.heap.objs.size+4) (d.heap.objs.size+2) (d.heap.objs.size+3) d.heap.objs.size (d.heap.objs.size+1) ?_ ?_ ?_ ?_ ?_ ?_ ?_ ?_ ?_ ?_,⟨hz,t,⟨_,_,o⟩,V,U⟩,fun c x=>?_,q⟩
   all_goals first
    | (show _ + _ ≠ _ + _;intro z;exact absurd (Nat.add_left_cancel z) dC)
    | (show _ ≠ _ + _;intro z;exact absurd z (by have:=Ů (n:=d.heap.objs.size) (k:=4) dC;have:=Ů (n:=d.heap.objs.size) (k:=1) dC;exact zU (by assumption)))
    | (show _ + _ ≠ _;exact Ĵ (Ů dC))
    |skip
   have g:d.heap.objs.size<=c:=by
    simp only[zT,zX,or_false]at x;rcases x with rfl|rfl|rfl|rfl|rfl
    ·exact lt 4
    ·exact lt 2
    ·exact lt 3
    ·exact zP _
    ·exact lt 1
   obtain⟨f0,f1,f2,Z,Y,W⟩:=i.fpOk g (i.PJ.fresh g);exact⟨f0,f1,f2,Z,Y,W⟩
theorem Co:CN X (fun o i H Q=>∃p xs k v,o=.ref p/\i=.int k/\bJ X.K H p xs/\gy xs k=À v/\Q v H):=by
 rintro C s g H o i E F Q I h l ⟨p,xs,k,v,B,A,m,u,q⟩;subst B A;cases h;obtain⟨t,rfl⟩:=l;obtain⟨D,r,d,hz⟩:=I.list m;obtain⟨j,a,z,J,y,x⟩:=ny u;obtain⟨w,f,b⟩:=r.get z;have n:=r.length;have G:=il;have au:EP X C g Q w s:=⟨v,H,I,b,q⟩;by_cases e:0<=k
 ·have c:k.toNat=j:=by
   rw[l? e x]at a;exact yD a
  exact wpAny_getItem_list d.isList e oM (by rw[c];simpa using f) au
 ·have c:(k+(D.toArray.size:Int)).toNat=j:=by
   rw[c? oM y]at a;rw[zI,<- n];exact yD a
  exact S7 d.isList oM (by rw[zI]<;>lia) oM (by rw[c];simpa using f) au
end L2
namespace DD
open PySem PySem.Spec PyProof.Rows L2
section
variable{X:Cx}{e o a b:Ï}{es:List Ï}{p q:DP}{c c':DE}{pos apos cpos:Ĝ}{i:Nat}{js:List DP}
theorem cnt_vals{h:æ}{q:Ī}{e:Å->Bool}(he:∀v p as,ű h v p as->e v=ã p q):∀{vs:List Å}{ps:List Ī}{as:List Ç},d? h vs ps as->vs.countP e=ps.countP fun r=>ã r q:=by
 intro vs
 induction vs with
 |nil=>intro ps as h;cases h;rfl
 |cons v vs b =>
  intro ps as h;cases h with
  |cons r a=>rw[U0,U0,b a,he _ _ _ r]
theorem reads_each{h:æ}:∀{vs:List Å}{ps:List Ī}{as:List Ç},d? h vs ps as->∀v∈vs,∃p as',p∈ps/\ű h v p as':=by
 intro vs
 induction vs with
 |nil=>intro ps as h v a;cases a
 |cons v vs c =>
  intro ps as h v a;cases h with
  |cons r b =>
   rcases zT.mp a with rfl|a
   ·exact⟨_,_,z7,r⟩
   ·obtain⟨p,as',d,h⟩:=c b v a
    exact⟨p,as',zQ _ d,h⟩
noncomputable def minL:List Int->Option Int
 |[]=>Á
 |x::xs=>À (xs.foldl (fun a b=>if b<a then b else a) x)
theorem minF:∀(xs:List Int)(x:Int),(xs.foldl (fun a b=>if b<a then b else a) x∈x::xs)/\∀a∈x::xs,xs.foldl (fun a b=>if b<a then b else a) x<=a
 |[],x=>⟨by simp,by simp⟩
 |y::xs,x=>by
  obtain⟨h1,h2⟩:=minF xs (if y<x then y else x);rw[ħ];constructor
  ·rcases zT.mp h1 with h|h
   ·rw[h];split<;>simp
   ·simp[h]
  ·intro a c
   have d:=h2 (if y<x then y else x) (by simp);have f:(if y<x then y else x)<=x:=by split<;>lia
   have e:(if y<x then y else x)<=y:=by split<;>lia
   rcases zT.mp c with rfl|c
   ·exact Ķ d f
   ·rcases zT.mp c with rfl|c
    ·exact Ķ d e
    ·exact h2 a (by simp[c])
theorem minL_eq{m M:Int}(h:minL ns=À m)(b:M∈ns)(d:∀a∈ns,M<=a):M=m:=by
 cases ns with
 |nil=>cases b
 |cons x c =>
  cases h;obtain⟨g1,e⟩:=minF c x;have a1:=e M b;have a2:=d _ g1;lia
end
section
variable{X:Cx}{e o a b:Ï}{es:List Ï}{p q:DP}{c c':DE}{pos apos cpos:Ĝ}{i:Nat}{js:List DP}
theorem any_vals{h:æ}{q:Ī}{e:Å->Bool}(he:∀v p as,ű h v p as->e v=ã p q):∀{vs:List Å}{ps:List Ī}{as:List Ç},d? h vs ps as->vs.any e=ps.any fun r=>ã r q
 |_,_,_,.nil=>rfl
 |_,_,_,.cons r rs=>by rw[Ŋ,Ŋ,any_vals he rs,he _ _ _ r]
end
end DD
namespace L2
open PySem PySem.Spec PyProof.Rows
def Ba(K:Ü)(a:Ç)(n0:Nat):It :=
 ⟨fun i H=>∃b x,bJ K H a b/\b[i]?=À x,
  fun i H x c=>∃p u,(∀b,bJ K H a b->b[i]?=À u)/\H p=Á/\c=ag H p (.tup [.int ((n0+i:Nat):Int),u])/\x=.ref p,
  fun i H=>∃b,bJ K H a b/\b.length=i⟩
theorem rQ(k:A.handled=Á)(it l:Ç)(d:l≠it)(a:Array Å)(n0:Nat) :
  Draws prog w A it [it,l] (n0+a.size) (fun i v=>n0<=i/\a[i-n0]?=À v) (fun i h=>n0<=i/\h.IsListIter it l (i-n0)/\h.IsList l a) where
 live:=fun _ _ q=>by obtain⟨o,j,_⟩:=q.2.1;exact⟨o,j⟩
 frame:=fun _ _ _ q g=>⟨q.1,q.2.1.at fun o e=>g it (by simp) o e,q.2.2.at fun o e=>g l (by simp) o e⟩
 item:=fun i s Q E r q m=>by
  have f:i-n0<a.size:=by have:=q.1;lia
  refine wpAny_nextOf_list_item q.2.1 q.2.2 (x:=a[i-n0]) (by simp[f]) fun p c b=>?_
  refine m _ p s.toks ⟨q.1,by simp[f]⟩ ⟨Nat.le_succ_of_le q.1,?_,q.2.2.extBut b.extBut d⟩ b;rw[show i+1-n0=i-n0+1 by have:=q.1;lia];exact c
 done:=fun s Q E q n=>wpAny_nextOf_list_end k q.2.1 q.2.2 (by simp) n
theorem ym{P:Ò}{w:Ù}{K:Ü}{y:List Ï}{x1:Nat}{n:Ĝ}(a z it:Ç)(n0:Nat)(D:z≠it) :
  j2 P w K (.Tuple y x1 n) (Ba K a n0) [z,it] z (fun i h=>(∃old,IsEnum h z it ((n0+i:Nat):Int) old)/\h.IsListIter it a i) where
 mem:=by simp
 obj:=fun i h S c b=>by
  obtain⟨⟨old,hz⟩,⟨F,d,J,d1⟩⟩:=S;simp only[zT,zX,or_false]at b;rcases b with rfl|rfl
  ·exact⟨_,hz,fun v z=>nomatch z⟩
  ·exact⟨_,d,fun v z=>by rw[d1]at z;cases z⟩
 keep:=fun i h l ⟨⟨old,hz⟩,g⟩ k=>⟨⟨old,k z (by simp) _ hz⟩,g.at fun o e=>k it (by simp) o e⟩
 item:=by
  rintro X Z R hK b i B s C H E I f ⟨⟨old,hz⟩,g⟩ ⟨xs,x,j,hx⟩;subst Z R hK;obtain⟨L,M,N,_⟩:=I.list j;obtain⟨u,hu,ru⟩:=M.get hx;have na:a≠z:=dy I j (f z (by simp)) ⟨_,hz,by simp⟩;have O:a≠it:=dy I j (f it (by simp)) (by obtain⟨F,d,J,d1⟩:=id g;exact⟨_,d,by rw[J];simp⟩);have V:i<L.length:=(zB.mp hu).1;refine wpAny_pyNext_enum_itemD (rQ (A:=X.A.in1) (I.ok.hd b) it a O L.toArray n0) hz ⟨ϸ _ _,by rw[ů];exact g,N.isList⟩ (by simp[V]) D (by simp[D,na.symm]) fun v l m hv ho p hT hsz U=>?_
  have ev:v=u:=by
   have G:=hv.2;rw[ů]at G;simp only[H!]at G;rw[hu]at G;exact(yD G).symm
  subst ev;have Y:∀c∈[z,it],d6 X B H c:=fun c b=>f c b
  have T:∀c o,c∉[z,it]->s.heap.get? c=À o->l.get? c=À o:=fun c o b e=>U c o (fun q=>b (by simp[q])) (fun q=>b (by simp[q])) e
  have I0:Inv X B C (ag H s.heap.objs.size (.tup [.int ((n0+i:Nat):Int),x])) { s with heap:=l }:=I.turnT Y (u:=.int ((n0+i:Nat):Int)) ⟨m,rfl⟩ ru T hT (fun c b=>by
   obtain⟨F,d,_⟩:=id p.2.1;simp only[zT,zX,or_false]at b;rcases b with rfl|rfl
   ·exact⟨_,ho⟩
   ·exact⟨_,d⟩)
  have I1:Inv X B C (ag H s.heap.objs.size (.tup [.int ((n0+i:Nat):Int),x])) { s with heap:=l,toks:=m+1 }:=I0.kept (t':=m+1) (fun _ _ e=>e);have W:H s.heap.objs.size=Á:=I.fresh;refine⟨_,rfl,wpAny_letOwnedTupleGo_enum (s:={ s with heap:=l,toks:=m+1 }) ho fun h'' z1 sb=>?_⟩;have r:∀c∈[z,it],(ag H s.heap.objs.size (.tup [.int ((n0+i:Nat):Int),x])) c=Á:=fun c b=>by
   have lt:c<s.heap.objs.size:=by
    obtain⟨F,d,_⟩:=id g;simp only[zT,zX,or_false]at b;rcases b with rfl|rfl
    ·exact yI hz
    ·exact yI d
   rw[ad (zU lt)];exact(f c b).1
  have I2:Inv X B C (ag H s.heap.objs.size (.tup [.int ((n0+i:Nat):Int),x])) { s with heap:=h'',toks:=m+1 }:=Inv.turnN (s:={ s with heap:=l,toks:=m+1 }) (ch:=[z]) I1 (fun c b=>by
   have:c=z:=by simpa using b
   subst this;exact⟨r c (by simp),(f c (by simp)).2⟩) (fun c o b e=>(sb.2 c (fun q=>b (by simp[q]))).trans e)
  refine⟨.ref s.heap.objs.size,_,I2,rfl,⟨_,x,fun zs Q=>by rw[I.list_inj Q j];exact hx,W,rfl,rfl⟩,⟨⟨_,by rw[show((n0+(i+1):Nat):Int)=((n0+i:Nat):Int)+1 by lia];exact z1⟩,?_⟩,r⟩;have h3:=p.2.1;rw[show n0+i+1-n0=i+1 by lia]at h3;exact h3.at fun o e=>(sb.2 it D.symm).trans e
 done:=by
  rintro X Z R hK b i B s C H E I f ⟨⟨old,hz⟩,g⟩ ⟨xs,j,t⟩;subst Z R hK;obtain⟨L,M,N,_⟩:=I.list j;have O:a≠it:=dy I j (f it (by simp)) (by obtain⟨F,d,J,d1⟩:=id g;exact⟨_,d,by rw[J];simp⟩);have hl:=M.length;refine wpAny_pyNext_enum_endD (rQ (A:=X.A.in1) (I.ok.hd b) it a O L.toArray n0) hz ⟨ϸ _ _,?_,N.isList⟩ fun l U=>⟨rfl,?_⟩
  ·rw[ů,zI,<- hl,t];exact g
  ·exact I.turnN (ch:=[z,it]) (fun c b=>f c b) fun c o b e=>U c o (fun q=>b (by simp[q])) e
 self:=fun _ _ _ _ _ ⟨⟨_,hz⟩,_⟩ h=>b? hz h
theorem rW:á "enumerate"=À (.type "enumerate"):=by decide +kernel
def KN(K:Ü)(n0:Nat)(f:TA):TI:=fun c H R=>f c H fun e b=>∃a,e=[.ref a]/\(∃d,bJ K b a d)/\R (Ba K a n0) b
theorem uA{X:Cx}{Pw:List (Ç×Obj)}{σ:St}{f:Hp}{s1:È}{h':æ}{t':Nat}{l:Ç}{n0:Nat}{e:List Ï}{i:Nat}{a:Ĝ}{R:It->Hp->Prop}(g:Inv X Pw σ f s1)(he:IsEnum h' (s1.heap.objs.size+1) s1.heap.objs.size (n0:Int) .none)(k:h'.IsListIter s1.heap.objs.size l 0)
  (j:∀b o,s1.heap.get? b=À o->h'.get? b=À o) (q:R (Ba X.K l n0) f):Jx X Pw σ (.Tuple e i a) R (.ref (s1.heap.objs.size+1)) { s1 with heap:=h',toks:=t' }:=by
 have u:Inv X Pw σ f { s1 with heap:=h',toks:=t' }:=g.kept (t':=t') j;refine⟨_,[s1.heap.objs.size+1,s1.heap.objs.size],_,_,f,rfl,u,ym l (s1.heap.objs.size+1) s1.heap.objs.size n0 (Ĵ (ĵ _)),⟨⟨_,by simpa using he⟩,k⟩,fun c h=>?_,q⟩;have d:s1.heap.objs.size<=c:=by
  simp only[zT,zX,or_false]at h;rcases h with rfl|rfl
  ·exact a! _
  ·exact zP _
 obtain⟨t,s,r,p,n,m⟩:=g.fpOk d (g.PJ.fresh d);exact⟨t,s,r,p,n,m⟩
theorem EV{g:Nat}(w:Gl X "enumerate")(t:X.mg "enumerate"=Á)(x:PA X [a] ta)(n:autoParam (Ê [a] X.env=[(Ä,eval a X.env)]) Ax2._auto_1) :
  PI X (.Tuple elts g tpos) (.Call (.Name "enumerate" p) [a] [] pos) (KN X.K 0 ta):=by
 intro z s f H R I h;refine I! (dJ I w t rW (Ó (aB (x pos z s f H _ I h) fun C b ⟨B,F,d,r1,j⟩=>?_) (by rw[n];rfl) (by rfl)));obtain⟨l,e,⟨A,o⟩,q⟩:=j;subst e;cases r1 with
 |cons r i =>
  cases i;cases r;obtain⟨E,D,k,_⟩:=d.list o;refine call_enumerate_list k.isList fun y c v m u=>?_
  refine b? (s:={ b with heap:=y }) c ?_;exact uA (t':=b.toks) (n0:=0) d c v u q
section
variable{prog:Ò}{w:Ù}{A:Ć}{E:Å->È->Prop}{s:È}
theorem Bo{α:Type}{x:Y3 α}{Q b:α->È->Prop}(h:Î M A x Q E s)(c:∀a s,Q a s->b a s):Î M A x b E s:=yS h c fun _ _ x=>x
theorem tf(a v:Å):checkTypeCall "enumerate" ⟨[a],[("start",v)]⟩=pure ():=by kernel_rfl
theorem sE(a v:Å):checkBuiltinCall "enumerate.__new__" ⟨[.type "enumerate",a],[("start",v)]⟩=pure ():=by kernel_rfl
theorem qM(o a v:Å):D! "object.__init__" ⟨[o,a],[("start",v)]⟩:=by
 unfold D!;rw[signature?_of (id:="object.__init__") (n:=['_','_','t','i','n','i','_','_']) (o:=['t','c','e','j','b','o']) (by kernel_rfl) F.owner_object]
 kernel_rfl
theorem xJ(hl:typeLookup (.type T) "__init__"=pure (À (.builtin "object.__init__")))(hm:Bind.madeBy (.type T)=pure (À newId))(hne:(À newId !=À "object.__new__")=Â) :
  Meets (x?.«object.__init__» ⟨[self,a],[("start",v)]⟩) (fun _ R s=>s.TypeIs self T/\R (.ok (.ret .none)) s):=Meets.of_wp fun b w A R s c=>by
 obtain⟨e,d⟩:=c
 repeat (any_goals (first | assumption | wp_step))
 exact⟨_,rfl,d⟩
theorem u5(e:args.any (·.1)=Ä)(f:kws.any (·.1.isNone)=Ä)
  (h:Î M A (evalArgs (.type T) Â args kws) (fun a s₁=>Î M A (call (.type T) a.pos a.kw) Q E s₁) E s):Î M A (ŧ pos (.type T) [] args kws) Q E s:=by
 unfold ŧ;refine yE (yR (Bo h fun a s₁ b=>yE (ų ?_)));simp only[e,f,X'];refine yE (yF (yE (Bo b fun r c d=>yE (yR (wpAny_point (yF d))))))
end
section
variable{prog:Ò}{w:Ù}{A:Ć}{E:Å->È->Prop}{s:È}
theorem Dt(f:t≠it):∀(n i:Nat)(s:È)(Q:List Å->È->Prop),s.heap.IsListIter it t i->s.heap.IsList t items->i+n<=items.size ->
  (∀h',h'.IsListIter it t (i+n)->İ it s.heap h'->Q ((items.toList.drop i).take n) { s with heap:=h' })->Î (model prog w) A (draw (.ref it) n) Q E s
 |0,i,s,Q,hit,_,_,hQ=>yF (by simpa using hQ s.heap hit (l! ..))
 |n+1,i,s,Q,hit,ht,hle,hQ=>by
  have hlt:i<items.size:=by lia
  refine yE (m:=A! (.ref it)) (S5 hit ht (x:=items[i]) (by simp[hlt]) fun g c a=>?_);refine yE (yR (Dt f n (i+1) _ _ c (ht.extBut a.extBut f) oM fun e b d=>yF ?_));have q:=hQ e (by rw[show i+(n+1)=i+1+n by lia];exact b) (a.trans d);rw[show items.toList.drop i=items[i]::items.toList.drop (i+1) by simp[è,hlt],List.take_succ_cons]at q;exact q
theorem DX(p:A.handled=Á)(i:s.heap.IsList t items)(n:targets.length=items.size)(d:targets.findIdx? (·.1)=Á)
  (h:∀h',Z? s.heap.objs.size s.heap h'->Î (model prog w) A (assignInOrder (targets.map (·.2)) items.toList) Q E { s with heap:=h' }):Î (model prog w) A (unpack (.ref t) targets) Q E s:=by
 have j:t≠s.heap.objs.size:=by obtain⟨o,m,_⟩:=i;exact zU (yI m)
 unfold unpack;rw[n,d];refine yE (yR ?_);unfold unpackItems;refine yE ?_;unfold notIterableAtAll;refine yE (Z3 i.typeIs slot_list_iter.lookup (yF ?_));simp only[yA,if_false];refine yE (yR (Đ i (yE (yR (Dt j items.size 0 _ _ ⟨_,zY _ rfl,rfl,rfl⟩ (i.push _) oM fun k c a=>?_)))));rw[show List.take items.size (List.drop 0 items.toList)=items.toList by rw[ſ];exact Ų (by simp),yG (by simp)];refine yE (yR (T8 p c ((i.push _).extBut a.extBut j) (by simp) fun g f=>?_));simp only[Option.isSome_none,yA,if_false];exact yF (h g fun b o l e=>f b o l (a.extBut b o l (zG _ e)))
end
section
variable{X:Cx}{pos:Ĝ}
noncomputable def KU(K:Ü)(n:Nat)(t:vf):TG:=fun v c H Q=>∃a b,v=.ref a/\bJ K H a b/\b.length=n/\t b c H Q
theorem EY{k:Nat}{n:Nat}(x:X.calm=Â)(h:sy X es t)(q:autoParam ((Þ es X.env).length=n) Ax2._auto_1)(d:autoParam ((Þ es X.env).findIdx? (·.1)=Á) Ax2._auto_1):PG X (.Tuple es k pos) (KU X.K n t):=by
 intro i s f H v u Q I r c;obtain⟨a,j,z,p,w,c⟩:=c;subst z;cases r;obtain⟨B,g,l,hz⟩:=I.list p;rw[arm_assign_Tuple];refine yE (ų (DX (I.ok.hd x) l.isList (by simp[q,<- w,g.length]) d fun y m=>?_));have A:Inv X i f H { s with heap:=y }:=I.kept (t':=s.toks) fun b o e=>m b o (zU (yI e)) e
 exact h i _ f H j _ Q A (by simpa using g) c
theorem kJ:∀(l:List Å)(k:Nat),(∀(j:Nat)(v:Å),l[j]?=À v->∃t,v=.int ((k+j:Nat):Int) t)->Vals ((ĭ k l.length).map fun(q:Nat)=>V.int (q:Int)) l
 |[],_,_=>.nil
 |u::l,k,h=>by
  rw[yX,List.range'_succ,zO];refine .cons ?_ (kJ l (k+1) fun j v e=>?_)
  ·obtain⟨t,e⟩:=h 0 u rfl
   exact⟨t,e⟩
  ·obtain⟨t,a⟩:=h (j+1) v (by simpa using e)
   exact⟨t,by rw[a,show k+(j+1)=k+1+j by lia]⟩
theorem k6:á "list"=À (.type "list"):=by decide +kernel
def Gg(d:TE):TE:=fun b H Q=>C4 d wV b H fun c a=>∃j:Nat,c=[.int (j:Int)]/\j<=1000/\∀p,a p=Á->Q (.ref p) (ag a p (.lst ((ĭ 0 j).map fun(q:Nat)=>V.int (q:Int))))
theorem BT(D:X.calm=Â)(p:Gl X "list")(l:X.mg "list"=Á)(m:Gl X "range")(k:X.mg "range"=Á)(E:PE X a ta)
  (y:autoParam (Ê [a] X.env=[(Ä,eval a X.env)]) Ax2._auto_1) (g:autoParam (Ê [.Call (.Name "range" p2) [a] [] pos2] X.env=[(Ä,eval (.Call (.Name "range" p2) [a] [] pos2) X.env)]) Ax2._auto_1) :
  PE X (.Call (.Name "list" p1) [.Call (.Name "range" p2) [a] [] pos2] [] pos) (Gg ta):=by
 intro z s u H Q I h;refine I! (dJ I p l k6 (Ó ?_ (by rw[g];rfl) (by rfl)));rw[g];refine Calls.spliced_cons (I! (dJ I m k ϵ (Ó (aB ((vP E Aa y) pos2 z s u H _ I h) fun N f ⟨M,L,K,r1,w⟩=>?_) (by rw[y];rfl) (by rfl))));cases r1 with
 |nil=>obtain⟨j,e,_⟩:=w;cases e
 |cons r B =>
  obtain⟨j,e,P,q⟩:=w;cases e;cases B;obtain⟨t,rfl⟩:=r;refine call_range_1 (Calls.spliced_nil ?_);have A:Inv X z u L { f with heap:=f.heap.push { cls:=.type "range",data:=.fields #[.int 0 f.toks,.int (j:Int) t,.int 1 (f.toks+1)] },toks:=f.toks+1+1 }:=K.kept fun b o e=>zG _ e
  refine Z6 (n:=j) (I.ok.hd D) (IsRange.new ..) (Y? oM oM oM oM) (by rw[L?];split<;>lia) oM fun R O c J C F d=>?_
  have x:=kJ c.toList 0 (fun i v e=>by
   obtain⟨t,G⟩:=d.2 i v (by simpa using e);exact⟨t,by rw[G];congr 1;lia⟩)
  rw[show c.toList.length=j by simpa using d.1]at x;exact⟨.ref _,_,A.laid (o:=.lst ((ĭ 0 j).map fun(q:Nat)=>V.int (q:Int))) C (zP _) ⟨yY (rg (by simp;lia)),c.toList,J,x,F⟩,rfl,q _ A.fresh⟩
end
theorem oZ(n:Nat):sliceRange ((n:Int)-1) (-1) (-1)=(É n).map fun k=>n-1-k:=by
 unfold sliceRange;rcases n with _|n
 ·rfl
 ·have e:((n+1:Nat):Int)-1 - -1 - -1-1=((n+1:Nat):Int):=by lia
  simp only[show ¬((-1:Int) > 0) by decide,if_false,show((n+1:Nat):Int)-1 > -1 by lia,if_true,e,Int.neg_neg,Z!,Ϫ];apply ķ;intro k a;rw[Ö]at a;lia
theorem BM{α:Type}(m:List α):(É m.length).filterMap (fun k=>m[k]?)=m:=by
 induction m with
 |nil=>rfl
 |cons a m b =>
  rw[yX,List.range_succ_eq_map,ā];simp only[List.getElem?_cons_zero,ϙ];congr 1
theorem xk{α b:Type}{f g:α->Option b}(l:List α)(h:∀x∈l,f x=g x):l.filterMap f=l.filterMap g:=by
 induction l with
 |nil=>rfl
 |cons a l c=>rw[ā,ā,h a (by simp),c fun x d=>h x (by simp[d])]
theorem zv{α:Type}(l:List α):((É l.length).map fun k=>l.length-1-k).filterMap (l[·]?)=l.reverse:=by
 rw[ϙ];have h:(É l.length).filterMap ((fun x=>l[x]?) ∘ fun k=>l.length-1-k)=(É l.length).filterMap (fun k=>l.reverse[k]?):=by
  apply xk;intro k a;rw[Ö]at a;simp only[T6,List.getElem?_reverse a]
 rw[h];have b:=BM l.reverse;rw[œ]at b;rw[b]
theorem qC(PB:List Å):Q4 PB.toArray Á Á (À (-1))=PB.reverse.toArray:=by
 have e:Ĺ Á Á (À (-1)) PB.toArray.size=((PB.length:Int)-1,-1,-1):=by
  simp[Ĺ]
 unfold Q4;rw[e];simp only[oZ,H!];rw[zv]
section
variable{X:Cx}{e st:Ï}{te ts:TE}{pos p2:Ĝ}
def Gb(K:Ü)(te ts:TE):TE:=fun c H Q=>te c H fun x e=>ts c e fun y b=>y=.int (-1)/\∃a d,x=.ref a/\bJ K b a d/\∀p,b p=Á->Q (.ref p) (ag b p (.lst d.reverse))
theorem BR(he:PE X e te)(u:PE X st ts):PE X (.Subscript e (.Slice Á Á (À st) p2) pos) (Gb X.K te ts):=by
 intro f s d H Q I h;refine W7 (aB (he f s d H _ I h) fun v m g=>?_);obtain⟨x,C,A,r1,n⟩:=g;refine wpAny_Slice ?_;rw[M'];refine yF (yF ?_);rw[evalPart_some];refine aB (u f m d C _ A n) fun D c g=>?_
 obtain⟨y,B,z,r2,w,a,l,ex,sq,q⟩:=g;subst w;subst ex;obtain⟨t,rfl⟩:=r2;cases r1;have i:Inv X f d B { c with heap:=c.heap.push { cls:=.type "slice",data:=.fields #[.none,.none,.int (-1) t] } }:=z.kept (t':=c.toks) fun b p q=>zG _ q
 obtain⟨E,r,j,hz⟩:=i.list sq;have k:=r.length;show Î (model X.prog X.w) X.A (Ϯ e (.Slice Á Á (À st) p2) (.ref a) (.ref c.heap.objs.size)) (EP X f d Q) X.xe { c with heap:=c.heap.push { cls:=.type "slice",data:=.fields #[.none,.none,.int (-1) t] } };refine tail_any (ops:=[.ref a,.ref c.heap.objs.size]) j.isList.typeIs slot_list_getitem.lookup ?_ (by with_unfolding_all rfl);refine K? j.isList (b! ..) .none .none (.int (-1) t) dC ?_ (by rw[zI]<;>lia);rw[qC];refine⟨.ref _,_,i.laid (t':=c.toks) (o:=.lst l.reverse) (fun b p q=>zG _ q) (zP _) ?_,rfl,q _ (i.PJ.fresh (zP _))⟩;exact⟨by rw[œ];exact hz,_,0,r.reverse,zY _ rfl⟩
end
end L2
namespace PySem.AutoSeq1
theorem xM(l:Ç)(items:Array Å)(n:Nat)(b:Ç)(items2:Array Å)(n2:Nat)(sl:Array (Option Å))(hc0:¬(!items.isEmpty&&ó (items.size+items2.size))=Â)(hc1:items.size<=Ë)(hs2:items.size+items2.size<=Ë+1) :
  Meets (x?.«list.extend» ⟨[.ref l,.ref b],[]⟩) (fun _ R s=>s.heap.get? l=À { cls:=.type "list",dict:=Á,data:=.seq items n,slots:=#[] }/\s.heap.get? b=À { cls:=.type "list",dict:=Á,data:=.seq items2 n2,slots:=sl }/\R (.ok (.ret ŭ)) { s with heap:=s.heap.update l (Ģ fun x=>x++items2),toks:=s.toks }) :=
 .of_wp fun c w A R s h=>by
  obtain⟨k,g,d,i,j⟩:=s;obtain⟨e,f,h⟩:=h;have r:=idx_int;have q:=Z4;have p:=sub_list_list;have o:=sub_tuple_list;have m:=sub_list_tuple;have a:(items++items2).size<=Ë+1:=by rw[S?];exact hs2
  wp_walk using (ϑ e rfl (hz:=hc1) (_hz':=a)),ϒ e,ϒ f;exact⟨_,rfl,h⟩
end PySem.AutoSeq1
namespace L2
open PySem PySem.Spec PyProof.Rows
section
variable{X:Cx}
def JV(K:Ü):V->List V->Hp->VK->Prop:=fun x d H Q=>∃l b c a,x=.ref l/\d=[.ref b]/\H l=À (.lst c)/\bJ K H b a/\c.length+a.length<=Ë/\Q .non (ag H l (.lst (c++a)))
theorem Ff:Mr X "list.extend" (JV X.K):=by
 intro P s E H x K v L Q I rx p h;obtain⟨l,b,J,G,rfl,rfl,j,hB,hz,q⟩:=h;cases rx;obtain⟨u,rfl,t⟩:=p.one;cases t;obtain⟨z,d,n,r,O,e⟩:=I.lstM j;obtain⟨a,r2,w,B⟩:=I.list hB;obtain⟨o,A,D,m,k,i⟩:=w;obtain⟨N,M,y,f⟩:=o;dsimp only at m k i;subst m;subst k;subst i;have C:=r2.length;have g:d.toArray.size+a.toArray.size<=Ë:=by rw[zI,zI];lia
 have c:¬(!d.toArray.isEmpty&&ó (d.toArray.size+a.toArray.size))=Â:=by
  rw[notLongL g,Bool.and_false];exact ğ
 refine ϋ F.slot_list_extend ⟨_,e,rfl⟩ F.entry_list_extend (F.args_list_extend_2 _ _)
  (PySem.AutoSeq1.xM l d.toArray n b a.toArray A f c (by rw[zI];lia) oM) ⟨e,D,?_⟩
 refine⟨.non,_,I.lset (its':=d++a) j e (by simp) (r.append r2) ?_,rfl,q⟩;rw[zV];lia
end
section
variable{X:Cx}
def JX:V->List V->Hp->VK->Prop:=fun x a H Q=>∃i,x=.int i/\a=[]/\Q (.int ((ń i:Nat):Int)) H
theorem Fg:mJ X "int.bit_length" JX:=by
 intro e s b H x c v d Q I rx a h;obtain⟨i,ex,ev,q⟩:=h;subst ex;subst ev;obtain⟨t,rfl⟩:=rx;cases a;exact call_int_bit_length ⟨.int _,H,I.tok _,⟨_,rfl⟩,q⟩
end
end L2
namespace PySem.AutoSeq1
theorem FO(l:Ç)(items:Array Å)(n:Nat)(sl1:Array (Option Å))(b:Ç)(items2:Array Å)(n2:Nat)(sl:Array (Option Å))(hs2:items.size+items2.size<=Ë) :
  Meets (x?.«list.__add__» ⟨[.ref l,.ref b],[]⟩) (fun _ R s=>s.heap.get? l=À { cls:=.type "list",dict:=Á,data:=.seq items n,slots:=sl1 }/\s.heap.get? b=À { cls:=.type "list",dict:=Á,data:=.seq items2 n2,slots:=sl }/\R (.ok (.ret (ï s.heap.objs.size))) { s with heap:=s.heap.push { cls:=.type "list",data:=.seq (items++items2) },toks:=s.toks }) :=
 .of_wp fun c w A R s h=>by
  obtain⟨m,g,d,j,k⟩:=s;obtain⟨f,i,h⟩:=h;have t:=idx_int;have r:=Z4;have q:=sub_list_list;have p:=sub_tuple_list;have o:=sub_list_tuple;have e:(items++items2).size<=Ë+1:=by rw[S?];lia
  have a:ó (items.size+items2.size)=Ä:=L2.notLongL hs2
  wp_walk using ϒ f,ϒ i
  all_goals first|exact⟨_,rfl,h⟩|skip
end PySem.AutoSeq1
namespace L2
open PySem PySem.Spec PyProof.Rows
section
variable{X:Cx}
def JW(K:Ü):R2:=fun x y H Q=>∃l b c a,x=.ref l/\y=.ref b/\bJ K H l c/\bJ K H b a/\c.length+a.length<=Ë/\∀p,H p=Á->Q (.ref p) (ag H p (.lst (c++a)))
theorem E7:mI X (ż .Add) (JW X.K):=by
 intro U s L H x y v u Q I rx t h;obtain⟨l,b,N,M,rfl,rfl,J,hB,hz,q⟩:=h;cases rx;cases t;obtain⟨c,r,⟨B,D,g,p,n,j⟩,_⟩:=I.list J;obtain⟨a,r2,⟨A,C,k,o,m,i⟩,_⟩:=I.list hB;obtain⟨S,R,z,e⟩:=B;obtain⟨P,O,w,d⟩:=A;dsimp only at p n j o m i;subst p;subst n;subst j;subst o;subst m;subst i;have G:=r.length;have E:=r2.length;have f:c.toArray.size+a.toArray.size<=Ë:=by rw[zI,zI];lia
 refine wpAny_binaryOp_concat (T:="list") (id:="list.__add__") ⟨_,g,rfl⟩ ⟨_,k,rfl⟩ noFill_list_add (by rfl) ?_;refine ϋ F.slot_list_add ⟨_,g,rfl⟩ F.entry_list_add (F.args_list_add_2 _ _) (PySem.AutoSeq1.FO l c.toArray D e b a.toArray C d f) ⟨g,k,?_⟩;have K:c.toArray++a.toArray=(c++a).toArray:=by simp
 rw[K];exact⟨.ref _,_,I.lnew (t':=s.toks) (r.append r2) (by rw[zV];lia),rfl,q _ I.fresh⟩
end
section
variable{κ:Type}[DecidableEq κ]
noncomputable def fF(Px:List (κ×V))(k:κ):Option V:=(Px.find? fun a=>decide (a.1=k)).map (·.2)
noncomputable def fJ(Px:List (κ×V))(k:κ)(v:V):List (κ×V) :=
 if(Px.any fun a=>decide (a.1=k))=Â then Px.map (fun a=>if a.1=k then(a.1,v) else a) else Px++[(k,v)]
theorem ou{p:κ×V}{r:List (κ×V)}{k:κ}(e:p.1=k):fF (p::r) k=À p.2:=by simp[fF,í,e]
theorem ow{p:κ×V}{r:List (κ×V)}{k:κ}(e:¬p.1=k):fF (p::r) k=fF r k:=by simp[fF,í,e]
theorem sZ(k:κ):∀Px:List (κ×V),(Px.any fun kv=>decide (kv.1=k))=(fF Px k).isSome
 |[]=>rfl
 |p::r=>by
  rw[Ŋ];by_cases e:p.1=k
  ·simp only[ou e,yV e,Bool.true_or,J!]
  ·rw[ow e,z9 e,q?];exact sZ k r
theorem nG(Px:List (κ×V))(k:κ)(v:V):(fJ Px k v).length<=Px.length+1:=by
 unfold fJ;split
 ·rw[zH];lia
 ·rw[zV,yX,V?];lia
theorem RelO.isSome_eq{o:Option V}{u:Option Å}(r:RelO o u):o.isSome=u.isSome:=by
 cases o with
 |none=>cases u with
  |none=>rfl
  | some _=>exact (show False from r).elim
 |some _=>cases u with
  | none=>exact (show False from r).elim
  |some _=>rfl
theorem KV.val{Px:List (κ×V)}{vs:List (κ×Value)}(r:KV Px vs)(k:κ):RelO (fF Px k) (c! vs k):=by
 unfold KV at r
 induction r with
 |nil=>exact True.intro
 |@cons p q i a h t f =>
  obtain⟨d,g⟩:=h;by_cases e:p.1=k
  ·have c:q.1=k:=d.symm.trans e
   have b:c! (q::a) k=À q.2:=by simp[c!,í,c]
   rw[ou e,b];exact g
  ·have c:¬q.1=k:=fun z=>e (d.trans z)
   have b:c! (q::a) k=c! a k:=by simp[c!,í,c]
   rw[ow e,b];exact f
theorem KV.any{Px:List (κ×V)}{vs:List (κ×Value)}(r:KV Px vs)(k:κ):(Px.any fun kv=>decide (kv.1=k))=vs.any fun kv=>decide (kv.1=k):=by
 unfold KV at r
 induction r with
 |nil=>rfl
 |cons h t a=>rw[Ŋ,Ŋ,a,h.1]
theorem KV.repl{Px:List (κ×V)}{vs:List (κ×Value)}(r:KV Px vs)(k:κ){y:V}{u:Å}(b:RelV y u) :
  KV (Px.map fun kv=>if kv.1=k then(kv.1,y) else kv) (vs.map fun kv=>if kv.1=k then(kv.1,u) else kv):=by
 unfold KV at r ⊢
 induction r with
 |nil=>exact .nil
 |@cons p q g f h t c =>
  rw[zO,zO];refine .cons ?_ c;obtain⟨a,d⟩:=h;by_cases e:p.1=k
  ·rw[yH e,yH (a.symm.trans e)];exact⟨a,b⟩
  ·rw[yG e,yG (fun z=>e (a.trans z))];exact⟨a,d⟩
theorem KV.put{Px:List (κ×V)}{vs:List (κ×Value)}(r:KV Px vs)(k:κ){y:V}{u:Å}(a:RelV y u):KV (fJ Px k y) (stored vs k u):=by
 unfold fJ stored;rw[r.any k];by_cases e:(vs.any fun b=>decide (b.1=k))=Â
 ·rw[yH e,yH e];exact r.repl k a
 ·rw[yG e,yG e];exact Paired.snoc r ⟨rfl,a⟩
theorem KV.length{Px:List (κ×V)}{vs:List (κ×Value)}(r:KV Px vs):Px.length=vs.length:=Paired.length r
end
theorem pC{P:Ò}{w:Ù}{k:aU}{u:Å}(r:RelV (kV k) u):(cg P w).is k u=Â:=by
 cases k with
 | inl i=>obtain ⟨t,e⟩:=(show ∃ t,u=n! i t from r);subst e;exact vo P w i t
 | inr x=>obtain ⟨t,e⟩:=(show ∃ t,u=m? x t from r);subst e;exact vn P w x t
theorem rC{P:Ò}{w:Ù}:∀{ks:List aU}{us:List Å},Vals (ks.map kV) us->ItemsAre (cg P w) ks us
 |[],_,r=>by rw[Ğ]at r;cases r;exact .nil
 |k::ks,_,r=>by
  rw[zO]at r;cases r with
  |cons h t=>exact .cons (pC h) (rC t)
abbrev KT(H:Hp):List (List aU×V)->List (List aU×Addr×Value)->Prop:=T0 fun p q=>p.1=q.1/\H q.2.1=À (.tup (p.1.map kV))/\RelV p.2 q.2.2
theorem KT.val{H:Hp}{Px:List (List aU×V)}{xs:List (List aU×Addr×Value)}(r:KT H Px xs)(k:List aU):RelO (fF Px k) ((C? xs k).map (·.2)):=by
 induction r with
 |nil=>exact True.intro
 |@cons p q i a h t f =>
  obtain⟨d,_,g⟩:=h;by_cases e:p.1=k
  ·have c:q.1=k:=d.symm.trans e
   have b:C? (q::a) k=À q.2:=by simp[C?,í,c]
   rw[ou e,b];exact g
  ·have c:¬q.1=k:=fun z=>e (d.trans z)
   have b:C? (q::a) k=C? a k:=by simp[C?,í,c]
   rw[ow e,b];exact f
theorem KT.repl{H:Hp}{Px:List (List aU×V)}{xs:List (List aU×Addr×Value)}(r:KT H Px xs)(k:List aU){y:V}{u:Å}(c:RelV y u) :
  KT H (Px.map fun kv=>if kv.1=k then(kv.1,y) else kv) (xs.map (putAt k u)):=by
 induction r with
 |nil=>exact .nil
 |@cons p q i g h t d =>
  rw[zO,zO];refine .cons ?_ d;obtain⟨a,b,f⟩:=h;unfold putAt;by_cases e:p.1=k
  ·rw[yH e,yH (a.symm.trans e)];exact⟨a,b,c⟩
  ·rw[yG e,yG (fun z=>e (a.trans z))];exact⟨a,b,f⟩
theorem KT.put{H:Hp}{Px:List (List aU×V)}{xs:List (List aU×Addr×Value)}(r:KT H Px xs)(k:List aU){b:Ç}{y:V}{u:Å}(d:H b=À (.tup (k.map kV)))(a:RelV y u) :
  KT H (fJ Px k y) (storedH xs k b u):=by
 have e:(Px.any fun c=>decide (c.1=k))=(C? xs k).isSome:=by
  rw[sZ,(r.val k).isSome_eq,Ł]
 unfold fJ storedH;rw[e];by_cases q:(C? xs k).isSome=Â
 ·rw[yH q,yH q];exact r.repl k a
 ·rw[yG q,yG q];exact Paired.snoc r ⟨rfl,d,a⟩
theorem KT.keeps{H a:Hp}{Px:List (List aU×V)}{xs:List (List aU×Addr×Value)}(r:KT H Px xs)(c:∀b ys,H b=À (.tup ys)->a b=À (.tup ys)):KT a Px xs :=
 Paired.mapP r fun _ _ z=>⟨z.1,c _ _ z.2.1,z.2.2⟩
section
variable{P:Ò}{w:Ù}{H:Hp}{h:æ}{a:Ç}
theorem C9{u:HO}(ok:HOk P w H h)(e:Rd H a u):ObjOk P w H h a u:=e.ok ok
theorem p6{Px:List (aU×V)}(ok:HOk P w H h)(e:Rd H a (.dK Px)):Px.length<=Ë/\(a==ė)=Ä/\∃vs,KV Px vs/\h.DictOf (cg P w) a vs :=
 show ObjOk P w H h a (.dK Px) from C9 ok e
theorem Du{Px:List (aU×V)}(ok:HOk P w H h)(e:H a=À (.dK Px)):Px.length<=Ë/\(a==ė)=Ä/\∃vs,KV Px vs/\h.DictOf (cg P w) a vs:=p6 ok (.inl e)
theorem lY{ks:List aU}(ok:HOk P w H h)(e:H a=À (.tup (ks.map kV))):(ź (cg P w)).is h ks a:=by
 obtain ⟨_,f,r,o,d,c,n,b⟩:=(show ObjOk P w H h a (.tup (ks.map kV)) from ok a _ e);exact ⟨o,f.toArray,n,d,c,b,by simpa using rC r⟩
theorem p5{Px:List (List aU×V)}(ok:HOk P w H h)(e:Rd H a (.dT Px)):Px.length<=Ë/\(a==ė)=Ä /\
  ∃xs,KT H Px xs/\h.DictOfH (ź (cg P w)) a xs:=by
 obtain ⟨z,y,xs,r,o,n,s,k,j,i,g,f⟩:=(show ObjOk P w H h a (.dT Px) from C9 ok e);refine ⟨z,y,xs,r,o,n,s,k,j,i,g,fun x b=>?_,f⟩;have all:∀ {l:List (List aU × V)}{m:List (List aU × Ç × Å)},KT H l m->∀ x ∈ m,(ź (cg P w)).is h x.1 x.2.1:=by
  intro l m q
  induction q with
  |nil=>intro x b;exact nomatch b
  |@cons p q v u c t d =>
   intro x b;rcases zT.mp b with e|b
   ·subst e
    exact lY ok (by rw[<- c.1];exact c.2.1)
   ·exact d x b
 exact all r x b
theorem Ds{Px:List (List aU×V)}(ok:HOk P w H h)(e:H a=À (.dT Px)):Px.length<=Ë/\(a==ė)=Ä /\
  ∃xs,KT H Px xs/\h.DictOfH (ź (cg P w)) a xs:=p5 ok (.inl e)
end
def DGet(H:Hp)(a:Ç)(y:V)(r:Option V):Prop :=
 (∃c k,Rd H a (.dK c)/\y=kV k/\r=fF c k)\/∃c k b,Rd H a (.dT c)/\y=.ref b/\H b=À (.tup (k.map kV))/\r=fF c k
def DPut(H:Hp)(a:Ç)(y v:V)(d:Hp):Prop :=
 (∃c k,H a=À (.dK c)/\y=kV k/\c.length<Ë/\d=ag H a (.dK (fJ c k v))) \/
 ∃c k b,H a=À (.dT c)/\y=.ref b/\H b=À (.tup (k.map kV))/\c.length<Ë/\d=ag H a (.dT (fJ c k v))
theorem DGet.k{H:Hp}{a:Ç}{Px:List (aU×V)}{k:aU}(e:H a=À (.dK Px)):DGet H a (kV k) (fF Px k):=.inl ⟨Px,k,.inl e,rfl,rfl⟩
theorem DGet.t{H:Hp}{a b:Ç}{Px:List (List aU×V)}{k:List aU}(e:H a=À (.dT Px))(c:H b=À (.tup (k.map kV))):DGet H a (.ref b) (fF Px k):=.inr ⟨Px,k,b,.inl e,rfl,c,rfl⟩
theorem DPut.k{H:Hp}{a:Ç}{Px:List (aU×V)}{k:aU}{v:V}(e:H a=À (.dK Px))(b:Px.length<Ë):DPut H a (kV k) v (ag H a (.dK (fJ Px k v))):=.inl ⟨Px,k,e,rfl,b,rfl⟩
theorem DPut.t{H:Hp}{a b:Ç}{Px:List (List aU×V)}{k:List aU}{v:V}(e:H a=À (.dT Px))(d:H b=À (.tup (k.map kV)))(c:Px.length<Ë) :
  DPut H a (.ref b) v (ag H a (.dT (fJ Px k v))):=.inr ⟨Px,k,b,e,rfl,d,c,rfl⟩
section
variable{X:Cx}{Pw:List (Ç×Obj)}{σ:St}{H:Hp}{s:È}{a:Ç}{y v:V}{u r:Å}{o:Option V}{A:Ć}{E:Å->È->Prop}
theorem Inv.big(I:Inv X Pw σ H s):ė<s.heap.objs.size:=by
 have h:Ð<s.heap.objs.size:=(I.mod.glob.keeps I.bk).lt;exact ϧ dC h
theorem AM{Q:Å->È->Prop}(t:A.units+1<Ŗ)(I:Inv X Pw σ H s)(g:DGet H a y (À v))(n:RelV y u)(h:∀w' s',Inv X Pw σ H s'->RelV v w'->Q w' s') :
  Î (model X.prog X.w) A (d! (.ref a) u) Q E s:=by
 rcases g with⟨B,k,e,j,l⟩|⟨B,k,b,e,j,x,l⟩
 ·subst j
  obtain⟨z,hd,r,d,m⟩:=p6 I.PJ e;obtain⟨w',f,c⟩:=RelO.some_of (v:=v) (o:=c! r k) (by rw[l];exact d.val k);exact wpAny_getItem_of (pC n) m.mapOf f (h w' _ (I.tok _) c)
 ·subst j
  cases (show u=ï b from n);obtain ⟨z,hd,q,d,m⟩:=p5 I.PJ e;obtain ⟨w',f,c⟩:=RelO.some_of (v:=v) (o:=(C? q k).map (·.2)) (by rw [l];exact d.val k);obtain ⟨p,w,i⟩:=zE.mp f;refine wpAny_getItem_heap (Ŧ t) (lY I.PJ x) m w ?_;rw [i];exact h w' _ (I.tok _) c
theorem Nv{Q:Å->È->Prop}(j:A.units+1<Ŗ)(I:Inv X Pw σ H s)(g:DGet H a y o)(i:RelV y u)(h:∀s',Inv X Pw σ H s'->Q (.bool o.isSome) s') :
  Î (model X.prog X.w) A (č .In u (.ref a)) Q E s:=by
 rcases g with⟨n,k,e,d,l⟩|⟨n,k,b,e,d,m,l⟩
 ·subst d
  obtain⟨z,hd,r,c,f⟩:=p6 I.PJ e;refine wpAny_in_of (pC i) hd f.mapOf ?_;rw[<- (c.val k).isSome_eq,<- l];exact h _ (I.tok _)
 ·subst d
  cases (show u=ï b from i);obtain ⟨z,hd,p,c,f⟩:=p5 I.PJ e;refine wpAny_in_heap (Ŧ j) (lY I.PJ m) hd f ?_;have q:=(c.val k).isSome_eq;rw [Ł] at q;rw [<- q,<- l];exact h _ (I.tok _)
theorem FD{Q:Å->È->Prop}(j:A.units+1<Ŗ)(I:Inv X Pw σ H s)(g:DGet H a y o)(i:RelV y u)(h:∀s',Inv X Pw σ H s'->Q (.bool (!o.isSome)) s') :
  Î (model X.prog X.w) A (č .NotIn u (.ref a)) Q E s:=by
 rcases g with⟨n,k,e,d,l⟩|⟨n,k,b,e,d,m,l⟩
 ·subst d
  obtain⟨z,hd,r,c,f⟩:=p6 I.PJ e;refine wpAny_notIn_of (pC i) hd f.mapOf ?_;rw[<- (c.val k).isSome_eq,<- l];exact h _ (I.tok _)
 ·subst d
  cases (show u=ï b from i);obtain ⟨z,hd,p,c,f⟩:=p5 I.PJ e;refine wpAny_notIn_heap (Ŧ j) (lY I.PJ m) hd f ?_;have q:=(c.val k).isSome_eq;rw [Ł] at q;rw [<- q,<- l];exact h _ (I.tok _)
theorem wB{h':æ}{t':Nat}{c:HO}(I:Inv X Pw σ H s)(d:A7 (H a))(f:İ a s.heap h')(he:∃q,h'.get? a=À q)(new:ObjOk X.prog X.w (ag H a c) h' a c) :
  Inv X Pw σ (ag H a c) { s with heap:=h',toks:=t' } :=
 I.write (x:=a) (e:=a) d (.inl rfl) (fun b q g z=>(f.2 b g).trans z) he new
theorem Je{P:Ò}{w:Ù}{d:Hp}{h':æ}{Px:List (aU×V)}{vs:List (aU×Value)}(z:Px.length<=Ë)(hd:(a==ė)=Ä)(b:KV Px vs)(c:h'.DictOf (cg P w) a vs) :
  ObjOk P w d h' a (.dK Px):=⟨z,hd,vs,b,c⟩
theorem rR{F:Hp}{Q:Unit->È->Prop}(K:A.units+1<Ŗ)(I:Inv X Pw σ H s)(g:DPut H a y v F)(w:RelV y u)(x:RelV v r)(h:∀s',Inv X Pw σ F s'->Q () s') :
  Î (model X.prog X.w) A (ϡ (.ref a) u r) Q E s:=by
 rcases g with⟨i,k,e,o,l,p⟩|⟨i,k,b,e,o,D,l,p⟩
 ·subst o p
  obtain⟨z,hd,J,d,t⟩:=Du I.PJ e;have hz:J.length<=Ë:=by rw[<- d.length];exact z
  have n:(fJ i k v).length<=Ë:=by have:=nG i k v;lia
  refine wpAny_setItem_pairs (hsz:=hz) (pC w) t fun B f m=>h _ ?_
  have L:∃q,B.get? a=À q:=let⟨q,_,_,j,_⟩:=f;⟨q,j⟩;exact wB I (by rw[e];exact True.intro) m L (Je n hd (d.put k x) f)
 ·subst o p
  cases (show u=ï b from w);obtain ⟨z,hd,G,d,t⟩:=Ds I.PJ e;have hz:G.length <= Ë:=by rw [<- Paired.length d];exact z
  have n:(fJ i k v).length<=Ë:=by have:=nG i k v;lia
  refine wpAny_setItem_heap (hsz:=hz) (Ŧ K) (lY I.PJ D) t fun B f m=>h _ ?_
  obtain⟨q,R,S,j,P,O,N,_,M⟩:=f;refine wB I (by rw[e];exact True.intro) m ⟨q,j⟩ ⟨n,hd,_,(d.put k D x).keeps fun c T C=>?_,q,R,S,j,P,O,N,M⟩;rw[ad (xq C e (fun z=>nomatch z))];exact C
end
theorem vq{X:Cx}{Pw:List (Ç×Obj)}{σ:St}{H:Hp}{s:È}{a:Ç}{y:V}{o:Option V}(I:Inv X Pw σ H s)(g:DGet H a y o):s.TypeIs (.ref a) "dict":=by
 rcases g with⟨d,k,e,_,_⟩|⟨d,k,b,e,_,_,_⟩
 ·obtain⟨_,_,h,_,c⟩:=p6 I.PJ e
  exact c.typeIs
 ·obtain⟨_,_,f,_,c⟩:=p5 I.PJ e
  exact c.typeIs
theorem Cw{P:Ò}{w:Ù}{H:Hp}(h:æ)(a:ė<h.objs.size):ObjOk P w H (h.push { cls:=.type "dict",data:=.dict #[] }) h.objs.size (.dK []) :=
 ⟨ł _,beq_eq_false_iff_ne.mpr (ä (zU a)),[],.nil,Heap.DictOf.new h⟩
def yx:TE:=fun _ H Q=>∀p,H p=Á->Q (.ref p) (ag H p (.dK []))
section
variable{X:Cx}{pos:Ĝ}
theorem BV:PE X (.Dict [] [] pos) yx:=fun c s b H Q I h =>
 wpAny_Dict_empty ⟨.ref s.heap.objs.size,_,I.laid (a:=s.heap.objs.size) (o:=.dK []) (t':=s.toks) (fun _ _ q=>zG _ q) (zP _) (Cw s.heap I.big),rfl,h _ (I.PJ.fresh (zP _))⟩
end
open PySem.Calls
section
variable{prog:Ò}{w:Ù}{A:Ć}{E:Å->È->Prop}{s:È}
theorem xz(d:Ç)(hd:(d==ė)=Ä) :
  MeetsIn prog w (x?.«dict.__len__» ⟨[.ref d],[]⟩) (fun _ R s=>∃xs:List (List aU×Addr×Value),s.heap.DictOfH (ź (cg prog w)) d xs/\R (.ok (.ret (.int xs.length s.toks))) { s with toks:=s.toks+1 }) :=
 .of_wp fun A R s b=>by
  obtain⟨i,e,h⟩:=b;obtain⟨o,g,m,c,l,a,f,j,k⟩:=e;show Î _ _ (dictSize d>>=_) _ _ s;unfold dictSize;refine yE (yE (wpAny_dictEntries c a (yF ?_)));show Î _ _ (_0 d>>=_) _ _ s;refine yE (wpAny_pendingCount_other hd ?_);refine wpAny_ret_mkInt ?_;have:g.size=i.length:=size_of_entries f;simpa [this] using h
theorem xO(hd:(d==ė)=Ä)(hm:s.heap.DictOfH (ź (cg prog w)) d xs)(hfit:(xs.length:Int)<2^63)
  (h:Q (.int xs.length (s.toks+1)) { s with toks:=s.toks+1+1 }):Î (model prog w) A (call (.builtin "len") [.ref d]) Q E s:=by
 refine Calls.call_function_entry kind_len plain_len entry_len (args_len1 _) ?_;unfold x?.«len»;refine yE (m:=oneArg "len" _) (yF ?_);refine yE (m:=callSpecial? (.ref d) (û "__len__")) (Q0 (name:=û "__len__") hm.typeIs n?
  (call_meetsIn n? hm.typeIs PySem.F.entry_dict_len (PySem.F.args_dict_len_1 _) (xz d hd) ⟨xs,hm,?_⟩))
 show Î _ _ _ _ _ { s with toks:=s.toks+1 };refine yE (yR (yF ?_));refine yE (Ϛ ?_);show Î _ _ (if((xs.length:Nat):Int)<0 then _ else _) _ _ _;rw[yG oM];show Î _ _ (if((xs.length:Nat):Int) ≥ 2^63 then _ else _) _ _ _;rw[yG oM];exact yE (wpAny_mkInt (yF ⟨_,rfl,h⟩))
end
section
variable{X:Cx}
theorem AT:cT X (.builtin "len") (fun xs H Q=>∃a Px,xs=[V.ref a]/\H a=À (.dT Px)/\Q (.int Px.length) H):=by
 intro j s g H xs i Q I r h;obtain⟨a,Px,rfl,e,q⟩:=h;obtain⟨u,rfl,d⟩:=eM r;cases d;obtain⟨z,hd,xs,b,f⟩:=Ds I.PJ e;have c:=Paired.length b;refine xO hd f (by rw[<- c];rw[ϛ]at z;lia) ?_;rw[<- c];exact⟨.int Px.length,H,I.tok _,⟨_,rfl⟩,q⟩
end
end L2
namespace DD
open PySem PySem.Spec PyProof.Rows L2
section
variable{K:Ü}{F F':Ç->Prop}{H H':Hp}{A:List Ç}
open Classical in
variable{σD:DSt}{σ:L2.St}{R:Ro}{d:D}{v:V}
end
end DD
namespace L2
open PySem PySem.Spec PyProof.Rows
noncomputable def DO(x:Í):It:=⟨fun i _=>∃c,x.cps[i]?=À c,fun i H v a=>a=H/\∃c,x.cps[i]?=À c/\v=.str ⟨#[c]⟩,fun i _=>x.cps[i]?=Á⟩
theorem Bj{P:Ò}{w:Ù}{K:Ü}{L:Ï}(x:Í)(t:Tok)(it:Ç):j2 P w K L (DO x) [it] it (fun i h=>h.IsStrIter it "str_ascii_iterator" x t i) where
 mem:=by simp
 obj:=fun i h a b f=>by
  have e:b=it:=by simpa using f
  subst e;obtain⟨o,e,c,d⟩:=a;exact⟨o,e,fun v z=>by rw[d]at z;cases z⟩
 keep:=fun i h l a k=>by
  obtain⟨o,e,r⟩:=a;exact⟨o,k it (by simp) o e,r⟩
 item:=by
  intro X p m q G i J s D H E I j a n;subst p m q;obtain⟨c,F⟩:=n;obtain⟨C,B,N,A,y,u⟩:=j it (by simp);refine wpAny_pyNext_ascii_item a F fun l g M=>?_
  have Q:Inv X J D H { s with heap:=l,toks:=s.toks+1 }:=I.turned (fun b o f e=>(M.2 b f).trans e) C B A y u;obtain⟨o,e,cl,d⟩:=id g;exact⟨_,rfl,mY (s:={ s with heap:=l,toks:=s.toks+1 }) e cl d dC ⟨.str ⟨#[c]⟩,H,Q,⟨_,rfl⟩,⟨rfl,c,F,rfl⟩,g,fun b f=>(j b f).1⟩⟩
 done:=by
  intro X p m q G i J s D H E I j a n;subst p m q;obtain⟨C,B,N,A,y,u⟩:=j it (by simp);exact wpAny_pyNext_ascii_end (I.ok.hd G) a n fun l O=>⟨rfl,I.turned (t':=s.toks) (fun b o f e=>O b o f e) C B A y u⟩
 self:=fun _ _ _ _ _ a h=>wpAny_pyIter_striter_ascii a h
section
variable{X:Cx}{pos:Ĝ}
def Eg(d:TA):TE:=fun b H Q=>d b H fun c a=>∃i j:Nat,c=[.int (i:Int),.int (j:Int)]/\i<=j/\j<=1000/\∀p,a p=Á->Q (.ref p) (ag a p (.lst ((ĭ i (j-i)).map fun(q:Nat)=>V.int (q:Int))))
theorem zz(T:X.calm=Â)(D:Gl X "list")(B:X.mg "list"=Á)(C:Gl X "range")(A:X.mg "range"=Á)(U:PA X [a,b] ta)
  (P:autoParam (Ê [a,b] X.env=[(Ä,eval a X.env),(Ä,eval b X.env)]) Ax2._auto_1) (g:autoParam (Ê [b] X.env=[(Ä,eval b X.env)]) Ax2._auto_1) (l:autoParam (Ê [.Call (.Name "range" p2) [a,b] [] pos2] X.env=[(Ä,eval (.Call (.Name "range" p2) [a,b] [] pos2) X.env)]) Ax2._auto_1) :
  PE X (.Call (.Name "list" p1) [.Call (.Name "range" p2) [a,b] [] pos2] [] pos) (Eg ta):=by
 intro G s E H Q I h;refine I! (dJ I D B k6 (Ó ?_ (by rw[l];rfl) (by rfl)));rw[l];refine Calls.spliced_cons (I! (dJ I C A ϵ (Ó (aB (U pos2 G s E H _ I h) fun L m z=>?_) (by rw[P,g]) (by rw[g];rfl))));obtain⟨vs,H1,I1,r1,i,j,e,S,hj,q⟩:=z;subst e;obtain⟨u1,p,rfl,x,r2⟩:∃u c,L=u::c/\RelV (.int (i:Int)) u/\Vals [.int (j:Int)] c:=by cases r1 with|cons r y=>exact⟨_,_,rfl,r,y⟩
 obtain⟨u2,K,rfl,w,O⟩:∃u c,p=u::c/\RelV (.int (j:Int)) u/\Vals [] c:=by cases r2 with|cons r y=>exact⟨_,_,rfl,r,y⟩
 cases O;obtain⟨N,rfl⟩:=x;obtain⟨M,rfl⟩:=w;refine call_range_2 (Calls.spliced_nil ?_);have J:Inv X G E H1 { m with heap:=m.heap.push { cls:=.type "range",data:=.fields #[.int (i:Int) N,.int (j:Int) M,.int 1 m.toks] },toks:=m.toks+1 }:=I1.kept fun b o e=>zG _ e
 refine Z6 (n:=j-i) (I.ok.hd T) (IsRange.new ..) (Y? oM oM oM oM) (by rw[L?];split<;>lia) oM fun h' tk d Z R W f=>?_
 have F:=kJ d.toList i (fun k v e=>by
  obtain⟨t,Y⟩:=f.2 k v (by simpa using e);exact⟨t,by rw[Y];congr 1;lia⟩)
 rw[show d.toList.length=j-i by simpa using f.1]at F;exact⟨.ref _,_,J.laid (o:=.lst ((ĭ i (j-i)).map fun(q:Nat)=>V.int (q:Int))) R (zP _) ⟨yY (rg (by simp;lia)),d.toList,Z,F,W⟩,rfl,q _ J.fresh⟩
end
def DS(X:Cx)(Pw:List (Ç×Obj))(b:Ç):Prop:=b≠X.env.locals/\b∉X.fs/\(b∈X.ex\/X.s₀.heap.objs.size<=b)/\(∀x c,X.env.cells.lookup x=À c->c≠b)/\∀p∈X.pn++Pw,p.1≠b
section
variable{X:Cx}{Pw:List (Ç×Obj)}{σ:St}{key:Å}{kw:List (Í×Value)}{l I S:Ç}{ns:List Int}{R:Result->È->Prop}
theorem B6(hh:X.A.handled=Á)(kf:Nat->Int)(J:Nat->Hp->Prop)(hl:∀i H,J i H->bJ X.K H l (ns.map V.int))
  (turn:∀(i:Nat)(n:Int)(u:Å)(pl:List (Ç×Obj))(s:È)(H:Hp),ns[i]?=À n->RelV (V.int n) u->J i H->Inv X (Pw++pl) σ H s->(key=.none/\kf i=n/\J (i+1) H) \/
   ∃q,key=.ref q/\Î (model X.prog X.w) X.A.in1 (call (.ref q) [u]) (EP X (Pw++pl) σ (fun y H'=>y=.int (kf i)/\J (i+1) H')) (fun _ _=>False) s)
  (hR:∀(i:Nat)(n:Int)(u:Å)(H:Hp)(s:È),ns[i]?=À n->(∀j,j<ns.length->kf i<=kf j/\(j<i->kf i<kf j))->J ns.length H->Inv X Pw σ H s->RelV (V.int n) u->R (.ok (.ret u)) s)
  (K:DS X Pw I) (G:DS X Pw S) (hIS:I≠S) :
  ∀(r j i:Nat)(H:Hp)(s:È)(vb:Å)(tb:Tok)(c:Nat),ns.length-(j+1)=r->j+1<=ns.length->Inv X Pw σ H s->H I=Á->H S=Á ->
   s.heap.get? S=À (Ŵ "list" #[vb,.int (kf i) tb] c)->s.heap.IsListIter I l (j+1)->(∃n,ns[i]?=À n/\RelV (V.int n) vb)->i<=j->J (j+1) H->(∀j',j'<=j->kf i<=kf j'/\(j'<i->kf i<kf j')) ->
   ň (model X.prog X.w) X.A (.builtin "min.loop" ⟨[.ref I,key,.ref S],kw⟩) R s:=by
 have hname:(toString "min"++toString ".loop":String)="min.loop":=by decide
 intro r
 induction r with
 |zero =>
  intro j i H s vb tb c hr hj Iv nI nS gS it U hij hJ hb;have hin:j+1=ns.length:=by lia
  obtain⟨p,rv,pl,_⟩:=Iv.list (hl _ _ hJ);have Q:p.length=ns.length:=by rw[<- rv.length,zH]
  have hL:s.heap.IsList l p.toArray:=pl.isList;have Z:l≠I:=fun e=>by
   obtain⟨o,E,L,_⟩:=hL;obtain⟨o',e3,e4,_⟩:=it;rw[e,e3]at E;cases E;rw[e4]at L;simp at L
  have W:=Walks.list (prog:=X.prog) (w:=X.w) (A:=X.A.in1) hh I l Z p.toArray;have Y:p.toArray.size=p.length:=zI ..;refine ϔ Ũ ?_;rw[Around.under_plainId Ā _];show Î _ X.A.in1 (Y0 (.ref S)>>=_) _ _ _;refine yE (y? gS rfl ?_);show Î _ X.A.in1 (tryCatch (A! (.ref I)) _>>=_) _ _ _;refine yE (ĸ (W.done _ _ _ ⟨by rw[Y,Q,<- hin];exact it,hL⟩ fun T B D=>?_));have V1:Inv X Pw σ H { s with heap:=T,toks:=B }:=Iv.turned (fun b o a e=>D b o (by simpa using a) e) nI K.1 K.2.2.1 K.2.2.2.1 K.2.2.2.2;have F:=D S _ (by simpa using hIS.symm) gS;show Î _ X.A.in1 (Q3 S (fun _=>#[])>>=_) _ _ _;refine yE ?_;refine ϑ F rfl (yE (Ϛ (yF ?_)));obtain⟨n,E,L⟩:=U;have s1:=Ŭ T S (Ģ fun _=>(#[]:Array Å));exact hR i n vb H _ E (fun j' hj'=>hb j' oM) (hin▸hJ) (V1.turned (t':=B) (fun b o a e=>(s1.2 b a).trans e) nS G.1 G.2.2.1 G.2.2.2.1 G.2.2.2.2) L
 |succ r ih =>
  intro j i H s vb tb c hr hj Iv nI nS gS it U hij hJ hb;have hlt:j+1<ns.length:=by lia
  obtain⟨p,rv,pl,_⟩:=Iv.list (hl _ _ hJ);have Q:p.length=ns.length:=by rw[<- rv.length,zH]
  have hL:s.heap.IsList l p.toArray:=pl.isList;have Z:l≠I:=fun e=>by
   obtain⟨o,E,L,_⟩:=hL;obtain⟨o',e3,e4,_⟩:=it;rw[e,e3]at E;cases E;rw[e4]at L;simp at L
  have W:=Walks.list (prog:=X.prog) (w:=X.w) (A:=X.A.in1) hh I l Z p.toArray;have Y:p.toArray.size=p.length:=zI ..;refine ϔ Ũ ?_;rw[Around.under_plainId Ā _];show Î _ X.A.in1 (Y0 (.ref S)>>=_) _ _ _;refine yE (y? gS rfl ?_);show Î _ X.A.in1 (tryCatch (A! (.ref I)) _>>=_) _ _ _;refine yE (ĸ (W.item (j+1) _ _ _ (by rw[Y];lia) ⟨it,hL⟩ fun u T B hP hst' D=>?_));have hu:p[j+1]?=À u:=by simpa using hP
  obtain⟨n,hn⟩:∃n,ns[j+1]?=À n:=⟨_,zF hlt⟩;have ru:RelV (V.int n) u:=by
   obtain⟨u',E,L⟩:=rv.get (i:=j+1) (x:=V.int n) (by rw[zR,hn];rfl);rw[hu]at E;cases E;exact L
  have V1:Inv X Pw σ H { s with heap:=T,toks:=B }:=Iv.turned (fun b o a e=>D b o (by simpa using a) e) nI K.1 K.2.2.1 K.2.2.2.1 K.2.2.2.2;have F:=D S _ (by simpa using hIS.symm) gS;have hf:∀b∈[I,S],d6 X Pw H b:=fun b a=>by
   rcases zT.mp a with rfl|a
   ·exact⟨nI,K⟩
   ·rw[zM.mp a];exact⟨nS,G⟩
  obtain⟨oI,goI,coI,doI⟩:=hst'.1;have ho:∀b∈[I,S],∃o,T.get? b=À o/\∀v:Option Å,o.data≠.cell v:=fun b a=>by
   rcases zT.mp a with rfl|a
   ·exact⟨_,goI,fun v z=>by rw[doI]at z;cases z⟩
   ·rw[zM.mp a];exact⟨_,F,fun v z=>nomatch z⟩
  have V2:Inv X (Pw++gB [I,S] T) σ H { s with heap:=T,toks:=B }:=V1.pinned hf ho
  have O:∀(f:Tok)(H2:Hp)(N:È),Inv X (Pw++gB [I,S] T) σ H2 N->J (j+1+1) H2->∀(Rf:T!->È->Prop)(Ef:Å->È->Prop),
    (∀C m g k t3 c3,Inv X Pw σ m C->m I=Á->m S=Á->C.heap.get? S=À (Ŵ "list" #[g,.int (kf k) t3] c3)->C.heap.IsListIter I l (j+1+1)->(∃n,ns[k]?=À n/\RelV (V.int n) g)->k<=j+1->J (j+1+1) m->(∀j',j'<=j+1->kf k<=kf j'/\(j'<k->kf k<kf j')) ->
     Rf (.again (.builtin "min.loop" ⟨[.ref I,key,.ref S],kw⟩)) C) ->
    Î (model X.prog X.w) X.A.in1 ((do
     let M <- tryCatch (holding [u,.int (kf (j+1)) f] do
      let d <- richCompare .Lt (.int (kf (j+1)) f) (.int (kf i) tb)
      let yes <- holding [d] (truthy d)
      letGo [d]
      pure yes) fun e=>do
       Q3 S fun _=>#[]
       letGo ([.int (kf (j+1)) f,u]++[vb,.int (kf i) tb].reverse) [e]
       throw e
     if M=Â then do
      Q3 S fun _=>#[u,.int (kf (j+1)) f]
      letGo [.int (kf i) tb,vb]
      again (.builtin "min.loop" ⟨[.ref I,key,.ref S],kw⟩)
     else do
      letGo [u,.int (kf (j+1)) f]
      again (.builtin "min.loop" ⟨[.ref I,key,.ref S],kw⟩)):Y3 T!) Rf Ef N:=by
   intro f H2 N V3 J3 Rf Ef au;have pI:=V3.pin (I,oI) (zK _ (zK _ (dH (by simp) goI)));have pS:=V3.pin (S,Ŵ "list" #[vb,.int (kf i) tb] c) (zK _ (zK _ (dH (by simp) F)));have V4:Inv X Pw σ H2 N:=V3.unpinned;refine yE (ĸ (yR (yE (CmpOf.ints_lt (prog:=X.prog) (w:=X.w) (A:=X.A.in1) (P:=fun i v=>∃t,v=.int (kf i) t) kf (fun i v h=>h) (j+1) i _ _ _ _ _ ⟨f,rfl⟩ ⟨tb,rfl⟩ ?_))));refine yE (yR (ď ?_));refine yE (Ϛ (yF ?_));have it2:N.heap.IsListIter I l (j+1+1):=⟨oI,pI.1,coI,doI⟩;by_cases a:kf (j+1)<kf i
   ·simp only[a,decide_true,if_true]
    have s1:=Ŭ N.heap S (Ģ fun _=>#[u,.int (kf (j+1)) f]);obtain⟨c2,hc2⟩:∃c2,(N.heap.update S (Ģ fun _=>#[u,.int (kf (j+1)) f])).get? S=À (Ŵ "list" #[u,.int (kf (j+1)) f] c2):=⟨_,Z5 pS.1 fun _=>#[u,.int (kf (j+1)) f]⟩;refine yE ?_;refine ϑ pS.1 rfl (yE (Ϛ (yF ?_)));obtain⟨sh,sg,sd,stk,sos⟩:=N;refine au _ H2 u (j+1) f c2 (V4.turned (t':=stk) (fun b o hb'' e=>(s1.2 b hb'').trans e) pS.2.1 G.1 G.2.2.1 G.2.2.2.1 G.2.2.2.2) pI.2.1 pS.2.1 hc2 ⟨oI,(s1.2 I hIS).trans pI.1,coI,doI⟩ ⟨n,hn,ru⟩ (zP _) J3 fun j' hj'=>?_
    by_cases e:j'=j+1
    ·subst e
     exact⟨by lia,fun _=>by lia⟩
    ·have hb1:=hb j' oM
     have hb2:=hb1.1;exact⟨by lia,fun _=>by lia⟩
   ·simp only[a,decide_false,yA,if_false]
    refine yE (Ϛ (yF ?_));refine au _ H2 vb i tb c V4 pI.2.1 pS.2.1 pS.1 it2 U oM J3 fun j' hj'=>?_
    by_cases e:j'=j+1
    ·subst e
     exact⟨by lia,fun _=>by lia⟩
    ·exact hb j' oM
  have au:∀C m g k t3 c3,Inv X Pw σ m C->m I=Á->m S=Á->C.heap.get? S=À (Ŵ "list" #[g,.int (kf k) t3] c3)->C.heap.IsListIter I l (j+1+1)->(∃n,ns[k]?=À n/\RelV (V.int n) g)->k<=j+1->J (j+1+1) m->(∀j',j'<=j+1->kf k<=kf j'/\(j'<k->kf k<kf j')) ->
    ((Code.builtin "min.loop" ⟨[.ref I,key,.ref S],kw⟩).quiet=Â/\ň (model X.prog X.w) X.A (.builtin "min.loop" ⟨[.ref I,key,.ref S],kw⟩) R C):=fun C m g k t3 c3 a1 a2 a3 a4 a5 a6 a7 a8 a9 =>
   ⟨L' Ā _,ih (j+1) k m C g t3 c3 oM hlt a1 a2 a3 a4 a5 a6 a7 a8 a9⟩
  rcases turn (j+1) n u _ _ H hn ru hJ V2 with⟨hk0,hkf,J2⟩|⟨q,hkq,call0⟩
  ·subst hk0
   obtain⟨f,rfl⟩:=ru;refine yE (yF ?_)
   have:=O f H _ V2 J2
   rw[hkf]at this;exact this _ _ au
  ·subst hkq
   refine yE (ĸ (yR (yS call0 (fun x s'' he=>?_) fun _ _ hF=>hF.elim)));obtain⟨y,m,V3,ry,rfl,J3⟩:=he;obtain⟨f,rfl⟩:=ry;exact O f m s'' V3 J3 _ _ au
end
section
variable{X:Cx}{Pw:List (Ç×Obj)}{σ:St}{ko:Option Å}{kws:List (Í×Value)}{l:Ç}{ns:List Int}{H:Hp}{s:È}{Q:VK}{E:Å->È->Prop}
theorem tW(hh:X.A.handled=Á)(kf:Nat->Int)(J:Nat->Hp->Prop)(hl:∀i H,J i H->bJ X.K H l (ns.map V.int))
  (hb:Ž "min" ["key","default"] 0 ⟨[],kws⟩=pure [ko,À .none]) (ha:D! "min" ⟨[.ref l],kws⟩)
  (turn:∀(i:Nat)(n:Int)(u:Å)(pl:List (Ç×Obj))(s:È)(H:Hp),ns[i]?=À n->RelV (V.int n) u->J i H->Inv X (Pw++pl) σ H s->(ko.getD .none=.none/\kf i=n/\J (i+1) H) \/
   ∃q,ko.getD .none=.ref q/\Î (model X.prog X.w) X.A.in1 (call (.ref q) [u]) (EP X (Pw++pl) σ (fun y H'=>y=.int (kf i)/\J (i+1) H')) (fun _ _=>False) s)
  (hQ:∀(i:Nat)(n:Int)(H:Hp),ns[i]?=À n->(∀j,j<ns.length->kf i<=kf j/\(j<i->kf i<kf j))->J ns.length H->Q (.int n) H) (hE:ns=[]->Q .non H)
  (Iv:Inv X Pw σ H s) (J0:J 0 H):Î (model X.prog X.w) X.A (call (.builtin "min") [.ref l] kws) (EP X Pw σ Q) E s:=by
 have C:(toString "min"++toString ".loop":String)="min.loop":=by decide
 obtain⟨G,rv,pl,_⟩:=Iv.list (hl _ _ J0);have U:G.length=ns.length:=by rw[<- rv.length,zH]
 have hL:s.heap.IsList l G.toArray:=pl.isList;obtain⟨ol,B,_⟩:=id hL;have hll:l<s.heap.objs.size:=yI B;refine kmk_tree PySem.F.kind_min PySem.F.plain_min PySem.F.entry_min ha ?_;show Î _ X.A.in1 (Ž "min" ["key","default"] 0 ⟨[],kws⟩>>=_) _ _ s;refine yE (wpAny_of_eq hb ?_);refine yE (yF ?_);refine yE (Đ hL ?_);refine yE (wpAny_newList ?_ (ł _));rw[C];have hS:(s.heap.push { cls:=.type "list_iterator",data:=.fields #[.ref l,.int 0 0] }).objs.size=s.heap.objs.size+1:=size_push' ..;have hlI:l≠s.heap.objs.size:=zU hll;refine yF ⟨L' Ā _,?_⟩;generalize hI:s.heap.objs.size=I at *;generalize hSS:(s.heap.push { cls:=.type "list_iterator",data:=.fields #[.ref l,.int 0 0] }).objs.size=S at *;have nI:H I=Á:=by rw[<- hI];exact Iv.fresh
 have nS:H S=Á:=Iv.PJ.fresh (by rw[hS,hI];lia);have D:I≠S:=by rw[hS];lia
 have gI:((s.heap.push { cls:=.type "list_iterator",data:=.fields #[.ref l,.int 0 0] }).push (Ŵ "list" #[] 0)).get? I=À { cls:=.type "list_iterator",data:=.fields #[.ref l,.int 0 0] }:=by
  rw[<- hI];exact zG _ (zY _ rfl)
 have gS:((s.heap.push { cls:=.type "list_iterator",data:=.fields #[.ref l,.int 0 0] }).push (Ŵ "list" #[] 0)).get? S=À (Ŵ "list" #[] 0):=by
  rw[<- hSS];exact zY _ rfl
 have kp:∀b o,s.heap.get? b=À o->((s.heap.push { cls:=.type "list_iterator",data:=.fields #[.ref l,.int 0 0] }).push (Ŵ "list" #[] 0)).get? b=À o:=fun b o e=>zG _ (zG _ e)
 have g:DS X Pw I:=(Iv.fpOk (b:=I) (ϩ hI) nI).2;have M:DS X Pw S:=(Iv.fpOk (b:=S) (by rw[hS,hI];lia) nS).2;generalize hH1:((s.heap.push { cls:=.type "list_iterator",data:=.fields #[.ref l,.int 0 0] }).push (Ŵ "list" #[] 0))=h1 at gI gS kp;have V1:Inv X Pw σ H { s with heap:=h1,toks:=s.toks }:=Iv.kept kp;have Z:h1.IsList l G.toArray:=⟨ol,kp _ _ B,by obtain⟨o2,N,r2⟩:=hL;rw[B]at N;cases N;exact r2⟩;have O:h1.IsListIter I l 0:=⟨_,gI,rfl,rfl⟩;have W:=Walks.list (prog:=X.prog) (w:=X.w) (A:=X.A.in1) hh I l hlI G.toArray;have P:G.toArray.size=G.length:=zI ..;have au:∀(i:Nat)(n:Int)(u:Å)(H:Hp)(s:È),ns[i]?=À n->(∀j,j<ns.length->kf i<=kf j/\(j<i->kf i<kf j))->J ns.length H->Inv X Pw σ H s->RelV (V.int n) u->EP X Pw σ Q u s :=
  fun i n u H s e1 N e3 e4 e5=>⟨_,H,e4,e5,hQ i n H e1 N e3⟩
 show ň _ X.A (.builtin "min.loop" ⟨[.ref I,ko.getD .none,.ref S],[("default",.none)]⟩) _ { s with heap:=h1,toks:=s.toks };refine ϔ Ũ ?_;rw[Around.under_plainId Ā _];show Î _ X.A.in1 (Y0 (.ref S)>>=_) _ _ _;refine yE (y? gS rfl ?_);show Î _ X.A.in1 (tryCatch (A! (.ref I)) _>>=_) _ _ _;by_cases K:ns=[]
 ·subst K
  refine yE (ĸ (W.done _ _ _ ⟨by rw[P,U];exact O,Z⟩ fun L p k=>?_));refine yE (wpAny_rule (yF ?_));exact⟨.non,H,V1.turned (fun b o a e=>k b o (by simpa using a) e) nI g.1 g.2.2.1 g.2.2.2.1 g.2.2.2.2,rfl,hE rfl⟩
 ·have T:0<ns.length:=List.length_pos_iff.mpr K
  refine yE (ĸ (W.item 0 _ _ _ (by rw[P];lia) ⟨O,Z⟩ fun u L p hP R k=>?_));have hu:G[0]?=À u:=by simpa using hP
  obtain⟨n,K⟩:∃n,ns[0]?=À n:=⟨_,zF T⟩;have ru:RelV (V.int n) u:=by
   obtain⟨u',e1,N⟩:=rv.get (i:=0) (x:=V.int n) (by rw[zR,K];rfl);rw[hu]at e1;cases e1;exact N
  have V2:Inv X Pw σ H { s with heap:=L,toks:=p }:=V1.turned (fun b o a e=>k b o (by simpa using a) e) nI g.1 g.2.2.1 g.2.2.2.1 g.2.2.2.2;have gS':=k S _ (by simpa using D.symm) gS;have hf:∀b∈[I,S],d6 X Pw H b:=fun b a=>by
   rcases zT.mp a with rfl|a
   ·exact⟨nI,g⟩
   ·rw[zM.mp a];exact⟨nS,M⟩
  obtain⟨oI,goI,coI,doI⟩:=R.1;have ho:∀b∈[I,S],∃o,L.get? b=À o/\∀v:Option Å,o.data≠.cell v:=fun b a=>by
   rcases zT.mp a with rfl|a
   ·exact⟨_,goI,fun v z=>by rw[doI]at z;cases z⟩
   ·rw[zM.mp a];exact⟨_,gS',fun v z=>nomatch z⟩
  have V3:Inv X (Pw++gB [I,S] L) σ H { s with heap:=L,toks:=p }:=V2.pinned hf ho;have c:∀(d:Tok)(H2:Hp)(t:È),Inv X (Pw++gB [I,S] L) σ H2 t->J 1 H2 ->
    Î (model X.prog X.w) X.A.in1 ((do
     Q3 S fun _=>#[u,.int (kf 0) d]
     again (.builtin "min.loop" ⟨[.ref I,ko.getD .none,.ref S],[("default",.none)]⟩)):Y3 T!) (fun au m=>match au with
      |.done f=>(match (Except.ok f:Result) with|.ok (.ret v)=>EP X Pw σ Q v m|.ok _=>False|.error e=>E e m)
      |.again c'=>c'.quiet=Â/\ň (model X.prog X.w) X.A c' (fun r m=>match r with|.ok (.ret v)=>EP X Pw σ Q v m|.ok _=>False|.error e=>E e m) m) (fun e m=>E e m) t:=by
   intro d H2 t V4 J2;have pI:=V4.pin (I,oI) (zK _ (zK _ (dH (by simp) goI)));have pS:=V4.pin (S,Ŵ "list" #[] 0) (zK _ (zK _ (dH (by simp) gS')));have V5:Inv X Pw σ H2 t:=V4.unpinned;have s1:=Ŭ t.heap S (Ģ fun _=>#[u,.int (kf 0) d]);obtain⟨c2,hc2⟩:∃c2,(t.heap.update S (Ģ fun _=>#[u,.int (kf 0) d])).get? S=À (Ŵ "list" #[u,.int (kf 0) d] c2):=⟨_,Z5 pS.1 fun _=>#[u,.int (kf 0) d]⟩;refine yE ?_;refine ϑ pS.1 rfl (yF ⟨L' Ā _,?_⟩);obtain⟨sh,sg,sd,stk,sos⟩:=t;refine B6 hh kf J hl turn au g M D _ 0 0 H2 _ u d c2 rfl T (V5.turned (t':=stk) (fun b o Y e=>(s1.2 b Y).trans e) pS.2.1 M.1 M.2.2.1 M.2.2.2.1 M.2.2.2.2) pI.2.1 pS.2.1 hc2 ⟨oI,(s1.2 I D).trans pI.1,coI,doI⟩ ⟨n,K,ru⟩ (zP _) J2 fun j' hj'=>?_
   have e:j'=0:=by lia
   subst e;exact⟨by lia,fun h=>absurd h (y0 _)⟩
  rcases turn 0 n u _ _ H K ru J0 V3 with⟨hk0,hkf,J2⟩|⟨q,hkq,F⟩
  ·rw[hk0]at c ⊢
   obtain⟨d,rfl⟩:=ru;refine yE (yF ?_)
   have:=c d H _ V3 J2
   rw[hkf]at this;exact this
  ·rw[hkq]at c ⊢
   refine yE (ĸ (yR (yS F (fun x s'' he=>?_) fun _ _ hF=>hF.elim)));obtain⟨y,H3,V4,ry,rfl,J3⟩:=he;obtain⟨d,rfl⟩:=ry;exact c d H3 s'' V4 J3
end
end L2
namespace R
open PySem PySem.Spec PyProof.Rows L2
theorem Be:∀{ps:List Í}{us:List Å},ps.Nodup->us.length=ps.length->ps.filterMap (fun n=>((ps.zip us).lookup n).map fun v=>(n,v))=ps.zip us/\ps.filter (fun n=>((ps.zip us).lookup n).isNone)=[]:=by
 have g:∀{ps:List Í}{us:List Å},us.length=ps.length->∀n∈ps,((ps.zip us).lookup n).isSome=Â:=by
  intro ps
  induction ps with
  |nil=>intro us _ n d;cases d
  |cons p ps i =>
   intro us c n d;cases us with
   |nil=>cases c
   |cons u us =>
    rw[ĝ,yN];cases o:n==p with
    |true=>rfl
    |false =>
     rcases zT.mp d with rfl|d
     ·simp at o
     ·exact i (by simpa using c) n d
 intro ps us f c;refine⟨?_,List.filter_eq_nil_iff.mpr fun n d=>by
  have:=g c n d
  cases h:(ps.zip us).lookup n with
  |none=>rw[h]at this;cases this
  |some v=>simp⟩
 have k:∀(a:List Í)(b:List Å),a.Nodup->b.length=a.length->∀l:List (Í×Value),(∀q∈a,l.lookup q=(a.zip b).lookup q)->a.filterMap (fun n=>(l.lookup n).map fun v=>(n,v))=a.zip b:=by
  intro a
  induction a with
  |nil=>intro b _ _ l _;rfl
  |cons q a i =>
   intro b f c l h;cases b with
   |nil=>cases c
   |cons v b =>
    have j:=h q z7;rw[ĝ,yN]at j;simp only[beq_self_eq_true]at j;rw[ā,j];rw[Ŀ]at f
    have:=i b f.2 (by simpa using c) l fun p m=>by
     have:=h p (zQ _ m)
     rw[ĝ,yN]at this;have ne:(p==q)=Ä:=by
      have:p≠q:=fun e=>f.1 (e▸m)
      simpa using this
     rw[ne]at this;exact this
    simp only[Ì];rw[this];rfl
 exact k ps us f c _ fun _ _=>rfl
noncomputable def plainA(a:Ϧ):Bool:=a.posonlyargs.isEmpty&&a.vararg.isNone&&a.kwonlyargs.isEmpty&&a.kwarg.isNone
theorem bind_plain(g:plainA fd.params=Â)(hd:fd.defaults=.none)(m:(fd.params.args.map (·.arg)).Nodup)(i:us.length=(fd.params.args.map (·.arg)).length):C! fd ⟨us,[]⟩=pure ((fd.params.args.map (·.arg)).zip us):=by
 obtain⟨l,j⟩:=Be m i;obtain⟨_,_,⟨_,d,_,_,_⟩,_,_,_,_,t,_,_,_,_,_,_,_⟩:=fd;unfold plainA at g;simp only[zC,ç,Option.isNone_iff_eq_none]at g;obtain⟨⟨⟨r,q⟩,p⟩,o⟩:=g;dsimp only at r q p o hd m i l j ⊢;cases r;cases q;cases p;cases o;cases hd;have k:∀{s:Type}{c:Prop} [Decidable c] {a b x:s},¬c->b=x->(if c then a else b)=x:=fun h e=>(yG h).trans e
 unfold C!;show(if(decide (us.length > (d.map (·.arg)).length)&&Â)=Â then _ else _)=_;refine k (by simp[i]) ?_;show(if(!(((d.map (·.arg)).take ((d.map (·.arg)).length-(([]:List Å).drop (0-(d.map (·.arg)).length)).length)).filter (fun n=>(((d.map (·.arg)).zip us).lookup n).isNone)).isEmpty)=Â then _ else _)=_;refine k (by rw[X!,V?,Y6,ē,j];decide) ?_;show forIn (((d.map (·.arg)).drop ((d.map (·.arg)).length-(([]:List Å).drop (0-(d.map (·.arg)).length)).length)).zip (([]:List Å).drop (0-(d.map (·.arg)).length))) ((d.map (·.arg)).zip us) _>>=_=_;rw[X!,List.zip_nil_right];exact congrArg (pure (f:=Y3)) ((congrArg (List.filterMap _) (ô _)).trans l)
end R
namespace L2
open PySem PySem.Spec PyProof.Rows
def jU(mg:Í->Option Å)(base:æ):Prop:=∃a o,mg "__builtins__"=À (.ref a)/\a≠Ę/\a≠Ð/\base.get? a=À o/\o.cls=.type "module"/\o.dict=À Ę/\o.data=.plain
noncomputable def gG(c:Ç)(q:Í):HO:=.ext fun h=>h.CodeRec (.ref c) q
section
variable{X:Cx}{Pw:List (Ç×Obj)}{σ:St}{H:Hp}{s:È}
theorem Inv.grown{t':Nat}(I:Inv X Pw σ H s)(a:H P=À (.tbl ps))(m:Z? P s.heap h')(x:s.heap.objs.size<=c')(E:h'.CodeRec (.ref c') q)
  (F:h'.get? P=À (S8 (ps++more))):Inv X Pw σ (ag (ag H P (.tbl (ps++more))) c' (gG c' q)) { s with heap:=h',toks:=t' }:=by
 have A:s.heap.get? P=À (S8 ps):=I.PJ P _ a;have w:H c'=Á:=I.PJ.fresh x;have y:P≠c':=zU (zJ (yI A) x);have h:∀b u,H b=À u->b≠c':=fun b u e z=>by rw[z,w]at e;cases e
 have f:∀b,b≠P->b≠c'->ag (ag H P (.tbl (ps++more))) c' (gG c' q) b=H b:=fun b j g=>by rw[ad g,ad j]
 refine I.un ⟨fun b o e n _ _=>m b o (fun z=>by rw[z,a]at n;cases n) e,fun b o e n _ _=>⟨o.slots,m b o (fun z=>by rw[z,a]at n;cases n) e⟩,fun b o e n _=>?_,fun b o e _=>?_,fun b J e=>?_,fun b o u e=>?_,fun b K e=>?_⟩ fun b u e=>?_
 ·rw[f b (fun z=>by rw[z,a]at n;cases n) (zU (zJ (yI e) x))];exact n
 ·by_cases i:b=P
  ·exact⟨_,i▸F⟩
  ·exact⟨o,m b o i e⟩
 ·rw[f b (fun z=>by rw[z,a]at e;cases e) (h _ _ e)];exact e
 ·rw[f b (fun z=>by rw[z,a]at e;cases e) (h _ _ e)];exact e
 ·by_cases i:b=P
  ·subst i
   rw[a]at e;cases e;exact⟨more,by rw[ad y,ar]⟩
  ·exact⟨#[],by rw[f b i (h _ _ e),e];simp⟩
 ·by_cases j:b=c'
  ·subst j
   rw[ar]at e;cases e;obtain⟨c,p,D,t,C,B,G⟩:=id E;cases C;refine⟨E,⟨p,B⟩,fun j g r k=>?_⟩;obtain⟨c,p,D,t,C,B,G⟩:=r;cases C;exact⟨_,p,D,t,rfl,k _ B,G⟩
  ·rw[ad j]at e
   by_cases g:b=P
   ·subst g
    rw[ar]at e;cases e;exact F
   ·rw[ad g]at e
    refine(I.PJ b u e).stay (fun d v hd q=>m d v (fun z=>?_) q) (fun d q=>?_) fun d J q=>?_
    ·rcases hd with l|l
     ·exact g (l.symm.trans z)
     ·rw[z,a]at l;cases l
    ·rw[f d (fun z=>by rw[z,a]at q;cases q) (h _ _ q)];exact q
    ·rw[f d (fun z=>by rw[z,a]at q;cases q) (h _ _ q)];exact q
noncomputable abbrev xG(mg:Í->Option Å)(qual:Í)(a:Ϧ)(b:Ï)(scope:Ġ)(cl:List (Í×Addr))(d c:Å):Y5 :=
 { cls:=.type "function",data:=.func (kla_fn "<lambda>" qual a b scope cl ((mg "__name__").getD .none) d c) }
def gz(H:Hp)(P:Ç)(pos:Ĝ)(q:Í):Prop:=∃a,H P=À (.tbl a)/\TriplesOk a.toList/\(codeAmong pos a.toList=Á\/∃c,codeAmong pos a.toList=À (.ref c)/\H c=À (gG c q))
theorem Ch(I:Inv X Pw σ H s)(l:W4 params X.env=([],[]))(hcode:X.env.code=.ref c)
  (C:X? X.base c P) (B:jU X.mg X.base) (m:W5 scope X.env=pure cl) (T:gz H P pos (X.env.qual++"<lambda>"))
  (h:∀f c' ctv H' s',(H'=H\/∃ps more,H P=À (.tbl ps)/\H c'=Á/\P≠c'/\H'=ag (ag H P (.tbl (ps++more))) c' (gG c' (X.env.qual++"<lambda>")))->gz H' P pos (X.env.qual++"<lambda>")->H' c'=À (gG c' (X.env.qual++"<lambda>")) ->
   Inv X (Pw++[(f,xG X.mg (X.env.qual++"<lambda>") params body scope cl (.ref c') ctv)]) σ H' s'->Q (.ref f) s') :
  Î (model X.prog X.w) X.A (eval (.Lambda params body scope pos) X.env) Q E s:=by
 refine kla_eval l ?_;obtain⟨ps,r,i,x⟩:=T;have y:s.heap.get? P=À (S8 ps):=I.PJ P _ r;have G:s.heap.Ns Ð X.mg:=I.mod.glob.keeps I.bk;have F:Ð≠P:=fun q=>by
  obtain⟨o,es,ep,e,hd,_⟩:=G;rw[q,y]at e;cases e;cases hd
 obtain⟨O,R,b1,b2,b3,V,b5,b6,b7⟩:=B;have L:O≠P:=fun q=>by
  have:=(I.bs O R V).2
  rw[q,r]at this;cases this
 have U:s.heap.BuiltinsAt X.mg P:=⟨O,R,b1,b2,b3,L,I.bk _ _ V,b5,b6,b7⟩;have Y:X? s.heap c P:=C.keeps I.bk
 have last:∀(A:Hp)(g:æ)(a:Nat)(o:Y5),Inv X Pw σ A { s with heap:=g,toks:=a }->(∀v,o.data≠.cell v)->o.isFreed=Ä->Inv X (Pw++[(g.objs.size,o)]) σ A { s with heap:=g.push o,toks:=a }:=by
  intro A g a o J hd K;have W:Inv X Pw σ A { s with heap:=g.push o,toks:=a }:=J.kept fun b u e=>zG _ e
  have N:=J.fpOk (b:=g.objs.size) (zP _) J.fresh;refine W.pins_of fun p k=>?_
  rcases zZ.mp k with k|k
  ·exact W.pin p (zK _ k)
  ·rw[zM.mp k]
   exact⟨zY _ K,N.1,N.2.1,N.2.2.1,hd⟩
 rcases x with S|⟨c',x,w⟩
 ·refine kla_makeFunction (mg:=X.mg) m I.ok.glob G hcode Y y i S F U fun c' ctv M t w d Z j D=>?_
  have n:P≠c':=zU (zJ (yI y) d);have J:=I.grown (t':=t) r w d j D;have e1:ag (ag H P (.tbl (ps++#[z? pos.line,z? pos.col,.ref c']))) c' (gG c' (X.env.qual++"<lambda>")) P=À (.tbl (ps++#[z? pos.line,z? pos.col,.ref c'])):=by rw[ad n,ar]
  refine h _ c' ctv _ _ (.inr ⟨ps,_,r,I.PJ.fresh d,n,rfl⟩) ⟨_,e1,?_,.inr ⟨c',?_,ar⟩⟩ ar (last _ M t _ J (fun v z=>nomatch z) rfl)
  ·rw[K!];exact TriplesOk_snoc _ _ _ _ i
  ·rw[K!];exact codeAmong_snoc _ i S
 ·refine kla_makeFunctionHit (mg:=X.mg) m I.ok.glob G hcode Y y i x U fun ctv M t hk d=>?_
  exact h _ c' ctv H _ (.inl rfl) ⟨ps,r,i,.inr ⟨c',x,w⟩⟩ w (last H M t _ (I.kept hk) (fun v z=>nomatch z) rfl)
noncomputable def uF(X:Cx)(N':List Í)(scope:Ġ)(cl:List (Í×Addr))(f:Ç)(qual:Í)(cd:Å)(A:Ć)(s:È)(H:Hp):Cx :=
 { X with N:=N',s₀:=s,H₀:=H,env:=W3 scope s.heap.objs.size Ð cl (qual++".<locals>.") (À f) cd Á Ę,outer:=X.stack,stack:=W3 scope s.heap.objs.size Ð cl (qual++".<locals>.") (À f) cd Á Ę::X.stack,
          A:=A.deeper (W3 scope s.heap.objs.size Ð cl (qual++".<locals>.") (À f) cd Á Ę),ex:=[],fn:=fun _=>Ä,calm:=Â,pn:=[],xe:=fun _ _=>False }
structure yd(X:Cx)(N':List Í)(scope:Ġ)(x:Í):Prop where
 cy:j3 X N' scope
 co:scope.isCoroutine=Ä
 gen:scope.isGenerator=Ä
 len:N'.length=X.N.length+1
 own:N'[X.N.length]?=À x
 loc:scope.names.lookup x=À .local
 nc:∀y∈scope.names,y.2≠.cell
theorem Cz{t':Nat}(T:yd X N' scope x)(I:Inv X Pw σ H s)(J:A.frames=À X.stack)(Z:A.handled=Á)
  (g:∀p∈cl,X.env.cells.lookup p.1=À p.2) (G:∀x,(x,Ø)∈scope.names->∃c,(x,c)∈cl) (r:RelV v u)
  (W:h'.Ns s.heap.objs.size (fun y=>[(x,u)].reverse.lookup y)) (S:İ s.heap.objs.size (s.heap.push { cls:=.type "frame",data:=.dict #[] }) h') :
  Inv (uF X N' scope cl f qual cd A s H) [] (σ++[À v]) H { s with heap:=h',toks:=t' }:=by
 have d:∀b o,s.heap.get? b=À o->h'.get? b=À o:=fun b o e=>(S.2 b (zU (yI e))).trans (zG _ e)
 have look:∀x,(x,Ø)∈scope.names->∃c,cl.lookup x=À c/\X.env.cells.lookup x=À c:=fun x R=>by
  obtain⟨c,C⟩:=G x R;obtain⟨N,B⟩:=gk C;exact⟨N,B,g _ (mem_of_lookup B)⟩
 have j:∀ b:Ç,b ∉ (uF X N' scope cl f qual cd A s H).ex:=fun b z=>absurd (show b ∈ ([]:List Ç) from z) (by simp)
 refine⟨⟨I.ok.mod,T.cy.kind,rfl,rfl,zP _,fun y z c h1 h2=>?_,fun y l=>?_,fun y c h=>(by cases h),fun _=>Z,Around.frames_deeper J,.inr ⟨rfl,rfl⟩,fun b z=>absurd z (j b),I.bs,z5 I.ok.bsz I.sz,fun b _ _=>j b,fun b z=>absurd z (j b),I.stack,I.stkFree⟩,
  rfl,I.bare,Un.kept d,⟨_,W,fun i y w q n e3=>?_⟩,fun y c h=>?_,I.PJ.fresh (zP _),fun y c h=>?_,fun p U=>absurd (show p∈([]:List (Ç×Obj)) from U) (by simp),I.PJ.kept d,?_⟩
 ·exact I.ok.inj y z c (g _ (mem_of_lookup h1)) (g _ (mem_of_lookup h2))
 ·have l:scope.names.lookup y=À .cell\/scope.names.lookup y=À .free:=l
  rcases l with l|l
  ·exact absurd rfl (T.nc _ (mem_of_lookup l))
  ·obtain⟨c,C,_⟩:=look y (mem_of_lookup l)
   exact⟨c,C⟩
 ·have M:=I.len
  rcases yT i σ.length with F|F
  ·rw[zN F]at n
   have t:∃k,(y,k)∈scope.names:=by
    rcases e3 with h|h|h<;>exact⟨_,mem_of_lookup h⟩
   have a:=T.cy.hid i y oM q t;have eX:=T.cy.same i y oM q a;have kX:=T.cy.free y a;obtain⟨m,V,Y⟩:=I.loc;obtain⟨O,P,lk⟩:=Y i y w eX n (by rcases kX with h|h;exact .inr (.inl h);exact .inr (.inr h));refine⟨O,P,.inr ⟨.inr (di T.cy.nd a),?_⟩⟩;rcases lk with⟨L,_⟩|⟨_,c,C,z⟩
   ·rcases kX with h|h<;>rw[h]at L<;>cases L
   ·obtain⟨N,Q,K⟩:=look y a
    rw[C]at K;cases K;exact⟨c,Q,z.keeps d⟩
  ·rw[z6 F]at n
   have E:i-σ.length=0:=by
    rcases Nat.eq_zero_or_pos (i-σ.length) with z|z
    ·exact z
    ·rw [ë (show [À v].length <= _ from z)] at n;cases n
   rw[E]at n;cases n;have D:i=X.N.length:=by lia
   subst D;have q:N'[X.N.length]?=À y:=q;rw[T.own]at q;cases q;exact⟨u,r,.inl ⟨T.loc,by simp⟩⟩
 ·obtain⟨w,z⟩:=I.cell y c (g _ (mem_of_lookup h))
  exact⟨w,z.keeps d⟩
 ·exact I.freeC y c (g _ (mem_of_lookup h))
 ·show(σ++[À v]).length=N'.length
  rw[zV,I.len,T.len];rfl
theorem Ci(T:yd X N' scope x)(I:Inv X Pw σ H s)(m:A.frames=À X.stack)(K:A.handled=Á)
  (hd:A.depth<Ϝ) (n:∀p∈cl,X.env.cells.lookup p.1=À p.2) (l:∀x,(x,Ø)∈scope.names->∃c,(x,c)∈cl) (F:R.plainA params=Â) (a:params.args.map (·.arg)=[x])
  (L:s.heap.get? f=À (xG X.mg qual params body scope cl (.ref c') ctv)) (D:s.heap.CodeRec (.ref c') qual)
  (he:∀s H,PE (uF X N' scope cl f qual (.ref c') A s H) body te) (r:RelV v u) (h:te (σ++[À v]) H Q) :
  Î (model X.prog X.w) A (call (.ref f) [u]) (EP X Pw σ Q) E s:=by
 refine z! (kla_callFunE hd L rfl T.co T.gen rfl D ?_);have M:C! (kla_fn "<lambda>" qual params body scope cl ((X.mg "__name__").getD .none) (.ref c') ctv) ⟨[u],[]⟩=pure [(x,u)]:=by
  have:=R.bind_plain (fd:=kla_fn "<lambda>" qual params body scope cl ((X.mg "__name__").getD .none) (.ref c') ctv) (us:=[u]) F rfl (by show(params.args.map (·.arg)).Nodup;rw[a];simp) (by show _=(params.args.map (·.arg)).length;rw[a];rfl)
  rw[this];show pure ((params.args.map (·.arg)).zip [u])=_;rw[a];rfl
 rw[M];refine yF ?_;refine wpAny_newFunctionEnv (around:=Á) (fun y j=>T.nc y j) (fun y j=>by rw[zM.mp j];exact T.loc) (fun t G g=>?_) T.cy.kind;have g:İ s.heap.objs.size (s.heap.push { cls:=.type "frame",data:=.dict #[] }) t:=g;have d:∀b o,s.heap.get? b=À o->t.get? b=À o:=fun b o e=>(g.2 b (zU (yI e))).trans (zG _ e)
 refine⟨I.nolimit.keeps d,kla_codeExpr ?_⟩;have J:=Cz (cd:=.ref c') (f:=f) (qual:=qual) (t':=s.toks+[(x,u)].length) T I m K n l r G g;refine yS (he s H [] _ (σ++[À v]) H Q J h) (fun w B k=>?_) fun e B z=>z.elim
 obtain⟨y,N,i,C,q⟩:=k;exact I.after ⟨y,N,i.os,i.bare,i.base,i.PJ,C,q⟩
end
theorem At(h:iN k v=Â):RelV (kV k) v:=by
 cases k with
 |inl i =>
  cases v <;> first | (cases h;done) | skip
  rename_i j t;have e:j=i:=by simpa [iN,D?] using h
  subst e;exact⟨t,rfl⟩
 |inr x =>
  cases v <;> first | (cases h;done) | skip
  rename_i y t;have e:y=x:=by simpa [iN,i!] using h
  subst e;exact⟨t,rfl⟩
theorem Fm{a:Type}{Px:List (a×V)}{vs:List (a×Value)}(r:KV Px vs):Px.map (·.1)=vs.map (·.1):=by
 induction r with
 |nil=>rfl
 |cons h t b=>simp only[zO];rw[h.1,b]
def Mt(d:Ç)(o:Y5)(Px:List (aU×V)):It :=
 ⟨fun i H=>H d=À (.frz o (.dK Px))/\i<Px.length,fun i H x a=>a=H/\(Px.map fun p=>kV p.1)[i]?=À x,fun i H=>H d=À (.frz o (.dK Px))/\Px.length<=i⟩
theorem uu{b:Nat}(I:Inv X Pw σ H s)(h:H d=À (.frz o (.dK Px)))(a:o.data=.dict es b) :
  ∃vs,KV Px vs/\s.heap.DictAt (cg X.prog X.w) d vs b:=by
 obtain⟨e,_,_,vs,r,l,g,i,c,k,f,j⟩:=I.PJ d _ h;rw[e]at c;cases c;rw[a]at f;cases f;exact⟨vs,r,o,es,e,k,a,j⟩
theorem yn{P:Ò}{w:Ù}{K:Ü}{Y:Ï}{d:Ç}{o:Y5}{Px:List (aU×V)}{es:Array DictEntry}{U:Nat}(it:Ç)(hd:o.data=.dict es U):j2 P w K Y (Mt d o Px) [it] it (fun i h=>h.IsKeyIter it d i Px.length U) where
 mem:=by simp
 obj:=fun i h a b g=>by
  obtain rfl:b=it:=by simpa using g
  obtain⟨o,e,c,d⟩:=a;exact⟨o,e,fun v z=>by rw[d]at z;cases z⟩
 keep:=fun i h y a k=>let⟨o,e,r⟩:=a;⟨o,k it (by simp) _ e,r⟩
 item:=by
  intro X D C F T i W s R H E I x a f;subst D C F;obtain⟨f,hi⟩:=f;obtain⟨l,r,O⟩:=uu I f hd;have u:Px.length=l.length:=Paired.length r;obtain⟨N,M,f2,L,J,G⟩:=x it (by simp);obtain⟨q,S⟩:∃q,l[i]?=À q:=⟨_,zF oM⟩;have j:Px[i]?.map (·.1)=l[i]?.map (·.1):=by
   rw[<- zR,<- zR,Fm r]
  rw[u]at a;refine wpAny_pyNext_dict_item a O (k:=q.1) (v:=q.2) S fun B y t m Z=>?_
  have I1:Inv X W R H { s with heap:=y }:=I.turned (t':=s.toks) (fun b o g e=>(Z.2 b g).trans e) N M L J G;obtain⟨o',e,c,dd⟩:=id m;refine⟨B,rfl,mY (s:={ s with heap:=y }) e c dd dC ⟨kV q.1,H,I1,At t,⟨rfl,?_⟩,by rw[u];exact m,fun b g=>(x b g).1⟩⟩;rw[zR];rw[S]at j;cases n:Px[i]? with
  |none=>rw[n]at j;cases j
  |some p=>rw[n]at j;simp at j;simp[j]
 done:=by
  intro X D C F T i W s R H E I x a f;subst D C F;obtain⟨f,hi⟩:=f;obtain⟨l,r,O⟩:=uu I f hd;have u:Px.length=l.length:=Paired.length r;obtain⟨N,M,f2,L,J,G⟩:=x it (by simp);rw[u]at a;exact wpAny_pyNext_dict_end (I.ok.hd T) a O (ë oM) fun y eb=>⟨rfl,I.turned (t':=s.toks) (fun b o g e=>eb b o g e) N M L J G⟩
 self:=fun A i s Q E a h=>wpAny_pyIter_keyiter a h
section
variable{X:Cx}{Pw:List (Ç×Obj)}{σ:St}{H:Hp}{s:È}{d:Ç}{Px:List (aU×V)}{o:Y5}
theorem Inv.frzD(I:Inv X Pw σ H s)(h:H d=À (.dK Px))(e:s.heap.get? d=À o):Inv X Pw σ (ag H d (.frz o (.dK Px))) { s with toks:=s.toks }:=by
 have ne:∀b u,H b=À u->(∀Px,u≠.dK Px)->b≠d:=fun b u q n z=>by rw[z,h]at q;cases q;exact n _ rfl
 refine I.un (h':=s.heap) ⟨fun b o e _ _ _=>e,fun b o e _ _ _=>⟨o.slots,e⟩,fun b o e n _=>by rw[ad (fun z=>by rw[z,h]at n;cases n)];exact n,fun b o e _=>⟨o,e⟩,fun b g q=>by rw[ad (ne b _ q fun _ z=>nomatch z)];exact q,fun b o u q=>by rw[ad (ne b _ q fun _ z=>nomatch z)];exact q,
  fun b i q=>⟨#[],by rw[ad (ne b _ q fun _ z=>nomatch z),q];simp⟩⟩ fun b u q=>?_
 have a:∀b u,H b=À u->ObjOk X.prog X.w (ag H d (.frz o (.dK Px))) s.heap b u:=fun b u q=>(I.PJ b u q).stay (fun _ _ _ z=>z) (fun c z=>by rw[ad (ne c _ z fun _ y=>nomatch y)];exact z) fun c g z=>by rw[ad (ne c _ z fun _ y=>nomatch y)];exact z
 by_cases f:b=d
 ·subst f;rw[ar]at q;cases q;exact⟨e,a _ _ h⟩
 ·rw[ad f]at q;exact a b u q
theorem Inv.thawD(I:Inv X Pw σ H s)(h:H d=À (.frz o (.dK Px)))(t:∀o u,X.H₀ d≠À (.frz o u)):Inv X Pw σ (ag H d (.dK Px)) s:=by
 have ne:∀b u,H b=À u->(∀o l,u≠.frz o l)->b≠d:=fun b u q n z=>by rw[z,h]at q;cases q;exact n _ _ rfl
 have f:∀b,H b=Á->b≠d:=fun b q z=>by rw[z,h]at q;cases q
 have w:HOk X.prog X.w (ag H d (.dK Px)) s.heap:=fun b u q=>by
  have i:∀b u,H b=À u->ObjOk X.prog X.w (ag H d (.dK Px)) s.heap b u:=fun b u q=>(I.PJ b u q).stay (fun _ _ _ z=>z) (fun c z=>by rw[ad (ne c _ z fun _ _ y=>nomatch y)];exact z) fun c g z=>by rw[ad (ne c _ z fun _ _ y=>nomatch y)];exact z
  by_cases k:b=d
  ·subst k;rw[ar]at q;cases q;exact(i _ _ h).2
  ·rw[ad k]at q;exact i b u q
 refine⟨I.ok,I.os,I.bare,⟨I.base.keep,I.base.slot,fun b o e n j=>by rw[ad (f b (I.base.free b o e n j))];exact I.base.free b o e n j,I.base.there,fun b g e=>by rw[ad (ne b _ (I.base.tups b g e) fun _ _ y=>nomatch y)];exact I.base.tups b g e,
  fun b o u e=>by rw[ad (fun z=>t o u (by rw[<- z];exact e))];exact I.base.frzs b o u e,fun b m e=>?_⟩,I.loc,I.cell,by rw[ad (f _ I.free)];exact I.free,fun x c e=>by rw[ad (f _ (I.freeC x c e))];exact I.freeC x c e,
  fun p r=>by obtain⟨a1,a2,v⟩:=I.pin p r;exact⟨a1,by rw[ad (f _ a2)];exact a2,v⟩,w,I.len⟩
 obtain⟨a,q⟩:=I.base.tbls b m e;exact⟨a,by rw[ad (ne b _ q fun _ _ y=>nomatch y)];exact q⟩
end
section
variable{X:Cx}{tg iter:Ï}{te:TE}
def KP(n0:Hp)(te:TE):TI:=fun c H R=>te c H fun x b=>∃d a,x=.ref d/\b d=À (.dK a)/\∀o,(∀o u,n0 d≠À (.frz o u))->R (Mt d o a) (ag b d (.frz o (.dK a)))
theorem EW(i:PE X iter te):PI X tg iter (KP X.H₀ te):=by
 intro r s l H R I h;refine aB (i r s l H _ I h) fun v a g=>?_
 obtain⟨x,F,k,r1,d,Px,e,hd,q⟩:=g;subst e;cases r1;obtain⟨hz,c,m,t,f,A,B,n,D,p,C⟩:=k.PJ d _ hd;have i:Px.length=m.length:=Paired.length t;have w:∀o u,X.H₀ d≠À (.frz o u):=fun o u z=>by
  have:=k.base.frzs d o u z
  rw[hd]at this;cases this
 have j:=k.frzD hd n;refine wpAny_pyIter_dict c (knd:=cg X.prog X.w) ⟨f,A,n,D,p,C⟩ ?_;have E:Inv X r l (ag F d (.frz f (.dK Px))) { a with heap:=a.heap.push { cls:=.type "dict_keyiterator",data:=.fields #[.ref d,.int 0 0,.int m.length 0,.int B 0] },toks:=a.toks }:=j.kept fun b o e=>zG _ e
 refine⟨a.heap.objs.size,[a.heap.objs.size],_,_,_,rfl,E,yn (Px:=Px) _ p,⟨_,zY _ rfl,rfl,by rw[i];rfl⟩,fun b y=>?_,q f w⟩;obtain rfl:b=a.heap.objs.size:=by simpa using y
 exact j.fpOk (zP _) j.fresh
def sG(n0:Hp)(D:lj):lj:={ nx:=fun b H=>∃d o a,H d=À (.frz o (.dK a))/\(∀o u,n0 d≠À (.frz o u))/\D.nx b (ag H d (.dK a)),rt:=fun v H=>∃d o a,H d=À (.frz o (.dK a))/\(∀o u,n0 d≠À (.frz o u))/\D.rt v (ag H d (.dK a)) }
theorem EN{st:ľ}{t:TS}(h:PS X st t):PS X st (fun D σ H=>t (sG X.H₀ D) σ H):=by
 intro g s σ H D I q;refine aB (h g s σ H (sG X.H₀ D) I q) fun f j b=>?_
 cases f with
 |next=>obtain⟨a,i,J,d,o,c,e,n,q⟩:=b;exact⟨a,_,J.thawD e n,q⟩
 |ret u=>obtain⟨v,a,i,J,r,d,o,c,e,n,q⟩:=b;exact⟨v,a,_,J.thawD e n,r,q⟩
 |brk=>obtain⟨_,_,_,q⟩:=b;exact q.elim
 |cont=>obtain⟨_,_,_,q⟩:=b;exact q.elim
end
end L2
namespace R
open PySem L2
theorem e7{α g f e:Sort _}{A B C:α->g->f->e->Prop}{G:Prop}(h:∃a b c d,A a b c d/\B a b c d/\C a b c d)(k:∀a b c d,A a b c d->B a b c d->C a b c d->G):G:=by obtain⟨a,b,c,d,x,y,z⟩:=h;exact k a b c d x y z
theorem i7{α g f e:Sort _}{A B C:α->g->f->e->Prop}{a:α}{b:g}{c:f}{d:e}(x:A a b c d)(y:B a b c d)(z:C a b c d):∃a b c d,A a b c d/\B a b c d/\C a b c d:=⟨a,b,c,d,x,y,z⟩
inductive AV where
 |non|bl (b:Bool)|int (i:Int)|str (x:Í)|ref (k:Nat)|tup (xs:List AV)|fz (xs:List AV)
inductive PC where
 |lst (xs:List AV)|al (t:AV)|dK (Px:List (aU×AV))|dT (Px:List (List aU×AV))|ins (c:Í) (fs:List (Í×AV))|wk (Px:List (aU×AV))
abbrev aa:=List PC
abbrev Sl:=List (Option AV)
abbrev Pr:=Ç->Prop
class Pz where
 tb:List (Ç×Pos×Str)
structure Gm where
 K:Ü
 mg:Í->Option Å
def FLk(mg:Gm)(P:Pr)(H:Hp)(a:Ç)(vs:List V):Prop:=(P a/\Rd H a (.lst vs))\/∀b,bJ mg.K b a vs
mutual
def RA(mg:Gm)(P:Pr)(H:Hp)(φ:List Ç):AV->V->Prop
 |.non,v=>v=.non
 |.bl b,v=>v=.bl b
 |.int i,v=>v=.int i
 |.str x,v=>v=.str x
 |.ref k,v=>∃a,φ[k]?=À a/\v=.ref a
 |.tup xs,v=>∃a vs,v=.ref a/\P a/\H a=À (.tup vs)/\PF mg P H φ xs vs
 |.fz xs,v=>∃a vs,v=.ref a/\FLk mg P H a vs/\PF mg P H [] xs vs
def PF(mg:Gm)(P:Pr)(H:Hp)(φ:List Ç):List AV->List V->Prop
 |[],vs=>vs=[]
 |x::xs,vs=>∃v ws,vs=v::ws/\RA mg P H φ x v/\PF mg P H φ xs ws
end
theorem aZ:PF mg P H φ [] []:=by simp only[PF]
theorem aR(h:RA mg P H φ x v)(t:PF mg P H φ xs vs):PF mg P H φ (x::xs) (v::vs):=by simp only[PF];exact⟨v,vs,rfl,h,t⟩
structure Frm(P:Pr)(φ:List Ç)(H:Hp)(P':Pr)(φ':List Ç)(H':Hp):Prop where
 ext:∀a,P a->P' a/\H' a=H a
 new:∃more,φ'=φ++more/\∀a∈more,H a=Á
 keep:∀a,H a≠Á->a∉φ->(∀ps,H a≠À (.tbl ps))->H' a=H a
 pn:∀a,P' a->P a\/H a=Á\/a∈φ
 sm:∀a,H a≠Á->H' a≠Á
 fz:∀a o u,H a=À (.frz o u)->H' a=À (.frz o u)
theorem Frm.refl:Frm P φ H P φ H:=⟨fun _ h=>⟨h,rfl⟩,⟨[],by simp,by simp⟩,fun _ _ _ _=>rfl,fun _ h=>.inl h,fun _ h=>h,fun _ _ _ h=>h⟩
theorem Frm.trans{P p n:Pr}{φ d c:List Ç}{H k q:Hp}(a:Frm P φ H p d k)(b:Frm p d k n c q):Frm P φ H n c q:=by
 obtain⟨s,j,i⟩:=a.new;obtain⟨m2,t,r⟩:=b.new;have l:∀x,k x=Á->H x=Á:=fun x h=>by
  cases e:H x with
  |none=>rfl
  |some o=>exact absurd h (a.sm x (by rw[e];exact fun z=>nomatch z))
 refine⟨fun x h=>?_,⟨s++m2,by rw[t,j,yM],fun x h=>?_⟩,fun x f g m=>?_,fun x h=>?_,fun x h=>b.sm x (a.sm x h),fun x o u h=>b.fz x o u (a.fz x o u h)⟩
 ·obtain⟨f,e⟩:=a.ext x h
  obtain⟨g,v⟩:=b.ext x f;exact⟨g,v.trans e⟩
 ·rcases zZ.mp h with h|h
  ·exact i x h
  ·exact l x (r x h)
 ·have e:=a.keep x f g m
  refine(b.keep x (by rw[e];exact f) (fun z=>?_) (by rw[e];exact m)).trans e;rw[j]at z;rcases zZ.mp z with z|z
  ·exact g z
  ·exact f (i x z)
 ·rcases b.pn x h with h|h|h
  ·exact a.pn x h
  ·exact .inr (.inl (l x h))
  ·rw[j]at h
   rcases zZ.mp h with h|h
   ·exact .inr (.inr h)
   ·exact .inr (.inl (i x h))
theorem Rd.at(h:Rd H a u)(e:H' a=H a):Rd H' a u:=by
 rcases h with h|⟨o,h⟩
 ·exact .inl (e.trans h)
 ·exact .inr ⟨o,e.trans h⟩
theorem FLk.mono{mg:Gm}{P b:Pr}{H c:Hp}{a:Ç}{vs:List V}(h:FLk mg P H a vs)(x:∀a,P a->b a/\c a=H a):FLk mg b c a vs:=by
 rcases h with⟨p,r⟩|h
 ·exact .inl ⟨(x a p).1,Rd.at r (x a p).2⟩
 ·exact .inr h
theorem FLk.sq(h:FLk mg P H a vs):bJ mg.K H a vs:=by
 rcases h with⟨_,r⟩|h
 ·exact .inl r
 ·exact h H
section
variable{mg:Gm}{P P':Pr}{H H':Hp}{φ φ':List Ç}
mutual
theorem RA.mono'(x:∀a,P a->P' a/\H' a=H a):∀{t:AV}{v:V}{φ φ':List Ç},(∀(k:Nat) a,φ[k]?=À a->φ'[k]?=À a)->RA mg P H φ t v->RA mg P' H' φ' t v
 |.non,_,_,_,_,h=>by simp only[RA]at h ⊢;exact h
 |.bl _,_,_,_,_,h=>by simp only[RA]at h ⊢;exact h
 |.int _,_,_,_,_,h=>by simp only[RA]at h ⊢;exact h
 |.str _,_,_,_,_,h=>by simp only[RA]at h ⊢;exact h
 |.ref k,_,_,_,hφ,h=>by simp only[RA]at h ⊢;obtain⟨a,e,r⟩:=h;exact⟨a,hφ k a e,r⟩
 |.tup xs,_,_,_,hφ,h=>by
  simp only[RA]at h ⊢;obtain⟨a,b,r,p,e,q⟩:=h;exact⟨a,b,r,(x a p).1,(x a p).2.trans e,PF.mono' x hφ q⟩
 |.fz xs,_,_,_,hφ,h=>by
  simp only[RA]at h ⊢;obtain⟨a,b,r,e,q⟩:=h;exact⟨a,b,r,e.mono x,PF.mono' x (fun _ _ z=>z) q⟩
theorem PF.mono'(x:∀a,P a->P' a/\H' a=H a):∀{ts:List AV}{vs:List V}{φ φ':List Ç},(∀(k:Nat) a,φ[k]?=À a->φ'[k]?=À a)->PF mg P H φ ts vs->PF mg P' H' φ' ts vs
 |[],_,_,_,_,h=>by simp only[PF]at h ⊢;exact h
 |t::ts,_,_,_,hφ,h=>by
  simp only[PF]at h ⊢;obtain⟨v,ws,e,r,q⟩:=h;exact⟨v,ws,e,RA.mono' x hφ r,PF.mono' x hφ q⟩
end
theorem RA.mono{t:AV}{v:V}(h:RA mg P H φ t v)(x:∀a,P a->P' a/\H' a=H a)(b:∀(k:Nat) a,φ[k]?=À a->φ'[k]?=À a):RA mg P' H' φ' t v:=RA.mono' x b h
theorem PF.mono{ts:List AV}{vs:List V}(h:PF mg P H φ ts vs)(x:∀a,P a->P' a/\H' a=H a)(b:∀(k:Nat) a,φ[k]?=À a->φ'[k]?=À a):PF mg P' H' φ' ts vs:=PF.mono' x b h
theorem Frm.ix(f:Frm P φ H P' φ' H'):∀(k:Nat) a,φ[k]?=À a->φ'[k]?=À a:=fun k a e=>by
 obtain⟨m,rfl,_⟩:=f.new;rw[zN (zB.mp e).1];exact e
theorem RA.frm(h:RA mg P H φ t v)(f:Frm P φ H P' φ' H'):RA mg P' H' φ' t v:=h.mono f.ext f.ix
theorem PF.frm(h:PF mg P H φ ts vs)(f:Frm P φ H P' φ' H'):PF mg P' H' φ' ts vs:=h.mono f.ext f.ix
theorem RA.lift(h:RA mg P H [] t v):RA mg P H φ t v:=h.mono (fun _ h=>⟨h,rfl⟩) fun k a e=>by simp at e
theorem PF.lift(h:PF mg P H [] ts vs):PF mg P H φ ts vs:=h.mono (fun _ h=>⟨h,rfl⟩) fun k a e=>by simp at e
theorem PF.length:∀{ts:List AV}{vs:List V},PF mg P H φ ts vs->ts.length=vs.length
 |[],_,h=>by simp only[PF]at h;subst h;rfl
 |t::ts,_,h=>by
  simp only[PF]at h;obtain⟨v,ws,rfl,_,q⟩:=h;rw[yX,yX,PF.length q]
theorem PF.get:∀{ts:List AV}{vs:List V}{i:Nat}{t:AV},PF mg P H φ ts vs->ts[i]?=À t->∃v,vs[i]?=À v/\RA mg P H φ t v
 |[],_,_,_,_,e=>by simp at e
 |x::ts,_,i,t,h,e=>by
  simp only[PF]at h;obtain⟨v,ws,rfl,r,q⟩:=h;cases i with
  |zero=>simp at e;subst e;exact⟨v,rfl,r⟩
  |succ i=>simpa using PF.get (i:=i) q (by simpa using e)
theorem PF.app:∀{xs ys:List AV}{vs ws:List V},PF mg P H φ xs vs->PF mg P H φ ys ws->PF mg P H φ (xs++ys) (vs++ws)
 |[],_,_,_,h,g=>by simp only[PF]at h;subst h;exact g
 |x::xs,_,_,_,h,g=>by
  simp only[PF]at h;obtain⟨v,ws,rfl,r,q⟩:=h;exact aR r (PF.app q g)
theorem PF.take:∀{xs:List AV}{vs:List V} (n:Nat),PF mg P H φ xs vs->PF mg P H φ (xs.take n) (vs.take n)
 |xs,vs,0,_=>by rw[V7,V7];exact aZ
 |[],vs,n+1,h=>by simp only[PF]at h;subst h;exact aZ
 |x::xs,vs,n+1,h=>by
  simp only[PF]at h;obtain⟨v,ws,rfl,r,q⟩:=h;exact aR r (PF.take n q)
theorem PF.drop:∀{xs:List AV}{vs:List V} (n:Nat),PF mg P H φ xs vs->PF mg P H φ (xs.drop n) (vs.drop n)
 |xs,vs,0,h=>h
 |[],vs,n+1,h=>by simp only[PF]at h;subst h;exact aZ
 |x::xs,vs,n+1,h=>by
  simp only[PF]at h;obtain⟨v,ws,rfl,r,q⟩:=h;exact PF.drop n q
theorem PF.set(r:RA mg P H φ x v):∀{xs:List AV}{vs:List V} (n:Nat),PF mg P H φ xs vs->PF mg P H φ (xs.set n x) (vs.set n v)
 |[],vs,_,h=>by simp only[PF]at h;subst h;exact aZ
 |y::xs,vs,n,h=>by
  simp only[PF]at h;obtain⟨w,ws,rfl,q,t⟩:=h;cases n with
  |zero=>exact aR r t
  |succ n=>exact aR q (PF.set r n t)
theorem PF.rev(h:PF mg P H φ xs vs):PF mg P H φ xs.reverse vs.reverse:=by
 induction xs generalizing vs with
 |nil=>simp only[PF]at h;subst h;exact aZ
 |cons x xs a =>
  simp only[PF]at h;obtain⟨v,b,rfl,r,q⟩:=h;rw[Ş,Ş];exact(a q).app (aR r aZ)
theorem PF.ints:∀{ns:List Int}{vs:List V},PF mg P H φ (ns.map .int) vs->vs=ns.map .int
 |[],_,h=>by simpa only[Ğ,PF] using h
 |n::ns,_,h=>by
  simp only[zO,PF,RA]at h;obtain⟨v,ws,rfl,rfl,q⟩:=h;rw[PF.ints q];rfl
theorem PF.of_ints:∀{ns:List Int},PF mg P H φ (ns.map .int) (ns.map V.int)
 |[]=>aZ
 |n::ns=>aR (by simp only[RA]) PF.of_ints
end
def KVR(mg:Gm)(P:Pr)(H:Hp)(φ:List Ç){a:Type}(Px:List (a×AV))(ws:List (a×V)):Prop:=Px.map (·.1)=ws.map (·.1)/\PF mg P H φ (Px.map (·.2)) (ws.map (·.2))
def CellR(mg:Gm)(P:Pr)(H:Hp)(φ:List Ç)(a:Ç):PC->Prop
 |.lst xs=>¬P a/\∃vs,H a=À (.lst vs)/\PF mg P H φ xs vs
 |.al t=>P a/\RA mg P H [] t (.ref a)
 |.dK Px=>¬P a/\∃ws,H a=À (.dK ws)/\KVR mg P H φ Px ws
 |.dT Px=>¬P a/\∃ws,H a=À (.dT ws)/\KVR mg P H φ Px ws
 |.ins c fs=>¬P a/\∃C dx ws,mg.mg c=À (.ref C)/\H a=À (.ins C dx ws)/\KVR mg P H φ fs ws
 |.wk Px=>¬P a/\∃o ws,H a=À (.frz o (.dK ws))/\KVR mg P H φ Px ws
def Jz(o:Option HO):Prop:=(∀a,o≠À (.tbl a))/\∀f,o≠À (.ext f)
theorem _root_.L2.gz.new(h:gz H P pos q)(a:H p=Á):gz (ag H p o) P pos q:=by
 obtain⟨d,e,t,c⟩:=h;refine⟨d,by rw[ad (aW e a)];exact e,t,?_⟩;rcases c with c|⟨g,f,b⟩
 ·exact .inl c
 ·exact .inr ⟨g,f,by rw[ad (aW b a)];exact b⟩
theorem _root_.L2.gz.ne(h:gz H P pos q)(a:H p=Á):P≠p:=by
 obtain⟨b,e,_⟩:=h;exact aW e a
theorem _root_.L2.gz.wr(h:gz H P pos q)(b:Jz (H p)):gz (ag H p o) P pos q:=by
 obtain⟨a,e,t,c⟩:=h;refine⟨a,by rw[ad fun z=>b.1 a (by rw[<- z];exact e)];exact e,t,?_⟩;rcases c with c|⟨g,f,d⟩
 ·exact .inl c
 ·exact .inr ⟨g,f,by rw[ad fun z=>b.2 _ (by rw[<- z];exact d)];exact d⟩
structure Sim[Pz](mg:Gm)(P:Pr)(φ:List Ç)(st:aa)(H:Hp):Prop where
 len:φ.length=st.length
 nd:φ.Nodup
 dom:∀a,P a->H a≠Á
 cd:∀a∈φ,H a≠Á
 cell:∀(k:Nat) c a,st[k]?=À c->φ[k]?=À a->CellR mg P H φ a c
 tb:∀t∈Pz.tb,gz H t.1 t.2.1 t.2.2/\¬P t.1
section
variable{mg:Gm}{P P':Pr}{H H':Hp}{φ φ':List Ç}{st st':aa}{a:Ç}
theorem KVR.mono{c:Type}{Px:List (c×AV)}{ws:List (c×V)}(h:KVR mg P H φ Px ws)(x:∀a,P a->P' a/\H' a=H a)(b:∀(k:Nat) a,φ[k]?=À a->φ'[k]?=À a):KVR mg P' H' φ' Px ws:=⟨h.1,h.2.mono x b⟩
theorem CellR.mono{c:PC}(h:CellR mg P H φ a c)(x:∀a,P a->P' a/\H' a=H a)(b:∀(k:Nat) a,φ[k]?=À a->φ'[k]?=À a)(e:H' a=H a)(f:¬P a->¬P' a):CellR mg P' H' φ' a c:=by
 cases c with
 |lst xs=>obtain⟨n,d,r,q⟩:=h;exact⟨f n,d,e.trans r,q.mono x b⟩
 |al t=>exact⟨(x a h.1).1,h.2.mono x fun _ _ z=>z⟩
 |dK Px=>obtain⟨n,d,r,q⟩:=h;exact⟨f n,d,e.trans r,q.mono x b⟩
 |dT Px=>obtain⟨n,d,r,q⟩:=h;exact⟨f n,d,e.trans r,q.mono x b⟩
 |ins c fs=>obtain⟨n,C,i,g,m,r,q⟩:=h;exact⟨f n,C,i,g,m,e.trans r,q.mono x b⟩
 |wk Px=>obtain⟨n,o,g,r,q⟩:=h;exact⟨f n,o,g,e.trans r,q.mono x b⟩
theorem Sim.at[Pz](s:Sim mg P φ st H){k:Nat}(e:st[k]?=À c):∃a,φ[k]?=À a/\CellR mg P H φ a c:=by
 have b:k<φ.length:=by rw[s.len];exact(zB.mp e).1
 exact⟨φ[k],zF b,s.cell k c _ e (zF b)⟩
theorem Sim.notb[Pz](s:Sim mg P φ st H){k:Nat}(d:φ[k]?=À a)(f:¬P a):Jz (H a):=by
 obtain⟨c,g⟩:∃c,st[k]?=À c:=⟨_,zF (by rw[<- s.len];exact(zB.mp d).1)⟩;have h:=s.cell k c a g d;cases c with
 |lst xs=>obtain⟨n,b,r,q⟩:=h;rw[r];exact⟨fun _ z=>(nomatch z),fun _ z=>(nomatch z)⟩
 |al t=>exact absurd h.1 f
 |dK Px=>obtain⟨n,b,r,q⟩:=h;rw[r];exact⟨fun _ z=>(nomatch z),fun _ z=>(nomatch z)⟩
 |dT Px=>obtain⟨n,b,r,q⟩:=h;rw[r];exact⟨fun _ z=>(nomatch z),fun _ z=>(nomatch z)⟩
 |ins c fs=>obtain⟨n,C,i,e,m,r,q⟩:=h;rw[r];exact⟨fun _ z=>(nomatch z),fun _ z=>(nomatch z)⟩
 |wk Px=>obtain⟨n,o,e,r,q⟩:=h;rw[r];exact⟨fun _ z=>(nomatch z),fun _ z=>(nomatch z)⟩
theorem Sim.tnc[Pz](s:Sim mg P φ st H)(a:t∈Pz.tb):t.1∉φ:=fun h=>by
 obtain⟨j,c⟩:=z8 h;obtain⟨b,e,_⟩:=(s.tb t a).1;exact(s.notb c (s.tb t a).2).1 b e
theorem Sim.okeep[Pz](s:Sim mg P φ st H)(f:Frm P φ H P' φ' H')(h:H c=À (gG c q)):H' c=À (gG c q):=by
 by_cases a:P c
 ·exact(f.ext c a).2.trans h
 ·refine(f.keep c (by rw[h];exact fun z=>nomatch z) (fun z=>?_) fun d z=>by rw[h]at z;cases z).trans h
  obtain⟨j,b⟩:=z8 z;exact(s.notb b a).2 _ h
theorem Sim.ckeep[Pz](s:Sim mg P φ st H)(x:∀a,P a->H' a=H a)(k:∀a,H a≠Á->(∀ps,H a≠À (.tbl ps))->H' a=H a):∀a∈φ,H' a=H a:=fun a h=>by
 by_cases b:P a
 ·exact x a b
 ·obtain⟨j,c⟩:=z8 h
  exact k a (s.cd a h) (s.notb c b).1
theorem Sim.stay[Pz](s:Sim mg P φ st H)(x:∀a,P a->P' a/\H' a=H a)(d:∀a∈φ,H' a=H a)(f:∀a∈φ,¬P a->¬P' a)(i:∀a,P' a->H' a≠Á)(e:∀t∈Pz.tb,gz H' t.1 t.2.1 t.2.2/\¬P' t.1):Sim mg P' φ st H' :=
 ⟨s.len,s.nd,i,fun a h=>by rw[d a h];exact s.cd a h,fun k c a g b=>(s.cell k c a g b).mono x (fun _ _ z=>z) (d a (zW b)) (f a (zW b)),e⟩
theorem Sim.nil[Pz](d:∀a,P a->H a≠Á)(b:∀t∈Pz.tb,gz H t.1 t.2.1 t.2.2/\¬P t.1):Sim mg P [] [] H:=⟨rfl,V9,d,fun _ h=>by simp at h,fun k c a e _=>by simp at e,b⟩
theorem lS[Pz](s:Sim mg P φ st H)(b:H p=Á):Frm P φ H (fun a=>P a\/a=p) φ (ag H p o)/\Sim mg (fun a=>P a\/a=p) φ st (ag H p o):=by
 have ne:∀a,H a≠Á->a≠p:=fun a h e=>h (by rw[e];exact b)
 have f:Frm P φ H (fun a=>P a\/a=p) φ (ag H p o):=by
  refine⟨fun a h=>⟨.inl h,ad (ne a (s.dom a h))⟩,⟨[],by simp,by simp⟩,fun a h _ _=>ad (ne a h),fun a h=>?_,fun a h=>by rw[ad (ne a h)];exact h,fun a o u h=>by rw[ad (aW h b)];exact h⟩;rcases h with h|h
  ·exact .inl h
  ·exact .inr (.inl (by rw[h];exact b))
 refine⟨f,s.stay f.ext (fun a h=>ad (ne a (s.cd a h))) (fun a h n z=>?_) (fun a h=>?_) fun t c=>⟨(s.tb t c).1.new b,fun z=>z.elim (s.tb t c).2 (fun e=>(s.tb t c).1.ne b e)⟩⟩
 ·rcases z with z|z
  ·exact n z
  ·exact ne a (s.cd a h) z
 ·rcases h with h|h
  ·rw[ad (ne a (s.dom a h))];exact s.dom a h
  ·rw[h,ar];exact fun z=>nomatch z
theorem oE[Pz](s:Sim mg P φ st H)(i:H p=Á)(q:CellR mg P (ag H p o) (φ++[p]) p c):Frm P φ H P (φ++[p]) (ag H p o)/\Sim mg P (φ++[p]) (st++[c]) (ag H p o):=by
 have ne:∀a,H a≠Á->a≠p:=fun a h e=>h (by rw[e];exact i)
 have ex:∀a,P a->P a/\ag H p o a=H a:=fun a h=>⟨h,ad (ne a (s.dom a h))⟩
 have ix:∀(k:Nat) a,φ[k]?=À a->(φ++[p])[k]?=À a:=fun k a e=>by rw[zN (zB.mp e).1];exact e
 have j:∀a,H a≠Á->ag H p o a≠Á:=fun a h=>by rw[ad (ne a h)];exact h
 refine⟨⟨ex,⟨[p],rfl,fun a h=>by rw[zM.mp h];exact i⟩,fun a h _ _=>ad (ne a h),fun a h=>.inl h,j,fun a o u h=>by rw[ad (aW h i)];exact h⟩,?_,?_,fun a h=>j a (s.dom a h),fun a h=>?_,fun k d a g f=>?_,fun t m=>⟨(s.tb t m).1.new i,(s.tb t m).2⟩⟩
 ·rw[zV,zV,s.len];rfl
 ·exact ϥ.mpr ⟨s.nd,(by simp),fun a h b r e=>ne a (s.cd a h) (by rw[e];exact zM.mp r)⟩
 ·rcases zZ.mp h with h|h
  ·exact j a (s.cd a h)
  ·rw[zM.mp h,ar];exact fun z=>nomatch z
 ·by_cases n:k<st.length
  ·rw[zN n]at g
   rw[zN (by rw[s.len];exact n)]at f;exact(s.cell k d a g f).mono ex ix (ad (ne a (s.cd a (zW f)))) fun z=>z
  ·have l:k=st.length:=by
    have:=(zB.mp g).1
    rw[zV]at this;simp at this;lia
   subst l;simp at g;rw[<- s.len]at f;simp at f;subst g;subst f;exact q
theorem iU[Pz]{k:Nat}(s:Sim mg P φ st H)(m:φ[k]?=À a)(q:¬P a)(y:CellR mg P (ag H a o) φ a c)(v:∀o u,H a≠À (.frz o u)):Frm P φ H P φ (ag H a o)/\Sim mg P φ (st.set k c) (ag H a o):=by
 have w:a∈φ:=zW m;have ne:∀b,P b->b≠a:=fun b h e=>q (by rw[<- e];exact h)
 have n:∀b,H b≠Á->ag H a o b≠Á:=fun b h=>by
  by_cases e:b=a
  ·rw[e,ar];exact fun z=>nomatch z
  ·rw[ad e];exact h
 have ex:∀b,P b->P b/\ag H a o b=H b:=fun b h=>⟨h,ad (ne b h)⟩
 refine⟨⟨ex,⟨[],by simp,by simp⟩,fun b _ h _=>ad fun e=>h (by rw[e];exact w),fun b h=>.inl h,n,fun b o u h=>by rw[ad (fun e=>v o u (by rw[<- e];exact h))];exact h⟩,by rw[à];exact s.len,s.nd,fun b h=>n b (s.dom b h),fun b h=>n b (s.cd b h),fun j d b g f=>?_,fun t r=>⟨(s.tb t r).1.wr (s.notb m q),(s.tb t r).2⟩⟩;by_cases p:j=k
 ·subst p
  rw[m]at f;cases f;rw[ð (by rw[<- s.len];exact(zB.mp m).1)]at g;cases g;exact y
 ·rw[î (ä p)]at g
  have A:b≠a:=fun e=>p (by
   subst e;exact nodup_ix' s.nd f m)
  exact(s.cell j d b g f).mono ex (fun _ _ z=>z) (ad A) fun z=>z
where
 nodup_ix' {l:List Ç} (hN:l.Nodup) {i j:Nat}{x:Ç} (a:l[i]?=À x) (b:l[j]?=À x):i=j:=by
  obtain⟨C,g⟩:=zB.mp a;obtain⟨B,f⟩:=zB.mp b;exact(Ū hN).mp (g.trans f.symm)
end
open PySem.Spec PyProof.Rows
open DD (PE_imp PT_imp PA_imp PS_imp PSs_imp OpR_imp PW_imp PG_imp)
abbrev St:=L2.St
abbrev _root_.L2.Cx.gm(X:Cx):Gm:=⟨X.K,X.mg⟩
def KG[Pz]{α g:Type}(mg:Gm)(h:Gm->Pr->Hp->List Ç->α->g->Prop)(P:Pr)(φ:List Ç)(H:Hp)(r:Option (α×aa))(Q:g->Hp->Prop):Prop :=
 ∃a d,r=À (a,d)/\∀f c e b,Frm P φ H f c e->Sim mg f c d e->h mg f e c a b->Q b e
def RB{α:Type}(_:Gm)(_:Pr)(_:Hp)(_:List Ç)(a b:α):Prop:=a=b
section
variable{α β γ δ:Type}{mg:Gm}{Ra:Gm->Pr->Hp->List Ç->α->β->Prop}{Rc:Gm->Pr->Hp->List Ç->γ->δ->Prop}{P:Pr}{φ:List Ç}{H:Hp}
theorem KG.bind[Pz]{m:Option (α×aa)}{k:α×aa->Option (γ×aa)}{Q:δ->Hp->Prop}(h:KG mg Rc P φ H (m.bind k) Q) :
  KG mg Ra P φ H m fun b H1=>∃P1 φ1 st1 a,Frm P φ H P1 φ1 H1/\Sim mg P1 φ1 st1 H1/\Ra mg P1 H1 φ1 a b/\KG mg Rc P1 φ1 H1 (k (a,st1)) Q:=by
 obtain⟨c,i,e,q⟩:=h;cases m with
 |none=>cases e
 |some p =>
  obtain⟨a,st1⟩:=p;refine⟨a,st1,rfl,fun P1 φ1 H1 b f s r=>⟨P1,φ1,st1,a,f,s,r,c,i,e,fun o g t d n j l=>q o g t d (f.trans n) j l⟩⟩
theorem KG.pure[Pz]{a:α}{st:aa}{Q:β->Hp->Prop}{b:β}(h:KG mg Ra P φ H (À (a,st)) Q)(s:Sim mg P φ st H)(r:Ra mg P H φ a b):Q b H:=by
 obtain⟨_,_,e,q⟩:=h;cases e;exact q P φ H b Frm.refl s r
theorem KG.map[Pz]{m:Option α}{st:aa}{Q:β->Hp->Prop}(h:KG mg Ra P φ H (m.map fun a=>(a,st)) Q):∃a,m=À a/\KG mg Ra P φ H (À (a,st)) Q:=by
 obtain⟨b,c,e,q⟩:=h;cases m with
 |none=>cases e
 |some a=>exact⟨a,rfl,b,c,e,q⟩
end
def PM(mg:Gm)(P:Pr)(H:Hp)(φ:List Ç)(sl:Sl)(σ:St):Prop:=sl.length=σ.length/\∀(i:Nat) v,sl[i]?=À (À v)->∃w,σ[i]?=À (À w)/\RA mg P H φ v w
section
variable{mg:Gm}{P P':Pr}{H H':Hp}{φ φ':List Ç}{sl:Sl}{σ:St}
theorem PM.frm(h:PM mg P H φ sl σ)(f:Frm P φ H P' φ' H'):PM mg P' H' φ' sl σ:=⟨h.1,fun i v e=>let⟨w,a,r⟩:=h.2 i v e;⟨w,a,r.frm f⟩⟩
theorem PM.set(h:PM mg P H φ sl σ)(r:RA mg P H φ v w)(i:Nat):PM mg P H φ (sl.set i (À v)) (σ.set i (À w)):=by
 refine⟨by rw[à,à];exact h.1,fun j u e=>?_⟩;by_cases a:i=j
 ·subst a
  by_cases b:i<sl.length
  ·rw[ð b]at e
   cases e;exact⟨w,ð (by rw[<- h.1];exact b),r⟩
  ·rw[ë (by rw[à];lia)]at e;cases e
 ·rw[î a]at e
  rw[î a];exact h.2 j u e
end
abbrev EF:=Sl->aa->Option (AV×aa)
abbrev TF:=Sl->aa->Option (Bool×aa)
abbrev AF:=Sl->aa->Option (List AV×aa)
def rE[Pz](mg:Gm)(f:EF):TE:=fun d H Q=>∃P a c b,PM mg P H a c d/\Sim mg P a b H/\KG mg RA P a H (f c b) Q
def rT[Pz](mg:Gm)(f:TF):TT:=fun d H Q=>∃P a c b,PM mg P H a c d/\Sim mg P a b H/\KG mg RB P a H (f c b) Q
def rA[Pz](mg:Gm)(f:AF):TA:=fun d H Q=>∃P a c b,PM mg P H a c d/\Sim mg P a b H/\KG mg PF P a H (f c b) Q
def QE[Pz](X:Cx)(e:Ï)(f:EF):Prop:=PE X e (rE X.gm f)
def QT[Pz](X:Cx)(e:Ï)(f:TF):Prop:=PT X e (rT X.gm f)
def QW[Pz](X:Cx)(e:Ï)(f:TF):Prop:=PW X e (rT X.gm f)
def QA[Pz](X:Cx)(es:List Ï)(f:AF):Prop:=PA X es (rA X.gm f)
noncomputable def aV(i:Nat):EF:=fun b a=>match b[i]? with
 |some (À v)=>À (v,a)
 |_=>Á
noncomputable def aC(v:AV):EF:=fun _ a=>À (v,a)
noncomputable def eL:AF:=fun _ a=>À ([],a)
noncomputable def dX(f:EF)(g:AF):AF:=fun a b=>(f a b).bind fun p=>(g a p.2).bind fun q=>À (p.1::q.1,q.2)
noncomputable def rk:AV->Option V
 |.non=>À .non
 |.bl b=>À (.bl b)
 |.int i=>À (.int i)
 |.str x=>À (.str x)
 |_=>Á
theorem RA.sc(h:rk v=À w):RA mg P H φ v w:=by
 cases v<;>simp only[rk]at h<;>cases h<;>simp only[RA]
section
variable{X:Cx}{e:Ï}{es:List Ï}{pos:Ĝ}
theorem G2[Pz]{i:Nat}(g:X.N[i]?=À x)(f:A2 X.env.scope x)(hd:(x==("__debug__":Í))=Ä)(b:(x==("__classdict__":Í))=Ä):QE X (.Name x pos) (aV i) :=
 PE_imp (Hr g f hd b) fun l H Q a=>by
  refine e7 a fun P j c m r s k=>?_
  unfold aV at k;cases h:c[i]? with
  |none=>rw[h]at k;obtain⟨_,_,e,_⟩:=k;cases e
  |some o =>
   cases o with
   |none=>rw[h]at k;obtain⟨_,_,e,_⟩:=k;cases e
   |some v =>
    rw[h]at k;obtain⟨w,e,d⟩:=r.2 i v h;exact⟨w,e,k.pure s d⟩
theorem tK[Pz](b:rk v=À w)(h:PE X e t)(c:∀σ H Q,Q w H->t σ H Q):QE X e (aC v) :=
 PE_imp h fun σ H Q a=>e7 a fun P d g f r s k=>c σ H Q (k.pure s (RA.sc b))
theorem eU[Pz]:QA X [] eL:=PA_imp Aa fun c H Q a=>e7 a fun P b e d r s k=>k.pure s aZ
theorem cM[Pz](F:QE X e f)(E:QA X es g)(D:Ê (e::es) X.env=(Ä,eval e X.env)::Ê es X.env):QA X (e::es) (dX f g) :=
 PA_imp (vP F E D) fun V H Q m=>e7 m fun P U t W r s k=>i7 r s (by
  obtain⟨a,l,M,q⟩:=k.bind (Ra:=RA);refine⟨a,l,M,fun R h T b K x r1=>?_⟩;obtain⟨O,d,j,a2,J,w,r2,C⟩:=q R h T b K x r1;refine⟨O,d,t,j,r.frm J,w,?_⟩;obtain⟨o,i,L,A⟩:=C.bind (Ra:=PF);refine⟨o,i,L,fun N c S bs I v z=>?_⟩;obtain⟨Z,n,p,Y,G,u,y,B⟩:=A N c S bs I v z;exact B.pure u (aR (r2.frm G) y))
end
noncomputable def a2(f g:EF)(k:AV->AV->aa->Option (AV×aa)):EF:=fun a b=>(f a b).bind fun p=>(g a p.2).bind fun q=>k p.1 q.1 q.2
noncomputable def a1(f:EF)(k:AV->aa->Option (AV×aa)):EF:=fun b a=>(f b a).bind fun p=>k p.1 p.2
def r2[Pz](mg:Gm)(k:AV->AV->aa->Option (AV×aa)):R2:=fun v w H Q=>∃P a b x y,Sim mg P a b H/\RA mg P H a x v/\RA mg P H a y w/\KG mg RA P a H (k x y b) Q
def r1[Pz](mg:Gm)(k:AV->aa->Option (AV×aa)):V->Hp->VK->Prop:=fun v H Q=>∃P a b x,Sim mg P a b H/\RA mg P H a x v/\KG mg RA P a H (k x b) Q
section
variable{mg:Gm}{k:AV->AV->aa->Option (AV×aa)}{k1:AV->aa->Option (AV×aa)}{f g:EF}
theorem xX[Pz](q:rE mg (a2 f g k) σ H Q):yw (r2 mg k) (rE mg f) (rE mg g) σ H Q:=by
 refine e7 q fun P U o V n s A=>?_
 refine i7 n s ?_;obtain⟨a,m,J,q⟩:=A.bind (Ra:=RA);refine⟨a,m,J,fun R h T b G u r1=>?_⟩;obtain⟨O,e,l,x,F,t,r2,C⟩:=q R h T b G u r1;refine⟨O,e,o,l,n.frm F,t,?_⟩;obtain⟨L,j,I,z⟩:=C.bind (Ra:=RA);refine⟨L,j,I,fun N d S K E r w=>?_⟩;obtain⟨M,c,i,y,D,p,v,B⟩:=z N d S K E r w;exact⟨M,c,i,x,y,p,r2.frm D,v,B⟩
theorem NC[Pz](q:rE mg (a1 f k1) σ H Q):LG (r1 mg k1) (rE mg f) σ H Q:=by
 refine e7 q fun P t v u j s k=>?_
 refine i7 j s ?_;obtain⟨a,g,n,q⟩:=k.bind (Ra:=RA);refine⟨a,g,n,fun p d r b m i r1=>?_⟩;obtain⟨o,c,e,x,w,h,r2,l⟩:=q p d r b m i r1;exact⟨o,c,e,x,h,r2,l⟩
end
noncomputable def lM(h:aa->AV->AV->Option AV):AV->AV->aa->Option (AV×aa):=fun x y a=>(h a x y).map fun z=>(z,a)
noncomputable def Gy(h:aa->AV->Option AV):AV->aa->Option (AV×aa):=fun x a=>(h a x).map fun z=>(z,a)
noncomputable def cS(a b:Int):Bool:=(Û a.natAbs.log2 62||Nat.ble b.natAbs.log2 62)||(Û a.natAbs.log2 1000000&&Û b.natAbs.log2 1000000)
noncomputable def gY(b:Int):Bool:=!(b==0)&&Û b.natAbs.log2 8999
noncomputable def xg(a b:Int):Bool:=decide (0<=b)&&Û b.natAbs 100000&&Û a.natAbs.log2 62
noncomputable def ww(a b:Int):Int:=if 0<b then a/b else a.fdiv b
noncomputable def ux(a b:Int):Int:=if 0<b then a%b else a.fmod b
def u9:ġ->Int->Int->Option Int
 |.Add,a,b=>À (a+b)
 |.Sub,a,b=>À (a-b)
 |.Mult,a,b=>if cS a b=Â then À (a*b) else Á
 |.FloorDiv,a,b=>if gY b=Â then À (ww a b) else Á
 |.Mod,a,b=>if b=0 then Á else À (ux a b)
 |.Pow,a,b=>if xg a b=Â then À (a^b.toNat) else Á
 |.LShift,a,b=>if xg a b=Â then À (a*2^b.toNat) else Á
 |.RShift,a,b=>if 0<=b then À (a/2^b.toNat) else Á
 |.BitAnd,a,b=>À (Builtin.bitAnd a b)
 |.BitOr,a,b=>À (Builtin.bitOr a b)
 |.BitXor,a,b=>À (Builtin.bitXor a b)
 |_,_,_=>Á
def bh(o:ġ)(_:aa):AV->AV->Option AV
 |.int a,.int b=>(u9 o a b).map .int
 |.str a,.str b=>if(decide (o=.Add)&&Û (a.length+b.length) 1000000)=Â then À (.str (a++b)) else Á
 |_,_=>Á
theorem log2_lt{n k:Nat}(h:Û n.log2 k=Â):n<2^(k+1):=by
 by_cases a:n=0
 ·subst a;exact Ô _
 ·exact(Ċ a).mp (Ϩ (zS h))
theorem m9{a:Int}{k:Nat}(h:a.natAbs<2^k):ń a<=k:=by
 unfold ń;split
 ·lia
 ·rename_i b
  have:a.natAbs.log2<k:=(Ċ (by simpa using b)).mpr h;lia
theorem Fe{a b:Int}(h:cS a b=Â):IntMulOk a b:=by
 unfold cS at h;rcases Q?.mp h with h|h
 ·rcases Q?.mp h with h|h
  ·exact .of_left (z5 (m9 (log2_lt h)) dC)
  ·exact .of_right (z5 (m9 (log2_lt h)) dC)
 ·obtain⟨d,c⟩:=Ĉ.mp h
  exact .of_bits (z5 (m9 (log2_lt d)) dC) (z5 (m9 (log2_lt c)) dC)
theorem FC{b:Int}(h:gY b=Â):b≠0/\b.natAbs.log2<9000:=by
 unfold gY at h;obtain⟨c,a⟩:=Ĉ.mp h;exact⟨by simpa using c,Ϩ (zS a)⟩
theorem Jd(a b:Int):a.fdiv b=ww a b:=by
 unfold ww;split
 ·exact k! _ oM
 ·rfl
theorem IX(a b:Int):a.fmod b=ux a b:=by
 unfold ux;split
 ·exact Int.fmod_eq_emod_of_nonneg _ oM
 ·rfl
theorem vO{a b:Int}(h:xg a b=Â):NG a b:=by
 unfold xg at h;simp only[zC,yB]at h;obtain⟨⟨e,c⟩,d⟩:=h;have c:=zS c;exact⟨e,by lia,zJ (log2_lt d) dC⟩
def M4(o:ġ):R2:=fun x y H Q=>(∃i j k,x=.int i/\y=.int j/\u9 o i j=À k/\Q (.int k) H)\/(o=.Add/\∃i j,x=.str i/\y=.str j/\i.length+j.length<=Ë/\Q (.str (i++j)) H)
section
variable{X:Cx}
theorem HF(o:ġ):mI X (ż o) (M4 o):=by
 have l:∀(h:∀i j k t u s (Q:Å->È->Prop) (E:Å->È->Prop),u9 o i j=À k->Q (.int k s.toks) { s with toks:=s.toks+1 }->Î (model X.prog X.w) X.A (ż o (.int i t) (.int j u)) Q E s)
   (d:List (Ç×Obj)) (s:È) (b:St) (H:Hp) (x y:V) (v u:Å) (Q:VK),Inv X d b H s->RelV x v->RelV y u->(∃i j k,x=.int i/\y=.int j/\u9 o i j=À k/\Q (.int k) H) ->
   Î (model X.prog X.w) X.A (ż o v u) (EP X d b Q) X.xe s:=by
  rintro h d s b H x y v u Q I rx f ⟨i,j,k,w,r,p,q⟩;subst w;subst r;obtain⟨t,rfl⟩:=rx;obtain⟨g,rfl⟩:=f;exact h i j k t g s _ _ p ⟨.int k,H,I.tok _,⟨_,rfl⟩,q⟩
 intro d s b H x y v u Q I rx f h;rcases h with h|⟨rfl,h⟩
 ·refine l ?_ d s b H x y v u Q I rx f h
  intro i j k t u s Q E e q;cases o<;>simp only[u9]at e
  case Add=>cases e;exact add_int q
  case Sub=>cases e;exact sub_int q
  case Mult =>
   split at e
   ·rename_i a;cases e;exact mul_int q (Fe a)
   ·cases e
  case FloorDiv =>
   split at e
   ·rename_i a;cases e
    obtain⟨n,m⟩:=FC a;exact floordiv_int n (by rw[Jd];exact q) (.inl (PyProof.noPylong_of_log2 m))
   ·cases e
  case Mod =>
   split at e
   ·cases e
   ·rename_i a;cases e
    exact mod_int' a (by rw[IX];exact q)
  case Pow =>
   split at e
   ·rename_i a;cases e
    have c:=vO a;exact pow_int_small c.1 c.2.1 c.2.2 q
   ·cases e
  case LShift =>
   split at e
   ·rename_i a;cases e
    have c:=vO a;exact lshift_int_small c.1 c.2.1 c.2.2 q
   ·cases e
  case RShift =>
   split at e
   ·rename_i a;cases e
    exact rshift_int a (by rw[k! _ (wP _)];exact q)
   ·cases e
  case BitAnd=>cases e;exact and_int q
  case BitOr=>cases e;exact or_int q
  case BitXor=>cases e;exact xor_int q
  all_goals cases e
 ·exact xn d s b H x y v u Q I rx f h
theorem HK[Pz](o:ġ):mI X (ż o) (r2 X.gm (lM (bh o))):=OpR_imp (HF o) fun v w H Q d=>by
 obtain ⟨P,i,j,x,y,s,r1,r2,k⟩:=d;obtain ⟨z,e,k⟩:=k.map;cases x <;> cases y <;> simp only [bh] at e <;> first | (cases e;done) | skip
 ·rename_i a b
  simp only[RA]at r1 r2;obtain⟨c,h,g⟩:=zE.mp e;subst g;exact .inl ⟨a,b,c,r1,r2,h,k.pure s (by simp only[RA])⟩
 ·rename_i a b
  simp only[RA]at r1 r2;split at e
  ·rename_i f
   cases e;simp only[zC,yB]at f;exact .inr ⟨f.1,a,b,r1,r2,z5 (zS f.2) dC,k.pure s (by simp only[RA])⟩
  ·cases e
theorem G9[Pz](d:QE X a f)(c:QE X b g):QE X (.BinOp a o b pos) (a2 f g (lM (bh o))) :=
 PE_imp (xm (HK o) d c) fun _ _ _ q=>xX q
end
open DD (pyOk reads_each any_vals obj_list obj_tup)
noncomputable def dr(st:aa):AV->AV
 |.ref k=>match st[k]? with
  |some (.al t)=>t
  |_=>.ref k
 |v=>v
def bN(st:aa)(v:AV):Option (List AV):=match dr st v with
 |.fz a=>À a
 |.ref k=>match st[k]? with
  |some (.lst a)=>À a
  |_=>Á
 |_=>Á
def ju(st:aa)(v:AV):Option (List AV):=match dr st v with
 |.tup xs=>À xs
 |_=>Á
section
variable{mg:Gm}{P:Pr}{φ:List Ç}{st:aa}{H:Hp}{v:AV}{w:V}{xs:List AV}
theorem RA.dr[Pz](s:Sim mg P φ st H)(r:RA mg P H φ v w):RA mg P H φ (dr st v) w:=by
 cases v with
 |ref k =>
  unfold R.dr;dsimp only;split
  ·rename_i t h
   obtain⟨a,e,c⟩:=s.at h;simp only[RA]at r;obtain⟨d,b,rfl⟩:=r;rw[e]at b;cases b;exact c.2.lift
  ·exact r
 |_=>exact r
theorem RA.ls[Pz](s:Sim mg P φ st H)(r:RA mg P H φ v w)(h:bN st v=À xs):∃a vs,w=.ref a/\bJ mg.K H a vs/\PF mg P H φ xs vs:=by
 have r:=r.dr s;unfold bN at h;split at h
 ·rename_i g e
  cases h;rw[e]at r;simp only[RA]at r;obtain⟨a,vs,d,b,q⟩:=r;exact⟨a,vs,d,b.sq,q.lift⟩
 ·rename_i k e
  rw[e]at r;simp only[RA]at r;obtain⟨a,d,b⟩:=r;split at h
  ·rename_i g l
   cases h;obtain⟨m,f,c⟩:=s.at l;rw[d]at f;cases f;obtain⟨_,vs,j,i⟩:=c;exact⟨a,vs,b,.inl (.inl j),i⟩
  ·cases h
 ·cases h
theorem RA.tp[Pz](s:Sim mg P φ st H)(r:RA mg P H φ v w)(h:ju st v=À xs):∃a vs,w=.ref a/\H a=À (.tup vs)/\PF mg P H φ xs vs:=by
 have r:=r.dr s;unfold ju at h;split at h
 ·rename_i d e
  cases h;rw[e]at r;simp only[RA]at r;obtain⟨a,vs,c,_,b,q⟩:=r;exact⟨a,vs,c,b,q⟩
 ·cases h
end
noncomputable def aP{α β:Type}(f:α->Option β):List α->Option (List β)
 |[]=>À []
 |x::xs=>(f x).bind fun y=>(aP f xs).map fun ys=>y::ys
theorem cJ{α b a:Type}{f:α->Option b}{i:a->α}{g:a->b}(h:∀x,f (i x)=À (g x))(xs:List a):aP f (xs.map i)=À (xs.map g):=by
 induction xs with
 |nil=>rfl
 |cons x xs c=>simp only[zO,aP,h,c,Ã,Ì]
def cw:Nat->aa->AV->Option Ī
 |_,_,.non=>À .none
 |_,_,.bl b=>À (.bool b)
 |_,_,.int i=>À (.int i)
 |_,_,.str x=>À (.str x)
 |n+1,st,.fz xs=>(aP (cw n st) xs).map .list
 |n+1,st,.tup xs=>(aP (cw n st) xs).map .tuple
 |n+1,st,.ref k=>match st[k]? with
  |some (.lst xs)=>(aP (cw n st) xs).map .list
  |some (.al t)=>cw n st t
  |_=>Á
 |0,_,_=>Á
section
variable{X:Cx}{Pw:List (Ç×Obj)}{σ:St}{H:Hp}{s:È}{P:Pr}{φ:List Ç}{st:aa}
theorem tH[Pz]{n:Nat}(g:∀t v p u,RA mg P H φ t v->cw n st t=À p->RelV v u->∃as,ű s.heap u p as) :
  ∀{xs:List AV}{vs:List V}{ps:List Ī}{us:List Å},PF mg P H φ xs vs->aP (cw n st) xs=À ps->Vals vs us->∃as,d? s.heap us ps as:=by
 intro xs
 induction xs with
 |nil =>
  intro vs ps us r e q;simp only[PF]at r;subst r;cases e;cases q;exact⟨_,.nil⟩
 |cons x xs a =>
  intro vs ps us r e q;simp only[PF]at r;obtain⟨v,l,rfl,r1,r2⟩:=r;simp only[aP]at e;obtain⟨p,k,j⟩:=zA e;obtain⟨m,i,h⟩:=zE.mp j;subst h;cases q with
  |cons f d =>
   obtain⟨as,c⟩:=g x v p _ r1 k f;obtain⟨bs,b⟩:=a r2 i d;exact⟨_,.cons c b⟩
theorem ik[Pz](I:L2.Inv X Pw σ H s)(E:Sim X.gm P φ st H):∀(n:Nat)(t:AV)(v:V)(p:Ī)(u:Å),RA X.gm P H φ t v->cw n st t=À p->RelV v u->∃as,ű s.heap u p as:=by
 have lst:∀{a:Ç}{g:List V}{u:Å}{y:List Ī},bJ X.K H a g->RelV (.ref a) u->(∀{D:List Å},Vals g D->∃as,d? s.heap D y as)->∃as,ű s.heap u (.list y) as:=by
  intro a g u y h d k;cases d;obtain⟨Q,G,m,j,o,l,N⟩:=obj_list I h;obtain⟨as,A⟩:=k j;exact⟨_,.list o l N A⟩
 have flat:∀(n:Nat)(t:AV)(v:V)(p:Ī)(u:Å)(w:V),rk t=À w->RA X.gm P H φ t v->cw n st t=À p->RelV v u->∃as,ű s.heap u p as:=by
  intro n t v p u w J r e d;cases t with
  | non=>cases n <;> (simp only [cw] at e;cases e;simp only [RA] at r;subst r;cases d;exact ⟨_,.none⟩)
  | bl b=>cases n <;> (simp only [cw] at e;cases e;simp only [RA] at r;subst r;cases d;exact ⟨_,.bool b⟩)
  | int i=>cases n <;> (simp only [cw] at e;cases e;simp only [RA] at r;subst r;obtain ⟨t,rfl⟩:=d;exact ⟨_,.int i t⟩)
  | str x=>cases n <;> (simp only [cw] at e;cases e;simp only [RA] at r;subst r;obtain ⟨t,rfl⟩:=d;exact ⟨_,.str x t⟩)
  |_=>cases J
 intro n
 induction n with
 |zero =>
  intro t v p u r e d;cases t with
  |non=>exact flat 0 _ v p u _ rfl r e d
  |bl b=>exact flat 0 _ v p u _ rfl r e d
  |int i=>exact flat 0 _ v p u _ rfl r e d
  |str x=>exact flat 0 _ v p u _ rfl r e d
  |_=>simp only[cw]at e;cases e
 |succ n z =>
  intro t v p u r e d;cases t with
  |non=>exact flat _ _ v p u _ rfl r e d
  |bl b=>exact flat _ _ v p u _ rfl r e d
  |int i=>exact flat _ _ v p u _ rfl r e d
  |str x=>exact flat _ _ v p u _ rfl r e d
  |fz C =>
   simp only[cw]at e;obtain⟨y,o,l⟩:=zE.mp e;subst l;simp only[RA]at r;obtain⟨a,g,rfl,h,q⟩:=r;exact lst h.sq d fun j=>tH z q.lift o j
  |tup C =>
   simp only [cw] at e;obtain ⟨y,o,l⟩:=zE.mp e;subst l;simp only [RA] at r;obtain ⟨a,g,rfl,_,h,q⟩:=r;cases d;obtain ⟨Q,G,m,j,M,L,K⟩:=obj_tup I (show gO X.K H a g from .inl (.inl h));obtain ⟨as,A⟩:=tH z q o j;exact ⟨_,.tuple M L K A⟩
  |ref k =>
   simp only[cw]at e;simp only[RA]at r;obtain⟨a,F,rfl⟩:=r;split at e
   ·rename_i C B
    obtain⟨y,o,l⟩:=zE.mp e;subst l;obtain⟨O,f,c⟩:=E.at B;rw[F]at f;cases f;obtain⟨_,g,h,q⟩:=c;exact lst (.inl (.inl h)) d fun j=>tH z q o j
   ·rename_i t B
    obtain⟨O,f,c⟩:=E.at B;rw[F]at f;cases f;exact z t _ p u c.2.lift e d
   ·cases e
end
noncomputable def Br:Ī->Option Í
 |.str a=>À a
 |_=>Á
theorem vI{p:Ī}{a:Í}(h:Br p=À a):p=.str a:=by
 cases p with
 |str b=>cases h;rfl
 |_=>cases h
def MU(p q:Ī):Option Bool:=(Br p).bind fun a=>(Br q).map fun b=>a==b
def rL(st:aa)(x y:AV):Option Bool:=(cw 9 st x).bind fun p=>(cw 9 st y).bind fun q=>if pyOk p q=Â then À (ã p q) else MU p q
noncomputable def kT:AV->Option aU
 |.int i=>À (.inl i)
 |.str x=>À (.inr x)
 |_=>Á
noncomputable def ox{a:Type}[DecidableEq a](Px:List (a×AV))(k:a):Option AV:=(Px.find? fun b=>decide (b.1=k)).map (·.2)
noncomputable def jJ(st:aa):AV->Option (List (aU×AV))
 |.ref k=>match st[k]? with
  |some (.dK Px)=>À Px
  |_=>Á
 |_=>Á
noncomputable def nX(st:aa):AV->Option (List (List aU×AV))
 |.ref k=>match st[k]? with
  |some (.dT Px)=>À Px
  |_=>Á
 |_=>Á
def oO(st:aa)(y x:AV):Option (Option AV):=match jJ st y with
 |some a=>(kT x).map fun k=>ox a k
 |none=>match nX st y with
  |some a=>match x with
   |.tup xs=>(aP kT xs).map fun k=>ox a k
   |_=>Á
  |none=>Á
def pH(st:aa)(x y:AV):Option Bool:=match oO st y x with
 |some o=>À o.isSome
 |none=>match x,y with
  |.str a,.str b=>À (!(Builtin.Str.occurrences b a 0 b.length 1).isEmpty)
  |_,_=>(cw 9 st x).bind fun q=>(cw 9 st y).bind fun p=>match p with
   |.list ps=>if(ps.all fun r=>pyOk r q)=Â then À (ps.any fun r=>ã r q) else Á
   |.tuple ps=>if(ps.all fun r=>pyOk r q)=Â then À (ps.any fun r=>ã r q) else Á
   |_=>Á
noncomputable def BZ:Ϡ->Int->Int->Option Bool
 |.Lt,a,b=>À (decide (a<b))
 |.LtE,a,b=>À (decide (a<=b))
 |.Gt,a,b=>À (decide (b<a))
 |.GtE,a,b=>À (decide (b<=a))
 |_,_,_=>Á
noncomputable def HM:AV->Bool
 |.non=>Â
 |_=>Ä
def IB(x y:AV):Option Bool:=match y with
 |.non=>À (HM x)
 |.bl b=>(match x with
  |.bl a=>À (a==b)
  |_=>Á)
 |_=>Á
def bg(o:Ϡ)(st:aa)(x y:AV):Option Bool:=match o with
 |.Eq=>rL st x y
 |.NotEq=>(rL st x y).map (!·)
 |.Is=>IB x y
 |.IsNot=>(IB x y).map (!·)
 |.In=>pH st x y
 |.NotIn=>(pH st x y).map (!·)
 |o=>match x,y with
  |.int a,.int b=>BZ o a b
  |_,_=>Á
def oQ(o:Ϡ)(st:aa)(x y:AV):Option AV:=(bg o st x y).map .bl
theorem qE(h:pyOk p q=Â):p.canLay0=Â/\q.canLay0=Â/\min p.depth q.depth<=50:=by
 simp only[pyOk,zC,yB]at h;exact⟨h.1.1,h.1.2,h.2⟩
theorem kM{P:Pr}{H:Hp}{φ:List Ç}{a:Type}[DecidableEq a]{Px:List (a×AV)}{ws:List (a×V)}(h:KVR mg P H φ Px ws)(k:a) :
  (ox Px k).isSome=(fF ws k).isSome/\∀v,ox Px k=À v->∃w,fF ws k=À w/\RA mg P H φ v w:=by
 induction Px generalizing ws with
 |nil =>
  have:ws=[]:=by simpa using h.1.symm
  subst this;exact⟨rfl,fun v e=>by cases e⟩
 |cons p Px f =>
  cases ws with
  |nil=>exact absurd h.1 (by simp)
  |cons q ws =>
   obtain⟨d,b⟩:=h;rw[zO,zO]at d b;injection d with h3 h4;simp only[PF]at b;obtain⟨v,m,l,j,i⟩:=b;injection l with h8 h9;subst h8;subst h9;by_cases e:q.1=k
   ·have c:p.1=k:=h3.trans e
    simp only[ox,fF,í,e,c,decide_true,Ì];refine⟨rfl,fun v g=>?_⟩;cases g;exact⟨_,rfl,j⟩
   ·have c:¬p.1=k:=fun z=>e (h3.symm.trans z)
    have:=f (ws:=ws) ⟨h4,i⟩
    simp only[ox,fF,í,e,c,decide_false]at this ⊢;exact this
section
variable{X:Cx}{Pw:List (Ç×Obj)}{σ:St}{H:Hp}{s:È}{P:Pr}{φ:List Ç}{st:aa}
theorem oJ(h:kT x=À k)(r:RA mg P H φ x v):v=kV k:=by
 cases x <;> simp only [kT] at h <;> first | (cases h;done) | skip
 ·cases h;simp only[RA]at r;exact r
 ·cases h;simp only[RA]at r;exact r
theorem rq[Pz]:∀{xs:List AV}{vs:List V}{k:List aU},aP kT xs=À k->PF mg P H φ xs vs->vs=k.map kV:=by
 intro xs
 induction xs with
 |nil=>intro vs k e r;cases e;simp only[PF]at r;exact r
 |cons x xs a =>
  intro vs k e r;simp only[aP]at e;obtain⟨p,f,d⟩:=zA e;obtain⟨h,c,b⟩:=zE.mp d;subst b;simp only[PF]at r;obtain⟨v,g,rfl,r1,r2⟩:=r;rw[oJ f r1,a c r2];rfl
theorem um[Pz](r:Sim X.gm P φ st H){x y:AV}{v w:V}{o:Option AV}(h:oO st y x=À o)(rx:RA X.gm P H φ x v)(i:RA X.gm P H φ y w) :
  ∃a o',w=.ref a/\DGet H a v o'/\o.isSome=o'.isSome/\∀t,o=À t->∃u,o'=À u/\RA X.gm P H φ t u:=by
 unfold oO at h;split at h
 ·rename_i C e
  obtain ⟨k,q,p⟩:=zE.mp h;subst p;cases y <;> simp only [jJ] at e <;> first | (cases e;done) | skip
  split at e
  ·rename_i j g n
   cases e;simp only[RA]at i;obtain⟨a,m,rfl⟩:=i;obtain⟨B,d,c⟩:=r.at n;rw[m]at d;cases d;obtain⟨_,z,l,f⟩:=c
   have:=oJ q rx
   subst this;exact⟨a,_,rfl,DGet.k l,(kM f k).1,(kM f k).2⟩
  ·cases e
 ·split at h
  ·rename_i C e
   split at h
   ·rename_i D
    obtain ⟨k,q,p⟩:=zE.mp h;subst p;cases y <;> simp only [nX] at e <;> first | (cases e;done) | skip
    split at e
    ·rename_i j g n
     cases e;simp only[RA]at i;obtain⟨a,m,rfl⟩:=i;obtain⟨B,d,c⟩:=r.at n;rw[m]at d;cases d;obtain⟨_,z,l,f⟩:=c;simp only[RA]at rx;obtain⟨b,E,rfl,_,s,A⟩:=rx;rw[rq q A]at s;exact⟨a,_,rfl,DGet.t l s,(kM f k).1,(kM f k).2⟩
    ·cases e
   ·cases h
  ·cases h
theorem uj(C:X.A.units+64<Ŗ){v:Å}{q:Ī}{b bs:List Ç}{ps:List Ī}{a:Array Å}(o:ű s.heap v q b)(l:d? s.heap a.toList ps bs)(y:(ps.all fun r=>pyOk r q)=Â) :
  ∃e:Å->Bool,(∀z∈a,SeqAt.EqAt X.A.in1 s z v (e z))/\a.any e=ps.any fun r=>ã r q:=by
 classical
 have k:∀z f c,ű s.heap z f c->decide (∃p b,ű s.heap z p b/\ã p q=Â)=ã f q:=by
  intro z f c d;rcases he:ã f q with _|_
  ·refine z9 ?_
   rintro⟨u,j,t,m⟩
   have:=(i? d u j t).1
   rw[<- this,he]at m;cases m
  ·exact yV ⟨f,c,d,he⟩
 refine⟨fun z=>decide (∃p b,ű s.heap z p b/\ã p q=Â),fun z hz=>?_,?_⟩
 ·obtain⟨g,c,i,d⟩:=reads_each l z (by simpa using hz)
  obtain⟨x,w,B⟩:=qE (yQ.mp y g i);dsimp only;rw[k z g c d];exact Ϸ g q _ s z v c b d o x w (by simp only[Around.in1_units];lia)
 ·have A:=any_vals (q:=q) (e:=fun z=>decide (∃p b,ű s.heap z p b/\ã p q=Â)) (h:=s.heap) (fun v p b n=>k v p b n) l
  rw[<- A];simp
theorem wf[Pz](J:X.A.units+64<Ŗ)(I:L2.Inv X Pw σ H s)(A:Sim X.gm P φ st H){x y:AV}{v w:V}{u r:Å}{b:Bool}(h:pH st x y=À b)(rx:RA X.gm P H φ x v)(l:RA X.gm P H φ y w)(m:RelV v u)(B:RelV w r){E:Å->È->Prop}
  {Q:Å->È->Prop}{Q':Å->È->Prop} (z:∀s',L2.Inv X Pw σ H s'->Q (.bool b) s') (d:∀s',L2.Inv X Pw σ H s'->Q' (.bool (!b)) s') :
  Î (model X.prog X.w) X.A (č .In u r) Q E s/\Î (model X.prog X.w) X.A (č .NotIn u r) Q' E s:=by
 unfold pH at h;split at h
 ·rename_i o e
  cases h;obtain⟨a,S,rfl,g,K,_⟩:=um A e rx l;cases B;exact⟨Nv oM I g m fun s' D=>by rw[<- K];exact z s' D,FD oM I g m fun s' D=>by rw[<- K];exact d s' D⟩
 ·split at h
  ·rename_i a c
   cases h;simp only[RA]at rx l;subst rx;subst l;obtain⟨t,rfl⟩:=m;obtain⟨R,rfl⟩:=B;exact⟨in_str (z s I),notIn_str (d s I)⟩
  ·obtain⟨q,O,N⟩:=zA h
   obtain⟨p,M,f⟩:=zA N;obtain⟨T,G⟩:=ik I A 9 _ _ _ _ rx O m;obtain⟨bs,F⟩:=ik I A 9 _ _ _ _ l M B;split at f
   ·rename_i L
    split at f
    ·rename_i C
     cases f;cases F with
     |@list a o items n xs as' hg hc hdt rall =>
      obtain⟨e,j,k⟩:=uj J G rall C;have i:s.heap.IsList a items:=⟨o,hg,hc,n,hdt⟩;exact⟨SeqAt.in_listAt e i j (by rw[k];exact z s I),SeqAt.notIn_listAt e i j (by rw[k];exact d s I)⟩
    ·cases f
   ·rename_i L
    split at f
    ·rename_i C
     cases f;cases F with
     |@tuple a o items n xs as' hg hc hdt rall =>
      obtain⟨e,j,k⟩:=uj J G rall C;have i:IsTup s.heap a items:=⟨o,hg,hc,n,hdt⟩;exact⟨SeqAt.in_tupleAt e i j (by rw[k];exact z s I),SeqAt.notIn_tupleAt e i j (by rw[k];exact d s I)⟩
    ·cases f
   ·cases f
end
section
variable{X:Cx}
theorem g_{T:Prop}(h:∀G:Prop,(T->G)->G):T:=h _ id
theorem Ae[Pz](T:X.A.units+64<Ŗ)(o:Ϡ):mI X (č o) (r2 X.gm (lM (oQ o))):=by
 rintro S s F H v w u r Q I m n ⟨P,φ,Y,x,y,l,rx,j,k⟩;obtain⟨z,e,k⟩:=k.map;obtain⟨b,g,e2⟩:=zE.mp e;subst e2;have au:∀J,L2.Inv X S F H J->EP X S F Q (.bool b) J:=fun J I'=>⟨.bl b,H,I',rfl,k.pure l (by simp only[RA])⟩
 have f:∀{o:Option Bool},o.map (!·)=À b->∃c,o=À c/\b=!c:=fun h=>by
  obtain⟨c,i,R⟩:=zE.mp h;exact⟨c,i,R.symm⟩
 have D:∀{c:Bool},rL Y x y=À c->∀{Q:Å->È->Prop}{E:Å->È->Prop},(Q (.bool c) s->Î (model X.prog X.w) X.A (č .Eq u r) Q E s)/\(Q (.bool (!c)) s->Î (model X.prog X.w) X.A (č .NotEq u r) Q E s):=by
  intro c h Q E;clear k au f g e;refine g_ fun G bk=>?_
  unfold rL at h;obtain⟨p,i,R⟩:=zA h;obtain⟨q,O,N⟩:=zA R;split at N
  ·rename_i hk
   cases N;obtain⟨W,V,hd⟩:=qE hk;obtain⟨as,C⟩:=ik I l 9 _ _ _ _ rx i m;obtain⟨bs,B⟩:=ik I l 9 _ _ _ _ j O n;exact bk ⟨fun q=>SeqAt.eqOverData _ _ _ _ _ _ _ _ _ _ _ _ C B W V oM q,fun q=>SeqAt.neOverData _ _ _ _ _ _ _ _ _ _ _ _ C B W V oM q⟩
  ·obtain⟨a,ha,h5⟩:=zA N
   obtain⟨b,hb,h6⟩:=zE.mp h5;subst h6;rw[vI ha]at i;rw[vI hb]at O;obtain⟨as,C⟩:=ik I l 9 _ _ _ _ rx i m;obtain⟨bs,B⟩:=ik I l 9 _ _ _ _ j O n;cases C;cases B;exact bk ⟨fun q=>eq_str q,fun q=>ne_str q⟩
 have L:∀{c:Bool},IB x y=À c->∀{Q:Å->È->Prop}{E:Å->È->Prop},(Q (.bool c) s->Î (model X.prog X.w) X.A (č .Is u r) Q E s)/\(Q (.bool (!c)) s->Î (model X.prog X.w) X.A (č .IsNot u r) Q E s):=by
  intro c h Q E;clear k au f g e D l;have Z:y=.non->c=(u==ŭ)->(Q (.bool c) s->Î (model X.prog X.w) X.A (č .Is u r) Q E s)/\(Q (.bool (!c)) s->Î (model X.prog X.w) X.A (č .IsNot u r) Q E s):=fun M U=>by
   subst M;simp only[RA]at j;subst j;cases n;exact⟨fun q=>is_none_gen (by rw[<- U];exact q),fun q=>isnot_none_gen (by rw[<- U];exact q)⟩
  cases y with
  |non =>
   have h:À (HM x)=À c:=h;cases h;refine Z rfl ?_;cases x with
   |non=>simp only[RA]at rx;subst rx;cases m;rfl
   | _=>rw [RelV.none_iff m];refine (z9 fun hv=>?_).symm;subst hv;simp only [RA] at rx;first | (cases rx;done) | (obtain ⟨_,_,z,_⟩:=rx;cases z;done) | (obtain ⟨_,_,z⟩:=rx;cases z;done)
  |bl d=>cases x with
   |bl a =>
    cases h;simp only[RA]at rx j;subst rx;subst j;cases m;cases n;cases a<;>cases d<;>exact⟨fun q=>yF q,fun q=>yF q⟩
   |_=>exact nomatch h
  |_=>exact nomatch h
 have K:∀{a c:Int},x=.int a->y=.int c->BZ o a c=À b->Î (model X.prog X.w) X.A (č o u r) (EP X S F Q) X.xe s:=by
  intro a c hx M A;clear D L f k g e l;subst hx;subst M;simp only [RA] at rx j;subst rx;subst j;obtain ⟨t,rfl⟩:=m;obtain ⟨t',rfl⟩:=n;cases o <;> simp only [BZ] at A <;> first | (cases A;done) | skip
  ·cases A;exact lt_int (au s I)
  ·cases A;exact le_int (au s I)
  ·cases A;exact gt_int (au s I)
  ·cases A;exact ge_int (au s I)
 cases o<;>simp only[bg]at g
 case Eq=>exact(D g).1 (au s I)
 case NotEq=>obtain⟨c,i,rfl⟩:=f g;exact(D i).2 (au s I)
 case Is=>exact(L g).1 (au s I)
 case IsNot=>obtain⟨c,i,rfl⟩:=f g;exact(L i).2 (au s I)
 case In=>exact(wf T I l g rx j m n (Q':=fun _ _=>True) au fun _ _=>trivial).1
 case NotIn=>obtain⟨c,i,rfl⟩:=f g;exact(wf T I l i rx j m n (Q:=fun _ _=>True) (fun _ _=>trivial) au).2
 all_goals
  split at g
  ·exact K rfl rfl g
  ·cases g
noncomputable def mU(a:Ϡ)(b:Ï):Bool:=!(ϯ a b)
theorem tX(h:mU op b=Â):ϯ op b=Ä:=by simpa [mU] using h
theorem G8[Pz](c:X.A.units+64<Ŗ)(h:QE X a f)(e:QE X b g)(d:mU o b=Â):QE X (.Compare a [o] [b] pos) (a2 f g (lM (oQ o))) :=
 PE_imp (E5 (Ae c o) h e (tX d)) fun _ _ _ q=>xX q
def Gj(f g:EF)(o:Ϡ):TF:=fun a c=>(f a c).bind fun p=>(g a p.2).bind fun q=>(bg o q.2 p.1 q.1).map fun b=>(b,q.2)
theorem GN[Pz](n:X.A.units+64<Ŗ)(v:QE X a f)(u:QE X b g)(t:mU o b=Â):QT X (.Compare a [o] [b] pos) (Gj f g o) :=
 PT_imp (EL (Ae n o) v u (tX t)) fun I H Q h=>by
  refine e7 h fun P G K J m s k=>?_
  refine xX (k:=lM (oQ o)) (i7 m s ?_);obtain⟨b,j,e,q⟩:=k;unfold Gj at e;obtain⟨p,D,C⟩:=zA e;obtain⟨r,B,A⟩:=zA C;obtain⟨c,z,y⟩:=zE.mp A;injection y with e7 e8;subst e7;subst e8;refine⟨.bl c,r.2,by simp only[a2,D,Ã,B,lM,oQ,z,Ì],fun E d F w x l i=>?_⟩;simp only[RA]at i;exact⟨c,i,q E d F c x l rfl⟩
noncomputable def iY(o:UnaryOp)(_:aa):AV->Option AV
 |.int i=>match o with
  |.USub=>À (.int (-i))
  |.Invert=>À (.int (T7 i))
  |_=>Á
 |_=>Á
theorem J8[Pz](j:QE X a f):QE X (.UnaryOp o a pos) (a1 f (Gy (iY o))):=by
 have h:A4 X (X3 o) (r1 X.gm (Gy (iY o))):=by
  rintro g s b H v u Q I d ⟨P,l,m,x,c,rx,k⟩;obtain ⟨z,e,k⟩:=k.map;cases x <;> simp only [iY] at e <;> first | (cases e;done) | skip
  rename_i i;simp only [RA] at rx;subst rx;cases o <;> first | (cases e;done) | skip
  ·cases e
   exact FT g s b H _ u Q I d ⟨i,rfl,k.pure c (by simp only[RA])⟩
  ·cases e
   exact FR g s b H _ u Q I d ⟨i,rfl,k.pure c (by simp only[RA])⟩
 exact PE_imp (Km h j) fun _ _ _ q=>NC q
def fH(st:aa)(v:AV):Option Bool:=match bN st v with
 |some a=>À !a.isEmpty
 |none=>match v with
  |.non=>À Ä
  |.bl b=>À b
  |.int i=>À (i !=0)
  |.str x=>if Û x.length 1000000=Â then À ((x.length:Int) !=0) else Á
  |.tup a=>À !a.isEmpty
  |v=>(jJ st v).map fun c=>!c.isEmpty
theorem rP(r:PF mg P H φ xs vs):vs.isEmpty=xs.isEmpty:=by
 cases xs with
 |nil=>simp only[PF]at r;subst r;rfl
 |cons x xs=>simp only[PF]at r;obtain⟨v,a,rfl,_⟩:=r;rfl
theorem Bk[Pz]{P:Pr}{H:Hp}{φ:List Ç}{st:aa}(i:Sim X.gm P φ st H){v:AV}{w:V}{b:Bool}(h:fH st v=À b)(r:RA X.gm P H φ v w):CK X.K w H b:=by
 unfold fH at h;split at h
 ·rename_i l e
  cases h;obtain⟨a,g,rfl,n,q⟩:=r.ls i e;exact .inl ⟨g,n,by rw[rP q]⟩
 ·cases v<;>simp only at h
  case non=>cases h;simp only[RA]at r;subst r;exact rfl
  case bl=>cases h;simp only[RA]at r;subst r;exact rfl
  case int=>cases h;simp only[RA]at r;subst r;exact rfl
  case str x =>
   simp only[RA]at r;subst r;split at h
   ·rename_i s;cases h;exact⟨z5 (zS s) dC,rfl⟩
   ·cases h
  case tup l =>
   cases h;simp only[RA]at r;obtain⟨a,g,rfl,_,e,q⟩:=r;exact .inr (.inl ⟨g,.inl (.inl e),by rw[rP q]⟩)
  case fz=>obtain⟨_,z,_⟩:=zE.mp h;simp[jJ]at z
  case ref k =>
   obtain⟨C,f,y⟩:=zE.mp h;subst y;simp only[jJ]at f;split at f
   ·rename_i j t
    cases f;simp only[RA]at r;obtain⟨a,u,rfl⟩:=r;obtain⟨B,d,c⟩:=i.at t;rw[u]at d;cases d;obtain⟨_,m,p,o,A⟩:=c;refine .inr (.inr ⟨m,p,?_⟩)
    have:=congrArg List.isEmpty o
    simpa using this
   ·cases f
def tV(f:EF):TF:=fun c a=>(f c a).bind fun p=>(fH p.2 p.1).map fun b=>(b,p.2)
theorem zj[Pz](o:QE X a f)(he:∀whole,B? a X.env whole=(do let v <- whole;Ŕ a.pos;holding [v] (truthy v))):QT X a (tV f) :=
 PT_imp (BG o he) fun z H Q h=>e7 h fun P y B A n s k=>i7 n s (by
  obtain⟨a,e,t,q⟩:=k.bind (Ra:=RA);refine⟨a,e,t,fun u d w b p m r1=>?_⟩;obtain⟨D,j,l,x,C,i,r2,g⟩:=q u d w b p m r1;obtain⟨c,r,g⟩:=g.map;exact⟨c,Bk i r r2,g.pure i rfl⟩)
noncomputable def LM(f g:TF):TF:=fun a b=>(f a b).bind fun p=>if p.1=Â then g a p.2 else À (Ä,p.2)
noncomputable def Gc(f g:TF):TF:=fun a b=>(f a b).bind fun p=>if p.1=Â then À (Â,p.2) else g a p.2
noncomputable def LJ(f:TF):TF:=fun b a=>(f b a).bind fun p=>À (!p.1,p.2)
section
variable{a b:Ï}{rest:List Ï}{pos:Ĝ}{f g:TF}
theorem GK[Pz](b:I?)(c:QT X a f):QW X (.BoolOp b [a] pos) f:=by
 cases b
 ·exact EK c
 ·exact Hc c
theorem GL[Pz](t:QT X a f)(r:QW X (.BoolOp .And (b::rest) pos) g):QW X (.BoolOp .And (a::b::rest) pos) (LM f g) :=
 PW_imp (He t r) fun C H Q j=>e7 j fun P B o D m s k=>i7 m s (by
  obtain⟨a,i,w,q⟩:=k.bind (Ra:=RB);refine⟨a,i,w,fun z e A c v p r1=>?_⟩;obtain⟨y,d,h,x,u,l,r2,n⟩:=q z e A c v p r1;cases r2;cases c with
  |true=>exact⟨y,d,o,h,m.frm u,l,n⟩
  |false=>exact n.pure l rfl)
theorem JY[Pz](t:QT X a f)(r:QW X (.BoolOp .Or (b::rest) pos) g):QW X (.BoolOp .Or (a::b::rest) pos) (Gc f g) :=
 PW_imp (Kd t r) fun C H Q j=>e7 j fun P B o D m s k=>i7 m s (by
  obtain⟨a,i,w,q⟩:=k.bind (Ra:=RB);refine⟨a,i,w,fun z e A c v p r1=>?_⟩;obtain⟨y,d,h,x,u,l,r2,n⟩:=q z e A c v p r1;cases r2;cases c with
  |false=>exact⟨y,d,o,h,m.frm u,l,n⟩
  |true=>exact n.pure l rfl)
theorem GM[Pz](n:QT X a f):QT X (.UnaryOp .Not a pos) (LJ f) :=
 PT_imp (Hf n) fun v H Q e=>e7 e fun P u y w l s k=>i7 l s (by
  obtain⟨a,d,p,q⟩:=k.bind (Ra:=RB);refine⟨a,d,p,fun r b t c o j r1=>?_⟩;obtain⟨A,g,h,x,z,i,r2,m⟩:=q r b t c o j r1;cases r2;exact m.pure i rfl)
end
noncomputable def DJ(f g:EF):EF:=fun a b=>(f a b).bind fun p=>match p.1 with
 |.bl Â=>g a p.2
 |.bl Ä=>À (.bl Ä,p.2)
 |_=>Á
noncomputable def DF(f g:EF):EF:=fun a b=>(f a b).bind fun p=>match p.1 with
 |.bl Ä=>g a p.2
 |.bl Â=>À (.bl Â,p.2)
 |_=>Á
noncomputable def Ml(f:EF):EF:=fun c a=>(f c a).bind fun p=>match p.1 with
 |.bl b=>À (.bl !b,p.2)
 |_=>Á
noncomputable def Mm(t:TF)(f g:EF):EF:=fun a b=>(t a b).bind fun p=>if p.1=Â then f a p.2 else g a p.2
section
variable{a b c:Ï}{rest:List Ï}{pos:Ĝ}{f g:EF}{t:TF}
theorem KG.no[Pz]{α a:Type}{Ra:Gm->Pr->Hp->List Ç->α->a->Prop}{Q:a->Hp->Prop}(h:KG mg Ra P φ H Á Q):False:=by obtain⟨_,_,e,_⟩:=h;cases e
theorem Ha[Pz](u:QE X a f)(t:QE X (.BoolOp .And (b::rest) pos) g):QE X (.BoolOp .And (a::b::rest) pos) (DJ f g) :=
 PE_imp (HB u t) fun D H Q m=>e7 m fun P C p E o s k=>i7 o s (by
  obtain⟨a,j,y,q⟩:=k.bind (Ra:=RA);refine⟨a,j,y,fun A h B c w r r1=>?_⟩;obtain⟨z,e,i,x,v,n,r2,l⟩:=q A h B c w r r1;cases x<;>first|exact l.no.elim|skip
  rename_i d;simp only[RA]at r2;refine⟨d,r2,?_⟩;cases d with
  |true=>exact⟨z,e,p,i,o.frm v,n,l⟩
  |false=>exact l.pure n (by simp only[RA]))
theorem Ka[Pz](u:QE X a f)(t:QE X (.BoolOp .Or (b::rest) pos) g):QE X (.BoolOp .Or (a::b::rest) pos) (DF f g) :=
 PE_imp (Kn u t) fun D H Q m=>e7 m fun P C p E o s k=>i7 o s (by
  obtain⟨a,j,y,q⟩:=k.bind (Ra:=RA);refine⟨a,j,y,fun A h B c w r r1=>?_⟩;obtain⟨z,e,i,x,v,n,r2,l⟩:=q A h B c w r r1;cases x<;>first|exact l.no.elim|skip
  rename_i d;simp only[RA]at r2;refine⟨d,r2,?_⟩;cases d with
  |false=>exact⟨z,e,p,i,o.frm v,n,l⟩
  |true=>exact l.pure n (by simp only[RA]))
theorem G5[Pz](o:QE X a f):QE X (.UnaryOp .Not a pos) (Ml f) :=
 PE_imp (Hv o) fun w H Q g=>e7 g fun P v z y n s k=>i7 n s (by
  obtain⟨a,e,r,q⟩:=k.bind (Ra:=RA);refine⟨a,e,r,fun t b u c p m r1=>?_⟩;obtain⟨B,i,j,x,A,l,r2,h⟩:=q t b u c p m r1;cases x<;>first|exact h.no.elim|skip
  rename_i d;simp only[RA]at r2;exact⟨d,r2,h.pure l (by simp only[RA])⟩)
theorem Kc[Pz](v:QT X c t)(y:QE X a f)(w:QE X b g):QE X (.IfExp c a b pos) (Mm t f g) :=
 PE_imp (BU v y w) fun E H Q l=>e7 l fun P D m F j s k=>i7 j s (by
  obtain⟨a,i,A,q⟩:=k.bind (Ra:=RB);refine⟨a,i,A,fun B h C c z u r1=>?_⟩;obtain⟨r,d,e,x,p,n,r2,o⟩:=q B h C c z u r1;cases r2;cases c with
  |true=>exact⟨r,d,m,e,j.frm p,n,o⟩
  |false=>exact⟨r,d,m,e,j.frm p,n,o⟩)
end
def aJ(st:aa)(x y:AV):Option AV:=match oO st x y with
 |some o=>o
 |none=>match y with
  |.int i=>match bN st x with
   |some a=>gy a i
   |none=>match ju st x with
    |some a=>gy a i
    |none=>match x with
     |.str z=>if Û z.length 1000000=Â then(gy z.cps.toList i).map fun c=>.str ⟨#[c]⟩ else Á
     |_=>Á
  |_=>Á
theorem qU{i:Int}(r:PF mg P H φ xs vs)(h:gy xs i=À x):∃v,gy vs i=À v/\RA mg P H φ x v:=by
 unfold gy at h ⊢;rw[<- r.length];obtain⟨j,b,a⟩:=zA h;rw[b,Ã];exact r.get a
theorem Fq(o:X.A.units+64<Ŗ):IxR X (fun x y H Q=>∃a v,x=.ref a/\DGet H a y (À v)/\Q v H):=by
 rintro b c k s h H x y v u Q I rx i ⟨a,t,ex,g,q⟩ j;subst ex;cases rx;have f:=vq I g;unfold Ϯ;refine yE ?_;rw[getitemInPython_of_ne f.not_modules];refine yE (Z3 f PySem.F.slot_dict_getitem.lookup ?_);have au:Î (model X.prog X.w) X.A (subscripted c Ä (.ref a) u) (fun r d=>Î (model X.prog X.w) X.A (letTemporaryGo b (.ref a) r>>=fun _=>pure r) (EP X k h Q) X.xe d) X.xe s:=by
  rw[j];exact wpAny_operating (AM oM I g i fun m n l e=>yE (wpAny_letTemporaryGo (yF ⟨t,H,l,e,q⟩)))
 first
  |exact yF (yE au)
  |exact yE (yF (yE au))
  |exact yE au
theorem Ni[Pz](J:X.A.units+64<Ŗ):IxR X (r2 X.gm (lM aJ)):=by
 rintro b d A s l H v w u r Q I m n ⟨P,O,R,x,y,f,rx,C,F⟩ p;obtain⟨z,e,k⟩:=F.map;clear F;unfold aJ at e;split at e
 ·rename_i o M
  subst e;obtain⟨a,S,rfl,g,_,L⟩:=um f M C rx;obtain⟨t,rfl,h⟩:=L z rfl;exact Fq J b d A s l H _ _ u r Q I m n ⟨a,t,rfl,g,k.pure f h⟩ p
 ·cases y with
  |int i =>
   simp only[RA]at C;subst C;dsimp only at e;split at e
   ·rename_i G E
    obtain⟨a,B,rfl,D,q⟩:=rx.ls f E;obtain⟨t,j,h⟩:=qU q e;exact uf b d A s l H _ _ u r Q I m n (.inl ⟨a,B,i,t,rfl,rfl,D,j,k.pure f h⟩) p
   ·split at e
    ·rename_i G E
     obtain⟨a,B,rfl,D,q⟩:=rx.tp f E;obtain⟨t,j,h⟩:=qU q e;exact uf b d A s l H _ _ u r Q I m n (.inr (.inl ⟨a,B,i,t,rfl,rfl,.inl (.inl D),j,k.pure f h⟩)) p
    ·cases x with
     |str x =>
      dsimp only at e;split at e
      ·rename_i K
       obtain⟨c,N,j⟩:=zE.mp e;subst j;simp only[RA]at rx;subst rx;exact uf b d A s l H _ _ u r Q I m n (.inr (.inr ⟨x,i,c,rfl,rfl,z5 (zS K) dC,N,k.pure f (by simp only[RA])⟩)) p
      ·cases e
     |_=>cases e
  |_=>cases e
theorem Kb[Pz](c:X.A.units+64<Ŗ)(h:QE X a f)(e:QE X b g)(d:qW b):QE X (.Subscript a b pos) (a2 f g (lM aJ)) :=
 PE_imp (Kq (Ni c) h e d) fun _ _ _ q=>xX q
noncomputable def Mj(g:AF):EF:=fun b a=>(g b a).bind fun p=>if Û p.1.length 1000=Â then À (.tup p.1,p.2) else Á
theorem G3[Pz]{l:Nat}(h:QA X es g):QE X (.Tuple es l pos) (Mj g) :=
 PE_imp (Hs h) fun E H Q f=>e7 f fun P D I G u s k=>i7 u s (by
  obtain⟨a,e,A,q⟩:=k.bind (Ra:=PF);refine⟨a,e,A,fun B c C d y t r1=>?_⟩;obtain⟨K,j,m,F,J,r,r2,b⟩:=q B c C d y t r1;dsimp only at b;split at b
  ·rename_i x
   refine⟨by rw[<- r2.length];exact z5 (zS x) dC,fun p w=>?_⟩;obtain⟨i,n⟩:=lS (o:=.tup d) r w;obtain⟨_,_,z,v⟩:=b;cases z;refine v _ _ _ _ i n ?_;simp only[RA];exact⟨p,d,rfl,.inr rfl,ar,r2.frm i⟩
  ·exact b.no.elim)
end
mutual
noncomputable def db:AV->AV->Bool
 |.non,.non=>Â
 |.bl a,.bl b=>a==b
 |.int a,.int b=>a==b
 |.str a,.str b=>a==b
 |.ref a,.ref b=>a==b
 |.tup a,.tup b=>fZ a b
 |.fz a,.fz b=>fZ a b
 |_,_=>Ä
noncomputable def fZ:List AV->List AV->Bool
 |[],[]=>Â
 |x::xs,y::ys=>db x y&&fZ xs ys
 |_,_=>Ä
end
mutual
theorem wE:∀{x y:AV},db x y=Â->x=y
 |.non,y,h=>by cases y<;>simp only[db]at h<;>first|rfl|cases h
 | .bl a,y,h=>by cases y <;> simp only [db] at h <;> first | (rw [yJ h]) | cases h
 | .int a,y,h=>by cases y <;> simp only [db] at h <;> first | (rw [yJ h]) | cases h
 | .str a,y,h=>by cases y <;> simp only [db] at h <;> first | (rw [yJ h]) | cases h
 | .ref a,y,h=>by cases y <;> simp only [db] at h <;> first | (rw [yJ h]) | cases h
 | .tup a,y,h=>by cases y <;> simp only [db] at h <;> first | (rw [kD h]) | cases h
 | .fz a,y,h=>by cases y <;> simp only [db] at h <;> first | (rw [kD h]) | cases h
theorem kD:∀{xs ys:List AV},fZ xs ys=Â->xs=ys
 |[],ys,h=>by cases ys<;>simp only[fZ]at h<;>first|rfl|cases h
 |x::xs,ys,h=>by
  cases ys with
  |nil=>simp only[fZ]at h;cases h
  |cons y ys =>
   simp only[fZ,zC]at h;rw[wE h.1,kD h.2]
end
mutual
theorem AY:∀x:AV,db x x=Â
 |.non=>by simp only[db]
 |.bl a=>by simp[db]
 |.int a=>by simp[db]
 |.str a=>by simp[db]
 |.ref a=>by simp[db]
 |.tup a=>by simp only[db];exact jL a
 |.fz a=>by simp only[db];exact jL a
theorem jL:∀xs:List AV,fZ xs xs=Â
 |[]=>by simp only[fZ]
 |x::xs=>by simp only[fZ,AY x,jL xs,ť]
end
abbrev Gd:=List (Nat×PC)
def xS:PC->PC->Bool
 |.lst a,.lst b=>fZ a b
 |.dK a,.dK b=>decide (a.map (·.1)=b.map (·.1))&&fZ (a.map (·.2)) (b.map (·.2))
 |_,_=>Ä
def cx:Gd->aa->Bool
 |[],_=>Â
 |g::gs,st=>(match st[g.1]? with|some c=>xS c g.2|none=>Ä)&&cx gs st
theorem Cr{k:Nat}{xs:List AV}{gs:Gd}{st:aa}(h:cx ((k,.lst xs)::gs) st=Â):st[k]?=À (.lst xs)/\cx gs st=Â:=by
 simp only[cx,zC]at h;refine⟨?_,h.2⟩;have h:=h.1;split at h
 ·rename_i c e
  cases c <;> simp only [xS] at h <;> first | (cases h;done) | skip
  rw[e,kD h]
 ·cases h
theorem wu{a b:Gd}{st:aa}(h:cx (a++b) st=Â):cx a st=Â/\cx b st=Â:=by
 induction a with
 |nil=>exact⟨rfl,h⟩
 |cons g a c =>
  simp only[ϳ,cx,zC]at h ⊢;exact⟨⟨h.1,(c h.2).1⟩,(c h.2).2⟩
structure Iv where
 PB:List AV
 gd:Gd
abbrev IF:=Sl->aa->Option (Iv×aa)
structure vj[Pz](mg:Gm)(J:It)(iv:Iv)(P:Pr)(φ:List Ç)(H:Hp):Prop where
 go:∀P2 φ2 H2 st2 (i:Nat) x,Frm P φ H P2 φ2 H2->Sim mg P2 φ2 st2 H2->cx iv.gd st2=Â->iv.PB[i]?=À x->J.go i H2/\∀v H3,J.yld i H2 v H3->∃P3,Frm P2 φ2 H2 P3 φ2 H3/\Sim mg P3 φ2 st2 H3/\RA mg P3 H3 φ2 x v
 stop:∀P2 φ2 H2 st2,Frm P φ H P2 φ2 H2->Sim mg P2 φ2 st2 H2->cx iv.gd st2=Â->J.stop iv.PB.length H2
def rI[Pz](mg:Gm)(f:IF):TI:=fun j H R=>∃P d h g,PM mg P H d h j/\Sim mg P d g H/\∃i b,f h g=À (i,b)/\∀e a c J,Frm P d H e a c->Sim mg e a b c->vj mg J i e a c->R J c
def QI[Pz](X:Cx)(b a:Ï)(f:IF):Prop:=PI X b a (rI X.gm f)
theorem g8(h:PI X tg iter t)(i:∀σ H R,t' σ H R->t σ H R):PI X tg iter t':=fun b s σ H R I a=>h b s σ H R I (i σ H R a)
def jb(st:aa)(v:AV):Option Iv:=match dr st v with
 |.fz a=>À ⟨a,[]⟩
 |.ref k=>match st[k]? with
  |some (.lst a)=>À ⟨a,[(k,.lst a)]⟩
  |_=>Á
 |_=>Á
section
variable{mg:Gm}{P:Pr}{φ:List Ç}{st:aa}{H:Hp}{v:AV}{w:V}{iv:Iv}
theorem l7[Pz](s:Sim mg P φ st H)(r:RA mg P H φ v w)(h:jb st v=À iv):∃a,w=.ref a/\∀P2 φ2 H2 st2,Frm P φ H P2 φ2 H2->Sim mg P2 φ2 st2 H2->cx iv.gd st2=Â->∃vs,bJ mg.K H2 a vs/\PF mg P2 H2 φ2 iv.PB vs:=by
 have r:=r.dr s;unfold jb at h;split at h
 ·rename_i j e
  cases h;rw[e]at r;simp only[RA]at r;obtain⟨a,vs,d,b,q⟩:=r;refine⟨a,d,fun P2 φ2 H2 st2 f _ _=>⟨vs,(b.mono f.ext).sq,?_⟩⟩;exact PF.lift (q.mono f.ext fun k a e=>by simp at e)
 ·rename_i k e
  rw[e]at r;simp only[RA]at r;obtain⟨a,d,b⟩:=r;split at h
  ·rename_i j o
   cases h;refine⟨a,b,fun P2 φ2 H2 st2 f l g=>?_⟩;obtain⟨g1,_⟩:=Cr g;obtain⟨p,i,c⟩:=l.at g1;rw[f.ix k a d]at i;cases i;obtain⟨_,vs,n,m⟩:=c;exact⟨vs,.inl (.inl n),m⟩
  ·cases h
 ·cases h
end
section
variable{X:Cx}{tg e a b:Ï}{es:List Ï}{pos p:Ĝ}
def pD(st:aa)(v:AV):Option Iv:=match v with
 |.str x=>if x.cps.all (·<128)=Â then À ⟨x.cps.toList.map fun c=>.str ⟨#[c]⟩,[]⟩ else Á
 |v=>match ju st v with
  |some a=>À ⟨a,[]⟩
  |none=>jb st v
def iE(f:EF):IF:=fun b a=>(f b a).bind fun p=>(pD p.2 p.1).map fun c=>(c,p.2)
theorem Hn[Pz](r:PE X e tl):PI X tg e (fun σ H R=>tl σ H fun x H1=>(∃a,x=.ref a/\(∃xs,bJ X.K H1 a xs)/\R (DQ X.K a) H1)\/(∃a,x=.ref a/\(∃xs,gO X.K H1 a xs)/\R (DN X.K a) H1)\/∃x':Í,x=.str x'/\x'.cps.all (·<128)=Â/\R (DO x') H1):=by
 intro j s σ H R I h;refine aB (r j s σ H _ I h) fun v c f=>?_
 obtain⟨x,H1,d,r1,m⟩:=f;have i:∀b∈[c.heap.objs.size],d6 X j H1 b:=fun b u=>by
  have e:b=c.heap.objs.size:=by simpa using u
  subst e;exact d.fpOk (zP _) (d.PJ.fresh (zP _))
 rcases m with⟨a,e,⟨xs,g⟩,q⟩|⟨a,e,⟨xs,g⟩,q⟩|⟨y,e,n,q⟩
 ·subst e
  cases r1;obtain⟨k,l,p,hz⟩:=d.list g;refine Đ p.isList ?_;exact⟨c.heap.objs.size,[c.heap.objs.size],_,_,H1,rfl,d.kept (t':=c.toks) fun b o e=>zG _ e,yk a _,⟨_,zY _ rfl,rfl,rfl⟩,i,q⟩
 ·subst e
  cases r1;obtain ⟨k,l,p,hz⟩:=d.tuple g;refine wpAny_pyIter_tuple (show c.heap.IsTuple a k.toArray from p) ?_;exact ⟨c.heap.objs.size,[c.heap.objs.size],_,_,H1,rfl,d.kept (t':=c.toks) fun b o e=>zG _ e,wQ a _,⟨_,zY _ rfl,rfl,rfl⟩,i,q⟩
 ·subst e
  obtain⟨t,rfl⟩:=r1;refine wpAny_pyIter_ascii n ?_;exact⟨c.heap.objs.size,[c.heap.objs.size],_,_,H1,rfl,d.kept (t':=c.toks) fun b o e=>zG _ e,Bj y t _,⟨_,zY _ rfl,rfl,rfl⟩,i,q⟩
theorem Ck[Pz]{mg:Gm}{P:Pr}{φ:List Ç}{H:Hp}{K:Ü}{a:Ç}{d:Iv}(h:∀P2 φ2 H2 st2,Frm P φ H P2 φ2 H2->Sim mg P2 φ2 st2 H2->cx d.gd st2=Â->∃vs,bJ K H2 a vs/\PF mg P2 H2 φ2 d.PB vs):vj mg (DQ K a) d P φ H where
 go:=fun P2 φ2 H2 st2 i x f s g e=>by
  obtain⟨vs,b,c⟩:=h P2 φ2 H2 st2 f s g;obtain⟨v,k,r1⟩:=c.get e;refine⟨⟨vs,v,b,k⟩,fun w n j=>?_⟩;obtain⟨m,l⟩:=j;subst m
  have:=l vs b
  rw[k]at this;cases this;exact⟨P2,Frm.refl,s,r1⟩
 stop:=fun P2 φ2 H2 st2 f s g=>by
  obtain⟨vs,b,c⟩:=h P2 φ2 H2 st2 f s g;exact⟨vs,b,by rw[<- c.length];exact zP _⟩
theorem Fu[Pz]{mg:Gm}{P:Pr}{φ:List Ç}{H:Hp}{K:Ü}{a:Ç}{xs:List AV}{vs:List V}(j:P a)(k:H a=À (.tup vs))(h:PF mg P H φ xs vs):vj mg (DN K a) ⟨xs,[]⟩ P φ H where
 go:=fun n b o c i x f s g e=>by
  obtain⟨v,m,r1⟩:=(h.frm f).get e;have l:gO K o a vs:=.inl (.inl ((f.ext a j).2.trans k));refine⟨⟨vs,v,l,m⟩,fun w r d=>?_⟩;obtain⟨q,p⟩:=d;subst q
  have:=p vs l
  rw[m]at this;cases this;exact⟨n,Frm.refl,s,r1⟩
 stop:=fun n b o c f s g=>⟨vs,.inl (.inl ((f.ext a j).2.trans k)),by rw[<- h.length];exact zP _⟩
theorem Fv[Pz]:vj mg (DO x) ⟨x.cps.toList.map fun c=>.str ⟨#[c]⟩,[]⟩ P φ H where
 go:=fun k a o b i y f s g e=>by
  rw[zR]at e;obtain⟨c,h,n⟩:=zE.mp e;rw[Array.getElem?_toList]at h;subst n;refine⟨⟨c,h⟩,fun w q d=>?_⟩;obtain⟨m,p,j,l⟩:=d;subst m;rw[h]at j;cases j;exact⟨k,Frm.refl,s,by simp only[RA];exact l⟩
 stop:=fun k a o b f s g=>by
  show x.cps[_]?=Á;simp
theorem lZ{st:aa}{v:AV}{a:Iv}(h:jb st v=À a):cx a.gd st=Â:=by
 unfold jb at h;split at h
 ·cases h;rfl
 ·split at h
  ·rename_i k _ c b
   cases h;simp only[cx];rw[b];simp only[xS,jL,ť]
  ·cases h
 ·cases h
theorem M5[Pz](G:QE X e f):QI X tg e (iE f):=g8 (Hn G) fun N H R ⟨P,M,S,Q,z,s,E,y,t,k⟩=>i7 z s (by
 unfold iE at t;obtain⟨p,L,K⟩:=zA t;obtain⟨D,b,J⟩:=zE.mp K;cases J;refine⟨p.1,p.2,L,fun l c d w r i r1=>?_⟩;unfold pD at b;have q:∀v:AV,p.1=v->(match ju p.2 v with|some g=>À ⟨g,[]⟩|none=>jb p.2 v)=À E->((∃a,w=.ref a/\(∃g,bJ X.K d a g)/\R (DQ X.K a) d)\/(∃a,w=.ref a/\(∃g,gO X.K d a g)/\R (DN X.K a) d)\/∃m:Í,w=.str m/\m.cps.all (·<128)=Â/\R (DO m) d):=by
  intro v ev b;rw[ev]at r1;split at b
  ·rename_i g j
   cases b;have r2:=r1.dr i;unfold ju at j;split at j
   ·rename_i O I
    cases j;rw[I]at r2;simp only[RA]at r2;obtain⟨a,n,rfl,C,u,B⟩:=r2;exact .inr (.inl ⟨a,rfl,⟨n,.inl (.inl u)⟩,k l c d _ r i (Fu C u B)⟩)
   ·cases j
  ·obtain⟨a,rfl,h⟩:=l7 i r1 b
   obtain⟨n,A,_⟩:=h l c d p.2 Frm.refl i (lZ b);exact .inl ⟨a,rfl,⟨n,A⟩,k l c d _ r i (Ck h)⟩
 cases o:p.1 with
 |str x =>
  rw[o]at b r1;simp only at b;split at b
  ·rename_i F
   cases b;simp only[RA]at r1;exact .inr (.inr ⟨x,r1,F,k l c d _ r i Fv⟩)
  ·cases b
 |_=>rw[o]at b;exact q _ o b)
noncomputable def fW(i:Int):Bool:=Û i.natAbs.log2 60
noncomputable def dP(i:Int)(n:Nat):List AV:=(É n).map fun k=>.int (i+(k:Nat))
def Dn(f:EF):IF:=fun b a=>(f b a).bind fun p=>match p.1 with
 |.int j=>if fW j=Â then À (⟨dP 0 j.toNat,[]⟩,p.2) else Á
 |_=>Á
def Dm(f g:EF):IF:=fun a b=>(f a b).bind fun p=>(g a p.2).bind fun q=>match p.1,q.1 with
 |.int i,.int j=>if(fW i&&fW j)=Â then À (⟨dP i (j-i).toNat,[]⟩,q.2) else Á
 |_,_=>Á
theorem gQ{i:Int}(h:fW i=Â):-(2^62)<=i/\i<2^62:=by
 have:=log2_lt h
 have e:(2:Nat)^(60+1)=2305843009213693952:=by decide
 rw[e]at this;lia
theorem v8[Pz]{i:Int}{n:Nat}:vj mg (A9 i n) ⟨dP i n,[]⟩ P φ H where
 go:=fun l a r b k y f s g e=>by
  unfold dP at e;rw[zR]at e;obtain⟨c,q,p⟩:=zE.mp e;obtain⟨j,h⟩:=zB.mp q;rw[R9]at h;subst h p;rw[Ń]at j;refine⟨j,fun w t d=>?_⟩;obtain⟨o,m⟩:=d;subst o;exact⟨l,Frm.refl,s,by simp only[RA];exact m⟩
 stop:=fun l a r b f s g=>by
  show n<=(dP i n).length;simp[dP]
theorem zh[Pz]{mg:Gm}{f:EF}{σ:St}{H:Hp}{Q:List V->Hp->Prop}{P:Pr}{φ:List Ç}{sl:Sl}{st:aa}(b:PM mg P H φ sl σ)(s:Sim mg P φ st H)
  (h:∃v st1,f sl st=À (v,st1)/\∀P1 φ1 H1 w,Frm P φ H P1 φ1 H1->Sim mg P1 φ1 st1 H1->RA mg P1 H1 φ1 v w->Q [w] H1):rA mg (dX f eL) σ H Q:=by
 obtain⟨v,st1,e,k⟩:=h;refine i7 b s ⟨[v],st1,by simp only[dX,eL,e,Ã],fun P1 φ1 H1 d c a r1=>?_⟩;simp only[PF]at r1;obtain⟨w,g,rfl,r,rfl⟩:=r1;exact k P1 φ1 H1 w c a r
theorem GJ[Pz]{mg:Gm}{f g:EF}{σ:St}{H:Hp}{Q:List V->Hp->Prop}{P:Pr}{φ:List Ç}{sl:Sl}{st:aa}(c:PM mg P H φ sl σ)(s:Sim mg P φ st H)
  (h:∃v st1 u st2,f sl st=À (v,st1)/\g sl st1=À (u,st2)/\∀P1 φ1 H1 w w',Frm P φ H P1 φ1 H1->Sim mg P1 φ1 st2 H1->RA mg P1 H1 φ1 v w->RA mg P1 H1 φ1 u w'->Q [w,w'] H1):rA mg (dX f (dX g eL)) σ H Q:=by
 obtain⟨v,st1,u,st2,e,j,k⟩:=h;refine i7 c s ⟨[v,u],st2,by simp only[dX,eL,e,j,Ã],fun P1 φ1 H1 l i b r1=>?_⟩;simp only[PF]at r1;obtain⟨w,m,rfl,r,w',a,rfl,d,rfl⟩:=r1;exact k P1 φ1 H1 w w' i b r d
theorem J6[Pz](o:Gl X "range")(n:X.mg "range"=Á)(r:QE X a f)(e:Ê [a] X.env=[(Ä,eval a X.env)]):QI X tg (.Call (.Name "range" p) [a] [] pos) (Dn f) :=
 g8 (zx o n (cM r eU (by rw[e];rfl)) e) fun B H R d=>by
  refine e7 d fun P A D C l s m=>?_
  obtain⟨E,h,v,k⟩:=m;obtain⟨q,x,b⟩:=zA v;refine zh l s ⟨q.1,q.2,x,fun y c z w t i r1=>?_⟩;split at b
  ·rename_i j u
   rw[u]at r1;split at b
   ·rename_i g
    cases b;simp only[RA]at r1;subst r1;exact⟨j,rfl,(gQ g).1,(gQ g).2,k y c z _ t i v8⟩
   ·cases b
  ·cases b
theorem J5[Pz](z:Gl X "range")(y:X.mg "range"=Á)(A:QE X a f)(l:QE X b g)(m:Ê [a,b] X.env=[(Ä,eval a X.env),(Ä,eval b X.env)])(c:Ê [b] X.env=[(Ä,eval b X.env)]) :
  QI X tg (.Call (.Name "range" p) [a,b] [] pos) (Dm f g) :=
 g8 (zw z y (cM A (cM l eU (by rw[c];rfl)) (by rw[m,c])) m c) fun M H R h=>by
  refine e7 h fun P L Q O v s x=>?_
  obtain⟨S,t,E,k⟩:=x;obtain⟨q,I,G⟩:=zA E;obtain⟨r,F,d⟩:=zA G;refine GJ v s ⟨q.1,q.2,r.1,r.2,I,F,fun J e K w N B u r1 r2=>?_⟩;split at d
  ·rename_i i j D C
   rw[D]at r1;rw[C]at r2;split at d
   ·rename_i l
    cases d;obtain⟨o,n⟩:=Ĉ.mp l;simp only[RA]at r1 r2;subst r1;subst r2;exact⟨i,j,rfl,⟨(gQ o).1,(gQ o).2,(gQ n).1,(gQ n).2⟩,k J e K _ B u v8⟩
   ·cases d
  ·cases d
def iZ(f g:EF):IF:=fun a b=>(f a b).bind fun p=>(g a p.2).bind fun q=>(jb q.2 p.1).bind fun x=>(jb q.2 q.1).bind fun y=>À (⟨(x.PB.zip y.PB).map fun z=>.tup [z.1,z.2],x.gd++y.gd⟩,q.2)
theorem vQ[Pz]{mg:Gm}{P:Pr}{φ:List Ç}{st:aa}{H:Hp}{p:Ç}{x y:AV}{u w:V}(s:Sim mg P φ st H)(d:H p=Á)(rx:RA mg P H φ x u)(c:RA mg P H φ y w) :
  ∃P3,Frm P φ H P3 φ (ag H p (.tup [u,w]))/\Sim mg P3 φ st (ag H p (.tup [u,w]))/\RA mg P3 (ag H p (.tup [u,w])) φ (.tup [x,y]) (.ref p):=by
 obtain⟨a,b⟩:=lS (o:=.tup [u,w]) s d;refine⟨_,a,b,?_⟩;simp only[RA];exact⟨p,[u,w],rfl,.inr rfl,ar,aR (rx.frm a) (aR (c.frm a) aZ)⟩
theorem GY[Pz]{x1:Nat}(hg:Gl X "zip")(hm:X.mg "zip"=Á)(ha:QE X a f)(hb:QE X b g)(V:Ê [a,b] X.env=[(Ä,eval a X.env),(Ä,eval b X.env)])(l:Ê [b] X.env=[(Ä,eval b X.env)]) :
  QI X (.Tuple elts x1 tpos) (.Call (.Name "zip" p) [a,b] [] pos) (iZ f g) :=
 g8 (Hm hg hm (cM ha (cM hb eU (by rw[l];rfl)) (by rw[V,l])) V l) fun σ H R m=>by
  refine e7 m fun P φ sl st rs s q0=>?_
  obtain⟨iv,st',ef,k⟩:=q0;obtain⟨q,e1,e2⟩:=zA ef;obtain⟨r,e3,e4⟩:=zA e2;obtain⟨x,W,e6⟩:=zA e4;obtain⟨y,e7,e8⟩:=zA e6;cases e8;refine GJ rs s ⟨q.1,q.2,r.1,r.2,e1,e3,fun T j U w w' f1 o r1 r2=>?_⟩;obtain⟨a1,rfl,O⟩:=l7 o r1 W;obtain⟨a2,rfl,N⟩:=l7 o r2 e7;obtain⟨vs,K,_⟩:=O T j U r.2 Frm.refl o (lZ W);obtain⟨us,J,_⟩:=N T j U r.2 Frm.refl o (lZ e7);refine⟨a1,a2,rfl,⟨vs,K⟩,⟨us,J⟩,k T j U _ f1 o ⟨fun B c C d i t A n S F=>?_,fun B c C d A n S=>?_⟩⟩
  ·obtain⟨ga,Q⟩:=wu S
   obtain⟨e,I,M⟩:=O B c C d A n ga;obtain⟨h,G,L⟩:=N B c C d A n Q;rw[zR]at F;obtain⟨z,ez,F⟩:=zE.mp F;subst F;obtain⟨hx,hy⟩:=Ś.mp ez;obtain⟨u1,Z,b1⟩:=M.get hx;obtain⟨u2,Y,b2⟩:=L.get hy;refine⟨⟨e,h,u1,u2,I,G,Z,Y⟩,fun v H3 m=>?_⟩;obtain⟨pp,u,w,E,D,hp,hH,hv⟩:=m;have E:=E e I;have D:=D h G;rw[Z]at E;rw[Y]at D;cases E;cases D;subst hH;subst hv;exact vQ n hp b1 b2
  ·obtain⟨ga,Q⟩:=wu S
   obtain⟨e,I,M⟩:=O B c C d A n ga;obtain⟨h,G,L⟩:=N B c C d A n Q;refine⟨e,h,I,G,?_⟩;rw[<- M.length,<- L.length];simp only[zH,ą];lia
noncomputable def fD(n0:Nat)(xs:List AV):List AV:=(xs.zipIdx n0).map fun z=>.tup [.int ((z.2:Nat):Int),z.1]
theorem ug[Pz]{mg:Gm}{P:Pr}{φ:List Ç}{H:Hp}{K:Ü}{a:Ç}{b:Iv}{n0:Nat}(h:∀P2 φ2 H2 st2,Frm P φ H P2 φ2 H2->Sim mg P2 φ2 st2 H2->cx b.gd st2=Â->∃vs,bJ K H2 a vs/\PF mg P2 H2 φ2 b.PB vs):vj mg (Ba K a n0) ⟨fD n0 b.PB,b.gd⟩ P φ H where
 go:=fun P2 φ2 H2 st2 i x f s g e=>by
  obtain⟨vs,c,d⟩:=h P2 φ2 H2 st2 f s g;unfold fD at e;rw[zR,ž]at e;cases hz:b.PB[i]? with
  |none=>rw[hz]at e;cases e
  |some y =>
   rw[hz]at e;cases e;obtain⟨v,k,r1⟩:=d.get hz;refine⟨⟨vs,v,c,k⟩,fun w q j=>?_⟩;obtain⟨p,u,l,n,o,m⟩:=j
   have:=l vs c
   rw[k]at this;cases this;subst o;subst m;exact vQ s n (by simp only[RA]) r1
 stop:=fun P2 φ2 H2 st2 f s g=>by
  obtain⟨vs,c,d⟩:=h P2 φ2 H2 st2 f s g;exact⟨vs,c,by rw[<- d.length];simp[fD]⟩
def L9(f:EF):IF:=fun c b=>(f c b).bind fun p=>(jb p.2 p.1).map fun a=>(⟨fD 0 a.PB,a.gd⟩,p.2)
theorem J7[Pz]{m:Nat}(x:Gl X "enumerate")(v:X.mg "enumerate"=Á)(y:QE X a f)(g:Ê [a] X.env=[(Ä,eval a X.env)]) :
  QI X (.Tuple elts m tpos) (.Call (.Name "enumerate" p) [a] [] pos) (L9 f) :=
 g8 (EV x v (cM y eU (by rw[g];rfl)) g) fun F H R e=>by
  refine e7 e fun P E I G r s t=>?_
  obtain⟨J,o,A,k⟩:=t;obtain⟨q,D,C⟩:=zA A;obtain⟨u,i,B⟩:=zE.mp C;cases B;refine zh r s ⟨q.1,q.2,D,fun j b l w z c r1=>?_⟩;obtain⟨a1,rfl,h⟩:=l7 c r1 i;obtain⟨n,d,_⟩:=h j b l q.2 Frm.refl c (lZ i);exact⟨a1,rfl,⟨n,d⟩,k j b l _ z c (ug h)⟩
end
end R
namespace L2
open PySem PySem.Spec PyProof.Rows
section
variable{prog:Ò}{w:Ù}{A:Ć}{E:Å->È->Prop}{s:È}
theorem AK(l:Ç)(items:Array Å)(n:Nat)(dct:Option Ç)(sl:Array (Option Å))(t:Tok)(i:Int)(hf:ļ i=Â) :
  Meets (x?.«enumerate.__new__» ⟨[.type "enumerate",.ref l],[("start",.int i t)]⟩) (fun _ R s=>s.heap.get? l=À { cls:=.type "list",dict:=dct,data:=.seq items n,slots:=sl } /\
   R (.ok (.ret (.ref (s.heap.push { cls:=.type "list_iterator",data:=.fields #[.ref l,.int 0 0] }).objs.size)))
    { s with heap:=(s.heap.push { cls:=.type "list_iterator",data:=.fields #[.ref l,.int 0 0] }).push { cls:=.type "enumerate",data:=.fields #[.none,.bool Ä,.ref s.heap.objs.size,z? i,.none,.none] } }):=Meets.of_wp fun e w A R s h=>by
  obtain⟨m,g,d,j,k⟩:=s;obtain⟨a,h⟩:=h;have f:=sub_enumerate;have b:Heap.IsList (Shared.heap ⟨m,g,d,j,k⟩) l items:=⟨_,a,rfl,n,rfl⟩
  wp_walk using Ĳ a
  refine wpAny_stack_any fun o=>yF ?_
  split
  ·rename_i c _ _ _ _ _
   cases (c==N! "enumerate")
   ·wp_walk using Ĳ a,Đ b
    exact⟨_,rfl,h⟩
   ·wp_walk using Ĳ a,Đ b
    exact⟨_,rfl,h⟩
  ·wp_walk using Ĳ a,Đ b
   exact⟨_,rfl,h⟩
theorem xQ{l:Ç}{g:Array Å}{t:Tok}{i:Int}{Q:Å->È->Prop}(K:ļ i=Â)(N:s.heap.IsList l g)
  (h:∀h',IsEnum h' (s.heap.objs.size+1) s.heap.objs.size i .none->h'.IsListIter s.heap.objs.size l 0->(∀b o,s.heap.get? b=À o->h'.get? b=À o)->Q (.ref (s.heap.objs.size+1)) { s with heap:=h' }) :
  Î (model prog w) A (call (.type "enumerate") [.ref l] [("start",.int i t)]) Q E s:=by
 obtain⟨⟨V,B,U,H⟩,J,p,n,hd⟩:=N;dsimp only at p hd;subst p hd;have ft:=F.called_enumerate;obtain⟨c,O,D⟩:=ft.mro;have v:=ft.made;have C:=ft.sub;have T:=ft.notType;have S:=ft.canCreate;have L:=tf (.ref l) (.int i t);have z:=sE (.ref l) (.int i t);refine z! (codeAny_of_tree ?_);show Î _ _ (callAny (.type "enumerate") _) _ _ _;refine yF ⟨Code.quiet_builtin _ (by decide +kernel),ϔ F.entry_type_call ?_⟩;rw[Around.under_plain (weight_type_call_type "enumerate" _ _) (units_type_call_type "enumerate" _ _)]
 repeat (any_goals (first | assumption | wp_step))
 have hz:(s.heap.push { cls:=.type "list_iterator",data:=.fields #[.ref l,.int 0 0] }).objs.size=s.heap.objs.size+1:=Į ..;have y:=zY (s.heap.push { cls:=.type "list_iterator",data:=.fields #[.ref l,.int 0 0] }) (o:={ cls:=.type "enumerate",data:=.fields #[.none,.bool Ä,.ref s.heap.objs.size,z? i,.none,.none] }) rfl;rw[hz]at y;refine ś (U7 (R:=wants (fun f d=>d.TypeIs f "enumerate"/\Q f d) E) ft.plain F.entry_enumerate_new (wpAny_of_eq z (AK l g n B H t i K prog w A.in1 _ s ⟨J,?_⟩))) fun r d q=>?_
 ·show _/\_
  rw[hz];exact⟨⟨_,y,rfl⟩,h _ y ⟨_,zG _ (zY _ rfl),rfl,rfl⟩ fun b o x=>zG _ (zG _ x)⟩
 ·cases r with
  |error e=>exact q
  |ok fl =>
   cases fl with
   |ret f =>
    obtain⟨G,u⟩:=q;have I:=ft.init.lookup;have M:=ft.init.bind f
    repeat (any_goals (first | assumption | wp_step))
    refine ś (U7 (R:=wants (fun r j=>r=.none/\Q f j) E) ft.init.plain F.entry_object_init (ft.init.check _ _ _ _ _ _ _ _ G (qM f (.ref l) (.int i t)) (xJ ft.init.lookup ft.made dC prog w A.in1 _ d ⟨G,rfl,u⟩))) fun m j a=>?_
    cases m with
    |error e=>exact a
    |ok k =>
     cases k with
     |ret r =>
      obtain⟨rfl,P⟩:=a
      repeat (any_goals (first | assumption | wp_step))
     |_=>exact a.elim
   |_=>exact q.elim
end
end L2
namespace R
open PySem PySem.Spec PyProof.Rows L2
open DD (PE_imp PT_imp PA_imp PS_imp PSs_imp OpR_imp PW_imp PG_imp pyOk)
section
variable{X:Cx}{tg e a b:Ï}{es:List Ï}{pos p kp:Ĝ}
theorem BN[Pz]{k:Nat}(B:Gl X "enumerate")(x:X.mg "enumerate"=Á)(D:PA X [a] ta)(C:PE X b tb)(e:Ê [a] X.env=[(Ä,eval a X.env)]) :
  PI X (.Tuple elts k tpos) (.Call (.Name "enumerate" p) [a] [⟨À "start",b,kp⟩] pos) (fun σ H R=>ta σ H fun vs H1=>tb σ H1 fun y H2=>∃l n0,vs=[.ref l]/\y=.int ((n0:Nat):Int)/\n0<=1000000/\(∃xs,bJ X.K H2 l xs)/\R (Ba X.K l n0) H2):=by
 intro i s σ H R I h;refine ý (dJ I B x rW (u5 (by rw[e];rfl) (by rfl) ?_));have g:=D pos i s σ H _ I h;rw[e]at g ⊢;refine _! (by rfl) (Bo g fun K m d=>?_);obtain⟨vs,H1,J,r1,o⟩:=d;refine Z9 (aB (C i m σ H1 _ J o) fun u c ⟨y,H2,j,r2,l,n0,G,F,M,⟨xs,w⟩,q⟩=>Z8 ?_);subst G;subst F;obtain⟨t,rfl⟩:=r2;cases r1 with
 |cons r n =>
  cases n;cases r;obtain⟨N,L,v,_⟩:=j.list w;show Î _ _ (call (.type "enumerate") [.ref l] [("start",.int ((n0:Nat):Int) t)]) _ _ _;refine xQ (s:=c) ?_ v.isList fun E f A z=>?_
  ·unfold ļ
   simp only[zC,yB];lia
  refine b? (s:={ c with heap:=E }) f ?_;exact uA (t':=c.toks) (n0:=n0) j f A z q
def xK(f g:EF):IF:=fun a c=>(f a c).bind fun p=>(g a p.2).bind fun q=>match q.1 with
 |.int i=>if(decide (0<=i)&&Û i.natAbs 1000000)=Â then(jb q.2 p.1).map fun b=>(⟨fD i.toNat b.PB,b.gd⟩,q.2) else Á
 |_=>Á
theorem GZ[Pz]{A:Nat}(J:Gl X "enumerate")(I:X.mg "enumerate"=Á)(M:QE X a f)(L:QE X b g)(o:Ê [a] X.env=[(Ä,eval a X.env)]) :
  QI X (.Tuple elts A tpos) (.Call (.Name "enumerate" p) [a] [⟨À "start",b,kp⟩] pos) (xK f g) :=
 g8 (BN J I (cM M eU (by rw[o];rfl)) L o) fun Y H R l=>by
  refine e7 l fun P W D st n s F=>?_
  obtain⟨iv,C,O,k⟩:=F;obtain⟨q,U,T⟩:=zA O;obtain⟨r,S,d⟩:=zA T;refine zh n s ⟨q.1,q.2,U,fun V e H1 w v E r1=>⟨V,e,D,q.2,n.frm v,E,r.1,r.2,S,fun y c z Z u h r2=>?_⟩⟩;split at d
  ·rename_i i N
   rw[N]at r2;simp only[RA]at r2;subst r2;split at d
   ·rename_i m
    simp only[zC,yB]at m;have K:=zS m.2;obtain⟨G,x,Q⟩:=zE.mp d;cases Q;obtain⟨a1,rfl,t⟩:=l7 h (r1.frm u) x;obtain⟨B,j,_⟩:=t y c z r.2 Frm.refl h (lZ x);exact⟨a1,i.toNat,rfl,by rw[ò m.1],by lia,⟨B,j⟩,k y c z _ (v.trans u) h (ug t)⟩
   ·cases d
  ·cases d
end
mutual
noncomputable def rf:AV->Bool
 |.ref _=>Ä
 |.tup xs=>rfs xs
 |_=>Â
noncomputable def rfs:List AV->Bool
 |[]=>Â
 |x::xs=>rf x&&rfs xs
end
mutual
theorem RA.rf:∀{t:AV}{v:V},R.rf t=Â->RA mg P H φ t v->RA mg P H ψ t v
 |.non,_,_,h=>by simp only[RA]at h ⊢;exact h
 |.bl _,_,_,h=>by simp only[RA]at h ⊢;exact h
 |.int _,_,_,h=>by simp only[RA]at h ⊢;exact h
 |.str _,_,_,h=>by simp only[RA]at h ⊢;exact h
 |.fz _,_,_,h=>by simp only[RA]at h ⊢;exact h
 |.ref k,_,e,_=>by simp only[R.rf]at e;cases e
 |.tup xs,_,e,h=>by
  simp only[RA,R.rf]at h e ⊢;obtain⟨a,vs,r,p,e',q⟩:=h;exact⟨a,vs,r,p,e',PF.rf e q⟩
theorem PF.rf:∀{ts:List AV}{vs:List V},R.rfs ts=Â->PF mg P H φ ts vs->PF mg P H ψ ts vs
 |[],_,_,h=>by simp only[PF]at h ⊢;exact h
 |t::ts,_,e,h=>by
  simp only[PF,R.rfs,zC]at h e ⊢;obtain⟨v,ws,e',r,q⟩:=h;exact⟨v,ws,e',RA.rf e.1 r,PF.rf e.2 q⟩
end
abbrev NF:=Sl->aa->Option (List AV×aa)
def rN[Pz](mg:Gm)(f:NF):TE:=fun k H Q=>∃P d j i,PM mg P H d j k/\Sim mg P d i H/\∃g b,f j i=À (g,b) /\
 ∀e a c p h,Frm P d H e a c->Sim mg e a b c->c p=Á->PF mg e c a g h->Q (.ref p) (ag c p (.lst h))
def QN[Pz](X:Cx)(e:Ï)(f:NF):Prop:=PE X e (rN X.gm f)
def Os(f:NF):EF:=fun b a=>(f b a).bind fun p=>if rfs p.1=Â then À (.fz p.1,p.2) else Á
noncomputable def Oq(f:NF):EF:=fun b a=>(f b a).bind fun p=>À (.ref p.2.length,p.2++[.lst p.1])
theorem IR[Pz]{mg:Gm}{P:Pr}{φ:List Ç}{st:aa}{H:Hp}{p:Ç}{xs:List AV}{vs:List V}(s:Sim mg P φ st H)(d:H p=Á)(c:rfs xs=Â)(r:PF mg P H φ xs vs) :
  ∃P3,Frm P φ H P3 φ (ag H p (.lst vs))/\Sim mg P3 φ st (ag H p (.lst vs))/\RA mg P3 (ag H p (.lst vs)) φ (.fz xs) (.ref p):=by
 obtain⟨a,b⟩:=lS (o:=.lst vs) s d;refine⟨_,a,b,?_⟩;simp only[RA];exact⟨p,vs,rfl,.inl ⟨.inr rfl,.inl ar⟩,PF.rf c (r.frm a)⟩
theorem HS[Pz]{mg:Gm}{P:Pr}{φ:List Ç}{st:aa}{H:Hp}{p:Ç}{xs:List AV}{vs:List V}(s:Sim mg P φ st H)(b:H p=Á)(r:PF mg P H φ xs vs) :
  Frm P φ H P (φ++[p]) (ag H p (.lst vs))/\Sim mg P (φ++[p]) (st++[.lst xs]) (ag H p (.lst vs))/\RA mg P (ag H p (.lst vs)) (φ++[p]) (.ref st.length) (.ref p):=by
 have ne:∀a,H a≠Á->a≠p:=fun a h e=>h (by rw[e];exact b)
 obtain⟨f,d⟩:=oE (c:=.lst xs) (o:=.lst vs) s b ⟨fun z=>s.dom p z b,vs,ar,r.mono (fun a h=>⟨h,ad (ne a (s.dom a h))⟩) fun k a e=>by rw[zN (zB.mp e).1];exact e⟩;refine⟨f,d,?_⟩;simp only[RA];exact⟨p,by rw[<- s.len];simp,rfl⟩
section
variable{X:Cx}{e a b:Ï}{es:List Ï}{pos:Ĝ}{f:NF}
noncomputable def dE(n:Nat):Bool:=Û n 1000000
theorem j8{n:Nat}(h:dE n=Â):n<=Ë:=z5 (zS h) dC
def LY(g:AF):NF:=fun b a=>(g b a).bind fun p=>if dE p.1.length=Â then À p else Á
theorem Ez[Pz](h:QA X es g):QN X (.List es pos) (LY g) :=
 PE_imp (zy h) fun w H Q c=>by
  refine e7 c fun P v y x j s l=>?_
  obtain⟨e,b,o,k⟩:=l;obtain⟨q,r,d⟩:=zA o;split at d
  ·rename_i hz
   cases d;exact i7 j s ⟨e,b,r,fun t a u f n i r1=>⟨by rw[<- r1.length];exact j8 hz,fun p m=>k t a u p f n i m r1⟩⟩
  ·cases d
def tT(f g:EF):NF:=fun c d=>(f c d).bind fun p=>(g c p.2).bind fun q=>(bN q.2 p.1).bind fun b=>(bN q.2 q.1).bind fun a=>if dE (b.length+a.length)=Â then À (b++a,q.2) else Á
theorem GW[Pz]{f g:EF}(E:QE X a f)(D:QE X b g):QN X (.BinOp a .Add b pos) (tT f g) :=
 PE_imp (xm E7 E D) fun V H Q h=>by
  refine e7 h fun P U z Z j s B=>?_
  obtain⟨W,v,F,k⟩:=B;obtain⟨q,M,L⟩:=zA F;obtain⟨r,K,J⟩:=zA L;obtain⟨x,I,G⟩:=zA J;obtain⟨y,e7,i⟩:=zA G;split at i
  ·rename_i hz
   cases i;refine i7 j s ⟨q.1,q.2,M,fun S d H1 w o A r1=>⟨S,d,z,q.2,j.frm o,A,r.1,r.2,K,fun R c T Y n e r2=>?_⟩⟩;obtain⟨a1,t,rfl,O,m⟩:=(r1.frm n).ls e I;obtain⟨a2,u,rfl,N,l⟩:=r2.ls e e7;exact⟨a1,a2,t,u,rfl,rfl,O,N,by rw[<- m.length,<- l.length];exact j8 hz,fun p C=>k R c T p _ (o.trans n) e C (m.app l)⟩
  ·cases i
def xu(g:AF)(f:EF):NF:=fun a b=>(g a b).bind fun p=>(f a p.2).bind fun q=>match q.1 with
 |.int k=>if(fW k&&dE (p.1.length*k.toNat)&&dE p.1.length)=Â then À ((Æ k.toNat p.1).flatten,q.2) else Á
 |_=>Á
theorem PF.rep(h:PF mg P H φ xs vs):∀k:Nat,PF mg P H φ (Æ k xs).flatten (Æ k vs).flatten
 |0=>aZ
 |k+1=>by rw[ê,ê,ć,ć];exact h.app (PF.rep h k)
theorem GS[Pz]{g:AF}{f:EF}{a:Ĝ}(h:QA X es g)(J:QE X b f):QN X (.BinOp (.List es a) .Mult b pos) (xu g f) :=
 PE_imp (xm HE (zy h) J) fun U H Q n=>by
  refine e7 n fun P T B W x s F=>?_
  obtain⟨V,A,M,k⟩:=F;obtain⟨q,R,O⟩:=zA M;obtain⟨r,N,c⟩:=zA O;split at c
  ·rename_i j L
   split at c
   ·rename_i d
    cases c;simp only[zC]at d;refine i7 x s ⟨q.1,q.2,R,fun Z i H1 l y E r1=>⟨by rw[<- r1.length];exact j8 d.2,fun p I=>?_⟩⟩
    obtain⟨v,D⟩:=lS (o:=.lst l) E I;refine⟨_,i,B,q.2,(x.frm y).frm v,D,r.1,r.2,N,fun S e z w u C m=>?_⟩;rw[L]at m;simp only[RA]at m;subst m;have K:z p=À (.lst l):=by rw[(u.ext p (.inr rfl)).2,ar]
    have Y:=gQ d.1.1;refine⟨p,j,l,rfl,rfl,K,by lia,by lia,by rw[<- r1.length];exact j8 d.1.2,fun G t=>?_⟩;exact k S e z G _ ((y.trans v).trans u) C t (PF.rep ((r1.frm v).frm u) _)
   ·cases c
  ·cases c
abbrev OF:=Sl->aa->Option (Option Int×aa)
def rO[Pz](mg:Gm)(f:OF):TO:=fun d H Q=>∃P a c b,PM mg P H a c d/\Sim mg P a b H/\KG mg RB P a H (f c b) Q
def QO[Pz](X:Cx)(e:Option Ï)(f:OF):Prop:=PO X e (rO X.gm f)
noncomputable def Db:OF:=fun _ a=>À (Á,a)
noncomputable def lQ(f:EF):OF:=fun b a=>(f b a).bind fun p=>match p.1 with
 |.int i=>À (À i,p.2)
 |_=>Á
theorem wI(h:PO X eo t)(i:∀σ H Q,t' σ H Q->t σ H Q):PO X eo t':=fun b s σ H Q I a=>h b s σ H Q I (i σ H Q a)
theorem Ey[Pz]:QO X Á Db:=wI ES fun c H Q a=>e7 a fun P b e d f s k=>k.pure s rfl
theorem Ew[Pz]{f:EF}(h:QE X e f):QO X (À e) (lQ f):=wI (ER h) fun y H Q g=>e7 g fun P w A z p s k=>i7 p s (by
 obtain⟨a,d,t,q⟩:=k.bind (Ra:=RA);refine⟨a,d,t,fun u b v c r o r1=>?_⟩;obtain⟨C,l,m,x,B,n,r2,j⟩:=q u b v c r o r1;cases x<;>first|exact j.no.elim|skip
 rename_i i;simp only[RA]at r2;exact⟨i,r2,j.pure n rfl⟩)
def cut{α:Type}(xs:List α)(a b:Option Int):List α:=(xs.drop (HT.PL xs.length 0 a)).take (HT.PL xs.length xs.length b-HT.PL xs.length 0 a)
theorem PF.cut(h:PF mg P H φ xs vs)(a b:Option Int):PF mg P H φ (R.cut xs a b) (kZ vs a b):=by
 unfold R.cut kZ;rw[h.length];exact(h.drop _).take _
theorem Gs[Pz]{mg:Gm}{f:EF}{l h:OF}{σ:St}{H:Hp}{P:Pr}{φ:List Ç}{sl:Sl}{st:aa}(d:PM mg P H φ sl σ)(s:Sim mg P φ st H){r:V->Option Int->Option Int->Hp->VK->Prop}{Q:VK}
  (k:∃v st1 lo st2 hi st3,f sl st=À (v,st1)/\l sl st1=À (lo,st2)/\h sl st2=À (hi,st3)/\∀P' φ' H' w,Frm P φ H P' φ' H'->Sim mg P' φ' st3 H'->RA mg P' H' φ' v w->r w lo hi H' Q):LI r (rE mg f) (rO mg l) (rO mg h) σ H Q:=by
 obtain⟨v,st1,lo,st2,hi,st3,x,u,t,k⟩:=k;refine i7 d s ⟨v,st1,x,fun A c D w g n r1=>⟨A,c,sl,st1,d.frm g,n,lo,st2,u,fun z b C p e m r2=>⟨z,b,sl,st2,(d.frm g).frm e,m,hi,st3,t,fun y a B q i j o=>?_⟩⟩⟩;cases r2;cases o;exact k y a B w ((g.trans e).trans i) j ((r1.frm e).frm i)
def lT(f:EF)(l h:OF):NF:=fun a c=>(f a c).bind fun p=>(l a p.2).bind fun q=>(h a q.2).bind fun r=>(bN r.2 p.1).map fun b=>(cut b q.1 r.1,r.2)
theorem J1[Pz]{f:EF}{l h:OF}{e g:Option Ï}{u:Ĝ}(z:QE X a f)(x:QO X e l)(y:QO X g h):QN X (.Subscript a (.Slice e g Á u) pos) (lT f l h) :=
 PE_imp (tM Ej z x y) fun O H Q c=>by
  refine e7 c fun P N U T m s o=>?_
  obtain⟨S,j,B,k⟩:=o;obtain⟨q,J,I⟩:=zA B;obtain⟨r,G,F⟩:=zA I;obtain⟨t,E,D⟩:=zA F;obtain⟨R,e7,C⟩:=zE.mp D;cases C;refine Gs m s ⟨q.1,q.2,r.1,r.2,t.1,t.2,J,G,E,fun L b M w A d r1=>?_⟩;obtain⟨a1,i,rfl,K,n⟩:=r1.ls d e7;exact⟨a1,i,rfl,K,fun p v=>k L b M p _ A d v (n.cut _ _)⟩
def xt(f g:EF):NF:=fun a c=>(f a c).bind fun p=>(g a p.2).bind fun q=>match q.1 with
 |.int i=>if i=-1 then(bN q.2 p.1).map fun b=>(b.reverse,q.2) else Á
 |_=>Á
theorem GR[Pz]{f g:EF}{z:Ĝ}(D:QE X a f)(C:QE X b g):QN X (.Subscript a (.Slice Á Á (À b) z) pos) (xt f g) :=
 PE_imp (BR D C) fun S H Q h=>by
  refine e7 h fun P R u W l s y=>?_
  obtain⟨U,t,F,k⟩:=y;obtain⟨q,K,J⟩:=zA F;obtain⟨r,I,c⟩:=zA J;split at c
  ·rename_i i E
   split at c
   ·rename_i B
    obtain⟨T,e7,G⟩:=zE.mp c;cases G;refine i7 l s ⟨q.1,q.2,K,fun N e Y w n v r1=>⟨N,e,u,q.2,l.frm n,v,r.1,r.2,I,fun M d O V m j r2=>?_⟩⟩;rw[E]at r2;simp only[RA]at r2;obtain⟨a1,o,rfl,L,x⟩:=(r1.frm m).ls j e7;exact⟨by rw[r2,B],a1,o,rfl,L,fun p A=>k M d O p _ (n.trans m) j A x.rev⟩
   ·cases c
  ·cases c
def oF(f:EF):NF:=fun c b=>(f c b).bind fun p=>match bN p.2 p.1 with
 |some a=>À (a,p.2)
 |none=>(ju p.2 p.1).map fun a=>(a,p.2)
theorem GV[Pz]{f:EF}{p pos:Ĝ}(z:Gl X "list")(y:X.mg "list"=Á)(A:QE X a f)(m:Ê [a] X.env=[(Ä,eval a X.env)]):QN X (.Call (.Name "list" p) [a] [] pos) (oF f) :=
 PE_imp (rn uY z y k6 (cM A eU (by rw[m];rfl)) (he:=by rw[m];rfl) (hpl:=rfl)) fun F H Q g=>by
  refine e7 g fun P E J I v s x=>?_
  obtain⟨G,u,B,k⟩:=x;obtain⟨q,D,j⟩:=zA B;refine zh v s ⟨q.1,q.2,D,fun o b r w n d r1=>?_⟩;split at j
  ·rename_i t i
   cases j;obtain⟨a1,c,rfl,l,e⟩:=r1.ls d i;exact⟨a1,c,rfl,.inl l,fun p h=>k o b r p c n d h e⟩
  ·obtain⟨t,i,C⟩:=zE.mp j
   cases C;obtain⟨a1,c,rfl,l,e⟩:=r1.tp d i;exact⟨a1,c,rfl,.inr (.inl (.inl l)),fun p h=>k o b r p c n d h e⟩
end
abbrev GF:=AV->Sl->aa->Option (Sl×aa)
abbrev vm:=List AV->Sl->aa->Option (Sl×aa)
def KS[Pz](mg:Gm)(P:Pr)(φ:List Ç)(H:Hp)(r:Option (Sl×aa))(Q:St->Hp->Prop):Prop :=
 ∃d c,r=À (d,c)/\∀f a e b,Frm P φ H f a e->Sim mg f a c e->PM mg f e a d b->Q b e
def rG[Pz](mg:Gm)(f:GF):TG:=fun v d H Q=>∃P a c b x,PM mg P H a c d/\Sim mg P a b H/\RA mg P H a x v/\KS mg P a H (f x c b) Q
def N3[Pz](mg:Gm)(f:vm):vf:=fun g e H Q=>∃P a d c b,PM mg P H a d e/\Sim mg P a c H/\PF mg P H a b g/\KS mg P a H (f b d c) Q
def QG[Pz](X:Cx)(a:Ï)(f:GF):Prop:=PG X a (rG X.gm f)
def A6[Pz](X:Cx)(a:List Ï)(f:vm):Prop:=sy X a (N3 X.gm f)
noncomputable def AC(i:Nat):GF:=fun x b a=>À (b.set i (À x),a)
noncomputable def IL:vm:=fun a c b=>match a with
 |[]=>À (c,b)
 |_=>Á
noncomputable def IP(f:GF)(g:vm):vm:=fun a c b=>match a with
 |x::a=>(f x c b).bind fun p=>g a p.1 p.2
 |[]=>Á
def AB(n:Nat)(g:vm):GF:=fun x c b=>match ju b x with
 |some a=>if a.length=n then g a c b else Á
 |none=>match bN b x with
  |some a=>if a.length=n then g a c b else Á
  |none=>Á
theorem vg(h:sy X tgs t)(i:∀v σ H Q,t' v σ H Q->t v σ H Q):sy X tgs t':=fun c s σ H v u Q I a b=>h c s σ H v u Q I a (i v σ H Q b)
section
variable{X:Cx}{e a b:Ï}{es:List Ï}{pos:Ĝ}
theorem KS.pure[Pz]{mg:Gm}{P:Pr}{φ:List Ç}{H:Hp}{sl:Sl}{st:aa}{σ:St}{Q:St->Hp->Prop}(h:KS mg P φ H (À (sl,st)) Q)(s:Sim mg P φ st H)(r:PM mg P H φ sl σ):Q σ H:=by
 obtain⟨_,_,e,q⟩:=h;cases e;exact q P φ H σ Frm.refl s r
theorem ED[Pz]{i:Nat}(e:X.N.Nodup)(c:X.N[i]?=À x)(b:Loc X.env.scope x)(d:X.fn x=Â\/X.env.scope.names.lookup x=À .local):QG X (.Name x pos) (AC i) :=
 PG_imp (EZ e c b d) fun v g H Q ⟨P,f,j,h,x,a,s,rx,k⟩=>k.pure s (a.set rx i)
theorem EC[Pz]:A6 X [] IL:=vg EX fun v f H Q a=>by
 obtain⟨P,d,h,g,b,c,s,rx,k⟩:=a;cases b with
 |nil=>simp only[PF]at rx;exact⟨rx,k.pure s c⟩
 |cons _ _=>obtain⟨_,_,e,_⟩:=k;cases e
theorem BC[Pz](E:QG X e f)(D:A6 X es g)(C:(Þ (e::es) X.env).map (·.2)=assign e X.env::(Þ es X.env).map (·.2)):A6 X (e::es) (IP f g) :=
 vg (BO E D C) fun v M H Q m=>by
  obtain⟨P,o,y,u,d,B,s,rx,k⟩:=m;cases d with
  |nil=>obtain⟨_,_,e,_⟩:=k;cases e
  |cons x d =>
   simp only[PF]at rx;obtain⟨w,t,rfl,r1,r2⟩:=rx;obtain⟨i,h,e,q⟩:=k;obtain⟨p,I,G⟩:=zA e;exact⟨w,t,rfl,P,o,y,u,x,B,s,r1,p.1,p.2,I,fun K b N r n A l=>⟨K,b,p.1,p.2,d,l,A,r2.frm n,i,h,G,fun J a L c F z j=>q J a L c (n.trans F) z j⟩⟩
theorem Kl(h:PG X tg t)(h':PG X tg t'):PG X tg (fun v σ H Q=>t v σ H Q\/t' v σ H Q):=fun a s σ H v u Q I r q=>by
 rcases q with q|q
 ·exact h a s σ H v u Q I r q
 ·exact h' a s σ H v u Q I r q
theorem G0[Pz]{k n:Nat}(w:X.calm=Â)(h:A6 X es g)(u:(Þ es X.env).length=n)(d:(Þ es X.env).findIdx? (·.1)=Á):QG X (.Tuple es k pos) (AB n g) :=
 PG_imp (Kl (Ho (k:=k) w h u d) (EY (k:=k) w h u d)) fun v z H Q j=>by
  obtain⟨P,o,r,p,x,t,s,rx,y⟩:=j;obtain⟨b,a,e,q⟩:=y;unfold AB at e;split at e
  ·rename_i f ex
   split at e
   ·rename_i l
    obtain⟨a1,i,rfl,m,c⟩:=rx.tp s ex;exact .inl ⟨a1,i,rfl,.inl (.inl m),by rw[<- c.length];exact l,P,o,r,p,f,t,s,c,b,a,e,q⟩
   ·cases e
  ·split at e
   ·rename_i f ex
    split at e
    ·rename_i l
     obtain⟨a1,i,rfl,m,c⟩:=rx.ls s ex;exact .inr ⟨a1,i,rfl,m,by rw[<- c.length];exact l,P,o,r,p,f,t,s,c,b,a,e,q⟩
    ·cases e
   ·cases e
noncomputable def oC{b:Type}[DecidableEq b](Px:List (b×AV))(k:b)(v:AV):List (b×AV) :=
 if(Px.any fun a=>decide (a.1=k))=Â then Px.map fun a=>if a.1=k then(a.1,v) else a else Px++[(k,v)]
theorem tL{P:Pr}{H:Hp}{φ:List Ç}{d:Type}[DecidableEq d]{Px:List (d×AV)}{ws:List (d×V)}{k:d}{v:AV}{w:V}(h:KVR mg P H φ Px ws)(r:RA mg P H φ v w):KVR mg P H φ (oC Px k v) (fJ ws k w):=by
 have b:(Px.any fun f=>decide (f.1=k))=(ws.any fun f=>decide (f.1=k)):=by
  have g:∀{j:Type} (l:List (d×j)),(l.any fun f=>decide (f.1=k))=((l.map (·.1)).any fun x=>decide (x=k)):=fun l=>by rw[w?];rfl
  rw[g Px,g ws,h.1]
 unfold oC fJ;rw[b];split
 ·clear b
  rename_i m;clear m
  induction Px generalizing ws with
  |nil =>
   have:ws=[]:=by simpa using h.1.symm
   subst this;exact⟨rfl,aZ⟩
  |cons p Px c =>
   cases ws with
   |nil=>exact absurd h.1 (by simp)
   |cons q ws =>
    obtain⟨g,i⟩:=h;rw[zO,zO]at g i;injection g with h3 h4;simp only[PF]at i;obtain⟨u,t,s,o,n⟩:=i;injection s with h8 h9;subst h8;subst h9;have c:=c (ws:=ws) ⟨h4,n⟩;have a:p.1=q.1:=h3;by_cases e:q.1=k
    ·rw[zO,zO,yH e,yH (a.trans e)]
     exact⟨by rw[zO,zO,c.1,a],aR r c.2⟩
    ·rw[zO,zO,yG e,yG (fun z=>e (a.symm.trans z))]
     exact⟨by rw[zO,zO,c.1,a],aR o c.2⟩
 ·refine⟨by rw[Ħ,Ħ,h.1];rfl,?_⟩
  rw[Ħ,Ħ];exact h.2.app (aR r aZ)
def kN(st:aa)(o i v:AV):Option aa:=match o with
 |.ref k=>match st[k]? with
  |some (.lst b)=>match i with
   |.int j=>(jz b.length j).map fun n=>st.set k (.lst (b.set n v))
   |_=>Á
  |some (.dK a)=>(kT i).bind fun x=>if dE a.length=Â then À (st.set k (.dK (oC a x v))) else Á
  |some (.dT a)=>match i with
   |.tup is=>(aP kT is).bind fun x=>if dE a.length=Â then À (st.set k (.dT (oC a x v))) else Á
   |_=>Á
  |_=>Á
 |_=>Á
theorem C6[Pz](hu:X.A.units+64<Ŗ):xY X (fun o i v H Q=>∃P φ st x y z st',Sim X.gm P φ st H/\RA X.gm P H φ x o/\RA X.gm P H φ y i/\RA X.gm P H φ z v/\kN st x y z=À st'/\∀P' φ' H',Frm P φ H P' φ' H'->Sim X.gm P' φ' st' H'->Q H'):=by
 rintro Pw s R H o i v V W u Q I G J F ⟨P,φ,st,x,y,z,st',q,rx,w,E,e,k⟩;unfold kN at e;cases x with
 |ref j =>
  simp only[RA]at rx;obtain⟨a,r,rfl⟩:=rx;dsimp only at e;split at e
  ·rename_i S A
   obtain⟨O,d,c⟩:=q.at A;rw[r]at d;cases d;obtain⟨f,M,p,l⟩:=c;cases y with
   |int n =>
    simp only[RA]at w;subst w;obtain⟨m,C,g⟩:=zE.mp e;subst g;have hp:P a->False:=f;obtain⟨B,t⟩:=iU (c:=.lst (S.set m z)) (o:=.lst (M.set m v)) q r f ⟨f,_,ar,(l.set E m).mono (fun b h=>⟨h,ad fun e=>f (e▸h)⟩) fun _ _ z=>z⟩ (fun _ _ z=>by rw[p]at z;cases z);exact Bw Pw s R H _ _ v V W u Q I G J F ⟨a,M,n,m,rfl,rfl,p,by rw[<- l.length];exact C,k P φ _ B t⟩
   |_=>cases e
  ·rename_i K A
   obtain⟨O,d,c⟩:=q.at A;rw[r]at d;cases d;obtain⟨f,D,p,l⟩:=c;obtain⟨x,C,g⟩:=zA e;split at g
   ·rename_i hz
    cases g
    have:=oJ C w
    subst this;cases G;obtain⟨B,t⟩:=iU (c:=.dK (oC K x z)) (o:=.dK (fJ D x v)) q r f ⟨f,_,ar,(tL l E).mono (fun b h=>⟨h,ad fun e=>f (e▸h)⟩) fun _ _ z=>z⟩ (fun _ _ z=>by rw[p]at z;cases z);refine rR oM I (DPut.k p ?_) J F fun T L=>⟨_,L,k P φ _ B t⟩
    have:=congrArg ŏ l.1
    rw[zH,zH]at this;rw[<- this];have Z:=zS hz;have Y:(1000000:Nat)<Ë:=by decide
    lia
   ·cases g
  ·rename_i K A
   obtain⟨O,d,c⟩:=q.at A;rw[r]at d;cases d;obtain⟨f,D,p,l⟩:=c;cases y with
   |tup is =>
    dsimp only at e;obtain⟨x,C,g⟩:=zA e;split at g
    ·rename_i hz
     cases g;simp only[RA]at w;obtain⟨b,us,rfl,_,N,U⟩:=w;rw[rq C U]at N;cases G;obtain⟨B,t⟩:=iU (c:=.dT (oC K x z)) (o:=.dT (fJ D x v)) q r f ⟨f,_,ar,(tL l E).mono (fun b h=>⟨h,ad fun e=>f (e▸h)⟩) fun _ _ z=>z⟩ (fun _ _ z=>by rw[p]at z;cases z);refine rR oM I (DPut.t p N ?_) J F fun T L=>⟨_,L,k P φ _ B t⟩
     have:=congrArg ŏ l.1
     rw[zH,zH]at this;rw[<- this];have Z:=zS hz;have Y:(1000000:Nat)<Ë:=by decide
     lia
    ·cases g
   |_=>cases e
  ·cases e
 |_=>cases e
def Ma(f g:EF):GF:=fun x b c=>(f b c).bind fun p=>(g b p.2).bind fun q=>(kN q.2 p.1 q.1 x).map fun a=>(b,a)
theorem G1[Pz](C:X.A.units+64<Ŗ)(D:QE X o f)(E:QE X i g)
  (F:∀v,assign (.Subscript o i pos) X.env v=(do
   let ov <- holding [v] (eval o X.env)
   let iv <- holding [v,ov] (eval i X.env)
   Ŕ pos
   holding [v,ov,iv] (ϡ ov iv v)
   release [v,ov,iv] [])):QG X (.Subscript o i pos) (Ma f g) :=
 PG_imp (Hq D E (C6 C) F) fun v p H Q m=>by
  obtain⟨P,T,u,V,x,l,s,rx,t,j,e,k⟩:=m;obtain⟨q,M,L⟩:=zA e;obtain⟨r,K,J⟩:=zA L;obtain⟨z,I,G⟩:=zE.mp J;cases G;exact i7 l s ⟨q.1,q.2,M,fun R h Y w b B r1=>⟨R,h,u,q.2,l.frm b,B,r.1,r.2,K,fun O d W U a A r2=>⟨O,d,r.2,q.1,r.1,x,j,A,r1.frm a,r2,(rx.frm b).frm a,I,fun N c S n y=>k N c S p ((b.trans a).trans n) y (((l.frm b).frm a).frm n)⟩⟩⟩
end
noncomputable def hid(H:Hp)(p:Ç):Hp:=fun b=>if b=p then Á else H b
theorem bw(h:b≠p):hid H p b=H b:=yG h
theorem dQ:hid H p p=Á:=yH rfl
theorem DW(h:H p=À o):ag (hid H p) p o=H:=by
 funext b;by_cases e:b=p
 ·subst e;rw[ar,h]
 ·rw[ad e,bw e]
theorem wl:hid (ag H p o) p=hid H p:=by
 funext b;by_cases e:b=p
 ·subst e;rw[dQ,dQ]
 ·rw[bw e,bw e,ad e]
theorem Cl(h:H p=Á):hid H p=H:=by
 funext b;by_cases e:b=p
 ·subst e;rw[dQ,h]
 ·rw[bw e]
section
variable{mg:Gm}{P P':Pr}{φ φ':List Ç}{st st':aa}{H H':Hp}{p:Ç}
theorem _root_.L2.gz.sh{P:Ç}{pos:Ĝ}{q:Í}(h:gz (hid H p) P pos q):gz H P pos q:=by
 obtain⟨b,e,t,c⟩:=h;have ne:∀{a o},hid H p a=À o->H a=À o:=fun {a o} e=>by
  by_cases z:a=p
  ·rw[z,dQ]at e;cases e
  ·rw[bw z]at e;exact e
 refine⟨b,ne e,t,?_⟩;rcases c with c|⟨g,f,d⟩
 ·exact .inl c
 ·exact .inr ⟨g,f,ne d⟩
theorem _root_.L2.gz.hd{P:Ç}{pos:Ĝ}{q:Í}(h:gz H P pos q)(f:∃vs,H p=À (.lst vs)):gz (hid H p) P pos q:=by
 obtain⟨d,e,t,c⟩:=h;obtain⟨vs,a⟩:=f;refine⟨d,by rw[bw (xq e a fun z=>nomatch z)];exact e,t,?_⟩;rcases c with c|⟨i,g,b⟩
 ·exact .inl c
 ·exact .inr ⟨i,g,by rw[bw (xq b a fun z=>nomatch z)];exact b⟩
theorem Sim.sh[Pz](s:Sim mg P φ st (hid H p))(o:HO)(f:H p=À o):Sim mg P φ st H/\∀a,P a->P a/\H a=hid H p a:=by
 have c:∀a,P a->a≠p:=fun a h e=>s.dom a h (by rw[e];exact dQ)
 have d:∀a∈φ,a≠p:=fun a h e=>s.cd a h (by rw[e];exact dQ)
 have ex:∀a,P a->P a/\H a=hid H p a:=fun a h=>⟨h,(bw (c a h)).symm⟩
 exact⟨s.stay ex (fun a h=>(bw (d a h)).symm) (fun _ _ h=>h) (fun a h=>by rw[(ex a h).2];exact s.dom a h) fun t b=>⟨(s.tb t b).1.sh,(s.tb t b).2⟩,ex⟩
theorem Frm.hd[Pz](l:Sim mg P φ st (hid H p))(k:∃vs,H p=À (.lst vs))(f:Frm P φ H P' φ' H')(s:Sim mg P' φ' st' H'):Frm P φ (hid H p) P' φ' (hid H' p)/\Sim mg P' φ' st' (hid H' p)/\(∀a,P' a->P' a/\hid H' p a=H' a)/\H' p=H p:=by
 have g:∀a,P a->a≠p:=fun a h e=>l.dom a h (by rw[e];exact dQ)
 have i:∀a∈φ,a≠p:=fun a h e=>l.cd a h (by rw[e];exact dQ)
 have j:H p≠Á:=fun z=>by obtain⟨vs,e⟩:=k;rw[z]at e;cases e
 have q:H' p=H p:=f.keep p j (fun h=>i p h rfl) fun v z=>by obtain⟨vs,e⟩:=k;rw[z]at e;cases e
 obtain⟨m,em,nm⟩:=f.new;have c:∀a,P' a->a≠p:=fun a h e=>by
  rcases f.pn a h with z|z|z
  ·exact g a z e
  ·exact j (by rw[<- e];exact z)
  ·exact i a z e
 have d:∀a∈φ',a≠p:=fun a h e=>by
  rw[em]at h;rcases zZ.mp h with z|z
  ·exact i a z e
  ·exact j (by rw[<- e];exact nm a z)
 have b:∀a,hid H p a≠Á->a≠p:=fun a h e=>h (by rw[e];exact dQ)
 have ex:∀a,P' a->P' a/\hid H' p a=H' a:=fun a h=>⟨h,bw (c a h)⟩
 refine⟨⟨fun a h=>⟨(f.ext a h).1,by rw[bw (g a h),bw (g a h)];exact(f.ext a h).2⟩,⟨m,em,fun a h=>?_⟩,fun a h n z=>?_,fun a h=>?_,fun a h=>?_,fun a o u h=>?_⟩,s.stay ex (fun a h=>bw (d a h)) (fun _ _ h=>h) (fun a h=>by rw[(ex a h).2];exact s.dom a h) (fun t r=>⟨(s.tb t r).1.hd (by rw[q];exact k),(s.tb t r).2⟩),ex,q⟩
 ·rw[bw (d a (by rw[em];exact zK _ h))];exact nm a h
 ·rw[bw (b a h),bw (b a h)]
  rw[bw (b a h)]at z;rw[bw (b a h)]at h;exact f.keep a h n z
 ·rcases f.pn a h with z|z|z
  ·exact .inl z
  ·exact .inr (.inl (by rw[bw (c a h)];exact z))
  ·exact .inr (.inr z)
 ·rw[bw (b a h)]
  rw[bw (b a h)]at h;exact f.sm a h
 ·have ne:=b a (by rw[h];exact fun z=>nomatch z)
  rw[bw ne]at h ⊢;exact f.fz a o u h
end
def iD(gd:Gd)(g:GF)(t:TF)(f:EF)(sl:Sl):List AV->aa->Option (List AV×aa)
 |[],st=>if cx gd st=Â then À ([],st) else Á
 |x::xs,st=>if cx gd st=Â then(g x sl st).bind fun p=>(t p.1 p.2).bind fun q=>if q.1=Â then(f p.1 q.2).bind fun r=>(iD gd g t f sl xs r.2).map fun z=>(r.1::z.1,z.2) else iD gd g t f sl xs q.2 else Á
def De(k:Nat)(it:IF)(g:GF)(t:TF)(f:EF):NF:=fun a b=>(it a b).bind fun p=>if dE p.1.PB.length=Â then iD p.1.gd g t f (a++Æ k Á) p.1.PB p.2 else Á
noncomputable def LH:TF:=fun _ a=>À (Â,a)
theorem PM.ext0(h:PM mg P H φ sl σ)(k:Nat):PM mg P H φ (sl++Æ k Á) (σ++Æ k Á):=by
 refine⟨by rw[zV,zV,h.1,Ņ,Ņ],fun i v e=>?_⟩;have a:i<sl.length:=by
  rcases yT i sl.length with z|z
  ·exact z
  ·rw[z6 z,þ]at e
   split at e<;>cases e
 rw[zN a]at e;rw[zN (by rw[<- h.1];exact a)];exact h.2 i v e
def qh(n:Nat)(g:GF):Prop:=∀x c d a b,g x c d=À (a,b)->a.length=c.length/\∀j,j<n->a[j]?=c[j]?
theorem PM.back{k:Nat}(h:PM mg P H φ sl' σ)(a:sl'.length=(sl++Æ k Á).length)(b:∀j,j<sl.length->sl'[j]?=(sl++Æ k Á)[j]?):PM mg P H φ (sl++Æ k Á) σ:=by
 refine⟨by rw[<- a];exact h.1,fun i v e=>?_⟩;have c:i<sl.length:=by
  rcases yT i sl.length with z|z
  ·exact z
  ·rw[z6 z,þ]at e
   split at e<;>cases e
 exact h.2 i v (by rw[b i c];exact e)
inductive LcI[Pz](mg:Gm)(P1:Pr)(φ1:List Ç)(H1:Hp)(p:Ç)(sk:Sl)(gd:Gd)(g:GF)(t:TF)(f:EF)(L:List AV)(stE:aa)(out:List AV)(i m:Nat)(σ':St)(H':Hp):Prop
 |mk (P' φ' st' xs vs zs) (hm:m=L.length-i) (hle:i<=L.length) (f2:Frm P1 φ1 H1 P' φ' (hid H' p)) (s2:Sim mg P' φ' st' (hid H' p)) (rs2:PM mg P' (hid H' p) φ' sk σ') (hv:H' p=À (.lst vs)) (rx:PF mg P' (hid H' p) φ' xs vs) (hlen:xs.length<=i) (eg:iD gd g t f sk (L.drop i) st'=À (zs,stE)) (eo:out=xs++zs)
theorem Io[Pz]{n k:Nat}(hk:qh n g)(hn:σ.length=n)(h:rN mg (De k it g t f) σ H Q):Gh k (rI mg it) (rG mg g) (rT mg t) (rE mg f) σ H Q:=by
 refine e7 h fun P φ R st rs s q0=>?_
 obtain⟨out,stE,ef,kk⟩:=q0;obtain⟨q,e1,e2⟩:=zA ef;split at e2
 ·rename_i hz
  refine i7 rs s ⟨q.1,q.2,e1,fun P1 E H1 J f1 s1 ij=>fun p X=>?_⟩;have hsl:R.length=n:=by rw[rs.1];exact hn
  refine⟨LcI mg P1 E H1 p (R++Æ k Á) q.1.gd g t f q.1.PB stE out,⟨q.1.PB.length-0,?_⟩,?_⟩
  ·have e:hid (ag H1 p (.lst [])) p=H1:=by rw[wl,Cl X]
   exact .mk P1 E q.2 [] [] out rfl (ł _) (by rw[e];exact Frm.refl) (by rw[e];exact s1) (by rw[e];exact(rs.frm f1).ext0 k) ar (by rw[e];exact aZ) (zP _) (by simpa using e2) rfl
  ·intro i m σ' A hh
   refine g_ fun G bk=>?_
   obtain⟨P2,b,O,xs,N,zs,hm,hle,d,s2,U,I,rx,hlen,l,eo⟩:=hh;obtain⟨S,ex2⟩:=s2.sh _ I;have T:PM mg P2 A b (R++Æ k Á) σ':=⟨U.1,fun i v e=>let⟨w,e',r⟩:=U.2 i v e;⟨w,e',r.mono ex2 fun _ _ z=>z⟩⟩;have hpn:A p≠Á:=by rw[I];exact fun z=>nomatch z
   have f2v:Frm P1 E H1 P2 b A:=by
    refine⟨fun a h=>⟨(d.ext a h).1,?_⟩,d.new,fun a h n z=>?_,fun a h=>d.pn a h,fun a h=>?_,fun a o u h=>?_⟩
    ·have ne:a≠p:=fun e=>s1.dom a h (by rw[e];exact X)
     rw[<- bw (H:=A) ne];exact(d.ext a h).2
    ·have ne:a≠p:=fun e=>h (by rw[e];exact X)
     rw[<- bw (H:=A) ne];exact d.keep a h n z
    ·have ne:a≠p:=fun e=>h (by rw[e];exact X)
     rw[<- bw (H:=A) ne];exact d.sm a h
    ·have ne:a≠p:=aW h X
     rw[<- bw (H:=A) ne];exact d.fz a o u h
   rcases yT i q.1.PB.length with M|M
   ·rw[è M]at l
    simp only[iD]at l;split at l
    ·rename_i L
     obtain⟨go,yl⟩:=ij.go P2 b A O i _ f2v S L (zF M);refine bk (Or.inr ⟨go,fun x H3 hy=>g_ fun G bk=>?_⟩);obtain⟨P3,f3,s3,r3⟩:=yl x H3 hy;obtain⟨W,e4,e5⟩:=zA l;obtain⟨V,e6,e7⟩:=zA e5;obtain⟨kl,kj⟩:=hk _ _ _ _ _ e4;refine bk ⟨P3,b,R++Æ k Á,O,q.1.PB[i],T.frm f3,s3,r3,W.1,W.2,e4,fun P4 φ4 H4 σ4 f4 s4 F=>⟨P4,φ4,W.1,W.2,F,s4,V.1,V.2,e6,fun P5 D H5 c f5 s5 r5=>?_⟩⟩;cases r5;refine g_ fun G bk=>?_
     have Z:=(f3.trans f4).trans f5;have back:∀{P6:Pr}{B:List Ç}{H6:Hp},Frm P5 D H5 P6 B H6->PM mg P6 H6 B (R++Æ k Á) σ4:=fun f6=>((F.frm f5).frm f6).back kl fun j hj=>kj j oM
     cases hc:V.1 with
     |true =>
      rw[hc]at e7 bk;simp only[if_true]at e7 bk;obtain⟨q8,e8,e9⟩:=zA e7;obtain⟨z,e10,e11⟩:=zE.mp e9;cases e11;refine bk ⟨P5,D,W.1,V.2,F.frm f5,s5,q8.1,q8.2,e8,fun P6 B H6 y f6 s6 r6=>g_ fun G bk=>?_⟩;obtain⟨Y,sh,C,K⟩:=Frm.hd s2 ⟨_,I⟩ (Z.trans f6) s6;refine bk ⟨N,by rw[K];exact I,?_,q.1.PB.length-(i+1),by lia,?_⟩
      ·rw[<- rx.length]
       have h1:=zS hz;have h2:(1000000:Nat)<Ë:=by decide
       lia
      ·have eh:hid (ag H6 p (.lst (N++[y]))) p=hid H6 p:=wl
       refine .mk P6 B q8.2 (xs++[q8.1]) (N++[y]) z.1 rfl M (eh.symm▸d.trans Y) (eh.symm▸sh) (eh.symm▸?_) ar (eh.symm▸(rx.frm Y).app (aR (r6.mono C fun _ _ z=>z) aZ)) (by rw[zV];simp;lia) e10 (by rw[eo,yM];rfl)
       have:=back f6
       exact⟨this.1,fun i v e=>let⟨w,e',r⟩:=this.2 i v e;⟨w,e',r.mono C fun _ _ z=>z⟩⟩
     |false =>
      rw[hc]at e7 bk;simp only[yA,if_false]at e7 bk;obtain⟨Y,sh,C,K⟩:=Frm.hd s2 ⟨_,I⟩ Z s5;refine bk ⟨q.1.PB.length-(i+1),by lia,.mk P5 D V.2 xs N zs rfl M (d.trans Y) sh ?_ (by rw[K];exact I) (rx.frm Y) oM e7 eo⟩
      have:=back Frm.refl
      exact⟨this.1,fun i v e=>let⟨w,e',r⟩:=this.2 i v e;⟨w,e',r.mono C fun _ _ z=>z⟩⟩
    ·cases l
   ·have ei:i=q.1.PB.length:=g? hle M
    subst ei;rw[ϲ]at l;simp only[iD]at l;split at l
    ·rename_i L
     cases l;refine bk (Or.inl ⟨ij.stop P2 b A _ f2v S L,?_⟩)
     have:=kk P2 b (hid A p) p N (f1.trans d) s2 dQ (by rw[eo,ô];exact rx)
     rw[DW I]at this;exact this
    ·cases l
 ·cases e2
def wH[Pz](X:Cx)(a:List Ï)(t:TF):Prop:=wJ X a (rT X.gm t)
section
variable{X:Cx}{elt iter tg:Ï}{ifs:List Ï}{N':List Í}{scope:Ġ}{pos:Ĝ}{it:IF}{g:GF}{t:TF}{f:EF}
theorem EB[Pz]:wH X [] LH:=fun d s b H Q I a=>e7 a fun P e g f h c k=>EU d s b H Q I (k.pure c rfl)
theorem EA[Pz](h:QT X e t):wH X [e] t:=ET h
theorem Jy{e:Ï}{t t':TE}(h:PE X e t)(i:∀σ H Q,σ.length=X.N.length->t' σ H Q->t σ H Q):PE X e t':=fun b s σ H Q I a=>h b s σ H Q I (i σ H Q I.len a)
theorem Jw{st:ľ}{t t':TS}(h:PS X st t)(i:∀D σ H,σ.length=X.N.length->t' D σ H->t D σ H):PS X st t':=fun b s σ H D I a=>h b s σ H D I (i D σ H I.len a)
theorem Da[Pz](j:X.calm=Â)(T:j3 X N' scope)(e:QI X tg iter it)(i:∀cl s H fp Pw,QG (cE X N' scope cl s H fp Pw) tg g)(a:∀cl s H fp Pw,wH (cE X N' scope cl s H fp Pw) ifs t)
  (he:∀cl s H fp Pw,QE (cE X N' scope cl s H fp Pw) elt f) (d:qh X.N.length g) (b:∀x,õ iter X.env x=pure x):QN X (.ListComp elt [⟨tg,iter,ifs,0⟩] scope pos) (De (N'.length-X.N.length) it g t f) :=
 Jy (Ko (g:=rG X.gm g) (tt:=rT X.gm t) (te:=rE X.gm f) j T e (fun cl s H fp Pw=>i cl s H fp Pw) (fun cl s H fp Pw=>a cl s H fp Pw) (fun cl s H fp Pw=>he cl s H fp Pw) b) fun k H Q c h=>Io d c h
end
inductive Out where
 |nx (sl:Sl) (st:aa)|rt (v:AV) (st:aa)|bk (sl:Sl) (st:aa)|ct (sl:Sl) (st:aa)
abbrev SF:=Sl->aa->Option Out
def ThO[Pz](mg:Gm)(P:Pr)(φ:List Ç)(H:Hp)(D:lj):Out->Prop
 |.nx sl st=>∀P' φ' H' σ',Frm P φ H P' φ' H'->Sim mg P' φ' st H'->PM mg P' H' φ' sl σ'->D.nx σ' H'
 |.bk sl st=>∀P' φ' H' σ',Frm P φ H P' φ' H'->Sim mg P' φ' st H'->PM mg P' H' φ' sl σ'->D.bk σ' H'
 |.ct sl st=>∀P' φ' H' σ',Frm P φ H P' φ' H'->Sim mg P' φ' st H'->PM mg P' H' φ' sl σ'->D.ct σ' H'
 |.rt v st=>∀P' φ' H' w,Frm P φ H P' φ' H'->Sim mg P' φ' st H'->RA mg P' H' φ' v w->D.rt w H'
def KO[Pz](mg:Gm)(P:Pr)(φ:List Ç)(H:Hp)(r:Option Out)(D:lj):Prop:=∃o,r=À o/\ThO mg P φ H D o
def rS[Pz](mg:Gm)(f:SF):TS:=fun D d H=>∃P a c b,PM mg P H a c d/\Sim mg P a b H/\KO mg P a H (f c b) D
def QS[Pz](X:Cx)(st:ľ)(f:SF):Prop:=PS X st (rS X.gm f)
def oj[Pz](X:Cx)(a:List ľ)(f:SF):Prop:=PSs X a (rS X.gm f)
theorem ThO.frm[Pz](h:ThO mg P φ H D o)(f:Frm P φ H P1 φ1 H1):ThO mg P1 φ1 H1 D o:=by
 cases o with
 |nx sl st=>exact fun d a e b c=>h d a e b (f.trans c)
 |bk sl st=>exact fun d a e b c=>h d a e b (f.trans c)
 |ct sl st=>exact fun d a e b c=>h d a e b (f.trans c)
 |rt v st=>exact fun d a e b c=>h d a e b (f.trans c)
theorem KO.bindE[Pz]{α c:Type}{Ra:Gm->Pr->Hp->List Ç->α->c->Prop}{m:Option (α×aa)}{k:α×aa->Option Out}(h:KO mg P φ H (m.bind k) D) :
  KG mg Ra P φ H m fun b H1=>∃P1 φ1 st1 a,Frm P φ H P1 φ1 H1/\Sim mg P1 φ1 st1 H1/\Ra mg P1 H1 φ1 a b/\KO mg P1 φ1 H1 (k (a,st1)) D:=by
 obtain⟨o,e,q⟩:=h;cases m with
 |none=>cases e
 |some p=>exact⟨p.1,p.2,rfl,fun P1 φ1 H1 b f s r=>⟨P1,φ1,p.2,p.1,f,s,r,o,e,q.frm f⟩⟩
theorem KO.nx[Pz]{mg:Gm}{P:Pr}{φ:List Ç}{H:Hp}{sl:Sl}{st:aa}{D:lj}{σ:St}(h:KO mg P φ H (À (.nx sl st)) D)(s:Sim mg P φ st H)(r:PM mg P H φ sl σ):D.nx σ H:=by
 obtain⟨o,e,q⟩:=h;cases e;exact q P φ H σ Frm.refl s r
theorem KO.no[Pz](h:KO mg P φ H Á D):False:=by obtain⟨_,e,_⟩:=h;cases e
section
variable{X:Cx}{st:ľ}{rest:List ľ}{e c tg:Ï}{pos:Ĝ}{s t:SF}{f:EF}{g:GF}{b:TF}
noncomputable def LQ:SF:=fun b a=>À (.nx b a)
noncomputable def LO(s t:SF):SF:=fun b a=>(s b a).bind fun o=>match o with
 |.nx b a=>t b a
 |o=>À o
theorem Ep[Pz]:oj X [] LQ:=PSs_imp EM fun D d H a=>e7 a fun P c f e b s k=>k.nx s b
theorem BA[Pz](m:QS X st s)(l:oj X rest t):oj X (st::rest) (LO s t):=PSs_imp (BH m l) fun D w H d=>by
 refine e7 d fun P u x st j h k=>?_
 obtain⟨o,e,q⟩:=k;obtain⟨f,p,a⟩:=zA e;refine i7 j h ⟨f,p,?_⟩;cases f with
 |nx sl1 st1=>exact fun r b y g n i c=>⟨r,b,sl1,st1,c,i,o,a,q.frm n⟩
 |bk sl1 st1=>cases a;exact q
 |ct sl1 st1=>cases a;exact q
 |rt v st1=>cases a;exact q
noncomputable def GA:SF:=fun _ _=>Á
theorem Et[Pz]:QS X st GA:=PS_imp BJ fun D c H a=>e7 a fun P b d st e s k=>k.no
noncomputable def LU(f:EF):SF:=fun a b=>(f a b).bind fun p=>À (.nx a p.2)
theorem Es[Pz](he:QE X e f)(n:Ľ e Á pos.line X.env=pure Ä):QS X (.Expr e pos) (LU f):=PS_imp (EO he n) fun D y H d=>e7 d fun P v A z g s k=>i7 g s (by
 obtain⟨a,c,r,q⟩:=k.bindE (Ra:=RA);refine⟨a,c,r,fun t b u w p l r1=>?_⟩;obtain⟨B,h,i,x,o,j,r2,m⟩:=q t b u w p l r1;exact m.nx j (g.frm o))
noncomputable def LP(f:EF):SF:=fun b a=>(f b a).bind fun p=>À (.rt p.1 p.2)
theorem GO[Pz](he:QE X e f):QS X (.Return (À e) pos) (LP f):=PS_imp (Hh he) fun D z H g=>e7 g fun P y B A m s k=>i7 m s (by
 obtain⟨a,d,t,q⟩:=k.bindE (Ra:=RA);refine⟨a,d,t,fun v c h w p l r1=>?_⟩;obtain⟨u,b,i,x,C,j,r2,o,r,n⟩:=q v c h w p l r1;cases r;exact n u b h w Frm.refl j r2)
noncomputable def LR(b:TF)(s t:SF):SF:=fun a c=>(b a c).bind fun p=>if p.1=Â then s a p.2 else t a p.2
theorem JZ[Pz](u:QT X c b)(z:oj X x s)(v:oj X y t):QS X (.If c x y pos) (LR b s t):=PS_imp (Kf u z v) fun D G H i=>e7 i fun P F j I h p k=>i7 h p (by
 obtain⟨a,g,B,q⟩:=k.bindE (Ra:=RB);refine⟨a,g,B,fun C f E w A r r1=>?_⟩;obtain⟨o,d,e,x,n,l,r2,m⟩:=q C f E w A r r1;cases r2;cases w with
 |true=>exact⟨o,d,j,e,h.frm n,l,m⟩
 |false=>exact⟨o,d,j,e,h.frm n,l,m⟩)
noncomputable def zd(f:EF)(g:GF):SF:=fun a b=>(f a b).bind fun p=>(g p.1 a p.2).bind fun q=>À (.nx q.1 q.2)
theorem xV[Pz](h:rS mg (zd f g) D σ H):wY (rE mg f) (rG mg g) D σ H:=by
 refine e7 h fun P C k E i s n=>?_
 obtain⟨o,e,q⟩:=n;obtain⟨p,y,x⟩:=zA e;obtain⟨r,v,u⟩:=zA x;cases u;exact i7 i s ⟨p.1,p.2,y,fun A b F w j m r1=>⟨A,b,k,p.2,p.1,i.frm j,m,r1,r.1,r.2,v,fun z a B c t l d=>q z a B c (j.trans t) l d⟩⟩
theorem zm[Pz](he:QE X e f)(c:QG X tg g)(b:Ϭ [tg] e pos.line X.env=pure Ä)(a:ϭ [tg] e X.env=pure Á)(d:(Þ [tg] X.env).map (·.2)=[assign tg X.env]):QS X (.Assign [tg] e pos) (zd f g) :=
 PS_imp (Hj he c b a d) fun D i H h=>xV h
theorem HN[Pz]{i:Nat}(h:rG mg (AC i) v σ H Q):pR i v σ H Q:=by
 obtain⟨P,b,d,c,x,a,s,rx,k⟩:=h;exact k.pure s (a.set rx i)
theorem zl[Pz]{i:Nat}(o:X.N.Nodup)(m:X.N[i]?=À x)(j:Loc X.env.scope x)(he:QE X e f)(l:Ľ e (À (.Name x pos')) pos.line X.env=pure Ä)(n:X.fn x=Â\/X.env.scope.names.lookup x=À .local) :
  QS X (.Assign [.Name x pos'] e pos) (zd f (AC i)):=PS_imp (Hg o m j he l n) fun D v H h=>by
 obtain⟨P,u,z,y,c,s,g,d,q,k⟩:=xV h;exact i7 c s ⟨g,d,q,fun r a t w p b r1=>HN (k r a t w p b r1)⟩
def DG(m:Bool)(f:NF):EF:=if m=Â then Oq f else Os f
theorem HL[Pz]{mg:Gm}{m:Bool}{f:NF}{σ:St}{H:Hp}{Q:VK}(h:rE mg (DG m f) σ H Q):rN mg f σ H Q:=by
 refine e7 h fun P z B A n s u=>?_
 obtain⟨v,t,ev,k⟩:=u;cases m with
 |true =>
  obtain⟨q,l,b⟩:=zA ev;cases b;refine i7 n s ⟨q.1,q.2,l,fun o a y p r j d g r1=>?_⟩;obtain⟨i,c,e⟩:=HS d g r1;exact k o _ _ _ (j.trans i) c e
 |false =>
  obtain⟨q,l,b⟩:=zA ev;split at b
  ·rename_i w
   cases b;refine i7 n s ⟨q.1,q.2,l,fun o a y p r j d g r1=>?_⟩;obtain⟨x,i,c,e⟩:=IR d g w r1;exact k x a _ _ (j.trans i) c e
  ·cases b
theorem ic[Pz]{m:Bool}{f:NF}(h:QN X e f):QE X e (DG m f):=PE_imp h fun _ _ _ q=>HL q
theorem zk[Pz]{i:Nat}{y:Í}{n:Ĝ}{elt a d:Ï}{c:List Ï}{N':List Í}{scope:Ġ}{pos b:Ĝ}{it:IF}{g:GF}{t:TF}{f:EF}{m:Bool}(I:X.N.Nodup)(l:X.N[i]?=À y)(u:Loc X.env.scope y)
  (j:Ľ (.ListComp elt [⟨d,a,c,0⟩] scope pos) (À (.Name y n)) b.line X.env=pure Â)
  (G:X.calm=Â) (T:j3 X N' scope) (C:QI X d a it) (E:∀cl s H fp Pw,QG (cE X N' scope cl s H fp Pw) d g) (v:∀cl s H fp Pw,wH (cE X N' scope cl s H fp Pw) c t)
  (he:∀cl s H fp Pw,QE (cE X N' scope cl s H fp Pw) elt f) (B:qh X.N.length g) (z:∀x,õ a X.env x=pure x) (F:X.fn y=Â\/X.env.scope.names.lookup y=À .local) :
  QS X (.Assign [.Name y n] (.ListComp elt [⟨d,a,c,0⟩] scope pos) b) (zd (DG m (De (N'.length-X.N.length) it g t f)) (AC i)) :=
 Jw (zo (g:=rG X.gm g) (tt:=rT X.gm t) (te:=rE X.gm f) I l u j G T C (fun cl s H fp Pw=>E cl s H fp Pw) (fun cl s H fp Pw=>v cl s H fp Pw) (fun cl s H fp Pw=>he cl s H fp Pw) z F) fun D O H A h=>by
  obtain⟨P,N,R,Q,p,s,r,q,K,k⟩:=xV h;exact Io B A (HL (m:=m) (i7 p s ⟨r,q,K,fun L e M w J o r1=>HN (k L e M w J o r1)⟩))
noncomputable def xU(o:ġ)(_:aa):AV->AV->Option AV
 |.int a,.int b=>match o with
  |.Add=>À (.int (a+b))
  |.Sub=>À (.int (a-b))
  |_=>Á
 |_,_=>Á
theorem Nj[Pz](o:ġ):DL X o (fun x y H Q=>∃P φ st a b c,Sim X.gm P φ st H/\RA X.gm P H φ a x/\RA X.gm P H φ b y/\xU o st a b=À c/\∀w,RA X.gm P H φ c w->Q w H):=by
 rintro l s d H x y v u Q I rx f ⟨P,φ,st,a,b,c,m,h,g,e,k⟩;cases a <;> cases b <;> simp only [xU] at e <;> first | (cases e;done) | skip
 rename_i i j;simp only [RA] at h g;subst h;subst g;cases o <;> first | (cases e;done) | skip
 ·cases e
  exact ID l s d H _ _ v u Q I rx f ⟨i,j,rfl,rfl,k _ (by simp only[RA])⟩
 ·cases e
  exact IC l s d H _ _ v u Q I rx f ⟨i,j,rfl,rfl,k _ (by simp only[RA])⟩
theorem KR[Pz]:CN X (fun x y H Q=>∃P φ st a b c,Sim X.gm P φ st H/\RA X.gm P H φ a x/\RA X.gm P H φ (.int b) y/\(∃xs,bN st a=À xs/\gy xs b=À c)/\∀w,RA X.gm P H φ c w->Q w H):=by
 rintro r s e H x y v u Q I rx h ⟨P,φ,st,a,b,c,g,i,d,⟨xs,o,n⟩,k⟩;obtain⟨p,f,rfl,q,l⟩:=i.ls g o;obtain⟨w,m,j⟩:=qU l n;simp only[RA]at d;exact Co r s e H _ y v u Q I rx h ⟨p,f,b,w,rfl,d,q,m,k w j⟩
def xc(o:ġ)(f g h:EF):SF:=fun a d=>(f a d).bind fun p=>(g a p.2).bind fun q=>match q.1 with
 |.int i=>(bN q.2 p.1).bind fun c=>(gy c i).bind fun x=>(h a q.2).bind fun r=>(xU o r.2 x r.1).bind fun z=>(kN r.2 p.1 (.int i) z).bind fun b=>À (.nx a b)
 |_=>Á
theorem Eu[Pz]{a i:Ï}{f g h:EF}{o:ġ}{d:Ĝ}(Y:X.A.units+64<Ŗ)(Z:QE X a f)(hi:QE X i g)(he:QE X e h)
  (ha:∀ov iv new,augStore i ov iv new=(do holding [new,ov,iv] (ϡ ov iv new);release [new,ov,iv] [];pure .next)):QS X (.AugAssign (.Subscript a i d) o e pos) (xc o f g h) :=
 PS_imp (EQ Z hi KR he (Nj o) (C6 Y) ha) fun D O H y=>by
  refine e7 y fun P φ I st m s W=>?_
  obtain⟨out,eo,q⟩:=W;obtain⟨p,e1,e2⟩:=zA eo;obtain⟨r,e3,A⟩:=zA e2;split at A
  ·rename_i j hj
   obtain⟨Q,e5,e6⟩:=zA A;obtain⟨x,e7,e8⟩:=zA e6;obtain⟨t,e9,G⟩:=zA e8;obtain⟨z,F,E⟩:=zA G;obtain⟨w,C,B⟩:=zA E;cases B;refine i7 m s ⟨p.1,p.2,e1,fun P1 v H1 w1 n S r1=>⟨P1,v,I,p.2,m.frm n,S,r.1,r.2,e3,fun N c H2 w2 l K r2=>?_⟩⟩;rw[hj]at r2;refine⟨N,c,r.2,p.1,j,x,K,r1.frm l,r2,⟨Q,e5,e7⟩,fun w3 V=>⟨N,c,I,r.2,(m.frm n).frm l,K,t.1,t.2,e9,fun M b H3 w4 k J U=>⟨M,b,t.2,x,t.1,z,J,V.frm k,U,F,fun w5 T=>⟨M,b,t.2,p.1,.int j,z,w,J,(r1.frm l).frm k,r2.frm k,T,C,fun P4 u H4 L R=>?_⟩⟩⟩⟩;exact q P4 u H4 O (((n.trans l).trans k).trans L) R ((((m.frm n).frm l).frm k).frm L)
  ·cases A
end
inductive Iw[Pz](mg:Gm)(P1:Pr)(φ1:List Ç)(H1:Hp)(E:Sl->aa->Prop)(σ:St)(H:Hp):Prop
 |mk (P φ sl st) (f:Frm P1 φ1 H1 P φ H) (s:Sim mg P φ st H) (r:PM mg P H φ sl σ) (e:E sl st)
def dR(gd:Gd)(g:GF)(s:SF):List AV->Sl->aa->Option Out
 |[],sl,st=>if cx gd st=Â then À (.nx sl st) else Á
 |x::xs,sl,st=>if cx gd st=Â then(g x sl st).bind fun p=>(s p.1 p.2).bind fun o=>match o with
  |.nx sl st=>dR gd g s xs sl st
  |.ct sl st=>dR gd g s xs sl st
  |.bk sl st=>À (.nx sl st)
  |.rt v st=>À (.rt v st) else Á
def LS(it:IF)(g:GF)(s:SF):SF:=fun a b=>(it a b).bind fun p=>dR p.1.gd g s p.1.PB a p.2
noncomputable def dA(t:TF)(s:SF):Nat->Sl->aa->Option Out
 |0,_,_=>Á
 |n+1,sl,st=>(t sl st).bind fun p=>if p.1=Â then(s sl p.2).bind fun o=>match o with
  |.nx sl st=>dA t s n sl st
  |.ct sl st=>dA t s n sl st
  |.bk sl st=>À (.nx sl st)
  |.rt v st=>À (.rt v st) else À (.nx sl p.2)
open Classical in
def nE(t:TF)(s:SF):SF:=fun b a=>if h:∃n,(dA t s n b a).isSome=Â then dA t s (Č h) b a else Á
theorem qY:∀{n m:Nat}{sl:Sl}{st:aa}{o:Out},n<=m->dA t s n sl st=À o->dA t s m sl st=À o:=by
 intro n
 induction n with
 |zero=>intro m sl st o _ h;cases h
 |succ n d =>
  intro m sl st o g h;cases m with
  |zero=>lia
  |succ m =>
   simp only[dA]at h ⊢;obtain⟨p,f,c⟩:=zA h;rw[f,Ã];split at c
   ·rename_i b
    rw[yH b];obtain⟨q,e,a⟩:=zA c;rw[e,Ã];cases q with
    |nx sl st=>exact d oM a
    |ct sl st=>exact d oM a
    |bk sl st=>exact a
    |rt v st=>exact a
   ·rename_i b
    rw[yG b];exact c
theorem o7{t:TF}{s:SF}{n:Nat}{sl:Sl}{st:aa}{o:Out}(h:dA t s n sl st=À o):nE t s sl st=À o:=by
 have a:∃n,(dA t s n sl st).isSome=Â:=⟨n,by rw[h];rfl⟩;unfold nE;rw[dif_pos a];obtain⟨e,b⟩:=ø.mp (ě a);have d:=qY (Nat.le_max_left n (Č a)) h;have c:=qY (Nat.le_max_right n (Č a)) b;rw[b,<- d,c]
theorem Ac{t:TF}{s:SF}{sl:Sl}{st:aa}{o:Out}(h:nE t s sl st=À o):∃n,dA t s n sl st=À o:=by
 unfold nE at h;split at h
 ·exact⟨_,h⟩
 ·cases h
section
variable{X:Cx}{tg iter c:Ï}{body:List ľ}{pos:Ĝ}{it:IF}{g:GF}{s:SF}{t:TF}
theorem GP[Pz](hp:ϣ (model X.prog X.w) X.A X.env X.xe)(hc:X.calm=Â)(hi:QI X tg iter it)(hg:QG X tg g)(hb:oj X body s)(hs:∀x,õ iter X.env x=pure x):QS X (.For tg iter body [] pos) (LS it g s) :=
 PS_imp (zp hp hc hi hg hb hs) fun D σ H R=>by
  refine e7 R fun P φ A E W sm q0=>?_
  obtain⟨o,e,q⟩:=q0;obtain⟨p,e1,e2⟩:=zA e;refine i7 W sm ⟨p.1,p.2,e1,fun V h H1 J f1 s1 Z=>?_⟩;have Q:=q.frm f1;refine⟨fun i m f u=>m=p.1.PB.length-i/\i<=p.1.PB.length/\Iw X.gm V h H1 (fun A E=>dR p.1.gd g s (p.1.PB.drop i) A E=À o) f u,⟨_,rfl,ł _,V,h,A,p.2,Frm.refl,s1,W.frm f1,by simpa using e2⟩,?_⟩;intro i m f u hh;refine g_ fun G bk=>?_
  obtain⟨em,S,U,d,M,y,K,N,B,c⟩:=hh;rcases yT i p.1.PB.length with l|T
  ·rw[è l]at c
   simp only[dR]at c;split at c
   ·rename_i n
    obtain⟨go,yl⟩:=Z.go U d u y i _ K N n (zF l);obtain⟨F,e4,e5⟩:=zA c;obtain⟨Y,e6,e7⟩:=zA e5;refine bk (.inr ⟨go,Iw X.gm V h H1 fun A E=>dR p.1.gd g s (p.1.PB.drop (i+1)) A E=À o,fun f u z=>⟨_,by lia,rfl,l,z⟩,fun x H3 hy=>g_ fun G bk=>?_⟩);obtain⟨P3,f3,s3,r3⟩:=yl x H3 hy;refine bk ⟨P3,d,M,y,_,B.frm f3,s3,r3,F.1,F.2,e4,fun P4 L H4 σ4 f4 s4 O=>⟨P4,L,F.1,F.2,O,s4,Y,e6,?_⟩⟩;have I:=(K.trans f3).trans f4;cases Y with
    |nx sl5 st5=>exact fun t a C j r k b=>⟨t,a,sl5,st5,I.trans r,k,b,e7⟩
    |ct sl5 st5=>exact fun t a C j r k b=>⟨t,a,sl5,st5,I.trans r,k,b,e7⟩
    |bk sl5 st5=>cases e7;exact fun t a C j r k b=>Q t a C j (I.trans r) k b
    |rt v st5=>cases e7;exact fun t a C w r k r5=>Q t a C w (I.trans r) k r5
   ·cases c
  ·have ei:i=p.1.PB.length:=g? S T
   subst ei;rw[ϲ]at c;simp only[dR]at c;split at c
   ·rename_i n
    cases c;exact bk (.inl ⟨Z.stop U d u _ K N n,Q U d u f K N B⟩)
   ·cases c
theorem BB[Pz](O:ϣ (model X.prog X.w) X.A X.env X.xe)(R:QT X c t)(S:oj X body s):QS X (.While c body [] pos) (nE t s) :=
 PS_imp (BI O R S) fun D Z H C=>by
  refine e7 C fun P B r n J I M=>?_
  obtain⟨o,e,q⟩:=M;obtain⟨N,V⟩:=Ac e;refine⟨fun m=>Iw X.gm P B H fun r n=>dA t s m r n=À o,⟨N,P,B,r,n,Frm.refl,I,J,V⟩,?_⟩;intro m l Y Q;cases Q with|mk P2 φ2 sl2 st2 f2 s2 rs2 eg =>
  cases m with
  |zero=>cases eg
  |succ m =>
   simp only[dA]at eg;obtain⟨p,U,j⟩:=zA eg;refine⟨P2,φ2,sl2,st2,rs2,s2,p.1,p.2,U,fun G k W b A E L=>?_⟩;cases L;cases u:p.1 with
   |true =>
    rw[u]at j;simp only[if_true]at j ⊢;obtain⟨F,T,e7⟩:=zA j;refine⟨Iw X.gm P B H fun r n=>dA t s m r n=À o,fun l Y z=>⟨m,ĵ m,z⟩,G,k,sl2,p.2,rs2.frm A,E,F,T,?_⟩;have y:=f2.trans A;cases F with
    |nx sl5 st5=>exact fun i a x f h g d=>⟨i,a,sl5,st5,y.trans h,g,d,e7⟩
    |ct sl5 st5=>exact fun i a x f h g d=>⟨i,a,sl5,st5,y.trans h,g,d,e7⟩
    |bk sl5 st5=>cases e7;exact fun i a x f h g d=>q i a x f (y.trans h) g d
    |rt v st5=>cases e7;exact fun i a x w h g K=>q i a x w (y.trans h) g K
   |false =>
    rw[u]at j;simp only[yA,if_false]at j ⊢;cases j;exact q G k W l (f2.trans A) E (rs2.frm A)
end
abbrev Fn:=List AV->aa->Option (AV×aa)
def dY[Pz](mg:Gm)(n:Nat)(fn:Fn):Sp:=fun c H Q _=>c.length=n/\∃P b a d,PF mg P H b a c/\Sim mg P b d H/\KG mg RA P b H (fn a d) Q
def bE:Nat->aa->AV->Option AV
 |n+1,st,.ref k=>match st[k]? with
  |some (.lst xs)=>(aP (bE n st) xs).map .fz
  |some (.al t)=>À t
  |_=>Á
 |n+1,st,.tup xs=>(aP (bE n st) xs).map .tup
 |0,_,.ref _=>Á
 |0,_,.tup _=>Á
 |_,_,t=>À t
def dG:aa->AV->Option AV:=bE 6
mutual
noncomputable def flat:AV->Bool
 |.ref _=>Ä
 |.fz _=>Ä
 |.tup xs=>pY xs
 |_=>Â
noncomputable def pY:List AV->Bool
 |[]=>Â
 |x::xs=>flat x&&pY xs
end
def jG(st:aa)(x:AV):Option (AV×aa):=if rf x=Â then À (x,st) else match x with
 |.ref k=>match st[k]? with
  |some (.lst a)=>if rfs a=Â then À (.fz a,st.set k (.al (.fz a))) else Á
  |some (.al t)=>À (t,st)
  |_=>Á
 |_=>Á
def mw:aa->List AV->Option (List AV×aa)
 |st,[]=>À ([],st)
 |st,x::xs=>(jG st x).bind fun p=>(mw p.2 xs).map fun q=>(p.1::q.1,q.2)
def pm(fn:Fn):Fn:=fun a b=>if rfs a=Â then(fn a []).bind fun p=>(dG p.2 p.1).map fun t=>(t,b)
 else(aP (dG b) a).bind fun c=>(fn c []).bind fun p=>(dG p.2 p.1).bind fun t=>if flat t=Â then À (t,b) else
  (mw b a).bind fun q=>(fn q.1 []).bind fun p=>(dG p.2 p.1).map fun t=>(t,q.2)
section
variable{mg:Gm}{P:Pr}{φ:List Ç}{st:aa}{H:Hp}
theorem By[Pz]{n:Nat}(b:∀v w t,bE n st v=À t->RA mg P H φ v w->RA mg P' H [] t w):∀{xs:List AV}{vs:List V}{ts:List AV},aP (bE n st) xs=À ts->PF mg P H φ xs vs->PF mg P' H [] ts vs:=by
 intro xs
 induction xs with
 |nil=>intro vs ts e r;cases e;simp only[PF]at r ⊢;exact r
 |cons x xs a =>
  intro vs ts e r;simp only[aP]at e;obtain⟨y,g,f⟩:=zA e;obtain⟨h,d,c⟩:=zE.mp f;subst c;simp only[PF]at r;obtain⟨v,i,rfl,r1,r2⟩:=r;exact aR (b x v y g r1) (a d r2)
theorem tE[Pz](s:Sim mg P φ st H):∀(n:Nat)(v:AV)(w:V)(t:AV),bE n st v=À t->RA mg P H φ v w->RA mg (fun a=>P a\/a∈φ) H [] t w:=by
 have ex:∀a,P a->(P a\/a∈φ)/\H a=H a:=fun a h=>⟨.inl h,rfl⟩
 have o:∀{t:AV}{w:V},R.rf t=Â->RA mg P H φ t w->RA mg (fun a=>P a\/a∈φ) H [] t w:=fun h r=>(RA.rf (ψ:=[]) h r).mono ex fun _ _ z=>z
 intro n
 induction n with
 |zero =>
  intro v w t e r;cases v <;> simp only [bE] at e <;> first | (cases e;done) | skip
  all_goals cases e;exact o rfl r
 |succ n q =>
  intro v w t e r;cases v with
  |ref k =>
   simp only[bE]at e;simp only[RA]at r;obtain⟨a,j,rfl⟩:=r;split at e
   ·rename_i u f
    obtain⟨x,m,l⟩:=zE.mp e;subst l;obtain⟨y,b,c⟩:=s.at f;rw[j]at b;cases b;obtain⟨_,d,i,g⟩:=c;simp only[RA];exact⟨a,d,rfl,.inl ⟨.inr (zW j),.inl i⟩,By q m g⟩
   ·rename_i A f
    cases e;obtain⟨y,b,c⟩:=s.at f;rw[j]at b;cases b;exact c.2.mono ex fun _ _ z=>z
   ·cases e
  |tup u =>
   simp only[bE]at e;obtain⟨x,m,l⟩:=zE.mp e;subst l;simp only[RA]at r;obtain⟨a,d,rfl,p,i,g⟩:=r;simp only[RA];exact⟨a,d,rfl,.inl p,i,By q m g⟩
  |_=>simp only[bE]at e;cases e;exact o rfl r
mutual
theorem RA.fl[Pz](h:∀a vs,P a->H a=À (.tup vs)->P' a):∀{t:AV}{w:V},flat t=Â->RA mg P H φ t w->RA mg P' H ψ t w
 |.non,_,_,r=>by simp only[RA]at r ⊢;exact r
 |.bl _,_,_,r=>by simp only[RA]at r ⊢;exact r
 |.int _,_,_,r=>by simp only[RA]at r ⊢;exact r
 |.str _,_,_,r=>by simp only[RA]at r ⊢;exact r
 |.ref _,_,e,_=>by simp only[flat]at e;cases e
 |.fz _,_,e,_=>by simp only[flat]at e;cases e
 |.tup xs,_,e,r=>by
  simp only[RA,flat]at r e ⊢;obtain⟨a,vs,rfl,p,h1,h2⟩:=r;exact⟨a,vs,rfl,h a vs p h1,h1,PF.fl h e h2⟩
theorem PF.fl[Pz](h:∀a vs,P a->H a=À (.tup vs)->P' a):∀{ts:List AV}{ws:List V},pY ts=Â->PF mg P H φ ts ws->PF mg P' H ψ ts ws
 |[],_,_,r=>by simp only[PF]at r ⊢;exact r
 |t::ts,_,e,r=>by
  simp only[PF,pY,zC]at r e ⊢;obtain⟨v,ws,rfl,r1,r2⟩:=r;exact⟨v,ws,rfl,RA.fl h e.1 r1,PF.fl h e.2 r2⟩
end
theorem IS[Pz](s:Sim mg P φ st H)(e:jG st x=À (t,st'))(r:RA mg P H φ x v):∃P',Frm P φ H P' φ H/\Sim mg P' φ st' H/\RA mg P' H [] t v:=by
 unfold jG at e;split at e
 ·rename_i h
  cases e;exact⟨P,Frm.refl,s,RA.rf h r⟩
 ·cases x with
  |ref k =>
   simp only[RA]at r;obtain⟨a,f,rfl⟩:=r;dsimp only at e;split at e
   ·rename_i y o
    split at e
    ·rename_i B
     cases e;obtain⟨D,d,c⟩:=s.at o;rw[f]at d;cases d;obtain⟨F,A,w,u⟩:=c;have ex:∀b,P b->(P b\/b=a)/\H b=H b:=fun b h=>⟨.inl h,rfl⟩
     have m:=zW f;have q:RA mg (fun b=>P b\/b=a) H [] (.fz y) (.ref a):=by
      simp only[RA];exact⟨a,A,rfl,.inl ⟨.inr rfl,.inl w⟩,(PF.rf B u).mono ex fun _ _ z=>z⟩
     have C:∀b,(P b\/b=a)->H b≠Á:=fun b h=>by
      rcases h with h|h
      ·exact s.dom b h
      ·rw[h];exact s.cd a m
     refine⟨fun b=>P b\/b=a,⟨ex,⟨[],by simp,by simp⟩,fun _ _ _ _=>rfl,fun b h=>?_,fun _ h=>h,fun _ _ _ h=>h⟩,⟨by rw[à];exact s.len,s.nd,C,s.cd,fun j c b i g=>?_,fun t l=>⟨(s.tb t l).1,fun z=>z.elim (s.tb t l).2 fun z=>s.tnc l (by rw[z];exact m)⟩⟩,q⟩
     ·rcases h with h|h
      ·exact .inl h
      ·exact .inr (.inr (by rw[h];exact m))
     ·by_cases p:j=k
      ·subst p
       rw[f]at g;cases g;rw[ð (by rw[<- s.len];exact(zB.mp f).1)]at i;cases i;exact⟨.inr rfl,q⟩
      ·rw[î (ä p)]at i
       refine(s.cell j c b i g).mono ex (fun _ _ z=>z) rfl fun n z=>?_
       rcases z with z|z
       ·exact n z
       ·refine p ?_
        subst z;obtain⟨w,i⟩:=zB.mp g;obtain⟨u,g⟩:=zB.mp f;exact(Ū s.nd).mp (i.trans g.symm)
    ·cases e
   ·rename_i E o
    cases e;obtain⟨D,d,c⟩:=s.at o;rw[f]at d;cases d;exact⟨P,Frm.refl,s,c.2⟩
   ·cases e
  |_=>cases e
theorem IQ[Pz]:∀{xs ts:List AV}{st st':aa}{P:Pr}{vs:List V},Sim mg P φ st H->mw st xs=À (ts,st')->PF mg P H φ xs vs->∃P',Frm P φ H P' φ H/\Sim mg P' φ st' H/\PF mg P' H [] ts vs:=by
 intro xs
 induction xs with
 |nil=>intro ts st st' P vs s e r;cases e;simp only[PF]at r;subst r;exact⟨P,Frm.refl,s,aZ⟩
 |cons x xs h =>
  intro ts st st' P vs s e r;simp only[mw]at e;obtain⟨p,l,k⟩:=zA e;obtain⟨q,j,i⟩:=zE.mp k;cases i;simp only[PF]at r;obtain⟨v,n,rfl,r1,r2⟩:=r;obtain⟨o,b,d,g⟩:=IS s l r1;obtain⟨m,a,c,f⟩:=h d j (r2.frm b);exact⟨m,b.trans a,c,aR (g.mono a.ext fun _ _ z=>z) f⟩
theorem LV[Pz]{fn:Fn}{args:List AV}{vs:List V}{Q:VK}(s:Sim mg P φ st H)(r:PF mg P H [] args vs)(h:KG mg RA P φ H ((fn args []).bind fun p=>(dG p.2 p.1).map fun t=>(t,st)) Q):∃P φ args st,PF mg P H φ args vs/\Sim mg P φ st H/\KG mg RA P φ H (fn args st) Q:=by
 obtain⟨t,o,e,k⟩:=h;obtain⟨p,A,y⟩:=zA e;obtain⟨B,x,v⟩:=zE.mp y;cases v;refine⟨P,[],args,[],r,Sim.nil s.dom s.tb,p.1,p.2,A,fun j d l w b c r1=>?_⟩;obtain⟨m,em,nm⟩:=b.new;have i:∀a,H a≠Á->(∀q,H a≠À (.tbl q))->l a=H a:=fun a h=>b.keep a h (by simp)
 have u:=s.ckeep (fun a h=>(b.ext a h).2) i;have g:∀a,(j a\/a∈d)->P a\/H a=Á:=fun a h=>by
  rcases h with h|h
  ·rcases b.pn a h with z|z|z
   ·exact .inl z
   ·exact .inr z
   ·cases z
  ·rw[em]at h;exact .inr (nm a h)
 refine k (fun a=>j a\/a∈d) φ l w ⟨fun a h=>⟨.inl (b.ext a h).1,(b.ext a h).2⟩,⟨[],by simp,by simp⟩,fun a h _ z=>i a h z,fun a h=>?_,b.sm,b.fz⟩ (s.stay (fun a h=>⟨.inl (b.ext a h).1,(b.ext a h).2⟩) u (fun a h n z=>?_) (fun a h=>?_) fun t f=>⟨(c.tb t f).1,fun z=>z.elim (c.tb t f).2 (c.tnc f)⟩) (RA.lift (tE c 6 _ _ _ x r1))
 ·rcases g a h with z|z
  ·exact .inl z
  ·exact .inr (.inl z)
 ·rcases g a z with z|z
  ·exact n z
  ·exact s.cd a h z
 ·rcases h with h|h
  ·exact c.dom a h
  ·exact c.cd a h
theorem Kk[Pz]{n:Nat}(h:dY mg n (pm fn) vs H Q E):dY mg n fn vs H Q E:=by
 obtain⟨S,P,o,J,M,r,s,k⟩:=h;refine⟨S,?_⟩;unfold pm at k;split at k
 ·rename_i R
  exact LV s (PF.rf R r) k
 ·obtain⟨t,y,e,k⟩:=k
  obtain⟨L,e1,e2⟩:=zA e;obtain⟨p,e3,e4⟩:=zA e2;obtain⟨t',Z,A⟩:=zA e4;split at A
  ·rename_i T
   cases A;have dm:∀a,(P a\/a∈o)->H a≠Á:=fun a h=>by
    rcases h with h|h
    ·exact s.dom a h
    ·exact s.cd a h
   refine⟨fun a=>P a\/a∈o,[],L,[],By (fun v w t e r=>tE s 6 v w t e r) e1 r,Sim.nil dm (fun t g=>⟨(s.tb t g).1,fun z=>z.elim (s.tb t g).2 (s.tnc g)⟩),p.1,p.2,e3,fun B l C w d f r1=>?_⟩;obtain⟨m,em,nm⟩:=d.new;have D:∀a,H a≠Á->(∀O,H a≠À (.tbl O))->C a=H a:=fun a h=>d.keep a h (by simp)
   have F:=s.ckeep (fun a h=>(d.ext a (.inl h)).2) D;have u:∀a,P a->((B a\/a∈l)/\(a∈o->P a))/\C a=H a:=fun a h=>⟨⟨.inl (d.ext a (.inl h)).1,fun _=>h⟩,(d.ext a (.inl h)).2⟩
   refine k (fun a=>(B a\/a∈l)/\(a∈o->P a)) o C w ⟨u,⟨[],by simp,by simp⟩,fun a h _ z=>D a h z,fun a h=>?_,d.sm,d.fz⟩ (s.stay u F (fun a h n z=>n (z.2 h)) (fun a h=>?_) fun t g=>⟨(f.tb t g).1,fun z=>z.1.elim (f.tb t g).2 (f.tnc g)⟩) (RA.fl (fun a K W V=>⟨W,fun G=>?_⟩) T (tE f 6 _ _ _ Z r1))
   ·rcases h.1 with z|z
    ·rcases d.pn a z with z|z|z
     ·rcases z with z|z
      ·exact .inl z
      ·exact .inr (.inr z)
     ·exact .inr (.inl z)
     ·cases z
    ·rw[em]at z;exact .inr (.inl (nm a z))
   ·rcases h.1 with h|h
    ·exact f.dom a h
    ·exact f.cd a h
   ·obtain⟨j,I⟩:=z8 G
    obtain⟨c,U⟩:∃c,M[j]?=À c:=⟨_,zF (by rw[<- s.len];exact(zB.mp I).1)⟩;have i:=s.cell j c a U I;have b:H a=À (.tup K):=by rw[<- F a G];exact V
    cases c with
    |lst xs=>obtain⟨_,_,z,_⟩:=i;rw[b]at z;cases z
    |al t=>exact i.1
    |dK Px=>obtain⟨_,_,z,_⟩:=i;rw[b]at z;cases z
    |dT Px=>obtain⟨_,_,z,_⟩:=i;rw[b]at z;cases z
    |ins c fs=>obtain⟨_,_,_,_,_,z,_⟩:=i;rw[b]at z;cases z
    |wk Px=>obtain⟨_,_,_,z,_⟩:=i;rw[b]at z;cases z
  ·obtain⟨q,e7,Y⟩:=zA A
   obtain⟨B,d,f,r1⟩:=IQ s e7 r;exact LV f r1 ⟨t,y,Y,fun P2 x H2 w X N r2=>k P2 x H2 w (d.trans X) N r2⟩
end
theorem FnOk.pm[Pz]{P:Ò}{w:Ù}{K:Ü}{mg:Í->Option Å}{base:æ}{k:Nat}{f:Ç}{fd:Ē}{ps:List Í}{n:Nat}{fn:Fn}(F:FnOk P w K mg base fE k f fd ps (dY ⟨K,mg⟩ n fn)):FnOk P w K mg base fE k f fd ps (dY ⟨K,mg⟩ n (R.pm fn)) :=
 F.imp fun _ _ _ _ h=>Kk h
noncomputable def run(n:Nat)(b:SF):Fn:=fun a c=>(b (a.map À++Æ (n-a.length) Á) c).bind fun o=>match o with
 |.rt v c=>À (v,c)
 |.nx _ c=>À (.non,c)
 |_=>Á
theorem Ei[Pz](h:PF mg P H φ args vs):PM mg P H φ (args.map À++Æ (N.length-args.length) Á) (L2.start N vs):=by
 have b:=h.length;unfold L2.start;refine⟨by simp[b],fun i v e=>?_⟩;have c:i<args.length:=by
  rcases yT i args.length with z|z
  ·exact z
  ·rw[z6 (by simpa using z),þ]at e
   split at e<;>cases e
 rw[zN (by simpa using c),zR]at e;rw[zN (by rw[zH,<- b];exact c),zR];cases a:args[i]? with
 |none=>rw[a]at e;cases e
 |some x =>
  rw[a]at e;cases e;obtain⟨w,d,r1⟩:=h.get a;exact⟨w,by rw[d];rfl,r1⟩
noncomputable def DI(fn:Fn)(g:AF):EF:=fun b a=>(g b a).bind fun p=>fn p.1 p.2
section
variable{X:Cx}{x:Í}{p pos:Ĝ}{e o:Ï}{es:List Ï}{k:Nat}{f:Ç}{fd:Ē}{ps:List Í}{fn:Fn}{g:AF}{h:EF}
theorem Nz[Pz]{n:Nat}(m:∀sl st xs st',g sl st=À (xs,st')->xs.length=n)(q:rE mg (DI fn g) σ H Q):wX (dY mg n fn) [] E (rA mg g) σ H Q:=by
 refine e7 q fun P u sl st j s k=>?_
 refine i7 j s ?_;obtain⟨a,st',f,q⟩:=k.bind (Ra:=PF);refine⟨a,st',f,fun r d t b o i r1=>?_⟩;obtain⟨p,c,e,xs,v,h,r2,l⟩:=q r d t b o i r1;rw[ô];exact⟨by rw[<- r1.length];exact m _ _ _ _ f,p,c,xs,e,r2,h,l⟩
theorem EJ[Pz](F:FnOk X.prog X.w X.K X.mg X.base fE k f fd ps (dY X.gm ps.length fn))(b:Room k X.A)(i:Gl X x)(d:X.mg x=À (.ref f))(h:ĺ X.K (.ref f)=Â)(j:Binds X.K fd ps [])
  (l:QA X (e::es) g) (c:∀sl st xs st',g sl st=À (xs,st')->xs.length=ps.length) (a:(x==("__debug__":Í))=Ä) (he:Ê (e::es) X.env=(Ä,eval e X.env)::Ê es X.env) (hpl:(ù pos (Ê es X.env)).any (·.1)=Ä) :
  QE X (.Call (.Name x p) (e::es) [] pos) (DI fn g):=PE_imp (E6 (E:=E0) F b i d h j .nil pe l a he hpl) fun _ _ _ q=>Nz c q
theorem BE[Pz](F:FnOk X.prog X.w X.K X.mg X.base fE k f fd ps (dY X.gm ps.length fn))(e:Room k X.A)(j:Gl X x)(h:X.mg x=À (.ref f))(i:ĺ X.K (.ref f)=Â)(l:Binds X.K fd ps [])
  (g:ps.length=0) (a:(x==("__debug__":Í))=Ä):QE X (.Call (.Name x p) [] [] pos) (DI fn eL):=PE_imp (BX (E:=E0) F e j h i l .nil pe a) fun m H Q q=>by
 refine e7 q fun P b n c o s d=>?_
 exact⟨by simp[g],P,b,[],c,aZ,s,d⟩
noncomputable def jW(st:aa)(c:Í):AV->Option (List (Í×AV))
 |.ref k=>match st[k]? with
  |some (.ins c' fs)=>if c'=c then À fs else Á
  |_=>Á
 |_=>Á
theorem pA(h:KVR mg P H φ fs ws)(f:Í):(fs.lookup f=Á->ws.lookup f=Á)/\∀v,fs.lookup f=À v->∃w,ws.lookup f=À w/\RA mg P H φ v w:=by
 induction fs generalizing ws with
 |nil =>
  have:ws=[]:=by simpa using h.1.symm
  subst this;exact⟨fun _=>rfl,fun v e=>by cases e⟩
 |cons p fs k =>
  cases ws with
  |nil=>exact absurd h.1 (by simp)
  |cons q ws =>
   obtain⟨j,g⟩:=h;rw[zO,zO]at j g;injection j with h3 h4;simp only[PF]at g;obtain⟨v,n,m,i,l⟩:=g;injection m with h8 h9;subst h8;subst h9;obtain⟨a,b⟩:=p;obtain⟨c,d⟩:=q;dsimp only at h3 i;subst h3;rw[yN,yN];cases o:f==a with
   |true=>exact⟨fun z=>(by cases z),fun v z=>(by cases z;exact⟨d,rfl,i⟩)⟩
   |false=>exact k ⟨h4,l⟩
theorem oK[Pz]{mg:Gm}{P:Pr}{φ:List Ç}{st:aa}{H:Hp}{c:Í}{v:AV}{w:V}{fs:List (Í×AV)}(s:Sim mg P φ st H)(h:jW st c v=À fs)(r:RA mg P H φ v w) :
  ∃k a C dx ws,v=.ref k/\φ[k]?=À a/\¬P a/\w=.ref a/\mg.mg c=À (.ref C)/\H a=À (.ins C dx ws)/\KVR mg P H φ fs ws:=by
 cases v with
 |ref k =>
  simp only[jW]at h;split at h
  ·rename_i o m f
   split at h
   ·rename_i g
    cases h;subst g;simp only[RA]at r;obtain⟨a,d,rfl⟩:=r;obtain⟨p,b,n⟩:=s.at f;rw[d]at b;cases b;obtain⟨e,C,dx,ws,l,j,i⟩:=n;exact⟨k,a,C,dx,ws,rfl,d,e,rfl,l,j,i⟩
   ·cases h
  ·cases h
 |_=>cases h
def DH(c m:Í)(fn:Fn)(h:EF)(g:AF):EF:=fun a b=>(h a b).bind fun p=>(jW p.2 c p.1).bind fun fs=>if(fs.lookup m).isNone=Â then(g a p.2).bind fun q=>fn (p.1::q.1) q.2 else Á
theorem HZ[Pz]{n:Nat}(K:mg.mg c=À (.ref C))(I:∀sl st xs st',g sl st=À (xs,st')->xs.length+1=n)(q:rE mg (DH c m fn h g) σ H Q):wW C m (dY mg n fn) [] E (rE mg h) (rA mg g) σ H Q:=by
 refine e7 q fun P φ sl st o s G=>?_
 obtain⟨v,st',e,k⟩:=G;obtain⟨p,T,S⟩:=zA e;obtain⟨fs,R,i⟩:=zA S;split at i
 ·rename_i J
  obtain⟨q,x,O⟩:=zA i;refine i7 o s ⟨p.1,p.2,T,fun Y f H1 w u l r1=>?_⟩;obtain⟨j,a,C',U,y,h1,h2,h3,rfl,r,M,L⟩:=oK l R r1;rw[K]at r;cases r;refine⟨a,U,y,rfl,M,(pA L m).1 (by simpa using J),Y,f,sl,p.2,o.frm u,l,q.1,q.2,x,fun X d H2 A t D r2=>?_⟩;show dY mg n fn (V.ref a::(A++[])) H2 Q E;rw[ô];exact⟨by rw[yX,<- r2.length];exact I _ _ _ _ x,X,d,p.1::q.1,q.2,aR (r1.frm t) r2,D,v,st',O,fun W b Z z N B F=>k W b Z z ((u.trans t).trans N) B F⟩
 ·cases i
theorem EH[Pz](i:QE X o h)(cl:Cls X.K C)(r:X.mg c=À (.ref C))(l:ld X.K C m f)(F:FnOk X.prog X.w X.K X.mg X.base fE k f fd ps (dY X.gm ps.length fn))(d:Room k X.A)(n:Binds X.K fd ps [])
  (p:QA X (e::es) g) (j:∀sl st xs st',g sl st=À (xs,st')->xs.length+1=ps.length) (a:Ê (e::es) X.env=(Ä,eval e X.env)::Ê es X.env) (hpl:(ù pos (Ê es X.env)).any (·.1)=Ä)
  (b:eval (.Call (.Attribute o m apos) (e::es) [] pos) X.env=(do
   let ov <- eval o X.env
   Ŕ apos.atName
   let(f,first) <- holding [ov] (š ov m pl)
   ŧ pos f first (ù pos (Ê (e::es) X.env)) (ŉ pos (đ [] X.env)))):QE X (.Call (.Attribute o m apos) (e::es) [] pos) (DH c m fn h g) :=
 PE_imp (E1 (E:=E0) i cl l F d n .nil pe p a hpl b) fun _ _ _ q=>HZ r j q
theorem BD[Pz](J:QE X o h)(cl:Cls X.K C)(N:X.mg c=À (.ref C))(L:ld X.K C m f)(F:FnOk X.prog X.w X.K X.mg X.base fE k f fd ps (dY X.gm ps.length fn))(I:Room k X.A)(M:Binds X.K fd ps [])
  (K:ps.length=1)
  (G:eval (.Call (.Attribute o m apos) [] [] pos) X.env=(do
   let ov <- eval o X.env
   Ŕ apos.atName
   let(f,first) <- holding [ov] (š ov m pl)
   ŧ pos f first (ù pos (Ê [] X.env)) (ŉ pos (đ [] X.env)))):QE X (.Call (.Attribute o m apos) [] [] pos) (DH c m fn h eL) :=
 PE_imp (BS (E:=E0) J cl L F I M .nil pe G) fun σ H Q q=>by
  obtain⟨P,φ,x,t,B,s,v,b,e,k⟩:=HZ (E:=E0) (C:=C) N (g:=eL) (n:=1) (fun x t l b e=>by cases e;rfl) q;refine i7 B s ⟨v,b,e,fun Z i j w U z r1=>?_⟩;obtain⟨a,W,fs,T,S,R,O⟩:=k Z i j w U z r1;refine⟨a,W,fs,T,S,R,?_⟩;obtain⟨Y,d,u,r,A,y,l,p,V,D⟩:=O;cases V
  have:=D Y d j [] Frm.refl y aZ
  rw[K];exact this
noncomputable def A1(c:Í)(fn:Fn)(g:AF):EF:=fun b a=>(g b a).bind fun p=>(fn (.ref p.2.length::p.1) (p.2++[.ins c []])).bind fun q=>match q.1 with
 |.non=>À (.ref p.2.length,q.2)
 |_=>Á
theorem Fb[Pz]{mg:Gm}{P:Pr}{φ:List Ç}{st:aa}{H:Hp}{c:Í}{C x b:Ç}(s:Sim mg P φ st H)(m:mg.mg c=À (.ref C))(l:H x=Á)(hd:H b=Á)(ne:b≠x) :
  Frm P φ H P (φ++[x]) (ag (ag H b (.own x)) x (.ins C b []))/\Sim mg P (φ++[x]) (st++[.ins c []]) (ag (ag H b (.own x)) x (.ins C b [])):=by
 have f:∀a,H a≠Á->a≠b:=fun a h e=>h (by rw[e];exact hd)
 have g:Frm P φ H P φ (ag H b (.own x)):=⟨fun a h=>⟨h,ad (f a (s.dom a h))⟩,⟨[],by simp,by simp⟩,fun a h _ _=>ad (f a h),fun a h=>.inl h,fun a h=>by rw[ad (f a h)];exact h,fun a o u h=>by rw[ad (aW h hd)];exact h⟩;have i:Sim mg P φ st (ag H b (.own x)):=s.stay g.ext (fun a h=>ad (f a (s.cd a h))) (fun _ _ h=>h) (fun a h=>g.sm a (s.dom a h)) fun t j=>⟨(s.tb t j).1.new hd,(s.tb t j).2⟩
 have d:ag H b (.own x) x=Á:=by rw[ad (ä ne)];exact l
 obtain⟨n,k⟩:=oE (c:=.ins c []) (o:=.ins C b []) i d ⟨fun z=>i.dom x z d,C,b,[],m,ar,rfl,aZ⟩;exact⟨g.trans n,k⟩
theorem M8[Pz]{mg:Gm}{c:Í}{C:Ç}{n:Nat}{E:XK}{σ:St}{H:Hp}{Q:VK}(D:mg.mg c=À (.ref C))(B:∀sl st xs st',g sl st=À (xs,st')->xs.length+1=n)(q:rE mg (A1 c fn g) σ H Q):C3 C (dY mg n fn) [] E (rA mg g) σ H Q:=by
 refine e7 q fun P M sl st y s z=>?_
 obtain⟨v,st',e,k⟩:=z;obtain⟨p,m,I⟩:=zA e;obtain⟨q,G,b⟩:=zA I;refine i7 y s ⟨p.1,p.2,m,fun r a L N F h r1=>fun x o A hd ne=>?_⟩;obtain⟨l,u⟩:=Fb h D A hd ne;have rx:RA mg r (ag (ag L o (.own x)) x (.ins C o [])) (a++[x]) (.ref p.2.length) (.ref x):=by simp only[RA];exact⟨x,by rw[<- h.len];simp,rfl⟩
 rw[ô];refine⟨by rw[yX,<- r1.length];exact B _ _ _ _ m,r,a++[x],_,_,aR rx (r1.frm l),u,q.1,q.2,G,fun J d K w j t f=>?_⟩;cases i:q.1 with
 |non =>
  rw[i]at b f;cases b;simp only[RA]at f;exact⟨f,k J d K (.ref x) ((F.trans l).trans j) t (rx.frm j)⟩
 |_=>rw[i]at b;cases b
theorem G6[Pz](M:Mk X.K C f)(F:FnOk X.prog X.w X.K X.mg X.base fE k f fd ps (dY X.gm ps.length fn))(d:Room (k+1) X.A)(i:Gl X c)(b:X.mg c=À (.ref C))(j:Binds X.K fd ps [])
  (l:QA X (e::es) g) (h:∀sl st xs st',g sl st=À (xs,st')->xs.length+1=ps.length) (a:(c==("__debug__":Í))=Ä) (he:Ê (e::es) X.env=(Ä,eval e X.env)::Ê es X.env) (hpl:(ù pos (Ê es X.env)).any (·.1)=Ä) :
  QE X (.Call (.Name c p) (e::es) [] pos) (A1 c fn g):=PE_imp (E3 (E:=E0) M F d i b j .nil pe l a he hpl) fun _ _ _ q=>M8 b h q
def Mn(c fl:Í)(h:EF):EF:=fun b a=>(h b a).bind fun p=>(jW p.2 c p.1).bind fun fs=>(fs.lookup fl).map fun v=>(v,p.2)
theorem G7[Pz](y:QE X o h)(cl:Cls X.K C)(A:X.mg c=À (.ref C))(u:NoAttr X.K C fl)(z:ę o fl X.env (eval o X.env)=eval o X.env):QE X (.Attribute o fl apos) (Mn c fl h) :=
 PE_imp (Hy y z) fun S H Q f=>by
  refine e7 f fun P R U T q s r=>?_
  obtain⟨v,n,e,k⟩:=r;obtain⟨p,L,K⟩:=zA e;obtain⟨fs,J,I⟩:=zA K;obtain⟨t,G,F⟩:=zE.mp I;cases F;refine i7 q s ⟨p.1,p.2,L,fun N b O w E g r1=>?_⟩;obtain⟨j,a,l,M,m,Y,W,V,rfl,i,D,B⟩:=oK g J r1;have:l=C:=by rw[show X.gm.mg c=X.mg c from rfl,A]at i;cases i;rfl
  subst this;obtain⟨w,x,d⟩:=(pA B fl).2 _ G;exact⟨a,l,M,m,w,rfl,D,cl,u,x,k N b O w E g d⟩
noncomputable def jv(f:Í)(v:AV):List (Í×AV)->List (Í×AV)
 |[]=>[(f,v)]
 |(g,x)::r=>if g=f then(g,v)::r else(g,x)::jv f v r
theorem zn{mg:Gm}{P:Pr}{H:Hp}{φ:List Ç}{f:Í}{v:AV}{w:V}(r:RA mg P H φ v w):∀{fs:List (Í×AV)}{ws:List (Í×V)},KVR mg P H φ fs ws->KVR mg P H φ (jv f v fs) (eC f w ws):=by
 intro fs
 induction fs with
 |nil =>
  intro ws h;have:ws=[]:=by simpa using h.1.symm
  subst this;exact⟨rfl,aR r aZ⟩
 |cons p fs m =>
  intro ws h;cases ws with
  |nil=>exact absurd h.1 (by simp)
  |cons q ws =>
   obtain⟨l,g⟩:=h;rw[zO,zO]at l g;injection l with h3 h4;simp only[PF]at g;obtain⟨u,o,n,k,j⟩:=g;injection n with h8 h9;subst h8;subst h9;obtain⟨a,b⟩:=p;obtain⟨c,d⟩:=q;dsimp only at h3 k;subst h3;have i:=m (ws:=ws) ⟨h4,j⟩;unfold jv eC;by_cases e:a=f
   ·rw[yH e,yH e]
    exact⟨by rw[zO,zO,h4],aR r j⟩
   ·rw[yG e,yG e]
    exact⟨by rw[zO,zO,i.1],aR k i.2⟩
def zc(c fl:Í)(h f:EF):SF:=fun a b=>(f a b).bind fun p=>(h a p.2).bind fun q=>match q.1 with
 |.ref k=>(jW q.2 c (.ref k)).bind fun fs=>if Û fs.length 900=Â then À (.nx a (q.2.set k (.ins c (jv fl p.1 fs)))) else Á
 |_=>Á
theorem GQ[Pz](S:QE X o h)(Q:QE X e f')(cl:Cls X.K C)(y:X.mg c=À (.ref C))(N:NoAttr X.K C fl)(R:Ľ e (À (.Attribute o fl pos')) pos.line X.env=pure Ä):QS X (.Assign [.Attribute o fl pos'] e pos) (zc c fl h f') :=
 PS_imp (Hi S Q R) fun D G H l=>by
  refine e7 l fun P φ J st k s M=>?_
  obtain⟨out,Y,q⟩:=M;obtain⟨p,e1,e2⟩:=zA Y;obtain⟨r,e3,v⟩:=zA e2;split at v
  ·rename_i j U
   obtain⟨fs,Z,u⟩:=zA v;split at u
   ·rename_i T
    cases u;refine i7 k s ⟨p.1,p.2,e1,fun P1 g H1 I t L r1=>⟨P1,g,J,p.2,k.frm t,L,r.1,r.2,e3,fun P2 f H2 w2 n x r2=>?_⟩⟩;rw[U]at r2;obtain⟨j',a,d,w,i,W,V,m,rfl,E,B,A⟩:=oK x Z r2;cases W;have:d=C:=by rw[show X.gm.mg c=X.mg c from rfl,y]at E;cases E;rfl
    subst this;have O:i.length<1000:=by
     have z:=congrArg ŏ A.1;rw[zH,zH]at z
     have:=zS T
     lia
    obtain⟨F,K⟩:=iU (c:=.ins c (jv fl p.1 fs)) (o:=.ins d w (eC fl I i)) x V m ⟨m,d,w,_,y,ar,(zn (r1.frm n) A).mono (fun b h=>⟨h,ad fun e=>m (e▸h)⟩) fun _ _ z=>z⟩ (fun _ _ z=>by rw[B]at z;cases z);exact⟨a,d,w,i,rfl,B,cl,N,O,q P2 f _ G ((t.trans n).trans F) K (((k.frm t).frm n).frm F)⟩
   ·cases u
  ·cases v
end
open DD (obj_list obj_tup minL minL_eq cnt_vals)
abbrev BF:=List AV->aa->Option (AV×aa)
def rB[Pz](mg:Gm)(k:BF):List V->Hp->VK->Prop:=fun d H Q=>∃P a c b,Sim mg P a c H/\PF mg P H a b d/\KG mg RA P a H (k b c) Q
noncomputable def ve(k:BF)(g:AF):EF:=fun b a=>(g b a).bind fun p=>k p.1 p.2
theorem CH[Pz](q:rE mg (ve k g) σ H Q):Gi (rB mg k) (rA mg g) σ H Q:=by
 refine e7 q fun P v x w l s m=>?_
 refine i7 l s ?_;obtain⟨a,f,p,q⟩:=m.bind (Ra:=PF);refine⟨a,f,p,fun t d u b o j r1=>?_⟩;obtain⟨r,c,e,h,y,i,r2,n⟩:=q t d u b o j r1;exact⟨r,c,e,h,i,r2,n⟩
noncomputable def bI(h:aa->List AV->Option AV):BF:=fun b a=>(h a b).map fun z=>(z,a)
section
variable{X:Cx}{x:Í}{p pos:Ĝ}{e o a:Ï}{es:List Ï}{g:AF}{k:BF}{bid T:String}
theorem mS[Pz](h:cT X (.builtin bid) (rB X.gm k))(f:Gl X x)(d:X.mg x=Á)(b:á x=À (.builtin bid))(i:QA X (e::es) g)(c:x≠"__name__")(a:(x==("__debug__":Í))=Ä)
  (he:Ê (e::es) X.env=(Ä,eval e X.env)::Ê es X.env) (hpl:(ù pos (Ê es X.env)).any (·.1)=Ä):QE X (.Call (.Name x p) (e::es) [] pos) (ve k g) :=
 PE_imp (BW h f d b i c a he hpl) fun _ _ _ q=>CH q
theorem J9[Pz](h:cT X (.type T) (rB X.gm k))(f:Gl X x)(d:X.mg x=Á)(b:á x=À (.type T))(i:QA X (e::es) g)(c:x≠"__name__")(a:(x==("__debug__":Í))=Ä)
  (he:Ê (e::es) X.env=(Ä,eval e X.env)::Ê es X.env) (hpl:(ù pos (Ê es X.env)).any (·.1)=Ä):QE X (.Call (.Name x p) (e::es) [] pos) (ve k g) :=
 PE_imp (rn h f d b i c a he hpl) fun _ _ _ q=>CH q
theorem PF.one{mg:Gm}{P:Pr}{H:Hp}{φ:List Ç}{x:AV}{vs:List V}(h:PF mg P H φ [x] vs):∃v,vs=[v]/\RA mg P H φ x v:=by
 simp only[PF]at h;obtain⟨v,a,rfl,r,rfl⟩:=h;exact⟨v,rfl,r⟩
theorem PF.two{mg:Gm}{P:Pr}{H:Hp}{φ:List Ç}{x y:AV}{vs:List V}(h:PF mg P H φ [x,y] vs):∃v w,vs=[v,w]/\RA mg P H φ x v/\RA mg P H φ y w:=by
 simp only[PF]at h;obtain⟨v,b,rfl,r,w,c,rfl,a,rfl⟩:=h;exact⟨v,w,rfl,r,a⟩
theorem qt(h:cT X f r)(i:∀xs H Q,r' xs H Q->r xs H Q):cT X f r':=fun e s a H xs b Q I c d=>h e s a H xs b Q I c (i xs H Q d)
def eV(st:aa):List AV->Option AV
 |[v]=>match bN st v with
  |some xs=>À (.int xs.length)
  |none=>match ju st v with
   |some xs=>À (.int xs.length)
   |none=>match v with
    |.str x=>if dE x.length=Â then À (.int x.length) else Á
    |v=>match jJ st v with
     |some Px=>À (.int Px.length)
     |none=>(nX st v).map fun Px=>.int Px.length
 |_=>Á
theorem xP:cT X (.builtin "len") (fun xs H Q=>∃a Px,xs=[V.ref a]/\H a=À (.dK Px)/\Q (.int Px.length) H):=by
 intro k s i H xs j Q I r h;obtain⟨a,Px,rfl,f,q⟩:=h;obtain⟨u,rfl,d⟩:=eM r;cases d;obtain⟨z,hd,c,b,g⟩:=Du I.PJ f;have e:Px.length=c.length:=Paired.length b;have hz:Ë=16777216:=ϛ;exact call_len_dict hd g oM ⟨.int _,H,I.tok _,⟨_,by rw[e]⟩,q⟩
theorem Ln[Pz]:cT X (.builtin "len") (rB X.gm (bI eV)):=by
 rintro l s d H m f Q I g ⟨P,J,E,K,o,r,B⟩;obtain⟨z,e,k⟩:=B.map;clear B;unfold eV at e;split at e
 ·rename_i v
  obtain⟨w,F,A⟩:=r.one;clear r;subst F;have r:=A;clear A;have au:∀n:Nat,z=.int n->Q (.int n) H:=fun n h=>by subst h;exact k.pure o (by simp only[RA])
  split at e
  ·rename_i D u
   cases e;obtain⟨a,m,rfl,y,b⟩:=r.ls o u;exact mB l s d H _ f Q I g ⟨a,m,rfl,.inl y,by rw[<- b.length];exact au _ rfl⟩
  ·split at e
   ·rename_i D u
    cases e;obtain⟨a,m,rfl,y,b⟩:=r.tp o u;exact mB l s d H _ f Q I g ⟨a,m,rfl,.inr (.inl (.inl y)),by rw[<- b.length];exact au _ rfl⟩
   ·cases v with
    |str x =>
     dsimp only at e;split at e
     ·rename_i hz
      cases e;simp only[RA]at r;subst r;exact u0 l s d H _ f Q I g ⟨x,rfl,j8 hz,au _ rfl⟩
     ·cases e
    |ref j =>
     simp only[RA]at r;obtain⟨a,G,rfl⟩:=r;dsimp only[jJ,nX]at e;cases t:E[j]? with
     |none=>rw[t]at e;cases e
     |some c =>
      rw[t]at e;obtain⟨L,i,C⟩:=o.at t;rw[G]at i;cases i;cases c with
      |dK Px =>
       cases e;obtain⟨_,p,b,q⟩:=C
       have:=congrArg ŏ q.1
       rw[zH,zH]at this;exact xP l s d H _ f Q I g ⟨a,p,rfl,b,by rw[<- this];exact au _ rfl⟩
      |dT Px =>
       cases e;obtain⟨_,p,b,q⟩:=C
       have:=congrArg ŏ q.1
       rw[zH,zH]at this;exact AT l s d H _ f Q I g ⟨a,p,rfl,b,by rw[<- this];exact au _ rfl⟩
      |_=>cases e
    |_=>cases e
 ·cases e
def mX:List AV->Option (List Int):=aP fun x=>match x with
 |.int i=>À i
 |_=>Á
theorem Ax(h:mX xs=À ns):xs=ns.map .int:=by
 unfold mX at h
 induction xs generalizing ns with
 |nil=>cases h;rfl
 |cons x xs b =>
  simp only [aP] at h;obtain ⟨y,a,e⟩:=zA h;obtain ⟨f,d,c⟩:=zE.mp e;subst c;cases x <;> first | (cases a;done) | skip
  cases a;rw[b d];rfl
def lsI(st:aa)(v:AV):Option (List Int):=(bN st v).bind mX
theorem RA.lsI[Pz]{mg:Gm}{P:Pr}{H:Hp}{φ:List Ç}{st:aa}{v:AV}{w:V}{ns:List Int}(s:Sim mg P φ st H)(r:RA mg P H φ v w)(h:R.lsI st v=À ns):∃a,w=.ref a/\bJ mg.K H a (ns.map .int):=by
 obtain⟨f,e,d⟩:=zA h;obtain⟨a,g,rfl,b,c⟩:=r.ls s e
 have:=Ax d
 subst this;rw[c.ints]at b;exact⟨a,rfl,b⟩
def qB(st:aa):List AV->Option AV
 |[v]=>(lsI st v).map fun ns=>.int ns.sum
 |_=>Á
theorem Lk[Pz](t:X.calm=Â):cT X (.builtin "sum") (rB X.gm (bI qB)):=by
 rintro K s C H D E Q I m ⟨P,B,G,xs,f,r,h⟩;obtain⟨z,e,k⟩:=h.map;clear h;unfold qB at e;split at e
 ·rename_i v
  obtain⟨w,x,g⟩:=r.one;clear r;subst x;have r:=g;clear g;obtain⟨c,y,rfl⟩:=zE.mp e;obtain⟨a,rfl,A⟩:=r.lsI f y;obtain⟨u,rfl,n⟩:=eM m;cases n;obtain⟨d,o,p,_⟩:=I.list A;have j:ώ d c:=kU o;obtain⟨b,i⟩:=j.allInts.items;refine sum_intListG (xs:=b) (I.ok.hd t) (by rw[<- i];exact p.isList) fun J F l q=>⟨.int c.sum,H,I.kept q,?_,k.pure f (by simp only[RA])⟩
  have:(preSum (A' b) b.size)=c.sum:=by
   rw[preSum_eq,Ų (by simp),<- M!,<- i];rw[show d.toArray.toList=d from rfl,j.numsOf]
  rw[this];exact⟨l,rfl⟩
 ·cases e
noncomputable def yu:AV->Option Bool
 |.bl b=>À b
 |.int i=>À (i !=0)
 |_=>Á
def vd(st:aa):List AV->Option AV
 |[v]=>(bN st v).bind fun xs=>(aP yu xs).map fun bs=>.bl (bs.all id)
 |_=>Á
theorem F8[Pz]:∀{xs:List AV}{vs:List V}{us:List Å}{bs:List Bool},aP yu xs=À bs->PF mg P H φ xs vs->Vals vs us->bs.length=us.length/\∀(i:Nat) u,us[i]?=À u->u=.bool (bs.getD i Â)\/∃n t,u=.int n t/\(n !=0)=bs.getD i Â:=by
 intro xs
 induction xs with
 |nil=>intro vs us bs e r q;cases e;simp only[PF]at r;subst r;cases q;exact⟨rfl,fun i u h=>by simp at h⟩
 |cons x xs d =>
  intro vs us bs e r q;simp only[aP]at e;obtain⟨y,a,l⟩:=zA e;obtain⟨m,k,j⟩:=zE.mp l;subst j;simp only[PF]at r;obtain⟨v,o,rfl,r1,r2⟩:=r;cases q with
  |cons b c =>
   obtain⟨g,f⟩:=d k r2 c;refine⟨by simp[g],fun i u h=>?_⟩;cases i with
   |zero =>
    simp at h;subst h;cases x <;> first | (cases a;done) | skip
    ·cases a;simp only[RA]at r1;subst r1;cases b;exact .inl rfl
    ·cases a;simp only[RA]at r1;subst r1;obtain⟨t,rfl⟩:=b;exact .inr ⟨_,t,rfl,rfl⟩
   |succ i=>simpa using f i u (by simpa using h)
theorem FN(bs:List Bool)(n:Nat)(h:bs.length=n):(É n).all (fun i=>bs.getD i Â)=bs.all id:=by
 subst h;rw[V6,yQ,yQ];constructor
 ·intro h x c
  obtain⟨i,b,rfl⟩:=List.getElem_of_mem c
  have:=h i (by simp[b])
  simpa [b] using this
 ·intro h i b
  have a:i<bs.length:=by simpa using b
  have:=h bs[i] (ĕ a)
  simpa [a] using this
theorem Lp[Pz](D:X.calm=Â):cT X (.builtin "all") (rB X.gm (bI vd)):=by
 rintro Pw s O H m T Q I o ⟨P,N,V,S,g,r,j⟩;obtain⟨z,e,k⟩:=j.map;clear j;unfold vd at e;split at e
 ·rename_i v
  obtain⟨w,F,h⟩:=r.one;clear r;subst F;have r:=h;clear h;obtain⟨R,K,J⟩:=zA e;obtain⟨bs,G,rfl⟩:=zE.mp J;obtain⟨a,m,rfl,L,x⟩:=r.ls g K;obtain⟨u,rfl,p⟩:=eM o;cases p;obtain⟨M,q,y,_⟩:=I.list L;obtain⟨c,f⟩:=F8 G x q;have d:=y.isList;have b:a<s.heap.objs.size:=by obtain⟨_,e,_⟩:=d;exact yI e
  refine call_all_walk (Đ d ⟨_,_,_,_,_,_,fun i=>bs.getD i Â,rfl,Walks.list (A:=X.A.in1) (I.ok.hd D) _ a (zU b) M.toArray,⟨⟨_,zY _ rfl,rfl,rfl⟩,d.push _⟩,?_,fun Y U C=>?_⟩)
  ·intro i v W Z E2 E l
   rcases f i v (by simpa using E) with rfl|⟨n,t,rfl,B⟩
   ·exact ď l
   ·exact D' (by rw[B];exact l)
  ·refine⟨.bl (bs.all id),H,I.kept (old_kept C),?_,k.pure g (by simp only[RA])⟩
   rw[FN bs _ (by simpa using c)];rfl
 ·cases e
noncomputable def lb(_:aa):List AV->Option AV
 |[.int i]=>À (.int (if i<0 then -i else i))
 |_=>Á
theorem Lq[Pz]:cT X (.builtin "abs") (rB X.gm (bI lb)):=qt CD fun i H Q a=>by
 obtain⟨P,g,j,h,c,r,d⟩:=a;obtain⟨z,e,k⟩:=d.map;unfold lb at e;split at e
 ·cases e
  obtain⟨w,f,b⟩:=r.one;clear r;subst f;have r:=b;clear b;simp only[RA]at r;exact⟨_,by rw[r],k.pure c (by simp only[RA])⟩
 ·cases e
def xy(st:aa):List AV->Option AV
 |[.int i,.int j]=>À (.int (if j<i then j else i))
 |[v]=>(lsI st v).bind fun ns=>(minL ns).map .int
 |_=>Á
noncomputable def H0:List Int->Option Int
 |[]=>Á
 |x::xs=>À (xs.foldl (fun a b=>if a<b then b else a) x)
theorem Na:∀(xs:List Int)(x:Int),(xs.foldl (fun a b=>if a<b then b else a) x∈x::xs)/\∀a∈x::xs,a<=xs.foldl (fun a b=>if a<b then b else a) x:=by
 intro xs
 induction xs with
 |nil=>intro x;exact⟨by simp,by simp⟩
 |cons y xs f =>
  intro x;rw[ħ];obtain⟨g,e⟩:=f (if x<y then y else x);refine⟨?_,fun a c=>?_⟩
  ·rcases zT.mp g with h|h
   ·rw[h];split<;>simp
   ·exact zQ _ (zQ _ h)
  ·have d:=e _ z7
   rcases zT.mp c with rfl|c
   ·refine Ķ ?_ d;split<;>lia
   ·rcases zT.mp c with rfl|c
    ·refine Ķ ?_ d;split<;>lia
    ·exact e a (zQ _ c)
theorem Fh{m x:Int}(h:H0 ns=À m)(d:x∈ns)(c:∀a∈ns,a<=x):x=m:=by
 cases ns with
 |nil=>cases h
 |cons y ns =>
  obtain⟨a,b⟩:=Na ns y;have e:ns.foldl (fun a b=>if a<b then b else a) y=m:=by injection h
  rw[e]at a b
  have:=c m a
  have:=b x d
  lia
def qH(st:aa):List AV->Option AV
 |[.int i,.int j]=>À (.int (if j > i then j else i))
 |[v]=>(lsI st v).bind fun ns=>(H0 ns).map .int
 |_=>Á
theorem Ll[Pz](C:X.calm=Â):cT X (.builtin "min") (rB X.gm (bI xy)):=by
 rintro T s E H Y F Q I p ⟨P,V,st,xs,h,r,x⟩;obtain⟨z,e,k⟩:=x.map;clear x;unfold xy at e;split at e
 ·rename_i i j
  cases e;obtain⟨w,W,o,q,d⟩:=r.two;clear r;subst o;have r:=q;have g:=d;clear q d;simp only[RA]at r g;subst r;subst g;exact AR C T s E H _ F Q I p ⟨i,j,rfl,k.pure h (by simp only[RA])⟩
 ·rename_i v
  obtain⟨w,o,d⟩:=r.one;clear r;subst o;have r:=d;clear d;obtain⟨f,R,O⟩:=zA e;obtain⟨m,A,rfl⟩:=zE.mp O;obtain⟨a,rfl,S⟩:=r.lsI h R;obtain⟨u,rfl,G⟩:=eM p;cases G;obtain⟨U,g,J,_⟩:=I.list S;have B:ώ U f:=kU g;obtain⟨c,y⟩:=B.allInts.items;have b:f=c.toList.map (·.1):=by rw[<- B.numsOf,<- M!,<- y]
  have l:0<c.size:=by
   cases f with
   |nil=>cases A
   |cons n f =>
    have:(n::f).length=c.size:=by rw[b,zH,é]
    simp at this;lia
  refine min_intList (xs:=c) (I.ok.hd C) (by rw[<- y];exact J.isList) l fun v h' Z K L=>?_
  obtain⟨t,rfl⟩:=intItems_at K;obtain⟨h1,N⟩:=argBest_lt (A' c) (c.size-1);refine⟨.int m,H,I.kept L,?_,k.pure h (by simp only[RA])⟩;have e:A' c (argBest (fun i j=>decide (A' c i<A' c j)) (c.size-1))=m:=by
   refine minL_eq A ?_ fun a D=>?_
   ·rw[b,U6];exact getD_mem (by rw[zH,é];lia)
   ·rw[b]at D
    obtain⟨j,M,rfl⟩:=mem_getD D;rw[zH,é]at M;rw[<- U6];exact N j oM
  exact⟨t,by rw[e]⟩
 ·cases e
theorem Lm[Pz](C:X.calm=Â):cT X (.builtin "max") (rB X.gm (bI qH)):=by
 rintro T s E H Y F Q I p ⟨P,V,st,xs,h,r,x⟩;obtain⟨z,e,k⟩:=x.map;clear x;unfold qH at e;split at e
 ·rename_i i j
  cases e;obtain⟨w,W,o,q,d⟩:=r.two;clear r;subst o;have r:=q;have g:=d;clear q d;simp only[RA]at r g;subst r;subst g;exact AS C T s E H _ F Q I p ⟨i,j,rfl,k.pure h (by simp only[RA])⟩
 ·rename_i v
  obtain⟨w,o,d⟩:=r.one;clear r;subst o;have r:=d;clear d;obtain⟨f,R,O⟩:=zA e;obtain⟨m,A,rfl⟩:=zE.mp O;obtain⟨a,rfl,S⟩:=r.lsI h R;obtain⟨u,rfl,G⟩:=eM p;cases G;obtain⟨U,g,J,_⟩:=I.list S;have B:ώ U f:=kU g;obtain⟨c,y⟩:=B.allInts.items;have b:f=c.toList.map (·.1):=by rw[<- B.numsOf,<- M!,<- y]
  have l:0<c.size:=by
   cases f with
   |nil=>cases A
   |cons n f =>
    have:(n::f).length=c.size:=by rw[b,zH,é]
    simp at this;lia
  refine max_intList (xs:=c) (I.ok.hd C) (by rw[<- y];exact J.isList) l fun v h' Z K L=>?_
  obtain⟨t,rfl⟩:=intItems_at K;obtain⟨h1,N⟩:=argBest_gt (A' c) (c.size-1);refine⟨.int m,H,I.kept L,?_,k.pure h (by simp only[RA])⟩;have e:A' c (argBest (fun i j=>decide (A' c i > A' c j)) (c.size-1))=m:=by
   refine Fh A ?_ fun a D=>?_
   ·rw[b,U6];exact getD_mem (by rw[zH,é];lia)
   ·rw[b]at D
    obtain⟨j,M,rfl⟩:=mem_getD D;rw[zH,é]at M;rw[<- U6];exact N j oM
  exact⟨t,by rw[e]⟩
 ·cases e
noncomputable def qK(_:aa):List AV->Option AV
 |[.int i]=>À (.int i)
 |[.bl b]=>À (.int (if b then 1 else 0))
 |_=>Á
theorem Lo[Pz]:cT X (.type "int") (rB X.gm (bI qK)):=qt AU fun i H Q b=>by
 obtain⟨P,g,j,h,d,r,f⟩:=b;obtain⟨z,e,k⟩:=f.map;unfold qK at e;split at e
 ·cases e
  obtain⟨w,c,a⟩:=r.one;clear r;subst c;have r:=a;clear a;simp only[RA]at r;exact .inl ⟨_,by rw[r],k.pure d (by simp only[RA])⟩
 ·cases e
  obtain⟨w,c,a⟩:=r.one;clear r;subst c;have r:=a;clear a;simp only[RA]at r;exact .inr ⟨_,by rw[r],k.pure d (by simp only[RA])⟩
 ·cases e
end
open DD (reads_each)
abbrev MF:=AV->List AV->aa->Option (AV×aa)
def rM[Pz](mg:Gm)(k:MF):V->List V->Hp->VK->Prop:=fun x e H Q=>∃P b d a c,Sim mg P b d H/\RA mg P H b a x/\PF mg P H b c e/\KG mg RA P b H (k a c d) Q
def vB(T:String)(st:aa)(v:AV):Bool:=match v with
 |.str _=>T=="str"
 |.int _=>T=="int"
 |v=>if T="list" then(bN st v).isSome else if T="dict" then(jJ st v).isSome||(nX st v).isSome else Ä
def qf(T:String)(k:MF)(f:EF)(g:AF):EF:=fun a b=>(f a b).bind fun p=>if vB T p.2 p.1=Â then(g a p.2).bind fun q=>k p.1 q.1 q.2 else Á
section
variable{X:Cx}{e o:Ï}{es:List Ï}{f:EF}{g:AF}{k:MF}{name:Í}{apos cpos:Ĝ}{T mid:String}
theorem DY[Pz]{P:Pr}{φ:List Ç}{st:aa}{H:Hp}{v:AV}{w:V}(s:Sim X.gm P φ st H)(r:RA X.gm P H φ v w)(h:vB T st v=Â):yj X.K T w H:=by
 have k:(if T="list" then(bN st v).isSome else if T="dict" then(jJ st v).isSome||(nX st v).isSome else Ä)=Â->yj X.K T w H:=fun h=>by
  split at h
  ·rename_i d
   obtain⟨p,e⟩:=ø.mp h;obtain⟨a,m,rfl,o,_⟩:=r.ls s e;exact .inl ⟨d,m,o⟩
  ·split at h
   ·rename_i d
    cases v with
    |ref j =>
     simp only[RA]at r;obtain⟨a,n,rfl⟩:=r;simp only[jJ,nX]at h;cases i:st[j]? with
     |none=>rw[i]at h;simp at h
     |some c =>
      rw[i]at h;obtain⟨q,b,l⟩:=s.at i;rw[n]at b;cases b;cases c with
      |dK Px=>obtain⟨_,f,g,_⟩:=l;exact .inr (.inr (.inl ⟨d,.inl ⟨f,g⟩⟩))
      |dT Px=>obtain⟨_,f,g,_⟩:=l;exact .inr (.inr (.inl ⟨d,.inr ⟨f,g⟩⟩))
      |_=>simp at h
    |_=>simp[jJ,nX]at h
   ·cases h
 unfold vB at h;cases v with
 |str x=>simp only[RA]at r;subst r;exact yJ h
 |int x=>simp only[RA]at r;subst r;exact yJ h
 |_=>exact k h
theorem HU[Pz](q:rE X.gm (qf T k f g) σ H Q):LL X.K T (rM X.gm k) (rE X.gm f) (rA X.gm g) σ H Q:=by
 refine e7 q fun P J n L i s x=>?_
 obtain⟨v,d,ev,y⟩:=x;obtain⟨p,D,e⟩:=zA ev;split at e
 ·rename_i z
  obtain⟨r,C,B⟩:=zA e;exact i7 i s ⟨p.1,p.2,D,fun G c N w l h r1=>⟨DY h r1 z,G,c,n,p.2,i.frm l,h,r.1,r.2,C,fun F b M K j t r2=>⟨F,b,r.2,p.1,r.1,t,r1.frm j,r2,v,d,B,fun E a I m A o u=>y E a I m ((l.trans j).trans A) o u⟩⟩⟩
 ·cases e
theorem sK[Pz](j:E! T)(d:Slot T name mid)(i:typeOf (.builtin mid)=pure (.type "method_descriptor"))(n:mJ X mid (rM X.gm k))(m:QE X o f)(p:QA X (e::es) g)
  (c:ę o name X.env (eval o X.env)=eval o X.env)
  (h:((ù cpos (Ê (e::es) X.env)).all (fun x=>!x.1)&&(ŉ cpos (đ [] X.env)).all (fun x=>x.1.isSome)
   && decide ((e::es).length+([]:List ŋ).length+(if([]:List ŋ).isEmpty then 0 else 1)<30))=Â)
  (b:(apos.endLine==cpos.line)=Â) (l:Ê (e::es) X.env=(Ä,eval e X.env)::Ê es X.env) (a:(ù cpos (Ê es X.env)).any (·.1)=Ä) :
  QE X (.Call (.Attribute o name apos) (e::es) [] cpos) (qf T k f g):=PE_imp (Kr j d i n m p c h b l a) fun _ _ _ q=>HU q
theorem pb[Pz](u:E! T)(c:Slot T name mid)(h:typeOf (.builtin mid)=pure (.type "method_descriptor"))(A:mJ X mid (rM X.gm k))(z:QE X o f)
  (b:ę o name X.env (eval o X.env)=eval o X.env) (a:(apos.endLine==cpos.line)=Â):QE X (.Call (.Attribute o name apos) [] [] cpos) (qf T k f eL) :=
 PE_imp (Hz u c h A z b a) fun I H Q q=>by
  obtain⟨P,G,L,K,t,s,v,g,ev,x⟩:=HU q;refine i7 t s ⟨v,g,ev,fun F e i w C p r1=>?_⟩;obtain⟨B,E,d,m,l,r,n,J,j,D,y⟩:=x F e i w C p r1;cases D;exact⟨B,y E d i [] Frm.refl n aZ⟩
theorem oT(h:mJ X mid r)(i:∀x xs H Q,r' x xs H Q->r x xs H Q):mJ X mid r':=fun e s a H x xs v b Q I rx c d=>h e s a H x xs v b Q I rx c (i x xs H Q d)
noncomputable def jK(st:aa):AV->Option (Nat×List AV)
 |.ref k=>match st[k]? with
  |some (.lst xs)=>À (k,xs)
  |_=>Á
 |_=>Á
theorem rV[Pz]{mg:Gm}{P:Pr}{φ:List Ç}{st:aa}{H:Hp}{v:AV}{w:V}{j:Nat}{xs:List AV}(s:Sim mg P φ st H)(r:RA mg P H φ v w)(h:jK st v=À (j,xs)):∃a vs,w=.ref a/\φ[j]?=À a/\¬P a/\H a=À (.lst vs)/\PF mg P H φ xs vs:=by
 cases v with
 |ref i =>
  simp only[jK]at h;split at h
  ·rename_i k e
   cases h;simp only[RA]at r;obtain⟨a,c,rfl⟩:=r;obtain⟨l,b,d,vs,g,f⟩:=s.at e;rw[c]at b;cases b;exact⟨a,vs,rfl,c,d,g,f⟩
  ·cases h
 |_=>cases h
theorem vv[Pz]{mg:Gm}{P:Pr}{φ:List Ç}{st:aa}{H:Hp}{j:Nat}{a:Ç}{ys:List AV}{us:List V}(s:Sim mg P φ st H)(k:φ[j]?=À a)(d:¬P a)(g:∃vs,H a=À (.lst vs))(r:PF mg P H φ ys us) :
  Frm P φ H P φ (ag H a (.lst us))/\Sim mg P φ (st.set j (.lst ys)) (ag H a (.lst us))/\∀{t:AV}{w:V},RA mg P H φ t w->RA mg P (ag H a (.lst us)) φ t w:=by
 have ex:∀b,P b->P b/\ag H a (.lst us) b=H b:=fun b h=>⟨h,ad fun e=>d (e▸h)⟩
 obtain⟨i,f⟩:=iU (c:=.lst ys) (o:=.lst us) s k d ⟨d,us,ar,r.mono ex fun _ _ z=>z⟩ (fun _ _ z=>by obtain⟨vs,q⟩:=g;rw[q]at z;cases z);exact⟨i,f,fun h=>h.mono ex fun _ _ z=>z⟩
def tZ:MF:=fun x b a=>match b with
 |[y]=>(jK a x).bind fun c=>if dE c.2.length=Â then À (.non,a.set c.1 (.lst (c.2++[y]))) else Á
 |_=>Á
theorem JO{n:Nat}(h:dE n=Â):n<Ë:=yL (zS h) dC
theorem Dj[Pz]:mJ X "list.append" (rM X.gm tZ):=oT rp fun x z H Q d=>by
 obtain⟨P,i,A,a,u,s,r,m,v,k,e,o⟩:=d;unfold tZ at e;split at e
 ·rename_i y
  obtain⟨c,t,f⟩:=zA e;split at f
  ·rename_i hz
   cases f;obtain⟨b,j,rfl,q,n,h,g⟩:=rV s r t;obtain⟨w,rfl,r1⟩:=m.one;obtain⟨p,l,_⟩:=vv s q n ⟨_,h⟩ (g.app (aR r1 aZ));exact⟨b,j,w,rfl,rfl,h,by rw[<- g.length];exact JO hz,o P i _ _ p l (by simp only[RA])⟩
  ·cases f
 ·cases e
def OW:MF:=fun x b a=>match b with
 |[.int i]=>(jK a x).bind fun c=>if fW i=Â then(jz c.2.length i).bind fun j=>(c.2[j]?).map fun y=>(y,a.set c.1 (.lst (c.2.eraseIdx j))) else Á
 |_=>Á
def xD:MF:=fun x d a=>match d with
 |[y]=>(jK a x).bind fun c=>(bN a y).bind fun b=>if dE (c.2.length+b.length)=Â then À (.non,a.set c.1 (.lst (c.2++b))) else Á
 |_=>Á
theorem Dh[Pz]:mJ X "list.extend" (rM X.gm xD):=oT Ff fun x G H Q f=>by
 obtain⟨P,k,I,a,F,s,r,o,v,m,e,q⟩:=f;unfold xD at e;split at e
 ·rename_i y
  obtain⟨c,B,A⟩:=zA e;obtain⟨E,z,g⟩:=zA A;split at g
  ·rename_i hz
   cases g;obtain⟨b,l,rfl,u,p,j,i⟩:=rV s r B;obtain⟨w,rfl,r1⟩:=o.one;obtain⟨D,d,rfl,C,h⟩:=r1.ls s z;obtain⟨t,n,_⟩:=vv s u p ⟨_,j⟩ (i.app h);exact⟨b,D,l,d,rfl,rfl,j,C,by rw[<- i.length,<- h.length];exact j8 hz,q P k _ _ t n (by simp only[RA])⟩
  ·cases g
 ·cases e
def Cb:MF:=fun x b a=>match b with
 |[y]=>(cw 9 a x).bind fun p=>(cw 9 a y).bind fun q=>match p with
  |.list ps=>if(ps.all fun r=>pyOk r q)=Â then À (.int ((ps.countP fun r=>ã r q:Nat):Int),a) else Á
  |_=>Á
 |_=>Á
theorem Di[Pz](hu:X.A.units+64<Ŗ):mJ X "list.count" (rM X.gm Cb):=by
 rintro Pw s σ H x vs v us Q I rx l ⟨P,E,st,a,F,k,r,K,z,G,e,T⟩;unfold Cb at e;split at e
 ·rename_i y
  obtain⟨p,Z,Y⟩:=zA e;obtain⟨q,W,g⟩:=zA Y;split at g
  ·rename_i ps
   split at g
   ·rename_i PJ
    cases g;obtain⟨w,rfl,r1⟩:=K.one;obtain⟨u,rfl,J⟩:=l.one;obtain⟨b,M⟩:=ik I k 9 _ _ _ _ r Z rx;obtain⟨bs,L⟩:=ik I k 9 _ _ _ _ r1 W J;cases M with
    |@list a o items n F i hg j hdt rall =>
     obtain⟨S,A,R,t⟩:=o;dsimp only at j hdt;subst j;subst hdt
     classical
     have C:∀z f c,ű s.heap z f c->decide (∃p b,ű s.heap z p b/\ã p q=Â)=ã f q:=by
      intro z f c d;rcases he:ã f q with _|_
      ·refine z9 ?_
       rintro⟨O,i,N,D⟩
       have:=(i? d O i N).1
       rw[<- this,he]at D;cases D
      ·exact yV ⟨f,c,d,he⟩
     refine ϋ Ŝ ⟨_,hg,rfl⟩ PySem.F.entry_list_count (PySem.F.args_list_count_2 _ _) (PySem.SeqAt.list_countAt a items n A t u (fun z=>decide (∃p b,ű s.heap z p b/\ã p q=Â))) ⟨hg,?_,?_⟩
     ·intro z hz
      obtain⟨m,c,B,d⟩:=reads_each rall z (by simpa using hz);obtain⟨V,U,k3⟩:=qE (yQ.mp PJ m B);rw[C z m c d];exact Ϸ m q _ s z u c bs d L V U (by simp only[Around.in1_units];lia)
     ·have j:=cnt_vals (q:=q) (e:=fun z=>decide (∃p b,ű s.heap z p b/\ã p q=Â)) (h:=s.heap) (vs:=items.toList) (ps:=ps) (fun v p b l=>C v p b l) rall
      rw[j];exact⟨.int _,H,I.kept (fun _ _ e=>e),⟨_,rfl⟩,T P E H _ Frm.refl k (by simp only[RA])⟩
   ·cases g
  ·cases g
 ·cases e
noncomputable def Ie:MF:=fun x a b=>match x,a with
 |.int i,[]=>À (.int ((ń i:Nat):Int),b)
 |_,_=>Á
theorem Ic[Pz]:mJ X "int.bit_length" (rM X.gm Ie):=oT Fg fun x i H Q b=>by
 obtain⟨P,d,j,a,h,s,r,c,v,f,e,g⟩:=b;unfold Ie at e;split at e
 ·cases e
  simp only[RA]at r;simp only[PF]at c;exact⟨_,r,c,g P d H _ Frm.refl s (by simp only[RA])⟩
 ·cases e
noncomputable def Mo(t:Bool):EF:=fun _ a=>À (.ref a.length,a++[if t=Â then .dT [] else .dK []])
theorem EI[Pz](i:PE X (.Dict [] [] pos) yx):QE X (.Dict [] [] pos) (Mo Ä):=PE_imp i fun l H Q a=>by
 refine e7 a fun P k n m p s g=>?_
 obtain⟨v,b,e,h⟩:=g;cases e;intro d hd;obtain⟨j,f⟩:=oE (c:=.dK []) (o:=.dK []) s hd ⟨fun z=>s.dom d z hd,[],ar,rfl,aZ⟩;refine h P _ _ _ j f ?_;simp only[RA];exact⟨d,by rw[<- s.len];simp,rfl⟩
end
theorem u7:á "min"=À (.builtin "min"):=by decide +kernel
def B7(ns:List Int):AV:=match minL ns with
 |some m=>.int m
 |none=>.non
def pw(st:aa):List AV->Option AV
 |[v]=>(lsI st v).map B7
 |_=>Á
theorem HX(a:Å):D! "min" ⟨[a],[(û "default",.none)]⟩:=by unfold D!;kernel_rfl
theorem HW(a v:Å):D! "min" ⟨[a],[(û "key",v),(û "default",.none)]⟩:=by unfold D!;kernel_rfl
theorem HY{α:Type}{l:List α}{x:α}(h:x∈l):∃i:Nat,l[i]?=À x:=z8 h
section
variable{X:Cx}{a:Ï}{f:EF}{p pos kp pc:Ĝ}{j:Nat}
theorem EG[Pz](N:X.calm=Â)(M:Gl X "min")(K:X.mg "min"=Á)(O:QE X a f)(q:Ê [a] X.env=[(Ä,eval a X.env)]) :
  QE X (.Call (.Name "min" p) [a] [⟨À "default",.Constant .none j pc,kp⟩] pos) (ve (bI pw) (dX f eL)):=by
 intro T s D H Q I h;have t:=CH h;refine ý (dJ I M K u7 (callWith_kw (aB ((cM O eU (by rw[q];rfl)) pos T s D H _ I t) fun us s1 ⟨Z,V,U,r1,F⟩=>?_) (by rw[q];rfl) (by rw[q];rfl) (by rfl) (by rfl)));refine kws_cons (Q! (kws_nil ?_));obtain⟨P,W,st,Y,o,r,G⟩:=F;obtain⟨z,e,k⟩:=G.map;unfold pw at e;split at e
 ·rename_i v
  obtain⟨w,rfl,E⟩:=r.one;obtain⟨ns,S,C⟩:=zE.mp e;obtain⟨l,rfl,L⟩:=E.lsI o S;obtain⟨u,rfl,A⟩:=eM r1;cases A;refine tW (ko:=Á) (ns:=ns) (I.ok.hd N) (fun i=>ns.getD i 0) (fun _ H=>H=V) (fun i H e=>by rw[e];exact L) rfl (HX _) (fun i n u pl s H c A y I=>.inl ⟨rfl,by simp[c],y⟩) (fun i n H c d y=>?_) (fun c=>?_) U rfl
  ·subst y
   have:minL ns=À n:=by
    cases B:minL ns with
    |none =>
     cases ns with
     |nil=>simp at c
     |cons _ _=>cases B
    |some m =>
     rw[minL_eq B (zW c) fun b t=>?_];obtain⟨J,g⟩:=HY t;have R:=(d J (zB.mp g).1).1;simpa [c,g] using R
   have x:z=.int n:=by rw[<- C];unfold B7;rw[this]
   subst x;exact k.pure o (by simp only[RA])
  ·subst c
   have x:z=.non:=by rw[<- C];rfl
   subst x;exact k.pure o (by simp only[RA])
 ·cases e
end
noncomputable def Aq(key:EF)(sl:Sl)(st:aa)(n:Int):Option Int:=match key (sl++[À (.int n)]) st with
 |some (.int k,_)=>À k
 |_=>Á
noncomputable def mH:Int->Int->List (Int×Int)->Int
 |n,_,[]=>n
 |n,k,(m,j)::r=>if j<k then mH m j r else mH n k r
def qV:List (Int×Int)->AV
 |[]=>.non
 |(n,k)::r=>.int (mH n k r)
def sU(f key:EF):EF:=fun a c=>(f a c).bind fun p=>(lsI p.2 p.1).bind fun b=>(aP (Aq key a p.2) b).map fun d=>(qV (b.zip d),p.2)
def DK(f:EF):Prop:=∀c b v a,f c b=À (v,a)->a=b
theorem nA:∀(r:List (Int×Int))(n k:Int),∃(i:Nat)(κ:Int),((n,k)::r)[i]?=À (mH n k r,κ)/\∀(j:Nat) q,((n,k)::r)[j]?=À q->κ<=q.2/\(j<i->κ<q.2)
 |[],n,k=>⟨0,k,rfl,fun j q e=>by
   cases j with
   |zero=>cases e;exact⟨Ő _,fun h=>absurd h (y0 _)⟩
   |succ j=>simp at e⟩
 |(m,j0)::r,n,k=>by
  by_cases hb:j0<k
  ·obtain⟨i,κ,e1,e2⟩:=nA r m j0
   refine⟨i+1,κ,by rw[Ė];simpa [mH,hb] using e1,fun j q e=>?_⟩;cases j with
   |zero =>
    cases e
    have:=(e2 0 (m,j0) rfl).1
    exact⟨by show κ<=k;lia,fun _=>by show κ<k;lia⟩
   |succ j =>
    rw[Ė]at e;exact⟨(e2 j q e).1,fun h=>(e2 j q e).2 oM⟩
  ·obtain⟨i,κ,e1,e2⟩:=nA r n k
   have b:mH n k ((m,j0)::r)=mH n k r:=by simp[mH,hb]
   have a:=(e2 0 (n,k) rfl).1;refine⟨if i=0 then 0 else i+1,κ,?_,fun j q e=>?_⟩
   ·rw[b]
    cases i with
    |zero=>simpa using e1
    |succ i=>simpa using e1
   ·cases j with
    |zero =>
     cases e;refine⟨a,fun h=>?_⟩;cases i with
     |zero=>simp at h
     |succ i=>exact(e2 0 (n,k) rfl).2 (E? i)
    |succ j =>
     rw[Ė]at e;cases j with
     |zero =>
      cases e;refine⟨by show κ<=j0;lia,fun h=>?_⟩;cases i with
      |zero=>simp at h
      |succ i =>
       have:=(e2 0 (n,k) rfl).2 (E? i)
       show κ<j0;have:κ<k:=this;lia
     |succ j =>
      rw[Ė]at e
      have:=e2 (j+1) q (by rw[Ė];exact e)
      refine⟨this.1,fun h=>this.2 ?_⟩;cases i with
      |zero=>simp at h
      |succ i=>simp at h;lia
theorem FK{ns ks:List Int}{i:Nat}{n:Int}(x:ns.length=ks.length)(f:ns[i]?=À n)(w:∀j,j<ns.length->ks.getD i 0<=ks.getD j 0/\(j<i->ks.getD i 0<ks.getD j 0)):qV (ns.zip ks)=.int n:=by
 have y:i<ns.length:=(zB.mp f).1;obtain⟨k,o⟩:∃k,ks[i]?=À k:=⟨_,zF oM⟩;have hz:(ns.zip ks)[i]?=À (n,k):=by rw[Ś];exact⟨f,o⟩
 have hd:ks.getD i 0=k:=by simp[o]
 cases e:ns.zip ks with
 |nil=>rw[e]at hz;simp at hz
 |cons q r =>
  obtain⟨t,v⟩:=q;obtain⟨a,c,s,p⟩:=nA r t v;rw[<- e]at s p;have b:=Ś.mp s;have g:a<ns.length:=(zB.mp b.1).1;have l:ks.getD a 0=c:=by simp[b.2]
  have m:=w a g;have m2:=p i (n,k) hz;rw[hd,l]at m;have u:c<=k:=m2.1;have d:i<a->c<k:=m2.2;have:i=a:=by
   rcases Nat.lt_trichotomy i a with h|h|h
   ·have:=d h;lia
   ·exact h
   ·have:=m.2 h;lia
  subst this;rw[f]at b
  have:=b.1
  simp only[qV];cases this;rfl
theorem tY{α a:Type}{f:α->Option a}:∀{l:List α}{r:List a},aP f l=À r->l.length=r.length/\∀(i:Nat) x,l[i]?=À x->∃y,r[i]?=À y/\f x=À y
 |[],r,h=>by cases h;exact⟨rfl,fun i x e=>by simp at e⟩
 |x::l,r,h=>by
  simp only[aP]at h;obtain⟨y,e1,e2⟩:=zA h;obtain⟨j,g,d⟩:=zE.mp e2;subst d;obtain⟨c,b⟩:=tY g;refine⟨by simp[c],fun i z e=>?_⟩;cases i with
  |zero=>cases e;exact⟨y,rfl,e1⟩
  |succ i=>exact b i z (by simpa using e)
section
variable{X:Cx}{a body:Ï}{f key:EF}{p pos kp lp kp2 pc:Ĝ}{j:Nat}{params:Ϧ}{scope:Ġ}{N':List Í}{x:Í}{c P:Ç}
theorem PM.snoc[Pz]{mg:Gm}{P:Pr}{H:Hp}{φ:List Ç}{sl:Sl}{σ:St}{v:AV}{w:V}(h:PM mg P H φ sl σ)(r:RA mg P H φ v w):PM mg P H φ (sl++[À v]) (σ++[À w]):=by
 refine⟨by rw[zV,zV,h.1];rfl,fun i u e=>?_⟩;rcases yT i sl.length with a|a
 ·rw[zN a]at e
  rw[zN (by rw[<- h.1];exact a)];exact h.2 i u e
 ·rw[z6 a]at e
  rw[z6 (by rw[<- h.1];exact a),<- h.1];cases b:i-sl.length with
  |zero=>rw[b]at e;cases e;exact⟨w,rfl,r⟩
  |succ m=>rw[b]at e;simp at e
theorem EE[Pz](hc:X.calm=Â)(hg:Gl X "min")(hm:X.mg "min"=Á)(ha:QE X a f)(hs:Ê [a] X.env=[(Ä,eval a X.env)])(hdef:W4 params X.env=([],[]))(hcode:X.env.code=.ref c)(C:X? X.base c P)(B:jU X.mg X.base)
  (ht:(P,lp,X.env.qual++"<lambda>")∈Pz.tb) (T:yd X N' scope x) (hp:plainA params=Â) (hps:params.args.map (·.arg)=[x]) (hd:X.A.in1.depth<Ϝ) (pu:DK key)
  (he:∀cl f c' s H,QE (uF X N' scope cl f (X.env.qual++"<lambda>") (.ref c') X.A.in1 s H) body key)
  (hdj:∀t∈Pz.tb,t.1=P->t=(P,lp,X.env.qual++"<lambda>")) :
  QE X (.Call (.Name "min" p) [a] [⟨À "key",.Lambda params body scope lp,kp⟩,⟨À "default",.Constant .none j pc,kp2⟩] pos) (sU f key):=by
 rintro Pw s σ H Q I ⟨Pr0,φ,sl,st,rs,sm,v,st',ev,k⟩;obtain⟨J,e1,e2⟩:=zA ev;obtain⟨ns,e3,e4⟩:=zA e2;obtain⟨ks,e5,e6⟩:=zE.mp e4;cases e6;have hra:rA X.gm (dX f eL) σ H (fun vs G=>∃A d w,vs=[w]/\Frm Pr0 φ H A d G/\Sim X.gm A d J.2 G/\RA X.gm A G d J.1 w) :=
  zh rs sm ⟨J.1,J.2,e1,fun A d G w f1 s1 r1=>⟨A,d,w,rfl,f1,s1,r1⟩⟩
 refine ý (dJ I hg hm u7 (callWith_kw (aB ((cM ha eU (by rw[hs];rfl)) pos Pw s σ H _ I hra) fun us s1 ⟨vs,G,I1,r1,A,d,w,ew,f1,m,V⟩=>?_) (by rw[hs];rfl) (by rw[hs];rfl) (by rfl) (by rfl)));subst ew;obtain⟨l,rfl,hl0⟩:=V.lsI m e3;obtain⟨u,rfl,ru⟩:=eM r1;cases ru;obtain⟨cl,hcl,hcl1,hcl2⟩:=k4 (scope:=scope) (env:=X.env) (fun y hy=>by
  rcases T.cy.free y hy with h|h
  ·exact I1.ok.has y (.inl h)
  ·exact I1.ok.has y (.inr h))
 refine kws_cons (Ch I1 hdef hcode C B hcl (m.tb _ ht).1 fun q c' ctv S s2 hH2 F9 hx2 I2=>kws_cons (Q! (kws_nil ?_)))
 have fs:Frm A d G A d S/\Sim X.gm A d J.2 S:=by
  rcases hH2 with rfl|⟨ps,K,hP,hn,hne,rfl⟩
  ·exact⟨Frm.refl,m⟩
  ·have nP:∀b,A b->b≠P:=fun b h e=>(m.tb _ ht).2 (by rw[<- e];exact h)
   have N:∀b,G b≠Á->b≠c':=fun b h e=>h (by rw[e];exact hn)
   have M:∀b∈d,b≠P:=fun b h e=>m.tnc ht (by rw[<- e];exact h)
   have R:∀b,b≠P->b≠c'->ag (ag G P (.tbl (ps++K))) c' (gG c' (X.env.qual++"<lambda>")) b=G b:=fun b h1 h2=>by rw[ad h2,ad h1]
   have ex:∀b,A b->A b/\ag (ag G P (.tbl (ps++K))) c' (gG c' (X.env.qual++"<lambda>")) b=G b:=fun b h=>⟨h,R b (nP b h) (N b (m.dom b h))⟩
   refine⟨⟨ex,⟨[],by simp,by simp⟩,fun b h _ z=>R b (fun e=>z ps (by rw[e];exact hP)) (N b h),fun b h=>.inl h,fun b h=>?_,fun b o u h=>?_⟩,m.stay ex (fun b h=>R b (M b h) (N b (m.cd b h))) (fun _ _ h=>h) (fun b h=>by rw[(ex b h).2];exact m.dom b h) fun t O=>⟨?_,(m.tb t O).2⟩⟩
   ·by_cases e:b=P
    ·subst e;rw[ad hne,ar];exact fun z=>nomatch z
    ·rw[R b e (N b h)];exact h
   ·rw[R b (fun e=>by rw[e,hP]at h;cases h) (N b (by rw[h];exact fun z=>nomatch z))];exact h
   ·by_cases e:t.1=P
    ·rw[hdj t O e];exact F9
    ·obtain⟨qs,g1,g2,g3⟩:=(m.tb t O).1
     refine⟨qs,by rw[R t.1 e (N _ (by rw[g1];exact fun z=>nomatch z))];exact g1,g2,?_⟩;rcases g3 with g3|⟨c2,g4,g5⟩
     ·exact .inl g3
     ·exact .inr ⟨c2,g4,by rw[R c2 (fun z=>by rw[z,hP]at g5;cases g5) (N _ (by rw[g5];exact fun z=>nomatch z))];exact g5⟩
 obtain⟨Z,hget⟩:=tY e5;have au:∀F,(∃D g,Frm A d S D g F/\Sim X.gm D g J.2 F)->∀z,qV (ns.zip ks)=z->∀w,(∀D g,RA X.gm D F g z w)->Q w F:=fun F hq0 z hz w r=>by
  obtain⟨D,g,f',s'⟩:=hq0;rw[hz]at k;exact k D g F w ((f1.trans fs.1).trans f') s' (r D g)
 have hmc:=tW (X:=X) (Pw:=Pw++[(q,xG X.mg (X.env.qual++"<lambda>") params body scope cl (.ref c') ctv)]) (σ:=σ) (ko:=À (.ref q)) (kws:=[(û "key",.ref q),(û "default",.none)]) (l:=l) (ns:=ns) (H:=S) (s:=s2) (Q:=Q) (E:=X.xe)
  (I.ok.hd hc) (fun i=>ks.getD i 0) (fun _ F=>∃D g,Frm A d S D g F/\Sim X.gm D g J.2 F) (fun i F ⟨D,g,f',s'⟩=>?_) rfl (HW _ _) (fun i n u pl s3 H3 en ru ⟨P3,U,f3,s3'⟩ I3=>.inr ⟨q,rfl,?_⟩) (fun i n F en Y hJ=>?_) (fun en=>?_) I2 ⟨A,d,Frm.refl,fs.2⟩
 ·exact aB hmc fun u s9 ⟨v9,H9,I9,r9,q9⟩=>⟨v9,H9,I9.pins_of fun p hp=>I9.pin p (zK _ (zL _ hp)),r9,q9⟩
 ·obtain⟨b,eb,hb⟩:=(V.frm (fs.1.trans f')).lsI s' e3
  cases eb;exact hb
 ·obtain⟨kv,ek,hk⟩:=hget i n en
  unfold Aq at hk;split at hk
  ·rename_i k0 st0 L
   cases hk
   have:=pu _ _ _ _ L
   subst this;have W:=I3.pin (q,xG X.mg (X.env.qual++"<lambda>") params body scope cl (.ref c') ctv) (zK _ (zL _ (zK _ (zM.mpr rfl))));have hcx:H3 c'=À (gG c' (X.env.qual++"<lambda>")):=fs.2.okeep f3 hx2;have hcr:s3.heap.CodeRec (.ref c') (X.env.qual++"<lambda>"):=(I3.PJ c' _ hcx).1;refine Ci (te:=rE X.gm key) T I3 I.ok.frames (I.ok.hd hc) hd hcl1 hcl2 hp hps W.1 hcr (fun s H=>he cl q c' s H) ru ?_;have ksl:PM X.gm P3 H3 U (sl++[À (.int n)]) (σ++[À (.int n)]):=PM.snoc (((rs.frm f1).frm fs.1).frm f3) (by simp only[RA]);refine⟨P3,U,sl++[À (.int n)],J.2,ksl,s3',.int kv,J.2,L,fun P4 φ4 H4 b f4 s4 r4=>?_⟩;simp only[RA]at r4;exact⟨by rw[r4];simp[ek],P4,φ4,f3.trans f4,s4⟩
  ·cases hk
 ·exact au F hJ _ (FK Z en Y) _ fun D g=>by simp only[RA]
 ·subst en
  exact au S ⟨A,d,Frm.refl,fs.2⟩ _ rfl _ fun D g=>by simp only[List.zip_nil_left,qV,RA]
end
def CJ(f:EF)(l h:OF):EF:=fun a b=>(f a b).bind fun p=>(l a p.2).bind fun q=>(h a q.2).bind fun r=>match p.1 with
 |.tup xs=>if(HT.PL xs.length 0 q.1==0&&HT.PL xs.length xs.length r.1==xs.length)=Â then Á else À (.tup (cut xs q.1 r.1),r.2)
 |_=>Á
section
variable{X:Cx}{a b:Ï}{f g:EF}{pos p1 p2 pos2:Ĝ}
theorem G4[Pz]{l h:OF}{i j:Option Ï}{A:Ĝ}(E:QE X a f)(C:QO X i l)(D:QO X j h):QE X (.Subscript a (.Slice i j Á A) pos) (CJ f l h) :=
 PE_imp (tM Gr E C D) fun S H Q d=>by
  refine e7 d fun P R W V x s y=>?_
  obtain⟨U,n,J,k⟩:=y;obtain⟨q,O,N⟩:=zA J;obtain⟨r,M,L⟩:=zA N;obtain⟨t,K,b⟩:=zA L;refine Gs x s ⟨q.1,q.2,r.1,r.2,t.1,t.2,O,M,K,fun Z c H1 w G v r1=>?_⟩;split at b
  ·rename_i T I
   split at b
   ·cases b
   ·rename_i hz
    cases b;rw[I]at r1;simp only[RA]at r1;obtain⟨a,e,rfl,Y,F,g⟩:=r1;refine⟨a,e,rfl,.inl (.inl F),fun z=>hz (by rw[g.length,zC,beq_iff_eq,beq_iff_eq];exact z),fun p B=>?_⟩;obtain⟨m,u⟩:=lS (o:=.tup (kZ e r.1 t.1)) v B;refine k _ c _ _ (G.trans m) u ?_;simp only[RA];exact⟨p,_,rfl,.inr rfl,ar,(g.cut _ _).frm m⟩
  ·cases b
noncomputable def rh(i:Int):Bool:=decide (0<=i)&&decide (i<=1000)
def xx(f:EF):NF:=fun b a=>(f b a).bind fun p=>match p.1 with
 |.int j=>if rh j=Â then À (dP 0 j.toNat,p.2) else Á
 |_=>Á
def xw(f g:EF):NF:=fun a b=>(f a b).bind fun p=>(g a p.2).bind fun q=>match p.1,q.1 with
 |.int i,.int j=>if(rh i&&rh j&&decide (i<=j))=Â then À (dP i (j-i).toNat,q.2) else Á
 |_,_=>Á
theorem PF.rng(i:Nat):∀n:Nat,PF mg P H φ (dP (i:Int) n) ((ĭ i n).map fun(q:Nat)=>V.int (q:Int)):=by
 have a:∀(l:List Nat),PF mg P H φ (l.map fun(k:Nat)=>AV.int ((i:Int)+(k:Int))) (l.map fun(k:Nat)=>V.int ((i:Int)+(k:Int))):=by
  intro l
  induction l with
  |nil=>exact aZ
  |cons x l b=>exact aR (by simp only[RA]) b
 intro n;have:((ĭ i n).map fun(q:Nat)=>V.int (q:Int))=(É n).map fun(k:Nat)=>V.int ((i:Int)+(k:Int)):=by
  rw[List.range'_eq_map_range,ß];refine ķ fun k _=>?_
  simp
 rw[this];exact a _
theorem GU[Pz](y:X.calm=Â)(i:Gl X "list")(g:X.mg "list"=Á)(h:Gl X "range")(e:X.mg "range"=Á)(A:QE X a f)
  (v:Ê [a] X.env=[(Ä,eval a X.env)]):QN X (.Call (.Name "list" p1) [.Call (.Name "range" p2) [a] [] pos2] [] pos) (xx f) :=
 PE_imp (BT y i g h e A v) fun I H Q d=>by
  refine e7 d fun P G L K t s u=>?_
  obtain⟨J,o,D,k⟩:=u;obtain⟨q,E,b⟩:=zA D;refine i7 t s ⟨q.1,q.2,E,fun F c m w B r r1=>?_⟩;show ∃j:Nat,[w]=[.int (j:Int)]/\j<=1000/\∀p,m p=Á->Q (.ref p) (ag m p (.lst ((ĭ 0 j).map fun(q:Nat)=>V.int (q:Int))));split at b
  ·rename_i j C
   split at b
   ·rename_i z
    cases b;rw[C]at r1;simp only[RA]at r1;subst r1;obtain⟨l,n⟩:=Ĉ.mp z;have l:=of_decide_eq_true l;have n:=of_decide_eq_true n;refine⟨j.toNat,by rw[ò l],by lia,fun p x=>?_⟩;exact k F c m p _ B r x (PF.rng 0 j.toNat)
   ·cases b
  ·cases b
theorem GT[Pz](F:X.calm=Â)(u:Gl X "list")(o:X.mg "list"=Á)(t:Gl X "range")(n:X.mg "range"=Á)(G:QE X a f)(h:QE X b g)
  (x:Ê [a,b] X.env=[(Ä,eval a X.env),(Ä,eval b X.env)]) (c:Ê [b] X.env=[(Ä,eval b X.env)]):QN X (.Call (.Name "list" p1) [.Call (.Name "range" p2) [a,b] [] pos2] [] pos) (xw f g) :=
 PE_imp (zz F u o t n (cM G (cM h eU (by rw[c];rfl)) (by rw[x,c])) x c) fun R H Q m=>by
  refine e7 m fun P φ V U C s D=>?_
  obtain⟨S,A,N,k⟩:=D;obtain⟨q,l,v⟩:=zA N;obtain⟨r,O,e⟩:=zA v;refine GJ C s ⟨q.1,q.2,r.1,r.2,l,O,fun y d z w T K B r1 r2=>?_⟩;split at e
  ·rename_i i j M L
   split at e
   ·rename_i h
    cases e;rw[M]at r1;rw[L]at r2;simp only[RA]at r1 r2;subst r1;subst r2;simp only[rh,zC,yB]at h;obtain⟨⟨⟨J,Z⟩,I,Y⟩,W⟩:=h;refine⟨i.toNat,j.toNat,by rw[ò J,ò I],by lia,by lia,fun p E=>?_⟩;refine k y d z p _ K B E ?_;have l:(j-i).toNat=j.toNat-i.toNat:=by lia
    have v:i=((i.toNat:Nat):Int):=by lia
    have:=PF.rng (mg:=X.gm) (P:=y) (H:=z) (φ:=d) i.toNat (j.toNat-i.toNat)
    rw[<- v,<- l]at this;rw[<- l];exact this
   ·cases e
  ·cases e
end
noncomputable def pB:aU->AV
 |.inl i=>.int i
 |.inr x=>.str x
noncomputable def C1(k:Nat):Out->Option Out
 |.nx sl st=>match st[k]? with
  |some (.wk Px)=>À (.nx sl (st.set k (.dK Px)))
  |_=>Á
 |.rt v st=>match st[k]? with
  |some (.wk Px)=>À (.rt v (st.set k (.dK Px)))
  |_=>Á
 |_=>Á
def xb(f:EF)(g:GF)(s:SF):SF:=fun a c=>(f a c).bind fun p=>match p.1 with
 |.ref k=>match p.2[k]? with
  |some (.dK b)=>(dR [] g s (b.map fun q=>pB q.1) a (p.2.set k (.wk b))).bind (C1 k)
  |_=>Á
 |_=>Á
section
variable{X:Cx}{tg iter:Ï}{body:List ľ}{pos:Ĝ}{f:EF}{g:GF}{s:SF}
theorem Er[Pz](hp:ϣ (model X.prog X.w) X.A X.env X.xe)(hc:X.calm=Â)(hi:QE X iter f)(hg:QG X tg g)(hb:oj X body s)(hs:∀x,õ iter X.env x=pure x):QS X (.For tg iter body [] pos) (xb f g s) :=
 PS_imp (EN (zp hp hc (EW hi) hg hb hs)) fun D σ H hq0=>by
  refine e7 hq0 fun P φ sl st rs sm q0=>?_
  obtain⟨o,e,q⟩:=q0;obtain⟨p,e1,e2⟩:=zA e;refine i7 rs sm ⟨p.1,p.2,e1,fun P1 N H1 w f1 s1 r1=>g_ fun G bk=>?_⟩;split at e2
  ·rename_i k ek
   rw[ek]at r1;simp only[RA]at r1;obtain⟨a,ea,ew⟩:=r1;split at e2
   ·rename_i Px hk
    obtain⟨o1,e3,W⟩:=zA e2;obtain⟨na,K,h1,h2⟩:=s1.cell k _ a hk ea;refine bk ⟨a,K,ew,h1,fun U hn=>?_⟩;have J:(Px.map fun q=>pB q.1).length=K.length:=by
     have:=congrArg ŏ h2.1
     rw[zH,zH]at this;rw[zH];exact this
    obtain⟨fw,sw⟩:=iU (c:=.wk Px) (o:=.frz U (.dK K)) s1 ea na ⟨na,U,K,ar,h2.mono (fun b h=>⟨h,ad fun e=>na (e▸h)⟩) fun _ _ z=>z⟩ (fun _ _ z=>by rw[h1]at z;cases z);have rsw:PM X.gm P1 (ag H1 a (.frz U (.dK K))) N sl σ:=(rs.frm f1).frm fw
    have back:∀{A d C l},Frm P1 N (ag H1 a (.frz U (.dK K))) A d C->Sim X.gm A d l C->∀{I},l[k]?=À (.wk I)->∃Z E,C a=À (.frz Z (.dK E)) /\
      Frm P φ H A d (ag C a (.dK E))/\Sim X.gm A d (l.set k (.dK I)) (ag C a (.dK E))/\∀b,A b->A b/\ag C a (.dK E) b=C b:=by
     intro A d C l Q F I hw;have T:d[k]?=À a:=Q.ix k a ea;obtain⟨na5,Z,E,g1,g2⟩:=F.cell k _ a hw T;have S:∀b,A b->A b/\ag C a (.dK E) b=C b:=fun b h=>⟨h,ad fun e=>na5 (e▸h)⟩
     refine⟨Z,E,g1,?_,?_,S⟩
     ·have B:=(f1.trans fw).trans Q
      obtain⟨m,em,nm⟩:=B.new;have hna:H a=Á\/a∈φ:=by
       rcases zZ.mp (show a ∈ φ++f1.new.choose by rw [<- f1.new.choose_spec.1];exact zW ea) with z | z
       ·exact .inr z
       ·exact .inl (f1.new.choose_spec.2 a z)
      refine⟨fun b h=>⟨(B.ext b h).1,?_⟩,⟨m,em,nm⟩,fun b h n z=>?_,B.pn,fun b h=>?_,fun b o u h=>?_⟩
      ·rw[(S b (B.ext b h).1).2];exact(B.ext b h).2
      ·have nb:b≠a:=fun e=>by
        rcases hna with y|y
        ·exact h (by rw[e];exact y)
        ·exact n (by rw[e];exact y)
       rw[ad nb];exact B.keep b h n z
      ·by_cases e:b=a
       ·rw[e,ar];exact fun z=>nomatch z
       ·rw[ad e];exact B.sm b h
      ·have nb:b≠a:=fun e=>by
        have:=f1.fz b o u h
        rw[e,h1]at this;cases this
       rw[ad nb];exact B.fz b o u h
     ·have hs5:l[k]?=À (.wk I):=hw
      refine⟨by rw[à];exact F.len,F.nd,fun b h=>by rw[(S b h).2];exact F.dom b h,fun b h=>?_,fun j c b e5 e6=>?_,fun t ht=>⟨(F.tb t ht).1.wr (F.notb T na5),(F.tb t ht).2⟩⟩
      ·by_cases e:b=a
       ·rw[e,ar];exact fun z=>nomatch z
       ·rw[ad e];exact F.cd b h
      ·by_cases hj:j=k
       ·subst hj
        rw[T]at e6;cases e6;rw[ð (by rw[<- F.len];exact(zB.mp T).1)]at e5;cases e5;exact⟨na5,E,ar,g2.mono S fun _ _ z=>z⟩
       ·rw[î (ä hj)]at e5
        have hb:b≠a:=fun e=>hj (by
         subst e;obtain⟨l1,q1⟩:=zB.mp e6;obtain⟨l2,q2⟩:=zB.mp T;exact(Ū F.nd).mp (q1.trans q2.symm))
        exact(F.cell j c b e5 e6).mono S (fun _ _ z=>z) (ad hb) fun z=>z
    have V:∀{A d C O L l},o1=.nx L l->Frm P1 N (ag H1 a (.frz U (.dK K))) A d C->Sim X.gm A d l C->PM X.gm A C d L O->(sG X.H₀ D).nx O C:=by
     intro A d C O L l eo Q F M;subst eo;simp only[C1]at W;split at W
     ·rename_i I hw
      cases W;obtain⟨Z,E,g1,g2,g3,g4⟩:=back Q F hw;exact⟨a,Z,E,g1,hn,q A d _ O g2 g3 ⟨M.1,fun i v e=>let⟨w,e',r⟩:=M.2 i v e;⟨w,e',r.mono g4 fun _ _ z=>z⟩⟩⟩
     ·cases W
    have endR:∀{A d C v5 l w5},o1=.rt v5 l->Frm P1 N (ag H1 a (.frz U (.dK K))) A d C->Sim X.gm A d l C->RA X.gm A C d v5 w5->(sG X.H₀ D).rt w5 C:=by
     intro A d C v5 l w5 eo Q F r5;subst eo;simp only[C1]at W;split at W
     ·rename_i I hw
      cases W;obtain⟨Z,E,g1,g2,g3,g4⟩:=back Q F hw;exact⟨a,Z,E,g1,hn,q A d _ w5 g2 g3 (r5.mono g4 fun _ _ z=>z)⟩
     ·cases W
    refine⟨fun i m Y H'=>m=K.length-i/\i<=K.length/\Iw X.gm P1 N (ag H1 a (.frz U (.dK K))) (fun sl st=>dR [] g s ((Px.map fun q=>pB q.1).drop i) sl st=À o1) Y H',
     ⟨_,rfl,ł _,P1,N,sl,_,Frm.refl,sw,rsw,by simpa using e3⟩,?_⟩
    intro i m Y H' hh;refine g_ fun G bk=>?_
    obtain⟨em,hle,P2,φ2,sl2,st2,f2,s2,rs2,eg⟩:=hh;have hfz:H' a=À (.frz U (.dK K)):=f2.fz a _ _ ar;rcases yT i K.length with R|hge
    ·rw[è (by rw[J];exact R)]at eg
     simp only[dR,cx,if_true]at eg;obtain⟨q4,e5,e6⟩:=zA eg;obtain⟨o2,e7,e8⟩:=zA e6;refine bk (.inr ⟨⟨hfz,R⟩,Iw X.gm P1 N (ag H1 a (.frz U (.dK K))) fun sl st=>dR [] g s ((Px.map fun q=>pB q.1).drop (i+1)) sl st=À o1,fun Y H' z=>⟨_,by lia,rfl,R,z⟩,fun x H3 hy=>g_ fun G bj=>?_⟩);obtain⟨rfl,hx⟩:=hy;have rx:RA X.gm P2 H3 φ2 ((Px.map fun q=>pB q.1)[i]'(by rw[J];exact R)) x:=by
      have hkw:Px[i]?.map (·.1)=K[i]?.map (·.1):=by rw[<- zR,<- zR,h2.1]
      have hlt':i<Px.length:=by rw[zH]at J;lia
      rw[zR,zF R]at hx;rw[zF hlt',zF R]at hkw;simp only[Ì,Option.some.injEq]at hx hkw;rw[List.getElem_map,hkw,<- hx];cases K[i].1 with
      |inl n=>simp only[pB,RA,kV]
      |inr z=>simp only[pB,RA,kV]
     refine bj ⟨P2,φ2,sl2,st2,_,rs2,s2,rx,q4.1,q4.2,e5,fun P4 φ4 H4 σ4 f4 s4 rs4=>⟨P4,φ4,q4.1,q4.2,rs4,s4,o2,e7,?_⟩⟩;have fa:=f2.trans f4;cases o2 with
     |nx L l=>exact fun A d C O Q F M=>⟨A,d,L,l,fa.trans Q,F,M,e8⟩
     |ct L l=>exact fun A d C O Q F M=>⟨A,d,L,l,fa.trans Q,F,M,e8⟩
     |bk L l=>exact fun A d C O Q F M=>V (yD e8).symm (fa.trans Q) F M
     |rt v l=>exact fun A d C w Q F r5=>endR (yD e8).symm (fa.trans Q) F r5
    ·have ei:i=K.length:=g? hle hge
     subst ei;rw[<- J,ϲ]at eg;simp only[dR,cx,if_true]at eg;exact bk (.inl ⟨⟨hfz,zP _⟩,V (yD eg).symm f2 s2 rs2⟩)
   ·cases e2
  ·cases e2
end
noncomputable def cD:Ï->Bool
 |.Starred _ _=>Ä
 |_=>Â
noncomputable def kb:Ï->Bool
 |.Slice _ _ _ _=>Ä
 |_=>Â
noncomputable def B5:Ï->Bool
 |.Set _ _ _=>Ä
 |_=>Â
noncomputable def qG:Ï->Bool
 |.Call (.Name _ _) [] [] _=>Ä
 |_=>Â
noncomputable def pq:Ï->Bool
 |.ListComp _ _ _ _=>Ä
 |.SetComp _ _ _ _=>Ä
 |.DictComp _ _ _ _ _=>Ä
 |_=>Â
noncomputable def tR:Ï->Bool
 |.Tuple _ _ _=>Ä
 |_=>Â
noncomputable def zt:Ï->Bool
 |.UnaryOp .Not _ _=>Ä
 |.BoolOp _ _ _=>Ä
 |.IfExp _ _ _ _=>Ä
 |.Compare _ _ _ _=>Ä
 |_=>Â
section
variable{env:U3}{e o i a b:Ï}{es:List Ï}{pos cpos apos:Ĝ}{f:Í}
theorem ay(h:cD e=Â):Ê (e::es) env=(Ä,eval e env)::Ê es env:=by
 cases e<;>first|rfl|cases h
theorem i9(h:es.all cD=Â):(ù pos (Ê es env)).any (·.1)=Ä:=by
 induction es with
 |nil=>rfl
 |cons e es a =>
  rw[ĩ,zC]at h;rw[ay h.1];show(Ä||(ù pos (Ê es env)).any (·.1))=Ä;rw[a h.2];rfl
theorem Bu(h:es.all cD=Â):(ù pos (Ê es env)).all (fun x=>!x.1)=Â:=by
 induction es with
 |nil=>rfl
 |cons e es a =>
  rw[ĩ,zC]at h;rw[ay h.1];show(Â&&(ù pos (Ê es env)).all (fun x=>!x.1))=Â;rw[a h.2];rfl
theorem Md(h:es.all cD=Â)(a:es.length<30):((ù cpos (Ê es env)).all (fun x=>!x.1)&&(ŉ cpos (đ [] env)).all (fun x=>x.1.isSome)&&decide (es.length+([]:List ŋ).length+(if([]:List ŋ).isEmpty then 0 else 1)<30))=Â:=by
 rw[Bu h];have:decide (es.length+([]:List ŋ).length+(if([]:List ŋ).isEmpty then 0 else 1)<30)=Â:=yV (by simpa using a);rw[this];rfl
theorem gx(w:Y3 Å)(h:qG o=Â):ę o f env w=w:=by
 unfold ę;split
 ·simp[qG]at h
 ·rfl
theorem vW(g:qG o=Â)(d:es.all cD=Â)(e:es.length<30)(a:(apos.endLine==pos.line)=Â):eval (.Call (.Attribute o f apos) es [] pos) env=(do
   let ov <- eval o env
   Ŕ apos.atName
   let(f,first) <- holding [ov] (š ov f (do return (<- importBound o env).getD Â))
   ŧ pos f first (ù pos (Ê es env)) (ŉ pos (đ [] env))):=by
 rw[arm_eval_Call,gx _ g];have b:methodCallForm (es.length+([]:List ŋ).length) (ù pos (Ê es env)) (ŉ pos (đ [] env))=Â:=Md d e;have c:methodCallPos Â o env apos pos=pure pos:=by unfold methodCallPos;simp[a]
 unfold methodCall;rw[b,c];rfl
theorem tD(h:B5 e=Â)(x:Å):õ e env x=pure x:=by
 cases e<;>first|rfl|cases h
theorem KI(h:kb i=Â):qW i:=fun _ _=>by
 cases i<;>first|rfl|cases h
theorem Gp(h:kb i=Â)(v:Å):assign (.Subscript o i pos) env v=(do
   let ov <- holding [v] (eval o env)
   let iv <- holding [v,ov] (eval i env)
   Ŕ pos
   holding [v,ov,iv] (ϡ ov iv v)
   release [v,ov,iv] []):=by
 cases i<;>first|rfl|cases h
theorem Jp(h:kb i=Â)(a b new:Å):augStore i a b new=(do holding [new,a,b] (ϡ a b new);release [new,a,b] [];pure .next):=by
 cases i<;>first|rfl|cases h
theorem vG{l:Nat}(h:pq e=Â):Ľ e t l env=pure Ä:=by
 cases e<;>first|rfl|cases h
theorem Bp{l:Nat}:Ľ e (À (.Attribute o f p)) l env=pure Ä:=by
 cases e<;>rfl
noncomputable def LN(nm:List (Í×NameKind))(t:Í)(b:Nat)(sc:Ġ)(a:Nat):Bool:=decide (nm.lookup t=À .local)&&(b==a)&&!(sc.names.any fun(n,k)=>n==t&&(k==.local||k==.cell))
theorem Gk{l:Nat}(a:env.scope.kind=.function) :
  Ľ (.ListComp elt gens sc pos) (À (.Name t p)) l env=pure (LN env.scope.names t p.line sc pos.line):=by
 have b:env.blockKind=.function:=by unfold Env.blockKind;rw[a];rfl
 show(pure (env.blockKind==.function&&env.kindOf t==À .local&&p.line==pos.line&&!(sc.names.any fun(n,k)=>n==t&&(k==.local||k==.cell))):Y3 Bool)=_;rw[b];have:(env.kindOf t==À NameKind.local)=decide (env.scope.names.lookup t=À .local):=by
  show(env.scope.names.lookup t==À NameKind.local)=_;cases h:env.scope.names.lookup t with
  |none=>rfl
  |some k=>cases k<;>rfl
 rw[this];rfl
theorem Bt:ϭ [.Subscript a b p] e env=pure Á:=by cases e<;>rfl
theorem Bs{k:Nat}(h:tR e=Â):ϭ [.Tuple ts k p] e env=pure Á:=by cases e<;>first|rfl|cases h
theorem wy(h:cD e=Â):(Þ [e] env).map (·.2)=[assign e env]:=by
 cases e<;>first|rfl|cases h
theorem Ct(h:cD e=Â):(Þ (e::es) env).map (·.2)=assign e env::(Þ es env).map (·.2):=by
 cases e<;>first|rfl|cases h
theorem Cu:(Þ es env).length=es.length:=by
 induction es with
 |nil=>rfl
 | cons e es ih=>cases e <;> (show (Þ es env).length + 1=es.length + 1;rw [ih])
theorem Cv(h:es.all cD=Â):(Þ es env).findIdx? (·.1)=Á:=by
 have:∀p∈Þ es env,p.1=Ä:=by
  induction es with
  |nil=>intro p a;cases a
  |cons e es b =>
   rw[ĩ,zC]at h;have c:Þ (e::es) env=(Ä,assign e env)::Þ es env:=by
    cases e<;>first|rfl|cases h.1
   rw[c];intro p a;rcases zT.mp a with rfl|a
   ·rfl
   ·exact b h.2 p a
 rw[List.findIdx?_eq_none_iff];intro p a;rw[this p a]
theorem vC(h:zt e=Â)(a:Y3 Å):B? e env a=(do let v <- a;Ŕ e.pos;holding [v] (truthy v)):=by
 cases e with
 |UnaryOp op x p=>cases op<;>first|rfl|cases h
 |BoolOp=>cases h
 |IfExp=>cases h
 |Compare=>cases h
 |_=>rfl
end
noncomputable def JB(a c:Int)(n:Nat):It:=⟨fun i _=>i<n,fun i H x b=>b=H/\x=.int (a+(i:Int)*c),fun i _=>n<=i⟩
theorem FW{P:Ò}{w:Ù}{K:Ü}{J:Ï}(it:Ç)(a c:Int)(n:Nat):j2 P w K J (JB a c n) [it] it (fun i h=>p! h it (a+(i:Nat)*c) ((n:Int)-(i:Nat)) c) where
 mem:=by simp
 obj:=fun i h d b f=>by
  obtain rfl:b=it:=by simpa using f
  exact ⟨_,d,fun v z=>nomatch (show Data.fields _=Data.cell v from z)⟩
 keep:=fun i h l d k=>k it (by simp) _ d
 item:=by
  intro X r m u q i G s D H E I j d p;subst r m u;obtain⟨C,B,N,A,y,x⟩:=j it (by simp);refine(Walks.range (prog:=X.prog) (w:=X.w) (I.ok.hd q) it a c n).item i s _ _ p d fun v l F M g L=>?_
  obtain⟨t,rfl⟩:=M;have Q:Inv X G D H { s with heap:=l,toks:=F }:=I.turned (fun b o f e=>L b o (by simpa using f) e) C B A y x;exact⟨_,rfl,mY (s:={ s with heap:=l,toks:=F }) (n:="range_iterator") g rfl rfl dC ⟨.int (a+(i:Int)*c),H,Q,⟨t,rfl⟩,⟨rfl,rfl⟩,g,fun b f=>(j b f).1⟩⟩
 done:=by
  intro X r m u q i G s D H E I j d p;subst r m u;obtain⟨C,B,N,A,y,x⟩:=j it (by simp);exact S4 (I.ok.hd q) d (by have:n<=i:=p;lia) fun l O=>⟨rfl,I.turned (t':=s.toks) (fun b o f e=>O b o f e) C B A y x⟩
 self:=fun _ _ _ _ _ d h=>S6 d h
noncomputable def o9(a b c:Int):Bool:=(decide (¬c=0)&&decide (0<=į a b c))&&Û c.natAbs 1000000&&Z2 a b c
noncomputable def ia(a b c:Int):Nat:=(į a b c).toNat
def oB(a b c:Int):List AV:=(É (ia a b c)).map fun(i:Nat)=>.int (a+(i:Int)*c)
section
variable{X:Cx}{tg:Ï}{mg:Gm}{P:Pr}{φ:List Ç}{H:Hp}{a b c:Ï}{f g h:EF}{p pos:Ĝ}
def Oc(c:TA):TI:=fun a H R=>c a H fun b d=>∃i j k:Int,b=[.int i,.int j,.int k]/\o9 i j k=Â/\R (JB i k (ia i j k)) d
theorem M7{E:TA}(Q:Gl X "range")(P:X.mg "range"=Á)(S:PA X [a,b,c] E)(O:Ê [a,b,c] X.env=[(Ä,eval a X.env),(Ä,eval b X.env),(Ä,eval c X.env)])
  (l:Ê [b,c] X.env=[(Ä,eval b X.env),(Ä,eval c X.env)]):PI X tg (.Call (.Name "range" p) [a,b,c] [] pos) (Oc E):=by
 intro G s D H R I h;refine I! (dJ I Q P ϵ (Ó (aB (S pos G s D H _ I h) fun L f B=>?_) (by rw[O,l]) (by rw[l];rfl)));obtain⟨Y,J,W,r1,i,j,k,e,m,q⟩:=B;subst e;unfold o9 at m;simp only[zC,yB]at m;obtain⟨⟨⟨h1,h0⟩,F⟩,T⟩:=m;have F:=zS F;obtain⟨u1,x,rfl,A,r2⟩:∃u d,L=u::d/\RelV (.int i) u/\Vals [.int j,.int k] d:=by cases r1 with|cons r g=>exact⟨_,_,rfl,r,g⟩
 obtain⟨u2,w,rfl,z,N⟩:∃u d,x=u::d/\RelV (.int j) u/\Vals [.int k] d:=by cases r2 with|cons r g=>exact⟨_,_,rfl,r,g⟩
 obtain⟨Z,K,rfl,y,M⟩:∃u d,w=u::d/\RelV (.int k) u/\Vals [] d:=by cases N with|cons r g=>exact⟨_,_,rfl,r,g⟩
 cases M;obtain⟨v,rfl⟩:=A;obtain⟨t,rfl⟩:=z;obtain⟨n,rfl⟩:=y;refine call_range_3 oM ?_ (Or.inl (PyProof.noPylong_small oM));refine W0 (IsRange.new ..) T ?_;have C:Inv X G D J { f with heap:=f.heap.push { cls:=.type "range",data:=.fields #[.int i v,.int j t,.int k n] },toks:=f.toks }:=W.kept fun b o e=>zG _ e
 refine⟨(f.heap.push { cls:=.type "range",data:=.fields #[.int i v,.int j t,.int k n] }).objs.size,[(f.heap.push { cls:=.type "range",data:=.fields #[.int i v,.int j t,.int k n] }).objs.size],_,_,J,rfl,C.kept (t':=f.toks) fun b o e=>zG _ e,FW _ i k (ia i j k),?_,fun b m=>?_,q⟩
 ·have V:i+((0:Nat):Int)*k=i:=by simp
  have U:((ia i j k:Nat):Int)-((0:Nat):Int)=į i j k:=by unfold ia;lia
  show p! _ _ (i+((0:Nat):Int)*k) (((ia i j k:Nat):Int)-((0:Nat):Int)) k;rw[V,U];exact zY _ rfl
 ·obtain rfl:b=(f.heap.push { cls:=.type "range",data:=.fields #[.int i v,.int j t,.int k n] }).objs.size:=by simpa using m
  exact C.fpOk (zP _) (C.PJ.fresh (zP _))
theorem KJ[Pz]{i k:Int}{j:Int}:vj mg (JB i k (ia i j k)) ⟨oB i j k,[]⟩ P φ H where
 go:=fun l a t b m y f s g e=>by
  unfold oB at e;rw[zR]at e;obtain⟨c,r,q⟩:=zE.mp e;obtain⟨h,d⟩:=zB.mp r;rw[R9]at d;subst d q;rw[Ń]at h;refine⟨h,fun w u o=>?_⟩;obtain⟨p,n⟩:=o;subst p;exact⟨l,Frm.refl,s,by simp only[RA];exact n⟩
 stop:=fun l a t b f s g=>by
  show ia i j k<=(oB i j k).length;simp[oB]
theorem N4[Pz]{σ:St}{Q:List V->Hp->Prop}{sl:Sl}{st:aa}(j:PM mg P H φ sl σ)(s:Sim mg P φ st H)
  (m:∃v st1 u st2 x st3,f sl st=À (v,st1)/\g sl st1=À (u,st2)/\h sl st2=À (x,st3)/\∀P1 φ1 H1 w w' w'',Frm P φ H P1 φ1 H1->Sim mg P1 φ1 st3 H1->RA mg P1 H1 φ1 v w->RA mg P1 H1 φ1 u w'->RA mg P1 H1 φ1 x w''->Q [w,w',w''] H1):rA mg (dX f (dX g (dX h eL))) σ H Q:=by
 obtain⟨v,st1,u,st2,x,st3,e,o,b,k⟩:=m;refine i7 j s ⟨[v,u,x],st3,by simp only[dX,eL,e,o,b,Ã],fun P1 φ1 H1 p n i r1=>?_⟩;simp only[PF]at r1;obtain⟨w,q,rfl,r,w',d,rfl,l,w'',c,rfl,a,rfl⟩:=r1;exact k P1 φ1 H1 w w' w'' n i r l a
def Dl(f g h:EF):IF:=fun a b=>(f a b).bind fun p=>(g a p.2).bind fun q=>(h a q.2).bind fun r=>match p.1,q.1,r.1 with
 |.int i,.int j,.int k=>if o9 i j k=Â then À (⟨oB i j k,[]⟩,r.2) else Á
 |_,_,_=>Á
theorem J4[Pz](E:Gl X "range")(D:X.mg "range"=Á)(G:QE X a f)(u:QE X b g)(F:QE X c h)(v:Ê [a,b,c] X.env=[(Ä,eval a X.env),(Ä,eval b X.env),(Ä,eval c X.env)])(d:Ê [b,c] X.env=[(Ä,eval b X.env),(Ä,eval c X.env)])(e:Ê [c] X.env=[(Ä,eval c X.env)]) :
  QI X tg (.Call (.Name "range" p) [a,b,c] [] pos) (Dl f g h) :=
 g8 (M7 E D (cM G (cM u (cM F eU (by rw[e];rfl)) (by rw[d,e])) (by rw[v,d])) v d) fun W H R C=>by
  refine e7 C fun P V sl Z A s B=>?_
  obtain⟨iv,y,L,k⟩:=B;obtain⟨q,S,Q⟩:=zA L;obtain⟨r,O,N⟩:=zA Q;obtain⟨t,M,l⟩:=zA N;refine N4 A s ⟨q.1,q.2,r.1,r.2,t.1,t.2,S,O,M,fun T n U w Y x I z r1 r2 o=>?_⟩;split at l
  ·rename_i i j m K J em
   rw[K]at r1;rw[J]at r2;rw[em]at o;split at l
   ·rename_i u
    cases l;simp only[RA]at r1 r2 o;subst r1;subst r2;subst o;exact⟨i,j,m,rfl,u,k T n U _ I z KJ⟩
   ·cases l
  ·cases l
end
set_option genInjectivity false
set_option genSizeOf false
set_option genSizeOfSpec false
inductive Bi where
 |len|sum|all|abs|min|max|int
inductive Mi where
 |app|ext|cnt|bl
mutual
inductive Ex where
 |n|b (x:Bool)|i (x:Int)|s (x:Í)|v (k:Nat)|g (x:Í) (c:AV)|bin (o:ġ) (a b:Ex)|cmp (o:Ϡ) (a b:Ex)|un (o:UnaryOp) (a:Ex)|no (a:Ex)|an (a b:Ex)|or (a b:Ex)|ife (t:Tx) (a b:Ex)|ix (a b:Ex)|tu (es:Exs)|nw (m:Bool) (x:Nx)|ca (p:Bool) (j:Nat) (es:Exs)|me (c m:Í) (j:Nat) (o:Ex) (es:Exs)|ne (c:Í) (j:Nat) (es:Exs)|fd (c f:Í) (o:Ex)|bi (b:Bi) (es:Exs)|mt (m:Mi) (o:Ex) (es:Exs)|dn|mnd (a:Ex)|mnk (a key:Ex)|slt (a:Ex) (l h:Ox)
inductive Tx where
 |va (e:Ex)|cmp (o:Ϡ) (a b:Ex)|no (t:Tx)|an (t u:Tx)|or (t u:Tx)
inductive Exs where
 |nil|cons (e:Ex) (es:Exs)
inductive Nx where
 |li (es:Exs)|cat (a b:Ex)|rep (es:Exs) (b:Ex)|sl (a:Ex) (l h:Ox)|rev (a b:Ex)|lof (a:Ex)|lc (k:Nat) (it:Ix) (t:Tg) (c:Cx') (e:Ex)|lr1 (a:Ex)|lr2 (a b:Ex)
inductive Ox where
 |no|so (e:Ex)
inductive Cx' where
 |no|so (t:Tx)
inductive Ix where
 |e (a:Ex)|r1 (a:Ex)|r2 (a b:Ex)|zi (a b:Ex)|en (a:Ex)|es (a b:Ex)|r3 (a b c:Ex)
inductive Tg where
 |nm (k:Nat)|tu (n:Nat) (ts:Tgs)|su (a b:Ex)
inductive Tgs where
 |nil|cons (t:Tg) (ts:Tgs)
end
mutual
inductive Sx where
 |ex (e:Ex)|as (e:Ex) (t:Tg)|aus (o:ġ) (a b e:Ex)|fl (c f:Í) (o e:Ex)|rt (e:Ex)|iff (t:Tx) (a b:PP)|fo (it:Ix) (t:Tg) (b:PP)|wh (t:Tx) (b:PP)|dead|fd (a:Ex) (t:Tg) (b:PP)
inductive PP where
 |nil|cons (s:Sx) (ss:PP)|dead
end
def n8:Bi->BF
 |.len=>bI eV
 |.sum=>bI qB
 |.all=>bI vd
 |.abs=>bI lb
 |.min=>bI xy
 |.max=>bI qH
 |.int=>bI qK
def vT:Mi->MF
 |.app=>tZ
 |.ext=>xD
 |.cnt=>Cb
 |.bl=>Ie
noncomputable def vU:Mi->String
 |.bl=>"int"
 |_=>"list"
noncomputable def kf(ks:List Fn)(j:Nat):Fn:=ks.getD j fun _ _=>Á
def zr(p:Bool)(fn:Fn):Fn:=if p=Â then pm fn else fn
section
variable(ks:List Fn)
mutual
noncomputable def ev:Ex->EF
 |.n=>aC .non
 |.b x=>aC (.bl x)
 |.i x=>aC (.int x)
 |.s x=>aC (.str x)
 |.v k=>aV k
 |.g _ c=>aC c
 |.bin o a b=>a2 (ev a) (ev b) (lM (bh o))
 |.cmp o a b=>a2 (ev a) (ev b) (lM (oQ o))
 |.un o a=>a1 (ev a) (Gy (iY o))
 |.no a=>Ml (ev a)
 |.an a b=>DJ (ev a) (ev b)
 |.or a b=>DF (ev a) (ev b)
 |.ife t a b=>Mm (tv t) (ev a) (ev b)
 |.ix a b=>a2 (ev a) (ev b) (lM aJ)
 |.tu es=>Mj (eY es)
 |.nw m x=>DG m (jk x)
 |.ca p j es=>DI (zr p (kf ks j)) (eY es)
 |.me c m j o es=>DH c m (kf ks j) (ev o) (eY es)
 |.ne c j es=>A1 c (kf ks j) (eY es)
 |.fd c f o=>Mn c f (ev o)
 |.bi b es=>ve (n8 b) (eY es)
 |.mt m o es=>qf (vU m) (vT m) (ev o) (eY es)
 |.dn=>Mo Ä
 |.mnd a=>ve (bI pw) (dX (ev a) eL)
 |.mnk a key=>sU (ev a) (ev key)
 |.slt a l h=>CJ (ev a) (my l) (my h)
noncomputable def tv:Tx->TF
 |.va e=>tV (ev e)
 |.cmp o a b=>Gj (ev a) (ev b) o
 |.no a=>LJ (tv a)
 |.an a b=>LM (tv a) (tv b)
 |.or a b=>Gc (tv a) (tv b)
noncomputable def eY:Exs->AF
 |.nil=>eL
 |.cons e es=>dX (ev e) (eY es)
noncomputable def jk:Nx->NF
 |.li es=>LY (eY es)
 |.cat a b=>tT (ev a) (ev b)
 |.rep es b=>xu (eY es) (ev b)
 |.sl a l h=>lT (ev a) (my l) (my h)
 |.rev a b=>xt (ev a) (ev b)
 |.lof a=>oF (ev a)
 |.lc k it t c e=>De k (eO it) (cj t) (kA c) (ev e)
 |.lr1 a=>xx (ev a)
 |.lr2 a b=>xw (ev a) (ev b)
noncomputable def my:Ox->OF
 |.no=>Db
 |.so e=>lQ (ev e)
noncomputable def kA:Cx'->TF
 |.no=>LH
 |.so e=>tv e
noncomputable def eO:Ix->IF
 |.e a=>iE (ev a)
 |.r1 a=>Dn (ev a)
 |.r2 a b=>Dm (ev a) (ev b)
 |.zi a b=>iZ (ev a) (ev b)
 |.en a=>L9 (ev a)
 |.es a b=>xK (ev a) (ev b)
 |.r3 a b c=>Dl (ev a) (ev b) (ev c)
noncomputable def cj:Tg->GF
 |.nm k=>AC k
 |.tu n ts=>AB n (jY ts)
 |.su a b=>Ma (ev a) (ev b)
noncomputable def jY:Tgs->vm
 |.nil=>IL
 |.cons t ts=>IP (cj t) (jY ts)
end
mutual
noncomputable def cZ:Sx->SF
 |.ex e=>LU (ev ks e)
 |.as e t=>zd (ev ks e) (cj ks t)
 |.aus o a b e=>xc o (ev ks a) (ev ks b) (ev ks e)
 |.fl c f o e=>zc c f (ev ks o) (ev ks e)
 |.rt e=>LP (ev ks e)
 |.iff t a b=>LR (tv ks t) (ae a) (ae b)
 |.fo it t b=>LS (eO ks it) (cj ks t) (ae b)
 |.wh t b=>nE (tv ks t) (ae b)
 |.dead=>GA
 |.fd a t b=>xb (ev ks a) (cj ks t) (ae b)
noncomputable def ae:PP->SF
 |.nil=>LQ
 |.cons s ss=>LO (cZ s) (ae ss)
 |.dead=>GA
end
end
inductive Ke where
 |f (x:Í) (n:Nat)|m (c m:Í) (n:Nat)|k (c:Í) (n:Nat)
structure SC where
 N:List Í
 nm:List (Í×NameKind)
 cf:List Í
 ke:List Ke
 gs:List (Í×AV)
 cl:List (Í×List Í)
 la:List Ĝ
 cn:List Í
 hs:List Nat
 ck:Bool
noncomputable def kd(C:SC)(x:Í):Option ũ:=C.nm.lookup x
def Bg(C:SC)(x:Í):Bool:=match kd C x with
 |some .local=>Â
 |some .cell=>Â
 |some .free=>Â
 |_=>Ä
def Cd(C:SC)(x:Í):Bool:=match kd C x with
 |some .local=>Â
 |some .cell=>C.cf.contains x
 |_=>Ä
noncomputable def Dv(x:Í):Bool:=!(x==("__debug__":Í))&&!(x==("__classdict__":Í))
def jF(C:SC)(x:Í):Bool:=(match kd C x with
 |some .globalImplicit=>Â
 |_=>Ä)&&Dv x
noncomputable def L6(C:SC)(j:Nat)(x:Í)(n:Nat):Bool:=match C.ke[j]? with
 |some (.f y m)=>y==x&&m==n
 |_=>Ä
noncomputable def L4(C:SC)(j:Nat)(c m:Í)(n:Nat):Bool:=match C.ke[j]? with
 |some (.m b a k)=>b==c&&a==m&&k==n
 |_=>Ä
noncomputable def L5(C:SC)(j:Nat)(c:Í)(n:Nat):Bool:=match C.ke[j]? with
 |some (.k a k)=>a==c&&k==n
 |_=>Ä
noncomputable def bnames:List Í:=["len","sum","all","any","abs","min","max","int","tuple","range","zip","enumerate","list","isinstance","bool","str","sorted"]
noncomputable def Jl:List (Í×Bi):=[("len",.len)
 ,("sum",.sum)
 ,("all",.all)
 ,("abs",.abs)
 ,("min",.min)
 ,("max",.max)
 ,("int",.int)
 ]
noncomputable def HV:List (Í×Mi):=[("append",.app)
 ,("extend",.ext)
 ,("count",.cnt)
 ,("bit_length",.bl)
 ]
noncomputable def Bi.nm:Bi->Í
 |.len=>"len"
 |.sum=>"sum"
 |.all=>"all"
 |.abs=>"abs"
 |.min=>"min"
 |.max=>"max"
 |.int=>"int"
noncomputable def Mi.nm:Mi->Í
 |.app=>"append"
 |.ext=>"extend"
 |.cnt=>"count"
 |.bl=>"bit_length"
noncomputable def NV:List (Í×String):=[("int","int"),("bool","bool"),("list","list"),("tuple","tuple"),("str","str")]
noncomputable def BY(sc:Ġ):List Í:=(sc.names.filter fun p=>(match p.2 with|.local=>Â|.cell=>Â|_=>Ä)&&!(p.1==(".0":Í))).map (·.1)
noncomputable def ui(sc:Ġ)(x:Í):Bool:=match sc.names.lookup x with
 |some .free=>Â
 |_=>Ä
noncomputable def IJ(k:Bool)(x:Í):Í:=match k with
 |true=>x++("!":Í)
 |false=>""
def eZ(C:SC)(sc:Ġ):List Í:=(C.N.map fun x=>if ui sc x=Â then x else IJ C.ck x)++BY sc
noncomputable def Mb:ũ->Bool
 |.free=>Â
 |_=>Ä
noncomputable def Dy:Option ũ->Bool
 |some .cell=>Â
 |_=>Ä
noncomputable def vw{α:Type}(k:Bool)(x:List α):List α:=match k with
 |true=>x
 |false=>[]
@[reducible] def blk(C:SC)(sc:Ġ):SC:={ C with N:=eZ C sc,nm:=vw C.ck (sc.names.map fun p=>if(Mb p.2&&Dy (kd C p.1))=Â then(p.1,.cell) else(p.1,p.2)),cf:=vw C.ck ((sc.names.filter fun p=>Dy (À p.2)).map (·.1)),la:=[] }
def u8(C:SC)(sc:Ġ):Bool :=
 (match sc.kind with|.function=>Â|_=>Ä)&&decide (sc.names.map (·.1)).Nodup&&decide (eZ C sc).Nodup &&
 (sc.names.all fun p=>match p.2 with|.free=>(match kd C p.1 with|some .cell=>Â|some .free=>Â|_=>Ä)|_=>Â) &&
 ((É C.N.length).all fun i=>match (eZ C sc)[i]? with
  |some x=>(match sc.names.lookup x with
   |some .free=>decide (C.N[i]?=À x)
   |some _=>Ä
   |none=>Â)
  |none=>Ä)
mutual
noncomputable def qz(n:Nat):Tg->Bool
 |.nm k=>Û n k
 |.tu _ ts=>sH n ts
 |.su _ _=>Ä
noncomputable def sH(n:Nat):Tgs->Bool
 |.nil=>Â
 |.cons t ts=>qz n t&&sH n ts
end
@[reducible] def Ip(C:SC)(sc:Ġ):SC:={ C with N:=eZ C sc,nm:=vw C.ck sc.names,cf:=[],ke:=[],la:=[] }
noncomputable def N9(C:SC)(p:Ĝ):Bool:=C.la.any fun q=>q.line==p.line&&q.col==p.col&&q.endLine==p.endLine&&q.endCol==p.endCol
def Cj(C:SC)(sc:Ġ)(ps:Ϧ):Bool:=u8 C sc&&!sc.isCoroutine&&!sc.isGenerator&&plainA ps&&ps.defaults.isEmpty&&ps.kw_defaults.isEmpty &&
 (match BY sc,ps.args.map (·.arg) with
  |[x],[y]=>x==y&&(match sc.names.lookup x with|some .local=>Â|_=>Ä)
  |_,_=>Ä)&&sc.names.all fun p=>!(Dy (À p.2))
noncomputable def mT:Ex->Bool
 |.v _=>Â
 |.i _=>Â
 |.ix a b=>mT a&&mT b
 |.fd _ _ o=>mT o
 |_=>Ä
theorem lu{P:Prop}(h:Ä=Â):P:=nomatch h
theorem bv{α:Type}{P:Prop}{m:α}(h:Á=À m):P:=nomatch h
theorem dk{a b:Bool}{P:Prop}(h:(a&&b)=Â)(H:a=Â->b=Â->P):P:=by cases a;exact lu h;exact H rfl h
theorem lF{a b c:Bool}{P:Prop}(h:(a&&b&&c)=Â)(H:a=Â->b=Â->c=Â->P):P:=dk h fun x y=>dk x fun e d=>H e d y
theorem sj{a b c d:Bool}{P:Prop}(h:(a&&b&&c&&d)=Â)(H:a=Â->b=Â->c=Â->d=Â->P):P:=dk h fun x y=>lF x fun g f e=>H g f e y
section
variable{α β γ δ ε:Type}
noncomputable def gu(k c:Bool)(x:Option α):Option α:=match k with
 |false=>x
 |true=>if c=Â then x else Á
noncomputable def m2(f:α->β->γ)(x:Option α)(y:Option β):Option γ:=x.bind fun a=>y.map (f a)
def m3(f:α->β->γ->δ)(x:Option α)(y:Option β)(z:Option γ):Option δ:=x.bind fun a=>m2 (f a) y z
theorem aH{k c:Bool}{x:Option α}{m:α}{P:Prop}(a:k=Â)(h:gu k c x=À m)(H:c=Â->x=À m->P):P:=by
 subst a;cases c
 ·exact bv h
 ·exact H rfl h
@[elab_as_elim] theorem cp{f:α->β}{x:Option α}{m:β}{P:β->Prop}(h:x.map f=À m)(H:∀a,x=À a->P (f a)):P m:=by
 cases x with
 |none=>exact bv h
 |some a=>cases h;exact H a rfl
@[elab_as_elim] theorem bY{f:α->β->γ}{x:Option α}{y:Option β}{m:γ}{P:γ->Prop}(h:m2 f x y=À m)(H:∀a b,x=À a->y=À b->P (f a b)):P m:=by
 cases x with
 |none=>exact bv h
 |some a=>exact cp h fun b c=>H a b rfl c
@[elab_as_elim] theorem jy{f:α->β->γ->δ}{x:Option α}{y:Option β}{z:Option γ}{m:δ}{P:δ->Prop}(h:m3 f x y z=À m)(H:∀a b c,x=À a->y=À b->z=À c->P (f a b c)):P m:=by
 cases x with
 |none=>exact bv h
 |some a=>exact bY h fun b c e d=>H a b c rfl e d
theorem ie{x:Option α}{f:α->Option β}{m:β}{P:Prop}(h:x.bind f=À m)(H:∀a,x=À a->f a=À m->P):P:=by
 cases x with
 |none=>exact bv h
 |some a=>exact H a rfl h
noncomputable def at_(x:Í):List Í->Nat->Option Nat
 |[],_=>Á
 |y::l,k=>if(y==x)=Â then À k else at_ x l (k+1)
theorem DC{x:Í}:∀{l:List Í}{k j:Nat},at_ x l k=À j->∃i,j=k+i/\l[i]?=À x
 |[],_,_,h=>bv h
 |y::l,k,j,h=>by
  unfold at_ at h;split at h
  ·rename_i e;cases h;exact⟨0,rfl,by rw[yJ e];rfl⟩
  ·obtain⟨i,e1,e2⟩:=DC h
   exact⟨i+1,by lia,e2⟩
theorem Jq{x:Í}{l:List Í}{j:Nat}(h:at_ x l 0=À j):l[j]?=À x:=by
 obtain⟨i,e,h⟩:=DC h;rw[e,Nat.zero_add];exact h
noncomputable def lk(x:Í):List (Í×α)->Option α
 |[]=>Á
 |p::l=>if(p.1==x)=Â then À p.2 else lk x l
theorem sN{x:Í}{v:α}:∀{l:List (Í×α)},lk x l=À v->(x,v)∈l
 |[],h=>bv h
 |p::l,h=>by
  unfold lk at h;split at h
  ·rename_i e;cases h;rw[<- yJ e];exact z7
  ·exact zQ _ (sN h)
def uU(f:Í):List (Í×List Í)->Option Í
 |[]=>Á
 |p::l=>match at_ f p.2 0 with
  |some _=>À p.1
  |none=>uU f l
theorem AO{f c:Í}:∀{l:List (Í×List Í)},uU f l=À c->∃fs,(c,fs)∈l/\f∈fs
 |[],h=>bv h
 |p::l,h=>by
  unfold uU at h;split at h
  ·rename_i e;cases h;exact⟨p.2,z7,zW (Jq e)⟩
  ·obtain⟨fs,h1,h2⟩:=AO h
   exact⟨fs,zQ _ h1,h2⟩
noncomputable def B8(n:Nat):List Nat->Bool
 |[]=>Ä
 |m::l=>(m==n)||B8 n l
def hB(C:SC)(p:Ĝ)(k:Nat):Bool:=B8 (((p.line*1000+p.col)*1000+p.endCol)*8+k) C.hs
end
noncomputable def nmO:Ï->Option Í
 |.Name x _=>À x
 |_=>Á
theorem Ah{e:Ï}(h:nmO e=À x):∃p,e=.Name x p:=by
 cases e with
 |Name y p=>cases h;exact⟨p,rfl⟩
 |_=>exact bv h
noncomputable def lsO:Ï->Option (List Ï)
 |.List es _=>À es
 |_=>Á
theorem Ih{e:Ï}(h:lsO e=À es):∃p,e=.List es p:=by
 cases e with
 |List y p=>cases h;exact⟨p,rfl⟩
 |_=>exact bv h
noncomputable def cN:Ï->Bool
 |.Constant .none _ _=>Â
 |_=>Ä
theorem Dz{e:Ï}(h:cN e=Â):∃a p,e=.Constant .none a p:=by
 cases e with
 |Constant c a p=>cases c with
  |none=>exact⟨a,p,rfl⟩
  |_=>exact lu h
 |_=>exact lu h
noncomputable def kX:Const->Option Ex
 |.none=>À .n
 |.bool b=>À (.b b)
 |.int i=>À (.i i)
 |.str s=>À (.s s)
 |_=>Á
structure Tr where
 E:SC->Ï->Option Ex
 T:SC->Ï->Option Tx
 G:SC->Ï->Option Tg
 S:SC->ľ->Option Sx
def CY(C:SC)(x:Í):Option Ex:=match at_ x C.N 0 with
 |some k=>gu C.ck (Bg C x&&Dv x) (À (.v k))
 |none=>(lk x C.gs).bind fun c=>gu C.ck (jF C x&&(rk c).isSome) (À (.g x c))
section
variable(r:Tr)(C:SC)
def lm:List Ï->Option Exs
 |[]=>À .nil
 |e::es=>gu C.ck (cD e) (m2 .cons (r.E C e) (lm es))
noncomputable def trO:Option Ï->Option Ox
 |none=>À .no
 |some e=>(r.E C e).map .so
def wS:List Ï->Option Tgs
 |[]=>À .nil
 |e::es=>gu C.ck (cD e) (m2 .cons (r.G C e) (wS es))
def oY:List ľ->Option PP
 |[]=>À .nil
 |s::ss=>m2 .cons (r.S C s) (oY ss)
noncomputable def Mh:I?->Ex->Ex->Ex
 |.And=>.an
 |.Or=>.or
noncomputable def Mg:I?->Tx->Tx->Tx
 |.And=>.an
 |.Or=>.or
def wU(o:I?):List Ï->Option Ex
 |[]=>Á
 |[x]=>r.E C x
 |x::y::es=>m2 (Mh o) (r.E C x) (wU o (y::es))
def wT(o:I?):List Ï->Option Tx
 |[]=>Á
 |[x]=>r.T C x
 |x::y::es=>m2 (Mg o) (r.T C x) (wT o (y::es))
noncomputable def trC:List Ï->Option Cx'
 |[]=>À .no
 |[e]=>(r.T C e).map .so
 |_=>Á
def trR(es:List Ï):Option Ix:=match es with
 |[a]=>(r.E C a).map .r1
 |[a,b]=>m2 .r2 (r.E C a) (r.E C b)
 |[a,b,c]=>m3 .r3 (r.E C a) (r.E C b) (r.E C c)
 |_=>Á
def trZ(es:List Ï):Option Ix:=match es with
 |[a,b]=>m2 .zi (r.E C a) (r.E C b)
 |_=>Á
def trEn(a:Ï)(kws:List ŋ):Option Ix:=match kws with
 |[]=>(r.E C a).map .en
 |[⟨À y,b,_⟩]=>gu C.ck (y==("start":Í)) (m2 .es (r.E C a) (r.E C b))
 |_=>Á
def trIc(t e:Ï)(es:List Ï)(kws:List ŋ)(o:Option Í):Option Ix:=match o with
 |some x =>
  if(x==("range":Í))=Â then gu C.ck (jF C "range"&&kws.isEmpty&&es.all cD) (trR r C es)
  else if(x==("zip":Í))=Â then gu C.ck (jF C "zip"&&kws.isEmpty&&es.all cD&&!tR t) (trZ r C es)
  else if(x==("enumerate":Í))=Â then gu C.ck (jF C "enumerate"&&es.all cD&&!tR t) (match es with
   |[a]=>trEn r C a kws
   |_=>Á)
  else(r.E C e).map .e
 |none=>(r.E C e).map .e
def trI(t e:Ï):Option Ix:=match e with
 |.Call f es kws _=>trIc r C t e es kws (nmO f)
 |_=>(r.E C e).map .e
def trL(elt:Ï)(gens:List Comprehension)(sc:Ġ):Option Nx:=match gens with
 |[⟨t,it,cs,i⟩]=>gu C.ck (u8 C sc&&(i==0)&&B5 it) ((trI r C t it).bind fun x=>(r.G (blk C sc) t).bind fun g=>gu C.ck (qz C.N.length g) (m2 (.lc ((eZ C sc).length-C.N.length) x g) (trC r (blk C sc) cs) (r.E (blk C sc) elt)))
 |_=>Á
def trLr(p:Ĝ)(es:List Ï):Option Ex:=match es with
 |[a]=>(r.E C a).map fun a=>.nw (hB C p 0) (.lr1 a)
 |[a,b]=>m2 (fun a b=>.nw (hB C p 0) (.lr2 a b)) (r.E C a) (r.E C b)
 |_=>Á
def trLf(p:Ĝ)(a:Ï):Option Ex:=match a with
 |.Call f es kws _=>gu C.ck ((match nmO f with|some y=>y==("range":Í)|none=>Ä)&&kws.isEmpty&&jF C "range"&&es.all cD) (trLr r C p es)
 |a=>(r.E C a).map fun a=>.nw (hB C p 0) (.lof a)
def trF1(x:Í)(p:Ĝ)(es:List Ï):Option Ex:=match es with
 |[a] =>
  gu C.ck (x==("list":Í)&&jF C "list"&&cD a) (trLf r C p a)
 |_=>Á
def Bm(x:Í)(es:List Ï)(p:Ĝ)(j:Nat)(o:Option (List Í)):Option Ex:=match o with
 |some _=>gu C.ck (L5 C j x (es.length+1)&&jF C x&&!es.isEmpty&&es.all cD) ((lm r C es).map (.ne x j))
 |_=>gu C.ck (L6 C j x es.length&&jF C x&&es.all cD) ((lm r C es).map (.ca (!hB C p 6) j))
def Bn(x:Í)(es:List Ï)(p:Ĝ)(o:Option Bi):Option Ex:=match o with
 |some b=>gu C.ck (jF C x&&!es.isEmpty&&es.all cD) ((lm r C es).map (.bi b))
 |none=>trF1 r C x p es
def CZ(x:Í)(es:List Ï)(p:Ĝ):Option Ex:=match at_ x C.cn 0 with
 |some j=>Bm r C x es p j (lk x C.cl)
 |none=>Bn r C x es p (lk x Jl)
def trK(x:Í)(es:List Ï)(kws:List ŋ):Option Ex:=match es with
 |[a]=>(match kws with
  |[⟨À y,d,_⟩]=>gu C.ck (x==("min":Í)&&y==("default":Í)&&cN d&&(jF C "min"&&cD a)) ((r.E C a).map .mnd)
  |[⟨À y,.Lambda ps body sc lp,_⟩,⟨À z,d,_⟩]=>gu C.ck (x==("min":Í)&&y==("key":Í)&&z==("default":Í)&&(cN d&&jF C "min"&&cD a&&(N9 C lp&&Cj C sc ps))) ((r.E C a).bind fun a=>(r.E (Ip C sc) body).bind fun b=>gu C.ck (mT b) (À (.mnk a b)))
  |_=>Á)
 |_=>Á
noncomputable def miA(q:Mi)(es:List Ï):Mi:=match q,es with
 |q,_=>q
def F2(o:Ï)(m:Í)(a:Ĝ)(es:List Ï)(p:Ĝ):Option Ex:=gu C.ck (es.all cD&&Nat.blt es.length 30&&qG o&&(a.endLine==p.line)) (match at_ m C.cn 0 with
 |some j=>C.cl.head?.bind fun q=>gu C.ck (L4 C j q.1 m (es.length+1)) (m2 (.me q.1 m j) (r.E C o) (lm r C es))
 |none=>(lk m HV).bind fun q=>m2 (.mt (miA q es)) (r.E C o) (lm r C es))
def trSl(a:Ï)(l h st:Option Ï)(p:Ĝ):Option Ex:=match st with
 |none =>
  if hB C p 2=Â then m3 .slt (r.E C a) (trO r C l) (trO r C h) else
  m3 (fun a l h=>.nw (hB C p 0) (.sl a l h)) (r.E C a) (trO r C l) (trO r C h)
 |some s=>gu C.ck (l.isNone&&h.isNone) (m2 (fun a s=>.nw (hB C p 0) (.rev a s)) (r.E C a) (r.E C s))
def trCe(a:Ï)(c:List Ϡ)(bs:List Ï):Option Ex:=match c with
 |[o]=>(match bs with
  |[b]=>gu C.ck (mU o b) (m2 (.cmp o) (r.E C a) (r.E C b))
  |_=>Á)
 |_=>Á
def trCt(a:Ï)(c:List Ϡ)(bs:List Ï):Option Tx:=match c with
 |[o]=>(match bs with
  |[b]=>gu C.ck (mU o b) (m2 (.cmp o) (r.E C a) (r.E C b))
  |_=>Á)
 |_=>Á
def trE(e:Ï):Option Ex:=match e with
 |.Constant k _ _=>kX k
 |.Name x _=>CY C x
 |.BinOp a o b p =>
  if hB C p 1=Â then gu C.ck (decide (o=.Add)) (m2 (fun x y=>.nw (hB C p 0) (.cat x y)) (r.E C a) (r.E C b)) else
  (match lsO a with
  |some d=>gu C.ck (decide (o=.Mult)) (m2 (fun x y=>.nw (hB C p 0) (.rep x y)) (lm r C d) (r.E C b))
  |none=>m2 (.bin o) (r.E C a) (r.E C b))
 |.Compare a os bs _=>trCe r C a os bs
 |.UnaryOp o a _=>(match o with
  |.Not=>(r.E C a).map .no
  |o=>(r.E C a).map (.un o))
 |.BoolOp o d _=>wU r C o d
 |.IfExp t a b _=>m3 .ife (r.T C t) (r.E C a) (r.E C b)
 |.Subscript a i p=>(match i with
  |.Slice l h st _=>trSl r C a l h st p
  |i=>gu C.ck (kb i) (m2 .ix (r.E C a) (r.E C i)))
 |.Tuple d _ _=>(lm r C d).map .tu
 |.List d p=>(lm r C d).map fun x=>.nw (hB C p 0) (.li x)
 |.ListComp elt gens sc p=>(trL r C elt gens sc).map fun x=>.nw (hB C p 0) x
 |.Dict ks vs _=>gu C.ck (ks.isEmpty&&vs.isEmpty) (À .dn)
 |.Attribute o f _=>(uU f C.cl).bind fun c=>gu C.ck (qG o) ((r.E C o).map (.fd c f))
 |.Call f d kws p=>(match f with
  |.Name x _=>(match kws with
   |[]=>CZ r C x d p
   |kws=>trK r C x d kws)
  |.Attribute o m ap=>gu C.ck kws.isEmpty (F2 r C o m ap d p)
  |_=>Á)
 |_=>Á
def trT(e:Ï):Option Tx:=match e with
 |.UnaryOp o a p=>(match o with
  |.Not=>(r.T C a).map .no
  |o=>(r.E C (.UnaryOp o a p)).map .va)
 |.BoolOp o es _=>wT r C o es
 |.Compare a os bs _=>trCt r C a os bs
 |e=>gu C.ck (zt e) ((r.E C e).map .va)
def qw(x:Í):Option Tg:=(at_ x C.N 0).bind fun k=>gu C.ck (Cd C x&&Dv x) (À (.nm k))
def trG(e:Ï):Option Tg:=match e with
 |.Name x _=>qw C x
 |.Tuple es _ _=>gu C.ck (es.all cD) ((wS r C es).map (.tu es.length))
 |.Subscript a b _=>gu C.ck (kb b) (m2 .su (r.E C a) (r.E C b))
 |_=>Á
def trAn(x:Í)(v:Ï):Option Sx:=match v with
 |.ListComp elt gens sc q=>m2 .as ((trL r C elt gens sc).map fun x=>.nw (hB C q 0) x) (qw C x)
 |v=>gu C.ck (pq v) (m2 .as (r.E C v) (qw C x))
def trAs(t v:Ï):Option Sx:=match t with
 |.Attribute o f _=>(uU f C.cl).bind fun c=>m2 (.fl c f) (r.E C o) (r.E C v)
 |.Name x _=>trAn r C x v
 |.Subscript a b p=>m2 .as (r.E C v) (r.G C (.Subscript a b p))
 |.Tuple ts k p=>(match v with
  |v=>gu C.ck (tR v&&pq v) (m2 .as (r.E C v) (r.G C (.Tuple ts k p))))
 |_=>Á
def trS(s:ľ):Option Sx:=match s with
 |.Expr e _=>gu C.ck (pq e) ((r.E C e).map .ex)
 |.Assign ts v _=>(match ts with
  |[t]=>trAs r C t v
  |_=>Á)
 |.AugAssign t o v _=>(match t with
  |.Subscript a b _=>gu C.ck (kb b) (m3 (.aus o) (r.E C a) (r.E C b) (r.E C v))
  |_=>Á)
 |.Return e _=>(match e with
  |none=>Á
  |some e=>(r.E C e).map .rt)
 |.If t a b _=>m3 .iff (r.T C t) (oY r C a) (oY r C b)
 |.For t it b els p=>gu C.ck (els.isEmpty&&B5 it) (
  if hB C p 4=Â then m3 .fd (r.E C it) (r.G C t) (oY r C b) else
  m3 .fo (trI r C t it) (r.G C t) (oY r C b))
 |.While t b els _=>gu C.ck els.isEmpty (m2 .wh (r.T C t) (oY r C b))
 |.Raise _ _ _=>À .dead
 |_=>Á
end
theorem IK{α:Type}{c:Bool}{x:Option α}:gu Ä c x=x:=rfl
theorem E9{a b:String}(h:û a=û b):a=b:=by
 rw[Str.ofString_eq_byList]at h;have h:=congrArg (fun x=>x.cps.toList) h;exact String.toList_inj.mp (List.map_inj_right (fun x y e=>Char.toNat_inj.mp e) |>.mp h)
theorem HI{a b:String}:(û a==û b)=decide (a=b):=by
 by_cases h:a=b
 ·subst h;simp
 ·rw[z9 h]
  exact beq_eq_false_iff_ne.mpr fun e=>h (E9 e)
def tr:Nat->Tr
 |0=>⟨fun _ _=>Á,fun _ _=>Á,fun _ _=>Á,fun _ _=>Á⟩
 |n+1=>⟨trE (tr n),trT (tr n),trG (tr n),trS (tr n)⟩
section
variable{n:Nat}
theorem ME:(tr (n+1)).E=trE (tr n):=rfl
theorem MB:(tr (n+1)).T=trT (tr n):=rfl
theorem MD:(tr (n+1)).G=trG (tr n):=rfl
theorem MC:(tr (n+1)).S=trS (tr n):=rfl
end
theorem uS:type_of% @trS.eq_def:=@trS.eq_def
theorem uE:type_of% @trE.eq_def:=@trE.eq_def
theorem uT:type_of% @trT.eq_def:=@trT.eq_def
theorem uG:type_of% @trG.eq_def:=@trG.eq_def
theorem NT:type_of% @trAs.eq_def:=@trAs.eq_def
theorem NU:type_of% @trAn.eq_def:=@trAn.eq_def
theorem uK:type_of% @trK.eq_def:=@trK.eq_def
theorem NS:type_of% @trCe.eq_def:=@trCe.eq_def
theorem NR:type_of% @trCt.eq_def:=@trCt.eq_def
theorem uI:type_of% @trI.eq_def:=@trI.eq_def
theorem NO:type_of% @trIc.eq_def:=@trIc.eq_def
theorem NL:type_of% @trSl.eq_def:=@trSl.eq_def
theorem uL:type_of% @trL.eq_def:=@trL.eq_def
theorem NQ:type_of% @trEn.eq_def:=@trEn.eq_def
theorem uR:type_of% @trR.eq_def:=@trR.eq_def
theorem uZ:type_of% @trZ.eq_def:=@trZ.eq_def
theorem NP:type_of% @trF1.eq_def:=@trF1.eq_def
theorem NN:type_of% @trLf.eq_def:=@trLf.eq_def
theorem NM:type_of% @trLr.eq_def:=@trLr.eq_def
theorem uO:type_of% @trO.eq_def:=@trO.eq_def
theorem uC:type_of% @trC.eq_def:=@trC.eq_def
theorem uX:type_of% @kX.eq_def:=@kX.eq_def
theorem uM:type_of% @nmO.eq_def:=@nmO.eq_def
theorem uN:type_of% @lsO.eq_def:=@lsO.eq_def
theorem uP:type_of% @miA.eq_def:=@miA.eq_def
def JA[Pz](P:Ò)(w:Ù)(K:Ü)(mg:Í->Option Å)(base:æ)(A:Ć)(fn:Fn):Ke->Prop
 |.f x n=>∃d f fd ps,ps.length=n/\FnOk P w K mg base fE d f fd ps (dY ⟨K,mg⟩ ps.length fn)/\Room d A/\mg x=À (.ref f)/\ĺ K (.ref f)=Â/\Binds K fd ps []
 |.m c m n=>∃d f fd ps C,ps.length=n/\FnOk P w K mg base fE d f fd ps (dY ⟨K,mg⟩ ps.length fn)/\Room d A/\mg c=À (.ref C)/\Cls K C/\ld K C m f/\Binds K fd ps []
 |.k c n=>∃d f fd ps C,ps.length=n/\FnOk P w K mg base fE d f fd ps (dY ⟨K,mg⟩ ps.length fn)/\Room (d+1) A/\mg c=À (.ref C)/\Mk K C f/\Binds K fd ps []
structure Fit[Pz](X:Cx)(C:SC)(ks:List Fn):Prop where
 N:X.N=C.N
 ck:C.ck=Â
 nm:X.env.scope.names=C.nm
 nd:C.N.Nodup
 kind:X.env.scope.kind=.function
 calm:X.calm=Â
 cf:∀x∈C.cf,X.fn x=Â
 hu:X.A.units+64<Ŗ
 gd:X.A.guards=À []
 bl:∀x∈bnames,X.mg x=Á
 po:ϣ (model X.prog X.w) X.A X.env X.xe
 ke:∀(j:Nat) k,C.ke[j]?=À k->JA X.prog X.w X.K X.mg X.base X.A (kf ks j) k
 gs:∀p∈C.gs,∀w,rk p.2=À w->∃u,X.mg p.1=À u/\RelV w u
 cl:∀p∈C.cl,∃Ca,X.mg p.1=À (.ref Ca)/\Cls X.K Ca/\∀f∈p.2,NoAttr X.K Ca f
 la:∀p∈C.la,Room 2 X.A/\∃c P,X.env.code=.ref c/\X? X.base c P/\jU X.mg X.base/\(P,p,X.env.qual++"<lambda>")∈Pz.tb/\∀t∈Pz.tb,t.1=P->t=(P,p,X.env.qual++"<lambda>")
section
variable{X:Cx}{C:SC}{ks:List Fn}
theorem Fit.kdO[Pz](F:Fit X C ks)(x:Í):X.env.kindOf x=kd C x:=by unfold kd;rw[<- F.nm];rfl
theorem Fit.vis[Pz](F:Fit X C ks)(h:Bg C x=Â):A2 X.env.scope x:=by
 unfold Bg kd at h;rw[<- F.nm]at h;unfold A2;split at h
 ·rename_i e;exact .inl e
 ·rename_i e;exact .inr (.inl e)
 ·rename_i e;exact .inr (.inr e)
 ·cases h
theorem Fit.loc[Pz](F:Fit X C ks)(h:Cd C x=Â):L2.Loc X.env.scope x/\(X.fn x=Â\/X.env.scope.names.lookup x=À .local):=by
 unfold Cd kd at h;rw[<- F.nm]at h;unfold L2.Loc;split at h
 ·rename_i e;exact⟨.inl e,.inr e⟩
 ·rename_i e;exact⟨.inr e,.inl (F.cf x (by simpa using h))⟩
 ·cases h
theorem uD(h:Dv x=Â):(x==("__debug__":Í))=Ä/\(x==("__classdict__":Í))=Ä:=dk h fun b a=>⟨by simpa using b,by simpa using a⟩
theorem Fit.gl[Pz](F:Fit X C ks)(h:jF C x=Â):Gl X x/\(x==("__debug__":Í))=Ä:=by
 unfold jF at h;refine dk h fun a b=>⟨?_,(uD b).1⟩
 unfold Gl;rw[F.kdO];split at a
 ·rename_i e;exact e
 ·cases a
theorem Fit.nmb[Pz](F:Fit X C ks){k:Nat}(h:at_ x C.N 0=À k):X.N[k]?=À x:=by rw[F.N];exact Jq h
theorem Fit.clb[Pz](F:Fit X C ks){c f:Í}(h:uU f C.cl=À c):∃Ca,X.mg c=À (.ref Ca)/\Cls X.K Ca/\NoAttr X.K Ca f:=by
 obtain⟨fs,g,e⟩:=AO h;obtain⟨Ca,a,b,d⟩:=F.cl _ g;exact⟨Ca,a,b,d f e⟩
theorem Fit.blt[Pz](F:Fit X C ks)(h:x∈bnames):X.mg x=Á:=F.bl x h
theorem IW(b:ũ):Mb b=(b==Ø):=by cases b<;>rfl
theorem Ji(o:Option ũ):Dy o=(o==À Ě):=by
 cases o with
 |none=>rfl
 |some k=>cases k<;>rfl
theorem Fit.blk[Pz](F:Fit X C ks)(h:u8 C sc=Â):j3 X (eZ C sc) sc/\∀cl s H fp Pw,Fit (cE X (eZ C sc) sc cl s H fp Pw) (R.blk C sc) ks:=by
 unfold u8 at h;simp only[zC,yB]at h;obtain⟨⟨⟨⟨u,r⟩,z⟩,y⟩,w⟩:=h;have t:sc.kind=.function:=by
  split at u
  ·rename_i e;exact e
  ·cases u
 have j:C.N.length<=(eZ C sc).length:=by unfold eZ;rw[zV,zH];lia
 have l:∀x,(x,Ø)∈sc.names->X.env.kindOf x=À .cell\/X.env.kindOf x=À .free:=fun x f=>by
  have:=yQ.mp y _ f
  simp only at this;rw[F.kdO];split at this
  ·rename_i e;exact .inl e
  ·rename_i e;exact .inr e
  ·cases this
 have m:∀i x,i<X.N.length->(eZ C sc)[i]?=À x->(∀k,(x,k)∈sc.names->k=.free/\X.N[i]?=À x):=fun i x d e k c=>by
  rw[F.N]at d ⊢
  have:=yQ.mp w i (Ö.mpr d)
  rw [e] at this;simp only at this;have v:=di r c;rw [v] at this;cases k <;> simp only at this <;> first | (cases this;done) | exact ⟨rfl,of_decide_eq_true this⟩
 refine ⟨⟨t,r,by rw [F.N];exact j,l,fun i x d e c=>(m i x d e _ c).2,fun i x d e n=>by obtain ⟨k,c⟩:=n;have:=(m i x d e k c).1;subst this;exact c⟩,fun cl s H fp Pw=>?_⟩;refine ⟨rfl,F.ck,?_,z,t,F.calm,fun x f=>?_,F.hu,F.gd,F.bl,PassesOwn.never,F.ke,F.gs,F.cl,fun p q=>absurd (show p ∈ ([]:List Ĝ) from q) (by simp)⟩
 ·show(relabel sc X.env).names=_
  unfold relabel R.blk;dsimp only;rw[F.kind,F.ck];apply ķ;intro p _;obtain⟨a,b⟩:=p;simp only[F.kdO,IW,Ji];simp
 ·unfold R.blk at f
  rw[F.ck]at f;obtain⟨p,q,e⟩:=yC.mp f;obtain⟨o,g⟩:=ŀ.mp q;obtain⟨a,b⟩:=p;dsimp only at e g;subst e;have:b=.cell:=by cases b<;>first|rfl|cases g
  subst this;show(sc.names.lookup a==À Ě)=Â;rw[di r o];rfl
end
section
variable{X:Cx}{C:SC}{ks:List Fn}
theorem Fit.lam[Pz](F:Fit X C ks)(n:Room 2 X.A)(h:Cj C sc ps=Â):∃x,yd X (eZ C sc) sc x/\plainA ps=Â/\ps.args.map (·.arg)=[x]/\W4 ps X.env=([],[]) /\
  ∀cl f q cd s H,Fit (uF X (eZ C sc) sc cl f q cd X.A.in1 s H) (Ip C sc) ks:=by
 unfold Cj at h;simp only[zC]at h;obtain⟨⟨⟨⟨⟨⟨⟨b,D⟩,B⟩,A⟩,z⟩,w⟩,a⟩,v⟩:=h;obtain⟨m,_⟩:=F.blk b;split at a
 ·rename_i x y ex E
  simp only[zC]at a;have g:=yJ a.1;subst g;have u:sc.names.lookup x=À .local:=by
   have:=a.2
   split at this
   ·rename_i e;exact e
   ·cases this
  have l:eZ C sc=(C.N.map fun x=>if ui sc x=Â then x else IJ C.ck x)++[x]:=by unfold eZ;rw[ex]
  refine⟨x,⟨m,by simpa using D,by simpa using B,by rw[l,F.N];simp,by rw[l,F.N];simp,u,fun y o e=>?_⟩,A,E,?_,fun cl f q cd s H=>?_⟩
  ·have:=yQ.mp v y o
   rw[e]at this;cases this
  ·obtain⟨a1,a2,N,M,K,L,J⟩:=ps
   have I:J=[]:=ç.mp z;have G:K=[]:=ç.mp w;subst I;subst G;rfl
  ·have c:(eZ C sc).Nodup:=by
    unfold u8 at b;simp only[zC,yB]at b;exact b.1.1.2
   have d:sc.kind=.function:=m.kind;have r1:Room 1 X.A.in1:=n.in1;have i:=Room.deeper r1 (W3 sc s.heap.objs.size Ð cl (q++".<locals>.") (À f) cd Á Ę);refine ⟨rfl,F.ck,(by show _=vw C.ck sc.names;rw [F.ck];rfl),c,d,rfl,fun x r=>absurd (show x ∈ ([]:List Í) from r) (by simp),i.units,i.gd,F.bl,PassesOwn.never,fun j k e=>absurd (show ([]:List Ke)[j]?=À k from e) (by simp),F.gs,F.cl,fun p t=>absurd (show p ∈ ([]:List Ĝ) from t) (by simp)⟩
 ·cases a
end
mutual
theorem vF{n:Nat}:∀{t:Tg},qz n t=Â->qh n (cj ks t)
 |.nm k,h=>by
  simp only[qz]at h;have hk:=zS h;simp only[cj];intro x d c b a e;cases e;exact⟨à,fun j f=>î oM⟩
 |.tu m ts,h=>by
  simp only[qz]at h;simp only[cj];intro x d c b a e;unfold AB at e;split at e
  ·split at e
   ·exact oz h _ _ _ _ _ e
   ·cases e
  ·split at e
   ·split at e
    ·exact oz h _ _ _ _ _ e
    ·cases e
   ·cases e
 |.su _ _,h=>by simp only[qz]at h;cases h
theorem oz{n:Nat}:∀{ts:Tgs},sH n ts=Â->∀xs sl st sl' st',jY ks ts xs sl st=À (sl',st')->sl'.length=sl.length/\∀j,j<n->sl'[j]?=sl[j]?
 |.nil,_,xs,sl,st,sl',st',e=>by
  simp only[jY]at e;cases xs with
  |nil=>cases e;exact⟨rfl,fun _ _=>rfl⟩
  |cons _ _=>cases e
 |.cons t ts,h,xs,sl,st,sl',st',e=>by
  simp only[sH,zC]at h;simp only[jY]at e;cases xs with
  |nil=>cases e
  |cons x xs =>
   obtain⟨p,e1,e2⟩:=zA e;obtain⟨a1,a2⟩:=vF h.1 _ _ _ _ _ e1;obtain⟨c,b⟩:=oz h.2 _ _ _ _ _ e2;exact⟨c.trans a1,fun j a=>(b j a).trans (a2 j a)⟩
end
theorem m6{r:Tr}(b:C.ck=Â):∀{es:List Ï}{as:Exs},lm r C es=À as->∀sl st xs st',eY ks as sl st=À (xs,st')->xs.length=es.length
 |[],as,h,sl,st,xs,st',e=>by cases h;cases e;rfl
 |x::es,as,h,sl,st,xs,st',e=>by
  refine aH b h fun _ h=>?_
  revert e
  refine bY h fun a as _ h2 e=>?_
  obtain⟨p,e1,e2⟩:=zA e;obtain⟨q,d,c⟩:=zA e2;cases c;rw[yX,yX,m6 b h2 _ _ _ _ d]
theorem Ly:á "len"=À (.builtin "len"):=by decide +kernel
theorem Lv:á "sum"=À (.builtin "sum"):=by decide +kernel
theorem LA:á "all"=À (.builtin "all"):=by decide +kernel
theorem LB:á "abs"=À (.builtin "abs"):=by decide +kernel
theorem Lw:á "min"=À (.builtin "min"):=by decide +kernel
theorem Lx:á "max"=À (.builtin "max"):=by decide +kernel
theorem Lz:á "int"=À (.type "int"):=by decide +kernel
section
variable{X:Cx}{C:SC}{ks:List Fn}
theorem Lu[Pz](F:Fit X C ks)(b:Bi){e:Ï}{es:List Ï}{g:AF}{p pos:Ĝ}(h:jF C b.nm=Â)(d:QA X (e::es) g)(f:(e::es).all cD=Â):QE X (.Call (.Name b.nm p) (e::es) [] pos) (ve (n8 b) g):=by
 have gl:=F.gl h;rw[ĩ,zC]at f;have c:=ay (env:=X.env) (es:=es) f.1;have a:=i9 (env:=X.env) (pos:=pos) f.2;cases b with
 |len=>exact mS Ln gl.1 (F.blt dC) Ly d dC gl.2 c a
 |sum=>exact mS (Lk F.calm) gl.1 (F.blt dC) Lv d dC gl.2 c a
 |all=>exact mS (Lp F.calm) gl.1 (F.blt dC) LA d dC gl.2 c a
 |abs=>exact mS Lq gl.1 (F.blt dC) LB d dC gl.2 c a
 |min=>exact mS (Ll F.calm) gl.1 (F.blt dC) Lw d dC gl.2 c a
 |max=>exact mS (Lm F.calm) gl.1 (F.blt dC) Lx d dC gl.2 c a
 |int=>exact J9 Lo gl.1 (F.blt dC) Lz d dC gl.2 c a
theorem Kv[Pz](F:Fit X C ks)(m:Mi){o:Ï}{es:List Ï}{f:EF}{g:AF}{n p:Ĝ}(h:QE X o f)(k:QA X es g)(r:es=[]->g=eL)(i:es.all cD=Â)(q:es.length<30)(l:qG o=Â)(b:(n.endLine==p.line)=Â) :
  QE X (.Call (.Attribute o m.nm n) es [] p) (qf (vU m) (vT m) f g):=by
 cases es with
 |nil =>
  have:=r rfl
  subst this;have a:=gx (env:=X.env) (f:=m.nm) (eval o X.env) l;cases m with
  |app=>exact pb ü g! e? Dj h a b
  |ext=>exact pb ü f? e! Dh h a b
  |cnt=>exact pb ü Ŝ h? (Di F.hu) h a b
  |bl=>exact pb j! ϱ ϰ Ic h a b
 |cons e es =>
  have a:=gx (env:=X.env) (f:=m.nm) (eval o X.env) l;have c:=Md (env:=X.env) (cpos:=p) i q;rw[ĩ,zC]at i;have j:=ay (env:=X.env) (es:=es) i.1;have d:=i9 (env:=X.env) (pos:=p) i.2;cases m with
  |app=>exact sK ü g! e? Dj h k a c b j d
  |ext=>exact sK ü f? e! Dh h k a c b j d
  |cnt=>exact sK ü Ŝ h? (Di F.hu) h k a c b j d
  |bl=>exact sK j! ϱ ϰ Ic h k a c b j d
theorem Hl[Pz]{P:Ò}{w:Ù}{K:Ü}{mg:Í->Option Å}{base:æ}{k:Nat}{f:Ç}{fd:Ē}{ps:List Í}{n:Nat}{fn:Fn}(b:Bool)(F:FnOk P w K mg base fE k f fd ps (dY ⟨K,mg⟩ n fn)):FnOk P w K mg base fE k f fd ps (dY ⟨K,mg⟩ n (zr b fn)):=by
 cases b
 ·exact F
 ·exact FnOk.pm F
end
theorem kP{ks:List Fn}:∀{e:Ex},mT e=Â->DK (ev ks e)
 |.v k,_=>fun sl st v st' e=>by
  have e:aV k sl st=À (v,st'):=e;unfold aV at e;split at e
  ·cases e;rfl
  ·cases e
 |.i k,_=>fun sl st v st' e=>by
  cases e;rfl
 |.ix a b,h=>fun sl st v st' e=>by
  refine dk h fun n m=>?_
  obtain⟨p,j,i⟩:=zA e;obtain⟨q,l,g⟩:=zA i;obtain⟨z,r,d⟩:=zE.mp g;cases d;rw[kP m _ _ _ _ l,kP n _ _ _ _ j]
 |.fd c f o,h=>fun sl st v st' e=>by
  obtain ⟨p,j,i⟩:=zA e;obtain ⟨q,l,g⟩:=zA i;obtain ⟨z,r,d⟩:=zE.mp g;cases d;rw [kP (show mT o=Â from h) _ _ _ _ j]
theorem Kx{α d c:Type}{f:α->d->c}{x:Option α}{y:Option d}{m:c}(h:m2 f x y=À m):∃a b,x=À a/\y=À b/\m=f a b:=bY h fun a b g e=>⟨a,b,g,e,rfl⟩
structure CL[Pz](r:Tr)(ks:List Fn):Prop where
 E:∀{X:Cx}{C:SC}{e:Ï}{m:Ex},Fit X C ks->r.E C e=À m->QE X e (ev ks m)
 T:∀{X:Cx}{C:SC}{e:Ï}{m:Tx},Fit X C ks->r.T C e=À m->QT X e (tv ks m)
 G:∀{X:Cx}{C:SC}{e:Ï}{m:Tg},Fit X C ks->r.G C e=À m->QG X e (cj ks m)
 S:∀{X:Cx}{C:SC}{s:ľ}{m:Sx},Fit X C ks->r.S C s=À m->QS X s (cZ ks m)
section
variable[Pz]{ks:List Fn}{r:Tr}(R:CL r ks){X:Cx}{C:SC}(F:Fit X C ks)
include R F
theorem gA:∀{es:List Ï}{m:Exs},lm r C es=À m->QA X es (eY ks m)
 |[],m,h=>by cases h;exact eU
 |e::es,m,h=>aH F.ck h fun h0 h=>bY h fun a as h1 h2=>cM (R.E F h1) (gA h2) (ay h0)
theorem oX{e:Option Ï}{m:Ox}(h:trO r C e=À m):QO X e (my ks m):=by
 cases e with
 |none=>cases h;exact Ey
 |some e=>exact cp h fun a h=>Ew (R.E F h)
theorem i8:∀{ss:List ľ}{m:PP},oY r C ss=À m->oj X ss (ae ks m)
 |[],m,h=>by cases h;exact Ep
 |s::ss,m,h=>bY h fun a as h1 h2=>BA (R.S F h1) (i8 h2)
theorem vD:∀{es:List Ï}{m:Tgs},wS r C es=À m->A6 X es (jY ks m)
 |[],m,h=>by cases h;exact EC
 |e::es,m,h=>aH F.ck h fun h0 h=>bY h fun a as h1 h2=>BC (R.G F h1) (vD h2) (Ct h0)
theorem qy{o:I?}{p:Ĝ}:∀{x:Ï}{es:List Ï}{m:Ex},wU r C o (x::es)=À m->QE X (.BoolOp o (x::es) p) (ev ks m)
 |x,[],m,h=>by cases o<;>exact Hu (R.E F h)
 |x,y::es,m,h=>bY h fun a b h1 h2=>by
  cases o
  ·exact Ha (R.E F h1) (qy h2)
  ·exact Ka (R.E F h1) (qy h2)
theorem qx{o:I?}{p:Ĝ}:∀{x:Ï}{es:List Ï}{m:Tx},wT r C o (x::es)=À m->QW X (.BoolOp o (x::es) p) (tv ks m)
 |x,[],m,h=>GK o (R.T F h)
 |x,y::es,m,h=>bY h fun a b h1 h2=>by
  cases o
  ·exact GL (R.T F h1) (qx h2)
  ·exact JY (R.T F h1) (qx h2)
theorem F7{es:List Ï}{m:Cx'}(h:trC r C es=À m):wH X es (kA ks m):=by
 rcases es with _|⟨e,_|_⟩
 ·cases h;exact EB
 ·exact cp h fun a h=>EA (R.T F h)
 ·exact bv h
omit R in
theorem FY{x:Í}{p:Ĝ}{m:Ex}(h:CY C x=À m):QE X (.Name x p) (ev ks m):=by
 unfold CY at h;split at h
 ·rename_i k g
  refine aH F.ck h fun e h=>dk e fun d a=>?_
  cases h;exact G2 (F.nmb g) (F.vis d) (uD a).1 (uD a).2
 ·refine ie h fun c i h=>aH F.ck h fun e h=>dk e fun d a=>?_
  cases h;obtain⟨w,f⟩:=ø.mp a;obtain⟨u,b,j⟩:=F.gs _ (sN i) w f;obtain⟨g1,l⟩:=F.gl d;exact tK f (E4 g1 b j l) fun _ _ _ h=>h
omit R F in
theorem yq{t:Ï}(h:(!tR t)=Â):∃ts k p,t=.Tuple ts k p:=by
 cases t with
 |Tuple ts k p=>exact⟨ts,k,p,rfl⟩
 |_=>exact lu h
theorem yt{t e:Ï}{m:Ix}(h:trI r C t e=À m):QI X t e (eO ks m):=by
 have v:∀{m},(r.E C e).map .e=À m->QI X t e (eO ks m):=fun h=>cp h fun a h=>M5 (R.E F h)
 cases e with
 |Call f es kws p =>
  have h:trIc r C t _ es kws (nmO f)=À m:=h;cases i:nmO f with
  |none=>rw[i]at h;exact v h
  |some x =>
   rw[i]at h;obtain⟨q,rfl⟩:=Ah i;unfold trIc at h;split at h
   ·rename_i w
    rw[yJ w];refine aH F.ck h fun u g=>lF u fun o D j=>?_
    cases ç.mp D;rcases es with _|⟨a,_|⟨b,_|⟨c,_|_⟩⟩⟩
    ·exact bv g
    ·refine dk j fun l _=>?_
     exact cp g fun x i=>J6 (F.gl o).1 (F.blt dC) (R.E F i) (ay l)
    ·refine dk j fun l j=>dk j fun n _=>?_
     exact bY g fun x y i s=>J5 (F.gl o).1 (F.blt dC) (R.E F i) (R.E F s) (by rw[ay l,ay n];rfl) (ay n)
    ·refine dk j fun l j=>dk j fun n j=>dk j fun B _=>?_
     exact jy g fun x y z i s hz=>J4 (F.gl o).1 (F.blt dC) (R.E F i) (R.E F s) (R.E F hz) (by rw[ay l,ay n,ay B];rfl) (by rw[ay n,ay B];rfl) (ay B)
    all_goals exact bv g
   ·split at h
    ·rename_i w
     rw[yJ w];refine aH F.ck h fun u g=>sj u fun o D j A=>?_
     cases ç.mp D;obtain⟨E,k,tp,rfl⟩:=yq A;rcases es with _|⟨a,_|⟨b,_|⟨c,_|⟨d,_|_⟩⟩⟩⟩
     ·exact bv g
     ·exact bv g
     ·refine dk j fun l j=>dk j fun n _=>?_
      exact bY g fun x y i s=>GY (F.gl o).1 (F.blt dC) (R.E F i) (R.E F s) (by rw[ay l,ay n];rfl) (ay n)
     ·exact bv g
     all_goals exact bv g
    ·split at h
     ·rename_i w
      rw[yJ w];refine aH F.ck h fun u g=>lF u fun o j A=>?_
      obtain⟨E,k,tp,rfl⟩:=yq A;rcases es with _|⟨a,_|_⟩
      ·exact bv g
      ·refine dk j fun l _=>?_
       unfold trEn at g;dsimp only at g;split at g
       ·exact cp g fun x i=>J7 (F.gl o).1 (F.blt dC) (R.E F i) (ay l)
       ·refine aH F.ck g fun u g=>?_
        rw[yJ u];exact bY g fun x y i s=>GZ (F.gl o).1 (F.blt dC) (R.E F i) (R.E F s) (ay l)
       ·exact bv g
      ·exact bv g
     ·exact v h
 |_=>exact v h
theorem yr{elt:Ï}{gens:List Comprehension}{sc:Ġ}{m:Nx}(h:trL r C elt gens sc=À m):∃t it cs x g c y N',gens=[⟨t,it,cs,0⟩]/\m=.lc (N'.length-X.N.length) x g c y/\j3 X N' sc/\QI X t it (eO ks x)/\(∀cl s H fp Pw,QG (cE X N' sc cl s H fp Pw) t (cj ks g))/\(∀cl s H fp Pw,wH (cE X N' sc cl s H fp Pw) cs (kA ks c)) /\
  (∀cl s H fp Pw,QE (cE X N' sc cl s H fp Pw) elt (ev ks y))/\qh X.N.length (cj ks g)/\(∀x,õ it X.env x=pure x):=by
 unfold trL at h;split at h
 ·rename_i t it cs i
  refine aH F.ck h fun p h=>lF p fun o n l=>ie h fun x d h=>ie h fun g e h=>aH F.ck h fun j k=>?_
  cases yJ n;obtain⟨T,a⟩:=F.blk o;obtain⟨c,y,f,b,rfl⟩:=Kx k;exact⟨t,it,cs,x,g,c,y,eZ C sc,rfl,by rw[F.N],T,yt R F d,fun cl s H fp Pw=>R.G (a cl s H fp Pw) e,fun cl s H fp Pw=>F7 R (a cl s H fp Pw) f,fun cl s H fp Pw=>R.E (a cl s H fp Pw) b,by rw[F.N];exact vF j,tD l⟩
 ·exact bv h
theorem D0{x:Í}{es:List Ï}{p e:Ĝ}{m:Ex}(h:trF1 r C x e es=À m):QE X (.Call (.Name x p) es [] e) (ev ks m):=by
 rcases es with _|⟨a,_|⟨b,_|_⟩⟩
 ·exact bv h
 ·skip
  refine aH F.ck h fun s g=>lF s fun d o z=>?_
  rw[yJ d];clear h;have t:∀{m},((r.E C a).map fun a=>Ex.nw (hB C e 0) (.lof a))=À m->QE X (.Call (.Name "list" p) [a] [] e) (ev ks m):=fun h=>cp h fun y h=>ic (GV (F.gl o).1 (F.blt dC) (R.E F h) (ay z))
  cases a with
  |Call f es' kws' q =>
   refine aH F.ck g fun s k=>sj s fun n w v i=>?_
   obtain⟨A,rfl⟩:∃q,f=.Name "range" q:=by
    split at n
    ·rename_i y j
     obtain⟨q,rfl⟩:=Ah j;rw[yJ n];exact⟨q,rfl⟩
    ·exact lu n
   cases ç.mp w;rcases es' with _|⟨a,_|⟨b,_|⟨c,_|_⟩⟩⟩
   ·exact bv k
   ·exact dk i fun l _=>cp k fun x d=>ic (GU F.calm (F.gl o).1 (F.blt dC) (F.gl v).1 (F.blt dC) (R.E F d) (ay l))
   ·exact dk i fun l i=>dk i fun u _=>bY k fun x y d j=>ic (GT F.calm (F.gl o).1 (F.blt dC) (F.gl v).1 (F.blt dC) (R.E F d) (R.E F j) ((ay l).trans (by rw[ay u];rfl)) (ay u))
   ·exact bv k
   all_goals exact bv k
  |_=>first|exact t g|exact bv g
 all_goals exact bv h
theorem F5{x:Í}{es:List Ï}{p E:Ĝ}{m:Ex}(h:CZ r C x es E=À m):QE X (.Call (.Name x p) es [] E) (ev ks m):=by
 unfold CZ at h;split at h
 ·rename_i j _
  unfold Bm at h;split at h
  ·refine aH F.ck h fun i h=>sj i fun a n D c=>cp h fun I h=>?_
   unfold L5 at a;split at a
   ·rename_i S k B
    refine dk a fun a1 a2=>?_
    obtain⟨d,f,P,w,T,A,Fn,s,H,M,l⟩:=F.ke j _ B;rw[yJ a1]at H;obtain⟨g1,u⟩:=F.gl n;cases es with
    |nil=>exact lu D
    |cons Q o =>
     have t:w.length=o.length+2:=by rw[A];exact yJ a2
     refine dk c fun c N=>?_
     exact G6 M Fn s g1 H l (gA R F h) (fun L K J v e=>by rw[t,m6 F.ck h _ _ _ _ e];rfl) u (ay c) (i9 N)
   ·exact lu a
  ·refine aH F.ck h fun i h=>lF i fun a n c=>cp h fun I h=>?_
   unfold L6 at a;split at a
   ·rename_i y m B
    refine dk a fun a i=>?_
    obtain⟨d,f,P,w,A,Fn,s,z,G,l⟩:=F.ke j _ B;obtain⟨g1,u⟩:=F.gl n;rw[yJ a]at z;have t:w.length=es.length:=by rw[A];exact yJ i
    cases es with
    |nil=>cases h;exact BE (Hl _ Fn) s g1 z G l t u
    |cons Q o =>
     refine dk c fun c O=>?_
     exact EJ (Hl _ Fn) s g1 z G l (gA R F h) (fun L K J v e=>by rw[t];exact m6 F.ck h _ _ _ _ e) u (ay c) (i9 O)
   ·exact lu a
 ·unfold Bn at h
  split at h
  ·rename_i b l
   refine aH F.ck h fun i h=>lF i fun a n D=>cp h fun I g=>?_
   cases es with
   |nil=>exact lu n
   |cons e es =>
    obtain rfl:x=b.nm:=(show ∀ q ∈ Jl,q.1=q.2.nm by decide) _ (sN l);exact Lu F b a (gA R F g) D
  ·exact D0 R F h
theorem F3{x:Í}{es:List Ï}{kws:List ŋ}{p K:Ĝ}{m:Ex}(h:trK r C x es kws=À m):QE X (.Call (.Name x p) es kws K) (ev ks m):=by
 unfold trK at h;split at h
 rotate_left
 ·exact bv h
 split at h
 ·refine aH F.ck h fun u h=>sj u fun t o n b=>dk b fun b l=>cp h fun y g=>?_
  obtain⟨a,q,rfl⟩:=Dz n;rw[yJ t,yJ o];exact EG F.calm (F.gl b).1 (F.blt dC) (R.E F g) (ay l)
 ·rename_i a y ps D sc B p1 z d p2
  refine aH F.ck h fun u h=>sj u fun t o n b=>sj b fun b l U k=>dk k fun k S=>ie h fun y L h=>ie h fun w M h=>aH F.ck h fun Q h=>?_
  cases h;obtain⟨a,q,rfl⟩:=Dz b;rw[yJ t,yJ o,yJ n];obtain⟨q,N,i⟩:=ū.mp k;have v:q=B:=by
   refine sj i fun J I G E=>?_
   cases q;cases B;cases yJ J;cases yJ I;cases yJ G;cases yJ E;rfl
  subst v;obtain⟨A,c,P,g1,Z,Y,W,V⟩:=F.la q N;obtain⟨x,T,O,j,e,FL⟩:=F.lam A S;exact EE F.calm (F.gl l).1 (F.blt dC) (R.E F L) (ay U) e g1 Z Y W T O j A.in1.depth (kP Q) (fun cl f c' s H=>R.E (FL cl f _ _ s H) M) V
 ·exact bv h
theorem F1{o:Ï}{f:Í}{z p:Ĝ}{es:List Ï}{m:Ex}(h:F2 r C o f z es p=À m):QE X (.Call (.Attribute o f z) es [] p) (ev ks m):=by
 refine aH F.ck h fun L h=>sj L fun g K u t=>?_
 have c:es.length<30:=zJ (ĵ _) (zS K);split at h
 ·rename_i j _
  refine ie h fun q _ h=>aH F.ck h fun l h=>?_
  revert h;intro h
  refine bY h fun a N i b=>?_
  unfold L4 at l;split at l
  ·rename_i V D k I
   refine lF l fun a1 a2 O=>?_
   obtain⟨d,U,T,B,W,H,Fn,w,s,cl,n,y⟩:=F.ke j _ I;rw[yJ a1]at s;rw[yJ a2]at n;have x:B.length=es.length+1:=by rw[H];exact yJ O
   cases es with
   |nil=>cases b;exact BD (R.E F i) cl s n Fn w y x (vW u g c t)
   |cons M v =>
    have E:=vW (env:=X.env) (f:=f) (o:=o) (es:=M::v) u g c t;refine dk g fun g J=>?_
    exact EH (R.E F i) cl s n Fn w y (gA R F b) (fun S Q P A e=>by rw[x,m6 F.ck b _ _ _ _ e]) (ay g) (i9 J) E
  ·exact lu l
 ·refine ie h fun q G h=>bY h fun a N i b=>?_
  have e:f=(miA q es).nm:=by
   have e:=(show ∀ q ∈ HV,q.1=q.2.nm by decide) _ (sN G);dsimp only at e;rw [e];cases q <;> first | rfl | (cases es <;> rfl)
  subst e;exact Kv F _ (R.E F i) (gA R F b) (fun e=>by subst e;cases b;rfl) g c u t
theorem DZ{a:Ï}{l h s:Option Ï}{p q:Ĝ}{m:Ex}(e:trSl r C a l h s p=À m):QE X (.Subscript a (.Slice l h s q) p) (ev ks m):=by
 cases s with
 |none =>
  unfold trSl at e;split at e
  ·exact jy e fun x y z c b hz=>G4 (R.E F c) (oX R F b) (oX R F hz)
  exact jy e fun x y z c b hz=>ic (J1 (R.E F c) (oX R F b) (oX R F hz))
 |some s =>
  refine aH F.ck e fun i g=>dk i fun f d=>?_
  cases l with
  |some _=>exact lu f
  |none=>cases h with
   |some _=>exact lu d
   |none=>exact bY g fun x y c b=>ic (GR (R.E F c) (R.E F b))
theorem F6{e:Ï}{m:Ex}(h:trE r C e=À m):QE X e (ev ks m):=by
 cases e with
 |Constant k a p=>cases k with
  |none=>cases h;exact tK (w:=.non) rfl Hw fun _ _ _ h=>h
  |bool b=>cases h;exact tK rfl Ks fun _ _ _ h=>h
  |int b=>cases h;exact tK rfl Hx fun _ _ _ h=>h
  |str b=>cases h;exact tK rfl Ht fun _ _ _ h=>h
  |_=>exact bv h
 |Name x p=>exact FY F h
 |BinOp a o b p =>
  unfold trE at h;split at h
  ·refine aH F.ck h fun j g=>?_
   cases of_decide_eq_true j;exact bY g fun x y d n=>ic (GW (R.E F d) (R.E F n))
  ·split at h
   ·rename_i u B
    obtain⟨q,rfl⟩:=Ih B;refine aH F.ck h fun j g=>?_
    cases of_decide_eq_true j;exact bY g fun x y d n=>ic (GS (gA R F d) (R.E F n))
   ·exact bY h fun x y d n=>G9 (R.E F d) (R.E F n)
 |Compare a os bs p =>
  have h:trCe r C a os bs=À m:=h;rcases os with _|⟨o,_|⟨M,_|_⟩⟩
  ·exact bv h
  ·rcases bs with _|⟨b,_|_⟩<;>first|exact bv h|exact aH F.ck h fun j h=>bY h fun x y d n=>G8 F.hu (R.E F d) (R.E F n) j
  ·exact bv h
  ·exact bv h
 |UnaryOp o a p=>cases o with
  |Not=>exact cp h fun x d=>G5 (R.E F d)
  |_=>exact cp h fun x d=>J8 (R.E F d)
 |BoolOp o u p=>cases u with
  |nil=>exact bv h
  |cons x u=>exact qy R F h
 |IfExp t a b p=>exact jy h fun x y z d n hz=>Kc (R.T F d) (R.E F n) (R.E F hz)
 |Subscript a i p=>cases i with
  |Slice l h' s q=>exact DZ R F h
  |_=>exact aH F.ck h fun j h=>bY h fun x y d n=>Kb F.hu (R.E F d) (R.E F n) (KI j)
 |Tuple u k p=>exact cp h fun x d=>G3 (gA R F d)
 |List u p=>exact cp h fun x d=>ic (Ez (gA R F d))
 |ListComp elt gens sc p =>
  refine cp h fun x d=>?_
  obtain⟨t,it,N,i,g,c,y,O,rfl,rfl,T,a1,a2,L,K,J,I⟩:=yr R F d;exact ic (Da F.calm T a1 a2 L K J I)
 |Dict k v p =>
  refine aH F.ck h fun j g=>dk j fun H G=>?_
  cases g;cases ç.mp H;cases ç.mp G;exact EI BV
 |Attribute o f p =>
  refine ie h fun c D h=>aH F.ck h fun j h=>cp h fun x d=>?_
  obtain⟨P,E,cl,A⟩:=F.clb D;exact G7 (R.E F d) cl E A (gx _ j)
 |Call f u kws p=>cases f with
  |Name x q=>cases kws with
   |nil=>exact F5 R F h
   |cons _ _=>exact F3 R F h
  |Attribute o f q =>
   refine aH F.ck h fun j g=>?_
   cases ç.mp j;exact F1 R F g
  |_=>exact bv h
 |_=>exact bv h
theorem FZ{e:Ï}{m:Tx}(h:trT r C e=À m):QT X e (tv ks m):=by
 cases e with
 |UnaryOp o a p=>cases o with
  |Not=>exact cp h fun x c=>GM (R.T F c)
  |_=>exact cp h fun x c=>zj (R.E F c) (vC rfl)
 |BoolOp o f p=>cases f with
  |nil=>exact bv h
  |cons x f=>exact PW.pt (qx R F h)
 |Compare a os bs p =>
  have h:trCt r C a os bs=À m:=h;rcases os with _|⟨o,_|⟨i,_|_⟩⟩
  ·exact bv h
  ·rcases bs with _|⟨b,_|_⟩<;>first|exact bv h|exact aH F.ck h fun d h=>bY h fun x y c g=>GN F.hu (R.E F c) (R.E F g) d
  ·exact bv h
  ·exact bv h
 |_=>exact aH F.ck h fun d h=>cp h fun x c=>zj (R.E F c) (vC d)
omit R in
theorem xp{x:Í}{m:Tg}(h:qw C x=À m):∃k,m=.nm k/\X.N[k]?=À x/\L2.Loc X.env.scope x/\(X.fn x=Â\/X.env.scope.names.lookup x=À .local):=by
 refine ie h fun k c h=>aH F.ck h fun e h=>dk e fun d _=>?_
 cases h;obtain⟨b,a⟩:=F.loc d;exact⟨k,rfl,F.nmb c,b,a⟩
theorem F4{e:Ï}{m:Tg}(h:trG r C e=À m):QG X e (cj ks m):=by
 have i:X.N.Nodup:=by rw[F.N];exact F.nd
 cases e with
 |Name x p =>
  obtain⟨k,rfl,a,b,c⟩:=xp F h;exact ED i a b c
 |Tuple es k p=>exact aH F.ck h fun f h=>cp h fun x d=>G0 F.calm (vD R F d) Cu (Cv f)
 |Subscript a b p=>exact aH F.ck h fun f h=>bY h fun x y d g=>G1 F.hu (R.E F d) (R.E F g) (Gp f)
 |_=>exact bv h
end
theorem yz{env:U3}{e o i:Ï}{p:Ĝ}{l:Nat}:Ϭ [.Subscript o i p] e l env=pure Ä:=by cases e<;>rfl
theorem yy{env:U3}{e:Ï}{es:List Ï}{k:Nat}{p:Ĝ}{l:Nat}:Ϭ [.Tuple es k p] e l env=pure Ä:=by cases e<;>rfl
section
variable[Pz]{ks:List Fn}{r:Tr}(R:CL r ks){X:Cx}{C:SC}(F:Fit X C ks)
include R F
theorem Ea{t v:Ï}{p:Ĝ}{m:Sx}(h:trAs r C t v=À m):QS X (.Assign [t] v p) (cZ ks m):=by
 have z:X.N.Nodup:=by rw[F.N];exact F.nd
 have nm:∀{x q v m},pq v=Â->m2 Sx.as (r.E C v) (qw C x)=À m->QS X (.Assign [.Name x q] v p) (cZ ks m):=fun j h=>bY h fun a g s e=>by
  obtain⟨k,rfl,a1,a2,u⟩:=xp F e;exact zl z a1 a2 (R.E F s) (vG j) u
 cases t with
 |Name x q=>cases v with
  |ListComp elt gens sc q2 =>
   refine bY h fun a g s e=>?_
   clear h;obtain⟨k,rfl,D,B,A⟩:=xp F e;refine cp s fun y J=>?_
   obtain⟨t,it,N,i,g,c,y,P,rfl,rfl,T,a1,a2,u,H,G,E⟩:=yr R F J;have d:=Gk (env:=X.env) (elt:=elt) (gens:=[⟨t,it,N,0⟩]) (sc:=sc) (pos:=q2) (t:=x) (p:=q) (l:=p.line) F.kind;cases n:LN X.env.scope.names x q.line sc q2.line with
   |false=>rw[n]at d;exact zl z D B (ic (Da F.calm T a1 a2 u H G E)) d A
   |true=>rw[n]at d;exact zk z D B d F.calm T a1 a2 u H G E A
  |_=>exact aH F.ck h fun j h=>nm j h
 |Subscript a b q=>exact bY h fun x g w e=>zm (R.E F w) (R.G F e) yz Bt (wy rfl)
 |Tuple ts k q=>cases v with
  |_=>exact aH F.ck h fun j h=>dk j fun j O=>bY h fun x g w e=>zm (R.E F w) (R.G F e) yy (Bs j) (wy rfl)
 |Attribute o f q =>
  refine ie h fun c K h=>bY h fun a b s L=>?_
  obtain⟨Q,M,cl,I⟩:=F.clb K;exact GQ (R.E F s) (R.E F L) cl M I Bp
 |_=>exact bv h
theorem F0{s:ľ}{m:Sx}(h:trS r C s=À m):QS X s (cZ ks m):=by
 cases s with
 |Expr e p=>exact aH F.ck h fun f h=>cp h fun x c=>Es (R.E F c) (vG f)
 |Assign ts v p =>
  rcases ts with _|⟨t,_|_⟩
  ·exact bv h
  ·exact Ea R F h
  ·exact bv h
 |AugAssign t o v p=>cases t with
  |Subscript a b q=>exact aH F.ck h fun f h=>jy h fun x y z c d hz=>Eu F.hu (R.E F c) (R.E F d) (R.E F hz) (Jp f)
  |_=>exact bv h
 |Return e p=>cases e with
  | none=>first | exact bv h | (cases h;exact qs_retN)
  |some e=>exact cp h fun x c=>GO (R.E F c)
 |If t a b p=>exact jy h fun x y z c d hz=>JZ (R.T F c) (i8 R F d) (i8 R F hz)
 |For t it b els p =>
  refine aH F.ck h fun f g=>dk f fun j i=>?_
  cases ç.mp j;split at g
  ·exact jy g fun x y z c d hz=>Er F.po F.calm (R.E F c) (R.G F d) (i8 R F hz) (tD i)
  exact jy g fun x y z c d hz=>GP F.po F.calm (yt R F c) (R.G F d) (i8 R F hz) (tD i)
 |While t b els p =>
  refine aH F.ck h fun f g=>?_
  cases ç.mp f;exact bY g fun x y c d=>BB F.po (R.T F c) (i8 R F d)
 |Raise=>cases h;exact Et
 |_=>exact bv h
end
theorem oW[Pz]{ks:List Fn}:∀n:Nat,CL (tr n) ks
 |0=>⟨fun _ h=>bv h,fun _ h=>bv h,fun _ h=>bv h,fun _ h=>bv h⟩
 |n+1=>⟨fun F h=>F6 (oW n) F h,fun F h=>FZ (oW n) F h,fun F h=>F4 (oW n) F h,fun F h=>F0 (oW n) F h⟩
section
variable(P:Ò)(w:Ù)(K:Ü)(mg:Í->Option Å)(base:æ)
def OJ[Pz](d:Nat)(x:Í)(n:Nat)(fn:Fn):Prop:=∃f b a,a.length=n/\FnOk P w K mg base fE d f b a (dY ⟨K,mg⟩ a.length fn)/\mg x=À (.ref f)/\ĺ K (.ref f)=Â/\Binds K b a []
def Ou[Pz](d:Nat)(c m:Í)(n:Nat)(fn:Fn):Prop:=∃f b a C,a.length=n/\FnOk P w K mg base fE d f b a (dY ⟨K,mg⟩ a.length fn)/\mg c=À (.ref C)/\Cls K C/\ld K C m f/\Binds K b a []
def Ot[Pz](d:Nat)(c:Í)(n:Nat)(fn:Fn):Prop:=∃f b a C,a.length=n/\FnOk P w K mg base fE d f b a (dY ⟨K,mg⟩ a.length fn)/\mg c=À (.ref C)/\Mk K C f/\Binds K b a []
def KOk[Pz](d:Nat)(fn:Fn):Ke->Prop
 |.f x n=>OJ P w K mg base d x n fn
 |.m c m n=>Ou P w K mg base d c m n fn
 |.k c n=>Ot P w K mg base d c n fn
def KsOk[Pz](d:Nat):List Ke->List Fn->Prop
 |[],_=>True
 |k::ke,fn::ks=>KOk P w K mg base d fn k/\KsOk d ke ks
 |_::_,[]=>False
structure Ev(gs:List (Í×AV))(cl:List (Í×List Í)):Prop where
 bl:∀x∈bnames,mg x=Á
 gs:∀p∈gs,∀w,rk p.2=À w->∃u,mg p.1=À u/\RelV w u
 cl:∀p∈cl,∃Ca,mg p.1=À (.ref Ca)/\Cls K Ca/\∀f∈p.2,NoAttr K Ca f
end
section
variable{P:Ò}{w:Ù}{K:Ü}{mg:Í->Option Å}{base:æ}{d d':Nat}{fn:Fn}
theorem KOk.mono[Pz](h:d<=d'):∀{k:Ke},KOk P w K mg base d fn k->KOk P w K mg base d' fn k
 |.f _ _,⟨f,fd,ps,e,F,r⟩=>⟨f,fd,ps,e,F.mono h,r⟩
 |.m _ _ _,⟨f,fd,ps,C,e,F,r⟩=>⟨f,fd,ps,C,e,F.mono h,r⟩
 |.k _ _,⟨f,fd,ps,C,e,F,r⟩=>⟨f,fd,ps,C,e,F.mono h,r⟩
theorem KsOk.at[Pz]:∀{ke:List Ke}{ks:List Fn}{j:Nat}{k:Ke},KsOk P w K mg base d ke ks->ke[j]?=À k->KOk P w K mg base d (kf ks j) k
 |[],_,_,_,_,e=>by simp at e
 |k::ke,[],_,_,h,_=>h.elim
 |k::ke,fn::ks,0,_,h,e=>by simp at e;subst e;exact h.1
 |k::ke,fn::ks,j+1,_,h,e=>by
  have:=KsOk.at (j:=j) h.2 (by simpa using e)
  exact this
theorem KOk.ok[Pz](hr:Room (d+1) A):∀{k:Ke},KOk P w K mg base d fn k->JA P w K mg base A fn k
 |.f _ _,⟨f,fd,ps,e,F,m,kp,b⟩=>⟨d,f,fd,ps,e,F,hr.mono (a! d),m,kp,b⟩
 |.m _ _ _,⟨f,fd,ps,C,e,F,m,c,me,b⟩=>⟨d,f,fd,ps,C,e,F,hr.mono (a! d),m,c,me,b⟩
 |.k _ _,⟨f,fd,ps,C,e,F,m,mk,b⟩=>⟨d,f,fd,ps,C,e,F,hr,m,mk,b⟩
end
def fX(st:ľ):List Í:=(cP st).args.map (·.arg)
noncomputable def IU(N ps:List Í)(sc:Ġ):Bool:=(match sc.kind with|.function=>Â|_=>Ä)&&!sc.isCoroutine&&!sc.isGenerator&&decide N.Nodup&&decide (N.take ps.length=ps) &&
 (ps.all fun x=>match sc.names.lookup x with|some .local=>Â|some .cell=>Â|_=>Ä)&&(sc.names.all fun p=>match p.2 with|.free=>Ä|_=>Â)
theorem IT(h:IU N ps sc=Â):nD N ps sc:=by
 unfold IU at h;simp only[zC,yB]at h;obtain⟨⟨⟨⟨⟨⟨a,k⟩,j⟩,i⟩,g⟩,f⟩,d⟩:=h;refine⟨?_,by simpa using k,by simpa using j,i,g,fun x c=>?_,fun y b e=>?_⟩
 ·split at a
  ·rename_i e;exact e
  ·cases a
 ·have:=yQ.mp f x c
  split at this
  ·rename_i e;exact .inl e
  ·rename_i e;exact .inr e
  ·cases this
 ·have:=yQ.mp d y b
  rw[e]at this;cases this
structure FH where
 ke:Ke
 qual:Í
 st:ľ
 N:List Í
 cs:List Nat
 d:Nat
 la:List Ĝ
 cn:List Í
 hs:List Nat
def FH.tr(e:FH)(k:Bool)(ke:List Ke)(gs:List (Í×AV))(cl:List (Í×List Í)):Option PP :=
 gu k (IU e.N (fX e.st) (bM e.st)&&plainA (cP e.st)&&decide (fX e.st).Nodup) (oY (R.tr 60) ⟨e.N,vw k (bM e.st).names,e.N,ke,gs,cl,e.la,e.cn,e.hs,k⟩ (cO e.st))
section
variable{P:Ò}{w:Ù}{K:Ü}{mg:Í->Option Å}{base:æ}{d:Nat}{x qual:Í}{st:ľ}{f:Ç}{fd:Ē}{N:List Í}{ke:List Ke}{ks:List Fn}{gs:List (Í×AV)}{cl:List (Í×List Í)}{la:List Ĝ}{b:PP}
theorem K7[Pz]{N ps:List Í}{k:Nat}{b:SF}(F:Fun K x qual st f fd)(S:nD N ps (bM st))
  (c:∀(A:Ć)(outer:List U3)(s:È)(H:Hp)(E:XK),Room k (A.deeper (ϴ qual (bM st) s.heap.objs.size f fd.code))->oj (qR fE P w K mg base N qual (bM st) f fd.code A outer s H E).nox (cO st) b) :
  FnOk P w K mg base fE (k+1) f fd ps (dY ⟨K,mg⟩ ps.length (run N.length b)):=by
 obtain⟨O,M,kV,J,pm,T,L,ct,C,rfl,lk,i⟩:=F.ex;refine K6 lk i S (fun u H Q E h=>h.1) fun A outer s H u Q E D h=>?_
 obtain⟨R,P,p,n,st,r,z,k⟩:=h;have G:=c A outer s H E D;refine⟨_,PSs.nox G,?_⟩;obtain⟨v,y,e,q⟩:=k;obtain⟨o,I,d⟩:=zA e;refine⟨P,p,_,st,Ei r,z,o,I,?_⟩;cases o with
 |nx sl st1=>cases d;exact fun l a m t j g _=>q l a m .non j g (by simp only[RA])
 |rt v st1=>cases d;exact fun l a m w j g B=>q l a m w j g B
 |bk sl st1=>cases d
 |ct sl st1=>cases d
def vh[Pz](mg:Í->Option Å)(base:æ)(qual:Í)(cd:Å)(la:List Ĝ):Prop:=∀p∈la,∃c P,cd=.ref c/\X? base c P/\jU mg base/\(P,p,qual++".<locals>."++"<lambda>")∈Pz.tb/\∀t∈Pz.tb,t.1=P->t=(P,p,qual++".<locals>."++"<lambda>")
theorem pV[Pz]{e:FH}(F:Fun K x qual e.st f fd)(E:Ev K mg gs cl)(g:vh mg base qual fd.code e.la)(l:KsOk P w K mg base d ke ks)(h:e.tr Â ke gs cl=À b) :
  FnOk P w K mg base fE (d+3) f fd (fX e.st) (dY ⟨K,mg⟩ (fX e.st).length (run e.N.length (ae ks b)))/\Binds K fd (fX e.st) []:=by
 refine aH rfl h fun r m=>lF r fun q o n=>?_
 have S:=IT q;refine⟨K7 F S fun A c s H B a=>?_,F.binds fun kV t pm z u y v g=>bind_plain o rfl (of_decide_eq_true n) g⟩;exact i8 (oW _) ⟨rfl,rfl,rfl,S.nd,S.kind,rfl,fun _ _=>rfl,a.units,a.gd,E.bl,PassesOwn.never,fun j k e=>(l.at e).ok (a.mono oM),E.gs,E.cl,fun p i=>⟨a.mono oM,g p i⟩⟩ m
end
structure FE extends FH where
 b:PP
def FE.fn(e:FE)(fs:List Fn):Fn:=run e.N.length (ae (e.cs.map (kf fs)) e.b)
def FE.ok[Pz](e:FE)(K:Ü)(mg:Í->Option Å)(base:æ):Prop:=match e.ke with
 |.f x _=>∃f a,mg x=À (.ref f)/\Fun K x e.qual e.st f a/\vh mg base e.qual a.code e.la
 |.m c m _=>∃f a C,mg c=À (.ref C)/\Cls K C/\ld K C m f/\Fun K m e.qual e.st f a/\vh mg base e.qual a.code e.la
 |.k c _=>∃f a C,mg c=À (.ref C)/\Mk K C f/\Fun K "__init__" e.qual e.st f a/\vh mg base e.qual a.code e.la
noncomputable def Ke.n:Ke->Nat
 |.f _ n=>n
 |.m _ _ n=>n
 |.k _ n=>n
noncomputable def ue(pre:List FE)(j:Nat):Ke:=match pre[j]? with
 |some e=>e.ke
 |none=>.f "" 0
def FE.chk(gs:List (Í×AV))(cl:List (Í×List Í))(pre:List FE)(e:FE):Option PP :=
 gu Â (e.ke.n==(fX e.st).length&&e.cs.all (fun j=>match pre[j]? with|some g=>Û (g.d+3) e.d|none=>Ä)&&Û 3 e.d) (e.tr Â (e.cs.map (ue pre)) gs cl)
def p8(gs:List (Í×AV))(cl:List (Í×List Í)):List FE->List FE->List (Option PP)
 |_,[]=>[]
 |pre,e::r=>e.chk gs cl pre::p8 gs cl (pre++[e]) r
def jH:List Fn->List FE->List Fn
 |fs,[]=>fs
 |fs,e::r=>jH (fs++[e.fn fs]) r
section
variable{P:Ò}{w:Ù}{K:Ü}{mg:Í->Option Å}{base:æ}{gs:List (Í×AV)}{cl:List (Í×List Í)}
def sV[Pz](P:Ò)(w:Ù)(K:Ü)(mg:Í->Option Å)(base:æ)(pre:List FE)(fs:List Fn):Prop:=pre.length=fs.length/\∀(j:Nat) e,pre[j]?=À e->KOk P w K mg base e.d (kf fs j) e.ke
theorem xH[Pz]{d:Nat}(h:sV P w K mg base pre fs):∀cs:List Nat,(cs.all fun j=>match pre[j]? with|some g=>Û (g.d+3) (d+3)|none=>Ä)=Â->KsOk P w K mg base d (cs.map (ue pre)) (cs.map (kf fs))
 |[],_=>trivial
 |j::cs,hc=>by
  rw[ĩ,zC]at hc;refine⟨?_,xH h cs hc.2⟩;have h1:=hc.1;split at h1
  ·rename_i g a
   have:=h.2 j g a
   unfold ue;rw[a];exact this.mono (by have:=zS h1;lia)
  ·cases h1
theorem K8[Pz]{pre:List FE}{fs:List Fn}{e:FE}(E:Ev K mg gs cl)(h:sV P w K mg base pre fs)(k:e.ok K mg base)(r:e.chk gs cl pre=À e.b):KOk P w K mg base e.d (e.fn fs) e.ke:=by
 obtain⟨y,u,v,t⟩:(e.ke.n==(fX e.st).length)=Â/\(e.cs.all fun j=>match pre[j]? with|some g=>Û (g.d+3) e.d|none=>Ä)=Â/\Û 3 e.d=Â/\e.tr Â (e.cs.map (ue pre)) gs cl=À e.b:=aH rfl r fun z h=>lF z fun a b c=>⟨a,b,c,h⟩
 have i:=yJ y;obtain⟨d,hd⟩:∃d,e.d=d+3:=⟨e.d-3,by have:=zS v;lia⟩;rw[hd]at u ⊢;have q:=xH h e.cs u;unfold FE.fn;unfold FE.ok at k;split at k
 ·rename_i x n o
  obtain⟨f,l,m,F,L⟩:=k;obtain⟨a1,a2⟩:=pV (e:=e.toFH) F E L q t;rw[o]at i ⊢;exact⟨f,l,fX e.st,i.symm,a1,m,F.kp,a2⟩
 ·rename_i c m n o
  obtain⟨f,l,C,s,r,p,F,L⟩:=k;obtain⟨a1,a2⟩:=pV (e:=e.toFH) F E L q t;rw[o]at i ⊢;exact⟨f,l,fX e.st,C,i.symm,a1,s,r,p,a2⟩
 ·rename_i c n o
  obtain⟨f,l,C,s,p,F,L⟩:=k;obtain⟨a1,a2⟩:=pV (e:=e.toFH) F E L q t;rw[o]at i ⊢;exact⟨f,l,fX e.st,C,i.symm,a1,s,p,a2⟩
theorem Ar{j:Nat}(h:j<fs.length):kf (fs++[g]) j=kf fs j:=by
 unfold kf;rw[zD,zD,zN h]
theorem Fo:kf (fs++[g]) fs.length=g:=by
 unfold kf;rw[zD];simp
theorem vN[Pz](E:Ev K mg gs cl):∀(rest pre:List FE)(fs:List Fn),sV P w K mg base pre fs->(∀e∈rest,e.ok K mg base)->p8 gs cl pre rest=rest.map (fun e=>À e.b)->sV P w K mg base (pre++rest) (jH fs rest)
 |[],pre,fs,h,_,_=>by rw[ô];exact h
 |e::r,pre,fs,h,hf,hc=>by
  obtain⟨hc1,hc2⟩:=List.cons.inj hc;have c:=K8 E h (hf e z7) hc1
  have:=vN E r (pre++[e]) (fs++[e.fn fs]) ⟨by simp[h.1],fun j g a=>?_⟩ (fun g a=>hf g (zQ _ a)) hc2
  ·rw[yM]at this;exact this
  ·rcases yT j pre.length with b|b
   ·rw[zN b]at a
    rw[Ar (by rw[<- h.1];exact b)];exact h.2 j g a
   ·have d:j=pre.length:=by
     have:=(zB.mp a).1
     rw[zV]at this;simp at this;lia
    subst d;simp at a;subst a;rw[h.1,Fo];exact c
end
theorem KC[Pz]{K:Ü}{mg:Í->Option Å}{H:Hp}{a:Ç}{ns:List Int}{fn:Fn}{E:XK}(k:∃st,fn [.fz (ns.map .int)] []=À (.bl Â,st))(l:bJ K H a (ns.map V.int))(g:∀t∈Pz.tb,gz H t.1 t.2.1 t.2.2):dY ⟨K,mg⟩ 1 fn [.ref a] H (fun v _=>v=.bl Â) E:=by
 obtain ⟨st,e⟩:=k;refine ⟨rfl,fun c=>∃ b,Rd H c (.lst b),[],[.fz (ns.map .int)],[],aR ?_ aZ,Sim.nil (fun c h=>?_) (fun t i=>⟨g t i,fun d=>by obtain ⟨b,z⟩:=d;obtain ⟨n,e,_⟩:=g t i;rcases z with z | ⟨o,z⟩ <;> (rw [e] at z;cases z)⟩),.bl Â,st,e,fun p j m w f s r=>by simpa only [RA] using r⟩
 ·simp only[RA]
  refine⟨a,ns.map V.int,rfl,?_,PF.of_ints⟩;rcases l with h|h
  ·exact .inl ⟨⟨_,h⟩,h⟩
  ·exact .inr fun m=>.inr h
 ·obtain ⟨b,h | ⟨o,h⟩⟩:=h <;> (rw [h];exact fun z=>nomatch z)
end R
namespace L2
open PySem PySem.Spec PyProof.Rows
theorem Ap{P:Ò}{w:Ù}{K:Ü}{mg X:Í->Option Å}{CX:mN}{k:Nat}{fa a:Ç}{fd:Ē}{x:Í}{sp:Sp}{c:È}{vs:List Å}{ns:List Int}{tabs:List (Ç×Addr)}
  (KX:K.In c.heap) (B:c.heap.Ns Ð mg) (g:c.heap.Ns Ę X) (hbb:∀x:Í,x≠"__name__"->X x=á x) (J:c.heap.NoLimit) (hg:c.gens=#[])
  (D:∃D ob,mg "__builtins__"=À (.ref D)/\D≠Ę/\c.heap.get? D=À ob/\ob.cls=.type "module"/\ob.dict=À Ę/\ob.data=.plain)
  (p:TabsAt tabs c.heap) (hK0:noTabs K=Â)
  (E:c.heap.get? a=À { cls:=.type "list",data:=.seq vs.toArray }) (hi:ώ vs ns) (hl:ns.length<=Ë) (hr:Room k ϊ)
  (F:∀base:æ,K.In base->base.Ns Ð mg->jU mg base->FnOk P w K mg base CX k fa fd [x] sp) (C:∀(s:È)(u:Å),y! s fd ⟨[u],[]⟩ [(x,u)])
  (Y:∀H:Hp,(∀q∈tabs,H q.2=À (.tbl #[]))->bJ K H a (ns.map V.int)->sp [.ref a] H (fun v _=>v=.bl Â) fun _ _ _=>False)
  (hCX:∀H e s',CX [] H c (fun _ _ _=>False) e s'->False) :
  ň (model P w) ϊ (.call (.ref fa) ⟨[.ref a],[]⟩) (fun r s'=>r=.ok (.ret (.bool Â))/\OldK c.heap s'.heap/\s'.os=c.os/\ϐ s'.gens) c:=by
 have rv:=yf hi;have I:=hi.length;have y:∀H:Hp,bJ K H a (ns.map V.int)->HOk P w H c.heap->(∀b,H b=Á\/(b=a/\K.lookup a=Á/\∃o xs,H b=À (.frz o (.lst xs)))\/(∃q∈tabs,b=q.2/\H b=À (.tbl #[])))->(∀q∈tabs,H q.2=À (.tbl #[])) ->
   ň (model P w) ϊ (.call (.ref fa) ⟨[.ref a],[]⟩) (fun r s'=>r=.ok (.ret (.bool Â))/\OldK c.heap s'.heap/\s'.os=c.os/\ϐ s'.gens) c:=by
  intro H hS PJ R hTb;have gx:∀{b:Ç}{o:Y5},c.heap.get? b=À o->H b=Á->(jX c.heap H).get? b=À o:=fun e n=>Cm e n
  have none_of:∀{b:Ç}{o:Y5},c.heap.get? b=À o->o.cls≠.type "list"->o≠S8 #[]->H b=Á:=fun {b o} e n1 n2=>by
   rcases R b with z|⟨rfl,_⟩|⟨q,f,rfl,_⟩
   ·exact z
   ·rw[E]at e;cases e;exact absurd rfl n1
   ·rw[(p q f).2]at e;cases e;exact absurd rfl n2
  have j:∀{b:Ç}{o:Y5}{M:Array DictEntry}{N:Nat},c.heap.get? b=À o->o.data=.dict M N->H b=Á:=fun {b o M N} e d=>by
   rcases R b with z|⟨rfl,_⟩|⟨q,f,rfl,_⟩
   ·exact z
   ·rw[E]at e;cases e;cases d
   ·rw[(p q f).2]at e;cases e;cases d
  have l:∀{b:Ç}{m:Í->Option Å},c.heap.Ns b m->(jX c.heap H).Ns b m:=fun {b m} ⟨o,M,N,e,d,r⟩=>⟨o,M,N,gx e (j e d),d,r⟩
  have L:K.In (jX c.heap H):=fun b o e=>gx (KX b o e) (by
   rcases R b with z|⟨rfl,z,_⟩|⟨q,f,rfl,_⟩
   ·exact z
   ·rw[z]at e;cases e
   ·have O:=KX _ o e
    rw[(p q f).2]at O;cases O;have h2:=yQ.mp hK0 _ (mem_of_lookupK e);exact absurd (show Ä=Â from h2) ğ)
  have hM:Mod K mg (jX c.heap H):=⟨L,l B,⟨X,l g,hbb⟩,let⟨mc,h1,h2⟩:=J;⟨mc,l h1,h2⟩⟩;have hBM:jU mg (jX c.heap H):=by
   obtain⟨D,ob,b1,b2,T,S,b5,b6⟩:=D;refine⟨D,ob,b1,b2,fun z=>?_,gx T (none_of T (by rw[S];intro z;injection z with z;exact absurd z dC) (fun z=>by rw[z]at S;cases S)),S,b5,b6⟩;obtain⟨o,M,N,e,d,_⟩:=B;rw[z,e]at T;cases T;rw[d]at b6;cases b6
  have e0:Env0 P w K mg (jX c.heap H) ϊ [] c H:=⟨rfl,hM,fun b o e=>E8 e,ϩ (Az _ _),trivial,fun b g=>absurd (show b ∈ ([]:List Ç) from g) (by simp),PJ,.of_eq hg⟩;refine ś ((F _ L (l B) hBM).run ϊ [] c H ⟨[.ref a],[]⟩ [.ref a] [.ref a] _ _ hr e0 (C c (.ref a)) (.cons rfl .nil) (Y H hTb hS)) fun r s' h=>?_
  cases r with
  |error e=>exact(hCX H e s' h).elim
  |ok fl =>
   cases fl with
   |next=>exact False.elim h
   |brk=>exact False.elim h
   |cont=>exact False.elim h
   |ret u =>
    obtain⟨v,H',os,Q,un,t,r',q⟩:=h;have q':v=.bl Â:=q;subst q';obtain rfl:u=N? Â:=r';have W:∀b o,c.heap.get? b=À o->asItWas c.heap s'.heap b o:=fun b o e=>by
     rcases R b with z|⟨rfl,_,ob,xs,z⟩|⟨q,f,rfl,z⟩
     ·exact .inl (un.keep b o e z (by intro z;exact absurd (show b ∈ ([]:List Ç) from z) (by simp)) (by simp))
     ·have U:=un.frzs b ob _ z
      obtain⟨O,_⟩:=PJ b _ z;obtain⟨e2,_⟩:=t b _ U;rw[e]at O;cases O;exact .inl e2
     ·obtain⟨G,U⟩:=un.tbls _ _ z
      have e2:=t _ _ U;rw[(p q f).2]at e;cases e;exact .inr (.inl ⟨((p q f).1.tab (p q f).2).isCodeTable,rfl,#[],G,rfl,e2⟩)
    refine⟨rfl,⟨W,fun b o e=>?_⟩,os,Q⟩;exact un.there b o e (by simp)
 have A:∀q∈tabs,q.2≠a:=fun q f e=>by
  have:=(p q f).2
  rw[e,E]at this;cases this
 cases Z:K.lookup a with
 |some o =>
  have e:=KX a o Z;rw[E]at e;cases e;refine y (fun b=>if b∈tabs.map (·.2) then À (.tbl #[]) else Á) (.inr ⟨_,vs.toArray,_,Z,rfl,rfl,rfl,by rw[zI,I];exact hl,by simpa using rv⟩) (fun b u z=>?_) (fun b=>?_) fun q f=>yH (ϕ f)
  ·dsimp only at z
   by_cases g:b∈tabs.map (·.2)
   ·rw[yH g]at z;cases z
    obtain⟨q,f,rfl⟩:=yC.mp g;exact(p q f).2
   ·rw[yG g]at z;cases z
  ·by_cases g:b∈tabs.map (·.2)
   ·obtain⟨q,f,rfl⟩:=yC.mp g
    exact .inr (.inr ⟨q,f,rfl,yH g⟩)
   ·exact .inl (yG g)
 |none =>
  refine y (fun b=>if b∈tabs.map (·.2) then À (.tbl #[]) else if b=a then À (.frz { cls:=.type "list",data:=.seq vs.toArray } (.lst (ns.map V.int))) else Á) (.inl (.inr ⟨{ cls:=.type "list",data:=.seq vs.toArray },?_⟩)) (fun b u z=>?_) (fun b=>?_) fun q f=>yH (ϕ f)
  ·dsimp only
   rw[yG (fun z=>by obtain⟨q,f,e⟩:=yC.mp z;exact A q f e),yH rfl]
  ·dsimp only at z
   by_cases g:b∈tabs.map (·.2)
   ·rw[yH g]at z;cases z
    obtain⟨q,f,rfl⟩:=yC.mp g;exact(p q f).2
   ·rw[yG g]at z
    by_cases i:b=a
    ·rw[yH i]at z;cases z
     subst i;exact⟨E,by rw[zH];exact hl,vs,_,rv,E⟩
    ·rw[yG i]at z;cases z
  ·by_cases g:b∈tabs.map (·.2)
   ·obtain⟨q,f,rfl⟩:=yC.mp g
    exact .inr (.inr ⟨q,f,rfl,yH g⟩)
   ·by_cases i:b=a
    ·exact .inr (.inl ⟨i,Z,_,_,(yG g).trans (yH i)⟩)
    ·exact .inl ((yG g).trans (yG i))
theorem FQ{l:Q8}{n k:Nat}{q:Ò}{b8:List Í}{T:(Í->Option Å)->æ->Prop}{D:Ù->æ->Prop}{d:DefRec}{K:Params->Ü}{sp:Ù->Sp}{x:Í}{tabs:List (Ç×Addr)}
  (I:l.most=À n) (j:n<=Ë) (p:d.params.defaults=[]) (E:Room k ϊ)
  (O:∀(w:Ù)(h:æ),D w h->(K w.params).In h/\∀q∈tabs,h.get? q.2=À (S8 #[])) (M:∀(w:Ù),∀q∈tabs,codeHdIn (K w.params) q.1 q.2=Â) (t:∀(w:Ù),noTabs (K w.params)=Â)
  (F:∀(w:Ù)(mg:Í->Option Å)(fa:Ç)(h:æ),(K w.params).In h->h.Ns Ð mg->mg d.name=À (.ref fa) ->
   ∃fd:Ē,(∀(s:È)(u:Å),y! s fd ⟨[u],[]⟩ [(x,u)]) /\
    ∀base:æ,(K w.params).In base->base.Ns Ð mg->jU mg base->FnOk l.prog w (K w.params) mg base fE k fa fd [x] (sp w))
  (i:∀(w:Ù)(H:Hp)(a:Ç)(ns:List Int),ns.length<=n->(∀q∈tabs,H q.2=À (.tbl #[]))->bJ (K w.params) H a (ns.map V.int)->sp w [.ref a] H (fun v _=>v=.bl Â) fun _ _ _=>False) :
  T9 q b8 T D l.row.toRowW d [] (fun f vs=>O! f vs):=by
 refine Att.attach_call I p fun w B A mg W fa o pm Z S a vs ns G Y X hd L m g c b J=>?_
 obtain⟨y,r⟩:=O w _ Y;obtain⟨fd,N,R⟩:=F w mg fa _ y G.T.g m;exact Ap (tabs:=tabs) y G.T.g G.T.b G.T.builtins G.T.nolimit J G.T.bmain (fun q C=>⟨codeHd_of_K y (M w q C),r q C⟩) (t w) g c (z5 b j) E R N (fun H Q P=>i w H a ns b Q P) fun H e U z=>z
end L2
namespace R
open PySem PySem.Spec PyProof.Rows L2
abbrev sA[Pz](K:Ü)(qual:Í)(cd:Å)(la:List Ĝ):Prop:=la=[]\/∃p c P,la=[p]/\cd=.ref c/\codeHdIn K c P=Â/\Pz.tb=[(P,p,qual++".<locals>."++"<lambda>")]
abbrev FactF[Pz](K:Ü)(x:Í)(e:FE):Prop:=∃(f:Ç)(d:Å)(c:Option Ç)(b:Array (Option Å))(kV g pm:Å)(i:Option Ç)(a h:Å),nsIn K Ð x=À (À (.ref f)) /\
 K.lookup f=À ⟨d,c,.func (fnOf x e.qual (cP e.st) (cO e.st) (bM e.st) .none kV g pm i a h),b⟩/\ϝ K a e.qual=Â/\ĺ K (.ref f)=Â/\sA K e.qual a e.la
abbrev FactM[Pz](K:Ü)(c m:Í)(e:FE):Prop:=∃(C f:Ç)(g:Å)(d:Option Ç)(b:Array (Option Å))(kV h pm:Å)(j:Option Ç)(a i:Å),nsIn K Ð c=À (À (.ref C))/\ő K (.ref C) m=À (À (.ref f)) /\
 K.lookup f=À ⟨g,d,.func (fnOf m e.qual (cP e.st) (cO e.st) (bM e.st) .none kV h pm j a i),b⟩/\ϝ K a e.qual=Â/\ĺ K (.ref f)=Â/\isFn K (.ref f)=Â/\sA K e.qual a e.la
section
variable[Pz]{K:Ü}{C f:Ç}{oc:Å}{od:Option Ç}{sl:Array (Option Å)}{kV dc pm:Å}{an:Option Ç}{cd ct:Å}{x:Í}{e:FE}
theorem ff(a:nsIn K Ð x=À (À (.ref f)))(l:K.lookup f=À ⟨oc,od,.func (fnOf x e.qual (cP e.st) (cO e.st) (bM e.st) .none kV dc pm an cd ct),sl⟩)(c:ϝ K cd e.qual=Â)(k:ĺ K (.ref f)=Â)(L:sA K e.qual cd e.la):FactF K x e:=⟨_,_,_,_,_,_,_,_,_,_,a,l,c,k,L⟩
theorem fm(a:nsIn K Ð x=À (À (.ref C)))(b:ő K (.ref C) m=À (À (.ref f)))(l:K.lookup f=À ⟨oc,od,.func (fnOf m e.qual (cP e.st) (cO e.st) (bM e.st) .none kV dc pm an cd ct),sl⟩)(c:ϝ K cd e.qual=Â)(k:ĺ K (.ref f)=Â)(i:isFn K (.ref f)=Â)(L:sA K e.qual cd e.la):FactM K x m e:=⟨_,_,_,_,_,_,_,_,_,_,_,a,b,l,c,k,i,L⟩
end
abbrev FactN(K:Ü)(c:Í):Prop:=∃C:Ç,nsIn K Ð c=À (À (.ref C))/\X5 K C=Â/\ĺ K (.ref C)=Â
abbrev qj(K:Ü)(c:Í):Prop:=∃C:Ç,nsIn K Ð c=À (À (.ref C))/\A? K C Str.empty=Â/\Q5 K C=Â/\Y1 K C=Â/\ő K (.ref C) "__setattr__"=À (À (.builtin "object.__setattr__"))
abbrev x9(K:Ü)(c:Í)(fs:List Í):Prop:=∃C:Ç,nsIn K Ð c=À (À (.ref C))/\(fs.all fun f=>match ő K (.ref C) f with|some Á=>Â|_=>Ä)=Â
abbrev DM(K:Ü):Prop:=(bnames.all fun x=>match nsIn K Ð x with|some Á=>Â|_=>Ä)=Â
section
variable[Pz]{K:Ü}{h base:æ}{mg:Í->Option Å}
theorem sO(B:K.In base)(g:jU mg base)(L:sA K qual cd la):vh mg base qual cd la:=by
 intro p b;rcases L with rfl|⟨q,c,P,rfl,e,f,a⟩
 ·cases b
 ·rw[zM.mp b]
  exact⟨c,P,e,codeHd_of_K B f,g,by rw[a];simp,fun t d _=>by rw[a]at d;exact zM.mp d⟩
theorem FactF.ok{n:Nat}(b:e.ke=.f x n)(F:FactF K x e)(X:K.In h)(G:h.Ns Ð mg)(B:K.In base)(d:jU mg base):e.ok K mg base:=by
 obtain⟨f,j,i,g,kV,m,pm,q,p,o,a,l,c,k,L⟩:=F;unfold FE.ok;rw[b];exact⟨f,_,X4 X G a,pW l c k,sO B d L⟩
theorem AN(F:qj K c)(X:K.In h)(G:h.Ns Ð mg)(b:nsIn K Ð c=À (À (.ref C))):mg c=À (.ref C)/\Cls K C:=by
 obtain⟨i,a,g,f,e,d⟩:=F;rw[b]at a;cases a;exact⟨X4 X G b,⟨g,f,e,d⟩⟩
theorem FactM.ok{n:Nat}(d:e.ke=.m c m n)(F:FactM K c m e)(p:qj K c)(X:K.In h)(G:h.Ns Ð mg)(B:K.In base)(j:jU mg base):e.ok K mg base:=by
 obtain⟨C,f,s,r,q,kV,t,pm,w,v,u,a,g,l,o,k,i,L⟩:=F;unfold FE.ok;rw[d];obtain⟨b,m2⟩:=AN p X G a;exact⟨f,_,C,b,m2,⟨g,i,k⟩,pW l o k,sO B j L⟩
theorem FactN.ok{n:Nat}(j:e.ke=.k c n)(F:FactM K c "__init__" e)(N:FactN K c)(X:K.In h)(G:h.Ns Ð mg)(B:K.In base)(m:jU mg base):e.ok K mg base:=by
 obtain⟨C,f,r,q,p,kV,s,pm,v,u,t,a,g,l,o,k,i,L⟩:=F;obtain⟨w,b,d,m2⟩:=N;rw[a]at b;cases b;unfold FE.ok;rw[j];exact⟨f,_,C,X4 X G a,⟨d,g,i,m2⟩,pW l o k,sO B m L⟩
abbrev FactG(K:Ü)(p:Í×AV):Prop:=match p.2 with
 |.int i=>∃t,nsIn K Ð p.1=À (À (.int i t))
 |.str x=>∃t,nsIn K Ð p.1=À (À (.str x t))
 |_=>False
theorem FactG.ok(F:FactG K p)(X:K.In h)(G:h.Ns Ð mg):∀w,rk p.2=À w->∃u,mg p.1=À u/\RelV w u:=by
 obtain⟨x,c⟩:=p;intro w a;cases c with
 |int i=>obtain⟨t,e⟩:=F;cases a;exact⟨_,X4 X G e,t,rfl⟩
 |str y=>obtain⟨t,e⟩:=F;cases a;exact⟨_,X4 X G e,t,rfl⟩
 |_=>exact F.elim
theorem La(X:K.In h)(G:h.Ns Ð mg)(k:DM K)(g:∀p∈gs,FactG K p)(j:∀p∈cl,qj K p.1/\x9 K p.1 p.2):Ev K mg gs cl:=by
 refine⟨fun x d=>?_,fun p b=>(g p b).ok X G,fun p b=>?_⟩
 ·have:=yQ.mp k x d
  split at this
  ·rename_i e;exact mg_none_of X G e
  ·cases this
 ·obtain⟨l,C,a,fs⟩:=j p b
  obtain⟨c,m2⟩:=AN l X G a;refine⟨C,c,m2,fun f i=>?_⟩
  have:=yQ.mp fs f i
  split at this
  ·rename_i e;exact e
  ·cases this
end
abbrev iS[Pz](K:Ü)(e:FE):Prop:=match e.ke with
 |.f x _=>FactF K x e
 |.m c m _=>FactM K c m e
 |.k c _=>FactM K c "__init__" e/\FactN K c
section
variable[Pz]{K:Ü}{C f:Ç}{oc:Å}{od:Option Ç}{sl:Array (Option Å)}{kV dc pm:Å}{an:Option Ç}{cd ct:Å}{x m:Í}{n:Nat}{e:FE}
theorem fe_f(b:e.ke=.f x n)(a:nsIn K Ð x=À (À (.ref f)))(l:K.lookup f=À ⟨oc,od,.func (fnOf x e.qual (cP e.st) (cO e.st) (bM e.st) .none kV dc pm an cd ct),sl⟩)(c:ϝ K cd e.qual=Â)(k:ĺ K (.ref f)=Â)(L:sA K e.qual cd e.la):iS K e:=by unfold iS;rw[b];exact ff a l c k L
theorem fe_m(d:e.ke=.m x m n)(a:nsIn K Ð x=À (À (.ref C)))(b:ő K (.ref C) m=À (À (.ref f)))(l:K.lookup f=À ⟨oc,od,.func (fnOf m e.qual (cP e.st) (cO e.st) (bM e.st) .none kV dc pm an cd ct),sl⟩)(c:ϝ K cd e.qual=Â)(k:ĺ K (.ref f)=Â)(i:isFn K (.ref f)=Â)(L:sA K e.qual cd e.la):iS K e:=by unfold iS;rw[d];exact fm a b l c k i L
end
def kG[Pz](K:Ü):List FE->Prop
 |[]=>True
 |e::r=>iS K e/\kG K r
section
variable[Pz]{K:Ü}{C f:Ç}{oc:Å}{od:Option Ç}{sl:Array (Option Å)}{kV dc pm:Å}{an:Option Ç}{cd ct:Å}{x:Í}{n:Nat}{e:FE}{r:List FE}
theorem fe_k(g:e.ke=.k x n)(a:nsIn K Ð x=À (À (.ref C)))(b:ő K (.ref C) "__init__"=À (À (.ref f)))(l:K.lookup f=À ⟨oc,od,.func (fnOf "__init__" e.qual (cP e.st) (cO e.st) (bM e.st) .none kV dc pm an cd ct),sl⟩)(c:ϝ K cd e.qual=Â)(k:ĺ K (.ref f)=Â)(i:isFn K (.ref f)=Â)(L:sA K e.qual cd e.la)
  (d:X5 K C=Â) (m2:ĺ K (.ref C)=Â):iS K e:=by unfold iS;rw[g];exact⟨fm a b l c k i L,C,a,d,m2⟩
theorem fes_c(h:iS K e)(t:kG K r):kG K (e::r):=⟨h,t⟩
theorem fes_n:kG K []:=trivial
end
noncomputable def CB(cl:List (Í×List Í))(e:FE):Bool:=match e.ke with
 |.m c _ _=>decide (c∈cl.map (·.1))
 |_=>Â
theorem uy[Pz]{K:Ü}{h base:æ}{mg:Í->Option Å}(X:K.In h)(G:h.Ns Ð mg)(B:K.In base)(c:jU mg base)(f:∀p∈cl,qj K p.1/\x9 K p.1 p.2):∀{pre:List FE},pre.all (CB cl)=Â->kG K pre->∀e∈pre,e.ok K mg base
 |[],_,_,_,h=>nomatch h
 |a::r,hx,h,e,he=>by
  rw[ĩ,zC]at hx;rcases zT.mp he with rfl|he
  ·have h1:=h.1
   have d:=hx.1;unfold iS at h1;unfold CB at d;split at h1
   ·rename_i b;exact FactF.ok b h1 X G B c
   ·rename_i b
    rw[b]at d;obtain⟨p,g,i⟩:=yC.mp (of_decide_eq_true d);exact FactM.ok b h1 (by rw[<- i];exact(f p g).1) X G B c
   ·rename_i b;exact FactN.ok b h1.1 h1.2 X G B c
  ·exact uy X G B c f hx.2 h.2 e he
def DT:List Fn->List FE->List Fn->Prop
 |_,[],[]=>True
 |fs,e::r,F::Fs=>e.fn fs=F/\DT (fs++[F]) r Fs
 |_,_,_=>False
theorem AJ:∀{pre:List FE}{fs Fs:List Fn},DT fs pre Fs->jH fs pre=fs++Fs
 |[],fs,[],_=>(ô fs).symm
 |e::r,fs,F::Fs,h=>by
  show jH (fs++[e.fn fs]) r=_;rw[h.1,AJ h.2];simp
 |[],_,_::_,h=>h.elim
 |_::_,_,[],h=>h.elim
theorem law_F[Pz]{P:Ò}{w:Ù}{K:Ü}{h:æ}{mg:Í->Option Å}{J:Ç}{gs:List (Í×AV)}{cl:List (Í×List Í)}{pre:List FE}{e:FE}{fn:Fn}(X:K.In h)(G:h.Ns Ð mg)(y:mg "law"=À (.ref J))
  (W:DM K) (u:∀p∈gs,FactG K p) (C:∀p∈cl,qj K p.1/\x9 K p.1 p.2) (r:p8 gs cl [] pre=pre.map fun e=>À e.b) (z:e.chk gs cl pre=À e.b)
  (T:pre.all (CB cl)=Â) (n:kG K pre) (Y:FactF K "law" e) (i:fX e.st=[("_law_script":Í)]) (x:e.fn (jH [] pre)=fn) :
  ∃fd:Ē,(∀(s:È)(v:Å),y! s fd ⟨[v],[]⟩ [("_law_script",v)])/\∀base:æ,K.In base->base.Ns Ð mg->jU mg base ->
   FnOk P w K mg base fE e.d J fd ["_law_script"] (fun vs H Q E=>∀mg,dY ⟨K,mg⟩ 1 fn vs H Q E):=by
 have E:=La X G W u C;obtain⟨h2,D,Z,I⟩:(e.ke.n==(fX e.st).length)=Â/\(e.cs.all fun j=>match pre[j]? with|some g=>Û (g.d+3) e.d|none=>Ä)=Â/\Û 3 e.d=Â/\e.tr Â (e.cs.map (ue pre)) gs cl=À e.b:=aH rfl z fun A h=>lF A fun a b c=>⟨a,b,c,h⟩
 obtain⟨d,hd⟩:∃d,e.d=d+3:=⟨e.d-3,by have:=zS Z;lia⟩;rw[hd]at D ⊢;obtain⟨f,oc,od,sl,kV,M,pm,R,O,N,a,l,c,k,L⟩:=Y;have m:=X4 X G a;rw[y]at m;cases m;have F:=pW l c k;refine⟨fnOf "law" e.qual (cP e.st) (cO e.st) (bM e.st) .none kV M pm R O N,fun s v=>?_,fun base B _ t=>?_⟩
 ·have U:plainA (cP e.st)=Â:=aH rfl I fun A _=>lF A fun _ h _=>h
  refine .of_eq ?_
  have:=bind_plain (fd:=fnOf "law" e.qual (cP e.st) (cO e.st) (bM e.st) .none kV M pm R O N) (us:=[v]) U rfl (by show(fX e.st).Nodup;rw[i];simp) (by show _=(fX e.st).length;rw[i];rfl)
  rw[this];show pure ((fX e.st).zip [v])=_;rw[i];rfl
 ·have S:=vN (P:=P) (w:=w) E pre [] [] ⟨rfl,fun j g u=>by simp at u⟩ (uy X G B t C T n) r
  have V:=xH (d:=d) S e.cs D
  have:=(pV (e:=e.toFH) F E (sO B t L) V I).1
  rw[i]at this;have o:run e.N.length (ae (e.cs.map (kf (jH [] pre))) e.b)=fn:=x;rw[o]at this;exact this.imp fun vs H Q E q=>q mg
theorem walk_R[Pz]{l:Q8}{k:Nat}{q:Ò}{b8:List Í}{z:(Í->Option Å)->æ->Prop}{g:Ù->æ->Prop}{d:DefRec}{K:Params->Ü}{fn:Fn}{tabs:List (Ç×Addr)}
  (n:l.most=À 63) (b:d.params.defaults=[]) (j:Room k ϊ)
  (v:∀(w:Ù)(h:æ),g w h->(K w.params).In h/\∀q∈tabs,h.get? q.2=À (S8 #[])) (r:∀(w:Ù),∀q∈tabs,codeHdIn (K w.params) q.1 q.2=Â) (c:∀(w:Ù),noTabs (K w.params)=Â)
  (i:∀t∈Pz.tb,t.1∈tabs.map (·.2)) (p:∀ns:List Int,ns.length<=63->∃st,fn [.fz (ns.map .int)] []=À (.bl Â,st))
  (F:∀(w:Ù)(mg:Í->Option Å)(fa:Ç)(h:æ),(K w.params).In h->h.Ns Ð mg->mg d.name=À (.ref fa) ->
   ∃fd:Ē,(∀(s:È)(u:Å),y! s fd ⟨[u],[]⟩ [("_law_script",u)]) /\
    ∀base:æ,(K w.params).In base->base.Ns Ð mg->jU mg base->FnOk l.prog w (K w.params) mg base fE k fa fd ["_law_script"] (fun vs H Q E=>∀mg,dY ⟨K w.params,mg⟩ 1 fn vs H Q E)) :
  T9 q b8 z g l.row.toRowW d [] (fun f vs=>O! f vs) :=
 FQ (sp:=fun w vs H Q E=>∀mg,dY ⟨K w.params,mg⟩ 1 fn vs H Q E) n dC b j v r c F fun w H a ns o x y mg=>KC (p ns o) y fun t h=>by
  obtain⟨q,m,e⟩:=yC.mp (i t h);exact⟨#[],by rw[<- e];exact x q m,trivial,.inl rfl⟩
end R
namespace SX
noncomputable def PD:Nat->(Nat->Int)->Int
 |0,_=>0
 |n+1,f=>PD n f+f n
theorem sum_congr{n:Nat}{f g:Nat->Int}(h:∀i,i<n->f i=g i):PD n f=PD n g:=by
 induction n with
 |zero=>rfl
 |succ n a=>simp only[PD];rw[a fun i b=>h i oM,h n oM]
theorem sum_zero{n:Nat}{f:Nat->Int}(h:∀i,i<n->f i=0):PD n f=0:=by
 induction n with
 |zero=>rfl
 |succ n a=>simp only[PD];rw[a fun i b=>h i oM,h n oM];rfl
theorem sum_add(n:Nat)(f g:Nat->Int):PD n (fun i=>f i+g i)=PD n f+PD n g:=by
 induction n with
 |zero=>rfl
 |succ n a=>simp only[PD];rw[a];lia
theorem sum_mul(n:Nat)(c:Int)(f:Nat->Int):PD n (fun i=>c*f i)=c*PD n f:=by
 induction n with
 |zero=>simp[PD]
 |succ n a=>simp only[PD];rw[a,P9]
theorem sum_one{n k:Nat}{f:Nat->Int}(e:k<n)(h:∀i,i<n->i≠k->f i=0):PD n f=f k:=by
 induction n with
 |zero=>lia
 |succ n b =>
  simp only[PD];rcases yT k n with a|a
  ·rw[b a fun i c d=>h i oM d,h n oM oM];lia
  ·have:k=n:=by lia
   subst this;rw[sum_zero fun i c=>h i oM oM];lia
theorem vH{n k l:Nat}{f:Nat->Int}(d:k<n)(c:l<n)(a:k≠l)(h:∀i,i<n->i≠k->i≠l->f i=0):PD n f=f k+f l:=by
 have e:PD n f=PD n (fun i=>(if i=k then f i else 0)+if i=k then 0 else f i):=sum_congr fun i _=>by split<;>lia
 rw[e,sum_add,sum_one (k:=k) d fun i _ b=>yG b,sum_one (k:=l) c fun i g b=>?_]
 ·rw[yH rfl,yG (fun z=>a z.symm)]
 ·by_cases z:i=k
  ·exact yH z
  ·rw[yG z];exact h i g z b
theorem Bq(n m:Nat)(f:Nat->Nat->Int):PD n (fun i=>PD m (fun j=>f i j))=PD m (fun j=>PD n (fun i=>f i j)):=by
 induction n with
 |zero=>exact(sum_zero fun _ _=>rfl).symm
 |succ n a=>simp only[PD];rw[a,<- sum_add]
noncomputable def up(A:Nat->Nat->Int)(r:Nat)(u:Nat->Int):Nat->Nat->Int:=fun i=>if i=r then u else A i
theorem bW{A:Nat->Nat->Int}{r:Nat}{u:Nat->Int}:up A r u r=u:=yH rfl
theorem bo{A:Nat->Nat->Int}{r i:Nat}{u:Nat->Int}(h:i≠r):up A r u i=A i:=yG h
theorem gj{A:Nat->Nat->Int}{r:Nat}:up A r (A r)=A:=by
 funext i;by_cases h:i=r
 ·rw[h,bW]
 ·exact bo h
theorem iV{A:Nat->Nat->Int}{r q:Nat}{u v:Nat->Int}(h:r≠q):up (up A r u) q v=up (up A q v) r u:=by
 funext i;by_cases b:i=q
 ·subst b;rw[bW,bo (fun z=>h z.symm),bW]
 ·rw[bo b]
  by_cases a:i=r
  ·subst a;rw[bW,bW]
  ·rw[bo a,bo a,bo b]
noncomputable def skip(k i:Nat):Nat:=if i<k then i else i+1
noncomputable def j7(k r:Nat):Nat:=if r<k then r else r-1
noncomputable def sg(k:Nat):Int:=if k%2=0 then 1 else -1
theorem El(k:Nat):sg (k+1)=- sg k:=by unfold sg;split<;>split<;>lia
theorem Gx(k:Nat):(sg k).natAbs=1:=by unfold sg;split<;>rfl
def gM(A:Nat->Nat->Int)(k:Nat):Nat->Nat->Int:=fun i j=>A (skip k i) (j+1)
def bA:Nat->(Nat->Nat->Int)->Int
 |0,_=>1
 |n+1,A=>PD (n+1) fun k=>sg k*A k 0*bA n (gM A k)
theorem oG{A:Nat->Nat->Int}{k:Nat}{u:Nat->Int}:gM (up A k u) k=gM A k:=by
 funext i j;unfold gM;rw[bo];unfold skip;split<;>lia
theorem tU{A:Nat->Nat->Int}{k r:Nat}{u:Nat->Int}(h:r≠k):gM (up A r u) k=up (gM A k) (j7 k r) (fun j=>u (j+1)):=by
 funext i j;unfold gM;by_cases a:i=j7 k r
 ·have:skip k i=r:=by unfold skip;unfold j7 at a;split at a<;>split<;>lia
  rw[this,bW,a,bW]
 ·have:skip k i≠r:=by unfold skip;unfold j7 at a;split at a<;>split<;>lia
  rw[bo this,bo a]
theorem dL:∀{n:Nat}{A B:Nat->Nat->Int},(∀i j,i<n->j<n->A i j=B i j)->bA n A=bA n B
 |0,_,_,_=>rfl
 |n+1,A,B,h=>sum_congr fun k hk=>by
  rw[h k 0 hk oM,dL (A:=gM A k) (B:=gM B k) fun i j hi hj=>h _ _ (by unfold skip;split<;>lia) oM]
theorem gZ:∀{n:Nat}{A:Nat->Nat->Int}{r:Nat}{a b:Int}{u v:Nat->Int},r<n->bA n (up A r fun j=>a*u j+b*v j)=a*bA n (up A r u)+b*bA n (up A r v)
 |0,_,_,_,_,_,_,h=>by lia
 |n+1,A,r,a,b,u,v,h=>by
  show PD (n+1) _=a*PD (n+1) _+b*PD (n+1) _;rw[<- sum_mul,<- sum_mul,<- sum_add];refine sum_congr fun k hk=>?_
  by_cases e:r=k
  ·subst e
   rw[oG,oG,oG,bW,bW,bW]
   grind
  ·rw[tU e,tU e,tU e,bo (fun z=>e z.symm),bo (fun z=>e z.symm),bo (fun z=>e z.symm)]
   rw[gZ (A:=gM A k) (r:=j7 k r) (u:=fun j=>u (j+1)) (v:=fun j=>v (j+1)) (by unfold j7;split<;>lia)]
   grind
theorem m8:∀{n:Nat}{A:Nat->Nat->Int}{r:Nat},r+1<n->(∀j,A r j=A (r+1) j)->bA n A=0
 |0,_,_,h,_=>by lia
 |n+1,A,r,h,e=>by
  show PD (n+1) _=0;have hm:bA n (gM A r)=bA n (gM A (r+1)):=by
   refine dL fun i j _ _=>?_
   unfold gM;by_cases d:i=r
   ·subst d
    have c:skip i i=i+1:=by unfold skip;split<;>lia
    have b:skip (i+1) i=i:=by unfold skip;split<;>lia
    rw[c,b,e]
   ·have:skip r i=skip (r+1) i:=by unfold skip;split<;>split<;>lia
    rw[this]
  rw[vH (k:=r) (l:=r+1) oM h oM fun k f c b=>?_]
  ·rw[hm,e 0,El];grind
  ·have:bA n (gM A k)=0:=by
    rcases yT k r with a|a
    ·refine m8 (r:=r-1) oM fun j=>?_
     unfold gM;have a1:skip k (r-1)=r:=by unfold skip;split<;>lia
     have a2:skip k (r-1+1)=r+1:=by unfold skip;split<;>lia
     rw[a1,a2,e]
    ·refine m8 (r:=r) oM fun j=>?_
     unfold gM;have a1:skip k r=r:=by unfold skip;split<;>lia
     have a2:skip k (r+1)=r+1:=by unfold skip;split<;>lia
     rw[a1,a2,e]
   rw[this,yO]
theorem nY{n:Nat}{A:Nat->Nat->Int}{c j:Nat}(d:c<n)(e:j<n)(a:c≠j)(b:∀x:Nat->Int,bA n (up (up A c x) j x)=0)(u v:Nat->Int):bA n (up (up A c u) j v)=- bA n (up (up A c v) j u):=by
 have h:=b (fun k=>1*u k+1*v k);rw[gZ e,iV a,gZ d,iV a (v:=v),gZ d,<- iV a,<- iV a,<- iV a,<- iV a,b u,b v]at h;lia
theorem qQ{n:Nat}:∀(k:Nat){A:Nat->Nat->Int}{i j:Nat},j=i+k+1->j<n->(∀x,A i x=A j x)->bA n A=0
 |0,A,i,j,e,hj,h=>m8 (r:=i) oM (by subst e;exact h)
 |k+1,A,i,j,e,hj,h=>by
  have alt:∀x:Nat->Int,bA n (up (up A (j-1) x) j x)=0:=fun x=>m8 (r:=j-1) oM fun y=>by
   rw[show j-1+1=j by lia,bW,bo oM,bW]
  have a:=nY (A:=A) (c:=j-1) (j:=j) oM hj oM alt (A (j-1)) (A j);rw[gj,gj]at a;rw[a,qQ k (A:=up (up A (j-1) (A j)) j (A (j-1))) (i:=i) (j:=j-1) oM oM fun x=>by
   rw[bo oM,bo oM,bo oM,bW,h]]
  rfl
theorem kC{n:Nat}{A:Nat->Nat->Int}{i j:Nat}(c:i<n)(b:j<n)(a:i≠j)(h:∀x,A i x=A j x):bA n A=0:=by
 rcases yT i j with l|l
 ·exact qQ (j-i-1) (i:=i) (j:=j) oM b h
 ·exact qQ (i-j-1) (i:=j) (j:=i) oM c fun x=>(h x).symm
theorem Cy{n:Nat}{A:Nat->Nat->Int}{c j:Nat}(d:c<n)(b:j<n)(a:c≠j)(u v:Nat->Int):bA n (up (up A c u) j v)=- bA n (up (up A c v) j u) :=
 nY d b a (fun x=>kC d b a fun y=>by rw[bo a,bW,bW]) u v
theorem kB{n:Nat}{A:Nat->Nat->Int}{r:Nat}(c:r<n){t:Nat->Int}{b:Nat->Nat->Int}:∀m:Nat,bA n (up A r fun x=>PD m fun k=>t k*b k x)=PD m fun k=>t k*bA n (up A r (b k))
 |0=>by
  have:=gZ (A:=A) (r:=r) (a:=0) (b:=0) (u:=fun _=>0) (v:=fun _=>0) c
  simp only[yP,ĥ]at this;exact this
 |m+1=>by
  have:=gZ (A:=A) (r:=r) (a:=1) (b:=t m) (u:=fun x=>PD m fun k=>t k*b k x) (v:=b m) c
  rw[Ϗ,kB c m]at this;simp only[Ϗ]at this;exact this
theorem qP{n:Nat}{A:Nat->Nat->Int}{r:Nat}(c:r<n){d:Int}{u:Nat->Int}:bA n (up A r fun x=>d*u x)=d*bA n (up A r u):=by
 have:=gZ (A:=A) (r:=r) (a:=d) (b:=0) (u:=u) (v:=u) c
 simp only[yP,ĥ]at this;exact this
theorem jl{n:Nat}{A:Nat->Nat->Int}{r:Nat}{u v:Nat->Int}(h:∀x,x<n->u x=v x):bA n (up A r u)=bA n (up A r v):=dL fun i j _ a=>by
 by_cases e:i=r
 ·subst e;rw[bW,bW];exact h j a
 ·rw[bo e,bo e]
theorem Lh{n:Nat}{B:Nat->Nat->Int}{j:Nat}{d:Int}{v:Nat->Int}{t:Nat->Int}(b:j<n)(h:∀x,x<n->d*v x=PD n fun k=>t k*B k x):d*bA n (up B j v)=t j*bA n B:=by
 rw[<- qP b,jl h,kB b,sum_one b fun k c a=>?_,gj];rw[kC (i:=k) (j:=j) c b a fun x=>by rw[bo a,bW],yO]
theorem Lg{n:Nat}{B:Nat->Nat->Int}{c j:Nat}{d:Int}{u v:Nat->Int}{t:Nat->Int}(e:c<n)(b:j<n)(a:c≠j)(h:∀x,x<n->d*v x=PD n fun k=>t k*B k x) :
  d*bA n (up (up B c u) j v)=t j*bA n (up B c u)-t c*bA n (up B j u):=by
 rw[<- qP b,jl h,kB b,vH b e (fun z=>a z.symm) fun k g f l=>?_]
 ·have m:up (up B c u) j (B j)=up B c u:=by
   have:up B c u j=B j:=bo fun z=>a z.symm
   rw[<- this,gj]
  rw[m,Cy e b a u (B c),gj]
  grind
 ·rw[kC (i:=k) (j:=j) g b f fun x=>by rw[bo f,bo l,bW],yO]
noncomputable def fct:Nat->Nat
 |0=>1
 |n+1=>(n+1)*fct n
theorem abs_sum{n:Nat}{f:Nat->Int}{M:Nat}(h:∀i,i<n->(f i).natAbs<=M):(PD n f).natAbs<=n*M:=by
 induction n with
 |zero=>simp[PD]
 |succ n a =>
  simp only[PD];have d:=a fun i b=>h i oM
  have c:=h n oM;rw[F!]
  have:=U1 (PD n f) (f n)
  lia
theorem uB:∀{n:Nat}{A:Nat->Nat->Int}{M:Nat},(∀i j,i<n->j<n->(A i j).natAbs<=M)->(bA n A).natAbs<=fct n*M^n
 |0,_,_,_=>by simp[bA,fct]
 |n+1,A,M,h=>by
  show(PD (n+1) _).natAbs<=_;refine z5 (abs_sum (M:=M*(fct n*M^n)) fun k hk=>?_) ?_
  ·rw[yZ,yZ,Gx,ϻ]
   exact ύ (h k 0 hk oM) (uB fun i j hi hj=>h _ _ (by unfold skip;split<;>lia) oM)
  ·show(n+1)*(M*(fct n*M^n))<=(n+1)*fct n*M^(n+1)
   rw[F?];generalize fct n=a;generalize M^n=b;exact ϩ (by grind)
noncomputable def eW(w:Nat):Nat->Int:=fun x=>if x=w then 1 else 0
def aK(w:Nat)(v:Nat->Nat->Int)(h:Nat->Nat):Nat->Nat->Int:=fun k=>if k=w then eW w else v (h k)
structure Lin(w m:Nat)(v:Nat->Nat->Int)(d:Int)(t:Nat->Nat->Int)(h s:Nat->Nat):Prop where
 pos:0<d
 lin:∀i,i<m->∀x,x<w+1->d*v (s i) x=PD (w+1) fun k=>t i k*aK w v h k x
 dt:∃g:Int,g*g=1/\bA (w+1) (aK w v h)=g*d
structure sx(w m r c:Nat)(e d:Int)(t:Nat->Nat->Int)(h s:Nat->Nat)(d':Int)(t':Nat->Nat->Int)(h' s':Nat->Nat):Prop where
 e1:e*e=1
 ep:0<e*t r c
 d':d'=e*t r c
 tc:∀i,i<m->i≠r->t' i c=e*t i c
 tj:∀i,i<m->i≠r->∀j,j<w+1->j≠c->t' i j=(t i j*(e*t r c)-t i c*(e*t r j))/d
 rc:t' r c=e*d
 rj:∀j,j<w+1->j≠c->t' r j=- (e*t r j)
 hc:h' c=s r
 hj:∀j,j<w->j≠c->h' j=h j
 sr:s' r=h c
 si:∀i,i<m->i≠r->s' i=s i
section
variable{w m r c:Nat}{e d d':Int}{v t t':Nat->Nat->Int}{h s h' s':Nat->Nat}
theorem Lin.one(L:Lin w m v d t h s){g:Int}(e:bA (w+1) (aK w v h)=g*d){i j:Nat}(c:i<m)(b:j<w+1):bA (w+1) (up (aK w v h) j (v (s i)))=g*t i j:=by
 have a:=Lh (n:=w+1) (j:=j) b (L.lin i c);rw[e]at a;have f:d≠0:=by have:=L.pos;lia
 refine Š f ?_;rw[a];grind
theorem Lin.ex(L:Lin w m v d t h s){i j:Nat}(o:i<m)(b:r<m)(k:c<w+1)(e:j<w+1)(a:c≠j):d ∣ t i j*t r c-t i c*t r j:=by
 obtain⟨g,g1,f⟩:=L.dt;have l:=Lg (n:=w+1) (c:=c) (j:=j) (u:=v (s r)) k e a (L.lin i o);rw[L.one f b k,L.one f b e]at l;refine⟨g*bA (w+1) (up (up (aK w v h) c (v (s r))) j (v (s i))),?_⟩;generalize bA (w+1) (up (up (aK w v h) c (v (s r))) j (v (s i)))=D at l
 grind
theorem Lin.ex'(L:Lin w m v d t h s){i j:Nat}(g:i<m)(b:r<m)(l:c<w+1)(f:j<w+1)(a:c≠j):d*((t i j*(e*t r c)-t i c*(e*t r j))/d)=t i j*(e*t r c)-t i c*(e*t r j):=by
 refine P8 ?_;obtain⟨k,n⟩:=L.ex g b l f a;exact⟨e*k,by grind⟩
theorem vc(g:c<w)(d:h' c=s r)(b:∀j,j<w->j≠c->h' j=h j):∀k,k<w+1->aK w v h' k=up (aK w v h) c (v (s r)) k:=by
 intro k f;unfold aK;by_cases e:k=c
 ·subst e;rw[bW,yG oM,d]
 ·rw[bo e]
  by_cases a:k=w
  ·rw[yH a,yH a]
  ·rw[yG a,yG a,b k oM e]
theorem Lin.piv(L:Lin w m v d t h s)(P:sx w m r c e d t h s d' t' h' s')(o:r<m)(p:c<w):Lin w m v d' t' h' s':=by
 have u:d≠0:=by have:=L.pos;lia
 have A:=P.e1;refine⟨by rw[P.d'];exact P.ep,fun i f x n=>?_,?_⟩
 ·by_cases l:i=r
  ·subst l
   rw[P.sr,P.d'];have b:PD (w+1) (fun k=>t' i k*aK w v h' k x)=PD (w+1) fun k=>(- e)*(t i k*aK w v h k x)+if k=c then e*t i c*aK w v h c x+e*d*v (s i) x else 0:=by
    refine sum_congr fun k b=>?_
    rw[vc p P.hc P.hj k b];by_cases a:k=c
    ·subst a;rw[yH rfl,bW,P.rc];grind
    ·rw[yG a,bo a,P.rj k b a];grind
   rw[b,sum_add,sum_mul,<- L.lin i f x n,sum_one (k:=c) oM fun k _ z=>yG z,yH rfl];have:aK w v h c x=v (h c) x:=by unfold aK;rw[yG oM]
   rw[this];grind
  ·refine Š u ?_
   rw[P.si i f l,<- sum_mul];have b:PD (w+1) (fun k=>d*(t' i k*aK w v h' k x))=PD (w+1) fun k=>(e*t r c*(t i k*aK w v h k x)+(- (e*t i c))*(t r k*aK w v h k x))+if k=c then d*(e*t i c*v (s r) x) else 0:=by
    refine sum_congr fun k b=>?_
    rw[vc p P.hc P.hj k b];by_cases a:k=c
    ·subst a;rw[yH rfl,bW,P.tc i f l];grind
    ·rw[yG a,bo a,P.tj i f l k b a,<- t?,L.ex' f o oM b fun z=>a z.symm];grind
   rw[b,sum_add,sum_add,sum_mul,sum_mul,<- L.lin i f x n,<- L.lin r o x n,sum_one (k:=c) oM fun k _ z=>yG z,yH rfl,P.d']
   grind
 ·obtain⟨g,g1,q⟩:=L.dt
  refine⟨g*e,by grind,?_⟩;rw[dL (B:=up (aK w v h) c (v (s r))) fun i j f y=>by rw[vc p P.hc P.hj i f],L.one q o oM,P.d']
  grind
theorem Lin.func(L:Lin w m v d t h s)(C:∀q,q<w->∀x,x<w+1->v q x=if x=q then 1 else 0)(f:c<w+1){X:Nat->Int}(D:∀i,i<m->s i<w->X (s i)=t i c)(G:∀j,j<w->h j<w->X (h j)=if j=c then d else 0)
  (r:∀q,q<w->(∃i,i<m/\s i=q)\/∃j,j<w/\h j=q) :
  (∀i,i<m->(PD w fun q=>v (s i) q*X q)+v (s i) w*(if c=w then d else 0)=t i c)/\∀j,j<w->(PD w fun q=>v (h j) q*X q)+v (h j) w*(if c=w then d else 0)=if j=c then d else 0:=by
 obtain⟨g,g1,o⟩:=L.dt;have F:∀u:Nat->Int,(PD w fun q=>u q*X q)+u w*(if c=w then d else 0)=g*bA (w+1) (up (aK w v h) c u):=fun u=>by
  have I:bA (w+1) (up (aK w v h) c u)=PD (w+1) fun q=>u q*bA (w+1) (up (aK w v h) c (eW q)):=by
   rw[<- kB f];refine jl fun x p=>?_
   rw[sum_one p fun k _ z=>by unfold eW;rw[yG fun y=>z y.symm,yO]];unfold eW;rw[yH rfl,P7]
  have B:∀k,k<w+1->g*bA (w+1) (up (aK w v h) c (aK w v h k))=if k=c then d else 0:=fun k E=>by
   by_cases a:k=c
   ·rw[yH a,a,gj,o];grind
   ·rw[yG a,kC (i:=k) (j:=c) E f a fun x=>by rw[bo a,bW],yO]
  rw[I,<- sum_mul];show _=PD w _+_;congr 1
  ·refine sum_congr fun q l=>?_
   have:g*bA (w+1) (up (aK w v h) c (eW q))=X q:=by
    have ev:∀x,x<w+1->eW q x=v q x:=fun x p=>(C q l x p).symm
    rw[jl ev];rcases r q l with⟨i,n,rfl⟩|⟨j,A,rfl⟩
    ·rw[L.one o n f,D i n l];grind
    ·have:=B j oM
     rw[show aK w v h j=v (h j) by unfold aK;rw[yG oM]]at this;rw[this,G j A l]
   rw[<- this];grind
  ·have:=B w oM
   rw[show aK w v h w=eW w by unfold aK;rw[yH rfl]]at this;have H:(if c=w then d else 0)=if w=c then d else 0:=by
    by_cases z:c=w
    ·rw[yH z,yH z.symm]
    ·rw[yG z,yG fun y=>z y.symm]
   rw[H,<- this];grind
 refine⟨fun i n=>?_,fun j A=>?_⟩
 ·rw[F,L.one o n f];grind
 ·rw[F]
  have e:v (h j)=aK w v h j:=by unfold aK;rw[yG oM]
  rw[e];by_cases b:j=c
  ·rw[yH b,b,gj,o];grind
  ·rw[yG b,kC (i:=j) (j:=c) oM f b fun x=>by rw[bo b,bW],yO]
theorem Lin.bound(L:Lin w m v d t h s){M:Nat}(o:1<=M)(c:∀q x,x<w+1->(v q x).natAbs<=M):d.natAbs<=fct (w+1)*M^(w+1)/\∀i,i<m->∀j,j<w+1->(t i j).natAbs<=fct (w+1)*M^(w+1):=by
 obtain⟨g,g1,e⟩:=L.dt;have ga:g.natAbs=1:=by
  have:g.natAbs*g.natAbs=1:=by rw[<- yZ,g1];rfl
  exact a? this
 have f:∀k x,x<w+1->(aK w v h k x).natAbs<=M:=fun k x a=>by
  unfold aK;split
  ·unfold eW;split<;>simp<;>lia
  ·exact c _ x a
 refine⟨?_,fun i l j b=>?_⟩
 ·have:=uB (n:=w+1) (A:=aK w v h) (M:=M) fun i j _ b=>f i j b
  rw[e,yZ,ga,ϻ]at this;exact this
 ·have:=uB (n:=w+1) (A:=up (aK w v h) j (v (s i))) (M:=M) fun k x _ a=>by
   by_cases z:k=j
   ·subst z;rw[bW];exact c _ x a
   ·rw[bo z];exact f k x a
  rw[L.one e l b,yZ,ga,ϻ]at this;exact this
end
structure Pm(w m:Nat)(h s:Nat->Nat):Prop where
 hl:∀j,j<w->h j<w+m
 sl:∀i,i<m->s i<w+m
 hi:∀j k,j<w->k<w->h j=h k->j=k
 si:∀j k,j<m->k<m->s j=s k->j=k
 hs:∀j i,j<w->i<m->h j≠s i
 cov:∀q,q<w+m->(∃i,i<m/\s i=q)\/∃j,j<w/\h j=q
structure Fea(w m:Nat)(G N:Nat->Prop)(t:Nat->Nat->Int)(h s:Nat->Nat):Prop where
 g:∀i,i<m->G (s i)->0<=t i w
 n:∀i,i<m->N (s i)->t i w=0/\∀j,j<w->¬N (h j)->t i j=0
 f:∀j,j<w->G (h j)\/N (h j)
section
variable{w m r c:Nat}{e d d':Int}{v t t':Nat->Nat->Int}{h s h' s':Nat->Nat}{G N G' N':Nat->Prop}
theorem Pm.piv(Q:Pm w m h s)(P:sx w m r c e d t h s d' t' h' s')(n:r<m)(o:c<w):Pm w m h' s':=by
 have u:∀j,j<w->(j=c/\h' j=s r)\/(j≠c/\h' j=h j):=fun j f=>by
  by_cases z:j=c
  ·subst z;exact .inl ⟨rfl,P.hc⟩
  ·exact .inr ⟨z,P.hj j f z⟩
 have p:∀i,i<m->(i=r/\s' i=h c)\/(i≠r/\s' i=s i):=fun i g=>by
  by_cases z:i=r
  ·subst z;exact .inl ⟨rfl,P.sr⟩
  ·exact .inr ⟨z,P.si i g z⟩
 refine⟨fun j f=>?_,fun i g=>?_,fun j k f l e=>?_,fun j k f l e=>?_,fun j i f g e=>?_,fun q v=>?_⟩
 ·rcases u j f with⟨_,z⟩|⟨_,z⟩<;>rw[z]
  ·exact Q.sl r n
  ·exact Q.hl j f
 ·rcases p i g with⟨_,z⟩|⟨_,z⟩<;>rw[z]
  ·exact Q.hl c o
  ·exact Q.sl i g
 ·rcases u j f with⟨a,z⟩|⟨a,z⟩<;>rcases u k l with⟨b,y⟩|⟨b,y⟩<;>rw[z,y]at e
  ·rw[a,b]
  ·exact absurd e.symm (Q.hs k r l n)
  ·exact absurd e (Q.hs j r f n)
  ·exact Q.hi j k f l e
 ·rcases p j f with⟨a,z⟩|⟨a,z⟩<;>rcases p k l with⟨b,y⟩|⟨b,y⟩<;>rw[z,y]at e
  ·rw[a,b]
  ·exact absurd e (Q.hs c k o l)
  ·exact absurd e.symm (Q.hs c j o f)
  ·exact Q.si j k f l e
 ·rcases u j f with⟨a,z⟩|⟨a,z⟩<;>rcases p i g with⟨b,y⟩|⟨b,y⟩<;>rw[z,y]at e
  ·exact Q.hs c r o n e.symm
  ·exact b (Q.si i r g n e.symm)
  ·exact a (Q.hi j c f o e)
  ·exact Q.hs j i f g e
 ·by_cases z:q=h c
  ·exact .inl ⟨r,n,by rw[P.sr,z]⟩
  ·by_cases y:q=s r
   ·exact .inr ⟨c,o,by rw[P.hc,y]⟩
   ·rcases Q.cov q v with⟨i,g,e⟩|⟨j,f,e⟩
    ·exact .inl ⟨i,g,by rw[P.si i g (fun x=>y (by rw[<- e,x]))];exact e⟩
    ·exact .inr ⟨j,f,by rw[P.hj j f (fun x=>z (by rw[<- e,x]))];exact e⟩
theorem xo{d x:Int}(hd:0<d)(h:0<=d*x):0<=x:=by
 rcases yU x 0 with z|z
 ·have:=ş hd z;lia
 ·exact z
theorem Bf{d x:Int}(hd:0<d)(h:d*x=0):x=0:=by
 rcases h!.mp h with z|z
 ·lia
 ·exact z
theorem Fea.piv(L:Lin w m v d t h s)(Q:Pm w m h s)(F:Fea w m G N t h s)(P:sx w m r c e d t h s d' t' h' s')(b:r<m)(A:c<w)(C:¬N (h c))
  (val:∀i,i<m->i≠r->G (s i)->0<=t i w*(e*t r c)-t i c*(e*t r w)) (new:G (h c)->0<=- (e*t r w))
  (B:∀q,q≠s r->(G' q ↔ G q)) (o:∀q,q≠s r->(N' q ↔ N q)) (u:G' (s r)\/N' (s r)):Fea w m G' N' t' h' s':=by
 have g:∀i,i<m->i≠r->s i≠s r:=fun i a z y=>z (Q.si i r a b y)
 refine⟨fun i a n=>?_,fun i a l=>?_,fun j f=>?_⟩
 ·by_cases z:i=r
  ·subst z
   rw[P.rj w oM oM];rw[P.sr]at n;exact new ((B _ (Q.hs c i A b)).mp n)
  ·rw[P.si i a z]at n
   have:=val i a z ((B _ (g i a z)).mp n)
   rw[P.tj i a z w oM oM];exact xo L.pos (by rw[L.ex' a b oM oM oM];exact this)
 ·by_cases z:i=r
  ·subst z
   rw[P.sr]at l;exact absurd ((o _ (Q.hs c i A b)).mp l) C
  ·rw[P.si i a z]at l
   obtain⟨E,D⟩:=F.n i a ((o _ (g i a z)).mp l);have p:=D c A C;refine⟨?_,fun j f k=>?_⟩
   ·rw[P.tj i a z w oM oM]
    exact Bf L.pos (by rw[L.ex' a b oM oM oM,E,p];grind)
   ·by_cases y:j=c
    ·subst y;rw[P.tc i a z,p,yO]
    ·rw[P.hj j f y]at k
     have:=D j f fun x=>k ((o _ (Q.hs j r f b)).mpr x)
     rw[P.tj i a z j oM y];exact Bf L.pos (by rw[L.ex' a b oM oM (fun x=>y x.symm),this,p];grind)
 ·by_cases y:j=c
  ·subst y;rw[P.hc];exact u
  ·rw[P.hj j f y]
   rcases F.f j f with x|x
   ·exact .inl ((B _ (Q.hs j r f b)).mpr x)
   ·exact .inr ((o _ (Q.hs j r f b)).mpr x)
theorem Fea.tight(L:Lin w m v d t h s)(Q:Pm w m h s)(F:Fea w m G N t h s)(P:sx w m r c e d t h s d' t' h' s')(g:r<m)(x:c<w)(q:¬N (h c))(l:G (s r))(p:t r c<0)
  (o:∀i,i<m->G (s i)->t i c<0->t r w*- t i c<=t i w*- t r c):Fea w m G N t' h' s':=by
 have n:e=-1:=by
  have B:=P.ep;have A:=P.e1;rcases yU e 0 with z|z
  ·have:e*e=1:=A
   have:e=-1:=by
    rcases yU e (-1) with y|y
    ·have:1<e*e:=by
      have a:(-e)*1<(-e)*(-e):=ŗ oM oM;have b:(-e)*(-e)=e*e:=by grind
      lia
     lia
    ·lia
   exact this
  ·have:e*t r c<=0:=ϟ z oM
   lia
 have f:=F.g r g l;refine Fea.piv L Q F P g x q (fun i j ne k=>?_) (fun _=>by rw[n];lia) (fun _ _=>.rfl) (fun _ _=>.rfl) (.inl l);have u:=F.g i j k;rw[n];rcases yU (t i c) 0 with z|z
 ·have:=o i j k z
  have a:t i w*(-1*t r c)-t i c*(-1*t r w)=t i w*- t r c-t r w*- t i c:=by grind
  rw[a];lia
 ·have a:t i w*(-1*t r c)-t i c*(-1*t r w)=t i w*- t r c+t i c*t r w:=by grind
  rw [a];have b:=Ý u (show 0 <= - t r c by lia);have c:=Ý z f;lia
theorem Fea.lift(L:Lin w m v d t h s)(Q:Pm w m h s)(F:Fea w m G N t h s)(P:sx w m r c e d t h s d' t' h' s')(p:r<m)(u:c<w)(n:¬N (h c))(pos:0<t r c)(low:t r w<0)
  (l:∀i,i<m->G (s i)->t i c<0->t r w*t i c<=t i w*t r c) (A:∀q,q≠s r->(G' q ↔ G q)) (x:∀q,q≠s r->(N' q ↔ N q)) (g:G' (s r)\/N' (s r)):Fea w m G' N' t' h' s':=by
 have f:e=1:=by
  have C:=P.ep;have B:=P.e1;have f:0<e:=by
   rcases yU 0 e with z|z
   ·exact z
   ·have:e*t r c<=0:=ă z oM
    lia
  rcases yU 1 e with y|y
  ·have:e*1<e*e:=ŗ y f
   lia
  ·lia
 refine Fea.piv L Q F P p u n (fun i j ne k=>?_) (fun _=>by rw[f];lia) A x g;have o:=F.g i j k;rw[f];rcases yU (t i c) 0 with z|z
 ·have:=l i j k z
  have a:t i w*(1*t r c)-t i c*(1*t r w)=t i w*t r c-t r w*t i c:=by grind
  rw[a];lia
 ·have a:t i w*(1*t r c)-t i c*(1*t r w)=t i w*t r c+t i c*- t r w:=by grind
  rw [a];have b:=Ý o (show 0 <= t r c by lia);have c:=Ý z (show 0 <= - t r w by lia);lia
theorem Fea.move(L:Lin w m v d t h s)(Q:Pm w m h s)(F:Fea w m G N t h s)(P:sx w m r c e d t h s d' t' h' s')(l:r<m)(p:c<w)(j:¬N (h c))(f:t r w=0)
  (x:∀q,q≠s r->(G' q ↔ G q)) (u:∀q,q≠s r->(N' q ↔ N q)) (g:G' (s r)\/N' (s r)):Fea w m G' N' t' h' s':=by
 refine Fea.piv L Q F P l p j (fun i n ne o=>?_) (fun _=>by rw[f];lia) x u g;have k:=F.g i n o
 have:=P.ep
 have b:=Ý k (show 0 <= e * t r c by lia);rw [f];have a:t i w * (e * t r c) - t i c * (e * 0)=t i w * (e * t r c):=by grind
 rw[a];exact b
theorem Fj{a b x y u z:Int}(m:b<0)(k:x<0)(l:0<u)(g:z*b<=a*u)(f:a*- x<=y*- b):z*x<=y*u:=by
 have d:(z*b)*(-x)<=(a*u)*(-x):=Õ g oM;have c:(a*- x)*u<=(y*- b)*u:=Õ f oM;have e:(z*x)*(-b)<=(y*u)*(-b):=by
  have j:(z*b)*(-x)=(z*x)*(-b):=by grind
  have i:(a*u)*(-x)=(a*- x)*u:=by grind
  have h:(y*- b)*u=(y*u)*(-b):=by grind
  rw[j,i]at d;rw[h]at c;exact Ķ d c
 exact Ą e oM
theorem Fea.guard{p:Nat}(F:Fea w m G N t h s)(Q:Pm w m h s)(c:p<m)(e:0<=t p w):Fea w m (fun q=>G q\/q=s p) N t h s :=
 ⟨fun i b a=>by
  rcases a with a|a
  ·exact F.g i b a
  ·rw[Q.si i p b c a];exact e,F.n,fun j d=>(F.f j d).imp .inl id⟩
theorem Fea.nail{p:Nat}(F:Fea w m G N t h s)(Q:Pm w m h s)(f:p<m)(g:t p w=0)(hz:∀j,j<w->¬N (h j)->t p j=0):Fea w m G (fun q=>N q\/q=s p) t h s :=
 ⟨F.g,fun i e c=>by
  rcases c with c|c
  ·obtain⟨a,b⟩:=F.n i e c
   exact⟨a,fun j d z=>b j d fun y=>z (.inl y)⟩
  ·rw[Q.si i p e f c]
   exact⟨g,fun j d z=>hz j d fun y=>z (.inl y)⟩,fun j d=>(F.f j d).imp id .inl⟩
noncomputable def tv(v:Nat->Nat->Int)(q:Nat):Nat->Nat->Int:=fun k x=>if k=q then-v k x else v k x
theorem Lin.turn{p:Nat}(L:Lin w m v d t h s)(Q:Pm w m h s)(f:p<m)(o:∀j,j<w+1->t' p j=- t p j)(n:∀i,i<m->i≠p->∀j,j<w+1->t' i j=t i j):Lin w m (tv v (s p)) d t' h s:=by
 have c:∀k,k<w+1->aK w (tv v (s p)) h k=aK w v h k:=fun k a=>by
  unfold aK;by_cases z:k=w
  ·rw[yH z,yH z]
  ·rw[yG z,yG z];funext x;unfold tv;rw[yG (Q.hs k p oM f)]
 refine⟨L.pos,fun i b x e=>?_,?_⟩
 ·by_cases z:i=p
  ·subst z
   have:=L.lin i b x e
   rw[sum_congr (g:=fun k=>(-1)*(t i k*aK w v h k x)) fun k a=>by rw[c k a,o k a];grind,sum_mul,<- this];unfold tv;rw[yH rfl];grind
  ·rw[sum_congr (g:=fun k=>t i k*aK w v h k x) fun k a=>by rw[c k a,n i b z k a],<- L.lin i b x e]
   unfold tv;rw[yG fun y=>z (Q.si i p b f y)]
 ·obtain⟨g,g1,l⟩:=L.dt
  exact⟨g,g1,by rw[dL (B:=aK w v h) fun i j b _=>by rw[c i b]];exact l⟩
theorem Fea.turn{p:Nat}(F:Fea w m G N t h s)(Q:Pm w m h s)(n:p<m)(k:¬G (s p))(g:¬N (s p))(d:∀i,i<m->i≠p->∀j,j<w+1->t' i j=t i j):Fea w m G N t' h s:=by
 refine⟨fun i c f=>?_,fun i c e=>?_,F.f⟩
 ·rw[d i c (fun z=>k (by rw[<- z];exact f)) w oM];exact F.g i c f
 ·have ne:i≠p:=fun z=>g (by rw[<- z];exact e)
  obtain⟨a,b⟩:=F.n i c e;exact⟨by rw[d i c ne w oM];exact a,fun j l z=>by rw[d i c ne j oM];exact b j l z⟩
end
theorem zu:∀(M:Nat)(f:Nat->Nat),(∀n,f n<M)->∃i j,i<j/\f i=f j
 |0,f,h=>absurd (h 0) oM
 |M+1,f,h=>by
  by_cases c:∃n,∀k,n<=k->f k≠M
  ·obtain⟨n,hn⟩:=c
   obtain⟨i,j,g,e⟩:=zu M (fun k=>f (n+k)) fun k=>by have:=h (n+k);have:=hn (n+k) oM;lia
   exact⟨n+i,n+j,by lia,e⟩
  ·have b:∀n,∃k,n<=k/\f k=M:=fun n=>ñ fun z=>c ⟨n,fun k d e=>z ⟨k,d,e⟩⟩
   obtain⟨i,_,l⟩:=b 0;obtain⟨j,m,a⟩:=b (i+1);exact⟨i,j,by lia,by rw[l,a]⟩
noncomputable def jI(b:Nat)(h:Nat->Nat):Nat->Nat
 |0=>0
 |n+1=>jI b h n*b+h n
theorem AL{b:Nat}{h:Nat->Nat}:∀{n:Nat},(∀j,j<n->h j<b)->jI b h n<b^n
 |0,_=>by simp[jI]
 |n+1,H=>by
  have h1:=AL (n:=n) fun j a=>H j oM
  have c:=H n oM;show jI b h n*b+h n<b^(n+1);rw[F?];have:(jI b h n+1)*b<=b^n*b:=ό b h1;rw[F!]at this;lia
theorem wx{b:Nat}{h g:Nat->Nat}:∀{n:Nat},(∀j,j<n->h j<b)->(∀j,j<n->g j<b)->jI b h n=jI b g n->∀j,j<n->h j=g j
 |0,_,_,_,j,hj=>by lia
 |n+1,H,K,e,j,hj=>by
  have h2:=H n oM;have a:=K n oM;have f:jI b h n*b+h n=jI b g n*b+g n:=e;have d:h n=g n:=by
   have:=congrArg (·%b) f
   simp only[Nat.mul_add_mod_self_right]at this
   rwa [U8 h2,U8 a]at this
  have c:jI b h n=jI b g n:=by
   have:jI b h n*b=jI b g n*b:=by lia
   exact Nat.eq_of_mul_eq_mul_right oM this
  rcases yT j n with z|z
  ·exact wx (fun j hj=>H j oM) (fun j hj=>K j oM) c j z
  ·rw[show j=n by lia];exact d
theorem yp(b:Nat->Prop){i:Nat}:∀(k:Nat),b i->¬b (i+k)->∃n,i<=n/\n<i+k/\b n/\¬b (n+1)
 |0,h,g=>absurd h g
 |k+1,h,g=>by
  by_cases z:b (i+k)
  ·exact⟨i+k,by lia,by lia,z,g⟩
  ·obtain⟨n,a,c,d⟩:=yp b k h z
   exact⟨n,a,by lia,d⟩
theorem yo(b:Nat->Prop){i j x y:Nat}(g:i<=x/\x<=j)(f:i<=y/\y<=j)(k:b x)(d:¬b y)(e:b i ↔ b j):∃n,i<=n/\n<j/\b n/\¬b (n+1):=by
 have h:∀a c,i<=a->a<=c->c<=j->b a->¬b c->∃n,i<=n/\n<j/\b n/\¬b (n+1):=fun a c t s r p q=>by
  obtain⟨n,o,m,l⟩:=yp b (c-a) p (by rwa [show a+(c-a)=c by lia]);exact⟨n,by lia,by lia,l⟩
 rcases Y7 x y with z|z
 ·exact h x y g.1 z f.2 k d
 ·by_cases q:b j
  ·exact h i y oM f.1 f.2 (e.mpr q) d
  ·exact h x j g.1 g.2 (zP j) k q
structure St where
 d:Int
 t:Nat->Nat->Int
 h:Nat->Nat
 s:Nat->Nat
structure Bl(w m p:Nat)(G N:Nat->Prop)(r c:Nat)(e:Int)(S S':St):Prop where
 hc:c<w
 nc:¬N (S.h c)
 up:0<S.t p c
 least:∀j,j<w->¬N (S.h j)->0<S.t p j->S.h c<=S.h j
 hr:r<m
 gr:G (S.s r)
 neg:S.t r c<0
 ti:∀i,i<m->G (S.s i)->S.t i c<0->S.t r w*- S.t i c<S.t i w*- S.t r c\/(S.t r w*- S.t i c=S.t i w*- S.t r c/\S.s r<=S.s i)
 piv:sx w m r c e S.d S.t S.h S.s S'.d S'.t S'.h S'.s
def jr(w:Nat)(S:St)(q:Nat):Prop:=∃k,k<w/\S.h k=q
def Zr(w m:Nat)(S:St)(q:Nat):Prop:=∀i,i<m->S.s i=q->S.t i w=0
theorem Dx{a b c d e f:Int}(p:0<b)(hd:0<d)(o:0<f)(k:a*d<=c*b)(j:c*f<=e*d):a*f<=e*b:=by
 have g:(a*d)*f<=(c*b)*f:=Õ k oM;have i:(c*f)*b<=(e*d)*b:=Õ j oM;have n:(c*b)*f=(c*f)*b:=by grind
 have h:(a*f)*d<=(e*b)*d:=by
  have m:(a*f)*d=(a*d)*f:=by grind
  have l:(e*b)*d=(e*d)*b:=by grind
  rw[m,l];rw[n]at g;exact Ķ g i
 exact Ą h hd
section
variable{w m p:Nat}{v:Nat->Nat->Int}{G N:Nat->Prop}{S:Nat->St}{r c:Nat->Nat}{e:Nat->Int}
structure Run(w m p:Nat)(v:Nat->Nat->Int)(G N:Nat->Prop)(S:Nat->St)(r c:Nat->Nat)(e:Nat->Int):Prop where
 L:∀n,Lin w m v (S n).d (S n).t (S n).h (S n).s
 Q:∀n,Pm w m (S n).h (S n).s
 F:∀n,Fea w m G N (S n).t (S n).h (S n).s
 B:∀n,Bl w m p G N (r n) (c n) (e n) (S n) (S (n+1))
 hp:p<m
 np:¬G ((S 0).s p)
theorem Run.sp(R:Run w m p v G N S r c e):∀n,(S n).s p=(S 0).s p
 |0=>rfl
 |n+1=>by
  have h:=R.sp n;have:p≠r n:=fun z=>R.np (by rw[<- h,z];exact(R.B n).gr)
  rw[(R.B n).piv.si p R.hp this];exact h
theorem Run.pr(R:Run w m p v G N S r c e)(n:Nat):p≠r n:=fun z=>R.np (by rw[<- R.sp n,z];exact(R.B n).gr)
theorem Fc{e a:Int}(f:e*e=1)(d:0<e*a)(c:a<0):e=-1:=by
 have hz:e<0:=by
  rcases yU e 0 with z|z
  ·exact z
  ·have:e*a<=0:=ϟ z oM
   lia
 rcases yU e (-1) with y|y
 ·have a:(-e)*1<(-e)*(-e):=ŗ oM oM
  have b:(-e)*(-e)=e*e:=by grind
  lia
 ·lia
theorem Run.em(R:Run w m p v G N S r c e)(n:Nat):e n=-1:=Fc (R.B n).piv.e1 (R.B n).piv.ep (R.B n).neg
theorem Run.col(R:Run w m p v G N S r c e)(n:Nat){i:Nat}(a:i<m)(ne:i≠r n):(S n).d*(S (n+1)).t i w=(S n).t i w*(S (n+1)).d+(S n).t i (c n)*(S n).t (r n) w:=by
 have B:=R.B n;rw[B.piv.tj i a ne w oM (by have:=B.hc;lia),(R.L n).ex' a B.hr (by have:=B.hc;lia) oM (by have:=B.hc;lia),B.piv.d',R.em n]
 grind
theorem Run.mono(R:Run w m p v G N S r c e)(n:Nat):(S n).t p w*(S (n+1)).d<=(S (n+1)).t p w*(S n).d:=by
 have B:=R.B n
 have:=R.col n R.hp (R.pr n)
 have a:=Ý (show 0 <= (S n).t p (c n) by have:=B.up;lia) ((R.F n).g (r n) B.hr B.gr);rw [ϫ ((S (n + 1)).t p w)];lia
theorem Run.monos(R:Run w m p v G N S r c e)(i:Nat):∀k,(S i).t p w*(S (i+k)).d<=(S (i+k)).t p w*(S i).d
 |0=>Ő _
 |k+1=>Dx (R.L i).pos (R.L (i+k)).pos (R.L (i+k+1)).pos (R.monos i k) (R.mono (i+k))
theorem Run.same(R:Run w m p v G N S r c e){i j:Nat}(h:∀k,k<w->(S i).h k=(S j).h k):(S i).d=(S j).d/\(S i).t p w=(S j).t p w:=by
 have o:∀k,k<w+1->aK w v (S i).h k=aK w v (S j).h k:=fun k E=>by
  unfold aK;by_cases z:k=w
  ·rw[yH z,yH z]
  ·rw[yG z,yG z,h k oM]
 obtain⟨g,g1,n⟩:=(R.L i).dt;obtain⟨y,l,d⟩:=(R.L j).dt;have B:bA (w+1) (aK w v (S i).h)=bA (w+1) (aK w v (S j).h):=dL fun a b f _=>by rw[o a f]
 have t:=(R.L i).one n R.hp (j:=w) oM;have s:=(R.L j).one d R.hp (j:=w) oM;rw[R.sp i]at t;rw[R.sp j]at s;have A:bA (w+1) (up (aK w v (S i).h) w (v ((S 0).s p)))=bA (w+1) (up (aK w v (S j).h) w (v ((S 0).s p))):=dL fun a b f _=>by
  by_cases z:a=w
  ·subst z;rw[bW,bW]
  ·rw[bo z,bo z,o a f]
 rw[n,d]at B;rw[t,s]at A;have D:=(R.L i).pos;have C:=(R.L j).pos;have q:∀x:Int,x*x=1->x=1\/x=-1:=fun x u=>by
  have:x.natAbs*x.natAbs=1:=by rw[<- yZ,u];rfl
  have:=a? this
  lia
 rcases q g g1 with rfl|rfl<;>rcases q y l with rfl|rfl<;>constructor<;>lia
theorem Run.flat(R:Run w m p v G N S r c e){i j n:Nat}(h:∀k,k<w->(S i).h k=(S j).h k)(o:i<=n)(l:n<j):(S n).t (r n) w=0:=by
 have B:=R.B n;have a:=R.monos i (n-i);have b:=R.monos (n+1) (j-(n+1));rw[show i+(n-i)=n by lia]at a;rw[show n+1+(j-(n+1))=j by lia]at b;obtain⟨f,d⟩:=R.same h;rw[<- f,<- d]at b;have g:=Dx (R.L (n+1)).pos (R.L i).pos (R.L n).pos b a;have s:=R.col n R.hp (R.pr n);have q:=(R.F n).g (r n) B.hr B.gr;rcases yU 0 ((S n).t (r n) w) with z|z
 ·have:=P0 B.up z
  rw[ϫ ((S (n+1)).t p w)]at g;lia
 ·lia
theorem Run.zero(R:Run w m p v G N S r c e){n q:Nat}(f:(S n).t (r n) w=0):Zr w m (S n) q ↔ Zr w m (S (n+1)) q:=by
 have B:=R.B n;have P:=B.piv;have g:w≠c n:=by have:=B.hc;lia
 have d:(S (n+1)).t (r n) w=0:=by rw[P.rj w oM g,f];lia
 have b:∀i,i<m->i≠r n->((S n).t i w=0 ↔ (S (n+1)).t i w=0):=fun i a ne=>by
  have:=R.col n a ne
  rw[f,yO,ĥ]at this;constructor
  ·intro z;rw[z,yP]at this;exact Bf (R.L n).pos this
  ·intro z;rw[z,yO]at this
   rcases h!.mp this.symm with y|y
   ·exact y
   ·have:=(R.L (n+1)).pos;lia
 constructor
 ·intro h i a e
  by_cases z:i=r n
  ·rw[z];exact d
  ·rw[P.si i a z]at e;exact(b i a z).mp (h i a e)
 ·intro h i a e
  by_cases z:i=r n
  ·rw[z];exact f
  ·exact(b i a z).mpr (h i a (by rw[P.si i a z];exact e))
theorem Run.zeros(R:Run w m p v G N S r c e){i j q:Nat}(h:∀k,k<w->(S i).h k=(S j).h k){a:Nat}(ha:i<=a):∀k,a+k<=j->(Zr w m (S a) q ↔ Zr w m (S (a+k)) q)
 |0,_=>.rfl
 |k+1,hk=>(R.zeros h ha k oM).trans (R.zero (R.flat h oM oM))
theorem Run.zall(R:Run w m p v G N S r c e){i j q:Nat}(h:∀k,k<w->(S i).h k=(S j).h k){a b:Nat}(n:i<=a)(g:a<=j)(f:i<=b)(d:b<=j)(z:Zr w m (S a) q):Zr w m (S b) q:=by
 rcases Y7 a b with l|l
 ·have:=(R.zeros (q:=q) h n (b-a) oM).mp;rw[show a+(b-a)=b by lia]at this;exact this z
 ·have:=(R.zeros (q:=q) h f (a-b) oM).mpr;rw[show b+(a-b)=a by lia]at this;exact this z
theorem Run.out(R:Run w m p v G N S r c e){n q:Nat}(h:jr w (S n) q)(g:¬jr w (S (n+1)) q):q=(S n).h (c n):=by
 obtain⟨k,a,rfl⟩:=h;by_cases z:k=c n
 ·rw[z]
 ·exact absurd ⟨k,a,(R.B n).piv.hj k a z⟩ g
theorem Run.inn(R:Run w m p v G N S r c e){n q:Nat}(h:¬jr w (S n) q)(g:jr w (S (n+1)) q):q=(S n).s (r n):=by
 obtain⟨k,a,rfl⟩:=g;by_cases z:k=c n
 ·rw[z];exact(R.B n).piv.hc
 ·exact absurd ⟨k,a,((R.B n).piv.hj k a z).symm⟩ h
theorem Run.hz(R:Run w m p v G N S r c e){n q:Nat}(h:jr w (S n) q):Zr w m (S n) q:=fun i b e=>by
 obtain⟨k,a,rfl⟩:=h;exact absurd e.symm ((R.Q n).hs k i a b)
theorem BK{n:Nat}{f:Nat->Int}(h:0<PD n f):∃k,k<n/\0<f k:=by
 induction n with
 |zero=>exact absurd h (by simp[PD])
 |succ n a =>
  by_cases z:0<f n
  ·exact⟨n,by lia,z⟩
  ·obtain⟨k,b,e⟩:=a (by simp only[PD]at h;lia)
   exact⟨k,by lia,e⟩
theorem Run.ends(R:Run w m p v G N S r c e):False:=by
 obtain⟨i,j,hij,eq⟩:=zu ((w+m)^w) (fun n=>jI (w+m) (S n).h w) fun n=>AL (R.Q n).hl
 have I:=wx (R.Q i).hl (R.Q j).hl eq
 let C:Nat->Prop:=fun q=>∃a b,i<=a/\a<=j/\i<=b/\b<=j/\jr w (S a) q/\¬jr w (S b) q
 have f0:C ((S i).h (c i)):=⟨i,i+1,by lia,by lia,by lia,by lia,⟨c i,(R.B i).hc,rfl⟩,fun⟨k,h,e⟩=>(R.Q (i+1)).hs k (r i) h (R.B i).hr (by rw[e,(R.B i).piv.sr])⟩;have bd:∀q,C q->q<w+m:=fun q T=>by obtain⟨a,b,_,_,_,_,⟨k,h,e⟩,_⟩:=T;rw[<- e];exact(R.Q a).hl k h
 obtain⟨q,hq,V⟩:∃q,C q/\∀x,C x->x<=q:=by
  have go:∀k,(∃q,C q/\w+m<=q+k)->∃q,C q/\∀x,C x->x<=q:=fun k=>by
   induction k with
   |zero=>intro⟨q,F,U⟩;have:=bd q F;lia
   |succ k ih =>
    rintro⟨q,F,U⟩;by_cases z:∃x,C x/\q<x
    ·obtain⟨x,x1,x2⟩:=z;exact ih ⟨x,x1,by lia⟩
    ·exact⟨q,F,fun x E=>by
      rcases yT q x with y|y
      ·exact absurd ⟨x,E,y⟩ z
      ·exact y⟩
  exact go (w+m) ⟨_,f0,by lia⟩
 have B:jr w (S i) q ↔ jr w (S j) q:=⟨fun⟨k,h,e⟩=>⟨k,h,by rw[<- I k h];exact e⟩,fun⟨k,h,e⟩=>⟨k,h,by rw[I k h];exact e⟩⟩;obtain⟨a,b,a1,a2,b1,b2,ha,Z⟩:=id hq;obtain⟨f,u1,u2,u3,u4⟩:=yo (fun n=>jr w (S n) q) ⟨a1,a2⟩ ⟨b1,b2⟩ ha Z B;obtain⟨d,v1,v2,v3,K⟩:=yo (fun n=>¬jr w (S n) q) ⟨b1,b2⟩ ⟨a1,a2⟩ Z (fun z=>z ha) (not_congr B);have K:jr w (S (d+1)) q:=ñ K;have M:=R.out u3 u4;have L:=R.inn v3 K;have J:=R.B f;have s:=R.B d
 obtain⟨g,g1,Y⟩:=(R.L d).dt
 let W:(Nat->Int)->Int:=fun u=>g*bA (w+1) (up (aK w v (S d).h) (c d) u)
 have t:c d<w+1:=by have:=s.hc;lia
 have Ws:∀k,k<m->W (v ((S d).s k))=(S d).t k (c d):=fun k h=>by
  show g*_=_;rw[(R.L d).one Y h t];grind
 have Wb:∀k,k<w+1->W (aK w v (S d).h k)=if k=c d then(S d).d else 0:=fun k h=>by
  show g*_=_;by_cases z:k=c d
  ·rw[yH z,z,gj,Y];grind
  ·rw[yG z,kC (i:=k) (j:=c d) h t z fun x=>by rw[bo z,bW],yO]
 have P:(S f).d*(S d).t p (c d)=PD w fun k=>(S f).t p k*W (v ((S f).h k)):=by
  have F:(S f).d*W (v ((S 0).s p))=PD (w+1) fun k=>(S f).t p k*W (aK w v (S f).h k):=by
   show(S f).d*(g*bA (w+1) (up (aK w v (S d).h) (c d) (v ((S 0).s p))))=PD (w+1) fun k=>(S f).t p k*(g*bA (w+1) (up (aK w v (S d).h) (c d) (aK w v (S f).h k)))
   have U:(S f).d*bA (w+1) (up (aK w v (S d).h) (c d) (v ((S 0).s p)))=PD (w+1) fun k=>(S f).t p k*bA (w+1) (up (aK w v (S d).h) (c d) (aK w v (S f).h k)):=by
    rw[<- qP t,<- kB t];exact jl fun x E=>by rw[<- R.sp f];exact(R.L f).lin p R.hp x E
   rw[sum_congr (g:=fun k=>g*((S f).t p k*bA (w+1) (up (aK w v (S d).h) (c d) (aK w v (S f).h k)))) fun k _=>by grind,sum_mul,<- U];grind
  rw[<- Ws p R.hp,R.sp d,F];show PD w _+_=_;have hw:W (aK w v (S f).h w)=0:=by
   have:aK w v (S f).h w=aK w v (S d).h w:=by unfold aK;rw[yH rfl,yH rfl]
   rw[this,Wb w oM,yG (by have:=s.hc;lia)]
  show PD w _+(S f).t p w*W (aK w v (S f).h w)=_;rw[hw,yO,ĥ];exact sum_congr fun k h=>by rw[show aK w v (S f).h k=v ((S f).h k) by unfold aK;rw[yG oM]]
 obtain⟨k,h,D⟩:=BK (by rw[<- P];exact P0 (R.L f).pos s.up);have Q:jr w (S f) ((S f).h k):=⟨k,h,rfl⟩;rcases(R.Q d).cov ((S f).h k) ((R.Q f).hl k h) with⟨l,A,o⟩|⟨l,A,o⟩
 ·-- a line at d
  rw[<- o,Ws l A]at D;have O:¬jr w (S d) ((S f).h k):=fun⟨x,E,ex⟩=>(R.Q d).hs x l E A (by rw[ex,o])
  have le:=V _ ⟨f,d,by lia,by lia,by lia,by lia,Q,O⟩;have nt:(S d).t l (c d)≠0:=fun z=>by rw[z,yO]at D;lia
  have H:¬N ((S f).h k):=fun z=>nt (((R.F d).n l A (by rw[o];exact z)).2 (c d) s.hc s.nc)
  by_cases X:(S f).h k=q
  ·have kc:k=c f:=(R.Q f).hi k (c f) h J.hc (by rw[X];exact M)
   have lr:l=r d:=(R.Q d).si l (r d) A s.hr (by rw[o,X];exact L);rw[kc,lr]at D
   have:=ş J.up s.neg
   lia
  ·have np:¬0<(S f).t p k:=fun z=>by
    have:=J.least k h H z
    rw[<- M]at this;lia
   have n0:(S f).t p k<0:=by
    rcases yU ((S f).t p k) 0 with z|z
    ·exact z
    ·rw[show(S f).t p k=0 by lia,yP]at D;lia
   have tl:(S d).t l (c d)<0:=by
    rcases yU ((S d).t l (c d)) 0 with z|z
    ·exact z
    ·have:=ă (Ă n0) z;lia
   have gl:G ((S d).s l):=by
    rcases(R.F f).f k h with z|z
    ·rw[o];exact z
    ·exact absurd z H
   have lz:(S d).t l w=0:=R.zall I oM oM oM oM (R.hz Q) l A o;have rz:=R.flat I (n:=d) oM oM;rcases s.ti l A gl tl with z|⟨_,z⟩
   ·rw[lz,rz]at z;lia
   ·rw[<- L,o]at z;lia
 ·-- free at d
  have e1:v ((S f).h k)=aK w v (S d).h l:=by unfold aK;rw[yG oM,o]
  rw[e1,Wb l oM]at D;by_cases z:l=c d
  ·rw[yH z]at D
   have tp:0<(S f).t p k:=by
    rcases yU 0 ((S f).t p k) with y|y
    ·exact y
    ·have:=ă y (Ă (R.L d).pos);lia
   have H:¬N ((S f).h k):=by rw[<- o,z];exact s.nc
   have l1:=J.least k h H tp;rw[<- M]at l1;have O:¬jr w (S (d+1)) ((S f).h k):=fun⟨x,E,ex⟩=>(R.Q (d+1)).hs x (r d) E s.hr (by rw[ex,s.piv.sr,<- o,z])
   have l2:=V _ ⟨f,d+1,by lia,by lia,by lia,by lia,Q,O⟩;have:q=(S f).h k:=by lia
   exact(R.Q d).hs l (r d) A s.hr (by rw[o,<- L,this])
  ·rw[yG z,yO]at D;lia
end
structure Sh where
 d:Int
 ls:List (List Int)
 hd:List Nat
 sd:List Nat
 gd:List Nat
 nl:List Nat
 tn:List Nat
noncomputable def gI(xs:List Int)(j:Nat):Int:=xs.getD j 0
noncomputable def row(S:Sh)(i:Nat):List Int:=S.ls.getD i []
def Sh.t(S:Sh)(i j:Nat):Int:=gI (row S i) j
noncomputable def Sh.h(S:Sh)(j:Nat):Nat:=S.hd.getD j 0
noncomputable def Sh.s(S:Sh)(i:Nat):Nat:=S.sd.getD i 0
noncomputable def fdvS(a b:Int):Int:=if 0<b then a/b else a.fdiv b
def chLine(l P:List Int)(c:Nat)(sg d:Int):List Int :=
 if gI l c=0 then(if gI P c=d then l else l.map fun x=>fdvS (x*gI P c) d) else((l.zip P).map fun z=>fdvS (z.1*gI P c-gI l c*z.2) d).set c (sg*gI l c)
noncomputable def sgn(x:Int):Int:=if x<0 then -1 else 1
def pvl(S:Sh)(r c:Nat):List Int:=(row S r).map fun x=>sgn (S.t r c)*x
def PK(S:Sh)(r c:Nat):Sh:={ S with
 d:=gI (pvl S r c) c
 ls:=(S.ls.map fun l=>chLine l (pvl S r c) c (sgn (S.t r c)) S.d).set r (((pvl S r c).map fun x=>- x).set c (sgn (S.t r c)*S.d))
 hd:=S.hd.set c (S.s r)
 sd:=S.sd.set r (S.h c) }
structure PN(w m:Nat)(S:Sh):Prop where
 ls:S.ls.length=m
 row:∀l∈S.ls,l.length=w+1
 hd:S.hd.length=w
 sd:S.sd.length=m
theorem pT{f:Int->Int}{xs:List Int}{j:Nat}(h:j<xs.length):gI (xs.map f) j=f (gI xs j):=by
 unfold gI;simp[zD,h]
theorem gI_set_at{xs:List Int}{j:Nat}{x:Int}(h:j<xs.length):gI (xs.set j x) j=x:=by
 unfold gI;simp[zD,h]
theorem gI_set_ne{j k:Nat}{x:Int}(h:k≠j):gI (xs.set j x) k=gI xs k:=by
 unfold gI;simp[zD,yW,h.symm]
theorem gI_zip{xs ys:List Int}{f:Int×Int->Int}{j:Nat}(h:j<xs.length)(h':j<ys.length):gI ((xs.zip ys).map f) j=f (gI xs j,gI ys j):=by
 unfold gI;have hz:j<(xs.zip ys).length:=by rw[ą];lia
 simp only[zD,zR,zF h,zF h',zF hz,Ì,Ϥ,List.getElem_zip]
theorem getD_mem{α:Type}{xs:List α}{i:Nat}{a:α}(h:i<xs.length):xs.getD i a∈xs:=by
 simp[zD,zF h]
theorem PN.rl{w m:Nat}(P:PN w m S){i:Nat}(h:i<m):(SX.row S i).length=w+1:=P.row _ (getD_mem (by rw[P.ls];exact h))
theorem wv{a b:Int}(h:0<b):fdvS a b=a/b:=yH h
theorem xN{c:Nat}{sg d:Int}(h:l.length=P.length):(chLine l P c sg d).length=l.length:=by
 unfold chLine;split
 ·split
  ·rfl
  ·simp
 ·simp[h]
theorem uz{r c i:Nat}(a:i<S.ls.length)(b:r<S.ls.length):SX.row (PK S r c) i=if i=r then((pvl S r c).map fun x=>- x).set c (sgn (S.t r c)*S.d) else chLine (SX.row S i) (pvl S r c) c (sgn (S.t r c)) S.d:=by
 unfold SX.row PK;simp only[zD,yW,zH];by_cases e:i=r
 ·subst e;simp[a]
 ·rw[yG fun z=>e z.symm,yG e];simp[zF a]
theorem exch_shp{w m:Nat}{r c:Nat}(P:PN w m S)(d:r<m):PN w m (PK S r c):=by
 have a:(pvl S r c).length=w+1:=by unfold pvl;rw[zH];exact P.rl d
 refine⟨by simp[PK,P.ls],fun l e=>?_,by simp[PK,P.hd],by simp[PK,P.sd]⟩;rcases ö e with h|h
 ·obtain⟨f,b,rfl⟩:=yC.mp h
  rw[xN (by rw[P.row _ b,a])];exact P.row _ b
 ·rw[h];simp[a]
theorem Gw(x:Int):sgn x*sgn x=1:=by unfold sgn;split<;>rfl
theorem Ek{x:Int}(h:x≠0):0<sgn x*x:=by unfold sgn;split<;>lia
theorem kY{w m:Nat}{r c:Nat}(P:PN w m S)(f:r<m)(q:c<w)(hd:0<S.d)(p:S.t r c≠0):sx w m r c (sgn (S.t r c)) S.d S.t S.h S.s (PK S r c).d (PK S r c).t (PK S r c).h (PK S r c).s:=by
 have o:=P.rl f;have g:(pvl S r c).length=w+1:=by unfold pvl;rw[zH];exact o
 have e:∀j,j<w+1->gI (pvl S r c) j=sgn (S.t r c)*S.t r j:=fun j a=>by
  unfold pvl;rw[pT (by rw[o];exact a)];rfl
 have b:∀i,i<m->i≠r->∀j,j<w+1->(PK S r c).t i j=if j=c then sgn (S.t r c)*S.t i c else(S.t i j*(sgn (S.t r c)*S.t r c)-S.t i c*(sgn (S.t r c)*S.t r j))/S.d:=fun i d ne j a=>by
  have l:=P.rl d;show gI (SX.row (PK S r c) i) j=_;rw[uz (by rw[P.ls];exact d) (by rw[P.ls];exact f),yG ne];have k:gI (SX.row S i) c=S.t i c:=rfl;have h:gI (SX.row S i) j=S.t i j:=rfl;unfold chLine;by_cases z:gI (SX.row S i) c=0
  ·rw[yH z]
   rw[k]at z;rw[z];have s:∀x:Int,x-0*(sgn (S.t r c)*S.t r j)=x:=fun x=>by rw[yP,Int.sub_zero]
   rw[s];by_cases y:gI (pvl S r c) c=S.d
   ·rw[yH y,h]
    rw[e c oM]at y;rw[y,Int.mul_ediv_cancel _ oM];by_cases x:j=c
    ·rw[yH x,x,z,yO]
    ·rw[yG x]
   ·rw[yG y,pT (by rw[l];exact a),h,wv hd,e c oM]
    by_cases x:j=c
    ·rw[yH x,x,z,yO,yP,Int.zero_ediv]
    ·rw[yG x]
  ·rw[yG z]
   by_cases x:j=c
   ·rw[yH x,x,gI_set_at (by simp[l,g];lia),k]
   ·rw[yG x,gI_set_ne x,gI_zip (by rw[l];exact a) (by rw[g];exact a),wv hd,h,k,e c oM,e j a]
 have n:∀j,j<w+1->(PK S r c).t r j=if j=c then sgn (S.t r c)*S.d else-(sgn (S.t r c)*S.t r j):=fun j a=>by
  show gI (SX.row (PK S r c) r) j=_;rw[uz (by rw[P.ls];exact f) (by rw[P.ls];exact f),yH rfl];by_cases x:j=c
  ·rw[yH x,x,gI_set_at (by simp[g];lia)]
  ·rw[yG x,gI_set_ne x,pT (by rw[g];exact a),e j a]
 refine⟨Gw _,Ek p,e c oM,fun i d ne=>by rw[b i d ne c oM,yH rfl],fun i d ne j a x=>by rw[b i d ne j a,yG x],by rw[n c oM,yH rfl],fun j a x=>by rw[n j a,yG x],?_,fun j a x=>?_,?_,fun i d x=>?_⟩
 ·show((S.hd.set c (S.s r)).getD c 0)=_
  simp[zD,P.hd,q]
 ·show((S.hd.set c (S.s r)).getD j 0)=S.hd.getD j 0
  simp[zD,yW,x.symm]
 ·show((S.sd.set r (S.h c)).getD r 0)=_
  simp[zD,P.sd,f]
 ·show((S.sd.set r (S.h c)).getD i 0)=S.sd.getD i 0
  simp[zD,yW,x.symm]
def trn(S:Sh)(p:Nat):Sh:={ S with ls:=S.ls.set p ((row S p).map fun x=>- x),tn:=if S.s p∈S.tn then S.tn else S.tn++[S.s p] }
theorem trn_shp{w m p:Nat}(P:PN w m S)(a:p<m):PN w m (trn S p):=by
 refine⟨by simp[trn,P.ls],fun l b=>?_,P.hd,P.sd⟩;rcases ö b with h|h
 ·exact P.row _ h
 ·rw[h,zH];exact P.rl a
theorem trn_t{w m p:Nat}(P:PN w m S)(c:p<m):(∀j,j<w+1->(trn S p).t p j=- S.t p j)/\∀i,i<m->i≠p->∀j,j<w+1->(trn S p).t i j=S.t i j:=by
 have b:∀i,i<m->row (trn S p) i=if i=p then(row S p).map (fun x=>- x) else row S i:=fun i a=>by
  show(S.ls.set p _).getD i []=_;simp only[zD,yW];by_cases e:i=p
  ·subst e;rw[yH rfl,yH (by rw[P.ls];exact a),yH rfl];rfl
  ·rw[yG fun z=>e z.symm,yG e];unfold row;rw[zD]
 refine⟨fun j d=>?_,fun i a ne j d=>?_⟩
 ·show gI (row (trn S p) p) j=_
  rw[b p c,yH rfl,pT (by rw[P.rl c];exact d)];rfl
 ·show gI (row (trn S p) i) j=_
  rw[b i a,yG ne];rfl
def Mp(S:Sh)(w q r i:Nat):Prop:=S.t r w*- S.t i q<S.t i w*- S.t r q\/(S.t r w*- S.t i q=S.t i w*- S.t r q/\S.s r<=S.s i)
def PH(S:Sh)(w q k:Nat)(o:Option Nat):Prop:=(o=Á->∀i,i<k->S.s i∈S.gd->¬S.t i q<0)/\∀r,o=À r->r<k/\S.s r∈S.gd/\S.t r q<0/\∀i,i<k->S.s i∈S.gd->S.t i q<0->Mp S w q r i
theorem NW{A B C x y z:Int}{a b c:Nat}(p:0<x)(j:0<y)(hz:0<z)(f:A*y<B*x\/(A*y=B*x/\a<=b))(d:B*z<C*y\/(B*z=C*y/\b<=c)):A*z<C*x\/(A*z=C*x/\a<=c):=by
 have i:A*y<=B*x:=by lia
 have h:B*z<=C*y:=by lia
 have o:(A*y)*z<=(B*x)*z:=Õ i oM;have n:(B*z)*x<=(C*y)*x:=Õ h oM;have t:(B*x)*z=(B*z)*x:=by grind
 have s:(A*y)*z=(A*z)*y:=by grind
 have r:(C*y)*x=(C*x)*y:=by grind
 have g:(A*z)*y<=(C*x)*y:=by lia
 have m:A*z<=C*x:=Ą g j;by_cases e:A*z=C*x
 ·right
  refine⟨e,?_⟩;have q:(A*z)*y=(C*x)*y:=by rw[e]
  have l:A*y=B*x:=by
   have:(A*y)*z=(B*x)*z:=by(omega)
   exact Ř oM this
  have k:B*z=C*y:=by
   have:(B*z)*x=(C*y)*x:=by lia
   exact Ř oM this
  rcases f with f|f
  ·lia
  ·rcases d with d|d
   ·lia
   ·lia
 ·left;(omega)
section
variable{S:Sh}{w q k r:Nat}{o:Option Nat}
theorem tt_zero:PH S w q 0 Á:=⟨fun _ i h=>by lia,fun r h=>nomatch h⟩
theorem tt_skip(h:¬(S.t k q<0/\S.s k∈S.gd))(T:PH S w q k o):PH S w q (k+1) o:=by
 refine⟨fun e i j g f=>?_,fun r e=>?_⟩
 ·by_cases z:i=k
  ·subst z;exact h ⟨f,g⟩
  ·exact T.1 e i oM g f
 ·obtain⟨a,b,c,d⟩:=T.2 r e
  refine⟨by lia,b,c,fun i j g f=>?_⟩;by_cases z:i=k
  ·subst z;exact absurd ⟨f,g⟩ h
  ·exact d i oM g f
theorem tt_first(h:S.t k q<0)(a:S.s k∈S.gd)(T:PH S w q k Á):PH S w q (k+1) (À k):=by
 refine⟨(fun e=>nomatch e),fun r e=>?_⟩;cases e;refine⟨by lia,a,h,fun i c a b=>?_⟩;by_cases z:i=k
 ·subst z;exact .inr ⟨rfl,zP _⟩
 ·exact absurd b (T.1 rfl i oM a)
theorem tt_new(h:S.t k q<0)(l:S.s k∈S.gd)(j:S.t k w*- S.t r q<S.t r w*- S.t k q\/(S.t k w*- S.t r q=S.t r w*- S.t k q/\S.s k<S.s r))(T:PH S w q k (À r)):PH S w q (k+1) (À k):=by
 refine⟨(fun e=>nomatch e),fun m e=>?_⟩;cases e;obtain⟨a,b,c,d⟩:=T.2 r rfl;refine⟨by lia,l,h,fun i n g f=>?_⟩;by_cases z:i=k
 ·subst z;exact .inr ⟨rfl,zP _⟩
 ·exact NW (x:=- S.t k q) (y:=- S.t r q) (z:=- S.t i q) oM oM oM (j.imp id fun x=>⟨x.1,by lia⟩) (d i oM g f)
theorem tt_old(h:S.t k q<0)(j:¬(S.t k w*- S.t r q<S.t r w*- S.t k q\/(S.t k w*- S.t r q=S.t r w*- S.t k q/\S.s k<S.s r)))(T:PH S w q k (À r)):PH S w q (k+1) (À r):=by
 refine⟨(fun e=>nomatch e),fun l e=>?_⟩;cases e;obtain⟨a,b,c,d⟩:=T.2 r rfl;refine⟨by lia,b,c,fun i m g f=>?_⟩;by_cases z:i=k
 ·subst z
  unfold Mp;have n:¬(S.t i w*- S.t r q<S.t r w*- S.t i q):=fun x=>j (.inl x)
  by_cases e:S.t i w*- S.t r q=S.t r w*- S.t i q
  ·exact .inr ⟨e.symm,U9 fun x=>j (.inr ⟨e,x⟩)⟩
  ·left;(omega)
 ·exact d i oM g f
end
noncomputable def vt(v:Nat->Nat->Int)(tn:List Nat):Nat->Nat->Int:=fun q x=>if q∈tn then-v q x else v q x
structure MI(w m:Nat)(v:Nat->Nat->Int)(S:Sh):Prop where
 shp:PN w m S
 lin:Lin w m (vt v S.tn) S.d S.t S.h S.s
 pm:Pm w m S.h S.s
 fea:Fea w m (·∈S.gd) (·∈S.nl) S.t S.h S.s
def toSt(S:Sh):St:=⟨S.d,S.t,S.h,S.s⟩
def Rais(w:Nat)(S:Sh)(p:Nat)(o:Option Nat):Prop:=(o=Á->∀j,j<w->S.h j∉S.nl->¬0<S.t p j)/\∀q,o=À q->q<w/\S.h q∉S.nl/\0<S.t p q/\∀j,j<w->S.h j∉S.nl->0<S.t p j->S.h q<=S.h j
structure Kept(m p:Nat)(S T:Sh):Prop where
 gd:T.gd=S.gd
 nl:T.nl=S.nl
 tn:T.tn=S.tn
 si:∀i,i<m->i≠p->S.s i∉S.gd->T.s i=S.s i
section
variable{w m p q r:Nat}{v:Nat->Nat->Int}{S T:Sh}
theorem Kept.refl:Kept m p S S:=⟨rfl,rfl,rfl,fun _ _ _ _=>rfl⟩
theorem Kept.trans(a:Kept m p S T)(b:Kept m p T U):Kept m p S U :=
 ⟨b.gd.trans a.gd,b.nl.trans a.nl,b.tn.trans a.tn,fun i c ne h=>by
  have d:=a.si i c ne h;rw[b.si i c ne (by rw[d,a.gd];exact h),d]⟩
theorem MI.step(I:MI w m v S)(n:p<m)(h:S.s p∉S.gd)(l:Rais w S p (À q))(k:PH S w q m (À r)):MI w m v (PK S r q)/\Bl w m p (·∈S.gd) (·∈S.nl) r q (sgn (S.t r q)) (toSt S) (toSt (PK S r q))/\Kept m p S (PK S r q)/\(PK S r q).s p=S.s p:=by
 obtain ⟨b,g,s,o⟩:=l.2 q rfl;obtain ⟨r1,r2,f,e⟩:=k.2 r rfl;have a:=kY I.shp r1 b I.lin.pos (show S.t r q ≠ 0 by lia);refine ⟨⟨exch_shp I.shp r1,I.lin.piv a r1 b,I.pm.piv a r1 b,?_⟩,⟨b,g,s,o,r1,r2,f,e,a⟩,⟨rfl,rfl,rfl,fun i c _ d=>?_⟩,?_⟩
 ·exact Fea.tight I.lin I.pm I.fea a r1 b g r2 f fun i c d j=>by
   rcases e i c d j with z|z
   ·lia
   ·exact Y9 z.1
 ·exact a.si i c fun z=>d (by rw[z];exact r2)
 ·exact a.si p n fun z=>h (by rw[z];exact r2)
theorem MI.low(I:MI w m v S)(c:p<m)(f:S.s p∉S.gd)(h:Rais w S p (À q))(g:PH S w q m (À r))(n:¬S.t p w*S.t r q<=S.t r w*S.t p q):(PK S r q).t p w<0:=by
 obtain ⟨i,t,s,o⟩:=h.2 q rfl;obtain ⟨r1,r2,d,l⟩:=g.2 r rfl;have a:=kY I.shp r1 i I.lin.pos (show S.t r q ≠ 0 by lia);have ne:p ≠ r:=fun z=>f (by rw [z];exact r2)
 have b:=I.lin.ex' (e:=sgn (S.t r q)) c r1 (show q < w + 1 by lia) (show w < w + 1 by lia) (show q ≠ w by lia);rw [<- a.tj p c ne w oM oM] at b;have k:sgn (S.t r q)=-1:=by unfold sgn;rw [yH d]
 rw[k]at b;have j:S.t p w*(-1*S.t r q)-S.t p q*(-1*S.t r w)=S.t r w*S.t p q-S.t p w*S.t r q:=by grind
 rw[j]at b;rcases yU ((PK S r q).t p w) 0 with z|z
 ·exact z
 ·have:=Ý (Ă I.lin.pos) z;lia
theorem MI.up(I:MI w m v S)(e:p<m)(C:S.s p∉S.gd)(B:S.s p∉S.nl)(low:S.t p w<0)(A:Rais w S p (À q))(h:PH S w q m Á\/∃r,PH S w q m (À r)/\S.t p w*S.t r q<=S.t r w*S.t p q) :
  MI w m v { PK S p q with gd:=S.gd++[S.s p] }/\MI w m v { PK S p q with nl:=S.nl++[S.s p] }/\Kept m p S (PK S p q):=by
 obtain ⟨f,s,l,D⟩:=A.2 q rfl;have d:=kY I.shp e f I.lin.pos (show S.t p q ≠ 0 by lia);have sh:=exch_shp (c:=q) I.shp e;have n:∀ i,i < m->S.s i ∈ S.gd->S.t i q < 0->S.t p w * S.t i q <= S.t i w * S.t p q:=fun i j o k=>by
  rcases h with h|⟨r,h,y⟩
  ·exact absurd k (h.1 rfl i j o)
  ·obtain⟨r1,r2,u,t⟩:=h.2 r rfl
   refine Fj (a:=S.t r w) (b:=S.t r q) u k l y ?_;rcases t i j o k with z|z
   ·lia
   ·exact Y9 z.1
 refine⟨⟨⟨sh.ls,sh.row,sh.hd,sh.sd⟩,I.lin.piv d e f,I.pm.piv d e f,?_⟩,⟨⟨sh.ls,sh.row,sh.hd,sh.sd⟩,I.lin.piv d e f,I.pm.piv d e f,?_⟩,⟨rfl,rfl,rfl,fun i j ne _=>d.si i j ne⟩⟩
 ·exact Fea.lift (G':=(·∈S.gd++[S.s p])) I.lin I.pm I.fea d e f s l low n (fun x g=>by simp[g]) (fun x g=>.rfl) (.inl (by simp))
 ·exact Fea.lift (N':=(·∈S.nl++[S.s p])) I.lin I.pm I.fea d e f s l low n (fun x g=>.rfl) (fun x g=>by simp[g]) (.inr (by simp))
theorem MI.move(I:MI w m v S)(b:p<m)(d:q<w)(f:S.h q∉S.nl)(h:S.t p w=0)(hz:S.t p q≠0):MI w m v { PK S p q with nl:=S.nl++[S.s p] }/\Kept m p S (PK S p q):=by
 have a:=kY I.shp b d I.lin.pos hz;have sh:=exch_shp (c:=q) I.shp b;refine⟨⟨⟨sh.ls,sh.row,sh.hd,sh.sd⟩,I.lin.piv a b d,I.pm.piv a b d,?_⟩,⟨rfl,rfl,rfl,fun i g ne _=>a.si i g ne⟩⟩;exact Fea.move (N':=(·∈S.nl++[S.s p])) I.lin I.pm I.fea a b d f h (fun x e=>.rfl) (fun x e=>by simp[e]) (.inr (by simp))
theorem MI.guard(I:MI w m v S)(a:p<m)(b:0<=S.t p w):MI w m v { S with gd:=S.gd++[S.s p] }:=by
 refine⟨⟨I.shp.ls,I.shp.row,I.shp.hd,I.shp.sd⟩,I.lin,I.pm,?_⟩;have e:(fun x=>x∈S.gd++[S.s p])=fun x=>x∈S.gd\/x=S.s p:=by funext x;simp
 show Fea w m (fun x=>x∈S.gd++[S.s p]) _ _ _ _;rw[e];exact Fea.guard I.fea I.pm a b
theorem MI.nail(I:MI w m v S)(a:p<m)(b:S.t p w=0)(hz:∀j,j<w->S.h j∉S.nl->S.t p j=0):MI w m v { S with nl:=S.nl++[S.s p] }:=by
 refine⟨⟨I.shp.ls,I.shp.row,I.shp.hd,I.shp.sd⟩,I.lin,I.pm,?_⟩;have e:(fun x=>x∈S.nl++[S.s p])=fun x=>x∈S.nl\/x=S.s p:=by funext x;simp
 show Fea w m _ (fun x=>x∈S.nl++[S.s p]) _ _ _;rw[e];exact Fea.nail I.fea I.pm a b hz
theorem MI.turn(I:MI w m v S)(a:p<m)(g:S.s p∉S.gd)(f:S.s p∉S.nl)(c:S.s p∉S.tn):MI w m v (trn S p):=by
 obtain⟨d,b⟩:=trn_t I.shp a;refine⟨trn_shp I.shp a,?_,I.pm,Fea.turn I.fea I.pm a g f b⟩;have e:vt v (trn S p).tn=tv (vt v S.tn) (S.s p):=by
  have:(trn S p).tn=S.tn++[S.s p]:=by show(if _ then _ else _)=_;rw[yG c]
  rw[this];funext q x;unfold vt tv;by_cases h:q=S.s p
  ·subst h;simp[c]
  ·simp[h]
 rw[e];exact Lin.turn I.lin I.pm a d b
theorem no_chain(k:p<m)(f:Nat->Sh)(h:∀n,MI w m v (f n)/\(∃r q e,Bl w m p (·∈(f n).gd) (·∈(f n).nl) r q e (toSt (f n)) (toSt (f (n+1))))/\Kept m p (f n) (f (n+1)))(i:(f 0).s p∉(f 0).gd):False:=by
 have a:∀n,Kept m p (f 0) (f n):=fun n=>by
  induction n with
  |zero=>exact Kept.refl
  |succ n j=>exact j.trans (h n).2.2
 have g:∀n,∃r q e,Bl w m p (·∈(f 0).gd) (·∈(f 0).nl) r q e (toSt (f n)) (toSt (f (n+1))):=fun n=>by
  have:=(h n).2.1;rw[(a n).gd,(a n).nl]at this;exact this
 let r:=fun n=>Č (g n)
 have b:=fun n=>ě (g n)
 let q:=fun n=>Č (b n)
 have d:=fun n=>ě (b n)
 let e:=fun n=>Č (d n)
 have l:=fun n=>ě (d n)
 refine Run.ends (w:=w) (m:=m) (p:=p) (v:=vt v (f 0).tn) (G:=(·∈(f 0).gd)) (N:=(·∈(f 0).nl)) (S:=fun n=>toSt (f n)) (r:=r) (c:=q) (e:=e) ⟨fun n=>?_,fun n=>(h n).1.pm,fun n=>?_,fun n=>?_,k,i⟩
 ·have:=(h n).1.lin;rw[(a n).tn]at this;exact this
 ·have:=(h n).1.fea;rw[(a n).gd,(a n).nl]at this;exact this
 ·exact l n
theorem MI.bound(I:MI w m v S){M B:Nat}(f:1<=M)(b:∀q x,x<w+1->(v q x).natAbs<=M)(c:fct (w+1)*M^(w+1)<B):S.d.natAbs<B/\∀i,i<m->∀j,j<w+1->(S.t i j).natAbs<B:=by
 have:=I.lin.bound f (M:=M) fun q x a=>by
  unfold vt;split
  ·rw[â];exact b q x a
  ·exact b q x a
 exact⟨yL this.1 c,fun i e j d=>yL (this.2 i e j d) c⟩
end
theorem wA:∀n:Nat,bA n (fun i j=>if j=i then 1 else 0)=1
 |0=>rfl
 |n+1=>by
  show PD (n+1) _=1;rw[sum_one (k:=0) oM fun k hk ne=>by
   show sg k*(if 0=k then 1 else 0)*_=0;rw[yG fun z=>ne z.symm,yO,yP]]
  have:bA n (gM (fun i j=>if j=i then(1:Int) else 0) 0)=1:=by
   rw[dL (B:=fun i j=>if j=i then(1:Int) else 0) fun i j _ _=>?_]
   ·exact wA n
   ·unfold gM skip;simp
  rw[this];rfl
def v0(w:Nat)(L:List (List Int)):Nat->Nat->Int:=fun q x=>if q<w then(if x=q then 1 else 0) else gI (L.getD (q-w) []) x
noncomputable def openS(w:Nat)(L:List (List Int))(k:Nat):Sh:=⟨1,L,É w,(É L.length).map (w+·),É k,[],[]⟩
theorem open_MI{w nr:Nat}(r:∀l∈L,l.length=w+1)(hz:∀i,i<nr->gI (L.getD i []) w=0):MI w L.length (v0 w L) (openS w L (w+nr)):=by
 have d:∀j,j<w->(openS w L (w+nr)).h j=j:=fun j a=>by show(É w).getD j 0=j;simp[zD,a]
 have c:∀i,i<L.length->(openS w L (w+nr)).s i=w+i:=fun i b=>by show((É L.length).map (w+·)).getD i 0=w+i;simp[zD,b]
 have o:vt (v0 w L) (openS w L (w+nr)).tn=v0 w L:=by funext q x;unfold vt;exact yG (by show q∉[];simp)
 have m:∀k,k<w+1->∀x,x<w+1->aK w (v0 w L) (openS w L (w+nr)).h k x=if x=k then 1 else 0:=fun k f x g=>by
  unfold aK;by_cases e:k=w
  ·rw[yH e,e];rfl
  ·rw[yG e,d k oM];unfold v0;rw[yH oM]
 refine⟨⟨rfl,r,by simp[openS],by simp[openS]⟩,?_,?_,?_⟩
 ·rw[o]
  refine⟨Int.one_pos,fun i b x g=>?_,1,rfl,?_⟩
  ·rw[c i b,sum_one (k:=x) g fun k f ne=>by rw[m k f x g,yG fun z=>ne z.symm,yO],m x g x g,yH rfl]
   unfold v0;rw[yG oM,show w+i-w=i by lia];show 1*gI (L.getD i []) x=gI (L.getD i []) x*1;lia
  ·rw[dL (B:=fun i j=>if j=i then 1 else 0) fun i j b a=>m i b j a,wA];rfl
 ·refine⟨fun j a=>by rw[d j a];lia,fun i b=>by rw[c i b];lia,fun j k a f e=>by rw[d j a,d k f]at e;exact e,fun j k a f e=>by rw[c j a,c k f]at e;lia,fun j i a b e=>by rw[d j a,c i b]at e;lia,fun q s=>?_⟩
  by_cases h:q<w
  ·exact .inr ⟨q,h,d q h⟩
  ·exact .inl ⟨q-w,by lia,by rw[c _ oM];lia⟩
 ·refine⟨fun i b n=>?_,fun i b p=>?_,fun j a=>.inl ?_⟩
  ·rw[c i b]at n
   have:w+i<w+nr:=Ö.mp n;show 0<=gI (L.getD i []) w;rw[hz i oM];decide
  ·exact absurd (show _ ∈ ([]:List Nat) from p) (by simp)
  ·rw[d j a];exact Ö.mpr oM
theorem open_s{w k i:Nat}(a:i<L.length):(openS w L k).s i=w+i:=by show((É L.length).map (w+·)).getD i 0=w+i;simp[zD,a]
def Qt(w:Nat)(v:Nat->Nat->Int)(Y:Nat->Int)(e:Int)(q:Nat):Int:=(PD w fun x=>v q x*Y x)+v q w*e
section
variable{w m p:Nat}{v:Nat->Nat->Int}{S:Sh}
theorem qg{Y:Nat->Int}{e:Int}{q:Nat}:Qt w (vt v S.tn) Y e q=if q∈S.tn then-Qt w v Y e q else Qt w v Y e q:=by
 unfold Qt vt;by_cases h:q∈S.tn
 ·simp only[yH h]
  rw[sum_congr (g:=fun x=>(-1)*(v q x*Y x)) fun x _=>by grind,sum_mul];grind
 ·simp only[yG h]
theorem MI.line(I:MI w m v S)(d:p<m)(Y:Nat->Int)(e:Int):S.d*Qt w (vt v S.tn) Y e (S.s p)=(PD w fun j=>S.t p j*Qt w (vt v S.tn) Y e (S.h j))+S.t p w*e:=by
 have h:=I.lin.lin p d;have c:∀x,x<w+1->S.d*vt v S.tn (S.s p) x=(PD w fun k=>S.t p k*vt v S.tn (S.h k) x)+S.t p w*(if x=w then 1 else 0):=fun x b=>by
  rw[h x b];show PD w _+S.t p w*aK w (vt v S.tn) S.h w x=_;have a:aK w (vt v S.tn) S.h w x=if x=w then 1 else 0:=by unfold aK;rw[yH rfl];rfl
  rw[a];congr 1;exact sum_congr fun k l=>by unfold aK;rw[yG oM]
 unfold Qt;rw[P9,<- sum_mul];have a:(PD w fun x=>S.d*(vt v S.tn (S.s p) x*Y x))=PD w fun j=>S.t p j*PD w fun x=>vt v S.tn (S.h j) x*Y x:=by
  rw[sum_congr (g:=fun x=>PD w fun k=>S.t p k*(vt v S.tn (S.h k) x*Y x)) fun x b=>by
   rw[<- t?,c x oM,yG oM,yO,ĥ,ϫ,<- sum_mul];exact sum_congr fun k _=>by grind,Bq]
  exact sum_congr fun j _=>by rw[sum_mul]
 have i:S.d*(vt v S.tn (S.s p) w*e)=(PD w fun j=>S.t p j*(vt v S.tn (S.h j) w*e))+S.t p w*e:=by
  rw[<- t?,c w oM,yH rfl,P7,Int.add_mul];congr 1;rw[ϫ,<- sum_mul];exact sum_congr fun k _=>by grind
 rw[a,i,sum_congr (f:=fun j=>S.t p j*((PD w fun x=>vt v S.tn (S.h j) x*Y x)+vt v S.tn (S.h j) w*e)) (g:=fun j=>S.t p j*(PD w fun x=>vt v S.tn (S.h j) x*Y x)+S.t p j*(vt v S.tn (S.h j) w*e)) fun j _=>by rw[P9],sum_add];lia
theorem wZ{n:Nat}{f:Nat->Int}(h:∀i,i<n->f i<=0):PD n f<=0:=by
 induction n with
 |zero=>exact Ő 0
 |succ n a=>have:=a fun i b=>h i oM;have:=h n oM;simp only[PD];lia
theorem MI.dual(I:MI w m v S)(d:p<m)(g:∀j,j<w->S.h j∉S.nl->¬0<S.t p j)(tn:∀q∈S.tn,q∈S.nl\/q=S.s p){Y:Nat->Int}{e:Int}(k:∀j,j<w->S.h j∉S.nl->0<=Qt w v Y e (S.h j))(i:∀j,j<w->S.h j∈S.nl->Qt w v Y e (S.h j)=0) :
  S.d*(if S.s p∈S.tn then-Qt w v Y e (S.s p) else Qt w v Y e (S.s p))<=S.t p w*e:=by
 rw[<- qg,I.line d Y e];have:(PD w fun j=>S.t p j*Qt w (vt v S.tn) Y e (S.h j))<=0:=wZ fun j c=>by
  by_cases h:S.h j∈S.nl
  ·rw[qg,i j c h];split<;>lia
  ·have f:S.h j∉S.tn:=fun z=>by
    rcases tn _ z with y|y
    ·exact h y
    ·exact I.pm.hs j p c d y
   rw[qg,yG f];have a:=g j c h;have b:=k j c h;exact ă oM b
 lia
theorem MI.vert(I:MI w m v S)(l:∀q,q<w->∀x,x<w+1->v q x=if x=q then 1 else 0)(g:∀q∈S.tn,w<=q){c:Nat}(p:c<w+1){X:Nat->Int}(s:∀i,i<m->S.s i<w->X (S.s i)=S.t i c)(r:∀j,j<w->S.h j<w->X (S.h j)=if j=c then S.d else 0) :
  (∀i,i<m->Qt w v X (if c=w then S.d else 0) (S.s i)=if S.s i∈S.tn then-S.t i c else S.t i c)/\∀j,j<w->Qt w v X (if c=w then S.d else 0) (S.h j)=if j=c then(if S.h j∈S.tn then-S.d else S.d) else 0:=by
 have d:∀q,q<w->∀x,x<w+1->vt v S.tn q x=if x=q then 1 else 0:=fun q f x k=>by
  unfold vt;rw[yG fun z=>by have:=g q z;lia];exact l q f x k
 obtain⟨a,b⟩:=I.lin.func d p s r fun q f=>I.pm.cov q oM
 refine⟨fun i o=>?_,fun j n=>?_⟩
 ·have e:Qt w (vt v S.tn) X (if c=w then S.d else 0) (S.s i)=S.t i c:=a i o
  rw[qg]at e;split at e
  ·rename_i h;rw[yH h];lia
  ·rename_i h;rw[yG h];exact e
 ·have e:Qt w (vt v S.tn) X (if c=w then S.d else 0) (S.h j)=if j=c then S.d else 0:=b j n
  rw[qg]at e;by_cases h:j=c
  ·rw[yH h]at e ⊢
   split at e
   ·rename_i h;rw[yH h];lia
   ·rename_i h;rw[yG h];exact e
  ·rw[yG h]at e ⊢
   split at e
   ·lia
   ·exact e
end
end SX
namespace R
open PySem PySem.Spec L2
open DD (pyOk)
section
variable{ks:List Fn}{sl:Sl}{st:aa}
@[simp] theorem Pt:ev ks .n sl st=À (.non,st):=rfl
@[simp] theorem Pv{x:Bool}:ev ks (.b x) sl st=À (.bl x,st):=rfl
@[simp] theorem cU{x:Int}:ev ks (.i x) sl st=À (.int x,st):=rfl
@[simp] theorem qZ{x:Í}:ev ks (.s x) sl st=À (.str x,st):=rfl
@[simp] theorem Pu{x:Í}{c:AV}:ev ks (.g x c) sl st=À (c,st):=rfl
@[simp] theorem cq{k:Nat}:ev ks (.v k) sl st=aV k sl st:=rfl
@[simp] theorem bR{v:AV}:aV 0 (À v::sl) st=À (v,st):=rfl
@[simp] theorem bQ{k:Nat}{x:Option AV}:aV (k+1) (x::sl) st=aV k sl st:=rfl
@[simp] theorem ce{o:ġ}{a b:Ex}:ev ks (.bin o a b) sl st=(ev ks a sl st).bind fun p=>(ev ks b sl p.2).bind fun q=>(bh o q.2 p.1 q.1).map fun z=>(z,q.2):=rfl
@[simp] theorem wO{o:Ϡ}{a b:Ex}:ev ks (.cmp o a b) sl st=(ev ks a sl st).bind fun p=>(ev ks b sl p.2).bind fun q=>(oQ o q.2 p.1 q.1).map fun z=>(z,q.2):=rfl
@[simp] theorem Mz{o:UnaryOp}{a:Ex}:ev ks (.un o a) sl st=(ev ks a sl st).bind fun p=>(iY o p.2 p.1).map fun z=>(z,p.2):=rfl
noncomputable def N8(x:AV)(st:aa):Option (AV×aa):=match x with
 |.bl b=>À (.bl !b,st)
 |_=>Á
noncomputable def Jt(x:AV)(st:aa)(r:Option (AV×aa)):Option (AV×aa):=match x with
 |.bl b=>if b=Â then r else À (.bl Ä,st)
 |_=>Á
noncomputable def HC(x:AV)(st:aa)(r:Option (AV×aa)):Option (AV×aa):=match x with
 |.bl b=>if b=Â then À (.bl Â,st) else r
 |_=>Á
@[simp] theorem OT{b:Bool}:N8 (.bl b) st=À (.bl !b,st):=rfl
@[simp] theorem OZ{b:Bool}{r:Option (AV×aa)}:Jt (.bl b) st r=if b=Â then r else À (.bl Ä,st):=rfl
@[simp] theorem OS{b:Bool}{r:Option (AV×aa)}:HC (.bl b) st r=if b=Â then À (.bl Â,st) else r:=rfl
@[simp] theorem O6{a b:Ex}:ev ks (.an a b) sl st=(ev ks a sl st).bind fun p=>Jt p.1 p.2 (ev ks b sl p.2):=by
 show DJ (ev ks a) (ev ks b) sl st=_;unfold DJ Jt;congr 1;funext p;cases p.1<;>first|rfl|skip
 rename_i x;cases x<;>rfl
@[simp] theorem O0{a b:Ex}:ev ks (.or a b) sl st=(ev ks a sl st).bind fun p=>HC p.1 p.2 (ev ks b sl p.2):=by
 show DF (ev ks a) (ev ks b) sl st=_;unfold DF HC;congr 1;funext p;cases p.1<;>first|rfl|skip
 rename_i x;cases x<;>rfl
@[simp] theorem CU{t:Tx}{a b:Ex}:ev ks (.ife t a b) sl st=(tv ks t sl st).bind fun p=>if p.1=Â then ev ks a sl p.2 else ev ks b sl p.2:=rfl
@[simp] theorem eQ{a b:Ex}:ev ks (.ix a b) sl st=(ev ks a sl st).bind fun p=>(ev ks b sl p.2).bind fun q=>(aJ q.2 p.1 q.1).map fun z=>(z,q.2):=rfl
@[simp] theorem fV{p:Bool}{j:Nat}{es:Exs}:ev ks (.ca p j es) sl st=(eY ks es sl st).bind fun q=>zr p (kf ks j) q.1 q.2:=rfl
@[simp] theorem fR{f:Fn}:zr Â f=pm f:=rfl
@[simp] theorem xh{f:Fn}:zr Ä f=f:=rfl
@[simp] theorem fY{f:Fn}:kf (f::ks) 0=f:=rfl
@[simp] theorem gC{f:Fn}{j:Nat}:kf (f::ks) (j+1)=kf ks j:=rfl
@[simp] theorem ba:eY ks .nil sl st=À ([],st):=rfl
@[simp] theorem aQ{e:Ex}{es:Exs}:eY ks (.cons e es) sl st=(ev ks e sl st).bind fun p=>(eY ks es sl p.2).bind fun q=>À (p.1::q.1,q.2):=rfl
@[simp] theorem wM{es:Exs}:ev ks (.tu es) sl st=(eY ks es sl st).bind fun p=>if Û p.1.length 1000=Â then À (.tup p.1,p.2) else Á:=rfl
@[simp] theorem du{x:Nx}:ev ks (.nw Ä x) sl st=(jk ks x sl st).bind fun p=>if rfs p.1=Â then À (.fz p.1,p.2) else Á:=rfl
@[simp] theorem wN{x:Nx}:ev ks (.nw Â x) sl st=(jk ks x sl st).bind fun p=>À (.ref p.2.length,p.2++[.lst p.1]):=rfl
@[simp] theorem O3{c m:Í}{j:Nat}{o:Ex}{es:Exs}:ev ks (.me c m j o es) sl st=(ev ks o sl st).bind fun p=>(jW p.2 c p.1).bind fun fs=>if(fs.lookup m).isNone=Â then(eY ks es sl p.2).bind fun q=>kf ks j (p.1::q.1) q.2 else Á:=rfl
@[simp] theorem O1{c:Í}{j:Nat}{es:Exs}:ev ks (.ne c j es) sl st=A1 c (kf ks j) (eY ks es) sl st:=rfl
@[simp] theorem O4{c f:Í}{o:Ex}:ev ks (.fd c f o) sl st=(ev ks o sl st).bind fun p=>(jW p.2 c p.1).bind fun fs=>(fs.lookup f).map fun v=>(v,p.2):=rfl
@[simp] theorem oy{b:Bi}{es:Exs}:ev ks (.bi b es) sl st=(eY ks es sl st).bind fun p=>n8 b p.1 p.2:=rfl
@[simp] theorem AX:n8 .len=bI eV:=rfl
@[simp] theorem AW:n8 .sum=bI qB:=rfl
@[simp] theorem Op:n8 .abs=bI lb:=rfl
@[simp] theorem Jm:n8 .min=bI xy:=rfl
@[simp] theorem Jn:n8 .max=bI qH:=rfl
@[simp] theorem Oo:n8 .int=bI qK:=rfl
@[simp] theorem Jo:n8 .all=bI vd:=rfl
@[simp] theorem O2{m:Mi}{o:Ex}{es:Exs}:ev ks (.mt m o es) sl st=qf (vU m) (vT m) (ev ks o) (eY ks es) sl st:=rfl
@[simp] theorem O5:ev ks .dn sl st=À (.ref st.length,st++[.dK []]):=rfl
@[simp] theorem ON{a:Ex}:ev ks (.mnd a) sl st=(ev ks a sl st).bind fun p=>bI pw [p.1] p.2:=by
 show(dX (ev ks a) eL sl st).bind _=_;unfold dX eL;cases ev ks a sl st<;>rfl
@[simp] theorem OM{a k:Ex}:ev ks (.mnk a k) sl st=sU (ev ks a) (ev ks k) sl st:=rfl
@[simp] theorem OL{a:Ex}{l h:Ox}:ev ks (.slt a l h) sl st=CJ (ev ks a) (my ks l) (my ks h) sl st:=rfl
@[simp] theorem Nl{a b c:Ex}:eO ks (.r3 a b c) sl st=Dl (ev ks a) (ev ks b) (ev ks c) sl st:=rfl
@[simp] theorem B4{es:Exs}:jk ks (.li es) sl st=(eY ks es sl st).bind fun p=>if dE p.1.length=Â then À p else Á:=rfl
@[simp] theorem xr{a b:Ex}:jk ks (.cat a b) sl st=tT (ev ks a) (ev ks b) sl st:=rfl
@[simp] theorem Kt{es:Exs}{b:Ex}:jk ks (.rep es b) sl st=xu (eY ks es) (ev ks b) sl st:=rfl
@[simp] theorem tQ{a:Ex}{l h:Ox}:jk ks (.sl a l h) sl st=lT (ev ks a) (my ks l) (my ks h) sl st:=rfl
@[simp] theorem Dd{a:Ex}:jk ks (.lof a) sl st=oF (ev ks a) sl st:=rfl
@[simp] theorem OV{a:Ex}:jk ks (.lr1 a) sl st=xx (ev ks a) sl st:=rfl
@[simp] theorem OU{a b:Ex}:jk ks (.lr2 a b) sl st=xw (ev ks a) (ev ks b) sl st:=rfl
@[simp] theorem M9{k:Nat}{it:Ix}{t:Tg}{c:Cx'}{e:Ex}:jk ks (.lc k it t c e) sl st=(eO ks it sl st).bind fun p=>if dE p.1.PB.length=Â then iD p.1.gd (cj ks t) (kA ks c) (ev ks e) (sl++Æ k Á) p.1.PB p.2 else Á:=rfl
@[simp] theorem HJ:my ks .no sl st=À (Á,st):=rfl
@[simp] theorem tN{e:Ex}:my ks (.so e) sl st=lQ (ev ks e) sl st:=rfl
@[simp] theorem Pn:kA ks .no sl st=À (Â,st):=rfl
@[simp] theorem Pl{t:Tx}:kA ks (.so t) sl st=tv ks t sl st:=rfl
@[simp] theorem IG{a:Ex}:eO ks (.e a) sl st=(ev ks a sl st).bind fun p=>(pD p.2 p.1).map fun iv=>(iv,p.2):=rfl
@[simp] theorem Pi{a:Ex}:eO ks (.r1 a) sl st=Dn (ev ks a) sl st:=rfl
@[simp] theorem Ph{a b:Ex}:eO ks (.r2 a b) sl st=Dm (ev ks a) (ev ks b) sl st:=rfl
@[simp] theorem Nk{a b:Ex}:eO ks (.zi a b) sl st=iZ (ev ks a) (ev ks b) sl st:=rfl
@[simp] theorem Nm{a:Ex}:eO ks (.en a) sl st=(ev ks a sl st).bind fun p=>(jb p.2 p.1).map fun iv=>(⟨fD 0 iv.PB,iv.gd⟩,p.2):=rfl
@[simp] theorem Pj{a b:Ex}:eO ks (.es a b) sl st=xK (ev ks a) (ev ks b) sl st:=rfl
@[simp] theorem Cq{k:Nat}{x:AV}:cj ks (.nm k) x sl st=À (sl.set k (À x),st):=rfl
@[simp] theorem Pk{n:Nat}{ts:Tgs}{x:AV}:cj ks (.tu n ts) x sl st=AB n (jY ks ts) x sl st:=rfl
@[simp] theorem No{a b:Ex}{x:AV}:cj ks (.su a b) x sl st=(ev ks a sl st).bind fun p=>(ev ks b sl p.2).bind fun q=>(kN q.2 p.1 q.1 x).map fun st'=>(sl,st'):=rfl
@[simp] theorem Oe{xs:List AV}:jY ks .nil xs sl st=IL xs sl st:=rfl
@[simp] theorem NJ{t:Tg}{ts:Tgs}{xs:List AV}:jY ks (.cons t ts) xs sl st=IP (cj ks t) (jY ks ts) xs sl st:=rfl
@[simp] theorem O7{e:Ex}:tv ks (.va e) sl st=(ev ks e sl st).bind fun p=>(fH p.2 p.1).map fun b=>(b,p.2):=rfl
@[simp] theorem eN{o:Ϡ}{a b:Ex}:tv ks (.cmp o a b) sl st=(ev ks a sl st).bind fun p=>(ev ks b sl p.2).bind fun q=>(bg o q.2 p.1 q.1).map fun b=>(b,q.2):=rfl
@[simp] theorem O8{t:Tx}:tv ks (.no t) sl st=(tv ks t sl st).bind fun p=>À (!p.1,p.2):=rfl
@[simp] theorem O9{t u:Tx}:tv ks (.an t u) sl st=(tv ks t sl st).bind fun p=>if p.1=Â then tv ks u sl p.2 else À (Ä,p.2):=rfl
@[simp] theorem MG{t u:Tx}:tv ks (.or t u) sl st=(tv ks t sl st).bind fun p=>if p.1=Â then À (Â,p.2) else tv ks u sl p.2:=rfl
@[simp] theorem OK:ae ks .nil sl st=À (.nx sl st):=rfl
noncomputable def ka(o:Out)(k:Sl->aa->Option Out):Option Out:=match o with
 |.nx sl st=>k sl st
 |o=>À o
@[simp] theorem Ag{k:Sl->aa->Option Out}:ka (.nx sl st) k=k sl st:=rfl
@[simp] theorem Af{v:AV}{k:Sl->aa->Option Out}:ka (.rt v st) k=À (.rt v st):=rfl
@[simp] theorem N7{k:Sl->aa->Option Out}:ka (.bk sl st) k=À (.bk sl st):=rfl
@[simp] theorem N6{k:Sl->aa->Option Out}:ka (.ct sl st) k=À (.ct sl st):=rfl
@[simp] theorem lJ{s:Sx}{a:PP}:ae ks (.cons s a) sl st=(cZ ks s sl st).bind fun o=>ka o (ae ks a):=by
 show(cZ ks s sl st).bind _=(cZ ks s sl st).bind _;congr 1
@[simp] theorem Gz{e:Ex}:cZ ks (.ex e) sl st=(ev ks e sl st).bind fun p=>À (.nx sl p.2):=rfl
@[simp] theorem eS{e:Ex}{t:Tg}:cZ ks (.as e t) sl st=(ev ks e sl st).bind fun p=>(cj ks t p.1 sl p.2).bind fun q=>À (.nx q.1 q.2):=rfl
@[simp] theorem JP{o:ġ}{a b e:Ex}:cZ ks (.aus o a b e) sl st=xc o (ev ks a) (ev ks b) (ev ks e) sl st:=rfl
@[simp] theorem Pa{c f:Í}{o e:Ex}:cZ ks (.fl c f o e) sl st=zc c f (ev ks o) (ev ks e) sl st:=rfl
@[simp] theorem qD{e:Ex}:cZ ks (.rt e) sl st=(ev ks e sl st).bind fun p=>À (.rt p.1 p.2):=rfl
@[simp] theorem dF{t:Tx}{a b:PP}:cZ ks (.iff t a b) sl st=(tv ks t sl st).bind fun p=>if p.1=Â then ae ks a sl p.2 else ae ks b sl p.2:=rfl
@[simp] theorem jV{it:Ix}{t:Tg}{b:PP}:cZ ks (.fo it t b) sl st=(eO ks it sl st).bind fun p=>dR p.1.gd (cj ks t) (ae ks b) p.1.PB sl p.2:=rfl
@[simp] theorem OP{a:Ex}{t:Tg}{b:PP}:cZ ks (.fd a t b) sl st=xb (ev ks a) (cj ks t) (ae ks b) sl st:=rfl
@[simp] theorem MW{t:Tx}{b:PP}:cZ ks (.wh t b) sl st=nE (tv ks t) (ae ks b) sl st:=rfl
@[simp] theorem N1:cZ ks .dead sl st=Á:=rfl
noncomputable def au(o:Out):Option (AV×aa):=match o with
 |.rt v st=>À (v,st)
 |.nx _ st=>À (.non,st)
 |_=>Á
@[simp] theorem Og{v:AV}:au (.rt v st)=À (v,st):=rfl
@[simp] theorem Oh:au (.nx sl st)=À (.non,st):=rfl
theorem aw{n:Nat}{b:PP}{args:List AV}:R.run n (ae ks b) args st=(ae ks b (args.map À++Æ (n-args.length) Á) st).bind au:=by
 unfold R.run;congr 1
end
@[simp] theorem OQ:rfs []=Â:=rfl
@[simp] theorem OR{x:AV}{xs:List AV}:rfs (x::xs)=(rf x&&rfs xs):=by simp only[rfs]
@[simp] theorem Pe{i:Int}:rf (.int i)=Â:=rfl
@[simp] theorem Pg{i:Bool}:rf (.bl i)=Â:=rfl
@[simp] theorem Pc{i:Í}:rf (.str i)=Â:=rfl
@[simp] theorem Pd:rf .non=Â:=rfl
@[simp] theorem Pf{xs:List AV}:rf (.fz xs)=Â:=rfl
@[simp] theorem Pb{xs:List AV}:rf (.tup xs)=rfs xs:=by simp only[rf]
section
variable{st:aa}{a b:Int}
theorem Dr:rL st (.int a) (.int b)=À (decide (a=b)):=by
 show(if pyOk (.int a) (.int b)=Â then À (ã (.int a) (.int b)) else Á)=_;rw[yH (by simp[pyOk,Ϻ,o?])];congr 1
@[simp] theorem CF:bg .Eq st (.int a) (.int b)=À (decide (a=b)):=Dr
@[simp] theorem NA:bg .NotEq st (.int a) (.int b)=À (!decide (a=b)):=by show((rL st (.int a) (.int b)).map fun x=>!x)=_;rw[Dr];rfl
@[simp] theorem xR:bg .Lt st (.int a) (.int b)=À (decide (a<b)):=rfl
@[simp] theorem Po:bg .LtE st (.int a) (.int b)=À (decide (a<=b)):=rfl
@[simp] theorem Pq:bg .Gt st (.int a) (.int b)=À (decide (b<a)):=rfl
@[simp] theorem Ps:bg .GtE st (.int a) (.int b)=À (decide (b<=a)):=rfl
@[simp] theorem Jj{o:Ϡ}{x y:AV}:oQ o st x y=(bg o st x y).map .bl:=rfl
@[simp] theorem OX:bg .Is st .non .non=À Â:=rfl
@[simp] theorem OY:bg .Is st (.int a) .non=À Ä:=rfl
@[simp] theorem Om:bg .IsNot st .non .non=À Ä:=rfl
@[simp] theorem On:bg .IsNot st (.int a) .non=À Â:=rfl
@[simp] theorem iQ:bh .Add st (.int a) (.int b)=À (.int (a+b)):=rfl
@[simp] theorem nk:bh .Sub st (.int a) (.int b)=À (.int (a-b)):=rfl
theorem b9(h:cS a b=Â):bh .Mult st (.int a) (.int b)=À (.int (a*b)):=by
 show(if cS a b=Â then _ else _:Option Int).map _=_;rw[yH h];rfl
theorem nq(h:gY b=Â):bh .FloorDiv st (.int a) (.int b)=À (.int (ww a b)):=by
 show(if gY b=Â then _ else _:Option Int).map _=_;rw[yH h];rfl
theorem k9(h:b≠0):bh .Mod st (.int a) (.int b)=À (.int (ux a b)):=by
 show(if b=0 then _ else _:Option Int).map _=_;rw[yG h];rfl
@[simp] theorem OO:iY .USub st (.int a)=À (.int (-a)):=rfl
theorem c6{x y:Int}(d:x.natAbs<2^9000)(c:y.natAbs<2^9000):cS x y=Â:=by
 have a:∀z:Nat,z<2^9000->Û z.log2 1000000=Â:=fun z hz=>by
  by_cases b:z=0
  ·subst b;rfl
  ·exact yK (z5 (yY ((Ċ b).mpr hz)) oM)
 unfold cS;rw[a _ d,a _ c,Bool.and_true,Bool.or_true]
theorem p7{y:Int}(b:y≠0)(a:y.natAbs<2^9000):gY y=Â:=by
 unfold gY;have:Û y.natAbs.log2 8999=Â:=yK (by have:=(Ċ (n:=y.natAbs) oM).mpr a;lia);rw[this];simp[b]
end
open SX (Sh gI)
noncomputable def iL(l:List Int):List AV:=l.map .int
noncomputable abbrev Is(x:Int):Option AV:=À (.int x)
noncomputable abbrev Rs(x:Nat):Option AV:=À (.ref x)
noncomputable abbrev Zs(x:List AV):Option AV:=À (.fz x)
abbrev Ls(x:List Int):Option AV:=À (.fz (iL x))
noncomputable def nL(l:List Nat):List AV:=l.map fun q=>.int ((q:Nat):Int)
noncomputable def kL(l:List Nat):List (aU×AV):=l.map fun q=>(.inl ((q:Nat):Int),.bl Â)
noncomputable def df(d:Int)(a b c g n u:Nat):List (Í×AV):=[("below",.int d),("lines",.ref a),("heads",.ref b),("sides",.ref c),("guarded",.ref g),("nailed",.ref n),("turned",.ref u)]
section
variable{d:Int}{a b c g n u:Nat}
@[simp] theorem Ng:(df d a b c g n u).lookup ("below":Í)=À (AV.int d):=rfl
@[simp] theorem Nd:(df d a b c g n u).lookup ("lines":Í)=À (AV.ref a):=rfl
@[simp] theorem Nf:(df d a b c g n u).lookup ("heads":Í)=À (AV.ref b):=rfl
@[simp] theorem Nc:(df d a b c g n u).lookup ("sides":Í)=À (AV.ref c):=rfl
@[simp] theorem Ky:(df d a b c g n u).lookup ("guarded":Í)=À (AV.ref g):=rfl
@[simp] theorem L0:(df d a b c g n u).lookup ("nailed":Í)=À (AV.ref n):=rfl
@[simp] theorem LZ:(df d a b c g n u).lookup ("turned":Í)=À (AV.ref u):=rfl
@[simp] theorem Cf:(df d a b c g n u).lookup ("loose_columns":Í)=Á:=rfl
@[simp] theorem Bc:(df d a b c g n u).lookup ("raising_column":Í)=Á:=rfl
@[simp] theorem Bb:(df d a b c g n u).lookup ("tightest_place":Í)=Á:=rfl
@[simp] theorem FP:(df d a b c g n u).lookup ("is_tighter":Í)=Á:=rfl
@[simp] theorem Fi:(df d a b c g n u).lookup ("is_up_first":Í)=Á:=rfl
@[simp] theorem JD:(df d a b c g n u).lookup ("exchange":Í)=Á:=rfl
@[simp] theorem NI:(df d a b c g n u).lookup ("lift":Í)=Á:=rfl
@[simp] theorem JE:(df d a b c g n u).lookup ("drive_up":Í)=Á:=rfl
@[simp] theorem Ce:(df d a b c g n u).lookup ("moving_column":Í)=Á:=rfl
@[simp] theorem Nb:(df d a b c g n u).lookup ("guard":Í)=Á:=rfl
@[simp] theorem NH:(df d a b c g n u).lookup ("nail":Í)=Á:=rfl
@[simp] theorem Ij:(df d a b c g n u).lookup ("turn_line":Í)=Á:=rfl
end
def RowR(st:aa)(x:AV)(l:List Int):Prop:=x=.fz (iL l)\/∃r,x=.ref r/\(st[r]?=À (.lst (iL l))\/st[r]?=À (.al (.fz (iL l))))
structure Rep(st:aa)(k a b c g n u:Nat)(rows:List AV)(S:Sh):Prop where
 hk:st[k]?=À (.ins "Sheet" (df S.d a b c g n u))
 ha:st[a]?=À (.lst rows)
 hb:st[b]?=À (.lst (nL S.hd))
 hc:st[c]?=À (.lst (nL S.sd))
 hg:st[g]?=À (.dK (kL S.gd))
 hn:st[n]?=À (.dK (kL S.nl))
 hu:st[u]?=À (.dK (kL S.tn))
 len:rows.length=S.ls.length
 row:∀i x,rows[i]?=À x->RowR st x (SX.row S i)
 ab:a≠b
 ac:a≠c
 bc:b≠c
 gn:g≠n
 gu:g≠u
 nu:n≠u
 ra:∀(i r:Nat),rows[i]?=À (.ref r)->r≠a/\r≠b/\r≠c
section
variable{st:aa}{x:AV}{xs:List AV}{l:List Int}{i:Int}
theorem RowR.ls(h:RowR st x l):bN st x=À (iL l):=by
 rcases h with rfl|⟨r,rfl,h|h⟩
 ·rfl
 ·unfold bN dr;simp only[h]
 ·unfold bN dr;simp only[h]
theorem dj(h:bN st x=À xs):aJ st x (.int i)=gy xs i:=by
 have hd:oO st x (.int i)=Á:=by
  unfold oO;have b:jJ st x=Á:=by
   cases x<;>first|rfl|skip
   rename_i k;unfold bN dr at h;unfold jJ;dsimp only at h ⊢;cases e:st[k]? with
   |none=>rfl
   | some c=>cases c <;> first | rfl | (rw [e] at h;simp only [e] at h;cases h)
  have a:nX st x=Á:=by
   cases x<;>first|rfl|skip
   rename_i k;unfold bN dr at h;unfold nX;dsimp only at h ⊢;cases e:st[k]? with
   |none=>rfl
   | some c=>cases c <;> first | rfl | (rw [e] at h;simp only [e] at h;cases h)
  rw[b,a]
 unfold aJ;rw[hd];dsimp only;rw[h]
theorem cV{α:Type}{xs:List α}{j:Nat}:gy xs ((j:Nat):Int)=xs[j]?:=by
 unfold gy jz;rw[yH oM];by_cases h:j<xs.length
 ·rw[yH oM];simp
 ·rw[yG oM,ë oM];rfl
theorem qT{α:Type}{xs:List α}{n:Nat}(h:xs.length=n+1):gy xs (-1)=xs[n]?:=by
 unfold gy jz;rw[yG oM,yH oM,h,Ã];congr 1;lia
theorem cz{j:Nat}(h:j<l.length):(iL l)[j]?=À (.int (gI l j)):=by
 unfold iL gI;simp[h,zD]
theorem iW{l:List Nat}{j:Nat}(h:j<l.length):(nL l)[j]?=À (.int ((l.getD j 0:Nat):Int)):=by
 unfold nL;simp[h,zD]
theorem ci{k:Nat}(h:st[k]?=À (.lst xs)):bN st (.ref k)=À xs:=by unfold bN dr;simp only[h]
theorem we{g:Nat}{l:List Nat}{q:Nat}(h:st[g]?=À (.dK (kL l))):pH st (.int q) (.ref g)=À (decide (q∈l)):=by
 unfold pH oO jJ;simp only[h,kT,Ì];congr 1;unfold ox kL;rw[Ł,List.find?_map,Ł,V6,List.isSome_find?,ū];simp[Int.ofNat_inj]
end
noncomputable def lN(a:List AV)(i:Nat):AV:=a.getD i .non
section
variable{st:aa}{k a b c g n u w m:Nat}{rows:List AV}{S:Sh}{i j:Nat}
theorem Rep.ins(R:Rep st k a b c g n u rows S):jW st "Sheet" (.ref k)=À (df S.d a b c g n u):=by
 unfold jW;simp only[R.hk];rfl
theorem Rep.rx(R:Rep st k a b c g n u rows S)(P:SX.PN w m S)(d:i<m):rows[i]?=À (lN rows i):=by
 have:i<rows.length:=by rw[R.len,P.ls];exact d
 unfold lN;rw[zD,zF this];rfl
theorem Rep.line(R:Rep st k a b c g n u rows S)(P:SX.PN w m S)(d:i<m):aJ st (.ref a) (.int (i:Int))=À (lN rows i):=by
 rw[dj (ci R.ha),cV];exact R.rx P d
theorem Rep.rowl(R:Rep st k a b c g n u rows S)(P:SX.PN w m S)(d:i<m):bN st (lN rows i)=À (iL (SX.row S i)):=(R.row i _ (R.rx P d)).ls
theorem Rep.cell(R:Rep st k a b c g n u rows S)(P:SX.PN w m S)(d:i<m)(e:j<w+1):aJ st (lN rows i) (.int (j:Int))=À (.int (S.t i j)):=by
 rw[dj (R.rowl P d),cV,cz (by rw[P.rl d];exact e)];rfl
theorem Rep.last(R:Rep st k a b c g n u rows S)(P:SX.PN w m S)(d:i<m):aJ st (lN rows i) (.int (-1))=À (.int (S.t i w)):=by
 rw[dj (R.rowl P d),qT (n:=w) (by unfold iL;rw[zH];exact P.rl d),cz (by rw[P.rl d];lia)];rfl
theorem Rep.side(R:Rep st k a b c g n u rows S)(P:SX.PN w m S)(d:i<m):aJ st (.ref c) (.int (i:Int))=À (.int (S.s i:Int)):=by
 rw[dj (ci R.hc),cV,iW (by rw[P.sd];exact d)];rfl
theorem Rep.head(R:Rep st k a b c g n u rows S)(P:SX.PN w m S)(d:j<w):aJ st (.ref b) (.int (j:Int))=À (.int (S.h j:Int)):=by
 rw[dj (ci R.hb),cV,iW (by rw[P.hd];exact d)];rfl
theorem Rep.ing(R:Rep st k a b c g n u rows S){q:Nat}:bg .In st (.int q) (.ref g)=À (decide (q∈S.gd)):=we R.hg
theorem Rep.nin(R:Rep st k a b c g n u rows S){q:Nat}:bg .NotIn st (.int q) (.ref n)=À (!decide (q∈S.nl)):=by show(pH st _ _).map _=_;rw[we R.hn];rfl
end
theorem gT{α:Type}{em:α->AV}{B:α->Bool}{F:α->AV}(a:cx gd st=Â):∀{xs:List α},(∀x∈xs,∃sl1,g (em x) sl st=À (sl1,st)/\t sl1 st=À (B x,st)/\(B x=Â->f sl1 st=À (F x,st)))->iD gd g t f sl (xs.map em) st=À ((xs.filter B).map F,st)
 |[],_=>by show(if cx gd st=Â then _ else _)=_;rw[yH a];rfl
 |x::xs,h=>by
  obtain⟨sl1,h1,h2,h3⟩:=h x z7;have b:=gT a (xs:=xs) fun y c=>h y (zQ _ c)
  show(if cx gd st=Â then(g (em x) sl st).bind _ else Á)=_;rw[yH a,h1,Ã];dsimp only;rw[h2,Ã];cases hB:B x with
  |true=>rw[yH rfl];dsimp only;rw[h3 hB,Ã];dsimp only;rw[b,U',hB];rfl
  |false=>rw[yG (by simp)];dsimp only;rw[b,U',hB];rfl
theorem eF:∀{xs:List AV},(∀x∈xs,rf x=Â)->rfs xs=Â
 |[],_=>rfl
 |x::xs,h=>by simp only[rfs,zC];exact⟨h x z7,eF fun y hy=>h y (zQ _ hy)⟩
theorem Bz:rfs (iL l)=Â:=eF fun x a=>by obtain⟨i,_,rfl⟩:=yC.mp a;rfl
theorem kO:rfs (nL l)=Â:=eF fun x a=>by obtain⟨i,_,rfl⟩:=yC.mp a;rfl
mutual
theorem AZ:∀(x:AV),db x x=Â
 |.non=>rfl
 |.bl _=>by simp[db]
 |.int _=>by simp[db]
 |.str _=>by simp[db]
 |.ref _=>by simp[db]
 |.tup a=>by simp only[db];exact jM a
 |.fz a=>by simp only[db];exact jM a
theorem jM:∀(xs:List AV),fZ xs xs=Â
 |[]=>rfl
 |x::xs=>by simp only[fZ,AZ x,jM xs,ť]
end
theorem gX{k:Nat}(h:st[k]?=À (.lst xs)):cx [(k,.lst xs)] st=Â:=by
 simp only[cx,h,xS,jM,ť]
theorem Ld:fD 0 (nL l)=l.zipIdx.map fun z=>.tup [.int ((z.2:Nat):Int),.int ((z.1:Nat):Int)]:=by
 unfold fD nL;rw[List.zipIdx_map,ß];rfl
@[simp] theorem NX:ju st (.tup xs)=À xs:=rfl
@[simp] theorem uh:pD st (.fz xs)=À ⟨xs,[]⟩:=rfl
@[simp] theorem Av:jb st (.fz xs)=À ⟨xs,[]⟩:=rfl
@[simp] theorem dI:bN st (.fz xs)=À xs:=rfl
theorem kg{k:Nat}(h:st[k]?=À (.lst xs)):jb st (.ref k)=À ⟨xs,[(k,.lst xs)]⟩:=by
 unfold jb dr;simp only[h]
theorem qJ{k:Nat}(h:st[k]?=À (.lst xs)):pD st (.ref k)=À ⟨xs,[(k,.lst xs)]⟩:=by
 have:ju st (.ref k)=Á:=by unfold ju dr;simp only[h]
 unfold pD;dsimp only;rw[this];exact kg h
@[simp] theorem gU:cx [] st=Â:=rfl
theorem wd:mX (nL l)=À (l.map fun q=>((q:Nat):Int)):=by
 unfold mX nL;exact cJ (f:=fun x=>match x with|.int i=>À i|_=>Á) (i:=fun q:Nat=>AV.int q) (g:=fun q=>((q:Nat):Int)) (fun _=>rfl) l
noncomputable def oN:Option Nat->AV
 |none=>.non
 |some c=>.int (c:Int)
noncomputable def b8(S:Sh):List Nat:=(S.hd.zipIdx.filter fun z=>!decide (z.1∈S.nl)).map (·.2)
theorem jx{w m:Nat}(P:SX.PN w m S){j:Nat}:j∈b8 S ↔ j<w/\S.h j∉S.nl:=by
 unfold b8;simp only[yC,ŀ,Prod.exists];constructor
 ·rintro⟨q,i,⟨c,b⟩,rfl⟩
  have d:=List.mem_zipIdx' c;have a:i<S.hd.length:=d.1;refine⟨by rw[<- P.hd];exact a,?_⟩;have:S.h i=q:=by
   show S.hd.getD i 0=q;rw[zD,zF a,d.2];rfl
  rw[this];simpa using b
 ·rintro⟨c,b⟩
  have a:j<S.hd.length:=by rw[P.hd];exact c
  refine⟨S.h j,j,⟨?_,by simpa using b⟩,rfl⟩;have e:S.h j=S.hd[j]:=by
   show S.hd.getD j 0=_;rw[zD,zF a];rfl
  rw[e,List.mem_zipIdx_iff_getElem?];exact zF a
theorem cH{n:Nat}(h:n<=1000):dE n=Â:=yK oM
theorem Jr{key:Nat->Nat}:∃o:Option Nat,qV ((l.map fun q=>((q:Nat):Int)).zip (l.map fun q=>((key q:Nat):Int)))=oN o/\(o=Á->l=[])/\∀c,o=À c->c∈l/\∀j∈l,key c<=key j:=by
 cases l with
 |nil=>exact⟨Á,rfl,fun _=>rfl,fun c h=>nomatch h⟩
 |cons x l =>
  have hz:((x::l).map fun q=>((q:Nat):Int)).zip ((x::l).map fun q=>((key q:Nat):Int))=(x::l).map fun q=>(((q:Nat):Int),((key q:Nat):Int)):=by
   generalize x::l=b
   induction b with
   |nil=>rfl
   |cons y b g=>simp only[zO,ĝ,g]
  rw[hz];obtain⟨i,p,a,d⟩:=nA (l.map fun q=>(((q:Nat):Int),((key q:Nat):Int))) (x:Int) (key x:Int);rw[<- zO (f:=fun q:Nat=>(((q:Nat):Int),((key q:Nat):Int)))]at a d;rw[zR]at a;obtain⟨c,n,e⟩:=zE.mp a;injection e with e1 e2;refine⟨À c,?_,(fun h=>nomatch h),fun r h=>?_⟩
  ·show AV.int _=AV.int _
   rw[e1]
  ·cases h
   refine⟨zW n,fun j m=>?_⟩;obtain⟨t,k⟩:=z8 m
   have:=(d t ((j:Int),(key j:Int)) (by rw[zR,k];rfl)).1
   rw[<- e2]at this;have:((key c:Nat):Int)<=((key j:Nat):Int):=this;lia
theorem Ia{l:List Nat}{key:EF}{sl:Sl}{st:aa}{f:Nat->Nat}(h:∀q∈l,key (sl++[Is ((q:Nat):Int)]) st=À (.int ((f q:Nat):Int),st)):aP (Aq key sl st) (l.map fun q=>((q:Nat):Int))=À (l.map fun q=>((f q:Nat):Int)):=by
 induction l with
 |nil=>rfl
 |cons x l a =>
  have c:Aq key sl st (x:Int)=À ((f x:Nat):Int):=by unfold Aq;rw[h x z7]
  simp only[zO,aP,c,a fun q b=>h q (zQ _ b),Ã,Ì]
def fk(gd:Gd)(g:GF)(s:SF)(xs:List AV):Out->Option Out
 |.nx sl st=>dR gd g s xs sl st
 |.ct sl st=>dR gd g s xs sl st
 |.bk sl st=>À (.nx sl st)
 |.rt v st=>À (.rt v st)
theorem AH(a:cx gd st=Â)(c:g x sl st=À p)(b:s p.1 p.2=À o):dR gd g s (x::xs) sl st=fk gd g s xs o:=by
 show(if cx gd st=Â then(g x sl st).bind _ else Á)=_;rw[yH a,c,Ã,b,Ã];cases o<;>rfl
theorem kz{gd:Gd}{g:GF}{s:SF}{I:Nat->Sl->aa->Prop}{Post:AV->aa->Prop}{xs:List AV}(d:∀i sl st,i<=xs.length->I i sl st->cx gd st=Â)
  (h:∀i x sl st,xs[i]?=À x->I i sl st->∃p o,g x sl st=À p/\s p.1 p.2=À o/\((∃sl2 st2,o=.nx sl2 st2/\I (i+1) sl2 st2)\/∃v st2,o=.rt v st2/\Post v st2)) :
  ∀{sl:Sl}{st:aa},I 0 sl st->(∃sl' st',dR gd g s xs sl st=À (.nx sl' st')/\I xs.length sl' st')\/∃v st',dR gd g s xs sl st=À (.rt v st')/\Post v st':=by
 have q:∀(r:Nat)(j:Nat){sl:Sl}{st:aa},j+r=xs.length->I j sl st->(∃sl' st',dR gd g s (xs.drop j) sl st=À (.nx sl' st')/\I xs.length sl' st')\/∃v st',dR gd g s (xs.drop j) sl st=À (.rt v st')/\Post v st':=fun r=>by
  induction r with
  |zero =>
   intro j sl st k a;left;rw[w! oM];refine⟨sl,st,?_,by rw[show xs.length=j by lia];exact a⟩;show(if cx gd st=Â then _ else _)=_;rw[yH (d j sl st oM a)]
  |succ r f =>
   intro j sl st k a;have c:j<xs.length:=by lia
   obtain⟨p,o,m,l,b⟩:=h j xs[j] sl st (zF c) a;rw[è c];have e:=AH (xs:=xs.drop (j+1)) (d j sl st oM a) m l;rw[e];rcases b with⟨sl2,st2,rfl,b⟩|⟨v,st2,rfl,b⟩
   ·exact f (j+1) oM b
   ·exact .inr ⟨v,st2,rfl,b⟩
 intro sl st n
 have:=q xs.length 0 oM n
 rw[ſ]at this;exact this
theorem fj{gd:Gd}{g:GF}{s:SF}{I:Nat->Sl->aa->Prop}{xs:List AV}(e:∀i sl st,i<=xs.length->I i sl st->cx gd st=Â)
  (h:∀i x sl st,xs[i]?=À x->I i sl st->∃p sl2 st2,g x sl st=À p/\s p.1 p.2=À (.nx sl2 st2)/\I (i+1) sl2 st2) {sl:Sl}{st:aa} (j:I 0 sl st):∃sl' st',dR gd g s xs sl st=À (.nx sl' st')/\I xs.length sl' st':=by
 rcases kz (Post:=fun _ _=>False) e (fun i x sl st d f=>by
  obtain⟨p,sl2,st2,a,b,c⟩:=h i x sl st d f;exact⟨p,_,a,b,.inl ⟨sl2,st2,rfl,c⟩⟩) j with h|⟨_,_,_,h⟩
 ·exact h
 ·exact h.elim
theorem p4{i:Nat}(h:(fD 0 xs)[i]?=À y):∃x,xs[i]?=À x/\y=.tup [.int ((i:Nat):Int),x]:=by
 unfold fD at h;rw[zR]at h;obtain⟨z,a,rfl⟩:=zE.mp h;rw[ž]at a;obtain⟨x,b,rfl⟩:=zE.mp a;exact⟨x,b,by simp⟩
theorem m7:(fD 0 xs).length=xs.length:=by unfold fD;simp
section
variable{st:aa}{k a b c g n u w m:Nat}{rows:List AV}{S:Sh}{i j q:Nat}{x:AV}{l:List Int}{e e':PC}
theorem aq(h:q≠j):(st.set q e')[j]?=st[j]?:=by rw[yW];simp[h]
theorem gF(h:st[q]?=À e):(st.set q e')[q]?=À e':=by
 rw[yW];simp[(zB.mp h).1]
theorem ga(h:st[j]?=À e):(st++ys)[j]?=À e:=by
 rw[zN (zB.mp h).1];exact h
theorem gl:(st++[e])[st.length]?=À e:=by simp
theorem bu(a:st[i]?=À e)(b:st[j]?=À e')(h:e≠e'):i≠j:=fun z=>h (by rw[z,b]at a;injection a with a;exact a.symm)
theorem RowR.set(h:RowR st x l)(b:∀r,x=.ref r->q≠r):RowR (st.set q e') x l:=by
 rcases h with h|⟨r,a,c⟩
 ·exact .inl h
 ·exact .inr ⟨r,a,by rw[aq (b r a)];exact c⟩
theorem RowR.app(h:RowR st x l):RowR (st++ys) x l:=by
 rcases h with h|⟨r,b,a|a⟩
 ·exact .inl h
 ·exact .inr ⟨r,b,.inl (ga a)⟩
 ·exact .inr ⟨r,b,.inr (ga a)⟩
theorem Rep.app(R:Rep st k a b c g n u rows S):Rep (st++ys) k a b c g n u rows S :=
 ⟨ga R.hk,ga R.ha,ga R.hb,ga R.hc,ga R.hg,ga R.hn,ga R.hu,R.len,fun i x h=>(R.row i x h).app,R.ab,R.ac,R.bc,R.gn,R.gu,R.nu,R.ra⟩
theorem Rep.rowk(R:Rep st k a b c g n u rows S){r:Nat}(h:rows[i]?=À (.ref r)):r≠k/\r≠g/\r≠n/\r≠u:=by
 have e:=R.row i _ h;rcases e with h|⟨j,f,d⟩
 ·cases h
 ·cases f
  rcases d with d|d
  ·exact⟨bu d R.hk (fun z=>nomatch z),bu d R.hg (fun z=>nomatch z),bu d R.hn (fun z=>nomatch z),bu d R.hu (fun z=>nomatch z)⟩
  ·exact⟨bu d R.hk (fun z=>nomatch z),bu d R.hg (fun z=>nomatch z),bu d R.hn (fun z=>nomatch z),bu d R.hu (fun z=>nomatch z)⟩
theorem Rep.fields{d:Nat}(R:Rep st k a b c g n u rows S)(l:st[d]?=À (.lst rows'))(v:S'.hd=S.hd)(t:S'.sd=S.sd)(s:S'.gd=S.gd)(q:S'.nl=S.nl)(p:S'.tn=S.tn)(j:rows'.length=S'.ls.length)
  (row:∀i x,rows'[i]?=À x->RowR st x (SX.row S' i)) (A:d≠b) (y:d≠c) (m:∀(i r:Nat),rows'[i]?=À (.ref r)->r≠d/\r≠b/\r≠c):Rep (st.set k (.ins "Sheet" (df S'.d d b c g n u))) k d b c g n u rows' S':=by
 have o:k≠d:=bu R.hk l (fun z=>nomatch z);refine⟨gF R.hk,by rw[aq o];exact l,?_,?_,?_,?_,?_,j,fun i x h=>(row i x h).set fun r e=>?_,A,y,R.bc,R.gn,R.gu,R.nu,m⟩
 ·rw[aq (bu R.hk R.hb (fun z=>nomatch z)),v];exact R.hb
 ·rw[aq (bu R.hk R.hc (fun z=>nomatch z)),t];exact R.hc
 ·rw[aq (bu R.hk R.hg (fun z=>nomatch z)),s];exact R.hg
 ·rw[aq (bu R.hk R.hn (fun z=>nomatch z)),q];exact R.hn
 ·rw[aq (bu R.hk R.hu (fun z=>nomatch z)),p];exact R.hu
 ·subst e
  rcases row i _ h with z|⟨B,w,f⟩
  ·cases z
  ·cases w
   rcases f with f|f
   ·exact bu R.hk f (fun z=>nomatch z)
   ·exact bu R.hk f (fun z=>nomatch z)
theorem Rep.heads(R:Rep st k a b c g n u rows S):Rep (st.set b (.lst (nL hd'))) k a b c g n u rows { S with hd:=hd' } :=
 ⟨by rw[aq (bu R.hb R.hk (fun z=>nomatch z))];exact R.hk,by rw[aq (ä R.ab)];exact R.ha,gF R.hb,by rw[aq R.bc];exact R.hc,by rw[aq (bu R.hb R.hg (fun z=>nomatch z))];exact R.hg,by rw[aq (bu R.hb R.hn (fun z=>nomatch z))];exact R.hn,
  by rw[aq (bu R.hb R.hu (fun z=>nomatch z))];exact R.hu,R.len,fun i x h=>(R.row i x h).set fun r e=>ä (R.ra i r (by rw[<- e];exact h)).2.1,R.ab,R.ac,R.bc,R.gn,R.gu,R.nu,R.ra⟩
theorem Rep.sides(R:Rep st k a b c g n u rows S):Rep (st.set c (.lst (nL sd'))) k a b c g n u rows { S with sd:=sd' } :=
 ⟨by rw[aq (bu R.hc R.hk (fun z=>nomatch z))];exact R.hk,by rw[aq (ä R.ac)];exact R.ha,by rw[aq (ä R.bc)];exact R.hb,gF R.hc,by rw[aq (bu R.hc R.hg (fun z=>nomatch z))];exact R.hg,by rw[aq (bu R.hc R.hn (fun z=>nomatch z))];exact R.hn,
  by rw[aq (bu R.hc R.hu (fun z=>nomatch z))];exact R.hu,R.len,fun i x h=>(R.row i x h).set fun r e=>ä (R.ra i r (by rw[<- e];exact h)).2.2,R.ab,R.ac,R.bc,R.gn,R.gu,R.nu,R.ra⟩
theorem Rep.guard(R:Rep st k a b c g n u rows S):Rep (st.set g (.dK (kL gd'))) k a b c g n u rows { S with gd:=gd' } :=
 ⟨by rw[aq (bu R.hg R.hk (fun z=>nomatch z))];exact R.hk,by rw[aq (bu R.hg R.ha (fun z=>nomatch z))];exact R.ha,by rw[aq (bu R.hg R.hb (fun z=>nomatch z))];exact R.hb,by rw[aq (bu R.hg R.hc (fun z=>nomatch z))];exact R.hc,gF R.hg,by rw[aq R.gn];exact R.hn,by rw[aq R.gu];exact R.hu,
  R.len,fun i x h=>(R.row i x h).set fun r e=>ä (R.rowk (i:=i) (by rw[<- e];exact h)).2.1,R.ab,R.ac,R.bc,R.gn,R.gu,R.nu,R.ra⟩
theorem Rep.nail(R:Rep st k a b c g n u rows S):Rep (st.set n (.dK (kL nl'))) k a b c g n u rows { S with nl:=nl' } :=
 ⟨by rw[aq (bu R.hn R.hk (fun z=>nomatch z))];exact R.hk,by rw[aq (bu R.hn R.ha (fun z=>nomatch z))];exact R.ha,by rw[aq (bu R.hn R.hb (fun z=>nomatch z))];exact R.hb,by rw[aq (bu R.hn R.hc (fun z=>nomatch z))];exact R.hc,by rw[aq (ä R.gn)];exact R.hg,gF R.hn,by rw[aq R.nu];exact R.hu,
  R.len,fun i x h=>(R.row i x h).set fun r e=>ä (R.rowk (i:=i) (by rw[<- e];exact h)).2.2.1,R.ab,R.ac,R.bc,R.gn,R.gu,R.nu,R.ra⟩
theorem Rep.turned(R:Rep st k a b c g n u rows S):Rep (st.set u (.dK (kL tn'))) k a b c g n u rows { S with tn:=tn' } :=
 ⟨by rw[aq (bu R.hu R.hk (fun z=>nomatch z))];exact R.hk,by rw[aq (bu R.hu R.ha (fun z=>nomatch z))];exact R.ha,by rw[aq (bu R.hu R.hb (fun z=>nomatch z))];exact R.hb,by rw[aq (bu R.hu R.hc (fun z=>nomatch z))];exact R.hc,by rw[aq (ä R.gu)];exact R.hg,by rw[aq (ä R.nu)];exact R.hn,gF R.hu,
  R.len,fun i x h=>(R.row i x h).set fun r e=>ä (R.rowk (i:=i) (by rw[<- e];exact h)).2.2.2,R.ab,R.ac,R.bc,R.gn,R.gu,R.nu,R.ra⟩
theorem vL{p i:Nat}:SX.row { S with ls:=S.ls.set p l } i=if i=p/\p<S.ls.length then l else SX.row S i:=by
 unfold SX.row;simp only[zD,yW];by_cases h:i=p
 ·subst h
  by_cases a:i<S.ls.length
  ·simp[a]
  ·simp[a]
 ·rw[yG fun z=>h z.symm,yG fun z=>h z.1]
theorem Rep.rowset{p:Nat}(R:Rep st k a b c g n u rows S)(o:RowR st x l)(m:∀r,x=.ref r->r≠a/\r≠b/\r≠c):Rep (st.set a (.lst (rows.set p x))) k a b c g n u (rows.set p x) { S with ls:=S.ls.set p l }:=by
 have j:∀i y,(rows.set p x)[i]?=À y->(i=p/\p<rows.length/\y=x)\/(i≠p/\rows[i]?=À y):=fun i y h=>by
  rw[yW]at h;by_cases e:p=i
  ·rw[yH e]at h
   split at h
   ·cases h;exact .inl ⟨e.symm,by assumption,rfl⟩
   ·cases h
  ·rw[yG e]at h;exact .inr ⟨fun z=>e z.symm,h⟩
 refine⟨by rw[aq (bu R.ha R.hk (fun z=>nomatch z))];exact R.hk,gF R.ha,by rw[aq R.ab];exact R.hb,by rw[aq R.ac];exact R.hc,by rw[aq (bu R.ha R.hg (fun z=>nomatch z))];exact R.hg,by rw[aq (bu R.ha R.hn (fun z=>nomatch z))];exact R.hn,
  by rw[aq (bu R.ha R.hu (fun z=>nomatch z))];exact R.hu,by simp[R.len],fun i y h=>?_,R.ab,R.ac,R.bc,R.gn,R.gu,R.nu,fun i r h=>?_⟩
 ·rw[vL]
  rcases j i y h with⟨f,d,rfl⟩|⟨f,d⟩
  ·rw[yH ⟨f,by rw[<- R.len];exact d⟩];exact o.set fun r e=>ä (m r e).1
  ·rw[yG fun z=>f z.1];exact(R.row i y d).set fun r e=>ä (R.ra i r (by rw[<- e];exact d)).1
 ·rcases j i _ h with⟨f,d,q⟩|⟨f,d⟩
  ·exact m r q.symm
  ·exact R.ra i r d
theorem Rep.cellset{p r:Nat}(R:Rep st k a b c g n u rows S)(d:rows[p]?=À (.ref r))(A:∀i,i≠p->rows[i]?≠À (.ref r)):Rep (st.set r (.lst (iL l))) k a b c g n u rows { S with ls:=S.ls.set p l }:=by
 obtain⟨x,w,v⟩:=R.ra p r d;obtain⟨t,s,q,o⟩:=R.rowk d;have j:p<S.ls.length:=by rw[<- R.len];exact(zB.mp d).1
 refine⟨by rw[aq t];exact R.hk,by rw[aq x];exact R.ha,by rw[aq w];exact R.hb,by rw[aq v];exact R.hc,by rw[aq s];exact R.hg,by rw[aq q];exact R.hn,by rw[aq o];exact R.hu,by simp[R.len],fun i y h=>?_,R.ab,R.ac,R.bc,R.gn,R.gu,R.nu,R.ra⟩;rw[vL];by_cases e:i=p
 ·subst e
  rw[yH ⟨rfl,j⟩];rw[d]at h;cases h;rcases R.row i _ d with z|⟨m,B,f⟩
  ·cases z
  ·cases B
   rcases f with f|f
   ·exact .inr ⟨r,rfl,.inl (gF f)⟩
   ·exact .inr ⟨r,rfl,.inl (gF f)⟩
 ·rw[yG fun z=>e z.1]
  exact(R.row i y h).set fun m C z=>A i e (by rw[z,<- C];exact h)
theorem Rep.freeze{r:Nat}(R:Rep st k a b c g n u rows S)(o:rows[i]?=À (.ref r))(f:st[r]?=À (.lst (iL l))):Rep (st.set r (.al (.fz (iL l)))) k a b c g n u rows S:=by
 obtain⟨A,x,w⟩:=R.ra i r o;obtain⟨v,t,s,q⟩:=R.rowk o;refine⟨by rw[aq v];exact R.hk,by rw[aq A];exact R.ha,by rw[aq x];exact R.hb,by rw[aq w];exact R.hc,by rw[aq t];exact R.hg,by rw[aq s];exact R.hn,by rw[aq q];exact R.hu,R.len,fun j y h=>?_,R.ab,R.ac,R.bc,R.gn,R.gu,R.nu,R.ra⟩;rcases R.row j y h with z|⟨m,p,d⟩
 ·exact .inl z
 ·by_cases e:r=m
  ·subst e
   refine .inr ⟨r,p,.inr ?_⟩;rw[gF f];rcases d with d|d
   ·rw[f]at d;injection d with d;injection d with d;rw[d]
   ·rw[f]at d;cases d
  ·exact .inr ⟨m,p,by rw[aq e];exact d⟩
theorem RowR.it(h:RowR st x l):∃gd,pD st x=À ⟨iL l,gd⟩/\cx gd st=Â:=by
 rcases h with rfl|⟨r,rfl,h|h⟩
 ·exact⟨[],rfl,rfl⟩
 ·exact⟨_,qJ h,gX h⟩
 ·refine⟨[],?_,rfl⟩
  have:ju st (.ref r)=Á:=by unfold ju dr;simp only[h]
  unfold pD;dsimp only;rw[this];unfold jb dr;simp only[h]
end
theorem Im{gd:Gd}{g:GF}{t:TF}{f:EF}{sl:Sl}{J:Nat->aa->Prop}{F:Nat->AV}{xs:List AV}(d:∀i st,i<=xs.length->J i st->cx gd st=Â)
  (h:∀i x st,xs[i]?=À x->J i st->∃sl1 st1,g x sl st=À (sl1,st)/\t sl1 st=À (Â,st)/\f sl1 st=À (F i,st1)/\J (i+1) st1) {st:aa} (q:J 0 st):∃st',iD gd g t f sl xs st=À ((É xs.length).map F,st')/\J xs.length st':=by
 have s:∀(r j:Nat){st:aa},j+r=xs.length->J j st->∃st',iD gd g t f sl (xs.drop j) st=À ((ĭ j r).map F,st')/\J xs.length st':=fun r=>by
  induction r with
  |zero =>
   intro j st l a;rw[w! oM];refine⟨st,?_,by rw[show xs.length=j by lia];exact a⟩;show(if cx gd st=Â then _ else _)=_;rw[yH (d j st oM a)];rfl
  |succ r k =>
   intro j st l a;have c:j<xs.length:=by lia
   obtain⟨sl1,st1,p,o,n,m⟩:=h j xs[j] st (zF c) a;obtain⟨st',e,b⟩:=k (j+1) oM m;refine⟨st',?_,b⟩;rw[è c];show(if cx gd st=Â then(g xs[j] sl st).bind _ else Á)=_;rw[yH (d j st oM a),p,Ã];dsimp only;rw[o,Ã,yH rfl];dsimp only;rw[n,Ã];dsimp only;rw[e];rfl
 obtain⟨st',e,a⟩:=s xs.length 0 oM q;rw[ſ]at e;rw[<- List.range_eq_range']at e;exact⟨st',e,a⟩
@[simp] theorem gE:(iL l).length=l.length:=by unfold iL;simp
@[simp] theorem tS:(nL l).length=l.length:=by unfold nL;simp
@[simp] theorem cK:rfs (iL l)=Â:=Bz
@[simp] theorem pj:rfs (nL l)=Â:=kO
theorem gD{q:Nat}{x:Int}:(iL l).set q (.int x)=iL (l.set q x):=by unfold iL;rw[X9]
theorem Aj{q x:Nat}:(nL l).set q (.int (x:Int))=nL (l.set q x):=by unfold nL;rw[X9]
theorem Ao{α:Type}{em:α->AV}{F:α->Int}{xs:List α}(e:cx gd st=Â)(h:∀x∈xs,∃sl1,g (em x) sl st=À (sl1,st)/\t sl1 st=À (Â,st)/\f sl1 st=À (.int (F x),st)):iD gd g t f sl (xs.map em) st=À (iL (xs.map F),st):=by
 rw[gT (B:=fun _=>Â) (F:=fun x=>.int (F x)) e fun x d=>by obtain⟨s,a,b,c⟩:=h x d;exact⟨s,a,b,fun _=>c⟩];unfold iL;rw[ß,Ú.mpr fun _ _=>rfl];rfl
theorem mW(a:cx gd st=Â)(h:∀x∈l,∃sl1,g (.int x) sl st=À (sl1,st)/\t sl1 st=À (Â,st)/\f sl1 st=À (.int (F x),st)):iD gd g t f sl (iL l) st=À (iL (l.map F),st):=Ao a h
theorem dZ{k q:Nat}(h:st[k]?=À (.lst xs))(a:q<xs.length):kN st (.ref k) (.int (q:Int)) x=À (st.set k (.lst (xs.set q x))):=by
 unfold kN;simp only[h];have:jz xs.length (q:Int)=À q:=by unfold jz;rw[yH oM,yH oM];simp
 rw[this];rfl
theorem qI{k q:Nat}(h:st[k]?=À (.dK (kL l)))(c:l.length<=1000):kN st (.ref k) (.int (q:Int)) (.bl Â)=À (st.set k (.dK (kL (if q∈l then l else l++[q])))):=by
 unfold kN;simp only[h,kT,Ã];rw[yH (cH (by unfold kL;rw[zH];exact c))];congr 2;unfold oC kL;by_cases a:q∈l
 ·rw[yH a,yH (by simp only[w?,ū];exact⟨q,a,by simp⟩),ß]
  congr 1;refine ķ fun x b=>?_
  show(if _ then _ else _)=_;split
  ·rfl
  ·rfl
 ·rw[yG a,yG (by
   simp only[w?,ū,T6];rintro⟨x,b,e⟩;have:x=q:=by have:((x:Nat):Int)=((q:Nat):Int):=(by simpa using e);lia
   exact a (this▸b)),Ħ]
  rfl
theorem af(h:cZ ks s sl st=À (.nx sl' st'))(a:(ae ks ss sl' st').bind au=r):(ae ks (.cons s ss) sl st).bind au=r:=by
 rw[lJ,h,Ã,Ag];exact a
theorem aj(h:cZ ks s sl st=À (.nx sl' st'))(a:ae ks ss sl' st'=r):ae ks (.cons s ss) sl st=r:=by
 rw[lJ,h,Ã,Ag];exact a
theorem bS(h:cZ ks s sl st=À (.rt v st')):(ae ks (.cons s ss) sl st).bind au=À (v,st'):=by
 rw[lJ,h,Ã,Af];rfl
theorem aO(h:rfs args=Â)(b:fn args []=À (v,st'))(a:dG st' v=À t):pm fn args st=À (t,st):=by
 unfold pm;rw[yH h,b,Ã];dsimp only;rw[a];rfl
section
variable{d:Int}{a b c g n u:Nat}
theorem BQ{d':Int}:jv "below" (.int d') (df d a b c g n u)=df d' a b c g n u:=rfl
theorem BP{e:Nat}:jv "lines" (.ref e) (df d a b c g n u)=df d e b c g n u:=rfl
theorem iM{k:Nat}(d:ev ks e sl st=À (v,st'))(c:ev ks o sl st'=À (.ref k,st'))(b:jW st' cn (.ref k)=À fs)(a:Û fs.length 900=Â):cZ ks (.fl cn f o e) sl st=À (.nx sl (st'.set k (.ins cn (jv f v fs)))):=by
 show zc cn f (ev ks o) (ev ks e) sl st=_;unfold zc;rw[d,Ã];dsimp only;rw[c,Ã];dsimp only;rw[b,Ã,yH a]
end
theorem vy{α:Type}{t:TF}{s:SF}{I:α->Sl->aa->Prop}{Q:α->α->Prop}{Post:Out->Prop}{a0:α}(e:∀f:Nat->α,f 0=a0->(∀n,Q (f n) (f (n+1)))->False)
  (h:∀x sl st,I x sl st->(∃o,dA t s 1 sl st=À o/\Post o)\/∃x' sl' st',Q x x'/\I x' sl' st'/\∀n o,dA t s n sl' st'=À o->dA t s (n+1) sl st=À o) {sl:Sl}{st:aa} (p:I a0 sl st):∃o,nE t s sl st=À o/\Post o:=by
 apply ñ;intro j
 let a:α×Sl×aa->Prop:=fun z=>I z.1 z.2.1 z.2.2/\¬∃n o,dA t s n z.2.1 z.2.2=À o/\Post o
 have g:a (a0,sl,st):=⟨p,fun⟨n,o,c,b⟩=>j ⟨o,o7 c,b⟩⟩;have nx:∀z:{ z // a z },∃i:{ z // a z },Q z.1.1 i.1.1:=fun d=>by
  obtain⟨z,hz⟩:=d;rcases h z.1 z.2.1 z.2.2 hz.1 with⟨o,c,b⟩|⟨x',sl',st',c,b,m⟩
  ·exact absurd ⟨1,o,c,b⟩ hz.2
  ·exact⟨⟨(x',sl',st'),b,fun⟨n,o,l,k⟩=>hz.2 ⟨n+1,o,m n o l,k⟩⟩,c⟩
 let f:Nat->{ z // a z }:=fun n=>Nat.rec ⟨_,g⟩ (fun _ z=>Č (nx z)) n
 exact e (fun n=>(f n).1.1) rfl fun n=>ě (nx (f n))
theorem mO(h:t sl st=À (Ä,st')):dA t s 1 sl st=À (.nx sl st'):=by
 show(t sl st).bind _=_;rw[h,Ã,yG (by simp)]
theorem sY(h:t sl st=À (Â,st'))(a:s sl st'=À (.rt v st2)):dA t s 1 sl st=À (.rt v st2):=by
 show(t sl st).bind _=_;rw[h,Ã,yH rfl];dsimp only;rw[a];rfl
theorem qu{n:Nat}(h:t sl st=À (Â,st'))(b:s sl st'=À (.nx sl2 st2))(a:dA t s n sl2 st2=À o):dA t s (n+1) sl st=À o:=by
 show(t sl st).bind _=_;rw[h,Ã,yH rfl];dsimp only;rw[b];exact a
theorem oV(h:cZ ks s sl st=À (.rt v st')):ae ks (.cons s ss) sl st=À (.rt v st'):=by
 rw[lJ,h,Ã,Af]
theorem GC{ks:List Fn}{T:Tx}{B rest:PP}{sl:Sl}{st:aa}{Post:Out->Prop}{Q:AV×aa->Prop}(h:∃o,nE (tv ks T) (ae ks B) sl st=À o/\Post o)(c:∀o,Post o->∃r,(ka o (ae ks rest)).bind au=À r/\Q r):∃r,(ae ks (.cons (.wh T B) rest) sl st).bind au=À r/\Q r:=by
 obtain⟨o,e,b⟩:=h;obtain⟨r,d,a⟩:=c o b;refine⟨r,?_,a⟩;rw[lJ,MW,e,Ã];exact d
theorem aA{ks:List Fn}{s:Sx}{a:PP}{sl sl':Sl}{st st':aa}{Q:AV×aa->Prop}(h:cZ ks s sl st=À (.nx sl' st'))(b:∃r,(ae ks a sl' st').bind au=À r/\Q r):∃r,(ae ks (.cons s a) sl st).bind au=À r/\Q r:=by
 obtain⟨r,e,q⟩:=b;exact⟨r,af h e,q⟩
def aD(L:List (List Int)):List AV:=L.map fun l=>.fz (iL l)
@[simp] theorem NK:(aD L).length=L.length:=by unfold aD;simp
@[simp] theorem Of:rfs (aD L)=Â:=eF fun x a=>by obtain⟨l,_,rfl⟩:=yC.mp a;rfl
theorem II:iL a++iL b=iL (a++b):=by unfold iL;rw[Ħ]
theorem xF{α:Type}{em:α->AV}{F:α->List Int}{xs:List α}(e:cx gd st=Â)(h:∀x∈xs,∃sl1,g (em x) sl st=À (sl1,st)/\t sl1 st=À (Â,st)/\f sl1 st=À (.fz (iL (F x)),st)):iD gd g t f sl (xs.map em) st=À (aD (xs.map F),st):=by
 rw[gT (B:=fun _=>Â) (F:=fun x=>.fz (iL (F x))) e fun x d=>by obtain⟨s,a,b,c⟩:=h x d;exact⟨s,a,b,fun _=>c⟩];unfold aD;rw[ß,Ú.mpr fun _ _=>rfl];rfl
theorem mz(g:ev ks a sl st=À (x,s1))(f:ev ks b sl s1=À (y,s2))(e:bN s2 x=À (iL l))(d:bN s2 y=À (iL l'))(c:l.length+l'.length<=1000):jk ks (.cat a b) sl st=À (iL (l++l'),s2):=by
 rw[xr];unfold tT;rw[g,Ã];dsimp only;rw[f,Ã];dsimp only;rw[e,Ã,d,Ã,yH (cH (by simpa using c)),II]
theorem sJ{n:Nat}:dP 0 n=nL (É n):=by unfold dP nL;simp
theorem JS{w n:Nat}:dP (w:Int) n=nL ((É n).map (w+·)):=by unfold dP nL;simp[ß,Function.comp_def]
theorem En{n:Nat}:aP (bE n st) (iL l)=À (iL l):=cJ (f:=bE n st) (i:=AV.int) (g:=AV.int) (fun x=>by cases n<;>rfl) l
theorem mR{k:Nat}(h:st[k]?=À (.lst (iL l))):dG st (.ref k)=À (.fz (iL l)):=by
 show bE 6 st (.ref k)=_;unfold bE;simp only[h,En,Ì]
theorem GD{k:Nat}(h:st[k]?=À (.al t)):dG st (.ref k)=À t:=by
 show bE 6 st (.ref k)=_;unfold bE;simp only[h]
theorem lO{fn:Fn}{rest:List AV}{st st':aa}{x v t:AV}{l:List Int}(c:RowR st x l)(k:rfs rest=Â)(e:aP (dG st) rest=À rest)(g:∀s,mw s rest=À (rest,s))(b:fn (.fz (iL l)::rest) []=À (v,st'))(a:dG st' v=À t)(d:flat t=Ä) :
  ∃st1,pm fn (x::rest) st=À (t,st1)/\(st1=st\/∃r,x=.ref r/\st[r]?=À (.lst (iL l))/\st1=st.set r (.al (.fz (iL l)))):=by
 have au:∀r st1,x=.ref r->dG st (.ref r)=À (.fz (iL l))->jG st (.ref r)=À (.fz (iL l),st1)->pm fn (x::rest) st=À (t,st1):=fun r st1 ex j i=>by
  subst ex;have m:aP (dG st) (.ref r::rest)=À (.fz (iL l)::rest):=by simp only[aP,j,e];rfl
  have f:mw st (.ref r::rest)=À (.fz (iL l)::rest,st1):=by simp only[mw,i,Ã,g];rfl
  unfold pm;rw[yG (by simp[rf]),m,Ã,b,Ã];dsimp only;rw[a,Ã,yG (by rw[d];simp),f,Ã];dsimp only;rw[b,Ã];dsimp only;rw[a];rfl
 rcases c with rfl|⟨r,rfl,h|h⟩
 ·exact⟨st,aO (by simp[k]) b a,.inl rfl⟩
 ·exact⟨_,au r (st.set r (.al (.fz (iL l)))) rfl (mR h) (by unfold jG;simp[rf,h]),.inr ⟨r,rfl,h,rfl⟩⟩
 ·exact⟨_,au r st rfl (GD h) (by unfold jG;simp[rf,h]),.inl rfl⟩
theorem dN:(st++[x]).set st.length y=st++[y]:=by simp
end R
namespace LW
open PySem L2 R
noncomputable def top(i:Nat):ľ:=W8.main.body.getD i (.Pass ⟨0,0,0,0⟩)
noncomputable def Lj(s:ľ):List ľ:=match s with
 |.ClassDef _ _ _ b _ _ _ _ _ _ _=>b
 |_=>[]
def gR(i j:Nat):ľ:=(Lj (top i)).getD j (.Pass ⟨0,0,0,0⟩)
noncomputable def gs:List (Í×AV):=[("MOST_NAMES",.int 4)]
noncomputable def cl:List (Í×List Í):=[("Sheet",["below","guarded","heads","lines","nailed","sides","turned"])]
noncomputable abbrev B(_:FH):Type:=PP
local macro_rules | `(tactic| walk_at "tr")=>`(tactic| (refine (?f:FH.tr ?h false [] gs cl=some ?m->B ?h) ?p;(case p=>unfold FH.tr;rw [IK];(conv in cO _=>whnf);simp [-Option.map_map,↓IK,gs,cl,vw,oY,MC,ME,MB,MD,uS,uE,uT,uG,NT,NU,qw,lm,uO,uC,wS,CY,uI,NO,uR,uZ,NQ,uL,CZ,NP,Bm,Bn,NN,NM,uK,F2,NL,wU,wT,NS,NR,Mh,Mg,uX,m2,m3,at_,lk,uU,HI,hB,B8,uM,uN,uP,Jl,HV,NV,eZ,BY,ui,IJ];rfl);exact fun _=>?m))
@[simp] def kt:FH:=⟨.f "_law_cell_at" 2,"_law_cell_at",top 68,["_law_script","_law_k"],[],3,[],[],[]⟩
noncomputable def g7:B kt:=by walk_at "tr"
@[simp] def mr:FH:=⟨.f "_law_draws" 3,"_law_draws",top 69,["_law_cell","_law_many","_law_base","_law_found","_law_left","_law_k","_law_number"],[],3,[],[],[2984136152]⟩
noncomputable def jo:B mr:=by walk_at "tr"
@[simp] def mq:FH:=⟨.f "_law_facts" 2,"_law_facts",top 78,["_law_cell","_law_n","_law_digits","_law_found","_law_k","_law_a","_law_b","_law_c","_law_way"],[1],6,[],["_law_draws"],[3408136152]⟩
noncomputable def gJ:B mq:=by walk_at "tr"
@[simp] def mo:FH:=⟨.f "_law_rules" 1,"_law_rules",top 76,["_law_n","_law_whole_here","_law_found","_law_i","_law_j","_law_g"],[],3,[],[],[3280136968]⟩
noncomputable def mG:B mo:=by walk_at "tr"
@[simp] def pQ:FH:=⟨.f "_law_row" 2,"_law_row",top 79,["_law_cell","_law_n","_law_digits","_law_row_here","_law_rule","_law_digit","_law_tag","_law_one","_law_other","_law_both","_law_core","_law_many","_law_at"],[1,3],6,[],["_law_draws","_law_rules"],[3520160448,3584160296]⟩
noncomputable def iR:B pQ:=by walk_at "tr"
@[simp] def mn:FH:=⟨.f "_law_sorts" 1,"_law_sorts",top 70,["_law_n"],[],3,[],[],[3080088777]⟩
noncomputable def mF:B mn:=by walk_at "tr"
@[simp] def iI:FH:=⟨.f "_law_sort_table" 2,"_law_sort_table",top 71,["_law_n","_law_sort"],[],3,[],[],[]⟩
noncomputable def iK:B iI:=by walk_at "tr"
@[simp] def nW:FH:=⟨.f "_law_kept" 2,"_law_kept",top 81,["_law_fact","_law_table","_law_whole_here","_law_a","_law_b","_law_c","_law_apart"],[],3,[],[],[3648176305,3672232338]⟩
noncomputable def ii:B nW:=by walk_at "tr"
@[simp] def mj:FH:=⟨.f "_law_value" 2,"_law_value",top 80,["_law_row_here","_law_table"],[],3,[],[],[]⟩
noncomputable def jn:B mj:=by walk_at "tr"
@[simp] def nV:FH:=⟨.f "all_names" 1,"all_names",top 6,["n"],[],3,[],[],[]⟩
noncomputable def oi:B nV:=by walk_at "tr"
@[simp] def wo:FH:=⟨.f "sorts" 1,"sorts",top 61,["n","found"],[9],6,[],["all_names"],[2776096552]⟩
noncomputable def wF:B wo:=by walk_at "tr"
@[simp] def jA:FH:=⟨.f "views_of_coin" 2,"views_of_coin",top 62,["group","name"],[],3,[],[],[]⟩
noncomputable def jN:B jA:=by walk_at "tr"
@[simp] def nO:FH:=⟨.f "sort_heap" 2,"sort_heap",top 63,["n","sort"],[11],6,[],["views_of_coin"],[]⟩
noncomputable def oa:B nO:=by walk_at "tr"
@[simp] def pM:FH:=⟨.f "names_in" 2,"names_in",top 21,["n","group"],[],3,[],[],[]⟩
noncomputable def qc:B pM:=by walk_at "tr"
@[simp] def pJ:FH:=⟨.f "views_of" 2,"views_of",top 27,["heap","g","found","name"],[13],6,[],["names_in"],[672096112]⟩
noncomputable def qa:B pJ:=by walk_at "tr"
@[simp] def rF:FH:=⟨.f "mask_of" 1,"mask_of",top 28,["view"],[],3,[],[],[]⟩
noncomputable def sv:B rF:=by walk_at "tr"
@[simp] def mf:FH:=⟨.f "less_lines" 3,"less_lines",top 29,["lines","mask","made","lead","other","how"],[],3,[],[],[]⟩
noncomputable def mD:B mf:=by walk_at "tr"
@[simp] def nK:FH:=⟨.f "with_line" 3,"with_line",top 30,["lines","mask","made","lead","changed","other","there","how"],[],3,[],[],[784112128,832088329]⟩
noncomputable def n9:B nK:=by walk_at "tr"
@[simp] def pO:FH:=⟨.f "lines_of" 1,"lines_of",top 31,["views","lines","place","view","left"],[15,16,17],6,[],["mask_of","less_lines","with_line"],[]⟩
noncomputable def qd:B pO:=by walk_at "tr"
@[simp] def rD:FH:=⟨.f "rank_of" 1,"rank_of",top 32,["views"],[18],9,[],["lines_of"],[]⟩
noncomputable def sn:B rD:=by walk_at "tr"
@[simp] def mh:FH:=⟨.f "coin_table" 1,"coin_table",top 33,["heap"],[9,14,19],12,[],["all_names","views_of","rank_of"],[]⟩
noncomputable def mE:B mh:=by walk_at "tr"
@[simp] def l8:FH:=⟨.f "sort_table" 2,"sort_table",top 64,["n","sort"],[12,20],15,[],["sort_heap","coin_table"],[]⟩
noncomputable def mC:B l8:=by walk_at "tr"
@[simp] def kh:FH:=⟨.f "row_of_terms" 2,"row_of_terms",top 11,["n","terms","row","group","number"],[9],6,[],["all_names"],[264080224]⟩
noncomputable def fq:B kh:=by walk_at "tr"
@[simp] def pL:FH:=⟨.f "rest_row" 3,"rest_row",top 12,["n","a","b"],[22],9,[],["row_of_terms"],[]⟩
noncomputable def k8:B pL:=by walk_at "tr"
@[simp] def md:FH:=⟨.f "shared_row" 4,"shared_row",top 13,["n","a","b","c"],[22],9,[],["row_of_terms"],[]⟩
noncomputable def jm:B md:=by walk_at "tr"
@[simp] def pN:FH:=⟨.f "must_row" 2,"must_row",top 59,["n","must"],[23,24],12,[],["rest_row","shared_row"],[]⟩
noncomputable def iO:B pN:=by walk_at "tr"
@[simp] def wm:FH:=⟨.f "value" 2,"value",top 14,["row","table"],[],3,[],[],[]⟩
noncomputable def qS:B wm:=by walk_at "tr"
@[simp] def lx:FH:=⟨.f "keeps_facts" 3,"keeps_facts",top 65,["n","facts","table"],[25,26],15,[],["must_row","value"],[]⟩
noncomputable def iA:B lx:=by walk_at "tr"
@[simp] def pP:FH:=⟨.f "by_sorts" 3,"by_sorts",top 66,["n","facts","row","sort","table"],[10,21,27,26],18,[],["sorts","sort_table","keeps_facts","value"],[]⟩
noncomputable def iP:B pP:=by walk_at "tr"
@[simp] def lC:FH:=⟨.f "check_count" 1,"check_count",top 7,["n"],[],3,[],[],[]⟩
noncomputable def lI:B lC:=by walk_at "tr"
@[simp] def lA:FH:=⟨.f "check_group" 2,"check_group",top 8,["n","group"],[9],6,[],["all_names"],[]⟩
noncomputable def lH:B lA:=by walk_at "tr"
@[simp] def ly:FH:=⟨.f "check_known" 2,"check_known",top 9,["n","group"],[30],9,[],["check_group"],[]⟩
noncomputable def lG:B ly:=by walk_at "tr"
@[simp] def wn:FH:=⟨.f "tells" 3,"tells",top 57,["n","a","b"],[29,31,30,23],12,[],["check_count","check_known","check_group","rest_row"],[]⟩
noncomputable def nj:B wn:=by walk_at "tr"
@[simp] def kn:FH:=⟨.f "check_shared" 4,"check_shared",top 10,["n","a","b","c"],[29,30,31],12,[],["check_count","check_group","check_known"],[]⟩
noncomputable def fx:B kn:=by walk_at "tr"
@[simp] def uk:FH:=⟨.f "silent" 4,"silent",top 58,["n","a","b","c"],[33,24],15,[],["check_shared","shared_row"],[]⟩
noncomputable def k7:B uk:=by walk_at "tr"
@[simp] def jd:FH:=⟨.f "upward_sayings" 1,"upward_sayings",top 52,["saying","row","number","upward"],[],3,[],[],[2440104264]⟩
noncomputable def f7:B jd:=by walk_at "tr"
@[simp] def im:FH:=⟨.f "pairs_with_known" 3,"pairs_with_known",top 16,["n","i","j","both"],[9],6,[],["all_names"],[]⟩
noncomputable def iq:B im:=by walk_at "tr"
@[simp] def wp:FH:=⟨.f "rules" 1,"rules",top 17,["n","found","i","j"],[36],9,[],["pairs_with_known"],[392096344]⟩
noncomputable def wG:B wp:=by walk_at "tr"
@[simp] def pK:FH:=⟨.f "rule_row" 2,"rule_row",top 18,["n","rule","one"],[9,23,24],12,[],["all_names","rest_row","shared_row"],[]⟩
noncomputable def qb:B pK:=by walk_at "tr"
@[simp] def nQ:FH:=⟨.f "rule_rows" 1,"rule_rows",top 19,["n"],[37,38],15,[],["rules","rule_row"],[]⟩
noncomputable def oe:B nQ:=by walk_at "tr"
@[simp] def jj:FH:=⟨.k "Sheet" 3,"Sheet.__init__",gR 36 0,["self","width","lines"],[],3,[],[],[1032168408,1040168312,1048168472]⟩
noncomputable def gi:B jj:=by walk_at "tr"
@[simp] def lE:FH:=⟨.m "Sheet" "guard" 2,"Sheet.guard",gR 36 1,["self","quantity"],[],3,[],[],[]⟩
noncomputable def iB:B lE:=by walk_at "tr"
@[simp] def jD:FH:=⟨.f "opening_sheet" 3,"opening_sheet",top 42,["n","givens","goal","lines","guarded","sheet","quantity"],[39,9,40,41],18,[],["rule_rows","all_names","Sheet","guard"],[1856096376,1856104177,1872144313,1880136409]⟩
noncomputable def gH:B jD:=by walk_at "tr"
@[simp] def iJ:FH:=⟨.m "Sheet" "turn_line" 2,"Sheet.turn_line",gR 36 3,["self","place"],[],3,[],[],[]⟩
noncomputable def fM:B iJ:=by walk_at "tr"
@[simp] def gw:FH:=⟨.m "Sheet" "loose_columns" 1,"Sheet.loose_columns",gR 36 5,["self"],[],3,[],[],[]⟩
noncomputable def d5:B gw:=by walk_at "tr"
@[simp] def fO:FH:=⟨.m "Sheet" "raising_column" 2,"Sheet.raising_column",gR 36 6,["self","place","line","found"],[44],6,[⟨164,30,164,63⟩],["loose_columns"],[]⟩
noncomputable def dU:B fO:=by walk_at "tr"
@[simp] def ip:FH:=⟨.m "Sheet" "is_tighter" 4,"Sheet.is_tighter",gR 36 8,["self","one","other","column","ahead","behind"],[],3,[],[],[]⟩
noncomputable def fe:B ip:=by walk_at "tr"
@[simp] def fN:FH:=⟨.m "Sheet" "tightest_place" 2,"Sheet.tightest_place",gR 36 9,["self","column","best","place","line"],[46],6,[],["is_tighter"],[]⟩
noncomputable def dS:B fN:=by walk_at "tr"
@[simp] def gN:FH:=⟨.m "Sheet" "is_up_first" 4,"Sheet.is_up_first",gR 36 10,["self","place","tight","column","up"],[],3,[],[],[]⟩
noncomputable def eK:B gN:=by walk_at "tr"
@[simp] def kr:FH:=⟨.f "changed_line" 5,"changed_line",top 35,["line","pivot_line","column","sign","below","pivot","factor","changed"],[],3,[],[],[976112808]⟩
noncomputable def d3:B kr:=by walk_at "tr"
@[simp] def jh:FH:=⟨.m "Sheet" "exchange" 3,"Sheet.exchange",gR 36 4,["self","place","column","sign","pivot_line","below","freed"],[49],6,[],["changed_line"],[1200168776,1208224496]⟩
noncomputable def gg:B jh:=by walk_at "tr"
@[simp] def mv:FH:=⟨.m "Sheet" "lift" 2,"Sheet.lift",gR 36 11,["self","place","column","tight"],[45,47,48,50],9,[],["raising_column","tightest_place","is_up_first","exchange"],[]⟩
noncomputable def fc:B mv:=by walk_at "tr"
@[simp] def gq:FH:=⟨.m "Sheet" "moving_column" 2,"Sheet.moving_column",gR 36 7,["self","place","line"],[44],6,[],["loose_columns"],[]⟩
noncomputable def d4:B gq:=by walk_at "tr"
@[simp] def ms:FH:=⟨.m "Sheet" "nail" 2,"Sheet.nail",gR 36 2,["self","quantity"],[],3,[],[],[]⟩
noncomputable def jp:B ms:=by walk_at "tr"
@[simp] def nT:FH:=⟨.f "keep_just" 2,"keep_just",top 43,["sheet","place","quantity","column"],[43,51,52,50,53],12,[],["turn_line","lift","moving_column","exchange","nail"],[]⟩
noncomputable def jZ:B nT:=by walk_at "tr"
@[simp] def km:FH:=⟨.f "keep_no_less" 2,"keep_no_less",top 44,["sheet","place","quantity"],[51,41],12,[],["lift","guard"],[]⟩
noncomputable def fu:B km:=by walk_at "tr"
@[simp] def nR:FH:=⟨.f "pair_rule" 3,"pair_rule",top 22,["one","other","known"],[],3,[],[],[]⟩
noncomputable def og:B nR:=by walk_at "tr"
@[simp] def jC:FH:=⟨.f "rules_of_name" 3,"rules_of_name",top 23,["n","k","known","used","j"],[13,56],6,[],["names_in","pair_rule"],[536088104]⟩
noncomputable def jP:B jC:=by walk_at "tr"
@[simp] def jB:FH:=⟨.f "rules_of_rest" 3,"rules_of_rest",top 24,["n","a","b","used","known","k"],[13,57],9,[],["names_in","rules_of_name"],[592088104]⟩
noncomputable def jO:B jB:=by walk_at "tr"
@[simp] def nU:FH:=⟨.f "how_often" 2,"how_often",top 25,["n","used"],[37],12,[],["rules"],[]⟩
noncomputable def oh:B nU:=by walk_at "tr"
@[simp] def iF:FH:=⟨.f "weights_by_line" 3,"weights_by_line",top 45,["n","sheet","place","taken","column","quantity","weights","group","often","rule","count"],[9,58,59],15,[],["all_names","rules_of_rest","how_often"],[2080096440,2112032340,2128112288]⟩
noncomputable def fK:B iF:=by walk_at "tr"
@[simp] def jg:FH:=⟨.f "common_divisor" 1,"common_divisor",top 38,["numbers","divisor","number","other","left"],[],3,[],[],[]⟩
noncomputable def eD:B jg:=by walk_at "tr"
@[simp] def iH:FH:=⟨.f "in_lowest_terms" 1,"in_lowest_terms",top 39,["numbers","divisor"],[61],6,[],["common_divisor"],[]⟩
noncomputable def dW:B iH:=by walk_at "tr"
@[simp] def ji:FH:=⟨.m "Sheet" "drive_up" 2,"Sheet.drive_up",gR 36 12,["self","place","column","tight"],[45,47,50],9,[],["raising_column","tightest_place","exchange"],[]⟩
noncomputable def gh:B ji:=by walk_at "tr"
@[simp] def iG:FH:=⟨.f "lowest_fraction" 2,"lowest_fraction",top 40,["top","bottom","numbers"],[62],9,[],["in_lowest_terms"],[]⟩
noncomputable def fL:B iG:=by walk_at "tr"
@[simp] def io:FH:=⟨.f "groups_in_column" 3,"groups_in_column",top 46,["n","sheet","column","found","place","quantity"],[9],6,[],["all_names"],[2192096240]⟩
noncomputable def fb:B io:=by walk_at "tr"
@[simp] def ki:FH:=⟨.f "lowest_table" 2,"lowest_table",top 41,["numbers","below","found"],[62],9,[],["in_lowest_terms"],[1832224361]⟩
noncomputable def g6:B ki:=by walk_at "tr"
@[simp] def je:FH:=⟨.f "table_of_sheet" 2,"table_of_sheet",top 47,["n","sheet"],[65,66],12,[],["groups_in_column","lowest_table"],[2240192438]⟩
noncomputable def f9:B je:=by walk_at "tr"
@[simp] def jf:FH:=⟨.f "least_of_sheet" 3,"least_of_sheet",top 49,["n","sheet","place","least","weights"],[64,60,62,67],18,[],["lowest_fraction","weights_by_line","in_lowest_terms","table_of_sheet"],[2304240502,2304240625,2312224422]⟩
noncomputable def gf:B jf:=by walk_at "tr"
@[simp] def nM:FH:=⟨.f "way_along" 3,"way_along",top 48,["n","sheet","column","way"],[65,62],9,[],["groups_in_column","in_lowest_terms"],[2256080358]⟩
noncomputable def ig:B nM:=by walk_at "tr"
@[simp] def ul:FH:=⟨.f "answer" 3,"answer",top 50,["n","givens","goal","sheet","last","place","given","kept","column"],[42,54,55,60,62,63,68,67,69],21,[],["opening_sheet","keep_just","keep_no_less","weights_by_line","in_lowest_terms","drive_up","least_of_sheet","table_of_sheet","way_along"],[2328096342,2352120310,2352504718,2368360622,2392120366,2400184382,2400392614]⟩
noncomputable def oS:B ul:=by walk_at "tr"
@[simp] def lv:FH:=⟨.f "table_along" 4,"table_along",top 53,["table","way","row","number","below","above","fall","steps"],[26,66],12,[],["value","lowest_table"],[]⟩
noncomputable def fT:B lv:=by walk_at "tr"
@[simp] def jE:FH:=⟨.f "follow_upward" 4,"follow_upward",top 54,["n","givens","row","number","found"],[70,71],24,[],["answer","table_along"],[]⟩
noncomputable def eP:B jE:=by walk_at "tr"
@[simp] def rH:FH:=⟨.f "follows" 3,"follows",top 55,["n","givens","saying","papers","row","sign","number","told"],[35,72],27,[],["upward_sayings","follow_upward"],[2600104120]⟩
noncomputable def jQ:B rH:=by walk_at "tr"
@[simp] def Do:FH:=⟨.f "law" 1,"law",top 82,["_law_script","_law_k","_law_n","_law_facts_here","_law_row_here","_law_due","_law_sort","_law_table","_law_kept_here","_law_handed","_law_musts","_law_fact"],[0,2,4,5,6,7,8,28,32,34,73],30,[],["_law_cell_at","_law_facts","_law_row","_law_sorts","_law_sort_table","_law_kept","_law_value","by_sorts","tells","silent","follows"],[3816200216]⟩
noncomputable def sR:B Do:=by walk_at "tr"
def e_law:FE:=⟨Do,sR⟩
def pre:List FE:=[⟨kt,g7⟩,⟨mr,jo⟩,⟨mq,gJ⟩,⟨mo,mG⟩,⟨pQ,iR⟩,⟨mn,mF⟩,⟨iI,iK⟩,⟨nW,ii⟩,⟨mj,jn⟩,⟨nV,oi⟩,⟨wo,wF⟩,⟨jA,jN⟩,⟨nO,oa⟩,⟨pM,qc⟩,⟨pJ,qa⟩,⟨rF,sv⟩,⟨mf,mD⟩,⟨nK,n9⟩,⟨pO,qd⟩,⟨rD,sn⟩,⟨mh,mE⟩,⟨l8,mC⟩,⟨kh,fq⟩,⟨pL,k8⟩,⟨md,jm⟩,⟨pN,iO⟩,⟨wm,qS⟩,⟨lx,iA⟩,⟨pP,iP⟩,⟨lC,lI⟩,⟨lA,lH⟩,⟨ly,lG⟩,⟨wn,nj⟩,⟨kn,fx⟩,⟨uk,k7⟩,⟨jd,f7⟩,⟨im,iq⟩,⟨wp,wG⟩,⟨pK,qb⟩,⟨nQ,oe⟩,⟨jj,gi⟩,⟨lE,iB⟩,⟨jD,gH⟩,⟨iJ,fM⟩,⟨gw,d5⟩,⟨fO,dU⟩,⟨ip,fe⟩,⟨fN,dS⟩,⟨gN,eK⟩,⟨kr,d3⟩,⟨jh,gg⟩,⟨mv,fc⟩,⟨gq,d4⟩,⟨ms,jp⟩,⟨nT,jZ⟩,⟨km,fu⟩,⟨nR,og⟩,⟨jC,jP⟩,⟨jB,jO⟩,⟨nU,oh⟩,⟨iF,fK⟩,⟨jg,eD⟩,⟨iH,dW⟩,⟨ji,gh⟩,⟨iG,fL⟩,⟨io,fb⟩,⟨ki,g6⟩,⟨je,f9⟩,⟨jf,gf⟩,⟨nM,ig⟩,⟨ul,oS⟩,⟨lv,fT⟩,⟨jE,eP⟩,⟨rH,jQ⟩]
theorem FG:p8 gs cl [] pre=pre.map fun e=>À e.b:=by kernel_rfl
theorem FI:e_law.chk gs cl pre=À e_law.b:=by kernel_rfl
instance:Pz:=⟨[(272,⟨164,30,164,63⟩,("Sheet.raising_column":Í)++".<locals>."++"<lambda>")]⟩
def d9:Fn:=run 2 (ae [] g7)
def ao:Fn:=run 7 (ae [] jo)
def d8:Fn:=run 9 (ae [ao] gJ)
def aX:Fn:=run 6 (ae [] mG)
def fC:Fn:=run 13 (ae [ao,aX] iR)
def fi:Fn:=run 1 (ae [] mF)
def dh:Fn:=run 2 (ae [] iK)
def fQ:Fn:=run 7 (ae [] ii)
def fg:Fn:=run 2 (ae [] jn)
def ah:Fn:=run 1 (ae [] oi)
def eG:Fn:=run 2 (ae [ah] wF)
def jS:Fn:=run 2 (ae [] jN)
def oo:Fn:=run 2 (ae [jS] oa)
def iT:Fn:=run 2 (ae [] qc)
def qk:Fn:=run 4 (ae [iT] qa)
def sC:Fn:=run 1 (ae [] sv)
def mK:Fn:=run 6 (ae [] mD)
def om:Fn:=run 8 (ae [] n9)
def qp:Fn:=run 5 (ae [sC,mK,om] qd)
def sB:Fn:=run 1 (ae [qp] sn)
def mL:Fn:=run 1 (ae [ah,qk,sB] mE)
def cm:Fn:=run 2 (ae [oo,mL] mC)
def dq:Fn:=run 5 (ae [ah] fq)
def dM:Fn:=run 3 (ae [dq] k8)
def c7:Fn:=run 4 (ae [dq] jm)
def fA:Fn:=run 2 (ae [dM,c7] iO)
def cA:Fn:=run 2 (ae [] qS)
def cb:Fn:=run 3 (ae [fA,cA] iA)
def fB:Fn:=run 5 (ae [eG,cm,cb,cA] iP)
def dD:Fn:=run 1 (ae [] lI)
def cR:Fn:=run 2 (ae [ah] lH)
def de:Fn:=run 2 (ae [cR] lG)
def kI:Fn:=run 3 (ae [dD,de,cR,dM] nj)
def d7:Fn:=run 4 (ae [dD,cR,de] fx)
def jt:Fn:=run 4 (ae [d7,c7] k7)
def aY:Fn:=run 4 (ae [] f7)
def iy:Fn:=run 4 (ae [ah] iq)
def qX:Fn:=run 4 (ae [iy] wG)
def qo:Fn:=run 3 (ae [ah,dM,c7] qb)
def aN:Fn:=run 1 (ae [qX,qo] oe)
def aE:Fn:=run 3 (ae [] gi)
def aM:Fn:=run 2 (ae [] iB)
def bO:Fn:=run 7 (ae [aN,ah,aE,aM] gH)
def cQ:Fn:=run 2 (ae [] fM)
def cB:Fn:=run 1 (ae [] d5)
def aG:Fn:=run 4 (ae [cB] dU)
def cC:Fn:=run 6 (ae [] fe)
def aF:Fn:=run 5 (ae [cC] dS)
def aT:Fn:=run 5 (ae [] eK)
def bH:Fn:=run 8 (ae [] d3)
def aI:Fn:=run 7 (ae [bH] gg)
def cL:Fn:=run 4 (ae [aG,aF,aT,aI] fc)
def bU:Fn:=run 3 (ae [cB] d4)
def eu:Fn:=run 2 (ae [] jp)
def cG:Fn:=run 4 (ae [cQ,cL,bU,aI,eu] jZ)
def bG:Fn:=run 3 (ae [cL,aM] fu)
def oq:Fn:=run 3 (ae [] og)
def jT:Fn:=run 5 (ae [iT,oq] jP)
def c9:Fn:=run 6 (ae [iT,jT] jO)
def eI:Fn:=run 2 (ae [qX] oh)
def aL:Fn:=run 11 (ae [ah,c9,eI] fK)
def cX:Fn:=run 5 (ae [] eD)
def ai:Fn:=run 2 (ae [cX] dW)
def bC:Fn:=run 4 (ae [aG,aF,aI] gh)
def dg:Fn:=run 3 (ae [ai] fL)
def c8:Fn:=run 6 (ae [ah] fb)
def bF:Fn:=run 3 (ae [ai] g6)
def aS:Fn:=run 2 (ae [c8,bF] f9)
def bB:Fn:=run 5 (ae [dg,aL,ai,aS] gf)
def cF:Fn:=run 4 (ae [c8,ai] ig)
def hU:Fn:=run 9 (ae [bO,cG,bG,aL,ai,bC,bB,aS,cF] oS)
def eE:Fn:=run 8 (ae [cA,bF] fT)
def bt:Fn:=run 5 (ae [hU,eE] eP)
def eA:Fn:=run 8 (ae [aY,bt] jQ)
def qr:Fn:=run 12 (ae [d9,d8,fC,fi,dh,fQ,fg,fB,kI,jt,eA] sR)
def Fs:List Fn:=[d9,ao,d8,aX,fC,fi,dh,fQ,fg,ah,eG,jS,oo,iT,qk,sC,mK,om,qp,sB,mL,cm,dq,dM,c7,fA,cA,cb,fB,dD,cR,de,kI,d7,jt,aY,iy,qX,qo,aN,aE,aM,bO,cQ,cB,aG,cC,aF,aT,bH,aI,cL,bU,eu,cG,bG,oq,jT,c9,eI,aL,cX,ai,bC,dg,c8,bF,aS,bB,cF,hU,eE,bt,eA]
theorem K5:jH [] pre=Fs:=AJ (by(repeat refine⟨rfl,?_⟩);trivial)
theorem KB:e_law.fn (jH [] pre)=qr:=by rw[K5];rfl
def Mc:Fn:=qr
open PySem.Spec
open SX (Sh PN)
def Bd(w m:Nat)(S:Sh):Prop:=S.d.natAbs<2^9000/\∀i,i<m->∀j,j<w+1->(S.t i j).natAbs<2^9000
section
variable{st:aa}{k a b c g n u w m:Nat}{rows:List AV}{S:Sh}
theorem KK(R:Rep st k a b c g n u rows S)(P:PN w m S)(B:Bd w m S){i r q:Nat}(e:i<m)(d:r<m)(l:q<w) :
  cC [.ref k,.int i,.int r,.int q] st=À (.bl (decide (S.t i w*- S.t r q<S.t r w*- S.t i q)||(decide (S.t i w*- S.t r q=S.t r w*- S.t i q)&&decide (S.s i<S.s r))),st):=by
 have f:cS (S.t i w) (- S.t r q)=Â:=c6 (B.2 i e w oM) (by rw [â];exact B.2 r d q oM);have m2:cS (S.t r w) (- S.t i q)=Â:=c6 (B.2 r d w oM) (by rw [â];exact B.2 i e q oM);simp [cC,aw,fe,R.ins,R.line P e,R.line P d,R.last P e,R.last P d,R.cell P e (show q < w + 1 by lia),R.cell P d (show q < w + 1 by lia),b9 f,b9 m2,R.side P e,R.side P d];by_cases j:S.t i w * -S.t r q < S.t r w * -S.t i q <;> by_cases h:S.t i w * -S.t r q=S.t r w * -S.t i q <;> simp [j,h]
theorem CV(R:Rep st k a b c g n u rows S)(P:PN w m S)(B:Bd w m S){i r q:Nat}(e:i<m)(d:r<m)(h:q<w) :
  aT [.ref k,.int i,.int r,.int q] st=À (.bl (decide (S.t i w*S.t r q<=S.t r w*S.t i q)),st):=by
 have f:cS (S.t i w) (S.t r q)=Â:=c6 (B.2 i e w oM) (B.2 r d q oM);have m2:cS (S.t r w) (S.t i q)=Â:=c6 (B.2 r d w oM) (B.2 i e q oM);simp [aT,aw,eK,R.ins,R.line P e,R.line P d,R.last P e,R.last P d,R.cell P e (show q < w + 1 by lia),R.cell P d (show q < w + 1 by lia),b9 f,b9 m2]
theorem vY(R:Rep st k a b c g n u rows S)(P:PN w m S)(f:w<=100):cB [.ref k] st=À (.fz (nL (b8 S)),st):=by
 have e:nL (b8 S)=(S.hd.zipIdx.filter fun z=>!decide (z.1∈S.nl)).map fun z=>(AV.int ((z.2:Nat):Int)):=by unfold nL b8;rw[ß];rfl
 have d:=kO (l:=b8 S);rw [e] at d ⊢;simp [cB,aw,d5,R.ins,kg R.hb,Ld,cH (show S.hd.length <= 1000 by rw [P.hd];lia)];rw [gT (B:=fun z=>!decide (z.1 ∈ S.nl)) (F:=fun z=>.int ((z.2:Nat):Int)) (gX R.hb) fun z _=>⟨_,rfl,by simp [R.ins,R.nin],fun _=>rfl⟩];simp [d]
theorem tJ(R:Rep st k a b c g n u rows S)(P:PN w m S)(y:w<=100){p:Nat}(r:p<m):∃o,aG [.ref k,.int p] st=À (oN o,st)/\SX.Rais w S p o:=by
 have x:(b8 S).length<=1000:=by
  unfold b8;rw[zH]
  have:=G? (fun z:Nat×Nat=>!decide (z.1∈S.nl)) S.hd.zipIdx
  rw[R8,P.hd]at this;lia
 obtain⟨o,C,G,E⟩:=Jr (l:=(b8 S).filter fun j=>decide (0<S.t p j)) (key:=S.h);have inl:∀j,j∈(b8 S).filter (fun j=>decide (0<S.t p j)) ↔ (j<w/\S.h j∉S.nl)/\0<S.t p j:=fun j=>by rw[ŀ,jx P];simp
 refine⟨o,?_,fun e j d i h=>?_,fun q e=>?_⟩
 ·simp[aG,aw,dU,R.ins,R.line P r,vY R P y,nL,cH x]
  rw [gT (B:=fun j=>decide (0 < S.t p j)) (F:=fun j:Nat=>.int (j:Int)) gU fun j d=>⟨_,rfl,by simp [R.cell P r (show j < w + 1 by have:=(jx P).mp d;lia)],fun _=>rfl⟩];have D:rfs (((b8 S).filter fun j=>decide (0 < S.t p j)).map fun j:Nat=>(AV.int (j:Int)))=Â:=kO;have t:=wd (l:=(b8 S).filter fun j=>decide (0 < S.t p j));unfold nL at t;simp [D,sU,lsI,t];rw [Ia (f:=S.h) fun q A=>by simp [R.ins,R.head P ((inl q).mp A).1.1]];simp [C]
 ·have:=G e
  have s:=(inl j).mpr ⟨⟨d,i⟩,h⟩;rw[this]at s;cases s
 ·obtain⟨v,m2⟩:=E q e
  have:=(inl q).mp v
  exact⟨this.1.1,this.1.2,this.2,fun j d i h=>m2 j ((inl j).mpr ⟨⟨d,i⟩,h⟩)⟩
theorem vE(R:Rep st k a b c g n u rows S)(P:PN w m S)(B:Bd w m S){q:Nat}(z:q<w):∃o,aF [.ref k,.int q] st=À (oN o,st)/\SX.PH S w q m o:=by
 have rl:rows.length=m:=by rw[R.len,P.ls]
 obtain⟨t,p,e,rfl,o,x,y,rfl,T⟩:=fj (gd:=[(a,.lst rows)]) (g:=cj [cC] (.tu 2 (.cons (.nm 3) (.cons (.nm 4) .nil)))) (s:=ae [cC] (.cons (.iff (.an (.cmp .Lt (.ix (.v 4) (.v 1)) (.i 0)) (.cmp .In (.ix (.fd "Sheet" "sides" (.v 0)) (.v 3)) (.fd "Sheet" "guarded" (.v 0))))
   (.cons (.iff (.or (.cmp .Is (.v 2) .n) (.va (.me "Sheet" "is_tighter" 0 (.v 0) (.cons (.v 3) (.cons (.v 2) (.cons (.v 1) .nil)))))) (.cons (.as (.v 3) (.nm 2)) .nil) .nil) .nil) .nil) .nil))
  (I:=fun i sl s=>s=st/\∃o x y,sl=[Rs k,Is q,À (oN o),x,y]/\SX.PH S w q i o) (xs:=fD 0 rows) (fun i sl s _ j=>by rw[j.1];exact gX R.ha)
  (fun i y sl s v j=>by
   obtain⟨rfl,o,C,A,rfl,T⟩:=j;obtain⟨x,l,rfl⟩:=p4 v;have f:i<m:=by rw[<- rl];exact(zB.mp l).1
   have ex:x=lN rows i:=by have:=R.rx P f;rw[l]at this;injection this
   subst ex;refine⟨_,[Rs k,Is q,À (oN (if S.t i q<0/\S.s i∈S.gd then(match o with|none=>À i|some r=>if S.t i w*- S.t r q<S.t r w*- S.t i q\/(S.t i w*- S.t r q=S.t r w*- S.t i q/\S.s i<S.s r) then À i else À r) else o)),Is i,À (lN rows i)],s,rfl,?_,rfl,_,_,_,rfl,?_⟩
   ·by_cases d:S.t i q<0
    ·by_cases h:S.s i∈S.gd
     ·cases o with
      | none=>simp [R.cell P f (show q < w + 1 by lia),d,R.side P f,R.ins,R.ing,h,oN]
      |some r =>
       have D:=(T.2 r rfl).1
       have:=KK R P B f (show r < m by lia) z
       simp [R.cell P f (show q < w + 1 by lia),d,R.side P f,R.ins,R.ing,h,oN,this,fH,bN,dr];split <;> rfl
     ·simp [R.cell P f (show q < w + 1 by lia),d,R.side P f,R.ins,R.ing,h]
    ·simp [R.cell P f (show q < w + 1 by lia),d]
   ·by_cases d:S.t i q<0/\S.s i∈S.gd
    ·rw[yH d]
     cases o with
     |none=>exact SX.tt_first d.1 d.2 T
     |some r =>
      dsimp only;split
      ·rename_i h;exact SX.tt_new d.1 d.2 h T
      ·rename_i h;exact SX.tt_old d.1 h T
    ·rw[yG d];exact SX.tt_skip d T) (sl:=[Rs k,Is q,À .non,Á,Á]) (st:=st) ⟨rfl,Á,Á,Á,rfl,SX.tt_zero⟩
 rw[m7,rl]at T;refine⟨o,?_,T⟩;simp[aF,aw,dS,R.ins,kg R.ha];rw[e];simp
end
open SX (gI chLine pvl sgn)
theorem ze:dG st (.fz xs)=À (.fz xs):=rfl
theorem oU:((iL l).zip (iL P)).map (fun z=>AV.tup [z.1,z.2])=(l.zip P).map fun z=>.tup [.int z.1,.int z.2]:=by
 unfold iL;rw[List.zip_map,ß];rfl
section
variable{l P:List Int}{q w:Nat}{sg d:Int}
theorem mZ{M:Nat}(h:∀x∈l,x.natAbs<M)(a:0<M)(j:Nat):(gI l j).natAbs<M:=by
 unfold gI;rw[zD];cases e:l[j]? with
 |none=>exact a
 |some x=>exact h x (zW e)
theorem Nw(s:l.length=w+1)(t:P.length=w+1)(r:q<w+1)(p:w<=100)(g:∀x∈l,x.natAbs<2^9000)(m:∀x∈P,x.natAbs<2^9000)(hd:d≠0)(bd:d.natAbs<2^9000)(bs:sg.natAbs<2^9000) :
  ∃v st',bH [.fz (iL l),.fz (iL P),.int q,.int sg,.int d] []=À (v,st')/\dG st' v=À (.fz (iL (chLine l P q sg d))):=by
 have h:(0:Nat)<2^9000:=Ô _;have f:∀b:aa,aJ b (.fz (iL P)) (.int (q:Int))=À (.int (gI P q)):=fun b=>by rw[dj dI,cV,cz oM]
 have e:∀b:aa,aJ b (.fz (iL l)) (.int (q:Int))=À (.int (gI l q)):=fun b=>by rw[dj dI,cV,cz oM]
 have j:=mZ m h q;have k:=mZ g h q;have i:=p7 hd bd;unfold chLine;by_cases a:gI l q=0
 ·by_cases c:gI P q=d
  ·refine⟨.fz (iL l),[],?_,by rw[yH a,yH c];rfl⟩
   simp[bH,aw,d3,f,e,a,c]
  ·refine⟨.fz (iL (l.map fun x=>SX.fdvS (x*gI P q) d)),[],?_,by rw[yH a,yG c];rfl⟩
   simp [bH,aw,d3,f,e,a,c,cH (show l.length <= 1000 by lia)];rw [mW (F:=fun x=>SX.fdvS (x * gI P q) d) gU fun x o=>⟨_,rfl,rfl,by simp [b9 (c6 (g x o) j),nq i];rfl⟩];simp
 ·refine⟨.ref 0,[.lst (iL (((l.zip P).map fun z=>SX.fdvS (z.1*gI P q-gI l q*z.2) d).set q (sg*gI l q)))],?_,by rw[yG a];exact mR rfl⟩
  have n:=c6 bs k;have hz:((l.zip P).length)<=1000:=by rw[ą];lia
  simp[bH,aw,d3,f,e,a,iZ,oU];rw[yH (cH oM),Ao (F:=fun z=>SX.fdvS (z.1*gI P q-gI l q*z.2) d) gU fun z hz=>⟨_,rfl,rfl,by
   have:=ì hz
   simp[b9 (c6 (g _ this.1) j),b9 (c6 k (m _ this.2)),nq i];rfl⟩]
  simp[b9 n];rw[dZ (xs:=iL ((l.zip P).map fun z=>SX.fdvS (z.1*gI P q-gI l q*z.2) d)) rfl (by simp;lia),gD];simp
theorem Li(b:RowR st x l)(f:l.length=w+1)(g:P.length=w+1)(e:q<w+1)(c:w<=100)(j:∀x∈l,x.natAbs<2^9000)(k:∀x∈P,x.natAbs<2^9000)(hd:d≠0)(bd:d.natAbs<2^9000)(bs:sg.natAbs<2^9000) :
  ∃st1,pm bH [x,.fz (iL P),.int q,.int sg,.int d] st=À (.fz (iL (chLine l P q sg d)),st1)/\(st1=st\/∃r,x=.ref r/\st[r]?=À (.lst (iL l))/\st1=st.set r (.al (.fz (iL l)))):=by
 obtain⟨v,a,i,h⟩:=Nw f g e c j k hd bd bs;exact lO (rest:=[.fz (iL P),.int q,.int sg,.int d]) b (by simp) rfl (fun s=>by simp[mw,jG,rf]) i h (by simp[flat])
end
section
variable{st:aa}{k a b c g n u w m:Nat}{rows:List AV}{S:Sh}
theorem Bd.row(B:Bd w m S)(P:PN w m S){i:Nat}(c:i<m):∀x∈SX.row S i,x.natAbs<2^9000:=fun x d=>by
 obtain⟨j,b⟩:=z8 d;have a:=(zB.mp b).1;rw[P.rl c]at a
 have:=B.2 i c j a
 have e:S.t i j=x:=by show(SX.row S i).getD j 0=x;rw[zD,b];rfl
 rw[e]at this;exact this
theorem pZ(R:Rep st k a b c g n u rows S)(P:PN w m S)(B:Bd w m S)(hd:S.d≠0)(hw:w<=100)(hm:m<=1000){p q:Nat}(A:p<m)(hq:q<w) :
  ∃st' a' rows',aI [.ref k,.int p,.int q] st=À (.non,st')/\Rep st' k a' b c g n u rows' (SX.PK S p q):=by
 have rl:rows.length=m:=by rw[R.len,P.ls]
 obtain⟨sg,D⟩:∃x,x=sgn (S.t p q):=⟨_,rfl⟩;obtain⟨o,N⟩:∃x,x=pvl S p q:=⟨_,rfl⟩;have E:o=(SX.row S p).map fun x=>sg*x:=by rw[N,D];rfl
 have lp:o.length=w+1:=by rw[E,zH];exact P.rl A
 have sa:sg.natAbs=1:=by rw[D];unfold sgn;split<;>rfl
 have bs:sg.natAbs<2^9000:=by rw[sa];exact Nat.one_lt_two_pow oM
 have bP:∀x∈o,x.natAbs<2^9000:=fun x G=>by
  rw[E]at G;obtain⟨y,hy,rfl⟩:=yC.mp G;rw[yZ,sa,ϻ];exact B.row P A y hy
 have s1:∃t,iD [(a,.lst rows)] (cj [bH] (.nm 7)) (kA [bH] .no) (ev [bH] (.ca Â 0 (.cons (.v 7) (.cons (.v 4) (.cons (.v 2) (.cons (.v 3) (.cons (.v 5) .nil))))))) [Rs k,Is p,Is q,Is sg,Ls o,Is S.d,Á,Á] rows st
   = À ((É rows.length).map fun i=>.fz (iL (chLine (SX.row S i) o q sg S.d)),t)/\Rep t k a b c g n u rows S:=by
  refine Im (J:=fun _ s=>Rep s k a b c g n u rows S) (fun _ s _ Z=>gX Z.ha) (fun i x s G Z=>?_) R;have hi:i<m:=by rw[<- rl];exact(zB.mp G).1
  obtain ⟨s1,e1,Y⟩:=Li (Z.row i x G) (P.rl hi) lp (show q < w + 1 by lia) hw (B.row P hi) bP hd B.1 bs;refine ⟨_,s1,rfl,rfl,by simp [e1],?_⟩;rcases Y with rfl | ⟨r,rfl,h2,rfl⟩
  ·exact Z
  ·exact Z.freeze G h2
 obtain⟨t,e1,R1⟩:=s1;obtain⟨f,M⟩:∃x,x=(É rows.length).map fun i=>AV.fz (iL (chLine (SX.row S i) o q sg S.d)):=⟨_,rfl⟩
 rw[<- M]at e1;have O:∀i x,f[i]?=À x->i<m/\x=.fz (iL (chLine (SX.row S i) o q sg S.d)):=fun i x h=>by
  rw[M,zR]at h;obtain⟨j,Y,rfl⟩:=zE.mp h;have W:=(zB.mp Y).1;rw[Ń]at W;rw[P? W]at Y;cases Y;exact⟨by lia,rfl⟩
 have l2:f.length=m:=by rw[M,zH,Ń,rl]
 have lt:∀{s:aa}{i:Nat}{x:PC},s[i]?=À x->i<s.length:=fun h=>(zB.mp h).1
 have R2:Rep ((t++[PC.lst f]).set k (.ins "Sheet" (df S.d t.length b c g n u))) k t.length b c g n u f { S with ls:=S.ls.map fun l=>chLine l o q sg S.d }:=by
  refine Rep.fields (S':={ S with ls:=S.ls.map fun l=>chLine l o q sg S.d }) (R1.app (ys:=[PC.lst f])) gl rfl rfl rfl rfl rfl (by simp[l2,P.ls]) (fun i x h=>?_) (Ĵ (lt R1.hb)) (Ĵ (lt R1.hc)) fun i r h=>?_
  ·obtain⟨hi,rfl⟩:=O i x h
   left;unfold SX.row;simp [zD,zF (show i < S.ls.length by rw [P.ls];exact hi)]
  ·have:=(O i _ h).2;cases this
 obtain⟨C,L⟩:∃x,x=(t++[PC.lst f]).set k (.ins "Sheet" (df S.d t.length b c g n u)):=⟨_,rfl⟩;rw[<- L]at R2;obtain⟨a',X⟩:∃x,x=t.length:=⟨_,rfl⟩;rw[<- X]at R2 L;have R3:=Rep.rowset (p:=p) (x:=.ref C.length) (l:=o.map fun x=>- x) (R2.app (ys:=[PC.lst (iL (o.map fun x=>- x))])) (.inr ⟨C.length,rfl,.inl gl⟩) fun r e=>by cases e;exact⟨Ĵ (lt R2.ha),Ĵ (lt R2.hb),Ĵ (lt R2.hc)⟩
 obtain⟨t3,K⟩:∃x,x=(C++[PC.lst (iL (o.map fun x=>- x))]).set a' (.lst (f.set p (.ref C.length))):=⟨_,rfl⟩;rw[<- K]at R3;have g3:t3[C.length]?=À (.lst (iL (o.map fun x=>- x))):=by rw[K,aq (zU (lt R2.ha))];exact gl
 have p3:(f.set p (.ref C.length))[p]?=À (.ref C.length):=by simp[l2,A]
 have H:=Rep.cellset (l:=(o.map fun x=>- x).set q (sg*S.d)) R3 p3 fun i ne h=>by
  rw[yW,yG (fun z=>ne z.symm)]at h
  have:=(O i _ h).2;cases this
 obtain⟨t4,V⟩:∃x,x=t3.set C.length (.lst (iL ((o.map fun x=>- x).set q (sg*S.d)))):=⟨_,rfl⟩;rw[<- V]at H;have I:=Rep.fields (S':={ d:=gI o q,ls:=_,hd:=S.hd,sd:=S.sd,gd:=S.gd,nl:=S.nl,tn:=S.tn }) H H.ha rfl rfl rfl rfl rfl H.len H.row H.ab H.ac H.ra;obtain⟨t5,U⟩:∃x,x=t4.set k (.ins "Sheet" (df (gI o q) a' b c g n u)):=⟨_,rfl⟩;have I:=U▸I;have R6:=Rep.sides (sd':=S.sd.set p (S.h q)) I;obtain⟨t6,T⟩:∃x,x=t5.set c (.lst (nL (S.sd.set p (S.h q)))):=⟨_,rfl⟩;rw[<- T]at R6;have R7:=Rep.heads (hd':=S.hd.set q (S.s p)) R6;obtain⟨t7,Q⟩:∃x,x=t6.set b (.lst (nL (S.hd.set q (S.s p)))):=⟨_,rfl⟩;rw[<- Q]at R7;refine⟨t7,a',f.set p (.ref C.length),?_,?_⟩
 rotate_left
 ·have e:SX.PK S p q={ d:=gI o q,ls:=((S.ls.map fun l=>chLine l o q sg S.d).set p (o.map fun x=>- x)).set p ((o.map fun x=>- x).set q (sg*S.d)),hd:=S.hd.set q (S.s p),sd:=S.sd.set p (S.h q),gd:=S.gd,nl:=S.nl,tn:=S.tn }:=by
   unfold SX.PK;rw[v?,N,D]
  rw[e];exact R7
 rw[aI,aw];unfold gg;refine af (sl':=[Rs k,Is p,Is q,Is sg,Á,Á,Á]) (st':=st) ?_ ?_
 ·by_cases h:S.t p q<0
  ·simp [R.ins,R.line P A,R.cell P A (show q < w + 1 by lia),h,D,sgn]
  ·simp [R.ins,R.line P A,R.cell P A (show q < w + 1 by lia),h,D,sgn]
 refine af (sl':=[Rs k,Is p,Is q,Is sg,Ls o,Á,Á]) (st':=st) ?_ ?_
 ·obtain⟨gd,i1,i2⟩:=(R.row p _ (R.rx P A)).it
  simp [R.ins,R.line P A,i1,cH (show (SX.row S p).length <= 1000 by rw [P.rl A];lia)];rw [mW (F:=fun x=>sg * x) i2 fun x G=>⟨_,rfl,rfl,by simp [b9 (c6 bs (B.row P A x G))]⟩];simp [E]
 refine af (sl':=[Rs k,Is p,Is q,Is sg,Ls o,Is S.d,Á]) (st':=st) (by simp[R.ins]) ?_;refine af (sl':=[Rs k,Is p,Is q,Is sg,Ls o,Is S.d,Á]) (st':=C) ?_ ?_
 ·rw[iM (v:=.ref a') (st':=t++[.lst f]) (k:=k) (by simp[R.ins,qJ R.ha,rl,cH hm,e1,X]) (by simp) R1.app.ins rfl,BP,L]
 refine af (sl':=[Rs k,Is p,Is q,Is sg,Ls o,Is S.d,Á]) (st':=t3) ?_ ?_
 ·simp [cH (show o.length <= 1000 by lia)]
  rw [mW (F:=fun x=>- x) gU fun x G=>⟨_,rfl,rfl,by simp⟩];simp [R2.app.ins,dZ (R2.app (ys:=[PC.lst (iL (o.map fun x=>- x))])).ha (show p < f.length by lia),K]
 have P4:PN w m { S with ls:=((S.ls.map fun l=>chLine l o q sg S.d).set p (o.map fun x=>- x)).set p ((o.map fun x=>- x).set q (sg*S.d)) }:=by
  have:=SX.exch_shp (c:=q) P A
  refine⟨by simp[P.ls],fun l W=>this.row l ?_,P.hd,P.sd⟩;show l∈(S.ls.map fun l=>chLine l (pvl S p q) q (sgn (S.t p q)) S.d).set p _;rw[<- N,<- D];rw[v?]at W;exact W
 have rx:lN (f.set p (.ref C.length)) p=.ref C.length:=by unfold lN;rw[zD,p3];rfl
 refine af (sl':=[Rs k,Is p,Is q,Is sg,Ls o,Is S.d,Á]) (st':=t4) ?_ ?_
 ·have li:aJ t3 (.ref a') (.int (p:Int))=À (.ref C.length):=by rw[dj (ci R3.ha),cV];exact p3
  simp [b9 (c6 bs B.1),R3.ins,li,dZ g3 (show q < (iL (o.map fun x=>- x)).length by simp;lia),gD,V]
 refine af (sl':=[Rs k,Is p,Is q,Is sg,Ls o,Is S.d,Á]) (st':=t5) ?_ ?_
 ·have xi:aJ t4 (.fz (iL o)) (.int (q:Int))=À (.int (gI o q)):=by rw[dj dI,cV,cz oM]
  rw[iM (v:=.int (gI o q)) (st':=t4) (k:=k) (by simp[xi]) (by simp) H.ins rfl,BQ,U]
 have P5:PN w m { S with d:=gI o q,ls:=((S.ls.map fun l=>chLine l o q sg S.d).set p (o.map fun x=>- x)).set p ((o.map fun x=>- x).set q (sg*S.d)) }:=⟨P4.ls,P4.row,P4.hd,P4.sd⟩;refine af (sl':=[Rs k,Is p,Is q,Is sg,Ls o,Is S.d,Is (S.s p:Int)]) (st':=t5) ?_ ?_
 ·have:=I.side P5 A
  simp[I.ins,this];rfl
 refine af (sl':=[Rs k,Is p,Is q,Is sg,Ls o,Is S.d,Is (S.s p:Int)]) (st':=t6) ?_ ?_
 ·have:=I.head P5 hq
  simp [I.ins,this,dZ I.hc (show p < (nL S.sd).length by simp [P.sd,A]),T];rw [<- Aj];rfl
 refine af (sl':=[Rs k,Is p,Is q,Is sg,Ls o,Is S.d,Is (S.s p:Int)]) (st':=t7) ?_ rfl;simp [R6.ins,dZ R6.hb (show q < (nL S.hd).length by simp [P.hd,hq]),Q,Aj]
end
open SX (MI Rais PH Kept PK)
noncomputable def ins(l:List Nat)(q:Nat):List Nat:=if q∈l then l else l++[q]
section
variable{st:aa}{k a b c g n u w m:Nat}{rows:List AV}{S:Sh}{p q:Nat}
theorem wq(R:Rep st k a b c g n u rows S)(d:S.gd.length<=1000):∃st',aM [.ref k,.int q] st=À (.non,st')/\Rep st' k a b c g n u rows { S with gd:=ins S.gd q }:=by
 refine⟨_,?_,R.guard⟩;simp[aM,aw,iB,R.ins,qI R.hg d,ins]
theorem tP(R:Rep st k a b c g n u rows S)(d:S.nl.length<=1000):∃st',eu [.ref k,.int q] st=À (.non,st')/\Rep st' k a b c g n u rows { S with nl:=ins S.nl q }:=by
 refine⟨_,?_,R.nail⟩;simp[eu,aw,jp,R.ins,qI R.hn d,ins]
theorem FV(R:Rep st k a b c g n u rows S)(P:PN w m S)(s:w<=100)(d:p<m)(j:S.tn.length<=1000):∃st' rows',cQ [.ref k,.int p] st=À (.non,st')/\Rep st' k a b c g n u rows' (SX.trn S p):=by
 have f:=Rep.rowset (p:=p) (x:=.fz (iL ((SX.row S p).map fun x=>- x))) (l:=(SX.row S p).map fun x=>- x) R (.inl rfl) fun r e=>nomatch e
 have R2:=Rep.turned (tn':=if S.s p∈S.tn then S.tn else S.tn++[S.s p]) f;refine⟨_,_,?_,R2⟩;obtain⟨t,i,h⟩:=(R.row p _ (R.rx P d)).it;have o:PN w m { S with ls:=S.ls.set p ((SX.row S p).map fun x=>- x) }:=⟨(SX.trn_shp P d).ls,(SX.trn_shp P d).row,P.hd,P.sd⟩;rw[cQ,aw];unfold fM;refine af (sl':=[Rs k,Is p]) (st':=st.set a (.lst (rows.set p (.fz (iL ((SX.row S p).map fun x=>- x)))))) ?_ ?_
 ·simp [R.ins,R.line P d,i,cH (show (SX.row S p).length <= 1000 by rw [P.rl d];lia)]
  rw [mW (F:=fun x=>- x) h fun x q=>⟨_,rfl,rfl,by simp⟩];simp [R.ins,dZ R.ha (show p < rows.length by rw [R.len,P.ls];exact d)]
 ·have:=f.side o d
  simp[f.ins,this];rw[qI f.hu j];rfl
theorem Ku(R:Rep st k a b c g n u rows S)(P:PN w m S)(A:w<=100)(r:p<m):∃o:Option Nat,bU [.ref k,.int p] st=À (oN o,st)/\(o=Á->∀j,j<w->S.h j∉S.nl->S.t p j=0)/\∀q,o=À q->q<w/\S.h q∉S.nl/\S.t p q≠0:=by
 have t:(b8 S).length<=1000:=by
  unfold b8;rw[zH]
  have:=G? (fun z:Nat×Nat=>!decide (z.1∈S.nl)) S.hd.zipIdx
  rw[R8,P.hd]at this;lia
 have inl:∀j,j∈(b8 S).filter (fun j=>!decide (S.t p j=0)) ↔ (j<w/\S.h j∉S.nl)/\S.t p j≠0:=fun j=>by rw[ŀ,jx P];simp
 have d:∃o:Option Nat,B7 (((b8 S).filter fun j=>!decide (S.t p j=0)).map fun j=>((j:Nat):Int))=oN o/\(o=Á->(b8 S).filter (fun j=>!decide (S.t p j=0))=[])/\∀q,o=À q->q∈(b8 S).filter fun j=>!decide (S.t p j=0):=by
  generalize (b8 S).filter (fun j=>!decide (S.t p j=0))=l;cases l with
  |nil=>exact⟨Á,rfl,fun _=>rfl,fun q h=>nomatch h⟩
  |cons x l =>
   have h:=(DD.minF (l.map fun j=>((j:Nat):Int)) (x:Int)).1;rw[<- zO (f:=fun j:Nat=>((j:Nat):Int))]at h;obtain⟨y,v,e⟩:=yC.mp h;refine⟨À y,?_,(fun z=>nomatch z),fun q z=>by cases z;exact v⟩;show AV.int _=AV.int _;rw[e]
 obtain⟨o,D,I,H⟩:=d;refine⟨o,?_,fun e j i E=>ñ fun C=>?_,fun q e=>?_⟩
 ·simp[bU,aw,d4,R.ins,R.line P r,vY R P A,nL,cH t]
  rw [gT (B:=fun j=>!decide (S.t p j=0)) (F:=fun j:Nat=>.int (j:Int)) gU fun j i=>⟨_,rfl,by simp [R.cell P r (show j < w + 1 by have:=(jx P).mp i;lia)],fun _=>rfl⟩];have G:rfs (((b8 S).filter fun j=>!decide (S.t p j=0)).map fun j:Nat=>(AV.int (j:Int)))=Â:=kO;have s:=wd (l:=(b8 S).filter fun j=>!decide (S.t p j=0));unfold nL at s;simp [G,bI,pw,lsI,s,D]
 ·have d:=(inl j).mpr ⟨⟨i,E⟩,C⟩
  rw[I e]at d;cases d
 ·have:=(inl q).mp (H q e)
  exact⟨this.1.1,this.1.2,this.2⟩
end
section
variable{st:aa}{k a b c g n u w m:Nat}{rows:List AV}{S:Sh}{p:Nat}{v:Nat->Nat->Int}
structure Bnd(w m:Nat)(v:Nat->Nat->Int):Prop where
 ex:∃M:Nat,1<=M/\(∀q x,x<w+1->(v q x).natAbs<=M)/\SX.fct (w+1)*M^(w+1)<2^2500
 hw:w<=100
 hm:m<=1000
theorem Bnd.bd(H:Bnd w m v)(I:MI w m v S):Bd w m S:=by
 obtain⟨M,c,b,a⟩:=H.ex;exact I.bound c b (ϧ a (ĉ dC dC))
theorem Bnd.bd8(H:Bnd w m v)(I:MI w m v S):S.d.natAbs<2^8900/\∀i,i<m->∀j,j<w+1->(S.t i j).natAbs<2^8900:=by
 obtain⟨M,c,b,a⟩:=H.ex;exact I.bound c b (ϧ a (ĉ dC dC))
theorem Bnd.bd2(H:Bnd w m v)(I:MI w m v S):S.d.natAbs<2^2500/\∀i,i<m->∀j,j<w+1->(S.t i j).natAbs<2^2500:=by
 obtain⟨M,c,b,a⟩:=H.ex;exact I.bound c b a
def wK(w m:Nat)(v:Nat->Nat->Int)(k b c g n u p:Nat)(e:Sh)(o:Out):Prop:=∃(S:Sh)(a:aa)(h:Nat)(d:List AV),Rep a k h b c g n u d S/\Kept m p e S /\
 ((o=.rt (.bl Â) a/\MI w m v { S with gd:=S.gd++[e.s p] }/\MI w m v { S with nl:=S.nl++[e.s p] }) \/
  (o=.rt (.bl Ä) a/\MI w m v S/\S.s p=e.s p/\S.t p w<0/\∀j,j<w->S.h j∉S.nl->¬0<S.t p j) \/
  ∃f,o=.nx f a/\MI w m v S/\S.s p=e.s p/\0<=e.t p w)
theorem An(H:Bnd w m v)(R:Rep st k a b c g n u rows S0)(I:MI w m v S0)(j:p<m)(V:S0.s p∉S0.gd)(X:S0.s p∉S0.nl) :
  ∃o,nE (tv [aG,aF,aT,aI] (.cmp .Lt (.ix (.ix (.fd "Sheet" "lines" (.v 0)) (.v 1)) (.un .USub (.i 1))) (.i 0)))
   (ae [aG,aF,aT,aI] (.cons (.as (.me "Sheet" "raising_column" 0 (.v 0) (.cons (.v 1) .nil)) (.nm 2))
    (.cons (.iff (.cmp .Is (.v 2) .n) (.cons (.rt (.b Ä)) .nil) .nil)
    (.cons (.as (.me "Sheet" "tightest_place" 1 (.v 0) (.cons (.v 2) .nil)) (.nm 3))
    (.cons (.iff (.or (.cmp .Is (.v 3) .n) (.va (.me "Sheet" "is_up_first" 2 (.v 0) (.cons (.v 1) (.cons (.v 3) (.cons (.v 2) .nil)))))) (.cons (.ex (.me "Sheet" "exchange" 3 (.v 0) (.cons (.v 1) (.cons (.v 2) .nil)))) (.cons (.rt (.b Â)) .nil)) .nil)
    (.cons (.ex (.me "Sheet" "exchange" 3 (.v 0) (.cons (.v 3) (.cons (.v 2) .nil)))) .nil)))))) [Rs k,Is p,x,y] st=À o/\wK w m v k b c g n u p S0 o:=by
 refine vy (α:=Sh) (a0:=S0) (I:=fun S U s=>(∃L d x y,U=[Rs k,Is p,x,y]/\Rep s k L b c g n u d S)/\MI w m v S/\Kept m p S0 S/\S.s p=S0.s p/\(S0.t p w<0->S.t p w<0))
  (Q:=fun S T=>MI w m v S/\(∃r q e,SX.Bl w m p (·∈S.gd) (·∈S.nl) r q e (SX.toSt S) (SX.toSt T))/\Kept m p S T) (fun f h0 hf=>SX.no_chain j f hf (by rw[h0];exact V)) (fun S U s hI=>?_) ⟨⟨a,rows,x,y,rfl,R⟩,I,Kept.refl,rfl,id⟩
 obtain⟨⟨L,d,x,y,rfl,R⟩,I,K,sp,Z⟩:=hI;have B:=H.bd I;have P:=I.shp;have t:S.s p∉S.gd:=by rw[sp,K.gd];exact V
 have M:S.s p∉S.nl:=by rw[sp,K.nl];exact X
 have C:tv [aG,aF,aT,aI] (.cmp .Lt (.ix (.ix (.fd "Sheet" "lines" (.v 0)) (.v 1)) (.un .USub (.i 1))) (.i 0)) [Rs k,Is p,x,y] s=À (decide (S.t p w<0),s):=by
  simp[R.ins,R.line P j,R.last P j]
 by_cases low:S.t p w<0
 ·rw[yV low]at C
  obtain⟨o,J,F⟩:=tJ R P H.hw j;cases o with
  |none =>
   left;refine⟨_,sY (v:=.bl Ä) (st2:=s) C ?_,S,s,L,d,R,K,.inr (.inl ⟨rfl,I,sp,low,F.1 rfl⟩)⟩;simp[R.ins,J,oN]
  |some q =>
   obtain⟨E,_,q3,_⟩:=F.2 q rfl;obtain⟨o,O,D⟩:=vE R P B E;have W:S.d≠0:=by have:=I.lin.pos;lia
   have au:(PH S w q m Á\/∃r,PH S w q m (À r)/\S.t p w*S.t r q<=S.t r w*S.t p q)->o=Á\/(∃r,o=À r/\S.t p w*S.t r q<=S.t r w*S.t p q)->∃o,dA (tv [aG,aF,aT,aI] (.cmp .Lt (.ix (.ix (.fd "Sheet" "lines" (.v 0)) (.v 1)) (.un .USub (.i 1))) (.i 0)))
     (ae [aG,aF,aT,aI] (.cons (.as (.me "Sheet" "raising_column" 0 (.v 0) (.cons (.v 1) .nil)) (.nm 2))
    (.cons (.iff (.cmp .Is (.v 2) .n) (.cons (.rt (.b Ä)) .nil) .nil)
    (.cons (.as (.me "Sheet" "tightest_place" 1 (.v 0) (.cons (.v 2) .nil)) (.nm 3))
    (.cons (.iff (.or (.cmp .Is (.v 3) .n) (.va (.me "Sheet" "is_up_first" 2 (.v 0) (.cons (.v 1) (.cons (.v 3) (.cons (.v 2) .nil)))))) (.cons (.ex (.me "Sheet" "exchange" 3 (.v 0) (.cons (.v 1) (.cons (.v 2) .nil)))) (.cons (.rt (.b Â)) .nil)) .nil)
    (.cons (.ex (.me "Sheet" "exchange" 3 (.v 0) (.cons (.v 3) (.cons (.v 2) .nil)))) .nil)))))) 1 [Rs k,Is p,x,y] s=À o/\wK w m v k b c g n u p S0 o:=fun hT ho=>by
    obtain⟨l,a2,i,G,R2⟩:=pZ R P B W H.hw H.hm j E;obtain⟨N,m2,m3⟩:=I.up j t M low F hT;refine⟨_,sY (v:=.bl Â) (st2:=l) C ?_,PK S p q,l,a2,i,R2,K.trans m3,.inl ⟨rfl,by rw[<- sp];exact N,by rw[<- sp];exact m2⟩⟩;rcases ho with rfl|⟨r,rfl,A⟩
    ·simp[R.ins,J,oN,O,G]
    ·have:=CV R P B j (D.2 r rfl).1 E
     simp[R.ins,J,oN,O,G,this,fH,bN,dr,A]
   cases o with
   |none=>exact .inl (au (.inl D) (.inl rfl))
   |some r =>
    by_cases A:S.t p w*S.t r q<=S.t r w*S.t p q
    ·exact .inl (au (.inr ⟨r,D,A⟩) (.inr ⟨r,rfl,A⟩))
    ·right
     have r1:=(D.2 r rfl).1;obtain⟨l,a2,i,G,R2⟩:=pZ R P B W H.hw H.hm r1 E;obtain⟨N,m2,m3,Y⟩:=I.step j t F D;refine⟨PK S r q,[Rs k,Is p,Is q,Is r],l,⟨I,⟨r,q,_,m2⟩,m3⟩,⟨⟨a2,i,_,_,rfl,R2⟩,N,K.trans m3,Y.trans sp,fun _=>I.low j t F D A⟩,fun n o h=>qu C ?_ h⟩
     have:=CV R P B j r1 E
     simp[R.ins,J,oN,O,G,this,fH,bN,dr,A]
 ·rw[z9 low]at C
  left;exact⟨_,mO C,S,s,L,d,R,K,.inr (.inr ⟨_,rfl,I,sp,by
   rcases yU (S0.t p w) 0 with z|z
   ·exact absurd (Z z) low
   ·exact z⟩)⟩
end
section
variable{st:aa}{k a b c g n u w m:Nat}{rows:List AV}{S:Sh}{p:Nat}{v:Nat->Nat->Int}
theorem Am(H:Bnd w m v)(R:Rep st k a b c g n u rows S0)(I:MI w m v S0)(d:p<m)(s:S0.s p∉S0.gd)(r:S0.s p∉S0.nl) :
  ∃(S:Sh)(st':aa)(a':Nat)(rows':List AV)(bb:Bool),cL [.ref k,.int p] st=À (.bl bb,st')/\Rep st' k a' b c g n u rows' S/\Kept m p S0 S /\
   ((bb=Â/\MI w m v { S with gd:=S.gd++[S0.s p] }/\(S0.t p w<0->MI w m v { S with nl:=S.nl++[S0.s p] })) \/
    (bb=Ä/\MI w m v S/\S.s p=S0.s p/\S.t p w<0/\∀j,j<w->S.h j∉S.nl->¬0<S.t p j)):=by
 by_cases low:S0.t p w<0
 ·obtain⟨o,e,S,st',a',rows',q,K,h⟩:=An H R I d s r (x:=Á) (y:=Á)
  rcases h with⟨rfl,i,f⟩|⟨rfl,i,f,l,t⟩|⟨A,rfl,i,f,l⟩
  ·refine⟨S,st',a',rows',Â,?_,q,K,.inl ⟨rfl,i,fun _=>f⟩⟩
   simp[cL,aw,fc,e]
  ·refine⟨S,st',a',rows',Ä,?_,q,K,.inr ⟨rfl,i,f,l,t⟩⟩
   simp[cL,aw,fc,e]
  ·lia
 ·refine⟨S0,st,a,rows,Â,?_,R,Kept.refl,.inl ⟨rfl,I.guard d oM,fun z=>absurd z low⟩⟩
  have P:=I.shp;rw[cL,aw];unfold fc;refine af (sl':=[Rs k,Is p,Á,Á]) (st':=st) (o7 (n:=1) (mO (by simp[R.ins,R.line P d,R.last P d,low]))) ?_;simp
theorem FA(H:Bnd w m v)(R:Rep st k a b c g n u rows S0)(I:MI w m v S0)(l:p<m)(A:S0.s p∉S0.gd) :
  ∃r,bC [.ref k,.int p] st=À r/\∃(S:Sh)(a':Nat)(rows':List AV),Rep r.2 k a' b c g n u rows' S/\Kept m p S0 S/\MI w m v S/\S.s p=S0.s p /\
   ((r.1=.non/\Rais w S p Á)\/∃q,r.1=.int ((q:Nat):Int)/\Rais w S p (À q)/\PH S w q m Á):=by
 rw[bC];simp only[aw];unfold gh;obtain⟨o,V,i⟩:=tJ R I.shp H.hw l;refine aA (sl':=[Rs k,Is p,À (oN o),Á]) (st':=st) (by simp[R.ins,V]) ?_;refine GC (Post:=fun out=>∃(S:Sh)(a':Nat)(rows':List AV)(st':aa),Rep st' k a' b c g n u rows' S/\Kept m p S0 S/\MI w m v S/\S.s p=S0.s p /\
   ((∃j,out=.nx j st'/\Rais w S p Á)\/∃q,out=.rt (.int ((q:Nat):Int)) st'/\Rais w S p (À q)/\PH S w q m Á))
  (vy (α:=Sh) (a0:=S0) (I:=fun S j s=>(∃a' rows' x o,j=[Rs k,Is p,À (oN o),x]/\Rep s k a' b c g n u rows' S/\Rais w S p o)/\MI w m v S/\Kept m p S0 S/\S.s p=S0.s p)
   (Q:=fun S T=>MI w m v S/\(∃r q e,SX.Bl w m p (·∈S.gd) (·∈S.nl) r q e (SX.toSt S) (SX.toSt T))/\Kept m p S T) (fun f N J=>SX.no_chain l f J (by rw[N];exact A)) (fun S j s L=>?_) ⟨⟨a,rows,Á,o,rfl,R,i⟩,I,Kept.refl,rfl⟩) ?_
 ·obtain⟨⟨a',rows',x,o,rfl,R,i⟩,I,K,sp⟩:=L
  have B:=H.bd I;have P:=I.shp;have t:S.s p∉S.gd:=by rw[sp,K.gd];exact A
  cases o with
  |none =>
   left;exact⟨_,mO (st':=s) (by simp[oN]),S,a',rows',s,R,K,I,sp,.inl ⟨_,rfl,i⟩⟩
  |some q =>
   obtain⟨z,_,X,_⟩:=i.2 q rfl;obtain⟨o,D,y⟩:=vE R P B z;cases o with
   |none =>
    left;refine⟨_,sY (v:=.int q) (st':=s) (st2:=s) (by simp[oN]) ?_,S,a',rows',s,R,K,I,sp,.inr ⟨q,rfl,i,y⟩⟩;simp[R.ins,oN,D]
   |some r =>
    right;have W:S.d≠0:=by have:=I.lin.pos;lia
    have r1:=(y.2 r rfl).1;obtain⟨st',a2,d,U,R2⟩:=pZ R P B W H.hw H.hm r1 z;obtain⟨C,m2,m3,G⟩:=I.step l t i y;obtain⟨o,O,M⟩:=tJ R2 C.shp H.hw l;refine⟨PK S r q,[Rs k,Is p,À (oN o),Is r],st',⟨I,⟨r,q,_,m2⟩,m3⟩,⟨⟨a2,d,_,o,rfl,R2,M⟩,C,K.trans m3,G.trans sp⟩,fun n Y h=>qu (st':=s) (by simp[oN]) ?_ h⟩;simp[R.ins,oN,D,U,R2.ins,O]
 ·rintro out ⟨S,a',rows',st',E,K,F,sp,⟨j,rfl,h⟩|⟨q,rfl,h⟩⟩
  ·exact⟨(.non,st'),by simp,S,a',rows',E,K,F,sp,.inl ⟨rfl,h⟩⟩
  ·exact⟨(.int q,st'),by simp,S,a',rows',E,K,F,sp,.inr ⟨q,rfl,h⟩⟩
end
structure Kj(m p:Nat)(S T:Sh):Prop where
 tn:T.tn=S.tn\/T.tn=S.tn++[S.s p]
 si:∀i,i<m->i≠p->S.s i∉S.gd->T.s i=S.s i
section
variable{st:aa}{k a b c g n u w m:Nat}{rows:List AV}{S:Sh}{p:Nat}{v:Nat->Nat->Int}
theorem KF(H:Bnd w m v)(R:Rep st k a b c g n u rows S0)(I:MI w m v S0)(i:p<m)(r:S0.s p∉S0.gd)(t:S0.s p∉S0.nl)(x:S0.gd.length<=1000) :
  ∃(S:Sh)(st':aa)(a':Nat)(rows':List AV)(bb:Bool),bG [.ref k,.int p] st=À (.bl bb,st')/\Rep st' k a' b c g n u rows' S/\Kj m p S0 S/\S.tn=S0.tn/\S.nl=S0.nl/\MI w m v S /\
   ((bb=Â/\S.gd=S0.gd++[S0.s p])\/(bb=Ä/\S.gd=S0.gd/\S.s p=S0.s p/\S.t p w<0/\∀j,j<w->S.h j∉S.nl->¬0<S.t p j)):=by
 have P:=I.shp;obtain⟨S,f,a1,d,bb,s,o,K,h⟩:=Am H R I i r t;rcases h with⟨rfl,l,_⟩|⟨rfl,l,y⟩
 ·obtain⟨e,A,R2⟩:=wq (q:=S0.s p) o (by rw[K.gd];exact x)
  have z:ins S.gd (S0.s p)=S.gd++[S0.s p]:=yG (by rw[K.gd];exact r);rw[z]at R2;refine⟨{ S with gd:=S.gd++[S0.s p] },e,a1,d,Â,?_,R2,⟨.inl K.tn,K.si⟩,K.tn,K.nl,l,.inl ⟨rfl,by rw[K.gd]⟩⟩;simp[bG,aw,fu,R.ins,R.side P i,s,fH,bN,dr,o.ins,A]
 ·refine⟨S,f,a1,d,Ä,?_,o,⟨.inl K.tn,K.si⟩,K.tn,K.nl,l,.inr ⟨rfl,K.gd,y⟩⟩
  simp[bG,aw,fu,R.ins,R.side P i,s,fH,bN,dr]
theorem KH(H:Bnd w m v)(R:Rep st k a b c g n u rows S0)(I:MI w m v S0)(f:p<m)(ng:S0.s p∉S0.gd)(J:S0.s p∉S0.nl)(nt:S0.s p∉S0.tn)(Y:S0.nl.length<=1000)(X:S0.tn.length<=1000) :
  ∃(S:Sh)(st':aa)(a':Nat)(rows':List AV)(bb:Bool),cG [.ref k,.int p] st=À (.bl bb,st')/\Rep st' k a' b c g n u rows' S/\Kj m p S0 S/\S.gd=S0.gd/\MI w m v S /\
   ((bb=Â/\S.nl=S0.nl++[S0.s p])\/(bb=Ä/\S.nl=S0.nl/\S.s p=S0.s p/\S.t p w<0/\∀j,j<w->S.h j∉S.nl->¬0<S.t p j)):=by
 have P:=I.shp
 have s1:∃(d:Sh)(t:aa)(e:List AV),cZ [cQ,cL,bU,aI,eu] (.iff (.cmp .Gt (.ix (.ix (.fd "Sheet" "lines" (.v 0)) (.v 1)) (.un .USub (.i 1))) (.i 0)) (.cons (.ex (.me "Sheet" "turn_line" 0 (.v 0) (.cons (.v 1) .nil))) .nil) .nil) [Rs k,Is p,Is (S0.s p:Int),Á] st=À (.nx [Rs k,Is p,Is (S0.s p:Int),Á] t) /\
   Rep t k a b c g n u e d/\MI w m v d/\d.gd=S0.gd/\d.nl=S0.nl/\(d.tn=S0.tn\/d.tn=S0.tn++[S0.s p])/\d.sd=S0.sd/\d.t p w<=0:=by
  by_cases h:0<S0.t p w
  ·obtain⟨t,e,Z,s⟩:=FV R P H.hw f X
   refine⟨SX.trn S0 p,t,e,?_,s,I.turn f ng J nt,rfl,rfl,.inr (yG nt),rfl,?_⟩
   ·simp[R.ins,R.line P f,R.last P f,h,Z]
   ·rw[(SX.trn_t P f).1 w oM];lia
  ·refine⟨S0,st,rows,?_,R,I,rfl,rfl,.inl rfl,rfl,by lia⟩
   simp[R.ins,R.line P f,R.last P f,h]
 refine g_ fun G bk=>?_
 obtain⟨d,t,e,Z,s,E,g1,y,t1,d1,low1⟩:=s1;have B:∀i,d.s i=S0.s i:=fun i=>by show d.sd.getD i 0=S0.sd.getD i 0;rw[d1]
 have z:=E.shp;have V:d.s p∉d.nl:=by rw[B,y];exact J
 have W:d.s p∉d.gd:=by rw[B,g1];exact ng
 have D:∀T:Sh,Kept m p d T->Kj m p S0 T:=fun T K=>⟨by rw[K.tn];exact t1,fun i hi ne h=>by rw[K.si i hi ne (by rw[B,g1];exact h),B]⟩
 have hd:∀{r:AV×aa},(ae [cQ,cL,bU,aI,eu] (.cons (.iff (.cmp .Lt (.ix (.ix (.fd "Sheet" "lines" (.v 0)) (.v 1)) (.un .USub (.i 1))) (.i 0)) (.cons (.iff (.no (.va (.me "Sheet" "lift" 1 (.v 0) (.cons (.v 1) .nil)))) (.cons (.rt (.b Ä)) .nil) .nil) .nil)
   (.cons (.as (.me "Sheet" "moving_column" 2 (.v 0) (.cons (.v 1) .nil)) (.nm 3)) (.cons (.iff (.cmp .IsNot (.v 3) .n) (.cons (.ex (.me "Sheet" "exchange" 3 (.v 0) (.cons (.v 1) (.cons (.v 3) .nil)))) .nil) .nil) .nil)))
   (.cons (.ex (.me "Sheet" "nail" 4 (.v 0) (.cons (.v 2) .nil))) (.cons (.rt (.b Â)) .nil))) [Rs k,Is p,Is (S0.s p:Int),Á] t).bind au=À r->cG [.ref k,.int p] st=À r:=fun h=>by
  rw[cG,aw];unfold jZ;exact af (sl':=[Rs k,Is p,Is (S0.s p:Int),Á]) (st':=st) (by simp[R.ins,R.side P f]) (af Z h)
 by_cases low:d.t p w<0
 ·obtain⟨S,F,a2,l,bb,O,R2,K,h⟩:=Am H s E f W V
  rcases h with⟨rfl,U,A⟩|⟨rfl,U,A⟩
  ·obtain⟨x,N,C⟩:=tP (q:=S0.s p) R2 (by rw[K.nl,y];exact Y)
   have M:ins S.nl (S0.s p)=S.nl++[S0.s p]:=yG (by rw[K.nl,y];exact J);rw[M]at C;have A:=A low;rw[B]at A;refine bk ⟨{ S with nl:=S.nl++[S0.s p] },x,a2,l,Â,hd ?_,C,⟨(D S K).tn,(D S K).si⟩,K.gd.trans g1,A,.inl ⟨rfl,by rw[K.nl,y]⟩⟩;simp[s.ins,s.line z f,s.last z f,low,O,fH,bN,dr,R2.ins,N]
  ·refine bk ⟨S,F,a2,l,Ä,hd ?_,R2,D S K,K.gd.trans g1,U,.inr ⟨rfl,K.nl.trans y,A.1.trans (B p),A.2⟩⟩
   simp[s.ins,s.line z f,s.last z f,low,O,fH,bN,dr]
 ·have Q:d.t p w=0:=by lia
  obtain⟨o,O,U,A⟩:=Ku s z H.hw f;cases o with
  |none =>
   obtain⟨x,N,C⟩:=tP (q:=S0.s p) s (by rw[y];exact Y);have M:ins d.nl (S0.s p)=d.nl++[S0.s p]:=yG (by rw[y];exact J);rw[M]at C;have L:=E.nail f Q (U rfl);rw[B]at L;refine bk ⟨{ d with nl:=d.nl++[S0.s p] },x,a,e,Â,hd ?_,C,⟨(D d Kept.refl).tn,(D d Kept.refl).si⟩,g1,L,.inl ⟨rfl,by rw[y]⟩⟩;simp[s.ins,s.line z f,s.last z f,Q,O,oN,N]
  |some q =>
   obtain⟨q1,q2,q3⟩:=A q rfl;have d0:d.d≠0:=by have:=E.lin.pos;lia
   obtain⟨F,a2,l,e4,R2⟩:=pZ s z (H.bd E) d0 H.hw H.hm f q1;obtain⟨x,N,C⟩:=tP (q:=S0.s p) R2 (by show d.nl.length<=1000;rw[y];exact Y);have M:ins (PK d p q).nl (S0.s p)=d.nl++[S0.s p]:=yG (by show S0.s p∉d.nl;rw[y];exact J);rw[M]at C;obtain⟨L,K⟩:=E.move f q1 q2 Q q3;rw[B]at L;refine bk ⟨{ PK d p q with nl:=d.nl++[S0.s p] },x,a2,l,Â,hd ?_,C,⟨(D _ K).tn,(D _ K).si⟩,g1,L,.inl ⟨rfl,by rw[y]⟩⟩;simp[s.ins,s.line z f,s.last z f,Q,O,oN,e4,R2.ins,N]
end
open SX (openS)
structure Gv where
 row:List Int
 eq:Bool
 num:Int
def Gv.av(x:Gv):AV:=.tup [.fz (iL x.row),.str (if x.eq then "=" else ">"),.int x.num]
noncomputable def ak(RR:List (List Int))(gv:List Gv)(goal:List Int):List (List Int):=RR.map (·++[0])++gv.map (fun x=>x.row++[-x.num])++[goal.map (fun x=>- x)++[0]]
section
variable{w:Nat}{L RR:List (List Int)}{gv:List Gv}{goal:List Int}
noncomputable abbrev rK:List (Í×AV):=[("below",.int 1)]
noncomputable abbrev Jc:List (Í×AV):=[("below",.int 1),("lines",.ref 2)]
noncomputable abbrev Jb:List (Í×AV):=[("below",.int 1),("lines",.ref 2),("heads",.ref 3)]
noncomputable abbrev Ja:List (Í×AV):=[("below",.int 1),("lines",.ref 2),("heads",.ref 3),("sides",.ref 4)]
noncomputable abbrev IZ:List (Í×AV):=[("below",.int 1),("lines",.ref 2),("heads",.ref 3),("sides",.ref 4),("guarded",.ref 5)]
noncomputable abbrev IY:List (Í×AV):=[("below",.int 1),("lines",.ref 2),("heads",.ref 3),("sides",.ref 4),("guarded",.ref 5),("nailed",.ref 6)]
abbrev N0(w:Nat)(L:List (List Int)):aa:=[.lst (aD L),.ins "Sheet" (df 1 2 3 4 5 6 7),.lst (aD L),.lst (nL (É w)),.lst (nL ((É L.length).map (w+·))),.dK [],.dK [],.dK []]
theorem IE(i:w<=100)(m:L.length<=400):aE [.ref 1,.int w,.ref 0] [.lst (aD L),.ins "Sheet" []]=À (.non,[.lst (aD L),.ins "Sheet" (df 1 2 3 4 5 6 7),.lst (aD L),.lst (nL (É w)),.lst (nL ((É L.length).map (w+·))),.dK [],.dK [],.dK []]):=by
 have b:rh (w:Int)=Â:=by unfold rh;simp;lia
 have a:rh ((w:Int)+(L.length:Int))=Â:=by unfold rh;simp;lia
 have c:∀X:aa,bN (.lst (aD L)::X) (.ref 0)=À (aD L):=fun X=>ci rfl
 rw[aE,aw];unfold gi;refine af (st':=[.lst (aD L),.ins "Sheet" rK]) (iM (v:=.int 1) (st':=[.lst (aD L),.ins "Sheet" []]) (k:=1) (fs:=[]) rfl rfl rfl rfl) ?_;refine af (st':=[.lst (aD L),.ins "Sheet" Jc,.lst (aD L)]) (iM (v:=.ref 2) (st':=[.lst (aD L),.ins "Sheet" rK,.lst (aD L)]) (k:=1) (fs:=rK) ?_ rfl rfl rfl) ?_
 ·have e:=xF (gd:=[(0,.lst (aD L))]) (g:=cj [] (.nm 3)) (t:=kA [] .no) (f:=ev [] (.nw Ä (.lof (.v 3)))) (sl:=[Rs 1,Is w,Rs 0,Á]) (st:=[.lst (aD L),.ins "Sheet" rK]) (em:=fun l=>.fz (iL l)) (F:=fun l=>l) (xs:=L) (gX rfl) fun l j=>⟨_,rfl,rfl,by simp[oF]⟩
  rw [List.map_id'] at e;have h:iD [(0,.lst (aD L))] (cj [] (.nm 3)) (kA [] .no) (ev [] (.nw Ä (.lof (.v 3)))) [Rs 1,Is w,Rs 0,Á] (aD L) [.lst (aD L),.ins "Sheet" rK]=À (aD L,[.lst (aD L),.ins "Sheet" rK]):=e;have d:pD [.lst (aD L),.ins "Sheet" rK] (.ref 0)=À ⟨aD L,[(0,.lst (aD L))]⟩:=qJ rfl;show ev [] (.nw Â (.lc 1 (.e (.v 2)) (.nm 3) .no (.nw Ä (.lof (.v 3))))) [Rs 1,Is w,Rs 0] [.lst (aD L),.ins "Sheet" rK]=_;simp [-aD,d,cH (show L.length <= 1000 by lia),h]
 refine af (st':=[.lst (aD L),.ins "Sheet" Jb,.lst (aD L),.lst (nL (É w))]) (iM (v:=.ref 3) (st':=[.lst (aD L),.ins "Sheet" Jc,.lst (aD L),.lst (nL (É w))]) (k:=1) (fs:=Jc) ?_ rfl rfl rfl) ?_
 ·simp[xx,b,sJ]
 refine af (st':=[.lst (aD L),.ins "Sheet" Ja,.lst (aD L),.lst (nL (É w)),.lst (nL ((É L.length).map (w+·)))]) (iM (v:=.ref 4) (st':=[.lst (aD L),.ins "Sheet" Jb,.lst (aD L),.lst (nL (É w)),.lst (nL ((É L.length).map (w+·)))]) (k:=1) (fs:=Jb) ?_ rfl rfl rfl) ?_
 ·simp[xw,b,a,bI,eV,c]
  have e:((w:Int)+(L.length:Int)).toNat-w=L.length:=by lia
  rw[e,JS,yH oM];simp
 refine af (st':=[.lst (aD L),.ins "Sheet" IZ,.lst (aD L),.lst (nL (É w)),.lst (nL ((É L.length).map (w+·))),.dK []]) (iM (v:=.ref 5) (st':=[.lst (aD L),.ins "Sheet" Ja,.lst (aD L),.lst (nL (É w)),.lst (nL ((É L.length).map (w+·))),.dK []]) (k:=1) (fs:=Ja) rfl rfl rfl rfl) ?_;refine af (st':=[.lst (aD L),.ins "Sheet" IY,.lst (aD L),.lst (nL (É w)),.lst (nL ((É L.length).map (w+·))),.dK [],.dK []]) (iM (v:=.ref 6) (st':=[.lst (aD L),.ins "Sheet" IZ,.lst (aD L),.lst (nL (É w)),.lst (nL ((É L.length).map (w+·))),.dK [],.dK []]) (k:=1) (fs:=IZ) rfl rfl rfl rfl) ?_;refine af (st':=[.lst (aD L),.ins "Sheet" (df 1 2 3 4 5 6 7),.lst (aD L),.lst (nL (É w)),.lst (nL ((É L.length).map (w+·))),.dK [],.dK [],.dK []]) (iM (v:=.ref 7) (st':=[.lst (aD L),.ins "Sheet" IY,.lst (aD L),.lst (nL (É w)),.lst (nL ((É L.length).map (w+·))),.dK [],.dK [],.dK []]) (k:=1) (fs:=IY) rfl rfl rfl rfl) ?_;rfl
theorem K9{k:Nat}(g:ev ks a sl st=À (.ref k,st))(f:ev ks e sl st=À (y,st))(b:st[k]?=À (.lst xs))(d:bN st y=À ys)(c:xs.length+ys.length<=1000):ev ks (.mt .ext a (.cons e .nil)) sl st=À (.non,st.set k (.lst (xs++ys))):=by
 simp[qf,vU,vT,g,vB,ci b,f,xD,jK,b,d,cH c]
theorem LC{k:Nat}(f:ev ks a sl st=À (.ref k,st))(d:ev ks e sl st=À (y,st))(b:st[k]?=À (.lst xs))(c:xs.length<=1000):ev ks (.mt .app a (.cons e .nil)) sl st=À (.non,st.set k (.lst (xs++[y]))):=by
 simp[qf,vU,vT,f,vB,ci b,d,tZ,jK,b,cH c]
theorem HD{n:Int}(P:∀st,pm aN [.int n] st=À (.fz (aD RR),st))(B:∀st,pm ah [.int n] st=À (.int w,st))(Q:w<=15)(T:RR.length<=100)(H:∀l∈RR,l.length=w)(S:gv.length<=100)(d:∀x∈gv,x.row.length=w)(j:goal.length=w) :
  ∃st',bO [.int n,.fz (gv.map Gv.av),.fz (iL goal)] []=À (.ref 1,st')/\Rep st' 1 2 3 4 5 6 7 (aD (ak RR gv goal)) (openS w (ak RR gv goal) (w+RR.length)):=by
 have U:(ak RR gv goal).length=RR.length+gv.length+1:=by simp[ak];lia
 have O:Rep [.lst (aD (ak RR gv goal)),.ins "Sheet" (df 1 2 3 4 5 6 7),.lst (aD (ak RR gv goal)),.lst (nL (É w)),.lst (nL ((É (ak RR gv goal).length).map (w+·))),.dK [],.dK [],.dK []] 1 2 3 4 5 6 7 (aD (ak RR gv goal)) (openS w (ak RR gv goal) 0):=by
  refine⟨rfl,rfl,rfl,rfl,rfl,rfl,rfl,by simp[openS],fun i x h=>.inl ?_,by decide,by decide,by decide,by decide,by decide,by decide,fun i r h=>?_⟩
  ·unfold aD at h
   rw[zR]at h;obtain⟨l,u,rfl⟩:=zE.mp h;show _=AV.fz (iL ((ak RR gv goal).getD i []));rw[zD,u];rfl
  ·unfold aD at h
   rw[zR]at h;obtain⟨l,u,m⟩:=zE.mp h;cases m
 obtain⟨sl',st',e,x,rfl,A⟩:=fj (gd:=[]) (g:=cj [aN,ah,aE,aM] (.nm 6)) (s:=ae [aN,ah,aE,aM] (.cons (.ex (.me "Sheet" "guard" 3 (.v 5) (.cons (.v 6) .nil))) .nil))
  (I:=fun i sl s=>∃x,sl=[Is n,Zs (gv.map Gv.av),Ls goal,Rs 0,Is ((w:Int)+(RR.length:Int)),Rs 1,x]/\Rep s 1 2 3 4 5 6 7 (aD (ak RR gv goal)) (openS w (ak RR gv goal) i)) (xs:=dP 0 (w+RR.length)) (fun _ _ _ _ _=>rfl)
  (fun i y sl s a K=>by
   obtain⟨x,rfl,R⟩:=K;rw[sJ]at a;have p:i<w+RR.length:=by have:=(zB.mp a).1;simpa using this
   have M:y=.int ((i:Nat):Int):=by
    rw[iW (by simpa using p)]at a;injection a with a;rw[<- a];simp[zD,p]
   subst M;obtain⟨C,N,z⟩:=wq (q:=i) R (by simp[openS];lia);refine⟨_,[Is n,Zs (gv.map Gv.av),Ls goal,Rs 0,Is ((w:Int)+(RR.length:Int)),Rs 1,Is ((i:Nat):Int)],C,rfl,?_,_,rfl,?_⟩
   ·simp[R.ins,N]
   ·have:ins (É i) i=É (i+1):=by unfold ins;rw[yG (by simp),ŵ]
    have m:{ openS w (ak RR gv goal) i with gd:=ins (openS w (ak RR gv goal) i).gd i }=openS w (ak RR gv goal) (i+1):=by show Sh.mk _ _ _ _ (ins (É i) i) _ _=_;rw[this];rfl
    rw[m]at z;exact z) (sl:=[Is n,Zs (gv.map Gv.av),Ls goal,Rs 0,Is ((w:Int)+(RR.length:Int)),Rs 1,Á]) (st:=_) ⟨Á,rfl,O⟩
 have E:(dP 0 (w+RR.length)).length=w+RR.length:=by rw[sJ];simp
 rw[E]at A;refine⟨st',?_,A⟩;rw[bO,aw];unfold gH;refine af (sl':=[Is n,Zs (gv.map Gv.av),Ls goal,Rs 0,Á,Á,Á]) (st':=[.lst (aD (RR.map (·++[0])))]) ?_ ?_
 ·have c:=xF (gd:=[]) (g:=cj [aN,ah,aE,aM] (.nm 7)) (t:=kA [aN,ah,aE,aM] .no) (f:=ev [aN,ah,aE,aM] (.nw Ä (.cat (.v 7) (.nw Ä (.li (.cons (.i 0) .nil))))))
   (sl:=[Is n,Zs (gv.map Gv.av),Ls goal,Á,Á,Á,Á,Á]) (st:=[]) (em:=fun l=>.fz (iL l)) (F:=fun l=>l++[0]) (xs:=RR) rfl fun l J=>⟨_,rfl,rfl,by
    rw[du,mz (l:=l) (l':=[0]) (s1:=[]) (s2:=[]) (y:=.fz (iL [0])) rfl (by simp[dE,iL]) rfl rfl (by rw[H l J];simp;lia)];simp⟩
  have b:iD [] (cj [aN,ah,aE,aM] (.nm 7)) (kA [aN,ah,aE,aM] .no) (ev [aN,ah,aE,aM] (.nw Ä (.cat (.v 7) (.nw Ä (.li (.cons (.i 0) .nil)))))) [Is n,Zs (gv.map Gv.av),Ls goal,Á,Á,Á,Á,Á] (aD RR) []=À (aD (RR.map (·++[0])),[]):=c;simp [P,cH (show RR.length <= 1000 by lia),b]
 have G:∀(x:List AV)(X:aa),bN (.lst x::X) (.ref 0)=À x:=fun x X=>ci rfl
 refine af (sl':=[Is n,Zs (gv.map Gv.av),Ls goal,Rs 0,Is ((w:Int)+(RR.length:Int)),Á,Á]) (st':=[.lst (aD (RR.map (·++[0])))]) (by simp[B,bI,eV,G]) ?_;refine af (sl':=[Is n,Zs (gv.map Gv.av),Ls goal,Rs 0,Is ((w:Int)+(RR.length:Int)),Á,Á]) (st':=[.lst (aD (RR.map (·++[0]))++aD (gv.map fun x=>x.row++[-x.num]))]) ?_ ?_
 ·rw[Gz,K9 (k:=0) (xs:=aD (RR.map (·++[0]))) (ys:=aD (gv.map fun x=>x.row++[-x.num])) (y:=.fz (aD (gv.map fun x=>x.row++[-x.num]))) rfl ?_ rfl rfl (by simp;lia)]
  ·rfl
  ·have c:=xF (gd:=[]) (g:=cj [aN,ah,aE,aM] (.tu 3 (.cons (.nm 7) (.cons (.nm 8) (.cons (.nm 9) .nil))))) (t:=kA [aN,ah,aE,aM] .no) (f:=ev [aN,ah,aE,aM] (.nw Ä (.cat (.nw Ä (.lof (.v 7))) (.nw Ä (.li (.cons (.un .USub (.v 9)) .nil))))))
    (sl:=[Is n,Zs (gv.map Gv.av),Ls goal,Rs 0,Is ((w:Int)+(RR.length:Int)),Á,Á,Á,Á,Á]) (st:=[.lst (aD (RR.map (·++[0])))]) (em:=Gv.av) (F:=fun x=>x.row++[-x.num]) (xs:=gv) rfl fun x o=>⟨_,rfl,rfl,by
     rw[du,mz (l:=x.row) (l':=[-x.num]) (s1:=[.lst (aD (RR.map (·++[0])))]) (s2:=[.lst (aD (RR.map (·++[0])))]) (x:=.fz (iL x.row)) (y:=.fz (iL [-x.num])) (by simp[oF]) (by simp[dE,iL]) rfl rfl (by rw[d x o];simp;lia)];simp⟩
   simp [cH (show gv.length <= 1000 by lia),c]
 refine af (sl':=[Is n,Zs (gv.map Gv.av),Ls goal,Rs 0,Is ((w:Int)+(RR.length:Int)),Á,Á]) (st':=[.lst (aD (ak RR gv goal))]) ?_ ?_
 ·rw[Gz,LC (k:=0) (xs:=aD (RR.map (·++[0]))++aD (gv.map fun x=>x.row++[-x.num])) (y:=.fz (iL (goal.map (fun x=>- x)++[0]))) rfl ?_ rfl (by simp;lia)]
  ·rw[Ã]
   have:aD (RR.map (·++[0]))++aD (gv.map fun x=>x.row++[-x.num])++[AV.fz (iL (goal.map (fun x=>- x)++[0]))]=aD (ak RR gv goal):=by
    simp[ak,aD]
   show À (Out.nx _ [.lst (_++[_])])=_;rw[this]
  ·rw[du,mz (l:=goal.map fun x=>- x) (l':=[0]) (s1:=[.lst (aD (RR.map (·++[0]))++aD (gv.map fun x=>x.row++[-x.num]))]) (s2:=[.lst (aD (RR.map (·++[0]))++aD (gv.map fun x=>x.row++[-x.num]))]) (x:=.fz (iL (goal.map fun x=>- x))) (y:=.fz (iL [0])) ?_ (by simp[dE,iL]) rfl rfl (by simp[j];lia)]
   ·simp
   ·simp [cH (show goal.length <= 1000 by lia)]
    rw[mW (F:=fun x=>- x) gU fun x o=>⟨_,rfl,rfl,by simp⟩];simp
 refine af (sl':=[Is n,Zs (gv.map Gv.av),Ls goal,Rs 0,Is ((w:Int)+(RR.length:Int)),Rs 1,Á]) (st':=N0 w (ak RR gv goal)) ?_ ?_
 ·have:=IE (w:=w) (L:=ak RR gv goal) oM oM
  simp[A1,B,this]
 ·refine af (sl':=[Is n,Zs (gv.map Gv.av),Ls goal,Rs 0,Is ((w:Int)+(RR.length:Int)),Rs 1,x]) (st':=st') ?_ (by simp)
  have D:fW ((w:Int)+(RR.length:Int))=Â:=by
   unfold fW;refine yK ?_;have:((w:Int)+(RR.length:Int)).natAbs=w+RR.length:=by lia
   rw[this];by_cases v:w+RR.length=0
   ·rw[v];decide
   ·exact yY ((Ċ v).mpr oM)
  simp[Dn,D];rw[show((w:Int)+(RR.length:Int)).toNat=w+RR.length by lia];exact e
end
noncomputable def gL(l:List Int):Nat:=l.foldl (fun g x=>ÿ g x.natAbs) 0
def am(l:List Int):List Int:=if gL l=0 then l else l.map fun x=>x/(gL l:Int)
theorem Cp{d o:Nat}:ÿ o (d%o)=ÿ d o:=by rw[Y8,<- Nat.gcd_rec,Y8]
theorem Oi:∀(o d:Nat)(y:Option AV),∃y',cZ [] (.wh (.cmp .NotEq (.v 3) (.i 0)) (.cons (.as (.bin .Mod (.v 1) (.v 3)) (.nm 4)) (.cons (.as (.v 3) (.nm 1)) (.cons (.as (.v 4) (.nm 3)) .nil)))) [l,Is d,x,Is o,y] st=À (.nx [l,Is (ÿ d o:Nat),x,Is 0,y'] st):=by
 intro o
 induction o using Nat.strongRecOn with
 |_ o ih =>
  intro d y;by_cases h:o=0
  ·subst h
   refine⟨y,?_⟩;rw[Nat.gcd_zero_right];exact o7 (n:=1) (mO (by simp))
  ·obtain⟨y',e⟩:=ih (d%o) (ģ _ oM) o (À (.int ((d%o:Nat):Int)))
   obtain⟨n,a⟩:=Ac e;refine⟨y',?_⟩;rw[Cp]at a;refine o7 (n:=n+1) (qu (st':=st) (by simp;lia) ?_ a);have c:(o:Int)≠0:=by lia
   have b:ux (d:Int) (o:Int)=((d%o:Nat):Int):=by unfold ux;rw[yH oM];simp
   simp[k9 c,b]
theorem AE:gL (a++b)=b.foldl (fun g x=>ÿ g x.natAbs) (gL a):=by unfold gL;rw[T4]
theorem uw:∀b:List Int,b.foldl (fun g x=>ÿ g x.natAbs) 1=1
 |[]=>rfl
 |x::b=>by rw[ħ,Nat.gcd_one_left];exact uw b
theorem Ny:∃r,cX [.fz (iL l)] st=À (r,st)/\r=.int (gL l:Int):=by
 have o:=kz (gd:=[]) (g:=cj [] (.nm 2)) (s:=ae [] (.cons (.as (.bi .abs (.cons (.v 2) .nil)) (.nm 3)) (.cons (.wh (.cmp .NotEq (.v 3) (.i 0)) (.cons (.as (.bin .Mod (.v 1) (.v 3)) (.nm 4)) (.cons (.as (.v 3) (.nm 1)) (.cons (.as (.v 4) (.nm 3)) .nil)))) (.cons (.iff (.cmp .Eq (.v 1) (.i 1)) (.cons (.rt (.i 1)) .nil) .nil) .nil))))
  (I:=fun i sl s=>s=st/\∃x y z,sl=[Ls l,Is (gL (l.take i):Nat),x,y,z]) (Post:=fun v s=>s=st/\v=.int (gL l:Nat)) (xs:=iL l) (fun _ _ _ _ _=>rfl)
  (fun i x sl s b q=>by
   obtain⟨rfl,u,k,c,rfl⟩:=q;have f:i<l.length:=by have:=(zB.mp b).1;simpa using this
   rw[cz f]at b;injection b with b;subst b;have n:l.take (i+1)=l.take i++[gI l i]:=by
    rw[V8,zF f];unfold gI;rw[zD,zF f];rfl
   have p:gL (l.take (i+1))=ÿ (gL (l.take i)) (gI l i).natAbs:=by rw[n,AE];rfl
   obtain⟨j,e⟩:=Oi (l:=À (.fz (iL l))) (x:=À (.int (gI l i))) (st:=s) (gI l i).natAbs (gL (l.take i)) c;rw[<- p]at e;have t:lb s [.int (gI l i)]=À (.int ((gI l i).natAbs:Nat)):=by
    show À (AV.int (if gI l i<0 then-gI l i else gI l i))=_;congr 2;split<;>lia
   have a:cZ [] (.as (.bi .abs (.cons (.v 2) .nil)) (.nm 3)) [Ls l,Is (gL (l.take i):Nat),Is (gI l i),k,c] s=À (.nx [Ls l,Is (gL (l.take i):Nat),Is (gI l i),Is ((gI l i).natAbs:Nat),c] s):=by
    simp[bI,t]
   by_cases h:gL (l.take (i+1))=1
   ·refine⟨_,.rt (.int 1) s,rfl,aj a (aj e ?_),.inr ⟨_,s,rfl,rfl,?_⟩⟩
    ·simp[h]
    ·have:gL l=1:=by
      have:l=l.take (i+1)++l.drop (i+1):=(G! _ _).symm;rw[this,AE,h,uw]
     rw[this];rfl
   ·refine⟨_,.nx [Ls l,Is (gL (l.take (i+1)):Nat),Is (gI l i),Is 0,j] s,rfl,aj a (aj e ?_),.inl ⟨_,s,rfl,rfl,_,_,_,rfl⟩⟩
    have:¬((gL (l.take (i+1)):Nat):Int)=1:=by lia
    simp[this]) (sl:=[Ls l,Is 0,Á,Á,Á]) (st:=st) ⟨rfl,Á,Á,Á,rfl⟩
 rcases o with⟨m,d,e,rfl,x,y,z,rfl⟩|⟨v,d,e,rfl,rfl⟩
 ·refine⟨_,?_,rfl⟩
  rw[gE,ē]at e;simp[cX,aw,eD,e]
 ·refine⟨_,?_,rfl⟩
  simp[cX,aw,eD,e]
theorem AD:∀x∈l,gL l ∣ x.natAbs:=by
 have f:∀(b:List Int)(g:Nat),(b.foldl (fun g x=>ÿ g x.natAbs) g) ∣ g/\∀x∈b,(b.foldl (fun g x=>ÿ g x.natAbs) g) ∣ x.natAbs:=fun b=>by
  induction b with
  |nil=>intro g;exact⟨Nat.dvd_refl g,fun x a=>by cases a⟩
  |cons y b d =>
   intro g;obtain⟨c,e⟩:=d (ÿ g y.natAbs);refine⟨X8 c (V! _ _),fun x a=>?_⟩;rcases zT.mp a with rfl|a
   ·exact X8 c (U! _ _)
   ·exact e x a
 exact(f l 0).2
theorem K0{B:Nat}(hB:0<B)(h:∀x∈l,x.natAbs<B):gL l<B:=by
 by_cases hz:∃x∈l,x≠0
 ·obtain⟨x,a,f⟩:=hz
  exact yL (Nat.le_of_dvd oM (AD x a)) (h x a)
 ·have:∀(b:List Int),(∀x∈b,x=0)->b.foldl (fun g x=>ÿ g x.natAbs) 0=0:=fun b=>by
   induction b with
   |nil=>intro _;rfl
   |cons y b d=>intro c;rw[ħ,c y z7];exact d fun x a=>c x (zQ _ a)
  have e:gL l=0:=this l fun x a=>ñ fun z=>hz ⟨x,a,z⟩
  lia
theorem sM(b:l.length<=1000)(c:∀x∈l,x.natAbs<2^9000):ai [.fz (iL l)] []=À (.fz (iL (am l)),[]):=by
 obtain⟨r,e,rfl⟩:=Ny (l:=l) (st:=[]);have a:∀st,pm cX [.fz (iL l)] st=À (.int (gL l:Int),st):=fun st=>aO rfl e rfl
 unfold am;by_cases h:gL l=0
 ·rw[yH h]
  simp[ai,aw,dW,a,h,oF]
 ·rw[yG h]
  have d:¬((gL l:Nat):Int)=0:=by lia
  have f:gY ((gL l:Nat):Int)=Â:=p7 d (by rw[Ĥ];exact K0 (Ô _) c);simp[ai,aw,dW,a,h,cH b];rw[mW (F:=fun x=>x/(gL l:Int)) gU fun x g=>⟨_,rfl,rfl,by
   simp[nq f];unfold ww;rw[yH oM]⟩]
  simp
theorem t8(a:l.length<=1000)(b:∀x∈l,x.natAbs<2^9000):pm ai [.fz (iL l)] st=À (.fz (iL (am l)),st):=aO rfl (sM a b) rfl
theorem ja:(am l).length=l.length:=by unfold am;split<;>simp
theorem IV{a b:Int}(j:a.natAbs<2^9000)(h:b.natAbs<2^9000):pm dg [.int a,.int b] st=À (.tup [.int (gI (am [a,b]) 0),.int (gI (am [a,b]) 1)],st):=by
 have e:=t8 (l:=[a,b]) (st:=[]) (by simp) (fun x c=>by simp at c;rcases c with rfl|rfl<;>assumption);have k:(am [a,b]).length=2:=ja;have f:aJ [] (.fz (iL (am [a,b]))) (.int 0)=À (.int (gI (am [a,b]) 0)):=by
  have:=dj (st:=[]) (x:=.fz (iL (am [a,b]))) (i:=((0:Nat):Int)) dI;rw[cV,cz oM]at this;exact this
 have d:aJ [] (.fz (iL (am [a,b]))) (.int 1)=À (.int (gI (am [a,b]) 1)):=by
  have:=dj (st:=[]) (x:=.fz (iL (am [a,b]))) (i:=((1:Nat):Int)) dI;rw[cV,cz oM]at this;exact this
 refine aO rfl (v:=.tup [.int (gI (am [a,b]) 0),.int (gI (am [a,b]) 1)]) (st':=[]) ?_ rfl;have g:pm ai [.fz [.int a,.int b]] []=À (.fz (iL (am [a,b])),[]):=e;simp[dg,aw,fL,dE,g,f,d]
structure GX(S:Sh)(w cc k:Nat)(X:List Int):Prop where
 len:X.length=w
 at_:∀i,i<k->S.s i<w->gI X (S.s i)=S.t i cc
 no:∀q,q<w->(∀i,i<k->S.s i≠q)->gI X q=0
section
variable{st:aa}{k a b c g n u w m:Nat}{rows:List AV}{S:Sh}{v:Nat->Nat->Int}{nn:Int}
theorem C8{j:Nat}(h:ev ks e sl st=À (.int (j:Int),st))(c:j<=1000):jk ks (.rep (.cons (.i 0) .nil) e) sl st=À (iL (Æ j 0),st):=by
 rw[Kt];unfold xu;have d:eY ks (.cons (.i 0) .nil) sl st=À ([.int 0],st):=rfl;rw[d,Ã];dsimp only;rw[h,Ã];dsimp only;have b:fW (j:Int)=Â:=by
  unfold fW;refine yK ?_;rw[Ĥ];by_cases a:j=0
  ·rw[a];decide
  ·exact yY ((Ċ a).mpr (yL c dC))
 rw[b,cH (n:=[AV.int 0].length*((j:Int)).toNat) (by simp;lia),cH (n:=[AV.int 0].length) (by simp)];show À _=À _;congr 2;show(Æ j [AV.int 0]).flatten=iL (Æ j 0);unfold iL
 induction j with
 |zero=>rfl
 |succ j f=>rw[ê,ć,ê,zO];simp
theorem uo{j q:Nat}:gI (Æ j 0) q=0:=by
 unfold gI;rw[zD,þ];split<;>rfl
theorem Dp(R:Rep st k a b c g n u rows S)(P:PN w m S)(Q:SX.Pm w m S.h S.s)(J:∀st,pm ah [.int nn] st=À (.int w,st))(K:w<=100)(L:m<=1000){cI:Int}{cc:Nat}
  (H:∀{s:aa}{a:Nat}{rows:List AV},Rep s k a b c g n u rows S->∀i,i<m->aJ s (lN rows i) (.int cI)=À (.int (S.t i cc))) :
  ∃X,c8 [.int nn,.ref k,.int cI] st=À (.ref st.length,st++[.lst (iL X)])/\GX S w cc m X:=by
 have sl:S.sd.length=m:=P.sd;obtain⟨sl',st',e,X,t,r,rfl,rfl,d⟩:=fj (gd:=[(c,.lst (nL S.sd))]) (g:=cj [ah] (.tu 2 (.cons (.nm 4) (.cons (.nm 5) .nil)))) (s:=ae [ah] (.cons (.iff (.cmp .Lt (.v 5) (.bi .len (.cons (.v 3) .nil))) (.cons (.as (.ix (.ix (.fd "Sheet" "lines" (.v 1)) (.v 4)) (.v 2)) (.su (.v 3) (.v 5))) .nil) .nil) .nil))
  (I:=fun i sl s=>∃X t r,s=st++[.lst (iL X)]/\sl=[Is nn,Rs k,Is cI,Rs st.length,t,r]/\GX S w cc i X) (xs:=fD 0 (nL S.sd)) (fun i sl s _ E=>by obtain⟨X,_,_,rfl,_⟩:=E;exact gX (R.app (ys:=[_])).hc)
  (fun i y sl s G E=>by
   obtain⟨X,t,r,rfl,rfl,d⟩:=E;obtain⟨x,f,rfl⟩:=p4 G;have A:i<m:=by have:=(zB.mp f).1;simpa [sl] using this
   have B:(nL S.sd)[i]?=À (.int ((S.s i:Nat):Int)):=iW oM;rw[B]at f;injection f with f;subst f;have p:=R.app (ys:=[PC.lst (iL X)]);have F:bN (st++[PC.lst (iL X)]) (.ref st.length)=À (iL X):=ci gl;by_cases h:S.s i<w
   ·refine⟨_,[Is nn,Rs k,Is cI,Rs st.length,Is i,Is (S.s i:Int)],st++[.lst (iL (X.set (S.s i) (S.t i cc)))],rfl,?_,X.set (S.s i) (S.t i cc),_,_,rfl,rfl,?_⟩
    ·have o:=dZ (x:=.int (S.t i cc)) (gl (st:=st) (e:=PC.lst (iL X))) (show S.s i < (iL X).length by simp [d.len,h])
     rw[gD,dN]at o;have l:S.s i<X.length:=by rw[d.len];exact h
     simp[bI,eV,F,l,p.ins,p.line P A,H p i A,o]
    ·refine⟨by simp[d.len],fun j D o=>?_,fun q C v=>?_⟩
     ·by_cases e:j=i
      ·subst e;rw[SX.gI_set_at (by rw[d.len];exact h)]
      ·rw[SX.gI_set_ne (fun z=>e (Q.si j i oM A z))];exact d.at_ j oM o
     ·rw[SX.gI_set_ne (fun z=>v i oM z.symm)];exact d.no q C fun j D=>v j oM
   ·refine⟨_,[Is nn,Rs k,Is cI,Rs st.length,Is i,Is (S.s i:Int)],st++[.lst (iL X)],rfl,?_,X,_,_,rfl,rfl,?_⟩
    ·have l:¬S.s i<X.length:=by rw[d.len];exact h
     simp[bI,eV,F,l]
    ·refine⟨d.len,fun j D o=>?_,fun q C v=>d.no q C fun j D=>v j oM⟩
     by_cases e:j=i
     ·subst e;exact absurd o h
     ·exact d.at_ j oM o) (sl:=[Is nn,Rs k,Is cI,Rs st.length,Á,Á]) (st:=st++[.lst (iL (Æ w 0))]) ⟨_,Á,Á,rfl,rfl,by simp,fun i A=>by lia,fun q _ _=>uo⟩
 rw[m7,tS,sl]at d;refine⟨X,?_,d⟩;rw[c8,aw];unfold fb;refine af (sl':=[Is nn,Rs k,Is cI,Rs st.length,Á,Á]) (st':=st++[.lst (iL (Æ w 0))]) ?_ ?_
 ·rw[eS,wN,C8 (j:=w) (by simp[J]) oM];rfl
 refine af (sl':=[Is nn,Rs k,Is cI,Rs st.length,t,r]) (st':=st++[.lst (iL X)]) ?_ (by simp);have p:=R.app (ys:=[PC.lst (iL (Æ w 0))]);simp[p.ins,kg p.hc];exact e
theorem wg{n:Nat}:(iL l).take n=iL (l.take n):=by unfold iL;rw[ϖ]
theorem wj{n:Nat}:(iL l).drop n=iL (l.drop n):=by unfold iL;rw[ţ]
theorem uH{n:Nat}(a:l.length=n+1):cut (iL l) Á (À (-1))=iL (l.take n):=by
 unfold cut;rw[gE,a,HT.sIx_none,ſ];have:HT.PL (n+1) (n+1) (À (-1))=n:=by
  show(if(-1:Int)<0 then((-1:Int)+((n+1:Nat):Int)).toNat else min (-1:Int).toNat (n+1))=n;rw[yH dC];lia
 rw[this,Y6,wg]
theorem FF{w m:Nat}(a:l.length=w+(m+1)):cut (iL l) (À (w:Int)) (À (-1))=iL ((l.drop w).take m):=by
 unfold cut;rw[gE,a,HT.sIx_nat];have:HT.PL (w+(m+1)) (w+(m+1)) (À (-1))=w+m:=by
  show(if(-1:Int)<0 then((-1:Int)+((w+(m+1):Nat):Int)).toNat else min (-1:Int).toNat (w+(m+1)))=w+m;rw[yH dC];lia
 rw[this,Ÿ oM,wj,wg,show w+m-w=m by lia]
theorem Ak{d:Int}(k:X.length<=100)(j:∀x∈X,x.natAbs<2^9000)(hd:d.natAbs<2^9000):bF [.fz (iL X),.int d] []=À (.tup [.fz (iL ((am (X++[d])).take X.length)),.int (gI (am (X++[d])) X.length)],[]):=by
 have f:(am (X++[d])).length=X.length+1:=by rw[ja];simp
 have e:=t8 (l:=X++[d]) (st:=[]) (by simp;lia) fun x i=>by
  rcases zZ.mp i with h|h
  ·exact j x h
  ·rw[zM.mp h];exact hd
 have g:aJ [] (.fz (iL (am (X++[d])))) (.int (-1))=À (.int (gI (am (X++[d])) X.length)):=by
  rw[dj dI,qT (n:=X.length) (by simp[f]),cz oM]
 rw[bF,aw];unfold g6;refine af (sl':=[Ls X,Is d,Ls (am (X++[d]))]) (st':=[]) ?_ ?_
 ·have c:=mz (ks:=[ai]) (a:=.v 0) (b:=.nw Ä (.li (.cons (.v 1) .nil))) (sl:=[Ls X,Is d,Á]) (st:=[]) (s1:=[]) (s2:=[]) (x:=.fz (iL X)) (y:=.fz (iL [d])) (l:=X) (l':=[d]) rfl (by simp[dE,iL]) rfl rfl (by simp;lia)
  simp[-xr,c,e]
 ·simp[lT,lQ,uH f,g]
theorem C2(R:Rep st k a b c g n u rows S)(P:PN w m S)(Q:SX.Pm w m S.h S.s)(B:Bd w m S)(H:∀st,pm ah [.int nn] st=À (.int w,st))(y:w<=100)(C:m<=1000) :
  ∃X T st1,aS [.int nn,.ref k] st=À (.tup [.fz (iL T),.int (gI (am (X++[S.d])) w)],st1)/\T=(am (X++[S.d])).take w/\GX S w w m X/\Rep st1 k a b c g n u rows S:=by
 obtain⟨X,e,f⟩:=Dp (cI:=-1) (cc:=w) R P Q H y C fun G i d=>G.last P d
 have D:∀x∈X,x.natAbs<2^9000:=fun x v=>by
  obtain⟨q,o⟩:=z8 v;have j:=(zB.mp o).1;rw[f.len]at j;have p:gI X q=x:=by unfold gI;rw[zD,o];rfl
  by_cases h:∃i,i<m/\S.s i=q
  ·obtain⟨i,d,rfl⟩:=h
   rw[<- p,f.at_ i d j];exact B.2 i d w oM
  ·rw[<- p,f.no q j fun i d z=>h ⟨i,d,z⟩];exact Ô _
 obtain⟨st1,t,E⟩:=lO (fn:=bF) (rest:=[.int S.d]) (x:=.ref st.length) (l:=X) (.inr ⟨_,rfl,.inl (gl (st:=st) (e:=.lst (iL X)))⟩) rfl rfl (fun s=>by simp[mw,jG]) (Ak (by rw[f.len];lia) D B.1) rfl (by simp[flat,pY]);refine⟨X,_,st1,?_,rfl,f,?_⟩
 ·have F:=R.app (ys:=[PC.lst (iL X)])
  rw[f.len]at t;simp[aS,aw,f9,e,F.ins,t]
 ·rcases E with rfl|⟨r,A,_,rfl⟩
  ·exact R.app
  ·cases A;rw[dN];exact R.app
theorem JF(R:Rep st k a b c g n u rows S)(P:PN w m S)(Q:SX.Pm w m S.h S.s)(B:Bd w m S)(L:∀st,pm ah [.int nn] st=À (.int w,st))(H:w<=100)(I:m<=1000){q:Nat}(D:q<w) :
  ∃X st1,cF [.int nn,.ref k,.int q] st=À (.fz (iL (am (if S.h q<w then X.set (S.h q) S.d else X))),st1)/\GX S w q m X:=by
 obtain⟨X,e,d⟩:=Dp (cI:=q) (cc:=q) R P Q L H I fun K i o=>K.cell P o oM
 have F:∀x∈X,x.natAbs<2^9000:=fun x r=>by
  obtain⟨j,E⟩:=z8 r;have t:=(zB.mp E).1;rw[d.len]at t;have G:gI X j=x:=by unfold gI;rw[zD,E];rfl
  by_cases h:∃i,i<m/\S.s i=j
  ·obtain⟨i,o,rfl⟩:=h
   rw[<- G,d.at_ i o t];exact B.2 i o q oM
  ·rw[<- G,d.no j t fun i o z=>h ⟨i,o,z⟩];exact Ô _
 have p:=R.app (ys:=[PC.lst (iL X)]);have A:bN (st++[PC.lst (iL X)]) (.ref st.length)=À (iL X):=ci gl;by_cases h:S.h q<w
 ·have v:∀x∈X.set (S.h q) S.d,x.natAbs<2^9000:=fun x r=>by
   rcases ö r with h|h
   ·exact F x h
   ·rw[h];exact B.1
  obtain ⟨st1,y,J⟩:=lO (fn:=ai) (rest:=[]) (st:=st++[.lst (iL (X.set (S.h q) S.d))]) (x:=.ref st.length) (l:=X.set (S.h q) S.d) (.inr ⟨_,rfl,.inl gl⟩) rfl rfl (fun s=>rfl) (sM (by simp [d.len];lia) v) rfl (by simp [flat]);refine ⟨X,st1,?_,d⟩;rw [yH h];have C:=dZ (x:=.int S.d) (gl (st:=st) (e:=PC.lst (iL X))) (show S.h q < (iL X).length by simp [d.len,h]);rw [gD,dN] at C;have f:S.h q < X.length:=by rw [d.len];exact h
  simp[cF,aw,ig,e,p.ins,p.head P D,bI,eV,A,f,C,y]
 ·obtain⟨st1,y,J⟩:=lO (fn:=ai) (rest:=[]) (st:=st++[.lst (iL X)]) (x:=.ref st.length) (l:=X) (.inr ⟨_,rfl,.inl gl⟩) rfl rfl (fun s=>rfl) (sM (by simp[d.len];lia) F) rfl (by simp[flat])
  refine⟨X,st1,?_,d⟩;rw[yG h];have f:¬S.h q<X.length:=by rw[d.len];exact h
  simp[cF,aw,ig,e,p.ins,p.head P D,bI,eV,A,f,y]
end
open SX (PD)
structure TK(S:Sh)(w m p:Nat)(T:List Int):Prop where
 len:T.length=w+m
 hd:∀j,j<w->gI T (S.h j)=if S.h j∈S.tn then S.t p j else-S.t p j
 sd:gI T (S.s p)=if S.s p∈S.tn then-S.d else S.d
 no:∀q,q<w+m->(∀j,j<w->S.h j≠q)->q≠S.s p->gI T q=0
def wt(T:List Int)(HO:Nat->List Int)(w j k:Nat):Int:=gI T (w+k)+PD j fun x=>gI T x*gI (HO (x+1)) k
section
variable{st:aa}{k a b c g n u w m p:Nat}{rows:List AV}{S:Sh}{nn:Int}{HO:Nat->List Int}
abbrev KW:List Fn:=[ah,c9,eI]
theorem qN{q x:Nat}{y:Int}(h:q<T.length):gI (T.set q y) x=if x=q then y else gI T x:=by
 by_cases e:x=q
 ·subst e;rw[yH rfl,SX.gI_set_at h]
 ·rw[yG e,SX.gI_set_ne e]
theorem Ec(R:Rep st k a b c g n u rows S)(P:PN w m S)(Q:SX.Pm w m S.h S.s)(F:p<m)(nt:S.tn.Nodup)(ht:∀q∈S.tn,q<w+m)(hw:w<=100)(hm:m<=800){ss:PP}{r:AV×aa->Prop}
  (h:∀T x1 x2,TK S w m p T->∃z,(ae KW ss [Is nn,Rs k,Is p,Rs st.length,x1,x2,Á,Á,Á,Á,Á] (st++[PC.lst (iL T)])).bind au=À z/\r z) :
  ∃z,(ae KW (.cons (.as (.nw Â (.rep (.cons (.i 0) .nil) (.bin .Add (.bi .len (.cons (.fd "Sheet" "heads" (.v 1)) .nil)) (.bi .len (.cons (.fd "Sheet" "sides" (.v 1)) .nil))))) (.nm 3))
   (.cons (.fo (.en (.fd "Sheet" "heads" (.v 1))) (.tu 2 (.cons (.nm 4) (.cons (.nm 5) .nil))) (.cons (.as (.un .USub (.ix (.ix (.fd "Sheet" "lines" (.v 1)) (.v 2)) (.v 4))) (.su (.v 3) (.v 5))) .nil))
   (.cons (.as (.fd "Sheet" "below" (.v 1)) (.su (.v 3) (.ix (.fd "Sheet" "sides" (.v 1)) (.v 2))))
   (.cons (.fd (.fd "Sheet" "turned" (.v 1)) (.nm 5) (.cons (.as (.un .USub (.ix (.v 3) (.v 5))) (.su (.v 3) (.v 5))) .nil)) ss)))) [Is nn,Rs k,Is p,Á,Á,Á,Á,Á,Á,Á,Á] st).bind au=À z/\r z:=by
 have lh:bN st (.ref b)=À (nL S.hd):=ci R.hb;have O:bN st (.ref c)=À (nL S.sd):=ci R.hc;refine aA (sl':=[Is nn,Rs k,Is p,Rs st.length,Á,Á,Á,Á,Á,Á,Á]) (st':=st++[PC.lst (iL (Æ (w+m) 0))]) ?_ ?_
 ·rw[eS,wN,C8 (j:=w+m) ?_ oM]
  ·rfl
  ·simp[R.ins,bI,eV,lh,O,P.hd,P.sd]
 obtain⟨sl',st',e,T,x1,x2,rfl,rfl,t,N,M⟩:=fj (gd:=[(b,.lst (nL S.hd))]) (g:=cj KW (.tu 2 (.cons (.nm 4) (.cons (.nm 5) .nil)))) (s:=ae KW (.cons (.as (.un .USub (.ix (.ix (.fd "Sheet" "lines" (.v 1)) (.v 2)) (.v 4))) (.su (.v 3) (.v 5))) .nil))
  (I:=fun i sl s=>∃T x1 x2,s=st++[PC.lst (iL T)]/\sl=[Is nn,Rs k,Is p,Rs st.length,x1,x2,Á,Á,Á,Á,Á]/\T.length=w+m/\(∀j,j<i->gI T (S.h j)=- S.t p j)/\∀q,(∀j,j<i->S.h j≠q)->gI T q=0) (xs:=fD 0 (nL S.hd)) (fun i sl s _ K=>by obtain⟨X,_,_,rfl,_⟩:=K;exact gX (R.app (ys:=[_])).hb)
  (fun i y sl s A K=>by
   obtain⟨T,x1,x2,rfl,rfl,t,N,M⟩:=K;obtain⟨x,f,rfl⟩:=p4 A;have v:i<w:=by have:=(zB.mp f).1;simpa [P.hd] using this
   have U:(nL S.hd)[i]?=À (.int ((S.h i:Nat):Int)):=iW (by rw [P.hd];exact v);rw [U] at f;injection f with f;subst f;have l:=R.app (ys:=[PC.lst (iL T)]);have W:=Q.hl i v;have o:=dZ (x:=.int (- S.t p i)) (gl (st:=st) (e:=PC.lst (iL T))) (show S.h i < (iL T).length by simp [t,W]);rw [gD,dN] at o;refine ⟨_,[Is nn,Rs k,Is p,Rs st.length,Is i,Is (S.h i:Int),Á,Á,Á,Á,Á],st++[PC.lst (iL (T.set (S.h i) (- S.t p i)))],rfl,?_,T.set (S.h i) (- S.t p i),_,_,rfl,rfl,by simp [t],fun j G=>?_,fun q D=>?_⟩
   ·simp [l.ins,l.line P F,l.cell P F (show i < w + 1 by lia),o]
   ·rw[qN (by rw[t];exact W)]
    by_cases e:j=i
    ·subst e;rw[yH rfl]
    ·rw[yG fun z=>e (Q.hi j i oM v z)];exact N j oM
   ·rw[qN (by rw[t];exact W),yG fun z=>D i oM z.symm];exact M q fun j G=>D j oM) (sl:=[Is nn,Rs k,Is p,Rs st.length,Á,Á,Á,Á,Á,Á,Á]) (st:=st++[PC.lst (iL (Æ (w+m) 0))]) ⟨_,Á,Á,rfl,rfl,by simp,fun j G=>by lia,fun q _=>uo⟩
 rw[m7,tS,P.hd]at N M;refine aA (sl':=[Is nn,Rs k,Is p,Rs st.length,x1,x2,Á,Á,Á,Á,Á]) (st':=st++[PC.lst (iL T)]) ?_ ?_
 ·have l:=R.app (ys:=[PC.lst (iL (Æ (w+m) 0))])
  simp[l.ins,kg l.hb];exact e
 have l:=R.app (ys:=[PC.lst (iL T)]);have sb:=Q.sl p F;have o:=dZ (x:=.int S.d) (gl (st:=st) (e:=PC.lst (iL T))) (show S.s p < (iL T).length by simp [t,sb]);rw [gD,dN] at o;refine aA (sl':=[Is nn,Rs k,Is p,Rs st.length,x1,x2,Á,Á,Á,Á,Á]) (st':=st++[PC.lst (iL (T.set (S.s p) S.d))]) (by simp [l.ins,l.side P F,o]) ?_;have l2:(T.set (S.s p) S.d).length=w + m:=by simp [t]
 obtain⟨C,J⟩:∃x,x=T.set (S.s p) S.d:=⟨_,rfl⟩;rw[<- J]at l2 ⊢
 have Ru:=(R.app (ys:=[PC.lst (iL C)])).hu;have E:u<st.length:=(zB.mp R.hu).1;obtain⟨sl',st',e,d,x2,rfl,rfl,L,B⟩:=fj (gd:=[]) (g:=cj KW (.nm 5)) (s:=ae KW (.cons (.as (.un .USub (.ix (.v 3) (.v 5))) (.su (.v 3) (.v 5))) .nil))
  (I:=fun i sl s=>∃d x2,s=(st++[PC.lst (iL d)]).set u (.wk (kL S.tn))/\sl=[Is nn,Rs k,Is p,Rs st.length,x1,x2,Á,Á,Á,Á,Á]/\d.length=w+m/\∀q,gI d q=if q∈S.tn.take i then-gI C q else gI C q) (xs:=nL S.tn) (fun _ _ _ _ _=>rfl)
  (fun i y sl s A K=>by
   obtain⟨d,x2,rfl,rfl,L,B⟩:=K;have v:i<S.tn.length:=by have:=(zB.mp A).1;simpa using this
   rw[iW v]at A;injection A with A;subst A;obtain⟨q,D⟩:∃q,q=S.tn.getD i 0:=⟨_,rfl⟩;rw[<- D];have qi:S.tn[i]=q:=by rw[D,zD,zF v];rfl
   have qm:q∈S.tn:=by rw[<- qi];exact ĕ v
   have ql:=ht q qm;have Z:S.tn.take (i+1)=S.tn.take i++[q]:=by rw[V8,zF v,qi];rfl
   have qn:q∉S.tn.take i:=fun z=>by
    have:=nt.sublist (T1 (i+1) S.tn)
    rw[Z,ϥ]at this;exact this.2.2 q z q (by simp) rfl
   have gc:((st++[PC.lst (iL d)]).set u (.wk (kL S.tn)))[st.length]?=À (.lst (iL d)):=by rw[aq (zU E)];exact gl
   have o:=dZ (x:=.int (- gI d q)) gc (show q < (iL d).length by simp [L,ql]);have sc:((st++[PC.lst (iL d)]).set u (.wk (kL S.tn))).set st.length (.lst (iL (d.set q (- gI d q))))=(st++[PC.lst (iL (d.set q (- gI d q)))]).set u (.wk (kL S.tn)):=by
    rw[List.set_comm _ _ (zU E),dN]
   rw[gD,sc]at o;have xi:aJ ((st++[PC.lst (iL d)]).set u (.wk (kL S.tn))) (.ref st.length) (.int (q:Int))=À (.int (gI d q)):=by rw[dj (ci gc),cV,cz oM]
   refine⟨_,[Is nn,Rs k,Is p,Rs st.length,x1,Is q,Á,Á,Á,Á,Á],(st++[PC.lst (iL (d.set q (- gI d q)))]).set u (.wk (kL S.tn)),rfl,?_,_,_,rfl,rfl,by simp[L],fun x=>?_⟩
   ·simp[xi,o]
   ·rw[qN oM,Z]
    by_cases e:x=q
    ·subst e;rw[yH rfl,yH (by simp),B x,yG qn]
    ·rw[yG e,B x];simp[e]) (sl:=[Is nn,Rs k,Is p,Rs st.length,x1,x2,Á,Á,Á,Á,Á]) (st:=(st++[PC.lst (iL C)]).set u (.wk (kL S.tn))) ⟨C,x2,rfl,rfl,l2,fun q=>by simp⟩
 rw[tS,ē]at B;refine aA (sl':=[Is nn,Rs k,Is p,Rs st.length,x1,x2,Á,Á,Á,Á,Á]) (st':=st++[PC.lst (iL d)]) ?_ (h d x1 x2 ?_)
 ·have Rb:=R.app (ys:=[PC.lst (iL C)])
  have ky:(kL S.tn).map (fun q=>pB q.1)=nL S.tn:=by unfold kL nL;rw[ß];rfl
  have f1:(((st++[PC.lst (iL d)]).set u (.wk (kL S.tn))))[u]?=À (.wk (kL S.tn)):=gF (R.app (ys:=[PC.lst (iL d)])).hu;have f2:((st++[PC.lst (iL d)]).set u (.wk (kL S.tn))).set u (.dK (kL S.tn))=st++[PC.lst (iL d)]:=by
   rw[v?]
   have:=(R.app (ys:=[PC.lst (iL d)])).hu
   obtain⟨hlt,H⟩:=zB.mp this;rw[<- H,List.set_getElem_self]
  simp[xb,Rb.ins,Rb.hu];rw[show(kL S.tn).map ((fun q=>pB q.1))=nL S.tn from ky]at *;rw[e];simp[C1,f1,f2]
 ·have Y:∀q,gI C q=if q=S.s p then S.d else gI T q:=fun q=>by rw[J,qN (by rw[t];exact sb)]
  refine⟨L,fun j G=>?_,?_,fun q D hn V=>?_⟩
  ·rw[B,Y,yG (Q.hs j p G F),N j G];split<;>lia
  ·rw[B,Y,yH rfl]
  ·rw[B,Y,yG V,M q hn];split<;>rfl
end
structure HOk(nn:Int)(w nr:Nat)(HO:Nat->List Int):Prop where
 ex:∀grp:Nat,1<=grp->grp<=w->∃rr,(∀st,pm c9 [.int nn,.int grp,.int 0] st=À (rr,st))/\∀st,pm eI [.int nn,rr] st=À (.fz (iL (HO grp)),st)
 len:∀grp:Nat,1<=grp->grp<=w->(HO grp).length=nr
 bd:∀(grp:Nat),1<=grp->grp<=w->∀x∈HO grp,x.natAbs<=15
section
variable{st:aa}{k a b c g n u w m p nr:Nat}{rows:List AV}{S:Sh}{nn:Int}{HO:Nat->List Int}
theorem DB{r q:Nat}{x:Int}(e:ev ks ea sl s=À (.ref r,s))(d:ev ks eb sl s=À (.int (q:Int),s))(c:ev ks ec sl s=À (.int x,s))(a:s[r]?=À (.lst (iL l)))(b:q<l.length):cZ ks (.aus .Add ea eb ec) sl s=À (.nx sl (s.set r (.lst (iL (l.set q (gI l q+x)))))):=by
 rw[JP];unfold xc;rw[e,Ã];dsimp only;rw[d,Ã];dsimp only;rw[ci a,Ã,cV,cz b,Ã,c,Ã];dsimp only;have:xU .Add s (.int (gI l q)) (.int x)=À (.int (gI l q+x)):=rfl;rw[this,Ã,dZ a (by simp[b]),gD,Ã]
theorem CP(R:Rep st k a b c g n u rows S)(P:PN w (m+1) S)(Q:SX.Pm w (m+1) S.h S.s)(hp:p<m+1)(nt:S.tn.Nodup)(ht:∀q∈S.tn,q<w+(m+1))(hw:w<=100)(hm:m+1<=800)(HA:∀st,pm ah [.int nn] st=À (.int w,st))(H:HOk nn w nr HO)(hnr:nr<=m) :
  ∃z,aL [.int nn,.ref k,.int p] st=À z/\∃T W,TK S w (m+1) p T/\W.length=m/\(∀x,x<m->gI W x=wt T HO w w x)/\z.1=.ref (st.length+1)/\z.2=st++[PC.lst (iL T)]++[PC.lst (iL W)]:=by
 rw[aL];simp only[aw];unfold fK;refine Ec R P Q hp nt ht hw hm fun T h f U=>?_
 have sT:(st++[PC.lst (iL T)])[st.length]?=À (.lst (iL T)):=gl;refine aA (sl':=[Is nn,Rs k,Is p,Rs st.length,h,f,Rs (st.length+1),Á,Á,Á,Á]) (st':=st++[PC.lst (iL T)]++[PC.lst (iL ((T.drop w).take m))]) ?_ ?_
 ·simp[lT,lQ,HA,ci sT,FF U.len]
 have ll:(st++[PC.lst (iL T)]).length=st.length+1:=by simp
 have V:∀W:List Int,(st++[PC.lst (iL T)]++[PC.lst (iL W)])[st.length]?=À (.lst (iL T)):=fun W=>ga sT
 have sW:∀W:List Int,(st++[PC.lst (iL T)]++[PC.lst (iL W)])[st.length+1]?=À (.lst (iL W)):=fun W=>by rw[<- ll];exact gl
 have L:∀W d:List Int,(st++[PC.lst (iL T)]++[PC.lst (iL W)]).set (st.length+1) (.lst (iL d))=st++[PC.lst (iL T)]++[PC.lst (iL d)]:=fun W d=>by rw[<- ll];exact dN
 have hW0:∀x,x<m->gI ((T.drop w).take m) x=wt T HO w 0 x:=fun x v=>by
  unfold wt gI;rw[zD,Ť v,List.getElem?_drop,zD];simp[PD]
 obtain⟨sl',st',e,W,N,J,B,A,rfl,rfl,O,M⟩:=fj (gd:=[]) (g:=cj KW (.nm 7)) (s:=ae KW (.cons (.as (.ix (.v 3) (.bin .Sub (.v 7) (.i 1))) (.nm 8)) (.cons (.iff (.cmp .NotEq (.v 8) (.i 0))
   (.cons (.fo (.en (.ca Â 2 (.cons (.v 0) (.cons (.ca Â 1 (.cons (.v 0) (.cons (.v 7) (.cons (.i 0) .nil)))) .nil)))) (.tu 2 (.cons (.nm 9) (.cons (.nm 10) .nil))) (.cons (.aus .Add (.v 6) (.v 9) (.bin .Mult (.v 8) (.v 10))) .nil)) .nil) .nil) .nil)))
  (I:=fun i sl s=>∃W N J B A,s=st++[PC.lst (iL T)]++[PC.lst (iL W)]/\sl=[Is nn,Rs k,Is p,Rs st.length,h,f,Rs (st.length+1),N,J,B,A]/\W.length=m/\∀x,x<m->gI W x=wt T HO w i x) (xs:=dP 1 w) (fun _ _ _ _ _=>rfl)
  (fun i y sl s C hI=>by
   obtain⟨W,N,J,B,A,rfl,rfl,O,M⟩:=hI;have hi:i<w:=by have:=(zB.mp C).1;unfold dP at this;simpa using this
   have ey:y=.int (((i+1:Nat)):Int):=by
    unfold dP at C;rw[zR,P? hi]at C;injection C with C;rw[<- C];show AV.int (1+(i:Int))=_;congr 1;lia
   subst ey;have xi:aJ (st++[PC.lst (iL T)]++[PC.lst (iL W)]) (.ref st.length) (.int (i:Int))=À (.int (gI T i)):=by rw[dj (ci (V W)),cV,cz (by rw[U.len];lia)]
   have K:cZ KW (.as (.ix (.v 3) (.bin .Sub (.v 7) (.i 1))) (.nm 8)) [Is nn,Rs k,Is p,Rs st.length,h,f,Rs (st.length+1),Is ((i+1:Nat):Int),J,B,A] (st++[PC.lst (iL T)]++[PC.lst (iL W)])=À (.nx [Is nn,Rs k,Is p,Rs st.length,h,f,Rs (st.length+1),Is ((i+1:Nat):Int),Is (gI T i),B,A] (st++[PC.lst (iL T)]++[PC.lst (iL W)])):=by
    have e0:((i+1:Nat):Int)-1=(i:Int):=by lia
    have hb:bh .Sub (st++[PC.lst (iL T)]++[PC.lst (iL W)]) (.int ((i+1:Nat):Int)) (.int 1)=À (.int (i:Int)):=by rw[nk,e0]
    simp only[eS,eQ,ce,cq,cU,bR,bQ,Ã,hb,Ì,xi];rfl
   by_cases h0:gI T i=0
   ·refine⟨_,_,_,rfl,aj K ?_,W,Is ((i+1:Nat):Int),Is (gI T i),B,A,rfl,rfl,O,fun x v=>?_⟩
    ·simp[h0]
    ·rw[M x v];unfold wt;simp only[PD,h0];lia
   ·obtain⟨rr,r1,r2⟩:=H.ex (i+1) oM oM
    have D:=H.len (i+1) oM oM;obtain⟨sl',st',e,d,G,F,rfl,rfl,E,t⟩:=fj (gd:=[]) (g:=cj KW (.tu 2 (.cons (.nm 9) (.cons (.nm 10) .nil)))) (s:=ae KW (.cons (.aus .Add (.v 6) (.v 9) (.bin .Mult (.v 8) (.v 10))) .nil))
     (I:=fun j sl s=>∃d G F,s=st++[PC.lst (iL T)]++[PC.lst (iL d)]/\sl=[Is nn,Rs k,Is p,Rs st.length,h,f,Rs (st.length+1),Is ((i+1:Nat):Int),Is (gI T i),G,F]/\d.length=m/\∀x,x<m->gI d x=gI W x+if x<j then gI T i*gI (HO (i+1)) x else 0) (xs:=fD 0 (iL (HO (i+1)))) (fun _ _ _ _ _=>rfl)
     (fun j y sl s C hI=>by
      obtain⟨d,G,F,rfl,rfl,E,t⟩:=hI;obtain⟨x,o,rfl⟩:=p4 C;have hj:j<nr:=by have:=(zB.mp o).1;simpa [D] using this
      rw[cz oM]at o;injection o with o;subst o;have hc:(gI (HO (i+1)) j).natAbs<=15:=by
       refine H.bd (i+1) oM oM _ ?_;unfold gI;exact SX.getD_mem oM
      have mb:cS (gI T i) (gI (HO (i+1)) j)=Â:=by
       unfold cS;have:Û (gI (HO (i+1)) j).natAbs.log2 62=Â:=yK (by
        by_cases hz:(gI (HO (i+1)) j).natAbs=0
        ·rw[hz];decide
        ·exact yY ((Ċ hz).mpr (yL hc dC)))
       rw[this];simp
      refine⟨_,_,_,rfl,aj (DB (r:=st.length+1) (q:=j) (l:=d) (x:=gI T i*gI (HO (i+1)) j) rfl rfl (by simp[b9 mb]) (sW d) oM) rfl,d.set j (gI d j+gI T i*gI (HO (i+1)) j),_,_,L _ _,rfl,by simp[E],fun x v=>?_⟩;rw[qN oM];by_cases e:x=j
      ·subst e;rw[yH rfl,t x v,yG oM,yH oM];lia
      ·rw[yG e,t x v]
       by_cases e2:x<j
       ·rw[yH e2,yH oM]
       ·rw[yG e2,yG oM]) (sl:=[Is nn,Rs k,Is p,Rs st.length,h,f,Rs (st.length+1),Is ((i+1:Nat):Int),Is (gI T i),B,A]) (st:=st++[PC.lst (iL T)]++[PC.lst (iL W)]) ⟨W,B,A,rfl,rfl,O,fun x v=>by simp⟩
    rw[m7,gE,D]at t;refine⟨_,_,_,rfl,aj K (aj (sl':=[Is nn,Rs k,Is p,Rs st.length,h,f,Rs (st.length+1),Is ((i+1:Nat):Int),Is (gI T i),G,F]) (st':=st++[PC.lst (iL T)]++[PC.lst (iL d)]) ?_ rfl),d,Is ((i+1:Nat):Int),Is (gI T i),G,F,rfl,rfl,E,fun x v=>?_⟩
    ·have r1':=r1 (st++[PC.lst (iL T)]++[PC.lst (iL W)])
     have Z:=r2 (st++[PC.lst (iL T)]++[PC.lst (iL W)]);simp only[dF,eN,cq,cU,bR,bQ,Ã,NA,Ì,z9 h0,Bool.not_false,ite_true];refine aj (sl':=[Is nn,Rs k,Is p,Rs st.length,h,f,Rs (st.length+1),Is ((i+1:Nat):Int),Is (gI T i),G,F]) (st':=st++[PC.lst (iL T)]++[PC.lst (iL d)]) ?_ rfl;rw[jV,Nm];simp only[fV,aQ,ba,cq,cU,bR,bQ,Ã,fR,fY,gC];rw[r1'];simp only[Ã];rw[Z];simp only[Ã,Av,Ì];exact e
    ·rw[t x v,M x v]
     unfold wt;simp only[PD];by_cases e:x<nr
     ·rw[yH e];lia
     ·rw[yG e]
      have:gI (HO (i+1)) x=0:=by unfold gI;rw[zD,ë oM];rfl
      rw[this,yO];lia) (sl:=[Is nn,Rs k,Is p,Rs st.length,h,f,Rs (st.length+1),Á,Á,Á,Á]) (st:=st++[PC.lst (iL T)]++[PC.lst (iL ((T.drop w).take m))]) ⟨_,Á,Á,Á,Á,rfl,rfl,by simp[U.len],hW0⟩
 have rl:(dP 1 w).length=w:=by unfold dP;simp
 rw[rl]at M;refine⟨(.ref (st.length+1),st++[PC.lst (iL T)]++[PC.lst (iL W)]),?_,T,W,U,O,M,rfl,rfl⟩;refine af (sl':=[Is nn,Rs k,Is p,Rs st.length,h,f,Rs (st.length+1),N,J,B,A]) (st':=st++[PC.lst (iL T)]++[PC.lst (iL W)]) ?_ (by simp);have Y:fW 1=Â:=by decide
 have X:fW ((w:Int)+1)=Â:=by
  unfold fW;refine yK ?_;rw[show((w:Int)+1).natAbs=w+1 by lia];exact yY ((Ċ oM).mpr oM)
 rw[jV];have ei:eO KW (.r2 (.i 1) (.bin .Add (.ca Â 0 (.cons (.v 0) .nil)) (.i 1))) [Is nn,Rs k,Is p,Rs st.length,h,f,Rs (st.length+1),Á,Á,Á,Á] (st++[PC.lst (iL T)]++[PC.lst (iL ((T.drop w).take m))])=À (⟨dP 1 w,[]⟩,st++[PC.lst (iL T)]++[PC.lst (iL ((T.drop w).take m))]):=by
  have e2:((w:Int)+1-1).toNat=w:=by lia
  simp[-List.append_assoc,Dm,HA,Y,X]
 rw[ei,Ã];exact e
end
section
variable{st:aa}{k a b c g n u w m p nr:Nat}{rows:List AV}{S:Sh}{nn:Int}{HO:Nat->List Int}{v:Nat->Nat->Int}
theorem TK.bd(a:TK S w m p T)(f:p<m)(Q:SX.Pm w m S.h S.s)(B:S.d.natAbs<2^8900/\∀i,i<m->∀j,j<w+1->(S.t i j).natAbs<2^8900)(q:Nat):(gI T q).natAbs<2^8900:=by
 by_cases e:q<w+m
 ·by_cases d:∃j,j<w/\S.h j=q
  ·obtain⟨j,b,rfl⟩:=d
   rw[a.hd j b]
   have:=B.2 p f j oM
   split
   ·exact this
   ·rw[â];exact this
  ·by_cases c:q=S.s p
   ·rw[c,a.sd]
    split
    ·rw[â];exact B.1
    ·exact B.1
   ·rw[a.no q e (fun j b z=>d ⟨j,b,z⟩) c];exact Ô _
 ·have:gI T q=0:=by unfold gI;rw[zD,ë (by rw[a.len];lia)];rfl
  rw[this];exact Ô _
theorem CQ(a:∀q,(gI T q).natAbs<2^8900)(H:HOk nn w nr HO)(b:w<=15)(x:Nat):(wt T HO w w x).natAbs<2^9000:=by
 unfold wt;have l:=SX.abs_sum (n:=w) (f:=fun y=>gI T y*gI (HO (y+1)) x) (M:=2^8900*15) fun i g=>by
  rw[yZ];refine ύ (yY (a i)) ?_;unfold gI;rw[zD];cases e:(HO (i+1))[x]? with
  |none=>simp
  |some z=>exact H.bd (i+1) oM oM z (zW e)
 have k:=a (w+x);have j:=U1 (gI T (w+x)) (PD w fun y=>gI T y*gI (HO (y+1)) x);have h:w*(2^8900*15)<=15*(2^8900*15):=ό _ b;have d:(2:Nat)^9000=2^8900*2^100:=by rw[<- Ţ]
 have c:(2:Nat)^100=1267650600228229401496703205376:=by decide
 rw[d,c];generalize (2:Nat)^8900=B at *;lia
theorem Cg(R:Rep st k a b c g n u rows S)(I:MI w (m+1) v S)(D:Bnd w (m+1) v)(i:p<m+1)(J:S.tn.Nodup)(M:∀q∈S.tn,q<w+(m+1))(L:w<=15)(hm:m+1<=400)(E:∀st,pm ah [.int nn] st=À (.int w,st))(H:HOk nn w nr HO)(r:nr<=m) :
  ∃z,bB [.int nn,.ref k,.int p] st=À z/\∃X T W,GX S w w (m+1) X/\TK S w (m+1) p T/\W.length=m/\(∀x,x<m->gI W x=wt T HO w w x) /\
   z.1=.tup [.str "least",.tup [.int (gI (am [- S.t p w,S.d]) 0),.int (gI (am [- S.t p w,S.d]) 1)],.tup [.fz (iL ((am (X++[S.d])).take w)),.int (gI (am (X++[S.d])) w)],.int (gI (am (W++[S.d])) m),.fz (iL ((am (W++[S.d])).take m))]:=by
 have P:=I.shp;have B:=D.bd I;obtain⟨z,e1,T,W,C,o,A,f,e⟩:=CP R P I.pm i J M oM oM E H r;obtain⟨z1,z2⟩:=z;dsimp only at f e;subst f;subst e;have R2:=(R.app (ys:=[PC.lst (iL T)])).app (ys:=[PC.lst (iL W)]);have G:∀x∈W++[S.d],x.natAbs<2^9000:=fun x K=>by
  rcases zZ.mp K with h|h
  ·obtain⟨j,t⟩:=z8 h
   have N:=(zB.mp t).1;have V:gI W j=x:=by unfold gI;rw[zD,t];rfl
   rw[<- V,A j oM];exact CQ (C.bd i I.pm (D.bd8 I)) H L j
  ·rw[zM.mp h];exact B.1
 have Z:=t8 (l:=W++[S.d]) (st:=st++[PC.lst (iL T)]++[PC.lst (iL W)]) (by simp[o];lia) G;obtain⟨X,T',d,Y,rfl,O,R3⟩:=C2 R2 P I.pm B E oM oM;have U:=IV (a:=- S.t p w) (b:=S.d) (st:=st) (by rw[â];exact B.2 p i w oM) B.1;refine⟨(_,d),?_,X,T,W,O,C,o,A,rfl⟩;have s:(am (W++[S.d])).length=m+1:=by rw[ja];simp[o]
 rw[bB,aw];unfold gf;refine af (sl':=[Is nn,Rs k,Is p,À (.tup [.int (gI (am [- S.t p w,S.d]) 0),.int (gI (am [- S.t p w,S.d]) 1)]),Á]) (st':=st) (by simp[R.ins,R.line P i,R.last P i,U]) ?_;refine af (sl':=[Is nn,Rs k,Is p,À (.tup [.int (gI (am [- S.t p w,S.d]) 0),.int (gI (am [- S.t p w,S.d]) 1)]),Ls (am (W++[S.d]))]) (st':=st++[PC.lst (iL T)]++[PC.lst (iL W)]) ?_ ?_
 ·have Q:(st++[PC.lst (iL T)]++[PC.lst (iL W)])[st.length+1]?=À (.lst (iL W)):=by
   have:(st++[PC.lst (iL T)]).length=st.length+1:=by simp
   rw[<- this];exact gl
  have c:=mz (ks:=[dg,aL,ai,aS]) (a:=.ca Ä 1 (.cons (.v 0) (.cons (.v 1) (.cons (.v 2) .nil)))) (b:=.nw Ä (.li (.cons (.fd "Sheet" "below" (.v 1)) .nil)))
   (sl:=[Is nn,Rs k,Is p,À (.tup [.int (gI (am [- S.t p w,S.d]) 0),.int (gI (am [- S.t p w,S.d]) 1)]),Á]) (st:=st) (s1:=st++[PC.lst (iL T)]++[PC.lst (iL W)]) (s2:=st++[PC.lst (iL T)]++[PC.lst (iL W)]) (x:=.ref (st.length+1)) (y:=.fz [AV.int S.d]) (l:=W) (l':=[S.d])
   (by simp only[fV,aQ,ba,cq,bR,bQ,Ã,xh,fY,gC];exact e1) (by simp[-List.append_assoc,dE,R2.ins]) (ci Q) rfl (by simp[o];lia)
  simp only[eS,fV,aQ,ba,du,c,Ã,cK,ite_true,fR,fY,gC,Z,Cq];rfl
 ·have F:aJ d (.fz (iL (am (W++[S.d])))) (.int (-1))=À (.int (gI (am (W++[S.d])) m)):=by rw[dj dI,qT (n:=m) (by simp[s]),cz oM]
  simp[-List.append_assoc,Y,lT,lQ,uH s,F]
end
open SX (Qt v0)
def val(w:Nat)(r:List Int)(Y:Nat->Int):Int:=PD w fun x=>gI r x*Y x
structure Kp(w:Nat)(RR:List (List Int))(gv:List Gv)(Y:Nat->Int)(e:Int):Prop where
 rule:∀r∈RR,0<=val w r Y
 eq:∀z∈gv,z.eq=Â->val w z.row Y=z.num*e
 ge:∀z∈gv,z.eq=Ä->z.num*e<=val w z.row Y
structure TbS(w:Nat)(RR:List (List Int))(gv:List Gv)(X:List Int)(D:Int):Prop where
 len:X.length=w
 pos:0<D
 bd:(∀x∈X,x.natAbs<2^2500)/\D.natAbs<2^2500
 kp:Kp w RR gv (gI X) D
def ye(w:Nat)(RR:List (List Int))(gv:List Gv)(goal:List Int)(t:AV):Prop :=
 ((∃W,t=.tup [.str "never",.fz (iL W)])/\∀Y e,0<e->¬Kp w RR gv Y e) \/
 (∃T d X D K W,t=.tup [.str "least",.tup [.int (gI (am [T,d]) 0),.int (gI (am [T,d]) 1)],.tup [.fz (iL X),.int D],.int K,.fz (iL W)]/\0<d/\(T.natAbs<2^2500/\d.natAbs<2^2500)/\(TbS w RR gv X D/\val w goal (gI X)*d=T*D)/\∀Y e,0<e->Kp w RR gv Y e->T*e<=val w goal Y*d) \/
 ∃X D Z,t=.tup [.str "endless",.tup [.fz (iL X),.int D],.fz (iL Z)]/\TbS w RR gv X D/\(Z.length=w/\∀x∈Z,x.natAbs<2^2500)/\Kp w RR gv (gI Z) 0/\val w goal (gI Z)<0
section
variable{w:Nat}{RR:List (List Int)}{gv:List Gv}{goal:List Int}{Y Y':Nat->Int}{e e' g T d:Int}
theorem kK{r:List Int}(h:∀x,x<w->Y x=g*Y' x):val w r Y=g*val w r Y':=by
 unfold val;rw[<- SX.sum_mul];exact SX.sum_congr fun x a=>by rw[h x a];grind
theorem Kp.div(b:0<g)(he:e=g*e')(h:∀x,x<w->Y x=g*Y' x)(K:Kp w RR gv Y e):Kp w RR gv Y' e':=by
 refine⟨fun r c=>?_,fun z hz a=>?_,fun z hz a=>?_⟩
 ·have:=K.rule r c
  rw[kK h]at this;exact q! (by rw[yO];exact this) b
 ·have:=K.eq z hz a
  rw[kK h,he]at this;exact Š oM (this.trans (by grind))
 ·have:=K.ge z hz a
  rw[kK h,he]at this;exact q! (Ķ (by rw[show g*(z.num*e')=z.num*(g*e') by grind];exact Ő _) this) b
theorem xE(l:List Int):∃g:Int,0<g/\∀i,gI l i=g*gI (am l) i:=by
 by_cases h:gL l=0
 ·exact⟨1,by decide,fun i=>by unfold am;rw[yH h,Ϗ]⟩
 ·refine⟨(gL l:Int),by lia,fun i=>?_⟩
  unfold am;rw[yG h];unfold gI;rw[zD,zD,zR];cases e:l[i]? with
  |none=>simp
  |some x =>
   have:=AD x (zW e)
   exact(P8 (k?.mp (Ű.mpr this))).symm
theorem t9{l:List Int}{M:Nat}(b:0<M)(h:∀x∈l,x.natAbs<M)(i:Nat):(gI (am l) i).natAbs<M:=by
 obtain⟨g,c,e⟩:=xE l;have a:=mZ h b i;rw[e i,yZ]at a;exact yL (Nat.le_mul_of_pos_left _ oM) a
theorem lU{l:List Int}{P:Int->Prop}(h:∀i,i<l.length->P (gI l i)):∀x∈l,P x:=fun x b=>by
 obtain⟨i,a⟩:=z8 b
 have:=h i (zB.mp a).1
 unfold gI at this;rw[zD,a]at this;exact this
theorem qO{l:List Int}{w i:Nat}(h:i<w):gI (l.take w) i=gI l i:=by
 unfold gI;rw[zD,zD,Ť h]
theorem IN{l l':List Int}{i:Nat}(h:i<l.length):gI (l++l') i=gI l i:=by
 unfold gI;rw[zD,zD,zN h]
theorem IM{l:List Int}{d:Int}:gI (l++[d]) l.length=d:=by
 unfold gI;rw[zD];simp
theorem TbS.low{X:List Int}(a:X.length=w)(hd:0<d)(i:(∀x∈X,x.natAbs<2^9000)/\d.natAbs<2^9000)(K:Kp w RR gv (gI X) d):∃g,0<g/\d=g*gI (am (X++[d])) w/\(∀r,val w r (gI X)=g*val w r (gI ((am (X++[d])).take w))) /\
  ((am (X++[d])).take w).length=w/\0<gI (am (X++[d])) w/\Kp w RR gv (gI ((am (X++[d])).take w)) (gI (am (X++[d])) w):=by
 obtain⟨g,b,e⟩:=xE (X++[d]);have c:d=g*gI (am (X++[d])) w:=by
  have:=e w
  rw[<- a,IM]at this;rw[<- a];exact this
 have ex:∀x,x<w->gI X x=g*gI ((am (X++[d])).take w) x:=fun x f=>by
  rw[qO f,<- e x,IN oM]
 refine⟨g,b,c,fun r=>kK ex,?_,?_,K.div b c ex⟩
 ·rw[Ĕ,ja,zV,a];simp
 ·rcases U2 0 (gI (am (X++[d])) w) with h|h|h
  ·exact h
  ·rw[<- h]at c;lia
  ·have:=ş b h;lia
theorem TbS.of{X:List Int}(k:X.length=w)(hd:0<d)(a:(∀x∈X,x.natAbs<2^2500)/\d.natAbs<2^2500)(K:Kp w RR gv (gI X) d)(f:val w goal (gI X)=T):TbS w RR gv ((am (X++[d])).take w) (gI (am (X++[d])) w)/\val w goal (gI ((am (X++[d])).take w))*d=T*gI (am (X++[d])) w:=by
 have big:(2:Nat)^2500<=2^9000:=å dC dC;obtain⟨g,p,m,ev,e,j,n⟩:=TbS.low k hd ⟨fun x b=>zJ (a.1 x b) big,zJ a.2 big⟩ K;have c:=t9 (l:=X++[d]) (Ô 2500) fun x b=>by
  rcases zZ.mp b with h|h
  ·exact a.1 x h
  ·rw[zM.mp h];exact a.2
 refine⟨⟨e,j,⟨lU fun i o=>?_,c w⟩,n⟩,?_⟩
 ·rw[qO oM];exact c i
 ·rw[<- f,ev goal]
  generalize gI (am (X++[d])) w=D at *;rw[m];grind
end
structure AI(w nr:Nat)(gv:List Gv)(L:List (List Int))(i:Nat)(S:Sh):Prop where
 mi:MI w (nr+gv.length+1) (v0 w L) S
 un:∀x,nr+i<=x->x<nr+gv.length+1->S.s x=w+x
 g1:∀q∈S.gd,q<w+nr\/∃y z,y<i/\gv[y]?=À z/\z.eq=Ä/\q=w+nr+y
 g2:∀q,q<w+nr->q∈S.gd
 g3:∀y z,y<i->gv[y]?=À z->z.eq=Ä->w+nr+y∈S.gd
 n1:∀q∈S.nl,∃y z,y<i/\gv[y]?=À z/\z.eq=Â/\q=w+nr+y
 n2:∀y z,y<i->gv[y]?=À z->z.eq=Â->w+nr+y∈S.nl
 t1:∀q∈S.tn,q∈S.nl
 tn:S.tn.Nodup
 lg:S.gd.length<=w+nr+i
 ln:S.nl.length<=i
 lt:S.tn.length<=i
section
variable{w nr i:Nat}{RR:List (List Int)}{gv:List Gv}{goal:List Int}{S:Sh}{Y:Nat->Int}{e:Int}
theorem ut{c:Int}{x:Nat}(h:r.length=w):gI (r++[c]) x=if x<w then gI r x else if x=w then c else 0:=by
 unfold gI;simp only[zD];by_cases b:x<w
 ·rw[yH b,zN oM]
 ·rw[yG b,z6 oM]
  by_cases a:x=w
  ·rw[yH a,h,a];simp
  ·rw[yG a,ë (by simp;lia)];rfl
theorem fy{c:Int}{j:Nat}(f:L[j]?=À (r++[c]))(b:r.length=w):Qt w (v0 w L) Y e (w+j)=val w r Y+c*e:=by
 have a:∀x,v0 w L (w+j) x=gI (r++[c]) x:=fun x=>by
  unfold v0;rw[yG oM,show w+j-w=j by lia,zD,f];rfl
 unfold Qt val;rw[a,ut b,yG oM,yH rfl];congr 1;exact SX.sum_congr fun x d=>by rw[a,ut b,yH d]
theorem Jv{q:Nat}(b:q<w):Qt w (v0 w L) Y e q=Y q:=by
 have a:∀x,v0 w L q x=if x=q then 1 else 0:=fun x=>by unfold v0;rw[yH b]
 unfold Qt;rw[SX.sum_one b fun x _ ne=>by rw[a,yG ne,yP],a,yH rfl,a,yG oM];lia
theorem vi(a:i<RR.length):(ak RR gv goal)[i]?=À (RR[i]++[0]):=by
 unfold ak;rw[yM,zN (by simpa using a)];simp[a]
theorem kE(hz:gv[i]?=À z):(ak RR gv goal)[RR.length+i]?=À (z.row++[- z.num]):=by
 have a:=(zB.mp hz).1;unfold ak;rw[yM,z6 (by simp),zN (by simp;exact a)];simp[hz]
theorem A8:(ak RR gv goal)[RR.length+gv.length]?=À (goal.map (fun x=>- x)++[0]):=by
 unfold ak;rw[z6 (by simp)];simp
theorem xZ:(ak RR gv goal).length=RR.length+gv.length+1:=by simp[ak];lia
theorem qv:val w (goal.map fun x=>- x) Y=- val w goal Y:=by
 unfold val;have:∀x,gI (goal.map fun x=>- x) x=- gI goal x:=fun x=>by
  unfold gI;rw[zD,zD,zR];cases goal[x]?<;>rfl
 rw[SX.sum_congr (g:=fun x=>(-1)*(gI goal x*Y x)) fun x _=>by rw[this];grind,SX.sum_mul];lia
structure Sz(w:Nat)(RR:List (List Int))(gv:List Gv)(goal:List Int):Prop where
 r:∀l∈RR,l.length=w
 g:∀z∈gv,z.row.length=w
 o:goal.length=w
 hg:∀Y:Nat->Int,(∀r∈RR,0<=val w r Y)->∀x,x<w->0<=Y x
theorem AI.of(Z:Sz w RR gv goal)(A:AI w RR.length gv (ak RR gv goal) i S)(F:Kp w RR gv Y e):(∀q∈S.gd,0<=Qt w (v0 w (ak RR gv goal)) Y e q)/\∀q∈S.nl,Qt w (v0 w (ak RR gv goal)) Y e q=0:=by
 refine⟨fun q c=>?_,fun q c=>?_⟩
 ·rcases A.g1 q c with h|⟨y,z,j,b,f,rfl⟩
  ·by_cases g:q<w
   ·rw[Jv g];exact Z.hg Y F.rule q g
   ·have d:q-w<RR.length:=by lia
    have:=fy (Y:=Y) (e:=e) (vi (gv:=gv) (goal:=goal) d) (Z.r _ (ĕ d))
    rw[show w+(q-w)=q by lia]at this;rw[this,yP,ĥ];exact F.rule _ (ĕ d)
  ·have a:=zW b
   rw[ō,fy (kE b) (Z.g z a)]
   have:=F.ge z a f
   have k:- z.num*e=- (z.num*e):=by grind
   lia
 ·obtain⟨y,z,j,b,f,rfl⟩:=A.n1 q c
  have a:=zW b;rw[ō,fy (kE b) (Z.g z a)]
  have:=F.eq z a f
  have k:- z.num*e=- (z.num*e):=by grind
  lia
theorem AI.to(Z:Sz w RR gv goal)(A:AI w RR.length gv (ak RR gv goal) gv.length S)(f:∀q∈S.gd,0<=Qt w (v0 w (ak RR gv goal)) Y e q)(h:∀q∈S.nl,Qt w (v0 w (ak RR gv goal)) Y e q=0):Kp w RR gv Y e:=by
 refine⟨fun r g=>?_,fun z hz c=>?_,fun z hz c=>?_⟩
 ·obtain⟨i,d⟩:=z8 g
  have b:=(zB.mp d).1;have j:RR[i]=r:=(zB.mp d).2
  have:=f (w+i) (A.g2 _ oM)
  rw[fy (vi b) (Z.r _ (ĕ b)),yP,ĥ,j]at this;exact this
 ·obtain⟨y,a⟩:=z8 hz
  have b:=(zB.mp a).1
  have:=h _ (A.n2 y z b a c)
  rw[ō,fy (kE a) (Z.g z hz)]at this;have k:- z.num*e=- (z.num*e):=by grind
  lia
 ·obtain⟨y,a⟩:=z8 hz
  have b:=(zB.mp a).1
  have:=f _ (A.g3 y z b a c)
  rw[ō,fy (kE a) (Z.g z hz)]at this;have k:- z.num*e=- (z.num*e):=by grind
  lia
theorem DV:∀q,q<w->∀x,x<w+1->v0 w L q x=if x=q then 1 else 0:=fun q a x _=>by unfold v0;rw[yH a]
theorem AI.vert(Z:Sz w RR gv goal)(A:AI w RR.length gv (ak RR gv goal) gv.length S){c:Nat}(J:c<w+1)(g:c<w->S.h c∉S.nl){X:Nat->Int}(r:∀i,i<RR.length+gv.length+1->S.s i<w->X (S.s i)=S.t i c)(b:∀j,j<w->S.h j<w->X (S.h j)=if j=c then S.d else 0)
  (e:∀i,i<RR.length+gv.length+1->S.s i∈S.gd->0<=S.t i c):Kp w RR gv X (if c=w then S.d else 0)/\val w goal X=- S.t (RR.length+gv.length) c:=by
 have I:=A.mi;have C:∀q∈S.tn,w<=q:=fun q a=>by obtain⟨y,z,_,_,_,rfl⟩:=A.n1 q (A.t1 q a);lia
 obtain⟨m,p⟩:=I.vert DV C J r b;have l:∀q∈S.gd,q∉S.tn:=fun q H F=>by
  obtain⟨y,z,x,v,u,t⟩:=A.n1 q (A.t1 q F);rcases A.g1 q H with h|⟨B,s,r,b,k,K⟩
  ·lia
  ·have:y=B:=by lia
   subst this;rw[v]at b;cases b;rw[u]at k;cases k
 have hd:=I.lin.pos;refine⟨A.to Z (fun q a=>?_) (fun q a=>?_),?_⟩
 ·have d:q<w+(RR.length+gv.length+1):=by
   rcases A.g1 q a with h|⟨y,z,_,b,_,rfl⟩
   ·lia
   ·have:=(zB.mp b).1;lia
  rcases I.pm.cov q d with⟨i,f,rfl⟩|⟨j,o,rfl⟩
  ·rw[m i f,yG (l _ a)];exact e i f a
  ·rw[p j o,yG (l _ a)];split<;>lia
 ·have d:q<w+(RR.length+gv.length+1):=by
   obtain⟨y,z,_,b,_,rfl⟩:=A.n1 q a
   have:=(zB.mp b).1;lia
  rcases I.pm.cov q d with⟨i,f,rfl⟩|⟨j,o,rfl⟩
  ·obtain⟨E,D⟩:=I.fea.n i f a
   have:S.t i c=0:=by
    by_cases h:c=w
    ·rw[h];exact E
    ·exact D c oM (g oM)
   rw[m i f,this];split<;>rfl
  ·rw[p j o,yG fun z=>g oM (by rw[<- z];exact a)]
 ·have G:=A.un (RR.length+gv.length) oM oM
  have k:=m (RR.length+gv.length) oM;rw[G]at k;have n:w+(RR.length+gv.length)∉S.tn:=fun z=>by
   obtain⟨y,s,x,_,_,t⟩:=A.n1 _ (A.t1 _ z);lia
  rw[yG n,fy A8 (by rw[zH];exact Z.o),qv,yP,ĥ]at k;lia
end
section
variable{w:Nat}{RR:List (List Int)}{gv:List Gv}{goal:List Int}{nn:Int}{HO:Nat->List Int}
theorem Fz{n0:Nat}{i:Nat}(h:(fD n0 xs)[i]?=À y):∃x,xs[i]?=À x/\y=.tup [.int ((n0+i:Nat):Int),x]:=by
 unfold fD at h;rw[zR]at h;obtain⟨z,a,rfl⟩:=zE.mp h;rw[ž]at a;obtain⟨x,b,rfl⟩:=zE.mp a;exact⟨x,b,rfl⟩
theorem Lc:bg .Eq s (.str "=") (.str "=")=À Â:=by kernel_rfl
theorem KQ:bg .Eq s (.str ">") (.str "=")=À Ä:=by kernel_rfl
structure Qu(nn:Int)(w:Nat)(RR:List (List Int))(HO:Nat->List Int)(gv:List Gv)(goal:List Int):Prop where
 HR:∀st,pm aN [.int nn] st=À (.fz (aD RR),st)
 HA:∀st,pm ah [.int nn] st=À (.int w,st)
 H:HOk nn w RR.length HO
 Z:Sz w RR gv goal
 hw:w<=15
 hR:RR.length<=100
 hg:gv.length<=100
 B:Bnd w (RR.length+gv.length+1) (v0 w (ak RR gv goal))
theorem vR(q:Qu nn w RR HO gv goal){k a b c g n u p:Nat}(R:Rep st k a b c g n u rows S)(I:MI w (RR.length+gv.length+1) (v0 w (ak RR gv goal)) S)(f:p<RR.length+gv.length+1)(m:S.tn.Nodup)(r:∀x∈S.tn,x<w+(RR.length+gv.length+1)) :
  ∃st1 W st2,aL [.int nn,.ref k,.int p] st=À (.ref (st.length+1),st1)/\pm ai [.ref (st.length+1)] st1=À (.fz (iL W),st2):=by
 obtain⟨z,D,T,W,y,G,v,e,d⟩:=CP R I.shp I.pm f m r (by have:=q.hw;lia) (by have:=q.hg;have:=q.hR;lia) q.HA q.H oM;obtain⟨F,E⟩:=z;dsimp only at e d;subst e;subst d;have A:(st++[PC.lst (iL T)]++[PC.lst (iL W)])[st.length+1]?=À (.lst (iL W)):=by
  have:(st++[PC.lst (iL T)]).length=st.length+1:=by simp
  rw[<- this];exact gl
 have i:∀x∈W,x.natAbs<2^9000:=fun x o=>by
  obtain⟨j,h⟩:=z8 o;have t:=(zB.mp h).1;have B:gI W j=x:=by unfold gI;rw[zD,h];rfl
  rw[<- B,v j oM];exact CQ (y.bd f I.pm (q.B.bd8 I)) q.H q.hw j
 obtain⟨st2,C,_⟩:=lO (fn:=ai) (rest:=[]) (st:=st++[PC.lst (iL T)]++[PC.lst (iL W)]) (x:=.ref (st.length+1)) (l:=W) (.inr ⟨_,rfl,.inl A⟩) rfl rfl (fun s=>rfl) (sM (by have:=q.hg;have:=q.hR;lia) i) rfl (by simp[flat]);exact⟨_,_,st2,D,C⟩
theorem CI(q:Qu nn w RR HO gv goal):∃z,hU [.int nn,.fz (gv.map Gv.av),.fz (iL goal)] []=À z/\∃t,dG z.2 z.1=À t/\ye w RR gv goal t:=by
 have Z:=q.Z;obtain⟨m,hm⟩:∃m,m=RR.length+gv.length:=⟨_,rfl⟩;have hLl:(ak RR gv goal).length=m+1:=by rw[xZ,hm]
 obtain⟨L,hL⟩:∃L,L=ak RR gv goal:=⟨_,rfl⟩;obtain⟨N,e1,R1⟩:=HD (gv:=gv) (goal:=goal) q.HR q.HA q.hw q.hR Z.r q.hg Z.g Z.o;have A0:AI w RR.length gv (ak RR gv goal) 0 (SX.openS w (ak RR gv goal) (w+RR.length)):=by
  have hLen:∀l∈ak RR gv goal,l.length=w+1:=fun l hl=>by
   unfold ak at hl;simp only[zZ,yC,zM]at hl;rcases hl with(⟨r,hr,rfl⟩|⟨z,hz,rfl⟩)|rfl
   ·simp[Z.r r hr]
   ·simp[Z.g z hz]
   ·simp[Z.o]
  have hI:=SX.open_MI (w:=w) (nr:=RR.length) (L:=ak RR gv goal) hLen fun i B=>by
   rw[zD,vi B];show gI (RR[i]++[0]) w=0;rw[ut (Z.r _ (ĕ B)),yG oM,yH rfl]
  rw[xZ]at hI;refine⟨hI,fun x _ b=>SX.open_s (by rw[xZ];exact b),fun x b=>.inl (Ö.mp b),fun x b=>Ö.mpr b,fun y z h=>by lia,fun x b=>?_,fun y z h=>by lia,fun x b=>?_,V9,by simp[SX.openS],zP 0,zP 0⟩
  ·exact absurd (show x ∈ ([]:List Nat) from b) (by simp)
  ·exact absurd (show x ∈ ([]:List Nat) from b) (by simp)
 have sm:=q.hg;have sm2:=q.hR;have sm3:=q.hw;rw[hU];simp only[aw];unfold oS;refine aA (sl':=[Is nn,Zs (gv.map Gv.av),Ls goal,Rs 1,Á,Á,Á,Á,Á]) (st':=N) (by simp[e1]) ?_;have l2:bN N (.ref 2)=À (aD (ak RR gv goal)):=ci R1.ha;refine aA (sl':=[Is nn,Zs (gv.map Gv.av),Ls goal,Rs 1,Is (m:Int),Á,Á,Á,Á]) (st':=N) (by simp[R1.ins,bI,eV,l2,hLl]) ?_
 have loop:=kz (gd:=[]) (g:=cj [bO,cG,bG,aL,ai,bC,bB,aS,cF] (.tu 2 (.cons (.nm 5) (.cons (.nm 6) .nil))))
  (s:=ae [bO,cG,bG,aL,ai,bC,bB,aS,cF] (.cons (.as (.ife (.cmp .Eq (.ix (.v 6) (.i 1)) (.s "=")) (.ca Ä 1 (.cons (.v 3) (.cons (.v 5) .nil))) (.ca Ä 2 (.cons (.v 3) (.cons (.v 5) .nil)))) (.nm 7))
   (.cons (.iff (.no (.va (.v 7))) (.cons (.rt (.tu (.cons (.s "never") (.cons (.ca Â 4 (.cons (.ca Ä 3 (.cons (.v 0) (.cons (.v 3) (.cons (.v 5) .nil)))) .nil)) .nil)))) .nil) .nil) .nil)))
  (I:=fun i sl s=>∃a P S x5 x6 x7,sl=[Is nn,Zs (gv.map Gv.av),Ls goal,Rs 1,Is (m:Int),x5,x6,x7,Á]/\Rep s 1 a 3 4 5 6 7 P S/\AI w RR.length gv (ak RR gv goal) i S)
  (Post:=fun v s=>∃t,dG s v=À t/\ye w RR gv goal t) (xs:=fD RR.length (gv.map Gv.av)) (fun _ _ _ _ _=>rfl)
  (fun i y sl s E hI=>by
   obtain⟨a,P,S,x5,x6,x7,rfl,R,A⟩:=hI;obtain⟨x,b,rfl⟩:=Fz E;rw[zR]at b;obtain⟨z,hz,rfl⟩:=zE.mp b;have hzm:=zW hz;have B:=(zB.mp hz).1;have hp:RR.length+i<RR.length+gv.length+1:=by lia
   have I:=A.mi;have sp:S.s (RR.length+i)=w+RR.length+i:=by rw[A.un _ (zP _) hp];lia
   have ng:S.s (RR.length+i)∉S.gd:=fun h=>by
    rcases A.g1 _ h with h|⟨y,_,h,_,_,f⟩<;>lia
   have nn':S.s (RR.length+i)∉S.nl:=fun h=>by obtain⟨y,_,h,_,_,f⟩:=A.n1 _ h;lia
   have nt:S.s (RR.length+i)∉S.tn:=fun h=>nn' (A.t1 _ h)
   have unk:∀T:Sh,Kj (RR.length+gv.length+1) (RR.length+i) S T->∀x,RR.length+(i+1)<=x->x<RR.length+gv.length+1->T.s x=w+x:=fun T K x k f=>by
    have e:=A.un x oM f;rw[K.si x f oM (by rw[e];intro h;rcases A.g1 _ h with h|⟨y,_,h,_,_,f⟩<;>lia),e]
   have lst:∀x∈S.nl,x<w+(RR.length+gv.length+1):=fun x b=>by
    obtain⟨y,_,h,_,_,f⟩:=A.n1 _ b;lia
   have nev:∀(T:Sh),MI w (RR.length+gv.length+1) (v0 w (ak RR gv goal)) T->T.gd=S.gd->T.nl=S.nl->(∀x∈T.tn,x∈T.nl\/x=T.s (RR.length+i))->T.s (RR.length+i)=S.s (RR.length+i)->T.t (RR.length+i) w<0->(∀j,j<w->T.h j∉T.nl->¬0<T.t (RR.length+i) j)->(z.eq=Ä->T.s (RR.length+i)∉T.tn)->∀Y e,0<e->¬Kp w RR gv Y e:=fun T I' C G Q U low hr hzt Y e he F=>by
    obtain⟨f1,f2⟩:=A.of Z F;have d:=I'.dual hp hr Q (Y:=Y) (e:=e) (fun j hj h=>by
     rcases I'.fea.f j hj with k|k
     ·rw[show(T.h j∈T.gd)=(T.h j∈S.gd) by rw[C]]at k;exact f1 _ k
     ·exact absurd k h) (fun j hj h=>by rw[G]at h;exact f2 _ h)
    have neg:=p? low he;have qe:=fy (Y:=Y) (e:=e) (kE (RR:=RR) (goal:=goal) hz) (Z.g z hzm);have e1:- z.num*e=- (z.num*e):=by grind
    rw[U,sp,ō,qe]at d;cases u:z.eq with
    |true =>
     have:=F.eq z hzm u
     rw[show val w z.row Y+- z.num*e=0 by lia]at d;split at d<;>lia
    |false =>
     have h3:=F.ge z hzm u;have h4:=hzt u;rw[U,sp,ō]at h4;rw[yG h4]at d
     have:=Ý (Ă I'.lin.pos) (show 0 <= val w z.row Y + - z.num * e by lia)
     lia
   cases u:z.eq with
   |true =>
    obtain⟨T,s2,a2,J,bb,e2,R2,K,C,I2,hb⟩:=KH q.B R I hp ng nn' nt (by have:=A.ln;lia) (by have:=A.lt;lia);have tnd:T.tn.Nodup:=by
     rcases K.tn with h|h
     ·rw[h];exact A.tn
     ·rw[h]
      rw[ϥ];exact⟨A.tn,by simp,fun x b y E e=>nt (by rw[<- zM.mp E,<- e];exact b)⟩
    have es:cZ [bO,cG,bG,aL,ai,bC,bB,aS,cF] (.as (.ife (.cmp .Eq (.ix (.v 6) (.i 1)) (.s "=")) (.ca Ä 1 (.cons (.v 3) (.cons (.v 5) .nil))) (.ca Ä 2 (.cons (.v 3) (.cons (.v 5) .nil)))) (.nm 7)) [Is nn,Zs (gv.map Gv.av),Ls goal,Rs 1,Is (m:Int),Is ((RR.length+i:Nat):Int),À z.av,x7,Á] s
      = À (.nx [Is nn,Zs (gv.map Gv.av),Ls goal,Rs 1,Is (m:Int),Is ((RR.length+i:Nat):Int),À z.av,À (.bl bb),Á] s2):=by
     have xi:aJ s z.av (.int 1)=À (.str "="):=by
      have:z.av=.tup [.fz (iL z.row),.str "=",.int z.num]:=by unfold Gv.av;rw[u];rfl
      rw[this];rfl
     simp only[eS,CU,eN,eQ,cq,cU,qZ,bR,bQ,Ã,xi,Ì,Lc,ite_true,fV,aQ,ba,xh,fY,gC,e2,Cq];rfl
    rcases hb with⟨rfl,G⟩|⟨rfl,G,U,low,hr⟩
    ·refine⟨_,.nx [Is nn,Zs (gv.map Gv.av),Ls goal,Rs 1,Is (m:Int),Is ((RR.length+i:Nat):Int),À z.av,À (.bl Â),Á] s2,rfl,aj es ?_,.inl ⟨_,s2,rfl,a2,J,T,_,_,_,rfl,R2,⟨I2,unk T K,fun x b=>?_,fun x b=>by rw[C];exact A.g2 x b,fun y H E k f=>?_,fun x b=>?_,fun y H E k f=>?_,fun x b=>?_,tnd,?_,?_,?_⟩⟩⟩
     ·simp[fH,bN,dr]
     ·rw[C]at b
      rcases A.g1 x b with h|⟨y,H,k,f⟩
      ·exact .inl h
      ·exact .inr ⟨y,H,by lia,f⟩
     ·rw[C]
      by_cases e:y=i
      ·subst e;rw[hz]at k;cases k;rw[u]at f;cases f
      ·exact A.g3 y H oM k f
     ·rw[G,zZ,zM]at b
      rcases b with b|b
      ·obtain⟨y,H,k,f⟩:=A.n1 x b;exact⟨y,H,by lia,f⟩
      ·exact⟨i,z,by lia,hz,u,by rw[b,sp]⟩
     ·rw[G,zZ,zM]
      by_cases e:y=i
      ·subst e;exact .inr (by rw[sp])
      ·exact .inl (A.n2 y H oM k f)
     ·rw[G,zZ,zM]
      rcases K.tn with h|h
      ·rw[h]at b;exact .inl (A.t1 x b)
      ·rw[h,zZ,zM]at b
       exact b.imp (A.t1 x) id
     ·rw[C];have:=A.lg;lia
     ·rw[G,zV];have:=A.ln;simp;lia
     ·rcases K.tn with h|h
      ·rw[h];have:=A.lt;lia
      ·rw[h,zV];have:=A.lt;simp;lia
    ·have tq:∀x∈T.tn,x∈T.nl\/x=T.s (RR.length+i):=fun x b=>by
      rw[G,U];rcases K.tn with h|h
      ·rw[h]at b;exact .inl (A.t1 x b)
      ·rw[h,zZ,zM]at b
       exact b.imp (A.t1 x) id
     obtain⟨s3,W,s4,e3,e4⟩:=vR q R2 I2 hp tnd fun x b=>by
      rcases tq x b with h|h
      ·rw[G]at h;exact lst x h
      ·rw[h,U,sp];lia
     refine⟨_,.rt (.tup [.str "never",.fz (iL W)]) s4,rfl,aj es ?_,.inr ⟨_,s4,rfl,_,rfl,.inl ⟨⟨W,rfl⟩,nev T I2 C G tq U low hr (fun h=>by rw[u]at h;cases h)⟩⟩⟩;rw[W?]at e3;simp[fH,bN,dr,e3,e4]
   |false =>
    obtain⟨T,s2,a2,J,bb,e2,R2,K,Q,G,I2,hb⟩:=KF q.B R I hp ng nn' (by have:=A.lg;lia);have es:cZ [bO,cG,bG,aL,ai,bC,bB,aS,cF] (.as (.ife (.cmp .Eq (.ix (.v 6) (.i 1)) (.s "=")) (.ca Ä 1 (.cons (.v 3) (.cons (.v 5) .nil))) (.ca Ä 2 (.cons (.v 3) (.cons (.v 5) .nil)))) (.nm 7)) [Is nn,Zs (gv.map Gv.av),Ls goal,Rs 1,Is (m:Int),Is ((RR.length+i:Nat):Int),À z.av,x7,Á] s
      = À (.nx [Is nn,Zs (gv.map Gv.av),Ls goal,Rs 1,Is (m:Int),Is ((RR.length+i:Nat):Int),À z.av,À (.bl bb),Á] s2):=by
     have xi:aJ s z.av (.int 1)=À (.str ">"):=by
      have:z.av=.tup [.fz (iL z.row),.str ">",.int z.num]:=by unfold Gv.av;rw[u];rfl
      rw[this];rfl
     simp only[eS,CU,eN,eQ,cq,cU,qZ,bR,bQ,Ã,xi,Ì,KQ,yA,ite_false,fV,aQ,ba,xh,fY,gC,e2,Cq];rfl
    rcases hb with⟨rfl,C⟩|⟨rfl,C,U,low,hr⟩
    ·refine⟨_,.nx [Is nn,Zs (gv.map Gv.av),Ls goal,Rs 1,Is (m:Int),Is ((RR.length+i:Nat):Int),À z.av,À (.bl Â),Á] s2,rfl,aj es ?_,.inl ⟨_,s2,rfl,a2,J,T,_,_,_,rfl,R2,⟨I2,unk T K,fun x b=>?_,fun x b=>by rw[C];exact zL _ (A.g2 x b),fun y H E k f=>?_,fun x b=>?_,fun y H E k f=>?_,fun x b=>by rw[Q]at b;rw[G];exact A.t1 x b,by rw[Q];exact A.tn,?_,by rw[G];have:=A.ln;lia,by rw[Q];have:=A.lt;lia⟩⟩⟩
     ·simp[fH,bN,dr]
     ·rw[C,zZ,zM]at b
      rcases b with b|b
      ·rcases A.g1 x b with h|⟨y,H,k,f⟩
       ·exact .inl h
       ·exact .inr ⟨y,H,by lia,f⟩
      ·exact .inr ⟨i,z,by lia,hz,u,by rw[b,sp]⟩
     ·rw[C,zZ,zM]
      by_cases e:y=i
      ·subst e;exact .inr (by rw[sp])
      ·exact .inl (A.g3 y H oM k f)
     ·rw[G]at b
      obtain⟨y,H,k,f⟩:=A.n1 x b;exact⟨y,H,by lia,f⟩
     ·rw[G]
      by_cases e:y=i
      ·subst e;rw[hz]at k;cases k;rw[u]at f;cases f
      ·exact A.n2 y H oM k f
     ·rw[C,zV];have:=A.lg;simp;lia
    ·have tq:∀x∈T.tn,x∈T.nl\/x=T.s (RR.length+i):=fun x b=>.inl (by rw[Q]at b;rw[G];exact A.t1 x b)
     obtain⟨s3,W,s4,e3,e4⟩:=vR q R2 I2 hp (by rw[Q];exact A.tn) fun x b=>by rw[Q]at b;exact lst x (A.t1 x b)
     refine⟨_,.rt (.tup [.str "never",.fz (iL W)]) s4,rfl,aj es ?_,.inr ⟨_,s4,rfl,_,rfl,.inl ⟨⟨W,rfl⟩,nev T I2 C G tq U low hr (fun _=>by rw[Q,U];exact nt)⟩⟩⟩;rw[W?]at e3;simp[fH,bN,dr,e3,e4]) (sl:=[Is nn,Zs (gv.map Gv.av),Ls goal,Rs 1,Is (m:Int),Á,Á,Á,Á]) (st:=N) ⟨2,_,_,Á,Á,Á,rfl,R1,A0⟩
 have ei:eO [bO,cG,bG,aL,ai,bC,bB,aS,cF] (.es (.v 1) (.bin .Sub (.v 4) (.bi .len (.cons (.v 1) .nil)))) [Is nn,Zs (gv.map Gv.av),Ls goal,Rs 1,Is (m:Int),Á,Á,Á,Á] N=À (⟨fD RR.length (gv.map Gv.av),[]⟩,N):=by
  have k:(m:Int)-(gv.length:Int)=(RR.length:Int):=by lia
  have f:Û RR.length 1000000=Â:=yK oM;simp[xK,bI,eV,k];lia
 rcases loop with⟨sl',st2,e2,a,P,S,x5,x6,x7,rfl,R,A⟩|⟨v,st2,e2,t,Q,hA⟩
 ·rw[show(fD RR.length (gv.map Gv.av)).length=gv.length by unfold fD;simp]at A
  refine aA (sl':=[Is nn,Zs (gv.map Gv.av),Ls goal,Rs 1,Is (m:Int),x5,x6,x7,Á]) (st':=st2) (by rw[jV,ei,Ã];exact e2) ?_;have hp:m<RR.length+gv.length+1:=by lia
  have spg:S.s m=w+m:=A.un m oM hp;have ng:S.s m∉S.gd:=fun h=>by rcases A.g1 _ h with h|⟨y,_,h,_,_,f⟩<;>lia
  obtain⟨r,e3,n,a3,rows3,R3,K,o,sp3,h3⟩:=FA q.B R A.mi hp ng;have A3:AI w RR.length gv (ak RR gv goal) gv.length n:=by
   refine⟨o,fun x k f=>?_,by rw[K.gd];exact A.g1,by rw[K.gd];exact A.g2,by rw[K.gd];exact A.g3,by rw[K.nl];exact A.n1,by rw[K.nl];exact A.n2,by rw[K.tn,K.nl];exact A.t1,by rw[K.tn];exact A.tn,by rw[K.gd];exact A.lg,by rw[K.nl];exact A.ln,by rw[K.tn];exact A.lt⟩;have:x=m:=by lia
   subst this;rw[sp3,spg]
  have P3:=o.shp;have lst:∀x∈n.tn,x<w+(RR.length+gv.length+1):=fun x b=>by
   obtain⟨y,_,h,_,_,f⟩:=A3.n1 _ (A3.t1 x b);lia
  obtain⟨r1,r2⟩:=r;dsimp only at R3 h3
  have tb:∀X,GX n w w (RR.length+gv.length+1) X->Kp w RR gv (gI X) n.d/\val w goal (gI X)=- n.t m w:=fun X D=>by
   have:=A3.vert Z (c:=w) oM (fun h=>by lia) (X:=gI X) D.at_ (fun j hj h=>by
    rw[yG oM];exact D.no _ h fun i B=>ä (o.pm.hs j i hj B)) (fun i B C=>o.fea.g i B C)
   rw[yH rfl,<- hm]at this;exact this
  rcases h3 with⟨rfl,hr⟩|⟨M,rfl,hr,htn⟩
  ·refine aA (sl':=[Is nn,Zs (gv.map Gv.av),Ls goal,Rs 1,Is (m:Int),x5,x6,x7,À .non]) (st':=r2) (by simp[R.ins,e3]) ?_
   obtain⟨z,e4,X,T,W,D,hT,hl,hW,hz⟩:=Cg (m:=RR.length+gv.length) (p:=m) R3 o q.B oM A3.tn lst q.hw oM q.HA q.H oM;obtain⟨z1,z2⟩:=z;dsimp only at hz;have gb:∀x∈X,x.natAbs<2^2500:=lU fun i B=>by
    rw[D.len]at B;by_cases h:∃y,y<RR.length+gv.length+1/\n.s y=i
    ·obtain⟨y,E,rfl⟩:=h
     rw[D.at_ y E B];exact(q.B.bd2 o).2 y E w oM
    ·rw[D.no i B fun y E z=>h ⟨y,E,z⟩];exact Ô _
   refine⟨(z1,z2),by simp[e4],z1,by rw[hz];rfl,.inr (.inl ⟨- n.t m w,n.d,_,_,_,_,hz,o.lin.pos,⟨by rw[â];exact(q.B.bd2 o).2 m oM w oM,(q.B.bd2 o).1⟩,TbS.of D.len o.lin.pos ⟨gb,(q.B.bd2 o).1⟩ (tb X D).1 (tb X D).2,fun Y e he F=>?_⟩)⟩;obtain⟨f1,f2⟩:=A3.of Z F;have d:=o.dual hp (hr.1 rfl) (fun x b=>.inl (A3.t1 x b)) (Y:=Y) (e:=e) (fun j hj h=>by
    rcases o.fea.f j hj with k|k
    ·exact f1 _ k
    ·exact absurd k h) (fun j hj h=>f2 _ h)
   have hnt:n.s m∉n.tn:=fun z=>by
    obtain⟨y,_,h,_,_,f⟩:=A3.n1 _ (A3.t1 _ z);rw[sp3,spg]at f;lia
   rw[yG hnt,sp3,spg,hm,fy A8 (by rw[zH];exact Z.o),qv,yP,ĥ,<- hm]at d;have e5:n.d*- val w goal Y=- (val w goal Y*n.d):=by grind
   have e6:- n.t m w*e=- (n.t m w*e):=by grind
   lia
  ·refine aA (sl':=[Is nn,Zs (gv.map Gv.av),Ls goal,Rs 1,Is (m:Int),x5,x6,x7,Is (M:Int)]) (st':=r2) (by simp[R.ins,e3]) ?_
   obtain⟨q1,q2,q3,_⟩:=hr.2 M rfl;obtain⟨X,T,st4,e4,eT,D,R4⟩:=C2 R3 P3 o.pm (q.B.bd o) q.HA oM oM;subst eT;have gb:∀c,c<w+1->∀X,GX n w c (RR.length+gv.length+1) X->∀x∈X,x.natAbs<2^2500:=fun c hc X D=>lU fun i B=>by
    rw[D.len]at B;by_cases h:∃y,y<RR.length+gv.length+1/\n.s y=i
    ·obtain⟨y,E,rfl⟩:=h
     rw[D.at_ y E B];exact(q.B.bd2 o).2 y E c hc
    ·rw[D.no i B fun y E z=>h ⟨y,E,z⟩];exact Ô _
   obtain⟨X2,st5,e5,O⟩:=JF R4 P3 o.pm (q.B.bd o) q.HA oM oM q1;obtain⟨V,hV⟩:∃V,V=if n.h M<w then X2.set (n.h M) n.d else X2:=⟨_,rfl⟩
   rw[<- hV]at e5;have hVl:V.length=w:=by rw[hV];split<;>simp[O.len]
   have hVb:∀x∈V,x.natAbs<2^2500:=fun x b=>by
    rw[hV]at b;split at b
    ·rcases ö b with h|h
     ·exact gb M oM X2 O x h
     ·rw[h];exact(q.B.bd2 o).1
    ·exact gb M oM X2 O x b
   have hVx:∀x,x<w->gI V x=if x=n.h M then n.d else gI X2 x:=fun x b=>by
    rw[hV];by_cases h:n.h M<w
    ·rw[yH h,qN (by rw[O.len];exact h)]
    ·rw[yG h,yG oM]
   obtain⟨g',hg',eg⟩:=xE V;refine⟨(.tup [.str "endless",.tup [.fz (iL ((am (X++[n.d])).take w)),.int (gI (am (X++[n.d])) w)],.fz (iL (am V))],st5),by simp[e4,e5],_,rfl,.inr (.inr ⟨_,_,_,rfl,(TbS.of D.len o.lin.pos ⟨gb w oM X D,(q.B.bd2 o).1⟩ (tb X D).1 (tb X D).2).1,⟨by rw[ja,hVl],lU fun i _=>t9 (Ô _) hVb i⟩,?_⟩)⟩
   have:=A3.vert Z (c:=M) oM (fun _=>q2) (X:=fun x=>if x=n.h M then n.d else gI X2 x) (fun i B U=>by
    rw[yG (ä (o.pm.hs M i q1 B))];exact O.at_ i B U) (fun j hj h=>by
    by_cases e:j=M
    ·subst e;rw[yH rfl,yH rfl]
    ·rw[yG fun z=>e (o.pm.hi j M hj q1 z),yG e]
     exact O.no _ h fun i B=>ä (o.pm.hs j i hj B)) (fun i B C=>by have:=htn.1 rfl i B C;lia)
   rw[yG oM,<- hm]at this;have ew:∀x,x<w->(if x=n.h M then n.d else gI X2 x)=g'*gI (am V) x:=fun x b=>by rw[<- eg,hVx x b]
   refine⟨this.1.div hg' (by rw[yO]) ew,?_⟩;have e2:=this.2;rw[kK ew]at e2;have:g'*val w goal (gI (am V))<0:=by rw[e2];lia
   rcases yU (val w goal (gI (am V))) 0 with h|h
   ·exact h
   ·have:=Ý (Ă hg') h;lia
 ·refine⟨(v,st2),?_,t,Q,hA⟩
  refine bS ?_;rw[jV,ei,Ã];exact e2
end
noncomputable def RR2:List (List Int):=[[0,-1,1],[-1,0,1],[1,1,-1]]
noncomputable def Mx:Nat->List Int
 |1=>[1,0,1]
 |2=>[0,1,1]
 |_=>[1,1,1]
noncomputable def RR3:List (List Int):=[[0,0,0,0,0,-1,1],[0,0,0,0,-1,0,1],[0,0,-1,0,0,0,1],[1,1,-1,0,0,0,0],[0,0,0,-1,1,1,-1],[1,0,0,1,-1,0,0],[0,-1,1,0,0,1,-1],[0,1,0,1,0,-1,0],[-1,0,1,0,1,0,-1]]
noncomputable def Mw:Nat->List Int
 |1=>[1,0,0,1,0,0,1,0,0]
 |2=>[0,1,0,1,0,0,0,0,1]
 |3=>[1,1,0,1,0,0,1,0,1]
 |4=>[0,0,1,0,0,1,0,0,1]
 |5=>[1,0,1,1,0,0,1,0,1]
 |6=>[0,1,1,1,0,0,1,0,1]
 |_=>[1,1,1,1,0,0,1,0,1]
noncomputable def mk(w p m:Nat):List Int:=(É w).map fun i=>if p.testBit i then 1 else if m.testBit i then -1 else 0
def RR4:List (List Int):=[(16384,8192),(16384,4096),(16384,1024),(16384,64),(3,4),(48,72),(768,1152),(12288,18432),(9,16),(36,66),(2304,4224),(9216,16896),(129,256),(516,1026),(2064,4104),(8256,16416),(10,32),(20,65),(2560,8320),(5120,16640),(130,512),(260,1025),(2080,8200),(4160,16400),(136,2048),(272,4097),(544,8194),(1088,16388)].map fun z:Nat×Nat=>mk 15 z.1 z.2
def Mv(g:Nat):List Int:=mk 28 ([33297,8519698,8552979,134349060,134382101,142737942,142770711,136318984,136348185,142745626,142770715,142754060,142770717,142770718,142770719].getD (g-1) 0) 0
theorem dB(a:rfs args=Â)(h:((fn args []).bind fun p=>dG p.2 p.1)=À t):pm fn args st=À (t,st):=by
 obtain⟨p,c,b⟩:=zA h;exact aO a c b
def Od(b:Int)(w nr:Nat)(HO:Nat->List Int):Bool:=(É w).all fun g=>(match (c9 [.int b,.int ((g+1:Nat):Int),.int 0] []).bind fun p=>dG p.2 p.1 with
 |some a=>rf a&&(match (eI [.int b,a] []).bind fun p=>dG p.2 p.1 with
  |some x=>db x (.fz (iL (HO (g+1))))
  |none=>Ä)
 |none=>Ä)&&((HO (g+1)).length==nr&&(HO (g+1)).all fun x=>Û x.natAbs 15)
theorem sP{f:Int}{w nr:Nat}{HO:Nat->List Int}(h:Od f w nr HO=Â):HOk f w nr HO:=by
 have at_:∀a:Nat,1<=a->a<=w->(∃e,(∀b,pm c9 [.int f,.int a,.int 0] b=À (e,b))/\∀b,pm eI [.int f,e] b=À (.fz (iL (HO a)),b))/\(HO a).length=nr/\∀x∈HO a,x.natAbs<=15:=fun a d c=>by
  obtain⟨g,rfl⟩:∃g,a=g+1:=⟨a-1,by lia⟩;have h:=yQ.mp h g (Ö.mpr oM);simp only[zC]at h;obtain⟨i,o,n⟩:=h;refine⟨?_,yJ o,fun x l=>zS (yQ.mp n x l)⟩;split at i
  ·rename_i e p
   simp only[zC]at i;obtain⟨m,j⟩:=i;split at j
   ·rename_i x k
    rw[wE j]at k;exact⟨e,fun b=>dB rfl p,fun b=>dB (by simp[rfs,rf,m]) k⟩
   ·cases j
  ·cases i
 exact⟨fun a d c=>(at_ a d c).1,fun a d c=>(at_ a d c).2.1,fun a d c=>(at_ a d c).2.2⟩
theorem OH:∀st,pm ah [.int 2] st=À (.int ((3:Nat):Int),st):=fun st=>dB rfl (by kernel_rfl)
theorem OG:∀st,pm ah [.int 3] st=À (.int ((7:Nat):Int),st):=fun st=>dB rfl (by kernel_rfl)
theorem OE:∀st,pm ah [.int 4] st=À (.int ((15:Nat):Int),st):=fun st=>dB rfl (by kernel_rfl)
theorem Oy:∀st,pm aN [.int 2] st=À (.fz (aD RR2),st):=fun st=>dB rfl (by kernel_rfl)
theorem Ow:∀st,pm aN [.int 3] st=À (.fz (aD RR3),st):=fun st=>dB rfl (by kernel_rfl)
theorem Ov:∀st,pm aN [.int 4] st=À (.fz (aD RR4),st):=fun st=>dB rfl (by kernel_rfl)
theorem OC:HOk 2 3 RR2.length Mx:=sP (by kernel_rfl)
theorem OB:HOk 3 7 RR3.length Mw:=sP (by kernel_rfl)
theorem OA:HOk 4 15 RR4.length Mv:=sP (by kernel_rfl)
noncomputable def RR1:List (List Int):=[[1]]
noncomputable def My:Nat->List Int:=fun _=>[1]
theorem OI:∀st,pm ah [.int 1] st=À (.int ((1:Nat):Int),st):=fun st=>dB rfl (by kernel_rfl)
theorem Oz:∀st,pm aN [.int 1] st=À (.fz (aD RR1),st):=fun st=>dB rfl (by kernel_rfl)
theorem OD:HOk 1 1 RR1.length My:=sP (by kernel_rfl)
noncomputable def M0:Nat:=2^120
theorem Jk{w:Nat}(o:w<=15)(t:RR.length<=100)(s:gv.length<=100)(k:∀l∈RR,∀x∈l,x.natAbs<=M0)(c:∀z∈gv,(∀x∈z.row,x.natAbs<=M0)/\z.num.natAbs<=M0)(j:∀x∈goal,x.natAbs<=M0):Bnd w (RR.length+gv.length+1) (v0 w (ak RR gv goal)):=by
 refine⟨⟨M0,Ϟ,fun q x n=>?_,?_⟩,by lia,by lia⟩
 ·have i:1<=M0:=Ϟ
  unfold v0;split
  ·split<;>simp[i]
  ·unfold gI
   rw[zD,zD];cases e:(ak RR gv goal)[q-w]? with
   |none=>simp
   |some l =>
    have b:=zW e;simp only[Ϥ];cases m:l[x]? with
    |none=>simp
    |some y =>
     have a:=zW m;simp only[Ϥ];unfold ak at b;simp only[zZ,yC,zM]at b;rcases b with(⟨r,g,rfl⟩|⟨z,hz,rfl⟩)|rfl
     ·rcases zZ.mp a with h|h
      ·exact k r g y h
      ·rw[zM.mp h];simp
     ·rcases zZ.mp a with h|h
      ·exact(c z hz).1 y h
      ·rw[zM.mp h,â];exact(c z hz).2
     ·rcases zZ.mp a with h|h
      ·obtain⟨u,d,rfl⟩:=yC.mp h
       rw[â];exact j u d
      ·rw[zM.mp h];simp
 ·have f:SX.fct (w+1)<=2^45:=(by decide:∀w,w<16->SX.fct (w+1)<=2^45) w oM
  have p:M0^(w+1)<=2^1920:=by
   unfold M0;rw[<- Nat.pow_mul];exact å dC oM
  refine yL (ύ f p) ?_;rw[<- Ţ];exact ĉ dC dC
def kR(a:List Int)(RR:List (List Int))(x:Nat):Int:=((a.zip RR).map fun z=>z.1*gI z.2 x).sum
theorem v6{w:Nat}{Y:Nat->Int}:∀(cs:List Int)(RR:List (List Int)),PD w (fun x=>kR cs RR x*Y x)=((cs.zip RR).map fun z=>z.1*val w z.2 Y).sum
 |[],_=>by simp[kR];exact SX.sum_zero fun _ _=>rfl
 |_::_,[]=>by simp[kR];exact SX.sum_zero fun _ _=>rfl
 |c::cs,r::RR=>by
  rw[ĝ,zO,ú,<- v6 cs RR];unfold val;rw[<- SX.sum_mul,<- SX.sum_add];refine SX.sum_congr fun x _=>?_
  show kR (c::cs) (r::RR) x*Y x=_;have:kR (c::cs) (r::RR) x=c*gI r x+kR cs RR x:=by simp[kR]
  rw[this];grind
theorem Il{w:Nat}{Y:Nat->Int}{a:List Int}{RR:List (List Int)}(e:∀c∈a,0<=c)(h:∀r∈RR,0<=val w r Y):0<=((a.zip RR).map fun z=>z.1*val w z.2 Y).sum:=by
 have:∀l:List (Int×List Int),(∀z∈l,0<=z.1/\0<=val w z.2 Y)->0<=(l.map fun z=>z.1*val w z.2 Y).sum:=fun l=>by
  induction l with
  |nil=>intro _;simp
  |cons z l b =>
   intro h;rw[zO,ú];have g:=Ý (h z z7).1 (h z z7).2;have f:=b fun y d=>h y (zQ _ d)
   lia
 exact this _ fun z hz=>⟨e _ (ì hz).1,h _ (ì hz).2⟩
def LX(w:Nat)(RR:List (List Int))(HO:Nat->List Int):Bool:=(É w).all fun g=>(HO (g+1)).all (fun c=>decide (0<=c))&&(É w).all fun x=>kR (HO (g+1)) RR x==if x=g then 1 else 0
theorem xo{w:Nat}{RR:List (List Int)}{HO:Nat->List Int}(a:LX w RR HO=Â):∀Y:Nat->Int,(∀r∈RR,0<=val w r Y)->∀x,x<w->0<=Y x:=fun Y h g d=>by
 have a:=yQ.mp a g (Ö.mpr d);rw[zC]at a;have f:∀c∈HO (g+1),0<=c:=fun c f=>of_decide_eq_true (yQ.mp a.1 c f)
 have b:∀x,x<w->kR (HO (g+1)) RR x=if x=g then 1 else 0:=fun x b=>yJ (yQ.mp a.2 x (Ö.mpr b))
 have e:=v6 (w:=w) (Y:=Y) (HO (g+1)) RR;rw[SX.sum_one d fun x j i=>by rw[b x j,yG i,yP],b g d,yH rfl,Ϗ]at e;rw[e];exact Il f h
def gK(n:Nat):Prop:=n=1\/n=2\/n=3\/n=4
def jq(n:Nat):List (List Int):=if n=1 then RR1 else if n=2 then RR2 else if n=3 then RR3 else RR4
def Mu(n:Nat):Nat->List Int:=if n=1 then My else if n=2 then Mx else if n=3 then Mw else Mv
theorem N5{n:Nat}{gv:List Gv}{goal:List Int}(b:gK n)(c:gv.length<=100)(g:∀z∈gv,z.row.length=2^n-1/\(∀x∈z.row,x.natAbs<=M0)/\z.num.natAbs<=M0)(f:goal.length=2^n-1/\∀x∈goal,x.natAbs<=M0):Qu n (2^n-1) (jq n) (Mu n) gv goal:=by
 have h:∀l∈jq n,l.length=2^n-1/\∀x∈l,x.natAbs<=1:=by rcases b with rfl|rfl|rfl|rfl<;>decide +kernel
 have d:(jq n).length<=100:=by rcases b with rfl|rfl|rfl|rfl<;>decide
 have a:2^n-1<=15:=by rcases b with rfl|rfl|rfl|rfl<;>decide
 have k:1<=M0:=Ϟ;have j:LX (2^n-1) (jq n) (Mu n)=Â:=by rcases b with rfl|rfl|rfl|rfl<;>kernel_rfl
 have B:=Jk a d c (fun l e x i=>z5 ((h l e).2 x i) k) (fun z hz=>(g z hz).2) f.2;have Z:Sz (2^n-1) (jq n) gv goal:=⟨fun l e=>(h l e).1,fun z hz=>(g z hz).1,f.1,xo j⟩;rcases b with rfl|rfl|rfl|rfl
 ·exact⟨Oz,OI,OD,Z,a,d,c,B⟩
 ·exact⟨Oy,OH,OC,Z,a,d,c,B⟩
 ·exact⟨Ow,OG,OB,Z,a,d,c,B⟩
 ·exact⟨Ov,OE,OA,Z,a,d,c,B⟩
theorem Js{a:Int}{w:Nat}{RR:List (List Int)}{HO:Nat->List Int}{gv:List Gv}{goal:List Int}(q:Qu a w RR HO gv goal):∃t,(∀st,pm hU [.int a,.fz (gv.map Gv.av),.fz (iL goal)] st=À (t,st))/\ye w RR gv goal t:=by
 obtain⟨z,e,t,h,A⟩:=CI q;exact⟨t,fun st=>aO rfl e h,A⟩
section
variable{ks:List Fn}{sl:Sl}{st:aa}{ss:PP}{P:AV×aa->Prop}
theorem dw{s:Sx}{v:AV}{st':aa}(h:cZ ks s sl st=À (.rt v st'))(a:P (v,st')):∃r,(ae ks (.cons s ss) sl st).bind au=À r/\P r:=⟨_,bS h,a⟩
theorem j9{α:Type}{em:α->AV}{it:Ix}{t:Tg}{b:PP}{xs:List α}{gd:Gd}{st0:aa}(I:Nat->Sl->aa->Prop)(k:eO ks it sl st=À (⟨xs.map em,gd⟩,st0))(l:∀i sl st,I i sl st->cx gd st=Â)(m:I 0 sl st0)
  (h:∀i x sl st,xs[i]?=À x->I i sl st->∃p sl2 st2,cj ks t (em x) sl st=À p/\ae ks b p.1 p.2=À (.nx sl2 st2)/\I (i+1) sl2 st2)
  (f:∀sl' st',I xs.length sl' st'->∃r,(ae ks ss sl' st').bind au=À r/\P r):∃r,(ae ks (.cons (.fo it t b) ss) sl st).bind au=À r/\P r:=by
 obtain⟨sl',st',e,a⟩:=fj (gd:=gd) (g:=cj ks t) (s:=ae ks b) (I:=I) (xs:=xs.map em) (fun i sl st _ a=>l i sl st a) (fun i y sl st c a=>by
  rw[zR]at c;obtain⟨x,d,rfl⟩:=zE.mp c;exact h i x sl st d a) m
 rw[zH]at a;obtain⟨r,n,j⟩:=f sl' st' a;exact⟨r,af (by rw[jV,k,Ã];exact e) n,j⟩
theorem CO{α:Type}{em:α->AV}{it:Ix}{t:Tg}{b:PP}{xs:List α}{gd:Gd}{st0:aa}{Q:Out->Prop}(I:Nat->Sl->aa->Prop)(k:eO ks it sl st=À (⟨xs.map em,gd⟩,st0))(l:∀i sl st,I i sl st->cx gd st=Â)(m:I 0 sl st0)
  (h:∀i x sl st,xs[i]?=À x->I i sl st->∃p sl2 st2,cj ks t (em x) sl st=À p/\ae ks b p.1 p.2=À (.nx sl2 st2)/\I (i+1) sl2 st2)
  (f:∀sl' st',I xs.length sl' st'->∃r,ae ks ss sl' st'=À r/\Q r):∃r,ae ks (.cons (.fo it t b) ss) sl st=À r/\Q r:=by
 obtain⟨sl',st',e,a⟩:=fj (gd:=gd) (g:=cj ks t) (s:=ae ks b) (I:=I) (xs:=xs.map em) (fun i sl st _ a=>l i sl st a) (fun i y sl st c a=>by
  rw[zR]at c;obtain⟨x,d,rfl⟩:=zE.mp c;exact h i x sl st d a) m
 rw[zH]at a;obtain⟨r,n,j⟩:=f sl' st' a;exact⟨r,aj (by rw[jV,k,Ã];exact e) n,j⟩
theorem fU{s:Sx}{sl':Sl}{st':aa}{Q:Out->Prop}(h:cZ ks s sl st=À (.nx sl' st'))(a:∃r,ae ks ss sl' st'=À r/\Q r):∃r,ae ks (.cons s ss) sl st=À r/\Q r:=by
 obtain⟨r,e,q⟩:=a;exact⟨r,aj h e,q⟩
end
theorem F9{f:AV->AV->Option AV}{h:Nat->Nat->Nat} (t:∀x:Nat,x<16->∀y:Nat,y<16->(match f (.int x) (.int y) with
  |some (.int b)=>decide (b=(h x y:Int))
  |_=>Ä)=Â) {x y:Nat} (c:x<16) (a:y<16):f (.int (x:Int)) (.int (y:Int))=À (.int (h x y:Int)):=by
 have t:=t x c y a;split at t
 ·rename_i b e
  rw[of_decide_eq_true t]at e;exact e
 ·cases t
section
variable{st:aa}{os:List Nat}{n g k j:Nat}{D:List Int}
theorem qF{x y:Nat}(b:x<16)(a:y<16):bh .BitOr st (.int (x:Int)) (.int (y:Int))=À (.int ((x ||| y:Nat):Int)):=by
 show bh .BitOr [] (.int (x:Int)) (.int (y:Int))=_;exact F9 (f:=bh .BitOr []) (h:=fun x y=>x ||| y) (by decide +kernel) b a
theorem xf{ks:List Fn}{a:Ex}{sl:Sl}{n:Nat}(h:ev ks a sl st=À (.int (n:Int),st))(b:n<=1000):eO ks (.r1 a) sl st=À (⟨(É n).map fun q:Nat=>AV.int (q:Int),[]⟩,st):=by
 show(ev ks a sl st).bind _=_;rw[h,Ã];dsimp only;have:fW (n:Int)=Â:=by
  unfold fW;refine yK ?_;rw[Ĥ];by_cases hz:n=0
  ·subst hz;decide
  ·exact yY ((Ċ hz).mpr (yL b dC))
 rw[yH this,Ϫ,sJ];rfl
theorem jR{ks:List Fn}{a e:Ex}{sl:Sl}{y:AV}{xs:List AV}{k:Nat}(f:ev ks a sl st=À (.ref k,st))(d:ev ks e sl st=À (y,st))(b:st[k]?=À (.lst xs))(c:xs.length<=1000):cZ ks (.ex (.mt .app a (.cons e .nil))) sl st=À (.nx sl (st.set k (.lst (xs++[y])))):=by
 simp[qf,vU,vT,f,vB,ci b,d,tZ,jK,b,cH c]
theorem kS{α:Type}{ks:List Fn}{k:Nat}{it:Ix}{t:Tg}{c:Cx'}{e:Ex}{sl:Sl}{gd:Gd}{em:α->AV}{B:α->Bool}{F:α->AV}{xs:List α}(a:eO ks it sl st=À (⟨xs.map em,gd⟩,st))(b:cx gd st=Â)(hz:xs.length<=1000)
  (h:∀x∈xs,∃sl1,cj ks t (em x) (sl++Æ k Á) st=À (sl1,st)/\kA ks c sl1 st=À (B x,st)/\(B x=Â->ev ks e sl1 st=À (F x,st))):jk ks (.lc k it t c e) sl st=À ((xs.filter B).map F,st):=by
 rw[M9,a,Ã];dsimp only;rw[yH (cH (by rw[zH];exact hz))];exact gT b h
theorem tm{b:Bool}:fH st (.bl b)=À b:=rfl
theorem Ib{m:Nat}{l:List Int}:aP (cw (m+1) st) (iL l)=À (l.map Ϲ):=cJ (f:=cw (m+1) st) (i:=AV.int) (g:=Ϲ) (fun _=>rfl) l
end
section
variable{st:aa}{os:List Nat}{n g k j:Nat}{A B O:PC}{D T:List Int}
theorem Oa{i:Nat}(a:i<T.length):aJ st (.fz (iL T)) (.int (i:Int))=À (.int (SX.gI T i)):=by rw[dj dI,cV,cz a]
theorem Mf{z c:Int}(a:gY c=Â)(b:0<c):bh .FloorDiv st (.int z) (.int c)=À (.int (z/c)):=by rw[nq a];exact congrArg (fun q=>À (AV.int q)) (yH b)
theorem Dg{z c:Int}(a:0<c):bh .Mod st (.int z) (.int c)=À (.int (z%c)):=by rw[k9 oM];exact congrArg (fun q=>À (AV.int q)) (yH a)
theorem Kz{l:List Int}:bI eV [.fz (iL l)] st=À (.int ((l.length:Nat):Int),st):=by
 show À (AV.int ((iL l).length:Int),st)=_;rw[gE]
end
section
variable{st:aa}
theorem uV{ns:List Int}{k:Nat}:pm d9 [.fz (iL ns),.int (k:Int)] st=À (.int (SX.gI ns k),st):=by
 refine aO (by simp[rfs,rf,cK]) (v:=.int (SX.gI ns k)) (st':=[]) ?_ rfl;rw[d9,aw];show(ae [] g7 [À (.fz (iL ns)),À (.int (k:Int))] []).bind au=_;by_cases h:k<ns.length
 ·refine bS (s:=.iff _ _ _) ?_
  have c:decide ((k:Int)<((ns.length:Nat):Int))=Â:=yV oM;have a:aJ ([]:aa) (.fz (iL ns)) (.int (k:Int))=À (.int (SX.gI ns k)):=by rw[dj dI,cV,cz h]
  simp[bI,eV,h,a,ka]
 ·have b:SX.gI ns k=0:=by unfold SX.gI;rw[zD,ë oM];rfl
  refine af (sl':=[À (.fz (iL ns)),À (.int (k:Int))]) (st':=[]) ?_ (bS (by rw[b];rfl));simp[bI,eV,h]
theorem jw{a b:Int}(h:a.natAbs<2^62):cS a b=Â:=by
 unfold cS;have:Û a.natAbs.log2 62=Â:=yK (by
  by_cases hz:a.natAbs=0
  ·rw[hz];decide
  ·exact yY ((Ċ hz).mpr h))
 rw[this];simp
theorem Df{a b:Int}(h:b.natAbs<2^62):cS a b=Â:=by
 unfold cS;have:Û b.natAbs.log2 62=Â:=yK (by
  by_cases hz:b.natAbs=0
  ·rw[hz];decide
  ·exact yY ((Ċ hz).mpr h))
 rw[this];simp
theorem pX{a b:Int}(h:0<b):ux a b=a%b:=yH h
theorem Dq{a b:Int}(h:0<b):ww a b=a/b:=yH h
theorem lW{a:Int}{b:Nat}(h:0<b):∃r:Nat,a%(b:Int)=(r:Int)/\r<b:=by
 have d:=Ź a (b:=(b:Int)) oM;have c:=ř a (b:=(b:Int)) oM;exact⟨(a%(b:Int)).toNat,by lia,by lia⟩
theorem JQ{k:Nat}{l:List Nat}(h:st[k]?=À (.lst (nL l))):dG st (.ref k)=À (.fz (nL l)):=by
 show bE 6 st (.ref k)=_;unfold bE;have:aP (bE 5 st) (nL l)=À (nL l):=cJ (f:=bE 5 st) (i:=fun q:Nat=>AV.int (q:Int)) (g:=fun q:Nat=>AV.int (q:Int)) (fun x=>rfl) l;simp only[h,this,Ì]
theorem sL:bh .Pow st (.int 10) (.int 18)=À (.int 1000000000000000000):=by kernel_rfl
theorem wz{c:Int}{many base:Nat}(hm:many<=100)(P:0<base)(C:base<2^62):∃D:List Nat,pm ao [.int c,.int (many:Int),.int (base:Int)] st=À (.fz (nL D),st)/\D.length=many/\∀x∈D,x<base:=by
 have K:(base:Int)≠0:=by lia
 have I:(0:Int)<(base:Int):=by lia
 have J:gY (base:Int)=Â:=p7 K (zJ (by rw[Ĥ];exact C) (å dC dC));have B:∃r,ao [.int c,.int (many:Int),.int (base:Int)] []=À r/\∃D:List Nat,r=(.ref 0,[.lst (nL D)])/\D.length=many/\∀x∈D,x<base:=by
  rw[ao,aw];show ∃r,(ae [] jo [À (.int c),À (.int (many:Int)),À (.int (base:Int)),Á,Á,Á,Á] []).bind au=À r/\_;refine aA (sl':=[À (.int c),À (.int (many:Int)),À (.int (base:Int)),À (.ref 0),Á,Á,Á]) (st':=[.lst []]) rfl ?_;refine aA (sl':=[À (.int c),À (.int (many:Int)),À (.int (base:Int)),À (.ref 0),À (.int c),Á,Á]) (st':=[.lst []]) rfl ?_;refine j9 (xs:=É many) (em:=fun q:Nat=>AV.int (q:Int)) (fun i L st=>∃l w f D,L=[À (.int c),À (.int (many:Int)),À (.int (base:Int)),À (.ref 0),À (.int l),w,f]/\st=[.lst (nL D)]/\D.length=i/\∀x∈D,x<base) (xf (n:=many) rfl oM) (fun _ _ _ _=>rfl) ⟨c,Á,Á,[],rfl,rfl,rfl,by simp⟩ (fun i x L st O F=>?_) fun sl' st' F=>?_
  ·obtain⟨l,w,f,D,rfl,rfl,t,s⟩:=F
   have hi:i<many:=by have:=(zB.mp O).1;simpa using this
   have ex:x=i:=by have:=(zB.mp O).2;simpa using this.symm
   subst ex;by_cases p:1000000000000000000<=(if c<0 then -c else c)/\l≠0/\l≠-1
   ·obtain⟨r,o,g⟩:=lW (a:=l) (b:=base) P
    refine⟨_,[À (.int c),À (.int (many:Int)),À (.int (base:Int)),À (.ref 0),À (.int (l/(base:Int))),À (.int (x:Int)),f],[.lst (nL (D++[r]))],rfl,?_,_,_,_,_,rfl,rfl,by simp[t],fun z hz=>?_⟩
    ·refine aj (sl':=[À (.int c),À (.int (many:Int)),À (.int (base:Int)),À (.ref 0),À (.int (l/(base:Int))),À (.int (x:Int)),f]) (st':=[.lst (nL (D++[r]))]) ?_ rfl
     have A:tv [] (.an (.cmp .GtE (.bi .abs (.cons (.v 0) .nil)) (.bin .Pow (.i 10) (.i 18))) (.an (.cmp .NotEq (.v 4) (.i 0)) (.cmp .NotEq (.v 4) (.un .USub (.i 1))))) [À (.int c),À (.int (many:Int)),À (.int (base:Int)),À (.ref 0),À (.int l),À (.int (x:Int)),f] [.lst (nL D)]=À (Â,[.lst (nL D)]):=by
      simp[bI,lb,sL,p.1,p.2.1,p.2.2,iY]
     show(u? (tv [] _ [À (.int c),À (.int (many:Int)),À (.int (base:Int)),À (.ref 0),À (.int l),À (.int (x:Int)),f] [.lst (nL D)]) _)=_;rw[A,Ã];dsimp only;rw[yH rfl];refine aj (jR (k:=0) (xs:=nL D) (y:=.int (r:Int)) rfl (by simp[k9 K,pX I];exact o) rfl (by simp;lia)) ?_;refine aj (sl':=[À (.int c),À (.int (many:Int)),À (.int (base:Int)),À (.ref 0),À (.int (l/(base:Int))),À (.int (x:Int)),f]) (st':=[.lst (nL (D++[r]))]) ?_ rfl;have H:nL D++[AV.int (r:Int)]=nL (D++[r]):=by unfold nL;simp
     simp[nq J,Dq I,H]
    ·rcases zZ.mp hz with h|h
     ·exact s z h
     ·rw[zM.mp h];exact g
   ·obtain⟨a,E,Z⟩:=lW (a:=(c+1009)*69621+7919*(x:Int)) (b:=2147483629) dC
    obtain⟨b,j,Y⟩:=lW (a:=(a:Int)*(a:Int)+17*(x:Int)+5) (b:=2147483629) dC;obtain⟨d,hd,X⟩:=lW (a:=(b:Int)*(b:Int)) (b:=2147483587) dC;obtain⟨r,o,g⟩:=lW (a:=(d:Int)/64) (b:=base) P;have two:(2:Nat)^62=4611686018427387904:=by decide
    refine⟨_,[À (.int c),À (.int (many:Int)),À (.int (base:Int)),À (.ref 0),À (.int l),À (.int (x:Int)),À (.int (b:Int))],[.lst (nL (D++[r]))],rfl,?_,_,_,_,_,rfl,rfl,by simp[t],fun z hz=>?_⟩
    ·refine aj (sl':=[À (.int c),À (.int (many:Int)),À (.int (base:Int)),À (.ref 0),À (.int l),À (.int (x:Int)),À (.int (b:Int))]) (st':=[.lst (nL (D++[r]))]) ?_ rfl
     have A:tv [] (.an (.cmp .GtE (.bi .abs (.cons (.v 0) .nil)) (.bin .Pow (.i 10) (.i 18))) (.an (.cmp .NotEq (.v 4) (.i 0)) (.cmp .NotEq (.v 4) (.un .USub (.i 1))))) [À (.int c),À (.int (many:Int)),À (.int (base:Int)),À (.ref 0),À (.int l),À (.int (x:Int)),f] [.lst (nL D)]=À (Ä,[.lst (nL D)]):=by
      by_cases m:1000000000000000000<=(if c<0 then -c else c)
      ·by_cases u:l=0
       ·simp[bI,lb,sL,m,u,iY]
       ·have G:l=-1:=ñ fun G=>p ⟨m,u,G⟩
        simp[bI,lb,sL,m,G,iY]
      ·simp[bI,lb,sL,m,iY]
     show(u? (tv [] _ [À (.int c),À (.int (many:Int)),À (.int (base:Int)),À (.ref 0),À (.int l),À (.int (x:Int)),f] [.lst (nL D)]) _)=_;rw[A,Ã];dsimp only;rw[yG dC];have W:cS (c+1009) 69621=Â:=Df dC;have m2:cS 7919 (x:Int)=Â:=jw dC;have m3:cS (a:Int) (a:Int)=Â:=jw oM;have V:cS 17 (x:Int)=Â:=jw dC;have U:cS (b:Int) (b:Int)=Â:=jw oM;have E:((c+1009)*69621+7919*(x:Int))%2147483629=(a:Int):=E;have j:((a:Int)*(a:Int)+17*(x:Int)+5)%2147483629=(b:Int):=j;have hd:((b:Int)*(b:Int))%2147483587=(d:Int):=hd;have o:((d:Int)/64)%(base:Int)=(r:Int):=o;have N:(2147483629:Int)≠0:=by decide
     have T:(2147483587:Int)≠0:=by decide
     have S:=K;have M:(0:Int)<2147483629:=by decide
     have R:(0:Int)<2147483587:=by decide
     have Q:=I;have dv:gY 64=Â:=by decide
     refine aj (sl':=[À (.int c),À (.int (many:Int)),À (.int (base:Int)),À (.ref 0),À (.int l),À (.int (x:Int)),À (.int (a:Int))]) (st':=[.lst (nL D)]) (by simp [b9 W,b9 m2,k9 N,pX M,E]) ?_;refine aj (sl':=[À (.int c),À (.int (many:Int)),À (.int (base:Int)),À (.ref 0),À (.int l),À (.int (x:Int)),À (.int (b:Int))]) (st':=[.lst (nL D)]) (by simp [b9 m3,b9 V,k9 N,pX M,j]) ?_;refine (aj (jR (k:=0) (xs:=nL D) (y:=.int (r:Int)) rfl (by simp [b9 U,k9 T,k9 S,pX R,pX Q,hd,nq dv,Dq (show (0:Int) < 64 by decide),o]) rfl (by simp;lia)) rfl).trans ?_;have H:nL D++[AV.int (r:Int)]=nL (D++[r]):=by unfold nL;simp
     rw[H];rfl
    ·rcases zZ.mp hz with h|h
     ·exact s z h
     ·rw[zM.mp h];exact g
  ·obtain⟨l,w,f,D,rfl,rfl,t,s⟩:=F
   refine dw (v:=.ref 0) (st':=[.lst (nL D)]) rfl ⟨D,rfl,by simpa using t,s⟩
 obtain⟨r,e,D,rfl,m,u⟩:=B;refine⟨D,aO rfl e (JQ rfl),m,u⟩
end
section
variable{st:aa}
theorem Dk{l:List Int}:lsI st (.fz (iL l))=À l:=by
 unfold lsI;rw[dI,Ã];unfold mX;rw[show iL l=l.map AV.int from rfl,cJ (i:=AV.int) (g:=id) (fun _=>rfl),List.map_id]
theorem xT:∀l:List Gv,rfs (l.map Gv.av)=Â:=fun l=>eF fun x a=>by
 obtain⟨z,_,rfl⟩:=yC.mp a;simp[Gv.av,rf,rfs,cK]
variable{w:Nat}{RR:List (List Int)}{gv:List Gv}{X Y Z:Nat->Int}{e:Int}{goal:List Int}
theorem mQ{r:List Int}:val w r (fun x=>X x+Z x)=val w r X+val w r Z:=by
 unfold val;rw[<- SX.sum_add];exact SX.sum_congr fun x _=>by grind
theorem Kp.add(h:Kp w RR gv X e)(c:Kp w RR gv Z 0):Kp w RR gv (fun x=>X x+Z x) e:=by
 refine⟨fun r d=>?_,fun z hz a=>?_,fun z hz a=>?_⟩
 ·have:=h.rule r d;have:=c.rule r d;rw[mQ];lia
 ·have f:=h.eq z hz a;have b:=c.eq z hz a;rw[mQ];rw[yO]at b;lia
 ·have f:=h.ge z hz a;have b:=c.ge z hz a;rw[mQ];rw[yO]at b;lia
theorem Ii{T d:Int}(hd:0<d):∃q:Int,0<q/\T=gI (am [T,d]) 0*q/\d=gI (am [T,d]) 1*q/\0<gI (am [T,d]) 1:=by
 have a:gL [T,d]=ÿ T.natAbs d.natAbs:=by
  show ÿ (ÿ 0 T.natAbs) d.natAbs=_;rw[Nat.gcd_zero_left]
 have g:0<ÿ T.natAbs d.natAbs:=Nat.gcd_pos_of_pos_right _ oM;have e:am [T,d]=[T/(ÿ T.natAbs d.natAbs:Int),d/(ÿ T.natAbs d.natAbs:Int)]:=by
  unfold am;rw[yG (by rw[a];lia),a];rfl
 have f:((ÿ T.natAbs d.natAbs:Nat):Int) ∣ T:=k?.mp (Ű.mpr (V! _ _));have b:((ÿ T.natAbs d.natAbs:Nat):Int) ∣ d:=k?.mp (Ű.mpr (U! _ _));rw[e];refine⟨(ÿ T.natAbs d.natAbs:Nat),by lia,(ϗ f).symm,(ϗ b).symm,?_⟩;show 0<d / _;have c:=ϗ b;rcases U2 0 (d/((ÿ T.natAbs d.natAbs:Nat):Int)) with h|h|h
 ·exact h
 ·rw[<- h]at c;lia
 ·have:=p? h (show (0:Int) < ((ÿ T.natAbs d.natAbs:Nat):Int) by lia);lia
theorem pi{a b:Int}{m n:Nat}(d:a.natAbs<2^m)(c:b.natAbs<2^n):(a*b).natAbs<2^(m+n):=by
 rw[yZ,Ţ];exact Nat.mul_lt_mul'' d c
theorem Ai{a b:Int}{m:Nat}(d:a.natAbs<2^m)(c:b.natAbs<2^m):(a+b).natAbs<2^(m+1):=by
 rw[F?];generalize 2^m=q at *;lia
theorem Dc{a b q:Int}{m:Nat}(h:b=a*q)(d:0<q)(c:b.natAbs<2^m):a.natAbs<2^m:=by
 refine yL ?_ c;rw[h,yZ];exact Nat.le_mul_of_pos_right _ oM
end
section
variable{nn:Int}{st:aa}{w:Nat}{RR:List (List Int)}{HO:Nat->List Int}{gv:List Gv}{r X Z goal:List Int}{Y:Nat->Int}{e D num:Int}
theorem Gn(n:Nat)(f:Nat->Int):PD (n+1) f=f 0+PD n fun i=>f (i+1):=by
 induction n with
 |zero=>simp[PD]
 |succ n a=>rw[PD,a,PD];lia
theorem qA:∀(r X:List Int),r.length=X.length->((r.zip X).map fun z=>z.1*z.2).sum=PD r.length fun x=>gI r x*gI X x
 |[],_,_=>rfl
 |x::r,[],h=>by simp at h
 |x::r,y::X,h=>by
  rw[ĝ,zO,ú,qA r X (by simpa using h),yX,Gn];rfl
theorem mP(a:r.length=w)(h:X.length=w)(g:w<=15)(d:∀x∈r,x.natAbs<2^9000)(f:∀x∈X,x.natAbs<2^9000):pm cA [.fz (iL r),.fz (iL X)] st=À (.int (val w r (gI X)),st):=by
 have e:=kS (st:=[]) (ks:=[]) (k:=2) (it:=.zi (.v 0) (.v 1)) (t:=.tu 2 (.cons (.nm 2) (.cons (.nm 3) .nil))) (c:=.no) (e:=.bin .Mult (.v 2) (.v 3)) (sl:=[Ls r,Ls X]) (gd:=[]) (em:=fun z:Int×Int=>AV.tup [.int z.1,.int z.2]) (xs:=r.zip X) (B:=fun _=>Â) (F:=fun z=>AV.int (z.1*z.2)) (by
  rw[<- oU];rfl) rfl (by rw[ą];lia) fun z hz=>by
   have:=ì hz
   exact⟨[Ls r,Ls X,Is z.1,Is z.2],rfl,rfl,fun _=>by simp[b9 (c6 (d _ this.1) (f _ this.2))]⟩
 rw[Ú.mpr (fun _ _=>rfl),show(r.zip X).map (fun z=>AV.int (z.1*z.2))=iL ((r.zip X).map fun z=>z.1*z.2) by unfold iL;rw[ß];rfl]at e;have b:ev [] (.nw Ä (.lc 2 (.zi (.v 0) (.v 1)) (.tu 2 (.cons (.nm 2) (.cons (.nm 3) .nil))) .no (.bin .Mult (.v 2) (.v 3)))) [Ls r,Ls X] []=À (.fz (iL ((r.zip X).map fun z=>z.1*z.2)),[]):=by
  rw[du,e,Ã,yH cK]
 refine aO (by simp[rfs,rf,cK]) (v:=.int (val w r (gI X))) (st':=[]) ?_ rfl;rw[cA,aw];show(ae [] qS [Ls r,Ls X] []).bind au=_;refine bS ?_;simp only[qD,oy,aQ,ba,b,Ã,AW,bI,qB,Dk,Ì];rw[qA r X oM,a];rfl
theorem yh{M N:Nat}(d:r.length=w)(j:X.length=w)(a:w<=15)(b:∀x∈r,x.natAbs<2^M)(c:∀x∈X,x.natAbs<2^N):(val w r (gI X)).natAbs<2^(M+N+4):=by
 have h:=SX.abs_sum (n:=w) (f:=fun x=>gI r x*gI X x) (M:=2^(M+N)) fun i g=>by
  rw[yZ,Ţ];exact ύ (yY (mZ b (Ô _) i)) (yY (mZ c (Ô _) i))
 have k:w*2^(M+N)<=15*2^(M+N):=ό _ a;have e:=Ô (M+N);unfold val;rw[Ţ _ (M+N)];generalize 2^(M+N)=B at *;lia
theorem Kp.scale{c:Int}(b:0<=c)(h:Kp w RR gv Y 0):Kp w RR gv (fun x=>c*Y x) 0:=by
 have e:∀r,val w r (fun x=>c*Y x)=c*val w r Y:=fun r=>kK fun _ _=>rfl
 refine⟨fun r d=>?_,fun z hz a=>?_,fun z hz a=>?_⟩
 ·rw[e];exact Ý b (h.rule r d)
 ·rw[e,h.eq z hz a,yO,yO]
 ·rw[e,yO]
  have:=h.ge z hz a
  rw[yO]at this;exact Ý b this
theorem fP{x:Int}{M:Nat}(h:x.natAbs<2^M)(a:M<=9000):x.natAbs<2^9000:=zJ h (å dC a)
theorem Kw{a b:Int}:bI qH [.int a,.int b] st=À (.int (max a b),st):=by
 have:bI qH [.int a,.int b] st=À (.int (if b > a then b else a),st):=rfl;rw[this];congr 3;split<;>lia
structure A5(w:Nat)(RR:List (List Int))(gv:List Gv)(X:List Int)(D:Int):Prop where
 len:X.length=w
 pos:0<D
 bd:(∀x∈X,x.natAbs<2^9000)/\D.natAbs<2^9000
 kp:Kp w RR gv (gI X) D
theorem TbS.f(h:TbS w RR gv X D):A5 w RR gv X D:=⟨h.len,h.pos,⟨fun x a=>fP (h.bd.1 x a) dC,fP h.bd.2 dC⟩,h.kp⟩
theorem FM(A:w<=15)(G:r.length=w)(I:∀x∈r,x.natAbs<2^121)(bn:num.natAbs<2^121)(T:TbS w RR gv X D)(hZ:Z.length=w/\∀x∈Z,x.natAbs<2^2500)(KZ:Kp w RR gv (gI Z) 0)(hn:val w r (gI Z)<0) :
  ∃V E,(∀st,pm eE [.tup [.fz (iL X),.int D],.fz (iL Z),.fz (iL r),.int num] st=À (.tup [.fz (iL V),.int E],st))/\A5 w RR gv V E/\val w r (gI V)<num*E:=by
 obtain⟨Y,N,⟨R,n⟩,KX⟩:=T;obtain⟨Zl,J⟩:=hZ;have bx:=yh G Y A I R;have bz:=yh G Zl A I J;have vx:=fun st=>mP (st:=st) G Y A (fun x h=>fP (I x h) dC) (fun x h=>fP (R x h) dC)
 have vz:=fun st=>mP (st:=st) G Zl A (fun x h=>fP (I x h) dC) (fun x h=>fP (J x h) dC)
 generalize M:val w r (gI X)=U at *;generalize L:val w r (gI Z)=y at *;obtain⟨f,p⟩:∃f,f=U-num*D:=⟨_,rfl⟩;obtain⟨fl,m⟩:∃fl,fl=- y*D:=⟨_,rfl⟩;have m1:cS num D=Â:=c6 (fP bn dC) (fP n dC);have m2:cS (- y) D=Â:=c6 (by rw[â];exact fP bz dC) (fP n dC);have O:0<fl:=by rw[m];exact P0 oM N
 have Q:fl.natAbs<2^5125:=by
  have:=pi (a:=- y) (b:=D) (by rw[â];exact bz) n
  rw[m];exact this
 have bab:f.natAbs<2^2627:=by
  have q:=pi bn n;have o:U.natAbs<2^2626:=zJ bx (å dC dC);have h3:(- (num*D)).natAbs<2^2626:=by rw[â];exact zJ q (å dC dC)
  have:=Ai o h3
  rw[p,Int.sub_eq_add_neg];exact this
 obtain⟨s,C⟩:∃s,s=max 0 (f/fl+1):=⟨_,rfl⟩;have s0:0<=s:=by rw[C];lia
 have bs:s.natAbs<2^2629:=by
  have q:(f/fl).natAbs<=f.natAbs+1:=by
   have:=Int.natAbs_ediv_le_natAbs f fl
   lia
  have o:(2:Nat)^2629=2^2627*4:=by rw[show(4:Nat)=2^2 from rfl,<- Ţ]
  have h3:=Ô 2627;rw[C,o];generalize (2:Nat)^2627=B at *;lia
 have u:=pi bs n;have m3:cS s D=Â:=c6 (fP bs dC) (fP n dC);have dv:gY fl=Â:=p7 oM (fP Q dC);obtain⟨V,H⟩:∃V,V=(X.zip Z).map fun z=>z.1+s*D*z.2:=⟨_,rfl⟩
 have W:V.length=w:=by rw[H,zH,ą];lia
 have S:∀x∈V,x.natAbs<2^9000:=fun x j=>by
  rw [H] at j;obtain ⟨z,hz,rfl⟩:=yC.mp j;obtain ⟨z1,z2⟩:=ì hz;have q:=pi u (J _ z2);have o:=Ai (zJ (R _ z1) (å dC (show 2500 <= 2629 + 2500 + 2500 by decide))) q;exact fP o dC
 have gV:∀x,x<w->gI V x=gI X x+s*D*gI Z x:=fun x j=>by rw[H,SX.gI_zip oM oM]
 have KV:Kp w RR gv (gI V) D:=by
  have h:=KX.add (KZ.scale (Ý s0 (Ă N)));exact h.div (g:=1) dC oM fun x j=>by rw[gV x j,Ϗ]
 have K:val w r (gI V)<num*D:=by
  have e1:val w r (gI V)=U+s*D*y:=by
   rw[<- M,<- L];unfold val;rw[<- SX.sum_mul,<- SX.sum_add];exact SX.sum_congr fun x j=>by rw[gV x j];grind
  have q:=Int.lt_ediv_add_one_mul_self f O;have o:(f/fl+1)*fl<=s*fl:=Õ (by rw[C];lia) (Ă O);have e2:s*D*y=- (s*fl):=by rw[m];grind
  lia
 obtain⟨g,hg,ed,P,ll,hp,K'⟩:=TbS.low W N ⟨S,fP n dC⟩ KV;have b2:=t9 (l:=V++[D]) (Ô 9000) fun x j=>by
  rcases zZ.mp j with h|h
  ·exact S x h
  ·rw[zM.mp h];exact fP n dC
 refine⟨(am (V++[D])).take w,gI (am (V++[D])) w,fun st=>?_,⟨ll,hp,⟨lU fun i hi=>?_,b2 w⟩,K'⟩,?_⟩
 ·have lt:=Ak (X:=V) (d:=D) oM S (fP n dC)
  rw[W]at lt;have lt:pm bF [.fz (iL V),.int D] []=À (.tup [.fz (iL ((am (V++[D])).take w)),.int (gI (am (V++[D])) w)],[]):=aO (by simp[rfs,rf,cK]) lt rfl;refine aO (by simp[rfs,rf,cK]) (v:=.tup [.fz (iL ((am (V++[D])).take w)),.int (gI (am (V++[D])) w)]) (st':=[]) ?_ rfl;have i0:aJ [] (.tup [.fz (iL X),.int D]) (.int 0)=À (.fz (iL X)):=rfl;have i1:aJ [] (.tup [.fz (iL X),.int D]) (.int 1)=À (.int D):=rfl;rw[eE,aw];show(ae [cA,bF] fT [À (.tup [.fz (iL X),.int D]),Ls Z,Ls r,Is num,Á,Á,Á,Á] []).bind au=_;unfold fT;refine af (sl':=[À (.tup [.fz (iL X),.int D]),Ls Z,Ls r,Is num,Is D,Á,Á,Á]) (st':=[]) (by simp[i1]) ?_;refine af (sl':=[À (.tup [.fz (iL X),.int D]),Ls Z,Ls r,Is num,Is D,Is f,Á,Á]) (st':=[]) (by simp[i0,vx,b9 m1,p]) ?_;refine af (sl':=[À (.tup [.fz (iL X),.int D]),Ls Z,Ls r,Is num,Is D,Is f,Is fl,Á]) (st':=[]) (by simp[vz,b9 m2,m,iY]) ?_;refine af (sl':=[À (.tup [.fz (iL X),.int D]),Ls Z,Ls r,Is num,Is D,Is f,Is fl,Is s]) (st':=[]) (by simp[Mf dv O,Kw,<- C]) (bS ?_);have e:=kS (st:=[]) (ks:=[cA,bF]) (k:=2) (it:=.zi (.ix (.v 0) (.i 0)) (.v 1)) (t:=.tu 2 (.cons (.nm 8) (.cons (.nm 9) .nil))) (c:=.no) (e:=.bin .Add (.v 8) (.bin .Mult (.bin .Mult (.v 7) (.v 4)) (.v 9))) (sl:=[À (.tup [.fz (iL X),.int D]),Ls Z,Ls r,Is num,Is D,Is f,Is fl,Is s]) (gd:=[]) (em:=fun z:Int×Int=>AV.tup [.int z.1,.int z.2]) (xs:=X.zip Z) (B:=fun _=>Â) (F:=fun z=>AV.int (z.1+s*D*z.2)) (by
   rw[<- oU];rfl) rfl (by rw[ą];lia) fun z hz=>by
    have:=ì hz
    exact⟨[À (.tup [.fz (iL X),.int D]),Ls Z,Ls r,Is num,Is D,Is f,Is fl,Is s,Is z.1,Is z.2],rfl,rfl,fun _=>by simp[b9 m3,b9 (c6 (fP u dC) (fP (J _ this.2) dC))]⟩
  rw[Ú.mpr (fun _ _=>rfl),show(X.zip Z).map (fun z=>AV.int (z.1+s*D*z.2))=iL V by rw[H];unfold iL;rw[ß];rfl]at e;have e2:ev [cA,bF] (.nw Ä (.lc 2 (.zi (.ix (.v 0) (.i 0)) (.v 1)) (.tu 2 (.cons (.nm 8) (.cons (.nm 9) .nil))) .no (.bin .Add (.v 8) (.bin .Mult (.bin .Mult (.v 7) (.v 4)) (.v 9))))) [À (.tup [.fz (iL X),.int D]),Ls Z,Ls r,Is num,Is D,Is f,Is fl,Is s] []=À (.fz (iL V),[]):=by
   rw[du,e,Ã,yH cK]
  simp only[qD,fV,aQ,ba,e2,cq,bR,bQ,Ã,Ì,fR,fY,gC,lt]
 ·rw[qO oM];exact b2 i
 ·rw[P r]at K
  generalize (am (V++[D])).take w=V' at *;generalize gI (am (V++[D])) w=E at *;rw[ed]at K;exact Int.lt_of_mul_lt_mul_left (a:=g) (by rw[show g*(num*E)=num*(g*E) by grind];exact K) (Ă hg)
end
section
variable{nn:Int}{st:aa}{w:Nat}{RR:List (List Int)}{HO:Nat->List Int}{gv:List Gv}{r X Z goal:List Int}{Y:Nat->Int}{e D num:Int}{z:Gv}
inductive Pp where
 |nv (W:List Int)
 |by_ (K:Int) (W:List Int)
def Pp.av:Pp->AV
 |.nv W=>.tup [.str "never",.fz (iL W)]
 |.by_ K W=>.tup [.str "by",.int K,.fz (iL W)]
theorem Kg{n:Nat}(p:Pp):bE (n+1) st p.av=À p.av:=by cases p<;>(cases n<;>rfl)
theorem Kh{k:Nat}{ps:List Pp}(h:st[k]?=À (.lst (ps.map Pp.av))):dG st (.tup [.bl Â,.ref k])=À (.tup [.bl Â,.fz (ps.map Pp.av)]):=by
 have e:aP (bE 4 st) (ps.map Pp.av)=À (ps.map Pp.av):=cJ (f:=bE 4 st) (i:=Pp.av) (g:=Pp.av) (fun p=>Kg p) ps;show(aP (bE 5 st) [.bl Â,.ref k]).map AV.tup=_;have b:bE 5 st (.ref k)=À (.fz (ps.map Pp.av)):=by
  show(match st[k]? with
  |some (.lst a)=>(aP (bE 4 st) a).map AV.fz
  |some (.al t)=>À t
  |_=>Á)=_
  rw[h];simp only[e,Ì]
 simp only[aP,b,show bE 5 st (.bl Â)=À (.bl Â) from rfl,Ã,Ì]
def FU(w:Nat)(RR:List (List Int))(gv:List Gv)(r:List Int)(num:Int)(t:AV):Prop :=
 (∃p:Pp,t=.tup [.bl Â,p.av]/\∀Y e,0<e->Kp w RR gv Y e->num*e<=val w r Y) \/
 ∃V E,t=.tup [.bl Ä,.tup [.fz (iL V),.int E]]/\A5 w RR gv V E/\val w r (gI V)<num*E
theorem Nt(q:Qu nn w RR HO gv r)(br:∀x∈r,x.natAbs<2^121)(P:num.natAbs<2^121):∃t,(∀st,pm bt [.int nn,.fz (gv.map Gv.av),.fz (iL r),.int num] st=À (t,st))/\FU w RR gv r num t:=by
 obtain⟨t,H,A⟩:=Js q;have H:=H [];have z:∃j,bt [.int nn,.fz (gv.map Gv.av),.fz (iL r),.int num] []=À j/\∃t,dG j.2 j.1=À t/\FU w RR gv r num t:=by
  rw[bt,aw];show ∃j,(ae [hU,eE] eP [Is nn,Zs (gv.map Gv.av),Ls r,Is num,Á] []).bind au=À j/\_;unfold eP;refine aA (sl':=[Is nn,Zs (gv.map Gv.av),Ls r,Is num,À t]) (st':=[]) (by simp[H]) ?_;rcases A with⟨⟨W,rfl⟩,h⟩|⟨T,d,X,D,K,W,rfl,hd,⟨bT,bd⟩,⟨o,I⟩,h⟩|⟨X,D,Z,rfl,o,hZ,KZ,Q⟩
  ·refine dw (v:=.tup [.bl Â,.tup [.str "never",.fz (iL W)]]) (st':=[]) ?_ ⟨_,rfl,.inl ⟨.nv W,rfl,fun Y e n K=>absurd K (h Y e n)⟩⟩
   have g:aJ [] (.tup [.str "never",.fz (iL W)]) (.int 0)=À (.str "never"):=rfl;have eq:bg .Eq [] (.str "never") (.str "never")=À Â:=by kernel_rfl
   simp[g,eq,ka]
  ·obtain⟨c,G,l,k,N⟩:=Ii (T:=T) hd
   have bp:=Dc l G bT;have bq:=Dc k G bd;generalize gI (am [T,d]) 0=p at *;generalize gI (am [T,d]) 1=b at *;obtain⟨u,f⟩:∃u,u=AV.tup [.str "least",.tup [.int p,.int b],.tup [.fz (iL X),.int D],.int K,.fz (iL W)]:=⟨_,rfl⟩;have g:aJ [] u (.int 0)=À (.str "least"):=by rw[f];rfl
   have m:aJ [] u (.int 1)=À (.tup [.int p,.int b]):=by rw[f];rfl
   have B:aJ [] u (.int 2)=À (.tup [.fz (iL X),.int D]):=by rw[f];rfl
   have i3:aJ [] u (.int 3)=À (.int K):=by rw[f];rfl
   have U:aJ [] u (.int 4)=À (.fz (iL W)):=by rw[f];rfl
   have M:aJ [] (.tup [.int p,.int b]) (.int 0)=À (.int p):=rfl;have L:aJ [] (.tup [.int p,.int b]) (.int 1)=À (.int b):=rfl;have y:bg .Eq [] (.str "least") (.str "never")=À Ä:=by kernel_rfl
   have s:bg .Eq [] (.str "least") (.str "endless")=À Ä:=by kernel_rfl
   have J:bh .Mult [] (.int num) (.int b)=À (.int (num*b)):=b9 (c6 (fP P dC) (fP bq dC));rw[<- f];refine aA (sl':=[Is nn,Zs (gv.map Gv.av),Ls r,Is num,À u]) (st':=[]) (by simp[g,y]) ?_;refine aA (sl':=[Is nn,Zs (gv.map Gv.av),Ls r,Is num,À u]) (st':=[]) (by simp[g,s]) ?_;by_cases C:p<num*b
   ·refine dw (v:=.tup [.bl Ä,.tup [.fz (iL X),.int D]]) (st':=[]) (by simp[m,B,M,L,J,C,ka]) ⟨_,rfl,.inr ⟨X,D,rfl,o.f,?_⟩⟩
    rw[l,k]at I;have S:val w r (gI X)*b=p*D:=Ř (a:=c) oM (by rw[show val w r (gI X)*b*c=val w r (gI X)*(b*c) by grind,I];grind);have h2:p*D<num*b*D:=Int.mul_lt_mul_of_pos_right C o.pos;exact Int.lt_of_mul_lt_mul_right (a:=b) (by rw[S,show num*D*b=num*b*D by grind];exact h2) (Ă N)
   ·refine aA (sl':=[Is nn,Zs (gv.map Gv.av),Ls r,Is num,À u]) (st':=[]) (by simp[m,M,L,J,C]) ?_
    refine dw (v:=.tup [.bl Â,.tup [.str "by",.int K,.fz (iL W)]]) (st':=[]) (by simp[i3,U]) ⟨_,rfl,.inl ⟨.by_ K W,rfl,fun Y e n KY=>?_⟩⟩;have O:=h Y e n KY;rw[l,k]at O;have h4:p*e<=val w r Y*b:=Ą (a:=c) (by rw[show p*e*c=p*c*e by grind,show val w r Y*b*c=val w r Y*(b*c) by grind];exact O) G;have h5:num*b*e<=p*e:=Õ oM (Ă n);exact Ą (a:=b) (by rw[show num*e*b=num*b*e by grind];lia) N
  ·obtain⟨V,E,i,TV,R⟩:=FM (num:=num) q.hw q.Z.o br P o hZ KZ Q
   have i:=i [];obtain⟨u,f⟩:∃u,u=AV.tup [.str "endless",.tup [.fz (iL X),.int D],.fz (iL Z)]:=⟨_,rfl⟩;have g:aJ [] u (.int 0)=À (.str "endless"):=by rw[f];rfl
   have m:aJ [] u (.int 1)=À (.tup [.fz (iL X),.int D]):=by rw[f];rfl
   have B:aJ [] u (.int 2)=À (.fz (iL Z)):=by rw[f];rfl
   have y:bg .Eq [] (.str "endless") (.str "never")=À Ä:=by kernel_rfl
   have s:bg .Eq [] (.str "endless") (.str "endless")=À Â:=by kernel_rfl
   rw[<- f];refine aA (sl':=[Is nn,Zs (gv.map Gv.av),Ls r,Is num,À u]) (st':=[]) (by simp[g,y]) ?_;refine dw (v:=.tup [.bl Ä,.tup [.fz (iL V),.int E]]) (st':=[]) (by simp[g,m,B,s,i,ka]) ⟨_,rfl,.inr ⟨V,E,rfl,TV,R⟩⟩
 obtain⟨j,l,t,k,F⟩:=z;exact⟨t,fun st=>aO (by simp[rfs,rf,cK,xT]) l k,F⟩
noncomputable def ph(l:List Int):List Int:=l.map fun x=>- x
def iX(z:Gv):List Gv:=⟨z.row,Ä,z.num⟩::if z.eq=Â then [⟨ph z.row,Ä,- z.num⟩] else []
theorem MA(o:z.row.length<=1000):pm aY [z.av] st=À (.fz ((iX z).map Gv.av),st):=by
 obtain⟨r,b,d⟩:=z;have o:r.length<=1000:=o;have v:∀st,aJ st (Gv.av ⟨r,b,d⟩) (.int 0)=À (.fz (iL r)):=fun _=>rfl
 have j:∀st,aJ st (Gv.av ⟨r,b,d⟩) (.int 1)=À (.str (if b=Â then "=" else ">")):=fun _=>rfl
 have q:∀st,aJ st (Gv.av ⟨r,b,d⟩) (.int 2)=À (.int d):=fun _=>rfl
 have m:∀st,bg .Eq st (.str (if b=Â then "=" else ">")) (.str "=")=À b:=fun st=>by cases b<;>kernel_rfl
 obtain⟨u,w⟩:∃u,u=Gv.av ⟨r,b,d⟩:=⟨_,rfl⟩;have D:rf u=Â:=by rw[w];simp[Gv.av,rf,rfs,cK]
 rw[<- w]at v j q ⊢;have n:∃st',aY [u] []=À (.ref 0,st')/\st'[0]?=À (.lst ((iX ⟨r,b,d⟩).map Gv.av)):=by
  rw[aY,aw];unfold f7;have A:∀{x y},(ae [] x [À u,Ls r,Is d,Rs 0] [.lst [Gv.av ⟨r,Ä,d⟩]]).bind au=À y->(ae [] (.cons (.as (.ix (.v 0) (.i 0)) (.nm 1)) (.cons (.as (.ix (.v 0) (.i 2)) (.nm 2)) (.cons (.as (.nw Â (.li (.cons (.tu (.cons (.v 1) (.cons (.s ">") (.cons (.v 2) .nil)))) .nil))) (.nm 3)) x))) [À u,Á,Á,Á] []).bind au=À y:=fun {x y} h=>by
   refine af (sl':=[À u,Ls r,Á,Á]) (st':=[]) (by simp[v]) ?_;refine af (sl':=[À u,Ls r,Is d,Á]) (st':=[]) (by simp[q]) ?_;exact af (sl':=[À u,Ls r,Is d,Rs 0]) (st':=[.lst [Gv.av ⟨r,Ä,d⟩]]) (by simp[dE];rfl) h
  cases b with
  |false =>
   refine⟨[.lst [Gv.av ⟨r,Ä,d⟩]],A (af (sl':=[À u,Ls r,Is d,Rs 0]) (st':=[.lst [Gv.av ⟨r,Ä,d⟩]]) (by
    have m:=m [.lst [Gv.av ⟨r,Ä,d⟩]];have j:=j [.lst [Gv.av ⟨r,Ä,d⟩]];generalize AV.str (if Ä=Â then "=" else ">")=s at m j;simp[j,m]) (bS rfl)),rfl⟩
  |true =>
   refine⟨[.lst [Gv.av ⟨r,Ä,d⟩,Gv.av ⟨ph r,Ä,- d⟩]],A (af (sl':=[À u,Ls r,Is d,Rs 0]) (st':=[.lst [Gv.av ⟨r,Ä,d⟩,Gv.av ⟨ph r,Ä,- d⟩]]) ?_ (bS rfl)),rfl⟩;have m:=m [.lst [Gv.av ⟨r,Ä,d⟩]];have j:=j [.lst [Gv.av ⟨r,Ä,d⟩]];have e:=kS (st:=[.lst [Gv.av ⟨r,Ä,d⟩]]) (ks:=[]) (k:=1) (it:=.e (.v 1)) (t:=.nm 4) (c:=.no) (e:=.un .USub (.v 4)) (sl:=[À u,Ls r,Is d,Rs 0]) (gd:=[]) (em:=AV.int) (xs:=r) (B:=fun _=>Â) (F:=fun x=>AV.int (- x)) rfl rfl o fun x H=>⟨[À u,Ls r,Is d,Rs 0,Is x],rfl,rfl,fun _=>rfl⟩
   rw[Ú.mpr (fun _ _=>rfl),show r.map (fun x=>AV.int (- x))=iL (ph r) by unfold iL ph;rw[ß];rfl]at e;have p:ev [] (.nw Ä (.lc 1 (.e (.v 1)) (.nm 4) .no (.un .USub (.v 4)))) [À u,Ls r,Is d,Rs 0] [.lst [Gv.av ⟨r,Ä,d⟩]]=À (.fz (iL (ph r)),[.lst [Gv.av ⟨r,Ä,d⟩]]):=by
    rw[du,e,Ã,yH cK]
   have G:=jR (ks:=[]) (a:=.v 3) (e:=.tu (.cons (.nw Ä (.lc 1 (.e (.v 1)) (.nm 4) .no (.un .USub (.v 4)))) (.cons (.s ">") (.cons (.un .USub (.v 2)) .nil)))) (y:=Gv.av ⟨ph r,Ä,- d⟩) (k:=0) (xs:=[Gv.av ⟨r,Ä,d⟩]) (sl:=[À u,Ls r,Is d,Rs 0]) (st:=[.lst [Gv.av ⟨r,Ä,d⟩]]) rfl (by
    simp only[wM,aQ,ba,p,Ã,Ì];rfl) rfl (by simp)
   generalize AV.str (if Â=Â then "=" else ">")=s at m j;have C:tv [] (.cmp .Eq (.ix (.v 0) (.i 1)) (.s "=")) [À u,Ls r,Is d,Rs 0] [.lst [Gv.av ⟨r,Ä,d⟩]]=À (Â,[.lst [Gv.av ⟨r,Ä,d⟩]]):=by simp[j,m]
   rw[dF,C,Ã];exact aj G rfl
 obtain⟨st',E,p⟩:=n;refine aO (by simp[rfs,D]) E ?_;have:∀l:List Gv,aP (bE 5 st') (l.map Gv.av)=À (l.map Gv.av):=fun l=>cJ (f:=bE 5 st') (i:=Gv.av) (g:=Gv.av) (fun z=>rfl) l
 show bE 6 st' (.ref 0)=_;unfold bE;simp only[p,this,Ì]
end
section
variable{nn:Int}{st:aa}{w:Nat}{RR:List (List Int)}{HO:Nat->List Int}{gv:List Gv}{Y:Nat->Int}{e:Int}{z:Gv}
def Hd(w:Nat)(z:Gv)(Y:Nat->Int)(e:Int):Prop:=z.num*e<=val w z.row Y/\(z.eq=Â->val w z.row Y=z.num*e)
theorem hd_ups:Hd w z Y e ↔ ∀u∈iX z,u.num*e<=val w u.row Y:=by
 obtain⟨r,b,a⟩:=z;unfold Hd iX;cases b with
 |false=>simp
 |true =>
  have i:val w (ph r) Y=- val w r Y:=qv;have g:- a*e=- (a*e):=Int.neg_mul _ _;constructor
  ·rintro⟨d,c⟩ u f
   have c:=c rfl;dsimp only at d c;rcases zT.mp f with rfl|f
   ·exact d
   ·rw[zM.mp f]
    dsimp only;lia
  ·intro h
   have d:=h _ z7;have c:=h _ (zQ _ (zM.mpr rfl));dsimp only at d c ⊢;exact⟨d,fun _=>by lia⟩
def FS(w:Nat)(RR:List (List Int))(gv:List Gv)(z:Gv)(t:AV):Prop :=
 (∃a:List Pp,t=.tup [.bl Â,.fz (a.map Pp.av)]/\∀Y e,0<e->Kp w RR gv Y e->Hd w z Y e) \/
 ∃V E,t=.tup [.bl Ä,.tup [.fz (iL V),.int E]]/\A5 w RR gv V E/\¬Hd w z (gI V) E
theorem K4(hs:z.row.length<=1000)(C:∀u∈iX z,Qu nn w RR HO gv u.row/\(∀x∈u.row,x.natAbs<2^121)/\u.num.natAbs<2^121):∃t,(∀st,pm eA [.int nn,.fz (gv.map Gv.av),z.av] st=À (t,st))/\FS w RR gv z t:=by
 have hf:∀u∈iX z,u.eq=Ä:=fun u h=>by
  unfold iX at h;rcases zT.mp h with rfl|h
  ·rfl
  ·split at h
   ·rw[zM.mp h]
   ·cases h
 have A:=kz (gd:=[]) (g:=cj [aY,bt] (.tu 3 (.cons (.nm 4) (.cons (.nm 5) (.cons (.nm 6) .nil)))))
  (s:=ae [aY,bt] (.cons (.as (.ca Â 1 (.cons (.v 0) (.cons (.v 1) (.cons (.v 4) (.cons (.v 6) .nil))))) (.nm 7))
 (.cons (.iff (.no (.va (.ix (.v 7) (.i 0))))
 (.cons (.rt (.v 7))
 .nil)
 .nil)
 (.cons (.ex (.mt .app (.v 3) (.cons (.ix (.v 7) (.i 1)) .nil)))
 .nil))))
  (I:=fun i sl st=>∃(f:List Pp)(a b c d:Option AV),st=[.lst (f.map Pp.av)]/\f.length=i/\sl=[Is nn,Zs (gv.map Gv.av),À z.av,Rs 0,a,b,c,d]/\∀j u,j<i->(iX z)[j]?=À u->∀Y e,0<e->Kp w RR gv Y e->u.num*e<=val w u.row Y)
  (Post:=fun v _=>∃V E,v=.tup [.bl Ä,.tup [.fz (iL V),.int E]]/\A5 w RR gv V E/\∃u∈iX z,val w u.row (gI V)<u.num*E) (xs:=(iX z).map Gv.av) (fun _ _ _ _ _=>rfl) (fun i x sl st R L=>by
   obtain⟨f,a,b,c,d,es,S,O,N⟩:=L;subst es;subst O;rw[zR]at R;obtain⟨u,m,rfl⟩:=zE.mp R;have n:=zW m;have hi2:i<2:=by
    have h1:=(zB.mp m).1;have h2:(iX z).length<=2:=by unfold iX;split<;>simp
    lia
   obtain⟨q,b1,b2⟩:=C u n;obtain⟨t,r,F⟩:=Nt q b1 b2;have r:=r [.lst (f.map Pp.av)];obtain⟨l,X,un⟩:=u;have:X=Ä:=hf _ n;subst this;rcases F with⟨p,rfl,hp⟩|⟨V,E,rfl,P,T⟩
   ·have B:∀st,aJ st (.tup [.bl Â,p.av]) (.int 0)=À (.bl Â):=fun _=>rfl
    have Q:∀st,aJ st (.tup [.bl Â,p.av]) (.int 1)=À p.av:=fun _=>rfl
    obtain⟨t,G⟩:∃t,t=AV.tup [.bl Â,p.av]:=⟨_,rfl⟩;rw[<- G]at B Q r;refine⟨([Is nn,Zs (gv.map Gv.av),À z.av,Rs 0,Ls l,À (.str ">"),Is un,d],[.lst (f.map Pp.av)]),.nx [Is nn,Zs (gv.map Gv.av),À z.av,Rs 0,Ls l,À (.str ">"),Is un,À t] [.lst ((f++[p]).map Pp.av)],rfl,?_,.inl ⟨_,_,rfl,f++[p],_,_,_,_,rfl,by simp[S],rfl,fun j u M C Y e H K=>?_⟩⟩
    ·refine aj (sl':=[Is nn,Zs (gv.map Gv.av),À z.av,Rs 0,Ls l,À (.str ">"),Is un,À t]) (st':=[.lst (f.map Pp.av)]) (by simp[r]) ?_
     refine aj (sl':=[Is nn,Zs (gv.map Gv.av),À z.av,Rs 0,Ls l,À (.str ">"),Is un,À t]) (st':=[.lst (f.map Pp.av)]) (by simp[B,tm]) ?_;have ap:=jR (ks:=[aY,bt]) (a:=.v 3) (e:=.ix (.v 7) (.i 1)) (y:=p.av) (k:=0) (xs:=f.map Pp.av) (sl:=[Is nn,Zs (gv.map Gv.av),À z.av,Rs 0,Ls l,À (.str ">"),Is un,À t]) (st:=[.lst (f.map Pp.av)]) rfl (by simp[Q]) rfl (by simp;lia);refine aj ap ?_;show À _=À _;simp
    ·by_cases h:j=i
     ·subst h
      rw[m]at C;obtain rfl:=yD C;exact hp Y e H K
     ·exact N j u oM C Y e H K
   ·have B:∀st,aJ st (.tup [.bl Ä,.tup [.fz (iL V),.int E]]) (.int 0)=À (.bl Ä):=fun _=>rfl
    obtain⟨t,G⟩:∃t,t=AV.tup [.bl Ä,.tup [.fz (iL V),.int E]]:=⟨_,rfl⟩;rw[<- G]at B r;refine⟨([Is nn,Zs (gv.map Gv.av),À z.av,Rs 0,Ls l,À (.str ">"),Is un,d],[.lst (f.map Pp.av)]),.rt t [.lst (f.map Pp.av)],rfl,?_,.inr ⟨_,_,rfl,V,E,G,P,_,n,T⟩⟩;refine aj (sl':=[Is nn,Zs (gv.map Gv.av),À z.av,Rs 0,Ls l,À (.str ">"),Is un,À t]) (st':=[.lst (f.map Pp.av)]) (by simp[r]) ?_;refine oV ?_;simp[B,tm,ka]) (sl:=[Is nn,Zs (gv.map Gv.av),À z.av,Rs 0,Á,Á,Á,Á]) (st:=[.lst []]) ⟨[],_,_,_,_,rfl,rfl,rfl,fun j _ h=>absurd h (Nat.not_lt_zero _)⟩
 have J:∃o,eA [.int nn,.fz (gv.map Gv.av),z.av] []=À o/\∃t,dG o.2 o.1=À t/\FS w RR gv z t:=by
  rw[eA,aw];show ∃o,(ae [aY,bt] jQ [Is nn,Zs (gv.map Gv.av),À z.av,Á,Á,Á,Á,Á] []).bind au=À o/\_;unfold jQ;refine aA (sl':=[Is nn,Zs (gv.map Gv.av),À z.av,Rs 0,Á,Á,Á,Á]) (st':=[.lst []]) rfl ?_;have W:=MA (st:=[.lst []]) hs;have U:eO [aY,bt] (.e (.ca Â 0 (.cons (.v 2) .nil))) [Is nn,Zs (gv.map Gv.av),À z.av,Rs 0,Á,Á,Á,Á] [.lst []]=À (⟨(iX z).map Gv.av,[]⟩,[.lst []]):=by simp[W]
  rcases A with⟨sl',st',D,f,a,b,c,d,rfl,S,rfl,N⟩|⟨v,st',D,V,E,rfl,P,u,n,T⟩
  ·refine aA (sl':=[Is nn,Zs (gv.map Gv.av),À z.av,Rs 0,a,b,c,d]) (st':=[.lst (f.map Pp.av)]) (by rw[jV,U,Ã];exact D) ?_
   refine dw (v:=.tup [.bl Â,.ref 0]) (st':=[.lst (f.map Pp.av)]) rfl ⟨_,Kh rfl,.inl ⟨f,rfl,fun Y e H K=>hd_ups.mpr fun u n=>?_⟩⟩;obtain⟨j,M⟩:=z8 n;exact N j u (by rw[zH];exact(zB.mp M).1) M Y e H K
  ·refine⟨(.tup [.bl Ä,.tup [.fz (iL V),.int E]],st'),bS (by rw[jV,U,Ã];exact D),_,rfl,.inr ⟨V,E,rfl,P,fun h=>?_⟩⟩
   have:=hd_ups.mp h u n
   lia
 obtain⟨o,D,t,e2,F⟩:=J;have Z:rf z.av=Â:=by simp[Gv.av,rf,rfs,cK]
 exact⟨t,fun st=>aO (by simp[rfs,rf,xT,Z]) D e2,F⟩
theorem Nu{n:Nat}(d:gK n)(g:gv.length<=100)(i:∀z∈gv,z.row.length=2^n-1/\(∀x∈z.row,x.natAbs<=M0)/\z.num.natAbs<=M0)(b:z.row.length=2^n-1/\(∀x∈z.row,x.natAbs<=M0)/\z.num.natAbs<=M0):∃t,(∀st,pm eA [.int n,.fz (gv.map Gv.av),z.av] st=À (t,st))/\FS (2^n-1) (jq n) gv z t:=by
 have j:2^n-1<=15:=by rcases d with rfl|rfl|rfl|rfl<;>decide
 have e:M0<2^121:=ĉ dC dC;have a:∀u∈iX z,u.row.length=2^n-1/\(∀x∈u.row,x.natAbs<=M0)/\u.num.natAbs<=M0:=fun u h=>by
  unfold iX at h;rcases zT.mp h with rfl|h
  ·exact b
  ·split at h
   ·rw[zM.mp h]
    refine⟨by simp[ph,b.1],fun x c=>?_,by rw[â];exact b.2.2⟩;obtain⟨y,f,rfl⟩:=yC.mp c;rw[â];exact b.2.1 y f
   ·cases h
 exact K4 oM fun u h=>⟨N5 d g i ⟨(a u h).1,(a u h).2.1⟩,fun x c=>yL ((a u h).2.1 x c) e,yL (a u h).2.2 e⟩
end
section
variable{n w:Nat}{Y:Nat->Int}{ts:List (Nat×Int)}{L:List Int}{a b c k j g:Nat}
noncomputable def HH(Y:Nat->Int)(g:Nat):Int:=if g=0 then 0 else Y (g-1)
def eJ(L:List Int)(t:Nat×Int):List Int:=if t.1=0 then L else L.set (t.1-1) (gI L (t.1-1)+t.2)
def dO(n:Nat)(ts:List (Nat×Int)):List Int:=ts.foldl eJ (Æ (2^n-1) 0)
theorem DU{q:Nat}{x:Int}(c:L.length=w)(a:q<w):val w (L.set q (gI L q+x)) Y=val w L Y+x*Y q:=by
 have e:val w (L.set q (gI L q+x)) Y=PD w fun i=>gI L i*Y i+(if i=q then x*Y q else 0):=SX.sum_congr fun i b=>by
  by_cases h:i=q
  ·subst h;rw[SX.gI_set_at oM,yH rfl];grind
  ·rw[SX.gI_set_ne h,yG h];lia
 rw[e,SX.sum_add,SX.sum_one a fun i _ h=>yG h,yH rfl];rfl
theorem tG{t:Nat×Int}:(eJ L t).length=L.length:=by unfold eJ;split<;>simp
theorem oP:∀(ts:List (Nat×Int))(L:List Int),(ts.foldl eJ L).length=L.length
 |[],_=>rfl
 |t::ts,L=>by rw[ħ,oP ts,tG]
theorem tF:(dO n ts).length=2^n-1:=by unfold dO;rw[oP];simp
theorem uv(b:w+1=2^n):∀(ts:List (Nat×Int))(L:List Int),L.length=w->(∀t∈ts,t.1<2^n)->val w (ts.foldl eJ L) Y=val w L Y+(ts.map fun t=>t.2*HH Y t.1).sum
 |[],L,_,_=>by simp
 |t::ts,L,hL,h=>by
  rw[ħ,uv b ts _ (by rw[tG];exact hL) fun x hx=>h x (zQ _ hx),zO,ú];have ht:=h t z7;have:val w (eJ L t) Y=val w L Y+t.2*HH Y t.1:=by
   unfold eJ HH;by_cases a:t.1=0
   ·rw[yH a,yH a];lia
   ·rw[yG a,yG a,DU hL oM]
  lia
theorem ot(h:∀t∈ts,t.1<2^n):val (2^n-1) (dO n ts) Y=(ts.map fun t=>t.2*HH Y t.1).sum:=by
 have:=Ô n
 unfold dO;rw[uv oM ts _ (by simp) h];have:val (2^n-1) (Æ (2^n-1) 0) Y=0:=SX.sum_zero fun i _=>by rw[uo];exact yP _
 lia
theorem vM{m:Nat}(h:∀t∈ts,t.2.natAbs<=1)(i:ts.length<=m):∀x∈dO n ts,x.natAbs<=m:=by
 have g:∀(ts:List (Nat×Int))(L:List Int)(b:Nat),(∀t∈ts,t.2.natAbs<=1)->(∀x∈L,x.natAbs<=b)->∀x∈ts.foldl eJ L,x.natAbs<=b+ts.length:=fun ts=>by
  induction ts with
  |nil=>intro L b _ h x a;exact h x a
  |cons t ts f =>
   intro L b e d x a
   have:=f (eJ L t) (b+1) (fun y c=>e y (zQ _ c)) (fun y c=>by
    unfold eJ at c;split at c
    ·have:=d y c;lia
    ·rcases ö c with h|h
     ·have:=d y h;lia
     ·have j:(gI L (t.1-1)).natAbs<b+1:=mZ (fun x a=>Ϩ (d x a)) (E? b) _
      have:=e t z7
      rw[h];lia) x a
   rw[yX];lia
 intro x a
 have:=g ts _ 0 h (fun x a=>by rw[List.eq_of_mem_replicate a];decide) x a
 lia
noncomputable def iC(a b c:Nat):List (Nat×Int):=[(a ||| c,1),(b ||| c,1),(a ||| b ||| c,-1),(c,-1)]
def IH(Y:Nat->Int)(a b c:Nat):Int:=HH Y (a ||| c)+HH Y (b ||| c)-HH Y (a ||| b ||| c)-HH Y c
theorem yg(f:a<2^n)(e:b<2^n)(d:c<2^n):val (2^n-1) (dO n (iC a b c)) Y=IH Y a b c:=by
 have i:a ||| c<2^n:=Ñ f d;have h:b ||| c<2^n:=Ñ e d;have g:a ||| b ||| c<2^n:=Ñ (Ñ f e) d;rw[ot (by simp only[iC,zT,zX,or_false];rintro t (rfl|rfl|rfl|rfl)<;>assumption)];simp only[iC,zO,Ğ,ú,v!,IH];lia
def eB(n:Nat):Bool:=(É n).all fun k=>(É n).all fun j=>(É (2^n)).all fun c=>k==j||c.testBit k||c.testBit j||(jq n).contains (dO n (iC (2^k) (2^j) c))
def lB(n:Nat):Bool:=(É n).all fun k=>(jq n).contains (dO n [(2^n-1,1),(2^n-1-2^k,-1)])
theorem Lf(a:gK n):eB n=Â:=by rcases a with rfl|rfl|rfl|rfl<;>decide +kernel
theorem KD(a:gK n):lB n=Â:=by rcases a with rfl|rfl|rfl|rfl<;>decide +kernel
theorem lP(h:c.testBit k=Â):2^k ||| c=c:=by
 apply Nat.eq_of_testBit_eq;intro i;rw[W9,R!];by_cases e:k=i
 ·subst e;simp[h]
 ·simp[e]
theorem DR{x y:Nat}:IH Y (x ||| y) b c=IH Y x b c+IH Y y b (x ||| c):=by
 unfold IH;rw[show x ||| y ||| c=y ||| (x ||| c) by ac_rfl,show x ||| y ||| b ||| c=y ||| b ||| (x ||| c) by ac_rfl,show x ||| b ||| c=b ||| (x ||| c) by ac_rfl];lia
theorem nB:IH Y a b c=IH Y b a c:=by
 unfold IH;rw[_' a b];lia
theorem wL:IH Y 0 b c=0:=by
 unfold IH;rw[P!,P!];lia
theorem kF:IH Y a a c=HH Y (a ||| c)-HH Y c:=by
 unfold IH;rw[Nat.or_self];lia
theorem Fx:∀a,a<16->a=(a &&& 1) ||| ((a &&& 2) ||| ((a &&& 4) ||| (a &&& 8))):=by decide
theorem Cs:∀a,a<16->∀k,k<4->a &&& 2^k=0\/(a &&& 2^k=2^k/\∀n,n<=4->a<2^n->k<n):=by decide
theorem oR{P:Nat->Prop}(d:n<=4)(s:P 0)(r:∀k,k<n->P (2^k))(e:∀x y,x<2^n->y<2^n->P x->P y->P (x ||| y))(l:a<2^n):P a:=by
 have q:(2:Nat)^n<=16:=å (n:=2) dC d;have b:a<16:=by lia
 have c:∀k,k<4->P (a &&& 2^k)/\a &&& 2^k<2^n:=fun k p=>by
  rcases Cs a b k p with h|⟨h,m⟩
  ·rw[h];exact⟨s,Ô n⟩
  ·rw[h];exact⟨r k (m n d l),ĉ dC (m n d l)⟩
 have o:=c 0 dC;have i:=c 1 dC;have g:=c 2 dC;have f:=c 3 dC;rw[Fx a b];have j:=Ñ g.2 f.2;exact e _ _ o.2 (Ñ i.2 j) o.1 (e _ _ i.2 j i.1 (e _ _ g.2 f.2 g.1 f.1))
theorem x8(z:gK n)(h:∀r∈jq n,0<=val (2^n-1) r Y)(H:a<2^n)(l:b<2^n)(d:c<2^n):0<=IH Y a b c:=by
 have u:n<=4:=by unfold gK at z;lia
 have D:∀{k},k<n->2^k<2^n:=fun h=>ĉ dC h
 have E:∀k j c,k<n->j<n->k≠j->c<2^n->0<=IH Y (2^k) (2^j) c:=fun k j c i f A d=>by
  by_cases m:c.testBit k=Â
  ·unfold IH
   rw[lP m,show 2^k ||| 2^j ||| c=2^j ||| (2^k ||| c) by ac_rfl,lP m];lia
  by_cases v:c.testBit j=Â
  ·unfold IH
   rw[lP v,show 2^k ||| 2^j ||| c=2^k ||| (2^j ||| c) by ac_rfl,lP v];lia
  have e:=yQ.mp (yQ.mp (yQ.mp (Lf z) k (Ö.mpr i)) j (Ö.mpr f)) c (Ö.mpr d);simp only[Bool.not_eq_true]at m v;rw[m,v,show(k==j)=Ä from beq_eq_false_iff_ne.mpr A]at e;simp only[q?,H?]at e;rw[<- yg (D i) (D f) d];exact h _ e
 have mono:∀k c,k<n->c<2^n->0<=IH Y (2^k) (2^k) c:=fun k c i d=>by
  have G:∀j c,j<n->j≠k->c<2^n->IH Y (2^k) (2^k) (2^j ||| c)<=IH Y (2^k) (2^k) c:=fun j c f B d=>by
   have:=E k j c i f (ä B) d
   rw[kF,kF];unfold IH at this;rw[show 2^k ||| 2^j ||| c=2^k ||| (2^j ||| c) by ac_rfl]at this;lia
  have au:∀g,g<2^n->g.testBit k=Ä->∀c,c<2^n->IH Y (2^k) (2^k) (g ||| c)<=IH Y (2^k) (2^k) c:=fun g q=>by
   refine oR (P:=fun g=>g.testBit k=Ä->∀c,c<2^n->IH Y (2^k) (2^k) (g ||| c)<=IH Y (2^k) (2^k) c) u (fun _ c _=>by rw[P!];exact Ő _) (fun j f l c d=>G j c f (fun e=>by rw[e,R!]at l;simp at l) d) (fun x y s w p o l c d=>?_) q;rw[W9,Bool.or_eq_false_iff]at l;rw[Nat.or_assoc];exact Ķ (p l.1 _ (Ñ w d)) (o l.2 c d)
  by_cases m:c.testBit k=Â
  ·rw[kF,lP m];lia
  obtain⟨g,q⟩:∃g,g=2^n-1-2^k:=⟨_,rfl⟩;have gl:g<2^n:=by rw[q];exact yL (Nat.sub_le _ _) (Nat.sub_lt (Ô n) dC)
  have C:∀n,n<=4->∀k,k<n->(2^n-1-2^k).testBit k=Ä/\(∀c,c<2^n->c.testBit k=Ä->(2^n-1-2^k) ||| c=2^n-1-2^k)/\2^k ||| (2^n-1-2^k)=2^n-1:=by decide
  obtain ⟨K,J,I⟩:=C n u k i;have L:=au g gl (q ▸ K) c d;rw [q,J c d (by simpa using m),kF,I] at L;have F:=h _ (H?.mp (yQ.mp (KD z) k (Ö.mpr i)));rw [ot (by simp only [zT,zX,or_false];rintro t (rfl | rfl) <;> (dsimp only;lia))] at F;simp only [zO,Ğ,ú,v!] at F;lia
 have one:∀k j c,k<n->j<n->c<2^n->0<=IH Y (2^k) (2^j) c:=fun k j c i f d=>by
  by_cases e:k=j
  ·subst e;exact mono k c i d
  ·exact E k j c i f e d
 have two:∀k b c,k<n->b<2^n->c<2^n->0<=IH Y b (2^k) c:=fun k b c i l=>by
  refine oR (P:=fun b=>∀c,c<2^n->0<=IH Y b (2^k) c) u (fun c _=>by rw[wL];exact Ő _) (fun j f c d=>one j k c f i d) (fun x y s w p o c d=>?_) l c;rw[DR]
  have:=p c d
  have:=o (x ||| c) (Ñ s d)
  lia
 refine oR (P:=fun b=>∀c,c<2^n->0<=IH Y a b c) u (fun c _=>by rw[nB,wL];exact Ő _) (fun j f c d=>two j a c f H d) (fun x y s w p o c d=>?_) l c d;rw[nB,DR,nB (a:=x),nB (a:=y)]
 have:=p c d
 have:=o (x ||| c) (Ñ s d)
 lia
end
section
variable{st:aa}{n a b c:Nat}{ts:List (Nat×Int)}{Y:Nat->Int}
noncomputable def lq(z:Nat×Int):AV:=.tup [.int (z.1:Int),.int z.2]
theorem JG:∀l:List (Nat×Int),rfs (l.map lq)=Â:=fun l=>eF fun x a=>by
 obtain⟨z,_,rfl⟩:=yC.mp a;rfl
theorem C7(e:gK n)(h:∀t∈ts,t.1<2^n):pm dq [.int n,.fz (ts.map lq)] st=À (.fz (iL (dO n ts)),st):=by
 have o:2^n-1<=15:=by rcases e with rfl|rfl|rfl|rfl<;>decide
 have c:∃r,dq [.int n,.fz (ts.map lq)] []=À r/\dG r.2 r.1=À (.fz (iL (dO n ts))):=by
  rw[dq,aw];show ∃r,(ae [ah] fq [Is n,Zs (ts.map lq),Á,Á,Á] []).bind au=À r/\_;unfold fq;refine aA (sl':=[Is n,Zs (ts.map lq),Rs 0,Á,Á]) (st':=[.lst (iL (Æ (2^n-1) 0))]) (by rcases e with rfl|rfl|rfl|rfl<;>kernel_rfl) ?_;refine j9 (em:=lq) (xs:=ts) (gd:=[]) (st0:=[.lst (iL (Æ (2^n-1) 0))]) (fun i b s=>s=[.lst (iL ((ts.take i).foldl eJ (Æ (2^n-1) 0)))]/\∃x y,b=[Is n,Zs (ts.map lq),Rs 0,x,y]) rfl (fun _ _ _ _=>rfl) ⟨rfl,_,_,rfl⟩ ?_ ?_
  ·rintro i ⟨g,m⟩ b s hz ⟨rfl,x,y,rfl⟩
   have j:=h _ (zW hz);have p:((ts.take i).foldl eJ (Æ (2^n-1) 0)).length=2^n-1:=by rw[oP];simp
   have d:(ts.take (i+1)).foldl eJ (Æ (2^n-1) 0)=eJ ((ts.take i).foldl eJ (Æ (2^n-1) 0)) (g,m):=by
    rw[ŝ,hz,ŕ,T4];rfl
   rw[d];generalize (ts.take i).foldl eJ (Æ (2^n-1) 0)=L at *;refine⟨([Is n,Zs (ts.map lq),Rs 0,Is (g:Int),Is m],[.lst (iL L)]),[Is n,Zs (ts.map lq),Rs 0,Is (g:Int),Is m],[.lst (iL (eJ L (g,m)))],rfl,?_,rfl,_,_,rfl⟩;unfold eJ;dsimp only at j ⊢;refine aj (s:=.iff _ _ _) ?_ rfl;by_cases a:g=0
   ·rw[yH a];subst a;rfl
   ·rw[yG a]
    have f:tv [ah] (.cmp .NotEq (.v 3) (.i 0)) [Is n,Zs (ts.map lq),Rs 0,Is (g:Int),Is m] [.lst (iL L)]=À (Â,[.lst (iL L)]):=by simp[a]
    rw[dF,f,Ã];refine aj (s:=.aus _ _ _ _) (DB (r:=0) (q:=g-1) (l:=L) (x:=m) rfl ?_ rfl rfl oM) rfl;have:(g:Int)-1=((g-1:Nat):Int):=by lia
    rw[<- this];rfl
  ·rintro b s ⟨rfl,x,y,rfl⟩
   rw[ē];exact⟨_,rfl,mR rfl⟩
 obtain⟨r,d,k⟩:=c;exact aO (by simp[rfs,rf,JG]) d k
theorem iz(b:gK n)(h:a<2^n):a<16:=zJ h (by rcases b with rfl|rfl|rfl|rfl<;>decide)
theorem zg(c:gK n)(f:a<2^n)(d:b<2^n):pm dM [.int n,.int a,.int b] st=À (.fz (iL (dO n [(a ||| b,1),(b,-1)])),st):=by
 have h:a ||| b<2^n:=Ñ f d;have g:=qF (st:=[]) (iz c f) (iz c d);have e:=C7 (st:=[]) (ts:=[(a ||| b,1),(b,-1)]) c (by simp only[zT,zX,or_false];rintro t (rfl|rfl)<;>assumption);refine aO rfl (v:=.fz (iL (dO n [(a ||| b,1),(b,-1)]))) (st':=[]) ?_ rfl;rw[dM,aw];unfold k8;refine bS ?_;simp only[zO,Ğ,lq]at e;generalize a ||| b=q1 at *;simp[dE,rfs,rf,g,e,iY]
theorem tB(d:gK n)(h:a<2^n)(g:b<2^n)(f:c<2^n):pm c7 [.int n,.int a,.int b,.int c] st=À (.fz (iL (dO n (iC a b c))),st):=by
 have q:a ||| c<2^n:=Ñ h f;have p:b ||| c<2^n:=Ñ g f;have i:a ||| b<2^n:=Ñ h g;have o:a ||| b ||| c<2^n:=Ñ i f;have m:=qF (st:=[]) (iz d h) (iz d f);have l:=qF (st:=[]) (iz d g) (iz d f);have k:=qF (st:=[]) (iz d h) (iz d g);have j:=qF (st:=[]) (iz d i) (iz d f);have e:=C7 (st:=[]) (ts:=iC a b c) d (by simp only[iC,zT,zX,or_false];rintro t (rfl|rfl|rfl|rfl)<;>assumption);refine aO rfl (v:=.fz (iL (dO n (iC a b c)))) (st':=[]) ?_ rfl;rw[c7,aw];unfold jm;refine bS ?_;simp only[iC,zO,Ğ,lq]at e ⊢;generalize a ||| b ||| c=q4 at *;generalize a ||| b=q3 at *;generalize a ||| c=q1 at *;generalize b ||| c=q2 at *;simp[dE,rfs,rf,m,l,k,j,e,iY]
def Ol(n:Nat):Bool:=(É (2^n)).all fun g=>(match de [.int n,.int (g:Int)] [] with
 |some (.non,[])=>Â
 |_=>Ä)&&(g==0||match cR [.int n,.int (g:Int)] [] with
 |some (.non,[])=>Â
 |_=>Ä)
theorem AQ(a:gK n):Ol n=Â:=by rcases a with rfl|rfl|rfl|rfl<;>kernel_rfl
theorem Jh(b:gK n)(c:a<2^n):pm de [.int n,.int a] st=À (.non,st):=by
 have h:=yQ.mp (AQ b) a (Ö.mpr c);have h:=(Ĉ.mp h).1;split at h
 ·rename_i e;exact aO rfl e rfl
 ·cases h
theorem CC(b:gK n)(c:a<2^n)(d:0<a):pm cR [.int n,.int a] st=À (.non,st):=by
 have h:=yQ.mp (AQ b) a (Ö.mpr c);have h:=(Ĉ.mp h).2;rw[show(a==0)=Ä from beq_eq_false_iff_ne.mpr oM,q?]at h;split at h
 ·rename_i e;exact aO rfl e rfl
 ·cases h
theorem Jg(a:gK n):pm dD [.int n] st=À (.non,st):=by rcases a with rfl|rfl|rfl|rfl<;>exact aO rfl (show _=À (.non,[]) by kernel_rfl) rfl
def pf(n:Nat)(ts:List (Nat×Int)):Gv:=⟨dO n ts,Â,0⟩
theorem Eb(c:gK n)(f:a<2^n)(d:b<2^n)(j:0<b):pm kI [.int n,.int a,.int b] st=À ((pf n [(b ||| a,1),(a,-1)]).av,st):=by
 have i:=Jg (st:=[]) c;have h:=Jh (st:=[]) c f;have g:=CC (st:=[]) c d j;have e:=zg (st:=[]) c d f;refine aO rfl (v:=(pf n [(b ||| a,1),(a,-1)]).av) (st':=[]) ?_ rfl;rw[kI,aw];show(ae [dD,de,cR,dM] nj [Is n,Is (a:Int),Is (b:Int)] []).bind au=_;unfold nj;refine af (sl':=[Is n,Is (a:Int),Is (b:Int)]) (st':=[]) (by simp[i]) ?_;refine af (sl':=[Is n,Is (a:Int),Is (b:Int)]) (st':=[]) (by simp[h]) ?_;refine af (sl':=[Is n,Is (a:Int),Is (b:Int)]) (st':=[]) (by simp[g]) (bS ?_);simp[e,Gv.av,pf]
theorem Bv(d:gK n)(h:a<2^n)(a0:0<a)(g:b<2^n)(o:0<b)(f:c<2^n):pm jt [.int n,.int a,.int b,.int c] st=À ((pf n (iC a b c)).av,st):=by
 have m:=Jg (st:=[]) d;have l:=CC (st:=[]) d h a0;have k:=CC (st:=[]) d g o;have j:=Jh (st:=[]) d f;have e:=tB (st:=[]) d h g f;have i:pm d7 [.int n,.int a,.int b,.int c] []=À (.non,[]):=by
  refine aO rfl (v:=.non) (st':=[]) ?_ rfl;rw[d7,aw];show(ae [dD,cR,de] fx [Is n,Is (a:Int),Is (b:Int),Is (c:Int)] []).bind au=_;unfold fx;refine af (sl':=[Is n,Is (a:Int),Is (b:Int),Is (c:Int)]) (st':=[]) (by simp[m]) ?_;refine af (sl':=[Is n,Is (a:Int),Is (b:Int),Is (c:Int)]) (st':=[]) (by simp[l]) ?_;refine af (sl':=[Is n,Is (a:Int),Is (b:Int),Is (c:Int)]) (st':=[]) (by simp[k]) ?_;exact af (sl':=[Is n,Is (a:Int),Is (b:Int),Is (c:Int)]) (st':=[]) (by simp[j]) rfl
 refine aO rfl (v:=(pf n (iC a b c)).av) (st':=[]) ?_ rfl;rw[jt,aw];show(ae [d7,c7] k7 [Is n,Is (a:Int),Is (b:Int),Is (c:Int)] []).bind au=_;unfold k7;refine af (sl':=[Is n,Is (a:Int),Is (b:Int),Is (c:Int)]) (st':=[]) (by simp[i]) (bS ?_);simp[e,Gv.av,pf]
end
section
variable{st:aa}{n:Nat}{c:Int}
def ok3(n:Nat):Prop:=n=1\/n=2\/n=3
theorem ok3.four(h:ok3 n):gK n:=by unfold ok3 at h;unfold gK;lia
inductive Ft where
 |tl (a b:Nat)
 |si (a b c:Nat)
noncomputable def Ft.av:Ft->AV
 |.tl a b=>.tup [.str "tells",.int (a:Int),.int (b:Int)]
 |.si a b c=>.tup [.str "silent",.int (a:Int),.int (b:Int),.int (c:Int)]
def Ft.ok(n:Nat):Ft->Prop
 |.tl a b=>a<2^n/\b<2^n/\0<b
 |.si a b c=>(a<2^n/\0<a)/\(b<2^n/\0<b)/\c<2^n
theorem sQ(fs:List Ft):rfs (fs.map Ft.av)=Â:=eF fun x a=>by
 obtain⟨f,_,rfl⟩:=yC.mp a;cases f<;>rfl
theorem Gu(a:ok3 n):bh .LShift st (.int 1) (.int (n:Int))=À (.int ((2^n:Nat):Int)):=by rcases a with rfl|rfl|rfl<;>rfl
theorem uJ{α:Type}{l:List α}{a b:Nat}(d:a<=b)(c:b<=l.length):cut l (À (a:Int)) (À (b:Int))=(l.drop a).take (b-a):=by
 unfold cut;rw[HT.sIx_nat,HT.sIx_nat,Ÿ c,Ÿ (z5 d c)]
theorem Dw{α:Type}{l:List α}{a:Nat}(b:a<=l.length):cut l (À (a:Int)) Á=l.drop a:=by
 unfold cut;rw[HT.sIx_nat,HT.sIx_none,Ÿ oM,Ų (by simp)]
theorem kQ{a b:Nat}(h:0<b):bh .Mod st (.int (a:Int)) (.int (b:Int))=À (.int ((a%b:Nat):Int)):=by rw[Dg oM];rfl
theorem Me{a b:Nat}(c:gY (b:Int)=Â)(h:0<b):bh .FloorDiv st (.int (a:Int)) (.int (b:Int))=À (.int ((a/b:Nat):Int)):=by rw[Mf c oM];rfl
theorem pj{l:List Nat}:rfs (nL l)=Â:=eF fun x a=>by
 obtain⟨i,_,rfl⟩:=yC.mp a;rfl
theorem jz{D:List Nat}{i:Nat}(h:i<D.length):aJ st (.fz (nL D)) (.int (i:Int))=À (.int ((D[i]:Nat):Int)):=by
 rw[dj dI,cV];simp[nL,h]
theorem Fy(R:ok3 n):∃fs:List Ft,(∀st,pm d8 [.int c,.int n] st=À (.fz (fs.map Ft.av),st))/\fs.length<=4/\∀f∈fs,f.ok n:=by
 obtain⟨D,Y,lD,bD⟩:=wz (st:=[]) (c:=c) (many:=17) (base:=64) dC dC dC;have s:=fun st=>Gu (st:=st) R
 have p1:1<2^n/\2^n<=8:=by rcases R with rfl|rfl|rfl<;>decide
 generalize U:2^n=M at *;have E:∀st,bh .Sub st (.int (M:Int)) (.int 1)=À (.int ((M-1:Nat):Int)):=fun st=>by
  rw[nk];exact congrArg (fun q=>À (AV.int q)) oM
 have G:∃r,d8 [.int c,.int n] []=À r/\∃fs:List Ft,r=(.ref 0,[.lst (fs.map Ft.av)])/\fs.length<=4/\∀f∈fs,f.ok n:=by
  rw[d8,aw];show ∃r,(ae [ao] gJ [Is c,Is n,Á,Á,Á,Á,Á,Á,Á] []).bind au=À r/\_;unfold gJ;refine aA (sl':=[Is c,Is n,Zs (nL D),Á,Á,Á,Á,Á,Á]) (st':=[]) (by simp at Y;simp[Y]) ?_;refine aA (sl':=[Is c,Is n,Zs (nL D),Rs 0,Á,Á,Á,Á,Á]) (st':=[.lst (([]:List Ft).map Ft.av)]) rfl ?_;obtain⟨m,T⟩:∃m,m=D[0]%5:=⟨_,rfl⟩;have hm5:m<5:=by rw[T];exact ģ _ dC
  refine j9 (em:=fun q:Nat=>AV.int (q:Int)) (xs:=É m) (gd:=[]) (st0:=[.lst (([]:List Ft).map Ft.av)]) (fun i sl s=>∃fs:List Ft,s=[.lst (fs.map Ft.av)]/\fs.length=i/\(∀f∈fs,f.ok n)/\∃a b u d e,sl=[Is c,Is n,Zs (nL D),Rs 0,a,b,u,d,e]) (xf (by
   have P:=jz (st:=[.lst (([]:List Ft).map Ft.av)]) (D:=D) (i:=0) oM;have O:=kQ (st:=[.lst (([]:List Ft).map Ft.av)]) (a:=D[0]) (b:=5) dC;rw[T];simp at P O;simp[P,O]) oM) (fun _ _ _ _=>rfl) ⟨[],rfl,rfl,by simp,_,_,_,_,_,rfl⟩ ?_ ?_
  ·rintro i q sl Z Q ⟨fs,rfl,F,l,a,b,u,d,e,rfl⟩
   have hi:i<m:=by have:=(zB.mp Q).1;simpa using this
   obtain rfl:i=q:=by have:=(zB.mp Q).2;simpa using this
   obtain⟨w,x,y,z,hd⟩:∃w x y z,(D.drop (1+4*i)).take 4=[w,x,y,z]:=by
    have hl:((D.drop (1+4*i)).take 4).length=4:=by rw[Ĕ,ņ];lia
    match h:(D.drop (1+4*i)).take 4,hl with
    |[w,x,y,z],_=>exact⟨w,x,y,z,rfl⟩
   have cu:cut (nL D) (À (1+4*(i:Int))) (À (5+4*(i:Int)))=nL [w,x,y,z]:=by
    rw[show(1:Int)+4*(i:Int)=((1+4*i:Nat):Int) by lia,show(5:Int)+4*(i:Int)=((5+4*i:Nat):Int) by lia,uJ oM (by unfold nL;rw[zH];lia),show 5+4*i-(1+4*i)=4 by lia];unfold nL;rw[<- ţ,<- ϖ,hd]
   have o1:w%M<M/\x%M<M/\y%M<M/\1+w%(M-1)<M/\1+x%(M-1)<M:=by
    have W:=ģ w (show 0 < M by lia);have V:=ģ x (show 0 < M by lia);have h3:=ģ y (show 0 < M by lia);have h4:=ģ w (show 0 < M - 1 by lia);have h5:=ģ x (show 0 < M - 1 by lia);lia
   obtain⟨S,I⟩:∃S,S=[PC.lst (fs.map Ft.av)]:=⟨_,rfl⟩;have m4:bh .Mult S (.int 4) (.int (i:Int))=À (.int (4*(i:Int))):=b9 (jw dC);have J:bh .Mod S (.int (z:Int)) (.int 2)=À (.int ((z%2:Nat):Int)):=kQ (b:=2) dC;have X:S[0]?=À (.lst (fs.map Ft.av)):=by rw[I];rfl
   have K:∀f:Ft,S.set 0 (.lst (fs.map Ft.av++[f.av]))=[.lst ((fs++[f]).map Ft.av)]:=fun f=>by rw[I];simp
   have A:∀(f:Ft)(j:Sl),f.ok n->ae [ao] (.cons (.iff (.cmp .Eq (.bin .Mod (.v 8) (.i 2)) (.i 0))
 (.cons (.ex (.mt .app (.v 3) (.cons (.tu (.cons (.s "tells") (.cons (.bin .Mod (.v 5) (.bin .LShift (.i 1) (.v 1))) (.cons (.bin .Add (.i 1) (.bin .Mod (.v 6) (.bin .Sub (.bin .LShift (.i 1) (.v 1)) (.i 1)))) .nil)))) .nil)))
 .nil)
 (.cons (.ex (.mt .app (.v 3) (.cons (.tu (.cons (.s "silent") (.cons (.bin .Add (.i 1) (.bin .Mod (.v 5) (.bin .Sub (.bin .LShift (.i 1) (.v 1)) (.i 1)))) (.cons (.bin .Add (.i 1) (.bin .Mod (.v 6) (.bin .Sub (.bin .LShift (.i 1) (.v 1)) (.i 1)))) (.cons (.bin .Mod (.v 7) (.bin .LShift (.i 1) (.v 1))) .nil))))) .nil)))
 .nil)) .nil) [Is c,Is n,Zs (nL D),Rs 0,Is (i:Int),Is (w:Int),Is (x:Int),Is (y:Int),Is (z:Int)] S=À (.nx [Is c,Is n,Zs (nL D),Rs 0,Is (i:Int),Is (w:Int),Is (x:Int),Is (y:Int),Is (z:Int)] [.lst ((fs++[f]).map Ft.av)])->∃p j B,cj [ao] (.nm 4) (.int (i:Int)) [Is c,Is n,Zs (nL D),Rs 0,a,b,u,d,e] S=À p/\ae [ao] (.cons (.as (.nw Ä (.sl (.v 2) (.so (.bin .Add (.i 1) (.bin .Mult (.i 4) (.v 4)))) (.so (.bin .Add (.i 5) (.bin .Mult (.i 4) (.v 4)))))) (.tu 4 (.cons (.nm 5) (.cons (.nm 6) (.cons (.nm 7) (.cons (.nm 8) .nil)))))) (.cons (.iff (.cmp .Eq (.bin .Mod (.v 8) (.i 2)) (.i 0))
 (.cons (.ex (.mt .app (.v 3) (.cons (.tu (.cons (.s "tells") (.cons (.bin .Mod (.v 5) (.bin .LShift (.i 1) (.v 1))) (.cons (.bin .Add (.i 1) (.bin .Mod (.v 6) (.bin .Sub (.bin .LShift (.i 1) (.v 1)) (.i 1)))) .nil)))) .nil)))
 .nil)
 (.cons (.ex (.mt .app (.v 3) (.cons (.tu (.cons (.s "silent") (.cons (.bin .Add (.i 1) (.bin .Mod (.v 5) (.bin .Sub (.bin .LShift (.i 1) (.v 1)) (.i 1)))) (.cons (.bin .Add (.i 1) (.bin .Mod (.v 6) (.bin .Sub (.bin .LShift (.i 1) (.v 1)) (.i 1)))) (.cons (.bin .Mod (.v 7) (.bin .LShift (.i 1) (.v 1))) .nil))))) .nil)))
 .nil)) .nil)) p.1 p.2=À (.nx j B)/\∃o:List Ft,B=[.lst (o.map Ft.av)]/\o.length=i+1/\(∀f∈o,f.ok n)/\∃a b u d e,j=[Is c,Is n,Zs (nL D),Rs 0,a,b,u,d,e]:=fun f _ hf hr=>by
    refine⟨([Is c,Is n,Zs (nL D),Rs 0,Is (i:Int),b,u,d,e],S),_,_,rfl,aj (sl':=[Is c,Is n,Zs (nL D),Rs 0,Is (i:Int),Is (w:Int),Is (x:Int),Is (y:Int),Is (z:Int)]) (st':=S) ?_ hr,_,rfl,by simp[F],fun g hg=>?_,_,_,_,_,_,rfl⟩
    ·rw[eS,du,tQ]
     simp only[lT,lQ,cq,cU,ce,bR,bQ,Ã,Ì,m4,iQ,tN,dI,cu,pj,ite_true];rfl
    ·rcases zZ.mp hg with h|h
     ·exact l g h
     ·rw[zM.mp h];exact hf
   have N:∀a:Nat,bh .Mod S (.int (a:Int)) (.int (M:Int))=À (.int ((a%M:Nat):Int)):=fun a=>kQ oM
   have L:∀a:Nat,bh .Mod S (.int (a:Int)) (.int ((M-1:Nat):Int))=À (.int ((a%(M-1):Nat):Int)):=fun a=>kQ oM
   have a1:∀a:Nat,bh .Add S (.int 1) (.int (a:Int))=À (.int ((1+a:Nat):Int)):=fun a=>by
    rw[iQ];exact congrArg (fun q=>À (AV.int q)) oM
   have s:=s S;have E:=E S;rw[<- I];by_cases hz:z%2=0
   ·refine A (.tl (w%M) (1+x%(M-1))) [] (by show _<2^n/\_<2^n/\_;rw[U];lia) ?_
    have C:=jR (ks:=[ao]) (a:=.v 3) (e:=.tu (.cons (.s "tells") (.cons (.bin .Mod (.v 5) (.bin .LShift (.i 1) (.v 1))) (.cons (.bin .Add (.i 1) (.bin .Mod (.v 6) (.bin .Sub (.bin .LShift (.i 1) (.v 1)) (.i 1)))) .nil)))) (y:=(Ft.tl (w%M) (1+x%(M-1))).av) (k:=0) (xs:=fs.map Ft.av) (sl:=[Is c,Is n,Zs (nL D),Rs 0,Is (i:Int),Is (w:Int),Is (x:Int),Is (y:Int),Is (z:Int)]) (st:=S) rfl (by
     simp only[wM,aQ,ba,qZ,ce,cq,cU,bR,bQ,Ã,Ì,s,E,N,L,a1];rfl) X (by simp;lia)
    rw[K]at C;refine aj (s:=.iff _ _ _) ?_ rfl;rw[dF,show tv [ao] (.cmp .Eq (.bin .Mod (.v 8) (.i 2)) (.i 0)) _ S=À (Â,S) by simp only[eN,ce,cq,cU,bR,bQ,Ã,Ì,J,hz,CF];rfl,Ã];exact aj C rfl
   ·refine A (.si (1+w%(M-1)) (1+x%(M-1)) (y%M)) [] (by show(_<2^n/\_)/\(_<2^n/\_)/\_<2^n;rw[U];lia) ?_
    have H:z%2=1:=by lia
    have C:=jR (ks:=[ao]) (a:=.v 3) (e:=.tu (.cons (.s "silent") (.cons (.bin .Add (.i 1) (.bin .Mod (.v 5) (.bin .Sub (.bin .LShift (.i 1) (.v 1)) (.i 1)))) (.cons (.bin .Add (.i 1) (.bin .Mod (.v 6) (.bin .Sub (.bin .LShift (.i 1) (.v 1)) (.i 1)))) (.cons (.bin .Mod (.v 7) (.bin .LShift (.i 1) (.v 1))) .nil))))) (y:=(Ft.si (1+w%(M-1)) (1+x%(M-1)) (y%M)).av) (k:=0) (xs:=fs.map Ft.av) (sl:=[Is c,Is n,Zs (nL D),Rs 0,Is (i:Int),Is (w:Int),Is (x:Int),Is (y:Int),Is (z:Int)]) (st:=S) rfl (by
     simp only[wM,aQ,ba,qZ,ce,cq,cU,bR,bQ,Ã,Ì,s,E,N,L,a1];rfl) X (by simp;lia)
    rw[K]at C;refine aj (s:=.iff _ _ _) ?_ rfl;rw[dF,show tv [ao] (.cmp .Eq (.bin .Mod (.v 8) (.i 2)) (.i 0)) _ S=À (Ä,S) by simp only[eN,ce,cq,cU,bR,bQ,Ã,Ì,J,H,CF];rfl,Ã];exact aj C rfl
  ·rintro sl Z ⟨fs,rfl,F,l,a,b,u,d,e,rfl⟩
   refine dw (v:=.ref 0) (st':=[.lst (fs.map Ft.av)]) rfl ⟨fs,rfl,by simp at F;lia,l⟩
 obtain⟨r,e,fs,rfl,W,V⟩:=G;refine⟨fs,fun st=>aO rfl e ?_,W,V⟩;show(match ([PC.lst (fs.map Ft.av)]:aa)[0]? with
  |some (.lst xs)=>(aP (bE 5 [.lst (fs.map Ft.av)]) xs).map AV.fz
  |some (.al t)=>À t
  |_=>Á)=_
 have:∀st,aP (bE 5 st) (fs.map Ft.av)=À (fs.map Ft.av):=fun st=>cJ (f:=bE 5 st) (i:=Ft.av) (g:=Ft.av) (fun f=>by cases f<;>rfl) fs
 simp[-List.map_map,this]
end
section
variable{st:aa}{n:Nat}{c:Int}{L:List Int}
theorem M6:bh .Pow st (.int 10) (.int 9)=À (.int 1000000000):=by kernel_rfl
theorem Ki:bh .Pow st (.int 10) (.int 19)=À (.int 10000000000000000000):=by kernel_rfl
theorem td{ks:List Fn}{sl:Sl}{e:Ex}{j q k:Nat}{x:Int}(he:ev ks e sl st=À (.int x,st))(f:aV 3 sl st=À (.ref k,st))(d:aV j sl st=À (.int (q:Int),st))(c:st[k]?=À (.lst (iL L)))(b:q<L.length):cZ ks (.as e (.su (.v 3) (.v j))) sl st=À (.nx sl (st.set k (.lst (iL (L.set q x))))):=by
 have a:=dZ (st:=st) (k:=k) (q:=q) (xs:=iL L) (x:=.int x) c (by rw[gE];exact b);rw[gD]at a;rw[eS,he,Ã,No];simp only[cq,f,d,Ã,a,Ì]
theorem u6{B a:Nat}{q:Nat}{y:Int}(h:∀x∈L,x.natAbs<=B)(hB:B<=a)(b:y.natAbs<=a):∀x∈L.set q y,x.natAbs<=a:=fun x c=>by
 rcases ö c with d|rfl
 ·exact z5 (h x d) hB
 ·exact b
noncomputable def Ay(m:Nat)(a:Int):Bool:=decide (0<=a)&&decide (a<m)
def HG(m:Nat):AV->Bool
 |.tup [.tup (.str s::xs),.int a,.int b,.int c,.int d]=>((bg .Eq [] (.str s) (.str "last")).isSome&&(bg .Eq [] (.str s) (.str "pair")).isSome)&&((Ay m a&&Ay m b)&&(Ay m c&&Ay m d))
 |_=>Ä
def zf(n:Nat):Bool:=match (aX [.int n] []).bind fun p=>dG p.2 p.1 with
 |some (.fz L)=>L.all (HG (2^n))&&decide (L.length<=9)
 |_=>Ä
theorem GE:(zf 1&&(zf 2&&zf 3))=Â:=by kernel_rfl
theorem Cc(j:ok3 n):∃L,(∀st,pm aX [.int n] st=À (.fz L,st))/\L.length<=9/\∀x∈L,∃(s:Í)(xs:List AV)(a b c d:Nat)(u v:Bool),x=.tup [.tup (.str s::xs),.int (a:Int),.int (b:Int),.int (c:Int),.int (d:Int)]/\(∀st,bg .Eq st (.str s) (.str "last")=À u)/\(∀st,bg .Eq st (.str s) (.str "pair")=À v)/\a<2^n/\b<2^n/\c<2^n/\d<2^n:=by
 have h:zf n=Â:=by
  have:=GE
  simp only[zC]at this;rcases j with rfl|rfl|rfl
  ·exact this.1
  ·exact this.2.1
  ·exact this.2.2
 unfold zf at h;split at h
 ·rename_i L e
  rw[zC,yQ]at h;refine⟨L,fun st=>dB rfl e,of_decide_eq_true h.2,fun x f=>?_⟩;have h:=h.1 x f;unfold HG at h;split at h
  ·rename_i s xs a b c d
   simp only[Ay,zC,yB]at h;obtain⟨⟨l,k⟩,⟨⟨q,a1⟩,p,w⟩,⟨o,t⟩,m,r⟩:=h;obtain⟨u,i⟩:=ø.mp l;obtain⟨v,g⟩:=ø.mp k;refine⟨s,xs,a.toNat,b.toNat,c.toNat,d.toNat,u,v,?_,fun _=>i,fun _=>g,?_⟩
   ·rw[ò q,ò p,ò o,ò m]
   ·generalize ((2^n:Nat))=M at *
    lia
  ·cases h
 ·cases h
theorem pU{B:Nat}{q:Nat}(h:∀x∈L,x.natAbs<=B)(a:q<L.length):(gI L q).natAbs<=B:=by
 refine h _ ?_;unfold gI;rw[zD,zF a];exact ĕ a
theorem L7{k q:Nat}(b:st[k]?=À (.lst (iL L)))(a:q<L.length):aJ st (.ref k) (.int (q:Int))=À (.int (gI L q)):=by
 rw[dj (ci b),cV,cz a]
theorem JR(hn:ok3 n):∃L,(∀st,pm fC [.int c,.int n] st=À (.fz (iL L),st))/\L.length=2^n-1/\∀x∈L,x.natAbs<=10000000000000000000:=by
 obtain⟨R,eR,lR,hR⟩:=Cc hn;have s:=fun st=>Gu (st:=st) hn
 have p1:1<2^n/\2^n<=8:=by rcases hn with rfl|rfl|rfl<;>decide
 generalize hM:2^n=M at *;obtain⟨D,e1,lD,bD⟩:=wz (st:=[]) (c:=c) (many:=M+14) (base:=1000000000) oM dC dC;have a14:∀st,bh .Add st (.int (M:Int)) (.int 14)=À (.int ((M+14:Nat):Int)):=fun st=>by
  rw[iQ];exact congrArg (fun q=>À (AV.int q)) oM
 obtain⟨g,hd0⟩:∃g,g=D[0]:=⟨_,rfl⟩;have i0:∀st,aJ st (.fz (nL D)) (.int 0)=À (.int (g:Int)):=fun st=>by
  have:=jz (st:=st) (D:=D) (i:=0) oM
  rw[hd0];exact this
 have m4:∀st,bh .Mod st (.int (g:Int)) (.int 4)=À (.int ((g%4:Nat):Int)):=fun st=>kQ dC
 obtain⟨m,V⟩:∃m,m=(D.drop 1).take (M-1):=⟨_,rfl⟩;have lD1:m.length=M-1:=by rw[V,Ĕ,ņ];lia
 have bD1:∀x∈m,x<1000000000:=fun x p=>bD x (J? (List.mem_of_mem_take (V▸p)))
 have lnL:(nL D).length=D.length:=by unfold nL;rw[zH]
 have cu:cut (nL D) (À 1) (À (M:Int))=nL m:=by
  have:=uJ (l:=nL D) (a:=1) (b:=M) oM oM
  rw[V];unfold nL at this ⊢;rw[ϖ,ţ];exact this
 have key:∃r,fC [.int c,.int n] []=À r/\∃L,dG r.2 r.1=À (.fz (iL L))/\L.length=M-1/\∀x∈L,x.natAbs<=10000000000000000000:=by
  rw[fC,aw];show ∃r,(ae [ao,aX] iR [Is c,Is n,Á,Á,Á,Á,Á,Á,Á,Á,Á,Á,Á] []).bind au=À r/\_;unfold iR;refine aA (sl':=[Is c,Is n,Zs (nL D),Á,Á,Á,Á,Á,Á,Á,Á,Á,Á]) (st':=[]) (by
   rw[eS];simp only[fV,aQ,ba,ce,cq,cU,bR,bQ,Ã,Ì,s,a14,M6,fR,fY];have e1:pm ao [.int c,.int ((M+14:Nat):Int),.int 1000000000] []=À (.fz (nL D),[]):=e1;rw[e1];rfl) ?_
  have hsl:∀{sl:Sl}{st},aV 1 sl st=À (.int (n:Int),st)->aV 2 sl st=À (.fz (nL D),st)->eO [ao,aX] (.e (.nw Ä (.sl (.v 2) (.so (.i 1)) (.so (.bin .LShift (.i 1) (.v 1)))))) sl st=À (⟨m.map fun q:Nat=>AV.int (q:Int),[]⟩,st):=fun {sl st} h1 h2=>by
   rw[IG,du,tQ];simp only[lT,lQ,tN,cq,cU,ce,h1,h2,Ã,Ì,s,dI,cu,pj,ite_true,uh];rfl
  by_cases c1:g%4<2
  ·have lc:=kS (st:=[]) (ks:=[ao,aX]) (k:=1) (it:=.e (.nw Ä (.sl (.v 2) (.so (.i 1)) (.so (.bin .LShift (.i 1) (.v 1)))))) (t:=.nm 13) (c:=.no) (e:=.bin .Sub (.bin .Mod (.v 13) (.i 7)) (.i 3)) (sl:=[Is c,Is n,Zs (nL D),Á,Á,Á,Á,Á,Á,Á,Á,Á,Á]) (gd:=[]) (em:=fun q:Nat=>AV.int (q:Int)) (xs:=m) (B:=fun _=>Â) (F:=fun q:Nat=>AV.int ((q:Int) % 7 - 3)) (hsl rfl rfl) rfl oM fun q Q=>⟨_,rfl,rfl,fun _=>by simp [Dg (show (0:Int) < 7 by decide)]⟩
   rw[Ú.mpr (fun _ _=>rfl),show m.map (fun q:Nat=>AV.int ((q:Int)%7-3))=iL (m.map fun q:Nat=>(q:Int)%7-3) by unfold iL;rw[ß];rfl]at lc;refine dw (v:=.fz (iL (m.map fun q:Nat=>(q:Int)%7-3))) (st':=[]) ?_ ⟨_,ze,by rw[zH];exact lD1,fun x p=>?_⟩
   ·have t:tv [ao,aX] (.cmp .Lt (.bin .Mod (.ix (.v 2) (.i 0)) (.i 4)) (.i 2)) [Is c,Is n,Zs (nL D),Á,Á,Á,Á,Á,Á,Á,Á,Á,Á] []=À (Â,[]):=by
     have:((g%4:Nat):Int)<2:=by lia
     simp only[eN,ce,eQ,cq,cU,bR,bQ,Ã,Ì,i0,m4,xR,this,decide_true]
    rw[dF,t,Ã];show ae _ _ _ _=_;refine oV ?_;rw[qD,du,lc,Ã,yH cK];rfl
   ·obtain⟨q,_,rfl⟩:=yC.mp p
    have:=Ź (q:Int) (show (7:Int) ≠ 0 by decide)
    have:=ř (q:Int) (show (0:Int) < 7 by decide)
    lia
  refine aA (sl':=[Is c,Is n,Zs (nL D),Á,Á,Á,Á,Á,Á,Á,Á,Á,Á]) (st':=[]) (by
   have:¬((g%4:Nat):Int)<2:=by lia
   rw[dF];simp only[eN,ce,eQ,cq,cU,bR,bQ,Ã,Ì,i0,m4,xR,this,decide_false];rfl) ?_
  by_cases h:g%4=2
  ·have lc:=kS (st:=[]) (ks:=[ao,aX]) (k:=1) (it:=.e (.nw Ä (.sl (.v 2) (.so (.i 1)) (.so (.bin .LShift (.i 1) (.v 1)))))) (t:=.nm 13) (c:=.no) (e:=.bin .Sub (.bin .Mod (.bin .Add (.bin .Mult (.bin .Mult (.v 13) (.v 13)) (.i 101)) (.v 13)) (.bin .Mult (.i 2) (.bin .Pow (.i 10) (.i 19)))) (.bin .Pow (.i 10) (.i 19))) (sl:=[Is c,Is n,Zs (nL D),Á,Á,Á,Á,Á,Á,Á,Á,Á,Á]) (gd:=[]) (em:=fun q:Nat=>AV.int (q:Int)) (xs:=m) (B:=fun _=>Â) (F:=fun q:Nat=>AV.int (((q:Int)*q*101+q)%20000000000000000000-10000000000000000000)) (hsl rfl rfl) rfl oM fun q Q=>⟨_,rfl,rfl,fun _=>by
    have bq:=bD1 q Q;have m1:cS (q:Int) (q:Int)=Â:=jw (by rw[Ĥ];exact zJ bq dC);have m2:cS ((q:Int)*q) 101=Â:=Df dC;have m3:cS 2 10000000000000000000=Â:=jw dC;simp[b9 m1,b9 m2,b9 m3,Ki,Dg (show(0:Int)<20000000000000000000 by decide)]⟩
   rw[Ú.mpr (fun _ _=>rfl),show m.map (fun q:Nat=>AV.int (((q:Int)*q*101+q)%20000000000000000000-10000000000000000000))=iL (m.map fun q:Nat=>((q:Int)*q*101+q)%20000000000000000000-10000000000000000000) by unfold iL;rw[ß];rfl]at lc;refine dw (v:=.fz (iL (m.map fun q:Nat=>((q:Int)*q*101+q)%20000000000000000000-10000000000000000000))) (st':=[]) ?_ ⟨_,ze,by rw[zH];exact lD1,fun x p=>?_⟩
   ·have t:tv [ao,aX] (.cmp .Eq (.bin .Mod (.ix (.v 2) (.i 0)) (.i 4)) (.i 2)) [Is c,Is n,Zs (nL D),Á,Á,Á,Á,Á,Á,Á,Á,Á,Á] []=À (Â,[]):=by
     simp only[eN,ce,eQ,cq,cU,bR,bQ,Ã,Ì,i0,m4,h];rfl
    rw[dF,t,Ã];show ae _ _ _ _=_;refine oV ?_;rw[qD,du,lc,Ã,yH cK];rfl
   ·obtain⟨q,_,rfl⟩:=yC.mp p
    have:=Ź ((q:Int) * q * 101 + q) (show (20000000000000000000:Int) ≠ 0 by decide)
    have:=ř ((q:Int) * q * 101 + q) (show (0:Int) < 20000000000000000000 by decide)
    lia
  refine aA (sl':=[Is c,Is n,Zs (nL D),Á,Á,Á,Á,Á,Á,Á,Á,Á,Á]) (st':=[]) (by
   have:¬((g%4:Nat):Int)=2:=by lia
   rw[dF];simp only[eN,ce,eQ,cq,cU,bR,bQ,Ã,Ì,i0,m4,CF,this,decide_false];rfl) ?_
  refine aA (sl':=[Is c,Is n,Zs (nL D),Rs 0,Á,Á,Á,Á,Á,Á,Á,Á,Á]) (st':=[.lst (iL (Æ M 0))]) (by
   have c:=kS (st:=[]) (ks:=[ao,aX]) (k:=1) (it:=.r1 (.bin .LShift (.i 1) (.v 1))) (t:=.nm 13) (c:=.no) (e:=.i 0) (sl:=[Is c,Is n,Zs (nL D),Á,Á,Á,Á,Á,Á,Á,Á,Á,Á]) (gd:=[]) (em:=fun q:Nat=>AV.int (q:Int)) (xs:=É M) (B:=fun _=>Â) (F:=fun _=>AV.int 0) (xf (by simp only[ce,cU,cq,bR,bQ,Ã,Ì,s]) oM) rfl (by simp;lia) fun q Q=>⟨_,rfl,rfl,fun _=>rfl⟩
   rw[Ú.mpr (fun _ _=>rfl),show(É M).map (fun _=>AV.int 0)=iL (Æ M 0) by unfold iL;rw[List.map_const',List.map_replicate,Ń]]at c;rw[eS,wN,c];rfl) ?_
  obtain⟨D2,hD2⟩:∃D2,D2=D.drop M:=⟨_,rfl⟩;have cu2:cut (nL D) (À (M:Int)) Á=nL D2:=by
   rw[Dw oM,hD2];unfold nL;rw[ţ]
  refine j9 (em:=fun z:AV×Nat=>AV.tup [z.1,.int (z.2:Int)]) (xs:=R.zip D2) (gd:=[]) (st0:=[.lst (iL (Æ M 0))]) (fun i sl s=>∃L,s=[.lst (iL L)]/\L.length=M/\(∀x∈L,x.natAbs<=8*i)/\∃H N G E C A y o,sl=[Is c,Is n,Zs (nL D),Rs 0,H,N,G,E,C,A,y,o,Á]) (by
   rw[Nk];unfold iZ;simp only[fV,aQ,ba,cq,bR,bQ,Ã,Ì,fR,fY,gC,eR,du,tQ,lT,lQ,Db,tN,HJ,ce,cU,s,dI,cu2,pj,ite_true,Av];unfold nL;rw[List.zip_map_right,ß];rfl) (fun _ _ _ _=>rfl) ⟨_,rfl,by simp,fun x p=>by rw[(List.mem_replicate.mp p).2];decide,_,_,_,_,_,_,_,_,rfl⟩ ?_ ?_
  ·rintro i ⟨r,d⟩ sl s' Q ⟨L,rfl,lL,W,H,N,G,E,C,A,y,o,rfl⟩
   have hm:=ì (zW Q);obtain⟨w,xs,a,b,h,I,u,v,rfl,hu,hv,ha,hb,hc,hd⟩:=hR r hm.1;obtain⟨k,hk⟩:∃k,k=d%3:=⟨_,rfl⟩;have k3:k<3:=by rw[hk];exact ģ _ dC
   have mk:∀st,bh .Mod st (.int (d:Int)) (.int 3)=À (.int (k:Int)):=fun st=>by rw[hk];exact kQ dC
   have ma:∀st (x:Int),bh .Mult st (.int (k:Int)) (.int x)=À (.int (k*x)):=fun st x=>b9 (jw (by rw[Ĥ];exact ϧ k3 dC))
   obtain⟨J,htg⟩:∃J,J=AV.tup (.str w::xs):=⟨_,rfl⟩;have t0:∀st,aJ st J (.int 0)=À (.str w):=fun st=>by rw[htg];show gy (AV.str w::xs) ((0:Nat):Int)=_;rw[cV];rfl
   rw[<- htg];obtain⟨Sl,f⟩:∃s,s=[Is c,Is n,Zs (nL D),Rs 0,À (AV.tup [J,.int (a:Int),.int (b:Int),.int (h:Int),.int (I:Int)]),Is (d:Int),À J,Is (a:Int),Is (b:Int),Is (h:Int),Is (I:Int),Is (k:Int),Á]:=⟨_,rfl⟩;have Z:∀st,aV 3 Sl st=À (.ref 0,st):=fun st=>by rw[f];rfl
   have w6:∀st,aV 6 Sl st=À (J,st):=fun st=>by rw[f];rfl
   have w7:∀st,aV 7 Sl st=À (.int (a:Int),st):=fun st=>by rw[f];rfl
   have w8:∀st,aV 8 Sl st=À (.int (b:Int),st):=fun st=>by rw[f];rfl
   have w9:∀st,aV 9 Sl st=À (.int (h:Int),st):=fun st=>by rw[f];rfl
   have wa:∀st,aV 10 Sl st=À (.int (I:Int),st):=fun st=>by rw[f];rfl
   have wb:∀st,aV 11 Sl st=À (.int (k:Int),st):=fun st=>by rw[f];rfl
   obtain ⟨Y,hx1⟩:∃ x,x=gI L a + (k:Int):=⟨_,rfl⟩;have b1:Y.natAbs <= 8 * i + 2:=by have:=pU W (show a < L.length by lia);lia
   obtain⟨P,U⟩:∃l,l=L.set a Y:=⟨_,rfl⟩;have l1:P.length=M:=by rw[U,à];exact lL
   have B1:∀ x ∈ P,x.natAbs <= 8 * i + 2:=U ▸ u6 W oM b1;obtain ⟨x2,hx2⟩:∃ x,x=gI P b + (k:Int) * (if u=Â then -1 else 1):=⟨_,rfl⟩;have b2:x2.natAbs <= 8 * i + 4:=by have:=pU B1 (show b < P.length by lia);cases u <;> simp at hx2 <;> lia
   obtain⟨O,T⟩:∃l,l=P.set b x2:=⟨_,rfl⟩;have l2:O.length=M:=by rw[T,à];exact l1
   have B2:∀ x ∈ O,x.natAbs <= 8 * i + 4:=T ▸ u6 B1 oM b2;obtain ⟨x3,hx3⟩:∃ x,x=gI O h - (k:Int) * (if v=Â then 1 else 0):=⟨_,rfl⟩;have b3:x3.natAbs <= 8 * i + 6:=by have:=pU B2 (show h < O.length by lia);cases v <;> simp at hx3 <;> lia
   obtain⟨X,S⟩:∃l,l=O.set h x3:=⟨_,rfl⟩;have l3:X.length=M:=by rw[S,à];exact l2
   have B3:∀ x ∈ X,x.natAbs <= 8 * i + 6:=S ▸ u6 B2 oM b3;obtain ⟨x4,hx4⟩:∃ x,x=gI X I - (k:Int) * (if v=Â then 1 else 0):=⟨_,rfl⟩;have b4:x4.natAbs <= 8 * i + 8:=by have:=pU B3 (show I < X.length by lia);cases v <;> simp at hx4 <;> lia
   have pr:∀(st:aa)(j q:Nat)(l:List Int),st[0]?=À (.lst (iL l))->q<l.length->aV j Sl st=À (.int (q:Int),st)->ev [ao,aX] (.ix (.v 3) (.v j)) Sl st=À (.int (gI l q),st):=fun st j q l h1 h2 h3=>by
    simp only[eQ,cq,Z,h3,Ã,L7 h1 h2,Ì]
   have pv:∀st:aa,ev [ao,aX] (.bin .Mult (.v 11) (.bi .int (.cons (.cmp .Eq (.ix (.v 6) (.i 0)) (.s "pair")) .nil))) Sl st=À (.int ((k:Int)*(if v=Â then 1 else 0)),st):=fun st=>by
    have hv:=hv st;simp only[ce,oy,aQ,ba,wO,eQ,cq,cU,qZ,w6,wb,Ã,t0,Ì,Jj,hv];cases v<;>simp[bI,qK,ma]
   have pu:∀st:aa,ev [ao,aX] (.bin .Mult (.v 11) (.ix (.nw Ä (.li (.cons (.i 1) (.cons (.un .USub (.i 1)) .nil)))) (.bi .int (.cons (.cmp .Eq (.ix (.v 6) (.i 0)) (.s "last")) .nil)))) Sl st=À (.int ((k:Int)*(if u=Â then -1 else 1)),st):=fun st=>by
    have hu:=hu st;simp only[ce,oy,aQ,ba,wO,eQ,cq,cU,qZ,w6,wb,Ã,t0,Ì,Jj,hu];have x0:aJ st (.fz [.int 1,.int (-1)]) (.int 0)=À (.int 1):=rfl;have Y:aJ st (.fz [.int 1,.int (-1)]) (.int 1)=À (.int (-1)):=rfl;cases u<;>simp[bI,qK,ma,dE,rfs,rf,iY,x0,Y,w6,t0,hu]
   refine⟨([Is c,Is n,Zs (nL D),Rs 0,À (AV.tup [J,.int (a:Int),.int (b:Int),.int (h:Int),.int (I:Int)]),Is (d:Int),G,E,C,A,y,o,Á],[.lst (iL L)]),Sl,[.lst (iL (X.set I x4))],rfl,?_,_,rfl,by rw[à];exact l3,u6 B3 oM oM,_,_,_,_,_,_,_,_,f⟩;refine aj (sl':=[Is c,Is n,Zs (nL D),Rs 0,À (AV.tup [J,.int (a:Int),.int (b:Int),.int (h:Int),.int (I:Int)]),Is (d:Int),À J,Is (a:Int),Is (b:Int),Is (h:Int),Is (I:Int),o,Á]) (st':=[.lst (iL L)]) rfl ?_;refine aj (sl':=Sl) (st':=[.lst (iL L)]) (by rw[f];simp[mk]) ?_;refine aj (td (k:=0) (L:=L) (q:=a) (x:=Y) (by
    rw[ce,pr _ 7 a L rfl oM (w7 _),Ã];simp only[cq,wb,Ã,iQ,Ì,hx1]) (Z _) (w7 _) rfl oM) ?_
   show ae _ _ Sl [.lst (iL (L.set a Y))]=_;rw[<- U];refine aj (td (k:=0) (L:=P) (q:=b) (x:=x2) (by
    rw[ce,pr _ 8 b P rfl oM (w8 _),Ã,pu];simp only[Ã,iQ,Ì,hx2]) (Z _) (w8 _) rfl oM) ?_
   show ae _ _ Sl [.lst (iL (P.set b x2))]=_;rw[<- T];refine aj (td (k:=0) (L:=O) (q:=h) (x:=x3) (by
    rw[ce,pr _ 9 h O rfl oM (w9 _),Ã,pv];simp only[Ã,nk,Ì,hx3]) (Z _) (w9 _) rfl oM) ?_
   show ae _ _ Sl [.lst (iL (O.set h x3))]=_;rw[<- S];exact aj (td (k:=0) (L:=X) (q:=I) (x:=x4) (by
    rw[ce,pr _ 10 I X rfl oM (wa _),Ã,pv];simp only[Ã,nk,Ì,hx4]) (Z _) (wa _) rfl oM) rfl
  rintro sl s' ⟨L,rfl,lL,W,H,N,G,E,C,A,y,o,rfl⟩;rw[ą]at W;have W:∀x∈L,x.natAbs<=72:=fun x p=>z5 (W x p) oM
  clear hR;refine aA (sl':=[Is c,Is n,Zs (nL D),Rs 1,H,N,G,E,C,A,y,o,Á]) (st':=[.lst (iL L),.lst (iL (L.drop 1))]) (by
   have:cut (iL L) (À 1) Á=iL (L.drop 1):=by
    have:=Dw (l:=iL L) (a:=1) (by rw[gE];lia)
    rw[wj]at this;exact this
   rw[eS,wN,tQ];simp only[lT,lQ,Db,tN,HJ,cq,cU,bR,bQ,Ã,Ì,ci (st:=[.lst (iL L)]) (k:=0) (xs:=iL L) rfl,this];rfl) ?_
  obtain ⟨j,hj⟩:∃ j,j=1 + g / 4 % 3:=⟨_,rfl⟩;have hj3:1 <= j/\j <= 3:=by rw [hj];have:=ģ (g / 4) (show 0 < 3 by decide);lia
  obtain⟨D3,hD3⟩:∃D3,D3=(D.drop 1).take (j-1):=⟨_,rfl⟩;have lD3:D3.length<=2:=by rw[hD3,Ĕ];lia
  have lL1:(L.drop 1).length=M-1:=by rw[ņ];lia
  refine j9 (em:=fun q:Nat=>AV.int (q:Int)) (xs:=D3) (gd:=[]) (st0:=[.lst (iL L),.lst (iL (L.drop 1))]) (fun i sl s=>∃K,s=[.lst (iL L),.lst (iL K)]/\K.length=M-1/\(∀x∈K,x.natAbs<=72+i)/\∃H N G E C A y o yc,sl=[Is c,Is n,Zs (nL D),Rs 1,H,N,G,E,C,A,y,o,yc]) (by
   have f4:∀st,bh .FloorDiv st (.int (g:Int)) (.int 4)=À (.int ((g/4:Nat):Int)):=fun st=>Me rfl dC
   have m3:∀st,bh .Mod st (.int ((g/4:Nat):Int)) (.int 3)=À (.int ((g/4%3:Nat):Int)):=fun st=>kQ dC
   have a1:∀st,bh .Add st (.int 1) (.int ((g/4%3:Nat):Int))=À (.int (j:Int)):=fun st=>by
    rw[iQ];exact congrArg (fun q=>À (AV.int q)) oM
   have cu3:cut (nL D) (À 1) (À (j:Int))=nL D3:=by
    have:=uJ (l:=nL D) (a:=1) (b:=j) oM oM
    rw[hD3];unfold nL at this ⊢;rw[ϖ,ţ];exact this
   rw[IG,du,tQ];simp only[lT,lQ,tN,cq,cU,ce,eQ,bR,bQ,Ã,Ì,i0,f4,m3,a1,dI,cu3,pj,ite_true,uh];rfl) (fun _ _ _ _=>rfl) ⟨_,rfl,lL1,fun x p=>W x (J? p),_,_,_,_,_,_,_,_,_,rfl⟩ ?_ ?_
  ·rintro i d sl s' Q ⟨K,rfl,lK,bK,H,N,G,E,C,A,y,o,yc,rfl⟩
   have hi:i<2:=by have:=(zB.mp Q).1;lia
   obtain⟨t,ht⟩:∃t,t=d%(M-1):=⟨_,rfl⟩;have tl:t<K.length:=by rw[ht,lK];exact ģ _ oM
   have g1:=pU bK tl;refine ⟨([Is c,Is n,Zs (nL D),Rs 1,H,Is (d:Int),G,E,C,A,y,o,yc],[.lst (iL L),.lst (iL K)]),[Is c,Is n,Zs (nL D),Rs 1,H,Is (d:Int),G,E,C,A,y,o,Is (t:Int)],[.lst (iL L),.lst (iL (K.set t (gI K t + (d / 8 % 3:Nat) - 1)))],rfl,?_,_,rfl,by rw [à];exact lK,u6 bK oM (by have:=ģ (d / 8) (show 0 < 3 by decide);lia),_,_,_,_,_,_,_,_,_,rfl⟩;have ln:bI eV [.ref 1] [.lst (iL L),.lst (iL K)]=À (.int ((M - 1:Nat):Int),[.lst (iL L),.lst (iL K)]):=by
    show À (AV.int ((iL K).length:Int),_)=_;rw[gE,lK]
   have mt:bh .Mod [.lst (iL L),.lst (iL K)] (.int (d:Int)) (.int ((M-1:Nat):Int))=À (.int (t:Int)):=by rw[ht];exact kQ oM
   have f8:bh .FloorDiv [.lst (iL L),.lst (iL K)] (.int (d:Int)) (.int 8)=À (.int ((d/8:Nat):Int)):=Me rfl dC;have m3:bh .Mod [.lst (iL L),.lst (iL K)] (.int ((d/8:Nat):Int)) (.int 3)=À (.int ((d/8%3:Nat):Int)):=kQ dC;refine aj (sl':=[Is c,Is n,Zs (nL D),Rs 1,H,Is (d:Int),G,E,C,A,y,o,Is (t:Int)]) (st':=[.lst (iL L),.lst (iL K)]) (by
    rw[eS];simp only[ce,oy,aQ,ba,cq,bR,bQ,Ã,Ì,AX,ln,mt];rfl) ?_
   refine(aj (td (k:=1) (L:=K) (q:=t) (x:=gI K t+(d/8%3:Nat)-1) (by
    have:=L7 (st:=[.lst (iL L),.lst (iL K)]) (k:=1) (L:=K) rfl tl
    simp only[ce,eQ,cq,cU,bR,bQ,Ã,Ì,this,f8,m3,iQ,nk]) rfl rfl rfl tl) rfl).trans rfl
  rintro sl s' ⟨K,rfl,lK,bK,H,N,G,E,C,A,y,o,yc,rfl⟩;exact⟨_,rfl,K,mR rfl,lK,fun x p=>z5 (bK x p) oM⟩
 obtain⟨r,e,L,e2,h1,h2⟩:=key;exact⟨L,fun st=>aO rfl e e2,h1,h2⟩
end
section
variable{st:aa}{n w:Nat}{Y:Nat->Int}{L T:List Int}{fs:List Ft}
noncomputable def sg(n:Nat):List (Option Nat):=(É (2^n-1)).map (fun g=>À (g+1))++if n=3 then [Á] else []
noncomputable def dz:Option Nat->AV
 |some g=>.tup [.str "coin",.int (g:Int)]
 |none=>.tup [.str "odd"]
noncomputable def sT(n:Nat):Option Nat->List Int
 |some g=>(É (2^n-1)).map fun k=>if(k+1) &&& g=0 then 0 else 1
 |none=>[1,1,2,1,2,2,2]
def wc(f:Fn)(ts:List AV)(L:List AV):Bool:=match (f ts []).bind fun p=>dG p.2 p.1 with
 |some (.fz X)=>fZ X L
 |_=>Ä
theorem pE{f:Fn}{ts L:List AV}(h:wc f ts L=Â)(a:rfs ts=Â):pm f ts st=À (.fz L,st):=by
 unfold wc at h;split at h
 ·rename_i X e
  rw[<- kD h];exact dB a e
 ·cases h
def za(n:Nat):Bool:=(wc eG [.int n] ((sg n).map dz)&&wc fi [.int n] ((sg n).map dz))&&(sg n).all fun s=>wc cm [.int n,dz s] (iL (sT n s))&&wc dh [.int n,dz s] (iL (sT n s))
theorem Gq:(za 1&&(za 2&&za 3))=Â:=by kernel_rfl
theorem MV(a:ok3 n):za n=Â:=by
 have:=Gq
 simp only[zC]at this;rcases a with rfl|rfl|rfl
 ·exact this.1
 ·exact this.2.1
 ·exact this.2.2
theorem C5(s:Option Nat):rf (dz s)=Â:=by cases s<;>rfl
theorem vJ(b:ok3 n):pm eG [.int n] st=À (.fz ((sg n).map dz),st)/\pm fi [.int n] st=À (.fz ((sg n).map dz),st)/\∀s∈sg n,pm cm [.int n,dz s] st=À (.fz (iL (sT n s)),st)/\pm dh [.int n,dz s] st=À (.fz (iL (sT n s)),st):=by
 have h:=MV b;unfold za at h;simp only[zC,yQ]at h;refine⟨pE h.1.1 rfl,pE h.1.2 rfl,fun s a=>⟨pE (h.2 s a).1 ?_,pE (h.2 s a).2 ?_⟩⟩<;>simp[rfs,rf,C5]
theorem sI(a:ok3 n):∀s∈sg n,(sT n s).length=2^n-1/\(∀x∈sT n s,x.natAbs<=2)/\∀r∈jq n,0<=val (2^n-1) r (gI (sT n s)):=by rcases a with rfl|rfl|rfl<;>decide +kernel
def ft:Ft->List (Nat×Int)
 |.tl a b=>[(b ||| a,1),(a,-1)]
 |.si a b c=>iC a b c
def fv(Y:Nat->Int):Ft->Int
 |.tl a b=>HH Y (b ||| a)-HH Y a
 |.si a b c=>IH Y a b c
def fG(n:Nat)(f:Ft):Gv:=pf n (ft f)
theorem ku{f:Ft}(h:f.ok n):val (2^n-1) (dO n (ft f)) Y=fv Y f:=by
 cases f with
 |tl a b =>
  have l:=Ñ h.2.1 h.1;show val _ (dO n [(b ||| a,1),(a,-1)]) Y=HH Y (b ||| a)-HH Y a;rw[ot (by simp only[zT,zX,or_false];rintro t (rfl|rfl);exact l;exact h.1)];simp only[zO,Ğ,ú,v!];lia
 |si a b c=>exact yg h.1.1 h.2.1.1 h.2.2
theorem K2(e:ok3 n)(h:∀r∈jq n,0<=val (2^n-1) r Y){f:Ft}(d:f.ok n):0<=fv Y f:=by
 cases f with
 |tl a b =>
  have:=x8 e.four h d.2.1 d.2.1 d.1
  rw[kF]at this;exact this
 |si a b c=>exact x8 e.four h d.1.1 d.2.1.1 d.2.2
theorem Oj(j:ok3 n)(h:∀r∈jq n,0<=val (2^n-1) r Y):∃c:Option Nat->Int,(∀s∈sg n,0<=c s)/\∀x,x<2^n-1->Y x=((sg n).map fun s=>c s*gI (sT n s) x).sum:=by
 have I:=fun a b c y w v=>x8 (a:=a) (b:=b) (c:=c) j.four h y w v
 rcases j with rfl|rfl|rfl
 ·have e:=I 1 1 0 dC dC dC
  simp[IH,HH]at e;refine⟨fun _=>Y 0,fun s d=>by lia,fun x i=>?_⟩;obtain rfl:x=0:=by lia
  simp[sg,sT,gI,ŵ]
 ·have e:=I 1 1 2 dC dC dC
  have g:=I 2 2 1 dC dC dC;have f:=I 1 2 0 dC dC dC;simp[IH,HH]at e g f;refine⟨fun s=>gI [Y 2-Y 1,Y 2-Y 0,Y 0+Y 1-Y 2] (s.getD 8-1),fun s d=>?_,fun x i=>?_⟩
  ·have d:s∈[À 1,À 2,À 3]:=d
   simp only [zT,zX,or_false] at d;rcases d with rfl | rfl | rfl <;> (simp [gI];lia)
  ·rcases (show x=0\/x=1\/x=2 by lia) with rfl | rfl | rfl <;> (simp [sg,sT,gI,ŵ];try lia)
 ·have e:=I 1 1 6 dC dC dC
  have g:=I 2 2 5 dC dC dC;have f:=I 4 4 3 dC dC dC;have u:=I 1 2 4 dC dC dC;have t:=I 1 4 2 dC dC dC;have q:=I 2 4 1 dC dC dC;have m:=I 1 2 0 dC dC dC;have l:=I 1 4 0 dC dC dC;have k:=I 2 4 0 dC dC dC;simp[IH,HH]at e g f u t q m l k;obtain⟨p,C⟩:∃p,p=Y 0+Y 1+Y 3-Y 2-Y 4-Y 5+Y 6:=⟨_,rfl⟩;obtain⟨o,B,A,z⟩:∃o:Int,0<=o/\0<=p+o/\(o=0\/o=- p):=by
   rcases yU p 0 with h|h
   ·exact⟨- p,by lia,by lia,.inr rfl⟩
   ·exact⟨0,by lia,by lia,.inl rfl⟩
  refine⟨fun s=>gI [Y 6-Y 5,Y 6-Y 4,Y 4+Y 5-Y 6-Y 3-o,Y 6-Y 2,Y 2+Y 5-Y 6-Y 1-o,Y 2+Y 4-Y 6-Y 0-o,p+o,o] (s.getD 8-1),fun s d=>?_,fun x i=>?_⟩
  ·have d:s∈[À 1,À 2,À 3,À 4,À 5,À 6,À 7,Á]:=d
   simp only [zT,zX,or_false] at d;rcases d with rfl | rfl | rfl | rfl | rfl | rfl | rfl | rfl <;> (simp [gI];lia)
  ·rcases (show x=0\/x=1\/x=2\/x=3\/x=4\/x=5\/x=6 by lia) with rfl | rfl | rfl | rfl | rfl | rfl | rfl <;> (simp [sg,sT,gI,ŵ];lia)
theorem vA{S:List (Option Nat)}{c:Option Nat->Int}{X:Option Nat->Nat->Int}{r:List Int}(h:∀x,x<w->Y x=(S.map fun s=>c s*X s x).sum):val w r Y=(S.map fun s=>c s*val w r (X s)).sum:=by
 have e:val w r Y=val w r fun x=>(S.map fun s=>c s*X s x).sum:=SX.sum_congr fun x b=>by show _*_=_*_;rw[h x b]
 rw[e];clear h e
 induction S with
 |nil=>exact SX.sum_zero fun _ _=>yO _
 |cons s S a =>
  rw[zO,ú,<- a,<- kK (g:=c s) (Y:=fun x=>c s*X s x) (Y':=X s) fun _ _=>rfl,<- mQ];rfl
theorem Eh{S:List (Option Nat)}{f:Option Nat->Int}(h:(S.map f).sum<0):∃s∈S,f s<0:=by
 induction S with
 |nil=>simp at h
 |cons s S a =>
  rw[zO,ú]at h;by_cases d:f s<0
  ·exact⟨s,z7,d⟩
  ·obtain⟨t,b,c⟩:=a oM
   exact⟨t,zQ _ b,c⟩
theorem Go{S:List (Option Nat)}{f:Option Nat->Int}(c:∀s∈S,0<=f s)(h:(S.map f).sum=0):∀s∈S,f s=0:=by
 have d:∀S:List (Option Nat),(∀s∈S,0<=f s)->0<=(S.map f).sum:=fun S h=>by
  induction S with
  |nil=>simp
  |cons s S b =>
   rw[zO,ú]
   have:=h s z7
   have:=b fun t a=>h t (zQ _ a)
   lia
 induction S with
 |nil=>intro s e;cases e
 |cons s S b =>
  rw[zO,ú]at h;have i:=c s z7;have g:=d S fun t a=>c t (zQ _ a)
  intro t a;rcases zT.mp a with rfl|a
  ·lia
  ·exact b (fun t a=>c t (zQ _ a)) oM t a
def brk(n:Nat)(fs:List Ft)(L:List Int)(s:Option Nat):Bool:=decide (val (2^n-1) L (gI (sT n s))<0)&&fs.all fun f=>decide (fv (gI (sT n s)) f=0)
theorem wD(g:ok3 n)(b:∀f∈fs,f.ok n):(∀Y e,0<e->Kp (2^n-1) (jq n) (fs.map (fG n)) Y e->Hd (2^n-1) ⟨L,Ä,0⟩ Y e) ↔ (sg n).find? (brk n fs L)=Á:=by
 have m:∀Y e,Kp (2^n-1) (jq n) (fs.map (fG n)) Y e ↔ (∀r∈jq n,0<=val (2^n-1) r Y)/\∀f∈fs,fv Y f=0:=fun Y e=>by
  constructor
  ·intro k
   refine⟨k.rule,fun f h=>?_⟩
   have:=k.eq _ (yC.mpr ⟨f,h,rfl⟩) rfl
   rw[<- ku (b f h)];simpa [fG,pf] using this
  ·rintro⟨l,j⟩
   refine⟨l,fun z hz _=>?_,fun z hz A=>?_⟩
   ·obtain⟨f,h,rfl⟩:=yC.mp hz
    show val _ (dO n (ft f)) Y=0*e;rw[ku (b f h),j f h,yP]
   ·obtain⟨f,h,rfl⟩:=yC.mp hz
    cases A
 have hd:∀Y e,Hd (2^n-1) ⟨L,Ä,0⟩ Y e ↔ 0<=val (2^n-1) L Y:=fun Y e=>by unfold Hd;simp
 rw[List.find?_eq_none];constructor
 ·intro h s d i
  unfold brk at i;simp only[zC,yB,yQ]at i
  have:=(hd _ _).mp (h (gI (sT n s)) 1 dC ((m _ _).mpr ⟨(sI g s d).2.2,i.2⟩))
  lia
 ·intro h Y e _ k
  obtain⟨l,j⟩:=(m Y e).mp k;rw[hd];refine Int.not_lt.mp fun o=>?_
  obtain⟨c,w,v⟩:=Oj g l;rw[vA (X:=fun s=>gI (sT n s)) v]at o;obtain⟨s,d,B⟩:=Eh o;have x:0<c s:=by
   have:=w s d
   rcases Int.lt_or_eq_of_le this with h|h
   ·exact h
   ·rw[<- h,yP]at B;lia
  refine h s d ?_;unfold brk;simp only[zC,yB,yQ];refine⟨Int.not_le.mp fun y=>?_,fun f a=>?_⟩
  ·have:=Ý (Ă x) y
   lia
  ·have u:=j f a
   rw[<- ku (b f a),vA (X:=fun s=>gI (sT n s)) v]at u;have q:=Go (fun t p=>Ý (w t p) (by
    rw[ku (b f a)];exact K2 g (sI g t p).2.2 (b f a))) u s d
   rw[ku (b f a)]at q;rcases h!.mp q with h|h
   ·lia
   ·exact h
end
section
variable{st:aa}{n w:Nat}{L T:List Int}{fs:List Ft}{f:Ft}{ns:List Int}
theorem HQ(i:ok3 n)(d:f.ok n):pm fA [.int n,f.av] st=À (.fz (iL (dO n (ft f))),st):=by
 have ff:rf f.av=Â:=by cases f<;>rfl
 refine aO (by simp[rfs,rf,ff]) (v:=.fz (iL (dO n (ft f)))) (st':=[]) ?_ rfl;rw[fA,aw];show(ae [dM,c7] iO [Is n,À f.av] []).bind au=_;unfold iO;cases f with
 |tl a b =>
  have r:=zg (st:=[]) i.four d.2.1 d.1;have h:aJ [] (Ft.tl a b).av (.int 0)=À (.str "tells"):=rfl;have g:aJ [] (Ft.tl a b).av (.int 1)=À (.int (a:Int)):=rfl;have e:aJ [] (Ft.tl a b).av (.int 2)=À (.int (b:Int)):=rfl;have q:bg .Eq [] (.str "tells") (.str "tells")=À Â:=by kernel_rfl
  generalize (Ft.tl a b).av=t at *;refine bS (s:=.iff _ _ _) ?_;simp[h,g,e,q,r,ka,ft]
 |si a b c =>
  have r:=tB (st:=[]) i.four d.1.1 d.2.1.1 d.2.2;have h:aJ [] (Ft.si a b c).av (.int 0)=À (.str "silent"):=rfl;have g:aJ [] (Ft.si a b c).av (.int 1)=À (.int (a:Int)):=rfl;have e:aJ [] (Ft.si a b c).av (.int 2)=À (.int (b:Int)):=rfl;have j:aJ [] (Ft.si a b c).av (.int 3)=À (.int (c:Int)):=rfl;have q:bg .Eq [] (.str "silent") (.str "tells")=À Ä:=by kernel_rfl
  generalize (Ft.si a b c).av=t at *;refine af (sl':=[Is n,À t]) (st':=[]) (by simp[h,q]) (bS ?_);simp[g,e,j,r,ft]
theorem CS(a:ok3 n):2^n-1<=15:=by rcases a with rfl|rfl|rfl<;>decide
theorem vK{x:Int}{k:Nat}(h:x.natAbs<=k)(a:k<2^100):x.natAbs<2^9000:=yL h (zJ a (å dC dC))
theorem LD{α:Type}{f:α->Bool}{l:List α}:bI vd [.fz (l.map fun x=>AV.bl (f x))] st=À (.bl (l.all f),st):=by
 have:aP yu (l.map fun x=>AV.bl (f x))=À (l.map f):=cJ (f:=yu) (i:=fun x=>AV.bl (f x)) (g:=f) (fun _=>rfl) l;show(((aP yu (l.map fun x=>AV.bl (f x))).map fun bs=>AV.bl (bs.all id)).map fun z=>(z,st))=_;rw[this];show À (AV.bl ((l.map f).all id),st)=_;rw[List.all_map];rfl
theorem DA{α:Type}{f:α->Bool}{l:List α}:rfs (l.map fun x=>AV.bl (f x))=Â:=eF fun x a=>by obtain⟨i,_,rfl⟩:=yC.mp a;rfl
theorem Fp(b:ok3 n)(i:fs.length<=4)(g:∀f∈fs,f.ok n)(h:T.length=2^n-1/\∀x∈T,x.natAbs<=2):pm cb [.int n,.fz (fs.map Ft.av),.fz (iL T)] st=À (.bl (fs.all fun f=>decide (fv (gI T) f=0)),st):=by
 have c:=kS (st:=[]) (ks:=[fA,cA]) (k:=1) (it:=.e (.v 1)) (t:=.nm 3) (c:=.no) (e:=.cmp .Eq (.ca Â 1 (.cons (.ca Â 0 (.cons (.v 0) (.cons (.v 3) .nil))) (.cons (.v 2) .nil))) (.i 0)) (sl:=[Is n,Zs (fs.map Ft.av),Ls T]) (gd:=[]) (em:=Ft.av) (xs:=fs) (B:=fun _=>Â) (F:=fun f=>AV.bl (decide (fv (gI T) f=0))) rfl rfl oM fun f d=>by
  have m:=HQ (st:=[]) b (g f d);have bd:=vM (n:=n) (ts:=ft f) (m:=4) (by cases f<;>simp[ft,iC]) (by cases f<;>simp[ft,iC]);have v:=mP (st:=[]) (r:=dO n (ft f)) (X:=T) tF h.1 (CS b) (fun x a=>vK (bd x a) dC) (fun x a=>vK (h.2 x a) dC);rw[ku (g f d)]at v;exact⟨[Is n,Zs (fs.map Ft.av),Ls T,À f.av],rfl,rfl,fun _=>by simp[m,v]⟩
 rw[Ú.mpr (fun _ _=>rfl)]at c;refine aO (by simp[rfs,rf,cK,sQ]) (v:=.bl (fs.all fun f=>decide (fv (gI T) f=0))) (st':=[]) ?_ rfl;rw[cb,aw];show(ae [fA,cA] iA [Is n,Zs (fs.map Ft.av),Ls T] []).bind au=_;refine bS ?_;rw[qD,oy,aQ,du,c,Ã,yH DA];simp only[Ã,ba,Ì,Jo,LD]
theorem Ab(c:ok3 n){a b:Nat}(e:a<2^n)(d:b<2^n):bh .BitOr st (.int (a:Int)) (.int (b:Int))=À (.int ((a ||| b:Nat):Int)):=qF (iz c.four e) (iz c.four d)
theorem Iz(j:ok3 n)(d:f.ok n)(E:T.length=2^n-1):pm fQ [f.av,.fz (iL T)] st=À (.bl (decide (fv (gI T) f=0)),st):=by
 have ff:rf f.av=Â:=by cases f<;>rfl
 have h:∀g:Nat,g<2^n->aJ [] (.fz (iL (0::T))) (.int (g:Int))=À (.int (HH (gI T) g)):=fun g F=>by
  rw[Oa (T:=0::T) (i:=g) (by simp[E];lia)];unfold HH gI;cases g with
  |zero=>rfl
  |succ g=>rfl
 have p:ev [] (.nw Ä (.cat (.nw Ä (.li (.cons (.i 0) .nil))) (.v 1))) [À f.av,Ls T,Á,Á,Á,Á,Á] []=À (.fz (iL (0::T)),[]):=by
  have:=CS j
  have z:dE (1+T.length)=Â:=cH oM;rw[du,xr];unfold tT;simp only[du,B4,aQ,ba,cU,Ã,Ì,cq,bR,bQ];show(u? (if dE (1+(iL T).length)=Â then À (AV.int 0::iL T,_) else Á) _)=_;rw[gE,yH z,Ã];show(if rfs (iL (0::T))=Â then _ else _)=_;rw[yH cK];rfl
 refine aO (by simp[rfs,rf,cK,ff]) (v:=.bl (decide (fv (gI T) f=0))) (st':=[]) ?_ rfl;rw[fQ,aw];show(ae [] ii [À f.av,Ls T,Á,Á,Á,Á,Á] []).bind au=_;unfold ii;refine af (sl':=[À f.av,Ls T,Ls (0::T),Á,Á,Á,Á]) (st':=[]) (by rw[eS,p];rfl) ?_;cases f with
 |tl a b =>
  have m:aJ [] (Ft.tl a b).av (.int 0)=À (.str "tells"):=rfl;have D:aJ [] (Ft.tl a b).av (.int 1)=À (.int (a:Int)):=rfl;have C:aJ [] (Ft.tl a b).av (.int 2)=À (.int (b:Int)):=rfl;have q:bg .Eq [] (.str "tells") (.str "tells")=À Â:=by kernel_rfl
  have o:=Ab (st:=[]) j d.1 d.2.1;have l:=h (a ||| b) (Ñ d.1 d.2.1);have k:=h a d.1;have e:decide (HH (gI T) (a ||| b)=HH (gI T) a)=decide (fv (gI T) (.tl a b)=0):=by
   rw[show fv (gI T) (.tl a b)=HH (gI T) (b ||| a)-HH (gI T) a from rfl,_' b a];exact decide_eq_decide.mpr oM
  generalize (Ft.tl a b).av=t at *;generalize a ||| b=ab at *;refine bS (s:=.iff _ _ _) ?_;simp[m,D,C,q,o,l,k,e,ka]
 |si a b c =>
  have m:aJ [] (Ft.si a b c).av (.int 0)=À (.str "silent"):=rfl;have q:bg .Eq [] (.str "silent") (.str "tells")=À Ä:=by kernel_rfl
  have B:=Ab (st:=[]) j d.1.1 d.2.2;have A:=Ab (st:=[]) j d.2.1.1 d.2.2;have y:=Ab (st:=[]) j d.1.1 d.2.1.1;have r:=Ñ d.1.1 d.2.1.1;have x:=Ab (st:=[]) j r d.2.2;have l:=h (a ||| c) (Ñ d.1.1 d.2.2);have k:=h (b ||| c) (Ñ d.2.1.1 d.2.2);have w:=h (a ||| b ||| c) (Ñ r d.2.2);have u:=h c d.2.2;refine af (sl':=[À (Ft.si a b c).av,Ls T,Ls (0::T),Á,Á,Á,Á]) (st':=[]) (by
   generalize (Ft.si a b c).av=t at *;simp[m,q]) ?_
  refine af (sl':=[À (Ft.si a b c).av,Ls T,Ls (0::T),Is (a:Int),Is (b:Int),Is (c:Int),Á]) (st':=[]) rfl ?_;have e:decide (HH (gI T) (a ||| c)+HH (gI T) (b ||| c)=HH (gI T) (a ||| b ||| c)+HH (gI T) c)=decide (fv (gI T) (.si a b c)=0):=by
   rw[show fv (gI T) (.si a b c)=HH (gI T) (a ||| c)+HH (gI T) (b ||| c)-HH (gI T) (a ||| b ||| c)-HH (gI T) c from rfl];exact decide_eq_decide.mpr oM
  generalize (Ft.si a b c).av=t at *;generalize a ||| b ||| c=abc at *;generalize a ||| b=ab at *;generalize a ||| c=ac at *;generalize b ||| c=bc at *;refine af (sl':=[À t,Ls T,Ls (0::T),Is (a:Int),Is (b:Int),Is (c:Int),Is (HH (gI T) ac+HH (gI T) bc)]) (st':=[]) (by simp[B,A,l,k]) (bS ?_);simp[y,x,w,u,e]
def cW:Option (Option Nat)->AV
 |none=>.tup [.str "so"]
 |some s=>.tup [.str "broken",dz s]
theorem Ig(f:L.length<=15)(g:T.length=L.length)(b:∀x∈L,x.natAbs<2^9000)(d:∀x∈T,x.natAbs<2^9000):pm fg [.fz (iL L),.fz (iL T)] st=À (.int (val L.length L (gI T)),st):=by
 have e:=kS (st:=[]) (ks:=[]) (k:=2) (it:=.zi (.v 0) (.v 1)) (t:=.tu 2 (.cons (.nm 2) (.cons (.nm 3) .nil))) (c:=.no) (e:=.bin .Mult (.v 2) (.v 3)) (sl:=[Ls L,Ls T]) (gd:=[]) (em:=fun z:Int×Int=>AV.tup [.int z.1,.int z.2]) (xs:=L.zip T) (B:=fun _=>Â) (F:=fun z=>AV.int (z.1*z.2)) (by
  rw[<- oU];rfl) rfl (by rw[ą];lia) fun z hz=>by
   have:=ì hz
   exact⟨[Ls L,Ls T,Is z.1,Is z.2],rfl,rfl,fun _=>by simp[b9 (c6 (b _ this.1) (d _ this.2))]⟩
 rw[Ú.mpr (fun _ _=>rfl),show(L.zip T).map (fun z=>AV.int (z.1*z.2))=iL ((L.zip T).map fun z=>z.1*z.2) by unfold iL;rw[ß];rfl]at e;refine aO (by simp[rfs,rf,cK]) (v:=.int (val L.length L (gI T))) (st':=[]) ?_ rfl;rw[fg,aw];show(ae [] jn [Ls L,Ls T] []).bind au=_;refine bS ?_;have a:ev [] (.nw Ä (.lc 2 (.zi (.v 0) (.v 1)) (.tu 2 (.cons (.nm 2) (.cons (.nm 3) .nil))) .no (.bin .Mult (.v 2) (.v 3)))) [Ls L,Ls T] []=À (.fz (iL ((L.zip T).map fun z=>z.1*z.2)),[]):=by
  rw[du,e,Ã,yH cK]
 simp only[qD,oy,aQ,ba,a,Ã,AW,bI,qB,Dk,Ì];rw[qA L T oM];rfl
theorem Lr(l:ok3 n)(G:fs.length<=4)(J:∀f∈fs,f.ok n)(E:L.length=2^n-1/\∀x∈L,x.natAbs<=10000000000000000000):pm fB [.int n,.fz (fs.map Ft.av),.fz (iL L)] st=À (cW ((sg n).find? (brk n fs L)),st):=by
 have S:=fun st=>vJ (st:=st) l
 have p:∃r,fB [.int n,.fz (fs.map Ft.av),.fz (iL L)] []=À r/\r=(cW ((sg n).find? (brk n fs L)),[]):=by
  rw[fB,aw];show ∃r,(ae [eG,cm,cb,cA] iP [Is n,Zs (fs.map Ft.av),Ls L,Á,Á] []).bind au=À r/\_;unfold iP;have d:=kz (gd:=[]) (g:=cj [eG,cm,cb,cA] (.nm 3)) (s:=ae [eG,cm,cb,cA] (.cons (.as (.ca Â 1 (.cons (.v 0) (.cons (.v 3) .nil))) (.nm 4))
 (.cons (.iff (.an (.cmp .Lt (.ca Â 3 (.cons (.v 2) (.cons (.v 4) .nil))) (.i 0)) (.va (.ca Â 2 (.cons (.v 0) (.cons (.v 1) (.cons (.v 4) .nil))))))
 (.cons (.rt (.tu (.cons (.s "broken") (.cons (.v 3) .nil))))
 .nil)
 .nil)
 .nil))) (I:=fun i sl s=>s=[]/\((sg n).take i).find? (brk n fs L)=Á/\∃y z,sl=[Is n,Zs (fs.map Ft.av),Ls L,y,z]) (Post:=fun v s=>s=[]/\v=cW ((sg n).find? (brk n fs L))) (xs:=(sg n).map dz) (fun _ _ _ _ _=>rfl) (fun i y sl s C t=>by
   obtain⟨H,j,N,m,q⟩:=t;subst H;subst q;rw[zR]at C;obtain⟨x,a,rfl⟩:=zE.mp C;have D:=zW a;obtain⟨B,A,_⟩:=sI l x D;have k:=((S []).2.2 x D).1;have M:=mP (st:=[]) (r:=L) (X:=sT n x) E.1 B (CS l) (fun x a=>vK (E.2 x a) dC) (fun x a=>vK (A x a) dC);have K:=Fp (st:=[]) (T:=sT n x) l G J ⟨B,A⟩;obtain⟨b,u⟩:∃b,b=brk n fs L x:=⟨_,rfl⟩;have w:tv [eG,cm,cb,cA] (.an (.cmp .Lt (.ca Â 3 (.cons (.v 2) (.cons (.v 4) .nil))) (.i 0)) (.va (.ca Â 2 (.cons (.v 0) (.cons (.v 1) (.cons (.v 4) .nil)))))) [Is n,Zs (fs.map Ft.av),Ls L,À (dz x),Ls (sT n x)] []=À (b,[]):=by
    rw[u];unfold brk;by_cases h:val (2^n-1) L (gI (sT n x))<0<;>simp[M,K,h,tm]
   have c:cZ [eG,cm,cb,cA] (.as (.ca Â 1 (.cons (.v 0) (.cons (.v 3) .nil))) (.nm 4)) [Is n,Zs (fs.map Ft.av),Ls L,À (dz x),m] []=À (.nx [Is n,Zs (fs.map Ft.av),Ls L,À (dz x),Ls (sT n x)] []):=by simp[k]
   cases b with
   |true =>
    refine⟨([Is n,Zs (fs.map Ft.av),Ls L,À (dz x),m],[]),.rt (.tup [.str "broken",dz x]) [],rfl,aj c (oV (by rw[dF,w];rfl)),.inr ⟨_,_,rfl,rfl,?_⟩⟩;have:(sg n).find? (brk n fs L)=À x:=by
     rw[<- G! i (sg n),T5,j,Option.none_or,è (zB.mp a).1,(zB.mp a).2,í,<- u]
    rw[this];rfl
   |false =>
    refine⟨([Is n,Zs (fs.map Ft.av),Ls L,À (dz x),m],[]),.nx [Is n,Zs (fs.map Ft.av),Ls L,À (dz x),Ls (sT n x)] [],rfl,aj c (aj (sl':=[Is n,Zs (fs.map Ft.av),Ls L,À (dz x),Ls (sT n x)]) (st':=[]) (by rw[dF,w];rfl) rfl),.inl ⟨_,_,rfl,rfl,?_,_,_,rfl⟩⟩;rw[ŝ,a,ŕ,T5,j,í,<- u];rfl) (sl:=[Is n,Zs (fs.map Ft.av),Ls L,Á,Á]) (st:=[]) ⟨rfl,rfl,_,_,rfl⟩
  have F:eO [eG,cm,cb,cA] (.e (.ca Â 0 (.cons (.v 0) .nil))) [Is n,Zs (fs.map Ft.av),Ls L,Á,Á] []=À (⟨(sg n).map dz,[]⟩,[]):=by simp[(S []).1]
  rcases d with⟨sl',st',k,rfl,j,y,z,rfl⟩|⟨v,st',k,rfl,rfl⟩
  ·refine aA (sl':=[Is n,Zs (fs.map Ft.av),Ls L,y,z]) (st':=[]) (by rw[jV,F,Ã];exact k) ?_
   rw[zH,ē]at j;rw[j];exact dw (v:=.tup [.str "so"]) (st':=[]) rfl rfl
  ·exact⟨_,bS (by rw[jV,F,Ã];exact k),rfl⟩
 obtain⟨r,e,rfl⟩:=p;refine aO (by simp[rfs,rf,cK,sQ]) e ?_;generalize (sg n).find? (brk n fs L)=o;cases o with
 |none=>rfl
 |some s=>cases s<;>rfl
end
section
variable{st:aa}{n w:Nat}{L T:List Int}{fs:List Ft}{f:Ft}{ns:List Int}
theorem Fa{d:Ft->Bool}:bg .NotIn st (.bl Ä) (.fz (fs.map fun f=>AV.bl (d f)))=À (fs.all d):=by
 have e:aP (cw 8 st) (fs.map fun f=>AV.bl (d f))=À (fs.map fun f=>ŷ (d f)):=cJ (f:=cw 8 st) (i:=fun f=>AV.bl (d f)) (g:=fun f=>ŷ (d f)) (fun _=>rfl) fs;have p:cw 9 st (.fz (fs.map fun f=>AV.bl (d f)))=À (.list (fs.map fun f=>ŷ (d f))):=by
  show(aP (cw 8 st) _).map _=_;rw[e];rfl
 show(pH st (.bl Ä) (.fz (fs.map fun f=>AV.bl (d f)))).map (!·)=_;unfold pH;show(((cw 9 st (.bl Ä)).bind fun q=>(cw 9 st (.fz _)).bind _)).map _=_;rw[p,show cw 9 st (.bl Ä)=À (.bool Ä) from rfl,Ã,Ã];dsimp only;rw[yH (by
  rw[yQ];intro x b;obtain⟨f,_,rfl⟩:=yC.mp b;cases d f<;>rfl)]
 simp only[Ì];congr 1
 induction fs with
 |nil=>rfl
 |cons f fs a =>
  have a:=a (by exact cJ (f:=cw 8 st) (i:=fun f=>AV.bl (d f)) (g:=fun f=>ŷ (d f)) (fun _=>rfl) fs) (by
   show(aP (cw 8 st) _).map _=_;rw[cJ (f:=cw 8 st) (i:=fun f=>AV.bl (d f)) (g:=fun f=>ŷ (d f)) (fun _=>rfl) fs];rfl)
  rw[zO,Ŋ,Bool.not_or,a,ĩ];cases d f<;>rfl
def LK(k:Nat)(p:Ī):Prop:=p.canLay0=Â/\p.depth<=k
theorem g9{k:Nat}{l:List Ī}(h:∀x∈l,LK k x):LK (k+1) (.list l)/\LK (k+1) (.tuple l):=by
 have:O? l=Â/\T? l<=k:=by
  induction l with
  |nil=>exact⟨rfl,ł _⟩
  |cons x l c =>
   obtain⟨a,b⟩:=h x z7;have c:=c fun y d=>h y (zQ _ d)
   exact⟨by simp only[O?,a,c.1,ť],by simp only[T?];lia⟩
 exact⟨⟨by simp only[Ϻ,this.1],by simp only[o?];lia⟩,⟨by simp only[Ϻ,this.1],by simp only[o?];lia⟩⟩
theorem vS{x:AV}{p:Ī}(h:cw 9 st x=À p)(c:LK 9 p):bg .NotEq st x x=À Ä:=by
 obtain⟨a,b⟩:=c;show(rL st x x).map (!·)=_;unfold rL;rw[h,Ã,Ã,yH (by unfold DD.pyOk;rw[a,yV oM];rfl),SeqAt.eqv_refl p a];rfl
theorem LK.up{k m:Nat}{p:Ī}(h:LK k p)(a:k<=m):LK m p:=⟨h.1,z5 h.2 a⟩
theorem oH(i:Int):LK 0 (.int i):=⟨rfl,zP _⟩
theorem Ik:LK 0 (.str "tells")/\LK 0 (.str "silent")/\LK 0 (.str "so")/\LK 0 (.str "broken")/\LK 0 (.str "coin")/\LK 0 (.str "odd"):=by
 have:∀s:Í,PyData.strOk s=Â->LK 0 (.str s):=fun s h=>⟨h,zP _⟩
 refine⟨this _ ?_,this _ ?_,this _ ?_,this _ ?_,this _ ?_,this _ ?_⟩<;>decide +kernel
noncomputable def AG:Ft->Ī
 |.tl a b=>.tuple [.str "tells",.int (a:Int),.int (b:Int)]
 |.si a b c=>.tuple [.str "silent",.int (a:Int),.int (b:Int),.int (c:Int)]
theorem K3(f:Ft):LK 1 (AG f):=by
 have l:=Ik;cases f with
 |tl a b=>exact(g9 (by simp only[zT,zX,or_false];rintro x (rfl|rfl|rfl);exact l.1;exact oH _;exact oH _)).2
 |si a b c=>exact(g9 (by simp only[zT,zX,or_false];rintro x (rfl|rfl|rfl|rfl);exact l.2.1;exact oH _;exact oH _;exact oH _)).2
theorem Fd:bg .NotEq st (.fz [.fz (fs.map Ft.av),.fz (iL L)]) (.fz [.fz (fs.map Ft.av),.fz (iL L)])=À Ä:=by
 have c:aP (cw 7 st) (fs.map Ft.av)=À (fs.map AG):=cJ (f:=cw 7 st) (i:=Ft.av) (g:=AG) (fun f=>by cases f<;>rfl) fs;refine vS (p:=.list [.list (fs.map AG),.list (L.map Ϲ)]) ?_ (LK.up (g9 (k:=2) fun x b=>?_).1 dC)
 ·show(aP (cw 8 st) [.fz (fs.map Ft.av),.fz (iL L)]).map _=_
  have e:cw 8 st (.fz (fs.map Ft.av))=À (.list (fs.map AG)):=by show(aP (cw 7 st) _).map _=_;rw[c];rfl
  have d:cw 8 st (.fz (iL L))=À (.list (L.map Ϲ)):=by show(aP (cw 7 st) _).map _=_;rw[Ib];rfl
  simp only[aP,e,d,Ã,Ì]
 ·simp only[zT,zX,or_false]at b
  rcases b with rfl|rfl
  ·exact(g9 fun y a=>by obtain⟨f,_,rfl⟩:=yC.mp a;exact K3 f).1
  ·exact LK.up (g9 (k:=0) fun y a=>by obtain⟨i,_,rfl⟩:=yC.mp a;exact oH i).1 dC
theorem HP(o:Option (Option Nat)):bg .NotEq st (cW o) (cW o)=À Ä:=by
 have l:=Ik
 match o with
 |none=>kernel_rfl
 |some Á=>kernel_rfl
 |some (À g) =>
  refine vS (p:=.tuple [.str "broken",.tuple [.str "coin",.int (g:Int)]]) rfl (LK.up (g9 (k:=1) fun x b=>?_).2 dC);simp only[zT,zX,or_false]at b;rcases b with rfl|rfl
  ·exact LK.up l.2.2.2.1 dC
  ·exact(g9 fun y a=>by
    simp only[zT,zX,or_false]at a;rcases a with rfl|rfl
    ·exact l.2.2.2.2.1
    ·exact oH _).2
theorem Lb(o:Option (Option Nat)):bg .Eq st (cW o) (.tup [.str "so"])=À o.isNone:=by
 match o with
 |none=>kernel_rfl
 |some Á=>kernel_rfl
 |some (À g)=>kernel_rfl
theorem Hk{fn:Fn}{a c t:AV}{k:Nat}{X:List AV}(g:rf a=Â)(d:rf c=Â)(n:aP (dG st) [a,.ref k,c]=À [a,.fz X,c])(m:st[k]?=À (.lst X))(h:rfs X=Â)(e:pm fn [a,.fz X,c] st=À (t,st))(l:flat t=Ä):pm fn [a,.ref k,c] st=À (t,st.set k (.al (.fz X))):=by
 have r:rfs [a,.fz X,c]=Â:=by simp[rfs,rf,g,d,h]
 unfold pm at e ⊢;rw[yH r]at e;obtain⟨p,j,u⟩:=zA e;obtain⟨v,i,b⟩:=zE.mp u;injection b with b;subst b;rw[yG (by simp[rfs,rf]),n,Ã,j,Ã,i,Ã,yG (by rw[l];decide)];have f:mw st [a,.ref k,c]=À ([a,.fz X,c],st.set k (.al (.fz X))):=by
  have s:∀st,jG st a=À (a,st):=fun st=>by unfold jG;rw[yH g]
  have o:∀st,jG st c=À (c,st):=fun st=>by unfold jG;rw[yH d]
  have q:jG st (.ref k)=À (.fz X,st.set k (.al (.fz X))):=by
   unfold jG;rw[yG (by simp[rf])];dsimp only;rw[m];dsimp only;rw[yH h]
  simp only[mw,s,q,o,Ã,Ì]
 rw[f,Ã,j,Ã,i];rfl
abbrev KS:List Fn:=[d9,d8,fC,fi,dh,fQ,fg,fB,kI,jt,eA]
theorem JT{sl:Sl}{ks:List Fn}(d:ns.length<=63)(h:ev ks (.v 0) sl st=À (.fz (iL ns),st)):∃N,eO ks (.r3 (.i 0) (.bi .max (.cons (.i 3) (.cons (.bi .min (.cons (.i 45) (.cons (.bin .Sub (.bi .len (.cons (.v 0) .nil)) (.i 2)) .nil))) .nil))) (.i 3)) sl st=À (⟨(É N).map fun q:Nat=>AV.int ((3*q:Nat):Int),[]⟩,st):=by
 obtain⟨j,a⟩:∃j:Int,j=(if(if((ns.length:Nat):Int)-2<45 then((ns.length:Nat):Int)-2 else 45) > 3 then(if((ns.length:Nat):Int)-2<45 then((ns.length:Nat):Int)-2 else 45) else 3):=⟨_,rfl⟩;have b:∃q:Nat,q<=45/\j=(q:Int):=⟨j.toNat,by rw[a];split<;>split<;>lia,by rw[a];split<;>split<;>lia⟩;have e:ev ks (.bi .max (.cons (.i 3) (.cons (.bi .min (.cons (.i 45) (.cons (.bin .Sub (.bi .len (.cons (.v 0) .nil)) (.i 2)) .nil))) .nil))) sl st=À (.int j,st):=by
  simp only[oy,aQ,ba,ce,cU,h,Ã,AX,Kz,nk,Ì,Jm,Jn];rw[a];rfl
 obtain⟨q,c,rfl⟩:=b;refine⟨ia 0 (q:Int) 3,?_⟩;rw[Nl];unfold Dl;rw[cU,Ã];dsimp only;rw[e,Ã];dsimp only;rw[cU,Ã];dsimp only;have ok:o9 0 (q:Int) 3=Â:=by
  have:∀q:Nat,q<=45->o9 0 (q:Int) 3=Â:=by decide
  exact this q c
 rw[yH ok];have:oB 0 (q:Int) 3=(É (ia 0 (q:Int) 3)).map fun q:Nat=>AV.int ((3*q:Nat):Int):=by
  unfold oB;refine ķ fun i _=>?_
  rw[show(0:Int)+(i:Int)*3=((3*i:Nat):Int) by lia]
 rw[this]
def Mq(ns:List Int)(sl:Sl):Prop:=∃k j i h g f e d c b a,sl=[Ls ns,k,j,i,h,g,f,e,d,c,b,a]
theorem Ob{ks:List Fn}{c:Tx}{a b:PP}{sl:Sl}{P:Sl->Prop}(h:tv ks c sl st=À (Â,st))(e:∃r,ae ks a sl st=À r/\∃sl2 st2,r=.nx sl2 st2/\P sl2):∃r,ae ks (.cons (.iff c a b) .nil) sl st=À r/\∃sl2 st2,r=.nx sl2 st2/\P sl2:=by
 obtain⟨r,f,sl2,st2,rfl,d⟩:=e;exact⟨_,aj (by rw[dF,h,Ã];exact f) rfl,_,_,rfl,d⟩
theorem KA(hns:ns.length<=63):∃st,qr [.fz (iL ns)] []=À (.bl Â,st):=by
 have key:∃r,qr [.fz (iL ns)] []=À r/\r.1=.bl Â:=by
  rw[qr,aw];show ∃r,(ae KS sR [Ls ns,Á,Á,Á,Á,Á,Á,Á,Á,Á,Á,Á] []).bind au=À r/\_;unfold sR;obtain⟨N,hN⟩:=JT (ks:=KS) (st:=[]) (sl:=[Ls ns,Á,Á,Á,Á,Á,Á,Á,Á,Á,Á,Á]) hns rfl;refine j9 (em:=fun q:Nat=>AV.int ((3*q:Nat):Int)) (xs:=É N) (gd:=[]) (st0:=[]) (fun i sl s=>∃y1 y2 S R M w u p D C A,sl=[Ls ns,y1,y2,S,R,M,w,u,p,D,C,A]) hN (fun _ _ _ _=>rfl) ⟨_,_,_,_,_,_,_,_,_,_,_,rfl⟩ ?_ fun sl' st' _=>dw (v:=.bl Â) (st':=st') rfl rfl
  rintro i q sl s _ ⟨y1,y2,S,R,M,w,u,p,D,C,A,rfl⟩;obtain⟨k,hk⟩:∃k,k=3*q:=⟨_,rfl⟩;obtain⟨n,I,en⟩:∃n,ok3 n/\(1:Int)+gI ns k%3=(n:Int):=by
   have h1:=Ź (gI ns k) (show (3:Int) ≠ 0 by decide);have h2:=ř (gI ns k) (show (0:Int) < 3 by decide);exact ⟨(1 + gI ns k % 3).toNat,by unfold ok3;lia,by lia⟩
  obtain⟨fs,e1,lf,U⟩:=Fy (c:=gI ns (k+1)) I;obtain⟨L,e2,lL,bL⟩:=JR (c:=gI ns (k+2)) I;have e1:=e1 s;have e2:=e2 s;have c0:=uV (st:=s) (ns:=ns) (k:=k);have c1:=uV (st:=s) (ns:=ns) (k:=k+1);have c2:=uV (st:=s) (ns:=ns) (k:=k+2);have k1:(k:Int)+1=((k+1:Nat):Int):=by lia
  have k2:(k:Int)+2=((k+2:Nat):Int):=by lia
  have m3:bh .Mod s (.int (gI ns k)) (.int 3)=À (.int (gI ns k%3)):=Dg dC;obtain⟨o,ho⟩:∃o,o=(sg n).find? (brk n fs L):=⟨_,rfl⟩;have by_:=Lr (st:=s) I lf U ⟨lL,bL⟩;rw[<- ho]at by_;obtain⟨S1,S2,S3⟩:=vJ (st:=s) I
  suffices H:∃r,ae KS (.cons (.as (.bin .Add (.i 1) (.bin .Mod (.ca Â 0 (.cons (.v 0) (.cons (.v 1) .nil))) (.i 3))) (.nm 2)) _) [Ls ns,Is (k:Int),y2,S,R,M,w,u,p,D,C,A] s=À r/\∃J O,r=.nx J O/\Mq ns J by
   obtain⟨r,Y,J,O,rfl,h⟩:=H;exact⟨([Ls ns,Is (k:Int),y2,S,R,M,w,u,p,D,C,A],s),J,O,by rw[hk];rfl,Y,h⟩
  refine fU (sl':=[Ls ns,Is (k:Int),Is (n:Int),S,R,M,w,u,p,D,C,A]) (st':=s) (by simp[c0,m3,en]) ?_;refine fU (sl':=[Ls ns,Is (k:Int),Is (n:Int),Zs (fs.map Ft.av),R,M,w,u,p,D,C,A]) (st':=s) (by rw[eS];simp only[fV,aQ,ba,ce,cq,cU,bR,bQ,Ã,Ì,fR,fY,gC,iQ,k1,c1,e1];rfl) ?_;refine fU (sl':=[Ls ns,Is (k:Int),Is (n:Int),Zs (fs.map Ft.av),Ls L,M,w,u,p,D,C,A]) (st':=s) (by rw[eS];simp only[fV,aQ,ba,ce,cq,cU,bR,bQ,Ã,Ì,fR,fY,gC,iQ,k2,c2,e2];rfl) ?_;refine fU (sl':=[Ls ns,Is (k:Int),Is (n:Int),Zs (fs.map Ft.av),Ls L,À (cW Á),w,u,p,D,C,A]) (st':=s) rfl ?_;refine CO (em:=dz) (xs:=(sg n).reverse) (gd:=[]) (st0:=s) (fun i sl j=>j=s/\∃w u p,sl=[Ls ns,Is (k:Int),Is (n:Int),Zs (fs.map Ft.av),Ls L,À (cW (((sg n).reverse.take i).reverse.find? (brk n fs L))),w,u,p,D,C,A]) (by
   have rr:rfs ((sg n).map dz).reverse=Â:=eF fun x G=>by
    obtain⟨z,_,rfl⟩:=yC.mp (U?.mp G);exact C5 z
   rw[IG,du,show ∀a b sl st,jk KS (.rev a b) sl st=xt (ev KS a) (ev KS b) sl st from fun _ _ _ _=>rfl];unfold xt;simp only[fV,aQ,ba,cq,bR,bQ,Ã,Ì,fR,fY,gC,S2,Mz,cU];simp only[show iY .USub s (.int 1)=À (.int (-1)) from rfl,Ì,Ã,dI,ite_true,rr,uh,List.map_reverse]) (fun _ _ _ _=>rfl) ⟨rfl,_,_,_,rfl⟩ ?_ ?_
  ·rintro i x sl j G ⟨rfl,w,u,p,rfl⟩
   have K:x∈sg n:=U?.mp (zW G);obtain⟨t1,t2,_⟩:=sI I x K;have f1:=(S3 x K).2;have f2:=Ig (st:=j) (L:=L) (T:=sT n x) (by have:=CS I;lia) oM (fun x G=>vK (bL x G) dC) (fun x G=>vK (t2 x G) dC);rw[lL]at f2;have lc:=kS (st:=j) (ks:=KS) (k:=1) (it:=.e (.v 3)) (t:=.nm 12) (c:=.no) (e:=.ca Â 5 (.cons (.v 12) (.cons (.v 7) .nil))) (sl:=[Ls ns,Is (k:Int),Is (n:Int),Zs (fs.map Ft.av),Ls L,À (cW (((sg n).reverse.take i).reverse.find? (brk n fs L))),À (dz x),Ls (sT n x),p,D,C,A]) (gd:=[]) (em:=Ft.av) (xs:=fs) (B:=fun _=>Â) (F:=fun f=>AV.bl (decide (fv (gI (sT n x)) f=0))) rfl rfl oM fun f hfm=>by
    have kv:=Iz (st:=j) (T:=sT n x) I (U f hfm) t1;exact⟨[Ls ns,Is (k:Int),Is (n:Int),Zs (fs.map Ft.av),Ls L,À (cW (((sg n).reverse.take i).reverse.find? (brk n fs L))),À (dz x),Ls (sT n x),p,D,C,A,À f.av],rfl,rfl,fun _=>by simp[kv]⟩
   rw[Ú.mpr (fun _ _=>rfl)]at lc;have ni:=Fa (st:=j) (fs:=fs) (d:=fun f=>decide (fv (gI (sT n x)) f=0));have Y:(((sg n).reverse.take (i+1)).reverse.find? (brk n fs L))=if brk n fs L x=Â then À x else((sg n).reverse.take i).reverse.find? (brk n fs L):=by
    rw[ŝ,G,ŕ,List.reverse_append];show List.find? _ (x::_)=_;rw[í];cases brk n fs L x<;>rfl
   rw[Y];generalize ((sg n).reverse.take i).reverse.find? (brk n fs L)=d at *;obtain⟨b,hb⟩:∃b,b=brk n fs L x:=⟨_,rfl⟩;obtain⟨Z,hZ⟩:∃Z,Z=AV.fz (fs.map fun f=>AV.bl (decide (fv (gI (sT n x)) f=0))):=⟨_,rfl⟩;rw[<- hZ]at ni;refine⟨([Ls ns,Is (k:Int),Is (n:Int),Zs (fs.map Ft.av),Ls L,À (cW d),À (dz x),u,p,D,C,A],j),[Ls ns,Is (k:Int),Is (n:Int),Zs (fs.map Ft.av),Ls L,À (cW (if brk n fs L x=Â then À x else d)),À (dz x),Ls (sT n x),À Z,D,C,A],j,rfl,?_,rfl,_,_,_,rfl⟩;refine aj (sl':=[Ls ns,Is (k:Int),Is (n:Int),Zs (fs.map Ft.av),Ls L,À (cW d),À (dz x),Ls (sT n x),p,D,C,A]) (st':=j) (by simp[-List.map_map,f1]) ?_;refine aj (sl':=[Ls ns,Is (k:Int),Is (n:Int),Zs (fs.map Ft.av),Ls L,À (cW d),À (dz x),Ls (sT n x),À Z,D,C,A]) (st':=j) (by
    rw[eS,du,lc,Ã,yH DA,<- hZ];rfl) ?_
   have tt:tv KS (.an (.cmp .Lt (.ca Â 6 (.cons (.v 4) (.cons (.v 7) .nil))) (.i 0)) (.cmp .NotIn (.b Ä) (.v 8))) [Ls ns,Is (k:Int),Is (n:Int),Zs (fs.map Ft.av),Ls L,À (cW d),À (dz x),Ls (sT n x),À Z,D,C,A] j=À (b,j):=by
    rw[hb];unfold brk;generalize fs.all (fun f=>decide (fv (gI (sT n x)) f=0))=al at *;by_cases h:val (2^n-1) L (gI (sT n x))<0<;>simp[f2,h,ni]
   refine aj (s:=.iff _ _ _) (sl':=[Ls ns,Is (k:Int),Is (n:Int),Zs (fs.map Ft.av),Ls L,À (cW (if brk n fs L x=Â then À x else d)),À (dz x),Ls (sT n x),À Z,D,C,A]) (st':=j) ?_ rfl;rw[dF,tt,Ã,<- hb];cases b<;>rfl
  rintro sl j ⟨rfl,w,u,p,rfl⟩;rw[œ,show(sg n).reverse.take (sg n).length=(sg n).reverse by rw[<- œ,ē],List.reverse_reverse,<- ho];refine fU (sl':=[Ls ns,Is (k:Int),Is (n:Int),Zs (fs.map Ft.av),Ls L,À (cW o),w,u,p,Zs [.fz (fs.map Ft.av),.fz (iL L)],C,A]) (st':=j) (by
   have r1:=sQ fs;have r2:=cK (l:=L);rw [eS,du,B4,aQ,du,Dd];simp only [oF,cq,bR,bQ,Ã,dI,Ì,r1,ite_true,aQ,du,Dd,r2,ba];rw [yH (show dE _=Â from rfl),Ã];have:rfs [AV.fz (fs.map Ft.av),.fz (iL L)]=Â:=by simp [rfs,rf,r1,r2]
   dsimp only;rw[yH this];rfl) ?_
  have nh:=Fd (st:=j) (fs:=fs) (L:=L);have nd:=HP (st:=j) o;refine fU (sl':=[Ls ns,Is (k:Int),Is (n:Int),Zs (fs.map Ft.av),Ls L,À (cW o),w,u,p,Zs [.fz (fs.map Ft.av),.fz (iL L)],C,A]) (st':=j) (by
   have h0:aJ j (.fz [.fz (fs.map Ft.av),.fz (iL L)]) (.int 0)=À (.fz (fs.map Ft.av)):=rfl;have h1:aJ j (.fz [.fz (fs.map Ft.av),.fz (iL L)]) (.int 1)=À (.fz (iL L)):=rfl;have hl:ev KS (.nw Ä (.li (.cons (.v 3) (.cons (.v 4) .nil)))) [Ls ns,Is (k:Int),Is (n:Int),Zs (fs.map Ft.av),Ls L,À (cW o),w,u,p,Zs [.fz (fs.map Ft.av),.fz (iL L)],C,A] j=À (.fz [.fz (fs.map Ft.av),.fz (iL L)],j):=by
    have:rfs [AV.fz (fs.map Ft.av),.fz (iL L)]=Â:=by simp[rfs,rf,sQ,cK]
    rw [du,B4];simp only [aQ,ba,cq,bR,bQ,Ã,Ì];rw [yH (show dE _=Â from rfl),Ã];dsimp only;rw [yH this]
   rw[dF];simp only[MG,eN,fV,aQ,ba,eQ,cq,cU,bR,bQ,Ã,Ì,fR,fY,gC,h0,h1,by_,nd,hl,nh];rfl) ?_
  by_cases W:(k:Int)<12
  case neg =>
   exact⟨_,aj (sl':=[Ls ns,Is (k:Int),Is (n:Int),Zs (fs.map Ft.av),Ls L,À (cW o),w,u,p,Zs [.fz (fs.map Ft.av),.fz (iL L)],C,A]) (st':=j) (by
    rw[dF];simp only[eN,cq,cU,bR,bQ,Ã,Ì,xR,W,decide_false];rfl) rfl,_,_,rfl,_,_,_,_,_,_,_,_,_,_,_,rfl⟩
  obtain⟨t,et,F⟩:=Nu (gv:=fs.map (fG n)) (z:=⟨L,Ä,0⟩) I.four (by simp;lia) (fun z hz=>by
   obtain⟨f,K,rfl⟩:=yC.mp hz;exact⟨tF,fun x G=>z5 (vM (m:=4) (by cases f<;>simp[ft,iC]) (by cases f<;>simp[ft,iC]) x G) (by unfold M0;decide),by simp[fG,pf]⟩) ⟨lL,fun x G=>z5 (bL x G) (by unfold M0;decide),by simp⟩
  obtain⟨tb,ht0,Q⟩:∃tb:Bool,(∀st,aJ st t (.int 0)=À (.bl tb))/\flat t=Ä/\(tb=o.isNone):=by
   rcases F with⟨ps,rfl,h⟩|⟨V,E,rfl,TV,hV⟩
   ·have:=(wD (L:=L) I U).mp h
    rw[<- ho]at this;exact⟨Â,fun _=>rfl,rfl,by rw[this];rfl⟩
   ·refine⟨Ä,fun _=>rfl,rfl,?_⟩
    cases o with
    |some _=>rfl
    |none=>exact absurd ((wD (L:=L) I U).mpr ho.symm _ _ TV.pos TV.kp) hV
  obtain⟨Q,ht2⟩:=Q;refine Ob (P:=Mq ns) (by simp only[eN,cq,cU,bR,bQ,Ã,Ì,xR,W,decide_true]) ?_;obtain⟨m,K⟩:∃m:Nat->List AV,m=fun i=>(fs.take i).map fun f=>(fG n f).av:=⟨_,rfl⟩
  have ml:∀i,(m i).length<=4:=fun i=>by rw[K];simp;lia
  refine fU (sl':=[Ls ns,Is (k:Int),Is (n:Int),Zs (fs.map Ft.av),Ls L,À (cW o),w,u,p,Zs [.fz (fs.map Ft.av),.fz (iL L)],Rs j.length,A]) (st':=j++[.lst (m 0)]) (by rw[K];rfl) ?_;refine CO (em:=Ft.av) (xs:=fs) (gd:=[]) (st0:=j++[.lst (m 0)]) (fun i sl st=>st=j++[.lst (m i)]/\∃y,sl=[Ls ns,Is (k:Int),Is (n:Int),Zs (fs.map Ft.av),Ls L,À (cW o),w,u,p,Zs [.fz (fs.map Ft.av),.fz (iL L)],Rs j.length,y]) rfl (fun _ _ _ _=>rfl) ⟨rfl,_,rfl⟩ ?_ ?_
  ·rintro i f sl st G ⟨rfl,y,rfl⟩
   have fk:=U f (zW G);have Y:m (i+1)=m i++[(fG n f).av]:=by
    rw[K];dsimp only;rw[ŝ,G,ŕ,Ħ];rfl
   rw[Y];have mi:=ml i;generalize m i=X at *;have i0:aJ (j++[.lst X]) f.av (.int 0)=À (.str (match f with|.tl _ _=>"tells"|.si _ _ _=>"silent")):=by cases f<;>rfl
   refine⟨([Ls ns,Is (k:Int),Is (n:Int),Zs (fs.map Ft.av),Ls L,À (cW o),w,u,p,Zs [.fz (fs.map Ft.av),.fz (iL L)],Rs j.length,À f.av],j++[.lst X]),[Ls ns,Is (k:Int),Is (n:Int),Zs (fs.map Ft.av),Ls L,À (cW o),w,u,p,Zs [.fz (fs.map Ft.av),.fz (iL L)],Rs j.length,À f.av],j++[.lst (X++[(fG n f).av])],rfl,?_,rfl,_,rfl⟩;refine aj (s:=.iff _ _ _) ?_ rfl;rw[dF];simp only[eN,eQ,cq,cU,qZ,bR,bQ,Ã,Ì,i0];cases f with
   |tl a b =>
    have q:bg .Eq (j++[.lst X]) (.str "tells") (.str "tells")=À Â:=by kernel_rfl
    have tv:=Eb (st:=j++[.lst X]) I.four fk.1 fk.2.1 fk.2.2;have i1:aJ (j++[.lst X]) (Ft.tl a b).av (.int 1)=À (.int (a:Int)):=rfl;have i2:aJ (j++[.lst X]) (Ft.tl a b).av (.int 2)=À (.int (b:Int)):=rfl;dsimp only;rw[q];have ap:=jR (ks:=KS) (a:=.v 10) (e:=.ca Â 8 (.cons (.v 2) (.cons (.ix (.v 11) (.i 1)) (.cons (.ix (.v 11) (.i 2)) .nil)))) (y:=(fG n (.tl a b)).av) (k:=j.length) (xs:=X) (sl:=[Ls ns,Is (k:Int),Is (n:Int),Zs (fs.map Ft.av),Ls L,À (cW o),w,u,p,Zs [.fz (fs.map Ft.av),.fz (iL L)],Rs j.length,À (Ft.tl a b).av]) (st:=j++[.lst X]) rfl (by
     simp only[fV,aQ,ba,eQ,cq,cU,bR,bQ,Ã,Ì,i1,i2,fR,fY,gC,tv];rfl) gl oM
    rw[dN]at ap;exact aj ap rfl
   |si a b c =>
    have q:bg .Eq (j++[.lst X]) (.str "silent") (.str "tells")=À Ä:=by kernel_rfl
    have tv:=Bv (st:=j++[.lst X]) I.four fk.1.1 fk.1.2 fk.2.1.1 fk.2.1.2 fk.2.2;have i1:aJ (j++[.lst X]) (Ft.si a b c).av (.int 1)=À (.int (a:Int)):=rfl;have i2:aJ (j++[.lst X]) (Ft.si a b c).av (.int 2)=À (.int (b:Int)):=rfl;have i3:aJ (j++[.lst X]) (Ft.si a b c).av (.int 3)=À (.int (c:Int)):=rfl;dsimp only;rw[q];have ap:=jR (ks:=KS) (a:=.v 10) (e:=.ca Â 9 (.cons (.v 2) (.cons (.ix (.v 11) (.i 1)) (.cons (.ix (.v 11) (.i 2)) (.cons (.ix (.v 11) (.i 3)) .nil))))) (y:=(fG n (.si a b c)).av) (k:=j.length) (xs:=X) (sl:=[Ls ns,Is (k:Int),Is (n:Int),Zs (fs.map Ft.av),Ls L,À (cW o),w,u,p,Zs [.fz (fs.map Ft.av),.fz (iL L)],Rs j.length,À (Ft.si a b c).av]) (st:=j++[.lst X]) rfl (by
     simp only[fV,aQ,ba,eQ,cq,cU,bR,bQ,Ã,Ì,i1,i2,i3,fR,fY,gC,tv];rfl) gl oM
    rw[dN]at ap;exact aj ap rfl
  rintro sl st ⟨rfl,y,rfl⟩;have em:m fs.length=(fs.map (fG n)).map Gv.av:=by rw[K];dsimp only;rw[ē,ß];rfl
  rw[em];obtain⟨X,hX⟩:∃X,X=(fs.map (fG n)).map Gv.av:=⟨_,rfl⟩;have rX:rfs X=Â:=by rw[hX];exact xT _
  have sX:∀st,aP (bE 5 st) X=À X:=fun st=>by rw[hX];exact cJ (f:=bE 5 st) (i:=Gv.av) (g:=Gv.av) (fun z=>rfl) _
  rw[<- hX]at et ⊢;have pr:=Hk (st:=j++[.lst X]) (fn:=eA) (a:=.int n) (c:=(⟨L,Ä,0⟩:Gv).av) (k:=j.length) (X:=X) rfl (by simp[Gv.av,rf,rfs,cK]) (by
   have:dG (j++[.lst X]) (.ref j.length)=À (.fz X):=by
    show bE 6 _ (.ref j.length)=_;unfold bE;rw[gl];simp only[sX,Ì]
   simp only[aP,this,Ã,Ì];rfl) gl rX (et _) Q
  rw[dN]at pr;obtain⟨z,hz⟩:∃z,z=(⟨L,Ä,0⟩:Gv).av:=⟨_,rfl⟩;have ez:AV.tup [.fz (iL L),.str ">",.int 0]=z:=by rw[hz];rfl
  rw[<- hz]at pr;have es:=Lb (st:=j++[.al (.fz X)]) o;have nb:bg .NotEq (j++[.al (.fz X)]) (.bl tb) (.bl o.isNone)=À Ä:=by rw[ht2];cases o.isNone<;>rfl
  refine ⟨_,aj (sl':=[Ls ns,Is (k:Int),Is (n:Int),Zs (fs.map Ft.av),Ls L,À (cW o),w,u,p,Zs [.fz (fs.map Ft.av),.fz (iL L)],Rs j.length,y]) (st':=j++[.al (.fz X)]) ?_ rfl,_,_,rfl,_,_,_,_,_,_,_,_,_,_,_,rfl⟩;rw [dF];simp only [eN,fV,aQ,ba,eQ,wM,cq,cU,qZ,wO,bR,bQ,Ã,Ì];rw [yH (show Û _ 1000=Â from rfl)];have n1:Û [AV.str "so"].length 1000=Â:=rfl;simp only [Ã,Ì,ez,fR,fY,gC,pr,ht0,Jj,n1,ite_true,es,nb];rfl
 obtain⟨⟨v,s⟩,e,h⟩:=key;have h:v=.bl Â:=h;subst h;exact⟨s,e⟩
theorem MY:Room e_law.d ϊ:=⟨rfl,by decide,by decide,rfl⟩
theorem Ed:∀t∈(Pz.tb:List (Ç×Pos×Str)),t.1∈([(274,272)]:List (Ç×Addr)).map (·.2):=by
 intro t a;have:t=(272,⟨164,30,164,63⟩,("Sheet.raising_column":Í)++".<locals>."++"<lambda>"):=zM.mp a;rw[this];exact zM.mpr rfl
theorem holds:∀ns:List Int,ns.length<=63->∃st,Mc [.fz (ns.map .int)] []=À (.bl Â,st):=fun _ h=>KA h
end
end LW
namespace PySem.W.Fast
def tw11548548032798297662:=()
def tw8296092447133500325:=()
def tw3991066772124574446:=()
def tw15035118847700666082:=()
def tw6517159708504323944:=()
def tw2642235273374878760:=()
def tw17141466409959290795:=()
def tw9827008538881096095:=()
def tw786674550820236430:=()
def tw7062263350455013387:=()
def tw6602448256479951461:=()
def tw4926388091565312438:=()
def tw2113184024768755584:=()
def tw16705002705869527629:=()
def tw14151192079408585088:=()
def tw13704476803103122816:=()
def tw12708715564626049115:=()
def tw3911740950330097593:=()
def tw16495589586382870864:=()
def tw12394456205109162292:=()
def tw314877022016348619:=()
def tw9973874116085032386:=()
def tw6426177009283184427:=()
def tw1237538730158059910:=()
def tw12206928753014926130:=()
def tw10903219426205734846:=()
def tw341796255572996902:=()
def tw15935143119889845444:=()
def tw2870839706436763992:=()
def tw7512478518472818326:=()
def tw4374960478498681960:=()
def tw18429163100617659918:=()
def tw9901062136505520166:=()
def tw974540844731914839:=()
def tw9330707627534466067:=()
def tw8862588913550929882:=()
def tw8407561939644660238:=()
def tw7894411905293734421:=()
def tw7659164040669966530:=()
def tw7649820691143757949:=()
def tw713938077371774522:=()
def tw6729723676453231643:=()
def tw6729127284088518372:=()
def tw6723821203199401108:=()
def tw6369979333001215382:=()
def tw6308880274577821550:=()
def tw6201527118366362196:=()
def tw5663433483038541659:=()
def tw5568891231884765570:=()
def tw5198201193733301404:=()
def tw5096416387139179832:=()
def tw4984952904615597434:=()
def tw4805854322385002790:=()
def tw4634076310956232975:=()
def tw4560547998490977764:=()
def tw3965880913491732291:=()
def tw3537972324988841663:=()
def tw3455759036764372735:=()
def tw3447925303410084851:=()
def tw3144678907909654444:=()
def tw2903399729974904955:=()
def tw2845141950380938317:=()
def tw2578291129315963924:=()
def tw2487068907469408066:=()
def tw2379735775481138909:=()
def tw18328346332692002577:=()
def tw17811485424234416178:=()
def tw17363310541177137397:=()
def tw17049675623502388087:=()
def tw17003842271326726157:=()
def tw16710388594518554641:=()
def tw16344488059901770656:=()
def tw16305168043669194510:=()
def tw16116377202035164467:=()
def tw15819193656056480025:=()
def tw1540014314011590302:=()
def tw15340353675912175277:=()
def tw15254463710410318745:=()
def tw14717239077778961909:=()
def tw14158631490209955948:=()
def tw13253198297082835523:=()
def tw13172005372786669905:=()
def tw12681220610301468632:=()
def tw12585074252834702518:=()
def tw12536567721599904021:=()
def tw12416997860711354620:=()
def tw12333790065232046926:=()
def tw11902441133491519802:=()
def tw11776888222026353464:=()
def tw11565888818070417141:=()
def tw11313743236234302338:=()
def tw11172542275144621130:=()
def tw10246852145996993348:=()
def tw4585028298834198065:=()
def tw15809003684452820092:=()
def tw1398446751181124481:=()
def tw3700488299428339467:=()
def tw5167392919013757542:=()
def tw9208108909951247753:=()
def tw5479460071114529682:=()
def tw10670219165002476672:=()
def tw11800580147299434443:=()
def tw6839444940359055476:=()
def tw5632146912320355411:=()
def tw1879881643166365649:=()
def tw2433604715088864390:=()
def tw2080481877599831410:=()
def tw917391632475778138:=()
def tw18313823032328001040:=()
def tw5929489375835694818:=()
def tw17853026069203904236:=()
def tw3979368409450438676:=()
def tw11943830718434210441:=()
def tw15420590293181108765:=()
def tw12930473584155185592:=()
def tw1932674840772261763:=()
def tw8369027340624540785:=()
def tw13999493685293392603:=()
def tw8448369736817406956:=()
def tw14044353516984431653:=()
def tw7607567416133710318:=()
def tw14238029447722893255:=()
def tw4842166645786984394:=()
def tw391319984125995353:=()
def tw5251873339616997481:=()
def tw10163553123388164451:=()
def tw194409399896440376:=()
def tw13611557199028585156:=()
def tw15309992913481925482:=()
def tw9373578592179268458:=()
def tw14501752245483551338:=()
def tw18361564313875543448:=()
def tw13653463575768670749:=()
def tw2103429245196370223:=()
def tw1102053248020797211:=()
def tw11745077532083852080:=()
def tw2585019297970588822:=()
def tw14127471673238732459:=()
def tw11575388883204045376:=()
def tw5299812751403253368:=()
def tw9726850299449503127:=()
def tw5886944821629368494:=()
def tw12890818422443873263:=()
def tw11263179522313604790:=()
def tw7961391207209632786:=()
def tw14740559288474496943:=()
def tw15426403663764513792:=()
def tw2053179005289172682:=()
def tw7806863420145046263:=()
def tw14607320964680055889:=()
def tw919064503897507746:=()
def tw13992613734014450093:=()
def tw12208112020110189169:=()
def tw12539212674154072524:=()
def tw9324217301220833015:=()
def tw14901431707161171871:=()
def tw14582157620947431079:=()
def tw11080117651786665662:=()
def tw4353537171802220081:=()
def tw13953842654495077922:=()
def tw5441820610636555783:=()
def tw2411547811431154660:=()
def tw16206775846435347528:=()
def tw5297474492330852406:=()
def tw8144474036230076843:=()
def tw17123070009050209202:=()
def tw9550071500868230025:=()
def tw16084333652494966564:=()
def tw7446897166825401791:=()
def tw14121084303143016070:=()
def tw5326947365517637944:=()
def tw14474318771097078461:=()
def tw7842923693571763103:=()
def tw7337132342341722598:=()
def tw16310706252828391048:=()
def tw16120129783889273855:=()
def tw7863031807187744821:=()
def tw11669274801739618011:=()
def tw3004351579336491382:=()
def tw8680999626443030752:=()
def tw9956671431745596772:=()
def tw17375632468746906551:=()
def tw6642025511956872279:=()
def tw8208882870121529160:=()
def tw17840395978361632308:=()
def tw11448605249038430224:=()
def tw5158322802587340316:=()
def tw15077802597120837625:=()
def tw13826067563581797569:=()
def tw12948657753333257517:=()
def tw8401863450504713835:=()
def tw2443628434748168725:=()
def tw12545395775190901440:=()
def tw3432973901225236303:=()
def tw17444163626117604425:=()
def tw9188549128143723742:=()
def tw2703285205110580714:=()
def tw18420283958828168916:=()
def tw9590033611973772342:=()
def tw11164201319135433840:=()
def tw9429602521474756711:=()
def tw10414962444521790375:=()
def tw106142112391190956:=()
def tw11647356584326039238:=()
def tw10109023332594895495:=()
def tw10648605526391821245:=()
def tw13707364392962674667:=()
def tw5418116712061308823:=()
def tw11305617487968190380:=()
def tw4603194786772535368:=()
def tw10888065135758728329:=()
def tw16574409247813590737:=()
def tw1594285523497383157:=()
def tw9935665855858506940:=()
def tw3823879168032280797:=()
def tw6836897300444481367:=()
def tw10100899198962367093:=()
def tw1986257044110372553:=()
def tw9901506731105250641:=()
def tw10704245405081672521:=()
def tw1138353625255095630:=()
def tw13062253639091862778:=()
def tw13164566785813838428:=()
def tw5370298480502168405:=()
def tw11148011144469309767:=()
def tw9790629345502061437:=()
def tw3699536654925651385:=()
def tw16889658728636556194:=()
def tw17564431166314330996:=()
def tw7690185627772989730:=()
def tw6784460439517751314:=()
def tw15802431179861349483:=()
def tw6210782613069725523:=()
def tw1179201640010502720:=()
def tw1942258222420591784:=()
def tw2549436125573440367:=()
def tw7308900209315735668:=()
def tw5898771937086583839:=()
def tw14738844273617704652:=()
def tw1297955311897328023:=()
def tw13513780605202542104:=()
def tw8193750129059896899:=()
def tw10218859652657132579:=()
def tw4125376077369314415:=()
def tw13108943230890141352:=()
def tw729324544429250203:=()
def tw1042289261506166977:=()
def tw13318928512591368532:=()
def tw18120902136678160369:=()
def tw4271945765042086022:=()
def tw12737959971181887076:=()
def tw3277421243856054611:=()
def tw18205941535590968281:=()
def tw1908931439849669799:=()
def tw14297799155687429693:=()
def tw6693038819036342867:=()
def tw13991078522864086927:=()
def tw17929017714326906131:=()
def tw11948353998923730114:=()
def tw7237956811889748109:=()
def tw5319211131844432716:=()
def tw2763352857368191044:=()
def tw11237056413986135260:=()
def tw9011064593354328844:=()
def tw1322920508334424574:=()
def tw9401397397620542147:=()
def tw6512702705582604398:=()
def tw7436124201263853714:=()
def tw5644414697842136025:=()
def tw15727893610742828121:=()
def tw6886902220194606904:=()
def tw12417842170868575643:=()
def tw3075254633682728175:=()
def tw8984918008536770222:=()
def tw16640719157847667099:=()
def tw4024909034956528168:=()
def tw16934099140685916:=()
def tw14273985519932558748:=()
def tw8809309772280832091:=()
def tw12289497743721437918:=()
def tw1463324256966385167:=()
def tw12425178370244799567:=()
def tw8588415131703692920:=()
def tw14073011424077502402:=()
def tw572354355647228384:=()
def tw9685162402038290956:=()
def tw1662604760470785876:=()
def tw5371181820033605158:=()
def tw12487071314818471675:=()
def tw6509587005214556090:=()
def tw13844656841097259682:=()
def tw2517301004080701179:=()
def tw2068623317259033419:=()
def tw5855117442198926363:=()
def tw16661720399914619830:=()
def tw16284387346377475025:=()
def tw17671466901949591945:=()
def tw12041641832872575772:=()
def tw1411801316596019128:=()
def tw4103167300192928606:=()
def tw4196684979985429294:=()
def tw5632397336444696229:=()
def tw8753939125633349096:=()
def tw10022397246304275215:=()
def tw5479357572715486934:=()
def tw7025364257929124001:=()
def tw7612493469541263893:=()
def tw1695657893517064451:=()
def tw5507283534792331782:=()
def tw15132847427908573121:=()
def tw3901612750229209309:=()
def tw12596707401787982326:=()
def tw8848293044257795063:=()
def tw10970694288977270872:=()
def tw6747619625471708745:=()
def tw2459484169119313826:=()
def tw18167195048310150590:=()
def tw12889038047912643657:=()
def tw10467842609764859617:=()
def tw7002464313933419600:=()
def tw17417232929326638798:=()
def tw16023205761904705720:=()
def tw5038373205312680653:=()
def tw12711806368696878388:=()
def tw13909595614608850009:=()
def tw7853501342693787635:=()
def tw7484284791118138598:=()
def tw3110333410178075768:=()
def tw16491084679065883663:=()
def tw8735366900397560758:=()
def tw4783344561648385355:=()
def tw3968929752293774736:=()
def tw18354158993178501067:=()
def tw17610974248106814403:=()
def tw17598312653442528139:=()
def tw16291178252050618733:=()
def tw16040212654385218978:=()
def tw5632618044059420641:=()
def tw11481832327969752624:=()
def tw17094226685935941484:=()
def tw17011791237931844807:=()
def tw7798239818836828534:=()
def tw8463866705995445907:=()
def tw9531101044600027758:=()
def tw8569673306344413936:=()
def tw8053759178194401543:=()
def tw1931309798581243120:=()
def tw18102979064162873533:=()
def tw15370582101288832021:=()
def tw12621350829859382996:=()
end PySem.W.Fast
open PySem PySem.W PyProof.Rows
set_option maxRecDepth 100000 in
set_option maxHeartbeats 0 in
theorem PySem.Challenge.cw_telltight_k56_whole_broken_by_sorts_holds : PySem.Challenge.rw_telltight_k56_whole_broken_by_sorts.Holds := by
 w_on; o_law; k_head; (case hw => w_witness2)
 k_fill
 refine R.walk_R (l := PySem.Challenge.rw_telltight_k56_whole_broken_by_sorts) (k := LW.e_law.d) (fn := LW.Mc) (tabs := [(274, 272)]) rfl rfl ?hrr (fun w h Y => ⟨km_in_of Y, fun q hq => km_tabs_of Y q.2 (by simp only [zM] at hq ⊢; rw [hq])⟩) ?hcc ?hKK ?htt LW.holds ?F
 case hrr => exact LW.MY
 case hcc => intro w q hq; simp only [zM] at hq; rw [hq]; kernel_rfl
 case hKK => intro w; kernel_rfl
 case htt => intro t ht; exact LW.Ed t ht
 case F =>
  intro w mg fa h KX G hmg;refine R.law_F (gs := LW.gs) (cl := LW.cl) (pre := LW.pre) (e := LW.e_law) KX G hmg ?nb ?gs ?cl LW.FG LW.FI rfl ?fs ?law rfl LW.KB
  case nb => kernel_rfl
  case gs => intro p hp; simp only [LW.gs, zT, zX, or_false] at hp; rcases hp with rfl <;> exact ⟨_, by k_is⟩
  case cl => intro p hp; simp only [LW.cl, zT, zX, or_false] at hp; rcases hp with rfl <;> exact ⟨⟨_, by k_is, by kernel_rfl, by kernel_rfl, by kernel_rfl, by kernel_rfl⟩, ⟨_, by k_is, by kernel_rfl⟩⟩
  case law => exact R.ff (by k_is) (by k_is) (by kernel_rfl) (by k_is) (.inl rfl)
  case fs =>
   repeat' first | exact R.fes_n | refine R.fes_c ?_ ?_
   iterate 40 next => exact R.fe_f (by exact rfl) (by k_is) (by k_is) (by kernel_rfl) (by k_is) (.inl rfl)
   next => exact R.fe_k (by exact rfl) (by k_is) (by k_is) (by k_is) (by kernel_rfl) (by k_is) (by k_is) (.inl rfl) (by kernel_rfl) (by kernel_rfl)
   next => exact R.fe_m (by exact rfl) (by k_is) (by k_is) (by k_is) (by kernel_rfl) (by k_is) (by k_is) (.inl rfl)
   next => exact R.fe_f (by exact rfl) (by k_is) (by k_is) (by kernel_rfl) (by k_is) (.inl rfl)
   iterate 2 next => exact R.fe_m (by exact rfl) (by k_is) (by k_is) (by k_is) (by kernel_rfl) (by k_is) (by k_is) (.inl rfl)
   next => exact R.fe_m (by exact rfl) (by k_is) (by k_is) (by k_is) (by kernel_rfl) (by k_is) (by k_is) (.inr ⟨_, _, _, rfl, rfl, by kernel_rfl, rfl⟩)
   iterate 3 next => exact R.fe_m (by exact rfl) (by k_is) (by k_is) (by k_is) (by kernel_rfl) (by k_is) (by k_is) (.inl rfl)
   next => exact R.fe_f (by exact rfl) (by k_is) (by k_is) (by kernel_rfl) (by k_is) (.inl rfl)
   iterate 4 next => exact R.fe_m (by exact rfl) (by k_is) (by k_is) (by k_is) (by kernel_rfl) (by k_is) (by k_is) (.inl rfl)
   iterate 9 next => exact R.fe_f (by exact rfl) (by k_is) (by k_is) (by kernel_rfl) (by k_is) (.inl rfl)
   next => exact R.fe_m (by exact rfl) (by k_is) (by k_is) (by k_is) (by kernel_rfl) (by k_is) (by k_is) (.inl rfl)
   iterate 10 next => exact R.fe_f (by exact rfl) (by k_is) (by k_is) (by kernel_rfl) (by k_is) (.inl rfl)
#print axioms PySem.Challenge.cw_telltight_k56_whole_broken_by_sorts_holds
