import PyProof.Rows.All
import Wide.All
import OpenK.AllK
import Wide.FinOn
import PySem.Challenge.RW_telltight_k34_whole_ranges
set_option bootstrap.genMatcherCode false
set_option compiler.extract_closed false
noncomputable section
open Array renaming getElem?_toList → q?, length_toList → ï, size_append → N!, toList → U2, toList_append → B?
open Bool renaming and_eq_true → zC, and_eq_true_iff → Ŋ, and_self → Đ, false → Ä, false_eq_true → yB, false_ne_true → Ĝ, or_eq_true_iff → I!, or_false → U1, true → Â
open Classical renaming axiomOfChoice → Ϭ, byContradiction → ą, choose → ď, choose_spec → ě
open ForInStep renaming yield → ĭ
open Int renaming add_zero → Ġ, dvd_natAbs → c?, ediv_mul_cancel → ό, emod_lt_of_pos → Ñ, emod_nonneg → Ó, eq_of_mul_eq_mul_left → Ŝ, eq_of_mul_eq_mul_right → c!, fdiv_eq_ediv_of_nonneg → b?, le_of_eq → W4, le_of_lt → Ű, le_of_mul_le_mul_left → j?, le_of_mul_le_mul_right → ħ, le_refl → ϫ, le_trans → ľ, lt_or_le → yV, lt_trichotomy → Q5, mul_add → H!, mul_assoc → l?, mul_comm → ϝ, mul_ediv_cancel' → G?, mul_eq_zero → T4, mul_le_mul_of_nonneg_right → ç, mul_lt_mul_of_pos_left → ŗ, mul_neg_of_neg_of_pos → j!, mul_neg_of_pos_of_neg → ś, mul_nonneg → þ, mul_nonpos_of_nonneg_of_nonpos → ϒ, mul_nonpos_of_nonpos_of_nonneg → Ć, mul_one → G!, mul_pos → X5, mul_zero → yP, natAbs_add_le → Q4, natAbs_mul → xA, natAbs_natCast → ļ, natAbs_neg → ð, natCast_add → T1, natCast_dvd_natCast → ū, one_mul → Ź, toNat_natCast → Q3, toNat_of_nonneg → Œ, zero_mul → yQ
open List renaming all_cons → ĵ, all_eq_true → yR, any_cons → Š, any_eq_false → P!, any_eq_true → Ŧ, any_map → o?, append_assoc → yN, append_nil → ò, cons_append → Ϣ, countP_cons → Q2, dropLast_eq_take → A?, drop_eq_getElem_cons → õ, drop_length → ϡ, drop_nil → U', drop_of_length_le → n?, drop_zero → Ĥ, filterMap_cons → Ő, filter_cons → Q0, filter_eq_self → ă, find?_cons → Ċ, flatten_cons → č, foldl → M?, foldl_cons → Ō, forIn_cons → S6, forIn_nil → T?, getD_eq_getElem?_getD → zD, getElem?_append_left → zN, getElem?_append_right → z6, getElem?_cons_succ → Ė, getElem?_eq_getElem → zF, getElem?_eq_none → é, getElem?_eq_some_iff → zB, getElem?_map → zR, getElem?_of_mem → z9, getElem?_range → Ĳ, getElem?_replicate → ÿ, getElem?_set → yX, getElem?_set_ne → ê, getElem?_set_self → î, getElem?_take_of_lt → ş, getElem?_zipIdx → ŉ, getElem?_zip_eq_some → Ř, getElem_inj → ť, getElem_mem → ö, isEmpty_iff → æ, length → ň, length_append → zV, length_cons → yY, length_filter_le → Ł, length_map → zH, length_nil → S4, length_range → Ü, length_replicate → ŀ, length_set → ā, length_singleton → Ý, length_take → ī, length_zip → Ϫ, length_zipIdx → M!, lookup → Ň, lookup_cons → yO, map_append → ĉ, map_congr_left → ϋ, map_cons → zO, map_map → å, map_nil → ϙ, map_set → V!, map_take → i?, mem_append → zZ, mem_append_left → zL, mem_append_right → zK, mem_cons → zT, mem_cons_of_mem → zQ, mem_cons_self → z7, mem_filter → Ĉ, mem_filterMap → L', mem_map → yD, mem_map_of_mem → ϊ, mem_of_getElem? → zW, mem_of_mem_take → Ŷ, mem_or_eq_of_mem_set → ć, mem_range → Õ, mem_singleton → zM, nodup_append → Ϙ, nodup_cons → ĺ, nodup_nil → T!, not_mem_nil → zX, of_mem_zip → Ĺ, range → Æ, range' → ģ, range_succ → S3, replicate → È, replicate_succ → è, set_append_right → A!, set_set → n!, size_toArray → zI, sum_cons → i!, take_add_one → O9, take_length → Ī, take_of_length_le → í, take_sublist → O8, take_succ → S9, take_zero → S8, zip_cons_cons → Ļ
open List.Pairwise renaming nil → ů
open Nat renaming add_assoc → ņ, add_mul → X4, add_sub_cancel_left → Ū, ble → Þ, ble_eq_true_of_le → yL, dvd_trans → U9, eq_one_of_mul_eq_one_left → ϩ, gcd → Ā, gcd_comm → W3, gcd_dvd_left → S?, gcd_dvd_right → Q?, le_add_right → ϥ, le_antisymm → ϸ, le_of_ble_eq_true → zS, le_of_eq → Ϝ, le_of_lt → yZ, le_of_not_lt → S!, le_of_succ_le → Ď, le_refl → zP, le_succ → Ϩ, le_total → ϛ, le_trans → z5, log2_lt → Ą, lt_add_of_pos_right → ũ, lt_irrefl → xB, lt_of_le_of_lt → yM, lt_of_lt_of_le → zJ, lt_or_ge → yU, lt_succ_of_le → Q!, lt_succ_self → ı, lt_trans → z?, min_eq_left → Ϸ, min_eq_right → R9, min_le_right → R8, mod_eq_of_lt → R?, mul_le_mul → Ŗ, mul_le_mul_right → ý, ne_of_gt → İ, ne_of_lt → zU, one_le_two_pow → ŕ, one_lt_two_pow → O7, one_mul → ϧ, or_lt_two_pow → Ş, pow_add → Ϧ, pow_le_pow_right → ü, pow_lt_pow_right → Ħ, pow_succ → W2, sub_self → W1, sub_zero → Ŕ, succ_mul → z!, succ_pos → W0, two_pow_pos → ß, zero_le → û
open Ne renaming symm → ã
open Option renaming bind_some → Ã, getD_none → L?, getD_some → ϗ, isNone_iff_eq_none → ϵ, isSome → Ŀ, isSome_iff_exists → Č, isSome_map → Ľ, isSome_some → ſ, map_eq_some_iff → zE, map_some → Ï, none → Á, some → À
open Option.some renaming inj → yE, injEq → h?
open PyProof.Rows renaming AllBare → ź, Call_ → M', Constant_none → H?, IntsAre → Ÿ, boot_range → w!, callWith_builtin1 → X3, callWith_type1 → Ô, envOfC → ϣ, evalArgs_kwB → X1, get?_update_seq → W9, kws_cons → X0, kws_nil → X', seqObj → Ů, sub_tuple_tuple → W8, subscriptTail → C!, subscriptTail_builtinR → O0
open PySem renaming Addr → Ç, Arguments → Ϛ, Around → ċ, BindsTo → q!, BoolOp → A', Builtin → p?, CmpOp → ϓ, Env → Q6, Expr → Î, Fin → O2, FuncData → ĕ, Heap → ä, Keyword → ń, NameKind → Ť, Obj → W?, Operator → Ğ, Paired → O6, PassesOwn → ϖ, PlainAttrs → y?, Pos → ġ, Program → Ò, PyData → ô, Reads → Ŭ, ReadsAll → ϰ, Scope → ĝ, Sem → V9, Shared → É, Stmt → ĸ, Str → Ì, Value → Å, Within → l!, World → Û, argsOk → x?, assignEach → à, atKey → x!, attributeBase → ę, backTo → ø, backToKw → Ń, behindInMarks → Ϡ, binaryOp → Ŵ, bindArgs → w?, bindC → K!, bindL → J?, bootBuiltins → â, builtinsNs → Ę, cLine → ŋ, call → F?, callWith → Ţ, call_list_range → X!, call_meets → ŏ, callerA → ŷ, cellsFrom → Ē, closureFor → T9, codeAny → ł, codeAny_builtin → ž, codeAny_call_builtin → Q9, codeAny_mono → ř, compareOp → đ, defaultsOf → T8, foldedSetIterable → ó, getItem → O1, getMethod → ŝ, isTrue → v?, keywordEach → Ĕ, letOwnedTupleGo → Ž, mainGlobals → Ð, mem_of_lookup → į, newEnv → T7, newFunctionEnv → v!, numAt → u?, numAt_eq → Q8, nums_intItems → D?, plainId_quiet → D!, pushCells → ų, pushCells_keeps → k?, pyNext → t?, rangeSize_one → C?, rawInt → t!, recursionLimit → ϐ, seqIndex_neg → ϯ, seqIndex_of → d?, seqItems? → V6, setItem → ϔ, sizeLine → Ë, sizeLine_eq → Ϗ, sliceBounds → œ, small_one → V0, standAt → ő, starEach → Ê, swappedStores → ϟ, swapsWith → ķ, swapsWithSole → Ϟ, sysModules → ė, tupleKind → Ų, tupleKind_room_in1 → š, typeIs_int → T6, unaryOp → U4, updateSeq → I?, valueAt → Ϯ, wpAny → Í, wpAny_Call_Name_kw → ú, wpAny_Name → T5, wpAny_assign_Name → U3, wpAny_bind → yF, wpAny_call → s?, wpAny_comprehension_free → B', wpAny_execs_nil → k!, wpAny_getItem_list_neg → O!, wpAny_holding → yS, wpAny_letGo → ώ, wpAny_loadPart' → ż, wpAny_mono → yT, wpAny_passesOwn → Ģ, wpAny_pure → yG, wpAny_pyIter_enum → ϭ, wpAny_pyIter_list → ĩ, wpAny_pyIter_zip → V', wpAny_pyNext_list_end → P8, wpAny_pyNext_list_item → N?, wpAny_seqItems → r?, wpAny_specialOf → W7, wpAny_standAt → ŭ, wpAny_truthy_bool → Ĩ, wpAny_tryCatch → ĳ, wpAny_updateSeq → Ż
open PySem.AutoSeq1 renaming wpAny_loadPart' → Į
open PySem.Builtin renaming bitAnd → P7, bitNot → P?
open PySem.Builtin.Builtins renaming bindParams → ŵ
open PySem.Builtin.Dict renaming pendingCount → X6
open PySem.Builtin.Int renaming intBits → a!
open PySem.Builtin.List renaming listTooLong → ñ
open PySem.Builtin.Range renaming rangeSize → W6
open PySem.Builtin.SmallTypes renaming fitsIndex → Ķ
open PySem.Challenge renaming pw_telltight_k34_whole_ranges → U?
open PySem.F renaming entry_min_loop → ţ, plainAttrs_list → Ù, plain_min_loop → Ă, slot_dict_len → g?, slot_list_append → ϴ, slot_list_clear → ϻ, slot_list_count → Ś, slot_list_extend → ϳ, slot_list_pop → g!, type_list_append → ϲ, type_list_clear → Ϻ, type_list_count → Ϲ, type_list_extend → ϱ, type_list_pop → f?
open PySem.Heap renaming ExtBut → W5, SameBut → Ĭ, get?_push_of_some → zG, get?_push_size → zY, get?_update_other → p!, lt_size → yJ, size_push → ĥ
open PySem.Heap.IsSliceOf renaming new → V?
open PySem.Heap.SameBut renaming refl → d!, update → ŧ
open PySem.NameKind renaming cell → Ě, free → Ú
open PySem.Obj renaming mapSeq → ğ
open PySem.PyData renaming canLay0 → ē, canLayAll0 → ë, depth → h!, depthAll → O5, eqv → Ö, int → Ø, layable0 → O4, list → ű, showable → O3, showableAll → B!, shown → ύ, shownAll → Ņ, strOk → S7, weight → R!, weightAll → L!
open PySem.Reads renaming unique → b!
open PySem.SeqAt renaming eqAt_reads → Ϥ
open PySem.Str renaming ofString → ù
open PySem.Value renaming bool → F!, bytes → U8, float → U7, int → e?, isInt → y!, isStrOf → a?, none → Ũ, ref → ì, str → e!, type → E?
open PySem.W renaming CodeHd → U0, Frag → á, OpenLaw → K?, WalkO → P9, callWith_K → U!, callWith_K0 → m?, codeIn → ϑ, emptyDict → Ŏ, findIn → ō, hasDictIn → J!, instObj → ϕ, keepIn → Ĵ, makesIn → U6, methodCall_KW → E!, methodObj → V8, mg_of → U5, plainGet → u!, plainGet_of → Q7, plainOver → V7, tabObj → O?
open PySem.W.Looks renaming here → W!
open PySem.Within renaming cons → X?
open Option (bind_some map_some)
open PySem.W (CodeHd Frag InitBack InstAt TabsAt any_some bind_fn callWith_K cellsFrom_some codeHdIn codeHd_of_K codeIn codeRec_of emptyDict findIn findObj_own fnOf get_value handedIn hasDictIn hideAll hideAll_get hideAll_none hideAll_size instObj isFn keepIn ki_setAt ki_setBack kla_callFunE kla_codeExpr kla_eval kla_fn kla_makeFunction kla_makeFunctionHit km_in_of km_tabs_of lookIn looks_clsIn looks_findIn make_core makesIn makes_of mem_of_lookupK methodCall_KW methodObj method_fn mg_none_of mg_of noTabs nsIn of_hideAll osa_open plainGet plainGet_of plainOver set_plain tabObj takerIn truthy_bytes typeIn)
theorem Ax0(_:True:=by decide):True:=trivial
theorem Ax1(_:True:=by first|exact .inl rfl|exact .inr rfl|assumption):True:=trivial
theorem Ax2(_:True:=by rfl):True:=trivial
theorem Ax3(_:True:=by intro _;rfl):True:=trivial
theorem oM{p:Prop}(h:p:=by first|lia|omega|(refine @id (@Ne Nat _ _) ?_;omega)):p:=h
theorem dC{p:Prop}(h:autoParam (p) Ax0._auto_1):p:=h
set_option Elab.async false
set_option linter.all false
set_option maxRecDepth 100000
theorem zA{α c}{o:Option α}{f:α->Option c}{b}:o.bind f=À b->∃a,o=À a∧f a=À b:=Option.bind_eq_some_iff.mp
theorem yA:type_of% @decide_eq_false:=@decide_eq_false
theorem yC:type_of% @decide_eq_true_eq:=@decide_eq_true_eq
theorem yH:type_of% @if_neg:=@if_neg
theorem yI:type_of% @if_pos:=@if_pos
theorem yK:type_of% @eq_of_beq:=@eq_of_beq
theorem yW:type_of% @decide_eq_true:=@decide_eq_true
namespace L2
open PySem PySem.Spec PyProof.Rows
abbrev aW:=Sum Int Ì
def iH:aW->Å->Bool
 |.inl k,v=>y! k v
 |.inr x,v=>a? x v
def LS(w:Û):aW->Int
 |.inl k=>hashInt k
 |.inr x=>hashStr w x
theorem cQ:∀{k:aW}{v:Å},iH k v=Â->(∃i t,k=Sum.inl i/\v=e? i t)\/(∃x t,k=Sum.inr x/\v=e! x t)
 |.inl i,v,h=>by
  obtain⟨t,e⟩:=Value.isInt_shape (k:=i) (v:=v) h;exact .inl ⟨i,t,rfl,e⟩
 |.inr x,v,h=>by
  obtain⟨t,e⟩:=Value.isStrOf_shape (x:=x) (v:=v) h;exact .inr ⟨x,t,rfl,e⟩
theorem yf(i:Int)(t:Tok):iH (.inl i) (.int i t)=Â:=by simp[iH,y!]
theorem yd(x:Ì)(t:Tok):iH (.inr x) (.str x t)=Â:=by simp[iH,a?]
theorem G8(a b:Int):decide ((Sum.inl a:aW)=Sum.inl b)=(a==b):=by
 by_cases e:a=b
 ·subst e;simp
 ·have h:¬(Sum.inl a:aW)=Sum.inl b:=fun q=>e (Sum.inl.inj q)
  rw[yA h];exact(beq_eq_false_iff_ne.mpr e).symm
theorem G5(a b:Ì):decide ((Sum.inr a:aW)=Sum.inr b)=decide (a=b):=by
 by_cases e:a=b
 ·subst e;simp
 ·have h:¬(Sum.inr a:aW)=Sum.inr b:=fun q=>e (Sum.inr.inj q)
  rw[yA h,yA e]
theorem G7(a:Int)(b:Ì):decide ((Sum.inl a:aW)=Sum.inr b)=Ä:=yA (fun q=>nomatch q)
theorem G6(a:Ì)(b:Int):decide ((Sum.inr a:aW)=Sum.inl b)=Ä:=yA (fun q=>nomatch q)
def cg(prog:Ò)(w:Û):PySem.KeyKind prog w aW where
 is:=iH
 hash:=LS w
 inj:=fun v a b ha hb=>by
  rcases cQ ha with⟨i,t,rfl,rfl⟩|⟨x,t,rfl,rfl⟩
  ·rcases cQ hb with⟨j,u,rfl,e⟩|⟨y,u,rfl,e⟩
   ·injection e with e1 _;rw[e1]
   ·exact nomatch e
  ·rcases cQ hb with⟨j,u,rfl,e⟩|⟨y,u,rfl,e⟩
   ·exact nomatch e
   ·injection e with e1 _;rw[e1]
 byValue:=fun k v h=>by
  rcases cQ h with⟨i,t,rfl,rfl⟩|⟨x,t,rfl,rfl⟩<;>rfl
 pyHash:=fun hv h=>by
  rcases cQ hv with⟨i,t,rfl,rfl⟩|⟨x,t,rfl,rfl⟩
  ·exact wpAny_pyHash_int h
  ·exact wpAny_pyHash_str h
 eqBool:=fun hu hv h=>by
  rcases cQ hu with⟨i,t,rfl,rfl⟩|⟨x,t,rfl,rfl⟩
  ·rcases cQ hv with⟨j,u,rfl,rfl⟩|⟨y,u,rfl,rfl⟩
   ·rw[G8]at h;exact wpAny_eqBool_int h
   ·rw[G7]at h;exact SeqAt.EqAt.int_str i t y u _ _ _ _ h
  ·rcases cQ hv with⟨j,u,rfl,rfl⟩|⟨y,u,rfl,rfl⟩
   ·rw[G6]at h;exact SeqAt.EqAt.str_int x t j u _ _ _ _ h
   ·rw[G5]at h;exact wpAny_eqBool_str h
 «strs»:=fun k x t v h=>by
  rcases cQ h with⟨i,u,rfl,e⟩|⟨y,u,rfl,e⟩
  ·exact nomatch e
  ·injection e with e1 _
   subst e1;cases v<;>rfl
theorem t9(prog:Ò)(w:Û)(i:Int)(t:Tok):(cg prog w).is (.inl i) (.int i t)=Â:=yf i t
theorem t8(prog:Ò)(w:Û)(x:Ì)(t:Tok):(cg prog w).is (.inr x) (.str x t)=Â:=yd x t
inductive V where
 |non|bl (b:Bool)|int (i:Int)|str (x:Ì)|byt (b:Array UInt8)|flt (b:UInt64)|ref (a:Ç)|ty (n:String)
 deriving DecidableEq
def RelV:V->Å->Prop
 |.non,u=>u=Ũ
 |.bl b,u=>u=F! b
 |.int i,u=>∃t,u=e? i t
 |.str x,u=>∃t,u=e! x t
 |.byt b,u=>∃t,u=U8 b t
 |.flt b,u=>∃t,u=U7 b t
 |.ref a,u=>u=ì a
 |.ty n,u=>u=E? n
abbrev Vals:List V->List Å->Prop:=O6 RelV
theorem Vals.length{xs:List V}{us:List Å}(r:Vals xs us):xs.length=us.length:=Paired.length r
theorem Vals.get:∀{xs:List V}{us:List Å}{i:Nat}{x:V},Vals xs us->xs[i]?=À x->∃u,us[i]?=À u/\RelV x u
 |_,_,_,_,.nil,e=>by simp at e
 |_,_,0,_,.cons r _,e=>by simp at e;subst e;exact⟨_,rfl,r⟩
 |_,_,i+1,x,.cons _ t,e=>by
  obtain⟨u,h1,h2⟩:=Vals.get (i:=i) (x:=x) t (by simpa using e);exact⟨u,by simpa using h1,h2⟩
theorem Vals.set(r:RelV x u):∀{xs:List V}{us:List Å} (i:Nat),Vals xs us->Vals (xs.set i x) (us.set i u)
 |_,_,_,.nil=>.nil
 |_,_,0,.cons _ t=>.cons r t
 |_,_,i+1,.cons q t=>.cons q (Vals.set r i t)
theorem Vals.append:∀{xs ys:List V}{us ws:List Å},Vals xs us->Vals ys ws->Vals (xs++ys) (us++ws):=by
 intro xs ys us ws h s
 induction h with
 |nil=>exact s
 |cons r t a=>exact .cons r a
theorem Vals.take:∀{xs:List V}{us:List Å} (n:Nat),Vals xs us->Vals (xs.take n) (us.take n):=by
 intro xs us n h
 induction h generalizing n with
 |nil=>cases n<;>exact .nil
 |cons r t a=>cases n with
  |zero=>exact .nil
  |succ n=>exact .cons r (a n)
theorem Vals.drop:∀{xs:List V}{us:List Å} (n:Nat),Vals xs us->Vals (xs.drop n) (us.drop n):=by
 intro xs us n h
 induction h generalizing n with
 |nil=>cases n<;>exact .nil
 |cons r t a=>cases n with
  |zero=>exact .cons r t
  |succ n=>exact a n
def RelO:Option V->Option Å->Prop
 |some v,À u=>RelV v u
 |none,Á=>True
 |_,_=>False
def KV{a:Type}:List (a×V)->List (a×Value)->Prop:=O6 fun(p:a×V)(q:a×Value)=>p.1=q.1/\RelV p.2 q.2
def kV:aW->V
 |.inl i=>.int i
 |.inr x=>.str x
inductive HO where
  |lst (xs:List V)
  |tup (xs:List V)
  |dK (Oc:List (aW×V))|dT (Oc:List (List aW×V))
  |set (S:Int->Bool) (n:Nat)
  |ins (C dx:Ç) (fs:List (Ì×V))
  |own (x:Ç)
  |xd (fs:List (Ì×V))
  |met (f x:Ç)
  |rng (lo hi:Int)
  |frz (o:W?) (u:HO)
  |tbl (ps:Array Å)
  |ext (φ:ä->Prop)
abbrev Hp:=Ç->Option HO
def ah(H:Hp)(a:Ç)(o:HO):Hp:=fun b=>if b=a then À o else H b
theorem ay:ah H a o a=À o:=by unfold ah;rw[yI rfl]
theorem ad(h:b≠a):ah H a o b=H b:=by unfold ah;rw[yH h]
theorem v6{H:Hp}{a b:Ç}{o u:HO}(h:H a=À o)(h':H b=À u)(d:o≠u):a≠b:=by
 intro e;subst e;rw[h]at h';exact d (yE h')
theorem aY{H:Hp}{a b:Ç}{o:HO}(h:H a=À o)(h':H b=Á):a≠b:=by
 intro e;subst e;rw[h]at h';cases h'
section
variable(P:Ò)(w:Û)
def ObjOk(H:Hp)(h:ä)(a:Ç):HO->Prop
 |.lst xs=>xs.length<=Ë/\∃(Oe:List Å)(n:Nat),Vals xs Oe/\h.get? a=À { cls:=.type "list",data:=.seq Oe.toArray n }
 |.tup xs=>xs.length<=Ë/\∃Oe:List Å,Vals xs Oe/\IsTup h a Oe.toArray
 |.dK Oc=>Oc.length<=Ë/\(a==ė)=Ä/\∃vs,KV Oc vs/\h.DictOf (cg P w) a vs
 |.dT Oc=>Oc.length<=Ë/\(a==ė)=Ä/\∃xs:List (List aW×Addr×Value),
   O6 (fun(p:List aW×V)(q:List aW×Addr×Value)=>p.1=q.1/\H q.2.1=À (.tup (p.1.map kV))/\RelV p.2 q.2.2) Oc xs /\
   ∃o es ep,h.get? a=À o/\o.ExactDict/\o.data=.dict es ep/\es.toList=xs.map (entryOfKey (Ų (cg P w)))/\(xs.map (·.1)).Nodup
 |.set S n=>h.SetOf (intKind P w) a S n
 |.ins C dx fs=>H dx=À (.own a)/\fs.length<=1000/\dx≠a/\h.get? a=À (ϕ C dx) /\
   ∃mA,h.Ns1 dx mA/\(∀f,RelO (fs.lookup f) (mA f))/\l! mA (fs.map (·.1))
 |.own _=>∃o,h.get? a=À o
 |.xd fs=>∃mA,h.Ns1 a mA/\∀f,RelO (fs.lookup f) (mA f)
 |.rng lo hi=>∃t u v,h.get? a=À { cls:=.type "range",data:=.fields #[.int lo t,.int hi u,.int 1 v] }
 |.frz o u=>h.get? a=À o/\ObjOk H h a u
 |.tbl ps=>h.get? a=À { cls:=.none,data:=.fields ps }
 |.met f x=>h.get? a=À (V8 (.ref f) (.ref x))
 |.ext φ=>φ h/\(∃o,h.get? a=À o)/\∀h1 h2:ä,φ h1->(∀o,h1.get? a=À o->h2.get? a=À o)->φ h2
def HOk(H:Hp)(h:ä):Prop:=∀a o,H a=À o->ObjOk P w H h a o
end
section
variable{P:Ò}{w:Û}{H H':Hp}{h h':ä}{a:Ç}{o:HO}
theorem ObjOk.lt(x:ObjOk P w H h a o):a<h.objs.size:=by
 cases o with
 |lst xs=>obtain⟨_,_,_,_,e⟩:=x;exact yJ e
 |tup xs=>obtain⟨_,_,_,p⟩:=x;exact p.lt
 |dK Oc=>obtain⟨_,_,_,_,o,_,_,e,_⟩:=x;exact yJ e
 |dT Oc=>obtain⟨_,_,_,_,o,_,_,e,_⟩:=x;exact yJ e
 |set S n=>obtain⟨o,_,_,_,e,_⟩:=x;exact yJ e
 |ins C dx fs=>obtain⟨_,_,_,e,_⟩:=x;exact yJ e
 |own y=>obtain⟨_,e⟩:=x;exact yJ e
 |xd fs=>obtain⟨_,⟨_,_,_,e,_⟩,_⟩:=x;exact yJ e
 |rng lo hi=>obtain⟨_,_,_,e⟩:=x;exact yJ e
 |frz ob u=>obtain⟨e,_⟩:=x;exact yJ e
 | tbl ps=>exact yJ (show h.get? a=À _ from x)
 | met f y=>exact yJ (show h.get? a=À _ from x)
 |ext φ=>obtain⟨_,⟨_,e⟩,_⟩:=x;exact yJ e
theorem Paired.mapP{α c:Type}{F G:α->c->Prop}:∀{l₁:List α}{l₂:List c},O6 F l₁ l₂->(∀a b,F a b->G a b)->O6 G l₁ l₂:=by
 intro l₁ l₂ h f
 induction h with
 |nil=>exact .nil
 |cons r t d=>exact .cons (f _ _ r) d
theorem ObjOk.stay(x:ObjOk P w H h a o)(k:∀b u,(b=a\/H b=À (.own a))->h.get? b=À u->h'.get? b=À u)
  (E:∀b,H b=À (.own a)->H' b=À (.own a)) (D:∀b xs,H b=À (.tup xs)->H' b=À (.tup xs)):ObjOk P w H' h' a o:=by
 induction o with
 |lst xs=>obtain⟨z,s,n,r,e⟩:=x;exact⟨z,s,n,r,k _ _ (.inl rfl) e⟩
 |tup xs=>obtain⟨z,s,r,g,e,c⟩:=x;exact⟨z,s,r,g,k _ _ (.inl rfl) e,c⟩
 |dK Oc=>obtain⟨z,y,B,r,g,i,j,e,c⟩:=x;exact⟨z,y,B,r,g,i,j,k _ _ (.inl rfl) e,c⟩
 |dT Oc =>
  obtain⟨z,y,xs,r,g,i,j,e,c⟩:=x;exact⟨z,y,xs,Paired.mapP r fun p q z=>⟨z.1,D _ _ z.2.1,z.2.2⟩,g,i,j,k _ _ (.inl rfl) e,c⟩
 |set S n=>obtain⟨g,i,j,t,e,c⟩:=x;exact⟨g,i,j,t,k _ _ (.inl rfl) e,c⟩
 |ins C dx fs =>
  obtain⟨d,z,ne,e,m,⟨l,i,j,F,c⟩,r⟩:=x;exact⟨E _ d,z,ne,k _ _ (.inl rfl) e,m,⟨l,i,j,k _ _ (.inr d) F,c⟩,r⟩
 |own y=>obtain⟨g,e⟩:=x;exact⟨g,k _ _ (.inl rfl) e⟩
 |xd fs=>obtain⟨m,⟨l,i,j,e,c⟩,r⟩:=x;exact⟨m,⟨l,i,j,k _ _ (.inl rfl) e,c⟩,r⟩
 |rng lo hi=>obtain⟨t,u,v,e⟩:=x;exact⟨t,u,v,k _ _ (.inl rfl) e⟩
 |frz g u ih=>obtain⟨e,q⟩:=x;exact⟨k _ _ (.inl rfl) e,ih q⟩
 |tbl ps =>
  have e:h.get? a=À { cls:=.none,data:=.fields ps }:=x;show h'.get? a=À { cls:=.none,data:=.fields ps };exact k a _ (.inl rfl) e
 |met f y =>
  have e:h.get? a=À (V8 (.ref f) (.ref y)):=x;show h'.get? a=À (V8 (.ref f) (.ref y));exact k a _ (.inl rfl) e
 |ext φ=>obtain⟨p,⟨o,e⟩,A⟩:=x;exact⟨A _ _ p fun o q=>k _ _ (.inl rfl) q,⟨o,k _ _ (.inl rfl) e⟩,A⟩
theorem HOk.lt(x:HOk P w H h)(e:H a=À o):a<h.objs.size:=(x a o e).lt
theorem HOk.fresh(x:HOk P w H h)(e:h.objs.size<=a):H a=Á:=by
 cases q:H a with
 |none=>rfl
 |some u=>exact absurd (zJ (x.lt q) e) (xB _)
theorem HOk.kept(x:HOk P w H h)(k:∀b u,h.get? b=À u->h'.get? b=À u):HOk P w H h':=fun a o e =>
 (x a o e).stay (fun b u _ q=>k b u q) (fun _ q=>q) fun _ _ q=>q
theorem HOk.laid(x:HOk P w H h)(k:∀b u,h.get? b=À u->h'.get? b=À u)(g:h.objs.size<=a)(new:ObjOk P w (ah H a o) h' a o):HOk P w (ah H a o) h':=fun b u e=>by
 have d:=x.fresh g;by_cases f:b=a
 ·subst f;rw[ay]at e;cases e;exact new
 ·rw[ad f]at e
  exact(x b u e).stay (fun c v _ q=>k c v q) (fun c q=>by rw[ad (aY q d)];exact q) fun c i q=>by rw[ad (aY q d)];exact q
end
def Rd(H:Hp)(a:Ç)(u:HO):Prop:=H a=À u\/∃o,H a=À (.frz o u)
theorem Rd.ok(r:Rd H a u)(x:HOk P w H h):ObjOk P w H h a u:=by
 rcases r with r|⟨o,r⟩
 ·exact x a u r
 ·obtain⟨_,q⟩:=x a _ r
  exact q
def zx:Option HO->Prop
 |some (.lst _)=>True
 |some (.dK _)=>True
 |some (.dT _)=>True
 |some (.set _ _)=>True
 |some (.ins _ _ _)=>True
 |some (.ext _)=>True
 |_=>False
section
variable{P:Ò}{w:Û}{H:Hp}{h h':ä}{x e:Ç}{o':HO}
theorem HOk.write(ok:HOk P w H h)(i:zx (H x))(he:e=x\/H e=À (.own x))(k:∀b u,b≠e->h.get? b=À u->h'.get? b=À u)(m:∃u,h'.get? e=À u)
  (new:ObjOk P w (ah H x o') h' x o'):HOk P w (ah H x o') h':=fun b u q=>by
 have d:∀c y,H c=À (.own y)->c≠x:=fun c y r z=>by subst z;rw[r]at i;exact i
 have f:∀c g,H c=À (.tup g)->c≠x:=fun c g r z=>by subst z;rw[r]at i;exact i
 by_cases l:b=x
 ·subst l;rw[ay]at q;cases q;exact new
 ·rw[ad l]at q
  by_cases a:b=e
  ·have n:H b=À (.own x):=by
    rcases he with z|z
    ·exact absurd (a.trans z) l
    ·rw[a];exact z
   rw[q]at n;cases n;obtain⟨v,o⟩:=m;exact⟨v,by rw[a];exact o⟩
  ·refine(ok b u q).stay (fun c v j r=>k c v ?_ r) (fun c r=>by rw[ad (d c b r)];exact r) fun c g r=>by rw[ad (f c g r)];exact r
   rcases j with rfl|j
   ·exact a
   ·rintro rfl
    rcases he with z|z
    ·exact d c b j z
    ·rw[j]at z;cases z;exact l rfl
end
structure Un(fs ex:List Ç)(H H':Hp)(h h':ä):Prop where
 keep:∀b o,h.get? b=À o->H b=Á->b∉fs->b∉ex->h'.get? b=À o
 slot:∀b o,h.get? b=À o->H b=Á->b∈fs->b∉ex->∃sl,h'.get? b=À { o with slots:=sl }
 free:∀b o,h.get? b=À o->H b=Á->b∉ex->H' b=Á
 there:∀b o,h.get? b=À o->b∉ex->∃o',h'.get? b=À o'
 tups:∀b xs,H b=À (.tup xs)->H' b=À (.tup xs)
 frzs:∀b o u,H b=À (.frz o u)->H' b=À (.frz o u)
 tbls:∀b ps,H b=À (.tbl ps)->∃more,H' b=À (.tbl (ps++more))
section
variable{fs fs' ex ex':List Ç}{H H1 H2:Hp}{h h1 h2 h':ä}{a x e:Ç}{o:HO}
theorem Un.any(u:Un fs ex H H1 h h1){b:Ç}{a:W?}(q:h.get? b=À a)(n:H b=Á)(c:b∉ex):∃sl,h1.get? b=À { a with slots:=sl }:=by
 by_cases d:b∈fs
 ·exact u.slot b a q n d c
 ·exact⟨a.slots,u.keep b a q n d c⟩
theorem Un.kept(k:∀b u,h.get? b=À u->h'.get? b=À u):Un fs ex H H h h' :=
 ⟨fun b a q _ _ _=>k b a q,fun b a q _ _ _=>⟨a.slots,k b a q⟩,fun _ _ _ n _=>n,fun b a q _=>⟨a,k b a q⟩,fun _ _ q=>q,fun _ _ _ q=>q,fun _ c q=>⟨#[],by rw[q];simp⟩⟩
theorem Un.refl:Un fs ex H H h h:=Un.kept fun _ _ q=>q
theorem Un.laid(k:∀b u,h.get? b=À u->h'.get? b=À u)(e:h.objs.size<=a)(c:H a=Á):Un fs ex H (ah H a o) h h' where
 keep:=fun b u q _ _ _=>k b u q
 slot:=fun b u q _ _ _=>⟨u.slots,k b u q⟩
 free:=fun b u q n _=>by rw[ad (zU (zJ (yJ q) e))];exact n
 there:=fun b u q _=>⟨u,k b u q⟩
 tups:=fun b d q=>by rw[ad (aY q c)];exact q
 frzs:=fun b u d q=>by rw[ad (aY q c)];exact q
 tbls:=fun b f q=>⟨#[],by rw[ad (aY q c),q];simp⟩
theorem Un.write(c:zx (H x))(he:e=x\/H e=À (.own x))(k:∀b u,b≠e->h.get? b=À u->h'.get? b=À u)(f:∃u,h'.get? e=À u):Un fs ex H (ah H x o) h h':=by
 have g:∀b,H b=Á->b≠x:=fun b n z=>by subst z;rw[n]at c;exact c
 have i:∀b,H b=Á->b≠e:=fun b n z=>by
  subst z;rcases he with r|r
  ·exact g b n r
  ·rw[n]at r;cases r
 have d:∀b u,H b=À u->¬zx (À u)->b≠x:=fun b u q nm z=>by subst z;rw[q]at c;exact nm c
 refine⟨fun b u q n _ _=>k b u (i b n) q,fun b u q n _ _=>⟨u.slots,k b u (i b n) q⟩,fun b u q n _=>by rw[ad (g b n)];exact n,fun b u q _=>?_,
  fun b j q=>by rw[ad (d b _ q fun z=>z)];exact q,fun b u j q=>by rw[ad (d b _ q fun z=>z)];exact q,fun b l q=>⟨#[],by rw[ad (d b _ q fun z=>z),q];simp⟩⟩
 by_cases a:b=e
 ·subst a;exact f
 ·exact⟨u,k b u a q⟩
end
def BX(h:ä)(H:Hp):List Ç:=(Æ h.objs.size).filter fun a=>(H a).isSome
def jF(h:ä)(H:Hp):ä:=hideAll h (BX h H)
theorem yp(h:ä)(H:Hp):(jF h H).objs.size=h.objs.size:=hideAll_size _ _
theorem Bu(e:h.get? b=À o)(n:H b=Á):(jF h H).get? b=À o :=
 hideAll_get _ e fun a=>by
  have q:(H b).isSome=Â:=(Ĉ.mp a).2;rw[n]at q;simp at q
theorem Ee(e:(jF h H).get? b=À o):h.get? b=À o/\H b=Á:=by
 have a:h.get? b=À o:=of_hideAll (BX h H) e;refine⟨a,?_⟩;cases q:H b with
 |none=>rfl
 |some x =>
  have c:b∈BX h H:=Ĉ.mpr ⟨Õ.mpr (yJ a),by simp[q]⟩;have z:(jF h H).get? b=Á:=hideAll_none (BX h H) c;rw[z]at e;cases e
structure Mod(K:á)(mg:Ì->Option Å)(base:ä):Prop where
 kin:K.In base
 glob:base.Ns Ð mg
 blt:∃mb,base.Ns Ę mb/\∀x:Ì,x≠"__name__"->mb x=â x
 nolimit:base.NoLimit
structure Cx where
 prog:Ò
 w:Û
 K:á
 mg:Ì->Option Å
 base:ä
 A:ċ
 N:List Ì
 s₀:É
 H₀:Hp
 env:Q6
 outer:List Q6
 stack:List Q6
 ex:List Ç
 fn:Ì->Bool
 calm:Bool
 pn:List (Ç×Obj)
 xe:Å->É->Prop
noncomputable def jV(l:List Q6):List Ç:=l.filterMap (·.frame)
abbrev Cx.fs(X:Cx):List Ç:=jV X.outer
def zt(sc:ĝ)(x:Ì):Prop:=sc.names.lookup x=À .local\/sc.names.lookup x=À .cell\/sc.names.lookup x=À .free
def Loc(sc:ĝ)(x:Ì):Prop:=sc.names.lookup x=À .local\/sc.names.lookup x=À .cell
def Mh(env:Q6)(h:ä)(m:Ì->Option Å)(x:Ì)(u:Å):Prop :=
 (env.kindOf x=À .local/\m x=À u)\/((env.kindOf x=À .cell\/env.kindOf x=À .free)/\∃c,env.cells.lookup x=À c/\h.IsCell c (À u))
structure Cx.Ok(X:Cx):Prop where
 mod:Mod X.K X.mg X.base
 kind:X.env.scope.kind=.function
 glob:X.env.globals=Ð
 blt:X.env.builtins=Ę
 above:X.s₀.heap.objs.size<=X.env.locals
 inj:∀x y c,X.env.cells.lookup x=À c->X.env.cells.lookup y=À c->x=y
 has:∀x,(X.env.kindOf x=À .cell\/X.env.kindOf x=À .free)->∃c,X.env.cells.lookup x=À c
 cab:∀x c,X.fn x=Â->X.env.cells.lookup x=À c->X.s₀.heap.objs.size<=c
 hd:X.calm=Â->X.A.handled=Á
 frames:X.A.frames=À X.stack
 stk:X.stack=X.outer\/(X.stack=X.env::X.outer/\X.env.frame=À X.env.locals)
 exf:∀b∈X.ex,b≠X.env.locals/\∀x c,X.env.cells.lookup x=À c->c≠b
 bs:∀b o,X.base.get? b=À o->X.s₀.heap.get? b=À o/\X.H₀ b=Á
 bsz:X.base.objs.size<=X.s₀.heap.objs.size
 noex:∀b o,X.base.get? b=À o->b∉X.ex
 exfs:∀b∈X.ex,b∉X.fs
 funs:X.s₀.heap.FunFrames X.base X.outer
 frf:∀b∈X.fs,X.H₀ b=Á
structure Inv(X:Cx)(Oa:List (Ç×Obj))(σ:List (Option V))(H:Hp)(s:É):Prop where
 ok:X.Ok
 os:s.os=X.s₀.os
 bare:ź s.gens
 base:Un X.fs X.ex X.H₀ H X.s₀.heap s.heap
 loc:∃m,s.heap.Ns X.env.locals m/\∀(i:Nat)(x:Ì)(v:V),X.N[i]?=À x->σ[i]?=À (À v)->zt X.env.scope x->∃u,RelV v u/\Mh X.env s.heap m x u
 cell:∀x c,X.env.cells.lookup x=À c->∃v,s.heap.IsCell c v
 free:H X.env.locals=Á
 freeC:∀x c,X.env.cells.lookup x=À c->H c=Á
 pin:∀p∈X.pn++Oa,s.heap.get? p.1=À p.2/\H p.1=Á/\p.1≠X.env.locals/\p.1∉X.fs/\∀v,p.2.data≠.cell v
 Oi:HOk X.prog X.w H s.heap
 len:σ.length=X.N.length
section
variable{X:Cx}{Oa:List (Ç×Obj)}{σ:List (Option V)}{H H':Hp}{s:É}{h':ä}
theorem Cx.Ok.nofr(ok:X.Ok)(e:X.base.get? b=À o):b∉X.fs:=fun a=>by
 have:=(ok.funs.mem a).1
 rw[e]at this;cases this
theorem Inv.bs(I:Inv X Oa σ H s):∀b o,X.base.get? b=À o->s.heap.get? b=À o/\H b=Á:=fun b o e =>
 ⟨I.base.keep b o (I.ok.bs b o e).1 (I.ok.bs b o e).2 (I.ok.nofr e) (I.ok.noex b o e),I.base.free b o (I.ok.bs b o e).1 (I.ok.bs b o e).2 (I.ok.noex b o e)⟩
theorem Inv.bk(I:Inv X Oa σ H s):∀b o,X.base.get? b=À o->s.heap.get? b=À o:=fun b o e=>(I.bs b o e).1
theorem Inv.mod(I:Inv X Oa σ H s):Mod X.K X.mg X.base:=I.ok.mod
theorem Inv.kIn(I:Inv X Oa σ H s):X.K.In s.heap:=I.ok.mod.kin.keeps I.bk
theorem Inv.nolimit(I:Inv X Oa σ H s):s.heap.NoLimit:=I.ok.mod.nolimit.keeps I.bk
theorem Inv.lt(I:Inv X Oa σ H s):X.env.locals<s.heap.objs.size:=let⟨_,a,_⟩:=I.loc;a.lt
theorem Inv.sz(I:Inv X Oa σ H s):X.s₀.heap.objs.size<=s.heap.objs.size:=z5 I.ok.above (yZ I.lt)
theorem Inv.nofs(I:Inv X Oa σ H s)(h:s.heap.objs.size<=a):a∉X.fs:=fun c=>by
 obtain⟨_,o,b,_⟩:=I.ok.funs.mem c;exact absurd (zJ (yJ b) (z5 I.sz h)) (xB _)
theorem Inv.cne(I:Inv X Oa σ H s):∀x c,X.env.cells.lookup x=À c->c≠X.env.locals:=fun x c e z=>by
 obtain⟨v,o,d,hd⟩:=I.cell x c e;obtain⟨m,⟨f,g,h,a,b,_⟩,_⟩:=I.loc;rw[z,a]at d;cases d;rw[b]at hd;cases hd
theorem Inv.funs(I:Inv X Oa σ H s):s.heap.FunFrames X.base X.outer:=by
 have all:∀(l:List Q6),(∀b∈jV l,b∈X.fs)->X.s₀.heap.FunFrames X.base l->s.heap.FunFrames X.base l:=by
  intro l
  induction l with
  |nil=>intro _ _;trivial
  |cons n r g =>
   intro f k;obtain⟨m,⟨L,o,a,j,i,hd⟩,h⟩:=k;have d:L∈X.fs:=f L (by unfold jV;rw[Ő,a];exact z7);obtain⟨p,e⟩:=I.base.slot L o i (I.ok.frf L d) d fun z=>I.ok.exfs L z d
   exact⟨m,⟨L,_,a,j,e,hd⟩,g (fun b c=>f b (by unfold jV;rw[Ő,a];exact zQ _ c)) h⟩
 exact all X.outer (fun _ c=>c) I.ok.funs
theorem Inv.stack(I:Inv X Oa σ H s):s.heap.FunFrames X.base X.stack:=by
 rcases I.ok.stk with e|⟨e,b⟩
 ·rw[e];exact I.funs
 ·rw[e]
  obtain⟨m,a,_⟩:=I.loc;refine .cons (by rw[I.ok.kind];decide) b a ?_ I.funs;exact Heap.get?_none_of_le (z5 I.ok.bsz I.ok.above)
theorem Inv.stkSub(I:Inv X Oa σ H s):∀b∈jV X.stack,b∈X.env.locals::X.fs:=fun b a=>by
 rcases I.ok.stk with e|⟨e,c⟩
 ·rw[e]at a;exact zQ _ a
 ·rw[e]at a
  unfold jV at a;rw[Ő,c]at a;exact a
theorem Inv.stkFree(I:Inv X Oa σ H s):∀b∈jV X.stack,H b=Á:=fun b a=>by
 rcases zT.mp (I.stkSub b a) with e|a
 ·rw[e];exact I.free
 ·obtain⟨_,o,c,_⟩:=I.ok.funs.mem a
  exact I.base.free b o c (I.ok.frf b a) fun z=>I.ok.exfs b z a
theorem Inv.step{g':Array GenState}{t':Nat}{d':Drawn}{ch:List Ç}(I:Inv X Oa σ H s)
  (j:∀b∈ch,(b∈X.ex\/X.s₀.heap.objs.size<=b)/\b≠X.env.locals/\(∀x c,X.env.cells.lookup x=À c->c≠b)/\∀p∈X.pn++Oa,p.1≠b)
  (h:∀b o,b≠X.env.locals->b∉X.fs->b∉ch->s.heap.get? b=À o->H b=Á->h'.get? b=À o)
  (A:∀b o,b≠X.env.locals->b∈X.fs->b∉ch->s.heap.get? b=À o->H b=Á->∃sl,h'.get? b=À { o with slots:=sl }) (f:∀b o,b∉ch->s.heap.get? b=À o->H b=Á->H' b=Á)
  (B:∀b o,b∉ch->s.heap.get? b=À o->∃o',h'.get? b=À o')
  (E:∀b xs,H b=À (.tup xs)->H' b=À (.tup xs)) (J:∀b o u,H b=À (.frz o u)->H' b=À (.frz o u)) (F:∀b ps,H b=À (.tbl ps)->∃more,H' b=À (.tbl (ps++more)))
  (ns:∀m,s.heap.Ns X.env.locals m->h'.Ns X.env.locals m) (V:HOk X.prog X.w H' h') (T:ź g') :
  Inv X Oa σ H' { s with heap:=h',gens:=g',drawn:=d',toks:=t' }:=by
 have G:∀b o,X.s₀.heap.get? b=À o->b≠X.env.locals:=fun b o e=>zU (zJ (yJ e) I.ok.above)
 have w:∀b o,X.s₀.heap.get? b=À o->b∉X.ex->b∉ch:=fun b o e a C=>by
  rcases(j b C).1 with z|z
  ·exact a z
  ·exact absurd (zJ (yJ e) z) (xB _)
 have t:∀x c,X.env.cells.lookup x=À c->∀v,s.heap.IsCell c v->h'.IsCell c v:=fun x c e v M=>by
  obtain⟨o,D,hd⟩:=M;have g:c∉ch:=fun z=>(j c z).2.2.1 x c e rfl
  by_cases P:c∈X.fs
  ·obtain⟨sl,q⟩:=A c o (I.cne x c e) P g D (I.freeC x c e)
   exact⟨_,q,hd⟩
  ·exact⟨o,h c o (I.cne x c e) P g D (I.freeC x c e),hd⟩
 refine⟨I.ok,I.os,T,⟨fun b o e n C a=>?_,fun b o e n C a=>?_,fun b o e n a=>?_,fun b o e a=>?_,fun b xs e=>E b xs (I.base.tups b xs e),fun b o xs e=>J b o xs (I.base.frzs b o xs e),fun b ps e=>?_⟩,?_,fun x c e=>?_,?_,fun x c e=>?_,fun p O=>?_,V,I.len⟩
 ·exact h b o (G b o e) C (w b o e a) (I.base.keep b o e n C a) (I.base.free b o e n a)
 ·obtain⟨sl,y⟩:=I.base.slot b o e n C a
  obtain⟨L,K⟩:=A b _ (G b o e) C (w b o e a) y (I.base.free b o e n a);exact⟨L,K⟩
 ·obtain⟨o',y⟩:=I.base.there b o e a
  exact f b o' (w b o e a) y (I.base.free b o e n a)
 ·obtain⟨o',y⟩:=I.base.there b o e a
  exact B b o' (w b o e a) y
 ·obtain⟨Q,y⟩:=I.base.tbls b ps e
  obtain⟨m2,K⟩:=F b _ y;exact⟨Q++m2,by rw[K,Array.append_assoc]⟩
 ·obtain⟨m,R,S⟩:=I.loc
  refine⟨m,ns m R,fun i x v y K U=>?_⟩;obtain⟨u,r,l⟩:=S i x v y K U;refine⟨u,r,?_⟩;rcases l with l|⟨k,c,e,z⟩
  ·exact .inl l
  ·exact .inr ⟨k,c,e,t x c e _ z⟩
 ·obtain⟨v,z⟩:=I.cell x c e
  exact⟨v,t x c e v z⟩
 ·obtain⟨m,⟨o,_,_,D,_⟩,_⟩:=I.loc
  exact f _ o (fun z=>(j _ z).2.1 rfl) D I.free
 ·obtain⟨v,o,D,hd⟩:=I.cell x c e
  exact f c o (fun z=>(j c z).2.2.1 x c e rfl) D (I.freeC x c e)
 ·obtain⟨e,n,ne,N,d⟩:=I.pin p O
  have g:p.1∉ch:=fun z=>(j p.1 z).2.2.2 p O rfl
  exact⟨h p.1 p.2 ne N g e n,f p.1 p.2 g e n,ne,N,d⟩
theorem Inv.un{t':Nat}(I:Inv X Oa σ H s)(u:Un X.fs [] H H' s.heap h')(k:HOk X.prog X.w H' h'):Inv X Oa σ H' { s with heap:=h',toks:=t' }:=by
 obtain⟨m,⟨o,t,v,g,r⟩,_⟩:=id I.loc;obtain⟨l,j⟩:=u.any g I.free (by simp);exact I.step (g':=s.gens) (d':=s.drawn) (ch:=[]) (fun _ z=>nomatch z) (fun b o _ c _ e n=>u.keep b o e n c (by simp)) (fun b o _ c _ e n=>u.slot b o e n c (by simp)) (fun b o _ e n=>u.free b o e n (by simp)) (fun b o _ e=>u.there b o e (by simp)) u.tups u.frzs u.tbls (fun q i=>by
  obtain⟨p,d,f,a,h⟩:=i;rw[g]at a;cases a;exact⟨_,d,f,j,h⟩) k I.bare
theorem Inv.call{g':Array GenState}{t':Nat}{d':Drawn}{ch:List Ç}(I:Inv X Oa σ H s)(u:Un (jV X.stack) ch H H' s.heap h')(v:HOk X.prog X.w H' h')(q:ź g')
  (f:∀b∈ch,(b∈X.ex\/X.s₀.heap.objs.size<=b)/\b≠X.env.locals/\(∀x c,X.env.cells.lookup x=À c->c≠b)/\∀p∈X.pn++Oa,p.1≠b) :
  Inv X Oa σ H' { s with heap:=h',gens:=g',drawn:=d',toks:=t' }:=by
 obtain⟨m,⟨o,B,C,j,r⟩,_⟩:=id I.loc;obtain⟨w,g⟩:=u.any j I.free fun z=>(f _ z).2.1 rfl
 exact I.step (ch:=ch) f (fun b o g t a e n=>u.keep b o e n (fun z=>(zT.mp (I.stkSub b z)).elim g t) a) (fun b o _ _ a e n=>u.any e n a) (fun b o a e n=>u.free b o e n a) (fun b o a e=>u.there b o e a) u.tups u.frzs u.tbls (fun A l=>by
  obtain⟨y,h,i,d,k⟩:=l;rw[j]at d;cases d;exact⟨_,h,i,g,k⟩) v q
theorem Inv.turned{t':Nat}{it:Ç}(I:Inv X Oa σ H s)(k:∀b o,b≠it->s.heap.get? b=À o->h'.get? b=À o)(h:H it=Á)(f:it≠X.env.locals)
  (w:it∈X.ex\/X.s₀.heap.objs.size<=it) (t:∀x c,X.env.cells.lookup x=À c->c≠it) (l:∀p∈X.pn++Oa,p.1≠it):Inv X Oa σ H { s with heap:=h',toks:=t' }:=by
 have d:∀b u,H b=À u->b≠it:=fun b u e z=>by rw[z,h]at e;cases e
 refine I.step (g':=s.gens) (d':=s.drawn) (ch:=[it]) (fun b j=>?_) (fun b o _ _ a e _=>k b o (fun z=>a (by simp[z])) e) (fun b o _ _ a e _=>⟨o.slots,k b o (fun z=>a (by simp[z])) e⟩) (fun _ _ _ _ n=>n)
  (fun b o a e=>⟨o,k b o (fun z=>a (by simp[z])) e⟩) (fun _ _ e=>e) (fun _ _ _ e=>e) (fun b B e=>⟨#[],by rw[e];simp⟩) (fun m i=>?_) (fun b u e=>?_) I.bare
 ·have e:b=it:=by simpa using j
  subst e;exact⟨w,f,t,l⟩
 ·obtain⟨o,y,A,g,r⟩:=i
  exact⟨o,y,A,k _ o (ã f) g,r⟩
 ·refine(I.Oi b u e).stay (fun c v a q=>k c v ?_ q) (fun _ q=>q) fun _ _ q=>q
  rcases a with z|z
  ·rw[z];exact d b u e
  ·exact d c _ z
theorem Inv.tok(I:Inv X Oa σ H s)(t:Nat):Inv X Oa σ H { s with toks:=t }:=I.un (h':=s.heap) (t':=t) Un.refl I.Oi
theorem Inv.kept{t':Nat}(I:Inv X Oa σ H s)(k:∀b u,s.heap.get? b=À u->h'.get? b=À u):Inv X Oa σ H { s with heap:=h',toks:=t' }:=I.un (Un.kept k) (I.Oi.kept k)
theorem Inv.laid{t':Nat}(I:Inv X Oa σ H s)(k:∀b u,s.heap.get? b=À u->h'.get? b=À u)(c:s.heap.objs.size<=a)(new:ObjOk X.prog X.w (ah H a o) h' a o) :
  Inv X Oa σ (ah H a o) { s with heap:=h',toks:=t' }:=I.un (Un.laid k c (I.Oi.fresh c)) (I.Oi.laid k c new)
theorem Inv.write{t':Nat}(I:Inv X Oa σ H s)(c:zx (H x))(he:e=x\/H e=À (.own x))(k:∀b u,b≠e->s.heap.get? b=À u->h'.get? b=À u)(a:∃u,h'.get? e=À u)
  (new:ObjOk X.prog X.w (ah H x o) h' x o):Inv X Oa σ (ah H x o) { s with heap:=h',toks:=t' }:=I.un (Un.write c he k a) (I.Oi.write c he k a new)
theorem Inv.pins_of(I:Inv X Oa σ H s)(h:∀p∈pins',s.heap.get? p.1=À p.2/\H p.1=Á/\p.1≠X.env.locals/\p.1∉X.fs/\∀v,p.2.data≠.cell v):Inv X pins' σ H s :=
 ⟨I.ok,I.os,I.bare,I.base,I.loc,I.cell,I.free,I.freeC,fun p a=>(zZ.mp a).elim (fun z=>I.pin p (zL _ z)) (h p),I.Oi,I.len⟩
theorem se{N:List Ì}(c:N.Nodup){i j:Nat}{x:Ì}(a:N[i]?=À x)(b:N[j]?=À x):i=j:=by
 obtain⟨g,e⟩:=zB.mp a;obtain⟨f,d⟩:=zB.mp b;exact(ť c).mp (e.trans d.symm)
theorem qb{M:Model}{A:ċ}{E:Å->É->Prop}{i:Nat}{x:Ì}{v:V}{u:Å}{Q:Unit->É->Prop}(I:Inv X Oa σ H s)(hN:X.N.Nodup)(P:X.N[i]?=À x)(w:Loc X.env.scope x)(r:RelV v u)
  (h:∀s',Inv X Oa (σ.set i (À v)) H s'->(∃a,Ĭ a s.heap s'.heap/\(a=X.env.locals\/X.env.cells.lookup x=À a))->Q () s') (hf:autoParam (X.fn x=Â\/X.env.scope.names.lookup x=À .local) Ax1._auto_1):Í M A (storeName X.env x u) Q E s:=by
 obtain⟨m,hn,hl⟩:=id I.loc;have R:(X.env.scope.kind==.class||(X.env.scope.kind==.module&&X.env.locals !=X.env.globals))=Ä:=by rw[I.ok.kind];rfl
 have F:i<σ.length:=by rw[I.len];exact(zB.mp P).1
 have cne:=I.cne;have g:∀{a:Ç}{L:ä},(∃o,s.heap.get? a=À o/\H a=Á)->Ĭ a s.heap L->HOk X.prog X.w H L:=fun {a L} ha f b ob e=>by
  obtain⟨_,_,B⟩:=ha;refine(I.Oi b ob e).stay (fun c U t q=>(f.2 c ?_).trans q) (fun _ q=>q) fun _ _ q=>q
  rintro rfl;rcases t with rfl|t
  ·rw[B]at e;cases e
  ·rw[B]at t;cases t
 rcases w with D|D
 ·refine wpAny_storeName_local D hn (fun L hn' f=>?_) R
  obtain⟨oL,_,_,hoL,_⟩:=id hn;refine h _ ⟨I.ok,I.os,I.bare,⟨fun b o e n K w=>?_,fun b o e n K w=>?_,I.base.free,fun b o e w=>?_,I.base.tups,I.base.frzs,I.base.tbls⟩,⟨_,hn',fun j y Y l C e3=>?_⟩,fun y c e=>?_,I.free,I.freeC,fun p hp=>?_,g ⟨oL,hoL,I.free⟩ f,by simpa using I.len⟩ ⟨_,f,.inl rfl⟩
  ·exact(f.2 b (zU (zJ (yJ e) I.ok.above))).trans (I.base.keep b o e n K w)
  ·obtain⟨sl,l⟩:=I.base.slot b o e n K w
   exact⟨sl,(f.2 b (zU (zJ (yJ e) I.ok.above))).trans l⟩
  ·obtain⟨o',l⟩:=I.base.there b o e w
   exact⟨o',(f.2 b (zU (zJ (yJ e) I.ok.above))).trans l⟩
  ·by_cases G:j=i
   ·subst G
    rw[P]at l;cases l;rw[î F]at C;cases C;exact⟨u,r,.inl ⟨D,by simp⟩⟩
   ·rw[ê (ã G)]at C
    obtain⟨Z,r',q⟩:=hl j y Y l C e3;refine⟨Z,r',?_⟩;rcases q with⟨k,e⟩|⟨k,c,e,z⟩
    ·refine .inl ⟨k,?_⟩
     have:y≠x:=fun e=>G (se hN l (e▸P))
     simp[this,e]
    ·exact .inr ⟨k,c,e,z.sameBut f (cne y c e)⟩
  ·obtain⟨U,z⟩:=I.cell y c e
   exact⟨U,z.sameBut f (cne y c e)⟩
  ·obtain⟨e,n,ne,nf,d⟩:=I.pin p hp
   exact⟨(f.2 p.1 ne).trans e,n,ne,nf,d⟩
 ·have J:X.fn x=Â:=by
   rcases hf with z|z
   ·exact z
   ·rw[z]at D;cases D
  obtain⟨c,t⟩:=I.ok.has x (.inl D);obtain⟨U,z⟩:=I.cell x c t;refine wpAny_storeName_cell I.ok.kind D t z (fun L T f=>?_);obtain⟨oc,O,N⟩:=id z;refine h { s with heap:=L } ⟨I.ok,I.os,I.bare,⟨fun b o e n K w=>?_,fun b o e n K w=>?_,I.base.free,fun b o e w=>?_,I.base.tups,I.base.frzs,I.base.tbls⟩,⟨m,hn.sameBut f (ã (cne x c t)),fun j y Y l C e3=>?_⟩,fun y W e=>?_,I.free,I.freeC,fun p hp=>?_,g ⟨oc,O,I.freeC x c t⟩ f,by simpa using I.len⟩ ⟨c,f,.inr t⟩
  ·exact(f.2 b (zU (zJ (yJ e) (I.ok.cab x c J t)))).trans (I.base.keep b o e n K w)
  ·obtain⟨sl,l⟩:=I.base.slot b o e n K w
   exact⟨sl,(f.2 b (zU (zJ (yJ e) (I.ok.cab x c J t)))).trans l⟩
  ·obtain⟨o',l⟩:=I.base.there b o e w
   exact⟨o',(f.2 b (zU (zJ (yJ e) (I.ok.cab x c J t)))).trans l⟩
  ·by_cases G:j=i
   ·subst G
    rw[P]at l;cases l;rw[î F]at C;cases C;exact⟨u,r,.inr ⟨.inl D,c,t,T⟩⟩
   ·rw[ê (ã G)]at C
    obtain⟨Z,r',q⟩:=hl j y Y l C e3;refine⟨Z,r',?_⟩;rcases q with q|⟨k,W,e,z'⟩
    ·exact .inl q
    ·refine .inr ⟨k,W,e,z'.sameBut f ?_⟩
     rintro rfl;exact G (se hN l (I.ok.inj _ _ _ e t▸P))
  ·by_cases S:W=c
   ·subst S;exact⟨_,T⟩
   ·obtain⟨w2,z2⟩:=I.cell y W e
    exact⟨w2,z2.sameBut f S⟩
  ·obtain⟨e,n,ne,nf,d⟩:=I.pin p hp
   refine⟨(f.2 p.1 ?_).trans e,n,ne,nf,d⟩;intro q;rw[q,O]at e;have q':oc=p.2:=yE e;exact d U (by rw[<- q'];exact N)
theorem rJ{i:Nat}(I:Inv X Oa σ H s)(d:X.N.Nodup)(b:X.N[i]?=À x)(a:Loc X.env.scope x)(r:RelV v u)
  (h:∀s',Inv X Oa (σ.set i (À v)) H s'->Q () s') (c:autoParam (X.fn x=Â\/X.env.scope.names.lookup x=À .local) Ax1._auto_1):Í M A (storeName X.env x u) Q E s :=
 qb I d b a r (fun s' e _=>h s' e) c
theorem Inv.call'(I:Inv X Oa σ H s)(f:s'.os=s.os)(u:Un (jV X.stack) ch H H' s.heap s'.heap)(h:HOk X.prog X.w H' s'.heap)(g:ź s'.gens)
  (a:∀b∈ch,(b∈X.ex\/X.s₀.heap.objs.size<=b)/\b≠X.env.locals/\(∀x c,X.env.cells.lookup x=À c->c≠b)/\∀p∈X.pn++Oa,p.1≠b):Inv X Oa σ H' s':=by
 obtain⟨i,g',d',t',d⟩:=s';have e:d=s.os:=f;subst e;exact I.call (g':=g') (t':=t') (d':=d') u h g a
end
abbrev XK:=Å->Option Ç->Hp->Prop
abbrev St:=List (Option V)
abbrev VK:=V->Hp->Prop
abbrev TE:=St->Hp->VK->Prop
abbrev TT:=St->Hp->(Bool->Hp->Prop)->Prop
abbrev TA:=St->Hp->(List V->Hp->Prop)->Prop
structure kS where
 nx:St->Hp->Prop
 rt:VK
 bk:St->Hp->Prop:=fun _ _=>False
 ct:St->Hp->Prop:=fun _ _=>False
abbrev TS:=kS->St->Hp->Prop
def EP(X:Cx)(Oa:List (Ç×Obj))(σ:St)(Q:VK)(u:Å)(s':É):Prop:=∃v a,Inv X Oa σ a s'/\RelV v u/\Q v a
def TP(X:Cx)(Oa:List (Ç×Obj))(σ:St)(Q:Bool->Hp->Prop)(b:Bool)(s':É):Prop:=∃a,Inv X Oa σ a s'/\Q b a
def AP(X:Cx)(Oa:List (Ç×Obj))(σ:St)(Q:List V->Hp->Prop)(us:List Å)(s':É):Prop:=∃a b,Inv X Oa σ b s'/\Vals a us/\Q a b
def SP(X:Cx)(Oa:List (Ç×Obj))(D:kS)(f:Flow)(s':É):Prop :=
 match f with
 |.next=>∃a b,Inv X Oa a b s'/\D.nx a b
 |.brk=>∃a b,Inv X Oa a b s'/\D.bk a b
 |.cont=>∃a b,Inv X Oa a b s'/\D.ct a b
 |.ret u=>∃v a b,Inv X Oa a b s'/\RelV v u/\D.rt v b
def PE(X:Cx)(e:Î)(t:TE):Prop :=
 ∀(b:List (Ç×Obj))(s:É)(a:St)(H:Hp)(Q:VK),Inv X b a H s->t a H Q->Í (model X.prog X.w) X.A (eval e X.env) (EP X b a Q) X.xe s
def PT(X:Cx)(e:Î)(t:TT):Prop :=
 ∀(b:List (Ç×Obj))(s:É)(a:St)(H:Hp)(Q:Bool->Hp->Prop),Inv X b a H s->t a H Q->Í (model X.prog X.w) X.A (v? e X.env (eval e X.env)) (TP X b a Q) X.xe s
def PW(X:Cx)(e:Î)(t:TT):Prop :=
 ∀(a:V9 Å)(c:List (Ç×Obj))(s:É)(b:St)(H:Hp)(Q:Bool->Hp->Prop),Inv X c b H s->t b H Q->Í (model X.prog X.w) X.A (v? e X.env a) (TP X c b Q) X.xe s
theorem PW.pt(h:PW X e t):PT X e t:=h _
def PA(X:Cx)(es:List Î)(t:TA):Prop :=
 ∀(b:ġ)(c:List (Ç×Obj))(s:É)(a:St)(H:Hp)(Q:List V->Hp->Prop),Inv X c a H s->t a H Q->Í (model X.prog X.w) X.A (spliced (ø b (Ê es X.env))) (AP X c a Q) X.xe s
def PS(X:Cx)(st:ĸ)(t:TS):Prop :=
 ∀(b:List (Ç×Obj))(s:É)(a:St)(H:Hp)(D:kS),Inv X b a H s->t D a H->Í (model X.prog X.w) X.A (exec st X.env) (SP X b D) X.xe s
def PSs(X:Cx)(st:List ĸ)(t:TS):Prop :=
 ∀(b:List (Ç×Obj))(s:É)(a:St)(H:Hp)(D:kS),Inv X b a H s->t D a H->Í (model X.prog X.w) X.A (execs st X.env) (SP X b D) X.xe s
theorem aD{α:Type}{t:V9 α}{Q Q':α->É->Prop}(h:Í M A t Q E s)(b:∀a s,Q a s->Q' a s):Í M A t Q' E s:=yT h b fun _ _ x=>x
section
variable{X:Cx}
theorem bin{a b:Î}{e d:TE}(m:PE X a e)(l:PE X b d){Oa:List (Ç×Obj)}{s:É}{σ:St}{H:Hp}{R:V->V->Hp->Prop}(I:Inv X Oa σ H s)(h:e σ H fun x H1=>d σ H1 fun y H2=>R x y H2)
  {α:Type}{Q:α->É->Prop}{f:Å->Å->V9 α}
  (k:∀v u s2 x y H2,Inv X Oa σ H2 s2->RelV x v->RelV y u->R x y H2->Í (model X.prog X.w) X.A (f v u) Q X.xe s2) :
  Í (model X.prog X.w) X.A (eval a X.env) (fun v s₁=>Í (model X.prog X.w) X.A (eval b X.env) (fun u s₂=>Í (model X.prog X.w) X.A (f v u) Q X.xe s₂) X.xe s₁) X.xe s:=by
 refine aD (m Oa s σ H _ I h) fun v g c=>?_
 obtain⟨x,H1,o,r1,j⟩:=c;refine aD (l Oa g σ H1 _ o j) fun u s2 c=>?_
 obtain⟨y,H2,n,r2,i⟩:=c;exact k v u s2 x y H2 n r1 r2 i
noncomputable def Lj(i:Nat):TE:=fun a H Q=>∃v,a[i]?=À (À v)/\Q v H
noncomputable def tC(v:V):TE:=fun _ H Q=>Q v H
theorem Gi{i:Nat}(p:X.N[i]?=À x)(j:zt X.env.scope x)(hd:autoParam ((x==("__debug__":Ì))=Ä) Ax0._auto_1)(d:autoParam ((x==("__classdict__":Ì))=Ä) Ax0._auto_1):PE X (.Name x pos) (Lj i):=by
 intro q s g H Q I h;obtain⟨v,e,h⟩:=h;obtain⟨m,k,o⟩:=I.loc;obtain⟨u,r,l⟩:=o i x v p e j;have au:EP X q g Q u s:=⟨v,H,I,r,h⟩;rcases l with⟨b,n⟩|⟨b,c,f,a⟩
 ·exact T5 (wpAny_loadName_local I.ok.kind b k n au) hd
 ·rcases b with b|b
  ·exact T5 (wpAny_loadName_cell I.ok.kind b f a au) hd
  ·exact T5 (wpAny_loadName_free I.ok.kind b f a au d) hd
theorem Gq{i j pos}:PE X (.Constant (.int i) j pos) (tC (.int i)):=fun _ _ _ H _ I h=>wpAny_Constant_int ⟨.int i,H,I.tok _,⟨_,rfl⟩,h⟩
theorem Jd{b j pos}:PE X (.Constant (.bool b) j pos) (tC (.bl b)):=fun _ _ _ H _ I h=>Constant_bool ⟨.bl b,H,I,rfl,h⟩
theorem Gp{j pos}:PE X (.Constant .none j pos) (tC .non):=fun _ _ _ H _ I h=>H? ⟨.non,H,I,rfl,h⟩
theorem Gk{x j pos}:PE X (.Constant (.str x) j pos) (tC (.str x)):=fun _ _ _ H _ I h=>Calls.Constant_str ⟨.str x,H,I.tok _,⟨_,rfl⟩,h⟩
def Gl(X:Cx)(x:Ì):Prop:=X.env.kindOf x=À .globalImplicit
theorem mf(I:Inv X Oa σ H s)(b:Gl X x)(a:X.mg x=À u)(h:Q u s)
  (hd:autoParam ((x==("__debug__":Ì))=Ä) Ax0._auto_1):Í (model X.prog X.w) X.A (eval (.Name x pos) X.env) Q E s :=
 Calls.Name_function_global I.ok.kind b (Calls.loadGlobal_global (by rw[I.ok.glob];exact I.mod.glob.keeps I.bk) a h) hd
theorem dQ(I:Inv X Oa σ H s)(d:Gl X x)(c:X.mg x=Á)(a:â x=À u)(h:Q u s)
  (b:autoParam (x≠"__name__") Ax0._auto_1) (hd:autoParam ((x==("__debug__":Ì))=Ä) Ax0._auto_1):Í (model X.prog X.w) X.A (eval (.Name x pos) X.env) Q E s:=by
 obtain⟨g,f,e⟩:=I.mod.blt;exact Calls.Name_function_global I.ok.kind d (Calls.loadGlobal_builtin (by rw[I.ok.glob];exact I.mod.glob.keeps I.bk) c (by rw[I.ok.blt];exact f.keeps I.bk) ((e x b).trans a) h) hd
theorem Ea(b:Gl X x)(a:X.mg x=À u)(r:RelV v u)(hd:autoParam ((x==("__debug__":Ì))=Ä) Ax0._auto_1):PE X (.Name x pos) (tC v) :=
 fun _ _ _ H _ I h=>mf I b a ⟨v,H,I,r,h⟩ hd
variable{a b:Î}{ta tb:TE}{pos:ġ}
theorem RelV.none_iff(r:RelV x v):(v==Ũ)=decide (x=.non):=by
 cases x with
 |non=>cases r;rfl
 |bl _=>cases r;rfl
 |int _=>obtain⟨t,rfl⟩:=r;rfl
 |str _=>obtain⟨t,rfl⟩:=r;rfl
 |byt _=>obtain⟨t,rfl⟩:=r;rfl
 |flt _=>obtain⟨t,rfl⟩:=r;rfl
 |ref _=>cases r;rfl
 |ty _=>cases r;rfl
variable{tA tB':TT}{rest:List Î}
noncomputable def Lw(t u:TT):TT:=fun a H Q=>t a H fun c b=>if c=Â then u a b Q else Q Ä b
noncomputable def MC(t u:TT):TT:=fun a H Q=>t a H fun c b=>if c=Â then Q Â b else u a b Q
noncomputable def Lo(t:TT):TT:=fun a H Q=>t a H fun c b=>Q (!c) b
theorem DJ(d:PT X a tA):PW X (.BoolOp .And [a] pos) tA:=by
 intro g f s b H Q I h;refine isTrue_and (aD (d f s b H Q I h) fun c i e=>?_);cases c with
 |true=>exact isTrue_and_nil e
 |false=>exact e
theorem F4(d:PT X a tA):PW X (.BoolOp .Or [a] pos) tA:=by
 intro g f s b H Q I h;refine isTrue_or (aD (d f s b H Q I h) fun c i e=>?_);cases c with
 |false=>exact isTrue_or_nil e
 |true=>exact e
theorem F5(n:PT X a tA)(m:PW X (.BoolOp .And (b::rest) pos) tB'):PW X (.BoolOp .And (a::b::rest) pos) (Lw tA tB'):=by
 intro k g s e H Q I h;refine isTrue_and (aD (n g s e H _ I h) fun c l d=>?_);obtain⟨j,i,f⟩:=d;cases c with
 |true=>exact m k g l e j Q i f
 |false=>exact⟨j,i,f⟩
theorem IU(n:PT X a tA)(m:PW X (.BoolOp .Or (b::rest) pos) tB'):PW X (.BoolOp .Or (a::b::rest) pos) (MC tA tB'):=by
 intro k g s e H Q I h;refine isTrue_or (aD (n g s e H _ I h) fun c l d=>?_);obtain⟨j,i,f⟩:=d;cases c with
 |true=>exact⟨j,i,f⟩
 |false=>exact m k g l e j Q i f
theorem F6(d:PT X a tA):PT X (.UnaryOp .Not a pos) (Lo tA):=by
 intro e s b H Q I h;exact isTrue_not (d e s b H (fun c f=>Q (!c) f) I h)
noncomputable def Ir(e d:TE):TE:=fun a H Q=>e a H fun x b=>∃c,x=.bl c/\if c=Â then d a b Q else Q (.bl Ä) b
noncomputable def Ln(e d:TE):TE:=fun a H Q=>e a H fun x b=>∃c,x=.bl c/\if c=Â then Q (.bl Â) b else d a b Q
noncomputable def Im(b:TE):TE:=fun a H Q=>b a H fun x d=>∃c,x=.bl c/\Q (.bl (!c)) d
theorem Gn{c}(h:PE X a t):PE X (.BoolOp c [a] pos) t:=fun e s b H Q I d=>BoolOp_one (h e s b H Q I d)
theorem Gu(m:PE X a ta)(l:PE X (.BoolOp .And (b::rest) pos) tb):PE X (.BoolOp .And (a::b::rest) pos) (Ir ta tb):=by
 intro g s f H Q I h;refine BoolOp_and (aD (m g s f H _ I h) fun v k e=>?_);obtain⟨x,j,i,r1,d⟩:=e;obtain⟨c,rfl,d⟩:=d;cases r1;refine Ĩ ?_;cases c with
 |true=>exact l g k f j Q i d
 |false=>exact⟨.bl Ä,j,i,rfl,d⟩
theorem IZ(m:PE X a ta)(l:PE X (.BoolOp .Or (b::rest) pos) tb):PE X (.BoolOp .Or (a::b::rest) pos) (Ln ta tb):=by
 intro g s f H Q I h;refine BoolOp_or (aD (m g s f H _ I h) fun v k e=>?_);obtain⟨x,j,i,r1,d⟩:=e;obtain⟨c,rfl,d⟩:=d;cases r1;refine Ĩ ?_;cases c with
 |false=>exact l g k f j Q i d
 |true=>exact⟨.bl Â,j,i,rfl,d⟩
theorem Go(f:PE X a ta):PE X (.UnaryOp .Not a pos) (Im ta):=by
 intro g s e H Q I h;refine UnaryOp_ (aD (f g s e H _ I h) fun v k d=>?_);obtain⟨x,j,i,r1,b⟩:=d;obtain⟨c,rfl,b⟩:=b;cases r1;exact not_of (Ĩ ⟨.bl (!c),j,i,rfl,b⟩)
noncomputable def MD(t:TT)(e d:TE):TE:=fun a H Q=>t a H fun c b=>if c=Â then e a b Q else d a b Q
theorem AU(m:PT X c tA)(o:PE X a ta)(n:PE X b tb):PE X (.IfExp c a b pos) (MD tA ta tb):=by
 intro g s e H Q I h;refine wpAny_IfExp (aD (m g s e H _ I h) fun d i f=>?_);obtain⟨l,k,j⟩:=f;cases d with
 |true=>exact o g i e l Q k j
 |false=>exact n g i e l Q k j
end
def bR(K:á)(H:Hp)(a:Ç)(xs:List V):Prop :=
 Rd H a (.lst xs) \/
  ∃(o:W?)(b:Array Å)(n:Nat),K.lookup a=À o/\o.cls=.type "list"/\o.dict=Á/\o.data=.seq b n/\b.size<=Ë/\Vals xs b.toList
def iq(K:á)(H:Hp)(a:Ç)(xs:List V):Prop :=
 Rd H a (.tup xs) \/
  ∃(o:W?)(b:Array Å)(n:Nat),K.lookup a=À o/\o.cls=.type "tuple"/\o.data=.seq b n/\b.size<=Ë/\Vals xs b.toList
noncomputable def Me:Å->Option V
 |.none=>À .non
 |.bool b=>À (.bl b)
 |.int i _=>À (.int i)
 |.str x _=>À (.str x)
 |.bytes b _=>À (.byt b)
 |.float b _=>À (.flt b)
 |.ref a=>À (.ref a)
 |.type n=>À (.ty n)
 |_=>Á
theorem RelV.abs(r:RelV x u):Me u=À x:=by
 cases x with
 |non=>cases r;rfl
 |bl _=>cases r;rfl
 |int _=>obtain⟨t,rfl⟩:=r;rfl
 |str _=>obtain⟨t,rfl⟩:=r;rfl
 |byt _=>obtain⟨t,rfl⟩:=r;rfl
 |flt _=>obtain⟨t,rfl⟩:=r;rfl
 |ref _=>cases r;rfl
 |ty _=>cases r;rfl
theorem RelV.inj(r:RelV x u)(q:RelV y u):x=y:=yE (r.abs.symm.trans q.abs)
theorem Vals.inj{xs ys:List V}{us:List Å}(h:Vals xs us):Vals ys us->xs=ys:=by
 induction h generalizing ys with
 |nil=>intro a;cases a;rfl
 |cons r t d =>
  intro a;cases a with
  |cons c b=>rw[r.inj c,d b]
section
variable{X:Cx}{Oa:List (Ç×Obj)}{σ:St}{H:Hp}{s:É}{a:Ç}{xs ys:List V}
theorem Inv.list(I:Inv X Oa σ H s)(h:bR X.K H a xs):∃Oe:List Å,Vals xs Oe/\PlainL s.heap a Oe.toArray/\xs.length<=Ë:=by
 rcases h with h|⟨o,Oe,n,c,d,hd,b,hz,r⟩
 ·obtain⟨z,Oe,n,r,e⟩:=h.ok I.Oi
  exact⟨Oe,r,⟨_,n,e,rfl,rfl,rfl⟩,z⟩
 ·refine⟨Oe.toList,r,⟨o,n,I.kIn a o c,d,hd,by simpa using b⟩,?_⟩
  have e:=r.length;simp only[ï]at e;lia
theorem Inv.tuple(I:Inv X Oa σ H s)(h:iq X.K H a xs):∃Oe:List Å,Vals xs Oe/\IsTup s.heap a Oe.toArray/\xs.length<=Ë:=by
 rcases h with h|⟨o,Oe,n,c,d,b,hz,r⟩
 ·obtain⟨z,Oe,r,p⟩:=h.ok I.Oi
  exact⟨Oe,r,p,z⟩
 ·refine⟨Oe.toList,r,⟨o,I.kIn a o c,d,n,by simpa using b⟩,?_⟩
  have e:=r.length;simp only[ï]at e;lia
theorem Inv.list_inj(I:Inv X Oa σ H s)(h:bR X.K H a xs)(h':bR X.K H a ys):xs=ys:=by
 obtain⟨i,r,⟨o,n,e,_,_,d⟩,_⟩:=I.list h;obtain⟨b,g,⟨j,k,c,_,_,f⟩,_⟩:=I.list h';rw[e]at c;cases c;rw[d]at f;injection f with d1 _;have:i=b:=by simpa using congrArg U2 d1
 subst this;exact r.inj g
theorem Inv.tuple_inj(I:Inv X Oa σ H s)(h:iq X.K H a xs)(h':iq X.K H a ys):xs=ys:=by
 obtain⟨i,r,⟨o,e,_,n,d⟩,_⟩:=I.tuple h;obtain⟨b,g,⟨j,c,_,k,f⟩,_⟩:=I.tuple h';rw[e]at c;cases c;rw[d]at f;injection f with d1 _;have:i=b:=by simpa using congrArg U2 d1
 subst this;exact r.inj g
end
abbrev Cx.wish(X:Cx)(E:Å->É->Prop):Cx:={ X with xe:=E }
abbrev Cx.nox(X:Cx):Cx:=X.wish fun _ _=>False
theorem Cx.Ok.wish{X:Cx}(ok:X.Ok)(E:Å->É->Prop):(X.wish E).Ok :=
 ⟨ok.mod,ok.kind,ok.glob,ok.blt,ok.above,ok.inj,ok.has,ok.cab,ok.hd,ok.frames,ok.stk,ok.exf,ok.bs,ok.bsz,ok.noex,ok.exfs,ok.funs,ok.frf⟩
theorem Cx.Ok.unwish{X:Cx}{E:Å->É->Prop}(ok:(X.wish E).Ok):X.Ok :=
 ⟨ok.mod,ok.kind,ok.glob,ok.blt,ok.above,ok.inj,ok.has,ok.cab,ok.hd,ok.frames,ok.stk,ok.exf,ok.bs,ok.bsz,ok.noex,ok.exfs,ok.funs,ok.frf⟩
section
variable{X:Cx}{Oa:List (Ç×Obj)}{σ:St}{H:Hp}{s:É}{E:Å->É->Prop}
theorem Inv.wish(I:Inv X Oa σ H s)(E:Å->É->Prop):Inv (X.wish E) Oa σ H s:=⟨I.ok.wish E,I.os,I.bare,I.base,I.loc,I.cell,I.free,I.freeC,I.pin,I.Oi,I.len⟩
theorem Inv.unwish(I:Inv (X.wish E) Oa σ H s):Inv X Oa σ H s:=⟨I.ok.unwish,I.os,I.bare,I.base,I.loc,I.cell,I.free,I.freeC,I.pin,I.Oi,I.len⟩
theorem SP.unwish(h:SP (X.wish E) Oa D f s'):SP X Oa D f s':=by
 cases f with
 |next=>obtain⟨a,b,I,q⟩:=h;exact⟨a,b,I.unwish,q⟩
 |brk=>obtain⟨a,b,I,q⟩:=h;exact⟨a,b,I.unwish,q⟩
 |cont=>obtain⟨a,b,I,q⟩:=h;exact⟨a,b,I.unwish,q⟩
 |ret u=>obtain⟨v,a,b,I,r,q⟩:=h;exact⟨v,a,b,I.unwish,r,q⟩
theorem PSs.nox{st:List ĸ}{t:TS}(h:PSs X.nox st t):PSs X st t:=fun c s a H D I b =>
 yT (h c s a H D (I.wish _) b) (fun _ _ q=>q.unwish) fun _ _ z=>False.elim z
end
section
variable{X:Cx}{st:ĸ}{rest:List ĸ}{t u:TS}{e:Î}{te:TE}{pos:ġ}
noncomputable def Io:TS:=fun D a H=>D.nx a H
noncomputable def Ll(t u:TS):TS:=fun D a H=>t { D with nx:=u D } a H
theorem DL:PSs X [] Io:=fun _ _ a H _ I h=>k! ⟨a,H,I,h⟩
theorem AH(g:PS X st t)(e:PSs X rest u):PSs X (st::rest) (Ll t u):=by
 intro b s c H D I h;refine wpAny_execs_cons (aD (g b s c H { D with nx:=u D } I h) fun f d q=>?_);cases f with
 |next =>
  obtain⟨a,j,i,q⟩:=q;exact e b d a j D i q
 |ret v=>exact q
 |brk=>exact q
 |cont=>exact q
theorem Inv.quiet(I:Inv X Oa σ H s):interactive X.env=Ä:=by simp[interactive,I.ok.kind]
noncomputable def Ip(te:TE):TS:=fun D a H=>te a H fun _ b=>D.nx a b
theorem DN(he:PE X e te)(c:autoParam (ķ e Á pos.line X.env=pure Ä) Ax2._auto_1):PS X (.Expr e pos) (Ip te):=by
 intro d s a H D I h;exact wpAny_Expr_any (aD (he d s a H _ I h) fun v i ⟨x,g,f,r1,b⟩=>⟨a,g,f,b⟩) I.quiet c
noncomputable def Lm(te:TE):TS:=fun D a H=>te a H D.rt
theorem F8(he:PE X e te):PS X (.Return (À e) pos) (Lm te):=by
 intro c s a H D I h;exact wpAny_Return_some (aD (he c s a H _ I h) fun v g ⟨x,f,d,r1,b⟩=>⟨x,a,f,d,r1,b⟩)
noncomputable def Lq(c:TT)(t u:TS):TS:=fun D a H=>c a H fun b d=>if b=Â then t D a d else u D a d
theorem IV(m:PT X c tc)(o:PSs X a t)(n:PSs X b u):PS X (.If c a b pos) (Lq tc t u):=by
 intro g s e H D I h;refine wpAny_If (aD (m g s e H _ I h) fun d i f=>?_);obtain⟨l,k,j⟩:=f;cases d with
 |true=>exact o g i e l D k j
 |false=>exact n g i e l D k j
noncomputable def Fc:TS:=fun _ _ _=>False
theorem AK:PS X st Fc:=fun _ _ _ _ _ _ h=>h.elim
end
abbrev TG:=V->St->Hp->(St->Hp->Prop)->Prop
abbrev tW:=List V->St->Hp->(St->Hp->Prop)->Prop
def PG(X:Cx)(a:Î)(t:TG):Prop :=
 ∀(d:List (Ç×Obj))(s:É)(c:St)(H:Hp)(v:V)(u:Å)(Q:St->Hp->Prop),Inv X d c H s->RelV v u->t v c H Q ->
  Í (model X.prog X.w) X.A (assign a X.env u) (fun _ f=>∃b e,Inv X d b e f/\Q b e) X.xe s
def qH(X:Cx)(g:List Î)(t:tW):Prop :=
 ∀(e:List (Ç×Obj))(s:É)(b:St)(H:Hp)(c:List V)(d:List Å)(Q:St->Hp->Prop),Inv X e b H s->Vals c d->t c b H Q ->
  Í (model X.prog X.w) X.A (assignInOrder ((à g X.env).map (·.2)) d) (fun _ h=>∃a f,Inv X e a f h/\Q a f) X.xe s
abbrev BR:=V->V->V->Hp->(Hp->Prop)->Prop
def wK(X:Cx)(t:BR):Prop :=
 ∀(d:List (Ç×Obj))(s:É)(a:St)(H:Hp)(o i v:V)(b c u:Å)(Q:Hp->Prop),Inv X d a H s->RelV o b->RelV i c->RelV v u->t o i v H Q ->
  Í (model X.prog X.w) X.A (ϔ b c u) (fun _ f=>∃e,Inv X d a e f/\Q e) X.xe s
abbrev HX:=V->V->Hp->VK->Prop
def CU(X:Cx)(c:Ğ)(t:HX):Prop :=
 ∀(b:List (Ç×Obj))(s:É)(a:St)(H:Hp)(x y:V)(v u:Å)(Q:VK),Inv X b a H s->RelV x v->RelV y u->t x y H Q ->
  Í (model X.prog X.w) X.A (inplaceOp c v u) (EP X b a Q) X.xe s
section
variable{X:Cx}{pos:ġ}
noncomputable def oT(i:Nat):TG:=fun v a H Q=>Q (a.set i (À v)) H
theorem DY{i:Nat}(d:X.N.Nodup)(b:X.N[i]?=À x)(a:Loc X.env.scope x)(c:autoParam (X.fn x=Â\/X.env.scope.names.lookup x=À .local) Ax1._auto_1):PG X (.Name x pos) (oT i):=by
 intro j s f H v u Q I r h;exact U3 (rJ I d b a r (fun g e=>⟨_,H,e,h⟩) c)
noncomputable def L5:tW:=fun b a H Q=>b=[]/\Q a H
noncomputable def JE(t:TG)(u:tW):tW:=fun c b H Q=>∃v r,c=v::r/\t v b H fun a d=>u r a d Q
theorem DW:qH X [] L5:=by
 intro d s a H b c Q I r h;obtain⟨e,h⟩:=h;subst e;cases r;exact assignInOrder_nil ⟨a,H,I,h⟩
theorem AN(l:PG X e t)(k:qH X es u)
  (j:autoParam ((à (e::es) X.env).map (·.2)=assign e X.env::(à es X.env).map (·.2)) Ax2._auto_1):qH X (e::es) (JE t u):=by
 intro c s d H p w Q I r h;obtain⟨v,q,m,h⟩:=h;subst m;cases r with
 |cons r g =>
  rw[j];refine assignInOrder_cons (aD (l c s d H _ _ _ I r h) fun _ f b=>?_);obtain⟨a,o,n,i⟩:=b;exact k c f a o _ _ Q n g i
noncomputable def L3(K:á)(n:Nat)(t:tW):TG:=fun v c H Q=>∃a b,v=.ref a/\iq K H a b/\b.length=n/\t b c H Q
theorem Gg{k:Nat}{n:Nat}(x:X.calm=Â)(h:qH X es t)
  (q:autoParam ((à es X.env).length=n) Ax2._auto_1) (d:autoParam ((à es X.env).findIdx? (·.1)=Á) Ax2._auto_1):PG X (.Tuple es k pos) (L3 X.K n t):=by
 intro i s f H v u Q I r c;obtain⟨a,j,z,p,w,c⟩:=c;subst z;cases r;obtain⟨B,g,m,hz⟩:=I.tuple p;refine assign_Tuple_tuple (I.ok.hd x) m (by simp[q,<- w,g.length]) d fun y l=>?_
 have A:Inv X i f H { s with heap:=y }:=I.kept (t':=s.toks) fun b o e=>l b o (zU (yJ e)) e
 exact h i _ f H j _ Q A (by simpa using g) c
noncomputable def L4(to b:TE)(t:BR):TG:=fun v a H Q=>to a H fun o e=>b a e fun i d=>t o i v d fun c=>Q a c
theorem Gh(l:PE X o to)(m:PE X i ti)(k:wK X t)
  (n:autoParam (∀v,assign (.Subscript o i pos) X.env v=(do
   let ov <- holding [v] (eval o X.env)
   let iv <- holding [v,ov] (eval i X.env)
   ő pos
   holding [v,ov,iv] (ϔ ov iv v)
   release [v,ov,iv] [])) Ax3._auto_1):PG X (.Subscript o i pos) (L4 to ti t):=by
 intro c s b H v u Q I r h;rw[n];refine yF (yS (aD (l c s b H _ I h) fun ov e a=>?_));obtain⟨x,B,w,r1,j⟩:=a;refine yF (yS (aD (m c e b B _ w j) fun iv d a=>?_));obtain⟨y,A,q,r2,g⟩:=a;refine yF (ŭ (yF (yS (aD (k c d b A x y v ov iv u _ q r1 r2 r g) fun _ C a=>?_))));obtain⟨z,p,f⟩:=a;exact wpAny_release ⟨b,z,p,f⟩
noncomputable def vI(te:TE)(g:TG):TS:=fun D a H=>te a H fun x b=>g x a b D.nx
theorem Ga(he:PE X e te)(k:PG X tg g)(j:autoParam (Ϟ [tg] e pos.line X.env=pure Ä) Ax2._auto_1)(i:autoParam (ϟ [tg] e X.env=pure Á) Ax2._auto_1)
  (l:autoParam ((à [tg] X.env).map (·.2)=[assign tg X.env]) Ax2._auto_1):PS X (.Assign [tg] e pos) (vI te g):=by
 intro c s b H D I h;refine wpAny_Assign_stores (aD (he c s b H _ I h) fun v d a=>?_) j i;obtain⟨x,n,m,r1,f⟩:=a;rw[l];exact aD (k c d b n x v _ m r1 f) fun _ o q=>q
theorem F7{i:Nat}(k:X.N.Nodup)(g:X.N[i]?=À x)(d:Loc X.env.scope x)(he:PE X e te)(f:autoParam (ķ e (À (.Name x pos')) pos.line X.env=pure Ä) Ax2._auto_1)(j:autoParam (X.fn x=Â\/X.env.scope.names.lookup x=À .local) Ax1._auto_1) :
  PS X (.Assign [.Name x pos'] e pos) (vI te (oT i)):=by
 intro l s b H D I h;refine wpAny_Assign_Name (aD (he l s b H _ I h) fun v q a=>?_) f;obtain⟨y,o,n,r1,c⟩:=a;exact rJ n k g d r1 (fun p m=>⟨_,o,m,c⟩) j
def Iq(to e te:TE)(b:V->V->Hp->VK->Prop)(d:HX)(a:BR):TS:=fun D c H=>to c H fun o l=>e c l fun i k=>b o i k fun x j=>te c j fun y h=>d x y h fun z g=>a o i z g fun f=>D.nx c f
def BS(X:Cx)(t:V->V->Hp->VK->Prop):Prop :=
 ∀(d:List (Ç×Obj))(s:É)(a:St)(H:Hp)(o i:V)(b c:Å)(Q:VK),Inv X d a H s->RelV o b->RelV i c->t o i H Q ->
  Í (model X.prog X.w) X.A (O1 b c) (EP X d a Q) X.xe s
theorem DO(G:PE X o to)(J:PE X i ti)(K:BS X tget)(he:PE X e te)(F:CU X op tip)(E:wK X tset)
  (L:∀ov iv new,augStore i ov iv new=(do holding [new,ov,iv] (ϔ ov iv new);release [new,ov,iv] [];pure .next):=by intros;rfl):PS X (.AugAssign (.Subscript o i tpos) op e pos) (Iq to ti te tget tip tset):=by
 intro c s b H D I h;refine wpAny_AugAssign_SubscriptAny (aD (G c s b H _ I h) fun ov r a=>?_) L;obtain⟨g,Y,R,r1,C⟩:=a;refine aD (J c r b Y _ R C) fun iv q a=>?_
 obtain⟨f,W,Q,r2,B⟩:=a;refine aD (K c q b W g f ov iv _ Q r1 r2 B) fun d p a=>?_
 obtain⟨l,V,P,w,A⟩:=a;refine aD (he c p b V _ P A) fun v n a=>?_
 obtain⟨k,U,O,u,z⟩:=a;refine aD (F c n b U l k d v _ O w u z) fun new m a=>?_
 obtain⟨j,T,N,t,y⟩:=a;exact aD (E c m b T g f j ov iv new _ N r1 r2 t y) fun _ Z ⟨S,M,x⟩=>⟨b,S,M,x⟩
noncomputable def KF(f:Int->Int->Int):HX:=fun x y H Q=>∃i j,x=.int i/\y=.int j/\Q (.int (f i j)) H
theorem He:CU X .Add (KF fun i j=>i+j):=by
 intro e s c H x y v u Q I r1 r2 h;obtain⟨i,j,b,a,q⟩:=h;subst b;subst a;obtain⟨t,rfl⟩:=r1;obtain⟨d,rfl⟩:=r2;exact iadd_int ⟨.int _,H,I.tok _,⟨_,rfl⟩,q⟩
theorem Hd:CU X .Sub (KF fun i j=>i-j):=by
 intro e s c H x y v u Q I r1 r2 h;obtain⟨i,j,b,a,q⟩:=h;subst b;subst a;obtain⟨t,rfl⟩:=r1;obtain⟨d,rfl⟩:=r2;exact isub_int ⟨.int _,H,I.tok _,⟨_,rfl⟩,q⟩
end
section
variable{X:Cx}{pos:ġ}
def E9(c:TT)(h:TS):TS:=fun D a H=>∃W:Nat->St->Hp->Prop,(∃m,W m a H)/\∀m a H,W m a H ->
 c a H fun b f=>if b=Â then ∃N:St->Hp->Prop,(∀d g,N d g->∃e,e<m/\W e d g)/\h { D with nx:=N,ct:=N,bk:=D.nx } a f else D.nx a f
theorem AJ(t:ϖ (model X.prog X.w) X.A X.env X.xe)(K:PT X c tc)(L:PSs X body tb):PS X (.While c body [] pos) (E9 tc tb):=by
 intro q s A H D I h;obtain⟨W,⟨J,C⟩,turn⟩:=h;refine wpAny_While (codeAny_whileLoop (fun n G=>∃e z,Inv X q e z G/\W n e z) ?_ J ⟨A,H,I,C⟩);rintro n F ⟨d,y,M,B⟩;refine Ģ t (aD (K q F d y _ M (turn n d y B)) fun b E o=>?_);obtain⟨x,w,j⟩:=o;cases b with
 |true =>
  obtain⟨N,u,j⟩:=j;rw[yI rfl];refine Ģ t (aD (L q E d x _ w j) fun f O i=>?_);cases f with
  |next =>
   obtain⟨a,g,r,l⟩:=i;obtain⟨m,p,k⟩:=u a g l;exact⟨m,p,a,g,r,k⟩
  |cont =>
   obtain⟨a,g,r,l⟩:=i;obtain⟨m,p,k⟩:=u a g l;exact⟨m,p,a,g,r,k⟩
  |brk=>exact i
  |ret v=>exact i
 |false =>
  rw[yH Ĝ];exact k! ⟨d,x,w,j⟩
end
structure It where
 go:Nat->Hp->Prop
 yld:Nat->Hp->V->Hp->Prop
 stop:Nat->Hp->Prop
def dW(X:Cx)(Oa:List (Ç×Obj))(H:Hp)(b:Ç):Prop :=
 H b=Á/\b≠X.env.locals/\b∉X.fs/\(b∈X.ex\/X.s₀.heap.objs.size<=b)/\(∀x c,X.env.cells.lookup x=À c->c≠b)/\∀p∈X.pn++Oa,p.1≠b
theorem Inv.fpOk(I:Inv X Oa σ H s)(a:s.heap.objs.size<=b)(f:H' b=Á):dW X Oa H' b:=by
 refine⟨f,İ (zJ I.lt a),I.nofs a,.inr (z5 I.sz a),fun x c e z=>?_,fun p d z=>?_⟩
 ·obtain⟨v,q⟩:=I.cell x c e
  exact absurd (zJ q.lt (by rw[z];exact a)) (xB _)
 ·exact absurd (zJ (yJ (I.pin p d).1) (by rw[z];exact a)) (xB _)
structure kN(P:Ò)(w:Û)(K:á)(tg:Î)(J:It)(fp:List Ç)(it:Ç)(tn:Nat->ä->Prop):Prop where
 mem:it∈fp
 obj:∀i h,tn i h->∀b∈fp,∃o,h.get? b=À o/\∀v,o.data≠.cell v
 keep:∀i h h',tn i h->(∀b∈fp,∀o,h.get? b=À o->h'.get? b=À o)->tn i h'
 item:∀(X:Cx),X.prog=P->X.w=w->X.K=K->X.calm=Â->∀(i:Nat)(Oa:List (Ç×Obj))(s:É)(σ:St)(H:Hp)(E:Å->É->Prop),Inv X Oa σ H s->(∀b∈fp,dW X Oa H b)->tn i s.heap->J.go i H ->
  Í (model P w) X.A (t? (.ref it)) (fun r s1=>∃u,r=À u /\
   Í (model P w) X.A (Ž tg (.ref it) u) (fun _ s2=>∃x H',Inv X Oa σ H' s2/\RelV x u/\J.yld i H x H'/\tn (i+1) s2.heap/\∀b∈fp,H' b=Á) E s1) E s
 done:∀(X:Cx),X.prog=P->X.w=w->X.K=K->X.calm=Â->∀(i:Nat)(Oa:List (Ç×Obj))(s:É)(σ:St)(H:Hp)(E:Å->É->Prop),Inv X Oa σ H s->(∀b∈fp,dW X Oa H b)->tn i s.heap->J.stop i H ->
  Í (model P w) X.A (t? (.ref it)) (fun r s1=>r=Á/\Inv X Oa σ H s1) E s
 self:∀(A:ċ)(i:Nat)(s:É)(Q:Å->É->Prop)(E:Å->É->Prop),tn i s.heap->Q (.ref it) s->Í (model P w) A (pyIter (.ref it)) Q E s
abbrev TI:=St->Hp->(It->Hp->Prop)->Prop
def H0(X:Cx)(Oa:List (Ç×Obj))(σ:St)(f:Î)(R:It->Hp->Prop)(a:Å)(s2:É):Prop :=
 ∃(it:Ç)(e:List Ç)(d:Nat->ä->Prop)(J:It)(c:Hp),a=.ref it/\Inv X Oa σ c s2/\kN X.prog X.w X.K f J e it d/\d 0 s2.heap/\(∀b∈e,dW X Oa c b)/\R J c
def PI(X:Cx)(e a:Î)(d:TI):Prop :=
 ∀(c:List (Ç×Obj))(s:É)(b:St)(H:Hp)(R:It->Hp->Prop),Inv X c b H s->d b H R ->
  Í (model X.prog X.w) X.A (eval a X.env) (fun v f=>Í (model X.prog X.w) X.A (pyIter v) (H0 X c b e R) X.xe f) X.xe s
theorem oS(b:s.heap.get? it=À o)(d:o.cls=.type n)(hd:o.data=.fields vs)
  (c:["enumerate","zip","dict_itemiterator","dict_reverseitemiterator","odict_iterator","itertools.zip_longest","itertools.pairwise"].contains n=Ä) (a:Q () s):Í M A (Ž tg (.ref it) u) Q E s:=by
 unfold Ž;cases tg<;>first
  |exact yG a
  | (cases u <;> first
    |exact yG a
    | (refine yF (wpAny_load b ?_)
       rw[d,hd];show Í M A (if(["enumerate","zip","dict_itemiterator","dict_reverseitemiterator","odict_iterator","itertools.zip_longest","itertools.pairwise"].contains n&&vs[0]?==À (t! _))=Â then _ else _) Q E s;rw[yH (by intro h;rw[c,Bool.false_and]at h;cases h)];exact yG a))
noncomputable def C1(K:á)(a:Ç):It :=
 ⟨fun i H=>∃b x,bR K H a b/\b[i]?=À x,fun i H x c=>c=H/\∀b,bR K H a b->b[i]?=À x,fun i H=>∃b,bR K H a b/\b.length<=i⟩
noncomputable def CY(K:á)(a:Ç):It :=
 ⟨fun i H=>∃b x,iq K H a b/\b[i]?=À x,fun i H x c=>c=H/\∀b,iq K H a b->b[i]?=À x,fun i H=>∃b,iq K H a b/\b.length<=i⟩
noncomputable def zz(a:Int)(n:Nat):It:=⟨fun i _=>i<n,fun i H x b=>b=H/\x=.int (a+i),fun i _=>n<=i⟩
theorem wS{P:Ò}{w:Û}{K:á}{Q:Î}(a it:Ç):kN P w K Q (C1 K a) [it] it (fun i h=>h.IsListIter it a i) where
 mem:=by simp
 obj:=fun i h f b g=>by
  have e:b=it:=by simpa using g
  subst e;obtain⟨o,e,c,d⟩:=f;exact⟨o,e,fun v z=>by rw[d]at z;cases z⟩
 keep:=fun i h n f k=>f.at fun o e=>k it (by simp) o e
 item:=by
  intro X A t B M i N s L H E I m f y;subst A t B;obtain⟨O,x,l,r⟩:=y;obtain⟨Y,q,p,hz⟩:=I.list l;obtain⟨u,U,S⟩:=q.get r;obtain⟨J,G,V,F,D,C⟩:=m it (by simp);refine N? f p.isList (x:=u) (by simpa using U) fun n j R=>?_
  have Z:Inv X N L H { s with heap:=n }:=I.turned (t':=s.toks) (fun b o g e=>(R.2 b g).trans e) J G F D C;obtain⟨o,e,c,d⟩:=id j;exact⟨u,rfl,oS (s:={ s with heap:=n }) e c d dC ⟨x,H,Z,S,⟨rfl,fun ys T=>by rw[I.list_inj T l];exact r⟩,j,fun b g=>(m b g).1⟩⟩
 done:=by
  intro X A t B M i N s L H E I m f y;subst A t B;obtain⟨O,l,r⟩:=y;obtain⟨Y,q,p,hz⟩:=I.list l;obtain⟨J,G,V,F,D,C⟩:=m it (by simp);have hl:=q.length;exact P8 (I.ok.hd M) f p.isList (by simp;lia) fun n W=>⟨rfl,I.turned (t':=s.toks) (fun b o g e=>W b o g e) J G F D C⟩
 self:=fun _ _ _ _ _ f h=>wpAny_pyIter_listiter f h
theorem vA{P:Ò}{w:Û}{K:á}{R:Î}(a it:Ç):kN P w K R (CY K a) [it] it (fun i h=>h.IsTupleIter it a i) where
 mem:=by simp
 obj:=fun i h f b g=>by
  have e:b=it:=by simpa using g
  subst e;obtain⟨o,e,c,d⟩:=f;exact⟨o,e,fun v z=>by rw[d]at z;cases z⟩
 keep:=fun i h n f k=>f.at fun o e=>k it (by simp) o e
 item:=by
  intro X A t B N i O s M H E I m f y;subst A t B;obtain ⟨Q,x,l,r⟩:=y;obtain ⟨L,q,p,hz⟩:=I.tuple l;obtain ⟨u,V,T⟩:=q.get r;obtain ⟨J,G,W,F,D,C⟩:=m it (by simp);refine wpAny_pyNext_tuple_item f (show s.heap.IsTuple a L.toArray from p) (x:=u) (by simpa using V) fun n j S=>?_
  have Z:Inv X O M H { s with heap:=n }:=I.turned (t':=s.toks) (fun b o g e=>(S.2 b g).trans e) J G F D C;obtain⟨o,e,c,d⟩:=id j;exact⟨u,rfl,oS (s:={ s with heap:=n }) e c d dC ⟨x,H,Z,T,⟨rfl,fun ys U=>by rw[I.tuple_inj U l];exact r⟩,j,fun b g=>(m b g).1⟩⟩
 done:=by
  intro X A t B N i O s M H E I m f y;subst A t B;obtain ⟨Q,l,r⟩:=y;obtain ⟨L,q,p,hz⟩:=I.tuple l;obtain ⟨J,G,W,F,D,C⟩:=m it (by simp);have hl:=q.length;exact wpAny_pyNext_tuple_end (I.ok.hd N) f (show s.heap.IsTuple a L.toArray from p) (by simp;lia) fun n Y=>⟨rfl,I.turned (t':=s.toks) (fun b o g e=>Y b o g e) J G F D C⟩
 self:=fun _ _ _ _ _ f h=>wpAny_pyIter_tupleiter f h
theorem vB{P:Ò}{w:Û}{K:á}{J:Î}(it:Ç)(f:Int)(n:Nat):kN P w K J (zz f n) [it] it (fun i h=>IsRangeIter h it (f+(i:Nat)*1) ((n:Int)-(i:Nat)) 1) where
 mem:=by simp
 obj:=fun i h a b c=>by
  have e:b=it:=by simpa using c
  subst e;exact⟨_,a,fun v z=>by
   have G:Data.fields _=Data.cell v:=z;cases G⟩
 keep:=fun i h j a k=>k it (by simp) _ a
 item:=by
  intro X q l r p i F s C H E I g a m;subst q l r;obtain⟨B,A,N,y,x,u⟩:=g it (by simp);have W:=Walks.range (prog:=X.prog) (w:=X.w) (I.ok.hd p) it f 1 n;refine W.item i s _ _ m a fun v j D M d L=>?_
  obtain⟨t,rfl⟩:=M;have Q:Inv X F C H { s with heap:=j,toks:=D }:=I.turned (fun b o c e=>L b o (by simpa using c) e) B A y x u;refine⟨_,rfl,oS (s:={ s with heap:=j,toks:=D }) (n:="range_iterator") d rfl rfl dC ⟨.int (f+i),H,Q,⟨t,?_⟩,⟨rfl,rfl⟩,d,fun b c=>(g b c).1⟩⟩;rw[G!]
 done:=by
  intro X q l r p i F s C H E I g a m;subst q l r;obtain⟨B,A,N,y,x,u⟩:=g it (by simp);exact wpAny_pyNext_range_end (I.ok.hd p) a (by have:n<=i:=m;lia) fun j O=>⟨rfl,I.turned (t':=s.toks) (fun b o c e=>O b o c e) B A y x u⟩
 self:=fun _ _ _ _ _ a h=>wpAny_pyIter_rangeiter a h
section
variable{X:Cx}{tg:Î}
theorem rW{a c:Int}{d:Nat}(I:Inv X Oa σ H s)(k:-(2^62)<=a)(j:a<2^62)(i:-(2^62)<=c)(h:c<2^62)
  (q:R (zz a (c-a).toNat) H):Í (model X.prog X.w) X.A (pyIter (.ref s.heap.objs.size)) (H0 X Oa σ tg R) E { s with heap:=s.heap.push { cls:=.type "range",data:=.fields #[.int a t,.int c u,.int 1 v] },toks:=d }:=by
 refine wpAny_pyIter_range (IsRange.new ..) (V0 k j i h) ?_;have f:Inv X Oa σ H { s with heap:=s.heap.push { cls:=.type "range",data:=.fields #[.int a t,.int c u,.int 1 v] },toks:=d }:=I.kept fun b o e=>zG _ e
 refine⟨(s.heap.push { cls:=.type "range",data:=.fields #[.int a t,.int c u,.int 1 v] }).objs.size,[(s.heap.push { cls:=.type "range",data:=.fields #[.int a t,.int c u,.int 1 v] }).objs.size],_,_,H,rfl,
  f.kept (t':=d) fun b o e=>zG _ e,vB _ a (c-a).toNat,?_,fun b g=>?_,q⟩
 ·have m:a+((0:Nat):Int)*1=a:=by simp
  have l:(((c-a).toNat:Nat):Int)-((0:Nat):Int)=W6 a c 1:=by rw[C?];split<;>lia
  show IsRangeIter _ _ (a+((0:Nat):Int)*1) ((((c-a).toNat:Nat):Int)-((0:Nat):Int)) 1;rw[m,l];exact zY _ rfl
 ·have e:b=(s.heap.push { cls:=.type "range",data:=.fields #[.int a t,.int c u,.int 1 v] }).objs.size:=by simpa using g
  subst e;exact f.fpOk (zP _) (f.Oi.fresh (zP _))
def Jx(c:TA):TI:=fun a H R=>c a H fun b d=>∃j:Int,b=[.int j]/\-(2^62)<=j/\j<2^62/\R (zz 0 j.toNat) d
def Jw(c:TA):TI:=fun a H R=>c a H fun b d=>∃i j:Int,b=[.int i,.int j]/\(-(2^62)<=i/\i<2^62/\-(2^62)<=j/\j<2^62)/\R (zz i (j-i).toNat) d
theorem xE(l:Gl X "range")(k:X.mg "range"=Á)(m:PA X [a] ta)(i:autoParam (Ê [a] X.env=[(Ä,eval a X.env)]) Ax2._auto_1):PI X tg (.Call (.Name "range" p) [a] [] pos) (Jx ta):=by
 intro n s d H R I h;refine M' (dQ I l k w! (Ô (aD (m pos n s d H _ I h) fun v w c=>?_) i rfl));obtain⟨u,x,o,r1,b⟩:=c;obtain⟨j,e,b,g,q⟩:=b;subst e;cases r1 with
 |cons r f =>
  cases f;obtain⟨t,rfl⟩:=r;exact call_range_1 (rW o oM oM b g (by simpa using q))
theorem xD(v:Gl X "range")(u:X.mg "range"=Á)(w:PA X [a,b] ta)(o:autoParam (Ê [a,b] X.env=[(Ä,eval a X.env),(Ä,eval b X.env)]) Ax2._auto_1)(c:autoParam (Ê [b] X.env=[(Ä,eval b X.env)]) Ax2._auto_1) :
  PI X tg (.Call (.Name "range" p) [a,b] [] pos) (Jw ta):=by
 intro x s g H R I h;refine M' (dQ I v u w! (Ô (aD (w pos x s g H _ I h) fun A C ⟨z,D,y,r1,f⟩=>?_) (by rw[o,c]) (by rw[c];rfl)));obtain⟨i,j,e,⟨f,n,m,l⟩,q⟩:=f;subst e;cases r1 with
 |cons r d =>
  cases d with
  |cons k d =>
   cases d;obtain⟨t,rfl⟩:=r;obtain⟨B,rfl⟩:=k;exact call_range_2 (rW y f n m l q)
def Lr(f:TI)(g:TG)(h:TS):TS:=fun D a H=>f a H fun J k=>∃W:Nat->Nat->St->Hp->Prop,(∃m,W 0 m a k)/\∀i m a H,W i m a H ->
 (J.stop i H/\D.nx a H)\/(J.go i H/\∃N:St->Hp->Prop,(∀b c,N b c->∃e,e<m/\W (i+1) e b c)/\∀x c,J.yld i H x c->g x a c fun d j=>h { D with nx:=N,ct:=N,bk:=D.nx } d j)
noncomputable def gE(a:List Ç)(h:ä):List (Ç×Obj):=a.filterMap fun b=>(h.get? b).map fun o=>(b,o)
theorem dq(a:b∈fp)(e:h.get? b=À o):(b,o)∈gE fp h:=L'.mpr ⟨b,a,by rw[e];rfl⟩
theorem xJ(a:p∈gE fp h):p.1∈fp/\h.get? p.1=À p.2:=by
 obtain⟨b,c,e⟩:=L'.mp a;cases q:h.get? b with
 |none=>rw[q]at e;cases e
 |some o =>
  rw[q]at e;have d:(b,o)=p:=yE e;subst d;exact⟨c,q⟩
theorem Inv.pinned(I:Inv X Oa σ H s)(h:∀b∈fp,dW X Oa H b)(g:∀b∈fp,∃o,s.heap.get? b=À o/\∀v,o.data≠.cell v):Inv X (Oa++gE fp s.heap) σ H s :=
 I.pins_of fun p f=>(zZ.mp f).elim (fun z=>I.pin p (zK _ z)) fun z=>by
  obtain⟨a,e⟩:=xJ z;obtain⟨k,j,i,_⟩:=h p.1 a;obtain⟨o,c,d⟩:=g p.1 a;rw[e]at c;cases c;exact⟨e,k,j,i,d⟩
theorem Inv.unpinned(I:Inv X (Oa++pl) σ H s):Inv X Oa σ H s:=I.pins_of fun p a=>I.pin p (zK _ (zL _ a))
theorem xw(G:ϖ (model X.prog X.w) X.A X.env X.xe)(hc:X.calm=Â)(hi:PI X tg iter wi)(hg:PG X tg g)(p:PSs X body tb)
  (hs:autoParam (∀x,ó iter X.env x=pure x) Ax3._auto_1):PS X (.For tg iter body [] pos) (Lr wi g tb):=by
 intro B s V H D I h;refine wpAny_For (aD (hi B s V H _ I h) fun v s1 h1=>aD h1 fun itv s2 h2=>?_) hs;obtain⟨it,L,Y,J,H2,e,I2,T,P,f2,W,⟨m0,w0⟩,turn⟩:=h2;subst e
 have l:∀{y:Hp},(∀b∈L,y b=Á)->∀b∈L,dW X B y b:=fun hn b p=>⟨hn b p,(f2 b p).2⟩
 refine codeAny_forLoop_any (fun n s'=>∃i k y,Inv X B k y s'/\Y i s'.heap/\(∀b∈L,y b=Á)/\W i n k y) ?_ m0 ⟨0,V,H2,I2,P,fun b p=>(f2 b p).1,w0⟩;rintro n s3 ⟨i,j,M,I3,E,K,w3⟩;rcases turn i n j M w3 with⟨C,qn⟩|⟨go,N,hN,step⟩
 ·refine Ģ G (aD (T.done X rfl rfl rfl hc i B s3 j M X.xe I3 (l K) E C) fun r s4 c=>?_)
  obtain⟨R,I4⟩:=c;subst R;exact k! ⟨j,M,I4,qn⟩
 ·refine Ģ G (aD (T.item X rfl rfl rfl hc i B s3 j M X.xe I3 (l K) E go) fun r s4 c=>?_)
  obtain⟨u,R,h4⟩:=c;subst R;refine Ģ G (aD h4 fun _ Z c=>?_);obtain⟨x,H5,I5,r5,y5,A,S⟩:=c;have U:=I5.pinned (l S) (T.obj _ _ A);refine Ģ G (aD (hg _ Z j H5 x u _ U r5 (step x H5 y5)) fun _ s6 c=>?_);obtain⟨O,H6,I6,q6⟩:=c;refine Ģ G (aD (p _ s6 O H6 _ I6 q6) fun f Q z=>?_);have q:∀{a:St}{w:Hp},Inv X (B++gE L Z.heap) a w Q->N a w->∃m,m<n/\∃i k y,Inv X B k y Q/\Y i Q.heap/\(∀b∈L,y b=Á)/\W i m k y:=fun {a w} t F=>by
   obtain⟨m',hm,w7⟩:=hN a w F;refine⟨m',hm,i+1,a,w,t.unpinned,T.keep _ _ _ A fun b p o e=>(t.pin (b,o) (zK _ (zK _ (dq p e)))).1,fun b p=>?_,w7⟩;obtain⟨o,e,d⟩:=T.obj _ _ A b p;exact(t.pin (b,o) (zK _ (zK _ (dq p e)))).2.1
  cases f with
  |next=>obtain⟨a,w,t,F⟩:=z;exact q t F
  |cont=>obtain⟨a,w,t,F⟩:=z;exact q t F
  |brk=>obtain⟨a,w,t,z⟩:=z;exact⟨a,w,t.unpinned,z⟩
  |ret v=>obtain⟨x7,a,w,t,r7,z⟩:=z;exact⟨x7,a,w,t.unpinned,r7,z⟩
end
abbrev R2:=V->V->Hp->VK->Prop
def lS(X:Cx)(f:Å->Å->V9 Å)(r:R2):Prop :=
 ∀(b:List (Ç×Obj))(s:É)(a:St)(H:Hp)(x y:V)(v u:Å)(Q:VK),Inv X b a H s->RelV x v->RelV y u->r x y H Q ->
  Í (model X.prog X.w) X.A (f v u) (EP X b a Q) X.xe s
def zu(X:Cx)(f:Å->V9 Å)(r:V->Hp->VK->Prop):Prop :=
 ∀(b:List (Ç×Obj))(s:É)(a:St)(H:Hp)(x:V)(v:Å)(Q:VK),Inv X b a H s->RelV x v->r x H Q ->
  Í (model X.prog X.w) X.A (f v) (EP X b a Q) X.xe s
def cM(X:Cx)(f:Å)(r:List V->Hp->VK->Prop):Prop :=
 ∀(d:List (Ç×Obj))(s:É)(a:St)(H:Hp)(b:List V)(c:List Å)(Q:VK),Inv X d a H s->Vals b c->r b H Q ->
  Í (model X.prog X.w) X.A (call f c) (EP X d a Q) X.xe s
def Mg(X:Cx)(r:V->Hp->(Bool->Hp->Prop)->Prop):Prop :=
 ∀(b:List (Ç×Obj))(s:É)(a:St)(H:Hp)(x:V)(v:Å)(Q:Bool->Hp->Prop),Inv X b a H s->RelV x v->r x H Q ->
  Í (model X.prog X.w) X.A (truthy v) (TP X b a Q) X.xe s
noncomputable def xa(r:R2)(c b:TE):TE:=fun a H Q=>c a H fun x e=>b a e fun y d=>r x y d Q
def Kg(r:V->Hp->VK->Prop)(b:TE):TE:=fun a H Q=>b a H fun x c=>r x c Q
def rU(g:Int->V):V->Hp->VK->Prop:=fun x H Q=>∃i,x=.int i/\Q (g i) H
section
variable{X:Cx}{a b c:Î}{ta tb tc:TE}{pos:ġ}
theorem BM(k:PE X a ta)(j:PE X b tb){Oa:List (Ç×Obj)}{s:É}{σ:St}{H:Hp}{R:V->V->Hp->Prop}(I:Inv X Oa σ H s)
  (h:ta σ H fun x H1=>tb σ H1 fun y H2=>R x y H2) {Q:Å->É->Prop}{f:Å->Å->V9 Å}
  (i:∀v u s2 x y H2,Inv X Oa σ H2 s2->RelV x v->RelV y u->R x y H2->Í (model X.prog X.w) X.A (f v u) Q X.xe s2) :
  Í (model X.prog X.w) X.A (eval a X.env) (fun v s₁=>Í (model X.prog X.w) X.A (eval b X.env) (fun u s₂=>Í (model X.prog X.w) X.A (f v u) Q X.xe s₂) X.xe s₁) X.xe s:=by
 refine aD (k Oa s σ H _ I h) fun v d c=>?_
 obtain⟨x,H1,m,r1,g⟩:=c;refine aD (j Oa d σ H1 _ m g) fun u s2 c=>?_
 obtain⟨y,H2,l,r2,e⟩:=c;exact i v u s2 x y H2 l r1 r2 e
theorem vV{c:Ğ}{r:R2}(g:lS X (Ŵ c) r)(j:PE X a ta)(i:PE X b tb):PE X (.BinOp a c b pos) (xa r ta tb):=by
 intro k s d H Q I h;exact wpAny_BinOp (BM j i I h fun v u e x y m l rx f q=>g k e d m x y v u Q l rx f q)
theorem IY(f:zu X (U4 op) r)(g:PE X a ta):PE X (.UnaryOp op a pos) (Kg r ta):=by
 intro c s b H Q I h;exact UnaryOp_ (aD (g c s b H _ I h) fun v d ⟨x,j,i,r1,e⟩=>f c d b j x v Q i r1 e)
def Mj(i j:Int):Prop:=0<=j/\j<=1000000/\i.natAbs<2^64
theorem vz(k:Nat):(0:Int)<=2^k:=by
 rw[two_pow_cast];exact Int.natCast_nonneg _
theorem Kf{f:Å->V9 Å}{g:Int->Int}
  (a:∀(i:Int)(t:Tok)(s:É)(Q:Å->É->Prop)(E:Å->É->Prop),Q (.int (g i) s.toks) { s with toks:=s.toks+1 }->Í (model X.prog X.w) X.A (f (.int i t)) Q E s) :
  zu X f (rU fun i=>.int (g i)):=by
 intro c s b H x v Q I rx h;obtain⟨i,rfl,q⟩:=h;obtain⟨t,rfl⟩:=rx;exact a i t s _ _ ⟨.int (g i),H,I.tok _,⟨_,rfl⟩,q⟩
theorem ET:zu X (U4 .USub) (rU fun i=>.int (-i)):=Kf fun _ _ _ _ _ q=>neg_int q
theorem EU:zu X (U4 .Invert) (rU fun i=>.int (P? i)):=Kf fun _ _ _ _ _ q=>invert_int q
end
section
variable{X:Cx}{a b c:Î}{ta tb tc:TE}{pos:ġ}
theorem Eb(f:lS X (đ op) r)(j:PE X a ta)(i:PE X b tb)(g:Ϡ op b=Ä):PE X (.Compare a [op] [b] pos) (xa r ta tb):=by
 intro k s c H Q I h;exact wpAny_Compare1 (BM j i I h fun v u d x y m l rx e q=>f k d c m x y v u Q l rx e q) g
noncomputable def Ik(t:TE):TT:=fun a H Q=>t a H fun x b=>∃k,x=.bl k/\Q k b
theorem DK(o:lS X (đ op) r)(t:PE X a ta)(q:PE X b tb)(p:Ϡ op b=Ä):PT X (.Compare a [op] [b] pos) (Ik (xa r ta tb)):=by
 intro f s d H Q I h;refine wpAny_isTrue_Compare1 (aD (t f s d H _ I h) fun v i ⟨x,E,B,r1,n⟩=>aD (q f i d E _ B n) fun u g ⟨y,D,A,r2,m⟩ =>
  aD (o f g d D x y v u _ A r1 r2 m) fun c F ⟨z,C,w,j,k,e,l⟩=>?_) p
 subst e;cases j;exact Ĩ ⟨C,w,l⟩
def BP(K:á)(x:V)(H:Hp)(k:Bool):Prop :=
 match x with
 |.non=>k=Ä
 |.bl b=>k=b
 |.int i=>k=(i !=0)
 |.str y=>y.length<=Ë/\k=((y.length:Int) !=0)
 |.byt y=>y.size<=Ë/\k=((y.size:Int) !=0)
 |.ref p=>(∃a,bR K H p a/\k=!a.isEmpty)\/(∃a,iq K H p a/\k=!a.isEmpty)\/∃c,H p=À (.dK c)/\k=!c.isEmpty
 |_=>False
theorem wu{a:Type}{Oc:List (a×V)}{vs:List (a×Value)}(r:KV Oc vs):(!vs.isEmpty)=!Oc.isEmpty:=by
 cases r<;>rfl
theorem oB{xs:List V}{Oe:List Å}(r:Vals xs Oe):(!Oe.toArray.isEmpty)=!xs.isEmpty:=by
 cases r<;>simp
theorem ig:(Ë:Nat)<2^63:=by rw[Ϗ];decide
theorem EW:Mg X (fun x H Q=>∃k,BP X.K x H k/\Q k H):=by
 intro B s w H x v Q I rx h;obtain⟨k,e,q⟩:=h;have A:=ig;have z:Ë=16777216:=Ϗ;cases x with
 |non =>
  cases rx;have a:k=Ä:=e;subst a;exact truthy_none ⟨H,I,q⟩
 |bl b =>
  cases rx;have a:k=b:=e;subst a;exact Ĩ ⟨H,I,q⟩
 |int i =>
  obtain⟨t,rfl⟩:=rx;have a:k=(i !=0):=e;subst a;exact PySem.P.truthy_int ⟨H,I,q⟩
 |str y =>
  obtain⟨t,rfl⟩:=rx;obtain⟨n,a⟩:y.length<=Ë/\k=((y.length:Int) !=0):=e;subst a;exact PySem.P.truthy_str oM ⟨H,I.tok _,q⟩
 |byt y =>
  obtain⟨t,rfl⟩:=rx;obtain⟨n,a⟩:y.size<=Ë/\k=((y.size:Int) !=0):=e;subst a;exact truthy_bytes oM ⟨H,I.tok _,q⟩
 |ref p =>
  cases rx;have a:(∃d,bR X.K H p d/\k=!d.isEmpty)\/(∃d,iq X.K H p d/\k=!d.isEmpty)\/∃f,H p=À (.dK f)/\k=!f.isEmpty:=e;rcases a with⟨d,g,a⟩|⟨d,g,a⟩|⟨f,g,a⟩
  ·subst a
   obtain⟨u,r,l,hz⟩:=I.list g;have c:=r.length;exact wpAny_truthy_list l.isList (by simp only[zI];lia) ⟨H,I.tok _,by rw[oB r];exact q⟩
  ·subst a
   obtain⟨u,r,l,hz⟩:=I.tuple g;have c:=r.length;exact truthy_tuple l (by simp only[zI];lia) ⟨H,I.tok _,by rw[oB r];exact q⟩
  ·subst a
   obtain⟨hz,o,j,r,m⟩:f.length<=Ë/\(p==ė)=Ä/\∃j,KV f j/\s.heap.DictOf (cg X.prog X.w) p j:=I.Oi p _ g;have c:f.length=j.length:=Paired.length r;exact wpAny_truthy_dict o m oM ⟨H,I.tok _,by rw[wu r];exact q⟩
 | _=>exact (show False from e).elim
theorem AG(e:PE X a ta)(he:∀whole,v? a X.env whole=(do let v <- whole;ő a.pos;holding [v] (truthy v))) :
  PT X a (fun σ H Q=>ta σ H fun x H'=>∃k,BP X.K x H' k/\Q k H'):=by
 intro b s σ H Q I h;exact isTrue_plain (aD (e b s σ H _ I h) fun v c ⟨x,g,f,r1,d⟩=>EW b c σ g x v Q f r1 d) (he _)
theorem vX:lS X (Ŵ .Add) (fun x y H Q=>∃i j,x=.str i/\y=.str j/\i.length+j.length<=Ë/\Q (.str (i++j)) H):=by
 intro e s c H x y v u Q I rx b h;obtain⟨i,j,rfl,rfl,hz,q⟩:=h;obtain⟨t,rfl⟩:=rx;obtain⟨a,rfl⟩:=b;exact add_str (fun a d=>⟨.str (i++j),H,I.tok _,⟨_,rfl⟩,q⟩) hz
theorem eI(r:Vals [x] us):∃u,us=[u]/\RelV x u:=by
 cases r with
 |cons r1 r2=>cases r2;exact⟨_,rfl,r1⟩
theorem BV(r:Vals [x,y] us):∃u w',us=[u,w']/\RelV x u/\RelV y w':=by
 cases r with
 |cons r1 r2 =>
  cases r2 with
  |cons b a=>cases a;exact⟨_,_,rfl,r1,b⟩
theorem BL:cM X (.builtin "abs") (fun xs H Q=>∃i,xs=[.int i]/\Q (.int (if i<0 then -i else i)) H):=by
 intro d s a H xs b Q I r h;obtain⟨i,rfl,q⟩:=h;obtain⟨u,rfl,t,rfl⟩:=eI r;exact call_abs_int fun u c=>⟨.int (if i<0 then -i else i),H,I.tok _,⟨_,rfl⟩,q⟩
theorem zh(b:X.calm=Â):cM X (.builtin "max") (fun xs H Q=>∃i j,xs=[.int i,.int j]/\Q (.int (if j > i then j else i)) H):=by
 intro m s c H xs e Q I r h;obtain⟨i,j,rfl,q⟩:=h;obtain⟨u,d,rfl,⟨t,rfl⟩,⟨g,rfl⟩⟩:=BV r;refine max_two_ints (I.ok.hd b) fun l f k=>⟨_,H,I.kept k,?_,q⟩
 by_cases a:j > i
 ·rw[yI a,yI a];exact⟨_,rfl⟩
 ·rw[yH a,yH a];exact⟨_,rfl⟩
theorem zg(b:X.calm=Â):cM X (.builtin "min") (fun xs H Q=>∃i j,xs=[.int i,.int j]/\Q (.int (if j<i then j else i)) H):=by
 intro m s c H xs e Q I r h;obtain⟨i,j,rfl,q⟩:=h;obtain⟨u,d,rfl,⟨t,rfl⟩,⟨g,rfl⟩⟩:=BV r;refine min_two_ints (I.ok.hd b) fun l f k=>⟨_,H,I.kept k,?_,q⟩
 by_cases a:j<i
 ·rw[yI a,yI a];exact⟨_,rfl⟩
 ·rw[yH a,yH a];exact⟨_,rfl⟩
theorem zk:cM X (.type "int") (fun xs H Q=>(∃i,xs=[.int i]/\Q (.int i) H)\/∃k,xs=[.bl k]/\Q (.int (if k then 1 else 0)) H):=by
 intro c s a H xs b Q I r h;rcases h with⟨i,rfl,q⟩|⟨k,rfl,q⟩
 ·obtain⟨u,rfl,t,rfl⟩:=eI r
  exact call_int_int ⟨.int i,H,I,⟨_,rfl⟩,q⟩
 ·obtain⟨u,rfl,r1⟩:=eI r
  cases r1;exact call_int_bool ⟨.int (if k then 1 else 0),H,I.tok _,⟨_,rfl⟩,q⟩
end
structure ObjM(h:ä)(x dx C:Ç)(mA:Ì->Option Å):Prop where
 obj:h.get? x=À (ϕ C dx)
 ns:h.Ns1 dx mA
 ne:dx≠x
theorem xR{h:ä}{f:Ç}{c:Ì->Option Å}(n:h.Ns1 f c):∃od,h.get? f=À od/\∀name,lookIn name od=À (c name):=by
 obtain⟨o,d,m,i,hd,k,_,j⟩:=n;refine⟨o,i,fun name=>?_⟩;have e:=j name;unfold nsFind findBy at e;rw[<- Array.find?_toList]at e;unfold lookIn;rw[hd];dsimp only;split
 ·rename_i y q
  rw[q]at e;exact congrArg À e
 ·rename_i q
  rw[q]at e;have a:d.toList.any (·.refKey)=Ä:=by
   rw[P!];intro y g;obtain⟨z,t,b⟩:=k y (Array.mem_toList_iff.mp g);simp[DictEntry.refKey,b]
  have l:¬d.toList.any (·.refKey)=Â:=by rw[a];exact Ĝ
  rw[yH l];exact congrArg À e
theorem ObjM.look(I:ObjM h x dx C mA):∃od,InstAt h x (ϕ C dx) C (À od)/\∀name,lookIn name od=À (mA name) :=
 let⟨od,a,b⟩:=xR I.ns
 ⟨od,⟨I.obj,rfl,rfl,a⟩,b⟩
section
variable{prog:Ò}{w:Û}{A:ċ}{E:Å->É->Prop}{s:É}{K:á}{x dx C f:Ç}{mA:Ì->Option Å}{name:Ì}{v:Å}
theorem Ey{a:Bool}(X:K.In s.heap)(I:ObjM s.heap x dx C mA)(f:u! K C name=Â)(e:J! K C=Â)
  (g:ō K (.ref C) name=À Á) (c:mA name=À v) (b:handedIn v=Â) (h:Q v { s with toks:=s.toks+1 }) :
  Í (model prog w) A (getAttr (.ref x) name a) Q E s:=by
 obtain⟨i,J,d⟩:=I.look;exact get_value X J (Q7 f).1 (findObj_own e g rfl (by rw[d,c])) b h
theorem Bx(X:K.In s.heap)(I:ObjM s.heap x dx C mA)(a:u! K C name=Â)
  (g:ō K (.ref C) name=À (À (.ref f))) (d:isFn K (.ref f)=Â) (c:mA name=Á) (h:Q (.ref f,[.ref x]) s) :
  Í (model prog w) A (ŝ (.ref x) name pl) Q E s:=by
 obtain⟨b,J,e⟩:=I.look;exact method_fn X J (Q7 a).1 (Q7 a).2 g (beq_iff_eq.mp d) (by show(lookIn name b).map (·.isSome)=À Ä;rw[e,c];rfl) h
theorem Dm(X:K.In s.heap)(I:ObjM s.heap x dx C mA)
  (m:ō K (.ref C) "__setattr__"=À (À (.builtin "object.__setattr__"))) (n:V7 K C=Â) (l:takerIn K C name=À Á) (o:J! K C=Â)
  (k:l! mA ns) (hsz:ns.length<=Ë)
  (h:∀h',ObjM h' x dx C (fun y=>if y=name then À v else mA y)->Ĭ dx s.heap h'->Q () { s with heap:=h',toks:=s.toks+2 }) :
  Í (model prog w) A (setAttr (.ref x) name v) Q E s:=by
 obtain⟨u,J,B⟩:=I.look;refine set_plain X J m (osa_open (s:={ s with toks:=s.toks+1 }) (r:=Á) X J n l fun b=>?_);obtain⟨D,p,g⟩:=any_some o;have j:s.heap.get? x=À ⟨.ref C,À dx,.plain,#[]⟩:=I.obj;refine yF (yG (yF (yF (wpAny_loadPart j (yF (W! (s:={ s with toks:=s.toks+1 }) (looks_clsIn X p) ?_))))));rw[g];refine yG (a:=À dx) (yF (yG (yF ?_)));refine wpAny_nsSet1 (s:={ s with toks:=s.toks+1 }) I.ns fun h' d c=>?_
 obtain⟨z,q,t,e,f,i⟩:=d.count (X? name v k);refine yF (wpAny_lookBehind e (by rw[f];exact pastItsLine_dict (z5 i (by rw[yY];lia))) ?_);exact yG (h _ ⟨(c.2 _ (ã I.ne)).trans I.obj,d,I.ne⟩ c)
theorem Bc(X:K.In s.heap)(b:U6 K C=Â)
  (c:ō K (.ref C) "__init__"=À (À (.ref f))) (e:typeIn K (.ref f)=À (.type "function"))
  (h:ł (model prog w) (A.under (.builtin "type.__call__" ⟨.ref C::vs,kw⟩)) (.call (.ref f) ⟨.ref (s.heap.objs.size+1)::vs,kw⟩) (InitBack (s.heap.objs.size+1) R)
   { s with heap:=(s.heap.push Ŏ).push (ϕ C s.heap.objs.size) }) :
  ł (model prog w) A (.call (.ref C) ⟨vs,kw⟩) R s:=by
 obtain⟨j,g,d,t,i⟩:=s;exact make_core (makes_of X b) (looks_findIn X c) (fun a=>bind_fn X a e) (.inl rfl) h
end
noncomputable def d5(f:Ì)(v:V):List (Ì×V)->List (Ì×V)
 |[]=>[(f,v)]
 |(g,x)::r=>if g=f then(g,v)::r else(g,x)::d5 f v r
theorem mK(f g:Ì)(v:V):∀fs:List (Ì×V),(d5 f v fs).lookup g=if g=f then À v else fs.lookup g
 |[]=>by
  show Ň g [(f,v)]=_;by_cases h:g=f
  ·have hb:(g==f)=Â:=beq_iff_eq.mpr h
   simp only[Ň,hb,yI h]
  ·have hb:(g==f)=Ä:=beq_eq_false_iff_ne.mpr h
   simp only[Ň,hb,yH h]
 |(k,x)::r=>by
  have b:=mK f g v r;rw[show d5 f v ((k,x)::r)=(if k=f then(k,v)::r else(k,x)::d5 f v r) from rfl];by_cases a:k=f
  ·rw[yI a]
   by_cases h:g=k
   ·have hb:(g==k)=Â:=beq_iff_eq.mpr h
    simp only[Ň,hb,yI (h.trans a)]
   ·have hb:(g==k)=Ä:=beq_eq_false_iff_ne.mpr h
    simp only[Ň,hb,yH (fun e:g=f=>h (e.trans a.symm))]
  ·rw[yH a]
   by_cases h:g=k
   ·have hb:(g==k)=Â:=beq_iff_eq.mpr h
    simp only[Ň,hb,yH (fun e:g=f=>a (h.symm.trans e))]
   ·have hb:(g==k)=Ä:=beq_eq_false_iff_ne.mpr h
    simp only[Ň,hb];exact b
theorem lx(f:Ì)(v:V):∀fs:List (Ì×V),f∈(d5 f v fs).map (·.1)/\∀g,g∈fs.map (·.1)->g∈(d5 f v fs).map (·.1)
 |[]=>⟨by simp[d5],fun g h=>by simp at h⟩
 |(k,x)::r=>by
  obtain⟨i1,i2⟩:=lx f v r;rw[show d5 f v ((k,x)::r)=(if k=f then(k,v)::r else(k,x)::d5 f v r) from rfl];by_cases a:k=f
  ·rw[yI a]
   subst a;exact⟨by simp,fun g h=>by simpa using h⟩
  ·rw[yH a]
   refine⟨?_,fun g h=>?_⟩
   ·rw[zO]
    exact zQ _ i1
   ·rw[zO]at h ⊢
    rcases zT.mp h with e|e
    ·exact zT.mpr (.inl e)
    ·exact zQ _ (i2 g e)
theorem mM(f:Ì)(v:V):∀fs:List (Ì×V),(d5 f v fs).length<=fs.length+1
 |[]=>by simp[d5]
 |(k,x)::r=>by
  have ih:=mM f v r;rw[show d5 f v ((k,x)::r)=(if k=f then(k,v)::r else(k,x)::d5 f v r) from rfl];by_cases a:k=f
  ·rw[yI a,yY,yY];lia
  ·rw[yH a,yY,yY];lia
theorem RelO.some_of(r:RelO (À v) o):∃u,o=À u/\RelV v u:=by
 cases o with
 | none=>exact (show False from r).elim
 |some u=>exact⟨u,rfl,r⟩
theorem RelO.none_of(r:RelO Á o):o=Á:=by
 cases o with
 |none=>rfl
 | some u=>exact (show False from r).elim
theorem yq(r:RelV v u):handedIn u=Â:=by
 cases v with
 | non=>cases (show u=Ũ from r);rfl
 | bl b=>cases (show u=F! b from r);rfl
 | int i=>obtain ⟨t,e⟩:=(show ∃ t,u=e? i t from r);cases e;rfl
 | str x=>obtain ⟨t,e⟩:=(show ∃ t,u=e! x t from r);cases e;rfl
 | byt b=>obtain ⟨t,e⟩:=(show ∃ t,u=U8 b t from r);cases e;rfl
 | flt b=>obtain ⟨t,e⟩:=(show ∃ t,u=U7 b t from r);cases e;rfl
 | ref a=>cases (show u=ì a from r);rfl
 | ty n=>cases (show u=E? n from r);rfl
section
variable{P:Ò}{w:Û}{H H':Hp}{h h':ä}{a C dx:Ç}{fs fs':List (Ì×V)}
theorem pV(c:HOk P w H h)(e:H a=À (.ins C dx fs)):∃mA,ObjM h a dx C mA/\(∀f,RelO (fs.lookup f) (mA f))/\l! mA (fs.map (·.1))/\fs.length<=1000/\H dx=À (.own a):=by
 obtain ⟨d,z,ne,b,mA,n,r,q⟩:=(show ObjOk P w H h a (.ins C dx fs) from c a _ e);exact ⟨mA,⟨b,n,ne⟩,r,q,z,d⟩
end
structure Cls(K:á)(C:Ç):Prop where
 pg:u! K C Str.empty=Â
 hd:J! K C=Â
 po:V7 K C=Â
 sa:ō K (.ref C) "__setattr__"=À (À (.builtin "object.__setattr__"))
theorem Cls.get{K:á}{C:Ç}(c:Cls K C)(f:Ì):u! K C f=Â:=c.pg
def NoAttr(K:á)(C:Ç)(f:Ì):Prop:=ō K (.ref C) f=À Á
theorem NoAttr.taker{K:á}{C:Ç}{f:Ì}(n:NoAttr K C f):takerIn K C f=À Á:=by
 unfold takerIn;rw[show ō K (.ref C) f=À Á from n];rfl
structure kP(K:á)(C:Ç)(m:Ì)(f:Ç):Prop where
 at_:ō K (.ref C) m=À (À (.ref f))
 fn:isFn K (.ref f)=Â
 kp:Ĵ K (.ref f)=Â
section
variable{X:Cx}{Oa:List (Ç×Obj)}{σ:St}{H:Hp}{s:É}{a C dx:Ç}{fs:List (Ì×V)}{f:Ì}{v:V}{A:ċ}{E:Å->É->Prop}
theorem ww{b:Bool}(I:Inv X Oa σ H s)(e:H a=À (.ins C dx fs))(c:Cls X.K C)(n:NoAttr X.K C f)(l:fs.lookup f=À v)
  (h:∀u s',Inv X Oa σ H s'->RelV v u->Q u s'):Í (model X.prog X.w) A (getAttr (.ref a) f b) Q E s:=by
 obtain⟨g,O,r,_,_,_⟩:=pV I.Oi e;obtain⟨u,i,d⟩:=RelO.some_of (v:=v) (o:=g f) (by rw[<- l];exact r f);exact Ey I.kIn O (c.get f) c.hd n i (yq d) (h u _ (I.tok _) d)
theorem kz(I:Inv X Oa σ H s)(e:H a=À (.ins C dx fs))(c:Cls X.K C)(k:kP X.K C m g)(l:fs.lookup m=Á)
  (h:Q (.ref g,[.ref a]) s):Í (model X.prog X.w) A (ŝ (.ref a) m pl) Q E s:=by
 obtain⟨b,O,r,_,_,_⟩:=pV I.Oi e;have d:b m=Á:=RelO.none_of (by rw[<- l];exact r m);exact Bx I.kIn O (c.get m) k.at_ k.fn d h
theorem vM(I:Inv X Oa σ H s)(e:H a=À (.ins C dx fs))(c:Cls X.K C)(n:NoAttr X.K C f)(B:fs.length<1000)(m:RelV y u)
  (h:∀s',Inv X Oa σ (ah H a (.ins C dx (d5 f y fs))) s'->Q () s'):Í (model X.prog X.w) A (setAttr (.ref a) f u) Q E s:=by
 obtain⟨j,O,r,i,_,k⟩:=pV I.Oi e;have hz:(fs.map (·.1)).length<=Ë:=by rw[zH,Ϗ];lia
 refine Dm I.kIn O c.sa c.po n.taker c.hd i hz fun v d l=>h _ ?_
 have hd:∃o,v.get? dx=À o:=let⟨o,_,_,w,_⟩:=d.ns;⟨o,w⟩;refine I.write (x:=a) (e:=dx) (by rw[e];exact True.intro) (.inr k) (fun b q t z=>(l.2 b t).trans z) hd ?_;refine⟨by rw[ad O.ne];exact k,?_,O.ne,d.obj,_,d.ns,fun g=>?_,fun g p=>?_⟩
 ·have:=mM f y fs;lia
 ·show RelO ((d5 f y fs).lookup g) (if g=f then À u else j g)
  rw[mK];by_cases q:g=f
  ·rw[yI q,yI q];exact m
  ·rw[yH q,yH q];exact r g
 ·by_cases q:g=f
  ·rw[q];exact(lx f y fs).1
  ·refine(lx f y fs).2 g (i g fun z=>p ?_)
   show(if g=f then À u else j g)=Á;rw[yH q];exact z
theorem Inv.made(I:Inv X Oa σ H s):Inv X Oa σ (ah (ah H s.heap.objs.size (.own (s.heap.objs.size+1))) (s.heap.objs.size+1) (.ins C s.heap.objs.size []))
  { s with heap:=(s.heap.push Ŏ).push (ϕ C s.heap.objs.size) }:=by
 have c:(s.heap.push Ŏ).get? s.heap.objs.size=À Ŏ:=zY s.heap rfl;have h:((s.heap.push Ŏ).push (ϕ C s.heap.objs.size)).get? (s.heap.objs.size+1)=À (ϕ C s.heap.objs.size):=by
  have:=zY (s.heap.push Ŏ) (o:=ϕ C s.heap.objs.size) rfl
  rwa [ĥ]at this
 have g:(s.heap.push Ŏ).Ns s.heap.objs.size (fun _=>Á):=⟨Ŏ,#[],_,c,rfl,(fun e f=>absurd f (by simp)),fun _=>rfl⟩;have i:=I.laid (a:=s.heap.objs.size) (o:=.own (s.heap.objs.size+1)) (h':=s.heap.push Ŏ) (t':=s.toks) (fun b u q=>zG _ q) (zP _) ⟨_,c⟩;refine i.laid (a:=s.heap.objs.size+1) (o:=.ins C s.heap.objs.size []) (t':=s.toks) (fun b u q=>zG _ q) (Ϝ (ĥ _ _)) ?_;have ne:s.heap.objs.size≠s.heap.objs.size+1:=zU (ı _);refine⟨by rw[ad ne,ay],û _,ne,h,fun _=>Á,(Heap.Ns1.of_empty g).at fun o q=>zG _ q,fun _=>True.intro,fun y d=>absurd rfl d⟩
theorem EJ(a:ę e f env (eval e env)=eval e env)
  (h:Í (model prog w) A (eval e env) (fun o s₁=>Í (model prog w) A (getAttr o f Â) Q E s₁) E s):Í (model prog w) A (eval (.Attribute e f pos) env) Q E s :=
 Attribute_any_ h (by rw[arm_eval_Attribute,a])
end
def Lu(K:á)(d:TE)(f:Ì):TE:=fun c H Q=>d c H fun x b=>∃a C e fs v,x=.ref a/\b a=À (.ins C e fs)/\Cls K C/\NoAttr K C f/\fs.lookup f=À v/\Q v b
def LA(K:á)(e tv:TE)(f:Ì):TS:=fun D b H=>tv b H fun y g=>e b g fun x d=>∃a C c fs,x=.ref a/\d a=À (.ins C c fs)/\Cls K C/\NoAttr K C f/\fs.length<1000 /\
 D.nx b (ah d a (.ins C c (d5 f y fs)))
section
variable{X:Cx}{o e value:Î}{f:Ì}{pos pos' tpos:ġ}{ta tv:TE}
theorem Gr(he:PE X e ta)(i:ę e f X.env (eval e X.env)=eval e X.env):PE X (.Attribute e f pos) (Lu X.K ta f):=by
 intro k s d H Q I h;refine EJ i (aD (he k s d H _ I h) fun u w b=>?_);obtain⟨x,p,o,rx,a,C,y,fs,v,ex,j,c,n,l,q⟩:=b;subst ex;obtain rfl:u=ì a:=rx;exact ww o j c n l fun r t m g=>⟨v,p,m,g,q⟩
theorem F9(r:PE X o ta)(m:PE X value tv)(p:ķ value (À (.Attribute o f pos')) pos.line X.env=pure Ä):PS X (.Assign [.Attribute o f pos'] value pos) (LA X.K ta tv f):=by
 intro e s b H D I h;refine plainObj_wpAny_Assign_Attribute (aD (m e s b H _ I h) fun u g ⟨y,A,z,i,q⟩=>aD (r e g b A _ z q) fun k E d=>?_) p;obtain⟨x,G,w,rx,a,C,F,fs,ex,t,c,n,l,j⟩:=d;subst ex;obtain rfl:k=ì a:=rx;exact vM w t c n l i fun B v=>⟨b,_,v,j⟩
theorem Ie(he:PE X e te)(I:Inv X Oa σ H s)
  (h:te σ H fun x H1=>∃a C dx fs g,x=.ref a/\H1 a=À (.ins C dx fs)/\Cls X.K C/\kP X.K C m g/\fs.lookup m=Á /\
   ∀s1,Inv X Oa σ H1 s1->Í (model X.prog X.w) X.A (Ţ pos (.ref g) [.ref a] (ø pos (Ê args X.env)) (Ń pos (Ĕ [] X.env))) Q X.xe s1)
  (i:eval (.Call (.Attribute e m apos) args [] pos) X.env=(do
   let ov <- eval e X.env
   ő apos.atName
   let(f,first) <- holding [ov] (ŝ ov m pl)
   Ţ pos f first (ø pos (Ê args X.env)) (Ń pos (Ĕ [] X.env)))) :
  Í (model X.prog X.w) X.A (eval (.Call (.Attribute e m apos) args [] pos) X.env) Q X.xe s:=by
 refine E! (pl:=pl) (aD (he Oa s σ H _ I h) fun u s1 b=>?_) i;obtain⟨x,H1,d,rx,a,C,dx,fs,g,ex,j,c,k,l,q⟩:=b;subst ex;obtain rfl:u=ì a:=rx;exact kz d j c k l (q s1 d)
end
structure Room(k:Nat)(A:ċ):Prop where
 hd:A.handled=Á
 dp:A.depth+3*k+5<ϐ
 un:A.units+16*k+200<ŋ
 gd:A.guards=À []
theorem Room.mono{j k:Nat}(r:Room k A)(h:j<=k):Room j A:=⟨r.hd,by have:=r.dp;lia,by have:=r.un;lia,r.gd⟩
theorem Room.deeper{k:Nat}(r:Room (k+1) A)(env:Q6):Room k (A.deeper env) :=
 ⟨r.hd,by have:=r.dp;show A.depth+1+3*k+5<_;lia,by have:=r.un;show A.units+3+16*k+200<_;lia,r.gd⟩
theorem Room.in1{k:Nat}(r:Room (k+1) A):Room k A.in1 :=
 ⟨r.hd,by have:=r.dp;show A.depth+3*k+5<_;lia,by have:=r.un;show A.units+1+16*k+200<_;lia,r.gd⟩
theorem wg{A:ċ}{C:Ç}{us:List Å}{a:List (Ì×Value)}:(A.under (.builtin "type.__call__" ⟨.ref C::us,a⟩)).depth=A.depth+1:=by
 first|rfl|simp[Around.under,Code.weight,Code.isCreation,Code.isGuard,Code.isCaller,Code.frames,Code.isFrame,guardIds]
theorem wf{A:ċ}{C:Ç}{us:List Å}{a:List (Ì×Value)}:(A.under (.builtin "type.__call__" ⟨.ref C::us,a⟩)).units=A.units+1:=by
 first|rfl|simp[Around.under,Code.cUnits,Code.frames,Code.isFrame]
theorem uc{A:ċ}{C:Ç}{us:List Å}{a:List (Ì×Value)}:(A.under (.builtin "type.__call__" ⟨.ref C::us,a⟩)).guards=A.guards:=by
 first|rfl|simp[Around.under,Code.guards,Code.isGuard,guardIds,pushGuards]
theorem Room.make{k:Nat}{A:ċ}(r:Room (k+1) A)(C:Ç)(us:List Å)(a:List (Ì×Value)):Room k (A.under (.builtin "type.__call__" ⟨.ref C::us,a⟩)) :=
 ⟨r.hd,by have:=r.dp;rw[wg];lia,by have:=r.un;rw[wf];lia,by rw[uc];exact r.gd⟩
theorem Room.depth{k:Nat}(r:Room k A):A.depth<ϐ:=by have:=r.dp;lia
theorem Room.units{k:Nat}(r:Room k A):A.units+64<ŋ:=by have:=r.un;lia
noncomputable def vF:TA:=fun _ H Q=>Q [] H
noncomputable def B5(c:TE)(tr:TA):TA:=fun a H Q=>c a H fun x e=>tr a e fun b d=>Q (x::b) d
section
variable{X:Cx}{e:Î}{es:List Î}{te:TE}{t:TA}{pos:ġ}
theorem xH:PA X [] vF:=fun _ _ _ _ H Q I h=>Calls.spliced_nil ⟨[],H,I,.nil,h⟩
theorem ux(m:PE X e te)(l:PA X es t)(k:autoParam (Ê (e::es) X.env=(Ä,eval e X.env)::Ê es X.env) Ax2._auto_1):PA X (e::es) (B5 te t):=by
 intro a d s c H Q I h;rw[k];show Í _ _ (spliced ((Ä,eval e X.env)::ø a (Ê es X.env))) _ _ s;refine Calls.spliced_cons (aD (m d s c H _ I h) fun u g b=>?_);obtain⟨x,q,o,r1,j⟩:=b;exact aD (l a d g c q _ o j) fun r v ⟨f,p,n,r2,i⟩=>⟨x::f,p,n,.cons r1 r2,i⟩
def Lk(t:TA):TE:=fun c H Q=>t c H fun a b=>a.length<=Ë/\∀p,b p=Á->Q (.ref p) (ah b p (.tup a))
def Lp(t:TA):TE:=fun c H Q=>t c H fun a b=>a.length<=Ë/\∀p,b p=Á->Q (.ref p) (ah b p (.lst a))
theorem Gj{i}(h:PA X es t):PE X (.Tuple es i pos) (Lk t):=by
 intro m s f H Q I k;refine wpAny_Tuple_spliced (aD (h pos m s f H _ I k) fun j a ⟨g,d,c,r,z,q⟩=>⟨by rw[<- r.length];exact z,?_⟩);have l:d a.heap.objs.size=Á:=c.Oi.fresh (zP _);refine⟨.ref a.heap.objs.size,ah d a.heap.objs.size (.tup g),c.laid (t':=a.toks) (fun b u e=>zG _ e) (zP _) ?_,rfl,q _ l⟩;exact⟨z,j,r,⟨_,zY _ rfl,rfl,_,rfl⟩⟩
theorem xF(h:PA X es t):PE X (.List es pos) (Lp t):=by
 intro l s f H Q I j;refine wpAny_List_spliced (aD (h pos l s f H _ I j) fun i a ⟨g,d,c,r,z,q⟩=>⟨by rw[<- r.length];exact z,?_⟩);have k:d a.heap.objs.size=Á:=c.Oi.fresh (zP _);refine⟨.ref a.heap.objs.size,ah d a.heap.objs.size (.lst g),c.laid (t':=a.toks) (fun b u e=>zG _ e) (zP _) ?_,rfl,q _ k⟩;exact⟨z,i,0,r,zY _ rfl⟩
end
abbrev Sp:=List V->Hp->VK->XK->Prop
abbrev lV:=List Q6->Hp->É->XK->Å->É->Prop
structure Env0(P:Ò)(w:Û)(K:á)(mg:Ì->Option Å)(base:ä)(A:ċ)(outer:List Q6)(s:É)(H:Hp):Prop where
 frames:A.frames=À outer
 mod:Mod K mg base
 bs:∀b o,base.get? b=À o->s.heap.get? b=À o/\H b=Á
 bsz:base.objs.size<=s.heap.objs.size
 funs:s.heap.FunFrames base outer
 frf:∀b∈jV outer,H b=Á
 Oi:HOk P w H s.heap
 bare:ź s.gens
def CE(outer:List Q6)(P:Ò)(w:Û)(H:Hp)(s:É)(Q:VK)(u:Å)(s':É):Prop :=
 ∃v a,s'.os=s.os/\ź s'.gens/\Un (jV outer) [] H a s.heap s'.heap/\HOk P w a s'.heap/\RelV v u/\Q v a
def CR(a:lV)(outer:List Q6)(P:Ò)(w:Û)(H:Hp)(s:É)(Q:VK)(E:XK)(r:Result)(s':É):Prop :=
 match r with
 |.ok (.ret u)=>CE outer P w H s Q u s'
 |.ok _=>False
 |.error e=>a outer H s E e s'
structure FnOk(P:Ò)(w:Û)(K:á)(mg:Ì->Option Å)(base:ä)(CX:lV)(k:Nat)(f:Ç)(fd:ĕ)(ps:List Ì)(sp:Sp):Prop where
 len:∀vs H Q E,sp vs H Q E->vs.length=ps.length
 run:∀(A:ċ)(outer:List Q6)(s:É)(H:Hp)(args:Args)(us:List Å)(vs:List V)(Q:VK)(E:XK),Room k A->Env0 P w K mg base A outer s H->q! s fd args (ps.zip us)->Vals vs us->sp vs H Q E ->
  ł (model P w) A (.call (.ref f) args) (CR CX outer P w H s Q E) s
theorem FnOk.mono{P:Ò}{w:Û}{K:á}{mg:Ì->Option Å}{a:ä}{d:lV}{j k:Nat}{f:Ç}{fd:ĕ}{ps:List Ì}{sp:Sp}(F:FnOk P w K mg a d j f fd ps sp)(h:j<=k) :
  FnOk P w K mg a d k f fd ps sp:=⟨F.len,fun A b s H c g e Q E i=>F.run A b s H c g e Q E (i.mono h)⟩
theorem FnOk.imp{P:Ò}{w:Û}{K:á}{mg:Ì->Option Å}{a:ä}{e:lV}{k:Nat}{f:Ç}{fd:ĕ}{ps:List Ì}{sp c:Sp}(F:FnOk P w K mg a e k f fd ps sp)
  (h:∀vs H Q E,c vs H Q E->sp vs H Q E):FnOk P w K mg a e k f fd ps c :=
 ⟨fun vs H Q E q=>F.len vs H Q E (h _ _ _ _ q),fun A b s H d g vs Q E l m n i j=>F.run A b s H d g vs Q E l m n i (h _ _ _ _ j)⟩
theorem Env0.make{P:Ò}{w:Û}{K:á}{mg:Ì->Option Å}{a:ä}{A:ċ}{outer:List Q6}{s:É}{H:Hp}(e:Env0 P w K mg a A outer s H)(C:Ç)(us:List Å)(b:List (Ì×Value)) :
  Env0 P w K mg a (A.under (.builtin "type.__call__" ⟨.ref C::us,b⟩)) outer s H:=⟨by first|exact e.frames|(simpa [Around.under,Code.envs,Code.isFrame,pushEnvs] using e.frames),e.mod,e.bs,e.bsz,e.funs,e.frf,e.Oi,e.bare⟩
section
variable{X:Cx}{Oa:List (Ç×Obj)}{σ:St}{H:Hp}{s s':É}
theorem Inv.env0(I:Inv X Oa σ H s):Env0 X.prog X.w X.K X.mg X.base X.A X.stack s H :=
 ⟨I.ok.frames,I.ok.mod,I.bs,z5 I.ok.bsz I.sz,I.stack,I.stkFree,I.Oi,I.bare⟩
theorem Inv.after(I:Inv X Oa σ H s)(h:CE X.stack X.prog X.w H s Q u s'):EP X Oa σ Q u s':=by
 obtain⟨v,j,e,a,un,i,r,q⟩:=h;obtain⟨f,g,d,t,c⟩:=s';obtain rfl:c=s.os:=e;exact⟨v,j,I.call (h':=f) (g':=g) (d':=d) (t':=t) (ch:=[]) un i a (fun b z=>absurd z (by simp)),r,q⟩
end
noncomputable def vH(sp:Sp)(a:List V)(E:XK)(t:TA):TE:=fun b H Q=>t b H fun c d=>sp (c++a) d Q E
def vG(C:Ç)(m:Ì)(sp:Sp)(b:List V)(E:XK)(f:TE)(t:TA):TE:=fun c H Q=>f c H fun x d=>∃a g fs,x=.ref a/\d a=À (.ins C g fs)/\fs.lookup m=Á /\
 t c d fun e h=>sp (x::(e++b)) h Q E
def B4(C:Ç)(sp:Sp)(b:List V)(E:XK)(t:TA):TE:=fun d H Q=>t d H fun e c=>∀x a,c x=Á->c a=Á->a≠x ->
 sp (.ref x::(e++b)) (ah (ah c a (.own x)) x (.ins C a [])) (fun v f=>v=.non/\Q (.ref x) f) E
def Binds(K:á)(fd:ĕ)(ps:List Ì)(b:List Å):Prop :=
 ∀(s:É)(a:List Å),K.In s.heap->(a++b).length=ps.length->q! s fd ⟨a,[]⟩ (ps.zip (a++b))
theorem Binds.all{K:á}{fd:ĕ}{ps:List Ì}(h:∀us:List Å,us.length=ps.length->w? fd ⟨us,[]⟩=pure (ps.zip us)):Binds K fd ps []:=fun s us _ a=>by
 rw[ò]at a ⊢;exact .of_eq (h us a)
def iu(d:lV)(X:Cx)(E:XK):Prop:=∀(c:List (Ç×Obj))(b:St)(H:Hp)(s:É)(e:Å)(a:É),Inv X c b H s->d X.stack H s E e a->X.xe e a
section
variable{X:Cx}{CX:lV}{k:Nat}{f C:Ç}{fd:ĕ}{ps:List Ì}{sp:Sp}{dvs:List V}{ds:List Å}{E:XK}{x m:Ì}{p pos apos:ġ}{e o:Î}{es:List Î}{ta:TE}{t:TA}
theorem oa(F:FnOk X.prog X.w X.K X.mg X.base CX k f fd ps sp)(d:Room k X.A)(i:Binds X.K fd ps ds)(hd:Vals dvs ds)(c:iu CX X E)
  (I:Inv X Oa σ H s) (r:Vals vs us) (h:sp (vs++dvs) H Q E):Í (model X.prog X.w) X.A (call (.ref f) us) (EP X Oa σ Q) X.xe s:=by
 have r2:Vals (vs++dvs) (us++ds):=r.append hd;have g:(us++ds).length=ps.length:=by rw[<- r2.length];exact F.len _ _ _ _ h
 refine s? (ř (F.run X.A X.stack s H ⟨us,[]⟩ (us++ds) (vs++dvs) Q E d I.env0 (i s us I.kIn g) r2 h) fun r b a=>?_);cases r with
 |error e=>exact c Oa σ H s e b I a
 |ok fl =>
  cases fl with
  |ret u=>exact I.after a
  |next=>exact False.elim a
  |brk=>exact False.elim a
  |cont=>exact False.elim a
theorem Ec(F:FnOk X.prog X.w X.K X.mg X.base CX k f fd ps sp)(g:Room k X.A)(l:Gl X x)(i:X.mg x=À (.ref f))(j:Ĵ X.K (.ref f)=Â)(m:Binds X.K fd ps ds)(hd:Vals dvs ds)(d:iu CX X E)
  (n:PA X (e::es) t) (a:autoParam ((x==("__debug__":Ì))=Ä) Ax0._auto_1) (he:autoParam (Ê (e::es) X.env=(Ä,eval e X.env)::Ê es X.env) Ax2._auto_1) (hpl:autoParam ((ø pos (Ê es X.env)).any (·.1)=Ä) Ax2._auto_1) :
  PE X (.Call (.Name x p) (e::es) [] pos) (vH sp dvs E t):=by
 intro o s c H Q I h;refine ú (mf I l i ?_ a);refine U! (h₀:=X.base) I.ok.mod.kin j (aD (n pos o s c H _ I h) fun v w ⟨u,y,b,r,q⟩=>⟨b.kIn,?_⟩) he hpl;exact oa F g m hd d b r q
theorem AY(F:FnOk X.prog X.w X.K X.mg X.base CX k f fd ps sp)(c:Room k X.A)(g:Gl X x)(d:X.mg x=À (.ref f))(e:Ĵ X.K (.ref f)=Â)(i:Binds X.K fd ps ds)(hd:Vals dvs ds)(b:iu CX X E)
  (a:autoParam ((x==("__debug__":Ì))=Ä) Ax0._auto_1):PE X (.Call (.Name x p) [] [] pos) (vH sp dvs E vF):=by
 intro l s j H Q I h;refine ú (mf I g d ?_ a);exact m? I.kIn e (oa (us:=[]) F c i hd b I .nil h)
theorem DZ(he:PE X o ta)(c:Cls X.K C)(i:kP X.K C m f)(F:FnOk X.prog X.w X.K X.mg X.base CX k f fd ps sp)(A:Room k X.A)(B:Binds X.K fd ps ds)(hd:Vals dvs ds)(y:iu CX X E)(D:PA X (e::es) t)
  (b:autoParam (Ê (e::es) X.env=(Ä,eval e X.env)::Ê es X.env) Ax2._auto_1) (hpl:autoParam ((ø pos (Ê es X.env)).any (·.1)=Ä) Ax2._auto_1)
  (z:autoParam (eval (.Call (.Attribute o m apos) (e::es) [] pos) X.env=(do
   let ov <- eval o X.env
   ő apos.atName
   let(f,first) <- holding [ov] (ŝ ov m pl)
   Ţ pos f first (ø pos (Ê (e::es) X.env)) (Ń pos (Ĕ [] X.env)))) Ax2._auto_1) :
  PE X (.Call (.Attribute o m apos) (e::es) [] pos) (vG C m sp dvs E ta t):=by
 intro j s g H Q I h;refine E! (pl:=pl) (aD (he j s g H _ I h) fun u v d=>?_) z;obtain⟨x,J,p,rx,a,L,fs,ex,G,l,q⟩:=d;subst ex;obtain rfl:u=ì a:=rx;refine kz p G c i l ?_;refine U! (first:=[.ref a]) (h₀:=X.base) I.ok.mod.kin i.kp (aD (D pos j v g J _ p q) fun us K ⟨vs,M,n,r,w⟩=>⟨n.kIn,?_⟩) b hpl;exact oa (us:=.ref a::us) (vs:=.ref a::vs) F A B hd y n (.cons rfl r) w
theorem AS(he:PE X o ta)(c:Cls X.K C)(e:kP X.K C m f)(F:FnOk X.prog X.w X.K X.mg X.base CX k f fd ps sp)(n:Room k X.A)(p:Binds X.K fd ps ds)(hd:Vals dvs ds)(i:iu CX X E)
  (j:autoParam (eval (.Call (.Attribute o m apos) [] [] pos) X.env=(do
   let ov <- eval o X.env
   ő apos.atName
   let(f,first) <- holding [ov] (ŝ ov m pl)
   Ţ pos f first (ø pos (Ê [] X.env)) (Ń pos (Ĕ [] X.env)))) Ax2._auto_1) :
  PE X (.Call (.Attribute o m apos) [] [] pos) (vG C m sp dvs E ta vF):=by
 intro t s g H Q I h;refine E! (pl:=pl) (aD (he t s g H _ I h) fun u v b=>?_) j;obtain⟨x,y,d,rx,a,w,fs,ex,r,l,q⟩:=b;subst ex;obtain rfl:u=ì a:=rx;refine kz d r c e l ?_;exact m? (first:=[.ref a]) d.kIn e.kp (oa (us:=[.ref a]) (vs:=[.ref a]) F n p hd i d (.cons rfl .nil) q)
structure Mk(K:á)(C f:Ç):Prop where
 makes:U6 K C=Â
 init:ō K (.ref C) "__init__"=À (À (.ref f))
 fn:isFn K (.ref f)=Â
 kp:Ĵ K (.ref C)=Â
theorem Ax(M:Mk X.K C f)(F:FnOk X.prog X.w X.K X.mg X.base CX k f fd ps sp)(l:Room (k+1) X.A)(n:Binds X.K fd ps ds)(hd:Vals dvs ds)
  (j:iu CX X E) (I:Inv X Oa σ H s) (r:Vals vs us)
  (h:∀x dx,H x=Á->H dx=Á->dx≠x->sp (.ref x::(vs++dvs)) (ah (ah H dx (.own x)) x (.ins C dx [])) (fun v H2=>v=.non/\Q (.ref x) H2) E) :
  Í (model X.prog X.w) X.A (call (.ref C) us) (EP X Oa σ Q) X.xe s:=by
 have c:=h (s.heap.objs.size+1) s.heap.objs.size (I.Oi.fresh (Ϩ _)) (I.Oi.fresh (zP _)) (zU (ı _));have b:=Inv.made (C:=C) I;have r2:Vals (V.ref (s.heap.objs.size+1)::(vs++dvs)) (ì (s.heap.objs.size+1)::(us++ds)):=.cons rfl (r.append hd);have m:(ì (s.heap.objs.size+1)::us++ds).length=ps.length:=by
  have e:=r2.length;rw[F.len _ _ _ _ c]at e;exact e.symm
 refine s? (Bc (f:=f) I.kIn M.makes M.init (beq_iff_eq.mp M.fn) (ř (F.run _ X.stack _ _ ⟨ì (s.heap.objs.size+1)::us,[]⟩ (ì (s.heap.objs.size+1)::(us++ds)) _ _ E (l.make C us [])
  (b.env0.make C us []) (n _ (ì (s.heap.objs.size+1)::us) b.kIn m) r2 c) fun r d a=>?_))
 cases r with
 |error e=>exact j Oa σ _ _ e d b a
 |ok fl =>
  cases fl with
  |ret u =>
   obtain⟨v,p,o,g,ev,i⟩:=b.after a;subst ev;exact⟨g,⟨V.ref (s.heap.objs.size+1),p,o,rfl,i⟩⟩
  |next=>exact False.elim a
  |brk=>exact False.elim a
  |cont=>exact False.elim a
theorem D0(M:Mk X.K C f)(F:FnOk X.prog X.w X.K X.mg X.base CX k f fd ps sp)(g:Room (k+1) X.A)(j:Gl X x)(i:X.mg x=À (.ref C))(l:Binds X.K fd ps ds)(hd:Vals dvs ds)(d:iu CX X E)
  (m:PA X (e::es) t) (a:autoParam ((x==("__debug__":Ì))=Ä) Ax0._auto_1) (he:autoParam (Ê (e::es) X.env=(Ä,eval e X.env)::Ê es X.env) Ax2._auto_1) (hpl:autoParam ((ø pos (Ê es X.env)).any (·.1)=Ä) Ax2._auto_1) :
  PE X (.Call (.Name x p) (e::es) [] pos) (B4 C sp dvs E t):=by
 intro n s c H Q I h;refine ú (mf I j i ?_ a);refine U! (h₀:=X.base) I.ok.mod.kin M.kp (aD (m pos n s c H _ I h) fun u v ⟨o,w,b,r,q⟩=>⟨b.kIn,?_⟩) he hpl;exact Ax M F g l hd d b r q
end
structure mD(N P:List Ì)(sc:ĝ):Prop where
 kind:sc.kind=.function
 co:sc.isCoroutine=Ä
 gen:sc.isGenerator=Ä
 nd:N.Nodup
 pre:N.take P.length=P
 par:∀x∈P,sc.names.lookup x=À .local\/sc.names.lookup x=À .cell
 nofree:∀y∈sc.names,y.2≠.free
theorem qB{a:Ì->Option Ť}{x:Ì}:∀{binds:List (Ì×Value)}{m:Ì->Option Å},(∀v,(x,v)∉binds)->J? a binds m x=m x
 |[],_,_=>rfl
 |(n,v)::r,m,h=>by
  unfold J?;rw[qB fun w hw=>h w (zQ _ hw)];split
  ·have:x≠n:=by rintro rfl;exact h v z7
   simp[this]
  ·rfl
theorem qD{a:Ì->Option Ť}{x:Ì}:∀{binds:List (Ì×Value)}{m:Ì->Option Å},(∀v,(x,v)∉binds)->K! a binds m x=m x
 |[],_,_=>rfl
 |(n,v)::r,m,h=>by
  unfold K!;rw[qD fun w hw=>h w (zQ _ hw)];split
  ·rfl
  ·have:x≠n:=by rintro rfl;exact h v z7
   simp[this]
theorem qC{kindOf:Ì->Option Ť}{x:Ì}{v:Å}:∀{P:List Ì}{vs:List Å}{i:Nat}{m:Ì->Option Å},P.Nodup->P[i]?=À x->vs[i]?=À v->kindOf x=À .local ->
  J? kindOf (P.zip vs) m x=À v
 |[],_,_,_,_,h,_,_=>by simp at h
 |_::_,[],_,_,_,_,h,_=>by simp at h
 |p::P,w::vs,0,m,nd,h1,h2,hk=>by
  simp at h1 h2;subst h1;subst h2;show J? kindOf ((p,w)::P.zip vs) m p=_;unfold J?;rw[qB fun v hv=>(ĺ.mp nd).1 (Ĺ hv).1,yI hk];simp
 |p::P,w::vs,i+1,m,nd,h1,h2,hk=>by
  show J? kindOf ((p,w)::P.zip vs) m x=_;unfold J?;exact qC (i:=i) (ĺ.mp nd).2 (by simpa using h1) (by simpa using h2) hk
theorem qE{kindOf:Ì->Option Ť}{x:Ì}{v:Å}:∀{P:List Ì}{vs:List Å}{i:Nat}{m:Ì->Option Å},P.Nodup->P[i]?=À x->vs[i]?=À v->kindOf x≠À .local ->
  K! kindOf (P.zip vs) m x=À v
 |[],_,_,_,_,h,_,_=>by simp at h
 |_::_,[],_,_,_,_,h,_=>by simp at h
 |p::P,w::vs,0,m,nd,h1,h2,hk=>by
  simp at h1 h2;subst h1;subst h2;show K! kindOf ((p,w)::P.zip vs) m p=_;unfold K!;rw[qD fun v hv=>(ĺ.mp nd).1 (Ĺ hv).1,yH hk];simp
 |p::P,w::vs,i+1,m,nd,h1,h2,hk=>by
  show K! kindOf ((p,w)::P.zip vs) m x=_;unfold K!;exact qE (i:=i) (ĺ.mp nd).2 (by simpa using h1) (by simpa using h2) hk
def start(N:List Ì)(vs:List V):St:=vs.map À++È (N.length-vs.length) Á
def p0(b:lV)(P:Ò)(w:Û)(K:á)(mg:Ì->Option Å)(base:ä)(N:List Ì)(qual:Ì)(scope:ĝ)(f:Ç)(cd:Å)(A:ċ)(outer:List Q6)(s:É)(H:Hp)(E:XK):Cx where
 prog:=P
 w:=w
 K:=K
 mg:=mg
 base:=base
 A:=A.deeper (ϣ qual scope s.heap.objs.size f cd)
 N:=N
 s₀:=s
 H₀:=H
 env:=ϣ qual scope s.heap.objs.size f cd
 outer:=outer
 stack:=ϣ qual scope s.heap.objs.size f cd::outer
 ex:=[]
 calm:=Â
 fn:=fun _=>Â
 pn:=[]
 xe:=fun e c=>Í (model P w) (A.deeper (ϣ qual scope s.heap.objs.size f cd)) (leaving (ϣ qual scope s.heap.objs.size f cd) e) (fun _ a=>b outer H s E e a) (fun d a=>b outer H s E d a) c
theorem tK{sc:ĝ}{n:Nat}{x:Ì}(h:sc.names.lookup x=À .cell):∃c,(Ē n sc.names []).lookup x=À c:=by
 have q:=cellsFrom_some sc.names n [] (.inl h);exact Č.mp q
theorem yj{G:lV}{P:Ò}{w:Û}{K:á}{mg:Ì->Option Å}{g:ä}{N ps:List Ì}{qual:Ì}{scope:ĝ}{f:Ç}{cd:Å}{A:ċ}{outer:List Q6}{s s1:É}{H:Hp}{E:XK}{us:List Å}{vs:List V}
  (S:mD N ps scope) (hd:A.handled=Á) (j:Env0 P w K mg g A outer s H) (O:vs.length=ps.length) (r:Vals vs us)
  (x:InCallC s s.heap.objs.size (J? (ϣ qual scope s.heap.objs.size f cd).kindOf (ps.zip us) fun _=>Á) (Ē (s.heap.objs.size+1) scope.names []) (K! (ϣ qual scope s.heap.objs.size f cd).kindOf (ps.zip us) fun _=>Á) s1) :
  Inv (p0 G P w K mg g N qual scope f cd A outer s H E) [] (start N vs) H s1:=by
 have J:ps.length<=N.length:=by have:=congrArg ň S.pre;rw[ī]at this;lia
 obtain ⟨C,M,rfl,F⟩:=x.done;have l:∀ b:Ç,b ∉ (p0 G P w K mg g N qual scope f cd A outer s H E).ex:=fun b z=>absurd (show b ∈ ([]:List Ç) from z) (by simp)
 refine⟨⟨j.mod,S.kind,rfl,rfl,zP _,fun y z c C d=>?_,fun y m=>?_,fun y c _ h=>?_,fun _=>hd,Around.frames_deeper j.frames,.inr ⟨rfl,rfl⟩,fun b z=>absurd z (l b),j.bs,j.bsz,fun b _ _=>l b,fun b z=>absurd z (l b),j.funs,j.frf⟩,
  rfl,j.bare,Un.kept F,⟨_,x.toInCall.ns,fun i y v C d Q=>?_⟩,fun y c h=>⟨_,x.cell y c h⟩,j.Oi.fresh (zP _),fun y c h=>?_,fun p t=>absurd (show p∈([]:List (Ç×Obj)) from t) (by simp),j.Oi.kept F,?_⟩
 ·exact name_of_addr x.apart (į C) (į d)
 ·have m:scope.names.lookup y=À .cell\/scope.names.lookup y=À .free:=m
  rcases m with m|m
  ·exact tK m
  ·exact absurd rfl (S.nofree _ (į m))
 ·exact yZ (x.above y c (į h))
 ·have B:i<vs.length:=by
   unfold start at d;by_cases B:i<vs.length
   ·exact B
   ·rw[z6 (by simpa using B)]at d
    rw[ÿ]at d;split at d<;>cases d
  have L:vs[i]?=À v:=by
   unfold start at d;rw[zN (by simpa using B),zR]at d;cases e:vs[i]? with
   |none=>rw[e]at d;cases d
   |some a=>rw[e]at d;cases d;rfl
  obtain⟨u,D,I⟩:=r.get L;have t:ps[i]?=À y:=by
   rw[<- S.pre,ş oM];exact C
  have o:ps.Nodup:=by rw[<- S.pre];exact S.nd.sublist (O8 _ _)
  refine⟨u,I,?_⟩;rcases S.par y (zW t) with k|k
  ·exact .inl ⟨k,qC o t D k⟩
  ·obtain⟨c,e⟩:=tK (n:=s.heap.objs.size+1) k
   refine .inr ⟨.inl k,c,e,?_⟩;have q:=x.cell y c e;rw[qE o t D (by show scope.names.lookup y≠_;rw[k];decide)]at q;exact q
 ·exact j.Oi.fresh (yZ (x.above y c (į h)))
 ·unfold start
  show _=N.length;rw[zV,zH,ŀ];lia
theorem JG{C:lV}{P:Ò}{w:Û}{K:á}{mg:Ì->Option Å}{d:ä}{k:Nat}{f:Ç}{name qual:Ì}{c:Ϛ}{g:List ĸ}{scope:ĝ}{U kV B pm a ct oc:Å}{X Z:Option Ç}
  {G:Array (Option Å)}{N ps:List Ì}{sp:Sp} (lk:K.lookup f=À ⟨oc,Z,.func (fnOf name qual c g scope U kV B pm X a ct),G⟩) (R:ϑ K a qual=Â) (S:mD N ps scope)
  (m:∀vs H Q E,sp vs H Q E->vs.length=ps.length)
  (j:∀(A:ċ)(outer:List Q6)(s:É)(H:Hp)(vs:List V)(Q:VK)(E:XK),Room k (A.deeper (ϣ qual scope s.heap.objs.size f a))->sp vs H Q E ->
   ∃t,PSs (p0 C P w K mg d N qual scope f a A outer s H E) g t/\t { nx:=fun _ H'=>Q .non H',rt:=Q } (start N vs) H) :
  FnOk P w K mg d C (k+1) f (fnOf name qual c g scope U kV B pm X a ct) ps sp:=by
 refine⟨m,fun A outer s H W Y vs Q E M z hb r p=>?_⟩;have hl:=m _ _ _ _ p;have KX:K.In s.heap:=z.mod.kin.keeps fun b o e=>(z.bs b o e).1
 have L:s.heap.NoLimit:=z.mod.nolimit.keeps fun b o e=>(z.bs b o e).1
 have i:∀y∈ps.zip Y,scope.names.lookup y.1=À .local\/(scope.names.lookup y.1=À .cell/\((Ē (s.heap.objs.size+1) scope.names []).lookup y.1).isSome=Â):=fun O hy=>by
  obtain⟨n,v⟩:=O;rcases S.par n (Ĺ hy).1 with q|q
  ·exact .inl q
  ·exact .inr ⟨q,cellsFrom_some _ _ _ (.inl q)⟩
 refine codeAny_call_function M.depth (KX _ _ lk) rfl S.co S.gen rfl (codeRec_of KX R) (hb _ _ _ _ ?_);refine wpAny_newFunctionEnv_cells S.kind i fun env he T x=>?_
 subst he;refine⟨L.keeps x.toInCall.keep,codeAny_func ?_⟩;obtain⟨t,ht,hq⟩:=j A outer s H vs Q E (M.deeper _) p;have I:Inv (p0 C P w K mg d N qual scope f a A outer s H E) [] (start N vs) H T:=yj S M.hd z hl r x;refine yT (ht [] T (start N vs) H _ I hq) (fun fl D l=>?_) fun e D l=>l
 have au:∀{h:St}{H':Hp}{v:V}{u:Å},Inv (p0 C P w K mg d N qual scope f a A outer s H E) [] h H' D->RelV v u->Q v H'->CE outer P w H s Q u D :=
  fun {h H' v u} J F q=>⟨v,H',J.os,J.bare,J.base,J.Oi,F,q⟩
 cases fl with
 |ret u =>
  obtain⟨v,h,H',J,F,q⟩:=l;exact au J F q
 |next =>
  obtain⟨h,H',J,q⟩:=l;exact au (v:=V.non) (u:=Ũ) J rfl q
 |brk =>
  obtain⟨_,_,_,q⟩:=l;exact False.elim q
 |cont =>
  obtain⟨_,_,_,q⟩:=l;exact False.elim q
section
variable{X:Cx}{x:Ì}{p pos:ġ}{e:Î}{es:List Î}{t:TA}{id T:String}{r:List V->Hp->VK->Prop}
def Ff(r:List V->Hp->VK->Prop)(t:TA):TE:=fun a H Q=>t a H fun b c=>r b c Q
theorem AX(n:cM X (.builtin id) r)(m:Gl X x)(l:X.mg x=Á)(j:â x=À (.builtin id))(o:PA X (e::es) t)(k:autoParam (x≠"__name__") Ax0._auto_1)(a:autoParam ((x==("__debug__":Ì))=Ä) Ax0._auto_1)
  (he:autoParam (Ê (e::es) X.env=(Ä,eval e X.env)::Ê es X.env) Ax2._auto_1) (hpl:autoParam ((ø pos (Ê es X.env)).any (·.1)=Ä) Ax2._auto_1):PE X (.Call (.Name x p) (e::es) [] pos) (Ff r t):=by
 intro c s b H Q I h;refine ú (dQ I m l j ?_ k a);exact X3 (aD (o pos c s b H _ I h) fun f g ⟨d,u,q,r1,i⟩=>n c g b u d f Q q r1 i) he hpl
theorem qg(n:cM X (.type T) r)(m:Gl X x)(l:X.mg x=Á)(j:â x=À (.type T))(o:PA X (e::es) t)(k:autoParam (x≠"__name__") Ax0._auto_1)(a:autoParam ((x==("__debug__":Ì))=Ä) Ax0._auto_1)
  (he:autoParam (Ê (e::es) X.env=(Ä,eval e X.env)::Ê es X.env) Ax2._auto_1) (hpl:autoParam ((ø pos (Ê es X.env)).any (·.1)=Ä) Ax2._auto_1):PE X (.Call (.Name x p) (e::es) [] pos) (Ff r t):=by
 intro c s b H Q I h;refine ú (dQ I m l j ?_ k a);exact Ô (aD (o pos c s b H _ I h) fun f g ⟨d,u,q,r1,i⟩=>n c g b u d f Q q r1 i) he hpl
end
end L2
namespace HT
open PySem PyProof.Rows
section
variable{prog:Ò}{w:Û}{A:ċ}{E:Å->É->Prop}{s:É}
noncomputable def Oo(n d:Nat):Option Int->Nat
 |none=>d
 |some v=>if v<0 then(v+(n:Int)).toNat else min v.toNat n
theorem sIx_none(n d:Nat):Oo n d Á=d:=rfl
theorem sIx_nat(n d k:Nat):Oo n d (À (k:Int))=min k n:=by
 show(if(k:Int)<0 then((k:Int)+(n:Int)).toNat else min (k:Int).toNat n)=min k n;rw[yH oM,Q3]
end
end HT
namespace L2
open PySem PySem.Spec PyProof.Rows
abbrev TO:=St->Hp->(Option Int->Hp->Prop)->Prop
def PO(X:Cx)(e:Option Î)(t:TO):Prop :=
 ∀(b:List (Ç×Obj))(s:É)(a:St)(H:Hp)(Q:Option Int->Hp->Prop),Inv X b a H s->t a H Q ->
  Í (model X.prog X.w) X.A (evalPart e X.env) (fun u d=>∃o c,Inv X b a c d/\IsPart u o/\Q o c) X.xe s
noncomputable def Dg:TO:=fun _ H Q=>Q Á H
noncomputable def Il(t:TE):TO:=fun a H Q=>t a H fun x b=>∃i,x=.int i/\Q (À i) b
theorem kx:∀{us:List Å},Vals (ns.map V.int) us->Ÿ us ns:=by
 induction ns with
 |nil=>intro us r;rw[ϙ]at r;cases r;exact .nil
 |cons n ns a =>
  intro us r;rw[zO]at r;cases r with
  |cons r1 r2 =>
   obtain⟨t,e⟩:=r1;subst e;exact .cons n t (a r2)
section
variable{X:Cx}{e:Î}{te:TE}{lo hi:Option Î}{tl th:TO}{pos p2:ġ}
theorem DR:PO X Á Dg:=by
 intro b s a H Q I h;rw[evalPart_none];exact yG ⟨Á,H,I,.none,h⟩
theorem DQ(h:PE X e te):PO X (À e) (Il te):=by
 intro f s b H Q I d;rw[evalPart_some];refine aD (h f s b H _ I d) fun u k a=>?_
 obtain⟨x,j,g,r1,c⟩:=a;obtain⟨i,rfl,q⟩:=c;obtain⟨t,rfl⟩:=r1;exact⟨À i,j,g,.int i t,q⟩
def Ol(X:Cx)(r:V->Option Int->Option Int->Hp->VK->Prop):Prop :=
 ∀(g:List (Ç×Obj))(s:É)(a:St)(H:Hp)(x:V)(v c b:Å)(e f:Option Int)(d:Ç)(Q:VK),Inv X g a H s->RelV x v->s.heap.IsSliceOf d c b .none->IsPart c e->IsPart b f->r x e f H Q ->
  ∃T id,typeLookup (.type T) "__getitem__"=pure (À (.builtin id))/\s.TypeIs v T/\Í (model X.prog X.w) X.A (O1 v (.ref d)) (EP X g a Q) X.xe s
def Ki(r:V->Option Int->Option Int->Hp->VK->Prop)(te:TE)(b c:TO):TE:=fun a H Q=>te a H fun x f=>b a f fun l e=>c a e fun u d=>r x l u d Q
theorem AR(A:Ol X r)(he:PE X e te)(B:PO X lo tl)(y:PO X hi th):PE X (.Subscript e (.Slice lo hi Á p2) pos) (Ki r te tl th):=by
 intro f s d H Q I h;refine Subscript_ (aD (he f s d H _ I h) fun v m c=>?_);obtain⟨x,L,J,r1,p⟩:=c;refine wpAny_Slice (aD (B f m d L _ J p) fun i k ⟨l,K,G,w,o⟩=>aD (y f k d K _ G o) fun g a c=>?_);obtain⟨u,j,F,t,n⟩:=c;rw[evalPart_none];refine yG ?_;have E:Inv X f d j { a with heap:=a.heap.push { cls:=.type "slice",data:=.fields #[i,g,.none] } }:=F.kept (t':=a.toks) fun b M q=>zG _ q
 obtain⟨T,id,D,z,C⟩:=A f { a with heap:=a.heap.push { cls:=.type "slice",data:=.fields #[i,g,.none] } } d j x v i g l u a.heap.objs.size Q E r1 (V? ..) w t n;show Í (model X.prog X.w) X.A (C! e (.Slice lo hi Á p2) v (.ref a.heap.objs.size)) (EP X f d Q) X.xe { a with heap:=a.heap.push { cls:=.type "slice",data:=.fields #[i,g,.none] } };exact tail_any (ops:=[.ref a.heap.objs.size,v]) z D C (by with_unfolding_all rfl)
def p4(xs:List V)(a b:Option Int):List V:=(xs.drop (HT.Oo xs.length 0 a)).take (HT.Oo xs.length xs.length b-HT.Oo xs.length 0 a)
theorem ue(xs:List V)(a b:Option Int):(p4 xs a b).length<=xs.length:=by
 unfold p4;rw[ī,List.length_drop];lia
end
noncomputable def mN(n:Nat)(i:Int):Option Nat:=if 0<=i then(if i<n then À i.toNat else Á) else if -(n:Int)<=i then À (i+n).toNat else Á
def gO{α:Type}(xs:List α)(i:Int):Option α:=(mN xs.length i).bind fun j=>xs[j]?
theorem uH{n:Nat}{i:Int}{j:Nat}(h:mN n i=À j):seqIndex? i n=À j/\j<n/\-(n:Int)<=i/\i<n:=by
 unfold mN at h;by_cases b:0<=i
 ·rw[yI b]at h
  by_cases a:i<n
  ·rw[yI a]at h
   have e:i.toNat=j:=yE h;exact⟨by rw[d? b a,e],by lia,by lia,a⟩
  ·rw[yH a]at h;cases h
 ·rw[yH b]at h
  by_cases a:-(n:Int)<=i
  ·rw[yI a]at h
   have e:(i+n).toNat=j:=yE h;exact⟨by rw[ϯ oM a,e],by lia,a,by lia⟩
  ·rw[yH a]at h;cases h
theorem mz{α:Type}{xs:List α}{i:Int}{v:α}(h:gO xs i=À v):∃j,seqIndex? i xs.length=À j/\xs[j]?=À v/\j<xs.length/\-(xs.length:Int)<=i/\i<xs.length:=by
 unfold gO at h;cases e:mN xs.length i with
 |none=>rw[e]at h;cases h
 |some j =>
  rw[e]at h;obtain⟨d,c,b,a⟩:=uH e;exact⟨j,d,h,c,b,a⟩
def p8(b:Î):Prop:=∀o i,subscripted b Ä o i=operate [o,i] (O1 o i)
def IxR(X:Cx)(r:R2):Prop :=
 ∀(b a:Î)(d:List (Ç×Obj))(s:É)(c:St)(H:Hp)(x y:V)(v u:Å)(Q:VK),Inv X d c H s->RelV x v->RelV y u->r x y H Q ->
  subscripted a Ä v u=operate [v,u] (O1 v u)->Í (model X.prog X.w) X.A (C! b a v u) (EP X d c Q) X.xe s
def lT(X:Cx)(id:String)(r:V->List V->Hp->VK->Prop):Prop :=
 ∀(d:List (Ç×Obj))(s:É)(a:St)(H:Hp)(x:V)(b:List V)(v:Å)(c:List Å)(Q:VK),Inv X d a H s->RelV x v->Vals b c->r x b H Q ->
  Í (model X.prog X.w) X.A (call (.builtin id) (v::c)) (EP X d a Q) X.xe s
section
variable{X:Cx}{a b:Î}{ta tb:TE}{pos:ġ}
theorem IxR.or(h:IxR X r)(h':IxR X r'):IxR X (fun x y H Q=>r x y H Q\/r' x y H Q):=by
 intro a b f s c H x y v u Q I rx d q e;rcases q with q|q
 ·exact h a b f s c H x y v u Q I rx d q e
 ·exact h' a b f s c H x y v u Q I rx d q e
theorem Jb(g:IxR X r)(j:PE X a ta)(i:PE X b tb)(f:p8 b):PE X (.Subscript a b pos) (xa r ta tb):=by
 intro k s c H Q I h;exact Subscript_ (BM j i I h fun v u d x y m l rx e q=>g a b k d c m x y v u Q l rx e q (f _ _))
def Fz(K:á):R2:=fun x y H Q=>∃p a i v,x=.ref p/\y=.int i/\bR K H p a/\gO a i=À v/\Q v H
def Fx(K:á):R2:=fun x y H Q=>∃p a i v,x=.ref p/\y=.int i/\iq K H p a/\gO a i=À v/\Q v H
def Fy:R2:=fun x y H Q=>∃z i c,x=.str z/\y=.int i/\z.length<=Ë/\gO z.cps.toList i=À c/\Q (.str ⟨#[c]⟩) H
theorem ix_list:IxR X (Fz X.K):=by
 intro b c n s g H x y v u Q I rx A h k;obtain⟨p,K,i,z,rfl,rfl,B,D,q⟩:=h;cases rx;obtain⟨t,rfl⟩:=A;obtain⟨J,r,e,hz⟩:=I.list B;obtain⟨j,a,G,M,F,E⟩:=mz D;obtain⟨w,m,d⟩:=r.get G;have C:=r.length;have L:=ig;have au:EP X n g Q w s:=⟨z,H,I,d,q⟩;by_cases l:0<=i
 ·have f:i.toNat=j:=by
   rw[d? l E]at a;exact yE a
  exact item_listR e.isList l oM (by rw[f];simpa using m) au k
 ·have f:(i+(J.toArray.size:Int)).toNat=j:=by
   rw[ϯ oM F]at a;rw[zI,<- C];exact yE a
  exact O0 (x:=w) e.isList.typeIs slot_list_getitem.lookup
   (O! (Q:=fun r o=>r=w/\EP X n g Q r o) e.isList oM (by rw[zI]<;>lia) oM (by rw[f];simpa using m) ⟨rfl,au⟩) k
theorem ix_tup:IxR X (Fx X.K):=by
 intro a b f s d H x y v u Q I rx k h l;obtain⟨p,D,i,z,rfl,rfl,m,o,q⟩:=h;cases rx;obtain⟨t,rfl⟩:=k;obtain⟨K,r,e,hz⟩:=I.tuple m;obtain⟨j,B,A,J,G,F⟩:=mz o;obtain⟨w,C,c⟩:=r.get A;have n:=r.length;have E:=ig;have au:EP X f d Q w s:=⟨z,H,I,c,q⟩;exact O0 (x:=w) e.typeIs slot_tuple_getitem.lookup
  (getItem_tuple (j:=j) (Q:=fun r g=>r=w/\EP X f d Q r g) e oM oM (by rw[zI,<- n];exact B) (by simpa using C) ⟨rfl,au⟩) l
theorem Ha:IxR X Fy:=by
 intro a b C s r H x y v u Q I rx e h f;obtain⟨z,i,c,rfl,rfl,hz,k,q⟩:=h;obtain⟨t,rfl⟩:=rx;obtain⟨w,rfl⟩:=e;obtain⟨j,d,n,B,m,l⟩:=mz k;have g:z.cps.toList.length=z.length:=by simp[Str.length]
 rw[g]at d m l;have A:=ig;exact tail_any (typeIs_str s z t) slot_str_getitem.lookup (getItem_str (c:=c) (by
  have p:decide (i < -(2^63:Int))=Ä:=yA oM;have o:decide (i ≥ 2^63)=Ä:=yA oM;rw[p,o,U1]) (by rw[d];simpa using n) ⟨.str ⟨#[c]⟩,H,I.tok _,⟨_,rfl⟩,q⟩) f
def MH(K:á):R2:=fun x y H Q=>Fz K x y H Q\/Fx K x y H Q\/Fy x y H Q
theorem sL:IxR X (MH X.K):=ix_list.or (ix_tup.or Ha)
theorem we(Oe:List Å)(n j:Nat)(u:Å):ğ (·.setIfInBounds j u) { cls:=.type "list",data:=.seq Oe.toArray n }={ cls:=.type "list",data:=.seq (Oe.set j u).toArray n }:=by
 simp[ğ]
theorem Inv.lst(I:Inv X Oa σ H s)(h:H p=À (.lst xs)) :
  ∃(Oe:List Å)(n:Nat),Vals xs Oe/\s.heap.get? p=À { cls:=.type "list",data:=.seq Oe.toArray n }/\xs.length<=Ë:=by
 obtain⟨z,Oe,n,r,e⟩:=I.Oi p _ h;exact⟨Oe,n,r,e,z⟩
theorem Inv.lstUpd{Oa:List (Ç×Obj)}{σ:St}{H:Hp}{s:É}{p:Ç}{xs ys:List V}{Oe its':List Å}{n a:Nat}{f:W?->W?}(I:Inv X Oa σ H s)(h:H p=À (.lst xs))
  (d:s.heap.get? p=À { cls:=.type "list",data:=.seq Oe.toArray n }) (c:f { cls:=.type "list",data:=.seq Oe.toArray n }={ cls:=.type "list",data:=.seq its'.toArray a }) (r:Vals ys its') (hz:ys.length<=Ë) (t:Nat) :
  Inv X Oa σ (ah H p (.lst ys)) { s with heap:=s.heap.update p f,toks:=t }:=by
 have e:(s.heap.update p f).get? p=À { cls:=.type "list",data:=.seq its'.toArray a }:=by
  rw[Heap.get?_update_self f d (by rw[c]<;>rfl),c]
 refine I.write (x:=p) (e:=p) (by rw[h];trivial) (.inl rfl) (fun b u g q=>(p! _ _ (ã g)).trans q) ⟨_,e⟩ ?_;exact⟨hz,its',a,r,e⟩
def IC:V->V->V->Hp->(Hp->Prop)->Prop:=fun o i v H Q=>∃p a k j,o=.ref p/\i=.int k/\H p=À (.lst a)/\mN a.length k=À j/\Q (ah H p (.lst (a.set j v)))
theorem Av:wK X IC:=by
 intro D s x H o i v E F u Q I A B z h;obtain⟨p,y,k,j,rfl,rfl,e,C,q⟩:=h;cases A;obtain⟨t,rfl⟩:=B;obtain⟨m,n,r,b,hz⟩:=I.lst e;obtain⟨a,J,g,f⟩:=uH C;have c:=r.length;have G:=ig;have w:Inv X D x (ah H p (.lst (y.set j v))) { s with heap:=s.heap.update p (ğ (·.setIfInBounds j u)) } :=
  I.lstUpd e b (we m n j u) (r.set z j) (by rw[ā];exact hz) s.toks
 by_cases l:0<=k
 ·have d:k.toNat=j:=by
   rw[d? l f]at a;exact yE a
  exact ki_setAt b l oM (by rw[zI,<- c];exact f) (by rw[d];exact⟨_,w,q⟩)
 ·have d:(k+(m.toArray.size:Int)).toNat=j:=by
   rw[ϯ oM g]at a;rw[zI,<- c];exact yE a
  exact ki_setBack b oM (by rw[zI,<- c];exact g) oM (by rw[d];exact⟨_,w,q⟩)
theorem rK(a b:Option Int)(n:Nat):(œ a b Á n).1=((HT.Oo n 0 a:Nat):Int)/\(œ a b Á n).2.1=((HT.Oo n n b:Nat):Int)/\(œ a b Á n).2.2=1:=by
 refine⟨?_,?_,rfl⟩
 ·cases a with
  |none=>simp[œ,HT.Oo]
  |some i =>
   simp only[œ,HT.Oo,L?,show(1:Int) > 0 by decide,if_true];by_cases h:i<0
   ·simp only[h,if_true]<;>lia
   ·simp only[h,if_false]<;>lia
 ·cases b with
  |none=>simp[œ,HT.Oo]
  |some i =>
   simp only[œ,HT.Oo,L?,show(1:Int) > 0 by decide,if_true];by_cases h:i<0
   ·simp only[h,if_true]<;>lia
   ·simp only[h,if_false]<;>lia
theorem qJ(Oe:List Å)(a b:Option Int):slicePick Oe.toArray a b Á=((Oe.drop (HT.Oo Oe.length 0 a)).take (HT.Oo Oe.length Oe.length b-HT.Oo Oe.length 0 a)).toArray:=by
 obtain⟨e,d,c⟩:=rK a b Oe.toArray.size;unfold slicePick;rw[e,d,c];simp only[sliceRange_one,pick_run,zI]<;>rfl
def LC(K:á):V->Option Int->Option Int->Hp->VK->Prop:=fun x c d H Q=>∃a b,x=.ref a/\bR K H a b/\∀p,H p=Á->Q (.ref p) (ah H p (.lst (p4 b c d)))
theorem Dj:Ol X (LC X.K):=by
 intro y s m H x v p n e f t Q I rx l j i h;obtain⟨a,c,rfl,k,q⟩:=h;cases rx;obtain⟨w,r,g,hz⟩:=I.list k;have d:=r.length;refine⟨"list",_,slot_list_getitem.lookup,g.isList.typeIs,?_⟩;refine wpAny_getItem_list_slice g.isList l j i .none (by simp) ?_ (by rw[zI]<;>lia);rw[qJ,<- d];refine⟨.ref s.heap.objs.size,_,I.laid (t':=s.toks) (o:=.lst (p4 c e f)) (fun b u q=>zG _ q) (zP _) ?_,rfl,q _ (I.Oi.fresh (zP _))⟩;exact⟨z5 (ue c e f) hz,_,0,(r.drop (HT.Oo c.length 0 e)).take (HT.Oo c.length c.length f-HT.Oo c.length 0 e),zY _ rfl⟩
theorem lO:cM X (.builtin "len") (fun xs H Q=>∃p ys,xs=[.ref p]/\(bR X.K H p ys\/iq X.K H p ys)/\Q (.int ys.length) H):=by
 intro j s f H xs g Q I r h;obtain⟨p,ys,rfl,b,q⟩:=h;obtain⟨u,rfl,rx⟩:=eI r;cases rx;have i:=ig;rcases b with b|b
 ·obtain⟨e,c,d,hz⟩:=I.list b
  have a:=c.length;exact Calls.call_len_list d.isList (by simp only[zI]<;>lia) ⟨.int ys.length,H,I.tok _,⟨s.toks+1,by rw[zI,a]⟩,q⟩
 ·obtain⟨e,c,d,hz⟩:=I.tuple b
  have a:=c.length;exact len_tuple d (by simp only[zI]<;>lia) ⟨.int ys.length,H,I.tok _,⟨s.toks+1,by rw[zI,a]⟩,q⟩
theorem tM:cM X (.builtin "len") (fun xs H Q=>∃z,xs=[.str z]/\z.length<=Ë/\Q (.int z.length) H):=by
 intro d s a H xs b Q I r h;obtain⟨z,rfl,hz,q⟩:=h;obtain⟨u,rfl,t,rfl⟩:=eI r;have c:=ig;exact len_str oM ⟨.int z.length,H,I.tok _,⟨_,rfl⟩,q⟩
theorem tL:cM X (.type "list") (fun xs H Q=>∃p ys,xs=[.ref p]/\(bR X.K H p ys\/iq X.K H p ys)/\∀l,H l=Á->Q (.ref l) (ah H l (.lst ys))):=by
 intro x s w H xs y Q I r h;obtain⟨p,ys,rfl,i,q⟩:=h;obtain⟨u,rfl,rx⟩:=eI r;cases rx;have au:∀(c:List Å),Vals ys c->ys.length<=Ë->∀(a:ä)(f:Nat),(∀b v,s.heap.get? b=À v->a.get? b=À v) ->
   a.get? s.heap.objs.size=À { cls:=.type "list",dict:=Á,data:=.seq c.toArray f,slots:=#[] }->EP X x w Q (.ref s.heap.objs.size) { s with heap:=a }:=fun c d hz a f g e =>
  ⟨.ref s.heap.objs.size,_,I.laid (t':=s.toks) g (zP _) (show ObjOk X.prog X.w _ a _ (.lst ys) from ⟨hz,c,f,d,e⟩),rfl,q _ (I.Oi.fresh (zP _))⟩
 rcases i with i|i
 ·obtain⟨c,d,k,hz⟩:=I.list i
  have j:=d.length;obtain⟨o,m,t,n,hd⟩:=k.isList;exact call_list_seq p (.inl rfl) m t hd (fun a f g e=>au c d hz a f g e) (by simp only[zI]<;>lia)
 ·obtain⟨c,d,k,hz⟩:=I.tuple i
  have j:=d.length;obtain⟨o,m,t,n,hd⟩:=k;exact call_list_seq p (.inr rfl) m t hd (fun a f g e=>au c d hz a f g e) (by simp only[zI]<;>lia)
def wR(K:á)(T:String)(x:V)(H:Hp):Prop:=match x with
 |.str _=>T="str"
 |.int _=>T="int"
 |.ref p=>(T="list"/\∃b,bR K H p b)\/(T="tuple"/\∃o,K.lookup p=À o/\o.cls=.type "tuple"/\o.dict=Á) \/
   (T="dict"/\((∃a,H p=À (.dK a))\/∃a,H p=À (.dT a)))\/(T="set"/\∃S n,H p=À (.set S n))
 |_=>False
theorem wQ(I:Inv X Oa σ H s)(r:RelV x v)(d:wR X.K T x H) :
  s.TypeIs v T/\∀a,v=.ref a->∃ob,s.heap.get? a=À ob/\ob.dict=Á:=by
 cases x with
 |str z =>
  obtain ⟨t,rfl⟩:=r;cases (show T="str" from d);exact ⟨typeIs_str s z t,fun _ e=>nomatch e⟩
 |int i =>
  obtain ⟨t,rfl⟩:=r;cases (show T="int" from d);exact ⟨T6 s i t,fun _ e=>nomatch e⟩
 |ref p =>
  cases r;rcases d with⟨rfl,l,h⟩|⟨rfl,o,b,j,hd⟩|⟨rfl,b⟩|⟨rfl,S,n,b⟩
  ·obtain⟨m,_,g,_⟩:=I.list h
   refine⟨g.isList.typeIs,fun a e=>?_⟩;cases e;obtain⟨o,n,e,c,hd,_⟩:=g;exact⟨o,e,hd⟩
  ·refine⟨⟨o,I.kIn p o b,j⟩,fun a e=>?_⟩
   cases e;exact⟨o,I.kIn _ o b,hd⟩
  ·have z:∃o,s.heap.get? p=À o/\o.ExactDict:=by
    rcases b with⟨k,b⟩|⟨k,b⟩
    ·obtain⟨_,_,_,_,o,_,_,e,ex,_⟩:=I.Oi p _ b
     exact⟨o,e,ex⟩
    ·obtain⟨_,_,_,_,o,_,_,e,ex,_⟩:=I.Oi p _ b
     exact⟨o,e,ex⟩
   obtain⟨o,e,ex⟩:=z;refine⟨⟨o,e,ex.1⟩,fun a f=>?_⟩;cases f;exact⟨o,e,ex.2.1⟩
  ·obtain⟨o,_,_,_,e,ex,_⟩:=I.Oi p _ b
   refine⟨⟨o,e,ex.1⟩,fun a f=>?_⟩;cases f;exact⟨o,e,ex.2.1⟩
 |_=>exact False.elim d
def Lv(K:á)(T:String)(r:V->List V->Hp->VK->Prop)(to:TE):TE:=fun b H Q=>to b H fun x a=>wR K T x a/\r x [] a Q
def Kl(K:á)(T:String)(r:V->List V->Hp->VK->Prop)(to:TE)(t:TA):TE:=fun a H Q=>to a H fun x b=>wR K T x b/\t a b fun c d=>r x c d Q
variable{o e:Î}{es:List Î}{to:TE}{t:TA}{name:Ì}{apos cpos:ġ}{T id:String}{r:V->List V->Hp->VK->Prop}
theorem Gs(m:y? T)(c:Slot T name id)(d:typeOf (.builtin id)=pure (.type "method_descriptor"))(p:lT X id r)(n:PE X o to)
  (b:autoParam (ę o name X.env (eval o X.env)=eval o X.env) Ax2._auto_1) (a:autoParam ((apos.endLine==cpos.line)=Â) Ax2._auto_1):PE X (.Call (.Attribute o name apos) [] [] cpos) (Lv X.K T r to):=by
 intro g s f H Q I h;refine wpAny_Call_method0_late b a (aD (n g s f H _ I h) fun v k e=>?_);obtain⟨x,u,i,r1,j,l⟩:=e;obtain⟨t,q⟩:=wQ i r1 j;exact⟨T,id,m,c,d,t,q,Calls.callWith_builtin rfl (PySem.evalArgs_none (p g k f u x [] v [] Q i r1 .nil l))⟩
theorem Jc(A:y? T)(d:Slot T name id)(i:typeOf (.builtin id)=pure (.type "method_descriptor"))(D:lT X id r)(C:PE X o to)(E:PA X (e::es) t)
  (c:autoParam (ę o name X.env (eval o X.env)=eval o X.env) Ax2._auto_1)
  (f:autoParam (((ø cpos (Ê (e::es) X.env)).all (fun x=>!x.1)&&(Ń cpos (Ĕ [] X.env)).all (fun x=>x.1.isSome)
   && decide ((e::es).length+([]:List ń).length+(if([]:List ń).isEmpty then 0 else 1)<30))=Â) Ax2._auto_1)
  (b:autoParam ((apos.endLine==cpos.line)=Â) Ax2._auto_1) (B:autoParam (Ê (e::es) X.env=(Ä,eval e X.env)::Ê es X.env) Ax2._auto_1) (a:autoParam ((ø cpos (Ê es X.env)).any (·.1)=Ä) Ax2._auto_1) :
  PE X (.Call (.Attribute o name apos) (e::es) [] cpos) (Kl X.K T r to t):=by
 intro k s g H Q I h;refine wpAny_Call_method_late c f b rfl (aD (C k s g H _ I h) fun v w j=>?_);obtain⟨x,L,m,r1,q,z⟩:=j;obtain⟨G,F⟩:=wQ m r1 q;refine⟨T,id,A,d,i,G,F,?_⟩;have l:=E cpos k w g L _ m z;rw[B]at l ⊢;refine Calls.callWith_builtin (by show(Ä||(ø cpos (Ê es X.env)).any (·.1))=Ä;rw[a]<;>rfl) (Calls.evalArgs_plain ?_);exact aD l fun p u ⟨n,K,J,r2,y⟩=>D k u g K x n v p Q J r1 r2 y
end
def CW(X:Cx)(id:String)(r:V->List V->Hp->VK->Prop):Prop :=
 ∀(d:List (Ç×Obj))(s:É)(a:St)(H:Hp)(x:V)(b:List V)(v:Å)(c:List Å)(Q:VK),Inv X d a H s->RelV x v->Vals b c->r x b H Q ->
  Í (model X.prog X.w) X.A (call (.builtin id) (v::c)) (EP X d a Q) X.xe s
theorem Vals.one{x:V}{us:List Å}(h:Vals [x] us):∃u,us=[u]/\RelV x u:=by
 cases h with
 |cons r h=>cases h;exact⟨_,rfl,r⟩
theorem Vals.zero:∀{us:List Å},Vals [] us->us=[]
 |_,.nil=>rfl
theorem Vals.dropLast(h:Vals xs us):Vals xs.dropLast us.dropLast:=by
 induction h with
 |nil=>exact .nil
 |cons r t a =>
  cases t with
  |nil=>exact .nil
  |cons q b=>exact .cons r a
theorem Vals.rep(h:Vals xs us):∀k:Nat,Vals (È k xs).flatten (È k us).flatten
 |0=>.nil
 |k+1=>by
  rw[è,è,č,č];exact Vals.append h (Vals.rep h k)
theorem wy{α:Type}(l:List α):l.eraseIdx (l.length-1)=l.dropLast:=by
 induction l with
 |nil=>rfl
 |cons a r c =>
  cases r with
  |nil=>rfl
  |cons b r =>
   have e:(a::b::r).length-1=((b::r).length-1)+1:=by
    have f:(a::b::r).length=r.length+2:=rfl;have d:(b::r).length=r.length+1:=rfl;lia
   rw[e,List.eraseIdx_cons_succ,c]
   all_goals rfl
theorem qu(Oe:List Å):∀(k:Nat)(acc:List Å),
  M? (fun x1 x2=>x1++x2) acc.toArray (È k Oe.toArray)=(acc++(È k Oe).flatten).toArray
 |0,acc=>by simp
 |k+1,acc=>by
  have e:acc.toArray++Oe.toArray=(acc++Oe).toArray:=by simp
  have a:(acc++Oe)++(È k Oe).flatten=acc++(È (k+1) Oe).flatten:=by
   rw[è,č,yN]
  rw[<- a,<- qu Oe k (acc++Oe),<- e,è,Ō]
section
variable{X:Cx}{Oa:List (Ç×Obj)}{σ:St}{H:Hp}{s:É}{l b:Ç}{xs ys zs:List V}
theorem Inv.lset{Oe its':List Å}{n:Nat}{f:Array Å->Array Å}{t':Nat}(I:Inv X Oa σ H s)(g:H l=À (.lst xs))
  (e:s.heap.get? l=À { cls:=.type "list",data:=.seq Oe.toArray n }) (c:f Oe.toArray=its'.toArray) (a:Vals ys its') (hz:ys.length<=Ë) :
  Inv X Oa σ (ah H l (.lst ys)) { s with heap:=s.heap.update l (ğ f),toks:=t' }:=by
 have q:=PySem.IsL.update e f;rw[c]at q;refine I.write (x:=l) (e:=l) (by rw[g];exact trivial) (.inl rfl) (fun h u d b=>(p! s.heap (ğ f) (ã d)).trans b) ⟨_,q⟩ ?_;exact⟨hz,its',_,a,q⟩
theorem Inv.lnew{t':Nat}(I:Inv X Oa σ H s)(a:Vals ys Oe)(hz:ys.length<=Ë) :
  Inv X Oa σ (ah H s.heap.objs.size (.lst ys)) { s with heap:=s.heap.push { cls:=.type "list",data:=.seq Oe.toArray },toks:=t' } :=
 I.laid (fun _ _ q=>zG _ q) (zP _) ⟨hz,Oe,0,a,zY _ rfl⟩
theorem Inv.fresh(I:Inv X Oa σ H s):H s.heap.objs.size=Á:=I.Oi.fresh (zP _)
theorem Inv.lstM(I:Inv X Oa σ H s)(a:H l=À (.lst xs)):xs.length<=Ë/\∃(Oe:List Å)(n:Nat),Vals xs Oe/\xs.length=Oe.length/\s.heap.get? l=À { cls:=.type "list",data:=.seq Oe.toArray n }:=by
 obtain⟨z,Oe,n,r,e⟩:=I.Oi l _ a;exact⟨z,Oe,n,r,r.length,e⟩
theorem notLongL{n:Nat}(h:n<=Ë):ñ n=Ä:=by
 unfold ñ;exact yA oM
end
section
variable{X:Cx}
def Dp:V->List V->Hp->VK->Prop:=fun x b H Q=>∃l a y,x=.ref l/\b=[y]/\H l=À (.lst a)/\a.length<Ë/\Q .non (ah H l (.lst (a++[y])))
theorem qj:CW X "list.append" Dp:=by
 intro m s f H x i v j Q I rx c h;obtain⟨l,g,y,rfl,rfl,a,hz,q⟩:=h;cases rx;obtain⟨u,rfl,d⟩:=c.one;obtain⟨z,b,n,r,k,e⟩:=I.lstM a;refine ŏ F.slot_list_append ⟨_,e,rfl⟩ F.entry_list_append (F.args_list_append_2 _ _) (PySem.list_append l b.toArray n u (by rw[zI];lia)) ⟨e,?_⟩;refine⟨.non,_,I.lset (its':=b++[u]) a e (by simp) (r.append (.cons d .nil)) ?_,rfl,q⟩;rw[zV,Ý];lia
def LF:V->List V->Hp->VK->Prop:=fun x b H Q=>∃l a y,x=.ref l/\b=[]/\H l=À (.lst a)/\a[a.length-1]?=À y/\Q y (ah H l (.lst a.dropLast))
theorem GN:CW X "list.pop" LF:=by
 intro w s m H x p v t Q I rx f h;obtain⟨l,o,y,rfl,rfl,d,i,q⟩:=h;cases rx;have c:=f.zero;subst c;obtain⟨z,a,n,r,k,e⟩:=I.lstM d;obtain⟨u,j,g⟩:=r.get i;have b:a.toArray[a.toArray.size-1]?=À u:=by
  show a.toArray[a.length-1]?=À u;rw[<- q?,<- k];exact j
 refine ŏ F.slot_list_pop ⟨_,e,rfl⟩ F.entry_list_pop (F.args_list_pop_1 _) (MeetsSeq.list_pop_last l a.toArray n u b (by rw[zI];lia)) ⟨e,?_⟩;refine⟨y,_,I.lset (its':=a.dropLast) d e ?_ r.dropLast ?_,g,q⟩
 ·show a.toArray.eraseIdxIfInBounds (a.toArray.size-1)=a.dropLast.toArray
  rw[zI,List.eraseIdxIfInBounds_toArray,wy]
 ·rw[List.length_dropLast]
  lia
def FA:V->List V->Hp->VK->Prop:=fun x b H Q=>∃l a,x=.ref l/\b=[]/\H l=À (.lst a)/\Q .non (ah H l (.lst []))
theorem A8:CW X "list.clear" FA:=by
 intro m s f H x i v j Q I rx c h;obtain⟨l,g,rfl,rfl,b,q⟩:=h;cases rx;have a:=c.zero;subst a;obtain⟨z,d,n,r,k,e⟩:=I.lstM b;refine ŏ F.slot_list_clear ⟨_,e,rfl⟩ F.entry_list_clear (F.args_list_clear_1 _) (AutoSeq1.list_clear_list_0 l d.toArray n (by rw[zI];lia)) ⟨e,?_⟩;exact⟨.non,_,I.lset (its':=[]) (ys:=[]) b e rfl .nil (û _),rfl,q⟩
def LD:R2:=fun x y H Q=>∃l k a,x=.ref l/\y=.int k/\H l=À (.lst a)/\-(2^63)<=k/\k<2^63/\a.length*k.toNat<=Ë /\
 ∀p,H p=Á->Q (.ref p) (ah H p (.lst (È k.toNat a).flatten))
theorem Eo{α:Type}(xs:List α)(k:Nat):(È k xs).flatten.length=k*xs.length:=by
 induction k with
 |zero=>simp
 |succ k a=>rw[è,č,zV,a,z!,Nat.add_comm]
theorem Gy:lS X (Ŵ .Mult) LD:=by
 intro L s G H x y v u Q I rx w h;obtain⟨l,k,J,rfl,rfl,B,D,C,hz,q⟩:=h;cases rx;obtain⟨t,rfl⟩:=w;obtain⟨z,b,n,r,A,e⟩:=I.lstM B;have f:b.toArray.size*k.toNat<=Ë:=by rw[zI,<- A];exact hz
 have i:¬b.toArray.size*k.toNat > (2^63-1)/8:=by
  have:(Ë:Nat)<=(2^63-1)/8:=by decide
  lia
 have g:¬(!Builtin.List.listFitsIndex k)=Â:=by
  rw[fitsIndex_both D C];exact Ĝ
 have c:¬ñ (b.toArray.size*k.toNat)=Â:=by
  rw[notLongL f];exact Ĝ
 have d:M? (fun o j=>o++j) #[] (È (if b.toArray.isEmpty=Â then 0 else k.toNat) b.toArray)=(È k.toNat b).flatten.toArray:=by
  have E:∀m:Nat,M? (fun o j=>o++j) #[] (È m b.toArray)=(È m b).flatten.toArray:=fun m=>by
   have:=qu b m []
   rw[List.nil_append]at this;exact this
  rw[E];cases b with
  |nil=>simp
  |cons a K=>rw[yH (by simp)]
 refine wpAny_binaryOp_repeat_ref (T:="list") (U:="int") dC ⟨_,e,rfl⟩ (fun p=>T6 p k t) noFill_list_mul F.fills_int_mul F.slot_int_rmul repeat_list F.slot_int_index.lookup
  (ŏ F.slot_int_rmul (T6 s k t) F.entry_int_rmul (F.args_int_rmul_2 _ _) (int___rmul___int_list k t l b.toArray n)
   ⟨e,rfl,⟨_,e,rfl⟩,ŏ F.slot_list_mul ⟨_,e,rfl⟩ F.entry_list_mul (F.args_list_mul_2 _ _) (AutoListH.list___mul___list_int_3 l b.toArray n k t g i c) ⟨e,?_⟩⟩)
 rw[d];exact⟨.ref _,_,I.lnew (t':=s.toks) (r.rep k.toNat) (by rw[Eo,Nat.mul_comm];exact hz),rfl,q _ I.fresh⟩
end
end L2
namespace Att
open PySem PySem.W PySem.Calls PyProof.Rows
theorem oC:∀(ns:List Int)(vs:List Å),WellAll P h vs (ns.map WData.int)->Ÿ vs ns:=by
 intro ns
 induction ns with
 |nil =>
  intro vs w;rw[ϙ]at w;cases w;exact .nil
 |cons n ns c =>
  intro vs w;rw[zO]at w;cases w with
  |cons a b =>
   cases a;exact .cons _ _ (c _ b)
theorem xh{l:OpenLaw}{n:Nat}(s:l.most=À n){P:Params}{h:ä}{args:List WData}{b:List Å}
  (c:l.row.toRowW.claim.pre args=Â) (i:WellAll P h b args) :
  ∃a vs ns,b=[ì a]/\args=[WData.list (ns.map WData.int)]/\h.get? a=À { cls:=.type "list",data:=.seq vs.toArray }/\Ÿ vs ns/\ns.length<=n:=by
 have j:WShape.hasAll [] args [.list .int]=Â:=(pre_splitW c).1;have k:l.pre.holds [] { args:=args }=Â:=(pre_splitW c).2;obtain⟨d,r,rfl,v,u⟩:=hasAllW_cons j;obtain rfl:=hasAllW_nil u;obtain⟨w,rfl,t⟩:=hasW_list v;obtain⟨ns,rfl⟩:=items_int t;have e:ns.length<=n:=by
  unfold OpenLaw.pre at k;have g:(WTm.not (.lt (.lit (.int (n:Int))) (.len (.arg 0)))).holds [] { args:=[.list (ns.map .int)] }=Â:=by
   have g:=(holds_andW k).1;rw[s]at g;exact g
  have f:=condW_of g (w_not (w_lt w_lit (w_len_list (w_arg rfl))));rw[zH]at f;refine S! fun q=>?_
  have p:(n:Int)<((ns.length:Nat):Int):=by lia
  first
   | (rw [yW p] at f;exact absurd f dC)
   | (simp at f;lia)
 cases i with
 |cons o m =>
  cases m;cases o with
  |list ho hall=>exact⟨_,_,ns,rfl,rfl,ho,oC ns _ hall,e⟩
theorem xx(l:OpenLaw)(args:List WData):l.row.toRowW.claim.post args (.bool Â) args=Â :=
 postW_of (r:=l.row.toRowW) (X:=(Â==Â))
  (show WShape.has [] (.bool Â) .bool=Â by first | rfl | decide | simp [WShape.has,WShape.arms,WShape.armsAll])
  (show (WTm.eq .res (.lit (.bool Â))).value [] { args:=args,res:=À (.bool Â),after:=args }=À (.bool (Â == Â)) from w_eq_bool (w_res rfl) w_lit) rfl
theorem attach_call{l:OpenLaw}{n:Nat}{q:Ò}{bZ:List Ì}{v:(Ì->Option Å)->ä->Prop}{u:Û->ä->Prop}{d:DefRec}
  (A:l.most=À n) (j:d.params.defaults=[])
  (call:∀(w:Û)(s₀ s₁:É)(mg mb:Ì->Option Å)(fa:Ç)(o:W?)(pm cd doc:Å)(a:Ç)(vs:List Å)(ns:List Int),
   Ground q bZ [] v w s₀ mg mb s₁.heap->u w s₁.heap ->
   s₁.heap.get? fa=À o->o.data=.func (docDef d.name d.params d.body d.scope pm cd doc)->s₁.heap.CodeRec cd d.name->mg d.name=À (.ref fa) ->
   s₁.heap.get? a=À { cls:=.type "list",data:=.seq vs.toArray }->Ÿ vs ns->ns.length<=n->s₁.gens=#[] ->
   ł (model l.prog w) ŷ (.call (.ref fa) ⟨[.ref a],[]⟩) (fun r s'=>r=.ok (.ret (.bool Â))/\OldK s₁.heap s'.heap/\s'.os=s₁.os/\ź s'.gens) s₁) :
  WalkO q bZ v u l.row.toRowW d [] (fun f vs=>F? f vs):=by
 intro w s₀ s₁ mg mb G Y fa o pm cd doc I kV z hd k s i D t m J c p x h C;obtain rfl:I=.none:=Dflts.none s j;obtain rfl:kV=.none:=Dflts.noKw s;obtain⟨a,vs,ns,rfl,rfl,e,b,g⟩:=xh A c h;refine enter_call (ř (call w s₀ s₁ mg mb fa o pm cd doc a vs ns G Y z (fd_plain hd) k i e b g D) fun r s' y=>?_);obtain⟨rfl,H,F,E⟩:=y;exact⟨.inl ⟨.bool Â,.bool Â,[],rfl,fun _=>rfl,.bool Â,xx l _,fun _=>⟨ů,fun _ B=>(nomatch B)⟩⟩,H,F,E⟩
end Att
namespace L2
open PySem PySem.Spec PyProof.Rows
theorem wO:∀{vs:List Å}{ns:List Int},Ÿ vs ns->Vals (ns.map V.int) vs:=by
 intro vs ns h
 induction h with
 |nil=>exact .nil
 |cons n t h a=>exact .cons ⟨t,rfl⟩ a
noncomputable def cJ(s:ĸ):Ϛ:=match s with
 |.FunctionDef _ a _ _ _ _ _ _ _ _=>a
 |_=>{ posonlyargs:=[],args:=[],vararg:=Á,kwonlyargs:=[],kw_defaults:=[],kwarg:=Á,defaults:=[] }
noncomputable def cH(s:ĸ):List ĸ:=match s with
 |.FunctionDef _ _ b _ _ _ _ _ _ _=>b
 |_=>[]
noncomputable def bN(s:ĸ):ĝ:=match s with
 |.FunctionDef _ _ _ _ _ _ sc _ _ _=>sc
 |_=>{ kind:=.function,names:=[],isGenerator:=Ä,isCoroutine:=Ä }
abbrev fx:lV:=fun _ _ _ _ _ _=>False
abbrev E0:XK:=fun _ _ _=>False
theorem oi:iu fx X E0:=fun _ _ _ _ _ _ _ h=>h.elim
structure Fun(K:á)(x qual:Ì)(st:ĸ)(f:Ç)(fd:ĕ):Prop where
 ex:∃(oc:Å)(od:Option Ç)(kV doc pm:Å)(an:Option Ç)(cdv ct:Å)(osl:Array (Option Å)),
  fd=fnOf x qual (cJ st) (cH st) (bN st) .none kV doc pm an cdv ct/\K.lookup f=À ⟨oc,od,.func fd,osl⟩/\ϑ K cdv qual=Â
 kp:Ĵ K (.ref f)=Â
section
variable{P:Ò}{w:Û}{K:á}{mg:Ì->Option Å}{base:ä}
theorem Fun.binds{x qual:Ì}{st:ĸ}{f:Ç}{fd:ĕ}{ps:List Ì}(F:Fun K x qual st f fd)
  (h:∀(kV doc pm:Å)(an:Option Ç)(cdv ct:Å)(us:List Å),us.length=ps.length->w? (fnOf x qual (cJ st) (cH st) (bN st) .none kV doc pm an cdv ct) ⟨us,[]⟩=pure (ps.zip us)):Binds K fd ps []:=by
 obtain⟨d,c,kV,doc,pm,an,cdv,ct,a,rfl,lk,b⟩:=F.ex;exact .all (h kV doc pm an cdv ct)
theorem oY{x qual:Ì}{st:ĸ}{f:Ç}{h:Å}{g e:Option Ç}{d:Array (Option Å)}{kV b pm a ct:Å}(l:K.lookup f=À ⟨h,g,.func (fnOf x qual (cJ st) (cH st) (bN st) .none kV b pm e a ct),d⟩)
  (c:ϑ K a qual=Â) (k:Ĵ K (.ref f)=Â):Fun K x qual st f (fnOf x qual (cJ st) (cH st) (bN st) .none kV b pm e a ct):=⟨⟨h,g,kV,b,pm,e,a,ct,d,rfl,l,c⟩,k⟩
end
theorem qc{n:Nat}(h:n<=1000):n<Ë:=yM h dC
end L2
set_option maxHeartbeats 4000000
namespace DD
open PySem PySem.Spec PyProof.Rows L2
abbrev St:=L2.St
section
variable{X:Cx}{e:Î}{es:List Î}{st:ĸ}{sts:List ĸ}
theorem PE_imp(h:PE X e t)(i:∀σ H Q,t' σ H Q->t σ H Q):PE X e t':=fun b s σ H Q I a=>h b s σ H Q I (i σ H Q a)
theorem PT_imp(h:PT X e t)(i:∀σ H Q,t' σ H Q->t σ H Q):PT X e t':=fun b s σ H Q I a=>h b s σ H Q I (i σ H Q a)
theorem PW_imp(h:PW X e t)(i:∀σ H Q,t' σ H Q->t σ H Q):PW X e t':=fun a c s σ H Q I b=>h a c s σ H Q I (i σ H Q b)
theorem PA_imp(h:PA X es t)(i:∀σ H Q,t' σ H Q->t σ H Q):PA X es t':=fun p b s σ H Q I a=>h p b s σ H Q I (i σ H Q a)
theorem PS_imp(h:PS X st t)(i:∀D σ H,t' D σ H->t D σ H):PS X st t':=fun b s σ H D I a=>h b s σ H D I (i D σ H a)
theorem PSs_imp(h:PSs X sts t)(i:∀D σ H,t' D σ H->t D σ H):PSs X sts t':=fun b s σ H D I a=>h b s σ H D I (i D σ H a)
theorem OpR_imp(h:lS X f r)(i:∀x y H Q,r' x y H Q->r x y H Q):lS X f r':=fun e s c H x y v u Q I a b d=>h e s c H x y v u Q I a b (i x y H Q d)
end
theorem PG_imp(h:PG X tg t)(i:∀v σ H Q,t' v σ H Q->t v σ H Q):PG X tg t':=fun c s σ H v u Q I a b=>h c s σ H v u Q I a (i v σ H Q b)
end DD
namespace L2
open PySem PySem.Spec PyProof.Rows
theorem pe:∀(names:List (Ì×NameKind))(n:Nat)(acc:List (Ì×Addr)),∃own,Ē n names acc=own++acc/\(∀p∈own,n<=p.2/\(p.1,Ě)∈names) /\
  (∀x,(x,Ě)∈names->∃c,(x,c)∈own)/\own.Pairwise fun x y=>x.2≠y.2
 |[],n,acc=>⟨[],rfl,(fun _ h=>by cases h),(fun _ h=>by cases h),ů⟩
 |(name,kind)::r,n,acc=>by
  unfold Ē;by_cases hk:kind=.cell
  ·subst hk
   obtain⟨own,e,h1,h2,h3⟩:=pe r (n+1) ((name,n)::acc);refine⟨own++[(name,n)],?_,?_,?_,?_⟩
   ·rw[yI dC,e,yN];rfl
   ·intro p f
    rcases zZ.mp f with f|f
    ·exact⟨Ď (h1 p f).1,zQ _ (h1 p f).2⟩
    ·rw[zM.mp f];exact⟨zP _,z7⟩
   ·intro x d
    rcases zT.mp d with d|d
    ·cases d;exact⟨n,zK _ z7⟩
    ·obtain⟨c,j⟩:=h2 x d;exact⟨c,zL _ j⟩
   ·refine List.pairwise_append.mpr ⟨h3,List.pairwise_singleton _ _,fun a l b k e=>?_⟩
    rw[zM.mp k]at e;have i:=(h1 a l).1;rw[show a.2=n from e]at i;exact absurd i (Nat.not_succ_le_self n)
  ·obtain⟨own,e,h1,h2,h3⟩:=pe r n acc
   have g:(kind==Ě)=Ä:=by cases kind<;>first|rfl|exact absurd rfl hk
   refine⟨own,by rw[g];exact e,fun p f=>⟨(h1 p f).1,zQ _ (h1 p f).2⟩,fun x d=>?_,h3⟩;rcases zT.mp d with d|d
   ·cases d;exact absurd rfl hk
   ·exact h2 x d
theorem kE(h:∀x,(x,Ú)∈scope.names->∃c,env.cells.lookup x=À c) :
  ∃cl,T9 scope env=pure cl/\(∀p∈cl,env.cells.lookup p.1=À p.2)/\∀x,(x,Ú)∈scope.names->∃c,(x,c)∈cl:=by
 have all:∀(a:List (Ì×NameKind))(b:List (Ì×Addr)),(∀x,(x,Ú)∈a->∃c,env.cells.lookup x=À c)->(∀p∈b,env.cells.lookup p.1=À p.2) ->
   ∃cl,(forIn (m:=V9) a b fun(p:Ì×NameKind)(w:List (Ì×Addr))=>if(p.2==Ú)=Â then do let f <- cellOf env p.1;pure (ĭ ((p.1,f)::w)) else pure (ĭ w))=pure cl /\
    (∀p∈cl,env.cells.lookup p.1=À p.2)/\(∀p∈b,p∈cl)/\∀x,(x,Ú)∈a->∃c,(x,c)∈cl:=by
  intro a
  induction a with
  |nil=>intro b _ n;exact⟨b,by rw[T?],n,fun _ h=>h,(fun _ h=>by cases h)⟩
  |cons p r u =>
   obtain⟨g,i⟩:=p;intro b q n;by_cases t:i=.free
   ·subst t
    obtain⟨c,v⟩:=q g z7;obtain⟨cl,e,l,o,k⟩:=u ((g,c)::b) (fun x d=>q x (zQ _ d)) (fun p j=>by
     rcases zT.mp j with rfl|j
     ·exact v
     ·exact n p j)
    refine⟨cl,?_,l,fun p j=>o p (zQ _ j),fun x d=>?_⟩
    ·rw[S6]
     have y:cellOf env g=pure c:=by unfold cellOf;rw[v]
     simp only[y];exact e
    ·rcases zT.mp d with d|d
     ·cases d;exact⟨c,o _ z7⟩
     ·exact k x d
   ·obtain⟨cl,e,l,o,k⟩:=u b (fun x d=>q x (zQ _ d)) n
    have s:(i==Ú)=Ä:=by cases i<;>first|rfl|exact absurd rfl t
    refine⟨cl,?_,l,o,fun x d=>?_⟩
    ·rw[S6];simp only[s,yB,if_false];exact e
    ·rcases zT.mp d with d|d
     ·cases d;exact absurd rfl t
     ·exact k x d
 obtain⟨cl,e,l,_,k⟩:=all scope.names [] h (fun _ h=>by cases h);refine⟨cl,?_,l,k⟩;simp only[T9];rw[e];rfl
theorem A5
  (e:Q (T7 scope s.heap.objs.size env.globals (Ē (s.heap.objs.size+1) scope.names cl) env.qual Á .none (À env) Ę) { s with heap:=ų (s.heap.push { cls:=.type "dict",data:=.dict #[] }) scope.names }) :
  Í M A (v! scope env.globals cl [] env.qual Á .none (À env)) Q E s:=by
 simp only[v!,ſ,if_true];refine yF (wpAny_alloc ?_);refine yF (wpAny_layCells _ (fun d a c=>by cases b:a==Ě<;>simp[b]) _ _ _ _ ?_);rw[show({ s with heap:=s.heap.push { cls:=.type "dict",data:=.dict #[] } }:É).heap.objs.size=s.heap.objs.size+1 from ĥ ..];refine yF ?_;rw[T?];exact yG (yG e)
def cC(X:Cx)(N':List Ì)(scope:ĝ)(cl:List (Ì×Addr))(s:É)(H:Hp)(a:List Ç)(Oa:List (Ç×Obj)):Cx :=
 { X with N:=N',s₀:=s,H₀:=H,env:=compEnvC scope (Ē (s.heap.objs.size+1) scope.names cl) s.heap.objs.size X.env,outer:=X.stack,stack:=X.stack,ex:=a,
          fn:=fun x=>scope.names.lookup x==À .cell,pn:=X.pn++Oa,xe:=fun _ _=>False }
structure jJ(X:Cx)(N':List Ì)(scope:ĝ):Prop where
 kind:scope.kind=.function
 nd:(scope.names.map (·.1)).Nodup
 len:X.N.length<=N'.length
 free:∀x,(x,Ú)∈scope.names->X.env.kindOf x=À .cell\/X.env.kindOf x=À .free
 same:∀i x,i<X.N.length->N'[i]?=À x->(x,Ú)∈scope.names->X.N[i]?=À x
 hid:∀i x,i<X.N.length->N'[i]?=À x->(∃k,(x,k)∈scope.names)->(x,Ú)∈scope.names
theorem c5{α:Type}:∀{l:List (Ì×α)}{x:Ì}{k:α},(l.map (·.1)).Nodup->(x,k)∈l->l.lookup x=À k
 |(y,j)::r,x,k,nd,h=>by
  rw[zO,ĺ]at nd;rcases zT.mp h with h|h
  ·cases h;rw[yO];simp
  ·have ne:x≠y:=fun e=>nd.1 (e▸ϊ (f:=(·.1)) h)
   rw[yO];have:(x==y)=Ä:=by simpa using ne
   rw[this];exact c5 nd.2 h
theorem gi{α:Type}:∀{l:List (Ì×α)}{x:Ì}{k:α},(x,k)∈l->∃k',l.lookup x=À k'
 |(y,j)::r,x,k,h=>by
  rw[yO];cases hb:x==y with
  |true=>exact⟨j,rfl⟩
  |false =>
   rcases zT.mp h with h|h
   ·cases h;simp at hb
   ·exact gi h
theorem g8(h:(relabel scope env).names.lookup x=À k):(x,k)∈scope.names\/((x,Ú)∈scope.names/\k=.cell):=by
 have b:=mem_of_lookup h;unfold relabel at b;obtain⟨⟨n,j⟩,a,e⟩:=yD.mp b;dsimp only at e;split at e
 ·rename_i c
  cases e;refine .inr ⟨?_,rfl⟩;have:j=.free:=by
   cases j<;>simp at c<;>rfl
  subst this;exact a
 ·cases e;exact .inl a
theorem qL{α:Type}{a b:List (Ì×α)}(h:∀p∈a,p.1≠x):(a++b).lookup x=b.lookup x:=by
 induction a with
 |nil=>rfl
 |cons p r c =>
  obtain⟨y,j⟩:=p;rw[Ϣ,yO];have:(x==y)=Ä:=by
   have:=h (y,j) z7
   simpa using fun e:x=y=>this e.symm
  rw[this];exact c fun p d=>h p (zQ _ d)
section
variable{X:Cx}{N':List Ì}{scope:ĝ}{cl:List (Ì×Addr)}{s:É}{H:Hp}{fp:List Ç}{Oa:List (Ç×Obj)}{σ:St}
theorem BJ(T:jJ X N' scope)(I:Inv X Oa σ H s)(O:∀p∈cl,X.env.cells.lookup p.1=À p.2)(Z:∀x,(x,Ú)∈scope.names->∃c,(x,c)∈cl)
  (hf:∀b∈fp,dW X Oa H b) (ho:∀b∈fp,∃o,s.heap.get? b=À o) :
  Inv (cC X N' scope cl s H fp Oa) [] (σ++È (N'.length-X.N.length) Á) H { s with heap:=ų (s.heap.push { cls:=.type "dict",data:=.dict #[] }) scope.names }:=by
 obtain⟨g,N,o1,o2,o3⟩:=pe scope.names (s.heap.objs.size+1) cl;have B:∀b o,s.heap.get? b=À o->(ų (s.heap.push { cls:=.type "dict",data:=.dict #[] }) scope.names).get? b=À o:=fun b o e=>k? _ _ b o (zG _ e)
 have clt:∀x c,(x,c)∈cl->c<s.heap.objs.size:=fun x c h=>by
  obtain⟨v,z⟩:=I.cell x c (O _ h);exact z.lt
 have f:∀x c,(g++cl).lookup x=À c->(s.heap.objs.size+1<=c/\(x,c)∈g)\/X.env.cells.lookup x=À c:=fun x c h=>by
  rcases zZ.mp (mem_of_lookup h) with h|h
  ·exact .inl ⟨(o1 _ h).1,h⟩
  ·exact .inr (O _ h)
 have hst:∀b∈fp,b∉jV X.stack:=fun b J z=>by
  rcases zT.mp (I.stkSub b z) with e|e
  ·exact(hf b J).2.1 e
  ·exact(hf b J).2.2.1 e
 have okc:CellsOk (ų (s.heap.push { cls:=.type "dict",data:=.dict #[] }) scope.names) (s.heap.objs.size+1) (Ē (s.heap.objs.size+1) scope.names []):=by
  have q:=cellsFrom_ok scope.names (s.heap.push { cls:=.type "dict",data:=.dict #[] }) (s.heap.objs.size+1) [] ⟨(fun _ _ Y=>by cases Y),ů⟩ (by rw[ĥ];exact zP _);rw[ĥ]at q;exact q
 have eown:Ē (s.heap.objs.size+1) scope.names []=g:=by
  obtain⟨own',e',_⟩:=pe scope.names (s.heap.objs.size+1) [];have R:∀(A:List (Ì×NameKind))(n:Nat)(D:List (Ì×Addr)),Ē n A D=Ē n A []++D:=by
   intro A
   induction A with
   |nil=>intro n D;rfl
   |cons p r V =>
    obtain⟨F,U⟩:=p;intro n D;unfold Ē;split
    ·rw[V (n+1) ((F,n)::D),V (n+1) [(F,n)],yN];rfl
    ·exact V n D
  have:=R scope.names (s.heap.objs.size+1) cl
  rw[N]at this;exact(List.append_cancel_right this).symm
 have ok:(cC X N' scope cl s H fp Oa).Ok:=by
  refine⟨I.ok.mod,T.kind,I.ok.glob,I.ok.blt,zP _,fun x y c h1 L=>?_,fun x h=>?_,fun x c h1 L=>?_,I.ok.hd,I.ok.frames,.inl rfl,fun b J=>⟨?_,fun x c h=>?_⟩,I.bs,z5 I.ok.bsz I.sz,fun b o e J=>?_,hst,I.stack,I.stkFree⟩
  ·have h1:(g++cl).lookup x=À c:=N▸h1
   have L:(g++cl).lookup y=À c:=N▸L;rcases f x c h1 with⟨K,S⟩|E
   ·rcases f y c L with⟨l2,m2⟩|M
    ·exact name_of_addr o3 S m2
    ·obtain⟨v,z⟩:=I.cell y c M
     exact absurd (zJ z.lt (Ď (by first|exact l2|exact K))) (xB _)
   ·rcases f y c L with⟨l2,m2⟩|M
    ·obtain⟨v,z⟩:=I.cell x c E
     exact absurd (zJ z.lt (Ď (by first|exact l2|exact K))) (xB _)
    ·exact I.ok.inj x y c E M
  ·show ∃c,(Ē (s.heap.objs.size+1) scope.names cl).lookup x=À c
   rw[N];have w:(x,Ú)∈scope.names->∃c,(g++cl).lookup x=À c:=fun Y=>by
    obtain⟨c,Q⟩:=Z x Y;exact gi (zK g Q)
   have C:(x,Ě)∈scope.names->∃c,(g++cl).lookup x=À c:=fun Y=>by
    obtain⟨c,Q⟩:=o2 x Y;exact gi (zL cl Q)
   rcases h with h|h
   ·rcases g8 h with h|⟨h,_⟩
    ·exact C h
    ·exact w h
   ·rcases g8 h with h|⟨h,e⟩
    ·exact w h
    ·cases e
  ·have L:(g++cl).lookup x=À c:=N▸L
   have Q:scope.names.lookup x=À .cell:=by
    have:(scope.names.lookup x==À Ě)=Â:=h1;simpa using this
   rcases f x c L with⟨K,S⟩|E
   ·exact Ď K
   ·-- x is one of the block's g: Oe cell stands ahead
    obtain⟨c',P⟩:=o2 x (mem_of_lookup Q);obtain⟨c2,G⟩:=gi P;have:(g++cl).lookup x=À c2:=by
     have R:∀l:List (Ì×Addr),l.lookup x=À c2->(l++cl).lookup x=À c2:=by
      intro l
      induction l with
      |nil=>intro h;cases h
      |cons p r V =>
       obtain⟨y,j⟩:=p;intro h;rw[Ϣ,yO];rw[yO]at h;cases J:x==y with
       |true=>rw[J]at h;exact h
       |false=>rw[J]at h;exact V h
     exact R g G
    rw[this]at L;cases L;exact Ď (o1 _ (mem_of_lookup G)).1
  ·obtain⟨o,e⟩:=ho b J
   exact zU (yJ e)
  ·have h:(g++cl).lookup x=À c:=N▸h
   obtain⟨o,e⟩:=ho b J;have hlt:=yJ e;rcases f x c h with⟨K,S⟩|E
   ·intro z
    rw[z]at K;exact absurd (zJ hlt (Ď K)) (xB _)
   ·exact(hf b J).2.2.2.2.1 x c E
  ·rcases(hf b J).2.2.2.1 with z|z
   ·exact I.ok.noex b o e z
   ·exact absurd (zJ (yJ e) (z5 I.ok.bsz z)) (xB _)
 refine⟨ok,rfl,I.bare,Un.kept B,⟨fun _=>Á,(Heap.Ns.new s.heap (.type "dict")).keeps (k? _ _),fun i x v E M e3=>?_⟩,fun x c h=>?_,I.Oi.fresh (zP _),fun x c h=>?_,fun p hp=>?_,I.Oi.kept B,?_⟩
 ·-- a F of the code around
  have hlen:=I.len;have hi:i<σ.length:=by
   rcases yU i σ.length with h|h
   ·exact h
   ·rw[z6 h]at M
    rw[ÿ]at M;split at M<;>cases M
  rw[zN hi]at M;have W:∃k,(x,k)∈scope.names:=by
   have:∃k,(relabel scope X.env).names.lookup x=À k:=by
    rcases e3 with h|h|h<;>exact⟨_,h⟩
   obtain⟨k,h⟩:=this;rcases g8 h with h|⟨h,_⟩<;>exact⟨_,h⟩
  have t:=T.hid i x oM E W;have eX:=T.same i x oM E t;have kX:=T.free x t;obtain⟨m,hn,hl⟩:=I.loc;obtain⟨u,ru,lk⟩:=hl i x v eX M (by rcases kX with h|h;exact .inr (.inl h);exact .inr (.inr h));refine⟨u,ru,.inr ⟨?_,?_⟩⟩
  ·-- Oe U in the block
   have:∃k,(relabel scope X.env).names.lookup x=À k:=by
    rcases e3 with h|h|h<;>exact⟨_,h⟩
   obtain⟨k,h⟩:=this;rcases g8 h with h'|⟨h',e⟩
   ·have e5:=c5 T.nd h'
    have e6:=c5 T.nd t;rw[e5]at e6;cases e6;exact .inr h
   ·subst e;exact .inl h
  ·rcases lk with⟨k1,_⟩|⟨_,c,Q,z⟩
   ·rcases kX with h|h<;>rw[h]at k1<;>cases k1
   ·refine⟨c,?_,z.keeps B⟩
    show(Ē (s.heap.objs.size+1) scope.names cl).lookup x=À c;rw[N,qL fun p hp e=>?_]
    ·obtain⟨c',P⟩:=Z x t
     obtain⟨c2,G⟩:=gi P
     have:=O _ (mem_of_lookup G)
     rw[Q]at this;cases this;exact G
    ·have e5:=c5 T.nd (o1 p hp).2
     rw[e]at e5;have e6:=c5 T.nd t;rw[e5]at e6;cases e6
 ·have h:(g++cl).lookup x=À c:=N▸h
  rcases f x c h with⟨K,S⟩|E
  ·exact⟨Á,(okc.empty x c (eown▸S)).1⟩
  ·obtain⟨v,z⟩:=I.cell x c E
   exact⟨v,z.keeps B⟩
 ·have h:(g++cl).lookup x=À c:=N▸h
  rcases f x c h with⟨K,S⟩|E
  ·exact I.Oi.fresh (Ď K)
  ·exact I.freeC x c E
 ·rw[ò]at hp
  obtain⟨e,n,ne,nf,d⟩:=I.pin p hp;refine⟨B _ _ e,n,zU (yJ e),fun z=>?_,d⟩;rcases zT.mp (I.stkSub p.1 z) with z|z
  ·exact ne z
  ·exact nf z
 ·show(σ++È (N'.length-X.N.length) Á).length=N'.length
  rw[zV,ŀ,I.len]
  have:=T.len
  lia
theorem HI(I:Inv X Oa σ H s)(i:∀b∈fp,dW X Oa H b)(g:Inv (cC X N' scope cl s H fp Oa) pins1 σ1 H1 s1)(h:Ĭ s.heap.objs.size s1.heap h') :
  Inv X Oa σ H1 { s1 with heap:=h' }:=by
 have j:∀b o,s.heap.get? b=À o->b≠s.heap.objs.size:=fun b o e=>zU (yJ e)
 have u:=g.base;have k:Un (jV X.stack) fp H H1 s.heap h':=by
  refine⟨fun b o e n a d=>?_,fun b o e n a d=>?_,u.free,fun b o e d=>?_,u.tups,u.frzs,u.tbls⟩
  ·rw[h.2 b (j b o e)];exact u.keep b o e n a d
  ·obtain⟨l,q⟩:=u.slot b o e n a d
   exact⟨l,by rw[h.2 b (j b o e)];exact q⟩
  ·obtain⟨m,q⟩:=u.there b o e d
   exact⟨m,by rw[h.2 b (j b o e)];exact q⟩
 have f:H1 s.heap.objs.size=Á:=g.free;refine I.call' (s':={ s1 with heap:=h' }) g.os k (fun b o e=>?_) g.bare fun b a=>⟨(i b a).2.2.2.1,(i b a).2.1,(i b a).2.2.2.2.1,(i b a).2.2.2.2.2⟩
 refine(g.Oi b o e).stay (fun c v p q=>(h.2 c ?_).trans q) (fun _ q=>q) fun _ _ q=>q
 rintro rfl;rcases p with z|z
 ·rw[<- z,f]at e;cases e
 ·rw[f]at z;cases z
def vo(X:Cx)(b:List Î)(t:TT):Prop :=
 ∀(d:List (Ç×Obj))(s:É)(a:St)(H:Hp)(Q:Bool->Hp->Prop),Inv X d a H s->t a H Q ->
  Í (model X.prog X.w) X.A (forIn b Â fun c r=>if r=Â then do let ok <- v? c X.env (eval c X.env);pure (ĭ ok) else pure (ĭ r)) (TP X d a Q) X.xe s
theorem DT:vo X [] (fun _ H Q=>Q Â H):=fun b s a H Q I h=>wpAny_tests_nil ⟨H,I,h⟩
theorem DS(h:PT X c t):vo X [c] t:=fun d s a H Q I b=>wpAny_tests_one (h d s a H Q I b)
def Fe(k:Nat)(o:TI)(g:TG)(tt:TT)(te:TE):TE:=fun f H Q=>o f H fun J n=>∀p,n p=Á ->
 ∃W:Nat->Nat->St->Hp->Prop,(∃m,W 0 m (f++È k Á) (ah n p (.lst [])))/\∀i m b d,W i m b d ->
  (J.stop i d/\Q (.ref p) d)\/(J.go i d/\∀x l,J.yld i d x l->g x b l fun a q=>tt a q fun ok j=>if ok=Â then
   te a j fun y h=>∃e,h p=À (.lst e)/\e.length<Ë/\∃c,c<m/\W (i+1) c a (ah h p (.lst (e++[y])))
   else ∃c,c<m/\W (i+1) c a j)
theorem tI(I:Nat->É->Prop)
  (turn:∀n s,I n s->Í (model prog w) A (t? it) (fun r s₁=>match r with
   |none=>R (.ok .next) s₁
   |some v=>Í (model prog w) A (Ž target it v) (fun _ s₁'=>Í (model prog w) A (assign target env v) (fun _ s₂ =>
     Í (model prog w) A (forIn ifs Â fun c r=>if r=Â then do let ok <- v? c env (eval c env);pure (ĭ ok) else pure (ĭ r)) (fun ok s₃ =>
      if ok=Â then Í (model prog w) A (eval elt env) (fun x s₄ =>
       Í (model prog w) A (call (.builtin "list.append") [acc,x]) (fun _ s₅=>∃m,m<n/\I m s₅) (fun _ _=>False) s₄) (fun _ _=>False) s₃
      else ∃m,m<n/\I m s₃) (fun _ _=>False) s₂) (fun _ _=>False) s₁') (fun _ _=>False) s₁) (fun _ _=>False) s)
  (n:Nat) (h:I n s):ł (model prog w) A (.compLoop (.ListComp elt [⟨target,iter,ifs,0⟩] scope pos) 0 it acc env) R s:=by
 refine codeAny_loop rfl I (fun n s j=>?_) n h;show Í _ A ((compTurn (.ListComp elt [⟨target,iter,ifs,0⟩] scope pos) 0 it acc env).onRaise (fun x=>do noteFrame x env;theTreesLotGoes x)) _ _ s;refine wpAny_noted ?_;rw[compTurn_list];refine yF (ŭ (yF (yT (turn n s j) (fun r s₁ d=>?_) fun _ _ a=>a.elim)));cases r with
 |none=>exact yG d
 |some v =>
  refine yF (yT d (fun _ s₁' e=>?_) fun _ _ a=>a.elim);refine yF (yT e (fun _ s₂ i=>yF (yT i (fun ok s₃ b=>?_) fun _ _ a=>a.elim)) fun _ _ a=>a.elim);cases ok with
  |false=>exact yG ⟨rfl,b⟩
  |true =>
   exact yF (yF (yT b (fun x s₄ g=>yF (yT g (fun _ s₅ f=>yG (yG ⟨rfl,f⟩)) fun _ _ a=>a.elim)) fun _ _ a=>a.elim))
theorem sJ{elt z S:Î}{B:List Î}{pos:ġ}{g:TG}{tt:TT}{te:TE}{J:It}{it:Ç}{tn:Nat->ä->Prop}{Q:VK}{E:Å->É->Prop}{RR:Å->Ç->Result->É->Prop}
  (hc:X.calm=Â) (T:jJ X N' scope) (hcl:∀p∈cl,X.env.cells.lookup p.1=À p.2) (hfr:∀x,(x,Ú)∈scope.names->∃c,(x,c)∈cl)
  (hg:∀cl s H fp Oa,PG (cC X N' scope cl s H fp Oa) S g) (ht:∀cl s H fp Oa,vo (cC X N' scope cl s H fp Oa) B tt) (he:∀cl s H fp Oa,PE (cC X N' scope cl s H fp Oa) elt te)
  (I:Inv X Oa σ H s) (v:kN X.prog X.w X.K S J fp it tn) (st0:tn 0 s.heap) (hf:∀b∈fp,dW X Oa H b)
  (h:∀p,H p=Á->∃W:Nat->Nat->St->Hp->Prop,(∃m,W 0 m (σ++È (N'.length-X.N.length) Á) (ah H p (.lst [])))/\∀i m σ' H',W i m σ' H' ->
   (J.stop i H'/\Q (.ref p) H')\/(J.go i H'/\∀x H2,J.yld i H' x H2->g x σ' H2 fun σ2 H3=>tt σ2 H3 fun ok H4=>if ok=Â then
    te σ2 H4 fun y H5=>∃ys,H5 p=À (.lst ys)/\ys.length<Ë/\∃m',m'<m/\W (i+1) m' σ2 (ah H5 p (.lst (ys++[y])))
    else ∃m',m'<m/\W (i+1) m' σ2 H4))
  (hRR:∀p C s1 H1,Inv X Oa σ H1 s1->Q (.ref p) H1->(∃m,s1.heap.Ns C m)->H1 C=Á->s.heap.objs.size<=C->RR (.ref p) C (.ok .next) s1) :
  Í (model X.prog X.w) X.A (newList []) (fun acc s₃=>Í (model X.prog X.w) X.A (v! scope X.env.globals cl [] X.env.qual Á .none (À X.env)) (fun cenv s₄ =>
   ł (model X.prog X.w) X.A (.compStart (.ListComp elt [⟨S,z,B,0⟩] scope pos) 0 (.ref it) acc { cenv with scope:=relabel scope X.env }) (RR acc cenv.locals) s₄) E s₃) E s:=by
 refine wpAny_newObj_type (A5 ?_);have Y:H s.heap.objs.size=Á:=I.fresh;obtain⟨W,⟨m0,w0⟩,turn⟩:=h _ Y;have I2:Inv X Oa σ (ah H s.heap.objs.size (.lst [])) { s with heap:=s.heap.push { cls:=.type "list",data:=.seq ([]:List Å).toArray } }:=Inv.lnew (t':=s.toks) (Oe:=[]) (ys:=[]) I .nil (û _);have D:∀b∈fp,dW X Oa (ah H s.heap.objs.size (.lst [])) b:=fun b f=>by
  obtain⟨o,e,_⟩:=v.obj _ _ st0 b f;exact⟨by rw[ad (zU (yJ e))];exact(hf b f).1,(hf b f).2⟩
 have ho2:∀b∈fp,∃o,(s.heap.push { cls:=.type "list",data:=.seq ([]:List Å).toArray }:ä).get? b=À o:=fun b f=>by
  obtain⟨o,e,_⟩:=v.obj _ _ st0 b f;exact⟨o,zG _ e⟩
 have R:=BJ T I2 hcl hfr D ho2;have M:tn 0 (ų ((s.heap.push { cls:=.type "list",data:=.seq ([]:List Å).toArray }).push { cls:=.type "dict",data:=.dict #[] }) scope.names) :=
  v.keep _ _ _ st0 fun b f o e=>k? _ _ b o (zG _ (zG _ e))
 generalize t:({ s with heap:=s.heap.push { cls:=.type "list",data:=.seq ([]:List Å).toArray } }:É)=s2 at I2 R;have hC:s.heap.objs.size<=s2.heap.objs.size:=by rw[<- t];exact yZ (by show _<(s.heap.push _).objs.size;rw[ĥ];exact ı _)
 have k:∀{H':Hp},(∀b∈fp,H' b=Á)->∀b∈fp,dW (cC X N' scope cl s2 (ah H s.heap.objs.size (.lst [])) fp Oa) [] H' b:=fun {H'} hn b f=>by
  refine⟨hn b f,(R.ok.exf b f).1,R.ok.exfs b f,.inl f,(R.ok.exf b f).2,fun p Y=>?_⟩;rw[ò]at Y;exact(hf b f).2.2.2.2.2 p Y
 have w:∀s4,s4=({ s2 with heap:=ų (s2.heap.push { cls:=.type "dict",data:=.dict #[] }) scope.names }:É) ->
   ł (model X.prog X.w) X.A (.compLoop (.ListComp elt [⟨S,z,B,0⟩] scope pos) 0 (.ref it) (.ref s.heap.objs.size) (cC X N' scope cl s2 (ah H s.heap.objs.size (.lst [])) fp Oa).env) (RR (.ref s.heap.objs.size) s2.heap.objs.size) s4:=by
  rintro s4 rfl;refine tI (fun n U=>∃i σ' H',Inv (cC X N' scope cl s2 (ah H s.heap.objs.size (.lst [])) fp Oa) [] σ' H' U/\tn i U.heap/\(∀b∈fp,H' b=Á)/\W i n σ' H') ?_ m0
   ⟨0,_,_,R,by subst t;exact M,fun b f=>(D b f).1,w0⟩
  rintro n s3 ⟨i,q,H3,I4,L,O,w4⟩;rcases turn i n q H3 w4 with⟨K,qn⟩|⟨go,step⟩
  ·refine aD (v.done (cC X N' scope cl s2 (ah H s.heap.objs.size (.lst [])) fp Oa) rfl rfl rfl hc i [] s3 q H3 (fun _ _=>False) I4 (k O) L K) fun r s5 a=>?_
   obtain⟨hr,I5⟩:=a;subst hr;obtain⟨m,hn,_⟩:=I5.loc;exact hRR _ _ s5 H3 (HI I2 D I5 (d! _ _)) qn ⟨m,hn⟩ I5.free hC
  ·refine aD (v.item (cC X N' scope cl s2 (ah H s.heap.objs.size (.lst [])) fp Oa) rfl rfl rfl hc i [] s3 q H3 (fun _ _=>False) I4 (k O) L go) fun r s5 a=>?_
   obtain⟨u,hr,h5⟩:=a;subst hr;refine aD h5 fun _ s6 a=>?_
   obtain⟨x,H6,I6,r6,y6,A,fr6⟩:=a;have I6':=I6.pinned (k fr6) (v.obj _ _ A);have l:∀{j:St}{G:Hp}{F:É}{m':Nat},Inv (cC X N' scope cl s2 (ah H s.heap.objs.size (.lst [])) fp Oa) ([]++gE fp s6.heap) j G F->m'<n->W (i+1) m' j G ->
     ∃m,m<n/\∃i σ' H',Inv (cC X N' scope cl s2 (ah H s.heap.objs.size (.lst [])) fp Oa) [] σ' H' F/\tn i F.heap/\(∀b∈fp,H' b=Á)/\W i m σ' H':=fun {j G F m'} P N w7=>by
    refine⟨m',N,i+1,j,G,P.unpinned,v.keep _ _ _ A fun b f o e=>(P.pin (b,o) (zK _ (zK _ (dq f e)))).1,fun b f=>?_,w7⟩;obtain⟨o,e,d⟩:=v.obj _ _ A b f;exact(P.pin (b,o) (zK _ (zK _ (dq f e)))).2.1
   refine aD (hg _ _ _ _ _ _ s6 q H6 x u _ I6' r6 (step x H6 y6)) fun _ F a=>?_
   obtain⟨j,G,P,q7⟩:=a;refine aD (ht _ _ _ _ _ _ F j G _ P q7) fun ok s8 a=>?_
   obtain⟨H8,I8,V⟩:=a;cases ok with
   |false =>
    simp only[yB,if_false]at V ⊢;obtain⟨m',N,w8⟩:=V;exact l I8 N w8
   |true =>
    simp only[if_true]at V ⊢;refine aD (he _ _ _ _ _ _ s8 j H8 _ I8 V) fun y s9 a=>?_
    obtain⟨Z,H9,I9,r9,ys,e9,l9,m',N,w9⟩:=a;refine aD (qj _ s9 j H9 (.ref s.heap.objs.size) [Z] (.ref s.heap.objs.size) [y] (fun _ H'=>H'=ah H9 s.heap.objs.size (.lst (ys++[Z]))) I9 rfl (.cons r9 .nil) ⟨_,ys,Z,rfl,rfl,e9,l9,rfl⟩) fun _ s10 a=>?_
    obtain⟨_,H10,I10,_,e10⟩:=a;subst e10;exact l I10 N w9
 have st5:tn 0 (ų (s2.heap.push { cls:=.type "dict",data:=.dict #[] }) scope.names):=by subst t;exact M
 have au:=codeAny_compStart_list (w _ rfl) (v.self X.A 0 _ _ (notedBy (model X.prog X.w) X.A (cC X N' scope cl s2 (ah H s.heap.objs.size (.lst [])) fp Oa).env fun x U=>RR (.ref s.heap.objs.size) s2.heap.objs.size (.error x) U) st5 (w _ rfl));subst t;exact au
end
section
variable{X:Cx}{N':List Ì}{scope:ĝ}{Oa:List (Ç×Obj)}{σ:St}{elt iter tg:Î}{ifs:List Î}{pos:ġ}{wi:TI}{g:TG}{tt:TT}{te:TE}
theorem sI(T:jJ X N' scope):∀x∈scope.names,x.2=.local->scope.names.lookup x.1=À .local:=fun x a e=>by
 obtain⟨n,k⟩:=x;cases e;exact c5 T.nd a
theorem Ja(G:X.calm=Â)(T:jJ X N' scope)(E:PI X tg iter wi)(F:∀cl s H fp Oa,PG (cC X N' scope cl s H fp Oa) tg g)(y:∀cl s H fp Oa,vo (cC X N' scope cl s H fp Oa) ifs tt)
  (he:∀cl s H fp Oa,PE (cC X N' scope cl s H fp Oa) elt te) (A:autoParam (∀x,ó iter X.env x=pure x) Ax3._auto_1) :
  PE X (.ListComp elt [⟨tg,iter,ifs,0⟩] scope pos) (Fe (N'.length-X.N.length) wi g tt te):=by
 intro Oa s r H Q I h;obtain⟨cl,d,l,k⟩:=kE (scope:=scope) (env:=X.env) fun x w=>I.ok.has x (T.free x w)
 rw[eval_ListComp];refine B' (use:=Á) rfl A d T.kind (sI T) (yT (E Oa s r H _ I h) (fun V Z N=>yT N (fun u Y M=>?_) fun _ _ e=>e) fun _ _ e=>e);obtain⟨it,fp,W,J,H2,rfl,f,P,i,O,R⟩:=M;refine sJ (Q:=Q) (RR:=fun n C=>compPost (model X.prog X.w) X.A X.xe Á (EP X Oa r Q) n C) G T l k F y he f P i O R ?_;rintro p C t U S q ⟨m,D⟩ L a;refine⟨m,D,fun h' j=>⟨.ref p,U,?_,rfl,q⟩⟩;refine S.turned (t':=t.toks) (it:=C) (fun b o K e=>(j.2 b K).trans e) L ?_ (.inr (z5 f.sz a)) (fun x c e=>?_) fun p B=>?_
 ·exact ã (zU (zJ f.lt a))
 ·obtain⟨v,z⟩:=f.cell x c e
  exact zU (zJ z.lt a)
 ·exact zU (zJ (yJ (f.pin p B).1) a)
theorem xu{i:Nat}(hN:X.N.Nodup)(E:X.N[i]?=À y)(t:Loc X.env.scope y)(u:ķ (.ListComp elt [⟨tg,iter,ifs,0⟩] scope pos) (À (.Name y py)) spos.line X.env=pure Â)
  (hc:X.calm=Â) (T:jJ X N' scope) (Y:PI X tg iter wi) (Z:∀cl s H fp Oa,PG (cC X N' scope cl s H fp Oa) tg g) (P:∀cl s H fp Oa,vo (cC X N' scope cl s H fp Oa) ifs tt)
  (he:∀cl s H fp Oa,PE (cC X N' scope cl s H fp Oa) elt te) (S:autoParam (∀x,ó iter X.env x=pure x) Ax3._auto_1) (hf:autoParam (X.fn y=Â\/X.env.scope.names.lookup y=À .local) Ax1._auto_1) :
  PS X (.Assign [.Name y py] (.ListComp elt [⟨tg,iter,ifs,0⟩] scope pos) spos) (vI (Fe (N'.length-X.N.length) wi g tt te) (oT i)):=by
 intro Oa s L H D I h;obtain⟨cl,f,G,F⟩:=kE (scope:=scope) (env:=X.env) fun x t=>I.ok.has x (T.free x t)
 rw[exec_Assign_Name_used _ _ _ _ u];refine yF (ŭ (yF ?_));show Í _ X.A (do let _ <- comprehension (.ListComp elt [⟨tg,iter,ifs,0⟩] scope pos) scope X.env _ (newList []) Ä (eval iter X.env) (À (assign (.Name y py) X.env))) _ _ s;refine yF (yT (B' (use:=À (assign (.Name y py) X.env)) (Q:=fun _ n=>SP X Oa D .next n) rfl S f T.kind (sI T)
  (yT (Y Oa s L H _ I h) (fun xv s1 h1=>yT h1 (fun O s2 h2=>?_) fun _ _ e=>e) fun _ _ e=>e)) (fun _ n U=>yG (yG U)) fun _ _ e=>e)
 obtain⟨it,fp,tn,J,H2,rfl,l,Tn,r,f2,R⟩:=h2;refine sJ (Q:=fun x H1=>oT i x L H1 D.nx) (RR:=fun K C=>compPost (model X.prog X.w) X.A X.xe (À (assign (.Name y py) X.env)) (fun _ n=>SP X Oa D .next n) K C) hc T G F Z P he l Tn r f2 R ?_;rintro p C s3 H3 I3 q ⟨m,W⟩ hC d;have k:C≠X.env.locals:=ã (zU (zJ l.lt d));have j:∀x c,X.env.cells.lookup x=À c->c≠C:=fun x c e=>by
  obtain⟨v,z⟩:=l.cell x c e;exact zU (zJ z.lt d)
 show Í _ X.A (assign (.Name y py) X.env (.ref p)) _ _ _;refine U3 (qb (v:=.ref p) I3 hN E t rfl (fun N I4 A=>?_) hf);obtain⟨a,M,ha⟩:=A;have B:C≠a:=by
  rcases ha with e|e
  ·rw[e];exact k
  ·exact(j _ _ e).symm
 refine⟨m,W.sameBut M B,fun h' w=>⟨_,H3,?_,q⟩⟩;refine I4.turned (t':=N.toks) (it:=C) (fun b o hb e=>(w.2 b hb).trans e) hC k (.inr (z5 l.sz d)) j fun p V=>?_
 exact zU (zJ (yJ (l.pin p V).1) d)
end
end L2
namespace DD
open PySem PySem.Spec PyProof.Rows L2
section
variable{X:Cx}{Oa:List (Ç×Obj)}{σ:St}{H:Hp}{s:É}{F:Ç->Prop}
theorem obj_list(I:L2.Inv X Oa σ H s)(h:bR X.K H a vs):∃Oe o n,Vals vs Oe/\s.heap.get? a=À o/\o.cls=.type "list"/\o.data=.seq Oe.toArray n:=by
 obtain⟨Oe,r,⟨o,n,e,c,_,d⟩,_⟩:=I.list h;exact⟨Oe,o,n,r,e,c,d⟩
theorem obj_tup(I:L2.Inv X Oa σ H s)(h:iq X.K H a vs):∃Oe o n,Vals vs Oe/\s.heap.get? a=À o/\o.cls=.type "tuple"/\o.data=.seq Oe.toArray n:=by
 obtain⟨Oe,r,⟨o,e,c,n,d⟩,_⟩:=I.tuple h;exact⟨Oe,o,n,r,e,c,d⟩
end
noncomputable def pyOk(p q:ô):Bool:=p.canLay0&&q.canLay0&&decide (min p.depth q.depth<=50)
end DD
namespace L2
open PySem PySem.Spec PyProof.Rows
def K2(K:á)(a b:Ç):It :=
 ⟨fun i H=>∃d c x y,bR K H a d/\bR K H b c/\d[i]?=À x/\c[i]?=À y,
  fun i H x e=>∃p u w,(∀d,bR K H a d->d[i]?=À u)/\(∀c,bR K H b c->c[i]?=À w)/\H p=Á/\e=ah H p (.tup [u,w])/\x=.ref p,
  fun i H=>∃d c,bR K H a d/\bR K H b c/\(d.length<=i\/c.length<=i)⟩
theorem Inv.turnT{X:Cx}{Oa:List (Ç×Obj)}{σ:St}{H:Hp}{s:É}{h':ä}{ch:List Ç}{u w:V}{x y:Å}(I:Inv X Oa σ H s)(g:∀b∈ch,dW X Oa H b)(l:RelV u x)(j:RelV w y)
  (i:∀c o,c∉ch->s.heap.get? c=À o->h'.get? c=À o) (B:IsPair h' s.heap.objs.size x y) (p:∀b∈ch,∃o,h'.get? b=À o):Inv X Oa σ (ah H s.heap.objs.size (.tup [u,w])) { s with heap:=h' }:=by
 have a:H s.heap.objs.size=Á:=I.fresh;have h:∀b o,H b=À o->b∉ch:=fun b o e f=>by rw[(g b f).1]at e;cases e
 have ne:∀b o,s.heap.get? b=À o->b≠s.heap.objs.size:=fun b o e=>zU (yJ e)
 refine I.step (g':=s.gens) (d':=s.drawn) (t':=s.toks) (ch:=ch) (fun b f=>⟨(g b f).2.2.2.1,(g b f).2.1,(g b f).2.2.2.2.1,(g b f).2.2.2.2.2⟩) (fun b o _ _ d e _=>i b o d e)
  (fun b o _ _ d e _=>⟨o.slots,i b o d e⟩) (fun b o _ e n=>by rw[ad (ne b o e)];exact n) (fun b o d e=>⟨o,i b o d e⟩) (fun b k e=>by rw[ad (aY e a)];exact e)
  (fun b o v e=>by rw[ad (aY e a)];exact e) (fun b E e=>⟨#[],by rw[ad (aY e a),e];simp⟩) (fun m A=>?_) (fun b o e=>?_) I.bare
 ·obtain⟨o,C,D,t,r⟩:=A
  exact⟨o,C,D,i _ o (fun z=>(g _ z).2.1 rfl) t,r⟩
 ·by_cases f:b=s.heap.objs.size
  ·subst f
   rw[ay]at e;cases e;refine⟨by show 2<=Ë;decide,[x,y],.cons l (.cons j .nil),⟨_,B,rfl,_,rfl⟩⟩
  ·rw[ad f]at e
   refine(I.Oi b o e).stay (fun c v d q=>i c v ?_ q) (fun c q=>by rw[ad (aY q a)];exact q) fun c k q=>by rw[ad (aY q a)];exact q
   rcases d with rfl|d
   ·exact h _ _ e
   ·exact h _ _ d
theorem Inv.turnN{X:Cx}{Oa:List (Ç×Obj)}{σ:St}{H:Hp}{s:É}{h':ä}{ch:List Ç}(I:Inv X Oa σ H s)(d:∀b∈ch,dW X Oa H b)
  (h:∀c o,c∉ch->s.heap.get? c=À o->h'.get? c=À o):Inv X Oa σ H { s with heap:=h' }:=by
 have g:∀b o,H b=À o->b∉ch:=fun b o e f=>by rw[(d b f).1]at e;cases e
 refine I.step (g':=s.gens) (d':=s.drawn) (t':=s.toks) (ch:=ch) (fun b f=>⟨(d b f).2.2.2.1,(d b f).2.1,(d b f).2.2.2.2.1,(d b f).2.2.2.2.2⟩) (fun b o _ _ a e _=>h b o a e)
  (fun b o _ _ a e _=>⟨o.slots,h b o a e⟩) (fun b o _ e n=>n) (fun b o a e=>⟨o,h b o a e⟩) (fun b i e=>e)
  (fun b o v e=>e) (fun b t e=>⟨#[],by rw[e];simp⟩) (fun m k=>?_) (fun b o e=>?_) I.bare
 ·obtain⟨o,l,p,j,r⟩:=k
  exact⟨o,l,p,h _ o (fun z=>(d _ z).2.1 rfl) j,r⟩
 ·refine(I.Oi b o e).stay (fun c v a q=>h c v ?_ q) (fun c q=>q) fun c i q=>q
  rcases a with rfl|a
  ·exact g _ _ e
  ·exact g _ _ a
theorem de(I:Inv X Oa σ H s)(h:bR X.K H a xs)(j:dW X Oa H b)(d:∃o,s.heap.get? b=À o/\o.cls≠.type "list"):a≠b:=by
 rintro rfl;obtain⟨k,r,⟨o,n,e,c,_⟩,_⟩:=I.list h;obtain⟨i,f,g⟩:=d;rw[e]at f;cases f;exact g c
theorem Ah{P:Ò}{w:Û}{K:á}{Y:List Î}{x1:Nat}{O:ġ}(a b z TI TO g f:Ç)(D1:TI≠z)(D2:TO≠z)(D3:g≠z)(D4:f≠z)(D5:TI≠TO)(D6:TI≠g)(D7:TI≠f)(D8:TO≠g)(D9:TO≠f)(D10:g≠f) :
  kN P w K (.Tuple Y x1 O) (K2 K a b) [z,TI,TO,g,f] z (fun i h=>IsZip h z TI TO .none/\IsPair h TI (.ref g) (.ref f)/\(∃u v,IsPair h TO u v)/\h.IsListIter g a i/\h.IsListIter f b i) where
 mem:=by simp
 obj:=fun i h hq0 c d=>by
  obtain⟨hz,l,⟨u,v,j⟩,⟨o1,B,c1,d1⟩,⟨o2,A,c2,d2⟩⟩:=hq0;simp only[zT,zX,or_false]at d;rcases d with rfl|rfl|rfl|rfl|rfl
  ·exact⟨_,hz,fun v z=>nomatch z⟩
  ·exact⟨_,l,fun v z=>nomatch z⟩
  ·exact⟨_,j,fun v z=>nomatch z⟩
  ·exact⟨_,B,fun v z=>by rw[d1]at z;cases z⟩
  ·exact⟨_,A,fun v z=>by rw[d2]at z;cases z⟩
 keep:=fun i h N ⟨hz,l,⟨u,v,j⟩,F,C⟩ k=>⟨k z (by simp) _ hz,k TI (by simp) _ l,⟨u,v,k TO (by simp) _ j⟩,F.at fun o e=>k g (by simp) o e,C.at fun o e=>k f (by simp) o e⟩
 item:=by
  rintro X hP hw hK d i Z s σ H E I M ⟨hz,l,⟨ua,ub,j⟩,F,C⟩ ⟨xs,ys,x,y,n,m,hx,hy⟩;subst hP hw hK;obtain⟨T,J,p1,_⟩:=I.list n;obtain⟨S,G,p2,_⟩:=I.list m;obtain⟨u1,hu1,ru1⟩:=J.get hx;obtain⟨u2,hu2,ru2⟩:=G.get hy;have R:∀c∈[z,TO,g,f],∃o,s.heap.get? c=À o/\o.cls≠.type "list":=fun c d=>by
   obtain⟨o1,B,c1,d1⟩:=id F;obtain⟨o2,A,c2,d2⟩:=id C;simp only[zT,zX,or_false]at d;rcases d with rfl|rfl|rfl|rfl
   ·exact⟨_,hz,by simp⟩
   ·exact⟨_,j,by simp⟩
   ·exact⟨_,B,by rw[c1];simp⟩
   ·exact⟨_,A,by rw[c2];simp⟩
  have t:∀c∈[z,TO,g,f],a≠c:=fun c d=>de I n (M c (by simp at d ⊢;rcases d with h|h|h|h<;>simp[h])) (R c d)
  have r:∀c∈[z,TO,g,f],b≠c:=fun c d=>de I m (M c (by simp at d ⊢;rcases d with h|h|h|h<;>simp[h])) (R c d)
  have D:ZipApart z TI TO g f a b:=⟨D1,D2,D3,D4,D5,D6,D7,D8,D9,D10,t z (by simp),t TO (by simp),t g (by simp),t f (by simp),r z (by simp),r TO (by simp),r g (by simp),r f (by simp)⟩;refine wpAny_pyNext_zip_item D hz l j F C p1.isList p2.isList (x:=u1) (y:=u2) (by simpa using hu1) (by simpa using hu2) fun N a1 a2 a3 a4 a5 a6 hk=>?_
  have p:∀c∈[z,TO,g,f],dW X Z H c:=fun c d=>M c (by simp at d ⊢;rcases d with h|h|h|h<;>simp[h])
  have U:∀c o,c∉[z,TO,g,f]->s.heap.get? c=À o->N.get? c=À o:=fun c o d e=>hk c o (fun q=>d (by simp[q])) (fun q=>d (by simp[q])) (fun q=>d (by simp[q])) (fun q=>d (by simp[q])) e
  have I1:Inv X Z σ (ah H s.heap.objs.size (.tup [x,y])) { s with heap:=N }:=I.turnT p ru1 ru2 U a5 (fun c d=>by
   obtain⟨o1,B,_⟩:=id a3;obtain⟨o2,A,_⟩:=id a4;simp only[zT,zX,or_false]at d;rcases d with rfl|rfl|rfl|rfl
   ·exact⟨_,a1⟩
   ·exact⟨_,a2⟩
   ·exact⟨_,B⟩
   ·exact⟨_,A⟩)
  have hfr:H s.heap.objs.size=Á:=I.fresh;refine⟨_,rfl,wpAny_letOwnedTupleGo_zip (s:={ s with heap:=N }) a1 fun h'' z1 Q=>?_⟩;have V:∀c∈[z,TI,TO,g,f],(ah H s.heap.objs.size (.tup [x,y])) c=Á:=fun c d=>by
   have lt:c<s.heap.objs.size:=by
    obtain⟨o1,B,_⟩:=id F;obtain⟨o2,A,_⟩:=id C;simp only[zT,zX,or_false]at d;rcases d with rfl|rfl|rfl|rfl|rfl
    ·exact yJ hz
    ·exact yJ l
    ·exact yJ j
    ·exact yJ B
    ·exact yJ A
   rw[ad (zU lt)];exact(M c d).1
  have I2:Inv X Z σ (ah H s.heap.objs.size (.tup [x,y])) { s with heap:=h'' }:=Inv.turnN (s:={ s with heap:=N }) (ch:=[z]) I1 (fun c d=>by
   have:c=z:=by simpa using d
   subst this;exact⟨V c (by simp),(M c (by simp)).2⟩) (fun c o d e=>(Q.2 c (fun q=>d (by simp[q]))).trans e)
  refine⟨.ref s.heap.objs.size,_,I2,rfl,⟨_,x,y,fun zs L=>by rw[I.list_inj L n];exact hx,fun zs L=>by rw[I.list_inj L m];exact hy,hfr,rfl,rfl⟩,⟨z1,?_,⟨u1,u2,?_⟩,?_,?_⟩,V⟩
  ·exact(Q.2 TI D1).trans (U TI _ (by simp[D1,D5,D6,D7]) l)
  ·exact(Q.2 TO D2).trans a2
  ·exact a3.at fun o e=>(Q.2 g D3).trans e
  ·exact a4.at fun o e=>(Q.2 f D4).trans e
 done:=by
  rintro X hP hw hK d i Z s σ H E I M ⟨hz,l,⟨ua,ub,j⟩,F,C⟩ ⟨xs,ys,n,m,W⟩;subst hP hw hK;obtain⟨T,J,p1,_⟩:=I.list n;obtain⟨S,G,p2,_⟩:=I.list m;have R:∀c∈[z,TO,g,f],∃o,s.heap.get? c=À o/\o.cls≠.type "list":=fun c d=>by
   obtain⟨o1,B,c1,d1⟩:=id F;obtain⟨o2,A,c2,d2⟩:=id C;simp only[zT,zX,or_false]at d;rcases d with rfl|rfl|rfl|rfl
   ·exact⟨_,hz,by simp⟩
   ·exact⟨_,j,by simp⟩
   ·exact⟨_,B,by rw[c1];simp⟩
   ·exact⟨_,A,by rw[c2];simp⟩
  have p:∀c∈[z,TO,g,f],dW X Z H c:=fun c d=>M c (by simp at d ⊢;rcases d with h|h|h|h<;>simp[h])
  have t:∀c∈[z,TO,g,f],a≠c:=fun c d=>de I n (p c d) (R c d)
  have r:∀c∈[z,TO,g,f],b≠c:=fun c d=>de I m (p c d) (R c d)
  have D:ZipApart z TI TO g f a b:=⟨D1,D2,D3,D4,D5,D6,D7,D8,D9,D10,t z (by simp),t TO (by simp),t g (by simp),t f (by simp),r z (by simp),r TO (by simp),r g (by simp),r f (by simp)⟩;have hl1:=J.length;have hl2:=G.length;refine wpAny_pyNext_zip_end (I.ok.hd d) D hz l j F C p1.isList p2.isList (by rcases W with h|h;(left;simp;lia);(right;simp;lia)) fun N hk=>⟨rfl,?_⟩
  exact I.turnN p fun c o d e=>hk c o (fun q=>d (by simp[q])) (fun q=>d (by simp[q])) (fun q=>d (by simp[q])) (fun q=>d (by simp[q])) e
 self:=fun _ _ _ _ _ ⟨hz,_⟩ h=>V' hz h
def L1(K:á)(h:TA):TI:=fun d H R=>h d H fun g c=>∃a b,g=[.ref a,.ref b]/\(∃f,bR K c a f)/\(∃e,bR K c b e)/\R (K2 K a b) c
theorem Gc{C:Nat}(S:Gl X "zip")(P:X.mg "zip"=Á)(T:PA X [a,b] ta)(O:autoParam (Ê [a,b] X.env=[(Ä,eval a X.env),(Ä,eval b X.env)]) Ax2._auto_1)(f:autoParam (Ê [b] X.env=[(Ä,eval b X.env)]) Ax2._auto_1) :
  PI X (.Tuple elts C tpos) (.Call (.Name "zip" p) [a,b] [] pos) (L1 X.K ta):=by
 intro A s u H R I h;refine M' (dQ I S P boot_zip (Ô (aD (T pos A s u H _ I h) fun us d ⟨vs,B,i,r1,G⟩=>?_) (by rw[O,f]) (by rw[f];rfl)));obtain⟨M,L,e,⟨xs,m⟩,⟨ys,l⟩,q⟩:=G;subst e;cases r1 with
 |cons r j =>
  cases j with
  |cons F j =>
   cases j;cases r;cases F;obtain⟨w,E,K,_⟩:=i.list m;obtain⟨v,D,J,_⟩:=i.list l;refine call_zip_2 K.isList J.isList fun y hz t o V U N Q=>?_
   have I2:Inv X A u B { d with heap:=y }:=i.kept (t':=d.toks) Q;refine V' (s:={ d with heap:=y }) hz ?_;have lt:∀k:Nat,d.heap.objs.size<=d.heap.objs.size+k:=fun k=>ϥ _ _
   refine⟨_,[d.heap.objs.size+4,d.heap.objs.size+2,d.heap.objs.size+3,d.heap.objs.size,d.heap.objs.size+1],_,_,B,rfl,I2,
    Ah M L (d.heap.objs.size+4) (d.heap.objs.size+2) (d.heap.objs.size+3) d.heap.objs.size (d.heap.objs.size+1) ?_ ?_ ?_ ?_ ?_ ?_ ?_ ?_ ?_ ?_,⟨hz,t,⟨_,_,o⟩,V,U⟩,fun c x=>?_,q⟩
   all_goals first
    | (show _ + _ ≠ _ + _;intro z;exact absurd (Nat.add_left_cancel z) dC)
    | (show _ ≠ _ + _;intro z;exact absurd z (by have:=ũ (n:=d.heap.objs.size) (k:=4) dC;have:=ũ (n:=d.heap.objs.size) (k:=1) dC;exact zU (by assumption)))
    | (show _ + _ ≠ _;exact İ (ũ dC))
    |skip
   have g:d.heap.objs.size<=c:=by
    simp only[zT,zX,or_false]at x;rcases x with rfl|rfl|rfl|rfl|rfl
    ·exact lt 4
    ·exact lt 2
    ·exact lt 3
    ·exact zP _
    ·exact lt 1
   obtain⟨f0,f1,f2,Z,Y,W⟩:=i.fpOk g (i.Oi.fresh g);exact⟨f0,f1,f2,Z,Y,W⟩
theorem By:BS X (fun o i H Q=>∃p xs k v,o=.ref p/\i=.int k/\bR X.K H p xs/\gO xs k=À v/\Q v H):=by
 rintro D s g H o i E F Q I h l ⟨p,xs,k,v,B,A,m,u,q⟩;subst B A;cases h;obtain⟨t,rfl⟩:=l;obtain⟨C,r,d,hz⟩:=I.list m;obtain⟨j,a,z,J,y,x⟩:=mz u;obtain⟨w,f,b⟩:=r.get z;have n:=r.length;have G:=ig;have au:EP X D g Q w s:=⟨v,H,I,b,q⟩;by_cases e:0<=k
 ·have c:k.toNat=j:=by
   rw[d? e x]at a;exact yE a
  exact wpAny_getItem_list d.isList e oM (by rw[c];simpa using f) au
 ·have c:(k+(C.toArray.size:Int)).toNat=j:=by
   rw[ϯ oM y]at a;rw[zI,<- n];exact yE a
  exact O! d.isList oM (by rw[zI]<;>lia) oM (by rw[c];simpa using f) au
end L2
namespace DD
open PySem PySem.Spec PyProof.Rows L2
section
variable{X:Cx}{e o a b:Î}{es:List Î}{p q:DP}{c c':DE}{pos apos cpos:ġ}{i:Nat}{js:List DP}
theorem cnt_vals{h:ä}{q:ô}{e:Å->Bool}(he:∀v p as,Ŭ h v p as->e v=Ö p q):∀{vs:List Å}{ps:List ô}{as:List Ç},ϰ h vs ps as->vs.countP e=ps.countP fun r=>Ö r q:=by
 intro vs
 induction vs with
 |nil=>intro ps as h;cases h;rfl
 |cons v vs b =>
  intro ps as h;cases h with
  |cons r a=>rw[Q2,Q2,b a,he _ _ _ r]
theorem reads_each{h:ä}:∀{vs:List Å}{ps:List ô}{as:List Ç},ϰ h vs ps as->∀v∈vs,∃p as',p∈ps/\Ŭ h v p as':=by
 intro vs
 induction vs with
 |nil=>intro ps as h v a;cases a
 |cons v vs c =>
  intro ps as h v a;cases h with
  |cons r b =>
   rcases zT.mp a with rfl|a
   ·exact⟨_,_,z7,r⟩
   ·obtain⟨p,as',d,h⟩:=c b v a
    exact⟨p,as',zQ _ d,h⟩
noncomputable def minL:List Int->Option Int
 |[]=>Á
 |x::xs=>À (xs.foldl (fun a b=>if b<a then b else a) x)
theorem minF:∀(xs:List Int)(x:Int),(xs.foldl (fun a b=>if b<a then b else a) x∈x::xs)/\∀a∈x::xs,xs.foldl (fun a b=>if b<a then b else a) x<=a
 |[],x=>⟨by simp,by simp⟩
 |y::xs,x=>by
  obtain⟨h1,h2⟩:=minF xs (if y<x then y else x);rw[Ō];constructor
  ·rcases zT.mp h1 with h|h
   ·rw[h];split<;>simp
   ·simp[h]
  ·intro a c
   have d:=h2 (if y<x then y else x) (by simp);have f:(if y<x then y else x)<=x:=by split<;>lia
   have e:(if y<x then y else x)<=y:=by split<;>lia
   rcases zT.mp c with rfl|c
   ·exact ľ d f
   ·rcases zT.mp c with rfl|c
    ·exact ľ d e
    ·exact h2 a (by simp[c])
theorem minL_eq{m M:Int}(h:minL ns=À m)(b:M∈ns)(d:∀a∈ns,M<=a):M=m:=by
 cases ns with
 |nil=>cases b
 |cons x c =>
  cases h;obtain⟨g1,e⟩:=minF c x;have a1:=e M b;have a2:=d _ g1;lia
end
section
variable{X:Cx}{e o a b:Î}{es:List Î}{p q:DP}{c c':DE}{pos apos cpos:ġ}{i:Nat}{js:List DP}
theorem any_vals{h:ä}{q:ô}{e:Å->Bool}(he:∀v p as,Ŭ h v p as->e v=Ö p q):∀{vs:List Å}{ps:List ô}{as:List Ç},ϰ h vs ps as->vs.any e=ps.any fun r=>Ö r q
 |_,_,_,.nil=>rfl
 |_,_,_,.cons r rs=>by rw[Š,Š,any_vals he rs,he _ _ _ r]
end
end DD
namespace L2
open PySem PySem.Spec PyProof.Rows
def Aa(K:á)(a:Ç)(n0:Nat):It :=
 ⟨fun i H=>∃b x,bR K H a b/\b[i]?=À x,
  fun i H x c=>∃p u,(∀b,bR K H a b->b[i]?=À u)/\H p=Á/\c=ah H p (.tup [.int ((n0+i:Nat):Int),u])/\x=.ref p,
  fun i H=>∃b,bR K H a b/\b.length=i⟩
theorem qy(k:A.handled=Á)(it l:Ç)(d:l≠it)(a:Array Å)(n0:Nat) :
  Draws prog w A it [it,l] (n0+a.size) (fun i v=>n0<=i/\a[i-n0]?=À v) (fun i h=>n0<=i/\h.IsListIter it l (i-n0)/\h.IsList l a) where
 live:=fun _ _ q=>by obtain⟨o,j,_⟩:=q.2.1;exact⟨o,j⟩
 frame:=fun _ _ _ q g=>⟨q.1,q.2.1.at fun o e=>g it (by simp) o e,q.2.2.at fun o e=>g l (by simp) o e⟩
 item:=fun i s Q E r q m=>by
  have f:i-n0<a.size:=by have:=q.1;lia
  refine wpAny_nextOf_list_item q.2.1 q.2.2 (x:=a[i-n0]) (by simp[f]) fun p c b=>?_
  refine m _ p s.toks ⟨q.1,by simp[f]⟩ ⟨Nat.le_succ_of_le q.1,?_,q.2.2.extBut b.extBut d⟩ b;rw[show i+1-n0=i-n0+1 by have:=q.1;lia];exact c
 done:=fun s Q E q n=>wpAny_nextOf_list_end k q.2.1 q.2.2 (by simp) n
theorem wT{P:Ò}{w:Û}{K:á}{y:List Î}{x1:Nat}{n:ġ}(a z it:Ç)(n0:Nat)(D:z≠it) :
  kN P w K (.Tuple y x1 n) (Aa K a n0) [z,it] z (fun i h=>(∃old,IsEnum h z it ((n0+i:Nat):Int) old)/\h.IsListIter it a i) where
 mem:=by simp
 obj:=fun i h S c b=>by
  obtain⟨⟨old,hz⟩,⟨F,d,J,d1⟩⟩:=S;simp only[zT,zX,or_false]at b;rcases b with rfl|rfl
  ·exact⟨_,hz,fun v z=>nomatch z⟩
  ·exact⟨_,d,fun v z=>by rw[d1]at z;cases z⟩
 keep:=fun i h l ⟨⟨old,hz⟩,g⟩ k=>⟨⟨old,k z (by simp) _ hz⟩,g.at fun o e=>k it (by simp) o e⟩
 item:=by
  rintro X Z R hK b i B s C H E I f ⟨⟨old,hz⟩,g⟩ ⟨xs,x,j,hx⟩;subst Z R hK;obtain⟨L,M,N,_⟩:=I.list j;obtain⟨u,hu,ru⟩:=M.get hx;have na:a≠z:=de I j (f z (by simp)) ⟨_,hz,by simp⟩;have O:a≠it:=de I j (f it (by simp)) (by obtain⟨F,d,J,d1⟩:=id g;exact⟨_,d,by rw[J];simp⟩);have V:i<L.length:=(zB.mp hu).1;refine wpAny_pyNext_enum_itemD (qy (A:=X.A.in1) (I.ok.hd b) it a O L.toArray n0) hz ⟨ϥ _ _,by rw[Ū];exact g,N.isList⟩ (by simp[V]) D (by simp[D,na.symm]) fun v l m hv ho p hT hsz U=>?_
  have ev:v=u:=by
   have G:=hv.2;rw[Ū]at G;simp only[List.getElem?_toArray]at G;rw[hu]at G;exact(yE G).symm
  subst ev;have Y:∀c∈[z,it],dW X B H c:=fun c b=>f c b
  have T:∀c o,c∉[z,it]->s.heap.get? c=À o->l.get? c=À o:=fun c o b e=>U c o (fun q=>b (by simp[q])) (fun q=>b (by simp[q])) e
  have I0:Inv X B C (ah H s.heap.objs.size (.tup [.int ((n0+i:Nat):Int),x])) { s with heap:=l }:=I.turnT Y (u:=.int ((n0+i:Nat):Int)) ⟨m,rfl⟩ ru T hT (fun c b=>by
   obtain⟨F,d,_⟩:=id p.2.1;simp only[zT,zX,or_false]at b;rcases b with rfl|rfl
   ·exact⟨_,ho⟩
   ·exact⟨_,d⟩)
  have I1:Inv X B C (ah H s.heap.objs.size (.tup [.int ((n0+i:Nat):Int),x])) { s with heap:=l,toks:=m+1 }:=I0.kept (t':=m+1) (fun _ _ e=>e);have W:H s.heap.objs.size=Á:=I.fresh;refine⟨_,rfl,wpAny_letOwnedTupleGo_enum (s:={ s with heap:=l,toks:=m+1 }) ho fun h'' z1 sb=>?_⟩;have r:∀c∈[z,it],(ah H s.heap.objs.size (.tup [.int ((n0+i:Nat):Int),x])) c=Á:=fun c b=>by
   have lt:c<s.heap.objs.size:=by
    obtain⟨F,d,_⟩:=id g;simp only[zT,zX,or_false]at b;rcases b with rfl|rfl
    ·exact yJ hz
    ·exact yJ d
   rw[ad (zU lt)];exact(f c b).1
  have I2:Inv X B C (ah H s.heap.objs.size (.tup [.int ((n0+i:Nat):Int),x])) { s with heap:=h'',toks:=m+1 }:=Inv.turnN (s:={ s with heap:=l,toks:=m+1 }) (ch:=[z]) I1 (fun c b=>by
   have:c=z:=by simpa using b
   subst this;exact⟨r c (by simp),(f c (by simp)).2⟩) (fun c o b e=>(sb.2 c (fun q=>b (by simp[q]))).trans e)
  refine⟨.ref s.heap.objs.size,_,I2,rfl,⟨_,x,fun zs Q=>by rw[I.list_inj Q j];exact hx,W,rfl,rfl⟩,⟨⟨_,by rw[show((n0+(i+1):Nat):Int)=((n0+i:Nat):Int)+1 by lia];exact z1⟩,?_⟩,r⟩;have h3:=p.2.1;rw[show n0+i+1-n0=i+1 by lia]at h3;exact h3.at fun o e=>(sb.2 it D.symm).trans e
 done:=by
  rintro X Z R hK b i B s C H E I f ⟨⟨old,hz⟩,g⟩ ⟨xs,j,t⟩;subst Z R hK;obtain⟨L,M,N,_⟩:=I.list j;have O:a≠it:=de I j (f it (by simp)) (by obtain⟨F,d,J,d1⟩:=id g;exact⟨_,d,by rw[J];simp⟩);have hl:=M.length;refine wpAny_pyNext_enum_endD (qy (A:=X.A.in1) (I.ok.hd b) it a O L.toArray n0) hz ⟨ϥ _ _,?_,N.isList⟩ fun l U=>⟨rfl,?_⟩
  ·rw[Ū,zI,<- hl,t];exact g
  ·exact I.turnN (ch:=[z,it]) (fun c b=>f c b) fun c o b e=>U c o (fun q=>b (by simp[q])) e
 self:=fun _ _ _ _ _ ⟨⟨_,hz⟩,_⟩ h=>ϭ hz h
theorem qA:â "enumerate"=À (.type "enumerate"):=by decide +kernel
def Jy(K:á)(n0:Nat)(f:TA):TI:=fun c H R=>f c H fun e b=>∃a,e=[.ref a]/\(∃d,bR K b a d)/\R (Aa K a n0) b
theorem tB{X:Cx}{Oa:List (Ç×Obj)}{σ:St}{f:Hp}{s1:É}{h':ä}{t':Nat}{l:Ç}{n0:Nat}{e:List Î}{i:Nat}{a:ġ}{R:It->Hp->Prop}(g:Inv X Oa σ f s1)(he:IsEnum h' (s1.heap.objs.size+1) s1.heap.objs.size (n0:Int) .none)(k:h'.IsListIter s1.heap.objs.size l 0)
  (j:∀b o,s1.heap.get? b=À o->h'.get? b=À o) (q:R (Aa X.K l n0) f):H0 X Oa σ (.Tuple e i a) R (.ref (s1.heap.objs.size+1)) { s1 with heap:=h',toks:=t' }:=by
 have u:Inv X Oa σ f { s1 with heap:=h',toks:=t' }:=g.kept (t':=t') j;refine⟨_,[s1.heap.objs.size+1,s1.heap.objs.size],_,_,f,rfl,u,wT l (s1.heap.objs.size+1) s1.heap.objs.size n0 (İ (ı _)),⟨⟨_,by simpa using he⟩,k⟩,fun c h=>?_,q⟩;have d:s1.heap.objs.size<=c:=by
  simp only[zT,zX,or_false]at h;rcases h with rfl|rfl
  ·exact Ϩ _
  ·exact zP _
 obtain⟨t,s,r,p,n,m⟩:=g.fpOk d (g.Oi.fresh d);exact⟨t,s,r,p,n,m⟩
theorem DU{g:Nat}(w:Gl X "enumerate")(t:X.mg "enumerate"=Á)(x:PA X [a] ta)(n:autoParam (Ê [a] X.env=[(Ä,eval a X.env)]) Ax2._auto_1) :
  PI X (.Tuple elts g tpos) (.Call (.Name "enumerate" p) [a] [] pos) (Jy X.K 0 ta):=by
 intro z s f H R I h;refine M' (dQ I w t qA (Ô (aD (x pos z s f H _ I h) fun C b ⟨B,F,d,r1,j⟩=>?_) (by rw[n];rfl) (by rfl)));obtain⟨l,e,⟨A,o⟩,q⟩:=j;subst e;cases r1 with
 |cons r i =>
  cases i;cases r;obtain⟨E,D,k,_⟩:=d.list o;refine call_enumerate_list k.isList fun y c v m u=>?_
  refine ϭ (s:={ b with heap:=y }) c ?_;exact tB (t':=b.toks) (n0:=0) d c v u q
section
variable{prog:Ò}{w:Û}{A:ċ}{E:Å->É->Prop}{s:É}
theorem Am{α:Type}{x:V9 α}{Q b:α->É->Prop}(h:Í M A x Q E s)(c:∀a s,Q a s->b a s):Í M A x b E s:=yT h c fun _ _ x=>x
theorem rC(a v:Å):checkTypeCall "enumerate" ⟨[a],[("start",v)]⟩=pure ():=by kernel_rfl
theorem qK(a v:Å):checkBuiltinCall "enumerate.__new__" ⟨[.type "enumerate",a],[("start",v)]⟩=pure ():=by kernel_rfl
theorem pW(o a v:Å):x? "object.__init__" ⟨[o,a],[("start",v)]⟩:=by
 unfold x?;rw[signature?_of (id:="object.__init__") (n:=['_','_','t','i','n','i','_','_']) (o:=['t','c','e','j','b','o']) (by kernel_rfl) F.owner_object]
 kernel_rfl
theorem wv(hl:typeLookup (.type T) "__init__"=pure (À (.builtin "object.__init__")))(hm:Bind.madeBy (.type T)=pure (À newId))(hne:(À newId !=À "object.__new__")=Â) :
  Meets (p?.«object.__init__» ⟨[self,a],[("start",v)]⟩) (fun _ R s=>s.TypeIs self T/\R (.ok (.ret .none)) s):=Meets.of_wp fun b w A R s c=>by
 obtain⟨e,d⟩:=c
 repeat (any_goals (first | assumption | wp_step))
 exact⟨_,rfl,d⟩
theorem tN(e:args.any (·.1)=Ä)(f:kws.any (·.1.isNone)=Ä)
  (h:Í M A (evalArgs (.type T) Â args kws) (fun a s₁=>Í M A (call (.type T) a.pos a.kw) Q E s₁) E s):Í M A (Ţ pos (.type T) [] args kws) Q E s:=by
 unfold Ţ;refine yF (yS (Am h fun a s₁ b=>yF (ŭ ?_)));simp only[e,f,U1];refine yF (yG (yF (Am b fun r c d=>yF (yS (wpAny_point (yG d))))))
end
section
variable{prog:Ò}{w:Û}{A:ċ}{E:Å->É->Prop}{s:É}
theorem CD(f:t≠it):∀(n i:Nat)(s:É)(Q:List Å->É->Prop),s.heap.IsListIter it t i->s.heap.IsList t items->i+n<=items.size ->
  (∀h',h'.IsListIter it t (i+n)->Ĭ it s.heap h'->Q ((items.toList.drop i).take n) { s with heap:=h' })->Í (model prog w) A (draw (.ref it) n) Q E s
 |0,i,s,Q,hit,_,_,hQ=>yG (by simpa using hQ s.heap hit (d! ..))
 |n+1,i,s,Q,hit,ht,hle,hQ=>by
  have hlt:i<items.size:=by lia
  refine yF (m:=t? (.ref it)) (N? hit ht (x:=items[i]) (by simp[hlt]) fun g c a=>?_);refine yF (yS (CD f n (i+1) _ _ c (ht.extBut a.extBut f) oM fun e b d=>yG ?_));have q:=hQ e (by rw[show i+(n+1)=i+1+n by lia];exact b) (a.trans d);rw[show items.toList.drop i=items[i]::items.toList.drop (i+1) by simp[õ,hlt],List.take_succ_cons]at q;exact q
theorem C6(p:A.handled=Á)(i:s.heap.IsList t items)(n:targets.length=items.size)(d:targets.findIdx? (·.1)=Á)
  (h:∀h',W5 s.heap.objs.size s.heap h'->Í (model prog w) A (assignInOrder (targets.map (·.2)) items.toList) Q E { s with heap:=h' }):Í (model prog w) A (unpack (.ref t) targets) Q E s:=by
 have j:t≠s.heap.objs.size:=by obtain⟨o,m,_⟩:=i;exact zU (yJ m)
 unfold unpack;rw[n,d];refine yF (yS ?_);unfold unpackItems;refine yF ?_;unfold notIterableAtAll;refine yF (W7 i.typeIs slot_list_iter.lookup (yG ?_));simp only[yB,if_false];refine yF (yS (ĩ i (yF (yS (CD j items.size 0 _ _ ⟨_,zY _ rfl,rfl,rfl⟩ (i.push _) oM fun k c a=>?_)))));rw[show List.take items.size (List.drop 0 items.toList)=items.toList by rw[Ĥ];exact í (by simp),yH (by simp)];refine yF (yS (P8 p c ((i.push _).extBut a.extBut j) (by simp) fun g f=>?_));simp only[Option.isSome_none,yB,if_false];exact yG (h g fun b o l e=>f b o l (a.extBut b o l (zG _ e)))
end
section
variable{X:Cx}{pos:ġ}
noncomputable def JC(K:á)(n:Nat)(t:tW):TG:=fun v c H Q=>∃a b,v=.ref a/\bR K H a b/\b.length=n/\t b c H Q
theorem DX{k:Nat}{n:Nat}(x:X.calm=Â)(h:qH X es t)(q:autoParam ((à es X.env).length=n) Ax2._auto_1)(d:autoParam ((à es X.env).findIdx? (·.1)=Á) Ax2._auto_1):PG X (.Tuple es k pos) (JC X.K n t):=by
 intro i s f H v u Q I r c;obtain⟨a,j,z,p,w,c⟩:=c;subst z;cases r;obtain⟨B,g,l,hz⟩:=I.list p;rw[arm_assign_Tuple];refine yF (ŭ (C6 (I.ok.hd x) l.isList (by simp[q,<- w,g.length]) d fun y m=>?_));have A:Inv X i f H { s with heap:=y }:=I.kept (t':=s.toks) fun b o e=>m b o (zU (yJ e)) e
 exact h i _ f H j _ Q A (by simpa using g) c
theorem j7:∀(l:List Å)(k:Nat),(∀(j:Nat)(v:Å),l[j]?=À v->∃t,v=.int ((k+j:Nat):Int) t)->Vals ((ģ k l.length).map fun(q:Nat)=>V.int (q:Int)) l
 |[],_,_=>.nil
 |u::l,k,h=>by
  rw[yY,List.range'_succ,zO];refine .cons ?_ (j7 l (k+1) fun j v e=>?_)
  ·obtain⟨t,e⟩:=h 0 u rfl
   exact⟨t,e⟩
  ·obtain⟨t,a⟩:=h (j+1) v (by simpa using e)
   exact⟨t,by rw[a,show k+(j+1)=k+1+j by lia]⟩
theorem kF:â "list"=À (.type "list"):=by decide +kernel
def Fd(d:TE):TE:=fun b H Q=>B5 d vF b H fun c a=>∃j:Nat,c=[.int (j:Int)]/\j<=1000/\∀p,a p=Á->Q (.ref p) (ah a p (.lst ((ģ 0 j).map fun(q:Nat)=>V.int (q:Int))))
theorem AT(D:X.calm=Â)(p:Gl X "list")(l:X.mg "list"=Á)(m:Gl X "range")(k:X.mg "range"=Á)(E:PE X a ta)
  (y:autoParam (Ê [a] X.env=[(Ä,eval a X.env)]) Ax2._auto_1) (g:autoParam (Ê [.Call (.Name "range" p2) [a] [] pos2] X.env=[(Ä,eval (.Call (.Name "range" p2) [a] [] pos2) X.env)]) Ax2._auto_1) :
  PE X (.Call (.Name "list" p1) [.Call (.Name "range" p2) [a] [] pos2] [] pos) (Fd ta):=by
 intro z s u H Q I h;refine M' (dQ I p l kF (Ô ?_ (by rw[g];rfl) (by rfl)));rw[g];refine Calls.spliced_cons (M' (dQ I m k w! (Ô (aD ((ux E xH y) pos2 z s u H _ I h) fun N f ⟨M,L,K,r1,w⟩=>?_) (by rw[y];rfl) (by rfl))));cases r1 with
 |nil=>obtain⟨j,e,_⟩:=w;cases e
 |cons r B =>
  obtain⟨j,e,P,q⟩:=w;cases e;cases B;obtain⟨t,rfl⟩:=r;refine call_range_1 (Calls.spliced_nil ?_);have A:Inv X z u L { f with heap:=f.heap.push { cls:=.type "range",data:=.fields #[.int 0 f.toks,.int (j:Int) t,.int 1 (f.toks+1)] },toks:=f.toks+1+1 }:=K.kept fun b o e=>zG _ e
  refine X! (n:=j) (I.ok.hd D) (IsRange.new ..) (V0 oM oM oM oM) (by rw[C?];split<;>lia) oM fun R O c J C F d=>?_
  have x:=j7 c.toList 0 (fun i v e=>by
   obtain⟨t,G⟩:=d.2 i v (by simpa using e);exact⟨t,by rw[G];congr 1;lia⟩)
  rw[show c.toList.length=j by simpa using d.1]at x;exact⟨.ref _,_,A.laid (o:=.lst ((ģ 0 j).map fun(q:Nat)=>V.int (q:Int))) C (zP _) ⟨yZ (qc (by simp;lia)),c.toList,J,x,F⟩,rfl,q _ A.fresh⟩
end
end L2
namespace PySem.AutoSeq1
theorem wx(l:Ç)(items:Array Å)(n:Nat)(b:Ç)(items2:Array Å)(n2:Nat)(sl:Array (Option Å))(hc0:¬(!items.isEmpty&&ñ (items.size+items2.size))=Â)(hc1:items.size<=Ë)(hs2:items.size+items2.size<=Ë+1) :
  Meets (p?.«list.extend» ⟨[.ref l,.ref b],[]⟩) (fun _ R s=>s.heap.get? l=À { cls:=.type "list",dict:=Á,data:=.seq items n,slots:=#[] }/\s.heap.get? b=À { cls:=.type "list",dict:=Á,data:=.seq items2 n2,slots:=sl }/\R (.ok (.ret Ũ)) { s with heap:=s.heap.update l (ğ fun x=>x++items2),toks:=s.toks }) :=
 .of_wp fun c w A R s h=>by
  obtain⟨k,g,d,i,j⟩:=s;obtain⟨e,f,h⟩:=h;have r:=idx_int;have q:=W8;have p:=sub_list_list;have o:=sub_tuple_list;have m:=sub_list_tuple;have a:(items++items2).size<=Ë+1:=by rw[N!];exact hs2
  wp_walk using (Ż e rfl (hz:=hc1) (_hz':=a)),ż e,ż f;exact⟨_,rfl,h⟩
end PySem.AutoSeq1
namespace L2
open PySem PySem.Spec PyProof.Rows
section
variable{X:Cx}
def ID(K:á):V->List V->Hp->VK->Prop:=fun x d H Q=>∃l b c a,x=.ref l/\d=[.ref b]/\H l=À (.lst c)/\bR K H b a/\c.length+a.length<=Ë/\Q .non (ah H l (.lst (c++a)))
theorem Ek:CW X "list.extend" (ID X.K):=by
 intro P s E H x K v L Q I rx p h;obtain⟨l,b,J,G,rfl,rfl,j,hB,hz,q⟩:=h;cases rx;obtain⟨u,rfl,t⟩:=p.one;cases t;obtain⟨z,d,n,r,O,e⟩:=I.lstM j;obtain⟨a,r2,w,B⟩:=I.list hB;obtain⟨o,A,D,m,k,i⟩:=w;obtain⟨N,M,y,f⟩:=o;dsimp only at m k i;subst m;subst k;subst i;have C:=r2.length;have g:d.toArray.size+a.toArray.size<=Ë:=by rw[zI,zI];lia
 have c:¬(!d.toArray.isEmpty&&ñ (d.toArray.size+a.toArray.size))=Â:=by
  rw[notLongL g,Bool.and_false];exact Ĝ
 refine ŏ F.slot_list_extend ⟨_,e,rfl⟩ F.entry_list_extend (F.args_list_extend_2 _ _)
  (PySem.AutoSeq1.wx l d.toArray n b a.toArray A f c (by rw[zI];lia) oM) ⟨e,D,?_⟩
 refine⟨.non,_,I.lset (its':=d++a) j e (by simp) (r.append r2) ?_,rfl,q⟩;rw[zV];lia
end
end L2
namespace PySem.AutoSeq1
theorem EL(l:Ç)(items:Array Å)(n:Nat)(sl1:Array (Option Å))(b:Ç)(items2:Array Å)(n2:Nat)(sl:Array (Option Å))(hs2:items.size+items2.size<=Ë) :
  Meets (p?.«list.__add__» ⟨[.ref l,.ref b],[]⟩) (fun _ R s=>s.heap.get? l=À { cls:=.type "list",dict:=Á,data:=.seq items n,slots:=sl1 }/\s.heap.get? b=À { cls:=.type "list",dict:=Á,data:=.seq items2 n2,slots:=sl }/\R (.ok (.ret (ì s.heap.objs.size))) { s with heap:=s.heap.push { cls:=.type "list",data:=.seq (items++items2) },toks:=s.toks }) :=
 .of_wp fun c w A R s h=>by
  obtain⟨m,g,d,j,k⟩:=s;obtain⟨f,i,h⟩:=h;have t:=idx_int;have r:=W8;have q:=sub_list_list;have p:=sub_tuple_list;have o:=sub_list_tuple;have e:(items++items2).size<=Ë+1:=by rw[N!];lia
  have a:ñ (items.size+items2.size)=Ä:=L2.notLongL hs2
  wp_walk using ż f,ż i
  all_goals first|exact⟨_,rfl,h⟩|skip
end PySem.AutoSeq1
namespace L2
open PySem PySem.Spec PyProof.Rows
section
variable{X:Cx}
def IE(K:á):R2:=fun x y H Q=>∃l b c a,x=.ref l/\y=.ref b/\bR K H l c/\bR K H b a/\c.length+a.length<=Ë/\∀p,H p=Á->Q (.ref p) (ah H p (.lst (c++a)))
theorem Ed:lS X (Ŵ .Add) (IE X.K):=by
 intro U s L H x y v u Q I rx t h;obtain⟨l,b,N,M,rfl,rfl,J,hB,hz,q⟩:=h;cases rx;cases t;obtain⟨c,r,⟨B,D,g,p,n,j⟩,_⟩:=I.list J;obtain⟨a,r2,⟨A,C,k,o,m,i⟩,_⟩:=I.list hB;obtain⟨S,R,z,e⟩:=B;obtain⟨P,O,w,d⟩:=A;dsimp only at p n j o m i;subst p;subst n;subst j;subst o;subst m;subst i;have G:=r.length;have E:=r2.length;have f:c.toArray.size+a.toArray.size<=Ë:=by rw[zI,zI];lia
 refine wpAny_binaryOp_concat (T:="list") (id:="list.__add__") ⟨_,g,rfl⟩ ⟨_,k,rfl⟩ noFill_list_add (by rfl) ?_;refine ŏ F.slot_list_add ⟨_,g,rfl⟩ F.entry_list_add (F.args_list_add_2 _ _) (PySem.AutoSeq1.EL l c.toArray D e b a.toArray C d f) ⟨g,k,?_⟩;have K:c.toArray++a.toArray=(c++a).toArray:=by simp
 rw[K];exact⟨.ref _,_,I.lnew (t':=s.toks) (r.append r2) (by rw[zV];lia),rfl,q _ I.fresh⟩
end
section
variable{κ:Type}[DecidableEq κ]
noncomputable def fy(Oc:List (κ×V))(k:κ):Option V:=(Oc.find? fun a=>decide (a.1=k)).map (·.2)
noncomputable def fC(Oc:List (κ×V))(k:κ)(v:V):List (κ×V) :=
 if(Oc.any fun a=>decide (a.1=k))=Â then Oc.map (fun a=>if a.1=k then(a.1,v) else a) else Oc++[(k,v)]
theorem nA{p:κ×V}{r:List (κ×V)}{k:κ}(e:p.1=k):fy (p::r) k=À p.2:=by simp[fy,Ċ,e]
theorem nB{p:κ×V}{r:List (κ×V)}{k:κ}(e:¬p.1=k):fy (p::r) k=fy r k:=by simp[fy,Ċ,e]
theorem rn(k:κ):∀Oc:List (κ×V),(Oc.any fun kv=>decide (kv.1=k))=(fy Oc k).isSome
 |[]=>rfl
 |p::r=>by
  rw[Š];by_cases e:p.1=k
  ·simp only[nA e,yW e,Bool.true_or,ſ]
  ·rw[nB e,yA e,Bool.false_or];exact rn k r
theorem mL(Oc:List (κ×V))(k:κ)(v:V):(fC Oc k v).length<=Oc.length+1:=by
 unfold fC;split
 ·rw[zH];lia
 ·rw[zV,yY,S4];lia
theorem RelO.isSome_eq{o:Option V}{u:Option Å}(r:RelO o u):o.isSome=u.isSome:=by
 cases o with
 |none=>cases u with
  |none=>rfl
  | some _=>exact (show False from r).elim
 |some _=>cases u with
  | none=>exact (show False from r).elim
  |some _=>rfl
theorem KV.val{Oc:List (κ×V)}{vs:List (κ×Value)}(r:KV Oc vs)(k:κ):RelO (fy Oc k) (Ϯ vs k):=by
 unfold KV at r
 induction r with
 |nil=>exact True.intro
 |@cons p q i a h t f =>
  obtain⟨d,g⟩:=h;by_cases e:p.1=k
  ·have c:q.1=k:=d.symm.trans e
   have b:Ϯ (q::a) k=À q.2:=by simp[Ϯ,Ċ,c]
   rw[nA e,b];exact g
  ·have c:¬q.1=k:=fun z=>e (d.trans z)
   have b:Ϯ (q::a) k=Ϯ a k:=by simp[Ϯ,Ċ,c]
   rw[nB e,b];exact f
theorem KV.any{Oc:List (κ×V)}{vs:List (κ×Value)}(r:KV Oc vs)(k:κ):(Oc.any fun kv=>decide (kv.1=k))=vs.any fun kv=>decide (kv.1=k):=by
 unfold KV at r
 induction r with
 |nil=>rfl
 |cons h t a=>rw[Š,Š,a,h.1]
theorem KV.repl{Oc:List (κ×V)}{vs:List (κ×Value)}(r:KV Oc vs)(k:κ){y:V}{u:Å}(b:RelV y u) :
  KV (Oc.map fun kv=>if kv.1=k then(kv.1,y) else kv) (vs.map fun kv=>if kv.1=k then(kv.1,u) else kv):=by
 unfold KV at r ⊢
 induction r with
 |nil=>exact .nil
 |@cons p q g f h t c =>
  rw[zO,zO];refine .cons ?_ c;obtain⟨a,d⟩:=h;by_cases e:p.1=k
  ·rw[yI e,yI (a.symm.trans e)];exact⟨a,b⟩
  ·rw[yH e,yH (fun z=>e (a.trans z))];exact⟨a,d⟩
theorem KV.put{Oc:List (κ×V)}{vs:List (κ×Value)}(r:KV Oc vs)(k:κ){y:V}{u:Å}(a:RelV y u):KV (fC Oc k y) (stored vs k u):=by
 unfold fC stored;rw[r.any k];by_cases e:(vs.any fun b=>decide (b.1=k))=Â
 ·rw[yI e,yI e];exact r.repl k a
 ·rw[yH e,yH e];exact Paired.snoc r ⟨rfl,a⟩
theorem KV.length{Oc:List (κ×V)}{vs:List (κ×Value)}(r:KV Oc vs):Oc.length=vs.length:=Paired.length r
end
theorem oz{P:Ò}{w:Û}{k:aW}{u:Å}(r:RelV (kV k) u):(cg P w).is k u=Â:=by
 cases k with
 | inl i=>obtain ⟨t,e⟩:=(show ∃ t,u=e? i t from r);subst e;exact t9 P w i t
 | inr x=>obtain ⟨t,e⟩:=(show ∃ t,u=e! x t from r);subst e;exact t8 P w x t
theorem qp{P:Ò}{w:Û}:∀{ks:List aW}{us:List Å},Vals (ks.map kV) us->ItemsAre (cg P w) ks us
 |[],_,r=>by rw[ϙ]at r;cases r;exact .nil
 |k::ks,_,r=>by
  rw[zO]at r;cases r with
  |cons h t=>exact .cons (oz h) (qp t)
abbrev KT(H:Hp):List (List aW×V)->List (List aW×Addr×Value)->Prop:=O6 fun p q=>p.1=q.1/\H q.2.1=À (.tup (p.1.map kV))/\RelV p.2 q.2.2
theorem KT.val{H:Hp}{Oc:List (List aW×V)}{xs:List (List aW×Addr×Value)}(r:KT H Oc xs)(k:List aW):RelO (fy Oc k) ((x! xs k).map (·.2)):=by
 induction r with
 |nil=>exact True.intro
 |@cons p q i a h t f =>
  obtain⟨d,_,g⟩:=h;by_cases e:p.1=k
  ·have c:q.1=k:=d.symm.trans e
   have b:x! (q::a) k=À q.2:=by simp[x!,Ċ,c]
   rw[nA e,b];exact g
  ·have c:¬q.1=k:=fun z=>e (d.trans z)
   have b:x! (q::a) k=x! a k:=by simp[x!,Ċ,c]
   rw[nB e,b];exact f
theorem KT.repl{H:Hp}{Oc:List (List aW×V)}{xs:List (List aW×Addr×Value)}(r:KT H Oc xs)(k:List aW){y:V}{u:Å}(c:RelV y u) :
  KT H (Oc.map fun kv=>if kv.1=k then(kv.1,y) else kv) (xs.map (putAt k u)):=by
 induction r with
 |nil=>exact .nil
 |@cons p q i g h t d =>
  rw[zO,zO];refine .cons ?_ d;obtain⟨a,b,f⟩:=h;unfold putAt;by_cases e:p.1=k
  ·rw[yI e,yI (a.symm.trans e)];exact⟨a,b,c⟩
  ·rw[yH e,yH (fun z=>e (a.trans z))];exact⟨a,b,f⟩
theorem KT.put{H:Hp}{Oc:List (List aW×V)}{xs:List (List aW×Addr×Value)}(r:KT H Oc xs)(k:List aW){b:Ç}{y:V}{u:Å}(d:H b=À (.tup (k.map kV)))(a:RelV y u) :
  KT H (fC Oc k y) (storedH xs k b u):=by
 have e:(Oc.any fun c=>decide (c.1=k))=(x! xs k).isSome:=by
  rw[rn,(r.val k).isSome_eq,Ľ]
 unfold fC storedH;rw[e];by_cases q:(x! xs k).isSome=Â
 ·rw[yI q,yI q];exact r.repl k a
 ·rw[yH q,yH q];exact Paired.snoc r ⟨rfl,d,a⟩
theorem KT.keeps{H a:Hp}{Oc:List (List aW×V)}{xs:List (List aW×Addr×Value)}(r:KT H Oc xs)(c:∀b ys,H b=À (.tup ys)->a b=À (.tup ys)):KT a Oc xs :=
 Paired.mapP r fun _ _ z=>⟨z.1,c _ _ z.2.1,z.2.2⟩
section
variable{P:Ò}{w:Û}{H:Hp}{h:ä}{a:Ç}
theorem Cg{u:HO}(ok:HOk P w H h)(e:Rd H a u):ObjOk P w H h a u:=e.ok ok
theorem o9{Oc:List (aW×V)}(ok:HOk P w H h)(e:Rd H a (.dK Oc)):Oc.length<=Ë/\(a==ė)=Ä/\∃vs,KV Oc vs/\h.DictOf (cg P w) a vs :=
 show ObjOk P w H h a (.dK Oc) from Cg ok e
theorem CF{Oc:List (aW×V)}(ok:HOk P w H h)(e:H a=À (.dK Oc)):Oc.length<=Ë/\(a==ė)=Ä/\∃vs,KV Oc vs/\h.DictOf (cg P w) a vs:=o9 ok (.inl e)
theorem ly{ks:List aW}(ok:HOk P w H h)(e:H a=À (.tup (ks.map kV))):(Ų (cg P w)).is h ks a:=by
 obtain ⟨_,f,r,o,d,c,n,b⟩:=(show ObjOk P w H h a (.tup (ks.map kV)) from ok a _ e);exact ⟨o,f.toArray,n,d,c,b,by simpa using qp r⟩
theorem o8{Oc:List (List aW×V)}(ok:HOk P w H h)(e:Rd H a (.dT Oc)):Oc.length<=Ë/\(a==ė)=Ä /\
  ∃xs,KT H Oc xs/\h.DictOfH (Ų (cg P w)) a xs:=by
 obtain ⟨z,y,xs,r,o,n,s,k,j,i,g,f⟩:=(show ObjOk P w H h a (.dT Oc) from Cg ok e);refine ⟨z,y,xs,r,o,n,s,k,j,i,g,fun x b=>?_,f⟩;have all:∀ {l:List (List aW × V)}{m:List (List aW × Ç × Å)},KT H l m->∀ x ∈ m,(Ų (cg P w)).is h x.1 x.2.1:=by
  intro l m q
  induction q with
  |nil=>intro x b;exact nomatch b
  |@cons p q v u c t d =>
   intro x b;rcases zT.mp b with e|b
   ·subst e
    exact ly ok (by rw[<- c.1];exact c.2.1)
   ·exact d x b
 exact all r x b
theorem CC{Oc:List (List aW×V)}(ok:HOk P w H h)(e:H a=À (.dT Oc)):Oc.length<=Ë/\(a==ė)=Ä /\
  ∃xs,KT H Oc xs/\h.DictOfH (Ų (cg P w)) a xs:=o8 ok (.inl e)
end
def DGet(H:Hp)(a:Ç)(y:V)(r:Option V):Prop :=
 (∃c k,Rd H a (.dK c)/\y=kV k/\r=fy c k)\/∃c k b,Rd H a (.dT c)/\y=.ref b/\H b=À (.tup (k.map kV))/\r=fy c k
def DPut(H:Hp)(a:Ç)(y v:V)(d:Hp):Prop :=
 (∃c k,H a=À (.dK c)/\y=kV k/\c.length<Ë/\d=ah H a (.dK (fC c k v))) \/
 ∃c k b,H a=À (.dT c)/\y=.ref b/\H b=À (.tup (k.map kV))/\c.length<Ë/\d=ah H a (.dT (fC c k v))
theorem DGet.k{H:Hp}{a:Ç}{Oc:List (aW×V)}{k:aW}(e:H a=À (.dK Oc)):DGet H a (kV k) (fy Oc k):=.inl ⟨Oc,k,.inl e,rfl,rfl⟩
theorem DGet.t{H:Hp}{a b:Ç}{Oc:List (List aW×V)}{k:List aW}(e:H a=À (.dT Oc))(c:H b=À (.tup (k.map kV))):DGet H a (.ref b) (fy Oc k):=.inr ⟨Oc,k,b,.inl e,rfl,c,rfl⟩
theorem DPut.k{H:Hp}{a:Ç}{Oc:List (aW×V)}{k:aW}{v:V}(e:H a=À (.dK Oc))(b:Oc.length<Ë):DPut H a (kV k) v (ah H a (.dK (fC Oc k v))):=.inl ⟨Oc,k,e,rfl,b,rfl⟩
theorem DPut.t{H:Hp}{a b:Ç}{Oc:List (List aW×V)}{k:List aW}{v:V}(e:H a=À (.dT Oc))(d:H b=À (.tup (k.map kV)))(c:Oc.length<Ë) :
  DPut H a (.ref b) v (ah H a (.dT (fC Oc k v))):=.inr ⟨Oc,k,b,e,rfl,d,c,rfl⟩
section
variable{X:Cx}{Oa:List (Ç×Obj)}{σ:St}{H:Hp}{s:É}{a:Ç}{y v:V}{u r:Å}{o:Option V}{A:ċ}{E:Å->É->Prop}
theorem Inv.big(I:Inv X Oa σ H s):ė<s.heap.objs.size:=by
 have h:Ð<s.heap.objs.size:=(I.mod.glob.keeps I.bk).lt;exact z? dC h
theorem zd{Q:Å->É->Prop}(t:A.units+1<ŋ)(I:Inv X Oa σ H s)(g:DGet H a y (À v))(n:RelV y u)(h:∀w' s',Inv X Oa σ H s'->RelV v w'->Q w' s') :
  Í (model X.prog X.w) A (O1 (.ref a) u) Q E s:=by
 rcases g with⟨B,k,e,j,l⟩|⟨B,k,b,e,j,x,l⟩
 ·subst j
  obtain⟨z,hd,r,d,m⟩:=o9 I.Oi e;obtain⟨w',f,c⟩:=RelO.some_of (v:=v) (o:=Ϯ r k) (by rw[l];exact d.val k);exact wpAny_getItem_of (oz n) m.mapOf f (h w' _ (I.tok _) c)
 ·subst j
  cases (show u=ì b from n);obtain ⟨z,hd,q,d,m⟩:=o8 I.Oi e;obtain ⟨w',f,c⟩:=RelO.some_of (v:=v) (o:=(x! q k).map (·.2)) (by rw [l];exact d.val k);obtain ⟨p,w,i⟩:=zE.mp f;refine wpAny_getItem_heap (š t) (ly I.Oi x) m w ?_;rw [i];exact h w' _ (I.tok _) c
theorem L7{Q:Å->É->Prop}(j:A.units+1<ŋ)(I:Inv X Oa σ H s)(g:DGet H a y o)(i:RelV y u)(h:∀s',Inv X Oa σ H s'->Q (.bool o.isSome) s') :
  Í (model X.prog X.w) A (đ .In u (.ref a)) Q E s:=by
 rcases g with⟨n,k,e,d,l⟩|⟨n,k,b,e,d,m,l⟩
 ·subst d
  obtain⟨z,hd,r,c,f⟩:=o9 I.Oi e;refine wpAny_in_of (oz i) hd f.mapOf ?_;rw[<- (c.val k).isSome_eq,<- l];exact h _ (I.tok _)
 ·subst d
  cases (show u=ì b from i);obtain ⟨z,hd,p,c,f⟩:=o8 I.Oi e;refine wpAny_in_heap (š j) (ly I.Oi m) hd f ?_;have q:=(c.val k).isSome_eq;rw [Ľ] at q;rw [<- q,<- l];exact h _ (I.tok _)
theorem EE{Q:Å->É->Prop}(j:A.units+1<ŋ)(I:Inv X Oa σ H s)(g:DGet H a y o)(i:RelV y u)(h:∀s',Inv X Oa σ H s'->Q (.bool (!o.isSome)) s') :
  Í (model X.prog X.w) A (đ .NotIn u (.ref a)) Q E s:=by
 rcases g with⟨n,k,e,d,l⟩|⟨n,k,b,e,d,m,l⟩
 ·subst d
  obtain⟨z,hd,r,c,f⟩:=o9 I.Oi e;refine wpAny_notIn_of (oz i) hd f.mapOf ?_;rw[<- (c.val k).isSome_eq,<- l];exact h _ (I.tok _)
 ·subst d
  cases (show u=ì b from i);obtain ⟨z,hd,p,c,f⟩:=o8 I.Oi e;refine wpAny_notIn_heap (š j) (ly I.Oi m) hd f ?_;have q:=(c.val k).isSome_eq;rw [Ľ] at q;rw [<- q,<- l];exact h _ (I.tok _)
theorem vh{h':ä}{t':Nat}{c:HO}(I:Inv X Oa σ H s)(d:zx (H a))(f:Ĭ a s.heap h')(he:∃q,h'.get? a=À q)(new:ObjOk X.prog X.w (ah H a c) h' a c) :
  Inv X Oa σ (ah H a c) { s with heap:=h',toks:=t' } :=
 I.write (x:=a) (e:=a) d (.inl rfl) (fun b q g z=>(f.2 b g).trans z) he new
theorem HH{P:Ò}{w:Û}{d:Hp}{h':ä}{Oc:List (aW×V)}{vs:List (aW×Value)}(z:Oc.length<=Ë)(hd:(a==ė)=Ä)(b:KV Oc vs)(c:h'.DictOf (cg P w) a vs) :
  ObjOk P w d h' a (.dK Oc):=⟨z,hd,vs,b,c⟩
theorem qz{F:Hp}{Q:Unit->É->Prop}(K:A.units+1<ŋ)(I:Inv X Oa σ H s)(g:DPut H a y v F)(w:RelV y u)(x:RelV v r)(h:∀s',Inv X Oa σ F s'->Q () s') :
  Í (model X.prog X.w) A (ϔ (.ref a) u r) Q E s:=by
 rcases g with⟨i,k,e,o,l,p⟩|⟨i,k,b,e,o,D,l,p⟩
 ·subst o p
  obtain⟨z,hd,J,d,t⟩:=CF I.Oi e;have hz:J.length<=Ë:=by rw[<- d.length];exact z
  have n:(fC i k v).length<=Ë:=by have:=mL i k v;lia
  refine wpAny_setItem_pairs (hsz:=hz) (oz w) t fun B f m=>h _ ?_
  have L:∃q,B.get? a=À q:=let⟨q,_,_,j,_⟩:=f;⟨q,j⟩;exact vh I (by rw[e];exact True.intro) m L (HH n hd (d.put k x) f)
 ·subst o p
  cases (show u=ì b from w);obtain ⟨z,hd,G,d,t⟩:=CC I.Oi e;have hz:G.length <= Ë:=by rw [<- Paired.length d];exact z
  have n:(fC i k v).length<=Ë:=by have:=mL i k v;lia
  refine wpAny_setItem_heap (hsz:=hz) (š K) (ly I.Oi D) t fun B f m=>h _ ?_
  obtain⟨q,R,S,j,P,O,N,_,M⟩:=f;refine vh I (by rw[e];exact True.intro) m ⟨q,j⟩ ⟨n,hd,_,(d.put k D x).keeps fun c T C=>?_,q,R,S,j,P,O,N,M⟩;rw[ad (v6 C e (fun z=>nomatch z))];exact C
end
theorem ud{X:Cx}{Oa:List (Ç×Obj)}{σ:St}{H:Hp}{s:É}{a:Ç}{y:V}{o:Option V}(I:Inv X Oa σ H s)(g:DGet H a y o):s.TypeIs (.ref a) "dict":=by
 rcases g with⟨d,k,e,_,_⟩|⟨d,k,b,e,_,_,_⟩
 ·obtain⟨_,_,h,_,c⟩:=o9 I.Oi e
  exact c.typeIs
 ·obtain⟨_,_,f,_,c⟩:=o8 I.Oi e
  exact c.typeIs
theorem BG{P:Ò}{w:Û}{H:Hp}(h:ä)(a:ė<h.objs.size):ObjOk P w H (h.push { cls:=.type "dict",data:=.dict #[] }) h.objs.size (.dK []) :=
 ⟨û _,beq_eq_false_iff_ne.mpr (ã (zU a)),[],.nil,Heap.DictOf.new h⟩
def xb:TE:=fun _ H Q=>∀p,H p=Á->Q (.ref p) (ah H p (.dK []))
section
variable{X:Cx}{pos:ġ}
theorem AW:PE X (.Dict [] [] pos) xb:=fun c s b H Q I h =>
 wpAny_Dict_empty ⟨.ref s.heap.objs.size,_,I.laid (a:=s.heap.objs.size) (o:=.dK []) (t':=s.toks) (fun _ _ q=>zG _ q) (zP _) (BG s.heap I.big),rfl,h _ (I.Oi.fresh (zP _))⟩
end
open PySem.Calls
section
variable{prog:Ò}{w:Û}{A:ċ}{E:Å->É->Prop}{s:É}
theorem wc(d:Ç)(hd:(d==ė)=Ä) :
  MeetsIn prog w (p?.«dict.__len__» ⟨[.ref d],[]⟩) (fun _ R s=>∃xs:List (List aW×Addr×Value),s.heap.DictOfH (Ų (cg prog w)) d xs/\R (.ok (.ret (.int xs.length s.toks))) { s with toks:=s.toks+1 }) :=
 .of_wp fun A R s b=>by
  obtain⟨i,e,h⟩:=b;obtain⟨o,g,m,c,l,a,f,j,k⟩:=e;show Í _ _ (dictSize d>>=_) _ _ s;unfold dictSize;refine yF (yF (wpAny_dictEntries c a (yG ?_)));show Í _ _ (X6 d>>=_) _ _ s;refine yF (wpAny_pendingCount_other hd ?_);refine wpAny_ret_mkInt ?_;have:g.size=i.length:=size_of_entries f;simpa [this] using h
theorem wB(hd:(d==ė)=Ä)(hm:s.heap.DictOfH (Ų (cg prog w)) d xs)(hfit:(xs.length:Int)<2^63)
  (h:Q (.int xs.length (s.toks+1)) { s with toks:=s.toks+1+1 }):Í (model prog w) A (call (.builtin "len") [.ref d]) Q E s:=by
 refine Calls.call_function_entry kind_len plain_len entry_len (args_len1 _) ?_;unfold p?.«len»;refine yF (m:=oneArg "len" _) (yG ?_);refine yF (m:=callSpecial? (.ref d) (ù "__len__")) (wpAny_callSpecial?_slot (name:=ù "__len__") hm.typeIs g?
  (call_meetsIn g? hm.typeIs PySem.F.entry_dict_len (PySem.F.args_dict_len_1 _) (wc d hd) ⟨xs,hm,?_⟩))
 show Í _ _ _ _ _ { s with toks:=s.toks+1 };refine yF (yS (yG ?_));refine yF (ώ ?_);show Í _ _ (if((xs.length:Nat):Int)<0 then _ else _) _ _ _;rw[yH oM];show Í _ _ (if((xs.length:Nat):Int) ≥ 2^63 then _ else _) _ _ _;rw[yH oM];exact yF (wpAny_mkInt (yG ⟨_,rfl,h⟩))
end
section
variable{X:Cx}
theorem zj:cM X (.builtin "len") (fun xs H Q=>∃a Oc,xs=[V.ref a]/\H a=À (.dT Oc)/\Q (.int Oc.length) H):=by
 intro j s g H xs i Q I r h;obtain⟨a,Oc,rfl,e,q⟩:=h;obtain⟨u,rfl,d⟩:=eI r;cases d;obtain⟨z,hd,xs,b,f⟩:=CC I.Oi e;have c:=Paired.length b;refine wB hd f (by rw[<- c];rw[Ϗ]at z;lia) ?_;rw[<- c];exact⟨.int Oc.length,H,I.tok _,⟨_,rfl⟩,q⟩
end
end L2
namespace DD
open PySem PySem.Spec PyProof.Rows L2
section
variable{K:á}{F F':Ç->Prop}{H H':Hp}{A:List Ç}
open Classical in
variable{σD:DSt}{σ:L2.St}{R:Ro}{d:D}{v:V}
end
end DD
namespace L2
open PySem PySem.Spec PyProof.Rows
noncomputable def CZ(x:Ì):It:=⟨fun i _=>∃c,x.cps[i]?=À c,fun i H v a=>a=H/\∃c,x.cps[i]?=À c/\v=.str ⟨#[c]⟩,fun i _=>x.cps[i]?=Á⟩
theorem Ai{P:Ò}{w:Û}{K:á}{L:Î}(x:Ì)(t:Tok)(it:Ç):kN P w K L (CZ x) [it] it (fun i h=>h.IsStrIter it "str_ascii_iterator" x t i) where
 mem:=by simp
 obj:=fun i h a b f=>by
  have e:b=it:=by simpa using f
  subst e;obtain⟨o,e,c,d⟩:=a;exact⟨o,e,fun v z=>by rw[d]at z;cases z⟩
 keep:=fun i h l a k=>by
  obtain⟨o,e,r⟩:=a;exact⟨o,k it (by simp) o e,r⟩
 item:=by
  intro X p m q G i J s D H E I j a n;subst p m q;obtain⟨c,F⟩:=n;obtain⟨C,B,N,A,y,u⟩:=j it (by simp);refine wpAny_pyNext_ascii_item a F fun l g M=>?_
  have Q:Inv X J D H { s with heap:=l,toks:=s.toks+1 }:=I.turned (fun b o f e=>(M.2 b f).trans e) C B A y u;obtain⟨o,e,cl,d⟩:=id g;exact⟨_,rfl,oS (s:={ s with heap:=l,toks:=s.toks+1 }) e cl d dC ⟨.str ⟨#[c]⟩,H,Q,⟨_,rfl⟩,⟨rfl,c,F,rfl⟩,g,fun b f=>(j b f).1⟩⟩
 done:=by
  intro X p m q G i J s D H E I j a n;subst p m q;obtain⟨C,B,N,A,y,u⟩:=j it (by simp);exact wpAny_pyNext_ascii_end (I.ok.hd G) a n fun l O=>⟨rfl,I.turned (t':=s.toks) (fun b o f e=>O b o f e) C B A y u⟩
 self:=fun _ _ _ _ _ a h=>wpAny_pyIter_striter_ascii a h
section
variable{X:Cx}{pos:ġ}
def Dh(d:TA):TE:=fun b H Q=>d b H fun c a=>∃i j:Nat,c=[.int (i:Int),.int (j:Int)]/\i<=j/\j<=1000/\∀p,a p=Á->Q (.ref p) (ah a p (.lst ((ģ i (j-i)).map fun(q:Nat)=>V.int (q:Int))))
theorem xG(T:X.calm=Â)(D:Gl X "list")(B:X.mg "list"=Á)(C:Gl X "range")(A:X.mg "range"=Á)(U:PA X [a,b] ta)
  (P:autoParam (Ê [a,b] X.env=[(Ä,eval a X.env),(Ä,eval b X.env)]) Ax2._auto_1) (g:autoParam (Ê [b] X.env=[(Ä,eval b X.env)]) Ax2._auto_1) (l:autoParam (Ê [.Call (.Name "range" p2) [a,b] [] pos2] X.env=[(Ä,eval (.Call (.Name "range" p2) [a,b] [] pos2) X.env)]) Ax2._auto_1) :
  PE X (.Call (.Name "list" p1) [.Call (.Name "range" p2) [a,b] [] pos2] [] pos) (Dh ta):=by
 intro G s E H Q I h;refine M' (dQ I D B kF (Ô ?_ (by rw[l];rfl) (by rfl)));rw[l];refine Calls.spliced_cons (M' (dQ I C A w! (Ô (aD (U pos2 G s E H _ I h) fun L m z=>?_) (by rw[P,g]) (by rw[g];rfl))));obtain⟨vs,H1,I1,r1,i,j,e,S,hj,q⟩:=z;subst e;obtain⟨u1,p,rfl,x,r2⟩:∃u c,L=u::c/\RelV (.int (i:Int)) u/\Vals [.int (j:Int)] c:=by cases r1 with|cons r y=>exact⟨_,_,rfl,r,y⟩
 obtain⟨u2,K,rfl,w,O⟩:∃u c,p=u::c/\RelV (.int (j:Int)) u/\Vals [] c:=by cases r2 with|cons r y=>exact⟨_,_,rfl,r,y⟩
 cases O;obtain⟨N,rfl⟩:=x;obtain⟨M,rfl⟩:=w;refine call_range_2 (Calls.spliced_nil ?_);have J:Inv X G E H1 { m with heap:=m.heap.push { cls:=.type "range",data:=.fields #[.int (i:Int) N,.int (j:Int) M,.int 1 m.toks] },toks:=m.toks+1 }:=I1.kept fun b o e=>zG _ e
 refine X! (n:=j-i) (I.ok.hd T) (IsRange.new ..) (V0 oM oM oM oM) (by rw[C?];split<;>lia) oM fun h' tk d Z R W f=>?_
 have F:=j7 d.toList i (fun k v e=>by
  obtain⟨t,Y⟩:=f.2 k v (by simpa using e);exact⟨t,by rw[Y];congr 1;lia⟩)
 rw[show d.toList.length=j-i by simpa using f.1]at F;exact⟨.ref _,_,J.laid (o:=.lst ((ģ i (j-i)).map fun(q:Nat)=>V.int (q:Int))) R (zP _) ⟨yZ (qc (by simp;lia)),d.toList,Z,F,W⟩,rfl,q _ J.fresh⟩
end
def C2(X:Cx)(Oa:List (Ç×Obj))(b:Ç):Prop:=b≠X.env.locals/\b∉X.fs/\(b∈X.ex\/X.s₀.heap.objs.size<=b)/\(∀x c,X.env.cells.lookup x=À c->c≠b)/\∀p∈X.pn++Oa,p.1≠b
section
variable{X:Cx}{Oa:List (Ç×Obj)}{σ:St}{key:Å}{kw:List (Ì×Value)}{l I S:Ç}{ns:List Int}{R:Result->É->Prop}
theorem A9(hh:X.A.handled=Á)(kf:Nat->Int)(J:Nat->Hp->Prop)(hl:∀i H,J i H->bR X.K H l (ns.map V.int))
  (turn:∀(i:Nat)(n:Int)(u:Å)(pl:List (Ç×Obj))(s:É)(H:Hp),ns[i]?=À n->RelV (V.int n) u->J i H->Inv X (Oa++pl) σ H s->(key=.none/\kf i=n/\J (i+1) H) \/
   ∃q,key=.ref q/\Í (model X.prog X.w) X.A.in1 (call (.ref q) [u]) (EP X (Oa++pl) σ (fun y H'=>y=.int (kf i)/\J (i+1) H')) (fun _ _=>False) s)
  (hR:∀(i:Nat)(n:Int)(u:Å)(H:Hp)(s:É),ns[i]?=À n->(∀j,j<ns.length->kf i<=kf j/\(j<i->kf i<kf j))->J ns.length H->Inv X Oa σ H s->RelV (V.int n) u->R (.ok (.ret u)) s)
  (K:C2 X Oa I) (G:C2 X Oa S) (hIS:I≠S) :
  ∀(r j i:Nat)(H:Hp)(s:É)(vb:Å)(tb:Tok)(c:Nat),ns.length-(j+1)=r->j+1<=ns.length->Inv X Oa σ H s->H I=Á->H S=Á ->
   s.heap.get? S=À (Ů "list" #[vb,.int (kf i) tb] c)->s.heap.IsListIter I l (j+1)->(∃n,ns[i]?=À n/\RelV (V.int n) vb)->i<=j->J (j+1) H->(∀j',j'<=j->kf i<=kf j'/\(j'<i->kf i<kf j')) ->
   ł (model X.prog X.w) X.A (.builtin "min.loop" ⟨[.ref I,key,.ref S],kw⟩) R s:=by
 have hname:(toString "min"++toString ".loop":String)="min.loop":=by decide
 intro r
 induction r with
 |zero =>
  intro j i H s vb tb c hr hj Iv nI nS gS it U hij hJ hb;have hin:j+1=ns.length:=by lia
  obtain⟨p,rv,pl,_⟩:=Iv.list (hl _ _ hJ);have Q:p.length=ns.length:=by rw[<- rv.length,zH]
  have hL:s.heap.IsList l p.toArray:=pl.isList;have Z:l≠I:=fun e=>by
   obtain⟨o,E,L,_⟩:=hL;obtain⟨o',e3,e4,_⟩:=it;rw[e,e3]at E;cases E;rw[e4]at L;simp at L
  have W:=Walks.list (prog:=X.prog) (w:=X.w) (A:=X.A.in1) hh I l Z p.toArray;have Y:p.toArray.size=p.length:=zI ..;refine ž ţ ?_;rw[Around.under_plainId Ă _];show Í _ X.A.in1 (V6 (.ref S)>>=_) _ _ _;refine yF (r? gS rfl ?_);show Í _ X.A.in1 (tryCatch (t? (.ref I)) _>>=_) _ _ _;refine yF (ĳ (W.done _ _ _ ⟨by rw[Y,Q,<- hin];exact it,hL⟩ fun T B D=>?_));have V1:Inv X Oa σ H { s with heap:=T,toks:=B }:=Iv.turned (fun b o a e=>D b o (by simpa using a) e) nI K.1 K.2.2.1 K.2.2.2.1 K.2.2.2.2;have F:=D S _ (by simpa using hIS.symm) gS;show Í _ X.A.in1 (I? S (fun _=>#[])>>=_) _ _ _;refine yF ?_;refine Ż F rfl (yF (ώ (yG ?_)));obtain⟨n,E,L⟩:=U;have s1:=ŧ T S (ğ fun _=>(#[]:Array Å));exact hR i n vb H _ E (fun j' hj'=>hb j' oM) (hin▸hJ) (V1.turned (t':=B) (fun b o a e=>(s1.2 b a).trans e) nS G.1 G.2.2.1 G.2.2.2.1 G.2.2.2.2) L
 |succ r ih =>
  intro j i H s vb tb c hr hj Iv nI nS gS it U hij hJ hb;have hlt:j+1<ns.length:=by lia
  obtain⟨p,rv,pl,_⟩:=Iv.list (hl _ _ hJ);have Q:p.length=ns.length:=by rw[<- rv.length,zH]
  have hL:s.heap.IsList l p.toArray:=pl.isList;have Z:l≠I:=fun e=>by
   obtain⟨o,E,L,_⟩:=hL;obtain⟨o',e3,e4,_⟩:=it;rw[e,e3]at E;cases E;rw[e4]at L;simp at L
  have W:=Walks.list (prog:=X.prog) (w:=X.w) (A:=X.A.in1) hh I l Z p.toArray;have Y:p.toArray.size=p.length:=zI ..;refine ž ţ ?_;rw[Around.under_plainId Ă _];show Í _ X.A.in1 (V6 (.ref S)>>=_) _ _ _;refine yF (r? gS rfl ?_);show Í _ X.A.in1 (tryCatch (t? (.ref I)) _>>=_) _ _ _;refine yF (ĳ (W.item (j+1) _ _ _ (by rw[Y];lia) ⟨it,hL⟩ fun u T B hP hst' D=>?_));have hu:p[j+1]?=À u:=by simpa using hP
  obtain⟨n,hn⟩:∃n,ns[j+1]?=À n:=⟨_,zF hlt⟩;have ru:RelV (V.int n) u:=by
   obtain⟨u',E,L⟩:=rv.get (i:=j+1) (x:=V.int n) (by rw[zR,hn];rfl);rw[hu]at E;cases E;exact L
  have V1:Inv X Oa σ H { s with heap:=T,toks:=B }:=Iv.turned (fun b o a e=>D b o (by simpa using a) e) nI K.1 K.2.2.1 K.2.2.2.1 K.2.2.2.2;have F:=D S _ (by simpa using hIS.symm) gS;have hf:∀b∈[I,S],dW X Oa H b:=fun b a=>by
   rcases zT.mp a with rfl|a
   ·exact⟨nI,K⟩
   ·rw[zM.mp a];exact⟨nS,G⟩
  obtain⟨oI,goI,coI,doI⟩:=hst'.1;have ho:∀b∈[I,S],∃o,T.get? b=À o/\∀v:Option Å,o.data≠.cell v:=fun b a=>by
   rcases zT.mp a with rfl|a
   ·exact⟨_,goI,fun v z=>by rw[doI]at z;cases z⟩
   ·rw[zM.mp a];exact⟨_,F,fun v z=>nomatch z⟩
  have V2:Inv X (Oa++gE [I,S] T) σ H { s with heap:=T,toks:=B }:=V1.pinned hf ho
  have O:∀(f:Tok)(H2:Hp)(N:É),Inv X (Oa++gE [I,S] T) σ H2 N->J (j+1+1) H2->∀(Rf:O2->É->Prop)(Ef:Å->É->Prop),
    (∀C m g k t3 c3,Inv X Oa σ m C->m I=Á->m S=Á->C.heap.get? S=À (Ů "list" #[g,.int (kf k) t3] c3)->C.heap.IsListIter I l (j+1+1)->(∃n,ns[k]?=À n/\RelV (V.int n) g)->k<=j+1->J (j+1+1) m->(∀j',j'<=j+1->kf k<=kf j'/\(j'<k->kf k<kf j')) ->
     Rf (.again (.builtin "min.loop" ⟨[.ref I,key,.ref S],kw⟩)) C) ->
    Í (model X.prog X.w) X.A.in1 ((do
     let M <- tryCatch (holding [u,.int (kf (j+1)) f] do
      let d <- richCompare .Lt (.int (kf (j+1)) f) (.int (kf i) tb)
      let yes <- holding [d] (truthy d)
      letGo [d]
      pure yes) fun e=>do
       I? S fun _=>#[]
       letGo ([.int (kf (j+1)) f,u]++[vb,.int (kf i) tb].reverse) [e]
       throw e
     if M=Â then do
      I? S fun _=>#[u,.int (kf (j+1)) f]
      letGo [.int (kf i) tb,vb]
      again (.builtin "min.loop" ⟨[.ref I,key,.ref S],kw⟩)
     else do
      letGo [u,.int (kf (j+1)) f]
      again (.builtin "min.loop" ⟨[.ref I,key,.ref S],kw⟩)):V9 O2) Rf Ef N:=by
   intro f H2 N V3 J3 Rf Ef au;have pI:=V3.pin (I,oI) (zK _ (zK _ (dq (by simp) goI)));have pS:=V3.pin (S,Ů "list" #[vb,.int (kf i) tb] c) (zK _ (zK _ (dq (by simp) F)));have V4:Inv X Oa σ H2 N:=V3.unpinned;refine yF (ĳ (yS (yF (CmpOf.ints_lt (prog:=X.prog) (w:=X.w) (A:=X.A.in1) (P:=fun i v=>∃t,v=.int (kf i) t) kf (fun i v h=>h) (j+1) i _ _ _ _ _ ⟨f,rfl⟩ ⟨tb,rfl⟩ ?_))));refine yF (yS (Ĩ ?_));refine yF (ώ (yG ?_));have it2:N.heap.IsListIter I l (j+1+1):=⟨oI,pI.1,coI,doI⟩;by_cases a:kf (j+1)<kf i
   ·simp only[a,decide_true,if_true]
    have s1:=ŧ N.heap S (ğ fun _=>#[u,.int (kf (j+1)) f]);obtain⟨c2,hc2⟩:∃c2,(N.heap.update S (ğ fun _=>#[u,.int (kf (j+1)) f])).get? S=À (Ů "list" #[u,.int (kf (j+1)) f] c2):=⟨_,W9 pS.1 fun _=>#[u,.int (kf (j+1)) f]⟩;refine yF ?_;refine Ż pS.1 rfl (yF (ώ (yG ?_)));obtain⟨sh,sg,sd,stk,sos⟩:=N;refine au _ H2 u (j+1) f c2 (V4.turned (t':=stk) (fun b o hb'' e=>(s1.2 b hb'').trans e) pS.2.1 G.1 G.2.2.1 G.2.2.2.1 G.2.2.2.2) pI.2.1 pS.2.1 hc2 ⟨oI,(s1.2 I hIS).trans pI.1,coI,doI⟩ ⟨n,hn,ru⟩ (zP _) J3 fun j' hj'=>?_
    by_cases e:j'=j+1
    ·subst e
     exact⟨by lia,fun _=>by lia⟩
    ·have hb1:=hb j' oM
     have hb2:=hb1.1;exact⟨by lia,fun _=>by lia⟩
   ·simp only[a,decide_false,yB,if_false]
    refine yF (ώ (yG ?_));refine au _ H2 vb i tb c V4 pI.2.1 pS.2.1 pS.1 it2 U oM J3 fun j' hj'=>?_
    by_cases e:j'=j+1
    ·subst e
     exact⟨by lia,fun _=>by lia⟩
    ·exact hb j' oM
  have au:∀C m g k t3 c3,Inv X Oa σ m C->m I=Á->m S=Á->C.heap.get? S=À (Ů "list" #[g,.int (kf k) t3] c3)->C.heap.IsListIter I l (j+1+1)->(∃n,ns[k]?=À n/\RelV (V.int n) g)->k<=j+1->J (j+1+1) m->(∀j',j'<=j+1->kf k<=kf j'/\(j'<k->kf k<kf j')) ->
    ((Code.builtin "min.loop" ⟨[.ref I,key,.ref S],kw⟩).quiet=Â/\ł (model X.prog X.w) X.A (.builtin "min.loop" ⟨[.ref I,key,.ref S],kw⟩) R C):=fun C m g k t3 c3 a1 a2 a3 a4 a5 a6 a7 a8 a9 =>
   ⟨D! Ă _,ih (j+1) k m C g t3 c3 oM hlt a1 a2 a3 a4 a5 a6 a7 a8 a9⟩
  rcases turn (j+1) n u _ _ H hn ru hJ V2 with⟨hk0,hkf,J2⟩|⟨q,hkq,call0⟩
  ·subst hk0
   obtain⟨f,rfl⟩:=ru;refine yF (yG ?_)
   have:=O f H _ V2 J2
   rw[hkf]at this;exact this _ _ au
  ·subst hkq
   refine yF (ĳ (yS (yT call0 (fun x s'' he=>?_) fun _ _ hF=>hF.elim)));obtain⟨y,m,V3,ry,rfl,J3⟩:=he;obtain⟨f,rfl⟩:=ry;exact O f m s'' V3 J3 _ _ au
end
section
variable{X:Cx}{Oa:List (Ç×Obj)}{σ:St}{ko:Option Å}{kws:List (Ì×Value)}{l:Ç}{ns:List Int}{H:Hp}{s:É}{Q:VK}{E:Å->É->Prop}
theorem sA(hh:X.A.handled=Á)(kf:Nat->Int)(J:Nat->Hp->Prop)(hl:∀i H,J i H->bR X.K H l (ns.map V.int))
  (hb:ŵ "min" ["key","default"] 0 ⟨[],kws⟩=pure [ko,À .none]) (ha:x? "min" ⟨[.ref l],kws⟩)
  (turn:∀(i:Nat)(n:Int)(u:Å)(pl:List (Ç×Obj))(s:É)(H:Hp),ns[i]?=À n->RelV (V.int n) u->J i H->Inv X (Oa++pl) σ H s->(ko.getD .none=.none/\kf i=n/\J (i+1) H) \/
   ∃q,ko.getD .none=.ref q/\Í (model X.prog X.w) X.A.in1 (call (.ref q) [u]) (EP X (Oa++pl) σ (fun y H'=>y=.int (kf i)/\J (i+1) H')) (fun _ _=>False) s)
  (hQ:∀(i:Nat)(n:Int)(H:Hp),ns[i]?=À n->(∀j,j<ns.length->kf i<=kf j/\(j<i->kf i<kf j))->J ns.length H->Q (.int n) H) (hE:ns=[]->Q .non H)
  (Iv:Inv X Oa σ H s) (J0:J 0 H):Í (model X.prog X.w) X.A (call (.builtin "min") [.ref l] kws) (EP X Oa σ Q) E s:=by
 have C:(toString "min"++toString ".loop":String)="min.loop":=by decide
 obtain⟨G,rv,pl,_⟩:=Iv.list (hl _ _ J0);have U:G.length=ns.length:=by rw[<- rv.length,zH]
 have hL:s.heap.IsList l G.toArray:=pl.isList;obtain⟨ol,B,_⟩:=id hL;have hll:l<s.heap.objs.size:=yJ B;refine kmk_tree PySem.F.kind_min PySem.F.plain_min PySem.F.entry_min ha ?_;show Í _ X.A.in1 (ŵ "min" ["key","default"] 0 ⟨[],kws⟩>>=_) _ _ s;refine yF (wpAny_of_eq hb ?_);refine yF (yG ?_);refine yF (ĩ hL ?_);refine yF (wpAny_newList ?_ (û _));rw[C];have hS:(s.heap.push { cls:=.type "list_iterator",data:=.fields #[.ref l,.int 0 0] }).objs.size=s.heap.objs.size+1:=size_push' ..;have hlI:l≠s.heap.objs.size:=zU hll;refine yG ⟨D! Ă _,?_⟩;generalize hI:s.heap.objs.size=I at *;generalize hSS:(s.heap.push { cls:=.type "list_iterator",data:=.fields #[.ref l,.int 0 0] }).objs.size=S at *;have nI:H I=Á:=by rw[<- hI];exact Iv.fresh
 have nS:H S=Á:=Iv.Oi.fresh (by rw[hS,hI];lia);have D:I≠S:=by rw[hS];lia
 have gI:((s.heap.push { cls:=.type "list_iterator",data:=.fields #[.ref l,.int 0 0] }).push (Ů "list" #[] 0)).get? I=À { cls:=.type "list_iterator",data:=.fields #[.ref l,.int 0 0] }:=by
  rw[<- hI];exact zG _ (zY _ rfl)
 have gS:((s.heap.push { cls:=.type "list_iterator",data:=.fields #[.ref l,.int 0 0] }).push (Ů "list" #[] 0)).get? S=À (Ů "list" #[] 0):=by
  rw[<- hSS];exact zY _ rfl
 have kp:∀b o,s.heap.get? b=À o->((s.heap.push { cls:=.type "list_iterator",data:=.fields #[.ref l,.int 0 0] }).push (Ů "list" #[] 0)).get? b=À o:=fun b o e=>zG _ (zG _ e)
 have g:C2 X Oa I:=(Iv.fpOk (b:=I) (Ϝ hI) nI).2;have M:C2 X Oa S:=(Iv.fpOk (b:=S) (by rw[hS,hI];lia) nS).2;generalize hH1:((s.heap.push { cls:=.type "list_iterator",data:=.fields #[.ref l,.int 0 0] }).push (Ů "list" #[] 0))=h1 at gI gS kp;have V1:Inv X Oa σ H { s with heap:=h1,toks:=s.toks }:=Iv.kept kp;have Z:h1.IsList l G.toArray:=⟨ol,kp _ _ B,by obtain⟨o2,N,r2⟩:=hL;rw[B]at N;cases N;exact r2⟩;have O:h1.IsListIter I l 0:=⟨_,gI,rfl,rfl⟩;have W:=Walks.list (prog:=X.prog) (w:=X.w) (A:=X.A.in1) hh I l hlI G.toArray;have P:G.toArray.size=G.length:=zI ..;have au:∀(i:Nat)(n:Int)(u:Å)(H:Hp)(s:É),ns[i]?=À n->(∀j,j<ns.length->kf i<=kf j/\(j<i->kf i<kf j))->J ns.length H->Inv X Oa σ H s->RelV (V.int n) u->EP X Oa σ Q u s :=
  fun i n u H s e1 N e3 e4 e5=>⟨_,H,e4,e5,hQ i n H e1 N e3⟩
 show ł _ X.A (.builtin "min.loop" ⟨[.ref I,ko.getD .none,.ref S],[("default",.none)]⟩) _ { s with heap:=h1,toks:=s.toks };refine ž ţ ?_;rw[Around.under_plainId Ă _];show Í _ X.A.in1 (V6 (.ref S)>>=_) _ _ _;refine yF (r? gS rfl ?_);show Í _ X.A.in1 (tryCatch (t? (.ref I)) _>>=_) _ _ _;by_cases K:ns=[]
 ·subst K
  refine yF (ĳ (W.done _ _ _ ⟨by rw[P,U];exact O,Z⟩ fun L p k=>?_));refine yF (wpAny_rule (yG ?_));exact⟨.non,H,V1.turned (fun b o a e=>k b o (by simpa using a) e) nI g.1 g.2.2.1 g.2.2.2.1 g.2.2.2.2,rfl,hE rfl⟩
 ·have T:0<ns.length:=List.length_pos_iff.mpr K
  refine yF (ĳ (W.item 0 _ _ _ (by rw[P];lia) ⟨O,Z⟩ fun u L p hP R k=>?_));have hu:G[0]?=À u:=by simpa using hP
  obtain⟨n,K⟩:∃n,ns[0]?=À n:=⟨_,zF T⟩;have ru:RelV (V.int n) u:=by
   obtain⟨u',e1,N⟩:=rv.get (i:=0) (x:=V.int n) (by rw[zR,K];rfl);rw[hu]at e1;cases e1;exact N
  have V2:Inv X Oa σ H { s with heap:=L,toks:=p }:=V1.turned (fun b o a e=>k b o (by simpa using a) e) nI g.1 g.2.2.1 g.2.2.2.1 g.2.2.2.2;have gS':=k S _ (by simpa using D.symm) gS;have hf:∀b∈[I,S],dW X Oa H b:=fun b a=>by
   rcases zT.mp a with rfl|a
   ·exact⟨nI,g⟩
   ·rw[zM.mp a];exact⟨nS,M⟩
  obtain⟨oI,goI,coI,doI⟩:=R.1;have ho:∀b∈[I,S],∃o,L.get? b=À o/\∀v:Option Å,o.data≠.cell v:=fun b a=>by
   rcases zT.mp a with rfl|a
   ·exact⟨_,goI,fun v z=>by rw[doI]at z;cases z⟩
   ·rw[zM.mp a];exact⟨_,gS',fun v z=>nomatch z⟩
  have V3:Inv X (Oa++gE [I,S] L) σ H { s with heap:=L,toks:=p }:=V2.pinned hf ho;have c:∀(d:Tok)(H2:Hp)(t:É),Inv X (Oa++gE [I,S] L) σ H2 t->J 1 H2 ->
    Í (model X.prog X.w) X.A.in1 ((do
     I? S fun _=>#[u,.int (kf 0) d]
     again (.builtin "min.loop" ⟨[.ref I,ko.getD .none,.ref S],[("default",.none)]⟩)):V9 O2) (fun au m=>match au with
      |.done f=>(match (Except.ok f:Result) with|.ok (.ret v)=>EP X Oa σ Q v m|.ok _=>False|.error e=>E e m)
      |.again c'=>c'.quiet=Â/\ł (model X.prog X.w) X.A c' (fun r m=>match r with|.ok (.ret v)=>EP X Oa σ Q v m|.ok _=>False|.error e=>E e m) m) (fun e m=>E e m) t:=by
   intro d H2 t V4 J2;have pI:=V4.pin (I,oI) (zK _ (zK _ (dq (by simp) goI)));have pS:=V4.pin (S,Ů "list" #[] 0) (zK _ (zK _ (dq (by simp) gS')));have V5:Inv X Oa σ H2 t:=V4.unpinned;have s1:=ŧ t.heap S (ğ fun _=>#[u,.int (kf 0) d]);obtain⟨c2,hc2⟩:∃c2,(t.heap.update S (ğ fun _=>#[u,.int (kf 0) d])).get? S=À (Ů "list" #[u,.int (kf 0) d] c2):=⟨_,W9 pS.1 fun _=>#[u,.int (kf 0) d]⟩;refine yF ?_;refine Ż pS.1 rfl (yG ⟨D! Ă _,?_⟩);obtain⟨sh,sg,sd,stk,sos⟩:=t;refine A9 hh kf J hl turn au g M D _ 0 0 H2 _ u d c2 rfl T (V5.turned (t':=stk) (fun b o Y e=>(s1.2 b Y).trans e) pS.2.1 M.1 M.2.2.1 M.2.2.2.1 M.2.2.2.2) pI.2.1 pS.2.1 hc2 ⟨oI,(s1.2 I D).trans pI.1,coI,doI⟩ ⟨n,K,ru⟩ (zP _) J2 fun j' hj'=>?_
   have e:j'=0:=by lia
   subst e;exact⟨by lia,fun h=>absurd h (xB _)⟩
  rcases turn 0 n u _ _ H K ru J0 V3 with⟨hk0,hkf,J2⟩|⟨q,hkq,F⟩
  ·rw[hk0]at c ⊢
   obtain⟨d,rfl⟩:=ru;refine yF (yG ?_)
   have:=c d H _ V3 J2
   rw[hkf]at this;exact this
  ·rw[hkq]at c ⊢
   refine yF (ĳ (yS (yT F (fun x s'' he=>?_) fun _ _ hF=>hF.elim)));obtain⟨y,H3,V4,ry,rfl,J3⟩:=he;obtain⟨d,rfl⟩:=ry;exact c d H3 s'' V4 J3
end
end L2
namespace R
open PySem PySem.Spec PyProof.Rows L2
theorem Ad:∀{ps:List Ì}{us:List Å},ps.Nodup->us.length=ps.length->ps.filterMap (fun n=>((ps.zip us).lookup n).map fun v=>(n,v))=ps.zip us/\ps.filter (fun n=>((ps.zip us).lookup n).isNone)=[]:=by
 have g:∀{ps:List Ì}{us:List Å},us.length=ps.length->∀n∈ps,((ps.zip us).lookup n).isSome=Â:=by
  intro ps
  induction ps with
  |nil=>intro us _ n d;cases d
  |cons p ps i =>
   intro us c n d;cases us with
   |nil=>cases c
   |cons u us =>
    rw[Ļ,yO];cases o:n==p with
    |true=>rfl
    |false =>
     rcases zT.mp d with rfl|d
     ·simp at o
     ·exact i (by simpa using c) n d
 intro ps us f c;refine⟨?_,List.filter_eq_nil_iff.mpr fun n d=>by
  have:=g c n d
  cases h:(ps.zip us).lookup n with
  |none=>rw[h]at this;cases this
  |some v=>simp⟩
 have k:∀(a:List Ì)(b:List Å),a.Nodup->b.length=a.length->∀l:List (Ì×Value),(∀q∈a,l.lookup q=(a.zip b).lookup q)->a.filterMap (fun n=>(l.lookup n).map fun v=>(n,v))=a.zip b:=by
  intro a
  induction a with
  |nil=>intro b _ _ l _;rfl
  |cons q a i =>
   intro b f c l h;cases b with
   |nil=>cases c
   |cons v b =>
    have j:=h q z7;rw[Ļ,yO]at j;simp only[beq_self_eq_true]at j;rw[Ő,j];rw[ĺ]at f
    have:=i b f.2 (by simpa using c) l fun p m=>by
     have:=h p (zQ _ m)
     rw[Ļ,yO]at this;have ne:(p==q)=Ä:=by
      have:p≠q:=fun e=>f.1 (e▸m)
      simpa using this
     rw[ne]at this;exact this
    simp only[Ï];rw[this];rfl
 exact k ps us f c _ fun _ _=>rfl
noncomputable def plainA(a:Ϛ):Bool:=a.posonlyargs.isEmpty&&a.vararg.isNone&&a.kwonlyargs.isEmpty&&a.kwarg.isNone
theorem bind_plain(g:plainA fd.params=Â)(hd:fd.defaults=.none)(m:(fd.params.args.map (·.arg)).Nodup)(i:us.length=(fd.params.args.map (·.arg)).length):w? fd ⟨us,[]⟩=pure ((fd.params.args.map (·.arg)).zip us):=by
 obtain⟨l,j⟩:=Ad m i;obtain⟨_,_,⟨_,d,_,_,_⟩,_,_,_,_,t,_,_,_,_,_,_,_⟩:=fd;unfold plainA at g;simp only[zC,æ,ϵ]at g;obtain⟨⟨⟨r,q⟩,p⟩,o⟩:=g;dsimp only at r q p o hd m i l j ⊢;cases r;cases q;cases p;cases o;cases hd;have k:∀{s:Type}{c:Prop} [Decidable c] {a b x:s},¬c->b=x->(if c then a else b)=x:=fun h e=>(yH h).trans e
 unfold w?;show(if(decide (us.length > (d.map (·.arg)).length)&&Â)=Â then _ else _)=_;refine k (by simp[i]) ?_;show(if(!(((d.map (·.arg)).take ((d.map (·.arg)).length-(([]:List Å).drop (0-(d.map (·.arg)).length)).length)).filter (fun n=>(((d.map (·.arg)).zip us).lookup n).isNone)).isEmpty)=Â then _ else _)=_;refine k (by rw[U',S4,Ŕ,Ī,j];decide) ?_;show forIn (((d.map (·.arg)).drop ((d.map (·.arg)).length-(([]:List Å).drop (0-(d.map (·.arg)).length)).length)).zip (([]:List Å).drop (0-(d.map (·.arg)).length))) ((d.map (·.arg)).zip us) _>>=_=_;rw[U',List.zip_nil_right];exact congrArg (pure (f:=V9)) ((congrArg (List.filterMap _) (ò _)).trans l)
end R
namespace L2
open PySem PySem.Spec PyProof.Rows
def jD(mg:Ì->Option Å)(a:ä):Prop:=∃b o,mg "__builtins__"=À (.ref b)/\b≠Ę/\b≠Ð/\a.get? b=À o/\o.cls=.type "module"/\o.dict=À Ę/\o.data=.plain
noncomputable def gH(c:Ç)(q:Ì):HO:=.ext fun h=>h.CodeRec (.ref c) q
section
variable{X:Cx}{Oa:List (Ç×Obj)}{σ:St}{H:Hp}{s:É}
theorem Inv.grown{t':Nat}(I:Inv X Oa σ H s)(a:H P=À (.tbl ps))(m:W5 P s.heap h')(x:s.heap.objs.size<=c')(E:h'.CodeRec (.ref c') q)
  (F:h'.get? P=À (O? (ps++more))):Inv X Oa σ (ah (ah H P (.tbl (ps++more))) c' (gH c' q)) { s with heap:=h',toks:=t' }:=by
 have A:s.heap.get? P=À (O? ps):=I.Oi P _ a;have w:H c'=Á:=I.Oi.fresh x;have y:P≠c':=zU (zJ (yJ A) x);have h:∀b u,H b=À u->b≠c':=fun b u e z=>by rw[z,w]at e;cases e
 have f:∀b,b≠P->b≠c'->ah (ah H P (.tbl (ps++more))) c' (gH c' q) b=H b:=fun b j g=>by rw[ad g,ad j]
 refine I.un ⟨fun b o e n _ _=>m b o (fun z=>by rw[z,a]at n;cases n) e,fun b o e n _ _=>⟨o.slots,m b o (fun z=>by rw[z,a]at n;cases n) e⟩,fun b o e n _=>?_,fun b o e _=>?_,fun b J e=>?_,fun b o u e=>?_,fun b K e=>?_⟩ fun b u e=>?_
 ·rw[f b (fun z=>by rw[z,a]at n;cases n) (zU (zJ (yJ e) x))];exact n
 ·by_cases i:b=P
  ·exact⟨_,i▸F⟩
  ·exact⟨o,m b o i e⟩
 ·rw[f b (fun z=>by rw[z,a]at e;cases e) (h _ _ e)];exact e
 ·rw[f b (fun z=>by rw[z,a]at e;cases e) (h _ _ e)];exact e
 ·by_cases i:b=P
  ·subst i
   rw[a]at e;cases e;exact⟨more,by rw[ad y,ay]⟩
  ·exact⟨#[],by rw[f b i (h _ _ e),e];simp⟩
 ·by_cases j:b=c'
  ·subst j
   rw[ay]at e;cases e;obtain⟨c,p,D,t,C,B,G⟩:=id E;cases C;refine⟨E,⟨p,B⟩,fun j g r k=>?_⟩;obtain⟨c,p,D,t,C,B,G⟩:=r;cases C;exact⟨_,p,D,t,rfl,k _ B,G⟩
  ·rw[ad j]at e
   by_cases g:b=P
   ·subst g
    rw[ay]at e;cases e;exact F
   ·rw[ad g]at e
    refine(I.Oi b u e).stay (fun d v hd q=>m d v (fun z=>?_) q) (fun d q=>?_) fun d J q=>?_
    ·rcases hd with l|l
     ·exact g (l.symm.trans z)
     ·rw[z,a]at l;cases l
    ·rw[f d (fun z=>by rw[z,a]at q;cases q) (h _ _ q)];exact q
    ·rw[f d (fun z=>by rw[z,a]at q;cases q) (h _ _ q)];exact q
abbrev wp(mg:Ì->Option Å)(qual:Ì)(a:Ϛ)(b:Î)(scope:ĝ)(cl:List (Ì×Addr))(d c:Å):W? :=
 { cls:=.type "function",data:=.func (kla_fn "<lambda>" qual a b scope cl ((mg "__name__").getD .none) d c) }
def gx(H:Hp)(P:Ç)(pos:ġ)(q:Ì):Prop:=∃a,H P=À (.tbl a)/\TriplesOk a.toList/\(codeAmong pos a.toList=Á\/∃c,codeAmong pos a.toList=À (.ref c)/\H c=À (gH c q))
theorem Bo(I:Inv X Oa σ H s)(l:T8 params X.env=([],[]))(hcode:X.env.code=.ref c)
  (C:U0 X.base c P) (B:jD X.mg X.base) (m:T9 scope X.env=pure cl) (T:gx H P pos (X.env.qual++"<lambda>"))
  (h:∀f c' ctv H' s',(H'=H\/∃ps more,H P=À (.tbl ps)/\H c'=Á/\P≠c'/\H'=ah (ah H P (.tbl (ps++more))) c' (gH c' (X.env.qual++"<lambda>")))->gx H' P pos (X.env.qual++"<lambda>")->H' c'=À (gH c' (X.env.qual++"<lambda>")) ->
   Inv X (Oa++[(f,wp X.mg (X.env.qual++"<lambda>") params body scope cl (.ref c') ctv)]) σ H' s'->Q (.ref f) s') :
  Í (model X.prog X.w) X.A (eval (.Lambda params body scope pos) X.env) Q E s:=by
 refine kla_eval l ?_;obtain⟨ps,r,i,x⟩:=T;have y:s.heap.get? P=À (O? ps):=I.Oi P _ r;have G:s.heap.Ns Ð X.mg:=I.mod.glob.keeps I.bk;have F:Ð≠P:=fun q=>by
  obtain⟨o,es,ep,e,hd,_⟩:=G;rw[q,y]at e;cases e;cases hd
 obtain⟨O,R,b1,b2,b3,V,b5,b6,b7⟩:=B;have L:O≠P:=fun q=>by
  have:=(I.bs O R V).2
  rw[q,r]at this;cases this
 have U:s.heap.BuiltinsAt X.mg P:=⟨O,R,b1,b2,b3,L,I.bk _ _ V,b5,b6,b7⟩;have Y:U0 s.heap c P:=C.keeps I.bk
 have last:∀(A:Hp)(g:ä)(a:Nat)(o:W?),Inv X Oa σ A { s with heap:=g,toks:=a }->(∀v,o.data≠.cell v)->o.isFreed=Ä->Inv X (Oa++[(g.objs.size,o)]) σ A { s with heap:=g.push o,toks:=a }:=by
  intro A g a o J hd K;have W:Inv X Oa σ A { s with heap:=g.push o,toks:=a }:=J.kept fun b u e=>zG _ e
  have N:=J.fpOk (b:=g.objs.size) (zP _) J.fresh;refine W.pins_of fun p k=>?_
  rcases zZ.mp k with k|k
  ·exact W.pin p (zK _ k)
  ·rw[zM.mp k]
   exact⟨zY _ K,N.1,N.2.1,N.2.2.1,hd⟩
 rcases x with S|⟨c',x,w⟩
 ·refine kla_makeFunction (mg:=X.mg) m I.ok.glob G hcode Y y i S F U fun c' ctv M t w d Z j D=>?_
  have n:P≠c':=zU (zJ (yJ y) d);have J:=I.grown (t':=t) r w d j D;have e1:ah (ah H P (.tbl (ps++#[t! pos.line,t! pos.col,.ref c']))) c' (gH c' (X.env.qual++"<lambda>")) P=À (.tbl (ps++#[t! pos.line,t! pos.col,.ref c'])):=by rw[ad n,ay]
  refine h _ c' ctv _ _ (.inr ⟨ps,_,r,I.Oi.fresh d,n,rfl⟩) ⟨_,e1,?_,.inr ⟨c',?_,ay⟩⟩ ay (last _ M t _ J (fun v z=>nomatch z) rfl)
  ·rw[B?];exact TriplesOk_snoc _ _ _ _ i
  ·rw[B?];exact codeAmong_snoc _ i S
 ·refine kla_makeFunctionHit (mg:=X.mg) m I.ok.glob G hcode Y y i x U fun ctv M t hk d=>?_
  exact h _ c' ctv H _ (.inl rfl) ⟨ps,r,i,.inr ⟨c',x,w⟩⟩ w (last H M t _ (I.kept hk) (fun v z=>nomatch z) rfl)
def tG(X:Cx)(N':List Ì)(scope:ĝ)(cl:List (Ì×Addr))(f:Ç)(qual:Ì)(cd:Å)(A:ċ)(s:É)(H:Hp):Cx :=
 { X with N:=N',s₀:=s,H₀:=H,env:=T7 scope s.heap.objs.size Ð cl (qual++".<locals>.") (À f) cd Á Ę,outer:=X.stack,stack:=T7 scope s.heap.objs.size Ð cl (qual++".<locals>.") (À f) cd Á Ę::X.stack,
          A:=A.deeper (T7 scope s.heap.objs.size Ð cl (qual++".<locals>.") (À f) cd Á Ę),ex:=[],fn:=fun _=>Ä,calm:=Â,pn:=[],xe:=fun _ _=>False }
structure wN(X:Cx)(N':List Ì)(scope:ĝ)(x:Ì):Prop where
 cy:jJ X N' scope
 co:scope.isCoroutine=Ä
 gen:scope.isGenerator=Ä
 len:N'.length=X.N.length+1
 own:N'[X.N.length]?=À x
 loc:scope.names.lookup x=À .local
 nc:∀y∈scope.names,y.2≠.cell
theorem BI{t':Nat}(T:wN X N' scope x)(I:Inv X Oa σ H s)(J:A.frames=À X.stack)(Z:A.handled=Á)
  (g:∀p∈cl,X.env.cells.lookup p.1=À p.2) (G:∀x,(x,Ú)∈scope.names->∃c,(x,c)∈cl) (r:RelV v u)
  (W:h'.Ns s.heap.objs.size (fun y=>[(x,u)].reverse.lookup y)) (S:Ĭ s.heap.objs.size (s.heap.push { cls:=.type "frame",data:=.dict #[] }) h') :
  Inv (tG X N' scope cl f qual cd A s H) [] (σ++[À v]) H { s with heap:=h',toks:=t' }:=by
 have d:∀b o,s.heap.get? b=À o->h'.get? b=À o:=fun b o e=>(S.2 b (zU (yJ e))).trans (zG _ e)
 have look:∀x,(x,Ú)∈scope.names->∃c,cl.lookup x=À c/\X.env.cells.lookup x=À c:=fun x R=>by
  obtain⟨c,C⟩:=G x R;obtain⟨N,B⟩:=gi C;exact⟨N,B,g _ (mem_of_lookup B)⟩
 have j:∀ b:Ç,b ∉ (tG X N' scope cl f qual cd A s H).ex:=fun b z=>absurd (show b ∈ ([]:List Ç) from z) (by simp)
 refine⟨⟨I.ok.mod,T.cy.kind,rfl,rfl,zP _,fun y z c h1 h2=>?_,fun y l=>?_,fun y c h=>(by cases h),fun _=>Z,Around.frames_deeper J,.inr ⟨rfl,rfl⟩,fun b z=>absurd z (j b),I.bs,z5 I.ok.bsz I.sz,fun b _ _=>j b,fun b z=>absurd z (j b),I.stack,I.stkFree⟩,
  rfl,I.bare,Un.kept d,⟨_,W,fun i y w q n e3=>?_⟩,fun y c h=>?_,I.Oi.fresh (zP _),fun y c h=>?_,fun p U=>absurd (show p∈([]:List (Ç×Obj)) from U) (by simp),I.Oi.kept d,?_⟩
 ·exact I.ok.inj y z c (g _ (mem_of_lookup h1)) (g _ (mem_of_lookup h2))
 ·have l:scope.names.lookup y=À .cell\/scope.names.lookup y=À .free:=l
  rcases l with l|l
  ·exact absurd rfl (T.nc _ (mem_of_lookup l))
  ·obtain⟨c,C,_⟩:=look y (mem_of_lookup l)
   exact⟨c,C⟩
 ·have M:=I.len
  rcases yU i σ.length with F|F
  ·rw[zN F]at n
   have t:∃k,(y,k)∈scope.names:=by
    rcases e3 with h|h|h<;>exact⟨_,mem_of_lookup h⟩
   have a:=T.cy.hid i y oM q t;have eX:=T.cy.same i y oM q a;have kX:=T.cy.free y a;obtain⟨m,V,Y⟩:=I.loc;obtain⟨O,P,lk⟩:=Y i y w eX n (by rcases kX with h|h;exact .inr (.inl h);exact .inr (.inr h));refine⟨O,P,.inr ⟨.inr (c5 T.cy.nd a),?_⟩⟩;rcases lk with⟨L,_⟩|⟨_,c,C,z⟩
   ·rcases kX with h|h<;>rw[h]at L<;>cases L
   ·obtain⟨N,Q,K⟩:=look y a
    rw[C]at K;cases K;exact⟨c,Q,z.keeps d⟩
  ·rw[z6 F]at n
   have E:i-σ.length=0:=by
    rcases Nat.eq_zero_or_pos (i-σ.length) with z|z
    ·exact z
    ·rw [é (show [À v].length <= _ from z)] at n;cases n
   rw[E]at n;cases n;have D:i=X.N.length:=by lia
   subst D;have q:N'[X.N.length]?=À y:=q;rw[T.own]at q;cases q;exact⟨u,r,.inl ⟨T.loc,by simp⟩⟩
 ·obtain⟨w,z⟩:=I.cell y c (g _ (mem_of_lookup h))
  exact⟨w,z.keeps d⟩
 ·exact I.freeC y c (g _ (mem_of_lookup h))
 ·show(σ++[À v]).length=N'.length
  rw[zV,I.len,T.len];rfl
theorem Bp(T:wN X N' scope x)(I:Inv X Oa σ H s)(m:A.frames=À X.stack)(K:A.handled=Á)
  (hd:A.depth<ϐ) (n:∀p∈cl,X.env.cells.lookup p.1=À p.2) (l:∀x,(x,Ú)∈scope.names->∃c,(x,c)∈cl) (F:R.plainA params=Â) (a:params.args.map (·.arg)=[x])
  (L:s.heap.get? f=À (wp X.mg qual params body scope cl (.ref c') ctv)) (D:s.heap.CodeRec (.ref c') qual)
  (he:∀s H,PE (tG X N' scope cl f qual (.ref c') A s H) body te) (r:RelV v u) (h:te (σ++[À v]) H Q) :
  Í (model X.prog X.w) A (call (.ref f) [u]) (EP X Oa σ Q) E s:=by
 refine s? (kla_callFunE hd L rfl T.co T.gen rfl D ?_);have M:w? (kla_fn "<lambda>" qual params body scope cl ((X.mg "__name__").getD .none) (.ref c') ctv) ⟨[u],[]⟩=pure [(x,u)]:=by
  have:=R.bind_plain (fd:=kla_fn "<lambda>" qual params body scope cl ((X.mg "__name__").getD .none) (.ref c') ctv) (us:=[u]) F rfl (by show(params.args.map (·.arg)).Nodup;rw[a];simp) (by show _=(params.args.map (·.arg)).length;rw[a];rfl)
  rw[this];show pure ((params.args.map (·.arg)).zip [u])=_;rw[a];rfl
 rw[M];refine yG ?_;refine wpAny_newFunctionEnv (around:=Á) (fun y j=>T.nc y j) (fun y j=>by rw[zM.mp j];exact T.loc) (fun t G g=>?_) T.cy.kind;have g:Ĭ s.heap.objs.size (s.heap.push { cls:=.type "frame",data:=.dict #[] }) t:=g;have d:∀b o,s.heap.get? b=À o->t.get? b=À o:=fun b o e=>(g.2 b (zU (yJ e))).trans (zG _ e)
 refine⟨I.nolimit.keeps d,kla_codeExpr ?_⟩;have J:=BI (cd:=.ref c') (f:=f) (qual:=qual) (t':=s.toks+[(x,u)].length) T I m K n l r G g;refine yT (he s H [] _ (σ++[À v]) H Q J h) (fun w B k=>?_) fun e B z=>z.elim
 obtain⟨y,N,i,C,q⟩:=k;exact I.after ⟨y,N,i.os,i.bare,i.base,i.Oi,C,q⟩
end
theorem ye(h:iH k v=Â):RelV (kV k) v:=by
 cases k with
 |inl i =>
  cases v <;> first | (cases h;done) | skip
  rename_i j t;have e:j=i:=by simpa [iH,y!] using h
  subst e;exact⟨t,rfl⟩
 |inr x =>
  cases v <;> first | (cases h;done) | skip
  rename_i y t;have e:y=x:=by simpa [iH,a?] using h
  subst e;exact⟨t,rfl⟩
theorem Ep{a:Type}{Oc:List (a×V)}{vs:List (a×Value)}(r:KV Oc vs):Oc.map (·.1)=vs.map (·.1):=by
 induction r with
 |nil=>rfl
 |cons h t b=>simp only[zO];rw[h.1,b]
def K3(d:Ç)(o:W?)(Oc:List (aW×V)):It :=
 ⟨fun i H=>H d=À (.frz o (.dK Oc))/\i<Oc.length,fun i H x a=>a=H/\(Oc.map fun p=>kV p.1)[i]?=À x,fun i H=>H d=À (.frz o (.dK Oc))/\Oc.length<=i⟩
theorem sZ{b:Nat}(I:Inv X Oa σ H s)(h:H d=À (.frz o (.dK Oc)))(a:o.data=.dict es b) :
  ∃vs,KV Oc vs/\s.heap.DictAt (cg X.prog X.w) d vs b:=by
 obtain⟨e,_,_,vs,r,l,g,i,c,k,f,j⟩:=I.Oi d _ h;rw[e]at c;cases c;rw[a]at f;cases f;exact⟨vs,r,o,es,e,k,a,j⟩
theorem wU{P:Ò}{w:Û}{K:á}{Y:Î}{d:Ç}{o:W?}{Oc:List (aW×V)}{es:Array DictEntry}{U:Nat}(it:Ç)(hd:o.data=.dict es U):kN P w K Y (K3 d o Oc) [it] it (fun i h=>h.IsKeyIter it d i Oc.length U) where
 mem:=by simp
 obj:=fun i h a b g=>by
  obtain rfl:b=it:=by simpa using g
  obtain⟨o,e,c,d⟩:=a;exact⟨o,e,fun v z=>by rw[d]at z;cases z⟩
 keep:=fun i h y a k=>let⟨o,e,r⟩:=a;⟨o,k it (by simp) _ e,r⟩
 item:=by
  intro X D C F T i W s R H E I x a f;subst D C F;obtain⟨f,hi⟩:=f;obtain⟨l,r,O⟩:=sZ I f hd;have u:Oc.length=l.length:=Paired.length r;obtain⟨N,M,f2,L,J,G⟩:=x it (by simp);obtain⟨q,S⟩:∃q,l[i]?=À q:=⟨_,zF oM⟩;have j:Oc[i]?.map (·.1)=l[i]?.map (·.1):=by
   rw[<- zR,<- zR,Ep r]
  rw[u]at a;refine wpAny_pyNext_dict_item a O (k:=q.1) (v:=q.2) S fun B y t m Z=>?_
  have I1:Inv X W R H { s with heap:=y }:=I.turned (t':=s.toks) (fun b o g e=>(Z.2 b g).trans e) N M L J G;obtain⟨o',e,c,dd⟩:=id m;refine⟨B,rfl,oS (s:={ s with heap:=y }) e c dd dC ⟨kV q.1,H,I1,ye t,⟨rfl,?_⟩,by rw[u];exact m,fun b g=>(x b g).1⟩⟩;rw[zR];rw[S]at j;cases n:Oc[i]? with
  |none=>rw[n]at j;cases j
  |some p=>rw[n]at j;simp at j;simp[j]
 done:=by
  intro X D C F T i W s R H E I x a f;subst D C F;obtain⟨f,hi⟩:=f;obtain⟨l,r,O⟩:=sZ I f hd;have u:Oc.length=l.length:=Paired.length r;obtain⟨N,M,f2,L,J,G⟩:=x it (by simp);rw[u]at a;exact wpAny_pyNext_dict_end (I.ok.hd T) a O (é oM) fun y eb=>⟨rfl,I.turned (t':=s.toks) (fun b o g e=>eb b o g e) N M L J G⟩
 self:=fun A i s Q E a h=>wpAny_pyIter_keyiter a h
section
variable{X:Cx}{Oa:List (Ç×Obj)}{σ:St}{H:Hp}{s:É}{d:Ç}{Oc:List (aW×V)}{o:W?}
theorem Inv.frzD(I:Inv X Oa σ H s)(h:H d=À (.dK Oc))(e:s.heap.get? d=À o):Inv X Oa σ (ah H d (.frz o (.dK Oc))) { s with toks:=s.toks }:=by
 have ne:∀b u,H b=À u->(∀Oc,u≠.dK Oc)->b≠d:=fun b u q n z=>by rw[z,h]at q;cases q;exact n _ rfl
 refine I.un (h':=s.heap) ⟨fun b o e _ _ _=>e,fun b o e _ _ _=>⟨o.slots,e⟩,fun b o e n _=>by rw[ad (fun z=>by rw[z,h]at n;cases n)];exact n,fun b o e _=>⟨o,e⟩,fun b g q=>by rw[ad (ne b _ q fun _ z=>nomatch z)];exact q,fun b o u q=>by rw[ad (ne b _ q fun _ z=>nomatch z)];exact q,
  fun b i q=>⟨#[],by rw[ad (ne b _ q fun _ z=>nomatch z),q];simp⟩⟩ fun b u q=>?_
 have a:∀b u,H b=À u->ObjOk X.prog X.w (ah H d (.frz o (.dK Oc))) s.heap b u:=fun b u q=>(I.Oi b u q).stay (fun _ _ _ z=>z) (fun c z=>by rw[ad (ne c _ z fun _ y=>nomatch y)];exact z) fun c g z=>by rw[ad (ne c _ z fun _ y=>nomatch y)];exact z
 by_cases f:b=d
 ·subst f;rw[ay]at q;cases q;exact⟨e,a _ _ h⟩
 ·rw[ad f]at q;exact a b u q
theorem Inv.thawD(I:Inv X Oa σ H s)(h:H d=À (.frz o (.dK Oc)))(t:∀o u,X.H₀ d≠À (.frz o u)):Inv X Oa σ (ah H d (.dK Oc)) s:=by
 have ne:∀b u,H b=À u->(∀o l,u≠.frz o l)->b≠d:=fun b u q n z=>by rw[z,h]at q;cases q;exact n _ _ rfl
 have f:∀b,H b=Á->b≠d:=fun b q z=>by rw[z,h]at q;cases q
 have w:HOk X.prog X.w (ah H d (.dK Oc)) s.heap:=fun b u q=>by
  have i:∀b u,H b=À u->ObjOk X.prog X.w (ah H d (.dK Oc)) s.heap b u:=fun b u q=>(I.Oi b u q).stay (fun _ _ _ z=>z) (fun c z=>by rw[ad (ne c _ z fun _ _ y=>nomatch y)];exact z) fun c g z=>by rw[ad (ne c _ z fun _ _ y=>nomatch y)];exact z
  by_cases k:b=d
  ·subst k;rw[ay]at q;cases q;exact(i _ _ h).2
  ·rw[ad k]at q;exact i b u q
 refine⟨I.ok,I.os,I.bare,⟨I.base.keep,I.base.slot,fun b o e n j=>by rw[ad (f b (I.base.free b o e n j))];exact I.base.free b o e n j,I.base.there,fun b g e=>by rw[ad (ne b _ (I.base.tups b g e) fun _ _ y=>nomatch y)];exact I.base.tups b g e,
  fun b o u e=>by rw[ad (fun z=>t o u (by rw[<- z];exact e))];exact I.base.frzs b o u e,fun b m e=>?_⟩,I.loc,I.cell,by rw[ad (f _ I.free)];exact I.free,fun x c e=>by rw[ad (f _ (I.freeC x c e))];exact I.freeC x c e,
  fun p r=>by obtain⟨a1,a2,v⟩:=I.pin p r;exact⟨a1,by rw[ad (f _ a2)];exact a2,v⟩,w,I.len⟩
 obtain⟨a,q⟩:=I.base.tbls b m e;exact⟨a,by rw[ad (ne b _ q fun _ _ y=>nomatch y)];exact q⟩
end
section
variable{X:Cx}{tg iter:Î}{te:TE}
def Jz(n0:Hp)(te:TE):TI:=fun c H R=>te c H fun x b=>∃d a,x=.ref d/\b d=À (.dK a)/\∀o,(∀o u,n0 d≠À (.frz o u))->R (K3 d o a) (ah b d (.frz o (.dK a)))
theorem DV(i:PE X iter te):PI X tg iter (Jz X.H₀ te):=by
 intro r s l H R I h;refine aD (i r s l H _ I h) fun v a g=>?_
 obtain⟨x,F,k,r1,d,Oc,e,hd,q⟩:=g;subst e;cases r1;obtain⟨hz,c,m,t,f,A,B,n,D,p,C⟩:=k.Oi d _ hd;have i:Oc.length=m.length:=Paired.length t;have w:∀o u,X.H₀ d≠À (.frz o u):=fun o u z=>by
  have:=k.base.frzs d o u z
  rw[hd]at this;cases this
 have j:=k.frzD hd n;refine wpAny_pyIter_dict c (knd:=cg X.prog X.w) ⟨f,A,n,D,p,C⟩ ?_;have E:Inv X r l (ah F d (.frz f (.dK Oc))) { a with heap:=a.heap.push { cls:=.type "dict_keyiterator",data:=.fields #[.ref d,.int 0 0,.int m.length 0,.int B 0] },toks:=a.toks }:=j.kept fun b o e=>zG _ e
 refine⟨a.heap.objs.size,[a.heap.objs.size],_,_,_,rfl,E,wU (Oc:=Oc) _ p,⟨_,zY _ rfl,rfl,by rw[i];rfl⟩,fun b y=>?_,q f w⟩;obtain rfl:b=a.heap.objs.size:=by simpa using y
 exact j.fpOk (zP _) j.fresh
def qM(n0:Hp)(D:kS):kS:={ nx:=fun b H=>∃d o a,H d=À (.frz o (.dK a))/\(∀o u,n0 d≠À (.frz o u))/\D.nx b (ah H d (.dK a)),rt:=fun v H=>∃d o a,H d=À (.frz o (.dK a))/\(∀o u,n0 d≠À (.frz o u))/\D.rt v (ah H d (.dK a)) }
theorem DM{st:ĸ}{t:TS}(h:PS X st t):PS X st (fun D σ H=>t (qM X.H₀ D) σ H):=by
 intro g s σ H D I q;refine aD (h g s σ H (qM X.H₀ D) I q) fun f j b=>?_
 cases f with
 |next=>obtain⟨a,i,J,d,o,c,e,n,q⟩:=b;exact⟨a,_,J.thawD e n,q⟩
 |ret u=>obtain⟨v,a,i,J,r,d,o,c,e,n,q⟩:=b;exact⟨v,a,_,J.thawD e n,r,q⟩
 |brk=>obtain⟨_,_,_,q⟩:=b;exact q.elim
 |cont=>obtain⟨_,_,_,q⟩:=b;exact q.elim
end
end L2
namespace R
open PySem L2
theorem e7{α g f e:Sort _}{A B C:α->g->f->e->Prop}{G:Prop}(h:∃a b c d,A a b c d/\B a b c d/\C a b c d)(k:∀a b c d,A a b c d->B a b c d->C a b c d->G):G:=by obtain⟨a,b,c,d,x,y,z⟩:=h;exact k a b c d x y z
theorem i7{α g f e:Sort _}{A B C:α->g->f->e->Prop}{a:α}{b:g}{c:f}{d:e}(x:A a b c d)(y:B a b c d)(z:C a b c d):∃a b c d,A a b c d/\B a b c d/\C a b c d:=⟨a,b,c,d,x,y,z⟩
inductive AV where
 |non|bl (b:Bool)|int (i:Int)|str (x:Ì)|ref (k:Nat)|tup (xs:List AV)|fz (xs:List AV)
inductive Ob where
 |lst (xs:List AV)|al (t:AV)|dK (Oc:List (aW×AV))|dT (Oc:List (List aW×AV))|ins (c:Ì) (fs:List (Ì×AV))|wk (Oc:List (aW×AV))
abbrev aa:=List Ob
abbrev Sl:=List (Option AV)
abbrev Pr:=Ç->Prop
class Od where
 tb:List (Ç×Pos×Str)
structure Gm where
 K:á
 mg:Ì->Option Å
def FLk(mg:Gm)(P:Pr)(H:Hp)(a:Ç)(vs:List V):Prop:=(P a/\Rd H a (.lst vs))\/∀b,bR mg.K b a vs
mutual
def RA(mg:Gm)(P:Pr)(H:Hp)(φ:List Ç):AV->V->Prop
 |.non,v=>v=.non
 |.bl b,v=>v=.bl b
 |.int i,v=>v=.int i
 |.str x,v=>v=.str x
 |.ref k,v=>∃a,φ[k]?=À a/\v=.ref a
 |.tup xs,v=>∃a vs,v=.ref a/\P a/\H a=À (.tup vs)/\Og mg P H φ xs vs
 |.fz xs,v=>∃a vs,v=.ref a/\FLk mg P H a vs/\Og mg P H [] xs vs
def Og(mg:Gm)(P:Pr)(H:Hp)(φ:List Ç):List AV->List V->Prop
 |[],vs=>vs=[]
 |x::xs,vs=>∃v ws,vs=v::ws/\RA mg P H φ x v/\Og mg P H φ xs ws
end
theorem bn:Og mg P H φ [] []:=by simp only[Og]
theorem aX(h:RA mg P H φ x v)(t:Og mg P H φ xs vs):Og mg P H φ (x::xs) (v::vs):=by simp only[Og];exact⟨v,vs,rfl,h,t⟩
structure Frm(P:Pr)(φ:List Ç)(H:Hp)(P':Pr)(φ':List Ç)(H':Hp):Prop where
 ext:∀a,P a->P' a/\H' a=H a
 new:∃more,φ'=φ++more/\∀a∈more,H a=Á
 keep:∀a,H a≠Á->a∉φ->(∀ps,H a≠À (.tbl ps))->H' a=H a
 pn:∀a,P' a->P a\/H a=Á\/a∈φ
 sm:∀a,H a≠Á->H' a≠Á
 fz:∀a o u,H a=À (.frz o u)->H' a=À (.frz o u)
theorem Frm.refl:Frm P φ H P φ H:=⟨fun _ h=>⟨h,rfl⟩,⟨[],by simp,by simp⟩,fun _ _ _ _=>rfl,fun _ h=>.inl h,fun _ h=>h,fun _ _ _ h=>h⟩
theorem Frm.trans{P p n:Pr}{φ d c:List Ç}{H k q:Hp}(a:Frm P φ H p d k)(b:Frm p d k n c q):Frm P φ H n c q:=by
 obtain⟨s,j,i⟩:=a.new;obtain⟨m2,t,r⟩:=b.new;have l:∀x,k x=Á->H x=Á:=fun x h=>by
  cases e:H x with
  |none=>rfl
  |some o=>exact absurd h (a.sm x (by rw[e];exact fun z=>nomatch z))
 refine⟨fun x h=>?_,⟨s++m2,by rw[t,j,yN],fun x h=>?_⟩,fun x f g m=>?_,fun x h=>?_,fun x h=>b.sm x (a.sm x h),fun x o u h=>b.fz x o u (a.fz x o u h)⟩
 ·obtain⟨f,e⟩:=a.ext x h
  obtain⟨g,v⟩:=b.ext x f;exact⟨g,v.trans e⟩
 ·rcases zZ.mp h with h|h
  ·exact i x h
  ·exact l x (r x h)
 ·have e:=a.keep x f g m
  refine(b.keep x (by rw[e];exact f) (fun z=>?_) (by rw[e];exact m)).trans e;rw[j]at z;rcases zZ.mp z with z|z
  ·exact g z
  ·exact f (i x z)
 ·rcases b.pn x h with h|h|h
  ·exact a.pn x h
  ·exact .inr (.inl (l x h))
  ·rw[j]at h
   rcases zZ.mp h with h|h
   ·exact .inr (.inr h)
   ·exact .inr (.inl (i x h))
theorem Rd.at(h:Rd H a u)(e:H' a=H a):Rd H' a u:=by
 rcases h with h|⟨o,h⟩
 ·exact .inl (e.trans h)
 ·exact .inr ⟨o,e.trans h⟩
theorem FLk.mono{mg:Gm}{P b:Pr}{H c:Hp}{a:Ç}{vs:List V}(h:FLk mg P H a vs)(x:∀a,P a->b a/\c a=H a):FLk mg b c a vs:=by
 rcases h with⟨p,r⟩|h
 ·exact .inl ⟨(x a p).1,Rd.at r (x a p).2⟩
 ·exact .inr h
theorem FLk.sq(h:FLk mg P H a vs):bR mg.K H a vs:=by
 rcases h with⟨_,r⟩|h
 ·exact .inl r
 ·exact h H
section
variable{mg:Gm}{P P':Pr}{H H':Hp}{φ φ':List Ç}
mutual
theorem RA.mono'(x:∀a,P a->P' a/\H' a=H a):∀{t:AV}{v:V}{φ φ':List Ç},(∀(k:Nat) a,φ[k]?=À a->φ'[k]?=À a)->RA mg P H φ t v->RA mg P' H' φ' t v
 |.non,_,_,_,_,h=>by simp only[RA]at h ⊢;exact h
 |.bl _,_,_,_,_,h=>by simp only[RA]at h ⊢;exact h
 |.int _,_,_,_,_,h=>by simp only[RA]at h ⊢;exact h
 |.str _,_,_,_,_,h=>by simp only[RA]at h ⊢;exact h
 |.ref k,_,_,_,hφ,h=>by simp only[RA]at h ⊢;obtain⟨a,e,r⟩:=h;exact⟨a,hφ k a e,r⟩
 |.tup xs,_,_,_,hφ,h=>by
  simp only[RA]at h ⊢;obtain⟨a,b,r,p,e,q⟩:=h;exact⟨a,b,r,(x a p).1,(x a p).2.trans e,Og.mono' x hφ q⟩
 |.fz xs,_,_,_,hφ,h=>by
  simp only[RA]at h ⊢;obtain⟨a,b,r,e,q⟩:=h;exact⟨a,b,r,e.mono x,Og.mono' x (fun _ _ z=>z) q⟩
theorem Og.mono'(x:∀a,P a->P' a/\H' a=H a):∀{ts:List AV}{vs:List V}{φ φ':List Ç},(∀(k:Nat) a,φ[k]?=À a->φ'[k]?=À a)->Og mg P H φ ts vs->Og mg P' H' φ' ts vs
 |[],_,_,_,_,h=>by simp only[Og]at h ⊢;exact h
 |t::ts,_,_,_,hφ,h=>by
  simp only[Og]at h ⊢;obtain⟨v,ws,e,r,q⟩:=h;exact⟨v,ws,e,RA.mono' x hφ r,Og.mono' x hφ q⟩
end
theorem RA.mono{t:AV}{v:V}(h:RA mg P H φ t v)(x:∀a,P a->P' a/\H' a=H a)(b:∀(k:Nat) a,φ[k]?=À a->φ'[k]?=À a):RA mg P' H' φ' t v:=RA.mono' x b h
theorem Og.mono{c:List AV}{vs:List V}(h:Og mg P H φ c vs)(x:∀a,P a->P' a/\H' a=H a)(b:∀(k:Nat) a,φ[k]?=À a->φ'[k]?=À a):Og mg P' H' φ' c vs:=Og.mono' x b h
theorem Frm.ix(f:Frm P φ H P' φ' H'):∀(k:Nat) a,φ[k]?=À a->φ'[k]?=À a:=fun k a e=>by
 obtain⟨m,rfl,_⟩:=f.new;rw[zN (zB.mp e).1];exact e
theorem RA.frm(h:RA mg P H φ t v)(f:Frm P φ H P' φ' H'):RA mg P' H' φ' t v:=h.mono f.ext f.ix
theorem Og.frm(h:Og mg P H φ ts vs)(f:Frm P φ H P' φ' H'):Og mg P' H' φ' ts vs:=h.mono f.ext f.ix
theorem RA.lift(h:RA mg P H [] t v):RA mg P H φ t v:=h.mono (fun _ h=>⟨h,rfl⟩) fun k a e=>by simp at e
theorem Og.lift(h:Og mg P H [] ts vs):Og mg P H φ ts vs:=h.mono (fun _ h=>⟨h,rfl⟩) fun k a e=>by simp at e
theorem Og.length:∀{ts:List AV}{vs:List V},Og mg P H φ ts vs->ts.length=vs.length
 |[],_,h=>by simp only[Og]at h;subst h;rfl
 |t::ts,_,h=>by
  simp only[Og]at h;obtain⟨v,ws,rfl,_,q⟩:=h;rw[yY,yY,Og.length q]
theorem Og.get:∀{ts:List AV}{vs:List V}{i:Nat}{t:AV},Og mg P H φ ts vs->ts[i]?=À t->∃v,vs[i]?=À v/\RA mg P H φ t v
 |[],_,_,_,_,e=>by simp at e
 |x::ts,_,i,t,h,e=>by
  simp only[Og]at h;obtain⟨v,ws,rfl,r,q⟩:=h;cases i with
  |zero=>simp at e;subst e;exact⟨v,rfl,r⟩
  |succ i=>simpa using Og.get (i:=i) q (by simpa using e)
theorem Og.app:∀{xs ys:List AV}{vs ws:List V},Og mg P H φ xs vs->Og mg P H φ ys ws->Og mg P H φ (xs++ys) (vs++ws)
 |[],_,_,_,h,g=>by simp only[Og]at h;subst h;exact g
 |x::xs,_,_,_,h,g=>by
  simp only[Og]at h;obtain⟨v,ws,rfl,r,q⟩:=h;exact aX r (Og.app q g)
theorem Og.take:∀{xs:List AV}{vs:List V} (n:Nat),Og mg P H φ xs vs->Og mg P H φ (xs.take n) (vs.take n)
 |xs,vs,0,_=>by rw[S8,S8];exact bn
 |[],vs,n+1,h=>by simp only[Og]at h;subst h;exact bn
 |x::xs,vs,n+1,h=>by
  simp only[Og]at h;obtain⟨v,ws,rfl,r,q⟩:=h;exact aX r (Og.take n q)
theorem Og.drop:∀{xs:List AV}{vs:List V} (n:Nat),Og mg P H φ xs vs->Og mg P H φ (xs.drop n) (vs.drop n)
 |xs,vs,0,h=>h
 |[],vs,n+1,h=>by simp only[Og]at h;subst h;exact bn
 |x::xs,vs,n+1,h=>by
  simp only[Og]at h;obtain⟨v,ws,rfl,r,q⟩:=h;exact Og.drop n q
theorem Og.set(r:RA mg P H φ x v):∀{xs:List AV}{vs:List V} (n:Nat),Og mg P H φ xs vs->Og mg P H φ (xs.set n x) (vs.set n v)
 |[],vs,_,h=>by simp only[Og]at h;subst h;exact bn
 |y::xs,vs,n,h=>by
  simp only[Og]at h;obtain⟨w,ws,rfl,q,t⟩:=h;cases n with
  |zero=>exact aX r t
  |succ n=>exact aX q (Og.set r n t)
theorem Og.ints:∀{ns:List Int}{vs:List V},Og mg P H φ (ns.map .int) vs->vs=ns.map .int
 |[],_,h=>by simpa only[ϙ,Og] using h
 |n::ns,_,h=>by
  simp only[zO,Og,RA]at h;obtain⟨v,ws,rfl,rfl,q⟩:=h;rw[Og.ints q];rfl
theorem Og.of_ints:∀{ns:List Int},Og mg P H φ (ns.map .int) (ns.map V.int)
 |[]=>bn
 |n::ns=>aX (by simp only[RA]) Og.of_ints
end
def KVR(mg:Gm)(P:Pr)(H:Hp)(φ:List Ç){a:Type}(Oc:List (a×AV))(ws:List (a×V)):Prop:=Oc.map (·.1)=ws.map (·.1)/\Og mg P H φ (Oc.map (·.2)) (ws.map (·.2))
def CellR(mg:Gm)(P:Pr)(H:Hp)(φ:List Ç)(a:Ç):Ob->Prop
 |.lst xs=>¬P a/\∃vs,H a=À (.lst vs)/\Og mg P H φ xs vs
 |.al t=>P a/\RA mg P H [] t (.ref a)
 |.dK Oc=>¬P a/\∃ws,H a=À (.dK ws)/\KVR mg P H φ Oc ws
 |.dT Oc=>¬P a/\∃ws,H a=À (.dT ws)/\KVR mg P H φ Oc ws
 |.ins c fs=>¬P a/\∃C dx ws,mg.mg c=À (.ref C)/\H a=À (.ins C dx ws)/\KVR mg P H φ fs ws
 |.wk Oc=>¬P a/\∃o ws,H a=À (.frz o (.dK ws))/\KVR mg P H φ Oc ws
def Ib(o:Option HO):Prop:=(∀a,o≠À (.tbl a))/\∀f,o≠À (.ext f)
theorem _root_.L2.gx.new(h:gx H P pos q)(a:H p=Á):gx (ah H p o) P pos q:=by
 obtain⟨d,e,t,c⟩:=h;refine⟨d,by rw[ad (aY e a)];exact e,t,?_⟩;rcases c with c|⟨g,f,b⟩
 ·exact .inl c
 ·exact .inr ⟨g,f,by rw[ad (aY b a)];exact b⟩
theorem _root_.L2.gx.ne(h:gx H P pos q)(a:H p=Á):P≠p:=by
 obtain⟨b,e,_⟩:=h;exact aY e a
theorem _root_.L2.gx.wr(h:gx H P pos q)(b:Ib (H p)):gx (ah H p o) P pos q:=by
 obtain⟨a,e,t,c⟩:=h;refine⟨a,by rw[ad fun z=>b.1 a (by rw[<- z];exact e)];exact e,t,?_⟩;rcases c with c|⟨g,f,d⟩
 ·exact .inl c
 ·exact .inr ⟨g,f,by rw[ad fun z=>b.2 _ (by rw[<- z];exact d)];exact d⟩
structure Sim[Od](mg:Gm)(P:Pr)(φ:List Ç)(st:aa)(H:Hp):Prop where
 len:φ.length=st.length
 nd:φ.Nodup
 dom:∀a,P a->H a≠Á
 cd:∀a∈φ,H a≠Á
 cell:∀(k:Nat) c a,st[k]?=À c->φ[k]?=À a->CellR mg P H φ a c
 tb:∀t∈Od.tb,gx H t.1 t.2.1 t.2.2/\¬P t.1
section
variable{mg:Gm}{P P':Pr}{H H':Hp}{φ φ':List Ç}{st st':aa}{a:Ç}
theorem KVR.mono{c:Type}{Oc:List (c×AV)}{ws:List (c×V)}(h:KVR mg P H φ Oc ws)(x:∀a,P a->P' a/\H' a=H a)(b:∀(k:Nat) a,φ[k]?=À a->φ'[k]?=À a):KVR mg P' H' φ' Oc ws:=⟨h.1,h.2.mono x b⟩
theorem CellR.mono{c:Ob}(h:CellR mg P H φ a c)(x:∀a,P a->P' a/\H' a=H a)(b:∀(k:Nat) a,φ[k]?=À a->φ'[k]?=À a)(e:H' a=H a)(f:¬P a->¬P' a):CellR mg P' H' φ' a c:=by
 cases c with
 |lst xs=>obtain⟨n,d,r,q⟩:=h;exact⟨f n,d,e.trans r,q.mono x b⟩
 |al t=>exact⟨(x a h.1).1,h.2.mono x fun _ _ z=>z⟩
 |dK Oc=>obtain⟨n,d,r,q⟩:=h;exact⟨f n,d,e.trans r,q.mono x b⟩
 |dT Oc=>obtain⟨n,d,r,q⟩:=h;exact⟨f n,d,e.trans r,q.mono x b⟩
 |ins c fs=>obtain⟨n,C,i,g,m,r,q⟩:=h;exact⟨f n,C,i,g,m,e.trans r,q.mono x b⟩
 |wk Oc=>obtain⟨n,o,g,r,q⟩:=h;exact⟨f n,o,g,e.trans r,q.mono x b⟩
theorem Sim.at[Od](s:Sim mg P φ st H){k:Nat}(e:st[k]?=À c):∃a,φ[k]?=À a/\CellR mg P H φ a c:=by
 have b:k<φ.length:=by rw[s.len];exact(zB.mp e).1
 exact⟨φ[k],zF b,s.cell k c _ e (zF b)⟩
theorem Sim.notb[Od](s:Sim mg P φ st H){k:Nat}(d:φ[k]?=À a)(f:¬P a):Ib (H a):=by
 obtain⟨c,g⟩:∃c,st[k]?=À c:=⟨_,zF (by rw[<- s.len];exact(zB.mp d).1)⟩;have h:=s.cell k c a g d;cases c with
 |lst xs=>obtain⟨n,b,r,q⟩:=h;rw[r];exact⟨fun _ z=>(nomatch z),fun _ z=>(nomatch z)⟩
 |al t=>exact absurd h.1 f
 |dK Oc=>obtain⟨n,b,r,q⟩:=h;rw[r];exact⟨fun _ z=>(nomatch z),fun _ z=>(nomatch z)⟩
 |dT Oc=>obtain⟨n,b,r,q⟩:=h;rw[r];exact⟨fun _ z=>(nomatch z),fun _ z=>(nomatch z)⟩
 |ins c fs=>obtain⟨n,C,i,e,m,r,q⟩:=h;rw[r];exact⟨fun _ z=>(nomatch z),fun _ z=>(nomatch z)⟩
 |wk Oc=>obtain⟨n,o,e,r,q⟩:=h;rw[r];exact⟨fun _ z=>(nomatch z),fun _ z=>(nomatch z)⟩
theorem Sim.tnc[Od](s:Sim mg P φ st H)(a:t∈Od.tb):t.1∉φ:=fun h=>by
 obtain⟨j,c⟩:=z9 h;obtain⟨b,e,_⟩:=(s.tb t a).1;exact(s.notb c (s.tb t a).2).1 b e
theorem Sim.okeep[Od](s:Sim mg P φ st H)(f:Frm P φ H P' φ' H')(h:H c=À (gH c q)):H' c=À (gH c q):=by
 by_cases a:P c
 ·exact(f.ext c a).2.trans h
 ·refine(f.keep c (by rw[h];exact fun z=>nomatch z) (fun z=>?_) fun d z=>by rw[h]at z;cases z).trans h
  obtain⟨j,b⟩:=z9 z;exact(s.notb b a).2 _ h
theorem Sim.ckeep[Od](s:Sim mg P φ st H)(x:∀a,P a->H' a=H a)(k:∀a,H a≠Á->(∀ps,H a≠À (.tbl ps))->H' a=H a):∀a∈φ,H' a=H a:=fun a h=>by
 by_cases b:P a
 ·exact x a b
 ·obtain⟨j,c⟩:=z9 h
  exact k a (s.cd a h) (s.notb c b).1
theorem Sim.stay[Od](s:Sim mg P φ st H)(x:∀a,P a->P' a/\H' a=H a)(d:∀a∈φ,H' a=H a)(f:∀a∈φ,¬P a->¬P' a)(i:∀a,P' a->H' a≠Á)(e:∀t∈Od.tb,gx H' t.1 t.2.1 t.2.2/\¬P' t.1):Sim mg P' φ st H' :=
 ⟨s.len,s.nd,i,fun a h=>by rw[d a h];exact s.cd a h,fun k c a g b=>(s.cell k c a g b).mono x (fun _ _ z=>z) (d a (zW b)) (f a (zW b)),e⟩
theorem Sim.nil[Od](d:∀a,P a->H a≠Á)(b:∀t∈Od.tb,gx H t.1 t.2.1 t.2.2/\¬P t.1):Sim mg P [] [] H:=⟨rfl,T!,d,fun _ h=>by simp at h,fun k c a e _=>by simp at e,b⟩
theorem om[Od](s:Sim mg P φ st H)(b:H p=Á):Frm P φ H (fun a=>P a\/a=p) φ (ah H p o)/\Sim mg (fun a=>P a\/a=p) φ st (ah H p o):=by
 have ne:∀a,H a≠Á->a≠p:=fun a h e=>h (by rw[e];exact b)
 have f:Frm P φ H (fun a=>P a\/a=p) φ (ah H p o):=by
  refine⟨fun a h=>⟨.inl h,ad (ne a (s.dom a h))⟩,⟨[],by simp,by simp⟩,fun a h _ _=>ad (ne a h),fun a h=>?_,fun a h=>by rw[ad (ne a h)];exact h,fun a o u h=>by rw[ad (aY h b)];exact h⟩;rcases h with h|h
  ·exact .inl h
  ·exact .inr (.inl (by rw[h];exact b))
 refine⟨f,s.stay f.ext (fun a h=>ad (ne a (s.cd a h))) (fun a h n z=>?_) (fun a h=>?_) fun t c=>⟨(s.tb t c).1.new b,fun z=>z.elim (s.tb t c).2 (fun e=>(s.tb t c).1.ne b e)⟩⟩
 ·rcases z with z|z
  ·exact n z
  ·exact ne a (s.cd a h) z
 ·rcases h with h|h
  ·rw[ad (ne a (s.dom a h))];exact s.dom a h
  ·rw[h,ay];exact fun z=>nomatch z
theorem nJ[Od](s:Sim mg P φ st H)(i:H p=Á)(q:CellR mg P (ah H p o) (φ++[p]) p c):Frm P φ H P (φ++[p]) (ah H p o)/\Sim mg P (φ++[p]) (st++[c]) (ah H p o):=by
 have ne:∀a,H a≠Á->a≠p:=fun a h e=>h (by rw[e];exact i)
 have ex:∀a,P a->P a/\ah H p o a=H a:=fun a h=>⟨h,ad (ne a (s.dom a h))⟩
 have ix:∀(k:Nat) a,φ[k]?=À a->(φ++[p])[k]?=À a:=fun k a e=>by rw[zN (zB.mp e).1];exact e
 have j:∀a,H a≠Á->ah H p o a≠Á:=fun a h=>by rw[ad (ne a h)];exact h
 refine⟨⟨ex,⟨[p],rfl,fun a h=>by rw[zM.mp h];exact i⟩,fun a h _ _=>ad (ne a h),fun a h=>.inl h,j,fun a o u h=>by rw[ad (aY h i)];exact h⟩,?_,?_,fun a h=>j a (s.dom a h),fun a h=>?_,fun k d a g f=>?_,fun t m=>⟨(s.tb t m).1.new i,(s.tb t m).2⟩⟩
 ·rw[zV,zV,s.len];rfl
 ·exact Ϙ.mpr ⟨s.nd,(by simp),fun a h b r e=>ne a (s.cd a h) (by rw[e];exact zM.mp r)⟩
 ·rcases zZ.mp h with h|h
  ·exact j a (s.cd a h)
  ·rw[zM.mp h,ay];exact fun z=>nomatch z
 ·by_cases n:k<st.length
  ·rw[zN n]at g
   rw[zN (by rw[s.len];exact n)]at f;exact(s.cell k d a g f).mono ex ix (ad (ne a (s.cd a (zW f)))) fun z=>z
  ·have l:k=st.length:=by
    have:=(zB.mp g).1
    rw[zV]at this;simp at this;lia
   subst l;simp at g;rw[<- s.len]at f;simp at f;subst g;subst f;exact q
theorem iP[Od]{k:Nat}(s:Sim mg P φ st H)(m:φ[k]?=À a)(q:¬P a)(y:CellR mg P (ah H a o) φ a c)(v:∀o u,H a≠À (.frz o u)):Frm P φ H P φ (ah H a o)/\Sim mg P φ (st.set k c) (ah H a o):=by
 have w:a∈φ:=zW m;have ne:∀b,P b->b≠a:=fun b h e=>q (by rw[<- e];exact h)
 have n:∀b,H b≠Á->ah H a o b≠Á:=fun b h=>by
  by_cases e:b=a
  ·rw[e,ay];exact fun z=>nomatch z
  ·rw[ad e];exact h
 have ex:∀b,P b->P b/\ah H a o b=H b:=fun b h=>⟨h,ad (ne b h)⟩
 refine⟨⟨ex,⟨[],by simp,by simp⟩,fun b _ h _=>ad fun e=>h (by rw[e];exact w),fun b h=>.inl h,n,fun b o u h=>by rw[ad (fun e=>v o u (by rw[<- e];exact h))];exact h⟩,by rw[ā];exact s.len,s.nd,fun b h=>n b (s.dom b h),fun b h=>n b (s.cd b h),fun j d b g f=>?_,fun t r=>⟨(s.tb t r).1.wr (s.notb m q),(s.tb t r).2⟩⟩;by_cases p:j=k
 ·subst p
  rw[m]at f;cases f;rw[î (by rw[<- s.len];exact(zB.mp m).1)]at g;cases g;exact y
 ·rw[ê (ã p)]at g
  have A:b≠a:=fun e=>p (by
   subst e;exact nodup_ix' s.nd f m)
  exact(s.cell j d b g f).mono ex (fun _ _ z=>z) (ad A) fun z=>z
where
 nodup_ix' {l:List Ç} (hN:l.Nodup) {i j:Nat}{x:Ç} (a:l[i]?=À x) (b:l[j]?=À x):i=j:=by
  obtain⟨C,g⟩:=zB.mp a;obtain⟨B,f⟩:=zB.mp b;exact(ť hN).mp (g.trans f.symm)
end
open PySem.Spec PyProof.Rows
open DD (PE_imp PT_imp PA_imp PS_imp PSs_imp OpR_imp PW_imp PG_imp)
abbrev St:=L2.St
abbrev _root_.L2.Cx.gm(X:Cx):Gm:=⟨X.K,X.mg⟩
def KG[Od]{α g:Type}(mg:Gm)(h:Gm->Pr->Hp->List Ç->α->g->Prop)(P:Pr)(φ:List Ç)(H:Hp)(r:Option (α×aa))(Q:g->Hp->Prop):Prop :=
 ∃a d,r=À (a,d)/\∀f c e b,Frm P φ H f c e->Sim mg f c d e->h mg f e c a b->Q b e
def RB{α:Type}(_:Gm)(_:Pr)(_:Hp)(_:List Ç)(a b:α):Prop:=a=b
section
variable{α β γ δ:Type}{mg:Gm}{Ra:Gm->Pr->Hp->List Ç->α->β->Prop}{Rc:Gm->Pr->Hp->List Ç->γ->δ->Prop}{P:Pr}{φ:List Ç}{H:Hp}
theorem KG.bind[Od]{m:Option (α×aa)}{k:α×aa->Option (γ×aa)}{Q:δ->Hp->Prop}(h:KG mg Rc P φ H (m.bind k) Q) :
  KG mg Ra P φ H m fun b H1=>∃P1 φ1 st1 a,Frm P φ H P1 φ1 H1/\Sim mg P1 φ1 st1 H1/\Ra mg P1 H1 φ1 a b/\KG mg Rc P1 φ1 H1 (k (a,st1)) Q:=by
 obtain⟨c,i,e,q⟩:=h;cases m with
 |none=>cases e
 |some p =>
  obtain⟨a,st1⟩:=p;refine⟨a,st1,rfl,fun P1 φ1 H1 b f s r=>⟨P1,φ1,st1,a,f,s,r,c,i,e,fun o g t d n j l=>q o g t d (f.trans n) j l⟩⟩
theorem KG.pure[Od]{a:α}{st:aa}{Q:β->Hp->Prop}{b:β}(h:KG mg Ra P φ H (À (a,st)) Q)(s:Sim mg P φ st H)(r:Ra mg P H φ a b):Q b H:=by
 obtain⟨_,_,e,q⟩:=h;cases e;exact q P φ H b Frm.refl s r
theorem KG.map[Od]{m:Option α}{st:aa}{Q:β->Hp->Prop}(h:KG mg Ra P φ H (m.map fun a=>(a,st)) Q):∃a,m=À a/\KG mg Ra P φ H (À (a,st)) Q:=by
 obtain⟨b,c,e,q⟩:=h;cases m with
 |none=>cases e
 |some a=>exact⟨a,rfl,b,c,e,q⟩
end
def Ol(mg:Gm)(P:Pr)(H:Hp)(φ:List Ç)(sl:Sl)(σ:St):Prop:=sl.length=σ.length/\∀(i:Nat) v,sl[i]?=À (À v)->∃w,σ[i]?=À (À w)/\RA mg P H φ v w
section
variable{mg:Gm}{P P':Pr}{H H':Hp}{φ φ':List Ç}{sl:Sl}{σ:St}
theorem Ol.frm(h:Ol mg P H φ sl σ)(f:Frm P φ H P' φ' H'):Ol mg P' H' φ' sl σ:=⟨h.1,fun i v e=>let⟨w,a,r⟩:=h.2 i v e;⟨w,a,r.frm f⟩⟩
theorem Ol.set(h:Ol mg P H φ sl σ)(r:RA mg P H φ v w)(i:Nat):Ol mg P H φ (sl.set i (À v)) (σ.set i (À w)):=by
 refine⟨by rw[ā,ā];exact h.1,fun j u e=>?_⟩;by_cases a:i=j
 ·subst a
  by_cases b:i<sl.length
  ·rw[î b]at e
   cases e;exact⟨w,î (by rw[<- h.1];exact b),r⟩
  ·rw[é (by rw[ā];lia)]at e;cases e
 ·rw[ê a]at e
  rw[ê a];exact h.2 j u e
end
abbrev EF:=Sl->aa->Option (AV×aa)
abbrev TF:=Sl->aa->Option (Bool×aa)
abbrev AF:=Sl->aa->Option (List AV×aa)
def rE[Od](mg:Gm)(f:EF):TE:=fun d H Q=>∃P a c b,Ol mg P H a c d/\Sim mg P a b H/\KG mg RA P a H (f c b) Q
def rT[Od](mg:Gm)(f:TF):TT:=fun d H Q=>∃P a c b,Ol mg P H a c d/\Sim mg P a b H/\KG mg RB P a H (f c b) Q
def rA[Od](mg:Gm)(f:AF):TA:=fun d H Q=>∃P a c b,Ol mg P H a c d/\Sim mg P a b H/\KG mg Og P a H (f c b) Q
def QE[Od](X:Cx)(e:Î)(f:EF):Prop:=PE X e (rE X.gm f)
def QT[Od](X:Cx)(e:Î)(f:TF):Prop:=PT X e (rT X.gm f)
def QW[Od](X:Cx)(e:Î)(f:TF):Prop:=PW X e (rT X.gm f)
def QA[Od](X:Cx)(es:List Î)(f:AF):Prop:=PA X es (rA X.gm f)
def aV(i:Nat):EF:=fun b a=>match b[i]? with
 |some (À v)=>À (v,a)
 |_=>Á
def aC(v:AV):EF:=fun _ a=>À (v,a)
def fG:AF:=fun _ a=>À ([],a)
def fR(f:EF)(g:AF):AF:=fun a b=>(f a b).bind fun p=>(g a p.2).bind fun q=>À (p.1::q.1,q.2)
noncomputable def qf:AV->Option V
 |.non=>À .non
 |.bl b=>À (.bl b)
 |.int i=>À (.int i)
 |.str x=>À (.str x)
 |_=>Á
theorem RA.sc(h:qf v=À w):RA mg P H φ v w:=by
 cases v<;>simp only[qf]at h<;>cases h<;>simp only[RA]
section
variable{X:Cx}{e:Î}{es:List Î}{pos:ġ}
theorem FW[Od]{i:Nat}(g:X.N[i]?=À x)(f:zt X.env.scope x)(hd:(x==("__debug__":Ì))=Ä)(b:(x==("__classdict__":Ì))=Ä):QE X (.Name x pos) (aV i) :=
 PE_imp (Gi g f hd b) fun l H Q a=>by
  refine e7 a fun P j c m r s k=>?_
  unfold aV at k;cases h:c[i]? with
  |none=>rw[h]at k;obtain⟨_,_,e,_⟩:=k;cases e
  |some o =>
   cases o with
   |none=>rw[h]at k;obtain⟨_,_,e,_⟩:=k;cases e
   |some v =>
    rw[h]at k;obtain⟨w,e,d⟩:=r.2 i v h;exact⟨w,e,k.pure s d⟩
theorem rY[Od](b:qf v=À w)(h:PE X e t)(c:∀σ H Q,Q w H->t σ H Q):QE X e (aC v) :=
 PE_imp h fun σ H Q a=>e7 a fun P d g f r s k=>c σ H Q (k.pure s (RA.sc b))
theorem fJ[Od]:QA X [] fG:=PA_imp xH fun c H Q a=>e7 a fun P b e d r s k=>k.pure s bn
theorem c7[Od](F:QE X e f)(E:QA X es g)(D:Ê (e::es) X.env=(Ä,eval e X.env)::Ê es X.env):QA X (e::es) (fR f g) :=
 PA_imp (ux F E D) fun V H Q m=>e7 m fun P U t W r s k=>i7 r s (by
  obtain⟨a,l,M,q⟩:=k.bind (Ra:=RA);refine⟨a,l,M,fun R h T b K x r1=>?_⟩;obtain⟨O,d,j,a2,J,w,r2,C⟩:=q R h T b K x r1;refine⟨O,d,t,j,r.frm J,w,?_⟩;obtain⟨o,i,L,A⟩:=C.bind (Ra:=Og);refine⟨o,i,L,fun N c S bs I v z=>?_⟩;obtain⟨Z,n,p,Y,G,u,y,B⟩:=A N c S bs I v z;exact B.pure u (aX (r2.frm G) y))
end
def a2(f g:EF)(k:AV->AV->aa->Option (AV×aa)):EF:=fun a b=>(f a b).bind fun p=>(g a p.2).bind fun q=>k p.1 q.1 q.2
def a1(f:EF)(k:AV->aa->Option (AV×aa)):EF:=fun b a=>(f b a).bind fun p=>k p.1 p.2
def r2[Od](mg:Gm)(k:AV->AV->aa->Option (AV×aa)):R2:=fun v w H Q=>∃P a b x y,Sim mg P a b H/\RA mg P H a x v/\RA mg P H a y w/\KG mg RA P a H (k x y b) Q
def r1[Od](mg:Gm)(k:AV->aa->Option (AV×aa)):V->Hp->VK->Prop:=fun v H Q=>∃P a b x,Sim mg P a b H/\RA mg P H a x v/\KG mg RA P a H (k x b) Q
section
variable{mg:Gm}{k:AV->AV->aa->Option (AV×aa)}{k1:AV->aa->Option (AV×aa)}{f g:EF}
theorem wJ[Od](q:rE mg (a2 f g k) σ H Q):xa (r2 mg k) (rE mg f) (rE mg g) σ H Q:=by
 refine e7 q fun P U o V n s A=>?_
 refine i7 n s ?_;obtain⟨a,m,J,q⟩:=A.bind (Ra:=RA);refine⟨a,m,J,fun R h T b G u r1=>?_⟩;obtain⟨O,e,l,x,F,t,r2,C⟩:=q R h T b G u r1;refine⟨O,e,o,l,n.frm F,t,?_⟩;obtain⟨L,j,I,z⟩:=C.bind (Ra:=RA);refine⟨L,j,I,fun N d S K E r w=>?_⟩;obtain⟨M,c,i,y,D,p,v,B⟩:=z N d S K E r w;exact⟨M,c,i,x,y,p,r2.frm D,v,B⟩
theorem Mf[Od](q:rE mg (a1 f k1) σ H Q):Kg (r1 mg k1) (rE mg f) σ H Q:=by
 refine e7 q fun P t v u j s k=>?_
 refine i7 j s ?_;obtain⟨a,g,n,q⟩:=k.bind (Ra:=RA);refine⟨a,g,n,fun p d r b m i r1=>?_⟩;obtain⟨o,c,e,x,w,h,r2,l⟩:=q p d r b m i r1;exact⟨o,c,e,x,h,r2,l⟩
end
def lb(h:aa->AV->AV->Option AV):AV->AV->aa->Option (AV×aa):=fun x y a=>(h a x y).map fun z=>(z,a)
def Fp(h:aa->AV->Option AV):AV->aa->Option (AV×aa):=fun x a=>(h a x).map fun z=>(z,a)
noncomputable def c4(a b:Int):Bool:=(Þ a.natAbs.log2 62||Nat.ble b.natAbs.log2 62)||(Þ a.natAbs.log2 1000000&&Þ b.natAbs.log2 1000000)
noncomputable def eF(b:Int):Bool:=!(b==0)&&Þ b.natAbs.log2 8999
noncomputable def vT(a b:Int):Bool:=decide (0<=b)&&Þ b.natAbs 100000&&Þ a.natAbs.log2 62
noncomputable def vc(a b:Int):Int:=if 0<b then a/b else a.fdiv b
noncomputable def qv(a b:Int):Int:=if 0<b then a%b else a.fmod b
def tQ:Ğ->Int->Int->Option Int
 |.Add,a,b=>À (a+b)
 |.Sub,a,b=>À (a-b)
 |.Mult,a,b=>if c4 a b=Â then À (a*b) else Á
 |.FloorDiv,a,b=>if eF b=Â then À (vc a b) else Á
 |.Mod,a,b=>if b=0 then Á else À (qv a b)
 |.Pow,a,b=>if vT a b=Â then À (a^b.toNat) else Á
 |.LShift,a,b=>if vT a b=Â then À (a*2^b.toNat) else Á
 |.RShift,a,b=>if 0<=b then À (a/2^b.toNat) else Á
 |.BitAnd,a,b=>À (P7 a b)
 |.BitOr,a,b=>À (Builtin.bitOr a b)
 |.BitXor,a,b=>À (Builtin.bitXor a b)
 |_,_,_=>Á
def aZ(o:Ğ)(_:aa):AV->AV->Option AV
 |.int a,.int b=>(tQ o a b).map .int
 |.str a,.str b=>if(decide (o=.Add)&&Þ (a.length+b.length) 1000000)=Â then À (.str (a++b)) else Á
 |_,_=>Á
theorem log2_lt{n k:Nat}(h:Þ n.log2 k=Â):n<2^(k+1):=by
 by_cases a:n=0
 ·subst a;exact ß _
 ·exact(Ą a).mp (Q! (zS h))
theorem ms{a:Int}{k:Nat}(h:a.natAbs<2^k):a! a<=k:=by
 unfold a!;split
 ·lia
 ·rename_i b
  have:a.natAbs.log2<k:=(Ą (by simpa using b)).mpr h;lia
theorem Ej{a b:Int}(h:c4 a b=Â):IntMulOk a b:=by
 unfold c4 at h;rcases I!.mp h with h|h
 ·rcases I!.mp h with h|h
  ·exact .of_left (z5 (ms (log2_lt h)) dC)
  ·exact .of_right (z5 (ms (log2_lt h)) dC)
 ·obtain⟨d,c⟩:=Ŋ.mp h
  exact .of_bits (z5 (ms (log2_lt d)) dC) (z5 (ms (log2_lt c)) dC)
theorem ED{b:Int}(h:eF b=Â):b≠0/\b.natAbs.log2<9000:=by
 unfold eF at h;obtain⟨c,a⟩:=Ŋ.mp h;exact⟨by simpa using c,Q! (zS a)⟩
theorem HG(a b:Int):a.fdiv b=vc a b:=by
 unfold vc;split
 ·exact b? _ oM
 ·rfl
theorem Hz(a b:Int):a.fmod b=qv a b:=by
 unfold qv;split
 ·exact Int.fmod_eq_emod_of_nonneg _ oM
 ·rfl
theorem uw{a b:Int}(h:vT a b=Â):Mj a b:=by
 unfold vT at h;simp only[zC,yC]at h;obtain⟨⟨e,c⟩,d⟩:=h;have c:=zS c;exact⟨e,by lia,zJ (log2_lt d) dC⟩
def LG(o:Ğ):R2:=fun x y H Q=>(∃i j k,x=.int i/\y=.int j/\tQ o i j=À k/\Q (.int k) H)\/(o=.Add/\∃i j,x=.str i/\y=.str j/\i.length+j.length<=Ë/\Q (.str (i++j)) H)
section
variable{X:Cx}
theorem Gz(o:Ğ):lS X (Ŵ o) (LG o):=by
 have l:∀(h:∀i j k t u s (Q:Å->É->Prop) (E:Å->É->Prop),tQ o i j=À k->Q (.int k s.toks) { s with toks:=s.toks+1 }->Í (model X.prog X.w) X.A (Ŵ o (.int i t) (.int j u)) Q E s)
   (d:List (Ç×Obj)) (s:É) (b:St) (H:Hp) (x y:V) (v u:Å) (Q:VK),Inv X d b H s->RelV x v->RelV y u->(∃i j k,x=.int i/\y=.int j/\tQ o i j=À k/\Q (.int k) H) ->
   Í (model X.prog X.w) X.A (Ŵ o v u) (EP X d b Q) X.xe s:=by
  rintro h d s b H x y v u Q I rx f ⟨i,j,k,w,r,p,q⟩;subst w;subst r;obtain⟨t,rfl⟩:=rx;obtain⟨g,rfl⟩:=f;exact h i j k t g s _ _ p ⟨.int k,H,I.tok _,⟨_,rfl⟩,q⟩
 intro d s b H x y v u Q I rx f h;rcases h with h|⟨rfl,h⟩
 ·refine l ?_ d s b H x y v u Q I rx f h
  intro i j k t u s Q E e q;cases o<;>simp only[tQ]at e
  case Add=>cases e;exact add_int q
  case Sub=>cases e;exact sub_int q
  case Mult =>
   split at e
   ·rename_i a;cases e;exact mul_int q (Ej a)
   ·cases e
  case FloorDiv =>
   split at e
   ·rename_i a;cases e
    obtain⟨n,m⟩:=ED a;exact floordiv_int n (by rw[HG];exact q) (.inl (PyProof.noPylong_of_log2 m))
   ·cases e
  case Mod =>
   split at e
   ·cases e
   ·rename_i a;cases e
    exact mod_int' a (by rw[Hz];exact q)
  case Pow =>
   split at e
   ·rename_i a;cases e
    have c:=uw a;exact pow_int_small c.1 c.2.1 c.2.2 q
   ·cases e
  case LShift =>
   split at e
   ·rename_i a;cases e
    have c:=uw a;exact lshift_int_small c.1 c.2.1 c.2.2 q
   ·cases e
  case RShift =>
   split at e
   ·rename_i a;cases e
    exact rshift_int a (by rw[b? _ (vz _)];exact q)
   ·cases e
  case BitAnd=>cases e;exact and_int q
  case BitOr=>cases e;exact or_int q
  case BitXor=>cases e;exact xor_int q
  all_goals cases e
 ·exact vX d s b H x y v u Q I rx f h
theorem GD[Od](o:Ğ):lS X (Ŵ o) (r2 X.gm (lb (aZ o))):=OpR_imp (Gz o) fun v w H Q d=>by
 obtain ⟨P,i,j,x,y,s,r1,r2,k⟩:=d;obtain ⟨z,e,k⟩:=k.map;cases x <;> cases y <;> simp only [aZ] at e <;> first | (cases e;done) | skip
 ·rename_i a b
  simp only[RA]at r1 r2;obtain⟨c,h,g⟩:=zE.mp e;subst g;exact .inl ⟨a,b,c,r1,r2,h,k.pure s (by simp only[RA])⟩
 ·rename_i a b
  simp only[RA]at r1 r2;split at e
  ·rename_i f
   cases e;simp only[zC,yC]at f;exact .inr ⟨f.1,a,b,r1,r2,z5 (zS f.2) dC,k.pure s (by simp only[RA])⟩
  ·cases e
theorem F2[Od](d:QE X a f)(c:QE X b g):QE X (.BinOp a o b pos) (a2 f g (lb (aZ o))) :=
 PE_imp (vV (GD o) d c) fun _ _ _ q=>wJ q
end
open DD (pyOk reads_each any_vals obj_list obj_tup)
def dr(st:aa):AV->AV
 |.ref k=>match st[k]? with
  |some (.al t)=>t
  |_=>.ref k
 |v=>v
def bQ(st:aa)(v:AV):Option (List AV):=match dr st v with
 |.fz a=>À a
 |.ref k=>match st[k]? with
  |some (.lst a)=>À a
  |_=>Á
 |_=>Á
def ji(st:aa)(v:AV):Option (List AV):=match dr st v with
 |.tup xs=>À xs
 |_=>Á
section
variable{mg:Gm}{P:Pr}{φ:List Ç}{st:aa}{H:Hp}{v:AV}{w:V}{xs:List AV}
theorem RA.dr[Od](s:Sim mg P φ st H)(r:RA mg P H φ v w):RA mg P H φ (dr st v) w:=by
 cases v with
 |ref k =>
  unfold R.dr;dsimp only;split
  ·rename_i t h
   obtain⟨a,e,c⟩:=s.at h;simp only[RA]at r;obtain⟨d,b,rfl⟩:=r;rw[e]at b;cases b;exact c.2.lift
  ·exact r
 |_=>exact r
theorem RA.ls[Od](s:Sim mg P φ st H)(r:RA mg P H φ v w)(h:bQ st v=À xs):∃a vs,w=.ref a/\bR mg.K H a vs/\Og mg P H φ xs vs:=by
 have r:=r.dr s;unfold bQ at h;split at h
 ·rename_i g e
  cases h;rw[e]at r;simp only[RA]at r;obtain⟨a,vs,d,b,q⟩:=r;exact⟨a,vs,d,b.sq,q.lift⟩
 ·rename_i k e
  rw[e]at r;simp only[RA]at r;obtain⟨a,d,b⟩:=r;split at h
  ·rename_i g l
   cases h;obtain⟨m,f,c⟩:=s.at l;rw[d]at f;cases f;obtain⟨_,vs,j,i⟩:=c;exact⟨a,vs,b,.inl (.inl j),i⟩
  ·cases h
 ·cases h
theorem RA.tp[Od](s:Sim mg P φ st H)(r:RA mg P H φ v w)(h:ji st v=À xs):∃a vs,w=.ref a/\H a=À (.tup vs)/\Og mg P H φ xs vs:=by
 have r:=r.dr s;unfold ji at h;split at h
 ·rename_i d e
  cases h;rw[e]at r;simp only[RA]at r;obtain⟨a,vs,c,_,b,q⟩:=r;exact⟨a,vs,c,b,q⟩
 ·cases h
end
noncomputable def aR{α β:Type}(f:α->Option β):List α->Option (List β)
 |[]=>À []
 |x::xs=>(f x).bind fun y=>(aR f xs).map fun ys=>y::ys
theorem eU{α b a:Type}{f:α->Option b}{i:a->α}{g:a->b}(h:∀x,f (i x)=À (g x))(xs:List a):aR f (xs.map i)=À (xs.map g):=by
 induction xs with
 |nil=>rfl
 |cons x xs c=>simp only[zO,aR,h,c,Ã,Ï]
def aQ:Nat->aa->AV->Option ô
 |_,_,.non=>À .none
 |_,_,.bl b=>À (.bool b)
 |_,_,.int i=>À (.int i)
 |_,_,.str x=>À (.str x)
 |n+1,st,.fz xs=>(aR (aQ n st) xs).map .list
 |n+1,st,.tup xs=>(aR (aQ n st) xs).map .tuple
 |n+1,st,.ref k=>match st[k]? with
  |some (.lst xs)=>(aR (aQ n st) xs).map .list
  |some (.al t)=>aQ n st t
  |_=>Á
 |0,_,_=>Á
section
variable{X:Cx}{Oa:List (Ç×Obj)}{σ:St}{H:Hp}{s:É}{P:Pr}{φ:List Ç}{st:aa}
theorem rR[Od]{n:Nat}(g:∀t v p u,RA mg P H φ t v->aQ n st t=À p->RelV v u->∃as,Ŭ s.heap u p as) :
  ∀{xs:List AV}{vs:List V}{ps:List ô}{us:List Å},Og mg P H φ xs vs->aR (aQ n st) xs=À ps->Vals vs us->∃as,ϰ s.heap us ps as:=by
 intro xs
 induction xs with
 |nil =>
  intro vs ps us r e q;simp only[Og]at r;subst r;cases e;cases q;exact⟨_,.nil⟩
 |cons x xs a =>
  intro vs ps us r e q;simp only[Og]at r;obtain⟨v,l,rfl,r1,r2⟩:=r;simp only[aR]at e;obtain⟨p,k,j⟩:=zA e;obtain⟨m,i,h⟩:=zE.mp j;subst h;cases q with
  |cons f d =>
   obtain⟨as,c⟩:=g x v p _ r1 k f;obtain⟨bs,b⟩:=a r2 i d;exact⟨_,.cons c b⟩
theorem gD[Od](I:L2.Inv X Oa σ H s)(E:Sim X.gm P φ st H):∀(n:Nat)(t:AV)(v:V)(p:ô)(u:Å),RA X.gm P H φ t v->aQ n st t=À p->RelV v u->∃as,Ŭ s.heap u p as:=by
 have lst:∀{a:Ç}{g:List V}{u:Å}{y:List ô},bR X.K H a g->RelV (.ref a) u->(∀{D:List Å},Vals g D->∃as,ϰ s.heap D y as)->∃as,Ŭ s.heap u (.list y) as:=by
  intro a g u y h d k;cases d;obtain⟨Q,G,m,j,o,l,N⟩:=obj_list I h;obtain⟨as,A⟩:=k j;exact⟨_,.list o l N A⟩
 have flat:∀(n:Nat)(t:AV)(v:V)(p:ô)(u:Å)(w:V),qf t=À w->RA X.gm P H φ t v->aQ n st t=À p->RelV v u->∃as,Ŭ s.heap u p as:=by
  intro n t v p u w J r e d;cases t with
  | non=>cases n <;> (simp only [aQ] at e;cases e;simp only [RA] at r;subst r;cases d;exact ⟨_,.none⟩)
  | bl b=>cases n <;> (simp only [aQ] at e;cases e;simp only [RA] at r;subst r;cases d;exact ⟨_,.bool b⟩)
  | int i=>cases n <;> (simp only [aQ] at e;cases e;simp only [RA] at r;subst r;obtain ⟨t,rfl⟩:=d;exact ⟨_,.int i t⟩)
  | str x=>cases n <;> (simp only [aQ] at e;cases e;simp only [RA] at r;subst r;obtain ⟨t,rfl⟩:=d;exact ⟨_,.str x t⟩)
  |_=>cases J
 intro n
 induction n with
 |zero =>
  intro t v p u r e d;cases t with
  |non=>exact flat 0 _ v p u _ rfl r e d
  |bl b=>exact flat 0 _ v p u _ rfl r e d
  |int i=>exact flat 0 _ v p u _ rfl r e d
  |str x=>exact flat 0 _ v p u _ rfl r e d
  |_=>simp only[aQ]at e;cases e
 |succ n z =>
  intro t v p u r e d;cases t with
  |non=>exact flat _ _ v p u _ rfl r e d
  |bl b=>exact flat _ _ v p u _ rfl r e d
  |int i=>exact flat _ _ v p u _ rfl r e d
  |str x=>exact flat _ _ v p u _ rfl r e d
  |fz C =>
   simp only[aQ]at e;obtain⟨y,o,l⟩:=zE.mp e;subst l;simp only[RA]at r;obtain⟨a,g,rfl,h,q⟩:=r;exact lst h.sq d fun j=>rR z q.lift o j
  |tup C =>
   simp only [aQ] at e;obtain ⟨y,o,l⟩:=zE.mp e;subst l;simp only [RA] at r;obtain ⟨a,g,rfl,_,h,q⟩:=r;cases d;obtain ⟨Q,G,m,j,M,L,K⟩:=obj_tup I (show iq X.K H a g from .inl (.inl h));obtain ⟨as,A⟩:=rR z q o j;exact ⟨_,.tuple M L K A⟩
  |ref k =>
   simp only[aQ]at e;simp only[RA]at r;obtain⟨a,F,rfl⟩:=r;split at e
   ·rename_i C B
    obtain⟨y,o,l⟩:=zE.mp e;subst l;obtain⟨O,f,c⟩:=E.at B;rw[F]at f;cases f;obtain⟨_,g,h,q⟩:=c;exact lst (.inl (.inl h)) d fun j=>rR z q o j
   ·rename_i t B
    obtain⟨O,f,c⟩:=E.at B;rw[F]at f;cases f;exact z t _ p u c.2.lift e d
   ·cases e
end
noncomputable def vK:ô->Option Ì
 |.str a=>À a
 |_=>Á
theorem uo{p:ô}{a:Ì}(h:vK p=À a):p=.str a:=by
 cases p with
 |str b=>cases h;rfl
 |_=>cases h
def vL(p q:ô):Option Bool:=(vK p).bind fun a=>(vK q).map fun b=>a==b
def io(st:aa)(x y:AV):Option Bool:=(aQ 9 st x).bind fun p=>(aQ 9 st y).bind fun q=>if pyOk p q=Â then À (Ö p q) else vL p q
def ku:AV->Option aW
 |.int i=>À (.inl i)
 |.str x=>À (.inr x)
 |_=>Á
noncomputable def nD{a:Type}[DecidableEq a](Oc:List (a×AV))(k:a):Option AV:=(Oc.find? fun b=>decide (b.1=k)).map (·.2)
def ja(st:aa):AV->Option (List (aW×AV))
 |.ref k=>match st[k]? with
  |some (.dK Oc)=>À Oc
  |_=>Á
 |_=>Á
def lN(st:aa):AV->Option (List (List aW×AV))
 |.ref k=>match st[k]? with
  |some (.dT Oc)=>À Oc
  |_=>Á
 |_=>Á
def kB(st:aa)(y x:AV):Option (Option AV):=match ja st y with
 |some a=>(ku x).map fun k=>nD a k
 |none=>match lN st y with
  |some a=>match x with
   |.tup xs=>(aR ku xs).map fun k=>nD a k
   |_=>Á
  |none=>Á
def oE(st:aa)(x y:AV):Option Bool:=match kB st y x with
 |some o=>À o.isSome
 |none=>match x,y with
  |.str a,.str b=>À (!(Builtin.Str.occurrences b a 0 b.length 1).isEmpty)
  |_,_=>(aQ 9 st x).bind fun q=>(aQ 9 st y).bind fun p=>match p with
   |.list ps=>if(ps.all fun r=>pyOk r q)=Â then À (ps.any fun r=>Ö r q) else Á
   |.tuple ps=>if(ps.all fun r=>pyOk r q)=Â then À (ps.any fun r=>Ö r q) else Á
   |_=>Á
noncomputable def A4:ϓ->Int->Int->Option Bool
 |.Lt,a,b=>À (decide (a<b))
 |.LtE,a,b=>À (decide (a<=b))
 |.Gt,a,b=>À (decide (b<a))
 |.GtE,a,b=>À (decide (b<=a))
 |_,_,_=>Á
noncomputable def GH:AV->Bool
 |.non=>Â
 |_=>Ä
def Hc(x y:AV):Option Bool:=match y with
 |.non=>À (GH x)
 |.bl b=>(match x with
  |.bl a=>À (a==b)
  |_=>Á)
 |_=>Á
def bB(o:ϓ)(st:aa)(x y:AV):Option Bool:=match o with
 |.Eq=>io st x y
 |.NotEq=>(io st x y).map (!·)
 |.Is=>Hc x y
 |.IsNot=>(Hc x y).map (!·)
 |.In=>oE st x y
 |.NotIn=>(oE st x y).map (!·)
 |o=>match x,y with
  |.int a,.int b=>A4 o a b
  |_,_=>Á
def nQ(o:ϓ)(st:aa)(x y:AV):Option AV:=(bB o st x y).map .bl
theorem pO(h:pyOk p q=Â):p.canLay0=Â/\q.canLay0=Â/\min p.depth q.depth<=50:=by
 simp only[pyOk,zC,yC]at h;exact⟨h.1.1,h.1.2,h.2⟩
theorem j8{P:Pr}{H:Hp}{φ:List Ç}{a:Type}[DecidableEq a]{Oc:List (a×AV)}{ws:List (a×V)}(h:KVR mg P H φ Oc ws)(k:a) :
  (nD Oc k).isSome=(fy ws k).isSome/\∀v,nD Oc k=À v->∃w,fy ws k=À w/\RA mg P H φ v w:=by
 induction Oc generalizing ws with
 |nil =>
  have:ws=[]:=by simpa using h.1.symm
  subst this;exact⟨rfl,fun v e=>by cases e⟩
 |cons p Oc f =>
  cases ws with
  |nil=>exact absurd h.1 (by simp)
  |cons q ws =>
   obtain⟨d,b⟩:=h;rw[zO,zO]at d b;injection d with h3 h4;simp only[Og]at b;obtain⟨v,m,l,j,i⟩:=b;injection l with h8 h9;subst h8;subst h9;by_cases e:q.1=k
   ·have c:p.1=k:=h3.trans e
    simp only[nD,fy,Ċ,e,c,decide_true,Ï];refine⟨rfl,fun v g=>?_⟩;cases g;exact⟨_,rfl,j⟩
   ·have c:¬p.1=k:=fun z=>e (h3.symm.trans z)
    have:=f (ws:=ws) ⟨h4,i⟩
    simp only[nD,fy,Ċ,e,c,decide_false]at this ⊢;exact this
section
variable{X:Cx}{Oa:List (Ç×Obj)}{σ:St}{H:Hp}{s:É}{P:Pr}{φ:List Ç}{st:aa}
theorem nM(h:ku x=À k)(r:RA mg P H φ x v):v=kV k:=by
 cases x <;> simp only [ku] at h <;> first | (cases h;done) | skip
 ·cases h;simp only[RA]at r;exact r
 ·cases h;simp only[RA]at r;exact r
theorem qk[Od]:∀{xs:List AV}{vs:List V}{k:List aW},aR ku xs=À k->Og mg P H φ xs vs->vs=k.map kV:=by
 intro xs
 induction xs with
 |nil=>intro vs k e r;cases e;simp only[Og]at r;exact r
 |cons x xs a =>
  intro vs k e r;simp only[aR]at e;obtain⟨p,f,d⟩:=zA e;obtain⟨h,c,b⟩:=zE.mp d;subst b;simp only[Og]at r;obtain⟨v,g,rfl,r1,r2⟩:=r;rw[nM f r1,a c r2];rfl
theorem sX[Od](r:Sim X.gm P φ st H){x y:AV}{v w:V}{o:Option AV}(h:kB st y x=À o)(rx:RA X.gm P H φ x v)(i:RA X.gm P H φ y w) :
  ∃a o',w=.ref a/\DGet H a v o'/\o.isSome=o'.isSome/\∀t,o=À t->∃u,o'=À u/\RA X.gm P H φ t u:=by
 unfold kB at h;split at h
 ·rename_i C e
  obtain ⟨k,q,p⟩:=zE.mp h;subst p;cases y <;> simp only [ja] at e <;> first | (cases e;done) | skip
  split at e
  ·rename_i j g n
   cases e;simp only[RA]at i;obtain⟨a,m,rfl⟩:=i;obtain⟨B,d,c⟩:=r.at n;rw[m]at d;cases d;obtain⟨_,z,l,f⟩:=c
   have:=nM q rx
   subst this;exact⟨a,_,rfl,DGet.k l,(j8 f k).1,(j8 f k).2⟩
  ·cases e
 ·split at h
  ·rename_i C e
   split at h
   ·rename_i D
    obtain ⟨k,q,p⟩:=zE.mp h;subst p;cases y <;> simp only [lN] at e <;> first | (cases e;done) | skip
    split at e
    ·rename_i j g n
     cases e;simp only[RA]at i;obtain⟨a,m,rfl⟩:=i;obtain⟨B,d,c⟩:=r.at n;rw[m]at d;cases d;obtain⟨_,z,l,f⟩:=c;simp only[RA]at rx;obtain⟨b,E,rfl,_,s,A⟩:=rx;rw[qk q A]at s;exact⟨a,_,rfl,DGet.t l s,(j8 f k).1,(j8 f k).2⟩
    ·cases e
   ·cases h
  ·cases h
theorem sO(C:X.A.units+64<ŋ){v:Å}{q:ô}{b bs:List Ç}{ps:List ô}{a:Array Å}(o:Ŭ s.heap v q b)(l:ϰ s.heap a.toList ps bs)(y:(ps.all fun r=>pyOk r q)=Â) :
  ∃e:Å->Bool,(∀z∈a,SeqAt.EqAt X.A.in1 s z v (e z))/\a.any e=ps.any fun r=>Ö r q:=by
 classical
 have k:∀z f c,Ŭ s.heap z f c->decide (∃p b,Ŭ s.heap z p b/\Ö p q=Â)=Ö f q:=by
  intro z f c d;rcases he:Ö f q with _|_
  ·refine yA ?_
   rintro⟨u,j,t,m⟩
   have:=(b! d u j t).1
   rw[<- this,he]at m;cases m
  ·exact yW ⟨f,c,d,he⟩
 refine⟨fun z=>decide (∃p b,Ŭ s.heap z p b/\Ö p q=Â),fun z hz=>?_,?_⟩
 ·obtain⟨g,c,i,d⟩:=reads_each l z (by simpa using hz)
  obtain⟨x,w,B⟩:=pO (yR.mp y g i);dsimp only;rw[k z g c d];exact Ϥ g q _ s z v c b d o x w (by simp only[Around.in1_units];lia)
 ·have A:=any_vals (q:=q) (e:=fun z=>decide (∃p b,Ŭ s.heap z p b/\Ö p q=Â)) (h:=s.heap) (fun v p b n=>k v p b n) l
  rw[<- A];simp
theorem uV[Od](J:X.A.units+64<ŋ)(I:L2.Inv X Oa σ H s)(A:Sim X.gm P φ st H){x y:AV}{v w:V}{u r:Å}{b:Bool}(h:oE st x y=À b)(rx:RA X.gm P H φ x v)(l:RA X.gm P H φ y w)(m:RelV v u)(B:RelV w r){E:Å->É->Prop}
  {Q:Å->É->Prop}{Q':Å->É->Prop} (z:∀s',L2.Inv X Oa σ H s'->Q (.bool b) s') (d:∀s',L2.Inv X Oa σ H s'->Q' (.bool (!b)) s') :
  Í (model X.prog X.w) X.A (đ .In u r) Q E s/\Í (model X.prog X.w) X.A (đ .NotIn u r) Q' E s:=by
 unfold oE at h;split at h
 ·rename_i o e
  cases h;obtain⟨a,S,rfl,g,K,_⟩:=sX A e rx l;cases B;exact⟨L7 oM I g m fun s' D=>by rw[<- K];exact z s' D,EE oM I g m fun s' D=>by rw[<- K];exact d s' D⟩
 ·split at h
  ·rename_i a c
   cases h;simp only[RA]at rx l;subst rx;subst l;obtain⟨t,rfl⟩:=m;obtain⟨R,rfl⟩:=B;exact⟨in_str (z s I),notIn_str (d s I)⟩
  ·obtain⟨q,O,N⟩:=zA h
   obtain⟨p,M,f⟩:=zA N;obtain⟨T,G⟩:=gD I A 9 _ _ _ _ rx O m;obtain⟨bs,F⟩:=gD I A 9 _ _ _ _ l M B;split at f
   ·rename_i L
    split at f
    ·rename_i C
     cases f;cases F with
     |@list a o items n xs as' hg hc hdt rall =>
      obtain⟨e,j,k⟩:=sO J G rall C;have i:s.heap.IsList a items:=⟨o,hg,hc,n,hdt⟩;exact⟨SeqAt.in_listAt e i j (by rw[k];exact z s I),SeqAt.notIn_listAt e i j (by rw[k];exact d s I)⟩
    ·cases f
   ·rename_i L
    split at f
    ·rename_i C
     cases f;cases F with
     |@tuple a o items n xs as' hg hc hdt rall =>
      obtain⟨e,j,k⟩:=sO J G rall C;have i:IsTup s.heap a items:=⟨o,hg,hc,n,hdt⟩;exact⟨SeqAt.in_tupleAt e i j (by rw[k];exact z s I),SeqAt.notIn_tupleAt e i j (by rw[k];exact d s I)⟩
    ·cases f
   ·cases f
end
section
variable{X:Cx}
theorem g_{T:Prop}(h:∀G:Prop,(T->G)->G):T:=h _ id
theorem xK[Od](T:X.A.units+64<ŋ)(o:ϓ):lS X (đ o) (r2 X.gm (lb (nQ o))):=by
 rintro S s F H v w u r Q I m n ⟨P,φ,Y,x,y,l,rx,j,k⟩;obtain⟨z,e,k⟩:=k.map;obtain⟨b,g,e2⟩:=zE.mp e;subst e2;have au:∀J,L2.Inv X S F H J->EP X S F Q (.bool b) J:=fun J I'=>⟨.bl b,H,I',rfl,k.pure l (by simp only[RA])⟩
 have f:∀{o:Option Bool},o.map (!·)=À b->∃c,o=À c/\b=!c:=fun h=>by
  obtain⟨c,i,R⟩:=zE.mp h;exact⟨c,i,R.symm⟩
 have D:∀{c:Bool},io Y x y=À c->∀{Q:Å->É->Prop}{E:Å->É->Prop},(Q (.bool c) s->Í (model X.prog X.w) X.A (đ .Eq u r) Q E s)/\(Q (.bool (!c)) s->Í (model X.prog X.w) X.A (đ .NotEq u r) Q E s):=by
  intro c h Q E;clear k au f g e;refine g_ fun G bk=>?_
  unfold io at h;obtain⟨p,i,R⟩:=zA h;obtain⟨q,O,N⟩:=zA R;split at N
  ·rename_i hk
   cases N;obtain⟨W,V,hd⟩:=pO hk;obtain⟨as,C⟩:=gD I l 9 _ _ _ _ rx i m;obtain⟨bs,B⟩:=gD I l 9 _ _ _ _ j O n;exact bk ⟨fun q=>SeqAt.eqOverData _ _ _ _ _ _ _ _ _ _ _ _ C B W V oM q,fun q=>SeqAt.neOverData _ _ _ _ _ _ _ _ _ _ _ _ C B W V oM q⟩
  ·obtain⟨a,ha,h5⟩:=zA N
   obtain⟨b,hb,h6⟩:=zE.mp h5;subst h6;rw[uo ha]at i;rw[uo hb]at O;obtain⟨as,C⟩:=gD I l 9 _ _ _ _ rx i m;obtain⟨bs,B⟩:=gD I l 9 _ _ _ _ j O n;cases C;cases B;exact bk ⟨fun q=>eq_str q,fun q=>ne_str q⟩
 have L:∀{c:Bool},Hc x y=À c->∀{Q:Å->É->Prop}{E:Å->É->Prop},(Q (.bool c) s->Í (model X.prog X.w) X.A (đ .Is u r) Q E s)/\(Q (.bool (!c)) s->Í (model X.prog X.w) X.A (đ .IsNot u r) Q E s):=by
  intro c h Q E;clear k au f g e D l;have Z:y=.non->c=(u==Ũ)->(Q (.bool c) s->Í (model X.prog X.w) X.A (đ .Is u r) Q E s)/\(Q (.bool (!c)) s->Í (model X.prog X.w) X.A (đ .IsNot u r) Q E s):=fun M U=>by
   subst M;simp only[RA]at j;subst j;cases n;exact⟨fun q=>is_none_gen (by rw[<- U];exact q),fun q=>isnot_none_gen (by rw[<- U];exact q)⟩
  cases y with
  |non =>
   have h:À (GH x)=À c:=h;cases h;refine Z rfl ?_;cases x with
   |non=>simp only[RA]at rx;subst rx;cases m;rfl
   | _=>rw [RelV.none_iff m];refine (yA fun hv=>?_).symm;subst hv;simp only [RA] at rx;first | (cases rx;done) | (obtain ⟨_,_,z,_⟩:=rx;cases z;done) | (obtain ⟨_,_,z⟩:=rx;cases z;done)
  |bl d=>cases x with
   |bl a =>
    cases h;simp only[RA]at rx j;subst rx;subst j;cases m;cases n;cases a<;>cases d<;>exact⟨fun q=>yG q,fun q=>yG q⟩
   |_=>exact nomatch h
  |_=>exact nomatch h
 have K:∀{a c:Int},x=.int a->y=.int c->A4 o a c=À b->Í (model X.prog X.w) X.A (đ o u r) (EP X S F Q) X.xe s:=by
  intro a c hx M A;clear D L f k g e l;subst hx;subst M;simp only [RA] at rx j;subst rx;subst j;obtain ⟨t,rfl⟩:=m;obtain ⟨t',rfl⟩:=n;cases o <;> simp only [A4] at A <;> first | (cases A;done) | skip
  ·cases A;exact lt_int (au s I)
  ·cases A;exact le_int (au s I)
  ·cases A;exact gt_int (au s I)
  ·cases A;exact ge_int (au s I)
 cases o<;>simp only[bB]at g
 case Eq=>exact(D g).1 (au s I)
 case NotEq=>obtain⟨c,i,rfl⟩:=f g;exact(D i).2 (au s I)
 case Is=>exact(L g).1 (au s I)
 case IsNot=>obtain⟨c,i,rfl⟩:=f g;exact(L i).2 (au s I)
 case In=>exact(uV T I l g rx j m n (Q':=fun _ _=>True) au fun _ _=>trivial).1
 case NotIn=>obtain⟨c,i,rfl⟩:=f g;exact(uV T I l i rx j m n (Q:=fun _ _=>True) (fun _ _=>trivial) au).2
 all_goals
  split at g
  ·exact K rfl rfl g
  ·cases g
noncomputable def ma(a:ϓ)(b:Î):Bool:=!(Ϡ a b)
theorem sD(h:ma op b=Â):Ϡ op b=Ä:=by simpa [ma] using h
theorem F1[Od](c:X.A.units+64<ŋ)(h:QE X a f)(e:QE X b g)(d:ma o b=Â):QE X (.Compare a [o] [b] pos) (a2 f g (lb (nQ o))) :=
 PE_imp (Eb (xK c o) h e (sD d)) fun _ _ _ q=>wJ q
def Fg(f g:EF)(o:ϓ):TF:=fun a c=>(f a c).bind fun p=>(g a p.2).bind fun q=>(bB o q.2 p.1 q.1).map fun b=>(b,q.2)
theorem FI[Od](n:X.A.units+64<ŋ)(v:QE X a f)(u:QE X b g)(t:ma o b=Â):QT X (.Compare a [o] [b] pos) (Fg f g o) :=
 PT_imp (DK (xK n o) v u (sD t)) fun I H Q h=>by
  refine e7 h fun P G K J m s k=>?_
  refine wJ (k:=lb (nQ o)) (i7 m s ?_);obtain⟨b,j,e,q⟩:=k;unfold Fg at e;obtain⟨p,D,C⟩:=zA e;obtain⟨r,B,A⟩:=zA C;obtain⟨c,z,y⟩:=zE.mp A;injection y with e7 e8;subst e7;subst e8;refine⟨.bl c,r.2,by simp only[a2,D,Ã,B,lb,nQ,z,Ï],fun E d F w x l i=>?_⟩;simp only[RA]at i;exact⟨c,i,q E d F c x l rfl⟩
def nV(o:UnaryOp)(_:aa):AV->Option AV
 |.int i=>match o with
  |.USub=>À (.int (-i))
  |.Invert=>À (.int (P? i))
  |_=>Á
 |_=>Á
theorem IM[Od](j:QE X a f):QE X (.UnaryOp o a pos) (a1 f (Fp (nV o))):=by
 have h:zu X (U4 o) (r1 X.gm (Fp (nV o))):=by
  rintro g s b H v u Q I d ⟨P,l,m,x,c,rx,k⟩;obtain ⟨z,e,k⟩:=k.map;cases x <;> simp only [nV] at e <;> first | (cases e;done) | skip
  rename_i i;simp only [RA] at rx;subst rx;cases o <;> first | (cases e;done) | skip
  ·cases e
   exact EU g s b H _ u Q I d ⟨i,rfl,k.pure c (by simp only[RA])⟩
  ·cases e
   exact ET g s b H _ u Q I d ⟨i,rfl,k.pure c (by simp only[RA])⟩
 exact PE_imp (IY h j) fun _ _ _ q=>Mf q
def fA(st:aa)(v:AV):Option Bool:=match bQ st v with
 |some a=>À !a.isEmpty
 |none=>match v with
  |.non=>À Ä
  |.bl b=>À b
  |.int i=>À (i !=0)
  |.str x=>if Þ x.length 1000000=Â then À ((x.length:Int) !=0) else Á
  |.tup a=>À !a.isEmpty
  |v=>(ja st v).map fun c=>!c.isEmpty
theorem qx(r:Og mg P H φ xs vs):vs.isEmpty=xs.isEmpty:=by
 cases xs with
 |nil=>simp only[Og]at r;subst r;rfl
 |cons x xs=>simp only[Og]at r;obtain⟨v,a,rfl,_⟩:=r;rfl
theorem Aj[Od]{P:Pr}{H:Hp}{φ:List Ç}{st:aa}(i:Sim X.gm P φ st H){v:AV}{w:V}{b:Bool}(h:fA st v=À b)(r:RA X.gm P H φ v w):BP X.K w H b:=by
 unfold fA at h;split at h
 ·rename_i l e
  cases h;obtain⟨a,g,rfl,n,q⟩:=r.ls i e;exact .inl ⟨g,n,by rw[qx q]⟩
 ·cases v<;>simp only at h
  case non=>cases h;simp only[RA]at r;subst r;exact rfl
  case bl=>cases h;simp only[RA]at r;subst r;exact rfl
  case int=>cases h;simp only[RA]at r;subst r;exact rfl
  case str x =>
   simp only[RA]at r;subst r;split at h
   ·rename_i s;cases h;exact⟨z5 (zS s) dC,rfl⟩
   ·cases h
  case tup l =>
   cases h;simp only[RA]at r;obtain⟨a,g,rfl,_,e,q⟩:=r;exact .inr (.inl ⟨g,.inl (.inl e),by rw[qx q]⟩)
  case fz=>obtain⟨_,z,_⟩:=zE.mp h;simp[ja]at z
  case ref k =>
   obtain⟨C,f,y⟩:=zE.mp h;subst y;simp only[ja]at f;split at f
   ·rename_i j t
    cases f;simp only[RA]at r;obtain⟨a,u,rfl⟩:=r;obtain⟨B,d,c⟩:=i.at t;rw[u]at d;cases d;obtain⟨_,m,p,o,A⟩:=c;refine .inr (.inr ⟨m,p,?_⟩)
    have:=congrArg List.isEmpty o
    simpa using this
   ·cases f
def tV(f:EF):TF:=fun c a=>(f c a).bind fun p=>(fA p.2 p.1).map fun b=>(b,p.2)
theorem xn[Od](o:QE X a f)(he:∀whole,v? a X.env whole=(do let v <- whole;ő a.pos;holding [v] (truthy v))):QT X a (tV f) :=
 PT_imp (AG o he) fun z H Q h=>e7 h fun P y B A n s k=>i7 n s (by
  obtain⟨a,e,t,q⟩:=k.bind (Ra:=RA);refine⟨a,e,t,fun u d w b p m r1=>?_⟩;obtain⟨D,j,l,x,C,i,r2,g⟩:=q u d w b p m r1;obtain⟨c,r,g⟩:=g.map;exact⟨c,Aj i r r2,g.pure i rfl⟩)
def Km(f g:TF):TF:=fun a b=>(f a b).bind fun p=>if p.1=Â then g a p.2 else À (Ä,p.2)
def Fb(f g:TF):TF:=fun a b=>(f a b).bind fun p=>if p.1=Â then À (Â,p.2) else g a p.2
def Kk(f:TF):TF:=fun b a=>(f b a).bind fun p=>À (!p.1,p.2)
section
variable{a b:Î}{rest:List Î}{pos:ġ}{f g:TF}
theorem FD[Od](b:A')(c:QT X a f):QW X (.BoolOp b [a] pos) f:=by
 cases b
 ·exact DJ c
 ·exact F4 c
theorem FF[Od](t:QT X a f)(r:QW X (.BoolOp .And (b::rest) pos) g):QW X (.BoolOp .And (a::b::rest) pos) (Km f g) :=
 PW_imp (F5 t r) fun C H Q j=>e7 j fun P B o D m s k=>i7 m s (by
  obtain⟨a,i,w,q⟩:=k.bind (Ra:=RB);refine⟨a,i,w,fun z e A c v p r1=>?_⟩;obtain⟨y,d,h,x,u,l,r2,n⟩:=q z e A c v p r1;cases r2;cases c with
  |true=>exact⟨y,d,o,h,m.frm u,l,n⟩
  |false=>exact n.pure l rfl)
theorem IG[Od](t:QT X a f)(r:QW X (.BoolOp .Or (b::rest) pos) g):QW X (.BoolOp .Or (a::b::rest) pos) (Fb f g) :=
 PW_imp (IU t r) fun C H Q j=>e7 j fun P B o D m s k=>i7 m s (by
  obtain⟨a,i,w,q⟩:=k.bind (Ra:=RB);refine⟨a,i,w,fun z e A c v p r1=>?_⟩;obtain⟨y,d,h,x,u,l,r2,n⟩:=q z e A c v p r1;cases r2;cases c with
  |false=>exact⟨y,d,o,h,m.frm u,l,n⟩
  |true=>exact n.pure l rfl)
theorem FG[Od](n:QT X a f):QT X (.UnaryOp .Not a pos) (Kk f) :=
 PT_imp (F6 n) fun v H Q e=>e7 e fun P u y w l s k=>i7 l s (by
  obtain⟨a,d,p,q⟩:=k.bind (Ra:=RB);refine⟨a,d,p,fun r b t c o j r1=>?_⟩;obtain⟨A,g,h,x,z,i,r2,m⟩:=q r b t c o j r1;cases r2;exact m.pure i rfl)
end
def CS(f g:EF):EF:=fun a b=>(f a b).bind fun p=>match p.1 with
 |.bl Â=>g a p.2
 |.bl Ä=>À (.bl Ä,p.2)
 |_=>Á
def CN(f g:EF):EF:=fun a b=>(f a b).bind fun p=>match p.1 with
 |.bl Ä=>g a p.2
 |.bl Â=>À (.bl Â,p.2)
 |_=>Á
def KU(f:EF):EF:=fun c a=>(f c a).bind fun p=>match p.1 with
 |.bl b=>À (.bl !b,p.2)
 |_=>Á
def KY(t:TF)(f g:EF):EF:=fun a b=>(t a b).bind fun p=>if p.1=Â then f a p.2 else g a p.2
section
variable{a b c:Î}{rest:List Î}{pos:ġ}{f g:EF}{t:TF}
theorem KG.no[Od]{α a:Type}{Ra:Gm->Pr->Hp->List Ç->α->a->Prop}{Q:a->Hp->Prop}(h:KG mg Ra P φ H Á Q):False:=by obtain⟨_,_,e,_⟩:=h;cases e
theorem F3[Od](u:QE X a f)(t:QE X (.BoolOp .And (b::rest) pos) g):QE X (.BoolOp .And (a::b::rest) pos) (CS f g) :=
 PE_imp (Gu u t) fun D H Q m=>e7 m fun P C p E o s k=>i7 o s (by
  obtain⟨a,j,y,q⟩:=k.bind (Ra:=RA);refine⟨a,j,y,fun A h B c w r r1=>?_⟩;obtain⟨z,e,i,x,v,n,r2,l⟩:=q A h B c w r r1;cases x<;>first|exact l.no.elim|skip
  rename_i d;simp only[RA]at r2;refine⟨d,r2,?_⟩;cases d with
  |true=>exact⟨z,e,p,i,o.frm v,n,l⟩
  |false=>exact l.pure n (by simp only[RA]))
theorem IN[Od](u:QE X a f)(t:QE X (.BoolOp .Or (b::rest) pos) g):QE X (.BoolOp .Or (a::b::rest) pos) (CN f g) :=
 PE_imp (IZ u t) fun D H Q m=>e7 m fun P C p E o s k=>i7 o s (by
  obtain⟨a,j,y,q⟩:=k.bind (Ra:=RA);refine⟨a,j,y,fun A h B c w r r1=>?_⟩;obtain⟨z,e,i,x,v,n,r2,l⟩:=q A h B c w r r1;cases x<;>first|exact l.no.elim|skip
  rename_i d;simp only[RA]at r2;refine⟨d,r2,?_⟩;cases d with
  |false=>exact⟨z,e,p,i,o.frm v,n,l⟩
  |true=>exact l.pure n (by simp only[RA]))
theorem FY[Od](o:QE X a f):QE X (.UnaryOp .Not a pos) (KU f) :=
 PE_imp (Go o) fun w H Q g=>e7 g fun P v z y n s k=>i7 n s (by
  obtain⟨a,e,r,q⟩:=k.bind (Ra:=RA);refine⟨a,e,r,fun t b u c p m r1=>?_⟩;obtain⟨B,i,j,x,A,l,r2,h⟩:=q t b u c p m r1;cases x<;>first|exact h.no.elim|skip
  rename_i d;simp only[RA]at r2;exact⟨d,r2,h.pure l (by simp only[RA])⟩)
theorem IQ[Od](v:QT X c t)(y:QE X a f)(w:QE X b g):QE X (.IfExp c a b pos) (KY t f g) :=
 PE_imp (AU v y w) fun E H Q l=>e7 l fun P D m F j s k=>i7 j s (by
  obtain⟨a,i,A,q⟩:=k.bind (Ra:=RB);refine⟨a,i,A,fun B h C c z u r1=>?_⟩;obtain⟨r,d,e,x,p,n,r2,o⟩:=q B h C c z u r1;cases r2;cases c with
  |true=>exact⟨r,d,m,e,j.frm p,n,o⟩
  |false=>exact⟨r,d,m,e,j.frm p,n,o⟩)
end
def bI(st:aa)(x y:AV):Option AV:=match kB st x y with
 |some o=>o
 |none=>match y with
  |.int i=>match bQ st x with
   |some a=>gO a i
   |none=>match ji st x with
    |some a=>gO a i
    |none=>match x with
     |.str z=>if Þ z.length 1000000=Â then(gO z.cps.toList i).map fun c=>.str ⟨#[c]⟩ else Á
     |_=>Á
  |_=>Á
theorem p6{i:Int}(r:Og mg P H φ xs vs)(h:gO xs i=À x):∃v,gO vs i=À v/\RA mg P H φ x v:=by
 unfold gO at h ⊢;rw[<- r.length];obtain⟨j,b,a⟩:=zA h;rw[b,Ã];exact r.get a
theorem Es(o:X.A.units+64<ŋ):IxR X (fun x y H Q=>∃a v,x=.ref a/\DGet H a y (À v)/\Q v H):=by
 rintro b c k s h H x y v u Q I rx i ⟨a,t,ex,g,q⟩ j;subst ex;cases rx;have f:=ud I g;unfold C!;refine yF ?_;rw[getitemInPython_of_ne f.not_modules];refine yF (W7 f PySem.F.slot_dict_getitem.lookup ?_);have au:Í (model X.prog X.w) X.A (subscripted c Ä (.ref a) u) (fun r d=>Í (model X.prog X.w) X.A (letTemporaryGo b (.ref a) r>>=fun _=>pure r) (EP X k h Q) X.xe d) X.xe s:=by
  rw[j];exact wpAny_operating (zd oM I g i fun m n l e=>yF (wpAny_letTemporaryGo (yG ⟨t,H,l,e,q⟩)))
 first
  |exact yG (yF au)
  |exact yF (yG (yF au))
  |exact yF au
theorem LU[Od](J:X.A.units+64<ŋ):IxR X (r2 X.gm (lb bI)):=by
 rintro b d A s l H v w u r Q I m n ⟨P,O,R,x,y,f,rx,C,F⟩ p;obtain⟨z,e,k⟩:=F.map;clear F;unfold bI at e;split at e
 ·rename_i o M
  subst e;obtain⟨a,S,rfl,g,_,L⟩:=sX f M C rx;obtain⟨t,rfl,h⟩:=L z rfl;exact Es J b d A s l H _ _ u r Q I m n ⟨a,t,rfl,g,k.pure f h⟩ p
 ·cases y with
  |int i =>
   simp only[RA]at C;subst C;dsimp only at e;split at e
   ·rename_i G E
    obtain⟨a,B,rfl,D,q⟩:=rx.ls f E;obtain⟨t,j,h⟩:=p6 q e;exact sL b d A s l H _ _ u r Q I m n (.inl ⟨a,B,i,t,rfl,rfl,D,j,k.pure f h⟩) p
   ·split at e
    ·rename_i G E
     obtain⟨a,B,rfl,D,q⟩:=rx.tp f E;obtain⟨t,j,h⟩:=p6 q e;exact sL b d A s l H _ _ u r Q I m n (.inr (.inl ⟨a,B,i,t,rfl,rfl,.inl (.inl D),j,k.pure f h⟩)) p
    ·cases x with
     |str x =>
      dsimp only at e;split at e
      ·rename_i K
       obtain⟨c,N,j⟩:=zE.mp e;subst j;simp only[RA]at rx;subst rx;exact sL b d A s l H _ _ u r Q I m n (.inr (.inr ⟨x,i,c,rfl,rfl,z5 (zS K) dC,N,k.pure f (by simp only[RA])⟩)) p
      ·cases e
     |_=>cases e
  |_=>cases e
theorem IP[Od](c:X.A.units+64<ŋ)(h:QE X a f)(e:QE X b g)(d:p8 b):QE X (.Subscript a b pos) (a2 f g (lb bI)) :=
 PE_imp (Jb (LU c) h e d) fun _ _ _ q=>wJ q
def KR(g:AF):EF:=fun b a=>(g b a).bind fun p=>if Þ p.1.length 1000=Â then À (.tup p.1,p.2) else Á
theorem FX[Od]{l:Nat}(h:QA X es g):QE X (.Tuple es l pos) (KR g) :=
 PE_imp (Gj h) fun E H Q f=>e7 f fun P D I G u s k=>i7 u s (by
  obtain⟨a,e,A,q⟩:=k.bind (Ra:=Og);refine⟨a,e,A,fun B c C d y t r1=>?_⟩;obtain⟨K,j,m,F,J,r,r2,b⟩:=q B c C d y t r1;dsimp only at b;split at b
  ·rename_i x
   refine⟨by rw[<- r2.length];exact z5 (zS x) dC,fun p w=>?_⟩;obtain⟨i,n⟩:=om (o:=.tup d) r w;obtain⟨_,_,z,v⟩:=b;cases z;refine v _ _ _ _ i n ?_;simp only[RA];exact⟨p,d,rfl,.inr rfl,ay,r2.frm i⟩
  ·exact b.no.elim)
end
mutual
noncomputable def cU:AV->AV->Bool
 |.non,.non=>Â
 |.bl a,.bl b=>a==b
 |.int a,.int b=>a==b
 |.str a,.str b=>a==b
 |.ref a,.ref b=>a==b
 |.tup a,.tup b=>fW a b
 |.fz a,.fz b=>fW a b
 |_,_=>Ä
noncomputable def fW:List AV->List AV->Bool
 |[],[]=>Â
 |x::xs,y::ys=>cU x y&&fW xs ys
 |_,_=>Ä
end
mutual
theorem vi:∀{x y:AV},cU x y=Â->x=y
 |.non,y,h=>by cases y<;>simp only[cU]at h<;>first|rfl|cases h
 | .bl a,y,h=>by cases y <;> simp only [cU] at h <;> first | (rw [yK h]) | cases h
 | .int a,y,h=>by cases y <;> simp only [cU] at h <;> first | (rw [yK h]) | cases h
 | .str a,y,h=>by cases y <;> simp only [cU] at h <;> first | (rw [yK h]) | cases h
 | .ref a,y,h=>by cases y <;> simp only [cU] at h <;> first | (rw [yK h]) | cases h
 | .tup a,y,h=>by cases y <;> simp only [cU] at h <;> first | (rw [j3 h]) | cases h
 | .fz a,y,h=>by cases y <;> simp only [cU] at h <;> first | (rw [j3 h]) | cases h
theorem j3:∀{xs ys:List AV},fW xs ys=Â->xs=ys
 |[],ys,h=>by cases ys<;>simp only[fW]at h<;>first|rfl|cases h
 |x::xs,ys,h=>by
  cases ys with
  |nil=>simp only[fW]at h;cases h
  |cons y ys =>
   simp only[fW,zC]at h;rw[vi h.1,j3 h.2]
end
mutual
theorem zm:∀x:AV,cU x x=Â
 |.non=>by simp only[cU]
 |.bl a=>by simp[cU]
 |.int a=>by simp[cU]
 |.str a=>by simp[cU]
 |.ref a=>by simp[cU]
 |.tup a=>by simp only[cU];exact jx a
 |.fz a=>by simp only[cU];exact jx a
theorem jx:∀xs:List AV,fW xs xs=Â
 |[]=>by simp only[fW]
 |x::xs=>by simp only[fW,zm x,jx xs,Đ]
end
abbrev Gd:=List (Nat×Ob)
def wE:Ob->Ob->Bool
 |.lst a,.lst b=>fW a b
 |.dK a,.dK b=>decide (a.map (·.1)=b.map (·.1))&&fW (a.map (·.2)) (b.map (·.2))
 |_,_=>Ä
def cm:Gd->aa->Bool
 |[],_=>Â
 |g::gs,st=>(match st[g.1]? with|some c=>wE c g.2|none=>Ä)&&cm gs st
theorem BB{k:Nat}{xs:List AV}{gs:Gd}{st:aa}(h:cm ((k,.lst xs)::gs) st=Â):st[k]?=À (.lst xs)/\cm gs st=Â:=by
 simp only[cm,zC]at h;refine⟨?_,h.2⟩;have h:=h.1;split at h
 ·rename_i c e
  cases c <;> simp only [wE] at h <;> first | (cases h;done) | skip
  rw[e,j3 h]
 ·cases h
theorem u7{a b:Gd}{st:aa}(h:cm (a++b) st=Â):cm a st=Â/\cm b st=Â:=by
 induction a with
 |nil=>exact⟨rfl,h⟩
 |cons g a c =>
  simp only[Ϣ,cm,zC]at h ⊢;exact⟨⟨h.1,(c h.2).1⟩,(c h.2).2⟩
structure Iv where
 Oe:List AV
 gd:Gd
abbrev IF:=Sl->aa->Option (Iv×aa)
structure vq[Od](mg:Gm)(J:It)(iv:Iv)(P:Pr)(φ:List Ç)(H:Hp):Prop where
 go:∀P2 φ2 H2 st2 (i:Nat) x,Frm P φ H P2 φ2 H2->Sim mg P2 φ2 st2 H2->cm iv.gd st2=Â->iv.Oe[i]?=À x->J.go i H2/\∀v H3,J.yld i H2 v H3->∃P3,Frm P2 φ2 H2 P3 φ2 H3/\Sim mg P3 φ2 st2 H3/\RA mg P3 H3 φ2 x v
 stop:∀P2 φ2 H2 st2,Frm P φ H P2 φ2 H2->Sim mg P2 φ2 st2 H2->cm iv.gd st2=Â->J.stop iv.Oe.length H2
def rI[Od](mg:Gm)(f:IF):TI:=fun j H R=>∃P d h g,Ol mg P H d h j/\Sim mg P d g H/\∃i b,f h g=À (i,b)/\∀e a c J,Frm P d H e a c->Sim mg e a b c->vq mg J i e a c->R J c
def QI[Od](X:Cx)(b a:Î)(f:IF):Prop:=PI X b a (rI X.gm f)
theorem iR(h:PI X tg iter t)(i:∀σ H R,t' σ H R->t σ H R):PI X tg iter t':=fun b s σ H R I a=>h b s σ H R I (i σ H R a)
def iX(st:aa)(v:AV):Option Iv:=match dr st v with
 |.fz a=>À ⟨a,[]⟩
 |.ref k=>match st[k]? with
  |some (.lst a)=>À ⟨a,[(k,.lst a)]⟩
  |_=>Á
 |_=>Á
section
variable{mg:Gm}{P:Pr}{φ:List Ç}{st:aa}{H:Hp}{v:AV}{w:V}{iv:Iv}
theorem lB[Od](s:Sim mg P φ st H)(r:RA mg P H φ v w)(h:iX st v=À iv):∃a,w=.ref a/\∀P2 φ2 H2 st2,Frm P φ H P2 φ2 H2->Sim mg P2 φ2 st2 H2->cm iv.gd st2=Â->∃vs,bR mg.K H2 a vs/\Og mg P2 H2 φ2 iv.Oe vs:=by
 have r:=r.dr s;unfold iX at h;split at h
 ·rename_i j e
  cases h;rw[e]at r;simp only[RA]at r;obtain⟨a,vs,d,b,q⟩:=r;refine⟨a,d,fun P2 φ2 H2 st2 f _ _=>⟨vs,(b.mono f.ext).sq,?_⟩⟩;exact Og.lift (q.mono f.ext fun k a e=>by simp at e)
 ·rename_i k e
  rw[e]at r;simp only[RA]at r;obtain⟨a,d,b⟩:=r;split at h
  ·rename_i j o
   cases h;refine⟨a,b,fun P2 φ2 H2 st2 f l g=>?_⟩;obtain⟨g1,_⟩:=BB g;obtain⟨p,i,c⟩:=l.at g1;rw[f.ix k a d]at i;cases i;obtain⟨_,vs,n,m⟩:=c;exact⟨vs,.inl (.inl n),m⟩
  ·cases h
 ·cases h
end
section
variable{X:Cx}{tg e a b:Î}{es:List Î}{pos p:ġ}
def oA(st:aa)(v:AV):Option Iv:=match v with
 |.str x=>if x.cps.all (·<128)=Â then À ⟨x.cps.toList.map fun c=>.str ⟨#[c]⟩,[]⟩ else Á
 |v=>match ji st v with
  |some a=>À ⟨a,[]⟩
  |none=>iX st v
def iE(f:EF):IF:=fun b a=>(f b a).bind fun p=>(oA p.2 p.1).map fun c=>(c,p.2)
theorem Gf[Od](r:PE X e tl):PI X tg e (fun σ H R=>tl σ H fun x H1=>(∃a,x=.ref a/\(∃xs,bR X.K H1 a xs)/\R (C1 X.K a) H1)\/(∃a,x=.ref a/\(∃xs,iq X.K H1 a xs)/\R (CY X.K a) H1)\/∃x':Ì,x=.str x'/\x'.cps.all (·<128)=Â/\R (CZ x') H1):=by
 intro k s σ H R I h;refine aD (r k s σ H _ I h) fun v c f=>?_
 obtain⟨x,H1,d,r1,m⟩:=f;have i:∀b∈[c.heap.objs.size],dW X k H1 b:=fun b u=>by
  have e:b=c.heap.objs.size:=by simpa using u
  subst e;exact d.fpOk (zP _) (d.Oi.fresh (zP _))
 rcases m with⟨a,e,⟨xs,g⟩,q⟩|⟨a,e,⟨xs,g⟩,q⟩|⟨y,e,n,q⟩
 ·subst e
  cases r1;obtain⟨j,l,p,hz⟩:=d.list g;refine ĩ p.isList ?_;exact⟨c.heap.objs.size,[c.heap.objs.size],_,_,H1,rfl,d.kept (t':=c.toks) fun b o e=>zG _ e,wS a _,⟨_,zY _ rfl,rfl,rfl⟩,i,q⟩
 ·subst e
  cases r1;obtain ⟨j,l,p,hz⟩:=d.tuple g;refine wpAny_pyIter_tuple (show c.heap.IsTuple a j.toArray from p) ?_;exact ⟨c.heap.objs.size,[c.heap.objs.size],_,_,H1,rfl,d.kept (t':=c.toks) fun b o e=>zG _ e,vA a _,⟨_,zY _ rfl,rfl,rfl⟩,i,q⟩
 ·subst e
  obtain⟨t,rfl⟩:=r1;refine wpAny_pyIter_ascii n ?_;exact⟨c.heap.objs.size,[c.heap.objs.size],_,_,H1,rfl,d.kept (t':=c.toks) fun b o e=>zG _ e,Ai y t _,⟨_,zY _ rfl,rfl,rfl⟩,i,q⟩
theorem Br[Od]{mg:Gm}{P:Pr}{φ:List Ç}{H:Hp}{K:á}{a:Ç}{d:Iv}(h:∀P2 φ2 H2 st2,Frm P φ H P2 φ2 H2->Sim mg P2 φ2 st2 H2->cm d.gd st2=Â->∃vs,bR K H2 a vs/\Og mg P2 H2 φ2 d.Oe vs):vq mg (C1 K a) d P φ H where
 go:=fun P2 φ2 H2 st2 i x f s g e=>by
  obtain⟨vs,b,c⟩:=h P2 φ2 H2 st2 f s g;obtain⟨v,k,r1⟩:=c.get e;refine⟨⟨vs,v,b,k⟩,fun w n j=>?_⟩;obtain⟨m,l⟩:=j;subst m
  have:=l vs b
  rw[k]at this;cases this;exact⟨P2,Frm.refl,s,r1⟩
 stop:=fun P2 φ2 H2 st2 f s g=>by
  obtain⟨vs,b,c⟩:=h P2 φ2 H2 st2 f s g;exact⟨vs,b,by rw[<- c.length];exact zP _⟩
theorem Et[Od]{mg:Gm}{P:Pr}{φ:List Ç}{H:Hp}{K:á}{a:Ç}{xs:List AV}{vs:List V}(j:P a)(k:H a=À (.tup vs))(h:Og mg P H φ xs vs):vq mg (CY K a) ⟨xs,[]⟩ P φ H where
 go:=fun n b o c i x f s g e=>by
  obtain⟨v,m,r1⟩:=(h.frm f).get e;have l:iq K o a vs:=.inl (.inl ((f.ext a j).2.trans k));refine⟨⟨vs,v,l,m⟩,fun w r d=>?_⟩;obtain⟨q,p⟩:=d;subst q
  have:=p vs l
  rw[m]at this;cases this;exact⟨n,Frm.refl,s,r1⟩
 stop:=fun n b o c f s g=>⟨vs,.inl (.inl ((f.ext a j).2.trans k)),by rw[<- h.length];exact zP _⟩
theorem Eu[Od]:vq mg (CZ x) ⟨x.cps.toList.map fun c=>.str ⟨#[c]⟩,[]⟩ P φ H where
 go:=fun k a o b i y f s g e=>by
  rw[zR]at e;obtain⟨c,h,n⟩:=zE.mp e;rw[q?]at h;subst n;refine⟨⟨c,h⟩,fun w q d=>?_⟩;obtain⟨m,p,j,l⟩:=d;subst m;rw[h]at j;cases j;exact⟨k,Frm.refl,s,by simp only[RA];exact l⟩
 stop:=fun k a o b f s g=>by
  show x.cps[_]?=Á;simp
theorem lA{st:aa}{v:AV}{a:Iv}(h:iX st v=À a):cm a.gd st=Â:=by
 unfold iX at h;split at h
 ·cases h;rfl
 ·split at h
  ·rename_i k _ c b
   cases h;simp only[cm];rw[b];simp only[wE,jx,Đ]
  ·cases h
 ·cases h
theorem LH[Od](G:QE X e f):QI X tg e (iE f):=iR (Gf G) fun N H R ⟨P,M,S,Q,z,s,E,y,t,k⟩=>i7 z s (by
 unfold iE at t;obtain⟨p,L,K⟩:=zA t;obtain⟨D,b,J⟩:=zE.mp K;cases J;refine⟨p.1,p.2,L,fun l c d w r i r1=>?_⟩;unfold oA at b;have q:∀v:AV,p.1=v->(match ji p.2 v with|some g=>À ⟨g,[]⟩|none=>iX p.2 v)=À E->((∃a,w=.ref a/\(∃g,bR X.K d a g)/\R (C1 X.K a) d)\/(∃a,w=.ref a/\(∃g,iq X.K d a g)/\R (CY X.K a) d)\/∃m:Ì,w=.str m/\m.cps.all (·<128)=Â/\R (CZ m) d):=by
  intro v ev b;rw[ev]at r1;split at b
  ·rename_i g j
   cases b;have r2:=r1.dr i;unfold ji at j;split at j
   ·rename_i O I
    cases j;rw[I]at r2;simp only[RA]at r2;obtain⟨a,n,rfl,C,u,B⟩:=r2;exact .inr (.inl ⟨a,rfl,⟨n,.inl (.inl u)⟩,k l c d _ r i (Et C u B)⟩)
   ·cases j
  ·obtain⟨a,rfl,h⟩:=lB i r1 b
   obtain⟨n,A,_⟩:=h l c d p.2 Frm.refl i (lA b);exact .inl ⟨a,rfl,⟨n,A⟩,k l c d _ r i (Br h)⟩
 cases o:p.1 with
 |str x =>
  rw[o]at b r1;simp only at b;split at b
  ·rename_i F
   cases b;simp only[RA]at r1;exact .inr (.inr ⟨x,r1,F,k l c d _ r i Eu⟩)
  ·cases b
 |_=>rw[o]at b;exact q _ o b)
noncomputable def fU(i:Int):Bool:=Þ i.natAbs.log2 60
noncomputable def cZ(i:Int)(n:Nat):List AV:=(Æ n).map fun k=>.int (i+(k:Nat))
def yn(f:EF):IF:=fun b a=>(f b a).bind fun p=>match p.1 with
 |.int j=>if fU j=Â then À (⟨cZ 0 j.toNat,[]⟩,p.2) else Á
 |_=>Á
def ym(f g:EF):IF:=fun a b=>(f a b).bind fun p=>(g a p.2).bind fun q=>match p.1,q.1 with
 |.int i,.int j=>if(fU i&&fU j)=Â then À (⟨cZ i (j-i).toNat,[]⟩,q.2) else Á
 |_,_=>Á
theorem gU{i:Int}(h:fU i=Â):-(2^62)<=i/\i<2^62:=by
 have:=log2_lt h
 have e:(2:Nat)^(60+1)=2305843009213693952:=by decide
 rw[e]at this;lia
theorem uJ[Od]{i:Int}{n:Nat}:vq mg (zz i n) ⟨cZ i n,[]⟩ P φ H where
 go:=fun l a r b k y f s g e=>by
  unfold cZ at e;rw[zR]at e;obtain⟨c,q,p⟩:=zE.mp e;obtain⟨j,h⟩:=zB.mp q;rw[List.getElem_range]at h;subst h p;rw[Ü]at j;refine⟨j,fun w t d=>?_⟩;obtain⟨o,m⟩:=d;subst o;exact⟨l,Frm.refl,s,by simp only[RA];exact m⟩
 stop:=fun l a r b f s g=>by
  show n<=(cZ i n).length;simp[cZ]
theorem xm[Od]{mg:Gm}{f:EF}{σ:St}{H:Hp}{Q:List V->Hp->Prop}{P:Pr}{φ:List Ç}{sl:Sl}{st:aa}(b:Ol mg P H φ sl σ)(s:Sim mg P φ st H)
  (h:∃v st1,f sl st=À (v,st1)/\∀P1 φ1 H1 w,Frm P φ H P1 φ1 H1->Sim mg P1 φ1 st1 H1->RA mg P1 H1 φ1 v w->Q [w] H1):rA mg (fR f fG) σ H Q:=by
 obtain⟨v,st1,e,k⟩:=h;refine i7 b s ⟨[v],st1,by simp only[fR,fG,e,Ã],fun P1 φ1 H1 d c a r1=>?_⟩;simp only[Og]at r1;obtain⟨w,g,rfl,r,rfl⟩:=r1;exact k P1 φ1 H1 w c a r
theorem FC[Od]{mg:Gm}{f g:EF}{σ:St}{H:Hp}{Q:List V->Hp->Prop}{P:Pr}{φ:List Ç}{sl:Sl}{st:aa}(c:Ol mg P H φ sl σ)(s:Sim mg P φ st H)
  (h:∃v st1 u st2,f sl st=À (v,st1)/\g sl st1=À (u,st2)/\∀P1 φ1 H1 w w',Frm P φ H P1 φ1 H1->Sim mg P1 φ1 st2 H1->RA mg P1 H1 φ1 v w->RA mg P1 H1 φ1 u w'->Q [w,w'] H1):rA mg (fR f (fR g fG)) σ H Q:=by
 obtain⟨v,st1,u,st2,e,j,k⟩:=h;refine i7 c s ⟨[v,u],st2,by simp only[fR,fG,e,j,Ã],fun P1 φ1 H1 l i b r1=>?_⟩;simp only[Og]at r1;obtain⟨w,m,rfl,r,w',a,rfl,d,rfl⟩:=r1;exact k P1 φ1 H1 w w' i b r d
theorem IK[Od](o:Gl X "range")(n:X.mg "range"=Á)(r:QE X a f)(e:Ê [a] X.env=[(Ä,eval a X.env)]):QI X tg (.Call (.Name "range" p) [a] [] pos) (yn f) :=
 iR (xE o n (c7 r fJ (by rw[e];rfl)) e) fun B H R d=>by
  refine e7 d fun P A D C l s m=>?_
  obtain⟨E,h,v,k⟩:=m;obtain⟨q,x,b⟩:=zA v;refine xm l s ⟨q.1,q.2,x,fun y c z w t i r1=>?_⟩;split at b
  ·rename_i j u
   rw[u]at r1;split at b
   ·rename_i g
    cases b;simp only[RA]at r1;subst r1;exact⟨j,rfl,(gU g).1,(gU g).2,k y c z _ t i uJ⟩
   ·cases b
  ·cases b
theorem IJ[Od](z:Gl X "range")(y:X.mg "range"=Á)(A:QE X a f)(l:QE X b g)(m:Ê [a,b] X.env=[(Ä,eval a X.env),(Ä,eval b X.env)])(c:Ê [b] X.env=[(Ä,eval b X.env)]) :
  QI X tg (.Call (.Name "range" p) [a,b] [] pos) (ym f g) :=
 iR (xD z y (c7 A (c7 l fJ (by rw[c];rfl)) (by rw[m,c])) m c) fun M H R h=>by
  refine e7 h fun P L Q O v s x=>?_
  obtain⟨S,t,E,k⟩:=x;obtain⟨q,I,G⟩:=zA E;obtain⟨r,F,d⟩:=zA G;refine FC v s ⟨q.1,q.2,r.1,r.2,I,F,fun J e K w N B u r1 r2=>?_⟩;split at d
  ·rename_i i j D C
   rw[D]at r1;rw[C]at r2;split at d
   ·rename_i l
    cases d;obtain⟨o,n⟩:=Ŋ.mp l;simp only[RA]at r1 r2;subst r1;subst r2;exact⟨i,j,rfl,⟨(gU o).1,(gU o).2,(gU n).1,(gU n).2⟩,k J e K _ B u uJ⟩
   ·cases d
  ·cases d
def iZ(f g:EF):IF:=fun a b=>(f a b).bind fun p=>(g a p.2).bind fun q=>(iX q.2 p.1).bind fun x=>(iX q.2 q.1).bind fun y=>À (⟨(x.Oe.zip y.Oe).map fun z=>.tup [z.1,z.2],x.gd++y.gd⟩,q.2)
theorem uz[Od]{mg:Gm}{P:Pr}{φ:List Ç}{st:aa}{H:Hp}{p:Ç}{x y:AV}{u w:V}(s:Sim mg P φ st H)(d:H p=Á)(rx:RA mg P H φ x u)(c:RA mg P H φ y w) :
  ∃P3,Frm P φ H P3 φ (ah H p (.tup [u,w]))/\Sim mg P3 φ st (ah H p (.tup [u,w]))/\RA mg P3 (ah H p (.tup [u,w])) φ (.tup [x,y]) (.ref p):=by
 obtain⟨a,b⟩:=om (o:=.tup [u,w]) s d;refine⟨_,a,b,?_⟩;simp only[RA];exact⟨p,[u,w],rfl,.inr rfl,ay,aX (rx.frm a) (aX (c.frm a) bn)⟩
theorem FS[Od]{x1:Nat}(hg:Gl X "zip")(hm:X.mg "zip"=Á)(ha:QE X a f)(hb:QE X b g)(V:Ê [a,b] X.env=[(Ä,eval a X.env),(Ä,eval b X.env)])(l:Ê [b] X.env=[(Ä,eval b X.env)]) :
  QI X (.Tuple elts x1 tpos) (.Call (.Name "zip" p) [a,b] [] pos) (iZ f g) :=
 iR (Gc hg hm (c7 ha (c7 hb fJ (by rw[l];rfl)) (by rw[V,l])) V l) fun σ H R m=>by
  refine e7 m fun P φ sl st rs s q0=>?_
  obtain⟨iv,st',ef,k⟩:=q0;obtain⟨q,e1,e2⟩:=zA ef;obtain⟨r,e3,e4⟩:=zA e2;obtain⟨x,W,e6⟩:=zA e4;obtain⟨y,e7,e8⟩:=zA e6;cases e8;refine FC rs s ⟨q.1,q.2,r.1,r.2,e1,e3,fun T j U w w' f1 o r1 r2=>?_⟩;obtain⟨a1,rfl,O⟩:=lB o r1 W;obtain⟨a2,rfl,N⟩:=lB o r2 e7;obtain⟨vs,K,_⟩:=O T j U r.2 Frm.refl o (lA W);obtain⟨us,J,_⟩:=N T j U r.2 Frm.refl o (lA e7);refine⟨a1,a2,rfl,⟨vs,K⟩,⟨us,J⟩,k T j U _ f1 o ⟨fun B c C d i t A n S F=>?_,fun B c C d A n S=>?_⟩⟩
  ·obtain⟨ga,Q⟩:=u7 S
   obtain⟨e,I,M⟩:=O B c C d A n ga;obtain⟨h,G,L⟩:=N B c C d A n Q;rw[zR]at F;obtain⟨z,ez,F⟩:=zE.mp F;subst F;obtain⟨hx,hy⟩:=Ř.mp ez;obtain⟨u1,Z,b1⟩:=M.get hx;obtain⟨u2,Y,b2⟩:=L.get hy;refine⟨⟨e,h,u1,u2,I,G,Z,Y⟩,fun v H3 m=>?_⟩;obtain⟨pp,u,w,E,D,hp,hH,hv⟩:=m;have E:=E e I;have D:=D h G;rw[Z]at E;rw[Y]at D;cases E;cases D;subst hH;subst hv;exact uz n hp b1 b2
  ·obtain⟨ga,Q⟩:=u7 S
   obtain⟨e,I,M⟩:=O B c C d A n ga;obtain⟨h,G,L⟩:=N B c C d A n Q;refine⟨e,h,I,G,?_⟩;rw[<- M.length,<- L.length];simp only[zH,Ϫ];lia
noncomputable def eN(n0:Nat)(xs:List AV):List AV:=(xs.zipIdx n0).map fun z=>.tup [.int ((z.2:Nat):Int),z.1]
theorem sM[Od]{mg:Gm}{P:Pr}{φ:List Ç}{H:Hp}{K:á}{a:Ç}{b:Iv}{n0:Nat}(h:∀P2 φ2 H2 st2,Frm P φ H P2 φ2 H2->Sim mg P2 φ2 st2 H2->cm b.gd st2=Â->∃vs,bR K H2 a vs/\Og mg P2 H2 φ2 b.Oe vs):vq mg (Aa K a n0) ⟨eN n0 b.Oe,b.gd⟩ P φ H where
 go:=fun P2 φ2 H2 st2 i x f s g e=>by
  obtain⟨vs,c,d⟩:=h P2 φ2 H2 st2 f s g;unfold eN at e;rw[zR,ŉ]at e;cases hz:b.Oe[i]? with
  |none=>rw[hz]at e;cases e
  |some y =>
   rw[hz]at e;cases e;obtain⟨v,k,r1⟩:=d.get hz;refine⟨⟨vs,v,c,k⟩,fun w q j=>?_⟩;obtain⟨p,u,l,n,o,m⟩:=j
   have:=l vs c
   rw[k]at this;cases this;subst o;subst m;exact uz s n (by simp only[RA]) r1
 stop:=fun P2 φ2 H2 st2 f s g=>by
  obtain⟨vs,c,d⟩:=h P2 φ2 H2 st2 f s g;exact⟨vs,c,by rw[<- d.length];simp[eN]⟩
def KH(f:EF):IF:=fun c b=>(f c b).bind fun p=>(iX p.2 p.1).map fun a=>(⟨eN 0 a.Oe,a.gd⟩,p.2)
theorem IL[Od]{m:Nat}(x:Gl X "enumerate")(v:X.mg "enumerate"=Á)(y:QE X a f)(g:Ê [a] X.env=[(Ä,eval a X.env)]) :
  QI X (.Tuple elts m tpos) (.Call (.Name "enumerate" p) [a] [] pos) (KH f) :=
 iR (DU x v (c7 y fJ (by rw[g];rfl)) g) fun F H R e=>by
  refine e7 e fun P E I G r s t=>?_
  obtain⟨J,o,A,k⟩:=t;obtain⟨q,D,C⟩:=zA A;obtain⟨u,i,B⟩:=zE.mp C;cases B;refine xm r s ⟨q.1,q.2,D,fun j b l w z c r1=>?_⟩;obtain⟨a1,rfl,h⟩:=lB c r1 i;obtain⟨n,d,_⟩:=h j b l q.2 Frm.refl c (lA i);exact⟨a1,rfl,⟨n,d⟩,k j b l _ z c (sM h)⟩
end
end R
namespace L2
open PySem PySem.Spec PyProof.Rows
section
variable{prog:Ò}{w:Û}{A:ċ}{E:Å->É->Prop}{s:É}
theorem za(l:Ç)(items:Array Å)(n:Nat)(dct:Option Ç)(sl:Array (Option Å))(t:Tok)(i:Int)(hf:Ķ i=Â) :
  Meets (p?.«enumerate.__new__» ⟨[.type "enumerate",.ref l],[("start",.int i t)]⟩) (fun _ R s=>s.heap.get? l=À { cls:=.type "list",dict:=dct,data:=.seq items n,slots:=sl } /\
   R (.ok (.ret (.ref (s.heap.push { cls:=.type "list_iterator",data:=.fields #[.ref l,.int 0 0] }).objs.size)))
    { s with heap:=(s.heap.push { cls:=.type "list_iterator",data:=.fields #[.ref l,.int 0 0] }).push { cls:=.type "enumerate",data:=.fields #[.none,.bool Ä,.ref s.heap.objs.size,t! i,.none,.none] } }):=Meets.of_wp fun e w A R s h=>by
  obtain⟨m,g,d,j,k⟩:=s;obtain⟨a,h⟩:=h;have f:=sub_enumerate;have b:Heap.IsList (Shared.heap ⟨m,g,d,j,k⟩) l items:=⟨_,a,rfl,n,rfl⟩
  wp_walk using Į a
  refine wpAny_stack_any fun o=>yG ?_
  split
  ·rename_i c _ _ _ _ _
   cases (c==E? "enumerate")
   ·wp_walk using Į a,ĩ b
    exact⟨_,rfl,h⟩
   ·wp_walk using Į a,ĩ b
    exact⟨_,rfl,h⟩
  ·wp_walk using Į a,ĩ b
   exact⟨_,rfl,h⟩
theorem wD{l:Ç}{j:Array Å}{t:Tok}{i:Int}{Q:Å->É->Prop}(L:Ķ i=Â)(O:s.heap.IsList l j)
  (h:∀h',IsEnum h' (s.heap.objs.size+1) s.heap.objs.size i .none->h'.IsListIter s.heap.objs.size l 0->(∀b o,s.heap.get? b=À o->h'.get? b=À o)->Q (.ref (s.heap.objs.size+1)) { s with heap:=h' }) :
  Í (model prog w) A (call (.type "enumerate") [.ref l] [("start",.int i t)]) Q E s:=by
 obtain⟨⟨W,C,V,I⟩,K,q,n,hd⟩:=O;dsimp only at q hd;subst q hd;have g:=F.called_enumerate;obtain⟨c,P,G⟩:=g.mro;have y:=g.made;have D:=g.sub;have U:=g.notType;have T:=g.canCreate;have M:=rC (.ref l) (.int i t);have B:=qK (.ref l) (.int i t);refine s? (codeAny_of_tree ?_);show Í _ _ (callAny (.type "enumerate") _) _ _ _;refine yG ⟨Code.quiet_builtin _ (by decide +kernel),ž F.entry_type_call ?_⟩;rw[Around.under_plain (weight_type_call_type "enumerate" _ _) (units_type_call_type "enumerate" _ _)]
 repeat (any_goals (first | assumption | wp_step))
 have hz:(s.heap.push { cls:=.type "list_iterator",data:=.fields #[.ref l,.int 0 0] }).objs.size=s.heap.objs.size+1:=ĥ ..;have z:=zY (s.heap.push { cls:=.type "list_iterator",data:=.fields #[.ref l,.int 0 0] }) (o:={ cls:=.type "enumerate",data:=.fields #[.none,.bool Ä,.ref s.heap.objs.size,t! i,.none,.none] }) rfl;rw[hz]at z;refine ř (Q9 (R:=wants (fun f d=>d.TypeIs f "enumerate"/\Q f d) E) g.plain F.entry_enumerate_new (wpAny_of_eq B (za l j n C I t i L prog w A.in1 _ s ⟨K,?_⟩))) fun r d u=>?_
 ·show _/\_
  rw[hz];exact⟨⟨_,z,rfl⟩,h _ z ⟨_,zG _ (zY _ rfl),rfl,rfl⟩ fun b o x=>zG _ (zG _ x)⟩
 ·cases r with
  |error e=>exact u
  |ok fl =>
   cases fl with
   |ret f =>
    obtain⟨H,v⟩:=u;have J:=g.init.lookup;have N:=g.init.bind f
    repeat (any_goals (first | assumption | wp_step))
    refine ř (Q9 (R:=wants (fun r k=>r=.none/\Q f k) E) g.init.plain F.entry_object_init (g.init.check _ _ _ _ _ _ _ _ H (pW f (.ref l) (.int i t)) (wv g.init.lookup g.made dC prog w A.in1 _ d ⟨H,rfl,v⟩))) fun p k a=>?_
    cases p with
    |error e=>exact a
    |ok m =>
     cases m with
     |ret r =>
      obtain⟨rfl,S⟩:=a
      repeat (any_goals (first | assumption | wp_step))
     |_=>exact a.elim
   |_=>exact u.elim
end
end L2
namespace R
open PySem PySem.Spec PyProof.Rows L2
open DD (PE_imp PT_imp PA_imp PS_imp PSs_imp OpR_imp PW_imp PG_imp pyOk)
section
variable{X:Cx}{tg e a b:Î}{es:List Î}{pos p kp:ġ}
theorem AM[Od]{k:Nat}(B:Gl X "enumerate")(x:X.mg "enumerate"=Á)(D:PA X [a] ta)(C:PE X b tb)(e:Ê [a] X.env=[(Ä,eval a X.env)]) :
  PI X (.Tuple elts k tpos) (.Call (.Name "enumerate" p) [a] [⟨À "start",b,kp⟩] pos) (fun σ H R=>ta σ H fun vs H1=>tb σ H1 fun y H2=>∃l n0,vs=[.ref l]/\y=.int ((n0:Nat):Int)/\n0<=1000000/\(∃xs,bR X.K H2 l xs)/\R (Aa X.K l n0) H2):=by
 intro i s σ H R I h;refine ú (dQ I B x qA (tN (by rw[e];rfl) (by rfl) ?_));have g:=D pos i s σ H _ I h;rw[e]at g ⊢;refine X1 (by rfl) (Am g fun K m d=>?_);obtain⟨vs,H1,J,r1,o⟩:=d;refine X0 (aD (C i m σ H1 _ J o) fun u c ⟨y,H2,j,r2,l,n0,G,F,M,⟨xs,w⟩,q⟩=>X' ?_);subst G;subst F;obtain⟨t,rfl⟩:=r2;cases r1 with
 |cons r n =>
  cases n;cases r;obtain⟨N,L,v,_⟩:=j.list w;show Í _ _ (call (.type "enumerate") [.ref l] [("start",.int ((n0:Nat):Int) t)]) _ _ _;refine wD (s:=c) ?_ v.isList fun E f A z=>?_
  ·unfold Ķ
   simp only[zC,yC];lia
  refine ϭ (s:={ c with heap:=E }) f ?_;exact tB (t':=c.toks) (n0:=n0) j f A z q
def sP(f g:EF):IF:=fun a c=>(f a c).bind fun p=>(g a p.2).bind fun q=>match q.1 with
 |.int i=>if(decide (0<=i)&&Þ i.natAbs 1000000)=Â then(iX q.2 p.1).map fun b=>(⟨eN i.toNat b.Oe,b.gd⟩,q.2) else Á
 |_=>Á
theorem FT[Od]{A:Nat}(J:Gl X "enumerate")(I:X.mg "enumerate"=Á)(M:QE X a f)(L:QE X b g)(o:Ê [a] X.env=[(Ä,eval a X.env)]) :
  QI X (.Tuple elts A tpos) (.Call (.Name "enumerate" p) [a] [⟨À "start",b,kp⟩] pos) (sP f g) :=
 iR (AM J I (c7 M fJ (by rw[o];rfl)) L o) fun Y H R l=>by
  refine e7 l fun P W D st n s F=>?_
  obtain⟨iv,C,O,k⟩:=F;obtain⟨q,U,T⟩:=zA O;obtain⟨r,S,d⟩:=zA T;refine xm n s ⟨q.1,q.2,U,fun V e H1 w v E r1=>⟨V,e,D,q.2,n.frm v,E,r.1,r.2,S,fun y c z Z u h r2=>?_⟩⟩;split at d
  ·rename_i i N
   rw[N]at r2;simp only[RA]at r2;subst r2;split at d
   ·rename_i m
    simp only[zC,yC]at m;have K:=zS m.2;obtain⟨G,x,Q⟩:=zE.mp d;cases Q;obtain⟨a1,rfl,t⟩:=lB h (r1.frm u) x;obtain⟨B,j,_⟩:=t y c z r.2 Frm.refl h (lA x);exact⟨a1,i.toNat,rfl,by rw[Œ m.1],by lia,⟨B,j⟩,k y c z _ (v.trans u) h (sM t)⟩
   ·cases d
  ·cases d
end
mutual
noncomputable def rf:AV->Bool
 |.ref _=>Ä
 |.tup xs=>rfs xs
 |_=>Â
noncomputable def rfs:List AV->Bool
 |[]=>Â
 |x::xs=>rf x&&rfs xs
end
mutual
theorem RA.rf:∀{t:AV}{v:V},R.rf t=Â->RA mg P H φ t v->RA mg P H ψ t v
 |.non,_,_,h=>by simp only[RA]at h ⊢;exact h
 |.bl _,_,_,h=>by simp only[RA]at h ⊢;exact h
 |.int _,_,_,h=>by simp only[RA]at h ⊢;exact h
 |.str _,_,_,h=>by simp only[RA]at h ⊢;exact h
 |.fz _,_,_,h=>by simp only[RA]at h ⊢;exact h
 |.ref k,_,e,_=>by simp only[R.rf]at e;cases e
 |.tup xs,_,e,h=>by
  simp only[RA,R.rf]at h e ⊢;obtain⟨a,vs,r,p,e',q⟩:=h;exact⟨a,vs,r,p,e',Og.rf e q⟩
theorem Og.rf:∀{ts:List AV}{vs:List V},R.rfs ts=Â->Og mg P H φ ts vs->Og mg P H ψ ts vs
 |[],_,_,h=>by simp only[Og]at h ⊢;exact h
 |t::ts,_,e,h=>by
  simp only[Og,R.rfs,zC]at h e ⊢;obtain⟨v,ws,e',r,q⟩:=h;exact⟨v,ws,e',RA.rf e.1 r,Og.rf e.2 q⟩
end
abbrev NF:=Sl->aa->Option (List AV×aa)
def rN[Od](mg:Gm)(f:NF):TE:=fun k H Q=>∃P d j i,Ol mg P H d j k/\Sim mg P d i H/\∃g b,f j i=À (g,b) /\
 ∀e a c p h,Frm P d H e a c->Sim mg e a b c->c p=Á->Og mg e c a g h->Q (.ref p) (ah c p (.lst h))
def QN[Od](X:Cx)(e:Î)(f:NF):Prop:=PE X e (rN X.gm f)
def Na(f:NF):EF:=fun b a=>(f b a).bind fun p=>if rfs p.1=Â then À (.fz p.1,p.2) else Á
def M9(f:NF):EF:=fun b a=>(f b a).bind fun p=>À (.ref p.2.length,p.2++[.lst p.1])
theorem Ht[Od]{mg:Gm}{P:Pr}{φ:List Ç}{st:aa}{H:Hp}{p:Ç}{xs:List AV}{vs:List V}(s:Sim mg P φ st H)(d:H p=Á)(c:rfs xs=Â)(r:Og mg P H φ xs vs) :
  ∃P3,Frm P φ H P3 φ (ah H p (.lst vs))/\Sim mg P3 φ st (ah H p (.lst vs))/\RA mg P3 (ah H p (.lst vs)) φ (.fz xs) (.ref p):=by
 obtain⟨a,b⟩:=om (o:=.lst vs) s d;refine⟨_,a,b,?_⟩;simp only[RA];exact⟨p,vs,rfl,.inl ⟨.inr rfl,.inl ay⟩,Og.rf c (r.frm a)⟩
theorem GL[Od]{mg:Gm}{P:Pr}{φ:List Ç}{st:aa}{H:Hp}{p:Ç}{xs:List AV}{vs:List V}(s:Sim mg P φ st H)(b:H p=Á)(r:Og mg P H φ xs vs) :
  Frm P φ H P (φ++[p]) (ah H p (.lst vs))/\Sim mg P (φ++[p]) (st++[.lst xs]) (ah H p (.lst vs))/\RA mg P (ah H p (.lst vs)) (φ++[p]) (.ref st.length) (.ref p):=by
 have ne:∀a,H a≠Á->a≠p:=fun a h e=>h (by rw[e];exact b)
 obtain⟨f,d⟩:=nJ (c:=.lst xs) (o:=.lst vs) s b ⟨fun z=>s.dom p z b,vs,ay,r.mono (fun a h=>⟨h,ad (ne a (s.dom a h))⟩) fun k a e=>by rw[zN (zB.mp e).1];exact e⟩;refine⟨f,d,?_⟩;simp only[RA];exact⟨p,by rw[<- s.len];simp,rfl⟩
section
variable{X:Cx}{e a b:Î}{es:List Î}{pos:ġ}{f:NF}
noncomputable def cw(n:Nat):Bool:=Þ n 1000000
theorem jM{n:Nat}(h:cw n=Â):n<=Ë:=z5 (zS h) dC
def Kx(g:AF):NF:=fun b a=>(g b a).bind fun p=>if cw p.1.length=Â then À p else Á
theorem Dx[Od](h:QA X es g):QN X (.List es pos) (Kx g) :=
 PE_imp (xF h) fun w H Q c=>by
  refine e7 c fun P v y x j s l=>?_
  obtain⟨e,b,o,k⟩:=l;obtain⟨q,r,d⟩:=zA o;split at d
  ·rename_i hz
   cases d;exact i7 j s ⟨e,b,r,fun t a u f n i r1=>⟨by rw[<- r1.length];exact jM hz,fun p m=>k t a u p f n i m r1⟩⟩
  ·cases d
def sx(f g:EF):NF:=fun c d=>(f c d).bind fun p=>(g c p.2).bind fun q=>(bQ q.2 p.1).bind fun b=>(bQ q.2 q.1).bind fun a=>if cw (b.length+a.length)=Â then À (b++a,q.2) else Á
theorem FR[Od]{f g:EF}(E:QE X a f)(D:QE X b g):QN X (.BinOp a .Add b pos) (sx f g) :=
 PE_imp (vV Ed E D) fun V H Q h=>by
  refine e7 h fun P U z Z j s B=>?_
  obtain⟨W,v,F,k⟩:=B;obtain⟨q,M,L⟩:=zA F;obtain⟨r,K,J⟩:=zA L;obtain⟨x,I,G⟩:=zA J;obtain⟨y,e7,i⟩:=zA G;split at i
  ·rename_i hz
   cases i;refine i7 j s ⟨q.1,q.2,M,fun S d H1 w o A r1=>⟨S,d,z,q.2,j.frm o,A,r.1,r.2,K,fun R c T Y n e r2=>?_⟩⟩;obtain⟨a1,t,rfl,O,m⟩:=(r1.frm n).ls e I;obtain⟨a2,u,rfl,N,l⟩:=r2.ls e e7;exact⟨a1,a2,t,u,rfl,rfl,O,N,by rw[<- m.length,<- l.length];exact jM hz,fun p C=>k R c T p _ (o.trans n) e C (m.app l)⟩
  ·cases i
def v7(g:AF)(f:EF):NF:=fun a b=>(g a b).bind fun p=>(f a p.2).bind fun q=>match q.1 with
 |.int k=>if(fU k&&cw (p.1.length*k.toNat)&&cw p.1.length)=Â then À ((È k.toNat p.1).flatten,q.2) else Á
 |_=>Á
theorem Og.rep(h:Og mg P H φ xs vs):∀k:Nat,Og mg P H φ (È k xs).flatten (È k vs).flatten
 |0=>bn
 |k+1=>by rw[è,è,č,č];exact h.app (Og.rep h k)
theorem FN[Od]{g:AF}{f:EF}{a:ġ}(h:QA X es g)(J:QE X b f):QN X (.BinOp (.List es a) .Mult b pos) (v7 g f) :=
 PE_imp (vV Gy (xF h) J) fun U H Q n=>by
  refine e7 n fun P T B W x s F=>?_
  obtain⟨V,A,M,k⟩:=F;obtain⟨q,R,O⟩:=zA M;obtain⟨r,N,c⟩:=zA O;split at c
  ·rename_i j L
   split at c
   ·rename_i d
    cases c;simp only[zC]at d;refine i7 x s ⟨q.1,q.2,R,fun Z i H1 l y E r1=>⟨by rw[<- r1.length];exact jM d.2,fun p I=>?_⟩⟩
    obtain⟨v,D⟩:=om (o:=.lst l) E I;refine⟨_,i,B,q.2,(x.frm y).frm v,D,r.1,r.2,N,fun S e z w u C m=>?_⟩;rw[L]at m;simp only[RA]at m;subst m;have K:z p=À (.lst l):=by rw[(u.ext p (.inr rfl)).2,ay]
    have Y:=gU d.1.1;refine⟨p,j,l,rfl,rfl,K,by lia,by lia,by rw[<- r1.length];exact jM d.1.2,fun G t=>?_⟩;exact k S e z G _ ((y.trans v).trans u) C t (Og.rep ((r1.frm v).frm u) _)
   ·cases c
  ·cases c
abbrev OF:=Sl->aa->Option (Option Int×aa)
def rO[Od](mg:Gm)(f:OF):TO:=fun d H Q=>∃P a c b,Ol mg P H a c d/\Sim mg P a b H/\KG mg RB P a H (f c b) Q
def QO[Od](X:Cx)(e:Option Î)(f:OF):Prop:=PO X e (rO X.gm f)
def Ck:OF:=fun _ a=>À (Á,a)
def mG(f:EF):OF:=fun b a=>(f b a).bind fun p=>match p.1 with
 |.int i=>À (À i,p.2)
 |_=>Á
theorem vn(h:PO X eo t)(i:∀σ H Q,t' σ H Q->t σ H Q):PO X eo t':=fun b s σ H Q I a=>h b s σ H Q I (i σ H Q a)
theorem Dw[Od]:QO X Á Ck:=vn DR fun c H Q a=>e7 a fun P b e d f s k=>k.pure s rfl
theorem Dv[Od]{f:EF}(h:QE X e f):QO X (À e) (mG f):=vn (DQ h) fun y H Q g=>e7 g fun P w A z p s k=>i7 p s (by
 obtain⟨a,d,t,q⟩:=k.bind (Ra:=RA);refine⟨a,d,t,fun u b v c r o r1=>?_⟩;obtain⟨C,l,m,x,B,n,r2,j⟩:=q u b v c r o r1;cases x<;>first|exact j.no.elim|skip
 rename_i i;simp only[RA]at r2;exact⟨i,r2,j.pure n rfl⟩)
def cut{α:Type}(xs:List α)(a b:Option Int):List α:=(xs.drop (HT.Oo xs.length 0 a)).take (HT.Oo xs.length xs.length b-HT.Oo xs.length 0 a)
theorem Og.cut(h:Og mg P H φ xs vs)(a b:Option Int):Og mg P H φ (R.cut xs a b) (p4 vs a b):=by
 unfold R.cut p4;rw[h.length];exact(h.drop _).take _
theorem Lx[Od]{mg:Gm}{f:EF}{l h:OF}{σ:St}{H:Hp}{P:Pr}{φ:List Ç}{sl:Sl}{st:aa}(d:Ol mg P H φ sl σ)(s:Sim mg P φ st H){r:V->Option Int->Option Int->Hp->VK->Prop}{Q:VK}
  (k:∃v st1 lo st2 hi st3,f sl st=À (v,st1)/\l sl st1=À (lo,st2)/\h sl st2=À (hi,st3)/\∀P' φ' H' w,Frm P φ H P' φ' H'->Sim mg P' φ' st3 H'->RA mg P' H' φ' v w->r w lo hi H' Q):Ki r (rE mg f) (rO mg l) (rO mg h) σ H Q:=by
 obtain⟨v,st1,lo,st2,hi,st3,x,u,t,k⟩:=k;refine i7 d s ⟨v,st1,x,fun A c D w g n r1=>⟨A,c,sl,st1,d.frm g,n,lo,st2,u,fun z b C p e m r2=>⟨z,b,sl,st2,(d.frm g).frm e,m,hi,st3,t,fun y a B q i j o=>?_⟩⟩⟩;cases r2;cases o;exact k y a B w ((g.trans e).trans i) j ((r1.frm e).frm i)
def mJ(f:EF)(l h:OF):NF:=fun a c=>(f a c).bind fun p=>(l a p.2).bind fun q=>(h a q.2).bind fun r=>(bQ r.2 p.1).map fun b=>(cut b q.1 r.1,r.2)
theorem II[Od]{f:EF}{l h:OF}{e g:Option Î}{u:ġ}(z:QE X a f)(x:QO X e l)(y:QO X g h):QN X (.Subscript a (.Slice e g Á u) pos) (mJ f l h) :=
 PE_imp (AR Dj z x y) fun O H Q c=>by
  refine e7 c fun P N U T m s o=>?_
  obtain⟨S,j,B,k⟩:=o;obtain⟨q,J,I⟩:=zA B;obtain⟨r,G,F⟩:=zA I;obtain⟨t,E,D⟩:=zA F;obtain⟨R,e7,C⟩:=zE.mp D;cases C;refine Lx m s ⟨q.1,q.2,r.1,r.2,t.1,t.2,J,G,E,fun L b M w A d r1=>?_⟩;obtain⟨a1,i,rfl,K,n⟩:=r1.ls d e7;exact⟨a1,i,rfl,K,fun p v=>k L b M p _ A d v (n.cut _ _)⟩
def pQ(f:EF):NF:=fun c b=>(f c b).bind fun p=>match bQ p.2 p.1 with
 |some a=>À (a,p.2)
 |none=>(ji p.2 p.1).map fun a=>(a,p.2)
theorem FQ[Od]{f:EF}{p pos:ġ}(z:Gl X "list")(y:X.mg "list"=Á)(A:QE X a f)(m:Ê [a] X.env=[(Ä,eval a X.env)]):QN X (.Call (.Name "list" p) [a] [] pos) (pQ f) :=
 PE_imp (qg tL z y kF (c7 A fJ (by rw[m];rfl)) (he:=by rw[m];rfl) (hpl:=rfl)) fun F H Q g=>by
  refine e7 g fun P E J I v s x=>?_
  obtain⟨G,u,B,k⟩:=x;obtain⟨q,D,j⟩:=zA B;refine xm v s ⟨q.1,q.2,D,fun o b r w n d r1=>?_⟩;split at j
  ·rename_i t i
   cases j;obtain⟨a1,c,rfl,l,e⟩:=r1.ls d i;exact⟨a1,c,rfl,.inl l,fun p h=>k o b r p c n d h e⟩
  ·obtain⟨t,i,C⟩:=zE.mp j
   cases C;obtain⟨a1,c,rfl,l,e⟩:=r1.tp d i;exact⟨a1,c,rfl,.inr (.inl (.inl l)),fun p h=>k o b r p c n d h e⟩
end
abbrev GF:=AV->Sl->aa->Option (Sl×aa)
abbrev t0:=List AV->Sl->aa->Option (Sl×aa)
def KS[Od](mg:Gm)(P:Pr)(φ:List Ç)(H:Hp)(r:Option (Sl×aa))(Q:St->Hp->Prop):Prop :=
 ∃d c,r=À (d,c)/\∀f a e b,Frm P φ H f a e->Sim mg f a c e->Ol mg f e a d b->Q b e
def rG[Od](mg:Gm)(f:GF):TG:=fun v d H Q=>∃P a c b x,Ol mg P H a c d/\Sim mg P a b H/\RA mg P H a x v/\KS mg P a H (f x c b) Q
def MJ[Od](mg:Gm)(f:t0):tW:=fun g e H Q=>∃P a d c b,Ol mg P H a d e/\Sim mg P a c H/\Og mg P H a b g/\KS mg P a H (f b d c) Q
def QG[Od](X:Cx)(a:Î)(f:GF):Prop:=PG X a (rG X.gm f)
def zv[Od](X:Cx)(a:List Î)(f:t0):Prop:=qH X a (MJ X.gm f)
def yt(i:Nat):GF:=fun x b a=>À (b.set i (À x),a)
def Hm:t0:=fun a c b=>match a with
 |[]=>À (c,b)
 |_=>Á
def Hr(f:GF)(g:t0):t0:=fun a c b=>match a with
 |x::a=>(f x c b).bind fun p=>g a p.1 p.2
 |[]=>Á
def yr(n:Nat)(g:t0):GF:=fun x c b=>match ji b x with
 |some a=>if a.length=n then g a c b else Á
 |none=>match bQ b x with
  |some a=>if a.length=n then g a c b else Á
  |none=>Á
theorem tX(h:qH X tgs t)(i:∀v σ H Q,t' v σ H Q->t v σ H Q):qH X tgs t':=fun c s σ H v u Q I a b=>h c s σ H v u Q I a (i v σ H Q b)
section
variable{X:Cx}{e a b:Î}{es:List Î}{pos:ġ}
theorem KS.pure[Od]{mg:Gm}{P:Pr}{φ:List Ç}{H:Hp}{sl:Sl}{st:aa}{σ:St}{Q:St->Hp->Prop}(h:KS mg P φ H (À (sl,st)) Q)(s:Sim mg P φ st H)(r:Ol mg P H φ sl σ):Q σ H:=by
 obtain⟨_,_,e,q⟩:=h;cases e;exact q P φ H σ Frm.refl s r
theorem DB[Od]{i:Nat}(e:X.N.Nodup)(c:X.N[i]?=À x)(b:Loc X.env.scope x)(d:X.fn x=Â\/X.env.scope.names.lookup x=À .local):QG X (.Name x pos) (yt i) :=
 PG_imp (DY e c b d) fun v g H Q ⟨P,f,j,h,x,a,s,rx,k⟩=>k.pure s (a.set rx i)
theorem DA[Od]:zv X [] Hm:=tX DW fun v f H Q a=>by
 obtain⟨P,d,h,g,b,c,s,rx,k⟩:=a;cases b with
 |nil=>simp only[Og]at rx;exact⟨rx,k.pure s c⟩
 |cons _ _=>obtain⟨_,_,e,_⟩:=k;cases e
theorem AC[Od](E:QG X e f)(D:zv X es g)(C:(à (e::es) X.env).map (·.2)=assign e X.env::(à es X.env).map (·.2)):zv X (e::es) (Hr f g) :=
 tX (AN E D C) fun v M H Q m=>by
  obtain⟨P,o,y,u,d,B,s,rx,k⟩:=m;cases d with
  |nil=>obtain⟨_,_,e,_⟩:=k;cases e
  |cons x d =>
   simp only[Og]at rx;obtain⟨w,t,rfl,r1,r2⟩:=rx;obtain⟨i,h,e,q⟩:=k;obtain⟨p,I,G⟩:=zA e;exact⟨w,t,rfl,P,o,y,u,x,B,s,r1,p.1,p.2,I,fun K b N r n A l=>⟨K,b,p.1,p.2,d,l,A,r2.frm n,i,h,G,fun J a L c F z j=>q J a L c (n.trans F) z j⟩⟩
theorem IX(h:PG X tg t)(h':PG X tg t'):PG X tg (fun v σ H Q=>t v σ H Q\/t' v σ H Q):=fun a s σ H v u Q I r q=>by
 rcases q with q|q
 ·exact h a s σ H v u Q I r q
 ·exact h' a s σ H v u Q I r q
theorem FU[Od]{k n:Nat}(w:X.calm=Â)(h:zv X es g)(u:(à es X.env).length=n)(d:(à es X.env).findIdx? (·.1)=Á):QG X (.Tuple es k pos) (yr n g) :=
 PG_imp (IX (Gg (k:=k) w h u d) (DX (k:=k) w h u d)) fun v z H Q j=>by
  obtain⟨P,o,r,p,x,t,s,rx,y⟩:=j;obtain⟨b,a,e,q⟩:=y;unfold yr at e;split at e
  ·rename_i f ex
   split at e
   ·rename_i l
    obtain⟨a1,i,rfl,m,c⟩:=rx.tp s ex;exact .inl ⟨a1,i,rfl,.inl (.inl m),by rw[<- c.length];exact l,P,o,r,p,f,t,s,c,b,a,e,q⟩
   ·cases e
  ·split at e
   ·rename_i f ex
    split at e
    ·rename_i l
     obtain⟨a1,i,rfl,m,c⟩:=rx.ls s ex;exact .inr ⟨a1,i,rfl,m,by rw[<- c.length];exact l,P,o,r,p,f,t,s,c,b,a,e,q⟩
    ·cases e
   ·cases e
noncomputable def nG{b:Type}[DecidableEq b](Oc:List (b×AV))(k:b)(v:AV):List (b×AV) :=
 if(Oc.any fun a=>decide (a.1=k))=Â then Oc.map fun a=>if a.1=k then(a.1,v) else a else Oc++[(k,v)]
theorem rZ{P:Pr}{H:Hp}{φ:List Ç}{d:Type}[DecidableEq d]{Oc:List (d×AV)}{ws:List (d×V)}{k:d}{v:AV}{w:V}(h:KVR mg P H φ Oc ws)(r:RA mg P H φ v w):KVR mg P H φ (nG Oc k v) (fC ws k w):=by
 have b:(Oc.any fun f=>decide (f.1=k))=(ws.any fun f=>decide (f.1=k)):=by
  have g:∀{j:Type} (l:List (d×j)),(l.any fun f=>decide (f.1=k))=((l.map (·.1)).any fun x=>decide (x=k)):=fun l=>by rw[o?];rfl
  rw[g Oc,g ws,h.1]
 unfold nG fC;rw[b];split
 ·clear b
  rename_i m;clear m
  induction Oc generalizing ws with
  |nil =>
   have:ws=[]:=by simpa using h.1.symm
   subst this;exact⟨rfl,bn⟩
  |cons p Oc c =>
   cases ws with
   |nil=>exact absurd h.1 (by simp)
   |cons q ws =>
    obtain⟨g,i⟩:=h;rw[zO,zO]at g i;injection g with h3 h4;simp only[Og]at i;obtain⟨u,t,s,o,n⟩:=i;injection s with h8 h9;subst h8;subst h9;have c:=c (ws:=ws) ⟨h4,n⟩;have a:p.1=q.1:=h3;by_cases e:q.1=k
    ·rw[zO,zO,yI e,yI (a.trans e)]
     exact⟨by rw[zO,zO,c.1,a],aX r c.2⟩
    ·rw[zO,zO,yH e,yH (fun z=>e (a.symm.trans z))]
     exact⟨by rw[zO,zO,c.1,a],aX o c.2⟩
 ·refine⟨by rw[ĉ,ĉ,h.1];rfl,?_⟩
  rw[ĉ,ĉ];exact h.2.app (aX r bn)
def ka(st:aa)(o i v:AV):Option aa:=match o with
 |.ref k=>match st[k]? with
  |some (.lst b)=>match i with
   |.int j=>(mN b.length j).map fun n=>st.set k (.lst (b.set n v))
   |_=>Á
  |some (.dK a)=>(ku i).bind fun x=>if cw a.length=Â then À (st.set k (.dK (nG a x v))) else Á
  |some (.dT a)=>match i with
   |.tup is=>(aR ku is).bind fun x=>if cw a.length=Â then À (st.set k (.dT (nG a x v))) else Á
   |_=>Á
  |_=>Á
 |_=>Á
theorem B9[Od](hu:X.A.units+64<ŋ):wK X (fun o i v H Q=>∃P φ st x y z st',Sim X.gm P φ st H/\RA X.gm P H φ x o/\RA X.gm P H φ y i/\RA X.gm P H φ z v/\ka st x y z=À st'/\∀P' φ' H',Frm P φ H P' φ' H'->Sim X.gm P' φ' st' H'->Q H'):=by
 rintro Oa s R H o i v V W u Q I G J F ⟨P,φ,st,x,y,z,st',q,rx,w,E,e,k⟩;unfold ka at e;cases x with
 |ref j =>
  simp only[RA]at rx;obtain⟨a,r,rfl⟩:=rx;dsimp only at e;split at e
  ·rename_i S A
   obtain⟨O,d,c⟩:=q.at A;rw[r]at d;cases d;obtain⟨f,M,p,l⟩:=c;cases y with
   |int n =>
    simp only[RA]at w;subst w;obtain⟨m,C,g⟩:=zE.mp e;subst g;have hp:P a->False:=f;obtain⟨B,t⟩:=iP (c:=.lst (S.set m z)) (o:=.lst (M.set m v)) q r f ⟨f,_,ay,(l.set E m).mono (fun b h=>⟨h,ad fun e=>f (e▸h)⟩) fun _ _ z=>z⟩ (fun _ _ z=>by rw[p]at z;cases z);exact Av Oa s R H _ _ v V W u Q I G J F ⟨a,M,n,m,rfl,rfl,p,by rw[<- l.length];exact C,k P φ _ B t⟩
   |_=>cases e
  ·rename_i K A
   obtain⟨O,d,c⟩:=q.at A;rw[r]at d;cases d;obtain⟨f,D,p,l⟩:=c;obtain⟨x,C,g⟩:=zA e;split at g
   ·rename_i hz
    cases g
    have:=nM C w
    subst this;cases G;obtain⟨B,t⟩:=iP (c:=.dK (nG K x z)) (o:=.dK (fC D x v)) q r f ⟨f,_,ay,(rZ l E).mono (fun b h=>⟨h,ad fun e=>f (e▸h)⟩) fun _ _ z=>z⟩ (fun _ _ z=>by rw[p]at z;cases z);refine qz oM I (DPut.k p ?_) J F fun T L=>⟨_,L,k P φ _ B t⟩
    have:=congrArg ň l.1
    rw[zH,zH]at this;rw[<- this];have Z:=zS hz;have Y:(1000000:Nat)<Ë:=by decide
    lia
   ·cases g
  ·rename_i K A
   obtain⟨O,d,c⟩:=q.at A;rw[r]at d;cases d;obtain⟨f,D,p,l⟩:=c;cases y with
   |tup is =>
    dsimp only at e;obtain⟨x,C,g⟩:=zA e;split at g
    ·rename_i hz
     cases g;simp only[RA]at w;obtain⟨b,us,rfl,_,N,U⟩:=w;rw[qk C U]at N;cases G;obtain⟨B,t⟩:=iP (c:=.dT (nG K x z)) (o:=.dT (fC D x v)) q r f ⟨f,_,ay,(rZ l E).mono (fun b h=>⟨h,ad fun e=>f (e▸h)⟩) fun _ _ z=>z⟩ (fun _ _ z=>by rw[p]at z;cases z);refine qz oM I (DPut.t p N ?_) J F fun T L=>⟨_,L,k P φ _ B t⟩
     have:=congrArg ň l.1
     rw[zH,zH]at this;rw[<- this];have Z:=zS hz;have Y:(1000000:Nat)<Ë:=by decide
     lia
    ·cases g
   |_=>cases e
  ·cases e
 |_=>cases e
def KI(f g:EF):GF:=fun x b c=>(f b c).bind fun p=>(g b p.2).bind fun q=>(ka q.2 p.1 q.1 x).map fun a=>(b,a)
theorem FV[Od](C:X.A.units+64<ŋ)(D:QE X o f)(E:QE X i g)
  (F:∀v,assign (.Subscript o i pos) X.env v=(do
   let ov <- holding [v] (eval o X.env)
   let iv <- holding [v,ov] (eval i X.env)
   ő pos
   holding [v,ov,iv] (ϔ ov iv v)
   release [v,ov,iv] [])):QG X (.Subscript o i pos) (KI f g) :=
 PG_imp (Gh D E (B9 C) F) fun v p H Q m=>by
  obtain⟨P,T,u,V,x,l,s,rx,t,j,e,k⟩:=m;obtain⟨q,M,L⟩:=zA e;obtain⟨r,K,J⟩:=zA L;obtain⟨z,I,G⟩:=zE.mp J;cases G;exact i7 l s ⟨q.1,q.2,M,fun R h Y w b B r1=>⟨R,h,u,q.2,l.frm b,B,r.1,r.2,K,fun O d W U a A r2=>⟨O,d,r.2,q.1,r.1,x,j,A,r1.frm a,r2,(rx.frm b).frm a,I,fun N c S n y=>k N c S p ((b.trans a).trans n) y (((l.frm b).frm a).frm n)⟩⟩⟩
end
def hid(H:Hp)(p:Ç):Hp:=fun b=>if b=p then Á else H b
theorem bD(h:b≠p):hid H p b=H b:=yH h
theorem dD:hid H p p=Á:=yI rfl
theorem C5(h:H p=À o):ah (hid H p) p o=H:=by
 funext b;by_cases e:b=p
 ·subst e;rw[ay,h]
 ·rw[ad e,bD e]
theorem u0:hid (ah H p o) p=hid H p:=by
 funext b;by_cases e:b=p
 ·subst e;rw[dD,dD]
 ·rw[bD e,bD e,ad e]
theorem Bt(h:H p=Á):hid H p=H:=by
 funext b;by_cases e:b=p
 ·subst e;rw[dD,h]
 ·rw[bD e]
section
variable{mg:Gm}{P P':Pr}{φ φ':List Ç}{st st':aa}{H H':Hp}{p:Ç}
theorem _root_.L2.gx.sh{P:Ç}{pos:ġ}{q:Ì}(h:gx (hid H p) P pos q):gx H P pos q:=by
 obtain⟨b,e,t,c⟩:=h;have ne:∀{a o},hid H p a=À o->H a=À o:=fun {a o} e=>by
  by_cases z:a=p
  ·rw[z,dD]at e;cases e
  ·rw[bD z]at e;exact e
 refine⟨b,ne e,t,?_⟩;rcases c with c|⟨g,f,d⟩
 ·exact .inl c
 ·exact .inr ⟨g,f,ne d⟩
theorem _root_.L2.gx.hd{P:Ç}{pos:ġ}{q:Ì}(h:gx H P pos q)(f:∃vs,H p=À (.lst vs)):gx (hid H p) P pos q:=by
 obtain⟨d,e,t,c⟩:=h;obtain⟨vs,a⟩:=f;refine⟨d,by rw[bD (v6 e a fun z=>nomatch z)];exact e,t,?_⟩;rcases c with c|⟨i,g,b⟩
 ·exact .inl c
 ·exact .inr ⟨i,g,by rw[bD (v6 b a fun z=>nomatch z)];exact b⟩
theorem Sim.sh[Od](s:Sim mg P φ st (hid H p))(o:HO)(f:H p=À o):Sim mg P φ st H/\∀a,P a->P a/\H a=hid H p a:=by
 have c:∀a,P a->a≠p:=fun a h e=>s.dom a h (by rw[e];exact dD)
 have d:∀a∈φ,a≠p:=fun a h e=>s.cd a h (by rw[e];exact dD)
 have ex:∀a,P a->P a/\H a=hid H p a:=fun a h=>⟨h,(bD (c a h)).symm⟩
 exact⟨s.stay ex (fun a h=>(bD (d a h)).symm) (fun _ _ h=>h) (fun a h=>by rw[(ex a h).2];exact s.dom a h) fun t b=>⟨(s.tb t b).1.sh,(s.tb t b).2⟩,ex⟩
theorem Frm.hd[Od](l:Sim mg P φ st (hid H p))(k:∃vs,H p=À (.lst vs))(f:Frm P φ H P' φ' H')(s:Sim mg P' φ' st' H'):Frm P φ (hid H p) P' φ' (hid H' p)/\Sim mg P' φ' st' (hid H' p)/\(∀a,P' a->P' a/\hid H' p a=H' a)/\H' p=H p:=by
 have g:∀a,P a->a≠p:=fun a h e=>l.dom a h (by rw[e];exact dD)
 have i:∀a∈φ,a≠p:=fun a h e=>l.cd a h (by rw[e];exact dD)
 have j:H p≠Á:=fun z=>by obtain⟨vs,e⟩:=k;rw[z]at e;cases e
 have q:H' p=H p:=f.keep p j (fun h=>i p h rfl) fun v z=>by obtain⟨vs,e⟩:=k;rw[z]at e;cases e
 obtain⟨m,em,nm⟩:=f.new;have c:∀a,P' a->a≠p:=fun a h e=>by
  rcases f.pn a h with z|z|z
  ·exact g a z e
  ·exact j (by rw[<- e];exact z)
  ·exact i a z e
 have d:∀a∈φ',a≠p:=fun a h e=>by
  rw[em]at h;rcases zZ.mp h with z|z
  ·exact i a z e
  ·exact j (by rw[<- e];exact nm a z)
 have b:∀a,hid H p a≠Á->a≠p:=fun a h e=>h (by rw[e];exact dD)
 have ex:∀a,P' a->P' a/\hid H' p a=H' a:=fun a h=>⟨h,bD (c a h)⟩
 refine⟨⟨fun a h=>⟨(f.ext a h).1,by rw[bD (g a h),bD (g a h)];exact(f.ext a h).2⟩,⟨m,em,fun a h=>?_⟩,fun a h n z=>?_,fun a h=>?_,fun a h=>?_,fun a o u h=>?_⟩,s.stay ex (fun a h=>bD (d a h)) (fun _ _ h=>h) (fun a h=>by rw[(ex a h).2];exact s.dom a h) (fun t r=>⟨(s.tb t r).1.hd (by rw[q];exact k),(s.tb t r).2⟩),ex,q⟩
 ·rw[bD (d a (by rw[em];exact zK _ h))];exact nm a h
 ·rw[bD (b a h),bD (b a h)]
  rw[bD (b a h)]at z;rw[bD (b a h)]at h;exact f.keep a h n z
 ·rcases f.pn a h with z|z|z
  ·exact .inl z
  ·exact .inr (.inl (by rw[bD (c a h)];exact z))
  ·exact .inr (.inr z)
 ·rw[bD (b a h)]
  rw[bD (b a h)]at h;exact f.sm a h
 ·have ne:=b a (by rw[h];exact fun z=>nomatch z)
  rw[bD ne]at h ⊢;exact f.fz a o u h
end
def ii(gd:Gd)(g:GF)(t:TF)(f:EF)(sl:Sl):List AV->aa->Option (List AV×aa)
 |[],st=>if cm gd st=Â then À ([],st) else Á
 |x::xs,st=>if cm gd st=Â then(g x sl st).bind fun p=>(t p.1 p.2).bind fun q=>if q.1=Â then(f p.1 q.2).bind fun r=>(ii gd g t f sl xs r.2).map fun z=>(r.1::z.1,z.2) else ii gd g t f sl xs q.2 else Á
def Cn(k:Nat)(it:IF)(g:GF)(t:TF)(f:EF):NF:=fun a b=>(it a b).bind fun p=>if cw p.1.Oe.length=Â then ii p.1.gd g t f (a++È k Á) p.1.Oe p.2 else Á
def Kh:TF:=fun _ a=>À (Â,a)
theorem Ol.ext0(h:Ol mg P H φ sl σ)(k:Nat):Ol mg P H φ (sl++È k Á) (σ++È k Á):=by
 refine⟨by rw[zV,zV,h.1,ŀ,ŀ],fun i v e=>?_⟩;have a:i<sl.length:=by
  rcases yU i sl.length with z|z
  ·exact z
  ·rw[z6 z,ÿ]at e
   split at e<;>cases e
 rw[zN a]at e;rw[zN (by rw[<- h.1];exact a)];exact h.2 i v e
def pv(n:Nat)(g:GF):Prop:=∀x c d a b,g x c d=À (a,b)->a.length=c.length/\∀j,j<n->a[j]?=c[j]?
theorem Ol.back{k:Nat}(h:Ol mg P H φ sl' σ)(a:sl'.length=(sl++È k Á).length)(b:∀j,j<sl.length->sl'[j]?=(sl++È k Á)[j]?):Ol mg P H φ (sl++È k Á) σ:=by
 refine⟨by rw[<- a];exact h.1,fun i v e=>?_⟩;have c:i<sl.length:=by
  rcases yU i sl.length with z|z
  ·exact z
  ·rw[z6 z,ÿ]at e
   split at e<;>cases e
 exact h.2 i v (by rw[b i c];exact e)
inductive LcI[Od](mg:Gm)(P1:Pr)(φ1:List Ç)(H1:Hp)(p:Ç)(sk:Sl)(gd:Gd)(g:GF)(t:TF)(f:EF)(L:List AV)(stE:aa)(out:List AV)(i m:Nat)(σ':St)(H':Hp):Prop
 |mk (P' φ' st' xs vs zs) (hm:m=L.length-i) (hle:i<=L.length) (f2:Frm P1 φ1 H1 P' φ' (hid H' p)) (s2:Sim mg P' φ' st' (hid H' p)) (rs2:Ol mg P' (hid H' p) φ' sk σ') (hv:H' p=À (.lst vs)) (rx:Og mg P' (hid H' p) φ' xs vs) (hlen:xs.length<=i) (eg:ii gd g t f sk (L.drop i) st'=À (zs,stE)) (eo:out=xs++zs)
theorem G2[Od]{n k:Nat}(hk:pv n g)(hn:σ.length=n)(h:rN mg (Cn k it g t f) σ H Q):Fe k (rI mg it) (rG mg g) (rT mg t) (rE mg f) σ H Q:=by
 refine e7 h fun P φ R st rs s q0=>?_
 obtain⟨out,stE,ef,kk⟩:=q0;obtain⟨q,e1,e2⟩:=zA ef;split at e2
 ·rename_i hz
  refine i7 rs s ⟨q.1,q.2,e1,fun P1 E H1 J f1 s1 ij=>fun p X=>?_⟩;have hsl:R.length=n:=by rw[rs.1];exact hn
  refine⟨LcI mg P1 E H1 p (R++È k Á) q.1.gd g t f q.1.Oe stE out,⟨q.1.Oe.length-0,?_⟩,?_⟩
  ·have e:hid (ah H1 p (.lst [])) p=H1:=by rw[u0,Bt X]
   exact .mk P1 E q.2 [] [] out rfl (û _) (by rw[e];exact Frm.refl) (by rw[e];exact s1) (by rw[e];exact(rs.frm f1).ext0 k) ay (by rw[e];exact bn) (zP _) (by simpa using e2) rfl
  ·intro i m σ' A hh
   refine g_ fun G bk=>?_
   obtain⟨P2,b,O,xs,N,zs,hm,hle,d,s2,U,I,rx,hlen,l,eo⟩:=hh;obtain⟨S,ex2⟩:=s2.sh _ I;have T:Ol mg P2 A b (R++È k Á) σ':=⟨U.1,fun i v e=>let⟨w,e',r⟩:=U.2 i v e;⟨w,e',r.mono ex2 fun _ _ z=>z⟩⟩;have hpn:A p≠Á:=by rw[I];exact fun z=>nomatch z
   have f2v:Frm P1 E H1 P2 b A:=by
    refine⟨fun a h=>⟨(d.ext a h).1,?_⟩,d.new,fun a h n z=>?_,fun a h=>d.pn a h,fun a h=>?_,fun a o u h=>?_⟩
    ·have ne:a≠p:=fun e=>s1.dom a h (by rw[e];exact X)
     rw[<- bD (H:=A) ne];exact(d.ext a h).2
    ·have ne:a≠p:=fun e=>h (by rw[e];exact X)
     rw[<- bD (H:=A) ne];exact d.keep a h n z
    ·have ne:a≠p:=fun e=>h (by rw[e];exact X)
     rw[<- bD (H:=A) ne];exact d.sm a h
    ·have ne:a≠p:=aY h X
     rw[<- bD (H:=A) ne];exact d.fz a o u h
   rcases yU i q.1.Oe.length with M|M
   ·rw[õ M]at l
    simp only[ii]at l;split at l
    ·rename_i L
     obtain⟨go,yl⟩:=ij.go P2 b A O i _ f2v S L (zF M);refine bk (Or.inr ⟨go,fun x H3 hy=>g_ fun G bk=>?_⟩);obtain⟨P3,f3,s3,r3⟩:=yl x H3 hy;obtain⟨W,e4,e5⟩:=zA l;obtain⟨V,e6,e7⟩:=zA e5;obtain⟨kl,kj⟩:=hk _ _ _ _ _ e4;refine bk ⟨P3,b,R++È k Á,O,q.1.Oe[i],T.frm f3,s3,r3,W.1,W.2,e4,fun P4 φ4 H4 σ4 f4 s4 F=>⟨P4,φ4,W.1,W.2,F,s4,V.1,V.2,e6,fun P5 D H5 c f5 s5 r5=>?_⟩⟩;cases r5;refine g_ fun G bk=>?_
     have Z:=(f3.trans f4).trans f5;have back:∀{P6:Pr}{B:List Ç}{H6:Hp},Frm P5 D H5 P6 B H6->Ol mg P6 H6 B (R++È k Á) σ4:=fun f6=>((F.frm f5).frm f6).back kl fun j hj=>kj j oM
     cases hc:V.1 with
     |true =>
      rw[hc]at e7 bk;simp only[if_true]at e7 bk;obtain⟨q8,e8,e9⟩:=zA e7;obtain⟨z,e10,e11⟩:=zE.mp e9;cases e11;refine bk ⟨P5,D,W.1,V.2,F.frm f5,s5,q8.1,q8.2,e8,fun P6 B H6 y f6 s6 r6=>g_ fun G bk=>?_⟩;obtain⟨Y,sh,C,K⟩:=Frm.hd s2 ⟨_,I⟩ (Z.trans f6) s6;refine bk ⟨N,by rw[K];exact I,?_,q.1.Oe.length-(i+1),by lia,?_⟩
      ·rw[<- rx.length]
       have h1:=zS hz;have h2:(1000000:Nat)<Ë:=by decide
       lia
      ·have eh:hid (ah H6 p (.lst (N++[y]))) p=hid H6 p:=u0
       refine .mk P6 B q8.2 (xs++[q8.1]) (N++[y]) z.1 rfl M (eh.symm▸d.trans Y) (eh.symm▸sh) (eh.symm▸?_) ay (eh.symm▸(rx.frm Y).app (aX (r6.mono C fun _ _ z=>z) bn)) (by rw[zV];simp;lia) e10 (by rw[eo,yN];rfl)
       have:=back f6
       exact⟨this.1,fun i v e=>let⟨w,e',r⟩:=this.2 i v e;⟨w,e',r.mono C fun _ _ z=>z⟩⟩
     |false =>
      rw[hc]at e7 bk;simp only[yB,if_false]at e7 bk;obtain⟨Y,sh,C,K⟩:=Frm.hd s2 ⟨_,I⟩ Z s5;refine bk ⟨q.1.Oe.length-(i+1),by lia,.mk P5 D V.2 xs N zs rfl M (d.trans Y) sh ?_ (by rw[K];exact I) (rx.frm Y) oM e7 eo⟩
      have:=back Frm.refl
      exact⟨this.1,fun i v e=>let⟨w,e',r⟩:=this.2 i v e;⟨w,e',r.mono C fun _ _ z=>z⟩⟩
    ·cases l
   ·have ei:i=q.1.Oe.length:=ϸ hle M
    subst ei;rw[ϡ]at l;simp only[ii]at l;split at l
    ·rename_i L
     cases l;refine bk (Or.inl ⟨ij.stop P2 b A _ f2v S L,?_⟩)
     have:=kk P2 b (hid A p) p N (f1.trans d) s2 dD (by rw[eo,ò];exact rx)
     rw[C5 I]at this;exact this
    ·cases l
 ·cases e2
def vm[Od](X:Cx)(a:List Î)(t:TF):Prop:=vo X a (rT X.gm t)
section
variable{X:Cx}{elt iter tg:Î}{ifs:List Î}{N':List Ì}{scope:ĝ}{pos:ġ}{it:IF}{g:GF}{t:TF}{f:EF}
theorem Dz[Od]:vm X [] Kh:=fun d s b H Q I a=>e7 a fun P e g f h c k=>DT d s b H Q I (k.pure c rfl)
theorem Dy[Od](h:QT X e t):vm X [e] t:=DS h
theorem Ia{e:Î}{t t':TE}(h:PE X e t)(i:∀σ H Q,σ.length=X.N.length->t' σ H Q->t σ H Q):PE X e t':=fun b s σ H Q I a=>h b s σ H Q I (i σ H Q I.len a)
theorem HZ{st:ĸ}{t t':TS}(h:PS X st t)(i:∀D σ H,σ.length=X.N.length->t' D σ H->t D σ H):PS X st t':=fun b s σ H D I a=>h b s σ H D I (i D σ H I.len a)
theorem Ch[Od](j:X.calm=Â)(T:jJ X N' scope)(e:QI X tg iter it)(i:∀cl s H fp Oa,QG (cC X N' scope cl s H fp Oa) tg g)(a:∀cl s H fp Oa,vm (cC X N' scope cl s H fp Oa) ifs t)
  (he:∀cl s H fp Oa,QE (cC X N' scope cl s H fp Oa) elt f) (d:pv X.N.length g) (b:∀x,ó iter X.env x=pure x):QN X (.ListComp elt [⟨tg,iter,ifs,0⟩] scope pos) (Cn (N'.length-X.N.length) it g t f) :=
 Ia (Ja (g:=rG X.gm g) (tt:=rT X.gm t) (te:=rE X.gm f) j T e (fun cl s H fp Oa=>i cl s H fp Oa) (fun cl s H fp Oa=>a cl s H fp Oa) (fun cl s H fp Oa=>he cl s H fp Oa) b) fun k H Q c h=>G2 d c h
end
inductive Out where
 |nx (sl:Sl) (st:aa)|rt (v:AV) (st:aa)|bk (sl:Sl) (st:aa)|ct (sl:Sl) (st:aa)
abbrev SF:=Sl->aa->Option Out
def ThO[Od](mg:Gm)(P:Pr)(φ:List Ç)(H:Hp)(D:kS):Out->Prop
 |.nx sl st=>∀P' φ' H' σ',Frm P φ H P' φ' H'->Sim mg P' φ' st H'->Ol mg P' H' φ' sl σ'->D.nx σ' H'
 |.bk sl st=>∀P' φ' H' σ',Frm P φ H P' φ' H'->Sim mg P' φ' st H'->Ol mg P' H' φ' sl σ'->D.bk σ' H'
 |.ct sl st=>∀P' φ' H' σ',Frm P φ H P' φ' H'->Sim mg P' φ' st H'->Ol mg P' H' φ' sl σ'->D.ct σ' H'
 |.rt v st=>∀P' φ' H' w,Frm P φ H P' φ' H'->Sim mg P' φ' st H'->RA mg P' H' φ' v w->D.rt w H'
def KO[Od](mg:Gm)(P:Pr)(φ:List Ç)(H:Hp)(r:Option Out)(D:kS):Prop:=∃o,r=À o/\ThO mg P φ H D o
def rS[Od](mg:Gm)(f:SF):TS:=fun D d H=>∃P a c b,Ol mg P H a c d/\Sim mg P a b H/\KO mg P a H (f c b) D
def QS[Od](X:Cx)(st:ĸ)(f:SF):Prop:=PS X st (rS X.gm f)
def nq[Od](X:Cx)(a:List ĸ)(f:SF):Prop:=PSs X a (rS X.gm f)
theorem ThO.frm[Od](h:ThO mg P φ H D o)(f:Frm P φ H P1 φ1 H1):ThO mg P1 φ1 H1 D o:=by
 cases o with
 |nx sl st=>exact fun d a e b c=>h d a e b (f.trans c)
 |bk sl st=>exact fun d a e b c=>h d a e b (f.trans c)
 |ct sl st=>exact fun d a e b c=>h d a e b (f.trans c)
 |rt v st=>exact fun d a e b c=>h d a e b (f.trans c)
theorem KO.bindE[Od]{α c:Type}{Ra:Gm->Pr->Hp->List Ç->α->c->Prop}{m:Option (α×aa)}{k:α×aa->Option Out}(h:KO mg P φ H (m.bind k) D) :
  KG mg Ra P φ H m fun b H1=>∃P1 φ1 st1 a,Frm P φ H P1 φ1 H1/\Sim mg P1 φ1 st1 H1/\Ra mg P1 H1 φ1 a b/\KO mg P1 φ1 H1 (k (a,st1)) D:=by
 obtain⟨o,e,q⟩:=h;cases m with
 |none=>cases e
 |some p=>exact⟨p.1,p.2,rfl,fun P1 φ1 H1 b f s r=>⟨P1,φ1,p.2,p.1,f,s,r,o,e,q.frm f⟩⟩
theorem KO.nx[Od]{mg:Gm}{P:Pr}{φ:List Ç}{H:Hp}{sl:Sl}{st:aa}{D:kS}{σ:St}(h:KO mg P φ H (À (.nx sl st)) D)(s:Sim mg P φ st H)(r:Ol mg P H φ sl σ):D.nx σ H:=by
 obtain⟨o,e,q⟩:=h;cases e;exact q P φ H σ Frm.refl s r
theorem KO.no[Od](h:KO mg P φ H Á D):False:=by obtain⟨_,e,_⟩:=h;cases e
section
variable{X:Cx}{st:ĸ}{rest:List ĸ}{e c tg:Î}{pos:ġ}{s t:SF}{f:EF}{g:GF}{b:TF}
def Kr:SF:=fun b a=>À (.nx b a)
def Ko(s t:SF):SF:=fun b a=>(s b a).bind fun o=>match o with
 |.nx b a=>t b a
 |o=>À o
theorem Dq[Od]:nq X [] Kr:=PSs_imp DL fun D d H a=>e7 a fun P c f e b s k=>k.nx s b
theorem AA[Od](m:QS X st s)(l:nq X rest t):nq X (st::rest) (Ko s t):=PSs_imp (AH m l) fun D w H d=>by
 refine e7 d fun P u x st j h k=>?_
 obtain⟨o,e,q⟩:=k;obtain⟨f,p,a⟩:=zA e;refine i7 j h ⟨f,p,?_⟩;cases f with
 |nx sl1 st1=>exact fun r b y g n i c=>⟨r,b,sl1,st1,c,i,o,a,q.frm n⟩
 |bk sl1 st1=>cases a;exact q
 |ct sl1 st1=>cases a;exact q
 |rt v st1=>cases a;exact q
def Fu:SF:=fun _ _=>Á
theorem Dt[Od]:QS X st Fu:=PS_imp AK fun D c H a=>e7 a fun P b d st e s k=>k.no
def Ku(f:EF):SF:=fun a b=>(f a b).bind fun p=>À (.nx a p.2)
theorem Ds[Od](he:QE X e f)(n:ķ e Á pos.line X.env=pure Ä):QS X (.Expr e pos) (Ku f):=PS_imp (DN he n) fun D y H d=>e7 d fun P v A z g s k=>i7 g s (by
 obtain⟨a,c,r,q⟩:=k.bindE (Ra:=RA);refine⟨a,c,r,fun t b u w p l r1=>?_⟩;obtain⟨B,h,i,x,o,j,r2,m⟩:=q t b u w p l r1;exact m.nx j (g.frm o))
def Kq(f:EF):SF:=fun b a=>(f b a).bind fun p=>À (.rt p.1 p.2)
theorem FJ[Od](he:QE X e f):QS X (.Return (À e) pos) (Kq f):=PS_imp (F8 he) fun D z H g=>e7 g fun P y B A m s k=>i7 m s (by
 obtain⟨a,d,t,q⟩:=k.bindE (Ra:=RA);refine⟨a,d,t,fun v c h w p l r1=>?_⟩;obtain⟨u,b,i,x,C,j,r2,o,r,n⟩:=q v c h w p l r1;cases r;exact n u b h w Frm.refl j r2)
def Ks(b:TF)(s t:SF):SF:=fun a c=>(b a c).bind fun p=>if p.1=Â then s a p.2 else t a p.2
theorem IH[Od](u:QT X c b)(z:nq X x s)(v:nq X y t):QS X (.If c x y pos) (Ks b s t):=PS_imp (IV u z v) fun D G H i=>e7 i fun P F j I h p k=>i7 h p (by
 obtain⟨a,g,B,q⟩:=k.bindE (Ra:=RB);refine⟨a,g,B,fun C f E w A r r1=>?_⟩;obtain⟨o,d,e,x,n,l,r2,m⟩:=q C f E w A r r1;cases r2;cases w with
 |true=>exact⟨o,d,j,e,h.frm n,l,m⟩
 |false=>exact⟨o,d,j,e,h.frm n,l,m⟩)
def xk(f:EF)(g:GF):SF:=fun a b=>(f a b).bind fun p=>(g p.1 a p.2).bind fun q=>À (.nx q.1 q.2)
theorem wH[Od](h:rS mg (xk f g) D σ H):vI (rE mg f) (rG mg g) D σ H:=by
 refine e7 h fun P C k E i s n=>?_
 obtain⟨o,e,q⟩:=n;obtain⟨p,y,x⟩:=zA e;obtain⟨r,v,u⟩:=zA x;cases u;exact i7 i s ⟨p.1,p.2,y,fun A b F w j m r1=>⟨A,b,k,p.2,p.1,i.frm j,m,r1,r.1,r.2,v,fun z a B c t l d=>q z a B c (j.trans t) l d⟩⟩
theorem xq[Od](he:QE X e f)(c:QG X tg g)(b:Ϟ [tg] e pos.line X.env=pure Ä)(a:ϟ [tg] e X.env=pure Á)(d:(à [tg] X.env).map (·.2)=[assign tg X.env]):QS X (.Assign [tg] e pos) (xk f g) :=
 PS_imp (Ga he c b a d) fun D i H h=>wH h
theorem GI[Od]{i:Nat}(h:rG mg (yt i) v σ H Q):oT i v σ H Q:=by
 obtain⟨P,b,d,c,x,a,s,rx,k⟩:=h;exact k.pure s (a.set rx i)
theorem xp[Od]{i:Nat}(o:X.N.Nodup)(m:X.N[i]?=À x)(j:Loc X.env.scope x)(he:QE X e f)(l:ķ e (À (.Name x pos')) pos.line X.env=pure Ä)(n:X.fn x=Â\/X.env.scope.names.lookup x=À .local) :
  QS X (.Assign [.Name x pos'] e pos) (xk f (yt i)):=PS_imp (F7 o m j he l n) fun D v H h=>by
 obtain⟨P,u,z,y,c,s,g,d,q,k⟩:=wH h;exact i7 c s ⟨g,d,q,fun r a t w p b r1=>GI (k r a t w p b r1)⟩
def CO(m:Bool)(f:NF):EF:=if m=Â then M9 f else Na f
theorem GE[Od]{mg:Gm}{m:Bool}{f:NF}{σ:St}{H:Hp}{Q:VK}(h:rE mg (CO m f) σ H Q):rN mg f σ H Q:=by
 refine e7 h fun P z B A n s u=>?_
 obtain⟨v,t,ev,k⟩:=u;cases m with
 |true =>
  obtain⟨q,l,b⟩:=zA ev;cases b;refine i7 n s ⟨q.1,q.2,l,fun o a y p r j d g r1=>?_⟩;obtain⟨i,c,e⟩:=GL d g r1;exact k o _ _ _ (j.trans i) c e
 |false =>
  obtain⟨q,l,b⟩:=zA ev;split at b
  ·rename_i w
   cases b;refine i7 n s ⟨q.1,q.2,l,fun o a y p r j d g r1=>?_⟩;obtain⟨x,i,c,e⟩:=Ht d g w r1;exact k x a _ _ (j.trans i) c e
  ·cases b
theorem iG[Od]{m:Bool}{f:NF}(h:QN X e f):QE X e (CO m f):=PE_imp h fun _ _ _ q=>GE q
theorem xo[Od]{i:Nat}{y:Ì}{n:ġ}{elt a d:Î}{c:List Î}{N':List Ì}{scope:ĝ}{pos b:ġ}{it:IF}{g:GF}{t:TF}{f:EF}{m:Bool}(I:X.N.Nodup)(l:X.N[i]?=À y)(u:Loc X.env.scope y)
  (j:ķ (.ListComp elt [⟨d,a,c,0⟩] scope pos) (À (.Name y n)) b.line X.env=pure Â)
  (G:X.calm=Â) (T:jJ X N' scope) (C:QI X d a it) (E:∀cl s H fp Oa,QG (cC X N' scope cl s H fp Oa) d g) (v:∀cl s H fp Oa,vm (cC X N' scope cl s H fp Oa) c t)
  (he:∀cl s H fp Oa,QE (cC X N' scope cl s H fp Oa) elt f) (B:pv X.N.length g) (z:∀x,ó a X.env x=pure x) (F:X.fn y=Â\/X.env.scope.names.lookup y=À .local) :
  QS X (.Assign [.Name y n] (.ListComp elt [⟨d,a,c,0⟩] scope pos) b) (xk (CO m (Cn (N'.length-X.N.length) it g t f)) (yt i)) :=
 HZ (xu (g:=rG X.gm g) (tt:=rT X.gm t) (te:=rE X.gm f) I l u j G T C (fun cl s H fp Oa=>E cl s H fp Oa) (fun cl s H fp Oa=>v cl s H fp Oa) (fun cl s H fp Oa=>he cl s H fp Oa) z F) fun D O H A h=>by
  obtain⟨P,N,R,Q,p,s,r,q,K,k⟩:=wH h;exact G2 B A (GE (m:=m) (i7 p s ⟨r,q,K,fun L e M w J o r1=>GI (k L e M w J o r1)⟩))
def wG(o:Ğ)(_:aa):AV->AV->Option AV
 |.int a,.int b=>match o with
  |.Add=>À (.int (a+b))
  |.Sub=>À (.int (a-b))
  |_=>Á
 |_,_=>Á
theorem LV[Od](o:Ğ):CU X o (fun x y H Q=>∃P φ st a b c,Sim X.gm P φ st H/\RA X.gm P H φ a x/\RA X.gm P H φ b y/\wG o st a b=À c/\∀w,RA X.gm P H φ c w->Q w H):=by
 rintro l s d H x y v u Q I rx f ⟨P,φ,st,a,b,c,m,h,g,e,k⟩;cases a <;> cases b <;> simp only [wG] at e <;> first | (cases e;done) | skip
 rename_i i j;simp only [RA] at h g;subst h;subst g;cases o <;> first | (cases e;done) | skip
 ·cases e
  exact He l s d H _ _ v u Q I rx f ⟨i,j,rfl,rfl,k _ (by simp only[RA])⟩
 ·cases e
  exact Hd l s d H _ _ v u Q I rx f ⟨i,j,rfl,rfl,k _ (by simp only[RA])⟩
theorem JB[Od]:BS X (fun x y H Q=>∃P φ st a b c,Sim X.gm P φ st H/\RA X.gm P H φ a x/\RA X.gm P H φ (.int b) y/\(∃xs,bQ st a=À xs/\gO xs b=À c)/\∀w,RA X.gm P H φ c w->Q w H):=by
 rintro r s e H x y v u Q I rx h ⟨P,φ,st,a,b,c,g,i,d,⟨xs,o,n⟩,k⟩;obtain⟨p,f,rfl,q,l⟩:=i.ls g o;obtain⟨w,m,j⟩:=p6 l n;simp only[RA]at d;exact By r s e H _ y v u Q I rx h ⟨p,f,b,w,rfl,d,q,m,k w j⟩
def vO(o:Ğ)(f g h:EF):SF:=fun a d=>(f a d).bind fun p=>(g a p.2).bind fun q=>match q.1 with
 |.int i=>(bQ q.2 p.1).bind fun c=>(gO c i).bind fun x=>(h a q.2).bind fun r=>(wG o r.2 x r.1).bind fun z=>(ka r.2 p.1 (.int i) z).bind fun b=>À (.nx a b)
 |_=>Á
theorem Du[Od]{a i:Î}{f g h:EF}{o:Ğ}{d:ġ}(Y:X.A.units+64<ŋ)(Z:QE X a f)(hi:QE X i g)(he:QE X e h)
  (ha:∀ov iv new,augStore i ov iv new=(do holding [new,ov,iv] (ϔ ov iv new);release [new,ov,iv] [];pure .next)):QS X (.AugAssign (.Subscript a i d) o e pos) (vO o f g h) :=
 PS_imp (DO Z hi JB he (LV o) (B9 Y) ha) fun D O H y=>by
  refine e7 y fun P φ I st m s W=>?_
  obtain⟨out,eo,q⟩:=W;obtain⟨p,e1,e2⟩:=zA eo;obtain⟨r,e3,A⟩:=zA e2;split at A
  ·rename_i j hj
   obtain⟨Q,e5,e6⟩:=zA A;obtain⟨x,e7,e8⟩:=zA e6;obtain⟨t,e9,G⟩:=zA e8;obtain⟨z,F,E⟩:=zA G;obtain⟨w,C,B⟩:=zA E;cases B;refine i7 m s ⟨p.1,p.2,e1,fun P1 v H1 w1 n S r1=>⟨P1,v,I,p.2,m.frm n,S,r.1,r.2,e3,fun N c H2 w2 l K r2=>?_⟩⟩;rw[hj]at r2;refine⟨N,c,r.2,p.1,j,x,K,r1.frm l,r2,⟨Q,e5,e7⟩,fun w3 V=>⟨N,c,I,r.2,(m.frm n).frm l,K,t.1,t.2,e9,fun M b H3 w4 k J U=>⟨M,b,t.2,x,t.1,z,J,V.frm k,U,F,fun w5 T=>⟨M,b,t.2,p.1,.int j,z,w,J,(r1.frm l).frm k,r2.frm k,T,C,fun P4 u H4 L R=>?_⟩⟩⟩⟩;exact q P4 u H4 O (((n.trans l).trans k).trans L) R ((((m.frm n).frm l).frm k).frm L)
  ·cases A
end
inductive Iw[Od](mg:Gm)(P1:Pr)(φ1:List Ç)(H1:Hp)(E:Sl->aa->Prop)(σ:St)(H:Hp):Prop
 |mk (P φ sl st) (f:Frm P1 φ1 H1 P φ H) (s:Sim mg P φ st H) (r:Ol mg P H φ sl σ) (e:E sl st)
def dE(gd:Gd)(g:GF)(s:SF):List AV->Sl->aa->Option Out
 |[],sl,st=>if cm gd st=Â then À (.nx sl st) else Á
 |x::xs,sl,st=>if cm gd st=Â then(g x sl st).bind fun p=>(s p.1 p.2).bind fun o=>match o with
  |.nx sl st=>dE gd g s xs sl st
  |.ct sl st=>dE gd g s xs sl st
  |.bk sl st=>À (.nx sl st)
  |.rt v st=>À (.rt v st) else Á
def Kt(it:IF)(g:GF)(s:SF):SF:=fun a b=>(it a b).bind fun p=>dE p.1.gd g s p.1.Oe a p.2
def dg(t:TF)(s:SF):Nat->Sl->aa->Option Out
 |0,_,_=>Á
 |n+1,sl,st=>(t sl st).bind fun p=>if p.1=Â then(s sl p.2).bind fun o=>match o with
  |.nx sl st=>dg t s n sl st
  |.ct sl st=>dg t s n sl st
  |.bk sl st=>À (.nx sl st)
  |.rt v st=>À (.rt v st) else À (.nx sl p.2)
open Classical in
def mE(t:TF)(s:SF):SF:=fun b a=>if h:∃n,(dg t s n b a).isSome=Â then dg t s (ď h) b a else Á
theorem qa:∀{n m:Nat}{sl:Sl}{st:aa}{o:Out},n<=m->dg t s n sl st=À o->dg t s m sl st=À o:=by
 intro n
 induction n with
 |zero=>intro m sl st o _ h;cases h
 |succ n d =>
  intro m sl st o g h;cases m with
  |zero=>lia
  |succ m =>
   simp only[dg]at h ⊢;obtain⟨p,f,c⟩:=zA h;rw[f,Ã];split at c
   ·rename_i b
    rw[yI b];obtain⟨q,e,a⟩:=zA c;rw[e,Ã];cases q with
    |nx sl st=>exact d oM a
    |ct sl st=>exact d oM a
    |bk sl st=>exact a
    |rt v st=>exact a
   ·rename_i b
    rw[yH b];exact c
theorem n9{t:TF}{s:SF}{n:Nat}{sl:Sl}{st:aa}{o:Out}(h:dg t s n sl st=À o):mE t s sl st=À o:=by
 have a:∃n,(dg t s n sl st).isSome=Â:=⟨n,by rw[h];rfl⟩;unfold mE;rw[dif_pos a];obtain⟨e,b⟩:=Č.mp (ě a);have d:=qa (Nat.le_max_left n (ď a)) h;have c:=qa (Nat.le_max_right n (ď a)) b;rw[b,<- d,c]
theorem xI{t:TF}{s:SF}{sl:Sl}{st:aa}{o:Out}(h:mE t s sl st=À o):∃n,dg t s n sl st=À o:=by
 unfold mE at h;split at h
 ·exact⟨_,h⟩
 ·cases h
section
variable{X:Cx}{tg iter c:Î}{body:List ĸ}{pos:ġ}{it:IF}{g:GF}{s:SF}{t:TF}
theorem FK[Od](hp:ϖ (model X.prog X.w) X.A X.env X.xe)(hc:X.calm=Â)(hi:QI X tg iter it)(hg:QG X tg g)(hb:nq X body s)(hs:∀x,ó iter X.env x=pure x):QS X (.For tg iter body [] pos) (Kt it g s) :=
 PS_imp (xw hp hc hi hg hb hs) fun D σ H R=>by
  refine e7 R fun P φ A E W sm q0=>?_
  obtain⟨o,e,q⟩:=q0;obtain⟨p,e1,e2⟩:=zA e;refine i7 W sm ⟨p.1,p.2,e1,fun V h H1 J f1 s1 Z=>?_⟩;have Q:=q.frm f1;refine⟨fun i m f u=>m=p.1.Oe.length-i/\i<=p.1.Oe.length/\Iw X.gm V h H1 (fun A E=>dE p.1.gd g s (p.1.Oe.drop i) A E=À o) f u,⟨_,rfl,û _,V,h,A,p.2,Frm.refl,s1,W.frm f1,by simpa using e2⟩,?_⟩;intro i m f u hh;refine g_ fun G bk=>?_
  obtain⟨em,S,U,d,M,y,K,N,B,c⟩:=hh;rcases yU i p.1.Oe.length with l|T
  ·rw[õ l]at c
   simp only[dE]at c;split at c
   ·rename_i n
    obtain⟨go,yl⟩:=Z.go U d u y i _ K N n (zF l);obtain⟨F,e4,e5⟩:=zA c;obtain⟨Y,e6,e7⟩:=zA e5;refine bk (.inr ⟨go,Iw X.gm V h H1 fun A E=>dE p.1.gd g s (p.1.Oe.drop (i+1)) A E=À o,fun f u z=>⟨_,by lia,rfl,l,z⟩,fun x H3 hy=>g_ fun G bk=>?_⟩);obtain⟨P3,f3,s3,r3⟩:=yl x H3 hy;refine bk ⟨P3,d,M,y,_,B.frm f3,s3,r3,F.1,F.2,e4,fun P4 L H4 σ4 f4 s4 O=>⟨P4,L,F.1,F.2,O,s4,Y,e6,?_⟩⟩;have I:=(K.trans f3).trans f4;cases Y with
    |nx sl5 st5=>exact fun t a C j r k b=>⟨t,a,sl5,st5,I.trans r,k,b,e7⟩
    |ct sl5 st5=>exact fun t a C j r k b=>⟨t,a,sl5,st5,I.trans r,k,b,e7⟩
    |bk sl5 st5=>cases e7;exact fun t a C j r k b=>Q t a C j (I.trans r) k b
    |rt v st5=>cases e7;exact fun t a C w r k r5=>Q t a C w (I.trans r) k r5
   ·cases c
  ·have ei:i=p.1.Oe.length:=ϸ S T
   subst ei;rw[ϡ]at c;simp only[dE]at c;split at c
   ·rename_i n
    cases c;exact bk (.inl ⟨Z.stop U d u _ K N n,Q U d u f K N B⟩)
   ·cases c
theorem AB[Od](O:ϖ (model X.prog X.w) X.A X.env X.xe)(R:QT X c t)(S:nq X body s):QS X (.While c body [] pos) (mE t s) :=
 PS_imp (AJ O R S) fun D Z H C=>by
  refine e7 C fun P B r n J I M=>?_
  obtain⟨o,e,q⟩:=M;obtain⟨N,V⟩:=xI e;refine⟨fun m=>Iw X.gm P B H fun r n=>dg t s m r n=À o,⟨N,P,B,r,n,Frm.refl,I,J,V⟩,?_⟩;intro m l Y Q;cases Q with|mk P2 φ2 sl2 st2 f2 s2 rs2 eg =>
  cases m with
  |zero=>cases eg
  |succ m =>
   simp only[dg]at eg;obtain⟨p,U,j⟩:=zA eg;refine⟨P2,φ2,sl2,st2,rs2,s2,p.1,p.2,U,fun G k W b A E L=>?_⟩;cases L;cases u:p.1 with
   |true =>
    rw[u]at j;simp only[if_true]at j ⊢;obtain⟨F,T,e7⟩:=zA j;refine⟨Iw X.gm P B H fun r n=>dg t s m r n=À o,fun l Y z=>⟨m,ı m,z⟩,G,k,sl2,p.2,rs2.frm A,E,F,T,?_⟩;have y:=f2.trans A;cases F with
    |nx sl5 st5=>exact fun i a x f h g d=>⟨i,a,sl5,st5,y.trans h,g,d,e7⟩
    |ct sl5 st5=>exact fun i a x f h g d=>⟨i,a,sl5,st5,y.trans h,g,d,e7⟩
    |bk sl5 st5=>cases e7;exact fun i a x f h g d=>q i a x f (y.trans h) g d
    |rt v st5=>cases e7;exact fun i a x w h g K=>q i a x w (y.trans h) g K
   |false =>
    rw[u]at j;simp only[yB,if_false]at j ⊢;cases j;exact q G k W l (f2.trans A) E (rs2.frm A)
end
abbrev Fn:=List AV->aa->Option (AV×aa)
def dM[Od](mg:Gm)(n:Nat)(fn:Fn):Sp:=fun c H Q _=>c.length=n/\∃P b a d,Og mg P H b a c/\Sim mg P b d H/\KG mg RA P b H (fn a d) Q
def fB:Nat->aa->AV->Option AV
 |n+1,st,.ref k=>match st[k]? with
  |some (.lst xs)=>(aR (fB n st) xs).map .fz
  |some (.al t)=>À t
  |_=>Á
 |n+1,st,.tup xs=>(aR (fB n st) xs).map .tup
 |0,_,.ref _=>Á
 |0,_,.tup _=>Á
 |_,_,t=>À t
def eS:aa->AV->Option AV:=fB 6
mutual
noncomputable def flat:AV->Bool
 |.ref _=>Ä
 |.fz _=>Ä
 |.tup xs=>o0 xs
 |_=>Â
noncomputable def o0:List AV->Bool
 |[]=>Â
 |x::xs=>flat x&&o0 xs
end
def qt(st:aa)(x:AV):Option (AV×aa):=if rf x=Â then À (x,st) else match x with
 |.ref k=>match st[k]? with
  |some (.lst a)=>if rfs a=Â then À (.fz a,st.set k (.al (.fz a))) else Á
  |some (.al t)=>À (t,st)
  |_=>Á
 |_=>Á
def oW:aa->List AV->Option (List AV×aa)
 |st,[]=>À ([],st)
 |st,x::xs=>(qt st x).bind fun p=>(oW p.2 xs).map fun q=>(p.1::q.1,q.2)
def pm(fn:Fn):Fn:=fun a b=>if rfs a=Â then(fn a []).bind fun p=>(eS p.2 p.1).map fun t=>(t,b)
 else(aR (eS b) a).bind fun c=>(fn c []).bind fun p=>(eS p.2 p.1).bind fun t=>if flat t=Â then À (t,b) else
  (oW b a).bind fun q=>(fn q.1 []).bind fun p=>(eS p.2 p.1).map fun t=>(t,q.2)
section
variable{mg:Gm}{P:Pr}{φ:List Ç}{st:aa}{H:Hp}
theorem Ay[Od]{n:Nat}(b:∀v w t,fB n st v=À t->RA mg P H φ v w->RA mg P' H [] t w):∀{xs:List AV}{vs:List V}{ts:List AV},aR (fB n st) xs=À ts->Og mg P H φ xs vs->Og mg P' H [] ts vs:=by
 intro xs
 induction xs with
 |nil=>intro vs ts e r;cases e;simp only[Og]at r ⊢;exact r
 |cons x xs a =>
  intro vs ts e r;simp only[aR]at e;obtain⟨y,g,f⟩:=zA e;obtain⟨h,d,c⟩:=zE.mp f;subst c;simp only[Og]at r;obtain⟨v,i,rfl,r1,r2⟩:=r;exact aX (b x v y g r1) (a d r2)
theorem rQ[Od](s:Sim mg P φ st H):∀(n:Nat)(v:AV)(w:V)(t:AV),fB n st v=À t->RA mg P H φ v w->RA mg (fun a=>P a\/a∈φ) H [] t w:=by
 have ex:∀a,P a->(P a\/a∈φ)/\H a=H a:=fun a h=>⟨.inl h,rfl⟩
 have o:∀{t:AV}{w:V},R.rf t=Â->RA mg P H φ t w->RA mg (fun a=>P a\/a∈φ) H [] t w:=fun h r=>(RA.rf (ψ:=[]) h r).mono ex fun _ _ z=>z
 intro n
 induction n with
 |zero =>
  intro v w t e r;cases v <;> simp only [fB] at e <;> first | (cases e;done) | skip
  all_goals cases e;exact o rfl r
 |succ n q =>
  intro v w t e r;cases v with
  |ref k =>
   simp only[fB]at e;simp only[RA]at r;obtain⟨a,j,rfl⟩:=r;split at e
   ·rename_i u f
    obtain⟨x,m,l⟩:=zE.mp e;subst l;obtain⟨y,b,c⟩:=s.at f;rw[j]at b;cases b;obtain⟨_,d,i,g⟩:=c;simp only[RA];exact⟨a,d,rfl,.inl ⟨.inr (zW j),.inl i⟩,Ay q m g⟩
   ·rename_i A f
    cases e;obtain⟨y,b,c⟩:=s.at f;rw[j]at b;cases b;exact c.2.mono ex fun _ _ z=>z
   ·cases e
  |tup u =>
   simp only[fB]at e;obtain⟨x,m,l⟩:=zE.mp e;subst l;simp only[RA]at r;obtain⟨a,d,rfl,p,i,g⟩:=r;simp only[RA];exact⟨a,d,rfl,.inl p,i,Ay q m g⟩
  |_=>simp only[fB]at e;cases e;exact o rfl r
mutual
theorem RA.fl[Od](h:∀a vs,P a->H a=À (.tup vs)->P' a):∀{t:AV}{w:V},flat t=Â->RA mg P H φ t w->RA mg P' H ψ t w
 |.non,_,_,r=>by simp only[RA]at r ⊢;exact r
 |.bl _,_,_,r=>by simp only[RA]at r ⊢;exact r
 |.int _,_,_,r=>by simp only[RA]at r ⊢;exact r
 |.str _,_,_,r=>by simp only[RA]at r ⊢;exact r
 |.ref _,_,e,_=>by simp only[flat]at e;cases e
 |.fz _,_,e,_=>by simp only[flat]at e;cases e
 |.tup xs,_,e,r=>by
  simp only[RA,flat]at r e ⊢;obtain⟨a,vs,rfl,p,h1,h2⟩:=r;exact⟨a,vs,rfl,h a vs p h1,h1,Og.fl h e h2⟩
theorem Og.fl[Od](h:∀a vs,P a->H a=À (.tup vs)->P' a):∀{ts:List AV}{ws:List V},o0 ts=Â->Og mg P H φ ts ws->Og mg P' H ψ ts ws
 |[],_,_,r=>by simp only[Og]at r ⊢;exact r
 |t::ts,_,e,r=>by
  simp only[Og,o0,zC]at r e ⊢;obtain⟨v,ws,rfl,r1,r2⟩:=r;exact⟨v,ws,rfl,RA.fl h e.1 r1,Og.fl h e.2 r2⟩
end
theorem Hu[Od](s:Sim mg P φ st H)(e:qt st x=À (t,st'))(r:RA mg P H φ x v):∃P',Frm P φ H P' φ H/\Sim mg P' φ st' H/\RA mg P' H [] t v:=by
 unfold qt at e;split at e
 ·rename_i h
  cases e;exact⟨P,Frm.refl,s,RA.rf h r⟩
 ·cases x with
  |ref k =>
   simp only[RA]at r;obtain⟨a,f,rfl⟩:=r;dsimp only at e;split at e
   ·rename_i y o
    split at e
    ·rename_i B
     cases e;obtain⟨D,d,c⟩:=s.at o;rw[f]at d;cases d;obtain⟨F,A,w,u⟩:=c;have ex:∀b,P b->(P b\/b=a)/\H b=H b:=fun b h=>⟨.inl h,rfl⟩
     have m:=zW f;have q:RA mg (fun b=>P b\/b=a) H [] (.fz y) (.ref a):=by
      simp only[RA];exact⟨a,A,rfl,.inl ⟨.inr rfl,.inl w⟩,(Og.rf B u).mono ex fun _ _ z=>z⟩
     have C:∀b,(P b\/b=a)->H b≠Á:=fun b h=>by
      rcases h with h|h
      ·exact s.dom b h
      ·rw[h];exact s.cd a m
     refine⟨fun b=>P b\/b=a,⟨ex,⟨[],by simp,by simp⟩,fun _ _ _ _=>rfl,fun b h=>?_,fun _ h=>h,fun _ _ _ h=>h⟩,⟨by rw[ā];exact s.len,s.nd,C,s.cd,fun j c b i g=>?_,fun t l=>⟨(s.tb t l).1,fun z=>z.elim (s.tb t l).2 fun z=>s.tnc l (by rw[z];exact m)⟩⟩,q⟩
     ·rcases h with h|h
      ·exact .inl h
      ·exact .inr (.inr (by rw[h];exact m))
     ·by_cases p:j=k
      ·subst p
       rw[f]at g;cases g;rw[î (by rw[<- s.len];exact(zB.mp f).1)]at i;cases i;exact⟨.inr rfl,q⟩
      ·rw[ê (ã p)]at i
       refine(s.cell j c b i g).mono ex (fun _ _ z=>z) rfl fun n z=>?_
       rcases z with z|z
       ·exact n z
       ·refine p ?_
        subst z;obtain⟨w,i⟩:=zB.mp g;obtain⟨u,g⟩:=zB.mp f;exact(ť s.nd).mp (i.trans g.symm)
    ·cases e
   ·rename_i E o
    cases e;obtain⟨D,d,c⟩:=s.at o;rw[f]at d;cases d;exact⟨P,Frm.refl,s,c.2⟩
   ·cases e
  |_=>cases e
theorem Hs[Od]:∀{xs ts:List AV}{st st':aa}{P:Pr}{vs:List V},Sim mg P φ st H->oW st xs=À (ts,st')->Og mg P H φ xs vs->∃P',Frm P φ H P' φ H/\Sim mg P' φ st' H/\Og mg P' H [] ts vs:=by
 intro xs
 induction xs with
 |nil=>intro ts st st' P vs s e r;cases e;simp only[Og]at r;subst r;exact⟨P,Frm.refl,s,bn⟩
 |cons x xs h =>
  intro ts st st' P vs s e r;simp only[oW]at e;obtain⟨p,l,k⟩:=zA e;obtain⟨q,j,i⟩:=zE.mp k;cases i;simp only[Og]at r;obtain⟨v,n,rfl,r1,r2⟩:=r;obtain⟨o,b,d,g⟩:=Hu s l r1;obtain⟨m,a,c,f⟩:=h d j (r2.frm b);exact⟨m,b.trans a,c,aX (g.mono a.ext fun _ _ z=>z) f⟩
theorem Kv[Od]{fn:Fn}{args:List AV}{vs:List V}{Q:VK}(s:Sim mg P φ st H)(r:Og mg P H [] args vs)(h:KG mg RA P φ H ((fn args []).bind fun p=>(eS p.2 p.1).map fun t=>(t,st)) Q):∃P φ args st,Og mg P H φ args vs/\Sim mg P φ st H/\KG mg RA P φ H (fn args st) Q:=by
 obtain⟨t,o,e,k⟩:=h;obtain⟨p,A,y⟩:=zA e;obtain⟨B,x,v⟩:=zE.mp y;cases v;refine⟨P,[],args,[],r,Sim.nil s.dom s.tb,p.1,p.2,A,fun j d l w b c r1=>?_⟩;obtain⟨m,em,nm⟩:=b.new;have i:∀a,H a≠Á->(∀q,H a≠À (.tbl q))->l a=H a:=fun a h=>b.keep a h (by simp)
 have u:=s.ckeep (fun a h=>(b.ext a h).2) i;have g:∀a,(j a\/a∈d)->P a\/H a=Á:=fun a h=>by
  rcases h with h|h
  ·rcases b.pn a h with z|z|z
   ·exact .inl z
   ·exact .inr z
   ·cases z
  ·rw[em]at h;exact .inr (nm a h)
 refine k (fun a=>j a\/a∈d) φ l w ⟨fun a h=>⟨.inl (b.ext a h).1,(b.ext a h).2⟩,⟨[],by simp,by simp⟩,fun a h _ z=>i a h z,fun a h=>?_,b.sm,b.fz⟩ (s.stay (fun a h=>⟨.inl (b.ext a h).1,(b.ext a h).2⟩) u (fun a h n z=>?_) (fun a h=>?_) fun t f=>⟨(c.tb t f).1,fun z=>z.elim (c.tb t f).2 (c.tnc f)⟩) (RA.lift (rQ c 6 _ _ _ x r1))
 ·rcases g a h with z|z
  ·exact .inl z
  ·exact .inr (.inl z)
 ·rcases g a z with z|z
  ·exact n z
  ·exact s.cd a h z
 ·rcases h with h|h
  ·exact c.dom a h
  ·exact c.cd a h
theorem IW[Od]{n:Nat}(h:dM mg n (pm fn) vs H Q E):dM mg n fn vs H Q E:=by
 obtain⟨S,P,o,J,M,r,s,k⟩:=h;refine⟨S,?_⟩;unfold pm at k;split at k
 ·rename_i R
  exact Kv s (Og.rf R r) k
 ·obtain⟨t,y,e,k⟩:=k
  obtain⟨L,e1,e2⟩:=zA e;obtain⟨p,e3,e4⟩:=zA e2;obtain⟨t',Z,A⟩:=zA e4;split at A
  ·rename_i T
   cases A;have dm:∀a,(P a\/a∈o)->H a≠Á:=fun a h=>by
    rcases h with h|h
    ·exact s.dom a h
    ·exact s.cd a h
   refine⟨fun a=>P a\/a∈o,[],L,[],Ay (fun v w t e r=>rQ s 6 v w t e r) e1 r,Sim.nil dm (fun t g=>⟨(s.tb t g).1,fun z=>z.elim (s.tb t g).2 (s.tnc g)⟩),p.1,p.2,e3,fun B l C w d f r1=>?_⟩;obtain⟨m,em,nm⟩:=d.new;have D:∀a,H a≠Á->(∀O,H a≠À (.tbl O))->C a=H a:=fun a h=>d.keep a h (by simp)
   have F:=s.ckeep (fun a h=>(d.ext a (.inl h)).2) D;have u:∀a,P a->((B a\/a∈l)/\(a∈o->P a))/\C a=H a:=fun a h=>⟨⟨.inl (d.ext a (.inl h)).1,fun _=>h⟩,(d.ext a (.inl h)).2⟩
   refine k (fun a=>(B a\/a∈l)/\(a∈o->P a)) o C w ⟨u,⟨[],by simp,by simp⟩,fun a h _ z=>D a h z,fun a h=>?_,d.sm,d.fz⟩ (s.stay u F (fun a h n z=>n (z.2 h)) (fun a h=>?_) fun t g=>⟨(f.tb t g).1,fun z=>z.1.elim (f.tb t g).2 (f.tnc g)⟩) (RA.fl (fun a K W V=>⟨W,fun G=>?_⟩) T (rQ f 6 _ _ _ Z r1))
   ·rcases h.1 with z|z
    ·rcases d.pn a z with z|z|z
     ·rcases z with z|z
      ·exact .inl z
      ·exact .inr (.inr z)
     ·exact .inr (.inl z)
     ·cases z
    ·rw[em]at z;exact .inr (.inl (nm a z))
   ·rcases h.1 with h|h
    ·exact f.dom a h
    ·exact f.cd a h
   ·obtain⟨j,I⟩:=z9 G
    obtain⟨c,U⟩:∃c,M[j]?=À c:=⟨_,zF (by rw[<- s.len];exact(zB.mp I).1)⟩;have i:=s.cell j c a U I;have b:H a=À (.tup K):=by rw[<- F a G];exact V
    cases c with
    |lst xs=>obtain⟨_,_,z,_⟩:=i;rw[b]at z;cases z
    |al t=>exact i.1
    |dK Oc=>obtain⟨_,_,z,_⟩:=i;rw[b]at z;cases z
    |dT Oc=>obtain⟨_,_,z,_⟩:=i;rw[b]at z;cases z
    |ins c fs=>obtain⟨_,_,_,_,_,z,_⟩:=i;rw[b]at z;cases z
    |wk Oc=>obtain⟨_,_,_,z,_⟩:=i;rw[b]at z;cases z
  ·obtain⟨q,e7,Y⟩:=zA A
   obtain⟨B,d,f,r1⟩:=Hs s e7 r;exact Kv f r1 ⟨t,y,Y,fun P2 x H2 w X N r2=>k P2 x H2 w (d.trans X) N r2⟩
end
theorem FnOk.pm[Od]{P:Ò}{w:Û}{K:á}{mg:Ì->Option Å}{a:ä}{k:Nat}{f:Ç}{fd:ĕ}{ps:List Ì}{n:Nat}{fn:Fn}(F:FnOk P w K mg a fx k f fd ps (dM ⟨K,mg⟩ n fn)):FnOk P w K mg a fx k f fd ps (dM ⟨K,mg⟩ n (R.pm fn)) :=
 F.imp fun _ _ _ _ h=>IW h
def run(n:Nat)(b:SF):Fn:=fun a c=>(b (a.map À++È (n-a.length) Á) c).bind fun o=>match o with
 |.rt v c=>À (v,c)
 |.nx _ c=>À (.non,c)
 |_=>Á
theorem Di[Od](h:Og mg P H φ args vs):Ol mg P H φ (args.map À++È (N.length-args.length) Á) (L2.start N vs):=by
 have b:=h.length;unfold L2.start;refine⟨by simp[b],fun i v e=>?_⟩;have c:i<args.length:=by
  rcases yU i args.length with z|z
  ·exact z
  ·rw[z6 (by simpa using z),ÿ]at e
   split at e<;>cases e
 rw[zN (by simpa using c),zR]at e;rw[zN (by rw[zH,<- b];exact c),zR];cases a:args[i]? with
 |none=>rw[a]at e;cases e
 |some x =>
  rw[a]at e;cases e;obtain⟨w,d,r1⟩:=h.get a;exact⟨w,by rw[d];rfl,r1⟩
def CQ(fn:Fn)(g:AF):EF:=fun b a=>(g b a).bind fun p=>fn p.1 p.2
section
variable{X:Cx}{x:Ì}{p pos:ġ}{e o:Î}{es:List Î}{k:Nat}{f:Ç}{fd:ĕ}{ps:List Ì}{fn:Fn}{g:AF}{h:EF}
theorem Ma[Od]{n:Nat}(m:∀sl st xs st',g sl st=À (xs,st')->xs.length=n)(q:rE mg (CQ fn g) σ H Q):vH (dM mg n fn) [] E (rA mg g) σ H Q:=by
 refine e7 q fun P u sl st j s k=>?_
 refine i7 j s ?_;obtain⟨a,st',f,q⟩:=k.bind (Ra:=Og);refine⟨a,st',f,fun r d t b o i r1=>?_⟩;obtain⟨p,c,e,xs,v,h,r2,l⟩:=q r d t b o i r1;rw[ò];exact⟨by rw[<- r1.length];exact m _ _ _ _ f,p,c,xs,e,r2,h,l⟩
theorem DI[Od](F:FnOk X.prog X.w X.K X.mg X.base fx k f fd ps (dM X.gm ps.length fn))(b:Room k X.A)(i:Gl X x)(d:X.mg x=À (.ref f))(h:Ĵ X.K (.ref f)=Â)(j:Binds X.K fd ps [])
  (l:QA X (e::es) g) (c:∀sl st xs st',g sl st=À (xs,st')->xs.length=ps.length) (a:(x==("__debug__":Ì))=Ä) (he:Ê (e::es) X.env=(Ä,eval e X.env)::Ê es X.env) (hpl:(ø pos (Ê es X.env)).any (·.1)=Ä) :
  QE X (.Call (.Name x p) (e::es) [] pos) (CQ fn g):=PE_imp (Ec (E:=E0) F b i d h j .nil oi l a he hpl) fun _ _ _ q=>Ma c q
theorem AE[Od](F:FnOk X.prog X.w X.K X.mg X.base fx k f fd ps (dM X.gm ps.length fn))(e:Room k X.A)(j:Gl X x)(h:X.mg x=À (.ref f))(i:Ĵ X.K (.ref f)=Â)(l:Binds X.K fd ps [])
  (g:ps.length=0) (a:(x==("__debug__":Ì))=Ä):QE X (.Call (.Name x p) [] [] pos) (CQ fn fG):=PE_imp (AY (E:=E0) F e j h i l .nil oi a) fun m H Q q=>by
 refine e7 q fun P b n c o s d=>?_
 exact⟨by simp[g],P,b,[],c,bn,s,d⟩
def jE(st:aa)(c:Ì):AV->Option (List (Ì×AV))
 |.ref k=>match st[k]? with
  |some (.ins c' fs)=>if c'=c then À fs else Á
  |_=>Á
 |_=>Á
theorem ox(h:KVR mg P H φ fs ws)(f:Ì):(fs.lookup f=Á->ws.lookup f=Á)/\∀v,fs.lookup f=À v->∃w,ws.lookup f=À w/\RA mg P H φ v w:=by
 induction fs generalizing ws with
 |nil =>
  have:ws=[]:=by simpa using h.1.symm
  subst this;exact⟨fun _=>rfl,fun v e=>by cases e⟩
 |cons p fs k =>
  cases ws with
  |nil=>exact absurd h.1 (by simp)
  |cons q ws =>
   obtain⟨j,g⟩:=h;rw[zO,zO]at j g;injection j with h3 h4;simp only[Og]at g;obtain⟨v,n,m,i,l⟩:=g;injection m with h8 h9;subst h8;subst h9;obtain⟨a,b⟩:=p;obtain⟨c,d⟩:=q;dsimp only at h3 i;subst h3;rw[yO,yO];cases o:f==a with
   |true=>exact⟨fun z=>(by cases z),fun v z=>(by cases z;exact⟨d,rfl,i⟩)⟩
   |false=>exact k ⟨h4,l⟩
theorem nO[Od]{mg:Gm}{P:Pr}{φ:List Ç}{st:aa}{H:Hp}{c:Ì}{v:AV}{w:V}{fs:List (Ì×AV)}(s:Sim mg P φ st H)(h:jE st c v=À fs)(r:RA mg P H φ v w) :
  ∃k a C dx ws,v=.ref k/\φ[k]?=À a/\¬P a/\w=.ref a/\mg.mg c=À (.ref C)/\H a=À (.ins C dx ws)/\KVR mg P H φ fs ws:=by
 cases v with
 |ref k =>
  simp only[jE]at h;split at h
  ·rename_i o m f
   split at h
   ·rename_i g
    cases h;subst g;simp only[RA]at r;obtain⟨a,d,rfl⟩:=r;obtain⟨p,b,n⟩:=s.at f;rw[d]at b;cases b;obtain⟨e,C,dx,ws,l,j,i⟩:=n;exact⟨k,a,C,dx,ws,rfl,d,e,rfl,l,j,i⟩
   ·cases h
  ·cases h
 |_=>cases h
def CP(c m:Ì)(fn:Fn)(h:EF)(g:AF):EF:=fun a b=>(h a b).bind fun p=>(jE p.2 c p.1).bind fun fs=>if(fs.lookup m).isNone=Â then(g a p.2).bind fun q=>fn (p.1::q.1) q.2 else Á
theorem GS[Od]{n:Nat}(K:mg.mg c=À (.ref C))(I:∀sl st xs st',g sl st=À (xs,st')->xs.length+1=n)(q:rE mg (CP c m fn h g) σ H Q):vG C m (dM mg n fn) [] E (rE mg h) (rA mg g) σ H Q:=by
 refine e7 q fun P φ sl st o s G=>?_
 obtain⟨v,st',e,k⟩:=G;obtain⟨p,T,S⟩:=zA e;obtain⟨fs,R,i⟩:=zA S;split at i
 ·rename_i J
  obtain⟨q,x,O⟩:=zA i;refine i7 o s ⟨p.1,p.2,T,fun Y f H1 w u l r1=>?_⟩;obtain⟨j,a,C',U,y,h1,h2,h3,rfl,r,M,L⟩:=nO l R r1;rw[K]at r;cases r;refine⟨a,U,y,rfl,M,(ox L m).1 (by simpa using J),Y,f,sl,p.2,o.frm u,l,q.1,q.2,x,fun X d H2 A t D r2=>?_⟩;show dM mg n fn (V.ref a::(A++[])) H2 Q E;rw[ò];exact⟨by rw[yY,<- r2.length];exact I _ _ _ _ x,X,d,p.1::q.1,q.2,aX (r1.frm t) r2,D,v,st',O,fun W b Z z N B F=>k W b Z z ((u.trans t).trans N) B F⟩
 ·cases i
theorem DG[Od](i:QE X o h)(cl:Cls X.K C)(r:X.mg c=À (.ref C))(l:kP X.K C m f)(F:FnOk X.prog X.w X.K X.mg X.base fx k f fd ps (dM X.gm ps.length fn))(d:Room k X.A)(n:Binds X.K fd ps [])
  (p:QA X (e::es) g) (j:∀sl st xs st',g sl st=À (xs,st')->xs.length+1=ps.length) (a:Ê (e::es) X.env=(Ä,eval e X.env)::Ê es X.env) (hpl:(ø pos (Ê es X.env)).any (·.1)=Ä)
  (b:eval (.Call (.Attribute o m apos) (e::es) [] pos) X.env=(do
   let ov <- eval o X.env
   ő apos.atName
   let(f,first) <- holding [ov] (ŝ ov m pl)
   Ţ pos f first (ø pos (Ê (e::es) X.env)) (Ń pos (Ĕ [] X.env)))):QE X (.Call (.Attribute o m apos) (e::es) [] pos) (CP c m fn h g) :=
 PE_imp (DZ (E:=E0) i cl l F d n .nil oi p a hpl b) fun _ _ _ q=>GS r j q
theorem AD[Od](J:QE X o h)(cl:Cls X.K C)(N:X.mg c=À (.ref C))(L:kP X.K C m f)(F:FnOk X.prog X.w X.K X.mg X.base fx k f fd ps (dM X.gm ps.length fn))(I:Room k X.A)(M:Binds X.K fd ps [])
  (K:ps.length=1)
  (G:eval (.Call (.Attribute o m apos) [] [] pos) X.env=(do
   let ov <- eval o X.env
   ő apos.atName
   let(f,first) <- holding [ov] (ŝ ov m pl)
   Ţ pos f first (ø pos (Ê [] X.env)) (Ń pos (Ĕ [] X.env)))):QE X (.Call (.Attribute o m apos) [] [] pos) (CP c m fn h fG) :=
 PE_imp (AS (E:=E0) J cl L F I M .nil oi G) fun σ H Q q=>by
  obtain⟨P,φ,x,t,B,s,v,b,e,k⟩:=GS (E:=E0) (C:=C) N (g:=fG) (n:=1) (fun x t l b e=>by cases e;rfl) q;refine i7 B s ⟨v,b,e,fun Z i j w U z r1=>?_⟩;obtain⟨a,W,fs,T,S,R,O⟩:=k Z i j w U z r1;refine⟨a,W,fs,T,S,R,?_⟩;obtain⟨Y,d,u,r,A,y,l,p,V,D⟩:=O;cases V
  have:=D Y d j [] Frm.refl y bn
  rw[K];exact this
def zr(c:Ì)(fn:Fn)(g:AF):EF:=fun b a=>(g b a).bind fun p=>(fn (.ref p.2.length::p.1) (p.2++[.ins c []])).bind fun q=>match q.1 with
 |.non=>À (.ref p.2.length,q.2)
 |_=>Á
theorem Eh[Od]{mg:Gm}{P:Pr}{φ:List Ç}{st:aa}{H:Hp}{c:Ì}{C x b:Ç}(s:Sim mg P φ st H)(m:mg.mg c=À (.ref C))(l:H x=Á)(hd:H b=Á)(ne:b≠x) :
  Frm P φ H P (φ++[x]) (ah (ah H b (.own x)) x (.ins C b []))/\Sim mg P (φ++[x]) (st++[.ins c []]) (ah (ah H b (.own x)) x (.ins C b [])):=by
 have f:∀a,H a≠Á->a≠b:=fun a h e=>h (by rw[e];exact hd)
 have g:Frm P φ H P φ (ah H b (.own x)):=⟨fun a h=>⟨h,ad (f a (s.dom a h))⟩,⟨[],by simp,by simp⟩,fun a h _ _=>ad (f a h),fun a h=>.inl h,fun a h=>by rw[ad (f a h)];exact h,fun a o u h=>by rw[ad (aY h hd)];exact h⟩;have i:Sim mg P φ st (ah H b (.own x)):=s.stay g.ext (fun a h=>ad (f a (s.cd a h))) (fun _ _ h=>h) (fun a h=>g.sm a (s.dom a h)) fun t j=>⟨(s.tb t j).1.new hd,(s.tb t j).2⟩
 have d:ah H b (.own x) x=Á:=by rw[ad (ã ne)];exact l
 obtain⟨n,k⟩:=nJ (c:=.ins c []) (o:=.ins C b []) i d ⟨fun z=>i.dom x z d,C,b,[],m,ay,rfl,bn⟩;exact⟨g.trans n,k⟩
theorem LK[Od]{mg:Gm}{c:Ì}{C:Ç}{n:Nat}{E:XK}{σ:St}{H:Hp}{Q:VK}(D:mg.mg c=À (.ref C))(B:∀sl st xs st',g sl st=À (xs,st')->xs.length+1=n)(q:rE mg (zr c fn g) σ H Q):B4 C (dM mg n fn) [] E (rA mg g) σ H Q:=by
 refine e7 q fun P M sl st y s z=>?_
 obtain⟨v,st',e,k⟩:=z;obtain⟨p,m,I⟩:=zA e;obtain⟨q,G,b⟩:=zA I;refine i7 y s ⟨p.1,p.2,m,fun r a L N F h r1=>fun x o A hd ne=>?_⟩;obtain⟨l,u⟩:=Eh h D A hd ne;have rx:RA mg r (ah (ah L o (.own x)) x (.ins C o [])) (a++[x]) (.ref p.2.length) (.ref x):=by simp only[RA];exact⟨x,by rw[<- h.len];simp,rfl⟩
 rw[ò];refine⟨by rw[yY,<- r1.length];exact B _ _ _ _ m,r,a++[x],_,_,aX rx (r1.frm l),u,q.1,q.2,G,fun J d K w j t f=>?_⟩;cases i:q.1 with
 |non =>
  rw[i]at b f;cases b;simp only[RA]at f;exact⟨f,k J d K (.ref x) ((F.trans l).trans j) t (rx.frm j)⟩
 |_=>rw[i]at b;cases b
theorem FZ[Od](M:Mk X.K C f)(F:FnOk X.prog X.w X.K X.mg X.base fx k f fd ps (dM X.gm ps.length fn))(d:Room (k+1) X.A)(i:Gl X c)(b:X.mg c=À (.ref C))(j:Binds X.K fd ps [])
  (l:QA X (e::es) g) (h:∀sl st xs st',g sl st=À (xs,st')->xs.length+1=ps.length) (a:(c==("__debug__":Ì))=Ä) (he:Ê (e::es) X.env=(Ä,eval e X.env)::Ê es X.env) (hpl:(ø pos (Ê es X.env)).any (·.1)=Ä) :
  QE X (.Call (.Name c p) (e::es) [] pos) (zr c fn g):=PE_imp (D0 (E:=E0) M F d i b j .nil oi l a he hpl) fun _ _ _ q=>LK b h q
def KZ(c fl:Ì)(h:EF):EF:=fun b a=>(h b a).bind fun p=>(jE p.2 c p.1).bind fun fs=>(fs.lookup fl).map fun v=>(v,p.2)
theorem F0[Od](y:QE X o h)(cl:Cls X.K C)(A:X.mg c=À (.ref C))(u:NoAttr X.K C fl)(z:ę o fl X.env (eval o X.env)=eval o X.env):QE X (.Attribute o fl apos) (KZ c fl h) :=
 PE_imp (Gr y z) fun S H Q f=>by
  refine e7 f fun P R U T q s r=>?_
  obtain⟨v,n,e,k⟩:=r;obtain⟨p,L,K⟩:=zA e;obtain⟨fs,J,I⟩:=zA K;obtain⟨t,G,F⟩:=zE.mp I;cases F;refine i7 q s ⟨p.1,p.2,L,fun N b O w E g r1=>?_⟩;obtain⟨j,a,l,M,m,Y,W,V,rfl,i,D,B⟩:=nO g J r1;have:l=C:=by rw[show X.gm.mg c=X.mg c from rfl,A]at i;cases i;rfl
  subst this;obtain⟨w,x,d⟩:=(ox B fl).2 _ G;exact⟨a,l,M,m,w,rfl,D,cl,u,x,k N b O w E g d⟩
noncomputable def jj(f:Ì)(v:AV):List (Ì×AV)->List (Ì×AV)
 |[]=>[(f,v)]
 |(g,x)::r=>if g=f then(g,v)::r else(g,x)::jj f v r
theorem xt{mg:Gm}{P:Pr}{H:Hp}{φ:List Ç}{f:Ì}{v:AV}{w:V}(r:RA mg P H φ v w):∀{fs:List (Ì×AV)}{ws:List (Ì×V)},KVR mg P H φ fs ws->KVR mg P H φ (jj f v fs) (d5 f w ws):=by
 intro fs
 induction fs with
 |nil =>
  intro ws h;have:ws=[]:=by simpa using h.1.symm
  subst this;exact⟨rfl,aX r bn⟩
 |cons p fs m =>
  intro ws h;cases ws with
  |nil=>exact absurd h.1 (by simp)
  |cons q ws =>
   obtain⟨l,g⟩:=h;rw[zO,zO]at l g;injection l with h3 h4;simp only[Og]at g;obtain⟨u,o,n,k,j⟩:=g;injection n with h8 h9;subst h8;subst h9;obtain⟨a,b⟩:=p;obtain⟨c,d⟩:=q;dsimp only at h3 k;subst h3;have i:=m (ws:=ws) ⟨h4,j⟩;unfold jj d5;by_cases e:a=f
   ·rw[yI e,yI e]
    exact⟨by rw[zO,zO,h4],aX r j⟩
   ·rw[yH e,yH e]
    exact⟨by rw[zO,zO,i.1],aX k i.2⟩
def xj(c fl:Ì)(h f:EF):SF:=fun a b=>(f a b).bind fun p=>(h a p.2).bind fun q=>match q.1 with
 |.ref k=>(jE q.2 c (.ref k)).bind fun fs=>if Þ fs.length 900=Â then À (.nx a (q.2.set k (.ins c (jj fl p.1 fs)))) else Á
 |_=>Á
theorem FM[Od](S:QE X o h)(Q:QE X e f')(cl:Cls X.K C)(y:X.mg c=À (.ref C))(N:NoAttr X.K C fl)(R:ķ e (À (.Attribute o fl pos')) pos.line X.env=pure Ä):QS X (.Assign [.Attribute o fl pos'] e pos) (xj c fl h f') :=
 PS_imp (F9 S Q R) fun D G H l=>by
  refine e7 l fun P φ J st k s M=>?_
  obtain⟨out,Y,q⟩:=M;obtain⟨p,e1,e2⟩:=zA Y;obtain⟨r,e3,v⟩:=zA e2;split at v
  ·rename_i j U
   obtain⟨fs,Z,u⟩:=zA v;split at u
   ·rename_i T
    cases u;refine i7 k s ⟨p.1,p.2,e1,fun P1 g H1 I t L r1=>⟨P1,g,J,p.2,k.frm t,L,r.1,r.2,e3,fun P2 f H2 w2 n x r2=>?_⟩⟩;rw[U]at r2;obtain⟨j',a,d,w,i,W,V,m,rfl,E,B,A⟩:=nO x Z r2;cases W;have:d=C:=by rw[show X.gm.mg c=X.mg c from rfl,y]at E;cases E;rfl
    subst this;have O:i.length<1000:=by
     have z:=congrArg ň A.1;rw[zH,zH]at z
     have:=zS T
     lia
    obtain⟨F,K⟩:=iP (c:=.ins c (jj fl p.1 fs)) (o:=.ins d w (d5 fl I i)) x V m ⟨m,d,w,_,y,ay,(xt (r1.frm n) A).mono (fun b h=>⟨h,ad fun e=>m (e▸h)⟩) fun _ _ z=>z⟩ (fun _ _ z=>by rw[B]at z;cases z);exact⟨a,d,w,i,rfl,B,cl,N,O,q P2 f _ G ((t.trans n).trans F) K (((k.frm t).frm n).frm F)⟩
   ·cases u
  ·cases v
end
open DD (obj_list obj_tup minL minL_eq cnt_vals)
abbrev BF:=List AV->aa->Option (AV×aa)
def rB[Od](mg:Gm)(k:BF):List V->Hp->VK->Prop:=fun d H Q=>∃P a c b,Sim mg P a c H/\Og mg P H a b d/\KG mg RA P a H (k b c) Q
def tU(k:BF)(g:AF):EF:=fun b a=>(g b a).bind fun p=>k p.1 p.2
theorem BN[Od](q:rE mg (tU k g) σ H Q):Ff (rB mg k) (rA mg g) σ H Q:=by
 refine e7 q fun P v x w l s m=>?_
 refine i7 l s ?_;obtain⟨a,f,p,q⟩:=m.bind (Ra:=Og);refine⟨a,f,p,fun t d u b o j r1=>?_⟩;obtain⟨r,c,e,h,y,i,r2,n⟩:=q t d u b o j r1;exact⟨r,c,e,h,i,r2,n⟩
def bM(h:aa->List AV->Option AV):BF:=fun b a=>(h a b).map fun z=>(z,a)
section
variable{X:Cx}{x:Ì}{p pos:ġ}{e o a:Î}{es:List Î}{g:AF}{k:BF}{bid T:String}
theorem oh[Od](h:cM X (.builtin bid) (rB X.gm k))(f:Gl X x)(d:X.mg x=Á)(b:â x=À (.builtin bid))(i:QA X (e::es) g)(c:x≠"__name__")(a:(x==("__debug__":Ì))=Ä)
  (he:Ê (e::es) X.env=(Ä,eval e X.env)::Ê es X.env) (hpl:(ø pos (Ê es X.env)).any (·.1)=Ä):QE X (.Call (.Name x p) (e::es) [] pos) (tU k g) :=
 PE_imp (AX h f d b i c a he hpl) fun _ _ _ q=>BN q
theorem Ci[Od](h:cM X (.type T) (rB X.gm k))(f:Gl X x)(d:X.mg x=Á)(b:â x=À (.type T))(i:QA X (e::es) g)(c:x≠"__name__")(a:(x==("__debug__":Ì))=Ä)
  (he:Ê (e::es) X.env=(Ä,eval e X.env)::Ê es X.env) (hpl:(ø pos (Ê es X.env)).any (·.1)=Ä):QE X (.Call (.Name x p) (e::es) [] pos) (tU k g) :=
 PE_imp (qg h f d b i c a he hpl) fun _ _ _ q=>BN q
theorem Og.one{mg:Gm}{P:Pr}{H:Hp}{φ:List Ç}{x:AV}{vs:List V}(h:Og mg P H φ [x] vs):∃v,vs=[v]/\RA mg P H φ x v:=by
 simp only[Og]at h;obtain⟨v,a,rfl,r,rfl⟩:=h;exact⟨v,rfl,r⟩
theorem Og.two{mg:Gm}{P:Pr}{H:Hp}{φ:List Ç}{x y:AV}{vs:List V}(h:Og mg P H φ [x,y] vs):∃v w,vs=[v,w]/\RA mg P H φ x v/\RA mg P H φ y w:=by
 simp only[Og]at h;obtain⟨v,b,rfl,r,w,c,rfl,a,rfl⟩:=h;exact⟨v,w,rfl,r,a⟩
theorem pC(h:cM X f r)(i:∀xs H Q,r' xs H Q->r xs H Q):cM X f r':=fun e s a H xs b Q I c d=>h e s a H xs b Q I c (i xs H Q d)
def eV(st:aa):List AV->Option AV
 |[v]=>match bQ st v with
  |some xs=>À (.int xs.length)
  |none=>match ji st v with
   |some xs=>À (.int xs.length)
   |none=>match v with
    |.str x=>if cw x.length=Â then À (.int x.length) else Á
    |v=>match ja st v with
     |some Oc=>À (.int Oc.length)
     |none=>(lN st v).map fun Oc=>.int Oc.length
 |_=>Á
theorem wC:cM X (.builtin "len") (fun xs H Q=>∃a Oc,xs=[V.ref a]/\H a=À (.dK Oc)/\Q (.int Oc.length) H):=by
 intro k s i H xs j Q I r h;obtain⟨a,Oc,rfl,f,q⟩:=h;obtain⟨u,rfl,d⟩:=eI r;cases d;obtain⟨z,hd,c,b,g⟩:=CF I.Oi f;have e:Oc.length=c.length:=Paired.length b;have hz:Ë=16777216:=Ϗ;exact call_len_dict hd g oM ⟨.int _,H,I.tok _,⟨_,by rw[e]⟩,q⟩
theorem JY[Od]:cM X (.builtin "len") (rB X.gm (bM eV)):=by
 rintro l s d H m f Q I g ⟨P,J,E,K,o,r,B⟩;obtain⟨z,e,k⟩:=B.map;clear B;unfold eV at e;split at e
 ·rename_i v
  obtain⟨w,F,A⟩:=r.one;clear r;subst F;have r:=A;clear A;have au:∀n:Nat,z=.int n->Q (.int n) H:=fun n h=>by subst h;exact k.pure o (by simp only[RA])
  split at e
  ·rename_i D u
   cases e;obtain⟨a,m,rfl,y,b⟩:=r.ls o u;exact lO l s d H _ f Q I g ⟨a,m,rfl,.inl y,by rw[<- b.length];exact au _ rfl⟩
  ·split at e
   ·rename_i D u
    cases e;obtain⟨a,m,rfl,y,b⟩:=r.tp o u;exact lO l s d H _ f Q I g ⟨a,m,rfl,.inr (.inl (.inl y)),by rw[<- b.length];exact au _ rfl⟩
   ·cases v with
    |str x =>
     dsimp only at e;split at e
     ·rename_i hz
      cases e;simp only[RA]at r;subst r;exact tM l s d H _ f Q I g ⟨x,rfl,jM hz,au _ rfl⟩
     ·cases e
    |ref j =>
     simp only[RA]at r;obtain⟨a,G,rfl⟩:=r;dsimp only[ja,lN]at e;cases t:E[j]? with
     |none=>rw[t]at e;cases e
     |some c =>
      rw[t]at e;obtain⟨L,i,C⟩:=o.at t;rw[G]at i;cases i;cases c with
      |dK Oc =>
       cases e;obtain⟨_,p,b,q⟩:=C
       have:=congrArg ň q.1
       rw[zH,zH]at this;exact wC l s d H _ f Q I g ⟨a,p,rfl,b,by rw[<- this];exact au _ rfl⟩
      |dT Oc =>
       cases e;obtain⟨_,p,b,q⟩:=C
       have:=congrArg ň q.1
       rw[zH,zH]at this;exact zj l s d H _ f Q I g ⟨a,p,rfl,b,by rw[<- this];exact au _ rfl⟩
      |_=>cases e
    |_=>cases e
 ·cases e
def mh:List AV->Option (List Int):=aR fun x=>match x with
 |.int i=>À i
 |_=>Á
theorem yk(h:mh xs=À ns):xs=ns.map .int:=by
 unfold mh at h
 induction xs generalizing ns with
 |nil=>cases h;rfl
 |cons x xs b =>
  simp only [aR] at h;obtain ⟨y,a,e⟩:=zA h;obtain ⟨f,d,c⟩:=zE.mp e;subst c;cases x <;> first | (cases a;done) | skip
  cases a;rw[b d];rfl
def lsI(st:aa)(v:AV):Option (List Int):=(bQ st v).bind mh
theorem RA.lsI[Od]{mg:Gm}{P:Pr}{H:Hp}{φ:List Ç}{st:aa}{v:AV}{w:V}{ns:List Int}(s:Sim mg P φ st H)(r:RA mg P H φ v w)(h:R.lsI st v=À ns):∃a,w=.ref a/\bR mg.K H a (ns.map .int):=by
 obtain⟨f,e,d⟩:=zA h;obtain⟨a,g,rfl,b,c⟩:=r.ls s e
 have:=yk d
 subst this;rw[c.ints]at b;exact⟨a,rfl,b⟩
def rH(st:aa):List AV->Option AV
 |[v]=>(lsI st v).map fun ns=>.int ns.sum
 |_=>Á
theorem JU[Od](t:X.calm=Â):cM X (.builtin "sum") (rB X.gm (bM rH)):=by
 rintro K s C H D E Q I m ⟨P,B,G,xs,f,r,h⟩;obtain⟨z,e,k⟩:=h.map;clear h;unfold rH at e;split at e
 ·rename_i v
  obtain⟨w,x,g⟩:=r.one;clear r;subst x;have r:=g;clear g;obtain⟨c,y,rfl⟩:=zE.mp e;obtain⟨a,rfl,A⟩:=r.lsI f y;obtain⟨u,rfl,n⟩:=eI m;cases n;obtain⟨d,o,p,_⟩:=I.list A;have j:Ÿ d c:=kx o;obtain⟨b,i⟩:=j.allInts.items;refine sum_intListG (xs:=b) (I.ok.hd t) (by rw[<- i];exact p.isList) fun J F l q=>⟨.int c.sum,H,I.kept q,?_,k.pure f (by simp only[RA])⟩
  have:(preSum (u? b) b.size)=c.sum:=by
   rw[preSum_eq,í (by simp),<- D?,<- i];rw[show d.toArray.toList=d from rfl,j.numsOf]
  rw[this];exact⟨l,rfl⟩
 ·cases e
def tT(_:aa):List AV->Option AV
 |[.int i]=>À (.int (if i<0 then -i else i))
 |_=>Á
theorem J1[Od]:cM X (.builtin "abs") (rB X.gm (bM tT)):=pC BL fun i H Q a=>by
 obtain⟨P,g,j,h,c,r,d⟩:=a;obtain⟨z,e,k⟩:=d.map;unfold tT at e;split at e
 ·cases e
  obtain⟨w,f,b⟩:=r.one;clear r;subst f;have r:=b;clear b;simp only[RA]at r;exact⟨_,by rw[r],k.pure c (by simp only[RA])⟩
 ·cases e
def pR(st:aa):List AV->Option AV
 |[.int i,.int j]=>À (.int (if j<i then j else i))
 |[v]=>(lsI st v).bind fun ns=>(minL ns).map .int
 |_=>Á
noncomputable def GT:List Int->Option Int
 |[]=>Á
 |x::xs=>À (xs.foldl (fun a b=>if a<b then b else a) x)
theorem LM:∀(xs:List Int)(x:Int),(xs.foldl (fun a b=>if a<b then b else a) x∈x::xs)/\∀a∈x::xs,a<=xs.foldl (fun a b=>if a<b then b else a) x:=by
 intro xs
 induction xs with
 |nil=>intro x;exact⟨by simp,by simp⟩
 |cons y xs f =>
  intro x;rw[Ō];obtain⟨g,e⟩:=f (if x<y then y else x);refine⟨?_,fun a c=>?_⟩
  ·rcases zT.mp g with h|h
   ·rw[h];split<;>simp
   ·exact zQ _ (zQ _ h)
  ·have d:=e _ z7
   rcases zT.mp c with rfl|c
   ·refine ľ ?_ d;split<;>lia
   ·rcases zT.mp c with rfl|c
    ·refine ľ ?_ d;split<;>lia
    ·exact e a (zQ _ c)
theorem El{m x:Int}(h:GT ns=À m)(d:x∈ns)(c:∀a∈ns,a<=x):x=m:=by
 cases ns with
 |nil=>cases h
 |cons y ns =>
  obtain⟨a,b⟩:=LM ns y;have e:ns.foldl (fun a b=>if a<b then b else a) y=m:=by injection h
  rw[e]at a b
  have:=c m a
  have:=b x d
  lia
def wd(st:aa):List AV->Option AV
 |[.int i,.int j]=>À (.int (if j > i then j else i))
 |[v]=>(lsI st v).bind fun ns=>(GT ns).map .int
 |_=>Á
theorem JW[Od](C:X.calm=Â):cM X (.builtin "min") (rB X.gm (bM pR)):=by
 rintro U s E H Y F Q I p ⟨P,V,st,xs,h,r,x⟩;obtain⟨z,e,k⟩:=x.map;clear x;unfold pR at e;split at e
 ·rename_i i j
  cases e;obtain⟨w,W,o,q,d⟩:=r.two;clear r;subst o;have r:=q;have g:=d;clear q d;simp only[RA]at r g;subst r;subst g;exact zg C U s E H _ F Q I p ⟨i,j,rfl,k.pure h (by simp only[RA])⟩
 ·rename_i v
  obtain⟨w,o,d⟩:=r.one;clear r;subst o;have r:=d;clear d;obtain⟨f,R,O⟩:=zA e;obtain⟨m,A,rfl⟩:=zE.mp O;obtain⟨a,rfl,S⟩:=r.lsI h R;obtain⟨u,rfl,G⟩:=eI p;cases G;obtain⟨T,g,J,_⟩:=I.list S;have B:Ÿ T f:=kx g;obtain⟨c,y⟩:=B.allInts.items;have b:f=c.toList.map (·.1):=by rw[<- B.numsOf,<- D?,<- y]
  have l:0<c.size:=by
   cases f with
   |nil=>cases A
   |cons n f =>
    have:(n::f).length=c.size:=by rw[b,zH,ï]
    simp at this;lia
  refine min_intList (xs:=c) (I.ok.hd C) (by rw[<- y];exact J.isList) l fun v h' Z K L=>?_
  obtain⟨t,rfl⟩:=intItems_at K;obtain⟨h1,N⟩:=argBest_lt (u? c) (c.size-1);refine⟨.int m,H,I.kept L,?_,k.pure h (by simp only[RA])⟩;have e:u? c (argBest (fun i j=>decide (u? c i<u? c j)) (c.size-1))=m:=by
   refine minL_eq A ?_ fun a D=>?_
   ·rw[b,Q8];exact getD_mem (by rw[zH,ï];lia)
   ·rw[b]at D
    obtain⟨j,M,rfl⟩:=mem_getD D;rw[zH,ï]at M;rw[<- Q8];exact N j oM
  exact⟨t,by rw[e]⟩
 ·cases e
theorem JX[Od](C:X.calm=Â):cM X (.builtin "max") (rB X.gm (bM wd)):=by
 rintro U s E H Y F Q I p ⟨P,V,st,xs,h,r,x⟩;obtain⟨z,e,k⟩:=x.map;clear x;unfold wd at e;split at e
 ·rename_i i j
  cases e;obtain⟨w,W,o,q,d⟩:=r.two;clear r;subst o;have r:=q;have g:=d;clear q d;simp only[RA]at r g;subst r;subst g;exact zh C U s E H _ F Q I p ⟨i,j,rfl,k.pure h (by simp only[RA])⟩
 ·rename_i v
  obtain⟨w,o,d⟩:=r.one;clear r;subst o;have r:=d;clear d;obtain⟨f,R,O⟩:=zA e;obtain⟨m,A,rfl⟩:=zE.mp O;obtain⟨a,rfl,S⟩:=r.lsI h R;obtain⟨u,rfl,G⟩:=eI p;cases G;obtain⟨T,g,J,_⟩:=I.list S;have B:Ÿ T f:=kx g;obtain⟨c,y⟩:=B.allInts.items;have b:f=c.toList.map (·.1):=by rw[<- B.numsOf,<- D?,<- y]
  have l:0<c.size:=by
   cases f with
   |nil=>cases A
   |cons n f =>
    have:(n::f).length=c.size:=by rw[b,zH,ï]
    simp at this;lia
  refine max_intList (xs:=c) (I.ok.hd C) (by rw[<- y];exact J.isList) l fun v h' Z K L=>?_
  obtain⟨t,rfl⟩:=intItems_at K;obtain⟨h1,N⟩:=argBest_gt (u? c) (c.size-1);refine⟨.int m,H,I.kept L,?_,k.pure h (by simp only[RA])⟩;have e:u? c (argBest (fun i j=>decide (u? c i > u? c j)) (c.size-1))=m:=by
   refine El A ?_ fun a D=>?_
   ·rw[b,Q8];exact getD_mem (by rw[zH,ï];lia)
   ·rw[b]at D
    obtain⟨j,M,rfl⟩:=mem_getD D;rw[zH,ï]at M;rw[<- Q8];exact N j oM
  exact⟨t,by rw[e]⟩
 ·cases e
def lD(_:aa):List AV->Option AV
 |[.int i]=>À (.int i)
 |[.bl b]=>À (.int (if b then 1 else 0))
 |_=>Á
theorem JZ[Od]:cM X (.type "int") (rB X.gm (bM lD)):=pC zk fun i H Q b=>by
 obtain⟨P,g,j,h,d,r,f⟩:=b;obtain⟨z,e,k⟩:=f.map;unfold lD at e;split at e
 ·cases e
  obtain⟨w,c,a⟩:=r.one;clear r;subst c;have r:=a;clear a;simp only[RA]at r;exact .inl ⟨_,by rw[r],k.pure d (by simp only[RA])⟩
 ·cases e
  obtain⟨w,c,a⟩:=r.one;clear r;subst c;have r:=a;clear a;simp only[RA]at r;exact .inr ⟨_,by rw[r],k.pure d (by simp only[RA])⟩
 ·cases e
end
open DD (reads_each)
abbrev MF:=AV->List AV->aa->Option (AV×aa)
def rM[Od](mg:Gm)(k:MF):V->List V->Hp->VK->Prop:=fun x e H Q=>∃P b d a c,Sim mg P b d H/\RA mg P H b a x/\Og mg P H b c e/\KG mg RA P b H (k a c d) Q
def rF(T:String)(st:aa)(v:AV):Bool:=match v with
 |.str _=>T=="str"
 |.int _=>T=="int"
 |v=>if T="list" then(bQ st v).isSome else if T="dict" then(ja st v).isSome||(lN st v).isSome else Ä
def nk(T:String)(k:MF)(f:EF)(g:AF):EF:=fun a b=>(f a b).bind fun p=>if rF T p.2 p.1=Â then(g a p.2).bind fun q=>k p.1 q.1 q.2 else Á
section
variable{X:Cx}{e o:Î}{es:List Î}{f:EF}{g:AF}{k:MF}{name:Ì}{apos cpos:ġ}{T mid:String}
theorem C7[Od]{P:Pr}{φ:List Ç}{st:aa}{H:Hp}{v:AV}{w:V}(s:Sim X.gm P φ st H)(r:RA X.gm P H φ v w)(h:rF T st v=Â):wR X.K T w H:=by
 have k:(if T="list" then(bQ st v).isSome else if T="dict" then(ja st v).isSome||(lN st v).isSome else Ä)=Â->wR X.K T w H:=fun h=>by
  split at h
  ·rename_i d
   obtain⟨p,e⟩:=Č.mp h;obtain⟨a,m,rfl,o,_⟩:=r.ls s e;exact .inl ⟨d,m,o⟩
  ·split at h
   ·rename_i d
    cases v with
    |ref j =>
     simp only[RA]at r;obtain⟨a,n,rfl⟩:=r;simp only[ja,lN]at h;cases i:st[j]? with
     |none=>rw[i]at h;simp at h
     |some c =>
      rw[i]at h;obtain⟨q,b,l⟩:=s.at i;rw[n]at b;cases b;cases c with
      |dK Oc=>obtain⟨_,f,g,_⟩:=l;exact .inr (.inr (.inl ⟨d,.inl ⟨f,g⟩⟩))
      |dT Oc=>obtain⟨_,f,g,_⟩:=l;exact .inr (.inr (.inl ⟨d,.inr ⟨f,g⟩⟩))
      |_=>simp at h
    |_=>simp[ja,lN]at h
   ·cases h
 unfold rF at h;cases v with
 |str x=>simp only[RA]at r;subst r;exact yK h
 |int x=>simp only[RA]at r;subst r;exact yK h
 |_=>exact k h
theorem GM[Od](q:rE X.gm (nk T k f g) σ H Q):Kl X.K T (rM X.gm k) (rE X.gm f) (rA X.gm g) σ H Q:=by
 refine e7 q fun P J n L i s x=>?_
 obtain⟨v,d,ev,y⟩:=x;obtain⟨p,D,e⟩:=zA ev;split at e
 ·rename_i z
  obtain⟨r,C,B⟩:=zA e;exact i7 i s ⟨p.1,p.2,D,fun G c N w l h r1=>⟨C7 h r1 z,G,c,n,p.2,i.frm l,h,r.1,r.2,C,fun F b M K j t r2=>⟨F,b,r.2,p.1,r.1,t,r1.frm j,r2,v,d,B,fun E a I m A o u=>y E a I m ((l.trans j).trans A) o u⟩⟩⟩
 ·cases e
theorem og[Od](j:y? T)(d:Slot T name mid)(i:typeOf (.builtin mid)=pure (.type "method_descriptor"))(n:lT X mid (rM X.gm k))(m:QE X o f)(p:QA X (e::es) g)
  (c:ę o name X.env (eval o X.env)=eval o X.env)
  (h:((ø cpos (Ê (e::es) X.env)).all (fun x=>!x.1)&&(Ń cpos (Ĕ [] X.env)).all (fun x=>x.1.isSome)
   && decide ((e::es).length+([]:List ń).length+(if([]:List ń).isEmpty then 0 else 1)<30))=Â)
  (b:(apos.endLine==cpos.line)=Â) (l:Ê (e::es) X.env=(Ä,eval e X.env)::Ê es X.env) (a:(ø cpos (Ê es X.env)).any (·.1)=Ä) :
  QE X (.Call (.Attribute o name apos) (e::es) [] cpos) (nk T k f g):=PE_imp (Jc j d i n m p c h b l a) fun _ _ _ q=>GM q
theorem lm[Od](u:y? T)(c:Slot T name mid)(h:typeOf (.builtin mid)=pure (.type "method_descriptor"))(A:lT X mid (rM X.gm k))(z:QE X o f)
  (b:ę o name X.env (eval o X.env)=eval o X.env) (a:(apos.endLine==cpos.line)=Â):QE X (.Call (.Attribute o name apos) [] [] cpos) (nk T k f fG) :=
 PE_imp (Gs u c h A z b a) fun I H Q q=>by
  obtain⟨P,G,L,K,t,s,v,g,ev,x⟩:=GM q;refine i7 t s ⟨v,g,ev,fun F e i w C p r1=>?_⟩;obtain⟨B,E,d,m,l,r,n,J,j,D,y⟩:=x F e i w C p r1;cases D;exact⟨B,y E d i [] Frm.refl n bn⟩
theorem kO(h:lT X mid r)(i:∀x xs H Q,r' x xs H Q->r x xs H Q):lT X mid r':=fun e s a H x xs v b Q I rx c d=>h e s a H x xs v b Q I rx c (i x xs H Q d)
def g9(st:aa):AV->Option (Nat×List AV)
 |.ref k=>match st[k]? with
  |some (.lst xs)=>À (k,xs)
  |_=>Á
 |_=>Á
theorem jw[Od]{mg:Gm}{P:Pr}{φ:List Ç}{st:aa}{H:Hp}{v:AV}{w:V}{j:Nat}{xs:List AV}(s:Sim mg P φ st H)(r:RA mg P H φ v w)(h:g9 st v=À (j,xs)):∃a vs,w=.ref a/\φ[j]?=À a/\¬P a/\H a=À (.lst vs)/\Og mg P H φ xs vs:=by
 cases v with
 |ref i =>
  simp only[g9]at h;split at h
  ·rename_i k e
   cases h;simp only[RA]at r;obtain⟨a,c,rfl⟩:=r;obtain⟨l,b,d,vs,g,f⟩:=s.at e;rw[c]at b;cases b;exact⟨a,vs,rfl,c,d,g,f⟩
  ·cases h
 |_=>cases h
theorem lX[Od]{mg:Gm}{P:Pr}{φ:List Ç}{st:aa}{H:Hp}{j:Nat}{a:Ç}{ys:List AV}{us:List V}(s:Sim mg P φ st H)(k:φ[j]?=À a)(d:¬P a)(g:∃vs,H a=À (.lst vs))(r:Og mg P H φ ys us) :
  Frm P φ H P φ (ah H a (.lst us))/\Sim mg P φ (st.set j (.lst ys)) (ah H a (.lst us))/\∀{t:AV}{w:V},RA mg P H φ t w->RA mg P (ah H a (.lst us)) φ t w:=by
 have ex:∀b,P b->P b/\ah H a (.lst us) b=H b:=fun b h=>⟨h,ad fun e=>d (e▸h)⟩
 obtain⟨i,f⟩:=iP (c:=.lst ys) (o:=.lst us) s k d ⟨d,us,ay,r.mono ex fun _ _ z=>z⟩ (fun _ _ z=>by obtain⟨vs,q⟩:=g;rw[q]at z;cases z);exact⟨i,f,fun h=>h.mono ex fun _ _ z=>z⟩
def sF:MF:=fun x b a=>match b with
 |[y]=>(g9 a x).bind fun c=>if cw c.2.length=Â then À (.non,a.set c.1 (.lst (c.2++[y]))) else Á
 |_=>Á
theorem Iu{n:Nat}(h:cw n=Â):n<Ë:=yM (zS h) dC
theorem Ct[Od]:lT X "list.append" (rM X.gm sF):=kO qj fun x z H Q d=>by
 obtain⟨P,i,A,a,u,s,r,m,v,k,e,o⟩:=d;unfold sF at e;split at e
 ·rename_i y
  obtain⟨c,t,f⟩:=zA e;split at f
  ·rename_i hz
   cases f;obtain⟨b,j,rfl,q,n,h,g⟩:=jw s r t;obtain⟨w,rfl,r1⟩:=m.one;obtain⟨p,l,_⟩:=lX s q n ⟨_,h⟩ (g.app (aX r1 bn));exact⟨b,j,w,rfl,rfl,h,by rw[<- g.length];exact Iu hz,o P i _ _ p l (by simp only[RA])⟩
  ·cases f
 ·cases e
def wj:MF:=fun x b a=>match b with
 |[]=>(g9 a x).bind fun c=>(c.2[c.2.length-1]?).map fun y=>(y,a.set c.1 (.lst c.2.dropLast))
 |_=>Á
theorem Og.dropLast(h:Og mg P H φ xs vs):Og mg P H φ xs.dropLast vs.dropLast:=by
 rw[A?,A?,h.length];exact h.take _
theorem Cp[Od]:lT X "list.pop" (rM X.gm wj):=kO GN fun x E H Q d=>by
 obtain⟨P,i,F,a,D,s,r,g,v,k,e,p⟩:=d;unfold wj at e;split at e
 ·obtain⟨c,C,B⟩:=zA e
  obtain⟨y,A,z⟩:=zE.mp B;cases z;obtain⟨b,j,rfl,t,n,h,f⟩:=jw s r C;simp only[Og]at g;obtain⟨w,u,m⟩:=f.get A;obtain⟨q,l,o⟩:=lX s t n ⟨_,h⟩ f.dropLast;exact⟨b,j,w,rfl,g,h,by rw[<- f.length];exact u,p P i _ _ q l (o m)⟩
 ·cases e
def wl:MF:=fun x d a=>match d with
 |[y]=>(g9 a x).bind fun c=>(bQ a y).bind fun b=>if cw (c.2.length+b.length)=Â then À (.non,a.set c.1 (.lst (c.2++b))) else Á
 |_=>Á
theorem Cq[Od]:lT X "list.extend" (rM X.gm wl):=kO Ek fun x G H Q f=>by
 obtain⟨P,k,I,a,F,s,r,o,v,m,e,q⟩:=f;unfold wl at e;split at e
 ·rename_i y
  obtain⟨c,B,A⟩:=zA e;obtain⟨E,z,g⟩:=zA A;split at g
  ·rename_i hz
   cases g;obtain⟨b,l,rfl,u,p,j,i⟩:=jw s r B;obtain⟨w,rfl,r1⟩:=o.one;obtain⟨D,d,rfl,C,h⟩:=r1.ls s z;obtain⟨t,n,_⟩:=lX s u p ⟨_,j⟩ (i.app h);exact⟨b,D,l,d,rfl,rfl,j,C,by rw[<- i.length,<- h.length];exact jM hz,q P k _ _ t n (by simp only[RA])⟩
  ·cases g
 ·cases e
def Bf:MF:=fun x b a=>match b with
 |[]=>(g9 a x).map fun c=>(.non,a.set c.1 (.lst []))
 |_=>Á
theorem Cs[Od]:lT X "list.clear" (rM X.gm Bf):=kO A8 fun x u H Q d=>by
 obtain⟨P,h,w,a,t,s,r,f,v,j,e,m⟩:=d;unfold Bf at e;split at e
 ·obtain⟨c,q,p⟩:=zE.mp e
  cases p;obtain⟨b,i,rfl,o,l,g,y⟩:=jw s r q;simp only[Og]at f;obtain⟨n,k,_⟩:=lX s o l ⟨_,g⟩ bn;exact⟨b,i,rfl,f,g,m P h _ _ n k (by simp only[RA])⟩
 ·cases e
def Be:MF:=fun x b a=>match b with
 |[y]=>(aQ 9 a x).bind fun p=>(aQ 9 a y).bind fun q=>match p with
  |.list ps=>if(ps.all fun r=>pyOk r q)=Â then À (.int ((ps.countP fun r=>Ö r q:Nat):Int),a) else Á
  |_=>Á
 |_=>Á
theorem Cr[Od](hu:X.A.units+64<ŋ):lT X "list.count" (rM X.gm Be):=by
 rintro Oa s σ H x vs v us Q I rx l ⟨P,E,st,a,F,k,r,K,z,G,e,T⟩;unfold Be at e;split at e
 ·rename_i y
  obtain⟨p,Z,Y⟩:=zA e;obtain⟨q,W,g⟩:=zA Y;split at g
  ·rename_i ps
   split at g
   ·rename_i Oi
    cases g;obtain⟨w,rfl,r1⟩:=K.one;obtain⟨u,rfl,J⟩:=l.one;obtain⟨b,M⟩:=gD I k 9 _ _ _ _ r Z rx;obtain⟨bs,L⟩:=gD I k 9 _ _ _ _ r1 W J;cases M with
    |@list a o items n F i hg j hdt rall =>
     obtain⟨S,A,R,t⟩:=o;dsimp only at j hdt;subst j;subst hdt
     classical
     have C:∀z f c,Ŭ s.heap z f c->decide (∃p b,Ŭ s.heap z p b/\Ö p q=Â)=Ö f q:=by
      intro z f c d;rcases he:Ö f q with _|_
      ·refine yA ?_
       rintro⟨O,i,N,D⟩
       have:=(b! d O i N).1
       rw[<- this,he]at D;cases D
      ·exact yW ⟨f,c,d,he⟩
     refine ŏ Ś ⟨_,hg,rfl⟩ PySem.F.entry_list_count (PySem.F.args_list_count_2 _ _) (PySem.SeqAt.list_countAt a items n A t u (fun z=>decide (∃p b,Ŭ s.heap z p b/\Ö p q=Â))) ⟨hg,?_,?_⟩
     ·intro z hz
      obtain⟨m,c,B,d⟩:=reads_each rall z (by simpa using hz);obtain⟨V,U,k3⟩:=pO (yR.mp Oi m B);rw[C z m c d];exact Ϥ m q _ s z u c bs d L V U (by simp only[Around.in1_units];lia)
     ·have j:=cnt_vals (q:=q) (e:=fun z=>decide (∃p b,Ŭ s.heap z p b/\Ö p q=Â)) (h:=s.heap) (vs:=items.toList) (ps:=ps) (fun v p b l=>C v p b l) rall
      rw[j];exact⟨.int _,H,I.kept (fun _ _ e=>e),⟨_,rfl⟩,T P E H _ Frm.refl k (by simp only[RA])⟩
   ·cases g
  ·cases g
 ·cases e
def K0(t:Bool):EF:=fun _ a=>À (.ref a.length,a++[if t=Â then .dT [] else .dK []])
theorem DH[Od](i:PE X (.Dict [] [] pos) xb):QE X (.Dict [] [] pos) (K0 Ä):=PE_imp i fun l H Q a=>by
 refine e7 a fun P k n m p s g=>?_
 obtain⟨v,b,e,h⟩:=g;cases e;intro d hd;obtain⟨j,f⟩:=nJ (c:=.dK []) (o:=.dK []) s hd ⟨fun z=>s.dom d z hd,[],ay,rfl,bn⟩;refine h P _ _ _ j f ?_;simp only[RA];exact⟨d,by rw[<- s.len];simp,rfl⟩
end
theorem tO:â "min"=À (.builtin "min"):=by decide +kernel
def Ba(ns:List Int):AV:=match minL ns with
 |some m=>.int m
 |none=>.non
def oq(st:aa):List AV->Option AV
 |[v]=>(lsI st v).map Ba
 |_=>Á
theorem GQ(a:Å):x? "min" ⟨[a],[(ù "default",.none)]⟩:=by unfold x?;kernel_rfl
theorem GP(a v:Å):x? "min" ⟨[a],[(ù "key",v),(ù "default",.none)]⟩:=by unfold x?;kernel_rfl
theorem GR{α:Type}{l:List α}{x:α}(h:x∈l):∃i:Nat,l[i]?=À x:=z9 h
section
variable{X:Cx}{a:Î}{f:EF}{p pos kp pc:ġ}{j:Nat}
theorem DF[Od](N:X.calm=Â)(M:Gl X "min")(K:X.mg "min"=Á)(O:QE X a f)(q:Ê [a] X.env=[(Ä,eval a X.env)]) :
  QE X (.Call (.Name "min" p) [a] [⟨À "default",.Constant .none j pc,kp⟩] pos) (tU (bM oq) (fR f fG)):=by
 intro T s D H Q I h;have t:=BN h;refine ú (dQ I M K tO (callWith_kw (aD ((c7 O fJ (by rw[q];rfl)) pos T s D H _ I t) fun us s1 ⟨Z,V,U,r1,F⟩=>?_) (by rw[q];rfl) (by rw[q];rfl) (by rfl) (by rfl)));refine kws_cons (H? (kws_nil ?_));obtain⟨P,W,st,Y,o,r,G⟩:=F;obtain⟨z,e,k⟩:=G.map;unfold oq at e;split at e
 ·rename_i v
  obtain⟨w,rfl,E⟩:=r.one;obtain⟨ns,S,C⟩:=zE.mp e;obtain⟨l,rfl,L⟩:=E.lsI o S;obtain⟨u,rfl,A⟩:=eI r1;cases A;refine sA (ko:=Á) (ns:=ns) (I.ok.hd N) (fun i=>ns.getD i 0) (fun _ H=>H=V) (fun i H e=>by rw[e];exact L) rfl (GQ _) (fun i n u pl s H c A y I=>.inl ⟨rfl,by simp[c],y⟩) (fun i n H c d y=>?_) (fun c=>?_) U rfl
  ·subst y
   have:minL ns=À n:=by
    cases B:minL ns with
    |none =>
     cases ns with
     |nil=>simp at c
     |cons _ _=>cases B
    |some m =>
     rw[minL_eq B (zW c) fun b t=>?_];obtain⟨J,g⟩:=GR t;have R:=(d J (zB.mp g).1).1;simpa [c,g] using R
   have x:z=.int n:=by rw[<- C];unfold Ba;rw[this]
   subst x;exact k.pure o (by simp only[RA])
  ·subst c
   have x:z=.non:=by rw[<- C];rfl
   subst x;exact k.pure o (by simp only[RA])
 ·cases e
end
def yb(key:EF)(sl:Sl)(st:aa)(n:Int):Option Int:=match key (sl++[À (.int n)]) st with
 |some (.int k,_)=>À k
 |_=>Á
noncomputable def lR:Int->Int->List (Int×Int)->Int
 |n,_,[]=>n
 |n,k,(m,j)::r=>if j<k then lR m j r else lR n k r
def p7:List (Int×Int)->AV
 |[]=>.non
 |(n,k)::r=>.int (lR n k r)
def qZ(f key:EF):EF:=fun a c=>(f a c).bind fun p=>(lsI p.2 p.1).bind fun b=>(aR (yb key a p.2) b).map fun d=>(p7 (b.zip d),p.2)
def CT(f:EF):Prop:=∀c b v a,f c b=À (v,a)->a=b
theorem mB:∀(r:List (Int×Int))(n k:Int),∃(i:Nat)(κ:Int),((n,k)::r)[i]?=À (lR n k r,κ)/\∀(j:Nat) q,((n,k)::r)[j]?=À q->κ<=q.2/\(j<i->κ<q.2)
 |[],n,k=>⟨0,k,rfl,fun j q e=>by
   cases j with
   |zero=>cases e;exact⟨ϫ _,fun h=>absurd h (xB _)⟩
   |succ j=>simp at e⟩
 |(m,j0)::r,n,k=>by
  by_cases hb:j0<k
  ·obtain⟨i,κ,e1,e2⟩:=mB r m j0
   refine⟨i+1,κ,by rw[Ė];simpa [lR,hb] using e1,fun j q e=>?_⟩;cases j with
   |zero =>
    cases e
    have:=(e2 0 (m,j0) rfl).1
    exact⟨by show κ<=k;lia,fun _=>by show κ<k;lia⟩
   |succ j =>
    rw[Ė]at e;exact⟨(e2 j q e).1,fun h=>(e2 j q e).2 oM⟩
  ·obtain⟨i,κ,e1,e2⟩:=mB r n k
   have b:lR n k ((m,j0)::r)=lR n k r:=by simp[lR,hb]
   have a:=(e2 0 (n,k) rfl).1;refine⟨if i=0 then 0 else i+1,κ,?_,fun j q e=>?_⟩
   ·rw[b]
    cases i with
    |zero=>simpa using e1
    |succ i=>simpa using e1
   ·cases j with
    |zero =>
     cases e;refine⟨a,fun h=>?_⟩;cases i with
     |zero=>simp at h
     |succ i=>exact(e2 0 (n,k) rfl).2 (W0 i)
    |succ j =>
     rw[Ė]at e;cases j with
     |zero =>
      cases e;refine⟨by show κ<=j0;lia,fun h=>?_⟩;cases i with
      |zero=>simp at h
      |succ i =>
       have:=(e2 0 (n,k) rfl).2 (W0 i)
       show κ<j0;have:κ<k:=this;lia
     |succ j =>
      rw[Ė]at e
      have:=e2 (j+1) q (by rw[Ė];exact e)
      refine⟨this.1,fun h=>this.2 ?_⟩;cases i with
      |zero=>simp at h
      |succ i=>simp at h;lia
theorem EK{ns ks:List Int}{i:Nat}{n:Int}(x:ns.length=ks.length)(f:ns[i]?=À n)(w:∀j,j<ns.length->ks.getD i 0<=ks.getD j 0/\(j<i->ks.getD i 0<ks.getD j 0)):p7 (ns.zip ks)=.int n:=by
 have y:i<ns.length:=(zB.mp f).1;obtain⟨k,o⟩:∃k,ks[i]?=À k:=⟨_,zF oM⟩;have hz:(ns.zip ks)[i]?=À (n,k):=by rw[Ř];exact⟨f,o⟩
 have hd:ks.getD i 0=k:=by simp[o]
 cases e:ns.zip ks with
 |nil=>rw[e]at hz;simp at hz
 |cons q r =>
  obtain⟨t,v⟩:=q;obtain⟨a,c,s,p⟩:=mB r t v;rw[<- e]at s p;have b:=Ř.mp s;have g:a<ns.length:=(zB.mp b.1).1;have l:ks.getD a 0=c:=by simp[b.2]
  have m:=w a g;have m2:=p i (n,k) hz;rw[hd,l]at m;have u:c<=k:=m2.1;have d:i<a->c<k:=m2.2;have:i=a:=by
   rcases Nat.lt_trichotomy i a with h|h|h
   ·have:=d h;lia
   ·exact h
   ·have:=m.2 h;lia
  subst this;rw[f]at b
  have:=b.1
  simp only[p7];cases this;rfl
theorem sE{α a:Type}{f:α->Option a}:∀{l:List α}{r:List a},aR f l=À r->l.length=r.length/\∀(i:Nat) x,l[i]?=À x->∃y,r[i]?=À y/\f x=À y
 |[],r,h=>by cases h;exact⟨rfl,fun i x e=>by simp at e⟩
 |x::l,r,h=>by
  simp only[aR]at h;obtain⟨y,e1,e2⟩:=zA h;obtain⟨j,g,d⟩:=zE.mp e2;subst d;obtain⟨c,b⟩:=sE g;refine⟨by simp[c],fun i z e=>?_⟩;cases i with
  |zero=>cases e;exact⟨y,rfl,e1⟩
  |succ i=>exact b i z (by simpa using e)
section
variable{X:Cx}{a body:Î}{f key:EF}{p pos kp lp kp2 pc:ġ}{j:Nat}{params:Ϛ}{scope:ĝ}{N':List Ì}{x:Ì}{c P:Ç}
theorem Ol.snoc[Od]{mg:Gm}{P:Pr}{H:Hp}{φ:List Ç}{sl:Sl}{σ:St}{v:AV}{w:V}(h:Ol mg P H φ sl σ)(r:RA mg P H φ v w):Ol mg P H φ (sl++[À v]) (σ++[À w]):=by
 refine⟨by rw[zV,zV,h.1];rfl,fun i u e=>?_⟩;rcases yU i sl.length with a|a
 ·rw[zN a]at e
  rw[zN (by rw[<- h.1];exact a)];exact h.2 i u e
 ·rw[z6 a]at e
  rw[z6 (by rw[<- h.1];exact a),<- h.1];cases b:i-sl.length with
  |zero=>rw[b]at e;cases e;exact⟨w,rfl,r⟩
  |succ m=>rw[b]at e;simp at e
theorem DC[Od](hc:X.calm=Â)(hg:Gl X "min")(hm:X.mg "min"=Á)(ha:QE X a f)(hs:Ê [a] X.env=[(Ä,eval a X.env)])(hdef:T8 params X.env=([],[]))(hcode:X.env.code=.ref c)(C:U0 X.base c P)(B:jD X.mg X.base)
  (ht:(P,lp,X.env.qual++"<lambda>")∈Od.tb) (T:wN X N' scope x) (hp:plainA params=Â) (hps:params.args.map (·.arg)=[x]) (hd:X.A.in1.depth<ϐ) (pu:CT key)
  (he:∀cl f c' s H,QE (tG X N' scope cl f (X.env.qual++"<lambda>") (.ref c') X.A.in1 s H) body key)
  (hdj:∀t∈Od.tb,t.1=P->t=(P,lp,X.env.qual++"<lambda>")) :
  QE X (.Call (.Name "min" p) [a] [⟨À "key",.Lambda params body scope lp,kp⟩,⟨À "default",.Constant .none j pc,kp2⟩] pos) (qZ f key):=by
 rintro Oa s σ H Q I ⟨Pr0,φ,sl,st,rs,sm,v,st',ev,k⟩;obtain⟨J,e1,e2⟩:=zA ev;obtain⟨ns,e3,e4⟩:=zA e2;obtain⟨ks,e5,e6⟩:=zE.mp e4;cases e6;have hra:rA X.gm (fR f fG) σ H (fun vs G=>∃A d w,vs=[w]/\Frm Pr0 φ H A d G/\Sim X.gm A d J.2 G/\RA X.gm A G d J.1 w) :=
  xm rs sm ⟨J.1,J.2,e1,fun A d G w f1 s1 r1=>⟨A,d,w,rfl,f1,s1,r1⟩⟩
 refine ú (dQ I hg hm tO (callWith_kw (aD ((c7 ha fJ (by rw[hs];rfl)) pos Oa s σ H _ I hra) fun us s1 ⟨vs,G,I1,r1,A,d,w,ew,f1,m,V⟩=>?_) (by rw[hs];rfl) (by rw[hs];rfl) (by rfl) (by rfl)));subst ew;obtain⟨l,rfl,hl0⟩:=V.lsI m e3;obtain⟨u,rfl,ru⟩:=eI r1;cases ru;obtain⟨cl,hcl,hcl1,hcl2⟩:=kE (scope:=scope) (env:=X.env) (fun y hy=>by
  rcases T.cy.free y hy with h|h
  ·exact I1.ok.has y (.inl h)
  ·exact I1.ok.has y (.inr h))
 refine kws_cons (Bo I1 hdef hcode C B hcl (m.tb _ ht).1 fun q c' ctv S s2 hH2 E8 hx2 I2=>kws_cons (H? (kws_nil ?_)))
 have fs:Frm A d G A d S/\Sim X.gm A d J.2 S:=by
  rcases hH2 with rfl|⟨ps,K,hP,hn,hne,rfl⟩
  ·exact⟨Frm.refl,m⟩
  ·have nP:∀b,A b->b≠P:=fun b h e=>(m.tb _ ht).2 (by rw[<- e];exact h)
   have N:∀b,G b≠Á->b≠c':=fun b h e=>h (by rw[e];exact hn)
   have M:∀b∈d,b≠P:=fun b h e=>m.tnc ht (by rw[<- e];exact h)
   have R:∀b,b≠P->b≠c'->ah (ah G P (.tbl (ps++K))) c' (gH c' (X.env.qual++"<lambda>")) b=G b:=fun b h1 h2=>by rw[ad h2,ad h1]
   have ex:∀b,A b->A b/\ah (ah G P (.tbl (ps++K))) c' (gH c' (X.env.qual++"<lambda>")) b=G b:=fun b h=>⟨h,R b (nP b h) (N b (m.dom b h))⟩
   refine⟨⟨ex,⟨[],by simp,by simp⟩,fun b h _ z=>R b (fun e=>z ps (by rw[e];exact hP)) (N b h),fun b h=>.inl h,fun b h=>?_,fun b o u h=>?_⟩,m.stay ex (fun b h=>R b (M b h) (N b (m.cd b h))) (fun _ _ h=>h) (fun b h=>by rw[(ex b h).2];exact m.dom b h) fun t O=>⟨?_,(m.tb t O).2⟩⟩
   ·by_cases e:b=P
    ·subst e;rw[ad hne,ay];exact fun z=>nomatch z
    ·rw[R b e (N b h)];exact h
   ·rw[R b (fun e=>by rw[e,hP]at h;cases h) (N b (by rw[h];exact fun z=>nomatch z))];exact h
   ·by_cases e:t.1=P
    ·rw[hdj t O e];exact E8
    ·obtain⟨qs,g1,g2,g3⟩:=(m.tb t O).1
     refine⟨qs,by rw[R t.1 e (N _ (by rw[g1];exact fun z=>nomatch z))];exact g1,g2,?_⟩;rcases g3 with g3|⟨c2,g4,g5⟩
     ·exact .inl g3
     ·exact .inr ⟨c2,g4,by rw[R c2 (fun z=>by rw[z,hP]at g5;cases g5) (N _ (by rw[g5];exact fun z=>nomatch z))];exact g5⟩
 obtain⟨Z,hget⟩:=sE e5;have au:∀F,(∃D g,Frm A d S D g F/\Sim X.gm D g J.2 F)->∀z,p7 (ns.zip ks)=z->∀w,(∀D g,RA X.gm D F g z w)->Q w F:=fun F hq0 z hz w r=>by
  obtain⟨D,g,f',s'⟩:=hq0;rw[hz]at k;exact k D g F w ((f1.trans fs.1).trans f') s' (r D g)
 have hmc:=sA (X:=X) (Oa:=Oa++[(q,wp X.mg (X.env.qual++"<lambda>") params body scope cl (.ref c') ctv)]) (σ:=σ) (ko:=À (.ref q)) (kws:=[(ù "key",.ref q),(ù "default",.none)]) (l:=l) (ns:=ns) (H:=S) (s:=s2) (Q:=Q) (E:=X.xe)
  (I.ok.hd hc) (fun i=>ks.getD i 0) (fun _ F=>∃D g,Frm A d S D g F/\Sim X.gm D g J.2 F) (fun i F ⟨D,g,f',s'⟩=>?_) rfl (GP _ _) (fun i n u pl s3 H3 en ru ⟨P3,U,f3,s3'⟩ I3=>.inr ⟨q,rfl,?_⟩) (fun i n F en Y hJ=>?_) (fun en=>?_) I2 ⟨A,d,Frm.refl,fs.2⟩
 ·exact aD hmc fun u s9 ⟨v9,H9,I9,r9,q9⟩=>⟨v9,H9,I9.pins_of fun p hp=>I9.pin p (zK _ (zL _ hp)),r9,q9⟩
 ·obtain⟨b,eb,hb⟩:=(V.frm (fs.1.trans f')).lsI s' e3
  cases eb;exact hb
 ·obtain⟨kv,ek,hk⟩:=hget i n en
  unfold yb at hk;split at hk
  ·rename_i k0 st0 L
   cases hk
   have:=pu _ _ _ _ L
   subst this;have W:=I3.pin (q,wp X.mg (X.env.qual++"<lambda>") params body scope cl (.ref c') ctv) (zK _ (zL _ (zK _ (zM.mpr rfl))));have hcx:H3 c'=À (gH c' (X.env.qual++"<lambda>")):=fs.2.okeep f3 hx2;have hcr:s3.heap.CodeRec (.ref c') (X.env.qual++"<lambda>"):=(I3.Oi c' _ hcx).1;refine Bp (te:=rE X.gm key) T I3 I.ok.frames (I.ok.hd hc) hd hcl1 hcl2 hp hps W.1 hcr (fun s H=>he cl q c' s H) ru ?_;have ksl:Ol X.gm P3 H3 U (sl++[À (.int n)]) (σ++[À (.int n)]):=Ol.snoc (((rs.frm f1).frm fs.1).frm f3) (by simp only[RA]);refine⟨P3,U,sl++[À (.int n)],J.2,ksl,s3',.int kv,J.2,L,fun P4 φ4 H4 b f4 s4 r4=>?_⟩;simp only[RA]at r4;exact⟨by rw[r4];simp[ek],P4,φ4,f3.trans f4,s4⟩
  ·cases hk
 ·exact au F hJ _ (EK Z en Y) _ fun D g=>by simp only[RA]
 ·subst en
  exact au S ⟨A,d,Frm.refl,fs.2⟩ _ rfl _ fun D g=>by simp only[List.zip_nil_left,p7,RA]
end
section
variable{X:Cx}{a b:Î}{f g:EF}{pos p1 p2 pos2:ġ}
noncomputable def qd(i:Int):Bool:=decide (0<=i)&&decide (i<=1000)
def wa(f:EF):NF:=fun b a=>(f b a).bind fun p=>match p.1 with
 |.int j=>if qd j=Â then À (cZ 0 j.toNat,p.2) else Á
 |_=>Á
def v8(f g:EF):NF:=fun a b=>(f a b).bind fun p=>(g a p.2).bind fun q=>match p.1,q.1 with
 |.int i,.int j=>if(qd i&&qd j&&decide (i<=j))=Â then À (cZ i (j-i).toNat,q.2) else Á
 |_,_=>Á
theorem Og.rng(i:Nat):∀n:Nat,Og mg P H φ (cZ (i:Int) n) ((ģ i n).map fun(q:Nat)=>V.int (q:Int)):=by
 have a:∀(l:List Nat),Og mg P H φ (l.map fun(k:Nat)=>AV.int ((i:Int)+(k:Int))) (l.map fun(k:Nat)=>V.int ((i:Int)+(k:Int))):=by
  intro l
  induction l with
  |nil=>exact bn
  |cons x l b=>exact aX (by simp only[RA]) b
 intro n;have:((ģ i n).map fun(q:Nat)=>V.int (q:Int))=(Æ n).map fun(k:Nat)=>V.int ((i:Int)+(k:Int)):=by
  rw[List.range'_eq_map_range,å];refine ϋ fun k _=>?_
  simp
 rw[this];exact a _
theorem FP[Od](y:X.calm=Â)(i:Gl X "list")(g:X.mg "list"=Á)(h:Gl X "range")(e:X.mg "range"=Á)(A:QE X a f)
  (v:Ê [a] X.env=[(Ä,eval a X.env)]):QN X (.Call (.Name "list" p1) [.Call (.Name "range" p2) [a] [] pos2] [] pos) (wa f) :=
 PE_imp (AT y i g h e A v) fun I H Q d=>by
  refine e7 d fun P G L K t s u=>?_
  obtain⟨J,o,D,k⟩:=u;obtain⟨q,E,b⟩:=zA D;refine i7 t s ⟨q.1,q.2,E,fun F c m w B r r1=>?_⟩;show ∃j:Nat,[w]=[.int (j:Int)]/\j<=1000/\∀p,m p=Á->Q (.ref p) (ah m p (.lst ((ģ 0 j).map fun(q:Nat)=>V.int (q:Int))));split at b
  ·rename_i j C
   split at b
   ·rename_i z
    cases b;rw[C]at r1;simp only[RA]at r1;subst r1;obtain⟨l,n⟩:=Ŋ.mp z;have l:=of_decide_eq_true l;have n:=of_decide_eq_true n;refine⟨j.toNat,by rw[Œ l],by lia,fun p x=>?_⟩;exact k F c m p _ B r x (Og.rng 0 j.toNat)
   ·cases b
  ·cases b
theorem FO[Od](F:X.calm=Â)(u:Gl X "list")(o:X.mg "list"=Á)(t:Gl X "range")(n:X.mg "range"=Á)(G:QE X a f)(h:QE X b g)
  (x:Ê [a,b] X.env=[(Ä,eval a X.env),(Ä,eval b X.env)]) (c:Ê [b] X.env=[(Ä,eval b X.env)]):QN X (.Call (.Name "list" p1) [.Call (.Name "range" p2) [a,b] [] pos2] [] pos) (v8 f g) :=
 PE_imp (xG F u o t n (c7 G (c7 h fJ (by rw[c];rfl)) (by rw[x,c])) x c) fun R H Q m=>by
  refine e7 m fun P φ V U C s D=>?_
  obtain⟨S,A,N,k⟩:=D;obtain⟨q,l,v⟩:=zA N;obtain⟨r,O,e⟩:=zA v;refine FC C s ⟨q.1,q.2,r.1,r.2,l,O,fun y d z w T K B r1 r2=>?_⟩;split at e
  ·rename_i i j M L
   split at e
   ·rename_i h
    cases e;rw[M]at r1;rw[L]at r2;simp only[RA]at r1 r2;subst r1;subst r2;simp only[qd,zC,yC]at h;obtain⟨⟨⟨J,Z⟩,I,Y⟩,W⟩:=h;refine⟨i.toNat,j.toNat,by rw[Œ J,Œ I],by lia,by lia,fun p E=>?_⟩;refine k y d z p _ K B E ?_;have l:(j-i).toNat=j.toNat-i.toNat:=by lia
    have v:i=((i.toNat:Nat):Int):=by lia
    have:=Og.rng (mg:=X.gm) (P:=y) (H:=z) (φ:=d) i.toNat (j.toNat-i.toNat)
    rw[<- v,<- l]at this;rw[<- l];exact this
   ·cases e
  ·cases e
end
def oy:aW->AV
 |.inl i=>.int i
 |.inr x=>.str x
noncomputable def B0(k:Nat):Out->Option Out
 |.nx sl st=>match st[k]? with
  |some (.wk Oc)=>À (.nx sl (st.set k (.dK Oc)))
  |_=>Á
 |.rt v st=>match st[k]? with
  |some (.wk Oc)=>À (.rt v (st.set k (.dK Oc)))
  |_=>Á
 |_=>Á
def vN(f:EF)(g:GF)(s:SF):SF:=fun a c=>(f a c).bind fun p=>match p.1 with
 |.ref k=>match p.2[k]? with
  |some (.dK b)=>(dE [] g s (b.map fun q=>oy q.1) a (p.2.set k (.wk b))).bind (B0 k)
  |_=>Á
 |_=>Á
section
variable{X:Cx}{tg iter:Î}{body:List ĸ}{pos:ġ}{f:EF}{g:GF}{s:SF}
theorem Dr[Od](hp:ϖ (model X.prog X.w) X.A X.env X.xe)(hc:X.calm=Â)(hi:QE X iter f)(hg:QG X tg g)(hb:nq X body s)(hs:∀x,ó iter X.env x=pure x):QS X (.For tg iter body [] pos) (vN f g s) :=
 PS_imp (DM (xw hp hc (DV hi) hg hb hs)) fun D σ H hq0=>by
  refine e7 hq0 fun P φ sl st rs sm q0=>?_
  obtain⟨o,e,q⟩:=q0;obtain⟨p,e1,e2⟩:=zA e;refine i7 rs sm ⟨p.1,p.2,e1,fun P1 N H1 w f1 s1 r1=>g_ fun G bk=>?_⟩;split at e2
  ·rename_i k ek
   rw[ek]at r1;simp only[RA]at r1;obtain⟨a,ea,ew⟩:=r1;split at e2
   ·rename_i Oc hk
    obtain⟨o1,e3,W⟩:=zA e2;obtain⟨na,K,h1,h2⟩:=s1.cell k _ a hk ea;refine bk ⟨a,K,ew,h1,fun U hn=>?_⟩;have J:(Oc.map fun q=>oy q.1).length=K.length:=by
     have:=congrArg ň h2.1
     rw[zH,zH]at this;rw[zH];exact this
    obtain⟨fw,sw⟩:=iP (c:=.wk Oc) (o:=.frz U (.dK K)) s1 ea na ⟨na,U,K,ay,h2.mono (fun b h=>⟨h,ad fun e=>na (e▸h)⟩) fun _ _ z=>z⟩ (fun _ _ z=>by rw[h1]at z;cases z);have rsw:Ol X.gm P1 (ah H1 a (.frz U (.dK K))) N sl σ:=(rs.frm f1).frm fw
    have back:∀{A d C l},Frm P1 N (ah H1 a (.frz U (.dK K))) A d C->Sim X.gm A d l C->∀{I},l[k]?=À (.wk I)->∃Z E,C a=À (.frz Z (.dK E)) /\
      Frm P φ H A d (ah C a (.dK E))/\Sim X.gm A d (l.set k (.dK I)) (ah C a (.dK E))/\∀b,A b->A b/\ah C a (.dK E) b=C b:=by
     intro A d C l Q F I hw;have T:d[k]?=À a:=Q.ix k a ea;obtain⟨na5,Z,E,g1,g2⟩:=F.cell k _ a hw T;have S:∀b,A b->A b/\ah C a (.dK E) b=C b:=fun b h=>⟨h,ad fun e=>na5 (e▸h)⟩
     refine⟨Z,E,g1,?_,?_,S⟩
     ·have B:=(f1.trans fw).trans Q
      obtain⟨m,em,nm⟩:=B.new;have hna:H a=Á\/a∈φ:=by
       rcases zZ.mp (show a ∈ φ++f1.new.choose by rw [<- f1.new.choose_spec.1];exact zW ea) with z | z
       ·exact .inr z
       ·exact .inl (f1.new.choose_spec.2 a z)
      refine⟨fun b h=>⟨(B.ext b h).1,?_⟩,⟨m,em,nm⟩,fun b h n z=>?_,B.pn,fun b h=>?_,fun b o u h=>?_⟩
      ·rw[(S b (B.ext b h).1).2];exact(B.ext b h).2
      ·have nb:b≠a:=fun e=>by
        rcases hna with y|y
        ·exact h (by rw[e];exact y)
        ·exact n (by rw[e];exact y)
       rw[ad nb];exact B.keep b h n z
      ·by_cases e:b=a
       ·rw[e,ay];exact fun z=>nomatch z
       ·rw[ad e];exact B.sm b h
      ·have nb:b≠a:=fun e=>by
        have:=f1.fz b o u h
        rw[e,h1]at this;cases this
       rw[ad nb];exact B.fz b o u h
     ·have hs5:l[k]?=À (.wk I):=hw
      refine⟨by rw[ā];exact F.len,F.nd,fun b h=>by rw[(S b h).2];exact F.dom b h,fun b h=>?_,fun j c b e5 e6=>?_,fun t ht=>⟨(F.tb t ht).1.wr (F.notb T na5),(F.tb t ht).2⟩⟩
      ·by_cases e:b=a
       ·rw[e,ay];exact fun z=>nomatch z
       ·rw[ad e];exact F.cd b h
      ·by_cases hj:j=k
       ·subst hj
        rw[T]at e6;cases e6;rw[î (by rw[<- F.len];exact(zB.mp T).1)]at e5;cases e5;exact⟨na5,E,ay,g2.mono S fun _ _ z=>z⟩
       ·rw[ê (ã hj)]at e5
        have hb:b≠a:=fun e=>hj (by
         subst e;obtain⟨l1,q1⟩:=zB.mp e6;obtain⟨l2,q2⟩:=zB.mp T;exact(ť F.nd).mp (q1.trans q2.symm))
        exact(F.cell j c b e5 e6).mono S (fun _ _ z=>z) (ad hb) fun z=>z
    have V:∀{A d C O L l},o1=.nx L l->Frm P1 N (ah H1 a (.frz U (.dK K))) A d C->Sim X.gm A d l C->Ol X.gm A C d L O->(qM X.H₀ D).nx O C:=by
     intro A d C O L l eo Q F M;subst eo;simp only[B0]at W;split at W
     ·rename_i I hw
      cases W;obtain⟨Z,E,g1,g2,g3,g4⟩:=back Q F hw;exact⟨a,Z,E,g1,hn,q A d _ O g2 g3 ⟨M.1,fun i v e=>let⟨w,e',r⟩:=M.2 i v e;⟨w,e',r.mono g4 fun _ _ z=>z⟩⟩⟩
     ·cases W
    have endR:∀{A d C v5 l w5},o1=.rt v5 l->Frm P1 N (ah H1 a (.frz U (.dK K))) A d C->Sim X.gm A d l C->RA X.gm A C d v5 w5->(qM X.H₀ D).rt w5 C:=by
     intro A d C v5 l w5 eo Q F r5;subst eo;simp only[B0]at W;split at W
     ·rename_i I hw
      cases W;obtain⟨Z,E,g1,g2,g3,g4⟩:=back Q F hw;exact⟨a,Z,E,g1,hn,q A d _ w5 g2 g3 (r5.mono g4 fun _ _ z=>z)⟩
     ·cases W
    refine⟨fun i m Y H'=>m=K.length-i/\i<=K.length/\Iw X.gm P1 N (ah H1 a (.frz U (.dK K))) (fun sl st=>dE [] g s ((Oc.map fun q=>oy q.1).drop i) sl st=À o1) Y H',
     ⟨_,rfl,û _,P1,N,sl,_,Frm.refl,sw,rsw,by simpa using e3⟩,?_⟩
    intro i m Y H' hh;refine g_ fun G bk=>?_
    obtain⟨em,hle,P2,φ2,sl2,st2,f2,s2,rs2,eg⟩:=hh;have hfz:H' a=À (.frz U (.dK K)):=f2.fz a _ _ ay;rcases yU i K.length with R|hge
    ·rw[õ (by rw[J];exact R)]at eg
     simp only[dE,cm,if_true]at eg;obtain⟨q4,e5,e6⟩:=zA eg;obtain⟨o2,e7,e8⟩:=zA e6;refine bk (.inr ⟨⟨hfz,R⟩,Iw X.gm P1 N (ah H1 a (.frz U (.dK K))) fun sl st=>dE [] g s ((Oc.map fun q=>oy q.1).drop (i+1)) sl st=À o1,fun Y H' z=>⟨_,by lia,rfl,R,z⟩,fun x H3 hy=>g_ fun G bj=>?_⟩);obtain⟨rfl,hx⟩:=hy;have rx:RA X.gm P2 H3 φ2 ((Oc.map fun q=>oy q.1)[i]'(by rw[J];exact R)) x:=by
      have hkw:Oc[i]?.map (·.1)=K[i]?.map (·.1):=by rw[<- zR,<- zR,h2.1]
      have hlt':i<Oc.length:=by rw[zH]at J;lia
      rw[zR,zF R]at hx;rw[zF hlt',zF R]at hkw;simp only[Ï,h?]at hx hkw;rw[List.getElem_map,hkw,<- hx];cases K[i].1 with
      |inl n=>simp only[oy,RA,kV]
      |inr z=>simp only[oy,RA,kV]
     refine bj ⟨P2,φ2,sl2,st2,_,rs2,s2,rx,q4.1,q4.2,e5,fun P4 φ4 H4 σ4 f4 s4 rs4=>⟨P4,φ4,q4.1,q4.2,rs4,s4,o2,e7,?_⟩⟩;have fa:=f2.trans f4;cases o2 with
     |nx L l=>exact fun A d C O Q F M=>⟨A,d,L,l,fa.trans Q,F,M,e8⟩
     |ct L l=>exact fun A d C O Q F M=>⟨A,d,L,l,fa.trans Q,F,M,e8⟩
     |bk L l=>exact fun A d C O Q F M=>V (yE e8).symm (fa.trans Q) F M
     |rt v l=>exact fun A d C w Q F r5=>endR (yE e8).symm (fa.trans Q) F r5
    ·have ei:i=K.length:=ϸ hle hge
     subst ei;rw[<- J,ϡ]at eg;simp only[dE,cm,if_true]at eg;exact bk (.inl ⟨⟨hfz,zP _⟩,V (yE eg).symm f2 s2 rs2⟩)
   ·cases e2
  ·cases e2
end
noncomputable def cB:Î->Bool
 |.Starred _ _=>Ä
 |_=>Â
noncomputable def jO:Î->Bool
 |.Slice _ _ _ _=>Ä
 |_=>Â
noncomputable def A7:Î->Bool
 |.Set _ _ _=>Ä
 |_=>Â
noncomputable def pP:Î->Bool
 |.Call (.Name _ _) [] [] _=>Ä
 |_=>Â
noncomputable def oo:Î->Bool
 |.ListComp _ _ _ _=>Ä
 |.SetComp _ _ _ _=>Ä
 |.DictComp _ _ _ _ _=>Ä
 |_=>Â
noncomputable def sj:Î->Bool
 |.Tuple _ _ _=>Ä
 |_=>Â
noncomputable def xy:Î->Bool
 |.UnaryOp .Not _ _=>Ä
 |.BoolOp _ _ _=>Ä
 |.IfExp _ _ _ _=>Ä
 |.Compare _ _ _ _=>Ä
 |_=>Â
section
variable{env:Q6}{e o i a b:Î}{es:List Î}{pos cpos apos:ġ}{f:Ì}
theorem aH(h:cB e=Â):Ê (e::es) env=(Ä,eval e env)::Ê es env:=by
 cases e<;>first|rfl|cases h
theorem iU(h:es.all cB=Â):(ø pos (Ê es env)).any (·.1)=Ä:=by
 induction es with
 |nil=>rfl
 |cons e es a =>
  rw[ĵ,zC]at h;rw[aH h.1];show(Ä||(ø pos (Ê es env)).any (·.1))=Ä;rw[a h.2];rfl
theorem Au(h:es.all cB=Â):(ø pos (Ê es env)).all (fun x=>!x.1)=Â:=by
 induction es with
 |nil=>rfl
 |cons e es a =>
  rw[ĵ,zC]at h;rw[aH h.1];show(Â&&(ø pos (Ê es env)).all (fun x=>!x.1))=Â;rw[a h.2];rfl
theorem KL(h:es.all cB=Â)(a:es.length<30):((ø cpos (Ê es env)).all (fun x=>!x.1)&&(Ń cpos (Ĕ [] env)).all (fun x=>x.1.isSome)&&decide (es.length+([]:List ń).length+(if([]:List ń).isEmpty then 0 else 1)<30))=Â:=by
 rw[Au h];have:decide (es.length+([]:List ń).length+(if([]:List ń).isEmpty then 0 else 1)<30)=Â:=yW (by simpa using a);rw[this];rfl
theorem gw(w:V9 Å)(h:pP o=Â):ę o f env w=w:=by
 unfold ę;split
 ·simp[pP]at h
 ·rfl
theorem uB(g:pP o=Â)(d:es.all cB=Â)(e:es.length<30)(a:(apos.endLine==pos.line)=Â):eval (.Call (.Attribute o f apos) es [] pos) env=(do
   let ov <- eval o env
   ő apos.atName
   let(f,first) <- holding [ov] (ŝ ov f (do return (<- importBound o env).getD Â))
   Ţ pos f first (ø pos (Ê es env)) (Ń pos (Ĕ [] env))):=by
 rw[arm_eval_Call,gw _ g];have b:methodCallForm (es.length+([]:List ń).length) (ø pos (Ê es env)) (Ń pos (Ĕ [] env))=Â:=KL d e;have c:methodCallPos Â o env apos pos=pure pos:=by unfold methodCallPos;simp[a]
 unfold methodCall;rw[b,c];rfl
theorem rL(h:A7 e=Â)(x:Å):ó e env x=pure x:=by
 cases e<;>first|rfl|cases h
theorem Ju(h:jO i=Â):p8 i:=fun _ _=>by
 cases i<;>first|rfl|cases h
theorem Fi(h:jO i=Â)(v:Å):assign (.Subscript o i pos) env v=(do
   let ov <- holding [v] (eval o env)
   let iv <- holding [v,ov] (eval i env)
   ő pos
   holding [v,ov,iv] (ϔ ov iv v)
   release [v,ov,iv] []):=by
 cases i<;>first|rfl|cases h
theorem HQ(h:jO i=Â)(a b new:Å):augStore i a b new=(do holding [new,a,b] (ϔ a b new);release [new,a,b] [];pure .next):=by
 cases i<;>first|rfl|cases h
theorem ul{l:Nat}(h:oo e=Â):ķ e t l env=pure Ä:=by
 cases e<;>first|rfl|cases h
theorem Ao{l:Nat}:ķ e (À (.Attribute o f p)) l env=pure Ä:=by
 cases e<;>rfl
noncomputable def Kn(nm:List (Ì×NameKind))(t:Ì)(b:Nat)(sc:ĝ)(a:Nat):Bool:=decide (nm.lookup t=À .local)&&(b==a)&&!(sc.names.any fun(n,k)=>n==t&&(k==.local||k==.cell))
theorem Fh{l:Nat}(a:env.scope.kind=.function) :
  ķ (.ListComp elt gens sc pos) (À (.Name t p)) l env=pure (Kn env.scope.names t p.line sc pos.line):=by
 have b:env.blockKind=.function:=by unfold Env.blockKind;rw[a];rfl
 show(pure (env.blockKind==.function&&env.kindOf t==À .local&&p.line==pos.line&&!(sc.names.any fun(n,k)=>n==t&&(k==.local||k==.cell))):V9 Bool)=_;rw[b];have:(env.kindOf t==À NameKind.local)=decide (env.scope.names.lookup t=À .local):=by
  show(env.scope.names.lookup t==À NameKind.local)=_;cases h:env.scope.names.lookup t with
  |none=>rfl
  |some k=>cases k<;>rfl
 rw[this];rfl
theorem As:ϟ [.Subscript a b p] e env=pure Á:=by cases e<;>rfl
theorem Ar{k:Nat}(h:sj e=Â):ϟ [.Tuple ts k p] e env=pure Á:=by cases e<;>first|rfl|cases h
theorem vf(h:cB e=Â):(à [e] env).map (·.2)=[assign e env]:=by
 cases e<;>first|rfl|cases h
theorem BC(h:cB e=Â):(à (e::es) env).map (·.2)=assign e env::(à es env).map (·.2):=by
 cases e<;>first|rfl|cases h
theorem BD:(à es env).length=es.length:=by
 induction es with
 |nil=>rfl
 | cons e es ih=>cases e <;> (show (à es env).length + 1=es.length + 1;rw [ih])
theorem BE(h:es.all cB=Â):(à es env).findIdx? (·.1)=Á:=by
 have:∀p∈à es env,p.1=Ä:=by
  induction es with
  |nil=>intro p a;cases a
  |cons e es b =>
   rw[ĵ,zC]at h;have c:à (e::es) env=(Ä,assign e env)::à es env:=by
    cases e<;>first|rfl|cases h.1
   rw[c];intro p a;rcases zT.mp a with rfl|a
   ·rfl
   ·exact b h.2 p a
 rw[List.findIdx?_eq_none_iff];intro p a;rw[this p a]
theorem uh(h:xy e=Â)(a:V9 Å):v? e env a=(do let v <- a;ő e.pos;holding [v] (truthy v)):=by
 cases e with
 |UnaryOp op x p=>cases op<;>first|rfl|cases h
 |BoolOp=>cases h
 |IfExp=>cases h
 |Compare=>cases h
 |_=>rfl
end
noncomputable def stB(d:ô):Bool:=O4 d&&d.showable&&decide (d.depth<=40)&&decide (d.shown.length<=16777216)
def Aq:ô->Option AV
 |.none=>À (.str "None")
 |.list xs=>if stB (.list xs)=Â then À (.str (ύ (.list xs))) else Á
 |.tuple xs=>if stB (.tuple xs)=Â then À (.str (ύ (.tuple xs))) else Á
 |_=>Á
def k9(st:aa):List AV->Option AV
 |[x]=>(aQ 9 st x).bind Aq
 |_=>Á
section
variable{X:Cx}
theorem JV[Od](gd:X.A.guards=À [])(K:X.A.units+64<ŋ):cM X (.type "str") (rB X.gm (bM k9)):=by
 rintro B s l H E F Q I m ⟨P,C,J,D,g,r,p⟩;obtain⟨z,e,k⟩:=p.map;unfold k9 at e;split at e
 ·obtain⟨d,t,b⟩:=zA e
  obtain⟨w,v,o⟩:=r.one;clear r;subst v;obtain⟨u,rfl,n⟩:=eI m;obtain⟨N,f⟩:=gD I g 9 _ _ _ _ o t n;have j:∀{a},u=.ref a->stB d=Â->z=.str d.shown->Í (model X.prog X.w) X.A (call (.type "str") [u]) (EP X B l Q) X.xe s:=fun {a} h c hz=>by
   subst h;subst hz;unfold stB at c;simp only[zC,yC]at c;obtain⟨⟨⟨A,y⟩,M⟩,x⟩:=c;exact str_of_reads f y (PyData.noDict_hsm (PyData.hasDict_of_layable A)) gd oM (fun _ _ e=>e) (fun L u G q=>⟨.str _,H,I.kept q,⟨_,rfl⟩,k.pure g (by simp only[RA])⟩) x
  unfold Aq at b;split at b
  ·injection b with b
   subst b;cases f;exact PySem.P.str_of_none ⟨.str _,H,I.kept fun _ _ e=>e,⟨_,rfl⟩,k.pure g (by simp only[RA])⟩
  ·split at b
   ·rename_i c
    injection b with b;exact (show ∃ a,u=.ref a by cases f with | list=>exact ⟨_,rfl⟩).elim fun a i=>j i c b.symm
   ·cases b
  ·split at b
   ·rename_i c
    injection b with b;exact (show ∃ a,u=.ref a by cases f with | tuple=>exact ⟨_,rfl⟩).elim fun a i=>j i c b.symm
   ·cases b
  ·cases b
 ·cases e
end
set_option genInjectivity false
set_option genSizeOf false
set_option genSizeOfSpec false
inductive Bi where
 |len|sum|abs|min|max|int|str
inductive Mi where
 |app|pop|ext|clr|cnt
mutual
inductive Ex where
 |n|b (x:Bool)|i (x:Int)|s (x:Ì)|v (k:Nat)|g (x:Ì) (c:AV)|bin (o:Ğ) (a b:Ex)|cmp (o:ϓ) (a b:Ex)|un (o:UnaryOp) (a:Ex)|no (a:Ex)|an (a b:Ex)|or (a b:Ex)|ife (t:Tx) (a b:Ex)|ix (a b:Ex)|tu (es:Exs)|nw (m:Bool) (x:Nx)|ca (p:Bool) (j:Nat) (es:Exs)|me (c m:Ì) (j:Nat) (o:Ex) (es:Exs)|ne (c:Ì) (j:Nat) (es:Exs)|fd (c f:Ì) (o:Ex)|bi (b:Bi) (es:Exs)|mt (m:Mi) (o:Ex) (es:Exs)|dn|mnd (a:Ex)|mnk (a key:Ex)
inductive Tx where
 |va (e:Ex)|cmp (o:ϓ) (a b:Ex)|no (t:Tx)|an (t u:Tx)|or (t u:Tx)
inductive Exs where
 |nil|cons (e:Ex) (es:Exs)
inductive Nx where
 |li (es:Exs)|cat (a b:Ex)|rep (es:Exs) (b:Ex)|sl (a:Ex) (l h:Ox)|lof (a:Ex)|lc (k:Nat) (it:Ix) (t:Tg) (c:Cx') (e:Ex)|lr1 (a:Ex)|lr2 (a b:Ex)
inductive Ox where
 |no|so (e:Ex)
inductive Cx' where
 |no|so (t:Tx)
inductive Ix where
 |e (a:Ex)|r1 (a:Ex)|r2 (a b:Ex)|zi (a b:Ex)|en (a:Ex)|es (a b:Ex)
inductive Tg where
 |nm (k:Nat)|tu (n:Nat) (ts:Tgs)|su (a b:Ex)
inductive Tgs where
 |nil|cons (t:Tg) (ts:Tgs)
end
mutual
inductive Sx where
 |ex (e:Ex)|as (e:Ex) (t:Tg)|aus (o:Ğ) (a b e:Ex)|fl (c f:Ì) (o e:Ex)|rt (e:Ex)|iff (t:Tx) (a b:On)|fo (it:Ix) (t:Tg) (b:On)|wh (t:Tx) (b:On)|dead|fd (a:Ex) (t:Tg) (b:On)
inductive On where
 |nil|cons (s:Sx) (ss:On)|dead
end
def mY:Bi->BF
 |.len=>bM eV
 |.sum=>bM rH
 |.abs=>bM tT
 |.min=>bM pR
 |.max=>bM wd
 |.int=>bM lD
 |.str=>bM k9
def sB:Mi->MF
 |.app=>sF
 |.pop=>wj
 |.ext=>wl
 |.clr=>Bf
 |.cnt=>Be
noncomputable def sC:Mi->String
 |_=>"list"
def kf(ks:List Fn)(j:Nat):Fn:=ks.getD j fun _ _=>Á
def dj(p:Bool)(fn:Fn):Fn:=if p=Â then pm fn else fn
section
variable(ks:List Fn)
mutual
noncomputable def ev:Ex->EF
 |.n=>aC .non
 |.b x=>aC (.bl x)
 |.i x=>aC (.int x)
 |.s x=>aC (.str x)
 |.v k=>aV k
 |.g _ c=>aC c
 |.bin o a b=>a2 (ev a) (ev b) (lb (aZ o))
 |.cmp o a b=>a2 (ev a) (ev b) (lb (nQ o))
 |.un o a=>a1 (ev a) (Fp (nV o))
 |.no a=>KU (ev a)
 |.an a b=>CS (ev a) (ev b)
 |.or a b=>CN (ev a) (ev b)
 |.ife t a b=>KY (tv t) (ev a) (ev b)
 |.ix a b=>a2 (ev a) (ev b) (lb bI)
 |.tu es=>KR (eY es)
 |.nw m x=>CO m (jt x)
 |.ca p j es=>CQ (dj p (kf ks j)) (eY es)
 |.me c m j o es=>CP c m (kf ks j) (ev o) (eY es)
 |.ne c j es=>zr c (kf ks j) (eY es)
 |.fd c f o=>KZ c f (ev o)
 |.bi b es=>tU (mY b) (eY es)
 |.mt m o es=>nk (sC m) (sB m) (ev o) (eY es)
 |.dn=>K0 Ä
 |.mnd a=>tU (bM oq) (fR (ev a) fG)
 |.mnk a key=>qZ (ev a) (ev key)
noncomputable def tv:Tx->TF
 |.va e=>tV (ev e)
 |.cmp o a b=>Fg (ev a) (ev b) o
 |.no a=>Kk (tv a)
 |.an a b=>Km (tv a) (tv b)
 |.or a b=>Fb (tv a) (tv b)
noncomputable def eY:Exs->AF
 |.nil=>fG
 |.cons e es=>fR (ev e) (eY es)
noncomputable def jt:Nx->NF
 |.li es=>Kx (eY es)
 |.cat a b=>sx (ev a) (ev b)
 |.rep es b=>v7 (eY es) (ev b)
 |.sl a l h=>mJ (ev a) (tz l) (tz h)
 |.lof a=>pQ (ev a)
 |.lc k it t c e=>Cn k (dH it) (b8 t) (ju c) (ev e)
 |.lr1 a=>wa (ev a)
 |.lr2 a b=>v8 (ev a) (ev b)
noncomputable def tz:Ox->OF
 |.no=>Ck
 |.so e=>mG (ev e)
noncomputable def ju:Cx'->TF
 |.no=>Kh
 |.so e=>tv e
noncomputable def dH:Ix->IF
 |.e a=>iE (ev a)
 |.r1 a=>yn (ev a)
 |.r2 a b=>ym (ev a) (ev b)
 |.zi a b=>iZ (ev a) (ev b)
 |.en a=>KH (ev a)
 |.es a b=>sP (ev a) (ev b)
noncomputable def b8:Tg->GF
 |.nm k=>yt k
 |.tu n ts=>yr n (jG ts)
 |.su a b=>KI (ev a) (ev b)
noncomputable def jG:Tgs->t0
 |.nil=>Hm
 |.cons t ts=>Hr (b8 t) (jG ts)
end
mutual
noncomputable def cP:Sx->SF
 |.ex e=>Ku (ev ks e)
 |.as e t=>xk (ev ks e) (b8 ks t)
 |.aus o a b e=>vO o (ev ks a) (ev ks b) (ev ks e)
 |.fl c f o e=>xj c f (ev ks o) (ev ks e)
 |.rt e=>Kq (ev ks e)
 |.iff t a b=>Ks (tv ks t) (ag a) (ag b)
 |.fo it t b=>Kt (dH ks it) (b8 ks t) (ag b)
 |.wh t b=>mE (tv ks t) (ag b)
 |.dead=>Fu
 |.fd a t b=>vN (ev ks a) (b8 ks t) (ag b)
noncomputable def ag:On->SF
 |.nil=>Kr
 |.cons s ss=>Ko (cP s) (ag ss)
 |.dead=>Fu
end
end
inductive Ke where
 |f (x:Ì) (n:Nat)|m (c m:Ì) (n:Nat)|k (c:Ì) (n:Nat)
structure SC where
 N:List Ì
 nm:List (Ì×NameKind)
 cf:List Ì
 ke:List Ke
 gs:List (Ì×AV)
 cl:List (Ì×List Ì)
 la:List ġ
 cn:List Ì
 hs:List Nat
 ck:Bool
noncomputable def kd(C:SC)(x:Ì):Option Ť:=C.nm.lookup x
def Af(C:SC)(x:Ì):Bool:=match kd C x with
 |some .local=>Â
 |some .cell=>Â
 |some .free=>Â
 |_=>Ä
def Bj(C:SC)(x:Ì):Bool:=match kd C x with
 |some .local=>Â
 |some .cell=>C.cf.contains x
 |_=>Ä
noncomputable def CG(x:Ì):Bool:=!(x==("__debug__":Ì))&&!(x==("__classdict__":Ì))
def jq(C:SC)(x:Ì):Bool:=(match kd C x with
 |some .globalImplicit=>Â
 |_=>Ä)&&CG x
noncomputable def KD(C:SC)(j:Nat)(x:Ì)(n:Nat):Bool:=match C.ke[j]? with
 |some (.f y m)=>y==x&&m==n
 |_=>Ä
noncomputable def KA(C:SC)(j:Nat)(c m:Ì)(n:Nat):Bool:=match C.ke[j]? with
 |some (.m b a k)=>b==c&&a==m&&k==n
 |_=>Ä
noncomputable def KB(C:SC)(j:Nat)(c:Ì)(n:Nat):Bool:=match C.ke[j]? with
 |some (.k a k)=>a==c&&k==n
 |_=>Ä
noncomputable def bnames:List Ì:=["len","sum","all","any","abs","min","max","int","tuple","range","zip","enumerate","list","isinstance","bool","str","sorted"]
noncomputable def HN:List (Ì×Bi):=[("len",.len)
 ,("sum",.sum)
 ,("abs",.abs)
 ,("min",.min)
 ,("max",.max)
 ,("int",.int)
 ,("str",.str)
 ]
noncomputable def GO:List (Ì×Mi):=[("append",.app)
 ,("pop",.pop)
 ,("extend",.ext)
 ,("clear",.clr)
 ,("count",.cnt)
 ]
noncomputable def Bi.nm:Bi->Ì
 |.len=>"len"
 |.sum=>"sum"
 |.abs=>"abs"
 |.min=>"min"
 |.max=>"max"
 |.int=>"int"
 |.str=>"str"
noncomputable def Mi.nm:Mi->Ì
 |.app=>"append"
 |.pop=>"pop"
 |.ext=>"extend"
 |.clr=>"clear"
 |.cnt=>"count"
noncomputable def Mz:List (Ì×String):=[("int","int"),("bool","bool"),("list","list"),("tuple","tuple"),("str","str")]
noncomputable def AZ(sc:ĝ):List Ì:=(sc.names.filter fun p=>(match p.2 with|.local=>Â|.cell=>Â|_=>Ä)&&!(p.1==(".0":Ì))).map (·.1)
noncomputable def sN(sc:ĝ)(x:Ì):Bool:=match sc.names.lookup x with
 |some .free=>Â
 |_=>Ä
noncomputable def Hi(k:Bool)(x:Ì):Ì:=match k with
 |true=>x++("!":Ì)
 |false=>""
def eZ(C:SC)(sc:ĝ):List Ì:=(C.N.map fun x=>if sN sc x=Â then x else Hi C.ck x)++AZ sc
noncomputable def KJ:Ť->Bool
 |.free=>Â
 |_=>Ä
noncomputable def CI:Option Ť->Bool
 |some .cell=>Â
 |_=>Ä
noncomputable def uf{α:Type}(k:Bool)(x:List α):List α:=match k with
 |true=>x
 |false=>[]
@[reducible] def blk(C:SC)(sc:ĝ):SC:={ C with N:=eZ C sc,nm:=uf C.ck (sc.names.map fun p=>if(KJ p.2&&CI (kd C p.1))=Â then(p.1,.cell) else(p.1,p.2)),cf:=uf C.ck ((sc.names.filter fun p=>CI (À p.2)).map (·.1)),la:=[] }
def tP(C:SC)(sc:ĝ):Bool :=
 (match sc.kind with|.function=>Â|_=>Ä)&&decide (sc.names.map (·.1)).Nodup&&decide (eZ C sc).Nodup &&
 (sc.names.all fun p=>match p.2 with|.free=>(match kd C p.1 with|some .cell=>Â|some .free=>Â|_=>Ä)|_=>Â) &&
 ((Æ C.N.length).all fun i=>match (eZ C sc)[i]? with
  |some x=>(match sc.names.lookup x with
   |some .free=>decide (C.N[i]?=À x)
   |some _=>Ä
   |none=>Â)
  |none=>Ä)
mutual
noncomputable def pK(n:Nat):Tg->Bool
 |.nm k=>Þ n k
 |.tu _ ts=>qN n ts
 |.su _ _=>Ä
noncomputable def qN(n:Nat):Tgs->Bool
 |.nil=>Â
 |.cons t ts=>pK n t&&qN n ts
end
@[reducible] def G4(C:SC)(sc:ĝ):SC:={ C with N:=eZ C sc,nm:=uf C.ck sc.names,cf:=[],ke:=[],la:=[] }
noncomputable def MS(C:SC)(p:ġ):Bool:=C.la.any fun q=>q.line==p.line&&q.col==p.col&&q.endLine==p.endLine&&q.endCol==p.endCol
def Bq(C:SC)(sc:ĝ)(ps:Ϛ):Bool:=tP C sc&&!sc.isCoroutine&&!sc.isGenerator&&plainA ps&&ps.defaults.isEmpty&&ps.kw_defaults.isEmpty &&
 (match AZ sc,ps.args.map (·.arg) with
  |[x],[y]=>x==y&&(match sc.names.lookup x with|some .local=>Â|_=>Ä)
  |_,_=>Ä)&&sc.names.all fun p=>!(CI (À p.2))
noncomputable def l7:Ex->Bool
 |.v _=>Â
 |.i _=>Â
 |.ix a b=>l7 a&&l7 b
 |.fd _ _ o=>l7 o
 |_=>Ä
theorem mI{P:Prop}(h:Ä=Â):P:=nomatch h
theorem bu{α:Type}{P:Prop}{m:α}(h:Á=À m):P:=nomatch h
theorem dI{a b:Bool}{P:Prop}(h:(a&&b)=Â)(H:a=Â->b=Â->P):P:=by cases a;exact mI h;exact H rfl h
theorem k4{a b c:Bool}{P:Prop}(h:(a&&b&&c)=Â)(H:a=Â->b=Â->c=Â->P):P:=dI h fun x y=>dI x fun e d=>H e d y
theorem qF{a b c d:Bool}{P:Prop}(h:(a&&b&&c&&d)=Â)(H:a=Â->b=Â->c=Â->d=Â->P):P:=dI h fun x y=>k4 x fun g f e=>H g f e y
section
variable{α β γ δ ε:Type}
noncomputable def gu(k c:Bool)(x:Option α):Option α:=match k with
 |false=>x
 |true=>if c=Â then x else Á
noncomputable def m2(f:α->β->γ)(x:Option α)(y:Option β):Option γ:=x.bind fun a=>y.map (f a)
def m3(f:α->β->γ->δ)(x:Option α)(y:Option β)(z:Option γ):Option δ:=x.bind fun a=>m2 (f a) y z
theorem aM{k c:Bool}{x:Option α}{m:α}{P:Prop}(a:k=Â)(h:gu k c x=À m)(H:c=Â->x=À m->P):P:=by
 subst a;cases c
 ·exact bu h
 ·exact H rfl h
@[elab_as_elim] theorem cq{f:α->β}{x:Option α}{m:β}{P:β->Prop}(h:x.map f=À m)(H:∀a,x=À a->P (f a)):P m:=by
 cases x with
 |none=>exact bu h
 |some a=>cases h;exact H a rfl
@[elab_as_elim] theorem cb{f:α->β->γ}{x:Option α}{y:Option β}{m:γ}{P:γ->Prop}(h:m2 f x y=À m)(H:∀a b,x=À a->y=À b->P (f a b)):P m:=by
 cases x with
 |none=>exact bu h
 |some a=>exact cq h fun b c=>H a b rfl c
@[elab_as_elim] theorem md{f:α->β->γ->δ}{x:Option α}{y:Option β}{z:Option γ}{m:δ}{P:δ->Prop}(h:m3 f x y z=À m)(H:∀a b c,x=À a->y=À b->z=À c->P (f a b c)):P m:=by
 cases x with
 |none=>exact bu h
 |some a=>exact cb h fun b c e d=>H a b c rfl e d
theorem hU{x:Option α}{f:α->Option β}{m:β}{P:Prop}(h:x.bind f=À m)(H:∀a,x=À a->f a=À m->P):P:=by
 cases x with
 |none=>exact bu h
 |some a=>exact H a rfl h
noncomputable def at_(x:Ì):List Ì->Nat->Option Nat
 |[],_=>Á
 |y::l,k=>if(y==x)=Â then À k else at_ x l (k+1)
theorem CK{x:Ì}:∀{l:List Ì}{k j:Nat},at_ x l k=À j->∃i,j=k+i/\l[i]?=À x
 |[],_,_,h=>bu h
 |y::l,k,j,h=>by
  unfold at_ at h;split at h
  ·rename_i e;cases h;exact⟨0,rfl,by rw[yK e];rfl⟩
  ·obtain⟨i,e1,e2⟩:=CK h
   exact⟨i+1,by lia,e2⟩
theorem HS{x:Ì}{l:List Ì}{j:Nat}(h:at_ x l 0=À j):l[j]?=À x:=by
 obtain⟨i,e,h⟩:=CK h;rw[e,Nat.zero_add];exact h
noncomputable def lk(x:Ì):List (Ì×α)->Option α
 |[]=>Á
 |p::l=>if(p.1==x)=Â then À p.2 else lk x l
theorem qT{x:Ì}{v:α}:∀{l:List (Ì×α)},lk x l=À v->(x,v)∈l
 |[],h=>bu h
 |p::l,h=>by
  unfold lk at h;split at h
  ·rename_i e;cases h;rw[<- yK e];exact z7
  ·exact zQ _ (qT h)
def tJ(f:Ì):List (Ì×List Ì)->Option Ì
 |[]=>Á
 |p::l=>match at_ f p.2 0 with
  |some _=>À p.1
  |none=>tJ f l
theorem zf{f c:Ì}:∀{l:List (Ì×List Ì)},tJ f l=À c->∃fs,(c,fs)∈l/\f∈fs
 |[],h=>bu h
 |p::l,h=>by
  unfold tJ at h;split at h
  ·rename_i e;cases h;exact⟨p.2,z7,zW (HS e)⟩
  ·obtain⟨fs,h1,h2⟩:=zf h
   exact⟨fs,zQ _ h1,h2⟩
noncomputable def Bb(n:Nat):List Nat->Bool
 |[]=>Ä
 |m::l=>(m==n)||Bb n l
def hB(C:SC)(p:ġ)(k:Nat):Bool:=Bb (((p.line*1000+p.col)*1000+p.endCol)*8+k) C.hs
end
noncomputable def nmO:Î->Option Ì
 |.Name x _=>À x
 |_=>Á
theorem xO{e:Î}(h:nmO e=À x):∃p,e=.Name x p:=by
 cases e with
 |Name y p=>cases h;exact⟨p,rfl⟩
 |_=>exact bu h
noncomputable def lsO:Î->Option (List Î)
 |.List es _=>À es
 |_=>Á
theorem GW{e:Î}(h:lsO e=À es):∃p,e=.List es p:=by
 cases e with
 |List y p=>cases h;exact⟨p,rfl⟩
 |_=>exact bu h
noncomputable def cN:Î->Bool
 |.Constant .none _ _=>Â
 |_=>Ä
theorem CJ{e:Î}(h:cN e=Â):∃a p,e=.Constant .none a p:=by
 cases e with
 |Constant c a p=>cases c with
  |none=>exact⟨a,p,rfl⟩
  |_=>exact mI h
 |_=>exact mI h
noncomputable def kX:Const->Option Ex
 |.none=>À .n
 |.bool b=>À (.b b)
 |.int i=>À (.i i)
 |.str s=>À (.s s)
 |_=>Á
structure Tr where
 E:SC->Î->Option Ex
 T:SC->Î->Option Tx
 G:SC->Î->Option Tg
 S:SC->ĸ->Option Sx
def BY(C:SC)(x:Ì):Option Ex:=match at_ x C.N 0 with
 |some k=>gu C.ck (Af C x&&CG x) (À (.v k))
 |none=>(lk x C.gs).bind fun c=>gu C.ck (jq C x&&(qf c).isSome) (À (.g x c))
section
variable(r:Tr)(C:SC)
def kT:List Î->Option Exs
 |[]=>À .nil
 |e::es=>gu C.ck (cB e) (m2 .cons (r.E C e) (kT es))
noncomputable def trO:Option Î->Option Ox
 |none=>À .no
 |some e=>(r.E C e).map .so
def vC:List Î->Option Tgs
 |[]=>À .nil
 |e::es=>gu C.ck (cB e) (m2 .cons (r.G C e) (vC es))
def nX:List ĸ->Option On
 |[]=>À .nil
 |s::ss=>m2 .cons (r.S C s) (nX ss)
noncomputable def KP:A'->Ex->Ex->Ex
 |.And=>.an
 |.Or=>.or
noncomputable def KN:A'->Tx->Tx->Tx
 |.And=>.an
 |.Or=>.or
def vE(o:A'):List Î->Option Ex
 |[]=>Á
 |[x]=>r.E C x
 |x::y::es=>m2 (KP o) (r.E C x) (vE o (y::es))
def vD(o:A'):List Î->Option Tx
 |[]=>Á
 |[x]=>r.T C x
 |x::y::es=>m2 (KN o) (r.T C x) (vD o (y::es))
noncomputable def trC:List Î->Option Cx'
 |[]=>À .no
 |[e]=>(r.T C e).map .so
 |_=>Á
def trR(es:List Î):Option Ix:=match es with
 |[a]=>(r.E C a).map .r1
 |[a,b]=>m2 .r2 (r.E C a) (r.E C b)
 |_=>Á
def trZ(es:List Î):Option Ix:=match es with
 |[a,b]=>m2 .zi (r.E C a) (r.E C b)
 |_=>Á
def trEn(a:Î)(kws:List ń):Option Ix:=match kws with
 |[]=>(r.E C a).map .en
 |[⟨À y,b,_⟩]=>gu C.ck (y==("start":Ì)) (m2 .es (r.E C a) (r.E C b))
 |_=>Á
def trIc(t e:Î)(es:List Î)(kws:List ń)(o:Option Ì):Option Ix:=match o with
 |some x =>
  if(x==("range":Ì))=Â then gu C.ck (jq C "range"&&kws.isEmpty&&es.all cB) (trR r C es)
  else if(x==("zip":Ì))=Â then gu C.ck (jq C "zip"&&kws.isEmpty&&es.all cB&&!sj t) (trZ r C es)
  else if(x==("enumerate":Ì))=Â then gu C.ck (jq C "enumerate"&&es.all cB&&!sj t) (match es with
   |[a]=>trEn r C a kws
   |_=>Á)
  else(r.E C e).map .e
 |none=>(r.E C e).map .e
def trI(t e:Î):Option Ix:=match e with
 |.Call f es kws _=>trIc r C t e es kws (nmO f)
 |_=>(r.E C e).map .e
def trL(elt:Î)(gens:List Comprehension)(sc:ĝ):Option Nx:=match gens with
 |[⟨t,it,cs,i⟩]=>gu C.ck (tP C sc&&(i==0)&&A7 it) ((trI r C t it).bind fun x=>(r.G (blk C sc) t).bind fun g=>gu C.ck (pK C.N.length g) (m2 (.lc ((eZ C sc).length-C.N.length) x g) (trC r (blk C sc) cs) (r.E (blk C sc) elt)))
 |_=>Á
def trLr(p:ġ)(es:List Î):Option Ex:=match es with
 |[a]=>(r.E C a).map fun a=>.nw (hB C p 0) (.lr1 a)
 |[a,b]=>m2 (fun a b=>.nw (hB C p 0) (.lr2 a b)) (r.E C a) (r.E C b)
 |_=>Á
def trLf(p:ġ)(a:Î):Option Ex:=match a with
 |.Call f es kws _=>gu C.ck ((match nmO f with|some y=>y==("range":Ì)|none=>Ä)&&kws.isEmpty&&jq C "range"&&es.all cB) (trLr r C p es)
 |a=>(r.E C a).map fun a=>.nw (hB C p 0) (.lof a)
def trF1(x:Ì)(p:ġ)(es:List Î):Option Ex:=match es with
 |[a] =>
  gu C.ck (x==("list":Ì)&&jq C "list"&&cB a) (trLf r C p a)
 |_=>Á
def Ak(x:Ì)(es:List Î)(p:ġ)(j:Nat)(o:Option (List Ì)):Option Ex:=match o with
 |some _=>gu C.ck (KB C j x (es.length+1)&&jq C x&&!es.isEmpty&&es.all cB) ((kT r C es).map (.ne x j))
 |_=>gu C.ck (KD C j x es.length&&jq C x&&es.all cB) ((kT r C es).map (.ca (!hB C p 6) j))
def Al(x:Ì)(es:List Î)(p:ġ)(o:Option Bi):Option Ex:=match o with
 |some b=>gu C.ck (jq C x&&!es.isEmpty&&es.all cB) ((kT r C es).map (.bi b))
 |none=>trF1 r C x p es
def BZ(x:Ì)(es:List Î)(p:ġ):Option Ex:=match at_ x C.cn 0 with
 |some j=>Ak r C x es p j (lk x C.cl)
 |none=>Al r C x es p (lk x HN)
def trK(x:Ì)(es:List Î)(kws:List ń):Option Ex:=match es with
 |[a]=>(match kws with
  |[⟨À y,d,_⟩]=>gu C.ck (x==("min":Ì)&&y==("default":Ì)&&cN d&&(jq C "min"&&cB a)) ((r.E C a).map .mnd)
  |[⟨À y,.Lambda ps body sc lp,_⟩,⟨À z,d,_⟩]=>gu C.ck (x==("min":Ì)&&y==("key":Ì)&&z==("default":Ì)&&(cN d&&jq C "min"&&cB a&&(MS C lp&&Bq C sc ps))) ((r.E C a).bind fun a=>(r.E (G4 C sc) body).bind fun b=>gu C.ck (l7 b) (À (.mnk a b)))
  |_=>Á)
 |_=>Á
noncomputable def miA(q:Mi)(es:List Î):Mi:=match q,es with
 |q,_=>q
def E2(o:Î)(m:Ì)(a:ġ)(es:List Î)(p:ġ):Option Ex:=gu C.ck (es.all cB&&Nat.blt es.length 30&&pP o&&(a.endLine==p.line)) (match at_ m C.cn 0 with
 |some j=>C.cl.head?.bind fun q=>gu C.ck (KA C j q.1 m (es.length+1)) (m2 (.me q.1 m j) (r.E C o) (kT r C es))
 |none=>(lk m GO).bind fun q=>m2 (.mt (miA q es)) (r.E C o) (kT r C es))
def trSl(a:Î)(l h st:Option Î)(p:ġ):Option Ex:=match st with
 |none =>
  m3 (fun a l h=>.nw (hB C p 0) (.sl a l h)) (r.E C a) (trO r C l) (trO r C h)
 |some _=>Á
def trCe(a:Î)(c:List ϓ)(bs:List Î):Option Ex:=match c with
 |[o]=>(match bs with
  |[b]=>gu C.ck (ma o b) (m2 (.cmp o) (r.E C a) (r.E C b))
  |_=>Á)
 |_=>Á
def trCt(a:Î)(c:List ϓ)(bs:List Î):Option Tx:=match c with
 |[o]=>(match bs with
  |[b]=>gu C.ck (ma o b) (m2 (.cmp o) (r.E C a) (r.E C b))
  |_=>Á)
 |_=>Á
def trE(e:Î):Option Ex:=match e with
 |.Constant k _ _=>kX k
 |.Name x _=>BY C x
 |.BinOp a o b p =>
  if hB C p 1=Â then gu C.ck (decide (o=.Add)) (m2 (fun x y=>.nw (hB C p 0) (.cat x y)) (r.E C a) (r.E C b)) else
  (match lsO a with
  |some d=>gu C.ck (decide (o=.Mult)) (m2 (fun x y=>.nw (hB C p 0) (.rep x y)) (kT r C d) (r.E C b))
  |none=>m2 (.bin o) (r.E C a) (r.E C b))
 |.Compare a os bs _=>trCe r C a os bs
 |.UnaryOp o a _=>(match o with
  |.Not=>(r.E C a).map .no
  |o=>(r.E C a).map (.un o))
 |.BoolOp o d _=>vE r C o d
 |.IfExp t a b _=>m3 .ife (r.T C t) (r.E C a) (r.E C b)
 |.Subscript a i p=>(match i with
  |.Slice l h st _=>trSl r C a l h st p
  |i=>gu C.ck (jO i) (m2 .ix (r.E C a) (r.E C i)))
 |.Tuple d _ _=>(kT r C d).map .tu
 |.List d p=>(kT r C d).map fun x=>.nw (hB C p 0) (.li x)
 |.ListComp elt gens sc p=>(trL r C elt gens sc).map fun x=>.nw (hB C p 0) x
 |.Dict ks vs _=>gu C.ck (ks.isEmpty&&vs.isEmpty) (À .dn)
 |.Attribute o f _=>(tJ f C.cl).bind fun c=>gu C.ck (pP o) ((r.E C o).map (.fd c f))
 |.Call f d kws p=>(match f with
  |.Name x _=>(match kws with
   |[]=>BZ r C x d p
   |kws=>trK r C x d kws)
  |.Attribute o m ap=>gu C.ck kws.isEmpty (E2 r C o m ap d p)
  |_=>Á)
 |_=>Á
def trT(e:Î):Option Tx:=match e with
 |.UnaryOp o a p=>(match o with
  |.Not=>(r.T C a).map .no
  |o=>(r.E C (.UnaryOp o a p)).map .va)
 |.BoolOp o es _=>vD r C o es
 |.Compare a os bs _=>trCt r C a os bs
 |e=>gu C.ck (xy e) ((r.E C e).map .va)
def pG(x:Ì):Option Tg:=(at_ x C.N 0).bind fun k=>gu C.ck (Bj C x&&CG x) (À (.nm k))
def trG(e:Î):Option Tg:=match e with
 |.Name x _=>pG C x
 |.Tuple es _ _=>gu C.ck (es.all cB) ((vC r C es).map (.tu es.length))
 |.Subscript a b _=>gu C.ck (jO b) (m2 .su (r.E C a) (r.E C b))
 |_=>Á
def trAn(x:Ì)(v:Î):Option Sx:=match v with
 |.ListComp elt gens sc q=>m2 .as ((trL r C elt gens sc).map fun x=>.nw (hB C q 0) x) (pG C x)
 |v=>gu C.ck (oo v) (m2 .as (r.E C v) (pG C x))
def trAs(t v:Î):Option Sx:=match t with
 |.Attribute o f _=>(tJ f C.cl).bind fun c=>m2 (.fl c f) (r.E C o) (r.E C v)
 |.Name x _=>trAn r C x v
 |.Subscript a b p=>m2 .as (r.E C v) (r.G C (.Subscript a b p))
 |.Tuple ts k p=>(match v with
  |v=>gu C.ck (sj v&&oo v) (m2 .as (r.E C v) (r.G C (.Tuple ts k p))))
 |_=>Á
def trS(s:ĸ):Option Sx:=match s with
 |.Expr e _=>gu C.ck (oo e) ((r.E C e).map .ex)
 |.Assign ts v _=>(match ts with
  |[t]=>trAs r C t v
  |_=>Á)
 |.AugAssign t o v _=>(match t with
  |.Subscript a b _=>gu C.ck (jO b) (m3 (.aus o) (r.E C a) (r.E C b) (r.E C v))
  |_=>Á)
 |.Return e _=>(match e with
  |none=>Á
  |some e=>(r.E C e).map .rt)
 |.If t a b _=>m3 .iff (r.T C t) (nX r C a) (nX r C b)
 |.For t it b els p=>gu C.ck (els.isEmpty&&A7 it) (
  if hB C p 4=Â then m3 .fd (r.E C it) (r.G C t) (nX r C b) else
  m3 .fo (trI r C t it) (r.G C t) (nX r C b))
 |.While t b els _=>gu C.ck els.isEmpty (m2 .wh (r.T C t) (nX r C b))
 |.Raise _ _ _=>À .dead
 |_=>Á
end
theorem Hj{α:Type}{c:Bool}{x:Option α}:gu Ä c x=x:=rfl
theorem Eg{a b:String}(h:ù a=ù b):a=b:=by
 rw[Str.ofString_eq_byList]at h;have h:=congrArg (fun x=>x.cps.toList) h;exact String.toList_inj.mp (List.map_inj_right (fun x y e=>Char.toNat_inj.mp e) |>.mp h)
theorem GC{a b:String}:(ù a==ù b)=decide (a=b):=by
 by_cases h:a=b
 ·subst h;simp
 ·rw[yA h]
  exact beq_eq_false_iff_ne.mpr fun e=>h (Eg e)
def tr:Nat->Tr
 |0=>⟨fun _ _=>Á,fun _ _=>Á,fun _ _=>Á,fun _ _=>Á⟩
 |n+1=>⟨trE (tr n),trT (tr n),trG (tr n),trS (tr n)⟩
section
variable{n:Nat}
theorem Lh:(tr (n+1)).E=trE (tr n):=rfl
theorem Ld:(tr (n+1)).T=trT (tr n):=rfl
theorem Lg:(tr (n+1)).G=trG (tr n):=rfl
theorem Lf:(tr (n+1)).S=trS (tr n):=rfl
end
theorem uS:type_of% @trS.eq_def:=@trS.eq_def
theorem uE:type_of% @trE.eq_def:=@trE.eq_def
theorem uT:type_of% @trT.eq_def:=@trT.eq_def
theorem uG:type_of% @trG.eq_def:=@trG.eq_def
theorem Mx:type_of% @trAs.eq_def:=@trAs.eq_def
theorem My:type_of% @trAn.eq_def:=@trAn.eq_def
theorem uK:type_of% @trK.eq_def:=@trK.eq_def
theorem Mw:type_of% @trCe.eq_def:=@trCe.eq_def
theorem Mv:type_of% @trCt.eq_def:=@trCt.eq_def
theorem uI:type_of% @trI.eq_def:=@trI.eq_def
theorem Ms:type_of% @trIc.eq_def:=@trIc.eq_def
theorem Mp:type_of% @trSl.eq_def:=@trSl.eq_def
theorem uL:type_of% @trL.eq_def:=@trL.eq_def
theorem Mu:type_of% @trEn.eq_def:=@trEn.eq_def
theorem uR:type_of% @trR.eq_def:=@trR.eq_def
theorem uZ:type_of% @trZ.eq_def:=@trZ.eq_def
theorem Mt:type_of% @trF1.eq_def:=@trF1.eq_def
theorem Mr:type_of% @trLf.eq_def:=@trLf.eq_def
theorem Mq:type_of% @trLr.eq_def:=@trLr.eq_def
theorem uO:type_of% @trO.eq_def:=@trO.eq_def
theorem uC:type_of% @trC.eq_def:=@trC.eq_def
theorem uX:type_of% @kX.eq_def:=@kX.eq_def
theorem uM:type_of% @nmO.eq_def:=@nmO.eq_def
theorem uN:type_of% @lsO.eq_def:=@lsO.eq_def
theorem uP:type_of% @miA.eq_def:=@miA.eq_def
def Ic[Od](P:Ò)(w:Û)(K:á)(mg:Ì->Option Å)(base:ä)(A:ċ)(fn:Fn):Ke->Prop
 |.f x n=>∃d f fd ps,ps.length=n/\FnOk P w K mg base fx d f fd ps (dM ⟨K,mg⟩ ps.length fn)/\Room d A/\mg x=À (.ref f)/\Ĵ K (.ref f)=Â/\Binds K fd ps []
 |.m c m n=>∃d f fd ps C,ps.length=n/\FnOk P w K mg base fx d f fd ps (dM ⟨K,mg⟩ ps.length fn)/\Room d A/\mg c=À (.ref C)/\Cls K C/\kP K C m f/\Binds K fd ps []
 |.k c n=>∃d f fd ps C,ps.length=n/\FnOk P w K mg base fx d f fd ps (dM ⟨K,mg⟩ ps.length fn)/\Room (d+1) A/\mg c=À (.ref C)/\Mk K C f/\Binds K fd ps []
structure Fit[Od](X:Cx)(C:SC)(ks:List Fn):Prop where
 N:X.N=C.N
 ck:C.ck=Â
 nm:X.env.scope.names=C.nm
 nd:C.N.Nodup
 kind:X.env.scope.kind=.function
 calm:X.calm=Â
 cf:∀x∈C.cf,X.fn x=Â
 hu:X.A.units+64<ŋ
 gd:X.A.guards=À []
 bl:∀x∈bnames,X.mg x=Á
 po:ϖ (model X.prog X.w) X.A X.env X.xe
 ke:∀(j:Nat) k,C.ke[j]?=À k->Ic X.prog X.w X.K X.mg X.base X.A (kf ks j) k
 gs:∀p∈C.gs,∀w,qf p.2=À w->∃u,X.mg p.1=À u/\RelV w u
 cl:∀p∈C.cl,∃Ca,X.mg p.1=À (.ref Ca)/\Cls X.K Ca/\∀f∈p.2,NoAttr X.K Ca f
 la:∀p∈C.la,Room 2 X.A/\∃c P,X.env.code=.ref c/\U0 X.base c P/\jD X.mg X.base/\(P,p,X.env.qual++"<lambda>")∈Od.tb/\∀t∈Od.tb,t.1=P->t=(P,p,X.env.qual++"<lambda>")
section
variable{X:Cx}{C:SC}{ks:List Fn}
theorem Fit.kdO[Od](F:Fit X C ks)(x:Ì):X.env.kindOf x=kd C x:=by unfold kd;rw[<- F.nm];rfl
theorem Fit.vis[Od](F:Fit X C ks)(h:Af C x=Â):zt X.env.scope x:=by
 unfold Af kd at h;rw[<- F.nm]at h;unfold zt;split at h
 ·rename_i e;exact .inl e
 ·rename_i e;exact .inr (.inl e)
 ·rename_i e;exact .inr (.inr e)
 ·cases h
theorem Fit.loc[Od](F:Fit X C ks)(h:Bj C x=Â):L2.Loc X.env.scope x/\(X.fn x=Â\/X.env.scope.names.lookup x=À .local):=by
 unfold Bj kd at h;rw[<- F.nm]at h;unfold L2.Loc;split at h
 ·rename_i e;exact⟨.inl e,.inr e⟩
 ·rename_i e;exact⟨.inr e,.inl (F.cf x (by simpa using h))⟩
 ·cases h
theorem tF(h:CG x=Â):(x==("__debug__":Ì))=Ä/\(x==("__classdict__":Ì))=Ä:=dI h fun b a=>⟨by simpa using b,by simpa using a⟩
theorem Fit.gl[Od](F:Fit X C ks)(h:jq C x=Â):Gl X x/\(x==("__debug__":Ì))=Ä:=by
 unfold jq at h;refine dI h fun a b=>⟨?_,(tF b).1⟩
 unfold Gl;rw[F.kdO];split at a
 ·rename_i e;exact e
 ·cases a
theorem Fit.nmb[Od](F:Fit X C ks){k:Nat}(h:at_ x C.N 0=À k):X.N[k]?=À x:=by rw[F.N];exact HS h
theorem Fit.clb[Od](F:Fit X C ks){c f:Ì}(h:tJ f C.cl=À c):∃Ca,X.mg c=À (.ref Ca)/\Cls X.K Ca/\NoAttr X.K Ca f:=by
 obtain⟨fs,g,e⟩:=zf h;obtain⟨Ca,a,b,d⟩:=F.cl _ g;exact⟨Ca,a,b,d f e⟩
theorem Fit.blt[Od](F:Fit X C ks)(h:x∈bnames):X.mg x=Á:=F.bl x h
theorem Hy(b:Ť):KJ b=(b==Ú):=by cases b<;>rfl
theorem HJ(o:Option Ť):CI o=(o==À Ě):=by
 cases o with
 |none=>rfl
 |some k=>cases k<;>rfl
theorem Fit.blk[Od](F:Fit X C ks)(h:tP C sc=Â):jJ X (eZ C sc) sc/\∀cl s H fp Oa,Fit (cC X (eZ C sc) sc cl s H fp Oa) (R.blk C sc) ks:=by
 unfold tP at h;simp only[zC,yC]at h;obtain⟨⟨⟨⟨u,r⟩,z⟩,y⟩,w⟩:=h;have t:sc.kind=.function:=by
  split at u
  ·rename_i e;exact e
  ·cases u
 have j:C.N.length<=(eZ C sc).length:=by unfold eZ;rw[zV,zH];lia
 have l:∀x,(x,Ú)∈sc.names->X.env.kindOf x=À .cell\/X.env.kindOf x=À .free:=fun x f=>by
  have:=yR.mp y _ f
  simp only at this;rw[F.kdO];split at this
  ·rename_i e;exact .inl e
  ·rename_i e;exact .inr e
  ·cases this
 have m:∀i x,i<X.N.length->(eZ C sc)[i]?=À x->(∀k,(x,k)∈sc.names->k=.free/\X.N[i]?=À x):=fun i x d e k c=>by
  rw[F.N]at d ⊢
  have:=yR.mp w i (Õ.mpr d)
  rw [e] at this;simp only at this;have v:=c5 r c;rw [v] at this;cases k <;> simp only at this <;> first | (cases this;done) | exact ⟨rfl,of_decide_eq_true this⟩
 refine ⟨⟨t,r,by rw [F.N];exact j,l,fun i x d e c=>(m i x d e _ c).2,fun i x d e n=>by obtain ⟨k,c⟩:=n;have:=(m i x d e k c).1;subst this;exact c⟩,fun cl s H fp Oa=>?_⟩;refine ⟨rfl,F.ck,?_,z,t,F.calm,fun x f=>?_,F.hu,F.gd,F.bl,PassesOwn.never,F.ke,F.gs,F.cl,fun p q=>absurd (show p ∈ ([]:List ġ) from q) (by simp)⟩
 ·show(relabel sc X.env).names=_
  unfold relabel R.blk;dsimp only;rw[F.kind,F.ck];apply ϋ;intro p _;obtain⟨a,b⟩:=p;simp only[F.kdO,Hy,HJ];simp
 ·unfold R.blk at f
  rw[F.ck]at f;obtain⟨p,q,e⟩:=yD.mp f;obtain⟨o,g⟩:=Ĉ.mp q;obtain⟨a,b⟩:=p;dsimp only at e g;subst e;have:b=.cell:=by cases b<;>first|rfl|cases g
  subst this;show(sc.names.lookup a==À Ě)=Â;rw[c5 r o];rfl
end
section
variable{X:Cx}{C:SC}{ks:List Fn}
theorem Fit.lam[Od](F:Fit X C ks)(n:Room 2 X.A)(h:Bq C sc ps=Â):∃x,wN X (eZ C sc) sc x/\plainA ps=Â/\ps.args.map (·.arg)=[x]/\T8 ps X.env=([],[]) /\
  ∀cl f q cd s H,Fit (tG X (eZ C sc) sc cl f q cd X.A.in1 s H) (G4 C sc) ks:=by
 unfold Bq at h;simp only[zC]at h;obtain⟨⟨⟨⟨⟨⟨⟨b,D⟩,B⟩,A⟩,z⟩,w⟩,a⟩,v⟩:=h;obtain⟨m,_⟩:=F.blk b;split at a
 ·rename_i x y ex E
  simp only[zC]at a;have g:=yK a.1;subst g;have u:sc.names.lookup x=À .local:=by
   have:=a.2
   split at this
   ·rename_i e;exact e
   ·cases this
  have l:eZ C sc=(C.N.map fun x=>if sN sc x=Â then x else Hi C.ck x)++[x]:=by unfold eZ;rw[ex]
  refine⟨x,⟨m,by simpa using D,by simpa using B,by rw[l,F.N];simp,by rw[l,F.N];simp,u,fun y o e=>?_⟩,A,E,?_,fun cl f q cd s H=>?_⟩
  ·have:=yR.mp v y o
   rw[e]at this;cases this
  ·obtain⟨a1,a2,N,M,K,L,J⟩:=ps
   have I:J=[]:=æ.mp z;have G:K=[]:=æ.mp w;subst I;subst G;rfl
  ·have c:(eZ C sc).Nodup:=by
    unfold tP at b;simp only[zC,yC]at b;exact b.1.1.2
   have d:sc.kind=.function:=m.kind;have r1:Room 1 X.A.in1:=n.in1;have i:=Room.deeper r1 (T7 sc s.heap.objs.size Ð cl (q++".<locals>.") (À f) cd Á Ę);refine ⟨rfl,F.ck,(by show _=uf C.ck sc.names;rw [F.ck];rfl),c,d,rfl,fun x r=>absurd (show x ∈ ([]:List Ì) from r) (by simp),i.units,i.gd,F.bl,PassesOwn.never,fun j k e=>absurd (show ([]:List Ke)[j]?=À k from e) (by simp),F.gs,F.cl,fun p t=>absurd (show p ∈ ([]:List ġ) from t) (by simp)⟩
 ·cases a
end
mutual
theorem uk{n:Nat}:∀{t:Tg},pK n t=Â->pv n (b8 ks t)
 |.nm k,h=>by
  simp only[pK]at h;have hk:=zS h;simp only[b8];intro x d c b a e;cases e;exact⟨ā,fun j f=>ê oM⟩
 |.tu m ts,h=>by
  simp only[pK]at h;simp only[b8];intro x d c b a e;unfold yr at e;split at e
  ·split at e
   ·exact nE h _ _ _ _ _ e
   ·cases e
  ·split at e
   ·split at e
    ·exact nE h _ _ _ _ _ e
    ·cases e
   ·cases e
 |.su _ _,h=>by simp only[pK]at h;cases h
theorem nE{n:Nat}:∀{ts:Tgs},qN n ts=Â->∀xs sl st sl' st',jG ks ts xs sl st=À (sl',st')->sl'.length=sl.length/\∀j,j<n->sl'[j]?=sl[j]?
 |.nil,_,xs,sl,st,sl',st',e=>by
  simp only[jG]at e;cases xs with
  |nil=>cases e;exact⟨rfl,fun _ _=>rfl⟩
  |cons _ _=>cases e
 |.cons t ts,h,xs,sl,st,sl',st',e=>by
  simp only[qN,zC]at h;simp only[jG]at e;cases xs with
  |nil=>cases e
  |cons x xs =>
   obtain⟨p,e1,e2⟩:=zA e;obtain⟨a1,a2⟩:=uk h.1 _ _ _ _ _ e1;obtain⟨c,b⟩:=nE h.2 _ _ _ _ _ e2;exact⟨c.trans a1,fun j a=>(b j a).trans (a2 j a)⟩
end
theorem mo{r:Tr}(b:C.ck=Â):∀{es:List Î}{as:Exs},kT r C es=À as->∀sl st xs st',eY ks as sl st=À (xs,st')->xs.length=es.length
 |[],as,h,sl,st,xs,st',e=>by cases h;cases e;rfl
 |x::es,as,h,sl,st,xs,st',e=>by
  refine aM b h fun _ h=>?_
  revert e
  refine cb h fun a as _ h2 e=>?_
  obtain⟨p,e1,e2⟩:=zA e;obtain⟨q,d,c⟩:=zA e2;cases c;rw[yY,yY,mo b h2 _ _ _ _ d]
theorem J9:â "len"=À (.builtin "len"):=by decide +kernel
theorem J5:â "sum"=À (.builtin "sum"):=by decide +kernel
theorem Kb:â "abs"=À (.builtin "abs"):=by decide +kernel
theorem J7:â "min"=À (.builtin "min"):=by decide +kernel
theorem J8:â "max"=À (.builtin "max"):=by decide +kernel
theorem Ka:â "int"=À (.type "int"):=by decide +kernel
theorem J6:â "str"=À (.type "str"):=by decide +kernel
section
variable{X:Cx}{C:SC}{ks:List Fn}
theorem J4[Od](F:Fit X C ks)(b:Bi){e:Î}{es:List Î}{g:AF}{p pos:ġ}(h:jq C b.nm=Â)(d:QA X (e::es) g)(f:(e::es).all cB=Â):QE X (.Call (.Name b.nm p) (e::es) [] pos) (tU (mY b) g):=by
 have gl:=F.gl h;rw[ĵ,zC]at f;have c:=aH (env:=X.env) (es:=es) f.1;have a:=iU (env:=X.env) (pos:=pos) f.2;cases b with
 |len=>exact oh JY gl.1 (F.blt dC) J9 d dC gl.2 c a
 |sum=>exact oh (JU F.calm) gl.1 (F.blt dC) J5 d dC gl.2 c a
 |abs=>exact oh J1 gl.1 (F.blt dC) Kb d dC gl.2 c a
 |min=>exact oh (JW F.calm) gl.1 (F.blt dC) J7 d dC gl.2 c a
 |max=>exact oh (JX F.calm) gl.1 (F.blt dC) J8 d dC gl.2 c a
 |int=>exact Ci JZ gl.1 (F.blt dC) Ka d dC gl.2 c a
 |str=>exact Ci (JV F.gd F.hu) gl.1 (F.blt dC) J6 d dC gl.2 c a
theorem Jk[Od](F:Fit X C ks)(m:Mi){o:Î}{es:List Î}{f:EF}{g:AF}{n p:ġ}(h:QE X o f)(j:QA X es g)(r:es=[]->g=fG)(k:es.all cB=Â)(q:es.length<30)(l:pP o=Â)(b:(n.endLine==p.line)=Â) :
  QE X (.Call (.Attribute o m.nm n) es [] p) (nk (sC m) (sB m) f g):=by
 cases es with
 |nil =>
  have:=r rfl
  subst this;have a:=gw (env:=X.env) (f:=m.nm) (eval o X.env) l;cases m with
  |app=>exact lm Ù ϴ ϲ Ct h a b
  |pop=>exact lm Ù g! f? Cp h a b
  |ext=>exact lm Ù ϳ ϱ Cq h a b
  |clr=>exact lm Ù ϻ Ϻ Cs h a b
  |cnt=>exact lm Ù Ś Ϲ (Cr F.hu) h a b
 |cons e es =>
  have a:=gw (env:=X.env) (f:=m.nm) (eval o X.env) l;have c:=KL (env:=X.env) (cpos:=p) k q;rw[ĵ,zC]at k;have i:=aH (env:=X.env) (es:=es) k.1;have d:=iU (env:=X.env) (pos:=p) k.2;cases m with
  |app=>exact og Ù ϴ ϲ Ct h j a c b i d
  |pop=>exact og Ù g! f? Cp h j a c b i d
  |ext=>exact og Ù ϳ ϱ Cq h j a c b i d
  |clr=>exact og Ù ϻ Ϻ Cs h j a c b i d
  |cnt=>exact og Ù Ś Ϲ (Cr F.hu) h j a c b i d
theorem Gb[Od]{P:Ò}{w:Û}{K:á}{mg:Ì->Option Å}{a:ä}{k:Nat}{f:Ç}{fd:ĕ}{ps:List Ì}{n:Nat}{fn:Fn}(b:Bool)(F:FnOk P w K mg a fx k f fd ps (dM ⟨K,mg⟩ n fn)):FnOk P w K mg a fx k f fd ps (dM ⟨K,mg⟩ n (dj b fn)):=by
 cases b
 ·exact F
 ·exact FnOk.pm F
end
theorem kh{ks:List Fn}:∀{e:Ex},l7 e=Â->CT (ev ks e)
 |.v k,_=>fun sl st v st' e=>by
  have e:aV k sl st=À (v,st'):=e;unfold aV at e;split at e
  ·cases e;rfl
  ·cases e
 |.i k,_=>fun sl st v st' e=>by
  cases e;rfl
 |.ix a b,h=>fun sl st v st' e=>by
  refine dI h fun n m=>?_
  obtain⟨p,j,i⟩:=zA e;obtain⟨q,l,g⟩:=zA i;obtain⟨z,r,d⟩:=zE.mp g;cases d;rw[kh m _ _ _ _ l,kh n _ _ _ _ j]
 |.fd c f o,h=>fun sl st v st' e=>by
  obtain ⟨p,j,i⟩:=zA e;obtain ⟨q,l,g⟩:=zA i;obtain ⟨z,r,d⟩:=zE.mp g;cases d;rw [kh (show l7 o=Â from h) _ _ _ _ j]
theorem Jl{α d c:Type}{f:α->d->c}{x:Option α}{y:Option d}{m:c}(h:m2 f x y=À m):∃a b,x=À a/\y=À b/\m=f a b:=cb h fun a b g e=>⟨a,b,g,e,rfl⟩
structure BQ[Od](r:Tr)(ks:List Fn):Prop where
 E:∀{X:Cx}{C:SC}{e:Î}{m:Ex},Fit X C ks->r.E C e=À m->QE X e (ev ks m)
 T:∀{X:Cx}{C:SC}{e:Î}{m:Tx},Fit X C ks->r.T C e=À m->QT X e (tv ks m)
 G:∀{X:Cx}{C:SC}{e:Î}{m:Tg},Fit X C ks->r.G C e=À m->QG X e (b8 ks m)
 S:∀{X:Cx}{C:SC}{s:ĸ}{m:Sx},Fit X C ks->r.S C s=À m->QS X s (cP ks m)
section
variable[Od]{ks:List Fn}{r:Tr}(R:BQ r ks){X:Cx}{C:SC}(F:Fit X C ks)
include R F
theorem gC:∀{es:List Î}{m:Exs},kT r C es=À m->QA X es (eY ks m)
 |[],m,h=>by cases h;exact fJ
 |e::es,m,h=>aM F.ck h fun h0 h=>cb h fun a as h1 h2=>c7 (R.E F h1) (gC h2) (aH h0)
theorem wY{e:Option Î}{m:Ox}(h:trO r C e=À m):QO X e (tz ks m):=by
 cases e with
 |none=>cases h;exact Dw
 |some e=>exact cq h fun a h=>Dv (R.E F h)
theorem iS:∀{ss:List ĸ}{m:On},nX r C ss=À m->nq X ss (ag ks m)
 |[],m,h=>by cases h;exact Dq
 |s::ss,m,h=>cb h fun a as h1 h2=>AA (R.S F h1) (iS h2)
theorem ui:∀{es:List Î}{m:Tgs},vC r C es=À m->zv X es (jG ks m)
 |[],m,h=>by cases h;exact DA
 |e::es,m,h=>aM F.ck h fun h0 h=>cb h fun a as h1 h2=>AC (R.G F h1) (ui h2) (BC h0)
theorem pJ{o:A'}{p:ġ}:∀{x:Î}{es:List Î}{m:Ex},vE r C o (x::es)=À m->QE X (.BoolOp o (x::es) p) (ev ks m)
 |x,[],m,h=>by cases o<;>exact Gn (R.E F h)
 |x,y::es,m,h=>cb h fun a b h1 h2=>by
  cases o
  ·exact F3 (R.E F h1) (pJ h2)
  ·exact IN (R.E F h1) (pJ h2)
theorem pH{o:A'}{p:ġ}:∀{x:Î}{es:List Î}{m:Tx},vD r C o (x::es)=À m->QW X (.BoolOp o (x::es) p) (tv ks m)
 |x,[],m,h=>FD o (R.T F h)
 |x,y::es,m,h=>cb h fun a b h1 h2=>by
  cases o
  ·exact FF (R.T F h1) (pH h2)
  ·exact IG (R.T F h1) (pH h2)
theorem E7{es:List Î}{m:Cx'}(h:trC r C es=À m):vm X es (ju ks m):=by
 rcases es with _|⟨e,_|_⟩
 ·cases h;exact Dz
 ·exact cq h fun a h=>Dy (R.T F h)
 ·exact bu h
omit R in
theorem EX{x:Ì}{p:ġ}{m:Ex}(h:BY C x=À m):QE X (.Name x p) (ev ks m):=by
 unfold BY at h;split at h
 ·rename_i k g
  refine aM F.ck h fun e h=>dI e fun d a=>?_
  cases h;exact FW (F.nmb g) (F.vis d) (tF a).1 (tF a).2
 ·refine hU h fun c i h=>aM F.ck h fun e h=>dI e fun d a=>?_
  cases h;obtain⟨w,f⟩:=Č.mp a;obtain⟨u,b,j⟩:=F.gs _ (qT i) w f;obtain⟨g1,l⟩:=F.gl d;exact rY f (Ea g1 b j l) fun _ _ _ h=>h
omit R F in
theorem wX{t:Î}(h:(!sj t)=Â):∃ts k p,t=.Tuple ts k p:=by
 cases t with
 |Tuple ts k p=>exact⟨ts,k,p,rfl⟩
 |_=>exact mI h
theorem w6{t e:Î}{m:Ix}(h:trI r C t e=À m):QI X t e (dH ks m):=by
 have s:∀{m},(r.E C e).map .e=À m->QI X t e (dH ks m):=fun h=>cq h fun a h=>LH (R.E F h)
 cases e with
 |Call f es kws p =>
  have h:trIc r C t _ es kws (nmO f)=À m:=h;cases i:nmO f with
  |none=>rw[i]at h;exact s h
  |some x =>
   rw[i]at h;obtain⟨q,rfl⟩:=xO i;unfold trIc at h;split at h
   ·rename_i v
    rw[yK v];refine aM F.ck h fun o g=>k4 o fun n A j=>?_
    cases æ.mp A;rcases es with _|⟨a,_|⟨b,_|⟨c,_|_⟩⟩⟩
    ·exact bu g
    ·refine dI j fun l _=>?_
     exact cq g fun x i=>IK (F.gl n).1 (F.blt dC) (R.E F i) (aH l)
    ·refine dI j fun l j=>dI j fun w _=>?_
     exact cb g fun x y i u=>IJ (F.gl n).1 (F.blt dC) (R.E F i) (R.E F u) (by rw[aH l,aH w];rfl) (aH w)
    all_goals exact bu g
   ·split at h
    ·rename_i v
     rw[yK v];refine aM F.ck h fun o g=>qF o fun n A j z=>?_
     cases æ.mp A;obtain⟨B,k,tp,rfl⟩:=wX z;rcases es with _|⟨a,_|⟨b,_|⟨c,_|⟨d,_|_⟩⟩⟩⟩
     ·exact bu g
     ·exact bu g
     ·refine dI j fun l j=>dI j fun w _=>?_
      exact cb g fun x y i u=>FS (F.gl n).1 (F.blt dC) (R.E F i) (R.E F u) (by rw[aH l,aH w];rfl) (aH w)
     ·exact bu g
     all_goals exact bu g
    ·split at h
     ·rename_i v
      rw[yK v];refine aM F.ck h fun o g=>k4 o fun n j z=>?_
      obtain⟨B,k,tp,rfl⟩:=wX z;rcases es with _|⟨a,_|_⟩
      ·exact bu g
      ·refine dI j fun l _=>?_
       unfold trEn at g;dsimp only at g;split at g
       ·exact cq g fun x i=>IL (F.gl n).1 (F.blt dC) (R.E F i) (aH l)
       ·refine aM F.ck g fun o g=>?_
        rw[yK o];exact cb g fun x y i u=>FT (F.gl n).1 (F.blt dC) (R.E F i) (R.E F u) (aH l)
       ·exact bu g
      ·exact bu g
     ·exact s h
 |_=>exact s h
theorem wZ{elt:Î}{gens:List Comprehension}{sc:ĝ}{m:Nx}(h:trL r C elt gens sc=À m):∃t it cs x g c y N',gens=[⟨t,it,cs,0⟩]/\m=.lc (N'.length-X.N.length) x g c y/\jJ X N' sc/\QI X t it (dH ks x)/\(∀cl s H fp Oa,QG (cC X N' sc cl s H fp Oa) t (b8 ks g))/\(∀cl s H fp Oa,vm (cC X N' sc cl s H fp Oa) cs (ju ks c)) /\
  (∀cl s H fp Oa,QE (cC X N' sc cl s H fp Oa) elt (ev ks y))/\pv X.N.length (b8 ks g)/\(∀x,ó it X.env x=pure x):=by
 unfold trL at h;split at h
 ·rename_i t it cs i
  refine aM F.ck h fun p h=>k4 p fun o n l=>hU h fun x d h=>hU h fun g e h=>aM F.ck h fun j k=>?_
  cases yK n;obtain⟨T,a⟩:=F.blk o;obtain⟨c,y,f,b,rfl⟩:=Jl k;exact⟨t,it,cs,x,g,c,y,eZ C sc,rfl,by rw[F.N],T,w6 R F d,fun cl s H fp Oa=>R.G (a cl s H fp Oa) e,fun cl s H fp Oa=>E7 R (a cl s H fp Oa) f,fun cl s H fp Oa=>R.E (a cl s H fp Oa) b,by rw[F.N];exact uk j,rL l⟩
 ·exact bu h
theorem C9{x:Ì}{es:List Î}{p e:ġ}{m:Ex}(h:trF1 r C x e es=À m):QE X (.Call (.Name x p) es [] e) (ev ks m):=by
 rcases es with _|⟨a,_|⟨b,_|_⟩⟩
 ·exact bu h
 ·skip
  refine aM F.ck h fun s g=>k4 s fun d o z=>?_
  rw[yK d];clear h;have t:∀{m},((r.E C a).map fun a=>Ex.nw (hB C e 0) (.lof a))=À m->QE X (.Call (.Name "list" p) [a] [] e) (ev ks m):=fun h=>cq h fun y h=>iG (FQ (F.gl o).1 (F.blt dC) (R.E F h) (aH z))
  cases a with
  |Call f es' kws' q =>
   refine aM F.ck g fun s k=>qF s fun n w v i=>?_
   obtain⟨A,rfl⟩:∃q,f=.Name "range" q:=by
    split at n
    ·rename_i y j
     obtain⟨q,rfl⟩:=xO j;rw[yK n];exact⟨q,rfl⟩
    ·exact mI n
   cases æ.mp w;rcases es' with _|⟨a,_|⟨b,_|⟨c,_|_⟩⟩⟩
   ·exact bu k
   ·exact dI i fun l _=>cq k fun x d=>iG (FP F.calm (F.gl o).1 (F.blt dC) (F.gl v).1 (F.blt dC) (R.E F d) (aH l))
   ·exact dI i fun l i=>dI i fun u _=>cb k fun x y d j=>iG (FO F.calm (F.gl o).1 (F.blt dC) (F.gl v).1 (F.blt dC) (R.E F d) (R.E F j) ((aH l).trans (by rw[aH u];rfl)) (aH u))
   ·exact bu k
   all_goals exact bu k
  |_=>first|exact t g|exact bu g
 all_goals exact bu h
theorem E5{x:Ì}{es:List Î}{p E:ġ}{m:Ex}(h:BZ r C x es E=À m):QE X (.Call (.Name x p) es [] E) (ev ks m):=by
 unfold BZ at h;split at h
 ·rename_i j _
  unfold Ak at h;split at h
  ·refine aM F.ck h fun i h=>qF i fun a n D c=>cq h fun I h=>?_
   unfold KB at a;split at a
   ·rename_i S k B
    refine dI a fun a1 a2=>?_
    obtain⟨d,f,P,w,T,A,Fn,s,H,M,l⟩:=F.ke j _ B;rw[yK a1]at H;obtain⟨g1,u⟩:=F.gl n;cases es with
    |nil=>exact mI D
    |cons Q o =>
     have t:w.length=o.length+2:=by rw[A];exact yK a2
     refine dI c fun c N=>?_
     exact FZ M Fn s g1 H l (gC R F h) (fun L K J v e=>by rw[t,mo F.ck h _ _ _ _ e];rfl) u (aH c) (iU N)
   ·exact mI a
  ·refine aM F.ck h fun i h=>k4 i fun a n c=>cq h fun I h=>?_
   unfold KD at a;split at a
   ·rename_i y m B
    refine dI a fun a i=>?_
    obtain⟨d,f,P,w,A,Fn,s,z,G,l⟩:=F.ke j _ B;obtain⟨g1,u⟩:=F.gl n;rw[yK a]at z;have t:w.length=es.length:=by rw[A];exact yK i
    cases es with
    |nil=>cases h;exact AE (Gb _ Fn) s g1 z G l t u
    |cons Q o =>
     refine dI c fun c O=>?_
     exact DI (Gb _ Fn) s g1 z G l (gC R F h) (fun L K J v e=>by rw[t];exact mo F.ck h _ _ _ _ e) u (aH c) (iU O)
   ·exact mI a
 ·unfold Al at h
  split at h
  ·rename_i b l
   refine aM F.ck h fun i h=>k4 i fun a n D=>cq h fun I g=>?_
   cases es with
   |nil=>exact mI n
   |cons e es =>
    obtain rfl:x=b.nm:=(show ∀ q ∈ HN,q.1=q.2.nm by decide) _ (qT l);exact J4 F b a (gC R F g) D
  ·exact C9 R F h
theorem E3{x:Ì}{es:List Î}{kws:List ń}{p K:ġ}{m:Ex}(h:trK r C x es kws=À m):QE X (.Call (.Name x p) es kws K) (ev ks m):=by
 unfold trK at h;split at h
 rotate_left
 ·exact bu h
 split at h
 ·refine aM F.ck h fun u h=>qF u fun t o n b=>dI b fun b l=>cq h fun y g=>?_
  obtain⟨a,q,rfl⟩:=CJ n;rw[yK t,yK o];exact DF F.calm (F.gl b).1 (F.blt dC) (R.E F g) (aH l)
 ·rename_i a y ps D sc B p1 z d p2
  refine aM F.ck h fun u h=>qF u fun t o n b=>qF b fun b l U k=>dI k fun k S=>hU h fun y L h=>hU h fun w M h=>aM F.ck h fun Q h=>?_
  cases h;obtain⟨a,q,rfl⟩:=CJ b;rw[yK t,yK o,yK n];obtain⟨q,N,i⟩:=Ŧ.mp k;have v:q=B:=by
   refine qF i fun J I G E=>?_
   cases q;cases B;cases yK J;cases yK I;cases yK G;cases yK E;rfl
  subst v;obtain⟨A,c,P,g1,Z,Y,W,V⟩:=F.la q N;obtain⟨x,T,O,j,e,FL⟩:=F.lam A S;exact DC F.calm (F.gl l).1 (F.blt dC) (R.E F L) (aH U) e g1 Z Y W T O j A.in1.depth (kh Q) (fun cl f c' s H=>R.E (FL cl f _ _ s H) M) V
 ·exact bu h
theorem E1{o:Î}{f:Ì}{z p:ġ}{es:List Î}{m:Ex}(h:E2 r C o f z es p=À m):QE X (.Call (.Attribute o f z) es [] p) (ev ks m):=by
 refine aM F.ck h fun L h=>qF L fun g K u t=>?_
 have c:es.length<30:=zJ (ı _) (zS K);split at h
 ·rename_i j _
  refine hU h fun q _ h=>aM F.ck h fun l h=>?_
  revert h;intro h
  refine cb h fun a N i b=>?_
  unfold KA at l;split at l
  ·rename_i V D k I
   refine k4 l fun a1 a2 O=>?_
   obtain⟨d,U,T,B,W,H,Fn,w,s,cl,n,y⟩:=F.ke j _ I;rw[yK a1]at s;rw[yK a2]at n;have x:B.length=es.length+1:=by rw[H];exact yK O
   cases es with
   |nil=>cases b;exact AD (R.E F i) cl s n Fn w y x (uB u g c t)
   |cons M v =>
    have E:=uB (env:=X.env) (f:=f) (o:=o) (es:=M::v) u g c t;refine dI g fun g J=>?_
    exact DG (R.E F i) cl s n Fn w y (gC R F b) (fun S Q P A e=>by rw[x,mo F.ck b _ _ _ _ e]) (aH g) (iU J) E
  ·exact mI l
 ·refine hU h fun q G h=>cb h fun a N i b=>?_
  have e:f=(miA q es).nm:=by
   have e:=(show ∀ q ∈ GO,q.1=q.2.nm by decide) _ (qT G);dsimp only at e;rw [e];cases q <;> first | rfl | (cases es <;> rfl)
  subst e;exact Jk F _ (R.E F i) (gC R F b) (fun e=>by subst e;cases b;rfl) g c u t
theorem C8{a:Î}{l h s:Option Î}{p q:ġ}{m:Ex}(e:trSl r C a l h s p=À m):QE X (.Subscript a (.Slice l h s q) p) (ev ks m):=by
 cases s with
 |none =>
  unfold trSl at e;exact md e fun x y z c b hz=>iG (II (R.E F c) (wY R F b) (wY R F hz))
 |some s =>
  exact bu e
theorem E6{e:Î}{m:Ex}(h:trE r C e=À m):QE X e (ev ks m):=by
 cases e with
 |Constant k a p=>cases k with
  |none=>cases h;exact rY (w:=.non) rfl Gp fun _ _ _ h=>h
  |bool b=>cases h;exact rY rfl Jd fun _ _ _ h=>h
  |int b=>cases h;exact rY rfl Gq fun _ _ _ h=>h
  |str b=>cases h;exact rY rfl Gk fun _ _ _ h=>h
  |_=>exact bu h
 |Name x p=>exact EX F h
 |BinOp a o b p =>
  unfold trE at h;split at h
  ·refine aM F.ck h fun j g=>?_
   cases of_decide_eq_true j;exact cb g fun x y d n=>iG (FR (R.E F d) (R.E F n))
  ·split at h
   ·rename_i u B
    obtain⟨q,rfl⟩:=GW B;refine aM F.ck h fun j g=>?_
    cases of_decide_eq_true j;exact cb g fun x y d n=>iG (FN (gC R F d) (R.E F n))
   ·exact cb h fun x y d n=>F2 (R.E F d) (R.E F n)
 |Compare a os bs p =>
  have h:trCe r C a os bs=À m:=h;rcases os with _|⟨o,_|⟨M,_|_⟩⟩
  ·exact bu h
  ·rcases bs with _|⟨b,_|_⟩<;>first|exact bu h|exact aM F.ck h fun j h=>cb h fun x y d n=>F1 F.hu (R.E F d) (R.E F n) j
  ·exact bu h
  ·exact bu h
 |UnaryOp o a p=>cases o with
  |Not=>exact cq h fun x d=>FY (R.E F d)
  |_=>exact cq h fun x d=>IM (R.E F d)
 |BoolOp o u p=>cases u with
  |nil=>exact bu h
  |cons x u=>exact pJ R F h
 |IfExp t a b p=>exact md h fun x y z d n hz=>IQ (R.T F d) (R.E F n) (R.E F hz)
 |Subscript a i p=>cases i with
  |Slice l h' s q=>exact C8 R F h
  |_=>exact aM F.ck h fun j h=>cb h fun x y d n=>IP F.hu (R.E F d) (R.E F n) (Ju j)
 |Tuple u k p=>exact cq h fun x d=>FX (gC R F d)
 |List u p=>exact cq h fun x d=>iG (Dx (gC R F d))
 |ListComp elt gens sc p =>
  refine cq h fun x d=>?_
  obtain⟨t,it,N,i,g,c,y,O,rfl,rfl,T,a1,a2,L,K,J,I⟩:=wZ R F d;exact iG (Ch F.calm T a1 a2 L K J I)
 |Dict k v p =>
  refine aM F.ck h fun j g=>dI j fun H G=>?_
  cases g;cases æ.mp H;cases æ.mp G;exact DH AW
 |Attribute o f p =>
  refine hU h fun c D h=>aM F.ck h fun j h=>cq h fun x d=>?_
  obtain⟨P,E,cl,A⟩:=F.clb D;exact F0 (R.E F d) cl E A (gw _ j)
 |Call f u kws p=>cases f with
  |Name x q=>cases kws with
   |nil=>exact E5 R F h
   |cons _ _=>exact E3 R F h
  |Attribute o f q =>
   refine aM F.ck h fun j g=>?_
   cases æ.mp j;exact E1 R F g
  |_=>exact bu h
 |_=>exact bu h
theorem EY{e:Î}{m:Tx}(h:trT r C e=À m):QT X e (tv ks m):=by
 cases e with
 |UnaryOp o a p=>cases o with
  |Not=>exact cq h fun x c=>FG (R.T F c)
  |_=>exact cq h fun x c=>xn (R.E F c) (uh rfl)
 |BoolOp o f p=>cases f with
  |nil=>exact bu h
  |cons x f=>exact PW.pt (pH R F h)
 |Compare a os bs p =>
  have h:trCt r C a os bs=À m:=h;rcases os with _|⟨o,_|⟨i,_|_⟩⟩
  ·exact bu h
  ·rcases bs with _|⟨b,_|_⟩<;>first|exact bu h|exact aM F.ck h fun d h=>cb h fun x y c g=>FI F.hu (R.E F c) (R.E F g) d
  ·exact bu h
  ·exact bu h
 |_=>exact aM F.ck h fun d h=>cq h fun x c=>xn (R.E F c) (uh d)
omit R in
theorem vZ{x:Ì}{m:Tg}(h:pG C x=À m):∃k,m=.nm k/\X.N[k]?=À x/\L2.Loc X.env.scope x/\(X.fn x=Â\/X.env.scope.names.lookup x=À .local):=by
 refine hU h fun k c h=>aM F.ck h fun e h=>dI e fun d _=>?_
 cases h;obtain⟨b,a⟩:=F.loc d;exact⟨k,rfl,F.nmb c,b,a⟩
theorem E4{e:Î}{m:Tg}(h:trG r C e=À m):QG X e (b8 ks m):=by
 have i:X.N.Nodup:=by rw[F.N];exact F.nd
 cases e with
 |Name x p =>
  obtain⟨k,rfl,a,b,c⟩:=vZ F h;exact DB i a b c
 |Tuple es k p=>exact aM F.ck h fun f h=>cq h fun x d=>FU F.calm (ui R F d) BD (BE f)
 |Subscript a b p=>exact aM F.ck h fun f h=>cb h fun x y d g=>FV F.hu (R.E F d) (R.E F g) (Fi f)
 |_=>exact bu h
end
theorem xf{env:Q6}{e o i:Î}{p:ġ}{l:Nat}:Ϟ [.Subscript o i p] e l env=pure Ä:=by cases e<;>rfl
theorem xc{env:Q6}{e:Î}{es:List Î}{k:Nat}{p:ġ}{l:Nat}:Ϟ [.Tuple es k p] e l env=pure Ä:=by cases e<;>rfl
section
variable[Od]{ks:List Fn}{r:Tr}(R:BQ r ks){X:Cx}{C:SC}(F:Fit X C ks)
include R F
theorem Da{t v:Î}{p:ġ}{m:Sx}(h:trAs r C t v=À m):QS X (.Assign [t] v p) (cP ks m):=by
 have z:X.N.Nodup:=by rw[F.N];exact F.nd
 have nm:∀{x q v m},oo v=Â->m2 Sx.as (r.E C v) (pG C x)=À m->QS X (.Assign [.Name x q] v p) (cP ks m):=fun j h=>cb h fun a g s e=>by
  obtain⟨k,rfl,a1,a2,u⟩:=vZ F e;exact xp z a1 a2 (R.E F s) (ul j) u
 cases t with
 |Name x q=>cases v with
  |ListComp elt gens sc q2 =>
   refine cb h fun a g s e=>?_
   clear h;obtain⟨k,rfl,D,B,A⟩:=vZ F e;refine cq s fun y J=>?_
   obtain⟨t,it,N,i,g,c,y,P,rfl,rfl,T,a1,a2,u,H,G,E⟩:=wZ R F J;have d:=Fh (env:=X.env) (elt:=elt) (gens:=[⟨t,it,N,0⟩]) (sc:=sc) (pos:=q2) (t:=x) (p:=q) (l:=p.line) F.kind;cases n:Kn X.env.scope.names x q.line sc q2.line with
   |false=>rw[n]at d;exact xp z D B (iG (Ch F.calm T a1 a2 u H G E)) d A
   |true=>rw[n]at d;exact xo z D B d F.calm T a1 a2 u H G E A
  |_=>exact aM F.ck h fun j h=>nm j h
 |Subscript a b q=>exact cb h fun x g w e=>xq (R.E F w) (R.G F e) xf As (vf rfl)
 |Tuple ts k q=>cases v with
  |_=>exact aM F.ck h fun j h=>dI j fun j O=>cb h fun x g w e=>xq (R.E F w) (R.G F e) xc (Ar j) (vf rfl)
 |Attribute o f q =>
  refine hU h fun c K h=>cb h fun a b s L=>?_
  obtain⟨Q,M,cl,I⟩:=F.clb K;exact FM (R.E F s) (R.E F L) cl M I Ao
 |_=>exact bu h
theorem EZ{s:ĸ}{m:Sx}(h:trS r C s=À m):QS X s (cP ks m):=by
 cases s with
 |Expr e p=>exact aM F.ck h fun f h=>cq h fun x c=>Ds (R.E F c) (ul f)
 |Assign ts v p =>
  rcases ts with _|⟨t,_|_⟩
  ·exact bu h
  ·exact Da R F h
  ·exact bu h
 |AugAssign t o v p=>cases t with
  |Subscript a b q=>exact aM F.ck h fun f h=>md h fun x y z c d hz=>Du F.hu (R.E F c) (R.E F d) (R.E F hz) (HQ f)
  |_=>exact bu h
 |Return e p=>cases e with
  | none=>first | exact bu h | (cases h;exact qs_retN)
  |some e=>exact cq h fun x c=>FJ (R.E F c)
 |If t a b p=>exact md h fun x y z c d hz=>IH (R.T F c) (iS R F d) (iS R F hz)
 |For t it b els p =>
  refine aM F.ck h fun f g=>dI f fun j i=>?_
  cases æ.mp j;split at g
  ·exact md g fun x y z c d hz=>Dr F.po F.calm (R.E F c) (R.G F d) (iS R F hz) (rL i)
  exact md g fun x y z c d hz=>FK F.po F.calm (w6 R F c) (R.G F d) (iS R F hz) (rL i)
 |While t b els p =>
  refine aM F.ck h fun f g=>?_
  cases æ.mp f;exact cb g fun x y c d=>AB F.po (R.T F c) (iS R F d)
 |Raise=>cases h;exact Dt
 |_=>exact bu h
end
theorem nW[Od]{ks:List Fn}:∀n:Nat,BQ (tr n) ks
 |0=>⟨fun _ h=>bu h,fun _ h=>bu h,fun _ h=>bu h,fun _ h=>bu h⟩
 |n+1=>⟨fun F h=>E6 (nW n) F h,fun F h=>EY (nW n) F h,fun F h=>E4 (nW n) F h,fun F h=>EZ (nW n) F h⟩
section
variable(P:Ò)(w:Û)(K:á)(mg:Ì->Option Å)(base:ä)
def Nm[Od](d:Nat)(x:Ì)(n:Nat)(fn:Fn):Prop:=∃f b a,a.length=n/\FnOk P w K mg base fx d f b a (dM ⟨K,mg⟩ a.length fn)/\mg x=À (.ref f)/\Ĵ K (.ref f)=Â/\Binds K b a []
def Nc[Od](d:Nat)(c m:Ì)(n:Nat)(fn:Fn):Prop:=∃f b a C,a.length=n/\FnOk P w K mg base fx d f b a (dM ⟨K,mg⟩ a.length fn)/\mg c=À (.ref C)/\Cls K C/\kP K C m f/\Binds K b a []
def Nb[Od](d:Nat)(c:Ì)(n:Nat)(fn:Fn):Prop:=∃f b a C,a.length=n/\FnOk P w K mg base fx d f b a (dM ⟨K,mg⟩ a.length fn)/\mg c=À (.ref C)/\Mk K C f/\Binds K b a []
def KOk[Od](d:Nat)(fn:Fn):Ke->Prop
 |.f x n=>Nm P w K mg base d x n fn
 |.m c m n=>Nc P w K mg base d c m n fn
 |.k c n=>Nb P w K mg base d c n fn
def KsOk[Od](d:Nat):List Ke->List Fn->Prop
 |[],_=>True
 |k::ke,fn::ks=>KOk P w K mg base d fn k/\KsOk d ke ks
 |_::_,[]=>False
structure Ev(gs:List (Ì×AV))(cl:List (Ì×List Ì)):Prop where
 bl:∀x∈bnames,mg x=Á
 gs:∀p∈gs,∀w,qf p.2=À w->∃u,mg p.1=À u/\RelV w u
 cl:∀p∈cl,∃Ca,mg p.1=À (.ref Ca)/\Cls K Ca/\∀f∈p.2,NoAttr K Ca f
end
section
variable{P:Ò}{w:Û}{K:á}{mg:Ì->Option Å}{base:ä}{d d':Nat}{fn:Fn}
theorem KOk.mono[Od](h:d<=d'):∀{k:Ke},KOk P w K mg base d fn k->KOk P w K mg base d' fn k
 |.f _ _,⟨f,fd,ps,e,F,r⟩=>⟨f,fd,ps,e,F.mono h,r⟩
 |.m _ _ _,⟨f,fd,ps,C,e,F,r⟩=>⟨f,fd,ps,C,e,F.mono h,r⟩
 |.k _ _,⟨f,fd,ps,C,e,F,r⟩=>⟨f,fd,ps,C,e,F.mono h,r⟩
theorem KsOk.at[Od]:∀{ke:List Ke}{ks:List Fn}{j:Nat}{k:Ke},KsOk P w K mg base d ke ks->ke[j]?=À k->KOk P w K mg base d (kf ks j) k
 |[],_,_,_,_,e=>by simp at e
 |k::ke,[],_,_,h,_=>h.elim
 |k::ke,fn::ks,0,_,h,e=>by simp at e;subst e;exact h.1
 |k::ke,fn::ks,j+1,_,h,e=>by
  have:=KsOk.at (j:=j) h.2 (by simpa using e)
  exact this
theorem KOk.ok[Od](hr:Room (d+1) A):∀{k:Ke},KOk P w K mg base d fn k->Ic P w K mg base A fn k
 |.f _ _,⟨f,fd,ps,e,F,m,kp,b⟩=>⟨d,f,fd,ps,e,F,hr.mono (Ϩ d),m,kp,b⟩
 |.m _ _ _,⟨f,fd,ps,C,e,F,m,c,me,b⟩=>⟨d,f,fd,ps,C,e,F,hr.mono (Ϩ d),m,c,me,b⟩
 |.k _ _,⟨f,fd,ps,C,e,F,m,mk,b⟩=>⟨d,f,fd,ps,C,e,F,hr,m,mk,b⟩
end
def fV(st:ĸ):List Ì:=(cJ st).args.map (·.arg)
noncomputable def Hw(N ps:List Ì)(sc:ĝ):Bool:=(match sc.kind with|.function=>Â|_=>Ä)&&!sc.isCoroutine&&!sc.isGenerator&&decide N.Nodup&&decide (N.take ps.length=ps) &&
 (ps.all fun x=>match sc.names.lookup x with|some .local=>Â|some .cell=>Â|_=>Ä)&&(sc.names.all fun p=>match p.2 with|.free=>Ä|_=>Â)
theorem Hv(h:Hw N ps sc=Â):mD N ps sc:=by
 unfold Hw at h;simp only[zC,yC]at h;obtain⟨⟨⟨⟨⟨⟨a,k⟩,j⟩,i⟩,g⟩,f⟩,d⟩:=h;refine⟨?_,by simpa using k,by simpa using j,i,g,fun x c=>?_,fun y b e=>?_⟩
 ·split at a
  ·rename_i e;exact e
  ·cases a
 ·have:=yR.mp f x c
  split at this
  ·rename_i e;exact .inl e
  ·rename_i e;exact .inr e
  ·cases this
 ·have:=yR.mp d y b
  rw[e]at this;cases this
structure FH where
 ke:Ke
 qual:Ì
 st:ĸ
 N:List Ì
 cs:List Nat
 d:Nat
 la:List ġ
 cn:List Ì
 hs:List Nat
def FH.tr(e:FH)(k:Bool)(ke:List Ke)(gs:List (Ì×AV))(cl:List (Ì×List Ì)):Option On :=
 gu k (Hw e.N (fV e.st) (bN e.st)&&plainA (cJ e.st)&&decide (fV e.st).Nodup) (nX (R.tr 60) ⟨e.N,uf k (bN e.st).names,e.N,ke,gs,cl,e.la,e.cn,e.hs,k⟩ (cH e.st))
section
variable{P:Ò}{w:Û}{K:á}{mg:Ì->Option Å}{base:ä}{d:Nat}{x qual:Ì}{st:ĸ}{f:Ç}{fd:ĕ}{N:List Ì}{ke:List Ke}{ks:List Fn}{gs:List (Ì×AV)}{cl:List (Ì×List Ì)}{la:List ġ}{b:On}
theorem JH[Od]{N ps:List Ì}{k:Nat}{b:SF}(F:Fun K x qual st f fd)(S:mD N ps (bN st))
  (c:∀(A:ċ)(outer:List Q6)(s:É)(H:Hp)(E:XK),Room k (A.deeper (ϣ qual (bN st) s.heap.objs.size f fd.code))->nq (p0 fx P w K mg base N qual (bN st) f fd.code A outer s H E).nox (cH st) b) :
  FnOk P w K mg base fx (k+1) f fd ps (dM ⟨K,mg⟩ ps.length (run N.length b)):=by
 obtain⟨O,M,kV,J,pm,T,L,ct,C,rfl,lk,i⟩:=F.ex;refine JG lk i S (fun u H Q E h=>h.1) fun A outer s H u Q E D h=>?_
 obtain⟨R,P,p,n,st,r,z,k⟩:=h;have G:=c A outer s H E D;refine⟨_,PSs.nox G,?_⟩;obtain⟨v,y,e,q⟩:=k;obtain⟨o,I,d⟩:=zA e;refine⟨P,p,_,st,Di r,z,o,I,?_⟩;cases o with
 |nx sl st1=>cases d;exact fun l a m t j g _=>q l a m .non j g (by simp only[RA])
 |rt v st1=>cases d;exact fun l a m w j g B=>q l a m w j g B
 |bk sl st1=>cases d
 |ct sl st1=>cases d
def tY[Od](mg:Ì->Option Å)(a:ä)(qual:Ì)(cd:Å)(la:List ġ):Prop:=∀p∈la,∃c P,cd=.ref c/\U0 a c P/\jD mg a/\(P,p,qual++".<locals>."++"<lambda>")∈Od.tb/\∀t∈Od.tb,t.1=P->t=(P,p,qual++".<locals>."++"<lambda>")
theorem oX[Od]{e:FH}(F:Fun K x qual e.st f fd)(E:Ev K mg gs cl)(g:tY mg base qual fd.code e.la)(l:KsOk P w K mg base d ke ks)(h:e.tr Â ke gs cl=À b) :
  FnOk P w K mg base fx (d+3) f fd (fV e.st) (dM ⟨K,mg⟩ (fV e.st).length (run e.N.length (ag ks b)))/\Binds K fd (fV e.st) []:=by
 refine aM rfl h fun r m=>k4 r fun q o n=>?_
 have S:=Hv q;refine⟨JH F S fun A c s H B a=>?_,F.binds fun kV t pm z u y v g=>bind_plain o rfl (of_decide_eq_true n) g⟩;exact iS (nW _) ⟨rfl,rfl,rfl,S.nd,S.kind,rfl,fun _ _=>rfl,a.units,a.gd,E.bl,PassesOwn.never,fun j k e=>(l.at e).ok (a.mono oM),E.gs,E.cl,fun p i=>⟨a.mono oM,g p i⟩⟩ m
end
structure FE extends FH where
 b:On
def FE.fn(e:FE)(fs:List Fn):Fn:=run e.N.length (ag (e.cs.map (kf fs)) e.b)
def FE.ok[Od](e:FE)(K:á)(mg:Ì->Option Å)(a:ä):Prop:=match e.ke with
 |.f x _=>∃f b,mg x=À (.ref f)/\Fun K x e.qual e.st f b/\tY mg a e.qual b.code e.la
 |.m c m _=>∃f b C,mg c=À (.ref C)/\Cls K C/\kP K C m f/\Fun K m e.qual e.st f b/\tY mg a e.qual b.code e.la
 |.k c _=>∃f b C,mg c=À (.ref C)/\Mk K C f/\Fun K "__init__" e.qual e.st f b/\tY mg a e.qual b.code e.la
noncomputable def Ke.n:Ke->Nat
 |.f _ n=>n
 |.m _ _ n=>n
 |.k _ n=>n
noncomputable def sK(pre:List FE)(j:Nat):Ke:=match pre[j]? with
 |some e=>e.ke
 |none=>.f "" 0
def FE.chk(gs:List (Ì×AV))(cl:List (Ì×List Ì))(pre:List FE)(e:FE):Option On :=
 gu Â (e.ke.n==(fV e.st).length&&e.cs.all (fun j=>match pre[j]? with|some g=>Þ (g.d+3) e.d|none=>Ä)&&Þ 3 e.d) (e.tr Â (e.cs.map (sK pre)) gs cl)
def pb(gs:List (Ì×AV))(cl:List (Ì×List Ì)):List FE->List FE->List (Option On)
 |_,[]=>[]
 |pre,e::r=>e.chk gs cl pre::pb gs cl (pre++[e]) r
def jr:List Fn->List FE->List Fn
 |fs,[]=>fs
 |fs,e::r=>jr (fs++[e.fn fs]) r
section
variable{P:Ò}{w:Û}{K:á}{mg:Ì->Option Å}{base:ä}{gs:List (Ì×AV)}{cl:List (Ì×List Ì)}
def re[Od](P:Ò)(w:Û)(K:á)(mg:Ì->Option Å)(a:ä)(pre:List FE)(fs:List Fn):Prop:=pre.length=fs.length/\∀(j:Nat) e,pre[j]?=À e->KOk P w K mg a e.d (kf fs j) e.ke
theorem wq[Od]{d:Nat}(h:re P w K mg base pre fs):∀cs:List Nat,(cs.all fun j=>match pre[j]? with|some g=>Þ (g.d+3) (d+3)|none=>Ä)=Â->KsOk P w K mg base d (cs.map (sK pre)) (cs.map (kf fs))
 |[],_=>trivial
 |j::cs,hc=>by
  rw[ĵ,zC]at hc;refine⟨?_,wq h cs hc.2⟩;have h1:=hc.1;split at h1
  ·rename_i g a
   have:=h.2 j g a
   unfold sK;rw[a];exact this.mono (by have:=zS h1;lia)
  ·cases h1
theorem JI[Od]{pre:List FE}{fs:List Fn}{e:FE}(E:Ev K mg gs cl)(h:re P w K mg base pre fs)(k:e.ok K mg base)(r:e.chk gs cl pre=À e.b):KOk P w K mg base e.d (e.fn fs) e.ke:=by
 obtain⟨y,u,v,t⟩:(e.ke.n==(fV e.st).length)=Â/\(e.cs.all fun j=>match pre[j]? with|some g=>Þ (g.d+3) e.d|none=>Ä)=Â/\Þ 3 e.d=Â/\e.tr Â (e.cs.map (sK pre)) gs cl=À e.b:=aM rfl r fun z h=>k4 z fun a b c=>⟨a,b,c,h⟩
 have i:=yK y;obtain⟨d,hd⟩:∃d,e.d=d+3:=⟨e.d-3,by have:=zS v;lia⟩;rw[hd]at u ⊢;have q:=wq h e.cs u;unfold FE.fn;unfold FE.ok at k;split at k
 ·rename_i x n o
  obtain⟨f,l,m,F,L⟩:=k;obtain⟨a1,a2⟩:=oX (e:=e.toFH) F E L q t;rw[o]at i ⊢;exact⟨f,l,fV e.st,i.symm,a1,m,F.kp,a2⟩
 ·rename_i c m n o
  obtain⟨f,l,C,s,r,p,F,L⟩:=k;obtain⟨a1,a2⟩:=oX (e:=e.toFH) F E L q t;rw[o]at i ⊢;exact⟨f,l,fV e.st,C,i.symm,a1,s,r,p,a2⟩
 ·rename_i c n o
  obtain⟨f,l,C,s,p,F,L⟩:=k;obtain⟨a1,a2⟩:=oX (e:=e.toFH) F E L q t;rw[o]at i ⊢;exact⟨f,l,fV e.st,C,i.symm,a1,s,p,a2⟩
theorem yc{j:Nat}(h:j<fs.length):kf (fs++[g]) j=kf fs j:=by
 unfold kf;rw[zD,zD,zN h]
theorem Er:kf (fs++[g]) fs.length=g:=by
 unfold kf;rw[zD];simp
theorem uv[Od](E:Ev K mg gs cl):∀(rest pre:List FE)(fs:List Fn),re P w K mg base pre fs->(∀e∈rest,e.ok K mg base)->pb gs cl pre rest=rest.map (fun e=>À e.b)->re P w K mg base (pre++rest) (jr fs rest)
 |[],pre,fs,h,_,_=>by rw[ò];exact h
 |e::r,pre,fs,h,hf,hc=>by
  obtain⟨hc1,hc2⟩:=List.cons.inj hc;have c:=JI E h (hf e z7) hc1
  have:=uv E r (pre++[e]) (fs++[e.fn fs]) ⟨by simp[h.1],fun j g a=>?_⟩ (fun g a=>hf g (zQ _ a)) hc2
  ·rw[yN]at this;exact this
  ·rcases yU j pre.length with b|b
   ·rw[zN b]at a
    rw[yc (by rw[<- h.1];exact b)];exact h.2 j g a
   ·have d:j=pre.length:=by
     have:=(zB.mp a).1
     rw[zV]at this;simp at this;lia
    subst d;simp at a;subst a;rw[h.1,Er];exact c
end
theorem Jq[Od]{K:á}{mg:Ì->Option Å}{H:Hp}{a:Ç}{ns:List Int}{fn:Fn}{E:XK}(k:∃st,fn [.fz (ns.map .int)] []=À (.bl Â,st))(l:bR K H a (ns.map V.int))(g:∀t∈Od.tb,gx H t.1 t.2.1 t.2.2):dM ⟨K,mg⟩ 1 fn [.ref a] H (fun v _=>v=.bl Â) E:=by
 obtain ⟨st,e⟩:=k;refine ⟨rfl,fun c=>∃ b,Rd H c (.lst b),[],[.fz (ns.map .int)],[],aX ?_ bn,Sim.nil (fun c h=>?_) (fun t i=>⟨g t i,fun d=>by obtain ⟨b,z⟩:=d;obtain ⟨n,e,_⟩:=g t i;rcases z with z | ⟨o,z⟩ <;> (rw [e] at z;cases z)⟩),.bl Â,st,e,fun p j m w f s r=>by simpa only [RA] using r⟩
 ·simp only[RA]
  refine⟨a,ns.map V.int,rfl,?_,Og.of_ints⟩;rcases l with h|h
  ·exact .inl ⟨⟨_,h⟩,h⟩
  ·exact .inr fun m=>.inr h
 ·obtain ⟨b,h | ⟨o,h⟩⟩:=h <;> (rw [h];exact fun z=>nomatch z)
end R
namespace L2
open PySem PySem.Spec PyProof.Rows
theorem ya{P:Ò}{w:Û}{K:á}{mg X:Ì->Option Å}{CX:lV}{k:Nat}{fa a:Ç}{fd:ĕ}{x:Ì}{sp:Sp}{c:É}{vs:List Å}{ns:List Int}{tabs:List (Ç×Addr)}
  (KX:K.In c.heap) (B:c.heap.Ns Ð mg) (g:c.heap.Ns Ę X) (hbb:∀x:Ì,x≠"__name__"->X x=â x) (J:c.heap.NoLimit) (hg:c.gens=#[])
  (D:∃D ob,mg "__builtins__"=À (.ref D)/\D≠Ę/\c.heap.get? D=À ob/\ob.cls=.type "module"/\ob.dict=À Ę/\ob.data=.plain)
  (p:TabsAt tabs c.heap) (hK0:noTabs K=Â)
  (E:c.heap.get? a=À { cls:=.type "list",data:=.seq vs.toArray }) (hi:Ÿ vs ns) (hl:ns.length<=Ë) (hr:Room k ŷ)
  (F:∀base:ä,K.In base->base.Ns Ð mg->jD mg base->FnOk P w K mg base CX k fa fd [x] sp) (C:∀(s:É)(u:Å),q! s fd ⟨[u],[]⟩ [(x,u)])
  (Y:∀H:Hp,(∀q∈tabs,H q.2=À (.tbl #[]))->bR K H a (ns.map V.int)->sp [.ref a] H (fun v _=>v=.bl Â) fun _ _ _=>False)
  (hCX:∀H e s',CX [] H c (fun _ _ _=>False) e s'->False) :
  ł (model P w) ŷ (.call (.ref fa) ⟨[.ref a],[]⟩) (fun r s'=>r=.ok (.ret (.bool Â))/\OldK c.heap s'.heap/\s'.os=c.os/\ź s'.gens) c:=by
 have rv:=wO hi;have I:=hi.length;have y:∀H:Hp,bR K H a (ns.map V.int)->HOk P w H c.heap->(∀b,H b=Á\/(b=a/\K.lookup a=Á/\∃o xs,H b=À (.frz o (.lst xs)))\/(∃q∈tabs,b=q.2/\H b=À (.tbl #[])))->(∀q∈tabs,H q.2=À (.tbl #[])) ->
   ł (model P w) ŷ (.call (.ref fa) ⟨[.ref a],[]⟩) (fun r s'=>r=.ok (.ret (.bool Â))/\OldK c.heap s'.heap/\s'.os=c.os/\ź s'.gens) c:=by
  intro H hS Oi R hTb;have gw:∀{b:Ç}{o:W?},c.heap.get? b=À o->H b=Á->(jF c.heap H).get? b=À o:=fun e n=>Bu e n
  have none_of:∀{b:Ç}{o:W?},c.heap.get? b=À o->o.cls≠.type "list"->o≠O? #[]->H b=Á:=fun {b o} e n1 n2=>by
   rcases R b with z|⟨rfl,_⟩|⟨q,f,rfl,_⟩
   ·exact z
   ·rw[E]at e;cases e;exact absurd rfl n1
   ·rw[(p q f).2]at e;cases e;exact absurd rfl n2
  have j:∀{b:Ç}{o:W?}{M:Array DictEntry}{N:Nat},c.heap.get? b=À o->o.data=.dict M N->H b=Á:=fun {b o M N} e d=>by
   rcases R b with z|⟨rfl,_⟩|⟨q,f,rfl,_⟩
   ·exact z
   ·rw[E]at e;cases e;cases d
   ·rw[(p q f).2]at e;cases e;cases d
  have l:∀{b:Ç}{m:Ì->Option Å},c.heap.Ns b m->(jF c.heap H).Ns b m:=fun {b m} ⟨o,M,N,e,d,r⟩=>⟨o,M,N,gw e (j e d),d,r⟩
  have L:K.In (jF c.heap H):=fun b o e=>gw (KX b o e) (by
   rcases R b with z|⟨rfl,z,_⟩|⟨q,f,rfl,_⟩
   ·exact z
   ·rw[z]at e;cases e
   ·have O:=KX _ o e
    rw[(p q f).2]at O;cases O;have h2:=yR.mp hK0 _ (mem_of_lookupK e);exact absurd (show Ä=Â from h2) Ĝ)
  have hM:Mod K mg (jF c.heap H):=⟨L,l B,⟨X,l g,hbb⟩,let⟨mc,h1,h2⟩:=J;⟨mc,l h1,h2⟩⟩;have hBM:jD mg (jF c.heap H):=by
   obtain⟨D,ob,b1,b2,T,S,b5,b6⟩:=D;refine⟨D,ob,b1,b2,fun z=>?_,gw T (none_of T (by rw[S];intro z;injection z with z;exact absurd z dC) (fun z=>by rw[z]at S;cases S)),S,b5,b6⟩;obtain⟨o,M,N,e,d,_⟩:=B;rw[z,e]at T;cases T;rw[d]at b6;cases b6
  have e0:Env0 P w K mg (jF c.heap H) ŷ [] c H:=⟨rfl,hM,fun b o e=>Ee e,Ϝ (yp _ _),trivial,fun b g=>absurd (show b ∈ ([]:List Ç) from g) (by simp),Oi,.of_eq hg⟩;refine ř ((F _ L (l B) hBM).run ŷ [] c H ⟨[.ref a],[]⟩ [.ref a] [.ref a] _ _ hr e0 (C c (.ref a)) (.cons rfl .nil) (Y H hTb hS)) fun r s' h=>?_
  cases r with
  |error e=>exact(hCX H e s' h).elim
  |ok fl =>
   cases fl with
   |next=>exact False.elim h
   |brk=>exact False.elim h
   |cont=>exact False.elim h
   |ret u =>
    obtain⟨v,H',os,Q,un,t,r',q⟩:=h;have q':v=.bl Â:=q;subst q';obtain rfl:u=F! Â:=r';have W:∀b o,c.heap.get? b=À o->asItWas c.heap s'.heap b o:=fun b o e=>by
     rcases R b with z|⟨rfl,_,ob,xs,z⟩|⟨q,f,rfl,z⟩
     ·exact .inl (un.keep b o e z (by intro z;exact absurd (show b ∈ ([]:List Ç) from z) (by simp)) (by simp))
     ·have U:=un.frzs b ob _ z
      obtain⟨O,_⟩:=Oi b _ z;obtain⟨e2,_⟩:=t b _ U;rw[e]at O;cases O;exact .inl e2
     ·obtain⟨G,U⟩:=un.tbls _ _ z
      have e2:=t _ _ U;rw[(p q f).2]at e;cases e;exact .inr (.inl ⟨((p q f).1.tab (p q f).2).isCodeTable,rfl,#[],G,rfl,e2⟩)
    refine⟨rfl,⟨W,fun b o e=>?_⟩,os,Q⟩;exact un.there b o e (by simp)
 have A:∀q∈tabs,q.2≠a:=fun q f e=>by
  have:=(p q f).2
  rw[e,E]at this;cases this
 cases Z:K.lookup a with
 |some o =>
  have e:=KX a o Z;rw[E]at e;cases e;refine y (fun b=>if b∈tabs.map (·.2) then À (.tbl #[]) else Á) (.inr ⟨_,vs.toArray,_,Z,rfl,rfl,rfl,by rw[zI,I];exact hl,by simpa using rv⟩) (fun b u z=>?_) (fun b=>?_) fun q f=>yI (ϊ f)
  ·dsimp only at z
   by_cases g:b∈tabs.map (·.2)
   ·rw[yI g]at z;cases z
    obtain⟨q,f,rfl⟩:=yD.mp g;exact(p q f).2
   ·rw[yH g]at z;cases z
  ·by_cases g:b∈tabs.map (·.2)
   ·obtain⟨q,f,rfl⟩:=yD.mp g
    exact .inr (.inr ⟨q,f,rfl,yI g⟩)
   ·exact .inl (yH g)
 |none =>
  refine y (fun b=>if b∈tabs.map (·.2) then À (.tbl #[]) else if b=a then À (.frz { cls:=.type "list",data:=.seq vs.toArray } (.lst (ns.map V.int))) else Á) (.inl (.inr ⟨{ cls:=.type "list",data:=.seq vs.toArray },?_⟩)) (fun b u z=>?_) (fun b=>?_) fun q f=>yI (ϊ f)
  ·dsimp only
   rw[yH (fun z=>by obtain⟨q,f,e⟩:=yD.mp z;exact A q f e),yI rfl]
  ·dsimp only at z
   by_cases g:b∈tabs.map (·.2)
   ·rw[yI g]at z;cases z
    obtain⟨q,f,rfl⟩:=yD.mp g;exact(p q f).2
   ·rw[yH g]at z
    by_cases i:b=a
    ·rw[yI i]at z;cases z
     subst i;exact⟨E,by rw[zH];exact hl,vs,_,rv,E⟩
    ·rw[yH i]at z;cases z
  ·by_cases g:b∈tabs.map (·.2)
   ·obtain⟨q,f,rfl⟩:=yD.mp g
    exact .inr (.inr ⟨q,f,rfl,yI g⟩)
   ·by_cases i:b=a
    ·exact .inr (.inl ⟨i,Z,_,_,(yH g).trans (yI i)⟩)
    ·exact .inl ((yH g).trans (yH i))
theorem EO{l:K?}{n k:Nat}{q:Ò}{bZ:List Ì}{S:(Ì->Option Å)->ä->Prop}{C:Û->ä->Prop}{d:DefRec}{K:Params->á}{sp:Û->Sp}{x:Ì}{tabs:List (Ç×Addr)}
  (E:l.most=À n) (j:n<=Ë) (p:d.params.defaults=[]) (D:Room k ŷ)
  (N:∀(w:Û)(h:ä),C w h->(K w.params).In h/\∀q∈tabs,h.get? q.2=À (O? #[])) (L:∀(w:Û),∀q∈tabs,codeHdIn (K w.params) q.1 q.2=Â) (t:∀(w:Û),noTabs (K w.params)=Â)
  (F:∀(w:Û)(mg:Ì->Option Å)(fa:Ç)(h:ä),(K w.params).In h->h.Ns Ð mg->mg d.name=À (.ref fa) ->
   ∃fd:ĕ,(∀(s:É)(u:Å),q! s fd ⟨[u],[]⟩ [(x,u)]) /\
    ∀base:ä,(K w.params).In base->base.Ns Ð mg->jD mg base->FnOk l.prog w (K w.params) mg base fx k fa fd [x] (sp w))
  (i:∀(w:Û)(H:Hp)(a:Ç)(ns:List Int),ns.length<=n->(∀q∈tabs,H q.2=À (.tbl #[]))->bR (K w.params) H a (ns.map V.int)->sp w [.ref a] H (fun v _=>v=.bl Â) fun _ _ _=>False) :
  P9 q bZ S C l.row.toRowW d [] (fun f vs=>F? f vs):=by
 refine Att.attach_call E p fun w A y mg U fa o pm X R a vs ns G Y W hd J m g c b I=>?_
 obtain⟨KX,r⟩:=N w _ Y;obtain⟨fd,M,Q⟩:=F w mg fa _ KX G.T.g m;exact ya (tabs:=tabs) KX G.T.g G.T.b G.T.builtins G.T.nolimit I G.T.bmain (fun q B=>⟨codeHd_of_K KX (L w q B),r q B⟩) (t w) g c (z5 b j) D Q M (fun H P O=>i w H a ns b P O) fun H e T z=>z
end L2
namespace R
open PySem PySem.Spec PyProof.Rows L2
abbrev qI[Od](K:á)(qual:Ì)(cd:Å)(la:List ġ):Prop:=la=[]\/∃p c P,la=[p]/\cd=.ref c/\codeHdIn K c P=Â/\Od.tb=[(P,p,qual++".<locals>."++"<lambda>")]
abbrev FactF[Od](K:á)(x:Ì)(e:FE):Prop:=∃(f:Ç)(d:Å)(c:Option Ç)(b:Array (Option Å))(kV g pm:Å)(i:Option Ç)(a h:Å),nsIn K Ð x=À (À (.ref f)) /\
 K.lookup f=À ⟨d,c,.func (fnOf x e.qual (cJ e.st) (cH e.st) (bN e.st) .none kV g pm i a h),b⟩/\ϑ K a e.qual=Â/\Ĵ K (.ref f)=Â/\qI K e.qual a e.la
abbrev FactM[Od](K:á)(c m:Ì)(e:FE):Prop:=∃(C f:Ç)(g:Å)(d:Option Ç)(b:Array (Option Å))(kV h pm:Å)(j:Option Ç)(a i:Å),nsIn K Ð c=À (À (.ref C))/\ō K (.ref C) m=À (À (.ref f)) /\
 K.lookup f=À ⟨g,d,.func (fnOf m e.qual (cJ e.st) (cH e.st) (bN e.st) .none kV h pm j a i),b⟩/\ϑ K a e.qual=Â/\Ĵ K (.ref f)=Â/\isFn K (.ref f)=Â/\qI K e.qual a e.la
section
variable[Od]{K:á}{C f:Ç}{oc:Å}{od:Option Ç}{sl:Array (Option Å)}{kV dc pm:Å}{an:Option Ç}{cd ct:Å}{x:Ì}{e:FE}
theorem ff(a:nsIn K Ð x=À (À (.ref f)))(l:K.lookup f=À ⟨oc,od,.func (fnOf x e.qual (cJ e.st) (cH e.st) (bN e.st) .none kV dc pm an cd ct),sl⟩)(c:ϑ K cd e.qual=Â)(k:Ĵ K (.ref f)=Â)(L:qI K e.qual cd e.la):FactF K x e:=⟨_,_,_,_,_,_,_,_,_,_,a,l,c,k,L⟩
theorem fm(a:nsIn K Ð x=À (À (.ref C)))(b:ō K (.ref C) m=À (À (.ref f)))(l:K.lookup f=À ⟨oc,od,.func (fnOf m e.qual (cJ e.st) (cH e.st) (bN e.st) .none kV dc pm an cd ct),sl⟩)(c:ϑ K cd e.qual=Â)(k:Ĵ K (.ref f)=Â)(i:isFn K (.ref f)=Â)(L:qI K e.qual cd e.la):FactM K x m e:=⟨_,_,_,_,_,_,_,_,_,_,_,a,b,l,c,k,i,L⟩
end
abbrev FactN(K:á)(c:Ì):Prop:=∃C:Ç,nsIn K Ð c=À (À (.ref C))/\U6 K C=Â/\Ĵ K (.ref C)=Â
abbrev pw(K:á)(c:Ì):Prop:=∃C:Ç,nsIn K Ð c=À (À (.ref C))/\u! K C Str.empty=Â/\J! K C=Â/\V7 K C=Â/\ō K (.ref C) "__setattr__"=À (À (.builtin "object.__setattr__"))
abbrev wM(K:á)(c:Ì)(fs:List Ì):Prop:=∃C:Ç,nsIn K Ð c=À (À (.ref C))/\(fs.all fun f=>match ō K (.ref C) f with|some Á=>Â|_=>Ä)=Â
abbrev CV(K:á):Prop:=(bnames.all fun x=>match nsIn K Ð x with|some Á=>Â|_=>Ä)=Â
section
variable[Od]{K:á}{h base:ä}{mg:Ì->Option Å}
theorem qV(B:K.In base)(g:jD mg base)(L:qI K qual cd la):tY mg base qual cd la:=by
 intro p b;rcases L with rfl|⟨q,c,P,rfl,e,f,a⟩
 ·cases b
 ·rw[zM.mp b]
  exact⟨c,P,e,codeHd_of_K B f,g,by rw[a];simp,fun t d _=>by rw[a]at d;exact zM.mp d⟩
theorem FactF.ok{n:Nat}(b:e.ke=.f x n)(F:FactF K x e)(X:K.In h)(G:h.Ns Ð mg)(B:K.In base)(d:jD mg base):e.ok K mg base:=by
 obtain⟨f,j,i,g,kV,m,pm,q,p,o,a,l,c,k,L⟩:=F;unfold FE.ok;rw[b];exact⟨f,_,U5 X G a,oY l c k,qV B d L⟩
theorem ze(F:pw K c)(X:K.In h)(G:h.Ns Ð mg)(b:nsIn K Ð c=À (À (.ref C))):mg c=À (.ref C)/\Cls K C:=by
 obtain⟨i,a,g,f,e,d⟩:=F;rw[b]at a;cases a;exact⟨U5 X G b,⟨g,f,e,d⟩⟩
theorem FactM.ok{n:Nat}(d:e.ke=.m c m n)(F:FactM K c m e)(p:pw K c)(X:K.In h)(G:h.Ns Ð mg)(B:K.In base)(j:jD mg base):e.ok K mg base:=by
 obtain⟨C,f,s,r,q,kV,t,pm,w,v,u,a,g,l,o,k,i,L⟩:=F;unfold FE.ok;rw[d];obtain⟨b,m2⟩:=ze p X G a;exact⟨f,_,C,b,m2,⟨g,i,k⟩,oY l o k,qV B j L⟩
theorem FactN.ok{n:Nat}(j:e.ke=.k c n)(F:FactM K c "__init__" e)(N:FactN K c)(X:K.In h)(G:h.Ns Ð mg)(B:K.In base)(m:jD mg base):e.ok K mg base:=by
 obtain⟨C,f,r,q,p,kV,s,pm,v,u,t,a,g,l,o,k,i,L⟩:=F;obtain⟨w,b,d,m2⟩:=N;rw[a]at b;cases b;unfold FE.ok;rw[j];exact⟨f,_,C,U5 X G a,⟨d,g,i,m2⟩,oY l o k,qV B m L⟩
abbrev FactG(K:á)(p:Ì×AV):Prop:=match p.2 with
 |.int i=>∃t,nsIn K Ð p.1=À (À (.int i t))
 |.str x=>∃t,nsIn K Ð p.1=À (À (.str x t))
 |_=>False
theorem FactG.ok(F:FactG K p)(X:K.In h)(G:h.Ns Ð mg):∀w,qf p.2=À w->∃u,mg p.1=À u/\RelV w u:=by
 obtain⟨x,c⟩:=p;intro w a;cases c with
 |int i=>obtain⟨t,e⟩:=F;cases a;exact⟨_,U5 X G e,t,rfl⟩
 |str y=>obtain⟨t,e⟩:=F;cases a;exact⟨_,U5 X G e,t,rfl⟩
 |_=>exact F.elim
theorem JL(X:K.In h)(G:h.Ns Ð mg)(k:CV K)(g:∀p∈gs,FactG K p)(j:∀p∈cl,pw K p.1/\wM K p.1 p.2):Ev K mg gs cl:=by
 refine⟨fun x d=>?_,fun p b=>(g p b).ok X G,fun p b=>?_⟩
 ·have:=yR.mp k x d
  split at this
  ·rename_i e;exact mg_none_of X G e
  ·cases this
 ·obtain⟨l,C,a,fs⟩:=j p b
  obtain⟨c,m2⟩:=ze l X G a;refine⟨C,c,m2,fun f i=>?_⟩
  have:=yR.mp fs f i
  split at this
  ·rename_i e;exact e
  ·cases this
end
abbrev iO[Od](K:á)(e:FE):Prop:=match e.ke with
 |.f x _=>FactF K x e
 |.m c m _=>FactM K c m e
 |.k c _=>FactM K c "__init__" e/\FactN K c
section
variable[Od]{K:á}{C f:Ç}{oc:Å}{od:Option Ç}{sl:Array (Option Å)}{kV dc pm:Å}{an:Option Ç}{cd ct:Å}{x m:Ì}{n:Nat}{e:FE}
theorem fe_f(b:e.ke=.f x n)(a:nsIn K Ð x=À (À (.ref f)))(l:K.lookup f=À ⟨oc,od,.func (fnOf x e.qual (cJ e.st) (cH e.st) (bN e.st) .none kV dc pm an cd ct),sl⟩)(c:ϑ K cd e.qual=Â)(k:Ĵ K (.ref f)=Â)(L:qI K e.qual cd e.la):iO K e:=by unfold iO;rw[b];exact ff a l c k L
theorem fe_m(d:e.ke=.m x m n)(a:nsIn K Ð x=À (À (.ref C)))(b:ō K (.ref C) m=À (À (.ref f)))(l:K.lookup f=À ⟨oc,od,.func (fnOf m e.qual (cJ e.st) (cH e.st) (bN e.st) .none kV dc pm an cd ct),sl⟩)(c:ϑ K cd e.qual=Â)(k:Ĵ K (.ref f)=Â)(i:isFn K (.ref f)=Â)(L:qI K e.qual cd e.la):iO K e:=by unfold iO;rw[d];exact fm a b l c k i L
end
def j6[Od](K:á):List FE->Prop
 |[]=>True
 |e::r=>iO K e/\j6 K r
section
variable[Od]{K:á}{C f:Ç}{oc:Å}{od:Option Ç}{sl:Array (Option Å)}{kV dc pm:Å}{an:Option Ç}{cd ct:Å}{x:Ì}{n:Nat}{e:FE}{r:List FE}
theorem fe_k(g:e.ke=.k x n)(a:nsIn K Ð x=À (À (.ref C)))(b:ō K (.ref C) "__init__"=À (À (.ref f)))(l:K.lookup f=À ⟨oc,od,.func (fnOf "__init__" e.qual (cJ e.st) (cH e.st) (bN e.st) .none kV dc pm an cd ct),sl⟩)(c:ϑ K cd e.qual=Â)(k:Ĵ K (.ref f)=Â)(i:isFn K (.ref f)=Â)(L:qI K e.qual cd e.la)
  (d:U6 K C=Â) (m2:Ĵ K (.ref C)=Â):iO K e:=by unfold iO;rw[g];exact⟨fm a b l c k i L,C,a,d,m2⟩
theorem fes_c(h:iO K e)(t:j6 K r):j6 K (e::r):=⟨h,t⟩
theorem fes_n:j6 K []:=trivial
end
noncomputable def BK(cl:List (Ì×List Ì))(e:FE):Bool:=match e.ke with
 |.m c _ _=>decide (c∈cl.map (·.1))
 |_=>Â
theorem tf[Od]{K:á}{h b:ä}{mg:Ì->Option Å}(X:K.In h)(G:h.Ns Ð mg)(B:K.In b)(d:jD mg b)(g:∀p∈cl,pw K p.1/\wM K p.1 p.2):∀{pre:List FE},pre.all (BK cl)=Â->j6 K pre->∀e∈pre,e.ok K mg b
 |[],_,_,_,h=>nomatch h
 |a::r,hx,h,e,he=>by
  rw[ĵ,zC]at hx;rcases zT.mp he with rfl|he
  ·have h1:=h.1
   have f:=hx.1;unfold iO at h1;unfold BK at f;split at h1
   ·rename_i c;exact FactF.ok c h1 X G B d
   ·rename_i c
    rw[c]at f;obtain⟨p,i,j⟩:=yD.mp (of_decide_eq_true f);exact FactM.ok c h1 (by rw[<- j];exact(g p i).1) X G B d
   ·rename_i c;exact FactN.ok c h1.1 h1.2 X G B d
  ·exact tf X G B d g hx.2 h.2 e he
def C3:List Fn->List FE->List Fn->Prop
 |_,[],[]=>True
 |fs,e::r,F::Fs=>e.fn fs=F/\C3 (fs++[F]) r Fs
 |_,_,_=>False
theorem yz:∀{pre:List FE}{fs Fs:List Fn},C3 fs pre Fs->jr fs pre=fs++Fs
 |[],fs,[],_=>(ò fs).symm
 |e::r,fs,F::Fs,h=>by
  show jr (fs++[e.fn fs]) r=_;rw[h.1,yz h.2];simp
 |[],_,_::_,h=>h.elim
 |_::_,_,[],h=>h.elim
theorem law_F[Od]{P:Ò}{w:Û}{K:á}{h:ä}{mg:Ì->Option Å}{J:Ç}{gs:List (Ì×AV)}{cl:List (Ì×List Ì)}{pre:List FE}{e:FE}{fn:Fn}(X:K.In h)(G:h.Ns Ð mg)(y:mg "law"=À (.ref J))
  (W:CV K) (u:∀p∈gs,FactG K p) (C:∀p∈cl,pw K p.1/\wM K p.1 p.2) (r:pb gs cl [] pre=pre.map fun e=>À e.b) (z:e.chk gs cl pre=À e.b)
  (T:pre.all (BK cl)=Â) (n:j6 K pre) (Y:FactF K "law" e) (i:fV e.st=[("_law_script":Ì)]) (x:e.fn (jr [] pre)=fn) :
  ∃fd:ĕ,(∀(s:É)(v:Å),q! s fd ⟨[v],[]⟩ [("_law_script",v)])/\∀base:ä,K.In base->base.Ns Ð mg->jD mg base ->
   FnOk P w K mg base fx e.d J fd ["_law_script"] (fun vs H Q E=>∀mg,dM ⟨K,mg⟩ 1 fn vs H Q E):=by
 have E:=JL X G W u C;obtain⟨h2,D,Z,I⟩:(e.ke.n==(fV e.st).length)=Â/\(e.cs.all fun j=>match pre[j]? with|some g=>Þ (g.d+3) e.d|none=>Ä)=Â/\Þ 3 e.d=Â/\e.tr Â (e.cs.map (sK pre)) gs cl=À e.b:=aM rfl z fun A h=>k4 A fun a b c=>⟨a,b,c,h⟩
 obtain⟨d,hd⟩:∃d,e.d=d+3:=⟨e.d-3,by have:=zS Z;lia⟩;rw[hd]at D ⊢;obtain⟨f,oc,od,sl,kV,M,pm,R,O,N,a,l,c,k,L⟩:=Y;have m:=U5 X G a;rw[y]at m;cases m;have F:=oY l c k;refine⟨fnOf "law" e.qual (cJ e.st) (cH e.st) (bN e.st) .none kV M pm R O N,fun s v=>?_,fun base B _ t=>?_⟩
 ·have U:plainA (cJ e.st)=Â:=aM rfl I fun A _=>k4 A fun _ h _=>h
  refine .of_eq ?_
  have:=bind_plain (fd:=fnOf "law" e.qual (cJ e.st) (cH e.st) (bN e.st) .none kV M pm R O N) (us:=[v]) U rfl (by show(fV e.st).Nodup;rw[i];simp) (by show _=(fV e.st).length;rw[i];rfl)
  rw[this];show pure ((fV e.st).zip [v])=_;rw[i];rfl
 ·have S:=uv (P:=P) (w:=w) E pre [] [] ⟨rfl,fun j g u=>by simp at u⟩ (tf X G B t C T n) r
  have V:=wq (d:=d) S e.cs D
  have:=(oX (e:=e.toFH) F E (qV B t L) V I).1
  rw[i]at this;have o:run e.N.length (ag (e.cs.map (kf (jr [] pre))) e.b)=fn:=x;rw[o]at this;exact this.imp fun vs H Q E q=>q mg
theorem walk_R[Od]{l:K?}{k:Nat}{q:Ò}{bZ:List Ì}{z:(Ì->Option Å)->ä->Prop}{g:Û->ä->Prop}{d:DefRec}{K:Params->á}{fn:Fn}{tabs:List (Ç×Addr)}
  (n:l.most=À 63) (b:d.params.defaults=[]) (j:Room k ŷ)
  (v:∀(w:Û)(h:ä),g w h->(K w.params).In h/\∀q∈tabs,h.get? q.2=À (O? #[])) (r:∀(w:Û),∀q∈tabs,codeHdIn (K w.params) q.1 q.2=Â) (c:∀(w:Û),noTabs (K w.params)=Â)
  (i:∀t∈Od.tb,t.1∈tabs.map (·.2)) (p:∀ns:List Int,ns.length<=63->∃st,fn [.fz (ns.map .int)] []=À (.bl Â,st))
  (F:∀(w:Û)(mg:Ì->Option Å)(fa:Ç)(h:ä),(K w.params).In h->h.Ns Ð mg->mg d.name=À (.ref fa) ->
   ∃fd:ĕ,(∀(s:É)(u:Å),q! s fd ⟨[u],[]⟩ [("_law_script",u)]) /\
    ∀base:ä,(K w.params).In base->base.Ns Ð mg->jD mg base->FnOk l.prog w (K w.params) mg base fx k fa fd ["_law_script"] (fun vs H Q E=>∀mg,dM ⟨K w.params,mg⟩ 1 fn vs H Q E)) :
  P9 q bZ z g l.row.toRowW d [] (fun f vs=>F? f vs) :=
 EO (sp:=fun w vs H Q E=>∀mg,dM ⟨K w.params,mg⟩ 1 fn vs H Q E) n dC b j v r c F fun w H a ns o x y mg=>Jq (p ns o) y fun t h=>by
  obtain⟨q,m,e⟩:=yD.mp (i t h);exact⟨#[],by rw[<- e];exact x q m,trivial,.inl rfl⟩
end R
namespace SX
def Of:Nat->(Nat->Int)->Int
 |0,_=>0
 |n+1,f=>Of n f+f n
theorem sum_congr{n:Nat}{f g:Nat->Int}(h:∀i,i<n->f i=g i):Of n f=Of n g:=by
 induction n with
 |zero=>rfl
 |succ n a=>simp only[Of];rw[a fun i b=>h i oM,h n oM]
theorem sum_zero{n:Nat}{f:Nat->Int}(h:∀i,i<n->f i=0):Of n f=0:=by
 induction n with
 |zero=>rfl
 |succ n a=>simp only[Of];rw[a fun i b=>h i oM,h n oM];rfl
theorem sum_add(n:Nat)(f g:Nat->Int):Of n (fun i=>f i+g i)=Of n f+Of n g:=by
 induction n with
 |zero=>rfl
 |succ n a=>simp only[Of];rw[a];lia
theorem sum_mul(n:Nat)(c:Int)(f:Nat->Int):Of n (fun i=>c*f i)=c*Of n f:=by
 induction n with
 |zero=>simp[Of]
 |succ n a=>simp only[Of];rw[a,H!]
theorem sum_one{n k:Nat}{f:Nat->Int}(e:k<n)(h:∀i,i<n->i≠k->f i=0):Of n f=f k:=by
 induction n with
 |zero=>lia
 |succ n b =>
  simp only[Of];rcases yU k n with a|a
  ·rw[b a fun i c d=>h i oM d,h n oM oM];lia
  ·have:k=n:=by lia
   subst this;rw[sum_zero fun i c=>h i oM oM];lia
theorem um{n k l:Nat}{f:Nat->Int}(d:k<n)(c:l<n)(a:k≠l)(h:∀i,i<n->i≠k->i≠l->f i=0):Of n f=f k+f l:=by
 have e:Of n f=Of n (fun i=>(if i=k then f i else 0)+if i=k then 0 else f i):=sum_congr fun i _=>by split<;>lia
 rw[e,sum_add,sum_one (k:=k) d fun i _ b=>yH b,sum_one (k:=l) c fun i g b=>?_]
 ·rw[yI rfl,yH (fun z=>a z.symm)]
 ·by_cases z:i=k
  ·exact yI z
  ·rw[yH z];exact h i g z b
theorem Ap(n m:Nat)(f:Nat->Nat->Int):Of n (fun i=>Of m (fun j=>f i j))=Of m (fun j=>Of n (fun i=>f i j)):=by
 induction n with
 |zero=>exact(sum_zero fun _ _=>rfl).symm
 |succ n a=>simp only[Of];rw[a,<- sum_add]
noncomputable def up(A:Nat->Nat->Int)(r:Nat)(u:Nat->Int):Nat->Nat->Int:=fun i=>if i=r then u else A i
theorem bY{A:Nat->Nat->Int}{r:Nat}{u:Nat->Int}:up A r u r=u:=yI rfl
theorem bt{A:Nat->Nat->Int}{r i:Nat}{u:Nat->Int}(h:i≠r):up A r u i=A i:=yH h
theorem gh{A:Nat->Nat->Int}{r:Nat}:up A r (A r)=A:=by
 funext i;by_cases h:i=r
 ·rw[h,bY]
 ·exact bt h
theorem iQ{A:Nat->Nat->Int}{r q:Nat}{u v:Nat->Int}(h:r≠q):up (up A r u) q v=up (up A q v) r u:=by
 funext i;by_cases b:i=q
 ·subst b;rw[bY,bt (fun z=>h z.symm),bY]
 ·rw[bt b]
  by_cases a:i=r
  ·subst a;rw[bY,bY]
  ·rw[bt a,bt a,bt b]
noncomputable def skip(k i:Nat):Nat:=if i<k then i else i+1
noncomputable def jL(k r:Nat):Nat:=if r<k then r else r-1
noncomputable def sg(k:Nat):Int:=if k%2=0 then 1 else -1
theorem Dl(k:Nat):sg (k+1)=- sg k:=by unfold sg;split<;>split<;>lia
theorem Fo(k:Nat):(sg k).natAbs=1:=by unfold sg;split<;>rfl
def gR(A:Nat->Nat->Int)(k:Nat):Nat->Nat->Int:=fun i j=>A (skip k i) (j+1)
def bE:Nat->(Nat->Nat->Int)->Int
 |0,_=>1
 |n+1,A=>Of (n+1) fun k=>sg k*A k 0*bE n (gR A k)
theorem nK{A:Nat->Nat->Int}{k:Nat}{u:Nat->Int}:gR (up A k u) k=gR A k:=by
 funext i j;unfold gR;rw[bt];unfold skip;split<;>lia
theorem sy{A:Nat->Nat->Int}{k r:Nat}{u:Nat->Int}(h:r≠k):gR (up A r u) k=up (gR A k) (jL k r) (fun j=>u (j+1)):=by
 funext i j;unfold gR;by_cases a:i=jL k r
 ·have:skip k i=r:=by unfold skip;unfold jL at a;split at a<;>split<;>lia
  rw[this,bY,a,bY]
 ·have:skip k i≠r:=by unfold skip;unfold jL at a;split at a<;>split<;>lia
  rw[bt this,bt a]
theorem dw:∀{n:Nat}{A B:Nat->Nat->Int},(∀i j,i<n->j<n->A i j=B i j)->bE n A=bE n B
 |0,_,_,_=>rfl
 |n+1,A,B,h=>sum_congr fun k hk=>by
  rw[h k 0 hk oM,dw (A:=gR A k) (B:=gR B k) fun i j hi hj=>h _ _ (by unfold skip;split<;>lia) oM]
theorem g6:∀{n:Nat}{A:Nat->Nat->Int}{r:Nat}{a b:Int}{u v:Nat->Int},r<n->bE n (up A r fun j=>a*u j+b*v j)=a*bE n (up A r u)+b*bE n (up A r v)
 |0,_,_,_,_,_,_,h=>by lia
 |n+1,A,r,a,b,u,v,h=>by
  show Of (n+1) _=a*Of (n+1) _+b*Of (n+1) _;rw[<- sum_mul,<- sum_mul,<- sum_add];refine sum_congr fun k hk=>?_
  by_cases e:r=k
  ·subst e
   rw[nK,nK,nK,bY,bY,bY]
   grind
  ·rw[sy e,sy e,sy e,bt (fun z=>e z.symm),bt (fun z=>e z.symm),bt (fun z=>e z.symm)]
   rw[g6 (A:=gR A k) (r:=jL k r) (u:=fun j=>u (j+1)) (v:=fun j=>v (j+1)) (by unfold jL;split<;>lia)]
   grind
theorem mr:∀{n:Nat}{A:Nat->Nat->Int}{r:Nat},r+1<n->(∀j,A r j=A (r+1) j)->bE n A=0
 |0,_,_,h,_=>by lia
 |n+1,A,r,h,e=>by
  show Of (n+1) _=0;have hm:bE n (gR A r)=bE n (gR A (r+1)):=by
   refine dw fun i j _ _=>?_
   unfold gR;by_cases d:i=r
   ·subst d
    have c:skip i i=i+1:=by unfold skip;split<;>lia
    have b:skip (i+1) i=i:=by unfold skip;split<;>lia
    rw[c,b,e]
   ·have:skip r i=skip (r+1) i:=by unfold skip;split<;>split<;>lia
    rw[this]
  rw[um (k:=r) (l:=r+1) oM h oM fun k f c b=>?_]
  ·rw[hm,e 0,Dl];grind
  ·have:bE n (gR A k)=0:=by
    rcases yU k r with a|a
    ·refine mr (r:=r-1) oM fun j=>?_
     unfold gR;have a1:skip k (r-1)=r:=by unfold skip;split<;>lia
     have a2:skip k (r-1+1)=r+1:=by unfold skip;split<;>lia
     rw[a1,a2,e]
    ·refine mr (r:=r) oM fun j=>?_
     unfold gR;have a1:skip k r=r:=by unfold skip;split<;>lia
     have a2:skip k (r+1)=r+1:=by unfold skip;split<;>lia
     rw[a1,a2,e]
   rw[this,yP]
theorem mX{n:Nat}{A:Nat->Nat->Int}{c j:Nat}(d:c<n)(e:j<n)(a:c≠j)(b:∀x:Nat->Int,bE n (up (up A c x) j x)=0)(u v:Nat->Int):bE n (up (up A c u) j v)=- bE n (up (up A c v) j u):=by
 have h:=b (fun k=>1*u k+1*v k);rw[g6 e,iQ a,g6 d,iQ a (v:=v),g6 d,<- iQ a,<- iQ a,<- iQ a,<- iQ a,b u,b v]at h;lia
theorem pZ{n:Nat}:∀(k:Nat){A:Nat->Nat->Int}{i j:Nat},j=i+k+1->j<n->(∀x,A i x=A j x)->bE n A=0
 |0,A,i,j,e,hj,h=>mr (r:=i) oM (by subst e;exact h)
 |k+1,A,i,j,e,hj,h=>by
  have alt:∀x:Nat->Int,bE n (up (up A (j-1) x) j x)=0:=fun x=>mr (r:=j-1) oM fun y=>by
   rw[show j-1+1=j by lia,bY,bt oM,bY]
  have a:=mX (A:=A) (c:=j-1) (j:=j) oM hj oM alt (A (j-1)) (A j);rw[gh,gh]at a;rw[a,pZ k (A:=up (up A (j-1) (A j)) j (A (j-1))) (i:=i) (j:=j-1) oM oM fun x=>by
   rw[bt oM,bt oM,bt oM,bY,h]]
  rfl
theorem jY{n:Nat}{A:Nat->Nat->Int}{i j:Nat}(c:i<n)(b:j<n)(a:i≠j)(h:∀x,A i x=A j x):bE n A=0:=by
 rcases yU i j with l|l
 ·exact pZ (j-i-1) (i:=i) (j:=j) oM b h
 ·exact pZ (i-j-1) (i:=j) (j:=i) oM c fun x=>(h x).symm
theorem BH{n:Nat}{A:Nat->Nat->Int}{c j:Nat}(d:c<n)(b:j<n)(a:c≠j)(u v:Nat->Int):bE n (up (up A c u) j v)=- bE n (up (up A c v) j u) :=
 mX d b a (fun x=>jY d b a fun y=>by rw[bt a,bY,bY]) u v
theorem jX{n:Nat}{A:Nat->Nat->Int}{r:Nat}(c:r<n){t:Nat->Int}{b:Nat->Nat->Int}:∀m:Nat,bE n (up A r fun x=>Of m fun k=>t k*b k x)=Of m fun k=>t k*bE n (up A r (b k))
 |0=>by
  have:=g6 (A:=A) (r:=r) (a:=0) (b:=0) (u:=fun _=>0) (v:=fun _=>0) c
  simp only[yQ,Ġ]at this;exact this
 |m+1=>by
  have:=g6 (A:=A) (r:=r) (a:=1) (b:=t m) (u:=fun x=>Of m fun k=>t k*b k x) (v:=b m) c
  rw[Ź,jX c m]at this;simp only[Ź]at this;exact this
theorem pY{n:Nat}{A:Nat->Nat->Int}{r:Nat}(c:r<n){d:Int}{u:Nat->Int}:bE n (up A r fun x=>d*u x)=d*bE n (up A r u):=by
 have:=g6 (A:=A) (r:=r) (a:=d) (b:=0) (u:=u) (v:=u) c
 simp only[yQ,Ġ]at this;exact this
theorem jb{n:Nat}{A:Nat->Nat->Int}{r:Nat}{u v:Nat->Int}(h:∀x,x<n->u x=v x):bE n (up A r u)=bE n (up A r v):=dw fun i j _ a=>by
 by_cases e:i=r
 ·subst e;rw[bY,bY];exact h j a
 ·rw[bt e,bt e]
theorem JR{n:Nat}{B:Nat->Nat->Int}{j:Nat}{d:Int}{v:Nat->Int}{t:Nat->Int}(b:j<n)(h:∀x,x<n->d*v x=Of n fun k=>t k*B k x):d*bE n (up B j v)=t j*bE n B:=by
 rw[<- pY b,jb h,jX b,sum_one b fun k c a=>?_,gh];rw[jY (i:=k) (j:=j) c b a fun x=>by rw[bt a,bY],yP]
theorem JQ{n:Nat}{B:Nat->Nat->Int}{c j:Nat}{d:Int}{u v:Nat->Int}{t:Nat->Int}(e:c<n)(b:j<n)(a:c≠j)(h:∀x,x<n->d*v x=Of n fun k=>t k*B k x) :
  d*bE n (up (up B c u) j v)=t j*bE n (up B c u)-t c*bE n (up B j u):=by
 rw[<- pY b,jb h,jX b,um b e (fun z=>a z.symm) fun k g f l=>?_]
 ·have m:up (up B c u) j (B j)=up B c u:=by
   have:up B c u j=B j:=bt fun z=>a z.symm
   rw[<- this,gh]
  rw[m,BH e b a u (B c),gh]
  grind
 ·rw[jY (i:=k) (j:=j) g b f fun x=>by rw[bt f,bt l,bY],yP]
def fct:Nat->Nat
 |0=>1
 |n+1=>(n+1)*fct n
theorem abs_sum{n:Nat}{f:Nat->Int}{M:Nat}(h:∀i,i<n->(f i).natAbs<=M):(Of n f).natAbs<=n*M:=by
 induction n with
 |zero=>simp[Of]
 |succ n a =>
  simp only[Of];have d:=a fun i b=>h i oM
  have c:=h n oM;rw[z!]
  have:=Q4 (Of n f) (f n)
  lia
theorem tE:∀{n:Nat}{A:Nat->Nat->Int}{M:Nat},(∀i j,i<n->j<n->(A i j).natAbs<=M)->(bE n A).natAbs<=fct n*M^n
 |0,_,_,_=>by simp[bE,fct]
 |n+1,A,M,h=>by
  show(Of (n+1) _).natAbs<=_;refine z5 (abs_sum (M:=M*(fct n*M^n)) fun k hk=>?_) ?_
  ·rw[xA,xA,Fo,ϧ]
   exact Ŗ (h k 0 hk oM) (tE fun i j hi hj=>h _ _ (by unfold skip;split<;>lia) oM)
  ·show(n+1)*(M*(fct n*M^n))<=(n+1)*fct n*M^(n+1)
   rw[W2];generalize fct n=a;generalize M^n=b;exact Ϝ (by grind)
noncomputable def eW(w:Nat):Nat->Int:=fun x=>if x=w then 1 else 0
def aJ(w:Nat)(v:Nat->Nat->Int)(h:Nat->Nat):Nat->Nat->Int:=fun k=>if k=w then eW w else v (h k)
structure Lin(w m:Nat)(v:Nat->Nat->Int)(d:Int)(t:Nat->Nat->Int)(h s:Nat->Nat):Prop where
 pos:0<d
 lin:∀i,i<m->∀x,x<w+1->d*v (s i) x=Of (w+1) fun k=>t i k*aJ w v h k x
 dt:∃g:Int,g*g=1/\bE (w+1) (aJ w v h)=g*d
structure qG(w m r c:Nat)(e d:Int)(t:Nat->Nat->Int)(h s:Nat->Nat)(d':Int)(t':Nat->Nat->Int)(h' s':Nat->Nat):Prop where
 e1:e*e=1
 ep:0<e*t r c
 d':d'=e*t r c
 tc:∀i,i<m->i≠r->t' i c=e*t i c
 tj:∀i,i<m->i≠r->∀j,j<w+1->j≠c->t' i j=(t i j*(e*t r c)-t i c*(e*t r j))/d
 rc:t' r c=e*d
 rj:∀j,j<w+1->j≠c->t' r j=- (e*t r j)
 hc:h' c=s r
 hj:∀j,j<w->j≠c->h' j=h j
 sr:s' r=h c
 si:∀i,i<m->i≠r->s' i=s i
section
variable{w m r c:Nat}{e d d':Int}{v t t':Nat->Nat->Int}{h s h' s':Nat->Nat}
theorem Lin.one(L:Lin w m v d t h s){g:Int}(e:bE (w+1) (aJ w v h)=g*d){i j:Nat}(c:i<m)(b:j<w+1):bE (w+1) (up (aJ w v h) j (v (s i)))=g*t i j:=by
 have a:=JR (n:=w+1) (j:=j) b (L.lin i c);rw[e]at a;have f:d≠0:=by have:=L.pos;lia
 refine Ŝ f ?_;rw[a];grind
theorem Lin.ex(L:Lin w m v d t h s){i j:Nat}(o:i<m)(b:r<m)(k:c<w+1)(e:j<w+1)(a:c≠j):d ∣ t i j*t r c-t i c*t r j:=by
 obtain⟨g,g1,f⟩:=L.dt;have l:=JQ (n:=w+1) (c:=c) (j:=j) (u:=v (s r)) k e a (L.lin i o);rw[L.one f b k,L.one f b e]at l;refine⟨g*bE (w+1) (up (up (aJ w v h) c (v (s r))) j (v (s i))),?_⟩;generalize bE (w+1) (up (up (aJ w v h) c (v (s r))) j (v (s i)))=D at l
 grind
theorem Lin.ex'(L:Lin w m v d t h s){i j:Nat}(g:i<m)(b:r<m)(l:c<w+1)(f:j<w+1)(a:c≠j):d*((t i j*(e*t r c)-t i c*(e*t r j))/d)=t i j*(e*t r c)-t i c*(e*t r j):=by
 refine G? ?_;obtain⟨k,n⟩:=L.ex g b l f a;exact⟨e*k,by grind⟩
theorem tR(g:c<w)(d:h' c=s r)(b:∀j,j<w->j≠c->h' j=h j):∀k,k<w+1->aJ w v h' k=up (aJ w v h) c (v (s r)) k:=by
 intro k f;unfold aJ;by_cases e:k=c
 ·subst e;rw[bY,yH oM,d]
 ·rw[bt e]
  by_cases a:k=w
  ·rw[yI a,yI a]
  ·rw[yH a,yH a,b k oM e]
theorem Lin.piv(L:Lin w m v d t h s)(P:qG w m r c e d t h s d' t' h' s')(o:r<m)(p:c<w):Lin w m v d' t' h' s':=by
 have u:d≠0:=by have:=L.pos;lia
 have A:=P.e1;refine⟨by rw[P.d'];exact P.ep,fun i f x n=>?_,?_⟩
 ·by_cases l:i=r
  ·subst l
   rw[P.sr,P.d'];have b:Of (w+1) (fun k=>t' i k*aJ w v h' k x)=Of (w+1) fun k=>(- e)*(t i k*aJ w v h k x)+if k=c then e*t i c*aJ w v h c x+e*d*v (s i) x else 0:=by
    refine sum_congr fun k b=>?_
    rw[tR p P.hc P.hj k b];by_cases a:k=c
    ·subst a;rw[yI rfl,bY,P.rc];grind
    ·rw[yH a,bt a,P.rj k b a];grind
   rw[b,sum_add,sum_mul,<- L.lin i f x n,sum_one (k:=c) oM fun k _ z=>yH z,yI rfl];have:aJ w v h c x=v (h c) x:=by unfold aJ;rw[yH oM]
   rw[this];grind
  ·refine Ŝ u ?_
   rw[P.si i f l,<- sum_mul];have b:Of (w+1) (fun k=>d*(t' i k*aJ w v h' k x))=Of (w+1) fun k=>(e*t r c*(t i k*aJ w v h k x)+(- (e*t i c))*(t r k*aJ w v h k x))+if k=c then d*(e*t i c*v (s r) x) else 0:=by
    refine sum_congr fun k b=>?_
    rw[tR p P.hc P.hj k b];by_cases a:k=c
    ·subst a;rw[yI rfl,bY,P.tc i f l];grind
    ·rw[yH a,bt a,P.tj i f l k b a,<- l?,L.ex' f o oM b fun z=>a z.symm];grind
   rw[b,sum_add,sum_add,sum_mul,sum_mul,<- L.lin i f x n,<- L.lin r o x n,sum_one (k:=c) oM fun k _ z=>yH z,yI rfl,P.d']
   grind
 ·obtain⟨g,g1,q⟩:=L.dt
  refine⟨g*e,by grind,?_⟩;rw[dw (B:=up (aJ w v h) c (v (s r))) fun i j f y=>by rw[tR p P.hc P.hj i f],L.one q o oM,P.d']
  grind
theorem Lin.func(L:Lin w m v d t h s)(C:∀q,q<w->∀x,x<w+1->v q x=if x=q then 1 else 0)(f:c<w+1){X:Nat->Int}(D:∀i,i<m->s i<w->X (s i)=t i c)(G:∀j,j<w->h j<w->X (h j)=if j=c then d else 0)
  (r:∀q,q<w->(∃i,i<m/\s i=q)\/∃j,j<w/\h j=q) :
  (∀i,i<m->(Of w fun q=>v (s i) q*X q)+v (s i) w*(if c=w then d else 0)=t i c)/\∀j,j<w->(Of w fun q=>v (h j) q*X q)+v (h j) w*(if c=w then d else 0)=if j=c then d else 0:=by
 obtain⟨g,g1,o⟩:=L.dt;have F:∀u:Nat->Int,(Of w fun q=>u q*X q)+u w*(if c=w then d else 0)=g*bE (w+1) (up (aJ w v h) c u):=fun u=>by
  have I:bE (w+1) (up (aJ w v h) c u)=Of (w+1) fun q=>u q*bE (w+1) (up (aJ w v h) c (eW q)):=by
   rw[<- jX f];refine jb fun x p=>?_
   rw[sum_one p fun k _ z=>by unfold eW;rw[yH fun y=>z y.symm,yP]];unfold eW;rw[yI rfl,G!]
  have B:∀k,k<w+1->g*bE (w+1) (up (aJ w v h) c (aJ w v h k))=if k=c then d else 0:=fun k E=>by
   by_cases a:k=c
   ·rw[yI a,a,gh,o];grind
   ·rw[yH a,jY (i:=k) (j:=c) E f a fun x=>by rw[bt a,bY],yP]
  rw[I,<- sum_mul];show _=Of w _+_;congr 1
  ·refine sum_congr fun q l=>?_
   have:g*bE (w+1) (up (aJ w v h) c (eW q))=X q:=by
    have ev:∀x,x<w+1->eW q x=v q x:=fun x p=>(C q l x p).symm
    rw[jb ev];rcases r q l with⟨i,n,rfl⟩|⟨j,A,rfl⟩
    ·rw[L.one o n f,D i n l];grind
    ·have:=B j oM
     rw[show aJ w v h j=v (h j) by unfold aJ;rw[yH oM]]at this;rw[this,G j A l]
   rw[<- this];grind
  ·have:=B w oM
   rw[show aJ w v h w=eW w by unfold aJ;rw[yI rfl]]at this;have H:(if c=w then d else 0)=if w=c then d else 0:=by
    by_cases z:c=w
    ·rw[yI z,yI z.symm]
    ·rw[yH z,yH fun y=>z y.symm]
   rw[H,<- this];grind
 refine⟨fun i n=>?_,fun j A=>?_⟩
 ·rw[F,L.one o n f];grind
 ·rw[F]
  have e:v (h j)=aJ w v h j:=by unfold aJ;rw[yH oM]
  rw[e];by_cases b:j=c
  ·rw[yI b,b,gh,o];grind
  ·rw[yH b,jY (i:=j) (j:=c) oM f b fun x=>by rw[bt b,bY],yP]
theorem Lin.bound(L:Lin w m v d t h s){M:Nat}(o:1<=M)(c:∀q x,x<w+1->(v q x).natAbs<=M):d.natAbs<=fct (w+1)*M^(w+1)/\∀i,i<m->∀j,j<w+1->(t i j).natAbs<=fct (w+1)*M^(w+1):=by
 obtain⟨g,g1,e⟩:=L.dt;have ga:g.natAbs=1:=by
  have:g.natAbs*g.natAbs=1:=by rw[<- xA,g1];rfl
  exact ϩ this
 have f:∀k x,x<w+1->(aJ w v h k x).natAbs<=M:=fun k x a=>by
  unfold aJ;split
  ·unfold eW;split<;>simp<;>lia
  ·exact c _ x a
 refine⟨?_,fun i l j b=>?_⟩
 ·have:=tE (n:=w+1) (A:=aJ w v h) (M:=M) fun i j _ b=>f i j b
  rw[e,xA,ga,ϧ]at this;exact this
 ·have:=tE (n:=w+1) (A:=up (aJ w v h) j (v (s i))) (M:=M) fun k x _ a=>by
   by_cases z:k=j
   ·subst z;rw[bY];exact c _ x a
   ·rw[bt z];exact f k x a
  rw[L.one e l b,xA,ga,ϧ]at this;exact this
end
structure Pm(w m:Nat)(h s:Nat->Nat):Prop where
 hl:∀j,j<w->h j<w+m
 sl:∀i,i<m->s i<w+m
 hi:∀j k,j<w->k<w->h j=h k->j=k
 si:∀j k,j<m->k<m->s j=s k->j=k
 hs:∀j i,j<w->i<m->h j≠s i
 cov:∀q,q<w+m->(∃i,i<m/\s i=q)\/∃j,j<w/\h j=q
structure Fea(w m:Nat)(G N:Nat->Prop)(t:Nat->Nat->Int)(h s:Nat->Nat):Prop where
 g:∀i,i<m->G (s i)->0<=t i w
 n:∀i,i<m->N (s i)->t i w=0/\∀j,j<w->¬N (h j)->t i j=0
 f:∀j,j<w->G (h j)\/N (h j)
section
variable{w m r c:Nat}{e d d':Int}{v t t':Nat->Nat->Int}{h s h' s':Nat->Nat}{G N G' N':Nat->Prop}
theorem Pm.piv(Q:Pm w m h s)(P:qG w m r c e d t h s d' t' h' s')(n:r<m)(o:c<w):Pm w m h' s':=by
 have u:∀j,j<w->(j=c/\h' j=s r)\/(j≠c/\h' j=h j):=fun j f=>by
  by_cases z:j=c
  ·subst z;exact .inl ⟨rfl,P.hc⟩
  ·exact .inr ⟨z,P.hj j f z⟩
 have p:∀i,i<m->(i=r/\s' i=h c)\/(i≠r/\s' i=s i):=fun i g=>by
  by_cases z:i=r
  ·subst z;exact .inl ⟨rfl,P.sr⟩
  ·exact .inr ⟨z,P.si i g z⟩
 refine⟨fun j f=>?_,fun i g=>?_,fun j k f l e=>?_,fun j k f l e=>?_,fun j i f g e=>?_,fun q v=>?_⟩
 ·rcases u j f with⟨_,z⟩|⟨_,z⟩<;>rw[z]
  ·exact Q.sl r n
  ·exact Q.hl j f
 ·rcases p i g with⟨_,z⟩|⟨_,z⟩<;>rw[z]
  ·exact Q.hl c o
  ·exact Q.sl i g
 ·rcases u j f with⟨a,z⟩|⟨a,z⟩<;>rcases u k l with⟨b,y⟩|⟨b,y⟩<;>rw[z,y]at e
  ·rw[a,b]
  ·exact absurd e.symm (Q.hs k r l n)
  ·exact absurd e (Q.hs j r f n)
  ·exact Q.hi j k f l e
 ·rcases p j f with⟨a,z⟩|⟨a,z⟩<;>rcases p k l with⟨b,y⟩|⟨b,y⟩<;>rw[z,y]at e
  ·rw[a,b]
  ·exact absurd e (Q.hs c k o l)
  ·exact absurd e.symm (Q.hs c j o f)
  ·exact Q.si j k f l e
 ·rcases u j f with⟨a,z⟩|⟨a,z⟩<;>rcases p i g with⟨b,y⟩|⟨b,y⟩<;>rw[z,y]at e
  ·exact Q.hs c r o n e.symm
  ·exact b (Q.si i r g n e.symm)
  ·exact a (Q.hi j c f o e)
  ·exact Q.hs j i f g e
 ·by_cases z:q=h c
  ·exact .inl ⟨r,n,by rw[P.sr,z]⟩
  ·by_cases y:q=s r
   ·exact .inr ⟨c,o,by rw[P.hc,y]⟩
   ·rcases Q.cov q v with⟨i,g,e⟩|⟨j,f,e⟩
    ·exact .inl ⟨i,g,by rw[P.si i g (fun x=>y (by rw[<- e,x]))];exact e⟩
    ·exact .inr ⟨j,f,by rw[P.hj j f (fun x=>z (by rw[<- e,x]))];exact e⟩
theorem vY{d x:Int}(hd:0<d)(h:0<=d*x):0<=x:=by
 rcases yV x 0 with z|z
 ·have:=ś hd z;lia
 ·exact z
theorem Ae{d x:Int}(hd:0<d)(h:d*x=0):x=0:=by
 rcases T4.mp h with z|z
 ·lia
 ·exact z
theorem Fea.piv(L:Lin w m v d t h s)(Q:Pm w m h s)(F:Fea w m G N t h s)(P:qG w m r c e d t h s d' t' h' s')(b:r<m)(A:c<w)(C:¬N (h c))
  (val:∀i,i<m->i≠r->G (s i)->0<=t i w*(e*t r c)-t i c*(e*t r w)) (new:G (h c)->0<=- (e*t r w))
  (B:∀q,q≠s r->(G' q ↔ G q)) (o:∀q,q≠s r->(N' q ↔ N q)) (u:G' (s r)\/N' (s r)):Fea w m G' N' t' h' s':=by
 have g:∀i,i<m->i≠r->s i≠s r:=fun i a z y=>z (Q.si i r a b y)
 refine⟨fun i a n=>?_,fun i a l=>?_,fun j f=>?_⟩
 ·by_cases z:i=r
  ·subst z
   rw[P.rj w oM oM];rw[P.sr]at n;exact new ((B _ (Q.hs c i A b)).mp n)
  ·rw[P.si i a z]at n
   have:=val i a z ((B _ (g i a z)).mp n)
   rw[P.tj i a z w oM oM];exact vY L.pos (by rw[L.ex' a b oM oM oM];exact this)
 ·by_cases z:i=r
  ·subst z
   rw[P.sr]at l;exact absurd ((o _ (Q.hs c i A b)).mp l) C
  ·rw[P.si i a z]at l
   obtain⟨E,D⟩:=F.n i a ((o _ (g i a z)).mp l);have p:=D c A C;refine⟨?_,fun j f k=>?_⟩
   ·rw[P.tj i a z w oM oM]
    exact Ae L.pos (by rw[L.ex' a b oM oM oM,E,p];grind)
   ·by_cases y:j=c
    ·subst y;rw[P.tc i a z,p,yP]
    ·rw[P.hj j f y]at k
     have:=D j f fun x=>k ((o _ (Q.hs j r f b)).mpr x)
     rw[P.tj i a z j oM y];exact Ae L.pos (by rw[L.ex' a b oM oM (fun x=>y x.symm),this,p];grind)
 ·by_cases y:j=c
  ·subst y;rw[P.hc];exact u
  ·rw[P.hj j f y]
   rcases F.f j f with x|x
   ·exact .inl ((B _ (Q.hs j r f b)).mpr x)
   ·exact .inr ((o _ (Q.hs j r f b)).mpr x)
theorem Fea.tight(L:Lin w m v d t h s)(Q:Pm w m h s)(F:Fea w m G N t h s)(P:qG w m r c e d t h s d' t' h' s')(g:r<m)(x:c<w)(q:¬N (h c))(l:G (s r))(p:t r c<0)
  (o:∀i,i<m->G (s i)->t i c<0->t r w*- t i c<=t i w*- t r c):Fea w m G N t' h' s':=by
 have n:e=-1:=by
  have B:=P.ep;have A:=P.e1;rcases yV e 0 with z|z
  ·have:e*e=1:=A
   have:e=-1:=by
    rcases yV e (-1) with y|y
    ·have:1<e*e:=by
      have a:(-e)*1<(-e)*(-e):=ŗ oM oM;have b:(-e)*(-e)=e*e:=by grind
      lia
     lia
    ·lia
   exact this
  ·have:e*t r c<=0:=ϒ z oM
   lia
 have f:=F.g r g l;refine Fea.piv L Q F P g x q (fun i j ne k=>?_) (fun _=>by rw[n];lia) (fun _ _=>.rfl) (fun _ _=>.rfl) (.inl l);have u:=F.g i j k;rw[n];rcases yV (t i c) 0 with z|z
 ·have:=o i j k z
  have a:t i w*(-1*t r c)-t i c*(-1*t r w)=t i w*- t r c-t r w*- t i c:=by grind
  rw[a];lia
 ·have a:t i w*(-1*t r c)-t i c*(-1*t r w)=t i w*- t r c+t i c*t r w:=by grind
  rw [a];have b:=þ u (show 0 <= - t r c by lia);have c:=þ z f;lia
theorem Fea.lift(L:Lin w m v d t h s)(Q:Pm w m h s)(F:Fea w m G N t h s)(P:qG w m r c e d t h s d' t' h' s')(p:r<m)(u:c<w)(n:¬N (h c))(pos:0<t r c)(low:t r w<0)
  (l:∀i,i<m->G (s i)->t i c<0->t r w*t i c<=t i w*t r c) (A:∀q,q≠s r->(G' q ↔ G q)) (x:∀q,q≠s r->(N' q ↔ N q)) (g:G' (s r)\/N' (s r)):Fea w m G' N' t' h' s':=by
 have f:e=1:=by
  have C:=P.ep;have B:=P.e1;have f:0<e:=by
   rcases yV 0 e with z|z
   ·exact z
   ·have:e*t r c<=0:=Ć z oM
    lia
  rcases yV 1 e with y|y
  ·have:e*1<e*e:=ŗ y f
   lia
  ·lia
 refine Fea.piv L Q F P p u n (fun i j ne k=>?_) (fun _=>by rw[f];lia) A x g;have o:=F.g i j k;rw[f];rcases yV (t i c) 0 with z|z
 ·have:=l i j k z
  have a:t i w*(1*t r c)-t i c*(1*t r w)=t i w*t r c-t r w*t i c:=by grind
  rw[a];lia
 ·have a:t i w*(1*t r c)-t i c*(1*t r w)=t i w*t r c+t i c*- t r w:=by grind
  rw [a];have b:=þ o (show 0 <= t r c by lia);have c:=þ z (show 0 <= - t r w by lia);lia
theorem Fea.move(L:Lin w m v d t h s)(Q:Pm w m h s)(F:Fea w m G N t h s)(P:qG w m r c e d t h s d' t' h' s')(l:r<m)(p:c<w)(j:¬N (h c))(f:t r w=0)
  (x:∀q,q≠s r->(G' q ↔ G q)) (u:∀q,q≠s r->(N' q ↔ N q)) (g:G' (s r)\/N' (s r)):Fea w m G' N' t' h' s':=by
 refine Fea.piv L Q F P l p j (fun i n ne o=>?_) (fun _=>by rw[f];lia) x u g;have k:=F.g i n o
 have:=P.ep
 have b:=þ k (show 0 <= e * t r c by lia);rw [f];have a:t i w * (e * t r c) - t i c * (e * 0)=t i w * (e * t r c):=by grind
 rw[a];exact b
theorem En{a b x y u z:Int}(m:b<0)(k:x<0)(l:0<u)(g:z*b<=a*u)(f:a*- x<=y*- b):z*x<=y*u:=by
 have d:(z*b)*(-x)<=(a*u)*(-x):=ç g oM;have c:(a*- x)*u<=(y*- b)*u:=ç f oM;have e:(z*x)*(-b)<=(y*u)*(-b):=by
  have j:(z*b)*(-x)=(z*x)*(-b):=by grind
  have i:(a*u)*(-x)=(a*- x)*u:=by grind
  have h:(y*- b)*u=(y*u)*(-b):=by grind
  rw[j,i]at d;rw[h]at c;exact ľ d c
 exact ħ e oM
theorem Fea.guard{p:Nat}(F:Fea w m G N t h s)(Q:Pm w m h s)(c:p<m)(e:0<=t p w):Fea w m (fun q=>G q\/q=s p) N t h s :=
 ⟨fun i b a=>by
  rcases a with a|a
  ·exact F.g i b a
  ·rw[Q.si i p b c a];exact e,F.n,fun j d=>(F.f j d).imp .inl id⟩
theorem Fea.nail{p:Nat}(F:Fea w m G N t h s)(Q:Pm w m h s)(f:p<m)(g:t p w=0)(hz:∀j,j<w->¬N (h j)->t p j=0):Fea w m G (fun q=>N q\/q=s p) t h s :=
 ⟨F.g,fun i e c=>by
  rcases c with c|c
  ·obtain⟨a,b⟩:=F.n i e c
   exact⟨a,fun j d z=>b j d fun y=>z (.inl y)⟩
  ·rw[Q.si i p e f c]
   exact⟨g,fun j d z=>hz j d fun y=>z (.inl y)⟩,fun j d=>(F.f j d).imp id .inl⟩
noncomputable def tv(v:Nat->Nat->Int)(q:Nat):Nat->Nat->Int:=fun k x=>if k=q then-v k x else v k x
theorem Lin.turn{p:Nat}(L:Lin w m v d t h s)(Q:Pm w m h s)(f:p<m)(o:∀j,j<w+1->t' p j=- t p j)(n:∀i,i<m->i≠p->∀j,j<w+1->t' i j=t i j):Lin w m (tv v (s p)) d t' h s:=by
 have c:∀k,k<w+1->aJ w (tv v (s p)) h k=aJ w v h k:=fun k a=>by
  unfold aJ;by_cases z:k=w
  ·rw[yI z,yI z]
  ·rw[yH z,yH z];funext x;unfold tv;rw[yH (Q.hs k p oM f)]
 refine⟨L.pos,fun i b x e=>?_,?_⟩
 ·by_cases z:i=p
  ·subst z
   have:=L.lin i b x e
   rw[sum_congr (g:=fun k=>(-1)*(t i k*aJ w v h k x)) fun k a=>by rw[c k a,o k a];grind,sum_mul,<- this];unfold tv;rw[yI rfl];grind
  ·rw[sum_congr (g:=fun k=>t i k*aJ w v h k x) fun k a=>by rw[c k a,n i b z k a],<- L.lin i b x e]
   unfold tv;rw[yH fun y=>z (Q.si i p b f y)]
 ·obtain⟨g,g1,l⟩:=L.dt
  exact⟨g,g1,by rw[dw (B:=aJ w v h) fun i j b _=>by rw[c i b]];exact l⟩
theorem Fea.turn{p:Nat}(F:Fea w m G N t h s)(Q:Pm w m h s)(l:p<m)(ng:¬G (s p))(g:¬N (s p))(d:∀i,i<m->i≠p->∀j,j<w+1->t' i j=t i j):Fea w m G N t' h s:=by
 refine⟨fun i c f=>?_,fun i c e=>?_,F.f⟩
 ·rw[d i c (fun z=>ng (by rw[<- z];exact f)) w oM];exact F.g i c f
 ·have ne:i≠p:=fun z=>g (by rw[<- z];exact e)
  obtain⟨a,b⟩:=F.n i c e;exact⟨by rw[d i c ne w oM];exact a,fun j k z=>by rw[d i c ne j oM];exact b j k z⟩
end
theorem xz:∀(M:Nat)(f:Nat->Nat),(∀n,f n<M)->∃i j,i<j/\f i=f j
 |0,f,h=>absurd (h 0) oM
 |M+1,f,h=>by
  by_cases c:∃n,∀k,n<=k->f k≠M
  ·obtain⟨n,hn⟩:=c
   obtain⟨i,j,g,e⟩:=xz M (fun k=>f (n+k)) fun k=>by have:=h (n+k);have:=hn (n+k) oM;lia
   exact⟨n+i,n+j,by lia,e⟩
  ·have b:∀n,∃k,n<=k/\f k=M:=fun n=>ą fun z=>c ⟨n,fun k d e=>z ⟨k,d,e⟩⟩
   obtain⟨i,_,l⟩:=b 0;obtain⟨j,m,a⟩:=b (i+1);exact⟨i,j,by lia,by rw[l,a]⟩
def jv(b:Nat)(h:Nat->Nat):Nat->Nat
 |0=>0
 |n+1=>jv b h n*b+h n
theorem zb{b:Nat}{h:Nat->Nat}:∀{n:Nat},(∀j,j<n->h j<b)->jv b h n<b^n
 |0,_=>by simp[jv]
 |n+1,H=>by
  have h1:=zb (n:=n) fun j a=>H j oM
  have c:=H n oM;show jv b h n*b+h n<b^(n+1);rw[W2];have:(jv b h n+1)*b<=b^n*b:=ý b h1;rw[z!]at this;lia
theorem ve{b:Nat}{h g:Nat->Nat}:∀{n:Nat},(∀j,j<n->h j<b)->(∀j,j<n->g j<b)->jv b h n=jv b g n->∀j,j<n->h j=g j
 |0,_,_,_,j,hj=>by lia
 |n+1,H,K,e,j,hj=>by
  have h2:=H n oM;have a:=K n oM;have f:jv b h n*b+h n=jv b g n*b+g n:=e;have d:h n=g n:=by
   have:=congrArg (·%b) f
   simp only[Nat.mul_add_mod_self_right]at this
   rwa [R? h2,R? a]at this
  have c:jv b h n=jv b g n:=by
   have:jv b h n*b=jv b g n*b:=by lia
   exact Nat.eq_of_mul_eq_mul_right oM this
  rcases yU j n with z|z
  ·exact ve (fun j hj=>H j oM) (fun j hj=>K j oM) c j z
  ·rw[show j=n by lia];exact d
theorem wW(b:Nat->Prop){i:Nat}:∀(k:Nat),b i->¬b (i+k)->∃n,i<=n/\n<i+k/\b n/\¬b (n+1)
 |0,h,g=>absurd h g
 |k+1,h,g=>by
  by_cases z:b (i+k)
  ·exact⟨i+k,by lia,by lia,z,g⟩
  ·obtain⟨n,a,c,d⟩:=wW b k h z
   exact⟨n,a,by lia,d⟩
theorem wV(b:Nat->Prop){i j x y:Nat}(g:i<=x/\x<=j)(f:i<=y/\y<=j)(k:b x)(d:¬b y)(e:b i ↔ b j):∃n,i<=n/\n<j/\b n/\¬b (n+1):=by
 have h:∀a c,i<=a->a<=c->c<=j->b a->¬b c->∃n,i<=n/\n<j/\b n/\¬b (n+1):=fun a c t s r p q=>by
  obtain⟨n,o,m,l⟩:=wW b (c-a) p (by rwa [show a+(c-a)=c by lia]);exact⟨n,by lia,by lia,l⟩
 rcases ϛ x y with z|z
 ·exact h x y g.1 z f.2 k d
 ·by_cases q:b j
  ·exact h i y oM f.1 f.2 (e.mpr q) d
  ·exact h x j g.1 g.2 (zP j) k q
structure St where
 d:Int
 t:Nat->Nat->Int
 h:Nat->Nat
 s:Nat->Nat
structure Bl(w m p:Nat)(G N:Nat->Prop)(r c:Nat)(e:Int)(S S':St):Prop where
 hc:c<w
 nc:¬N (S.h c)
 up:0<S.t p c
 least:∀j,j<w->¬N (S.h j)->0<S.t p j->S.h c<=S.h j
 hr:r<m
 gr:G (S.s r)
 neg:S.t r c<0
 ti:∀i,i<m->G (S.s i)->S.t i c<0->S.t r w*- S.t i c<S.t i w*- S.t r c\/(S.t r w*- S.t i c=S.t i w*- S.t r c/\S.s r<=S.s i)
 piv:qG w m r c e S.d S.t S.h S.s S'.d S'.t S'.h S'.s
def jh(w:Nat)(S:St)(q:Nat):Prop:=∃k,k<w/\S.h k=q
def Zr(w m:Nat)(S:St)(q:Nat):Prop:=∀i,i<m->S.s i=q->S.t i w=0
theorem CH{a b c d e f:Int}(p:0<b)(hd:0<d)(o:0<f)(k:a*d<=c*b)(j:c*f<=e*d):a*f<=e*b:=by
 have g:(a*d)*f<=(c*b)*f:=ç k oM;have i:(c*f)*b<=(e*d)*b:=ç j oM;have n:(c*b)*f=(c*f)*b:=by grind
 have h:(a*f)*d<=(e*b)*d:=by
  have m:(a*f)*d=(a*d)*f:=by grind
  have l:(e*b)*d=(e*d)*b:=by grind
  rw[m,l];rw[n]at g;exact ľ g i
 exact ħ h hd
section
variable{w m p:Nat}{v:Nat->Nat->Int}{G N:Nat->Prop}{S:Nat->St}{r c:Nat->Nat}{e:Nat->Int}
structure Run(w m p:Nat)(v:Nat->Nat->Int)(G N:Nat->Prop)(S:Nat->St)(r c:Nat->Nat)(e:Nat->Int):Prop where
 L:∀n,Lin w m v (S n).d (S n).t (S n).h (S n).s
 Q:∀n,Pm w m (S n).h (S n).s
 F:∀n,Fea w m G N (S n).t (S n).h (S n).s
 B:∀n,Bl w m p G N (r n) (c n) (e n) (S n) (S (n+1))
 hp:p<m
 np:¬G ((S 0).s p)
theorem Run.sp(R:Run w m p v G N S r c e):∀n,(S n).s p=(S 0).s p
 |0=>rfl
 |n+1=>by
  have h:=R.sp n;have:p≠r n:=fun z=>R.np (by rw[<- h,z];exact(R.B n).gr)
  rw[(R.B n).piv.si p R.hp this];exact h
theorem Run.pr(R:Run w m p v G N S r c e)(n:Nat):p≠r n:=fun z=>R.np (by rw[<- R.sp n,z];exact(R.B n).gr)
theorem Ei{e a:Int}(f:e*e=1)(d:0<e*a)(c:a<0):e=-1:=by
 have hz:e<0:=by
  rcases yV e 0 with z|z
  ·exact z
  ·have:e*a<=0:=ϒ z oM
   lia
 rcases yV e (-1) with y|y
 ·have a:(-e)*1<(-e)*(-e):=ŗ oM oM
  have b:(-e)*(-e)=e*e:=by grind
  lia
 ·lia
theorem Run.em(R:Run w m p v G N S r c e)(n:Nat):e n=-1:=Ei (R.B n).piv.e1 (R.B n).piv.ep (R.B n).neg
theorem Run.col(R:Run w m p v G N S r c e)(n:Nat){i:Nat}(a:i<m)(ne:i≠r n):(S n).d*(S (n+1)).t i w=(S n).t i w*(S (n+1)).d+(S n).t i (c n)*(S n).t (r n) w:=by
 have B:=R.B n;rw[B.piv.tj i a ne w oM (by have:=B.hc;lia),(R.L n).ex' a B.hr (by have:=B.hc;lia) oM (by have:=B.hc;lia),B.piv.d',R.em n]
 grind
theorem Run.mono(R:Run w m p v G N S r c e)(n:Nat):(S n).t p w*(S (n+1)).d<=(S (n+1)).t p w*(S n).d:=by
 have B:=R.B n
 have:=R.col n R.hp (R.pr n)
 have a:=þ (show 0 <= (S n).t p (c n) by have:=B.up;lia) ((R.F n).g (r n) B.hr B.gr);rw [ϝ ((S (n + 1)).t p w)];lia
theorem Run.monos(R:Run w m p v G N S r c e)(i:Nat):∀k,(S i).t p w*(S (i+k)).d<=(S (i+k)).t p w*(S i).d
 |0=>ϫ _
 |k+1=>CH (R.L i).pos (R.L (i+k)).pos (R.L (i+k+1)).pos (R.monos i k) (R.mono (i+k))
theorem Run.same(R:Run w m p v G N S r c e){i j:Nat}(h:∀k,k<w->(S i).h k=(S j).h k):(S i).d=(S j).d/\(S i).t p w=(S j).t p w:=by
 have o:∀k,k<w+1->aJ w v (S i).h k=aJ w v (S j).h k:=fun k E=>by
  unfold aJ;by_cases z:k=w
  ·rw[yI z,yI z]
  ·rw[yH z,yH z,h k oM]
 obtain⟨g,g1,n⟩:=(R.L i).dt;obtain⟨y,l,d⟩:=(R.L j).dt;have B:bE (w+1) (aJ w v (S i).h)=bE (w+1) (aJ w v (S j).h):=dw fun a b f _=>by rw[o a f]
 have t:=(R.L i).one n R.hp (j:=w) oM;have s:=(R.L j).one d R.hp (j:=w) oM;rw[R.sp i]at t;rw[R.sp j]at s;have A:bE (w+1) (up (aJ w v (S i).h) w (v ((S 0).s p)))=bE (w+1) (up (aJ w v (S j).h) w (v ((S 0).s p))):=dw fun a b f _=>by
  by_cases z:a=w
  ·subst z;rw[bY,bY]
  ·rw[bt z,bt z,o a f]
 rw[n,d]at B;rw[t,s]at A;have D:=(R.L i).pos;have C:=(R.L j).pos;have q:∀x:Int,x*x=1->x=1\/x=-1:=fun x u=>by
  have:x.natAbs*x.natAbs=1:=by rw[<- xA,u];rfl
  have:=ϩ this
  lia
 rcases q g g1 with rfl|rfl<;>rcases q y l with rfl|rfl<;>constructor<;>lia
theorem Run.flat(R:Run w m p v G N S r c e){i j n:Nat}(h:∀k,k<w->(S i).h k=(S j).h k)(o:i<=n)(l:n<j):(S n).t (r n) w=0:=by
 have B:=R.B n;have a:=R.monos i (n-i);have b:=R.monos (n+1) (j-(n+1));rw[show i+(n-i)=n by lia]at a;rw[show n+1+(j-(n+1))=j by lia]at b;obtain⟨f,d⟩:=R.same h;rw[<- f,<- d]at b;have g:=CH (R.L (n+1)).pos (R.L i).pos (R.L n).pos b a;have s:=R.col n R.hp (R.pr n);have q:=(R.F n).g (r n) B.hr B.gr;rcases yV 0 ((S n).t (r n) w) with z|z
 ·have:=X5 B.up z
  rw[ϝ ((S (n+1)).t p w)]at g;lia
 ·lia
theorem Run.zero(R:Run w m p v G N S r c e){n q:Nat}(f:(S n).t (r n) w=0):Zr w m (S n) q ↔ Zr w m (S (n+1)) q:=by
 have B:=R.B n;have P:=B.piv;have g:w≠c n:=by have:=B.hc;lia
 have d:(S (n+1)).t (r n) w=0:=by rw[P.rj w oM g,f];lia
 have b:∀i,i<m->i≠r n->((S n).t i w=0 ↔ (S (n+1)).t i w=0):=fun i a ne=>by
  have:=R.col n a ne
  rw[f,yP,Ġ]at this;constructor
  ·intro z;rw[z,yQ]at this;exact Ae (R.L n).pos this
  ·intro z;rw[z,yP]at this
   rcases T4.mp this.symm with y|y
   ·exact y
   ·have:=(R.L (n+1)).pos;lia
 constructor
 ·intro h i a e
  by_cases z:i=r n
  ·rw[z];exact d
  ·rw[P.si i a z]at e;exact(b i a z).mp (h i a e)
 ·intro h i a e
  by_cases z:i=r n
  ·rw[z];exact f
  ·exact(b i a z).mpr (h i a (by rw[P.si i a z];exact e))
theorem Run.zeros(R:Run w m p v G N S r c e){i j q:Nat}(h:∀k,k<w->(S i).h k=(S j).h k){a:Nat}(ha:i<=a):∀k,a+k<=j->(Zr w m (S a) q ↔ Zr w m (S (a+k)) q)
 |0,_=>.rfl
 |k+1,hk=>(R.zeros h ha k oM).trans (R.zero (R.flat h oM oM))
theorem Run.zall(R:Run w m p v G N S r c e){i j q:Nat}(h:∀k,k<w->(S i).h k=(S j).h k){a b:Nat}(n:i<=a)(g:a<=j)(f:i<=b)(d:b<=j)(z:Zr w m (S a) q):Zr w m (S b) q:=by
 rcases ϛ a b with l|l
 ·have:=(R.zeros (q:=q) h n (b-a) oM).mp;rw[show a+(b-a)=b by lia]at this;exact this z
 ·have:=(R.zeros (q:=q) h f (a-b) oM).mpr;rw[show b+(a-b)=a by lia]at this;exact this z
theorem Run.out(R:Run w m p v G N S r c e){n q:Nat}(h:jh w (S n) q)(g:¬jh w (S (n+1)) q):q=(S n).h (c n):=by
 obtain⟨k,a,rfl⟩:=h;by_cases z:k=c n
 ·rw[z]
 ·exact absurd ⟨k,a,(R.B n).piv.hj k a z⟩ g
theorem Run.inn(R:Run w m p v G N S r c e){n q:Nat}(h:¬jh w (S n) q)(g:jh w (S (n+1)) q):q=(S n).s (r n):=by
 obtain⟨k,a,rfl⟩:=g;by_cases z:k=c n
 ·rw[z];exact(R.B n).piv.hc
 ·exact absurd ⟨k,a,((R.B n).piv.hj k a z).symm⟩ h
theorem Run.hz(R:Run w m p v G N S r c e){n q:Nat}(h:jh w (S n) q):Zr w m (S n) q:=fun i b e=>by
 obtain⟨k,a,rfl⟩:=h;exact absurd e.symm ((R.Q n).hs k i a b)
theorem AL{n:Nat}{f:Nat->Int}(h:0<Of n f):∃k,k<n/\0<f k:=by
 induction n with
 |zero=>exact absurd h (by simp[Of])
 |succ n a =>
  by_cases z:0<f n
  ·exact⟨n,by lia,z⟩
  ·obtain⟨k,b,e⟩:=a (by simp only[Of]at h;lia)
   exact⟨k,by lia,e⟩
theorem Run.ends(R:Run w m p v G N S r c e):False:=by
 obtain⟨i,j,hij,eq⟩:=xz ((w+m)^w) (fun n=>jv (w+m) (S n).h w) fun n=>zb (R.Q n).hl
 have I:=ve (R.Q i).hl (R.Q j).hl eq
 let C:Nat->Prop:=fun q=>∃a b,i<=a/\a<=j/\i<=b/\b<=j/\jh w (S a) q/\¬jh w (S b) q
 have f0:C ((S i).h (c i)):=⟨i,i+1,by lia,by lia,by lia,by lia,⟨c i,(R.B i).hc,rfl⟩,fun⟨k,h,e⟩=>(R.Q (i+1)).hs k (r i) h (R.B i).hr (by rw[e,(R.B i).piv.sr])⟩;have bd:∀q,C q->q<w+m:=fun q T=>by obtain⟨a,b,_,_,_,_,⟨k,h,e⟩,_⟩:=T;rw[<- e];exact(R.Q a).hl k h
 obtain⟨q,hq,V⟩:∃q,C q/\∀x,C x->x<=q:=by
  have go:∀k,(∃q,C q/\w+m<=q+k)->∃q,C q/\∀x,C x->x<=q:=fun k=>by
   induction k with
   |zero=>intro⟨q,F,U⟩;have:=bd q F;lia
   |succ k ih =>
    rintro⟨q,F,U⟩;by_cases z:∃x,C x/\q<x
    ·obtain⟨x,x1,x2⟩:=z;exact ih ⟨x,x1,by lia⟩
    ·exact⟨q,F,fun x E=>by
      rcases yU q x with y|y
      ·exact absurd ⟨x,E,y⟩ z
      ·exact y⟩
  exact go (w+m) ⟨_,f0,by lia⟩
 have B:jh w (S i) q ↔ jh w (S j) q:=⟨fun⟨k,h,e⟩=>⟨k,h,by rw[<- I k h];exact e⟩,fun⟨k,h,e⟩=>⟨k,h,by rw[I k h];exact e⟩⟩;obtain⟨a,b,a1,a2,b1,b2,ha,Z⟩:=id hq;obtain⟨f,u1,u2,u3,u4⟩:=wV (fun n=>jh w (S n) q) ⟨a1,a2⟩ ⟨b1,b2⟩ ha Z B;obtain⟨d,v1,v2,v3,K⟩:=wV (fun n=>¬jh w (S n) q) ⟨b1,b2⟩ ⟨a1,a2⟩ Z (fun z=>z ha) (not_congr B);have K:jh w (S (d+1)) q:=ą K;have M:=R.out u3 u4;have L:=R.inn v3 K;have J:=R.B f;have s:=R.B d
 obtain⟨g,g1,Y⟩:=(R.L d).dt
 let W:(Nat->Int)->Int:=fun u=>g*bE (w+1) (up (aJ w v (S d).h) (c d) u)
 have t:c d<w+1:=by have:=s.hc;lia
 have Ws:∀k,k<m->W (v ((S d).s k))=(S d).t k (c d):=fun k h=>by
  show g*_=_;rw[(R.L d).one Y h t];grind
 have Wb:∀k,k<w+1->W (aJ w v (S d).h k)=if k=c d then(S d).d else 0:=fun k h=>by
  show g*_=_;by_cases z:k=c d
  ·rw[yI z,z,gh,Y];grind
  ·rw[yH z,jY (i:=k) (j:=c d) h t z fun x=>by rw[bt z,bY],yP]
 have P:(S f).d*(S d).t p (c d)=Of w fun k=>(S f).t p k*W (v ((S f).h k)):=by
  have F:(S f).d*W (v ((S 0).s p))=Of (w+1) fun k=>(S f).t p k*W (aJ w v (S f).h k):=by
   show(S f).d*(g*bE (w+1) (up (aJ w v (S d).h) (c d) (v ((S 0).s p))))=Of (w+1) fun k=>(S f).t p k*(g*bE (w+1) (up (aJ w v (S d).h) (c d) (aJ w v (S f).h k)))
   have U:(S f).d*bE (w+1) (up (aJ w v (S d).h) (c d) (v ((S 0).s p)))=Of (w+1) fun k=>(S f).t p k*bE (w+1) (up (aJ w v (S d).h) (c d) (aJ w v (S f).h k)):=by
    rw[<- pY t,<- jX t];exact jb fun x E=>by rw[<- R.sp f];exact(R.L f).lin p R.hp x E
   rw[sum_congr (g:=fun k=>g*((S f).t p k*bE (w+1) (up (aJ w v (S d).h) (c d) (aJ w v (S f).h k)))) fun k _=>by grind,sum_mul,<- U];grind
  rw[<- Ws p R.hp,R.sp d,F];show Of w _+_=_;have hw:W (aJ w v (S f).h w)=0:=by
   have:aJ w v (S f).h w=aJ w v (S d).h w:=by unfold aJ;rw[yI rfl,yI rfl]
   rw[this,Wb w oM,yH (by have:=s.hc;lia)]
  show Of w _+(S f).t p w*W (aJ w v (S f).h w)=_;rw[hw,yP,Ġ];exact sum_congr fun k h=>by rw[show aJ w v (S f).h k=v ((S f).h k) by unfold aJ;rw[yH oM]]
 obtain⟨k,h,D⟩:=AL (by rw[<- P];exact X5 (R.L f).pos s.up);have Q:jh w (S f) ((S f).h k):=⟨k,h,rfl⟩;rcases(R.Q d).cov ((S f).h k) ((R.Q f).hl k h) with⟨l,A,o⟩|⟨l,A,o⟩
 ·-- a line at d
  rw[<- o,Ws l A]at D;have O:¬jh w (S d) ((S f).h k):=fun⟨x,E,ex⟩=>(R.Q d).hs x l E A (by rw[ex,o])
  have le:=V _ ⟨f,d,by lia,by lia,by lia,by lia,Q,O⟩;have nt:(S d).t l (c d)≠0:=fun z=>by rw[z,yP]at D;lia
  have H:¬N ((S f).h k):=fun z=>nt (((R.F d).n l A (by rw[o];exact z)).2 (c d) s.hc s.nc)
  by_cases X:(S f).h k=q
  ·have kc:k=c f:=(R.Q f).hi k (c f) h J.hc (by rw[X];exact M)
   have lr:l=r d:=(R.Q d).si l (r d) A s.hr (by rw[o,X];exact L);rw[kc,lr]at D
   have:=ś J.up s.neg
   lia
  ·have np:¬0<(S f).t p k:=fun z=>by
    have:=J.least k h H z
    rw[<- M]at this;lia
   have n0:(S f).t p k<0:=by
    rcases yV ((S f).t p k) 0 with z|z
    ·exact z
    ·rw[show(S f).t p k=0 by lia,yQ]at D;lia
   have tl:(S d).t l (c d)<0:=by
    rcases yV ((S d).t l (c d)) 0 with z|z
    ·exact z
    ·have:=Ć (Ű n0) z;lia
   have gl:G ((S d).s l):=by
    rcases(R.F f).f k h with z|z
    ·rw[o];exact z
    ·exact absurd z H
   have lz:(S d).t l w=0:=R.zall I oM oM oM oM (R.hz Q) l A o;have rz:=R.flat I (n:=d) oM oM;rcases s.ti l A gl tl with z|⟨_,z⟩
   ·rw[lz,rz]at z;lia
   ·rw[<- L,o]at z;lia
 ·-- free at d
  have e1:v ((S f).h k)=aJ w v (S d).h l:=by unfold aJ;rw[yH oM,o]
  rw[e1,Wb l oM]at D;by_cases z:l=c d
  ·rw[yI z]at D
   have tp:0<(S f).t p k:=by
    rcases yV 0 ((S f).t p k) with y|y
    ·exact y
    ·have:=Ć y (Ű (R.L d).pos);lia
   have H:¬N ((S f).h k):=by rw[<- o,z];exact s.nc
   have l1:=J.least k h H tp;rw[<- M]at l1;have O:¬jh w (S (d+1)) ((S f).h k):=fun⟨x,E,ex⟩=>(R.Q (d+1)).hs x (r d) E s.hr (by rw[ex,s.piv.sr,<- o,z])
   have l2:=V _ ⟨f,d+1,by lia,by lia,by lia,by lia,Q,O⟩;have:q=(S f).h k:=by lia
   exact(R.Q d).hs l (r d) A s.hr (by rw[o,<- L,this])
  ·rw[yH z,yP]at D;lia
end
structure Sh where
 d:Int
 ls:List (List Int)
 hd:List Nat
 sd:List Nat
 gd:List Nat
 nl:List Nat
 tn:List Nat
noncomputable def gI(xs:List Int)(j:Nat):Int:=xs.getD j 0
noncomputable def row(S:Sh)(i:Nat):List Int:=S.ls.getD i []
def Sh.t(S:Sh)(i j:Nat):Int:=gI (row S i) j
noncomputable def Sh.h(S:Sh)(j:Nat):Nat:=S.hd.getD j 0
noncomputable def Sh.s(S:Sh)(i:Nat):Nat:=S.sd.getD i 0
noncomputable def fdvS(a b:Int):Int:=if 0<b then a/b else a.fdiv b
def chLine(l P:List Int)(c:Nat)(sg d:Int):List Int :=
 if gI l c=0 then(if gI P c=d then l else l.map fun x=>fdvS (x*gI P c) d) else((l.zip P).map fun z=>fdvS (z.1*gI P c-gI l c*z.2) d).set c (sg*gI l c)
noncomputable def sgn(x:Int):Int:=if x<0 then -1 else 1
def pvl(S:Sh)(r c:Nat):List Int:=(row S r).map fun x=>sgn (S.t r c)*x
def Oj(S:Sh)(r c:Nat):Sh:={ S with
 d:=gI (pvl S r c) c
 ls:=(S.ls.map fun l=>chLine l (pvl S r c) c (sgn (S.t r c)) S.d).set r (((pvl S r c).map fun x=>- x).set c (sgn (S.t r c)*S.d))
 hd:=S.hd.set c (S.s r)
 sd:=S.sd.set r (S.h c) }
structure Om(w m:Nat)(S:Sh):Prop where
 ls:S.ls.length=m
 row:∀l∈S.ls,l.length=w+1
 hd:S.hd.length=w
 sd:S.sd.length=m
theorem oU{f:Int->Int}{xs:List Int}{j:Nat}(h:j<xs.length):gI (xs.map f) j=f (gI xs j):=by
 unfold gI;simp[zD,h]
theorem gI_set_at{xs:List Int}{j:Nat}{x:Int}(h:j<xs.length):gI (xs.set j x) j=x:=by
 unfold gI;simp[zD,h]
theorem gI_set_ne{j k:Nat}{x:Int}(h:k≠j):gI (xs.set j x) k=gI xs k:=by
 unfold gI;simp[zD,yX,h.symm]
theorem Hn{xs ys:List Int}{f:Int×Int->Int}{j:Nat}(h:j<xs.length)(h':j<ys.length):gI ((xs.zip ys).map f) j=f (gI xs j,gI ys j):=by
 unfold gI;have hz:j<(xs.zip ys).length:=by rw[Ϫ];lia
 simp only[zD,zR,zF h,zF h',zF hz,Ï,ϗ,List.getElem_zip]
theorem getD_mem{α:Type}{xs:List α}{i:Nat}{a:α}(h:i<xs.length):xs.getD i a∈xs:=by
 simp[zD,zF h]
theorem Om.rl{w m:Nat}(P:Om w m S){i:Nat}(h:i<m):(SX.row S i).length=w+1:=P.row _ (getD_mem (by rw[P.ls];exact h))
theorem u9{a b:Int}(h:0<b):fdvS a b=a/b:=yI h
theorem wA{c:Nat}{sg d:Int}(h:l.length=P.length):(chLine l P c sg d).length=l.length:=by
 unfold chLine;split
 ·split
  ·rfl
  ·simp
 ·simp[h]
theorem tx{r c i:Nat}(a:i<S.ls.length)(b:r<S.ls.length):SX.row (Oj S r c) i=if i=r then((pvl S r c).map fun x=>- x).set c (sgn (S.t r c)*S.d) else chLine (SX.row S i) (pvl S r c) c (sgn (S.t r c)) S.d:=by
 unfold SX.row Oj;simp only[zD,yX,zH];by_cases e:i=r
 ·subst e;simp[a]
 ·rw[yH fun z=>e z.symm,yH e];simp[zF a]
theorem exch_shp{w m:Nat}{r c:Nat}(P:Om w m S)(d:r<m):Om w m (Oj S r c):=by
 have a:(pvl S r c).length=w+1:=by unfold pvl;rw[zH];exact P.rl d
 refine⟨by simp[Oj,P.ls],fun l e=>?_,by simp[Oj,P.hd],by simp[Oj,P.sd]⟩;rcases ć e with h|h
 ·obtain⟨f,b,rfl⟩:=yD.mp h
  rw[wA (by rw[P.row _ b,a])];exact P.row _ b
 ·rw[h];simp[a]
theorem Fm(x:Int):sgn x*sgn x=1:=by unfold sgn;split<;>rfl
theorem Dk{x:Int}(h:x≠0):0<sgn x*x:=by unfold sgn;split<;>lia
theorem kC{w m:Nat}{r c:Nat}(P:Om w m S)(f:r<m)(q:c<w)(hd:0<S.d)(p:S.t r c≠0):qG w m r c (sgn (S.t r c)) S.d S.t S.h S.s (Oj S r c).d (Oj S r c).t (Oj S r c).h (Oj S r c).s:=by
 have o:=P.rl f;have g:(pvl S r c).length=w+1:=by unfold pvl;rw[zH];exact o
 have e:∀j,j<w+1->gI (pvl S r c) j=sgn (S.t r c)*S.t r j:=fun j a=>by
  unfold pvl;rw[oU (by rw[o];exact a)];rfl
 have b:∀i,i<m->i≠r->∀j,j<w+1->(Oj S r c).t i j=if j=c then sgn (S.t r c)*S.t i c else(S.t i j*(sgn (S.t r c)*S.t r c)-S.t i c*(sgn (S.t r c)*S.t r j))/S.d:=fun i d ne j a=>by
  have l:=P.rl d;show gI (SX.row (Oj S r c) i) j=_;rw[tx (by rw[P.ls];exact d) (by rw[P.ls];exact f),yH ne];have k:gI (SX.row S i) c=S.t i c:=rfl;have h:gI (SX.row S i) j=S.t i j:=rfl;unfold chLine;by_cases z:gI (SX.row S i) c=0
  ·rw[yI z]
   rw[k]at z;rw[z];have s:∀x:Int,x-0*(sgn (S.t r c)*S.t r j)=x:=fun x=>by rw[yQ,Int.sub_zero]
   rw[s];by_cases y:gI (pvl S r c) c=S.d
   ·rw[yI y,h]
    rw[e c oM]at y;rw[y,Int.mul_ediv_cancel _ oM];by_cases x:j=c
    ·rw[yI x,x,z,yP]
    ·rw[yH x]
   ·rw[yH y,oU (by rw[l];exact a),h,u9 hd,e c oM]
    by_cases x:j=c
    ·rw[yI x,x,z,yP,yQ,Int.zero_ediv]
    ·rw[yH x]
  ·rw[yH z]
   by_cases x:j=c
   ·rw[yI x,x,gI_set_at (by simp[l,g];lia),k]
   ·rw[yH x,gI_set_ne x,Hn (by rw[l];exact a) (by rw[g];exact a),u9 hd,h,k,e c oM,e j a]
 have n:∀j,j<w+1->(Oj S r c).t r j=if j=c then sgn (S.t r c)*S.d else-(sgn (S.t r c)*S.t r j):=fun j a=>by
  show gI (SX.row (Oj S r c) r) j=_;rw[tx (by rw[P.ls];exact f) (by rw[P.ls];exact f),yI rfl];by_cases x:j=c
  ·rw[yI x,x,gI_set_at (by simp[g];lia)]
  ·rw[yH x,gI_set_ne x,oU (by rw[g];exact a),e j a]
 refine⟨Fm _,Dk p,e c oM,fun i d ne=>by rw[b i d ne c oM,yI rfl],fun i d ne j a x=>by rw[b i d ne j a,yH x],by rw[n c oM,yI rfl],fun j a x=>by rw[n j a,yH x],?_,fun j a x=>?_,?_,fun i d x=>?_⟩
 ·show((S.hd.set c (S.s r)).getD c 0)=_
  simp[zD,P.hd,q]
 ·show((S.hd.set c (S.s r)).getD j 0)=S.hd.getD j 0
  simp[zD,yX,x.symm]
 ·show((S.sd.set r (S.h c)).getD r 0)=_
  simp[zD,P.sd,f]
 ·show((S.sd.set r (S.h c)).getD i 0)=S.sd.getD i 0
  simp[zD,yX,x.symm]
def trn(S:Sh)(p:Nat):Sh:={ S with ls:=S.ls.set p ((row S p).map fun x=>- x),tn:=if S.s p∈S.tn then S.tn else S.tn++[S.s p] }
theorem trn_shp{w m p:Nat}(P:Om w m S)(a:p<m):Om w m (trn S p):=by
 refine⟨by simp[trn,P.ls],fun l b=>?_,P.hd,P.sd⟩;rcases ć b with h|h
 ·exact P.row _ h
 ·rw[h,zH];exact P.rl a
theorem trn_t{w m p:Nat}(P:Om w m S)(c:p<m):(∀j,j<w+1->(trn S p).t p j=- S.t p j)/\∀i,i<m->i≠p->∀j,j<w+1->(trn S p).t i j=S.t i j:=by
 have b:∀i,i<m->row (trn S p) i=if i=p then(row S p).map (fun x=>- x) else row S i:=fun i a=>by
  show(S.ls.set p _).getD i []=_;simp only[zD,yX];by_cases e:i=p
  ·subst e;rw[yI rfl,yI (by rw[P.ls];exact a),yI rfl];rfl
  ·rw[yH fun z=>e z.symm,yH e];unfold row;rw[zD]
 refine⟨fun j d=>?_,fun i a ne j d=>?_⟩
 ·show gI (row (trn S p) p) j=_
  rw[b p c,yI rfl,oU (by rw[P.rl c];exact d)];rfl
 ·show gI (row (trn S p) i) j=_
  rw[b i a,yH ne];rfl
def K1(S:Sh)(w q r i:Nat):Prop:=S.t r w*- S.t i q<S.t i w*- S.t r q\/(S.t r w*- S.t i q=S.t i w*- S.t r q/\S.s r<=S.s i)
def Oh(S:Sh)(w q k:Nat)(o:Option Nat):Prop:=(o=Á->∀i,i<k->S.s i∈S.gd->¬S.t i q<0)/\∀r,o=À r->r<k/\S.s r∈S.gd/\S.t r q<0/\∀i,i<k->S.s i∈S.gd->S.t i q<0->K1 S w q r i
theorem MA{A B C x y z:Int}{a b c:Nat}(p:0<x)(j:0<y)(hz:0<z)(f:A*y<B*x\/(A*y=B*x/\a<=b))(d:B*z<C*y\/(B*z=C*y/\b<=c)):A*z<C*x\/(A*z=C*x/\a<=c):=by
 have i:A*y<=B*x:=by lia
 have h:B*z<=C*y:=by lia
 have o:(A*y)*z<=(B*x)*z:=ç i oM;have n:(B*z)*x<=(C*y)*x:=ç h oM;have t:(B*x)*z=(B*z)*x:=by grind
 have s:(A*y)*z=(A*z)*y:=by grind
 have r:(C*y)*x=(C*x)*y:=by grind
 have g:(A*z)*y<=(C*x)*y:=by lia
 have m:A*z<=C*x:=ħ g j;by_cases e:A*z=C*x
 ·right
  refine⟨e,?_⟩;have q:(A*z)*y=(C*x)*y:=by rw[e]
  have l:A*y=B*x:=by
   have:(A*y)*z=(B*x)*z:=by(omega)
   exact c! oM this
  have k:B*z=C*y:=by
   have:(B*z)*x=(C*y)*x:=by lia
   exact c! oM this
  rcases f with f|f
  ·lia
  ·rcases d with d|d
   ·lia
   ·lia
 ·left;(omega)
section
variable{S:Sh}{w q k r:Nat}{o:Option Nat}
theorem tt_zero:Oh S w q 0 Á:=⟨fun _ i h=>by lia,fun r h=>nomatch h⟩
theorem tt_skip(h:¬(S.t k q<0/\S.s k∈S.gd))(T:Oh S w q k o):Oh S w q (k+1) o:=by
 refine⟨fun e i j g f=>?_,fun r e=>?_⟩
 ·by_cases z:i=k
  ·subst z;exact h ⟨f,g⟩
  ·exact T.1 e i oM g f
 ·obtain⟨a,b,c,d⟩:=T.2 r e
  refine⟨by lia,b,c,fun i j g f=>?_⟩;by_cases z:i=k
  ·subst z;exact absurd ⟨f,g⟩ h
  ·exact d i oM g f
theorem tt_first(h:S.t k q<0)(a:S.s k∈S.gd)(T:Oh S w q k Á):Oh S w q (k+1) (À k):=by
 refine⟨(fun e=>nomatch e),fun r e=>?_⟩;cases e;refine⟨by lia,a,h,fun i c a b=>?_⟩;by_cases z:i=k
 ·subst z;exact .inr ⟨rfl,zP _⟩
 ·exact absurd b (T.1 rfl i oM a)
theorem tt_new(h:S.t k q<0)(l:S.s k∈S.gd)(j:S.t k w*- S.t r q<S.t r w*- S.t k q\/(S.t k w*- S.t r q=S.t r w*- S.t k q/\S.s k<S.s r))(T:Oh S w q k (À r)):Oh S w q (k+1) (À k):=by
 refine⟨(fun e=>nomatch e),fun m e=>?_⟩;cases e;obtain⟨a,b,c,d⟩:=T.2 r rfl;refine⟨by lia,l,h,fun i n g f=>?_⟩;by_cases z:i=k
 ·subst z;exact .inr ⟨rfl,zP _⟩
 ·exact MA (x:=- S.t k q) (y:=- S.t r q) (z:=- S.t i q) oM oM oM (j.imp id fun x=>⟨x.1,by lia⟩) (d i oM g f)
theorem tt_old(h:S.t k q<0)(j:¬(S.t k w*- S.t r q<S.t r w*- S.t k q\/(S.t k w*- S.t r q=S.t r w*- S.t k q/\S.s k<S.s r)))(T:Oh S w q k (À r)):Oh S w q (k+1) (À r):=by
 refine⟨(fun e=>nomatch e),fun l e=>?_⟩;cases e;obtain⟨a,b,c,d⟩:=T.2 r rfl;refine⟨by lia,b,c,fun i m g f=>?_⟩;by_cases z:i=k
 ·subst z
  unfold K1;have n:¬(S.t i w*- S.t r q<S.t r w*- S.t i q):=fun x=>j (.inl x)
  by_cases e:S.t i w*- S.t r q=S.t r w*- S.t i q
  ·exact .inr ⟨e.symm,S! fun x=>j (.inr ⟨e,x⟩)⟩
  ·left;(omega)
 ·exact d i oM g f
end
noncomputable def vt(v:Nat->Nat->Int)(tn:List Nat):Nat->Nat->Int:=fun q x=>if q∈tn then-v q x else v q x
structure MI(w m:Nat)(v:Nat->Nat->Int)(S:Sh):Prop where
 shp:Om w m S
 lin:Lin w m (vt v S.tn) S.d S.t S.h S.s
 pm:Pm w m S.h S.s
 fea:Fea w m (·∈S.gd) (·∈S.nl) S.t S.h S.s
def toSt(S:Sh):St:=⟨S.d,S.t,S.h,S.s⟩
def Rais(w:Nat)(S:Sh)(p:Nat)(o:Option Nat):Prop:=(o=Á->∀j,j<w->S.h j∉S.nl->¬0<S.t p j)/\∀q,o=À q->q<w/\S.h q∉S.nl/\0<S.t p q/\∀j,j<w->S.h j∉S.nl->0<S.t p j->S.h q<=S.h j
structure Kept(m p:Nat)(S T:Sh):Prop where
 gd:T.gd=S.gd
 nl:T.nl=S.nl
 tn:T.tn=S.tn
 si:∀i,i<m->i≠p->S.s i∉S.gd->T.s i=S.s i
section
variable{w m p q r:Nat}{v:Nat->Nat->Int}{S T:Sh}
theorem Kept.refl:Kept m p S S:=⟨rfl,rfl,rfl,fun _ _ _ _=>rfl⟩
theorem Kept.trans(a:Kept m p S T)(b:Kept m p T U):Kept m p S U :=
 ⟨b.gd.trans a.gd,b.nl.trans a.nl,b.tn.trans a.tn,fun i c ne h=>by
  have d:=a.si i c ne h;rw[b.si i c ne (by rw[d,a.gd];exact h),d]⟩
theorem MI.step(I:MI w m v S)(n:p<m)(h:S.s p∉S.gd)(l:Rais w S p (À q))(k:Oh S w q m (À r)):MI w m v (Oj S r q)/\Bl w m p (·∈S.gd) (·∈S.nl) r q (sgn (S.t r q)) (toSt S) (toSt (Oj S r q))/\Kept m p S (Oj S r q)/\(Oj S r q).s p=S.s p:=by
 obtain ⟨b,g,s,o⟩:=l.2 q rfl;obtain ⟨r1,r2,f,e⟩:=k.2 r rfl;have a:=kC I.shp r1 b I.lin.pos (show S.t r q ≠ 0 by lia);refine ⟨⟨exch_shp I.shp r1,I.lin.piv a r1 b,I.pm.piv a r1 b,?_⟩,⟨b,g,s,o,r1,r2,f,e,a⟩,⟨rfl,rfl,rfl,fun i c _ d=>?_⟩,?_⟩
 ·exact Fea.tight I.lin I.pm I.fea a r1 b g r2 f fun i c d j=>by
   rcases e i c d j with z|z
   ·lia
   ·exact W4 z.1
 ·exact a.si i c fun z=>d (by rw[z];exact r2)
 ·exact a.si p n fun z=>h (by rw[z];exact r2)
theorem MI.low(I:MI w m v S)(c:p<m)(f:S.s p∉S.gd)(h:Rais w S p (À q))(g:Oh S w q m (À r))(n:¬S.t p w*S.t r q<=S.t r w*S.t p q):(Oj S r q).t p w<0:=by
 obtain ⟨i,t,s,o⟩:=h.2 q rfl;obtain ⟨r1,r2,d,l⟩:=g.2 r rfl;have a:=kC I.shp r1 i I.lin.pos (show S.t r q ≠ 0 by lia);have ne:p ≠ r:=fun z=>f (by rw [z];exact r2)
 have b:=I.lin.ex' (e:=sgn (S.t r q)) c r1 (show q < w + 1 by lia) (show w < w + 1 by lia) (show q ≠ w by lia);rw [<- a.tj p c ne w oM oM] at b;have k:sgn (S.t r q)=-1:=by unfold sgn;rw [yI d]
 rw[k]at b;have j:S.t p w*(-1*S.t r q)-S.t p q*(-1*S.t r w)=S.t r w*S.t p q-S.t p w*S.t r q:=by grind
 rw[j]at b;rcases yV ((Oj S r q).t p w) 0 with z|z
 ·exact z
 ·have:=þ (Ű I.lin.pos) z;lia
theorem MI.up(I:MI w m v S)(e:p<m)(ng:S.s p∉S.gd)(B:S.s p∉S.nl)(low:S.t p w<0)(A:Rais w S p (À q))(h:Oh S w q m Á\/∃r,Oh S w q m (À r)/\S.t p w*S.t r q<=S.t r w*S.t p q) :
  MI w m v { Oj S p q with gd:=S.gd++[S.s p] }/\MI w m v { Oj S p q with nl:=S.nl++[S.s p] }/\Kept m p S (Oj S p q):=by
 obtain ⟨f,s,l,C⟩:=A.2 q rfl;have d:=kC I.shp e f I.lin.pos (show S.t p q ≠ 0 by lia);have sh:=exch_shp (c:=q) I.shp e;have n:∀ i,i < m->S.s i ∈ S.gd->S.t i q < 0->S.t p w * S.t i q <= S.t i w * S.t p q:=fun i j o k=>by
  rcases h with h|⟨r,h,y⟩
  ·exact absurd k (h.1 rfl i j o)
  ·obtain⟨r1,r2,u,t⟩:=h.2 r rfl
   refine En (a:=S.t r w) (b:=S.t r q) u k l y ?_;rcases t i j o k with z|z
   ·lia
   ·exact W4 z.1
 refine⟨⟨⟨sh.ls,sh.row,sh.hd,sh.sd⟩,I.lin.piv d e f,I.pm.piv d e f,?_⟩,⟨⟨sh.ls,sh.row,sh.hd,sh.sd⟩,I.lin.piv d e f,I.pm.piv d e f,?_⟩,⟨rfl,rfl,rfl,fun i j ne _=>d.si i j ne⟩⟩
 ·exact Fea.lift (G':=(·∈S.gd++[S.s p])) I.lin I.pm I.fea d e f s l low n (fun x g=>by simp[g]) (fun x g=>.rfl) (.inl (by simp))
 ·exact Fea.lift (N':=(·∈S.nl++[S.s p])) I.lin I.pm I.fea d e f s l low n (fun x g=>.rfl) (fun x g=>by simp[g]) (.inr (by simp))
theorem MI.move(I:MI w m v S)(b:p<m)(d:q<w)(f:S.h q∉S.nl)(h:S.t p w=0)(hz:S.t p q≠0):MI w m v { Oj S p q with nl:=S.nl++[S.s p] }/\Kept m p S (Oj S p q):=by
 have a:=kC I.shp b d I.lin.pos hz;have sh:=exch_shp (c:=q) I.shp b;refine⟨⟨⟨sh.ls,sh.row,sh.hd,sh.sd⟩,I.lin.piv a b d,I.pm.piv a b d,?_⟩,⟨rfl,rfl,rfl,fun i g ne _=>a.si i g ne⟩⟩;exact Fea.move (N':=(·∈S.nl++[S.s p])) I.lin I.pm I.fea a b d f h (fun x e=>.rfl) (fun x e=>by simp[e]) (.inr (by simp))
theorem MI.guard(I:MI w m v S)(a:p<m)(b:0<=S.t p w):MI w m v { S with gd:=S.gd++[S.s p] }:=by
 refine⟨⟨I.shp.ls,I.shp.row,I.shp.hd,I.shp.sd⟩,I.lin,I.pm,?_⟩;have e:(fun x=>x∈S.gd++[S.s p])=fun x=>x∈S.gd\/x=S.s p:=by funext x;simp
 show Fea w m (fun x=>x∈S.gd++[S.s p]) _ _ _ _;rw[e];exact Fea.guard I.fea I.pm a b
theorem MI.nail(I:MI w m v S)(a:p<m)(b:S.t p w=0)(hz:∀j,j<w->S.h j∉S.nl->S.t p j=0):MI w m v { S with nl:=S.nl++[S.s p] }:=by
 refine⟨⟨I.shp.ls,I.shp.row,I.shp.hd,I.shp.sd⟩,I.lin,I.pm,?_⟩;have e:(fun x=>x∈S.nl++[S.s p])=fun x=>x∈S.nl\/x=S.s p:=by funext x;simp
 show Fea w m _ (fun x=>x∈S.nl++[S.s p]) _ _ _;rw[e];exact Fea.nail I.fea I.pm a b hz
theorem MI.turn(I:MI w m v S)(a:p<m)(ng:S.s p∉S.gd)(f:S.s p∉S.nl)(c:S.s p∉S.tn):MI w m v (trn S p):=by
 obtain⟨d,b⟩:=trn_t I.shp a;refine⟨trn_shp I.shp a,?_,I.pm,Fea.turn I.fea I.pm a ng f b⟩;have e:vt v (trn S p).tn=tv (vt v S.tn) (S.s p):=by
  have:(trn S p).tn=S.tn++[S.s p]:=by show(if _ then _ else _)=_;rw[yH c]
  rw[this];funext q x;unfold vt tv;by_cases h:q=S.s p
  ·subst h;simp[c]
  ·simp[h]
 rw[e];exact Lin.turn I.lin I.pm a d b
theorem no_chain(k:p<m)(f:Nat->Sh)(h:∀n,MI w m v (f n)/\(∃r q e,Bl w m p (·∈(f n).gd) (·∈(f n).nl) r q e (toSt (f n)) (toSt (f (n+1))))/\Kept m p (f n) (f (n+1)))(i:(f 0).s p∉(f 0).gd):False:=by
 have a:∀n,Kept m p (f 0) (f n):=fun n=>by
  induction n with
  |zero=>exact Kept.refl
  |succ n j=>exact j.trans (h n).2.2
 have g:∀n,∃r q e,Bl w m p (·∈(f 0).gd) (·∈(f 0).nl) r q e (toSt (f n)) (toSt (f (n+1))):=fun n=>by
  have:=(h n).2.1;rw[(a n).gd,(a n).nl]at this;exact this
 let r:=fun n=>ď (g n)
 have b:=fun n=>ě (g n)
 let q:=fun n=>ď (b n)
 have d:=fun n=>ě (b n)
 let e:=fun n=>ď (d n)
 have l:=fun n=>ě (d n)
 refine Run.ends (w:=w) (m:=m) (p:=p) (v:=vt v (f 0).tn) (G:=(·∈(f 0).gd)) (N:=(·∈(f 0).nl)) (S:=fun n=>toSt (f n)) (r:=r) (c:=q) (e:=e) ⟨fun n=>?_,fun n=>(h n).1.pm,fun n=>?_,fun n=>?_,k,i⟩
 ·have:=(h n).1.lin;rw[(a n).tn]at this;exact this
 ·have:=(h n).1.fea;rw[(a n).gd,(a n).nl]at this;exact this
 ·exact l n
theorem MI.bound(I:MI w m v S){M B:Nat}(f:1<=M)(b:∀q x,x<w+1->(v q x).natAbs<=M)(c:fct (w+1)*M^(w+1)<B):S.d.natAbs<B/\∀i,i<m->∀j,j<w+1->(S.t i j).natAbs<B:=by
 have:=I.lin.bound f (M:=M) fun q x a=>by
  unfold vt;split
  ·rw[ð];exact b q x a
  ·exact b q x a
 exact⟨yM this.1 c,fun i e j d=>yM (this.2 i e j d) c⟩
end
theorem vg:∀n:Nat,bE n (fun i j=>if j=i then 1 else 0)=1
 |0=>rfl
 |n+1=>by
  show Of (n+1) _=1;rw[sum_one (k:=0) oM fun k hk ne=>by
   show sg k*(if 0=k then 1 else 0)*_=0;rw[yH fun z=>ne z.symm,yP,yQ]]
  have:bE n (gR (fun i j=>if j=i then(1:Int) else 0) 0)=1:=by
   rw[dw (B:=fun i j=>if j=i then(1:Int) else 0) fun i j _ _=>?_]
   ·exact vg n
   ·unfold gR skip;simp
  rw[this];rfl
def v0(w:Nat)(L:List (List Int)):Nat->Nat->Int:=fun q x=>if q<w then(if x=q then 1 else 0) else gI (L.getD (q-w) []) x
noncomputable def openS(w:Nat)(L:List (List Int))(k:Nat):Sh:=⟨1,L,Æ w,(Æ L.length).map (w+·),Æ k,[],[]⟩
theorem open_MI{w nr:Nat}(r:∀l∈L,l.length=w+1)(hz:∀i,i<nr->gI (L.getD i []) w=0):MI w L.length (v0 w L) (openS w L (w+nr)):=by
 have d:∀j,j<w->(openS w L (w+nr)).h j=j:=fun j a=>by show(Æ w).getD j 0=j;simp[zD,a]
 have c:∀i,i<L.length->(openS w L (w+nr)).s i=w+i:=fun i b=>by show((Æ L.length).map (w+·)).getD i 0=w+i;simp[zD,b]
 have o:vt (v0 w L) (openS w L (w+nr)).tn=v0 w L:=by funext q x;unfold vt;exact yH (by show q∉[];simp)
 have m:∀k,k<w+1->∀x,x<w+1->aJ w (v0 w L) (openS w L (w+nr)).h k x=if x=k then 1 else 0:=fun k f x g=>by
  unfold aJ;by_cases e:k=w
  ·rw[yI e,e];rfl
  ·rw[yH e,d k oM];unfold v0;rw[yI oM]
 refine⟨⟨rfl,r,by simp[openS],by simp[openS]⟩,?_,?_,?_⟩
 ·rw[o]
  refine⟨Int.one_pos,fun i b x g=>?_,1,rfl,?_⟩
  ·rw[c i b,sum_one (k:=x) g fun k f ne=>by rw[m k f x g,yH fun z=>ne z.symm,yP],m x g x g,yI rfl]
   unfold v0;rw[yH oM,show w+i-w=i by lia];show 1*gI (L.getD i []) x=gI (L.getD i []) x*1;lia
  ·rw[dw (B:=fun i j=>if j=i then 1 else 0) fun i j b a=>m i b j a,vg];rfl
 ·refine⟨fun j a=>by rw[d j a];lia,fun i b=>by rw[c i b];lia,fun j k a f e=>by rw[d j a,d k f]at e;exact e,fun j k a f e=>by rw[c j a,c k f]at e;lia,fun j i a b e=>by rw[d j a,c i b]at e;lia,fun q s=>?_⟩
  by_cases h:q<w
  ·exact .inr ⟨q,h,d q h⟩
  ·exact .inl ⟨q-w,by lia,by rw[c _ oM];lia⟩
 ·refine⟨fun i b n=>?_,fun i b p=>?_,fun j a=>.inl ?_⟩
  ·rw[c i b]at n
   have:w+i<w+nr:=Õ.mp n;show 0<=gI (L.getD i []) w;rw[hz i oM];decide
  ·exact absurd (show _ ∈ ([]:List Nat) from p) (by simp)
  ·rw[d j a];exact Õ.mpr oM
theorem open_s{w k i:Nat}(a:i<L.length):(openS w L k).s i=w+i:=by show((Æ L.length).map (w+·)).getD i 0=w+i;simp[zD,a]
def Qt(w:Nat)(v:Nat->Nat->Int)(Y:Nat->Int)(e:Int)(q:Nat):Int:=(Of w fun x=>v q x*Y x)+v q w*e
section
variable{w m p:Nat}{v:Nat->Nat->Int}{S:Sh}
theorem pq{Y:Nat->Int}{e:Int}{q:Nat}:Qt w (vt v S.tn) Y e q=if q∈S.tn then-Qt w v Y e q else Qt w v Y e q:=by
 unfold Qt vt;by_cases h:q∈S.tn
 ·simp only[yI h]
  rw[sum_congr (g:=fun x=>(-1)*(v q x*Y x)) fun x _=>by grind,sum_mul];grind
 ·simp only[yH h]
theorem MI.line(I:MI w m v S)(d:p<m)(Y:Nat->Int)(e:Int):S.d*Qt w (vt v S.tn) Y e (S.s p)=(Of w fun j=>S.t p j*Qt w (vt v S.tn) Y e (S.h j))+S.t p w*e:=by
 have h:=I.lin.lin p d;have c:∀x,x<w+1->S.d*vt v S.tn (S.s p) x=(Of w fun k=>S.t p k*vt v S.tn (S.h k) x)+S.t p w*(if x=w then 1 else 0):=fun x b=>by
  rw[h x b];show Of w _+S.t p w*aJ w (vt v S.tn) S.h w x=_;have a:aJ w (vt v S.tn) S.h w x=if x=w then 1 else 0:=by unfold aJ;rw[yI rfl];rfl
  rw[a];congr 1;exact sum_congr fun k l=>by unfold aJ;rw[yH oM]
 unfold Qt;rw[H!,<- sum_mul];have a:(Of w fun x=>S.d*(vt v S.tn (S.s p) x*Y x))=Of w fun j=>S.t p j*Of w fun x=>vt v S.tn (S.h j) x*Y x:=by
  rw[sum_congr (g:=fun x=>Of w fun k=>S.t p k*(vt v S.tn (S.h k) x*Y x)) fun x b=>by
   rw[<- l?,c x oM,yH oM,yP,Ġ,ϝ,<- sum_mul];exact sum_congr fun k _=>by grind,Ap]
  exact sum_congr fun j _=>by rw[sum_mul]
 have i:S.d*(vt v S.tn (S.s p) w*e)=(Of w fun j=>S.t p j*(vt v S.tn (S.h j) w*e))+S.t p w*e:=by
  rw[<- l?,c w oM,yI rfl,G!,Int.add_mul];congr 1;rw[ϝ,<- sum_mul];exact sum_congr fun k _=>by grind
 rw[a,i,sum_congr (f:=fun j=>S.t p j*((Of w fun x=>vt v S.tn (S.h j) x*Y x)+vt v S.tn (S.h j) w*e)) (g:=fun j=>S.t p j*(Of w fun x=>vt v S.tn (S.h j) x*Y x)+S.t p j*(vt v S.tn (S.h j) w*e)) fun j _=>by rw[H!],sum_add];lia
theorem vJ{n:Nat}{f:Nat->Int}(h:∀i,i<n->f i<=0):Of n f<=0:=by
 induction n with
 |zero=>exact ϫ 0
 |succ n a=>have:=a fun i b=>h i oM;have:=h n oM;simp only[Of];lia
theorem MI.dual(I:MI w m v S)(d:p<m)(g:∀j,j<w->S.h j∉S.nl->¬0<S.t p j)(tn:∀q∈S.tn,q∈S.nl\/q=S.s p){Y:Nat->Int}{e:Int}(k:∀j,j<w->S.h j∉S.nl->0<=Qt w v Y e (S.h j))(i:∀j,j<w->S.h j∈S.nl->Qt w v Y e (S.h j)=0) :
  S.d*(if S.s p∈S.tn then-Qt w v Y e (S.s p) else Qt w v Y e (S.s p))<=S.t p w*e:=by
 rw[<- pq,I.line d Y e];have:(Of w fun j=>S.t p j*Qt w (vt v S.tn) Y e (S.h j))<=0:=vJ fun j c=>by
  by_cases h:S.h j∈S.nl
  ·rw[pq,i j c h];split<;>lia
  ·have f:S.h j∉S.tn:=fun z=>by
    rcases tn _ z with y|y
    ·exact h y
    ·exact I.pm.hs j p c d y
   rw[pq,yH f];have a:=g j c h;have b:=k j c h;exact Ć oM b
 lia
theorem MI.vert(I:MI w m v S)(l:∀q,q<w->∀x,x<w+1->v q x=if x=q then 1 else 0)(g:∀q∈S.tn,w<=q){c:Nat}(p:c<w+1){X:Nat->Int}(s:∀i,i<m->S.s i<w->X (S.s i)=S.t i c)(r:∀j,j<w->S.h j<w->X (S.h j)=if j=c then S.d else 0) :
  (∀i,i<m->Qt w v X (if c=w then S.d else 0) (S.s i)=if S.s i∈S.tn then-S.t i c else S.t i c)/\∀j,j<w->Qt w v X (if c=w then S.d else 0) (S.h j)=if j=c then(if S.h j∈S.tn then-S.d else S.d) else 0:=by
 have d:∀q,q<w->∀x,x<w+1->vt v S.tn q x=if x=q then 1 else 0:=fun q f x k=>by
  unfold vt;rw[yH fun z=>by have:=g q z;lia];exact l q f x k
 obtain⟨a,b⟩:=I.lin.func d p s r fun q f=>I.pm.cov q oM
 refine⟨fun i o=>?_,fun j n=>?_⟩
 ·have e:Qt w (vt v S.tn) X (if c=w then S.d else 0) (S.s i)=S.t i c:=a i o
  rw[pq]at e;split at e
  ·rename_i h;rw[yI h];lia
  ·rename_i h;rw[yH h];exact e
 ·have e:Qt w (vt v S.tn) X (if c=w then S.d else 0) (S.h j)=if j=c then S.d else 0:=b j n
  rw[pq]at e;by_cases h:j=c
  ·rw[yI h]at e ⊢
   split at e
   ·rename_i h;rw[yI h];lia
   ·rename_i h;rw[yH h];exact e
  ·rw[yH h]at e ⊢
   split at e
   ·lia
   ·exact e
end
end SX
namespace R
open PySem PySem.Spec L2
open DD (pyOk)
section
variable{ks:List Fn}{sl:Sl}{st:aa}
@[simp] theorem rp:ev ks .n sl st=À (.non,st):=rfl
@[simp] theorem N9{x:Bool}:ev ks (.b x) sl st=À (.bl x,st):=rfl
@[simp] theorem ib{x:Int}:ev ks (.i x) sl st=À (.int x,st):=rfl
@[simp] theorem ER{x:Ì}:ev ks (.s x) sl st=À (.str x,st):=rfl
@[simp] theorem N8{x:Ì}{c:AV}:ev ks (.g x c) sl st=À (c,st):=rfl
@[simp] theorem cj{k:Nat}:ev ks (.v k) sl st=aV k sl st:=rfl
@[simp] theorem bF{v:AV}:aV 0 (À v::sl) st=À (v,st):=rfl
@[simp] theorem bO{k:Nat}{x:Option AV}:aV (k+1) (x::sl) st=aV k sl st:=rfl
@[simp] theorem lY{o:Ğ}{a b:Ex}:ev ks (.bin o a b) sl st=(ev ks a sl st).bind fun p=>(ev ks b sl p.2).bind fun q=>(aZ o q.2 p.1 q.1).map fun z=>(z,q.2):=rfl
@[simp] theorem vx{o:ϓ}{a b:Ex}:ev ks (.cmp o a b) sl st=(ev ks a sl st).bind fun p=>(ev ks b sl p.2).bind fun q=>(nQ o q.2 p.1 q.1).map fun z=>(z,q.2):=rfl
@[simp] theorem NE{o:UnaryOp}{a:Ex}:ev ks (.un o a) sl st=(ev ks a sl st).bind fun p=>(nV o p.2 p.1).map fun z=>(z,p.2):=rfl
def MR(x:AV)(st:aa):Option (AV×aa):=match x with
 |.bl b=>À (.bl !b,st)
 |_=>Á
def zq(x:AV)(st:aa)(r:Option (AV×aa)):Option (AV×aa):=match x with
 |.bl b=>if b=Â then r else À (.bl Ä,st)
 |_=>Á
def Gw(x:AV)(st:aa)(r:Option (AV×aa)):Option (AV×aa):=match x with
 |.bl b=>if b=Â then À (.bl Â,st) else r
 |_=>Á
@[simp] theorem Nw{b:Bool}:MR (.bl b) st=À (.bl !b,st):=rfl
@[simp] theorem ND{b:Bool}{r:Option (AV×aa)}:zq (.bl b) st r=if b=Â then r else À (.bl Ä,st):=rfl
@[simp] theorem Nv{b:Bool}{r:Option (AV×aa)}:Gw (.bl b) st r=if b=Â then À (.bl Â,st) else r:=rfl
@[simp] theorem vy{a b:Ex}:ev ks (.an a b) sl st=(ev ks a sl st).bind fun p=>zq p.1 p.2 (ev ks b sl p.2):=by
 show CS (ev ks a) (ev ks b) sl st=_;unfold CS zq;congr 1;funext p;cases p.1<;>first|rfl|skip
 rename_i x;cases x<;>rfl
@[simp] theorem NG{a b:Ex}:ev ks (.or a b) sl st=(ev ks a sl st).bind fun p=>Gw p.1 p.2 (ev ks b sl p.2):=by
 show CN (ev ks a) (ev ks b) sl st=_;unfold CN Gw;congr 1;funext p;cases p.1<;>first|rfl|skip
 rename_i x;cases x<;>rfl
@[simp] theorem vw{t:Tx}{a b:Ex}:ev ks (.ife t a b) sl st=(tv ks t sl st).bind fun p=>if p.1=Â then ev ks a sl p.2 else ev ks b sl p.2:=rfl
@[simp] theorem j9{a b:Ex}:ev ks (.ix a b) sl st=(ev ks a sl st).bind fun p=>(ev ks b sl p.2).bind fun q=>(bI q.2 p.1 q.1).map fun z=>(z,q.2):=rfl
@[simp] theorem dA{p:Bool}{j:Nat}{es:Exs}:ev ks (.ca p j es) sl st=(eY ks es sl st).bind fun q=>dj p (kf ks j) q.1 q.2:=rfl
@[simp] theorem eK{f:Fn}:dj Â f=pm f:=rfl
@[simp] theorem ki{f:Fn}:dj Ä f=f:=rfl
@[simp] theorem dB{f:Fn}:kf (f::ks) 0=f:=rfl
@[simp] theorem d6{f:Fn}{j:Nat}:kf (f::ks) (j+1)=kf ks j:=rfl
@[simp] theorem ba:eY ks .nil sl st=À ([],st):=rfl
@[simp] theorem aO{e:Ex}{es:Exs}:eY ks (.cons e es) sl st=(ev ks e sl st).bind fun p=>(eY ks es sl p.2).bind fun q=>À (p.1::q.1,q.2):=rfl
@[simp] theorem vv{es:Exs}:ev ks (.tu es) sl st=(eY ks es sl st).bind fun p=>if Þ p.1.length 1000=Â then À (.tup p.1,p.2) else Á:=rfl
@[simp] theorem gz{x:Nx}:ev ks (.nw Ä x) sl st=(jt ks x sl st).bind fun p=>if rfs p.1=Â then À (.fz p.1,p.2) else Á:=rfl
@[simp] theorem pF{x:Nx}:ev ks (.nw Â x) sl st=(jt ks x sl st).bind fun p=>À (.ref p.2.length,p.2++[.lst p.1]):=rfl
@[simp] theorem NJ{c m:Ì}{j:Nat}{o:Ex}{es:Exs}:ev ks (.me c m j o es) sl st=(ev ks o sl st).bind fun p=>(jE p.2 c p.1).bind fun fs=>if(fs.lookup m).isNone=Â then(eY ks es sl p.2).bind fun q=>kf ks j (p.1::q.1) q.2 else Á:=rfl
@[simp] theorem NH{c:Ì}{j:Nat}{es:Exs}:ev ks (.ne c j es) sl st=zr c (kf ks j) (eY ks es) sl st:=rfl
@[simp] theorem NK{c f:Ì}{o:Ex}:ev ks (.fd c f o) sl st=(ev ks o sl st).bind fun p=>(jE p.2 c p.1).bind fun fs=>(fs.lookup f).map fun v=>(v,p.2):=rfl
@[simp] theorem rq{b:Bi}{es:Exs}:ev ks (.bi b es) sl st=(eY ks es sl st).bind fun p=>mY b p.1 p.2:=rfl
@[simp] theorem M6:mY .len=bM eV:=rfl
@[simp] theorem HP:mY .sum=bM rH:=rfl
@[simp] theorem M8:mY .abs=bM tT:=rfl
@[simp] theorem M4:mY .min=bM pR:=rfl
@[simp] theorem M5:mY .max=bM wd:=rfl
@[simp] theorem M7:mY .int=bM lD:=rfl
@[simp] theorem pf:mY .str=bM k9:=rfl
@[simp] theorem NI{m:Mi}{o:Ex}{es:Exs}:ev ks (.mt m o es) sl st=nk (sC m) (sB m) (ev ks o) (eY ks es) sl st:=rfl
@[simp] theorem NL:ev ks .dn sl st=À (.ref st.length,st++[.dK []]):=rfl
@[simp] theorem Np{a:Ex}:ev ks (.mnd a) sl st=(ev ks a sl st).bind fun p=>bM oq [p.1] p.2:=by
 show(fR (ev ks a) fG sl st).bind _=_;unfold fR fG;cases ev ks a sl st<;>rfl
@[simp] theorem No{a k:Ex}:ev ks (.mnk a k) sl st=qZ (ev ks a) (ev ks k) sl st:=rfl
@[simp] theorem A6{es:Exs}:jt ks (.li es) sl st=(eY ks es sl st).bind fun p=>if cw p.1.length=Â then À p else Á:=rfl
@[simp] theorem qQ{a b:Ex}:jt ks (.cat a b) sl st=sx (ev ks a) (ev ks b) sl st:=rfl
@[simp] theorem Jg{es:Exs}{b:Ex}:jt ks (.rep es b) sl st=v7 (eY ks es) (ev ks b) sl st:=rfl
@[simp] theorem LL{a:Ex}{l h:Ox}:jt ks (.sl a l h) sl st=mJ (ev ks a) (tz ks l) (tz ks h) sl st:=rfl
@[simp] theorem NA{a:Ex}:jt ks (.lof a) sl st=pQ (ev ks a) sl st:=rfl
@[simp] theorem Nz{a:Ex}:jt ks (.lr1 a) sl st=wa (ev ks a) sl st:=rfl
@[simp] theorem Ny{a b:Ex}:jt ks (.lr2 a b) sl st=v8 (ev ks a) (ev ks b) sl st:=rfl
@[simp] theorem GK{k:Nat}{it:Ix}{t:Tg}{c:Cx'}{e:Ex}:jt ks (.lc k it t c e) sl st=(dH ks it sl st).bind fun p=>if cw p.1.Oe.length=Â then ii p.1.gd (b8 ks t) (ju ks c) (ev ks e) (sl++È k Á) p.1.Oe p.2 else Á:=rfl
@[simp] theorem LJ:tz ks .no sl st=À (Á,st):=rfl
@[simp] theorem LI{e:Ex}:tz ks (.so e) sl st=mG (ev ks e) sl st:=rfl
@[simp] theorem N2:ju ks .no sl st=À (Â,st):=rfl
@[simp] theorem N1{t:Tx}:ju ks (.so t) sl st=tv ks t sl st:=rfl
@[simp] theorem Hg{a:Ex}:dH ks (.e a) sl st=(ev ks a sl st).bind fun p=>(oA p.2 p.1).map fun iv=>(iv,p.2):=rfl
@[simp] theorem NY{a:Ex}:dH ks (.r1 a) sl st=yn (ev ks a) sl st:=rfl
@[simp] theorem LY{a b:Ex}:dH ks (.r2 a b) sl st=ym (ev ks a) (ev ks b) sl st:=rfl
@[simp] theorem NX{a b:Ex}:dH ks (.zi a b) sl st=iZ (ev ks a) (ev ks b) sl st:=rfl
@[simp] theorem Bs{a:Ex}:dH ks (.en a) sl st=(ev ks a sl st).bind fun p=>(iX p.2 p.1).map fun iv=>(⟨eN 0 iv.Oe,iv.gd⟩,p.2):=rfl
@[simp] theorem LZ{a b:Ex}:dH ks (.es a b) sl st=sP (ev ks a) (ev ks b) sl st:=rfl
@[simp] theorem BA{k:Nat}{x:AV}:b8 ks (.nm k) x sl st=À (sl.set k (À x),st):=rfl
@[simp] theorem NZ{n:Nat}{a:Tgs}{x:AV}:b8 ks (.tu n a) x sl st=yr n (jG ks a) x sl st:=rfl
@[simp] theorem N0{a b:Ex}{x:AV}:b8 ks (.su a b) x sl st=(ev ks a sl st).bind fun p=>(ev ks b sl p.2).bind fun q=>(ka q.2 p.1 q.1 x).map fun st'=>(sl,st'):=rfl
@[simp] theorem MU{xs:List AV}:jG ks .nil xs sl st=Hm xs sl st:=rfl
@[simp] theorem Mn{t:Tg}{a:Tgs}{xs:List AV}:jG ks (.cons t a) xs sl st=Hr (b8 ks t) (jG ks a) xs sl st:=rfl
@[simp] theorem Li{e:Ex}:tv ks (.va e) sl st=(ev ks e sl st).bind fun p=>(fA p.2 p.1).map fun b=>(b,p.2):=rfl
@[simp] theorem eJ{o:ϓ}{a b:Ex}:tv ks (.cmp o a b) sl st=(ev ks a sl st).bind fun p=>(ev ks b sl p.2).bind fun q=>(bB o q.2 p.1 q.1).map fun b=>(b,q.2):=rfl
@[simp] theorem NN{t:Tx}:tv ks (.no t) sl st=(tv ks t sl st).bind fun p=>À (!p.1,p.2):=rfl
@[simp] theorem NO{t u:Tx}:tv ks (.an t u) sl st=(tv ks t sl st).bind fun p=>if p.1=Â then tv ks u sl p.2 else À (Ä,p.2):=rfl
@[simp] theorem NM{t u:Tx}:tv ks (.or t u) sl st=(tv ks t sl st).bind fun p=>if p.1=Â then À (Â,p.2) else tv ks u sl p.2:=rfl
@[simp] theorem Nn:ag ks .nil sl st=À (.nx sl st):=rfl
def mH(o:Out)(k:Sl->aa->Option Out):Option Out:=match o with
 |.nx sl st=>k sl st
 |o=>À o
@[simp] theorem xN{k:Sl->aa->Option Out}:mH (.nx sl st) k=k sl st:=rfl
@[simp] theorem xM{v:AV}{k:Sl->aa->Option Out}:mH (.rt v st) k=À (.rt v st):=rfl
@[simp] theorem MQ{k:Sl->aa->Option Out}:mH (.bk sl st) k=À (.bk sl st):=rfl
@[simp] theorem MP{k:Sl->aa->Option Out}:mH (.ct sl st) k=À (.ct sl st):=rfl
@[simp] theorem k7{s:Sx}{ss:On}:ag ks (.cons s ss) sl st=(cP ks s sl st).bind fun o=>mH o (ag ks ss):=by
 show(cP ks s sl st).bind _=(cP ks s sl st).bind _;congr 1
@[simp] theorem Aw{e:Ex}:cP ks (.ex e) sl st=(ev ks e sl st).bind fun p=>À (.nx sl p.2):=rfl
@[simp] theorem c9{e:Ex}{t:Tg}:cP ks (.as e t) sl st=(ev ks e sl st).bind fun p=>(b8 ks t p.1 sl p.2).bind fun q=>À (.nx q.1 q.2):=rfl
@[simp] theorem Iz{o:Ğ}{a b e:Ex}:cP ks (.aus o a b e) sl st=vO o (ev ks a) (ev ks b) (ev ks e) sl st:=rfl
@[simp] theorem NP{c f:Ì}{o e:Ex}:cP ks (.fl c f o e) sl st=xj c f (ev ks o) (ev ks e) sl st:=rfl
@[simp] theorem kb{e:Ex}:cP ks (.rt e) sl st=(ev ks e sl st).bind fun p=>À (.rt p.1 p.2):=rfl
@[simp] theorem cY{t:Tx}{a b:On}:cP ks (.iff t a b) sl st=(tv ks t sl st).bind fun p=>if p.1=Â then ag ks a sl p.2 else ag ks b sl p.2:=rfl
@[simp] theorem kg{it:Ix}{t:Tg}{b:On}:cP ks (.fo it t b) sl st=(dH ks it sl st).bind fun p=>dE p.1.gd (b8 ks t) (ag ks b) p.1.Oe sl p.2:=rfl
@[simp] theorem Nr{a:Ex}{t:Tg}{b:On}:cP ks (.fd a t b) sl st=vN (ev ks a) (b8 ks t) (ag ks b) sl st:=rfl
@[simp] theorem Lz{t:Tx}{b:On}:cP ks (.wh t b) sl st=mE (tv ks t) (ag ks b) sl st:=rfl
@[simp] theorem MG:cP ks .dead sl st=Á:=rfl
def au(o:Out):Option (AV×aa):=match o with
 |.rt v st=>À (v,st)
 |.nx _ st=>À (.non,st)
 |_=>Á
@[simp] theorem MW{v:AV}:au (.rt v st)=À (v,st):=rfl
@[simp] theorem MX:au (.nx sl st)=À (.non,st):=rfl
theorem aA{n:Nat}{b:On}{args:List AV}:R.run n (ag ks b) args st=(ag ks b (args.map À++È (n-args.length) Á) st).bind au:=by
 unfold R.run;congr 1
end
@[simp] theorem Nt:rfs []=Â:=rfl
@[simp] theorem Nu{x:AV}{xs:List AV}:rfs (x::xs)=(rf x&&rfs xs):=by simp only[rfs]
@[simp] theorem NU{i:Int}:rf (.int i)=Â:=rfl
@[simp] theorem NW{i:Bool}:rf (.bl i)=Â:=rfl
@[simp] theorem NS{i:Ì}:rf (.str i)=Â:=rfl
@[simp] theorem NT:rf .non=Â:=rfl
@[simp] theorem NV{xs:List AV}:rf (.fz xs)=Â:=rfl
@[simp] theorem NR{xs:List AV}:rf (.tup xs)=rfs xs:=by simp only[rf]
section
variable{st:aa}{a b:Int}
theorem CB:io st (.int a) (.int b)=À (decide (a=b)):=by
 show(if pyOk (.int a) (.int b)=Â then À (Ö (.int a) (.int b)) else Á)=_;rw[yI (by simp[pyOk,ē,h!])];congr 1
@[simp] theorem N7:bB .Eq st (.int a) (.int b)=À (decide (a=b)):=CB
@[simp] theorem Mb:bB .NotEq st (.int a) (.int b)=À (!decide (a=b)):=by show((io st (.int a) (.int b)).map fun x=>!x)=_;rw[CB];rfl
@[simp] theorem N3:bB .Lt st (.int a) (.int b)=À (decide (a<b)):=rfl
@[simp] theorem N4:bB .LtE st (.int a) (.int b)=À (decide (a<=b)):=rfl
@[simp] theorem N5:bB .Gt st (.int a) (.int b)=À (decide (b<a)):=rfl
@[simp] theorem N6:bB .GtE st (.int a) (.int b)=À (decide (b<=a)):=rfl
@[simp] theorem HK{o:ϓ}{x y:AV}:nQ o st x y=(bB o st x y).map .bl:=rfl
@[simp] theorem NB:bB .Is st .non .non=À Â:=rfl
@[simp] theorem NC:bB .Is st (.int a) .non=À Ä:=rfl
@[simp] theorem MZ:bB .IsNot st .non .non=À Ä:=rfl
@[simp] theorem M3:bB .IsNot st (.int a) .non=À Â:=rfl
@[simp] theorem wF:aZ .Add st (.int a) (.int b)=À (.int (a+b)):=rfl
@[simp] theorem qX:aZ .Sub st (.int a) (.int b)=À (.int (a-b)):=rfl
theorem ce(h:c4 a b=Â):aZ .Mult st (.int a) (.int b)=À (.int (a*b)):=by
 show(if c4 a b=Â then _ else _:Option Int).map _=_;rw[yI h];rfl
theorem mv(h:eF b=Â):aZ .FloorDiv st (.int a) (.int b)=À (.int (vc a b)):=by
 show(if eF b=Â then _ else _:Option Int).map _=_;rw[yI h];rfl
theorem iM(h:b≠0):aZ .Mod st (.int a) (.int b)=À (.int (qv a b)):=by
 show(if b=0 then _ else _:Option Int).map _=_;rw[yH h];rfl
@[simp] theorem Nq:nV .USub st (.int a)=À (.int (-a)):=rfl
theorem dO{x y:Int}(d:x.natAbs<2^9000)(c:y.natAbs<2^9000):c4 x y=Â:=by
 have a:∀z:Nat,z<2^9000->Þ z.log2 1000000=Â:=fun z hz=>by
  by_cases b:z=0
  ·subst b;rfl
  ·exact yL (z5 (yZ ((Ą b).mpr hz)) oM)
 unfold c4;rw[a _ d,a _ c,Bool.and_true,Bool.or_true]
theorem zc{y:Int}(b:y≠0)(a:y.natAbs<2^9000):eF y=Â:=by
 unfold eF;have:Þ y.natAbs.log2 8999=Â:=yL (by have:=(Ą (n:=y.natAbs) oM).mpr a;lia);rw[this];simp[b]
end
open SX (Sh gI)
noncomputable def iL(l:List Int):List AV:=l.map .int
abbrev Is(x:Int):Option AV:=À (.int x)
abbrev Rs(x:Nat):Option AV:=À (.ref x)
abbrev Zs(x:List AV):Option AV:=À (.fz x)
abbrev Ls(x:List Int):Option AV:=À (.fz (iL x))
noncomputable def nL(l:List Nat):List AV:=l.map fun q=>.int ((q:Nat):Int)
def kL(l:List Nat):List (aW×AV):=l.map fun q=>(.inl ((q:Nat):Int),.bl Â)
def cV(d:Int)(a b c g n u:Nat):List (Ì×AV):=[("below",.int d),("lines",.ref a),("heads",.ref b),("sides",.ref c),("guarded",.ref g),("nailed",.ref n),("turned",.ref u)]
section
variable{d:Int}{a b c g n u:Nat}
@[simp] theorem LR:(cV d a b c g n u).lookup ("below":Ì)=À (AV.int d):=rfl
@[simp] theorem LP:(cV d a b c g n u).lookup ("lines":Ì)=À (AV.ref a):=rfl
@[simp] theorem LQ:(cV d a b c g n u).lookup ("heads":Ì)=À (AV.ref b):=rfl
@[simp] theorem LO:(cV d a b c g n u).lookup ("sides":Ì)=À (AV.ref c):=rfl
@[simp] theorem Jn:(cV d a b c g n u).lookup ("guarded":Ì)=À (AV.ref g):=rfl
@[simp] theorem Kz:(cV d a b c g n u).lookup ("nailed":Ì)=À (AV.ref n):=rfl
@[simp] theorem Ky:(cV d a b c g n u).lookup ("turned":Ì)=À (AV.ref u):=rfl
@[simp] theorem Bm:(cV d a b c g n u).lookup ("loose_columns":Ì)=Á:=rfl
@[simp] theorem Ac:(cV d a b c g n u).lookup ("raising_column":Ì)=Á:=rfl
@[simp] theorem Ab:(cV d a b c g n u).lookup ("tightest_place":Ì)=Á:=rfl
@[simp] theorem EM:(cV d a b c g n u).lookup ("is_tighter":Ì)=Á:=rfl
@[simp] theorem Em:(cV d a b c g n u).lookup ("is_up_first":Ì)=Á:=rfl
@[simp] theorem Ig:(cV d a b c g n u).lookup ("exchange":Ì)=Á:=rfl
@[simp] theorem Mm:(cV d a b c g n u).lookup ("lift":Ì)=Á:=rfl
@[simp] theorem Ih:(cV d a b c g n u).lookup ("drive_up":Ì)=Á:=rfl
@[simp] theorem Bk:(cV d a b c g n u).lookup ("moving_column":Ì)=Á:=rfl
@[simp] theorem LN:(cV d a b c g n u).lookup ("guard":Ì)=Á:=rfl
@[simp] theorem Ml:(cV d a b c g n u).lookup ("nail":Ì)=Á:=rfl
@[simp] theorem GZ:(cV d a b c g n u).lookup ("turn_line":Ì)=Á:=rfl
end
def RowR(st:aa)(x:AV)(l:List Int):Prop:=x=.fz (iL l)\/∃r,x=.ref r/\(st[r]?=À (.lst (iL l))\/st[r]?=À (.al (.fz (iL l))))
structure Rep(st:aa)(k a b c g n u:Nat)(rows:List AV)(S:Sh):Prop where
 hk:st[k]?=À (.ins "Sheet" (cV S.d a b c g n u))
 ha:st[a]?=À (.lst rows)
 hb:st[b]?=À (.lst (nL S.hd))
 hc:st[c]?=À (.lst (nL S.sd))
 hg:st[g]?=À (.dK (kL S.gd))
 hn:st[n]?=À (.dK (kL S.nl))
 hu:st[u]?=À (.dK (kL S.tn))
 len:rows.length=S.ls.length
 row:∀i x,rows[i]?=À x->RowR st x (SX.row S i)
 ab:a≠b
 ac:a≠c
 bc:b≠c
 gn:g≠n
 gu:g≠u
 nu:n≠u
 ra:∀(i r:Nat),rows[i]?=À (.ref r)->r≠a/\r≠b/\r≠c
section
variable{st:aa}{x:AV}{xs:List AV}{l:List Int}{i:Int}
theorem RowR.ls(h:RowR st x l):bQ st x=À (iL l):=by
 rcases h with rfl|⟨r,rfl,h|h⟩
 ·rfl
 ·unfold bQ dr;simp only[h]
 ·unfold bQ dr;simp only[h]
theorem cL(h:bQ st x=À xs):bI st x (.int i)=gO xs i:=by
 have hd:kB st x (.int i)=Á:=by
  unfold kB;have b:ja st x=Á:=by
   cases x<;>first|rfl|skip
   rename_i k;unfold bQ dr at h;unfold ja;dsimp only at h ⊢;cases e:st[k]? with
   |none=>rfl
   | some c=>cases c <;> first | rfl | (rw [e] at h;simp only [e] at h;cases h)
  have a:lN st x=Á:=by
   cases x<;>first|rfl|skip
   rename_i k;unfold bQ dr at h;unfold lN;dsimp only at h ⊢;cases e:st[k]? with
   |none=>rfl
   | some c=>cases c <;> first | rfl | (rw [e] at h;simp only [e] at h;cases h)
  rw[b,a]
 unfold bI;rw[hd];dsimp only;rw[h]
theorem cx{α:Type}{xs:List α}{j:Nat}:gO xs ((j:Nat):Int)=xs[j]?:=by
 unfold gO mN;rw[yI oM];by_cases h:j<xs.length
 ·rw[yI oM];simp
 ·rw[yH oM,é oM];rfl
theorem p5{α:Type}{xs:List α}{n:Nat}(h:xs.length=n+1):gO xs (-1)=xs[n]?:=by
 unfold gO mN;rw[yH oM,yI oM,h,Ã];congr 1;lia
theorem ci{j:Nat}(h:j<l.length):(iL l)[j]?=À (.int (gI l j)):=by
 unfold iL gI;simp[h,zD]
theorem gV{l:List Nat}{j:Nat}(h:j<l.length):(nL l)[j]?=À (.int ((l.getD j 0:Nat):Int)):=by
 unfold nL;simp[h,zD]
theorem bC{k:Nat}(h:st[k]?=À (.lst xs)):bQ st (.ref k)=À xs:=by unfold bQ dr;simp only[h]
theorem uU{g:Nat}{l:List Nat}{q:Nat}(h:st[g]?=À (.dK (kL l))):oE st (.int q) (.ref g)=À (decide (q∈l)):=by
 unfold oE kB ja;simp only[h,ku,Ï];congr 1;unfold nD kL;rw[Ľ,List.find?_map,Ľ,Bool.eq_iff_iff,List.isSome_find?,Ŧ];simp[Int.ofNat_inj]
end
noncomputable def ld(a:List AV)(i:Nat):AV:=a.getD i .non
section
variable{st:aa}{k a b c g n u w m:Nat}{rows:List AV}{S:Sh}{i j:Nat}
theorem Rep.ins(R:Rep st k a b c g n u rows S):jE st "Sheet" (.ref k)=À (cV S.d a b c g n u):=by
 unfold jE;simp only[R.hk];rfl
theorem Rep.rx(R:Rep st k a b c g n u rows S)(P:SX.Om w m S)(d:i<m):rows[i]?=À (ld rows i):=by
 have:i<rows.length:=by rw[R.len,P.ls];exact d
 unfold ld;rw[zD,zF this];rfl
theorem Rep.line(R:Rep st k a b c g n u rows S)(P:SX.Om w m S)(d:i<m):bI st (.ref a) (.int (i:Int))=À (ld rows i):=by
 rw[cL (bC R.ha),cx];exact R.rx P d
theorem Rep.rowl(R:Rep st k a b c g n u rows S)(P:SX.Om w m S)(d:i<m):bQ st (ld rows i)=À (iL (SX.row S i)):=(R.row i _ (R.rx P d)).ls
theorem Rep.cell(R:Rep st k a b c g n u rows S)(P:SX.Om w m S)(d:i<m)(e:j<w+1):bI st (ld rows i) (.int (j:Int))=À (.int (S.t i j)):=by
 rw[cL (R.rowl P d),cx,ci (by rw[P.rl d];exact e)];rfl
theorem Rep.last(R:Rep st k a b c g n u rows S)(P:SX.Om w m S)(d:i<m):bI st (ld rows i) (.int (-1))=À (.int (S.t i w)):=by
 rw[cL (R.rowl P d),p5 (n:=w) (by unfold iL;rw[zH];exact P.rl d),ci (by rw[P.rl d];lia)];rfl
theorem Rep.side(R:Rep st k a b c g n u rows S)(P:SX.Om w m S)(d:i<m):bI st (.ref c) (.int (i:Int))=À (.int (S.s i:Int)):=by
 rw[cL (bC R.hc),cx,gV (by rw[P.sd];exact d)];rfl
theorem Rep.head(R:Rep st k a b c g n u rows S)(P:SX.Om w m S)(d:j<w):bI st (.ref b) (.int (j:Int))=À (.int (S.h j:Int)):=by
 rw[cL (bC R.hb),cx,gV (by rw[P.hd];exact d)];rfl
theorem Rep.ing(R:Rep st k a b c g n u rows S){q:Nat}:bB .In st (.int q) (.ref g)=À (decide (q∈S.gd)):=uU R.hg
theorem Rep.nin(R:Rep st k a b c g n u rows S){q:Nat}:bB .NotIn st (.int q) (.ref n)=À (!decide (q∈S.nl)):=by show(oE st _ _).map _=_;rw[uU R.hn];rfl
end
theorem gY{α:Type}{em:α->AV}{B:α->Bool}{F:α->AV}(a:cm gd st=Â):∀{xs:List α},(∀x∈xs,∃sl1,g (em x) sl st=À (sl1,st)/\t sl1 st=À (B x,st)/\(B x=Â->f sl1 st=À (F x,st)))->ii gd g t f sl (xs.map em) st=À ((xs.filter B).map F,st)
 |[],_=>by show(if cm gd st=Â then _ else _)=_;rw[yI a];rfl
 |x::xs,h=>by
  obtain⟨sl1,h1,h2,h3⟩:=h x z7;have b:=gY a (xs:=xs) fun y c=>h y (zQ _ c)
  show(if cm gd st=Â then(g (em x) sl st).bind _ else Á)=_;rw[yI a,h1,Ã];dsimp only;rw[h2,Ã];cases hB:B x with
  |true=>rw[yI rfl];dsimp only;rw[h3 hB,Ã];dsimp only;rw[b,Q0,hB];rfl
  |false=>rw[yH (by simp)];dsimp only;rw[b,Q0,hB];rfl
theorem fi:∀{xs:List AV},(∀x∈xs,rf x=Â)->rfs xs=Â
 |[],_=>rfl
 |x::xs,h=>by simp only[rfs,zC];exact⟨h x z7,fi fun y hy=>h y (zQ _ hy)⟩
theorem Az:rfs (iL l)=Â:=fi fun x a=>by obtain⟨i,_,rfl⟩:=yD.mp a;rfl
theorem nF:rfs (nL l)=Â:=fi fun x a=>by obtain⟨i,_,rfl⟩:=yD.mp a;rfl
mutual
theorem zn:∀(x:AV),cU x x=Â
 |.non=>rfl
 |.bl _=>by simp[cU]
 |.int _=>by simp[cU]
 |.str _=>by simp[cU]
 |.ref _=>by simp[cU]
 |.tup a=>by simp only[cU];exact jy a
 |.fz a=>by simp only[cU];exact jy a
theorem jy:∀(xs:List AV),fW xs xs=Â
 |[]=>rfl
 |x::xs=>by simp only[fW,zn x,jy xs,Đ]
end
theorem fq{k:Nat}(h:st[k]?=À (.lst xs)):cm [(k,.lst xs)] st=Â:=by
 simp only[cm,h,wE,jy,Đ]
theorem JO:eN 0 (nL l)=l.zipIdx.map fun z=>.tup [.int ((z.2:Nat):Int),.int ((z.1:Nat):Int)]:=by
 unfold eN nL;rw[List.zipIdx_map,å];rfl
@[simp] theorem MB:ji st (.tup xs)=À xs:=rfl
@[simp] theorem yh:oA st (.fz xs)=À ⟨xs,[]⟩:=rfl
@[simp] theorem yg:iX st (.fz xs)=À ⟨xs,[]⟩:=rfl
@[simp] theorem fj:bQ st (.fz xs)=À xs:=rfl
theorem gZ{k:Nat}(h:st[k]?=À (.lst xs)):iX st (.ref k)=À ⟨xs,[(k,.lst xs)]⟩:=by
 unfold iX dr;simp only[h]
theorem pU{k:Nat}(h:st[k]?=À (.lst xs)):oA st (.ref k)=À ⟨xs,[(k,.lst xs)]⟩:=by
 have:ji st (.ref k)=Á:=by unfold ji dr;simp only[h]
 unfold oA;dsimp only;rw[this];exact gZ h
@[simp] theorem gq:cm [] st=Â:=rfl
theorem uQ:mh (nL l)=À (l.map fun q=>((q:Nat):Int)):=by
 unfold mh nL;exact eU (f:=fun x=>match x with|.int i=>À i|_=>Á) (i:=fun q:Nat=>AV.int q) (g:=fun q=>((q:Nat):Int)) (fun _=>rfl) l
noncomputable def oN:Option Nat->AV
 |none=>.non
 |some c=>.int (c:Int)
noncomputable def bZ(S:Sh):List Nat:=(S.hd.zipIdx.filter fun z=>!decide (z.1∈S.nl)).map (·.2)
theorem jk{w m:Nat}(P:SX.Om w m S){j:Nat}:j∈bZ S ↔ j<w/\S.h j∉S.nl:=by
 unfold bZ;simp only[yD,Ĉ,Prod.exists];constructor
 ·rintro⟨q,i,⟨c,b⟩,rfl⟩
  have d:=List.mem_zipIdx' c;have a:i<S.hd.length:=d.1;refine⟨by rw[<- P.hd];exact a,?_⟩;have:S.h i=q:=by
   show S.hd.getD i 0=q;rw[zD,zF a,d.2];rfl
  rw[this];simpa using b
 ·rintro⟨c,b⟩
  have a:j<S.hd.length:=by rw[P.hd];exact c
  refine⟨S.h j,j,⟨?_,by simpa using b⟩,rfl⟩;have e:S.h j=S.hd[j]:=by
   show S.hd.getD j 0=_;rw[zD,zF a];rfl
  rw[e,List.mem_zipIdx_iff_getElem?];exact zF a
theorem cp{n:Nat}(h:n<=1000):cw n=Â:=yL oM
theorem HU{key:Nat->Nat}:∃o:Option Nat,p7 ((l.map fun q=>((q:Nat):Int)).zip (l.map fun q=>((key q:Nat):Int)))=oN o/\(o=Á->l=[])/\∀c,o=À c->c∈l/\∀j∈l,key c<=key j:=by
 cases l with
 |nil=>exact⟨Á,rfl,fun _=>rfl,fun c h=>nomatch h⟩
 |cons x l =>
  have hz:((x::l).map fun q=>((q:Nat):Int)).zip ((x::l).map fun q=>((key q:Nat):Int))=(x::l).map fun q=>(((q:Nat):Int),((key q:Nat):Int)):=by
   generalize x::l=b
   induction b with
   |nil=>rfl
   |cons y b g=>simp only[zO,Ļ,g]
  rw[hz];obtain⟨i,p,a,d⟩:=mB (l.map fun q=>(((q:Nat):Int),((key q:Nat):Int))) (x:Int) (key x:Int);rw[<- zO (f:=fun q:Nat=>(((q:Nat):Int),((key q:Nat):Int)))]at a d;rw[zR]at a;obtain⟨c,n,e⟩:=zE.mp a;injection e with e1 e2;refine⟨À c,?_,(fun h=>nomatch h),fun r h=>?_⟩
  ·show AV.int _=AV.int _
   rw[e1]
  ·cases h
   refine⟨zW n,fun j m=>?_⟩;obtain⟨t,k⟩:=z9 m
   have:=(d t ((j:Int),(key j:Int)) (by rw[zR,k];rfl)).1
   rw[<- e2]at this;have:((key c:Nat):Int)<=((key j:Nat):Int):=this;lia
theorem GU{l:List Nat}{key:EF}{sl:Sl}{st:aa}{f:Nat->Nat}(h:∀q∈l,key (sl++[Is ((q:Nat):Int)]) st=À (.int ((f q:Nat):Int),st)):aR (yb key sl st) (l.map fun q=>((q:Nat):Int))=À (l.map fun q=>((f q:Nat):Int)):=by
 induction l with
 |nil=>rfl
 |cons x l a =>
  have c:yb key sl st (x:Int)=À ((f x:Nat):Int):=by unfold yb;rw[h x z7]
  simp only[zO,aR,c,a fun q b=>h q (zQ _ b),Ã,Ï]
def fk(gd:Gd)(g:GF)(s:SF)(xs:List AV):Out->Option Out
 |.nx sl st=>dE gd g s xs sl st
 |.ct sl st=>dE gd g s xs sl st
 |.bk sl st=>À (.nx sl st)
 |.rt v st=>À (.rt v st)
theorem yy(a:cm gd st=Â)(c:g x sl st=À p)(b:s p.1 p.2=À o):dE gd g s (x::xs) sl st=fk gd g s xs o:=by
 show(if cm gd st=Â then(g x sl st).bind _ else Á)=_;rw[yI a,c,Ã,b,Ã];cases o<;>rfl
theorem mj{gd:Gd}{g:GF}{s:SF}{I:Nat->Sl->aa->Prop}{Post:AV->aa->Prop}{xs:List AV}(d:∀i sl st,i<=xs.length->I i sl st->cm gd st=Â)
  (h:∀i x sl st,xs[i]?=À x->I i sl st->∃p o,g x sl st=À p/\s p.1 p.2=À o/\((∃sl2 st2,o=.nx sl2 st2/\I (i+1) sl2 st2)\/∃v st2,o=.rt v st2/\Post v st2)) :
  ∀{sl:Sl}{st:aa},I 0 sl st->(∃sl' st',dE gd g s xs sl st=À (.nx sl' st')/\I xs.length sl' st')\/∃v st',dE gd g s xs sl st=À (.rt v st')/\Post v st':=by
 have q:∀(r:Nat)(j:Nat){sl:Sl}{st:aa},j+r=xs.length->I j sl st->(∃sl' st',dE gd g s (xs.drop j) sl st=À (.nx sl' st')/\I xs.length sl' st')\/∃v st',dE gd g s (xs.drop j) sl st=À (.rt v st')/\Post v st':=fun r=>by
  induction r with
  |zero =>
   intro j sl st k a;left;rw[n? oM];refine⟨sl,st,?_,by rw[show xs.length=j by lia];exact a⟩;show(if cm gd st=Â then _ else _)=_;rw[yI (d j sl st oM a)]
  |succ r f =>
   intro j sl st k a;have c:j<xs.length:=by lia
   obtain⟨p,o,m,l,b⟩:=h j xs[j] sl st (zF c) a;rw[õ c];have e:=yy (xs:=xs.drop (j+1)) (d j sl st oM a) m l;rw[e];rcases b with⟨sl2,st2,rfl,b⟩|⟨v,st2,rfl,b⟩
   ·exact f (j+1) oM b
   ·exact .inr ⟨v,st2,rfl,b⟩
 intro sl st n
 have:=q xs.length 0 oM n
 rw[Ĥ]at this;exact this
theorem eC{gd:Gd}{g:GF}{s:SF}{I:Nat->Sl->aa->Prop}{xs:List AV}(e:∀i sl st,i<=xs.length->I i sl st->cm gd st=Â)
  (h:∀i x sl st,xs[i]?=À x->I i sl st->∃p sl2 st2,g x sl st=À p/\s p.1 p.2=À (.nx sl2 st2)/\I (i+1) sl2 st2) {sl:Sl}{st:aa} (j:I 0 sl st):∃sl' st',dE gd g s xs sl st=À (.nx sl' st')/\I xs.length sl' st':=by
 rcases mj (Post:=fun _ _=>False) e (fun i x sl st d f=>by
  obtain⟨p,sl2,st2,a,b,c⟩:=h i x sl st d f;exact⟨p,_,a,b,.inl ⟨sl2,st2,rfl,c⟩⟩) j with h|⟨_,_,_,h⟩
 ·exact h
 ·exact h.elim
theorem o7{i:Nat}(h:(eN 0 xs)[i]?=À y):∃x,xs[i]?=À x/\y=.tup [.int ((i:Nat):Int),x]:=by
 unfold eN at h;rw[zR]at h;obtain⟨z,a,rfl⟩:=zE.mp h;rw[ŉ]at a;obtain⟨x,b,rfl⟩:=zE.mp a;exact⟨x,b,by simp⟩
theorem mq:(eN 0 xs).length=xs.length:=by unfold eN;simp
section
variable{st:aa}{k a b c g n u w m:Nat}{rows:List AV}{S:Sh}{i j q:Nat}{x:AV}{l:List Int}{e e':Ob}
theorem aw(h:q≠j):(st.set q e')[j]?=st[j]?:=by rw[yX];simp[h]
theorem gG(h:st[q]?=À e):(st.set q e')[q]?=À e':=by
 rw[yX];simp[(zB.mp h).1]
theorem ga(h:st[j]?=À e):(st++ys)[j]?=À e:=by
 rw[zN (zB.mp h).1];exact h
theorem gl:(st++[e])[st.length]?=À e:=by simp
theorem bA(a:st[i]?=À e)(b:st[j]?=À e')(h:e≠e'):i≠j:=fun z=>h (by rw[z,b]at a;injection a with a;exact a.symm)
theorem RowR.set(h:RowR st x l)(b:∀r,x=.ref r->q≠r):RowR (st.set q e') x l:=by
 rcases h with h|⟨r,a,c⟩
 ·exact .inl h
 ·exact .inr ⟨r,a,by rw[aw (b r a)];exact c⟩
theorem RowR.app(h:RowR st x l):RowR (st++ys) x l:=by
 rcases h with h|⟨r,b,a|a⟩
 ·exact .inl h
 ·exact .inr ⟨r,b,.inl (ga a)⟩
 ·exact .inr ⟨r,b,.inr (ga a)⟩
theorem Rep.app(R:Rep st k a b c g n u rows S):Rep (st++ys) k a b c g n u rows S :=
 ⟨ga R.hk,ga R.ha,ga R.hb,ga R.hc,ga R.hg,ga R.hn,ga R.hu,R.len,fun i x h=>(R.row i x h).app,R.ab,R.ac,R.bc,R.gn,R.gu,R.nu,R.ra⟩
theorem Rep.rowk(R:Rep st k a b c g n u rows S){r:Nat}(h:rows[i]?=À (.ref r)):r≠k/\r≠g/\r≠n/\r≠u:=by
 have e:=R.row i _ h;rcases e with h|⟨j,f,d⟩
 ·cases h
 ·cases f
  rcases d with d|d
  ·exact⟨bA d R.hk (fun z=>nomatch z),bA d R.hg (fun z=>nomatch z),bA d R.hn (fun z=>nomatch z),bA d R.hu (fun z=>nomatch z)⟩
  ·exact⟨bA d R.hk (fun z=>nomatch z),bA d R.hg (fun z=>nomatch z),bA d R.hn (fun z=>nomatch z),bA d R.hu (fun z=>nomatch z)⟩
theorem Rep.fields{d:Nat}(R:Rep st k a b c g n u rows S)(l:st[d]?=À (.lst rows'))(v:S'.hd=S.hd)(t:S'.sd=S.sd)(s:S'.gd=S.gd)(q:S'.nl=S.nl)(p:S'.tn=S.tn)(j:rows'.length=S'.ls.length)
  (row:∀i x,rows'[i]?=À x->RowR st x (SX.row S' i)) (A:d≠b) (y:d≠c) (m:∀(i r:Nat),rows'[i]?=À (.ref r)->r≠d/\r≠b/\r≠c):Rep (st.set k (.ins "Sheet" (cV S'.d d b c g n u))) k d b c g n u rows' S':=by
 have o:k≠d:=bA R.hk l (fun z=>nomatch z);refine⟨gG R.hk,by rw[aw o];exact l,?_,?_,?_,?_,?_,j,fun i x h=>(row i x h).set fun r e=>?_,A,y,R.bc,R.gn,R.gu,R.nu,m⟩
 ·rw[aw (bA R.hk R.hb (fun z=>nomatch z)),v];exact R.hb
 ·rw[aw (bA R.hk R.hc (fun z=>nomatch z)),t];exact R.hc
 ·rw[aw (bA R.hk R.hg (fun z=>nomatch z)),s];exact R.hg
 ·rw[aw (bA R.hk R.hn (fun z=>nomatch z)),q];exact R.hn
 ·rw[aw (bA R.hk R.hu (fun z=>nomatch z)),p];exact R.hu
 ·subst e
  rcases row i _ h with z|⟨B,w,f⟩
  ·cases z
  ·cases w
   rcases f with f|f
   ·exact bA R.hk f (fun z=>nomatch z)
   ·exact bA R.hk f (fun z=>nomatch z)
theorem Rep.heads(R:Rep st k a b c g n u rows S):Rep (st.set b (.lst (nL hd'))) k a b c g n u rows { S with hd:=hd' } :=
 ⟨by rw[aw (bA R.hb R.hk (fun z=>nomatch z))];exact R.hk,by rw[aw (ã R.ab)];exact R.ha,gG R.hb,by rw[aw R.bc];exact R.hc,by rw[aw (bA R.hb R.hg (fun z=>nomatch z))];exact R.hg,by rw[aw (bA R.hb R.hn (fun z=>nomatch z))];exact R.hn,
  by rw[aw (bA R.hb R.hu (fun z=>nomatch z))];exact R.hu,R.len,fun i x h=>(R.row i x h).set fun r e=>ã (R.ra i r (by rw[<- e];exact h)).2.1,R.ab,R.ac,R.bc,R.gn,R.gu,R.nu,R.ra⟩
theorem Rep.sides(R:Rep st k a b c g n u rows S):Rep (st.set c (.lst (nL sd'))) k a b c g n u rows { S with sd:=sd' } :=
 ⟨by rw[aw (bA R.hc R.hk (fun z=>nomatch z))];exact R.hk,by rw[aw (ã R.ac)];exact R.ha,by rw[aw (ã R.bc)];exact R.hb,gG R.hc,by rw[aw (bA R.hc R.hg (fun z=>nomatch z))];exact R.hg,by rw[aw (bA R.hc R.hn (fun z=>nomatch z))];exact R.hn,
  by rw[aw (bA R.hc R.hu (fun z=>nomatch z))];exact R.hu,R.len,fun i x h=>(R.row i x h).set fun r e=>ã (R.ra i r (by rw[<- e];exact h)).2.2,R.ab,R.ac,R.bc,R.gn,R.gu,R.nu,R.ra⟩
theorem Rep.guard(R:Rep st k a b c g n u rows S):Rep (st.set g (.dK (kL gd'))) k a b c g n u rows { S with gd:=gd' } :=
 ⟨by rw[aw (bA R.hg R.hk (fun z=>nomatch z))];exact R.hk,by rw[aw (bA R.hg R.ha (fun z=>nomatch z))];exact R.ha,by rw[aw (bA R.hg R.hb (fun z=>nomatch z))];exact R.hb,by rw[aw (bA R.hg R.hc (fun z=>nomatch z))];exact R.hc,gG R.hg,by rw[aw R.gn];exact R.hn,by rw[aw R.gu];exact R.hu,
  R.len,fun i x h=>(R.row i x h).set fun r e=>ã (R.rowk (i:=i) (by rw[<- e];exact h)).2.1,R.ab,R.ac,R.bc,R.gn,R.gu,R.nu,R.ra⟩
theorem Rep.nail(R:Rep st k a b c g n u rows S):Rep (st.set n (.dK (kL nl'))) k a b c g n u rows { S with nl:=nl' } :=
 ⟨by rw[aw (bA R.hn R.hk (fun z=>nomatch z))];exact R.hk,by rw[aw (bA R.hn R.ha (fun z=>nomatch z))];exact R.ha,by rw[aw (bA R.hn R.hb (fun z=>nomatch z))];exact R.hb,by rw[aw (bA R.hn R.hc (fun z=>nomatch z))];exact R.hc,by rw[aw (ã R.gn)];exact R.hg,gG R.hn,by rw[aw R.nu];exact R.hu,
  R.len,fun i x h=>(R.row i x h).set fun r e=>ã (R.rowk (i:=i) (by rw[<- e];exact h)).2.2.1,R.ab,R.ac,R.bc,R.gn,R.gu,R.nu,R.ra⟩
theorem Rep.turned(R:Rep st k a b c g n u rows S):Rep (st.set u (.dK (kL tn'))) k a b c g n u rows { S with tn:=tn' } :=
 ⟨by rw[aw (bA R.hu R.hk (fun z=>nomatch z))];exact R.hk,by rw[aw (bA R.hu R.ha (fun z=>nomatch z))];exact R.ha,by rw[aw (bA R.hu R.hb (fun z=>nomatch z))];exact R.hb,by rw[aw (bA R.hu R.hc (fun z=>nomatch z))];exact R.hc,by rw[aw (ã R.gu)];exact R.hg,by rw[aw (ã R.nu)];exact R.hn,gG R.hu,
  R.len,fun i x h=>(R.row i x h).set fun r e=>ã (R.rowk (i:=i) (by rw[<- e];exact h)).2.2.2,R.ab,R.ac,R.bc,R.gn,R.gu,R.nu,R.ra⟩
theorem ut{p i:Nat}:SX.row { S with ls:=S.ls.set p l } i=if i=p/\p<S.ls.length then l else SX.row S i:=by
 unfold SX.row;simp only[zD,yX];by_cases h:i=p
 ·subst h
  by_cases a:i<S.ls.length
  ·simp[a]
  ·simp[a]
 ·rw[yH fun z=>h z.symm,yH fun z=>h z.1]
theorem Rep.rowset{p:Nat}(R:Rep st k a b c g n u rows S)(o:RowR st x l)(m:∀r,x=.ref r->r≠a/\r≠b/\r≠c):Rep (st.set a (.lst (rows.set p x))) k a b c g n u (rows.set p x) { S with ls:=S.ls.set p l }:=by
 have j:∀i y,(rows.set p x)[i]?=À y->(i=p/\p<rows.length/\y=x)\/(i≠p/\rows[i]?=À y):=fun i y h=>by
  rw[yX]at h;by_cases e:p=i
  ·rw[yI e]at h
   split at h
   ·cases h;exact .inl ⟨e.symm,by assumption,rfl⟩
   ·cases h
  ·rw[yH e]at h;exact .inr ⟨fun z=>e z.symm,h⟩
 refine⟨by rw[aw (bA R.ha R.hk (fun z=>nomatch z))];exact R.hk,gG R.ha,by rw[aw R.ab];exact R.hb,by rw[aw R.ac];exact R.hc,by rw[aw (bA R.ha R.hg (fun z=>nomatch z))];exact R.hg,by rw[aw (bA R.ha R.hn (fun z=>nomatch z))];exact R.hn,
  by rw[aw (bA R.ha R.hu (fun z=>nomatch z))];exact R.hu,by simp[R.len],fun i y h=>?_,R.ab,R.ac,R.bc,R.gn,R.gu,R.nu,fun i r h=>?_⟩
 ·rw[ut]
  rcases j i y h with⟨f,d,rfl⟩|⟨f,d⟩
  ·rw[yI ⟨f,by rw[<- R.len];exact d⟩];exact o.set fun r e=>ã (m r e).1
  ·rw[yH fun z=>f z.1];exact(R.row i y d).set fun r e=>ã (R.ra i r (by rw[<- e];exact d)).1
 ·rcases j i _ h with⟨f,d,q⟩|⟨f,d⟩
  ·exact m r q.symm
  ·exact R.ra i r d
theorem Rep.cellset{p r:Nat}(R:Rep st k a b c g n u rows S)(d:rows[p]?=À (.ref r))(A:∀i,i≠p->rows[i]?≠À (.ref r)):Rep (st.set r (.lst (iL l))) k a b c g n u rows { S with ls:=S.ls.set p l }:=by
 obtain⟨x,w,v⟩:=R.ra p r d;obtain⟨t,s,q,o⟩:=R.rowk d;have j:p<S.ls.length:=by rw[<- R.len];exact(zB.mp d).1
 refine⟨by rw[aw t];exact R.hk,by rw[aw x];exact R.ha,by rw[aw w];exact R.hb,by rw[aw v];exact R.hc,by rw[aw s];exact R.hg,by rw[aw q];exact R.hn,by rw[aw o];exact R.hu,by simp[R.len],fun i y h=>?_,R.ab,R.ac,R.bc,R.gn,R.gu,R.nu,R.ra⟩;rw[ut];by_cases e:i=p
 ·subst e
  rw[yI ⟨rfl,j⟩];rw[d]at h;cases h;rcases R.row i _ d with z|⟨m,B,f⟩
  ·cases z
  ·cases B
   rcases f with f|f
   ·exact .inr ⟨r,rfl,.inl (gG f)⟩
   ·exact .inr ⟨r,rfl,.inl (gG f)⟩
 ·rw[yH fun z=>e z.1]
  exact(R.row i y h).set fun m C z=>A i e (by rw[z,<- C];exact h)
theorem Rep.freeze{r:Nat}(R:Rep st k a b c g n u rows S)(o:rows[i]?=À (.ref r))(f:st[r]?=À (.lst (iL l))):Rep (st.set r (.al (.fz (iL l)))) k a b c g n u rows S:=by
 obtain⟨A,x,w⟩:=R.ra i r o;obtain⟨v,t,s,q⟩:=R.rowk o;refine⟨by rw[aw v];exact R.hk,by rw[aw A];exact R.ha,by rw[aw x];exact R.hb,by rw[aw w];exact R.hc,by rw[aw t];exact R.hg,by rw[aw s];exact R.hn,by rw[aw q];exact R.hu,R.len,fun j y h=>?_,R.ab,R.ac,R.bc,R.gn,R.gu,R.nu,R.ra⟩;rcases R.row j y h with z|⟨m,p,d⟩
 ·exact .inl z
 ·by_cases e:r=m
  ·subst e
   refine .inr ⟨r,p,.inr ?_⟩;rw[gG f];rcases d with d|d
   ·rw[f]at d;injection d with d;injection d with d;rw[d]
   ·rw[f]at d;cases d
  ·exact .inr ⟨m,p,by rw[aw e];exact d⟩
theorem RowR.it(h:RowR st x l):∃gd,oA st x=À ⟨iL l,gd⟩/\cm gd st=Â:=by
 rcases h with rfl|⟨r,rfl,h|h⟩
 ·exact⟨[],rfl,rfl⟩
 ·exact⟨_,pU h,fq h⟩
 ·refine⟨[],?_,rfl⟩
  have:ji st (.ref r)=Á:=by unfold ji dr;simp only[h]
  unfold oA;dsimp only;rw[this];unfold iX dr;simp only[h]
end
theorem xX{gd:Gd}{g:GF}{t:TF}{f:EF}{sl:Sl}{J:Nat->aa->Prop}{F:Nat->AV}{xs:List AV}(d:∀i st,i<=xs.length->J i st->cm gd st=Â)
  (h:∀i x st,xs[i]?=À x->J i st->∃sl1 st1,g x sl st=À (sl1,st)/\t sl1 st=À (Â,st)/\f sl1 st=À (F i,st1)/\J (i+1) st1) {st:aa} (q:J 0 st):∃st',ii gd g t f sl xs st=À ((Æ xs.length).map F,st')/\J xs.length st':=by
 have s:∀(r j:Nat){st:aa},j+r=xs.length->J j st->∃st',ii gd g t f sl (xs.drop j) st=À ((ģ j r).map F,st')/\J xs.length st':=fun r=>by
  induction r with
  |zero =>
   intro j st l a;rw[n? oM];refine⟨st,?_,by rw[show xs.length=j by lia];exact a⟩;show(if cm gd st=Â then _ else _)=_;rw[yI (d j st oM a)];rfl
  |succ r k =>
   intro j st l a;have c:j<xs.length:=by lia
   obtain⟨sl1,st1,p,o,n,m⟩:=h j xs[j] st (zF c) a;obtain⟨st',e,b⟩:=k (j+1) oM m;refine⟨st',?_,b⟩;rw[õ c];show(if cm gd st=Â then(g xs[j] sl st).bind _ else Á)=_;rw[yI (d j st oM a),p,Ã];dsimp only;rw[o,Ã,yI rfl];dsimp only;rw[n,Ã];dsimp only;rw[e];rfl
 obtain⟨st',e,a⟩:=s xs.length 0 oM q;rw[Ĥ]at e;rw[<- List.range_eq_range']at e;exact⟨st',e,a⟩
@[simp] theorem gF:(iL l).length=l.length:=by unfold iL;simp
@[simp] theorem sn:(nL l).length=l.length:=by unfold nL;simp
@[simp] theorem dJ:rfs (iL l)=Â:=Az
theorem fK{q:Nat}{x:Int}:(iL l).set q (.int x)=iL (l.set q x):=by unfold iL;rw[V!]
theorem xP{q x:Nat}:(nL l).set q (.int (x:Int))=nL (l.set q x):=by unfold nL;rw[V!]
theorem xZ{α:Type}{em:α->AV}{F:α->Int}{xs:List α}(e:cm gd st=Â)(h:∀x∈xs,∃sl1,g (em x) sl st=À (sl1,st)/\t sl1 st=À (Â,st)/\f sl1 st=À (.int (F x),st)):ii gd g t f sl (xs.map em) st=À (iL (xs.map F),st):=by
 rw[gY (B:=fun _=>Â) (F:=fun x=>.int (F x)) e fun x d=>by obtain⟨s,a,b,c⟩:=h x d;exact⟨s,a,b,fun _=>c⟩];unfold iL;rw[å,ă.mpr fun _ _=>rfl];rfl
theorem kr(a:cm gd st=Â)(h:∀x∈l,∃sl1,g (.int x) sl st=À (sl1,st)/\t sl1 st=À (Â,st)/\f sl1 st=À (.int (F x),st)):ii gd g t f sl (iL l) st=À (iL (l.map F),st):=xZ a h
theorem cW{k q:Nat}(h:st[k]?=À (.lst xs))(a:q<xs.length):ka st (.ref k) (.int (q:Int)) x=À (st.set k (.lst (xs.set q x))):=by
 unfold ka;simp only[h];have:mN xs.length (q:Int)=À q:=by unfold mN;rw[yI oM,yI oM];simp
 rw[this];rfl
theorem pT{k q:Nat}(h:st[k]?=À (.dK (kL l)))(c:l.length<=1000):ka st (.ref k) (.int (q:Int)) (.bl Â)=À (st.set k (.dK (kL (if q∈l then l else l++[q])))):=by
 unfold ka;simp only[h,ku,Ã];rw[yI (cp (by unfold kL;rw[zH];exact c))];congr 2;unfold nG kL;by_cases a:q∈l
 ·rw[yI a,yI (by simp only[o?,Ŧ];exact⟨q,a,by simp⟩),å]
  congr 1;refine ϋ fun x b=>?_
  show(if _ then _ else _)=_;split
  ·rfl
  ·rfl
 ·rw[yH a,yH (by
   simp only[o?,Ŧ,Function.comp];rintro⟨x,b,e⟩;have:x=q:=by have:((x:Nat):Int)=((q:Nat):Int):=(by simpa using e);lia
   exact a (this▸b)),ĉ]
  rfl
theorem ae(h:cP ks s sl st=À (.nx sl' st'))(a:(ag ks ss sl' st').bind au=r):(ag ks (.cons s ss) sl st).bind au=r:=by
 rw[k7,h,Ã,xN];exact a
theorem aq(h:cP ks s sl st=À (.nx sl' st'))(a:ag ks ss sl' st'=r):ag ks (.cons s ss) sl st=r:=by
 rw[k7,h,Ã,xN];exact a
theorem bh(h:cP ks s sl st=À (.rt v st')):(ag ks (.cons s ss) sl st).bind au=À (v,st'):=by
 rw[k7,h,Ã,xM];rfl
theorem b9(h:rfs args=Â)(b:fn args []=À (v,st'))(a:eS st' v=À t):pm fn args st=À (t,st):=by
 unfold pm;rw[yI h,b,Ã];dsimp only;rw[a];rfl
section
variable{d:Int}{a b c g n u:Nat}
theorem AQ{d':Int}:jj "below" (.int d') (cV d a b c g n u)=cV d' a b c g n u:=rfl
theorem AO{e:Nat}:jj "lines" (.ref e) (cV d a b c g n u)=cV d e b c g n u:=rfl
theorem iF{k:Nat}(d:ev ks e sl st=À (v,st'))(c:ev ks o sl st'=À (.ref k,st'))(b:jE st' cn (.ref k)=À fs)(a:Þ fs.length 900=Â):cP ks (.fl cn f o e) sl st=À (.nx sl (st'.set k (.ins cn (jj f v fs)))):=by
 show xj cn f (ev ks o) (ev ks e) sl st=_;unfold xj;rw[d,Ã];dsimp only;rw[c,Ã];dsimp only;rw[b,Ã,yI a]
end
theorem ug{α:Type}{t:TF}{s:SF}{I:α->Sl->aa->Prop}{Q:α->α->Prop}{Post:Out->Prop}{a0:α}(e:∀f:Nat->α,f 0=a0->(∀n,Q (f n) (f (n+1)))->False)
  (h:∀x sl st,I x sl st->(∃o,dg t s 1 sl st=À o/\Post o)\/∃x' sl' st',Q x x'/\I x' sl' st'/\∀n o,dg t s n sl' st'=À o->dg t s (n+1) sl st=À o) {sl:Sl}{st:aa} (p:I a0 sl st):∃o,mE t s sl st=À o/\Post o:=by
 apply ą;intro j
 let a:α×Sl×aa->Prop:=fun z=>I z.1 z.2.1 z.2.2/\¬∃n o,dg t s n z.2.1 z.2.2=À o/\Post o
 have g:a (a0,sl,st):=⟨p,fun⟨n,o,c,b⟩=>j ⟨o,n9 c,b⟩⟩;have nx:∀z:{ z // a z },∃i:{ z // a z },Q z.1.1 i.1.1:=fun d=>by
  obtain⟨z,hz⟩:=d;rcases h z.1 z.2.1 z.2.2 hz.1 with⟨o,c,b⟩|⟨x',sl',st',c,b,m⟩
  ·exact absurd ⟨1,o,c,b⟩ hz.2
  ·exact⟨⟨(x',sl',st'),b,fun⟨n,o,l,k⟩=>hz.2 ⟨n+1,o,m n o l,k⟩⟩,c⟩
 let f:Nat->{ z // a z }:=fun n=>Nat.rec ⟨_,g⟩ (fun _ z=>ď (nx z)) n
 exact e (fun n=>(f n).1.1) rfl fun n=>ě (nx (f n))
theorem lW(h:t sl st=À (Ä,st')):dg t s 1 sl st=À (.nx sl st'):=by
 show(t sl st).bind _=_;rw[h,Ã,yH (by simp)]
theorem rk(h:t sl st=À (Â,st'))(a:s sl st'=À (.rt v st2)):dg t s 1 sl st=À (.rt v st2):=by
 show(t sl st).bind _=_;rw[h,Ã,yI rfl];dsimp only;rw[a];rfl
theorem pD{n:Nat}(h:t sl st=À (Â,st'))(b:s sl st'=À (.nx sl2 st2))(a:dg t s n sl2 st2=À o):dg t s (n+1) sl st=À o:=by
 show(t sl st).bind _=_;rw[h,Ã,yI rfl];dsimp only;rw[b];exact a
theorem jK(h:cP ks s sl st=À (.rt v st')):ag ks (.cons s ss) sl st=À (.rt v st'):=by
 rw[k7,h,Ã,xM]
theorem Fv{ks:List Fn}{T:Tx}{B rest:On}{sl:Sl}{st:aa}{Post:Out->Prop}{Q:AV×aa->Prop}(h:∃o,mE (tv ks T) (ag ks B) sl st=À o/\Post o)(c:∀o,Post o->∃r,(mH o (ag ks rest)).bind au=À r/\Q r):∃r,(ag ks (.cons (.wh T B) rest) sl st).bind au=À r/\Q r:=by
 obtain⟨o,e,b⟩:=h;obtain⟨r,d,a⟩:=c o b;refine⟨r,?_,a⟩;rw[k7,Lz,e,Ã];exact d
theorem ai{ks:List Fn}{s:Sx}{ss:On}{sl sl':Sl}{st st':aa}{Q:AV×aa->Prop}(h:cP ks s sl st=À (.nx sl' st'))(a:∃r,(ag ks ss sl' st').bind au=À r/\Q r):∃r,(ag ks (.cons s ss) sl st).bind au=À r/\Q r:=by
 obtain⟨r,e,q⟩:=a;exact⟨r,ae h e,q⟩
def aB(L:List (List Int)):List AV:=L.map fun l=>.fz (iL l)
@[simp] theorem Mo:(aB L).length=L.length:=by unfold aB;simp
@[simp] theorem MV:rfs (aB L)=Â:=fi fun x a=>by obtain⟨l,_,rfl⟩:=yD.mp a;rfl
theorem yo:iL a++iL b=iL (a++b):=by unfold iL;rw[ĉ]
theorem Hh{x:Int}:[AV.int x]=iL [x]:=rfl
theorem wo{α:Type}{em:α->AV}{F:α->List Int}{xs:List α}(e:cm gd st=Â)(h:∀x∈xs,∃sl1,g (em x) sl st=À (sl1,st)/\t sl1 st=À (Â,st)/\f sl1 st=À (.fz (iL (F x)),st)):ii gd g t f sl (xs.map em) st=À (aB (xs.map F),st):=by
 rw[gY (B:=fun _=>Â) (F:=fun x=>.fz (iL (F x))) e fun x d=>by obtain⟨s,a,b,c⟩:=h x d;exact⟨s,a,b,fun _=>c⟩];unfold aB;rw[å,ă.mpr fun _ _=>rfl];rfl
theorem jZ(g:ev ks a sl st=À (x,s1))(f:ev ks b sl s1=À (y,s2))(e:bQ s2 x=À (iL l))(d:bQ s2 y=À (iL l'))(c:l.length+l'.length<=1000):jt ks (.cat a b) sl st=À (iL (l++l'),s2):=by
 rw[qQ];unfold sx;rw[g,Ã];dsimp only;rw[f,Ã];dsimp only;rw[e,Ã,d,Ã,yI (cp (by simpa using c)),yo]
theorem oe{n:Nat}:cZ 0 n=nL (Æ n):=by unfold cZ nL;simp
theorem IA{w n:Nat}:cZ (w:Int) n=nL ((Æ n).map (w+·)):=by unfold cZ nL;simp[å,Function.comp_def]
theorem Dn{n:Nat}:aR (fB n st) (iL l)=À (iL l):=eU (f:=fB n st) (i:=AV.int) (g:=AV.int) (fun x=>by cases n<;>rfl) l
theorem pM{k:Nat}(h:st[k]?=À (.lst (iL l))):eS st (.ref k)=À (.fz (iL l)):=by
 show fB 6 st (.ref k)=_;unfold fB;simp only[h,Dn,Ï]
theorem Fw{k:Nat}(h:st[k]?=À (.al t)):eS st (.ref k)=À t:=by
 show fB 6 st (.ref k)=_;unfold fB;simp only[h]
theorem lq{fn:Fn}{rest:List AV}{st st':aa}{x v t:AV}{l:List Int}(c:RowR st x l)(k:rfs rest=Â)(e:aR (eS st) rest=À rest)(g:∀s,oW s rest=À (rest,s))(b:fn (.fz (iL l)::rest) []=À (v,st'))(a:eS st' v=À t)(d:flat t=Ä) :
  ∃st1,pm fn (x::rest) st=À (t,st1)/\(st1=st\/∃r,x=.ref r/\st[r]?=À (.lst (iL l))/\st1=st.set r (.al (.fz (iL l)))):=by
 have au:∀r st1,x=.ref r->eS st (.ref r)=À (.fz (iL l))->qt st (.ref r)=À (.fz (iL l),st1)->pm fn (x::rest) st=À (t,st1):=fun r st1 ex j i=>by
  subst ex;have m:aR (eS st) (.ref r::rest)=À (.fz (iL l)::rest):=by simp only[aR,j,e];rfl
  have f:oW st (.ref r::rest)=À (.fz (iL l)::rest,st1):=by simp only[oW,i,Ã,g];rfl
  unfold pm;rw[yH (by simp[rf]),m,Ã,b,Ã];dsimp only;rw[a,Ã,yH (by rw[d];simp),f,Ã];dsimp only;rw[b,Ã];dsimp only;rw[a];rfl
 rcases c with rfl|⟨r,rfl,h|h⟩
 ·exact⟨st,b9 (by simp[k]) b a,.inl rfl⟩
 ·exact⟨_,au r (st.set r (.al (.fz (iL l)))) rfl (pM h) (by unfold qt;simp[rf,h]),.inr ⟨r,rfl,h,rfl⟩⟩
 ·exact⟨_,au r st rfl (Fw h) (by unfold qt;simp[rf,h]),.inl rfl⟩
theorem fT:(st++[x]).set st.length y=st++[y]:=by simp
end R
namespace LW
open PySem L2 R
noncomputable def top(i:Nat):ĸ:=U?.main.body.getD i (.Pass ⟨0,0,0,0⟩)
def JT(s:ĸ):List ĸ:=match s with
 |.ClassDef _ _ _ b _ _ _ _ _ _ _=>b
 |_=>[]
def gX(i j:Nat):ĸ:=(JT (top i)).getD j (.Pass ⟨0,0,0,0⟩)
noncomputable def gs:List (Ì×AV):=[]
noncomputable def cl:List (Ì×List Ì):=[("Sheet",["below","guarded","heads","lines","nailed","sides","turned"])]
noncomputable abbrev B(_:FH):Type:=On
local macro_rules | `(tactic| walk_at "tr")=>`(tactic| (refine (?f:FH.tr ?h false [] gs cl=some ?m->B ?h) ?p;(case p=>unfold FH.tr;rw [Hj];(conv in cH _=>whnf);simp [-Option.map_map,↓Hj,gs,cl,uf,nX,Lf,Lh,Ld,Lg,uS,uE,uT,uG,Mx,My,pG,kT,uO,uC,vC,BY,uI,Ms,uR,uZ,Mu,uL,BZ,Mt,Ak,Al,Mr,Mq,uK,E2,Mp,vE,vD,Mw,Mv,KP,KN,uX,m2,m3,at_,lk,tJ,GC,hB,Bb,uM,uN,uP,HN,GO,Mz,eZ,AZ,sN,Hi];rfl);exact fun _=>?m))
@[simp] def oR:FH:=⟨.f "_law_mix" 2,"_law_mix",top 42,["_law_cell","_law_turn","_law_number"],[],3,[],[],[]⟩
noncomputable def kM:B oR:=by walk_at "tr"
@[simp] def lK:FH:=⟨.f "_law_draws" 3,"_law_draws",top 43,["_law_script","_law_turn","_law_many","_law_cells","_law_lefts","_law_found","_law_k","_law_at","_law_number"],[0],6,[],["_law_mix"],[2176136377,2184136528,2192136152,2264088264]⟩
noncomputable def je:B lK:=by walk_at "tr"
@[simp] def oQ:FH:=⟨.f "_law_pop" 1,"_law_pop",top 44,["_law_draws_here"],[],3,[],[],[]⟩
noncomputable def kK:B oQ:=by walk_at "tr"
@[simp] def mW:FH:=⟨.f "_law_bits" 1,"_law_bits",top 48,["_law_group"],[],3,[],[],[]⟩
noncomputable def nj:B mW:=by walk_at "tr"
@[simp] def lH:FH:=⟨.f "_law_table" 2,"_law_table",top 49,["_law_n","_law_draws_here","_law_table_here","_law_k","_law_number","_law_mask","_law_most","_law_times","_law_pair","_law_four"],[2,3],6,[],["_law_pop","_law_bits"],[2496192398,2504176382,2544144350]⟩
noncomputable def gM:B lH:=by walk_at "tr"
@[simp] def lG:FH:=⟨.f "_law_terms" 2,"_law_terms",top 50,["_law_n","_law_draws_here","_law_whole","_law_number","_law_a","_law_b","_law_c"],[2],6,[],["_law_pop"],[2608144350]⟩
noncomputable def gK:B lG:=by walk_at "tr"
@[simp] def kU:FH:=⟨.f "_law_row_of" 2,"_law_row_of",top 45,["_law_n","_law_terms_here","_law_row_here","_law_group","_law_number"],[],3,[],[],[2312160528]⟩
noncomputable def fP:B kU:=by walk_at "tr"
@[simp] def oP:FH:=⟨.f "_law_row" 2,"_law_row",top 51,["_law_n","_law_draws_here","_law_number","_law_row_here","_law_k","_law_more","_law_times"],[2,5,6],9,[],["_law_pop","_law_terms","_law_row_of"],[2688144350,2704128334,2720128334,2744320606,2752336542]⟩
noncomputable def iN:B oP:=by walk_at "tr"
@[simp] def lF:FH:=⟨.f "_law_value" 2,"_law_value",top 47,["_law_row_here","_law_table_here"],[],3,[],[],[]⟩
noncomputable def jd:B lF:=by walk_at "tr"
@[simp] def kY:FH:=⟨.f "_law_givens" 3,"_law_givens",top 52,["_law_n","_law_draws_here","_law_table_here","_law_givens_here","_law_k","_law_row_here","_law_number","_law_sign","_law_due"],[2,7,8],12,[],["_law_pop","_law_row","_law_value"],[2784184200,2792392598,2800192462,2808176382,2872272478]⟩
noncomputable def fQ:B kY:=by walk_at "tr"
@[simp] def jo:FH:=⟨.f "_law_question" 1,"_law_question",top 53,["_law_script","_law_draws_here","_law_number","_law_n","_law_table_here","_law_givens_here"],[1,2,4,9,7],15,[],["_law_draws","_law_pop","_law_table","_law_givens","_law_row"],[2904176430,2912144350,2928176462,2936184614,2944440710]⟩
noncomputable def eO:B jo:=by walk_at "tr"
@[simp] def mT:FH:=⟨.f "all_names" 1,"all_names",top 1,["n"],[],3,[],[],[]⟩
noncomputable def ni:B mT:=by walk_at "tr"
@[simp] def ik:FH:=⟨.f "pairs_with_known" 3,"pairs_with_known",top 6,["n","i","j","both"],[11],6,[],["all_names"],[]⟩
noncomputable def ip:B ik:=by walk_at "tr"
@[simp] def u5:FH:=⟨.f "rules" 1,"rules",top 7,["n","found","i","j"],[12],9,[],["pairs_with_known"],[152096344]⟩
noncomputable def vk:B u5:=by walk_at "tr"
@[simp] def jQ:FH:=⟨.f "row_of_terms" 2,"row_of_terms",top 2,["n","terms","row","group","number"],[11],6,[],["all_names"],[40080224]⟩
noncomputable def j4:B jQ:=by walk_at "tr"
@[simp] def oG:FH:=⟨.f "rest_row" 3,"rest_row",top 3,["n","a","b"],[14],9,[],["row_of_terms"],[]⟩
noncomputable def pi:B oG:=by walk_at "tr"
@[simp] def lE:FH:=⟨.f "shared_row" 4,"shared_row",top 4,["n","a","b","c"],[14],9,[],["row_of_terms"],[]⟩
noncomputable def lP:B lE:=by walk_at "tr"
@[simp] def oF:FH:=⟨.f "rule_row" 2,"rule_row",top 8,["n","rule","one"],[11,15,16],12,[],["all_names","rest_row","shared_row"],[]⟩
noncomputable def ph:B oF:=by walk_at "tr"
@[simp] def mP:FH:=⟨.f "rule_rows" 1,"rule_rows",top 9,["n"],[13,17],15,[],["rules","rule_row"],[]⟩
noncomputable def mZ:B mP:=by walk_at "tr"
@[simp] def i9:FH:=⟨.k "Sheet" 3,"Sheet.__init__",gX 12 0,["self","width","lines"],[],3,[],[],[352168408,360168312,368168472]⟩
noncomputable def f9:B i9:=by walk_at "tr"
@[simp] def kZ:FH:=⟨.m "Sheet" "guard" 2,"Sheet.guard",gX 12 1,["self","quantity"],[],3,[],[],[]⟩
noncomputable def iz:B kZ:=by walk_at "tr"
@[simp] def jn:FH:=⟨.f "opening_sheet" 3,"opening_sheet",top 24,["n","givens","goal","lines","guarded","sheet","quantity"],[18,11,19,20],18,[],["rule_rows","all_names","Sheet","guard"],[1344096376,1344104177,1360144313,1368136409]⟩
noncomputable def gJ:B jn:=by walk_at "tr"
@[simp] def iD:FH:=⟨.m "Sheet" "turn_line" 2,"Sheet.turn_line",gX 12 3,["self","place"],[],3,[],[],[]⟩
noncomputable def fF:B iD:=by walk_at "tr"
@[simp] def gk:FH:=⟨.m "Sheet" "loose_columns" 1,"Sheet.loose_columns",gX 12 5,["self"],[],3,[],[],[]⟩
noncomputable def dU:B gk:=by walk_at "tr"
@[simp] def fM:FH:=⟨.m "Sheet" "raising_column" 2,"Sheet.raising_column",gX 12 6,["self","place","line","found"],[23],6,[⟨79,30,79,63⟩],["loose_columns"],[]⟩
noncomputable def dG:B fM:=by walk_at "tr"
@[simp] def im:FH:=⟨.m "Sheet" "is_tighter" 4,"Sheet.is_tighter",gX 12 8,["self","one","other","column","ahead","behind"],[],3,[],[],[]⟩
noncomputable def fe:B im:=by walk_at "tr"
@[simp] def fL:FH:=⟨.m "Sheet" "tightest_place" 2,"Sheet.tightest_place",gX 12 9,["self","column","best","place","line"],[25],6,[],["is_tighter"],[]⟩
noncomputable def dF:B fL:=by walk_at "tr"
@[simp] def gT:FH:=⟨.m "Sheet" "is_up_first" 4,"Sheet.is_up_first",gX 12 10,["self","place","tight","column","up"],[],3,[],[],[]⟩
noncomputable def eG:B gT:=by walk_at "tr"
@[simp] def jT:FH:=⟨.f "changed_line" 5,"changed_line",top 11,["line","pivot_line","column","sign","below","pivot","factor","changed"],[],3,[],[],[296112808]⟩
noncomputable def dR:B jT:=by walk_at "tr"
@[simp] def i6:FH:=⟨.m "Sheet" "exchange" 3,"Sheet.exchange",gX 12 4,["self","place","column","sign","pivot_line","below","freed"],[28],6,[],["changed_line"],[520168776,528224496]⟩
noncomputable def fZ:B i6:=by walk_at "tr"
@[simp] def lM:FH:=⟨.m "Sheet" "lift" 2,"Sheet.lift",gX 12 11,["self","place","column","tight"],[24,26,27,29],9,[],["raising_column","tightest_place","is_up_first","exchange"],[]⟩
noncomputable def fc:B lM:=by walk_at "tr"
@[simp] def gj:FH:=⟨.m "Sheet" "moving_column" 2,"Sheet.moving_column",gX 12 7,["self","place","line"],[23],6,[],["loose_columns"],[]⟩
noncomputable def dS:B gj:=by walk_at "tr"
@[simp] def lL:FH:=⟨.m "Sheet" "nail" 2,"Sheet.nail",gX 12 2,["self","quantity"],[],3,[],[],[]⟩
noncomputable def jf:B lL:=by walk_at "tr"
@[simp] def mR:FH:=⟨.f "keep_just" 2,"keep_just",top 25,["sheet","place","quantity","column"],[22,30,31,29,32],12,[],["turn_line","lift","moving_column","exchange","nail"],[]⟩
noncomputable def jH:B mR:=by walk_at "tr"
@[simp] def jS:FH:=⟨.f "keep_no_less" 2,"keep_no_less",top 26,["sheet","place","quantity"],[30,20],12,[],["lift","guard"],[]⟩
noncomputable def fu:B jS:=by walk_at "tr"
@[simp] def oK:FH:=⟨.f "names_in" 2,"names_in",top 14,["n","group"],[],3,[],[],[]⟩
noncomputable def pj:B oK:=by walk_at "tr"
@[simp] def mQ:FH:=⟨.f "pair_rule" 3,"pair_rule",top 15,["one","other","known"],[],3,[],[],[]⟩
noncomputable def m6:B mQ:=by walk_at "tr"
@[simp] def jm:FH:=⟨.f "rules_of_name" 3,"rules_of_name",top 16,["n","k","known","used","j"],[35,36],6,[],["names_in","pair_rule"],[1032088104]⟩
noncomputable def jB:B jm:=by walk_at "tr"
@[simp] def jl:FH:=⟨.f "rules_of_rest" 3,"rules_of_rest",top 17,["n","a","b","used","known","k"],[35,37],9,[],["names_in","rules_of_name"],[1088088104]⟩
noncomputable def jA:B jl:=by walk_at "tr"
@[simp] def mS:FH:=⟨.f "how_often" 2,"how_often",top 18,["n","used"],[13],12,[],["rules"],[]⟩
noncomputable def nh:B mS:=by walk_at "tr"
@[simp] def iA:FH:=⟨.f "weights_by_line" 3,"weights_by_line",top 27,["n","sheet","place","taken","column","quantity","weights","group","often","rule","count"],[11,38,39],15,[],["all_names","rules_of_rest","how_often"],[1568096440,1600032340,1616112288]⟩
noncomputable def fD:B iA:=by walk_at "tr"
@[simp] def i5:FH:=⟨.f "common_divisor" 1,"common_divisor",top 20,["numbers","divisor","number","other","left"],[],3,[],[],[]⟩
noncomputable def d7:B i5:=by walk_at "tr"
@[simp] def iC:FH:=⟨.f "in_lowest_terms" 1,"in_lowest_terms",top 21,["numbers","divisor"],[41],6,[],["common_divisor"],[]⟩
noncomputable def dL:B iC:=by walk_at "tr"
@[simp] def i8:FH:=⟨.m "Sheet" "drive_up" 2,"Sheet.drive_up",gX 12 12,["self","place","column","tight"],[24,26,29],9,[],["raising_column","tightest_place","exchange"],[]⟩
noncomputable def f7:B i8:=by walk_at "tr"
@[simp] def iB:FH:=⟨.f "lowest_fraction" 2,"lowest_fraction",top 22,["top","bottom","numbers"],[42],9,[],["in_lowest_terms"],[]⟩
noncomputable def fE:B iB:=by walk_at "tr"
@[simp] def il:FH:=⟨.f "groups_in_column" 3,"groups_in_column",top 28,["n","sheet","column","found","place","quantity"],[11],6,[],["all_names"],[1680096240]⟩
noncomputable def fb:B il:=by walk_at "tr"
@[simp] def jR:FH:=⟨.f "lowest_table" 2,"lowest_table",top 23,["numbers","below","found"],[42],9,[],["in_lowest_terms"],[1320224361]⟩
noncomputable def g7:B jR:=by walk_at "tr"
@[simp] def iY:FH:=⟨.f "table_of_sheet" 2,"table_of_sheet",top 29,["n","sheet"],[45,46],12,[],["groups_in_column","lowest_table"],[1728192438]⟩
noncomputable def fX:B iY:=by walk_at "tr"
@[simp] def i4:FH:=⟨.f "least_of_sheet" 3,"least_of_sheet",top 31,["n","sheet","place","least","weights"],[44,40,42,47],18,[],["lowest_fraction","weights_by_line","in_lowest_terms","table_of_sheet"],[1792240502,1792240625,1800224422]⟩
noncomputable def fY:B i4:=by walk_at "tr"
@[simp] def mO:FH:=⟨.f "way_along" 3,"way_along",top 30,["n","sheet","column","way"],[45,42],9,[],["groups_in_column","in_lowest_terms"],[1744080358]⟩
noncomputable def hZ:B mO:=by walk_at "tr"
@[simp] def sU:FH:=⟨.f "answer" 3,"answer",top 32,["n","givens","goal","sheet","last","place","given","kept","column"],[21,33,34,40,42,43,48,47,49],21,[],["opening_sheet","keep_just","keep_no_less","weights_by_line","in_lowest_terms","drive_up","least_of_sheet","table_of_sheet","way_along"],[1816096342,1840120310,1840504718,1856360622,1880120366,1888184382,1888392614]⟩
noncomputable def nT:B sU:=by walk_at "tr"
@[simp] def lJ:FH:=⟨.f "_law_range" 3,"_law_range",top 55,["_law_n","_law_givens_here","_law_row_here","_law_low","_law_high","_law_ends"],[50],24,[],["answer"],[3088128224]⟩
noncomputable def gN:B lJ:=by walk_at "tr"
@[simp] def sS:FH:=⟨.f "end_of" 1,"end_of",top 34,["found"],[],3,[],[],[]⟩
noncomputable def nR:B sS:=by walk_at "tr"
@[simp] def sQ:FH:=⟨.f "turned" 1,"turned",top 35,["end"],[],3,[],[],[]⟩
noncomputable def tS:B sQ:=by walk_at "tr"
@[simp] def oH:FH:=⟨.f "range_of" 3,"range_of",top 36,["n","givens","row","found","high"],[50,52,53],24,[],["answer","end_of","turned"],[]⟩
noncomputable def iJ:B oH:=by walk_at "tr"
@[simp] def oO:FH:=⟨.f "is_below" 2,"is_below",top 39,["one","other"],[],3,[],[],[]⟩
noncomputable def kJ:B oO:=by walk_at "tr"
@[simp] def oJ:FH:=⟨.f "outlying" 4,"outlying",top 40,["n","givens","row","number","ends"],[54,55],27,[],["range_of","is_below"],[]⟩
noncomputable def iK:B oJ:=by walk_at "tr"
@[simp] def mV:FH:=⟨.f "_law_less" 2,"_law_less",top 56,["_law_one","_law_other"],[],3,[],[],[]⟩
noncomputable def jI:B mV:=by walk_at "tr"
@[simp] def mU:FH:=⟨.f "_law_lies" 2,"_law_lies",top 58,["_law_ends","_law_number"],[57],6,[],["_law_less"],[]⟩
noncomputable def ia:B mU:=by walk_at "tr"
@[simp] def sR:FH:=⟨.f "ranges" 2,"ranges",top 37,["n","givens","found"],[11,14,54],27,[],["all_names","row_of_terms","range_of"],[1992096832]⟩
noncomputable def kI:B sR:=by walk_at "tr"
@[simp] def qr:FH:=⟨.f "settled" 2,"settled",top 38,["n","givens","found"],[59],30,[],["ranges"],[2016096238,2040088680]⟩
noncomputable def jz:B qr:=by walk_at "tr"
@[simp] def kW:FH:=⟨.f "_law_groups" 1,"_law_groups",top 57,["_law_n","_law_rows","_law_group"],[],3,[],[],[3160128144]⟩
noncomputable def k6:B kW:=by walk_at "tr"
@[simp] def lI:FH:=⟨.f "_law_rules" 1,"_law_rules",top 46,["_law_n","_law_whole","_law_rows","_law_i","_law_j","_law_one","_law_other","_law_g","_law_terms_here"],[6],6,[],["_law_row_of"],[2368128944]⟩
noncomputable def lQ:B lI:=by walk_at "tr"
@[simp] def jp:FH:=⟨.f "_law_is_table" 3,"_law_is_table",top 54,["_law_n","_law_givens_here","_law_table_here","_law_numbers","_law_below","_law_row_here","_law_sign","_law_number","_law_here"],[62,8],9,[],["_law_rules","_law_value"],[]⟩
noncomputable def eP:B jp:=by walk_at "tr"
@[simp] def Cv:FH:=⟨.f "law" 1,"law",top 59,["_law_script","_law_n","_law_table_here","_law_givens_here","_law_row_here","_law_draws_here","_law_kept","_law_ends","_law_number","_law_some","_law_one","_law_found","_law_alike","_law_due","_law_k","_law_end"],[10,51,54,2,56,58,59,60,61,63],33,[],["_law_question","_law_range","range_of","_law_pop","outlying","_law_lies","ranges","settled","_law_groups","_law_is_table"],[3248640854,3264160424,3296152358,3296480686,3320160737,3352136398,3360136406,3376528792,3392088280,3392353136,3456088350,3456552822,3456897160]⟩
noncomputable def qY:B Cv:=by walk_at "tr"
def e_law:FE:=⟨Cv,qY⟩
def pre:List FE:=[⟨oR,kM⟩,⟨lK,je⟩,⟨oQ,kK⟩,⟨mW,nj⟩,⟨lH,gM⟩,⟨lG,gK⟩,⟨kU,fP⟩,⟨oP,iN⟩,⟨lF,jd⟩,⟨kY,fQ⟩,⟨jo,eO⟩,⟨mT,ni⟩,⟨ik,ip⟩,⟨u5,vk⟩,⟨jQ,j4⟩,⟨oG,pi⟩,⟨lE,lP⟩,⟨oF,ph⟩,⟨mP,mZ⟩,⟨i9,f9⟩,⟨kZ,iz⟩,⟨jn,gJ⟩,⟨iD,fF⟩,⟨gk,dU⟩,⟨fM,dG⟩,⟨im,fe⟩,⟨fL,dF⟩,⟨gT,eG⟩,⟨jT,dR⟩,⟨i6,fZ⟩,⟨lM,fc⟩,⟨gj,dS⟩,⟨lL,jf⟩,⟨mR,jH⟩,⟨jS,fu⟩,⟨oK,pj⟩,⟨mQ,m6⟩,⟨jm,jB⟩,⟨jl,jA⟩,⟨mS,nh⟩,⟨iA,fD⟩,⟨i5,d7⟩,⟨iC,dL⟩,⟨i8,f7⟩,⟨iB,fE⟩,⟨il,fb⟩,⟨jR,g7⟩,⟨iY,fX⟩,⟨i4,fY⟩,⟨mO,hZ⟩,⟨sU,nT⟩,⟨lJ,gN⟩,⟨sS,nR⟩,⟨sQ,tS⟩,⟨oH,iJ⟩,⟨oO,kJ⟩,⟨oJ,iK⟩,⟨mV,jI⟩,⟨mU,ia⟩,⟨sR,kI⟩,⟨qr,jz⟩,⟨kW,k6⟩,⟨lI,lQ⟩,⟨jp,eP⟩]
theorem EH:pb gs cl [] pre=pre.map fun e=>À e.b:=by kernel_rfl
theorem EI:e_law.chk gs cl pre=À e_law.b:=by kernel_rfl
instance:Od:=⟨[(112,⟨79,30,79,63⟩,("Sheet.raising_column":Ì)++".<locals>."++"<lambda>")]⟩
def c6:Fn:=run 3 (ag [] kM)
def fg:Fn:=run 9 (ag [c6] je)
def ak:Fn:=run 1 (ag [] kK)
def bw:Fn:=run 1 (ag [] nj)
def dY:Fn:=run 10 (ag [ak,bw] gM)
def bo:Fn:=run 7 (ag [ak] gK)
def aS:Fn:=run 5 (ag [] fP)
def bV:Fn:=run 7 (ag [ak,bo,aS] iN)
def aP:Fn:=run 2 (ag [] jd)
def dh:Fn:=run 9 (ag [ak,bV,aP] fQ)
def dy:Fn:=run 6 (ag [fg,ak,dY,dh,bV] eO)
def aj:Fn:=run 1 (ag [] ni)
def iy:Fn:=run 4 (ag [aj] ip)
def p9:Fn:=run 4 (ag [iy] vk)
def bJ:Fn:=run 5 (ag [aj] j4)
def pA:Fn:=run 3 (ag [bJ] pi)
def lU:Fn:=run 4 (ag [bJ] lP)
def px:Fn:=run 3 (ag [aj,pA,lU] ph)
def aN:Fn:=run 1 (ag [p9,px] mZ)
def aE:Fn:=run 3 (ag [] f9)
def aL:Fn:=run 2 (ag [] iz)
def bU:Fn:=run 7 (ag [aN,aj,aE,aL] gJ)
def cK:Fn:=run 2 (ag [] fF)
def cz:Fn:=run 1 (ag [] dU)
def aG:Fn:=run 4 (ag [cz] dG)
def cA:Fn:=run 6 (ag [] fe)
def aF:Fn:=run 5 (ag [cA] dF)
def aU:Fn:=run 5 (ag [] eG)
def bL:Fn:=run 8 (ag [] dR)
def aI:Fn:=run 7 (ag [bL] fZ)
def cG:Fn:=run 4 (ag [aG,aF,aU,aI] fc)
def bW:Fn:=run 3 (ag [cz] dS)
def d4:Fn:=run 2 (ag [] jf)
def cE:Fn:=run 4 (ag [cK,cG,bW,aI,d4] jH)
def bK:Fn:=run 3 (ag [cG,aL] fu)
def kQ:Fn:=run 2 (ag [] pj)
def ny:Fn:=run 3 (ag [] m6)
def jC:Fn:=run 5 (ag [kQ,ny] jB)
def cT:Fn:=run 6 (ag [kQ,jC] jA)
def eD:Fn:=run 2 (ag [p9] nh)
def aK:Fn:=run 11 (ag [aj,cT,eD] fD)
def cO:Fn:=run 5 (ag [] d7)
def ao:Fn:=run 2 (ag [cO] dL)
def bH:Fn:=run 4 (ag [aG,aF,aI] f7)
def cX:Fn:=run 3 (ag [ao] fE)
def cR:Fn:=run 6 (ag [aj] fb)
def dX:Fn:=run 3 (ag [ao] g7)
def aT:Fn:=run 2 (ag [cR,dX] fX)
def bG:Fn:=run 5 (ag [cX,aK,ao,aT] fY)
def cD:Fn:=run 4 (ag [cR,ao] hZ)
def cF:Fn:=run 9 (ag [bU,cE,bK,aK,ao,bH,bG,aT,cD] nT)
def dZ:Fn:=run 6 (ag [cF] gN)
def gg:Fn:=run 1 (ag [] nR)
def gf:Fn:=run 1 (ag [] tS)
def bS:Fn:=run 5 (ag [cF,gg,gf] iJ)
def d9:Fn:=run 2 (ag [] kJ)
def gQ:Fn:=run 5 (ag [bS,d9] iK)
def fN:Fn:=run 2 (ag [] jI)
def eE:Fn:=run 2 (ag [fN] ia)
def d8:Fn:=run 3 (ag [aj,bJ,bS] kI)
def gy:Fn:=run 3 (ag [d8] jz)
def eB:Fn:=run 3 (ag [] k6)
def df:Fn:=run 9 (ag [aS] lQ)
def dz:Fn:=run 9 (ag [df,aP] eP)
def pB:Fn:=run 16 (ag [dy,dZ,bS,ak,gQ,eE,d8,gy,eB,dz] qY)
def Fs:List Fn:=[c6,fg,ak,bw,dY,bo,aS,bV,aP,dh,dy,aj,iy,p9,bJ,pA,lU,px,aN,aE,aL,bU,cK,cz,aG,cA,aF,aU,bL,aI,cG,bW,d4,cE,bK,kQ,ny,jC,cT,eD,aK,cO,ao,bH,cX,cR,dX,aT,bG,cD,cF,dZ,gg,gf,bS,d9,gQ,fN,eE,d8,gy,eB,df,dz]
theorem JF:jr [] pre=Fs:=yz (by(repeat refine⟨rfl,?_⟩);trivial)
theorem Jp:e_law.fn (jr [] pre)=pB:=by rw[JF];rfl
def KK:Fn:=pB
open PySem.Spec
open SX (Sh Om)
def Bd(w m:Nat)(S:Sh):Prop:=S.d.natAbs<2^9000/\∀i,i<m->∀j,j<w+1->(S.t i j).natAbs<2^9000
section
variable{st:aa}{k a b c g n u w m:Nat}{rows:List AV}{S:Sh}
theorem Jv(R:Rep st k a b c g n u rows S)(P:Om w m S)(B:Bd w m S){i r q:Nat}(e:i<m)(d:r<m)(l:q<w) :
  cA [.ref k,.int i,.int r,.int q] st=À (.bl (decide (S.t i w*- S.t r q<S.t r w*- S.t i q)||(decide (S.t i w*- S.t r q=S.t r w*- S.t i q)&&decide (S.s i<S.s r))),st):=by
 have f:c4 (S.t i w) (- S.t r q)=Â:=dO (B.2 i e w oM) (by rw [ð];exact B.2 r d q oM);have m2:c4 (S.t r w) (- S.t i q)=Â:=dO (B.2 r d w oM) (by rw [ð];exact B.2 i e q oM);simp [cA,aA,fe,R.ins,R.line P e,R.line P d,R.last P e,R.last P d,R.cell P e (show q < w + 1 by lia),R.cell P d (show q < w + 1 by lia),ce f,ce m2,R.side P e,R.side P d];by_cases j:S.t i w * -S.t r q < S.t r w * -S.t i q <;> by_cases h:S.t i w * -S.t r q=S.t r w * -S.t i q <;> simp [j,h]
theorem BW(R:Rep st k a b c g n u rows S)(P:Om w m S)(B:Bd w m S){i r q:Nat}(e:i<m)(d:r<m)(h:q<w) :
  aU [.ref k,.int i,.int r,.int q] st=À (.bl (decide (S.t i w*S.t r q<=S.t r w*S.t i q)),st):=by
 have f:c4 (S.t i w) (S.t r q)=Â:=dO (B.2 i e w oM) (B.2 r d q oM);have m2:c4 (S.t r w) (S.t i q)=Â:=dO (B.2 r d w oM) (B.2 i e q oM);simp [aU,aA,eG,R.ins,R.line P e,R.line P d,R.last P e,R.last P d,R.cell P e (show q < w + 1 by lia),R.cell P d (show q < w + 1 by lia),ce f,ce m2]
theorem uD(R:Rep st k a b c g n u rows S)(P:Om w m S)(f:w<=100):cz [.ref k] st=À (.fz (nL (bZ S)),st):=by
 have e:nL (bZ S)=(S.hd.zipIdx.filter fun z=>!decide (z.1∈S.nl)).map fun z=>(AV.int ((z.2:Nat):Int)):=by unfold nL bZ;rw[å];rfl
 have d:=nF (l:=bZ S);rw [e] at d ⊢;simp [cz,aA,dU,R.ins,gZ R.hb,JO,cp (show S.hd.length <= 1000 by rw [P.hd];lia)];rw [gY (B:=fun z=>!decide (z.1 ∈ S.nl)) (F:=fun z=>.int ((z.2:Nat):Int)) (fq R.hb) fun z _=>⟨_,rfl,by simp [R.ins,R.nin],fun _=>rfl⟩];simp [d]
theorem rX(R:Rep st k a b c g n u rows S)(P:Om w m S)(y:w<=100){p:Nat}(r:p<m):∃o,aG [.ref k,.int p] st=À (oN o,st)/\SX.Rais w S p o:=by
 have x:(bZ S).length<=1000:=by
  unfold bZ;rw[zH]
  have:=Ł (fun z:Nat×Nat=>!decide (z.1∈S.nl)) S.hd.zipIdx
  rw[M!,P.hd]at this;lia
 obtain⟨o,C,G,E⟩:=HU (l:=(bZ S).filter fun j=>decide (0<S.t p j)) (key:=S.h);have inl:∀j,j∈(bZ S).filter (fun j=>decide (0<S.t p j)) ↔ (j<w/\S.h j∉S.nl)/\0<S.t p j:=fun j=>by rw[Ĉ,jk P];simp
 refine⟨o,?_,fun e j d i h=>?_,fun q e=>?_⟩
 ·simp[aG,aA,dG,R.ins,R.line P r,uD R P y,nL,cp x]
  rw [gY (B:=fun j=>decide (0 < S.t p j)) (F:=fun j:Nat=>.int (j:Int)) gq fun j d=>⟨_,rfl,by simp [R.cell P r (show j < w + 1 by have:=(jk P).mp d;lia)],fun _=>rfl⟩];have D:rfs (((bZ S).filter fun j=>decide (0 < S.t p j)).map fun j:Nat=>(AV.int (j:Int)))=Â:=nF;have t:=uQ (l:=(bZ S).filter fun j=>decide (0 < S.t p j));unfold nL at t;simp [D,qZ,lsI,t];rw [GU (f:=S.h) fun q A=>by simp [R.ins,R.head P ((inl q).mp A).1.1]];simp [C]
 ·have:=G e
  have s:=(inl j).mpr ⟨⟨d,i⟩,h⟩;rw[this]at s;cases s
 ·obtain⟨v,m2⟩:=E q e
  have:=(inl q).mp v
  exact⟨this.1.1,this.1.2,this.2,fun j d i h=>m2 j ((inl j).mpr ⟨⟨d,i⟩,h⟩)⟩
theorem uj(R:Rep st k a b c g n u rows S)(P:Om w m S)(B:Bd w m S){q:Nat}(z:q<w):∃o,aF [.ref k,.int q] st=À (oN o,st)/\SX.Oh S w q m o:=by
 have rl:rows.length=m:=by rw[R.len,P.ls]
 obtain⟨t,p,e,rfl,o,x,y,rfl,T⟩:=eC (gd:=[(a,.lst rows)]) (g:=b8 [cA] (.tu 2 (.cons (.nm 3) (.cons (.nm 4) .nil)))) (s:=ag [cA] (.cons (.iff (.an (.cmp .Lt (.ix (.v 4) (.v 1)) (.i 0)) (.cmp .In (.ix (.fd "Sheet" "sides" (.v 0)) (.v 3)) (.fd "Sheet" "guarded" (.v 0))))
   (.cons (.iff (.or (.cmp .Is (.v 2) .n) (.va (.me "Sheet" "is_tighter" 0 (.v 0) (.cons (.v 3) (.cons (.v 2) (.cons (.v 1) .nil)))))) (.cons (.as (.v 3) (.nm 2)) .nil) .nil) .nil) .nil) .nil))
  (I:=fun i sl s=>s=st/\∃o x y,sl=[Rs k,Is q,À (oN o),x,y]/\SX.Oh S w q i o) (xs:=eN 0 rows) (fun i sl s _ j=>by rw[j.1];exact fq R.ha)
  (fun i y sl s v j=>by
   obtain⟨rfl,o,C,A,rfl,T⟩:=j;obtain⟨x,l,rfl⟩:=o7 v;have f:i<m:=by rw[<- rl];exact(zB.mp l).1
   have ex:x=ld rows i:=by have:=R.rx P f;rw[l]at this;injection this
   subst ex;refine⟨_,[Rs k,Is q,À (oN (if S.t i q<0/\S.s i∈S.gd then(match o with|none=>À i|some r=>if S.t i w*- S.t r q<S.t r w*- S.t i q\/(S.t i w*- S.t r q=S.t r w*- S.t i q/\S.s i<S.s r) then À i else À r) else o)),Is i,À (ld rows i)],s,rfl,?_,rfl,_,_,_,rfl,?_⟩
   ·by_cases d:S.t i q<0
    ·by_cases h:S.s i∈S.gd
     ·cases o with
      | none=>simp [R.cell P f (show q < w + 1 by lia),d,R.side P f,R.ins,R.ing,h,oN]
      |some r =>
       have D:=(T.2 r rfl).1
       have:=Jv R P B f (show r < m by lia) z
       simp [R.cell P f (show q < w + 1 by lia),d,R.side P f,R.ins,R.ing,h,oN,this,fA,bQ,dr];split <;> rfl
     ·simp [R.cell P f (show q < w + 1 by lia),d,R.side P f,R.ins,R.ing,h]
    ·simp [R.cell P f (show q < w + 1 by lia),d]
   ·by_cases d:S.t i q<0/\S.s i∈S.gd
    ·rw[yI d]
     cases o with
     |none=>exact SX.tt_first d.1 d.2 T
     |some r =>
      dsimp only;split
      ·rename_i h;exact SX.tt_new d.1 d.2 h T
      ·rename_i h;exact SX.tt_old d.1 h T
    ·rw[yH d];exact SX.tt_skip d T) (sl:=[Rs k,Is q,À .non,Á,Á]) (st:=st) ⟨rfl,Á,Á,Á,rfl,SX.tt_zero⟩
 rw[mq,rl]at T;refine⟨o,?_,T⟩;simp[aF,aA,dF,R.ins,gZ R.ha];rw[e];simp
end
open SX (gI chLine pvl sgn)
theorem EN:((iL l).zip (iL P)).map (fun z=>AV.tup [z.1,z.2])=(l.zip P).map fun z=>.tup [.int z.1,.int z.2]:=by
 unfold iL;rw[List.zip_map,å];rfl
section
variable{l P:List Int}{q w:Nat}{sg d:Int}
theorem oV{M:Nat}(h:∀x∈l,x.natAbs<M)(a:0<M)(j:Nat):(gI l j).natAbs<M:=by
 unfold gI;rw[zD];cases e:l[j]? with
 |none=>exact a
 |some x=>exact h x (zW e)
theorem L8(s:l.length=w+1)(t:P.length=w+1)(r:q<w+1)(p:w<=100)(g:∀x∈l,x.natAbs<2^9000)(m:∀x∈P,x.natAbs<2^9000)(hd:d≠0)(bd:d.natAbs<2^9000)(bs:sg.natAbs<2^9000) :
  ∃v st',bL [.fz (iL l),.fz (iL P),.int q,.int sg,.int d] []=À (v,st')/\eS st' v=À (.fz (iL (chLine l P q sg d))):=by
 have h:(0:Nat)<2^9000:=ß _;have f:∀b:aa,bI b (.fz (iL P)) (.int (q:Int))=À (.int (gI P q)):=fun b=>by rw[cL fj,cx,ci oM]
 have e:∀b:aa,bI b (.fz (iL l)) (.int (q:Int))=À (.int (gI l q)):=fun b=>by rw[cL fj,cx,ci oM]
 have j:=oV m h q;have k:=oV g h q;have i:=zc hd bd;unfold chLine;by_cases a:gI l q=0
 ·by_cases c:gI P q=d
  ·refine⟨.fz (iL l),[],?_,by rw[yI a,yI c];rfl⟩
   simp[bL,aA,dR,f,e,a,c]
  ·refine⟨.fz (iL (l.map fun x=>SX.fdvS (x*gI P q) d)),[],?_,by rw[yI a,yH c];rfl⟩
   simp [bL,aA,dR,f,e,a,c,cp (show l.length <= 1000 by lia)];rw [kr (F:=fun x=>SX.fdvS (x * gI P q) d) gq fun x o=>⟨_,rfl,rfl,by simp [ce (dO (g x o) j),mv i];rfl⟩];simp
 ·refine⟨.ref 0,[.lst (iL (((l.zip P).map fun z=>SX.fdvS (z.1*gI P q-gI l q*z.2) d).set q (sg*gI l q)))],?_,by rw[yH a];exact pM rfl⟩
  have n:=dO bs k;have hz:((l.zip P).length)<=1000:=by rw[Ϫ];lia
  simp[bL,aA,dR,f,e,a,iZ,EN];rw[yI (cp oM),xZ (F:=fun z=>SX.fdvS (z.1*gI P q-gI l q*z.2) d) gq fun z hz=>⟨_,rfl,rfl,by
   have:=Ĺ hz
   simp[ce (dO (g _ this.1) j),ce (dO k (m _ this.2)),mv i];rfl⟩]
  simp[ce n];rw[cW (xs:=iL ((l.zip P).map fun z=>SX.fdvS (z.1*gI P q-gI l q*z.2) d)) rfl (by simp;lia),fK];simp
theorem JS(b:RowR st x l)(f:l.length=w+1)(g:P.length=w+1)(e:q<w+1)(c:w<=100)(j:∀x∈l,x.natAbs<2^9000)(k:∀x∈P,x.natAbs<2^9000)(hd:d≠0)(bd:d.natAbs<2^9000)(bs:sg.natAbs<2^9000) :
  ∃st1,pm bL [x,.fz (iL P),.int q,.int sg,.int d] st=À (.fz (iL (chLine l P q sg d)),st1)/\(st1=st\/∃r,x=.ref r/\st[r]?=À (.lst (iL l))/\st1=st.set r (.al (.fz (iL l)))):=by
 obtain⟨v,a,i,h⟩:=L8 f g e c j k hd bd bs;exact lq (rest:=[.fz (iL P),.int q,.int sg,.int d]) b (by simp) rfl (fun s=>by simp[oW,qt,rf]) i h (by simp[flat])
end
section
variable{st:aa}{k a b c g n u w m:Nat}{rows:List AV}{S:Sh}
theorem Bd.row(B:Bd w m S)(P:Om w m S){i:Nat}(c:i<m):∀x∈SX.row S i,x.natAbs<2^9000:=fun x d=>by
 obtain⟨j,b⟩:=z9 d;have a:=(zB.mp b).1;rw[P.rl c]at a
 have:=B.2 i c j a
 have e:S.t i j=x:=by show(SX.row S i).getD j 0=x;rw[zD,b];rfl
 rw[e]at this;exact this
theorem o6(R:Rep st k a b c g n u rows S)(P:Om w m S)(B:Bd w m S)(hd:S.d≠0)(hw:w<=100)(hm:m<=1000){p q:Nat}(A:p<m)(hq:q<w) :
  ∃st' a' rows',aI [.ref k,.int p,.int q] st=À (.non,st')/\Rep st' k a' b c g n u rows' (SX.Oj S p q):=by
 have rl:rows.length=m:=by rw[R.len,P.ls]
 obtain⟨sg,D⟩:∃x,x=sgn (S.t p q):=⟨_,rfl⟩;obtain⟨o,N⟩:∃x,x=pvl S p q:=⟨_,rfl⟩;have E:o=(SX.row S p).map fun x=>sg*x:=by rw[N,D];rfl
 have lp:o.length=w+1:=by rw[E,zH];exact P.rl A
 have sa:sg.natAbs=1:=by rw[D];unfold sgn;split<;>rfl
 have bs:sg.natAbs<2^9000:=by rw[sa];exact O7 oM
 have bP:∀x∈o,x.natAbs<2^9000:=fun x G=>by
  rw[E]at G;obtain⟨y,hy,rfl⟩:=yD.mp G;rw[xA,sa,ϧ];exact B.row P A y hy
 have s1:∃t,ii [(a,.lst rows)] (b8 [bL] (.nm 7)) (ju [bL] .no) (ev [bL] (.ca Â 0 (.cons (.v 7) (.cons (.v 4) (.cons (.v 2) (.cons (.v 3) (.cons (.v 5) .nil))))))) [Rs k,Is p,Is q,Is sg,Ls o,Is S.d,Á,Á] rows st
   = À ((Æ rows.length).map fun i=>.fz (iL (chLine (SX.row S i) o q sg S.d)),t)/\Rep t k a b c g n u rows S:=by
  refine xX (J:=fun _ s=>Rep s k a b c g n u rows S) (fun _ s _ Z=>fq Z.ha) (fun i x s G Z=>?_) R;have hi:i<m:=by rw[<- rl];exact(zB.mp G).1
  obtain ⟨s1,e1,Y⟩:=JS (Z.row i x G) (P.rl hi) lp (show q < w + 1 by lia) hw (B.row P hi) bP hd B.1 bs;refine ⟨_,s1,rfl,rfl,by simp [e1],?_⟩;rcases Y with rfl | ⟨r,rfl,h2,rfl⟩
  ·exact Z
  ·exact Z.freeze G h2
 obtain⟨t,e1,R1⟩:=s1;obtain⟨f,M⟩:∃x,x=(Æ rows.length).map fun i=>AV.fz (iL (chLine (SX.row S i) o q sg S.d)):=⟨_,rfl⟩
 rw[<- M]at e1;have O:∀i x,f[i]?=À x->i<m/\x=.fz (iL (chLine (SX.row S i) o q sg S.d)):=fun i x h=>by
  rw[M,zR]at h;obtain⟨j,Y,rfl⟩:=zE.mp h;have W:=(zB.mp Y).1;rw[Ü]at W;rw[Ĳ W]at Y;cases Y;exact⟨by lia,rfl⟩
 have l2:f.length=m:=by rw[M,zH,Ü,rl]
 have lt:∀{s:aa}{i:Nat}{x:Ob},s[i]?=À x->i<s.length:=fun h=>(zB.mp h).1
 have R2:Rep ((t++[Ob.lst f]).set k (.ins "Sheet" (cV S.d t.length b c g n u))) k t.length b c g n u f { S with ls:=S.ls.map fun l=>chLine l o q sg S.d }:=by
  refine Rep.fields (S':={ S with ls:=S.ls.map fun l=>chLine l o q sg S.d }) (R1.app (ys:=[Ob.lst f])) gl rfl rfl rfl rfl rfl (by simp[l2,P.ls]) (fun i x h=>?_) (İ (lt R1.hb)) (İ (lt R1.hc)) fun i r h=>?_
  ·obtain⟨hi,rfl⟩:=O i x h
   left;unfold SX.row;simp [zD,zF (show i < S.ls.length by rw [P.ls];exact hi)]
  ·have:=(O i _ h).2;cases this
 obtain⟨C,L⟩:∃x,x=(t++[Ob.lst f]).set k (.ins "Sheet" (cV S.d t.length b c g n u)):=⟨_,rfl⟩;rw[<- L]at R2;obtain⟨a',X⟩:∃x,x=t.length:=⟨_,rfl⟩;rw[<- X]at R2 L;have R3:=Rep.rowset (p:=p) (x:=.ref C.length) (l:=o.map fun x=>- x) (R2.app (ys:=[Ob.lst (iL (o.map fun x=>- x))])) (.inr ⟨C.length,rfl,.inl gl⟩) fun r e=>by cases e;exact⟨İ (lt R2.ha),İ (lt R2.hb),İ (lt R2.hc)⟩
 obtain⟨t3,K⟩:∃x,x=(C++[Ob.lst (iL (o.map fun x=>- x))]).set a' (.lst (f.set p (.ref C.length))):=⟨_,rfl⟩;rw[<- K]at R3;have g3:t3[C.length]?=À (.lst (iL (o.map fun x=>- x))):=by rw[K,aw (zU (lt R2.ha))];exact gl
 have p3:(f.set p (.ref C.length))[p]?=À (.ref C.length):=by simp[l2,A]
 have H:=Rep.cellset (l:=(o.map fun x=>- x).set q (sg*S.d)) R3 p3 fun i ne h=>by
  rw[yX,yH (fun z=>ne z.symm)]at h
  have:=(O i _ h).2;cases this
 obtain⟨t4,V⟩:∃x,x=t3.set C.length (.lst (iL ((o.map fun x=>- x).set q (sg*S.d)))):=⟨_,rfl⟩;rw[<- V]at H;have I:=Rep.fields (S':={ d:=gI o q,ls:=_,hd:=S.hd,sd:=S.sd,gd:=S.gd,nl:=S.nl,tn:=S.tn }) H H.ha rfl rfl rfl rfl rfl H.len H.row H.ab H.ac H.ra;obtain⟨t5,U⟩:∃x,x=t4.set k (.ins "Sheet" (cV (gI o q) a' b c g n u)):=⟨_,rfl⟩;have I:=U▸I;have R6:=Rep.sides (sd':=S.sd.set p (S.h q)) I;obtain⟨t6,T⟩:∃x,x=t5.set c (.lst (nL (S.sd.set p (S.h q)))):=⟨_,rfl⟩;rw[<- T]at R6;have R7:=Rep.heads (hd':=S.hd.set q (S.s p)) R6;obtain⟨t7,Q⟩:∃x,x=t6.set b (.lst (nL (S.hd.set q (S.s p)))):=⟨_,rfl⟩;rw[<- Q]at R7;refine⟨t7,a',f.set p (.ref C.length),?_,?_⟩
 rotate_left
 ·have e:SX.Oj S p q={ d:=gI o q,ls:=((S.ls.map fun l=>chLine l o q sg S.d).set p (o.map fun x=>- x)).set p ((o.map fun x=>- x).set q (sg*S.d)),hd:=S.hd.set q (S.s p),sd:=S.sd.set p (S.h q),gd:=S.gd,nl:=S.nl,tn:=S.tn }:=by
   unfold SX.Oj;rw[n!,N,D]
  rw[e];exact R7
 rw[aI,aA];unfold fZ;refine ae (sl':=[Rs k,Is p,Is q,Is sg,Á,Á,Á]) (st':=st) ?_ ?_
 ·by_cases h:S.t p q<0
  ·simp [R.ins,R.line P A,R.cell P A (show q < w + 1 by lia),h,D,sgn]
  ·simp [R.ins,R.line P A,R.cell P A (show q < w + 1 by lia),h,D,sgn]
 refine ae (sl':=[Rs k,Is p,Is q,Is sg,Ls o,Á,Á]) (st':=st) ?_ ?_
 ·obtain⟨gd,i1,i2⟩:=(R.row p _ (R.rx P A)).it
  simp [R.ins,R.line P A,i1,cp (show (SX.row S p).length <= 1000 by rw [P.rl A];lia)];rw [kr (F:=fun x=>sg * x) i2 fun x G=>⟨_,rfl,rfl,by simp [ce (dO bs (B.row P A x G))]⟩];simp [E]
 refine ae (sl':=[Rs k,Is p,Is q,Is sg,Ls o,Is S.d,Á]) (st':=st) (by simp[R.ins]) ?_;refine ae (sl':=[Rs k,Is p,Is q,Is sg,Ls o,Is S.d,Á]) (st':=C) ?_ ?_
 ·rw[iF (v:=.ref a') (st':=t++[.lst f]) (k:=k) (by simp[R.ins,pU R.ha,rl,cp hm,e1,X]) (by simp) R1.app.ins rfl,AO,L]
 refine ae (sl':=[Rs k,Is p,Is q,Is sg,Ls o,Is S.d,Á]) (st':=t3) ?_ ?_
 ·simp [cp (show o.length <= 1000 by lia)]
  rw [kr (F:=fun x=>- x) gq fun x G=>⟨_,rfl,rfl,by simp⟩];simp [R2.app.ins,cW (R2.app (ys:=[Ob.lst (iL (o.map fun x=>- x))])).ha (show p < f.length by lia),K]
 have P4:Om w m { S with ls:=((S.ls.map fun l=>chLine l o q sg S.d).set p (o.map fun x=>- x)).set p ((o.map fun x=>- x).set q (sg*S.d)) }:=by
  have:=SX.exch_shp (c:=q) P A
  refine⟨by simp[P.ls],fun l W=>this.row l ?_,P.hd,P.sd⟩;show l∈(S.ls.map fun l=>chLine l (pvl S p q) q (sgn (S.t p q)) S.d).set p _;rw[<- N,<- D];rw[n!]at W;exact W
 have rx:ld (f.set p (.ref C.length)) p=.ref C.length:=by unfold ld;rw[zD,p3];rfl
 refine ae (sl':=[Rs k,Is p,Is q,Is sg,Ls o,Is S.d,Á]) (st':=t4) ?_ ?_
 ·have li:bI t3 (.ref a') (.int (p:Int))=À (.ref C.length):=by rw[cL (bC R3.ha),cx];exact p3
  simp [ce (dO bs B.1),R3.ins,li,cW g3 (show q < (iL (o.map fun x=>- x)).length by simp;lia),fK,V]
 refine ae (sl':=[Rs k,Is p,Is q,Is sg,Ls o,Is S.d,Á]) (st':=t5) ?_ ?_
 ·have xi:bI t4 (.fz (iL o)) (.int (q:Int))=À (.int (gI o q)):=by rw[cL fj,cx,ci oM]
  rw[iF (v:=.int (gI o q)) (st':=t4) (k:=k) (by simp[xi]) (by simp) H.ins rfl,AQ,U]
 have P5:Om w m { S with d:=gI o q,ls:=((S.ls.map fun l=>chLine l o q sg S.d).set p (o.map fun x=>- x)).set p ((o.map fun x=>- x).set q (sg*S.d)) }:=⟨P4.ls,P4.row,P4.hd,P4.sd⟩;refine ae (sl':=[Rs k,Is p,Is q,Is sg,Ls o,Is S.d,Is (S.s p:Int)]) (st':=t5) ?_ ?_
 ·have:=I.side P5 A
  simp[I.ins,this];rfl
 refine ae (sl':=[Rs k,Is p,Is q,Is sg,Ls o,Is S.d,Is (S.s p:Int)]) (st':=t6) ?_ ?_
 ·have:=I.head P5 hq
  simp [I.ins,this,cW I.hc (show p < (nL S.sd).length by simp [P.sd,A]),T];rw [<- xP];rfl
 refine ae (sl':=[Rs k,Is p,Is q,Is sg,Ls o,Is S.d,Is (S.s p:Int)]) (st':=t7) ?_ rfl;simp [R6.ins,cW R6.hb (show q < (nL S.hd).length by simp [P.hd,hq]),Q,xP]
end
open SX (MI Rais Oh Kept Oj)
noncomputable def ins(l:List Nat)(q:Nat):List Nat:=if q∈l then l else l++[q]
section
variable{st:aa}{k a b c g n u w m:Nat}{rows:List AV}{S:Sh}{p q:Nat}
theorem u6(R:Rep st k a b c g n u rows S)(d:S.gd.length<=1000):∃st',aL [.ref k,.int q] st=À (.non,st')/\Rep st' k a b c g n u rows { S with gd:=ins S.gd q }:=by
 refine⟨_,?_,R.guard⟩;simp[aL,aA,iz,R.ins,pT R.hg d,ins]
theorem sf(R:Rep st k a b c g n u rows S)(d:S.nl.length<=1000):∃st',d4 [.ref k,.int q] st=À (.non,st')/\Rep st' k a b c g n u rows { S with nl:=ins S.nl q }:=by
 refine⟨_,?_,R.nail⟩;simp[d4,aA,jf,R.ins,pT R.hn d,ins]
theorem EV(R:Rep st k a b c g n u rows S)(P:Om w m S)(s:w<=100)(d:p<m)(j:S.tn.length<=1000):∃st' rows',cK [.ref k,.int p] st=À (.non,st')/\Rep st' k a b c g n u rows' (SX.trn S p):=by
 have f:=Rep.rowset (p:=p) (x:=.fz (iL ((SX.row S p).map fun x=>- x))) (l:=(SX.row S p).map fun x=>- x) R (.inl rfl) fun r e=>nomatch e
 have R2:=Rep.turned (tn':=if S.s p∈S.tn then S.tn else S.tn++[S.s p]) f;refine⟨_,_,?_,R2⟩;obtain⟨t,i,h⟩:=(R.row p _ (R.rx P d)).it;have o:Om w m { S with ls:=S.ls.set p ((SX.row S p).map fun x=>- x) }:=⟨(SX.trn_shp P d).ls,(SX.trn_shp P d).row,P.hd,P.sd⟩;rw[cK,aA];unfold fF;refine ae (sl':=[Rs k,Is p]) (st':=st.set a (.lst (rows.set p (.fz (iL ((SX.row S p).map fun x=>- x)))))) ?_ ?_
 ·simp [R.ins,R.line P d,i,cp (show (SX.row S p).length <= 1000 by rw [P.rl d];lia)]
  rw [kr (F:=fun x=>- x) h fun x q=>⟨_,rfl,rfl,by simp⟩];simp [R.ins,cW R.ha (show p < rows.length by rw [R.len,P.ls];exact d)]
 ·have:=f.side o d
  simp[f.ins,this];rw[pT f.hu j];rfl
theorem Jh(R:Rep st k a b c g n u rows S)(P:Om w m S)(A:w<=100)(r:p<m):∃o:Option Nat,bW [.ref k,.int p] st=À (oN o,st)/\(o=Á->∀j,j<w->S.h j∉S.nl->S.t p j=0)/\∀q,o=À q->q<w/\S.h q∉S.nl/\S.t p q≠0:=by
 have t:(bZ S).length<=1000:=by
  unfold bZ;rw[zH]
  have:=Ł (fun z:Nat×Nat=>!decide (z.1∈S.nl)) S.hd.zipIdx
  rw[M!,P.hd]at this;lia
 have inl:∀j,j∈(bZ S).filter (fun j=>!decide (S.t p j=0)) ↔ (j<w/\S.h j∉S.nl)/\S.t p j≠0:=fun j=>by rw[Ĉ,jk P];simp
 have d:∃o:Option Nat,Ba (((bZ S).filter fun j=>!decide (S.t p j=0)).map fun j=>((j:Nat):Int))=oN o/\(o=Á->(bZ S).filter (fun j=>!decide (S.t p j=0))=[])/\∀q,o=À q->q∈(bZ S).filter fun j=>!decide (S.t p j=0):=by
  generalize (bZ S).filter (fun j=>!decide (S.t p j=0))=l;cases l with
  |nil=>exact⟨Á,rfl,fun _=>rfl,fun q h=>nomatch h⟩
  |cons x l =>
   have h:=(DD.minF (l.map fun j=>((j:Nat):Int)) (x:Int)).1;rw[<- zO (f:=fun j:Nat=>((j:Nat):Int))]at h;obtain⟨y,v,e⟩:=yD.mp h;refine⟨À y,?_,(fun z=>nomatch z),fun q z=>by cases z;exact v⟩;show AV.int _=AV.int _;rw[e]
 obtain⟨o,D,I,H⟩:=d;refine⟨o,?_,fun e j i E=>ą fun C=>?_,fun q e=>?_⟩
 ·simp[bW,aA,dS,R.ins,R.line P r,uD R P A,nL,cp t]
  rw [gY (B:=fun j=>!decide (S.t p j=0)) (F:=fun j:Nat=>.int (j:Int)) gq fun j i=>⟨_,rfl,by simp [R.cell P r (show j < w + 1 by have:=(jk P).mp i;lia)],fun _=>rfl⟩];have G:rfs (((bZ S).filter fun j=>!decide (S.t p j=0)).map fun j:Nat=>(AV.int (j:Int)))=Â:=nF;have s:=uQ (l:=(bZ S).filter fun j=>!decide (S.t p j=0));unfold nL at s;simp [G,bM,oq,lsI,s,D]
 ·have d:=(inl j).mpr ⟨⟨i,E⟩,C⟩
  rw[I e]at d;cases d
 ·have:=(inl q).mp (H q e)
  exact⟨this.1.1,this.1.2,this.2⟩
end
section
variable{st:aa}{k a b c g n u w m:Nat}{rows:List AV}{S:Sh}{p:Nat}{v:Nat->Nat->Int}
structure Bnd(w m:Nat)(v:Nat->Nat->Int):Prop where
 ex:∃M:Nat,1<=M/\(∀q x,x<w+1->(v q x).natAbs<=M)/\SX.fct (w+1)*M^(w+1)<2^1900
 hw:w<=100
 hm:m<=1000
theorem Bnd.bd(H:Bnd w m v)(I:MI w m v S):Bd w m S:=by
 obtain⟨M,c,b,a⟩:=H.ex;exact I.bound c b (z? a (Ħ dC dC))
theorem Bnd.bd8(H:Bnd w m v)(I:MI w m v S):S.d.natAbs<2^8900/\∀i,i<m->∀j,j<w+1->(S.t i j).natAbs<2^8900:=by
 obtain⟨M,c,b,a⟩:=H.ex;exact I.bound c b (z? a (Ħ dC dC))
theorem Bnd.bd2(H:Bnd w m v)(I:MI w m v S):S.d.natAbs<2^1900/\∀i,i<m->∀j,j<w+1->(S.t i j).natAbs<2^1900:=by
 obtain⟨M,c,b,a⟩:=H.ex;exact I.bound c b a
def vp(w m:Nat)(v:Nat->Nat->Int)(k b c g n u p:Nat)(e:Sh)(o:Out):Prop:=∃(S:Sh)(a:aa)(h:Nat)(d:List AV),Rep a k h b c g n u d S/\Kept m p e S /\
 ((o=.rt (.bl Â) a/\MI w m v { S with gd:=S.gd++[e.s p] }/\MI w m v { S with nl:=S.nl++[e.s p] }) \/
  (o=.rt (.bl Ä) a/\MI w m v S/\S.s p=e.s p/\S.t p w<0/\∀j,j<w->S.h j∉S.nl->¬0<S.t p j) \/
  ∃f,o=.nx f a/\MI w m v S/\S.s p=e.s p/\0<=e.t p w)
theorem xT(H:Bnd w m v)(R:Rep st k a b c g n u rows S0)(I:MI w m v S0)(j:p<m)(ng:S0.s p∉S0.gd)(W:S0.s p∉S0.nl) :
  ∃o,mE (tv [aG,aF,aU,aI] (.cmp .Lt (.ix (.ix (.fd "Sheet" "lines" (.v 0)) (.v 1)) (.un .USub (.i 1))) (.i 0)))
   (ag [aG,aF,aU,aI] (.cons (.as (.me "Sheet" "raising_column" 0 (.v 0) (.cons (.v 1) .nil)) (.nm 2))
    (.cons (.iff (.cmp .Is (.v 2) .n) (.cons (.rt (.b Ä)) .nil) .nil)
    (.cons (.as (.me "Sheet" "tightest_place" 1 (.v 0) (.cons (.v 2) .nil)) (.nm 3))
    (.cons (.iff (.or (.cmp .Is (.v 3) .n) (.va (.me "Sheet" "is_up_first" 2 (.v 0) (.cons (.v 1) (.cons (.v 3) (.cons (.v 2) .nil)))))) (.cons (.ex (.me "Sheet" "exchange" 3 (.v 0) (.cons (.v 1) (.cons (.v 2) .nil)))) (.cons (.rt (.b Â)) .nil)) .nil)
    (.cons (.ex (.me "Sheet" "exchange" 3 (.v 0) (.cons (.v 3) (.cons (.v 2) .nil)))) .nil)))))) [Rs k,Is p,x,y] st=À o/\vp w m v k b c g n u p S0 o:=by
 refine ug (α:=Sh) (a0:=S0) (I:=fun S U s=>(∃L d x y,U=[Rs k,Is p,x,y]/\Rep s k L b c g n u d S)/\MI w m v S/\Kept m p S0 S/\S.s p=S0.s p/\(S0.t p w<0->S.t p w<0))
  (Q:=fun S T=>MI w m v S/\(∃r q e,SX.Bl w m p (·∈S.gd) (·∈S.nl) r q e (SX.toSt S) (SX.toSt T))/\Kept m p S T) (fun f h0 hf=>SX.no_chain j f hf (by rw[h0];exact ng)) (fun S U s hI=>?_) ⟨⟨a,rows,x,y,rfl,R⟩,I,Kept.refl,rfl,id⟩
 obtain⟨⟨L,d,x,y,rfl,R⟩,I,K,sp,Y⟩:=hI;have B:=H.bd I;have P:=I.shp;have t:S.s p∉S.gd:=by rw[sp,K.gd];exact ng
 have M:S.s p∉S.nl:=by rw[sp,K.nl];exact W
 have C:tv [aG,aF,aU,aI] (.cmp .Lt (.ix (.ix (.fd "Sheet" "lines" (.v 0)) (.v 1)) (.un .USub (.i 1))) (.i 0)) [Rs k,Is p,x,y] s=À (decide (S.t p w<0),s):=by
  simp[R.ins,R.line P j,R.last P j]
 by_cases low:S.t p w<0
 ·rw[yW low]at C
  obtain⟨o,J,F⟩:=rX R P H.hw j;cases o with
  |none =>
   left;refine⟨_,rk (v:=.bl Ä) (st2:=s) C ?_,S,s,L,d,R,K,.inr (.inl ⟨rfl,I,sp,low,F.1 rfl⟩)⟩;simp[R.ins,J,oN]
  |some q =>
   obtain⟨E,_,q3,_⟩:=F.2 q rfl;obtain⟨o,O,D⟩:=uj R P B E;have V:S.d≠0:=by have:=I.lin.pos;lia
   have au:(Oh S w q m Á\/∃r,Oh S w q m (À r)/\S.t p w*S.t r q<=S.t r w*S.t p q)->o=Á\/(∃r,o=À r/\S.t p w*S.t r q<=S.t r w*S.t p q)->∃o,dg (tv [aG,aF,aU,aI] (.cmp .Lt (.ix (.ix (.fd "Sheet" "lines" (.v 0)) (.v 1)) (.un .USub (.i 1))) (.i 0)))
     (ag [aG,aF,aU,aI] (.cons (.as (.me "Sheet" "raising_column" 0 (.v 0) (.cons (.v 1) .nil)) (.nm 2))
    (.cons (.iff (.cmp .Is (.v 2) .n) (.cons (.rt (.b Ä)) .nil) .nil)
    (.cons (.as (.me "Sheet" "tightest_place" 1 (.v 0) (.cons (.v 2) .nil)) (.nm 3))
    (.cons (.iff (.or (.cmp .Is (.v 3) .n) (.va (.me "Sheet" "is_up_first" 2 (.v 0) (.cons (.v 1) (.cons (.v 3) (.cons (.v 2) .nil)))))) (.cons (.ex (.me "Sheet" "exchange" 3 (.v 0) (.cons (.v 1) (.cons (.v 2) .nil)))) (.cons (.rt (.b Â)) .nil)) .nil)
    (.cons (.ex (.me "Sheet" "exchange" 3 (.v 0) (.cons (.v 3) (.cons (.v 2) .nil)))) .nil)))))) 1 [Rs k,Is p,x,y] s=À o/\vp w m v k b c g n u p S0 o:=fun hT Z=>by
    obtain⟨l,a2,i,G,R2⟩:=o6 R P B V H.hw H.hm j E;obtain⟨N,m2,m3⟩:=I.up j t M low F hT;refine⟨_,rk (v:=.bl Â) (st2:=l) C ?_,Oj S p q,l,a2,i,R2,K.trans m3,.inl ⟨rfl,by rw[<- sp];exact N,by rw[<- sp];exact m2⟩⟩;rcases Z with rfl|⟨r,rfl,A⟩
    ·simp[R.ins,J,oN,O,G]
    ·have:=BW R P B j (D.2 r rfl).1 E
     simp[R.ins,J,oN,O,G,this,fA,bQ,dr,A]
   cases o with
   |none=>exact .inl (au (.inl D) (.inl rfl))
   |some r =>
    by_cases A:S.t p w*S.t r q<=S.t r w*S.t p q
    ·exact .inl (au (.inr ⟨r,D,A⟩) (.inr ⟨r,rfl,A⟩))
    ·right
     have r1:=(D.2 r rfl).1;obtain⟨l,a2,i,G,R2⟩:=o6 R P B V H.hw H.hm r1 E;obtain⟨N,m2,m3,X⟩:=I.step j t F D;refine⟨Oj S r q,[Rs k,Is p,Is q,Is r],l,⟨I,⟨r,q,_,m2⟩,m3⟩,⟨⟨a2,i,_,_,rfl,R2⟩,N,K.trans m3,X.trans sp,fun _=>I.low j t F D A⟩,fun n o h=>pD C ?_ h⟩
     have:=BW R P B j r1 E
     simp[R.ins,J,oN,O,G,this,fA,bQ,dr,A]
 ·rw[yA low]at C
  left;exact⟨_,lW C,S,s,L,d,R,K,.inr (.inr ⟨_,rfl,I,sp,by
   rcases yV (S0.t p w) 0 with z|z
   ·exact absurd (Y z) low
   ·exact z⟩)⟩
end
section
variable{st:aa}{k a b c g n u w m:Nat}{rows:List AV}{S:Sh}{p:Nat}{v:Nat->Nat->Int}
theorem xS(H:Bnd w m v)(R:Rep st k a b c g n u rows S0)(I:MI w m v S0)(d:p<m)(ng:S0.s p∉S0.gd)(r:S0.s p∉S0.nl) :
  ∃(S:Sh)(st':aa)(a':Nat)(rows':List AV)(bb:Bool),cG [.ref k,.int p] st=À (.bl bb,st')/\Rep st' k a' b c g n u rows' S/\Kept m p S0 S /\
   ((bb=Â/\MI w m v { S with gd:=S.gd++[S0.s p] }/\(S0.t p w<0->MI w m v { S with nl:=S.nl++[S0.s p] })) \/
    (bb=Ä/\MI w m v S/\S.s p=S0.s p/\S.t p w<0/\∀j,j<w->S.h j∉S.nl->¬0<S.t p j)):=by
 by_cases low:S0.t p w<0
 ·obtain⟨o,e,S,st',a',rows',q,K,h⟩:=xT H R I d ng r (x:=Á) (y:=Á)
  rcases h with⟨rfl,i,f⟩|⟨rfl,i,f,l,s⟩|⟨t,rfl,i,f,l⟩
  ·refine⟨S,st',a',rows',Â,?_,q,K,.inl ⟨rfl,i,fun _=>f⟩⟩
   simp[cG,aA,fc,e]
  ·refine⟨S,st',a',rows',Ä,?_,q,K,.inr ⟨rfl,i,f,l,s⟩⟩
   simp[cG,aA,fc,e]
  ·lia
 ·refine⟨S0,st,a,rows,Â,?_,R,Kept.refl,.inl ⟨rfl,I.guard d oM,fun z=>absurd z low⟩⟩
  have P:=I.shp;rw[cG,aA];unfold fc;refine ae (sl':=[Rs k,Is p,Á,Á]) (st':=st) (n9 (n:=1) (lW (by simp[R.ins,R.line P d,R.last P d,low]))) ?_;simp
theorem EB(H:Bnd w m v)(R:Rep st k a b c g n u rows S0)(I:MI w m v S0)(l:p<m)(ng:S0.s p∉S0.gd) :
  ∃r,bH [.ref k,.int p] st=À r/\∃(S:Sh)(a':Nat)(rows':List AV),Rep r.2 k a' b c g n u rows' S/\Kept m p S0 S/\MI w m v S/\S.s p=S0.s p /\
   ((r.1=.non/\Rais w S p Á)\/∃q,r.1=.int ((q:Nat):Int)/\Rais w S p (À q)/\Oh S w q m Á):=by
 rw[bH];simp only[aA];unfold f7;obtain⟨o,U,i⟩:=rX R I.shp H.hw l;refine ai (sl':=[Rs k,Is p,À (oN o),Á]) (st':=st) (by simp[R.ins,U]) ?_;refine Fv (Post:=fun out=>∃(S:Sh)(a':Nat)(rows':List AV)(st':aa),Rep st' k a' b c g n u rows' S/\Kept m p S0 S/\MI w m v S/\S.s p=S0.s p /\
   ((∃j,out=.nx j st'/\Rais w S p Á)\/∃q,out=.rt (.int ((q:Nat):Int)) st'/\Rais w S p (À q)/\Oh S w q m Á))
  (ug (α:=Sh) (a0:=S0) (I:=fun S j s=>(∃a' rows' x o,j=[Rs k,Is p,À (oN o),x]/\Rep s k a' b c g n u rows' S/\Rais w S p o)/\MI w m v S/\Kept m p S0 S/\S.s p=S0.s p)
   (Q:=fun S T=>MI w m v S/\(∃r q e,SX.Bl w m p (·∈S.gd) (·∈S.nl) r q e (SX.toSt S) (SX.toSt T))/\Kept m p S T) (fun f M G=>SX.no_chain l f G (by rw[M];exact ng)) (fun S j s J=>?_) ⟨⟨a,rows,Á,o,rfl,R,i⟩,I,Kept.refl,rfl⟩) ?_
 ·obtain⟨⟨a',rows',x,o,rfl,R,i⟩,I,K,sp⟩:=J
  have B:=H.bd I;have P:=I.shp;have t:S.s p∉S.gd:=by rw[sp,K.gd];exact ng
  cases o with
  |none =>
   left;exact⟨_,lW (st':=s) (by simp[oN]),S,a',rows',s,R,K,I,sp,.inl ⟨_,rfl,i⟩⟩
  |some q =>
   obtain⟨z,_,W,_⟩:=i.2 q rfl;obtain⟨o,C,y⟩:=uj R P B z;cases o with
   |none =>
    left;refine⟨_,rk (v:=.int q) (st':=s) (st2:=s) (by simp[oN]) ?_,S,a',rows',s,R,K,I,sp,.inr ⟨q,rfl,i,y⟩⟩;simp[R.ins,oN,C]
   |some r =>
    right;have V:S.d≠0:=by have:=I.lin.pos;lia
    have r1:=(y.2 r rfl).1;obtain⟨st',a2,d,O,R2⟩:=o6 R P B V H.hw H.hm r1 z;obtain⟨A,m2,m3,F⟩:=I.step l t i y;obtain⟨o,N,L⟩:=rX R2 A.shp H.hw l;refine⟨Oj S r q,[Rs k,Is p,À (oN o),Is r],st',⟨I,⟨r,q,_,m2⟩,m3⟩,⟨⟨a2,d,_,o,rfl,R2,L⟩,A,K.trans m3,F.trans sp⟩,fun n X h=>pD (st':=s) (by simp[oN]) ?_ h⟩;simp[R.ins,oN,C,O,R2.ins,N]
 ·rintro out ⟨S,a',rows',st',D,K,E,sp,⟨j,rfl,h⟩|⟨q,rfl,h⟩⟩
  ·exact⟨(.non,st'),by simp,S,a',rows',D,K,E,sp,.inl ⟨rfl,h⟩⟩
  ·exact⟨(.int q,st'),by simp,S,a',rows',D,K,E,sp,.inr ⟨q,rfl,h⟩⟩
end
structure Kj(m p:Nat)(S T:Sh):Prop where
 tn:T.tn=S.tn\/T.tn=S.tn++[S.s p]
 si:∀i,i<m->i≠p->S.s i∉S.gd->T.s i=S.s i
section
variable{st:aa}{k a b c g n u w m:Nat}{rows:List AV}{S:Sh}{p:Nat}{v:Nat->Nat->Int}
theorem Jr(H:Bnd w m v)(R:Rep st k a b c g n u rows S0)(I:MI w m v S0)(i:p<m)(ng:S0.s p∉S0.gd)(s:S0.s p∉S0.nl)(t:S0.gd.length<=1000) :
  ∃(S:Sh)(st':aa)(a':Nat)(rows':List AV)(bb:Bool),bK [.ref k,.int p] st=À (.bl bb,st')/\Rep st' k a' b c g n u rows' S/\Kj m p S0 S/\S.tn=S0.tn/\S.nl=S0.nl/\MI w m v S /\
   ((bb=Â/\S.gd=S0.gd++[S0.s p])\/(bb=Ä/\S.gd=S0.gd/\S.s p=S0.s p/\S.t p w<0/\∀j,j<w->S.h j∉S.nl->¬0<S.t p j)):=by
 have P:=I.shp;obtain⟨S,f,a1,d,bb,r,o,K,h⟩:=xS H R I i ng s;rcases h with⟨rfl,l,_⟩|⟨rfl,l,x⟩
 ·obtain⟨e,z,R2⟩:=u6 (q:=S0.s p) o (by rw[K.gd];exact t)
  have y:ins S.gd (S0.s p)=S.gd++[S0.s p]:=yH (by rw[K.gd];exact ng);rw[y]at R2;refine⟨{ S with gd:=S.gd++[S0.s p] },e,a1,d,Â,?_,R2,⟨.inl K.tn,K.si⟩,K.tn,K.nl,l,.inl ⟨rfl,by rw[K.gd]⟩⟩;simp[bK,aA,fu,R.ins,R.side P i,r,fA,bQ,dr,o.ins,z]
 ·refine⟨S,f,a1,d,Ä,?_,o,⟨.inl K.tn,K.si⟩,K.tn,K.nl,l,.inr ⟨rfl,K.gd,x⟩⟩
  simp[bK,aA,fu,R.ins,R.side P i,r,fA,bQ,dr]
theorem Js(H:Bnd w m v)(R:Rep st k a b c g n u rows S0)(I:MI w m v S0)(f:p<m)(ng:S0.s p∉S0.gd)(J:S0.s p∉S0.nl)(nt:S0.s p∉S0.tn)(Y:S0.nl.length<=1000)(X:S0.tn.length<=1000) :
  ∃(S:Sh)(st':aa)(a':Nat)(rows':List AV)(bb:Bool),cE [.ref k,.int p] st=À (.bl bb,st')/\Rep st' k a' b c g n u rows' S/\Kj m p S0 S/\S.gd=S0.gd/\MI w m v S /\
   ((bb=Â/\S.nl=S0.nl++[S0.s p])\/(bb=Ä/\S.nl=S0.nl/\S.s p=S0.s p/\S.t p w<0/\∀j,j<w->S.h j∉S.nl->¬0<S.t p j)):=by
 have P:=I.shp
 have s1:∃(d:Sh)(t:aa)(e:List AV),cP [cK,cG,bW,aI,d4] (.iff (.cmp .Gt (.ix (.ix (.fd "Sheet" "lines" (.v 0)) (.v 1)) (.un .USub (.i 1))) (.i 0)) (.cons (.ex (.me "Sheet" "turn_line" 0 (.v 0) (.cons (.v 1) .nil))) .nil) .nil) [Rs k,Is p,Is (S0.s p:Int),Á] st=À (.nx [Rs k,Is p,Is (S0.s p:Int),Á] t) /\
   Rep t k a b c g n u e d/\MI w m v d/\d.gd=S0.gd/\d.nl=S0.nl/\(d.tn=S0.tn\/d.tn=S0.tn++[S0.s p])/\d.sd=S0.sd/\d.t p w<=0:=by
  by_cases h:0<S0.t p w
  ·obtain⟨t,e,Z,s⟩:=EV R P H.hw f X
   refine⟨SX.trn S0 p,t,e,?_,s,I.turn f ng J nt,rfl,rfl,.inr (yH nt),rfl,?_⟩
   ·simp[R.ins,R.line P f,R.last P f,h,Z]
   ·rw[(SX.trn_t P f).1 w oM];lia
  ·refine⟨S0,st,rows,?_,R,I,rfl,rfl,.inl rfl,rfl,by lia⟩
   simp[R.ins,R.line P f,R.last P f,h]
 refine g_ fun G bk=>?_
 obtain⟨d,t,e,Z,s,E,g1,y,t1,d1,low1⟩:=s1;have B:∀i,d.s i=S0.s i:=fun i=>by show d.sd.getD i 0=S0.sd.getD i 0;rw[d1]
 have z:=E.shp;have V:d.s p∉d.nl:=by rw[B,y];exact J
 have W:d.s p∉d.gd:=by rw[B,g1];exact ng
 have D:∀T:Sh,Kept m p d T->Kj m p S0 T:=fun T K=>⟨by rw[K.tn];exact t1,fun i hi ne h=>by rw[K.si i hi ne (by rw[B,g1];exact h),B]⟩
 have hd:∀{r:AV×aa},(ag [cK,cG,bW,aI,d4] (.cons (.iff (.cmp .Lt (.ix (.ix (.fd "Sheet" "lines" (.v 0)) (.v 1)) (.un .USub (.i 1))) (.i 0)) (.cons (.iff (.no (.va (.me "Sheet" "lift" 1 (.v 0) (.cons (.v 1) .nil)))) (.cons (.rt (.b Ä)) .nil) .nil) .nil)
   (.cons (.as (.me "Sheet" "moving_column" 2 (.v 0) (.cons (.v 1) .nil)) (.nm 3)) (.cons (.iff (.cmp .IsNot (.v 3) .n) (.cons (.ex (.me "Sheet" "exchange" 3 (.v 0) (.cons (.v 1) (.cons (.v 3) .nil)))) .nil) .nil) .nil)))
   (.cons (.ex (.me "Sheet" "nail" 4 (.v 0) (.cons (.v 2) .nil))) (.cons (.rt (.b Â)) .nil))) [Rs k,Is p,Is (S0.s p:Int),Á] t).bind au=À r->cE [.ref k,.int p] st=À r:=fun h=>by
  rw[cE,aA];unfold jH;exact ae (sl':=[Rs k,Is p,Is (S0.s p:Int),Á]) (st':=st) (by simp[R.ins,R.side P f]) (ae Z h)
 by_cases low:d.t p w<0
 ·obtain⟨S,F,a2,l,bb,O,R2,K,h⟩:=xS H s E f W V
  rcases h with⟨rfl,U,A⟩|⟨rfl,U,A⟩
  ·obtain⟨x,N,C⟩:=sf (q:=S0.s p) R2 (by rw[K.nl,y];exact Y)
   have M:ins S.nl (S0.s p)=S.nl++[S0.s p]:=yH (by rw[K.nl,y];exact J);rw[M]at C;have A:=A low;rw[B]at A;refine bk ⟨{ S with nl:=S.nl++[S0.s p] },x,a2,l,Â,hd ?_,C,⟨(D S K).tn,(D S K).si⟩,K.gd.trans g1,A,.inl ⟨rfl,by rw[K.nl,y]⟩⟩;simp[s.ins,s.line z f,s.last z f,low,O,fA,bQ,dr,R2.ins,N]
  ·refine bk ⟨S,F,a2,l,Ä,hd ?_,R2,D S K,K.gd.trans g1,U,.inr ⟨rfl,K.nl.trans y,A.1.trans (B p),A.2⟩⟩
   simp[s.ins,s.line z f,s.last z f,low,O,fA,bQ,dr]
 ·have Q:d.t p w=0:=by lia
  obtain⟨o,O,U,A⟩:=Jh s z H.hw f;cases o with
  |none =>
   obtain⟨x,N,C⟩:=sf (q:=S0.s p) s (by rw[y];exact Y);have M:ins d.nl (S0.s p)=d.nl++[S0.s p]:=yH (by rw[y];exact J);rw[M]at C;have L:=E.nail f Q (U rfl);rw[B]at L;refine bk ⟨{ d with nl:=d.nl++[S0.s p] },x,a,e,Â,hd ?_,C,⟨(D d Kept.refl).tn,(D d Kept.refl).si⟩,g1,L,.inl ⟨rfl,by rw[y]⟩⟩;simp[s.ins,s.line z f,s.last z f,Q,O,oN,N]
  |some q =>
   obtain⟨q1,q2,q3⟩:=A q rfl;have d0:d.d≠0:=by have:=E.lin.pos;lia
   obtain⟨F,a2,l,e4,R2⟩:=o6 s z (H.bd E) d0 H.hw H.hm f q1;obtain⟨x,N,C⟩:=sf (q:=S0.s p) R2 (by show d.nl.length<=1000;rw[y];exact Y);have M:ins (Oj d p q).nl (S0.s p)=d.nl++[S0.s p]:=yH (by show S0.s p∉d.nl;rw[y];exact J);rw[M]at C;obtain⟨L,K⟩:=E.move f q1 q2 Q q3;rw[B]at L;refine bk ⟨{ Oj d p q with nl:=d.nl++[S0.s p] },x,a2,l,Â,hd ?_,C,⟨(D _ K).tn,(D _ K).si⟩,g1,L,.inl ⟨rfl,by rw[y]⟩⟩;simp[s.ins,s.line z f,s.last z f,Q,O,oN,e4,R2.ins,N]
end
open SX (openS)
structure Gv where
 row:List Int
 eq:Bool
 num:Int
def Gv.av(x:Gv):AV:=.tup [.fz (iL x.row),.str (if x.eq then "=" else ">"),.int x.num]
def ar(RR:List (List Int))(gv:List Gv)(goal:List Int):List (List Int):=RR.map (·++[0])++gv.map (fun x=>x.row++[-x.num])++[goal.map (fun x=>- x)++[0]]
section
variable{w:Nat}{L RR:List (List Int)}{gv:List Gv}{goal:List Int}
abbrev qw:List (Ì×AV):=[("below",.int 1)]
abbrev HF:List (Ì×AV):=[("below",.int 1),("lines",.ref 2)]
abbrev HE:List (Ì×AV):=[("below",.int 1),("lines",.ref 2),("heads",.ref 3)]
abbrev HD:List (Ì×AV):=[("below",.int 1),("lines",.ref 2),("heads",.ref 3),("sides",.ref 4)]
abbrev HC:List (Ì×AV):=[("below",.int 1),("lines",.ref 2),("heads",.ref 3),("sides",.ref 4),("guarded",.ref 5)]
abbrev HB:List (Ì×AV):=[("below",.int 1),("lines",.ref 2),("heads",.ref 3),("sides",.ref 4),("guarded",.ref 5),("nailed",.ref 6)]
abbrev ME(w:Nat)(L:List (List Int)):aa:=[.lst (aB L),.ins "Sheet" (cV 1 2 3 4 5 6 7),.lst (aB L),.lst (nL (Æ w)),.lst (nL ((Æ L.length).map (w+·))),.dK [],.dK [],.dK []]
theorem Hf(i:w<=100)(m:L.length<=400):aE [.ref 1,.int w,.ref 0] [.lst (aB L),.ins "Sheet" []]=À (.non,[.lst (aB L),.ins "Sheet" (cV 1 2 3 4 5 6 7),.lst (aB L),.lst (nL (Æ w)),.lst (nL ((Æ L.length).map (w+·))),.dK [],.dK [],.dK []]):=by
 have b:qd (w:Int)=Â:=by unfold qd;simp;lia
 have a:qd ((w:Int)+(L.length:Int))=Â:=by unfold qd;simp;lia
 have c:∀X:aa,bQ (.lst (aB L)::X) (.ref 0)=À (aB L):=fun X=>bC rfl
 rw[aE,aA];unfold f9;refine ae (st':=[.lst (aB L),.ins "Sheet" qw]) (iF (v:=.int 1) (st':=[.lst (aB L),.ins "Sheet" []]) (k:=1) (fs:=[]) rfl rfl rfl rfl) ?_;refine ae (st':=[.lst (aB L),.ins "Sheet" HF,.lst (aB L)]) (iF (v:=.ref 2) (st':=[.lst (aB L),.ins "Sheet" qw,.lst (aB L)]) (k:=1) (fs:=qw) ?_ rfl rfl rfl) ?_
 ·have e:=wo (gd:=[(0,.lst (aB L))]) (g:=b8 [] (.nm 3)) (t:=ju [] .no) (f:=ev [] (.nw Ä (.lof (.v 3)))) (sl:=[Rs 1,Is w,Rs 0,Á]) (st:=[.lst (aB L),.ins "Sheet" qw]) (em:=fun l=>.fz (iL l)) (F:=fun l=>l) (xs:=L) (fq rfl) fun l j=>⟨_,rfl,rfl,by simp[pQ]⟩
  rw [List.map_id'] at e;have h:ii [(0,.lst (aB L))] (b8 [] (.nm 3)) (ju [] .no) (ev [] (.nw Ä (.lof (.v 3)))) [Rs 1,Is w,Rs 0,Á] (aB L) [.lst (aB L),.ins "Sheet" qw]=À (aB L,[.lst (aB L),.ins "Sheet" qw]):=e;have d:oA [.lst (aB L),.ins "Sheet" qw] (.ref 0)=À ⟨aB L,[(0,.lst (aB L))]⟩:=pU rfl;show ev [] (.nw Â (.lc 1 (.e (.v 2)) (.nm 3) .no (.nw Ä (.lof (.v 3))))) [Rs 1,Is w,Rs 0] [.lst (aB L),.ins "Sheet" qw]=_;simp [-aB,d,cp (show L.length <= 1000 by lia),h]
 refine ae (st':=[.lst (aB L),.ins "Sheet" HE,.lst (aB L),.lst (nL (Æ w))]) (iF (v:=.ref 3) (st':=[.lst (aB L),.ins "Sheet" HF,.lst (aB L),.lst (nL (Æ w))]) (k:=1) (fs:=HF) ?_ rfl rfl rfl) ?_
 ·simp[wa,b,oe]
 refine ae (st':=[.lst (aB L),.ins "Sheet" HD,.lst (aB L),.lst (nL (Æ w)),.lst (nL ((Æ L.length).map (w+·)))]) (iF (v:=.ref 4) (st':=[.lst (aB L),.ins "Sheet" HE,.lst (aB L),.lst (nL (Æ w)),.lst (nL ((Æ L.length).map (w+·)))]) (k:=1) (fs:=HE) ?_ rfl rfl rfl) ?_
 ·simp[v8,b,a,bM,eV,c]
  have e:((w:Int)+(L.length:Int)).toNat-w=L.length:=by lia
  rw[e,IA,yI oM];simp
 refine ae (st':=[.lst (aB L),.ins "Sheet" HC,.lst (aB L),.lst (nL (Æ w)),.lst (nL ((Æ L.length).map (w+·))),.dK []]) (iF (v:=.ref 5) (st':=[.lst (aB L),.ins "Sheet" HD,.lst (aB L),.lst (nL (Æ w)),.lst (nL ((Æ L.length).map (w+·))),.dK []]) (k:=1) (fs:=HD) rfl rfl rfl rfl) ?_;refine ae (st':=[.lst (aB L),.ins "Sheet" HB,.lst (aB L),.lst (nL (Æ w)),.lst (nL ((Æ L.length).map (w+·))),.dK [],.dK []]) (iF (v:=.ref 6) (st':=[.lst (aB L),.ins "Sheet" HC,.lst (aB L),.lst (nL (Æ w)),.lst (nL ((Æ L.length).map (w+·))),.dK [],.dK []]) (k:=1) (fs:=HC) rfl rfl rfl rfl) ?_;refine ae (st':=[.lst (aB L),.ins "Sheet" (cV 1 2 3 4 5 6 7),.lst (aB L),.lst (nL (Æ w)),.lst (nL ((Æ L.length).map (w+·))),.dK [],.dK [],.dK []]) (iF (v:=.ref 7) (st':=[.lst (aB L),.ins "Sheet" HB,.lst (aB L),.lst (nL (Æ w)),.lst (nL ((Æ L.length).map (w+·))),.dK [],.dK [],.dK []]) (k:=1) (fs:=HB) rfl rfl rfl rfl) ?_;rfl
theorem JK{k:Nat}(g:ev ks a sl st=À (.ref k,st))(f:ev ks e sl st=À (y,st))(b:st[k]?=À (.lst xs))(d:bQ st y=À ys)(c:xs.length+ys.length<=1000):ev ks (.mt .ext a (.cons e .nil)) sl st=À (.non,st.set k (.lst (xs++ys))):=by
 simp[nk,sC,sB,g,rF,bC b,f,wl,g9,b,d,cp c]
theorem CL{k:Nat}(f:ev ks a sl st=À (.ref k,st))(d:ev ks e sl st=À (y,st))(b:st[k]?=À (.lst xs))(c:xs.length<=1000):ev ks (.mt .app a (.cons e .nil)) sl st=À (.non,st.set k (.lst (xs++[y]))):=by
 simp[nk,sC,sB,f,rF,bC b,d,sF,g9,b,cp c]
theorem Gx{n:Int}(P:∀st,pm aN [.int n] st=À (.fz (aB RR),st))(B:∀st,pm aj [.int n] st=À (.int w,st))(Q:w<=15)(T:RR.length<=100)(H:∀l∈RR,l.length=w)(S:gv.length<=100)(d:∀x∈gv,x.row.length=w)(j:goal.length=w) :
  ∃st',bU [.int n,.fz (gv.map Gv.av),.fz (iL goal)] []=À (.ref 1,st')/\Rep st' 1 2 3 4 5 6 7 (aB (ar RR gv goal)) (openS w (ar RR gv goal) (w+RR.length)):=by
 have U:(ar RR gv goal).length=RR.length+gv.length+1:=by simp[ar];lia
 have O:Rep [.lst (aB (ar RR gv goal)),.ins "Sheet" (cV 1 2 3 4 5 6 7),.lst (aB (ar RR gv goal)),.lst (nL (Æ w)),.lst (nL ((Æ (ar RR gv goal).length).map (w+·))),.dK [],.dK [],.dK []] 1 2 3 4 5 6 7 (aB (ar RR gv goal)) (openS w (ar RR gv goal) 0):=by
  refine⟨rfl,rfl,rfl,rfl,rfl,rfl,rfl,by simp[openS],fun i x h=>.inl ?_,by decide,by decide,by decide,by decide,by decide,by decide,fun i r h=>?_⟩
  ·unfold aB at h
   rw[zR]at h;obtain⟨l,u,rfl⟩:=zE.mp h;show _=AV.fz (iL ((ar RR gv goal).getD i []));rw[zD,u];rfl
  ·unfold aB at h
   rw[zR]at h;obtain⟨l,u,m⟩:=zE.mp h;cases m
 obtain⟨sl',st',e,x,rfl,A⟩:=eC (gd:=[]) (g:=b8 [aN,aj,aE,aL] (.nm 6)) (s:=ag [aN,aj,aE,aL] (.cons (.ex (.me "Sheet" "guard" 3 (.v 5) (.cons (.v 6) .nil))) .nil))
  (I:=fun i sl s=>∃x,sl=[Is n,Zs (gv.map Gv.av),Ls goal,Rs 0,Is ((w:Int)+(RR.length:Int)),Rs 1,x]/\Rep s 1 2 3 4 5 6 7 (aB (ar RR gv goal)) (openS w (ar RR gv goal) i)) (xs:=cZ 0 (w+RR.length)) (fun _ _ _ _ _=>rfl)
  (fun i y sl s a K=>by
   obtain⟨x,rfl,R⟩:=K;rw[oe]at a;have p:i<w+RR.length:=by have:=(zB.mp a).1;simpa using this
   have M:y=.int ((i:Nat):Int):=by
    rw[gV (by simpa using p)]at a;injection a with a;rw[<- a];simp[zD,p]
   subst M;obtain⟨C,N,z⟩:=u6 (q:=i) R (by simp[openS];lia);refine⟨_,[Is n,Zs (gv.map Gv.av),Ls goal,Rs 0,Is ((w:Int)+(RR.length:Int)),Rs 1,Is ((i:Nat):Int)],C,rfl,?_,_,rfl,?_⟩
   ·simp[R.ins,N]
   ·have:ins (Æ i) i=Æ (i+1):=by unfold ins;rw[yH (by simp),S3]
    have m:{ openS w (ar RR gv goal) i with gd:=ins (openS w (ar RR gv goal) i).gd i }=openS w (ar RR gv goal) (i+1):=by show Sh.mk _ _ _ _ (ins (Æ i) i) _ _=_;rw[this];rfl
    rw[m]at z;exact z) (sl:=[Is n,Zs (gv.map Gv.av),Ls goal,Rs 0,Is ((w:Int)+(RR.length:Int)),Rs 1,Á]) (st:=_) ⟨Á,rfl,O⟩
 have E:(cZ 0 (w+RR.length)).length=w+RR.length:=by rw[oe];simp
 rw[E]at A;refine⟨st',?_,A⟩;rw[bU,aA];unfold gJ;refine ae (sl':=[Is n,Zs (gv.map Gv.av),Ls goal,Rs 0,Á,Á,Á]) (st':=[.lst (aB (RR.map (·++[0])))]) ?_ ?_
 ·have c:=wo (gd:=[]) (g:=b8 [aN,aj,aE,aL] (.nm 7)) (t:=ju [aN,aj,aE,aL] .no) (f:=ev [aN,aj,aE,aL] (.nw Ä (.cat (.v 7) (.nw Ä (.li (.cons (.i 0) .nil))))))
   (sl:=[Is n,Zs (gv.map Gv.av),Ls goal,Á,Á,Á,Á,Á]) (st:=[]) (em:=fun l=>.fz (iL l)) (F:=fun l=>l++[0]) (xs:=RR) rfl fun l J=>⟨_,rfl,rfl,by
    rw[gz,jZ (l:=l) (l':=[0]) (s1:=[]) (s2:=[]) (y:=.fz (iL [0])) rfl (by simp[cw,iL]) rfl rfl (by rw[H l J];simp;lia)];simp⟩
  have b:ii [] (b8 [aN,aj,aE,aL] (.nm 7)) (ju [aN,aj,aE,aL] .no) (ev [aN,aj,aE,aL] (.nw Ä (.cat (.v 7) (.nw Ä (.li (.cons (.i 0) .nil)))))) [Is n,Zs (gv.map Gv.av),Ls goal,Á,Á,Á,Á,Á] (aB RR) []=À (aB (RR.map (·++[0])),[]):=c;simp [P,cp (show RR.length <= 1000 by lia),b]
 have G:∀(x:List AV)(X:aa),bQ (.lst x::X) (.ref 0)=À x:=fun x X=>bC rfl
 refine ae (sl':=[Is n,Zs (gv.map Gv.av),Ls goal,Rs 0,Is ((w:Int)+(RR.length:Int)),Á,Á]) (st':=[.lst (aB (RR.map (·++[0])))]) (by simp[B,bM,eV,G]) ?_;refine ae (sl':=[Is n,Zs (gv.map Gv.av),Ls goal,Rs 0,Is ((w:Int)+(RR.length:Int)),Á,Á]) (st':=[.lst (aB (RR.map (·++[0]))++aB (gv.map fun x=>x.row++[-x.num]))]) ?_ ?_
 ·rw[Aw,JK (k:=0) (xs:=aB (RR.map (·++[0]))) (ys:=aB (gv.map fun x=>x.row++[-x.num])) (y:=.fz (aB (gv.map fun x=>x.row++[-x.num]))) rfl ?_ rfl rfl (by simp;lia)]
  ·rfl
  ·have c:=wo (gd:=[]) (g:=b8 [aN,aj,aE,aL] (.tu 3 (.cons (.nm 7) (.cons (.nm 8) (.cons (.nm 9) .nil))))) (t:=ju [aN,aj,aE,aL] .no) (f:=ev [aN,aj,aE,aL] (.nw Ä (.cat (.nw Ä (.lof (.v 7))) (.nw Ä (.li (.cons (.un .USub (.v 9)) .nil))))))
    (sl:=[Is n,Zs (gv.map Gv.av),Ls goal,Rs 0,Is ((w:Int)+(RR.length:Int)),Á,Á,Á,Á,Á]) (st:=[.lst (aB (RR.map (·++[0])))]) (em:=Gv.av) (F:=fun x=>x.row++[-x.num]) (xs:=gv) rfl fun x o=>⟨_,rfl,rfl,by
     rw[gz,jZ (l:=x.row) (l':=[-x.num]) (s1:=[.lst (aB (RR.map (·++[0])))]) (s2:=[.lst (aB (RR.map (·++[0])))]) (x:=.fz (iL x.row)) (y:=.fz (iL [-x.num])) (by simp[pQ]) (by simp[cw,iL]) rfl rfl (by rw[d x o];simp;lia)];simp⟩
   simp [cp (show gv.length <= 1000 by lia),c]
 refine ae (sl':=[Is n,Zs (gv.map Gv.av),Ls goal,Rs 0,Is ((w:Int)+(RR.length:Int)),Á,Á]) (st':=[.lst (aB (ar RR gv goal))]) ?_ ?_
 ·rw[Aw,CL (k:=0) (xs:=aB (RR.map (·++[0]))++aB (gv.map fun x=>x.row++[-x.num])) (y:=.fz (iL (goal.map (fun x=>- x)++[0]))) rfl ?_ rfl (by simp;lia)]
  ·rw[Ã]
   have:aB (RR.map (·++[0]))++aB (gv.map fun x=>x.row++[-x.num])++[AV.fz (iL (goal.map (fun x=>- x)++[0]))]=aB (ar RR gv goal):=by
    simp[ar,aB]
   show À (Out.nx _ [.lst (_++[_])])=_;rw[this]
  ·rw[gz,jZ (l:=goal.map fun x=>- x) (l':=[0]) (s1:=[.lst (aB (RR.map (·++[0]))++aB (gv.map fun x=>x.row++[-x.num]))]) (s2:=[.lst (aB (RR.map (·++[0]))++aB (gv.map fun x=>x.row++[-x.num]))]) (x:=.fz (iL (goal.map fun x=>- x))) (y:=.fz (iL [0])) ?_ (by simp[cw,iL]) rfl rfl (by simp[j];lia)]
   ·simp
   ·simp [cp (show goal.length <= 1000 by lia)]
    rw[kr (F:=fun x=>- x) gq fun x o=>⟨_,rfl,rfl,by simp⟩];simp
 refine ae (sl':=[Is n,Zs (gv.map Gv.av),Ls goal,Rs 0,Is ((w:Int)+(RR.length:Int)),Rs 1,Á]) (st':=ME w (ar RR gv goal)) ?_ ?_
 ·have:=Hf (w:=w) (L:=ar RR gv goal) oM oM
  simp[zr,B,this]
 ·refine ae (sl':=[Is n,Zs (gv.map Gv.av),Ls goal,Rs 0,Is ((w:Int)+(RR.length:Int)),Rs 1,x]) (st':=st') ?_ (by simp)
  have D:fU ((w:Int)+(RR.length:Int))=Â:=by
   unfold fU;refine yL ?_;have:((w:Int)+(RR.length:Int)).natAbs=w+RR.length:=by lia
   rw[this];by_cases v:w+RR.length=0
   ·rw[v];decide
   ·exact yZ ((Ą v).mpr oM)
  simp[yn,D];rw[show((w:Int)+(RR.length:Int)).toNat=w+RR.length by lia];exact e
end
noncomputable def gL(l:List Int):Nat:=l.foldl (fun g x=>Ā g x.natAbs) 0
def ax(l:List Int):List Int:=if gL l=0 then l else l.map fun x=>x/(gL l:Int)
theorem Bz{d o:Nat}:Ā o (d%o)=Ā d o:=by rw[W3,<- Nat.gcd_rec,W3]
theorem MY:∀(o d:Nat)(y:Option AV),∃y',cP [] (.wh (.cmp .NotEq (.v 3) (.i 0)) (.cons (.as (.bin .Mod (.v 1) (.v 3)) (.nm 4)) (.cons (.as (.v 3) (.nm 1)) (.cons (.as (.v 4) (.nm 3)) .nil)))) [l,Is d,x,Is o,y] st=À (.nx [l,Is (Ā d o:Nat),x,Is 0,y'] st):=by
 intro o
 induction o using Nat.strongRecOn with
 |_ o ih =>
  intro d y;by_cases h:o=0
  ·subst h
   refine⟨y,?_⟩;rw[Nat.gcd_zero_right];exact n9 (n:=1) (lW (by simp))
  ·obtain⟨y',e⟩:=ih (d%o) (Nat.mod_lt _ oM) o (À (.int ((d%o:Nat):Int)))
   obtain⟨n,a⟩:=xI e;refine⟨y',?_⟩;rw[Bz]at a;refine n9 (n:=n+1) (pD (st':=st) (by simp;lia) ?_ a);have c:(o:Int)≠0:=by lia
   have b:qv (d:Int) (o:Int)=((d%o:Nat):Int):=by unfold qv;rw[yI oM];simp
   simp[iM c,b]
theorem yw:gL (a++b)=b.foldl (fun g x=>Ā g x.natAbs) (gL a):=by unfold gL;rw[List.foldl_append]
theorem td:∀b:List Int,b.foldl (fun g x=>Ā g x.natAbs) 1=1
 |[]=>rfl
 |x::b=>by rw[Ō,Nat.gcd_one_left];exact td b
theorem L9:∃r,cO [.fz (iL l)] st=À (r,st)/\r=.int (gL l:Int):=by
 have o:=mj (gd:=[]) (g:=b8 [] (.nm 2)) (s:=ag [] (.cons (.as (.bi .abs (.cons (.v 2) .nil)) (.nm 3)) (.cons (.wh (.cmp .NotEq (.v 3) (.i 0)) (.cons (.as (.bin .Mod (.v 1) (.v 3)) (.nm 4)) (.cons (.as (.v 3) (.nm 1)) (.cons (.as (.v 4) (.nm 3)) .nil)))) (.cons (.iff (.cmp .Eq (.v 1) (.i 1)) (.cons (.rt (.i 1)) .nil) .nil) .nil))))
  (I:=fun i sl s=>s=st/\∃x y z,sl=[Ls l,Is (gL (l.take i):Nat),x,y,z]) (Post:=fun v s=>s=st/\v=.int (gL l:Nat)) (xs:=iL l) (fun _ _ _ _ _=>rfl)
  (fun i x sl s b q=>by
   obtain⟨rfl,u,k,c,rfl⟩:=q;have f:i<l.length:=by have:=(zB.mp b).1;simpa using this
   rw[ci f]at b;injection b with b;subst b;have n:l.take (i+1)=l.take i++[gI l i]:=by
    rw[S9,zF f];unfold gI;rw[zD,zF f];rfl
   have p:gL (l.take (i+1))=Ā (gL (l.take i)) (gI l i).natAbs:=by rw[n,yw];rfl
   obtain⟨j,e⟩:=MY (l:=À (.fz (iL l))) (x:=À (.int (gI l i))) (st:=s) (gI l i).natAbs (gL (l.take i)) c;rw[<- p]at e;have t:tT s [.int (gI l i)]=À (.int ((gI l i).natAbs:Nat)):=by
    show À (AV.int (if gI l i<0 then-gI l i else gI l i))=_;congr 2;split<;>lia
   have a:cP [] (.as (.bi .abs (.cons (.v 2) .nil)) (.nm 3)) [Ls l,Is (gL (l.take i):Nat),Is (gI l i),k,c] s=À (.nx [Ls l,Is (gL (l.take i):Nat),Is (gI l i),Is ((gI l i).natAbs:Nat),c] s):=by
    simp[bM,t]
   by_cases h:gL (l.take (i+1))=1
   ·refine⟨_,.rt (.int 1) s,rfl,aq a (aq e ?_),.inr ⟨_,s,rfl,rfl,?_⟩⟩
    ·simp[h]
    ·have:gL l=1:=by
      have:l=l.take (i+1)++l.drop (i+1):=(List.take_append_drop _ _).symm;rw[this,yw,h,td]
     rw[this];rfl
   ·refine⟨_,.nx [Ls l,Is (gL (l.take (i+1)):Nat),Is (gI l i),Is 0,j] s,rfl,aq a (aq e ?_),.inl ⟨_,s,rfl,rfl,_,_,_,rfl⟩⟩
    have:¬((gL (l.take (i+1)):Nat):Int)=1:=by lia
    simp[this]) (sl:=[Ls l,Is 0,Á,Á,Á]) (st:=st) ⟨rfl,Á,Á,Á,rfl⟩
 rcases o with⟨m,d,e,rfl,x,y,z,rfl⟩|⟨v,d,e,rfl,rfl⟩
 ·refine⟨_,?_,rfl⟩
  rw[gF,Ī]at e;simp[cO,aA,d7,e]
 ·refine⟨_,?_,rfl⟩
  simp[cO,aA,d7,e]
theorem yu:∀x∈l,gL l ∣ x.natAbs:=by
 have f:∀(b:List Int)(g:Nat),(b.foldl (fun g x=>Ā g x.natAbs) g) ∣ g/\∀x∈b,(b.foldl (fun g x=>Ā g x.natAbs) g) ∣ x.natAbs:=fun b=>by
  induction b with
  |nil=>intro g;exact⟨Nat.dvd_refl g,fun x a=>by cases a⟩
  |cons y b d =>
   intro g;obtain⟨c,e⟩:=d (Ā g y.natAbs);refine⟨U9 c (S? _ _),fun x a=>?_⟩;rcases zT.mp a with rfl|a
   ·exact U9 c (Q? _ _)
   ·exact e x a
 exact(f l 0).2
theorem JD{B:Nat}(hB:0<B)(h:∀x∈l,x.natAbs<B):gL l<B:=by
 by_cases hz:∃x∈l,x≠0
 ·obtain⟨x,a,f⟩:=hz
  exact yM (Nat.le_of_dvd oM (yu x a)) (h x a)
 ·have:∀(b:List Int),(∀x∈b,x=0)->b.foldl (fun g x=>Ā g x.natAbs) 0=0:=fun b=>by
   induction b with
   |nil=>intro _;rfl
   |cons y b d=>intro c;rw[Ō,c y z7];exact d fun x a=>c x (zQ _ a)
  have e:gL l=0:=this l fun x a=>ą fun z=>hz ⟨x,a,z⟩
  lia
theorem qS(b:l.length<=1000)(c:∀x∈l,x.natAbs<2^9000):ao [.fz (iL l)] []=À (.fz (iL (ax l)),[]):=by
 obtain⟨r,e,rfl⟩:=L9 (l:=l) (st:=[]);have a:∀st,pm cO [.fz (iL l)] st=À (.int (gL l:Int),st):=fun st=>b9 rfl e rfl
 unfold ax;by_cases h:gL l=0
 ·rw[yI h]
  simp[ao,aA,dL,a,h,pQ]
 ·rw[yH h]
  have d:¬((gL l:Nat):Int)=0:=by lia
  have f:eF ((gL l:Nat):Int)=Â:=zc d (by rw[ļ];exact JD (ß _) c);simp[ao,aA,dL,a,h,cp b];rw[kr (F:=fun x=>x/(gL l:Int)) gq fun x g=>⟨_,rfl,rfl,by
   simp[mv f];unfold vc;rw[yI oM]⟩]
  simp
theorem sH(a:l.length<=1000)(b:∀x∈l,x.natAbs<2^9000):pm ao [.fz (iL l)] st=À (.fz (iL (ax l)),st):=b9 rfl (qS a b) rfl
theorem iW:(ax l).length=l.length:=by unfold ax;split<;>simp
theorem Hx{a b:Int}(j:a.natAbs<2^9000)(h:b.natAbs<2^9000):pm cX [.int a,.int b] st=À (.tup [.int (gI (ax [a,b]) 0),.int (gI (ax [a,b]) 1)],st):=by
 have e:=sH (l:=[a,b]) (st:=[]) (by simp) (fun x c=>by simp at c;rcases c with rfl|rfl<;>assumption);have k:(ax [a,b]).length=2:=iW;have f:bI [] (.fz (iL (ax [a,b]))) (.int 0)=À (.int (gI (ax [a,b]) 0)):=by
  have:=cL (st:=[]) (x:=.fz (iL (ax [a,b]))) (i:=((0:Nat):Int)) fj;rw[cx,ci oM]at this;exact this
 have d:bI [] (.fz (iL (ax [a,b]))) (.int 1)=À (.int (gI (ax [a,b]) 1)):=by
  have:=cL (st:=[]) (x:=.fz (iL (ax [a,b]))) (i:=((1:Nat):Int)) fj;rw[cx,ci oM]at this;exact this
 refine b9 rfl (v:=.tup [.int (gI (ax [a,b]) 0),.int (gI (ax [a,b]) 1)]) (st':=[]) ?_ rfl;have g:pm ao [.fz [.int a,.int b]] []=À (.fz (iL (ax [a,b])),[]):=e;simp[cX,aA,fE,cw,g,f,d]
structure GX(S:Sh)(w cc k:Nat)(X:List Int):Prop where
 len:X.length=w
 at_:∀i,i<k->S.s i<w->gI X (S.s i)=S.t i cc
 no:∀q,q<w->(∀i,i<k->S.s i≠q)->gI X q=0
section
variable{st:aa}{k a b c g n u w m:Nat}{rows:List AV}{S:Sh}{v:Nat->Nat->Int}{nn:Int}
theorem Cf{j:Nat}(h:ev ks e sl st=À (.int (j:Int),st))(c:j<=1000):jt ks (.rep (.cons (.i 0) .nil) e) sl st=À (iL (È j 0),st):=by
 rw[Jg];unfold v7;have d:eY ks (.cons (.i 0) .nil) sl st=À ([.int 0],st):=rfl;rw[d,Ã];dsimp only;rw[h,Ã];dsimp only;have b:fU (j:Int)=Â:=by
  unfold fU;refine yL ?_;rw[ļ];by_cases a:j=0
  ·rw[a];decide
  ·exact yZ ((Ą a).mpr (yM c dC))
 rw[b,cp (n:=[AV.int 0].length*((j:Int)).toNat) (by simp;lia),cp (n:=[AV.int 0].length) (by simp)];show À _=À _;congr 2;show(È j [AV.int 0]).flatten=iL (È j 0);unfold iL
 induction j with
 |zero=>rfl
 |succ j f=>rw[è,č,è,zO];simp
theorem yx{j q:Nat}:gI (È j 0) q=0:=by
 unfold gI;rw[zD,ÿ];split<;>rfl
theorem Cw(R:Rep st k a b c g n u rows S)(P:Om w m S)(Q:SX.Pm w m S.h S.s)(J:∀st,pm aj [.int nn] st=À (.int w,st))(K:w<=100)(L:m<=1000){cI:Int}{cc:Nat}
  (H:∀{s:aa}{a:Nat}{rows:List AV},Rep s k a b c g n u rows S->∀i,i<m->bI s (ld rows i) (.int cI)=À (.int (S.t i cc))) :
  ∃X,cR [.int nn,.ref k,.int cI] st=À (.ref st.length,st++[.lst (iL X)])/\GX S w cc m X:=by
 have sl:S.sd.length=m:=P.sd;obtain⟨sl',st',e,X,t,r,rfl,rfl,d⟩:=eC (gd:=[(c,.lst (nL S.sd))]) (g:=b8 [aj] (.tu 2 (.cons (.nm 4) (.cons (.nm 5) .nil)))) (s:=ag [aj] (.cons (.iff (.cmp .Lt (.v 5) (.bi .len (.cons (.v 3) .nil))) (.cons (.as (.ix (.ix (.fd "Sheet" "lines" (.v 1)) (.v 4)) (.v 2)) (.su (.v 3) (.v 5))) .nil) .nil) .nil))
  (I:=fun i sl s=>∃X t r,s=st++[.lst (iL X)]/\sl=[Is nn,Rs k,Is cI,Rs st.length,t,r]/\GX S w cc i X) (xs:=eN 0 (nL S.sd)) (fun i sl s _ E=>by obtain⟨X,_,_,rfl,_⟩:=E;exact fq (R.app (ys:=[_])).hc)
  (fun i y sl s G E=>by
   obtain⟨X,t,r,rfl,rfl,d⟩:=E;obtain⟨x,f,rfl⟩:=o7 G;have A:i<m:=by have:=(zB.mp f).1;simpa [sl] using this
   have B:(nL S.sd)[i]?=À (.int ((S.s i:Nat):Int)):=gV oM;rw[B]at f;injection f with f;subst f;have p:=R.app (ys:=[Ob.lst (iL X)]);have F:bQ (st++[Ob.lst (iL X)]) (.ref st.length)=À (iL X):=bC gl;by_cases h:S.s i<w
   ·refine⟨_,[Is nn,Rs k,Is cI,Rs st.length,Is i,Is (S.s i:Int)],st++[.lst (iL (X.set (S.s i) (S.t i cc)))],rfl,?_,X.set (S.s i) (S.t i cc),_,_,rfl,rfl,?_⟩
    ·have o:=cW (x:=.int (S.t i cc)) (gl (st:=st) (e:=Ob.lst (iL X))) (show S.s i < (iL X).length by simp [d.len,h])
     rw[fK,fT]at o;have l:S.s i<X.length:=by rw[d.len];exact h
     simp[bM,eV,F,l,p.ins,p.line P A,H p i A,o]
    ·refine⟨by simp[d.len],fun j D o=>?_,fun q C v=>?_⟩
     ·by_cases e:j=i
      ·subst e;rw[SX.gI_set_at (by rw[d.len];exact h)]
      ·rw[SX.gI_set_ne (fun z=>e (Q.si j i oM A z))];exact d.at_ j oM o
     ·rw[SX.gI_set_ne (fun z=>v i oM z.symm)];exact d.no q C fun j D=>v j oM
   ·refine⟨_,[Is nn,Rs k,Is cI,Rs st.length,Is i,Is (S.s i:Int)],st++[.lst (iL X)],rfl,?_,X,_,_,rfl,rfl,?_⟩
    ·have l:¬S.s i<X.length:=by rw[d.len];exact h
     simp[bM,eV,F,l]
    ·refine⟨d.len,fun j D o=>?_,fun q C v=>d.no q C fun j D=>v j oM⟩
     by_cases e:j=i
     ·subst e;exact absurd o h
     ·exact d.at_ j oM o) (sl:=[Is nn,Rs k,Is cI,Rs st.length,Á,Á]) (st:=st++[.lst (iL (È w 0))]) ⟨_,Á,Á,rfl,rfl,by simp,fun i A=>by lia,fun q _ _=>yx⟩
 rw[mq,sn,sl]at d;refine⟨X,?_,d⟩;rw[cR,aA];unfold fb;refine ae (sl':=[Is nn,Rs k,Is cI,Rs st.length,Á,Á]) (st':=st++[.lst (iL (È w 0))]) ?_ ?_
 ·rw[c9,pF,Cf (j:=w) (by simp[J]) oM];rfl
 refine ae (sl':=[Is nn,Rs k,Is cI,Rs st.length,t,r]) (st':=st++[.lst (iL X)]) ?_ (by simp);have p:=R.app (ys:=[Ob.lst (iL (È w 0))]);simp[p.ins,gZ p.hc];exact e
theorem uW{n:Nat}:(iL l).take n=iL (l.take n):=by unfold iL;rw[i?]
theorem uY{n:Nat}:(iL l).drop n=iL (l.drop n):=by unfold iL;rw[List.map_drop]
theorem tH{n:Nat}(a:l.length=n+1):cut (iL l) Á (À (-1))=iL (l.take n):=by
 unfold cut;rw[gF,a,HT.sIx_none,Ĥ];have:HT.Oo (n+1) (n+1) (À (-1))=n:=by
  show(if(-1:Int)<0 then((-1:Int)+((n+1:Nat):Int)).toNat else min (-1:Int).toNat (n+1))=n;rw[yI dC];lia
 rw[this,Ŕ,uW]
theorem EG{w m:Nat}(a:l.length=w+(m+1)):cut (iL l) (À (w:Int)) (À (-1))=iL ((l.drop w).take m):=by
 unfold cut;rw[gF,a,HT.sIx_nat];have:HT.Oo (w+(m+1)) (w+(m+1)) (À (-1))=w+m:=by
  show(if(-1:Int)<0 then((-1:Int)+((w+(m+1):Nat):Int)).toNat else min (-1:Int).toNat (w+(m+1)))=w+m;rw[yI dC];lia
 rw[this,Ϸ oM,uY,uW,show w+m-w=m by lia]
theorem GV{d:Int}(k:X.length<=100)(j:∀x∈X,x.natAbs<2^9000)(hd:d.natAbs<2^9000):dX [.fz (iL X),.int d] []=À (.tup [.fz (iL ((ax (X++[d])).take X.length)),.int (gI (ax (X++[d])) X.length)],[]):=by
 have f:(ax (X++[d])).length=X.length+1:=by rw[iW];simp
 have e:=sH (l:=X++[d]) (st:=[]) (by simp;lia) fun x i=>by
  rcases zZ.mp i with h|h
  ·exact j x h
  ·rw[zM.mp h];exact hd
 have g:bI [] (.fz (iL (ax (X++[d])))) (.int (-1))=À (.int (gI (ax (X++[d])) X.length)):=by
  rw[cL fj,p5 (n:=X.length) (by simp[f]),ci oM]
 rw[dX,aA];unfold g7;refine ae (sl':=[Ls X,Is d,Ls (ax (X++[d]))]) (st':=[]) ?_ ?_
 ·have c:=jZ (ks:=[ao]) (a:=.v 0) (b:=.nw Ä (.li (.cons (.v 1) .nil))) (sl:=[Ls X,Is d,Á]) (st:=[]) (s1:=[]) (s2:=[]) (x:=.fz (iL X)) (y:=.fz (iL [d])) (l:=X) (l':=[d]) rfl (by simp[cw,iL]) rfl rfl (by simp;lia)
  simp[-qQ,c,e]
 ·simp[mJ,mG,tH f,g]
theorem B3(R:Rep st k a b c g n u rows S)(P:Om w m S)(Q:SX.Pm w m S.h S.s)(B:Bd w m S)(H:∀st,pm aj [.int nn] st=À (.int w,st))(y:w<=100)(C:m<=1000) :
  ∃X T st1,aT [.int nn,.ref k] st=À (.tup [.fz (iL T),.int (gI (ax (X++[S.d])) w)],st1)/\T=(ax (X++[S.d])).take w/\GX S w w m X/\Rep st1 k a b c g n u rows S:=by
 obtain⟨X,e,f⟩:=Cw (cI:=-1) (cc:=w) R P Q H y C fun G i d=>G.last P d
 have D:∀x∈X,x.natAbs<2^9000:=fun x v=>by
  obtain⟨q,o⟩:=z9 v;have j:=(zB.mp o).1;rw[f.len]at j;have p:gI X q=x:=by unfold gI;rw[zD,o];rfl
  by_cases h:∃i,i<m/\S.s i=q
  ·obtain⟨i,d,rfl⟩:=h
   rw[<- p,f.at_ i d j];exact B.2 i d w oM
  ·rw[<- p,f.no q j fun i d z=>h ⟨i,d,z⟩];exact ß _
 obtain⟨st1,t,E⟩:=lq (fn:=dX) (rest:=[.int S.d]) (x:=.ref st.length) (l:=X) (.inr ⟨_,rfl,.inl (gl (st:=st) (e:=.lst (iL X)))⟩) rfl rfl (fun s=>by simp[oW,qt]) (GV (by rw[f.len];lia) D B.1) rfl (by simp[flat,o0]);refine⟨X,_,st1,?_,rfl,f,?_⟩
 ·have F:=R.app (ys:=[Ob.lst (iL X)])
  rw[f.len]at t;simp[aT,aA,fX,e,F.ins,t]
 ·rcases E with rfl|⟨r,A,_,rfl⟩
  ·exact R.app
  ·cases A;rw[fT];exact R.app
theorem Ij(R:Rep st k a b c g n u rows S)(P:Om w m S)(Q:SX.Pm w m S.h S.s)(B:Bd w m S)(L:∀st,pm aj [.int nn] st=À (.int w,st))(H:w<=100)(I:m<=1000){q:Nat}(D:q<w) :
  ∃X st1,cD [.int nn,.ref k,.int q] st=À (.fz (iL (ax (if S.h q<w then X.set (S.h q) S.d else X))),st1)/\GX S w q m X:=by
 obtain⟨X,e,d⟩:=Cw (cI:=q) (cc:=q) R P Q L H I fun K i o=>K.cell P o oM
 have F:∀x∈X,x.natAbs<2^9000:=fun x r=>by
  obtain⟨j,E⟩:=z9 r;have t:=(zB.mp E).1;rw[d.len]at t;have G:gI X j=x:=by unfold gI;rw[zD,E];rfl
  by_cases h:∃i,i<m/\S.s i=j
  ·obtain⟨i,o,rfl⟩:=h
   rw[<- G,d.at_ i o t];exact B.2 i o q oM
  ·rw[<- G,d.no j t fun i o z=>h ⟨i,o,z⟩];exact ß _
 have p:=R.app (ys:=[Ob.lst (iL X)]);have A:bQ (st++[Ob.lst (iL X)]) (.ref st.length)=À (iL X):=bC gl;by_cases h:S.h q<w
 ·have v:∀x∈X.set (S.h q) S.d,x.natAbs<2^9000:=fun x r=>by
   rcases ć r with h|h
   ·exact F x h
   ·rw[h];exact B.1
  obtain ⟨st1,y,J⟩:=lq (fn:=ao) (rest:=[]) (st:=st++[.lst (iL (X.set (S.h q) S.d))]) (x:=.ref st.length) (l:=X.set (S.h q) S.d) (.inr ⟨_,rfl,.inl gl⟩) rfl rfl (fun s=>rfl) (qS (by simp [d.len];lia) v) rfl (by simp [flat]);refine ⟨X,st1,?_,d⟩;rw [yI h];have C:=cW (x:=.int S.d) (gl (st:=st) (e:=Ob.lst (iL X))) (show S.h q < (iL X).length by simp [d.len,h]);rw [fK,fT] at C;have f:S.h q < X.length:=by rw [d.len];exact h
  simp[cD,aA,hZ,e,p.ins,p.head P D,bM,eV,A,f,C,y]
 ·obtain⟨st1,y,J⟩:=lq (fn:=ao) (rest:=[]) (st:=st++[.lst (iL X)]) (x:=.ref st.length) (l:=X) (.inr ⟨_,rfl,.inl gl⟩) rfl rfl (fun s=>rfl) (qS (by simp[d.len];lia) F) rfl (by simp[flat])
  refine⟨X,st1,?_,d⟩;rw[yH h];have f:¬S.h q<X.length:=by rw[d.len];exact h
  simp[cD,aA,hZ,e,p.ins,p.head P D,bM,eV,A,f,y]
end
open SX (Of)
structure TK(S:Sh)(w m p:Nat)(T:List Int):Prop where
 len:T.length=w+m
 hd:∀j,j<w->gI T (S.h j)=if S.h j∈S.tn then S.t p j else-S.t p j
 sd:gI T (S.s p)=if S.s p∈S.tn then-S.d else S.d
 no:∀q,q<w+m->(∀j,j<w->S.h j≠q)->q≠S.s p->gI T q=0
def wt(T:List Int)(HO:Nat->List Int)(w j k:Nat):Int:=gI T (w+k)+Of j fun x=>gI T x*gI (HO (x+1)) k
section
variable{st:aa}{k a b c g n u w m p:Nat}{rows:List AV}{S:Sh}{nn:Int}{HO:Nat->List Int}
abbrev KW:List Fn:=[aj,cT,eD]
theorem pX{q x:Nat}{y:Int}(h:q<T.length):gI (T.set q y) x=if x=q then y else gI T x:=by
 by_cases e:x=q
 ·subst e;rw[yI rfl,SX.gI_set_at h]
 ·rw[yH e,SX.gI_set_ne e]
theorem Dd(R:Rep st k a b c g n u rows S)(P:Om w m S)(Q:SX.Pm w m S.h S.s)(F:p<m)(nt:S.tn.Nodup)(ht:∀q∈S.tn,q<w+m)(hw:w<=100)(hm:m<=800){ss:On}{r:AV×aa->Prop}
  (h:∀T x1 x2,TK S w m p T->∃z,(ag KW ss [Is nn,Rs k,Is p,Rs st.length,x1,x2,Á,Á,Á,Á,Á] (st++[Ob.lst (iL T)])).bind au=À z/\r z) :
  ∃z,(ag KW (.cons (.as (.nw Â (.rep (.cons (.i 0) .nil) (.bin .Add (.bi .len (.cons (.fd "Sheet" "heads" (.v 1)) .nil)) (.bi .len (.cons (.fd "Sheet" "sides" (.v 1)) .nil))))) (.nm 3))
   (.cons (.fo (.en (.fd "Sheet" "heads" (.v 1))) (.tu 2 (.cons (.nm 4) (.cons (.nm 5) .nil))) (.cons (.as (.un .USub (.ix (.ix (.fd "Sheet" "lines" (.v 1)) (.v 2)) (.v 4))) (.su (.v 3) (.v 5))) .nil))
   (.cons (.as (.fd "Sheet" "below" (.v 1)) (.su (.v 3) (.ix (.fd "Sheet" "sides" (.v 1)) (.v 2))))
   (.cons (.fd (.fd "Sheet" "turned" (.v 1)) (.nm 5) (.cons (.as (.un .USub (.ix (.v 3) (.v 5))) (.su (.v 3) (.v 5))) .nil)) ss)))) [Is nn,Rs k,Is p,Á,Á,Á,Á,Á,Á,Á,Á] st).bind au=À z/\r z:=by
 have lh:bQ st (.ref b)=À (nL S.hd):=bC R.hb;have O:bQ st (.ref c)=À (nL S.sd):=bC R.hc;refine ai (sl':=[Is nn,Rs k,Is p,Rs st.length,Á,Á,Á,Á,Á,Á,Á]) (st':=st++[Ob.lst (iL (È (w+m) 0))]) ?_ ?_
 ·rw[c9,pF,Cf (j:=w+m) ?_ oM]
  ·rfl
  ·simp[R.ins,bM,eV,lh,O,P.hd,P.sd]
 obtain⟨sl',st',e,T,x1,x2,rfl,rfl,t,N,M⟩:=eC (gd:=[(b,.lst (nL S.hd))]) (g:=b8 KW (.tu 2 (.cons (.nm 4) (.cons (.nm 5) .nil)))) (s:=ag KW (.cons (.as (.un .USub (.ix (.ix (.fd "Sheet" "lines" (.v 1)) (.v 2)) (.v 4))) (.su (.v 3) (.v 5))) .nil))
  (I:=fun i sl s=>∃T x1 x2,s=st++[Ob.lst (iL T)]/\sl=[Is nn,Rs k,Is p,Rs st.length,x1,x2,Á,Á,Á,Á,Á]/\T.length=w+m/\(∀j,j<i->gI T (S.h j)=- S.t p j)/\∀q,(∀j,j<i->S.h j≠q)->gI T q=0) (xs:=eN 0 (nL S.hd)) (fun i sl s _ K=>by obtain⟨X,_,_,rfl,_⟩:=K;exact fq (R.app (ys:=[_])).hb)
  (fun i y sl s A K=>by
   obtain⟨T,x1,x2,rfl,rfl,t,N,M⟩:=K;obtain⟨x,f,rfl⟩:=o7 A;have v:i<w:=by have:=(zB.mp f).1;simpa [P.hd] using this
   have U:(nL S.hd)[i]?=À (.int ((S.h i:Nat):Int)):=gV (by rw [P.hd];exact v);rw [U] at f;injection f with f;subst f;have l:=R.app (ys:=[Ob.lst (iL T)]);have W:=Q.hl i v;have o:=cW (x:=.int (- S.t p i)) (gl (st:=st) (e:=Ob.lst (iL T))) (show S.h i < (iL T).length by simp [t,W]);rw [fK,fT] at o;refine ⟨_,[Is nn,Rs k,Is p,Rs st.length,Is i,Is (S.h i:Int),Á,Á,Á,Á,Á],st++[Ob.lst (iL (T.set (S.h i) (- S.t p i)))],rfl,?_,T.set (S.h i) (- S.t p i),_,_,rfl,rfl,by simp [t],fun j G=>?_,fun q D=>?_⟩
   ·simp [l.ins,l.line P F,l.cell P F (show i < w + 1 by lia),o]
   ·rw[pX (by rw[t];exact W)]
    by_cases e:j=i
    ·subst e;rw[yI rfl]
    ·rw[yH fun z=>e (Q.hi j i oM v z)];exact N j oM
   ·rw[pX (by rw[t];exact W),yH fun z=>D i oM z.symm];exact M q fun j G=>D j oM) (sl:=[Is nn,Rs k,Is p,Rs st.length,Á,Á,Á,Á,Á,Á,Á]) (st:=st++[Ob.lst (iL (È (w+m) 0))]) ⟨_,Á,Á,rfl,rfl,by simp,fun j G=>by lia,fun q _=>yx⟩
 rw[mq,sn,P.hd]at N M;refine ai (sl':=[Is nn,Rs k,Is p,Rs st.length,x1,x2,Á,Á,Á,Á,Á]) (st':=st++[Ob.lst (iL T)]) ?_ ?_
 ·have l:=R.app (ys:=[Ob.lst (iL (È (w+m) 0))])
  simp[l.ins,gZ l.hb];exact e
 have l:=R.app (ys:=[Ob.lst (iL T)]);have sb:=Q.sl p F;have o:=cW (x:=.int S.d) (gl (st:=st) (e:=Ob.lst (iL T))) (show S.s p < (iL T).length by simp [t,sb]);rw [fK,fT] at o;refine ai (sl':=[Is nn,Rs k,Is p,Rs st.length,x1,x2,Á,Á,Á,Á,Á]) (st':=st++[Ob.lst (iL (T.set (S.s p) S.d))]) (by simp [l.ins,l.side P F,o]) ?_;have l2:(T.set (S.s p) S.d).length=w + m:=by simp [t]
 obtain⟨C,J⟩:∃x,x=T.set (S.s p) S.d:=⟨_,rfl⟩;rw[<- J]at l2 ⊢
 have Ru:=(R.app (ys:=[Ob.lst (iL C)])).hu;have E:u<st.length:=(zB.mp R.hu).1;obtain⟨sl',st',e,d,x2,rfl,rfl,L,B⟩:=eC (gd:=[]) (g:=b8 KW (.nm 5)) (s:=ag KW (.cons (.as (.un .USub (.ix (.v 3) (.v 5))) (.su (.v 3) (.v 5))) .nil))
  (I:=fun i sl s=>∃d x2,s=(st++[Ob.lst (iL d)]).set u (.wk (kL S.tn))/\sl=[Is nn,Rs k,Is p,Rs st.length,x1,x2,Á,Á,Á,Á,Á]/\d.length=w+m/\∀q,gI d q=if q∈S.tn.take i then-gI C q else gI C q) (xs:=nL S.tn) (fun _ _ _ _ _=>rfl)
  (fun i y sl s A K=>by
   obtain⟨d,x2,rfl,rfl,L,B⟩:=K;have v:i<S.tn.length:=by have:=(zB.mp A).1;simpa using this
   rw[gV v]at A;injection A with A;subst A;obtain⟨q,D⟩:∃q,q=S.tn.getD i 0:=⟨_,rfl⟩;rw[<- D];have qi:S.tn[i]=q:=by rw[D,zD,zF v];rfl
   have qm:q∈S.tn:=by rw[<- qi];exact ö v
   have ql:=ht q qm;have Z:S.tn.take (i+1)=S.tn.take i++[q]:=by rw[S9,zF v,qi];rfl
   have qn:q∉S.tn.take i:=fun z=>by
    have:=nt.sublist (O8 (i+1) S.tn)
    rw[Z,Ϙ]at this;exact this.2.2 q z q (by simp) rfl
   have gc:((st++[Ob.lst (iL d)]).set u (.wk (kL S.tn)))[st.length]?=À (.lst (iL d)):=by rw[aw (zU E)];exact gl
   have o:=cW (x:=.int (- gI d q)) gc (show q < (iL d).length by simp [L,ql]);have sc:((st++[Ob.lst (iL d)]).set u (.wk (kL S.tn))).set st.length (.lst (iL (d.set q (- gI d q))))=(st++[Ob.lst (iL (d.set q (- gI d q)))]).set u (.wk (kL S.tn)):=by
    rw[List.set_comm _ _ (zU E),fT]
   rw[fK,sc]at o;have xi:bI ((st++[Ob.lst (iL d)]).set u (.wk (kL S.tn))) (.ref st.length) (.int (q:Int))=À (.int (gI d q)):=by rw[cL (bC gc),cx,ci oM]
   refine⟨_,[Is nn,Rs k,Is p,Rs st.length,x1,Is q,Á,Á,Á,Á,Á],(st++[Ob.lst (iL (d.set q (- gI d q)))]).set u (.wk (kL S.tn)),rfl,?_,_,_,rfl,rfl,by simp[L],fun x=>?_⟩
   ·simp[xi,o]
   ·rw[pX oM,Z]
    by_cases e:x=q
    ·subst e;rw[yI rfl,yI (by simp),B x,yH qn]
    ·rw[yH e,B x];simp[e]) (sl:=[Is nn,Rs k,Is p,Rs st.length,x1,x2,Á,Á,Á,Á,Á]) (st:=(st++[Ob.lst (iL C)]).set u (.wk (kL S.tn))) ⟨C,x2,rfl,rfl,l2,fun q=>by simp⟩
 rw[sn,Ī]at B;refine ai (sl':=[Is nn,Rs k,Is p,Rs st.length,x1,x2,Á,Á,Á,Á,Á]) (st':=st++[Ob.lst (iL d)]) ?_ (h d x1 x2 ?_)
 ·have Rb:=R.app (ys:=[Ob.lst (iL C)])
  have ky:(kL S.tn).map (fun q=>oy q.1)=nL S.tn:=by unfold kL nL;rw[å];rfl
  have f1:(((st++[Ob.lst (iL d)]).set u (.wk (kL S.tn))))[u]?=À (.wk (kL S.tn)):=gG (R.app (ys:=[Ob.lst (iL d)])).hu;have f2:((st++[Ob.lst (iL d)]).set u (.wk (kL S.tn))).set u (.dK (kL S.tn))=st++[Ob.lst (iL d)]:=by
   rw[n!]
   have:=(R.app (ys:=[Ob.lst (iL d)])).hu
   obtain⟨hlt,H⟩:=zB.mp this;rw[<- H,List.set_getElem_self]
  simp[vN,Rb.ins,Rb.hu];rw[show(kL S.tn).map ((fun q=>oy q.1))=nL S.tn from ky]at *;rw[e];simp[B0,f1,f2]
 ·have Y:∀q,gI C q=if q=S.s p then S.d else gI T q:=fun q=>by rw[J,pX (by rw[t];exact sb)]
  refine⟨L,fun j G=>?_,?_,fun q D hn V=>?_⟩
  ·rw[B,Y,yH (Q.hs j p G F),N j G];split<;>lia
  ·rw[B,Y,yI rfl]
  ·rw[B,Y,yH V,M q hn];split<;>rfl
end
structure HOk(nn:Int)(w nr:Nat)(HO:Nat->List Int):Prop where
 ex:∀grp:Nat,1<=grp->grp<=w->∃rr,(∀st,pm cT [.int nn,.int grp,.int 0] st=À (rr,st))/\∀st,pm eD [.int nn,rr] st=À (.fz (iL (HO grp)),st)
 len:∀grp:Nat,1<=grp->grp<=w->(HO grp).length=nr
 bd:∀(grp:Nat),1<=grp->grp<=w->∀x∈HO grp,x.natAbs<=15
section
variable{st:aa}{k a b c g n u w m p nr:Nat}{rows:List AV}{S:Sh}{nn:Int}{HO:Nat->List Int}
theorem Kc{r q:Nat}{x:Int}(e:ev ks ea sl s=À (.ref r,s))(d:ev ks eb sl s=À (.int (q:Int),s))(c:ev ks ec sl s=À (.int x,s))(a:s[r]?=À (.lst (iL l)))(b:q<l.length):cP ks (.aus .Add ea eb ec) sl s=À (.nx sl (s.set r (.lst (iL (l.set q (gI l q+x)))))):=by
 rw[Iz];unfold vO;rw[e,Ã];dsimp only;rw[d,Ã];dsimp only;rw[bC a,Ã,cx,ci b,Ã,c,Ã];dsimp only;have:wG .Add s (.int (gI l q)) (.int x)=À (.int (gI l q+x)):=rfl;rw[this,Ã,cW a (by simp[b]),fK,Ã]
theorem BT(R:Rep st k a b c g n u rows S)(P:Om w (m+1) S)(Q:SX.Pm w (m+1) S.h S.s)(hp:p<m+1)(nt:S.tn.Nodup)(ht:∀q∈S.tn,q<w+(m+1))(hw:w<=100)(hm:m+1<=800)(HA:∀st,pm aj [.int nn] st=À (.int w,st))(H:HOk nn w nr HO)(hnr:nr<=m) :
  ∃z,aK [.int nn,.ref k,.int p] st=À z/\∃T W,TK S w (m+1) p T/\W.length=m/\(∀x,x<m->gI W x=wt T HO w w x)/\z.1=.ref (st.length+1)/\z.2=st++[Ob.lst (iL T)]++[Ob.lst (iL W)]:=by
 rw[aK];simp only[aA];unfold fD;refine Dd R P Q hp nt ht hw hm fun T h f U=>?_
 have sT:(st++[Ob.lst (iL T)])[st.length]?=À (.lst (iL T)):=gl;refine ai (sl':=[Is nn,Rs k,Is p,Rs st.length,h,f,Rs (st.length+1),Á,Á,Á,Á]) (st':=st++[Ob.lst (iL T)]++[Ob.lst (iL ((T.drop w).take m))]) ?_ ?_
 ·simp[mJ,mG,HA,bC sT,EG U.len]
 have ll:(st++[Ob.lst (iL T)]).length=st.length+1:=by simp
 have V:∀W:List Int,(st++[Ob.lst (iL T)]++[Ob.lst (iL W)])[st.length]?=À (.lst (iL T)):=fun W=>ga sT
 have sW:∀W:List Int,(st++[Ob.lst (iL T)]++[Ob.lst (iL W)])[st.length+1]?=À (.lst (iL W)):=fun W=>by rw[<- ll];exact gl
 have L:∀W d:List Int,(st++[Ob.lst (iL T)]++[Ob.lst (iL W)]).set (st.length+1) (.lst (iL d))=st++[Ob.lst (iL T)]++[Ob.lst (iL d)]:=fun W d=>by rw[<- ll];exact fT
 have hW0:∀x,x<m->gI ((T.drop w).take m) x=wt T HO w 0 x:=fun x v=>by
  unfold wt gI;rw[zD,ş v,List.getElem?_drop,zD];simp[Of]
 obtain⟨sl',st',e,W,N,J,B,A,rfl,rfl,O,M⟩:=eC (gd:=[]) (g:=b8 KW (.nm 7)) (s:=ag KW (.cons (.as (.ix (.v 3) (.bin .Sub (.v 7) (.i 1))) (.nm 8)) (.cons (.iff (.cmp .NotEq (.v 8) (.i 0))
   (.cons (.fo (.en (.ca Â 2 (.cons (.v 0) (.cons (.ca Â 1 (.cons (.v 0) (.cons (.v 7) (.cons (.i 0) .nil)))) .nil)))) (.tu 2 (.cons (.nm 9) (.cons (.nm 10) .nil))) (.cons (.aus .Add (.v 6) (.v 9) (.bin .Mult (.v 8) (.v 10))) .nil)) .nil) .nil) .nil)))
  (I:=fun i sl s=>∃W N J B A,s=st++[Ob.lst (iL T)]++[Ob.lst (iL W)]/\sl=[Is nn,Rs k,Is p,Rs st.length,h,f,Rs (st.length+1),N,J,B,A]/\W.length=m/\∀x,x<m->gI W x=wt T HO w i x) (xs:=cZ 1 w) (fun _ _ _ _ _=>rfl)
  (fun i y sl s C hI=>by
   obtain⟨W,N,J,B,A,rfl,rfl,O,M⟩:=hI;have hi:i<w:=by have:=(zB.mp C).1;unfold cZ at this;simpa using this
   have ey:y=.int (((i+1:Nat)):Int):=by
    unfold cZ at C;rw[zR,Ĳ hi]at C;injection C with C;rw[<- C];show AV.int (1+(i:Int))=_;congr 1;lia
   subst ey;have xi:bI (st++[Ob.lst (iL T)]++[Ob.lst (iL W)]) (.ref st.length) (.int (i:Int))=À (.int (gI T i)):=by rw[cL (bC (V W)),cx,ci (by rw[U.len];lia)]
   have K:cP KW (.as (.ix (.v 3) (.bin .Sub (.v 7) (.i 1))) (.nm 8)) [Is nn,Rs k,Is p,Rs st.length,h,f,Rs (st.length+1),Is ((i+1:Nat):Int),J,B,A] (st++[Ob.lst (iL T)]++[Ob.lst (iL W)])=À (.nx [Is nn,Rs k,Is p,Rs st.length,h,f,Rs (st.length+1),Is ((i+1:Nat):Int),Is (gI T i),B,A] (st++[Ob.lst (iL T)]++[Ob.lst (iL W)])):=by
    have e0:((i+1:Nat):Int)-1=(i:Int):=by lia
    have hb:aZ .Sub (st++[Ob.lst (iL T)]++[Ob.lst (iL W)]) (.int ((i+1:Nat):Int)) (.int 1)=À (.int (i:Int)):=by rw[qX,e0]
    simp only[c9,j9,lY,cj,ib,bF,bO,Ã,hb,Ï,xi];rfl
   by_cases h0:gI T i=0
   ·refine⟨_,_,_,rfl,aq K ?_,W,Is ((i+1:Nat):Int),Is (gI T i),B,A,rfl,rfl,O,fun x v=>?_⟩
    ·simp[h0]
    ·rw[M x v];unfold wt;simp only[Of,h0];lia
   ·obtain⟨rr,r1,r2⟩:=H.ex (i+1) oM oM
    have D:=H.len (i+1) oM oM;obtain⟨sl',st',e,d,G,F,rfl,rfl,E,t⟩:=eC (gd:=[]) (g:=b8 KW (.tu 2 (.cons (.nm 9) (.cons (.nm 10) .nil)))) (s:=ag KW (.cons (.aus .Add (.v 6) (.v 9) (.bin .Mult (.v 8) (.v 10))) .nil))
     (I:=fun j sl s=>∃d G F,s=st++[Ob.lst (iL T)]++[Ob.lst (iL d)]/\sl=[Is nn,Rs k,Is p,Rs st.length,h,f,Rs (st.length+1),Is ((i+1:Nat):Int),Is (gI T i),G,F]/\d.length=m/\∀x,x<m->gI d x=gI W x+if x<j then gI T i*gI (HO (i+1)) x else 0) (xs:=eN 0 (iL (HO (i+1)))) (fun _ _ _ _ _=>rfl)
     (fun j y sl s C hI=>by
      obtain⟨d,G,F,rfl,rfl,E,t⟩:=hI;obtain⟨x,o,rfl⟩:=o7 C;have hj:j<nr:=by have:=(zB.mp o).1;simpa [D] using this
      rw[ci oM]at o;injection o with o;subst o;have hc:(gI (HO (i+1)) j).natAbs<=15:=by
       refine H.bd (i+1) oM oM _ ?_;unfold gI;exact SX.getD_mem oM
      have mb:c4 (gI T i) (gI (HO (i+1)) j)=Â:=by
       unfold c4;have:Þ (gI (HO (i+1)) j).natAbs.log2 62=Â:=yL (by
        by_cases hz:(gI (HO (i+1)) j).natAbs=0
        ·rw[hz];decide
        ·exact yZ ((Ą hz).mpr (yM hc dC)))
       rw[this];simp
      refine⟨_,_,_,rfl,aq (Kc (r:=st.length+1) (q:=j) (l:=d) (x:=gI T i*gI (HO (i+1)) j) rfl rfl (by simp[ce mb]) (sW d) oM) rfl,d.set j (gI d j+gI T i*gI (HO (i+1)) j),_,_,L _ _,rfl,by simp[E],fun x v=>?_⟩;rw[pX oM];by_cases e:x=j
      ·subst e;rw[yI rfl,t x v,yH oM,yI oM];lia
      ·rw[yH e,t x v]
       by_cases e2:x<j
       ·rw[yI e2,yI oM]
       ·rw[yH e2,yH oM]) (sl:=[Is nn,Rs k,Is p,Rs st.length,h,f,Rs (st.length+1),Is ((i+1:Nat):Int),Is (gI T i),B,A]) (st:=st++[Ob.lst (iL T)]++[Ob.lst (iL W)]) ⟨W,B,A,rfl,rfl,O,fun x v=>by simp⟩
    rw[mq,gF,D]at t;refine⟨_,_,_,rfl,aq K (aq (sl':=[Is nn,Rs k,Is p,Rs st.length,h,f,Rs (st.length+1),Is ((i+1:Nat):Int),Is (gI T i),G,F]) (st':=st++[Ob.lst (iL T)]++[Ob.lst (iL d)]) ?_ rfl),d,Is ((i+1:Nat):Int),Is (gI T i),G,F,rfl,rfl,E,fun x v=>?_⟩
    ·have r1':=r1 (st++[Ob.lst (iL T)]++[Ob.lst (iL W)])
     have Z:=r2 (st++[Ob.lst (iL T)]++[Ob.lst (iL W)]);simp only[cY,eJ,cj,ib,bF,bO,Ã,Mb,Ï,yA h0,Bool.not_false,ite_true];refine aq (sl':=[Is nn,Rs k,Is p,Rs st.length,h,f,Rs (st.length+1),Is ((i+1:Nat):Int),Is (gI T i),G,F]) (st':=st++[Ob.lst (iL T)]++[Ob.lst (iL d)]) ?_ rfl;rw[kg,Bs];simp only[dA,aO,ba,cj,ib,bF,bO,Ã,eK,dB,d6];rw[r1'];simp only[Ã];rw[Z];simp only[Ã,yg,Ï];exact e
    ·rw[t x v,M x v]
     unfold wt;simp only[Of];by_cases e:x<nr
     ·rw[yI e];lia
     ·rw[yH e]
      have:gI (HO (i+1)) x=0:=by unfold gI;rw[zD,é oM];rfl
      rw[this,yP];lia) (sl:=[Is nn,Rs k,Is p,Rs st.length,h,f,Rs (st.length+1),Á,Á,Á,Á]) (st:=st++[Ob.lst (iL T)]++[Ob.lst (iL ((T.drop w).take m))]) ⟨_,Á,Á,Á,Á,rfl,rfl,by simp[U.len],hW0⟩
 have rl:(cZ 1 w).length=w:=by unfold cZ;simp
 rw[rl]at M;refine⟨(.ref (st.length+1),st++[Ob.lst (iL T)]++[Ob.lst (iL W)]),?_,T,W,U,O,M,rfl,rfl⟩;refine ae (sl':=[Is nn,Rs k,Is p,Rs st.length,h,f,Rs (st.length+1),N,J,B,A]) (st':=st++[Ob.lst (iL T)]++[Ob.lst (iL W)]) ?_ (by simp);have Y:fU 1=Â:=by decide
 have X:fU ((w:Int)+1)=Â:=by
  unfold fU;refine yL ?_;rw[show((w:Int)+1).natAbs=w+1 by lia];exact yZ ((Ą oM).mpr oM)
 rw[kg];have ei:dH KW (.r2 (.i 1) (.bin .Add (.ca Â 0 (.cons (.v 0) .nil)) (.i 1))) [Is nn,Rs k,Is p,Rs st.length,h,f,Rs (st.length+1),Á,Á,Á,Á] (st++[Ob.lst (iL T)]++[Ob.lst (iL ((T.drop w).take m))])=À (⟨cZ 1 w,[]⟩,st++[Ob.lst (iL T)]++[Ob.lst (iL ((T.drop w).take m))]):=by
  have e2:((w:Int)+1-1).toNat=w:=by lia
  simp[-List.append_assoc,ym,HA,Y,X]
 rw[ei,Ã];exact e
end
section
variable{st:aa}{k a b c g n u w m p nr:Nat}{rows:List AV}{S:Sh}{nn:Int}{HO:Nat->List Int}{v:Nat->Nat->Int}
theorem TK.bd(a:TK S w m p T)(f:p<m)(Q:SX.Pm w m S.h S.s)(B:S.d.natAbs<2^8900/\∀i,i<m->∀j,j<w+1->(S.t i j).natAbs<2^8900)(q:Nat):(gI T q).natAbs<2^8900:=by
 by_cases e:q<w+m
 ·by_cases d:∃j,j<w/\S.h j=q
  ·obtain⟨j,b,rfl⟩:=d
   rw[a.hd j b]
   have:=B.2 p f j oM
   split
   ·exact this
   ·rw[ð];exact this
  ·by_cases c:q=S.s p
   ·rw[c,a.sd]
    split
    ·rw[ð];exact B.1
    ·exact B.1
   ·rw[a.no q e (fun j b z=>d ⟨j,b,z⟩) c];exact ß _
 ·have:gI T q=0:=by unfold gI;rw[zD,é (by rw[a.len];lia)];rfl
  rw[this];exact ß _
theorem BU(a:∀q,(gI T q).natAbs<2^8900)(H:HOk nn w nr HO)(b:w<=15)(x:Nat):(wt T HO w w x).natAbs<2^9000:=by
 unfold wt;have l:=SX.abs_sum (n:=w) (f:=fun y=>gI T y*gI (HO (y+1)) x) (M:=2^8900*15) fun i g=>by
  rw[xA];refine Ŗ (yZ (a i)) ?_;unfold gI;rw[zD];cases e:(HO (i+1))[x]? with
  |none=>simp
  |some z=>exact H.bd (i+1) oM oM z (zW e)
 have k:=a (w+x);have j:=Q4 (gI T (w+x)) (Of w fun y=>gI T y*gI (HO (y+1)) x);have h:w*(2^8900*15)<=15*(2^8900*15):=ý _ b;have d:(2:Nat)^9000=2^8900*2^100:=by rw[<- Ϧ]
 have c:(2:Nat)^100=1267650600228229401496703205376:=by decide
 rw[d,c];generalize (2:Nat)^8900=B at *;lia
theorem Bn(R:Rep st k a b c g n u rows S)(I:MI w (m+1) v S)(D:Bnd w (m+1) v)(i:p<m+1)(J:S.tn.Nodup)(M:∀q∈S.tn,q<w+(m+1))(L:w<=15)(hm:m+1<=400)(E:∀st,pm aj [.int nn] st=À (.int w,st))(H:HOk nn w nr HO)(r:nr<=m) :
  ∃z,bG [.int nn,.ref k,.int p] st=À z/\∃X T W,GX S w w (m+1) X/\TK S w (m+1) p T/\W.length=m/\(∀x,x<m->gI W x=wt T HO w w x) /\
   z.1=.tup [.str "least",.tup [.int (gI (ax [- S.t p w,S.d]) 0),.int (gI (ax [- S.t p w,S.d]) 1)],.tup [.fz (iL ((ax (X++[S.d])).take w)),.int (gI (ax (X++[S.d])) w)],.int (gI (ax (W++[S.d])) m),.fz (iL ((ax (W++[S.d])).take m))]:=by
 have P:=I.shp;have B:=D.bd I;obtain⟨z,e1,T,W,C,o,A,f,e⟩:=BT R P I.pm i J M oM oM E H r;obtain⟨z1,z2⟩:=z;dsimp only at f e;subst f;subst e;have R2:=(R.app (ys:=[Ob.lst (iL T)])).app (ys:=[Ob.lst (iL W)]);have G:∀x∈W++[S.d],x.natAbs<2^9000:=fun x K=>by
  rcases zZ.mp K with h|h
  ·obtain⟨j,t⟩:=z9 h
   have N:=(zB.mp t).1;have V:gI W j=x:=by unfold gI;rw[zD,t];rfl
   rw[<- V,A j oM];exact BU (C.bd i I.pm (D.bd8 I)) H L j
  ·rw[zM.mp h];exact B.1
 have Z:=sH (l:=W++[S.d]) (st:=st++[Ob.lst (iL T)]++[Ob.lst (iL W)]) (by simp[o];lia) G;obtain⟨X,T',d,Y,rfl,O,R3⟩:=B3 R2 P I.pm B E oM oM;have U:=Hx (a:=- S.t p w) (b:=S.d) (st:=st) (by rw[ð];exact B.2 p i w oM) B.1;refine⟨(_,d),?_,X,T,W,O,C,o,A,rfl⟩;have s:(ax (W++[S.d])).length=m+1:=by rw[iW];simp[o]
 rw[bG,aA];unfold fY;refine ae (sl':=[Is nn,Rs k,Is p,À (.tup [.int (gI (ax [- S.t p w,S.d]) 0),.int (gI (ax [- S.t p w,S.d]) 1)]),Á]) (st':=st) (by simp[R.ins,R.line P i,R.last P i,U]) ?_;refine ae (sl':=[Is nn,Rs k,Is p,À (.tup [.int (gI (ax [- S.t p w,S.d]) 0),.int (gI (ax [- S.t p w,S.d]) 1)]),Ls (ax (W++[S.d]))]) (st':=st++[Ob.lst (iL T)]++[Ob.lst (iL W)]) ?_ ?_
 ·have Q:(st++[Ob.lst (iL T)]++[Ob.lst (iL W)])[st.length+1]?=À (.lst (iL W)):=by
   have:(st++[Ob.lst (iL T)]).length=st.length+1:=by simp
   rw[<- this];exact gl
  have c:=jZ (ks:=[cX,aK,ao,aT]) (a:=.ca Ä 1 (.cons (.v 0) (.cons (.v 1) (.cons (.v 2) .nil)))) (b:=.nw Ä (.li (.cons (.fd "Sheet" "below" (.v 1)) .nil)))
   (sl:=[Is nn,Rs k,Is p,À (.tup [.int (gI (ax [- S.t p w,S.d]) 0),.int (gI (ax [- S.t p w,S.d]) 1)]),Á]) (st:=st) (s1:=st++[Ob.lst (iL T)]++[Ob.lst (iL W)]) (s2:=st++[Ob.lst (iL T)]++[Ob.lst (iL W)]) (x:=.ref (st.length+1)) (y:=.fz [AV.int S.d]) (l:=W) (l':=[S.d])
   (by simp only[dA,aO,ba,cj,bF,bO,Ã,ki,dB,d6];exact e1) (by simp[-List.append_assoc,cw,R2.ins]) (bC Q) rfl (by simp[o];lia)
  simp only[c9,dA,aO,ba,gz,c,Ã,dJ,ite_true,eK,dB,d6,Z,BA];rfl
 ·have F:bI d (.fz (iL (ax (W++[S.d])))) (.int (-1))=À (.int (gI (ax (W++[S.d])) m)):=by rw[cL fj,p5 (n:=m) (by simp[s]),ci oM]
  simp[-List.append_assoc,Y,mJ,mG,tH s,F]
end
open SX (Qt v0)
def val(w:Nat)(r:List Int)(Y:Nat->Int):Int:=Of w fun x=>gI r x*Y x
structure Kp(w:Nat)(RR:List (List Int))(gv:List Gv)(Y:Nat->Int)(e:Int):Prop where
 rule:∀r∈RR,0<=val w r Y
 eq:∀z∈gv,z.eq=Â->val w z.row Y=z.num*e
 ge:∀z∈gv,z.eq=Ä->z.num*e<=val w z.row Y
structure TbS(w:Nat)(RR:List (List Int))(gv:List Gv)(X:List Int)(D:Int):Prop where
 len:X.length=w
 pos:0<D
 bd:(∀x∈X,x.natAbs<2^1900)/\D.natAbs<2^1900
 kp:Kp w RR gv (gI X) D
def rh(w:Nat)(RR:List (List Int))(gv:List Gv)(goal:List Int)(t:AV):Prop :=
 ((∃W,t=.tup [.str "never",.fz (iL W)])/\∀Y e,0<e->¬Kp w RR gv Y e) \/
 (∃T d X D K W,t=.tup [.str "least",.tup [.int (gI (ax [T,d]) 0),.int (gI (ax [T,d]) 1)],.tup [.fz (iL X),.int D],.int K,.fz (iL W)]/\0<d/\(T.natAbs<2^1900/\d.natAbs<2^1900)/\(TbS w RR gv X D/\val w goal (gI X)*d=T*D)/\∀Y e,0<e->Kp w RR gv Y e->T*e<=val w goal Y*d) \/
 ∃X D Z,t=.tup [.str "endless",.tup [.fz (iL X),.int D],.fz (iL Z)]/\TbS w RR gv X D/\(Z.length=w/\∀x∈Z,x.natAbs<2^1900)/\Kp w RR gv (gI Z) 0/\val w goal (gI Z)<0
section
variable{w:Nat}{RR:List (List Int)}{gv:List Gv}{goal:List Int}{Y Y':Nat->Int}{e e' g T d:Int}
theorem nU{r:List Int}(h:∀x,x<w->Y x=g*Y' x):val w r Y=g*val w r Y':=by
 unfold val;rw[<- SX.sum_mul];exact SX.sum_congr fun x a=>by rw[h x a];grind
theorem Kp.div(b:0<g)(he:e=g*e')(h:∀x,x<w->Y x=g*Y' x)(K:Kp w RR gv Y e):Kp w RR gv Y' e':=by
 refine⟨fun r c=>?_,fun z hz a=>?_,fun z hz a=>?_⟩
 ·have:=K.rule r c
  rw[nU h]at this;exact j? (by rw[yP];exact this) b
 ·have:=K.eq z hz a
  rw[nU h,he]at this;exact Ŝ oM (this.trans (by grind))
 ·have:=K.ge z hz a
  rw[nU h,he]at this;exact j? (ľ (by rw[show g*(z.num*e')=z.num*(g*e') by grind];exact ϫ _) this) b
theorem wn(l:List Int):∃g:Int,0<g/\∀i,gI l i=g*gI (ax l) i:=by
 by_cases h:gL l=0
 ·exact⟨1,by decide,fun i=>by unfold ax;rw[yI h,Ź]⟩
 ·refine⟨(gL l:Int),by lia,fun i=>?_⟩
  unfold ax;rw[yH h];unfold gI;rw[zD,zD,zR];cases e:l[i]? with
  |none=>simp
  |some x =>
   have:=yu x (zW e)
   exact(G? (c?.mp (ū.mpr this))).symm
theorem xQ{l:List Int}{M:Nat}(b:0<M)(h:∀x∈l,x.natAbs<M)(i:Nat):(gI (ax l) i).natAbs<M:=by
 obtain⟨g,c,e⟩:=wn l;have a:=oV h b i;rw[e i,xA]at a;exact yM (Nat.le_mul_of_pos_left _ oM) a
theorem ot{l:List Int}{P:Int->Prop}(h:∀i,i<l.length->P (gI l i)):∀x∈l,P x:=fun x b=>by
 obtain⟨i,a⟩:=z9 b
 have:=h i (zB.mp a).1
 unfold gI at this;rw[zD,a]at this;exact this
theorem u8{l:List Int}{w i:Nat}(h:i<w):gI (l.take w) i=gI l i:=by
 unfold gI;rw[zD,zD,ş h]
theorem Hq{l l':List Int}{i:Nat}(h:i<l.length):gI (l++l') i=gI l i:=by
 unfold gI;rw[zD,zD,zN h]
theorem Ho{l:List Int}{d:Int}:gI (l++[d]) l.length=d:=by
 unfold gI;rw[zD];simp
theorem TbS.low{X:List Int}(a:X.length=w)(hd:0<d)(i:(∀x∈X,x.natAbs<2^9000)/\d.natAbs<2^9000)(K:Kp w RR gv (gI X) d):∃g,0<g/\d=g*gI (ax (X++[d])) w/\(∀r,val w r (gI X)=g*val w r (gI ((ax (X++[d])).take w))) /\
  ((ax (X++[d])).take w).length=w/\0<gI (ax (X++[d])) w/\Kp w RR gv (gI ((ax (X++[d])).take w)) (gI (ax (X++[d])) w):=by
 obtain⟨g,b,e⟩:=wn (X++[d]);have c:d=g*gI (ax (X++[d])) w:=by
  have:=e w
  rw[<- a,Ho]at this;rw[<- a];exact this
 have ex:∀x,x<w->gI X x=g*gI ((ax (X++[d])).take w) x:=fun x f=>by
  rw[u8 f,<- e x,Hq oM]
 refine⟨g,b,c,fun r=>nU ex,?_,?_,K.div b c ex⟩
 ·rw[ī,iW,zV,a];simp
 ·rcases Q5 0 (gI (ax (X++[d])) w) with h|h|h
  ·exact h
  ·rw[<- h]at c;lia
  ·have:=ś b h;lia
theorem TbS.of{X:List Int}(k:X.length=w)(hd:0<d)(a:(∀x∈X,x.natAbs<2^1900)/\d.natAbs<2^1900)(K:Kp w RR gv (gI X) d)(f:val w goal (gI X)=T):TbS w RR gv ((ax (X++[d])).take w) (gI (ax (X++[d])) w)/\val w goal (gI ((ax (X++[d])).take w))*d=T*gI (ax (X++[d])) w:=by
 have big:(2:Nat)^1900<=2^9000:=ü dC dC;obtain⟨g,p,m,ev,e,j,n⟩:=TbS.low k hd ⟨fun x b=>zJ (a.1 x b) big,zJ a.2 big⟩ K;have c:=xQ (l:=X++[d]) (ß 1900) fun x b=>by
  rcases zZ.mp b with h|h
  ·exact a.1 x h
  ·rw[zM.mp h];exact a.2
 refine⟨⟨e,j,⟨ot fun i o=>?_,c w⟩,n⟩,?_⟩
 ·rw[u8 oM];exact c i
 ·rw[<- f,ev goal]
  generalize gI (ax (X++[d])) w=D at *;rw[m];grind
end
structure AI(w nr:Nat)(gv:List Gv)(L:List (List Int))(i:Nat)(S:Sh):Prop where
 mi:MI w (nr+gv.length+1) (v0 w L) S
 un:∀x,nr+i<=x->x<nr+gv.length+1->S.s x=w+x
 g1:∀q∈S.gd,q<w+nr\/∃y z,y<i/\gv[y]?=À z/\z.eq=Ä/\q=w+nr+y
 g2:∀q,q<w+nr->q∈S.gd
 g3:∀y z,y<i->gv[y]?=À z->z.eq=Ä->w+nr+y∈S.gd
 n1:∀q∈S.nl,∃y z,y<i/\gv[y]?=À z/\z.eq=Â/\q=w+nr+y
 n2:∀y z,y<i->gv[y]?=À z->z.eq=Â->w+nr+y∈S.nl
 t1:∀q∈S.tn,q∈S.nl
 tn:S.tn.Nodup
 lg:S.gd.length<=w+nr+i
 ln:S.nl.length<=i
 lt:S.tn.length<=i
section
variable{w nr i:Nat}{RR:List (List Int)}{gv:List Gv}{goal:List Int}{S:Sh}{Y:Nat->Int}{e:Int}
theorem sY{c:Int}{x:Nat}(h:r.length=w):gI (r++[c]) x=if x<w then gI r x else if x=w then c else 0:=by
 unfold gI;simp only[zD];by_cases b:x<w
 ·rw[yI b,zN oM]
 ·rw[yH b,z6 oM]
  by_cases a:x=w
  ·rw[yI a,h,a];simp
  ·rw[yH a,é (by simp;lia)];rfl
theorem fv{c:Int}{j:Nat}(f:L[j]?=À (r++[c]))(b:r.length=w):Qt w (v0 w L) Y e (w+j)=val w r Y+c*e:=by
 have a:∀x,v0 w L (w+j) x=gI (r++[c]) x:=fun x=>by
  unfold v0;rw[yH oM,show w+j-w=j by lia,zD,f];rfl
 unfold Qt val;rw[a,sY b,yH oM,yI rfl];congr 1;exact SX.sum_congr fun x d=>by rw[a,sY b,yI d]
theorem HY{q:Nat}(b:q<w):Qt w (v0 w L) Y e q=Y q:=by
 have a:∀x,v0 w L q x=if x=q then 1 else 0:=fun x=>by unfold v0;rw[yI b]
 unfold Qt;rw[SX.sum_one b fun x _ ne=>by rw[a,yH ne,yQ],a,yI rfl,a,yH oM];lia
theorem tZ(a:i<RR.length):(ar RR gv goal)[i]?=À (RR[i]++[0]):=by
 unfold ar;rw[yN,zN (by simpa using a)];simp[a]
theorem j5(hz:gv[i]?=À z):(ar RR gv goal)[RR.length+i]?=À (z.row++[- z.num]):=by
 have a:=(zB.mp hz).1;unfold ar;rw[yN,z6 (by simp),zN (by simp;exact a)];simp[hz]
theorem zy:(ar RR gv goal)[RR.length+gv.length]?=À (goal.map (fun x=>- x)++[0]):=by
 unfold ar;rw[z6 (by simp)];simp
theorem wL:(ar RR gv goal).length=RR.length+gv.length+1:=by simp[ar];lia
theorem pE:val w (goal.map fun x=>- x) Y=- val w goal Y:=by
 unfold val;have:∀x,gI (goal.map fun x=>- x) x=- gI goal x:=fun x=>by
  unfold gI;rw[zD,zD,zR];cases goal[x]?<;>rfl
 rw[SX.sum_congr (g:=fun x=>(-1)*(gI goal x*Y x)) fun x _=>by rw[this];grind,SX.sum_mul];lia
structure Sz(w:Nat)(RR:List (List Int))(gv:List Gv)(goal:List Int):Prop where
 r:∀l∈RR,l.length=w
 g:∀z∈gv,z.row.length=w
 o:goal.length=w
 hg:∀Y:Nat->Int,(∀r∈RR,0<=val w r Y)->∀x,x<w->0<=Y x
theorem AI.of(Z:Sz w RR gv goal)(A:AI w RR.length gv (ar RR gv goal) i S)(F:Kp w RR gv Y e):(∀q∈S.gd,0<=Qt w (v0 w (ar RR gv goal)) Y e q)/\∀q∈S.nl,Qt w (v0 w (ar RR gv goal)) Y e q=0:=by
 refine⟨fun q c=>?_,fun q c=>?_⟩
 ·rcases A.g1 q c with h|⟨y,z,j,b,f,rfl⟩
  ·by_cases g:q<w
   ·rw[HY g];exact Z.hg Y F.rule q g
   ·have d:q-w<RR.length:=by lia
    have:=fv (Y:=Y) (e:=e) (tZ (gv:=gv) (goal:=goal) d) (Z.r _ (ö d))
    rw[show w+(q-w)=q by lia]at this;rw[this,yQ,Ġ];exact F.rule _ (ö d)
  ·have a:=zW b
   rw[ņ,fv (j5 b) (Z.g z a)]
   have:=F.ge z a f
   have k:- z.num*e=- (z.num*e):=by grind
   lia
 ·obtain⟨y,z,j,b,f,rfl⟩:=A.n1 q c
  have a:=zW b;rw[ņ,fv (j5 b) (Z.g z a)]
  have:=F.eq z a f
  have k:- z.num*e=- (z.num*e):=by grind
  lia
theorem AI.to(Z:Sz w RR gv goal)(A:AI w RR.length gv (ar RR gv goal) gv.length S)(f:∀q∈S.gd,0<=Qt w (v0 w (ar RR gv goal)) Y e q)(h:∀q∈S.nl,Qt w (v0 w (ar RR gv goal)) Y e q=0):Kp w RR gv Y e:=by
 refine⟨fun r g=>?_,fun z hz c=>?_,fun z hz c=>?_⟩
 ·obtain⟨i,d⟩:=z9 g
  have b:=(zB.mp d).1;have j:RR[i]=r:=(zB.mp d).2
  have:=f (w+i) (A.g2 _ oM)
  rw[fv (tZ b) (Z.r _ (ö b)),yQ,Ġ,j]at this;exact this
 ·obtain⟨y,a⟩:=z9 hz
  have b:=(zB.mp a).1
  have:=h _ (A.n2 y z b a c)
  rw[ņ,fv (j5 a) (Z.g z hz)]at this;have k:- z.num*e=- (z.num*e):=by grind
  lia
 ·obtain⟨y,a⟩:=z9 hz
  have b:=(zB.mp a).1
  have:=f _ (A.g3 y z b a c)
  rw[ņ,fv (j5 a) (Z.g z hz)]at this;have k:- z.num*e=- (z.num*e):=by grind
  lia
theorem C4:∀q,q<w->∀x,x<w+1->v0 w L q x=if x=q then 1 else 0:=fun q a x _=>by unfold v0;rw[yI a]
theorem AI.vert(Z:Sz w RR gv goal)(A:AI w RR.length gv (ar RR gv goal) gv.length S){c:Nat}(J:c<w+1)(g:c<w->S.h c∉S.nl){X:Nat->Int}(r:∀i,i<RR.length+gv.length+1->S.s i<w->X (S.s i)=S.t i c)(b:∀j,j<w->S.h j<w->X (S.h j)=if j=c then S.d else 0)
  (e:∀i,i<RR.length+gv.length+1->S.s i∈S.gd->0<=S.t i c):Kp w RR gv X (if c=w then S.d else 0)/\val w goal X=- S.t (RR.length+gv.length) c:=by
 have I:=A.mi;have C:∀q∈S.tn,w<=q:=fun q a=>by obtain⟨y,z,_,_,_,rfl⟩:=A.n1 q (A.t1 q a);lia
 obtain⟨m,p⟩:=I.vert C4 C J r b;have l:∀q∈S.gd,q∉S.tn:=fun q H F=>by
  obtain⟨y,z,x,v,u,t⟩:=A.n1 q (A.t1 q F);rcases A.g1 q H with h|⟨B,s,r,b,k,K⟩
  ·lia
  ·have:y=B:=by lia
   subst this;rw[v]at b;cases b;rw[u]at k;cases k
 have hd:=I.lin.pos;refine⟨A.to Z (fun q a=>?_) (fun q a=>?_),?_⟩
 ·have d:q<w+(RR.length+gv.length+1):=by
   rcases A.g1 q a with h|⟨y,z,_,b,_,rfl⟩
   ·lia
   ·have:=(zB.mp b).1;lia
  rcases I.pm.cov q d with⟨i,f,rfl⟩|⟨j,o,rfl⟩
  ·rw[m i f,yH (l _ a)];exact e i f a
  ·rw[p j o,yH (l _ a)];split<;>lia
 ·have d:q<w+(RR.length+gv.length+1):=by
   obtain⟨y,z,_,b,_,rfl⟩:=A.n1 q a
   have:=(zB.mp b).1;lia
  rcases I.pm.cov q d with⟨i,f,rfl⟩|⟨j,o,rfl⟩
  ·obtain⟨E,D⟩:=I.fea.n i f a
   have:S.t i c=0:=by
    by_cases h:c=w
    ·rw[h];exact E
    ·exact D c oM (g oM)
   rw[m i f,this];split<;>rfl
  ·rw[p j o,yH fun z=>g oM (by rw[<- z];exact a)]
 ·have G:=A.un (RR.length+gv.length) oM oM
  have k:=m (RR.length+gv.length) oM;rw[G]at k;have n:w+(RR.length+gv.length)∉S.tn:=fun z=>by
   obtain⟨y,s,x,_,_,t⟩:=A.n1 _ (A.t1 _ z);lia
  rw[yH n,fv zy (by rw[zH];exact Z.o),pE,yQ,Ġ]at k;lia
end
section
variable{w:Nat}{RR:List (List Int)}{gv:List Gv}{goal:List Int}{nn:Int}{HO:Nat->List Int}
theorem EA{n0:Nat}{i:Nat}(h:(eN n0 xs)[i]?=À y):∃x,xs[i]?=À x/\y=.tup [.int ((n0+i:Nat):Int),x]:=by
 unfold eN at h;rw[zR]at h;obtain⟨z,a,rfl⟩:=zE.mp h;rw[ŉ]at a;obtain⟨x,b,rfl⟩:=zE.mp a;exact⟨x,b,rfl⟩
theorem JN:bB .Eq s (.str "=") (.str "=")=À Â:=by kernel_rfl
theorem JA:bB .Eq s (.str ">") (.str "=")=À Ä:=by kernel_rfl
structure Qu(nn:Int)(w:Nat)(RR:List (List Int))(HO:Nat->List Int)(gv:List Gv)(goal:List Int):Prop where
 HR:∀st,pm aN [.int nn] st=À (.fz (aB RR),st)
 HA:∀st,pm aj [.int nn] st=À (.int w,st)
 H:HOk nn w RR.length HO
 Z:Sz w RR gv goal
 hw:w<=15
 hR:RR.length<=100
 hg:gv.length<=100
 B:Bnd w (RR.length+gv.length+1) (v0 w (ar RR gv goal))
theorem uA(q:Qu nn w RR HO gv goal){k a b c g n u p:Nat}(R:Rep st k a b c g n u rows S)(I:MI w (RR.length+gv.length+1) (v0 w (ar RR gv goal)) S)(f:p<RR.length+gv.length+1)(m:S.tn.Nodup)(r:∀x∈S.tn,x<w+(RR.length+gv.length+1)) :
  ∃st1 W st2,aK [.int nn,.ref k,.int p] st=À (.ref (st.length+1),st1)/\pm ao [.ref (st.length+1)] st1=À (.fz (iL W),st2):=by
 obtain⟨z,D,T,W,y,G,v,e,d⟩:=BT R I.shp I.pm f m r (by have:=q.hw;lia) (by have:=q.hg;have:=q.hR;lia) q.HA q.H oM;obtain⟨F,E⟩:=z;dsimp only at e d;subst e;subst d;have A:(st++[Ob.lst (iL T)]++[Ob.lst (iL W)])[st.length+1]?=À (.lst (iL W)):=by
  have:(st++[Ob.lst (iL T)]).length=st.length+1:=by simp
  rw[<- this];exact gl
 have i:∀x∈W,x.natAbs<2^9000:=fun x o=>by
  obtain⟨j,h⟩:=z9 o;have t:=(zB.mp h).1;have B:gI W j=x:=by unfold gI;rw[zD,h];rfl
  rw[<- B,v j oM];exact BU (y.bd f I.pm (q.B.bd8 I)) q.H q.hw j
 obtain⟨st2,C,_⟩:=lq (fn:=ao) (rest:=[]) (st:=st++[Ob.lst (iL T)]++[Ob.lst (iL W)]) (x:=.ref (st.length+1)) (l:=W) (.inr ⟨_,rfl,.inl A⟩) rfl rfl (fun s=>rfl) (qS (by have:=q.hg;have:=q.hR;lia) i) rfl (by simp[flat]);exact⟨_,_,st2,D,C⟩
theorem BO(q:Qu nn w RR HO gv goal):∃z,cF [.int nn,.fz (gv.map Gv.av),.fz (iL goal)] []=À z/\∃t,eS z.2 z.1=À t/\rh w RR gv goal t:=by
 have Z:=q.Z;obtain⟨m,hm⟩:∃m,m=RR.length+gv.length:=⟨_,rfl⟩;have hLl:(ar RR gv goal).length=m+1:=by rw[wL,hm]
 obtain⟨L,hL⟩:∃L,L=ar RR gv goal:=⟨_,rfl⟩;obtain⟨N,e1,R1⟩:=Gx (gv:=gv) (goal:=goal) q.HR q.HA q.hw q.hR Z.r q.hg Z.g Z.o;have A0:AI w RR.length gv (ar RR gv goal) 0 (SX.openS w (ar RR gv goal) (w+RR.length)):=by
  have hLen:∀l∈ar RR gv goal,l.length=w+1:=fun l hl=>by
   unfold ar at hl;simp only[zZ,yD,zM]at hl;rcases hl with(⟨r,hr,rfl⟩|⟨z,hz,rfl⟩)|rfl
   ·simp[Z.r r hr]
   ·simp[Z.g z hz]
   ·simp[Z.o]
  have hI:=SX.open_MI (w:=w) (nr:=RR.length) (L:=ar RR gv goal) hLen fun i B=>by
   rw[zD,tZ B];show gI (RR[i]++[0]) w=0;rw[sY (Z.r _ (ö B)),yH oM,yI rfl]
  rw[wL]at hI;refine⟨hI,fun x _ b=>SX.open_s (by rw[wL];exact b),fun x b=>.inl (Õ.mp b),fun x b=>Õ.mpr b,fun y z h=>by lia,fun x b=>?_,fun y z h=>by lia,fun x b=>?_,T!,by simp[SX.openS],zP 0,zP 0⟩
  ·exact absurd (show x ∈ ([]:List Nat) from b) (by simp)
  ·exact absurd (show x ∈ ([]:List Nat) from b) (by simp)
 have sm:=q.hg;have sm2:=q.hR;have sm3:=q.hw;rw[cF];simp only[aA];unfold nT;refine ai (sl':=[Is nn,Zs (gv.map Gv.av),Ls goal,Rs 1,Á,Á,Á,Á,Á]) (st':=N) (by simp[e1]) ?_;have l2:bQ N (.ref 2)=À (aB (ar RR gv goal)):=bC R1.ha;refine ai (sl':=[Is nn,Zs (gv.map Gv.av),Ls goal,Rs 1,Is (m:Int),Á,Á,Á,Á]) (st':=N) (by simp[R1.ins,bM,eV,l2,hLl]) ?_
 have loop:=mj (gd:=[]) (g:=b8 [bU,cE,bK,aK,ao,bH,bG,aT,cD] (.tu 2 (.cons (.nm 5) (.cons (.nm 6) .nil))))
  (s:=ag [bU,cE,bK,aK,ao,bH,bG,aT,cD] (.cons (.as (.ife (.cmp .Eq (.ix (.v 6) (.i 1)) (.s "=")) (.ca Ä 1 (.cons (.v 3) (.cons (.v 5) .nil))) (.ca Ä 2 (.cons (.v 3) (.cons (.v 5) .nil)))) (.nm 7))
   (.cons (.iff (.no (.va (.v 7))) (.cons (.rt (.tu (.cons (.s "never") (.cons (.ca Â 4 (.cons (.ca Ä 3 (.cons (.v 0) (.cons (.v 3) (.cons (.v 5) .nil)))) .nil)) .nil)))) .nil) .nil) .nil)))
  (I:=fun i sl s=>∃a P S x5 x6 x7,sl=[Is nn,Zs (gv.map Gv.av),Ls goal,Rs 1,Is (m:Int),x5,x6,x7,Á]/\Rep s 1 a 3 4 5 6 7 P S/\AI w RR.length gv (ar RR gv goal) i S)
  (Post:=fun v s=>∃t,eS s v=À t/\rh w RR gv goal t) (xs:=eN RR.length (gv.map Gv.av)) (fun _ _ _ _ _=>rfl)
  (fun i y sl s E hI=>by
   obtain⟨a,P,S,x5,x6,x7,rfl,R,A⟩:=hI;obtain⟨x,b,rfl⟩:=EA E;rw[zR]at b;obtain⟨z,hz,rfl⟩:=zE.mp b;have hzm:=zW hz;have B:=(zB.mp hz).1;have hp:RR.length+i<RR.length+gv.length+1:=by lia
   have I:=A.mi;have sp:S.s (RR.length+i)=w+RR.length+i:=by rw[A.un _ (zP _) hp];lia
   have ng:S.s (RR.length+i)∉S.gd:=fun h=>by
    rcases A.g1 _ h with h|⟨y,_,h,_,_,f⟩<;>lia
   have nn':S.s (RR.length+i)∉S.nl:=fun h=>by obtain⟨y,_,h,_,_,f⟩:=A.n1 _ h;lia
   have nt:S.s (RR.length+i)∉S.tn:=fun h=>nn' (A.t1 _ h)
   have unk:∀T:Sh,Kj (RR.length+gv.length+1) (RR.length+i) S T->∀x,RR.length+(i+1)<=x->x<RR.length+gv.length+1->T.s x=w+x:=fun T K x k f=>by
    have e:=A.un x oM f;rw[K.si x f oM (by rw[e];intro h;rcases A.g1 _ h with h|⟨y,_,h,_,_,f⟩<;>lia),e]
   have lst:∀x∈S.nl,x<w+(RR.length+gv.length+1):=fun x b=>by
    obtain⟨y,_,h,_,_,f⟩:=A.n1 _ b;lia
   have nev:∀(T:Sh),MI w (RR.length+gv.length+1) (v0 w (ar RR gv goal)) T->T.gd=S.gd->T.nl=S.nl->(∀x∈T.tn,x∈T.nl\/x=T.s (RR.length+i))->T.s (RR.length+i)=S.s (RR.length+i)->T.t (RR.length+i) w<0->(∀j,j<w->T.h j∉T.nl->¬0<T.t (RR.length+i) j)->(z.eq=Ä->T.s (RR.length+i)∉T.tn)->∀Y e,0<e->¬Kp w RR gv Y e:=fun T I' C G Q U low hr hzt Y e he F=>by
    obtain⟨f1,f2⟩:=A.of Z F;have d:=I'.dual hp hr Q (Y:=Y) (e:=e) (fun j hj h=>by
     rcases I'.fea.f j hj with k|k
     ·rw[show(T.h j∈T.gd)=(T.h j∈S.gd) by rw[C]]at k;exact f1 _ k
     ·exact absurd k h) (fun j hj h=>by rw[G]at h;exact f2 _ h)
    have neg:=j! low he;have qe:=fv (Y:=Y) (e:=e) (j5 (RR:=RR) (goal:=goal) hz) (Z.g z hzm);have e1:- z.num*e=- (z.num*e):=by grind
    rw[U,sp,ņ,qe]at d;cases u:z.eq with
    |true =>
     have:=F.eq z hzm u
     rw[show val w z.row Y+- z.num*e=0 by lia]at d;split at d<;>lia
    |false =>
     have h3:=F.ge z hzm u;have h4:=hzt u;rw[U,sp,ņ]at h4;rw[yH h4]at d
     have:=þ (Ű I'.lin.pos) (show 0 <= val w z.row Y + - z.num * e by lia)
     lia
   cases u:z.eq with
   |true =>
    obtain⟨T,s2,a2,J,bb,e2,R2,K,C,I2,hb⟩:=Js q.B R I hp ng nn' nt (by have:=A.ln;lia) (by have:=A.lt;lia);have tnd:T.tn.Nodup:=by
     rcases K.tn with h|h
     ·rw[h];exact A.tn
     ·rw[h]
      rw[Ϙ];exact⟨A.tn,by simp,fun x b y E e=>nt (by rw[<- zM.mp E,<- e];exact b)⟩
    have es:cP [bU,cE,bK,aK,ao,bH,bG,aT,cD] (.as (.ife (.cmp .Eq (.ix (.v 6) (.i 1)) (.s "=")) (.ca Ä 1 (.cons (.v 3) (.cons (.v 5) .nil))) (.ca Ä 2 (.cons (.v 3) (.cons (.v 5) .nil)))) (.nm 7)) [Is nn,Zs (gv.map Gv.av),Ls goal,Rs 1,Is (m:Int),Is ((RR.length+i:Nat):Int),À z.av,x7,Á] s
      = À (.nx [Is nn,Zs (gv.map Gv.av),Ls goal,Rs 1,Is (m:Int),Is ((RR.length+i:Nat):Int),À z.av,À (.bl bb),Á] s2):=by
     have xi:bI s z.av (.int 1)=À (.str "="):=by
      have:z.av=.tup [.fz (iL z.row),.str "=",.int z.num]:=by unfold Gv.av;rw[u];rfl
      rw[this];rfl
     simp only[c9,vw,eJ,j9,cj,ib,ER,bF,bO,Ã,xi,Ï,JN,ite_true,dA,aO,ba,ki,dB,d6,e2,BA];rfl
    rcases hb with⟨rfl,G⟩|⟨rfl,G,U,low,hr⟩
    ·refine⟨_,.nx [Is nn,Zs (gv.map Gv.av),Ls goal,Rs 1,Is (m:Int),Is ((RR.length+i:Nat):Int),À z.av,À (.bl Â),Á] s2,rfl,aq es ?_,.inl ⟨_,s2,rfl,a2,J,T,_,_,_,rfl,R2,⟨I2,unk T K,fun x b=>?_,fun x b=>by rw[C];exact A.g2 x b,fun y H E k f=>?_,fun x b=>?_,fun y H E k f=>?_,fun x b=>?_,tnd,?_,?_,?_⟩⟩⟩
     ·simp[fA,bQ,dr]
     ·rw[C]at b
      rcases A.g1 x b with h|⟨y,H,k,f⟩
      ·exact .inl h
      ·exact .inr ⟨y,H,by lia,f⟩
     ·rw[C]
      by_cases e:y=i
      ·subst e;rw[hz]at k;cases k;rw[u]at f;cases f
      ·exact A.g3 y H oM k f
     ·rw[G,zZ,zM]at b
      rcases b with b|b
      ·obtain⟨y,H,k,f⟩:=A.n1 x b;exact⟨y,H,by lia,f⟩
      ·exact⟨i,z,by lia,hz,u,by rw[b,sp]⟩
     ·rw[G,zZ,zM]
      by_cases e:y=i
      ·subst e;exact .inr (by rw[sp])
      ·exact .inl (A.n2 y H oM k f)
     ·rw[G,zZ,zM]
      rcases K.tn with h|h
      ·rw[h]at b;exact .inl (A.t1 x b)
      ·rw[h,zZ,zM]at b
       exact b.imp (A.t1 x) id
     ·rw[C];have:=A.lg;lia
     ·rw[G,zV];have:=A.ln;simp;lia
     ·rcases K.tn with h|h
      ·rw[h];have:=A.lt;lia
      ·rw[h,zV];have:=A.lt;simp;lia
    ·have tq:∀x∈T.tn,x∈T.nl\/x=T.s (RR.length+i):=fun x b=>by
      rw[G,U];rcases K.tn with h|h
      ·rw[h]at b;exact .inl (A.t1 x b)
      ·rw[h,zZ,zM]at b
       exact b.imp (A.t1 x) id
     obtain⟨s3,W,s4,e3,e4⟩:=uA q R2 I2 hp tnd fun x b=>by
      rcases tq x b with h|h
      ·rw[G]at h;exact lst x h
      ·rw[h,U,sp];lia
     refine⟨_,.rt (.tup [.str "never",.fz (iL W)]) s4,rfl,aq es ?_,.inr ⟨_,s4,rfl,_,rfl,.inl ⟨⟨W,rfl⟩,nev T I2 C G tq U low hr (fun h=>by rw[u]at h;cases h)⟩⟩⟩;rw[T1]at e3;simp[fA,bQ,dr,e3,e4]
   |false =>
    obtain⟨T,s2,a2,J,bb,e2,R2,K,Q,G,I2,hb⟩:=Jr q.B R I hp ng nn' (by have:=A.lg;lia);have es:cP [bU,cE,bK,aK,ao,bH,bG,aT,cD] (.as (.ife (.cmp .Eq (.ix (.v 6) (.i 1)) (.s "=")) (.ca Ä 1 (.cons (.v 3) (.cons (.v 5) .nil))) (.ca Ä 2 (.cons (.v 3) (.cons (.v 5) .nil)))) (.nm 7)) [Is nn,Zs (gv.map Gv.av),Ls goal,Rs 1,Is (m:Int),Is ((RR.length+i:Nat):Int),À z.av,x7,Á] s
      = À (.nx [Is nn,Zs (gv.map Gv.av),Ls goal,Rs 1,Is (m:Int),Is ((RR.length+i:Nat):Int),À z.av,À (.bl bb),Á] s2):=by
     have xi:bI s z.av (.int 1)=À (.str ">"):=by
      have:z.av=.tup [.fz (iL z.row),.str ">",.int z.num]:=by unfold Gv.av;rw[u];rfl
      rw[this];rfl
     simp only[c9,vw,eJ,j9,cj,ib,ER,bF,bO,Ã,xi,Ï,JA,yB,ite_false,dA,aO,ba,ki,dB,d6,e2,BA];rfl
    rcases hb with⟨rfl,C⟩|⟨rfl,C,U,low,hr⟩
    ·refine⟨_,.nx [Is nn,Zs (gv.map Gv.av),Ls goal,Rs 1,Is (m:Int),Is ((RR.length+i:Nat):Int),À z.av,À (.bl Â),Á] s2,rfl,aq es ?_,.inl ⟨_,s2,rfl,a2,J,T,_,_,_,rfl,R2,⟨I2,unk T K,fun x b=>?_,fun x b=>by rw[C];exact zL _ (A.g2 x b),fun y H E k f=>?_,fun x b=>?_,fun y H E k f=>?_,fun x b=>by rw[Q]at b;rw[G];exact A.t1 x b,by rw[Q];exact A.tn,?_,by rw[G];have:=A.ln;lia,by rw[Q];have:=A.lt;lia⟩⟩⟩
     ·simp[fA,bQ,dr]
     ·rw[C,zZ,zM]at b
      rcases b with b|b
      ·rcases A.g1 x b with h|⟨y,H,k,f⟩
       ·exact .inl h
       ·exact .inr ⟨y,H,by lia,f⟩
      ·exact .inr ⟨i,z,by lia,hz,u,by rw[b,sp]⟩
     ·rw[C,zZ,zM]
      by_cases e:y=i
      ·subst e;exact .inr (by rw[sp])
      ·exact .inl (A.g3 y H oM k f)
     ·rw[G]at b
      obtain⟨y,H,k,f⟩:=A.n1 x b;exact⟨y,H,by lia,f⟩
     ·rw[G]
      by_cases e:y=i
      ·subst e;rw[hz]at k;cases k;rw[u]at f;cases f
      ·exact A.n2 y H oM k f
     ·rw[C,zV];have:=A.lg;simp;lia
    ·have tq:∀x∈T.tn,x∈T.nl\/x=T.s (RR.length+i):=fun x b=>.inl (by rw[Q]at b;rw[G];exact A.t1 x b)
     obtain⟨s3,W,s4,e3,e4⟩:=uA q R2 I2 hp (by rw[Q];exact A.tn) fun x b=>by rw[Q]at b;exact lst x (A.t1 x b)
     refine⟨_,.rt (.tup [.str "never",.fz (iL W)]) s4,rfl,aq es ?_,.inr ⟨_,s4,rfl,_,rfl,.inl ⟨⟨W,rfl⟩,nev T I2 C G tq U low hr (fun _=>by rw[Q,U];exact nt)⟩⟩⟩;rw[T1]at e3;simp[fA,bQ,dr,e3,e4]) (sl:=[Is nn,Zs (gv.map Gv.av),Ls goal,Rs 1,Is (m:Int),Á,Á,Á,Á]) (st:=N) ⟨2,_,_,Á,Á,Á,rfl,R1,A0⟩
 have ei:dH [bU,cE,bK,aK,ao,bH,bG,aT,cD] (.es (.v 1) (.bin .Sub (.v 4) (.bi .len (.cons (.v 1) .nil)))) [Is nn,Zs (gv.map Gv.av),Ls goal,Rs 1,Is (m:Int),Á,Á,Á,Á] N=À (⟨eN RR.length (gv.map Gv.av),[]⟩,N):=by
  have k:(m:Int)-(gv.length:Int)=(RR.length:Int):=by lia
  have f:Þ RR.length 1000000=Â:=yL oM;simp[sP,bM,eV,k];lia
 rcases loop with⟨sl',st2,e2,a,P,S,x5,x6,x7,rfl,R,A⟩|⟨v,st2,e2,t,Q,hA⟩
 ·rw[show(eN RR.length (gv.map Gv.av)).length=gv.length by unfold eN;simp]at A
  refine ai (sl':=[Is nn,Zs (gv.map Gv.av),Ls goal,Rs 1,Is (m:Int),x5,x6,x7,Á]) (st':=st2) (by rw[kg,ei,Ã];exact e2) ?_;have hp:m<RR.length+gv.length+1:=by lia
  have spg:S.s m=w+m:=A.un m oM hp;have ng:S.s m∉S.gd:=fun h=>by rcases A.g1 _ h with h|⟨y,_,h,_,_,f⟩<;>lia
  obtain⟨r,e3,n,a3,rows3,R3,K,o,sp3,h3⟩:=EB q.B R A.mi hp ng;have A3:AI w RR.length gv (ar RR gv goal) gv.length n:=by
   refine⟨o,fun x k f=>?_,by rw[K.gd];exact A.g1,by rw[K.gd];exact A.g2,by rw[K.gd];exact A.g3,by rw[K.nl];exact A.n1,by rw[K.nl];exact A.n2,by rw[K.tn,K.nl];exact A.t1,by rw[K.tn];exact A.tn,by rw[K.gd];exact A.lg,by rw[K.nl];exact A.ln,by rw[K.tn];exact A.lt⟩;have:x=m:=by lia
   subst this;rw[sp3,spg]
  have P3:=o.shp;have lst:∀x∈n.tn,x<w+(RR.length+gv.length+1):=fun x b=>by
   obtain⟨y,_,h,_,_,f⟩:=A3.n1 _ (A3.t1 x b);lia
  obtain⟨r1,r2⟩:=r;dsimp only at R3 h3
  have tb:∀X,GX n w w (RR.length+gv.length+1) X->Kp w RR gv (gI X) n.d/\val w goal (gI X)=- n.t m w:=fun X D=>by
   have:=A3.vert Z (c:=w) oM (fun h=>by lia) (X:=gI X) D.at_ (fun j hj h=>by
    rw[yH oM];exact D.no _ h fun i B=>ã (o.pm.hs j i hj B)) (fun i B C=>o.fea.g i B C)
   rw[yI rfl,<- hm]at this;exact this
  rcases h3 with⟨rfl,hr⟩|⟨M,rfl,hr,htn⟩
  ·refine ai (sl':=[Is nn,Zs (gv.map Gv.av),Ls goal,Rs 1,Is (m:Int),x5,x6,x7,À .non]) (st':=r2) (by simp[R.ins,e3]) ?_
   obtain⟨z,e4,X,T,W,D,hT,hl,hW,hz⟩:=Bn (m:=RR.length+gv.length) (p:=m) R3 o q.B oM A3.tn lst q.hw oM q.HA q.H oM;obtain⟨z1,z2⟩:=z;dsimp only at hz;have gb:∀x∈X,x.natAbs<2^1900:=ot fun i B=>by
    rw[D.len]at B;by_cases h:∃y,y<RR.length+gv.length+1/\n.s y=i
    ·obtain⟨y,E,rfl⟩:=h
     rw[D.at_ y E B];exact(q.B.bd2 o).2 y E w oM
    ·rw[D.no i B fun y E z=>h ⟨y,E,z⟩];exact ß _
   refine⟨(z1,z2),by simp[e4],z1,by rw[hz];rfl,.inr (.inl ⟨- n.t m w,n.d,_,_,_,_,hz,o.lin.pos,⟨by rw[ð];exact(q.B.bd2 o).2 m oM w oM,(q.B.bd2 o).1⟩,TbS.of D.len o.lin.pos ⟨gb,(q.B.bd2 o).1⟩ (tb X D).1 (tb X D).2,fun Y e he F=>?_⟩)⟩;obtain⟨f1,f2⟩:=A3.of Z F;have d:=o.dual hp (hr.1 rfl) (fun x b=>.inl (A3.t1 x b)) (Y:=Y) (e:=e) (fun j hj h=>by
    rcases o.fea.f j hj with k|k
    ·exact f1 _ k
    ·exact absurd k h) (fun j hj h=>f2 _ h)
   have hnt:n.s m∉n.tn:=fun z=>by
    obtain⟨y,_,h,_,_,f⟩:=A3.n1 _ (A3.t1 _ z);rw[sp3,spg]at f;lia
   rw[yH hnt,sp3,spg,hm,fv zy (by rw[zH];exact Z.o),pE,yQ,Ġ,<- hm]at d;have e5:n.d*- val w goal Y=- (val w goal Y*n.d):=by grind
   have e6:- n.t m w*e=- (n.t m w*e):=by grind
   lia
  ·refine ai (sl':=[Is nn,Zs (gv.map Gv.av),Ls goal,Rs 1,Is (m:Int),x5,x6,x7,Is (M:Int)]) (st':=r2) (by simp[R.ins,e3]) ?_
   obtain⟨q1,q2,q3,_⟩:=hr.2 M rfl;obtain⟨X,T,st4,e4,eT,D,R4⟩:=B3 R3 P3 o.pm (q.B.bd o) q.HA oM oM;subst eT;have gb:∀c,c<w+1->∀X,GX n w c (RR.length+gv.length+1) X->∀x∈X,x.natAbs<2^1900:=fun c hc X D=>ot fun i B=>by
    rw[D.len]at B;by_cases h:∃y,y<RR.length+gv.length+1/\n.s y=i
    ·obtain⟨y,E,rfl⟩:=h
     rw[D.at_ y E B];exact(q.B.bd2 o).2 y E c hc
    ·rw[D.no i B fun y E z=>h ⟨y,E,z⟩];exact ß _
   obtain⟨X2,st5,e5,O⟩:=Ij R4 P3 o.pm (q.B.bd o) q.HA oM oM q1;obtain⟨V,hV⟩:∃V,V=if n.h M<w then X2.set (n.h M) n.d else X2:=⟨_,rfl⟩
   rw[<- hV]at e5;have hVl:V.length=w:=by rw[hV];split<;>simp[O.len]
   have hVb:∀x∈V,x.natAbs<2^1900:=fun x b=>by
    rw[hV]at b;split at b
    ·rcases ć b with h|h
     ·exact gb M oM X2 O x h
     ·rw[h];exact(q.B.bd2 o).1
    ·exact gb M oM X2 O x b
   have hVx:∀x,x<w->gI V x=if x=n.h M then n.d else gI X2 x:=fun x b=>by
    rw[hV];by_cases h:n.h M<w
    ·rw[yI h,pX (by rw[O.len];exact h)]
    ·rw[yH h,yH oM]
   obtain⟨g',hg',eg⟩:=wn V;refine⟨(.tup [.str "endless",.tup [.fz (iL ((ax (X++[n.d])).take w)),.int (gI (ax (X++[n.d])) w)],.fz (iL (ax V))],st5),by simp[e4,e5],_,rfl,.inr (.inr ⟨_,_,_,rfl,(TbS.of D.len o.lin.pos ⟨gb w oM X D,(q.B.bd2 o).1⟩ (tb X D).1 (tb X D).2).1,⟨by rw[iW,hVl],ot fun i _=>xQ (ß _) hVb i⟩,?_⟩)⟩
   have:=A3.vert Z (c:=M) oM (fun _=>q2) (X:=fun x=>if x=n.h M then n.d else gI X2 x) (fun i B U=>by
    rw[yH (ã (o.pm.hs M i q1 B))];exact O.at_ i B U) (fun j hj h=>by
    by_cases e:j=M
    ·subst e;rw[yI rfl,yI rfl]
    ·rw[yH fun z=>e (o.pm.hi j M hj q1 z),yH e]
     exact O.no _ h fun i B=>ã (o.pm.hs j i hj B)) (fun i B C=>by have:=htn.1 rfl i B C;lia)
   rw[yH oM,<- hm]at this;have ew:∀x,x<w->(if x=n.h M then n.d else gI X2 x)=g'*gI (ax V) x:=fun x b=>by rw[<- eg,hVx x b]
   refine⟨this.1.div hg' (by rw[yP]) ew,?_⟩;have e2:=this.2;rw[nU ew]at e2;have:g'*val w goal (gI (ax V))<0:=by rw[e2];lia
   rcases yV (val w goal (gI (ax V))) 0 with h|h
   ·exact h
   ·have:=þ (Ű hg') h;lia
 ·refine⟨(v,st2),?_,t,Q,hA⟩
  refine bh ?_;rw[kg,ei,Ã];exact e2
end
noncomputable def RR2:List (List Int):=[[0,-1,1],[-1,0,1],[1,1,-1]]
noncomputable def K7:Nat->List Int
 |1=>[1,0,1]
 |2=>[0,1,1]
 |_=>[1,1,1]
noncomputable def RR3:List (List Int):=[[0,0,0,0,0,-1,1],[0,0,0,0,-1,0,1],[0,0,-1,0,0,0,1],[1,1,-1,0,0,0,0],[0,0,0,-1,1,1,-1],[1,0,0,1,-1,0,0],[0,-1,1,0,0,1,-1],[0,1,0,1,0,-1,0],[-1,0,1,0,1,0,-1]]
noncomputable def K6:Nat->List Int
 |1=>[1,0,0,1,0,0,1,0,0]
 |2=>[0,1,0,1,0,0,0,0,1]
 |3=>[1,1,0,1,0,0,1,0,1]
 |4=>[0,0,1,0,0,1,0,0,1]
 |5=>[1,0,1,1,0,0,1,0,1]
 |6=>[0,1,1,1,0,0,1,0,1]
 |_=>[1,1,1,1,0,0,1,0,1]
noncomputable def mk(w p m:Nat):List Int:=(Æ w).map fun i=>if p.testBit i then 1 else if m.testBit i then -1 else 0
def RR4:List (List Int):=[(16384,8192),(16384,4096),(16384,1024),(16384,64),(3,4),(48,72),(768,1152),(12288,18432),(9,16),(36,66),(2304,4224),(9216,16896),(129,256),(516,1026),(2064,4104),(8256,16416),(10,32),(20,65),(2560,8320),(5120,16640),(130,512),(260,1025),(2080,8200),(4160,16400),(136,2048),(272,4097),(544,8194),(1088,16388)].map fun z:Nat×Nat=>mk 15 z.1 z.2
def K5(g:Nat):List Int:=mk 28 ([33297,8519698,8552979,134349060,134382101,142737942,142770711,136318984,136348185,142745626,142770715,142754060,142770717,142770718,142770719].getD (g-1) 0) 0
theorem c8(a:rfs args=Â)(h:((fn args []).bind fun p=>eS p.2 p.1)=À t):pm fn args st=À (t,st):=by
 obtain⟨p,c,b⟩:=zA h;exact b9 a c b
def MT(b:Int)(w nr:Nat)(HO:Nat->List Int):Bool:=(Æ w).all fun g=>(match (cT [.int b,.int ((g+1:Nat):Int),.int 0] []).bind fun p=>eS p.2 p.1 with
 |some a=>rf a&&(match (eD [.int b,a] []).bind fun p=>eS p.2 p.1 with
  |some x=>cU x (.fz (iL (HO (g+1))))
  |none=>Ä)
 |none=>Ä)&&((HO (g+1)).length==nr&&(HO (g+1)).all fun x=>Þ x.natAbs 15)
theorem qW{f:Int}{w nr:Nat}{HO:Nat->List Int}(h:MT f w nr HO=Â):HOk f w nr HO:=by
 have at_:∀a:Nat,1<=a->a<=w->(∃e,(∀b,pm cT [.int f,.int a,.int 0] b=À (e,b))/\∀b,pm eD [.int f,e] b=À (.fz (iL (HO a)),b))/\(HO a).length=nr/\∀x∈HO a,x.natAbs<=15:=fun a d c=>by
  obtain⟨g,rfl⟩:∃g,a=g+1:=⟨a-1,by lia⟩;have h:=yR.mp h g (Õ.mpr oM);simp only[zC]at h;obtain⟨i,o,n⟩:=h;refine⟨?_,yK o,fun x l=>zS (yR.mp n x l)⟩;split at i
  ·rename_i e p
   simp only[zC]at i;obtain⟨m,j⟩:=i;split at j
   ·rename_i x k
    rw[vi j]at k;exact⟨e,fun b=>c8 rfl p,fun b=>c8 (by simp[rfs,rf,m]) k⟩
   ·cases j
  ·cases i
 exact⟨fun a d c=>(at_ a d c).1,fun a d c=>(at_ a d c).2.1,fun a d c=>(at_ a d c).2.2⟩
theorem Lb:∀st,pm aj [.int 2] st=À (.int ((3:Nat):Int),st):=fun st=>c8 rfl (by kernel_rfl)
theorem La:∀st,pm aj [.int 3] st=À (.int ((7:Nat):Int),st):=fun st=>c8 rfl (by kernel_rfl)
theorem K9:∀st,pm aj [.int 4] st=À (.int ((15:Nat):Int),st):=fun st=>c8 rfl (by kernel_rfl)
theorem Ng:∀st,pm aN [.int 2] st=À (.fz (aB RR2),st):=fun st=>c8 rfl (by kernel_rfl)
theorem Nf:∀st,pm aN [.int 3] st=À (.fz (aB RR3),st):=fun st=>c8 rfl (by kernel_rfl)
theorem Nd:∀st,pm aN [.int 4] st=À (.fz (aB RR4),st):=fun st=>c8 rfl (by kernel_rfl)
theorem Nk:HOk 2 3 RR2.length K7:=qW (by kernel_rfl)
theorem Nj:HOk 3 7 RR3.length K6:=qW (by kernel_rfl)
theorem Ni:HOk 4 15 RR4.length K5:=qW (by kernel_rfl)
noncomputable def RR1:List (List Int):=[[1]]
noncomputable def K8:Nat->List Int:=fun _=>[1]
theorem Lc:∀st,pm aj [.int 1] st=À (.int ((1:Nat):Int),st):=fun st=>c8 rfl (by kernel_rfl)
theorem Nh:∀st,pm aN [.int 1] st=À (.fz (aB RR1),st):=fun st=>c8 rfl (by kernel_rfl)
theorem Nl:HOk 1 1 RR1.length K8:=qW (by kernel_rfl)
noncomputable def M0:Nat:=2^115
theorem HM{w:Nat}(o:w<=15)(t:RR.length<=100)(s:gv.length<=100)(k:∀l∈RR,∀x∈l,x.natAbs<=M0)(c:∀z∈gv,(∀x∈z.row,x.natAbs<=M0)/\z.num.natAbs<=M0)(j:∀x∈goal,x.natAbs<=M0):Bnd w (RR.length+gv.length+1) (v0 w (ar RR gv goal)):=by
 refine⟨⟨M0,ŕ,fun q x n=>?_,?_⟩,by lia,by lia⟩
 ·have i:1<=M0:=ŕ
  unfold v0;split
  ·split<;>simp[i]
  ·unfold gI
   rw[zD,zD];cases e:(ar RR gv goal)[q-w]? with
   |none=>simp
   |some l =>
    have b:=zW e;simp only[ϗ];cases m:l[x]? with
    |none=>simp
    |some y =>
     have a:=zW m;simp only[ϗ];unfold ar at b;simp only[zZ,yD,zM]at b;rcases b with(⟨r,g,rfl⟩|⟨z,hz,rfl⟩)|rfl
     ·rcases zZ.mp a with h|h
      ·exact k r g y h
      ·rw[zM.mp h];simp
     ·rcases zZ.mp a with h|h
      ·exact(c z hz).1 y h
      ·rw[zM.mp h,ð];exact(c z hz).2
     ·rcases zZ.mp a with h|h
      ·obtain⟨u,d,rfl⟩:=yD.mp h
       rw[ð];exact j u d
      ·rw[zM.mp h];simp
 ·have f:SX.fct (w+1)<=2^45:=(by decide:∀w,w<16->SX.fct (w+1)<=2^45) w oM
  have p:M0^(w+1)<=2^1840:=by
   unfold M0;rw[<- Nat.pow_mul];exact ü dC oM
  refine yM (Ŗ f p) ?_;rw[<- Ϧ];exact Ħ dC dC
def km(a:List Int)(RR:List (List Int))(x:Nat):Int:=((a.zip RR).map fun z=>z.1*gI z.2 x).sum
theorem uF{w:Nat}{Y:Nat->Int}:∀(cs:List Int)(RR:List (List Int)),Of w (fun x=>km cs RR x*Y x)=((cs.zip RR).map fun z=>z.1*val w z.2 Y).sum
 |[],_=>by simp[km];exact SX.sum_zero fun _ _=>rfl
 |_::_,[]=>by simp[km];exact SX.sum_zero fun _ _=>rfl
 |c::cs,r::RR=>by
  rw[Ļ,zO,i!,<- uF cs RR];unfold val;rw[<- SX.sum_mul,<- SX.sum_add];refine SX.sum_congr fun x _=>?_
  show km (c::cs) (r::RR) x*Y x=_;have:km (c::cs) (r::RR) x=c*gI r x+km cs RR x:=by simp[km]
  rw[this];grind
theorem G1{w:Nat}{Y:Nat->Int}{a:List Int}{RR:List (List Int)}(e:∀c∈a,0<=c)(h:∀r∈RR,0<=val w r Y):0<=((a.zip RR).map fun z=>z.1*val w z.2 Y).sum:=by
 have:∀l:List (Int×List Int),(∀z∈l,0<=z.1/\0<=val w z.2 Y)->0<=(l.map fun z=>z.1*val w z.2 Y).sum:=fun l=>by
  induction l with
  |nil=>intro _;simp
  |cons z l b =>
   intro h;rw[zO,i!];have g:=þ (h z z7).1 (h z z7).2;have f:=b fun y d=>h y (zQ _ d)
   lia
 exact this _ fun z hz=>⟨e _ (Ĺ hz).1,h _ (Ĺ hz).2⟩
def Kw(w:Nat)(RR:List (List Int))(HO:Nat->List Int):Bool:=(Æ w).all fun g=>(HO (g+1)).all (fun c=>decide (0<=c))&&(Æ w).all fun x=>km (HO (g+1)) RR x==if x=g then 1 else 0
theorem vY{w:Nat}{RR:List (List Int)}{HO:Nat->List Int}(a:Kw w RR HO=Â):∀Y:Nat->Int,(∀r∈RR,0<=val w r Y)->∀x,x<w->0<=Y x:=fun Y h g d=>by
 have a:=yR.mp a g (Õ.mpr d);rw[zC]at a;have f:∀c∈HO (g+1),0<=c:=fun c f=>of_decide_eq_true (yR.mp a.1 c f)
 have b:∀x,x<w->km (HO (g+1)) RR x=if x=g then 1 else 0:=fun x b=>yK (yR.mp a.2 x (Õ.mpr b))
 have e:=uF (w:=w) (Y:=Y) (HO (g+1)) RR;rw[SX.sum_one d fun x j i=>by rw[b x j,yH i,yQ],b g d,yI rfl,Ź]at e;rw[e];exact G1 f h
def dN(n:Nat):Prop:=n=1\/n=2\/n=3\/n=4
def jg(n:Nat):List (List Int):=if n=1 then RR1 else if n=2 then RR2 else if n=3 then RR3 else RR4
def K4(n:Nat):Nat->List Int:=if n=1 then K8 else if n=2 then K7 else if n=3 then K6 else K5
theorem MK{n:Nat}{gv:List Gv}{goal:List Int}(b:dN n)(c:gv.length<=100)(g:∀z∈gv,z.row.length=2^n-1/\(∀x∈z.row,x.natAbs<=M0)/\z.num.natAbs<=M0)(f:goal.length=2^n-1/\∀x∈goal,x.natAbs<=M0):Qu n (2^n-1) (jg n) (K4 n) gv goal:=by
 have h:∀l∈jg n,l.length=2^n-1/\∀x∈l,x.natAbs<=1:=by rcases b with rfl|rfl|rfl|rfl<;>decide +kernel
 have d:(jg n).length<=100:=by rcases b with rfl|rfl|rfl|rfl<;>decide
 have a:2^n-1<=15:=by rcases b with rfl|rfl|rfl|rfl<;>decide
 have k:1<=M0:=ŕ;have j:Kw (2^n-1) (jg n) (K4 n)=Â:=by rcases b with rfl|rfl|rfl|rfl<;>kernel_rfl
 have B:=HM a d c (fun l e x i=>z5 ((h l e).2 x i) k) (fun z hz=>(g z hz).2) f.2;have Z:Sz (2^n-1) (jg n) gv goal:=⟨fun l e=>(h l e).1,fun z hz=>(g z hz).1,f.1,vY j⟩;rcases b with rfl|rfl|rfl|rfl
 ·exact⟨Nh,Lc,Nl,Z,a,d,c,B⟩
 ·exact⟨Ng,Lb,Nk,Z,a,d,c,B⟩
 ·exact⟨Nf,La,Nj,Z,a,d,c,B⟩
 ·exact⟨Nd,K9,Ni,Z,a,d,c,B⟩
theorem HV{a:Int}{w:Nat}{RR:List (List Int)}{HO:Nat->List Int}{gv:List Gv}{goal:List Int}(q:Qu a w RR HO gv goal):∃t,(∀st,pm cF [.int a,.fz (gv.map Gv.av),.fz (iL goal)] st=À (t,st))/\rh w RR gv goal t:=by
 obtain⟨z,e,t,h,A⟩:=BO q;exact⟨t,fun st=>b9 rfl e h,A⟩
theorem l8{a b:Int}(h:a.natAbs<2^62):c4 a b=Â:=by
 unfold c4;have:Þ a.natAbs.log2 62=Â:=yL (by
  by_cases hz:a.natAbs=0
  ·rw[hz];decide
  ·exact yZ ((Ą hz).mpr h))
 rw[this];simp
theorem qR{a b:Int}(h:b.natAbs<2^62):c4 a b=Â:=by
 unfold c4;have:Þ b.natAbs.log2 62=Â:=yL (by
  by_cases hz:b.natAbs=0
  ·rw[hz];decide
  ·exact yZ ((Ą hz).mpr h))
 rw[this];simp
theorem mn{a b:Int}(h:0<b):qv a b=a%b:=yI h
theorem CA{a b:Int}(h:0<b):vc a b=a/b:=yI h
theorem ou{a b:Int}(h:0<b):0<=a%b/\a%b<b:=⟨Ó _ oM,Ñ _ h⟩
theorem Ji{c:Int}{k:Nat}(d:k<=1000):∃m:Int,pm c6 [.int c,.int k] st=À (.int m,st)/\0<=m/\m<2147483629:=by
 have l:((k:Int)*(k:Int)).natAbs<2^62:=by
  rw[xA,ļ];have:k*k<=1000*1000:=Ŗ d d;exact yM this dC
 obtain⟨x,e⟩:∃x,x=(c%2147483647+(k:Int)*(k:Int)*7919+104729)*48271%2147483647:=⟨_,rfl⟩;have g:=ou (a:=(c%2147483647+(k:Int)*(k:Int)*7919+104729)*48271) (b:=2147483647) dC;rw[<- e]at g;have f:x.natAbs<2^62:=by have:(2:Nat)^62=4611686018427387904:=dC;lia
 refine⟨(x*x+69621*(k:Int))%2147483629,b9 rfl (v:=.int ((x*x+69621*(k:Int))%2147483629)) (st':=[]) ?_ rfl,(ou dC).1,(ou dC).2⟩;have j:c4 (k:Int) (k:Int)=Â:=l8 (by rw[ļ];exact yM d dC);have m2:c4 ((k:Int)*(k:Int)) 7919=Â:=qR dC;have m3:c4 (c%2147483647+(k:Int)*(k:Int)*7919+104729) 48271=Â:=qR dC;have i:c4 x x=Â:=l8 f;have h:c4 69621 (k:Int)=Â:=l8 dC;rw[c6,aA];unfold kM;refine ae (sl':=[Is c,Is (k:Int),Is x]) (st':=[]) ?_ ?_
 ·simp [iM (show (2147483647:Int) ≠ 0 by decide),mn (show (0:Int) < 2147483647 by decide),ce j,ce m2,ce m3,<- e]
 ·simp [iM (show (2147483629:Int) ≠ 0 by decide),mn (show (0:Int) < 2147483629 by decide),ce i,ce h]
theorem vU:aZ .Pow st (.int 10) (.int 18)=À (.int 1000000000000000000):=by kernel_rfl
theorem EC(hn:ns.length<=63):∃A B D,fg [.fz (iL ns),.int 1,.int 400] []=À (.ref 2,[A,B,Ob.lst (iL D)])/\D.length=400/\∀x∈D,0<=x/\x<2147483587:=by
 obtain⟨C,T⟩:∃C,C=ns++[1]:=⟨_,rfl⟩;have lC:C.length=ns.length+1:=by rw[T];simp
 obtain⟨sl',st',e,d,f,E,w,p,rfl,rfl,K,o,G⟩:=eC (gd:=[]) (g:=b8 [c6] (.nm 6)) (s:=ag [c6] (.cons (.as (.bin .Mod (.v 6) (.bi .len (.cons (.v 3) .nil))) (.nm 7))
 (.cons (.as (.ca Â 0 (.cons (.ix (.v 3) (.v 7)) (.cons (.v 6) .nil))) (.nm 8))
 (.cons (.as (.bin .Mod (.bin .Add (.bin .Mult (.v 8) (.v 8)) (.bin .Mult (.i 7) (.v 6))) (.i 2147483587)) (.nm 8))
 (.cons (.iff (.an (.cmp .GtE (.ix (.v 3) (.v 7)) (.bin .Pow (.i 10) (.i 18))) (.cmp .Gt (.ix (.v 4) (.v 7)) (.i 0)))
 (.cons (.as (.bin .Mod (.ix (.v 4) (.v 7)) (.i 2147483587)) (.nm 8))
 (.cons (.as (.bin .FloorDiv (.ix (.v 4) (.v 7)) (.i 2147483587)) (.su (.v 4) (.v 7)))
 .nil))
 .nil)
 (.cons (.ex (.mt .app (.v 5) (.cons (.v 8) .nil)))
 .nil))))))
  (I:=fun i sl s=>∃d f E w p,s=[Ob.lst (iL d),Ob.lst (iL f)]/\sl=[Ls ns,Is 1,Is 400,Ls C,Rs 0,Rs 1,E,w,p]/\d.length=C.length/\f.length=i/\∀x∈f,0<=x/\x<2147483587) (xs:=cZ 0 401) (fun _ _ _ _ _=>rfl)
  (fun i y sl s r Y=>by
   obtain⟨d,f,E,w,p,rfl,rfl,K,o,G⟩:=Y;rw[oe]at r;have S:i<401:=by have:=(zB.mp r).1;simpa using this
   have Z:y=.int ((i:Nat):Int):=by
    rw[gV (by simpa using S)]at r;injection r with r;rw[<- r];simp[zD,S]
   subst Z;obtain⟨q,R⟩:∃q,q=i%C.length:=⟨_,rfl⟩;have W:q<C.length:=by rw[R];exact Nat.mod_lt _ oM
   obtain⟨m,em,m0,m1⟩:=Ji (c:=gI C q) (k:=i) oM (st:=[Ob.lst (iL d),Ob.lst (iL f)]);have v:bI [Ob.lst (iL d),Ob.lst (iL f)] (.fz (iL C)) (.int (q:Int))=À (.int (gI C q)):=by rw[cL fj,cx,ci W]
   have N:bI [Ob.lst (iL d),Ob.lst (iL f)] (.ref 0) (.int (q:Int))=À (.int (gI d q)):=by rw[cL (bC rfl),cx,ci oM]
   have O:c4 m m=Â:=l8 (by have:(2:Nat)^62=4611686018427387904:=dC;lia);have P:c4 7 (i:Int)=Â:=l8 dC;have U:qv ((i:Nat):Int) ((C.length:Nat):Int)=((q:Nat):Int):=by rw[mn oM,R];simp
   have u:(0:Int)<2147483587:=by decide
   have app:∀(j:List Int)(x:Int)(z8:Option AV),cP [c6] (.ex (.mt .app (.v 5) (.cons (.v 8) .nil))) [Ls ns,Is 1,Is 400,Ls C,Rs 0,Rs 1,Is (i:Int),Is (q:Int),Is x] [Ob.lst (iL j),Ob.lst (iL f)]=À (.nx [Ls ns,Is 1,Is 400,Ls C,Rs 0,Rs 1,Is (i:Int),Is (q:Int),Is x] [Ob.lst (iL j),Ob.lst (iL (f++[x]))]):=fun j x _=>by
    rw[Aw,CL (k:=1) (xs:=iL f) (y:=.int x) rfl rfl rfl (by simp;lia),Hh,yo];rfl
   by_cases J:1000000000000000000<=gI C q/\0<gI d q
   ·refine⟨_,[Ls ns,Is 1,Is 400,Ls C,Rs 0,Rs 1,Is (i:Int),Is (q:Int),Is (gI d q%2147483587)],[Ob.lst (iL (d.set q (gI d q/2147483587))),Ob.lst (iL (f++[gI d q%2147483587]))],rfl,?_,_,_,_,_,_,rfl,rfl,by simp[K],by simp[o],fun x t=>?_⟩
    ·refine aq (sl':=[Ls ns,Is 1,Is 400,Ls C,Rs 0,Rs 1,Is (i:Int),Is (q:Int),p]) (st':=[Ob.lst (iL d),Ob.lst (iL f)]) ?_ ?_
     ·simp [bM,eV,iM (show ((C.length:Nat):Int) ≠ 0 by lia),U]
     refine aq (sl':=[Ls ns,Is 1,Is 400,Ls C,Rs 0,Rs 1,Is (i:Int),Is (q:Int),Is m]) (st':=[Ob.lst (iL d),Ob.lst (iL f)]) (by simp[v,em]) ?_;refine aq (sl':=[Ls ns,Is 1,Is 400,Ls C,Rs 0,Rs 1,Is (i:Int),Is (q:Int),Is ((m*m+7*(i:Int))%2147483587)]) (st':=[Ob.lst (iL d),Ob.lst (iL f)]) ?_ ?_
     ·simp [ce O,ce P,iM (show (2147483587:Int) ≠ 0 by decide),mn u]
     refine aq (sl':=[Ls ns,Is 1,Is 400,Ls C,Rs 0,Rs 1,Is (i:Int),Is (q:Int),Is (gI d q%2147483587)]) (st':=[Ob.lst (iL (d.set q (gI d q/2147483587))),Ob.lst (iL f)]) ?_ (aq (app _ _ Á) rfl);have L:eF 2147483587=Â:=by decide
     have Q:=cW (st:=[Ob.lst (iL d),Ob.lst (iL f)]) (k:=0) (q:=q) (xs:=iL d) (x:=.int (gI d q / 2147483587)) rfl (by simp;lia);rw [fK] at Q;simp [v,N,vU,J.1,J.2,iM (show (2147483587:Int) ≠ 0 by decide),mn u,mv L,CA u,Q]
    ·rcases zZ.mp t with h|h
     ·exact G x h
     ·rw[zM.mp h];exact ou u
   ·refine⟨_,[Ls ns,Is 1,Is 400,Ls C,Rs 0,Rs 1,Is (i:Int),Is (q:Int),Is ((m*m+7*(i:Int))%2147483587)],[Ob.lst (iL d),Ob.lst (iL (f++[(m*m+7*(i:Int))%2147483587]))],rfl,?_,_,_,_,_,_,rfl,rfl,K,by simp[o],fun x t=>?_⟩
    ·refine aq (sl':=[Ls ns,Is 1,Is 400,Ls C,Rs 0,Rs 1,Is (i:Int),Is (q:Int),p]) (st':=[Ob.lst (iL d),Ob.lst (iL f)]) ?_ ?_
     ·simp [bM,eV,iM (show ((C.length:Nat):Int) ≠ 0 by lia),U]
     refine aq (sl':=[Ls ns,Is 1,Is 400,Ls C,Rs 0,Rs 1,Is (i:Int),Is (q:Int),Is m]) (st':=[Ob.lst (iL d),Ob.lst (iL f)]) (by simp[v,em]) ?_;refine aq (sl':=[Ls ns,Is 1,Is 400,Ls C,Rs 0,Rs 1,Is (i:Int),Is (q:Int),Is ((m*m+7*(i:Int))%2147483587)]) (st':=[Ob.lst (iL d),Ob.lst (iL f)]) ?_ ?_
     ·simp [ce O,ce P,iM (show (2147483587:Int) ≠ 0 by decide),mn u]
     refine aq (sl':=[Ls ns,Is 1,Is 400,Ls C,Rs 0,Rs 1,Is (i:Int),Is (q:Int),Is ((m*m+7*(i:Int))%2147483587)]) (st':=[Ob.lst (iL d),Ob.lst (iL f)]) ?_ (aq (app _ _ Á) rfl);by_cases n:1000000000000000000<=gI C q
     ·have H:¬0<gI d q:=fun z=>J ⟨n,z⟩
      simp[v,N,vU,n,H]
     ·simp[v,vU,n]
    ·rcases zZ.mp t with h|h
     ·exact G x h
     ·rw[zM.mp h];exact ou u) (sl:=[Ls ns,Is 1,Is 400,Ls C,Rs 0,Rs 1,Á,Á,Á]) (st:=[Ob.lst (iL (C.map fun x=>x/100000)),Ob.lst (iL [])]) ⟨_,[],Á,Á,Á,rfl,rfl,by simp,rfl,by simp⟩
 have rl:(cZ 0 401).length=401:=by decide
 rw[rl]at o;refine⟨Ob.lst (iL d),Ob.lst (iL f),f.drop 1,?_,by simp[o],fun x t=>G x (List.mem_of_mem_drop t)⟩;rw[fg,aA];unfold je;refine ae (sl':=[Ls ns,Is 1,Is 400,Ls C,Á,Á,Á,Á,Á]) (st':=[]) ?_ ?_
 ·have M:cut (iL ns) Á (À 63)=iL ns:=by
   unfold cut;have:HT.Oo (iL ns).length (iL ns).length (À 63)=(iL ns).length:=by
    rw[show(63:Int)=((63:Nat):Int) from rfl,HT.sIx_nat,gF];lia
   rw[this,HT.sIx_none,Ĥ,Ŕ,Ī]
  have c:=jZ (ks:=[c6]) (a:=.nw Ä (.sl (.v 0) .no (.so (.i 63)))) (b:=.nw Ä (.li (.cons (.v 1) .nil))) (sl:=[Ls ns,Is 1,Is 400,Á,Á,Á,Á,Á,Á]) (st:=[]) (s1:=[]) (s2:=[]) (x:=.fz (iL ns)) (y:=.fz [AV.int 1]) (l:=ns) (l':=[1]) (by simp[mJ,mG,M]) (by simp[cw]) rfl rfl (by simp;lia);simp[-qQ,c,T]
 refine ae (sl':=[Ls ns,Is 1,Is 400,Ls C,Rs 0,Á,Á,Á,Á]) (st':=[Ob.lst (iL (C.map fun x=>x/100000))]) ?_ ?_
 ·have L:eF 100000=Â:=by decide
  simp [cp (show C.length <= 1000 by lia)];rw [kr (F:=fun x=>x / 100000) gq fun x t=>⟨_,rfl,rfl,by simp [mv L,CA (show (0:Int) < 100000 by decide)]⟩];simp
 refine ae (sl':=[Ls ns,Is 1,Is 400,Ls C,Rs 0,Rs 1,Á,Á,Á]) (st':=[Ob.lst (iL (C.map fun x=>x/100000)),Ob.lst (iL [])]) (by simp[cw,iL]) ?_;refine ae (sl':=[Ls ns,Is 1,Is 400,Ls C,Rs 0,Rs 1,E,w,p]) (st':=[Ob.lst (iL d),Ob.lst (iL f)]) ?_ ?_
 ·have V:fU 401=Â:=by decide
  have:dH [c6] (.r1 (.bin .Add (.v 1) (.v 2))) [Ls ns,Is 1,Is 400,Ls C,Rs 0,Rs 1,Á,Á,Á] [Ob.lst (iL (C.map fun x=>x/100000)),Ob.lst (iL [])]=À (⟨cZ 0 401,[]⟩,[Ob.lst (iL (C.map fun x=>x/100000)),Ob.lst (iL [])]):=by
   simp[yn,V]
  rw[kg,this,Ã];exact e
 ·have M:cut (iL f) (À 1) Á=iL (f.drop 1):=by
   unfold cut;rw[HT.sIx_none,show(1:Int)=((1:Nat):Int) from rfl,HT.sIx_nat,gF,o,uY];rw[í (by simp[o])];rfl
  have X:bQ [Ob.lst (iL d),Ob.lst (iL f)] (.ref 1)=À (iL f):=bC rfl;simp[mJ,mG,X,M]
theorem qP{r:Nat}{x:Int}(h:st[r]?=À (.lst (iL (D++[x])))):ak [.ref r] st=À (.int x,st.set r (.lst (iL D))):=by
 have k:∀l:List Int,aR (aQ 8 st) (iL l)=À (l.map Ø):=fun l=>eU (f:=aQ 8 st) (i:=AV.int) (g:=Ø) (fun _=>rfl) l
 have m:∀l:List Int,ë (l.map Ø)=Â:=fun l=>by
  induction l with
  |nil=>rfl
  |cons a l j=>simp only[zO,ë,ē,j,Đ]
 have c:bB .Eq st (.ref r) (.fz [])=À Ä:=by
  show io st (.ref r) (.fz [])=_;unfold io;have e:aQ 9 st (.ref r)=À (.list ((D++[x]).map Ø)):=by
   unfold aQ;simp only[h,k,Ï]
  have d:aQ 9 st (.fz [])=À (.list []):=rfl;rw[e,d,Ã,Ã,yI ?_]
  ·rw[ĉ]
   cases D.map Ø<;>rfl
  ·have p:(ű ((D++[x]).map Ø)).canLay0=Â:=by unfold ē;exact m _
   have o:(ű []).canLay0=Â:=rfl;have n:min (ű ((D++[x]).map Ø)).depth (ű []).depth<=50:=z5 (R8 _ _) dC;unfold DD.pyOk;rw[p,o,yW n];rfl
 have b:(iL (D++[x]))[D.length]?=À (.int x):=by unfold iL;simp
 have q:(iL (D++[x])).dropLast=iL D:=by unfold iL;simp
 simp[ak,aA,kK,cw,c,nk,sC,sB,rF,bC h,wj,g9,h,b,q];exact(zB.mp b).2
section
variable{ks:List Fn}{sl:Sl}{st:aa}{ss:On}{P:AV×aa->Prop}
theorem eR{s:Sx}{v:AV}{st':aa}(h:cP ks s sl st=À (.rt v st'))(a:P (v,st')):∃r,(ag ks (.cons s ss) sl st).bind au=À r/\P r:=⟨_,bh h,a⟩
theorem lj{α:Type}{em:α->AV}{it:Ix}{t:Tg}{b:On}{xs:List α}{gd:Gd}{st0:aa}(I:Nat->Sl->aa->Prop)(k:dH ks it sl st=À (⟨xs.map em,gd⟩,st0))(l:∀i sl st,I i sl st->cm gd st=Â)(m:I 0 sl st0)
  (h:∀i x sl st,xs[i]?=À x->I i sl st->∃p sl2 st2,b8 ks t (em x) sl st=À p/\ag ks b p.1 p.2=À (.nx sl2 st2)/\I (i+1) sl2 st2)
  (f:∀sl' st',I xs.length sl' st'->∃r,(ag ks ss sl' st').bind au=À r/\P r):∃r,(ag ks (.cons (.fo it t b) ss) sl st).bind au=À r/\P r:=by
 obtain⟨sl',st',e,a⟩:=eC (gd:=gd) (g:=b8 ks t) (s:=ag ks b) (I:=I) (xs:=xs.map em) (fun i sl st _ a=>l i sl st a) (fun i y sl st c a=>by
  rw[zR]at c;obtain⟨x,d,rfl⟩:=zE.mp c;exact h i x sl st d a) m
 rw[zH]at a;obtain⟨r,n,j⟩:=f sl' st' a;exact⟨r,ae (by rw[kg,k,Ã];exact e) n,j⟩
theorem Ii{α:Type}{em:α->AV}{it:Ix}{t:Tg}{b:On}{xs:List α}{gd:Gd}{st0:aa}{Q:Out->Prop}(I:Nat->Sl->aa->Prop)(k:dH ks it sl st=À (⟨xs.map em,gd⟩,st0))(l:∀i sl st,I i sl st->cm gd st=Â)(m:I 0 sl st0)
  (h:∀i x sl st,xs[i]?=À x->I i sl st->∃p sl2 st2,b8 ks t (em x) sl st=À p/\ag ks b p.1 p.2=À (.nx sl2 st2)/\I (i+1) sl2 st2)
  (f:∀sl' st',I xs.length sl' st'->∃r,ag ks ss sl' st'=À r/\Q r):∃r,ag ks (.cons (.fo it t b) ss) sl st=À r/\Q r:=by
 obtain⟨sl',st',e,a⟩:=eC (gd:=gd) (g:=b8 ks t) (s:=ag ks b) (I:=I) (xs:=xs.map em) (fun i sl st _ a=>l i sl st a) (fun i y sl st c a=>by
  rw[zR]at c;obtain⟨x,d,rfl⟩:=zE.mp c;exact h i x sl st d a) m
 rw[zH]at a;obtain⟨r,n,j⟩:=f sl' st' a;exact⟨r,aq (by rw[kg,k,Ã];exact e) n,j⟩
end
theorem E8{f:AV->AV->Option AV}{h:Nat->Nat->Nat} (t:∀x:Nat,x<16->∀y:Nat,y<16->(match f (.int x) (.int y) with
  |some (.int b)=>decide (b=(h x y:Int))
  |_=>Ä)=Â) {x y:Nat} (c:x<16) (a:y<16):f (.int (x:Int)) (.int (y:Int))=À (.int (h x y:Int)):=by
 have t:=t x c y a;split at t
 ·rename_i b e
  rw[of_decide_eq_true t]at e;exact e
 ·cases t
section
variable{st:aa}{os:List Nat}{n g k j:Nat}{D:List Int}
theorem vW{x y:Nat}(b:x<16)(a:y<16):aZ .BitOr st (.int (x:Int)) (.int (y:Int))=À (.int ((x ||| y:Nat):Int)):=by
 show aZ .BitOr [] (.int (x:Int)) (.int (y:Int))=_;exact E8 (f:=aZ .BitOr []) (h:=fun x y=>x ||| y) (by decide +kernel) b a
theorem lZ{ks:List Fn}{a:Ex}{sl:Sl}{n:Nat}(h:ev ks a sl st=À (.int (n:Int),st))(b:n<=1000):dH ks (.r1 a) sl st=À (⟨(Æ n).map fun q:Nat=>AV.int (q:Int),[]⟩,st):=by
 show(ev ks a sl st).bind _=_;rw[h,Ã];dsimp only;have:fU (n:Int)=Â:=by
  unfold fU;refine yL ?_;rw[ļ];by_cases hz:n=0
  ·subst hz;decide
  ·exact yZ ((Ą hz).mpr (yM b dC))
 rw[yI this,Q3,oe];rfl
theorem wI{ks:List Fn}{a e:Ex}{sl:Sl}{y:AV}{xs:List AV}{k:Nat}(f:ev ks a sl st=À (.ref k,st))(d:ev ks e sl st=À (y,st))(b:st[k]?=À (.lst xs))(c:xs.length<=1000):cP ks (.ex (.mt .app a (.cons e .nil))) sl st=À (.nx sl (st.set k (.lst (xs++[y])))):=by
 simp[nk,sC,sB,f,rF,bC b,d,sF,g9,b,cp c]
theorem lu{α:Type}{ks:List Fn}{k:Nat}{it:Ix}{t:Tg}{c:Cx'}{e:Ex}{sl:Sl}{gd:Gd}{em:α->AV}{B:α->Bool}{F:α->AV}{xs:List α}(a:dH ks it sl st=À (⟨xs.map em,gd⟩,st))(b:cm gd st=Â)(hz:xs.length<=1000)
  (h:∀x∈xs,∃sl1,b8 ks t (em x) (sl++È k Á) st=À (sl1,st)/\ju ks c sl1 st=À (B x,st)/\(B x=Â->ev ks e sl1 st=À (F x,st))):jt ks (.lc k it t c e) sl st=À ((xs.filter B).map F,st):=by
 rw[GK,a,Ã];dsimp only;rw[yI (cp (by rw[zH];exact hz))];exact gY b h
theorem k8{b:Bool}:fA st (.bl b)=À b:=rfl
theorem ow{m:Nat}{l:List Int}:aR (aQ (m+1) st) (iL l)=À (l.map Ø):=eU (f:=aQ (m+1) st) (i:=AV.int) (g:=Ø) (fun _=>rfl) l
theorem fO(h:D≠[]):∃D' x,D=D'++[x]:=⟨D.dropLast,D.getLast h,(List.dropLast_concat_getLast h).symm⟩
end
section
variable{st:aa}{os:List Nat}{n g k j:Nat}{A B O:Ob}{D T:List Int}
def okD(D:List Int):Prop:=∀x∈D,0<=x/\x<2147483587
theorem okD.at{D:List Int}{x:Int}(h:okD (D++[x])):0<=x/\okD D:=⟨(h x (by simp)).1,fun y a=>h y (by simp[a])⟩
theorem Jj{a b:Int}:∃c:Int,bM pR [.int a,.int b] st=À (.int c,st)/\(c=a\/c=b):=by
 have:bM pR [.int a,.int b] st=À (.int (if b<a then b else a),st):=rfl;exact⟨_,this,by split<;>simp⟩
theorem qo{i:Nat}(a:i<T.length):bI st (.fz (iL T)) (.int (i:Int))=À (.int (SX.gI T i)):=by rw[cL fj,cx,ci a]
theorem Fl{c:Int}(h:c.natAbs<=100):c.natAbs<2^62:=yM h dC
theorem jW{z c:Int}(a:eF c=Â)(b:0<c):aZ .FloorDiv st (.int z) (.int c)=À (.int (z/c)):=by rw[mv a];exact congrArg (fun q=>À (AV.int q)) (yI b)
theorem dP{z c:Int}(a:0<c):aZ .Mod st (.int z) (.int c)=À (.int (z%c)):=by rw[iM oM];exact congrArg (fun q=>À (AV.int q)) (yI a)
theorem Mc{x y:Nat}:aZ .BitAnd st (.int (x:Int)) (.int (y:Int))=À (.int ((x &&& y:Nat):Int)):=by
 show À (AV.int (P7 (x:Int) (y:Int)))=_;rfl
theorem qU{l:List Int}:bM eV [.fz (iL l)] st=À (.int ((l.length:Nat):Int),st):=by
 show À (AV.int ((iL l).length:Int),st)=_;rw[gF]
theorem my{l:List AV}{i:Int}(c:0<=i)(b:i<l.length):∃x∈l,bI st (.fz l) (.int i)=À x:=by
 obtain⟨q,rfl⟩:∃q:Nat,i=(q:Int):=⟨i.toNat,by lia⟩;have a:q<l.length:=by lia
 refine⟨l[q],ö a,?_⟩;rw[cL fj,cx,zF a]
end
section
variable{st:aa}{n k:Nat}{A B:Ob}{D T:List Int}{R:aa}
theorem iV{x:Int}:ak [.ref 2] (A::B::.lst (iL (D++[x]))::R)=À (.int x,A::B::.lst (iL D)::R):=qP (st:=A::B::.lst (iL (D++[x]))::R) (r:=2) rfl
theorem jP{P:Int->Prop}{ks:List Fn}{k:Nat}{it:Ix}{t:Tg}{e:Ex}{sl:Sl}{N:Nat}(j:dH ks it sl st=À (⟨(Æ N).map fun q:Nat=>AV.int (q:Int),[]⟩,st))(hz:N<=1000)(h:∀q,q<N->∃sl1 v,P v/\b8 ks t (.int (q:Int)) (sl++È k Á) st=À (sl1,st)/\ev ks e sl1 st=À (.int v,st)):∃L:List Int,(L.length=N/\∀x∈L,P x)/\ev ks (.nw Ä (.lc k it t .no e)) sl st=À (.fz (iL L),st):=by
 have l:∀q,∃v:Int,q<N->P v/\∃sl1,b8 ks t (.int (q:Int)) (sl++È k Á) st=À (sl1,st)/\ev ks e sl1 st=À (.int v,st):=fun q=>by
  by_cases a:q<N
  ·obtain⟨sl1,v,m,d,b⟩:=h q a;exact⟨v,fun _=>⟨m,sl1,d,b⟩⟩
  ·exact⟨0,fun z=>absurd z a⟩
 obtain⟨f,g⟩:=Ϭ l;refine⟨(Æ N).map f,⟨by simp,fun x i=>?_⟩,?_⟩
 ·obtain⟨q,a,rfl⟩:=yD.mp i
  exact(g q (Õ.mp a)).1
 have e:=lu (c:=.no) (B:=fun _=>Â) (F:=fun q:Nat=>AV.int (f q)) j rfl (by simpa using hz) fun q a=>by
  obtain⟨_,sl1,d,b⟩:=g q (Õ.mp a);exact⟨sl1,d,rfl,fun _=>b⟩
 rw[ă.mpr (fun _ _=>rfl)]at e;have:(Æ N).map (fun q=>AV.int (f q))=iL ((Æ N).map f):=by unfold iL;rw[å];rfl
 rw[this]at e;rw[gz,e,Ã,yI dJ]
theorem xY{f:Int->Int}{ks:List Fn}{it:Ix}{e:Ex}{sl:Sl}{s:Nat}{N:Nat}(d:∀st,dH ks it sl st=À (⟨(Æ N).map fun q:Nat=>AV.int (q:Int),[]⟩,st))(hz:N<=1000)(p:sl.length=s)(h:∀q D x,0<=x->x<2147483587->ev ks e (sl++[Is (q:Int)]) (A::B::.lst (iL (D++[x]))::R)=À (.int (f x),A::B::.lst (iL D)::R))(z:N<=D.length)(hd:okD D) :
  ∃D' L,ev ks (.nw Ä (.lc 1 it (.nm s) .no e)) sl (A::B::.lst (iL D)::R)=À (.fz (iL L),A::B::.lst (iL D')::R)/\okD D'/\D.length=D'.length+N/\L.length=N/\∀x∈L,∃y,0<=y/\y<2147483587/\x=f y:=by
 have gm:∀(q:Nat)(st:aa),b8 ks (.nm s) (.int (q:Int)) (sl++[Á]) st=À (sl++[Is (q:Int)],st):=fun q st=>by
  show À ((sl++[Á]).set s (À (.int (q:Int))),st)=_;rw[<- p,A! _ _ (zP _),W1];rfl
 obtain⟨n,m,o,l⟩:=xX (gd:=[]) (g:=b8 ks (.nm s)) (t:=ju ks .no) (f:=ev ks e) (sl:=sl++[Á]) (xs:=(Æ N).map fun q:Nat=>AV.int (q:Int))
  (J:=fun i st=>i<=N/\st=A::B::.lst (iL (D.take (D.length-i)))::R) (F:=fun i=>.int (f (SX.gI D (D.length-1-i)))) (fun _ _ _ _=>rfl) (fun i x st b k=>by
   obtain⟨v,j⟩:=k;rw[zR]at b;obtain⟨q,r,rfl⟩:=zE.mp b;have u:i<N:=by have:=(zB.mp r).1;simpa using this
   subst j;have a:D.length-1-i<D.length:=by lia
   have w:D.take (D.length-i)=D.take (D.length-(i+1))++[SX.gI D (D.length-1-i)]:=by
    rw[show D.length-i=(D.length-1-i)+1 by lia,O9,show D.length-(i+1)=D.length-1-i by lia,zF a];congr 2;simp[SX.gI,zD,zF a]
   have c:SX.gI D (D.length-1-i)∈D:=by
    unfold SX.gI;rw[zD,zF a];exact ö a
   refine⟨_,_,gm q _,rfl,?_,by lia,rfl⟩;rw[w];exact h q _ _ (hd _ c).1 (hd _ c).2) (st:=A::B::.lst (iL D)::R) ⟨û _,by rw[Ŕ,Ī]⟩
 rw[zH,Ü]at m o l;refine⟨D.take (D.length-N),(Æ N).map fun i=>f (SX.gI D (D.length-1-i)),?_,fun x b=>hd x (Ŷ b),by rw[ī];lia,by simp,fun x b=>?_⟩
 ·rw[gz,GK,d,Ã]
  dsimp only;rw[yI (cp (by simpa using hz))];show((ii [] _ _ _ (sl++[Á]) _ _).bind _)=_;rw[m,Ã,l];dsimp only;have:(Æ N).map (fun i=>AV.int (f (SX.gI D (D.length-1-i))))=iL ((Æ N).map fun i=>f (SX.gI D (D.length-1-i))):=by unfold iL;rw[å];rfl
  rw[this,yI dJ]
 ·obtain⟨i,d,rfl⟩:=yD.mp b
  have d:=Õ.mp d;have a:D.length-1-i<D.length:=by lia
  have c:SX.gI D (D.length-1-i)∈D:=by
   unfold SX.gI;rw[zD,zF a];exact ö a
  exact⟨_,(hd _ c).1,(hd _ c).2,rfl⟩
end
section
variable{st:aa}
theorem Jm{l:List Int}:lsI st (.fz (iL l))=À l:=by
 unfold lsI;rw[fj,Ã];unfold mh;rw[show iL l=l.map AV.int from rfl,eU (i:=AV.int) (g:=id) (fun _=>rfl),List.map_id]
theorem mw:∀l:List Gv,rfs (l.map Gv.av)=Â:=fun l=>fi fun x a=>by
 obtain⟨z,_,rfl⟩:=yD.mp a;simp[Gv.av,rf,rfs,dJ]
variable{w:Nat}{RR:List (List Int)}{gv:List Gv}{X Y Z:Nat->Int}{e:Int}{goal:List Int}
theorem GY{T d:Int}(hd:0<d):∃q:Int,0<q/\T=gI (ax [T,d]) 0*q/\d=gI (ax [T,d]) 1*q/\0<gI (ax [T,d]) 1:=by
 have a:gL [T,d]=Ā T.natAbs d.natAbs:=by
  show Ā (Ā 0 T.natAbs) d.natAbs=_;rw[Nat.gcd_zero_left]
 have g:0<Ā T.natAbs d.natAbs:=Nat.gcd_pos_of_pos_right _ oM;have e:ax [T,d]=[T/(Ā T.natAbs d.natAbs:Int),d/(Ā T.natAbs d.natAbs:Int)]:=by
  unfold ax;rw[yH (by rw[a];lia),a];rfl
 have f:((Ā T.natAbs d.natAbs:Nat):Int) ∣ T:=c?.mp (ū.mpr (S? _ _));have b:((Ā T.natAbs d.natAbs:Nat):Int) ∣ d:=c?.mp (ū.mpr (Q? _ _));rw[e];refine⟨(Ā T.natAbs d.natAbs:Nat),by lia,(ό f).symm,(ό b).symm,?_⟩;show 0<d / _;have c:=ό b;rcases Q5 0 (d/((Ā T.natAbs d.natAbs:Nat):Int)) with h|h|h
 ·exact h
 ·rw[<- h]at c;lia
 ·have:=j! h (show (0:Int) < ((Ā T.natAbs d.natAbs:Nat):Int) by lia);lia
theorem Cm{a b q:Int}{m:Nat}(h:b=a*q)(d:0<q)(c:b.natAbs<2^m):a.natAbs<2^m:=by
 refine yM ?_ c;rw[h,xA];exact Nat.le_mul_of_pos_right _ oM
end
def KM(m:Nat):Bool:=match (bw [.int m] []).bind fun p=>eS p.2 p.1 with
 |some (.int b)=>decide (0<=b/\b<=4/\(0<m->1<=b))
 |_=>Ä
theorem HL:(Æ 16).all KM=Â:=by kernel_rfl
theorem zl{m:Nat}(a:m<16):∃b:Int,0<=b/\b<=4/\(0<m->1<=b)/\∀st,pm bw [.int (m:Int)] st=À (.int b,st):=by
 have h:=yR.mp HL m (Õ.mpr a);unfold KM at h;split at h
 ·rename_i b e
  obtain⟨f,d,c⟩:=of_decide_eq_true h;exact⟨b,f,d,c,fun st=>c8 rfl e⟩
 ·cases h
section
variable{w:Nat}{r X:List Int}
theorem EQ{M N:Nat}(d:r.length=w)(j:X.length=w)(a:w<=15)(b:∀x∈r,x.natAbs<2^M)(c:∀x∈X,x.natAbs<2^N):(val w r (gI X)).natAbs<2^(M+N+4):=by
 have h:=SX.abs_sum (n:=w) (f:=fun x=>gI r x*gI X x) (M:=2^(M+N)) fun i g=>by
  rw[xA,Ϧ];exact Ŗ (yZ (oV b (ß _) i)) (yZ (oV c (ß _) i))
 have k:w*2^(M+N)<=15*2^(M+N):=ý _ a;have e:=ß (M+N);unfold val;rw[Ϧ _ (M+N)];generalize 2^(M+N)=B at *;lia
theorem KQ{x:Int}{M:Nat}(h:x.natAbs<2^M)(a:M<=9000):x.natAbs<2^9000:=zJ h (ü dC a)
end
section
variable{st:aa}{n g k j:Nat}{A B:Ob}{R:aa}{D T:List Int}
theorem vP{ks:List Fn}{r:Sl}(a:dN n):dH ks (.r1 (.bin .Sub (.bin .LShift (.i 1) (.v 0)) (.i 1))) (À (.int (n:Int))::r) st=À (⟨(Æ (2^n-1)).map fun q:Nat=>AV.int (q:Int),[]⟩,st):=by
 rcases a with rfl|rfl|rfl|rfl<;>rfl
theorem iI{T:List Int}{q:Nat}(h:q<T.length):SX.gI T q∈T:=by
 unfold SX.gI;rw[zD,zF h];exact ö h
theorem turnT(f:dN n){j:Int}(g:T.length=2^n-1/\∀x∈T,0<=x/\x<=j){z:Int}(hz:0<=z)(G:z<2147483587){x3 x5 x6 x7 x8 x9:Option AV}{S:aa}:∃T' y5 y6 y7,(T'.length=2^n-1/\∀x∈T',0<=x/\x<=j+1000000000)/\ag [ak,bw] (.cons (.as (.bin .Mod (.v 4) (.bin .LShift (.i 1) (.v 0))) (.nm 5))
 (.cons (.as (.bin .Add (.i 1) (.bin .Mod (.bin .FloorDiv (.v 4) (.i 16)) (.i 3))) (.nm 6))
 (.cons (.as (.ix (.nw Ä (.li (.cons (.i 1) (.cons (.i 2) (.cons (.bin .Add (.i 1) (.bin .Mod (.bin .FloorDiv (.v 4) (.i 48)) (.i 5))) (.cons (.bin .Add (.i 1) (.bin .FloorDiv (.v 4) (.i 48))) .nil)))))) (.bin .Mod (.bin .FloorDiv (.v 4) (.i 240)) (.i 4))) (.nm 7))
 (.cons (.as (.nw Ä (.lc 1 (.r1 (.bi .len (.cons (.v 2) .nil))) (.nm 10) .no (.bin .Add (.ix (.v 2) (.v 10)) (.bin .Mult (.v 7) (.bi .min (.cons (.v 6) (.cons (.ca Â 1 (.cons (.bin .BitAnd (.v 5) (.bin .Add (.v 10) (.i 1))) .nil)) .nil))))))) (.nm 2))
 .nil)))) [Is n,Rs 2,Ls T,x3,Is z,x5,x6,x7,x8,x9] S=À (.nx [Is n,Rs 2,Ls T',x3,Is z,y5,y6,y7,x8,x9] S):=by
 obtain⟨m,o,em⟩:∃m:Nat,m<16/\z%2^n=(m:Int):=by
  have p:(0:Int)<2^n:=by rcases f with rfl|rfl|rfl|rfl<;>decide
  have X:=Ó z (show (2:Int) ^ n ≠ 0 by lia);have W:=Ñ z p;have V:(2:Int) ^ n <= 16:=by rcases f with rfl | rfl | rfl | rfl <;> decide
  exact⟨(z%2^n).toNat,by lia,by lia⟩
 have sh:aZ .LShift S (.int 1) (.int (n:Int))=À (.int (2^n)):=by rcases f with rfl|rfl|rfl|rfl<;>rfl
 have p:(0:Int)<2^n:=by rcases f with rfl|rfl|rfl|rfl<;>decide
 have Q:=Ó (z / 16) (show (3:Int) ≠ 0 by decide);have O:=Ñ (z / 16) (show (0:Int) < 3 by decide);have C:=Ó (z / 240) (show (4:Int) ≠ 0 by decide);have B:=Ñ (z / 240) (show (0:Int) < 4 by decide);obtain ⟨v,s,ev⟩:=my (st:=S) (l:=[.int 1,.int 2,.int (1 + z / 48 % 5),.int (1 + z / 48)]) C B;obtain ⟨d,rfl,E,D⟩:∃ d:Int,v=.int d/\1 <= d/\d <= 50000000:=by
  simp only[zT,zX,or_false]at s;rcases s with rfl|rfl|rfl|rfl<;>exact⟨_,rfl,by lia,by lia⟩
 have U:2^n-1<=15:=by rcases f with rfl|rfl|rfl|rfl<;>decide
 obtain⟨L,I,K⟩:=jP (P:=fun v=>0<=v/\v<=j+1000000000) (ks:=[ak,bw]) (k:=1) (st:=S) (it:=.r1 (.bi .len (.cons (.v 2) .nil))) (t:=.nm 10) (e:=.bin .Add (.ix (.v 2) (.v 10)) (.bin .Mult (.v 7) (.bi .min (.cons (.v 6) (.cons (.ca Â 1 (.cons (.bin .BitAnd (.v 5) (.bin .Add (.v 10) (.i 1))) .nil)) .nil)))))
  (sl:=[Is n,Rs 2,Ls T,x3,Is z,Is (m:Int),Is (1+z/16%3),Is d,x8,x9]) (N:=2^n-1) (lZ (by simp[qU,g.1]) oM) oM fun q w=>by
   obtain⟨b,j,Y,_,h⟩:=zl (m:=m &&& (q+1)) (yM Nat.and_le_left o);obtain⟨c,J,R⟩:=Jj (st:=S) (a:=1+z/16%3) (b:=b);have F:aZ .Mult S (.int d) (.int c)=À (.int (d*c)):=ce (qR (Fl oM));have ix:=qo (st:=S) (T:=T) (i:=q) (by rw[g.1];exact w);have r:=Mc (st:=S) (x:=m) (y:=q+1);have h:=h S;have A:((q:Int)+1)=((q+1:Nat):Int):=by lia
   generalize ((m &&& (q+1):Nat):Int)=u at r h;generalize ((q+1:Nat):Int)=u1 at r A;have H:SX.gI T q∈T:=iI (by rw[g.1];exact w)
   have:=g.2 _ H
   have M:c=0\/c=1\/c=2\/c=3\/c=4:=by lia
   exact⟨[Is n,Rs 2,Ls T,x3,Is z,Is (m:Int),Is (1+z/16%3),Is d,x8,x9,Is (q:Int)],SX.gI T q+d*c,by rcases M with rfl|rfl|rfl|rfl|rfl<;>lia,rfl,by simp[ix,A,r,h,J,F]⟩
 refine ⟨L,Is (m:Int),Is (1 + z / 16 % 3),Is d,I,?_⟩;refine aq (sl':=[Is n,Rs 2,Ls T,x3,Is z,Is (m:Int),x6,x7,x8,x9]) (st':=S) (by simp [sh,dP p,em]) ?_;refine aq (sl':=[Is n,Rs 2,Ls T,x3,Is z,Is (m:Int),Is (1 + z / 16 % 3),x7,x8,x9]) (st':=S) (by simp [jW (show eF 16=Â from rfl),dP (show (0:Int) < 3 by decide)]) ?_;refine aq (sl':=[Is n,Rs 2,Ls T,x3,Is z,Is (m:Int),Is (1 + z / 16 % 3),Is d,x8,x9]) (st':=S) (by simp [jW (show eF 48=Â from rfl),jW (show eF 240=Â from rfl),dP (show (0:Int) < 5 by decide),dP (show (0:Int) < 4 by decide),cw,rfs,rf,ev]) ?_;refine aq (sl':=[Is n,Rs 2,Ls L,x3,Is z,Is (m:Int),Is (1 + z / 16 % 3),Is d,x8,x9]) (st':=S) ?_ rfl;rw [c9,K];rfl
theorem Df(Y:dN n)(hD:50<=D.length)(hd:okD D):∃D' T,dY [.int n,.ref 2] (A::B::.lst (iL D)::R)=À (.fz (iL T),(A::B::.lst (iL D')::R))/\(T.length=2^n-1/\∀x∈T,0<=x/\x<=10000000000)/\okD D'/\D.length<=D'.length+6:=by
 have X:∃r,dY [.int n,.ref 2] (A::B::.lst (iL D)::R)=À r/\∃D' T,r=(.fz (iL T),(A::B::.lst (iL D')::R))/\(T.length=2^n-1/\∀x∈T,0<=x/\x<=10000000000)/\okD D'/\D.length<=D'.length+6:=by
  have hN:2^n-1<=15:=by rcases Y with rfl|rfl|rfl|rfl<;>decide
  rw[dY,aA];show ∃r,(ag [ak,bw] gM [Is n,Rs 2,Á,Á,Á,Á,Á,Á,Á,Á] (A::B::.lst (iL D)::R)).bind au=À r/\_;unfold gM;obtain⟨U,K,e0⟩:=jP (P:=fun v=>0<=v/\v<=0) (ks:=[ak,bw]) (k:=1) (st:=(A::B::.lst (iL D)::R)) (t:=.nm 10) (e:=.i 0) (sl:=[Is n,Rs 2,Á,Á,Á,Á,Á,Á,Á,Á]) (vP Y) oM fun q j=>⟨_,0,by lia,rfl,rfl⟩
  refine ai (sl':=[Is n,Rs 2,Ls U,Á,Á,Á,Á,Á,Á,Á]) (st':=(A::B::.lst (iL D)::R)) (by rw[c9,e0];rfl) ?_;obtain⟨g,x,rfl⟩:=fO (D:=D) (fun z=>by rw[z]at hD;simp at hD);obtain⟨hx0,Z⟩:=hd.at;simp only[zV,Ý]at hD ⊢;have p:=qP (st:=(A::B::Ob.lst (iL (g++[x]))::R)) (r:=2) (D:=g) (x:=x) rfl;obtain⟨c,hc,hm⟩:∃c:Nat,c<=4/\x%5=(c:Int):=by
   have h1:=Ó x (show (5:Int) ≠ 0 by decide);have h2:=Ñ x (show (0:Int) < 5 by decide);exact ⟨(x % 5).toNat,by lia,by lia⟩
  have it:dH [ak,bw] (.r1 (.bin .Mod (.ca Ä 0 (.cons (.v 1) .nil)) (.i 5))) [Is n,Rs 2,Ls U,Á,Á,Á,Á,Á,Á,Á] (A::B::.lst (iL (g++[x]))::R)=À (⟨(Æ c).map fun q:Nat=>AV.int (q:Int),[]⟩,(A::B::.lst (iL g)::R)):=by
   have e:ev [ak,bw] (.bin .Mod (.ca Ä 0 (.cons (.v 1) .nil)) (.i 5)) [Is n,Rs 2,Ls U,Á,Á,Á,Á,Á,Á,Á] (A::B::.lst (iL (g++[x]))::R)=À (.int (c:Int),(A::B::.lst (iL g)::R)):=by
    simp [p,dP (show (0:Int) < 5 by decide),hm,dj]
   show(ev _ _ _ _).bind _=_;rw[e];exact lZ (ks:=[]) (a:=.i c) (sl:=[]) rfl oM
  refine lj (em:=fun q:Nat=>.int (q:Int)) (xs:=Æ c) (gd:=[]) (st0:=(A::B::.lst (iL g)::R)) (fun i sl s=>∃D' T,s=(A::B::.lst (iL D')::R)/\D'.length+i=g.length/\okD D'/\(T.length=2^n-1/\∀x∈T,0<=x/\x<=(i:Int)*1000000000)/\∃x3 V x5 x6 x7 x8 x9,sl=[Is n,Rs 2,Ls T,x3,V,x5,x6,x7,x8,x9]) it (fun _ _ _ _=>rfl) ⟨g,U,rfl,by lia,Z,⟨K.1,fun x I=>by have:=K.2 x I;lia⟩,_,_,_,_,_,_,_,rfl⟩ ?_ ?_
  ·rintro i q sl s j ⟨D',T,rfl,o,f,w,x3,V,x5,x6,x7,x8,x9,rfl⟩
   have hi:i<c:=by have:=(zB.mp j).1;simpa using this
   obtain⟨d,z,rfl⟩:=fO (D:=D') (fun e=>by rw[e]at o;simp at o;lia);obtain⟨H,C⟩:=f.at;have G:=(f z (by simp)).2;have W:=qP (st:=(A::B::Ob.lst (iL (d++[z]))::R)) (r:=2) (D:=d) (x:=z) rfl;obtain⟨E,y5,y6,y7,M,e⟩:=turnT Y w H G (x3:=À (.int (q:Int))) (x5:=x5) (x6:=x6) (x7:=x7) (x8:=x8) (x9:=x9) (S:=(A::B::.lst (iL d)::R));exact⟨_,_,_,rfl,aq (sl':=[Is n,Rs 2,Ls T,Is (q:Int),Is z,x5,x6,x7,x8,x9]) (st':=(A::B::.lst (iL d)::R)) (by simp[W,dj]) e,d,E,rfl,by simp at o;lia,C,⟨M.1,fun x I=>by have:=M.2 x I;lia⟩,_,_,_,_,_,_,_,rfl⟩
  ·rintro sl s ⟨D',T,rfl,o,f,w,x3,V,x5,x6,x7,x8,x9,rfl⟩
   simp only[Ü]at o w;obtain⟨d,z,rfl⟩:=fO (D:=D') (fun e=>by rw[e]at o;simp at o;lia);obtain⟨H,C⟩:=f.at;have G:=(f z (by simp)).2;simp only[zV,Ý]at o;have W:=qP (st:=(A::B::Ob.lst (iL (d++[z]))::R)) (r:=2) (D:=d) (x:=z) rfl;refine ai (sl':=[Is n,Rs 2,Ls T,x3,Is z,x5,x6,x7,x8,x9]) (st':=(A::B::.lst (iL d)::R)) (by simp[W,dj]) ?_;have y:∀(E:List Int)(y8 y9:Option AV),(E.length=2^n-1/\∀x∈E,0<=x/\x<=10000000000)->∃r,(ag [ak,bw] (.cons (.rt (.v 2)) .nil) [Is n,Rs 2,Ls E,x3,Is z,x5,x6,x7,y8,y9] (A::B::.lst (iL d)::R)).bind au=À r/\∃D' T,r=(.fz (iL T),(A::B::.lst (iL D')::R))/\(T.length=2^n-1/\∀x∈T,0<=x/\x<=10000000000)/\okD D'/\g.length+1<=D'.length+6:=fun E y8 y9 h=>⟨_,rfl,d,E,rfl,h,C,by lia⟩
   by_cases J:n=4/\z%3=0
   ·obtain⟨rfl,h3⟩:=J
    have w1:=Ó (z / 3) (show (6:Int) ≠ 0 by decide);have w2:=Ñ (z / 3) (show (0:Int) < 6 by decide);obtain ⟨v,hv,ev⟩:=my (st:=(A::B::.lst (iL d)::R)) (l:=[.int 3,.int 5,.int 6,.int 9,.int 10,.int 12]) w1 w2;obtain ⟨pr,rfl⟩:∃ pr:Int,v=.int pr:=by
     simp only[zT,zX,or_false]at hv;rcases hv with rfl|rfl|rfl|rfl|rfl|rfl<;>exact⟨_,rfl⟩
    obtain⟨Q,hQ,eQ⟩:=jP (P:=fun v=>0<=v/\v<=5) (ks:=[ak,bw]) (k:=1) (st:=(A::B::.lst (iL d)::R)) (it:=.r1 (.i 15)) (t:=.nm 10) (e:=.bin .Add (.ix (.nw Ä (.li (.cons (.i 2) (.cons (.i 3) (.cons (.i 4) (.cons (.i 4) .nil)))))) (.bin .Sub (.ca Â 1 (.cons (.bin .Add (.v 10) (.i 1)) .nil)) (.i 1))) (.bi .int (.cons (.cmp .Eq (.bin .Add (.v 10) (.i 1)) (.v 8)) .nil)))
     (sl:=[Is ((4:Nat):Int),Rs 2,Ls T,x3,Is z,x5,x6,x7,Is pr,x9]) (N:=15) rfl oM fun q j=>by
      obtain⟨b,b0,b4,b1,O⟩:=zl (m:=q+1) oM;obtain⟨u,hu,eu⟩:=my (st:=(A::B::.lst (iL d)::R)) (l:=[.int 2,.int 3,.int 4,.int 4]) (i:=b-1) (by have:=b1 oM;lia) (by simp;lia);obtain⟨F,rfl,uu0,uu1⟩:∃F:Int,u=.int F/\0<=F/\F<=4:=by
       simp only[zT,zX,or_false]at hu;rcases hu with rfl|rfl|rfl|rfl<;>exact⟨_,rfl,by lia,by lia⟩
      have O:=O (A::B::.lst (iL d)::R);have c1:((q:Int)+1)=((q+1:Nat):Int):=by lia
      generalize ((q+1:Nat):Int)=u1 at O c1;exact⟨[Is ((4:Nat):Int),Rs 2,Ls T,x3,Is z,x5,x6,x7,Is pr,x9,Is (q:Int)],F+(if u1=pr then 1 else 0),by split<;>lia,rfl,by simp[c1,O,eu,cw,rfs,rf,bM,lD]⟩
    obtain⟨L,hL,eL⟩:=jP (P:=fun v=>0<=v/\v<=10000000000) (ks:=[ak,bw]) (k:=1) (st:=(A::B::.lst (iL d)::R)) (it:=.r1 (.i 15)) (t:=.nm 10) (e:=.bin .Add (.ix (.v 2) (.v 10)) (.ix (.v 9) (.v 10)))
     (sl:=[Is ((4:Nat):Int),Rs 2,Ls T,x3,Is z,x5,x6,x7,Is pr,Ls Q]) (N:=15) rfl oM fun q j=>by
      have i1:=qo (st:=(A::B::.lst (iL d)::R)) (T:=T) (i:=q) (by rw[w.1];exact j);have i2:=qo (st:=(A::B::.lst (iL d)::R)) (T:=Q) (i:=q) (by rw[hQ.1];exact j);have g1:=w.2 _ (iI (T:=T) (q:=q) (by rw[w.1];exact j));have g2:=hQ.2 _ (iI (T:=Q) (q:=q) (by rw[hQ.1];exact j));exact⟨[Is ((4:Nat):Int),Rs 2,Ls T,x3,Is z,x5,x6,x7,Is pr,Ls Q,Is (q:Int)],SX.gI T q+SX.gI Q q,by lia,rfl,by simp[i1,i2]⟩
    refine ai (sl':=[Is ((4:Nat):Int),Rs 2,Ls L,x3,Is z,x5,x6,x7,Is pr,Ls Q]) (st':=(A::B::.lst (iL d)::R)) ?_ (y L _ _ hL);have t1:tv [ak,bw] (.an (.cmp .Eq (.v 0) (.i 4)) (.cmp .Eq (.bin .Mod (.v 4) (.i 3)) (.i 0))) [Is ((4:Nat):Int),Rs 2,Ls T,x3,Is z,x5,x6,x7,x8,x9] (A::B::.lst (iL d)::R)=À (Â,(A::B::.lst (iL d)::R)):=by
     simp [dP (show (0:Int) < 3 by decide),h3]
    rw [cY,t1,Ã];show ag _ _ _ _=_;refine aq (sl':=[Is ((4:Nat):Int),Rs 2,Ls T,x3,Is z,x5,x6,x7,Is pr,x9]) (st':=(A::B::.lst (iL d)::R)) (by simp [jW (show eF 3=Â from rfl),dP (show (0:Int) < 6 by decide),cw,rfs,rf,ev]) ?_;refine aq (sl':=[Is ((4:Nat):Int),Rs 2,Ls T,x3,Is z,x5,x6,x7,Is pr,Ls Q]) (st':=(A::B::.lst (iL d)::R)) (by rw [c9,eQ];rfl) ?_;refine aq (sl':=[Is ((4:Nat):Int),Rs 2,Ls L,x3,Is z,x5,x6,x7,Is pr,Ls Q]) (st':=(A::B::.lst (iL d)::R)) (by rw [c9,eL];rfl) rfl
   ·refine ai (sl':=[Is n,Rs 2,Ls T,x3,Is z,x5,x6,x7,x8,x9]) (st':=(A::B::.lst (iL d)::R)) ?_ (y T _ _ ⟨w.1,fun x I=>by have:=w.2 x I;lia⟩)
    by_cases h4:n=4
    ·have h3:¬z%3=0:=fun e=>J ⟨h4,e⟩
     simp [dP (show (0:Int) < 3 by decide),h3,h4]
    ·simp[show ¬(n:Int)=4 by lia]
 obtain⟨r,e,D',T,rfl,h1,h2⟩:=X;exact⟨D',T,e,h1,h2⟩
end
section
variable{st:aa}{n g k j:Nat}{A B:Ob}{R:aa}{D T:List Int}
noncomputable def ic(z:Nat×Int):AV:=.tup [.int (z.1:Int),.int z.2]
def GB(n:Nat)(a:List (Nat×Int)):Prop:=a.length<=4/\∀z∈a,z.1<2^n/\(z.2=1\/z.2=-1)
theorem Do(t:dN n){a:List (Nat×Int)}(m:GB n a):∃L,pm aS [.int n,.fz (a.map ic)] st=À (.fz (iL L),st)/\L.length=2^n-1/\∀x∈L,-4<=x/\x<=4:=by
 have D:2^n-1<=15:=by rcases t with rfl|rfl|rfl|rfl<;>decide
 have l:∃r,aS [.int n,.fz (a.map ic)] []=À r/\∃L,eS r.2 r.1=À (.fz (iL L))/\L.length=2^n-1/\∀x∈L,-4<=x/\x<=4:=by
  rw[aS,aA];show ∃r,(ag [] fP [Is n,Zs (a.map ic),Á,Á,Á] []).bind au=À r/\_;unfold fP;refine ai (sl':=[Is n,Zs (a.map ic),Rs 0,Á,Á]) (st':=[.lst (iL (È (2^n-1) 0))]) (by rcases t with rfl|rfl|rfl|rfl<;>rfl) ?_;refine lj (em:=ic) (xs:=a) (gd:=[]) (st0:=[.lst (iL (È (2^n-1) 0))]) (fun i j s=>i<=4/\∃L,s=[.lst (iL L)]/\L.length=2^n-1/\(∀x∈L,-(i:Int)<=x/\x<=(i:Int))/\∃x y,j=[Is n,Zs (a.map ic),Rs 0,x,y]) rfl (fun _ _ _ _=>rfl) ⟨by lia,_,rfl,by simp,by simp,_,_,rfl⟩ ?_ ?_
  ·rintro i z j s hz ⟨A,L,rfl,f,d,x,y,rfl⟩
   have w:i<4:=by have:=(zB.mp hz).1;have:=m.1;lia
   obtain⟨v,u⟩:=m.2 z (zW hz);obtain⟨g,c⟩:=z;by_cases E:g=0
   ·refine⟨_,[Is n,Zs (a.map ic),Rs 0,Is (g:Int),Is c],[.lst (iL L)],rfl,?_,by lia,L,rfl,f,fun x b=>by have:=d x b;lia,_,_,rfl⟩
    refine aq (s:=.iff _ _ _) ?_ rfl;simp [eq_false (show ¬ 0 < g by lia)]
   ·dsimp only at v u
    have o:g-1<L.length:=by rw[f];lia
    have ix:bI [.lst (iL L)] (.ref 0) (.int ((g-1:Nat):Int))=À (.int (SX.gI L (g-1))):=by rw[cL (bC (xs:=iL L) rfl),cx,ci o]
    have p:=cW (st:=[.lst (iL L)]) (k:=0) (q:=g-1) (xs:=iL L) (x:=.int (SX.gI L (g-1)+c)) rfl (by rw[gF];exact o);rw[fK]at p;have C:(g:Int)-1=((g-1:Nat):Int):=by lia
    refine⟨_,[Is n,Zs (a.map ic),Rs 0,Is (g:Int),Is c],[.lst (iL (L.set (g-1) (SX.gI L (g-1)+c)))],rfl,?_,by lia,_,rfl,by rw[ā];exact f,fun x b=>?_,_,_,rfl⟩
    ·refine aq (s:=.iff _ _ _) ?_ rfl
     simp [eq_true (show 0 < g by lia),C,ix,p]
    ·rcases ć b with h|h
     ·have:=d x h;lia
     ·have:=d _ (iI o)
      rw[h];lia
  ·rintro j s ⟨A,L,rfl,f,d,x,y,rfl⟩
   refine⟨_,rfl,L,pM rfl,f,fun x b=>?_⟩
   have:=d x b
   have:=m.1
   lia
 obtain⟨r,e,L,B,h⟩:=l;exact⟨L,b9 (by
  have:rfs (a.map ic)=Â:=fi fun x b=>by obtain⟨z,_,rfl⟩:=yD.mp b;rfl
  simp[rfs,rf,this]) e B,h⟩
theorem Db(f:dN n)(q:0<D.length)(hd:okD D):∃D' ts,bo [.int n,.ref 2] (A::B::.lst (iL D)::R)=À (.fz (ts.map ic),A::B::.lst (iL D')::R)/\GB n ts/\okD D'/\D.length=D'.length+1:=by
 obtain⟨d,z,rfl⟩:=fO (D:=D) (fun e=>by rw[e]at q;simp at q);obtain⟨hz,j⟩:=hd.at;obtain⟨w,m,V,E⟩:∃w:Nat,w=2^n-1/\0<w/\w<=15:=⟨_,rfl,by rcases f with rfl|rfl|rfl|rfl<;>decide,by rcases f with rfl|rfl|rfl|rfl<;>decide⟩;have W:2^n=w+1:=by rw[m];rcases f with rfl|rfl|rfl|rfl<;>rfl
 have p:=iV (A:=A) (B:=B) (R:=R) (D:=d) (x:=z);obtain⟨S,o⟩:∃S,S=A::B::Ob.lst (iL d)::R:=⟨_,rfl⟩;rw[<- o]at p;have P:ev [ak] (.bin .Sub (.bin .LShift (.i 1) (.v 0)) (.i 1)) [Is n,Rs 2,Á,Á,Á,Á,Á] (A::B::.lst (iL (d++[z]))::R)=À (.int (w:Int),A::B::.lst (iL (d++[z]))::R):=by
  rw[m];rcases f with rfl|rfl|rfl|rfl<;>rfl
 obtain⟨a,Z,U⟩:∃a:Nat,(1<=a/\a<=w)/\1+z%(w:Int)=(a:Int):=by
  have t:=Ó z (show (w:Int) ≠ 0 by lia);have s:=Ñ z (show (0:Int) < w by lia);exact ⟨(1 + z % (w:Int)).toNat,by lia,by lia⟩
 obtain⟨b,Y,T⟩:∃b:Nat,(1<=b/\b<=w)/\1+z/16%(w:Int)=(b:Int):=by
  have t:=Ó (z / 16) (show (w:Int) ≠ 0 by lia);have s:=Ñ (z / 16) (show (0:Int) < w by lia);exact ⟨(1 + z / 16 % (w:Int)).toNat,by lia,by lia⟩
 obtain⟨c,X,Q⟩:∃c:Nat,c<=w/\z/256%((w:Int)+1)=(c:Int):=by
  have t:=Ó (z / 256) (show ((w:Int) + 1) ≠ 0 by lia);have s:=Ñ (z / 256) (show (0:Int) < (w:Int) + 1 by lia);exact ⟨(z / 256 % ((w:Int) + 1)).toNat,by lia,by lia⟩
 have k:=vW (st:=S) (x:=a) (y:=c) oM oM;have H:=vW (st:=S) (x:=b) (y:=c) oM oM;have G:=vW (st:=S) (x:=a) (y:=b) oM oM;have l:a ||| c<2^n:=Ş oM oM;have K:b ||| c<2^n:=Ş oM oM;have J:a ||| b<2^n:=Ş oM oM;have I:a ||| b ||| c<2^n:=Ş J oM;have F:=vW (st:=S) (x:=a ||| b) (y:=c) oM oM;have ng:nV .USub S (.int 1)=À (.int (-1)):=rfl;have g:aZ .FloorDiv S (.int z) (.int 4096)=À (.int (z/4096)):=jW rfl dC;have m3:aZ .Mod S (.int (z/4096)) (.int 3)=À (.int (z/4096%3)):=dP dC;have i:∃r,bo [.int n,.ref 2] (A::B::.lst (iL (d++[z]))::R)=À r/\∃ts,r=(.fz (ts.map ic),S)/\GB n ts:=by
  rw [bo,aA];show ∃ r,(ag [ak] gK [Is n,Rs 2,Á,Á,Á,Á,Á] (A::B::.lst (iL (d++[z]))::R)).bind au=À r/\_;unfold gK;refine ai (sl':=[Is n,Rs 2,Is (w:Int),Á,Á,Á,Á]) (st':=A::B::.lst (iL (d++[z]))::R) (by rw [c9,P];rfl) ?_;refine ai (sl':=[Is n,Rs 2,Is (w:Int),Is z,Á,Á,Á]) (st':=S) (by simp [p,dj]) ?_;refine ai (sl':=[Is n,Rs 2,Is (w:Int),Is z,Is (a:Int),Á,Á]) (st':=S) (by simp [dP (show (0:Int) < (w:Int) by lia),U]) ?_;refine ai (sl':=[Is n,Rs 2,Is (w:Int),Is z,Is (a:Int),Is (b:Int),Á]) (st':=S) (by simp [jW (show eF 16=Â from rfl),dP (show (0:Int) < (w:Int) by lia),T]) ?_;refine ai (sl':=[Is n,Rs 2,Is (w:Int),Is z,Is (a:Int),Is (b:Int),Is (c:Int)]) (st':=S) (by simp [jW (show eF 256=Â from rfl),dP (show (0:Int) < (w:Int) + 1 by lia),Q]) ?_;have h0:=Ó (z / 4096) (show (3:Int) ≠ 0 by decide);by_cases C:z / 4096 % 3=0
  ·refine eR (v:=.fz ([(a,1)].map ic)) (st':=S) ?_ ⟨_,rfl,by simp,?_⟩
   ·simp[g,m3,C,cw,rfs,rf,ic,mH]
   ·simp only[zM];rintro z rfl;exact⟨by dsimp only;lia,.inl rfl⟩
  ·refine ai (sl':=[Is n,Rs 2,Is (w:Int),Is z,Is (a:Int),Is (b:Int),Is (c:Int)]) (st':=S) (by simp[g,m3,C]) ?_
   generalize O:a ||| c=q1 at *;generalize N:b ||| c=q2 at *;generalize L:a ||| b ||| c=q4 at *;generalize M:a ||| b=q3 at *;by_cases u:z/4096%3=1
   ·refine eR (v:=.fz ([(q1,1),(c,-1)].map ic)) (st':=S) ?_ ⟨_,rfl,by simp,?_⟩
    ·simp[g,m3,u,cw,rfs,rf,ic,k,ng,mH]
    ·simp only[zT,zX,or_false]
     rintro z (rfl|rfl)
     ·exact⟨l,.inl rfl⟩
     ·exact⟨by dsimp only;lia,.inr rfl⟩
   ·refine ai (sl':=[Is n,Rs 2,Is (w:Int),Is z,Is (a:Int),Is (b:Int),Is (c:Int)]) (st':=S) (by simp[g,m3,u]) ?_
    refine eR (v:=.fz ([(q1,1),(q2,1),(q4,-1),(c,-1)].map ic)) (st':=S) ?_ ⟨_,rfl,by simp,?_⟩
    ·simp[cw,rfs,rf,ic,k,H,G,F,ng]
    ·simp only[zT,zX,or_false]
     rintro z (rfl|rfl|rfl|rfl)
     ·exact⟨l,.inl rfl⟩
     ·exact⟨K,.inl rfl⟩
     ·exact⟨I,.inr rfl⟩
     ·exact⟨by dsimp only;lia,.inr rfl⟩
 obtain⟨r,e,ts,rfl,h⟩:=i;rw[o]at e;exact⟨d,ts,e,h,j,by simp⟩
end
section
variable{st:aa}{n g k j:Nat}{A B:Ob}{R:aa}{D T:List Int}
def zp(L:List Int):Prop:=∀x∈L,x.natAbs<=10000000000000000000000
theorem MM:aZ .Pow st (.int 10) (.int 12)=À (.int 1000000000000):=by kernel_rfl
theorem ML:aZ .Pow st (.int 10) (.int 21)=À (.int 1000000000000000000000):=by kernel_rfl
theorem Cc(G:dN n)(hD:20<=D.length)(hd:okD D):∃D' L,bV [.int n,.ref 2] (A::B::.lst (iL D)::R)=À (.fz (iL L),A::B::.lst (iL D')::R)/\L.length=2^n-1/\zp L/\okD D'/\D.length<=D'.length+17:=by
 have hN:2^n-1<=15:=by rcases G with rfl|rfl|rfl|rfl<;>decide
 have Y:∃r,bV [.int n,.ref 2] (A::B::.lst (iL D)::R)=À r/\∃D' L,r=(.fz (iL L),A::B::.lst (iL D')::R)/\L.length=2^n-1/\zp L/\okD D'/\D.length<=D'.length+17:=by
  rw[bV,aA];show ∃r,(ag [ak,bo,aS] iN [Is n,Rs 2,Á,Á,Á,Á,Á] (A::B::.lst (iL D)::R)).bind au=À r/\_;unfold iN;obtain⟨a,z,rfl⟩:=fO (D:=D) (fun e=>by rw[e]at hD;simp at hD);obtain⟨hz,C⟩:=hd.at;simp only[zV,Ý]at hD ⊢;have p:=iV (A:=A) (B:=B) (R:=R) (D:=a) (x:=z);refine ai (sl':=[Is n,Rs 2,Is z,Á,Á,Á,Á]) (st':=A::B::.lst (iL a)::R) (by simp[p,dj]) ?_;have m8:aZ .Mod (A::B::.lst (iL a)::R) (.int z) (.int 8)=À (.int (z%8)):=dP dC;have H:aZ .Mod (A::B::.lst (iL a)::R) (.int z) (.int 64)=À (.int (z%64)):=dP dC;by_cases h8:z%8=0
  ·obtain⟨o,L,e,d,Q,F,m⟩:=xY (A:=A) (B:=B) (R:=R) (D:=a) (f:=fun x=>x%7-3) (ks:=[ak,bo,aS]) (it:=.r1 (.bin .Sub (.bin .LShift (.i 1) (.v 0)) (.i 1))) (e:=.bin .Sub (.bin .Mod (.ca Ä 0 (.cons (.v 1) .nil)) (.i 7)) (.i 3)) (sl:=[Is n,Rs 2,Is z,Á,Á,Á,Á]) (s:=7) (N:=2^n-1) (fun st=>vP G) oM rfl (fun q D x _ _=>by
    simp[iV,dj,dP (show(0:Int)<7 by decide)]) oM C
   refine eR (v:=.fz (iL L)) (st':=A::B::.lst (iL o)::R) ?_ ⟨o,L,rfl,F,fun x u=>?_,d,by lia⟩
   ·rw[cY]
    have W:tv [ak,bo,aS] (.cmp .Eq (.bin .Mod (.v 2) (.i 8)) (.i 0)) [Is n,Rs 2,Is z,Á,Á,Á,Á] (A::B::.lst (iL a)::R)=À (Â,A::B::.lst (iL a)::R):=by simp[m8,h8]
    rw[W,Ã];show ag _ _ _ _=_;refine jK ?_;rw[kb,e];rfl
   ·obtain⟨y,_,_,rfl⟩:=m x u
    have:=Ó y (show (7:Int) ≠ 0 by decide)
    have:=Ñ y (show (0:Int) < 7 by decide)
    lia
  refine ai (sl':=[Is n,Rs 2,Is z,Á,Á,Á,Á]) (st':=A::B::.lst (iL a)::R) (by simp[m8,h8]) ?_;by_cases K:z%64=1
  ·obtain⟨o,L,e,d,Q,F,m⟩:=xY (A:=A) (B:=B) (R:=R) (D:=a) (f:=fun x=>x*1000000000000-1000000000000000000000) (ks:=[ak,bo,aS]) (it:=.r1 (.bin .Sub (.bin .LShift (.i 1) (.v 0)) (.i 1))) (e:=.bin .Sub (.bin .Mult (.ca Ä 0 (.cons (.v 1) .nil)) (.bin .Pow (.i 10) (.i 12))) (.bin .Pow (.i 10) (.i 21))) (sl:=[Is n,Rs 2,Is z,Á,Á,Á,Á]) (s:=7) (N:=2^n-1) (fun st=>vP G) oM rfl (fun q D x _ _=>by
    have X:aZ .Mult (A::B::.lst (iL D)::R) (.int x) (.int 1000000000000)=À (.int (x*1000000000000)):=ce (qR dC);simp[iV,dj,MM,ML,X]) oM C
   refine eR (v:=.fz (iL L)) (st':=A::B::.lst (iL o)::R) ?_ ⟨o,L,rfl,F,fun x u=>?_,d,by lia⟩
   ·rw[cY]
    have W:tv [ak,bo,aS] (.cmp .Eq (.bin .Mod (.v 2) (.i 64)) (.i 1)) [Is n,Rs 2,Is z,Á,Á,Á,Á] (A::B::.lst (iL a)::R)=À (Â,A::B::.lst (iL a)::R):=by simp[H,K]
    rw[W,Ã];show ag _ _ _ _=_;refine jK ?_;rw[kb,e];rfl
   ·obtain⟨y,y0,y1,rfl⟩:=m x u
    lia
  refine ai (sl':=[Is n,Rs 2,Is z,Á,Á,Á,Á]) (st':=A::B::.lst (iL a)::R) (by simp[H,K]) ?_;obtain⟨L0,J,e0⟩:=jP (P:=fun v=>v=0) (ks:=[ak,bo,aS]) (k:=1) (st:=A::B::.lst (iL a)::R) (t:=.nm 7) (e:=.i 0) (sl:=[Is n,Rs 2,Is z,Á,Á,Á,Á]) (vP G) oM fun q hq=>⟨_,0,rfl,rfl,rfl⟩
  refine ai (sl':=[Is n,Rs 2,Is z,Ls L0,Á,Á,Á]) (st':=A::B::.lst (iL a)::R) (by rw[c9,e0];rfl) ?_;obtain⟨c,hc,ec⟩:∃c:Nat,c<=3/\1+z/64%3=(c:Int):=by
   have h1:=Ó (z / 64) (show (3:Int) ≠ 0 by decide);have h2:=Ñ (z / 64) (show (0:Int) < 3 by decide);exact ⟨(1 + z / 64 % 3).toNat,by lia,by lia⟩
  have it:dH [ak,bo,aS] (.r1 (.bin .Add (.i 1) (.bin .Mod (.bin .FloorDiv (.v 2) (.i 64)) (.i 3)))) [Is n,Rs 2,Is z,Ls L0,Á,Á,Á] (A::B::.lst (iL a)::R)=À (⟨(Æ c).map fun q:Nat=>AV.int (q:Int),[]⟩,A::B::.lst (iL a)::R):=lZ (by simp [jW (show eF 64=Â from rfl),dP (show (0:Int) < 3 by decide),ec]) oM;refine lj (em:=fun q:Nat=>.int (q:Int)) (xs:=Æ c) (gd:=[]) (st0:=A::B::.lst (iL a)::R) (fun i sl s=>∃ D' L,s=A::B::.lst (iL D')::R/\a.length=D'.length + 2 * i/\okD D'/\L.length=2 ^ n - 1/\(∀ x ∈ L,-(12 * (i:Int)) <= x/\x <= 12 * (i:Int))/\∃ U S O,sl=[Is n,Rs 2,Is z,Ls L,U,S,O]) it (fun _ _ _ _=>rfl) ⟨a,L0,rfl,by lia,C,J.1,fun x u=>by have:=J.2 x u;lia,_,_,_,rfl⟩ ?_ ?_
  ·rintro i q sl s hq ⟨D',L,rfl,Q,E,F,m,U,S,O,rfl⟩
   have hi:i<c:=by have:=(zB.mp hq).1;simpa using this
   obtain ⟨o,ts,e1,ht,d,w⟩:=Db (A:=A) (B:=B) (R:=R) (D:=D') G oM E;obtain ⟨M,e2,hM,hMb⟩:=Do (st:=A::B::.lst (iL o)::R) G ht;obtain ⟨j,y,rfl⟩:=fO (D:=o) (fun e=>by rw [e] at w;simp at w;lia);obtain ⟨hy,Z⟩:=d.at;simp only [zV,Ý] at w;have w1:=Ó y (show (6:Int) ≠ 0 by decide);have w2:=Ñ y (show (0:Int) < 6 by decide);obtain ⟨v,hv,ev⟩:=my (st:=A::B::.lst (iL j)::R) (l:=[.int 1,.int 1,.int (-1),.int 2,.int 3,.int (-2)]) w1 w2;obtain ⟨b,rfl,V⟩:∃ b:Int,v=.int b/\(b=1\/b=-1\/b=2\/b=3\/b=-2):=by
    simp only[zT,zX,or_false]at hv;rcases hv with rfl|rfl|rfl|rfl|rfl|rfl<;>exact⟨_,rfl,by lia⟩
   have n1:∀st,nV .USub st (.int 1)=À (.int (-1)):=fun _=>rfl
   have n2:∀st,nV .USub st (.int 2)=À (.int (-2)):=fun _=>rfl
   obtain⟨L2,I,eL2⟩:=jP (P:=fun v=>-(12*((i+1:Nat):Int))<=v/\v<=12*((i+1:Nat):Int)) (ks:=[ak,bo,aS]) (k:=1) (st:=A::B::.lst (iL j)::R) (it:=.r1 (.bi .len (.cons (.v 3) .nil))) (t:=.nm 7) (e:=.bin .Add (.ix (.v 3) (.v 7)) (.bin .Mult (.v 6) (.ix (.v 5) (.v 7)))) (sl:=[Is n,Rs 2,Is z,Ls L,Is (q:Int),Ls M,Is b]) (N:=2^n-1) (lZ (by simp[qU,F]) oM) oM fun g hg=>by
    have i1:=qo (st:=A::B::.lst (iL j)::R) (T:=L) (i:=g) oM;have i2:=qo (st:=A::B::.lst (iL j)::R) (T:=M) (i:=g) oM;have b1:=m _ (iI (T:=L) (q:=g) oM);have b2:=hMb _ (iI (T:=M) (q:=g) oM);have X:aZ .Mult (A::B::.lst (iL j)::R) (.int b) (.int (SX.gI M g))=À (.int (b*SX.gI M g)):=ce (l8 (Fl oM));exact⟨[Is n,Rs 2,Is z,Ls L,Is (q:Int),Ls M,Is b,Is (g:Int)],SX.gI L g+b*SX.gI M g,by rcases V with rfl|rfl|rfl|rfl|rfl<;>lia,rfl,by simp[i1,i2,X]⟩
   refine ⟨_,[Is n,Rs 2,Is z,Ls L2,Is (q:Int),Ls M,Is b],A::B::.lst (iL j)::R,rfl,?_,j,L2,rfl,by lia,Z,I.1,I.2,_,_,_,rfl⟩;refine aq (sl':=[Is n,Rs 2,Is z,Ls L,Is (q:Int),Ls M,O]) (st':=A::B::.lst (iL (j++[y]))::R) (by simp [e1,e2,dj]) ?_;refine aq (sl':=[Is n,Rs 2,Is z,Ls L,Is (q:Int),Ls M,Is b]) (st':=A::B::.lst (iL j)::R) (by simp [n1,n2,iV,dj,dP (show (0:Int) < 6 by decide),cw,rfs,rf,ev]) ?_;refine aq (sl':=[Is n,Rs 2,Is z,Ls L2,Is (q:Int),Ls M,Is b]) (st':=A::B::.lst (iL j)::R) (by rw [c9,eL2];rfl) rfl
  ·rintro sl s ⟨D',L,rfl,Q,E,F,m,U,S,O,rfl⟩
   simp only[Ü]at Q m;exact⟨_,rfl,D',L,rfl,F,fun x u=>by have:=m x u;lia,E,by lia⟩
 obtain⟨r,e,D',L,rfl,h⟩:=Y;exact⟨D',L,e,h⟩
end
section
variable{st:aa}{n:Nat}{r T:List Int}
theorem wm(p:r.length<=15)(s:T.length=r.length)(m:∀x∈r,x.natAbs<2^9000)(o:∀x∈T,x.natAbs<2^9000):pm aP [.fz (iL r),.fz (iL T)] st=À (.int (val r.length r (gI T)),st):=by
 have e:=lu (st:=[]) (ks:=[]) (k:=1) (it:=.r1 (.bi .len (.cons (.v 0) .nil))) (t:=.nm 2) (c:=.no) (e:=.bin .Mult (.ix (.v 0) (.v 2)) (.ix (.v 1) (.v 2))) (sl:=[Ls r,Ls T]) (gd:=[]) (em:=fun q:Nat=>AV.int (q:Int)) (xs:=Æ r.length) (B:=fun _=>Â) (F:=fun q=>AV.int (gI r q*gI T q)) (lZ (by simp[qU]) oM) rfl (by simp;lia) fun q a=>by
  have a:=Õ.mp a;have h:=qo (st:=[]) (T:=r) (i:=q) a;have g:=qo (st:=[]) (T:=T) (i:=q) oM;exact⟨[Ls r,Ls T,Is (q:Int)],rfl,rfl,fun _=>by
   have b:aZ .Mult [] (.int (gI r q)) (.int (gI T q))=À (.int (gI r q*gI T q)):=ce (dO (m _ (iI a)) (o _ (iI (show q<T.length by lia))));simp[h,g,b]⟩
 rw[ă.mpr (fun _ _=>rfl),show(Æ r.length).map (fun q=>AV.int (gI r q*gI T q))=iL ((Æ r.length).map fun q=>gI r q*gI T q) by unfold iL;rw[å];rfl]at e;have l:ev [] (.nw Ä (.lc 1 (.r1 (.bi .len (.cons (.v 0) .nil))) (.nm 2) .no (.bin .Mult (.ix (.v 0) (.v 2)) (.ix (.v 1) (.v 2))))) [Ls r,Ls T] []=À (.fz (iL ((Æ r.length).map fun q=>gI r q*gI T q)),[]):=by
  rw[gz,e,Ã,yI dJ]
 have j:∀n (f:Nat->Int),((Æ n).map f).sum=Of n f:=fun n f=>by
  induction n with
  |zero=>rfl
  |succ n d=>rw[S3,ĉ,List.sum_append,d];simp[Of]
 refine b9 (by simp[rfs,rf,dJ]) (v:=.int (val r.length r (gI T))) (st':=[]) ?_ rfl;rw[aP,aA];show(ag [] jd [Ls r,Ls T] []).bind au=_;refine bh ?_;simp only[kb,rq,aO,ba,l,Ã,HP,bM,rH,Jm,Ï];rw[j];rfl
theorem Bg(c:r.length<=15)(f:zp r)(b:T.length=r.length/\∀x∈T,0<=x/\x<=10000000000):∃v:Int,v.natAbs<=10000000000000000000000000000000000/\∀st,pm aP [.fz (iL r),.fz (iL T)] st=À (.int v,st):=by
 have e:∀x∈r,x.natAbs<2^74:=fun x a=>yM (f x a) dC
 have d:∀x∈T,x.natAbs<2^34:=fun x a=>yM (m:=10000000000) (by have:=b.2 x a;lia) dC
 refine⟨_,?_,fun st=>wm c b.1 (fun x a=>KQ (e x a) dC) fun x a=>KQ (d x a) dC⟩;exact z5 (yZ (EQ rfl b.1 c e d)) dC
end
section
variable{st:aa}{n g k j:Nat}{A B:Ob}{R:aa}{D T:List Int}
def uy(n:Nat)(z:Gv):Prop:=z.row.length=2^n-1/\zp z.row/\z.num.natAbs<=10000000000000000000000000000000010
def jU(z:Gv):ô:=.tuple [.list (z.row.map Ø),.str (if z.eq=Â then "=" else ">"),.int z.num]
theorem IS(z:Gv):aQ 8 st z.av=À (jU z):=by
 obtain⟨r,e,m⟩:=z;have:aQ 7 st (.fz (iL r))=À (.list (r.map Ø)):=by show(aR (aQ 6 st) _).map _=_;rw[ow];rfl
 show(aR (aQ 7 st) [.fz (iL r),_,_]).map _=_;simp only[aR,this,Ã];cases e<;>rfl
theorem G3(z:Gv):(jU z).canLay0=Â:=by
 obtain⟨r,e,m⟩:=z;have:∀l:List Int,ë (l.map Ø)=Â:=fun l=>by
  induction l with
  |nil=>rfl
  |cons x l c=>simp only[zO,ë,ē,c,Đ]
 have b:S7 "="=Â:=by decide +kernel
 have a:S7 ">"=Â:=by decide +kernel
 cases e<;>simp[jU,ē,ë,this,b,a]
theorem Jf{r:Nat}{G:List Gv}(h:st[r]?=À (.lst (G.map Gv.av))):bB .NotEq st (.ref r) (.fz [])=À (!G.isEmpty):=by
 change (io st (.ref r) (.fz [])).map (fun b=>!b)=_;have a:aQ 9 st (.ref r)=À (.list (G.map jU)):=by
  unfold aQ;have:aR (aQ 8 st) (G.map Gv.av)=À (G.map jU):=eU (f:=aQ 8 st) (i:=Gv.av) (g:=jU) (fun z=>IS z) G;simp only[h,this,Ï]
 have d:ë (G.map jU)=Â:=by
  clear h a
  induction G with
  |nil=>rfl
  |cons x l c=>simp only[zO,ë,G3,c,Đ]
 unfold io;rw[a,show aQ 9 st (.fz [])=À (.list []) from rfl,Ã,Ã,yI (by
  unfold DD.pyOk;rw[show(ű (G.map jU)).canLay0=Â by simp only[ē,d],yW (z5 (R8 _ _) dC)];rfl)]
 cases G<;>rfl
theorem L6{a b:Bool}:bB .Eq st (.str (if a=Â then "=" else ">")) (.str ">")=À (!a):=by cases a<;>kernel_rfl
theorem Bw(hn:dN n)(hD:200<=D.length)(hd:okD D)(hT:T.length=2^n-1/\∀x∈T,0<=x/\x<=10000000000):∃(D':List Int)(G:List Gv)(O:Ob),dh [.int n,.ref 2,.fz (iL T)] [A,B,.lst (iL D)]=À (.fz (G.map Gv.av),[A,B,.lst (iL D'),O])/\G.length<=8/\(∀z∈G,uy n z)/\okD D'/\D.length<=D'.length+160:=by
 have hN:0<2^n-1/\2^n-1<=15:=by rcases hn with rfl|rfl|rfl|rfl<;>decide
 have Z:∃r,dh [.int n,.ref 2,.fz (iL T)] [A,B,.lst (iL D)]=À r/\∃(D':List Int)(G:List Gv)(O:Ob),r=(.fz (G.map Gv.av),[A,B,.lst (iL D'),O])/\G.length<=8/\(∀z∈G,uy n z)/\okD D'/\D.length<=D'.length+160:=by
  rw [dh,aA];show ∃ r,(ag [ak,bV,aP] fQ [Is n,Rs 2,Ls T,Á,Á,Á,Á,Á,Á] [A,B,.lst (iL D)]).bind au=À r/\_;unfold fQ;refine ai (sl':=[Is n,Rs 2,Ls T,Rs 3,Á,Á,Á,Á,Á]) (st':=[A,B,.lst (iL D),.lst (([]:List Gv).map Gv.av)]) rfl ?_;obtain ⟨t,x,rfl⟩:=fO (D:=D) (fun e=>by rw [e] at hD;simp at hD);obtain ⟨hx,hd1⟩:=hd.at;simp only [zV,Ý] at hD ⊢;have p:=iV (A:=A) (B:=B) (R:=[.lst (([]:List Gv).map Gv.av)]) (D:=t) (x:=x);have w1:=Ó x (show (8:Int) ≠ 0 by decide);have w2:=Ñ x (show (0:Int) < 8 by decide);obtain ⟨v,hv,L⟩:=my (st:=[A,B,.lst (iL t),.lst (([]:List Gv).map Gv.av)]) (l:=[.int 0,.int 1,.int 2,.int 3,.int 4,.int 5,.int 8,.int 2]) w1 w2;obtain ⟨c,rfl,hc⟩:∃ c:Nat,v=.int (c:Int)/\c <= 8:=by
   simp only[zT,zX,or_false]at hv;rcases hv with rfl|rfl|rfl|rfl|rfl|rfl|rfl|rfl
   ·exact⟨0,rfl,by decide⟩
   ·exact⟨1,rfl,by decide⟩
   ·exact⟨2,rfl,by decide⟩
   ·exact⟨3,rfl,by decide⟩
   ·exact⟨4,rfl,by decide⟩
   ·exact⟨5,rfl,by decide⟩
   ·exact⟨8,rfl,by decide⟩
   ·exact⟨2,rfl,by decide⟩
  have it:dH [ak,bV,aP] (.r1 (.ix (.nw Ä (.li (.cons (.i 0) (.cons (.i 1) (.cons (.i 2) (.cons (.i 3) (.cons (.i 4) (.cons (.i 5) (.cons (.i 8) (.cons (.i 2) .nil)))))))))) (.bin .Mod (.ca Ä 0 (.cons (.v 1) .nil)) (.i 8)))) [Is n,Rs 2,Ls T,Rs 3,Á,Á,Á,Á,Á] [A,B,.lst (iL (t++[x])),.lst (([]:List Gv).map Gv.av)]=À (⟨(Æ c).map fun q:Nat=>AV.int (q:Int),[]⟩,[A,B,.lst (iL t),.lst (([]:List Gv).map Gv.av)]):=by
   have e:ev [ak,bV,aP] (.ix (.nw Ä (.li (.cons (.i 0) (.cons (.i 1) (.cons (.i 2) (.cons (.i 3) (.cons (.i 4) (.cons (.i 5) (.cons (.i 8) (.cons (.i 2) .nil)))))))))) (.bin .Mod (.ca Ä 0 (.cons (.v 1) .nil)) (.i 8))) [Is n,Rs 2,Ls T,Rs 3,Á,Á,Á,Á,Á] [A,B,.lst (iL (t++[x])),.lst (([]:List Gv).map Gv.av)]=À (.int (c:Int),[A,B,.lst (iL t),.lst (([]:List Gv).map Gv.av)]):=by
    simp at p L;simp [p,dP (show (0:Int) < 8 by decide),L,rfs,rf,cw,dj]
   show(ev _ _ _ _).bind _=_;rw[e];exact lZ (ks:=[]) (a:=.i c) (sl:=[]) rfl oM
  refine lj (em:=fun q:Nat=>.int (q:Int)) (xs:=Æ c) (gd:=[]) (st0:=[A,B,.lst (iL t),.lst (([]:List Gv).map Gv.av)]) (fun i sl s=>∃(D':List Int)(G:List Gv),s=[A,B,.lst (iL D'),.lst (G.map Gv.av)]/\t.length<=D'.length+18*i/\okD D'/\G.length=i/\(∀z∈G,uy n z)/\∃E C u m j,sl=[Is n,Rs 2,Ls T,Rs 3,E,C,u,m,j]) it (fun _ _ _ _=>rfl) ⟨t,[],rfl,by lia,hd1,rfl,by simp,_,_,_,_,_,rfl⟩ ?_ ?_
  ·rintro i q sl s hq ⟨D',G,rfl,Q,H,W,hz,E,C,u,m,j,rfl⟩
   have hi:i<c:=by have:=(zB.mp hq).1;simpa using this
   obtain⟨d,r,e1,hr,P,F,K⟩:=Cc (A:=A) (B:=B) (R:=[.lst (G.map Gv.av)]) (D:=D') hn oM H;obtain⟨M,z,rfl⟩:=fO (D:=d) (fun e=>by rw[e]at K;simp at K;lia);obtain⟨hz0,hd3⟩:=F.at;simp only[zV,Ý]at K;obtain⟨v,vb,L⟩:=Bg (r:=r) (T:=T) oM P ⟨by lia,hT.2⟩;have X:=iV (A:=A) (B:=B) (R:=[.lst (G.map Gv.av)]) (D:=M) (x:=z);obtain⟨S,hS⟩:∃S,S=[A,B,.lst (iL M),.lst (G.map Gv.av)]:=⟨_,rfl⟩;have L:=L S;have f2:aZ .FloorDiv S (.int z) (.int 2)=À (.int (z/2)):=jW rfl dC;have f6:aZ .FloorDiv S (.int z) (.int 6)=À (.int (z/6)):=jW rfl dC;have f48:aZ .FloorDiv S (.int z) (.int 48)=À (.int (z/48)):=jW rfl dC;have m2:aZ .Mod S (.int z) (.int 2)=À (.int (z%2)):=dP dC;have m3:aZ .Mod S (.int (z/2)) (.int 3)=À (.int (z/2%3)):=dP dC;have N:aZ .Mod S (.int (z/6)) (.int 8)=À (.int (z/6%8)):=dP dC;have m9:aZ .Mod S (.int (z/48)) (.int 9)=À (.int (z/48%9)):=dP dC;have b2:=Int.emod_two_eq z;obtain⟨sg,es⟩:∃sg:Bool,bI S (.fz [.str "=",.str ">"]) (.int (z%2))=À (.str (if sg=Â then "=" else ">")):=by
    rcases b2 with h|h<;>rw[h]
    ·exact⟨Â,rfl⟩
    ·exact⟨Ä,rfl⟩
   obtain⟨Y,V⟩:∃Y:Int,Y=if sg=Â then v else v-z/2%3:=⟨_,rfl⟩
   obtain⟨I,U⟩:∃I:Int,I=if z/6%8=0 then z/48%9-4 else Y:=⟨_,rfl⟩
   have bd:I.natAbs<=10000000000000000000000000000000010:=by
    have:=Ó (z / 48) (show (9:Int) ≠ 0 by decide)
    have:=Ñ (z / 48) (show (0:Int) < 9 by decide)
    have:=Ó (z / 2) (show (3:Int) ≠ 0 by decide)
    have:=Ñ (z / 2) (show (0:Int) < 3 by decide)
    rw[U];split
    ·lia
    ·rw[V];split<;>lia
   refine⟨_,[Is n,Rs 2,Ls T,Rs 3,Is (q:Int),Ls r,Is z,À (.str (if sg=Â then "=" else ">")),Is I],[A,B,.lst (iL M),.lst ((G++[(⟨r,sg,I⟩:Gv)]).map Gv.av)],rfl,?_,M,_,rfl,by lia,hd3,by simp[W],fun z J=>?_,_,_,_,_,_,rfl⟩
   ·refine aq (sl':=[Is n,Rs 2,Ls T,Rs 3,Is (q:Int),Ls r,u,m,j]) (st':=[A,B,.lst (iL (M++[z])),.lst (G.map Gv.av)]) (by simp[e1,dj]) ?_
    refine aq (sl':=[Is n,Rs 2,Ls T,Rs 3,Is (q:Int),Ls r,Is z,m,j]) (st':=S) (by simp[X,dj,hS]) ?_;refine aq (sl':=[Is n,Rs 2,Ls T,Rs 3,Is (q:Int),Ls r,Is z,À (.str (if sg=Â then "=" else ">")),j]) (st':=S) (by simp[m2,es,cw,rfs,rf]) ?_;refine aq (sl':=[Is n,Rs 2,Ls T,Rs 3,Is (q:Int),Ls r,Is z,À (.str (if sg=Â then "=" else ">")),Is v]) (st':=S) (by simp[L]) ?_;refine aq (sl':=[Is n,Rs 2,Ls T,Rs 3,Is (q:Int),Ls r,Is z,À (.str (if sg=Â then "=" else ">")),Is Y]) (st':=S) ?_ ?_
    ·have e:=L6 (st:=S) (a:=sg) (b:=Â)
     generalize (AV.str (if sg=Â then "=" else ">"))=w at e;rw[V];cases sg<;>simp[e,f2,m3]
    refine aq (sl':=[Is n,Rs 2,Ls T,Rs 3,Is (q:Int),Ls r,Is z,À (.str (if sg=Â then "=" else ">")),Is I]) (st':=S) ?_ ?_
    ·rw[U]
     by_cases h:z/6%8=0
     ·simp[f6,N,h,f48,m9]
     ·simp[f6,N,h]
    have ap:=wI (ks:=[ak,bV,aP]) (a:=.v 3) (e:=.tu (.cons (.v 5) (.cons (.v 7) (.cons (.v 8) .nil)))) (y:=(⟨r,sg,I⟩:Gv).av) (k:=3) (xs:=G.map Gv.av) (sl:=[Is n,Rs 2,Ls T,Rs 3,Is (q:Int),Ls r,Is z,À (.str (if sg=Â then "=" else ">")),Is I]) (st:=[A,B,.lst (iL M),.lst (G.map Gv.av)]) rfl rfl rfl (by simp;lia);rw[hS];refine aq ap ?_;show À _=À _;simp
   ·rcases zZ.mp J with h|h
    ·exact hz z h
    ·rw[zM.mp h];exact⟨hr,P,bd⟩
  ·rintro sl s ⟨D',G,rfl,Q,H,W,hz,E,C,u,m,j,rfl⟩
   simp only[Ü]at Q W;have o:∀(d:List Int)(g:List Gv),g.length<=100->(∀z∈g,uy n z)->okD d->t.length+1<=d.length+160->∃r,(ag [ak,bV,aP] (.cons (.rt (.nw Ä (.sl (.v 3) .no (.so (.i 8))))) .nil) [Is n,Rs 2,Ls T,Rs 3,E,C,u,m,j] [A,B,.lst (iL d),.lst (g.map Gv.av)]).bind au=À r/\∃(D':List Int)(G:List Gv)(O:Ob),r=(.fz (G.map Gv.av),[A,B,.lst (iL D'),O])/\G.length<=8/\(∀z∈G,uy n z)/\okD D'/\t.length+1<=D'.length+160:=fun d g hG' J h1 h2=>by
    refine eR (v:=.fz ((g.take 8).map Gv.av)) (st':=[A,B,.lst (iL d),.lst (g.map Gv.av)]) ?_ ⟨d,g.take 8,_,rfl,by rw[ī];lia,fun z hz=>J z (Ŷ hz),h1,h2⟩;have cu:cut (g.map Gv.av) Á (À 8)=(g.take 8).map Gv.av:=by
     unfold cut;rw[HT.sIx_none,show(8:Int)=((8:Nat):Int) from rfl,HT.sIx_nat,zH,Ĥ,Ŕ,i?];rcases ϛ 8 g.length with h|h
     ·rw[Ϸ h]
     ·rw[R9 h,í (by simp),í (by simpa using h)]
    have l3:bQ [A,B,.lst (iL d),.lst (g.map Gv.av)] (.ref 3)=À (g.map Gv.av):=bC rfl;have rr:rfs ((g.take 8).map Gv.av)=Â:=mw _;simp[-List.map_take,mJ,mG,Ck,l3,cu,rr]
   have ne:=Jf (st:=[A,B,.lst (iL D'),.lst (G.map Gv.av)]) (r:=3) (G:=G) rfl;cases G with
   |nil =>
    refine ai (sl':=[Is n,Rs 2,Ls T,Rs 3,E,C,u,m,j]) (st':=[A,B,.lst (iL D'),.lst (([]:List Gv).map Gv.av)]) ?_ (o D' [] (by simp) (by simp) H oM);simp at ne;simp[ne,cw]
   |cons f G =>
    obtain⟨d,y,rfl⟩:=fO (D:=D') (fun e=>by rw[e]at Q;simp at Q;lia);obtain⟨hy,F⟩:=H.at;simp only[zV,Ý]at Q;have X:=iV (A:=A) (B:=B) (R:=[.lst ((f::G).map Gv.av)]) (D:=d) (x:=y);have N:aZ .Mod [A,B,.lst (iL d),.lst ((f::G).map Gv.av)] (.int y) (.int 8)=À (.int (y%8)):=dP dC;have tt:tv [ak,bV,aP] (.an (.cmp .NotEq (.v 3) (.nw Ä (.li .nil))) (.cmp .Eq (.bin .Mod (.ca Ä 0 (.cons (.v 1) .nil)) (.i 8)) (.i 0))) [Is n,Rs 2,Ls T,Rs 3,E,C,u,m,j] [A,B,.lst (iL (d++[y])),.lst ((f::G).map Gv.av)]=À (decide (y%8=0),[A,B,.lst (iL d),.lst ((f::G).map Gv.av)]):=by
     generalize (f::G).map Gv.av=GG at ne X N;simp[ne,X,dj,N,cw]
    by_cases h8:y%8=0
    ·refine ai (sl':=[Is n,Rs 2,Ls T,Rs 3,E,C,u,m,j]) (st':=[A,B,.lst (iL d),.lst ((f::G++[f]).map Gv.av)]) ?_ (o d (f::G++[f]) (by simp at W ⊢;lia) (fun z h=>by
      rcases zZ.mp h with h|h
      ·exact hz z h
      ·rw[zM.mp h];exact hz f z7) F oM)
     have ap:=wI (ks:=[ak,bV,aP]) (a:=.v 3) (e:=.ix (.v 3) (.i 0)) (y:=f.av) (k:=3) (xs:=(f::G).map Gv.av) (sl:=[Is n,Rs 2,Ls T,Rs 3,E,C,u,m,j]) (st:=[A,B,.lst (iL d),.lst ((f::G).map Gv.av)]) rfl (by
      have:bI [A,B,.lst (iL d),.lst ((f::G).map Gv.av)] (.ref 3) (.int 0)=À f.av:=by
       rw[cL (bC (xs:=(f::G).map Gv.av) rfl),show(0:Int)=((0:Nat):Int) from rfl,cx];rfl
      simp only[j9,cj,ib,bF,bO,Ã,this,Ï]) rfl (by simp at W ⊢;lia)
     rw[cY,tt,Ã,yW h8];show ag _ _ _ _=_;refine aq ap ?_;show À _=À _;simp
    ·refine ai (sl':=[Is n,Rs 2,Ls T,Rs 3,E,C,u,m,j]) (st':=[A,B,.lst (iL d),.lst ((f::G).map Gv.av)]) ?_ (o d (f::G) oM hz F oM)
     rw[cY,tt,Ã,yA h8];rfl
 obtain⟨r,e,D',G,O,rfl,h⟩:=Z;exact⟨D',G,O,e,h⟩
end
section
variable{st:aa}{n g k j:Nat}{A B:Ob}{D T:List Int}{ns:List Int}
theorem vR(e:ns.length<=63):∃(n:Nat)(T:List Int)(G:List Gv)(goal D:List Int)(A B O:Ob),dy [.fz (iL ns)] []=À (.tup [.int n,.fz (iL T),.fz (G.map Gv.av),.fz (iL goal),.ref 2],[A,B,.lst (iL D),O])/\dN n/\G.length<=8/\(∀z∈G,uy n z)/\goal.length=2^n-1/\zp goal/\okD D/\100<=D.length/\T.length=2^n-1/\∀x∈T,0<=x/\x<=10000000000:=by
 obtain ⟨A,B,D,S,o,hd⟩:=EC e;obtain ⟨a,x,rfl⟩:=fO (D:=D) (fun z=>by rw [z] at o;cases o);have hd:okD (a++[x]):=hd;obtain ⟨V,m⟩:=hd.at;simp only [zV,Ý] at o;have p:=iV (A:=A) (B:=B) (R:=[]) (D:=a) (x:=x);have E:=Ó (x / 8) (show (8:Int) ≠ 0 by decide);have C:=Ñ (x / 8) (show (0:Int) < 8 by decide);obtain ⟨k,J,M⟩:∃ k:Int,(k=3\/k=4)/\k=3 + if x / 64 % 4=0 then 1 else 0:=by
  by_cases h:x/64%4=0
  ·exact⟨4,.inr rfl,by rw[yI h];rfl⟩
  ·exact⟨3,.inl rfl,by rw[yH h];rfl⟩
 obtain⟨v,s,b⟩:=my (st:=[A,B,.lst (iL a)]) (l:=[.int 1,.int 2,.int 2,.int 3,.int 3,.int 3,.int 3,.int k]) E C;obtain⟨n,rfl,d⟩:∃n:Nat,v=.int (n:Int)/\dN n:=by
  unfold dN;simp only[zT,zX,or_false]at s;rcases s with rfl|rfl|rfl|rfl|rfl|rfl|rfl|rfl
  ·exact⟨1,rfl,by decide⟩
  ·exact⟨2,rfl,by decide⟩
  ·exact⟨2,rfl,by decide⟩
  ·exact⟨3,rfl,by decide⟩
  ·exact⟨3,rfl,by decide⟩
  ·exact⟨3,rfl,by decide⟩
  ·exact⟨3,rfl,by decide⟩
  ·rcases J with rfl|rfl
   ·exact⟨3,rfl,by decide⟩
   ·exact⟨4,rfl,by decide⟩
 obtain⟨y,T,Q,t,j,I⟩:=Df (A:=A) (B:=B) (R:=[]) (D:=a) d oM m;obtain⟨w,G,O,P,L,hz,i,H⟩:=Bw (A:=A) (B:=B) (D:=y) d oM j t;obtain⟨U,goal,N,K,f,g,F⟩:=Cc (A:=A) (B:=B) (R:=[O]) (D:=w) d oM i;refine⟨n,T,G,goal,U,A,B,O,?_,d,L,hz,K,f,g,by lia,t⟩;rw[dy,aA];show(ag [fg,ak,dY,dh,bV] eO [Ls ns,Á,Á,Á,Á,Á] []).bind au=_;unfold eO;refine ae (sl':=[Ls ns,Rs 2,Á,Á,Á,Á]) (st':=[A,B,.lst (iL (a++[x]))]) (by simp[S,dj]) ?_;refine ae (sl':=[Ls ns,Rs 2,Is x,Á,Á,Á]) (st':=[A,B,.lst (iL a)]) (by simp[p,dj]) ?_;refine ae (sl':=[Ls ns,Rs 2,Is x,Is n,Á,Á]) (st':=[A,B,.lst (iL a)]) (by
  have u:aZ .FloorDiv [A,B,.lst (iL a)] (.int x) (.int 8)=À (.int (x/8)):=jW rfl dC;have c:aZ .FloorDiv [A,B,.lst (iL a)] (.int x) (.int 64)=À (.int (x/64)):=jW rfl dC;have q:aZ .Mod [A,B,.lst (iL a)] (.int (x/8)) (.int 8)=À (.int (x/8%8)):=dP dC;have r:aZ .Mod [A,B,.lst (iL a)] (.int (x/64)) (.int 4)=À (.int (x/64%4)):=dP dC;subst M;by_cases h:x/64%4=0
  ·rw[yI h]at b
   simp at b;simp[u,c,q,r,h,b,cw,rfs,rf,bM,lD]
  ·rw[yH h]at b
   simp at b;simp[u,c,q,r,h,b,cw,rfs,rf,bM,lD]) ?_
 refine ae (sl':=[Ls ns,Rs 2,Is x,Is n,Ls T,Á]) (st':=[A,B,.lst (iL y)]) (by simp[Q,dj]) ?_;refine ae (sl':=[Ls ns,Rs 2,Is x,Is n,Ls T,Zs (G.map Gv.av)]) (st':=[A,B,.lst (iL w),O]) (by simp[P,dj]) ?_;refine bh ?_;simp[N,dj]
end
section
variable{st:aa}{n w:Nat}{X:List Int}{G gv:List Gv}{D:Int}
theorem Bh(a:dN n):pm df [.int n] st=À (.fz (aB (jg n)),st):=by
 rcases a with rfl|rfl|rfl|rfl<;>exact c8 rfl (by kernel_rfl)
theorem ur{α:Type}{ks:List Fn}{em:α->AV}{it:Ix}{t:Tg}{b ss:On}{xs:List α}{gd:Gd}{sl:Sl}{p:α->Bool}{c:Bool}(I:Sl->Prop)(n:dH ks it sl st=À (⟨xs.map em,gd⟩,st))(w:cm gd st=Â)(B:I sl)
  (h:∀x∈xs,∀sl,I sl->∃sl1 sl2,b8 ks t (em x) sl st=À (sl1,st)/\ag ks b sl1 st=À (if p x=Â then .nx sl2 st else .rt (.bl Ä) st)/\I sl2)
  (u:xs.all p=Â->∀sl',I sl'->(ag ks ss sl' st).bind au=À (.bl c,st)):(ag ks (.cons (.fo it t b) ss) sl st).bind au=À (.bl (xs.all p&&c),st):=by
 have L:=mj (gd:=gd) (g:=b8 ks t) (s:=ag ks b) (I:=fun i sl s=>s=st/\I sl/\(xs.take i).all p=Â) (Post:=fun v s=>v=.bl Ä/\s=st/\xs.all p=Ä) (xs:=xs.map em) (fun i sl s _ h=>by rw[h.1];exact w) (fun i y sl s m k=>by
  obtain⟨r,l,a⟩:=k;subst r;rw[zR]at m;obtain⟨x,j,rfl⟩:=zE.mp m;obtain⟨sl1,sl2,o,f,A⟩:=h x (zW j) sl l;cases d:p x with
  |true =>
   rw[d,yI rfl]at f;refine⟨_,_,o,f,.inl ⟨_,_,rfl,rfl,A,?_⟩⟩;rw[O9,j,Option.toList_some,List.all_append,a];simp[d]
  |false =>
   rw[d]at f;refine⟨_,_,o,f,.inr ⟨_,_,rfl,rfl,rfl,?_⟩⟩;rw[List.all_eq_false];exact⟨x,zW j,by rw[d];decide⟩) (sl:=sl) (st:=st) ⟨rfl,B,rfl⟩
 rcases L with⟨sl',q,e,rfl,l,a⟩|⟨v,q,e,rfl,rfl,z⟩
 ·rw[zH,Ī]at a
  rw[a,Bool.true_and];exact ae (by rw[kg,n,Ã];exact e) (u a _ l)
 ·rw[z]
  exact bh (by rw[kg,n,Ã];exact e)
def kR(n:Nat)(X:List Int):Bool:=(jg n).all fun r=>decide (0<=val (2^n-1) r (gI X))
def kG(w:Nat)(X:List Int)(D:Int)(z:Gv):Bool:=!(decide (val w z.row (gI X)<z.num*D)||(z.eq&&!decide (val w z.row (gI X)=z.num*D)))
def MN(w:Nat)(G:List Gv):Prop:=G.length<=100/\∀z∈G,z.row.length=w/\(∀x∈z.row,x.natAbs<2^9000)/\z.num.natAbs<2^9000
def kA(n:Nat)(G:List Gv)(X:List Int)(D:Int):Bool:=kR n X&&(G.all (kG (2^n-1) X D)&&Â)
theorem Jt(h:kA n G X D=Â):Kp (2^n-1) (jg n) G (gI X) D:=by
 unfold kA kR at h;simp only[zC,yR,yC]at h;obtain⟨c,b,_⟩:=h;have g:∀z∈G,z.num*D<=val (2^n-1) z.row (gI X)/\(z.eq=Â->val (2^n-1) z.row (gI X)=z.num*D):=fun z hz=>by
  have:=b z hz
  unfold kG at this;simp only[Bool.not_eq_true',Bool.or_eq_false_iff,decide_eq_false_iff_not,Bool.and_eq_false_iff,Bool.not_eq_false',yC]at this;refine⟨by lia,fun a=>?_⟩;rcases this.2 with h|h
  ·rw[a]at h;cases h
  ·exact h
 exact⟨c,fun z hz a=>(g z hz).2 a,fun z hz _=>(g z hz).1⟩
theorem Ew(w:dN n)(Q:MN (2^n-1) G)(F:X.length=2^n-1)(I:(∀x∈X,x.natAbs<2^9000)/\D.natAbs<2^9000)(S:0<D):pm dz [.int n,.fz (G.map Gv.av),.tup [.fz (iL X),.int D]] st=À (.bl (kA n G X D),st):=by
 have J:2^n-1<=15:=by rcases w with rfl|rfl|rfl|rfl<;>decide
 have y:(jg n).length<=100/\∀l∈jg n,l.length=2^n-1/\∀x∈l,x.natAbs<=1:=by rcases w with rfl|rfl|rfl|rfl<;>decide +kernel
 have fl:∀L:List (List Int),rfs (aB L)=Â:=fun L=>fi fun x C=>by
  obtain⟨l,_,rfl⟩:=yD.mp C;simp[rf,dJ]
 refine b9 (by simp[rfs,rf,dJ,mw]) (v:=.bl (kA n G X D)) (st':=[]) ?_ rfl;rw[dz,aA];show(ag [df,aP] eP [Is n,Zs (G.map Gv.av),À (.tup [.fz (iL X),.int D]),Á,Á,Á,Á,Á,Á] []).bind au=_;unfold eP;refine ae (sl':=[Is n,Zs (G.map Gv.av),À (.tup [.fz (iL X),.int D]),Ls X,Is D,Á,Á,Á,Á]) (st':=[]) rfl ?_;have O:ev [df,aP] (.bin .Sub (.bin .LShift (.i 1) (.v 0)) (.i 1)) [Is n,Zs (G.map Gv.av),À (.tup [.fz (iL X),.int D]),Ls X,Is D,Á,Á,Á,Á] []=À (.int ((2^n-1:Nat):Int),[]):=by
  rcases w with rfl|rfl|rfl|rfl<;>rfl
 refine ae (sl':=[Is n,Zs (G.map Gv.av),À (.tup [.fz (iL X),.int D]),Ls X,Is D,Á,Á,Á,Á]) (st':=[]) (by
  have R:¬D<1:=by lia
  have P:bM eV [.fz (iL X)] []=À (.int ((2^n-1:Nat):Int),[]):=by rw[qU,F]
  generalize Ex.bin .Sub (.bin .LShift (.i 1) (.v 0)) (.i 1)=q at *;simp[P,O,R]) ?_
 have e:=ur (st:=[]) (ks:=[df,aP]) (em:=fun r:List Int=>AV.fz (iL r)) (it:=.e (.ca Â 0 (.cons (.v 0) .nil))) (t:=.nm 5) (xs:=jg n) (gd:=[]) (p:=fun r=>decide (0<=val (2^n-1) r (gI X))) (c:=G.all (kG (2^n-1) X D)&&Â) (fun sl=>∃k j i a,sl=[Is n,Zs (G.map Gv.av),À (.tup [.fz (iL X),.int D]),Ls X,Is D,k,j,i,a]) (sl:=[Is n,Zs (G.map Gv.av),À (.tup [.fz (iL X),.int D]),Ls X,Is D,Á,Á,Á,Á]) (by
  rw[Hg];simp only[dA,aO,ba,cj,bF,Ã,Ï,eK,dB,Bh w,yh];rfl) rfl ⟨_,_,_,_,rfl⟩
  (b:=.cons (.iff (.cmp .Lt (.ca Â 1 (.cons (.v 5) (.cons (.v 3) .nil))) (.i 0)) (.cons (.rt (.b Ä)) .nil) .nil) .nil)
  (fun r u sl g=>by
   obtain⟨k,j,i,a,f⟩:=g;subst f;have m:=wm (st:=[]) (r:=r) (T:=X) (by rw[(y.2 r u).1];exact J) (by rw[(y.2 r u).1];exact F) (fun x C=>yM ((y.2 r u).2 x C) (O7 dC)) I.1;rw[(y.2 r u).1]at m;refine⟨[Is n,Zs (G.map Gv.av),À (.tup [.fz (iL X),.int D]),Ls X,Is D,Ls r,j,i,a],[Is n,Zs (G.map Gv.av),À (.tup [.fz (iL X),.int D]),Ls X,Is D,Ls r,j,i,a],rfl,?_,_,_,_,_,rfl⟩;by_cases h:0<=val (2^n-1) r (gI X)
   ·have:¬val (2^n-1) r (gI X)<0:=by lia
    rw[yW h,yI rfl];exact aq (sl':=[Is n,Zs (G.map Gv.av),À (.tup [.fz (iL X),.int D]),Ls X,Is D,Ls r,j,i,a]) (st':=[]) (by simp[m,this]) rfl
   ·have:val (2^n-1) r (gI X)<0:=by lia
    rw[yA h,yH dC];exact jK (by simp[m,this]))
  (fun _ sl' g=>by
   obtain⟨k,j,i,a,f⟩:=g;subst f;exact ur (st:=[]) (ks:=[df,aP]) (em:=Gv.av) (it:=.e (.v 1)) (t:=.tu 3 (.cons (.nm 5) (.cons (.nm 6) (.cons (.nm 7) .nil)))) (b:=.cons (.as (.ca Â 1 (.cons (.v 5) (.cons (.v 3) .nil))) (.nm 8)) (.cons (.iff (.or (.cmp .Lt (.v 8) (.bin .Mult (.v 7) (.v 4))) (.an (.cmp .Eq (.v 6) (.s "=")) (.cmp .NotEq (.v 8) (.bin .Mult (.v 7) (.v 4))))) (.cons (.rt (.b Ä)) .nil) .nil) .nil)) (ss:=.cons (.rt (.b Â)) .nil) (xs:=G) (gd:=[]) (p:=kG (2^n-1) X D) (c:=Â) (fun sl=>∃k j i a,sl=[Is n,Zs (G.map Gv.av),À (.tup [.fz (iL X),.int D]),Ls X,Is D,k,j,i,a]) (sl:=[Is n,Zs (G.map Gv.av),À (.tup [.fz (iL X),.int D]),Ls X,Is D,k,j,i,a]) rfl rfl ⟨_,_,_,_,rfl⟩
    (fun z hz sl g=>by
     obtain⟨k,j,i,a,f⟩:=g;subst f;obtain⟨B,N,M⟩:=Q.2 z hz;have m:=wm (st:=[]) (r:=z.row) (T:=X) (by rw[B];exact J) (by rw[B];exact F) N I.1;rw[B]at m;have q:aZ .Mult [] (.int z.num) (.int D)=À (.int (z.num*D)):=ce (dO M I.2);obtain⟨s,K⟩:∃s,s=AV.str (if z.eq=Â then "=" else ">"):=⟨_,rfl⟩;have H:bB .Eq [] s (.str "=")=À z.eq:=by rw[K];cases z.eq<;>kernel_rfl
     refine⟨[Is n,Zs (G.map Gv.av),À (.tup [.fz (iL X),.int D]),Ls X,Is D,Ls z.row,À s,Is z.num,a],[Is n,Zs (G.map Gv.av),À (.tup [.fz (iL X),.int D]),Ls X,Is D,Ls z.row,À s,Is z.num,Is (val (2^n-1) z.row (gI X))],by rw[K];rfl,?_,_,_,_,_,rfl⟩;refine aq (sl':=[Is n,Zs (G.map Gv.av),À (.tup [.fz (iL X),.int D]),Ls X,Is D,Ls z.row,À s,Is z.num,Is (val (2^n-1) z.row (gI X))]) (st':=[]) (by simp[m]) ?_;unfold kG;generalize val (2^n-1) z.row (gI X)=v at *;generalize z.num*D=d at *;by_cases o:v<d
     ·rw[yW o]
      exact jK (by simp[q,o])
     ·rw[yA o]
      cases E:z.eq with
      |false=>exact aq (sl':=[Is n,Zs (G.map Gv.av),À (.tup [.fz (iL X),.int D]),Ls X,Is D,Ls z.row,À s,Is z.num,Is v]) (st':=[]) (by simp[q,o,H,E]) rfl
      |true =>
       by_cases A:v=d
       ·rw[yW A]
        exact aq (sl':=[Is n,Zs (G.map Gv.av),À (.tup [.fz (iL X),.int D]),Ls X,Is D,Ls z.row,À s,Is z.num,Is v]) (st':=[]) (by simp[q,o,H,E,A]) rfl
       ·rw[yA A]
        exact jK (by simp[q,o,H,E,A]))
    (fun _ sl' _=>bh rfl))
 exact e
end
section
variable{st:aa}{n w:Nat}{r X:List Int}{G gv:List Gv}{D:Int}
abbrev An:Type:=Option (Option (Int×Int))
def CM:An->Ì
 |none=>"never"
 |some Á=>"endless"
 |some (À _)=>"least"
noncomputable def af:Option (Int×Int)->AV
 |none=>.non
 |some (p,q)=>.tup [.int p,.int q]
def MO(f:Int×Int):Prop:=0<f.2/\f.1.natAbs<2^1900/\f.2.natAbs<2^1900
structure At(n:Nat)(G:List Gv)(r:List Int)(a:An)(t:AV):Prop where
 s:∀st,bI st t (.int 0)=À (.str (CM a))
 f:∀f,a=À (À f)->∀st,bI st t (.int 1)=À (af (À f))
 ok:∀f,a=À (À f)->MO f
 nv:a=Á ↔ ∀Y e,0<e->¬Kp (2^n-1) (jg n) G Y e
 lo:∀f,a=À (À f)->∀Y e,0<e->Kp (2^n-1) (jg n) G Y e->f.1*e<=val (2^n-1) r Y*f.2
 rf:rf t=Â
theorem Kd{t:AV}(A:rh (2^n-1) (jg n) G r t):∃a,At n G r a t:=by
 rcases A with⟨⟨W,rfl⟩,h⟩|⟨T,d,X,D,K,W,rfl,hd,⟨v,bd⟩,⟨b,_⟩,o⟩|⟨X,D,Z,rfl,b,_,_,_⟩
 ·exact⟨Á,fun _=>rfl,fun _ z=>(by cases z),fun _ z=>(by cases z),⟨fun _=>h,fun _=>rfl⟩,fun _ z=>(by cases z),by simp[R.rf,rfs,dJ]⟩
 ·obtain⟨g,c,j,i,l⟩:=GY (T:=T) hd
  have u:=Cm j c v;have s:=Cm i c bd;generalize gI (ax [T,d]) 0=p at *;generalize gI (ax [T,d]) 1=q at *;refine⟨À (À (p,q)),fun _=>rfl,fun f z=>?_,fun f z=>?_,⟨fun z=>(by cases z),fun h=>absurd b.kp (h _ _ b.pos)⟩,fun f z Y e m k=>?_,by simp[R.rf,rfs,dJ]⟩
  ·injection z with z;injection z with z;subst z;exact fun _=>rfl
  ·injection z with z;injection z with z;subst z;exact⟨l,u,s⟩
  ·injection z with z;injection z with z;subst z
   have h:=o Y e m k;rw[j,i]at h;exact ħ (a:=g) (by rw[show p*e*g=p*g*e by grind,show val (2^n-1) r Y*q*g=val (2^n-1) r Y*(q*g) by grind];exact h) c
 ·exact⟨À Á,fun _=>rfl,fun _ z=>(by cases z),fun _ z=>(by cases z),⟨fun z=>(by cases z),fun h=>absurd b.kp (h _ _ b.pos)⟩,fun _ z=>(by cases z),by simp[R.rf,rfs,dJ]⟩
theorem NQ(a:An)(s:Ì)(b:s="never"\/s="least"):bB .Eq st (.str (CM a)) (.str s)=À (match a with
  |none=>decide (s="never")
  |some Á=>Ä
  |some (À _)=>decide (s="least")):=by
 match a with
 |none=>rcases b with rfl|rfl<;>kernel_rfl
 |some Á=>rcases b with rfl|rfl<;>kernel_rfl
 |some (À _)=>rcases b with rfl|rfl<;>kernel_rfl
theorem Fq(a:An):bB .Eq st (.str (CM a)) (.str "never")=À a.isNone:=by
 match a with
 |none=>kernel_rfl
 |some Á=>kernel_rfl
 |some (À _)=>kernel_rfl
theorem Ft(a:An):bB .Eq st (.str (CM a)) (.str "least")=À (match a with|some (À _)=>Â|_=>Ä):=by
 match a with
 |none=>kernel_rfl
 |some Á=>kernel_rfl
 |some (À _)=>kernel_rfl
noncomputable def cS(f:Option (Int×Int)):Option (Int×Int):=f.map fun f=>(- f.1,f.2)
def fH:An->An->AV
 |some l,À h=>.tup [af l,af (cS h)]
 |_,_=>.non
theorem Cd(a b:An):rf (fH a b)=Â:=by
 match a,b with
 |none,_=>rfl
 |some _,Á=>rfl
 |some Á,À Á=>rfl
 |some Á,À (À _)=>rfl
 |some (À _),À Á=>rfl
 |some (À _),À (À _)=>rfl
theorem vd{a:An}{t:AV}(A:At n G r a t):pm gg [t] st=À (af (a.getD Á),st):=by
 refine b9 (by simp[rfs,A.rf]) (v:=af (a.getD Á)) (st':=[]) ?_ (by match a with|none=>rfl|some Á=>rfl|some (À _)=>rfl);rw[gg,aA];show(ag [] nR [À t] []).bind au=_;have b:=A.s [];have q:=Ft (st:=[]) a;refine bh ?_
 match a with
 |none=>simp[b,q,af]
 |some Á=>simp[b,q,af]
 |some (À f) =>
  have c:=A.f f rfl [];simp[b,q,c]
theorem Ag(f:Option (Int×Int)):pm gf [af f] st=À (af (cS f),st):=by
 match f with
 | none=>exact b9 rfl (show gf [.non] []=À (.non,[]) by rfl) rfl
 |some (p,q) =>
  refine b9 rfl (v:=af (cS (À (p,q)))) (st':=[]) ?_ rfl;rw[gf,aA];rfl
structure Fa(n:Nat)(G:List Gv)(f:List Int->An×AV):Prop where
 e:∀r,(r.length=2^n-1/\∀x∈r,x.natAbs<=M0)->(∀st,pm cF [.int n,.fz (G.map Gv.av),.fz (iL r)] st=À ((f r).2,st))/\At n G r (f r).1 (f r).2
theorem JJ(c:dN n)(d:G.length<=100)(j:∀z∈G,z.row.length=2^n-1/\(∀x∈z.row,x.natAbs<=M0)/\z.num.natAbs<=M0):∃f,Fa n G f:=by
 have i:∀r:List Int,∃q:An×AV,(r.length=2^n-1/\∀x∈r,x.natAbs<=M0)->(∀b,pm cF [.int n,.fz (G.map Gv.av),.fz (iL r)] b=À (q.2,b))/\At n G r q.1 q.2:=fun r=>by
  by_cases h:r.length=2^n-1/\∀x∈r,x.natAbs<=M0
  ·obtain⟨t,e,A⟩:=HV (MK (goal:=r) c d j h)
   obtain⟨a,A⟩:=Kd A;exact⟨(a,t),fun _=>⟨e,A⟩⟩
  ·exact⟨(Á,.non),fun z=>absurd z h⟩
 obtain⟨f,g⟩:=Ϭ i;exact⟨f,⟨g⟩⟩
noncomputable def dk(r:List Int):List Int:=r.map fun x=>- x
theorem eM(h:r.length=2^n-1/\∀x∈r,x.natAbs<=M0):(dk r).length=2^n-1/\∀x∈dk r,x.natAbs<=M0:=⟨by unfold dk;rw[zH];exact h.1,fun x b=>by
 obtain⟨y,a,rfl⟩:=yD.mp b;rw[ð];exact h.2 y a⟩
def db(f:List Int->An×AV)(r:List Int):AV:=fH (f r).1 (f (dk r)).1
theorem Fa.nv{f:List Int->An×AV}(F:Fa n G f)(h:r.length=2^n-1/\∀x∈r,x.natAbs<=M0){a:List Int}(h':a.length=2^n-1/\∀x∈a,x.natAbs<=M0):(f r).1=Á ↔ (f a).1=Á:=(F.e r h).2.nv.trans (F.e a h').2.nv.symm
theorem Cl{ks:List Fn}{k s:Nat}{sl:Sl}{e:Ex}(a:sl.length=s)(d:aV k sl st=À (.fz (iL r),st))(b:r.length<=1000)(h:∀x,ev ks e (sl++[Is x]) st=À (.int (- x),st)):ev ks (.nw Ä (.lc 1 (.e (.v k)) (.nm s) .no e)) sl st=À (.fz (iL (dk r)),st):=by
 have c:=lu (st:=st) (ks:=ks) (k:=1) (it:=.e (.v k)) (t:=.nm s) (c:=.no) (e:=e) (sl:=sl) (gd:=[]) (em:=AV.int) (xs:=r) (B:=fun _=>Â) (F:=fun x=>AV.int (- x)) (by rw[Hg,cj,d];rfl) rfl b fun x f=>⟨sl++[Is x],by
  show À ((sl++[Á]).set s (À (.int x)),st)=_;rw[<- a,A! _ _ (zP _),W1];rfl,rfl,fun _=>h x⟩
 rw[ă.mpr (fun _ _=>rfl),show r.map (fun x=>AV.int (- x))=iL (dk r) by unfold iL dk;rw[å];rfl]at c;rw[gz,c,Ã,yI dJ]
theorem pN{f:List Int->An×AV}(p:dN n)(F:Fa n G f)(h:r.length=2^n-1/\∀x∈r,x.natAbs<=M0):pm bS [.int n,.fz (G.map Gv.av),.fz (iL r)] st=À (db f r,st):=by
 have z:2^n-1<=15:=by rcases p with rfl|rfl|rfl|rfl<;>decide
 obtain⟨d,i⟩:=F.e r h;obtain⟨c,o⟩:=F.e (dk r) (eM h);have nv:=F.nv h (eM h);unfold db;generalize f r=p1 at *;generalize f (dk r)=p2 at *;obtain⟨a,t⟩:=p1;obtain⟨b,u⟩:=p2;dsimp only at d i c o nv ⊢;have d:=d [];have c:=c [];have j:=i.s [];have q:=Fq (st:=[]) a;have g:=vd (st:=[]) i;have y:=vd (st:=[]) o;have w:=Ag (st:=[]) (b.getD Á);refine b9 (by simp[rfs,rf,dJ,mw]) (v:=fH a b) (st':=[]) ?_ (by
  match a,b with
  |none,_=>rfl
  |some _,Á=>rfl
  |some Á,À Á=>rfl
  |some Á,À (À _)=>rfl
  |some (À _),À Á=>rfl
  |some (À _),À (À _)=>rfl)
 rw[bS,aA];show(ag [cF,gg,gf] iJ [Is n,Zs (G.map Gv.av),Ls r,Á,Á] []).bind au=_;unfold iJ;refine ae (sl':=[Is n,Zs (G.map Gv.av),Ls r,À t,Á]) (st':=[]) (by simp[d]) ?_;cases a with
 |none=>exact bh (by simp[j,q];rfl)
 |some l =>
  refine ae (sl':=[Is n,Zs (G.map Gv.av),Ls r,À t,Á]) (st':=[]) (by simp[j,q]) ?_;have m:=Cl (st:=[]) (ks:=[cF,gg,gf]) (k:=2) (s:=5) (sl:=[Is n,Zs (G.map Gv.av),Ls r,À t,Á]) (e:=.un .USub (.v 5)) rfl rfl oM fun x=>rfl
  refine ae (sl':=[Is n,Zs (G.map Gv.av),Ls r,À t,À (af (cS (b.getD Á)))]) (st':=[]) (by
   rw[c9];simp only[dA,aO,ba,cj,bF,bO,Ã,Ï,m,eK,dB,d6,c,y,w];rfl) (bh ?_)
  cases b with
  |none=>exact absurd (nv.mpr rfl) (by simp)
  |some h =>
   have g:pm gg [t] []=À (af l,[]):=g;rw[kb];simp only[vv,dA,aO,ba,cj,bF,bO,Ã,Ï,eK,dB,d6,g];rfl
theorem sG{f:List Int->An×AV}(J:dN n)(F:Fa n G f)(h:r.length=2^n-1/\∀x∈r,x.natAbs<=M0):pm dZ [.int n,.fz (G.map Gv.av),.fz (iL r)] st=À (db f r,st):=by
 have K:2^n-1<=15:=by rcases J with rfl|rfl|rfl|rfl<;>decide
 obtain⟨i,y⟩:=F.e r h;obtain⟨g,w⟩:=F.e (dk r) (eM h);have nv:=F.nv h (eM h);unfold db;generalize f r=p1 at *;generalize f (dk r)=p2 at *;obtain⟨a,t⟩:=p1;obtain⟨b,u⟩:=p2;dsimp only at i y g w nv ⊢;have i:=i [];have g:=g [];have j:∃s,dZ [.int n,.fz (G.map Gv.av),.fz (iL r)] []=À (fH a b,s):=by
  rw[dZ,aA];show ∃s,(ag [cF] gN [Is n,Zs (G.map Gv.av),Ls r,Á,Á,Á] []).bind au=_;unfold gN;have m:=Cl (st:=[]) (ks:=[cF]) (k:=2) (s:=6) (sl:=[Is n,Zs (G.map Gv.av),Ls r,À t,Á,Á]) (e:=.bin .Sub (.i 0) (.v 6)) rfl rfl oM fun x=>by
   simp only[lY,ib,cj,Ã];show((À (AV.int x,([]:aa))).bind _)=_;rw[Ã,qX,Int.zero_sub];rfl
  have g1:∀{R},(∃s,(ag [cF] R [Is n,Zs (G.map Gv.av),Ls r,À t,À u,Á] []).bind au=À (fH a b,s))->∃s,(ag [cF] (.cons (.as (.ca Â 0 (.cons (.v 0) (.cons (.v 1) (.cons (.v 2) .nil)))) (.nm 3))
 (.cons (.as (.ca Â 0 (.cons (.v 0) (.cons (.v 1) (.cons (.nw Ä (.lc 1 (.e (.v 2)) (.nm 6) .no (.bin .Sub (.i 0) (.v 6)))) .nil)))) (.nm 4)) R)) [Is n,Zs (G.map Gv.av),Ls r,Á,Á,Á] []).bind au=À (fH a b,s):=fun⟨s,h⟩=>⟨s,ae (sl':=[Is n,Zs (G.map Gv.av),Ls r,À t,Á,Á]) (st':=[]) (by simp[i]) (ae (sl':=[Is n,Zs (G.map Gv.av),Ls r,À t,À u,Á]) (st':=[]) (by
    rw[c9];simp only[dA,aO,ba,cj,bF,bO,Ã,Ï,m,eK,dB,d6,g];rfl) h)⟩
  refine g1 ?_;have d:=y.s;have o:=w.s;have B:=fun st=>Fq (st:=st) a
  have I:=fun st=>Fq (st:=st) b
  cases a with
  |none=>exact⟨[],bh (by simp[d,B];rfl)⟩
  |some l=>cases b with
   |none=>exact absurd (nv.mpr rfl) (by simp)
   |some h =>
    have A:=fun st=>Ft (st:=st) (À l)
    have z:=fun st=>Ft (st:=st) (À h)
    refine⟨[.lst [af l,af (cS h)]],?_⟩;refine ae (sl':=[Is n,Zs (G.map Gv.av),Ls r,À t,À u,Á]) (st':=[]) (by simp[d,o,B,I]) ?_;refine ae (sl':=[Is n,Zs (G.map Gv.av),Ls r,À t,À u,Rs 0]) (st':=[.lst [.non,.non]]) rfl ?_;refine ae (sl':=[Is n,Zs (G.map Gv.av),Ls r,À t,À u,Rs 0]) (st':=[.lst [af l,.non]]) (by
     cases l with
     |none=>simp[d,A,af]
     |some p =>
      have v:=y.f p rfl;have c:=cW (st:=[.lst [.non,.non]]) (k:=0) (q:=0) (xs:=[.non,.non]) (x:=af (À p)) rfl dC;simp at c;simp[d,A,v,c]) ?_
    refine ae (sl':=[Is n,Zs (G.map Gv.av),Ls r,À t,À u,Rs 0]) (st':=[.lst [af l,af (cS h)]]) (by
     cases h with
     |none=>simp[o,z,af,cS]
     |some p =>
      have v:=w.f p rfl;have c:=cW (st:=[.lst [af l,.non]]) (k:=0) (q:=1) (xs:=[af l,.non]) (x:=af (cS (À p))) rfl (show 1 < 2 by decide);have H:∀ st,bI st (af (À p)) (.int 0)=À (.int p.1):=fun _=>rfl
      have E:∀st,bI st (af (À p)) (.int 1)=À (.int p.2):=fun _=>rfl
      simp[cS,af]at c;generalize af (À p)=fp at *;simp[o,z,v,H,E,cS,c,af]) (bh ?_)
    have D:bI [.lst [af l,af (cS h)]] (.ref 0) (.int 0)=À (af l):=rfl;have C:bI [.lst [af l,af (cS h)]] (.ref 0) (.int 1)=À (af (cS h)):=rfl;rw[kb];simp only[vv,aO,ba,j9,cj,ib,bF,bO,Ã,Ï,D,C];rfl
 obtain⟨s,e⟩:=j;refine b9 (by simp[rfs,rf,dJ,mw]) e ?_
 match a,b with
 |none,_=>rfl
 |some _,Á=>rfl
 |some Á,À Á=>rfl
 |some Á,À (À _)=>rfl
 |some (À _),À Á=>rfl
 |some (À _),À (À _)=>rfl
end
section
variable{st:aa}
def SK(k w m:Nat)(p:ô):Prop:=(p.canLay0=Â/\p.depth<=k)/\(p.weight<=w/\p.showable=Â)/\p.shown.length<=m
theorem SK.up{k w m c a b:Nat}{p:ô}(h:SK k w m p)(f:k<=c)(e:w<=a)(d:m<=b):SK c a b p:=⟨⟨h.1.1,z5 h.1.2 f⟩,⟨z5 h.2.1.1 e,h.2.1.2⟩,z5 h.2.2 d⟩
theorem nZ{b k:Nat}{i:Int}(h:i.natAbs<2^b)(f:b<=1919)(c:2^b<=10^k)(a:0<k):SK 0 b (k+1) (.int i):=by
 have l:i.natAbs.log2+1<=b\/i=0:=by
  by_cases d:i=0
  ·exact .inr d
  ·exact .inl ((Ą oM).mpr h)
 refine⟨⟨rfl,zP _⟩,⟨?_,?_⟩,?_⟩
 ·show(if(i==0)=Â then 0 else i.natAbs.log2+1)<=b
  split
  ·lia
  ·rename_i z
   rcases l with l|rfl
   ·exact l
   ·exact absurd rfl z
 ·show decide (i.natAbs.log2<1920)=Â
  rcases l with l|rfl
  ·exact yW oM
  ·decide
 ·have e:=int_text_length_le10 (k:=k) a (zJ h c)
  show(ù (toString i)).length<=k+1;rw[ofString_length];exact e
theorem sk_none:SK 0 0 4 .none:=⟨⟨rfl,zP _⟩,⟨zP _,rfl⟩,zP _⟩
theorem Iy(b:Bool):SK 0 1 12 (.str (if b=Â then "=" else ">")):=by
 cases b with
 |true=>exact⟨⟨by decide +kernel,zP _⟩,⟨zP _,rfl⟩,StrLaws.reprText_len "=" dC⟩
 |false=>exact⟨⟨by decide +kernel,zP _⟩,⟨zP _,rfl⟩,StrLaws.reprText_len ">" dC⟩
theorem jN{k w m:Nat}{l:List ô}(h:∀x∈l,SK k w m x):SK (k+1) (l.length*(w+1)) (l.length*(m+2)+3) (.list l)/\SK (k+1) (l.length*(w+1)) (l.length*(m+2)+3) (.tuple l):=by
 have a:ë l=Â/\O5 l<=k/\L! l<=l.length*(w+1)/\B! l=Â/\((Ņ l).map (·.length)).sum<=l.length*m:=by
  induction l with
  |nil=>exact⟨rfl,û _,û _,rfl,û _⟩
  |cons x l f =>
   obtain⟨⟨a1,a2⟩,⟨s,n⟩,r⟩:=h x z7;obtain⟨c,j,d,b,i⟩:=f fun y g=>h y (zQ _ g)
   refine⟨by simp only[ë,a1,c,Đ],by simp only[O5];lia,?_,by simp only[B!,n,b,Đ],?_⟩
   ·simp only[L!,yY,X4];lia
   ·simp only[Ņ,zO,i!,yY,X4];lia
 obtain⟨c,j,d,b,i⟩:=a;have o:(Ņ l).length=l.length:=PyData.shownAll_length l;have q:=listText_len_le (Ņ l);have p:=tupleText_len_le (Ņ l);have e:l.length*(m+2)=l.length*m+2*l.length:=by rw[Nat.mul_add];lia
 refine⟨⟨⟨by simp only[ē,c],by simp only[h!];lia⟩,⟨by simp only[R!];exact d,by simp only[O3,b]⟩,by simp only[ύ];lia⟩,⟨by simp only[ē,c],by simp only[h!];lia⟩,⟨by simp only[R!];exact d,by simp only[O3,b]⟩,by simp only[ύ];lia⟩
theorem SK.stB{k w m:Nat}{p:ô}(h:SK k w m p)(a:k<=40)(c:w<=2^20)(b:m<=16777216):stB p=Â:=by
 unfold R.stB O4;rw[h.1.1,h.2.1.2,yW (z5 h.1.2 (z5 a dC)),yW (z5 h.2.1.1 c),yW (z5 h.1.2 a),yW (z5 h.2.2 b)];rfl
theorem Ez{x y:AV}{p:ô}{k w m:Nat}(h:aQ 9 st x=À p)(b:aQ 9 st y=À p)(a:SK k w m p)(c:k<=9):bB .Eq st x y=À Â:=by
 show io st x y=_;unfold io;rw[h,b,Ã,Ã,yI (by unfold DD.pyOk;have:=a.1.2;rw[a.1.1,yW oM];rfl),SeqAt.eqv_refl p a.1.1]
theorem ie(s:Ì):bB .NotEq st (.str s) (.str s)=À Ä/\bB .Eq st (.str s) (.str s)=À Â:=by
 have:io st (.str s) (.str s)=À Â:=by
  unfold io;show(if DD.pyOk (.str s) (.str s)=Â then À (Ö (.str s) (.str s)) else vL (.str s) (.str s))=_;split
  ·simp[Ö]
  ·simp[vL,vK]
 exact⟨by show(io st _ _).map _=_;rw[this];rfl,this⟩
noncomputable def Cy:Option (Int×Int)->ô
 |none=>.none
 |some (p,q)=>.tuple [.int p,.int q]
theorem IT{n:Nat}(f:Option (Int×Int)):aQ (n+1) st (af f)=À (Cy f):=by
 match f with
 |none=>rfl
 |some (p,q)=>cases n<;>rfl
def qh(f:Option (Int×Int)):Prop:=∀p q,f=À (p,q)->p.natAbs<2^1900/\q.natAbs<2^1900
theorem B8{f:Option (Int×Int)}(h:qh f):SK 1 3802 1207 (Cy f):=by
 match f,h with
 |none,_=>exact sk_none.up dC dC dC
 |some (p,q),h =>
  obtain⟨c,b⟩:=h p q rfl;have k:(2:Nat)^1900<=10^599:=by decide +kernel
  exact(jN (k:=0) (w:=1900) (m:=600) fun x a=>by
   simp only[zT,zX,or_false]at a;rcases a with rfl|rfl
   ·exact nZ c dC k dC
   ·exact nZ b dC k dC).2
def Ce:An->An->ô
 |some l,À h=>.tuple [Cy l,Cy (cS h)]
 |_,_=>.none
theorem Cj{n:Nat}(a b:An):aQ (n+2) st (fH a b)=À (Ce a b):=by
 match a,b with
 |none,_=>rfl
 |some _,Á=>rfl
 |some l,À h =>
  show(aR (aQ (n+1) st) [af l,af (cS h)]).map _=_;simp only[aR,IT,Ã,Ï];rfl
def okA(a:An):Prop:=∀f,a=À f->qh f
theorem okA.ng{h:Option (Int×Int)}(o:okA (À h)):qh (cS h):=fun p q e=>by
 match h,e with
 |some (x,y),e =>
  injection e with e;injection e with e1 e2
  have:=o _ rfl x y rfl
  rw[<- e1,<- e2];exact⟨by show(- x).natAbs<_;rw[ð];exact this.1,this.2⟩
theorem B7{a b:An}(e:okA a)(d:okA b):SK 2 7606 2421 (Ce a b):=by
 match a,b with
 |none,_=>exact sk_none.up dC dC dC
 |some _,Á=>exact sk_none.up dC dC dC
 |some l,À h =>
  exact(jN (k:=1) (w:=3802) (m:=1207) fun x c=>by
   simp only[zT,zX,or_false]at c;rcases c with rfl|rfl
   ·exact B8 (e _ rfl)
   ·exact B8 d.ng).2
theorem At.okA{n:Nat}{G:List Gv}{r:List Int}{a:An}{t:AV}(A:At n G r a t):okA a:=fun f e p q b=>by
 subst b
 have:=A.ok (p,q) e
 exact⟨this.2.1,this.2.2⟩
noncomputable def zo(a b:Int×Int):Bool:=decide (a.1*b.2<b.1*a.2)
def eA:Option (Int×Int)->Option (Int×Int)->Bool
 |some a,À b=>zo a b
 |_,_=>Ä
def kn:An->An->Int×Int->AV
 |some l,À h,f=>if eA (À f) l=Â then .str "less" else if eA (cS h) (À f)=Â then .str "more" else .str "within"
 |_,_,_=>.non
theorem xV(a b:An)(f:Int×Int):eS st (kn a b f)=À (kn a b f):=by
 match a,b with
 |none,_=>rfl
 |some _,Á=>rfl
 |some l,À h =>
  show eS st (if _ then _ else _)=À (if _ then _ else _);cases eA (À f) l
  ·cases eA (cS h) (À f)<;>rfl
  ·rfl
theorem Co{a b:Int}(d:a.natAbs<2^1900)(c:b.natAbs<2^1900):aZ .Mult st (.int a) (.int b)=À (.int (a*b)):=ce (dO (zJ d (ü dC dC)) (zJ c (ü dC dC)))
def mF(f:Int×Int):Prop:=f.1.natAbs<2^1900/\f.2.natAbs<2^1900
theorem Cz(a:Int×Int):bI st (af (À a)) (.int 0)=À (.int a.1)/\bI st (af (À a)) (.int 1)=À (.int a.2):=⟨rfl,rfl⟩
theorem oZ(f:Option (Int×Int)):rf (af f)=Â:=by
 match f with
 |none=>rfl
 |some _=>rfl
theorem vj{a b:Int×Int}(d:mF a)(c:mF b):pm d9 [af (À a),af (À b)] st=À (.bl (zo a b),st):=by
 have e:=Co (st:=[]) d.1 c.2;have m2:=Co (st:=[]) c.1 d.2;obtain⟨h,a1⟩:=Cz (st:=[]) a;obtain⟨g,f⟩:=Cz (st:=[]) b;refine b9 (by simp[rfs,oZ]) (v:=.bl (zo a b)) (st':=[]) ?_ rfl;rw[d9,aA];show(ag [] kJ [À (af (À a)),À (af (À b))] []).bind au=_;generalize af (À a)=x at *;generalize af (À b)=y at *;refine bh ?_;simp[h,a1,g,f,e,m2,zo]
theorem oj(f:Option (Int×Int)):bB .IsNot st (af f) .non=À f.isSome/\bB .Is st (af f) .non=À f.isNone:=by
 match f with
 |none=>exact⟨rfl,rfl⟩
 |some _=>exact⟨rfl,rfl⟩
theorem xW{f g:Option (Int×Int)}(h:qh f)(e:qh g):pm fN [af f,af g] st=À (.bl (eA f g),st):=by
 refine b9 (by simp[rfs,oZ]) (v:=.bl (eA f g)) (st':=[]) ?_ rfl;rw[fN,aA];show(ag [] jI [À (af f),À (af g)] []).bind au=_;have c:=(oj (st:=[]) f).1;have d:=(oj (st:=[]) g).1;refine bh ?_
 match f,g with
 |none,g=>simp[c,eA]
 |some a,Á=>simp[c,d,eA]
 |some a,À b =>
  have i:=Co (st:=[]) (h _ _ rfl).1 (e _ _ rfl).2;have m2:=Co (st:=[]) (e _ _ rfl).1 (h _ _ rfl).2;obtain⟨l,a1⟩:=Cz (st:=[]) a;obtain⟨k,j⟩:=Cz (st:=[]) b;generalize af (À a)=x at *;generalize af (À b)=y at *;simp[c,d,l,a1,k,j,i,m2,zo,eA]
theorem vQ(a b:An)(h:a=Á ↔ b=Á):bB .Is st (fH a b) .non=À a.isNone/\bB .IsNot st (fH a b) .non=À a.isSome:=by
 match a,b with
 |none,_=>exact⟨rfl,rfl⟩
 |some _,Á=>exact absurd (h.mpr rfl) (by simp)
 |some _,À _=>exact⟨rfl,rfl⟩
theorem xU{a b:An}{f:Int×Int}(u:okA a)(t:okA b)(h:a=Á ↔ b=Á)(o:mF f):pm eE [fH a b,af (À f)] st=À (kn a b f,st):=by
 refine b9 (by simp[rfs,oZ,Cd]) (v:=kn a b f) (st':=[]) ?_ (xV a b f);rw[eE,aA];show(ag [fN] ia [À (fH a b),À (af (À f))] []).bind au=_;have q:=(vQ (st:=[]) a b h).1;unfold ia
 match a,b with
 |none,b=>exact bh (s:=.iff _ _ _) (by simp[q,mH];rfl)
 |some l,Á=>exact absurd (h.mpr rfl) (by simp)
 |some l,À r =>
  have d:qh (À f):=fun p q e=>by injection e with e;subst e;exact o
  have c:=xW (st:=[]) (f:=À f) (g:=l) d (u _ rfl);have m:=xW (st:=[]) (f:=cS r) (g:=À f) t.ng d;have i:bI [] (fH (À l) (À r)) (.int 0)=À (af l):=rfl;have n:bI [] (fH (À l) (À r)) (.int 1)=À (af (cS r)):=rfl;generalize fH (À l) (À r)=x at *;generalize af (À f)=y at *;refine ae (sl':=[À x,À y]) (st':=[]) (by simp[q]) ?_;show _=À (if _ then _ else _,_);generalize eA (À f) l=c1 at *;generalize eA (cS r) (À f)=c2 at *;cases c1 with
  |true=>exact bh (by simp[i,c,k8])
  |false =>
   refine ae (sl':=[À x,À y]) (st':=[]) (by simp[i,c,k8]) (bh ?_);have k:bI [] (.fz [.str "within",.str "more"]) (.int 0)=À (.str "within"):=rfl;have j:bI [] (.fz [.str "within",.str "more"]) (.int 1)=À (.str "more"):=rfl;cases c2<;>simp[n,m,cw,rfs,rf,bM,lD,k,j]
theorem Je{n:Nat}{G:List Gv}{r:List Int}{g:List Int->An×AV}{f:Int×Int}(B:dN n)(F:Fa n G g)(h:r.length=2^n-1/\∀x∈r,x.natAbs<=M0)(t:mF f):pm gQ [.int n,.fz (G.map Gv.av),.fz (iL r),af (À f)] st=À (kn (g r).1 (g (dk r)).1 f,st):=by
 have m:=pN (st:=[]) B F h;have D:=(F.e r h).2.okA;have C:=(F.e (dk r) (eM h)).2.okA;have nv:=F.nv h (eM h);unfold db at m;generalize (g r).1=a at *;generalize (g (dk r)).1=b at *;refine b9 (by simp[rfs,rf,oZ,dJ,mw]) (v:=kn a b f) (st':=[]) ?_ (xV a b f);rw[gQ,aA];show(ag [bS,d9] iK [Is n,Zs (G.map Gv.av),Ls r,À (af (À f)),Á] []).bind au=_;have q:=(vQ (st:=[]) a b nv).1;unfold iK;refine ae (sl':=[Is n,Zs (G.map Gv.av),Ls r,À (af (À f)),À (fH a b)]) (st':=[]) (by simp[m]) ?_
 match a,b with
 |none,b=>exact bh (s:=.iff _ _ _) (by simp[q,mH];rfl)
 |some l,Á=>exact absurd (nv.mpr rfl) (by simp)
 |some l,À i =>
  have c:bI [] (fH (À l) (À i)) (.int 0)=À (af l):=rfl;have A:bI [] (fH (À l) (À i)) (.int 1)=À (af (cS i)):=rfl;have u:=C.ng;generalize fH (À l) (À i)=x at *;refine ae (sl':=[Is n,Zs (G.map Gv.av),Ls r,À (af (À f)),À x]) (st':=[]) (by simp[q]) ?_;show _=À (if _ then _ else _,_);have w:=D _ rfl;generalize cS i=h2 at *;have k:∀l:Option (Int×Int),qh l->bI [] x (.int 0)=À (af l)->tv [bS,d9] (.an (.cmp .IsNot (.ix (.v 4) (.i 0)) .n) (.va (.ca Â 1 (.cons (.v 3) (.cons (.ix (.v 4) (.i 0)) .nil))))) [Is n,Zs (G.map Gv.av),Ls r,À (af (À f)),À x] []=À (eA (À f) l,[]):=fun l o c=>by
   have d:=(oj (st:=[]) l).1;cases l with
   |none=>simp[c,d,eA]
   |some p =>
    have e:=vj (st:=[]) (a:=f) (b:=p) t (o _ _ rfl);generalize af (À p)=y at c d e;generalize af (À f)=z at e ⊢;simp[c,d,e,k8,eA]
  have j:∀l:Option (Int×Int),qh l->bI [] x (.int 1)=À (af l)->tv [bS,d9] (.an (.cmp .IsNot (.ix (.v 4) (.i 1)) .n) (.va (.ca Â 1 (.cons (.ix (.v 4) (.i 1)) (.cons (.v 3) .nil))))) [Is n,Zs (G.map Gv.av),Ls r,À (af (À f)),À x] []=À (eA l (À f),[]):=fun l o c=>by
   have d:=(oj (st:=[]) l).1;cases l with
   |none=>simp[c,d,eA]
   |some p =>
    have e:=vj (st:=[]) (a:=p) (b:=f) (o _ _ rfl) t;generalize af (À p)=y at c d e;generalize af (À f)=z at e ⊢;simp[c,d,e,k8,eA]
  have k:=k l w c;have j:=j h2 u A;generalize eA (À f) l=b1 at *;generalize eA h2 (À f)=b2 at *;cases b1 with
  |true=>exact bh (by rw[cY,k];rfl)
  |false =>
   refine ae (sl':=[Is n,Zs (G.map Gv.av),Ls r,À (af (À f)),À x]) (st':=[]) (by rw[cY,k];rfl) ?_;cases b2 with
   |true=>exact bh (by rw[cY,j];rfl)
   |false=>exact ae (sl':=[Is n,Zs (G.map Gv.av),Ls r,À (af (À f)),À x]) (st':=[]) (by rw[cY,j];rfl) (bh rfl)
end
section
variable{st:aa}{n:Nat}{G:List Gv}{f:List Int->An×AV}
def Cu(f:Fn)(a:List AV)(L:List AV):Bool:=match (f a []).bind fun p=>eS p.2 p.1 with
 |some (.fz X)=>fW X L
 |_=>Ä
theorem yi{f:Fn}{a L:List AV}(h:Cu f a L=Â)(b:rfs a=Â):pm f a st=À (.fz L,st):=by
 unfold Cu at h;split at h
 ·rename_i X e
  rw[<- j3 h];exact c8 b e
 ·cases h
def uR(n k:Nat):List Int:=(Æ (2^n-1)).map fun j=>if k=j then 1 else 0
def sV(n:Nat):Bool:=Cu eB [.int n] ((Æ (2^n-1)).map fun k=>.fz (iL (uR n k)))&&(Æ (2^n-1)).all fun k=>Cu bJ [.int n,.fz [.tup [.int (1+(k:Int)),.int 1]]] (iL (uR n k))
theorem Hl:(sV 1&&(sV 2&&(sV 3&&sV 4)))=Â:=by kernel_rfl
theorem Hk(a:dN n):sV n=Â:=by
 have:=Hl
 simp only[zC]at this;rcases a with rfl|rfl|rfl|rfl
 ·exact this.1
 ·exact this.2.1
 ·exact this.2.2.1
 ·exact this.2.2.2
theorem Bv(a:dN n):pm eB [.int n] st=À (.fz ((Æ (2^n-1)).map fun k=>.fz (iL (uR n k))),st):=by
 have h:=Hk a;unfold sV at h;rw[zC]at h;exact yi h.1 rfl
theorem ES(a:dN n){k:Nat}(b:k<2^n-1):pm bJ [.int n,.fz [.tup [.int (1+(k:Int)),.int 1]]] st=À (.fz (iL (uR n k)),st):=by
 have h:=Hk a;unfold sV at h;rw[zC,yR]at h;exact yi (h.2 k (Õ.mpr b)) rfl
theorem di{k:Nat}:(uR n k).length=2^n-1/\∀x∈uR n k,x.natAbs<=M0:=by
 refine⟨by unfold uR;simp,fun x a=>?_⟩;obtain⟨j,_,rfl⟩:=yD.mp a;split
 ·exact ŕ
 ·exact û _
theorem wP{k:Nat}{X:Nat->Int}(b:k<2^n-1):val (2^n-1) (uR n k) X=X k:=by
 have g:∀j,j<2^n-1->gI (uR n k) j=if k=j then 1 else 0:=fun j a=>by
  unfold uR gI;rw[zD,zR,Ĳ a];rfl
 unfold val;rw[SX.sum_one b fun j a h=>by rw[g j a,yH (fun e=>h e.symm),yQ],g k b,yI rfl,Ź]
def rl(n:Nat)(f:List Int->An×AV):List AV:=(Æ (2^n-1)).map fun q=>db f (uR n q)
theorem IB:rfs (rl n f)=Â:=fi fun x a=>by
 obtain⟨q,_,rfl⟩:=yD.mp a;exact Cd _ _
theorem zw(a:dN n):0<2^n-1/\2^n-1<=15:=by rcases a with rfl|rfl|rfl|rfl<;>decide
theorem Md(a:dN n):pm aj [.int n] st=À (.int ((2^n-1:Nat):Int),st):=by
 rcases a with rfl|rfl|rfl|rfl
 ·exact Lc st
 ·exact Lb st
 ·exact La st
 ·exact K9 st
theorem rV(a:dN n)(F:Fa n G f):d8 [.int n,.fz (G.map Gv.av)] st=À (if(f (uR n 0)).1.isNone=Â then .non else .ref st.length,st++[.lst (rl n f)]):=by
 have h:=zw a;have it:dH [aj,bJ,bS] (.r2 (.i 1) (.bin .Add (.ca Â 0 (.cons (.v 0) .nil)) (.i 1))) [Is n,Zs (G.map Gv.av),Á] st=À (⟨(Æ (2^n-1)).map fun q:Nat=>AV.int (1+(q:Int)),[]⟩,st):=by
  rw[LY];unfold ym;simp only[ib,lY,dA,aO,ba,cj,bF,Ã,Ï,eK,dB,Md a,wF];rcases a with rfl|rfl|rfl|rfl<;>rfl
 have c:=lu (st:=st) (ks:=[aj,bJ,bS]) (k:=1) (t:=.nm 3) (c:=.no) (e:=.ca Â 2 (.cons (.v 0) (.cons (.v 1) (.cons (.ca Â 1 (.cons (.v 0) (.cons (.nw Ä (.li (.cons (.tu (.cons (.v 3) (.cons (.i 1) .nil))) .nil))) .nil))) .nil)))) (em:=fun q:Nat=>AV.int (1+(q:Int))) (B:=fun _=>Â) (F:=fun q=>db f (uR n q)) it rfl (by rw[Ü];lia) fun q b=>by
  have b:=Õ.mp b;have j:=ES (st:=st) a b;have i:=pN (st:=st) a F (di (n:=n) (k:=q));exact⟨[Is n,Zs (G.map Gv.av),Á,Is (1+(q:Int))],rfl,rfl,fun _=>by
   have d:ev [aj,bJ,bS] (.nw Ä (.li (.cons (.tu (.cons (.v 3) (.cons (.i 1) .nil))) .nil))) [Is n,Zs (G.map Gv.av),Á,Is (1+(q:Int))] st=À (.fz [.tup [.int (1+(q:Int)),.int 1]],st):=rfl;simp only[dA,aO,ba,cj,bF,bO,Ã,Ï,d,eK,dB,d6,j,i]⟩
 rw[ă.mpr (fun _ _=>rfl)]at c;rw[d8,aA];show(ag [aj,bJ,bS] kI [Is n,Zs (G.map Gv.av),Á] st).bind au=_;unfold kI;refine ae (sl':=[Is n,Zs (G.map Gv.av),Rs st.length]) (st':=st++[.lst (rl n f)]) (by rw[c9,pF,c];rfl) (bh ?_);have g:bI (st++[.lst (rl n f)]) (.ref st.length) (.int 0)=À (db f (uR n 0)):=by
  rw[cL (bC (xs:=rl n f) gl),show(0:Int)=((0:Nat):Int) from rfl,cx];unfold rl;rw[zR,Ĳ h.1];rfl
 have q:=(vQ (st:=st++[.lst (rl n f)]) (f (uR n 0)).1 (f (dk (uR n 0))).1 (F.nv di (eM di))).1;rw[show fH (f (uR n 0)).1 (f (dk (uR n 0))).1=db f (uR n 0) from rfl]at q;generalize db f (uR n 0)=x at *;rw[kb,vw,eJ,j9,cj];simp only[bF,bO,cj,ib,rp,Ã,Ï,g,q];cases (f (uR n 0)).1.isNone<;>rfl
theorem JM(a b:Option (Int×Int)):bB .Eq st (af a) (af b)=À (decide (a=b)):=by
 match a,b with
 |none,Á=>rfl
 |none,À (p,q)=>rfl
 |some (p,q),Á=>rfl
 |some (p,q),À (x,y) =>
  show io st (.tup [.int p,.int q]) (.tup [.int x,.int y])=_;unfold io;show (if DD.pyOk (.tuple [.int p,.int q]) (.tuple [.int x,.int y])=Â then À (Ö (.tuple [.int p,.int q]) (.tuple [.int x,.int y])) else vL (.tuple [.int p,.int q]) (.tuple [.int x,.int y]))=_;rw [yI (show DD.pyOk _ _=Â from rfl)];simp only [Ö,PyData.eqvAll,h?,Prod.mk.injEq];by_cases d:p=x <;> by_cases c:q=y <;> simp [d,c]
def mC(f:List Int->An×AV)(r:List Int):Bool:=match (f r).1,(f (dk r)).1 with
 |some l,À h=>decide (l=cS h)
 |_,_=>Ä
def n8(n:Nat)(f:List Int->An×AV):List Int:=((Æ (2^n-1)).filter fun q=>mC f (uR n q)).map fun q:Nat=>1+(q:Int)
theorem wz{k:Nat}:eN k (rl n f)=(Æ (2^n-1)).map fun q=>.tup [.int ((k+q:Nat):Int),db f (uR n q)]:=by
 refine List.ext_getElem? fun i=>?_
 unfold eN rl;rw[zR,ŉ,zR,zR];by_cases h:i<2^n-1
 ·rw[Ĳ h];rfl
 ·rw[é (by simp;lia)];rfl
theorem some_of(F:Fa n G f)(a:(f (uR n 0)).1.isNone=Ä){r:List Int}(b:r.length=2^n-1/\∀x∈r,x.natAbs<=M0):∃l h,(f r).1=À l/\(f (dk r)).1=À h:=by
 have a:(f (uR n 0)).1≠Á:=fun e=>by rw[e]at a;cases a
 have d:=fun e=>a ((F.nv (di (n:=n) (k:=0)) b).mpr e)
 have c:=fun e=>a ((F.nv (di (n:=n) (k:=0)) (eM b)).mpr e)
 cases i:(f r).1 with
 |none=>exact absurd i d
 |some l=>cases g:(f (dk r)).1 with
  |none=>exact absurd g c
  |some h=>exact⟨l,h,rfl,rfl⟩
theorem HW(F:Fa n G f)(d:(f (uR n 0)).1.isNone=Ä){r:List Int}(c:r.length=2^n-1/\∀x∈r,x.natAbs<=M0):∃x y,bI st (db f r) (.int 0)=À x/\bI st (db f r) (.int 1)=À y/\bB .Eq st x y=À (mC f r):=by
 obtain⟨l,h,b,a⟩:=some_of F d c;refine⟨af l,af (cS h),?_,?_,?_⟩
 ·unfold db;rw[b,a];rfl
 ·unfold db;rw[b,a];rfl
 ·rw[JM];unfold mC;rw[b,a]
theorem xg(d:dN n)(F:Fa n G f):gy [.int n,.fz (G.map Gv.av)] st=À (if(f (uR n 0)).1.isNone=Â then(.non,st++[.lst (rl n f)]) else(.ref (st.length+1),st++[.lst (rl n f)]++[.lst (iL (n8 n f))])):=by
 have j:=zw d;have a:=rV (st:=st) d F;rw[gy,aA];show(ag [d8] jz [Is n,Zs (G.map Gv.av),Á] st).bind au=_;unfold jz;cases b:(f (uR n 0)).1.isNone with
 |true =>
  rw[b,yI rfl]at a;rw[yI rfl];refine ae (sl':=[Is n,Zs (G.map Gv.av),À .non]) (st':=st++[.lst (rl n f)]) (by simp[a,dj]) ?_;exact bh (s:=.iff _ _ _) rfl
 |false =>
  rw[b,yH dC]at a;rw[yH dC];refine ae (sl':=[Is n,Zs (G.map Gv.av),Rs st.length]) (st':=st++[.lst (rl n f)]) (by simp[a,dj]) ?_;refine ae (sl':=[Is n,Zs (G.map Gv.av),Rs st.length]) (st':=st++[.lst (rl n f)]) rfl (bh ?_);have c:=lu (st:=st++[.lst (rl n f)]) (ks:=[d8]) (k:=2) (it:=.es (.v 2) (.i 1)) (t:=.tu 2 (.cons (.nm 3) (.cons (.nm 4) .nil))) (c:=.so (.cmp .Eq (.ix (.v 4) (.i 0)) (.ix (.v 4) (.i 1)))) (e:=.v 3) (sl:=[Is n,Zs (G.map Gv.av),Rs st.length]) (gd:=[(st.length,.lst (rl n f))]) (em:=fun q:Nat=>AV.tup [.int ((1+q:Nat):Int),db f (uR n q)]) (xs:=Æ (2^n-1)) (B:=fun q=>mC f (uR n q)) (F:=fun q=>AV.int (1+(q:Int))) (by
   rw[LZ];unfold sP;simp only[cj,ib,bF,bO,Ã];rw[yI (show(decide ((0:Int)<=1)&&Þ (Int.natAbs 1) 1000000)=Â from rfl),gZ (st:=st++[Ob.lst (rl n f)]) (k:=st.length) (xs:=rl n f) gl];show À (_,_)=_;rw[show(1:Int).toNat=1 from rfl,wz]) (fq gl) (by rw[Ü];lia) fun q _=>by
    obtain⟨x,y,i,h,g⟩:=HW (st:=st++[.lst (rl n f)]) F b (di (n:=n) (k:=q));refine⟨[Is n,Zs (G.map Gv.av),Rs st.length,Is ((1+q:Nat):Int),À (db f (uR n q))],rfl,?_,fun _=>by
     show À (AV.int ((1+q:Nat):Int),_)=_;rw[show((1+q:Nat):Int)=1+(q:Int) by lia]⟩
    generalize db f (uR n q)=z at *;generalize ((1+q:Nat):Int)=u;simp[i,h,g]
  rw[kb,pF,c,Ã];rw[Ã];dsimp only;rw[zV];unfold n8 iL;rw[å];rfl
end
section
variable{st:aa}{n:Nat}{G:List Gv}{r:List Int}{f:List Int->An×AV}{ns:List Int}
theorem rP{ks:List Fn}{ss b:On}{c:Tx}{sl:Sl}{P:AV×aa->Prop}(h:tv ks c sl st=À (Ä,st))(a:∃r,(ag ks ss sl st).bind au=À r/\P r):∃r,(ag ks (.cons (.iff c b .nil) ss) sl st).bind au=À r/\P r:=ai (sl':=sl) (st':=st) (by rw[cY,h];rfl) a
abbrev KX:List Fn:=[dy,dZ,bS,ak,gQ,eE,d8,gy,eB,dz]
theorem JP{α:Type}{l:List α}{c:Nat}:cut l Á (À (c:Int))=l.take c:=by
 unfold cut;rw[HT.sIx_none,HT.sIx_nat,Ĥ,Ŕ];rcases ϛ c l.length with h|h
 ·rw[Ϸ h]
 ·rw[R9 h,í (zP _),í h]
theorem qO{x:AV}{p:ô}{k w m:Nat}(h:aQ 9 st x=À p)(a:(∃l,p=.list l)\/(∃l,p=.tuple l)\/p=.none)(c:SK k w m p)(f:k<=40)(e:w<=2^20)(d:m<=16777216):bM k9 [x] st=À (.str p.shown,st):=by
 have b:=c.stB f e d;show((aQ 9 st x).bind Aq).map _=_;rw[h,Ã];rcases a with⟨l,rfl⟩|⟨l,rfl⟩|rfl
 ·show(if _ then _ else _:Option AV).map _=_
  rw[yI b];rfl
 ·show(if _ then _ else _:Option AV).map _=_
  rw[yI b];rfl
 ·rfl
theorem vS{n:Nat}{l:List Int}:aQ (n+2) st (.fz (iL l))=À (.list (l.map Ø)):=by
 show(aR (aQ (n+1) st) _).map _=_;rw[ow];rfl
theorem pL{l:List Int}{b k N:Nat}(h:∀x∈l,x.natAbs<2^b)(j:b<=1919)(f:2^b<=10^k)(c:0<k)(a:l.length<=N):SK 1 (N*(b+1)) (N*(k+1+2)+3) (.list (l.map Ø)):=by
 have e:=(jN (l:=l.map Ø) (k:=0) (w:=b) (m:=k+1) fun x d=>by
  obtain⟨i,g,rfl⟩:=yD.mp d;exact nZ (h i g) j f c).1
 rw[zH]at e;exact e.up (zP _) (ý _ a) (by have:=ý (k+1+2) a;lia)
theorem nY{l:List ô}{k w m N:Nat}(h:∀x∈l,SK k w m x)(c:l.length<=N):SK (k+1) (N*(w+1)) (N*(m+2)+3) (.list l)/\SK (k+1) (N*(w+1)) (N*(m+2)+3) (.tuple l):=by
 have a:=ý (w+1) c;have b:=ý (m+2) c;exact⟨(jN h).1.up (zP _) a oM,(jN h).2.up (zP _) a oM⟩
def kD(G:List Gv)(r:List Int):ô:=.list [.list (G.map jU),.list (r.map Ø)]
theorem G9{sl:Sl}(t:G.length<=8)(B:∀z∈G,z.row.length<=15/\(∀x∈z.row,x.natAbs<=M0)/\z.num.natAbs<=M0)(c:r.length<=15/\∀x∈r,x.natAbs<=M0)(v:∀st,aV 3 sl st=À (.fz (G.map Gv.av),st))(u:∀st,aV 4 sl st=À (.fz (iL r),st)):ev KX (.bi .str (.cons (.nw Â (.li (.cons (.v 3) (.cons (.v 4) .nil)))) .nil)) sl st=À (.str (kD G r).shown,st++[.lst [.fz (G.map Gv.av),.fz (iL r)]]):=by
 have lt:∀{x:Int},x.natAbs<=M0->x.natAbs<2^116:=fun h=>yM h (Ħ dC dC)
 have b:(2:Nat)^116<=10^36:=by decide
 have sz:∀z∈G,SK 2 6000 1800 (jU z):=fun z hz=>by
  obtain⟨n,j,d⟩:=B z hz;exact(nY (l:=[.list (z.row.map Ø),.str (if z.eq=Â then "=" else ">"),.int z.num]) (N:=3) (k:=1) (w:=1755) (m:=588) (fun x a=>by
   simp only[zT,zX,or_false]at a;rcases a with rfl|rfl|rfl
   ·exact(pL (N:=15) (fun x a=>lt (j x a)) dC b dC n).up dC dC dC
   ·exact(Iy z.eq).up dC dC dC
   ·exact(nZ (lt d) dC b dC).up dC dC dC) (zP 3)).2.up dC dC dC
 have p:SK 4 100000 100000 (kD G r):=by
  refine(nY (l:=[.list (G.map jU),.list (r.map Ø)]) (N:=2) (k:=3) (w:=49000) (m:=45000) (fun x a=>?_) (zP 2)).1.up dC dC dC;simp only[zT,zX,or_false]at a;rcases a with rfl|rfl
  ·exact(nY (N:=8) (fun y s=>by obtain⟨z,hz,rfl⟩:=yD.mp s;exact sz z hz) (by rw[zH];exact t)).1.up dC dC dC
  ·exact(pL (N:=15) (fun x a=>lt (c.2 x a)) dC b dC c.1).up dC dC dC
 have q:aQ 9 (st++[Ob.lst [.fz (G.map Gv.av),.fz (iL r)]]) (.ref st.length)=À (kD G r):=by
  have A:aQ 8 (st++[Ob.lst [.fz (G.map Gv.av),.fz (iL r)]]) (.fz (G.map Gv.av))=À (.list (G.map jU)):=by
   show(aR (aQ 7 _) _).map _=_;rw[eU (f:=aQ 7 _) (i:=Gv.av) (g:=jU) fun z=>by
    obtain⟨r,e,m⟩:=z;show(aR (aQ 6 _) [.fz (iL r),_,_]).map _=_;simp only[aR,vS,Ã];cases e<;>rfl];rfl
  unfold aQ;rw[gl];dsimp only;simp only[aR,A,vS,Ã,Ï];rfl
 have o:=qO q (.inl ⟨_,rfl⟩) p dC dC dC;rw [rq,aO,pF,A6];simp only [aO,ba,cj,v,u,Ã,Ï];rw [yI (show cw _=Â from rfl)];simp only [Ã,Ï,pf,o]
theorem Fj{a b:An}(d:okA a)(c:okA b):bM k9 [fH a b] st=À (.str (Ce a b).shown,st):=by
 refine qO (Cj a b) ?_ (B7 d c) dC dC dC
 match a,b with
 |none,_=>exact .inr (.inr rfl)
 |some _,Á=>exact .inr (.inr rfl)
 |some _,À _=>exact .inr (.inl ⟨_,rfl⟩)
theorem GJ(a b:An)(g:Int×Int):bB .NotEq st (kn a b g) (kn a b g)=À Ä:=by
 match a,b with
 |none,_=>rfl
 |some _,Á=>rfl
 |some l,À h =>
  show bB .NotEq st (if _ then _ else _) (if _ then _ else _)=_;cases eA (À g) l
  ·cases eA (cS h) (À g)<;>exact(ie _).1
  ·exact(ie _).1
def rD(f:List Int->An×AV)(r:List Int):ô:=Ce (f r).1 (f (dk r)).1
def tD(n:Nat)(f:List Int->An×AV):ô:=.list [.list ((Æ (2^n-1)).map fun q=>rD f (uR n q)),.list ((n8 n f).map Ø)]
theorem IR{k:Nat}:aR (aQ (k+2) st) (rl n f)=À ((Æ (2^n-1)).map fun q=>rD f (uR n q)):=eU (f:=aQ (k+2) st) (i:=fun q=>db f (uR n q)) (g:=fun q=>rD f (uR n q)) (fun q=>Cj _ _) _
theorem B6(b:dN n)(F:Fa n G f):SK 3 120000 40000 (.list ((Æ (2^n-1)).map fun q=>rD f (uR n q))):=(nY (N:=15) (fun x a=>by
 obtain⟨q,_,rfl⟩:=yD.mp a;exact B7 (F.e _ (di (n:=n) (k:=q))).2.okA (F.e _ (eM (di (n:=n) (k:=q)))).2.okA) (by rw[zH,Ü];exact(zw b).2)).1.up dC dC dC
theorem Cb(c:dN n):(n8 n f).length<=15/\∀x∈n8 n f,1<=x/\x<=15:=by
 have:=zw c
 unfold n8;refine⟨?_,fun x a=>?_⟩
 ·rw[zH]
  exact z5 (Ł _ _) (by rw[Ü];exact this.2)
 ·obtain⟨q,b,rfl⟩:=yD.mp a
  have:=Õ.mp (Ĉ.mp b).1
  lia
theorem Ly(c:dN n)(F:Fa n G f):SK 4 300000 100000 (tD n f):=by
 refine(nY (l:=[.list ((Æ (2^n-1)).map fun q=>rD f (uR n q)),.list ((n8 n f).map Ø)]) (N:=2) (k:=3) (w:=120000) (m:=40000) (fun x a=>?_) (zP 2)).1.up dC dC dC;simp only[zT,zX,or_false]at a;rcases a with rfl|rfl
 ·exact B6 c F
 ·obtain⟨e,d⟩:=Cb (f:=f) c
  exact(pL (b:=4) (k:=2) (N:=15) (fun x a=>by have:=d x a;lia) dC dC dC e).up dC dC dC
theorem within(F:Fa n G f){X:List Int}(K:Kp (2^n-1) (jg n) G (gI X) 1){q:Nat}(i:q<2^n-1):kn (f (uR n q)).1 (f (dk (uR n q))).1 (gI X q,1)=.str "within":=by
 have m:=(F.e _ (di (n:=n) (k:=q))).2;have j:=(F.e _ (eM (di (n:=n) (k:=q)))).2;have r:(f (uR n q)).1≠Á:=fun e=>m.nv.mp e _ _ dC K
 have o:(f (dk (uR n q))).1≠Á:=fun e=>j.nv.mp e _ _ dC K
 have g:=fun p c=>m.lo p c (gI X) 1 dC K
 have d:=fun p c=>j.lo p c (gI X) 1 dC K
 have ev:val (2^n-1) (dk (uR n q)) (gI X)=- gI X q:=by
  have:val (2^n-1) (dk (uR n q)) (gI X)=- val (2^n-1) (uR n q) (gI X):=pE;rw[this,wP i]
 rw[wP i]at g;rw[ev]at d;generalize (f (uR n q)).1=a at *;generalize (f (dk (uR n q))).1=b at *;cases a with
 |none=>exact absurd rfl r
 |some l=>cases b with
  |none=>exact absurd rfl o
  |some h =>
   show(if eA (À (gI X q,1)) l=Â then _ else if eA (cS h) (À (gI X q,1))=Â then _ else _)=_;have t:eA (À (gI X q,1)) l=Ä:=by
    match l with
    |none=>rfl
    |some p =>
     have:=g p rfl
     exact yA (by show ¬gI X q*p.2<p.1*1;lia)
   have s:eA (cS h) (À (gI X q,1))=Ä:=by
    match h with
    |none=>rfl
    |some p =>
     have:=d p rfl
     rw[Int.neg_mul]at this;exact yA (by show ¬-p.1*1<gI X q*p.2;lia)
   rw[t,s];rfl
end
section
variable{st:aa}{n:Nat}{G:List Gv}{r:List Int}{f:List Int->An×AV}{ns:List Int}
theorem LX{k:Nat}{l:List Int}(b:st[k]?=À (.lst (iL l)))(c:∀x∈l,1<=x/\x<=15):bB .NotIn st (.int 0) (.ref k)=À Â:=by
 have p:aQ 9 st (.ref k)=À (.list (l.map Ø)):=by
  unfold aQ;rw[b];dsimp only;rw[ow];rfl
 show(oE st (.int 0) (.ref k)).map (!·)=_;unfold oE;rw[show kB st (.ref k) (.int 0)=Á by unfold kB ja lN;simp only[b]];dsimp only;rw[p,show aQ 9 st (.int 0)=À (.int 0) from rfl,Ã,Ã];dsimp only;have f:((l.map Ø).all fun r=>DD.pyOk r (.int 0))=Â:=by
  rw[yR];intro x a;obtain⟨i,_,rfl⟩:=yD.mp a;rfl
 have e:((l.map Ø).any fun r=>Ö r (.int 0))=Ä:=by
  rw[P!];intro x a;obtain⟨i,d,rfl⟩:=yD.mp a
  have:=c i d
  simp[Ö];lia
 rw[yI f,e];rfl
theorem Jo(hns:ns.length<=63):∃st,pB [.fz (iL ns)] []=À (.bl Â,st):=by
 have key:∃r,pB [.fz (iL ns)] []=À r/\r.1=.bl Â:=by
  obtain⟨n,T,G0,r,D,A,B,O,e1,hn,hG0,hz0,hr,hrb,hd,hD,hT⟩:=vR hns;have hN:=zw hn;have M1:10000000000000000000000000000000010<=M0:=by unfold M0;decide
  have M2:M0<2^9000:=Ħ dC dC;obtain⟨c,hc8,hc⟩:∃c:Nat,c<=8/\∀st,bI st (.fz [.int 8,.int 8,.int 8,.int 2]) (.int ((n:Int)-1))=À (.int (c:Int)):=by
   rcases hn with rfl|rfl|rfl|rfl
   ·exact⟨8,by decide,fun _=>rfl⟩
   ·exact⟨8,by decide,fun _=>rfl⟩
   ·exact⟨8,by decide,fun _=>rfl⟩
   ·exact⟨2,by decide,fun _=>rfl⟩
  obtain⟨G,hG⟩:∃G,G=G0.take c:=⟨_,rfl⟩;have Gl:G.length<=8:=by rw[hG,ī];lia
  have bz:∀z∈G,z.row.length=2^n-1/\(∀x∈z.row,x.natAbs<=M0)/\z.num.natAbs<=M0:=fun z h=>by
   have h:=hz0 z (Ŷ (hG▸h));exact⟨h.1,fun x hx=>z5 (h.2.1 x hx) (z5 dC M1),z5 h.2.2 M1⟩
  have U:r.length=2^n-1/\∀x∈r,x.natAbs<=M0:=⟨hr,fun x hx=>z5 (hrb x hx) (z5 dC M1)⟩;obtain⟨f,F⟩:=JJ hn oM bz;obtain⟨D1,x,rfl⟩:=fO (D:=D) (fun e=>by rw[e]at hD;simp at hD);obtain⟨hx,hd1⟩:=hd.at;simp only[zV,Ý]at hD;obtain⟨D2,y,rfl⟩:=fO (D:=D1) (fun e=>by rw[e]at hD;simp at hD);obtain⟨hy,hd2⟩:=hd1.at;have A1:=(F.e r U).2;have A2:=(F.e (dk r) (eM U)).2;have nvr:=F.nv U (eM U);have nv0:=F.nv U (di (n:=n) (k:=0));have kv:=fun {st:aa}{sl:Sl} (h3:∀st,aV 3 sl st=À (.fz (G.map Gv.av),st)) (h4:∀st,aV 4 sl st=À (.fz (iL r),st))=>G9 (st:=st) (sl:=sl) Gl (fun z hz=>⟨by rw[(bz z hz).1];exact hN.2,(bz z hz).2⟩) ⟨by rw[hr];exact hN.2,U.2⟩ h3 h4
  have rg:=fun st=>pN (st:=st) hn F U
  have lrg:=fun st=>sG (st:=st) hn F U
  have sr:=fun st=>Fj (st:=st) A1.okA A2.okA
  have lie:=fun(st:aa)(g:Int×Int)(hg:mF g)=>xU (st:=st) A1.okA A2.okA nvr hg
  have out:=fun(st:aa)(g:Int×Int)(hg:mF g)=>Je (st:=st) hn F U hg
  have isN:=fun st=>vQ (st:=st) (f r).1 (f (dk r)).1 nvr
  have rgs:=fun st=>rV (st:=st) hn F
  have sts:=fun st=>xg (st:=st) hn F
  have itb:=fun st=>Ew (st:=st) (X:=T) (D:=1) (G:=G) hn ⟨by lia,fun z h=>⟨(bz z h).1,fun x hx=>yM ((bz z h).2.1 x hx) M2,yM (bz z h).2.2 M2⟩⟩ hT.1 ⟨fun x hx=>yM (by have:=hT.2 x hx;lia:x.natAbs<=10000000000) (yM dC M2),by decide⟩ dC
  have wi:=fun(h:kA n G T 1=Â)(q:Nat)(hq:q<2^n-1)=>within F (Jt h) hq
  have lfr:=fun(st:aa)(q:Nat)(g:Int×Int)(hg:mF g)=>xU (st:=st) (F.e _ (di (n:=n) (k:=q))).2.okA (F.e _ (eM (di (n:=n) (k:=q)))).2.okA (F.nv di (eM di)) hg
  have RF:=IB (n:=n) (f:=f);rw[pB,aA];show ∃r,(ag KX qY [Ls ns,Á,Á,Á,Á,Á,Á,Á,Á,Á,Á,Á,Á,Á,Á,Á] []).bind au=À r/\_;unfold qY;refine ai (sl':=[Ls ns,Is n,Ls T,Zs (G0.map Gv.av),Ls r,Rs 2,Á,Á,Á,Á,Á,Á,Á,Á,Á,Á]) (st':=[A,B,.lst (iL (D2++[y]++[x])),O]) (by rw[c9];simp only[dA,aO,ba,cj,bF,bO,Ã,ki,dB,d6,e1];rfl) ?_;have cu:cut (G0.map Gv.av) Á (À (c:Int))=G.map Gv.av:=by rw[JP,hG,i?]
  have rG:rfs (G.map Gv.av)=Â:=mw _;generalize G0.map Gv.av=GG at cu;obtain⟨w,hGA⟩:∃w,w=G.map Gv.av:=⟨_,rfl⟩;rw[<- hGA]at cu rG kv rg lrg out rgs sts itb;refine ai (sl':=[Ls ns,Is n,Ls T,Zs w,Ls r,Rs 2,Á,Á,Á,Á,Á,Á,Á,Á,Á,Á]) (st':=[A,B,.lst (iL (D2++[y]++[x])),O]) (by
   have li:∀sl st,ev KX (.nw Ä (.li (.cons (.i 8) (.cons (.i 8) (.cons (.i 8) (.cons (.i 2) .nil)))))) sl st=À (.fz [.int 8,.int 8,.int 8,.int 2],st):=fun _ _=>rfl
   rw[c9,gz,LL];simp only[mJ,mG,Ck,LI,LJ,cj,j9,li,lY,ib,bF,bO,Ã,Ï,qX,hc,fj,cu,rG,ite_true];rfl) ?_
  obtain⟨H,hkt⟩:∃H,H=(kD G r).shown:=⟨_,rfl⟩;rw[<- hkt]at kv;obtain⟨C,hKC⟩:∃C,C=Ob.lst [.fz w,.fz (iL r)]:=⟨_,rfl⟩;rw[<- hKC]at kv;refine ai (sl':=[Ls ns,Is n,Ls T,Zs w,Ls r,Rs 2,À (.str H),Á,Á,Á,Á,Á,Á,Á,Á,Á]) (st':=[A,B,.lst (iL (D2++[y]++[x])),O,C]) (by
   rw[c9,kv (sl:=[Ls ns,Is n,Ls T,Zs w,Ls r,Rs 2,Á,Á,Á,Á,Á,Á,Á,Á,Á,Á]) (fun _=>rfl) (fun _=>rfl)];rfl) ?_
  obtain⟨E,hE⟩:∃E,E=db f r:=⟨_,rfl⟩;have hE':fH (f r).1 (f (dk r)).1=E:=by rw[hE];rfl
  rw[<- hE]at rg lrg;rw[hE']at sr lie isN;refine ai (sl':=[Ls ns,Is n,Ls T,Zs w,Ls r,Rs 2,À (.str H),À E,Á,Á,Á,Á,Á,Á,Á,Á]) (st':=[A,B,.lst (iL (D2++[y]++[x])),O,C]) (by simp[lrg]) ?_;refine rP (by
   rw[eJ];simp only[rq,dA,aO,ba,cj,bF,bO,Ã,Ï,eK,dB,d6,rg,pf,sr,(ie _).1]) ?_
  have p1:=iV (A:=A) (B:=B) (R:=[O,C]) (D:=D2++[y]) (x:=x);have p2:=iV (A:=A) (B:=B) (R:=[O,C]) (D:=D2) (x:=y);obtain⟨Y,hS5⟩:∃Y,Y=[A,B,Ob.lst (iL D2),O,C]:=⟨_,rfl⟩;have l5:Y.length=5:=by rw[hS5];rfl
  rw[<- hS5]at p2;obtain⟨m,hg0⟩:∃m:Int×Int,m=(x%41-20,1+y%6):=⟨_,rfl⟩;have bg0:mF m:=by
   have h1:=Ó x (show (41:Int) ≠ 0 by decide);have h2:=Ñ x (show (0:Int) < 41 by decide);have h3:=Ó y (show (6:Int) ≠ 0 by decide);have h4:=Ñ y (show (0:Int) < 6 by decide);have b:64 < 2 ^ 1900:=zJ (show 64 < 2 ^ 10 by decide) (ü dC dC);rw [hg0];exact ⟨yM (show (x % 41 - 20).natAbs <= 64 by lia) b,yM (show (1 + y % 6).natAbs <= 64 by lia) b⟩
  refine ai (sl':=[Ls ns,Is n,Ls T,Zs w,Ls r,Rs 2,À (.str H),À E,À (af (À m)),Á,Á,Á,Á,Á,Á,Á]) (st':=Y) (by
   rw[hg0,c9,vv];simp only[aO,ba,lY,dA,cj,ib,bF,bO,Ã,Ï,ki,dB,d6,p1,p2,dP (show(0:Int)<41 by decide),dP (show(0:Int)<6 by decide),wF,qX];rw[yI (show Þ _ 1000=Â from rfl)];rfl) ?_
  refine ai (sl':=[Ls ns,Is n,Ls T,Zs w,Ls r,Rs 2,À (.str H),À E,À (af (À m)),Zs [af (À m)],Á,Á,Á,Á,Á,Á]) (st':=Y) (by
   rw[c9,gz,A6];simp only[aO,ba,cj,bF,bO,Ã,Ï];rw[yI (show cw _=Â from rfl),Ã];dsimp only;rw[yI (show rfs [af (À m)]=Â from rfl)];rfl) ?_
  obtain⟨J,hys,hyo,hyl⟩:∃J:List (Option (Int×Int)),cP KX (.iff (.cmp .IsNot (.v 7) .n) (.cons (.as (.nw Ä (.cat (.v 9) (.nw Ä (.lc 1 (.e (.v 7)) (.nm 16) (.so (.cmp .IsNot (.v 16) .n)) (.v 16))))) (.nm 9)) .nil) .nil) [Ls ns,Is n,Ls T,Zs w,Ls r,Rs 2,À (.str H),À E,À (af (À m)),Zs [af (À m)],Á,Á,Á,Á,Á,Á] Y=À (.nx [Ls ns,Is n,Ls T,Zs w,Ls r,Rs 2,À (.str H),À E,À (af (À m)),Zs (J.map af),Á,Á,Á,Á,Á,Á] Y)/\(∀z∈J,∃g,z=À g/\mF g)/\J.length<=3:=by
   have i7:=(isN Y).2;have o1:=A1.okA;have o2:=A2.okA;generalize (f r).1=a at *;generalize (f (dk r)).1=b at *;cases a with
   |none =>
    refine⟨[À m],?_,fun z hz=>⟨m,zM.mp hz,bg0⟩,show 1<=3 by decide⟩;rw[cY];simp only[eJ,cj,rp,bF,bO,Ã,Ï,i7];rfl
   |some l=>cases b with
    |none=>exact absurd (nvr.mpr rfl) (by simp)
    |some h =>
     have lc:=lu (st:=Y) (ks:=KX) (k:=1) (it:=.e (.v 7)) (t:=.nm 16) (c:=.so (.cmp .IsNot (.v 16) .n)) (e:=.v 16) (sl:=[Ls ns,Is n,Ls T,Zs w,Ls r,Rs 2,À (.str H),À E,À (af (À m)),Zs [af (À m)],Á,Á,Á,Á,Á,Á]) (gd:=[]) (em:=af) (xs:=[l,cS h]) (B:=Ŀ) (F:=af) (by rw [<- hE'];rfl) rfl (show 2 <= 1000 by decide) fun z _=>⟨_,rfl,by
      have:=(oj (st:=Y) z).1
      show tv KX (.cmp .IsNot (.v 16) .n) _ Y=_;rw[eJ];show((À (af z,Y)).bind _)=_;simp only[Ã,rp,this,Ï],fun _=>rfl⟩
     have rr:∀l:List (Option (Int×Int)),rfs (l.map af)=Â:=fun l=>fi fun x hx=>by
      obtain⟨z,_,rfl⟩:=yD.mp hx;exact oZ z
     have ll:([l,cS h].filter Ŀ).length<=2:=Ł _ _;refine⟨À m::[l,cS h].filter Ŀ,?_,fun z hz=>?_,by rw[yY];lia⟩
     ·rw[cY]
      simp only[eJ,cj,rp,bF,bO,Ã,Ï,i7,ſ,ite_true];refine aq (sl':=[Ls ns,Is n,Ls T,Zs w,Ls r,Rs 2,À (.str H),À E,À (af (À m)),Zs ((À m::[l,cS h].filter Ŀ).map af),Á,Á,Á,Á,Á,Á]) (st':=Y) ?_ rfl;rw[c9,gz,qQ];unfold sx;simp only[cj,bF,bO,Ã];rw[gz,lc];simp only[Ã,rr,ite_true,fj];rw[yI (cp (by rw[zH];show 1+_<=1000;lia)),Ã];dsimp only;rw[show [af (À m)]++([l,cS h].filter Ŀ).map af=(À m::[l,cS h].filter Ŀ).map af from rfl,yI (rr _)];rfl
     ·rcases zT.mp hz with rfl|hz
      ·exact⟨m,rfl,bg0⟩
      ·obtain⟨h1,h2⟩:=Ĉ.mp hz
       obtain⟨g,rfl⟩:=Č.mp h2;refine⟨g,rfl,?_⟩;simp only[zT,zX,or_false]at h1;rcases h1 with h1|h1
       ·exact o1 _ rfl _ _ h1.symm
       ·exact o2.ng _ _ h1.symm
  refine ai hys ?_;clear hys;refine lj (em:=af) (xs:=J) (gd:=[]) (st0:=Y) (fun i sl s=>s=Y/\∃y,sl=[Ls ns,Is n,Ls T,Zs w,Ls r,Rs 2,À (.str H),À E,À (af (À m)),Zs (J.map af),y,Á,Á,Á,Á,Á]) rfl (fun _ _ _ _=>rfl) ⟨rfl,_,rfl⟩ ?_ ?_
  ·rintro i z sl s hz ⟨rfl,y,rfl⟩
   obtain⟨g,rfl,bg⟩:=hyo z (zW hz);refine⟨([Ls ns,Is n,Ls T,Zs w,Ls r,Rs 2,À (.str H),À E,À (af (À m)),Zs (J.map af),À (af (À g)),Á,Á,Á,Á,Á],s),[Ls ns,Is n,Ls T,Zs w,Ls r,Rs 2,À (.str H),À E,À (af (À m)),Zs (J.map af),À (af (À g)),Á,Á,Á,Á,Á],s,rfl,aq (s:=.iff _ _ _) (sl':=[Ls ns,Is n,Ls T,Zs w,Ls r,Rs 2,À (.str H),À E,À (af (À m)),Zs (J.map af),À (af (À g)),Á,Á,Á,Á,Á]) (st':=s) ?_ rfl,rfl,_,rfl⟩;rw[cY];simp only[eJ,dA,aO,ba,cj,bF,bO,Ã,Ï,eK,dB,d6,out _ g bg,lie _ g bg,GJ];rfl
  rintro sl s ⟨rfl,y,rfl⟩;clear lie out sr rg lrg;have M:=rgs s;rw[l5]at M;obtain⟨d,V⟩:∃d,d=rl n f:=⟨_,rfl⟩;have S6l:(s++[Ob.lst d]).length=6:=by rw[zV,l5];rfl
  have L:=sts (s++[Ob.lst d]);rw[<- V]at M L;rw[S6l]at L;have isn:=(isN s).1;cases h0:(f (uR n 0)).1.isNone with
  |true =>
   have hr0:(f r).1.isNone=Â:=by rw[ϵ]at h0 ⊢;exact nv0.mpr h0
   rw[h0,yI rfl]at M L;refine ai (sl':=[Ls ns,Is n,Ls T,Zs w,Ls r,Rs 2,À (.str H),À E,À (af (À m)),Zs (J.map af),y,À .non,Á,Á,Á,Á]) (st':=s++[Ob.lst d]) (by simp[M,dj]) ?_;refine ai (sl':=[Ls ns,Is n,Ls T,Zs w,Ls r,Rs 2,À (.str H),À E,À (af (À m)),Zs (J.map af),y,À .non,À .non,Á,Á,Á]) (st':=s++[Ob.lst d]++[Ob.lst d]) (by simp[L,dj]) ?_;have isn:=(isN (s++[Ob.lst d]++[Ob.lst d])).1;rw[hr0]at isn;refine eR (v:=.bl Â) (st':=s++[Ob.lst d]++[Ob.lst d]++[C]) ?_ rfl;rw[cY];simp only[eJ,cj,rp,bF,bO,Ã,Ï,isn,ite_true];refine jK ?_;rw[kb,vy];simp only[vx,vy,cj,rp,bF,bO,Ã,Ï,HK,show ∀st:aa,bB .Is st .non .non=À Â from fun _=>rfl];rw[kv (sl:=[Ls ns,Is n,Ls T,Zs w,Ls r,Rs 2,À (.str H),À E,À (af (À m)),Zs (J.map af),y,À .non,À .non,Á,Á,Á]) (fun _=>rfl) (fun _=>rfl)];simp only[Ã,Ï,(ie _).2];rfl
  |false =>
   have hr0:(f r).1.isNone=Ä:=by
    cases e:(f r).1 with
    |none=>rw[nv0.mp e]at h0;cases h0
    |some _=>rfl
   subst hS5;rw[hr0]at isn;rw[h0,yH dC]at M L;obtain⟨I,hDc⟩:∃I,I=Ob.lst (iL D2):=⟨_,rfl⟩;obtain⟨j,hSE⟩:∃j,j=n8 n f:=⟨_,rfl⟩;rw[<- hDc]at M L isn ⊢;rw[<- hSE]at L;have M:d8 [.int n,.fz w] [A,B,I,O,C]=À (.ref 5,[A,B,I,O,C,.lst d]):=M;have L:gy [.int n,.fz w] [A,B,I,O,C,.lst d]=À (.ref 7,[A,B,I,O,C,.lst d,.lst d,.lst (iL j)]):=L;refine ai (sl':=[Ls ns,Is n,Ls T,Zs w,Ls r,Rs 2,À (.str H),À E,À (af (À m)),Zs (J.map af),y,Rs 5,Á,Á,Á,Á]) (st':=[A,B,I,O,C,.lst d]) (by simp[M,dj]) ?_;refine ai (sl':=[Ls ns,Is n,Ls T,Zs w,Ls r,Rs 2,À (.str H),À E,À (af (À m)),Zs (J.map af),y,Rs 5,Rs 7,Á,Á,Á]) (st':=[A,B,I,O,C,.lst d,.lst d,.lst (iL j)]) (by simp[L,dj]) ?_;have isn8:=(isN [A,B,I,O,C,.lst d,.lst d,.lst (iL j)]).1;rw[hr0]at isn8;refine rP (by simp only[eJ,cj,rp,bF,bO,Ã,Ï,isn8]) ?_;refine ai (sl':=[Ls ns,Is n,Ls T,Zs w,Ls r,Rs 2,À (.str H),À E,À (af (À m)),Zs (J.map af),y,Rs 5,Rs 7,Zs d,Á,Á]) (st':=[A,B,I,O,C,.lst d,.lst d,.lst (iL j)]) (by
    have lc:=lu (st:=[A,B,I,O,C,.lst d,.lst d,.lst (iL j)]) (ks:=KX) (k:=1) (it:=.e (.ca Â 8 (.cons (.v 1) .nil))) (t:=.nm 16) (c:=.no) (e:=.ca Â 1 (.cons (.v 1) (.cons (.v 3) (.cons (.v 16) .nil)))) (sl:=[Ls ns,Is n,Ls T,Zs w,Ls r,Rs 2,À (.str H),À E,À (af (À m)),Zs (J.map af),y,Rs 5,Rs 7,Á,Á,Á]) (gd:=[]) (em:=fun q:Nat=>AV.fz (iL (uR n q))) (xs:=Æ (2^n-1)) (B:=fun _=>Â) (F:=fun q=>db f (uR n q)) (by
     rw[Hg];simp only[dA,aO,ba,cj,bF,bO,Ã,Ï,eK,dB,d6,Bv hn,yh]) rfl (by rw[Ü];lia) fun q _=>by
      have e2:=sG (st:=[A,B,I,O,C,.lst d,.lst d,.lst (iL j)]) hn F (di (n:=n) (k:=q));rw[<- hGA]at e2;exact⟨[Ls ns,Is n,Ls T,Zs w,Ls r,Rs 2,À (.str H),À E,À (af (À m)),Zs (J.map af),y,Rs 5,Rs 7,Á,Á,Á,Ls (uR n q)],rfl,rfl,fun _=>by
       simp only[dA,aO,ba,cj,bF,bO,Ã,Ï,eK,dB,d6,e2]⟩
    rw[ă.mpr (fun _ _=>rfl),show(Æ (2^n-1)).map (fun q=>db f (uR n q))=d from V.symm]at lc;rw[c9,gz,lc,Ã];dsimp only;rw[V,yI RF];rfl) ?_
   have seo:=Cb (f:=f) hn;have st_:=Ly hn F;have rlp:=fun(st:aa)(k:Nat)=>IR (st:=st) (n:=n) (f:=f) (k:=k)
   have skr:=B6 hn F;have etd:tD n f=.list [.list ((Æ (2^n-1)).map fun q=>rD f (uR n q)),.list (j.map Ø)]:=by rw[hSE];rfl
   rw[<- hSE]at seo;rw[<- V]at rlp;generalize (Æ (2^n-1)).map (fun q=>rD f (uR n q))=RDs at rlp skr etd;refine ai (sl':=[Ls ns,Is n,Ls T,Zs w,Ls r,Rs 2,À (.str H),À E,À (af (À m)),Zs (J.map af),y,Rs 5,Rs 7,Zs d,Á,Á]) (st':=[A,B,I,O,C,.lst d,.lst d,.lst (iL j),.lst [.ref 5,.ref 7],.lst [.fz d,.fz (iL j)]]) (by
    have q1:bM k9 [.ref 8] [A,B,I,O,C,.lst d,.lst d,.lst (iL j),.lst [.ref 5,.ref 7]]=À (.str (tD n f).shown,[A,B,I,O,C,.lst d,.lst d,.lst (iL j),.lst [.ref 5,.ref 7]]):=by
     refine qO ?_ (.inl ⟨_,rfl⟩) st_ dC dC dC;rw[etd];show(aR (aQ 8 _) [.ref 5,.ref 7]).map _=_;have h5:aQ 8 [A,B,I,O,C,.lst d,.lst d,.lst (iL j),.lst [.ref 5,.ref 7]] (.ref 5)=À (.list RDs):=by
      show(aR (aQ 7 _) d).map _=_;rw[rlp];rfl
     have h7:aQ 8 [A,B,I,O,C,.lst d,.lst d,.lst (iL j),.lst [.ref 5,.ref 7]] (.ref 7)=À (.list (j.map Ø)):=by
      show(aR (aQ 7 _) (iL j)).map _=_;rw[ow];rfl
     simp only[aR,h5,h7,Ã,Ï]
    have q2:bM k9 [.ref 9] [A,B,I,O,C,.lst d,.lst d,.lst (iL j),.lst [.ref 5,.ref 7],.lst [.fz d,.fz (iL j)]]=À (.str (tD n f).shown,[A,B,I,O,C,.lst d,.lst d,.lst (iL j),.lst [.ref 5,.ref 7],.lst [.fz d,.fz (iL j)]]):=by
     refine qO ?_ (.inl ⟨_,rfl⟩) st_ dC dC dC;rw[etd];show(aR (aQ 8 _) [.fz d,.fz (iL j)]).map _=_;have h5:aQ 8 [A,B,I,O,C,.lst d,.lst d,.lst (iL j),.lst [.ref 5,.ref 7],.lst [.fz d,.fz (iL j)]] (.fz d)=À (.list RDs):=by
      show(aR (aQ 7 _) d).map _=_;rw[rlp];rfl
     simp only[aR,h5,vS,Ã,Ï]
    have lc:=lu (st:=[A,B,I,O,C,.lst d,.lst d,.lst (iL j),.lst [.ref 5,.ref 7]]) (ks:=KX) (k:=2) (it:=.en (.v 13)) (t:=.tu 2 (.cons (.nm 16) (.cons (.nm 17) .nil))) (c:=.so (.cmp .Eq (.ix (.v 17) (.i 0)) (.ix (.v 17) (.i 1)))) (e:=.bin .Add (.v 16) (.i 1)) (sl:=[Ls ns,Is n,Ls T,Zs w,Ls r,Rs 2,À (.str H),À E,À (af (À m)),Zs (J.map af),y,Rs 5,Rs 7,Zs d,Á,Á]) (gd:=[]) (em:=fun q:Nat=>AV.tup [.int ((0+q:Nat):Int),db f (uR n q)]) (xs:=Æ (2^n-1)) (B:=fun q=>mC f (uR n q)) (F:=fun q=>AV.int (1+(q:Int))) (by
     rw[Bs];simp only[cj,bF,bO,Ã,yg,Ï];rw[V,wz]) rfl (by rw[Ü];lia) fun q _=>by
      obtain⟨x,y',e1,e2,e3⟩:=HW (st:=[A,B,I,O,C,.lst d,.lst d,.lst (iL j),.lst [.ref 5,.ref 7]]) F h0 (di (n:=n) (k:=q));refine⟨[Ls ns,Is n,Ls T,Zs w,Ls r,Rs 2,À (.str H),À E,À (af (À m)),Zs (J.map af),y,Rs 5,Rs 7,Zs d,Á,Á,Is ((0+q:Nat):Int),À (db f (uR n q))],rfl,?_,fun _=>?_⟩
      ·generalize db f (uR n q)=z at *
       generalize ((0+q:Nat):Int)=u;show tv KX _ _ _=_;simp only[eJ,j9,cj,ib,bF,bO,Ã,Ï,e1,e2,e3]
      ·simp only[lY,cj,ib,bF,bO,Ã,Ï,wF]
       rw[show((0+q:Nat):Int)+1=1+(q:Int) by lia]
    have es:((Æ (2^n-1)).filter fun q=>mC f (uR n q)).map (fun q:Nat=>AV.int (1+(q:Int)))=iL j:=by
     rw[hSE];unfold n8 iL;rw[å];rfl
    rw[es]at lc;have w1:ev KX (.bi .str (.cons (.nw Â (.li (.cons (.v 11) (.cons (.v 12) .nil)))) .nil)) [Ls ns,Is n,Ls T,Zs w,Ls r,Rs 2,À (.str H),À E,À (af (À m)),Zs (J.map af),y,Rs 5,Rs 7,Zs d,Á,Á] [A,B,I,O,C,.lst d,.lst d,.lst (iL j)]=À (.str (tD n f).shown,[A,B,I,O,C,.lst d,.lst d,.lst (iL j),.lst [.ref 5,.ref 7]]):=by
     rw[rq,aO,show ev KX (.nw Â (.li (.cons (.v 11) (.cons (.v 12) .nil)))) [Ls ns,Is n,Ls T,Zs w,Ls r,Rs 2,À (.str H),À E,À (af (À m)),Zs (J.map af),y,Rs 5,Rs 7,Zs d,Á,Á] [A,B,I,O,C,.lst d,.lst d,.lst (iL j)]=À (.ref 8,[A,B,I,O,C,.lst d,.lst d,.lst (iL j),.lst [.ref 5,.ref 7]]) from rfl,Ã,ba];simp only[Ã,Ï,pf,q1]
    have w2:ev KX (.bi .str (.cons (.nw Â (.li (.cons (.v 13) (.cons (.nw Ä (.lc 2 (.en (.v 13)) (.tu 2 (.cons (.nm 16) (.cons (.nm 17) .nil))) (.so (.cmp .Eq (.ix (.v 17) (.i 0)) (.ix (.v 17) (.i 1)))) (.bin .Add (.v 16) (.i 1)))) .nil)))) .nil)) [Ls ns,Is n,Ls T,Zs w,Ls r,Rs 2,À (.str H),À E,À (af (À m)),Zs (J.map af),y,Rs 5,Rs 7,Zs d,Á,Á] [A,B,I,O,C,.lst d,.lst d,.lst (iL j),.lst [.ref 5,.ref 7]]=À (.str (tD n f).shown,[A,B,I,O,C,.lst d,.lst d,.lst (iL j),.lst [.ref 5,.ref 7],.lst [.fz d,.fz (iL j)]]):=by
     rw [rq,aO,pF,A6,aO,cj];simp only [bF,bO,Ã,aO,gz,lc,dJ,ite_true,ba,Ï];rw [yI (show cw _=Â from rfl)];simp only [Ã,pf];exact congrArg (fun z=>z) q2
    rw[cY,eJ,w1,Ã,w2,Ã];simp only[(ie _).1,Ï,Ã];rfl) ?_
   obtain⟨b,hb⟩:∃b,b=kA n G T 1:=⟨_,rfl⟩;have itb:=itb [A,B,I,O,C,.lst d,.lst d,.lst (iL j),.lst [.ref 5,.ref 7],.lst [.fz d,.fz (iL j)]];rw[<- hb]at itb wi;have tt:tv KX (.va (.ca Â 9 (.cons (.v 1) (.cons (.v 3) (.cons (.tu (.cons (.v 2) (.cons (.i 1) .nil))) .nil))))) [Ls ns,Is n,Ls T,Zs w,Ls r,Rs 2,À (.str H),À E,À (af (À m)),Zs (J.map af),y,Rs 5,Rs 7,Zs d,Á,Á] [A,B,I,O,C,.lst d,.lst d,.lst (iL j),.lst [.ref 5,.ref 7],.lst [.fz d,.fz (iL j)]]=À (b,[A,B,I,O,C,.lst d,.lst d,.lst (iL j),.lst [.ref 5,.ref 7],.lst [.fz d,.fz (iL j)]]):=by
    have e:ev KX (.tu (.cons (.v 2) (.cons (.i 1) .nil))) [Ls ns,Is n,Ls T,Zs w,Ls r,Rs 2,À (.str H),À E,À (af (À m)),Zs (J.map af),y,Rs 5,Rs 7,Zs d,Á,Á] [A,B,I,O,C,.lst d,.lst d,.lst (iL j),.lst [.ref 5,.ref 7],.lst [.fz d,.fz (iL j)]]=À (.tup [.fz (iL T),.int 1],[A,B,I,O,C,.lst d,.lst d,.lst (iL j),.lst [.ref 5,.ref 7],.lst [.fz d,.fz (iL j)]]):=rfl;simp only[Li,dA,aO,ba,cj,e,bF,bO,Ã,Ï,eK,dB,d6,itb,k8]
   obtain⟨Z,hS10⟩:∃S,S=[A,B,I,O,C,.lst d,.lst d,.lst (iL j),Ob.lst [.ref 5,.ref 7],.lst [.fz d,.fz (iL j)]]:=⟨_,rfl⟩;have g5:Z[5]?=À (.lst d):=by rw[hS10];rfl
   rw[<- hS10]at tt ⊢;obtain⟨P,N,hlo⟩:∃P N,cP KX (.iff (.va (.ca Â 9 (.cons (.v 1) (.cons (.v 3) (.cons (.tu (.cons (.v 2) (.cons (.i 1) .nil))) .nil)))))
 (.cons (.fo (.en (.v 11)) (.tu 2 (.cons (.nm 14) (.cons (.nm 15) .nil)))
 (.cons (.iff (.cmp .NotEq (.ca Â 5 (.cons (.v 15) (.cons (.tu (.cons (.ix (.v 2) (.v 14)) (.cons (.i 1) .nil))) .nil))) (.s "within"))
 (.cons (.rt (.b Ä))
 .nil)
 .nil)
 .nil))
 .nil)
 .nil) [Ls ns,Is n,Ls T,Zs w,Ls r,Rs 2,À (.str H),À E,À (af (À m)),Zs (J.map af),y,Rs 5,Rs 7,Zs d,Á,Á] Z=À (.nx [Ls ns,Is n,Ls T,Zs w,Ls r,Rs 2,À (.str H),À E,À (af (À m)),Zs (J.map af),y,Rs 5,Rs 7,Zs d,P,N] Z):=by
    cases b with
    |false=>exact⟨Á,Á,by rw[cY,tt];rfl⟩
    |true =>
     have K:=Ii (ks:=KX) (st:=Z) (ss:=.nil) (Q:=fun o=>∃P N,o=.nx [Ls ns,Is n,Ls T,Zs w,Ls r,Rs 2,À (.str H),À E,À (af (À m)),Zs (J.map af),y,Rs 5,Rs 7,Zs d,P,N] Z) (it:=.en (.v 11)) (t:=.tu 2 (.cons (.nm 14) (.cons (.nm 15) .nil))) (b:=.cons (.iff (.cmp .NotEq (.ca Â 5 (.cons (.v 15) (.cons (.tu (.cons (.ix (.v 2) (.v 14)) (.cons (.i 1) .nil))) .nil))) (.s "within")) (.cons (.rt (.b Ä)) .nil) .nil) .nil) (em:=fun q:Nat=>AV.tup [.int ((0+q:Nat):Int),db f (uR n q)]) (xs:=Æ (2^n-1)) (gd:=[(5,.lst d)]) (st0:=Z) (sl:=[Ls ns,Is n,Ls T,Zs w,Ls r,Rs 2,À (.str H),À E,À (af (À m)),Zs (J.map af),y,Rs 5,Rs 7,Zs d,Á,Á]) (fun i sl s=>s=Z/\∃P N,sl=[Ls ns,Is n,Ls T,Zs w,Ls r,Rs 2,À (.str H),À E,À (af (À m)),Zs (J.map af),y,Rs 5,Rs 7,Zs d,P,N]) (by
      rw[Bs];simp only[cj,bF,bO,Ã];rw[gZ g5,Ï];dsimp only;rw[V,wz]) (fun i sl s h=>by rw[h.1];exact fq g5) ⟨rfl,_,_,rfl⟩ (fun i q sl s hq hq0=>by
       obtain⟨hs,P,N,hsl⟩:=hq0;subst hs;subst hsl;have hq:=Õ.mp (zW hq);have hqT:q<T.length:=by rw[hT.1];exact hq
       have bT:mF (gI T q,1):=by
        have:=hT.2 _ (iI hqT)
        have b:10000000000 < 2 ^ 1900:=zJ (show 10000000000 < 2 ^ 34 by decide) (ü dC dC);exact ⟨yM (show (gI T q).natAbs <= 10000000000 by lia) b,yM (show (1:Int).natAbs <= 10000000000 by decide) b⟩
       have lv:=lfr s q _ bT;rw[wi rfl q hq]at lv;have lv:pm eE [db f (uR n q),.tup [.int (gI T q),.int 1]] s=À (.str "within",s):=lv;have iT:=qo (st:=s) hqT;rw[show(q:Int)=((0+q:Nat):Int) by lia]at iT;refine⟨([Ls ns,Is n,Ls T,Zs w,Ls r,Rs 2,À (.str H),À E,À (af (À m)),Zs (J.map af),y,Rs 5,Rs 7,Zs d,Is ((0+q:Nat):Int),À (db f (uR n q))],s),[Ls ns,Is n,Ls T,Zs w,Ls r,Rs 2,À (.str H),À E,À (af (À m)),Zs (J.map af),y,Rs 5,Rs 7,Zs d,Is ((0+q:Nat):Int),À (db f (uR n q))],s,rfl,aq (s:=.iff _ _ _) (sl':=[Ls ns,Is n,Ls T,Zs w,Ls r,Rs 2,À (.str H),À E,À (af (À m)),Zs (J.map af),y,Rs 5,Rs 7,Zs d,Is ((0+q:Nat):Int),À (db f (uR n q))]) (st':=s) ?_ rfl,rfl,_,_,rfl⟩;generalize db f (uR n q)=z at *;generalize ((0+q:Nat):Int)=u at *;rw[cY];simp only[eJ,dA,aO,ba,vv,j9,cj,ib,bF,bO,Ã,Ï,iT];rw[yI (show Þ _ 1000=Â from rfl)];simp only[Ã,Ï,eK,dB,d6,lv,ER,(ie _).1];rfl) (fun sl' st' hq0=>by obtain⟨hs,P,N,hsl⟩:=hq0;subst hs;subst hsl;exact⟨_,rfl,_,_,rfl⟩)
     obtain⟨o,eo,P,N,rfl⟩:=K;exact⟨P,N,by rw[cY,tt,Ã];exact eo⟩
   refine ai hlo ?_;refine ai (sl':=[Ls ns,Is n,Ls T,Zs w,Ls r,Rs 2,À (.str H),À E,À (af (À m)),Zs (J.map af),y,Rs 5,Rs 7,Zs d,P,N]) (st':=[A,B,I,O,C,.lst [],.lst d,.lst (iL j),.lst [.ref 5,.ref 7],.lst [.fz d,.fz (iL j)]]) (by rw[hS10];rfl) ?_;have ap:=wI (ks:=KX) (a:=.v 12) (e:=.i 0) (y:=.int 0) (k:=7) (xs:=iL j) (sl:=[Ls ns,Is n,Ls T,Zs w,Ls r,Rs 2,À (.str H),À E,À (af (À m)),Zs (J.map af),y,Rs 5,Rs 7,Zs d,P,N]) (st:=[A,B,I,O,C,.lst [],.lst d,.lst (iL j),.lst [.ref 5,.ref 7],.lst [.fz d,.fz (iL j)]]) rfl rfl rfl (by rw[gF];lia);refine ai ap ?_;obtain⟨S12,hS12⟩:∃S,S=[A,B,I,O,C,.lst [],.lst d,.lst (iL j),Ob.lst [.ref 5,.ref 7],.lst [.fz d,.fz (iL j)]].set 7 (.lst (iL j++[.int 0])):=⟨_,rfl⟩;rw[<- hS12];have l12:S12.length=10:=by rw[hS12];rfl
   have r12:=rgs S12;rw[h0,yH dC,<- V]at r12;have s12:=sts (S12++[.lst d]);rw[h0,yH dC,<- V,<- hSE]at s12;obtain⟨W,hS13⟩:∃S,S=S12++[Ob.lst d]:=⟨_,rfl⟩;obtain⟨S15,hS15⟩:∃S,S=W++[Ob.lst d]++[Ob.lst (iL j)]:=⟨_,rfl⟩;have l13:W.length=11:=by rw[hS13,zV,l12];rfl
   have gA:W[S12.length]?=À (.lst d):=by rw[hS13];exact gl
   have gB:S15[W.length+1]?=À (.lst (iL j)):=by
    have:(W++[Ob.lst d]).length=W.length+1:=by simp
    rw[hS15,<- this];exact gl
   rw[<- hS13]at r12 s12;rw[<- hS15]at s12;have eqR:bB .Eq W (.ref S12.length) (.fz d)=À Â:=by
    refine Ez (p:=.list RDs) ?_ ?_ skr dC
    ·unfold aQ
     rw[gA];dsimp only;rw[rlp];rfl
    ·show(aR (aQ 8 _) d).map _=_
     rw[rlp];rfl
   have nin:=LX gB seo.2;refine eR (v:=.bl Â) (st':=S15++[C]) ?_ rfl;rw[kb,vy];simp only[vx,dA,aO,ba,cj,bF,bO,Ã,Ï,HK,ki,dB,d6,r12,eqR];show(Option.bind (zq (.bl Â) W _) _)=_;have an_t:∀(st:aa)(z:Option (AV×aa)),zq (.bl Â) st z=z:=fun _ _=>rfl
   rw[an_t,vy];simp only[vx,dA,aO,ba,cj,ib,bF,bO,Ã,Ï,HK,ki,dB,d6,s12,nin];rw[an_t,kv (sl:=[Ls ns,Is n,Ls T,Zs w,Ls r,Rs 2,À (.str H),À E,À (af (À m)),Zs (J.map af),y,Rs 5,Rs 7,Zs d,P,N]) (fun _=>rfl) (fun _=>rfl)];simp only[Ã,Ï,(ie _).2]
 obtain⟨⟨v,s⟩,e,h⟩:=key;have h:v=.bl Â:=h;subst h;exact⟨s,e⟩
theorem LB:Room e_law.d ŷ:=⟨rfl,by decide,by decide,rfl⟩
theorem De:∀t∈(Od.tb:List (Ç×Pos×Str)),t.1∈([(114,112)]:List (Ç×Addr)).map (·.2):=by
 intro t a;have:t=(112,⟨79,30,79,63⟩,("Sheet.raising_column":Ì)++".<locals>."++"<lambda>"):=zM.mp a;rw[this];exact zM.mpr rfl
theorem holds:∀ns:List Int,ns.length<=63->∃st,KK [.fz (ns.map .int)] []=À (.bl Â,st):=fun _ h=>Jo h
end
end LW
namespace PySem.W.Fast
def tw13298601458014733578:=()
def tw12406028286881601839:=()
def tw11928761662987199311:=()
def tw11276023987331257254:=()
def tw10613676839214258310:=()
def tw10375053109487276178:=()
def tw15946438339898598483:=()
def tw13285484620612484464:=()
def tw1977164642001824487:=()
def tw12144317793551271994:=()
def tw9388654802443560855:=()
def tw8105070599975062618:=()
def tw579194287522537567:=()
def tw9857114640041935397:=()
def tw8974076227800832903:=()
def tw13674531213075858682:=()
def tw8973833297962189597:=()
def tw13933723715372215164:=()
def tw14888416859303130978:=()
def tw10334835779434135550:=()
def tw7596829523219059398:=()
def tw6363911625844764401:=()
def tw17503364735603364421:=()
def tw618490847075895227:=()
def tw12846051063415769493:=()
def tw3375599194839180040:=()
def tw10929762326312867616:=()
def tw9688859321922753318:=()
def tw8545591232747528209:=()
def tw4201952666680411624:=()
def tw1996506283745072465:=()
def tw18312718199430425182:=()
def tw17794667624455586703:=()
def tw17072382282323327297:=()
def tw16800476861126588433:=()
def tw13042795176168890650:=()
def tw11624909932708573466:=()
def tw9725400725112228247:=()
def tw9595180665677605495:=()
def tw9589772005543024843:=()
def tw928470625472507535:=()
def tw6922552721509834254:=()
def tw6872712991872960378:=()
def tw6551188823142584475:=()
def tw5796276611829819484:=()
def tw569127360157657724:=()
def tw5322304419816471871:=()
def tw4115258173788697150:=()
def tw4036289210763771638:=()
def tw400219181890871718:=()
def tw274951936461578984:=()
def tw17684904507026218412:=()
def tw16114801001421704127:=()
def tw15316864689657651459:=()
def tw14787302088959402796:=()
def tw14573124497224535105:=()
def tw14546572864664846522:=()
def tw14292320155761330712:=()
def tw14210290851971708265:=()
def tw14040292343222589850:=()
def tw13051473993867782497:=()
def tw12150633614932262536:=()
def tw11791839692790800660:=()
def tw10170632824761076729:=()
def tw9923754173187753823:=()
def tw9897270582265842296:=()
def tw975813942858513074:=()
def tw9558319693053041564:=()
def tw938166517006546873:=()
def tw9275676042993561123:=()
def tw920832175455244344:=()
def tw9195375174442684763:=()
def tw9144051607774710609:=()
def tw8932946887159458673:=()
def tw8802424417119976330:=()
def tw867759787179186642:=()
def tw8647037453749373186:=()
def tw8277833906514835114:=()
def tw8245071407458810268:=()
def tw8036945880041070070:=()
def tw8002202403244598650:=()
def tw7853542616023662799:=()
def tw7805912208134027199:=()
def tw7611211529015898512:=()
def tw7135367235366418215:=()
def tw7108295318804176006:=()
def tw7105727063414572621:=()
def tw7000162527853578922:=()
def tw6994221440861419734:=()
def tw6849448202930523921:=()
def tw6578553471960838743:=()
def tw6457686354362564048:=()
def tw6265962725240354855:=()
def tw5989461263314946367:=()
def tw5924509736523200635:=()
def tw5854595282155060013:=()
def tw5772577464245314390:=()
def tw565024246719779116:=()
def tw5536867812595136179:=()
def tw5520878747540607679:=()
def tw17968063385392550881:=()
def tw13890261442061125917:=()
def tw18359575939412714947:=()
def tw977365571154857180:=()
def tw5385451410225582904:=()
def tw11696294002245264838:=()
def tw14712207301462607769:=()
def tw2434709160692394051:=()
def tw7212989610078422727:=()
def tw13992325183558059951:=()
def tw14989383837157344171:=()
def tw17982246566386665068:=()
def tw2310593716527142145:=()
def tw6016924794896686756:=()
def tw11479947958599701310:=()
def tw9273841937644951024:=()
def tw40844930032813763:=()
def tw11260360333259551964:=()
def tw13200638150052360712:=()
def tw17782942895282535235:=()
def tw3757564473622264579:=()
def tw3437849927745493375:=()
def tw5118424861004923928:=()
def tw3677722485555263725:=()
def tw11624207093567547137:=()
def tw15337609325148631741:=()
def tw2885015844781754845:=()
def tw11633473258734183776:=()
def tw1948867876651436282:=()
def tw5954052797978128099:=()
def tw13147161828124183250:=()
def tw6191455513608910166:=()
def tw11978910953277358909:=()
def tw6602920091485796002:=()
def tw12953558839881146802:=()
def tw9018272330586234936:=()
def tw2200065266849161122:=()
def tw14455926194959881513:=()
def tw17299740693521684739:=()
def tw3374885490978294591:=()
def tw3663792554692098273:=()
def tw1135482622995277832:=()
def tw693434636383523286:=()
def tw16942038340469600846:=()
def tw2965495214898631293:=()
def tw13575463265823263662:=()
def tw5220799403682338612:=()
def tw2229571640272068183:=()
def tw11570859527692994666:=()
def tw949811336222662539:=()
def tw6251203350448646393:=()
def tw9865809827055407100:=()
def tw6239602055908838688:=()
def tw4646335226372699471:=()
def tw14309658542297579481:=()
def tw6840853726729362718:=()
def tw15878019031932150697:=()
def tw4947632320005497837:=()
def tw17039257002401577366:=()
def tw6427140603804380188:=()
def tw11900242130421994419:=()
def tw18287613756937727223:=()
def tw12099584170153309856:=()
def tw2535786073268124225:=()
def tw17145077660368025089:=()
def tw1780510495487727089:=()
def tw5016274169200160847:=()
def tw3607385252159097991:=()
def tw17722678384455961416:=()
def tw15986520460821844023:=()
def tw17605327408010948322:=()
def tw12269077530587104316:=()
def tw13953442216735801942:=()
def tw11701775599265967793:=()
def tw10135511102502145628:=()
def tw10744057756520718415:=()
def tw461669075212859928:=()
def tw9102906798629410465:=()
def tw17596512989821579235:=()
def tw3293171028146739011:=()
def tw3597339789599454913:=()
def tw15010202070053350980:=()
def tw14281961151508256802:=()
def tw9794613014605460441:=()
def tw16554146304103049094:=()
def tw13423481146190787235:=()
def tw12626591410477305292:=()
def tw6553580935798551100:=()
def tw12585389092406312924:=()
def tw13000636353862102022:=()
def tw97296466764424965:=()
def tw5073569675107847855:=()
def tw3899948968293220259:=()
def tw5290575930193547333:=()
def tw4979943943233764443:=()
def tw11732350798663864010:=()
def tw8238934307059162445:=()
def tw6123787686084364574:=()
def tw12906623988393869118:=()
def tw12954125679552334287:=()
def tw7560253068687733273:=()
def tw17458333648412021841:=()
def tw11063906624493627469:=()
def tw2122283409741344266:=()
def tw3941774069073504237:=()
def tw4590204526907079371:=()
def tw3684709141451828693:=()
def tw784473584214737485:=()
def tw13300829811412707990:=()
def tw871824483924402222:=()
def tw11300368877195117969:=()
def tw16101871564317130870:=()
def tw15066388948517455243:=()
def tw1236963728186453906:=()
def tw12971224025488195118:=()
def tw9924298013982741649:=()
def tw18357348800961554432:=()
def tw8819162401536414066:=()
def tw11424670824576498077:=()
def tw58674035997008296:=()
def tw8918011862441218209:=()
def tw15113077506014626043:=()
def tw3375963499255069740:=()
def tw13266785390676540636:=()
def tw4114633371414794494:=()
def tw7708503821134363586:=()
def tw17415939613222216040:=()
def tw4433159723945686975:=()
def tw16923359202966053142:=()
def tw2012950076492723580:=()
def tw8308519202249639607:=()
def tw14946028450891647021:=()
def tw4396263447902012728:=()
def tw16170512426967043345:=()
def tw4119399741470258824:=()
def tw11548569394740643993:=()
def tw11704180508427897587:=()
def tw5948688496228715047:=()
def tw12329497927461278964:=()
def tw12172321787279854691:=()
def tw10205580554934446346:=()
def tw13633219159375904669:=()
def tw5655792686286909699:=()
def tw7657809201258651963:=()
def tw9672461431120937524:=()
def tw13903619886532908829:=()
def tw5640291408280148708:=()
def tw1587300953638097803:=()
def tw4299314526914832782:=()
def tw11640110519215478570:=()
def tw17958779977874325808:=()
def tw1104585400933339377:=()
def tw14478701273259765053:=()
def tw17381867048879435645:=()
def tw2204195529336894445:=()
def tw7627520885482055120:=()
def tw10974876130591471984:=()
def tw6698336053898316744:=()
def tw7811646624173168723:=()
def tw8926618266488775048:=()
def tw17103989488039211110:=()
def tw18322379623028486611:=()
def tw17220519289317283593:=()
def tw1332403627368889245:=()
def tw3316338537452584157:=()
def tw14909498382575306107:=()
def tw5939352671236847502:=()
def tw6617996346560583995:=()
def tw18078952741333325062:=()
def tw13513884809574019557:=()
def tw4640190636202366308:=()
def tw6242758029470403673:=()
def tw17735937547540944547:=()
def tw16282864099269238982:=()
def tw1272112993672604047:=()
def tw10692662690839761061:=()
def tw10322278506907272062:=()
def tw5976638625741265948:=()
def tw11372467009355487097:=()
def tw12401247297682177992:=()
def tw4452234388342118325:=()
def tw6540536195120342314:=()
def tw14388321313571716469:=()
def tw16000150442439959057:=()
def tw11423953382701550984:=()
def tw3352021018451515595:=()
def tw9203778130655977732:=()
def tw10065513414495861301:=()
def tw10238319164430805277:=()
def tw965179712496805094:=()
def tw10973400004712888144:=()
def tw10250361013084899973:=()
def tw17926615781919596824:=()
def tw5121736345809181498:=()
def tw6798904932543131436:=()
def tw12133159873775609072:=()
def tw18266019997908255249:=()
def tw561898584714525509:=()
def tw7667704774915682809:=()
def tw10632004040534362416:=()
def tw15873186635482286957:=()
def tw2552859816676274696:=()
def tw669034308442623028:=()
def tw5084125721184777125:=()
def tw1637712005046151173:=()
def tw11650904476262635685:=()
def tw11313024753243567547:=()
def tw10743748423645663707:=()
def tw6786393504174723481:=()
def tw2942198311717968302:=()
def tw15980188690720079640:=()
def tw10367481808247372700:=()
def tw15106180467200605457:=()
def tw8065038732082263306:=()
def tw17286975368836826269:=()
def tw17527199105745357712:=()
def tw14566169204065973769:=()
def tw3348390101580325510:=()
def tw12754744409249952097:=()
def tw9597939597888916343:=()
def tw8449146250367599828:=()
def tw7927104343840836704:=()
def tw6220716823140168406:=()
def tw2862919660537933197:=()
def tw1832451525448687004:=()
def tw17794965024985455817:=()
def tw17216690411433908026:=()
def tw13552438151196543097:=()
def tw10513191644681383127:=()
def tw10162966431215419191:=()
def tw12433300798560766400:=()
def tw9583701241146721601:=()
def tw9569700757836613770:=()
def tw8298361203337606283:=()
def tw7286986151324006350:=()
def tw6853043626772438153:=()
def tw6094785780843277945:=()
def tw566953355159318479:=()
def tw5388603287464658313:=()
def tw5110143495760043117:=()
def tw4838186144693537257:=()
def tw4597386139297441390:=()
def tw4551626640044215809:=()
def tw4453259476988173978:=()
def tw4112784375207108072:=()
def tw17133522915411554150:=()
def tw14618757547484912484:=()
def tw13868787202279762432:=()
def tw13785269900405411755:=()
def tw13532881965770751248:=()
end PySem.W.Fast
open PySem PySem.W PyProof.Rows
set_option maxRecDepth 100000 in
set_option maxHeartbeats 0 in
theorem PySem.Challenge.cw_telltight_k34_whole_ranges_holds : PySem.Challenge.rw_telltight_k34_whole_ranges.Holds := by
 w_on; o_law; k_head; (case hw => w_witness2)
 k_fill
 refine R.walk_R (l := PySem.Challenge.rw_telltight_k34_whole_ranges) (k := LW.e_law.d) (fn := LW.KK) (tabs := [(114, 112)]) rfl rfl ?hrr (fun w h Y => ⟨km_in_of Y, fun q hq => km_tabs_of Y q.2 (by simp only [zM] at hq ⊢; rw [hq])⟩) ?hcc ?hKK ?htt LW.holds ?F
 case hrr => exact LW.LB
 case hcc => intro w q hq; simp only [zM] at hq; rw [hq]; kernel_rfl
 case hKK => intro w; kernel_rfl
 case htt => intro t ht; exact LW.De t ht
 case F =>
  intro w mg fa h KX G hmg;refine R.law_F (gs := LW.gs) (cl := LW.cl) (pre := LW.pre) (e := LW.e_law) KX G hmg ?nb ?gs ?cl LW.EH LW.EI rfl ?fs ?law rfl LW.Jp
  case nb => kernel_rfl
  case gs => intro p hp; simp only [LW.gs, zT, zX, or_false] at hp
  case cl => intro p hp; simp only [LW.cl, zT, zX, or_false] at hp; rcases hp with rfl <;> exact ⟨⟨_, by k_is, by kernel_rfl, by kernel_rfl, by kernel_rfl, by kernel_rfl⟩, ⟨_, by k_is, by kernel_rfl⟩⟩
  case law => exact R.ff (by k_is) (by k_is) (by kernel_rfl) (by k_is) (.inl rfl)
  case fs =>
   repeat' first | exact R.fes_n | refine R.fes_c ?_ ?_
   iterate 19 next => exact R.fe_f (by exact rfl) (by k_is) (by k_is) (by kernel_rfl) (by k_is) (.inl rfl)
   next => exact R.fe_k (by exact rfl) (by k_is) (by k_is) (by k_is) (by kernel_rfl) (by k_is) (by k_is) (.inl rfl) (by kernel_rfl) (by kernel_rfl)
   next => exact R.fe_m (by exact rfl) (by k_is) (by k_is) (by k_is) (by kernel_rfl) (by k_is) (by k_is) (.inl rfl)
   next => exact R.fe_f (by exact rfl) (by k_is) (by k_is) (by kernel_rfl) (by k_is) (.inl rfl)
   iterate 2 next => exact R.fe_m (by exact rfl) (by k_is) (by k_is) (by k_is) (by kernel_rfl) (by k_is) (by k_is) (.inl rfl)
   next => exact R.fe_m (by exact rfl) (by k_is) (by k_is) (by k_is) (by kernel_rfl) (by k_is) (by k_is) (.inr ⟨_, _, _, rfl, rfl, by kernel_rfl, rfl⟩)
   iterate 3 next => exact R.fe_m (by exact rfl) (by k_is) (by k_is) (by k_is) (by kernel_rfl) (by k_is) (by k_is) (.inl rfl)
   next => exact R.fe_f (by exact rfl) (by k_is) (by k_is) (by kernel_rfl) (by k_is) (.inl rfl)
   iterate 4 next => exact R.fe_m (by exact rfl) (by k_is) (by k_is) (by k_is) (by kernel_rfl) (by k_is) (by k_is) (.inl rfl)
   iterate 10 next => exact R.fe_f (by exact rfl) (by k_is) (by k_is) (by kernel_rfl) (by k_is) (.inl rfl)
   next => exact R.fe_m (by exact rfl) (by k_is) (by k_is) (by k_is) (by kernel_rfl) (by k_is) (by k_is) (.inl rfl)
   iterate 20 next => exact R.fe_f (by exact rfl) (by k_is) (by k_is) (by kernel_rfl) (by k_is) (.inl rfl)
#print axioms PySem.Challenge.cw_telltight_k34_whole_ranges_holds
