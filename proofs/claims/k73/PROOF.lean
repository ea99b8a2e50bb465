import PyProof.Rows.All
import Wide.All
import OpenK.AllK
import Wide.FinOn
import Lean
import PyProof.EqAt
import PyProof.EqKinds
import PyProof.TupleCall
import PyProof.FactsAll.list_3
import PyProof.EnumMake
import PyProof.Draws
import PyProof.Rows.CallKwBuiltin
import PyProof.ListRange
import PyProof.TupleIter
import PyProof.Rows.Range3
import PyProof.ZipIter
import PyProof.FactsAll.int_0
import PyProof.FactsAll.int_6
import PyProof.Rows.RuleM_int
import PyProof.ReprNest
import PyProof.ReprLen
import PyProof.StrOps
import KE.KDictOf
import PyProof.AttrMissHeap
import PyProof.MeetsDictList
import PyProof.DictRoadsH
import KE.KSortTup
import KE.KDictList
import PyProof.Rows.SortShell
import PyProof.MeetsSeq3
import PyProof.FactsAll.list_2
import KE.KSortAsk
import PyProof.TupleOfSeq
import PyProof.StrCalls2
import PyProof.StrCalls
import PyProof.Rows.StrJoin2
import KE.KIntText
import PyProof.CallStr
import PyProof.Rows.StrLen
import PyProof.StrBlockH
import PyProof.SliceStr2
import PyProof.StrWalks
import PyProof.StrLoop
import PyProof.Rows.FStr
import PyProof.StrOps2
import KE.KItemsList
import PyProof.StrLawsChain
import PyProof.Rows.StrBin
import PyProof.Rows.CatFin
import PySem.Challenge.RW_telltight_k73_rows_as_texts
set_option bootstrap.genMatcherCode false
set_option compiler.extract_closed false
open Option (bind_some map_some)
open PySem.W (InstAt callWith_K cellsFrom_some codeIn codeRec_of findIn fnOf hasDictIn hideAll hideAll_get hideAll_none hideAll_size instObj kIn_of keepIn ki_setAt ki_setBack kia_one kitOne kitx_bool kitx_dict kitx_float kitx_int kitx_list kitx_none kitx_own kitx_str kitx_tuple lookIn methodObj mg_none_of mg_of mroIn nsIn of_hideAll plainGet plainOver specialIn takesIn)
theorem oM {p : Prop} (h : p := by first | omega | (refine @id (@Ne Nat _ _) ?_; omega)) : p := h
theorem dC {p : Prop} (h : p := by decide) : p := h
set_option Elab.async false
set_option linter.all false
set_option maxRecDepth 100000
theorem Ax0 (_ : True := by first | exact .inl rfl | exact .inr rfl | assumption) : True := trivial
theorem Ax1 (_ : True := by decide) : True := trivial
theorem Ax2 (_ : True := by first | exact nobehind _ dC dC | rfl) : True := trivial
theorem Ax3 (_ : True := by intro _; rfl) : True := trivial
theorem Ax4 (_ : True := by rfl) : True := trivial
theorem Ax5 (_ : True := by intros; rfl) : True := trivial
theorem Ax6 (_ : True := by exact trivial) : True := trivial
theorem Ax7 (_ : True := by first | exact Or.inl rfl | exact Or.inr (Or.inl rfl) | exact Or.inr (Or.inr rfl)) : True := trivial
theorem Ax8 (_ : True := by intro _ _; rfl) : True := trivial
theorem Ax9 (_ : True := by first | exact Or.inl rfl | exact Or.inr rfl) : True := trivial
theorem Ax10 (_ : True := by (first | exact Le.refl | (repeat (first | exact Le.nil | refine Le.som inferInstance ?_ | refine Le.non ?_)))) : True := trivial
theorem Ax11 (_ : True := by intro _; repeat (first | exact Fr.nil | refine Fr.som (fun _ _ h => h) ?_ | refine Fr.non ?_)) : True := trivial
theorem Ax12 (_ : True := by infer_instance) : True := trivial
theorem Ax13 (_ : True := by intro _; repeat (first | exact Le.nil | refine Le.som inferInstance ?_ | refine Le.non ?_)) : True := trivial
namespace L2
open PySem PySem.Spec PyProof.Rows
noncomputable abbrev Key := Sum Int Str
noncomputable def keyIs : Key -> Value -> Bool
 | .inl k, v => Value.isInt k v
 | .inr x, v => Value.isStrOf x v
noncomputable def keyH (w : World) : Key -> Int
 | .inl k => hashInt k
 | .inr x => hashStr w x
theorem keyIs_shape : ∀ {k : Key} {v : Value}, keyIs k v = true -> (∃ i t, k = Sum.inl i /\ v = Value.int i t) \/ (∃ x t, k = Sum.inr x /\ v = Value.str x t)
 | .inl i, v, h => by
  obtain ⟨t, e⟩ := Value.isInt_shape (k := i) (v := v) h;exact .inl ⟨i, t, rfl, e⟩
 | .inr x, v, h => by
  obtain ⟨t, e⟩ := Value.isStrOf_shape (x := x) (v := v) h;exact .inr ⟨x, t, rfl, e⟩
theorem key_ll (a b : Int) : decide ((Sum.inl a : Key) = Sum.inl b) = (a == b) := by
 by_cases e : a = b
 ·subst e; simp
 ·have h : ¬ (Sum.inl a : Key) = Sum.inl b := fun q => e (Sum.inl.inj q)
  rw [decide_eq_false h];exact (beq_eq_false_iff_ne.mpr e).symm
theorem key_rr (a b : Str) : decide ((Sum.inr a : Key) = Sum.inr b) = decide (a = b) := by
 by_cases e : a = b
 ·subst e; simp
 ·have h : ¬ (Sum.inr a : Key) = Sum.inr b := fun q => e (Sum.inr.inj q)
  rw [decide_eq_false h, decide_eq_false e]
theorem key_lr (a : Int) (b : Str) : decide ((Sum.inl a : Key) = Sum.inr b) = false := decide_eq_false (fun q => nomatch q)
theorem key_rl (a : Str) (b : Int) : decide ((Sum.inr a : Key) = Sum.inl b) = false := decide_eq_false (fun q => nomatch q)
noncomputable def mixKind (prog : Program) (w : World) : PySem.KeyKind prog w Key where
 is := keyIs
 hash := keyH w
 inj := fun v a b ha hb => by
  rcases keyIs_shape ha with ⟨i, t, rfl, rfl⟩ | ⟨x, t, rfl, rfl⟩
  ·rcases keyIs_shape hb with ⟨j, u, rfl, e⟩ | ⟨y, u, rfl, e⟩
   ·injection e with e1 _; rw [e1]
   ·exact nomatch e
  ·rcases keyIs_shape hb with ⟨j, u, rfl, e⟩ | ⟨y, u, rfl, e⟩
   ·exact nomatch e
   ·injection e with e1 _; rw [e1]
 byValue := fun k v h => by
  rcases keyIs_shape h with ⟨i, t, rfl, rfl⟩ | ⟨x, t, rfl, rfl⟩ <;> rfl
 pyHash := fun hv h => by
  rcases keyIs_shape hv with ⟨i, t, rfl, rfl⟩ | ⟨x, t, rfl, rfl⟩
  ·exact wpAny_pyHash_int h
  ·exact wpAny_pyHash_str h
 eqBool := fun hu hv h => by
  rcases keyIs_shape hu with ⟨i, t, rfl, rfl⟩ | ⟨x, t, rfl, rfl⟩
  ·rcases keyIs_shape hv with ⟨j, u, rfl, rfl⟩ | ⟨y, u, rfl, rfl⟩
   ·rw [key_ll] at h; exact wpAny_eqBool_int h
   ·rw [key_lr] at h; exact SeqAt.EqAt.int_str i t y u _ _ _ _ h
  ·rcases keyIs_shape hv with ⟨j, u, rfl, rfl⟩ | ⟨y, u, rfl, rfl⟩
   ·rw [key_rl] at h; exact SeqAt.EqAt.str_int x t j u _ _ _ _ h
   ·rw [key_rr] at h; exact wpAny_eqBool_str h
 «strs» := fun k x t v h => by
  rcases keyIs_shape h with ⟨i, u, rfl, e⟩ | ⟨y, u, rfl, e⟩
  ·exact nomatch e
  ·injection e with e1 _
   subst e1;cases v <;> rfl
inductive V where
 | non | bl (b : Bool) | int (i : Int) | str (x : Str) | byt (b : Array UInt8) | flt (b : UInt64) | ref (a : Addr) | ty (n : String)
 deriving DecidableEq
noncomputable def RelV : V -> Value -> Prop
 | .non, u => u = Value.none
 | .bl b, u => u = Value.bool b
 | .int i, u => ∃ t, u = Value.int i t
 | .str x, u => ∃ t, u = Value.str x t
 | .byt b, u => ∃ t, u = Value.bytes b t
 | .flt b, u => ∃ t, u = Value.float b t
 | .ref a, u => u = Value.ref a
 | .ty n, u => u = Value.type n
noncomputable abbrev Vals : List V -> List Value -> Prop := Paired RelV
theorem Vals.length {xs : List V} {us : List Value} (r : Vals xs us) : xs.length = us.length := Paired.length r
theorem Vals.get : ∀ {xs : List V} {us : List Value} {i : Nat} {x : V}, Vals xs us -> xs[i]? = some x -> ∃ u, us[i]? = some u /\ RelV x u
 | _, _, _, _, .nil, e => by simp at e
 | _, _, 0, _, .cons r _, e => by simp at e; subst e; exact ⟨_, rfl, r⟩
 | _, _, i + 1, x, .cons _ t, e => by
  obtain ⟨u, h1, h2⟩ := Vals.get (i := i) (x := x) t (by simpa using e);exact ⟨u, by simpa using h1, h2⟩
theorem Vals.set {x : V} {u : Value} (r : RelV x u) : ∀ {xs : List V} {us : List Value} (i : Nat), Vals xs us -> Vals (xs.set i x) (us.set i u)
 | _, _, _, .nil => .nil
 | _, _, 0, .cons _ t => .cons r t
 | _, _, i + 1, .cons q t => .cons q (Vals.set r i t)
theorem Vals.append : ∀ {xs ys : List V} {us ws : List Value}, Vals xs us -> Vals ys ws -> Vals (xs ++ ys) (us ++ ws) := by
 intro xs ys us ws h s
 induction h with
 | nil => exact s
 | cons r t ih => exact .cons r ih
noncomputable def RelO : Option V -> Option Value -> Prop
 | some v, some u => RelV v u
 | none, none => True
 | _, _ => False
noncomputable def KV {κ : Type} : List (κ × V) -> List (κ × Value) -> Prop := Paired fun (p : κ × V) (q : κ × Value) => p.1 = q.1 /\ RelV p.2 q.2
noncomputable def kV : Key -> V
 | .inl i => .int i
 | .inr x => .str x
inductive HO where
  | lst (xs : List V)
  | tup (xs : List V)
  | dK (kvs : List (Key × V)) | dT (kvs : List (List Key × V))
  | set (S : Int -> Bool) (n : Nat)
  | ins (C dx : Addr) (fs : List (Str × V))
  | own (x : Addr)
  | xd (fs : List (Str × V))
  | met (f x : Addr)
  | rng (lo hi : Int)
  | frz (o : Obj) (u : HO)
  | tbl (ps : Array Value)
  | ext (φ : Heap -> Prop)
noncomputable abbrev Hp := Addr -> Option HO
noncomputable def upd (H : Hp) (a : Addr) (o : HO) : Hp := fun b => if b = a then some o else H b
theorem upd_same {H : Hp} {a : Addr} {o : HO} : upd H a o a = some o := by unfold upd; rw [if_pos rfl]
theorem upd_ne {H : Hp} {a b : Addr} {o : HO} (h : b ≠ a) : upd H a o b = H b := by unfold upd; rw [if_neg h]
theorem ne_of_none {H : Hp} {a b : Addr} {o : HO} (h : H a = some o) (h' : H b = none) : a ≠ b := by
 intro e; subst e; rw [h] at h'; cases h'
section
variable (P : Program) (w : World)
noncomputable def ObjOk (H : Hp) (h : Heap) (a : Addr) : HO -> Prop
 | .lst xs => xs.length <= sizeLine /\ ∃ (its : List Value) (n : Nat), Vals xs its /\ h.get? a = some { cls := .type "list", data := .seq its.toArray n }
 | .tup xs => xs.length <= sizeLine /\ ∃ its : List Value, Vals xs its /\ IsTup h a its.toArray
 | .dK kvs => kvs.length <= sizeLine /\ (a == sysModules) = false /\ ∃ vs, KV kvs vs /\ h.DictOf (mixKind P w) a vs
 | .dT kvs => kvs.length <= sizeLine /\ (a == sysModules) = false /\ ∃ xs : List (List Key × Addr × Value),
   Paired (fun (p : List Key × V) (q : List Key × Addr × Value) => p.1 = q.1 /\ H q.2.1 = some (.tup (p.1.map kV)) /\ RelV p.2 q.2.2) kvs xs /\
   ∃ o es ep, h.get? a = some o /\ o.ExactDict /\ o.data = .dict es ep /\ es.toList = xs.map (entryOfKey (tupleKind (mixKind P w))) /\ (xs.map (·.1)).Nodup
 | .set S n => h.SetOf (intKind P w) a S n
 | .ins C dx fs => H dx = some (.own a) /\ fs.length <= 1000 /\ dx ≠ a /\ h.get? a = some (instObj C dx) /\
   ∃ mA, h.Ns1 dx mA /\ (∀ f, RelO (fs.lookup f) (mA f)) /\ PySem.Within mA (fs.map (·.1))
 | .own _ => ∃ o, h.get? a = some o
 | .xd fs => ∃ mA, h.Ns1 a mA /\ ∀ f, RelO (fs.lookup f) (mA f)
 | .rng lo hi => ∃ t u v, h.get? a = some { cls := .type "range", data := .fields #[.int lo t, .int hi u, .int 1 v] }
 | .frz o u => h.get? a = some o /\ ObjOk H h a u
 | .tbl ps => h.get? a = some { cls := .none, data := .fields ps }
 | .met f x => h.get? a = some (methodObj (.ref f) (.ref x))
 | .ext φ => φ h /\ (∃ o, h.get? a = some o) /\ ∀ h1 h2 : Heap, φ h1 -> (∀ o, h1.get? a = some o -> h2.get? a = some o) -> φ h2
noncomputable def HOk (H : Hp) (h : Heap) : Prop := ∀ a o, H a = some o -> ObjOk P w H h a o
end
section
variable {P : Program} {w : World} {H H' : Hp} {h h' : Heap} {a : Addr} {o : HO}
theorem ObjOk.lt (x : ObjOk P w H h a o) : a < h.objs.size := by
 cases o with
 | lst xs => obtain ⟨_, _, _, _, e⟩ := x; exact Heap.lt_size e
 | tup xs => obtain ⟨_, _, _, p⟩ := x; exact p.lt
 | dK kvs => obtain ⟨_, _, _, _, o, _, _, e, _⟩ := x; exact Heap.lt_size e
 | dT kvs => obtain ⟨_, _, _, _, o, _, _, e, _⟩ := x; exact Heap.lt_size e
 | set S n => obtain ⟨o, _, _, _, e, _⟩ := x; exact Heap.lt_size e
 | ins C dx fs => obtain ⟨_, _, _, e, _⟩ := x; exact Heap.lt_size e
 | own y => obtain ⟨_, e⟩ := x; exact Heap.lt_size e
 | xd fs => obtain ⟨_, ⟨_, _, _, e, _⟩, _⟩ := x; exact Heap.lt_size e
 | rng lo hi => obtain ⟨_, _, _, e⟩ := x; exact Heap.lt_size e
 | frz ob u => obtain ⟨e, _⟩ := x; exact Heap.lt_size e
 | tbl ps => exact Heap.lt_size (show h.get? a = some _ from x)
 | met f y => exact Heap.lt_size (show h.get? a = some _ from x)
 | ext φ => obtain ⟨_, ⟨_, e⟩, _⟩ := x; exact Heap.lt_size e
theorem Paired.mapP {α β : Type} {F G : α -> β -> Prop} : ∀ {l₁ : List α} {l₂ : List β}, Paired F l₁ l₂ -> (∀ a b, F a b -> G a b) -> Paired G l₁ l₂ := by
 intro l₁ l₂ h f
 induction h with
 | nil => exact .nil
 | cons r t ih => exact .cons (f _ _ r) ih
theorem ObjOk.stay (x : ObjOk P w H h a o) (k : ∀ b u, (b = a \/ H b = some (.own a)) -> h.get? b = some u -> h'.get? b = some u)
  (ho : ∀ b, H b = some (.own a) -> H' b = some (.own a)) (ht : ∀ b xs, H b = some (.tup xs) -> H' b = some (.tup xs)) : ObjOk P w H' h' a o := by
 induction o with
 | lst xs => obtain ⟨z, its, n, r, e⟩ := x; exact ⟨z, its, n, r, k _ _ (.inl rfl) e⟩
 | tup xs => obtain ⟨z, its, r, ob, e, c⟩ := x; exact ⟨z, its, r, ob, k _ _ (.inl rfl) e, c⟩
 | dK kvs => obtain ⟨z, y, vs, r, ob, es, ep, e, c⟩ := x; exact ⟨z, y, vs, r, ob, es, ep, k _ _ (.inl rfl) e, c⟩
 | dT kvs =>
  obtain ⟨z, y, xs, r, ob, es, ep, e, c⟩ := x;exact ⟨z, y, xs, Paired.mapP r fun p q z => ⟨z.1, ht _ _ z.2.1, z.2.2⟩, ob, es, ep, k _ _ (.inl rfl) e, c⟩
 | set S n => obtain ⟨ob, es, ep, t, e, c⟩ := x; exact ⟨ob, es, ep, t, k _ _ (.inl rfl) e, c⟩
 | ins C dx fs =>
  obtain ⟨d, z, ne, e, mA, ⟨od, es, ep, e2, c⟩, r⟩ := x;exact ⟨ho _ d, z, ne, k _ _ (.inl rfl) e, mA, ⟨od, es, ep, k _ _ (.inr d) e2, c⟩, r⟩
 | own y => obtain ⟨ob, e⟩ := x; exact ⟨ob, k _ _ (.inl rfl) e⟩
 | xd fs => obtain ⟨mA, ⟨od, es, ep, e, c⟩, r⟩ := x; exact ⟨mA, ⟨od, es, ep, k _ _ (.inl rfl) e, c⟩, r⟩
 | rng lo hi => obtain ⟨t, u, v, e⟩ := x; exact ⟨t, u, v, k _ _ (.inl rfl) e⟩
 | frz ob u ih => obtain ⟨e, q⟩ := x; exact ⟨k _ _ (.inl rfl) e, ih q⟩
 | tbl ps =>
  have e : h.get? a = some { cls := .none, data := .fields ps } := x;show h'.get? a = some { cls := .none, data := .fields ps };exact k a _ (.inl rfl) e
 | met f y =>
  have e : h.get? a = some (methodObj (.ref f) (.ref y)) := x;show h'.get? a = some (methodObj (.ref f) (.ref y));exact k a _ (.inl rfl) e
 | ext φ => obtain ⟨p, ⟨o, e⟩, st⟩ := x; exact ⟨st _ _ p fun o q => k _ _ (.inl rfl) q, ⟨o, k _ _ (.inl rfl) e⟩, st⟩
theorem HOk.lt (x : HOk P w H h) (e : H a = some o) : a < h.objs.size := (x a o e).lt
theorem HOk.fresh (x : HOk P w H h) (e : h.objs.size <= a) : H a = none := by
 cases q : H a with
 | none => rfl
 | some u => exact absurd (Nat.lt_of_lt_of_le (x.lt q) e) (Nat.lt_irrefl _)
theorem HOk.kept (x : HOk P w H h) (k : ∀ b u, h.get? b = some u -> h'.get? b = some u) : HOk P w H h' := fun a o e =>
 (x a o e).stay (fun b u _ q => k b u q) (fun _ q => q) fun _ _ q => q
theorem HOk.laid (x : HOk P w H h) (k : ∀ b u, h.get? b = some u -> h'.get? b = some u) (hp : h.objs.size <= a) (new : ObjOk P w (upd H a o) h' a o) : HOk P w (upd H a o) h' := fun b u e => by
 have hn := x.fresh hp;by_cases hb : b = a
 ·subst hb; rw [upd_same] at e; cases e; exact new
 ·rw [upd_ne hb] at e
  exact (x b u e).stay (fun c v _ q => k c v q) (fun c q => by rw [upd_ne (ne_of_none q hn)]; exact q) fun c xs q => by rw [upd_ne (ne_of_none q hn)]; exact q
end
noncomputable def Rd (H : Hp) (a : Addr) (u : HO) : Prop := H a = some u \/ ∃ o, H a = some (.frz o u)
theorem Rd.ok {P : Program} {w : World} {H : Hp} {h : Heap} {a : Addr} {u : HO} (r : Rd H a u) (x : HOk P w H h) : ObjOk P w H h a u := by
 rcases r with r | ⟨o, r⟩
 ·exact x a u r
 ·obtain ⟨_, q⟩ := x a _ r
  exact q
noncomputable def Mut : Option HO -> Prop
 | some (.lst _) => True
 | some (.dK _) => True
 | some (.dT _) => True
 | some (.set _ _) => True
 | some (.ins _ _ _) => True
 | some (.ext _) => True
 | _ => False
section
variable {P : Program} {w : World} {H : Hp} {h h' : Heap} {x e : Addr} {o' : HO}
theorem HOk.write (ok : HOk P w H h) (mu : Mut (H x)) (he : e = x \/ H e = some (.own x)) (k : ∀ b u, b ≠ e -> h.get? b = some u -> h'.get? b = some u) (heo : ∃ u, h'.get? e = some u)
  (new : ObjOk P w (upd H x o') h' x o') : HOk P w (upd H x o') h' := fun b u q => by
 have nown : ∀ c y, H c = some (.own y) -> c ≠ x := fun c y r z => by subst z; rw [r] at mu; exact mu
 have ntup : ∀ c xs, H c = some (.tup xs) -> c ≠ x := fun c xs r z => by subst z; rw [r] at mu; exact mu
 by_cases hb : b = x
 ·subst hb; rw [upd_same] at q; cases q; exact new
 ·rw [upd_ne hb] at q
  by_cases hbe : b = e
  ·have q' : H b = some (.own x) := by
    rcases he with z | z
    ·exact absurd (hbe.trans z) hb
    ·rw [hbe]; exact z
   rw [q] at q'; cases q';obtain ⟨v, hv⟩ := heo;exact ⟨v, by rw [hbe]; exact hv⟩
  ·refine (ok b u q).stay (fun c v hc r => k c v ?_ r) (fun c r => by rw [upd_ne (nown c b r)]; exact r) fun c xs r => by rw [upd_ne (ntup c xs r)]; exact r
   rcases hc with rfl | hc
   ·exact hbe
   ·rintro rfl
    rcases he with z | z
    ·exact nown c b hc z
    ·rw [hc] at z; cases z; exact hb rfl
end
structure Un (fs ex : List Addr) (H H' : Hp) (h h' : Heap) : Prop where
 keep : ∀ b o, h.get? b = some o -> H b = none -> b ∉ fs -> b ∉ ex -> h'.get? b = some o
 slot : ∀ b o, h.get? b = some o -> H b = none -> b ∈ fs -> b ∉ ex -> ∃ sl, h'.get? b = some { o with slots := sl }
 free : ∀ b o, h.get? b = some o -> H b = none -> b ∉ ex -> H' b = none
 there : ∀ b o, h.get? b = some o -> b ∉ ex -> ∃ o', h'.get? b = some o'
 tups : ∀ b xs, H b = some (.tup xs) -> H' b = some (.tup xs)
 frzs : ∀ b o u, H b = some (.frz o u) -> H' b = some (.frz o u)
 tbls : ∀ b ps, H b = some (.tbl ps) -> ∃ more, H' b = some (.tbl (ps ++ more))
section
variable {fs fs' ex ex' : List Addr} {H H1 H2 : Hp} {h h1 h2 h' : Heap} {a x e : Addr} {o : HO}
theorem Un.any (u : Un fs ex H H1 h h1) {b : Addr} {ob : Obj} (q : h.get? b = some ob) (n : H b = none) (hx : b ∉ ex) : ∃ sl, h1.get? b = some { ob with slots := sl } := by
 by_cases hb : b ∈ fs
 ·exact u.slot b ob q n hb hx
 ·exact ⟨ob.slots, u.keep b ob q n hb hx⟩
theorem Un.kept (k : ∀ b u, h.get? b = some u -> h'.get? b = some u) : Un fs ex H H h h' :=
 ⟨fun b ob q _ _ _ => k b ob q, fun b ob q _ _ _ => ⟨ob.slots, k b ob q⟩, fun _ _ _ n _ => n, fun b ob q _ => ⟨ob, k b ob q⟩, fun _ _ q => q, fun _ _ _ q => q, fun _ ps q => ⟨#[], by rw [q]; simp⟩⟩
theorem Un.refl : Un fs ex H H h h := Un.kept fun _ _ q => q
theorem Un.laid (k : ∀ b u, h.get? b = some u -> h'.get? b = some u) (hp : h.objs.size <= a) (hn : H a = none) : Un fs ex H (upd H a o) h h' where
 keep := fun b u q _ _ _ => k b u q
 slot := fun b u q _ _ _ => ⟨u.slots, k b u q⟩
 free := fun b u q n _ => by rw [upd_ne (Nat.ne_of_lt (Nat.lt_of_lt_of_le (Heap.lt_size q) hp))]; exact n
 there := fun b u q _ => ⟨u, k b u q⟩
 tups := fun b xs q => by rw [upd_ne (ne_of_none q hn)]; exact q
 frzs := fun b u xs q => by rw [upd_ne (ne_of_none q hn)]; exact q
 tbls := fun b ps q => ⟨#[], by rw [upd_ne (ne_of_none q hn), q]; simp⟩
theorem Un.write (mu : Mut (H x)) (he : e = x \/ H e = some (.own x)) (k : ∀ b u, b ≠ e -> h.get? b = some u -> h'.get? b = some u) (heo : ∃ u, h'.get? e = some u) : Un fs ex H (upd H x o) h h' := by
 have hx : ∀ b, H b = none -> b ≠ x := fun b n z => by subst z; rw [n] at mu; exact mu
 have hb : ∀ b, H b = none -> b ≠ e := fun b n z => by
  subst z;rcases he with r | r
  ·exact hx b n r
  ·rw [n] at r; cases r
 have hm : ∀ b u, H b = some u -> ¬ Mut (some u) -> b ≠ x := fun b u q nm z => by subst z; rw [q] at mu; exact nm mu
 refine ⟨fun b u q n _ _ => k b u (hb b n) q, fun b u q n _ _ => ⟨u.slots, k b u (hb b n) q⟩, fun b u q n _ => by rw [upd_ne (hx b n)]; exact n, fun b u q _ => ?_,
  fun b xs q => by rw [upd_ne (hm b _ q fun z => z)]; exact q, fun b u xs q => by rw [upd_ne (hm b _ q fun z => z)]; exact q, fun b ps q => ⟨#[], by rw [upd_ne (hm b _ q fun z => z), q]; simp⟩⟩
 by_cases hbe : b = e
 ·subst hbe; exact heo
 ·exact ⟨u, k b u hbe q⟩
end
noncomputable def trk (h : Heap) (H : Hp) : List Addr := (List.range h.objs.size).filter fun a => (H a).isSome
noncomputable def hidT (h : Heap) (H : Hp) : Heap := hideAll h (trk h H)
theorem hidT_size (h : Heap) (H : Hp) : (hidT h H).objs.size = h.objs.size := hideAll_size _ _
theorem hidT_get {h : Heap} {H : Hp} {b : Addr} {o : Obj} (e : h.get? b = some o) (n : H b = none) : (hidT h H).get? b = some o :=
 hideAll_get _ e fun hm => by
  have q : (H b).isSome = true := (List.mem_filter.mp hm).2;rw [n] at q; simp at q
theorem of_hidT {h : Heap} {H : Hp} {b : Addr} {o : Obj} (e : (hidT h H).get? b = some o) : h.get? b = some o /\ H b = none := by
 have e' : h.get? b = some o := of_hideAll (trk h H) e;refine ⟨e', ?_⟩;cases q : H b with
 | none => rfl
 | some x =>
  have hm : b ∈ trk h H := List.mem_filter.mpr ⟨List.mem_range.mpr (Heap.lt_size e'), by simp [q]⟩;have z : (hidT h H).get? b = none := hideAll_none (trk h H) hm;rw [z] at e; cases e
noncomputable def allNews (g h : Heap) (L : Addr) : List (Addr × Obj) := (List.range h.objs.size).filterMap fun a => if a = L \/ (g.get? a).isSome = true then none else (h.get? a).map fun o => (a, o)
noncomputable def rest (g h : Heap) (L d : Addr) : List (Addr × Obj) := (allNews g h L).filter fun p => decide (p.1 ≠ d)
structure Mod (K : PySem.W.Frag) (mg : Str -> Option Value) (base : Heap) : Prop where
 kin : K.In base
 glob : base.Ns mainGlobals mg
 blt : ∃ mb, base.Ns builtinsNs mb /\ ∀ x : Str, x ≠ "__name__" -> mb x = bootBuiltins x
 nolimit : base.NoLimit
structure Cx where
 prog : Program
 w : World
 K : PySem.W.Frag
 mg : Str -> Option Value
 base : Heap
 A : Around
 N : List Str
 s₀ : Shared
 H₀ : Hp
 env : Env
 outer : List Env
 stack : List Env
 ex : List Addr
 fn : Str -> Bool
 calm : Bool
 pn : List (Addr × Obj)
 xe : Value -> Shared -> Prop
noncomputable def frs (l : List Env) : List Addr := l.filterMap (·.frame)
noncomputable abbrev Cx.fs (X : Cx) : List Addr := frs X.outer
noncomputable def Vis (sc : Scope) (x : Str) : Prop := sc.names.lookup x = some .local \/ sc.names.lookup x = some .cell \/ sc.names.lookup x = some .free
noncomputable def Loc (sc : Scope) (x : Str) : Prop := sc.names.lookup x = some .local \/ sc.names.lookup x = some .cell
noncomputable def Look (env : Env) (h : Heap) (m : Str -> Option Value) (x : Str) (u : Value) : Prop :=
 (env.kindOf x = some .local /\ m x = some u) \/ ((env.kindOf x = some .cell \/ env.kindOf x = some .free) /\ ∃ c, env.cells.lookup x = some c /\ h.IsCell c (some u))
structure Cx.Ok (X : Cx) : Prop where
 mod : Mod X.K X.mg X.base
 kind : X.env.scope.kind = .function
 glob : X.env.globals = mainGlobals
 blt : X.env.builtins = builtinsNs
 above : X.s₀.heap.objs.size <= X.env.locals
 inj : ∀ x y c, X.env.cells.lookup x = some c -> X.env.cells.lookup y = some c -> x = y
 has : ∀ x, (X.env.kindOf x = some .cell \/ X.env.kindOf x = some .free) -> ∃ c, X.env.cells.lookup x = some c
 cab : ∀ x c, X.fn x = true -> X.env.cells.lookup x = some c -> X.s₀.heap.objs.size <= c
 hd : X.calm = true -> X.A.handled = none
 frames : X.A.frames = some X.stack
 stk : X.stack = X.outer \/ (X.stack = X.env :: X.outer /\ X.env.frame = some X.env.locals)
 exf : ∀ b ∈ X.ex, b ≠ X.env.locals /\ ∀ x c, X.env.cells.lookup x = some c -> c ≠ b
 bs : ∀ b o, X.base.get? b = some o -> X.s₀.heap.get? b = some o /\ X.H₀ b = none
 bsz : X.base.objs.size <= X.s₀.heap.objs.size
 noex : ∀ b o, X.base.get? b = some o -> b ∉ X.ex
 exfs : ∀ b ∈ X.ex, b ∉ X.fs
 funs : X.s₀.heap.FunFrames X.base X.outer
 frf : ∀ b ∈ X.fs, X.H₀ b = none
structure Inv (X : Cx) (pins : List (Addr × Obj)) (σ : List (Option V)) (H : Hp) (s : Shared) : Prop where
 ok : X.Ok
 os : s.os = X.s₀.os
 bare : AllBare s.gens
 base : Un X.fs X.ex X.H₀ H X.s₀.heap s.heap
 loc : ∃ m, s.heap.Ns X.env.locals m /\ ∀ (i : Nat) (x : Str) (v : V), X.N[i]? = some x -> σ[i]? = some (some v) -> Vis X.env.scope x -> ∃ u, RelV v u /\ Look X.env s.heap m x u
 cell : ∀ x c, X.env.cells.lookup x = some c -> ∃ v, s.heap.IsCell c v
 free : H X.env.locals = none
 freeC : ∀ x c, X.env.cells.lookup x = some c -> H c = none
 pin : ∀ p ∈ X.pn ++ pins, s.heap.get? p.1 = some p.2 /\ H p.1 = none /\ p.1 ≠ X.env.locals /\ p.1 ∉ X.fs /\ ∀ v, p.2.data ≠ .cell v
 hok : HOk X.prog X.w H s.heap
 len : σ.length = X.N.length
section
variable {X : Cx} {pins : List (Addr × Obj)} {σ : List (Option V)} {H H' : Hp} {s : Shared} {h' : Heap}
theorem Cx.Ok.nofr (ok : X.Ok) {b : Addr} {o : Obj} (e : X.base.get? b = some o) : b ∉ X.fs := fun hb => by
 have := (ok.funs.mem hb).1
 rw [e] at this; cases this
theorem Inv.bs (I : Inv X pins σ H s) : ∀ b o, X.base.get? b = some o -> s.heap.get? b = some o /\ H b = none := fun b o e =>
 ⟨I.base.keep b o (I.ok.bs b o e).1 (I.ok.bs b o e).2 (I.ok.nofr e) (I.ok.noex b o e), I.base.free b o (I.ok.bs b o e).1 (I.ok.bs b o e).2 (I.ok.noex b o e)⟩
theorem Inv.bk (I : Inv X pins σ H s) : ∀ b o, X.base.get? b = some o -> s.heap.get? b = some o := fun b o e => (I.bs b o e).1
theorem Inv.mod (I : Inv X pins σ H s) : Mod X.K X.mg X.base := I.ok.mod
theorem Inv.kIn (I : Inv X pins σ H s) : X.K.In s.heap := I.ok.mod.kin.keeps I.bk
theorem Inv.lt (I : Inv X pins σ H s) : X.env.locals < s.heap.objs.size := let ⟨_, hn, _⟩ := I.loc; hn.lt
theorem Inv.sz (I : Inv X pins σ H s) : X.s₀.heap.objs.size <= s.heap.objs.size := Nat.le_trans I.ok.above (Nat.le_of_lt I.lt)
theorem Inv.nofs (I : Inv X pins σ H s) {a : Addr} (h : s.heap.objs.size <= a) : a ∉ X.fs := fun hb => by
 obtain ⟨_, o, ho, _⟩ := I.ok.funs.mem hb;exact absurd (Nat.lt_of_lt_of_le (Heap.lt_size ho) (Nat.le_trans I.sz h)) (Nat.lt_irrefl _)
theorem Inv.cne (I : Inv X pins σ H s) : ∀ x c, X.env.cells.lookup x = some c -> c ≠ X.env.locals := fun x c e z => by
 obtain ⟨v, o, ho, hd⟩ := I.cell x c e;obtain ⟨m, ⟨o', es, ep, ho', hd', _⟩, _⟩ := I.loc;rw [z, ho'] at ho; cases ho; rw [hd'] at hd; cases hd
theorem Inv.funs (I : Inv X pins σ H s) : s.heap.FunFrames X.base X.outer := by
 have all : ∀ (l : List Env), (∀ b ∈ frs l, b ∈ X.fs) -> X.s₀.heap.FunFrames X.base l -> s.heap.FunFrames X.base l := by
  intro l
  induction l with
  | nil => intro _ _; trivial
  | cons env r ih =>
   intro hs hl;obtain ⟨hk, ⟨L, o, hf, hn, ho, hd⟩, hr⟩ := hl;have hL : L ∈ X.fs := hs L (by unfold frs; rw [List.filterMap_cons, hf]; exact List.mem_cons_self);obtain ⟨sl, e⟩ := I.base.slot L o ho (I.ok.frf L hL) hL fun z => I.ok.exfs L z hL
   exact ⟨hk, ⟨L, _, hf, hn, e, hd⟩, ih (fun b hb => hs b (by unfold frs; rw [List.filterMap_cons, hf]; exact List.mem_cons_of_mem _ hb)) hr⟩
 exact all X.outer (fun _ hb => hb) I.ok.funs
theorem Inv.stack (I : Inv X pins σ H s) : s.heap.FunFrames X.base X.stack := by
 rcases I.ok.stk with e | ⟨e, hf⟩
 ·rw [e]; exact I.funs
 ·rw [e]
  obtain ⟨m, hn, _⟩ := I.loc;refine .cons (by rw [I.ok.kind]; decide) hf hn ?_ I.funs;exact Heap.get?_none_of_le (Nat.le_trans I.ok.bsz I.ok.above)
theorem Inv.stkSub (I : Inv X pins σ H s) : ∀ b ∈ frs X.stack, b ∈ X.env.locals :: X.fs := fun b hb => by
 rcases I.ok.stk with e | ⟨e, hf⟩
 ·rw [e] at hb; exact List.mem_cons_of_mem _ hb
 ·rw [e] at hb
  unfold frs at hb;rw [List.filterMap_cons, hf] at hb;exact hb
theorem Inv.stkFree (I : Inv X pins σ H s) : ∀ b ∈ frs X.stack, H b = none := fun b hb => by
 rcases List.mem_cons.mp (I.stkSub b hb) with e | hb
 ·rw [e]; exact I.free
 ·obtain ⟨_, o, ho, _⟩ := I.ok.funs.mem hb
  exact I.base.free b o ho (I.ok.frf b hb) fun z => I.ok.exfs b z hb
theorem Inv.step {g' : Array GenState} {t' : Nat} {d' : Drawn} {ch : List Addr} (I : Inv X pins σ H s)
  (hch : ∀ b ∈ ch, (b ∈ X.ex \/ X.s₀.heap.objs.size <= b) /\ b ≠ X.env.locals /\ (∀ x c, X.env.cells.lookup x = some c -> c ≠ b) /\ ∀ p ∈ X.pn ++ pins, p.1 ≠ b)
  (keep : ∀ b o, b ≠ X.env.locals -> b ∉ X.fs -> b ∉ ch -> s.heap.get? b = some o -> H b = none -> h'.get? b = some o)
  (slot : ∀ b o, b ≠ X.env.locals -> b ∈ X.fs -> b ∉ ch -> s.heap.get? b = some o -> H b = none -> ∃ sl, h'.get? b = some { o with slots := sl }) (free : ∀ b o, b ∉ ch -> s.heap.get? b = some o -> H b = none -> H' b = none)
  (there : ∀ b o, b ∉ ch -> s.heap.get? b = some o -> ∃ o', h'.get? b = some o')
  (tups : ∀ b xs, H b = some (.tup xs) -> H' b = some (.tup xs)) (frzs : ∀ b o u, H b = some (.frz o u) -> H' b = some (.frz o u)) (tbls : ∀ b ps, H b = some (.tbl ps) -> ∃ more, H' b = some (.tbl (ps ++ more)))
  (ns : ∀ m, s.heap.Ns X.env.locals m -> h'.Ns X.env.locals m) (hok : HOk X.prog X.w H' h') (hg : AllBare g') :
  Inv X pins σ H' { s with heap := h', gens := g', drawn := d', toks := t' } := by
 have neL : ∀ b o, X.s₀.heap.get? b = some o -> b ≠ X.env.locals := fun b o e => Nat.ne_of_lt (Nat.lt_of_lt_of_le (Heap.lt_size e) I.ok.above)
 have neC : ∀ b o, X.s₀.heap.get? b = some o -> b ∉ X.ex -> b ∉ ch := fun b o e hx hb => by
  rcases (hch b hb).1 with z | z
  ·exact hx z
  ·exact absurd (Nat.lt_of_lt_of_le (Heap.lt_size e) z) (Nat.lt_irrefl _)
 have cellK : ∀ x c, X.env.cells.lookup x = some c -> ∀ v, s.heap.IsCell c v -> h'.IsCell c v := fun x c e v hq0 => by
  obtain ⟨o, ho, hd⟩ := hq0;have nch : c ∉ ch := fun z => (hch c z).2.2.1 x c e rfl
  by_cases hc : c ∈ X.fs
  ·obtain ⟨sl, q⟩ := slot c o (I.cne x c e) hc nch ho (I.freeC x c e)
   exact ⟨_, q, hd⟩
  ·exact ⟨o, keep c o (I.cne x c e) hc nch ho (I.freeC x c e), hd⟩
 refine ⟨I.ok, I.os, hg, ⟨fun b o e n hb hx => ?_, fun b o e n hb hx => ?_, fun b o e n hx => ?_, fun b o e hx => ?_, fun b xs e => tups b xs (I.base.tups b xs e), fun b o xs e => frzs b o xs (I.base.frzs b o xs e), fun b ps e => ?_⟩, ?_, fun x c e => ?_, ?_, fun x c e => ?_, fun p hp => ?_, hok, I.len⟩
 ·exact keep b o (neL b o e) hb (neC b o e hx) (I.base.keep b o e n hb hx) (I.base.free b o e n hx)
 ·obtain ⟨sl, e1⟩ := I.base.slot b o e n hb hx
  obtain ⟨sl', e2⟩ := slot b _ (neL b o e) hb (neC b o e hx) e1 (I.base.free b o e n hx);exact ⟨sl', e2⟩
 ·obtain ⟨o', e1⟩ := I.base.there b o e hx
  exact free b o' (neC b o e hx) e1 (I.base.free b o e n hx)
 ·obtain ⟨o', e1⟩ := I.base.there b o e hx
  exact there b o' (neC b o e hx) e1
 ·obtain ⟨m1, e1⟩ := I.base.tbls b ps e
  obtain ⟨m2, e2⟩ := tbls b _ e1;exact ⟨m1 ++ m2, by rw [e2, Array.append_assoc]⟩
 ·obtain ⟨m, hn, hl⟩ := I.loc
  refine ⟨m, ns m hn, fun i x v e1 e2 e3 => ?_⟩;obtain ⟨u, r, l⟩ := hl i x v e1 e2 e3;refine ⟨u, r, ?_⟩;rcases l with l | ⟨k, c, e, z⟩
  ·exact .inl l
  ·exact .inr ⟨k, c, e, cellK x c e _ z⟩
 ·obtain ⟨v, z⟩ := I.cell x c e
  exact ⟨v, cellK x c e v z⟩
 ·obtain ⟨m, ⟨o, _, _, ho, _⟩, _⟩ := I.loc
  exact free _ o (fun z => (hch _ z).2.1 rfl) ho I.free
 ·obtain ⟨v, o, ho, hd⟩ := I.cell x c e
  exact free c o (fun z => (hch c z).2.2.1 x c e rfl) ho (I.freeC x c e)
 ·obtain ⟨e, n, ne, nf, d⟩ := I.pin p hp
  have nch : p.1 ∉ ch := fun z => (hch p.1 z).2.2.2 p hp rfl
  exact ⟨keep p.1 p.2 ne nf nch e n, free p.1 p.2 nch e n, ne, nf, d⟩
theorem Inv.un {t' : Nat} (I : Inv X pins σ H s) (u : Un X.fs [] H H' s.heap h') (hok : HOk X.prog X.w H' h') : Inv X pins σ H' { s with heap := h', toks := t' } := by
 obtain ⟨m, ⟨o, es, ep, ho, r⟩, _⟩ := id I.loc;obtain ⟨sl, hL⟩ := u.any ho I.free (by simp);exact I.step (g' := s.gens) (d' := s.drawn) (ch := []) (fun _ z => nomatch z) (fun b o _ hb _ e n => u.keep b o e n hb (by simp)) (fun b o _ hb _ e n => u.slot b o e n hb (by simp)) (fun b o _ e n => u.free b o e n (by simp)) (fun b o _ e => u.there b o e (by simp)) u.tups u.frzs u.tbls (fun m' hm => by
  obtain ⟨o', es', ep', ho', r'⟩ := hm;rw [ho] at ho'; cases ho';exact ⟨_, es', ep', hL, r'⟩) hok I.bare
theorem Inv.call {g' : Array GenState} {t' : Nat} {d' : Drawn} {ch : List Addr} (I : Inv X pins σ H s) (u : Un (frs X.stack) ch H H' s.heap h') (hok : HOk X.prog X.w H' h') (hg : AllBare g')
  (hch : ∀ b ∈ ch, (b ∈ X.ex \/ X.s₀.heap.objs.size <= b) /\ b ≠ X.env.locals /\ (∀ x c, X.env.cells.lookup x = some c -> c ≠ b) /\ ∀ p ∈ X.pn ++ pins, p.1 ≠ b) :
  Inv X pins σ H' { s with heap := h', gens := g', drawn := d', toks := t' } := by
 obtain ⟨m, ⟨o, es, ep, ho, r⟩, _⟩ := id I.loc;obtain ⟨sl, hL⟩ := u.any ho I.free fun z => (hch _ z).2.1 rfl
 exact I.step (ch := ch) hch (fun b o hL hb hc e n => u.keep b o e n (fun z => (List.mem_cons.mp (I.stkSub b z)).elim hL hb) hc) (fun b o _ _ hc e n => u.any e n hc) (fun b o hc e n => u.free b o e n hc) (fun b o hc e => u.there b o e hc) u.tups u.frzs u.tbls (fun m' hm => by
  obtain ⟨o', es', ep', ho', r'⟩ := hm;rw [ho] at ho'; cases ho';exact ⟨_, es', ep', hL, r'⟩) hok hg
theorem Inv.turned {t' : Nat} {it : Addr} (I : Inv X pins σ H s) (k : ∀ b o, b ≠ it -> s.heap.get? b = some o -> h'.get? b = some o) (hn : H it = none) (hL : it ≠ X.env.locals)
  (h1 : it ∈ X.ex \/ X.s₀.heap.objs.size <= it) (h2 : ∀ x c, X.env.cells.lookup x = some c -> c ≠ it) (h3 : ∀ p ∈ X.pn ++ pins, p.1 ≠ it) : Inv X pins σ H { s with heap := h', toks := t' } := by
 have nit : ∀ b u, H b = some u -> b ≠ it := fun b u e z => by rw [z, hn] at e; cases e
 refine I.step (g' := s.gens) (d' := s.drawn) (ch := [it]) (fun b hb => ?_) (fun b o _ _ hc e _ => k b o (fun z => hc (by simp [z])) e) (fun b o _ _ hc e _ => ⟨o.slots, k b o (fun z => hc (by simp [z])) e⟩) (fun _ _ _ _ n => n)
  (fun b o hc e => ⟨o, k b o (fun z => hc (by simp [z])) e⟩) (fun _ _ e => e) (fun _ _ _ e => e) (fun b ps e => ⟨#[], by rw [e]; simp⟩) (fun m hm => ?_) (fun b u e => ?_) I.bare
 ·have e : b = it := by simpa using hb
  subst e;exact ⟨h1, hL, h2, h3⟩
 ·obtain ⟨o, es, ep, ho, r⟩ := hm
  exact ⟨o, es, ep, k _ o (Ne.symm hL) ho, r⟩
 ·refine (I.hok b u e).stay (fun c v hc q => k c v ?_ q) (fun _ q => q) fun _ _ q => q
  rcases hc with z | z
  ·rw [z]; exact nit b u e
  ·exact nit c _ z
theorem Inv.tok (I : Inv X pins σ H s) (t : Nat) : Inv X pins σ H { s with toks := t } := I.un (h' := s.heap) (t' := t) Un.refl I.hok
theorem Inv.kept {t' : Nat} (I : Inv X pins σ H s) (k : ∀ b u, s.heap.get? b = some u -> h'.get? b = some u) : Inv X pins σ H { s with heap := h', toks := t' } := I.un (Un.kept k) (I.hok.kept k)
theorem Inv.laid {a : Addr} {o : HO} {t' : Nat} (I : Inv X pins σ H s) (k : ∀ b u, s.heap.get? b = some u -> h'.get? b = some u) (hp : s.heap.objs.size <= a) (new : ObjOk X.prog X.w (upd H a o) h' a o) :
  Inv X pins σ (upd H a o) { s with heap := h', toks := t' } := I.un (Un.laid k hp (I.hok.fresh hp)) (I.hok.laid k hp new)
theorem Inv.write {x e : Addr} {o : HO} {t' : Nat} (I : Inv X pins σ H s) (mu : Mut (H x)) (he : e = x \/ H e = some (.own x)) (k : ∀ b u, b ≠ e -> s.heap.get? b = some u -> h'.get? b = some u) (heo : ∃ u, h'.get? e = some u)
  (new : ObjOk X.prog X.w (upd H x o) h' x o) : Inv X pins σ (upd H x o) { s with heap := h', toks := t' } := I.un (Un.write mu he k heo) (I.hok.write mu he k heo new)
theorem Inv.pins_of {pins' : List (Addr × Obj)} (I : Inv X pins σ H s) (h : ∀ p ∈ pins', s.heap.get? p.1 = some p.2 /\ H p.1 = none /\ p.1 ≠ X.env.locals /\ p.1 ∉ X.fs /\ ∀ v, p.2.data ≠ .cell v) : Inv X pins' σ H s :=
 ⟨I.ok, I.os, I.bare, I.base, I.loc, I.cell, I.free, I.freeC, fun p hp => (List.mem_append.mp hp).elim (fun z => I.pin p (List.mem_append_left _ z)) (h p), I.hok, I.len⟩
theorem nodup_ix {N : List Str} (hN : N.Nodup) {i j : Nat} {x : Str} (a : N[i]? = some x) (b : N[j]? = some x) : i = j := by
 obtain ⟨h1, e1⟩ := List.getElem?_eq_some_iff.mp a;obtain ⟨h2, e2⟩ := List.getElem?_eq_some_iff.mp b;exact (List.getElem_inj hN).mp (e1.trans e2.symm)
theorem store_ok2 {M : Model} {A : Around} {E : Value -> Shared -> Prop} {i : Nat} {x : Str} {v : V} {u : Value} {Q : Unit -> Shared -> Prop} (I : Inv X pins σ H s) (hN : X.N.Nodup) (hi : X.N[i]? = some x) (hx : Loc X.env.scope x) (r : RelV v u)
  (h : ∀ s', Inv X pins (σ.set i (some v)) H s' -> (∃ a, Heap.SameBut a s.heap s'.heap /\ (a = X.env.locals \/ X.env.cells.lookup x = some a)) -> Q () s') (hf : autoParam (X.fn x = true \/ X.env.scope.names.lookup x = some .local) Ax0._auto_1) : wpAny M A (storeName X.env x u) Q E s := by
 obtain ⟨m, hn, hl⟩ := id I.loc;have hcls : (X.env.scope.kind == .class || (X.env.scope.kind == .module && X.env.locals != X.env.globals)) = false := by rw [I.ok.kind]; rfl
 have hiσ : i < σ.length := by rw [I.len]; exact (List.getElem?_eq_some_iff.mp hi).1
 have cne := I.cne;have tracked : ∀ {a : Addr} {h' : Heap}, (∃ o, s.heap.get? a = some o /\ H a = none) -> Heap.SameBut a s.heap h' -> HOk X.prog X.w H h' := fun {a h'} ha hs b ob e => by
  obtain ⟨_, _, hfree⟩ := ha;refine (I.hok b ob e).stay (fun c w' hc q => (hs.2 c ?_).trans q) (fun _ q => q) fun _ _ q => q
  rintro rfl;rcases hc with rfl | hc
  ·rw [hfree] at e; cases e
  ·rw [hfree] at hc; cases hc
 rcases hx with hk | hk
 ·refine wpAny_storeName_local hk hn (fun h' hn' hs => ?_) hcls
  obtain ⟨oL, _, _, hoL, _⟩ := id hn;refine h _ ⟨I.ok, I.os, I.bare, ⟨fun b o e n hb hx => ?_, fun b o e n hb hx => ?_, I.base.free, fun b o e hx => ?_, I.base.tups, I.base.frzs, I.base.tbls⟩, ⟨_, hn', fun j y v' e1 e2 e3 => ?_⟩, fun y c e => ?_, I.free, I.freeC, fun p hp => ?_, tracked ⟨oL, hoL, I.free⟩ hs, by simpa using I.len⟩ ⟨_, hs, .inl rfl⟩
  ·exact (hs.2 b (Nat.ne_of_lt (Nat.lt_of_lt_of_le (Heap.lt_size e) I.ok.above))).trans (I.base.keep b o e n hb hx)
  ·obtain ⟨sl, e1⟩ := I.base.slot b o e n hb hx
   exact ⟨sl, (hs.2 b (Nat.ne_of_lt (Nat.lt_of_lt_of_le (Heap.lt_size e) I.ok.above))).trans e1⟩
  ·obtain ⟨o', e1⟩ := I.base.there b o e hx
   exact ⟨o', (hs.2 b (Nat.ne_of_lt (Nat.lt_of_lt_of_le (Heap.lt_size e) I.ok.above))).trans e1⟩
  ·by_cases hj : j = i
   ·subst hj
    rw [hi] at e1; cases e1;rw [List.getElem?_set_self hiσ] at e2;cases e2;exact ⟨u, r, .inl ⟨hk, by simp⟩⟩
   ·rw [List.getElem?_set_ne (Ne.symm hj)] at e2
    obtain ⟨u', r', q⟩ := hl j y v' e1 e2 e3;refine ⟨u', r', ?_⟩;rcases q with ⟨k, e⟩ | ⟨k, c, e, z⟩
    ·refine .inl ⟨k, ?_⟩
     have : y ≠ x := fun e => hj (nodup_ix hN e1 (e ▸ hi))
     simp [this, e]
    ·exact .inr ⟨k, c, e, z.sameBut hs (cne y c e)⟩
  ·obtain ⟨w', z⟩ := I.cell y c e
   exact ⟨w', z.sameBut hs (cne y c e)⟩
  ·obtain ⟨e, n, ne, nf, d⟩ := I.pin p hp
   exact ⟨(hs.2 p.1 ne).trans e, n, ne, nf, d⟩
 ·have hfn : X.fn x = true := by
   rcases hf with z | z
   ·exact z
   ·rw [z] at hk; cases hk
  obtain ⟨c, hc⟩ := I.ok.has x (.inl hk);obtain ⟨w', z⟩ := I.cell x c hc;refine wpAny_storeName_cell I.ok.kind hk hc z (fun h' hc' hs => ?_);obtain ⟨oc, hoc, hocd⟩ := id z;refine h { s with heap := h' } ⟨I.ok, I.os, I.bare, ⟨fun b o e n hb hx => ?_, fun b o e n hb hx => ?_, I.base.free, fun b o e hx => ?_, I.base.tups, I.base.frzs, I.base.tbls⟩, ⟨m, hn.sameBut hs (Ne.symm (cne x c hc)), fun j y v' e1 e2 e3 => ?_⟩, fun y c' e => ?_, I.free, I.freeC, fun p hp => ?_, tracked ⟨oc, hoc, I.freeC x c hc⟩ hs, by simpa using I.len⟩ ⟨c, hs, .inr hc⟩
  ·exact (hs.2 b (Nat.ne_of_lt (Nat.lt_of_lt_of_le (Heap.lt_size e) (I.ok.cab x c hfn hc)))).trans (I.base.keep b o e n hb hx)
  ·obtain ⟨sl, e1⟩ := I.base.slot b o e n hb hx
   exact ⟨sl, (hs.2 b (Nat.ne_of_lt (Nat.lt_of_lt_of_le (Heap.lt_size e) (I.ok.cab x c hfn hc)))).trans e1⟩
  ·obtain ⟨o', e1⟩ := I.base.there b o e hx
   exact ⟨o', (hs.2 b (Nat.ne_of_lt (Nat.lt_of_lt_of_le (Heap.lt_size e) (I.ok.cab x c hfn hc)))).trans e1⟩
  ·by_cases hj : j = i
   ·subst hj
    rw [hi] at e1; cases e1;rw [List.getElem?_set_self hiσ] at e2;cases e2;exact ⟨u, r, .inr ⟨.inl hk, c, hc, hc'⟩⟩
   ·rw [List.getElem?_set_ne (Ne.symm hj)] at e2
    obtain ⟨u', r', q⟩ := hl j y v' e1 e2 e3;refine ⟨u', r', ?_⟩;rcases q with q | ⟨k, c', e, z'⟩
    ·exact .inl q
    ·refine .inr ⟨k, c', e, z'.sameBut hs ?_⟩
     rintro rfl;exact hj (nodup_ix hN e1 (I.ok.inj _ _ _ e hc ▸ hi))
  ·by_cases hcc : c' = c
   ·subst hcc; exact ⟨_, hc'⟩
   ·obtain ⟨w2, z2⟩ := I.cell y c' e
    exact ⟨w2, z2.sameBut hs hcc⟩
  ·obtain ⟨e, n, ne, nf, d⟩ := I.pin p hp
   refine ⟨(hs.2 p.1 ?_).trans e, n, ne, nf, d⟩;intro q;rw [q, hoc] at e;have q' : oc = p.2 := Option.some.inj e;exact d w' (by rw [<- q']; exact hocd)
theorem store_ok {M : Model} {A : Around} {E : Value -> Shared -> Prop} {i : Nat} {x : Str} {v : V} {u : Value} {Q : Unit -> Shared -> Prop} (I : Inv X pins σ H s) (hN : X.N.Nodup) (hi : X.N[i]? = some x) (hx : Loc X.env.scope x) (r : RelV v u)
  (h : ∀ s', Inv X pins (σ.set i (some v)) H s' -> Q () s') (hf : autoParam (X.fn x = true \/ X.env.scope.names.lookup x = some .local) Ax0._auto_1) : wpAny M A (storeName X.env x u) Q E s :=
 store_ok2 I hN hi hx r (fun s' I' _ => h s' I') hf
theorem Inv.call' {s' : Shared} {ch : List Addr} (I : Inv X pins σ H s) (ho : s'.os = s.os) (u : Un (frs X.stack) ch H H' s.heap s'.heap) (hok : HOk X.prog X.w H' s'.heap) (hg : AllBare s'.gens)
  (hch : ∀ b ∈ ch, (b ∈ X.ex \/ X.s₀.heap.objs.size <= b) /\ b ≠ X.env.locals /\ (∀ x c, X.env.cells.lookup x = some c -> c ≠ b) /\ ∀ p ∈ X.pn ++ pins, p.1 ≠ b) : Inv X pins σ H' s' := by
 obtain ⟨h', g', d', t', o'⟩ := s';have e : o' = s.os := ho;subst e;exact I.call (g' := g') (t' := t') (d' := d') u hok hg hch
end
noncomputable abbrev XK := Value -> Option Addr -> Hp -> Prop
noncomputable abbrev St := List (Option V)
noncomputable abbrev VK := V -> Hp -> Prop
noncomputable abbrev TE := St -> Hp -> VK -> Prop
noncomputable abbrev TT := St -> Hp -> (Bool -> Hp -> Prop) -> Prop
noncomputable abbrev TA := St -> Hp -> (List V -> Hp -> Prop) -> Prop
structure Ends where
 nx : St -> Hp -> Prop
 rt : VK
 bk : St -> Hp -> Prop := fun _ _ => False
 ct : St -> Hp -> Prop := fun _ _ => False
noncomputable abbrev TS := Ends -> St -> Hp -> Prop
noncomputable def EP (X : Cx) (pins : List (Addr × Obj)) (σ : St) (Q : VK) (u : Value) (s' : Shared) : Prop := ∃ v H', Inv X pins σ H' s' /\ RelV v u /\ Q v H'
noncomputable def TP (X : Cx) (pins : List (Addr × Obj)) (σ : St) (Q : Bool -> Hp -> Prop) (b : Bool) (s' : Shared) : Prop := ∃ H', Inv X pins σ H' s' /\ Q b H'
noncomputable def AP (X : Cx) (pins : List (Addr × Obj)) (σ : St) (Q : List V -> Hp -> Prop) (us : List Value) (s' : Shared) : Prop := ∃ vs H', Inv X pins σ H' s' /\ Vals vs us /\ Q vs H'
noncomputable def SP (X : Cx) (pins : List (Addr × Obj)) (D : Ends) (f : Flow) (s' : Shared) : Prop :=
 match f with
 | .next => ∃ σ' H', Inv X pins σ' H' s' /\ D.nx σ' H'
 | .brk => ∃ σ' H', Inv X pins σ' H' s' /\ D.bk σ' H'
 | .cont => ∃ σ' H', Inv X pins σ' H' s' /\ D.ct σ' H'
 | .ret u => ∃ v σ' H', Inv X pins σ' H' s' /\ RelV v u /\ D.rt v H'
noncomputable def PE (X : Cx) (e : Expr) (t : TE) : Prop :=
 ∀ (pins : List (Addr × Obj)) (s : Shared) (σ : St) (H : Hp) (Q : VK), Inv X pins σ H s -> t σ H Q -> wpAny (model X.prog X.w) X.A (eval e X.env) (EP X pins σ Q) X.xe s
noncomputable def PT (X : Cx) (e : Expr) (t : TT) : Prop :=
 ∀ (pins : List (Addr × Obj)) (s : Shared) (σ : St) (H : Hp) (Q : Bool -> Hp -> Prop), Inv X pins σ H s -> t σ H Q -> wpAny (model X.prog X.w) X.A (isTrue e X.env (eval e X.env)) (TP X pins σ Q) X.xe s
noncomputable def PW (X : Cx) (e : Expr) (t : TT) : Prop :=
 ∀ (whole : Sem Value) (pins : List (Addr × Obj)) (s : Shared) (σ : St) (H : Hp) (Q : Bool -> Hp -> Prop), Inv X pins σ H s -> t σ H Q -> wpAny (model X.prog X.w) X.A (isTrue e X.env whole) (TP X pins σ Q) X.xe s
theorem PW.pt {X : Cx} {e : Expr} {t : TT} (h : PW X e t) : PT X e t := h _
noncomputable def PA (X : Cx) (es : List Expr) (t : TA) : Prop :=
 ∀ (pos : Pos) (pins : List (Addr × Obj)) (s : Shared) (σ : St) (H : Hp) (Q : List V -> Hp -> Prop), Inv X pins σ H s -> t σ H Q -> wpAny (model X.prog X.w) X.A (spliced (backTo pos (starEach es X.env))) (AP X pins σ Q) X.xe s
noncomputable def PS (X : Cx) (st : Stmt) (t : TS) : Prop :=
 ∀ (pins : List (Addr × Obj)) (s : Shared) (σ : St) (H : Hp) (D : Ends), Inv X pins σ H s -> t D σ H -> wpAny (model X.prog X.w) X.A (exec st X.env) (SP X pins D) X.xe s
noncomputable def PSs (X : Cx) (st : List Stmt) (t : TS) : Prop :=
 ∀ (pins : List (Addr × Obj)) (s : Shared) (σ : St) (H : Hp) (D : Ends), Inv X pins σ H s -> t D σ H -> wpAny (model X.prog X.w) X.A (execs st X.env) (SP X pins D) X.xe s
theorem thn {α : Type} {t : Sem α} {Q Q' : α -> Shared -> Prop} {M : Model} {A : Around} {E : Value -> Shared -> Prop} {s : Shared} (h : wpAny M A t Q E s) (hQ : ∀ a s, Q a s -> Q' a s) : wpAny M A t Q' E s := wpAny_mono h hQ fun _ _ x => x
section
variable {X : Cx}
theorem bin {a b : Expr} {ta tb : TE} (ha : PE X a ta) (hb : PE X b tb) {pins : List (Addr × Obj)} {s : Shared} {σ : St} {H : Hp} {R : V -> V -> Hp -> Prop} (I : Inv X pins σ H s) (h : ta σ H fun x H1 => tb σ H1 fun y H2 => R x y H2)
  {α : Type} {Q : α -> Shared -> Prop} {f : Value -> Value -> Sem α}
  (hf : ∀ v u s2 x y H2, Inv X pins σ H2 s2 -> RelV x v -> RelV y u -> R x y H2 -> wpAny (model X.prog X.w) X.A (f v u) Q X.xe s2) :
  wpAny (model X.prog X.w) X.A (eval a X.env) (fun v s₁ => wpAny (model X.prog X.w) X.A (eval b X.env) (fun u s₂ => wpAny (model X.prog X.w) X.A (f v u) Q X.xe s₂) X.xe s₁) X.xe s := by
 refine thn (ha pins s σ H _ I h) fun v s1 ⟨x, H1, I1, r1, q1⟩ => ?_
 refine thn (hb pins s1 σ H1 _ I1 q1) fun u s2 ⟨y, H2, I2, r2, q2⟩ => ?_
 exact hf v u s2 x y H2 I2 r1 r2 q2
noncomputable def tVar (i : Nat) : TE := fun σ H Q => ∃ v, σ[i]? = some (some v) /\ Q v H
noncomputable def tC (v : V) : TE := fun _ H Q => Q v H
theorem pe_var {i : Nat} {x : Str} {pos : Pos} (hN : X.N[i]? = some x) (hv : Vis X.env.scope x) (hd : autoParam ((x == ("__debug__" : Str)) = false) Ax1._auto_1) (hcd : autoParam ((x == ("__classdict__" : Str)) = false) Ax1._auto_1) : PE X (.Name x pos) (tVar i) := by
 intro pins s σ H Q I h;obtain ⟨v, e, h⟩ := h;obtain ⟨m, hn, hl⟩ := I.loc;obtain ⟨u, r, l⟩ := hl i x v hN e hv;have fin : EP X pins σ Q u s := ⟨v, H, I, r, h⟩;rcases l with ⟨hk, hm⟩ | ⟨hk, c, hc, hcell⟩
 ·exact wpAny_Name (wpAny_loadName_local I.ok.kind hk hn hm fin) hd
 ·rcases hk with hk | hk
  ·exact wpAny_Name (wpAny_loadName_cell I.ok.kind hk hc hcell fin) hd
  ·exact wpAny_Name (wpAny_loadName_free I.ok.kind hk hc hcell fin hcd) hd
theorem pe_int {i j pos} : PE X (.Constant (.int i) j pos) (tC (.int i)) := fun _ _ _ H _ I h => wpAny_Constant_int ⟨.int i, H, I.tok _, ⟨_, rfl⟩, h⟩
theorem pe_bl {b j pos} : PE X (.Constant (.bool b) j pos) (tC (.bl b)) := fun _ _ _ H _ I h => Constant_bool ⟨.bl b, H, I, rfl, h⟩
theorem pe_str {x j pos} : PE X (.Constant (.str x) j pos) (tC (.str x)) := fun _ _ _ H _ I h => Calls.Constant_str ⟨.str x, H, I.tok _, ⟨_, rfl⟩, h⟩
noncomputable def Gl (X : Cx) (x : Str) : Prop := X.env.kindOf x = some .globalImplicit
theorem ld_glob {E : Value -> Shared -> Prop} {pins : List (Addr × Obj)} {s : Shared} {σ : St} {H : Hp} {x : Str} {u : Value} {pos : Pos} {Q : Value -> Shared -> Prop} (I : Inv X pins σ H s) (hg : Gl X x) (hm : X.mg x = some u) (h : Q u s)
  (hd : autoParam ((x == ("__debug__" : Str)) = false) Ax1._auto_1) : wpAny (model X.prog X.w) X.A (eval (.Name x pos) X.env) Q E s :=
 Calls.Name_function_global I.ok.kind hg (Calls.loadGlobal_global (by rw [I.ok.glob]; exact I.mod.glob.keeps I.bk) hm h) hd
theorem ld_blt {E : Value -> Shared -> Prop} {pins : List (Addr × Obj)} {s : Shared} {σ : St} {H : Hp} {x : Str} {u : Value} {pos : Pos} {Q : Value -> Shared -> Prop} (I : Inv X pins σ H s) (hg : Gl X x) (hm : X.mg x = none) (hv : bootBuiltins x = some u) (h : Q u s)
  (hn : autoParam (x ≠ "__name__") Ax1._auto_1) (hd : autoParam ((x == ("__debug__" : Str)) = false) Ax1._auto_1) : wpAny (model X.prog X.w) X.A (eval (.Name x pos) X.env) Q E s := by
 obtain ⟨mb, h1, h2⟩ := I.mod.blt;exact Calls.Name_function_global I.ok.kind hg (Calls.loadGlobal_builtin (by rw [I.ok.glob]; exact I.mod.glob.keeps I.bk) hm (by rw [I.ok.blt]; exact h1.keeps I.bk) ((h2 x hn).trans hv) h) hd
theorem pe_glob {x : Str} {v : V} {u : Value} {pos : Pos} (hg : Gl X x) (hm : X.mg x = some u) (r : RelV v u) (hd : autoParam ((x == ("__debug__" : Str)) = false) Ax1._auto_1) : PE X (.Name x pos) (tC v) :=
 fun _ _ _ H _ I h => ld_glob I hg hm ⟨v, H, I, r, h⟩ hd
theorem pe_bltn {x : Str} {v : V} {u : Value} {pos : Pos} (hg : Gl X x) (hm : X.mg x = none) (hv : bootBuiltins x = some u) (r : RelV v u) (hn : autoParam (x ≠ "__name__") Ax1._auto_1) (hd : autoParam ((x == ("__debug__" : Str)) = false) Ax1._auto_1) : PE X (.Name x pos) (tC v) :=
 fun _ _ _ H _ I h => ld_blt I hg hm hv ⟨v, H, I, r, h⟩ hn hd
variable {a b : Expr} {ta tb : TE} {pos : Pos}
noncomputable def PC (X : Cx) (op : CmpOp) (a b : Expr) (t : TE) : Prop :=
 ∀ (pins : List (Addr × Obj)) (s : Shared) (σ : St) (H : Hp) (Q : VK), Inv X pins σ H s -> t σ H Q ->
  wpAny (model X.prog X.w) X.A (eval a X.env) (fun v s₁ => wpAny (model X.prog X.w) X.A (eval b X.env) (fun u s₂ => wpAny (model X.prog X.w) X.A (compareOp op v u) (EP X pins σ Q) X.xe s₂) X.xe s₁) X.xe s
theorem nobehind (b : Expr) {op : CmpOp} (h : op ≠ .In) (h2 : op ≠ .NotIn) : behindInMarks op b = false := by
 have e1 : (op == CmpOp.In) = false := by cases op <;> first | rfl | exact absurd rfl h
 have e2 : (op == CmpOp.NotIn) = false := by cases op <;> first | rfl | exact absurd rfl h2
 cases b <;> simp [behindInMarks, e1, e2]
noncomputable def tB (t : TE) : TT := fun σ H Q => t σ H fun x H1 => ∃ c, x = .bl c /\ Q c H1
theorem pt_cmp {op : CmpOp} {t : TE} (h : PC X op a b t) (h1 : autoParam (behindInMarks op b = false) Ax2._auto_1) : PT X (.Compare a [op] [b] pos) (tB t) := by
 intro pins s σ H Q I hw;refine wpAny_isTrue_Compare1 (thn (h pins s σ H _ I hw) fun v s1 h1 => thn h1 fun u s2 h2 => thn h2 fun c s3 ⟨x, H1, I1, r1, q1⟩ => ?_) h1;obtain ⟨d, rfl, q⟩ := q1;cases r1;exact wpAny_truthy_bool ⟨H1, I1, q⟩
theorem pt_val {e : Expr} {t : TE} (h : PE X e t) (he : autoParam (∀ whole, isTrue e X.env whole = (do let v <- whole; standAt e.pos; holding [v] (truthy v))) Ax3._auto_1) : PT X e (tB t) := by
 intro pins s σ H Q I hw;refine isTrue_plain (thn (h pins s σ H _ I hw) fun v s1 ⟨x, H1, I1, r1, q1⟩ => ?_) (he _);obtain ⟨d, rfl, q⟩ := q1;cases r1;exact wpAny_truthy_bool ⟨H1, I1, q⟩
variable {tA tB' : TT} {rest : List Expr}
noncomputable def tAnd (t u : TT) : TT := fun σ H Q => t σ H fun c H1 => if c = true then u σ H1 Q else Q false H1
noncomputable def tOr (t u : TT) : TT := fun σ H Q => t σ H fun c H1 => if c = true then Q true H1 else u σ H1 Q
noncomputable def tNot (t : TT) : TT := fun σ H Q => t σ H fun c H1 => Q (!c) H1
theorem pw_and1 (ha : PT X a tA) : PW X (.BoolOp .And [a] pos) tA := by
 intro wh pins s σ H Q I h;refine isTrue_and (thn (ha pins s σ H Q I h) fun c s1 e => ?_);cases c with
 | true => exact isTrue_and_nil e
 | false => exact e
theorem pw_or1 (ha : PT X a tA) : PW X (.BoolOp .Or [a] pos) tA := by
 intro wh pins s σ H Q I h;refine isTrue_or (thn (ha pins s σ H Q I h) fun c s1 e => ?_);cases c with
 | false => exact isTrue_or_nil e
 | true => exact e
theorem pw_and (ha : PT X a tA) (hb : PW X (.BoolOp .And (b :: rest) pos) tB') : PW X (.BoolOp .And (a :: b :: rest) pos) (tAnd tA tB') := by
 intro wh pins s σ H Q I h;refine isTrue_and (thn (ha pins s σ H _ I h) fun c s1 ⟨H1, I1, q1⟩ => ?_);cases c with
 | true => exact hb wh pins s1 σ H1 Q I1 q1
 | false => exact ⟨H1, I1, q1⟩
theorem pw_or (ha : PT X a tA) (hb : PW X (.BoolOp .Or (b :: rest) pos) tB') : PW X (.BoolOp .Or (a :: b :: rest) pos) (tOr tA tB') := by
 intro wh pins s σ H Q I h;refine isTrue_or (thn (ha pins s σ H _ I h) fun c s1 ⟨H1, I1, q1⟩ => ?_);cases c with
 | true => exact ⟨H1, I1, q1⟩
 | false => exact hb wh pins s1 σ H1 Q I1 q1
theorem pt_not (ha : PT X a tA) : PT X (.UnaryOp .Not a pos) (tNot tA) := by
 intro pins s σ H Q I h;exact isTrue_not (ha pins s σ H (fun c H1 => Q (!c) H1) I h)
noncomputable def tIf (t : TT) (ta tb : TE) : TE := fun σ H Q => t σ H fun c H1 => if c = true then ta σ H1 Q else tb σ H1 Q
theorem pe_ifExp {c : Expr} (hc : PT X c tA) (ha : PE X a ta) (hb : PE X b tb) : PE X (.IfExp c a b pos) (tIf tA ta tb) := by
 intro pins s σ H Q I h;refine wpAny_IfExp (thn (hc pins s σ H _ I h) fun d s1 ⟨H1, I1, q1⟩ => ?_);cases d with
 | true => exact ha pins s1 σ H1 Q I1 q1
 | false => exact hb pins s1 σ H1 Q I1 q1
end
noncomputable def SqL (K : PySem.W.Frag) (H : Hp) (a : Addr) (xs : List V) : Prop :=
 Rd H a (.lst xs) \/
  ∃ (o : Obj) (its : Array Value) (n : Nat), K.lookup a = some o /\ o.cls = .type "list" /\ o.dict = none /\ o.data = .seq its n /\ its.size <= sizeLine /\ Vals xs its.toList
noncomputable def SqT (K : PySem.W.Frag) (H : Hp) (a : Addr) (xs : List V) : Prop :=
 Rd H a (.tup xs) \/
  ∃ (o : Obj) (its : Array Value) (n : Nat), K.lookup a = some o /\ o.cls = .type "tuple" /\ o.data = .seq its n /\ its.size <= sizeLine /\ Vals xs its.toList
noncomputable def absV : Value -> Option V
 | .none => some .non
 | .bool b => some (.bl b)
 | .int i _ => some (.int i)
 | .str x _ => some (.str x)
 | .bytes b _ => some (.byt b)
 | .float b _ => some (.flt b)
 | .ref a => some (.ref a)
 | .type n => some (.ty n)
 | _ => none
theorem RelV.abs {x : V} {u : Value} (r : RelV x u) : absV u = some x := by
 cases x with
 | non => cases r; rfl
 | bl _ => cases r; rfl
 | int _ => obtain ⟨t, rfl⟩ := r; rfl
 | str _ => obtain ⟨t, rfl⟩ := r; rfl
 | byt _ => obtain ⟨t, rfl⟩ := r; rfl
 | flt _ => obtain ⟨t, rfl⟩ := r; rfl
 | ref _ => cases r; rfl
 | ty _ => cases r; rfl
theorem RelV.inj {x y : V} {u : Value} (r : RelV x u) (q : RelV y u) : x = y := Option.some.inj (r.abs.symm.trans q.abs)
theorem Vals.inj {xs ys : List V} {us : List Value} (h : Vals xs us) : Vals ys us -> xs = ys := by
 induction h generalizing ys with
 | nil => intro h'; cases h'; rfl
 | cons r t ih =>
  intro h';cases h' with
  | cons r' t' => rw [r.inj r', ih t']
section
variable {X : Cx} {pins : List (Addr × Obj)} {σ : St} {H : Hp} {s : Shared} {a : Addr} {xs ys : List V}
theorem Inv.list (I : Inv X pins σ H s) (h : SqL X.K H a xs) : ∃ its : List Value, Vals xs its /\ PlainL s.heap a its.toArray /\ xs.length <= sizeLine := by
 rcases h with h | ⟨o, its, n, hk, hc, hd, hs, hz, r⟩
 ·obtain ⟨z, its, n, r, e⟩ := h.ok I.hok
  exact ⟨its, r, ⟨_, n, e, rfl, rfl, rfl⟩, z⟩
 ·refine ⟨its.toList, r, ⟨o, n, I.kIn a o hk, hc, hd, by simpa using hs⟩, ?_⟩
  have e := r.length;simp only [Array.length_toList] at e;omega
theorem Inv.tuple (I : Inv X pins σ H s) (h : SqT X.K H a xs) : ∃ its : List Value, Vals xs its /\ IsTup s.heap a its.toArray /\ xs.length <= sizeLine := by
 rcases h with h | ⟨o, its, n, hk, hc, hs, hz, r⟩
 ·obtain ⟨z, its, r, p⟩ := h.ok I.hok
  exact ⟨its, r, p, z⟩
 ·refine ⟨its.toList, r, ⟨o, I.kIn a o hk, hc, n, by simpa using hs⟩, ?_⟩
  have e := r.length;simp only [Array.length_toList] at e;omega
theorem Inv.list_inj (I : Inv X pins σ H s) (h : SqL X.K H a xs) (h' : SqL X.K H a ys) : xs = ys := by
 obtain ⟨its, r, ⟨o, n, e, _, _, d⟩, _⟩ := I.list h;obtain ⟨its', r', ⟨o', n', e', _, _, d'⟩, _⟩ := I.list h';rw [e] at e'; cases e';rw [d] at d';injection d' with d1 _;have : its = its' := by simpa using congrArg Array.toList d1
 subst this;exact r.inj r'
end
noncomputable abbrev Cx.wish (X : Cx) (E : Value -> Shared -> Prop) : Cx := { X with xe := E }
noncomputable abbrev Cx.nox (X : Cx) : Cx := X.wish fun _ _ => False
theorem Cx.Ok.wish {X : Cx} (ok : X.Ok) (E : Value -> Shared -> Prop) : (X.wish E).Ok :=
 ⟨ok.mod, ok.kind, ok.glob, ok.blt, ok.above, ok.inj, ok.has, ok.cab, ok.hd, ok.frames, ok.stk, ok.exf, ok.bs, ok.bsz, ok.noex, ok.exfs, ok.funs, ok.frf⟩
theorem Cx.Ok.unwish {X : Cx} {E : Value -> Shared -> Prop} (ok : (X.wish E).Ok) : X.Ok :=
 ⟨ok.mod, ok.kind, ok.glob, ok.blt, ok.above, ok.inj, ok.has, ok.cab, ok.hd, ok.frames, ok.stk, ok.exf, ok.bs, ok.bsz, ok.noex, ok.exfs, ok.funs, ok.frf⟩
section
variable {X : Cx} {pins : List (Addr × Obj)} {σ : St} {H : Hp} {s : Shared} {E : Value -> Shared -> Prop}
theorem Inv.wish (I : Inv X pins σ H s) (E : Value -> Shared -> Prop) : Inv (X.wish E) pins σ H s := ⟨I.ok.wish E, I.os, I.bare, I.base, I.loc, I.cell, I.free, I.freeC, I.pin, I.hok, I.len⟩
theorem Inv.unwish (I : Inv (X.wish E) pins σ H s) : Inv X pins σ H s := ⟨I.ok.unwish, I.os, I.bare, I.base, I.loc, I.cell, I.free, I.freeC, I.pin, I.hok, I.len⟩
theorem SP.unwish {D : Ends} {f : Flow} {s' : Shared} (h : SP (X.wish E) pins D f s') : SP X pins D f s' := by
 cases f with
 | next => obtain ⟨σ', H', I, q⟩ := h; exact ⟨σ', H', I.unwish, q⟩
 | brk => obtain ⟨σ', H', I, q⟩ := h; exact ⟨σ', H', I.unwish, q⟩
 | cont => obtain ⟨σ', H', I, q⟩ := h; exact ⟨σ', H', I.unwish, q⟩
 | ret u => obtain ⟨v, σ', H', I, r, q⟩ := h; exact ⟨v, σ', H', I.unwish, r, q⟩
theorem PSs.nox {st : List Stmt} {t : TS} (h : PSs X.nox st t) : PSs X st t := fun pins s σ H D I hw =>
 wpAny_mono (h pins s σ H D (I.wish _) hw) (fun _ _ q => q.unwish) fun _ _ z => False.elim z
end
section
variable {X : Cx} {st : Stmt} {rest : List Stmt} {t u : TS} {e : Expr} {te : TE} {pos : Pos}
noncomputable def tNext : TS := fun D σ H => D.nx σ H
noncomputable def tSeq (t u : TS) : TS := fun D σ H => t { D with nx := u D } σ H
theorem pss_nil : PSs X [] tNext := fun _ _ σ H _ I h => wpAny_execs_nil ⟨σ, H, I, h⟩
theorem pss_cons (h1 : PS X st t) (h2 : PSs X rest u) : PSs X (st :: rest) (tSeq t u) := by
 intro pins s σ H D I h;refine wpAny_execs_cons (thn (h1 pins s σ H { D with nx := u D } I h) fun f s1 q => ?_);cases f with
 | next =>
  obtain ⟨σ', H', I', q⟩ := q;exact h2 pins s1 σ' H' D I' q
 | ret v => exact q
 | brk => exact q
 | cont => exact q
theorem pss_one (h1 : PS X st t) : PSs X [st] t := by
 intro pins s σ H D I h;refine wpAny_execs_cons (thn (h1 pins s σ H D I h) fun f s1 q => ?_);cases f with
 | next => exact wpAny_execs_nil q
 | ret v => exact q
 | brk => exact q
 | cont => exact q
theorem Inv.quiet {pins : List (Addr × Obj)} {σ : St} {H : Hp} {s : Shared} (I : Inv X pins σ H s) : interactive X.env = false := by simp [interactive, I.ok.kind]
noncomputable def tDrop (te : TE) : TS := fun D σ H => te σ H fun _ H1 => D.nx σ H1
theorem ps_expr (he : PE X e te) (hs : autoParam (swapsWith e none pos.line X.env = pure false) Ax4._auto_1) : PS X (.Expr e pos) (tDrop te) := by
 intro pins s σ H D I h;exact wpAny_Expr_any (thn (he pins s σ H _ I h) fun v s1 ⟨x, H1, I1, r1, q1⟩ => ⟨σ, H1, I1, q1⟩) I.quiet hs
noncomputable def tRet (te : TE) : TS := fun D σ H => te σ H D.rt
theorem ps_ret (he : PE X e te) : PS X (.Return (some e) pos) (tRet te) := by
 intro pins s σ H D I h;exact wpAny_Return_some (thn (he pins s σ H _ I h) fun v s1 ⟨x, H1, I1, r1, q1⟩ => ⟨x, σ, H1, I1, r1, q1⟩)
noncomputable def tIfS (c : TT) (t u : TS) : TS := fun D σ H => c σ H fun b H1 => if b = true then t D σ H1 else u D σ H1
theorem ps_if {c : Expr} {a b : List Stmt} {tc : TT} (hc : PT X c tc) (ha : PSs X a t) (hb : PSs X b u) : PS X (.If c a b pos) (tIfS tc t u) := by
 intro pins s σ H D I h;refine wpAny_If (thn (hc pins s σ H _ I h) fun d s1 ⟨H1, I1, q1⟩ => ?_);cases d with
 | true => exact ha pins s1 σ H1 D I1 q1
 | false => exact hb pins s1 σ H1 D I1 q1
noncomputable def tNever : TS := fun _ _ _ => False
theorem pss_never {sts : List Stmt} : PSs X sts tNever := fun _ _ _ _ _ _ h => h.elim
end
noncomputable abbrev TG := V -> St -> Hp -> (St -> Hp -> Prop) -> Prop
noncomputable abbrev TGs := List V -> St -> Hp -> (St -> Hp -> Prop) -> Prop
noncomputable def PG (X : Cx) (target : Expr) (t : TG) : Prop :=
 ∀ (pins : List (Addr × Obj)) (s : Shared) (σ : St) (H : Hp) (v : V) (u : Value) (Q : St -> Hp -> Prop), Inv X pins σ H s -> RelV v u -> t v σ H Q ->
  wpAny (model X.prog X.w) X.A (assign target X.env u) (fun _ s' => ∃ σ' H', Inv X pins σ' H' s' /\ Q σ' H') X.xe s
noncomputable def PGs (X : Cx) (ts : List Expr) (t : TGs) : Prop :=
 ∀ (pins : List (Addr × Obj)) (s : Shared) (σ : St) (H : Hp) (vs : List V) (us : List Value) (Q : St -> Hp -> Prop), Inv X pins σ H s -> Vals vs us -> t vs σ H Q ->
  wpAny (model X.prog X.w) X.A (assignInOrder ((assignEach ts X.env).map (·.2)) us) (fun _ s' => ∃ σ' H', Inv X pins σ' H' s' /\ Q σ' H') X.xe s
noncomputable abbrev TSet := V -> V -> V -> Hp -> (Hp -> Prop) -> Prop
noncomputable def PSet (X : Cx) (t : TSet) : Prop :=
 ∀ (pins : List (Addr × Obj)) (s : Shared) (σ : St) (H : Hp) (o i v : V) (ov iv u : Value) (Q : Hp -> Prop), Inv X pins σ H s -> RelV o ov -> RelV i iv -> RelV v u -> t o i v H Q ->
  wpAny (model X.prog X.w) X.A (setItem ov iv u) (fun _ s' => ∃ H', Inv X pins σ H' s' /\ Q H') X.xe s
noncomputable abbrev TIp := V -> V -> Hp -> VK -> Prop
noncomputable def PIp (X : Cx) (op : Operator) (t : TIp) : Prop :=
 ∀ (pins : List (Addr × Obj)) (s : Shared) (σ : St) (H : Hp) (x y : V) (v u : Value) (Q : VK), Inv X pins σ H s -> RelV x v -> RelV y u -> t x y H Q ->
  wpAny (model X.prog X.w) X.A (inplaceOp op v u) (EP X pins σ Q) X.xe s
section
variable {X : Cx} {pos : Pos}
noncomputable def gName (i : Nat) : TG := fun v σ H Q => Q (σ.set i (some v)) H
theorem pg_name {i : Nat} {x : Str} (hN : X.N.Nodup) (hi : X.N[i]? = some x) (hx : Loc X.env.scope x) (hf : autoParam (X.fn x = true \/ X.env.scope.names.lookup x = some .local) Ax0._auto_1) : PG X (.Name x pos) (gName i) := by
 intro pins s σ H v u Q I r h;exact wpAny_assign_Name (store_ok I hN hi hx r (fun s' I' => ⟨_, H, I', h⟩) hf)
noncomputable def gNil : TGs := fun vs σ H Q => vs = [] /\ Q σ H
noncomputable def gCons (t : TG) (u : TGs) : TGs := fun vs σ H Q => ∃ v r, vs = v :: r /\ t v σ H fun σ' H' => u r σ' H' Q
theorem pgs_nil : PGs X [] gNil := by
 intro pins s σ H vs us Q I r h;obtain ⟨e, h⟩ := h;subst e;cases r;exact assignInOrder_nil ⟨σ, H, I, h⟩
theorem pgs_cons {e : Expr} {es : List Expr} {t : TG} {u : TGs} (h1 : PG X e t) (h2 : PGs X es u)
  (hs : autoParam ((assignEach (e :: es) X.env).map (·.2) = assign e X.env :: (assignEach es X.env).map (·.2)) Ax4._auto_1) : PGs X (e :: es) (gCons t u) := by
 intro pins s σ H vs us Q I r h;obtain ⟨v, vr, e1, h⟩ := h;subst e1;cases r with
 | cons r rr =>
  rw [hs];refine assignInOrder_cons (thn (h1 pins s σ H _ _ _ I r h) fun _ s1 ⟨σ1, H1, I1, q1⟩ => ?_);exact h2 pins s1 σ1 H1 _ _ Q I1 rr q1
noncomputable def gTup (K : PySem.W.Frag) (n : Nat) (t : TGs) : TG := fun v σ H Q => ∃ a xs, v = .ref a /\ SqT K H a xs /\ xs.length = n /\ t xs σ H Q
theorem pg_tup {es : List Expr} {k : Nat} {t : TGs} {n : Nat} (hc : X.calm = true) (h : PGs X es t)
  (hn : autoParam ((assignEach es X.env).length = n) Ax4._auto_1) (hst : autoParam ((assignEach es X.env).findIdx? (·.1) = none) Ax4._auto_1) : PG X (.Tuple es k pos) (gTup X.K n t) := by
 intro pins s σ H v u Q I r hw;obtain ⟨a, xs, e1, hq, hl, hw⟩ := hw;subst e1;cases r;obtain ⟨its, rv, ht, hz⟩ := I.tuple hq;refine assign_Tuple_tuple (I.ok.hd hc) ht (by simp [hn, <- hl, rv.length]) hst fun h' hx => ?_
 have I1 : Inv X pins σ H { s with heap := h' } := I.kept (t' := s.toks) fun b o e => hx b o (Nat.ne_of_lt (Heap.lt_size e)) e
 exact h pins _ σ H xs _ Q I1 (by simpa using rv) hw
noncomputable def gSub (to ti : TE) (t : TSet) : TG := fun v σ H Q => to σ H fun o H1 => ti σ H1 fun i H2 => t o i v H2 fun H3 => Q σ H3
theorem pg_sub {o i : Expr} {to ti : TE} {t : TSet} (ho : PE X o to) (hi : PE X i ti) (hs : PSet X t)
  (ha : autoParam (∀ v, assign (.Subscript o i pos) X.env v = (do
   let ov <- holding [v] (eval o X.env)
   let iv <- holding [v, ov] (eval i X.env)
   standAt pos
   holding [v, ov, iv] (setItem ov iv v)
   release [v, ov, iv] [])) Ax3._auto_1) : PG X (.Subscript o i pos) (gSub to ti t) := by
 intro pins s σ H v u Q I r h;rw [ha];refine wpAny_bind (wpAny_holding (thn (ho pins s σ H _ I h) fun ov s1 ⟨x, H1, I1, r1, q1⟩ => ?_));refine wpAny_bind (wpAny_holding (thn (hi pins s1 σ H1 _ I1 q1) fun iv s2 ⟨y, H2, I2, r2, q2⟩ => ?_));refine wpAny_bind (wpAny_standAt (wpAny_bind (wpAny_holding (thn (hs pins s2 σ H2 x y v ov iv u _ I2 r1 r2 r q2) fun _ s3 ⟨H3, I3, q3⟩ => ?_))));exact wpAny_release ⟨σ, H3, I3, q3⟩
noncomputable def tAsg (te : TE) (g : TG) : TS := fun D σ H => te σ H fun x H1 => g x σ H1 D.nx
theorem ps_asg {tg e : Expr} {te : TE} {g : TG} (he : PE X e te) (hg : PG X tg g) (hs : autoParam (swapsWithSole [tg] e pos.line X.env = pure false) Ax4._auto_1) (hw : autoParam (swappedStores [tg] e X.env = pure none) Ax4._auto_1)
  (h1 : autoParam ((assignEach [tg] X.env).map (·.2) = [assign tg X.env]) Ax4._auto_1) : PS X (.Assign [tg] e pos) (tAsg te g) := by
 intro pins s σ H D I h;refine wpAny_Assign_stores (thn (he pins s σ H _ I h) fun v s1 ⟨x, H1, I1, r1, q1⟩ => ?_) hs hw;rw [h1];exact thn (hg pins s1 σ H1 x v _ I1 r1 q1) fun _ s2 q => q
theorem ps_set {i : Nat} {x : Str} {e : Expr} {te : TE} {pos' : Pos} (hN : X.N.Nodup) (hi : X.N[i]? = some x) (hx : Loc X.env.scope x) (he : PE X e te) (hs : autoParam (swapsWith e (some (.Name x pos')) pos.line X.env = pure false) Ax4._auto_1) (hf : autoParam (X.fn x = true \/ X.env.scope.names.lookup x = some .local) Ax0._auto_1) :
  PS X (.Assign [.Name x pos'] e pos) (tAsg te (gName i)) := by
 intro pins s σ H D I h;refine wpAny_Assign_Name (thn (he pins s σ H _ I h) fun v s1 ⟨y, H1, I1, r1, q1⟩ => ?_) hs;exact store_ok I1 hN hi hx r1 (fun s2 I2 => ⟨_, H1, I2, q1⟩) hf
noncomputable def tAugS (to ti te : TE) (tget : V -> V -> Hp -> VK -> Prop) (tip : TIp) (tset : TSet) : TS := fun D σ H => to σ H fun o H1 => ti σ H1 fun i H2 => tget o i H2 fun x H3 => te σ H3 fun y H4 => tip x y H4 fun z H5 => tset o i z H5 fun H6 => D.nx σ H6
noncomputable def PGet (X : Cx) (t : V -> V -> Hp -> VK -> Prop) : Prop :=
 ∀ (pins : List (Addr × Obj)) (s : Shared) (σ : St) (H : Hp) (o i : V) (ov iv : Value) (Q : VK), Inv X pins σ H s -> RelV o ov -> RelV i iv -> t o i H Q ->
  wpAny (model X.prog X.w) X.A (getItem ov iv) (EP X pins σ Q) X.xe s
theorem ps_augS {o i e : Expr} {to ti te : TE} {tget : V -> V -> Hp -> VK -> Prop} {tip : TIp} {tset : TSet} {op : Operator} {tpos : Pos} (ho : PE X o to) (hi : PE X i ti) (hg : PGet X tget) (he : PE X e te) (hp : PIp X op tip) (hs : PSet X tset)
  (ha : autoParam (∀ ov iv new, augStore i ov iv new = (do holding [new, ov, iv] (setItem ov iv new); release [new, ov, iv] []; pure .next)) Ax5._auto_1) : PS X (.AugAssign (.Subscript o i tpos) op e pos) (tAugS to ti te tget tip tset) := by
 intro pins s σ H D I h;refine wpAny_AugAssign_SubscriptAny (thn (ho pins s σ H _ I h) fun ov s1 ⟨x1, H1, I1, r1, q1⟩ => ?_) ha;refine thn (hi pins s1 σ H1 _ I1 q1) fun iv s2 ⟨x2, H2, I2, r2, q2⟩ => ?_
 refine thn (hg pins s2 σ H2 x1 x2 ov iv _ I2 r1 r2 q2) fun old s3 ⟨x3, H3, I3, r3, q3⟩ => ?_
 refine thn (he pins s3 σ H3 _ I3 q3) fun v s4 ⟨x4, H4, I4, r4, q4⟩ => ?_
 refine thn (hp pins s4 σ H4 x3 x4 old v _ I4 r3 r4 q4) fun new s5 ⟨x5, H5, I5, r5, q5⟩ => ?_
 exact thn (hs pins s5 σ H5 x1 x2 x5 ov iv new _ I5 r1 r2 r5 q5) fun _ s6 ⟨H6, I6, q6⟩ => ⟨σ, H6, I6, q6⟩
end
section
variable {X : Cx} {pos : Pos}
end
structure It where
 go : Nat -> Hp -> Prop
 yld : Nat -> Hp -> V -> Hp -> Prop
 stop : Nat -> Hp -> Prop
noncomputable def FpOk (X : Cx) (pins : List (Addr × Obj)) (H : Hp) (b : Addr) : Prop :=
 H b = none /\ b ≠ X.env.locals /\ b ∉ X.fs /\ (b ∈ X.ex \/ X.s₀.heap.objs.size <= b) /\ (∀ x c, X.env.cells.lookup x = some c -> c ≠ b) /\ ∀ p ∈ X.pn ++ pins, p.1 ≠ b
theorem Inv.fpOk {X : Cx} {pins : List (Addr × Obj)} {σ : St} {H H' : Hp} {s : Shared} {b : Addr} (I : Inv X pins σ H s) (hb : s.heap.objs.size <= b) (hn : H' b = none) : FpOk X pins H' b := by
 refine ⟨hn, Nat.ne_of_gt (Nat.lt_of_lt_of_le I.lt hb), I.nofs hb, .inr (Nat.le_trans I.sz hb), fun x c e z => ?_, fun p hp z => ?_⟩
 ·obtain ⟨v, q⟩ := I.cell x c e
  exact absurd (Nat.lt_of_lt_of_le q.lt (by rw [z]; exact hb)) (Nat.lt_irrefl _)
 ·exact absurd (Nat.lt_of_lt_of_le (Heap.lt_size (I.pin p hp).1) (by rw [z]; exact hb)) (Nat.lt_irrefl _)
structure Turn (P : Program) (w : World) (K : PySem.W.Frag) (tg : Expr) (J : It) (fp : List Addr) (it : Addr) (tn : Nat -> Heap -> Prop) : Prop where
 mem : it ∈ fp
 obj : ∀ i h, tn i h -> ∀ b ∈ fp, ∃ o, h.get? b = some o /\ ∀ v, o.data ≠ .cell v
 keep : ∀ i h h', tn i h -> (∀ b ∈ fp, ∀ o, h.get? b = some o -> h'.get? b = some o) -> tn i h'
 item : ∀ (X : Cx), X.prog = P -> X.w = w -> X.K = K -> X.calm = true -> ∀ (i : Nat) (pins : List (Addr × Obj)) (s : Shared) (σ : St) (H : Hp) (E : Value -> Shared -> Prop), Inv X pins σ H s -> (∀ b ∈ fp, FpOk X pins H b) -> tn i s.heap -> J.go i H ->
  wpAny (model P w) X.A (pyNext (.ref it)) (fun r s1 => ∃ u, r = some u /\
   wpAny (model P w) X.A (letOwnedTupleGo tg (.ref it) u) (fun _ s2 => ∃ x H', Inv X pins σ H' s2 /\ RelV x u /\ J.yld i H x H' /\ tn (i + 1) s2.heap /\ ∀ b ∈ fp, H' b = none) E s1) E s
 done : ∀ (X : Cx), X.prog = P -> X.w = w -> X.K = K -> X.calm = true -> ∀ (i : Nat) (pins : List (Addr × Obj)) (s : Shared) (σ : St) (H : Hp) (E : Value -> Shared -> Prop), Inv X pins σ H s -> (∀ b ∈ fp, FpOk X pins H b) -> tn i s.heap -> J.stop i H ->
  wpAny (model P w) X.A (pyNext (.ref it)) (fun r s1 => r = none /\ Inv X pins σ H s1) E s
 self : ∀ (A : Around) (i : Nat) (s : Shared) (Q : Value -> Shared -> Prop) (E : Value -> Shared -> Prop), tn i s.heap -> Q (.ref it) s -> wpAny (model P w) A (pyIter (.ref it)) Q E s
noncomputable abbrev TI := St -> Hp -> (It -> Hp -> Prop) -> Prop
noncomputable def PIE (X : Cx) (pins : List (Addr × Obj)) (σ : St) (tg : Expr) (R : It -> Hp -> Prop) (itv : Value) (s2 : Shared) : Prop :=
 ∃ (it : Addr) (fp : List Addr) (tn : Nat -> Heap -> Prop) (J : It) (H' : Hp), itv = .ref it /\ Inv X pins σ H' s2 /\ Turn X.prog X.w X.K tg J fp it tn /\ tn 0 s2.heap /\ (∀ b ∈ fp, FpOk X pins H' b) /\ R J H'
noncomputable def PI (X : Cx) (tg iter : Expr) (wi : TI) : Prop :=
 ∀ (pins : List (Addr × Obj)) (s : Shared) (σ : St) (H : Hp) (R : It -> Hp -> Prop), Inv X pins σ H s -> wi σ H R ->
  wpAny (model X.prog X.w) X.A (eval iter X.env) (fun v s1 => wpAny (model X.prog X.w) X.A (pyIter v) (PIE X pins σ tg R) X.xe s1) X.xe s
theorem go_of {M : Model} {A : Around} {E : Value -> Shared -> Prop} {s : Shared} {tg : Expr} {it : Addr} {u : Value} {o : Obj} {n : String} {vs : Array Value} {Q : Unit -> Shared -> Prop} (ho : s.heap.get? it = some o) (hc : o.cls = .type n) (hd : o.data = .fields vs)
  (hn : ["enumerate", "zip", "dict_itemiterator", "dict_reverseitemiterator", "odict_iterator", "itertools.zip_longest", "itertools.pairwise"].contains n = false) (hQ : Q () s) : wpAny M A (letOwnedTupleGo tg (.ref it) u) Q E s := by
 unfold letOwnedTupleGo;cases tg <;> first
  | exact wpAny_pure hQ
  | (cases u <;> first
    | exact wpAny_pure hQ
    | (refine wpAny_bind (wpAny_load ho ?_)
       rw [hc, hd];show wpAny M A (if (["enumerate", "zip", "dict_itemiterator", "dict_reverseitemiterator", "odict_iterator", "itertools.zip_longest", "itertools.pairwise"].contains n && vs[0]? == some (rawInt _)) = true then _ else _) Q E s;rw [if_neg (by intro h; rw [hn, Bool.false_and] at h; cases h)];exact wpAny_pure hQ))
noncomputable def Itl (K : PySem.W.Frag) (a : Addr) : It :=
 ⟨fun i H => ∃ xs x, SqL K H a xs /\ xs[i]? = some x, fun i H x H' => H' = H /\ ∀ xs, SqL K H a xs -> xs[i]? = some x, fun i H => ∃ xs, SqL K H a xs /\ xs.length <= i⟩
noncomputable def Itr (lo : Int) (n : Nat) : It := ⟨fun i _ => i < n, fun i H x H' => H' = H /\ x = .int (lo + i), fun i _ => n <= i⟩
theorem turn_list {P : Program} {w : World} {K : PySem.W.Frag} {tg : Expr} (a it : Addr) : Turn P w K tg (Itl K a) [it] it (fun i h => h.IsListIter it a i) where
 mem := by simp
 obj := fun i h st b hb => by
  have e : b = it := by simpa using hb
  subst e;obtain ⟨o, e, c, d⟩ := st;exact ⟨o, e, fun v z => by rw [d] at z; cases z⟩
 keep := fun i h h' st k => st.at fun o e => k it (by simp) o e
 item := by
  intro X hP hw hK hc i pins s σ H E I hf st hg;subst hP hw hK;obtain ⟨xs, x, hq, hx⟩ := hg;obtain ⟨its, rv, p, hz⟩ := I.list hq;obtain ⟨u, hu, ru⟩ := rv.get hx;obtain ⟨f0, f1, f2, f3, f4, f5⟩ := hf it (by simp);refine wpAny_pyNext_list_item st p.isList (x := u) (by simpa using hu) fun h' st' sb => ?_
  have I1 : Inv X pins σ H { s with heap := h' } := I.turned (t' := s.toks) (fun b o hb e => (sb.2 b hb).trans e) f0 f1 f3 f4 f5;obtain ⟨o, e, c, d⟩ := id st';exact ⟨u, rfl, go_of (s := { s with heap := h' }) e c d dC ⟨x, H, I1, ru, ⟨rfl, fun ys hy => by rw [I.list_inj hy hq]; exact hx⟩, st', fun b hb => (hf b hb).1⟩⟩
 done := by
  intro X hP hw hK hc i pins s σ H E I hf st hg;subst hP hw hK;obtain ⟨xs, hq, hx⟩ := hg;obtain ⟨its, rv, p, hz⟩ := I.list hq;obtain ⟨f0, f1, f2, f3, f4, f5⟩ := hf it (by simp);have hl := rv.length;exact wpAny_pyNext_list_end (I.ok.hd hc) st p.isList (by simp; omega) fun h' eb => ⟨rfl, I.turned (t' := s.toks) (fun b o hb e => eb b o hb e) f0 f1 f3 f4 f5⟩
 self := fun _ _ _ _ _ st h => wpAny_pyIter_listiter st h
theorem turn_range {P : Program} {w : World} {K : PySem.W.Frag} {tg : Expr} (it : Addr) (lo : Int) (n : Nat) : Turn P w K tg (Itr lo n) [it] it (fun i h => IsRangeIter h it (lo + (i : Nat) * 1) ((n : Int) - (i : Nat)) 1) where
 mem := by simp
 obj := fun i h st b hb => by
  have e : b = it := by simpa using hb
  subst e;exact ⟨_, st, fun v z => by
   have z' : Data.fields _ = Data.cell v := z;cases z'⟩
 keep := fun i h h' st k => k it (by simp) _ st
 item := by
  intro X hP hw hK hc i pins s σ H E I hf st hg;subst hP hw hK;obtain ⟨f0, f1, f2, f3, f4, f5⟩ := hf it (by simp);have W := Walks.range (prog := X.prog) (w := X.w) (I.ok.hd hc) it lo 1 n;refine W.item i s _ _ hg st fun v h' tk hv st' kk => ?_
  obtain ⟨t, rfl⟩ := hv;have I1 : Inv X pins σ H { s with heap := h', toks := tk } := I.turned (fun b o hb e => kk b o (by simpa using hb) e) f0 f1 f3 f4 f5;refine ⟨_, rfl, go_of (s := { s with heap := h', toks := tk }) (n := "range_iterator") st' rfl rfl dC ⟨.int (lo + i), H, I1, ⟨t, ?_⟩, ⟨rfl, rfl⟩, st', fun b hb => (hf b hb).1⟩⟩;rw [Int.mul_one]
 done := by
  intro X hP hw hK hc i pins s σ H E I hf st hg;subst hP hw hK;obtain ⟨f0, f1, f2, f3, f4, f5⟩ := hf it (by simp);exact wpAny_pyNext_range_end (I.ok.hd hc) st (by have : n <= i := hg; omega) fun h' eb => ⟨rfl, I.turned (t' := s.toks) (fun b o hb e => eb b o hb e) f0 f1 f3 f4 f5⟩
 self := fun _ _ _ _ _ st h => wpAny_pyIter_rangeiter st h
section
variable {X : Cx} {tg : Expr}
noncomputable def iList (K : PySem.W.Frag) (tl : TE) : TI := fun σ H R => tl σ H fun x H1 => ∃ a, x = .ref a /\ (∃ xs, SqL K H1 a xs) /\ R (Itl K a) H1
theorem pi_list {l : Expr} {tl : TE} (hl : PE X l tl) : PI X tg l (iList X.K tl) := by
 intro pins s σ H R I h;refine thn (hl pins s σ H _ I h) fun v s1 ⟨x, H1, I1, r1, q1⟩ => ?_
 obtain ⟨a, e, ⟨xs, hq⟩, q⟩ := q1;subst e;cases r1;obtain ⟨its, rv, p, hz⟩ := I1.list hq;refine wpAny_pyIter_list p.isList ?_;refine ⟨s1.heap.objs.size, [s1.heap.objs.size], _, _, H1, rfl, I1.kept (t' := s1.toks) fun b o e => Heap.get?_push_of_some _ e, turn_list a _, ⟨_, Heap.get?_push_size _ rfl, rfl, rfl⟩, fun b hb => ?_, q⟩;have e : b = s1.heap.objs.size := by simpa using hb
 subst e;exact I1.fpOk (Nat.le_refl _) (I1.hok.fresh (Nat.le_refl _))
theorem range_it {pins : List (Addr × Obj)} {σ : St} {H : Hp} {s : Shared} {R : It -> Hp -> Prop} {E : Value -> Shared -> Prop} {lo hi : Int} {t u v : Tok} {tk : Nat} (I : Inv X pins σ H s) (h1 : -(2 ^ 62) <= lo) (h2 : lo < 2 ^ 62) (h3 : -(2 ^ 62) <= hi) (h4 : hi < 2 ^ 62)
  (q : R (Itr lo (hi - lo).toNat) H) : wpAny (model X.prog X.w) X.A (pyIter (.ref s.heap.objs.size)) (PIE X pins σ tg R) E { s with heap := s.heap.push { cls := .type "range", data := .fields #[.int lo t, .int hi u, .int 1 v] }, toks := tk } := by
 refine wpAny_pyIter_range (IsRange.new ..) (small_one h1 h2 h3 h4) ?_;have I1 : Inv X pins σ H { s with heap := s.heap.push { cls := .type "range", data := .fields #[.int lo t, .int hi u, .int 1 v] }, toks := tk } := I.kept fun b o e => Heap.get?_push_of_some _ e
 refine ⟨(s.heap.push { cls := .type "range", data := .fields #[.int lo t, .int hi u, .int 1 v] }).objs.size, [(s.heap.push { cls := .type "range", data := .fields #[.int lo t, .int hi u, .int 1 v] }).objs.size], _, _, H, rfl,
  I1.kept (t' := tk) fun b o e => Heap.get?_push_of_some _ e, turn_range _ lo (hi - lo).toNat, ?_, fun b hb => ?_, q⟩
 ·have e1 : lo + ((0 : Nat) : Int) * 1 = lo := by simp
  have e2 : (((hi - lo).toNat : Nat) : Int) - ((0 : Nat) : Int) = Builtin.Range.rangeSize lo hi 1 := by rw [rangeSize_one]; split <;> omega
  show IsRangeIter _ _ (lo + ((0 : Nat) : Int) * 1) ((((hi - lo).toNat : Nat) : Int) - ((0 : Nat) : Int)) 1;rw [e1, e2];exact Heap.get?_push_size _ rfl
 ·have e : b = (s.heap.push { cls := .type "range", data := .fields #[.int lo t, .int hi u, .int 1 v] }).objs.size := by simpa using hb
  subst e;exact I1.fpOk (Nat.le_refl _) (I1.hok.fresh (Nat.le_refl _))
noncomputable def iRng1 (ta : TA) : TI := fun σ H R => ta σ H fun vs H1 => ∃ j : Int, vs = [.int j] /\ -(2 ^ 62) <= j /\ j < 2 ^ 62 /\ R (Itr 0 j.toNat) H1
noncomputable def iRng2 (ta : TA) : TI := fun σ H R => ta σ H fun vs H1 => ∃ i j : Int, vs = [.int i, .int j] /\ (-(2 ^ 62) <= i /\ i < 2 ^ 62 /\ -(2 ^ 62) <= j /\ j < 2 ^ 62) /\ R (Itr i (j - i).toNat) H1
theorem pi_range1 {a : Expr} {ta : TA} {p pos : Pos} (hg : Gl X "range") (hm : X.mg "range" = none) (ha : PA X [a] ta) (hs : autoParam (starEach [a] X.env = [(false, eval a X.env)]) Ax4._auto_1) : PI X tg (.Call (.Name "range" p) [a] [] pos) (iRng1 ta) := by
 intro pins s σ H R I h;refine Call_ (ld_blt I hg hm boot_range (PyProof.Rows.callWith_type1 (thn (ha pos pins s σ H _ I h) fun us s1 ⟨vs, H1, I1, r1, q1⟩ => ?_) hs rfl));obtain ⟨j, e, q1, q2, q⟩ := q1;subst e;cases r1 with
 | cons r rr =>
  cases rr;obtain ⟨t, rfl⟩ := r;exact call_range_1 (range_it I1 oM oM q1 q2 (by simpa using q))
theorem pi_range2 {a b : Expr} {ta : TA} {p pos : Pos} (hg : Gl X "range") (hm : X.mg "range" = none) (ha : PA X [a, b] ta) (hs : autoParam (starEach [a, b] X.env = [(false, eval a X.env), (false, eval b X.env)]) Ax4._auto_1) (hs2 : autoParam (starEach [b] X.env = [(false, eval b X.env)]) Ax4._auto_1) :
  PI X tg (.Call (.Name "range" p) [a, b] [] pos) (iRng2 ta) := by
 intro pins s σ H R I h;refine Call_ (ld_blt I hg hm boot_range (PyProof.Rows.callWith_type1 (thn (ha pos pins s σ H _ I h) fun us s1 ⟨vs, H1, I1, r1, q1⟩ => ?_) (by rw [hs, hs2]) (by rw [hs2]; rfl)));obtain ⟨i, j, e, ⟨q1, q2, q3, q4⟩, q⟩ := q1;subst e;cases r1 with
 | cons r rr =>
  cases rr with
  | cons r' rr =>
   cases rr;obtain ⟨t, rfl⟩ := r;obtain ⟨t', rfl⟩ := r';exact call_range_2 (range_it I1 q1 q2 q3 q4 q)
noncomputable def tFor (wi : TI) (g : TG) (tb : TS) : TS := fun D σ H => wi σ H fun J H1 => ∃ W : Nat -> Nat -> St -> Hp -> Prop, (∃ m, W 0 m σ H1) /\ ∀ i m σ H, W i m σ H ->
 (J.stop i H /\ D.nx σ H) \/ (J.go i H /\ ∃ N : St -> Hp -> Prop, (∀ σ' H', N σ' H' -> ∃ m', m' < m /\ W (i + 1) m' σ' H') /\ ∀ x H', J.yld i H x H' -> g x σ H' fun σ2 H2 => tb { D with nx := N, ct := N, bk := D.nx } σ2 H2)
noncomputable def pinsAt (fp : List Addr) (h : Heap) : List (Addr × Obj) := fp.filterMap fun b => (h.get? b).map fun o => (b, o)
theorem mem_pinsAt {fp : List Addr} {h : Heap} {b : Addr} {o : Obj} (hb : b ∈ fp) (e : h.get? b = some o) : (b, o) ∈ pinsAt fp h := List.mem_filterMap.mpr ⟨b, hb, by rw [e]; rfl⟩
theorem of_pinsAt {fp : List Addr} {h : Heap} {p : Addr × Obj} (hp : p ∈ pinsAt fp h) : p.1 ∈ fp /\ h.get? p.1 = some p.2 := by
 obtain ⟨b, hb, e⟩ := List.mem_filterMap.mp hp;cases q : h.get? b with
 | none => rw [q] at e; cases e
 | some o =>
  rw [q] at e;have e' : (b, o) = p := Option.some.inj e;subst e';exact ⟨hb, q⟩
theorem Inv.pinned {pins : List (Addr × Obj)} {σ : St} {H : Hp} {s : Shared} {fp : List Addr} (I : Inv X pins σ H s) (hf : ∀ b ∈ fp, FpOk X pins H b) (ho : ∀ b ∈ fp, ∃ o, s.heap.get? b = some o /\ ∀ v, o.data ≠ .cell v) : Inv X (pins ++ pinsAt fp s.heap) σ H s :=
 I.pins_of fun p hp => (List.mem_append.mp hp).elim (fun z => I.pin p (List.mem_append_right _ z)) fun z => by
  obtain ⟨hb, e⟩ := of_pinsAt z;obtain ⟨f0, f1, f2, _⟩ := hf p.1 hb;obtain ⟨o, e', d⟩ := ho p.1 hb;rw [e] at e'; cases e';exact ⟨e, f0, f1, f2, d⟩
theorem Inv.unpinned {pins pl : List (Addr × Obj)} {σ : St} {H : Hp} {s : Shared} (I : Inv X (pins ++ pl) σ H s) : Inv X pins σ H s := I.pins_of fun p hp => I.pin p (List.mem_append_right _ (List.mem_append_left _ hp))
theorem ps_for {iter : Expr} {body : List Stmt} {wi : TI} {g : TG} {tb : TS} {pos : Pos} (hp : PassesOwn (model X.prog X.w) X.A X.env X.xe) (hc : X.calm = true) (hi : PI X tg iter wi) (hg : PG X tg g) (hb : PSs X body tb)
  (hs : autoParam (∀ x, foldedSetIterable iter X.env x = pure x) Ax3._auto_1) : PS X (.For tg iter body [] pos) (tFor wi g tb) := by
 intro pins s σ H D I h;refine wpAny_For (thn (hi pins s σ H _ I h) fun v s1 h1 => thn h1 fun itv s2 h2 => ?_) hs;obtain ⟨it, fp, tn, J, H2, e, I2, T, st2, f2, W, ⟨m0, w0⟩, turn⟩ := h2;subst e
 -- what stays true of the iterator's objects through the loop
 have stat : ∀ {H' : Hp}, (∀ b ∈ fp, H' b = none) -> ∀ b ∈ fp, FpOk X pins H' b := fun hn b hb => ⟨hn b hb, (f2 b hb).2⟩
 refine codeAny_forLoop_any (fun n s' => ∃ i σ' H', Inv X pins σ' H' s' /\ tn i s'.heap /\ (∀ b ∈ fp, H' b = none) /\ W i n σ' H') ?_ m0 ⟨0, σ, H2, I2, st2, fun b hb => (f2 b hb).1, w0⟩;rintro n s3 ⟨i, σ3, H3, I3, st3, fr3, w3⟩;rcases turn i n σ3 H3 w3 with ⟨stop, qn⟩ | ⟨go, N, hN, step⟩
 ·refine wpAny_passesOwn hp (thn (T.done X rfl rfl rfl hc i pins s3 σ3 H3 X.xe I3 (stat fr3) st3 stop) fun r s4 ⟨hr, I4⟩ => ?_)
  subst hr;exact wpAny_execs_nil ⟨σ3, H3, I4, qn⟩
 ·refine wpAny_passesOwn hp (thn (T.item X rfl rfl rfl hc i pins s3 σ3 H3 X.xe I3 (stat fr3) st3 go) fun r s4 ⟨u, hr, h4⟩ => ?_)
  subst hr;refine wpAny_passesOwn hp (thn h4 fun _ s5 ⟨x, H5, I5, r5, y5, st5, fr5⟩ => ?_);have I5' := I5.pinned (stat fr5) (T.obj _ _ st5);refine wpAny_passesOwn hp (thn (hg _ s5 σ3 H5 x u _ I5' r5 (step x H5 y5)) fun _ s6 ⟨σ6, H6, I6, q6⟩ => ?_);refine wpAny_passesOwn hp (thn (hb _ s6 σ6 H6 _ I6 q6) fun f s7 q7 => ?_);have again : ∀ {σ7 : St} {H7 : Hp}, Inv X (pins ++ pinsAt fp s5.heap) σ7 H7 s7 -> N σ7 H7 -> ∃ m, m < n /\ ∃ i σ' H', Inv X pins σ' H' s7 /\ tn i s7.heap /\ (∀ b ∈ fp, H' b = none) /\ W i m σ' H' := fun {σ7 H7} I7 n7 => by
   obtain ⟨m', hm, w7⟩ := hN σ7 H7 n7;refine ⟨m', hm, i + 1, σ7, H7, I7.unpinned, T.keep _ _ _ st5 fun b hb o e => (I7.pin (b, o) (List.mem_append_right _ (List.mem_append_right _ (mem_pinsAt hb e)))).1, fun b hb => ?_, w7⟩;obtain ⟨o, e, d⟩ := T.obj _ _ st5 b hb;exact (I7.pin (b, o) (List.mem_append_right _ (List.mem_append_right _ (mem_pinsAt hb e)))).2.1
  cases f with
  | next => obtain ⟨σ7, H7, I7, n7⟩ := q7; exact again I7 n7
  | cont => obtain ⟨σ7, H7, I7, n7⟩ := q7; exact again I7 n7
  | brk => obtain ⟨σ7, H7, I7, q7⟩ := q7; exact ⟨σ7, H7, I7.unpinned, q7⟩
  | ret v => obtain ⟨x7, σ7, H7, I7, r7, q7⟩ := q7; exact ⟨x7, σ7, H7, I7.unpinned, r7, q7⟩
end
noncomputable abbrev R2 := V -> V -> Hp -> VK -> Prop
noncomputable def OpR (X : Cx) (f : Value -> Value -> Sem Value) (r : R2) : Prop :=
 ∀ (pins : List (Addr × Obj)) (s : Shared) (σ : St) (H : Hp) (x y : V) (v u : Value) (Q : VK), Inv X pins σ H s -> RelV x v -> RelV y u -> r x y H Q ->
  wpAny (model X.prog X.w) X.A (f v u) (EP X pins σ Q) X.xe s
noncomputable def UnR (X : Cx) (f : Value -> Sem Value) (r : V -> Hp -> VK -> Prop) : Prop :=
 ∀ (pins : List (Addr × Obj)) (s : Shared) (σ : St) (H : Hp) (x : V) (v : Value) (Q : VK), Inv X pins σ H s -> RelV x v -> r x H Q ->
  wpAny (model X.prog X.w) X.A (f v) (EP X pins σ Q) X.xe s
noncomputable def CallR (X : Cx) (f : Value) (r : List V -> Hp -> VK -> Prop) : Prop :=
 ∀ (pins : List (Addr × Obj)) (s : Shared) (σ : St) (H : Hp) (xs : List V) (us : List Value) (Q : VK), Inv X pins σ H s -> Vals xs us -> r xs H Q ->
  wpAny (model X.prog X.w) X.A (call f us) (EP X pins σ Q) X.xe s
noncomputable def tOp (r : R2) (ta tb : TE) : TE := fun σ H Q => ta σ H fun x H1 => tb σ H1 fun y H2 => r x y H2 Q
noncomputable def tUn (r : V -> Hp -> VK -> Prop) (ta : TE) : TE := fun σ H Q => ta σ H fun x H1 => r x H1 Q
noncomputable def rI (C : Int -> Int -> Prop) (g : Int -> Int -> V) : R2 := fun x y H Q => ∃ i j, x = .int i /\ y = .int j /\ C i j /\ Q (g i j) H
noncomputable def rI0 (g : Int -> Int -> V) : R2 := fun x y H Q => ∃ i j, x = .int i /\ y = .int j /\ Q (g i j) H
noncomputable def rU (g : Int -> V) : V -> Hp -> VK -> Prop := fun x H Q => ∃ i, x = .int i /\ Q (g i) H
section
variable {X : Cx} {a b c : Expr} {ta tb tc : TE} {pos : Pos}
theorem binT (ha : PE X a ta) (hb : PE X b tb) {pins : List (Addr × Obj)} {s : Shared} {σ : St} {H : Hp} {R : V -> V -> Hp -> Prop} (I : Inv X pins σ H s)
  (h : ta σ H fun x H1 => tb σ H1 fun y H2 => R x y H2) {Q : Value -> Shared -> Prop} {f : Value -> Value -> Sem Value}
  (hf : ∀ v u s2 x y H2, Inv X pins σ H2 s2 -> RelV x v -> RelV y u -> R x y H2 -> wpAny (model X.prog X.w) X.A (f v u) Q X.xe s2) :
  wpAny (model X.prog X.w) X.A (eval a X.env) (fun v s₁ => wpAny (model X.prog X.w) X.A (eval b X.env) (fun u s₂ => wpAny (model X.prog X.w) X.A (f v u) Q X.xe s₂) X.xe s₁) X.xe s := by
 refine thn (ha pins s σ H _ I h) fun v s1 ⟨x, H1, I1, r1, q1⟩ => ?_
 refine thn (hb pins s1 σ H1 _ I1 q1) fun u s2 ⟨y, H2, I2, r2, q2⟩ => ?_
 exact hf v u s2 x y H2 I2 r1 r2 q2
theorem pe_op {op : Operator} {r : R2} (ho : OpR X (binaryOp op) r) (ha : PE X a ta) (hb : PE X b tb) : PE X (.BinOp a op b pos) (tOp r ta tb) := by
 intro pins s σ H Q I h;exact wpAny_BinOp (binT ha hb I h fun v u s2 x y H2 I2 rx ry q => ho pins s2 σ H2 x y v u Q I2 rx ry q)
theorem pe_un {op : UnaryOp} {r : V -> Hp -> VK -> Prop} (ho : UnR X (unaryOp op) r) (ha : PE X a ta) : PE X (.UnaryOp op a pos) (tUn r ta) := by
 intro pins s σ H Q I h;exact UnaryOp_ (thn (ha pins s σ H _ I h) fun v s1 ⟨x, H1, I1, r1, q1⟩ => ho pins s1 σ H1 x v Q I1 r1 q1)
theorem opI {f : Value -> Value -> Sem Value} {C : Int -> Int -> Prop} {g : Int -> Int -> Int}
  (rule : ∀ (i j : Int) (t u : Tok) (s : Shared) (Q : Value -> Shared -> Prop) (E : Value -> Shared -> Prop), C i j -> Q (.int (g i j) s.toks) { s with toks := s.toks + 1 } -> wpAny (model X.prog X.w) X.A (f (.int i t) (.int j u)) Q E s) :
  OpR X f (rI C fun i j => .int (g i j)) := by
 intro pins s σ H x y v u Q I rx ry h;obtain ⟨i, j, rfl, rfl, hc, q⟩ := h;obtain ⟨t, rfl⟩ := rx;obtain ⟨t', rfl⟩ := ry;exact rule i j t t' s _ _ hc ⟨.int (g i j), H, I.tok _, ⟨_, rfl⟩, q⟩
theorem opI0 {f : Value -> Value -> Sem Value} {g : Int -> Int -> Int}
  (rule : ∀ (i j : Int) (t u : Tok) (s : Shared) (Q : Value -> Shared -> Prop) (E : Value -> Shared -> Prop), Q (.int (g i j) s.toks) { s with toks := s.toks + 1 } -> wpAny (model X.prog X.w) X.A (f (.int i t) (.int j u)) Q E s) :
  OpR X f (rI0 fun i j => .int (g i j)) := by
 intro pins s σ H x y v u Q I rx ry h;obtain ⟨i, j, rfl, rfl, q⟩ := h;obtain ⟨t, rfl⟩ := rx;obtain ⟨t', rfl⟩ := ry;exact rule i j t t' s _ _ ⟨.int (g i j), H, I.tok _, ⟨_, rfl⟩, q⟩
theorem opB0 {f : Value -> Value -> Sem Value} {g : Int -> Int -> Bool}
  (rule : ∀ (i j : Int) (t u : Tok) (s : Shared) (Q : Value -> Shared -> Prop) (E : Value -> Shared -> Prop), Q (.bool (g i j)) s -> wpAny (model X.prog X.w) X.A (f (.int i t) (.int j u)) Q E s) :
  OpR X f (rI0 fun i j => .bl (g i j)) := by
 intro pins s σ H x y v u Q I rx ry h;obtain ⟨i, j, rfl, rfl, q⟩ := h;obtain ⟨t, rfl⟩ := rx;obtain ⟨t', rfl⟩ := ry;exact rule i j t t' s _ _ ⟨.bl (g i j), H, I, rfl, q⟩
noncomputable def CPow (i j : Int) : Prop := 0 <= j /\ j <= 1000000 /\ i.natAbs < 2 ^ 64
noncomputable def CMul (i j : Int) : Prop := (-(2 ^ 64) < i /\ i < 2 ^ 64) \/ (-(2 ^ 64) < j /\ j < 2 ^ 64)
theorem CMul.ok {i j : Int} (h : CMul i j) : IntMulOk i j := by
 rcases h with ⟨h1, h2⟩ | ⟨h1, h2⟩
 ·exact .of_left (intBits_le_64 h1 h2)
 ·exact .of_right (intBits_le_64 h1 h2)
theorem two_pow_nn (k : Nat) : (0 : Int) <= 2 ^ k := by
 rw [two_pow_cast];exact Int.natCast_nonneg _
theorem op_add : OpR X (binaryOp .Add) (rI0 fun i j => .int (i + j)) := opI0 fun _ _ _ _ _ _ _ q => add_int q
theorem op_sub : OpR X (binaryOp .Sub) (rI0 fun i j => .int (i - j)) := opI0 fun _ _ _ _ _ _ _ q => sub_int q
theorem op_mul : OpR X (binaryOp .Mult) (rI CMul fun i j => .int (i * j)) := opI fun _ _ _ _ _ _ _ hc q => mul_int q hc.ok
theorem op_mod : OpR X (binaryOp .Mod) (rI (fun _ j => 0 < j) fun i j => .int (i % j)) := opI fun i j _ _ _ _ _ hc q => by
 have h1 : (0 : Int) < j := hc;exact mod_int' oM (by rw [Int.fmod_eq_emod_of_nonneg i oM]; exact q)
theorem op_pow : OpR X (binaryOp .Pow) (rI CPow fun i j => .int (i ^ j.toNat)) := opI fun _ _ _ _ _ _ _ hc q => pow_int_small hc.1 hc.2.1 hc.2.2 q
theorem op_shl : OpR X (binaryOp .LShift) (rI CPow fun i j => .int (i * 2 ^ j.toNat)) := opI fun _ _ _ _ _ _ _ hc q => lshift_int_small hc.1 hc.2.1 hc.2.2 q
theorem op_shr : OpR X (binaryOp .RShift) (rI (fun _ j => 0 <= j) fun i j => .int (i / 2 ^ j.toNat)) := opI fun i j _ _ _ _ _ hc q =>
 rshift_int hc (by rw [Int.fdiv_eq_ediv_of_nonneg i (two_pow_nn _)]; exact q)
theorem op_and : OpR X (binaryOp .BitAnd) (rI0 fun i j => .int (Builtin.bitAnd i j)) := opI0 fun _ _ _ _ _ _ _ q => and_int q
theorem op_or : OpR X (binaryOp .BitOr) (rI0 fun i j => .int (Builtin.bitOr i j)) := opI0 fun _ _ _ _ _ _ _ q => or_int q
theorem iop_add : OpR X (inplaceOp .Add) (rI0 fun i j => .int (i + j)) := opI0 fun _ _ _ _ _ _ _ q => iadd_int q
theorem unI {f : Value -> Sem Value} {g : Int -> Int}
  (rule : ∀ (i : Int) (t : Tok) (s : Shared) (Q : Value -> Shared -> Prop) (E : Value -> Shared -> Prop), Q (.int (g i) s.toks) { s with toks := s.toks + 1 } -> wpAny (model X.prog X.w) X.A (f (.int i t)) Q E s) :
  UnR X f (rU fun i => .int (g i)) := by
 intro pins s σ H x v Q I rx h;obtain ⟨i, rfl, q⟩ := h;obtain ⟨t, rfl⟩ := rx;exact rule i t s _ _ ⟨.int (g i), H, I.tok _, ⟨_, rfl⟩, q⟩
theorem un_neg : UnR X (unaryOp .USub) (rU fun i => .int (-i)) := unI fun _ _ _ _ _ q => neg_int q
end
noncomputable def scal : V -> V -> Bool
 | .non, .non => true | .non, .int _ => true | .int _, .non => true | .non, .bl _ => true | .bl _, .non => true | .non, .str _ => true | .str _, .non => true
 | .int _, .int _ => true | .bl _, .bl _ => true | .str _, .str _ => true | .byt _, .byt _ => true
 | .int _, .str _ => true | .str _, .int _ => true | .bl _, .str _ => true | .str _, .bl _ => true
 | _, _ => false
section
variable {X : Cx} {a b c : Expr} {ta tb tc : TE} {pos : Pos}
theorem fin_bl {pins : List (Addr × Obj)} {σ : St} {H : Hp} {s : Shared} {Q : VK} {k k' : Bool} (I : Inv X pins σ H s) (q : Q (.bl k) H) (e : k = k') : EP X pins σ Q (.bool k') s := by
 subst e;exact ⟨.bl k, H, I, rfl, q⟩
theorem op_lt : OpR X (compareOp .Lt) (rI0 fun i j => .bl (decide (i < j))) := opB0 fun _ _ _ _ _ _ _ q => lt_int q
theorem op_gt : OpR X (compareOp .Gt) (rI0 fun i j => .bl (decide (j < i))) := opB0 fun _ _ _ _ _ _ _ q => gt_int q
theorem op_ge : OpR X (compareOp .GtE) (rI0 fun i j => .bl (decide (j <= i))) := opB0 fun _ _ _ _ _ _ _ q => ge_int q
theorem op_in_str : OpR X (compareOp .In) (fun x y H Q => ∃ i j, x = .str i /\ y = .str j /\ Q (.bl (!(Builtin.Str.occurrences j i 0 j.length 1).isEmpty)) H) := by
 intro pins s σ H x y v u Q I rx ry h;obtain ⟨i, j, rfl, rfl, q⟩ := h;obtain ⟨t, rfl⟩ := rx;obtain ⟨t', rfl⟩ := ry;exact in_str (fin_bl I q rfl)
theorem nomark (b : Expr) {op : CmpOp} (h : autoParam (op ≠ .In) Ax1._auto_1) (h2 : autoParam (op ≠ .NotIn) Ax1._auto_1) : behindInMarks op b = false := by
 have e1 : (op == CmpOp.In) = false := by cases op <;> first | rfl | exact absurd rfl h
 have e2 : (op == CmpOp.NotIn) = false := by cases op <;> first | rfl | exact absurd rfl h2
 cases b <;> simp [behindInMarks, e1, e2]
theorem pe_cmpR {op : CmpOp} {r : R2} (ho : OpR X (compareOp op) r) (ha : PE X a ta) (hb : PE X b tb) (hm : behindInMarks op b = false) : PE X (.Compare a [op] [b] pos) (tOp r ta tb) := by
 intro pins s σ H Q I h;exact wpAny_Compare1 (binT ha hb I h fun v u s2 x y H2 I2 rx ry q => ho pins s2 σ H2 x y v u Q I2 rx ry q) hm
noncomputable def tTest (t : TE) : TT := fun σ H Q => t σ H fun x H' => ∃ k, x = .bl k /\ Q k H'
theorem pt_cmpR {op : CmpOp} {r : R2} (ho : OpR X (compareOp op) r) (ha : PE X a ta) (hb : PE X b tb) (hm : behindInMarks op b = false) : PT X (.Compare a [op] [b] pos) (tTest (tOp r ta tb)) := by
 intro pins s σ H Q I h;refine wpAny_isTrue_Compare1 (thn (ha pins s σ H _ I h) fun v s1 ⟨x, H1, I1, r1, q1⟩ => thn (hb pins s1 σ H1 _ I1 q1) fun u s2 ⟨y, H2, I2, r2, q2⟩ =>
  thn (ho pins s2 σ H2 x y v u _ I2 r1 r2 q2) fun c s3 ⟨z, H3, I3, r3, k, e, q3⟩ => ?_) hm
 subst e;cases r3;exact wpAny_truthy_bool ⟨H3, I3, q3⟩
theorem line63 : (sizeLine : Nat) < 2 ^ 63 := by rw [sizeLine_eq]; decide
theorem op_add_str : OpR X (binaryOp .Add) (fun x y H Q => ∃ i j, x = .str i /\ y = .str j /\ i.length + j.length <= sizeLine /\ Q (.str (i ++ j)) H) := by
 intro pins s σ H x y v u Q I rx ry h;obtain ⟨i, j, rfl, rfl, hz, q⟩ := h;obtain ⟨t, rfl⟩ := rx;obtain ⟨t', rfl⟩ := ry;exact add_str (fun t' tk => ⟨.str (i ++ j), H, I.tok _, ⟨_, rfl⟩, q⟩) hz
theorem vals1 {x : V} {us : List Value} (r : Vals [x] us) : ∃ u, us = [u] /\ RelV x u := by
 cases r with
 | cons r1 r2 => cases r2; exact ⟨_, rfl, r1⟩
theorem vals2 {x y : V} {us : List Value} (r : Vals [x, y] us) : ∃ u w', us = [u, w'] /\ RelV x u /\ RelV y w' := by
 cases r with
 | cons r1 r2 =>
  cases r2 with
  | cons r3 r4 => cases r4; exact ⟨_, _, rfl, r1, r3⟩
theorem call_abs : CallR X (.builtin "abs") (fun xs H Q => ∃ i, xs = [.int i] /\ Q (.int (if i < 0 then -i else i)) H) := by
 intro pins s σ H xs us Q I r h;obtain ⟨i, rfl, q⟩ := h;obtain ⟨u, rfl, t, rfl⟩ := vals1 r;exact call_abs_int fun u tk => ⟨.int (if i < 0 then -i else i), H, I.tok _, ⟨_, rfl⟩, q⟩
theorem call_int1 : CallR X (.type "int") (fun xs H Q => (∃ i, xs = [.int i] /\ Q (.int i) H) \/ ∃ k, xs = [.bl k] /\ Q (.int (if k then 1 else 0)) H) := by
 intro pins s σ H xs us Q I r h;rcases h with ⟨i, rfl, q⟩ | ⟨k, rfl, q⟩
 ·obtain ⟨u, rfl, t, rfl⟩ := vals1 r
  exact call_int_int ⟨.int i, H, I, ⟨_, rfl⟩, q⟩
 ·obtain ⟨u, rfl, r1⟩ := vals1 r
  cases r1;exact call_int_bool ⟨.int (if k then 1 else 0), H, I.tok _, ⟨_, rfl⟩, q⟩
end
structure ObjM (h : Heap) (x dx C : Addr) (mA : Str -> Option Value) : Prop where
 obj : h.get? x = some (instObj C dx)
 ns : h.Ns1 dx mA
 ne : dx ≠ x
theorem lookIn_ns {h : Heap} {dx : Addr} {mA : Str -> Option Value} (n : h.Ns1 dx mA) : ∃ od, h.get? dx = some od /\ ∀ name, lookIn name od = some (mA name) := by
 obtain ⟨o, es, ep, ho, hd, hk, _, hm⟩ := n;refine ⟨o, ho, fun name => ?_⟩;have e := hm name;unfold nsFind findBy at e;rw [<- Array.find?_toList] at e;unfold lookIn;rw [hd];dsimp only;split
 ·rename_i y q
  rw [q] at e;exact congrArg some e
 ·rename_i q
  rw [q] at e;have a : es.toList.any (·.refKey) = false := by
   rw [List.any_eq_false];intro y hy;obtain ⟨z, t, hkey⟩ := hk y (Array.mem_toList_iff.mp hy);simp [DictEntry.refKey, hkey]
  have a' : ¬ es.toList.any (·.refKey) = true := by rw [a]; exact Bool.false_ne_true
  rw [if_neg a'];exact congrArg some e
theorem ObjM.look {h : Heap} {x dx C : Addr} {mA : Str -> Option Value} (I : ObjM h x dx C mA) : ∃ od, InstAt h x (instObj C dx) C (some od) /\ ∀ name, lookIn name od = some (mA name) :=
 let ⟨od, ho, hl⟩ := lookIn_ns I.ns
 ⟨od, ⟨I.obj, rfl, rfl, ho⟩, hl⟩
section
variable {prog : Program} {w : World} {A : Around} {E : Value -> Shared -> Prop} {s : Shared} {K : PySem.W.Frag} {x dx C f : Addr} {mA : Str -> Option Value} {name : Str} {v : Value}
end
section
variable {P : Program} {w : World} {H H' : Hp} {h h' : Heap} {a C dx : Addr} {fs fs' : List (Str × V)}
theorem ins_get (hok : HOk P w H h) (e : H a = some (.ins C dx fs)) : ∃ mA, ObjM h a dx C mA /\ (∀ f, RelO (fs.lookup f) (mA f)) /\ PySem.Within mA (fs.map (·.1)) /\ fs.length <= 1000 /\ H dx = some (.own a) := by
 obtain ⟨d, z, ne, ob, mA, n, r, q⟩ := (show ObjOk P w H h a (.ins C dx fs) from hok a _ e);exact ⟨mA, ⟨ob, n, ne⟩, r, q, z, d⟩
end
structure Cls (K : PySem.W.Frag) (C : Addr) : Prop where
 pg : plainGet K C Str.empty = true
 hd : hasDictIn K C = true
 po : plainOver K C = true
 sa : findIn K (.ref C) "__setattr__" = some (some (.builtin "object.__setattr__"))
theorem Cls.get {K : PySem.W.Frag} {C : Addr} (c : Cls K C) (f : Str) : plainGet K C f = true := c.pg
section
variable {X : Cx} {pins : List (Addr × Obj)} {σ : St} {H : Hp} {s : Shared} {a C dx : Addr} {fs : List (Str × V)} {f : Str} {v : V} {A : Around} {E : Value -> Shared -> Prop}
end
section
variable {X : Cx} {o e value : Expr} {f : Str} {pos pos' tpos : Pos} {ta tv : TE}
end
section
variable {X : Cx} {pins : List (Addr × Obj)} {σ : St} {H : Hp} {s : Shared} {A : Around} {E : Value -> Shared -> Prop} {Q : Value -> Shared -> Prop} {c : Value} {b : Bool}
inductive TyOf (K : PySem.W.Frag) (H : Hp) : V -> Value -> Prop where
 | non : TyOf K H .non (.type "NoneType")
 | bl (x : Bool) : TyOf K H (.bl x) (.type "bool")
 | int (i : Int) : TyOf K H (.int i) (.type "int")
 | str (x : Str) : TyOf K H (.str x) (.type "str")
 | flt (x : UInt64) : TyOf K H (.flt x) (.type "float")
 | lst {a : Addr} {xs : List V} (e : H a = some (.lst xs)) : TyOf K H (.ref a) (.type "list")
 | frz {a : Addr} {o : Obj} {xs : List V} (e : H a = some (.frz o (.lst xs))) : TyOf K H (.ref a) (.type "list")
 | tup {a : Addr} {xs : List V} (e : H a = some (.tup xs)) : TyOf K H (.ref a) (.type "tuple")
 | dK {a : Addr} {kvs : List (Key × V)} (e : H a = some (.dK kvs)) : TyOf K H (.ref a) (.type "dict")
 | dT {a : Addr} {kvs : List (List Key × V)} (e : H a = some (.dT kvs)) : TyOf K H (.ref a) (.type "dict")
 | ins {a C dx : Addr} {fs : List (Str × V)} (e : H a = some (.ins C dx fs)) (cl : Cls K C) (ha : findIn K (.ref C) "__class__" = some (some (.builtin "object.__class__")))
   (hn : specialIn K (.builtin "object.__class__") "__get__" = some (some (.builtin "getset_descriptor.__get__"))) (htk : takesIn K (.builtin "object.__class__") = some true)
   (hm : mroIn K C (.type "object") = some true) : TyOf K H (.ref a) (.ref C)
theorem isinst_ok {x : V} {u t : Value} (I : Inv X pins σ H s) (rx : RelV x u) (ty : TyOf X.K H x t) (e : kitOne X.K t c = some b) (h : ∀ tk, Q (.bool b) { s with toks := tk }) :
  wpAny (model X.prog X.w) A (call (.builtin "isinstance") [u, c]) Q E s := by
 cases ty with
 | non => cases (show u = Value.none from rx); exact kia_one kitx_none I.kIn True.intro e (fun z => nomatch z) h
 | bl y => cases (show u = Value.bool y from rx); exact kia_one kitx_bool I.kIn True.intro e (fun z => nomatch z) h
 | int i => obtain ⟨t, q⟩ := (show ∃ t, u = Value.int i t from rx); cases q; exact kia_one kitx_int I.kIn True.intro e (fun z => nomatch z) h
 | str y => obtain ⟨t, q⟩ := (show ∃ t, u = Value.str y t from rx); cases q; exact kia_one kitx_str I.kIn True.intro e (fun z => nomatch z) h
 | flt y => obtain ⟨t, q⟩ := (show ∃ t, u = Value.float y t from rx); cases q; exact kia_one kitx_float I.kIn True.intro e (fun z => nomatch z) h
 | @lst a xs ea =>
  cases (show u = Value.ref a from rx);obtain ⟨_, _, n, _, h1⟩ := (show ObjOk X.prog X.w H s.heap a (.lst xs) from I.hok a _ ea);exact kia_one kitx_list I.kIn ⟨_, h1, rfl⟩ e (fun z => nomatch z) h
 | @frz a ob xs ea =>
  cases (show u = Value.ref a from rx);obtain ⟨_, _, _, n, _, h1⟩ := (show ObjOk X.prog X.w H s.heap a (.frz ob (.lst xs)) from I.hok a _ ea);exact kia_one kitx_list I.kIn ⟨_, h1, rfl⟩ e (fun z => nomatch z) h
 | @tup a xs ea =>
  cases (show u = Value.ref a from rx);obtain ⟨_, _, _, p⟩ := (show ObjOk X.prog X.w H s.heap a (.tup xs) from I.hok a _ ea);obtain ⟨o, h1, h2, _⟩ := p;exact kia_one kitx_tuple I.kIn ⟨o, h1, h2⟩ e (fun z => nomatch z) h
 | @dK a kvs ea =>
  cases (show u = Value.ref a from rx);obtain ⟨_, _, vs, _, p⟩ := (show ObjOk X.prog X.w H s.heap a (.dK kvs) from I.hok a _ ea);obtain ⟨o, es, ep, h1, h2, _⟩ := p;exact kia_one kitx_dict I.kIn ⟨o, h1, h2.1⟩ e (fun z => nomatch z) h
 | @dT a kvs ea =>
  cases (show u = Value.ref a from rx);obtain ⟨_, _, xs, _, o, es, ep, h1, h2, _⟩ := (show ObjOk X.prog X.w H s.heap a (.dT kvs) from I.hok a _ ea);exact kia_one kitx_dict I.kIn ⟨o, h1, h2.1⟩ e (fun z => nomatch z) h
 | @ins a C dx fs ea cl ha hn htk hm =>
  cases (show u = Value.ref a from rx);obtain ⟨mA, O, _⟩ := ins_get I.hok ea;obtain ⟨od, J, _⟩ := O.look;exact kia_one (kitx_own (cl.get _) cl.hd ha hn htk hm) I.kIn J e (fun z => nomatch z) h
end
structure Room (k : Nat) (A : Around) : Prop where
 hd : A.handled = none
 dp : A.depth + 3 * k + 5 < recursionLimit
 un : A.units + 16 * k + 200 < cLine
 gd : A.guards = some []
theorem Room.mono {j k : Nat} {A : Around} (r : Room k A) (h : j <= k) : Room j A := ⟨r.hd, by have := r.dp; omega, by have := r.un; omega, r.gd⟩
theorem Room.deeper {k : Nat} {A : Around} (r : Room (k + 1) A) (env : Env) : Room k (A.deeper env) :=
 ⟨r.hd, by have := r.dp; show A.depth + 1 + 3 * k + 5 < _; omega, by have := r.un; show A.units + 3 + 16 * k + 200 < _; omega, r.gd⟩
theorem Room.depth {k : Nat} {A : Around} (r : Room k A) : A.depth < recursionLimit := by have := r.dp; omega
theorem Room.units {k : Nat} {A : Around} (r : Room k A) : A.units + 64 < cLine := by have := r.un; omega
noncomputable def tNil : TA := fun _ H Q => Q [] H
noncomputable def tCons (ta : TE) (tr : TA) : TA := fun σ H Q => ta σ H fun x H1 => tr σ H1 fun xs H2 => Q (x :: xs) H2
section
variable {X : Cx} {e : Expr} {es : List Expr} {te : TE} {t : TA} {pos : Pos}
theorem pa_nil : PA X [] tNil := fun _ _ _ _ H Q I h => Calls.spliced_nil ⟨[], H, I, .nil, h⟩
theorem pa_cons (ha : PE X e te) (hr : PA X es t) (hs : autoParam (starEach (e :: es) X.env = (false, eval e X.env) :: starEach es X.env) Ax4._auto_1) : PA X (e :: es) (tCons te t) := by
 intro pos pins s σ H Q I h;rw [hs];show wpAny _ _ (spliced ((false, eval e X.env) :: backTo pos (starEach es X.env))) _ _ s;refine Calls.spliced_cons (thn (ha pins s σ H _ I h) fun u s1 ⟨x, H1, I1, r1, q1⟩ => ?_);exact thn (hr pos pins s1 σ H1 _ I1 q1) fun us s2 ⟨xs, H2, I2, r2, q2⟩ => ⟨x :: xs, H2, I2, .cons r1 r2, q2⟩
noncomputable def tTup (t : TA) : TE := fun σ H Q => t σ H fun xs H1 => xs.length <= sizeLine /\ ∀ p, H1 p = none -> Q (.ref p) (upd H1 p (.tup xs))
noncomputable def tLst (t : TA) : TE := fun σ H Q => t σ H fun xs H1 => xs.length <= sizeLine /\ ∀ p, H1 p = none -> Q (.ref p) (upd H1 p (.lst xs))
theorem pe_tup {x1} (h : PA X es t) : PE X (.Tuple es x1 pos) (tTup t) := by
 intro pins s σ H Q I hq;refine wpAny_Tuple_spliced (thn (h pos pins s σ H _ I hq) fun us s1 ⟨xs, H1, I1, r, z, q⟩ => ⟨by rw [<- r.length]; exact z, ?_⟩);have hf : H1 s1.heap.objs.size = none := I1.hok.fresh (Nat.le_refl _);refine ⟨.ref s1.heap.objs.size, upd H1 s1.heap.objs.size (.tup xs), I1.laid (t' := s1.toks) (fun b u e => Heap.get?_push_of_some _ e) (Nat.le_refl _) ?_, rfl, q _ hf⟩;exact ⟨z, us, r, ⟨_, Heap.get?_push_size _ rfl, rfl, _, rfl⟩⟩
theorem pe_lst (h : PA X es t) : PE X (.List es pos) (tLst t) := by
 intro pins s σ H Q I hq;refine wpAny_List_spliced (thn (h pos pins s σ H _ I hq) fun us s1 ⟨xs, H1, I1, r, z, q⟩ => ⟨by rw [<- r.length]; exact z, ?_⟩);have hf : H1 s1.heap.objs.size = none := I1.hok.fresh (Nat.le_refl _);refine ⟨.ref s1.heap.objs.size, upd H1 s1.heap.objs.size (.lst xs), I1.laid (t' := s1.toks) (fun b u e => Heap.get?_push_of_some _ e) (Nat.le_refl _) ?_, rfl, q _ hf⟩;exact ⟨z, us, 0, r, Heap.get?_push_size _ rfl⟩
end
noncomputable abbrev Sp := List V -> Hp -> VK -> XK -> Prop
noncomputable abbrev CXT := List Env -> Hp -> Shared -> XK -> Value -> Shared -> Prop
structure Env0 (P : Program) (w : World) (K : PySem.W.Frag) (mg : Str -> Option Value) (base : Heap) (A : Around) (outer : List Env) (s : Shared) (H : Hp) : Prop where
 frames : A.frames = some outer
 mod : Mod K mg base
 bs : ∀ b o, base.get? b = some o -> s.heap.get? b = some o /\ H b = none
 bsz : base.objs.size <= s.heap.objs.size
 funs : s.heap.FunFrames base outer
 frf : ∀ b ∈ frs outer, H b = none
 hok : HOk P w H s.heap
 bare : AllBare s.gens
noncomputable def CE (outer : List Env) (P : Program) (w : World) (H : Hp) (s : Shared) (Q : VK) (u : Value) (s' : Shared) : Prop :=
 ∃ v H', s'.os = s.os /\ AllBare s'.gens /\ Un (frs outer) [] H H' s.heap s'.heap /\ HOk P w H' s'.heap /\ RelV v u /\ Q v H'
noncomputable def CR (CX : CXT) (outer : List Env) (P : Program) (w : World) (H : Hp) (s : Shared) (Q : VK) (E : XK) (r : Result) (s' : Shared) : Prop :=
 match r with
 | .ok (.ret u) => CE outer P w H s Q u s'
 | .ok _ => False
 | .error e => CX outer H s E e s'
structure FnOk (P : Program) (w : World) (K : PySem.W.Frag) (mg : Str -> Option Value) (base : Heap) (CX : CXT) (k : Nat) (f : Addr) (fd : FuncData) (ps : List Str) (sp : Sp) : Prop where
 len : ∀ vs H Q E, sp vs H Q E -> vs.length = ps.length
 run : ∀ (A : Around) (outer : List Env) (s : Shared) (H : Hp) (args : Args) (us : List Value) (vs : List V) (Q : VK) (E : XK), Room k A -> Env0 P w K mg base A outer s H -> BindsTo s fd args (ps.zip us) -> Vals vs us -> sp vs H Q E ->
  codeAny (model P w) A (.call (.ref f) args) (CR CX outer P w H s Q E) s
section
variable {X : Cx} {pins : List (Addr × Obj)} {σ : St} {H : Hp} {s s' : Shared}
theorem Inv.env0 (I : Inv X pins σ H s) : Env0 X.prog X.w X.K X.mg X.base X.A X.stack s H :=
 ⟨I.ok.frames, I.ok.mod, I.bs, Nat.le_trans I.ok.bsz I.sz, I.stack, I.stkFree, I.hok, I.bare⟩
theorem Inv.after {Q : VK} {u : Value} (I : Inv X pins σ H s) (h : CE X.stack X.prog X.w H s Q u s') : EP X pins σ Q u s' := by
 obtain ⟨v, H', os, bare, un, hok, r, q⟩ := h;obtain ⟨hh, g, d, t, os'⟩ := s';obtain rfl : os' = s.os := os;exact ⟨v, H', I.call (h' := hh) (g' := g) (d' := d) (t' := t) (ch := []) un hok bare (fun b z => absurd z (by simp)), r, q⟩
end
noncomputable def tCall (sp : Sp) (dvs : List V) (E : XK) (t : TA) : TE := fun σ H Q => t σ H fun vs H1 => sp (vs ++ dvs) H1 Q E
noncomputable def Binds (K : PySem.W.Frag) (fd : FuncData) (ps : List Str) (ds : List Value) : Prop :=
 ∀ (s : Shared) (us : List Value), K.In s.heap -> (us ++ ds).length = ps.length -> BindsTo s fd ⟨us, []⟩ (ps.zip (us ++ ds))
theorem Binds.all {K : PySem.W.Frag} {fd : FuncData} {ps : List Str} (h : ∀ us : List Value, us.length = ps.length -> bindArgs fd ⟨us, []⟩ = pure (ps.zip us)) : Binds K fd ps [] := fun s us _ hl => by
 rw [List.append_nil] at hl ⊢;exact .of_eq (h us hl)
noncomputable def Passes (CX : CXT) (X : Cx) (E : XK) : Prop := ∀ (pins : List (Addr × Obj)) (σ : St) (H : Hp) (s : Shared) (e : Value) (s' : Shared), Inv X pins σ H s -> CX X.stack H s E e s' -> X.xe e s'
section
variable {X : Cx} {CX : CXT} {k : Nat} {f C : Addr} {fd : FuncData} {ps : List Str} {sp : Sp} {dvs : List V} {ds : List Value} {E : XK} {x m : Str} {p pos apos : Pos} {e o : Expr} {es : List Expr} {ta : TE} {t : TA}
theorem run_fn {pins : List (Addr × Obj)} {σ : St} {H : Hp} {s : Shared} {Q : VK} {us : List Value} {vs : List V} (F : FnOk X.prog X.w X.K X.mg X.base CX k f fd ps sp) (hr : Room k X.A) (hb : Binds X.K fd ps ds) (hd : Vals dvs ds) (hx : Passes CX X E)
  (I : Inv X pins σ H s) (r : Vals vs us) (h : sp (vs ++ dvs) H Q E) : wpAny (model X.prog X.w) X.A (call (.ref f) us) (EP X pins σ Q) X.xe s := by
 have r2 : Vals (vs ++ dvs) (us ++ ds) := r.append hd;have hl : (us ++ ds).length = ps.length := by rw [<- r2.length]; exact F.len _ _ _ _ h
 refine wpAny_call (codeAny_mono (F.run X.A X.stack s H ⟨us, []⟩ (us ++ ds) (vs ++ dvs) Q E hr I.env0 (hb s us I.kIn hl) r2 h) fun r s' hq => ?_);cases r with
 | error e => exact hx pins σ H s e s' I hq
 | ok fl =>
  cases fl with
  | ret u => exact I.after hq
  | next => exact False.elim hq
  | brk => exact False.elim hq
  | cont => exact False.elim hq
theorem pe_call (F : FnOk X.prog X.w X.K X.mg X.base CX k f fd ps sp) (hr : Room k X.A) (hg : Gl X x) (hm : X.mg x = some (.ref f)) (hk : keepIn X.K (.ref f) = true) (hb : Binds X.K fd ps ds) (hd : Vals dvs ds) (hx : Passes CX X E)
  (ha : PA X (e :: es) t) (hdb : autoParam ((x == ("__debug__" : Str)) = false) Ax1._auto_1) (he : autoParam (starEach (e :: es) X.env = (false, eval e X.env) :: starEach es X.env) Ax4._auto_1) (hpl : autoParam ((backTo pos (starEach es X.env)).any (·.1) = false) Ax4._auto_1) :
  PE X (.Call (.Name x p) (e :: es) [] pos) (tCall sp dvs E t) := by
 intro pins s σ H Q I h;refine wpAny_Call_Name_kw (ld_glob I hg hm ?_ hdb);refine callWith_K (h₀ := X.base) I.ok.mod.kin hk (thn (ha pos pins s σ H _ I h) fun us s1 ⟨vs, H1, I1, r, q⟩ => ⟨I1.kIn, ?_⟩) he hpl;exact run_fn F hr hb hd hx I1 r q
end
section
variable {X : Cx} {CX : CXT} {k : Nat} {f C : Addr} {fd : FuncData} {ps ks : List Str} {sp : Sp} {E : XK} {x m : Str} {p pos apos kpos : Pos} {e o : Expr} {es : List Expr} {kws : List Keyword} {te ta : TE} {t tk : TA} {nm : Option Str}
variable {g : List Value -> List Value -> List Value} {gV : List V -> List V -> List V}
end
structure FnScope (N P : List Str) (sc : Scope) : Prop where
 kind : sc.kind = .function
 co : sc.isCoroutine = false
 gen : sc.isGenerator = false
 nd : N.Nodup
 pre : N.take P.length = P
 par : ∀ x ∈ P, sc.names.lookup x = some .local \/ sc.names.lookup x = some .cell
 nofree : ∀ y ∈ sc.names, y.2 ≠ .free
theorem bindL_out {kindOf : Str -> Option NameKind} {x : Str} : ∀ {binds : List (Str × Value)} {m : Str -> Option Value}, (∀ v, (x, v) ∉ binds) -> bindL kindOf binds m x = m x
 | [], _, _ => rfl
 | (n, v) :: r, m, h => by
  unfold bindL;rw [bindL_out fun w hw => h w (List.mem_cons_of_mem _ hw)];split
  ·have : x ≠ n := by rintro rfl; exact h v List.mem_cons_self
   simp [this]
  ·rfl
theorem bindC_out {kindOf : Str -> Option NameKind} {x : Str} : ∀ {binds : List (Str × Value)} {m : Str -> Option Value}, (∀ v, (x, v) ∉ binds) -> bindC kindOf binds m x = m x
 | [], _, _ => rfl
 | (n, v) :: r, m, h => by
  unfold bindC;rw [bindC_out fun w hw => h w (List.mem_cons_of_mem _ hw)];split
  ·rfl
  ·have : x ≠ n := by rintro rfl; exact h v List.mem_cons_self
   simp [this]
theorem bindL_get {kindOf : Str -> Option NameKind} {x : Str} {v : Value} : ∀ {P : List Str} {vs : List Value} {i : Nat} {m : Str -> Option Value}, P.Nodup -> P[i]? = some x -> vs[i]? = some v -> kindOf x = some .local ->
  bindL kindOf (P.zip vs) m x = some v
 | [], _, _, _, _, h, _, _ => by simp at h
 | _ :: _, [], _, _, _, _, h, _ => by simp at h
 | p :: P, w :: vs, 0, m, nd, h1, h2, hk => by
  simp at h1 h2; subst h1; subst h2;show bindL kindOf ((p, w) :: P.zip vs) m p = _;unfold bindL;rw [bindL_out fun v hv => (List.nodup_cons.mp nd).1 (List.of_mem_zip hv).1, if_pos hk];simp
 | p :: P, w :: vs, i + 1, m, nd, h1, h2, hk => by
  show bindL kindOf ((p, w) :: P.zip vs) m x = _;unfold bindL;exact bindL_get (i := i) (List.nodup_cons.mp nd).2 (by simpa using h1) (by simpa using h2) hk
theorem bindC_get {kindOf : Str -> Option NameKind} {x : Str} {v : Value} : ∀ {P : List Str} {vs : List Value} {i : Nat} {m : Str -> Option Value}, P.Nodup -> P[i]? = some x -> vs[i]? = some v -> kindOf x ≠ some .local ->
  bindC kindOf (P.zip vs) m x = some v
 | [], _, _, _, _, h, _, _ => by simp at h
 | _ :: _, [], _, _, _, _, h, _ => by simp at h
 | p :: P, w :: vs, 0, m, nd, h1, h2, hk => by
  simp at h1 h2; subst h1; subst h2;show bindC kindOf ((p, w) :: P.zip vs) m p = _;unfold bindC;rw [bindC_out fun v hv => (List.nodup_cons.mp nd).1 (List.of_mem_zip hv).1, if_neg hk];simp
 | p :: P, w :: vs, i + 1, m, nd, h1, h2, hk => by
  show bindC kindOf ((p, w) :: P.zip vs) m x = _;unfold bindC;exact bindC_get (i := i) (List.nodup_cons.mp nd).2 (by simpa using h1) (by simpa using h2) hk
noncomputable def start (N : List Str) (vs : List V) : St := vs.map some ++ List.replicate (N.length - vs.length) none
noncomputable def cxOf (CX : CXT) (P : Program) (w : World) (K : PySem.W.Frag) (mg : Str -> Option Value) (base : Heap) (N : List Str) (qual : Str) (scope : Scope) (f : Addr) (cd : Value) (A : Around) (outer : List Env) (s : Shared) (H : Hp) (E : XK) : Cx where
 prog := P
 w := w
 K := K
 mg := mg
 base := base
 A := A.deeper (envOfC qual scope s.heap.objs.size f cd)
 N := N
 s₀ := s
 H₀ := H
 env := envOfC qual scope s.heap.objs.size f cd
 outer := outer
 stack := envOfC qual scope s.heap.objs.size f cd :: outer
 ex := []
 calm := true
 fn := fun _ => true
 pn := []
 xe := fun e s' => wpAny (model P w) (A.deeper (envOfC qual scope s.heap.objs.size f cd)) (leaving (envOfC qual scope s.heap.objs.size f cd) e) (fun _ s'' => CX outer H s E e s'') (fun e' s'' => CX outer H s E e' s'') s'
theorem cell_has {sc : Scope} {n : Nat} {x : Str} (h : sc.names.lookup x = some .cell) : ∃ c, (cellsFrom n sc.names []).lookup x = some c := by
 have q := cellsFrom_some sc.names n [] (.inl h);exact Option.isSome_iff_exists.mp q
theorem inv_start {CX : CXT} {P : Program} {w : World} {K : PySem.W.Frag} {mg : Str -> Option Value} {base : Heap} {N ps : List Str} {qual : Str} {scope : Scope} {f : Addr} {cd : Value} {A : Around} {outer : List Env} {s s1 : Shared} {H : Hp} {E : XK} {us : List Value} {vs : List V}
  (S : FnScope N ps scope) (hd : A.handled = none) (e0 : Env0 P w K mg base A outer s H) (hl : vs.length = ps.length) (r : Vals vs us)
  (x : InCallC s s.heap.objs.size (bindL (envOfC qual scope s.heap.objs.size f cd).kindOf (ps.zip us) fun _ => none) (cellsFrom (s.heap.objs.size + 1) scope.names []) (bindC (envOfC qual scope s.heap.objs.size f cd).kindOf (ps.zip us) fun _ => none) s1) :
  Inv (cxOf CX P w K mg base N qual scope f cd A outer s H E) [] (start N vs) H s1 := by
 have hpl : ps.length <= N.length := by have := congrArg List.length S.pre; rw [List.length_take] at this; omega
 obtain ⟨h1, tk, rfl, hk⟩ := x.done;have noA : ∀ b : Addr, b ∉ (cxOf CX P w K mg base N qual scope f cd A outer s H E).ex := fun b z => absurd (show b ∈ ([] : List Addr) from z) (by simp)
 refine ⟨⟨e0.mod, S.kind, rfl, rfl, Nat.le_refl _, fun y z c h1 h2 => ?_, fun y hy => ?_, fun y c _ h => ?_, fun _ => hd, Around.frames_deeper e0.frames, .inr ⟨rfl, rfl⟩, fun b z => absurd z (noA b), e0.bs, e0.bsz, fun b _ _ => noA b, fun b z => absurd z (noA b), e0.funs, e0.frf⟩,
  rfl, e0.bare, Un.kept hk, ⟨_, x.toInCall.ns, fun i y v h1 h2 h3 => ?_⟩, fun y c h => ⟨_, x.cell y c h⟩, e0.hok.fresh (Nat.le_refl _), fun y c h => ?_, fun p hp => absurd (show p ∈ ([] : List (Addr × Obj)) from hp) (by simp), e0.hok.kept hk, ?_⟩
 ·exact name_of_addr x.apart (PySem.mem_of_lookup h1) (PySem.mem_of_lookup h2)
 ·have hy : scope.names.lookup y = some .cell \/ scope.names.lookup y = some .free := hy
  rcases hy with hy | hy
  ·exact cell_has hy
  ·exact absurd rfl (S.nofree _ (PySem.mem_of_lookup hy))
 ·exact Nat.le_of_lt (x.above y c (PySem.mem_of_lookup h))
 ·have hi : i < vs.length := by
   unfold start at h2;by_cases hi : i < vs.length
   ·exact hi
   ·rw [List.getElem?_append_right (by simpa using hi)] at h2
    rw [List.getElem?_replicate] at h2;split at h2 <;> cases h2
  have ha : vs[i]? = some v := by
   unfold start at h2;rw [List.getElem?_append_left (by simpa using hi), List.getElem?_map] at h2;cases e : vs[i]? with
   | none => rw [e] at h2; cases h2
   | some a => rw [e] at h2; cases h2; rfl
  obtain ⟨u, hu, rv⟩ := r.get ha;have hp : ps[i]? = some y := by
   rw [<- S.pre, List.getElem?_take_of_lt oM]; exact h1
  have ndP : ps.Nodup := by rw [<- S.pre]; exact S.nd.sublist (List.take_sublist _ _)
  refine ⟨u, rv, ?_⟩;rcases S.par y (List.mem_of_getElem? hp) with k | k
  ·exact .inl ⟨k, bindL_get ndP hp hu k⟩
  ·obtain ⟨c, e⟩ := cell_has (n := s.heap.objs.size + 1) k
   refine .inr ⟨.inl k, c, e, ?_⟩;have q := x.cell y c e;rw [bindC_get ndP hp hu (by show scope.names.lookup y ≠ _; rw [k]; decide)] at q;exact q
 ·exact e0.hok.fresh (Nat.le_of_lt (x.above y c (PySem.mem_of_lookup h)))
 ·unfold start
  show _ = N.length;rw [List.length_append, List.length_map, List.length_replicate];omega
theorem fn_of {CX : CXT} {P : Program} {w : World} {K : PySem.W.Frag} {mg : Str -> Option Value} {base : Heap} {k : Nat} {f : Addr} {name qual : Str} {params : Arguments} {body : List Stmt} {scope : Scope} {dV kV doc pm cdv ct oc : Value} {an od : Option Addr}
  {osl : Array (Option Value)} {N ps : List Str} {sp : Sp} (lk : K.lookup f = some ⟨oc, od, .func (fnOf name qual params body scope dV kV doc pm an cdv ct), osl⟩) (hcd : codeIn K cdv qual = true) (S : FnScope N ps scope)
  (len : ∀ vs H Q E, sp vs H Q E -> vs.length = ps.length)
  (hbody : ∀ (A : Around) (outer : List Env) (s : Shared) (H : Hp) (vs : List V) (Q : VK) (E : XK), Room k (A.deeper (envOfC qual scope s.heap.objs.size f cdv)) -> sp vs H Q E ->
   ∃ t, PSs (cxOf CX P w K mg base N qual scope f cdv A outer s H E) body t /\ t { nx := fun _ H' => Q .non H', rt := Q } (start N vs) H) :
  FnOk P w K mg base CX (k + 1) f (fnOf name qual params body scope dV kV doc pm an cdv ct) ps sp := by
 refine ⟨len, fun A outer s H args us vs Q E hr e0 hb r hsp => ?_⟩;have hl := len _ _ _ _ hsp;have KX : K.In s.heap := e0.mod.kin.keeps fun b o e => (e0.bs b o e).1
 have lim : s.heap.NoLimit := e0.mod.nolimit.keeps fun b o e => (e0.bs b o e).1
 have hkind : ∀ y ∈ ps.zip us, scope.names.lookup y.1 = some .local \/ (scope.names.lookup y.1 = some .cell /\ ((cellsFrom (s.heap.objs.size + 1) scope.names []).lookup y.1).isSome = true) := fun hq0 hy => by
  obtain ⟨n, v⟩ := hq0;rcases S.par n (List.of_mem_zip hy).1 with q | q
  ·exact .inl q
  ·exact .inr ⟨q, cellsFrom_some _ _ _ (.inl q)⟩
 refine codeAny_call_function hr.depth (KX _ _ lk) rfl S.co S.gen rfl (codeRec_of KX hcd) (hb _ _ _ _ ?_);refine wpAny_newFunctionEnv_cells S.kind hkind fun env he s1 x => ?_
 subst he;refine ⟨lim.keeps x.toInCall.keep, codeAny_func ?_⟩;obtain ⟨t, ht, hq⟩ := hbody A outer s H vs Q E (hr.deeper _) hsp;have I : Inv (cxOf CX P w K mg base N qual scope f cdv A outer s H E) [] (start N vs) H s1 := inv_start S hr.hd e0 hl r x;refine wpAny_mono (ht [] s1 (start N vs) H _ I hq) (fun fl s' hs => ?_) fun e s' hs => hs
 have fin : ∀ {σ' : St} {H' : Hp} {v : V} {u : Value}, Inv (cxOf CX P w K mg base N qual scope f cdv A outer s H E) [] σ' H' s' -> RelV v u -> Q v H' -> CE outer P w H s Q u s' :=
  fun {σ' H' v u} J rv q => ⟨v, H', J.os, J.bare, J.base, J.hok, rv, q⟩
 cases fl with
 | ret u =>
  obtain ⟨v, σ', H', J, rv, q⟩ := hs;exact fin J rv q
 | next =>
  obtain ⟨σ', H', J, q⟩ := hs;exact fin (v := V.non) (u := Value.none) J rfl q
 | brk =>
  obtain ⟨_, _, _, q⟩ := hs;exact False.elim q
 | cont =>
  obtain ⟨_, _, _, q⟩ := hs;exact False.elim q
section
variable {X : Cx} {x : Str} {p pos : Pos} {e : Expr} {es : List Expr} {t : TA} {id T : String} {r : List V -> Hp -> VK -> Prop}
noncomputable def tCB (r : List V -> Hp -> VK -> Prop) (t : TA) : TE := fun σ H Q => t σ H fun vs H1 => r vs H1 Q
theorem pe_callB (hc : CallR X (.builtin id) r) (hg : Gl X x) (hm : X.mg x = none) (hv : bootBuiltins x = some (.builtin id)) (ha : PA X (e :: es) t) (hn : autoParam (x ≠ "__name__") Ax1._auto_1) (hdb : autoParam ((x == ("__debug__" : Str)) = false) Ax1._auto_1)
  (he : autoParam (starEach (e :: es) X.env = (false, eval e X.env) :: starEach es X.env) Ax4._auto_1) (hpl : autoParam ((backTo pos (starEach es X.env)).any (·.1) = false) Ax4._auto_1) : PE X (.Call (.Name x p) (e :: es) [] pos) (tCB r t) := by
 intro pins s σ H Q I h;refine wpAny_Call_Name_kw (ld_blt I hg hm hv ?_ hn hdb);exact PyProof.Rows.callWith_builtin1 (thn (ha pos pins s σ H _ I h) fun us s1 ⟨vs, H1, I1, r1, q1⟩ => hc pins s1 σ H1 vs us Q I1 r1 q1) he hpl
theorem pe_callTy (hc : CallR X (.type T) r) (hg : Gl X x) (hm : X.mg x = none) (hv : bootBuiltins x = some (.type T)) (ha : PA X (e :: es) t) (hn : autoParam (x ≠ "__name__") Ax1._auto_1) (hdb : autoParam ((x == ("__debug__" : Str)) = false) Ax1._auto_1)
  (he : autoParam (starEach (e :: es) X.env = (false, eval e X.env) :: starEach es X.env) Ax4._auto_1) (hpl : autoParam ((backTo pos (starEach es X.env)).any (·.1) = false) Ax4._auto_1) : PE X (.Call (.Name x p) (e :: es) [] pos) (tCB r t) := by
 intro pins s σ H Q I h;refine wpAny_Call_Name_kw (ld_blt I hg hm hv ?_ hn hdb);exact PyProof.Rows.callWith_type1 (thn (ha pos pins s σ H _ I h) fun us s1 ⟨vs, H1, I1, r1, q1⟩ => hc pins s1 σ H1 vs us Q I1 r1 q1) he hpl
end
end L2
namespace HT
open PySem PyProof.Rows
section
open PySem.SeqAt
open PySem.AutoSeq1 (wpAny_loadPart')
open PySem.MeetsSeq PySem.MeetsSeq2 PySem.MeetsSeq3
end
section
variable {prog : Program} {w : World} {A : Around} {E : Value -> Shared -> Prop} {s : Shared}
noncomputable def sIx (n d : Nat) : Option Int -> Nat
 | none => d
 | some v => if v < 0 then (v + (n : Int)).toNat else min v.toNat n
end
end HT
namespace L2
open PySem PySem.Spec PyProof.Rows
noncomputable abbrev TO := St -> Hp -> (Option Int -> Hp -> Prop) -> Prop
noncomputable def PO (X : Cx) (e : Option Expr) (t : TO) : Prop :=
 ∀ (pins : List (Addr × Obj)) (s : Shared) (σ : St) (H : Hp) (Q : Option Int -> Hp -> Prop), Inv X pins σ H s -> t σ H Q ->
  wpAny (model X.prog X.w) X.A (evalPart e X.env) (fun u s' => ∃ o H', Inv X pins σ H' s' /\ IsPart u o /\ Q o H') X.xe s
noncomputable def tNoPart : TO := fun _ H Q => Q none H
noncomputable def tPart (t : TE) : TO := fun σ H Q => t σ H fun x H1 => ∃ i, x = .int i /\ Q (some i) H1
section
variable {X : Cx} {e : Expr} {te : TE} {lo hi : Option Expr} {tl th : TO} {pos p2 : Pos}
theorem po_none : PO X none tNoPart := by
 intro pins s σ H Q I h;rw [evalPart_none];exact wpAny_pure ⟨none, H, I, .none, h⟩
theorem po_some (h : PE X e te) : PO X (some e) (tPart te) := by
 intro pins s σ H Q I hw;rw [evalPart_some];refine thn (h pins s σ H _ I hw) fun u s1 ⟨x, H1, I1, r1, q1⟩ => ?_
 obtain ⟨i, rfl, q⟩ := q1;obtain ⟨t, rfl⟩ := r1;exact ⟨some i, H1, I1, .int i t, q⟩
noncomputable def SlR (X : Cx) (r : V -> Option Int -> Option Int -> Hp -> VK -> Prop) : Prop :=
 ∀ (pins : List (Addr × Obj)) (s : Shared) (σ : St) (H : Hp) (x : V) (v vl vu : Value) (lo hi : Option Int) (sl : Addr) (Q : VK), Inv X pins σ H s -> RelV x v -> s.heap.IsSliceOf sl vl vu .none -> IsPart vl lo -> IsPart vu hi -> r x lo hi H Q ->
  ∃ T id, typeLookup (.type T) "__getitem__" = pure (some (.builtin id)) /\ s.TypeIs v T /\ wpAny (model X.prog X.w) X.A (getItem v (.ref sl)) (EP X pins σ Q) X.xe s
noncomputable def tSl (r : V -> Option Int -> Option Int -> Hp -> VK -> Prop) (te : TE) (tl th : TO) : TE := fun σ H Q => te σ H fun x H1 => tl σ H1 fun l H2 => th σ H2 fun u H3 => r x l u H3 Q
theorem pe_slice {r : V -> Option Int -> Option Int -> Hp -> VK -> Prop} (hr : SlR X r) (he : PE X e te) (hl : PO X lo tl) (hu : PO X hi th) : PE X (.Subscript e (.Slice lo hi none p2) pos) (tSl r te tl th) := by
 intro pins s σ H Q I h;refine Subscript_ (thn (he pins s σ H _ I h) fun v s1 ⟨x, H1, I1, r1, q1⟩ => ?_);refine wpAny_Slice (thn (hl pins s1 σ H1 _ I1 q1) fun vl s2 ⟨l, H2, I2, pl, q2⟩ => thn (hu pins s2 σ H2 _ I2 q2) fun vu s3 ⟨u, H3, I3, pu, q3⟩ => ?_);rw [evalPart_none];refine wpAny_pure ?_;have I4 : Inv X pins σ H3 { s3 with heap := s3.heap.push { cls := .type "slice", data := .fields #[vl, vu, .none] } } := I3.kept (t' := s3.toks) fun b ob q => Heap.get?_push_of_some _ q
 obtain ⟨T, id, hT, ht, hg⟩ := hr pins { s3 with heap := s3.heap.push { cls := .type "slice", data := .fields #[vl, vu, .none] } } σ H3 x v vl vu l u s3.heap.objs.size Q I4 r1 (Heap.IsSliceOf.new ..) pl pu q3;show wpAny (model X.prog X.w) X.A (subscriptTail e (.Slice lo hi none p2) v (.ref s3.heap.objs.size)) (EP X pins σ Q) X.xe { s3 with heap := s3.heap.push { cls := .type "slice", data := .fields #[vl, vu, .none] } };exact tail_any (ops := [.ref s3.heap.objs.size, v]) ht hT hg (by with_unfolding_all rfl)
end
noncomputable def ixN (n : Nat) (i : Int) : Option Nat := if 0 <= i then (if i < n then some i.toNat else none) else if -(n : Int) <= i then some (i + n).toNat else none
noncomputable def atI {α : Type} (xs : List α) (i : Int) : Option α := (ixN xs.length i).bind fun j => xs[j]?
theorem ixN_seq {n : Nat} {i : Int} {j : Nat} (h : ixN n i = some j) : seqIndex? i n = some j /\ j < n /\ -(n : Int) <= i /\ i < n := by
 unfold ixN at h;by_cases h0 : 0 <= i
 ·rw [if_pos h0] at h
  by_cases h1 : i < n
  ·rw [if_pos h1] at h
   have e : i.toNat = j := Option.some.inj h;exact ⟨by rw [seqIndex_of h0 h1, e], by omega, by omega, h1⟩
  ·rw [if_neg h1] at h; cases h
 ·rw [if_neg h0] at h
  by_cases h1 : -(n : Int) <= i
  ·rw [if_pos h1] at h
   have e : (i + n).toNat = j := Option.some.inj h;exact ⟨by rw [seqIndex_neg oM h1, e], by omega, h1, by omega⟩
  ·rw [if_neg h1] at h; cases h
theorem atI_get {α : Type} {xs : List α} {i : Int} {v : α} (h : atI xs i = some v) : ∃ j, seqIndex? i xs.length = some j /\ xs[j]? = some v /\ j < xs.length /\ -(xs.length : Int) <= i /\ i < xs.length := by
 unfold atI at h;cases e : ixN xs.length i with
 | none => rw [e] at h; cases h
 | some j =>
  rw [e] at h;obtain ⟨h1, h2, h3, h4⟩ := ixN_seq e;exact ⟨j, h1, h, h2, h3, h4⟩
theorem atI_nat {α : Type} {xs : List α} {j : Nat} {v : α} (h : xs[j]? = some v) : atI xs (j : Int) = some v := by
 have hj : j < xs.length := (List.getElem?_eq_some_iff.mp h).1;have e : ixN xs.length (j : Int) = some j := by
  unfold ixN;rw [if_pos oM, if_pos oM]; simp
 unfold atI; rw [e]; exact h
noncomputable def PlainIx (b : Expr) : Prop := ∀ o i, subscripted b false o i = operate [o, i] (getItem o i)
noncomputable def IxR (X : Cx) (r : R2) : Prop :=
 ∀ (value slice : Expr) (pins : List (Addr × Obj)) (s : Shared) (σ : St) (H : Hp) (x y : V) (v u : Value) (Q : VK), Inv X pins σ H s -> RelV x v -> RelV y u -> r x y H Q ->
  subscripted slice false v u = operate [v, u] (getItem v u) -> wpAny (model X.prog X.w) X.A (subscriptTail value slice v u) (EP X pins σ Q) X.xe s
noncomputable def MtR (X : Cx) (id : String) (r : V -> List V -> Hp -> VK -> Prop) : Prop :=
 ∀ (pins : List (Addr × Obj)) (s : Shared) (σ : St) (H : Hp) (x : V) (xs : List V) (v : Value) (us : List Value) (Q : VK), Inv X pins σ H s -> RelV x v -> Vals xs us -> r x xs H Q ->
  wpAny (model X.prog X.w) X.A (call (.builtin id) (v :: us)) (EP X pins σ Q) X.xe s
section
variable {X : Cx} {a b : Expr} {ta tb : TE} {pos : Pos}
theorem IxR.or {r r' : R2} (h : IxR X r) (h' : IxR X r') : IxR X (fun x y H Q => r x y H Q \/ r' x y H Q) := by
 intro value slice pins s σ H x y v u Q I rx ry q hs;rcases q with q | q
 ·exact h value slice pins s σ H x y v u Q I rx ry q hs
 ·exact h' value slice pins s σ H x y v u Q I rx ry q hs
theorem pe_ix {r : R2} (hr : IxR X r) (ha : PE X a ta) (hb : PE X b tb) (hs : PlainIx b) : PE X (.Subscript a b pos) (tOp r ta tb) := by
 intro pins s σ H Q I h;exact Subscript_ (binT ha hb I h fun v u s2 x y H2 I2 rx ry q => hr a b pins s2 σ H2 x y v u Q I2 rx ry q (hs _ _))
noncomputable def rIxL (K : PySem.W.Frag) : R2 := fun x y H Q => ∃ p xs i v, x = .ref p /\ y = .int i /\ SqL K H p xs /\ atI xs i = some v /\ Q v H
noncomputable def rIxT (K : PySem.W.Frag) : R2 := fun x y H Q => ∃ p xs i v, x = .ref p /\ y = .int i /\ SqT K H p xs /\ atI xs i = some v /\ Q v H
noncomputable def rIxS : R2 := fun x y H Q => ∃ z i c, x = .str z /\ y = .int i /\ z.length <= sizeLine /\ atI z.cps.toList i = some c /\ Q (.str ⟨#[c]⟩) H
theorem ix_list : IxR X (rIxL X.K) := by
 intro value slice pins s σ H x y v u Q I rx ry h hs;obtain ⟨p, xs, i, z, rfl, rfl, hq, he, q⟩ := h;cases rx;obtain ⟨t, rfl⟩ := ry;obtain ⟨its, r, pl, hz⟩ := I.list hq;obtain ⟨j, h1, h2, h3, h4, h5⟩ := atI_get he;obtain ⟨w, ew, rw'⟩ := r.get h2;have hl := r.length;have hn := line63;have fin : EP X pins σ Q w s := ⟨z, H, I, rw', q⟩;by_cases h0 : 0 <= i
 ·have hj : i.toNat = j := by
   rw [seqIndex_of h0 h5] at h1;exact Option.some.inj h1
  exact item_listR pl.isList h0 oM (by rw [hj]; simpa using ew) fin hs
 ·have hj : (i + (its.toArray.size : Int)).toNat = j := by
   rw [seqIndex_neg oM h4] at h1;rw [List.size_toArray, <- hl];exact Option.some.inj h1
  exact subscriptTail_builtinR (x := w) pl.isList.typeIs slot_list_getitem.lookup
   (wpAny_getItem_list_neg (Q := fun r s' => r = w /\ EP X pins σ Q r s') pl.isList oM (by rw [List.size_toArray] <;> omega) oM (by rw [hj]; simpa using ew) ⟨rfl, fin⟩) hs
theorem ix_tup : IxR X (rIxT X.K) := by
 intro value slice pins s σ H x y v u Q I rx ry h hs;obtain ⟨p, xs, i, z, rfl, rfl, hq, he, q⟩ := h;cases rx;obtain ⟨t, rfl⟩ := ry;obtain ⟨its, r, pl, hz⟩ := I.tuple hq;obtain ⟨j, h1, h2, h3, h4, h5⟩ := atI_get he;obtain ⟨w, ew, rw'⟩ := r.get h2;have hl := r.length;have hn := line63;have fin : EP X pins σ Q w s := ⟨z, H, I, rw', q⟩;exact subscriptTail_builtinR (x := w) pl.typeIs slot_tuple_getitem.lookup
  (getItem_tuple (j := j) (Q := fun r s' => r = w /\ EP X pins σ Q r s') pl oM oM (by rw [List.size_toArray, <- hl]; exact h1) (by simpa using ew) ⟨rfl, fin⟩) hs
theorem ix_str : IxR X rIxS := by
 intro value slice pins s σ H x y v u Q I rx ry h hs;obtain ⟨z, i, c, rfl, rfl, hz, he, q⟩ := h;obtain ⟨t, rfl⟩ := rx;obtain ⟨t', rfl⟩ := ry;obtain ⟨j, h1, h2, h3, h4, h5⟩ := atI_get he;have hl : z.cps.toList.length = z.length := by simp [Str.length]
 rw [hl] at h1 h4 h5;have hn := line63;exact tail_any (typeIs_str s z t) slot_str_getitem.lookup (getItem_str (c := c) (by
  have e1 : decide (i < -(2 ^ 63 : Int)) = false := decide_eq_false oM;have e2 : decide (i ≥ 2 ^ 63) = false := decide_eq_false oM;rw [e1, e2, Bool.or_false]) (by rw [h1]; simpa using h2) ⟨.str ⟨#[c]⟩, H, I.tok _, ⟨_, rfl⟩, q⟩) hs
noncomputable def rIx (K : PySem.W.Frag) : R2 := fun x y H Q => rIxL K x y H Q \/ rIxT K x y H Q \/ rIxS x y H Q
theorem ix_seq : IxR X (rIx X.K) := ix_list.or (ix_tup.or ix_str)
theorem mapSeq_set (its : List Value) (n j : Nat) (u : Value) : Obj.mapSeq (·.setIfInBounds j u) { cls := .type "list", data := .seq its.toArray n } = { cls := .type "list", data := .seq (its.set j u).toArray n } := by
 simp [Obj.mapSeq]
theorem Inv.lst {pins : List (Addr × Obj)} {σ : St} {H : Hp} {s : Shared} {p : Addr} {xs : List V} (I : Inv X pins σ H s) (h : H p = some (.lst xs)) :
  ∃ (its : List Value) (n : Nat), Vals xs its /\ s.heap.get? p = some { cls := .type "list", data := .seq its.toArray n } /\ xs.length <= sizeLine := by
 obtain ⟨z, its, n, r, e⟩ := I.hok p _ h;exact ⟨its, n, r, e, z⟩
theorem Inv.lstUpd {pins : List (Addr × Obj)} {σ : St} {H : Hp} {s : Shared} {p : Addr} {xs ys : List V} {its its' : List Value} {n n' : Nat} {f : Obj -> Obj} (I : Inv X pins σ H s) (h : H p = some (.lst xs))
  (ho : s.heap.get? p = some { cls := .type "list", data := .seq its.toArray n }) (hf : f { cls := .type "list", data := .seq its.toArray n } = { cls := .type "list", data := .seq its'.toArray n' }) (r : Vals ys its') (hz : ys.length <= sizeLine) (t : Nat) :
  Inv X pins σ (upd H p (.lst ys)) { s with heap := s.heap.update p f, toks := t } := by
 have e : (s.heap.update p f).get? p = some { cls := .type "list", data := .seq its'.toArray n' } := by
  rw [Heap.get?_update_self f ho (by rw [hf] <;> rfl), hf]
 refine I.write (x := p) (e := p) (by rw [h]; trivial) (.inl rfl) (fun b u hb q => (Heap.get?_update_other _ _ (Ne.symm hb)).trans q) ⟨_, e⟩ ?_;exact ⟨hz, its', n', r, e⟩
noncomputable def rSetL : V -> V -> V -> Hp -> (Hp -> Prop) -> Prop := fun o i v H Q => ∃ p xs k j, o = .ref p /\ i = .int k /\ H p = some (.lst xs) /\ ixN xs.length k = some j /\ Q (upd H p (.lst (xs.set j v)))
theorem set_list : PSet X rSetL := by
 intro pins s σ H o i v ov iv u Q I ro ri rv h;obtain ⟨p, xs, k, j, rfl, rfl, hp, hj, q⟩ := h;cases ro;obtain ⟨t, rfl⟩ := ri;obtain ⟨its, n, r, ho, hz⟩ := I.lst hp;obtain ⟨h1, h2, h3, h4⟩ := ixN_seq hj;have hl := r.length;have hn := line63;have I' : Inv X pins σ (upd H p (.lst (xs.set j v))) { s with heap := s.heap.update p (Obj.mapSeq (·.setIfInBounds j u)) } :=
  I.lstUpd hp ho (mapSeq_set its n j u) (r.set rv j) (by rw [List.length_set]; exact hz) s.toks
 by_cases h0 : 0 <= k
 ·have hk : k.toNat = j := by
   rw [seqIndex_of h0 h4] at h1;exact Option.some.inj h1
  exact ki_setAt ho h0 oM (by rw [List.size_toArray, <- hl]; exact h4) (by rw [hk]; exact ⟨_, I', q⟩)
 ·have hk : (k + (its.toArray.size : Int)).toNat = j := by
   rw [seqIndex_neg oM h3] at h1;rw [List.size_toArray, <- hl];exact Option.some.inj h1
  exact ki_setBack ho oM (by rw [List.size_toArray, <- hl]; exact h3) oM (by rw [hk]; exact ⟨_, I', q⟩)
theorem call_len_seq : CallR X (.builtin "len") (fun xs H Q => ∃ p ys, xs = [.ref p] /\ (SqL X.K H p ys \/ SqT X.K H p ys) /\ Q (.int ys.length) H) := by
 intro pins s σ H xs us Q I r h;obtain ⟨p, ys, rfl, hq, q⟩ := h;obtain ⟨u, rfl, rx⟩ := vals1 r;cases rx;have hn := line63;rcases hq with hq | hq
 ·obtain ⟨its, r', pl, hz⟩ := I.list hq
  have hlen := r'.length;exact Calls.call_len_list pl.isList (by simp only [List.size_toArray] <;> omega) ⟨.int ys.length, H, I.tok _, ⟨s.toks + 1, by rw [List.size_toArray, hlen]⟩, q⟩
 ·obtain ⟨its, r', pl, hz⟩ := I.tuple hq
  have hlen := r'.length;exact len_tuple pl (by simp only [List.size_toArray] <;> omega) ⟨.int ys.length, H, I.tok _, ⟨s.toks + 1, by rw [List.size_toArray, hlen]⟩, q⟩
theorem call_len_str : CallR X (.builtin "len") (fun xs H Q => ∃ z, xs = [.str z] /\ z.length <= sizeLine /\ Q (.int z.length) H) := by
 intro pins s σ H xs us Q I r h;obtain ⟨z, rfl, hz, q⟩ := h;obtain ⟨u, rfl, t, rfl⟩ := vals1 r;have hn := line63;exact len_str oM ⟨.int z.length, H, I.tok _, ⟨_, rfl⟩, q⟩
theorem CallR.or {f : Value} {r r' : List V -> Hp -> VK -> Prop} (h : CallR X f r) (h' : CallR X f r') : CallR X f (fun xs H Q => r xs H Q \/ r' xs H Q) := by
 intro pins s σ H xs us Q I rs q;rcases q with q | q
 ·exact h pins s σ H xs us Q I rs q
 ·exact h' pins s σ H xs us Q I rs q
noncomputable def tyV (K : PySem.W.Frag) (T : String) (x : V) (H : Hp) : Prop := match x with
 | .str _ => T = "str"
 | .int _ => T = "int"
 | .ref p => (T = "list" /\ ∃ xs, SqL K H p xs) \/ (T = "tuple" /\ ∃ o, K.lookup p = some o /\ o.cls = .type "tuple" /\ o.dict = none) \/
   (T = "dict" /\ ((∃ kvs, H p = some (.dK kvs)) \/ ∃ kvs, H p = some (.dT kvs))) \/ (T = "set" /\ ∃ S n, H p = some (.set S n))
 | _ => False
theorem tyV_is {pins : List (Addr × Obj)} {σ : St} {H : Hp} {s : Shared} {T : String} {x : V} {v : Value} (I : Inv X pins σ H s) (r : RelV x v) (ty : tyV X.K T x H) :
  s.TypeIs v T /\ ∀ a, v = .ref a -> ∃ ob, s.heap.get? a = some ob /\ ob.dict = none := by
 cases x with
 | str z =>
  obtain ⟨t, rfl⟩ := r;cases (show T = "str" from ty);exact ⟨typeIs_str s z t, fun _ e => nomatch e⟩
 | int i =>
  obtain ⟨t, rfl⟩ := r;cases (show T = "int" from ty);exact ⟨typeIs_int s i t, fun _ e => nomatch e⟩
 | ref p =>
  cases r;rcases ty with ⟨rfl, xs, hq⟩ | ⟨rfl, o, hk, hc, hd⟩ | ⟨rfl, hk⟩ | ⟨rfl, S, n, hk⟩
  ·obtain ⟨its, _, pl, _⟩ := I.list hq
   refine ⟨pl.isList.typeIs, fun a e => ?_⟩;cases e;obtain ⟨o, n, e, c, hd, _⟩ := pl;exact ⟨o, e, hd⟩
  ·refine ⟨⟨o, I.kIn p o hk, hc⟩, fun a e => ?_⟩
   cases e;exact ⟨o, I.kIn _ o hk, hd⟩
  ·have z : ∃ o, s.heap.get? p = some o /\ o.ExactDict := by
    rcases hk with ⟨kvs, hk⟩ | ⟨kvs, hk⟩
    ·obtain ⟨_, _, _, _, o, _, _, e, ex, _⟩ := I.hok p _ hk
     exact ⟨o, e, ex⟩
    ·obtain ⟨_, _, _, _, o, _, _, e, ex, _⟩ := I.hok p _ hk
     exact ⟨o, e, ex⟩
   obtain ⟨o, e, ex⟩ := z;refine ⟨⟨o, e, ex.1⟩, fun a e2 => ?_⟩;cases e2;exact ⟨o, e, ex.2.1⟩
  ·obtain ⟨o, _, _, _, e, ex, _⟩ := I.hok p _ hk
   refine ⟨⟨o, e, ex.1⟩, fun a e2 => ?_⟩;cases e2;exact ⟨o, e, ex.2.1⟩
 | _ => exact False.elim ty
noncomputable def tBM0 (K : PySem.W.Frag) (T : String) (r : V -> List V -> Hp -> VK -> Prop) (to : TE) : TE := fun σ H Q => to σ H fun x H1 => tyV K T x H1 /\ r x [] H1 Q
noncomputable def tBM (K : PySem.W.Frag) (T : String) (r : V -> List V -> Hp -> VK -> Prop) (to : TE) (t : TA) : TE := fun σ H Q => to σ H fun x H1 => tyV K T x H1 /\ t σ H1 fun xs H2 => r x xs H2 Q
variable {o e : Expr} {es : List Expr} {to : TE} {t : TA} {name : Str} {apos cpos : Pos} {T id : String} {r : V -> List V -> Hp -> VK -> Prop}
theorem pe_bm0 (pa : PlainAttrs T) (slot : Slot T name id) (hty : typeOf (.builtin id) = pure (.type "method_descriptor")) (hm : MtR X id r) (ho : PE X o to)
  (hbase : autoParam (attributeBase o name X.env (eval o X.env) = eval o X.env) Ax4._auto_1) (hline : autoParam ((apos.endLine == cpos.line) = true) Ax4._auto_1) : PE X (.Call (.Attribute o name apos) [] [] cpos) (tBM0 X.K T r to) := by
 intro pins s σ H Q I h;refine wpAny_Call_method0_late hbase hline (thn (ho pins s σ H _ I h) fun v s1 ⟨x, H1, I1, r1, ty, q1⟩ => ?_);obtain ⟨h1, h2⟩ := tyV_is I1 r1 ty;exact ⟨T, id, pa, slot, hty, h1, h2, Calls.callWith_builtin rfl (PySem.evalArgs_none (hm pins s1 σ H1 x [] v [] Q I1 r1 .nil q1))⟩
theorem pe_bm (pa : PlainAttrs T) (slot : Slot T name id) (hty : typeOf (.builtin id) = pure (.type "method_descriptor")) (hm : MtR X id r) (ho : PE X o to) (ha : PA X (e :: es) t)
  (hbase : autoParam (attributeBase o name X.env (eval o X.env) = eval o X.env) Ax4._auto_1)
  (hfew : autoParam (((backTo cpos (starEach (e :: es) X.env)).all (fun x => !x.1) && (backToKw cpos (keywordEach [] X.env)).all (fun x => x.1.isSome)
   && decide ((e :: es).length + ([] : List Keyword).length + (if ([] : List Keyword).isEmpty then 0 else 1) < 30)) = true) Ax4._auto_1)
  (hline : autoParam ((apos.endLine == cpos.line) = true) Ax4._auto_1) (hs : autoParam (starEach (e :: es) X.env = (false, eval e X.env) :: starEach es X.env) Ax4._auto_1) (hplain : autoParam ((backTo cpos (starEach es X.env)).any (·.1) = false) Ax4._auto_1) :
  PE X (.Call (.Attribute o name apos) (e :: es) [] cpos) (tBM X.K T r to t) := by
 intro pins s σ H Q I h;refine wpAny_Call_method_late hbase hfew hline rfl (thn (ho pins s σ H _ I h) fun v s1 ⟨x, H1, I1, r1, ty, q1⟩ => ?_);obtain ⟨h1, h2⟩ := tyV_is I1 r1 ty;refine ⟨T, id, pa, slot, hty, h1, h2, ?_⟩;have hA := ha cpos pins s1 σ H1 _ I1 q1;rw [hs] at hA ⊢;refine Calls.callWith_builtin (by show (false || (backTo cpos (starEach es X.env)).any (·.1)) = false; rw [hplain] <;> rfl) (Calls.evalArgs_plain ?_);exact thn hA fun us s2 ⟨vs, H2, I2, r2, q2⟩ => hm pins s2 σ H2 x vs v us Q I2 r1 r2 q2
end
noncomputable def MtM (X : Cx) (id : String) (r : V -> List V -> Hp -> VK -> Prop) : Prop :=
 ∀ (pins : List (Addr × Obj)) (s : Shared) (σ : St) (H : Hp) (x : V) (xs : List V) (v : Value) (us : List Value) (Q : VK), Inv X pins σ H s -> RelV x v -> Vals xs us -> r x xs H Q ->
  wpAny (model X.prog X.w) X.A (call (.builtin id) (v :: us)) (EP X pins σ Q) X.xe s
theorem Vals.one {x : V} {us : List Value} (h : Vals [x] us) : ∃ u, us = [u] /\ RelV x u := by
 cases h with
 | cons r h => cases h; exact ⟨_, rfl, r⟩
theorem Vals.zero : ∀ {us : List Value}, Vals [] us -> us = []
 | _, .nil => rfl
theorem Vals.dropLast {xs : List V} {us : List Value} (h : Vals xs us) : Vals xs.dropLast us.dropLast := by
 induction h with
 | nil => exact .nil
 | cons r t ih =>
  cases t with
  | nil => exact .nil
  | cons q t' => exact .cons r ih
theorem Vals.rep {xs : List V} {us : List Value} (h : Vals xs us) : ∀ k : Nat, Vals (List.replicate k xs).flatten (List.replicate k us).flatten
 | 0 => .nil
 | k + 1 => by
  rw [List.replicate_succ, List.replicate_succ, List.flatten_cons, List.flatten_cons];exact Vals.append h (Vals.rep h k)
theorem erase_last {α : Type} (l : List α) : l.eraseIdx (l.length - 1) = l.dropLast := by
 induction l with
 | nil => rfl
 | cons a r ih =>
  cases r with
  | nil => rfl
  | cons b r =>
   have e : (a :: b :: r).length - 1 = ((b :: r).length - 1) + 1 := by
    have h1 : (a :: b :: r).length = r.length + 2 := rfl;have h2 : (b :: r).length = r.length + 1 := rfl;omega
   rw [e, List.eraseIdx_cons_succ, ih]
   all_goals rfl
theorem foldl_rep (its : List Value) : ∀ (k : Nat) (acc : List Value),
  List.foldl (fun x1 x2 => x1 ++ x2) acc.toArray (List.replicate k its.toArray) = (acc ++ (List.replicate k its).flatten).toArray
 | 0, acc => by simp
 | k + 1, acc => by
  have e : acc.toArray ++ its.toArray = (acc ++ its).toArray := by simp
  have e2 : (acc ++ its) ++ (List.replicate k its).flatten = acc ++ (List.replicate (k + 1) its).flatten := by
   rw [List.replicate_succ, List.flatten_cons, List.append_assoc]
  rw [<- e2, <- foldl_rep its k (acc ++ its), <- e, List.replicate_succ, List.foldl_cons]
section
variable {X : Cx} {pins : List (Addr × Obj)} {σ : St} {H : Hp} {s : Shared} {l b : Addr} {xs ys zs : List V}
theorem Inv.lset {its its' : List Value} {n : Nat} {f : Array Value -> Array Value} {t' : Nat} (I : Inv X pins σ H s) (hH : H l = some (.lst xs))
  (e : s.heap.get? l = some { cls := .type "list", data := .seq its.toArray n }) (hf : f its.toArray = its'.toArray) (hv : Vals ys its') (hz : ys.length <= sizeLine) :
  Inv X pins σ (upd H l (.lst ys)) { s with heap := s.heap.update l (Obj.mapSeq f), toks := t' } := by
 have q := PySem.IsL.update e f;rw [hf] at q;refine I.write (x := l) (e := l) (by rw [hH]; exact trivial) (.inl rfl) (fun b' u hb hu => (Heap.get?_update_other s.heap (Obj.mapSeq f) (Ne.symm hb)).trans hu) ⟨_, q⟩ ?_;exact ⟨hz, its', _, hv, q⟩
theorem Inv.lnew {its : List Value} {t' : Nat} (I : Inv X pins σ H s) (hv : Vals ys its) (hz : ys.length <= sizeLine) :
  Inv X pins σ (upd H s.heap.objs.size (.lst ys)) { s with heap := s.heap.push { cls := .type "list", data := .seq its.toArray }, toks := t' } :=
 I.laid (fun _ _ q => Heap.get?_push_of_some _ q) (Nat.le_refl _) ⟨hz, its, 0, hv, Heap.get?_push_size _ rfl⟩
theorem Inv.fresh (I : Inv X pins σ H s) : H s.heap.objs.size = none := I.hok.fresh (Nat.le_refl _)
theorem Inv.lstM (I : Inv X pins σ H s) (hH : H l = some (.lst xs)) : xs.length <= sizeLine /\ ∃ (its : List Value) (n : Nat), Vals xs its /\ xs.length = its.length /\ s.heap.get? l = some { cls := .type "list", data := .seq its.toArray n } := by
 obtain ⟨z, its, n, r, e⟩ := I.hok l _ hH;exact ⟨z, its, n, r, r.length, e⟩
theorem notLongL {n : Nat} (h : n <= sizeLine) : Builtin.List.listTooLong n = false := by
 unfold Builtin.List.listTooLong;exact decide_eq_false oM
end
section
variable {X : Cx}
noncomputable def rAppend : V -> List V -> Hp -> VK -> Prop := fun x vs H Q => ∃ l xs y, x = .ref l /\ vs = [y] /\ H l = some (.lst xs) /\ xs.length < sizeLine /\ Q .non (upd H l (.lst (xs ++ [y])))
theorem mt_append : MtM X "list.append" rAppend := by
 intro pins s σ H x vs v us Q I rx rv h;obtain ⟨l, xs, y, rfl, rfl, hH, hz, q⟩ := h;cases rx;obtain ⟨u, rfl, ru⟩ := rv.one;obtain ⟨z, its, n, r, hl, e⟩ := I.lstM hH;refine call_meets F.slot_list_append ⟨_, e, rfl⟩ F.entry_list_append (F.args_list_append_2 _ _) (PySem.list_append l its.toArray n u (by rw [List.size_toArray]; omega)) ⟨e, ?_⟩;refine ⟨.non, _, I.lset (its' := its ++ [u]) hH e (by simp) (r.append (.cons ru .nil)) ?_, rfl, q⟩;rw [List.length_append, List.length_singleton];omega
noncomputable def rPop : V -> List V -> Hp -> VK -> Prop := fun x vs H Q => ∃ l xs y, x = .ref l /\ vs = [] /\ H l = some (.lst xs) /\ xs[xs.length - 1]? = some y /\ Q y (upd H l (.lst xs.dropLast))
theorem mt_pop : MtM X "list.pop" rPop := by
 intro pins s σ H x vs v us Q I rx rv h;obtain ⟨l, xs, y, rfl, rfl, hH, hy, q⟩ := h;cases rx;have hus := rv.zero;subst hus;obtain ⟨z, its, n, r, hl, e⟩ := I.lstM hH;obtain ⟨u, hu, ru⟩ := r.get hy;have hy' : its.toArray[its.toArray.size - 1]? = some u := by
  show its.toArray[its.length - 1]? = some u;rw [<- Array.getElem?_toList, <- hl];exact hu
 refine call_meets F.slot_list_pop ⟨_, e, rfl⟩ F.entry_list_pop (F.args_list_pop_1 _) (MeetsSeq.list_pop_last l its.toArray n u hy' (by rw [List.size_toArray]; omega)) ⟨e, ?_⟩;refine ⟨y, _, I.lset (its' := its.dropLast) hH e ?_ r.dropLast ?_, ru, q⟩
 ·show its.toArray.eraseIdxIfInBounds (its.toArray.size - 1) = its.dropLast.toArray
  rw [List.size_toArray, List.eraseIdxIfInBounds_toArray, erase_last]
 ·rw [List.length_dropLast]
  omega
noncomputable def rClear : V -> List V -> Hp -> VK -> Prop := fun x vs H Q => ∃ l xs, x = .ref l /\ vs = [] /\ H l = some (.lst xs) /\ Q .non (upd H l (.lst []))
theorem mt_clear : MtM X "list.clear" rClear := by
 intro pins s σ H x vs v us Q I rx rv h;obtain ⟨l, xs, rfl, rfl, hH, q⟩ := h;cases rx;have hus := rv.zero;subst hus;obtain ⟨z, its, n, r, hl, e⟩ := I.lstM hH;refine call_meets F.slot_list_clear ⟨_, e, rfl⟩ F.entry_list_clear (F.args_list_clear_1 _) (AutoSeq1.list_clear_list_0 l its.toArray n (by rw [List.size_toArray]; omega)) ⟨e, ?_⟩;exact ⟨.non, _, I.lset (its' := []) (ys := []) hH e rfl .nil (Nat.zero_le _), rfl, q⟩
noncomputable def rRep : R2 := fun x y H Q => ∃ l k xs, x = .ref l /\ y = .int k /\ H l = some (.lst xs) /\ -(2 ^ 63) <= k /\ k < 2 ^ 63 /\ xs.length * k.toNat <= sizeLine /\
 ∀ p, H p = none -> Q (.ref p) (upd H p (.lst (List.replicate k.toNat xs).flatten))
theorem len_rep {α : Type} (xs : List α) (k : Nat) : (List.replicate k xs).flatten.length = k * xs.length := by
 induction k with
 | zero => simp
 | succ k ih => rw [List.replicate_succ, List.flatten_cons, List.length_append, ih, Nat.succ_mul, Nat.add_comm]
theorem op_rep : OpR X (binaryOp .Mult) rRep := by
 intro pins s σ H x y v u Q I rx ry h;obtain ⟨l, k, xs, rfl, rfl, hH, h1, h2, hz, q⟩ := h;cases rx;obtain ⟨t, rfl⟩ := ry;obtain ⟨z, its, n, r, hl, e⟩ := I.lstM hH;have hlen : its.toArray.size * k.toNat <= sizeLine := by rw [List.size_toArray, <- hl]; exact hz
 have hcap : ¬ its.toArray.size * k.toNat > (2 ^ 63 - 1) / 8 := by
  have : (sizeLine : Nat) <= (2 ^ 63 - 1) / 8 := by decide
  omega
 have hfit : ¬ (!Builtin.List.listFitsIndex k) = true := by
  rw [fitsIndex_both h1 h2];exact Bool.false_ne_true
 have hlong : ¬ Builtin.List.listTooLong (its.toArray.size * k.toNat) = true := by
  rw [notLongL hlen];exact Bool.false_ne_true
 have hnew : List.foldl (fun x1 x2 => x1 ++ x2) #[] (List.replicate (if its.toArray.isEmpty = true then 0 else k.toNat) its.toArray) = (List.replicate k.toNat its).flatten.toArray := by
  have f0 : ∀ m : Nat, List.foldl (fun x1 x2 => x1 ++ x2) #[] (List.replicate m its.toArray) = (List.replicate m its).flatten.toArray := fun m => by
   have := foldl_rep its m []
   rw [List.nil_append] at this;exact this
  rw [f0];cases its with
  | nil => simp
  | cons a r' => rw [if_neg (by simp)]
 refine wpAny_binaryOp_repeat_ref (T := "list") (U := "int") dC ⟨_, e, rfl⟩ (fun s' => typeIs_int s' k t) noFill_list_mul F.fills_int_mul F.slot_int_rmul repeat_list F.slot_int_index.lookup
  (call_meets F.slot_int_rmul (typeIs_int s k t) F.entry_int_rmul (F.args_int_rmul_2 _ _) (int___rmul___int_list k t l its.toArray n)
   ⟨e, rfl, ⟨_, e, rfl⟩, call_meets F.slot_list_mul ⟨_, e, rfl⟩ F.entry_list_mul (F.args_list_mul_2 _ _) (AutoListH.list___mul___list_int_3 l its.toArray n k t hfit hcap hlong) ⟨e, ?_⟩⟩)
 rw [hnew];exact ⟨.ref _, _, I.lnew (t' := s.toks) (r.rep k.toNat) (by rw [len_rep, Nat.mul_comm]; exact hz), rfl, q _ I.fresh⟩
end
section
variable {prog : Program} {w : World} {A : Around} {E : Value -> Shared -> Prop} {s : Shared}
end
section
variable {X : Cx}
end
end L2
namespace Att
open PySem PySem.W PySem.Calls PyProof.Rows
theorem ints_of_wellAll {P : Params} {h : Heap} : ∀ (ns : List Int) (vs : List Value), WellAll P h vs (ns.map WData.int) -> IntsAre vs ns := by
 intro ns
 induction ns with
 | nil =>
  intro vs w;rw [List.map_nil] at w;cases w;exact .nil
 | cons n ns ih =>
  intro vs w;rw [List.map_cons] at w;cases w with
  | cons a b =>
   cases a;exact .cons _ _ (ih _ b)
theorem script_of {l : OpenLaw} {n : Nat} (hn : l.most = some n) {P : Params} {h : Heap} {args : List WData} {vals : List Value}
  (hpre : l.row.toRowW.claim.pre args = true) (hwl : WellAll P h vals args) :
  ∃ a vs ns, vals = [Value.ref a] /\ args = [WData.list (ns.map WData.int)] /\ h.get? a = some { cls := .type "list", data := .seq vs.toArray } /\ IntsAre vs ns /\ ns.length <= n := by
 have hsh : WShape.hasAll [] args [.list .int] = true := (pre_splitW hpre).1;have hc : l.pre.holds [] { args := args } = true := (pre_splitW hpre).2;obtain ⟨d, r, rfl, h1, h2⟩ := hasAllW_cons hsh;obtain rfl := hasAllW_nil h2;obtain ⟨xs, rfl, h3⟩ := hasW_list h1;obtain ⟨ns, rfl⟩ := items_int h3;have hlen : ns.length <= n := by
  unfold OpenLaw.pre at hc;have h4 : (WTm.not (.lt (.lit (.int (n : Int))) (.len (.arg 0)))).holds [] { args := [.list (ns.map .int)] } = true := by
   have h4 := (holds_andW hc).1;rw [hn] at h4;exact h4
  have h5 := condW_of h4 (w_not (w_lt w_lit (w_len_list (w_arg rfl))));rw [List.length_map] at h5;refine Nat.le_of_not_lt fun q => ?_
  have q' : (n : Int) < ((ns.length : Nat) : Int) := by omega
  first
   | (rw [decide_eq_true q'] at h5; exact absurd h5 dC)
   | (simp at h5; omega)
 cases hwl with
 | cons w1 w2 =>
  cases w2;cases w1 with
  | list ho hall => exact ⟨_, _, ns, rfl, rfl, ho, ints_of_wellAll ns _ hall, hlen⟩
theorem post_true (l : OpenLaw) (args : List WData) : l.row.toRowW.claim.post args (.bool true) args = true :=
 postW_of (r := l.row.toRowW) (X := (true == true))
  (show WShape.has [] (.bool true) .bool = true by first | rfl | decide | simp [WShape.has, WShape.arms, WShape.armsAll])
  (show (WTm.eq .res (.lit (.bool true))).value [] { args := args, res := some (.bool true), after := args } = some (.bool (true == true)) from w_eq_bool (w_res rfl) w_lit) rfl
theorem attach_call {l : OpenLaw} {n : Nat} {q : Program} {loose : List Str} {XP : (Str -> Option Value) -> Heap -> Prop} {YP : World -> Heap -> Prop} {d : DefRec}
  (hn : l.most = some n) (hdf : d.params.defaults = [])
  (call : ∀ (w : World) (s₀ s₁ : Shared) (mg mb : Str -> Option Value) (fa : Addr) (o : Obj) (pm cd doc : Value) (a : Addr) (vs : List Value) (ns : List Int),
   Ground q loose [] XP w s₀ mg mb s₁.heap -> YP w s₁.heap ->
   s₁.heap.get? fa = some o -> o.data = .func (docDef d.name d.params d.body d.scope pm cd doc) -> s₁.heap.CodeRec cd d.name -> mg d.name = some (.ref fa) ->
   s₁.heap.get? a = some { cls := .type "list", data := .seq vs.toArray } -> IntsAre vs ns -> ns.length <= n -> s₁.gens = #[] ->
   codeAny (model l.prog w) callerA (.call (.ref fa) ⟨[.ref a], []⟩) (fun r s' => r = .ok (.ret (.bool true)) /\ OldK s₁.heap s'.heap /\ s'.os = s₁.os /\ AllBare s'.gens) s₁) :
  WalkO q loose XP YP l.row.toRowW d [] (fun f vs => PySem.call f vs) := by
 intro w s₀ s₁ mg mb G Y fa o pm cd doc dV kV ho hd hcd hD hmg hg args vals as hpre hlay hrd hwl hlo;obtain rfl : dV = .none := Dflts.none hD hdf;obtain rfl : kV = .none := Dflts.noKw hD;obtain ⟨a, vs, ns, rfl, rfl, hobj, hints, hlen⟩ := script_of hn hpre hwl;refine enter_call (codeAny_mono (call w s₀ s₁ mg mb fa o pm cd doc a vs ns G Y ho (fd_plain hd) hcd hmg hobj hints hlen hg) fun r s' hq => ?_);obtain ⟨rfl, h2, h3, h4⟩ := hq;exact ⟨.inl ⟨.bool true, .bool true, [], rfl, fun _ => rfl, .bool true, post_true l _, fun _ => ⟨List.Pairwise.nil, fun _ hm => (nomatch hm)⟩⟩, h2, h3, h4⟩
section
variable {prog : Program} {w : World} {A : Around} {E : Value -> Shared -> Prop} {s : Shared} {K : Frag}
end
end Att
namespace L2
open PySem PySem.Spec PyProof.Rows
theorem vals_ints : ∀ {vs : List Value} {ns : List Int}, IntsAre vs ns -> Vals (ns.map V.int) vs := by
 intro vs ns h
 induction h with
 | nil => exact .nil
 | cons n t h ih => exact .cons ⟨t, rfl⟩ ih
noncomputable def Only (H : Hp) : Prop := ∀ b, H b = none \/ ∃ o xs, H b = some (.frz o (.lst xs))
theorem law_call {P : Program} {w : World} {K : PySem.W.Frag} {mg mb : Str -> Option Value} {CX : CXT} {k : Nat} {fa a : Addr} {fd : FuncData} {x : Str} {sp : Sp} {s₁ : Shared} {vs : List Value} {ns : List Int}
  (KX : K.In s₁.heap) (hns : s₁.heap.Ns mainGlobals mg) (hb : s₁.heap.Ns builtinsNs mb) (hbb : ∀ x : Str, x ≠ "__name__" -> mb x = bootBuiltins x) (hlim : s₁.heap.NoLimit) (hg : s₁.gens = #[])
  (ha : s₁.heap.get? a = some { cls := .type "list", data := .seq vs.toArray }) (hi : IntsAre vs ns) (hl : ns.length <= sizeLine) (hr : Room k callerA)
  (F : ∀ base : Heap, K.In base -> base.Ns mainGlobals mg -> FnOk P w K mg base CX k fa fd [x] sp) (hbind : ∀ (s : Shared) (u : Value), BindsTo s fd ⟨[u], []⟩ [(x, u)])
  (hsp : ∀ H : Hp, Only H -> SqL K H a (ns.map V.int) -> sp [.ref a] H (fun v _ => v = .bl true) fun _ _ _ => False)
  (hCX : ∀ H e s', CX [] H s₁ (fun _ _ _ => False) e s' -> False) :
  codeAny (model P w) callerA (.call (.ref fa) ⟨[.ref a], []⟩) (fun r s' => r = .ok (.ret (.bool true)) /\ OldK s₁.heap s'.heap /\ s'.os = s₁.os /\ AllBare s'.gens) s₁ := by
 have rv := vals_ints hi;have lenV := hi.length
 -- from an abstract heap in which nothing but the script may be tracked
 have core : ∀ H : Hp, Only H -> SqL K H a (ns.map V.int) -> HOk P w H s₁.heap -> (∀ b, H b ≠ none -> b = a) -> (H a ≠ none -> K.lookup a = none) ->
   codeAny (model P w) callerA (.call (.ref fa) ⟨[.ref a], []⟩) (fun r s' => r = .ok (.ret (.bool true)) /\ OldK s₁.heap s'.heap /\ s'.os = s₁.os /\ AllBare s'.gens) s₁ := by
  intro H hO hS hok hA hK;have base_of : ∀ {b : Addr} {o : Obj}, s₁.heap.get? b = some o -> H b = none -> (hidT s₁.heap H).get? b = some o := fun e n => hidT_get e n
  have noA : ∀ {b : Addr} {o : Obj} {es : Array DictEntry} {ep : Nat}, s₁.heap.get? b = some o -> o.data = .dict es ep -> H b = none := fun {b o es ep} e d => by
   cases q : H b with
   | none => rfl
   | some u =>
    have e' : b = a := hA b (by rw [q]; simp);subst e';rw [ha] at e; cases e;have d' : Data.seq vs.toArray _ = Data.dict es ep := d;cases d'
  have nsK : ∀ {b : Addr} {m : Str -> Option Value}, s₁.heap.Ns b m -> (hidT s₁.heap H).Ns b m := fun {b m} ⟨o, es, ep, e, d, r⟩ => ⟨o, es, ep, base_of e (noA e d), d, r⟩
  have hKb : K.In (hidT s₁.heap H) := fun b o e => base_of (KX b o e) (by
   cases q : H b with
   | none => rfl
   | some u =>
    have e' : b = a := hA b (by rw [q]; simp);subst e';rw [hK (by rw [q]; simp)] at e; cases e)
  have hM : Mod K mg (hidT s₁.heap H) := ⟨hKb, nsK hns, ⟨mb, nsK hb, hbb⟩, let ⟨mc, h1, h2⟩ := hlim; ⟨mc, nsK h1, h2⟩⟩;have e0 : Env0 P w K mg (hidT s₁.heap H) callerA [] s₁ H := ⟨rfl, hM, fun b o e => of_hidT e, Nat.le_of_eq (hidT_size _ _), trivial, fun b hb => absurd (show b ∈ ([] : List Addr) from hb) (by simp), hok, .of_eq hg⟩;refine codeAny_mono ((F _ hKb (nsK hns)).run callerA [] s₁ H ⟨[.ref a], []⟩ [.ref a] [.ref a] _ _ hr e0 (hbind s₁ (.ref a)) (.cons rfl .nil) (hsp H hO hS)) fun r s' h => ?_
  cases r with
  | error e => exact (hCX H e s' h).elim
  | ok fl =>
   cases fl with
   | next => exact False.elim h
   | brk => exact False.elim h
   | cont => exact False.elim h
   | ret u =>
    obtain ⟨v, H', os, bare, un, hok', r', q⟩ := h;have q' : v = .bl true := q;subst q';obtain rfl : u = Value.bool true := r';refine ⟨rfl, OldK.of_keep fun b o e => ?_, os, bare⟩;cases q : H b with
    | none => exact un.keep b o e q (by intro z; exact absurd (show b ∈ ([] : List Addr) from z) (by simp)) (by simp)
    | some u =>
     rcases hO b with z | ⟨ob, xs, z⟩
     ·rw [q] at z; cases z
     ·have z2 := un.frzs b ob _ z
      obtain ⟨e1, _⟩ := hok b _ z;obtain ⟨e2, _⟩ := hok' b _ z2;rw [e] at e1; cases e1;exact e2
 cases hk : K.lookup a with
 | some o =>
  -- the script is one of the module's own objects
  have e := KX a o hk;rw [ha] at e;cases e;refine core (fun _ => none) (fun _ => .inl rfl) (.inr ⟨_, vs.toArray, _, hk, rfl, rfl, rfl, by rw [List.size_toArray, lenV]; exact hl, by simpa using rv⟩) (fun b u z => by have z' : (none : Option HO) = some u := z; cases z') (fun b z => absurd rfl z) fun z => absurd rfl z
 | none =>
  refine core (fun b => if b = a then some (.frz { cls := .type "list", data := .seq vs.toArray } (.lst (ns.map V.int))) else none) (fun b => ?_) (.inl (.inr ⟨{ cls := .type "list", data := .seq vs.toArray }, if_pos rfl⟩)) (fun b u z => ?_) (fun b z => ?_) fun _ => hk
  ·by_cases hb : b = a
   ·exact .inr ⟨_, _, if_pos hb⟩
   ·exact .inl (if_neg hb)
  ·by_cases hb : b = a
   ·have z' := (if_pos hb).symm.trans z
    cases z';subst hb;exact ⟨ha, by rw [List.length_map]; exact hl, vs, _, rv, ha⟩
   ·have z' := (if_neg hb).symm.trans z
    cases z'
  ·by_cases hb : b = a
   ·exact hb
   ·exact absurd (if_neg hb) z
noncomputable abbrev KOf {K : PySem.W.Frag} {h : Heap} (_ : K.In h) : PySem.W.Frag := K
theorem walk_of {l : PySem.W.OpenLaw} {n k : Nat} {q : Program} {loose : List Str} {XP : (Str -> Option Value) -> Heap -> Prop} {YP : World -> Heap -> Prop} {d : DefRec} {K : Params -> PySem.W.Frag} {CX : World -> CXT} {sp : World -> Sp} {x : Str}
  (hn : l.most = some n) (hn2 : n <= sizeLine) (hdf : d.params.defaults = []) (hr : Room k callerA)
  (hY : ∀ (w : World) (h : Heap), YP w h -> (K w.params).In h)
  (F : ∀ (w : World) (mg : Str -> Option Value) (fa : Addr) (h : Heap), (K w.params).In h -> h.Ns mainGlobals mg -> mg d.name = some (.ref fa) ->
   ∃ fd : FuncData, (∀ (s : Shared) (u : Value), BindsTo s fd ⟨[u], []⟩ [(x, u)]) /\
    ∀ base : Heap, (K w.params).In base -> base.Ns mainGlobals mg -> FnOk l.prog w (K w.params) mg base (CX w) k fa fd [x] (sp w))
  (hsp : ∀ (w : World) (H : Hp) (a : Addr) (ns : List Int), ns.length <= n -> Only H -> SqL (K w.params) H a (ns.map V.int) -> sp w [.ref a] H (fun v _ => v = .bl true) fun _ _ _ => False)
  (hCX : ∀ (w : World) (H : Hp) (s : Shared) (e : Value) (s' : Shared), CX w [] H s (fun _ _ _ => False) e s' -> False) :
  PySem.W.WalkO q loose XP YP l.row.toRowW d [] (fun f vs => PySem.call f vs) := by
 refine Att.attach_call hn hdf fun w s₀ s₁ mg mb fa o pm cd doc a vs ns G Y ho hd hcd hmg hobj hints hlen hg => ?_
 have KX := hY w _ Y;obtain ⟨fd, hb, hF⟩ := F w mg fa _ KX G.T.g hmg;exact law_call KX G.T.g G.T.b G.T.builtins G.T.nolimit hg hobj hints (Nat.le_trans hlen hn2) hr hF hb (fun H hO hS => hsp w H a ns hlen hO hS) fun H e s' => hCX w H s₁ e s'
noncomputable def defArgs (s : Stmt) : Arguments := match s with
 | .FunctionDef _ a _ _ _ _ _ _ _ _ => a
 | _ => { posonlyargs := [], args := [], vararg := none, kwonlyargs := [], kw_defaults := [], kwarg := none, defaults := [] }
noncomputable def defBody (s : Stmt) : List Stmt := match s with
 | .FunctionDef _ _ b _ _ _ _ _ _ _ => b
 | _ => []
noncomputable def defScope (s : Stmt) : Scope := match s with
 | .FunctionDef _ _ _ _ _ _ sc _ _ _ => sc
 | _ => { kind := .function, names := [], isGenerator := false, isCoroutine := false }
noncomputable abbrev CX0 : CXT := fun _ _ _ _ _ _ => False
noncomputable abbrev E0 : XK := fun _ _ _ => False
theorem pass0 {X : Cx} : Passes CX0 X E0 := fun _ _ _ _ _ _ _ h => h.elim
structure Fun (K : PySem.W.Frag) (x qual : Str) (st : Stmt) (f : Addr) (fd : FuncData) : Prop where
 ex : ∃ (oc : Value) (od : Option Addr) (kV doc pm : Value) (an : Option Addr) (cdv ct : Value) (osl : Array (Option Value)),
  fd = fnOf x qual (defArgs st) (defBody st) (defScope st) .none kV doc pm an cdv ct /\ K.lookup f = some ⟨oc, od, .func fd, osl⟩ /\ codeIn K cdv qual = true
 kp : keepIn K (.ref f) = true
section
variable {P : Program} {w : World} {K : PySem.W.Frag} {mg : Str -> Option Value} {base : Heap}
theorem Fun.ok {x qual : Str} {st : Stmt} {f : Addr} {fd : FuncData} {N ps : List Str} {k : Nat} {sp : Sp} (F : Fun K x qual st f fd) (S : FnScope N ps (defScope st)) (len : ∀ vs H Q E, sp vs H Q E -> vs.length = ps.length)
  (hbody : ∀ (cdv : Value) (A : Around) (outer : List Env) (s : Shared) (H : Hp) (vs : List V) (Q : VK) (E : XK), Room k (A.deeper (envOfC qual (defScope st) s.heap.objs.size f cdv)) -> sp vs H Q E ->
   ∃ t, PSs (cxOf CX0 P w K mg base N qual (defScope st) f cdv A outer s H E).nox (defBody st) t /\ t { nx := fun _ H' => Q .non H', rt := Q } (start N vs) H) : FnOk P w K mg base CX0 (k + 1) f fd ps sp := by
 obtain ⟨oc, od, kV, doc, pm, an, cdv, ct, osl, rfl, lk, hcd⟩ := F.ex;refine fn_of lk hcd S len fun A outer s H vs Q E hr hsp => ?_
 obtain ⟨t, h, q⟩ := hbody cdv A outer s H vs Q E hr hsp;exact ⟨t, h.nox, q⟩
theorem Fun.binds {x qual : Str} {st : Stmt} {f : Addr} {fd : FuncData} {ps : List Str} (F : Fun K x qual st f fd)
  (h : ∀ (kV doc pm : Value) (an : Option Addr) (cdv ct : Value) (us : List Value), us.length = ps.length -> bindArgs (fnOf x qual (defArgs st) (defBody st) (defScope st) .none kV doc pm an cdv ct) ⟨us, []⟩ = pure (ps.zip us)) : Binds K fd ps [] := by
 obtain ⟨oc, od, kV, doc, pm, an, cdv, ct, osl, rfl, lk, hcd⟩ := F.ex;exact .all (h kV doc pm an cdv ct)
theorem fun_mk {x qual : Str} {st : Stmt} {f : Addr} {oc : Value} {od an : Option Addr} {osl : Array (Option Value)} {kV doc pm cdv ct : Value} (l : K.lookup f = some ⟨oc, od, .func (fnOf x qual (defArgs st) (defBody st) (defScope st) .none kV doc pm an cdv ct), osl⟩)
  (c : codeIn K cdv qual = true) (k : keepIn K (.ref f) = true) : Fun K x qual st f (fnOf x qual (defArgs st) (defBody st) (defScope st) .none kV doc pm an cdv ct) := ⟨⟨oc, od, kV, doc, pm, an, cdv, ct, osl, rfl, l, c⟩, k⟩
end
theorem small1000 {n : Nat} (h : n <= 1000) : n < sizeLine := Nat.lt_of_le_of_lt h dC
section
variable {X : Cx}
end
end L2
set_option maxHeartbeats 4000000
namespace DD
open PySem L2
noncomputable def NT : HO -> Prop
 | .tup _ => False
 | _ => True
inductive D where
 | hole | cell | node (a : Addr) (vs : List V) | pin (a : Addr) (o : {o : HO // NT o})
 | non | bl (b : Bool) | int (i : Int) | str (x : Str) | ty (n : String) | cls (a : Addr)
 | lst (own : Bool) (xs : List D)
 | tup (xs : List D)
 | obj (own : Bool) (C : Addr) (ks : List Str) (xs : List D)
 | dct (own : Bool) (ks : List (List Key)) (xs : List D)
noncomputable def FL (K : PySem.W.Frag) (F : Addr -> Prop) (H : Hp) (a : Addr) (vs : List V) : Prop := (F a /\ Rd H a (.lst vs)) \/ ∀ H', SqL K H' a vs
noncomputable def FT (K : PySem.W.Frag) (F : Addr -> Prop) (H : Hp) (a : Addr) (vs : List V) (L : List Addr) : Prop := (F a /\ H a = some (.tup vs)) \/ ((∀ H' : Hp, False) /\ L = [])
mutual
noncomputable def Ow (K : PySem.W.Frag) (F : Addr -> Prop) (H : Hp) : D -> V -> List Addr -> Prop
 | .hole, _, L => L = []
 | .cell, v, L => ∃ (a : Addr) (o : {o : HO // NT o}), v = .ref a /\ H a = some o.1 /\ L = [a]
 | .node a vs, v, L => v = .ref a /\ H a = some (.lst vs) /\ L = [a]
 | .pin a o, v, L => v = .ref a /\ H a = some o.1 /\ L = [a]
 | .non, v, L => v = .non /\ L = []
 | .bl b, v, L => v = .bl b /\ L = []
 | .int i, v, L => v = .int i /\ L = []
 | .str x, v, L => v = .str x /\ L = []
 | .ty x, v, L => v = .ty x /\ L = []
 | .cls x, v, L => v = .ref x /\ L = []
 | .lst true xs, v, L => ∃ a vs L', v = .ref a /\ H a = some (.lst vs) /\ OwL K F H xs vs L' /\ L = a :: L'
 | .lst false xs, v, L => ∃ a vs, v = .ref a /\ FL K F H a vs /\ OwL K F H xs vs [] /\ L = []
 | .tup xs, v, L => ∃ a vs, v = .ref a /\ FT K F H a vs L /\ OwL K F H xs vs L
 | .obj true C ks xs, v, L => ∃ a dx vs L', v = .ref a /\ H a = some (.ins C dx (ks.zip vs)) /\ ks.length = vs.length /\ OwL K F H xs vs L' /\ L = a :: L'
 | .obj false C ks xs, v, L => ∃ a dx vs, v = .ref a /\ H a = some (.ins C dx (ks.zip vs)) /\ F a /\ ks.length = vs.length /\ OwL K F H xs vs [] /\ L = []
 | .dct true ks xs, v, L => ∃ a vs L', v = .ref a /\ H a = some (.dT (ks.zip vs)) /\ ks.length = vs.length /\ OwL K F H xs vs L' /\ L = a :: L'
 | .dct false ks xs, v, L => ∃ a vs, v = .ref a /\ H a = some (.dT (ks.zip vs)) /\ F a /\ ks.length = vs.length /\ OwL K F H xs vs [] /\ L = []
noncomputable def OwL (K : PySem.W.Frag) (F : Addr -> Prop) (H : Hp) : List D -> List V -> List Addr -> Prop
 | [], vs, L => vs = [] /\ L = []
 | x :: xs, vs, L => ∃ v ws L1 L2, vs = v :: ws /\ Ow K F H x v L1 /\ OwL K F H xs ws L2 /\ L = L1 ++ L2
end
mutual
noncomputable def D.fz : D -> D
 | .lst _ xs => .lst false (D.fzL xs)
 | .tup xs => .tup (D.fzL xs)
 | .obj _ C ks xs => .obj false C ks (D.fzL xs)
 | .dct _ ks xs => .dct false ks (D.fzL xs)
 | .cell => .hole
 | .node _ _ => .hole
 | .pin _ _ => .hole
 | d => d
noncomputable def D.fzL : List D -> List D
 | [] => []
 | x :: xs => D.fz x :: D.fzL xs
end
section
variable {K : PySem.W.Frag} {F F' : Addr -> Prop} {H H' : Hp}
mutual
theorem Ow.dom : ∀ {d : D} {v : V} {L : List Addr}, Ow K F H d v L -> ∀ a ∈ L, ∃ o, H a = some o
 | .hole, _, _, h, a, ha => by simp only [Ow] at h; subst h; cases ha
 | .cell, _, _, h, a, ha => by simp only [Ow] at h; obtain ⟨b, o, rfl, e, rfl⟩ := h; rw [List.mem_singleton.mp ha]; exact ⟨o, e⟩
 | .node _ _, _, _, h, a, ha => by simp only [Ow] at h; obtain ⟨rfl, e, rfl⟩ := h; rw [List.mem_singleton.mp ha]; exact ⟨_, e⟩
 | .pin _ _, _, _, h, a, ha => by simp only [Ow] at h; obtain ⟨rfl, e, rfl⟩ := h; rw [List.mem_singleton.mp ha]; exact ⟨_, e⟩
 | .non, _, _, h, a, ha => by simp only [Ow] at h; rw [h.2] at ha; cases ha
 | .bl _, _, _, h, a, ha => by simp only [Ow] at h; rw [h.2] at ha; cases ha
 | .int _, _, _, h, a, ha => by simp only [Ow] at h; rw [h.2] at ha; cases ha
 | .str _, _, _, h, a, ha => by simp only [Ow] at h; rw [h.2] at ha; cases ha
 | .ty _, _, _, h, a, ha => by simp only [Ow] at h; rw [h.2] at ha; cases ha
 | .cls _, _, _, h, a, ha => by simp only [Ow] at h; rw [h.2] at ha; cases ha
 | .lst true xs, _, _, h, a, ha => by
  simp only [Ow] at h;obtain ⟨b, vs, L', rfl, e, r, rfl⟩ := h;rcases List.mem_cons.mp ha with rfl | ha
  ·exact ⟨_, e⟩
  ·exact OwL.dom r a ha
 | .lst false xs, _, _, h, a, ha => by simp only [Ow] at h; obtain ⟨_, _, _, _, _, rfl⟩ := h; cases ha
 | .tup xs, _, _, h, a, ha => by simp only [Ow] at h; obtain ⟨_, _, _, _, r⟩ := h; exact OwL.dom r a ha
 | .obj true C ks xs, _, _, h, a, ha => by
  simp only [Ow] at h;obtain ⟨b, dx, vs, L', rfl, e, _, r, rfl⟩ := h;rcases List.mem_cons.mp ha with rfl | ha
  ·exact ⟨_, e⟩
  ·exact OwL.dom r a ha
 | .obj false C ks xs, _, _, h, a, ha => by simp only [Ow] at h; obtain ⟨_, _, _, _, _, _, _, _, rfl⟩ := h; cases ha
 | .dct true ks xs, _, _, h, a, ha => by
  simp only [Ow] at h;obtain ⟨b, vs, L', rfl, e, _, r, rfl⟩ := h;rcases List.mem_cons.mp ha with rfl | ha
  ·exact ⟨_, e⟩
  ·exact OwL.dom r a ha
 | .dct false ks xs, _, _, h, a, ha => by simp only [Ow] at h; obtain ⟨_, _, _, _, _, _, _, rfl⟩ := h; cases ha
theorem OwL.dom : ∀ {xs : List D} {vs : List V} {L : List Addr}, OwL K F H xs vs L -> ∀ a ∈ L, ∃ o, H a = some o
 | [], _, _, h, a, ha => by simp only [OwL] at h; rw [h.2] at ha; cases ha
 | x :: xs, _, _, h, a, ha => by
  simp only [OwL] at h;obtain ⟨v, ws, L1, L2, rfl, h1, h2, rfl⟩ := h;rcases List.mem_append.mp ha with ha | ha
  ·exact Ow.dom h1 a ha
  ·exact OwL.dom h2 a ha
end
noncomputable def Ext (F : Addr -> Prop) (H : Hp) (F' : Addr -> Prop) (H' : Hp) : Prop := ∀ a, F a -> F' a /\ H' a = H a
theorem Ext.refl : Ext F H F H := fun _ h => ⟨h, rfl⟩
theorem Ext.trans {F'' : Addr -> Prop} {H'' : Hp} (a : Ext F H F' H') (b : Ext F' H' F'' H'') : Ext F H F'' H'' := fun x h =>
 ⟨(b x (a x h).1).1, ((b x (a x h).1).2).trans (a x h).2⟩
theorem Rd.eq {a : Addr} {u : HO} (h : Rd H a u) (e : H' a = H a) : Rd H' a u := by
 rcases h with h | ⟨o, h⟩
 ·exact .inl (e.trans h)
 ·exact .inr ⟨o, e.trans h⟩
theorem FL.ext {a : Addr} {vs : List V} (h : FL K F H a vs) (x : Ext F H F' H') : FL K F' H' a vs := by
 rcases h with ⟨f, r⟩ | h
 ·exact .inl ⟨(x a f).1, Rd.eq r (x a f).2⟩
 ·exact .inr h
theorem FT.ext {a : Addr} {vs : List V} {L : List Addr} (h : FT K F H a vs L) (x : Ext F H F' H') : FT K F' H' a vs L := by
 rcases h with ⟨f, r⟩ | h
 ·exact .inl ⟨(x a f).1, (x a f).2.trans r⟩
 ·exact .inr h
theorem FT.nil {a : Addr} {vs : List V} {L : List Addr} (h : FT K F H a vs L) : FT K F H a vs [] := by
 rcases h with h | h
 ·exact .inl h
 ·exact .inr ⟨h.1, rfl⟩
theorem FL.sq {a : Addr} {vs : List V} (h : FL K F H a vs) : SqL K H a vs := by
 rcases h with ⟨_, r⟩ | h
 ·exact .inl r
 ·exact h H
theorem FT.sq {a : Addr} {vs : List V} {L : List Addr} (h : FT K F H a vs L) : SqT K H a vs := by
 rcases h with ⟨_, r⟩ | h
 ·exact .inl (.inl r)
 ·exact (h.1 H).elim
mutual
theorem Ow.mono (x : Ext F H F' H') : ∀ {d : D} {v : V} {L : List Addr}, Ow K F H d v L -> (∀ a ∈ L, H' a = H a) -> Ow K F' H' d v L
 | .hole, _, _, h, _ => by simp only [Ow] at h ⊢; exact h
 | .cell, _, _, h, k => by simp only [Ow] at h ⊢; obtain ⟨b, o, rfl, e, rfl⟩ := h; exact ⟨b, o, rfl, (k b (by simp)).trans e, rfl⟩
 | .node _ _, _, _, h, k => by simp only [Ow] at h ⊢; obtain ⟨rfl, e, rfl⟩ := h; exact ⟨rfl, (k _ (by simp)).trans e, rfl⟩
 | .pin _ _, _, _, h, k => by simp only [Ow] at h ⊢; obtain ⟨rfl, e, rfl⟩ := h; exact ⟨rfl, (k _ (by simp)).trans e, rfl⟩
 | .non, _, _, h, _ => by simp only [Ow] at h ⊢; exact h
 | .bl _, _, _, h, _ => by simp only [Ow] at h ⊢; exact h
 | .int _, _, _, h, _ => by simp only [Ow] at h ⊢; exact h
 | .str _, _, _, h, _ => by simp only [Ow] at h ⊢; exact h
 | .ty _, _, _, h, _ => by simp only [Ow] at h ⊢; exact h
 | .cls _, _, _, h, _ => by simp only [Ow] at h ⊢; exact h
 | .lst true xs, _, _, h, k => by
  simp only [Ow] at h ⊢;obtain ⟨b, vs, L', rfl, e, r, rfl⟩ := h;exact ⟨b, vs, L', rfl, (k b (by simp)).trans e, OwL.mono x r fun a ha => k a (by simp [ha]), rfl⟩
 | .lst false xs, _, _, h, k => by
  simp only [Ow] at h ⊢;obtain ⟨b, vs, rfl, e, r, rfl⟩ := h;exact ⟨b, vs, rfl, e.ext x, OwL.mono x r (fun a ha => by cases ha), rfl⟩
 | .tup xs, _, _, h, k => by
  simp only [Ow] at h ⊢;obtain ⟨b, vs, rfl, e, r⟩ := h;exact ⟨b, vs, rfl, e.ext x, OwL.mono x r k⟩
 | .obj true C ks xs, _, _, h, k => by
  simp only [Ow] at h ⊢;obtain ⟨b, dx, vs, L', rfl, e, el, r, rfl⟩ := h;exact ⟨b, dx, vs, L', rfl, (k b (by simp)).trans e, el, OwL.mono x r fun a ha => k a (by simp [ha]), rfl⟩
 | .obj false C ks xs, _, _, h, k => by
  simp only [Ow] at h ⊢;obtain ⟨b, dx, vs, rfl, e, f, el, r, rfl⟩ := h;exact ⟨b, dx, vs, rfl, (x b f).2.trans e, (x b f).1, el, OwL.mono x r (fun a ha => by cases ha), rfl⟩
 | .dct true ks xs, _, _, h, k => by
  simp only [Ow] at h ⊢;obtain ⟨b, vs, L', rfl, e, el, r, rfl⟩ := h;exact ⟨b, vs, L', rfl, (k b (by simp)).trans e, el, OwL.mono x r fun a ha => k a (by simp [ha]), rfl⟩
 | .dct false ks xs, _, _, h, k => by
  simp only [Ow] at h ⊢;obtain ⟨b, vs, rfl, e, f, el, r, rfl⟩ := h;exact ⟨b, vs, rfl, (x b f).2.trans e, (x b f).1, el, OwL.mono x r (fun a ha => by cases ha), rfl⟩
theorem OwL.mono (x : Ext F H F' H') : ∀ {xs : List D} {vs : List V} {L : List Addr}, OwL K F H xs vs L -> (∀ a ∈ L, H' a = H a) -> OwL K F' H' xs vs L
 | [], _, _, h, _ => by simp only [OwL] at h ⊢; exact h
 | y :: xs, _, _, h, k => by
  simp only [OwL] at h ⊢;obtain ⟨v, ws, L1, L2, rfl, h1, h2, rfl⟩ := h;exact ⟨v, ws, L1, L2, rfl, Ow.mono x h1 fun a ha => k a (by simp [ha]), OwL.mono x h2 fun a ha => k a (by simp [ha]), rfl⟩
end
mutual
theorem Ow.fz (fs : ∀ a, F a -> F' a) : ∀ {d : D} {v : V} {L : List Addr}, Ow K F H d v L -> (∀ a ∈ L, F' a) -> Ow K F' H d.fz v []
 | .hole, _, _, h, _ => by simp only [Ow, D.fz] at h ⊢
 | .cell, _, _, h, k => by simp only [Ow, D.fz] at h ⊢
 | .node _ _, _, _, h, k => by simp only [Ow, D.fz] at h ⊢
 | .pin _ _, _, _, h, k => by simp only [Ow, D.fz] at h ⊢
 | .non, _, _, h, _ => by simp only [Ow, D.fz] at h ⊢; exact ⟨h.1, trivial⟩
 | .bl _, _, _, h, _ => by simp only [Ow, D.fz] at h ⊢; exact ⟨h.1, trivial⟩
 | .int _, _, _, h, _ => by simp only [Ow, D.fz] at h ⊢; exact ⟨h.1, trivial⟩
 | .str _, _, _, h, _ => by simp only [Ow, D.fz] at h ⊢; exact ⟨h.1, trivial⟩
 | .ty _, _, _, h, _ => by simp only [Ow, D.fz] at h ⊢; exact ⟨h.1, trivial⟩
 | .cls _, _, _, h, _ => by simp only [Ow, D.fz] at h ⊢; exact ⟨h.1, trivial⟩
 | .lst true xs, _, _, h, k => by
  simp only [Ow, D.fz] at h ⊢;obtain ⟨b, vs, L', rfl, e, r, rfl⟩ := h;exact ⟨b, vs, rfl, .inl ⟨k b (by simp), .inl e⟩, OwL.fz fs r fun a ha => k a (by simp [ha]), trivial⟩
 | .lst false xs, _, _, h, k => by
  simp only [Ow, D.fz] at h ⊢;obtain ⟨b, vs, rfl, e, r, rfl⟩ := h;exact ⟨b, vs, rfl, e.ext (fun a f => ⟨fs a f, rfl⟩), OwL.fz fs r (fun a ha => by cases ha), trivial⟩
 | .tup xs, _, _, h, k => by
  simp only [Ow, D.fz] at h ⊢;obtain ⟨b, vs, rfl, e, r⟩ := h;exact ⟨b, vs, rfl, (e.ext (fun a f => ⟨fs a f, rfl⟩)).nil, OwL.fz fs r k⟩
 | .obj true C ks xs, _, _, h, k => by
  simp only [Ow, D.fz] at h ⊢;obtain ⟨b, dx, vs, L', rfl, e, el, r, rfl⟩ := h;exact ⟨b, dx, vs, rfl, e, k b (by simp), el, OwL.fz fs r fun a ha => k a (by simp [ha]), trivial⟩
 | .obj false C ks xs, _, _, h, k => by
  simp only [Ow, D.fz] at h ⊢;obtain ⟨b, dx, vs, rfl, e, f, el, r, rfl⟩ := h;exact ⟨b, dx, vs, rfl, e, fs b f, el, OwL.fz fs r (fun a ha => by cases ha), trivial⟩
 | .dct true ks xs, _, _, h, k => by
  simp only [Ow, D.fz] at h ⊢;obtain ⟨b, vs, L', rfl, e, el, r, rfl⟩ := h;exact ⟨b, vs, rfl, e, k b (by simp), el, OwL.fz fs r fun a ha => k a (by simp [ha]), trivial⟩
 | .dct false ks xs, _, _, h, k => by
  simp only [Ow, D.fz] at h ⊢;obtain ⟨b, vs, rfl, e, f, el, r, rfl⟩ := h;exact ⟨b, vs, rfl, e, fs b f, el, OwL.fz fs r (fun a ha => by cases ha), trivial⟩
theorem OwL.fz (fs : ∀ a, F a -> F' a) : ∀ {xs : List D} {vs : List V} {L : List Addr}, OwL K F H xs vs L -> (∀ a ∈ L, F' a) -> OwL K F' H (D.fzL xs) vs []
 | [], _, _, h, _ => by simp only [OwL, D.fzL] at h ⊢; exact ⟨h.1, trivial⟩
 | y :: xs, _, _, h, k => by
  simp only [OwL, D.fzL] at h ⊢;obtain ⟨v, ws, L1, L2, rfl, h1, h2, rfl⟩ := h;exact ⟨v, ws, [], [], rfl, Ow.fz fs h1 fun a ha => k a (by simp [ha]), OwL.fz fs h2 fun a ha => k a (by simp [ha]), rfl⟩
end
noncomputable abbrev Ro := List (D × V)
noncomputable def OwP (K : PySem.W.Frag) (F : Addr -> Prop) (H : Hp) : Ro -> List Addr -> Prop
 | [], L => L = []
 | (d, v) :: R, L => ∃ L1 L2, Ow K F H d v L1 /\ OwP K F H R L2 /\ L = L1 ++ L2
theorem OwP.dom : ∀ {R : Ro} {L : List Addr}, OwP K F H R L -> ∀ a ∈ L, ∃ o, H a = some o
 | [], _, h, a, ha => by cases h; cases ha
 | (d, v) :: R, _, ⟨L1, L2, h1, h2, e⟩, a, ha => by
  subst e;rcases List.mem_append.mp ha with ha | ha
  ·exact h1.dom a ha
  ·exact OwP.dom h2 a ha
theorem OwP.mono (x : Ext F H F' H') : ∀ {R : Ro} {L : List Addr}, OwP K F H R L -> (∀ a ∈ L, H' a = H a) -> OwP K F' H' R L
 | [], _, h, _ => h
 | (d, v) :: R, _, ⟨L1, L2, h1, h2, e⟩, k => ⟨L1, L2, h1.mono x fun a ha => k a (by simp [e, ha]), OwP.mono x h2 fun a ha => k a (by simp [e, ha]), e⟩
theorem OwP.append : ∀ {R S : Ro} {L M : List Addr}, OwP K F H R L -> OwP K F H S M -> OwP K F H (R ++ S) (L ++ M)
 | [], _, _, _, h, k => by cases h; exact k
 | (d, v) :: R, _, _, _, ⟨L1, L2, h1, h2, e⟩, k => ⟨L1, L2 ++ _, h1, OwP.append h2 k, by rw [e, List.append_assoc]⟩
theorem OwP.split : ∀ {R S : Ro} {N : List Addr}, OwP K F H (R ++ S) N -> ∃ L M, N = L ++ M /\ OwP K F H R L /\ OwP K F H S M
 | [], _, N, h => ⟨[], N, rfl, rfl, h⟩
 | (d, v) :: R, _, _, ⟨L1, L2, h1, h2, e⟩ => by
  obtain ⟨L, M, e2, a, b⟩ := OwP.split h2;exact ⟨L1 ++ L, M, by rw [e, e2, List.append_assoc], ⟨L1, L, h1, a, rfl⟩, b⟩
theorem OwP.perm {R S : Ro} (p : R.Perm S) : ∀ {L : List Addr}, OwP K F H R L -> ∃ M, L.Perm M /\ OwP K F H S M := by
 induction p with
 | nil => intro L h; exact ⟨L, .refl _, h⟩
 | cons x _ ih =>
  rintro L ⟨L1, L2, h1, h2, e⟩;obtain ⟨M, pm, h3⟩ := ih h2;subst e;exact ⟨L1 ++ M, pm.append_left L1, L1, M, h1, h3, rfl⟩
 | swap x y l =>
  rintro L ⟨L1, L2, h1, ⟨L3, L4, h3, h4, e2⟩, e⟩;subst e; subst e2;refine ⟨L3 ++ (L1 ++ L4), ?_, L3, L1 ++ L4, h3, ⟨L1, L4, h1, h4, rfl⟩, rfl⟩;rw [<- List.append_assoc, <- List.append_assoc];exact List.perm_append_comm.append_right L4
 | trans _ _ ih1 ih2 =>
  intro L h;obtain ⟨M, p1, h1⟩ := ih1 h;obtain ⟨N, p2, h2⟩ := ih2 h1;exact ⟨N, p1.trans p2, h2⟩
theorem OwL.toP : ∀ {xs : List D} {vs : List V} {L : List Addr}, OwL K F H xs vs L -> xs.length = vs.length /\ OwP K F H (xs.zip vs) L
 | [], _, _, h => by simp only [OwL] at h; obtain ⟨rfl, rfl⟩ := h; exact ⟨rfl, rfl⟩
 | x :: xs, _, _, h => by
  simp only [OwL] at h;obtain ⟨v, ws, L1, L2, rfl, h1, h2, rfl⟩ := h;have r := h2.toP;exact ⟨by simp [r.1], L1, L2, h1, r.2, rfl⟩
theorem OwL.ofP : ∀ {xs : List D} {vs : List V} {L : List Addr}, xs.length = vs.length -> OwP K F H (xs.zip vs) L -> OwL K F H xs vs L
 | [], [], _, _, h => by simp only [OwL]; exact ⟨trivial, h⟩
 | x :: xs, v :: vs, _, e, h => by
  obtain ⟨L1, L2, h1, h2, e2⟩ := h;simp only [OwL];exact ⟨v, vs, L1, L2, rfl, h1, OwL.ofP (by simpa using e) h2, e2⟩
structure G (K : PySem.W.Frag) (F : Addr -> Prop) (H : Hp) (R : Ro) : Prop where
 own : ∃ L, OwP K F H R L /\ L.Nodup /\ ∀ a ∈ L, ¬ F a
 dom : ∀ a, F a -> ∃ o, H a = some o
variable {R S : Ro} {d : D} {v : V}
theorem G.perm (g : G K F H R) (p : R.Perm S) : G K F H S := by
 obtain ⟨L, h, n, f⟩ := g.own;obtain ⟨M, pm, h'⟩ := h.perm p;exact ⟨⟨M, h', pm.nodup_iff.mp n, fun a ha => f a (pm.mem_iff.mpr ha)⟩, g.dom⟩
theorem G.pop (g : G K F H ((d, v) :: R)) : G K F H R := by
 obtain ⟨L, ⟨L1, L2, h1, h2, rfl⟩, n, f⟩ := g.own;exact ⟨⟨L2, h2, (List.nodup_append.mp n).2.1, fun a ha => f a (by simp [ha])⟩, g.dom⟩
theorem G.popN (g : G K F H (S ++ R)) : G K F H R := by
 induction S with
 | nil => exact g
 | cons x S ih => exact ih (G.pop (d := x.1) (v := x.2) g)
noncomputable def Bor (K : PySem.W.Frag) (F : Addr -> Prop) (H : Hp) (d : D) (v : V) : Prop := ∃ L, Ow K F H d v L
theorem G.bor (g : G K F H R) (h : (d, v) ∈ R) : Bor K F H d v := by
 obtain ⟨A, B, rfl⟩ := List.append_of_mem h;obtain ⟨L, ⟨L1, L2, h1, h2, rfl⟩, n, f⟩ := (g.popN).own;exact ⟨L1, h1⟩
theorem G.push (g : G K F H R) (h : Ow K F H d v []) : G K F H ((d, v) :: R) := by
 obtain ⟨L, h1, n, f⟩ := g.own;exact ⟨⟨L, ⟨[], L, h, h1, rfl⟩, n, f⟩, g.dom⟩
theorem G.alloc {p : Addr} {o : HO} (g : G K F H R) (hp : H p = none) (hn : autoParam (NT o) Ax6._auto_1) : G K F (upd H p o) ((.cell, .ref p) :: R) /\ Ext F H F (upd H p o) := by
 obtain ⟨L, h1, n, f⟩ := g.own;have nF : ∀ a, F a -> a ≠ p := fun a fa e => by obtain ⟨o, h⟩ := g.dom a fa; rw [e, hp] at h; cases h
 have nL : ∀ a ∈ L, a ≠ p := fun a ha e => by obtain ⟨o, h⟩ := h1.dom a ha; rw [e, hp] at h; cases h
 have x : Ext F H F (upd H p o) := fun a fa => ⟨fa, upd_ne (nF a fa)⟩
 refine ⟨⟨⟨p :: L, ⟨[p], L, ?_, h1.mono x fun a ha => upd_ne (nL a ha), rfl⟩, List.nodup_cons.mpr ⟨fun h => nL p h rfl, n⟩, fun a ha fa => ?_⟩, fun a fa => ?_⟩, x⟩
 ·simp only [Ow]; exact ⟨p, ⟨o, hn⟩, rfl, upd_same, rfl⟩
 ·rcases List.mem_cons.mp ha with rfl | ha
  ·exact nF _ fa rfl
  ·exact f a ha fa
 ·rw [upd_ne (nF a fa)]; exact g.dom a fa
theorem G.write {a : Addr} {o : HO} (g : G K F H ((.cell, .ref a) :: R)) (hn : autoParam (NT o) Ax6._auto_1) : G K F (upd H a o) ((.cell, .ref a) :: R) /\ Ext F H F (upd H a o) := by
 obtain ⟨L, ⟨L1, L2, h1, h2, rfl⟩, n, f⟩ := g.own;simp only [Ow] at h1;obtain ⟨b, ob, e, hb, rfl⟩ := h1;cases e;have nF : ∀ c, F c -> c ≠ a := fun c fc e => f a (by simp) (e ▸ fc)
 have nL : ∀ c ∈ L2, c ≠ a := fun c hc e => (List.nodup_cons.mp n).1 (e ▸ hc)
 have x : Ext F H F (upd H a o) := fun c fc => ⟨fc, upd_ne (nF c fc)⟩
 refine ⟨⟨⟨[a] ++ L2, ⟨[a], L2, ?_, h2.mono x fun c hc => upd_ne (nL c hc), rfl⟩, n, f⟩, fun c fc => ?_⟩, x⟩
 ·simp only [Ow]; exact ⟨a, ⟨o, hn⟩, rfl, upd_same, rfl⟩
 ·rw [upd_ne (nF c fc)]; exact g.dom c fc
theorem G.openL {xs : List D} (g : G K F H ((.lst true xs, v) :: R)) : ∃ a vs, v = .ref a /\ H a = some (.lst vs) /\ xs.length = vs.length /\ G K F H ((.cell, .ref a) :: (xs.zip vs ++ R)) := by
 obtain ⟨L, ⟨L1, L2, h1, h2, rfl⟩, n, f⟩ := g.own;simp only [Ow] at h1;obtain ⟨a, vs, L', rfl, e, r, rfl⟩ := h1;refine ⟨a, vs, rfl, e, r.toP.1, ⟨a :: L' ++ L2, ⟨[a], L' ++ L2, ?_, r.toP.2.append h2, rfl⟩, n, f⟩, g.dom⟩;simp only [Ow]; exact ⟨a, ⟨.lst vs, trivial⟩, rfl, e, rfl⟩
theorem G.formL {xs : List D} {vs : List V} {a : Addr} (g : G K F H ((.cell, .ref a) :: (xs.zip vs ++ R))) (hl : xs.length = vs.length) (e : H a = some (.lst vs)) : G K F H ((.lst true xs, .ref a) :: R) := by
 obtain ⟨L, ⟨L1, L2, h1, h2, rfl⟩, n, f⟩ := g.own;simp only [Ow] at h1;obtain ⟨b, ob, e', hb, rfl⟩ := h1;cases e';obtain ⟨M, N, rfl, hm, hn⟩ := h2.split;refine ⟨⟨(a :: M) ++ N, ⟨a :: M, N, ?_, hn, rfl⟩, by simpa using n, fun c hc => f c (by simpa using hc)⟩, g.dom⟩;simp only [Ow];exact ⟨a, vs, M, rfl, e, OwL.ofP hl hm, rfl⟩
theorem G.openT {xs : List D} (g : G K F H ((.tup xs, v) :: R)) : ∃ a vs, v = .ref a /\ FT K F H a vs [] /\ xs.length = vs.length /\ G K F H (xs.zip vs ++ R) := by
 obtain ⟨L, ⟨L1, L2, h1, h2, rfl⟩, n, f⟩ := g.own;simp only [Ow] at h1;obtain ⟨a, vs, rfl, e, r⟩ := h1;exact ⟨a, vs, rfl, e.nil, r.toP.1, ⟨L1 ++ L2, r.toP.2.append h2, n, f⟩, g.dom⟩
theorem G.formT {xs : List D} {vs : List V} {a : Addr} (g : G K F H (xs.zip vs ++ R)) (hl : xs.length = vs.length) (e : F a /\ H a = some (.tup vs)) : G K F H ((.tup xs, .ref a) :: R) := by
 obtain ⟨L, h, n, f⟩ := g.own;obtain ⟨M, N, rfl, hm, hn⟩ := h.split;refine ⟨⟨M ++ N, ⟨M, N, ?_, hn, rfl⟩, n, f⟩, g.dom⟩;simp only [Ow];exact ⟨a, vs, rfl, .inl e, OwL.ofP hl hm⟩
theorem G.freeze (g : G K F H ((d, v) :: R)) : ∃ F', Ext F H F' H /\ G K F' H ((d.fz, v) :: R) /\ Ow K F' H d.fz v [] := by
 obtain ⟨L, ⟨L1, L2, h1, h2, rfl⟩, n, f⟩ := g.own;have x : Ext F H (fun a => F a \/ a ∈ L1) H := fun a h => ⟨.inl h, rfl⟩
 have z : Ow K (fun a => F a \/ a ∈ L1) H d.fz v [] := h1.fz (fun a h => .inl h) fun a h => .inr h
 refine ⟨fun a => F a \/ a ∈ L1, x, ⟨⟨L2, ⟨[], L2, z, h2.mono x fun _ _ => rfl, rfl⟩, (List.nodup_append.mp n).2.1, fun a ha fa => ?_⟩, fun a fa => ?_⟩, z⟩
 ·rcases fa with fa | fa
  ·exact f a (by simp [ha]) fa
  ·exact (List.nodup_append.mp n).2.2 a fa a ha rfl
 ·rcases fa with fa | fa
  ·exact g.dom a fa
  ·exact h1.dom a fa
theorem G.layT {xs : List D} {vs : List V} {p : Addr} (g : G K F H (xs.zip vs ++ R)) (hl : xs.length = vs.length) (hp : H p = none) :
  ∃ F', Ext F H F' (upd H p (.tup vs)) /\ G K F' (upd H p (.tup vs)) ((.tup xs, .ref p) :: R) := by
 obtain ⟨L, h1, n, f⟩ := g.own;have nF : ∀ a, F a -> a ≠ p := fun a fa e => by obtain ⟨o, h⟩ := g.dom a fa; rw [e, hp] at h; cases h
 have nL : ∀ a ∈ L, a ≠ p := fun a ha e => by obtain ⟨o, h⟩ := h1.dom a ha; rw [e, hp] at h; cases h
 have x : Ext F H (fun a => F a \/ a = p) (upd H p (.tup vs)) := fun a fa => ⟨.inl fa, upd_ne (nF a fa)⟩
 refine ⟨_, x, G.formT (a := p) ⟨⟨L, h1.mono x fun a ha => upd_ne (nL a ha), n, fun a ha fa => ?_⟩, fun a fa => ?_⟩ hl ⟨.inr rfl, upd_same⟩⟩
 ·rcases fa with fa | fa
  ·exact f a ha fa
  ·exact nL a ha fa
 ·rcases fa with fa | fa
  ·rw [upd_ne (nF a fa)]; exact g.dom a fa
  ·subst fa; exact ⟨_, upd_same⟩
theorem G.ext (g : G K F H R) (x : Ext F H F' H') (k : ∀ a o, H a = some o -> H' a = some o) (fr : ∀ a, F' a -> F a \/ H a = none) (dm : ∀ a, F' a -> ∃ o, H' a = some o) : G K F' H' R := by
 obtain ⟨L, h, n, f⟩ := g.own;refine ⟨⟨L, h.mono x fun a ha => ?_, n, fun a ha fa => ?_⟩, dm⟩
 ·obtain ⟨o, e⟩ := h.dom a ha
  rw [e, k a o e]
 ·obtain ⟨o, e⟩ := h.dom a ha
  rcases fr a fa with z | z
  ·exact f a ha z
  ·rw [e] at z; cases z
end
section
variable {K : PySem.W.Frag} {F F' : Addr -> Prop} {H H' : Hp}
noncomputable abbrev DSt := List (Option D)
noncomputable def sl : DSt -> St -> Ro
 | some d :: σD, some v :: σ => (d, v) :: sl σD σ
 | some _ :: σD, none :: σ => sl σD σ
 | none :: σD, _ :: σ => sl σD σ
 | _, _ => []
noncomputable def Mt : DSt -> St -> Prop
 | [], [] => True
 | none :: σD, _ :: σ => Mt σD σ
 | some _ :: σD, some _ :: σ => Mt σD σ
 | _, _ => False
theorem Mt.length : ∀ {σD : DSt} {σ : St}, Mt σD σ -> σD.length = σ.length
 | [], [], _ => rfl
 | none :: σD, _ :: σ, h => by simp [Mt.length (σD := σD) (σ := σ) h]
 | some _ :: σD, some _ :: σ, h => by simp [Mt.length (σD := σD) (σ := σ) h]
theorem Mt.get : ∀ {σD : DSt} {σ : St} {i : Nat} {d : D}, Mt σD σ -> σD[i]? = some (some d) -> ∃ v, σ[i]? = some (some v) := by
 intro σD
 induction σD with
 | nil => intro σ i d h e; simp at e
 | cons x σD ih =>
  intro σ i d h e;cases σ with
  | nil => cases x <;> exact h.elim
  | cons o σ =>
   cases i with
   | zero =>
    simp at e; subst e;cases o with
    | none => exact h.elim
    | some z => exact ⟨z, rfl⟩
   | succ i =>
    have e' : σD[i]? = some (some d) := by simpa using e
    cases x with
    | none => simpa using ih (σ := σ) h e'
    | some y => cases o with
     | none => exact h.elim
     | some z => simpa using ih (σ := σ) h e'
theorem Mt.clear : ∀ {σD : DSt} {σ : St} (i : Nat), Mt σD σ -> Mt (σD.set i none) σ := by
 intro σD
 induction σD with
 | nil =>
  intro σ i h;exact h
 | cons x σD ih =>
  intro σ i h;cases σ with
  | nil => cases x <;> exact h.elim
  | cons o σ =>
   have h' : Mt σD σ := by
    cases x with
    | none => exact h
    | some y => cases o with
     | none => exact h.elim
     | some z => exact h
   cases i with
   | zero => exact h'
   | succ i =>
    have := ih i h'
    cases x with
    | none => exact this
    | some y => cases o with
     | none => exact h.elim
     | some z => exact this
theorem Mt.put : ∀ {σD : DSt} {σ : St} {i : Nat} {v : V} (d : D), Mt σD σ -> σ[i]? = some (some v) -> Mt (σD.set i (some d)) σ := by
 intro σD
 induction σD with
 | nil =>
  intro σ i v d h e;cases σ with
  | nil => simp at e
  | cons o σ => exact h.elim
 | cons x σD ih =>
  intro σ i v d h e;cases σ with
  | nil => cases x <;> exact h.elim
  | cons o σ =>
   cases i with
   | zero =>
    simp at e; subst e;cases x <;> exact h
   | succ i =>
    have e' : σ[i]? = some (some v) := by simpa using e
    cases x with
    | none => exact ih (σ := σ) d h e'
    | some y => cases o with
     | none => exact h.elim
     | some z => exact ih (σ := σ) d h e'
theorem Mt.store : ∀ {σD : DSt} {σ : St} (i : Nat) (v : V) (d : D), Mt σD σ -> Mt (σD.set i (some d)) (σ.set i (some v)) := by
 intro σD
 induction σD with
 | nil =>
  intro σ i v d h;cases σ with
  | nil => exact h
  | cons o σ => exact h.elim
 | cons x σD ih =>
  intro σ i v d h;cases σ with
  | nil => cases x <;> exact h.elim
  | cons o σ =>
   have h' : Mt σD σ := by
    cases x with
    | none => exact h
    | some y => cases o with
     | none => exact h.elim
     | some z => exact h
   cases i with
   | zero => exact h'
   | succ i =>
    have := ih i v d h'
    cases x with
    | none => exact this
    | some y => cases o with
     | none => exact h.elim
     | some z => exact this
theorem sl_take : ∀ {σD : DSt} {σ : St} {i : Nat} {d : D} {v : V}, σD[i]? = some (some d) -> σ[i]? = some (some v) -> (sl σD σ).Perm ((d, v) :: sl (σD.set i none) σ) := by
 intro σD
 induction σD with
 | nil => intro σ i d v e; simp at e
 | cons x σD ih =>
  intro σ i d v e e';cases σ with
  | nil => simp at e'
  | cons o σ =>
   cases i with
   | zero =>
    simp at e e'; subst e; subst e';exact .refl _
   | succ i =>
    have q := ih (σ := σ) (i := i) (d := d) (v := v) (by simpa using e) (by simpa using e');cases x with
    | none => exact q
    | some y => cases o with
     | none => exact q
     | some z => exact (q.cons _).trans (.swap _ _ _)
theorem sl_none : ∀ {σD : DSt} {σ : St} {i : Nat}, σD[i]? = some none -> sl (σD.set i none) σ = sl σD σ
 | [], _, _, e => by simp at e
 | none :: σD, [], 0, _ => rfl
 | none :: σD, o :: σ, 0, _ => rfl
 | some _ :: σD, _, 0, e => by simp at e
 | x :: σD, [], i + 1, e => by cases x <;> rfl
 | none :: σD, _ :: σ, i + 1, e => sl_none (σD := σD) (σ := σ) (i := i) (by simpa using e)
 | some x :: σD, none :: σ, i + 1, e => sl_none (σD := σD) (σ := σ) (i := i) (by simpa using e)
 | some x :: σD, some y :: σ, i + 1, e => by
  show (x, y) :: sl (σD.set i none) σ = (x, y) :: sl σD σ;rw [sl_none (σD := σD) (σ := σ) (i := i) (by simpa using e)]
theorem sl_put : ∀ {σD : DSt} {σ : St} {i : Nat} {v : V} (d : D), i < σD.length -> σ[i]? = some (some v) -> (sl (σD.set i (some d)) σ).Perm ((d, v) :: sl (σD.set i none) σ) := fun {σD σ i v} d h e => by
 have h1 := sl_take (σD := σD.set i (some d)) (σ := σ) (i := i) (d := d) (v := v) (by simp [h]) e;rw [List.set_set] at h1;exact h1
theorem sl_store : ∀ {σD : DSt} {σ : St} {i : Nat} {v : V}, sl (σD.set i none) (σ.set i (some v)) = sl (σD.set i none) σ
 | [], _, _, _ => by simp [sl]
 | x :: σD, [], i, _ => by simp
 | x :: σD, o :: σ, 0, _ => by cases o <;> rfl
 | none :: σD, o :: σ, i + 1, _ => sl_store (σD := σD) (σ := σ) (i := i)
 | some x :: σD, none :: σ, i + 1, _ => sl_store (σD := σD) (σ := σ) (i := i)
 | some x :: σD, some y :: σ, i + 1, _ => by
  show (x, y) :: sl (σD.set i none) (σ.set i _) = (x, y) :: sl (σD.set i none) σ;rw [sl_store (σD := σD) (σ := σ) (i := i)]
theorem G.clear {σD : DSt} {σ : St} {R : Ro} (i : Nat) (m : Mt σD σ) (g : G K F H (sl σD σ ++ R)) : G K F H (sl (σD.set i none) σ ++ R) := by
 rcases h : σD[i]? with _ | _ | d
 ·rw [List.set_eq_of_length_le (List.getElem?_eq_none_iff.mp h)]; exact g
 ·rw [sl_none h]; exact g
 ·obtain ⟨v, hv⟩ := m.get h
  exact G.pop (d := d) (v := v) (g.perm ((sl_take h hv).append_right R))
structure Rel (K : PySem.W.Frag) (F : Addr -> Prop) (H : Hp) (σD : DSt) (σ : St) (R : Ro) : Prop where
 mt : Mt σD σ
 g : G K F H (sl σD σ ++ R)
variable {σD : DSt} {σ : St} {R S : Ro} {d : D} {v : V} {i : Nat}
theorem Rel.perm (r : Rel K F H σD σ R) (p : R.Perm S) : Rel K F H σD σ S := ⟨r.mt, r.g.perm (p.append_left _)⟩
theorem Rel.front (r : Rel K F H σD σ R) : G K F H (R ++ sl σD σ) := r.g.perm List.perm_append_comm
theorem Rel.of (m : Mt σD σ) (g : G K F H (R ++ sl σD σ)) : Rel K F H σD σ R := ⟨m, g.perm List.perm_append_comm⟩
theorem Rel.get (r : Rel K F H σD σ R) (e : σD[i]? = some (some d)) : ∃ v, σ[i]? = some (some v) /\ Bor K F H d v := by
 obtain ⟨v, hv⟩ := r.mt.get e;exact ⟨v, hv, r.g.bor (List.mem_append_left _ ((sl_take e hv).mem_iff.mpr (by simp)))⟩
theorem Rel.take (r : Rel K F H σD σ R) (e : σD[i]? = some (some d)) : ∃ v, σ[i]? = some (some v) /\ Rel K F H (σD.set i none) σ ((d, v) :: R) := by
 obtain ⟨v, hv⟩ := r.mt.get e;refine ⟨v, hv, r.mt.clear i, r.g.perm ?_⟩;exact ((sl_take e hv).append_right R).trans List.perm_middle.symm
theorem Rel.put (r : Rel K F H σD σ ((d, v) :: R)) (e : σ[i]? = some (some v)) : Rel K F H (σD.set i (some d)) σ R := by
 have hi : i < σD.length := by rw [r.mt.length]; exact (List.getElem?_eq_some_iff.mp e).1
 refine ⟨r.mt.put d e, (r.g.clear i r.mt).perm ?_⟩;exact List.perm_middle.trans ((sl_put d hi e).append_right R).symm
theorem Rel.store (r : Rel K F H σD σ ((d, v) :: R)) (hi : i < σ.length) : Rel K F H (σD.set i (some d)) (σ.set i (some v)) R := by
 have hi' : i < σD.length := by rw [r.mt.length]; exact hi
 refine ⟨r.mt.store i v d, (r.g.clear i r.mt).perm ?_⟩;have h := sl_put (σD := σD) (σ := σ.set i (some v)) (i := i) (v := v) d hi' (by simp [hi]);rw [sl_store] at h;exact List.perm_middle.trans (h.append_right R).symm
theorem Rel.pop (r : Rel K F H σD σ ((d, v) :: R)) : Rel K F H σD σ R := Rel.of r.mt (r.front).pop
theorem Rel.popN (r : Rel K F H σD σ (S ++ R)) : Rel K F H σD σ R := Rel.of r.mt (by have h := r.front; rw [List.append_assoc] at h; exact h.popN)
theorem Rel.push (r : Rel K F H σD σ R) (h : Ow K F H d v []) : Rel K F H σD σ ((d, v) :: R) := Rel.of r.mt (r.front.push h)
theorem Rel.bor (r : Rel K F H σD σ R) (h : (d, v) ∈ R) : Bor K F H d v := r.g.bor (List.mem_append_right _ h)
theorem Rel.freeze (r : Rel K F H σD σ ((d, v) :: R)) : ∃ F', Ext F H F' H /\ Rel K F' H σD σ ((d.fz, v) :: R) /\ Ow K F' H d.fz v [] := by
 obtain ⟨F', x, g, o⟩ := r.front.freeze;exact ⟨F', x, Rel.of r.mt g, o⟩
theorem Rel.openL {xs : List D} (r : Rel K F H σD σ ((.lst true xs, v) :: R)) : ∃ a vs, v = .ref a /\ H a = some (.lst vs) /\ xs.length = vs.length /\ Rel K F H σD σ ((.cell, .ref a) :: (xs.zip vs ++ R)) := by
 obtain ⟨a, vs, e, h, l, g⟩ := r.front.openL;exact ⟨a, vs, e, h, l, Rel.of r.mt (by simpa using g)⟩
theorem Rel.formL {xs : List D} {vs : List V} {a : Addr} (r : Rel K F H σD σ ((.cell, .ref a) :: (xs.zip vs ++ R))) (hl : xs.length = vs.length) (e : H a = some (.lst vs)) : Rel K F H σD σ ((.lst true xs, .ref a) :: R) :=
 Rel.of r.mt (G.formL (vs := vs) (by simpa using r.front) hl e)
theorem Rel.openT {xs : List D} (r : Rel K F H σD σ ((.tup xs, v) :: R)) : ∃ a vs, v = .ref a /\ FT K F H a vs [] /\ xs.length = vs.length /\ Rel K F H σD σ (xs.zip vs ++ R) := by
 obtain ⟨a, vs, e, h, l, g⟩ := r.front.openT;exact ⟨a, vs, e, h, l, Rel.of r.mt (by simpa using g)⟩
theorem Rel.alloc {p : Addr} {o : HO} (r : Rel K F H σD σ R) (hp : H p = none) (hn : autoParam (NT o) Ax6._auto_1) : Rel K F (upd H p o) σD σ ((.cell, .ref p) :: R) /\ Ext F H F (upd H p o) := by
 obtain ⟨g, x⟩ := r.front.alloc (o := o) hp hn;exact ⟨Rel.of r.mt g, x⟩
theorem Rel.write {a : Addr} {o : HO} (r : Rel K F H σD σ ((.cell, .ref a) :: R)) (hn : autoParam (NT o) Ax6._auto_1) : Rel K F (upd H a o) σD σ ((.cell, .ref a) :: R) /\ Ext F H F (upd H a o) := by
 obtain ⟨g, x⟩ := r.front.write (o := o) hn;exact ⟨Rel.of r.mt g, x⟩
theorem Rel.layL {xs : List D} {vs : List V} {p : Addr} (r : Rel K F H σD σ (xs.zip vs ++ R)) (hl : xs.length = vs.length) (hp : H p = none) :
  Rel K F (upd H p (.lst vs)) σD σ ((.lst true xs, .ref p) :: R) /\ Ext F H F (upd H p (.lst vs)) := by
 obtain ⟨r1, x⟩ := r.alloc (o := .lst vs) hp;exact ⟨r1.formL hl upd_same, x⟩
theorem Rel.layT {xs : List D} {vs : List V} {p : Addr} (r : Rel K F H σD σ (xs.zip vs ++ R)) (hl : xs.length = vs.length) (hp : H p = none) :
  ∃ F', Ext F H F' (upd H p (.tup vs)) /\ Rel K F' (upd H p (.tup vs)) σD σ ((.tup xs, .ref p) :: R) := by
 obtain ⟨F', x, g⟩ := G.layT (R := R ++ sl σD σ) (by simpa using r.front) hl hp;exact ⟨F', x, Rel.of r.mt g⟩
structure Grow (F : Addr -> Prop) (H : Hp) (F' : Addr -> Prop) (H' : Hp) : Prop where
 x : Ext F H F' H'
 k : ∀ a o, H a = some o -> H' a = some o
 fr : ∀ a, F' a -> F a \/ H a = none
 dm : (∀ a, F a -> ∃ o, H a = some o) -> ∀ a, F' a -> ∃ o, H' a = some o
theorem Grow.refl : Grow F H F H := ⟨Ext.refl, fun _ _ e => e, fun _ h => .inl h, fun h => h⟩
theorem Grow.trans {F'' : Addr -> Prop} {H'' : Hp} (a : Grow F H F' H') (b : Grow F' H' F'' H'') : Grow F H F'' H'' :=
 ⟨a.x.trans b.x, fun x o e => b.k x o (a.k x o e), fun x h => by
  rcases b.fr x h with h | h
  ·exact a.fr x h
  ·refine .inr ?_
   rcases e : H x with _ | o
   ·rfl
   ·rw [a.k x o e] at h
    exact (nomatch h), fun d => b.dm (a.dm d)⟩
theorem Rel.grow (r : Rel K F H σD σ R) (g : Grow F H F' H') : Rel K F' H' σD σ R := ⟨r.mt, r.g.ext g.x g.k g.fr (g.dm r.g.dom)⟩
theorem Bor.grow (b : Bor K F H d v) (g : Grow F H F' H') : Bor K F' H' d v := by
 obtain ⟨L, h⟩ := b;exact ⟨L, h.mono g.x fun a ha => by obtain ⟨o, e⟩ := h.dom a ha; rw [e, g.k a o e]⟩
end
end DD
namespace DD
open PySem PySem.Spec PyProof.Rows L2
noncomputable abbrev St := L2.St
noncomputable def D.sc : D -> Option V
 | .non => some .non
 | .bl b => some (.bl b)
 | .int i => some (.int i)
 | .str x => some (.str x)
 | .ty n => some (.ty n)
 | .cls a => some (.ref a)
 | _ => none
section
variable {K : PySem.W.Frag} {F F' : Addr -> Prop} {H H' : Hp} {d : D} {v w : V} {L : List Addr} {R : Ro} {σD : DSt} {σ : St}
theorem Ow.of_sc (h : d.sc = some w) : Ow K F H d w [] := by
 cases d <;> simp only [D.sc] at h <;> cases h <;> simp only [Ow] <;> exact ⟨trivial, trivial⟩
theorem Ow.sc (o : Ow K F H d v L) (h : d.sc = some w) : v = w /\ L = [] := by
 cases d <;> simp only [D.sc] at h <;> cases h <;> simp only [Ow] at o <;> exact o
theorem Bor.sc (b : Bor K F H d v) (h : d.sc = some w) : v = w := by obtain ⟨L, o⟩ := b; exact (o.sc h).1
theorem Rel.scal (r : Rel K F H σD σ R) (h : d.sc = some w) : Rel K F H σD σ ((d, w) :: R) := r.push (Ow.of_sc h)
theorem Bor.int {i : Int} (b : Bor K F H (.int i) v) : v = .int i := b.sc rfl
theorem Bor.bl {i : Bool} (b : Bor K F H (.bl i) v) : v = .bl i := b.sc rfl
theorem Bor.str {i : Str} (b : Bor K F H (.str i) v) : v = .str i := b.sc rfl
end
section
variable {X : Cx} {e : Expr} {es : List Expr} {st : Stmt} {sts : List Stmt}
theorem PE_imp {t t' : TE} (h : PE X e t) (i : ∀ σ H Q, t' σ H Q -> t σ H Q) : PE X e t' := fun pins s σ H Q I h' => h pins s σ H Q I (i σ H Q h')
theorem PT_imp {t t' : TT} (h : PT X e t) (i : ∀ σ H Q, t' σ H Q -> t σ H Q) : PT X e t' := fun pins s σ H Q I h' => h pins s σ H Q I (i σ H Q h')
theorem PW_imp {t t' : TT} (h : PW X e t) (i : ∀ σ H Q, t' σ H Q -> t σ H Q) : PW X e t' := fun wh pins s σ H Q I h' => h wh pins s σ H Q I (i σ H Q h')
theorem PA_imp {t t' : TA} (h : PA X es t) (i : ∀ σ H Q, t' σ H Q -> t σ H Q) : PA X es t' := fun p pins s σ H Q I h' => h p pins s σ H Q I (i σ H Q h')
theorem PS_imp {t t' : TS} (h : PS X st t) (i : ∀ D σ H, t' D σ H -> t D σ H) : PS X st t' := fun pins s σ H D I h' => h pins s σ H D I (i D σ H h')
theorem PSs_imp {t t' : TS} (h : PSs X sts t) (i : ∀ D σ H, t' D σ H -> t D σ H) : PSs X sts t' := fun pins s σ H D I h' => h pins s σ H D I (i D σ H h')
theorem OpR_imp {f : Value -> Value -> Sem Value} {r r' : R2} (h : OpR X f r) (i : ∀ x y H Q, r' x y H Q -> r x y H Q) : OpR X f r' := fun pins s σ H x y v u Q I a b h' => h pins s σ H x y v u Q I a b (i x y H Q h')
end
noncomputable abbrev DE := DSt -> Option (D × DSt)
noncomputable abbrev DP := DSt -> Option D
noncomputable abbrev DA := DSt -> Option (List D × DSt)
noncomputable abbrev DT := DSt -> Option (Bool × DSt)
inductive Out where
 | nx (σ : DSt) | rt (d : D) (σ : DSt) | bk (σ : DSt) | ct (σ : DSt)
noncomputable abbrev DS := DSt -> Option Out
noncomputable def rE (K : PySem.W.Frag) (c : DE) : TE := fun σ H Q => ∃ F R σD d σD', Rel K F H σD σ R /\ c σD = some (d, σD') /\ ∀ F' H' v, Ext F H F' H' -> Rel K F' H' σD' σ ((d, v) :: R) -> Q v H'
noncomputable def rB (K : PySem.W.Frag) (c : DP) : TE := fun σ H Q => ∃ F R σD d, Rel K F H σD σ R /\ c σD = some d /\ ∀ F' H' v, Grow F H F' H' -> Bor K F' H' d v -> Q v H'
noncomputable def rA (K : PySem.W.Frag) (c : DA) : TA := fun σ H Q => ∃ F R σD xs σD', Rel K F H σD σ R /\ c σD = some (xs, σD') /\ ∀ F' H' vs, Ext F H F' H' -> xs.length = vs.length -> Rel K F' H' σD' σ (xs.zip vs ++ R) -> Q vs H'
noncomputable def rT (K : PySem.W.Frag) (c : DT) : TT := fun σ H Q => ∃ F R σD b σD', Rel K F H σD σ R /\ c σD = some (b, σD') /\ ∀ F' H', Ext F H F' H' -> Rel K F' H' σD' σ R -> Q b H'
noncomputable def Kp (W : List Nat) (σ σ' : St) : Prop := ∀ k, k ∉ W -> σ'[k]? = σ[k]?
noncomputable def Th (K : PySem.W.Frag) (En : Ends) (R : Ro) (F : Addr -> Prop) (H : Hp) (σ : St) : Out -> Prop
 | .nx σD => Rel K F H σD σ R -> En.nx σ H
 | .bk σD => Rel K F H σD σ R -> En.bk σ H
 | .ct σD => Rel K F H σD σ R -> En.ct σ H
 | .rt d σD => ∀ v, Rel K F H σD σ ((d, v) :: R) -> En.rt v H
noncomputable def rS (K : PySem.W.Frag) (c : DS) (W : List Nat) : TS := fun En σ H => ∃ F R σD o, Rel K F H σD σ R /\ c σD = some o /\ ∀ F' H' σ', Ext F H F' H' -> Kp W σ σ' -> Th K En R F' H' σ' o
noncomputable def QE (X : Cx) (e : Expr) (c : DE) : Prop := PE X e (rE X.K c)
noncomputable def QB (X : Cx) (e : Expr) (c : DP) : Prop := PE X e (rB X.K c)
noncomputable def QA (X : Cx) (es : List Expr) (c : DA) : Prop := PA X es (rA X.K c)
noncomputable def QT (X : Cx) (e : Expr) (c : DT) : Prop := PT X e (rT X.K c)
noncomputable def QW (X : Cx) (e : Expr) (c : DT) : Prop := PW X e (rT X.K c)
noncomputable def QS (X : Cx) (st : Stmt) (c : DS) (W : List Nat) : Prop := PS X st (rS X.K c W)
noncomputable def QSs (X : Cx) (sts : List Stmt) (c : DS) (W : List Nat) : Prop := PSs X sts (rS X.K c W)
theorem Kp.refl {W : List Nat} {σ : St} : Kp W σ σ := fun _ _ => rfl
theorem Kp.trans {W : List Nat} {σ σ1 σ2 : St} (a : Kp W σ σ1) (b : Kp W σ1 σ2) : Kp W σ σ2 := fun k h => (b k h).trans (a k h)
theorem Kp.mono {W W' : List Nat} {σ σ' : St} (a : Kp W σ σ') (h : ∀ k ∈ W, k ∈ W') : Kp W' σ σ' := fun k hk => a k fun z => hk (h k z)
theorem Kp.set {σ : St} {i : Nat} {o : Option V} : Kp [i] σ (σ.set i o) := fun k hk => by
 rw [List.getElem?_set_ne]; intro e; exact hk (by simp [e])
noncomputable def dS (p : DP) : DE := fun σ => (p σ).bind fun d => match d.sc with | some _ => some (d, σ) | none => none
noncomputable def dget (σ : DSt) (i : Nat) : Option D := match σ[i]? with | some (some d) => some d | _ => none
theorem dget_some {σ : DSt} {i : Nat} {d : D} (h : dget σ i = some d) : σ[i]? = some (some d) := by
 unfold dget at h;split at h
 ·cases h; assumption
 ·cases h
noncomputable def pV (i : Nat) : DP := fun σ => dget σ i
noncomputable def pC (d : D) : DP := fun _ => some d
noncomputable def dCp (i : Nat) : DE := fun σ => (dget σ i).map fun d => (d.fz, σ.set i (some d.fz))
noncomputable def dMv (i : Nat) : DE := fun σ => (dget σ i).map fun d => (d, σ.set i none)
section
variable {X : Cx} {e a b : Expr} {es : List Expr} {p q : DP} {c c' : DE} {pos : Pos}
theorem qe_s (h : QB X e p) : QE X e (dS p) := PE_imp h fun σ H Q hq0 => by
 obtain ⟨F, R, σD, d, σD', r, ec, k⟩ := hq0;unfold dS at ec;rcases hp : p σD with _ | x
 ·rw [hp] at ec; cases ec
 ·rw [hp] at ec
  simp only [bind_some] at ec;rcases hs : x.sc with _ | w
  ·rw [hs] at ec; cases ec
  ·rw [hs] at ec; cases ec
   refine ⟨F, R, σD, d, r, hp, fun F' H' v g b => k F' H' v g.x ?_⟩;rw [b.sc hs]; exact (r.grow g).scal hs
theorem qb_v (i : Nat) {x : Str} {pos : Pos} (hN : autoParam (X.N[i]? = some x) Ax4._auto_1) (hv : autoParam (Vis X.env.scope x) Ax7._auto_1) (hd : autoParam ((x == ("__debug__" : Str)) = false) Ax1._auto_1)
  (hcd : autoParam ((x == ("__classdict__" : Str)) = false) Ax1._auto_1) : QB X (.Name x pos) (pV i) := PE_imp (pe_var hN hv hd hcd) fun σ H Q hq0 => by
 obtain ⟨F, R, σD, d, r, ec, k⟩ := hq0;obtain ⟨v, hv, b⟩ := r.get (dget_some ec);exact ⟨v, hv, k F H v Grow.refl b⟩
theorem qb_int {i : Int} {j pos} : QB X (.Constant (.int i) j pos) (pC (.int i)) := PE_imp pe_int fun σ H Q hq0 => by
 obtain ⟨F, R, σD, d, r, ec, k⟩ := hq0;cases ec; exact k F H _ Grow.refl ⟨[], Ow.of_sc rfl⟩
theorem qb_bl {i : Bool} {j pos} : QB X (.Constant (.bool i) j pos) (pC (.bl i)) := PE_imp pe_bl fun σ H Q hq0 => by
 obtain ⟨F, R, σD, d, r, ec, k⟩ := hq0;cases ec; exact k F H _ Grow.refl ⟨[], Ow.of_sc rfl⟩
theorem qb_str {x : Str} {j pos} : QB X (.Constant (.str x) j pos) (pC (.str x)) := PE_imp pe_str fun σ H Q hq0 => by
 obtain ⟨F, R, σD, d, r, ec, k⟩ := hq0;cases ec; exact k F H _ Grow.refl ⟨[], Ow.of_sc rfl⟩
theorem map_pair {α β γ : Type} {o : Option α} {f : α -> β × γ} {d : β} {s : γ} (h : o.map f = some (d, s)) : ∃ x, o = some x /\ f x = (d, s) := by
 cases o with
 | none => cases h
 | some x => exact ⟨x, rfl, Option.some.inj h⟩
theorem qe_cp (i : Nat) {x : Str} {pos : Pos} (hN : autoParam (X.N[i]? = some x) Ax4._auto_1) (hv : autoParam (Vis X.env.scope x) Ax7._auto_1) (hd : autoParam ((x == ("__debug__" : Str)) = false) Ax1._auto_1)
  (hcd : autoParam ((x == ("__classdict__" : Str)) = false) Ax1._auto_1) : QE X (.Name x pos) (dCp i) := PE_imp (pe_var hN hv hd hcd) fun σ H Q hq0 => by
 obtain ⟨F, R, σD, d, σD', r, ec, k⟩ := hq0;obtain ⟨d0, e0, e1⟩ := map_pair ec;cases e1;obtain ⟨v, hv, r1⟩ := r.take (dget_some e0);obtain ⟨F', x, r2, o⟩ := r1.freeze;have r3 := (r2.push o).put hv;rw [List.set_set] at r3;exact ⟨v, hv, k F' H v x r3⟩
theorem qe_mv (i : Nat) {x : Str} {pos : Pos} (hN : autoParam (X.N[i]? = some x) Ax4._auto_1) (hv : autoParam (Vis X.env.scope x) Ax7._auto_1) (hd : autoParam ((x == ("__debug__" : Str)) = false) Ax1._auto_1)
  (hcd : autoParam ((x == ("__classdict__" : Str)) = false) Ax1._auto_1) : QE X (.Name x pos) (dMv i) := PE_imp (pe_var hN hv hd hcd) fun σ H Q hq0 => by
 obtain ⟨F, R, σD, d, σD', r, ec, k⟩ := hq0;obtain ⟨d0, e0, e1⟩ := map_pair ec;cases e1;obtain ⟨v, hv, r1⟩ := r.take (dget_some e0);exact ⟨v, hv, k F H v Ext.refl r1⟩
structure OpS (X : Cx) (f : Value -> Value -> Sem Value) (g : D -> D -> Option D) : Prop where
 run : OpR X f (fun x y H Q => ∃ F dx dy d w, Bor X.K F H dx x /\ Bor X.K F H dy y /\ g dx dy = some d /\ d.sc = some w /\ Q w H)
 sc : ∀ x y d, g x y = some d -> ∃ w, d.sc = some w
noncomputable def dOp (g : D -> D -> Option D) (c c' : DE) : DE := fun σ => (c σ).bind fun p => (c' p.2).bind fun q => (g p.1 q.1).map fun d => (d, q.2)
noncomputable def pOp (g : D -> D -> Option D) (p q : DP) : DP := fun σ => (p σ).bind fun x => (q σ).bind fun y => g x y
theorem dOp_some {g : D -> D -> Option D} {σ σ' : DSt} {d : D} (h : dOp g c c' σ = some (d, σ')) : ∃ x y σ1, c σ = some (x, σ1) /\ c' σ1 = some (y, σ') /\ g x y = some d := by
 unfold dOp at h;rcases h1 : c σ with _ | ⟨x, σ1⟩
 ·rw [h1] at h; cases h
 ·rw [h1] at h; simp only [bind_some] at h
  rcases h2 : c' σ1 with _ | ⟨y, σ2⟩
  ·rw [h2] at h; cases h
  ·rw [h2] at h; simp only [bind_some] at h
   obtain ⟨z, e, e2⟩ := map_pair h;cases e2;exact ⟨x, y, σ1, rfl, h2, e⟩
theorem pOp_some {g : D -> D -> Option D} {σ : DSt} {d : D} (h : pOp g p q σ = some d) : ∃ x y, p σ = some x /\ q σ = some y /\ g x y = some d := by
 unfold pOp at h;rcases h1 : p σ with _ | x
 ·rw [h1] at h; cases h
 ·rw [h1] at h; simp only [bind_some] at h
  rcases h2 : q σ with _ | y
  ·rw [h2] at h; cases h
  ·rw [h2] at h; simp only [bind_some] at h
   exact ⟨x, y, rfl, rfl, h⟩
theorem rOp {f : Value -> Value -> Sem Value} {g : D -> D -> Option D} (o : OpS X f g) {σ : St} {H : Hp} {Q : VK} (h : rE X.K (dOp g c c') σ H Q) :
  tOp (fun x y H Q => ∃ F dx dy d w, Bor X.K F H dx x /\ Bor X.K F H dy y /\ g dx dy = some d /\ d.sc = some w /\ Q w H) (rE X.K c) (rE X.K c') σ H Q := by
 obtain ⟨F, R, σD, d, σD', r, ec, k⟩ := h;obtain ⟨x, y, σ1, e1, e2, eg⟩ := dOp_some ec;obtain ⟨w, hw⟩ := o.sc _ _ _ eg;refine ⟨F, R, σD, x, σ1, r, e1, fun F1 H1 v x1 r1 => ?_⟩;refine ⟨F1, _, σ1, y, σD', r1, e2, fun F2 H2 u x2 r2 => ?_⟩;refine ⟨F2, x, y, d, w, r2.bor (by simp), r2.bor (by simp), eg, hw, k F2 H2 w (x1.trans x2) ?_⟩;exact (r2.pop.pop).scal hw
theorem rOpB {f : Value -> Value -> Sem Value} {g : D -> D -> Option D} (o : OpS X f g) {σ : St} {H : Hp} {Q : VK} (h : rB X.K (pOp g p q) σ H Q) :
  tOp (fun x y H Q => ∃ F dx dy d w, Bor X.K F H dx x /\ Bor X.K F H dy y /\ g dx dy = some d /\ d.sc = some w /\ Q w H) (rB X.K p) (rB X.K q) σ H Q := by
 obtain ⟨F, R, σD, d, r, ec, k⟩ := h;obtain ⟨x, y, e1, e2, eg⟩ := pOp_some ec;obtain ⟨w, hw⟩ := o.sc _ _ _ eg;refine ⟨F, R, σD, x, r, e1, fun F1 H1 v g1 b1 => ?_⟩;refine ⟨F1, R, σD, y, r.grow g1, e2, fun F2 H2 u g2 b2 => ?_⟩;exact ⟨F2, x, y, d, w, b1.grow g2, b2, eg, hw, k F2 H2 w (g1.trans g2) ⟨[], Ow.of_sc hw⟩⟩
theorem qe_op {op : Operator} {g : D -> D -> Option D} (o : OpS X (binaryOp op) g) (ha : QE X a c) (hb : QE X b c') : QE X (.BinOp a op b pos) (dOp g c c') :=
 PE_imp (pe_op o.run ha hb) fun _ _ _ h => rOp o h
theorem qb_op {op : Operator} {g : D -> D -> Option D} (o : OpS X (binaryOp op) g) (ha : QB X a p) (hb : QB X b q) : QB X (.BinOp a op b pos) (pOp g p q) :=
 PE_imp (pe_op o.run ha hb) fun _ _ _ h => rOpB o h
theorem qe_cmp {op : CmpOp} {g : D -> D -> Option D} (o : OpS X (compareOp op) g) (ha : QE X a c) (hb : QE X b c') (hm : behindInMarks op b = false) : QE X (.Compare a [op] [b] pos) (dOp g c c') :=
 PE_imp (pe_cmpR o.run ha hb hm) fun _ _ _ h => rOp o h
theorem qb_cmp {op : CmpOp} {g : D -> D -> Option D} (o : OpS X (compareOp op) g) (ha : QB X a p) (hb : QB X b q) (hm : behindInMarks op b = false) : QB X (.Compare a [op] [b] pos) (pOp g p q) :=
 PE_imp (pe_cmpR o.run ha hb hm) fun _ _ _ h => rOpB o h
noncomputable def gI (C : Int -> Int -> Bool) (f : Int -> Int -> Int) : D -> D -> Option D
 | .int i, .int j => if C i j = true then some (.int (f i j)) else none
 | _, _ => none
noncomputable def gI0 (f : Int -> Int -> Int) : D -> D -> Option D
 | .int i, .int j => some (.int (f i j))
 | _, _ => none
noncomputable def gB0 (f : Int -> Int -> Bool) : D -> D -> Option D
 | .int i, .int j => some (.bl (f i j))
 | _, _ => none
theorem opS_I {f : Value -> Value -> Sem Value} {C : Int -> Int -> Prop} {Cb : Int -> Int -> Bool} {g : Int -> Int -> Int} (h : OpR X f (rI C fun i j => .int (g i j))) (hC : ∀ i j, Cb i j = true -> C i j) : OpS X f (gI Cb g) := by
 refine ⟨OpR_imp h fun x y H Q pz => ?_, fun x y d h => ?_⟩
 ·obtain ⟨F, dx, dy, d, w, b1, b2, eg, hw, q⟩ := pz
  unfold gI at eg;split at eg
  ·split at eg
   ·cases eg; cases hw
    exact ⟨_, _, b1.int, b2.int, hC _ _ (by assumption), q⟩
   ·cases eg
  ·cases eg
 ·unfold gI at h
  split at h
  ·split at h
   ·cases h; exact ⟨_, rfl⟩
   ·cases h
  ·cases h
theorem opS_I0 {f : Value -> Value -> Sem Value} {g : Int -> Int -> Int} (h : OpR X f (rI0 fun i j => .int (g i j))) : OpS X f (gI0 g) := by
 refine ⟨OpR_imp h fun x y H Q pz => ?_, fun x y d h => ?_⟩
 ·obtain ⟨F, dx, dy, d, w, b1, b2, eg, hw, q⟩ := pz
  unfold gI0 at eg;split at eg
  ·cases eg; cases hw
   exact ⟨_, _, b1.int, b2.int, q⟩
  ·cases eg
 ·unfold gI0 at h
  split at h
  ·cases h; exact ⟨_, rfl⟩
  ·cases h
theorem opS_B0 {f : Value -> Value -> Sem Value} {g : Int -> Int -> Bool} (h : OpR X f (rI0 fun i j => .bl (g i j))) : OpS X f (gB0 g) := by
 refine ⟨OpR_imp h fun x y H Q pz => ?_, fun x y d h => ?_⟩
 ·obtain ⟨F, dx, dy, d, w, b1, b2, eg, hw, q⟩ := pz
  unfold gB0 at eg;split at eg
  ·cases eg; cases hw
   exact ⟨_, _, b1.int, b2.int, q⟩
  ·cases eg
 ·unfold gB0 at h
  split at h
  ·cases h; exact ⟨_, rfl⟩
  ·cases h
theorem o_add : OpS X (binaryOp .Add) (gI0 fun i j => i + j) := opS_I0 op_add
theorem o_sub : OpS X (binaryOp .Sub) (gI0 fun i j => i - j) := opS_I0 op_sub
theorem o_and : OpS X (binaryOp .BitAnd) (gI0 Builtin.bitAnd) := opS_I0 op_and
theorem o_or : OpS X (binaryOp .BitOr) (gI0 Builtin.bitOr) := opS_I0 op_or
theorem o_mod : OpS X (binaryOp .Mod) (gI (fun _ j => decide (0 < j)) fun i j => i % j) := opS_I op_mod fun i j h => by simpa using h
theorem o_pow : OpS X (binaryOp .Pow) (gI (fun i j => decide (0 <= j /\ j <= 1000000 /\ i.natAbs < 2 ^ 64)) fun i j => i ^ j.toNat) := opS_I op_pow fun i j h => by simpa [CPow] using h
theorem o_shl : OpS X (binaryOp .LShift) (gI (fun i j => decide (0 <= j /\ j <= 1000000 /\ i.natAbs < 2 ^ 64)) fun i j => i * 2 ^ j.toNat) := opS_I op_shl fun i j h => by simpa [CPow] using h
theorem o_shr : OpS X (binaryOp .RShift) (gI (fun _ j => decide (0 <= j)) fun i j => i / 2 ^ j.toNat) := opS_I op_shr fun i j h => by simpa using h
theorem o_lt : OpS X (compareOp .Lt) (gB0 fun i j => decide (i < j)) := opS_B0 op_lt
theorem o_gt : OpS X (compareOp .Gt) (gB0 fun i j => decide (j < i)) := opS_B0 op_gt
theorem o_ge : OpS X (compareOp .GtE) (gB0 fun i j => decide (j <= i)) := opS_B0 op_ge
noncomputable def aNil : DA := fun σ => some ([], σ)
noncomputable def aCons (c : DE) (ca : DA) : DA := fun σ => (c σ).bind fun p => (ca p.2).map fun q => (p.1 :: q.1, q.2)
theorem qa_nil : QA X [] aNil := PA_imp pa_nil fun σ H Q hq0 => by
 obtain ⟨F, R, σD, xs, σD', r, ec, k⟩ := hq0;cases ec; exact k F H [] Ext.refl rfl r
theorem qa_cons {ca : DA} (ha : QE X e c) (hr : QA X es ca) (hs : autoParam (starEach (e :: es) X.env = (false, eval e X.env) :: starEach es X.env) Ax4._auto_1) : QA X (e :: es) (aCons c ca) := PA_imp (pa_cons ha hr hs) fun σ H Q hq0 => by
 obtain ⟨F, R, σD, xs, σD', r, ec, k⟩ := hq0;unfold aCons at ec;rcases h1 : c σD with _ | ⟨x, σ1⟩
 ·rw [h1] at ec; cases ec
 ·rw [h1] at ec; simp only [bind_some] at ec
  obtain ⟨⟨ys, σ2⟩, e2, e3⟩ := map_pair ec;cases e3;refine ⟨F, R, σD, x, σ1, r, h1, fun F1 H1 v x1 r1 => ?_⟩;refine ⟨F1, _, σ1, ys, σ2, r1, e2, fun F2 H2 vs x2 hl r2 => ?_⟩;refine k F2 H2 (v :: vs) (x1.trans x2) (by simp [hl]) (r2.perm ?_);exact List.perm_middle
noncomputable def dLst (ca : DA) : DE := fun σ => (ca σ).bind fun p => if p.1.length <= sizeLine then some (.lst true p.1, p.2) else none
noncomputable def dTup (ca : DA) : DE := fun σ => (ca σ).bind fun p => if p.1.length <= sizeLine then some (.tup p.1, p.2) else none
theorem qe_lst {ca : DA} (h : QA X es ca) : QE X (.List es pos) (dLst ca) := PE_imp (pe_lst h) fun σ H Q hq0 => by
 obtain ⟨F, R, σD, d, σD', r, ec, k⟩ := hq0;unfold dLst at ec;rcases h1 : ca σD with _ | ⟨xs, σ1⟩
 ·rw [h1] at ec; cases ec
 ·rw [h1] at ec; simp only [bind_some] at ec
  split at ec
  ·rename_i hz
   cases ec;refine ⟨F, R, σD, xs, _, r, h1, fun F1 H1 vs x1 hl r1 => ⟨by rw [<- hl]; exact hz, fun p hp => ?_⟩⟩;obtain ⟨r2, x2⟩ := r1.layL hl hp;exact k F1 _ _ (x1.trans x2) r2
  ·cases ec
theorem qe_tup {ca : DA} {x1} (h : QA X es ca) : QE X (.Tuple es x1 pos) (dTup ca) := PE_imp (pe_tup h) fun σ H Q hq0 => by
 obtain ⟨F, R, σD, d, σD', r, ec, k⟩ := hq0;unfold dTup at ec;rcases h1 : ca σD with _ | ⟨xs, σ1⟩
 ·rw [h1] at ec; cases ec
 ·rw [h1] at ec; simp only [bind_some] at ec
  split at ec
  ·rename_i hz
   cases ec;refine ⟨F, R, σD, xs, _, r, h1, fun F1 H1 vs x1 hl r1 => ⟨by rw [<- hl]; exact hz, fun p hp => ?_⟩⟩;obtain ⟨F2, x2, r2⟩ := r1.layT hl hp;exact k F2 _ _ (x1.trans x2) r2
  ·cases ec
end
section
variable {K : PySem.W.Frag} {F F' : Addr -> Prop} {H H' : Hp} {d x : D} {v w : V} {L : List Addr} {R : Ro} {σD : DSt} {σ : St} {xs : List D} {vs : List V}
theorem OwL.length : ∀ {xs : List D} {vs : List V} {L : List Addr}, OwL K F H xs vs L -> vs.length = xs.length := fun h => h.toP.1.symm
theorem OwL.kid : ∀ {xs : List D} {vs : List V} {L : List Addr} {j : Nat}, OwL K F H xs vs L -> xs[j]? = some x -> ∃ w La Lx Lb, vs[j]? = some w /\ L = La ++ Lx ++ Lb /\ Ow K F H x w Lx /\
  ∀ (F' : Addr -> Prop) (H' : Hp) (x' : D) (Lx' : List Addr), Ext F H F' H' -> (∀ a ∈ La ++ Lb, H' a = H a) -> Ow K F' H' x' w Lx' -> OwL K F' H' (xs.set j x') vs (La ++ Lx' ++ Lb) := by
 intro xs
 induction xs with
 | nil => intro vs L j h e; simp at e
 | cons y ys ih =>
  intro vs L j h e;simp only [OwL] at h;obtain ⟨u, ws, L1, L2, rfl, h1, h2, rfl⟩ := h;cases j with
  | zero =>
   simp at e; subst e;refine ⟨u, [], L1, L2, rfl, rfl, h1, fun F' H' x' Lx' x k o => ?_⟩;simp only [List.set_cons_zero, OwL];exact ⟨u, ws, Lx', L2, rfl, o, h2.mono x fun a ha => k a (by simp [ha]), rfl⟩
  | succ j =>
   obtain ⟨w, La, Lx, Lb, e1, rfl, o, k⟩ := ih (j := j) h2 (by simpa using e);refine ⟨w, L1 ++ La, Lx, Lb, by simpa using e1, by simp, o, fun F' H' x' Lx' x kk o' => ?_⟩;simp only [List.set_cons_succ, OwL];exact ⟨u, ws, L1, La ++ Lx' ++ Lb, rfl, h1.mono x fun a ha => kk a (by simp [ha]), k F' H' x' Lx' x (fun a ha => kk a (by simp at ha ⊢; rcases ha with ha | ha <;> simp [ha])) o', by simp⟩
theorem OwL.get (h : OwL K F H xs vs L) {j : Nat} (e : xs[j]? = some x) : ∃ w, vs[j]? = some w /\ Bor K F H x w := by
 obtain ⟨w, _, Lx, _, e1, _, o, _⟩ := h.kid e;exact ⟨w, e1, Lx, o⟩
theorem OwL.at (h : OwL K F H xs vs L) {i : Int} (e : atI xs i = some x) : ∃ w, atI vs i = some w /\ Bor K F H x w := by
 unfold atI at e ⊢;rw [h.length];rcases hj : ixN xs.length i with _ | j
 ·rw [hj] at e; cases e
 ·rw [hj] at e; exact h.get e
theorem Bor.lst {o : Bool} (b : Bor K F H (.lst o xs) v) : ∃ a vs, v = .ref a /\ SqL K H a vs /\ ∃ L, OwL K F H xs vs L := by
 obtain ⟨L, h⟩ := b;cases o
 ·simp only [Ow] at h
  obtain ⟨a, vs, rfl, f, r, _⟩ := h;exact ⟨a, vs, rfl, f.sq, _, r⟩
 ·simp only [Ow] at h
  obtain ⟨a, vs, L', rfl, e, r, _⟩ := h;exact ⟨a, vs, rfl, .inl (.inl e), _, r⟩
theorem Bor.tup (b : Bor K F H (.tup xs) v) : ∃ a vs, v = .ref a /\ SqT K H a vs /\ ∃ L, OwL K F H xs vs L := by
 obtain ⟨L, h⟩ := b;simp only [Ow] at h;obtain ⟨a, vs, rfl, f, r⟩ := h;exact ⟨a, vs, rfl, f.sq, _, r⟩
noncomputable def ixD : D -> D -> Option D
 | .lst _ xs, .int i => atI xs i
 | .tup xs, .int i => atI xs i
 | .str z, .int i => if z.length <= sizeLine then (atI z.cps.toList i).map fun c => .str ⟨#[c]⟩ else none
 | _, _ => none
end
section
variable {X : Cx} {e a b : Expr} {es : List Expr} {p q : DP} {c c' : DE} {pos : Pos}
theorem rIx_of {F : Addr -> Prop} {H : Hp} {dx dy d : D} {x y : V} {Q : VK} (b1 : Bor X.K F H dx x) (b2 : Bor X.K F H dy y) (e : ixD dx dy = some d) (k : ∀ v, Bor X.K F H d v -> Q v H) : rIx X.K x y H Q := by
 unfold ixD at e;split at e
 ·obtain ⟨a, vs, rfl, s, L, r⟩ := b1.lst
  obtain ⟨w, e1, bw⟩ := r.at e;exact .inl ⟨a, vs, _, w, rfl, b2.int, s, e1, k w bw⟩
 ·obtain ⟨a, vs, rfl, s, L, r⟩ := b1.tup
  obtain ⟨w, e1, bw⟩ := r.at e;exact .inr (.inl ⟨a, vs, _, w, rfl, b2.int, s, e1, k w bw⟩)
 ·split at e
  ·rename_i z i hz
   rcases h : atI z.cps.toList i with _ | ch
   ·rw [h] at e; cases e
   ·rw [h] at e; cases e
    exact .inr (.inr ⟨z, i, ch, b1.str, b2.int, hz, h, k _ ⟨[], Ow.of_sc rfl⟩⟩)
  ·cases e
 ·cases e
theorem qb_ix (ha : QB X a p) (hb : QB X b q) (hs : autoParam (PlainIx b) Ax8._auto_1) : QB X (.Subscript a b pos) (pOp ixD p q) := PE_imp (pe_ix ix_seq ha hb hs) fun σ H Q hq0 => by
 obtain ⟨F, R, σD, d, r, ec, k⟩ := hq0;obtain ⟨x, y, e1, e2, eg⟩ := pOp_some ec;refine ⟨F, R, σD, x, r, e1, fun F1 H1 v g1 b1 => ?_⟩;refine ⟨F1, R, σD, y, r.grow g1, e2, fun F2 H2 u g2 b2 => ?_⟩;exact rIx_of (b1.grow g2) b2 eg fun v bv => k F2 H2 v (g1.trans g2) bv
noncomputable def dIx (c c' : DE) : DE := fun σ => (c σ).bind fun p => (c' p.2).bind fun q => (ixD p.1 q.1).map fun d => (d, q.2)
end
noncomputable def dTest (c : DE) : DT := fun σ => (c σ).bind fun p => match p.1 with | .bl b => some (b, p.2) | _ => none
noncomputable def tAndD (t u : DT) : DT := fun σ => (t σ).bind fun p => if p.1 = true then u p.2 else some (false, p.2)
noncomputable def tOrD (t u : DT) : DT := fun σ => (t σ).bind fun p => if p.1 = true then some (true, p.2) else u p.2
noncomputable def tNotD (t : DT) : DT := fun σ => (t σ).map fun p => (!p.1, p.2)
section
variable {X : Cx} {e a b : Expr} {es rest : List Expr} {p q : DP} {c c' : DE} {t u : DT} {pos : Pos}
theorem dTest_some {σ σ' : DSt} {k : Bool} (h : dTest c σ = some (k, σ')) : c σ = some (.bl k, σ') := by
 unfold dTest at h;rcases h1 : c σ with _ | ⟨x, σ1⟩
 ·rw [h1] at h; cases h
 ·rw [h1] at h; simp only [bind_some] at h
  split at h
  ·cases h; rfl
  ·cases h
theorem qt_e (h : QE X e c) (he : autoParam (∀ whole, isTrue e X.env whole = (do let v <- whole; standAt e.pos; holding [v] (truthy v))) Ax3._auto_1) : QT X e (dTest c) := PT_imp (pt_val h he) fun σ H Q hq0 => by
 obtain ⟨F, R, σD, k, σD', r, ec, kk⟩ := hq0;refine ⟨F, R, σD, _, σD', r, dTest_some ec, fun F' H' v x r' => ⟨k, (r'.bor (by simp)).bl, kk F' H' x r'.pop⟩⟩
theorem qt_cmp {op : CmpOp} {g : D -> D -> Option D} (o : OpS X (compareOp op) g) (ha : QE X a c) (hb : QE X b c') (hm : behindInMarks op b = false) : QT X (.Compare a [op] [b] pos) (dTest (dOp g c c')) :=
 PT_imp (pt_cmpR o.run ha hb hm) fun σ H Q hq0 => by
  obtain ⟨F, R, σD, k, σD', r, ec, kk⟩ := hq0;show tOp _ _ _ σ H _;exact rOp o ⟨F, R, σD, _, σD', r, dTest_some ec, fun F' H' v x r' => ⟨k, (r'.bor (by simp)).bl, kk F' H' x r'.pop⟩⟩
theorem qt_not (h : QT X e t) : QT X (.UnaryOp .Not e pos) (tNotD t) := PT_imp (pt_not h) fun σ H Q hq0 => by
 obtain ⟨F, R, σD, k, σD', r, ec, kk⟩ := hq0;unfold tNotD at ec;obtain ⟨⟨b, σ1⟩, e1, e2⟩ := map_pair ec;cases e2;exact ⟨F, R, σD, b, σ1, r, e1, fun F' H' x r' => kk F' H' x r'⟩
theorem qw_t (h : QW X e t) : QT X e t := h.pt
theorem qw_and1 (h : QT X a t) : QW X (.BoolOp .And [a] pos) t := pw_and1 h
theorem qw_or1 (h : QT X a t) : QW X (.BoolOp .Or [a] pos) t := pw_or1 h
theorem qw_and (ha : QT X a t) (hb : QW X (.BoolOp .And (b :: rest) pos) u) : QW X (.BoolOp .And (a :: b :: rest) pos) (tAndD t u) := PW_imp (pw_and ha hb) fun σ H Q hq0 => by
 obtain ⟨F, R, σD, k, σD', r, ec, kk⟩ := hq0;unfold tAndD at ec;rcases h1 : t σD with _ | ⟨x, σ1⟩
 ·rw [h1] at ec; cases ec
 ·rw [h1] at ec; simp only [bind_some] at ec
  refine ⟨F, R, σD, x, σ1, r, h1, fun F' H' x1 r' => ?_⟩;cases x
  ·simp only [Bool.false_eq_true, if_false] at ec ⊢
   cases ec;exact kk F' H' x1 r'
  ·simp only [if_true] at ec ⊢
   exact ⟨F', R, σ1, k, σD', r', ec, fun F2 H2 x2 r2 => kk F2 H2 (x1.trans x2) r2⟩
theorem qw_or (ha : QT X a t) (hb : QW X (.BoolOp .Or (b :: rest) pos) u) : QW X (.BoolOp .Or (a :: b :: rest) pos) (tOrD t u) := PW_imp (pw_or ha hb) fun σ H Q hq0 => by
 obtain ⟨F, R, σD, k, σD', r, ec, kk⟩ := hq0;unfold tOrD at ec;rcases h1 : t σD with _ | ⟨x, σ1⟩
 ·rw [h1] at ec; cases ec
 ·rw [h1] at ec; simp only [bind_some] at ec
  refine ⟨F, R, σD, x, σ1, r, h1, fun F' H' x1 r' => ?_⟩;cases x
  ·simp only [Bool.false_eq_true, if_false] at ec ⊢
   exact ⟨F', R, σ1, k, σD', r', ec, fun F2 H2 x2 r2 => kk F2 H2 (x1.trans x2) r2⟩
  ·simp only [if_true] at ec ⊢
   cases ec;exact kk F' H' x1 r'
end
noncomputable def sSkip : DS := fun σ => some (.nx σ)
noncomputable def sSeq (c d : DS) : DS := fun σ => (c σ).bind fun o => match o with | .nx σ' => d σ' | o => some o
noncomputable def sSet (i : Nat) (c : DE) : DS := fun σ => (c σ).bind fun p => if i < p.2.length then some (.nx (p.2.set i (some p.1))) else none
noncomputable def sIf (t : DT) (c d : DS) : DS := fun σ => (t σ).bind fun p => if p.1 = true then c p.2 else d p.2
noncomputable def sRet (c : DE) : DS := fun σ => (c σ).map fun p => .rt p.1 p.2
noncomputable def sDrop (c : DE) : DS := fun σ => (c σ).map fun p => .nx p.2
noncomputable def sNone : DS := fun _ => none
section
variable {X : Cx} {e a b : Expr} {st : Stmt} {sts : List Stmt} {c c' : DE} {s s' : DS} {t u : DT} {pos : Pos} {W W' : List Nat}
theorem qss_nil : QSs X [] sSkip [] := PSs_imp pss_nil fun En σ H hq0 => by
 obtain ⟨F, R, σD, o, r, ec, k⟩ := hq0;cases ec; exact k F H σ Ext.refl Kp.refl r
theorem qss_cons (h1 : QS X st s W) (h2 : QSs X sts s' W') : QSs X (st :: sts) (sSeq s s') (W ++ W') := PSs_imp (pss_cons h1 h2) fun En σ H hq0 => by
 obtain ⟨F, R, σD, o, r, ec, k⟩ := hq0;unfold sSeq at ec;rcases h : s σD with _ | o1
 ·rw [h] at ec; cases ec
 ·rw [h] at ec; simp only [bind_some] at ec
  refine ⟨F, R, σD, o1, r, h, fun F1 H1 σ1 x1 kp1 => ?_⟩;have kp1' : Kp (W ++ W') σ σ1 := kp1.mono fun k hk => by simp [hk]
  cases o1 with
  | nx σ2 =>
   intro r1;refine ⟨F1, R, σ2, o, r1, ec, fun F2 H2 σ3 x2 kp2 => ?_⟩;exact k F2 H2 σ3 (x1.trans x2) (kp1'.trans (kp2.mono fun k hk => by simp [hk]))
  | bk σ2 => cases ec; exact k F1 H1 σ1 x1 kp1'
  | ct σ2 => cases ec; exact k F1 H1 σ1 x1 kp1'
  | rt d σ2 => cases ec; exact k F1 H1 σ1 x1 kp1'
theorem qss_one (h1 : QS X st s W) : QSs X [st] s W := pss_one h1
theorem qss_never : QSs X sts sNone [] := PSs_imp pss_never fun En σ H hq0 => by obtain ⟨F, R, σD, o, r, ec, k⟩ := hq0; cases ec
theorem qs_set (i : Nat) {x : Str} {pos' : Pos} (hN : X.N.Nodup) (he : QE X e c) (hi : autoParam (X.N[i]? = some x) Ax4._auto_1) (hx : autoParam (Loc X.env.scope x) Ax9._auto_1) (hs : autoParam (swapsWith e (some (.Name x pos')) pos.line X.env = pure false) Ax4._auto_1) (hf : autoParam (X.fn x = true \/ X.env.scope.names.lookup x = some .local) Ax0._auto_1) :
  QS X (.Assign [.Name x pos'] e pos) (sSet i c) [i] := PS_imp (ps_set hN hi hx he hs hf) fun En σ H hq0 => by
 obtain ⟨F, R, σD, o, r, ec, k⟩ := hq0;unfold sSet at ec;rcases h : c σD with _ | ⟨d, σ1⟩
 ·rw [h] at ec; cases ec
 ·rw [h] at ec; simp only [bind_some] at ec
  split at ec
  ·rename_i hl
   cases ec;refine ⟨F, R, σD, d, σ1, r, h, fun F1 H1 v x1 r1 => ?_⟩;exact k F1 H1 _ x1 Kp.set (r1.store (by rw [<- r1.mt.length]; exact hl))
  ·cases ec
theorem qs_if {as bs : List Stmt} (ht : QT X e t) (ha : QSs X as s W) (hb : QSs X bs s' W') : QS X (.If e as bs pos) (sIf t s s') (W ++ W') := PS_imp (ps_if ht ha hb) fun En σ H hq0 => by
 obtain ⟨F, R, σD, o, r, ec, k⟩ := hq0;unfold sIf at ec;rcases h : t σD with _ | ⟨x, σ1⟩
 ·rw [h] at ec; cases ec
 ·rw [h] at ec; simp only [bind_some] at ec
  refine ⟨F, R, σD, x, σ1, r, h, fun F1 H1 x1 r1 => ?_⟩;cases x
  ·simp only [Bool.false_eq_true, if_false] at ec ⊢
   exact ⟨F1, R, σ1, o, r1, ec, fun F2 H2 σ2 x2 kp => k F2 H2 σ2 (x1.trans x2) (kp.mono fun k hk => by simp [hk])⟩
  ·simp only [if_true] at ec ⊢
   exact ⟨F1, R, σ1, o, r1, ec, fun F2 H2 σ2 x2 kp => k F2 H2 σ2 (x1.trans x2) (kp.mono fun k hk => by simp [hk])⟩
theorem qs_ret (he : QE X e c) : QS X (.Return (some e) pos) (sRet c) [] := PS_imp (ps_ret he) fun En σ H hq0 => by
 obtain ⟨F, R, σD, o, r, ec, k⟩ := hq0;unfold sRet at ec;rcases h : c σD with _ | ⟨d, σ1⟩
 ·rw [h] at ec; cases ec
 ·rw [h] at ec; cases ec
  exact ⟨F, R, σD, d, σ1, r, h, fun F1 H1 v x1 r1 => k F1 H1 σ x1 Kp.refl v r1⟩
theorem qs_expr (he : QE X e c) (hs : autoParam (swapsWith e none pos.line X.env = pure false) Ax4._auto_1) : QS X (.Expr e pos) (sDrop c) [] := PS_imp (ps_expr he hs) fun En σ H hq0 => by
 obtain ⟨F, R, σD, o, r, ec, k⟩ := hq0;unfold sDrop at ec;rcases h : c σD with _ | ⟨d, σ1⟩
 ·rw [h] at ec; cases ec
 ·rw [h] at ec; cases ec
  exact ⟨F, R, σD, d, σ1, r, h, fun F1 H1 v x1 r1 => k F1 H1 σ x1 Kp.refl r1.pop⟩
end
noncomputable abbrev DG := D -> DSt -> Option DSt
noncomputable def rG (K : PySem.W.Frag) (g : DG) (W : List Nat) : TG := fun v σ H Q => ∃ F R σD d σD', Rel K F H σD σ ((d, v) :: R) /\ g d σD = some σD' /\ ∀ F' H' σ', Ext F H F' H' -> Kp W σ σ' -> Rel K F' H' σD' σ' R -> Q σ' H'
noncomputable def QG (X : Cx) (tg : Expr) (g : DG) (W : List Nat) : Prop := PG X tg (rG X.K g W)
theorem PG_imp {X : Cx} {tg : Expr} {t t' : TG} (h : PG X tg t) (i : ∀ v σ H Q, t' v σ H Q -> t v σ H Q) : PG X tg t' := fun pins s σ H v u Q I rv h' => h pins s σ H v u Q I rv (i v σ H Q h')
noncomputable abbrev DGs := List D -> DSt -> Option DSt
noncomputable def rGs (K : PySem.W.Frag) (g : DGs) (W : List Nat) : TGs := fun vs σ H Q => ∃ F R σD ds σD', ds.length = vs.length /\ Rel K F H σD σ (ds.zip vs ++ R) /\ g ds σD = some σD' /\ ∀ F' H' σ', Ext F H F' H' -> Kp W σ σ' -> Rel K F' H' σD' σ' R -> Q σ' H'
noncomputable def QGs (X : Cx) (ts : List Expr) (g : DGs) (W : List Nat) : Prop := PGs X ts (rGs X.K g W)
theorem PGs_imp {X : Cx} {ts : List Expr} {t t' : TGs} (h : PGs X ts t) (i : ∀ v σ H Q, t' v σ H Q -> t v σ H Q) : PGs X ts t' := fun pins s σ H v u Q I rv h' => h pins s σ H v u Q I rv (i v σ H Q h')
noncomputable def gNm (i : Nat) : DG := fun d σ => if i < σ.length then some (σ.set i (some d)) else none
noncomputable def gNilD : DGs := fun ds σ => match ds with | [] => some σ | _ => none
noncomputable def gConsD (g : DG) (gs : DGs) : DGs := fun ds σ => match ds with | d :: r => (g d σ).bind fun σ' => gs r σ' | [] => none
noncomputable def gTupD (n : Nat) (gs : DGs) : DG := fun d σ => match d with | .tup xs => if xs.length = n then gs xs σ else none | _ => none
section
variable {X : Cx} {e tg : Expr} {ts : List Expr} {g : DG} {gs : DGs} {pos : Pos} {W W' : List Nat}
theorem qg_name (i : Nat) {x : Str} {pos : Pos} (hN : X.N.Nodup) (hi : autoParam (X.N[i]? = some x) Ax4._auto_1) (hx : autoParam (Loc X.env.scope x) Ax9._auto_1) (hf : autoParam (X.fn x = true \/ X.env.scope.names.lookup x = some .local) Ax0._auto_1) :
  QG X (.Name x pos) (gNm i) [i] := PG_imp (pg_name hN hi hx hf) fun v σ H Q hq0 => by
 obtain ⟨F, R, σD, d, σD', r, ec, k⟩ := hq0;unfold gNm at ec;split at ec
 ·rename_i hl
  cases ec;exact k F H _ Ext.refl Kp.set (r.store (by rw [<- r.mt.length]; exact hl))
 ·cases ec
theorem qgs_nil : QGs X [] gNilD [] := PGs_imp pgs_nil fun vs σ H Q hq0 => by
 obtain ⟨F, R, σD, ds, σD', hl, r, ec, k⟩ := hq0;cases ds with
 | nil => cases ec; exact ⟨List.length_eq_zero_iff.mp hl.symm, k F H σ Ext.refl Kp.refl (by simpa using r)⟩
 | cons d ds => cases ec
theorem qgs_cons (h1 : QG X e g W) (h2 : QGs X ts gs W') (hs : autoParam ((assignEach (e :: ts) X.env).map (·.2) = assign e X.env :: (assignEach ts X.env).map (·.2)) Ax4._auto_1) : QGs X (e :: ts) (gConsD g gs) (W ++ W') :=
 PGs_imp (pgs_cons h1 h2 hs) fun vs σ H Q hq0 => by
  obtain ⟨F, R, σD, ds, σD', hl, r, ec, k⟩ := hq0;cases ds with
  | nil => cases ec
  | cons d ds =>
   cases vs with
   | nil => simp at hl
   | cons v vs =>
    simp only [gConsD] at ec;rcases h : g d σD with _ | σ1
    ·rw [h] at ec; cases ec
    ·rw [h] at ec; simp only [bind_some] at ec
     refine ⟨v, vs, rfl, F, ds.zip vs ++ R, σD, d, σ1, by simpa using r, h, fun F1 H1 σ2 x1 kp1 r1 => ?_⟩;exact ⟨F1, R, σ1, ds, σD', by simpa using hl, r1, ec, fun F2 H2 σ3 x2 kp2 r2 => k F2 H2 σ3 (x1.trans x2) ((kp1.mono fun k hk => by simp [hk]).trans (kp2.mono fun k hk => by simp [hk])) r2⟩
theorem qg_tup {n : Nat} {k : Nat} (hc : X.calm = true) (h : QGs X ts gs W) (hn : autoParam ((assignEach ts X.env).length = n) Ax4._auto_1) (hst : autoParam ((assignEach ts X.env).findIdx? (·.1) = none) Ax4._auto_1) : QG X (.Tuple ts k pos) (gTupD n gs) W :=
 PG_imp (pg_tup hc h hn hst) fun v σ H Q hq0 => by
  obtain ⟨F, R, σD, d, σD', r, ec, k⟩ := hq0;unfold gTupD at ec;split at ec
  ·rename_i xs
   split at ec
   ·rename_i hxn
    obtain ⟨a, vs, rfl, ft, hl, r1⟩ := r.openT;exact ⟨a, vs, rfl, ft.sq, by rw [<- hl]; exact hxn, F, R, σD, xs, σD', hl, r1, ec, k⟩
   ·cases ec
  ·cases ec
noncomputable def sAsg (c : DE) (g : DG) : DS := fun σ => (c σ).bind fun p => (g p.1 p.2).map .nx
theorem qs_asg {c : DE} (he : QE X e c) (hg : QG X tg g W) (hs : autoParam (swapsWithSole [tg] e pos.line X.env = pure false) Ax4._auto_1) (hw : autoParam (swappedStores [tg] e X.env = pure none) Ax4._auto_1)
  (h1 : autoParam ((assignEach [tg] X.env).map (·.2) = [assign tg X.env]) Ax4._auto_1) : QS X (.Assign [tg] e pos) (sAsg c g) W := PS_imp (ps_asg he hg hs hw h1) fun En σ H hq0 => by
 obtain ⟨F, R, σD, o, r, ec, k⟩ := hq0;unfold sAsg at ec;rcases h : c σD with _ | ⟨d, σ1⟩
 ·rw [h] at ec; cases ec
 ·rw [h] at ec; simp only [bind_some] at ec
  rcases h2 : g d σ1 with _ | σ2
  ·rw [h2] at ec; cases ec
  ·rw [h2] at ec; cases ec
   refine ⟨F, R, σD, d, σ1, r, h, fun F1 H1 v x1 r1 => ?_⟩;exact ⟨F1, R, σ1, d, σ2, r1, h2, fun F2 H2 σ3 x2 kp r2 => k F2 H2 σ3 (x1.trans x2) kp r2⟩
end
noncomputable def dLoop (g : DG) (b : DS) : List D -> DSt -> Option Out
 | [], σ => some (.nx σ)
 | x :: xs, σ => (g x σ).bind fun σ1 => (b σ1).bind fun o => match o with
  | .nx σ2 => dLoop g b xs σ2
  | .ct σ2 => dLoop g b xs σ2
  | .bk σ2 => some (.nx σ2)
  | .rt d σ2 => some (.rt d σ2)
noncomputable def rngD (lo hi : Int) : List D := (List.range (hi - lo).toNat).map fun (k : Nat) => D.int (lo + k)
noncomputable def rOk (i : Int) : Bool := decide (-(2 ^ 62) <= i /\ i < 2 ^ 62)
section
variable {X : Cx} {e tg : Expr} {ts : List Expr} {g : DG} {c : DE} {s : DS} {pos : Pos} {W W' : List Nat} {body : List Stmt}
theorem turn_of {F0 F : Addr -> Prop} {H0 H : Hp} {R R0 : Ro} {σD : DSt} {σ0 σ : St} {x : D} {v : V} {xs : List D} {En : Ends} {N : St -> Hp -> Prop} {o : Out} (hR : ∀ F' H', Ext F H F' H' -> ∀ σD' σ' S, Rel X.K F' H' σD' σ' (S ++ R) -> Rel X.K F' H' σD' σ' (S ++ R0))
  (r : Rel X.K F H σD σ ((x, v) :: R)) (x0 : Ext F0 H0 F H) (kp : Kp (W ++ W') σ0 σ) (h : dLoop g s (x :: xs) σD = some o)
  (k : ∀ F' H' σ', Ext F0 H0 F' H' -> Kp (W ++ W') σ0 σ' -> Th X.K En R0 F' H' σ' o)
  (hN : ∀ F' H' σD' σ', Ext F H F' H' -> Kp (W ++ W') σ0 σ' -> Rel X.K F' H' σD' σ' R -> dLoop g s xs σD' = some o -> N σ' H') :
  rG X.K g W v σ H fun σ2 H2 => rS X.K s W' { En with nx := N, ct := N, bk := En.nx } σ2 H2 := by
 simp only [dLoop] at h;rcases h1 : g x σD with _ | σ1
 ·rw [h1] at h; cases h
 ·rw [h1] at h; simp only [bind_some] at h
  rcases h2 : s σ1 with _ | o1
  ·rw [h2] at h; cases h
  ·rw [h2] at h; simp only [bind_some] at h
   refine ⟨F, R, σD, x, σ1, r, h1, fun F1 H1 σ2 x1 kp1 r1 => ?_⟩;refine ⟨F1, R, σ1, o1, r1, h2, fun F2 H2 σ3 x2 kp2 => ?_⟩;have kp3 : Kp (W ++ W') σ0 σ3 := (kp.trans (kp1.mono fun k hk => by simp [hk])).trans (kp2.mono fun k hk => by simp [hk]);cases o1 with
   | nx σ4 => exact fun r2 => hN F2 H2 σ4 σ3 (x1.trans x2) kp3 r2 h
   | ct σ4 => exact fun r2 => hN F2 H2 σ4 σ3 (x1.trans x2) kp3 r2 h
   | bk σ4 =>
    cases h;exact fun r2 => k F2 H2 σ3 (x0.trans (x1.trans x2)) kp3 (hR F2 H2 (x1.trans x2) _ _ [] r2)
   | rt d σ4 =>
    cases h;exact fun v r2 => k F2 H2 σ3 (x0.trans (x1.trans x2)) kp3 v (hR F2 H2 (x1.trans x2) _ _ [(d, v)] r2)
end
noncomputable abbrev GF := List D -> Option (D × List D)
noncomputable def spD (K : PySem.W.Frag) (n : Nat) (g : GF) : Sp := fun vs H Q _ => vs.length = n /\ ∃ F R ds r ds', ds.length = vs.length /\ G K F H (ds.zip vs ++ R) /\ g ds = some (r, ds') /\
 ∀ F' H' v, Ext F H F' H' -> ds'.length = vs.length -> G K F' H' ((r, v) :: (ds'.zip vs ++ R)) -> Q v H'
noncomputable def inD (W : List Nat) : Nat -> List D -> List D
 | _, [] => []
 | k, d :: ds => (if k ∈ W then d.fz else d) :: inD W (k + 1) ds
noncomputable def outD (W : List Nat) (σ : DSt) : Nat -> List D -> List D
 | _, [] => []
 | k, d :: ds => (if k ∈ W then d.fz else (dget σ k).getD .hole) :: outD W σ (k + 1) ds
noncomputable def gOf (N : Nat) (W : List Nat) (c : DS) : GF := fun ds => (c ((inD W 0 ds).map some ++ List.replicate (N - ds.length) none)).bind fun o => match o with
 | .rt d σ => some (d, outD W σ 0 ds)
 | .nx σ => some (.non, outD W σ 0 ds)
 | _ => none
section
variable {K : PySem.W.Frag} {F F' : Addr -> Prop} {H H' : Hp}
noncomputable def frD (W : List Nat) : Nat -> List D -> List V -> Ro
 | k, d :: ds, v :: vs => if k ∈ W then (d.fz, v) :: frD W (k + 1) ds vs else frD W (k + 1) ds vs
 | _, _, _ => []
theorem inD_length (W : List Nat) : ∀ (k : Nat) (ds : List D), (inD W k ds).length = ds.length
 | _, [] => rfl
 | k, d :: ds => by simp [inD, inD_length W (k + 1) ds]
theorem outD_length (W : List Nat) (σ : DSt) : ∀ (k : Nat) (ds : List D), (outD W σ k ds).length = ds.length
 | _, [] => rfl
 | k, d :: ds => by simp [outD, outD_length W σ (k + 1) ds]
theorem pull {α : Type} {x : α} {A B C : List α} : (A ++ (B ++ x :: C)).Perm (x :: (A ++ (B ++ C))) := ((List.perm_middle (a := x) (l₁ := B) (l₂ := C)).append_left A).trans List.perm_middle
theorem entry (W : List Nat) : ∀ {ds : List D} {vs : List V} {k : Nat} {F : Addr -> Prop} {R : Ro}, ds.length = vs.length -> G K F H (ds.zip vs ++ R) -> ∃ F', Ext F H F' H /\ G K F' H ((inD W k ds).zip vs ++ (frD W k ds vs ++ R))
 | [], [], _, F, R, _, g => ⟨F, Ext.refl, g⟩
 | d :: ds, v :: vs, k, F, R, hl, g => by
  have hl' : ds.length = vs.length := by simpa using hl
  have g0 : G K F H ((d, v) :: (ds.zip vs ++ R)) := by simpa using g
  by_cases hk : k ∈ W
  ·obtain ⟨F1, x1, g1, o1⟩ := g0.freeze
   have g2 : G K F1 H (ds.zip vs ++ ((d.fz, v) :: (d.fz, v) :: R)) := (g1.push o1).perm (((List.perm_middle).symm.cons _).trans (List.perm_middle).symm);obtain ⟨F2, x2, g3⟩ := entry W (k := k + 1) hl' g2;refine ⟨F2, x1.trans x2, ?_⟩;simp only [inD, frD, hk, if_true, List.zip_cons_cons];exact g3.perm (pull.trans ((List.perm_middle.append_left _).cons _))
  ·obtain ⟨F2, x2, g3⟩ := entry W (k := k + 1) (R := (d, v) :: R) hl' (g0.perm (List.perm_middle.symm))
   refine ⟨F2, x2, ?_⟩;simp only [inD, frD, hk, if_false, List.zip_cons_cons];exact g3.perm pull
theorem dget_set_ne {σ : DSt} {i j : Nat} {o : Option D} (h : i ≠ j) : dget (σ.set i o) j = dget σ j := by
 unfold dget; rw [List.getElem?_set_ne h]
theorem outD_set (W : List Nat) {σ : DSt} {o : Option D} {i : Nat} : ∀ {k : Nat} {ds : List D}, i < k -> outD W (σ.set i o) k ds = outD W σ k ds
 | _, [], _ => rfl
 | k, d :: ds, h => by simp only [outD]; rw [dget_set_ne oM, outD_set W (k := k + 1) oM]
theorem exitP (W : List Nat) {σ : St} : ∀ {ds : List D} {vs : List V} {k : Nat} {σD : DSt} {R : Ro}, ds.length = vs.length -> (∀ (j : Nat) v, vs[j]? = some v -> k + j ∉ W -> σ[k + j]? = some (some v)) ->
  Rel K F H σD σ (frD W k ds vs ++ R) -> ∃ σD2, Rel K F H σD2 σ ((outD W σD k ds).zip vs ++ R) := by
 intro ds
 induction ds with
 | nil =>
  intro vs k σD R hl hv r;cases vs with
  | nil => exact ⟨σD, r⟩
  | cons _ _ => cases hl
 | cons d ds ih =>
  intro vs k σD R hl hv r;cases vs with
  | nil => cases hl
  | cons v vs =>
   have hl' : ds.length = vs.length := by simpa using hl
   have hv' : ∀ (j : Nat) u, vs[j]? = some u -> k + 1 + j ∉ W -> σ[k + 1 + j]? = some (some u) := fun j u e h => by
    have q := hv (j + 1) u (by simpa using e) (by rw [show k + (j + 1) = k + 1 + j by omega]; exact h);rw [show k + (j + 1) = k + 1 + j by omega] at q; exact q
   by_cases hk : k ∈ W
   ·simp only [frD, hk, if_true] at r
    obtain ⟨σ2, r2⟩ := ih (k := k + 1) (R := (d.fz, v) :: R) hl' hv' (r.perm List.perm_middle.symm);refine ⟨σ2, ?_⟩;simp only [outD, hk, if_true, List.zip_cons_cons];exact r2.perm List.perm_middle
   ·simp only [frD, hk, if_false] at r
    have e0 : σ[k]? = some (some v) := by simpa using hv 0 v rfl (by simpa using hk)
    rcases hd : dget σD k with _ | dk
    ·have r1 : Rel K F H σD σ ((.hole, v) :: (frD W (k + 1) ds vs ++ R)) := r.push (by simp only [Ow])
     obtain ⟨σ2, r2⟩ := ih (k := k + 1) (R := (.hole, v) :: R) hl' hv' (r1.perm List.perm_middle.symm);refine ⟨σ2, ?_⟩;simp only [outD, hk, if_false, List.zip_cons_cons, hd, Option.getD_none];exact r2.perm List.perm_middle
    ·obtain ⟨v', hv1, r1⟩ := r.take (dget_some hd)
     rw [e0] at hv1; cases hv1;obtain ⟨σ2, r2⟩ := ih (k := k + 1) (R := (dk, v) :: R) hl' hv' (r1.perm List.perm_middle.symm);refine ⟨σ2, ?_⟩;simp only [outD, hk, if_false, List.zip_cons_cons, hd, Option.getD_some];rw [outD_set W (Nat.lt_succ_self k)] at r2;exact r2.perm List.perm_middle
theorem sl_none' : ∀ {n : Nat} {σ : St}, sl (List.replicate n none) σ = []
 | 0, σ => by cases σ <;> rfl
 | n + 1, [] => rfl
 | n + 1, o :: σ => by rw [List.replicate_succ]; exact sl_none' (n := n) (σ := σ)
theorem sl_start : ∀ {ds : List D} {vs : List V} {n : Nat}, ds.length = vs.length -> sl (ds.map some ++ List.replicate n none) (vs.map some ++ List.replicate n none) = ds.zip vs
 | [], [], n, _ => by simpa using sl_none'
 | d :: ds, v :: vs, n, h => by
  show (d, v) :: sl (ds.map some ++ List.replicate n none) (vs.map some ++ List.replicate n none) = _;rw [sl_start (by simpa using h)]; rfl
theorem mt_none : ∀ {n : Nat}, Mt (List.replicate n none) (List.replicate n none)
 | 0 => trivial
 | n + 1 => by rw [List.replicate_succ, List.replicate_succ]; exact mt_none (n := n)
theorem mt_start : ∀ {ds : List D} {vs : List V} {n : Nat}, ds.length = vs.length -> Mt (ds.map some ++ List.replicate n none) (vs.map some ++ List.replicate n none)
 | [], [], n, _ => by simpa using mt_none
 | d :: ds, v :: vs, n, h => mt_start (ds := ds) (vs := vs) (n := n) (by simpa using h)
end
section
variable {P : Program} {w : World} {K : PySem.W.Frag} {mg : Str -> Option Value} {base : Heap}
theorem fn_D {x qual : Str} {st : Stmt} {f : Addr} {fd : FuncData} {N ps : List Str} {k : Nat} {W : List Nat} {c : DS} (F : Fun K x qual st f fd) (S : FnScope N ps (defScope st)) (hnp : ps.length <= N.length)
  (hbody : ∀ (cdv : Value) (A : Around) (outer : List Env) (s : Shared) (H : Hp) (E : XK), Room k (A.deeper (envOfC qual (defScope st) s.heap.objs.size f cdv)) ->
   QSs (cxOf CX0 P w K mg base N qual (defScope st) f cdv A outer s H E).nox (defBody st) c W) :
  FnOk P w K mg base CX0 (k + 1) f fd ps (spD K ps.length (gOf N.length W c)) := by
 refine F.ok S (fun vs H Q E h => h.1) (fun cdv A outer s H vs Q E hr h => ?_);obtain ⟨hlen, F0, R, ds, r, ds', hl, g, eg, kk⟩ := h;refine ⟨_, hbody cdv A outer s H E hr, ?_⟩;show rS K c W _ _ _;unfold gOf at eg;obtain ⟨F1, x1, g1⟩ := entry W (k := 0) hl g;have hl2 : (inD W 0 ds).length = vs.length := by rw [inD_length]; exact hl
 have est : L2.start N vs = vs.map some ++ List.replicate (N.length - ds.length) none := by unfold L2.start; rw [hl]
 have r0 : Rel K F1 H ((inD W 0 ds).map some ++ List.replicate (N.length - ds.length) none) (L2.start N vs) (frD W 0 ds vs ++ R) := by
  rw [est];exact ⟨mt_start hl2, by rw [sl_start hl2]; exact g1⟩
 rcases h : c ((inD W 0 ds).map some ++ List.replicate (N.length - ds.length) none) with _ | o
 ·rw [h] at eg; cases eg
 ·rw [h] at eg; simp only [bind_some] at eg
  refine ⟨F1, _, _, o, r0, h, fun F2 H2 σ2 x2 kp => ?_⟩;have hv : ∀ (j : Nat) v, vs[j]? = some v -> 0 + j ∉ W -> σ2[0 + j]? = some (some v) := fun j v e hj => by
   rw [kp (0 + j) hj, Nat.zero_add, est];have hjl : j < vs.length := (List.getElem?_eq_some_iff.mp e).1;rw [List.getElem?_append_left (by simpa using hjl)];simp [e]
  cases o with
  | nx σ3 =>
   cases eg;intro r3;obtain ⟨σ4, r4⟩ := exitP W (k := 0) hl hv r3;exact kk F2 H2 .non (x1.trans x2) (by rw [outD_length]; exact hl) ((r4.scal (d := .non) (w := .non) rfl).g.popN)
  | rt d σ3 =>
   cases eg;intro v r3;obtain ⟨σ4, r4⟩ := exitP W (k := 0) (R := (_, v) :: R) hl hv (r3.perm List.perm_middle.symm);exact kk F2 H2 v (x1.trans x2) (by rw [outD_length]; exact hl) ((r4.perm List.perm_middle).g.popN)
  | bk σ3 => cases eg
  | ct σ3 => cases eg
end
inductive Arg where
 | bo (i : Nat) | ex (c : DE)
noncomputable def evM : List Arg -> DSt -> Option (List (Option D) × DSt)
 | [], σ => some ([], σ)
 | .bo i :: as, σ => (dget σ i).bind fun _ => (evM as σ).map fun p => (none :: p.1, p.2)
 | .ex c :: as, σ => (c σ).bind fun q => (evM as q.2).map fun p => (some q.1 :: p.1, p.2)
noncomputable def fillM : List Arg -> List (Option D) -> DSt -> Option (List D × DSt)
 | .bo i :: as, none :: os, σ => (dget σ i).bind fun d => match d.sc with
  | some _ => (fillM as os σ).map fun p => (d :: p.1, p.2)
  | none => (fillM as os (σ.set i none)).map fun p => (d :: p.1, p.2)
 | .ex _ :: as, some d :: os, σ => (fillM as os σ).map fun p => (d :: p.1, p.2)
 | [], [], σ => some ([], σ)
 | _, _, _ => none
noncomputable def backM : List Arg -> List D -> DSt -> DSt
 | .bo i :: as, d :: ds, σ => match d.sc with
  | some _ => backM as ds σ
  | none => backM as ds (σ.set i (some d))
 | .ex _ :: as, _ :: ds, σ => backM as ds σ
 | _, _, σ => σ
noncomputable def dCall (g : GF) (as : List Arg) : DE := fun σ => (evM as σ).bind fun p => (fillM as p.1 p.2).bind fun q => (g q.1).map fun r => (r.1, backM as r.2 q.2)
noncomputable def OkM : List Arg -> List (Option D) -> List V -> St -> Prop
 | .bo i :: as, none :: os, v :: vs, σ => σ[i]? = some (some v) /\ OkM as os vs σ
 | .ex _ :: as, some _ :: os, _ :: vs, σ => OkM as os vs σ
 | [], [], [], _ => True
 | _, _, _, _ => False
noncomputable def tz : List (Option D) -> List V -> Ro
 | none :: os, _ :: vs => tz os vs
 | some d :: os, v :: vs => (d, v) :: tz os vs
 | _, _ => []
noncomputable def rM (K : PySem.W.Frag) (as : List Arg) : TA := fun σ H Q => ∃ F R σD os σD', Rel K F H σD σ R /\ evM as σD = some (os, σD') /\ ∀ F' H' vs, Ext F H F' H' -> OkM as os vs σ -> Rel K F' H' σD' σ (tz os vs ++ R) -> Q vs H'
noncomputable def QM (X : Cx) (es : List Expr) (as : List Arg) : Prop := PA X es (rM X.K as)
section
variable {X : Cx} {e : Expr} {es : List Expr} {as : List Arg} {c : DE}
theorem qm_nil : QM X [] [] := PA_imp pa_nil fun σ H Q hq0 => by
 obtain ⟨F, R, σD, os, σD', r, ec, k⟩ := hq0;cases ec; exact k F H [] Ext.refl trivial r
theorem qm_ex (ha : QE X e c) (hr : QM X es as) (hs : autoParam (starEach (e :: es) X.env = (false, eval e X.env) :: starEach es X.env) Ax4._auto_1) : QM X (e :: es) (.ex c :: as) := PA_imp (pa_cons ha hr hs) fun σ H Q hq0 => by
 obtain ⟨F, R, σD, os, σD', r, ec, k⟩ := hq0;simp only [evM] at ec;rcases h1 : c σD with _ | ⟨x, σ1⟩
 ·rw [h1] at ec; cases ec
 ·rw [h1] at ec; simp only [bind_some] at ec
  obtain ⟨⟨os2, σ2⟩, e2, e3⟩ := map_pair ec;cases e3;refine ⟨F, R, σD, x, σ1, r, h1, fun F1 H1 v x1 r1 => ?_⟩;refine ⟨F1, _, σ1, os2, σ2, r1, e2, fun F2 H2 vs x2 ok r2 => ?_⟩;exact k F2 H2 (v :: vs) (x1.trans x2) ok (r2.perm List.perm_middle)
theorem qm_bo (i : Nat) {x : Str} {pos : Pos} (hr : QM X es as) (hN : autoParam (X.N[i]? = some x) Ax4._auto_1) (hv : autoParam (Vis X.env.scope x) Ax7._auto_1) (hd : autoParam ((x == ("__debug__" : Str)) = false) Ax1._auto_1)
  (hcd : autoParam ((x == ("__classdict__" : Str)) = false) Ax1._auto_1) (hs : autoParam (starEach (.Name x pos :: es) X.env = (false, eval (.Name x pos) X.env) :: starEach es X.env) Ax4._auto_1) : QM X (.Name x pos :: es) (.bo i :: as) :=
 PA_imp (pa_cons (pe_var hN hv hd hcd) hr hs) fun σ H Q hq0 => by
  obtain ⟨F, R, σD, os, σD', r, ec, k⟩ := hq0;simp only [evM] at ec;rcases h1 : dget σD i with _ | d
  ·rw [h1] at ec; cases ec
  ·rw [h1] at ec; simp only [bind_some] at ec
   obtain ⟨⟨os2, σ2⟩, e2, e3⟩ := map_pair ec;cases e3;obtain ⟨v, hv, b⟩ := r.get (dget_some h1);refine ⟨v, hv, F, R, σD, os2, σ2, r, e2, fun F2 H2 vs x2 ok r2 => ?_⟩;exact k F2 H2 (v :: vs) x2 ⟨hv, ok⟩ r2
variable {K : PySem.W.Frag} {F F' : Addr -> Prop} {H H' : Hp}
theorem fill_ok : ∀ {as : List Arg} {os : List (Option D)} {vs : List V} {σ : St} {σD : DSt} {R : Ro} {ds : List D} {σD' : DSt}, OkM as os vs σ -> fillM as os σD = some (ds, σD') -> Rel K F H σD σ (tz os vs ++ R) ->
  ds.length = vs.length /\ Rel K F H σD' σ (ds.zip vs ++ R) := by
 intro as
 induction as with
 | nil =>
  intro os vs σ σD R ds σD' ok e r;cases os with
  | nil => cases vs with
   | nil => simp only [fillM] at e; cases e; exact ⟨rfl, r⟩
   | cons _ _ => exact ok.elim
  | cons _ _ => exact ok.elim
 | cons a as ih =>
  intro os vs σ σD R ds σD' ok e r;cases os with
  | nil => cases a <;> exact ok.elim
  | cons o os => cases vs with
   | nil => cases a <;> cases o <;> exact ok.elim
   | cons v vs => cases a with
    | bo i => cases o with
     | some _ => exact ok.elim
     | none =>
      obtain ⟨hv, ok⟩ := ok;simp only [fillM] at e;rcases h1 : dget σD i with _ | d
      ·rw [h1] at e; cases e
      ·rw [h1] at e; simp only [bind_some] at e
       obtain ⟨v', hv1, r1⟩ := r.take (dget_some h1);rw [hv] at hv1; cases hv1;rcases hs : d.sc with _ | wv
       ·rw [hs] at e
        obtain ⟨⟨ds2, σ2⟩, e2, e3⟩ := map_pair e;cases e3;obtain ⟨l, r2⟩ := ih (R := (d, v) :: R) ok e2 (r1.perm List.perm_middle.symm);exact ⟨by simp [l], r2.perm List.perm_middle⟩
       ·rw [hs] at e
        obtain ⟨⟨ds2, σ2⟩, e2, e3⟩ := map_pair e;cases e3;have ev : v = wv := (r1.bor (by simp)).sc hs;subst ev;obtain ⟨l, r2⟩ := ih (R := R) ok e2 r;exact ⟨by simp [l], r2.scal hs⟩
    | ex _ => cases o with
     | none => exact ok.elim
     | some d =>
      simp only [fillM] at e;obtain ⟨⟨ds2, σ2⟩, e2, e3⟩ := map_pair e;cases e3;obtain ⟨l, r2⟩ := ih (os := os) (vs := vs) (R := (d, v) :: R) ok e2 (r.perm (List.perm_middle (l₁ := tz os vs)).symm);exact ⟨by simp [l], r2.perm List.perm_middle⟩
theorem back_ok : ∀ {as : List Arg} {os : List (Option D)} {vs : List V} {σ : St} {σD : DSt} {R : Ro} {ds : List D}, OkM as os vs σ -> ds.length = vs.length -> Rel K F H σD σ (ds.zip vs ++ R) -> Rel K F H (backM as ds σD) σ R := by
 intro as
 induction as with
 | nil =>
  intro os vs σ σD R ds ok l r;cases os with
  | nil => cases vs with
   | nil => cases ds with
    | nil => exact r
    | cons _ _ => cases l
   | cons _ _ => exact ok.elim
  | cons _ _ => exact ok.elim
 | cons a as ih =>
  intro os vs σ σD R ds ok l r;cases os with
  | nil => cases a <;> exact ok.elim
  | cons o os => cases vs with
   | nil => cases a <;> cases o <;> exact ok.elim
   | cons v vs => cases ds with
    | nil => cases l
    | cons d ds =>
     have l' : ds.length = vs.length := by simpa using l
     cases a with
     | bo i => cases o with
      | some _ => exact ok.elim
      | none =>
       obtain ⟨hv, ok⟩ := ok;simp only [backM];rcases hs : d.sc with _ | wv
       ·exact ih ok l' (Rel.put (R := ds.zip vs ++ R) r hv)
       ·exact ih ok l' (Rel.pop (R := ds.zip vs ++ R) r)
     | ex _ => cases o with
      | none => exact ok.elim
      | some d' => exact ih (os := os) ok l' (Rel.pop (R := ds.zip vs ++ R) r)
theorem OkM.length : ∀ {as : List Arg} {os : List (Option D)} {vs : List V} {σ : St}, OkM as os vs σ -> vs.length = as.length := by
 intro as
 induction as with
 | nil =>
  intro os vs σ ok;cases os with
  | nil => cases vs with
   | nil => rfl
   | cons _ _ => exact ok.elim
  | cons _ _ => exact ok.elim
 | cons a as ih =>
  intro os vs σ ok;cases os with
  | nil => cases a <;> exact ok.elim
  | cons o os => cases vs with
   | nil => cases a <;> cases o <;> exact ok.elim
   | cons v vs => cases a with
    | bo i => cases o with
     | some _ => exact ok.elim
     | none => exact congrArg (· + 1) (ih (os := os) (vs := vs) ok.2)
    | ex _ => cases o with
     | none => exact ok.elim
     | some _ => exact congrArg (· + 1) (ih (os := os) (vs := vs) (σ := σ) ok)
theorem rCall {n : Nat} {g : GF} {E : XK} {σ : St} {H : Hp} {Q : VK} (hn : as.length = n) (h : rE K (dCall g as) σ H Q) : tCall (spD K n g) [] E (rM K as) σ H Q := by
 obtain ⟨F, R, σD, d, σD', r, ec, k⟩ := h;unfold dCall at ec;rcases h1 : evM as σD with _ | ⟨os, σ1⟩
 ·rw [h1] at ec; cases ec
 ·rw [h1] at ec; simp only [bind_some] at ec
  rcases h2 : fillM as os σ1 with _ | ⟨ds, σ2⟩
  ·rw [h2] at ec; cases ec
  ·rw [h2] at ec; simp only [bind_some] at ec
   obtain ⟨⟨d', ds'⟩, e2, e3⟩ := map_pair ec;cases e3;refine ⟨F, R, σD, os, σ1, r, h1, fun F1 H1 vs x1 ok r1 => ?_⟩;obtain ⟨l, r2⟩ := fill_ok ok h2 r1;have lv : vs.length = n := by rw [<- hn]; exact ok.length
   refine ⟨by simpa using lv, F1, sl σ2 σ ++ R, ds, _, ds', by simpa using l, ?_, e2, fun F2 H2 v x2 l2 g2 => ?_⟩
   ·rw [List.append_nil]
    exact r2.g.perm (by rw [<- List.append_assoc, <- List.append_assoc]; exact List.perm_append_comm.append_right R)
   ·refine k F2 H2 v (x1.trans x2) ?_
    rw [List.append_nil] at l2 g2;refine back_ok (R := (_, v) :: R) ok l2 ⟨r2.mt, g2.perm ?_⟩;exact ((pull (x := (_, v)) (A := sl σ2 σ) (B := ds'.zip vs) (C := R)).trans ((List.perm_append_comm_assoc _ _ _).cons _)).symm
theorem qe_call {k : Nat} {f : Addr} {fd : FuncData} {ps : List Str} {g : GF} {x : Str} {p pos : Pos} (F : FnOk X.prog X.w X.K X.mg X.base CX0 k f fd ps (spD X.K ps.length g)) (hr : Room k X.A) (hg : Gl X x) (hm : X.mg x = some (.ref f)) (hk : keepIn X.K (.ref f) = true) (hb : Binds X.K fd ps [])
  (ha : QM X (e :: es) as) (hn : autoParam (as.length = ps.length) Ax4._auto_1) (hdb : autoParam ((x == ("__debug__" : Str)) = false) Ax1._auto_1) (he : autoParam (starEach (e :: es) X.env = (false, eval e X.env) :: starEach es X.env) Ax4._auto_1) (hpl : autoParam ((backTo pos (starEach es X.env)).any (·.1) = false) Ax4._auto_1) :
  QE X (.Call (.Name x p) (e :: es) [] pos) (dCall g as) := PE_imp (pe_call (E := E0) F hr hg hm hk hb .nil pass0 ha hdb he hpl) fun _ _ _ h => rCall hn h
end
end DD
namespace L2
open PySem PySem.Spec PyProof.Rows
theorem cf_own : ∀ (names : List (Str × NameKind)) (n : Nat) (acc : List (Str × Addr)), ∃ own, cellsFrom n names acc = own ++ acc /\ (∀ p ∈ own, n <= p.2 /\ (p.1, NameKind.cell) ∈ names) /\
  (∀ x, (x, NameKind.cell) ∈ names -> ∃ c, (x, c) ∈ own) /\ own.Pairwise fun x y => x.2 ≠ y.2
 | [], n, acc => ⟨[], rfl, (fun _ h => by cases h), (fun _ h => by cases h), List.Pairwise.nil⟩
 | (name, kind) :: r, n, acc => by
  unfold cellsFrom;by_cases hk : kind = .cell
  ·subst hk
   obtain ⟨own, e, h1, h2, h3⟩ := cf_own r (n + 1) ((name, n) :: acc);refine ⟨own ++ [(name, n)], ?_, ?_, ?_, ?_⟩
   ·rw [if_pos dC, e, List.append_assoc]; rfl
   ·intro p hp
    rcases List.mem_append.mp hp with hp | hp
    ·exact ⟨Nat.le_of_succ_le (h1 p hp).1, List.mem_cons_of_mem _ (h1 p hp).2⟩
    ·rw [List.mem_singleton.mp hp]; exact ⟨Nat.le_refl _, List.mem_cons_self⟩
   ·intro x hx
    rcases List.mem_cons.mp hx with hx | hx
    ·cases hx; exact ⟨n, List.mem_append_right _ List.mem_cons_self⟩
    ·obtain ⟨c, hc⟩ := h2 x hx; exact ⟨c, List.mem_append_left _ hc⟩
   ·refine List.pairwise_append.mpr ⟨h3, List.pairwise_singleton _ _, fun a ha b hb e => ?_⟩
    rw [List.mem_singleton.mp hb] at e;have h5 := (h1 a ha).1;rw [show a.2 = n from e] at h5;exact absurd h5 (Nat.not_succ_le_self n)
  ·obtain ⟨own, e, h1, h2, h3⟩ := cf_own r n acc
   have hk' : (kind == NameKind.cell) = false := by cases kind <;> first | rfl | exact absurd rfl hk
   refine ⟨own, by rw [hk']; exact e, fun p hp => ⟨(h1 p hp).1, List.mem_cons_of_mem _ (h1 p hp).2⟩, fun x hx => ?_, h3⟩;rcases List.mem_cons.mp hx with hx | hx
   ·cases hx; exact absurd rfl hk
   ·exact h2 x hx
theorem closure_ok {scope : Scope} {env : Env} (h : ∀ x, (x, NameKind.free) ∈ scope.names -> ∃ c, env.cells.lookup x = some c) :
  ∃ cl, closureFor scope env = pure cl /\ (∀ p ∈ cl, env.cells.lookup p.1 = some p.2) /\ ∀ x, (x, NameKind.free) ∈ scope.names -> ∃ c, (x, c) ∈ cl := by
 have all : ∀ (names : List (Str × NameKind)) (acc : List (Str × Addr)), (∀ x, (x, NameKind.free) ∈ names -> ∃ c, env.cells.lookup x = some c) -> (∀ p ∈ acc, env.cells.lookup p.1 = some p.2) ->
   ∃ cl, (forIn (m := Sem) names acc fun (p : Str × NameKind) (cs : List (Str × Addr)) => if (p.2 == NameKind.free) = true then do let __do_lift <- cellOf env p.1; pure (ForInStep.yield ((p.1, __do_lift) :: cs)) else pure (ForInStep.yield cs)) = pure cl /\
    (∀ p ∈ cl, env.cells.lookup p.1 = some p.2) /\ (∀ p ∈ acc, p ∈ cl) /\ ∀ x, (x, NameKind.free) ∈ names -> ∃ c, (x, c) ∈ cl := by
  intro names
  induction names with
  | nil => intro acc _ ha; exact ⟨acc, by rw [List.forIn_nil], ha, fun _ h => h, (fun _ h => by cases h)⟩
  | cons p r ih =>
   obtain ⟨name, kind⟩ := p;intro acc hn ha;by_cases hk : kind = .free
   ·subst hk
    obtain ⟨c, hc⟩ := hn name List.mem_cons_self;obtain ⟨cl, e, h1, h2, h3⟩ := ih ((name, c) :: acc) (fun x hx => hn x (List.mem_cons_of_mem _ hx)) (fun p hp => by
     rcases List.mem_cons.mp hp with rfl | hp
     ·exact hc
     ·exact ha p hp)
    refine ⟨cl, ?_, h1, fun p hp => h2 p (List.mem_cons_of_mem _ hp), fun x hx => ?_⟩
    ·rw [List.forIn_cons]
     have ec : cellOf env name = pure c := by unfold cellOf; rw [hc]
     simp only [ec];exact e
    ·rcases List.mem_cons.mp hx with hx | hx
     ·cases hx; exact ⟨c, h2 _ List.mem_cons_self⟩
     ·exact h3 x hx
   ·obtain ⟨cl, e, h1, h2, h3⟩ := ih acc (fun x hx => hn x (List.mem_cons_of_mem _ hx)) ha
    have hk' : (kind == NameKind.free) = false := by cases kind <;> first | rfl | exact absurd rfl hk
    refine ⟨cl, ?_, h1, h2, fun x hx => ?_⟩
    ·rw [List.forIn_cons]; simp only [hk', Bool.false_eq_true, if_false]; exact e
    ·rcases List.mem_cons.mp hx with hx | hx
     ·cases hx; exact absurd rfl hk
     ·exact h3 x hx
 obtain ⟨cl, e, h1, _, h3⟩ := all scope.names [] h (fun _ h => by cases h);refine ⟨cl, ?_, h1, h3⟩;simp only [closureFor];rw [e];rfl
theorem nfe_comp {M : Model} {A : Around} {E : Value -> Shared -> Prop} {s : Shared} {scope : Scope} {env : Env} {cl : List (Str × Addr)} {Q : Env -> Shared -> Prop}
  (hQ : Q (newEnv scope s.heap.objs.size env.globals (cellsFrom (s.heap.objs.size + 1) scope.names cl) env.qual none .none (some env) builtinsNs) { s with heap := pushCells (s.heap.push { cls := .type "dict", data := .dict #[] }) scope.names }) :
  wpAny M A (newFunctionEnv scope env.globals cl [] env.qual none .none (some env)) Q E s := by
 simp only [newFunctionEnv, Option.isSome_some, if_true];refine wpAny_bind (wpAny_alloc ?_);refine wpAny_bind (wpAny_layCells _ (fun name kind cells => by cases hkc : kind == NameKind.cell <;> simp [hkc]) _ _ _ _ ?_);rw [show ({ s with heap := s.heap.push { cls := .type "dict", data := .dict #[] } } : Shared).heap.objs.size = s.heap.objs.size + 1 from Heap.size_push ..];refine wpAny_bind ?_;rw [List.forIn_nil];exact wpAny_pure (wpAny_pure hQ)
noncomputable def cyOf (X : Cx) (N' : List Str) (scope : Scope) (cl : List (Str × Addr)) (s : Shared) (H : Hp) (fp : List Addr) (pins : List (Addr × Obj)) : Cx :=
 { X with N := N', s₀ := s, H₀ := H, env := compEnvC scope (cellsFrom (s.heap.objs.size + 1) scope.names cl) s.heap.objs.size X.env, outer := X.stack, stack := X.stack, ex := fp,
          fn := fun x => scope.names.lookup x == some .cell, pn := X.pn ++ pins, xe := fun _ _ => False }
structure CyOk (X : Cx) (N' : List Str) (scope : Scope) : Prop where
 kind : scope.kind = .function
 nd : (scope.names.map (·.1)).Nodup
 len : X.N.length <= N'.length
 free : ∀ x, (x, NameKind.free) ∈ scope.names -> X.env.kindOf x = some .cell \/ X.env.kindOf x = some .free
 same : ∀ i x, i < X.N.length -> N'[i]? = some x -> (x, NameKind.free) ∈ scope.names -> X.N[i]? = some x
 hid : ∀ i x, i < X.N.length -> N'[i]? = some x -> (∃ k, (x, k) ∈ scope.names) -> (x, NameKind.free) ∈ scope.names
theorem lookup_mem {α : Type} : ∀ {l : List (Str × α)} {x : Str} {k : α}, (l.map (·.1)).Nodup -> (x, k) ∈ l -> l.lookup x = some k
 | (y, j) :: r, x, k, nd, h => by
  rw [List.map_cons, List.nodup_cons] at nd;rcases List.mem_cons.mp h with h | h
  ·cases h; rw [List.lookup_cons]; simp
  ·have ne : x ≠ y := fun e => nd.1 (e ▸ List.mem_map_of_mem (f := (·.1)) h)
   rw [List.lookup_cons];have : (x == y) = false := by simpa using ne
   rw [this];exact lookup_mem nd.2 h
theorem lookup_ex {α : Type} : ∀ {l : List (Str × α)} {x : Str} {k : α}, (x, k) ∈ l -> ∃ k', l.lookup x = some k'
 | (y, j) :: r, x, k, h => by
  rw [List.lookup_cons];cases hb : x == y with
  | true => exact ⟨j, rfl⟩
  | false =>
   rcases List.mem_cons.mp h with h | h
   ·cases h; simp at hb
   ·exact lookup_ex h
theorem relabel_mem {scope : Scope} {env : Env} {x : Str} {k : NameKind} (h : (relabel scope env).names.lookup x = some k) : (x, k) ∈ scope.names \/ ((x, NameKind.free) ∈ scope.names /\ k = .cell) := by
 have h1 := mem_of_lookup h;unfold relabel at h1;obtain ⟨⟨n, j⟩, hm, e⟩ := List.mem_map.mp h1;dsimp only at e;split at e
 ·rename_i hc
  cases e;refine .inr ⟨?_, rfl⟩;have : j = .free := by
   cases j <;> simp at hc <;> rfl
  subst this; exact hm
 ·cases e; exact .inl hm
theorem lookup_append {α : Type} {a b : List (Str × α)} {x : Str} (h : ∀ p ∈ a, p.1 ≠ x) : (a ++ b).lookup x = b.lookup x := by
 induction a with
 | nil => rfl
 | cons p r ih =>
  obtain ⟨y, j⟩ := p;rw [List.cons_append, List.lookup_cons];have : (x == y) = false := by
   have := h (y, j) List.mem_cons_self
   simpa using fun e : x = y => this e.symm
  rw [this];exact ih fun p hp => h p (List.mem_cons_of_mem _ hp)
section
variable {X : Cx} {N' : List Str} {scope : Scope} {cl : List (Str × Addr)} {s : Shared} {H : Hp} {fp : List Addr} {pins : List (Addr × Obj)} {σ : St}
theorem cy_start (T : CyOk X N' scope) (I : Inv X pins σ H s) (hcl : ∀ p ∈ cl, X.env.cells.lookup p.1 = some p.2) (hfr : ∀ x, (x, NameKind.free) ∈ scope.names -> ∃ c, (x, c) ∈ cl)
  (hf : ∀ b ∈ fp, FpOk X pins H b) (ho : ∀ b ∈ fp, ∃ o, s.heap.get? b = some o) :
  Inv (cyOf X N' scope cl s H fp pins) [] (σ ++ List.replicate (N'.length - X.N.length) none) H { s with heap := pushCells (s.heap.push { cls := .type "dict", data := .dict #[] }) scope.names } := by
 obtain ⟨own, eo, o1, o2, o3⟩ := cf_own scope.names (s.heap.objs.size + 1) cl;have keep : ∀ b o, s.heap.get? b = some o -> (pushCells (s.heap.push { cls := .type "dict", data := .dict #[] }) scope.names).get? b = some o := fun b o e => pushCells_keeps _ _ b o (Heap.get?_push_of_some _ e)
 have clt : ∀ x c, (x, c) ∈ cl -> c < s.heap.objs.size := fun x c h => by
  obtain ⟨v, z⟩ := I.cell x c (hcl _ h);exact z.lt
 -- what a cell of the block is
 have cases_ : ∀ x c, (own ++ cl).lookup x = some c -> (s.heap.objs.size + 1 <= c /\ (x, c) ∈ own) \/ X.env.cells.lookup x = some c := fun x c h => by
  rcases List.mem_append.mp (mem_of_lookup h) with h | h
  ·exact .inl ⟨(o1 _ h).1, h⟩
  ·exact .inr (hcl _ h)
 have hst : ∀ b ∈ fp, b ∉ frs X.stack := fun b hb z => by
  rcases List.mem_cons.mp (I.stkSub b z) with e | e
  ·exact (hf b hb).2.1 e
  ·exact (hf b hb).2.2.1 e
 have okc : CellsOk (pushCells (s.heap.push { cls := .type "dict", data := .dict #[] }) scope.names) (s.heap.objs.size + 1) (cellsFrom (s.heap.objs.size + 1) scope.names []) := by
  have q := cellsFrom_ok scope.names (s.heap.push { cls := .type "dict", data := .dict #[] }) (s.heap.objs.size + 1) [] ⟨(fun _ _ hm => by cases hm), List.Pairwise.nil⟩ (by rw [Heap.size_push]; exact Nat.le_refl _);rw [Heap.size_push] at q;exact q
 have eown : cellsFrom (s.heap.objs.size + 1) scope.names [] = own := by
  obtain ⟨own', e', _⟩ := cf_own scope.names (s.heap.objs.size + 1) [];have gen : ∀ (names : List (Str × NameKind)) (n : Nat) (acc : List (Str × Addr)), cellsFrom n names acc = cellsFrom n names [] ++ acc := by
   intro names
   induction names with
   | nil => intro n acc; rfl
   | cons p r ih =>
    obtain ⟨name, kind⟩ := p;intro n acc;unfold cellsFrom;split
    ·rw [ih (n + 1) ((name, n) :: acc), ih (n + 1) [(name, n)], List.append_assoc]; rfl
    ·exact ih n acc
  have := gen scope.names (s.heap.objs.size + 1) cl
  rw [eo] at this;exact (List.append_cancel_right this).symm
 have ok : (cyOf X N' scope cl s H fp pins).Ok := by
  refine ⟨I.ok.mod, T.kind, I.ok.glob, I.ok.blt, Nat.le_refl _, fun x y c h1 h2 => ?_, fun x h => ?_, fun x c h1 h2 => ?_, I.ok.hd, I.ok.frames, .inl rfl, fun b hb => ⟨?_, fun x c h => ?_⟩, I.bs, Nat.le_trans I.ok.bsz I.sz, fun b o e hb => ?_, hst, I.stack, I.stkFree⟩
  ·have h1 : (own ++ cl).lookup x = some c := eo ▸ h1
   have h2 : (own ++ cl).lookup y = some c := eo ▸ h2;rcases cases_ x c h1 with ⟨l1, m1⟩ | e1
   ·rcases cases_ y c h2 with ⟨l2, m2⟩ | e2
    ·exact name_of_addr o3 m1 m2
    ·obtain ⟨v, z⟩ := I.cell y c e2
     exact absurd (Nat.lt_of_lt_of_le z.lt (Nat.le_of_succ_le (by first | exact l2 | exact l1))) (Nat.lt_irrefl _)
   ·rcases cases_ y c h2 with ⟨l2, m2⟩ | e2
    ·obtain ⟨v, z⟩ := I.cell x c e1
     exact absurd (Nat.lt_of_lt_of_le z.lt (Nat.le_of_succ_le (by first | exact l2 | exact l1))) (Nat.lt_irrefl _)
    ·exact I.ok.inj x y c e1 e2
  ·show ∃ c, (cellsFrom (s.heap.objs.size + 1) scope.names cl).lookup x = some c
   rw [eo];have fromFree : (x, NameKind.free) ∈ scope.names -> ∃ c, (own ++ cl).lookup x = some c := fun hm => by
    obtain ⟨c, hc⟩ := hfr x hm;exact lookup_ex (List.mem_append_right own hc)
   have fromCell : (x, NameKind.cell) ∈ scope.names -> ∃ c, (own ++ cl).lookup x = some c := fun hm => by
    obtain ⟨c, hc⟩ := o2 x hm;exact lookup_ex (List.mem_append_left cl hc)
   rcases h with h | h
   ·rcases relabel_mem h with h | ⟨h, _⟩
    ·exact fromCell h
    ·exact fromFree h
   ·rcases relabel_mem h with h | ⟨h, e⟩
    ·exact fromFree h
    ·cases e
  ·have h2 : (own ++ cl).lookup x = some c := eo ▸ h2
   have hc : scope.names.lookup x = some .cell := by
    have : (scope.names.lookup x == some NameKind.cell) = true := h1;simpa using this
   rcases cases_ x c h2 with ⟨l1, m1⟩ | e1
   ·exact Nat.le_of_succ_le l1
   ·-- x is one of the block's own: its cell stands ahead
    obtain ⟨c', hc'⟩ := o2 x (mem_of_lookup hc);obtain ⟨c2, hc2⟩ := lookup_ex hc';have : (own ++ cl).lookup x = some c2 := by
     have gen : ∀ l : List (Str × Addr), l.lookup x = some c2 -> (l ++ cl).lookup x = some c2 := by
      intro l
      induction l with
      | nil => intro h; cases h
      | cons p r ih =>
       obtain ⟨y, j⟩ := p;intro h;rw [List.cons_append, List.lookup_cons];rw [List.lookup_cons] at h;cases hb : x == y with
       | true => rw [hb] at h; exact h
       | false => rw [hb] at h; exact ih h
     exact gen own hc2
    rw [this] at h2;cases h2;exact Nat.le_of_succ_le (o1 _ (mem_of_lookup hc2)).1
  ·obtain ⟨o, e⟩ := ho b hb
   exact Nat.ne_of_lt (Heap.lt_size e)
  ·have h : (own ++ cl).lookup x = some c := eo ▸ h
   obtain ⟨o, e⟩ := ho b hb;have hlt := Heap.lt_size e;rcases cases_ x c h with ⟨l1, m1⟩ | e1
   ·intro z
    rw [z] at l1;exact absurd (Nat.lt_of_lt_of_le hlt (Nat.le_of_succ_le l1)) (Nat.lt_irrefl _)
   ·exact (hf b hb).2.2.2.2.1 x c e1
  ·rcases (hf b hb).2.2.2.1 with z | z
   ·exact I.ok.noex b o e z
   ·exact absurd (Nat.lt_of_lt_of_le (Heap.lt_size e) (Nat.le_trans I.ok.bsz z)) (Nat.lt_irrefl _)
 refine ⟨ok, rfl, I.bare, Un.kept keep, ⟨fun _ => none, (Heap.Ns.new s.heap (.type "dict")).keeps (pushCells_keeps _ _), fun i x v e1 e2 e3 => ?_⟩, fun x c h => ?_, I.hok.fresh (Nat.le_refl _), fun x c h => ?_, fun p hp => ?_, I.hok.kept keep, ?_⟩
 ·-- a name of the code around
  have hlen := I.len;have hi : i < σ.length := by
   rcases Nat.lt_or_ge i σ.length with h | h
   ·exact h
   ·rw [List.getElem?_append_right h] at e2
    rw [List.getElem?_replicate] at e2;split at e2 <;> cases e2
  rw [List.getElem?_append_left hi] at e2;have hmem : ∃ k, (x, k) ∈ scope.names := by
   have : ∃ k, (relabel scope X.env).names.lookup x = some k := by
    rcases e3 with h | h | h <;> exact ⟨_, h⟩
   obtain ⟨k, h⟩ := this;rcases relabel_mem h with h | ⟨h, _⟩ <;> exact ⟨_, h⟩
  have hfree := T.hid i x oM e1 hmem;have eX := T.same i x oM e1 hfree;have kX := T.free x hfree;obtain ⟨m, hn, hl⟩ := I.loc;obtain ⟨u, ru, lk⟩ := hl i x v eX e2 (by rcases kX with h | h; exact .inr (.inl h); exact .inr (.inr h));refine ⟨u, ru, .inr ⟨?_, ?_⟩⟩
  ·-- its kind in the block
   have : ∃ k, (relabel scope X.env).names.lookup x = some k := by
    rcases e3 with h | h | h <;> exact ⟨_, h⟩
   obtain ⟨k, h⟩ := this;rcases relabel_mem h with h' | ⟨h', e⟩
   ·have e5 := lookup_mem T.nd h'
    have e6 := lookup_mem T.nd hfree;rw [e5] at e6;cases e6;exact .inr h
   ·subst e; exact .inl h
  ·rcases lk with ⟨k1, _⟩ | ⟨_, c, hc, z⟩
   ·rcases kX with h | h <;> rw [h] at k1 <;> cases k1
   ·refine ⟨c, ?_, z.keeps keep⟩
    show (cellsFrom (s.heap.objs.size + 1) scope.names cl).lookup x = some c;rw [eo, lookup_append fun p hp e => ?_]
    ·obtain ⟨c', hc'⟩ := hfr x hfree
     obtain ⟨c2, hc2⟩ := lookup_ex hc'
     have := hcl _ (mem_of_lookup hc2)
     rw [hc] at this;cases this;exact hc2
    ·have e5 := lookup_mem T.nd (o1 p hp).2
     rw [e] at e5;have e6 := lookup_mem T.nd hfree;rw [e5] at e6;cases e6
 ·have h : (own ++ cl).lookup x = some c := eo ▸ h
  rcases cases_ x c h with ⟨l1, m1⟩ | e1
  ·exact ⟨none, (okc.empty x c (eown ▸ m1)).1⟩
  ·obtain ⟨v, z⟩ := I.cell x c e1
   exact ⟨v, z.keeps keep⟩
 ·have h : (own ++ cl).lookup x = some c := eo ▸ h
  rcases cases_ x c h with ⟨l1, m1⟩ | e1
  ·exact I.hok.fresh (Nat.le_of_succ_le l1)
  ·exact I.freeC x c e1
 ·rw [List.append_nil] at hp
  obtain ⟨e, n, ne, nf, d⟩ := I.pin p hp;refine ⟨keep _ _ e, n, Nat.ne_of_lt (Heap.lt_size e), fun z => ?_, d⟩;rcases List.mem_cons.mp (I.stkSub p.1 z) with z | z
  ·exact ne z
  ·exact nf z
 ·show (σ ++ List.replicate (N'.length - X.N.length) none).length = N'.length
  rw [List.length_append, List.length_replicate, I.len]
  have := T.len
  omega
theorem cy_end {σ1 : St} {H1 : Hp} {s1 : Shared} {h' : Heap} {pins1 : List (Addr × Obj)} (I : Inv X pins σ H s) (hf : ∀ b ∈ fp, FpOk X pins H b) (I1 : Inv (cyOf X N' scope cl s H fp pins) pins1 σ1 H1 s1) (hs : Heap.SameBut s.heap.objs.size s1.heap h') :
  Inv X pins σ H1 { s1 with heap := h' } := by
 have hC : ∀ b o, s.heap.get? b = some o -> b ≠ s.heap.objs.size := fun b o e => Nat.ne_of_lt (Heap.lt_size e)
 have u := I1.base;have u2 : Un (frs X.stack) fp H H1 s.heap h' := by
  refine ⟨fun b o e n hb hx => ?_, fun b o e n hb hx => ?_, u.free, fun b o e hx => ?_, u.tups, u.frzs, u.tbls⟩
  ·rw [hs.2 b (hC b o e)]; exact u.keep b o e n hb hx
  ·obtain ⟨sl, q⟩ := u.slot b o e n hb hx
   exact ⟨sl, by rw [hs.2 b (hC b o e)]; exact q⟩
  ·obtain ⟨o', q⟩ := u.there b o e hx
   exact ⟨o', by rw [hs.2 b (hC b o e)]; exact q⟩
 have hCf : H1 s.heap.objs.size = none := I1.free;refine I.call' (s' := { s1 with heap := h' }) I1.os u2 (fun b o e => ?_) I1.bare fun b hb => ⟨(hf b hb).2.2.2.1, (hf b hb).2.1, (hf b hb).2.2.2.2.1, (hf b hb).2.2.2.2.2⟩
 refine (I1.hok b o e).stay (fun c v hc q => (hs.2 c ?_).trans q) (fun _ q => q) fun _ _ q => q
 rintro rfl;rcases hc with z | z
 ·rw [<- z, hCf] at e; cases e
 ·rw [hCf] at z; cases z
noncomputable def PIf (X : Cx) (ifs : List Expr) (t : TT) : Prop :=
 ∀ (pins : List (Addr × Obj)) (s : Shared) (σ : St) (H : Hp) (Q : Bool -> Hp -> Prop), Inv X pins σ H s -> t σ H Q ->
  wpAny (model X.prog X.w) X.A (forIn ifs true fun c r => if r = true then do let ok <- isTrue c X.env (eval c X.env); pure (ForInStep.yield ok) else pure (ForInStep.yield r)) (TP X pins σ Q) X.xe s
theorem pif_nil : PIf X [] (fun _ H Q => Q true H) := fun pins s σ H Q I h => wpAny_tests_nil ⟨H, I, h⟩
theorem pif_one {c : Expr} {t : TT} (h : PT X c t) : PIf X [c] t := fun pins s σ H Q I h' => wpAny_tests_one (h pins s σ H Q I h')
noncomputable def tLc (k : Nat) (wi : TI) (g : TG) (tt : TT) (te : TE) : TE := fun σ H Q => wi σ H fun J H1 => ∀ p, H1 p = none ->
 ∃ W : Nat -> Nat -> St -> Hp -> Prop, (∃ m, W 0 m (σ ++ List.replicate k none) (upd H1 p (.lst []))) /\ ∀ i m σ' H', W i m σ' H' ->
  (J.stop i H' /\ Q (.ref p) H') \/ (J.go i H' /\ ∀ x H2, J.yld i H' x H2 -> g x σ' H2 fun σ2 H3 => tt σ2 H3 fun ok H4 => if ok = true then
   te σ2 H4 fun y H5 => ∃ ys, H5 p = some (.lst ys) /\ ys.length < sizeLine /\ ∃ m', m' < m /\ W (i + 1) m' σ2 (upd H5 p (.lst (ys ++ [y])))
   else ∃ m', m' < m /\ W (i + 1) m' σ2 H4)
theorem compLoop_any {prog : Program} {w : World} {A : Around} {R : Result -> Shared -> Prop} {s : Shared} {elt target iter : Expr} {ifs : List Expr} {scope : Scope} {pos : Pos} {it acc : Value} {env : Env} (I : Nat -> Shared -> Prop)
  (turn : ∀ n s, I n s -> wpAny (model prog w) A (pyNext it) (fun r s₁ => match r with
   | none => R (.ok .next) s₁
   | some v => wpAny (model prog w) A (letOwnedTupleGo target it v) (fun _ s₁' => wpAny (model prog w) A (assign target env v) (fun _ s₂ =>
     wpAny (model prog w) A (forIn ifs true fun c r => if r = true then do let ok <- isTrue c env (eval c env); pure (ForInStep.yield ok) else pure (ForInStep.yield r)) (fun ok s₃ =>
      if ok = true then wpAny (model prog w) A (eval elt env) (fun x s₄ =>
       wpAny (model prog w) A (call (.builtin "list.append") [acc, x]) (fun _ s₅ => ∃ m, m < n /\ I m s₅) (fun _ _ => False) s₄) (fun _ _ => False) s₃
      else ∃ m, m < n /\ I m s₃) (fun _ _ => False) s₂) (fun _ _ => False) s₁') (fun _ _ => False) s₁) (fun _ _ => False) s)
  (n : Nat) (h : I n s) : codeAny (model prog w) A (.compLoop (.ListComp elt [⟨target, iter, ifs, 0⟩] scope pos) 0 it acc env) R s := by
 refine codeAny_loop rfl I (fun n s hI => ?_) n h;show wpAny _ A ((compTurn (.ListComp elt [⟨target, iter, ifs, 0⟩] scope pos) 0 it acc env).onRaise (fun x => do noteFrame x env; theTreesLotGoes x)) _ _ s;refine wpAny_noted ?_;rw [compTurn_list];refine wpAny_bind (wpAny_standAt (wpAny_bind (wpAny_mono (turn n s hI) (fun r s₁ h₁ => ?_) fun _ _ h' => h'.elim)));cases r with
 | none => exact wpAny_pure h₁
 | some v =>
  refine wpAny_bind (wpAny_mono h₁ (fun _ s₁' h₁' => ?_) fun _ _ h' => h'.elim);refine wpAny_bind (wpAny_mono h₁' (fun _ s₂ h₂ => wpAny_bind (wpAny_mono h₂ (fun ok s₃ h₃ => ?_) fun _ _ h' => h'.elim)) fun _ _ h' => h'.elim);cases ok with
  | false => exact wpAny_pure ⟨rfl, h₃⟩
  | true =>
   exact wpAny_bind (wpAny_bind (wpAny_mono h₃ (fun x s₄ h₄ => wpAny_bind (wpAny_mono h₄ (fun _ s₅ h₅ => wpAny_pure (wpAny_pure ⟨rfl, h₅⟩)) fun _ _ h' => h'.elim)) fun _ _ h' => h'.elim))
theorem lc_block {elt iter tg : Expr} {ifs : List Expr} {pos : Pos} {g : TG} {tt : TT} {te : TE} {J : It} {it : Addr} {tn : Nat -> Heap -> Prop} {Q : VK} {E : Value -> Shared -> Prop} {RR : Value -> Addr -> Result -> Shared -> Prop}
  (hc : X.calm = true) (T : CyOk X N' scope) (hcl : ∀ p ∈ cl, X.env.cells.lookup p.1 = some p.2) (hfr : ∀ x, (x, NameKind.free) ∈ scope.names -> ∃ c, (x, c) ∈ cl)
  (hg : ∀ cl s H fp pins, PG (cyOf X N' scope cl s H fp pins) tg g) (ht : ∀ cl s H fp pins, PIf (cyOf X N' scope cl s H fp pins) ifs tt) (he : ∀ cl s H fp pins, PE (cyOf X N' scope cl s H fp pins) elt te)
  (I : Inv X pins σ H s) (Tn : Turn X.prog X.w X.K tg J fp it tn) (st0 : tn 0 s.heap) (hf : ∀ b ∈ fp, FpOk X pins H b)
  (h : ∀ p, H p = none -> ∃ W : Nat -> Nat -> St -> Hp -> Prop, (∃ m, W 0 m (σ ++ List.replicate (N'.length - X.N.length) none) (upd H p (.lst []))) /\ ∀ i m σ' H', W i m σ' H' ->
   (J.stop i H' /\ Q (.ref p) H') \/ (J.go i H' /\ ∀ x H2, J.yld i H' x H2 -> g x σ' H2 fun σ2 H3 => tt σ2 H3 fun ok H4 => if ok = true then
    te σ2 H4 fun y H5 => ∃ ys, H5 p = some (.lst ys) /\ ys.length < sizeLine /\ ∃ m', m' < m /\ W (i + 1) m' σ2 (upd H5 p (.lst (ys ++ [y])))
    else ∃ m', m' < m /\ W (i + 1) m' σ2 H4))
  (hRR : ∀ p C s1 H1, Inv X pins σ H1 s1 -> Q (.ref p) H1 -> (∃ m, s1.heap.Ns C m) -> H1 C = none -> s.heap.objs.size <= C -> RR (.ref p) C (.ok .next) s1) :
  wpAny (model X.prog X.w) X.A (newList []) (fun acc s₃ => wpAny (model X.prog X.w) X.A (newFunctionEnv scope X.env.globals cl [] X.env.qual none .none (some X.env)) (fun cenv s₄ =>
   codeAny (model X.prog X.w) X.A (.compStart (.ListComp elt [⟨tg, iter, ifs, 0⟩] scope pos) 0 (.ref it) acc { cenv with scope := relabel scope X.env }) (RR acc cenv.locals) s₄) E s₃) E s := by
 refine wpAny_newObj_type (nfe_comp ?_);have hp : H s.heap.objs.size = none := I.fresh;obtain ⟨W, ⟨m0, w0⟩, turn⟩ := h _ hp;have I2 : Inv X pins σ (upd H s.heap.objs.size (.lst [])) { s with heap := s.heap.push { cls := .type "list", data := .seq ([] : List Value).toArray } } := Inv.lnew (t' := s.toks) (its := []) (ys := []) I .nil (Nat.zero_le _);have hf2 : ∀ b ∈ fp, FpOk X pins (upd H s.heap.objs.size (.lst [])) b := fun b hb => by
  obtain ⟨o, e, _⟩ := Tn.obj _ _ st0 b hb;exact ⟨by rw [upd_ne (Nat.ne_of_lt (Heap.lt_size e))]; exact (hf b hb).1, (hf b hb).2⟩
 have ho2 : ∀ b ∈ fp, ∃ o, (s.heap.push { cls := .type "list", data := .seq ([] : List Value).toArray } : Heap).get? b = some o := fun b hb => by
  obtain ⟨o, e, _⟩ := Tn.obj _ _ st0 b hb;exact ⟨o, Heap.get?_push_of_some _ e⟩
 have I3 := cy_start T I2 hcl hfr hf2 ho2;have st3 : tn 0 (pushCells ((s.heap.push { cls := .type "list", data := .seq ([] : List Value).toArray }).push { cls := .type "dict", data := .dict #[] }) scope.names) :=
  Tn.keep _ _ _ st0 fun b hb o e => pushCells_keeps _ _ b o (Heap.get?_push_of_some _ (Heap.get?_push_of_some _ e))
 generalize hs2 : ({ s with heap := s.heap.push { cls := .type "list", data := .seq ([] : List Value).toArray } } : Shared) = s2 at I2 I3;have hC : s.heap.objs.size <= s2.heap.objs.size := by rw [<- hs2]; exact Nat.le_of_lt (by show _ < (s.heap.push _).objs.size; rw [Heap.size_push]; exact Nat.lt_succ_self _)
 have stat : ∀ {H' : Hp}, (∀ b ∈ fp, H' b = none) -> ∀ b ∈ fp, FpOk (cyOf X N' scope cl s2 (upd H s.heap.objs.size (.lst [])) fp pins) [] H' b := fun {H'} hn b hb => by
  refine ⟨hn b hb, (I3.ok.exf b hb).1, I3.ok.exfs b hb, .inl hb, (I3.ok.exf b hb).2, fun p hp => ?_⟩;rw [List.append_nil] at hp;exact (hf b hb).2.2.2.2.2 p hp
 have loop : ∀ s4, s4 = ({ s2 with heap := pushCells (s2.heap.push { cls := .type "dict", data := .dict #[] }) scope.names } : Shared) ->
   codeAny (model X.prog X.w) X.A (.compLoop (.ListComp elt [⟨tg, iter, ifs, 0⟩] scope pos) 0 (.ref it) (.ref s.heap.objs.size) (cyOf X N' scope cl s2 (upd H s.heap.objs.size (.lst [])) fp pins).env) (RR (.ref s.heap.objs.size) s2.heap.objs.size) s4 := by
  rintro s4 rfl;refine compLoop_any (fun n s' => ∃ i σ' H', Inv (cyOf X N' scope cl s2 (upd H s.heap.objs.size (.lst [])) fp pins) [] σ' H' s' /\ tn i s'.heap /\ (∀ b ∈ fp, H' b = none) /\ W i n σ' H') ?_ m0
   ⟨0, _, _, I3, by subst hs2; exact st3, fun b hb => (hf2 b hb).1, w0⟩
  rintro n s3 ⟨i, σ3, H3, I4, st4, fr4, w4⟩;rcases turn i n σ3 H3 w4 with ⟨stop, qn⟩ | ⟨go, step⟩
  ·refine thn (Tn.done (cyOf X N' scope cl s2 (upd H s.heap.objs.size (.lst [])) fp pins) rfl rfl rfl hc i [] s3 σ3 H3 (fun _ _ => False) I4 (stat fr4) st4 stop) fun r s5 ⟨hr, I5⟩ => ?_
   subst hr;obtain ⟨m, hn, _⟩ := I5.loc;exact hRR _ _ s5 H3 (cy_end I2 hf2 I5 (Heap.SameBut.refl _ _)) qn ⟨m, hn⟩ I5.free hC
  ·refine thn (Tn.item (cyOf X N' scope cl s2 (upd H s.heap.objs.size (.lst [])) fp pins) rfl rfl rfl hc i [] s3 σ3 H3 (fun _ _ => False) I4 (stat fr4) st4 go) fun r s5 ⟨u, hr, h5⟩ => ?_
   subst hr;refine thn h5 fun _ s6 ⟨x, H6, I6, r6, y6, st6, fr6⟩ => ?_
   have I6' := I6.pinned (stat fr6) (Tn.obj _ _ st6);have again : ∀ {σ7 : St} {H7 : Hp} {s7 : Shared} {m' : Nat}, Inv (cyOf X N' scope cl s2 (upd H s.heap.objs.size (.lst [])) fp pins) ([] ++ pinsAt fp s6.heap) σ7 H7 s7 -> m' < n -> W (i + 1) m' σ7 H7 ->
     ∃ m, m < n /\ ∃ i σ' H', Inv (cyOf X N' scope cl s2 (upd H s.heap.objs.size (.lst [])) fp pins) [] σ' H' s7 /\ tn i s7.heap /\ (∀ b ∈ fp, H' b = none) /\ W i m σ' H' := fun {σ7 H7 s7 m'} I7 hm w7 => by
    refine ⟨m', hm, i + 1, σ7, H7, I7.unpinned, Tn.keep _ _ _ st6 fun b hb o e => (I7.pin (b, o) (List.mem_append_right _ (List.mem_append_right _ (mem_pinsAt hb e)))).1, fun b hb => ?_, w7⟩;obtain ⟨o, e, d⟩ := Tn.obj _ _ st6 b hb;exact (I7.pin (b, o) (List.mem_append_right _ (List.mem_append_right _ (mem_pinsAt hb e)))).2.1
   refine thn (hg _ _ _ _ _ _ s6 σ3 H6 x u _ I6' r6 (step x H6 y6)) fun _ s7 ⟨σ7, H7, I7, q7⟩ => ?_
   refine thn (ht _ _ _ _ _ _ s7 σ7 H7 _ I7 q7) fun ok s8 ⟨H8, I8, q8⟩ => ?_
   cases ok with
   | false =>
    simp only [Bool.false_eq_true, if_false] at q8 ⊢;obtain ⟨m', hm, w8⟩ := q8;exact again I8 hm w8
   | true =>
    simp only [if_true] at q8 ⊢;refine thn (he _ _ _ _ _ _ s8 σ7 H8 _ I8 q8) fun y s9 ⟨yv, H9, I9, r9, ys, e9, l9, m', hm, w9⟩ => ?_
    refine thn (mt_append _ s9 σ7 H9 (.ref s.heap.objs.size) [yv] (.ref s.heap.objs.size) [y] (fun _ H' => H' = upd H9 s.heap.objs.size (.lst (ys ++ [yv]))) I9 rfl (.cons r9 .nil) ⟨_, ys, yv, rfl, rfl, e9, l9, rfl⟩) fun _ s10 ⟨_, H10, I10, _, e10⟩ => ?_
    subst e10;exact again I10 hm w9
 have st5 : tn 0 (pushCells (s2.heap.push { cls := .type "dict", data := .dict #[] }) scope.names) := by subst hs2; exact st3
 have fin := codeAny_compStart_list (loop _ rfl) (Tn.self X.A 0 _ _ (notedBy (model X.prog X.w) X.A (cyOf X N' scope cl s2 (upd H s.heap.objs.size (.lst [])) fp pins).env fun x s' => RR (.ref s.heap.objs.size) s2.heap.objs.size (.error x) s') st5 (loop _ rfl));subst hs2;exact fin
end
section
variable {X : Cx} {N' : List Str} {scope : Scope} {pins : List (Addr × Obj)} {σ : St} {elt iter tg : Expr} {ifs : List Expr} {pos : Pos} {wi : TI} {g : TG} {tt : TT} {te : TE}
theorem lc_names (T : CyOk X N' scope) : ∀ x ∈ scope.names, x.2 = .local -> scope.names.lookup x.1 = some .local := fun x hx e => by
 obtain ⟨n, k⟩ := x;cases e;exact lookup_mem T.nd hx
theorem pe_lc (hc : X.calm = true) (T : CyOk X N' scope) (hi : PI X tg iter wi) (hg : ∀ cl s H fp pins, PG (cyOf X N' scope cl s H fp pins) tg g) (ht : ∀ cl s H fp pins, PIf (cyOf X N' scope cl s H fp pins) ifs tt)
  (he : ∀ cl s H fp pins, PE (cyOf X N' scope cl s H fp pins) elt te) (hs : autoParam (∀ x, foldedSetIterable iter X.env x = pure x) Ax3._auto_1) :
  PE X (.ListComp elt [⟨tg, iter, ifs, 0⟩] scope pos) (tLc (N'.length - X.N.length) wi g tt te) := by
 intro pins s σ H Q I h;obtain ⟨cl, hclos, hcl, hfr⟩ := closure_ok (scope := scope) (env := X.env) fun x hx => I.ok.has x (T.free x hx)
 rw [eval_ListComp];refine wpAny_comprehension_free (use := none) rfl hs hclos T.kind (lc_names T) (wpAny_mono (hi pins s σ H _ I h) (fun xv s1 h1 => wpAny_mono h1 (fun itv s2 h2 => ?_) fun _ _ e => e) fun _ _ e => e);obtain ⟨it, fp, tn, J, H2, rfl, I2, Tn, st2, f2, R⟩ := h2;refine lc_block (Q := Q) (RR := fun acc C => compPost (model X.prog X.w) X.A X.xe none (EP X pins σ Q) acc C) hc T hcl hfr hg ht he I2 Tn st2 f2 R ?_;rintro p C s3 H3 I3 q ⟨m, hn⟩ hC hle;refine ⟨m, hn, fun h' hs' => ⟨.ref p, H3, ?_, rfl, q⟩⟩;refine I3.turned (t' := s3.toks) (it := C) (fun b o hb e => (hs'.2 b hb).trans e) hC ?_ (.inr (Nat.le_trans I2.sz hle)) (fun x c e => ?_) fun p hp => ?_
 ·exact Ne.symm (Nat.ne_of_lt (Nat.lt_of_lt_of_le I2.lt hle))
 ·obtain ⟨v, z⟩ := I2.cell x c e
  exact Nat.ne_of_lt (Nat.lt_of_lt_of_le z.lt hle)
 ·exact Nat.ne_of_lt (Nat.lt_of_lt_of_le (Heap.lt_size (I2.pin p hp).1) hle)
theorem ps_set_lc {i : Nat} {y : Str} {py spos : Pos} (hN : X.N.Nodup) (hiN : X.N[i]? = some y) (hx : Loc X.env.scope y) (hsw : swapsWith (.ListComp elt [⟨tg, iter, ifs, 0⟩] scope pos) (some (.Name y py)) spos.line X.env = pure true)
  (hc : X.calm = true) (T : CyOk X N' scope) (hi : PI X tg iter wi) (hg : ∀ cl s H fp pins, PG (cyOf X N' scope cl s H fp pins) tg g) (ht : ∀ cl s H fp pins, PIf (cyOf X N' scope cl s H fp pins) ifs tt)
  (he : ∀ cl s H fp pins, PE (cyOf X N' scope cl s H fp pins) elt te) (hs : autoParam (∀ x, foldedSetIterable iter X.env x = pure x) Ax3._auto_1) (hf : autoParam (X.fn y = true \/ X.env.scope.names.lookup y = some .local) Ax0._auto_1) :
  PS X (.Assign [.Name y py] (.ListComp elt [⟨tg, iter, ifs, 0⟩] scope pos) spos) (tAsg (tLc (N'.length - X.N.length) wi g tt te) (gName i)) := by
 intro pins s σ H D I h;obtain ⟨cl, hclos, hcl, hfr⟩ := closure_ok (scope := scope) (env := X.env) fun x hx => I.ok.has x (T.free x hx)
 rw [exec_Assign_Name_used _ _ _ _ hsw];refine wpAny_bind (wpAny_standAt (wpAny_bind ?_));show wpAny _ X.A (do let _ <- comprehension (.ListComp elt [⟨tg, iter, ifs, 0⟩] scope pos) scope X.env _ (newList []) false (eval iter X.env) (some (assign (.Name y py) X.env))) _ _ s;refine wpAny_bind (wpAny_mono (wpAny_comprehension_free (use := some (assign (.Name y py) X.env)) (Q := fun _ s' => SP X pins D .next s') rfl hs hclos T.kind (lc_names T)
  (wpAny_mono (hi pins s σ H _ I h) (fun xv s1 h1 => wpAny_mono h1 (fun itv s2 h2 => ?_) fun _ _ e => e) fun _ _ e => e)) (fun _ s' hq => wpAny_pure (wpAny_pure hq)) fun _ _ e => e)
 obtain ⟨it, fp, tn, J, H2, rfl, I2, Tn, st2, f2, R⟩ := h2;refine lc_block (Q := fun x H1 => gName i x σ H1 D.nx) (RR := fun acc C => compPost (model X.prog X.w) X.A X.xe (some (assign (.Name y py) X.env)) (fun _ s' => SP X pins D .next s') acc C) hc T hcl hfr hg ht he I2 Tn st2 f2 R ?_;rintro p C s3 H3 I3 q ⟨m, hn⟩ hC hle;have hCL : C ≠ X.env.locals := Ne.symm (Nat.ne_of_lt (Nat.lt_of_lt_of_le I2.lt hle));have hCc : ∀ x c, X.env.cells.lookup x = some c -> c ≠ C := fun x c e => by
  obtain ⟨v, z⟩ := I2.cell x c e;exact Nat.ne_of_lt (Nat.lt_of_lt_of_le z.lt hle)
 show wpAny _ X.A (assign (.Name y py) X.env (.ref p)) _ _ _;refine wpAny_assign_Name (store_ok2 (v := .ref p) I3 hN hiN hx rfl (fun s4 I4 ⟨a, sb, ha⟩ => ?_) hf);have hne : C ≠ a := by
  rcases ha with e | e
  ·rw [e]; exact hCL
  ·exact (hCc _ _ e).symm
 refine ⟨m, hn.sameBut sb hne, fun h' hs' => ⟨_, H3, ?_, q⟩⟩;refine I4.turned (t' := s4.toks) (it := C) (fun b o hb e => (hs'.2 b hb).trans e) hC hCL (.inr (Nat.le_trans I2.sz hle)) hCc fun p hp => ?_
 exact Nat.ne_of_lt (Nat.lt_of_lt_of_le (Heap.lt_size (I2.pin p hp).1) hle)
theorem PI_imp {t t' : TI} (h : PI X tg iter t) (i : ∀ σ H R, t' σ H R -> t σ H R) : PI X tg iter t' := fun pins s σ H R I h' => h pins s σ H R I (i σ H R h')
end
end L2
namespace DD
open PySem PySem.Spec PyProof.Rows L2
structure ItD (K : PySem.W.Frag) (J : It) (xs : List D) (F : Addr -> Prop) (H : Hp) : Prop where
 item : ∀ i d F1 H1, Ext F H F1 H1 -> (∀ a, F1 a -> ∃ o, H1 a = some o) -> xs[i]? = some d -> J.go i H1 /\ ∀ x H2, J.yld i H1 x H2 -> ∃ F2, Grow F1 H1 F2 H2 /\ Ow K F2 H2 d x []
 done : ∀ F1 H1, Ext F H F1 H1 -> J.stop xs.length H1
noncomputable abbrev DI := DSt -> Option (List D × DSt)
noncomputable def rIt (K : PySem.W.Frag) (c : DI) : TI := fun σ H R => ∃ F Ro σD xs σD', Rel K F H σD σ Ro /\ c σD = some (xs, σD') /\ ∀ F' H' J, Ext F H F' H' -> Rel K F' H' σD' σ Ro -> ItD K J xs F' H' -> R J H'
noncomputable def QI (X : Cx) (tg iter : Expr) (c : DI) : Prop := PI X tg iter (rIt X.K c)
noncomputable def iLst (c : DE) : DI := fun σ => (c σ).bind fun p => match p.1 with | .lst _ xs => some (D.fzL xs, p.2) | _ => none
noncomputable def iR1 (c : DA) : DI := fun σ => (c σ).bind fun p => match p.1 with | [.int j] => if rOk j = true then some (rngD 0 j, p.2) else none | _ => none
noncomputable def iR2 (c : DA) : DI := fun σ => (c σ).bind fun p => match p.1 with | [.int i, .int j] => if (rOk i && rOk j) = true then some (rngD i j, p.2) else none | _ => none
section
variable {X : Cx} {tg e a b : Expr} {c : DE} {ca : DA} {p1 pos1 : Pos}
theorem itd_range {K : PySem.W.Frag} {F : Addr -> Prop} {H : Hp} {lo hi : Int} : ItD K (Itr lo (hi - lo).toNat) (rngD lo hi) F H where
 item := fun i d F1 H1 _ _ e => by
  have hl : (rngD lo hi).length = (hi - lo).toNat := by simp [rngD]
  have hi' : i < (hi - lo).toNat := by rw [<- hl]; exact (List.getElem?_eq_some_iff.mp e).1
  have ed : d = .int (lo + i) := by
   unfold rngD at e;rw [List.getElem?_map, List.getElem?_range hi'] at e;exact (Option.some.inj e).symm
  subst ed;exact ⟨hi', fun x H2 hq0 => by obtain ⟨e1, e2⟩ := hq0; subst e1; subst e2; exact ⟨F1, Grow.refl, Ow.of_sc rfl⟩⟩
 done := fun F1 H1 _ => by show (hi - lo).toNat <= (rngD lo hi).length; simp [rngD]
theorem ln1 {α β : Type} {a : α} {vs : List β} (h : [a].length = vs.length) : ∃ v, vs = [v] := by
 cases vs with
 | nil => cases h
 | cons v vs => cases vs with
  | nil => exact ⟨v, rfl⟩
  | cons _ _ => simp at h
theorem ln2 {α β : Type} {a b : α} {vs : List β} (h : [a, b].length = vs.length) : ∃ v u, vs = [v, u] := by
 cases vs with
 | nil => cases h
 | cons v vs =>
  obtain ⟨u, rfl⟩ := ln1 (a := a) (vs := vs) (Nat.succ.inj h);exact ⟨v, u, rfl⟩
theorem qi_r1 (hgl : Gl X "range") (hm : X.mg "range" = none) (ha : QA X [a] ca) (hs : autoParam (starEach [a] X.env = [(false, eval a X.env)]) Ax4._auto_1) : QI X tg (.Call (.Name "range" p1) [a] [] pos1) (iR1 ca) :=
 PI_imp (pi_range1 hgl hm ha hs) fun σ H R hq0 => by
  obtain ⟨F, Ro, σD, xs, σD', r, ec, k⟩ := hq0;unfold iR1 at ec;rcases h : ca σD with _ | ⟨ys, σ1⟩
  ·rw [h] at ec; cases ec
  ·rw [h] at ec; simp only [bind_some] at ec
   refine ⟨F, Ro, σD, ys, σ1, r, h, fun F1 H1 vs x1 hl r1 => ?_⟩;split at ec
   ·rename_i j
    split at ec
    ·rename_i hj
     cases ec;obtain ⟨v, rfl⟩ := ln1 hl;have hv : v = .int j := (r1.bor (d := .int j) (v := v) (by simp)).int;subst hv;unfold rOk at hj;simp only [decide_eq_true_eq] at hj;have q : ItD X.K (Itr 0 (j - 0).toNat) (rngD 0 j) F1 H1 := itd_range;rw [Int.sub_zero] at q;exact ⟨j, rfl, hj.1, hj.2, k F1 H1 _ x1 (r1.popN (S := [(D.int j, V.int j)])) q⟩
    ·cases ec
   ·cases ec
theorem qi_r2 (hgl : Gl X "range") (hm : X.mg "range" = none) (ha : QA X [a, b] ca) (hs : autoParam (starEach [a, b] X.env = [(false, eval a X.env), (false, eval b X.env)]) Ax4._auto_1) (hs2 : autoParam (starEach [b] X.env = [(false, eval b X.env)]) Ax4._auto_1) : QI X tg (.Call (.Name "range" p1) [a, b] [] pos1) (iR2 ca) :=
 PI_imp (pi_range2 hgl hm ha hs hs2) fun σ H R hq0 => by
  obtain ⟨F, Ro, σD, xs, σD', r, ec, k⟩ := hq0;unfold iR2 at ec;rcases h : ca σD with _ | ⟨ys, σ1⟩
  ·rw [h] at ec; cases ec
  ·rw [h] at ec; simp only [bind_some] at ec
   refine ⟨F, Ro, σD, ys, σ1, r, h, fun F1 H1 vs x1 hl r1 => ?_⟩;split at ec
   ·rename_i i j
    split at ec
    ·rename_i hj
     cases ec;obtain ⟨v, u, rfl⟩ := ln2 hl;have hv : v = .int i := (r1.bor (d := .int i) (v := v) (by simp)).int;have hu : u = .int j := (r1.bor (d := .int j) (v := u) (by simp)).int;subst hv; subst hu;unfold rOk at hj;simp only [Bool.and_eq_true, decide_eq_true_eq] at hj;exact ⟨i, j, rfl, ⟨hj.1.1, hj.1.2, hj.2.1, hj.2.2⟩, k F1 H1 _ x1 (r1.popN (S := [(D.int i, V.int i), (D.int j, V.int j)])) itd_range⟩
    ·cases ec
   ·cases ec
theorem itd_list {K : PySem.W.Frag} {F : Addr -> Prop} {H : Hp} {xs : List D} {a : Addr} {vs : List V} (fl : FL K F H a vs) (ol : OwL K F H xs vs []) : ItD K (Itl K a) xs F H where
 item := fun i d F1 H1 x1 _ e => by
  obtain ⟨w, La, Lx, Lb, e1, eL, o, _⟩ := ol.kid e;have eLx : Lx = [] := (List.append_eq_nil_iff.mp (List.append_eq_nil_iff.mp eL.symm).1).2;subst eLx;refine ⟨⟨vs, w, (fl.ext x1).sq, e1⟩, fun x H2 ⟨e2, hx⟩ => ?_⟩;subst e2
  have := hx vs (fl.ext x1).sq
  rw [e1] at this;cases this;exact ⟨F1, Grow.refl, o.mono x1 (fun a ha => by cases ha)⟩
 done := fun F1 H1 x1 => ⟨vs, (fl.ext x1).sq, by rw [ol.length]; exact Nat.le_refl _⟩
theorem qi_lst (he : QE X e c) : QI X tg e (iLst c) := PI_imp (pi_list he) fun σ H R hq0 => by
 obtain ⟨F, Ro, σD, xs, σD', r, ec, k⟩ := hq0;unfold iLst at ec;rcases h : c σD with _ | ⟨d, σ1⟩
 ·rw [h] at ec; cases ec
 ·rw [h] at ec; simp only [bind_some] at ec
  refine ⟨F, Ro, σD, d, σ1, r, h, fun F1 H1 v x1 r1 => ?_⟩;split at ec
  ·cases ec
   obtain ⟨F2, x2, r2, o2⟩ := r1.freeze;simp only [D.fz, Ow] at o2;obtain ⟨a, vs, rfl, fl, ol, _⟩ := o2;exact ⟨a, rfl, ⟨vs, fl.sq⟩, k F2 H1 _ (x1.trans x2) r2.pop (itd_list fl ol)⟩
  ·cases ec
end
noncomputable def sForI (c : DI) (g : DG) (b : DS) : DS := fun σ => (c σ).bind fun p => dLoop g b p.1 p.2
section
variable {X : Cx} {e tg : Expr} {g : DG} {s : DS} {pos : Pos} {W W' : List Nat} {body : List Stmt}
theorem it_loop {F : Addr -> Prop} {H : Hp} {R : Ro} {σD : DSt} {σ : St} {xs : List D} {J : It} {En : Ends} {o : Out} (r : Rel X.K F H σD σ R) (j : ItD X.K J xs F H) (h : dLoop g s xs σD = some o)
  (k : ∀ F' H' σ', Ext F H F' H' -> Kp (W ++ W') σ σ' -> Th X.K En R F' H' σ' o) :
  ∃ W1 : Nat -> Nat -> St -> Hp -> Prop, (∃ m, W1 0 m σ H) /\ ∀ i m σ H, W1 i m σ H ->
   (J.stop i H /\ En.nx σ H) \/ (J.go i H /\ ∃ N : St -> Hp -> Prop, (∀ σ' H', N σ' H' -> ∃ m', m' < m /\ W1 (i + 1) m' σ' H') /\ ∀ x H', J.yld i H x H' -> rG X.K g W x σ H' fun σ2 H2 => rS X.K s W' { En with nx := N, ct := N, bk := En.nx } σ2 H2) := by
 refine ⟨fun i m σ1 H1 => m = xs.length - i /\ i <= xs.length /\ ∃ F1 σD1, Ext F H F1 H1 /\ Kp (W ++ W') σ σ1 /\ Rel X.K F1 H1 σD1 σ1 R /\ dLoop g s (xs.drop i) σD1 = some o, ⟨_, rfl, Nat.zero_le _, F, σD, Ext.refl, Kp.refl, r, by simpa using h⟩, ?_⟩;rintro i m σ1 H1 ⟨rfl, hle, F1, σD1, x1, kp1, r1, h1⟩;rcases Nat.lt_or_ge i xs.length with hi | hi
 ·right
  obtain ⟨go, yl⟩ := j.item i _ F1 H1 x1 r1.g.dom (List.getElem?_eq_getElem hi);refine ⟨go, fun σ' H' => ∃ F1 σD1, Ext F H F1 H' /\ Kp (W ++ W') σ σ' /\ Rel X.K F1 H' σD1 σ' R /\ dLoop g s (xs.drop (i + 1)) σD1 = some o, fun σ' H' q => ⟨xs.length - (i + 1), by omega, rfl, hi, q⟩, fun x H2 hy => ?_⟩;obtain ⟨F2, gr, ox⟩ := yl x H2 hy;rw [List.drop_eq_getElem_cons hi] at h1;exact turn_of (R := R) (R0 := R) (W := W) (W' := W') (fun _ _ _ _ _ _ h => h) ((r1.grow gr).push ox) (x1.trans gr.x) kp1 h1 k fun F3 H3 σD3 σ3 x3 kp3 r3 h3 => ⟨F3, σD3, (x1.trans gr.x).trans x3, kp3, r3, h3⟩
 ·left
  have ei : i = xs.length := Nat.le_antisymm hle hi;subst ei;rw [List.drop_length] at h1;simp only [dLoop] at h1;cases h1;exact ⟨j.done F1 H1 x1, k F1 H1 σ1 x1 kp1 r1⟩
theorem qs_forI {c : DI} (hc : X.calm = true) (hi : QI X tg e c) (hg : QG X tg g W) (hb : QSs X body s W') (hp : PassesOwn (model X.prog X.w) X.A X.env X.xe) (hf : autoParam (∀ x, foldedSetIterable e X.env x = pure x) Ax3._auto_1) : QS X (.For tg e body [] pos) (sForI c g s) (W ++ W') :=
 PS_imp (ps_for hp hc hi hg hb hf) fun En σ H hq0 => by
  obtain ⟨F, R, σD, o, r, ec, k⟩ := hq0;unfold sForI at ec;rcases h : c σD with _ | ⟨xs, σ1⟩
  ·rw [h] at ec; cases ec
  ·rw [h] at ec; simp only [bind_some] at ec
   refine ⟨F, R, σD, xs, σ1, r, h, fun F1 H1 J x1 r1 j => ?_⟩;exact it_loop (X := X) (W := W) (W' := W') (g := g) (s := s) (En := En) r1 j ec fun F2 H2 σ2 x2 kp => k F2 H2 σ2 (x1.trans x2) kp
end
noncomputable def lcGo (g : DG) (t : DT) (c : DE) : List D -> DSt -> Option (List D × DSt)
 | [], σ => some ([], σ)
 | x :: xs, σ => (g x σ).bind fun σ1 => (t σ1).bind fun p => if p.1 = true then (c p.2).bind fun q => (lcGo g t c xs q.2).map fun r => (q.1 :: r.1, r.2) else lcGo g t c xs p.2
noncomputable def dLc (k : Nat) (i : DI) (g : DG) (t : DT) (c : DE) : DE := fun σ => (i σ).bind fun p => if p.1.length <= sizeLine then (lcGo g t c p.1 (p.2 ++ List.replicate k none)).map fun r => (.lst true r.1, r.2.take p.2.length) else none
noncomputable def tTrue : DT := fun σ => some (true, σ)
noncomputable def QIf (X : Cx) (ifs : List Expr) (t : DT) : Prop := PIf X ifs (rT X.K t)
section
variable {X : Cx} {e tg elt iter : Expr} {ifs : List Expr} {g : DG} {t : DT} {c : DE} {i : DI} {pos : Pos} {W : List Nat} {N' : List Str} {scope : Scope}
theorem qif_nil : QIf X [] tTrue := by
 intro pins s σ H Q I hh;obtain ⟨F, R, σD, b, σD', r, ec, k⟩ := hh;exact pif_nil pins s σ H Q I (by cases ec; exact k F H Ext.refl r)
theorem qif_one (h : QT X e t) : QIf X [e] t := pif_one h
theorem Rel.ext0 {K : PySem.W.Frag} {F : Addr -> Prop} {H : Hp} {σD : DSt} {σ : St} {R : Ro} {k : Nat} (r : Rel K F H σD σ R) : Rel K F H (σD ++ List.replicate k none) (σ ++ List.replicate k none) R := by
 have hm : ∀ {σD : DSt} {σ : St}, Mt σD σ -> Mt (σD ++ List.replicate k none) (σ ++ List.replicate k none) /\ sl (σD ++ List.replicate k none) (σ ++ List.replicate k none) = sl σD σ := by
  intro σD
  induction σD with
  | nil => intro σ h; cases σ with | nil => exact ⟨mt_none, sl_none'⟩ | cons _ _ => cases h
  | cons o σD ih =>
   intro σ h;cases σ with
   | nil => cases o <;> cases h
   | cons v σ =>
    cases o with
    | none => exact ih (σ := σ) h
    | some d =>
     cases v with
     | none => cases h
     | some v =>
      have q := ih (σ := σ) h;exact ⟨q.1, congrArg ((d, v) :: ·) q.2⟩
 obtain ⟨h1, h2⟩ := hm r.mt;exact ⟨h1, by rw [h2]; exact r.g⟩
theorem Rel.cut {K : PySem.W.Frag} {F : Addr -> Prop} {H : Hp} {R : Ro} : ∀ {σD : DSt} {σ σ0 : St} {n : Nat}, σ0.length = n -> σ.take n = σ0 -> Rel K F H σD σ R -> Rel K F H (σD.take n) σ0 R := by
 intro σD σ σ0 n hn he r;subst he;have hm : ∀ {σD : DSt} {σ : St} (n : Nat), Mt σD σ -> Mt (σD.take n) (σ.take n) /\ ∃ S, (sl σD σ) = sl (σD.take n) (σ.take n) ++ S := by
  intro σD
  induction σD with
  | nil => intro σ n h; cases σ with | nil => simp [Mt, sl] | cons _ _ => cases h
  | cons o σD ih =>
   intro σ n h;cases σ with
   | nil => cases o <;> cases h
   | cons v σ =>
    cases n with
    | zero => exact ⟨trivial, _, rfl⟩
    | succ n =>
     cases o with
     | none => exact ih (σ := σ) n h
     | some d =>
      cases v with
      | none => cases h
      | some v =>
       obtain ⟨h1, S, h2⟩ := ih (σ := σ) n h;refine ⟨h1, S, ?_⟩;show (d, v) :: sl σD σ = (d, v) :: sl (σD.take n) (σ.take n) ++ S;rw [h2]; rfl
 obtain ⟨h1, S, h2⟩ := hm n r.mt;refine ⟨h1, ?_⟩;have g := r.g;rw [h2] at g;have g2 : G K F H (S ++ (sl (σD.take n) (σ.take n) ++ R)) := g.perm (by rw [List.append_assoc]; exact List.perm_append_comm_assoc _ _ _);exact g2.popN
theorem lc_go {F : Addr -> Prop} {H : Hp} {R : Ro} {σD σD' : DSt} {σ : St} {xs ys : List D} {J : It} {k : Nat} {Q : VK} (r : Rel X.K F H σD σ R) (j : ItD X.K J xs F H) (hz : xs.length <= sizeLine) (hw : ∀ i ∈ W, σ.length <= i)
  (h : lcGo g t c xs (σD ++ List.replicate k none) = some (ys, σD')) (kk : ∀ F' H' v, Ext F H F' H' -> Rel X.K F' H' (σD'.take σD.length) σ ((.lst true ys, v) :: R) -> Q v H') (p : Addr) (hp : H p = none) :
  ∃ W1 : Nat -> Nat -> St -> Hp -> Prop, (∃ m, W1 0 m (σ ++ List.replicate k none) (upd H p (.lst []))) /\ ∀ i m σ' H', W1 i m σ' H' ->
   (J.stop i H' /\ Q (.ref p) H') \/ (J.go i H' /\ ∀ x H2, J.yld i H' x H2 -> rG X.K g W x σ' H2 fun σ2 H3 => rT X.K t σ2 H3 fun ok H4 => if ok = true then
    rE X.K c σ2 H4 fun y H5 => ∃ ys, H5 p = some (.lst ys) /\ ys.length < sizeLine /\ ∃ m', m' < m /\ W1 (i + 1) m' σ2 (upd H5 p (.lst (ys ++ [y])))
    else ∃ m', m' < m /\ W1 (i + 1) m' σ2 H4) := by
 have hlen := r.mt.length;obtain ⟨r0, x0⟩ := (r.ext0 (k := k)).alloc (o := .lst []) hp;have r1 : Rel X.K F (upd H p (.lst [])) (σD ++ List.replicate k none) (σ ++ List.replicate k none) ((.lst true [], .ref p) :: R) := r0.formL (xs := []) (vs := []) rfl upd_same;refine ⟨fun i m σ1 H1 => m = xs.length - i /\ i <= xs.length /\ ∃ F1 σD1 ds zs, Ext F H F1 H1 /\ Kp W (σ ++ List.replicate k none) σ1 /\ Rel X.K F1 H1 σD1 σ1 ((.lst true ds, .ref p) :: R) /\ ds.length <= i /\ lcGo g t c (xs.drop i) σD1 = some (zs, σD') /\ ds ++ zs = ys,
  ⟨_, rfl, Nat.zero_le _, F, _, [], ys, x0, Kp.refl, r1, Nat.zero_le _, by simpa using h, rfl⟩, ?_⟩
 rintro i m σ1 H1 ⟨rfl, hle, F1, σD1, ds, zs, x1, kp1, r2, hds, h1, hys⟩;rcases Nat.lt_or_ge i xs.length with hi | hi
 ·right
  obtain ⟨go, yl⟩ := j.item i _ F1 H1 x1 r2.g.dom (List.getElem?_eq_getElem hi);refine ⟨go, fun x H2 hy => ?_⟩;obtain ⟨F2, gr, ox⟩ := yl x H2 hy;rw [List.drop_eq_getElem_cons hi] at h1;simp only [lcGo] at h1;rcases e1 : g xs[i] σD1 with _ | σ3
  ·rw [e1] at h1; cases h1
  ·rw [e1] at h1; simp only [bind_some] at h1
   refine ⟨F2, _, σD1, xs[i], σ3, (r2.grow gr).push ox, e1, fun F3 H3 σ4 x3 kp3 r3 => ?_⟩;rcases e2 : t σ3 with _ | ⟨ok, σ5⟩
   ·rw [e2] at h1; cases h1
   ·rw [e2] at h1; simp only [bind_some] at h1
    refine ⟨F3, _, σ3, ok, σ5, r3, e2, fun F4 H4 x4 r4 => ?_⟩;have xx := ((x1.trans gr.x).trans x3).trans x4;have kp5 := kp1.trans kp3;cases ok with
    | false =>
     simp only [Bool.false_eq_true, if_false] at h1 ⊢;exact ⟨xs.length - (i + 1), by omega, rfl, hi, F4, σ5, ds, zs, xx, kp5, r4, by omega, h1, hys⟩
    | true =>
     simp only [if_true] at h1 ⊢;rcases e3 : c σ5 with _ | ⟨d, σ6⟩
     ·rw [e3] at h1; cases h1
     ·rw [e3] at h1; simp only [bind_some] at h1
      obtain ⟨⟨ws, σ7⟩, e4, e5⟩ := map_pair h1;cases e5;refine ⟨F4, _, σ5, d, σ6, r4, e3, fun F5 H5 v x5 r5 => ?_⟩;obtain ⟨a, vs, ea, he, hl, r6⟩ := (r5.perm (.swap _ _ _)).openL;cases ea;refine ⟨vs, he, by omega, xs.length - (i + 1), by omega, rfl, hi, ?_⟩;have r7 : Rel X.K F5 H5 σ6 σ4 ((.cell, .ref p) :: ((ds ++ [d]).zip (vs ++ [v]) ++ R)) := by
       refine r6.perm (.cons _ ?_);rw [List.zip_append hl];simp
      obtain ⟨r8, x8⟩ := r7.write (o := .lst (vs ++ [v]));exact ⟨F5, σ6, ds ++ [d], ws, (xx.trans x5).trans x8, kp5, r8.formL (by simp [hl]) upd_same, by simp; omega, e4, by rw [<- hys]; simp⟩
 ·left
  have ei : i = xs.length := Nat.le_antisymm hle hi;subst ei;rw [List.drop_length] at h1;simp only [lcGo] at h1;cases h1;rw [List.append_nil] at hys;subst hys;refine ⟨j.done F1 H1 x1, kk F1 H1 _ x1 ?_⟩;rw [hlen];refine r2.cut rfl ?_;apply List.ext_getElem?;intro n;rcases Nat.lt_or_ge n σ.length with hn | hn
  ·rw [List.getElem?_take_of_lt hn, kp1 n (fun z => absurd (hw n z) oM), List.getElem?_append_left hn]
  ·rw [List.getElem?_eq_none (by simp; omega), List.getElem?_eq_none hn]
theorem qe_lc (hc : X.calm = true) (T : CyOk X N' scope) (hi : QI X tg iter i) (hg : ∀ cl s H fp pins, QG (cyOf X N' scope cl s H fp pins) tg g W) (ht : ∀ cl s H fp pins, QIf (cyOf X N' scope cl s H fp pins) ifs t)
  (he : ∀ cl s H fp pins, QE (cyOf X N' scope cl s H fp pins) elt c) (hw : ∀ i ∈ W, X.N.length <= i) (hs : autoParam (∀ x, foldedSetIterable iter X.env x = pure x) Ax3._auto_1) :
  QE X (.ListComp elt [⟨tg, iter, ifs, 0⟩] scope pos) (dLc (N'.length - X.N.length) i g t c) := by
 rintro pins s σ H Q I ⟨F, R, σD, d, σD', r, ec, k⟩;have hlen : σ.length = X.N.length := I.len;refine pe_lc (X := X) (N' := N') (g := rG X.K g W) (tt := rT X.K t) (te := rE X.K c) hc T hi hg ht he hs pins s σ H Q I ?_;unfold dLc at ec;rcases h : i σD with _ | ⟨xs, σ1⟩
 ·rw [h] at ec; cases ec
 ·rw [h] at ec; simp only [bind_some] at ec
  split at ec
  ·rename_i hz
   obtain ⟨⟨ys, σ2⟩, e1, e2⟩ := map_pair ec;cases e2;refine ⟨F, R, σD, xs, σ1, r, h, fun F1 H1 J x1 r1 j p hp => ?_⟩;exact lc_go (X := X) (W := W) r1 j hz (fun i hi => by rw [hlen]; exact hw i hi) e1 (fun F2 H2 v x2 r2 => k F2 H2 v (x1.trans x2) r2) p hp
  ·cases ec
theorem qs_set_lc (ix : Nat) {y : Str} {py spos : Pos} (hN : X.N.Nodup) (hc : X.calm = true) (T : CyOk X N' scope) (hi : QI X tg iter i) (hg : ∀ cl s H fp pins, QG (cyOf X N' scope cl s H fp pins) tg g W) (ht : ∀ cl s H fp pins, QIf (cyOf X N' scope cl s H fp pins) ifs t)
  (he : ∀ cl s H fp pins, QE (cyOf X N' scope cl s H fp pins) elt c) (hw : ∀ i ∈ W, X.N.length <= i) (hsw : swapsWith (.ListComp elt [⟨tg, iter, ifs, 0⟩] scope pos) (some (.Name y py)) spos.line X.env = pure true)
  (hiN : autoParam (X.N[ix]? = some y) Ax4._auto_1) (hx : autoParam (Loc X.env.scope y) Ax9._auto_1) (hs : autoParam (∀ x, foldedSetIterable iter X.env x = pure x) Ax3._auto_1) (hf : autoParam (X.fn y = true \/ X.env.scope.names.lookup y = some .local) Ax0._auto_1) :
  QS X (.Assign [.Name y py] (.ListComp elt [⟨tg, iter, ifs, 0⟩] scope pos) spos) (sSet ix (dLc (N'.length - X.N.length) i g t c)) [ix] := by
 rintro pins s σ H En I ⟨F, R, σD, o, r, ec, k⟩;have hlen : σ.length = X.N.length := I.len;refine ps_set_lc (X := X) (N' := N') (g := rG X.K g W) (tt := rT X.K t) (te := rE X.K c) hN hiN hx hsw hc T hi hg ht he hs hf pins s σ H En I ?_;unfold sSet at ec;rcases h0 : dLc (N'.length - X.N.length) i g t c σD with _ | ⟨d0, σ0⟩
 ·rw [h0] at ec; cases ec
 ·rw [h0] at ec; simp only [bind_some] at ec
  split at ec
  ·rename_i hl
   cases ec;unfold dLc at h0;rcases h : i σD with _ | ⟨xs, σ1⟩
   ·rw [h] at h0; cases h0
   ·rw [h] at h0; simp only [bind_some] at h0
    split at h0
    ·rename_i hz
     obtain ⟨⟨ys, σ2⟩, e1, e2⟩ := map_pair h0;cases e2;refine ⟨F, R, σD, xs, σ1, r, h, fun F1 H1 J x1 r1 j p hp => ?_⟩;exact lc_go (X := X) (W := W) (Q := fun x H1 => gName ix x σ H1 En.nx) r1 j hz (fun i hi => by rw [hlen]; exact hw i hi) e1 (fun F2 H2 v x2 r2 => k F2 H2 _ (x1.trans x2) Kp.set (r2.store (by rw [<- r2.mt.length]; exact hl))) p hp
    ·cases h0
  ·cases ec
end
mutual
noncomputable def D.py : D -> Option PyData
 | .non => some .none
 | .bl b => some (.bool b)
 | .int i => some (.int i)
 | .str x => some (.str x)
 | .lst _ xs => (D.pyL xs).map .list
 | .tup xs => (D.pyL xs).map .tuple
 | _ => none
noncomputable def D.pyL : List D -> Option (List PyData)
 | [] => some []
 | x :: xs => (D.py x).bind fun p => (D.pyL xs).map fun ps => p :: ps
end
section
variable {X : Cx} {pins : List (Addr × Obj)} {σ : St} {H : Hp} {s : Shared} {F : Addr -> Prop}
theorem obj_list (I : L2.Inv X pins σ H s) {a : Addr} {vs : List V} (h : SqL X.K H a vs) : ∃ its o n, Vals vs its /\ s.heap.get? a = some o /\ o.cls = .type "list" /\ o.data = .seq its.toArray n := by
 obtain ⟨its, r, ⟨o, n, e, c, _, d⟩, _⟩ := I.list h;exact ⟨its, o, n, r, e, c, d⟩
theorem obj_tup (I : L2.Inv X pins σ H s) {a : Addr} {vs : List V} (h : SqT X.K H a vs) : ∃ its o n, Vals vs its /\ s.heap.get? a = some o /\ o.cls = .type "tuple" /\ o.data = .seq its.toArray n := by
 obtain ⟨its, r, ⟨o, e, c, n, d⟩, _⟩ := I.tuple h;exact ⟨its, o, n, r, e, c, d⟩
mutual
theorem reads_of (I : L2.Inv X pins σ H s) : ∀ {d : D} {v : V} {L : List Addr} {p : PyData} {u : Value}, Ow X.K F H d v L -> d.py = some p -> RelV v u -> ∃ as, Reads s.heap u p as
 | .non, v, L, p, u, o, e, r => by simp only [D.py, Ow] at e o; cases e; obtain ⟨rfl, _⟩ := o; cases r; exact ⟨_, .none⟩
 | .bl b, v, L, p, u, o, e, r => by simp only [D.py, Ow] at e o; cases e; obtain ⟨rfl, _⟩ := o; cases r; exact ⟨_, .bool b⟩
 | .int i, v, L, p, u, o, e, r => by simp only [D.py, Ow] at e o; cases e; obtain ⟨rfl, _⟩ := o; obtain ⟨t, rfl⟩ := r; exact ⟨_, .int i t⟩
 | .str x, v, L, p, u, o, e, r => by simp only [D.py, Ow] at e o; cases e; obtain ⟨rfl, _⟩ := o; obtain ⟨t, rfl⟩ := r; exact ⟨_, .str x t⟩
 | .lst own xs, v, L, p, u, o, e, r => by
  simp only [D.py] at e;rcases h : D.pyL xs with _ | ps
  ·rw [h] at e; cases e
  ·rw [h] at e; cases e
   obtain ⟨a, vs, rfl, sq, L', ol⟩ := Bor.lst ⟨L, o⟩;cases r;obtain ⟨its, ob, n, rv, e1, e2, e3⟩ := obj_list I sq;obtain ⟨as, ra⟩ := readsL_of I ol h rv;exact ⟨_, .list e1 e2 e3 ra⟩
 | .tup xs, v, L, p, u, o, e, r => by
  simp only [D.py] at e;rcases h : D.pyL xs with _ | ps
  ·rw [h] at e; cases e
  ·rw [h] at e; cases e
   obtain ⟨a, vs, rfl, sq, L', ol⟩ := Bor.tup ⟨L, o⟩;cases r;obtain ⟨its, ob, n, rv, e1, e2, e3⟩ := obj_tup I sq;obtain ⟨as, ra⟩ := readsL_of I ol h rv;exact ⟨_, .tuple e1 e2 e3 ra⟩
 | .hole, _, _, _, _, _, e, _ => by simp only [D.py] at e; cases e
 | .cell, _, _, _, _, _, e, _ => by simp only [D.py] at e; cases e
 | .node _ _, _, _, _, _, _, e, _ => by simp only [D.py] at e; cases e
 | .pin _ _, _, _, _, _, _, e, _ => by simp only [D.py] at e; cases e
 | .ty _, _, _, _, _, _, e, _ => by simp only [D.py] at e; cases e
 | .cls _, _, _, _, _, _, e, _ => by simp only [D.py] at e; cases e
 | .obj _ _ _ _, _, _, _, _, _, e, _ => by simp only [D.py] at e; cases e
 | .dct _ _ _, _, _, _, _, _, e, _ => by simp only [D.py] at e; cases e
theorem readsL_of (I : L2.Inv X pins σ H s) : ∀ {xs : List D} {vs : List V} {L : List Addr} {ps : List PyData} {us : List Value}, OwL X.K F H xs vs L -> D.pyL xs = some ps -> Vals vs us -> ∃ as, ReadsAll s.heap us ps as
 | [], vs, L, ps, us, o, e, r => by
  simp only [D.pyL, OwL] at e o;cases e;obtain ⟨rfl, _⟩ := o;cases r;exact ⟨_, .nil⟩
 | x :: xs, vs, L, ps, us, o, e, r => by
  simp only [D.pyL, OwL] at e o;obtain ⟨v, ws, L1, L2, rfl, o1, o2, _⟩ := o;rcases h1 : D.py x with _ | p
  ·rw [h1] at e; cases e
  ·rw [h1] at e; simp only [bind_some] at e
   rcases h2 : D.pyL xs with _ | qs
   ·rw [h2] at e; cases e
   ·rw [h2] at e; cases e
    cases r with
    | cons r1 r2 =>
     obtain ⟨as, ra⟩ := reads_of I o1 h1 r1;obtain ⟨bs, rb⟩ := readsL_of I o2 h2 r2;exact ⟨_, .cons ra rb⟩
end
theorem Bor.reads (I : L2.Inv X pins σ H s) {d : D} {v : V} {p : PyData} {u : Value} (b : Bor X.K F H d v) (e : d.py = some p) (r : RelV v u) : ∃ as, Reads s.heap u p as := by
 obtain ⟨L, o⟩ := b;exact reads_of I o e r
end
noncomputable def pyOk (p q : PyData) : Bool := p.canLay0 && q.canLay0 && decide (min p.depth q.depth <= 50)
noncomputable def gEq : D -> D -> Option D := fun x y => x.py.bind fun p => y.py.bind fun q => if pyOk p q = true then some (.bl (PyData.eqv p q)) else none
noncomputable def gNe : D -> D -> Option D := fun x y => x.py.bind fun p => y.py.bind fun q => if pyOk p q = true then some (.bl (!PyData.eqv p q)) else none
section
variable {X : Cx}
theorem gEq_some {x y d : D} (h : gEq x y = some d) : ∃ p q, x.py = some p /\ y.py = some q /\ p.canLay0 = true /\ q.canLay0 = true /\ min p.depth q.depth <= 50 /\ d = .bl (PyData.eqv p q) := by
 unfold gEq at h;rcases h1 : x.py with _ | p
 ·rw [h1] at h; cases h
 ·rw [h1] at h; simp only [bind_some] at h
  rcases h2 : y.py with _ | q
  ·rw [h2] at h; cases h
  ·rw [h2] at h; simp only [bind_some] at h
   split at h
   ·rename_i hk
    cases h;simp only [pyOk, Bool.and_eq_true, decide_eq_true_eq] at hk;exact ⟨p, q, rfl, rfl, hk.1.1, hk.1.2, hk.2, rfl⟩
   ·cases h
theorem gNe_some {x y d : D} (h : gNe x y = some d) : ∃ p q, x.py = some p /\ y.py = some q /\ p.canLay0 = true /\ q.canLay0 = true /\ min p.depth q.depth <= 50 /\ d = .bl (!PyData.eqv p q) := by
 unfold gNe at h;rcases h1 : x.py with _ | p
 ·rw [h1] at h; cases h
 ·rw [h1] at h; simp only [bind_some] at h
  rcases h2 : y.py with _ | q
  ·rw [h2] at h; cases h
  ·rw [h2] at h; simp only [bind_some] at h
   split at h
   ·rename_i hk
    cases h;simp only [pyOk, Bool.and_eq_true, decide_eq_true_eq] at hk;exact ⟨p, q, rfl, rfl, hk.1.1, hk.1.2, hk.2, rfl⟩
   ·cases h
theorem o_eq (hu : X.A.units + 64 < cLine) : OpS X (compareOp .Eq) gEq := by
 refine ⟨fun pins s σ H x y v u Q I rx ry pz => ?_, fun x y d h => ?_⟩
 ·obtain ⟨F, dx, dy, d, w, b1, b2, eg, hw, q⟩ := pz
  obtain ⟨p, r, e1, e2, c1, c2, hd, rfl⟩ := gEq_some eg;cases hw;obtain ⟨as, ra⟩ := b1.reads I e1 rx;obtain ⟨bs, rb⟩ := b2.reads I e2 ry;exact SeqAt.eqOverData _ _ _ _ _ _ _ _ _ _ _ _ ra rb c1 c2 oM ⟨.bl _, H, I, rfl, q⟩
 ·obtain ⟨p, r, _, _, _, _, _, rfl⟩ := gEq_some h
  exact ⟨_, rfl⟩
theorem o_ne (hu : X.A.units + 64 < cLine) : OpS X (compareOp .NotEq) gNe := by
 refine ⟨fun pins s σ H x y v u Q I rx ry pz => ?_, fun x y d h => ?_⟩
 ·obtain ⟨F, dx, dy, d, w, b1, b2, eg, hw, q⟩ := pz
  obtain ⟨p, r, e1, e2, c1, c2, hd, rfl⟩ := gNe_some eg;cases hw;obtain ⟨as, ra⟩ := b1.reads I e1 rx;obtain ⟨bs, rb⟩ := b2.reads I e2 ry;exact SeqAt.neOverData _ _ _ _ _ _ _ _ _ _ _ _ ra rb c1 c2 oM ⟨.bl _, H, I, rfl, q⟩
 ·obtain ⟨p, r, _, _, _, _, _, rfl⟩ := gNe_some h
  exact ⟨_, rfl⟩
end
noncomputable def BorL (K : PySem.W.Frag) (F : Addr -> Prop) (H : Hp) : List D -> List V -> Prop
 | [], [] => True
 | d :: ds, v :: vs => Bor K F H d v /\ BorL K F H ds vs
 | _, _ => False
theorem BorL.of {K : PySem.W.Frag} {F : Addr -> Prop} {H : Hp} {σD : DSt} {σ : St} : ∀ {ds : List D} {vs : List V} {R : Ro}, ds.length = vs.length -> Rel K F H σD σ (ds.zip vs ++ R) -> BorL K F H ds vs := by
 intro ds
 induction ds with
 | nil =>
  intro vs R h r;cases vs with
  | nil => trivial
  | cons _ _ => cases h
 | cons d ds ih =>
  intro vs R h r;cases vs with
  | nil => cases h
  | cons v vs => exact ⟨r.bor List.mem_cons_self, ih (R := R) (Nat.succ.inj h) (Rel.pop (R := ds.zip vs ++ R) r)⟩
structure CallS (X : Cx) (f : Value) (g : List D -> Option D) : Prop where
 run : CallR X f (fun vs H Q => ∃ F ds d w, BorL X.K F H ds vs /\ g ds = some d /\ d.sc = some w /\ Q w H)
 sc : ∀ ds d, g ds = some d -> ∃ w, d.sc = some w
noncomputable def evB : List DP -> DSt -> Option (List D)
 | [], _ => some []
 | p :: ps, σ => (p σ).bind fun d => (evB ps σ).map fun ds => d :: ds
noncomputable def pCall (g : List D -> Option D) (ps : List DP) : DP := fun σ => (evB ps σ).bind g
noncomputable def dCallB (g : List D -> Option D) (ca : DA) : DE := fun σ => (ca σ).bind fun p => (g p.1).map fun d => (d, p.2)
noncomputable def rBA (K : PySem.W.Frag) (ps : List DP) : TA := fun σ H Q => ∃ F R σD ds, Rel K F H σD σ R /\ evB ps σD = some ds /\ ∀ F' H' vs, Grow F H F' H' -> BorL K F' H' ds vs -> Q vs H'
noncomputable def QBA (X : Cx) (es : List Expr) (ps : List DP) : Prop := PA X es (rBA X.K ps)
section
variable {X : Cx} {e : Expr} {es : List Expr} {p : DP} {ps : List DP} {x : Str} {p1 pos : Pos} {id T : String} {g : List D -> Option D} {ca : DA}
theorem qba_nil : QBA X [] [] := PA_imp pa_nil fun σ H Q hq0 => by
 obtain ⟨F, R, σD, ds, r, ec, k⟩ := hq0;cases ec; exact k F H [] Grow.refl trivial
theorem qba_cons (ha : QB X e p) (hr : QBA X es ps) (hs : autoParam (starEach (e :: es) X.env = (false, eval e X.env) :: starEach es X.env) Ax4._auto_1) : QBA X (e :: es) (p :: ps) := PA_imp (pa_cons ha hr hs) fun σ H Q hq0 => by
 obtain ⟨F, R, σD, ds, r, ec, k⟩ := hq0;simp only [evB] at ec;rcases h1 : p σD with _ | d
 ·rw [h1] at ec; cases ec
 ·rw [h1] at ec; simp only [bind_some] at ec
  rcases h2 : evB ps σD with _ | ds2
  ·rw [h2] at ec; cases ec
  ·rw [h2] at ec; cases ec
   refine ⟨F, R, σD, d, r, h1, fun F1 H1 v g1 b1 => ?_⟩;exact ⟨F1, R, σD, ds2, r.grow g1, h2, fun F2 H2 vs g2 b2 => k F2 H2 (v :: vs) (g1.trans g2) ⟨b1.grow g2, b2⟩⟩
theorem pCall_of {f : Value} (hc : CallS X f g) {σ : St} {H : Hp} {Q : VK} (h : rB X.K (pCall g ps) σ H Q) : tCB (fun vs H Q => ∃ F ds d w, BorL X.K F H ds vs /\ g ds = some d /\ d.sc = some w /\ Q w H) (rBA X.K ps) σ H Q := by
 obtain ⟨F, R, σD, d, r, ec, k⟩ := h;unfold pCall at ec;rcases h1 : evB ps σD with _ | ds
 ·rw [h1] at ec; cases ec
 ·rw [h1] at ec; simp only [bind_some] at ec
  obtain ⟨w, hw⟩ := hc.sc _ _ ec;exact ⟨F, R, σD, ds, r, h1, fun F1 H1 vs g1 b1 => ⟨F1, ds, d, w, b1, ec, hw, k F1 H1 w g1 ⟨[], Ow.of_sc hw⟩⟩⟩
theorem dCall_of {f : Value} (hc : CallS X f g) {σ : St} {H : Hp} {Q : VK} (h : rE X.K (dCallB g ca) σ H Q) : tCB (fun vs H Q => ∃ F ds d w, BorL X.K F H ds vs /\ g ds = some d /\ d.sc = some w /\ Q w H) (rA X.K ca) σ H Q := by
 obtain ⟨F, R, σD, d, σD', r, ec, k⟩ := h;unfold dCallB at ec;rcases h1 : ca σD with _ | ⟨ds, σ1⟩
 ·rw [h1] at ec; cases ec
 ·rw [h1] at ec; simp only [bind_some] at ec
  obtain ⟨z, e1, e2⟩ := map_pair ec;cases e2;obtain ⟨w, hw⟩ := hc.sc _ _ e1;exact ⟨F, R, σD, ds, _, r, h1, fun F1 H1 vs x1 hl r1 => ⟨F1, ds, _, w, BorL.of hl r1, e1, hw, k F1 H1 w x1 ((r1.popN).scal hw)⟩⟩
theorem qb_fn (hc : CallS X (.builtin id) g) (hg : Gl X x) (hm : X.mg x = none) (hv : bootBuiltins x = some (.builtin id)) (ha : QBA X (e :: es) ps) (hn : autoParam (x ≠ "__name__") Ax1._auto_1) (hdb : autoParam ((x == ("__debug__" : Str)) = false) Ax1._auto_1)
  (he : autoParam (starEach (e :: es) X.env = (false, eval e X.env) :: starEach es X.env) Ax4._auto_1) (hpl : autoParam ((backTo pos (starEach es X.env)).any (·.1) = false) Ax4._auto_1) : QB X (.Call (.Name x p1) (e :: es) [] pos) (pCall g ps) :=
 PE_imp (pe_callB hc.run hg hm hv ha hn hdb he hpl) fun _ _ _ h => pCall_of hc h
theorem qe_fn (hc : CallS X (.builtin id) g) (hg : Gl X x) (hm : X.mg x = none) (hv : bootBuiltins x = some (.builtin id)) (ha : QA X (e :: es) ca) (hn : autoParam (x ≠ "__name__") Ax1._auto_1) (hdb : autoParam ((x == ("__debug__" : Str)) = false) Ax1._auto_1)
  (he : autoParam (starEach (e :: es) X.env = (false, eval e X.env) :: starEach es X.env) Ax4._auto_1) (hpl : autoParam ((backTo pos (starEach es X.env)).any (·.1) = false) Ax4._auto_1) : QE X (.Call (.Name x p1) (e :: es) [] pos) (dCallB g ca) :=
 PE_imp (pe_callB hc.run hg hm hv ha hn hdb he hpl) fun _ _ _ h => dCall_of hc h
theorem qb_ty (hc : CallS X (.type T) g) (hg : Gl X x) (hm : X.mg x = none) (hv : bootBuiltins x = some (.type T)) (ha : QBA X (e :: es) ps) (hn : autoParam (x ≠ "__name__") Ax1._auto_1) (hdb : autoParam ((x == ("__debug__" : Str)) = false) Ax1._auto_1)
  (he : autoParam (starEach (e :: es) X.env = (false, eval e X.env) :: starEach es X.env) Ax4._auto_1) (hpl : autoParam ((backTo pos (starEach es X.env)).any (·.1) = false) Ax4._auto_1) : QB X (.Call (.Name x p1) (e :: es) [] pos) (pCall g ps) :=
 PE_imp (pe_callTy hc.run hg hm hv ha hn hdb he hpl) fun _ _ _ h => pCall_of hc h
theorem qe_ty (hc : CallS X (.type T) g) (hg : Gl X x) (hm : X.mg x = none) (hv : bootBuiltins x = some (.type T)) (ha : QA X (e :: es) ca) (hn : autoParam (x ≠ "__name__") Ax1._auto_1) (hdb : autoParam ((x == ("__debug__" : Str)) = false) Ax1._auto_1)
  (he : autoParam (starEach (e :: es) X.env = (false, eval e X.env) :: starEach es X.env) Ax4._auto_1) (hpl : autoParam ((backTo pos (starEach es X.env)).any (·.1) = false) Ax4._auto_1) : QE X (.Call (.Name x p1) (e :: es) [] pos) (dCallB g ca) :=
 PE_imp (pe_callTy hc.run hg hm hv ha hn hdb he hpl) fun _ _ _ h => dCall_of hc h
theorem qb_tyname {T : String} (hg : Gl X x) (hm : X.mg x = none) (hv : bootBuiltins x = some (.type T)) (hn : autoParam (x ≠ "__name__") Ax1._auto_1) (hd : autoParam ((x == ("__debug__" : Str)) = false) Ax1._auto_1) : QB X (.Name x pos) (pC (.ty T)) :=
 PE_imp (pe_bltn (v := .ty T) hg hm hv rfl hn hd) fun σ H Q hq0 => by obtain ⟨F, R, σD, d, r, ec, k⟩ := hq0; cases ec; exact k F H _ Grow.refl ⟨[], Ow.of_sc rfl⟩
end
section
variable {X : Cx}
theorem CallR_imp {f : Value} {r r' : List V -> Hp -> VK -> Prop} (h : CallR X f r) (i : ∀ xs H Q, r' xs H Q -> r xs H Q) : CallR X f r' := fun pins s σ H xs us Q I rv h' => h pins s σ H xs us Q I rv (i xs H Q h')
theorem BorL.one {K : PySem.W.Frag} {F : Addr -> Prop} {H : Hp} {d : D} : ∀ {vs : List V}, BorL K F H [d] vs -> ∃ v, vs = [v] /\ Bor K F H d v
 | [v], h => ⟨v, rfl, h.1⟩
theorem BorL.two {K : PySem.W.Frag} {F : Addr -> Prop} {H : Hp} {d e : D} : ∀ {vs : List V}, BorL K F H [d, e] vs -> ∃ v w, vs = [v, w] /\ Bor K F H d v /\ Bor K F H e w := by
 intro vs h;cases vs with
 | nil => exact h.elim
 | cons v vs => cases vs with
  | nil => exact h.2.elim
  | cons w vs => cases vs with
   | nil => exact ⟨v, w, rfl, h.1, h.2.1⟩
   | cons _ _ => exact h.2.2.elim
noncomputable def lenD : List D -> Option D
 | [.lst _ xs] => some (.int xs.length)
 | [.tup xs] => some (.int xs.length)
 | [.str z] => if z.length <= sizeLine then some (.int z.length) else none
 | _ => none
theorem c_len : CallS X (.builtin "len") lenD := by
 refine ⟨CallR_imp (call_len_seq.or call_len_str) fun vs H Q pz => ?_, fun ds d h => ?_⟩
 ·obtain ⟨F, ds, d, w, b, eg, hw, q⟩ := pz
  unfold lenD at eg;split at eg
  ·cases eg; cases hw
   obtain ⟨v, rfl, bv⟩ := b.one;obtain ⟨a, us, rfl, sq, L, ol⟩ := bv.lst;exact .inl ⟨a, us, rfl, .inl sq, by rw [ol.length]; exact q⟩
  ·cases eg; cases hw
   obtain ⟨v, rfl, bv⟩ := b.one;obtain ⟨a, us, rfl, sq, L, ol⟩ := bv.tup;exact .inl ⟨a, us, rfl, .inr sq, by rw [ol.length]; exact q⟩
  ·split at eg
   ·rename_i hz
    cases eg; cases hw;obtain ⟨v, rfl, bv⟩ := b.one;exact .inr ⟨_, by rw [bv.str], hz, q⟩
   ·cases eg
  ·cases eg
 ·unfold lenD at h
  split at h
  ·cases h; exact ⟨_, rfl⟩
  ·cases h; exact ⟨_, rfl⟩
  ·split at h
   ·cases h; exact ⟨_, rfl⟩
   ·cases h
  ·cases h
noncomputable def intD : List D -> Option D
 | [.int i] => some (.int i)
 | [.bl b] => some (.int (if b then 1 else 0))
 | _ => none
theorem c_int : CallS X (.type "int") intD := by
 refine ⟨CallR_imp call_int1 fun vs H Q pz => ?_, fun ds d h => ?_⟩
 ·obtain ⟨F, ds, d, w, b, eg, hw, q⟩ := pz
  unfold intD at eg;split at eg
  ·cases eg; cases hw
   obtain ⟨v, rfl, bv⟩ := b.one;exact .inl ⟨_, by rw [bv.int], q⟩
  ·cases eg; cases hw
   obtain ⟨v, rfl, bv⟩ := b.one;exact .inr ⟨_, by rw [bv.bl], q⟩
  ·cases eg
 ·unfold intD at h
  split at h <;> first | (cases h; exact ⟨_, rfl⟩) | cases h
noncomputable def absD : List D -> Option D
 | [.int i] => some (.int (if i < 0 then -i else i))
 | _ => none
theorem c_abs : CallS X (.builtin "abs") absD := by
 refine ⟨CallR_imp call_abs fun vs H Q pz => ?_, fun ds d h => ?_⟩
 ·obtain ⟨F, ds, d, w, b, eg, hw, q⟩ := pz
  unfold absD at eg;split at eg
  ·cases eg; cases hw
   obtain ⟨v, rfl, bv⟩ := b.one;exact ⟨_, by rw [bv.int], q⟩
  ·cases eg
 ·unfold absD at h
  split at h <;> first | (cases h; exact ⟨_, rfl⟩) | cases h
noncomputable def kindD : D -> Option Value
 | .non => some (.type "NoneType")
 | .bl _ => some (.type "bool")
 | .int _ => some (.type "int")
 | .str _ => some (.type "str")
 | .lst _ _ => some (.type "list")
 | .tup _ => some (.type "tuple")
 | _ => none
noncomputable def isiA : List String := ["NoneType", "bool", "int", "str", "list", "tuple"]
noncomputable def isiB : List String := ["int", "bool", "str", "list", "tuple"]
noncomputable def isiT (a b : String) : Option Bool := if (isiA.contains a && isiB.contains b) = true then some (a == b || (a == "bool" && b == "int")) else none
noncomputable def kindN : D -> Option String
 | .non => some "NoneType"
 | .bl _ => some "bool"
 | .int _ => some "int"
 | .str _ => some "str"
 | .lst _ _ => some "list"
 | .tup _ => some "tuple"
 | _ => none
theorem kindN_D {x : D} {a : String} (h : kindN x = some a) : kindD x = some (.type a) := by
 cases x <;> first | (cases h; rfl) | cases h
noncomputable def isiD (ds : List D) : Option D := match ds with
 | [x, .ty t] => (kindN x).bind fun a => (isiT a t).map .bl
 | _ => none
theorem isiT_kit {K : PySem.W.Frag} {a b : String} {k : Bool} (h : isiT a b = some k) : kitOne K (.type a) (.type b) = some k := by
 unfold isiT at h;split at h
 ·rename_i hc
  rw [Bool.and_eq_true, List.contains_iff_mem, List.contains_iff_mem] at hc;obtain ⟨ha, hb⟩ := hc;simp only [isiA, isiB, List.mem_cons, List.not_mem_nil, or_false] at ha hb;rcases ha with rfl | rfl | rfl | rfl | rfl | rfl <;> rcases hb with rfl | rfl | rfl | rfl | rfl <;> (cases h; rfl)
 ·cases h
theorem map_bl {o : Option Bool} {d : D} (h : o.map D.bl = some d) : ∃ k, o = some k /\ d = .bl k := by
 cases o with
 | none => cases h
 | some k => cases h; exact ⟨k, rfl, rfl⟩
theorem isi_run {pins : List (Addr × Obj)} {σ : St} {H : Hp} {s : Shared} {F : Addr -> Prop} {x : D} {v : V} {u : Value} {t c : Value} {b : Bool} {Q : Value -> Shared -> Prop} {E : Value -> Shared -> Prop} (I : L2.Inv X pins σ H s) (bo : Bor X.K F H x v) (rv : RelV v u) (hk : kindD x = some t)
  (e : kitOne X.K t c = some b) (h : ∀ tk, Q (.bool b) { s with toks := tk }) : wpAny (model X.prog X.w) X.A (call (.builtin "isinstance") [u, c]) Q E s := by
 unfold kindD at hk;split at hk
 ·cases hk; rw [bo.sc (w := .non) rfl] at rv; exact isinst_ok I rv (.non) e h
 ·cases hk; rw [bo.bl] at rv; exact isinst_ok I rv (.bl _) e h
 ·cases hk; rw [bo.int] at rv; exact isinst_ok I rv (.int _) e h
 ·cases hk; rw [bo.str] at rv; exact isinst_ok I rv (.str _) e h
 ·cases hk
  obtain ⟨a, vs, rfl, sq, L, ol⟩ := bo.lst;cases rv;obtain ⟨its, o, n, _, e1, e2, e3⟩ := obj_list I sq;exact kia_one kitx_list I.kIn ⟨_, e1, e2⟩ e (fun z => nomatch z) h
 ·cases hk
  obtain ⟨a, vs, rfl, sq, L, ol⟩ := bo.tup;cases rv;obtain ⟨its, o, n, _, e1, e2, e3⟩ := obj_tup I sq;exact kia_one kitx_tuple I.kIn ⟨_, e1, e2⟩ e (fun z => nomatch z) h
 ·cases hk
theorem c_isi : CallS X (.builtin "isinstance") isiD := by
 refine ⟨fun pins s σ H vs us Q I rv pz => ?_, fun ds d h => ?_⟩
 ·obtain ⟨F, ds, d, w, b, eg, hw, q⟩ := pz
  have key : ∀ {x : D} {a t : String}, ds = [x, .ty t] -> kindD x = some (.type a) -> (isiT a t).map D.bl = some d -> wpAny (model X.prog X.w) X.A (call (.builtin "isinstance") us) (EP X pins σ Q) X.xe s := fun {x a t} e1 e2 e3 => by
   subst e1;obtain ⟨k, e4, rfl⟩ := map_bl e3;cases hw;obtain ⟨v, u, rfl, bv, bu⟩ := b.two;obtain ⟨u1, u2, rfl, r1, r2⟩ := vals2 rv;have hu : u = .ty t := bu.sc rfl;subst hu;cases r2;exact isi_run I bv r1 e2 (isiT_kit e4) fun tk => ⟨.bl k, H, I.tok tk, rfl, q⟩
  unfold isiD at eg;split at eg
  ·rename_i x t
   rcases hk : kindN x with _ | a
   ·rw [hk] at eg; cases eg
   ·rw [hk] at eg
    exact key rfl (kindN_D hk) eg
  ·cases eg
 ·unfold isiD at h
  split at h
  ·rename_i x t
   rcases hk : kindN x with _ | a
   ·rw [hk] at h; cases h
   ·rw [hk] at h
    obtain ⟨k, _, rfl⟩ := map_bl h;exact ⟨_, rfl⟩
  ·cases h
end
noncomputable def getP : D -> List Int -> Option D
 | t, [] => some t
 | .lst _ xs, j :: js => (atI xs j).bind fun x => getP x js
 | .tup xs, j :: js => (atI xs j).bind fun x => getP x js
 | _, _ :: _ => none
noncomputable def setP : D -> List Int -> D -> D
 | _, [], d => d
 | .lst o xs, j :: js, d => match ixN xs.length j with | some k => (match xs[k]? with | some x => .lst o (xs.set k (setP x js d)) | none => .lst o xs) | none => .lst o xs
 | .tup xs, j :: js, d => match ixN xs.length j with | some k => (match xs[k]? with | some x => .tup (xs.set k (setP x js d)) | none => .tup xs) | none => .tup xs
 | t, _ :: _, _ => t
noncomputable def Lc (H : Hp) : V -> List Int -> V -> Prop
 | v, [], w => w = v
 | v, j :: js, w => ∃ a vs u, v = .ref a /\ (H a = some (.lst vs) \/ H a = some (.tup vs)) /\ atI vs j = some u /\ Lc H u js w
theorem atI_ix {α : Type} {xs : List α} {j : Int} {x : α} (h : atI xs j = some x) : ∃ k, ixN xs.length j = some k /\ xs[k]? = some x := by
 unfold atI at h;rcases hk : ixN xs.length j with _ | k
 ·rw [hk] at h; cases h
 ·rw [hk] at h; exact ⟨k, rfl, h⟩
section
variable {K : PySem.W.Frag} {F F' : Addr -> Prop} {H H' : Hp} {σD : DSt} {σ : St} {R S S' : Ro}
theorem Lc.grow {H H' : Hp} (k : ∀ a o, H a = some o -> H' a = some o) : ∀ {js : List Int} {v w : V}, Lc H v js w -> Lc H' v js w
 | [], _, _, h => h
 | j :: js, _, _, ⟨a, vs, u, e, h, hu, r⟩ => ⟨a, vs, u, e, by rcases h with h | h; exact .inl (k _ _ h); exact .inr (k _ _ h), hu, Lc.grow k r⟩
theorem Lc.snoc : ∀ {js : List Int} {j : Int} {v w : V}, Lc H v (js ++ [j]) w -> ∃ u, Lc H v js u /\ Lc H u [j] w := by
 intro js
 induction js with
 | nil => intro j v w h; exact ⟨v, rfl, h⟩
 | cons i js ih =>
  intro j v w h;obtain ⟨a, vs, u, e, h, hu, r⟩ := h;obtain ⟨z, h1, h2⟩ := ih r;exact ⟨z, ⟨a, vs, u, e, h, hu, h1⟩, h2⟩
theorem Ow.focus : ∀ {js : List Int} {t : D} {v : V} {L : List Addr} {xs : List D}, Ow K F H t v L -> getP t js = some (.lst true xs) ->
  ∃ l La Lx Lb, Lc H v js (.ref l) /\ L = La ++ (l :: Lx) ++ Lb /\ (∃ vs, H l = some (.lst vs) /\ OwL K F H xs vs Lx) /\
   ∀ (F' : Addr -> Prop) (H' : Hp) (d' : D) (Lx' : List Addr), Ext F H F' H' -> (∀ a ∈ La ++ Lb, H' a = H a) -> Ow K F' H' d' (.ref l) Lx' -> Ow K F' H' (setP t js d') v (La ++ Lx' ++ Lb) := by
 intro js
 induction js with
 | nil =>
  intro t v L xs o e;simp only [getP] at e;cases e;simp only [Ow] at o;obtain ⟨l, vs, L', rfl, h, ol, rfl⟩ := o;refine ⟨l, [], L', [], rfl, (List.append_nil _).symm, ⟨vs, h, ol⟩, fun F' H' d' Lx' x k o' => ?_⟩;simp only [setP, List.nil_append, List.append_nil];exact o'
 | cons j js ih =>
  intro t v L xs o e;cases t with
  | lst b ys =>
   simp only [getP] at e;rcases h1 : atI ys j with _ | y
   ·rw [h1] at e; cases e
   rw [h1] at e; simp only [bind_some] at e;obtain ⟨k, hk, hy⟩ := atI_ix h1;cases b with
   | true =>
    simp only [Ow] at o;obtain ⟨a, vs, L', rfl, ha, ol, rfl⟩ := o;obtain ⟨w, La, Ly, Lb, ew, rfl, oy, back⟩ := ol.kid hy;obtain ⟨l, Ma, Mx, Mb, lc, rfl, hl, back2⟩ := ih oy e;refine ⟨l, a :: (La ++ Ma), Mx, Mb ++ Lb, ⟨a, vs, w, rfl, .inl ha, ?_, lc⟩, by simp, hl, fun F' H' d' Lx' x kk o' => ?_⟩
    ·unfold atI; rw [ol.length, hk]; exact ew
    ·have o2 := back2 F' H' d' Lx' x (fun b hb => kk b (by simp at hb ⊢; rcases hb with hb | hb <;> simp [hb])) o'
     have o3 := back F' H' _ _ x (fun b hb => kk b (by simp at hb ⊢; rcases hb with hb | hb <;> simp [hb])) o2;simp only [setP, hk, hy, Ow];exact ⟨a, vs, _, rfl, (kk a (by simp)).trans ha, o3, by simp⟩
   | false =>
    exfalso;simp only [Ow] at o;obtain ⟨a, vs, rfl, _, ol, rfl⟩ := o;obtain ⟨w, La, Ly, Lb, ew, eL, oy, back⟩ := ol.kid hy;obtain ⟨l, Ma, Mx, Mb, lc, rfl, hl, back2⟩ := ih oy e;simp at eL
  | tup ys =>
   simp only [getP] at e;rcases h1 : atI ys j with _ | y
   ·rw [h1] at e; cases e
   rw [h1] at e; simp only [bind_some] at e;obtain ⟨k, hk, hy⟩ := atI_ix h1;simp only [Ow] at o;obtain ⟨a, vs, rfl, ft, ol⟩ := o;obtain ⟨w, La, Ly, Lb, ew, rfl, oy, back⟩ := ol.kid hy;obtain ⟨l, Ma, Mx, Mb, lc, rfl, hl, back2⟩ := ih oy e;have ft' : F a /\ H a = some (.tup vs) := by
    rcases ft with h | ⟨_, h⟩
    ·exact h
    ·simp at h
   refine ⟨l, La ++ Ma, Mx, Mb ++ Lb, ⟨a, vs, w, rfl, .inr ft'.2, ?_, lc⟩, by simp, hl, fun F' H' d' Lx' x kk o' => ?_⟩
   ·unfold atI; rw [ol.length, hk]; exact ew
   ·have o2 := back2 F' H' d' Lx' x (fun b hb => kk b (by simp at hb ⊢; rcases hb with hb | hb <;> simp [hb])) o'
    have o3 := back F' H' _ _ x (fun b hb => kk b (by simp at hb ⊢; rcases hb with hb | hb <;> simp [hb])) o2;simp only [setP, hk, hy, Ow];exact ⟨a, vs, rfl, .inl ⟨(x a ft'.1).1, (x a ft'.1).2.trans ft'.2⟩, by simpa using o3⟩
  | _ => simp only [getP] at e; cases e
theorem Rel.listAt {t : D} {v : V} {js : List Int} {xs : List D} (r : Rel K F H σD σ ((t, v) :: (S ++ R))) (e : getP t js = some (.lst true xs)) :
  ∃ l vs, Lc H v js (.ref l) /\ H l = some (.lst vs) /\ xs.length = vs.length /\ ∀ (ys : List D) (ws : List V) (S' : Ro), (xs.zip vs ++ S).Perm (ys.zip ws ++ S') -> ys.length = ws.length ->
   Rel K F (upd H l (.lst ws)) σD σ ((setP t js (.lst true ys), v) :: (S' ++ R)) /\ Ext F H F (upd H l (.lst ws)) := by
 obtain ⟨L, ⟨L1, L23, o1, h23, rfl⟩, nd, nf⟩ := r.front.own;obtain ⟨l, La, Lx, Lb, lc, rfl, ⟨vs, hl, ol⟩, back⟩ := o1.focus e;refine ⟨l, vs, lc, hl, ol.toP.1, fun ys ws S' p hlen => ?_⟩;have h23' : OwP K F H (S ++ (R ++ sl σD σ)) L23 := by rw [<- List.append_assoc]; exact h23
 obtain ⟨L2, L3, rfl, h2, h3⟩ := h23'.split;obtain ⟨M, pm, hM⟩ := (ol.toP.2.append h2).perm p;obtain ⟨M1, M2, rfl, hM1, hM2⟩ := hM.split;have all : ((La ++ (l :: Lx) ++ Lb) ++ (L2 ++ L3)).Perm (l :: (La ++ Lb ++ (Lx ++ L2) ++ L3)) := by
  have h1 : ((La ++ (l :: Lx) ++ Lb) ++ (L2 ++ L3)) = La ++ l :: (Lx ++ (Lb ++ (L2 ++ L3))) := by simp
  rw [h1];refine List.perm_middle.trans (.cons _ ?_);have h2 : La ++ Lb ++ (Lx ++ L2) ++ L3 = La ++ (Lb ++ (Lx ++ (L2 ++ L3))) := by simp
  rw [h2];exact (List.perm_append_comm_assoc _ _ _).append_left La
 have nd1 := all.nodup_iff.mp nd;have nl : ∀ a ∈ La ++ Lb ++ (Lx ++ L2) ++ L3, a ≠ l := fun a ha z => (List.nodup_cons.mp nd1).1 (z ▸ ha)
 have nF : ∀ a, F a -> a ≠ l := fun a fa z => nf l (all.mem_iff.mpr (by simp)) (z ▸ fa)
 have x : Ext F H F (upd H l (.lst ws)) := fun a fa => ⟨fa, upd_ne (nF a fa)⟩
 have kM : ∀ a ∈ M1 ++ M2, upd H l (.lst ws) a = H a := fun a ha => upd_ne (nl a (by
  have := pm.mem_iff.mpr ha
  simp at this ⊢;rcases this with h | h <;> simp [h]))
 have o2 : Ow K F (upd H l (.lst ws)) (.lst true ys) (.ref l) (l :: M1) := by
  simp only [Ow];exact ⟨l, ws, M1, rfl, upd_same, OwL.ofP hlen (hM1.mono x fun a ha => kM a (by simp [ha])), rfl⟩
 have o3 := back F (upd H l (.lst ws)) (.lst true ys) (l :: M1) x (fun a ha => upd_ne (nl a (by simp at ha ⊢; rcases ha with h | h <;> simp [h]))) o2;refine ⟨Rel.of r.mt ⟨⟨(La ++ (l :: M1) ++ Lb) ++ (M2 ++ L3), ⟨_, M2 ++ L3, o3, ?_, rfl⟩, ?_, ?_⟩, fun a fa => ?_⟩, x⟩
 ·show OwP K F (upd H l (.lst ws)) ((S' ++ R) ++ sl σD σ) (M2 ++ L3)
  rw [List.append_assoc];exact (hM2.mono x fun a ha => kM a (by simp [ha])).append (h3.mono x fun a ha => upd_ne (nl a (by simp [ha])))
 ·have p2 : ((La ++ (l :: M1) ++ Lb) ++ (M2 ++ L3)).Perm ((La ++ (l :: Lx) ++ Lb) ++ (L2 ++ L3)) := by
   refine List.Perm.trans ?_ all.symm;have h1 : ((La ++ (l :: M1) ++ Lb) ++ (M2 ++ L3)) = La ++ l :: (M1 ++ (Lb ++ (M2 ++ L3))) := by simp
   rw [h1];refine List.perm_middle.trans (.cons _ ?_);have h2 : La ++ Lb ++ (Lx ++ L2) ++ L3 = La ++ (Lb ++ ((Lx ++ L2) ++ L3)) := by simp
   rw [h2];refine List.Perm.append_left La ?_;refine (List.perm_append_comm_assoc _ _ _).trans (List.Perm.append_left Lb ?_);rw [<- List.append_assoc];exact pm.symm.append_right L3
  exact p2.nodup_iff.mpr nd
 ·intro a ha fa
  refine nf a ?_ fa;simp only [List.mem_append, List.mem_cons] at ha ⊢;rcases ha with ((h | h | h) | h) | h | h
  ·simp [h]
  ·simp [h]
  ·have := pm.mem_iff.mpr (List.mem_append_left M2 h)
   rcases List.mem_append.mp this with z | z <;> simp [z]
  ·simp [h]
  ·have := pm.mem_iff.mpr (List.mem_append_right M1 h)
   rcases List.mem_append.mp this with z | z <;> simp [z]
  ·simp [h]
 ·rw [upd_ne (nF a fa)]; exact r.g.dom a fa
end
noncomputable def evI : List DP -> DSt -> Option (List Int)
 | [], _ => some []
 | p :: ps, σ => (p σ).bind fun d => match d with | .int i => (evI ps σ).map fun r => i :: r | _ => none
theorem evI_snoc : ∀ {js : List DP} {p : DP} {σ : DSt} {path : List Int}, evI (js ++ [p]) σ = some path -> ∃ pre i, path = pre ++ [i] /\ evI js σ = some pre /\ p σ = some (.int i)
 | [], p, σ, path, h => by
  simp only [List.nil_append, evI] at h;rcases hp : p σ with _ | d
  ·rw [hp] at h; cases h
  ·rw [hp] at h
   cases d <;> first | (cases h; exact ⟨[], _, rfl, rfl, rfl⟩) | cases h
 | q :: js, p, σ, path, h => by
  simp only [List.cons_append, evI] at h;rcases hq : q σ with _ | d
  ·rw [hq] at h; cases h
  ·rw [hq] at h
   simp only [bind_some] at h;cases d with
   | int i =>
    simp only at h;rcases hr : evI (js ++ [p]) σ with _ | r
    ·rw [hr] at h; cases h
    ·rw [hr] at h; cases h
     obtain ⟨pre, k, rfl, h2, h3⟩ := evI_snoc hr;refine ⟨i :: pre, k, rfl, ?_, h3⟩;simp only [evI, hq, bind_some, h2, map_some]
   | _ => cases h
theorem Lc.uniq {H : Hp} : ∀ {js : List Int} {v w w' : V}, Lc H v js w -> Lc H v js w' -> w = w' := by
 intro js
 induction js with
 | nil => intro v w w' h h'; exact h.trans h'.symm
 | cons j js ih =>
  intro v w w' q q';obtain ⟨a, vs, u, e, h, hu, r⟩ := q;obtain ⟨a', vs', u', e', h', hu', r'⟩ := q';subst e;cases e';have ev : vs = vs' := by
   rcases h with h | h <;> rcases h' with h' | h' <;> rw [h] at h' <;> cases h' <;> rfl
  subst ev;rw [hu] at hu';cases hu';exact ih r r'
noncomputable def rP (K : PySem.W.Frag) (i : Nat) (js : List DP) : TE := fun σ H Q => ∃ F R σD v0 path w, Rel K F H σD σ R /\ σ[i]? = some (some v0) /\ evI js σD = some path /\ Lc H v0 path w /\ ∀ F' H', Grow F H F' H' -> Q w H'
noncomputable def QP (X : Cx) (e : Expr) (i : Nat) (js : List DP) : Prop := PE X e (rP X.K i js)
section
variable {X : Cx} {e o a b : Expr} {es : List Expr} {p q : DP} {c c' : DE} {pos apos cpos : Pos} {i : Nat} {js : List DP}
theorem qp_v (i : Nat) {x : Str} {pos : Pos} (hN : autoParam (X.N[i]? = some x) Ax4._auto_1) (hv : autoParam (Vis X.env.scope x) Ax7._auto_1) (hd : autoParam ((x == ("__debug__" : Str)) = false) Ax1._auto_1)
  (hcd : autoParam ((x == ("__classdict__" : Str)) = false) Ax1._auto_1) : QP X (.Name x pos) i [] := PE_imp (pe_var hN hv hd hcd) fun σ H Q hq0 => by
 obtain ⟨F, R, σD, v0, path, w, r, hv0, ep, lc, k⟩ := hq0;cases ep;cases lc;exact ⟨_, hv0, k F H Grow.refl⟩
theorem qp_ix (ho : QP X a i js) (hb : QB X b q) (hs : autoParam (PlainIx b) Ax8._auto_1) : QP X (.Subscript a b pos) i (js ++ [q]) := PE_imp (pe_ix ix_seq ho hb hs) fun σ H Q hq0 => by
 obtain ⟨F, R, σD, v0, path, w, r, hv0, ep, lc, k⟩ := hq0;obtain ⟨pre, j, rfl, e1, e2⟩ := evI_snoc ep;obtain ⟨u, l1, l2⟩ := lc.snoc;refine ⟨F, R, σD, v0, pre, u, r, hv0, e1, l1, fun F1 H1 g1 => ?_⟩;refine ⟨F1, R, σD, _, r.grow g1, e2, fun F2 H2 y g2 b2 => ?_⟩;obtain ⟨ad, vs, z, rfl, hh, hz, rfl⟩ := l2.grow (g1.trans g2).k;rcases hh with hh | hh
 ·exact .inl ⟨ad, vs, j, _, rfl, b2.int, .inl (.inl hh), hz, k F2 H2 (g1.trans g2)⟩
 ·exact .inr (.inl ⟨ad, vs, j, _, rfl, b2.int, .inl (.inl hh), hz, k F2 H2 (g1.trans g2)⟩)
noncomputable def dApp (i : Nat) (js : List DP) (p : DP) : DE := fun σ => (dget σ i).bind fun t => (evI js σ).bind fun path => (getP t path).bind fun n => match n with
 | .lst true xs => (p σ).bind fun y => match y.sc with
  | some _ => if xs.length < sizeLine then some (.non, σ.set i (some (setP t path (.lst true (xs ++ [y]))))) else none
  | none => none
 | _ => none
theorem qe_appP (ho : QP X o i js) (he : QB X e p) (hbase : autoParam (attributeBase o "append" X.env (eval o X.env) = eval o X.env) Ax4._auto_1) (hfew : autoParam (((backTo cpos (starEach [e] X.env)).all (fun x => !x.1) && (backToKw cpos (keywordEach [] X.env)).all (fun x => x.1.isSome)
   && decide (([e] : List Expr).length + ([] : List Keyword).length + (if ([] : List Keyword).isEmpty then 0 else 1) < 30)) = true) Ax4._auto_1) (hline : autoParam ((apos.endLine == cpos.line) = true) Ax4._auto_1)
  (hst : autoParam (starEach [e] X.env = (false, eval e X.env) :: starEach [] X.env) Ax4._auto_1) : QE X (.Call (.Attribute o "append" apos) [e] [] cpos) (dApp i js p) :=
 PE_imp (pe_bm PySem.F.plainAttrs_list PySem.F.slot_list_append PySem.F.type_list_append mt_append ho (pa_cons he pa_nil hst) hbase hfew hline hst rfl) fun σ H Q hq0 => by
  obtain ⟨F, R, σD, d, σD', r, ec, k⟩ := hq0;unfold dApp at ec;rcases h1 : dget σD i with _ | t
  ·rw [h1] at ec; cases ec
  ·rw [h1] at ec; simp only [bind_some] at ec
   rcases h2 : evI js σD with _ | path
   ·rw [h2] at ec; cases ec
   ·rw [h2] at ec; simp only [bind_some] at ec
    rcases h3 : getP t path with _ | n
    ·rw [h3] at ec; cases ec
    ·rw [h3] at ec; simp only [bind_some] at ec
     split at ec
     ·rename_i xs
      rcases h4 : p σD with _ | y
      ·rw [h4] at ec; cases ec
      ·rw [h4] at ec; simp only [bind_some] at ec
       rcases h5 : y.sc with _ | yw
       ·rw [h5] at ec; cases ec
       ·rw [h5] at ec
        simp only at ec;split at ec
        ·rename_i hz
         cases ec;obtain ⟨v0, hv0, r0⟩ := r.take (dget_some h1);obtain ⟨l0, vs0, lc0, hl0, _⟩ := Rel.listAt (S := []) r0 h3;refine ⟨F, R, σD, v0, path, .ref l0, r, hv0, h2, lc0, fun F1 H1 g1 => ⟨.inl ⟨rfl, vs0, .inl (.inl (g1.k _ _ hl0))⟩, ?_⟩⟩;refine ⟨F1, R, σD, y, r.grow g1, h4, fun F2 H2 u g2 b2 => ?_⟩;have hu : u = yw := b2.sc h5;subst hu;have g3 := g1.trans g2;obtain ⟨v1, hv1, r1⟩ := (r.grow g3).take (dget_some h1);rw [hv0] at hv1; cases hv1;have r2 : Rel X.K F2 H2 (σD.set i none) σ ((t, v0) :: ([(y, u)] ++ R)) := (r1.scal (d := y) h5).perm (.swap _ _ _);obtain ⟨l, vs, lc, hl, hlen, upd'⟩ := r2.listAt h3;have el : l0 = l := by
          have := (lc0.grow g3.k).uniq lc
          injection this
         subst el;obtain ⟨r3, x3⟩ := upd' (xs ++ [y]) (vs ++ [u]) [] (by rw [List.zip_append hlen]; simp) (by simp [hlen]);refine ⟨l0, vs, u, rfl, rfl, hl, by omega, ?_⟩;have r4 := (Rel.put (R := R) r3 hv0);rw [List.set_set] at r4;exact k F2 _ .non (g3.x.trans x3) (r4.scal rfl)
        ·cases ec
     ·cases ec
end
section
variable {X : Cx} {e o a b : Expr} {es : List Expr} {p q : DP} {c c' : DE} {pos apos cpos : Pos} {i : Nat} {js : List DP}
noncomputable def dAppV (i : Nat) (c : DE) : DE := fun σ => match dget σ i with
 | some (.lst _ _) => (c σ).bind fun p => match dget p.2 i with
  | some (.lst true xs) => if xs.length < sizeLine then some (.non, p.2.set i (some (.lst true (xs ++ [p.1])))) else none
  | _ => none
 | _ => none
theorem qe_appV (i : Nat) {x : Str} {npos : Pos} (he : QE X e c) (hN : autoParam (X.N[i]? = some x) Ax4._auto_1) (hv : autoParam (Vis X.env.scope x) Ax7._auto_1) (hd : autoParam ((x == ("__debug__" : Str)) = false) Ax1._auto_1)
  (hcd : autoParam ((x == ("__classdict__" : Str)) = false) Ax1._auto_1) (hbase : autoParam (attributeBase (.Name x npos) "append" X.env (eval (.Name x npos) X.env) = eval (.Name x npos) X.env) Ax4._auto_1) (hfew : autoParam (((backTo cpos (starEach [e] X.env)).all (fun x => !x.1) && (backToKw cpos (keywordEach [] X.env)).all (fun x => x.1.isSome)
   && decide (([e] : List Expr).length + ([] : List Keyword).length + (if ([] : List Keyword).isEmpty then 0 else 1) < 30)) = true) Ax4._auto_1) (hline : autoParam ((apos.endLine == cpos.line) = true) Ax4._auto_1)
  (hst : autoParam (starEach [e] X.env = (false, eval e X.env) :: starEach [] X.env) Ax4._auto_1) : QE X (.Call (.Attribute (.Name x npos) "append" apos) [e] [] cpos) (dAppV i c) :=
 PE_imp (pe_bm PySem.F.plainAttrs_list PySem.F.slot_list_append PySem.F.type_list_append mt_append (pe_var hN hv hd hcd) (pa_cons he pa_nil hst) hbase hfew hline hst rfl) fun σ H Q hq0 => by
  obtain ⟨F, R, σD, d, σD', r, ec, k⟩ := hq0;unfold dAppV at ec;split at ec
  ·rename_i own ys h0
   obtain ⟨v0, hv0, b0⟩ := r.get (dget_some h0);obtain ⟨a0, vs0, rfl, sq0, _⟩ := b0.lst;rcases h1 : c σD with _ | ⟨y, σ1⟩
   ·rw [h1] at ec; cases ec
   ·rw [h1] at ec; simp only [bind_some] at ec
    split at ec
    ·rename_i xs h2
     split at ec
     ·rename_i hz
      cases ec;refine ⟨_, hv0, .inl ⟨rfl, vs0, sq0⟩, F, R, σD, y, σ1, r, h1, fun F1 H1 v x1 r1 => ?_⟩;obtain ⟨v1, hv1, r2⟩ := r1.take (dget_some h2);rw [hv0] at hv1; cases hv1;obtain ⟨l, vs, lc, hl, hlen, upd'⟩ := Rel.listAt (S := [(y, v)]) (js := []) (xs := xs) r2 rfl;cases lc;obtain ⟨r3, x3⟩ := upd' (xs ++ [y]) (vs ++ [v]) [] (by rw [List.zip_append hlen]; simp) (by simp [hlen]);refine ⟨_, vs, v, rfl, rfl, hl, by omega, ?_⟩;have r4 := (Rel.put (R := R) r3 hv0);rw [List.set_set] at r4;exact k F1 _ .non (x1.trans x3) (r4.scal rfl)
     ·cases ec
    ·cases ec
  ·cases ec
noncomputable def gSet (i : Nat) (js : List DP) (q : DP) : DG := fun d σ => (dget σ i).bind fun t => (evI js σ).bind fun path => (getP t path).bind fun n => match n with
 | .lst true xs => (q σ).bind fun y => match y with
  | .int k => (ixN xs.length k).map fun j => σ.set i (some (setP t path (.lst true (xs.set j d))))
  | _ => none
 | _ => none
theorem zip_set : ∀ {xs : List D} {vs : List V} {j : Nat} {d : D} {v : V}, xs.length = vs.length -> j < xs.length -> ∃ x w, ((xs.zip vs) ++ [(d, v)]).Perm ((xs.set j d).zip (vs.set j v) ++ [(x, w)]) := by
 intro xs
 induction xs with
 | nil => intro vs j d v hl hj; exact absurd hj (Nat.not_lt_zero _)
 | cons x xs ih =>
  intro vs j d v hl hj;cases vs with
  | nil => cases hl
  | cons w vs => cases j with
   | zero =>
    refine ⟨x, w, ?_⟩;show ((x, w) :: (xs.zip vs ++ [(d, v)])).Perm ((d, v) :: (xs.zip vs ++ [(x, w)]));have h1 : ((x, w) :: (xs.zip vs ++ [(d, v)])).Perm ((x, w) :: (d, v) :: xs.zip vs) := (List.perm_append_comm).cons _;have h2 : ((d, v) :: (xs.zip vs ++ [(x, w)])).Perm ((d, v) :: (x, w) :: xs.zip vs) := (List.perm_append_comm).cons _;exact (h1.trans (.swap _ _ _)).trans h2.symm
   | succ j =>
    obtain ⟨y, u, h⟩ := ih (vs := vs) (j := j) (d := d) (v := v) (Nat.succ.inj hl) (Nat.lt_of_succ_lt_succ hj);exact ⟨y, u, h.cons _⟩
theorem qg_set (ho : QP X o i js) (hq : QB X a q) (ha : autoParam (∀ v, assign (.Subscript o a pos) X.env v = (do
   let ov <- holding [v] (eval o X.env)
   let iv <- holding [v, ov] (eval a X.env)
   standAt pos
   holding [v, ov, iv] (setItem ov iv v)
   release [v, ov, iv] [])) Ax3._auto_1) : QG X (.Subscript o a pos) (gSet i js q) [] := PG_imp (pg_sub ho hq set_list ha) fun v σ H Q hq0 => by
 obtain ⟨F, R, σD, d, σD', r, ec, k⟩ := hq0;unfold gSet at ec;rcases h1 : dget σD i with _ | t
 ·rw [h1] at ec; cases ec
 ·rw [h1] at ec; simp only [bind_some] at ec
  rcases h2 : evI js σD with _ | path
  ·rw [h2] at ec; cases ec
  ·rw [h2] at ec; simp only [bind_some] at ec
   rcases h3 : getP t path with _ | n
   ·rw [h3] at ec; cases ec
   ·rw [h3] at ec; simp only [bind_some] at ec
    split at ec
    ·rename_i xs
     rcases h4 : q σD with _ | y
     ·rw [h4] at ec; cases ec
     ·rw [h4] at ec; simp only [bind_some] at ec
      split at ec
      ·rename_i kk
       rcases h5 : ixN xs.length kk with _ | j
       ·rw [h5] at ec; cases ec
       ·rw [h5] at ec; cases ec
        obtain ⟨v0, hv0, r0⟩ := r.take (dget_some h1);obtain ⟨l0, vs0, lc0, hl0, _⟩ := Rel.listAt (S := [(d, v)]) r0 h3;refine ⟨F, _, σD, v0, path, .ref l0, r, hv0, h2, lc0, fun F1 H1 g1 => ?_⟩;refine ⟨F1, _, σD, _, r.grow g1, h4, fun F2 H2 u g2 b2 => ?_⟩;have g3 := g1.trans g2;obtain ⟨v1, hv1, r1⟩ := (r.grow g3).take (dget_some h1);rw [hv0] at hv1; cases hv1;obtain ⟨l, vs, lc, hl, hlen, upd'⟩ := Rel.listAt (S := [(d, v)]) r1 h3;have el : l0 = l := by
         have := (lc0.grow g3.k).uniq lc
         injection this
        subst el;have hj : j < xs.length := (ixN_seq h5).2.1;obtain ⟨xo, wo, pm⟩ := zip_set (d := d) (v := v) hlen hj;obtain ⟨r3, x3⟩ := upd' (xs.set j d) (vs.set j v) [(xo, wo)] pm (by simp [hlen]);refine ⟨l0, vs, kk, j, rfl, b2.int, hl, by rw [<- hlen]; exact h5, ?_⟩;have r4 := (Rel.put (R := (xo, wo) :: R) r3 hv0);rw [List.set_set] at r4;exact k F2 _ σ (g3.x.trans x3) Kp.refl r4.pop
      ·cases ec
    ·cases ec
end
section
variable {K : PySem.W.Frag} {F F' : Addr -> Prop} {H H' : Hp} {σD : DSt} {σ : St} {R S : Ro}
theorem Rel.pushL : ∀ {xs : List D} {vs : List V}, OwL K F H xs vs [] -> Rel K F H σD σ R -> Rel K F H σD σ (xs.zip vs ++ R)
 | [], vs, h, r => by simp only [OwL] at h; rw [h.1]; exact r
 | x :: xs, vs, h, r => by
  simp only [OwL] at h;obtain ⟨v, ws, L1, L2, rfl, h1, h2, e⟩ := h;obtain ⟨rfl, rfl⟩ := List.append_eq_nil_iff.mp e.symm;exact (Rel.pushL h2 r).push h1
end
noncomputable def cutG {α : Type} (xs : List α) (lo hi : Option Int) : List α := (xs.drop (HT.sIx xs.length 0 lo)).take (HT.sIx xs.length xs.length hi - HT.sIx xs.length 0 lo)
noncomputable def evO : Option DP -> DSt -> Option (Option Int)
 | none, _ => some none
 | some p, σ => (p σ).bind fun d => match d with | .int i => some (some i) | _ => none
noncomputable def rO (K : PySem.W.Frag) (p : Option DP) : TO := fun σ H Q => ∃ F R σD o, Rel K F H σD σ R /\ evO p σD = some o /\ ∀ F' H', Grow F H F' H' -> Q o H'
noncomputable def QO (X : Cx) (e : Option Expr) (p : Option DP) : Prop := PO X e (rO X.K p)
theorem PO_imp {X : Cx} {e : Option Expr} {t t' : TO} (h : PO X e t) (i : ∀ σ H Q, t' σ H Q -> t σ H Q) : PO X e t' := fun pins s σ H Q I h' => h pins s σ H Q I (i σ H Q h')
section
variable {X : Cx} {e a b : Expr} {lo hi : Option Expr} {pl ph : Option DP} {p q : DP} {c c' : DE} {pos p2 : Pos} {i : Nat}
theorem qo_none : QO X none none := PO_imp po_none fun σ H Q hq0 => by obtain ⟨F, R, σD, o, r, ec, k⟩ := hq0; cases ec; exact k F H Grow.refl
theorem qo_some (h : QB X e p) : QO X (some e) (some p) := PO_imp (po_some h) fun σ H Q hq0 => by
 obtain ⟨F, R, σD, o, r, ec, k⟩ := hq0;simp only [evO] at ec;rcases h1 : p σD with _ | d
 ·rw [h1] at ec; cases ec
 ·rw [h1] at ec; simp only [bind_some] at ec
  split at ec
  ·cases ec
   exact ⟨F, R, σD, _, r, h1, fun F' H' v g b => ⟨_, b.int, k F' H' g⟩⟩
  ·cases ec
noncomputable def dSl (c : DE) (pl ph : Option DP) : DE := fun σ => (c σ).bind fun p => match p.1 with
 | .lst _ xs => (evO pl p.2).bind fun l => (evO ph p.2).map fun h => (.lst true (cutG (D.fzL xs) l h), p.2)
 | _ => none
noncomputable def dCat (c c' : DE) : DE := fun σ => (c σ).bind fun p => (c' p.2).bind fun q => match p.1, q.1 with
 | .lst true xs, .lst true ys => if xs.length + ys.length <= sizeLine then some (.lst true (xs ++ ys), q.2) else none
 | _, _ => none
noncomputable def allSc (xs : List D) : Bool := xs.all fun d => d.sc.isSome
noncomputable def dRep (c c' : DE) : DE := fun σ => (c σ).bind fun p => (c' p.2).bind fun q => match p.1, q.1 with
 | .lst true xs, .int n => if allSc xs = true /\ -(2 ^ 63) <= n /\ n < 2 ^ 63 /\ xs.length * n.toNat <= sizeLine then some (.lst true (List.replicate n.toNat xs).flatten, q.2) else none
 | _, _ => none
theorem OwL.sc {K : PySem.W.Frag} {F : Addr -> Prop} {H : Hp} : ∀ {xs : List D} {vs : List V} {L : List Addr}, OwL K F H xs vs L -> allSc xs = true -> L = [] /\ ∀ F' H', OwL K F' H' xs vs []
 | [], vs, L, h, _ => by simp only [OwL] at h ⊢; exact ⟨h.2, fun _ _ => ⟨h.1, trivial⟩⟩
 | x :: xs, vs, L, h, s => by
  simp only [OwL] at h;obtain ⟨v, ws, L1, L2, rfl, h1, h2, rfl⟩ := h;simp only [allSc, List.all_cons, Bool.and_eq_true] at s;obtain ⟨w, hw⟩ := Option.isSome_iff_exists.mp s.1;obtain ⟨rfl, rfl⟩ := h1.sc hw;obtain ⟨rfl, h3⟩ := OwL.sc h2 s.2;exact ⟨rfl, fun F' H' => by simp only [OwL]; exact ⟨v, ws, [], [], rfl, Ow.of_sc hw, h3 F' H', rfl⟩⟩
theorem OwL.app {K : PySem.W.Frag} {F : Addr -> Prop} {H : Hp} : ∀ {xs ys : List D} {vs ws : List V}, OwL K F H xs vs [] -> OwL K F H ys ws [] -> OwL K F H (xs ++ ys) (vs ++ ws) []
 | [], ys, vs, ws, h, h' => by simp only [OwL] at h; rw [h.1]; exact h'
 | x :: xs, ys, vs, ws, h, h' => by
  simp only [OwL] at h;obtain ⟨v, us, L1, L2, rfl, h1, h2, e⟩ := h;obtain ⟨rfl, rfl⟩ := List.append_eq_nil_iff.mp e.symm;simp only [List.cons_append, OwL];exact ⟨v, us ++ ws, [], [], rfl, h1, OwL.app h2 h', rfl⟩
theorem OwL.rep {K : PySem.W.Frag} {F : Addr -> Prop} {H : Hp} {xs : List D} {vs : List V} (h : OwL K F H xs vs []) : ∀ n : Nat, OwL K F H (List.replicate n xs).flatten (List.replicate n vs).flatten []
 | 0 => by simp [OwL]
 | n + 1 => by
  rw [List.replicate_succ, List.replicate_succ, List.flatten_cons, List.flatten_cons];exact OwL.app h (OwL.rep h n)
theorem qe_rep (ha : QE X a c) (hb : QE X b c') : QE X (.BinOp a .Mult b pos) (dRep c c') := PE_imp (pe_op op_rep ha hb) fun σ H Q hq0 => by
 obtain ⟨F, R, σD, d, σD', r, ec, k⟩ := hq0;unfold dRep at ec;rcases h1 : c σD with _ | ⟨x, σ1⟩
 ·rw [h1] at ec; cases ec
 ·rw [h1] at ec; simp only [bind_some] at ec
  rcases h2 : c' σ1 with _ | ⟨y, σ2⟩
  ·rw [h2] at ec; cases ec
  ·rw [h2] at ec; simp only [bind_some] at ec
   split at ec
   ·rename_i xs n
    split at ec
    ·rename_i hz
     cases ec;refine ⟨F, R, σD, _, σ1, r, h1, fun F1 H1 v x1 r1 => ?_⟩;refine ⟨F1, _, σ1, _, _, r1, h2, fun F2 H2 u x2 r2 => ?_⟩;have hu : u = .int n := (r2.bor (by simp)).int;have r3 := r2.pop;obtain ⟨l, vs, rfl, hw, hlw, r4⟩ := r3.openL;obtain ⟨L, ⟨L1, L2, o1, h12, _⟩, _, _⟩ := r3.front.own;simp only [Ow] at o1;obtain ⟨l', vs', L', e1, e2, ol, _⟩ := o1;cases e1;rw [hw] at e2; cases e2;have os := (ol.sc hz.1).2 F2 H2;refine ⟨l, n, vs, rfl, hu, hw, hz.2.1, hz.2.2.1, by rw [<- hlw]; exact hz.2.2.2, fun p hp => ?_⟩;have orp := os.rep n.toNat;obtain ⟨r6, x6⟩ := (Rel.pushL orp r3.pop).layL orp.length.symm hp;exact k F2 _ _ ((x1.trans x2).trans x6) r6
    ·cases ec
   ·cases ec
noncomputable def gNeg : D -> Option D
 | .int i => some (.int (-i))
 | _ => none
noncomputable def pNeg (p : DP) : DP := fun σ => (p σ).bind gNeg
theorem gNeg_some {x d : D} (h : gNeg x = some d) : ∃ i, x = .int i /\ d = .int (-i) := by
 cases x <;> first | (cases h; exact ⟨_, rfl, rfl⟩) | cases h
theorem qb_neg (ha : QB X a p) : QB X (.UnaryOp .USub a pos) (pNeg p) := PE_imp (pe_un un_neg ha) fun σ H Q hq0 => by
 obtain ⟨F, R, σD, d, r, ec, k⟩ := hq0;unfold pNeg at ec;rcases h1 : p σD with _ | x
 ·rw [h1] at ec; cases ec
 ·rw [h1] at ec; simp only [bind_some] at ec
  obtain ⟨i, rfl, rfl⟩ := gNeg_some ec;exact ⟨F, R, σD, _, r, h1, fun F1 H1 v g1 b1 => ⟨i, b1.int, k F1 H1 _ g1 ⟨[], Ow.of_sc rfl⟩⟩⟩
noncomputable def dIfE (t : DT) (c c' : DE) : DE := fun σ => (t σ).bind fun p => if p.1 = true then c p.2 else c' p.2
theorem qe_if {t : DT} {cnd : Expr} (ht : QT X cnd t) (ha : QE X a c) (hb : QE X b c') : QE X (.IfExp cnd a b pos) (dIfE t c c') := PE_imp (pe_ifExp ht ha hb) fun σ H Q hq0 => by
 obtain ⟨F, R, σD, d, σD', r, ec, k⟩ := hq0;unfold dIfE at ec;rcases h : t σD with _ | ⟨x, σ1⟩
 ·rw [h] at ec; cases ec
 ·rw [h] at ec; simp only [bind_some] at ec
  refine ⟨F, R, σD, x, σ1, r, h, fun F1 H1 x1 r1 => ?_⟩;cases x
  ·simp only [Bool.false_eq_true, if_false] at ec ⊢
   exact ⟨F1, R, σ1, d, σD', r1, ec, fun F2 H2 v x2 r2 => k F2 H2 v (x1.trans x2) r2⟩
  ·simp only [if_true] at ec ⊢
   exact ⟨F1, R, σ1, d, σD', r1, ec, fun F2 H2 v x2 r2 => k F2 H2 v (x1.trans x2) r2⟩
variable {rest : List Expr}
end
end DD
namespace L2
open PySem PySem.Spec PyProof.Rows
noncomputable def Itz (K : PySem.W.Frag) (a b : Addr) : It :=
 ⟨fun i H => ∃ xs ys x y, SqL K H a xs /\ SqL K H b ys /\ xs[i]? = some x /\ ys[i]? = some y,
  fun i H x H' => ∃ p u w, (∀ xs, SqL K H a xs -> xs[i]? = some u) /\ (∀ ys, SqL K H b ys -> ys[i]? = some w) /\ H p = none /\ H' = upd H p (.tup [u, w]) /\ x = .ref p,
  fun i H => ∃ xs ys, SqL K H a xs /\ SqL K H b ys /\ (xs.length <= i \/ ys.length <= i)⟩
theorem Inv.turnT {X : Cx} {pins : List (Addr × Obj)} {σ : St} {H : Hp} {s : Shared} {h' : Heap} {ch : List Addr} {u w : V} {x y : Value} (I : Inv X pins σ H s) (hf : ∀ b ∈ ch, FpOk X pins H b) (ru : RelV u x) (rw' : RelV w y)
  (hk : ∀ c o, c ∉ ch -> s.heap.get? c = some o -> h'.get? c = some o) (hT : IsPair h' s.heap.objs.size x y) (hth : ∀ b ∈ ch, ∃ o, h'.get? b = some o) : Inv X pins σ (upd H s.heap.objs.size (.tup [u, w])) { s with heap := h' } := by
 have hfr : H s.heap.objs.size = none := I.fresh;have nch : ∀ b o, H b = some o -> b ∉ ch := fun b o e hb => by rw [(hf b hb).1] at e; cases e
 have ne : ∀ b o, s.heap.get? b = some o -> b ≠ s.heap.objs.size := fun b o e => Nat.ne_of_lt (Heap.lt_size e)
 refine I.step (g' := s.gens) (d' := s.drawn) (t' := s.toks) (ch := ch) (fun b hb => ⟨(hf b hb).2.2.2.1, (hf b hb).2.1, (hf b hb).2.2.2.2.1, (hf b hb).2.2.2.2.2⟩) (fun b o _ _ hc e _ => hk b o hc e)
  (fun b o _ _ hc e _ => ⟨o.slots, hk b o hc e⟩) (fun b o _ e n => by rw [upd_ne (ne b o e)]; exact n) (fun b o hc e => ⟨o, hk b o hc e⟩) (fun b xs e => by rw [upd_ne (ne_of_none e hfr)]; exact e)
  (fun b o v e => by rw [upd_ne (ne_of_none e hfr)]; exact e) (fun b ps e => ⟨#[], by rw [upd_ne (ne_of_none e hfr), e]; simp⟩) (fun m hm => ?_) (fun b o e => ?_) I.bare
 ·obtain ⟨o, es, ep, ho, r⟩ := hm
  exact ⟨o, es, ep, hk _ o (fun z => (hf _ z).2.1 rfl) ho, r⟩
 ·by_cases hb : b = s.heap.objs.size
  ·subst hb
   rw [upd_same] at e;cases e;refine ⟨by show 2 <= sizeLine; decide, [x, y], .cons ru (.cons rw' .nil), ⟨_, hT, rfl, _, rfl⟩⟩
  ·rw [upd_ne hb] at e
   refine (I.hok b o e).stay (fun c v hc q => hk c v ?_ q) (fun c q => by rw [upd_ne (ne_of_none q hfr)]; exact q) fun c xs q => by rw [upd_ne (ne_of_none q hfr)]; exact q
   rcases hc with rfl | hc
   ·exact nch _ _ e
   ·exact nch _ _ hc
theorem Inv.turnN {X : Cx} {pins : List (Addr × Obj)} {σ : St} {H : Hp} {s : Shared} {h' : Heap} {ch : List Addr} (I : Inv X pins σ H s) (hf : ∀ b ∈ ch, FpOk X pins H b)
  (hk : ∀ c o, c ∉ ch -> s.heap.get? c = some o -> h'.get? c = some o) : Inv X pins σ H { s with heap := h' } := by
 have nch : ∀ b o, H b = some o -> b ∉ ch := fun b o e hb => by rw [(hf b hb).1] at e; cases e
 refine I.step (g' := s.gens) (d' := s.drawn) (t' := s.toks) (ch := ch) (fun b hb => ⟨(hf b hb).2.2.2.1, (hf b hb).2.1, (hf b hb).2.2.2.2.1, (hf b hb).2.2.2.2.2⟩) (fun b o _ _ hc e _ => hk b o hc e)
  (fun b o _ _ hc e _ => ⟨o.slots, hk b o hc e⟩) (fun b o _ e n => n) (fun b o hc e => ⟨o, hk b o hc e⟩) (fun b xs e => e)
  (fun b o v e => e) (fun b ps e => ⟨#[], by rw [e]; simp⟩) (fun m hm => ?_) (fun b o e => ?_) I.bare
 ·obtain ⟨o, es, ep, ho, r⟩ := hm
  exact ⟨o, es, ep, hk _ o (fun z => (hf _ z).2.1 rfl) ho, r⟩
 ·refine (I.hok b o e).stay (fun c v hc q => hk c v ?_ q) (fun c q => q) fun c xs q => q
  rcases hc with rfl | hc
  ·exact nch _ _ e
  ·exact nch _ _ hc
theorem list_tracked {X : Cx} {pins : List (Addr × Obj)} {σ : St} {H : Hp} {s : Shared} {a b : Addr} {xs : List V} (I : Inv X pins σ H s) (h : SqL X.K H a xs) (hb : FpOk X pins H b) (hob : ∃ o, s.heap.get? b = some o /\ o.cls ≠ .type "list") : a ≠ b := by
 rintro rfl;obtain ⟨its, r, ⟨o, n, e, c, _⟩, _⟩ := I.list h;obtain ⟨o', e', c'⟩ := hob;rw [e] at e'; cases e';exact c' c
theorem turn_zip {P : Program} {w : World} {K : PySem.W.Frag} {elts : List Expr} {x1 : Nat} {tpos : Pos} (a b z TI TO i1 i2 : Addr) (D1 : TI ≠ z) (D2 : TO ≠ z) (D3 : i1 ≠ z) (D4 : i2 ≠ z) (D5 : TI ≠ TO) (D6 : TI ≠ i1) (D7 : TI ≠ i2) (D8 : TO ≠ i1) (D9 : TO ≠ i2) (D10 : i1 ≠ i2) :
  Turn P w K (.Tuple elts x1 tpos) (Itz K a b) [z, TI, TO, i1, i2] z (fun i h => IsZip h z TI TO .none /\ IsPair h TI (.ref i1) (.ref i2) /\ (∃ u v, IsPair h TO u v) /\ h.IsListIter i1 a i /\ h.IsListIter i2 b i) where
 mem := by simp
 obj := fun i h hq0 c hc => by
  obtain ⟨hz, hTI, ⟨u, v, hTO⟩, ⟨o1, e1, c1, d1⟩, ⟨o2, e2, c2, d2⟩⟩ := hq0;simp only [List.mem_cons, List.not_mem_nil, or_false] at hc;rcases hc with rfl | rfl | rfl | rfl | rfl
  ·exact ⟨_, hz, fun v z => nomatch z⟩
  ·exact ⟨_, hTI, fun v z => nomatch z⟩
  ·exact ⟨_, hTO, fun v z => nomatch z⟩
  ·exact ⟨_, e1, fun v z => by rw [d1] at z; cases z⟩
  ·exact ⟨_, e2, fun v z => by rw [d2] at z; cases z⟩
 keep := fun i h h' ⟨hz, hTI, ⟨u, v, hTO⟩, h1, h2⟩ k => ⟨k z (by simp) _ hz, k TI (by simp) _ hTI, ⟨u, v, k TO (by simp) _ hTO⟩, h1.at fun o e => k i1 (by simp) o e, h2.at fun o e => k i2 (by simp) o e⟩
 item := by
  rintro X hP hw hK hc i pins s σ H E I hf ⟨hz, hTI, ⟨ua, ub, hTO⟩, h1, h2⟩ ⟨xs, ys, x, y, hq1, hq2, hx, hy⟩;subst hP hw hK;obtain ⟨its1, rv1, p1, _⟩ := I.list hq1;obtain ⟨its2, rv2, p2, _⟩ := I.list hq2;obtain ⟨u1, hu1, ru1⟩ := rv1.get hx;obtain ⟨u2, hu2, ru2⟩ := rv2.get hy;have ob : ∀ c ∈ [z, TO, i1, i2], ∃ o, s.heap.get? c = some o /\ o.cls ≠ .type "list" := fun c hc => by
   obtain ⟨o1, e1, c1, d1⟩ := id h1;obtain ⟨o2, e2, c2, d2⟩ := id h2;simp only [List.mem_cons, List.not_mem_nil, or_false] at hc;rcases hc with rfl | rfl | rfl | rfl
   ·exact ⟨_, hz, by simp⟩
   ·exact ⟨_, hTO, by simp⟩
   ·exact ⟨_, e1, by rw [c1]; simp⟩
   ·exact ⟨_, e2, by rw [c2]; simp⟩
  have na : ∀ c ∈ [z, TO, i1, i2], a ≠ c := fun c hc => list_tracked I hq1 (hf c (by simp at hc ⊢; rcases hc with h | h | h | h <;> simp [h])) (ob c hc)
  have nb : ∀ c ∈ [z, TO, i1, i2], b ≠ c := fun c hc => list_tracked I hq2 (hf c (by simp at hc ⊢; rcases hc with h | h | h | h <;> simp [h])) (ob c hc)
  have D : ZipApart z TI TO i1 i2 a b := ⟨D1, D2, D3, D4, D5, D6, D7, D8, D9, D10, na z (by simp), na TO (by simp), na i1 (by simp), na i2 (by simp), nb z (by simp), nb TO (by simp), nb i1 (by simp), nb i2 (by simp)⟩;refine wpAny_pyNext_zip_item D hz hTI hTO h1 h2 p1.isList p2.isList (x := u1) (y := u2) (by simpa using hu1) (by simpa using hu2) fun h' a1 a2 a3 a4 a5 a6 hk => ?_
  have hf4 : ∀ c ∈ [z, TO, i1, i2], FpOk X pins H c := fun c hc => hf c (by simp at hc ⊢; rcases hc with h | h | h | h <;> simp [h])
  have hk' : ∀ c o, c ∉ [z, TO, i1, i2] -> s.heap.get? c = some o -> h'.get? c = some o := fun c o hc e => hk c o (fun q => hc (by simp [q])) (fun q => hc (by simp [q])) (fun q => hc (by simp [q])) (fun q => hc (by simp [q])) e
  have I1 : Inv X pins σ (upd H s.heap.objs.size (.tup [x, y])) { s with heap := h' } := I.turnT hf4 ru1 ru2 hk' a5 (fun c hc => by
   obtain ⟨o1, e1, _⟩ := id a3;obtain ⟨o2, e2, _⟩ := id a4;simp only [List.mem_cons, List.not_mem_nil, or_false] at hc;rcases hc with rfl | rfl | rfl | rfl
   ·exact ⟨_, a1⟩
   ·exact ⟨_, a2⟩
   ·exact ⟨_, e1⟩
   ·exact ⟨_, e2⟩)
  have hfr : H s.heap.objs.size = none := I.fresh;refine ⟨_, rfl, wpAny_letOwnedTupleGo_zip (s := { s with heap := h' }) a1 fun h'' z1 sb => ?_⟩;have hf5 : ∀ c ∈ [z, TI, TO, i1, i2], (upd H s.heap.objs.size (.tup [x, y])) c = none := fun c hc => by
   have lt : c < s.heap.objs.size := by
    obtain ⟨o1, e1, _⟩ := id h1;obtain ⟨o2, e2, _⟩ := id h2;simp only [List.mem_cons, List.not_mem_nil, or_false] at hc;rcases hc with rfl | rfl | rfl | rfl | rfl
    ·exact Heap.lt_size hz
    ·exact Heap.lt_size hTI
    ·exact Heap.lt_size hTO
    ·exact Heap.lt_size e1
    ·exact Heap.lt_size e2
   rw [upd_ne (Nat.ne_of_lt lt)]; exact (hf c hc).1
  have I2 : Inv X pins σ (upd H s.heap.objs.size (.tup [x, y])) { s with heap := h'' } := Inv.turnN (s := { s with heap := h' }) (ch := [z]) I1 (fun c hc => by
   have : c = z := by simpa using hc
   subst this;exact ⟨hf5 c (by simp), (hf c (by simp)).2⟩) (fun c o hc e => (sb.2 c (fun q => hc (by simp [q]))).trans e)
  refine ⟨.ref s.heap.objs.size, _, I2, rfl, ⟨_, x, y, fun zs hzs => by rw [I.list_inj hzs hq1]; exact hx, fun zs hzs => by rw [I.list_inj hzs hq2]; exact hy, hfr, rfl, rfl⟩, ⟨z1, ?_, ⟨u1, u2, ?_⟩, ?_, ?_⟩, hf5⟩
  ·exact (sb.2 TI D1).trans (hk' TI _ (by simp [D1, D5, D6, D7]) hTI)
  ·exact (sb.2 TO D2).trans a2
  ·exact a3.at fun o e => (sb.2 i1 D3).trans e
  ·exact a4.at fun o e => (sb.2 i2 D4).trans e
 done := by
  rintro X hP hw hK hc i pins s σ H E I hf ⟨hz, hTI, ⟨ua, ub, hTO⟩, h1, h2⟩ ⟨xs, ys, hq1, hq2, hend⟩;subst hP hw hK;obtain ⟨its1, rv1, p1, _⟩ := I.list hq1;obtain ⟨its2, rv2, p2, _⟩ := I.list hq2;have ob : ∀ c ∈ [z, TO, i1, i2], ∃ o, s.heap.get? c = some o /\ o.cls ≠ .type "list" := fun c hc => by
   obtain ⟨o1, e1, c1, d1⟩ := id h1;obtain ⟨o2, e2, c2, d2⟩ := id h2;simp only [List.mem_cons, List.not_mem_nil, or_false] at hc;rcases hc with rfl | rfl | rfl | rfl
   ·exact ⟨_, hz, by simp⟩
   ·exact ⟨_, hTO, by simp⟩
   ·exact ⟨_, e1, by rw [c1]; simp⟩
   ·exact ⟨_, e2, by rw [c2]; simp⟩
  have hf4 : ∀ c ∈ [z, TO, i1, i2], FpOk X pins H c := fun c hc => hf c (by simp at hc ⊢; rcases hc with h | h | h | h <;> simp [h])
  have na : ∀ c ∈ [z, TO, i1, i2], a ≠ c := fun c hc => list_tracked I hq1 (hf4 c hc) (ob c hc)
  have nb : ∀ c ∈ [z, TO, i1, i2], b ≠ c := fun c hc => list_tracked I hq2 (hf4 c hc) (ob c hc)
  have D : ZipApart z TI TO i1 i2 a b := ⟨D1, D2, D3, D4, D5, D6, D7, D8, D9, D10, na z (by simp), na TO (by simp), na i1 (by simp), na i2 (by simp), nb z (by simp), nb TO (by simp), nb i1 (by simp), nb i2 (by simp)⟩;have hl1 := rv1.length;have hl2 := rv2.length;refine wpAny_pyNext_zip_end (I.ok.hd hc) D hz hTI hTO h1 h2 p1.isList p2.isList (by rcases hend with h | h; (left; simp; omega); (right; simp; omega)) fun h' hk => ⟨rfl, ?_⟩
  exact I.turnN hf4 fun c o hc e => hk c o (fun q => hc (by simp [q])) (fun q => hc (by simp [q])) (fun q => hc (by simp [q])) (fun q => hc (by simp [q])) e
 self := fun _ _ _ _ _ ⟨hz, _⟩ h => wpAny_pyIter_zip hz h
noncomputable def iZip (K : PySem.W.Frag) (ta : TA) : TI := fun σ H R => ta σ H fun vs H1 => ∃ a b, vs = [.ref a, .ref b] /\ (∃ xs, SqL K H1 a xs) /\ (∃ ys, SqL K H1 b ys) /\ R (Itz K a b) H1
theorem pi_zip {X : Cx} {elts : List Expr} {x1 : Nat} {tpos : Pos} {a b : Expr} {ta : TA} {p pos : Pos} (hg : Gl X "zip") (hm : X.mg "zip" = none) (ha : PA X [a, b] ta) (hs : autoParam (starEach [a, b] X.env = [(false, eval a X.env), (false, eval b X.env)]) Ax4._auto_1) (hs2 : autoParam (starEach [b] X.env = [(false, eval b X.env)]) Ax4._auto_1) :
  PI X (.Tuple elts x1 tpos) (.Call (.Name "zip" p) [a, b] [] pos) (iZip X.K ta) := by
 intro pins s σ H R I h;refine Call_ (ld_blt I hg hm boot_zip (PyProof.Rows.callWith_type1 (thn (ha pos pins s σ H _ I h) fun us s1 ⟨vs, H1, I1, r1, q1⟩ => ?_) (by rw [hs, hs2]) (by rw [hs2]; rfl)));obtain ⟨l1, l2, e, ⟨xs, hq1⟩, ⟨ys, hq2⟩, q⟩ := q1;subst e;cases r1 with
 | cons r rr =>
  cases rr with
  | cons r' rr =>
   cases rr;cases r;cases r';obtain ⟨its1, rv1, p1, _⟩ := I1.list hq1;obtain ⟨its2, rv2, p2, _⟩ := I1.list hq2;refine call_zip_2 p1.isList p2.isList fun h' hz hTI hTO h1 h2 hsz hk => ?_
   have I2 : Inv X pins σ H1 { s1 with heap := h' } := I1.kept (t' := s1.toks) hk;refine wpAny_pyIter_zip (s := { s1 with heap := h' }) hz ?_;have lt : ∀ k : Nat, s1.heap.objs.size <= s1.heap.objs.size + k := fun k => Nat.le_add_right _ _
   refine ⟨_, [s1.heap.objs.size + 4, s1.heap.objs.size + 2, s1.heap.objs.size + 3, s1.heap.objs.size, s1.heap.objs.size + 1], _, _, H1, rfl, I2,
    turn_zip l1 l2 (s1.heap.objs.size + 4) (s1.heap.objs.size + 2) (s1.heap.objs.size + 3) s1.heap.objs.size (s1.heap.objs.size + 1) ?_ ?_ ?_ ?_ ?_ ?_ ?_ ?_ ?_ ?_, ⟨hz, hTI, ⟨_, _, hTO⟩, h1, h2⟩, fun c hc => ?_, q⟩
   all_goals first
    | (show _ + _ ≠ _ + _; intro z; exact absurd (Nat.add_left_cancel z) dC)
    | (show _ ≠ _ + _; intro z; exact absurd z (by have := Nat.lt_add_of_pos_right (n := s1.heap.objs.size) (k := 4) dC; have := Nat.lt_add_of_pos_right (n := s1.heap.objs.size) (k := 1) dC; exact Nat.ne_of_lt (by assumption)))
    | (show _ + _ ≠ _; exact Nat.ne_of_gt (Nat.lt_add_of_pos_right dC))
    | skip
   have hle : s1.heap.objs.size <= c := by
    simp only [List.mem_cons, List.not_mem_nil, or_false] at hc;rcases hc with rfl | rfl | rfl | rfl | rfl
    ·exact lt 4
    ·exact lt 2
    ·exact lt 3
    ·exact Nat.le_refl _
    ·exact lt 1
   obtain ⟨f0, f1, f2, f3, f4, f5⟩ := I1.fpOk hle (I1.hok.fresh hle);exact ⟨f0, f1, f2, f3, f4, f5⟩
end L2
namespace DD
open PySem PySem.Spec PyProof.Rows L2
noncomputable def iZipD (c c' : DE) : DI := fun σ => (c σ).bind fun p => (c' p.2).bind fun q => match p.1, q.1 with
 | .lst _ xs, .lst _ ys => some (((D.fzL xs).zip (D.fzL ys)).map fun z => .tup [z.1, z.2], q.2)
 | _, _ => none
theorem itd_zip {K : PySem.W.Frag} {F : Addr -> Prop} {H : Hp} {xs ys : List D} {a b : Addr} {vs ws : List V} (fl : FL K F H a vs) (ol : OwL K F H xs vs []) (fl' : FL K F H b ws) (ol' : OwL K F H ys ws []) :
  ItD K (Itz K a b) ((xs.zip ys).map fun z => .tup [z.1, z.2]) F H where
 item := fun i d F1 H1 x1 dm e => by
  rw [List.getElem?_map] at e;rcases hz : (xs.zip ys)[i]? with _ | ⟨x, y⟩
  ·rw [hz] at e; cases e
  ·rw [hz] at e; cases e
   obtain ⟨hx, hy⟩ := List.getElem?_zip_eq_some.mp hz;obtain ⟨u, La, Lx, Lb, e1, eL, o1, _⟩ := ol.kid hx;have eLx : Lx = [] := (List.append_eq_nil_iff.mp (List.append_eq_nil_iff.mp eL.symm).1).2;subst eLx;obtain ⟨w, La', Lx', Lb', e2, eL', o2, _⟩ := ol'.kid hy;have eLx' : Lx' = [] := (List.append_eq_nil_iff.mp (List.append_eq_nil_iff.mp eL'.symm).1).2;subst eLx';refine ⟨⟨vs, ws, u, w, (fl.ext x1).sq, (fl'.ext x1).sq, e1, e2⟩, fun v H2 ⟨p, u', w', h1, h2, hp, hH, hv⟩ => ?_⟩;subst hH hv;have h1' := h1 vs (fl.ext x1).sq;rw [e1] at h1'; cases h1';have h2' := h2 ws (fl'.ext x1).sq;rw [e2] at h2'; cases h2';have nF : ∀ c, F1 c -> c ≠ p := fun c fc z => by obtain ⟨o, h⟩ := dm c fc; rw [z, hp] at h; cases h
   have gr : Grow F1 H1 (fun c => F1 c \/ c = p) (upd H1 p (.tup [u, w])) := by
    refine ⟨fun c fc => ⟨.inl fc, upd_ne (nF c fc)⟩, fun c o e => by rw [upd_ne (ne_of_none e hp)]; exact e, fun c fc => ?_, fun _ c fc => ?_⟩
    ·rcases fc with fc | fc
     ·exact .inl fc
     ·exact .inr (fc ▸ hp)
    ·rcases fc with fc | fc
     ·rw [upd_ne (nF c fc)]; exact dm c fc
     ·subst fc; exact ⟨_, upd_same⟩
   refine ⟨_, gr, ?_⟩;simp only [Ow, OwL];refine ⟨p, [u, w], rfl, .inl ⟨.inr rfl, upd_same⟩, u, [w], [], [], rfl, (o1.mono x1 (fun a ha => by cases ha)).mono gr.x (fun a ha => by cases ha), ⟨w, [], [], [], rfl, (o2.mono x1 (fun a ha => by cases ha)).mono gr.x (fun a ha => by cases ha), ⟨rfl, rfl⟩, rfl⟩, rfl⟩
 done := fun F1 H1 x1 => ⟨vs, ws, (fl.ext x1).sq, (fl'.ext x1).sq, by
  have h1 := ol.length;have h2 := ol'.length;simp only [List.length_map, List.length_zip];omega⟩
section
variable {X : Cx} {a b o e : Expr} {c c' : DE} {p p1 pos1 : Pos} {elts : List Expr} {x1 : Nat} {tpos pos : Pos}
theorem qi_zip (hgl : Gl X "zip") (hm : X.mg "zip" = none) (ha : QE X a c) (hb : QE X b c') (hs : autoParam (starEach [a, b] X.env = [(false, eval a X.env), (false, eval b X.env)]) Ax4._auto_1) (hs2 : autoParam (starEach [b] X.env = [(false, eval b X.env)]) Ax4._auto_1) :
  QI X (.Tuple elts x1 tpos) (.Call (.Name "zip" p1) [a, b] [] pos1) (iZipD c c') := PI_imp (pi_zip hgl hm (pa_cons ha (pa_cons hb pa_nil hs2) (by rw [hs, hs2])) hs hs2) fun σ H R hq0 => by
 obtain ⟨F, Ro, σD, xs, σD', r, ec, k⟩ := hq0;unfold iZipD at ec;rcases h1 : c σD with _ | ⟨x, σ1⟩
 ·rw [h1] at ec; cases ec
 ·rw [h1] at ec; simp only [bind_some] at ec
  rcases h2 : c' σ1 with _ | ⟨y, σ2⟩
  ·rw [h2] at ec; cases ec
  ·rw [h2] at ec; simp only [bind_some] at ec
   split at ec
   ·cases ec
    refine ⟨F, Ro, σD, _, σ1, r, h1, fun F1 H1 v x1 r1 => ?_⟩;refine ⟨F1, _, σ1, _, _, r1, h2, fun F2 H2 u x2 r2 => ?_⟩;obtain ⟨F3, x3, r3, o3⟩ := r2.freeze;obtain ⟨F4, x4, r4, o4⟩ := (r3.pop).freeze;have o3' := o3.mono x4 (fun a ha => by cases ha);simp only [D.fz, Ow] at o3' o4;obtain ⟨a1, vs, rfl, fl, ol, _⟩ := o4;obtain ⟨a2, ws, rfl, fl', ol', _⟩ := o3';exact ⟨a1, a2, rfl, ⟨vs, fl.sq⟩, ⟨ws, fl'.sq⟩, k F4 H2 _ ((x1.trans x2).trans (x3.trans x4)) r4.pop (itd_zip fl ol fl' ol')⟩
   ·cases ec
theorem zip_get {xs : List D} {vs : List V} {j : Nat} {x : D} {w : V} (h1 : xs[j]? = some x) (h2 : vs[j]? = some w) : (x, w) ∈ xs.zip vs := by
 have : (xs.zip vs)[j]? = some (x, w) := List.getElem?_zip_eq_some.mpr ⟨h1, h2⟩;exact List.mem_of_getElem? this
theorem Rel.pick {K : PySem.W.Frag} {F : Addr -> Prop} {H : Hp} {σD : DSt} {σ : St} {R S : Ro} {x : D} {w : V} (r : Rel K F H σD σ (S ++ R)) (h : (x, w) ∈ S) : Rel K F H σD σ ((x, w) :: R) := by
 obtain ⟨A, B, rfl⟩ := List.append_of_mem h;have r1 : Rel K F H σD σ ((A ++ B) ++ ((x, w) :: R)) := r.perm (by
  have h1 : A ++ (x, w) :: B ++ R = A ++ ((x, w) :: (B ++ R)) := by simp
  rw [h1, List.append_assoc];exact (List.perm_middle.symm).append_left A)
 exact r1.popN
theorem qe_ix (ha : QE X a c) (hb : QE X b c') (hs : autoParam (PlainIx b) Ax8._auto_1) : QE X (.Subscript a b pos) (dIx c c') := PE_imp (pe_ix ix_seq ha hb hs) fun σ H Q hq0 => by
 obtain ⟨F, R, σD, d, σD', r, ec, k⟩ := hq0;unfold dIx at ec;rcases h1 : c σD with _ | ⟨x, σ1⟩
 ·rw [h1] at ec; cases ec
 ·rw [h1] at ec; simp only [bind_some] at ec
  rcases h2 : c' σ1 with _ | ⟨y, σ2⟩
  ·rw [h2] at ec; cases ec
  ·rw [h2] at ec; simp only [bind_some] at ec
   obtain ⟨z, e1, e2⟩ := map_pair ec;cases e2;refine ⟨F, R, σD, x, σ1, r, h1, fun F1 H1 v x1 r1 => ?_⟩;refine ⟨F1, _, σ1, y, _, r1, h2, fun F2 H2 u x2 r2 => ?_⟩;have bu := r2.bor (d := y) (v := u) (by simp);have r3 := r2.pop;unfold ixD at e1;split at e1
   ·rename_i own xs i
    obtain ⟨j, hj, hx⟩ := atI_ix e1;cases own
    ·obtain ⟨L, ⟨L1, L2, o1, h12, _⟩, _, _⟩ := r3.front.own
     simp only [Ow] at o1;obtain ⟨a1, vs, rfl, fl, ol, _⟩ := o1;obtain ⟨w, La, Lx, Lb, ew, eL, ox, _⟩ := ol.kid hx;have eLx : Lx = [] := (List.append_eq_nil_iff.mp (List.append_eq_nil_iff.mp eL.symm).1).2;subst eLx;refine .inl ⟨a1, vs, i, w, rfl, bu.int, fl.sq, ?_, k F2 H2 w (x1.trans x2) (r3.pop.push ox)⟩;unfold atI; rw [ol.length, hj]; exact ew
    ·obtain ⟨a1, vs, rfl, hh, hl, r4⟩ := r3.openL
     have hjl : j < vs.length := by rw [<- hl]; exact (List.getElem?_eq_some_iff.mp hx).1
     have ew := List.getElem?_eq_getElem hjl;refine .inl ⟨a1, vs, i, vs[j], rfl, bu.int, .inl (.inl hh), ?_, k F2 H2 _ (x1.trans x2) (r4.pop.pick (zip_get hx ew))⟩;unfold atI; rw [<- hl, hj]; exact ew
   ·rename_i xs i
    obtain ⟨j, hj, hx⟩ := atI_ix e1;obtain ⟨a1, vs, rfl, ft, hl, r4⟩ := r3.openT;have hjl : j < vs.length := by rw [<- hl]; exact (List.getElem?_eq_some_iff.mp hx).1
    have ew := List.getElem?_eq_getElem hjl;refine .inr (.inl ⟨a1, vs, i, vs[j], rfl, bu.int, ft.sq, ?_, k F2 H2 _ (x1.trans x2) (r4.pick (zip_get hx ew))⟩);unfold atI; rw [<- hl, hj]; exact ew
   ·split at e1
    ·rename_i z2 i hz
     rcases h : atI z2.cps.toList i with _ | ch
     ·rw [h] at e1; cases e1
     ·rw [h] at e1; cases e1
      exact .inr (.inr ⟨z2, i, ch, (r3.bor (by simp)).str, bu.int, hz, h, k F2 H2 _ (x1.trans x2) (r3.pop.scal rfl)⟩)
    ·cases e1
   ·cases e1
end
end DD
namespace L2
open PySem PySem.Spec PyProof.Rows
theorem get_list {X : Cx} : PGet X (fun o i H Q => ∃ p xs k v, o = .ref p /\ i = .int k /\ SqL X.K H p xs /\ atI xs k = some v /\ Q v H) := by
 rintro pins s σ H o i ov iv Q I ro ri ⟨p, xs, k, v, e1, e2, hq, he, q⟩;subst e1 e2;cases ro;obtain ⟨t, rfl⟩ := ri;obtain ⟨its, r, pl, hz⟩ := I.list hq;obtain ⟨j, h1, h2, h3, h4, h5⟩ := atI_get he;obtain ⟨w, ew, rw'⟩ := r.get h2;have hl := r.length;have hn := line63;have fin : EP X pins σ Q w s := ⟨v, H, I, rw', q⟩;by_cases h0 : 0 <= k
 ·have hj : k.toNat = j := by
   rw [seqIndex_of h0 h5] at h1;exact Option.some.inj h1
  exact wpAny_getItem_list pl.isList h0 oM (by rw [hj]; simpa using ew) fin
 ·have hj : (k + (its.toArray.size : Int)).toNat = j := by
   rw [seqIndex_neg oM h4] at h1;rw [List.size_toArray, <- hl];exact Option.some.inj h1
  exact wpAny_getItem_list_neg pl.isList oM (by rw [List.size_toArray] <;> omega) oM (by rw [hj]; simpa using ew) fin
end L2
namespace DD
open PySem PySem.Spec PyProof.Rows L2
section
variable {X : Cx} {o a e tg : Expr} {q p : DP} {c : DE} {g : D -> D -> Option D} {i : Nat} {js : List DP} {pos tpos : Pos} {op : Operator}
theorem oi_add : OpS X (inplaceOp .Add) (gI0 fun i j => i + j) := opS_I0 iop_add
noncomputable def sAugIx (g : D -> D -> Option D) (i : Nat) (js : List DP) (q p : DP) : DS := fun σ => (dget σ i).bind fun t => (evI js σ).bind fun path => (getP t path).bind fun n => match n with
 | .lst true xs => (q σ).bind fun kk => match kk with
  | .int k => (ixN xs.length k).bind fun j => (xs[j]?).bind fun x => match x.sc with
   | some _ => (p σ).bind fun y => (g x y).map fun z => .nx (σ.set i (some (setP t path (.lst true (xs.set j z)))))
   | none => none
  | _ => none
 | _ => none
theorem qs_augS (hop : OpS X (inplaceOp op) g) (ho : QP X o i js) (hq : QB X a q) (he : QB X e p)
  (ha : autoParam (∀ ov iv new, augStore a ov iv new = (do holding [new, ov, iv] (setItem ov iv new); release [new, ov, iv] []; pure .next)) Ax5._auto_1) : QS X (.AugAssign (.Subscript o a tpos) op e pos) (sAugIx g i js q p) [] :=
 PS_imp (ps_augS ho hq get_list he hop.run set_list ha) fun En σ H hq0 => by
  obtain ⟨F, R, σD, out, r, ec, kk⟩ := hq0;unfold sAugIx at ec;rcases h1 : dget σD i with _ | t
  ·rw [h1] at ec; cases ec
  ·rw [h1] at ec; simp only [bind_some] at ec
   rcases h2 : evI js σD with _ | path
   ·rw [h2] at ec; cases ec
   ·rw [h2] at ec; simp only [bind_some] at ec
    rcases h3 : getP t path with _ | n
    ·rw [h3] at ec; cases ec
    ·rw [h3] at ec; simp only [bind_some] at ec
     split at ec
     ·rename_i xs
      rcases h4 : q σD with _ | ky
      ·rw [h4] at ec; cases ec
      ·rw [h4] at ec; simp only [bind_some] at ec
       split at ec
       ·rename_i k
        rcases h5 : ixN xs.length k with _ | j
        ·rw [h5] at ec; cases ec
        ·rw [h5] at ec; simp only [bind_some] at ec
         rcases h6 : xs[j]? with _ | x
         ·rw [h6] at ec; cases ec
         ·rw [h6] at ec; simp only [bind_some] at ec
          rcases h7 : x.sc with _ | xw
          ·rw [h7] at ec; cases ec
          ·rw [h7] at ec; simp only at ec
           rcases h8 : p σD with _ | y
           ·rw [h8] at ec; cases ec
           ·rw [h8] at ec; simp only [bind_some] at ec
            rcases h9 : g x y with _ | z
            ·rw [h9] at ec; cases ec
            ·rw [h9] at ec; cases ec
             obtain ⟨zw, hzw⟩ := hop.sc _ _ _ h9;obtain ⟨v0, hv0, r0⟩ := r.take (dget_some h1);obtain ⟨l0, vs0, lc0, hl0, hlen0, _⟩ := Rel.listAt (S := []) r0 h3;refine ⟨F, R, σD, v0, path, .ref l0, r, hv0, h2, lc0, fun F1 H1 g1 => ?_⟩;refine ⟨F1, R, σD, _, r.grow g1, h4, fun F2 H2 u g2 b2 => ?_⟩;have g3 := g1.trans g2
             -- what stands there
             have look : ∀ F' H', Grow F H F' H' -> ∃ vs, H' l0 = some (.lst vs) /\ xs.length = vs.length /\ vs[j]? = some xw /\ ∀ (d : D) (w : V), d.sc = some w -> Rel X.K F' (upd H' l0 (.lst (vs.set j w))) (σD.set i (some (setP t path (.lst true (xs.set j d))))) σ R /\ Ext F' H' F' (upd H' l0 (.lst (vs.set j w))) := fun F' H' gr => by
              obtain ⟨v1, hv1, r1⟩ := (r.grow gr).take (dget_some h1);rw [hv0] at hv1; cases hv1;obtain ⟨l, vs, lc, hl, hlen, _⟩ := Rel.listAt (S := []) r1 h3;have el : l0 = l := by
               have := (lc0.grow gr.k).uniq lc
               injection this
              subst el;refine ⟨vs, hl, hlen, ?_, fun d w hw => ?_⟩
              ·have hjl : j < vs.length := by rw [<- hlen]; exact (List.getElem?_eq_some_iff.mp h6).1
               obtain ⟨L, ⟨L1, L2, o1, _⟩, _⟩ := r1.front.own;obtain ⟨l', La, Lx, Lb, lc', _, ⟨vs', hl', ol'⟩, _⟩ := o1.focus h3;have el : l0 = l' := by
                have := lc.uniq lc'
                injection this
               subst el;rw [hl] at hl'; cases hl';obtain ⟨w2, e2, b2⟩ := ol'.get h6;rw [e2, b2.sc h7]
              ·have r2 : Rel X.K F' H' (σD.set i none) σ ((t, v0) :: ([(d, w)] ++ R)) := (r1.scal (d := d) hw).perm (.swap _ _ _)
               obtain ⟨l2, vs2, lc2, hl2, hlen2, upd2⟩ := r2.listAt h3;have el : l0 = l2 := by
                have := lc.uniq lc2
                injection this
               subst el;rw [hl] at hl2; cases hl2;have hj : j < xs.length := (ixN_seq h5).2.1;obtain ⟨xo, wo, pm⟩ := zip_set (d := d) (v := w) hlen hj;obtain ⟨r3, x3⟩ := upd2 (xs.set j d) (vs.set j w) [(xo, wo)] pm (by simp [hlen]);have r4 := (Rel.put (R := (xo, wo) :: R) r3 hv0);rw [List.set_set] at r4;exact ⟨r4.pop, x3⟩
             obtain ⟨vs, hl, hlen, hx, _⟩ := look F2 H2 g3;refine ⟨l0, vs, k, xw, rfl, b2.int, .inl (.inl hl), by unfold atI; rw [<- hlen, h5]; exact hx, ?_⟩;refine ⟨F2, R, σD, y, r.grow g3, h8, fun F3 H3 uy g4 b4 => ?_⟩;refine ⟨F3, x, y, z, zw, ⟨[], Ow.of_sc h7⟩, b4, h9, hzw, ?_⟩;obtain ⟨vs3, hl3, hlen3, _, up3⟩ := look F3 H3 (g3.trans g4);obtain ⟨r5, x5⟩ := up3 z zw hzw;refine ⟨l0, vs3, k, j, rfl, b2.int, hl3, by rw [<- hlen3]; exact h5, ?_⟩;exact kk F3 _ σ ((g3.trans g4).x.trans x5) Kp.refl r5
       ·cases ec
     ·cases ec
end
section
variable {X : Cx} {tg : Expr} {g : DG} {s : DS} {pos : Pos} {W W' : List Nat} {body : List Stmt}
end
noncomputable abbrev gAdd : D -> D -> Option D := gI0 fun i j => i + j
noncomputable abbrev gSub : D -> D -> Option D := gI0 fun i j => i - j
noncomputable abbrev gAnd : D -> D -> Option D := gI0 Builtin.bitAnd
noncomputable abbrev gOr : D -> D -> Option D := gI0 Builtin.bitOr
noncomputable abbrev gMod : D -> D -> Option D := gI (fun _ j => decide (0 < j)) fun i j => i % j
noncomputable def fdvC (_ j : Int) : Bool := decide (0 < j /\ j.natAbs.log2 < 9000)
noncomputable abbrev gFdv : D -> D -> Option D := gI fdvC fun i j => i / j
theorem o_fdv {X : Cx} : OpS X (binaryOp .FloorDiv) gFdv := opS_I (C := fun _ j => 0 < j /\ j.natAbs.log2 < 9000) (opI fun i j _ _ _ _ _ hc q => by
 have h1 : (0 : Int) < j := hc.1;exact floordiv_int oM (by rw [Int.fdiv_eq_ediv_of_nonneg i oM]; exact q) (.inl (PyProof.noPylong_of_log2 hc.2))) fun i j h => by simpa [fdvC] using h
noncomputable abbrev gPow : D -> D -> Option D := gI (fun i j => decide (0 <= j /\ j <= 1000000 /\ i.natAbs < 2 ^ 64)) fun i j => i ^ j.toNat
noncomputable abbrev gShl : D -> D -> Option D := gI (fun i j => decide (0 <= j /\ j <= 1000000 /\ i.natAbs < 2 ^ 64)) fun i j => i * 2 ^ j.toNat
noncomputable abbrev gShr : D -> D -> Option D := gI (fun _ j => decide (0 <= j)) fun i j => i / 2 ^ j.toNat
noncomputable def mulC (i j : Int) : Bool := decide ((-(2 ^ 64) < i /\ i < 2 ^ 64) \/ (-(2 ^ 64) < j /\ j < 2 ^ 64))
noncomputable abbrev gMul : D -> D -> Option D := gI mulC fun i j => i * j
theorem o_mul {X : Cx} : OpS X (binaryOp .Mult) gMul := opS_I op_mul fun i j h => by simpa [mulC, CMul] using h
noncomputable abbrev gLt : D -> D -> Option D := gB0 fun i j => decide (i < j)
noncomputable abbrev gGt : D -> D -> Option D := gB0 fun i j => decide (j < i)
noncomputable abbrev gGe : D -> D -> Option D := gB0 fun i j => decide (j <= i)
noncomputable def cyChk (N N' : List Str) (names : List (Str × NameKind)) (kd : Str -> Option NameKind) : Bool :=
 decide ((names.map (·.1)).Nodup) && decide (N.length <= N'.length) && names.all (fun p => p.2 != .free || kd p.1 == some .cell || kd p.1 == some .free) &&
  (List.range N.length).all fun i => match N'[i]? with
   | none => true
   | some x => match names.lookup x with
    | none => true
    | some k => k == .free && N[i]? == some x
theorem cy_of {X : Cx} {N' : List Str} {scope : Scope} (hk : scope.kind = .function) (h : cyChk X.N N' scope.names X.env.kindOf = true) : CyOk X N' scope := by
 unfold cyChk at h;simp only [Bool.and_eq_true, decide_eq_true_eq] at h;obtain ⟨⟨⟨h1, h2⟩, h3⟩, h4⟩ := h;have look : ∀ i x, i < X.N.length -> N'[i]? = some x -> (∃ k, (x, k) ∈ scope.names) -> (x, NameKind.free) ∈ scope.names /\ X.N[i]? = some x := fun i x hi e hq0 => by
  obtain ⟨k, hm⟩ := hq0
  have := List.all_eq_true.mp h4 i (List.mem_range.mpr hi)
  rw [e] at this;simp only at this;rw [lookup_mem h1 hm] at this;simp only [Bool.and_eq_true, beq_iff_eq] at this;obtain ⟨e1, e2⟩ := this;subst e1;exact ⟨hm, e2⟩
 refine ⟨hk, h1, h2, fun x hx => ?_, fun i x hi e hx => (look i x hi e ⟨_, hx⟩).2, fun i x hi e hx => (look i x hi e hx).1⟩
 have := List.all_eq_true.mp h3 _ hx
 simp at this;exact this
theorem qb_glob {X : Cx} {x : Str} {i : Int} {pos : Pos} (hg : Gl X x) (hm : ∃ t, X.mg x = some (.int i t)) (hd : autoParam ((x == ("__debug__" : Str)) = false) Ax1._auto_1) : QB X (.Name x pos) (pC (.int i)) := by
 obtain ⟨t, hm⟩ := hm;exact PE_imp (pe_glob (v := .int i) hg hm ⟨t, rfl⟩ hd) fun σ H Q hq0 => by obtain ⟨F, R, σD, d, r, ec, k⟩ := hq0; cases ec; exact k F H _ Grow.refl ⟨[], Ow.of_sc rfl⟩
section
variable {X : Cx} {es : List Expr} {ps : List DP} {pos : Pos}
theorem OwL.ofBor {K : PySem.W.Frag} {F : Addr -> Prop} {H : Hp} : ∀ {ds : List D} {vs : List V}, BorL K F H ds vs -> ∃ L, OwL K F H ds vs L
 | [], [], _ => ⟨[], by simp only [OwL]; exact ⟨trivial, trivial⟩⟩
 | d :: ds, v :: vs, ⟨⟨L1, o⟩, r⟩ => by
  obtain ⟨L2, ol⟩ := OwL.ofBor r;exact ⟨L1 ++ L2, by simp only [OwL]; exact ⟨v, vs, L1, L2, rfl, o, ol, rfl⟩⟩
noncomputable def pLst (ps : List DP) : DP := fun σ => (evB ps σ).bind fun ds => if ds.length <= sizeLine then some (.lst true ds) else none
theorem qb_lst (h : QBA X es ps) : QB X (.List es pos) (pLst ps) := PE_imp (pe_lst h) fun σ H Q hq0 => by
 obtain ⟨F, R, σD, d, r, ec, k⟩ := hq0;unfold pLst at ec;rcases h1 : evB ps σD with _ | ds
 ·rw [h1] at ec; cases ec
 ·rw [h1] at ec; simp only [bind_some] at ec
  split at ec
  ·rename_i hz
   cases ec;refine ⟨F, R, σD, ds, r, h1, fun F1 H1 vs g1 b1 => ?_⟩;obtain ⟨L, ol⟩ := OwL.ofBor b1;refine ⟨by rw [ol.length]; exact hz, fun p hp => ?_⟩;have nF : ∀ c, F1 c -> c ≠ p := fun c fc z => by
    obtain ⟨o, h⟩ := g1.dm r.g.dom c fc;rw [z, hp] at h; cases h
   have gr : Grow F1 H1 F1 (upd H1 p (.lst vs)) := ⟨fun c fc => ⟨fc, upd_ne (nF c fc)⟩, fun c o e => by rw [upd_ne (ne_of_none e hp)]; exact e, fun c fc => .inl fc, fun dm c fc => by rw [upd_ne (nF c fc)]; exact dm c fc⟩;refine k F1 _ _ (g1.trans gr) ⟨p :: L, ?_⟩;simp only [Ow];exact ⟨p, vs, L, rfl, upd_same, ol.mono gr.x fun c hc => by
    obtain ⟨o, e⟩ := ol.dom c hc;rw [upd_ne (ne_of_none e hp)], rfl⟩
  ·cases ec
end
theorem dS_some {p : DP} {σ σ' : DSt} {d : D} (h : dS p σ = some (d, σ')) : p σ = some d /\ σ' = σ /\ ∃ w, d.sc = some w := by
 unfold dS at h;rcases hp : p σ with _ | x
 ·rw [hp] at h; cases h
 ·rw [hp] at h
  simp only [bind_some] at h;rcases hs : x.sc with _ | w
  ·rw [hs] at h; cases h
  ·rw [hs] at h; cases h
   exact ⟨rfl, rfl, w, hs⟩
theorem qt_cmpB {X : Cx} {a b : Expr} {p q : DP} {pos : Pos} {op : CmpOp} {g : D -> D -> Option D} (o : OpS X (compareOp op) g) (ha : QB X a p) (hb : QB X b q) (hm : behindInMarks op b = false) : QT X (.Compare a [op] [b] pos) (dTest (dS (pOp g p q))) :=
 PT_imp (pt_cmpR o.run ha hb hm) fun σ H Q hq0 => by
  obtain ⟨F, R, σD, k, σD', r, ec, kk⟩ := hq0;obtain ⟨e1, e2, w, hw⟩ := dS_some (dTest_some ec);subst e2;show tOp _ _ _ σ H _;exact rOpB o ⟨F, R, _, _, r, e1, fun F' H' v g' b' => ⟨k, b'.bl, kk F' H' g'.x (r.grow g')⟩⟩
section
variable {X : Cx} {e tg elt iter : Expr} {ifs : List Expr} {g : DG} {t : DT} {c : DE} {i : DI} {pos : Pos} {W : List Nat} {scope : Scope} {k : Nat}
theorem lc_e (N' : List Str) (hi : QI X tg iter i) (hg : ∀ cl s H fp pins, QG (cyOf X N' scope cl s H fp pins) tg g W) (ht : ∀ cl s H fp pins, QIf (cyOf X N' scope cl s H fp pins) ifs t)
  (he : ∀ cl s H fp pins, QE (cyOf X N' scope cl s H fp pins) elt c) (hk : autoParam (N'.length - X.N.length = k) Ax4._auto_1) (hw : autoParam ((W.all fun i => decide (X.N.length <= i)) = true) Ax4._auto_1) (hc : autoParam (X.calm = true) Ax4._auto_1) (hkd : autoParam (scope.kind = .function) Ax4._auto_1) (T : autoParam (cyChk X.N N' scope.names X.env.kindOf = true) Ax4._auto_1) (hs : autoParam (∀ x, foldedSetIterable iter X.env x = pure x) Ax3._auto_1) :
  QE X (.ListComp elt [⟨tg, iter, ifs, 0⟩] scope pos) (dLc k i g t c) := by
 subst hk;exact qe_lc hc (cy_of hkd T) hi hg ht he (fun j hj => by simpa using List.all_eq_true.mp hw j hj) hs
theorem lc_s (ix : Nat) (N' : List Str) {y : Str} {py spos : Pos} (hN : X.N.Nodup) (hi : QI X tg iter i) (hg : ∀ cl s H fp pins, QG (cyOf X N' scope cl s H fp pins) tg g W) (ht : ∀ cl s H fp pins, QIf (cyOf X N' scope cl s H fp pins) ifs t)
  (he : ∀ cl s H fp pins, QE (cyOf X N' scope cl s H fp pins) elt c) (hk : autoParam (N'.length - X.N.length = k) Ax4._auto_1) (hw : autoParam ((W.all fun i => decide (X.N.length <= i)) = true) Ax4._auto_1) (hc : autoParam (X.calm = true) Ax4._auto_1) (hkd : autoParam (scope.kind = .function) Ax4._auto_1) (T : autoParam (cyChk X.N N' scope.names X.env.kindOf = true) Ax4._auto_1)
  (hsw : autoParam (swapsWith (.ListComp elt [⟨tg, iter, ifs, 0⟩] scope pos) (some (.Name y py)) spos.line X.env = pure true) Ax4._auto_1)
  (hiN : autoParam (X.N[ix]? = some y) Ax4._auto_1) (hx : autoParam (Loc X.env.scope y) Ax9._auto_1) (hs : autoParam (∀ x, foldedSetIterable iter X.env x = pure x) Ax3._auto_1) (hf : autoParam (X.fn y = true \/ X.env.scope.names.lookup y = some .local) Ax0._auto_1) :
  QS X (.Assign [.Name y py] (.ListComp elt [⟨tg, iter, ifs, 0⟩] scope pos) spos) (sSet ix (dLc k i g t c)) [ix] := by
 subst hk;exact qs_set_lc ix hN hc (cy_of hkd T) hi hg ht he (fun j hj => by simpa using List.all_eq_true.mp hw j hj) hsw hiN hx hs hf
end
section
variable {K : PySem.W.Frag} {F F' : Addr -> Prop} {H H' : Hp}
end
section
variable {X : Cx} {s : DS} {pos : Pos} {W' : List Nat} {body : List Stmt}
end
section
variable {X : Cx} {elt : Expr} {ifs : List Expr} {t : DT} {c : DE} {pos : Pos} {scope : Scope}
end
theorem law_sp {K : PySem.W.Frag} {H : Hp} {a : Addr} {ns : List Int} {g : GF} {E : XK} (hg : ∃ d, g [.lst false (ns.map D.int)] = some (.bl true, [d])) (hS : SqL K H a (ns.map V.int)) : spD K 1 g [.ref a] H (fun v _ => v = .bl true) E := by
 obtain ⟨d, hd⟩ := hg;refine ⟨rfl, fun c => ∃ o, H c = some o, [], [.lst false (ns.map D.int)], .bl true, [d], rfl, ⟨⟨[], ?_, List.nodup_nil, fun c hc => by cases hc⟩, fun c hc => hc⟩, hd, fun F' H' v x _ g => ?_⟩
 ·have ol : ∀ ms : List Int, OwL K (fun c => ∃ o, H c = some o) H (ms.map D.int) (ms.map V.int) [] := by
   intro ms
   induction ms with
   | nil => simp only [List.map_nil, OwL]; exact ⟨trivial, trivial⟩
   | cons m ms ih => simp only [List.map_cons, OwL]; exact ⟨_, _, [], [], rfl, Ow.of_sc rfl, ih, rfl⟩
  refine ⟨[], [], ?_, rfl, rfl⟩;simp only [Ow];refine ⟨a, ns.map V.int, rfl, ?_, ol ns, trivial⟩;rcases hS with h | h
  ·refine .inl ⟨?_, h⟩
   rcases h with h | ⟨o, h⟩ <;> exact ⟨_, h⟩
  ·exact .inr fun H' => .inr h
 ·exact (g.bor (d := .bl true) (v := v) (by simp)).bl
inductive PArg where
 | bo (i : Nat) | pu (p : DP) | bp (i : Nat) (q : DP)
section
variable {X : Cx} {e a b : Expr} {es : List Expr} {as : List PArg} {c : DE} {p q : DP} {pos : Pos}
variable {K : PySem.W.Frag} {F F' : Addr -> Prop} {H H' : Hp}
theorem map_some_pair {α β : Type} {o : Option α} {f : α -> β} {b : β} (h : o.map f = some b) : ∃ x, o = some x /\ f x = b := by
 cases o with
 | none => cases h
 | some x => exact ⟨x, rfl, Option.some.inj h⟩
end
section
variable {X : Cx} {e o a b : Expr} {es : List Expr} {p q : DP} {c c' : DE} {pos apos cpos : Pos} {i : Nat} {js : List DP}
theorem reads_each {h : Heap} : ∀ {vs : List Value} {ps : List PyData} {as : List Addr}, ReadsAll h vs ps as -> ∀ v ∈ vs, ∃ p as', p ∈ ps /\ Reads h v p as' := by
 intro vs
 induction vs with
 | nil => intro ps as h v hv; cases hv
 | cons v vs ih =>
  intro ps as h v hv;cases h with
  | cons r rs =>
   rcases List.mem_cons.mp hv with rfl | hv
   ·exact ⟨_, _, List.mem_cons_self, r⟩
   ·obtain ⟨p, as', hp, h⟩ := ih rs v hv
    exact ⟨p, as', List.mem_cons_of_mem _ hp, h⟩
end
section
variable {X : Cx} {e o a b : Expr} {es : List Expr} {p q : DP} {c c' : DE} {pos apos cpos : Pos} {i : Nat} {js : List DP}
noncomputable def blsOf : List D -> Option (List Bool)
 | [] => some []
 | .bl b :: xs => (blsOf xs).map fun r => b :: r
 | _ => none
theorem blsOf_map : ∀ {xs : List D} {bs : List Bool}, blsOf xs = some bs -> xs = bs.map D.bl
 | [], _, h => by cases h; rfl
 | x :: xs, bs, h => by
  cases x <;> simp only [blsOf] at h <;> first | cases h | skip
  obtain ⟨r, h1, e⟩ := map_some_pair h;subst e;rw [blsOf_map h1]; rfl
theorem OwL.bls {K : PySem.W.Frag} {F : Addr -> Prop} {H : Hp} : ∀ {bs : List Bool} {vs : List V} {L : List Addr}, OwL K F H (bs.map D.bl) vs L -> vs = bs.map V.bl
 | [], _, _, h => by simp only [List.map_nil, OwL] at h; exact h.1
 | b :: bs, _, _, h => by
  simp only [List.map_cons, OwL] at h;obtain ⟨v, ws, L1, L2, rfl, h1, h2, rfl⟩ := h;rw [h2.bls, (h1.sc (d := .bl b) rfl).1]; rfl
theorem vals_bl : ∀ {bs : List Bool} {us : List Value}, Vals (bs.map V.bl) us -> us = bs.map Value.bool
 | [], _, .nil => rfl
 | b :: bs, _, .cons h t => by rw [show _ = Value.bool b from h, vals_bl t]; rfl
noncomputable def allD : List D -> Option D
 | [.lst _ xs] => (blsOf xs).map fun bs => .bl (bs.all id)
 | _ => none
theorem c_all (hc : X.calm = true) : CallS X (.builtin "all") allD := by
 refine ⟨fun pins s σ H vs us Q I rv pz => ?_, fun ds d h => ?_⟩
 ·obtain ⟨F, ds, d, w, b, eg, hw, q⟩ := pz
  unfold allD at eg;split at eg
  ·rename_i own xs
   obtain ⟨bs, hbs, e⟩ := map_some_pair eg;subst e; cases hw;have ex := blsOf_map hbs;subst ex;obtain ⟨v, rfl, bv⟩ := b.one;obtain ⟨a, ws, rfl, sq, L, ol⟩ := bv.lst;obtain ⟨u, rfl, ru⟩ := vals1 rv;cases ru;obtain ⟨its, r, pl, _⟩ := I.list sq;rw [ol.bls] at r;have hits := vals_bl r;subst hits;have hl := pl.isList;have hlt : a < s.heap.objs.size := by obtain ⟨_, e, _⟩ := hl; exact Heap.lt_size e
   refine call_all_walk (wpAny_pyIter_list hl ⟨_, _, _, _, _, _, fun i => bs.getD i true, rfl, Walks.list (A := X.A.in1) (I.ok.hd hc) _ a (Nat.ne_of_lt hlt) (bs.map Value.bool).toArray, ⟨⟨_, Heap.get?_push_size _ rfl, rfl, rfl⟩, hl.push _⟩, ?_, fun h' tk hk => ?_⟩)
   ·intro i v s2 Q2 E2 hP hQ
    have : v = .bool (bs.getD i true) := by
     simp only [List.getElem?_toArray, List.getElem?_map, Option.map_eq_some_iff] at hP;obtain ⟨b', hb, rfl⟩ := hP;simp [hb]
    subst this;exact wpAny_truthy_bool hQ
   ·refine ⟨.bl (bs.all id), H, I.kept (old_kept hk), ?_, q⟩
    have e : (List.range (bs.map Value.bool).toArray.size).all (fun i => bs.getD i true) = bs.all id := by
     rw [Bool.eq_iff_iff, List.all_eq_true, List.all_eq_true];constructor
     ·intro h x hx
      obtain ⟨i, hi, rfl⟩ := List.getElem_of_mem hx
      have := h i (by simp [hi])
      simpa [hi] using this
     ·intro h i hi
      have hi' : i < bs.length := by simpa using hi
      have := h bs[i] (List.getElem_mem hi')
      simpa [hi'] using this
    rw [e]; rfl
  ·cases eg
 ·unfold allD at h
  split at h
  ·obtain ⟨bs, _, e⟩ := map_some_pair h
   subst e; exact ⟨_, rfl⟩
  ·cases h
theorem Rel.scs {K : PySem.W.Frag} {F : Addr -> Prop} {H : Hp} {σD : DSt} {σ : St} {R : Ro} : ∀ {xs : List D} {vs : List V} {L : List Addr}, allSc xs = true -> OwL K F H xs vs L -> Rel K F H σD σ R -> Rel K F H σD σ (xs.zip vs ++ R)
 | [], _, _, _, _, r => by simpa using r
 | x :: xs, _, _, h, o, r => by
  simp only [OwL] at o;obtain ⟨v, ws, L1, L2, rfl, h1, h2, rfl⟩ := o;unfold allSc at h;rw [List.all_cons, Bool.and_eq_true, Option.isSome_iff_exists] at h;obtain ⟨⟨w, hw⟩, ht⟩ := h;have r2 := Rel.scs (xs := xs) ht h2 r;have hv := (h1.sc hw).1;subst hv;exact r2.scal hw
noncomputable def dListB (p : DP) : DE := fun σ => (p σ).bind fun d => match d with
 | .lst _ xs => if allSc xs = true then some (.lst true xs, σ) else none
 | _ => none
theorem call_list1 : CallR X (.type "list") (fun vs H Q => ∃ a xs, vs = [.ref a] /\ SqL X.K H a xs /\ ∀ p, H p = none -> Q (.ref p) (upd H p (.lst xs))) := by
 rintro pins s σ H vs us Q I rv ⟨a, xs, e, sq, q⟩;subst e;obtain ⟨u, rfl, ru⟩ := vals1 rv;cases ru;obtain ⟨its, r, ⟨o, n, hg, hc, hsl, hd⟩, hz⟩ := I.list sq;refine call_list_seq a (.inl rfl) hg hc hd (fun h' c' hk hn => ?_) (by rw [List.size_toArray, <- r.length]; exact hz);exact ⟨.ref s.heap.objs.size, _, I.laid (o := .lst xs) hk (Nat.le_refl _) ⟨hz, its, c', r, hn⟩, rfl, q _ I.fresh⟩
theorem qe_listB {x : Str} {p1 pos : Pos} (hg : Gl X x) (hm : X.mg x = none) (hv : bootBuiltins x = some (.type "list")) (ha : QB X e p) (hn : autoParam (x ≠ "__name__") Ax1._auto_1) (hdb : autoParam ((x == ("__debug__" : Str)) = false) Ax1._auto_1)
  (he : autoParam (starEach [e] X.env = (false, eval e X.env) :: starEach [] X.env) Ax4._auto_1) (hpl : autoParam ((backTo pos (starEach [] X.env)).any (·.1) = false) Ax4._auto_1) : QE X (.Call (.Name x p1) [e] [] pos) (dListB p) :=
 PE_imp (pe_callTy call_list1 hg hm hv (pa_cons ha pa_nil he) hn hdb he hpl) fun σ H Q hq0 => by
  obtain ⟨F, R, σD, d, σD', r, ec, k⟩ := hq0;unfold dListB at ec;rcases h1 : p σD with _ | x
  ·rw [h1] at ec; cases ec
  ·rw [h1] at ec; simp only [bind_some] at ec
   split at ec
   ·rename_i o xs
    split at ec
    ·rename_i hs
     cases ec;refine ⟨F, R, σD, _, r, h1, fun F1 H1 v g1 b1 => ?_⟩;obtain ⟨a, ws, rfl, sq, L, ol⟩ := b1.lst;refine ⟨a, ws, rfl, sq, fun p hp => ?_⟩;have r2 := Rel.scs hs ol (r.grow g1);obtain ⟨r3, x3⟩ := r2.layL ol.toP.1 hp;exact k F1 _ _ (g1.x.trans x3) r3
    ·cases ec
   ·cases ec
end
end DD
namespace DD
open PySem PySem.Spec PySem.Calls PyProof.Rows L2 PySem.W PySem.Builtin PySem.Builtin.Str
theorem Rel.dropA {K : PySem.W.Frag} {F : Addr -> Prop} {H : Hp} {σD : DSt} {σ : St} {R : Ro} : ∀ {S : Ro}, Rel K F H σD σ (S ++ R) -> Rel K F H σD σ R
 | [], r => r
 | _ :: S, r => Rel.dropA (S := S) (Rel.pop (R := S ++ R) r)
noncomputable def dClrV (i : Nat) : DE := fun σ => match dget σ i with
 | some (.lst true _) => some (.non, σ.set i (some (.lst true [])))
 | _ => none
section
variable {X : Cx} {apos cpos : Pos}
theorem qe_clrV (i : Nat) {x : Str} {npos : Pos} (hN : autoParam (X.N[i]? = some x) Ax4._auto_1) (hv : autoParam (Vis X.env.scope x) Ax7._auto_1) (hd : autoParam ((x == ("__debug__" : Str)) = false) Ax1._auto_1)
  (hcd : autoParam ((x == ("__classdict__" : Str)) = false) Ax1._auto_1) (hbase : autoParam (attributeBase (.Name x npos) "clear" X.env (eval (.Name x npos) X.env) = eval (.Name x npos) X.env) Ax4._auto_1) (hline : autoParam ((apos.endLine == cpos.line) = true) Ax4._auto_1) :
  QE X (.Call (.Attribute (.Name x npos) "clear" apos) [] [] cpos) (dClrV i) :=
 PE_imp (pe_bm0 PySem.F.plainAttrs_list PySem.F.slot_list_clear PySem.F.type_list_clear mt_clear (pe_var hN hv hd hcd) hbase hline) fun σ H Q hq0 => by
  obtain ⟨F, R, σD, d, σD', r, ec, k⟩ := hq0;unfold dClrV at ec;split at ec
  ·rename_i xs h2
   cases ec;obtain ⟨v0, hv0, r2⟩ := r.take (dget_some h2);obtain ⟨l, vs, lc, hl, hlen, upd'⟩ := Rel.listAt (S := []) (js := []) (xs := xs) r2 rfl;cases lc;obtain ⟨r3, x3⟩ := upd' [] [] (xs.zip vs) (by simp) rfl;refine ⟨_, hv0, .inl ⟨rfl, vs, .inl (.inl hl)⟩, _, vs, rfl, rfl, hl, ?_⟩;have r4 := (Rel.put (R := xs.zip vs ++ R) r3 hv0);rw [List.set_set] at r4;exact k F _ .non x3 (r4.dropA.scal rfl)
  ·cases ec
end
end DD
namespace DD
open PySem PySem.Spec PyProof.Rows L2
section
variable {X : Cx} {e o a b : Expr} {es : List Expr} {p q : DP} {c c' : DE} {pos apos cpos : Pos} {i : Nat} {js : List DP}
noncomputable def inL (x y : D) : Option Bool := x.py.bind fun q => y.py.bind fun p => match p with
 | .list ps => if (ps.all fun r => pyOk r q) = true then some (ps.any fun r => PyData.eqv r q) else none
 | _ => none
noncomputable def gIn (x y : D) : Option D := (inL x y).map .bl
theorem any_vals {h : Heap} {q : PyData} {e : Value -> Bool} (he : ∀ v p as, Reads h v p as -> e v = PyData.eqv p q) : ∀ {vs : List Value} {ps : List PyData} {as : List Addr}, ReadsAll h vs ps as -> vs.any e = ps.any fun r => PyData.eqv r q
 | _, _, _, .nil => rfl
 | _, _, _, .cons r rs => by rw [List.any_cons, List.any_cons, any_vals he rs, he _ _ _ r]
theorem inL_some {x y : D} {t : Bool} (h : inL x y = some t) : ∃ q ps, x.py = some q /\ y.py = some (.list ps) /\ (∀ r ∈ ps, r.canLay0 = true /\ q.canLay0 = true /\ min r.depth q.depth <= 50) /\ t = ps.any fun r => PyData.eqv r q := by
 unfold inL at h;rcases h1 : x.py with _ | p
 ·rw [h1] at h; cases h
 ·rw [h1] at h; simp only [bind_some] at h
  rcases h2 : y.py with _ | q
  ·rw [h2] at h; cases h
  ·rw [h2] at h; simp only [bind_some] at h
   split at h
   ·rename_i ps
    split at h
    ·rename_i hk
     cases h;refine ⟨p, ps, rfl, rfl, fun r hr => ?_, rfl⟩
     have := List.all_eq_true.mp hk r hr
     simp only [pyOk, Bool.and_eq_true, decide_eq_true_eq] at this;exact ⟨this.1.1, this.1.2, this.2⟩
    ·cases h
   ·cases h
theorem in_walk {pins : List (Addr × Obj)} {s : Shared} {σ : St} {H : Hp} {F : Addr -> Prop} {dx dy : D} {x y : V} {v u : Value} {t : Bool} (hu : X.A.units + 64 < cLine) (I : L2.Inv X pins σ H s) (b1 : Bor X.K F H dx x) (b2 : Bor X.K F H dy y)
  (rx : RelV x v) (ry : RelV y u) (h : inL dx dy = some t) : ∃ l items, u = .ref l /\ s.heap.IsList l items /\ ∃ e : Value -> Bool, (∀ z ∈ items, SeqAt.EqAt X.A.in1 s z v (e z)) /\ items.any e = t := by
 obtain ⟨r, ps, e1, e2, hok, rfl⟩ := inL_some h;obtain ⟨as, ra⟩ := b1.reads I e1 rx;obtain ⟨bs, rb⟩ := b2.reads I e2 ry;cases rb with
 | @list a o items n xs as' hg hc hdt rall =>
  classical
  refine ⟨a, items, rfl, ⟨o, hg, hc, n, hdt⟩, fun z => decide (∃ p as, Reads s.heap z p as /\ PyData.eqv p r = true), fun z hz => ?_, ?_⟩
  ·obtain ⟨pz, az, hpz, rz⟩ := reads_each rall z (by simpa using hz)
   obtain ⟨k1, k2, k3⟩ := hok pz hpz;have hd : decide (∃ p as, Reads s.heap z p as /\ PyData.eqv p r = true) = PyData.eqv pz r := by
    rcases he : PyData.eqv pz r with _ | _
    ·refine decide_eq_false ?_
     rintro ⟨p', as', r', e'⟩
     have := (PySem.SeqAt.Reads.unique pz p' z az as' k1 rz r')
     rw [<- this, he] at e'; cases e'
    ·exact decide_eq_true ⟨pz, az, rz, he⟩
   dsimp only;rw [hd];exact PySem.SeqAt.eqAt_reads pz r _ s z v az as rz ra k1 k2 (by
    simp only [Around.in1_units];omega)
  ·have hc := any_vals (q := r) (e := fun z => decide (∃ p as, Reads s.heap z p as /\ PyData.eqv p r = true)) (h := s.heap) (vs := items.toList) (ps := ps) ?_ rall
   ·rw [<- hc]; simp
   ·intro v p as rv
    rcases he : PyData.eqv p r with _ | _
    ·refine decide_eq_false ?_
     rintro ⟨p', as', r', e'⟩
     have := (PySem.Reads.unique rv p' as' r').1
     rw [<- this, he] at e'; cases e'
    ·exact decide_eq_true ⟨p, as, rv, he⟩
theorem o_in (hu : X.A.units + 64 < cLine) : OpS X (compareOp .In) gIn := by
 refine ⟨fun pins s σ H x y v u Q I rx ry pz => ?_, fun x y d h => ?_⟩
 ·obtain ⟨F, dx, dy, d, w, b1, b2, eg, hw, q⟩ := pz
  obtain ⟨t, et, rfl⟩ := map_some_pair eg;cases hw;obtain ⟨l, items, rfl, hl, e, he, rfl⟩ := in_walk hu I b1 b2 rx ry et;exact SeqAt.in_listAt e hl he ⟨.bl _, H, I, rfl, q⟩
 ·obtain ⟨t, _, rfl⟩ := map_some_pair h
  exact ⟨_, rfl⟩
end
section
variable {X : Cx} {e a b : Expr} {lo hi : Option Expr} {pl ph : Option DP} {p q : DP} {c c' : DE} {pos p2 : Pos} {i : Nat}
end
theorem grow_tup {F1 : Addr -> Prop} {H1 : Hp} {p : Addr} {us : List V} (dm : ∀ a, F1 a -> ∃ o, H1 a = some o) (hp : H1 p = none) : Grow F1 H1 (fun c => F1 c \/ c = p) (upd H1 p (.tup us)) := by
 have nF : ∀ c, F1 c -> c ≠ p := fun c fc z => by obtain ⟨o, h⟩ := dm c fc; rw [z, hp] at h; cases h
 refine ⟨fun c fc => ⟨.inl fc, upd_ne (nF c fc)⟩, fun c o e => by rw [upd_ne (ne_of_none e hp)]; exact e, fun c fc => ?_, fun _ c fc => ?_⟩
 ·rcases fc with fc | fc
  ·exact .inl fc
  ·exact .inr (fc ▸ hp)
 ·rcases fc with fc | fc
  ·rw [upd_ne (nF c fc)]; exact dm c fc
  ·subst fc; exact ⟨_, upd_same⟩
section
variable {X : Cx} {e tg elt iter : Expr} {ifs : List Expr} {g : DG} {t : DT} {c : DE} {i : DI} {pos : Pos} {W : List Nat} {N' : List Str} {scope : Scope}
end
section
variable {X : Cx} {elt tg : Expr} {ifs : List Expr} {g : DG} {t : DT} {c : DE} {pos : Pos} {W : List Nat} {scope : Scope} {k : Nat} {elts : List Expr} {x1 : Nat} {tpos p1 pos1 npos npos2 : Pos}
end
section
variable {X : Cx} {a b : Expr} {c : DE} {p q : DP} {pos : Pos}
end
end DD
namespace L2
open PySem PySem.Spec PyProof.Rows
noncomputable def Ite (K : PySem.W.Frag) (a : Addr) (n0 : Nat) : It :=
 ⟨fun i H => ∃ xs x, SqL K H a xs /\ xs[i]? = some x,
  fun i H x H' => ∃ p u, (∀ xs, SqL K H a xs -> xs[i]? = some u) /\ H p = none /\ H' = upd H p (.tup [.int ((n0 + i : Nat) : Int), u]) /\ x = .ref p,
  fun i H => ∃ xs, SqL K H a xs /\ xs.length = i⟩
theorem drawsFrom {prog : Program} {w : World} {A : Around} (hh : A.handled = none) (it l : Addr) (hne : l ≠ it) (items : Array Value) (n0 : Nat) :
  Draws prog w A it [it, l] (n0 + items.size) (fun i v => n0 <= i /\ items[i - n0]? = some v) (fun i h => n0 <= i /\ h.IsListIter it l (i - n0) /\ h.IsList l items) where
 live := fun _ _ q => by obtain ⟨o, ho, _⟩ := q.2.1; exact ⟨o, ho⟩
 frame := fun _ _ _ q hk => ⟨q.1, q.2.1.at fun o e => hk it (by simp) o e, q.2.2.at fun o e => hk l (by simp) o e⟩
 item := fun i s Q E hi q hQ => by
  have hl : i - n0 < items.size := by have := q.1; omega
  refine wpAny_nextOf_list_item q.2.1 q.2.2 (x := items[i - n0]) (by simp [hl]) fun h' hit' hs' => ?_
  refine hQ _ h' s.toks ⟨q.1, by simp [hl]⟩ ⟨Nat.le_succ_of_le q.1, ?_, q.2.2.extBut hs'.extBut hne⟩ hs';rw [show i + 1 - n0 = i - n0 + 1 by have := q.1; omega];exact hit'
 done := fun s Q E q hE => wpAny_nextOf_list_end hh q.2.1 q.2.2 (by simp) hE
theorem turn_enum {P : Program} {w : World} {K : PySem.W.Frag} {elts : List Expr} {x1 : Nat} {tpos : Pos} (a z it : Addr) (n0 : Nat) (D : z ≠ it) :
  Turn P w K (.Tuple elts x1 tpos) (Ite K a n0) [z, it] z (fun i h => (∃ old, IsEnum h z it ((n0 + i : Nat) : Int) old) /\ h.IsListIter it a i) where
 mem := by simp
 obj := fun i h hq0 c hc => by
  obtain ⟨⟨old, hz⟩, ⟨o1, e1, c1, d1⟩⟩ := hq0;simp only [List.mem_cons, List.not_mem_nil, or_false] at hc;rcases hc with rfl | rfl
  ·exact ⟨_, hz, fun v z => nomatch z⟩
  ·exact ⟨_, e1, fun v z => by rw [d1] at z; cases z⟩
 keep := fun i h h' ⟨⟨old, hz⟩, h1⟩ k => ⟨⟨old, k z (by simp) _ hz⟩, h1.at fun o e => k it (by simp) o e⟩
 item := by
  rintro X hP hw hK hc i pins s σ H E I hf ⟨⟨old, hz⟩, h1⟩ ⟨xs, x, hq, hx⟩;subst hP hw hK;obtain ⟨its, rv, p1, _⟩ := I.list hq;obtain ⟨u, hu, ru⟩ := rv.get hx;have na : a ≠ z := list_tracked I hq (hf z (by simp)) ⟨_, hz, by simp⟩;have nb : a ≠ it := list_tracked I hq (hf it (by simp)) (by obtain ⟨o1, e1, c1, d1⟩ := id h1; exact ⟨_, e1, by rw [c1]; simp⟩);have hil : i < its.length := (List.getElem?_eq_some_iff.mp hu).1;refine wpAny_pyNext_enum_itemD (drawsFrom (A := X.A.in1) (I.ok.hd hc) it a nb its.toArray n0) hz ⟨Nat.le_add_right _ _, by rw [Nat.add_sub_cancel_left]; exact h1, p1.isList⟩ (by simp [hil]) D (by simp [D, na.symm]) fun v h' tk hv ho hst hT hsz hk => ?_
  have ev : v = u := by
   have h2 := hv.2;rw [Nat.add_sub_cancel_left] at h2;simp only [List.getElem?_toArray] at h2;rw [hu] at h2; exact (Option.some.inj h2).symm
  subst ev;have hf2 : ∀ c ∈ [z, it], FpOk X pins H c := fun c hc => hf c hc
  have hk' : ∀ c o, c ∉ [z, it] -> s.heap.get? c = some o -> h'.get? c = some o := fun c o hc e => hk c o (fun q => hc (by simp [q])) (fun q => hc (by simp [q])) e
  have I0 : Inv X pins σ (upd H s.heap.objs.size (.tup [.int ((n0 + i : Nat) : Int), x])) { s with heap := h' } := I.turnT hf2 (u := .int ((n0 + i : Nat) : Int)) ⟨tk, rfl⟩ ru hk' hT (fun c hc => by
   obtain ⟨o1, e1, _⟩ := id hst.2.1;simp only [List.mem_cons, List.not_mem_nil, or_false] at hc;rcases hc with rfl | rfl
   ·exact ⟨_, ho⟩
   ·exact ⟨_, e1⟩)
  have I1 : Inv X pins σ (upd H s.heap.objs.size (.tup [.int ((n0 + i : Nat) : Int), x])) { s with heap := h', toks := tk + 1 } := I0.kept (t' := tk + 1) (fun _ _ e => e);have hfr : H s.heap.objs.size = none := I.fresh;refine ⟨_, rfl, wpAny_letOwnedTupleGo_enum (s := { s with heap := h', toks := tk + 1 }) ho fun h'' z1 sb => ?_⟩;have hf5 : ∀ c ∈ [z, it], (upd H s.heap.objs.size (.tup [.int ((n0 + i : Nat) : Int), x])) c = none := fun c hc => by
   have lt : c < s.heap.objs.size := by
    obtain ⟨o1, e1, _⟩ := id h1;simp only [List.mem_cons, List.not_mem_nil, or_false] at hc;rcases hc with rfl | rfl
    ·exact Heap.lt_size hz
    ·exact Heap.lt_size e1
   rw [upd_ne (Nat.ne_of_lt lt)]; exact (hf c hc).1
  have I2 : Inv X pins σ (upd H s.heap.objs.size (.tup [.int ((n0 + i : Nat) : Int), x])) { s with heap := h'', toks := tk + 1 } := Inv.turnN (s := { s with heap := h', toks := tk + 1 }) (ch := [z]) I1 (fun c hc => by
   have : c = z := by simpa using hc
   subst this;exact ⟨hf5 c (by simp), (hf c (by simp)).2⟩) (fun c o hc e => (sb.2 c (fun q => hc (by simp [q]))).trans e)
  refine ⟨.ref s.heap.objs.size, _, I2, rfl, ⟨_, x, fun zs hzs => by rw [I.list_inj hzs hq]; exact hx, hfr, rfl, rfl⟩, ⟨⟨_, by rw [show ((n0 + (i + 1) : Nat) : Int) = ((n0 + i : Nat) : Int) + 1 by omega]; exact z1⟩, ?_⟩, hf5⟩;have h3 := hst.2.1;rw [show n0 + i + 1 - n0 = i + 1 by omega] at h3;exact h3.at fun o e => (sb.2 it D.symm).trans e
 done := by
  rintro X hP hw hK hc i pins s σ H E I hf ⟨⟨old, hz⟩, h1⟩ ⟨xs, hq, hend⟩;subst hP hw hK;obtain ⟨its, rv, p1, _⟩ := I.list hq;have nb : a ≠ it := list_tracked I hq (hf it (by simp)) (by obtain ⟨o1, e1, c1, d1⟩ := id h1; exact ⟨_, e1, by rw [c1]; simp⟩);have hl := rv.length;refine wpAny_pyNext_enum_endD (drawsFrom (A := X.A.in1) (I.ok.hd hc) it a nb its.toArray n0) hz ⟨Nat.le_add_right _ _, ?_, p1.isList⟩ fun h' hk => ⟨rfl, ?_⟩
  ·rw [Nat.add_sub_cancel_left, List.size_toArray, <- hl, hend]; exact h1
  ·exact I.turnN (ch := [z, it]) (fun c hc => hf c hc) fun c o hc e => hk c o (fun q => hc (by simp [q])) e
 self := fun _ _ _ _ _ ⟨⟨_, hz⟩, _⟩ h => wpAny_pyIter_enum hz h
theorem boot_enum : bootBuiltins "enumerate" = some (.type "enumerate") := by decide +kernel
noncomputable def iEnum (K : PySem.W.Frag) (n0 : Nat) (ta : TA) : TI := fun σ H R => ta σ H fun vs H1 => ∃ a, vs = [.ref a] /\ (∃ xs, SqL K H1 a xs) /\ R (Ite K a n0) H1
theorem enum_end {X : Cx} {pins : List (Addr × Obj)} {σ : St} {H1 : Hp} {s1 : Shared} {h' : Heap} {t' : Nat} {l : Addr} {n0 : Nat} {elts : List Expr} {x1 : Nat} {tpos : Pos} {R : It -> Hp -> Prop} (I1 : Inv X pins σ H1 s1) (he : IsEnum h' (s1.heap.objs.size + 1) s1.heap.objs.size (n0 : Int) .none) (hi : h'.IsListIter s1.heap.objs.size l 0)
  (hk : ∀ b o, s1.heap.get? b = some o -> h'.get? b = some o) (q : R (Ite X.K l n0) H1) : PIE X pins σ (.Tuple elts x1 tpos) R (.ref (s1.heap.objs.size + 1)) { s1 with heap := h', toks := t' } := by
 have I2 : Inv X pins σ H1 { s1 with heap := h', toks := t' } := I1.kept (t' := t') hk;refine ⟨_, [s1.heap.objs.size + 1, s1.heap.objs.size], _, _, H1, rfl, I2, turn_enum l (s1.heap.objs.size + 1) s1.heap.objs.size n0 (Nat.ne_of_gt (Nat.lt_succ_self _)), ⟨⟨_, by simpa using he⟩, hi⟩, fun c hc => ?_, q⟩;have hle : s1.heap.objs.size <= c := by
  simp only [List.mem_cons, List.not_mem_nil, or_false] at hc;rcases hc with rfl | rfl
  ·exact Nat.le_succ _
  ·exact Nat.le_refl _
 obtain ⟨f0, f1, f2, f3, f4, f5⟩ := I1.fpOk hle (I1.hok.fresh hle);exact ⟨f0, f1, f2, f3, f4, f5⟩
theorem pi_enum {X : Cx} {elts : List Expr} {x1 : Nat} {tpos : Pos} {a : Expr} {ta : TA} {p pos : Pos} (hg : Gl X "enumerate") (hm : X.mg "enumerate" = none) (ha : PA X [a] ta) (hs : autoParam (starEach [a] X.env = [(false, eval a X.env)]) Ax4._auto_1) :
  PI X (.Tuple elts x1 tpos) (.Call (.Name "enumerate" p) [a] [] pos) (iEnum X.K 0 ta) := by
 intro pins s σ H R I h;refine Call_ (ld_blt I hg hm boot_enum (PyProof.Rows.callWith_type1 (thn (ha pos pins s σ H _ I h) fun us s1 ⟨vs, H1, I1, r1, q1⟩ => ?_) (by rw [hs]; rfl) (by rfl)));obtain ⟨l, e, ⟨xs, hq⟩, q⟩ := q1;subst e;cases r1 with
 | cons r rr =>
  cases rr;cases r;obtain ⟨its, rv, p1, _⟩ := I1.list hq;refine call_enumerate_list p1.isList fun h' he hi hsz hk => ?_
  refine wpAny_pyIter_enum (s := { s1 with heap := h' }) he ?_;exact enum_end (t' := s1.toks) (n0 := 0) I1 he hi hk q
end L2
namespace DD
open PySem PySem.Spec PyProof.Rows L2
noncomputable def enD : Nat -> List D -> List D
 | _, [] => []
 | n, x :: xs => .tup [.int (n : Int), x] :: enD (n + 1) xs
theorem enD_len : ∀ (xs : List D) (n : Nat), (enD n xs).length = xs.length
 | [], _ => rfl
 | _ :: xs, n => by simp [enD, enD_len xs]
theorem enD_get : ∀ (xs : List D) (n i : Nat), (enD n xs)[i]? = (xs[i]?).map fun x => .tup [.int ((n + i : Nat) : Int), x]
 | [], _, _ => by simp [enD]
 | _ :: xs, n, 0 => by simp [enD]
 | _ :: xs, n, i + 1 => by simp only [enD, List.getElem?_cons_succ, enD_get xs]; rw [show n + 1 + i = n + (i + 1) by omega]
noncomputable def iEnD (n0 : Nat) (c : DE) : DI := fun σ => (c σ).bind fun p => match p.1 with
 | .lst _ xs => some (enD n0 (D.fzL xs), p.2)
 | _ => none
theorem itd_enum {K : PySem.W.Frag} {F : Addr -> Prop} {H : Hp} {xs : List D} {a : Addr} {vs : List V} {n0 : Nat} (fl : FL K F H a vs) (ol : OwL K F H xs vs []) :
  ItD K (Ite K a n0) (enD n0 xs) F H where
 item := fun i d F1 H1 x1 dm e => by
  rw [enD_get] at e;rcases hz : xs[i]? with _ | x
  ·rw [hz] at e; cases e
  ·rw [hz] at e; cases e
   obtain ⟨u, La, Lx, Lb, e1, eL, o1, _⟩ := ol.kid hz;have eLx : Lx = [] := (List.append_eq_nil_iff.mp (List.append_eq_nil_iff.mp eL.symm).1).2;subst eLx;refine ⟨⟨vs, u, (fl.ext x1).sq, e1⟩, fun v H2 ⟨p, u', h1, hp, hH, hv⟩ => ?_⟩;subst hH hv;have h1' := h1 vs (fl.ext x1).sq;rw [e1] at h1'; cases h1';have gr := grow_tup (us := [.int ((n0 + i : Nat) : Int), u]) dm hp;refine ⟨_, gr, ?_⟩;simp only [Ow, OwL];exact ⟨p, [.int ((n0 + i : Nat) : Int), u], rfl, .inl ⟨.inr rfl, upd_same⟩, .int ((n0 + i : Nat) : Int), [u], [], [], rfl, ⟨rfl, rfl⟩, ⟨u, [], [], [], rfl, (o1.mono x1 (fun a ha => by cases ha)).mono gr.x (fun a ha => by cases ha), ⟨rfl, rfl⟩, rfl⟩, rfl⟩
 done := fun F1 H1 x1 => ⟨vs, (fl.ext x1).sq, by rw [enD_len]; exact ol.length⟩
section
variable {X : Cx} {a b o e : Expr} {c c' : DE} {p p1 pos1 : Pos} {elts : List Expr} {x1 : Nat} {tpos pos : Pos}
theorem qi_enum (hgl : Gl X "enumerate") (hm : X.mg "enumerate" = none) (ha : QE X a c) (hs : autoParam (starEach [a] X.env = [(false, eval a X.env)]) Ax4._auto_1) :
  QI X (.Tuple elts x1 tpos) (.Call (.Name "enumerate" p1) [a] [] pos1) (iEnD 0 c) := PI_imp (pi_enum hgl hm (pa_cons ha pa_nil hs) hs) fun σ H R hq0 => by
 obtain ⟨F, Ro, σD, xs, σD', r, ec, k⟩ := hq0;unfold iEnD at ec;rcases h1 : c σD with _ | ⟨x, σ1⟩
 ·rw [h1] at ec; cases ec
 ·rw [h1] at ec; simp only [bind_some] at ec
  split at ec
  ·cases ec
   refine ⟨F, Ro, σD, _, _, r, h1, fun F1 H1 v x1 r1 => ?_⟩;obtain ⟨F3, x3, r3, o3⟩ := r1.freeze;simp only [D.fz, Ow] at o3;obtain ⟨a1, vs, rfl, fl, ol, _⟩ := o3;exact ⟨a1, rfl, ⟨vs, fl.sq⟩, k F3 H1 _ (x1.trans x3) r3.pop (itd_enum fl ol)⟩
  ·cases ec
end
section
variable {X : Cx} {elt tg iter : Expr} {ifs : List Expr} {g : DG} {t : DT} {c : DE} {pos : Pos} {W : List Nat} {scope : Scope} {k : Nat} {elts : List Expr} {x1 : Nat} {tpos p1 pos1 npos npos2 : Pos}
end
end DD
namespace L2
open PySem PySem.Spec PyProof.Rows
section
variable {prog : Program} {w : World} {A : Around} {E : Value -> Shared -> Prop} {s : Shared}
theorem thn0 {α : Type} {x : Sem α} {Q Q1 : α -> Shared -> Prop} {M : Model} (h : wpAny M A x Q E s) (hQ : ∀ a s, Q a s -> Q1 a s) : wpAny M A x Q1 E s := wpAny_mono h hQ fun _ _ x => x
theorem tyCall_start (a v : Value) : checkTypeCall "enumerate" ⟨[a], [("start", v)]⟩ = pure () := by kernel_rfl
theorem newCall_start (a v : Value) : checkBuiltinCall "enumerate.__new__" ⟨[.type "enumerate", a], [("start", v)]⟩ = pure () := by kernel_rfl
theorem initArgs_start (o a v : Value) : argsOk "object.__init__" ⟨[o, a], [("start", v)]⟩ := by
 unfold argsOk;rw [signature?_of (id := "object.__init__") (n := ['_', '_', 't', 'i', 'n', 'i', '_', '_']) (o := ['t', 'c', 'e', 'j', 'b', 'o']) (by kernel_rfl) F.owner_object]
 kernel_rfl
theorem enum_new_start (l : Addr) (items : Array Value) (n : Nat) (dct : Option Addr) (sl : Array (Option Value)) (t : Tok) :
  Meets (Builtin.«enumerate.__new__» ⟨[.type "enumerate", .ref l], [("start", .int 1 t)]⟩) (fun _ R s => s.heap.get? l = some { cls := .type "list", dict := dct, data := .seq items n, slots := sl } /\
   R (.ok (.ret (.ref (s.heap.push { cls := .type "list_iterator", data := .fields #[.ref l, .int 0 0] }).objs.size)))
    { s with heap := (s.heap.push { cls := .type "list_iterator", data := .fields #[.ref l, .int 0 0] }).push { cls := .type "enumerate", data := .fields #[.none, .bool false, .ref s.heap.objs.size, rawInt 1, .none, .none] } }) := Meets.of_wp fun prog w A R s h => by
  obtain ⟨hp, g, d, tk, os⟩ := s; obtain ⟨hl, h⟩ := h;have hsub := sub_enumerate;have hL : Heap.IsList (Shared.heap ⟨hp, g, d, tk, os⟩) l items := ⟨_, hl, rfl, n, rfl⟩
  wp_walk using AutoSeq1.wpAny_loadPart' hl
  refine wpAny_stack_any fun st => wpAny_pure ?_
  split
  ·rename_i c _ _ _ _ _
   cases (c == Value.type "enumerate")
   ·wp_walk using AutoSeq1.wpAny_loadPart' hl, wpAny_pyIter_list hL
    exact ⟨_, rfl, h⟩
   ·wp_walk using AutoSeq1.wpAny_loadPart' hl, wpAny_pyIter_list hL
    exact ⟨_, rfl, h⟩
  ·wp_walk using AutoSeq1.wpAny_loadPart' hl, wpAny_pyIter_list hL
   exact ⟨_, rfl, h⟩
theorem init_start {T newId : String} {self a v : Value} (hl : typeLookup (.type T) "__init__" = pure (some (.builtin "object.__init__"))) (hm : Bind.madeBy (.type T) = pure (some newId)) (hne : (some newId != some "object.__new__") = true) :
  Meets (Builtin.«object.__init__» ⟨[self, a], [("start", v)]⟩) (fun _ R s => s.TypeIs self T /\ R (.ok (.ret .none)) s) := Meets.of_wp fun prog w A R s hs => by
 obtain ⟨hT, hq⟩ := hs
 repeat (any_goals (first | assumption | wp_step))
 exact ⟨_, rfl, hq⟩
theorem call_enum_start {l : Addr} {items : Array Value} {t : Tok} {Q : Value -> Shared -> Prop} (hL : s.heap.IsList l items)
  (h : ∀ h', IsEnum h' (s.heap.objs.size + 1) s.heap.objs.size 1 .none -> h'.IsListIter s.heap.objs.size l 0 -> (∀ b o, s.heap.get? b = some o -> h'.get? b = some o) -> Q (.ref (s.heap.objs.size + 1)) { s with heap := h' }) :
  wpAny (model prog w) A (call (.type "enumerate") [.ref l] [("start", .int 1 t)]) Q E s := by
 obtain ⟨⟨c0, dct, dt, sl⟩, hl, hc0, n, hd⟩ := hL;dsimp only at hc0 hd;subst hc0 hd;have ft := F.called_enumerate;obtain ⟨c, tl, hmro⟩ := ft.mro;have hmade := ft.made;have hsub := ft.sub;have h1 := ft.notType;have h2 := ft.canCreate;have hct := tyCall_start (.ref l) (.int 1 t);have hcn := newCall_start (.ref l) (.int 1 t);refine wpAny_call (codeAny_of_tree ?_);show wpAny _ _ (callAny (.type "enumerate") _) _ _ _;refine wpAny_pure ⟨Code.quiet_builtin _ (by decide +kernel), codeAny_builtin F.entry_type_call ?_⟩;rw [Around.under_plain (weight_type_call_type "enumerate" _ _) (units_type_call_type "enumerate" _ _)]
 repeat (any_goals (first | assumption | wp_step))
 have hz : (s.heap.push { cls := .type "list_iterator", data := .fields #[.ref l, .int 0 0] }).objs.size = s.heap.objs.size + 1 := Heap.size_push ..;have he := Heap.get?_push_size (s.heap.push { cls := .type "list_iterator", data := .fields #[.ref l, .int 0 0] }) (o := { cls := .type "enumerate", data := .fields #[.none, .bool false, .ref s.heap.objs.size, rawInt 1, .none, .none] }) rfl;rw [hz] at he;refine codeAny_mono (codeAny_call_builtin (R := wants (fun obj s₁ => s₁.TypeIs obj "enumerate" /\ Q obj s₁) E) ft.plain F.entry_enumerate_new (wpAny_of_eq hcn (enum_new_start l items n dct sl t prog w A.in1 _ s ⟨hl, ?_⟩))) fun r s₁ hr => ?_
 ·show _ /\ _
  rw [hz];exact ⟨⟨_, he, rfl⟩, h _ he ⟨_, Heap.get?_push_of_some _ (Heap.get?_push_size _ rfl), rfl, rfl⟩ fun b o x => Heap.get?_push_of_some _ (Heap.get?_push_of_some _ x)⟩
 ·cases r with
  | error e => exact hr
  | ok fl =>
   cases fl with
   | ret obj =>
    obtain ⟨hT, hq0⟩ := hr;have hli := ft.init.lookup;have hbi := ft.init.bind obj
    repeat (any_goals (first | assumption | wp_step))
    refine codeAny_mono (codeAny_call_builtin (R := wants (fun r s₂ => r = .none /\ Q obj s₂) E) ft.init.plain F.entry_object_init (ft.init.check _ _ _ _ _ _ _ _ hT (initArgs_start obj (.ref l) (.int 1 t)) (init_start ft.init.lookup ft.made dC prog w A.in1 _ s₁ ⟨hT, rfl, hq0⟩))) fun r₂ s₂ hr₂ => ?_
    cases r₂ with
    | error e => exact hr₂
    | ok fl₂ =>
     cases fl₂ with
     | ret r =>
      obtain ⟨rfl, hq⟩ := hr₂
      repeat (any_goals (first | assumption | wp_step))
     | _ => exact hr₂.elim
   | _ => exact hr.elim
theorem callWith_tyK {M : Model} {pos : Pos} {T : String} {args : List (Bool × Sem Value)} {kws : List (Option Str × Sem Value)} {Q : Value -> Shared -> Prop} (hp : args.any (·.1) = false) (hk : kws.any (·.1.isNone) = false)
  (h : wpAny M A (evalArgs (.type T) true args kws) (fun a s₁ => wpAny M A (call (.type T) a.pos a.kw) Q E s₁) E s) : wpAny M A (callWith pos (.type T) [] args kws) Q E s := by
 unfold callWith;refine wpAny_bind (wpAny_holding (thn0 h fun a s₁ h₁ => wpAny_bind (wpAny_standAt ?_)));simp only [hp, hk, Bool.or_false];refine wpAny_bind (wpAny_pure (wpAny_bind (thn0 h₁ fun r s₂ hr => wpAny_bind (wpAny_holding (wpAny_point (wpAny_pure hr))))))
theorem enum_args {M : Model} {env : Env} {pos kp cp : Pos} {kk} {a : Expr} {f : Value} {Q : Args -> Shared -> Prop} (hs : starEach [a] env = [(false, eval a env)])
  (h : wpAny M A (spliced (backTo pos (starEach [a] env))) (fun vs s₁ => ∀ t, Q ⟨vs, [("start", .int 1 t)]⟩ { s₁ with toks := s₁.toks + 1 }) E s) :
  wpAny M A (evalArgs f true (backTo pos (starEach [a] env)) (backToKw pos (keywordEach [⟨some "start", .Constant (.int 1) kk cp, kp⟩] env))) Q E s := by
 rw [hs] at h ⊢;refine PyProof.Rows.evalArgs_kwB (by rfl) (thn0 h fun vs s₁ h₁ => ?_);refine PyProof.Rows.kws_cons (wpAny_Constant_int (PyProof.Rows.kws_nil ?_));exact h₁ _
end
theorem pi_enumS {X : Cx} {elts : List Expr} {x1 : Nat} {tpos : Pos} {a : Expr} {ta : TA} {p pos kp cp : Pos} {kk} (hg : Gl X "enumerate") (hm : X.mg "enumerate" = none) (ha : PA X [a] ta) (hs : autoParam (starEach [a] X.env = [(false, eval a X.env)]) Ax4._auto_1) :
  PI X (.Tuple elts x1 tpos) (.Call (.Name "enumerate" p) [a] [⟨some "start", .Constant (.int 1) kk cp, kp⟩] pos) (iEnum X.K 1 ta) := by
 intro pins s σ H R I h;refine wpAny_Call_Name_kw (ld_blt I hg hm boot_enum (callWith_tyK (by rw [hs]; rfl) (by rfl) (enum_args hs (thn0 (ha pos pins s σ H _ I h) fun us s1 ⟨vs, H1, I1, r1, q1⟩ t => ?_))));obtain ⟨l, e, ⟨xs, hq⟩, q⟩ := q1;subst e;cases r1 with
 | cons r rr =>
  cases rr;cases r;obtain ⟨its, rv, p1, _⟩ := I1.list hq;refine call_enum_start (s := { s1 with toks := s1.toks + 1 }) p1.isList fun h' he hi hk => ?_
  refine wpAny_pyIter_enum (s := { s1 with heap := h', toks := s1.toks + 1 }) he ?_;exact enum_end (t' := s1.toks + 1) (n0 := 1) (I1.kept (t' := s1.toks + 1) (fun _ _ e => e)) he hi hk q
end L2
namespace DD
open PySem PySem.Spec PyProof.Rows L2
section
variable {X : Cx} {a b o e : Expr} {c c' : DE} {p p1 pos1 kp cp : Pos} {elts : List Expr} {x1 : Nat} {tpos pos : Pos} {kk : Nat}
theorem qi_enumS (n0 : Nat) (hgl : Gl X "enumerate") (hm : X.mg "enumerate" = none) (ha : QE X a c) (h0 : autoParam (n0 = 1) Ax4._auto_1) (hs : autoParam (starEach [a] X.env = [(false, eval a X.env)]) Ax4._auto_1) :
  QI X (.Tuple elts x1 tpos) (.Call (.Name "enumerate" p1) [a] [⟨some "start", .Constant (.int 1) kk cp, kp⟩] pos1) (iEnD n0 c) := PI_imp (pi_enumS hgl hm (pa_cons ha pa_nil hs) hs) fun σ H R hq0 => by
 obtain ⟨F, Ro, σD, xs, σD', r, ec, k⟩ := hq0;subst h0;unfold iEnD at ec;rcases h1 : c σD with _ | ⟨x, σ1⟩
 ·rw [h1] at ec; cases ec
 ·rw [h1] at ec; simp only [bind_some] at ec
  split at ec
  ·cases ec
   refine ⟨F, Ro, σD, _, _, r, h1, fun F1 H1 v x1 r1 => ?_⟩;obtain ⟨F3, x3, r3, o3⟩ := r1.freeze;simp only [D.fz, Ow] at o3;obtain ⟨a1, vs, rfl, fl, ol, _⟩ := o3;exact ⟨a1, rfl, ⟨vs, fl.sq⟩, k F3 H1 _ (x1.trans x3) r3.pop (itd_enum fl ol)⟩
  ·cases ec
end
section
variable {X : Cx} {elt : Expr} {ifs : List Expr} {g : DG} {t : DT} {c : DE} {pos : Pos} {W : List Nat} {scope : Scope} {k : Nat} {elts : List Expr} {x1 : Nat} {tpos p1 pos1 npos kp cp : Pos} {kk : Nat}
end
end DD
namespace L2
open PySem PySem.Spec PyProof.Rows
section
variable {prog : Program} {w : World} {A : Around} {E : Value -> Shared -> Prop} {s : Shared}
end
section
variable {X : Cx} {pos : Pos}
end
end L2
namespace DD
open PySem PySem.Spec PyProof.Rows L2
section
variable {X : Cx} {e tg a : Expr} {ts : List Expr} {g : DG} {gs : DGs} {pos p1 p2 pos2 : Pos} {W W' : List Nat} {c : DE} {apos cpos : Pos}
end
section
variable {X : Cx} {e o a b : Expr} {es : List Expr} {p q : DP} {c c' : DE} {pos apos cpos : Pos} {i : Nat} {js : List DP}
end
end DD
namespace L2
open PySem PySem.Spec PyProof.Rows
section
variable {X : Cx} {tg : Expr} {pos : Pos}
end
end L2
namespace DD
open PySem PySem.Spec PyProof.Rows L2
section
variable {X : Cx} {tg e a b c : Expr} {ca : DA} {p1 pos1 : Pos}
end
end DD
namespace L2
open PySem PySem.Spec PyProof.Rows
section
variable {X : Cx} {pos : Pos}
end
end L2
namespace DD
open PySem PySem.Spec PyProof.Rows L2
section
variable {X : Cx} {a b c : Expr} {ca : DA} {p1 p2 pos pos2 : Pos}
end
end DD
namespace L2
open PySem PySem.Spec PyProof.Rows
section
variable {X : Cx} {e st : Expr} {te ts : TE} {pos p2 : Pos}
end
end L2
namespace DD
open PySem PySem.Spec PyProof.Rows L2
section
variable {X : Cx} {e st : Expr} {p q : DP} {pos p2 : Pos}
end
end DD
namespace PySem
open Sem (wp)
namespace F
end F
section
variable {prog : Program} {w : World} {A : Around} {E : Value -> Shared -> Prop} {s : Shared}
end
section
variable {prog : Program} {w : World} {A : Around} {E : Value -> Shared -> Prop} {s : Shared}
end
end PySem
namespace L2
open PySem PySem.Spec PyProof.Rows
end L2
namespace DD
open PySem PySem.Spec PyProof.Rows L2
theorem fzL_len : ∀ xs : List D, (D.fzL xs).length = xs.length := by
 intro xs
 induction xs with
 | nil => rfl
 | cons x xs ih => simp only [D.fzL, List.length_cons, ih]
section
variable {X : Cx} {a b c d : Expr} {ca cb cc cd : DE} {p1 pos1 : Pos} {elts : List Expr} {x1 : Nat} {tpos : Pos}
end
end DD
namespace PySem.AutoSeq1
end PySem.AutoSeq1
namespace L2
open PySem PySem.Spec PyProof.Rows
section
variable {X : Cx}
end
end L2
namespace DD
open PySem PySem.Spec PyProof.Rows L2
section
variable {X : Cx} {e : Expr} {c : DE} {apos cpos : Pos}
end
end DD
namespace TT
open PySem L2 DD
noncomputable abbrev Rl (α : Type) := α -> D -> Prop
structure Sl (S : Type) where
 {α : Type}
 get : S -> α
 r : Rl α
noncomputable abbrev Shp (S : Type) := List (Option (Sl S))
section
variable {S : Type} {α β γ δ ρ : Type}
noncomputable def On : Option (Sl S) -> S -> Option D -> Prop
 | none, _, _ => True
 | some l, s, o => ∃ d, o = some d /\ l.r (l.get s) d
noncomputable def Sat : Shp S -> S -> DSt -> Prop
 | [], _, [] => True
 | a :: Γ, s, x :: σ => On a s x /\ Sat Γ s σ
 | _, _, _ => False
theorem Sat.len {s : S} : ∀ {Γ : Shp S} {σ : DSt}, Sat Γ s σ -> σ.length = Γ.length := by
 intro Γ
 induction Γ with
 | nil =>
  intro σ h;cases σ with
  | nil => rfl
  | cons _ _ => exact h.elim
 | cons a Γ ih =>
  intro σ h;cases σ with
  | nil => exact h.elim
  | cons x σ => simp [ih h.2]
theorem Sat.get {s : S} {l : Sl S} : ∀ {Γ : Shp S} {σ : DSt} {i : Nat}, Sat Γ s σ -> Γ[i]? = some (some l) -> ∃ d, dget σ i = some d /\ l.r (l.get s) d := by
 intro Γ
 induction Γ with
 | nil => intro σ i _ e; simp at e
 | cons a Γ ih =>
  intro σ i h e;cases σ with
  | nil => exact h.elim
  | cons x σ =>
   cases i with
   | zero =>
    simp at e; subst e;obtain ⟨d, e1, hd⟩ := h.1;subst e1;exact ⟨d, rfl, hd⟩
   | succ i =>
    obtain ⟨d, h1, h2⟩ := ih (i := i) h.2 (by simpa using e);exact ⟨d, by simpa [dget] using h1, h2⟩
theorem Sat.set {s : S} {l : Option (Sl S)} {o : Option D} : ∀ {Γ : Shp S} {σ : DSt} {i : Nat}, Sat Γ s σ -> On l s o -> Sat (Γ.set i l) s (σ.set i o) := by
 intro Γ
 induction Γ with
 | nil =>
  intro σ i h k;cases σ with
  | nil => exact h
  | cons _ _ => exact h.elim
 | cons a Γ ih =>
  intro σ i h k;cases σ with
  | nil => exact h.elim
  | cons x σ =>
   cases i with
   | zero => exact ⟨k, h.2⟩
   | succ i => exact ⟨h.1, ih h.2 k⟩
theorem Sat.setn {Γ : Shp S} {s : S} {σ : DSt} {i : Nat} {o : Option D} (h : Sat Γ s σ) : Sat (Γ.set i none) s (σ.set i o) := h.set trivial
theorem On.setn {s : S} : ∀ {Γ : Shp S} {σ : DSt} {i : Nat}, Sat Γ s σ -> Sat (Γ.set i none) s σ := by
 intro Γ
 induction Γ with
 | nil => intro σ i h; exact h
 | cons a Γ ih =>
  intro σ i h;cases σ with
  | nil => exact h.elim
  | cons x σ =>
   cases i with
   | zero => exact ⟨trivial, h.2⟩
   | succ i => exact ⟨h.1, ih h.2⟩
inductive Fr (u : S -> S) : Shp S -> Prop
 | nil : Fr u []
 | non {Γ} : Fr u Γ -> Fr u (none :: Γ)
 | som {l : Sl S} {Γ} : (∀ s d, l.r (l.get s) d -> l.r (l.get (u s)) d) -> Fr u Γ -> Fr u (some l :: Γ)
theorem Fr.sat {u : S -> S} {s : S} : ∀ {Γ : Shp S} {σ : DSt}, Fr u Γ -> Sat Γ s σ -> Sat Γ (u s) σ := by
 intro Γ σ l
 induction l generalizing σ with
 | nil => intro h; cases σ <;> exact h
 | non l ih =>
  intro h;cases σ with
  | nil => exact h.elim
  | cons x σ => exact ⟨trivial, ih h.2⟩
 | som f1 l ih =>
  intro h;cases σ with
  | nil => exact h.elim
  | cons x σ =>
   obtain ⟨d, e, hd⟩ := h.1;exact ⟨⟨d, e, f1 s d hd⟩, ih h.2⟩
class Wk (r r' : Rl α) : Prop where
 w : ∀ a d, r a d -> r' a d
instance (priority := high) Wk.refl {r : Rl α} : Wk r r := ⟨fun _ _ h => h⟩
inductive Le : Shp S -> Shp S -> Prop
 | nil : Le [] []
 | non {a} {Γ Γ'} : Le Γ Γ' -> Le (a :: Γ) (none :: Γ')
 | som {α : Type} {g : S -> α} {r r' : Rl α} {Γ Γ'} : Wk r r' -> Le Γ Γ' -> Le (some ⟨g, r⟩ :: Γ) (some ⟨g, r'⟩ :: Γ')
theorem Le.sat {s : S} : ∀ {Γ Γ' : Shp S} {σ : DSt}, Le Γ Γ' -> Sat Γ s σ -> Sat Γ' s σ := by
 intro Γ Γ' σ l
 induction l generalizing σ with
 | nil => intro h; exact h
 | non l ih =>
  intro h;cases σ with
  | nil => exact h.elim
  | cons x σ => exact ⟨trivial, ih h.2⟩
 | som w l ih =>
  intro h;cases σ with
  | nil => exact h.elim
  | cons x σ =>
   obtain ⟨d, e, hd⟩ := h.1;exact ⟨⟨d, e, w.w _ _ hd⟩, ih h.2⟩
theorem Le.refl : ∀ {Γ : Shp S}, Le Γ Γ
 | [] => .nil
 | none :: _ => .non Le.refl
 | some ⟨_, _⟩ :: _ => .som Wk.refl Le.refl
noncomputable def szC (n : Nat) : Bool := decide (n <= sizeLine)
noncomputable def ltC (n : Nat) : Bool := decide (n < sizeLine)
theorem szC_le {n : Nat} (h : szC n = true) : n <= sizeLine := of_decide_eq_true h
theorem ltC_lt {n : Nat} (h : ltC n = true) : n < sizeLine := of_decide_eq_true h
noncomputable def rI : Rl Int := fun i d => d = .int i
noncomputable def rB : Rl Bool := fun b d => d = .bl b
noncomputable def rS : Rl Str := fun x d => d = .str x
noncomputable def rN : Rl Unit := fun _ d => d = .non
noncomputable def rA : Rl Unit := fun _ _ => True
noncomputable def rTy (t : String) : Rl Unit := fun _ d => d = .ty t
inductive All2 (r : Rl α) : List α -> List D -> Prop
 | nil : All2 r [] []
 | cons {a d as ds} : r a d -> All2 r as ds -> All2 r (a :: as) (d :: ds)
noncomputable def rL (r : Rl α) : Rl (List α) := fun xs d => ∃ ds, d = .lst true ds /\ All2 r xs ds
noncomputable def rM (r : Rl α) : Rl (List α) := fun xs d => ∃ o ds, d = .lst o ds /\ All2 r xs ds
noncomputable def rT2 (r : Rl α) (q : Rl β) : Rl (α × β) := fun p d => ∃ x y, d = .tup [x, y] /\ r p.1 x /\ q p.2 y
noncomputable def rP : Rl PyData := fun p d => d.py = some p /\ d.fz = d
theorem All2.len {r : Rl α} {as : List α} {ds : List D} (h : All2 r as ds) : as.length = ds.length := by
 induction h with
 | nil => rfl
 | cons _ _ ih => simp [ih]
theorem All2.mono {r r' : Rl α} (k : ∀ a d, r a d -> r' a d) {as : List α} {ds : List D} (h : All2 r as ds) : All2 r' as ds := by
 induction h with
 | nil => exact .nil
 | cons a _ ih => exact .cons (k _ _ a) ih
theorem All2.get {r : Rl α} {as : List α} {ds : List D} {i : Nat} {a : α} (h : All2 r as ds) : as[i]? = some a -> ∃ d, ds[i]? = some d /\ r a d := by
 induction h generalizing i with
 | nil => intro e; simp at e
 | cons h0 _ ih =>
  intro e;cases i with
  | zero => simp at e; subst e; exact ⟨_, rfl, h0⟩
  | succ i => simpa using ih (i := i) (by simpa using e)
theorem All2.set {r : Rl α} {as : List α} {ds : List D} {i : Nat} {a : α} {d : D} (h : All2 r as ds) (k : r a d) : All2 r (as.set i a) (ds.set i d) := by
 induction h generalizing i with
 | nil => exact .nil
 | cons h0 h ih =>
  cases i with
  | zero => exact .cons k h
  | succ i => exact .cons h0 ih
theorem All2.append {r : Rl α} {as bs : List α} {ds es : List D} (h : All2 r as ds) (k : All2 r bs es) : All2 r (as ++ bs) (ds ++ es) := by
 induction h with
 | nil => exact k
 | cons h0 _ ih => exact .cons h0 ih
theorem All2.rep {r : Rl α} {a : α} {d : D} (h : r a d) : ∀ n, All2 r (List.replicate n a) (List.replicate n d)
 | 0 => .nil
 | n + 1 => .cons h (All2.rep h n)
theorem All2.flat {r : Rl α} {as : List α} {ds : List D} (h : All2 r as ds) : ∀ n, All2 r (List.replicate n as).flatten (List.replicate n ds).flatten
 | 0 => .nil
 | n + 1 => by rw [List.replicate_succ, List.replicate_succ, List.flatten_cons, List.flatten_cons]; exact h.append (h.flat n)
theorem All2.ofMap {r : Rl α} {f : β -> α} {g : β -> D} (k : ∀ b, r (f b) (g b)) : ∀ bs : List β, All2 r (bs.map f) (bs.map g)
 | [] => .nil
 | b :: bs => .cons (k b) (All2.ofMap k bs)
theorem rI_map : ∀ ns : List Int, All2 rI ns (ns.map D.int)
 | [] => .nil
 | _ :: ns => .cons rfl (rI_map ns)
class Fz (r : Rl α) (r' : outParam (Rl α)) : Prop where
 f : ∀ a d, r a d -> r' a d.fz
theorem All2.fz {r r' : Rl α} (k : ∀ a d, r a d -> r' a d.fz) {as : List α} {ds : List D} (h : All2 r as ds) : All2 r' as (D.fzL ds) := by
 induction h with
 | nil => exact .nil
 | cons a _ ih => exact .cons (k _ _ a) ih
instance : Fz rI rI := ⟨fun _ _ h => by cases h; rfl⟩
instance : Fz rS rS := ⟨fun _ _ h => by cases h; rfl⟩
instance {r r' : Rl α} [k : Fz r r'] : Fz (rL r) (rM r') := ⟨fun _ _ ⟨ds, e, h⟩ => ⟨false, D.fzL ds, by rw [e, D.fz], h.fz k.f⟩⟩
instance {r r' : Rl α} [k : Fz r r'] : Fz (rM r) (rM r') := ⟨fun _ _ ⟨o, ds, e, h⟩ => ⟨false, D.fzL ds, by rw [e, D.fz], h.fz k.f⟩⟩
instance {r r' : Rl α} {q q' : Rl β} [k : Fz r r'] [l : Fz q q'] : Fz (rT2 r q) (rT2 r' q') := ⟨fun _ _ ⟨x, y, e, h1, h2⟩ => ⟨x.fz, y.fz, by rw [e]; simp only [D.fz, D.fzL], k.f _ _ h1, l.f _ _ h2⟩⟩
instance {r r' : Rl α} [k : Wk r r'] : Wk (rL r) (rM r') := ⟨fun _ _ ⟨ds, e, h⟩ => ⟨true, ds, e, h.mono k.w⟩⟩
class Sc (r : Rl α) : Prop where
 s : ∀ a d, r a d -> ∃ w, d.sc = some w
instance : Sc rI := ⟨fun _ _ h => by cases h; exact ⟨_, rfl⟩⟩
instance : Sc rB := ⟨fun _ _ h => by cases h; exact ⟨_, rfl⟩⟩
instance : Sc rS := ⟨fun _ _ h => by cases h; exact ⟨_, rfl⟩⟩
class Ns (r : Rl α) : Prop where
 s : ∀ a d, r a d -> d.sc = none
instance {r : Rl α} : Ns (rL r) := ⟨fun _ _ hq0 => by obtain ⟨_, e, _⟩ := hq0; rw [e]; rfl⟩
instance {r : Rl α} : Ns (rM r) := ⟨fun _ _ hq0 => by obtain ⟨_, _, e, _⟩ := hq0; rw [e]; rfl⟩
class Ls (r : Rl (List α)) (q : outParam (Rl α)) : Prop where
 l : ∀ xs d, r xs d -> ∃ o ds, d = .lst o ds /\ All2 q xs ds
instance {r : Rl α} : Ls (rL r) r := ⟨fun _ _ ⟨ds, e, h⟩ => ⟨true, ds, e, h⟩⟩
instance {r : Rl α} : Ls (rM r) r := ⟨fun _ _ ⟨o, ds, e, h⟩ => ⟨o, ds, e, h⟩⟩
end
section
variable {S : Type} {α β γ δ ρ : Type} {Γ Γ1 Γ2 Γ3 Γ' Γn : Shp S}
inductive TR (S ρ : Type) where
 | nx (s : S) | rt (v : ρ) (s : S) | bk (s : S) | ct (s : S)
noncomputable def JP (Γ : Shp S) (p : DP) (f : S -> Option α) (r : Rl α) : Prop := ∀ s σ v, Sat Γ s σ -> f s = some v -> ∃ d, p σ = some d /\ r v d
noncomputable def JE (Γ : Shp S) (c : DE) (f : S -> Option (α × S)) (r : Rl α) (Γ' : Shp S) : Prop := ∀ s σ v s', Sat Γ s σ -> f s = some (v, s') -> ∃ d σ', c σ = some (d, σ') /\ r v d /\ Sat Γ' s' σ'
noncomputable def JT (Γ : Shp S) (t : DT) (f : S -> Option (Bool × S)) (Γ' : Shp S) : Prop := ∀ s σ b s', Sat Γ s σ -> f s = some (b, s') -> ∃ σ', t σ = some (b, σ') /\ Sat Γ' s' σ'
noncomputable def JL (Γ : Shp S) (c : DA) (f : S -> Option (List α × S)) (r : Rl α) (Γ' : Shp S) : Prop := ∀ s σ v s', Sat Γ s σ -> f s = some (v, s') -> ∃ ds σ', c σ = some (ds, σ') /\ All2 r v ds /\ Sat Γ' s' σ'
noncomputable def JI (Γ : Shp S) (c : DI) (f : S -> Option (List α × S)) (r : Rl α) (Γ' : Shp S) : Prop := ∀ s σ v s', Sat Γ s σ -> f s = some (v, s') -> ∃ ds σ', c σ = some (ds, σ') /\ All2 r v ds /\ Sat Γ' s' σ'
noncomputable def JG (Γ : Shp S) (g : DG) (put : S -> α -> S) (r : Rl α) (Γ' : Shp S) : Prop := ∀ s σ v d, Sat Γ s σ -> r v d -> ∃ σ', g d σ = some σ' /\ Sat Γ' (put s v) σ'
structure Ex (S ρ : Type) where
 rt : Shp S
 ro : Rl ρ
 lp : Shp S
noncomputable def Rs (Γn : Shp S) (E : Ex S ρ) : TR S ρ -> Out -> Prop
 | .nx s, .nx σ => Sat Γn s σ
 | .rt v s, .rt d σ => E.ro v d /\ Sat E.rt s σ
 | .bk s, .bk σ => Sat E.lp s σ
 | .ct s, .ct σ => Sat E.lp s σ
 | _, _ => False
noncomputable def JS (Γ : Shp S) (c : DS) (f : S -> Option (TR S ρ)) (Γn : Shp S) (E : Ex S ρ) : Prop := ∀ s σ t, Sat Γ s σ -> f s = some t -> ∃ o, c σ = some o /\ Rs Γn E t o
theorem bd {α β : Type} {o : Option α} {f : α -> Option β} {b : β} (h : o.bind f = some b) : ∃ a, o = some a /\ f a = some b := by
 cases o with
 | none => cases h
 | some a => exact ⟨a, rfl, h⟩
theorem mp {α β : Type} {o : Option α} {f : α -> β} {b : β} (h : o.map f = some b) : ∃ a, o = some a /\ f a = b := by
 cases o with
 | none => cases h
 | some a => exact ⟨a, rfl, Option.some.inj h⟩
theorem jp_v (i : Nat) {get : S -> α} {r : Rl α} (h : Γ[i]? = some (some ⟨get, r⟩)) : JP Γ (pV i) (fun s => some (get s)) r := fun s σ v hs e => by
 obtain ⟨d, h1, h2⟩ := hs.get h;cases e;exact ⟨d, h1, h2⟩
theorem jp_c {d : D} (v : α) {r : Rl α} (h : r v d) : JP Γ (pC d) (fun _ => some v) r := fun s σ w hs e => by cases e; exact ⟨d, rfl, h⟩
theorem jp_i (i : Int) : JP Γ (pC (.int i)) (fun _ => some i) rI := jp_c i rfl
theorem jp_b (i : Bool) : JP Γ (pC (.bl i)) (fun _ => some i) rB := jp_c i rfl
theorem jp_s (i : Str) : JP Γ (pC (.str i)) (fun _ => some i) rS := jp_c i rfl
theorem jp_ty (t : String) : JP Γ (pC (.ty t)) (fun _ => some ()) (rTy t) := jp_c () rfl
noncomputable def JO (g : D -> D -> Option D) (h : α -> β -> Option γ) (ra : Rl α) (rb : Rl β) (rc : Rl γ) : Prop := ∀ a b c x y, h a b = some c -> ra a x -> rb b y -> ∃ z, g x y = some z /\ rc c z
theorem jp_op {g : D -> D -> Option D} {h : α -> β -> Option γ} {ra : Rl α} {rb : Rl β} {rc : Rl γ} {p q : DP} {f1 : S -> Option α} {f2 : S -> Option β} (o : JO g h ra rb rc) (h1 : JP Γ p f1 ra) (h2 : JP Γ q f2 rb) :
  JP Γ (pOp g p q) (fun s => (f1 s).bind fun a => (f2 s).bind fun b => h a b) rc := fun s σ v hs e => by
 obtain ⟨a, e1, e⟩ := bd e;obtain ⟨b, e2, e⟩ := bd e;obtain ⟨x, hx, rx⟩ := h1 s σ a hs e1;obtain ⟨y, hy, ry⟩ := h2 s σ b hs e2;obtain ⟨z, hz, rz⟩ := o a b v x y e rx ry;exact ⟨z, by simp only [pOp, hx, hy, bind_some, hz], rz⟩
theorem jo_I0 {f : Int -> Int -> Int} : JO (gI0 f) (fun a b => some (f a b)) rI rI rI := fun a b c x y e h1 h2 => by cases h1; cases h2; cases e; exact ⟨_, rfl, rfl⟩
theorem jo_I {C : Int -> Int -> Bool} {f : Int -> Int -> Int} : JO (gI C f) (fun a b => if C a b = true then some (f a b) else none) rI rI rI := fun a b c x y e h1 h2 => by
 cases h1; cases h2;dsimp only at e;split at e
 ·rename_i h; cases e; exact ⟨_, if_pos h, rfl⟩
 ·cases e
noncomputable def mulN (i j : Int) : Bool := Nat.ble i.natAbs 9223372036854775808 || Nat.ble j.natAbs 9223372036854775808
theorem mulN_ok {i j : Int} (h : mulN i j = true) : mulC i j = true := by
 simp only [mulN, Bool.or_eq_true, Nat.ble_eq] at h;simp only [mulC, decide_eq_true_eq];omega
theorem jo_mul : JO gMul (fun a b => if mulN a b = true then some (a * b) else none) rI rI rI := fun a b c x y e h1 h2 => by
 cases h1; cases h2;dsimp only at e;split at e
 ·rename_i h; cases e; exact ⟨_, if_pos (mulN_ok h), rfl⟩
 ·cases e
noncomputable def rokC (i : Int) : Bool := Nat.ble i.natAbs 1000000000
theorem rokC_ok {i : Int} (h : rokC i = true) : rOk i = true := by
 simp only [rokC, Nat.ble_eq] at h;simp only [rOk, decide_eq_true_eq];omega
theorem jo_B0 {f : Int -> Int -> Bool} : JO (gB0 f) (fun a b => some (f a b)) rI rI rB := fun a b c x y e h1 h2 => by cases h1; cases h2; cases e; exact ⟨_, rfl, rfl⟩
theorem jp_neg {p : DP} {f : S -> Option Int} (h : JP Γ p f rI) : JP Γ (pNeg p) (fun s => (f s).map fun a => -a) rI := fun s σ v hs e => by
 obtain ⟨a, e1, e2⟩ := mp e;obtain ⟨x, hx, rx⟩ := h s σ a hs e1;cases rx; cases e2;exact ⟨_, by simp only [pNeg, hx, bind_some, gNeg], rfl⟩
class Py {α : Type} (r : Rl α) where
 pe : α -> PyData
 ok : α -> Bool
 k : Nat
 py : ∀ a d, r a d -> d.py = some (pe a)
 lay : ∀ a, ok a = true -> (pe a).canLay0 = true
 dep : ∀ a, ok a = true -> (pe a).depth <= k
class EqR {α β : Type} (r : Rl α) (q : Rl β) [Py r] [Py q] (f : outParam (α -> β -> Bool)) : Prop where
 eqv : ∀ a b, PyData.eqv (Py.pe r a) (Py.pe q b) = f a b
instance : Py rI := ⟨PyData.int, fun _ => true, 0, fun _ _ h => by cases h; rfl, fun _ _ => rfl, fun _ _ => Nat.le_refl _⟩
instance : Py rS := ⟨PyData.str, PyData.strOk, 0, fun _ _ h => by cases h; rfl, fun _ h => h, fun _ _ => Nat.le_refl _⟩
theorem pyL_of {r : Rl α} [k : Py r] : ∀ {as : List α} {ds : List D}, All2 r as ds -> D.pyL ds = some (as.map (Py.pe r)) := by
 intro as ds h
 induction h with
 | nil => rfl
 | cons h t ih => simp only [D.pyL, k.py _ _ h, ih, bind_some, map_some, List.map_cons]
theorem layL_of {r : Rl α} [k : Py r] : ∀ {as : List α}, as.all (Py.ok r) = true -> PyData.canLayAll0 (as.map (Py.pe r)) = true
 | [], _ => rfl
 | a :: as, h => by
  simp only [List.all_cons, Bool.and_eq_true] at h;simp only [List.map_cons, PyData.canLayAll0, k.lay _ h.1, layL_of h.2, Bool.and_self]
theorem depL_of {r : Rl α} [k : Py r] : ∀ {as : List α}, as.all (Py.ok r) = true -> PyData.depthAll (as.map (Py.pe r)) <= Py.k r
 | [], _ => Nat.zero_le _
 | a :: as, h => by
  simp only [List.all_cons, Bool.and_eq_true] at h;simp only [List.map_cons, PyData.depthAll]; exact Nat.max_le.mpr ⟨k.dep a h.1, depL_of h.2⟩
instance {r : Rl (List α)} {q : Rl α} [l : Ls r q] [k : Py q] : Py r := ⟨fun as => .list (as.map (Py.pe q)), fun as => as.all (Py.ok q), Py.k q + 1,
 fun a d h => by obtain ⟨o, ds, e, h⟩ := l.l a d h; rw [e]; simp only [D.py, pyL_of h, map_some], fun a h => by simp only [PyData.canLay0]; exact layL_of h, fun a h => by simp only [PyData.depth]; have := depL_of (r := q) (as := a) h; omega⟩
noncomputable def eqL (f : α -> β -> Bool) : List α -> List β -> Bool
 | [], [] => true
 | a :: as, b :: bs => f a b && eqL f as bs
 | _, _ => false
instance : EqR rI rI (fun a b => a == b) := ⟨fun a b => by simp only [Py.pe, PyData.eqv]⟩
instance : EqR rS rS (fun a b => a == b) := ⟨fun a b => by simp only [Py.pe, PyData.eqv]⟩
theorem eqvL {r : Rl α} {q : Rl β} [Py r] [Py q] {f : α -> β -> Bool} [k : EqR r q f] : ∀ {as : List α} {bs : List β}, PyData.eqvAll (as.map (Py.pe r)) (bs.map (Py.pe q)) = eqL f as bs
 | [], [] => rfl
 | [], _ :: _ => rfl
 | _ :: _, [] => rfl
 | a :: as, b :: bs => by simp only [List.map_cons, PyData.eqvAll, eqL, k.eqv a b, eqvL]
instance {r : Rl (List α)} {q : Rl (List β)} {r' : Rl α} {q' : Rl β} [Ls r r'] [Ls q q'] [Py r'] [Py q'] {f : α -> β -> Bool} [k : EqR r' q' f] : EqR r q (eqL f) := ⟨fun a b => by simp only [Py.pe, PyData.eqv]; exact eqvL⟩
theorem py_ok {r : Rl α} {q : Rl β} [kr : Py r] [kq : Py q] {a : α} {b : β} (h : (Py.ok r a && Py.ok q b && decide (min (Py.k r) (Py.k q) <= 50)) = true) : pyOk (Py.pe r a) (Py.pe q b) = true := by
 simp only [Bool.and_eq_true, decide_eq_true_eq] at h;simp only [pyOk, kr.lay _ h.1.1, kq.lay _ h.1.2, Bool.and_self, Bool.true_and, decide_eq_true_eq];have h1 := kr.dep a h.1.1;have h2 := kq.dep b h.1.2;omega
theorem jo_eq {r : Rl α} {q : Rl β} [kr : Py r] [kq : Py q] {f : α -> β -> Bool} [k : EqR r q f] : JO gEq (fun a b => if (Py.ok r a && Py.ok q b && decide (min (Py.k r) (Py.k q) <= 50)) = true then some (f a b) else none) r q rB := fun a b c x y e h1 h2 => by
 dsimp only at e;split at e
 ·rename_i h
  cases e;exact ⟨_, by simp only [gEq, kr.py _ _ h1, kq.py _ _ h2, bind_some, py_ok h, if_true, k.eqv], rfl⟩
 ·cases e
theorem jo_ne {r : Rl α} {q : Rl β} [kr : Py r] [kq : Py q] {f : α -> β -> Bool} [k : EqR r q f] : JO gNe (fun a b => if (Py.ok r a && Py.ok q b && decide (min (Py.k r) (Py.k q) <= 50)) = true then some (!f a b) else none) r q rB := fun a b c x y e h1 h2 => by
 dsimp only at e;split at e
 ·rename_i h
  cases e;exact ⟨_, by simp only [gNe, kr.py _ _ h1, kq.py _ _ h2, bind_some, py_ok h, if_true, k.eqv], rfl⟩
 ·cases e
theorem All2.at {r : Rl α} {as : List α} {ds : List D} {i : Int} {a : α} (h : All2 r as ds) (e : atI as i = some a) : ∃ d, atI ds i = some d /\ r a d := by
 unfold atI at e ⊢;rw [<- h.len];obtain ⟨j, e1, e2⟩ := bd e;obtain ⟨d, h1, h2⟩ := h.get e2;exact ⟨d, by rw [e1]; exact h1, h2⟩
theorem jo_ix {r : Rl (List α)} {q : Rl α} [l : Ls r q] : JO ixD (fun (xs : List α) i => atI xs i) r rI q := fun a b c x y e h1 h2 => by
 obtain ⟨o, ds, e1, h⟩ := l.l a x h1;cases h2; subst e1;exact h.at e
noncomputable def JB1 (g : List D -> Option D) (h : α -> Option γ) (ra : Rl α) (rc : Rl γ) : Prop := ∀ a c x, h a = some c -> ra a x -> ∃ z, g [x] = some z /\ rc c z
noncomputable def JB2 (g : List D -> Option D) (h : α -> β -> Option γ) (ra : Rl α) (rb : Rl β) (rc : Rl γ) : Prop := ∀ a b c x y, h a b = some c -> ra a x -> rb b y -> ∃ z, g [x, y] = some z /\ rc c z
theorem jp_b1 {g : List D -> Option D} {h : α -> Option γ} {ra : Rl α} {rc : Rl γ} {p : DP} {f : S -> Option α} (o : JB1 g h ra rc) (h1 : JP Γ p f ra) : JP Γ (pCall g [p]) (fun s => (f s).bind h) rc := fun s σ v hs e => by
 obtain ⟨a, e1, e⟩ := bd e;obtain ⟨x, hx, rx⟩ := h1 s σ a hs e1;obtain ⟨z, hz, rz⟩ := o a v x e rx;exact ⟨z, by simp only [pCall, evB, hx, bind_some, map_some, hz], rz⟩
theorem jp_b2 {g : List D -> Option D} {h : α -> β -> Option γ} {ra : Rl α} {rb : Rl β} {rc : Rl γ} {p q : DP} {f1 : S -> Option α} {f2 : S -> Option β} (o : JB2 g h ra rb rc) (h1 : JP Γ p f1 ra) (h2 : JP Γ q f2 rb) : JP Γ (pCall g [p, q]) (fun s => (f1 s).bind fun a => (f2 s).bind fun b => h a b) rc := fun s σ v hs e => by
 obtain ⟨a, e1, e⟩ := bd e;obtain ⟨b, e2, e⟩ := bd e;obtain ⟨x, hx, rx⟩ := h1 s σ a hs e1;obtain ⟨y, hy, ry⟩ := h2 s σ b hs e2;obtain ⟨z, hz, rz⟩ := o a b v x y e rx ry;exact ⟨z, by simp only [pCall, evB, hx, hy, bind_some, map_some, hz], rz⟩
theorem jb_len {r : Rl (List α)} {q : Rl α} [l : Ls r q] : JB1 lenD (fun xs : List α => some (xs.length : Int)) r rI := fun a c x e h => by
 obtain ⟨o, ds, e1, hh⟩ := l.l a x h;cases e; subst e1;exact ⟨_, rfl, by rw [hh.len]; rfl⟩
theorem jb_intB : JB1 intD (fun b : Bool => some (if b then (1 : Int) else 0)) rB rI := fun a c x e h => by cases h; cases e; exact ⟨_, rfl, rfl⟩
theorem jb_abs : JB1 absD (fun i : Int => some (if i < 0 then -i else i)) rI rI := fun a c x e h => by cases h; cases e; exact ⟨_, rfl, rfl⟩
class Kd (r : Rl α) (k : outParam String) : Prop where
 k : ∀ a d t, r a d -> isiD [d, .ty t] = (isiT k t).map .bl
instance : Kd rI "int" := ⟨fun _ _ _ h => by cases h; rfl⟩
instance : Kd rS "str" := ⟨fun _ _ _ h => by cases h; rfl⟩
instance {r : Rl (List α)} {q : Rl α} [l : Ls r q] : Kd r "list" := ⟨fun a d _ h => by obtain ⟨o, ds, e1, h⟩ := l.l a d h; rw [e1]; rfl⟩
theorem jb_isi {r : Rl α} {k t : String} [n : Kd r k] : JB2 isiD (fun (_ : α) (_ : Unit) => isiT k t) r (rTy t) rB := fun a b c x y e h1 h2 => by
 cases h2;dsimp only at e;exact ⟨_, by rw [n.k a x t h1, e]; rfl, rfl⟩
end
section
variable {S : Type} {α β γ δ ρ : Type} {Γ Γ0 Γ1 Γ2 Γ3 Γ4 Γ' Γn Γh : Shp S} {c c' : DE} {t u : DT} {E : Ex S ρ}
theorem je_s {p : DP} {f : S -> Option α} {r : Rl α} [k : Sc r] (h : JP Γ p f r) : JE Γ (dS p) (fun s => (f s).map fun a => (a, s)) r Γ := fun s σ v s' hs e => by
 obtain ⟨a, e1, e2⟩ := mp e;cases e2;obtain ⟨d, hd, rd⟩ := h s σ v hs e1;obtain ⟨w, hw⟩ := k.s _ _ rd;exact ⟨d, σ, by simp only [dS, hd, bind_some, hw], rd, hs⟩
theorem je_cp (i : Nat) {get : S -> α} {r r' : Rl α} [k : Fz r r'] (h : Γ[i]? = some (some ⟨get, r⟩)) : JE Γ (dCp i) (fun s => some (get s, s)) r' (Γ.set i (some ⟨get, r'⟩)) := fun s σ v s' hs e => by
 obtain ⟨d, h1, h2⟩ := hs.get h;cases e;exact ⟨d.fz, _, by simp only [dCp, h1, map_some], k.f _ _ h2, hs.set ⟨_, rfl, k.f _ _ h2⟩⟩
theorem je_mv (i : Nat) {get : S -> α} {r : Rl α} (h : Γ[i]? = some (some ⟨get, r⟩)) : JE Γ (dMv i) (fun s => some (get s, s)) r (Γ.set i none) := fun s σ v s' hs e => by
 obtain ⟨d, h1, h2⟩ := hs.get h;cases e;exact ⟨d, σ.set i none, by simp only [dMv, h1, map_some], h2, hs.setn⟩
theorem je_op {g : D -> D -> Option D} {h : α -> β -> Option γ} {ra : Rl α} {rb : Rl β} {rc : Rl γ} {f1 : S -> Option (α × S)} {f2 : S -> Option (β × S)} (o : JO g h ra rb rc) (h1 : JE Γ c f1 ra Γ1) (h2 : JE Γ1 c' f2 rb Γ2) :
  JE Γ (dOp g c c') (fun s => (f1 s).bind fun p => (f2 p.2).bind fun q => (h p.1 q.1).map fun v => (v, q.2)) rc Γ2 := fun s σ v s' hs e => by
 obtain ⟨⟨a, s1⟩, e1, e⟩ := bd e;obtain ⟨⟨b, s2⟩, e2, e⟩ := bd e;obtain ⟨w, e3, e⟩ := mp e;cases e;obtain ⟨x, σ1, hx, rx, k1⟩ := h1 s σ a s1 hs e1;obtain ⟨y, σ2, hy, ry, k2⟩ := h2 s1 σ1 b s2 k1 e2;obtain ⟨z, hz, rz⟩ := o a b v x y e3 rx ry;exact ⟨z, σ2, by simp only [dOp, hx, hy, bind_some, hz, map_some], rz, k2⟩
theorem je_ix {r : Rl (List α)} {q : Rl α} [l : Ls r q] {f1 : S -> Option (List α × S)} {f2 : S -> Option (Int × S)} (h1 : JE Γ c f1 r Γ1) (h2 : JE Γ1 c' f2 rI Γ2) :
  JE Γ (dIx c c') (fun s => (f1 s).bind fun p => (f2 p.2).bind fun q => (atI p.1 q.1).map fun v => (v, q.2)) q Γ2 := je_op jo_ix h1 h2
theorem je_if {r r1 r2 : Rl α} {f : S -> Option (Bool × S)} {g h : S -> Option (α × S)} [w1 : Wk r1 r] [w2 : Wk r2 r] (h0 : JT Γ t f Γ0) (h1 : JE Γ0 c g r1 Γ1) (h2 : JE Γ0 c' h r2 Γ2) (l : autoParam (Le Γ1 Γ') Ax10._auto_1) (l2 : autoParam (Le Γ2 Γ') Ax10._auto_1) : JE Γ (dIfE t c c') (fun s => (f s).bind fun p => if p.1 = true then g p.2 else h p.2) r Γ' := fun s σ v s' hs e => by
 obtain ⟨⟨a, s1⟩, e1, e2⟩ := bd e;obtain ⟨σ1, hx, k1⟩ := h0 s σ a s1 hs e1;cases a
 ·simp only [Bool.false_eq_true, if_false] at e2
  obtain ⟨y, σ2, hy, ry, k2⟩ := h2 s1 σ1 v s' k1 e2;exact ⟨y, σ2, by simp only [dIfE, hx, bind_some, hy, Bool.false_eq_true, if_false], w2.w _ _ ry, l2.sat k2⟩
 ·simp only [if_true] at e2
  obtain ⟨y, σ2, hy, ry, k2⟩ := h1 s1 σ1 v s' k1 e2;exact ⟨y, σ2, by simp only [dIfE, hx, bind_some, hy, if_true], w1.w _ _ ry, l.sat k2⟩
theorem jl_nil {r : Rl α} : JL Γ aNil (fun s => some ([], s)) r Γ := fun s σ v s' hs e => by cases e; exact ⟨[], σ, rfl, .nil, hs⟩
theorem jl_cons {r : Rl α} {ca : DA} {f : S -> Option (α × S)} {g : S -> Option (List α × S)} (h1 : JE Γ c f r Γ1) (h2 : JL Γ1 ca g r Γ2) : JL Γ (aCons c ca) (fun s => (f s).bind fun p => (g p.2).map fun q => (p.1 :: q.1, q.2)) r Γ2 := fun s σ v s' hs e => by
 obtain ⟨⟨a, s1⟩, e1, e⟩ := bd e;obtain ⟨⟨b, s2⟩, e2, e⟩ := mp e;cases e;obtain ⟨x, σ1, hx, rx, k1⟩ := h1 s σ a s1 hs e1;obtain ⟨ys, σ2, hy, ry, k2⟩ := h2 s1 σ1 b s2 k1 e2;exact ⟨x :: ys, σ2, by simp only [aCons, hx, hy, bind_some, map_some], .cons rx ry, k2⟩
theorem je_lst {r : Rl α} {ca : DA} {f : S -> Option (List α × S)} (h : JL Γ ca f r Γ1) : JE Γ (dLst ca) (fun s => (f s).bind fun p => if szC (p.1.length) = true then some p else none) (rL r) Γ1 := fun s σ v s' hs e => by
 obtain ⟨⟨a, s1⟩, e1, e⟩ := bd e;obtain ⟨ds, σ1, hx, rx, k1⟩ := h s σ a s1 hs e1;dsimp only at e;split at e
 ·rename_i hl
  have hl := szC_le hl;cases e;exact ⟨_, σ1, by simp only [dLst, hx, bind_some, <- rx.len, hl, if_true], ⟨ds, rfl, rx⟩, k1⟩
 ·cases e
theorem szl {n : Nat} (h : n <= 100) : n <= sizeLine := Nat.le_of_lt (L2.small1000 oM)
theorem aC_some {c : DE} {ca : DA} {σ σ1 σ2 : DSt} {x : D} {xs : List D} (h : c σ = some (x, σ1)) (h' : ca σ1 = some (xs, σ2)) : aCons c ca σ = some (x :: xs, σ2) := by
 simp only [aCons, h, h', bind_some, map_some]
theorem dT_some {ca : DA} {σ σ1 : DSt} {xs : List D} (h : ca σ = some (xs, σ1)) (hl : xs.length <= 100) : dTup ca σ = some (.tup xs, σ1) := by
 simp only [dTup, h, bind_some, szl hl, if_true]
theorem je_t2 {a b : DE} {ra : Rl α} {rb : Rl β} {f : S -> Option (α × S)} {g : S -> Option (β × S)} (h1 : JE Γ a f ra Γ1) (h2 : JE Γ1 b g rb Γ2) : JE Γ (dTup (aCons a (aCons b aNil))) (fun s => (f s).bind fun p => (g p.2).map fun q => ((p.1, q.1), q.2)) (rT2 ra rb) Γ2 := fun s σ v s' hs e => by
 obtain ⟨⟨a, s1⟩, e1, e⟩ := bd e;obtain ⟨⟨b, s2⟩, e2, e⟩ := mp e;cases e;obtain ⟨x, σ1, hx, rx, k1⟩ := h1 s σ a s1 hs e1;obtain ⟨y, σ2, hy, ry, k2⟩ := h2 s1 σ1 b s2 k1 e2;exact ⟨_, σ2, dT_some (aC_some hx (aC_some hy rfl)) (Nat.le_of_ble_eq_true rfl), ⟨x, y, rfl, rx, ry⟩, k2⟩
theorem je_b1 {g : List D -> Option D} {h : α -> Option γ} {ra : Rl α} {rc : Rl γ} {f : S -> Option (α × S)} (o : JB1 g h ra rc) (h1 : JE Γ c f ra Γ1) : JE Γ (dCallB g (aCons c aNil)) (fun s => (f s).bind fun p => (h p.1).map fun v => (v, p.2)) rc Γ1 := fun s σ v s' hs e => by
 obtain ⟨⟨a, s1⟩, e1, e⟩ := bd e;obtain ⟨w, e3, e⟩ := mp e;cases e;obtain ⟨x, σ1, hx, rx, k1⟩ := h1 s σ a s1 hs e1;obtain ⟨z, hz, rz⟩ := o a v x e3 rx;exact ⟨z, σ1, by simp only [dCallB, aCons, aNil, hx, bind_some, map_some, hz], rz, k1⟩
theorem All2.sc {r : Rl α} [k : Sc r] : ∀ {as : List α} {ds : List D}, All2 r as ds -> allSc ds = true
 | _, _, .nil => rfl
 | _, _, .cons h t => by
  obtain ⟨w, hw⟩ := k.s _ _ h
  have := All2.sc t
  unfold allSc at this ⊢;rw [List.all_cons, hw, this]; rfl
noncomputable def repC (len : Nat) (n : Int) : Bool := Nat.ble n.natAbs 16777216 && Nat.ble (len * n.toNat) 16777216
theorem repC_ok {len : Nat} {n : Int} (h : repC len n = true) : -(2 ^ 63) <= n /\ n < 2 ^ 63 /\ len * n.toNat <= sizeLine := by
 simp only [repC, Bool.and_eq_true, Nat.ble_eq] at h;refine ⟨by omega, by omega, ?_⟩;have e : sizeLine = 16777216 := by decide
 rw [e]; exact h.2
theorem je_rep {r : Rl α} [k : Sc r] {f : S -> Option (List α × S)} {g : S -> Option (Int × S)} (h1 : JE Γ c f (rL r) Γ1) (h2 : JE Γ1 c' g rI Γ2) : JE Γ (dRep c c') (fun s => (f s).bind fun p => (g p.2).bind fun q => if repC p.1.length q.1 = true then some ((List.replicate q.1.toNat p.1).flatten, q.2) else none) (rL r) Γ2 := fun s σ v s' hs e => by
 obtain ⟨⟨a, s1⟩, e1, e⟩ := bd e;obtain ⟨⟨b, s2⟩, e2, e⟩ := bd e;dsimp only at e;split at e
 ·rename_i hl
  cases e;obtain ⟨x, σ1, hx, ⟨xs, rfl, rx⟩, k1⟩ := h1 s σ a s1 hs e1;obtain ⟨y, σ2, hy, ry, k2⟩ := h2 s1 σ1 b _ k1 e2;cases ry;have hsc : allSc xs = true := rx.sc;have hl := repC_ok hl;refine ⟨_, σ2, ?_, ⟨_, rfl, rx.flat b.toNat⟩, k2⟩;simp only [dRep, hx, hy, bind_some];exact if_pos ⟨hsc, hl.1, hl.2.1, by rw [<- rx.len]; exact hl.2.2⟩
 ·cases e
noncomputable def JOp (Γ : Shp S) (p : Option DP) (f : S -> Option (Option Int)) : Prop := ∀ s σ v, Sat Γ s σ -> f s = some v -> evO p σ = some v
theorem jop_none : JOp Γ none (fun _ => some none) := fun s σ v hs e => by cases e; rfl
theorem jop_some {p : DP} {f : S -> Option Int} (h : JP Γ p f rI) : JOp Γ (some p) (fun s => (f s).map some) := fun s σ v hs e => by
 obtain ⟨a, e1, e2⟩ := mp e;obtain ⟨x, hx, rx⟩ := h s σ a hs e1;cases rx; cases e2;simp only [evO, hx, bind_some]
theorem Sat.put {i : Nat} {get : S -> α} {put : S -> α -> S} {r : Rl α} {s : S} {σ : DSt} {v : α} {d : D} (hs : Sat Γ s σ) (hg : ∀ s v, get (put s v) = v) (hf : ∀ v, Fr (fun s => put s v) (Γ.set i none)) (h : r v d) : Sat (Γ.set i (some ⟨get, r⟩)) (put s v) (σ.set i (some d)) := by
 have h1 := (hf v).sat (On.setn (i := i) hs);have h2 := h1.set (i := i) (l := some ⟨get, r⟩) (o := some d) ⟨d, rfl, by rw [show (Sl.mk get r).get = get from rfl, hg]; exact h⟩;rw [List.set_set] at h2;exact h2
theorem je_appV (i : Nat) {get : S -> List α} {put : S -> List α -> S} {rl : Rl (List α)} {r q : Rl α} [l : Ls rl q] {f : S -> Option (α × S)} (h : JE Γ c f r Γ1) (h0 : Γ[i]? = some (some ⟨get, rl⟩)) (hi : Γ1[i]? = some (some ⟨get, rL r⟩)) (hg : autoParam (∀ s v, get (put s v) = v) Ax8._auto_1) (hf : autoParam (∀ v, Fr (fun s => put s v) (Γ1.set i none)) Ax11._auto_1) :
  JE Γ (dAppV i c) (fun s => (f s).bind fun p => if ltC ((get p.2).length) = true then some ((), put p.2 (get p.2 ++ [p.1])) else none) rN (Γ1.set i (some ⟨get, rL r⟩)) := fun s σ v s' hs e => by
 obtain ⟨⟨a, s1⟩, e1, e⟩ := bd e;dsimp only at e;split at e
 ·rename_i hl
  have hl := ltC_lt hl;cases e;obtain ⟨x, σ1, hx, rx, k1⟩ := h s σ a s1 hs e1;obtain ⟨d0, hd0, h00⟩ := hs.get h0;obtain ⟨o0, ds0, rfl, _⟩ := l.l _ _ h00;obtain ⟨d, hd, ds, rfl, h2⟩ := k1.get hi;exact ⟨.non, _, by simp only [dAppV, hd0, hx, bind_some, hd, <- h2.len, hl, if_true], rfl, k1.put hg hf ⟨_, rfl, h2.append (.cons rx .nil)⟩⟩
 ·cases e
theorem jt_e {f : S -> Option (Bool × S)} (h : JE Γ c f rB Γ1) : JT Γ (dTest c) f Γ1 := fun s σ v s' hs e => by
 obtain ⟨d, σ1, h1, h2, h3⟩ := h s σ v s' hs e;cases h2;exact ⟨σ1, by simp only [dTest, h1, bind_some], h3⟩
theorem jt_not {f : S -> Option (Bool × S)} (h : JT Γ t f Γ1) : JT Γ (tNotD t) (fun s => (f s).map fun p => (!p.1, p.2)) Γ1 := fun s σ v s' hs e => by
 obtain ⟨⟨a, s1⟩, e1, e2⟩ := mp e;obtain ⟨σ1, h1, h2⟩ := h s σ a s1 hs e1;cases e2;exact ⟨σ1, by simp only [tNotD, h1, map_some], h2⟩
theorem jt_and {f g : S -> Option (Bool × S)} (h1 : JT Γ t f Γ1) (h2 : JT Γ1 u g Γ2) (l : autoParam (Le Γ1 Γ') Ax10._auto_1) (l2 : autoParam (Le Γ2 Γ') Ax10._auto_1) : JT Γ (tAndD t u) (fun s => (f s).bind fun p => if p.1 = true then g p.2 else some (false, p.2)) Γ' := fun s σ v s' hs e => by
 obtain ⟨⟨a, s1⟩, e1, e2⟩ := bd e;obtain ⟨σ1, hx, k1⟩ := h1 s σ a s1 hs e1;cases a
 ·simp only [Bool.false_eq_true, if_false] at e2
  cases e2;exact ⟨σ1, by simp only [tAndD, hx, bind_some, Bool.false_eq_true, if_false], l.sat k1⟩
 ·simp only [if_true] at e2
  obtain ⟨σ2, hy, k2⟩ := h2 s1 σ1 v s' k1 e2;exact ⟨σ2, by simp only [tAndD, hx, bind_some, hy, if_true], l2.sat k2⟩
theorem jt_or {f g : S -> Option (Bool × S)} (h1 : JT Γ t f Γ1) (h2 : JT Γ1 u g Γ2) (l : autoParam (Le Γ1 Γ') Ax10._auto_1) (l2 : autoParam (Le Γ2 Γ') Ax10._auto_1) : JT Γ (tOrD t u) (fun s => (f s).bind fun p => if p.1 = true then some (true, p.2) else g p.2) Γ' := fun s σ v s' hs e => by
 obtain ⟨⟨a, s1⟩, e1, e2⟩ := bd e;obtain ⟨σ1, hx, k1⟩ := h1 s σ a s1 hs e1;cases a
 ·simp only [Bool.false_eq_true, if_false] at e2
  obtain ⟨σ2, hy, k2⟩ := h2 s1 σ1 v s' k1 e2;exact ⟨σ2, by simp only [tOrD, hx, bind_some, hy, Bool.false_eq_true, if_false], l2.sat k2⟩
 ·simp only [if_true] at e2
  cases e2;exact ⟨σ1, by simp only [tOrD, hx, bind_some, if_true], l.sat k1⟩
theorem jt_true : JT Γ tTrue (fun s => some (true, s)) Γ := fun s σ v s' hs e => by cases e; exact ⟨σ, rfl, hs⟩
noncomputable def tSeq (f g : S -> Option (TR S ρ)) : S -> Option (TR S ρ) := fun s => (f s).bind fun r => match r with | .nx s' => g s' | .rt v s' => some (.rt v s') | .bk s' => some (.bk s') | .ct s' => some (.ct s')
theorem js_dead {c : DS} : JS Γ c (fun _ => none) Γn E := fun s σ v hs e => by cases e
theorem js_seq {a b : DS} {f g : S -> Option (TR S ρ)} (h1 : JS Γ a f Γ1 E) (h2 : JS Γ1 b g Γ2 E) : JS Γ (sSeq a b) (tSeq f g) Γ2 E := fun s σ v hs e => by
 obtain ⟨r, e1, e2⟩ := bd e;obtain ⟨o, ho, ro⟩ := h1 s σ r hs e1;cases r with
 | nx s' =>
  cases o with
  | nx σ' =>
   obtain ⟨o2, h3, r3⟩ := h2 s' σ' v ro e2;exact ⟨o2, by simp only [sSeq, ho, bind_some, h3], r3⟩
  | _ => exact ro.elim
 | rt w s' =>
  cases e2;cases o with
  | rt d σ' => exact ⟨.rt d σ', by simp only [sSeq, ho, bind_some], ro⟩
  | _ => exact ro.elim
 | bk s' =>
  cases e2;cases o with
  | bk σ' => exact ⟨.bk σ', by simp only [sSeq, ho, bind_some], ro⟩
  | _ => exact ro.elim
 | ct s' =>
  cases e2;cases o with
  | ct σ' => exact ⟨.ct σ', by simp only [sSeq, ho, bind_some], ro⟩
  | _ => exact ro.elim
theorem js_le {a : DS} {f : S -> Option (TR S ρ)} (h : JS Γ a f Γ1 E) (l : Le Γ1 Γn) : JS Γ a f Γn E := fun s σ v hs e => by
 obtain ⟨o, ho, ro⟩ := h s σ v hs e;refine ⟨o, ho, ?_⟩;cases v <;> cases o <;> first | exact l.sat ro | exact ro
theorem js_set (i : Nat) {get : S -> α} {put : S -> α -> S} {r : Rl α} {f : S -> Option (α × S)} (h : JE Γ c f r Γ1) (hg : autoParam (∀ s v, get (put s v) = v) Ax8._auto_1) (hf : autoParam (∀ v, Fr (fun s => put s v) (Γ1.set i none)) Ax11._auto_1) (hi : autoParam (i < Γ1.length) Ax1._auto_1) :
  JS Γ (sSet i c) (fun s => (f s).map fun p => .nx (put p.2 p.1)) (Γ1.set i (some ⟨get, r⟩)) E := fun s σ v hs e => by
 obtain ⟨⟨a, s1⟩, e1, e2⟩ := mp e;cases e2;obtain ⟨d, σ1, h1, h2, h3⟩ := h s σ a s1 hs e1;have hl : i < σ1.length := by rw [h3.len]; exact hi
 exact ⟨.nx (σ1.set i (some d)), by simp only [sSet, h1, bind_some, hl, if_true], h3.put hg hf h2⟩
theorem js_if {a b : DS} {ft : S -> Option (Bool × S)} {f g : S -> Option (TR S ρ)} (h0 : JT Γ t ft Γ0) (h1 : JS Γ0 a f Γ1 E) (h2 : JS Γ0 b g Γ2 E) (l1 : autoParam (Le Γ1 Γ') Ax10._auto_1) (l2 : autoParam (Le Γ2 Γ') Ax10._auto_1) : JS Γ (sIf t a b) (fun s => (ft s).bind fun p => if p.1 = true then f p.2 else g p.2) Γ' E := fun s σ v hs e => by
 obtain ⟨⟨b, s1⟩, e1, e2⟩ := bd e;obtain ⟨σ1, hx, k1⟩ := h0 s σ b s1 hs e1;cases b
 ·simp only [Bool.false_eq_true, if_false] at e2
  obtain ⟨o, ho, ro⟩ := (js_le h2 l2) s1 σ1 v k1 e2;exact ⟨o, by simp only [sIf, hx, bind_some, ho, Bool.false_eq_true, if_false], ro⟩
 ·simp only [if_true] at e2
  obtain ⟨o, ho, ro⟩ := (js_le h1 l1) s1 σ1 v k1 e2;exact ⟨o, by simp only [sIf, hx, bind_some, ho, if_true], ro⟩
theorem js_ret {r : Rl ρ} {f : S -> Option (ρ × S)} (h : JE Γ c f r Γ1) (w : autoParam (Wk r E.ro) Ax12._auto_1) (l : autoParam (Le Γ1 E.rt) Ax10._auto_1) : JS Γ (sRet c) (fun s => (f s).map fun p => .rt p.1 p.2) Γn E := fun s σ v hs e => by
 obtain ⟨⟨a, s1⟩, e1, e2⟩ := mp e;cases e2;obtain ⟨d, σ1, h1, h2, h3⟩ := h s σ a s1 hs e1;exact ⟨.rt d σ1, by simp only [sRet, h1, map_some], w.w _ _ h2, l.sat h3⟩
theorem js_drop {r : Rl α} {f : S -> Option (α × S)} (h : JE Γ c f r Γ1) : JS Γ (sDrop c) (fun s => (f s).map fun p => .nx p.2) Γ1 E := fun s σ v hs e => by
 obtain ⟨⟨a, s1⟩, e1, e2⟩ := mp e;cases e2;obtain ⟨d, σ1, h1, h2, h3⟩ := h s σ a s1 hs e1;exact ⟨.nx σ1, by simp only [sDrop, h1, map_some], h3⟩
theorem js_skip : JS Γ sSkip (fun s => some (.nx s)) Γ E := fun s σ v hs e => by cases e; exact ⟨_, rfl, hs⟩
theorem All2.ix {r : Rl α} {as : List α} {ds : List D} (h : All2 r as ds) {i : Int} : ixN ds.length i = ixN as.length i := by rw [h.len]
theorem js_augS (i : Nat) {get : S -> List α} {put : S -> List α -> S} {r : Rl α} {rb : Rl β} [k : Sc r] {g : D -> D -> Option D} {h : α -> β -> Option α} {q p : DP} {fq : S -> Option Int} {f : S -> Option β} (o : JO g h r rb r) (hq : JP Γ q fq rI) (h1 : JP Γ p f rb) (h0 : Γ[i]? = some (some ⟨get, rL r⟩)) (hg : autoParam (∀ s v, get (put s v) = v) Ax8._auto_1) (hf : autoParam (∀ v, Fr (fun s => put s v) (Γ.set i none)) Ax11._auto_1) :
  JS Γ (sAugIx g i [] q p) (fun s => (fq s).bind fun kk => (ixN (get s).length kk).bind fun j => ((get s)[j]?).bind fun x => (f s).bind fun y => (h x y).map fun z => .nx (put s ((get s).set j z))) (Γ.set i (some ⟨get, rL r⟩)) E := fun s σ v hs e => by
 obtain ⟨kk, e1, e⟩ := bd e;obtain ⟨j, e2, e⟩ := bd e;obtain ⟨x, e3, e⟩ := bd e;obtain ⟨y, e4, e⟩ := bd e;obtain ⟨z, e5, e⟩ := mp e;cases e;obtain ⟨d, hd, ds, rfl, h2⟩ := hs.get h0;obtain ⟨dq, hdq, rq⟩ := hq s σ kk hs e1;cases rq;obtain ⟨dx, hdx, rx⟩ := h2.get e3;obtain ⟨wv, hw⟩ := k.s _ _ rx;obtain ⟨dy, hdy, ry⟩ := h1 s σ y hs e4;obtain ⟨dz, hdz, rz⟩ := o _ _ _ _ _ e5 rx ry;exact ⟨.nx _, by simp only [sAugIx, hd, evI, getP, bind_some, hdq, h2.ix, e2, hdx, hw, hdy, hdz, map_some, setP], hs.put hg hf ⟨_, rfl, h2.set rz⟩⟩
theorem jg_nm (i : Nat) {get : S -> α} {put : S -> α -> S} {r : Rl α} (hg : autoParam (∀ s v, get (put s v) = v) Ax8._auto_1) (hf : autoParam (∀ v, Fr (fun s => put s v) (Γ.set i none)) Ax11._auto_1) (hi : autoParam (i < Γ.length) Ax1._auto_1) : JG Γ (gNm i) put r (Γ.set i (some ⟨get, r⟩)) := fun s σ v d hs h => by
 have hl : i < σ.length := by rw [hs.len]; exact hi
 exact ⟨_, by simp only [gNm, hl, if_true], hs.put hg hf h⟩
theorem jg_t2 {g1 g2 : DG} {p1 : S -> α -> S} {p2 : S -> β -> S} {ra : Rl α} {rb : Rl β} (h1 : JG Γ g1 p1 ra Γ1) (h2 : JG Γ1 g2 p2 rb Γ2) : JG Γ (gTupD 2 (gConsD g1 (gConsD g2 gNilD))) (fun s v => p2 (p1 s v.1) v.2) (rT2 ra rb) Γ2 := fun s σ v d hs hq0 => by
 obtain ⟨x, y, e, hx, hy⟩ := hq0;obtain ⟨σ1, e1, k1⟩ := h1 s σ v.1 x hs hx;obtain ⟨σ2, e2, k2⟩ := h2 _ σ1 v.2 y k1 hy;exact ⟨σ2, by simp only [e, gTupD, gConsD, gNilD, List.length_cons, List.length_nil, e1, e2, bind_some, if_true], k2⟩
theorem js_setS (i : Nat) {get : S -> List α} {put : S -> List α -> S} {r : Rl α} {q : DP} {fq : S -> Option Int} {f : S -> Option (α × S)} (h : JE Γ c f r Γ1) (hq : JP Γ1 q fq rI) (h0 : Γ1[i]? = some (some ⟨get, rL r⟩)) (hg : autoParam (∀ s v, get (put s v) = v) Ax8._auto_1) (hf : autoParam (∀ v, Fr (fun s => put s v) (Γ1.set i none)) Ax11._auto_1) :
  JS Γ (sAsg c (gSet i [] q)) (fun s => (f s).bind fun p => (fq p.2).bind fun kk => (ixN (get p.2).length kk).map fun j => .nx (put p.2 ((get p.2).set j p.1))) (Γ1.set i (some ⟨get, rL r⟩)) E := fun s σ v hs e => by
 obtain ⟨⟨a, s1⟩, e1, e⟩ := bd e;obtain ⟨kk, e2, e⟩ := bd e;obtain ⟨j, e3, e⟩ := mp e;cases e;obtain ⟨d, σ1, h1, h2, h3⟩ := h s σ a s1 hs e1;obtain ⟨dq, hdq, rq⟩ := hq s1 σ1 kk h3 e2;cases rq;obtain ⟨d', hd, ds, rfl, h4⟩ := h3.get h0;dsimp only at e3;exact ⟨.nx _, by simp only [sAsg, h1, bind_some, gSet, hd, evI, getP, hdq, h4.ix, e3, map_some, setP], h3.put hg hf ⟨_, rfl, h4.set h2⟩⟩
theorem ji_lst {rl : Rl (List α)} {r r' : Rl α} [l : Ls rl r] [k : Fz r r'] {f : S -> Option (List α × S)} (h : JE Γ c f rl Γ1) : JI Γ (iLst c) f r' Γ1 := fun s σ v s' hs e => by
 obtain ⟨d, σ1, h1, h2, h3⟩ := h s σ v s' hs e;obtain ⟨o, ds, rfl, h⟩ := l.l v d h2;exact ⟨_, σ1, by simp only [iLst, h1, bind_some], h.fz k.f, h3⟩
noncomputable def rng (lo hi : Int) : List Int := (List.range (hi - lo).toNat).map fun (k : Nat) => lo + k
theorem rng_ok (lo hi : Int) : All2 rI (rng lo hi) (rngD lo hi) := by unfold rng rngD; exact All2.ofMap (r := rI) (f := fun (k : Nat) => lo + k) (g := fun (k : Nat) => D.int (lo + k)) (fun _ => rfl) _
theorem ji_r1 {f : S -> Option (Int × S)} (h : JE Γ c f rI Γ1) : JI Γ (iR1 (aCons c aNil)) (fun s => (f s).bind fun p => if rokC p.1 = true then some (rng 0 p.1, p.2) else none) rI Γ1 := fun s σ v s' hs e => by
 obtain ⟨⟨a, s1⟩, e1, e⟩ := bd e;dsimp only at e;split at e
 ·rename_i hl
  cases e;obtain ⟨d, σ1, h1, h2, h3⟩ := h s σ a _ hs e1;cases h2;refine ⟨_, σ1, ?_, rng_ok _ _, h3⟩;simp only [iR1, aCons, aNil, h1, bind_some, map_some];exact if_pos (rokC_ok hl)
 ·cases e
theorem ji_r2 {f g : S -> Option (Int × S)} (h : JE Γ c f rI Γ1) (h' : JE Γ1 c' g rI Γ2) : JI Γ (iR2 (aCons c (aCons c' aNil))) (fun s => (f s).bind fun p => (g p.2).bind fun q => if (rokC p.1 && rokC q.1) = true then some (rng p.1 q.1, q.2) else none) rI Γ2 := fun s σ v s' hs e => by
 obtain ⟨⟨a, s1⟩, e1, e⟩ := bd e;obtain ⟨⟨b, s2⟩, e2, e⟩ := bd e;dsimp only at e;split at e
 ·rename_i hl
  cases e;obtain ⟨d, σ1, h1, h2, h3⟩ := h s σ a s1 hs e1;obtain ⟨d', σ2, h4, h5, h6⟩ := h' s1 σ1 b _ h3 e2;cases h2; cases h5;refine ⟨_, σ2, ?_, rng_ok _ _, h6⟩;simp only [iR2, aCons, aNil, h1, h4, bind_some, map_some];simp only [Bool.and_eq_true] at hl;exact if_pos (by rw [rokC_ok hl.1, rokC_ok hl.2]; rfl)
 ·cases e
theorem zip_ok {ra ra' : Rl α} {rb rb' : Rl β} (ka : ∀ a d, ra a d -> ra' a d.fz) (kb : ∀ a d, rb a d -> rb' a d.fz) : ∀ {as : List α} {bs : List β} {ds es : List D}, All2 ra as ds -> All2 rb bs es -> All2 (rT2 ra' rb') (as.zip bs) (((D.fzL ds).zip (D.fzL es)).map fun z => .tup [z.1, z.2]) := by
 intro as bs ds es h
 induction h generalizing bs es with
 | nil => intro _; simp only [List.zip_nil_left, D.fzL, List.map_nil]; exact .nil
 | cons h1 t1 ih =>
  intro k;cases k with
  | nil => simp only [List.zip_nil_right, D.fzL, List.map_nil]; exact .nil
  | cons h2 t2 =>
   simp only [List.zip_cons_cons, D.fzL, List.map_cons];exact .cons ⟨_, _, rfl, ka _ _ h1, kb _ _ h2⟩ (ih t2)
theorem ji_zip {rl : Rl (List α)} {ra ra' : Rl α} {rm : Rl (List β)} {rb rb' : Rl β} [l : Ls rl ra] [k : Fz ra ra'] [l2 : Ls rm rb] [k2 : Fz rb rb'] {f : S -> Option (List α × S)} {g : S -> Option (List β × S)} (h : JE Γ c f rl Γ1) (h' : JE Γ1 c' g rm Γ2) : JI Γ (iZipD c c') (fun s => (f s).bind fun p => (g p.2).map fun q => (p.1.zip q.1, q.2)) (rT2 ra' rb') Γ2 := fun s σ v s' hs e => by
 obtain ⟨⟨a, s1⟩, e1, e⟩ := bd e;obtain ⟨⟨b, s2⟩, e2, e⟩ := mp e;cases e;obtain ⟨d, σ1, h1, h2, h3⟩ := h s σ a s1 hs e1;obtain ⟨d', σ2, h4, h5, h6⟩ := h' s1 σ1 b s2 h3 e2;obtain ⟨o, ds, rfl, hh⟩ := l.l a d h2;obtain ⟨o', ds', rfl, hh'⟩ := l2.l b d' h5;exact ⟨_, σ2, by simp only [iZipD, h1, h4, bind_some], zip_ok k.f k2.f hh hh', h6⟩
noncomputable def tLoop (put : S -> α -> S) (b : S -> Option (TR S ρ)) : List α -> S -> Option (TR S ρ)
 | [], s => some (.nx s)
 | x :: xs, s => (b (put s x)).bind fun o => match o with
  | .nx s2 => tLoop put b xs s2
  | .ct s2 => tLoop put b xs s2
  | .bk s2 => some (.nx s2)
  | .rt d s2 => some (.rt d s2)
theorem loop_ok {g : DG} {put : S -> α -> S} {r : Rl α} {b : DS} {fb : S -> Option (TR S ρ)} {Γx Γb : Shp S} (hg : JG Γh g put r Γx) (hb : JS Γx b fb Γb ⟨E.rt, E.ro, Γh⟩) (lb : Le Γb Γh) : ∀ {xs : List α} {ds : List D} {s : S} {σ : DSt} {t : TR S ρ}, All2 r xs ds -> Sat Γh s σ -> tLoop put fb xs s = some t -> ∃ o, dLoop g b ds σ = some o /\ Rs Γh E t o := by
 intro xs ds s σ t h0
 induction h0 generalizing s σ t with
 | nil => intro hs e; cases e; exact ⟨_, rfl, hs⟩
 | cons h1 h2 ih =>
  intro hs e;simp only [tLoop] at e;obtain ⟨o, e1, e⟩ := bd e;obtain ⟨σ1, g1, k1⟩ := hg s σ _ _ hs h1;obtain ⟨o', b1, r1⟩ := hb _ σ1 o k1 e1;cases o with
  | nx s2 =>
   cases o' with
   | nx σ2 =>
    obtain ⟨o2, c1, c2⟩ := ih (lb.sat r1) e;exact ⟨o2, by simp only [dLoop, g1, bind_some, b1, c1], c2⟩
   | _ => exact r1.elim
  | ct s2 =>
   cases o' with
   | ct σ2 =>
    obtain ⟨o2, c1, c2⟩ := ih r1 e;exact ⟨o2, by simp only [dLoop, g1, bind_some, b1, c1], c2⟩
   | _ => exact r1.elim
  | bk s2 =>
   cases e;cases o' with
   | bk σ2 => exact ⟨.nx σ2, by simp only [dLoop, g1, bind_some, b1], r1⟩
   | _ => exact r1.elim
  | rt d s2 =>
   cases e;cases o' with
   | rt d' σ2 => exact ⟨.rt d' σ2, by simp only [dLoop, g1, bind_some, b1], r1⟩
   | _ => exact r1.elim
theorem js_for {i : DI} {g : DG} {put : S -> α -> S} {r : Rl α} {b : DS} {fi : S -> Option (List α × S)} {fb : S -> Option (TR S ρ)} {Γx Γb : Shp S} (hi : JI Γ i fi r Γ1) (l : Le Γ1 Γh) (hg : JG Γh g put r Γx) (hb : JS Γx b fb Γb ⟨E.rt, E.ro, Γh⟩) (lb : autoParam (Le Γb Γh) Ax10._auto_1) :
  JS Γ (sForI i g b) (fun s => (fi s).bind fun p => tLoop put fb p.1 p.2) Γh E := fun s σ v hs e => by
 obtain ⟨⟨xs, s1⟩, e1, e⟩ := bd e;obtain ⟨ds, σ1, h1, h2, h3⟩ := hi s σ xs s1 hs e1;obtain ⟨o, h4, h5⟩ := loop_ok hg hb lb h2 (l.sat h3) e;exact ⟨o, by simp only [sForI, h1, bind_some, h4], h5⟩
end
section
variable {S : Type} {α β γ δ ρ : Type} {Γ Γ0 Γ1 Γ2 Γ3 Γ4 Γ' Γn Γh : Shp S} {c c' : DE} {t u : DT} {E : Ex S ρ}
theorem Sat.app : ∀ {Γ Δ : Shp S} {s : S} {σ τ : DSt}, Sat Γ s σ -> Sat Δ s τ -> Sat (Γ ++ Δ) s (σ ++ τ)
 | [], _, _, [], _, _, h => h
 | _ :: Γ, _, _, _ :: σ, _, h, k => ⟨h.1, Sat.app h.2 k⟩
 | [], _, _, _ :: _, _, h, _ => h.elim
 | _ :: _, _, _, [], _, h, _ => h.elim
theorem Sat.split : ∀ {Γ Δ : Shp S} {s : S} {σ : DSt}, Sat (Γ ++ Δ) s σ -> ∃ σ1 σ2, σ = σ1 ++ σ2 /\ Sat Γ s σ1 /\ Sat Δ s σ2
 | [], _, _, σ, h => ⟨[], σ, rfl, trivial, h⟩
 | _ :: Γ, _, _, x :: σ, h => by
  obtain ⟨σ1, σ2, e, h1, h2⟩ := Sat.split (Γ := Γ) h.2;exact ⟨x :: σ1, σ2, by rw [e]; rfl, ⟨h.1, h1⟩, h2⟩
 | _ :: _, _, _, [], h => h.elim
theorem Sat.non {s : S} : ∀ {k : Nat} {σ : DSt}, σ.length = k -> Sat (List.replicate k none) s σ
 | 0, [], _ => trivial
 | k + 1, _ :: σ, h => ⟨trivial, Sat.non (k := k) (by simpa using h)⟩
noncomputable def tLc (ft : α -> S -> Option (Bool × S)) (fe : α -> S -> Option (β × S)) : List α -> S -> Option (List β × S)
 | [], s => some ([], s)
 | x :: xs, s => (ft x s).bind fun p => if p.1 = true then (fe x p.2).bind fun q => (tLc ft fe xs q.2).map fun r => (q.1 :: r.1, r.2) else tLc ft fe xs p.2
noncomputable def JGc (Γ : Shp S) (k : Nat) (g : DG) (r : Rl α) (Δ : α -> Shp S) : Prop := ∀ s σ v d, Sat (Γ ++ List.replicate k none) s σ -> r v d -> ∃ σ', g d σ = some σ' /\ Sat (Γ ++ Δ v) s σ'
theorem set_app {A : List (Option D)} {a b : Option D} {B : DSt} : (A ++ a :: B).set A.length b = A ++ b :: B := by
 rw [List.set_append_right _ _ (Nat.le_refl _)]; simp
theorem jgc1 {r : Rl α} (i : Nat) (hi : i = Γ.length) : JGc Γ 1 (gNm i) r (fun v => [some ⟨fun _ => v, r⟩]) := fun s σ v d hs h => by
 obtain ⟨σ1, σ2, rfl, h1, h2⟩ := hs.split
 match σ2, h2 with
 | [o], _ =>
  have hl : σ1.length = i := by rw [h1.len, hi]
  have hl2 : i < (σ1 ++ [o]).length := by simp [hl]
  refine ⟨σ1 ++ [some d], ?_, h1.app ⟨⟨d, rfl, h⟩, trivial⟩⟩;simp only [gNm, hl2, if_true];rw [<- hl, set_app]
theorem jgc2 {ra : Rl α} {rb : Rl β} (i j : Nat) (hi : i = Γ.length) (hj : j = Γ.length + 1) : JGc Γ 2 (gTupD 2 (gConsD (gNm i) (gConsD (gNm j) gNilD))) (rT2 ra rb) (fun v => [some ⟨fun _ => v.1, ra⟩, some ⟨fun _ => v.2, rb⟩]) := fun s σ v d hs hq0 => by
 obtain ⟨x, y, e, hx, hy⟩ := hq0;obtain ⟨σ1, σ2, rfl, h1, h2⟩ := hs.split
 match σ2, h2 with
 | [o, o'], _ =>
  have hl : σ1.length = i := by rw [h1.len, hi]
  have hl2 : i < (σ1 ++ [o, o']).length := by simp [hl]
  have hl3 : j < (σ1 ++ [some x, o']).length := by simp [hl]; omega
  refine ⟨σ1 ++ [some x, some y], ?_, h1.app ⟨⟨x, rfl, hx⟩, ⟨y, rfl, hy⟩, trivial⟩⟩;have e1 : (σ1 ++ [o, o']).set i (some x) = σ1 ++ [some x, o'] := by rw [<- hl, set_app]
  have e2 : (σ1 ++ [some x, o']).set j (some y) = σ1 ++ [some x, some y] := by
   have h3 : j = (σ1 ++ [some x]).length := by simp; omega
   rw [show σ1 ++ [some x, o'] = (σ1 ++ [some x]) ++ [o'] by simp, h3, set_app]; simp
  simp only [e, gTupD, gConsD, gNilD, gNm, List.length_cons, List.length_nil, if_true, hl2, e1, bind_some, hl3, e2]
theorem lc_ok {k : Nat} {g : DG} {r : Rl α} {re : Rl β} {Δ : α -> Shp S} {ft : α -> S -> Option (Bool × S)} {fe : α -> S -> Option (β × S)} {Γt Γe : α -> Shp S} (hg : JGc Γh k g r Δ) (ht : ∀ x, JT (Γh ++ Δ x) t (ft x) (Γt x)) (l1 : ∀ x, Le (Γt x) (Γh ++ List.replicate k none)) (he : ∀ x, JE (Γt x) c (fe x) re (Γe x)) (l2 : ∀ x, Le (Γe x) (Γh ++ List.replicate k none)) :
  ∀ {xs : List α} {ds : List D} {s : S} {σ : DSt} {ys : List β} {s' : S}, All2 r xs ds -> Sat (Γh ++ List.replicate k none) s σ -> tLc ft fe xs s = some (ys, s') -> ∃ es σ', lcGo g t c ds σ = some (es, σ') /\ All2 re ys es /\ Sat (Γh ++ List.replicate k none) s' σ' := by
 intro xs ds s σ ys s' h0
 induction h0 generalizing s σ ys s' with
 | nil => intro hs e; cases e; exact ⟨[], σ, rfl, .nil, hs⟩
 | cons h1 h2 ih =>
  intro hs e;simp only [tLc] at e;obtain ⟨⟨b, s1⟩, e1, e⟩ := bd e;obtain ⟨σ1, g1, k1⟩ := hg s σ _ _ hs h1;obtain ⟨σ2, g2, k2⟩ := ht _ s σ1 b s1 k1 e1;cases b
  ·simp only [Bool.false_eq_true, if_false] at e
   obtain ⟨es, σ3, g3, r3, k3⟩ := ih ((l1 _).sat k2) e;exact ⟨es, σ3, by simp only [lcGo, g1, bind_some, g2, Bool.false_eq_true, if_false, g3], r3, k3⟩
  ·simp only [if_true] at e
   obtain ⟨⟨v, s2⟩, e2, e⟩ := bd e;obtain ⟨⟨w, s3⟩, e3, e⟩ := mp e;cases e;obtain ⟨d, σ3, g3, r3, k3⟩ := he _ s1 σ2 v s2 k2 e2;obtain ⟨es, σ4, g4, r4, k4⟩ := ih ((l2 _).sat k3) e3;exact ⟨d :: es, σ4, by simp only [lcGo, g1, bind_some, g2, if_true, g3, g4, map_some], .cons r3 r4, k4⟩
theorem je_lc {k : Nat} {i : DI} {g : DG} {r : Rl α} {re : Rl β} {Δ : α -> Shp S} {fi : S -> Option (List α × S)} {ft : α -> S -> Option (Bool × S)} {fe : α -> S -> Option (β × S)} {Γt Γe : α -> Shp S} (hi : JI Γ i fi r Γ1) (l : Le Γ1 Γh) (hg : JGc Γh k g r Δ) (ht : ∀ x, JT (Γh ++ Δ x) t (ft x) (Γt x)) (he : ∀ x, JE (Γt x) c (fe x) re (Γe x)) (l1 : autoParam (∀ x, Le (Γt x) (Γh ++ List.replicate k none)) Ax13._auto_1) (l2 : autoParam (∀ x, Le (Γe x) (Γh ++ List.replicate k none)) Ax13._auto_1) :
  JE Γ (dLc k i g t c) (fun s => (fi s).bind fun p => if szC (p.1.length) = true then tLc ft fe p.1 p.2 else none) (rL re) Γh := fun s σ v s' hs e => by
 obtain ⟨⟨xs, s1⟩, e1, e⟩ := bd e;obtain ⟨ds, σ1, h1, h2, h3⟩ := hi s σ xs s1 hs e1;dsimp only at e;split at e
 ·rename_i hl
  have hl := szC_le hl;have h4 := l.sat h3;obtain ⟨es, σ2, g2, r2, k2⟩ := lc_ok hg ht l1 he l2 h2 (h4.app (Sat.non (k := k) (σ := List.replicate k none) (by simp))) e;obtain ⟨σa, σb, rfl, ka, kb⟩ := k2.split;refine ⟨_, σa, ?_, ⟨es, rfl, r2⟩, ka⟩;have hl2 : ds.length <= sizeLine := by rw [<- h2.len]; exact hl
  have hlen : σ1.length = σa.length := by rw [h4.len, ka.len]
  simp only [dLc, h1, bind_some, hl2, if_true, g2, map_some, hlen, List.take_left]
 ·cases e
noncomputable def Pn : Unit -> List D -> Prop := fun _ ds => ds = []
noncomputable def Pc (r : Rl α) (P : β -> List D -> Prop) : α × β -> List D -> Prop := fun p ds => ∃ d ds', ds = d :: ds' /\ r p.1 d /\ P p.2 ds'
noncomputable def JF {P : Type} (g : GF) (h : P -> Option (ρ × P)) (PI : P -> List D -> Prop) (ro : Rl ρ) (PO : P -> List D -> Prop) : Prop := ∀ p ds v q, PI p ds -> h p = some (v, q) -> ∃ d ds', g ds = some (d, ds') /\ ro v d /\ PO q ds'
noncomputable def JA1 {A : Type} (Γ : Shp S) (as : List DD.Arg) (f : S -> Option (A × S)) (oe : A -> List (Option D) -> Prop) (Γ' : Shp S) : Prop := ∀ s σ a s', Sat Γ s σ -> f s = some (a, s') -> ∃ os σ', evM as σ = some (os, σ') /\ oe a os /\ Sat Γ' s' σ'
noncomputable def o0 : Unit -> List (Option D) -> Prop := fun _ os => os = []
noncomputable def oB {A : Type} (oe : A -> List (Option D) -> Prop) : A -> List (Option D) -> Prop := fun a os => ∃ o', os = none :: o' /\ oe a o'
noncomputable def oX {A : Type} (r : Rl α) (oe : A -> List (Option D) -> Prop) : α × A -> List (Option D) -> Prop := fun a os => ∃ d o', os = some d :: o' /\ r a.1 d /\ oe a.2 o'
theorem ja1_nil : JA1 Γ [] (fun s => some ((), s)) o0 Γ := fun s σ a s' hs e => by cases e; exact ⟨[], σ, rfl, rfl, hs⟩
theorem ja1_bo {A : Type} (i : Nat) {as : List DD.Arg} {f : S -> Option (A × S)} {oe : A -> List (Option D) -> Prop} {l : Sl S} (hi : Γ[i]? = some (some l)) (h : JA1 Γ as f oe Γ') : JA1 Γ (.bo i :: as) f (oB oe) Γ' := fun s σ a s' hs e => by
 obtain ⟨os, σ', h1, h2, h3⟩ := h s σ a s' hs e;obtain ⟨d, hd, _⟩ := hs.get hi;exact ⟨none :: os, σ', by simp only [evM, hd, bind_some, h1, map_some], ⟨os, rfl, h2⟩, h3⟩
theorem ja1_ex {A : Type} {as : List DD.Arg} {f1 : S -> Option (α × S)} {f : S -> Option (A × S)} {oe : A -> List (Option D) -> Prop} {r : Rl α} (h0 : JE Γ c f1 r Γ1) (h : JA1 Γ1 as f oe Γ') : JA1 Γ (.ex c :: as) (fun s => (f1 s).bind fun p => (f p.2).map fun q => ((p.1, q.1), q.2)) (oX r oe) Γ' := fun s σ a s' hs e => by
 obtain ⟨⟨v, s1⟩, e1, e⟩ := bd e;obtain ⟨⟨b, s2⟩, e2, e⟩ := mp e;cases e;obtain ⟨d, σ1, g1, r1, k1⟩ := h0 s σ v s1 hs e1;obtain ⟨os, σ', h1, h2, h3⟩ := h s1 σ1 b s2 k1 e2;exact ⟨some d :: os, σ', by simp only [evM, g1, bind_some, h1, map_some], ⟨d, os, rfl, r1, h2⟩, h3⟩
noncomputable def JA2 {A P : Type} (Γ : Shp S) (as : List DD.Arg) (oe : A -> List (Option D) -> Prop) (pk : A -> S -> P) (PI : P -> List D -> Prop) (Γ' : Shp S) : Prop := ∀ s σ a os, Sat Γ s σ -> oe a os -> ∃ ds σ', fillM as os σ = some (ds, σ') /\ PI (pk a s) ds /\ Sat Γ' s σ'
theorem ja2_nil : JA2 Γ [] o0 (fun _ _ => ()) Pn Γ := fun s σ a os hs e => by cases e; exact ⟨[], σ, rfl, rfl, hs⟩
theorem ja2_sc {A P : Type} (i : Nat) {as : List DD.Arg} {oe : A -> List (Option D) -> Prop} {pk : A -> S -> P} {PI : P -> List D -> Prop} {get : S -> α} {r r' : Rl α} [k : Sc r] [w : Wk r r'] (hi : Γ[i]? = some (some ⟨get, r⟩)) (h : JA2 Γ as oe pk PI Γ') : JA2 Γ (.bo i :: as) (oB oe) (fun a s => (get s, pk a s)) (Pc r' PI) Γ' := fun s σ a os hs hq0 => by
 obtain ⟨o', e, ho⟩ := hq0;obtain ⟨ds, σ', h1, h2, h3⟩ := h s σ a o' hs ho;obtain ⟨d, hd, rd⟩ := hs.get hi;obtain ⟨v, hv⟩ := k.s _ _ rd;exact ⟨d :: ds, σ', by simp only [e, fillM, hd, bind_some, hv, h1, map_some], ⟨d, ds, rfl, w.w _ _ rd, h2⟩, h3⟩
theorem ja2_ns {A P : Type} (i : Nat) {as : List DD.Arg} {oe : A -> List (Option D) -> Prop} {pk : A -> S -> P} {PI : P -> List D -> Prop} {get : S -> α} {r r' : Rl α} [k : Ns r] [w : Wk r r'] (hi : Γ[i]? = some (some ⟨get, r⟩)) (h : JA2 (Γ.set i none) as oe pk PI Γ') : JA2 Γ (.bo i :: as) (oB oe) (fun a s => (get s, pk a s)) (Pc r' PI) Γ' := fun s σ a os hs hq0 => by
 obtain ⟨o', e, ho⟩ := hq0;obtain ⟨d, hd, rd⟩ := hs.get hi;obtain ⟨ds, σ', h1, h2, h3⟩ := h s (σ.set i none) a o' hs.setn ho;have hv := k.s _ _ rd;exact ⟨d :: ds, σ', by simp only [e, fillM, hd, bind_some, hv, h1, map_some], ⟨d, ds, rfl, w.w _ _ rd, h2⟩, h3⟩
theorem ja2_ex {A P : Type} {as : List DD.Arg} {oe : A -> List (Option D) -> Prop} {pk : A -> S -> P} {PI : P -> List D -> Prop} {r r' : Rl α} [w : Wk r r'] (h : JA2 Γ as oe pk PI Γ') : JA2 Γ (.ex c :: as) (oX r oe) (fun a s => (a.1, pk a.2 s)) (Pc r' PI) Γ' := fun s σ a os hs hq0 => by
 obtain ⟨d, o', e, rd, ho⟩ := hq0;obtain ⟨ds, σ', h1, h2, h3⟩ := h s σ a.2 o' hs ho;exact ⟨d :: ds, σ', by simp only [e, fillM, h1, map_some], ⟨d, ds, rfl, w.w _ _ rd, h2⟩, h3⟩
noncomputable def JA3 {P : Type} (Γ : Shp S) (as : List DD.Arg) (PO : P -> List D -> Prop) (u : S -> P -> S) (Γ' : Shp S) : Prop := ∀ s σ q ds, Sat Γ s σ -> PO q ds -> Sat Γ' (u s q) (backM as ds σ)
theorem ja3_nil : JA3 Γ [] Pn (fun s _ => s) Γ := fun s σ q ds hs e => by cases e; exact hs
theorem ja3_sc {P : Type} (i : Nat) {as : List DD.Arg} {PO : P -> List D -> Prop} {u : S -> P -> S} {r : Rl α} [k : Sc r] (h : JA3 Γ as PO u Γ') : JA3 Γ (.bo i :: as) (Pc r PO) (fun s q => u s q.2) Γ' := fun s σ q ds hs hq0 => by
 obtain ⟨d, ds', e, rd, hp⟩ := hq0;obtain ⟨v, hv⟩ := k.s _ _ rd;simp only [e, backM, hv];exact h s σ q.2 ds' hs hp
theorem ja3_ns {P : Type} (i : Nat) {as : List DD.Arg} {PO : P -> List D -> Prop} {u : S -> P -> S} {get : S -> α} {put : S -> α -> S} {r : Rl α} [k : Ns r] (hg : autoParam (∀ s v, get (put s v) = v) Ax8._auto_1) (hf : autoParam (∀ v, Fr (fun s => put s v) (Γ.set i none)) Ax11._auto_1) (h : JA3 (Γ.set i (some ⟨get, r⟩)) as PO u Γ') : JA3 Γ (.bo i :: as) (Pc r PO) (fun s q => u (put s q.1) q.2) Γ' := fun s σ q ds hs hq0 => by
 obtain ⟨d, ds', e, rd, hp⟩ := hq0;have hv := k.s _ _ rd;simp only [e, backM, hv];exact h _ _ q.2 ds' (hs.put hg hf rd) hp
theorem ja3_ex {P : Type} {as : List DD.Arg} {PO : P -> List D -> Prop} {u : S -> P -> S} {r : Rl α} (h : JA3 Γ as PO u Γ') : JA3 Γ (.ex c :: as) (Pc r PO) (fun s q => u s q.2) Γ' := fun s σ q ds hs hq0 => by
 obtain ⟨d, ds', e, rd, hp⟩ := hq0;simp only [e, backM];exact h s σ q.2 ds' hs hp
theorem je_call {A P : Type} {g : GF} {h : P -> Option (ρ × P)} {as : List DD.Arg} {f : S -> Option (A × S)} {oe : A -> List (Option D) -> Prop} {pk : A -> S -> P} {PI PO : P -> List D -> Prop} {ro : Rl ρ} {u : S -> P -> S} (hF : JF g h PI ro PO) (h1 : JA1 Γ as f oe Γ1) (h2 : JA2 Γ1 as oe pk PI Γ2) (h3 : JA3 Γ2 as PO u Γ3) :
  JE Γ (dCall g as) (fun s => (f s).bind fun p => (h (pk p.1 p.2)).map fun q => (q.1, u p.2 q.2)) ro Γ3 := fun s σ v s' hs e => by
 obtain ⟨⟨a, s1⟩, e1, e⟩ := bd e;obtain ⟨⟨w, q⟩, e2, e⟩ := mp e;obtain ⟨rfl, rfl⟩ := Prod.mk.inj e;obtain ⟨os, σ1, g1, r1, k1⟩ := h1 s σ a s1 hs e1;obtain ⟨ds, σ2, g2, r2, k2⟩ := h2 s1 σ1 a os k1 r1;obtain ⟨d, ds', g3, r3, k3⟩ := hF _ _ _ _ r2 e2;exact ⟨d, _, by simp only [dCall, g1, bind_some, g2, g3, map_some], r3, h3 s1 σ2 q ds' k2 k3⟩
end
section
variable {S : Type} {α β γ δ ρ : Type} {P Q : Type}
noncomputable def JI0 (W : List Nat) (k : Nat) (PI : P -> List D -> Prop) (Γ : Shp Q) (pr : P -> Q) : Prop := ∀ p ds, PI p ds -> Sat Γ (pr p) ((inD W k ds).map some) /\ ds.length = Γ.length
theorem jin_nil {W : List Nat} {k : Nat} {pr : Unit -> Q} : JI0 W k Pn ([] : Shp Q) pr := fun p ds h => by cases h; exact ⟨trivial, rfl⟩
theorem jin_cons {W : List Nat} {k : Nat} {PI : P -> List D -> Prop} {Γ : Shp Q} {r : Rl α} {get : Q -> α} {pr : α × P -> Q} (hk : k ∉ W) (h0 : ∀ p, get (pr p) = p.1) (h : ∀ a, JI0 W (k + 1) PI Γ (fun p => pr (a, p))) : JI0 W k (Pc r PI) (some ⟨get, r⟩ :: Γ) pr := fun p ds hq0 => by
 obtain ⟨d, ds', e, rd, hp⟩ := hq0;obtain ⟨h1, h2⟩ := h p.1 p.2 ds' hp;refine ⟨?_, by simp [e, h2]⟩;simp only [e, inD, hk, if_false, List.map_cons];exact ⟨⟨d, rfl, by rw [show (Sl.mk get r).get = get from rfl, h0]; exact rd⟩, h1⟩
noncomputable def JO0 (W : List Nat) (k : Nat) (PI : P -> List D -> Prop) (Γr : Shp S) (fin : P -> S -> P) (PO : P -> List D -> Prop) : Prop := ∀ p ds s σ, PI p ds -> Sat Γr s σ -> PO (fin p s) (outD W σ k ds)
theorem jout_nil {W : List Nat} {k : Nat} {Γr : Shp S} : JO0 W k Pn Γr (fun p _ => p) Pn := fun p ds s σ h _ => by cases h; rfl
theorem jout_keep {W : List Nat} {k : Nat} {PI PO : P -> List D -> Prop} {Γr : Shp S} {fin : P -> S -> P} {r q : Rl α} {get : S -> α} (hk : k ∉ W) (hi : Γr[k]? = some (some ⟨get, q⟩)) (h : JO0 W (k + 1) PI Γr fin PO) : JO0 W k (Pc r PI) Γr (fun p s => (get s, fin p.2 s)) (Pc q PO) := fun p ds s σ hq0 hs => by
 obtain ⟨d, ds', e, rd, hp⟩ := hq0;obtain ⟨d', hd, rd'⟩ := hs.get hi;exact ⟨d', _, by simp only [e, outD, hk, if_false, hd, Option.getD_some], rd', h p.2 ds' s σ hp hs⟩
theorem jf_rt {N : Nat} {W : List Nat} {c : DS} {Γp Γn Γr : Shp S} {f : S -> Option (TR S ρ)} {init : P -> S} {fin : P -> S -> P} {PI PO : P -> List D -> Prop} {ro : Rl ρ} (hi : JI0 W 0 PI Γp init) (hb : JS (Γp ++ List.replicate (N - Γp.length) none) c f Γn ⟨Γr, ro, []⟩) (ho : JO0 W 0 PI Γr fin PO) :
  JF (gOf N W c) (fun p => (f (init p)).bind fun t => match t with | .rt v s => some (v, fin p s) | _ => none) PI ro PO := fun p ds v q hp e => by
 obtain ⟨t, e1, e⟩ := bd e;obtain ⟨h1, h2⟩ := hi p ds hp;have hs := h1.app (Sat.non (s := init p) (k := N - Γp.length) (σ := List.replicate (N - Γp.length) none) (by simp));obtain ⟨o, ho1, ro1⟩ := hb _ _ t hs e1;cases t with
 | rt w s =>
  cases e;cases o with
  | rt d σ => exact ⟨d, _, by simp only [gOf, h2, ho1, bind_some], ro1.1, ho p ds s σ hp ro1.2⟩
  | _ => exact ro1.elim
 | _ => cases e
end
section
variable {S : Type} {α β γ δ ρ : Type} {Γ Γ0 Γ1 Γ2 Γ3 Γ4 Γ' Γn Γh : Shp S} {c c' : DE} {t u : DT} {E : Ex S ρ}
noncomputable def JPL (Γ : Shp S) (ps : List DP) (f : S -> Option (List α)) (r : Rl α) : Prop := ∀ s σ v, Sat Γ s σ -> f s = some v -> ∃ ds, evB ps σ = some ds /\ All2 r v ds
theorem jpl_nil {r : Rl α} : JPL Γ [] (fun _ => some []) r := fun s σ v hs e => by cases e; exact ⟨[], rfl, .nil⟩
theorem jpl_cons {r : Rl α} {p : DP} {ps : List DP} {f : S -> Option α} {g : S -> Option (List α)} (h : JP Γ p f r) (k : JPL Γ ps g r) : JPL Γ (p :: ps) (fun s => (f s).bind fun a => (g s).map fun as => a :: as) r := fun s σ v hs e => by
 obtain ⟨a, e1, e⟩ := bd e;obtain ⟨as, e2, e⟩ := mp e;cases e;obtain ⟨d, h1, h2⟩ := h s σ a hs e1;obtain ⟨ds, h3, h4⟩ := k s σ as hs e2;exact ⟨d :: ds, by simp only [evB, h1, h3, bind_some, map_some], .cons h2 h4⟩
theorem jp_lst {r : Rl α} {ps : List DP} {f : S -> Option (List α)} (h : JPL Γ ps f r) : JP Γ (pLst ps) (fun s => (f s).bind fun xs => if szC (xs.length) = true then some xs else none) (rL r) := fun s σ v hs e => by
 obtain ⟨a, e1, e⟩ := bd e;obtain ⟨ds, h3, h4⟩ := h s σ a hs e1;split at e
 ·rename_i hl
  have hl := szC_le hl;cases e;exact ⟨.lst true ds, by simp only [pLst, h3, bind_some, <- h4.len, hl, if_true], ds, rfl, h4⟩
 ·cases e
end
section
variable {S : Type} {α β γ δ ρ : Type} {Γ Γ0 Γ1 Γ2 Γ3 Γ4 Γ' Γn Γh : Shp S} {c c' : DE} {t u : DT} {E : Ex S ρ} {P : Type}
end
section
variable {S : Type} {α β γ δ ρ : Type} {Γ Γ0 Γ1 Γ2 Γ3 Γ4 Γ' Γn Γh : Shp S} {c c' : DE} {t u : DT} {E : Ex S ρ} {P : Type}
end
section
variable {S : Type} {α β γ δ ρ : Type} {Γ Γ0 Γ1 Γ2 Γ3 Γ4 Γ' Γn Γh : Shp S} {c c' : DE} {t u : DT} {E : Ex S ρ} {P : Type}
theorem bls_ok : ∀ {as : List Bool} {ds : List D}, All2 rB as ds -> blsOf ds = some as := by
 intro as ds h
 induction h with
 | nil => rfl
 | cons h t ih => cases h; simp only [blsOf, ih, map_some]
theorem jb_all {r : Rl (List Bool)} [l : Ls r rB] : JB1 allD (fun xs : List Bool => some (xs.all id)) r rB := fun a c x e h => by
 obtain ⟨o, ds, e1, hh⟩ := l.l a x h;subst e1;cases e;exact ⟨_, by simp only [allD, bls_ok hh, map_some], rfl⟩
theorem je_listB {rl : Rl (List α)} {r : Rl α} [l : Ls rl r] [k : Sc r] {p : DP} {f : S -> Option (List α)} (h : JP Γ p f rl) : JE Γ (dListB p) (fun s => (f s).map fun xs => (xs, s)) (rL r) Γ := fun s σ v s' hs e => by
 obtain ⟨a, e1, e2⟩ := mp e;cases e2;obtain ⟨d, hd, rd⟩ := h s σ v hs e1;obtain ⟨o, ds, rfl, hh⟩ := l.l v d rd;exact ⟨.lst true ds, σ, by simp only [dListB, hd, bind_some, hh.sc, if_true], ⟨ds, rfl, hh⟩, hs⟩
end
end TT
namespace TT
open PySem DD
variable {S α β γ : Type} {Γ Γ1 Γ2 Γ' : Shp S}
theorem any_eq {r : Rl α} {q : Rl β} [Py r] [Py q] {f : α -> β -> Bool} [k : EqR r q f] {b : β} : ∀ {as : List α}, (as.map (Py.pe r)).any (fun z => PyData.eqv z (Py.pe q b)) = as.any fun a => f a b
 | [] => rfl
 | a :: as => by rw [List.map_cons, List.any_cons, List.any_cons, any_eq, k.eqv]
noncomputable def inT (ok : α -> Bool) (f : α -> Bool) (xs : List α) : Option Bool := if xs.all ok = true then some (xs.any f) else none
theorem inL_t {rl : Rl (List α)} {r : Rl α} {q : Rl β} [l : Ls rl r] [kr : Py r] [kq : Py q] {f : α -> β -> Bool} [k : EqR r q f] {b : β} {xs : List α} {t : Bool} {x y : D} (e : inT (fun a => Py.ok r a && Py.ok q b && decide (min (Py.k r) (Py.k q) <= 50)) (fun a => f a b) xs = some t)
  (h1 : q b x) (h2 : rl xs y) : inL x y = some t := by
 unfold inT at e;split at e
 ·rename_i h
  cases e;obtain ⟨o, ds, rfl, h3⟩ := l.l xs y h2;have hp := pyL_of h3;have hall : ((xs.map (Py.pe r)).all fun z => pyOk z (Py.pe q b)) = true := by
   rw [List.all_map];rw [List.all_eq_true] at h ⊢;intro z hz;exact py_ok (h z hz)
  simp only [inL, D.py, hp, map_some, bind_some, kq.py _ _ h1, hall, if_true, any_eq]
 ·cases e
theorem jo_in {rl : Rl (List α)} {r : Rl α} {q : Rl β} [l : Ls rl r] [kr : Py r] [kq : Py q] {f : α -> β -> Bool} [k : EqR r q f] : JO gIn (fun (b : β) (xs : List α) => inT (fun a => Py.ok r a && Py.ok q b && decide (min (Py.k r) (Py.k q) <= 50)) (fun a => f a b) xs) q rl rB := fun a b c x y e h1 h2 =>
 ⟨_, by simp only [gIn, inL_t (rl := rl) (r := r) (q := q) e h1 h2, map_some], rfl⟩
theorem je_clr (i : Nat) {get : S -> List α} {put : S -> List α -> S} {r : Rl α} (hi : Γ[i]? = some (some ⟨get, rL r⟩)) (hg : autoParam (∀ s v, get (put s v) = v) Ax8._auto_1) (hf : autoParam (∀ v, Fr (fun s => put s v) (Γ.set i none)) Ax11._auto_1) :
  JE Γ (dClrV i) (fun s => some ((), put s [])) rN (Γ.set i (some ⟨get, rL r⟩)) := fun s σ v s' hs e => by
 cases e;obtain ⟨d, hd, ds, rfl, h2⟩ := hs.get hi;exact ⟨.non, _, by simp only [dClrV, hd], rfl, hs.put hg hf ⟨[], rfl, .nil⟩⟩
section
variable {c c' : DE} {t u : DT} {Γh : Shp S} {α β : Type}
end
end TT
namespace TT
open PySem DD L2
variable {S α β γ : Type} {Γ Γ1 Γ2 Γ' : Shp S} {c c' : DE} {t u : DT}
noncomputable def enT : Nat -> List α -> List (Int × α)
 | _, [] => []
 | n, x :: xs => ((n : Int), x) :: enT (n + 1) xs
theorem enT_len : ∀ (xs : List α) (n : Nat), (enT n xs).length = xs.length
 | [], _ => rfl
 | _ :: xs, n => by simp [enT, enT_len xs]
theorem all2_en {r : Rl α} : ∀ {xs : List α} {ds : List D} (n : Nat), All2 r xs ds -> All2 (rT2 rI r) (enT n xs) (enD n ds)
 | _, _, n, .nil => .nil
 | _, _, n, .cons h t => .cons ⟨_, _, rfl, rfl, h⟩ (all2_en (n + 1) t)
theorem ji_en (n0 : Nat) {rl : Rl (List α)} {r r' : Rl α} [l : Ls rl r] [k : Fz r r'] {f : S -> Option (List α × S)} (h1 : JE Γ c f rl Γ1) : JI Γ (iEnD n0 c) (fun s => (f s).map fun p => (enT n0 p.1, p.2)) (rT2 rI r') Γ1 := fun s σ v s' hs e => by
 obtain ⟨⟨a, s1⟩, e1, e⟩ := mp e;cases e;obtain ⟨x, σ1, hx, rx, k1⟩ := h1 s σ a s1 hs e1;obtain ⟨o, ds, rfl, h⟩ := l.l a x rx;exact ⟨_, σ1, by simp only [iEnD, hx, bind_some], all2_en n0 (h.fz k.f), k1⟩
variable {S α β γ : Type} {Γ Γ1 : Shp S} {c : DE}
end TT
namespace TT
open PySem L2 DD
section
variable {S : Type} {α β γ δ ρ : Type} {Γ Γ0 Γ1 Γ2 Γ3 Γ4 Γ' Γn Γh : Shp S} {c c' : DE} {t u : DT} {E : Ex S ρ} {P : Type}
noncomputable def two (j : Int) : List Int := (List.range ((j.toNat + 1) / 2)).map fun (k : Nat) => 0 + (k : Int) * 2
end
section
variable {S : Type} {α β γ δ ρ : Type} {Γ Γ0 Γ1 Γ2 Γ3 Γ4 Γ' Γn Γh : Shp S} {c c' : DE} {t u : DT} {E : Ex S ρ} {P : Type}
end
section
variable {S : Type} {α β γ δ ρ : Type} {Γ Γ0 Γ1 Γ2 Γ3 Γ4 Γ' Γn Γh : Shp S} {c c' : DE} {t u : DT} {E : Ex S ρ} {P : Type}
end
end TT
namespace L2
open PySem PySem.Spec PyProof.Rows
section
variable {X : Cx}
end
end L2
namespace DD
open PySem PySem.Spec PyProof.Rows L2
section
variable {X : Cx} {a : Expr} {p : DP} {apos cpos : Pos}
end
end DD
namespace TT
open PySem L2 DD
section
variable {S : Type} {Γ : Shp S}
end
end TT
namespace DD
open PySem PySem.Spec PyProof.Rows L2
section
variable {X : Cx} {b : Expr} {c : DE} {pos npos : Pos}
end
end DD
namespace TT
open PySem DD L2
variable {S α β γ : Type} {Γ Γ1 : Shp S} {c : DE}
end TT
namespace PySem.AutoSeq1
end PySem.AutoSeq1
namespace L2
open PySem PySem.Spec PyProof.Rows
section
variable {X : Cx}
end
end L2
namespace DD
open PySem PySem.Spec PyProof.Rows L2
section
variable {X : Cx} {a b : Expr} {c c' : DE} {pos : Pos}
end
end DD
namespace TT
open PySem L2 DD
section
variable {S : Type} {α β γ δ ρ : Type} {Γ Γ0 Γ1 Γ2 Γ3 Γ4 Γ' Γn Γh : Shp S} {c c' : DE}
end
section
variable {S : Type} {α β γ δ ρ : Type} {Γ Γ0 Γ1 Γ2 Γ3 Γ4 Γ' Γn Γh : Shp S} {c c' : DE} {E : Ex S ρ}
end
section
variable {S α β ρ : Type}
theorem loop_inv {put : S -> α -> S} {b : S -> Option (TR S ρ)} {I : S -> Prop} : ∀ {xs : List α} {s : S}, (∀ s x, x ∈ xs -> I s -> ∃ s', b (put s x) = some (.nx s') /\ I s') -> I s -> ∃ s', tLoop put b xs s = some (.nx s') /\ I s'
 | [], s, _, h => ⟨s, rfl, h⟩
 | x :: xs, s, hb, h => by
  obtain ⟨s1, e1, h1⟩ := hb s x (by simp) h;obtain ⟨s2, e2, h2⟩ := loop_inv (xs := xs) (fun s y hy => hb s y (by simp [hy])) h1;exact ⟨s2, by simp only [tLoop, e1, bind_some, e2], h2⟩
theorem loop_ix {put : S -> α -> S} {b : S -> Option (TR S ρ)} {I : Nat -> S -> Prop} {n : Nat} : ∀ {xs : List α} {s : S}, (∀ k s x, xs[k]? = some x -> I (n + k) s -> ∃ s', b (put s x) = some (.nx s') /\ I (n + k + 1) s') -> I n s -> ∃ s', tLoop put b xs s = some (.nx s') /\ I (n + xs.length) s' := by
 intro xs
 induction xs generalizing n with
 | nil => intro s _ h; exact ⟨s, rfl, h⟩
 | cons x xs ih =>
  intro s hb h;obtain ⟨s1, e1, h1⟩ := hb 0 s x rfl h;obtain ⟨s2, e2, h2⟩ := ih (n := n + 1) (fun k s y hy hi => by
   obtain ⟨s', q1, q2⟩ := hb (k + 1) s y (by simpa using hy) (by rw [show n + (k + 1) = n + 1 + k by omega]; exact hi);exact ⟨s', q1, by rw [show n + 1 + k + 1 = n + (k + 1) + 1 by omega]; exact q2⟩) h1
  exact ⟨s2, by simp only [tLoop, e1, bind_some, e2], by rw [List.length_cons, show n + (xs.length + 1) = n + 1 + xs.length by omega]; exact h2⟩
theorem loop_fold {put : S -> α -> S} {b : S -> Option (TR S ρ)} {γ : Type} {v : S -> γ} {f : γ -> α -> γ} {I : S -> Prop} {J : γ -> Prop} : ∀ {xs : List α} {s : S}, (∀ s x, x ∈ xs -> I s -> J (v s) -> ∃ s', b (put s x) = some (.nx s') /\ I s' /\ v s' = f (v s) x) -> (∀ c x, x ∈ xs -> J c -> J (f c x)) -> I s -> J (v s) -> ∃ s', tLoop put b xs s = some (.nx s') /\ I s' /\ v s' = xs.foldl f (v s)
 | [], s, _, _, h, _ => ⟨s, rfl, h, rfl⟩
 | x :: xs, s, hb, hj, h, j => by
  obtain ⟨s1, e1, h1, v1⟩ := hb s x (by simp) h j;obtain ⟨s2, e2, h2, v2⟩ := loop_fold (xs := xs) (fun s y hy => hb s y (by simp [hy])) (fun c y hy => hj c y (by simp [hy])) h1 (by rw [v1]; exact hj _ _ (by simp) j);exact ⟨s2, by simp only [tLoop, e1, bind_some, e2], h2, by rw [v2, v1]; rfl⟩
theorem lc_map {ft : α -> S -> Option (Bool × S)} {fe : α -> S -> Option (β × S)} {s : S} {f : α -> β} : ∀ {xs : List α}, (∀ x ∈ xs, ft x s = some (true, s)) -> (∀ x ∈ xs, fe x s = some (f x, s)) -> tLc ft fe xs s = some (xs.map f, s) := by
 intro xs
 induction xs with
 | nil => intro _ _; rfl
 | cons x xs ih =>
  intro h k;have ih := ih (fun y hy => h y (List.mem_cons_of_mem _ hy)) (fun y hy => k y (List.mem_cons_of_mem _ hy));simp only [tLc, h x List.mem_cons_self, bind_some, if_true, k x List.mem_cons_self, ih, map_some, List.map_cons]
theorem lc_filter {ft : α -> S -> Option (Bool × S)} {fe : α -> S -> Option (β × S)} {s : S} {f : α -> β} {p : α -> Bool} : ∀ {xs : List α}, (∀ x ∈ xs, ft x s = some (p x, s)) -> (∀ x ∈ xs, p x = true -> fe x s = some (f x, s)) -> tLc ft fe xs s = some ((xs.filter p).map f, s) := by
 intro xs
 induction xs with
 | nil => intro _ _; rfl
 | cons x xs ih =>
  intro h k;have ih := ih (fun y hy => h y (List.mem_cons_of_mem _ hy)) (fun y hy => k y (List.mem_cons_of_mem _ hy));cases hp : p x
  ·rw [List.filter_cons_of_neg (by rw [hp]; decide)]
   simp only [tLc, h x List.mem_cons_self, bind_some, hp, Bool.false_eq_true, if_false, ih]
  ·rw [List.filter_cons_of_pos hp]
   simp only [tLc, h x List.mem_cons_self, bind_some, hp, if_true, k x List.mem_cons_self hp, ih, map_some, List.map_cons]
theorem okI {a b : Int} : (Py.ok rI a && Py.ok rI b && decide (min (Py.k rI) (Py.k rI) <= 50)) = true := rfl
theorem all_true {xs : List α} : (xs.all fun _ => true) = true := by simp
theorem okLL {a b : List Int} : (Py.ok (rL rI) a && Py.ok (rL rI) b && decide (min (Py.k (rL rI)) (Py.k (rL rI)) <= 50)) = true := by
 show ((a.all fun _ => true) && (b.all fun _ => true) && decide (min (0 + 1) (0 + 1) <= 50)) = true;rw [all_true, all_true]; rfl
theorem okMM {a b : List Int} : (Py.ok (rM rI) a && Py.ok (rM rI) b && decide (min (Py.k (rM rI)) (Py.k (rM rI)) <= 50)) = true := okLL
theorem okLM {a b : List Int} : (Py.ok (rL rI) a && Py.ok (rM rI) b && decide (min (Py.k (rL rI)) (Py.k (rM rI)) <= 50)) = true := okLL
theorem eqL_self {f : α -> α -> Bool} (h : ∀ a, f a a = true) : ∀ xs : List α, eqL f xs xs = true
 | [] => rfl
 | x :: xs => by simp only [eqL, h, eqL_self h xs, Bool.and_self]
theorem ift {c : Bool} {a b : α} (h : c = true) : (if c = true then a else b) = a := if_pos h
theorem szn {n : Nat} (h : n <= 1000) : n <= sizeLine := Nat.le_of_lt (L2.small1000 h)
theorem szl' {n : Nat} (h : n <= 1000) : n < sizeLine := L2.small1000 h
theorem szc {n : Nat} (h : n <= 1000) : szC n = true := decide_eq_true (szn h)
theorem ltc {n : Nat} (h : n <= 1000) : ltC n = true := decide_eq_true (szl' h)
theorem at_nat {xs : List α} {j : Nat} (h : j < xs.length) : atI xs (j : Int) = some xs[j] := L2.atI_nat (by simp [h])
theorem rep_c {len : Nat} {z : Int} (h0 : 0 <= z) (h1 : z <= 1000) (h2 : len * z.toNat <= 1000) : repC len z = true := by
 simp only [repC, Bool.and_eq_true, Nat.ble_eq];exact ⟨by omega, by omega⟩
theorem rok {z : Int} (h0 : -1000000 <= z) (h1 : z <= 1000000) : rokC z = true := by
 simp only [rokC, Nat.ble_eq];omega
theorem mulc {x y : Int} (h : (-9223372036854775808 <= x /\ x <= 9223372036854775808) \/ (-9223372036854775808 <= y /\ y <= 9223372036854775808)) : mulN x y = true := by
 simp only [mulN, Bool.or_eq_true, Nat.ble_eq]; omega
theorem fdvc {x : Int} {y : Int} (h : decide (0 < y /\ y.natAbs.log2 < 9000) = true) : fdvC x y = true := h
theorem loop_bindE {put : S -> α -> S} {b : S -> Option (TR S ρ)} {xs : List α} {s : S} {γ : Type} {k : TR S ρ -> Option γ} {P : S -> Prop} (Q : Option γ -> Prop) (h : ∃ s', tLoop put b xs s = some (.nx s') /\ P s') (hk : ∀ s', P s' -> Q (k (.nx s'))) : Q ((tLoop put b xs s).bind k) := by
 obtain ⟨a, e, p⟩ := h;rw [e]; exact hk a p
theorem loop_ixP {put : S -> α -> S} {b : S -> Option (TR S ρ)} {P : S -> Prop} {xs : List α} {s : S} (I : Nat -> S -> Prop) (h0 : I 0 s) (hb : ∀ k s x, xs[k]? = some x -> I k s -> ∃ s', b (put s x) = some (.nx s') /\ I (k + 1) s') (hP : ∀ s', I xs.length s' -> P s') : ∃ s', tLoop put b xs s = some (.nx s') /\ P s' := by
 obtain ⟨s', e, h⟩ := loop_ix (n := 0) (I := I) (fun k s x hx hi => by
  rw [Nat.zero_add] at hi ⊢;exact hb k s x hx hi) h0
 rw [Nat.zero_add] at h;exact ⟨s', e, hP s' h⟩
theorem holds_of {g : GF} {h : List Int × Unit -> Option (Bool × List Int × Unit)} {r : Rl (List Int)} (j : JF g h (Pc (rM rI) Pn) rB (Pc r Pn)) (ht : ∀ ns : List Int, ns.length <= 63 -> ∃ q, h (ns, ()) = some (true, q)) : ∀ ns : List Int, ns.length <= 63 -> ∃ d, g [.lst false (ns.map D.int)] = some (.bl true, [d]) := fun ns hl => by
 obtain ⟨q, e⟩ := ht ns hl;obtain ⟨d, ds', h1, h2, d', ds2, h3, _, h4⟩ := j (ns, ()) [.lst false (ns.map D.int)] true q ⟨_, [], rfl, ⟨false, _, rfl, rI_map ns⟩, rfl⟩ e;cases h2;rw [show ds2 = [] from h4] at h3;exact ⟨d', by rw [h1, h3]⟩
end
end TT
namespace DD
open PySem PySem.Spec PyProof.Rows L2
section
variable {X : Cx} {o : Expr} {i : Nat} {js : List DP} {lo hi : Option Expr} {pl ph : Option DP} {p2 pos : Pos}
end
end DD
namespace TT
open PySem L2 DD
section
variable {S : Type} {α β γ δ ρ : Type} {Γ Γ0 Γ1 Γ2 Γ3 Γ4 Γ' Γn Γh : Shp S} {c c' : DE} {E : Ex S ρ}
end
end TT
namespace L2
open PySem PySem.Spec PyProof.Rows
section
variable {X : Cx}
end
end L2
namespace DD
open PySem PySem.Spec PyProof.Rows L2
section
variable {X : Cx}
end
end DD
namespace TT
open PySem L2 DD
end TT
namespace DD
open PySem PySem.Spec PyProof.Rows L2
section
variable {K : PySem.W.Frag} {F : Addr -> Prop} {H : Hp} {σD : DSt} {σ : St} {R : Ro}
end
section
variable {X : Cx} {e : Expr} {c : DE} {apos cpos : Pos} {i : Nat} {js : List DP}
end
theorem plainC {c : Const} {k p} : PlainIx (.Constant c k p) := by intro _ _; rfl
section
variable {X : Cx} {a b e : Expr} {es : List Expr} {ps : List DP} {c c' : DE} {pos apos cpos : Pos} {i : Nat} {js : List DP} {o : Expr}
end
end DD
namespace TT
open PySem L2 DD
section
variable {S : Type} {α β γ δ ρ : Type} {Γ Γ0 Γ1 Γ2 Γ3 Γ4 Γ' Γn Γh : Shp S} {c c' : DE} {E : Ex S ρ}
end
end TT
namespace DD
open PySem PySem.Spec PySem.Calls PyProof.Rows L2 PySem.W PySem.Builtin PySem.Builtin.Str
section
variable {prog : Program} {w : World} {A : Around} {E : Value -> Shared -> Prop} {s : Shared}
end
section
variable {X : Cx} {pins : List (Addr × Obj)} {σ : St} {H : Hp} {s : Shared} {F : Addr -> Prop}
end
end DD
namespace L2
open PySem PySem.Spec PyProof.Rows
section
variable {X : Cx}
end
end L2
namespace DD
open PySem PySem.Spec PyProof.Rows L2
section
variable {X : Cx}
end
section
variable {X : Cx} {elt : Expr} {ifs : List Expr} {t : DT} {c : DE} {pos : Pos} {scope : Scope}
end
end DD
namespace TT
open PySem L2 DD
mutual
noncomputable def smP : PyData -> PyData -> Bool
 | .int i, .int j => i == j
 | .str x, .str y => x == y
 | .list xs, .list ys => smL xs ys
 | .tuple xs, .tuple ys => smL xs ys
 | _, _ => false
noncomputable def smL : List PyData -> List PyData -> Bool
 | [], [] => true
 | x :: xs, y :: ys => smP x y && smL xs ys
 | _, _ => false
end
mutual
noncomputable def okX : PyData -> Bool
 | .int i => Nat.ble i.natAbs 999999999999
 | .str x => (x.cps.toList.all fun c => Nat.ble c 1114111) && Nat.ble x.cps.size 1000
 | .list xs => okXL xs
 | .tuple xs => okXL xs
 | _ => false
noncomputable def okXL : List PyData -> Bool
 | [] => true
 | x :: xs => okX x && okXL xs
end
noncomputable def txt (p : PyData) : Option PyData := if (okX p && Nat.ble p.weight 1048576 && Nat.ble p.depth 40) = true then some p else none
section
variable {S : Type} {α β : Type} {Γ Γ1 Γ2 : Shp S}
end
end TT
namespace L2
open PySem PySem.Spec PyProof.Rows
section
variable {κ : Type} [DecidableEq κ]
end
section
variable {P : Program} {w : World} {H : Hp} {h : Heap} {a : Addr}
end
section
variable {X : Cx} {pins : List (Addr × Obj)} {σ : St} {H : Hp} {s : Shared} {a : Addr} {y v : V} {u r : Value} {o : Option V} {A : Around} {E : Value -> Shared -> Prop}
end
section
variable {X : Cx} {pins : List (Addr × Obj)} {σ : St} {H : Hp} {s : Shared} {a : Addr} {kvs : List (Key × V)} {k : Key} {u : Value} {A : Around} {E : Value -> Shared -> Prop}
end
section
variable {X : Cx} {o i e value : Expr} {pos pos' tpos : Pos} {td ty tv : TE}
end
section
variable {X : Cx} {pos : Pos}
end
end L2
namespace L2
open PySem PySem.Spec PySem.Calls PyProof.Rows
section
variable {prog : Program} {w : World} {A : Around} {E : Value -> Shared -> Prop} {s : Shared}
end
section
variable {prog : Program} {w : World} {A : Around} {R : Result -> Shared -> Prop} {I d : Addr} {h0 : Heap} {H : Hp} {n : Nat} {P : Nat -> Value -> Prop} {St : Nat -> Heap -> Prop} {fp : List Addr}
end
section
variable {X : Cx}
end
section
variable {prog : Program} {w : World} {A : Around} {E : Value -> Shared -> Prop} {s : Shared}
end
section
variable {X : Cx}
end
end L2
namespace DD
open PySem PySem.Spec PyProof.Rows L2
section
variable {K : PySem.W.Frag} {F : Addr -> Prop} {H : Hp} {R : Ro} {ks : List (List Key)} {xs : List D} {v : V} {o : Bool}
variable {σD : DSt} {σ : St}
end
section
variable {X : Cx}
end
end DD
namespace TT
open PySem L2 DD
noncomputable abbrev K3 := Int × Int × Int
noncomputable def k3 (p : K3) : List Key := [Sum.inl p.1, Sum.inl p.2.1, Sum.inl p.2.2]
section
variable {S : Type} {α β ρ : Type} {Γ Γ1 Γ2 : Shp S} {E : Ex S ρ}
end
end TT
namespace DD
open PySem PySem.Spec PyProof.Rows L2
section
variable {X : Cx} {e st : Expr} {lo hi : Option Expr} {pl ph : Option DP} {p q : DP} {pos p2 : Pos}
end
end DD
namespace TT
open PySem L2 DD
section
variable {S : Type} {α β γ : Type} {Γ : Shp S}
end
section
variable {α β γ α' β' γ' : Type}
end
end TT
namespace DD
open PySem PySem.Spec PyProof.Rows L2
section
variable {X : Cx} {a b c : Expr} {p q t : DP} {pos : Pos} {op op' : CmpOp} {g g' : D -> D -> Option D}
end
end DD
namespace TT
open PySem L2 DD
section
variable {S : Type} {α β γ ρ : Type} {Γ Γb Γh : Shp S} {E : Ex S ρ}
end
end TT
namespace DD
open PySem PySem.Spec PyProof.Rows L2
section
variable {X : Cx} {e o a b : Expr} {es : List Expr} {p q : DP} {c c' : DE} {pos apos cpos : Pos} {i : Nat} {js : List DP}
end
end DD
namespace TT
open PySem L2 DD
section
variable {S α β : Type} {Γ Γ1 : Shp S}
end
end TT
namespace PySem.W
open PySem PySem.Calls PyProof.Rows
noncomputable def Kp (h h' : Heap) : Prop := ∀ b o, h.get? b = some o -> h'.get? b = some o
section
variable {prog : Program} {w : World} {A : Around} {E : Value -> Shared -> Prop} {s : Shared} {h₀ : Heap} {a : Addr} {vs : List Value} {κ : SortKind} {lt : Nat -> Nat -> Option Bool} {p : Array Nat}
end
section
variable {prog : Program} {w : World} {A : Around} {E : Value -> Shared -> Prop} {s : Shared} {fin : Bool} {Q : Bool -> Shared -> Prop}
end
end PySem.W
namespace L2
open PySem PySem.Spec PyProof.Rows PySem.W
section
variable {X : Cx} {pins : List (Addr × Obj)} {σ : St} {H : Hp} {s : Shared} {h' : Heap}
end
end L2
namespace DD
open PySem PySem.Spec PyProof.Rows L2 PySem.W
section
variable {X : Cx} {e : Expr} {c : DE}
end
end DD
namespace DD
open PySem PySem.Spec PyProof.Rows L2
section
variable {X : Cx} {e : Expr} {lo hi : Option Expr} {pl ph : Option DP} {c : DE} {pos p2 : Pos}
end
end DD
namespace TT
open PySem L2 DD PySem.W
section
variable {S : Type} {α β γ : Type} {Γ Γ1 : Shp S}
end
end TT
namespace DD
open PySem PySem.Spec PyProof.Rows L2
section
variable {X : Cx} {e f : Expr} {c c' : DE} {pos p2 : Pos}
end
end DD
namespace TT
open PySem L2 DD
section
variable {S : Type} {α β γ : Type} {Γ Γ1 Γ2 : Shp S}
end
end TT
namespace PySem.W
open PySem PySem.Calls PyProof.Rows PyProof.V PySem.Spec
section
variable {prog : Program} {w : World} {A : Around} {E : Value -> Shared -> Prop} {s : Shared} {it d v : Addr} {i ep : Nat} {es : Array DictEntry}
end
end PySem.W
namespace PySem.W
open PySem PySem.Calls PyProof.Rows
section
variable {prog : Program} {w : World} {A : Around} {E : Value -> Shared -> Prop} {s : Shared} {vs : List Value} {κ : SortKind} {lt : Nat -> Nat -> Option Bool}
end
end PySem.W
namespace L2
open PySem PySem.Spec PySem.Calls PyProof.Rows PySem.W
theorem vals_refs : ∀ as : List Addr, Vals (as.map V.ref) (as.map Value.ref)
 | [] => .nil
 | _ :: as => .cons rfl (vals_refs as)
section
variable {X : Cx}
end
end L2
namespace DD
open PySem PySem.Spec PyProof.Rows L2 PySem.W
section
variable {K : PySem.W.Frag} {F : Addr -> Prop} {H : Hp}
mutual
theorem Ow.nt : ∀ {d : D} {v : V} {L : List Addr}, Ow K F H d v L -> ∀ a ∈ L, ∀ vs, H a ≠ some (.tup vs)
 | .hole, _, _, h, a, ha => by simp only [Ow] at h; subst h; cases ha
 | .cell, _, _, h, a, ha => by
  simp only [Ow] at h;obtain ⟨b, o, rfl, e, rfl⟩ := h;rw [List.mem_singleton.mp ha];intro vs q;rw [e] at q;obtain ⟨o, n⟩ := o;cases q;exact n
 | .node _ _, _, _, h, a, ha => by simp only [Ow] at h; obtain ⟨rfl, e, rfl⟩ := h; rw [List.mem_singleton.mp ha, e]; intro vs q; cases q
 | .pin _ ⟨o, n⟩, _, _, h, a, ha => by
  simp only [Ow] at h;obtain ⟨rfl, e, rfl⟩ := h;rw [List.mem_singleton.mp ha, e];intro vs q;cases q;exact n
 | .non, _, _, h, a, ha => by simp only [Ow] at h; rw [h.2] at ha; cases ha
 | .bl _, _, _, h, a, ha => by simp only [Ow] at h; rw [h.2] at ha; cases ha
 | .int _, _, _, h, a, ha => by simp only [Ow] at h; rw [h.2] at ha; cases ha
 | .str _, _, _, h, a, ha => by simp only [Ow] at h; rw [h.2] at ha; cases ha
 | .ty _, _, _, h, a, ha => by simp only [Ow] at h; rw [h.2] at ha; cases ha
 | .cls _, _, _, h, a, ha => by simp only [Ow] at h; rw [h.2] at ha; cases ha
 | .lst true xs, _, _, h, a, ha => by
  simp only [Ow] at h;obtain ⟨b, vs, L', rfl, e, r, rfl⟩ := h;rcases List.mem_cons.mp ha with rfl | ha
  ·rw [e]; intro vs q; cases q
  ·exact OwL.nt r a ha
 | .lst false xs, _, _, h, a, ha => by simp only [Ow] at h; obtain ⟨_, _, _, _, _, rfl⟩ := h; cases ha
 | .tup xs, _, _, h, a, ha => by simp only [Ow] at h; obtain ⟨_, _, _, _, r⟩ := h; exact OwL.nt r a ha
 | .obj true C ks xs, _, _, h, a, ha => by
  simp only [Ow] at h;obtain ⟨b, dx, vs, L', rfl, e, _, r, rfl⟩ := h;rcases List.mem_cons.mp ha with rfl | ha
  ·rw [e]; intro vs q; cases q
  ·exact OwL.nt r a ha
 | .obj false C ks xs, _, _, h, a, ha => by simp only [Ow] at h; obtain ⟨_, _, _, _, _, _, _, _, rfl⟩ := h; cases ha
 | .dct true ks xs, _, _, h, a, ha => by
  simp only [Ow] at h;obtain ⟨b, vs, L', rfl, e, _, r, rfl⟩ := h;rcases List.mem_cons.mp ha with rfl | ha
  ·rw [e]; intro vs q; cases q
  ·exact OwL.nt r a ha
 | .dct false ks xs, _, _, h, a, ha => by simp only [Ow] at h; obtain ⟨_, _, _, _, _, _, _, rfl⟩ := h; cases ha
theorem OwL.nt : ∀ {xs : List D} {vs : List V} {L : List Addr}, OwL K F H xs vs L -> ∀ a ∈ L, ∀ vs, H a ≠ some (.tup vs)
 | [], _, _, h, a, ha => by simp only [OwL] at h; rw [h.2] at ha; cases ha
 | x :: xs, _, _, h, a, ha => by
  simp only [OwL] at h;obtain ⟨v, ws, L1, L2, rfl, h1, h2, rfl⟩ := h;rcases List.mem_append.mp ha with ha | ha
  ·exact Ow.nt h1 a ha
  ·exact OwL.nt h2 a ha
end
theorem OwP.nt : ∀ {R : Ro} {L : List Addr}, OwP K F H R L -> ∀ a ∈ L, ∀ vs, H a ≠ some (.tup vs)
 | [], _, h, a, ha => by cases h; cases ha
 | (d, v) :: R, _, h, a, ha => by
  obtain ⟨L1, L2, h1, h2, rfl⟩ := h;rcases List.mem_append.mp ha with ha | ha
  ·exact h1.nt a ha
  ·exact OwP.nt h2 a ha
variable {σD : DSt} {σ : St} {R : Ro} {as : List Addr}
end
section
variable {X : Cx} {e : Expr} {q : DP}
end
end DD
namespace TT
open PySem L2 DD PySem.W
section
variable {S : Type} {Γ : Shp S}
end
end TT
namespace DD
open PySem PySem.Spec PyProof.Rows L2
section
variable {X : Cx}
end
end DD
namespace TT
open PySem L2 DD
end TT
namespace DD
open PySem PySem.Spec PyProof.Rows L2
mutual
noncomputable def ffD : D -> Bool
 | .lst true xs => ffL xs
 | .lst false _ => false
 | .tup xs => ffL xs
 | .obj true _ _ xs => ffL xs
 | .obj false _ _ _ => false
 | .dct true _ xs => ffL xs
 | .dct false _ _ => false
 | _ => true
noncomputable def ffL : List D -> Bool
 | [] => true
 | x :: xs => ffD x && ffL xs
end
section
variable {K : PySem.W.Frag} {F F' : Addr -> Prop} {H H' : Hp} {A : List Addr}
mutual
theorem Ow.thaw (hA : ∀ a ∈ A, ∀ vs, H a ≠ some (.tup vs)) : ∀ {d : D} {v : V} {L : List Addr}, Ow K F H d v L -> ffD d = true -> Ow K (fun a => F a /\ a ∉ A) H d v L
 | .hole, _, _, h, _ => by simp only [Ow] at h ⊢; exact h
 | .cell, _, _, h, _ => by simp only [Ow] at h ⊢; exact h
 | .node _ _, _, _, h, _ => by simp only [Ow] at h ⊢; exact h
 | .pin _ _, _, _, h, _ => by simp only [Ow] at h ⊢; exact h
 | .non, _, _, h, _ => by simp only [Ow] at h ⊢; exact h
 | .bl _, _, _, h, _ => by simp only [Ow] at h ⊢; exact h
 | .int _, _, _, h, _ => by simp only [Ow] at h ⊢; exact h
 | .str _, _, _, h, _ => by simp only [Ow] at h ⊢; exact h
 | .ty _, _, _, h, _ => by simp only [Ow] at h ⊢; exact h
 | .cls _, _, _, h, _ => by simp only [Ow] at h ⊢; exact h
 | .lst true xs, _, _, h, f => by
  simp only [Ow] at h ⊢;simp only [ffD] at f;obtain ⟨b, vs, L', rfl, e, r, rfl⟩ := h;exact ⟨b, vs, L', rfl, e, OwL.thaw hA r f, rfl⟩
 | .lst false xs, _, _, h, f => by simp only [ffD] at f; cases f
 | .tup xs, _, _, h, f => by
  simp only [Ow] at h ⊢;simp only [ffD] at f;obtain ⟨a, vs, rfl, t, r⟩ := h;refine ⟨a, vs, rfl, ?_, OwL.thaw hA r f⟩;rcases t with ⟨t1, t2⟩ | t
  ·exact .inl ⟨⟨t1, fun z => hA a z vs t2⟩, t2⟩
  ·exact .inr t
 | .obj true C ks xs, _, _, h, f => by
  simp only [Ow] at h ⊢;simp only [ffD] at f;obtain ⟨b, dx, vs, L', rfl, e, el, r, rfl⟩ := h;exact ⟨b, dx, vs, L', rfl, e, el, OwL.thaw hA r f, rfl⟩
 | .obj false C ks xs, _, _, h, f => by simp only [ffD] at f; cases f
 | .dct true ks xs, _, _, h, f => by
  simp only [Ow] at h ⊢;simp only [ffD] at f;obtain ⟨b, vs, L', rfl, e, el, r, rfl⟩ := h;exact ⟨b, vs, L', rfl, e, el, OwL.thaw hA r f, rfl⟩
 | .dct false ks xs, _, _, h, f => by simp only [ffD] at f; cases f
theorem OwL.thaw (hA : ∀ a ∈ A, ∀ vs, H a ≠ some (.tup vs)) : ∀ {xs : List D} {vs : List V} {L : List Addr}, OwL K F H xs vs L -> ffL xs = true -> OwL K (fun a => F a /\ a ∉ A) H xs vs L
 | [], _, _, h, _ => by simp only [OwL] at h ⊢; exact h
 | x :: xs, _, _, h, f => by
  simp only [OwL] at h ⊢;simp only [ffL, Bool.and_eq_true] at f;obtain ⟨v, ws, L1, L2, rfl, h1, h2, rfl⟩ := h;exact ⟨v, ws, L1, L2, rfl, Ow.thaw hA h1 f.1, OwL.thaw hA h2 f.2, rfl⟩
end
noncomputable def ffO (o : Option D) : Option D := o.bind fun d => if ffD d = true then some d else none
noncomputable def ffSt (σ : DSt) : DSt := σ.map ffO
theorem sl_thaw (hA : ∀ a ∈ A, ∀ vs, H a ≠ some (.tup vs)) : ∀ {σD : DSt} {σ : L2.St} {L : List Addr}, OwP K F H (sl σD σ) L -> ∃ L', OwP K (fun a => F a /\ a ∉ A) H (sl (ffSt σD) σ) L' /\ L'.Sublist L
 | [], _, L, h => ⟨[], by unfold ffSt; simp only [List.map_nil, sl]; rfl, List.nil_sublist _⟩
 | none :: σD, [], L, h => ⟨[], by unfold ffSt; simp only [List.map_cons, sl]; rfl, List.nil_sublist _⟩
 | some _ :: σD, [], L, h => by
  refine ⟨[], ?_, List.nil_sublist _⟩;unfold ffSt;simp only [List.map_cons, ffO, bind_some];split <;> (simp only [sl]; rfl)
 | none :: σD, o :: σ, L, h => by
  have h' : OwP K F H (sl σD σ) L := by simpa only [sl] using h
  obtain ⟨L', e, s⟩ := sl_thaw hA h';exact ⟨L', by simpa only [ffSt, List.map_cons, ffO, Option.bind_none, sl] using e, s⟩
 | some d :: σD, none :: σ, L, h => by
  have h' : OwP K F H (sl σD σ) L := by simpa only [sl] using h
  obtain ⟨L', e, s⟩ := sl_thaw hA h';refine ⟨L', ?_, s⟩;unfold ffSt;simp only [List.map_cons, ffO, bind_some];split <;> (simp only [sl]; exact e)
 | some d :: σD, some v :: σ, L, h => by
  have h' : OwP K F H ((d, v) :: sl σD σ) L := by simpa only [sl] using h
  obtain ⟨L1, L2, h1, h2, rfl⟩ := h';obtain ⟨L', e, s⟩ := sl_thaw hA h2;unfold ffSt;simp only [List.map_cons, ffO, bind_some];split
  ·rename_i hf
   exact ⟨L1 ++ L', by simp only [sl]; exact ⟨L1, L', h1.thaw hA hf, e, rfl⟩, s.append_left _⟩
  ·exact ⟨L', by simp only [sl]; exact e, s.trans (List.sublist_append_right _ _)⟩
theorem Mt.thaw : ∀ {σD : DSt} {σ : L2.St}, Mt σD σ -> Mt (ffSt σD) σ
 | [], [], h => h
 | none :: σD, _ :: σ, h => Mt.thaw (σD := σD) (σ := σ) h
 | some d :: σD, some _ :: σ, h => by
  have := Mt.thaw (σD := σD) (σ := σ) h
  unfold ffSt;simp only [List.map_cons, ffO, bind_some];split <;> exact this
open Classical in
noncomputable def pinOf (H : Hp) (a : Addr) : D := match H a with
 | some o => if h : NT o then .pin a ⟨o, h⟩ else .hole
 | none => .hole
noncomputable def pins (H : Hp) (M : List Addr) : Ro := M.map fun a => (pinOf H a, V.ref a)
theorem pinOf_eq {a : Addr} {o : HO} (e : H a = some o) (n : NT o) : pinOf H a = .pin a ⟨o, n⟩ := by
 unfold pinOf;rw [e];simp only [n, dif_pos]
theorem nt_of {o : HO} (h : ∀ vs, o ≠ .tup vs) : NT o := by
 cases o <;> first | exact trivial | exact absurd rfl (h _)
theorem pins_ok : ∀ {M : List Addr}, (∀ a ∈ M, ∃ o, H a = some o /\ NT o) -> OwP K F H (pins H M) M
 | [], _ => rfl
 | a :: M, h => by
  obtain ⟨o, e, n⟩ := h a (by simp);refine ⟨[a], M, ?_, pins_ok fun b hb => h b (by simp [hb]), rfl⟩;rw [pinOf_eq e n];simp only [Ow];exact ⟨trivial, e, trivial⟩
theorem pins_back : ∀ {M M' : List Addr}, (∀ a ∈ M, ∃ o, H a = some o /\ NT o) -> OwP K F' H' (pins H M) M' -> M' = M /\ ∀ a ∈ M, H' a = H a
 | [], M', _, h => ⟨h, fun a ha => by cases ha⟩
 | a :: M, M', hs, h => by
  obtain ⟨o, e, n⟩ := hs a (by simp);obtain ⟨L1, L2, h1, h2, rfl⟩ := h;rw [pinOf_eq e n] at h1;simp only [Ow] at h1;obtain ⟨_, e', rfl⟩ := h1;obtain ⟨rfl, k⟩ := pins_back (fun b hb => hs b (by simp [hb])) h2;refine ⟨rfl, fun b hb => ?_⟩;rcases List.mem_cons.mp hb with rfl | hb
  ·rw [e', e]
  ·exact k b hb
variable {σD : DSt} {σ : L2.St} {R : Ro} {d : D} {v : V}
theorem OwP.thaw (hA : ∀ a ∈ A, ∀ vs, H a ≠ some (.tup vs)) : ∀ {S : Ro} {L : List Addr}, OwP K F H S L -> (∀ z ∈ S, ffD z.1 = true) -> OwP K (fun a => F a /\ a ∉ A) H S L
 | [], _, h, _ => h
 | (d, v) :: S, _, h, f => by
  obtain ⟨L1, L2, h1, h2, rfl⟩ := h;exact ⟨L1, L2, h1.thaw hA (f (d, v) (by simp)), OwP.thaw hA h2 fun z hz => f z (by simp [hz]), rfl⟩
theorem Rel.thaw (r : Rel K F H σD σ ((d, v) :: R)) : ∃ (F' : Addr -> Prop) (P : Ro), Ext F H F' H /\ Rel K F' H σD σ ((d.fz, v) :: P) /\
  ∀ F2 H2 σD2 σ2 S, Ext F' H F2 H2 -> Rel K F2 H2 σD2 σ2 (S ++ P) -> (∀ z ∈ S, ffD z.1 = true) -> ∃ F3, Ext F H F3 H2 /\ Rel K F3 H2 (ffSt σD2) σ2 (S ++ ((d, v) :: R)) := by
 obtain ⟨L, ⟨L1, L2, h1, h2, rfl⟩, n, f⟩ := r.front.own;obtain ⟨M, N, rfl, hm, hn⟩ := OwP.split (R := R) h2;have hMd : ∀ a ∈ M, ∃ o, H a = some o /\ NT o := fun a ha => by
  obtain ⟨o, e⟩ := hm.dom a ha;exact ⟨o, e, nt_of fun vs z => hm.nt a ha vs (by rw [e, z])⟩
 obtain ⟨n1, n2, n3⟩ := List.nodup_append.mp n;have x : Ext F H (fun a => F a \/ a ∈ L1) H := fun a h => ⟨.inl h, rfl⟩
 refine ⟨fun a => F a \/ a ∈ L1, pins H M, x, Rel.of r.mt ⟨⟨M ++ N, ⟨[], M ++ N, h1.fz (fun a h => .inl h) fun a h => .inr h, ?_, rfl⟩, n2, fun a ha fa => ?_⟩, fun a fa => ?_⟩, fun F2 H2 σD2 σ2 S x2 r2 hS => ?_⟩
 ·exact (pins_ok hMd).append (hn.mono x fun _ _ => rfl)
 ·rcases fa with fa | fa
  ·exact f a (List.mem_append_right _ ha) fa
  ·exact n3 a fa a ha rfl
 ·rcases fa with fa | fa
  ·exact r.front.dom a fa
  ·exact h1.dom a fa
 ·obtain ⟨L', ho, nd, ff⟩ := r2.front.own
  obtain ⟨Z, N', rfl, hz, hn'⟩ := OwP.split (R := S ++ pins H M) ho;obtain ⟨Y, M', rfl, hy, hm'⟩ := OwP.split (R := S) hz;obtain ⟨rfl, hk⟩ := pins_back hMd hm';have hA2 : ∀ a ∈ L1, F2 a /\ H2 a = H a := fun a ha => x2 a (.inr ha)
  have hA : ∀ a ∈ L1, ∀ vs, H2 a ≠ some (.tup vs) := fun a ha vs => by rw [(hA2 a ha).2]; exact h1.nt a ha vs
  obtain ⟨N2, hn2, sub⟩ := sl_thaw hA hn';have x3 : Ext F H (fun a => F2 a /\ a ∉ L1) H2 := fun a fa => ⟨⟨(x2 a (.inl fa)).1, fun z => f a (List.mem_append_left _ z) fa⟩, (x2 a (.inl fa)).2⟩
  have subs : ((Y ++ M') ++ N2).Sublist ((Y ++ M') ++ N') := sub.append_left _;have pm : (Y ++ (L1 ++ M') ++ N2).Perm (L1 ++ ((Y ++ M') ++ N2)) := by
   have h := List.perm_append_comm (l₁ := Y) (l₂ := L1);have h2 := (h.append_right M').append_right N2;simpa using h2
  have nd2 : (L1 ++ ((Y ++ M') ++ N2)).Nodup := by
   rw [List.nodup_append];refine ⟨n1, nd.sublist subs, fun a ha b hb e => ?_⟩;subst e;exact ff a (subs.subset hb) (hA2 a ha).1
  have hdr : OwP K (fun a => F2 a /\ a ∉ L1) H2 ((d, v) :: R) (L1 ++ M') := ⟨L1, M', h1.mono x3 fun a ha => (hA2 a ha).2, hm.mono x3 hk, rfl⟩;refine ⟨fun a => F2 a /\ a ∉ L1, x3, Rel.of r2.mt.thaw ⟨⟨Y ++ (L1 ++ M') ++ N2, ((hy.thaw hA hS).append hdr).append hn2, pm.nodup_iff.mpr nd2, fun a ha fa => ?_⟩, fun a fa => r2.front.dom a fa.1⟩⟩;rcases List.mem_append.mp (pm.mem_iff.mp ha) with ha | ha
  ·exact fa.2 ha
  ·exact ff a (subs.subset ha) fa.1
end
noncomputable def dThaw (i : Nat) (c : DE) : DE := fun σ => (dget σ i).bind fun d => (c (σ.set i (some d.fz))).bind fun p => if ffD p.1 = true then some (p.1, (ffSt p.2).set i (some d)) else none
noncomputable def dHide (j : Nat) (c : DE) : DE := fun σ => (dget σ j).bind fun d => (c (σ.set j none)).map fun p => (p.1, p.2.set j (some d))
section
variable {X : Cx} {e : Expr} {c : DE}
theorem qe_thaw (i : Nat) (h : QE X e c) : QE X e (dThaw i c) := PE_imp h fun σ H Q hq0 => by
 obtain ⟨F, R, σD, d, σD', r, ec, k⟩ := hq0;unfold dThaw at ec;obtain ⟨d0, h0, ec⟩ := Option.bind_eq_some_iff.mp ec;obtain ⟨⟨d1, σ1⟩, h1, ec⟩ := Option.bind_eq_some_iff.mp ec;dsimp only at ec;split at ec
 ·rename_i hf
  cases ec;obtain ⟨v, hv, r1⟩ := r.take (dget_some h0);obtain ⟨F', P, x1, r2, back⟩ := r1.thaw;have r3 := r2.put hv;rw [List.set_set] at r3;refine ⟨F', P, _, d, σ1, r3, h1, fun F2 H2 w x2 r4 => ?_⟩;obtain ⟨F3, x3, r5⟩ := back F2 H2 σ1 σ [(d, w)] x2 r4 (fun z hz => by rw [List.mem_singleton.mp hz]; exact hf);exact k F3 H2 w x3 ((r5.perm (.swap _ _ _)).put hv)
 ·cases ec
theorem qe_hide (j : Nat) (h : QE X e c) : QE X e (dHide j c) := PE_imp h fun σ H Q hq0 => by
 obtain ⟨F, R, σD, d, σD', r, ec, k⟩ := hq0;unfold dHide at ec;obtain ⟨d0, h0, ec⟩ := Option.bind_eq_some_iff.mp ec;obtain ⟨⟨d1, σ1⟩, h1, ec⟩ := map_some_pair ec;cases ec;obtain ⟨v, hv, r1⟩ := r.take (dget_some h0);exact ⟨F, _, _, d1, σ1, r1, h1, fun F2 H2 w x2 r4 => k F2 H2 w x2 ((r4.perm (.swap _ _ _)).put hv)⟩
end
end DD
namespace TT
open PySem L2 DD
class Ff {α : Type} (r : Rl α) : Prop where
 f : ∀ a d, r a d -> ffD d = true
theorem All2.ff {α : Type} {r : Rl α} (k : ∀ a d, r a d -> ffD d = true) : ∀ {as : List α} {ds : List D}, All2 r as ds -> ffL ds = true
 | _, _, .nil => rfl
 | _, _, .cons a h => by simp only [ffL, k _ _ a, h.ff k, Bool.and_self]
section
variable {α β γ δ : Type}
instance : Ff rI := ⟨fun _ _ h => by cases h; rfl⟩
instance {r : Rl α} [k : Ff r] : Ff (rL r) := ⟨fun _ _ hq0 => by obtain ⟨ds, e, h⟩ := hq0; rw [e]; simp only [ffD]; exact h.ff k.f⟩
end
section
variable {S : Type} {α β : Type} {Γ Γ1 Γ2 : Shp S}
inductive Tw : Shp S -> Shp S -> Prop
 | nil : Tw [] []
 | non {a} {Γ Γ'} : Tw Γ Γ' -> Tw (a :: Γ) (none :: Γ')
 | som {α : Type} {g : S -> α} {r : Rl α} {Γ Γ'} : Ff r -> Tw Γ Γ' -> Tw (some ⟨g, r⟩ :: Γ) (some ⟨g, r⟩ :: Γ')
theorem Tw.sat {s : S} (w : Tw Γ1 Γ2) : ∀ {σ : DSt}, Sat Γ1 s σ -> Sat Γ2 s (ffSt σ) := by
 induction w with
 | nil => intro σ h; cases σ with | nil => exact h | cons _ _ => exact h.elim
 | non _ ih => intro σ h; cases σ with | nil => exact h.elim | cons x σ => exact ⟨trivial, ih h.2⟩
 | som f _ ih =>
  intro σ h;cases σ with
  | nil => exact h.elim
  | cons x σ =>
   obtain ⟨d, e, hd⟩ := h.1;refine ⟨⟨d, ?_, hd⟩, ih h.2⟩;rw [e];simp only [ffO, bind_some, f.f _ _ hd, if_true]
theorem je_thaw (i : Nat) {get : S -> β} {put : S -> β -> S} {q q' : Rl β} [z : Fz q q'] {c : DE} {r : Rl α} [k : Ff r] {f : S -> Option (α × S)} (h : JE (Γ.set i (some ⟨get, q'⟩)) c f r Γ1) (w : Tw Γ1 Γ2) (hi : Γ[i]? = some (some ⟨get, q⟩)) (hg : autoParam (∀ s v, get (put s v) = v) Ax8._auto_1)
  (hf : autoParam (∀ v, Fr (fun s => put s v) (Γ2.set i none)) Ax11._auto_1) :
  JE Γ (dThaw i c) (fun s => (f s).map fun p => (p.1, put p.2 (get s))) r (Γ2.set i (some ⟨get, q⟩)) := fun s σ v s' hs e => by
 obtain ⟨⟨a, s1⟩, e1, e⟩ := mp e;cases e;obtain ⟨d, hd, rd⟩ := hs.get hi;obtain ⟨x, σ1, hx, rx, h1⟩ := h s (σ.set i (some d.fz)) a s1 (hs.set ⟨_, rfl, z.f _ _ rd⟩) e1;refine ⟨x, _, by simp only [dThaw, hd, bind_some, hx, k.f _ _ rx, if_true]; rfl, rx, ?_⟩;exact (w.sat h1).put hg hf rd
theorem je_hide (j : Nat) {get : S -> β} {put : S -> β -> S} {q : Rl β} {c : DE} {r : Rl α} {f : S -> Option (α × S)} (h : JE (Γ.set j none) c f r Γ1) (hi : Γ[j]? = some (some ⟨get, q⟩)) (hg : autoParam (∀ s v, get (put s v) = v) Ax8._auto_1)
  (hf : autoParam (∀ v, Fr (fun s => put s v) (Γ1.set j none)) Ax11._auto_1) :
  JE Γ (dHide j c) (fun s => (f s).map fun p => (p.1, put p.2 (get s))) r (Γ1.set j (some ⟨get, q⟩)) := fun s σ v s' hs e => by
 obtain ⟨⟨a, s1⟩, e1, e⟩ := mp e;cases e;obtain ⟨d, hd, rd⟩ := hs.get hi;obtain ⟨x, σ1, hx, rx, h1⟩ := h s (σ.set j none) a s1 hs.setn e1;exact ⟨x, _, by simp only [dHide, hd, bind_some, hx, map_some], rx, h1.put hg hf rd⟩
end
end TT
namespace DD
open PySem PySem.Spec PyProof.Rows L2
section
variable {X : Cx} {e o : Expr} {es : List Expr} {ps : List DP} {p : DP} {pos apos cpos : Pos} {i : Nat} {js : List DP}
end
end DD
namespace TT
open PySem L2 DD
section
variable {S : Type} {α β γ δ : Type} {Γ : Shp S}
end
section
variable {S : Type} {α : Type} {Γ Γ1 : Shp S}
end
end TT
namespace PySem.W
open PySem.Calls PyProof.Rows PySem.Spec PySem.MeetsSeq3
section
end
end PySem.W
namespace L2
open PySem PySem.Spec PySem.Calls PyProof.Rows PySem.W
section
variable {X : Cx} {pins : List (Addr × Obj)} {σ : St} {H : Hp} {s : Shared} {h' : Heap}
end
end L2
namespace DD
open PySem PySem.Spec PyProof.Rows L2 PySem.W
section
variable {X : Cx} {e b : Expr} {c : DE} {sts : List Stmt}
end
end DD
namespace TT
open PySem L2 DD PySem.W
section
variable {S : Type} {α β ρ : Type} {Γ Γ1 Γ2 : Shp S} {E : Ex S ρ}
end
end TT
namespace TT
open PySem L2 DD
section
variable {S : Type} {α β : Type} {Γ Γ1 Γ2 : Shp S}
end
end TT
namespace DD
open PySem PySem.Spec PyProof.Rows L2
section
variable {X : Cx} {s : DS} {pos : Pos} {W' : List Nat} {body : List Stmt}
end
end DD
namespace TT
open PySem L2 DD
section
variable {S : Type} {α β ρ : Type} {Γ Γb : Shp S} {E : Ex S ρ}
end
end TT
namespace PySem
open Sem (wp)
section
variable {prog : Program} {w : World} {A : Around} {E : Value -> Shared -> Prop} {s : Shared}
end
section
variable {prog : Program} {w : World} {A : Around} {E : Value -> Shared -> Prop} {s : Shared}
end
end PySem
namespace L2
open PySem PySem.Spec PyProof.Rows
end L2
namespace DD
open PySem PySem.Spec PyProof.Rows L2
section
variable {X : Cx} {a b e : Expr} {c c' : DE} {p p1 pos1 : Pos} {elts : List Expr} {x1 : Nat} {tpos pos : Pos}
end
end DD
namespace TT
open PySem L2 DD PySem.W
section
variable {S : Type} {α β : Type} {Γ Γ1 Γ2 : Shp S} {c c' : DE}
noncomputable def l4 (p : α × α × α × α) : List α := [p.1, p.2.1, p.2.2.1, p.2.2.2]
noncomputable def o4 (xs : List α) : Option (α × α × α × α) := match xs with
 | [a, b, c, d] => some (a, b, c, d)
 | _ => none
end
section
variable {α β γ δ α' β' γ' δ' : Type}
end
end TT
namespace L2
open PySem PySem.Spec PyProof.Rows
noncomputable def rStarts : V -> List V -> Hp -> VK -> Prop := fun x vs H Q => ∃ a b, x = .str a /\ vs = [.str b] /\ Q (.bl (Txt.startswith a b)) H
noncomputable def rSplit : V -> List V -> Hp -> VK -> Prop := fun x vs H Q => ∃ a b, x = .str a /\ vs = [.str b] /\ (b.length == 0) = false /\ a.length <= sizeLine /\ (Txt.split a b).length <= sizeLine /\ ∀ p, H p = none -> Q (.ref p) (upd H p (.lst ((Txt.split a b).map V.str)))
noncomputable def rJoin (K : PySem.W.Frag) : V -> List V -> Hp -> VK -> Prop := fun x vs H Q => ∃ a l ys, x = .str a /\ vs = [.ref l] /\ SqL K H l (ys.map V.str) /\ (ys.map (·.length)).sum + ys.length * a.length <= 16777216 /\ Q (.str (Txt.join a ys)) H
section
variable {X : Cx}
theorem mt_starts : MtM X "str.startswith" rStarts := by
 intro pins s σ H x vs v us Q I rx rv h;obtain ⟨a, b, rfl, rfl, q⟩ := h;obtain ⟨t, rfl⟩ := (show ∃ t, v = Value.str a t from rx);obtain ⟨u, rfl, ru⟩ := rv.one;obtain ⟨t', rfl⟩ := (show ∃ t, u = Value.str b t from ru);exact SC.startswith ⟨.bl _, H, I, rfl, q⟩
theorem vals_strs : ∀ (xs : List Str) (k : Nat), Vals (xs.map V.str) (strsFrom k xs) := by
 intro xs
 induction xs with
 | nil => intro k; exact .nil
 | cons x xs ih => intro k; exact .cons ⟨_, rfl⟩ (ih (k + 1))
theorem mt_split : MtM X "str.split" rSplit := by
 intro pins s σ H x vs v us Q I rx rv h;obtain ⟨a, b, rfl, rfl, hb, ha, hn, q⟩ := h;obtain ⟨t, rfl⟩ := (show ∃ t, v = Value.str a t from rx);obtain ⟨u, rfl, ru⟩ := rv.one;obtain ⟨t', rfl⟩ := (show ∃ t, u = Value.str b t from ru);have one : Txt.split a b = [a] -> PySem.wants (EP X pins σ Q) X.xe (.ok (.ret (.ref s.heap.objs.size))) { s with heap := s.heap.push { cls := .type "list", data := .seq [Value.str a t].toArray } } := fun e => by
  refine ⟨.ref s.heap.objs.size, _, I.laid (o := .lst [.str a]) (t' := s.toks) (fun b o e => Heap.get?_push_of_some _ e) (Nat.le_refl _) ⟨by show 1 <= sizeLine; decide, [Value.str a t], _, .cons ⟨_, rfl⟩ .nil, Heap.get?_push_size _ rfl⟩, rfl, ?_⟩
  have := q _ I.fresh
  rw [e] at this;exact this
 cases h1 : (decide (a.length < b.length) || decide (Builtin.Str.strKind a < Builtin.Str.strKind b))
 ·cases hf : (Builtin.Str.occurrences a b 0 a.length (a.length + 1)).isEmpty
  ·have e : Txt.split a b = Builtin.Str.partsBetween a (Builtin.Str.occurrences a b 0 a.length (a.length + 1)) b.length := by unfold Txt.split; rw [h1, hf]; rfl
   rw [e] at hn q;refine call_meets F.slot_str_split (typeIs_str _ _ _) F.entry_str_split (F.args_str_split_2 _ _) (meets_str_split_sep a b t t' h1 hb hf ha hn) ?_;exact ⟨.ref s.heap.objs.size, _, I.laid (o := .lst ((Builtin.Str.partsBetween a (Builtin.Str.occurrences a b 0 a.length (a.length + 1)) b.length).map V.str)) (fun b o e => Heap.get?_push_of_some _ e) (Nat.le_refl _) ⟨by rw [List.length_map]; exact hn, _, _, vals_strs _ _, Heap.get?_push_size _ rfl⟩, rfl, q _ I.fresh⟩
  ·exact call_meets F.slot_str_split (typeIs_str _ _ _) F.entry_str_split (F.args_str_split_2 _ _) (meets_str_split_not_found a b t t' h1 hb hf) (one (by unfold Txt.split; rw [h1, hf]; rfl))
 ·exact call_meets F.slot_str_split (typeIs_str _ _ _) F.entry_str_split (F.args_str_split_2 _ _) (meets_str_split_cannot_occur a b t t' h1) (one (by unfold Txt.split; rw [h1]; rfl))
theorem strs_of : ∀ {ys : List Str} {its : List Value}, Vals (ys.map V.str) its -> ∃ l : List (Str × Tok), its = strValues l /\ l.map (·.1) = ys := by
 intro ys
 induction ys with
 | nil => intro its h; cases h; exact ⟨[], rfl, rfl⟩
 | cons y ys ih =>
  intro its h;cases h with
  | cons r rr =>
   obtain ⟨l, e1, e2⟩ := ih rr;obtain ⟨t, rfl⟩ := r;exact ⟨(y, t) :: l, by rw [e1]; rfl, by rw [<- e2]; rfl⟩
theorem mt_join : MtM X "str.join" (rJoin X.K) := by
 intro pins s σ H x vs v us Q I rx rv h;obtain ⟨a, l, ys, rfl, rfl, sq, hs, q⟩ := h;obtain ⟨t, rfl⟩ := (show ∃ t, v = Value.str a t from rx);obtain ⟨u, rfl, ru⟩ := rv.one;cases ru;obtain ⟨its, r, p, hz⟩ := I.list sq;obtain ⟨l', e1, e2⟩ := strs_of r;subst e1;exact SC.join p.isList e2 (joinOk_of hs) fun t' k => ⟨.str _, H, I.tok k, ⟨_, rfl⟩, q⟩
end
end L2
namespace DD
open PySem PySem.Spec PyProof.Rows L2
noncomputable def strsD : List D -> Option (List Str)
 | [] => some []
 | .str x :: xs => (strsD xs).map fun l => x :: l
 | _ :: _ => none
noncomputable def dStarts (c c' : DE) : DE := fun σ => (c σ).bind fun p => (c' p.2).bind fun q => match p.1, q.1 with
 | .str a, .str b => some (.bl (Txt.startswith a b), q.2)
 | _, _ => none
noncomputable def splitOk (a b : Str) : Bool := !(b.length == 0) && (decide (a.length <= sizeLine) && decide ((Txt.split a b).length <= sizeLine))
noncomputable def dSplit (c c' : DE) : DE := fun σ => (c σ).bind fun p => (c' p.2).bind fun q => match p.1, q.1 with
 | .str a, .str b => if splitOk a b = true then some (.lst true ((Txt.split a b).map D.str), q.2) else none
 | _, _ => none
noncomputable def joinC (a : Str) (ys : List Str) : Bool := decide ((ys.map (·.length)).sum + ys.length * a.length <= 16777216)
noncomputable def dJoin (c c' : DE) : DE := fun σ => (c σ).bind fun p => (c' p.2).bind fun q => match p.1, q.1 with
 | .str a, .lst _ xs => (strsD xs).bind fun ys => if joinC a ys = true then some (.str (Txt.join a ys), q.2) else none
 | _, _ => none
theorem strs_vals {K : PySem.W.Frag} {F : Addr -> Prop} {H : Hp} : ∀ {xs : List D} {ys : List Str} {vs : List V} {L : List Addr}, strsD xs = some ys -> OwL K F H xs vs L -> vs = ys.map V.str := by
 intro xs
 induction xs with
 | nil => intro ys vs L e o; cases e; simp only [OwL] at o; rw [o.1]; rfl
 | cons x xs ih =>
  intro ys vs L e o;simp only [OwL] at o;obtain ⟨v, ws, L1, L2, rfl, o1, o2, _⟩ := o;cases x with
  | str z =>
   simp only [strsD] at e;rcases h : strsD xs with _ | l
   ·rw [h] at e; cases e
   ·rw [h] at e; cases e
    simp only [Ow] at o1;rw [o1.1, ih h o2]; rfl
  | _ => simp [strsD] at e
theorem ow_strs {K : PySem.W.Frag} {F : Addr -> Prop} {H : Hp} : ∀ xs : List Str, OwL K F H (xs.map D.str) (xs.map V.str) [] := by
 intro xs
 induction xs with
 | nil => simp only [List.map_nil, OwL]; exact ⟨trivial, trivial⟩
 | cons x xs ih =>
  simp only [List.map_cons, OwL, Ow];exact ⟨_, _, [], [], rfl, ⟨rfl, rfl⟩, ih, rfl⟩
section
variable {X : Cx} {o e : Expr} {c c' : DE} {apos cpos : Pos}
theorem qe_starts (ho : QE X o c) (ha : QE X e c') (hbase : autoParam (attributeBase o "startswith" X.env (eval o X.env) = eval o X.env) Ax4._auto_1)
  (hfew : autoParam (((backTo cpos (starEach [e] X.env)).all (fun x => !x.1) && (backToKw cpos (keywordEach [] X.env)).all (fun x => x.1.isSome) && decide (([e] : List Expr).length + ([] : List Keyword).length + (if ([] : List Keyword).isEmpty then 0 else 1) < 30)) = true) Ax4._auto_1)
  (hline : autoParam ((apos.endLine == cpos.line) = true) Ax4._auto_1) (hst : autoParam (starEach [e] X.env = (false, eval e X.env) :: starEach [] X.env) Ax4._auto_1) : QE X (.Call (.Attribute o "startswith" apos) [e] [] cpos) (dStarts c c') :=
 PE_imp (pe_bm PySem.F.plainAttrs_str PySem.F.slot_str_startswith PySem.F.type_str_startswith mt_starts ho (pa_cons ha pa_nil hst) hbase hfew hline hst rfl) fun σ H Q hq0 => by
  obtain ⟨F, R, σD, d, σD', r, ec, k⟩ := hq0;unfold dStarts at ec;rcases h1 : c σD with _ | ⟨x, σ1⟩
  ·rw [h1] at ec; cases ec
  ·rw [h1] at ec; simp only [bind_some] at ec
   rcases h2 : c' σ1 with _ | ⟨y, σ2⟩
   ·rw [h2] at ec; cases ec
   ·rw [h2] at ec; simp only [bind_some] at ec
    split at ec
    ·rename_i a b
     cases ec;refine ⟨F, R, σD, _, σ1, r, h1, fun F1 H1 v x1 r1 => ?_⟩;have bv := (r1.bor (d := .str a) (v := v) (by simp)).str;subst bv;refine ⟨rfl, F1, _, σ1, _, _, r1, h2, fun F2 H2 u x2 r2 => ?_⟩;have bu := (r2.bor (d := .str b) (v := u) (by simp)).str;subst bu;exact ⟨a, b, rfl, rfl, k F2 H2 _ (x1.trans x2) ((r2.pop).pop.scal rfl)⟩
    ·cases ec
theorem qe_split (ho : QE X o c) (ha : QE X e c') (hbase : autoParam (attributeBase o "split" X.env (eval o X.env) = eval o X.env) Ax4._auto_1)
  (hfew : autoParam (((backTo cpos (starEach [e] X.env)).all (fun x => !x.1) && (backToKw cpos (keywordEach [] X.env)).all (fun x => x.1.isSome) && decide (([e] : List Expr).length + ([] : List Keyword).length + (if ([] : List Keyword).isEmpty then 0 else 1) < 30)) = true) Ax4._auto_1)
  (hline : autoParam ((apos.endLine == cpos.line) = true) Ax4._auto_1) (hst : autoParam (starEach [e] X.env = (false, eval e X.env) :: starEach [] X.env) Ax4._auto_1) : QE X (.Call (.Attribute o "split" apos) [e] [] cpos) (dSplit c c') :=
 PE_imp (pe_bm PySem.F.plainAttrs_str PySem.F.slot_str_split PySem.F.type_str_split mt_split ho (pa_cons ha pa_nil hst) hbase hfew hline hst rfl) fun σ H Q hq0 => by
  obtain ⟨F, R, σD, d, σD', r, ec, k⟩ := hq0;unfold dSplit at ec;rcases h1 : c σD with _ | ⟨x, σ1⟩
  ·rw [h1] at ec; cases ec
  ·rw [h1] at ec; simp only [bind_some] at ec
   rcases h2 : c' σ1 with _ | ⟨y, σ2⟩
   ·rw [h2] at ec; cases ec
   ·rw [h2] at ec; simp only [bind_some] at ec
    split at ec
    ·rename_i a b
     split at ec
     ·rename_i hok
      cases ec;unfold splitOk at hok;simp only [Bool.and_eq_true, Bool.not_eq_true', decide_eq_true_eq] at hok;refine ⟨F, R, σD, _, σ1, r, h1, fun F1 H1 v x1 r1 => ?_⟩;have bv := (r1.bor (d := .str a) (v := v) (by simp)).str;subst bv;refine ⟨rfl, F1, _, σ1, _, _, r1, h2, fun F2 H2 u x2 r2 => ?_⟩;have bu := (r2.bor (d := .str b) (v := u) (by simp)).str;subst bu;refine ⟨a, b, rfl, rfl, hok.1, hok.2.1, hok.2.2, fun p hp => ?_⟩;have ol := ow_strs (K := X.K) (F := F2) (H := H2) (Txt.split a b);obtain ⟨r3, x3⟩ := (Rel.pushL ol r2.pop.pop).layL ol.length.symm hp;exact k F2 _ _ ((x1.trans x2).trans x3) r3
     ·cases ec
    ·cases ec
theorem qe_join (ho : QE X o c) (ha : QE X e c') (hbase : autoParam (attributeBase o "join" X.env (eval o X.env) = eval o X.env) Ax4._auto_1)
  (hfew : autoParam (((backTo cpos (starEach [e] X.env)).all (fun x => !x.1) && (backToKw cpos (keywordEach [] X.env)).all (fun x => x.1.isSome) && decide (([e] : List Expr).length + ([] : List Keyword).length + (if ([] : List Keyword).isEmpty then 0 else 1) < 30)) = true) Ax4._auto_1)
  (hline : autoParam ((apos.endLine == cpos.line) = true) Ax4._auto_1) (hst : autoParam (starEach [e] X.env = (false, eval e X.env) :: starEach [] X.env) Ax4._auto_1) : QE X (.Call (.Attribute o "join" apos) [e] [] cpos) (dJoin c c') :=
 PE_imp (pe_bm PySem.F.plainAttrs_str PySem.F.slot_str_join PySem.F.type_str_join mt_join ho (pa_cons ha pa_nil hst) hbase hfew hline hst rfl) fun σ H Q hq0 => by
  obtain ⟨F, R, σD, d, σD', r, ec, k⟩ := hq0;unfold dJoin at ec;rcases h1 : c σD with _ | ⟨x, σ1⟩
  ·rw [h1] at ec; cases ec
  ·rw [h1] at ec; simp only [bind_some] at ec
   rcases h2 : c' σ1 with _ | ⟨y, σ2⟩
   ·rw [h2] at ec; cases ec
   ·rw [h2] at ec; simp only [bind_some] at ec
    split at ec
    ·rename_i a own xs
     rcases h3 : strsD xs with _ | ys
     ·rw [h3] at ec; cases ec
     ·rw [h3] at ec; simp only [bind_some] at ec
      split at ec
      ·rename_i hok
       cases ec;refine ⟨F, R, σD, _, σ1, r, h1, fun F1 H1 v x1 r1 => ?_⟩;have bv := (r1.bor (d := .str a) (v := v) (by simp)).str;subst bv;refine ⟨rfl, F1, _, σ1, _, _, r1, h2, fun F2 H2 u x2 r2 => ?_⟩;obtain ⟨l, vs, rfl, sq, L, ol⟩ := (r2.bor (d := .lst own xs) (v := u) (by simp)).lst;rw [strs_vals h3 ol] at sq;exact ⟨a, l, ys, rfl, rfl, sq, of_decide_eq_true hok, k F2 H2 _ (x1.trans x2) ((r2.pop).pop.scal rfl)⟩
      ·cases ec
    ·cases ec
end
end DD
namespace TT
open PySem L2 DD PySem.W
section
variable {S : Type} {Γ Γ1 Γ2 : Shp S} {c c' : DE}
theorem je_starts {f g : S -> Option (Str × S)} (h : JE Γ c f rS Γ1) (h' : JE Γ1 c' g rS Γ2) : JE Γ (dStarts c c') (fun s => (f s).bind fun p => (g p.2).map fun q => (Txt.startswith p.1 q.1, q.2)) rB Γ2 := fun s σ v s' hs e => by
 obtain ⟨⟨a, s1⟩, e1, e⟩ := bd e;obtain ⟨⟨b, s2⟩, e2, e⟩ := mp e;cases e;obtain ⟨d, σ1, h1, h2, h3⟩ := h s σ a s1 hs e1;obtain ⟨d', σ2, h4, h5, h6⟩ := h' s1 σ1 b s2 h3 e2;cases h2; cases h5;exact ⟨_, σ2, by simp only [dStarts, h1, h4, bind_some], rfl, h6⟩
theorem all2_strs : ∀ xs : List Str, All2 rS xs (xs.map D.str) := by
 intro xs
 induction xs with
 | nil => exact .nil
 | cons x xs ih => exact .cons rfl ih
theorem strs_all2 : ∀ {xs : List Str} {ds : List D}, All2 rS xs ds -> strsD ds = some xs := by
 intro xs
 induction xs with
 | nil => intro ds h; cases h; rfl
 | cons x xs ih =>
  intro ds h;cases h with
  | cons r rr => cases r; simp only [strsD, ih rr, map_some]
theorem je_split {f g : S -> Option (Str × S)} (h : JE Γ c f rS Γ1) (h' : JE Γ1 c' g rS Γ2) : JE Γ (dSplit c c') (fun s => (f s).bind fun p => (g p.2).bind fun q => if splitOk p.1 q.1 = true then some (Txt.split p.1 q.1, q.2) else none) (rL rS) Γ2 := fun s σ v s' hs e => by
 obtain ⟨⟨a, s1⟩, e1, e⟩ := bd e;obtain ⟨⟨b, s2⟩, e2, e⟩ := bd e;dsimp only at e;split at e
 ·rename_i hok
  cases e;obtain ⟨d, σ1, h1, h2, h3⟩ := h s σ a s1 hs e1;obtain ⟨d', σ2, h4, h5, h6⟩ := h' s1 σ1 b _ h3 e2;cases h2; cases h5;exact ⟨_, σ2, by simp only [dSplit, h1, h4, bind_some, hok, if_true], ⟨_, rfl, all2_strs _⟩, h6⟩
 ·cases e
theorem je_join {rl : Rl (List Str)} [l : Ls rl rS] {f : S -> Option (Str × S)} {g : S -> Option (List Str × S)} (h : JE Γ c f rS Γ1) (h' : JE Γ1 c' g rl Γ2) : JE Γ (dJoin c c') (fun s => (f s).bind fun p => (g p.2).bind fun q => if joinC p.1 q.1 = true then some (Txt.join p.1 q.1, q.2) else none) rS Γ2 := fun s σ v s' hs e => by
 obtain ⟨⟨a, s1⟩, e1, e⟩ := bd e;obtain ⟨⟨b, s2⟩, e2, e⟩ := bd e;dsimp only at e;split at e
 ·rename_i hok
  cases e;obtain ⟨d, σ1, h1, h2, h3⟩ := h s σ a s1 hs e1;obtain ⟨d', σ2, h4, h5, h6⟩ := h' s1 σ1 b _ h3 e2;cases h2;obtain ⟨o, ds, rfl, hh⟩ := l.l b d' h5;exact ⟨_, σ2, by simp only [dJoin, h1, h4, bind_some, strs_all2 hh, hok, if_true], rfl, h6⟩
 ·cases e
end
end TT
namespace L2
open PySem PySem.Spec PyProof.Rows
section
variable {X : Cx}
theorem call_intT : CallR X (.type "int") (fun xs H Q => ∃ x n, xs = [.str x] /\ PySem.intText? x = some n /\ x.length <= 640 /\ Q (.int n) H) := by
 intro pins s σ H xs us Q I r h;obtain ⟨x, n, rfl, hn, hl, q⟩ := h;obtain ⟨u, rfl, t, rfl⟩ := vals1 r;exact PySem.W.KIN.call_text hn hl ⟨.int n, H, I.tok _, ⟨_, rfl⟩, q⟩
theorem call_strI : CallR X (.type "str") (fun xs H Q => ∃ i, xs = [.int i] /\ i.natAbs.log2 < 1920 /\ Q (.str (Str.ofString (toString i))) H) := by
 intro pins s σ H xs us Q I r h;obtain ⟨i, rfl, hl, q⟩ := h;obtain ⟨u, rfl, t, rfl⟩ := vals1 r;exact PySem.P.str_of_int hl ⟨.str _, H, I.tok _, ⟨_, rfl⟩, q⟩
end
end L2
namespace DD
open PySem PySem.Spec PyProof.Rows L2
noncomputable def intTD : List D -> Option D
 | [.str x] => (PySem.intText? x).bind fun n => if decide (x.length <= 640) = true then some (.int n) else none
 | _ => none
noncomputable def strID : List D -> Option D
 | [.int i] => if decide (i.natAbs.log2 < 1920) = true then some (.str (Str.ofString (toString i))) else none
 | _ => none
noncomputable def gAddS : D -> D -> Option D
 | .str a, .str b => if decide (a.length + b.length <= sizeLine) = true then some (.str (a ++ b)) else none
 | _, _ => none
noncomputable def gInS : D -> D -> Option D
 | .str a, .str b => some (.bl (!(Builtin.Str.occurrences b a 0 b.length 1).isEmpty))
 | _, _ => none
section
variable {X : Cx}
theorem intTD_some {ds : List D} {d : D} (h : intTD ds = some d) : ∃ x n, ds = [.str x] /\ PySem.intText? x = some n /\ x.length <= 640 /\ d = .int n := by
 unfold intTD at h;split at h
 ·rename_i x
  rcases h2 : PySem.intText? x with _ | n
  ·rw [h2] at h; cases h
  ·rw [h2] at h; simp only [bind_some] at h
   split at h
   ·rename_i hs
    cases h;exact ⟨x, n, rfl, h2, of_decide_eq_true hs, rfl⟩
   ·cases h
 ·cases h
theorem c_intT : CallS X (.type "int") intTD := by
 refine ⟨CallR_imp call_intT fun vs H Q hq => ?_, fun ds d h => ?_⟩
 ·obtain ⟨F, ds, d, w, b, eg, hw, q⟩ := hq
  obtain ⟨x, n, rfl, h1, h2, rfl⟩ := intTD_some eg;cases hw;obtain ⟨v, rfl, bv⟩ := b.one;exact ⟨x, n, by rw [bv.str], h1, h2, q⟩
 ·obtain ⟨x, n, rfl, _, _, rfl⟩ := intTD_some h
  exact ⟨_, rfl⟩
theorem c_strI : CallS X (.type "str") strID := by
 refine ⟨CallR_imp call_strI fun vs H Q hq => ?_, fun ds d h => ?_⟩
 ·obtain ⟨F, ds, d, w, b, eg, hw, q⟩ := hq
  unfold strID at eg;split at eg
  ·split at eg
   ·rename_i hs
    cases eg; cases hw;obtain ⟨v, rfl, bv⟩ := b.one;exact ⟨_, by rw [bv.int], of_decide_eq_true hs, q⟩
   ·cases eg
  ·cases eg
 ·unfold strID at h
  split at h
  ·split at h
   ·cases h; exact ⟨_, rfl⟩
   ·cases h
  ·cases h
theorem o_addS : OpS X (binaryOp .Add) gAddS := by
 refine ⟨OpR_imp op_add_str fun x y H Q hq => ?_, fun x y d h => ?_⟩
 ·obtain ⟨F, dx, dy, d, w, b1, b2, eg, hw, q⟩ := hq
  unfold gAddS at eg;split at eg
  ·split at eg
   ·rename_i hs
    cases eg; cases hw;exact ⟨_, _, b1.sc rfl, b2.sc rfl, of_decide_eq_true hs, q⟩
   ·cases eg
  ·cases eg
 ·unfold gAddS at h
  split at h
  ·split at h
   ·cases h; exact ⟨_, rfl⟩
   ·cases h
  ·cases h
theorem o_inS : OpS X (compareOp .In) gInS := by
 refine ⟨OpR_imp op_in_str fun x y H Q hq => ?_, fun x y d h => ?_⟩
 ·obtain ⟨F, dx, dy, d, w, b1, b2, eg, hw, q⟩ := hq
  unfold gInS at eg;split at eg
  ·cases eg; cases hw
   exact ⟨_, _, b1.sc rfl, b2.sc rfl, q⟩
  ·cases eg
 ·unfold gInS at h
  split at h
  ·cases h; exact ⟨_, rfl⟩
  ·cases h
end
end DD
namespace TT
open PySem L2 DD PySem.W
theorem jb_intT : JB1 intTD (fun x : Str => (PySem.intText? x).bind fun n => if decide (x.length <= 640) = true then some n else none) rS rI := fun a c x e h => by
 cases h;dsimp only at e;rcases h2 : PySem.intText? a with _ | n
 ·rw [h2] at e; cases e
 ·rw [h2] at e; simp only [bind_some] at e
  split at e
  ·rename_i hs
   cases e;exact ⟨_, by simp only [intTD, h2, bind_some, hs, if_true], rfl⟩
  ·cases e
theorem jb_strI : JB1 strID (fun i : Int => if decide (i.natAbs.log2 < 1920) = true then some (Str.ofString (toString i)) else none) rI rS := fun a c x e h => by
 cases h;dsimp only at e;split at e
 ·rename_i hs
  cases e;exact ⟨_, by simp only [strID, hs, if_true], rfl⟩
 ·cases e
theorem jo_addS : JO gAddS (fun a b : Str => if decide (a.length + b.length <= sizeLine) = true then some (a ++ b) else none) rS rS rS := fun a b c x y e h1 h2 => by
 cases h1; cases h2;dsimp only at e;split at e
 ·rename_i hs
  cases e;exact ⟨_, by simp only [gAddS, hs, if_true], rfl⟩
 ·cases e
theorem jo_inS : JO gInS (fun a b : Str => some (!(Builtin.Str.occurrences b a 0 b.length 1).isEmpty)) rS rS rB := fun a b c x y e h1 h2 => by
 cases h1; cases h2; cases e;exact ⟨_, rfl, rfl⟩
end TT
namespace L2
open PySem PySem.Spec PyProof.Rows
section
variable {X : Cx}
theorem sl_str : SlR X (fun x lo hi H Q => ∃ a, x = .str a /\ a.length <= sizeLine /\ Q (.str (Txt.slice a lo hi)) H) := by
 intro pins s σ H x v vl vu lo hi sl Q I rx hs pl pu h;obtain ⟨a, rfl, hz, q⟩ := h;obtain ⟨t, rfl⟩ := rx;have fin : ∀ t' k, EP X pins σ Q (.str (Txt.slice a lo hi) t') { s with toks := k } := fun t' k => ⟨.str _, H, I.tok k, ⟨_, rfl⟩, q⟩
 refine ⟨"str", _, F.slot_str_getitem.lookup, typeIs_str _ _ _, ?_⟩;have part : ∀ {w : Value} {o : Option Int}, IsPart w o -> ∃ l : Option (Int × Tok), w = partValue l /\ o = l.map (·.1) := fun h => by
  cases h
  ·exact ⟨none, rfl, rfl⟩
  ·exact ⟨some (_, _), rfl, rfl⟩
 obtain ⟨l, rfl, rfl⟩ := part pl;obtain ⟨u, rfl, rfl⟩ := part pu;exact wpAny_getItem_str_slice (l := l) (u := u) (st := none) hs rfl (post_val_or_str ⟨Nat.le_trans (Txt.slice_le a _ _) hz, fin⟩)
end
end L2
namespace DD
open PySem PySem.Spec PyProof.Rows L2
noncomputable def dSlS (c : DE) (pl ph : Option DP) : DE := fun σ => (c σ).bind fun p => match p.1 with
 | .str a => if decide (a.length <= sizeLine) = true then (evO pl p.2).bind fun l => (evO ph p.2).map fun h => (.str (Txt.slice a l h), p.2) else none
 | _ => none
section
variable {X : Cx} {e : Expr} {lo hi : Option Expr} {pl ph : Option DP} {c : DE} {pos p2 : Pos}
theorem qe_slS (he : QE X e c) (hl : QO X lo pl) (hh : QO X hi ph) : QE X (.Subscript e (.Slice lo hi none p2) pos) (dSlS c pl ph) := PE_imp (pe_slice sl_str he hl hh) fun σ H Q hq0 => by
 obtain ⟨F, R, σD, d, σD', r, ec, k⟩ := hq0;unfold dSlS at ec;rcases h1 : c σD with _ | ⟨t, σ1⟩
 ·rw [h1] at ec; cases ec
 ·rw [h1] at ec; simp only [bind_some] at ec
  refine ⟨F, R, σD, t, σ1, r, h1, fun F1 H1 v x1 r1 => ?_⟩;split at ec
  ·rename_i a
   split at ec
   ·rename_i hf
    rcases h2 : evO pl σ1 with _ | l
    ·rw [h2] at ec; cases ec
    ·rw [h2] at ec; simp only [bind_some] at ec
     rcases h3 : evO ph σ1 with _ | h
     ·rw [h3] at ec; cases ec
     ·rw [h3] at ec; cases ec
      refine ⟨F1, _, _, l, r1, h2, fun F2 H2 g2 => ?_⟩;refine ⟨F2, _, _, h, r1.grow g2, h3, fun F3 H3 g3 => ?_⟩;have r3 := (r1.grow g2).grow g3;have bv := (r3.bor (d := .str a) (v := v) (by simp)).str;exact ⟨a, bv, of_decide_eq_true hf, k F3 H3 _ (x1.trans (g2.x.trans g3.x)) (r3.pop.scal rfl)⟩
   ·cases ec
  ·cases ec
end
end DD
namespace TT
open PySem L2 DD PySem.W
section
variable {S : Type} {Γ Γ1 : Shp S} {c : DE}
theorem je_slS {pl ph : Option DP} {f : S -> Option (Str × S)} {fl fh : S -> Option (Option Int)} (h : JE Γ c f rS Γ1) (hl : JOp Γ1 pl fl) (hh : JOp Γ1 ph fh) :
  JE Γ (dSlS c pl ph) (fun s => (f s).bind fun p => if decide (p.1.length <= sizeLine) = true then (fl p.2).bind fun l => (fh p.2).map fun u => (Txt.slice p.1 l u, p.2) else none) rS Γ1 := fun s σ v s' hs e => by
 obtain ⟨⟨a, s1⟩, e1, e⟩ := bd e;dsimp only at e;split at e
 ·rename_i hz
  obtain ⟨l, e2, e⟩ := bd e;obtain ⟨u, e3, e⟩ := mp e;cases e;obtain ⟨d, σ1, h1, h2, h3⟩ := h s σ a _ hs e1;cases h2;exact ⟨_, σ1, by simp only [dSlS, h1, bind_some, hz, if_true, hl _ _ _ h3 e2, hh _ _ _ h3 e3, map_some], rfl, h3⟩
 ·cases e
end
end TT
namespace L2
open PySem PySem.Spec PyProof.Rows
noncomputable def Its (x : Str) : It := ⟨fun i _ => ∃ c, x.cps[i]? = some c, fun i H v H' => H' = H /\ ∃ c, x.cps[i]? = some c /\ v = .str ⟨#[c]⟩, fun i _ => x.cps[i]? = none⟩
theorem turn_str {P : Program} {w : World} {K : PySem.W.Frag} {tg : Expr} (x : Str) (t : Tok) (it : Addr) : Turn P w K tg (Its x) [it] it (fun i h => h.IsStrIter it "str_ascii_iterator" x t i) where
 mem := by simp
 obj := fun i h st b hb => by
  have e : b = it := by simpa using hb
  subst e;obtain ⟨o, e, c, d⟩ := st;exact ⟨o, e, fun v z => by rw [d] at z; cases z⟩
 keep := fun i h h' st k => by
  obtain ⟨o, e, r⟩ := st;exact ⟨o, k it (by simp) o e, r⟩
 item := by
  intro X hP hw hK hc i pins s σ H E I hf st hg;subst hP hw hK;obtain ⟨c, hx⟩ := hg;obtain ⟨f0, f1, f2, f3, f4, f5⟩ := hf it (by simp);refine wpAny_pyNext_ascii_item st hx fun h' st' sb => ?_
  have I1 : Inv X pins σ H { s with heap := h', toks := s.toks + 1 } := I.turned (fun b o hb e => (sb.2 b hb).trans e) f0 f1 f3 f4 f5;obtain ⟨o, e, cl, d⟩ := id st';exact ⟨_, rfl, go_of (s := { s with heap := h', toks := s.toks + 1 }) e cl d dC ⟨.str ⟨#[c]⟩, H, I1, ⟨_, rfl⟩, ⟨rfl, c, hx, rfl⟩, st', fun b hb => (hf b hb).1⟩⟩
 done := by
  intro X hP hw hK hc i pins s σ H E I hf st hg;subst hP hw hK;obtain ⟨f0, f1, f2, f3, f4, f5⟩ := hf it (by simp);exact wpAny_pyNext_ascii_end (I.ok.hd hc) st hg fun h' eb => ⟨rfl, I.turned (t' := s.toks) (fun b o hb e => eb b o hb e) f0 f1 f3 f4 f5⟩
 self := fun _ _ _ _ _ st h => wpAny_pyIter_striter_ascii st h
section
variable {X : Cx} {tg : Expr}
noncomputable def iStr (tl : TE) : TI := fun σ H R => tl σ H fun v H1 => ∃ x : Str, v = .str x /\ x.cps.all (· < 128) = true /\ R (Its x) H1
theorem pi_str {l : Expr} {tl : TE} (hl : PE X l tl) : PI X tg l (iStr tl) := by
 intro pins s σ H R I h;refine thn (hl pins s σ H _ I h) fun v s1 hq0 => ?_
 obtain ⟨y, H1, I1, r1, x, e, ha, q⟩ := hq0;subst e;obtain ⟨t, rfl⟩ := (show ∃ t, v = Value.str x t from r1);refine wpAny_pyIter_ascii ha ?_;refine ⟨s1.heap.objs.size, [s1.heap.objs.size], _, _, H1, rfl, I1.kept (t' := s1.toks) fun b o e => Heap.get?_push_of_some _ e, turn_str x t _, ⟨_, Heap.get?_push_size _ rfl, rfl, rfl⟩, fun b hb => ?_, q⟩;have e : b = s1.heap.objs.size := by simpa using hb
 subst e;exact I1.fpOk (Nat.le_refl _) (I1.hok.fresh (Nat.le_refl _))
end
end L2
namespace DD
open PySem PySem.Spec PyProof.Rows L2
noncomputable def signs (x : Str) : List Str := x.cps.toList.map fun c => ⟨#[c]⟩
noncomputable def iStrD (c : DE) : DI := fun σ => (c σ).bind fun p => match p.1 with
 | .str x => if x.cps.all (· < 128) = true then some ((signs x).map D.str, p.2) else none
 | _ => none
theorem itd_str {K : PySem.W.Frag} {F : Addr -> Prop} {H : Hp} {x : Str} : ItD K (Its x) ((signs x).map D.str) F H where
 item := fun i d F1 H1 _ _ e => by
  unfold signs at e;rw [List.map_map, List.getElem?_map, Array.getElem?_toList] at e;rcases h : x.cps[i]? with _ | c
  ·rw [h] at e; cases e
  ·rw [h] at e; cases e
   refine ⟨⟨c, h⟩, fun v H2 hq => ?_⟩;obtain ⟨rfl, c', h', rfl⟩ := hq;rw [h] at h'; cases h';exact ⟨F1, Grow.refl, Ow.of_sc rfl⟩
 done := fun F1 H1 _ => by
  show x.cps[((signs x).map D.str).length]? = none;unfold signs;simp
section
variable {X : Cx} {tg e : Expr} {c : DE}
theorem qi_str (he : QE X e c) : QI X tg e (iStrD c) := PI_imp (pi_str he) fun σ H R hq0 => by
 obtain ⟨F, Ro, σD, xs, σD', r, ec, k⟩ := hq0;unfold iStrD at ec;rcases h : c σD with _ | ⟨d, σ1⟩
 ·rw [h] at ec; cases ec
 ·rw [h] at ec; simp only [bind_some] at ec
  refine ⟨F, Ro, σD, d, σ1, r, h, fun F1 H1 v x1 r1 => ?_⟩;split at ec
  ·rename_i x
   split at ec
   ·rename_i ha
    cases ec;have bv := (r1.bor (d := .str x) (v := v) (by simp)).str;exact ⟨x, bv, ha, k F1 H1 _ x1 r1.pop itd_str⟩
   ·cases ec
  ·cases ec
end
end DD
namespace TT
open PySem L2 DD PySem.W
section
variable {S : Type} {Γ Γ1 : Shp S} {c : DE}
theorem ji_str {f : S -> Option (Str × S)} (h : JE Γ c f rS Γ1) : JI Γ (iStrD c) (fun s => (f s).bind fun p => if p.1.cps.all (· < 128) = true then some (signs p.1, p.2) else none) rS Γ1 := fun s σ v s' hs e => by
 obtain ⟨⟨a, s1⟩, e1, e⟩ := bd e;dsimp only at e;split at e
 ·rename_i ha
  cases e;obtain ⟨d, σ1, h1, h2, h3⟩ := h s σ a _ hs e1;cases h2;exact ⟨_, σ1, by simp only [iStrD, h1, bind_some, ha, if_true], all2_strs _, h3⟩
 ·cases e
end
end TT
namespace L2
open PySem PySem.Spec PyProof.Rows
noncomputable abbrev TFs := St -> Hp -> Str -> (Str -> Hp -> Prop) -> Prop
section
variable {X : Cx} {e e1 e2 : Expr} {es : List Expr} {te : TE} {t : TFs} {pos : Pos}
noncomputable def tFv (te : TE) : TE := fun σ H Q => te σ H fun v H1 => (∃ a, v = .str a /\ a.length <= sizeLine /\ Q (.str a) H1) \/ (∃ n, v = .int n /\ n.natAbs.log2 < 1920 /\ Q (.str (Str.ofString (toString n))) H1)
theorem pe_fv (he : PE X e te) : PE X (.FormattedValue e (-1) none pos) (tFv te) := by
 intro pins s σ H Q I h;refine FormattedValue_plain (thn (he pins s σ H _ I h) fun v s1 hq => ?_);obtain ⟨x, H1, I1, r1, q⟩ := hq;rcases q with ⟨a, rfl, hz, q⟩ | ⟨n, rfl, hl, q⟩
 ·obtain ⟨t, rfl⟩ := (show ∃ t, v = Value.str a t from r1)
  exact formatField_str (fun t' tk => ⟨.str a, H1, I1.tok tk, ⟨_, rfl⟩, q⟩) hz
 ·obtain ⟨t, rfl⟩ := (show ∃ t, v = Value.int n t from r1)
  exact formatField_int_small hl ⟨.str _, H1, I1.tok _, ⟨_, rfl⟩, q⟩
noncomputable def PF (X : Cx) (es : List Expr) (t : TFs) : Prop := ∀ (pins : List (Addr × Obj)) (s : Shared) (σ : St) (H : Hp) (acc : Str) (Q : VK), Inv X pins σ H s -> (t σ H acc fun out H' => Q (.str out) H') ->
 wpAny (model X.prog X.w) X.A (joinParts acc (evalEach es X.env)) (EP X pins σ Q) X.xe s
theorem pf_nil : PF X [] (fun _ H acc Q => acc.length <= sizeLine /\ Q acc H) := fun pins s σ H acc Q I h => joinParts_nil ⟨.str acc, H, I.tok _, ⟨_, rfl⟩, h.2⟩ h.1
theorem pf_cons (he : PE X e te) (hr : PF X es t) (hs : autoParam (evalEach (e :: es) X.env = eval e X.env :: evalEach es X.env) Ax4._auto_1) : PF X (e :: es) (fun σ H acc Q => te σ H fun v H1 => ∃ y, v = .str y /\ (acc ++ y).length <= sizeLine /\ t σ H1 (acc ++ y) Q) := by
 intro pins s σ H acc Q I h;rw [hs];refine joinParts_cons (thn (he pins s σ H _ I h) fun v s1 hq => ?_);obtain ⟨x, H1, I1, r1, y, rfl, hz, q⟩ := hq;obtain ⟨t, rfl⟩ := (show ∃ t, v = Value.str y t from r1);exact ⟨hz, hr pins s1 σ H1 _ Q I1 q⟩
theorem pe_joined (h : PF X (e1 :: e2 :: es) t) : PE X (.JoinedStr (e1 :: e2 :: es) pos) (fun σ H Q => t σ H Str.empty fun out H' => Q (.str out) H') := fun pins s σ H Q I q => JoinedStr_many (h pins s σ H Str.empty Q I q)
end
end L2
namespace DD
open PySem PySem.Spec PyProof.Rows L2
noncomputable def dFv (c : DE) : DE := fun σ => (c σ).bind fun p => match p.1 with
 | .str a => if decide (a.length <= sizeLine) = true then some (.str a, p.2) else none
 | .int n => if decide (n.natAbs.log2 < 1920) = true then some (.str (Str.ofString (toString n)), p.2) else none
 | _ => none
noncomputable def fsD : List DE -> Str -> DSt -> Option (Str × DSt)
 | [], acc, σ => if decide (acc.length <= sizeLine) = true then some (acc, σ) else none
 | c :: cs, acc, σ => (c σ).bind fun p => match p.1 with
  | .str y => if decide ((acc ++ y).length <= sizeLine) = true then fsD cs (acc ++ y) p.2 else none
  | _ => none
noncomputable def dFs (cs : List DE) : DE := fun σ => (fsD cs Str.empty σ).map fun p => (.str p.1, p.2)
noncomputable def rF (K : PySem.W.Frag) (cs : List DE) : TFs := fun σ H acc Q => ∃ F R σD out σD', Rel K F H σD σ R /\ fsD cs acc σD = some (out, σD') /\ ∀ F' H', Ext F H F' H' -> Rel K F' H' σD' σ R -> Q out H'
noncomputable def QF (X : Cx) (es : List Expr) (cs : List DE) : Prop := PF X es (rF X.K cs)
theorem PF_imp {X : Cx} {es : List Expr} {t t' : TFs} (h : PF X es t) (k : ∀ σ H acc Q, t' σ H acc Q -> t σ H acc Q) : PF X es t' := fun pins s σ H acc Q I q => h pins s σ H acc Q I (k _ _ _ _ q)
section
variable {X : Cx} {e e1 e2 : Expr} {es : List Expr} {c : DE} {cs : List DE} {pos : Pos}
theorem qe_fv (he : QE X e c) : QE X (.FormattedValue e (-1) none pos) (dFv c) := PE_imp (pe_fv he) fun σ H Q hq0 => by
 obtain ⟨F, R, σD, d, σD', r, ec, k⟩ := hq0;unfold dFv at ec;rcases h1 : c σD with _ | ⟨t, σ1⟩
 ·rw [h1] at ec; cases ec
 ·rw [h1] at ec; simp only [bind_some] at ec
  refine ⟨F, R, σD, t, σ1, r, h1, fun F1 H1 v x1 r1 => ?_⟩;split at ec
  ·rename_i a
   split at ec
   ·rename_i hz
    cases ec;exact .inl ⟨a, (r1.bor (d := .str a) (v := v) (by simp)).str, of_decide_eq_true hz, k F1 H1 _ x1 (r1.pop.scal rfl)⟩
   ·cases ec
  ·rename_i n
   split at ec
   ·rename_i hz
    cases ec;exact .inr ⟨n, (r1.bor (d := .int n) (v := v) (by simp)).int, of_decide_eq_true hz, k F1 H1 _ x1 (r1.pop.scal rfl)⟩
   ·cases ec
  ·cases ec
theorem qf_nil : QF X [] [] := PF_imp pf_nil fun σ H acc Q hq0 => by
 obtain ⟨F, R, σD, out, σD', r, ec, k⟩ := hq0;unfold fsD at ec;split at ec
 ·rename_i hz
  cases ec;exact ⟨of_decide_eq_true hz, k F H Ext.refl r⟩
 ·cases ec
theorem qf_cons (he : QE X e c) (hr : QF X es cs) (hs : autoParam (evalEach (e :: es) X.env = eval e X.env :: evalEach es X.env) Ax4._auto_1) : QF X (e :: es) (c :: cs) := PF_imp (pf_cons he hr hs) fun σ H acc Q hq0 => by
 obtain ⟨F, R, σD, out, σD', r, ec, k⟩ := hq0;unfold fsD at ec;rcases h1 : c σD with _ | ⟨t, σ1⟩
 ·rw [h1] at ec; cases ec
 ·rw [h1] at ec; simp only [bind_some] at ec
  refine ⟨F, R, σD, t, σ1, r, h1, fun F1 H1 v x1 r1 => ?_⟩;split at ec
  ·rename_i y
   split at ec
   ·rename_i hz
    exact ⟨y, (r1.bor (d := .str y) (v := v) (by simp)).str, of_decide_eq_true hz, F1, R, σ1, out, σD', r1.pop, ec, fun F2 H2 x2 r2 => k F2 H2 (x1.trans x2) r2⟩
   ·cases ec
  ·cases ec
theorem qe_fs (h : QF X (e1 :: e2 :: es) cs) : QE X (.JoinedStr (e1 :: e2 :: es) pos) (dFs cs) := PE_imp (pe_joined h) fun σ H Q hq0 => by
 obtain ⟨F, R, σD, d, σD', r, ec, k⟩ := hq0;unfold dFs at ec;rcases h1 : fsD cs Str.empty σD with _ | ⟨out, σ1⟩
 ·rw [h1] at ec; cases ec
 ·rw [h1] at ec; cases ec
  exact ⟨F, R, σD, out, _, r, h1, fun F1 H1 x1 r1 => k F1 H1 _ x1 (r1.scal rfl)⟩
end
end DD
namespace TT
open PySem L2 DD PySem.W
section
variable {S : Type} {Γ Γ1 Γ2 : Shp S} {c : DE} {cs : List DE}
theorem je_fvS {f : S -> Option (Str × S)} (h : JE Γ c f rS Γ1) : JE Γ (dFv c) (fun s => (f s).bind fun p => if decide (p.1.length <= sizeLine) = true then some p else none) rS Γ1 := fun s σ v s' hs e => by
 obtain ⟨⟨a, s1⟩, e1, e⟩ := bd e;dsimp only at e;split at e
 ·rename_i hz
  cases e;obtain ⟨d, σ1, h1, h2, h3⟩ := h s σ _ _ hs e1;cases h2;exact ⟨_, σ1, by simp only [dFv, h1, bind_some, hz, if_true], rfl, h3⟩
 ·cases e
theorem je_fvI {f : S -> Option (Int × S)} (h : JE Γ c f rI Γ1) : JE Γ (dFv c) (fun s => (f s).bind fun p => if decide (p.1.natAbs.log2 < 1920) = true then some (Str.ofString (toString p.1), p.2) else none) rS Γ1 := fun s σ v s' hs e => by
 obtain ⟨⟨a, s1⟩, e1, e⟩ := bd e;dsimp only at e;split at e
 ·rename_i hz
  cases e;obtain ⟨d, σ1, h1, h2, h3⟩ := h s σ _ _ hs e1;cases h2;exact ⟨_, σ1, by simp only [dFv, h1, bind_some, hz, if_true], rfl, h3⟩
 ·cases e
noncomputable def JFS (Γ : Shp S) (cs : List DE) (g : Str -> S -> Option (Str × S)) (Γ' : Shp S) : Prop := ∀ acc s σ v s', Sat Γ s σ -> g acc s = some (v, s') -> ∃ σ', fsD cs acc σ = some (v, σ') /\ Sat Γ' s' σ'
theorem jfs_nil : JFS Γ [] (fun acc s => if decide (acc.length <= sizeLine) = true then some (acc, s) else none) Γ := fun acc s σ v s' hs e => by
 dsimp only at e;split at e
 ·rename_i hz
  cases e;exact ⟨σ, by simp only [fsD, hz, if_true], hs⟩
 ·cases e
theorem jfs_cons {f : S -> Option (Str × S)} {g : Str -> S -> Option (Str × S)} (h : JE Γ c f rS Γ1) (hr : JFS Γ1 cs g Γ2) : JFS Γ (c :: cs) (fun acc s => (f s).bind fun p => if decide ((acc ++ p.1).length <= sizeLine) = true then g (acc ++ p.1) p.2 else none) Γ2 := fun acc s σ v s' hs e => by
 obtain ⟨⟨a, s1⟩, e1, e⟩ := bd e;dsimp only at e;split at e
 ·rename_i hz
  obtain ⟨d, σ1, h1, h2, h3⟩ := h s σ _ _ hs e1;cases h2;obtain ⟨σ2, h4, h5⟩ := hr _ _ _ _ _ h3 e;exact ⟨σ2, by simp only [fsD, h1, bind_some, hz, if_true, h4], h5⟩
 ·cases e
theorem je_fs {g : Str -> S -> Option (Str × S)} (h : JFS Γ cs g Γ1) : JE Γ (dFs cs) (g Str.empty) rS Γ1 := fun s σ v s' hs e => by
 obtain ⟨σ1, h1, h2⟩ := h _ _ _ _ _ hs e;exact ⟨_, σ1, by simp only [dFs, h1, map_some], rfl, h2⟩
end
end TT
namespace DD
open PySem PySem.Spec PyProof.Rows L2
theorem qb_globS {X : Cx} {x y : Str} {pos : Pos} (hg : Gl X x) (hm : ∃ t, X.mg x = some (.str y t)) (hd : autoParam ((x == ("__debug__" : Str)) = false) Ax1._auto_1) : QB X (.Name x pos) (pC (.str y)) := by
 obtain ⟨t, hm⟩ := hm;exact PE_imp (pe_glob (v := .str y) hg hm ⟨t, rfl⟩ hd) fun σ H Q hq => by
  obtain ⟨F, R, σD, d, r, ec, k⟩ := hq;cases ec; exact k F H _ Grow.refl ⟨[], Ow.of_sc rfl⟩
end DD
namespace TT
open PySem L2 DD PySem.W
theorem jb_lenS : JB1 lenD (fun x : Str => if x.length <= sizeLine then some (x.length : Int) else none) rS rI := fun a c x e h => by
 cases h;dsimp only at e;split at e
 ·rename_i hz
  cases e;exact ⟨_, by simp only [lenD, hz, if_true], rfl⟩
 ·cases e
noncomputable def atS (z : Str) (i : Int) : Option Str := if z.length <= sizeLine then (atI z.cps.toList i).map fun c => ⟨#[c]⟩ else none
theorem jo_ixS : JO ixD atS rS rI rS := fun a b c x y e h1 h2 => by
 cases h1; cases h2;unfold atS at e;split at e
 ·rename_i hz
  obtain ⟨k, e1, e2⟩ := mp e;subst e2;exact ⟨_, by simp only [ixD, hz, if_true, e1, map_some], rfl⟩
 ·cases e
section
variable {S : Type} {Γ Γ1 Γ2 : Shp S} {c c' : DE}
end
end TT
namespace L2
open PySem PySem.Spec PyProof.Rows
end L2
namespace DD
open PySem PySem.Spec PyProof.Rows L2
section
variable {X : Cx} {e : Expr} {lo hi : Option Expr} {pl ph : Option DP} {p : DP} {pos p2 : Pos}
end
end DD
namespace TT
open PySem L2 DD PySem.W
section
variable {S : Type} {α : Type} {Γ : Shp S}
end
end TT
namespace L2
open PySem PySem.Spec PyProof.Rows
end L2
namespace DD
open PySem PySem.Spec PyProof.Rows L2
section
variable {X : Cx} {st : Stmt} {sts : List Stmt} {s s1 s2 : DS} {W W1 W2 : List Nat}
end
section
variable {X : Cx} {s1 s2 : DS} {pos : Pos} {W1 W2 : List Nat} {body : List Stmt}
end
end DD
namespace TT
open PySem L2 DD
section
variable {S : Type} {α τ ρ : Type} {Γ Γ1 Γb Γ2 : Shp S} {E : Ex S ρ}
end
end TT
namespace DD
open PySem PySem.Spec PyProof.Rows L2
section
variable {X : Cx} {e1 e2 : Expr} {pos : Pos}
end
end DD
namespace TT
open PySem L2 DD
section
variable {S : Type} {α β γ δ ρ : Type} {Γ : Shp S}
end
end TT
namespace L2
open PySem PySem.Spec PyProof.Rows PySem.W
noncomputable abbrev Zp (h : Heap) (z TI TO : Addr) (f0 : Value) (b : Bool) : Prop := h.get? z = some { cls := .type "zip", dict := none, data := .fields #[f0, .bool b, .bool false, .ref TI, .ref TO], slots := #[] }
section
variable {prog : Program} {w : World} {A : Around} {E : Value -> Shared -> Prop} {s : Shared}
theorem zp_again {z TI TO i1 i2 l1 l2 T : Addr} {b : Bool} {oT : Obj} {k1 k2 : Nat} {xs ys : Array Value} {x y : Value} {Q : Value -> Shared -> Prop} (D : ZipApart z TI TO i1 i2 l1 l2)
  (hz : Zp s.heap z TI TO (rawInt T) b) (hT : s.heap.get? T = some oT) (hTI : IsPair s.heap TI (.ref i1) (.ref i2))
  (h1 : s.heap.IsListIter i1 l1 k1) (h2 : s.heap.IsListIter i2 l2 k2) (hl1 : s.heap.IsList l1 xs) (hl2 : s.heap.IsList l2 ys) (hx : xs[k1]? = some x) (hy : ys[k2]? = some y)
  (hQ : ∀ h', Zp h' z TI TO (rawInt T) true -> h'.IsListIter i1 l1 (k1 + 1) -> h'.IsListIter i2 l2 (k2 + 1) -> IsPair h' s.heap.objs.size x y -> h'.objs.size = s.heap.objs.size + 1 ->
   (∀ c o, c ≠ z -> c ≠ i1 -> c ≠ i2 -> s.heap.get? c = some o -> h'.get? c = some o) -> Q (.ref s.heap.objs.size) { s with heap := h' }) :
  wpAny (model prog w) A (Builtin.«zip.__next__» ⟨[.ref z], []⟩) (fun fin s' => ∃ v, fin = .done (.ret v) /\ Q v s') E s := by
 have free : wpAny (model prog w) A (Builtin.SmallTypes.ownedTupleIsFree (.ref z)) (fun q s' => q = false /\ ∃ h₁, s' = { s with heap := h₁ } /\ Zp h₁ z TI TO (rawInt T) true /\ Heap.SameBut z s.heap h₁) E s := by
  unfold Builtin.SmallTypes.ownedTupleIsFree;refine wpAny_bind (wpAny_field hz rfl (x := rawInt T) rfl ?_);show wpAny _ _ (loadIfAlive ((T : Int).toNat) >>= _) _ _ _;rw [Int.toNat_natCast];refine wpAny_bind (kdx_alive hT ?_);simp only [Option.isNone_some, Bool.false_eq_true, if_false];refine wpAny_bind (wpAny_field hz rfl (x := .bool b) rfl ?_);cases b with
  | true =>
   rw [if_neg (show ¬ ((Value.bool true != Value.bool true) = true) from Bool.false_ne_true)];exact wpAny_pure ⟨rfl, s.heap, rfl, hz, Heap.SameBut.refl _ _⟩
  | false =>
   rw [if_pos (show (Value.bool false != Value.bool true) = true from rfl)];exact wpAny_bind (wpAny_setField_rec hz (by simp) fun h₁ hz₁ hs₁ => wpAny_pure ⟨rfl, h₁, rfl, hz₁, hs₁⟩)
 show wpAny _ _ (field (.ref z) 2 >>= _) _ _ _;refine wpAny_bind (wpAny_field hz rfl (x := .bool false) rfl ?_);show wpAny _ _ (field (.ref z) 3 >>= _) _ _ _;refine wpAny_bind (wpAny_field hz rfl (x := .ref TI) rfl ?_);refine wpAny_bind (wpAny_seqItems hTI rfl ?_);show wpAny _ _ (Builtin.SmallTypes.ownedTupleIsFree (.ref z) >>= _) _ _ _;refine wpAny_bind (thn0 free fun q s' hq => ?_);obtain ⟨rfl, h₁, rfl, hz₁, hs₁⟩ := hq;simp only [Bool.false_eq_true, if_false];refine wpAny_bind ?_;rw [<- Array.forIn_toList];simp only [List.forIn_cons, List.forIn_nil];refine wpAny_bind (wpAny_bind (wpAny_holding ?_));show wpAny _ _ (Builtin.SmallTypes.nextOf (.ref i1) >>= _) _ _ _;refine wpAny_bind (wpAny_nextOf_list_item (h1.extBut hs₁.extBut D.i1z) (hl1.extBut hs₁.extBut D.l1z) hx fun h₂ h1₂ hs₂ => wpAny_pure (wpAny_pure ?_));refine wpAny_bind (wpAny_bind (wpAny_holding ?_));show wpAny _ _ (Builtin.SmallTypes.nextOf (.ref i2) >>= _) _ _ _;refine wpAny_bind (wpAny_nextOf_list_item ((h2.extBut hs₁.extBut D.i2z).extBut hs₂.extBut D.i12.symm) ((hl2.extBut hs₁.extBut D.l2z).extBut hs₂.extBut D.l2i1) hy fun h₃ h2₃ hs₃ => wpAny_pure (wpAny_pure (wpAny_pure ?_)));refine wpAny_bind (wpAny_newTuple ?_ (by show 2 <= sizeLine; decide));have hz3 : h₃.objs.size = s.heap.objs.size := by rw [hs₃.1, hs₂.1, hs₁.1]
 have up : ∀ c o, c ≠ z -> c ≠ i1 -> c ≠ i2 -> s.heap.get? c = some o -> h₃.get? c = some o := fun c o c1 c2 c3 e => hs₃.extBut _ _ c3 (hs₂.extBut _ _ c2 (hs₁.extBut _ _ c1 e))
 refine wpAny_pure ⟨_, rfl, ?_⟩;show Q (.ref h₃.objs.size) _;rw [hz3];refine hQ (h₃.push { cls := .type "tuple", data := .seq #[x, y] }) (Heap.get?_push_of_some _ (hs₃.extBut _ _ D.i2z.symm (hs₂.extBut _ _ D.i1z.symm hz₁))) ((h1₂.extBut hs₃.extBut D.i12).at fun o e => Heap.get?_push_of_some _ e) (h2₃.at fun o e => Heap.get?_push_of_some _ e) ?_ (by rw [Heap.size_push, hz3]) (fun c o c1 c2 c3 e => Heap.get?_push_of_some _ (up c o c1 c2 c3 e));rw [<- hz3];exact Heap.get?_push_size _ rfl
theorem zp_next {z TI TO i1 i2 l1 l2 T : Addr} {b : Bool} {oT : Obj} {k1 k2 : Nat} {xs ys : Array Value} {x y : Value} {Q : Option Value -> Shared -> Prop} (D : ZipApart z TI TO i1 i2 l1 l2)
  (hz : Zp s.heap z TI TO (rawInt T) b) (hT : s.heap.get? T = some oT) (hTI : IsPair s.heap TI (.ref i1) (.ref i2))
  (h1 : s.heap.IsListIter i1 l1 k1) (h2 : s.heap.IsListIter i2 l2 k2) (hl1 : s.heap.IsList l1 xs) (hl2 : s.heap.IsList l2 ys) (hx : xs[k1]? = some x) (hy : ys[k2]? = some y)
  (hQ : ∀ h', Zp h' z TI TO (rawInt T) true -> h'.IsListIter i1 l1 (k1 + 1) -> h'.IsListIter i2 l2 (k2 + 1) -> IsPair h' s.heap.objs.size x y -> h'.objs.size = s.heap.objs.size + 1 ->
   (∀ c o, c ≠ z -> c ≠ i1 -> c ≠ i2 -> s.heap.get? c = some o -> h'.get? c = some o) -> Q (some (.ref s.heap.objs.size)) { s with heap := h' }) :
  wpAny (model prog w) A (pyNext (.ref z)) Q E s := by
 have hY : s.TypeIs (.ref z) "zip" := ⟨_, hz, rfl⟩;unfold pyNext;exact wpAny_bind (wpAny_attempt (wpAny_callSpecial?_slot (name := Str.ofString "__next__") hY PySem.F.slot_zip_next (wpAny_call_entry PySem.F.slot_zip_next hY PySem.F.entry_zip_next
  (zp_again D hz hT hTI h1 h2 hl1 hl2 hx hy fun h' a1 a2 a3 a4 a5 a6 => wpAny_pure (hQ h' a1 a2 a3 a4 a5 a6)) (PySem.F.args_zip_next_1 _))))
theorem zp_stop {z TI TO i1 i2 l1 l2 T : Addr} {b : Bool} {oT : Obj} {k1 : Nat} {xs : Array Value} {Q : Option Value -> Shared -> Prop} (hh : A.handled = none) (D : ZipApart z TI TO i1 i2 l1 l2)
  (hz : Zp s.heap z TI TO (rawInt T) b) (hT : s.heap.get? T = some oT) (hTI : IsPair s.heap TI (.ref i1) (.ref i2))
  (h1 : s.heap.IsListIter i1 l1 k1) (hl1 : s.heap.IsList l1 xs) (hx : xs[k1]? = none)
  (hQ : ∀ h', (∀ c o, c ≠ z -> c ≠ i1 -> s.heap.get? c = some o -> h'.get? c = some o) -> Q none { s with heap := h' }) : wpAny (model prog w) A (pyNext (.ref z)) Q E s := by
 have hY : s.TypeIs (.ref z) "zip" := ⟨_, hz, rfl⟩;have free : wpAny (model prog w) A.in1 (Builtin.SmallTypes.ownedTupleIsFree (.ref z)) (fun q s' => q = false /\ ∃ h₁, s' = { s with heap := h₁ } /\ Zp h₁ z TI TO (rawInt T) true /\ Heap.SameBut z s.heap h₁) (fun _ _ => False) s := by
  unfold Builtin.SmallTypes.ownedTupleIsFree;refine wpAny_bind (wpAny_field hz rfl (x := rawInt T) rfl ?_);show wpAny _ _ (loadIfAlive ((T : Int).toNat) >>= _) _ _ _;rw [Int.toNat_natCast];refine wpAny_bind (kdx_alive hT ?_);simp only [Option.isNone_some, Bool.false_eq_true, if_false];refine wpAny_bind (wpAny_field hz rfl (x := .bool b) rfl ?_);cases b with
  | true =>
   rw [if_neg (show ¬ ((Value.bool true != Value.bool true) = true) from Bool.false_ne_true)];exact wpAny_pure ⟨rfl, s.heap, rfl, hz, Heap.SameBut.refl _ _⟩
  | false =>
   rw [if_pos (show (Value.bool false != Value.bool true) = true from rfl)];exact wpAny_bind (wpAny_setField_rec hz (by simp) fun h₁ hz₁ hs₁ => wpAny_pure ⟨rfl, h₁, rfl, hz₁, hs₁⟩)
 unfold pyNext;refine wpAny_bind (wpAny_attempt (wpAny_callSpecial?_slot (name := Str.ofString "__next__") hY PySem.F.slot_zip_next (wpAny_call_entry PySem.F.slot_zip_next hY PySem.F.entry_zip_next ?_ (PySem.F.args_zip_next_1 _))));show wpAny _ _ (field (.ref z) 2 >>= _) _ _ _;refine wpAny_bind (wpAny_field hz rfl (x := .bool false) rfl ?_);show wpAny _ _ (field (.ref z) 3 >>= _) _ _ _;refine wpAny_bind (wpAny_field hz rfl (x := .ref TI) rfl ?_);refine wpAny_bind (wpAny_seqItems hTI rfl ?_);show wpAny _ _ (Builtin.SmallTypes.ownedTupleIsFree (.ref z) >>= _) _ _ _;refine wpAny_bind (wpAny_mono free (fun q s' hq => ?_) fun _ _ x => x.elim);obtain ⟨rfl, h₁, rfl, hz₁, hs₁⟩ := hq;simp only [Bool.false_eq_true, if_false];refine wpAny_bind ?_;rw [<- Array.forIn_toList];simp only [List.forIn_cons, List.forIn_nil];refine wpAny_bind (wpAny_bind (wpAny_holding ?_));show wpAny _ _ (Builtin.SmallTypes.nextOf (.ref i1) >>= _) _ _ _;refine wpAny_bind (wpAny_nextOf_list_end hh (h1.extBut hs₁.extBut D.i1z) (hl1.extBut hs₁.extBut D.l1z) hx fun h₂ e hs₂ he => ?_);obtain ⟨oe, hoe, hce⟩ := he;refine wpAny_bind (wpAny_isInstance (T := "StopIteration") (b := true) ⟨oe, hoe, hce⟩ isSubtype_stop ?_);exact wpAny_pure (hQ _ fun c o c1 c2 e => hs₂ c o c2 (hs₁.extBut c o c1 e))
end
noncomputable def layZ : Hp -> List Addr -> List V -> List V -> Hp
 | H, a :: as, x :: xs, y :: ys => layZ (upd H a (.tup [x, y])) as xs ys
 | H, _, _, _ => H
theorem layZ_snoc : ∀ {as : List Addr} {H : Hp} {xs ys : List V} {a : Addr} {x y : V}, xs[as.length]? = some x -> ys[as.length]? = some y -> layZ H (as ++ [a]) xs ys = upd (layZ H as xs ys) a (.tup [x, y]) := by
 intro as
 induction as with
 | nil =>
  intro H xs ys a x y hx hy;cases xs with
  | nil => simp at hx
  | cons x' xs =>
   cases ys with
   | nil => simp at hy
   | cons y' ys =>
    simp at hx hy;subst hx; subst hy;cases xs <;> cases ys <;> rfl
 | cons b as ih =>
  intro H xs ys a x y hx hy;cases xs with
  | nil => simp at hx
  | cons x' xs =>
   cases ys with
   | nil => simp at hy
   | cons y' ys => exact ih (by simpa using hx) (by simpa using hy)
theorem layZ_ne : ∀ {as : List Addr} {H : Hp} {xs ys : List V} {c : Addr}, c ∉ as -> layZ H as xs ys c = H c := by
 intro as
 induction as with
 | nil => intro H xs ys c _; cases xs <;> cases ys <;> rfl
 | cons b as ih =>
  intro H xs ys c hc;cases xs with
  | nil => rfl
  | cons x xs =>
   cases ys with
   | nil => rfl
   | cons y ys =>
    show layZ (upd H b _) as xs ys c = H c;rw [ih fun z => hc (List.mem_cons_of_mem _ z), upd_ne fun z => hc (by rw [z]; exact List.mem_cons_self)]
theorem upd_swap {H : Hp} {a b : Addr} {o u v : HO} (h : a ≠ b) : upd (upd (upd H b o) a u) b v = upd (upd H a u) b v := by
 funext c;by_cases hb : c = b
 ·subst hb; rw [upd_same, upd_same]
 ·rw [upd_ne hb, upd_ne hb]
  by_cases ha : c = a
  ·subst ha; rw [upd_same, upd_same]
  ·rw [upd_ne ha, upd_ne ha, upd_ne hb]
theorem nn {a b : Nat} (h : a < b \/ b < a) : @Ne Addr a b := fun e => by
 have e' : @Eq Nat a b := e;omega
structure ZS (X : Cx) (pins : List (Addr × Obj)) (σ : St) (H1 : Hp) (n l1 l2 : Nat) (its1 its2 : List Value) (vs us : List V) (i : Nat) (as : List Addr) (s : Shared) : Prop where
 inv : Inv X pins σ (upd (layZ H1 as vs us) (n + 5) (.lst (as.map V.ref))) s
 zp : (as = [] /\ Zp s.heap (n + 4) (n + 2) (n + 3) .none false /\ ∃ a b, IsPair s.heap (n + 3) a b) \/ ∃ (T : Addr) (b : Bool) (o : Obj), Zp s.heap (n + 4) (n + 2) (n + 3) (rawInt T) b /\ s.heap.get? T = some o /\ n + 6 <= T
 to : ∃ o, s.heap.get? (n + 3) = some o
 ti : IsPair s.heap (n + 2) (.ref n) (.ref (n + 1))
 it1 : s.heap.IsListIter n l1 i
 it2 : s.heap.IsListIter (n + 1) l2 i
 ls1 : s.heap.IsList l1 its1.toArray
 ls2 : s.heap.IsList l2 its2.toArray
 lS : ∃ acc c, s.heap.get? (n + 5) = some { cls := .type "list", dict := none, data := .seq acc c, slots := #[] } /\ acc.toList = as.map Value.ref
 len : as.length = i
 lo : ∀ a ∈ as, n + 6 <= a
 up : ∀ a ∈ as, a < s.heap.objs.size
 nd : as.Nodup
 sz : n + 6 <= s.heap.objs.size
section
variable {X : Cx} {pins : List (Addr × Obj)} {σ : St} {H1 : Hp} {s1 : Shared} {l1 l2 n : Nat} {its1 its2 : List Value} {vs us : List V} {A : Around}
theorem apart5 (b1 : l1 < n) (b2 : l2 < n) : ZipApart (n + 4) (n + 2) (n + 3) n (n + 1) l1 l2 := by
 constructor <;> (show @Ne Nat _ _; omega)
theorem zs_item (I1 : Inv X pins σ H1 s1) (hn : s1.heap.objs.size = n) (b1 : l1 < n) (b2 : l2 < n) (rv1 : Vals vs its1) (rv2 : Vals us its2) (hlen : its1.length = its2.length) (hN : its1.length <= sizeLine) {i : Nat} {as : List Addr} {s : Shared} (hi : i < its1.length) (z : ZS X pins σ H1 n l1 l2 its1 its2 vs us i as s) {E : Value -> Shared -> Prop} {Q : Option Value -> Shared -> Prop}
  (hQ : ∀ h' x y, vs[i]? = some x -> us[i]? = some y -> Inv X pins σ (upd (upd (layZ H1 as vs us) (n + 5) (.lst (as.map V.ref))) s.heap.objs.size (.tup [x, y])) { s with heap := h' } -> (∃ (T : Addr) (b : Bool) (o : Obj), Zp h' (n + 4) (n + 2) (n + 3) (rawInt T) b /\ h'.get? T = some o /\ n + 6 <= T) ->
   h'.IsListIter n l1 (i + 1) -> h'.IsListIter (n + 1) l2 (i + 1) -> h'.objs.size = s.heap.objs.size + 1 -> (∃ o, h'.get? s.heap.objs.size = some o) -> (∃ o, h'.get? (n + 3) = some o) -> (∀ c o, c ≠ n + 4 -> c ≠ n + 3 -> c ≠ n -> c ≠ n + 1 -> s.heap.get? c = some o -> h'.get? c = some o) -> Q (some (.ref s.heap.objs.size)) { s with heap := h' }) :
  wpAny (model X.prog X.w) A (pyNext (.ref (n + 4))) Q E s := by
 have D := apart5 (n := n) b1 b2;obtain ⟨u1, hu1⟩ : ∃ u, its1[i]? = some u := ⟨its1[i], by simp [hi]⟩;obtain ⟨u2, hu2⟩ : ∃ u, its2[i]? = some u := ⟨its2[i]'(by omega), by simp [show i < its2.length by omega]⟩;have lv1 := rv1.length;have lv2 := rv2.length;obtain ⟨x, hx⟩ : ∃ x, vs[i]? = some x := ⟨vs[i]'(by omega), by simp [show i < vs.length by omega]⟩;obtain ⟨y, hy⟩ : ∃ y, us[i]? = some y := ⟨us[i]'(by omega), by simp [show i < us.length by omega]⟩;have ru1 : RelV x u1 := by obtain ⟨u, e, r⟩ := rv1.get hx; rw [hu1] at e; cases e; exact r
 have ru2 : RelV y u2 := by obtain ⟨u, e, r⟩ := rv2.get hy; rw [hu2] at e; cases e; exact r
 have fp : ∀ c, n <= c -> c < n + 5 -> FpOk X pins (upd (layZ H1 as vs us) (n + 5) (.lst (as.map V.ref))) c := fun c h1 h2 => by
  refine I1.fpOk (by rw [hn]; exact h1) ?_;rw [upd_ne (nn oM), layZ_ne (fun hc => by have := z.lo c hc; omega)];exact I1.hok.fresh (by rw [hn]; exact h1)
 have hsz := z.sz;have fin : ∀ h' : Heap, (∃ (T : Addr) (b : Bool) (o : Obj), Zp h' (n + 4) (n + 2) (n + 3) (rawInt T) b /\ h'.get? T = some o /\ n + 6 <= T) -> h'.IsListIter n l1 (i + 1) -> h'.IsListIter (n + 1) l2 (i + 1) -> IsPair h' s.heap.objs.size u1 u2 -> h'.objs.size = s.heap.objs.size + 1 -> (∃ o, h'.get? (n + 3) = some o) ->
   (∀ c o, c ≠ n + 4 -> c ≠ n + 3 -> c ≠ n -> c ≠ n + 1 -> s.heap.get? c = some o -> h'.get? c = some o) -> Q (some (.ref s.heap.objs.size)) { s with heap := h' } := fun h' a1 a3 a4 a5 a6 a7 hk => by
  refine hQ h' x y hx hy ?_ a1 a3 a4 a6 ⟨_, a5⟩ a7 hk;refine z.inv.turnT (ch := [n + 4, n + 3, n, n + 1]) (fun c hc => ?_) ru1 ru2 (fun c o hc e => hk c o (fun q => hc (by simp [q])) (fun q => hc (by simp [q])) (fun q => hc (by simp [q])) (fun q => hc (by simp [q])) e) a5 (fun c hc => ?_)
  ·simp only [List.mem_cons, List.not_mem_nil, or_false] at hc
   rcases hc with rfl | rfl | rfl | rfl <;> exact fp _ oM oM
  ·simp only [List.mem_cons, List.not_mem_nil, or_false] at hc
   obtain ⟨T, b, o, q, _⟩ := a1;obtain ⟨o1, e1, _⟩ := id a3;obtain ⟨o2, e2, _⟩ := id a4;rcases hc with rfl | rfl | rfl | rfl
   ·exact ⟨_, q⟩
   ·exact a7
   ·exact ⟨_, e1⟩
   ·exact ⟨_, e2⟩
 rcases z.zp with ⟨_, hz, ua, ub, hTO⟩ | ⟨T, b, o, hz, hT, hTn⟩
 ·refine wpAny_pyNext_zip_item D hz z.ti hTO z.it1 z.it2 z.ls1 z.ls2 (x := u1) (y := u2) (by simpa using hu1) (by simpa using hu2) fun h' a1 a2 a3 a4 a5 a6 hk => ?_
  exact fin h' ⟨s.heap.objs.size, false, _, a1, a5, hsz⟩ a3 a4 a5 a6 ⟨_, a2⟩ hk
 ·refine zp_next D hz hT z.ti z.it1 z.it2 z.ls1 z.ls2 (x := u1) (y := u2) (by simpa using hu1) (by simpa using hu2) fun h' a1 a3 a4 a5 a6 hk => ?_
  obtain ⟨o3, e3⟩ := z.to;exact fin h' ⟨T, true, o, a1, hk T o (nn oM) (nn oM) (nn oM) hT, hTn⟩ a3 a4 a5 a6 ⟨o3, hk _ _ (nn oM) (nn oM) (nn oM) e3⟩ (fun c o c1 c2 c3 c4 e => hk c o c1 c3 c4 e)
theorem lz_loop (I1 : Inv X pins σ H1 s1) (hn : s1.heap.objs.size = n) (b1 : l1 < n) (b2 : l2 < n) (rv1 : Vals vs its1) (rv2 : Vals us its2) (hlen : its1.length = its2.length) (hN : its1.length <= sizeLine) (h1 : 1 <= its1.length) (hh : A.handled = none) {R : Result -> Shared -> Prop} (res : Value)
  (hR : ∀ s' as, Inv X pins σ (upd (layZ H1 as vs us) (n + 5) (.lst (as.map V.ref))) s' -> as.length = its1.length -> as.Nodup -> (∀ a ∈ as, n + 6 <= a) -> R (.ok (.ret res)) s') :
  ∀ (k i : Nat) (as : List Addr) (s : Shared), its1.length - i = k -> i <= its1.length -> ZS X pins σ H1 n l1 l2 its1 its2 vs us i as s -> codeAny (model X.prog X.w) A (.builtin "list.extend.loop" ⟨[.ref (n + 5), .ref (n + 4), res], []⟩) R s := by
 have D := apart5 (n := n) b1 b2;intro k
 induction k with
 | zero =>
  intro i as s hk hi z;have ei : i = its1.length := by omega
  subst ei;refine codeAny_builtin PySem.F.entry_extend_loop ?_;rw [Around.under_plainId PySem.F.plain_extend_loop _];show wpAny _ A.in1 (pyNext (.ref (n + 4)) >>= _) _ _ s;rcases z.zp with ⟨e0, _⟩ | ⟨T, b, o, hz, hT, hTn⟩
  ·have := z.len
   rw [e0] at this;simp at this;omega
  ·refine wpAny_bind (zp_stop (A := A.in1) hh D hz hT z.ti z.it1 z.ls1 (by simp) fun h' hk' => ?_)
   refine wpAny_pure (hR _ as ?_ z.len z.nd z.lo);refine z.inv.turnN (ch := [n + 4, n]) (fun c hc => ?_) (fun c o hc e => hk' c o (fun q => hc (by simp [q])) (fun q => hc (by simp [q])) e);have fp : ∀ c, n <= c -> c < n + 5 -> FpOk X pins (upd (layZ H1 as vs us) (n + 5) (.lst (as.map V.ref))) c := fun c h1 h2 => by
    refine I1.fpOk (by rw [hn]; exact h1) ?_;rw [upd_ne (nn oM), layZ_ne (fun hc => by have := z.lo c hc; omega)];exact I1.hok.fresh (by rw [hn]; exact h1)
   simp only [List.mem_cons, List.not_mem_nil, or_false] at hc;rcases hc with rfl | rfl <;> exact fp _ oM oM
 | succ k ih =>
  intro i as s hk hi z;refine codeAny_builtin PySem.F.entry_extend_loop ?_;rw [Around.under_plainId PySem.F.plain_extend_loop _];show wpAny _ A.in1 (pyNext (.ref (n + 4)) >>= _) _ _ s;refine wpAny_bind (zs_item I1 hn b1 b2 rv1 rv2 hlen hN oM z fun h' x y hx hy inv' a1 a3 a4 a6 a5 a7 hkp => ?_);obtain ⟨acc, c, hS, hacc⟩ := z.lS;have hS' := hkp (n + 5) _ (nn oM) (nn oM) (nn oM) (nn oM) hS;have hsz := z.sz;have hal : acc.size = i := by rw [<- Array.length_toList, hacc, List.length_map, z.len]
  have up : ∀ b o, b ≠ n + 5 -> h'.get? b = some o -> (h'.update (n + 5) (Obj.mapSeq (·.push (Value.ref s.heap.objs.size)))).get? b = some o := fun b o hb e => (Heap.get?_update_other _ _ (Ne.symm hb)).trans e
  have hnew := Heap.get?_update_self (Obj.mapSeq (·.push (Value.ref s.heap.objs.size))) hS' rfl;have hacc2 : (acc.push (Value.ref s.heap.objs.size)).toList = (as ++ [s.heap.objs.size]).map Value.ref := by rw [Array.toList_push, hacc, List.map_append]; rfl
  show wpAny _ A.in1 (updateSeq (n + 5) (·.push (Value.ref s.heap.objs.size)) >>= _) _ _ _;refine wpAny_bind ?_;refine wpAny_updateSeq hS' rfl (wpAny_pure ⟨plainId_quiet PySem.F.plain_extend_loop _, ih (i + 1) (as ++ [s.heap.objs.size]) _ oM oM ?_⟩) (by rw [hal]; omega) (by show (acc.push (Value.ref s.heap.objs.size)).size <= sizeLine + 1; rw [Array.size_push, hal]; omega);have hsize : (h'.update (n + 5) (Obj.mapSeq (·.push (Value.ref s.heap.objs.size)))).objs.size = s.heap.objs.size + 1 := by
   rw [(Heap.SameBut.update ..).1, a6]
  refine ⟨?_, .inr ?_, ?_, up _ _ (nn oM) (hkp _ _ (nn oM) (nn oM) (nn oM) (nn oM) z.ti), a3.at fun o e => up _ o (nn oM) e, a4.at fun o e => up _ o (nn oM) e, z.ls1.at fun o e => up _ o (nn oM) (hkp _ o (nn oM) (nn oM) (nn oM) (nn oM) e),
   z.ls2.at fun o e => up _ o (nn oM) (hkp _ o (nn oM) (nn oM) (nn oM) (nn oM) e), ⟨_, _, hnew, hacc2⟩, by rw [List.length_append, z.len]; rfl, ?_, ?_, ?_, ?_⟩
  ·have q := inv'.write (x := n + 5) (e := n + 5) (o := .lst ((as ++ [s.heap.objs.size]).map V.ref)) (t' := s.toks) (h' := h'.update (n + 5) (Obj.mapSeq (·.push (Value.ref s.heap.objs.size)))) (by
    rw [upd_ne (nn oM), upd_same]; exact trivial) (.inl rfl) (fun b u hb e => up b u hb e) ⟨_, hnew⟩ ⟨by rw [List.length_map, List.length_append, z.len]; show i + 1 <= sizeLine; omega, (as ++ [s.heap.objs.size]).map Value.ref, _, vals_refs _, by rw [<- hacc2, Array.toArray_toList]; exact hnew⟩
   rw [upd_swap (nn oM), <- layZ_snoc (by rw [z.len]; exact hx) (by rw [z.len]; exact hy)] at q;exact q
  ·obtain ⟨T, b, o, q1, q2, q3⟩ := a1
   exact ⟨T, b, o, up _ _ (nn oM) q1, up _ _ (nn oM) q2, q3⟩
  ·obtain ⟨o, e⟩ := a7
   exact ⟨o, up _ _ (nn oM) e⟩
  ·intro a ha
   rcases List.mem_append.mp ha with ha | ha
   ·exact z.lo a ha
   ·rw [List.mem_singleton.mp ha]; exact hsz
  ·intro a ha
   show a < (h'.update (n + 5) (Obj.mapSeq (·.push (Value.ref s.heap.objs.size)))).objs.size;rw [hsize];rcases List.mem_append.mp ha with ha | ha
   ·exact Nat.lt_succ_of_lt (z.up a ha)
   ·rw [List.mem_singleton.mp ha]; exact Nat.lt_succ_self _
  ·refine List.nodup_append.mpr ⟨z.nd, List.pairwise_singleton _ _, fun a ha b hb => ?_⟩
   rw [List.mem_singleton.mp hb];exact Nat.ne_of_lt (z.up a ha)
  ·show n + 6 <= (h'.update (n + 5) (Obj.mapSeq (·.push (Value.ref s.heap.objs.size)))).objs.size
   rw [hsize]; omega
end
theorem zip_nolen : typeLookup (.type "zip") "__len__" = pure none := by rw [typeLookup_type, builtinLookup_eq_fast]; kernel_rfl
theorem zip_nohint : typeLookup (.type "zip") "__length_hint__" = pure none := by rw [typeLookup_type, builtinLookup_eq_fast]; kernel_rfl
section
variable {X : Cx} {pins : List (Addr × Obj)} {σ : St} {H1 : Hp} {s1 : Shared} {l1 l2 : Nat} {its1 its2 : List Value} {vs us : List V} {A : Around} {E : Value -> Shared -> Prop}
theorem call_listzip {h0 : Heap} {tk : Nat} {Q : Value -> Shared -> Prop} (I1 : Inv X pins σ H1 s1) (b1 : l1 < s1.heap.objs.size) (b2 : l2 < s1.heap.objs.size) (rv1 : Vals vs its1) (rv2 : Vals us its2) (hlen : its1.length = its2.length) (hN : its1.length <= sizeLine) (h1 : 1 <= its1.length) (hh : A.handled = none)
  (p1 : s1.heap.IsList l1 its1.toArray) (p2 : s1.heap.IsList l2 its2.toArray) (hz : Zp h0 (s1.heap.objs.size + 4) (s1.heap.objs.size + 2) (s1.heap.objs.size + 3) .none false) (hTI : IsPair h0 (s1.heap.objs.size + 2) (.ref s1.heap.objs.size) (.ref (s1.heap.objs.size + 1))) (hTO : IsPair h0 (s1.heap.objs.size + 3) .none .none)
  (i1 : h0.IsListIter s1.heap.objs.size l1 0) (i2 : h0.IsListIter (s1.heap.objs.size + 1) l2 0) (hsz : h0.objs.size = s1.heap.objs.size + 5) (hk : ∀ c o, s1.heap.get? c = some o -> h0.get? c = some o)
  (hQ : ∀ s' as, Inv X pins σ (upd (layZ H1 as vs us) (s1.heap.objs.size + 5) (.lst (as.map V.ref))) s' -> as.length = its1.length -> as.Nodup -> (∀ a ∈ as, s1.heap.objs.size + 6 <= a) -> Q (.ref (s1.heap.objs.size + 5)) s') :
  wpAny (model X.prog X.w) A (call (.type "list") [.ref (s1.heap.objs.size + 4)]) Q E { s1 with heap := h0, toks := tk } := by
 generalize hn : s1.heap.objs.size = n at *;have I2 : Inv X pins σ H1 { s1 with heap := h0, toks := tk } := I1.kept (t' := tk) hk;refine callType_codes (Q₁ := fun obj s₁ => obj = .ref (n + 5) /\ s₁ = { s1 with heap := h0.push { cls := .type "list", data := .seq #[] }, toks := tk }) PySem.F.called_list (PySem.F.typeCall_list_1 _) PySem.F.entry_list_init
  (code_list_new _ ⟨by show Value.ref h0.objs.size = _; rw [hsz], rfl⟩) fun obj s₁ hq => ?_
 obtain ⟨rfl, rfl⟩ := hq;have hS : (h0.push { cls := .type "list", data := .seq #[] }).get? (n + 5) = some { cls := .type "list", data := .seq #[] } := by rw [<- hsz]; exact Heap.get?_push_size _ rfl
 refine ⟨⟨_, hS, rfl⟩, PySem.F.args_list_init_2 _ _, ?_⟩;show wpAny _ _ (do let old <- Builtin.List.listItems (.ref (n + 5)); Builtin.List.listUpdate (.ref (n + 5)) (fun _ => #[]); letGo old.toList.reverse; Builtin.List.listExtendWith (.ref (n + 5)) (.ref (n + 4)) .none) _ _ _;refine wpAny_bind ?_;unfold Builtin.List.listItems;refine wpAny_bind (wpAny_seqItems hS rfl (wpAny_pure ?_));show wpAny _ _ (updateSeq (n + 5) (fun _ => #[]) >>= fun _ => letGo (#[] : Array Value).toList.reverse >>= fun _ => Builtin.List.listExtendWith (.ref (n + 5)) (.ref (n + 4)) .none) _ _ _;refine wpAny_bind (wpAny_updateSeq hS rfl ?_);have hS2 := Heap.get?_update_self (Obj.mapSeq (fun _ => (#[] : Array Value))) hS rfl;refine wpAny_bind (wpAny_letGo ?_);generalize hg2 : (h0.push { cls := .type "list", data := .seq #[] }).update (n + 5) (Obj.mapSeq (fun _ => (#[] : Array Value))) = g2 at hS2;have k2 : ∀ b o, b ≠ n + 5 -> h0.get? b = some o -> g2.get? b = some o := fun b o hb e => by
  rw [<- hg2]; exact (Heap.get?_update_other _ _ (Ne.symm hb)).trans (Heap.get?_push_of_some _ e)
 have z2 : g2.objs.size = n + 6 := by rw [<- hg2, (Heap.SameBut.update ..).1, Heap.size_push, hsz]
 have hz2 := k2 _ _ (nn oM) hz;have hY : Shared.TypeIs { s1 with heap := g2, toks := tk } (.ref (n + 4)) "zip" := ⟨_, hz2, rfl⟩;unfold Builtin.List.listExtendWith;refine wpAny_bind (wpAny_typeOf hY ?_);have e1 : Builtin.List.listSameRef (.ref (n + 5)) (.ref (n + 4)) = false := by simp [Builtin.List.listSameRef]
 have e2 : (Value.type "zip" == Value.type "list") = false := by decide
 have e3 : (Value.type "zip" == Value.type "tuple") = false := by decide
 simp only [e1, e2, e3, Bool.or_false, Bool.false_eq_true, if_false];refine wpAny_bind (wpAny_pyIter_zip hz2 ?_);refine wpAny_bind (wpAny_holding ?_);unfold Builtin.List.listLengthHint;refine wpAny_bind (wpAny_specialOf hY zip_nolen ?_);show wpAny _ _ (specialOf (Value.ref (n + 4)) (Str.ofString "__length_hint__") >>= _) _ _ _;refine wpAny_bind (wpAny_specialOf hY zip_nohint ?_);refine wpAny_pure ?_;show wpAny _ _ (rule "list.extend.makes-room" >>= fun _ => Builtin.List.listTouch (.ref (n + 5)) >>= fun _ => again (.builtin "list.extend.loop" ⟨[.ref (n + 5), .ref (n + 4), .none], []⟩)) _ _ _;refine wpAny_bind (wpAny_rule ?_);refine wpAny_bind ?_;show wpAny _ _ (updateSeq (n + 5) (·.push .none) >>= fun _ => updateSeq (n + 5) (·.pop)) _ _ _;refine wpAny_bind (wpAny_updateSeq hS2 rfl ?_);have hS3 := Heap.get?_update_self (Obj.mapSeq (·.push Value.none)) hS2 rfl;refine wpAny_updateSeq (hz := by seq_fits) hS3 rfl ?_;have hS4 := Heap.get?_update_self (Obj.mapSeq (·.pop)) hS3 rfl;generalize hg4 : (g2.update (n + 5) (Obj.mapSeq (·.push Value.none))).update (n + 5) (Obj.mapSeq (·.pop)) = g4 at hS4;have k4 : ∀ b o, b ≠ n + 5 -> h0.get? b = some o -> g4.get? b = some o := fun b o hb e => by
  rw [<- hg4]; exact (Heap.get?_update_other _ _ (Ne.symm hb)).trans ((Heap.get?_update_other _ _ (Ne.symm hb)).trans (k2 b o hb e))
 have z4 : g4.objs.size = n + 6 := by rw [<- hg4, (Heap.SameBut.update ..).1, (Heap.SameBut.update ..).1, z2]
 refine wpAny_pure ⟨plainId_quiet PySem.F.plain_extend_loop _, ?_⟩;refine lz_loop (A := A.in1) I1 hn b1 b2 rv1 rv2 hlen hN h1 hh .none (fun s' as q1 q2 q3 q4 => ⟨rfl, hQ s' as q1 q2 q3 q4⟩) its1.length 0 [] _ oM oM ?_;have ne5 : ∀ b o, h0.get? b = some o -> b ≠ n + 5 := fun b o e => by
  have := Heap.lt_size e
  rw [hsz] at this;exact Nat.ne_of_lt this
 refine ⟨?_, .inl ⟨rfl, k4 _ _ (nn oM) hz, _, _, k4 _ _ (nn oM) hTO⟩, ⟨_, k4 _ _ (nn oM) hTO⟩, k4 _ _ (nn oM) hTI, i1.at fun o e => k4 _ o (nn oM) e, i2.at fun o e => k4 _ o (nn oM) e, p1.at fun o e => k4 _ o (nn oM) (hk _ o e), p2.at fun o e => k4 _ o (nn oM) (hk _ o e),
  ⟨_, _, hS4, rfl⟩, rfl, (fun a ha => nomatch ha), (fun a ha => nomatch ha), List.nodup_nil, by show n + 6 <= g4.objs.size; rw [z4]; exact Nat.le_refl _⟩
 have q := I2.laid (a := n + 5) (o := .lst []) (h' := g4) (t' := tk) (fun b u e => k4 b u (ne5 b u e) e) (by show h0.objs.size <= n + 5; rw [hsz]; exact Nat.le_refl _) ⟨Nat.zero_le _, [], _, .nil, hS4⟩;have e : layZ H1 [] vs us = H1 := by cases vs <;> cases us <;> rfl
 rw [e];exact q
end
theorem boot_listT : bootBuiltins "list" = some (.type "list") := by decide +kernel
theorem boot_zipT : bootBuiltins "zip" = some (.type "zip") := by decide +kernel
noncomputable def tLz (K : PySem.W.Frag) (ta : TA) : TE := fun σ H Q => ta σ H fun ws H1 => ∃ a b xs ys, ws = [.ref a, .ref b] /\ SqL K H1 a xs /\ SqL K H1 b ys /\ xs.length = ys.length /\ 1 <= xs.length /\ ∀ S as, H1 S = none -> S ∉ as -> as.length = xs.length -> as.Nodup -> (∀ c ∈ as, H1 c = none) -> Q (.ref S) (upd (layZ H1 as xs ys) S (.lst (as.map V.ref)))
section
variable {X : Cx} {a b : Expr} {ta : TA} {p1 p2 pos pos2 : Pos}
theorem pe_listzip (hc : X.calm = true) (hg : Gl X "list") (hm : X.mg "list" = none) (hg2 : Gl X "zip") (hm2 : X.mg "zip" = none) (ha : PA X [a, b] ta) (hs : autoParam (starEach [a, b] X.env = [(false, eval a X.env), (false, eval b X.env)]) Ax4._auto_1) (hs2 : autoParam (starEach [b] X.env = [(false, eval b X.env)]) Ax4._auto_1)
  (hs3 : autoParam (starEach [Expr.Call (.Name "zip" p2) [a, b] [] pos2] X.env = [(false, eval (.Call (.Name "zip" p2) [a, b] [] pos2) X.env)]) Ax4._auto_1) :
  PE X (.Call (.Name "list" p1) [.Call (.Name "zip" p2) [a, b] [] pos2] [] pos) (tLz X.K ta) := by
 intro pins s σ H Q I h;refine Call_ (ld_blt I hg hm boot_listT (PyProof.Rows.callWith_type1 ?_ (by rw [hs3]; rfl) (by rfl)));rw [hs3];show wpAny _ _ (spliced [(false, eval (.Call (.Name "zip" p2) [a, b] [] pos2) X.env)]) _ _ s;refine Calls.spliced_cons (Call_ (ld_blt I hg2 hm2 boot_zipT (PyProof.Rows.callWith_type1 (thn (ha pos2 pins s σ H _ I h) fun us s1 hq0 => ?_) (by rw [hs, hs2]) (by rw [hs2]; rfl))));obtain ⟨ws, H1, I1, r1, l1, l2, xs, ys, e, hq1, hq2, hxy, h1, q⟩ := hq0;subst e;cases r1 with
 | cons r rr =>
  cases rr with
  | cons r' rr =>
   cases rr;cases r;cases r';obtain ⟨its1, rv1, p1, hz1⟩ := I1.list hq1;obtain ⟨its2, rv2, p2, hz2⟩ := I1.list hq2;have lv1 := rv1.length;have lv2 := rv2.length;have b1 : l1 < s1.heap.objs.size := by obtain ⟨o, e, _⟩ := p1.isList; exact Heap.lt_size e
   have b2 : l2 < s1.heap.objs.size := by obtain ⟨o, e, _⟩ := p2.isList; exact Heap.lt_size e
   refine call_zip_2 p1.isList p2.isList fun h' hz hTI hTO i1 i2 hsz hk => ?_
   refine Calls.spliced_nil ?_;refine call_listzip (tk := s1.toks) I1 b1 b2 rv1 rv2 oM oM oM (I.ok.hd hc) p1.isList p2.isList hz hTI hTO i1 i2 hsz hk fun s' as inv hl hnd hlo => ?_
   refine ⟨.ref (s1.heap.objs.size + 5), _, inv, rfl, q _ as (I1.hok.fresh (Nat.le_add_right _ _)) (fun hc => ?_) oM hnd (fun c hc => I1.hok.fresh ?_)⟩
   ·exact absurd (hlo _ hc) oM
   ·have := hlo c hc
    omega
end
end L2
namespace DD
open PySem PySem.Spec PyProof.Rows L2
noncomputable def zipT : List D -> List D -> List D
 | x :: xs, y :: ys => .tup [x, y] :: zipT xs ys
 | _, _ => []
noncomputable def dLz (ca : DA) : DE := fun σ => (ca σ).bind fun p => match p.1 with
 | [.lst _ xs, .lst _ ys] => if xs.length = ys.length /\ 1 <= xs.length then some (.lst true (zipT (D.fzL xs) (D.fzL ys)), p.2) else none
 | _ => none
theorem lay_pairs {K : PySem.W.Frag} : ∀ {as : List Addr} {F : Addr -> Prop} {H : Hp} {dx dy : List D} {vs us : List V}, (∀ a, F a -> ∃ o, H a = some o) -> OwL K F H dx vs [] -> OwL K F H dy us [] -> as.length = vs.length -> as.length = us.length -> as.Nodup -> (∀ c ∈ as, H c = none) ->
  ∃ F', Grow F H F' (layZ H as vs us) /\ OwL K F' (layZ H as vs us) (zipT dx dy) (as.map V.ref) [] := by
 intro as
 induction as with
 | nil =>
  intro F H dx dy vs us dm ox oy hv hu _ _;cases vs with
  | cons v vs => simp at hv
  | nil =>
   cases dx with
   | nil => exact ⟨F, Grow.refl, by simp only [zipT, List.map_nil, OwL]; exact ⟨trivial, trivial⟩⟩
   | cons x dx =>
    simp only [OwL] at ox;obtain ⟨v, ws, L1, L2, e, _⟩ := ox;cases e
 | cons a as ih =>
  intro F H dx dy vs us dm ox oy hv hu hnd hno;cases vs with
  | nil => simp at hv
  | cons v vs =>
   cases us with
   | nil => simp at hu
   | cons u us =>
    cases dx with
    | nil => simp only [OwL] at ox; cases ox.1
    | cons x dx =>
     cases dy with
     | nil => simp only [OwL] at oy; cases oy.1
     | cons y dy =>
      simp only [OwL] at ox oy;obtain ⟨v', vs', L1, L2, e1, ox1, ox2, eL⟩ := ox;obtain ⟨u', us', L3, L4, e2, oy1, oy2, eM⟩ := oy;cases e1; cases e2;obtain ⟨rfl, rfl⟩ := List.append_eq_nil_iff.mp eL.symm;obtain ⟨rfl, rfl⟩ := List.append_eq_nil_iff.mp eM.symm;have ha := hno a (by simp);have gr := grow_tup (us := [v, u]) dm ha;have nodup := List.nodup_cons.mp hnd;have up : ∀ c ∈ as, upd H a (.tup [v, u]) c = none := fun c hc => by
       rw [upd_ne (show c ≠ a from fun z => nodup.1 (by rw [<- z]; exact hc))];exact hno c (by simp [hc])
      have dm2 : ∀ c, (F c \/ c = a) -> ∃ o, upd H a (.tup [v, u]) c = some o := gr.dm dm;obtain ⟨F', g', o'⟩ := ih dm2 (ox2.mono gr.x fun b hb => by cases hb) (oy2.mono gr.x fun b hb => by cases hb) (by simpa using hv) (by simpa using hu) nodup.2 up;refine ⟨F', gr.trans g', ?_⟩;show OwL K F' (layZ (upd H a (.tup [v, u])) as vs us) (.tup [x, y] :: zipT dx dy) (.ref a :: as.map V.ref) [];have fa := g'.x a (.inr rfl);simp only [OwL, Ow];refine ⟨_, _, [], [], rfl, ⟨a, [v, u], rfl, .inl ⟨fa.1, fa.2.trans upd_same⟩, v, [u], [], [], rfl, (ox1.mono gr.x fun b hb => by cases hb).mono g'.x (fun b hb => by cases hb), ⟨u, [], [], [], rfl, (oy1.mono gr.x fun b hb => by cases hb).mono g'.x (fun b hb => by cases hb), ⟨rfl, rfl⟩, rfl⟩, rfl⟩, o', rfl⟩
section
variable {X : Cx} {a b : Expr} {ca : DA} {p1 p2 pos pos2 : Pos}
theorem qe_listzip (hc : X.calm = true) (hg : Gl X "list") (hm : X.mg "list" = none) (hg2 : Gl X "zip") (hm2 : X.mg "zip" = none) (ha : QA X [a, b] ca) (hs : autoParam (starEach [a, b] X.env = [(false, eval a X.env), (false, eval b X.env)]) Ax4._auto_1) (hs2 : autoParam (starEach [b] X.env = [(false, eval b X.env)]) Ax4._auto_1)
  (hs3 : autoParam (starEach [Expr.Call (.Name "zip" p2) [a, b] [] pos2] X.env = [(false, eval (.Call (.Name "zip" p2) [a, b] [] pos2) X.env)]) Ax4._auto_1) :
  QE X (.Call (.Name "list" p1) [.Call (.Name "zip" p2) [a, b] [] pos2] [] pos) (dLz ca) := PE_imp (pe_listzip hc hg hm hg2 hm2 ha hs hs2 hs3) fun σ H Q hq0 => by
 obtain ⟨F, R, σD, d, σD', r, ec, k⟩ := hq0;unfold dLz at ec;rcases h1 : ca σD with _ | ⟨ds, σ1⟩
 ·rw [h1] at ec; cases ec
 ·rw [h1] at ec; simp only [bind_some] at ec
  split at ec
  ·rename_i o1 xs o2 ys
   split at ec
   ·rename_i hl
    cases ec;refine ⟨F, R, σD, _, _, r, h1, fun F1 H1 ws x1 hlw r1 => ?_⟩;obtain ⟨w1, w2, rfl⟩ : ∃ w1 w2, ws = [w1, w2] := by
     match ws, hlw with
     | [a, b], _ => exact ⟨a, b, rfl⟩
    have r1' : Rel X.K F1 H1 _ σ ((.lst o1 xs, w1) :: (.lst o2 ys, w2) :: R) := r1;obtain ⟨F2, x2, r2, ow1⟩ := r1'.freeze;obtain ⟨F3, x3, r3, ow2⟩ := (r2.pop).freeze;have ow1' := ow1.mono x3 (fun b hb => by cases hb);simp only [D.fz, Ow] at ow1' ow2;obtain ⟨a1, vs, rfl, fl1, ol1, _⟩ := ow1';obtain ⟨a2, us, rfl, fl2, ol2, _⟩ := ow2;have lv : vs.length = xs.length := by have := ol1.length; rw [fzL_len] at this; omega
    have lu : us.length = ys.length := by have := ol2.length; rw [fzL_len] at this; omega
    refine ⟨a1, a2, vs, us, rfl, fl1.sq, fl2.sq, by omega, by omega, fun S as hS hSa hal hnd hno => ?_⟩;obtain ⟨F4, g4, ol⟩ := lay_pairs (r3.g.dom) ol1 ol2 oM oM hnd hno;have r4 := (r3.pop).grow g4;have hS4 : layZ H1 as vs us S = none := by rw [layZ_ne hSa]; exact hS
    obtain ⟨r5, x5⟩ := (Rel.pushL ol r4).layL ol.length.symm hS4;exact k F4 _ _ (x1.trans (x2.trans (x3.trans (g4.x.trans x5)))) r5
   ·cases ec
  ·cases ec
end
end DD
namespace TT
open PySem L2 DD
section
variable {S : Type} {α β : Type} {Γ Γ1 : Shp S}
theorem all2_zipT {ra : Rl α} {rb : Rl β} : ∀ {as : List α} {bs : List β} {dx dy : List D}, All2 ra as dx -> All2 rb bs dy -> All2 (rT2 ra rb) (as.zip bs) (zipT dx dy) := by
 intro as
 induction as with
 | nil =>
  intro bs dx dy h1 h2;cases h1;cases dy <;> exact .nil
 | cons a as ih =>
  intro bs dx dy h1 h2;cases h1 with
  | cons h1 h1' =>
   cases h2 with
   | nil => exact .nil
   | cons h2 h2' => exact .cons ⟨_, _, rfl, h1, h2⟩ (ih h1' h2')
theorem je_lz {rl : Rl (List α)} {ra ra' : Rl α} {rm : Rl (List β)} {rb rb' : Rl β} [l : Ls rl ra] [k : Fz ra ra'] [l2 : Ls rm rb] [k2 : Fz rb rb'] {Γ2 : Shp S} {c c' : DE} {f : S -> Option (List α × S)} {g : S -> Option (List β × S)} (h : JE Γ c f rl Γ1) (h' : JE Γ1 c' g rm Γ2) :
  JE Γ (dLz (aCons c (aCons c' aNil))) (fun s => (f s).bind fun p => (g p.2).bind fun q => if decide (p.1.length = q.1.length /\ 1 <= p.1.length) = true then some (p.1.zip q.1, q.2) else none) (rL (rT2 ra' rb')) Γ2 := fun s σ v s' hs e => by
 obtain ⟨⟨a, s1⟩, e1, e⟩ := bd e;obtain ⟨⟨b, s2⟩, e2, e⟩ := bd e;dsimp only at e;split at e
 ·rename_i hl
  have hl2 := of_decide_eq_true hl;cases e;obtain ⟨d, σ1, h1, h2, h3⟩ := h s σ a s1 hs e1;obtain ⟨d', σ2, h4, h5, h6⟩ := h' s1 σ1 b _ h3 e2;obtain ⟨o, ds, rfl, hh⟩ := l.l a d h2;obtain ⟨o', ds', rfl, hh'⟩ := l2.l b d' h5;have n1 := hh.len;have n2 := hh'.len;refine ⟨_, σ2, ?_, ⟨_, rfl, all2_zipT (hh.fz k.f) (hh'.fz k2.f)⟩, h6⟩;simp only [dLz, aCons, aNil, h1, h4, bind_some, map_some];rw [if_pos ⟨by omega, by omega⟩]
 ·cases e
end
end TT
namespace L2
open PySem PySem.Spec PyProof.Rows
noncomputable def rEnds : V -> List V -> Hp -> VK -> Prop := fun x vs H Q => ∃ a b, x = .str a /\ vs = [.str b] /\ Q (.bl (Txt.endswith a b)) H
theorem mt_ends {X : Cx} : MtM X "str.endswith" rEnds := by
 intro pins s σ H x vs v us Q I rx rv h;obtain ⟨a, b, rfl, rfl, q⟩ := h;obtain ⟨t, rfl⟩ := (show ∃ t, v = Value.str a t from rx);obtain ⟨u, rfl, ru⟩ := rv.one;obtain ⟨t', rfl⟩ := (show ∃ t, u = Value.str b t from ru);exact SC.endswith ⟨.bl _, H, I, rfl, q⟩
noncomputable def Itx (x : Str) : It := ⟨fun i _ => ∃ c, x.cps[i]? = some c, fun i H v H' => ∃ p c, x.cps[i]? = some c /\ H p = none /\ H' = upd H p (.tup [.int (i : Int), .str ⟨#[c]⟩]) /\ v = .ref p, fun i _ => x.cps.size = i⟩
theorem turn_enumS {P : Program} {w : World} {K : PySem.W.Frag} {elts : List Expr} {x1 : Nat} {tpos : Pos} (x : Str) (t : Tok) (z it : Addr) (D : z ≠ it) :
  Turn P w K (.Tuple elts x1 tpos) (Itx x) [z, it] z (fun i h => (∃ old, IsEnum h z it (i : Int) old) /\ h.IsStrIter it "str_ascii_iterator" x t i) where
 mem := by simp
 obj := fun i h hq c hc => by
  obtain ⟨⟨old, hz⟩, ⟨o1, e1, c1, d1⟩⟩ := hq;simp only [List.mem_cons, List.not_mem_nil, or_false] at hc;rcases hc with rfl | rfl
  ·exact ⟨_, hz, fun v z => nomatch z⟩
  ·exact ⟨_, e1, fun v z => by rw [d1] at z; cases z⟩
 keep := fun i h h' hq k => by
  obtain ⟨⟨old, hz⟩, o1, e1, r1⟩ := hq;exact ⟨⟨old, k z (by simp) _ hz⟩, o1, k it (by simp) _ e1, r1⟩
 item := by
  intro X hP hw hK hc i pins s σ H E I hf hq hg;obtain ⟨⟨old, hz⟩, h1⟩ := hq;obtain ⟨c, hx⟩ := hg;subst hP hw hK;have hil : i < x.cps.size := (Array.getElem?_eq_some_iff.mp hx).1;refine wpAny_pyNext_enum_itemD (Draws.strAscii (A := X.A.in1) (I.ok.hd hc) it x t) hz h1 hil D (by simp [D]) fun v h' tk hv ho hst hT hsz hk => ?_
  obtain ⟨c', u, hc', rfl⟩ := hv;rw [hx] at hc'; cases hc';have hk' : ∀ b o, b ∉ [z, it] -> s.heap.get? b = some o -> h'.get? b = some o := fun b o hb e => hk b o (fun q => hb (by simp [q])) (fun q => hb (by simp [q])) e
  have I0 : Inv X pins σ (upd H s.heap.objs.size (.tup [.int (i : Int), .str ⟨#[c]⟩])) { s with heap := h' } := I.turnT (fun b hb => hf b hb) (u := .int (i : Int)) (w := .str ⟨#[c]⟩) ⟨tk, rfl⟩ ⟨u, rfl⟩ hk' hT (fun b hb => by
   obtain ⟨o1, e1, _⟩ := id hst;simp only [List.mem_cons, List.not_mem_nil, or_false] at hb;rcases hb with rfl | rfl
   ·exact ⟨_, ho⟩
   ·exact ⟨_, e1⟩)
  have I1 : Inv X pins σ (upd H s.heap.objs.size (.tup [.int (i : Int), .str ⟨#[c]⟩])) { s with heap := h', toks := tk + 1 } := I0.kept (t' := tk + 1) (fun _ _ e => e);have hfr : H s.heap.objs.size = none := I.fresh;refine ⟨_, rfl, wpAny_letOwnedTupleGo_enum (s := { s with heap := h', toks := tk + 1 }) ho fun h'' z1 sb => ?_⟩;have hf5 : ∀ b ∈ [z, it], (upd H s.heap.objs.size (.tup [.int (i : Int), .str ⟨#[c]⟩])) b = none := fun b hb => by
   have lt : b < s.heap.objs.size := by
    obtain ⟨o1, e1, _⟩ := id h1;simp only [List.mem_cons, List.not_mem_nil, or_false] at hb;rcases hb with rfl | rfl
    ·exact Heap.lt_size hz
    ·exact Heap.lt_size e1
   rw [upd_ne (Nat.ne_of_lt lt)]; exact (hf b hb).1
  have I2 : Inv X pins σ (upd H s.heap.objs.size (.tup [.int (i : Int), .str ⟨#[c]⟩])) { s with heap := h'', toks := tk + 1 } := Inv.turnN (s := { s with heap := h', toks := tk + 1 }) (ch := [z]) I1 (fun b hb => by
   have : b = z := by simpa using hb
   subst this;exact ⟨hf5 b (by simp), (hf b (by simp)).2⟩) (fun b o hb e => (sb.2 b (fun q => hb (by simp [q]))).trans e)
  refine ⟨.ref s.heap.objs.size, _, I2, rfl, ⟨_, c, hx, hfr, rfl, rfl⟩, ⟨⟨_, by rw [show ((i + 1 : Nat) : Int) = (i : Int) + 1 by omega]; exact z1⟩, ?_⟩, hf5⟩;obtain ⟨o1, e1, r1⟩ := id hst;exact ⟨o1, (sb.2 it D.symm).trans e1, r1⟩
 done := by
  intro X hP hw hK hc i pins s σ H E I hf hq hg;obtain ⟨⟨old, hz⟩, h1⟩ := hq;subst hP hw hK;have hg' : x.cps.size = i := hg;subst hg';refine wpAny_pyNext_enum_endD (Draws.strAscii (A := X.A.in1) (I.ok.hd hc) it x t) hz h1 fun h' hk => ⟨rfl, ?_⟩
  exact I.turnN (ch := [z, it]) (fun b hb => hf b hb) fun b o hb e => hk b o (fun q => hb (by simp [q])) e
 self := fun _ _ _ _ _ hq h => by
  obtain ⟨⟨_, hz⟩, _⟩ := hq;exact wpAny_pyIter_enum hz h
section
variable {X : Cx}
theorem strIter_ascii {x : Str} (h : x.cps.all (· < 128) = true) : strIterType x = "str_ascii_iterator" := by
 unfold strIterType; rw [if_pos h]
noncomputable def iEnStr (tl : TA) : TI := fun σ H R => tl σ H fun vs H1 => ∃ x : Str, vs = [.str x] /\ x.cps.all (· < 128) = true /\ R (Itx x) H1
theorem pi_enumStr {elts : List Expr} {x1 : Nat} {tpos : Pos} {a : Expr} {ta : TA} {p pos : Pos} (hg : Gl X "enumerate") (hm : X.mg "enumerate" = none) (ha : PA X [a] ta) (hs : autoParam (starEach [a] X.env = [(false, eval a X.env)]) Ax4._auto_1) :
  PI X (.Tuple elts x1 tpos) (.Call (.Name "enumerate" p) [a] [] pos) (iEnStr ta) := by
 intro pins s σ H R I h;refine Call_ (ld_blt I hg hm boot_enum (PyProof.Rows.callWith_type1 (thn (ha pos pins s σ H _ I h) fun us s1 hq0 => ?_) (by rw [hs]; rfl) (by rfl)));obtain ⟨vs, H1, I1, r1, x, e, hx, q⟩ := hq0;subst e;obtain ⟨u, rfl, ru⟩ := r1.one;obtain ⟨t, rfl⟩ := (show ∃ t, u = Value.str x t from ru);refine call_enumerate_str fun h' he hi hsz hk => ?_
 rw [strIter_ascii hx] at hi;refine wpAny_pyIter_enum (s := { s1 with heap := h' }) he ?_;have I2 : Inv X pins σ H1 { s1 with heap := h', toks := s1.toks } := I1.kept (t' := s1.toks) hk;refine ⟨_, [s1.heap.objs.size + 1, s1.heap.objs.size], _, _, H1, rfl, I2, turn_enumS x t (s1.heap.objs.size + 1) s1.heap.objs.size (Nat.ne_of_gt (Nat.lt_succ_self _)), ⟨⟨_, by simpa using he⟩, hi⟩, fun c hc => ?_, q⟩;have hle : s1.heap.objs.size <= c := by
  simp only [List.mem_cons, List.not_mem_nil, or_false] at hc;rcases hc with rfl | rfl
  ·exact Nat.le_succ _
  ·exact Nat.le_refl _
 obtain ⟨f0, f1, f2, f3, f4, f5⟩ := I1.fpOk hle (I1.hok.fresh hle);exact ⟨f0, f1, f2, f3, f4, f5⟩
end
end L2
namespace DD
open PySem PySem.Spec PyProof.Rows L2
noncomputable def dEnds (c c' : DE) : DE := fun σ => (c σ).bind fun p => (c' p.2).bind fun q => match p.1, q.1 with
 | .str a, .str b => some (.bl (Txt.endswith a b), q.2)
 | _, _ => none
noncomputable def iEnSD (c : DE) : DI := fun σ => (c σ).bind fun p => match p.1 with
 | .str x => if x.cps.all (· < 128) = true then some (enD 0 ((signs x).map D.str), p.2) else none
 | _ => none
theorem itd_enStr {K : PySem.W.Frag} {F : Addr -> Prop} {H : Hp} {x : Str} : ItD K (Itx x) (enD 0 ((signs x).map D.str)) F H where
 item := fun i d F1 H1 x1 dm e => by
  rw [enD_get] at e;unfold signs at e;rw [List.map_map, List.getElem?_map, Array.getElem?_toList] at e;rcases h : x.cps[i]? with _ | c
  ·rw [h] at e; cases e
  ·rw [h] at e; cases e
   refine ⟨⟨c, h⟩, fun v H2 hq => ?_⟩;obtain ⟨p, c', h', hp, rfl, rfl⟩ := hq;rw [h] at h'; cases h';have gr := grow_tup (us := [.int (i : Int), .str ⟨#[c]⟩]) dm hp;refine ⟨_, gr, ?_⟩;rw [Nat.zero_add];simp only [Ow, OwL];exact ⟨p, [.int (i : Int), .str ⟨#[c]⟩], rfl, .inl ⟨.inr rfl, upd_same⟩, .int (i : Int), [.str ⟨#[c]⟩], [], [], rfl, ⟨rfl, rfl⟩, ⟨.str ⟨#[c]⟩, [], [], [], rfl, ⟨rfl, rfl⟩, ⟨rfl, rfl⟩, rfl⟩, rfl⟩
 done := fun F1 H1 _ => by
  show x.cps.size = (enD 0 ((signs x).map D.str)).length;rw [enD_len, List.length_map];unfold signs;simp
section
variable {X : Cx} {a : Expr} {c : DE} {p1 pos1 tpos : Pos} {elts : List Expr} {x1 : Nat}
theorem qi_enumStr (hgl : Gl X "enumerate") (hm : X.mg "enumerate" = none) (ha : QE X a c) (hs : autoParam (starEach [a] X.env = [(false, eval a X.env)]) Ax4._auto_1) :
  QI X (.Tuple elts x1 tpos) (.Call (.Name "enumerate" p1) [a] [] pos1) (iEnSD c) := PI_imp (pi_enumStr hgl hm (pa_cons ha pa_nil hs) hs) fun σ H R hq0 => by
 obtain ⟨F, Ro, σD, xs, σD', r, ec, k⟩ := hq0;unfold iEnSD at ec;rcases h : c σD with _ | ⟨d, σ1⟩
 ·rw [h] at ec; cases ec
 ·rw [h] at ec; simp only [bind_some] at ec
  refine ⟨F, Ro, σD, d, σ1, r, h, fun F1 H1 v x1 r1 => ?_⟩;split at ec
  ·rename_i x
   split at ec
   ·rename_i hx
    cases ec;have bv := (r1.bor (d := .str x) (v := v) (by simp)).str;subst bv;exact ⟨x, rfl, hx, k F1 H1 _ x1 r1.pop itd_enStr⟩
   ·cases ec
  ·cases ec
end
section
variable {X : Cx} {o e : Expr} {c c' : DE} {apos cpos : Pos}
theorem qe_ends (ho : QE X o c) (ha : QE X e c') (hbase : autoParam (attributeBase o "endswith" X.env (eval o X.env) = eval o X.env) Ax4._auto_1)
  (hfew : autoParam (((backTo cpos (starEach [e] X.env)).all (fun x => !x.1) && (backToKw cpos (keywordEach [] X.env)).all (fun x => x.1.isSome) && decide (([e] : List Expr).length + ([] : List Keyword).length + (if ([] : List Keyword).isEmpty then 0 else 1) < 30)) = true) Ax4._auto_1)
  (hline : autoParam ((apos.endLine == cpos.line) = true) Ax4._auto_1) (hst : autoParam (starEach [e] X.env = (false, eval e X.env) :: starEach [] X.env) Ax4._auto_1) : QE X (.Call (.Attribute o "endswith" apos) [e] [] cpos) (dEnds c c') :=
 PE_imp (pe_bm PySem.F.plainAttrs_str PySem.F.slot_str_endswith PySem.F.type_str_endswith mt_ends ho (pa_cons ha pa_nil hst) hbase hfew hline hst rfl) fun σ H Q hq0 => by
  obtain ⟨F, R, σD, d, σD', r, ec, k⟩ := hq0;unfold dEnds at ec;rcases h1 : c σD with _ | ⟨x, σ1⟩
  ·rw [h1] at ec; cases ec
  ·rw [h1] at ec; simp only [bind_some] at ec
   rcases h2 : c' σ1 with _ | ⟨y, σ2⟩
   ·rw [h2] at ec; cases ec
   ·rw [h2] at ec; simp only [bind_some] at ec
    split at ec
    ·rename_i a b
     cases ec;refine ⟨F, R, σD, _, σ1, r, h1, fun F1 H1 v x1 r1 => ?_⟩;have bv := (r1.bor (d := .str a) (v := v) (by simp)).str;subst bv;refine ⟨rfl, F1, _, σ1, _, _, r1, h2, fun F2 H2 u x2 r2 => ?_⟩;have bu := (r2.bor (d := .str b) (v := u) (by simp)).str;subst bu;exact ⟨a, b, rfl, rfl, k F2 H2 _ (x1.trans x2) ((r2.pop).pop.scal rfl)⟩
    ·cases ec
end
end DD
namespace TT
open PySem L2 DD PySem.W
section
variable {S : Type} {Γ Γ1 Γ2 : Shp S} {c c' : DE}
theorem je_ends {f g : S -> Option (Str × S)} (h : JE Γ c f rS Γ1) (h' : JE Γ1 c' g rS Γ2) : JE Γ (dEnds c c') (fun s => (f s).bind fun p => (g p.2).map fun q => (Txt.endswith p.1 q.1, q.2)) rB Γ2 := fun s σ v s' hs e => by
 obtain ⟨⟨a, s1⟩, e1, e⟩ := bd e;obtain ⟨⟨b, s2⟩, e2, e⟩ := mp e;cases e;obtain ⟨d, σ1, h1, h2, h3⟩ := h s σ a s1 hs e1;obtain ⟨d', σ2, h4, h5, h6⟩ := h' s1 σ1 b s2 h3 e2;cases h2; cases h5;exact ⟨_, σ2, by simp only [dEnds, h1, h4, bind_some], rfl, h6⟩
theorem ji_enumStr {f : S -> Option (Str × S)} (h : JE Γ c f rS Γ1) : JI Γ (iEnSD c) (fun s => (f s).bind fun p => if p.1.cps.all (· < 128) = true then some (enT 0 (signs p.1), p.2) else none) (rT2 rI rS) Γ1 := fun s σ v s' hs e => by
 obtain ⟨⟨a, s1⟩, e1, e⟩ := bd e;dsimp only at e;split at e
 ·rename_i ha
  cases e;obtain ⟨d, σ1, h1, h2, h3⟩ := h s σ a _ hs e1;cases h2;exact ⟨_, σ1, by simp only [iEnSD, h1, bind_some, ha, if_true], all2_en 0 (all2_strs _), h3⟩
 ·cases e
theorem je_appQ (i : Nat) {α : Type} {get : S -> List (List α)} {put : S -> List (List α) -> S} {r : Rl α} [k : Sc r] {p q : DP} {f : S -> Option α} {fq : S -> Option Int} (h : JP Γ p f r) (hq : JP Γ q fq rI) (hi : Γ[i]? = some (some ⟨get, rL (rL r)⟩)) (hg : autoParam (∀ s v, get (put s v) = v) Ax8._auto_1) (hf : autoParam (∀ v, Fr (fun s => put s v) (Γ.set i none)) Ax11._auto_1) :
  JE Γ (dApp i [q] p) (fun s => (fq s).bind fun j => (L2.ixN (get s).length j).bind fun m => ((get s)[m]?).bind fun x => (f s).bind fun v => if ltC (x.length) = true then some ((), put s ((get s).set m (x ++ [v]))) else none) rN (Γ.set i (some ⟨get, rL (rL r)⟩)) := fun s σ v s' hs e => by
 obtain ⟨j, e1, e⟩ := bd e;obtain ⟨m, e2, e⟩ := bd e;obtain ⟨x, e3, e⟩ := bd e;obtain ⟨a, e4, e⟩ := bd e;split at e
 ·rename_i hl
  have hl := ltC_lt hl;cases e;obtain ⟨d, hd, ds, rfl, h2⟩ := hs.get hi;obtain ⟨dq, hdq, rq⟩ := hq s σ j hs e1;cases rq;obtain ⟨da, hda, rda⟩ := h s σ a hs e4;obtain ⟨w, hw⟩ := k.s _ _ rda;have hlen := h2.len;obtain ⟨dx, hdx, dxs, rfl, h3⟩ := h2.get e3;have hle := h3.len;rw [hlen] at e2;refine ⟨.non, _, ?_, rfl, hs.put hg hf ⟨ds.set m (.lst true (dxs ++ [da])), rfl, h2.set ⟨_, rfl, h3.append (.cons rda .nil)⟩⟩⟩;simp only [dApp, hd, bind_some, evI, hdq, map_some, getP, L2.atI, e2, hdx, hda, hw, setP];rw [if_pos (by rw [<- hle]; exact hl)]
 ·cases e
end
end TT
namespace TX
open PySem PySem.StrLaws PySem.Builtin.Str
noncomputable def Gap (w : Nat) : Nat -> List Nat -> Prop
 | _, [] => True
 | f, c :: r => f <= c /\ Gap w (c + w) r
theorem Gap.ge {w : Nat} : ∀ {T : List Nat} {f : Nat}, Gap w f T -> ∀ c ∈ T, f <= c := by
 intro T
 induction T with
 | nil => intro f _ c hc; cases hc
 | cons a T ih =>
  intro f h c hc;rcases List.mem_cons.mp hc with rfl | hc
  ·exact h.1
  ·have := ih h.2 c hc
   have := h.1
   omega
theorem occ_exact {s sub : Str} {hi limit : Nat} (hw : 1 <= sub.length) : ∀ (n lo : Nat) (st : Array Nat × Nat) (T : List Nat), Gap sub.length st.2 T -> (∀ c ∈ T, lo <= c /\ c < lo + n) -> (∀ i, lo <= i -> i < lo + n -> (At s sub hi i ↔ i ∈ T)) -> st.1.size + T.length <= limit ->
  (forIn (List.range' lo n) st (occBody s sub hi limit)).run.fst.toList = st.1.toList ++ T := by
 intro n
 induction n with
 | zero =>
  intro lo st T _ hb _ _;cases T with
  | nil => simp
  | cons c T => have := hb c (by simp); omega
 | succ n ih =>
  intro lo st T hg hb ha hl;rw [List.range'_succ, List.forIn_cons];unfold occBody;by_cases hm : lo ∈ T
  ·have hA := (ha lo (Nat.le_refl _) oM).mpr hm
   cases T with
   | nil => cases hm
   | cons c T =>
    have hc : c = lo := by
     rcases List.mem_cons.mp hm with h | h
     ·exact h.symm
     ·have h1 := hg.2.ge lo h
      have h2 := hb c (by simp);omega
    subst hc;rw [if_pos ⟨⟨⟨by simp only [List.length_cons] at hl; omega, hg.1⟩, hA.1⟩, hA.2⟩];refine (ih (c + 1) (st.1.push c, c + sub.length) T hg.2 (fun d hd => ?_) (fun i h1 h2 => ?_) (by simp only [Array.size_push, List.length_cons] at hl ⊢; omega)).trans ?_
    ·have h1 := hg.2.ge d hd
     have h2 := hb d (by simp [hd]);omega
    ·rw [ha i oM oM]
     constructor
     ·intro h
      rcases List.mem_cons.mp h with h | h
      ·omega
      ·exact h
     ·intro h; simp [h]
    ·simp
  ·have hA : ¬ At s sub hi lo := fun h => hm ((ha lo (Nat.le_refl _) oM).mp h)
   rw [if_neg (fun h => hA ⟨h.1.2, h.2⟩)];refine ih (lo + 1) st T hg (fun d hd => ?_) (fun i h1 h2 => ha i oM oM) hl;have h2 := hb d hd;have h3 : d ≠ lo := fun e => hm (e ▸ hd)
   omega
noncomputable def joinL (Y : List Nat) : List (List Nat) -> List Nat
 | [] => []
 | [p] => p
 | p :: q :: r => p ++ (Y ++ joinL Y (q :: r))
noncomputable def cuts (w : Nat) : Nat -> List (List Nat) -> List Nat
 | _, [] => []
 | _, [_] => []
 | a, p :: q :: r => (a + p.length) :: cuts w (a + p.length + w) (q :: r)
theorem cuts_gap (w : Nat) : ∀ (ps : List (List Nat)) (a : Nat), Gap w a (cuts w a ps) := by
 intro ps
 induction ps with
 | nil => intro a; trivial
 | cons p ps ih =>
  intro a;cases ps with
  | nil => trivial
  | cons q r => exact ⟨Nat.le_add_right _ _, ih _⟩
theorem drop_next {L p Y R : List Nat} {a : Nat} (h : L.drop a = p ++ (Y ++ R)) : L.drop (a + p.length) = Y ++ R /\ L.drop (a + p.length + Y.length) = R := by
 have h1 : L.drop (a + p.length) = Y ++ R := by rw [<- List.drop_drop, h, List.drop_left]
 exact ⟨h1, by rw [<- List.drop_drop, h1, List.drop_left]⟩
theorem cuts_at {L Y : List Nat} : ∀ (ps : List (List Nat)) (a : Nat), L.drop a = joinL Y ps -> ∀ c ∈ cuts Y.length a ps, (L.drop c).take Y.length = Y /\ c + Y.length <= L.length + (if Y = [] then c else 0) := by
 intro ps
 induction ps with
 | nil => intro a _ c hc; cases hc
 | cons p ps ih =>
  intro a h c hc;cases ps with
  | nil => cases hc
  | cons q r =>
   obtain ⟨h1, h2⟩ := drop_next (p := p) (Y := Y) (R := joinL Y (q :: r)) h;rcases List.mem_cons.mp hc with rfl | hc
   ·refine ⟨by rw [h1, List.take_left], ?_⟩
    by_cases hY : Y = []
    ·simp [hY]
    ·have h3 := congrArg List.length h1
     rw [List.length_drop, List.length_append] at h3;have h4 : 0 < Y.length := List.length_pos_iff.mpr hY;omega
   ·exact ih _ h2 c hc
theorem cuts_mark {L Y : List Nat} {m off : Nat} (hY : ∀ k, Y[k]? = some m -> k = off) : ∀ (ps : List (List Nat)) (a : Nat), L.drop a = joinL Y ps -> (∀ p ∈ ps, m ∉ p) -> ∀ j, a <= j -> L[j]? = some m -> ∃ c ∈ cuts Y.length a ps, j = c + off := by
 intro ps
 induction ps with
 | nil =>
  intro a h _ j hj e;have : (L.drop a)[j - a]? = some m := by rw [List.getElem?_drop, Nat.add_sub_cancel' hj]; exact e
  rw [h] at this;simp [joinL] at this
 | cons p ps ih =>
  intro a h hf j hj e;have hm : (L.drop a)[j - a]? = some m := by rw [List.getElem?_drop, Nat.add_sub_cancel' hj]; exact e
  cases ps with
  | nil =>
   rw [h] at hm;exact absurd (List.mem_of_getElem? hm) (hf p (by simp))
  | cons q r =>
   have h' : L.drop a = p ++ (Y ++ joinL Y (q :: r)) := h;obtain ⟨h1, h2⟩ := drop_next h';by_cases hp : j - a < p.length
   ·rw [h', List.getElem?_append_left hp] at hm
    exact absurd (List.mem_of_getElem? hm) (hf p (by simp))
   ·by_cases hy : j - a < p.length + Y.length
    ·rw [h', List.getElem?_append_right oM, List.getElem?_append_left oM] at hm
     have := hY _ hm
     exact ⟨a + p.length, by simp [cuts], by omega⟩
    ·obtain ⟨c, hc, ej⟩ := ih _ h2 (fun x hx => hf x (List.mem_cons_of_mem _ hx)) j oM e
     exact ⟨c, List.mem_cons_of_mem _ hc, ej⟩
theorem cuts_len {w n : Nat} (hw : 1 <= w) : ∀ {T : List Nat} {f : Nat}, Gap w f T -> (∀ c ∈ T, c + w <= n) -> T.length <= n - f := by
 intro T
 induction T with
 | nil => intro f _ _; simp
 | cons c T ih =>
  intro f hg hb;have h1 := ih hg.2 fun d hd => hb d (by simp [hd])
  have h2 := hb c (by simp);have h3 := hg.1;simp only [List.length_cons];omega
theorem parts_of {x : Str} {Y : List Nat} : ∀ (ps : List Str) (a : Nat), ps ≠ [] -> x.cps.toList.drop a = joinL Y (ps.map fun p => p.cps.toList) -> partsFrom x Y.length a (cuts Y.length a (ps.map fun p => p.cps.toList)) = ps := by
 intro ps
 induction ps with
 | nil => intro a h _; exact absurd rfl h
 | cons p ps ih =>
  intro a _ h;have ext : ∀ {u v : Str}, u.cps.toList = v.cps.toList -> u = v := fun e => Str.ext' (Array.toList_inj.mp e)
  cases ps with
  | nil =>
   have h' : x.cps.toList.drop a = p.cps.toList := h;show [strSub x a x.length] = [p];congr 1;apply ext;rw [strSub_toList, h'];apply List.take_of_length_le;rw [<- h', List.length_drop];show x.cps.toList.length - a <= x.cps.size - a;simp
  | cons q r =>
   have h' : x.cps.toList.drop a = p.cps.toList ++ (Y ++ joinL Y ((q :: r).map fun p => p.cps.toList)) := h;obtain ⟨h1, h2⟩ := drop_next h';show strSub x a (a + p.cps.toList.length) :: partsFrom x Y.length (a + p.cps.toList.length + Y.length) (cuts Y.length (a + p.cps.toList.length + Y.length) ((q :: r).map fun p => p.cps.toList)) = p :: q :: r;rw [ih _ (by simp) h2];congr 1;apply ext;rw [strSub_toList, h', Nat.add_sub_cancel_left, List.take_left]
theorem join_list {y : Str} : ∀ ps : List Str, (Str.join y ps).cps.toList = joinL y.cps.toList (ps.map fun p => p.cps.toList) := by
 intro ps
 induction ps with
 | nil => rfl
 | cons p ps ih =>
  cases ps with
  | nil => rfl
  | cons q r =>
   show (p ++ y ++ Str.join y (q :: r)).cps.toList = p.cps.toList ++ (y.cps.toList ++ joinL y.cps.toList ((q :: r).map fun p => p.cps.toList));rw [<- ih];simp [Str.cps_append]
theorem split_join {y : Str} {m off : Nat} (hw : 1 <= y.length) (hm : y.cps.toList[off]? = some m) (hY : ∀ k, y.cps.toList[k]? = some m -> k = off) (hk : PySem.Builtin.Str.strKind y = 1) {ps : List Str} (hne : ps ≠ []) (hf : ∀ p ∈ ps, m ∉ p.cps.toList) :
  Txt.split (Txt.join y ps) y = ps := by
 have ej : Txt.join y ps = Str.join y ps := glued_eq_join y ps;rw [ej];generalize hx : Str.join y ps = x;have hL : x.cps.toList = joinL y.cps.toList (ps.map fun p => p.cps.toList) := by rw [<- hx]; exact join_list ps
 have hyl : y.cps.toList.length = y.length := by simp [Str.length]
 have hxl : x.cps.toList.length = x.length := by simp [Str.length]
 have hY0 : y.cps.toList ≠ [] := fun e => by rw [e] at hyl; simp at hyl; omega
 have h0 : x.cps.toList.drop 0 = joinL y.cps.toList (ps.map fun p => p.cps.toList) := hL;have hg := cuts_gap y.cps.toList.length (ps.map fun p => p.cps.toList) 0;have hat := cuts_at (ps.map fun p => p.cps.toList) 0 h0;have hmk := cuts_mark hY (ps.map fun p => p.cps.toList) 0 h0 (fun p hp => by
  obtain ⟨q, hq, rfl⟩ := List.mem_map.mp hp;exact hf q hq)
 have hpt := parts_of ps 0 hne h0;generalize hT : cuts y.cps.toList.length 0 (ps.map fun p => p.cps.toList) = T at hg hat hmk hpt;rw [hyl] at hg hat hpt;have hb : ∀ c ∈ T, c + y.length <= x.length := fun c hc => by
  have := (hat c hc).2
  rw [if_neg hY0, hxl] at this;omega
 have hiff : ∀ i, (At x y x.length i ↔ i ∈ T) := fun i => by
  constructor
  ·intro h
   have h2 := h.2;rw [subAt_eq] at h2;have h3 := eq_of_beq h2;have h4 : x.cps.toList[i + off]? = some m := by
    have h5 : ((x.cps.toList.drop i).take y.length)[off]? = some m := by rw [h3]; exact hm
    rw [List.getElem?_take] at h5;split at h5
    ·rw [List.getElem?_drop] at h5; exact h5
    ·cases h5
   obtain ⟨c, hc, e⟩ := hmk (i + off) (Nat.zero_le _) h4;have : i = c := by omega
   rw [this]; exact hc
  ·intro h
   exact ⟨hb i h, by rw [subAt_eq, (hat i h).1]; simp⟩
 have hocc : occurrences x y 0 x.length (x.length + 1) = T := by
  rw [occ_eq]
  have := occ_exact (s := x) (sub := y) (hi := x.length) (limit := x.length + 1) hw (x.length + 1 - 0) 0 (#[], 0) T hg (fun c hc => by have := hb c hc; omega) (fun i _ _ => hiff i) (by have := cuts_len hw hg hb; simp; omega)
  simpa using this
 have one : T = [] -> [x] = ps := fun e => by
  rw [e] at hpt;rw [<- hpt];show [x] = [strSub x 0 x.length];rw [sub_whole]
 unfold Txt.split;split
 ·rename_i hc
  apply one;cases T with
  | nil => rfl
  | cons c T =>
   have h1 := hb c (by simp);have h2 : 1 <= PySem.Builtin.Str.strKind x := by unfold PySem.Builtin.Str.strKind; split; omega; split <;> omega
   rw [hk] at hc;simp only [Bool.or_eq_true, decide_eq_true_eq] at hc;omega
 ·rw [hocc]
  split
  ·rename_i he
   exact one (List.isEmpty_iff.mp he)
  ·rw [partsBetween_eq]
   exact hpt
theorem jn (y : Str) (ps : List Str) : Txt.join y ps = Str.join y ps := glued_eq_join y ps
theorem joinL_mem {Y : List Nat} {c : Nat} : ∀ {ps : List (List Nat)}, c ∈ joinL Y ps -> c ∈ Y \/ ∃ p ∈ ps, c ∈ p := by
 intro ps
 induction ps with
 | nil => intro h; cases h
 | cons p ps ih =>
  intro h;cases ps with
  | nil => exact .inr ⟨p, by simp, h⟩
  | cons q r =>
   have h' : c ∈ p ++ (Y ++ joinL Y (q :: r)) := h;rcases List.mem_append.mp h' with h' | h'
   ·exact .inr ⟨p, by simp, h'⟩
   ·rcases List.mem_append.mp h' with h' | h'
    ·exact .inl h'
    ·rcases ih h' with h2 | ⟨x, hx, h2⟩
     ·exact .inl h2
     ·exact .inr ⟨x, List.mem_cons_of_mem _ hx, h2⟩
theorem joinL_len {Y : List Nat} {b : Nat} : ∀ {ps : List (List Nat)}, (∀ p ∈ ps, p.length <= b) -> (joinL Y ps).length <= ps.length * (b + Y.length) := by
 intro ps
 induction ps with
 | nil => intro _; simp [joinL]
 | cons p ps ih =>
  intro h;have hp := h p (by simp);cases ps with
  | nil => show p.length <= 1 * (b + Y.length); omega
  | cons q r =>
   have h2 := ih fun x hx => h x (List.mem_cons_of_mem _ hx)
   show (p ++ (Y ++ joinL Y (q :: r))).length <= ((q :: r).length + 1) * (b + Y.length);rw [List.length_append, List.length_append, Nat.succ_mul];omega
theorem join_mem {y : Str} {ps : List Str} {c : Nat} (h : c ∈ (Txt.join y ps).cps.toList) : c ∈ y.cps.toList \/ ∃ p ∈ ps, c ∈ p.cps.toList := by
 rw [jn, join_list] at h;rcases joinL_mem h with h | ⟨p, hp, h⟩
 ·exact .inl h
 ·obtain ⟨q, hq, rfl⟩ := List.mem_map.mp hp
  exact .inr ⟨q, hq, h⟩
theorem len_cps {x : Str} : x.length = x.cps.toList.length := by simp [Str.length]
theorem join_len {y : Str} {ps : List Str} {b : Nat} (h : ∀ p ∈ ps, p.length <= b) : (Txt.join y ps).length <= ps.length * (b + y.length) := by
 rw [len_cps, jn, join_list]
 have := joinL_len (Y := y.cps.toList) (b := b) (ps := ps.map fun p => p.cps.toList) (fun p hp => by
  obtain ⟨q, hq, rfl⟩ := List.mem_map.mp hp;rw [<- len_cps]; exact h q hq)
 rw [List.length_map, <- len_cps] at this;exact this
theorem sum_le {ps : List Str} {b : Nat} : (∀ p ∈ ps, p.length <= b) -> (ps.map (·.length)).sum <= ps.length * b := by
 induction ps with
 | nil => intro _; simp
 | cons p ps ih =>
  intro h;have h1 := ih fun x hx => h x (List.mem_cons_of_mem _ hx)
  have h2 := h p (by simp);rw [List.map_cons, List.sum_cons, List.length_cons, Nat.succ_mul];omega
theorem nil_add {x : Str} : Str.empty ++ x = x := by
 apply Str.ext';rw [Str.cps_append];apply Array.toList_inj.mp;rw [Array.toList_append]; rfl
theorem add_mem {x y : Str} {c : Nat} (h : c ∈ (x ++ y).cps.toList) : c ∈ x.cps.toList \/ c ∈ y.cps.toList := by
 rw [Str.cps_append, Array.toList_append] at h;exact List.mem_append.mp h
theorem add_len {x y : Str} : (x ++ y).length = x.length + y.length := by
 rw [len_cps, len_cps, len_cps, Str.cps_append, Array.toList_append, List.length_append]
theorem slice_drop {x : Str} {k : Nat} (h : k <= x.length) : (Txt.slice x (some (k : Int)) none).cps.toList = x.cps.toList.drop k := by
 rw [PyProof.Rows.slice_from_eq (b := (x.length : Int)) oM oM rfl];show ((x.cps.toList.drop ((k : Int).toNat)).take ((x.length : Int) - (k : Int)).toNat) = _;rw [Int.toNat_natCast];apply List.take_of_length_le;rw [List.length_drop, <- len_cps];omega
theorem starts_one {x y : Str} {c : Nat} (hy : y.cps.toList = [c]) : Txt.startswith x y = (match x.cps.toList with | [] => false | d :: _ => d == c) := by
 unfold Txt.startswith;rw [subAt_eq];have hl : y.length = 1 := by rw [len_cps, hy]; rfl
 rw [hl, hy];rcases hx : x.cps.toList with _ | ⟨d, r⟩
 ·have : x.length = 0 := by rw [len_cps, hx]; rfl
  rw [this]; rfl
 ·have : x.length = r.length + 1 := by rw [len_cps, hx]; rfl
  rw [this];simp
theorem ext' {u v : Str} (e : u.cps.toList = v.cps.toList) : u = v := Str.ext' (Array.toList_inj.mp e)
theorem add_cps {x y : Str} : (x ++ y).cps.toList = x.cps.toList ++ y.cps.toList := by rw [Str.cps_append, Array.toList_append]
theorem join_cps {y : Str} {ps : List Str} : (Txt.join y ps).cps.toList = joinL y.cps.toList (ps.map fun p => p.cps.toList) := by rw [jn, join_list]
noncomputable def num (n : Int) : Str := Str.ofString (toString n)
theorem num_cps (m : Nat) : (num (m : Int)).cps.toList = (Nat.toDigits 10 m).map Char.toNat := PySem.W.KIN.signs_num m
theorem num_dig (m : Nat) : PySem.NumText.AllDigits (num (m : Int)).cps.toList := by
 intro c hc;rw [num_cps] at hc;obtain ⟨ch, hch, e⟩ := List.mem_map.mp hc;have r := PyProof.Rows.digit_range (Nat.isDigit_of_mem_toDigits dC dC hch);rw [<- e];exact r
theorem num_ne (m : Nat) : (num (m : Int)).cps.toList ≠ [] := by
 rw [num_cps];intro e;have h := PySem.toDigits_len_ge 10 m;rw [List.map_eq_nil_iff.mp e] at h;exact absurd h dC
theorem num_len {m : Nat} (h : m < 10 ^ 40) : (num (m : Int)).length <= 40 := by
 rw [len_cps, num_cps, List.length_map];exact PySem.toDigits_len_pow dC dC h
theorem num_read {m : Nat} (h : m < 10 ^ 40) : PySem.intText? (num (m : Int)) = some (m : Int) := by
 have e := PySem.intText_digits (num_dig m) (num_ne m) (Nat.le_trans (num_len h) dC);rw [num_cps, PySem.W.KIN.val_back] at e;exact e
theorem num_head {m : Nat} (h : 1 <= m) : ∃ c r, (num (m : Int)).cps.toList = c :: r /\ 49 <= c /\ c <= 57 := by
 rcases hx : (num (m : Int)).cps.toList with _ | ⟨c, r⟩
 ·exact absurd hx (num_ne m)
 ·have hd := num_dig m
  rw [hx] at hd;have hc := hd.head;refine ⟨c, r, rfl, ?_, hc.2⟩;by_cases h0 : c = 48
  ·exfalso
   subst h0;have hv : PySem.NumText.digitsVal (48 :: r) = m := by rw [<- hx, num_cps]; exact PySem.W.KIN.val_back m
   have ha := PySem.NumText.toDigits_all (48 :: r) hd;rw [hv] at ha;have hlen : (Nat.toDigits 10 m).length = r.length + 1 := by
    have := congrArg List.length hx
    rw [num_cps, List.length_map] at this;exact this
   rw [List.dropWhile_cons] at ha;simp only [BEq.rfl, if_true] at ha;have hdl := PySem.NumText.len_dropWhile (· == 48) r;rcases hr : r.dropWhile (· == 48) with _ | ⟨c', r'⟩
   ·rw [hr] at ha
    have hr0 : r.length = 0 := by
     rw [ha] at hlen;simp at hlen;rw [hlen]; rfl
    have : r = [] := List.length_eq_zero_iff.mp hr0;subst this;have : PySem.NumText.digitsVal [48] = 0 := by decide
    omega
   ·rw [hr] at ha hdl
    rw [ha] at hlen;simp only [List.length_map] at hlen;omega
  ·omega
end TX
namespace LW
open PySem L2 DD
noncomputable def top (i : Nat) : Stmt := PySem.Challenge.pw_telltight_k73_rows_as_texts.main.body.getD i (.Pass ⟨0, 0, 0, 0⟩)
noncomputable abbrev s_read_number : Stmt := top 6
noncomputable abbrev s_in_two : Stmt := top 7
noncomputable abbrev s_all_names : Stmt := top 10
noncomputable abbrev s_names_in : Stmt := top 15
noncomputable abbrev s_sign_ahead : Stmt := top 20
noncomputable abbrev s_signed_terms : Stmt := top 30
noncomputable abbrev s_lmixed : Stmt := top 33
noncomputable abbrev s_lpile : Stmt := top 34
noncomputable abbrev s_lsame : Stmt := top 37
noncomputable abbrev s_lletters : Stmt := top 38
noncomputable abbrev s_row_of_terms : Stmt := top 11
noncomputable abbrev s_show_group : Stmt := top 18
noncomputable abbrev s_read_whole : Stmt := top 22
noncomputable abbrev s_ltake : Stmt := top 35
noncomputable abbrev s_lshown : Stmt := top 39
noncomputable abbrev s_rest_row : Stmt := top 12
noncomputable abbrev s_shared_row : Stmt := top 13
noncomputable abbrev s_show_term : Stmt := top 19
noncomputable abbrev s_read_count : Stmt := top 23
noncomputable abbrev s_read_group : Stmt := top 24
noncomputable abbrev s_lnumber : Stmt := top 36
noncomputable abbrev s_show_row : Stmt := top 21
noncomputable abbrev s_read_known : Stmt := top 25
noncomputable abbrev s_lrow : Stmt := top 40
noncomputable abbrev s_read_rest : Stmt := top 26
noncomputable abbrev s_read_shared : Stmt := top 27
noncomputable abbrev s_read_form : Stmt := top 28
noncomputable abbrev s_read_term : Stmt := top 29
noncomputable abbrev s_read_row : Stmt := top 31
noncomputable abbrev s_lright : Stmt := top 41
noncomputable abbrev s_law : Stmt := top 42
theorem sc_read_number : FnScope ["text", "figures"] ["text"] (defScope s_read_number) := ⟨rfl, rfl, rfl, by decide +kernel, rfl, by decide +kernel, by decide +kernel⟩
theorem sc_all_names : FnScope ["n"] ["n"] (defScope s_all_names) := ⟨rfl, rfl, rfl, by decide +kernel, rfl, by decide +kernel, by decide +kernel⟩
theorem sc_names_in : FnScope ["n", "group"] ["n", "group"] (defScope s_names_in) := ⟨rfl, rfl, rfl, by decide +kernel, rfl, by decide +kernel, by decide +kernel⟩
theorem sc_sign_ahead : FnScope ["number", "is_first"] ["number", "is_first"] (defScope s_sign_ahead) := ⟨rfl, rfl, rfl, by decide +kernel, rfl, by decide +kernel, by decide +kernel⟩
theorem sc_signed_terms : FnScope ["text", "signs", "terms", "word"] ["text"] (defScope s_signed_terms) := ⟨rfl, rfl, rfl, by decide +kernel, rfl, by decide +kernel, by decide +kernel⟩
theorem sc_lmixed : FnScope ["_law_cell", "_law_k", "_law_number_here"] ["_law_cell", "_law_k"] (defScope s_lmixed) := ⟨rfl, rfl, rfl, by decide +kernel, rfl, by decide +kernel, by decide +kernel⟩
theorem sc_lpile : FnScope ["_law_script", "_law_k", "_law_cell"] ["_law_script", "_law_k"] (defScope s_lpile) := ⟨rfl, rfl, rfl, by decide +kernel, rfl, by decide +kernel, by decide +kernel⟩
theorem sc_lsame : FnScope ["_law_found", "_law_due"] ["_law_found", "_law_due"] (defScope s_lsame) := ⟨rfl, rfl, rfl, by decide +kernel, rfl, by decide +kernel, by decide +kernel⟩
theorem sc_lletters : FnScope ["_law_group"] ["_law_group"] (defScope s_lletters) := ⟨rfl, rfl, rfl, by decide +kernel, rfl, by decide +kernel, by decide +kernel⟩
theorem sc_row_of_terms : FnScope ["n", "terms", "row", "group", "number"] ["n", "terms"] (defScope s_row_of_terms) := ⟨rfl, rfl, rfl, by decide +kernel, rfl, by decide +kernel, by decide +kernel⟩
theorem sc_show_group : FnScope ["group"] ["group"] (defScope s_show_group) := ⟨rfl, rfl, rfl, by decide +kernel, rfl, by decide +kernel, by decide +kernel⟩
theorem sc_read_whole : FnScope ["text", "number"] ["text"] (defScope s_read_whole) := ⟨rfl, rfl, rfl, by decide +kernel, rfl, by decide +kernel, by decide +kernel⟩
theorem sc_ltake : FnScope ["_law_pile_here", "_law_many", "_law_digit"] ["_law_pile_here", "_law_many"] (defScope s_ltake) := ⟨rfl, rfl, rfl, by decide +kernel, rfl, by decide +kernel, by decide +kernel⟩
theorem sc_lshown : FnScope ["_law_row_here", "_law_words", "_law_place", "_law_number_here", "_law_sign", "_law_text"] ["_law_row_here"] (defScope s_lshown) := ⟨rfl, rfl, rfl, by decide +kernel, rfl, by decide +kernel, by decide +kernel⟩
theorem sc_rest_row : FnScope ["n", "a", "b"] ["n", "a", "b"] (defScope s_rest_row) := ⟨rfl, rfl, rfl, by decide +kernel, rfl, by decide +kernel, by decide +kernel⟩
theorem sc_show_term : FnScope ["group", "number", "size", "letters"] ["group", "number"] (defScope s_show_term) := ⟨rfl, rfl, rfl, by decide +kernel, rfl, by decide +kernel, by decide +kernel⟩
theorem sc_read_count : FnScope ["text", "least", "number"] ["text", "least"] (defScope s_read_count) := ⟨rfl, rfl, rfl, by decide +kernel, rfl, by decide +kernel, by decide +kernel⟩
theorem sc_read_group : FnScope ["n", "text", "group"] ["n", "text"] (defScope s_read_group) := ⟨rfl, rfl, rfl, by decide +kernel, rfl, by decide +kernel, by decide +kernel⟩
theorem sc_lnumber : FnScope ["_law_pile_here", "_law_way", "_law_number_here", "_law_k"] ["_law_pile_here"] (defScope s_lnumber) := ⟨rfl, rfl, rfl, by decide +kernel, rfl, by decide +kernel, by decide +kernel⟩
theorem sc_show_row : FnScope ["n", "row", "shown", "group", "number"] ["n", "row"] (defScope s_show_row) := ⟨rfl, rfl, rfl, by decide +kernel, rfl, by decide +kernel, by decide +kernel⟩
theorem sc_read_known : FnScope ["n", "parts"] ["n", "parts"] (defScope s_read_known) := ⟨rfl, rfl, rfl, by decide +kernel, rfl, by decide +kernel, by decide +kernel⟩
theorem sc_lrow : FnScope ["_law_script", "_law_start", "_law_n", "_law_row_here", "_law_g", "_law_pile_here"] ["_law_script", "_law_start", "_law_n"] (defScope s_lrow) := ⟨rfl, rfl, rfl, by decide +kernel, rfl, by decide +kernel, by decide +kernel⟩
theorem sc_read_rest : FnScope ["n", "text", "parts", "known"] ["n", "text"] (defScope s_read_rest) := ⟨rfl, rfl, rfl, by decide +kernel, rfl, by decide +kernel, by decide +kernel⟩
theorem sc_read_form : FnScope ["n", "text"] ["n", "text"] (defScope s_read_form) := ⟨rfl, rfl, rfl, by decide +kernel, rfl, by decide +kernel, by decide +kernel⟩
theorem sc_read_term : FnScope ["n", "sign", "words", "number"] ["n", "sign", "words"] (defScope s_read_term) := ⟨rfl, rfl, rfl, by decide +kernel, rfl, by decide +kernel, by decide +kernel⟩
theorem sc_read_row : FnScope ["n", "text", "row", "sign", "words"] ["n", "text"] (defScope s_read_row) := ⟨rfl, rfl, rfl, by decide +kernel, rfl, by decide +kernel, by decide +kernel⟩
theorem sc_lright : FnScope ["_law_n", "_law_row_here", "_law_handed", "_law_text", "_law_time", "_law_found"] ["_law_n", "_law_row_here"] (defScope s_lright) := ⟨rfl, rfl, rfl, by decide +kernel, rfl, by decide +kernel, by decide +kernel⟩
theorem sc_law : FnScope ["_law_script", "_law_turn", "_law_n", "_law_row_here"] ["_law_script"] (defScope s_law) := ⟨rfl, rfl, rfl, by decide +kernel, rfl, by decide +kernel, by decide +kernel⟩
noncomputable def c_read_number : DS := (sSeq (sSet 1 (dIfE (dTest (dStarts (dS (pV 0)) (dS (pC (.str "-"))))) (dSlS (dCp 0) (some (pC (.int 1))) none) (dS (pV 0))))
   (sSeq (sIf (tOrD (dTest (dOp gLt (dS (pCall lenD [(pV 1)])) (dS (pC (.int 1))))) (tOrD (dTest (dOp gGt (dS (pCall lenD [(pV 1)])) (dS (pC (.int 2000))))) (tNotD (dTest (dCallB allD (aCons (dLc 1 (iStrD (dS (pV 1))) (gNm 2) tTrue (dS (pOp gInS (pV 2) (pC (.str "0123456789"))))) aNil)))))) sNone sSkip)
   (sSeq (sIf (tAndD (dTest (dOp gEq (dS (pOp ixD (pV 1) (pC (.int 0)))) (dS (pC (.str "0"))))) (dTest (dS (pOp gNe (pV 0) (pC (.str "0")))))) sNone sSkip)
   (sRet (dS (pCall intTD [(pV 0)]))))))
noncomputable def g_read_number : GF := gOf 2 [1] c_read_number
noncomputable def c_all_names : DS := (sRet (dS (pOp gSub (pOp gShl (pC (.int 1)) (pV 0)) (pC (.int 1)))))
noncomputable def g_all_names : GF := gOf 1 [] c_all_names
noncomputable def c_names_in : DS := (sRet (dLc 1 (iR1 (aCons (dS (pV 0)) aNil)) (gNm 2) (dTest (dOp gNe (dS (pOp gAnd (pV 1) (pOp gShl (pC (.int 1)) (pV 2)))) (dS (pC (.int 0))))) (dS (pV 2))))
noncomputable def g_names_in : GF := gOf 2 [] c_names_in
noncomputable def c_sign_ahead : DS := (sSeq (sIf (dTest (dS (pV 1))) (sRet (dIfE (dTest (dOp gLt (dS (pV 0)) (dS (pC (.int 0))))) (dS (pC (.str "-"))) (dS (pC (.str ""))))) sSkip)
   (sRet (dIfE (dTest (dOp gLt (dS (pV 0)) (dS (pC (.int 0))))) (dS (pC (.str " - "))) (dS (pC (.str " + "))))))
noncomputable def g_sign_ahead : GF := gOf 2 [] c_sign_ahead
noncomputable def c_signed_terms : DS := (sSeq (sSet 1 (dLst (aCons (dIfE (dTest (dStarts (dS (pV 0)) (dS (pC (.str "-"))))) (dS (pNeg (pC (.int 1)))) (dS (pC (.int 1)))) aNil)))
   (sSeq (sSet 2 (dLst (aCons (dLst aNil) aNil)))
   (sSeq (sForI (iLst (dSplit (dIfE (dTest (dOp gEq (dS (pOp ixD (pV 1) (pC (.int 0)))) (dS (pNeg (pC (.int 1)))))) (dSlS (dS (pV 0)) (some (pC (.int 1))) none) (dS (pV 0))) (dS (pC (.str " "))))) (gNm 3) (sIf (tOrD (dTest (dOp gEq (dS (pV 3)) (dS (pC (.str "+"))))) (dTest (dOp gEq (dS (pV 3)) (dS (pC (.str "-")))))) (sSeq (sDrop (dAppV 1 (dIfE (dTest (dOp gEq (dS (pV 3)) (dS (pC (.str "+"))))) (dS (pC (.int 1))) (dS (pNeg (pC (.int 1)))))))
   (sDrop (dAppV 2 (dLst aNil)))) (sDrop (dApp 2 [(pNeg (pC (.int 1)))] (pV 3)))))
   (sRet (dLz (aCons (dCp 1) (aCons (dCp 2) aNil)))))))
noncomputable def g_signed_terms : GF := gOf 4 [1, 2, 3] c_signed_terms
noncomputable def c_lmixed : DS := (sSeq (sSet 2 (dS (pOp gMod (pOp gAdd (pOp gAdd (pOp gMul (pOp gMod (pV 0) (pC (.int 2147483647))) (pC (.int 48271))) (pOp gMul (pV 1) (pC (.int 69621)))) (pC (.int 11))) (pC (.int 2147483647)))))
   (sSeq (sSet 2 (dS (pOp gMod (pOp gMul (pV 2) (pV 2)) (pC (.int 2147483629)))))
   (sRet (dS (pOp gMod (pOp gMul (pV 2) (pV 2)) (pC (.int 2147483587)))))))
noncomputable def g_lmixed : GF := gOf 3 [2, 2] c_lmixed
noncomputable def c_lpile : DS := (sSeq (sSet 2 (dS (pC (.int 0))))
   (sSeq (sIf (dTest (dOp gLt (dS (pV 1)) (dS (pCall lenD [(pV 0)])))) (sSet 2 (dS (pOp ixD (pV 0) (pV 1)))) sSkip)
   (sRet (dLst (aCons (dS (pOp gMul (pV 2) (pCall intD [(pOp gGe (pCall absD [(pV 2)]) (pOp gPow (pC (.int 10)) (pC (.int 18))))]))) (aCons (dS (pV 2)) (aCons (dS (pOp gMul (pC (.int 97)) (pV 1))) aNil)))))))
noncomputable def g_lpile : GF := gOf 3 [2, 2] c_lpile
noncomputable def c_lsame : DS := (sSeq (sIf (tOrD (tNotD (dTest (dS (pCall isiD [(pV 0), (pC (.ty "list"))])))) (dTest (dS (pOp gNe (pV 0) (pV 1))))) sNone sSkip)
   (sRet (dOp gEq (dHide 1 (dThaw 0 (dLc 1 (iLst (dCp 0)) (gNm 2) (tOrD (dTest (dS (pCall isiD [(pV 2), (pC (.ty "bool"))]))) (tNotD (dTest (dS (pCall isiD [(pV 2), (pC (.ty "int"))]))))) (dCp 2)))) (dLst aNil))))
noncomputable def g_lsame : GF := gOf 2 [] c_lsame
noncomputable def c_lletters : DS := (sRet (dJoin (dS (pC (.str ""))) (dLc 2 (iEnSD (dS (pC (.str "abcd")))) (gTupD 2 (gConsD (gNm 1) (gConsD (gNm 2) gNilD))) (dTest (dOp gEq (dS (pOp gAnd (pOp gShr (pV 0) (pV 1)) (pC (.int 1)))) (dS (pC (.int 1))))) (dS (pV 2)))))
noncomputable def g_lletters : GF := gOf 1 [] c_lletters
noncomputable def c_row_of_terms : DS := (sSeq (sSet 2 (dRep (dLst (aCons (dS (pC (.int 0))) aNil)) (dCall g_all_names [.bo 0])))
   (sSeq (sForI (iLst (dCp 1)) (gTupD 2 (gConsD (gNm 3) (gConsD (gNm 4) gNilD))) (sIf (dTest (dOp gNe (dS (pV 3)) (dS (pC (.int 0))))) (sAugIx gAdd 2 [] (pOp gSub (pV 3) (pC (.int 1))) (pV 4)) sSkip))
   (sRet (dMv 2))))
noncomputable def g_row_of_terms : GF := gOf 5 [2, 3, 4] c_row_of_terms
noncomputable def c_show_group : DS := (sRet (dJoin (dS (pC (.str ""))) (dLc 1 (iLst (dCall g_names_in [.ex (dS (pC (.int 4))), .bo 0])) (gNm 1) tTrue (dS (pOp ixD (pC (.str "abcd")) (pV 1))))))
noncomputable def g_show_group : GF := gOf 1 [] c_show_group
noncomputable def c_read_whole : DS := (sSeq (sSet 1 (dCall g_read_number [.bo 0]))
   (sSeq (sIf (dTest (dOp gGe (dS (pCall absD [(pV 1)])) (dS (pOp gPow (pC (.int 10)) (pC (.int 40)))))) sNone sSkip)
   (sRet (dS (pV 1)))))
noncomputable def g_read_whole : GF := gOf 2 [1] c_read_whole
noncomputable def c_ltake : DS := (sSeq (sIf (dTest (dS (pOp gIn (pOp ixD (pV 0) (pC (.int 0))) (pLst [(pC (.int 0)), (pNeg (pC (.int 1)))])))) (sSeq (sAsg (dS (pOp gAdd (pOp ixD (pV 0) (pC (.int 2))) (pC (.int 1)))) (gSet 0 [] (pC (.int 2))))
   (sRet (dOp gMod (dCall g_lmixed [.ex (dS (pOp ixD (pV 0) (pC (.int 1)))), .ex (dS (pOp ixD (pV 0) (pC (.int 2))))]) (dS (pV 1))))) sSkip)
   (sSeq (sSet 2 (dS (pOp gMod (pOp ixD (pV 0) (pC (.int 0))) (pV 1))))
   (sSeq (sAsg (dS (pOp gFdv (pOp ixD (pV 0) (pC (.int 0))) (pV 1))) (gSet 0 [] (pC (.int 0))))
   (sRet (dS (pV 2))))))
noncomputable def g_ltake : GF := gOf 3 [2] c_ltake
noncomputable def c_lshown : DS := (sSeq (sSet 1 (dLst aNil))
   (sSeq (sForI (iEnD 0 (dCp 0)) (gTupD 2 (gConsD (gNm 2) (gConsD (gNm 3) gNilD))) (sIf (dTest (dOp gNe (dS (pV 3)) (dS (pC (.int 0))))) (sSeq (sSet 4 (dS (pOp ixD (pLst [(pC (.str " + ")), (pC (.str " - "))]) (pCall intD [(pOp gLt (pV 3) (pC (.int 0)))]))))
   (sDrop (dAppV 1 (dOp gAddS (dOp gAddS (dS (pOp gAddS (pOp gAddS (pV 4) (pCall strID [(pCall absD [(pV 3)])])) (pC (.str " h(")))) (dCall g_lletters [.ex (dS (pOp gAdd (pV 2) (pC (.int 1))))])) (dS (pC (.str ")"))))))) sSkip))
   (sSeq (sSet 5 (dJoin (dS (pC (.str ""))) (dCp 1)))
   (sSeq (sIf (dTest (dOp gEq (dS (pV 5)) (dS (pC (.str ""))))) (sRet (dS (pC (.str "0")))) sSkip)
   (sSeq (sIf (dTest (dOp gEq (dS (pOp ixD (pV 5) (pC (.int 1)))) (dS (pC (.str "-"))))) (sRet (dOp gAddS (dS (pC (.str "-"))) (dSlS (dS (pV 5)) (some (pC (.int 3))) none))) sSkip)
   (sRet (dSlS (dS (pV 5)) (some (pC (.int 3))) none)))))))
noncomputable def g_lshown : GF := gOf 6 [1, 2, 3, 4, 5] c_lshown
noncomputable def c_rest_row : DS := (sRet (dCall g_row_of_terms [.bo 0, .ex (dLst (aCons (dTup (aCons (dS (pOp gOr (pV 1) (pV 2))) (aCons (dS (pC (.int 1))) aNil))) (aCons (dTup (aCons (dS (pV 2)) (aCons (dS (pNeg (pC (.int 1)))) aNil))) aNil)))]))
noncomputable def g_rest_row : GF := gOf 3 [] c_rest_row
noncomputable def c_show_term : DS := (sSeq (sSet 2 (dS (pCall absD [(pV 1)])))
   (sSeq (sSet 3 (dCall g_show_group [.bo 0]))
   (sRet (dFs [(dFv (dS (pV 2))), (dS (pC (.str " h("))), (dFv (dS (pV 3))), (dS (pC (.str ")")))]))))
noncomputable def g_show_term : GF := gOf 4 [2, 3] c_show_term
noncomputable def c_read_count : DS := (sSeq (sSet 2 (dCall g_read_whole [.bo 0]))
   (sSeq (sIf (dTest (dOp gLt (dS (pV 2)) (dS (pV 1)))) sNone sSkip)
   (sRet (dS (pV 2)))))
noncomputable def g_read_count : GF := gOf 3 [2] c_read_count
noncomputable def c_read_group : DS := (sSeq (sForI (iR2 (aCons (dS (pC (.int 1))) (aCons (dOp gAdd (dCall g_all_names [.bo 0]) (dS (pC (.int 1)))) aNil))) (gNm 2) (sIf (dTest (dOp gEq (dCall g_show_group [.bo 2]) (dS (pV 1)))) (sRet (dS (pV 2))) sSkip))
   sNone)
noncomputable def g_read_group : GF := gOf 3 [2] c_read_group
noncomputable def c_lnumber : DS := (sSeq (sSet 1 (dCall g_ltake [.bo 0, .ex (dS (pC (.int 4)))]))
   (sSeq (sIf (dTest (dOp gEq (dS (pV 1)) (dS (pC (.int 0))))) (sSeq (sSet 2 (dS (pC (.int 0))))
   (sSeq (sForI (iR1 (aCons (dS (pC (.int 4))) aNil)) (gNm 3) (sSet 2 (dOp gAdd (dS (pOp gMul (pV 2) (pOp gPow (pC (.int 10)) (pC (.int 10))))) (dCall g_ltake [.bo 0, .ex (dS (pOp gPow (pC (.int 10)) (pC (.int 10))))]))))
   (sRet (dIx (dLst (aCons (dS (pV 2)) (aCons (dS (pNeg (pV 2))) aNil))) (dCall g_ltake [.bo 0, .ex (dS (pC (.int 2)))]))))) sSkip)
   (sSeq (sIf (dTest (dOp gEq (dS (pV 1)) (dS (pC (.int 1))))) (sRet (dOp gSub (dCall g_ltake [.bo 0, .ex (dS (pC (.int 2001)))]) (dS (pC (.int 1000))))) sSkip)
   (sRet (dOp gSub (dCall g_ltake [.bo 0, .ex (dS (pC (.int 9)))]) (dS (pC (.int 4))))))))
noncomputable def g_lnumber : GF := gOf 4 [1, 2, 3, 2] c_lnumber
noncomputable def c_show_row : DS := (sSeq (sSet 2 (dS (pC (.str ""))))
   (sSeq (sForI (iEnD 1 (dCp 1)) (gTupD 2 (gConsD (gNm 3) (gConsD (gNm 4) gNilD))) (sIf (dTest (dOp gNe (dS (pV 4)) (dS (pC (.int 0))))) (sSet 2 (dOp gAddS (dOp gAddS (dS (pV 2)) (dCall g_sign_ahead [.bo 4, .ex (dS (pOp gEq (pV 2) (pC (.str ""))))])) (dCall g_show_term [.bo 3, .bo 4]))) sSkip))
   (sRet (dIfE (dTest (dOp gNe (dS (pV 2)) (dS (pC (.str ""))))) (dS (pV 2)) (dS (pC (.str "0")))))))
noncomputable def g_show_row : GF := gOf 5 [2, 3, 4, 2] c_show_row
noncomputable def c_read_known : DS := (sSeq (sIf (dTest (dOp gGt (dS (pCall lenD [(pV 1)])) (dS (pC (.int 2))))) sNone sSkip)
   (sRet (dIfE (dTest (dOp gEq (dS (pCall lenD [(pV 1)])) (dS (pC (.int 2))))) (dCall g_read_group [.bo 0, .ex (dIx (dCp 1) (dS (pC (.int 1))))]) (dS (pC (.int 0))))))
noncomputable def g_read_known : GF := gOf 2 [] c_read_known
noncomputable def c_lrow : DS := (sSeq (sSet 3 (dLst aNil))
   (sSeq (sForI (iR2 (aCons (dS (pC (.int 1))) (aCons (dS (pOp gShl (pC (.int 1)) (pV 2))) aNil))) (gNm 4) (sSeq (sSet 5 (dCall g_lpile [.bo 0, .ex (dS (pOp gAdd (pV 1) (pV 4)))]))
   (sDrop (dAppV 3 (dOp gMul (dCall g_lnumber [.bo 5]) (dCallB intD (aCons (dOp gGt (dCall g_ltake [.bo 5, .ex (dS (pC (.int 3)))]) (dS (pC (.int 0)))) aNil)))))))
   (sRet (dMv 3))))
noncomputable def g_lrow : GF := gOf 6 [3, 4, 5] c_lrow
noncomputable def c_read_rest : DS := (sSeq (sSet 2 (dSplit (dS (pV 1)) (dS (pC (.str "|")))))
   (sSeq (sSet 3 (dCall g_read_known [.bo 0, .bo 2]))
   (sRet (dCall g_rest_row [.bo 0, .ex (dCall g_read_group [.bo 0, .ex (dS (pOp ixD (pV 2) (pC (.int 0))))]), .bo 3]))))
noncomputable def g_read_rest : GF := gOf 4 [2, 3] c_read_rest
noncomputable def c_read_form : DS := (sSeq (sIf (tAndD (dTest (dStarts (dS (pV 1)) (dS (pC (.str "h("))))) (dTest (dEnds (dS (pV 1)) (dS (pC (.str ")")))))) (sRet (dCall g_read_rest [.bo 0, .ex (dSlS (dS (pV 1)) (some (pC (.int 2))) (some (pNeg (pC (.int 1)))))])) sSkip)
   sNone)
noncomputable def g_read_form : GF := gOf 2 [] c_read_form
noncomputable def c_read_term : DS := (sSeq (sIf (dTest (dOp gEq (dS (pCall lenD [(pV 2)])) (dS (pC (.int 1))))) sNone (sIf (dTest (dOp gEq (dS (pCall lenD [(pV 2)])) (dS (pC (.int 2))))) (sSet 3 (dOp gMul (dS (pV 1)) (dCall g_read_count [.ex (dS (pOp ixD (pV 2) (pC (.int 0)))), .ex (dS (pC (.int 1)))]))) sNone))
   (sRet (dLc 1 (iLst (dCall g_read_form [.bo 0, .ex (dS (pOp ixD (pV 2) (pNeg (pC (.int 1)))))])) (gNm 4) tTrue (dS (pOp gMul (pV 3) (pV 4))))))
noncomputable def g_read_term : GF := gOf 4 [3] c_read_term
noncomputable def c_read_row : DS := (sSeq (sSet 2 (dRep (dLst (aCons (dS (pC (.int 0))) aNil)) (dCall g_all_names [.bo 0])))
   (sSeq (sIf (dTest (dOp gEq (dS (pV 1)) (dS (pC (.str "0"))))) (sRet (dMv 2)) sSkip)
   (sSeq (sForI (iLst (dCall g_signed_terms [.bo 1])) (gTupD 2 (gConsD (gNm 3) (gConsD (gNm 4) gNilD))) (sSet 2 (dLc 2 (iZipD (dCp 2) (dCall g_read_term [.bo 0, .bo 3, .bo 4])) (gTupD 2 (gConsD (gNm 5) (gConsD (gNm 6) gNilD))) tTrue (dS (pOp gAdd (pV 5) (pV 6))))))
   (sRet (dMv 2)))))
noncomputable def g_read_row : GF := gOf 5 [2, 3, 4, 2] c_read_row
noncomputable def c_lright : DS := (sSeq (sSet 2 (dListB (pV 1)))
   (sSeq (sSet 3 (dCall g_show_row [.bo 0, .bo 2]))
   (sSeq (sIf (tOrD (tNotD (dTest (dS (pCall isiD [(pV 3), (pC (.ty "str"))])))) (tOrD (dTest (dOp gNe (dS (pV 3)) (dCall g_lshown [.bo 1]))) (dTest (dS (pOp gNe (pV 2) (pV 1)))))) sNone sSkip)
   (sSeq (sForI (iR1 (aCons (dS (pC (.int 2))) aNil)) (gNm 4) (sSeq (sSet 5 (dCall g_read_row [.bo 0, .bo 3]))
   (sSeq (sIf (tNotD (dTest (dCall g_lsame [.bo 5, .bo 1]))) sNone sSkip)
   (sDrop (dClrV 5)))))
   (sRet (dS (pC (.bl true))))))))
noncomputable def g_lright : GF := gOf 6 [2, 3, 4, 5] c_lright
noncomputable def c_law : DS := (sSeq (sForI (iR1 (aCons (dS (pC (.int 4))) aNil)) (gNm 1) (sSeq (sSet 2 (dOp gAdd (dS (pC (.int 1))) (dCall g_ltake [.ex (dCall g_lpile [.bo 0, .ex (dS (pOp gMul (pC (.int 16)) (pV 1)))]), .ex (dS (pC (.int 4)))])))
   (sSeq (sSet 3 (dCall g_lrow [.bo 0, .ex (dS (pOp gMul (pC (.int 16)) (pV 1))), .bo 2]))
   (sIf (tOrD (tNotD (dTest (dCall g_lright [.bo 2, .bo 3]))) (tNotD (dTest (dCall g_lright [.bo 2, .ex (dRep (dLst (aCons (dS (pC (.int 0))) aNil)) (dS (pCall lenD [(pV 3)])))])))) sNone sSkip))))
   (sRet (dS (pC (.bl true)))))
noncomputable def g_law : GF := gOf 4 [1, 2, 3] c_law
set_option genInjectivity false
set_option genSizeOfSpec false
set_option genSizeOf false
structure Txt (K : PySem.W.Frag) (mg : Str -> Option Value) where
 a_read_number : Addr
 d_read_number : FuncData
 a_in_two : Addr
 d_in_two : FuncData
 a_all_names : Addr
 d_all_names : FuncData
 a_names_in : Addr
 d_names_in : FuncData
 a_sign_ahead : Addr
 d_sign_ahead : FuncData
 a_signed_terms : Addr
 d_signed_terms : FuncData
 a_lmixed : Addr
 d_lmixed : FuncData
 a_lpile : Addr
 d_lpile : FuncData
 a_lsame : Addr
 d_lsame : FuncData
 a_lletters : Addr
 d_lletters : FuncData
 a_row_of_terms : Addr
 d_row_of_terms : FuncData
 a_show_group : Addr
 d_show_group : FuncData
 a_read_whole : Addr
 d_read_whole : FuncData
 a_ltake : Addr
 d_ltake : FuncData
 a_lshown : Addr
 d_lshown : FuncData
 a_rest_row : Addr
 d_rest_row : FuncData
 a_shared_row : Addr
 d_shared_row : FuncData
 a_show_term : Addr
 d_show_term : FuncData
 a_read_count : Addr
 d_read_count : FuncData
 a_read_group : Addr
 d_read_group : FuncData
 a_lnumber : Addr
 d_lnumber : FuncData
 a_show_row : Addr
 d_show_row : FuncData
 a_read_known : Addr
 d_read_known : FuncData
 a_lrow : Addr
 d_lrow : FuncData
 a_read_rest : Addr
 d_read_rest : FuncData
 a_read_shared : Addr
 d_read_shared : FuncData
 a_read_form : Addr
 d_read_form : FuncData
 a_read_term : Addr
 d_read_term : FuncData
 a_read_row : Addr
 d_read_row : FuncData
 a_lright : Addr
 d_lright : FuncData
structure Tx {K : PySem.W.Frag} {mg : Str -> Option Value} (t : Txt K mg) : Prop where
 F_read_number : Fun K "read_number" "read_number" s_read_number t.a_read_number t.d_read_number
 m_read_number : mg "read_number" = some (.ref t.a_read_number)
 n_read_number : Binds K t.d_read_number ["text"] []
 F_in_two : Fun K "in_two" "in_two" s_in_two t.a_in_two t.d_in_two
 m_in_two : mg "in_two" = some (.ref t.a_in_two)
 n_in_two : Binds K t.d_in_two ["text", "sign"] []
 F_all_names : Fun K "all_names" "all_names" s_all_names t.a_all_names t.d_all_names
 m_all_names : mg "all_names" = some (.ref t.a_all_names)
 n_all_names : Binds K t.d_all_names ["n"] []
 F_names_in : Fun K "names_in" "names_in" s_names_in t.a_names_in t.d_names_in
 m_names_in : mg "names_in" = some (.ref t.a_names_in)
 n_names_in : Binds K t.d_names_in ["n", "group"] []
 F_sign_ahead : Fun K "sign_ahead" "sign_ahead" s_sign_ahead t.a_sign_ahead t.d_sign_ahead
 m_sign_ahead : mg "sign_ahead" = some (.ref t.a_sign_ahead)
 n_sign_ahead : Binds K t.d_sign_ahead ["number", "is_first"] []
 F_signed_terms : Fun K "signed_terms" "signed_terms" s_signed_terms t.a_signed_terms t.d_signed_terms
 m_signed_terms : mg "signed_terms" = some (.ref t.a_signed_terms)
 n_signed_terms : Binds K t.d_signed_terms ["text"] []
 F_lmixed : Fun K "_law_mixed" "_law_mixed" s_lmixed t.a_lmixed t.d_lmixed
 m_lmixed : mg "_law_mixed" = some (.ref t.a_lmixed)
 n_lmixed : Binds K t.d_lmixed ["_law_cell", "_law_k"] []
 F_lpile : Fun K "_law_pile" "_law_pile" s_lpile t.a_lpile t.d_lpile
 m_lpile : mg "_law_pile" = some (.ref t.a_lpile)
 n_lpile : Binds K t.d_lpile ["_law_script", "_law_k"] []
 F_lsame : Fun K "_law_same" "_law_same" s_lsame t.a_lsame t.d_lsame
 m_lsame : mg "_law_same" = some (.ref t.a_lsame)
 n_lsame : Binds K t.d_lsame ["_law_found", "_law_due"] []
 F_lletters : Fun K "_law_letters" "_law_letters" s_lletters t.a_lletters t.d_lletters
 m_lletters : mg "_law_letters" = some (.ref t.a_lletters)
 n_lletters : Binds K t.d_lletters ["_law_group"] []
 F_row_of_terms : Fun K "row_of_terms" "row_of_terms" s_row_of_terms t.a_row_of_terms t.d_row_of_terms
 m_row_of_terms : mg "row_of_terms" = some (.ref t.a_row_of_terms)
 n_row_of_terms : Binds K t.d_row_of_terms ["n", "terms"] []
 F_show_group : Fun K "show_group" "show_group" s_show_group t.a_show_group t.d_show_group
 m_show_group : mg "show_group" = some (.ref t.a_show_group)
 n_show_group : Binds K t.d_show_group ["group"] []
 F_read_whole : Fun K "read_whole" "read_whole" s_read_whole t.a_read_whole t.d_read_whole
 m_read_whole : mg "read_whole" = some (.ref t.a_read_whole)
 n_read_whole : Binds K t.d_read_whole ["text"] []
 F_ltake : Fun K "_law_take" "_law_take" s_ltake t.a_ltake t.d_ltake
 m_ltake : mg "_law_take" = some (.ref t.a_ltake)
 n_ltake : Binds K t.d_ltake ["_law_pile_here", "_law_many"] []
 F_lshown : Fun K "_law_shown" "_law_shown" s_lshown t.a_lshown t.d_lshown
 m_lshown : mg "_law_shown" = some (.ref t.a_lshown)
 n_lshown : Binds K t.d_lshown ["_law_row_here"] []
 F_rest_row : Fun K "rest_row" "rest_row" s_rest_row t.a_rest_row t.d_rest_row
 m_rest_row : mg "rest_row" = some (.ref t.a_rest_row)
 n_rest_row : Binds K t.d_rest_row ["n", "a", "b"] []
 F_shared_row : Fun K "shared_row" "shared_row" s_shared_row t.a_shared_row t.d_shared_row
 m_shared_row : mg "shared_row" = some (.ref t.a_shared_row)
 n_shared_row : Binds K t.d_shared_row ["n", "a", "b", "c"] []
 F_show_term : Fun K "show_term" "show_term" s_show_term t.a_show_term t.d_show_term
 m_show_term : mg "show_term" = some (.ref t.a_show_term)
 n_show_term : Binds K t.d_show_term ["group", "number"] []
 F_read_count : Fun K "read_count" "read_count" s_read_count t.a_read_count t.d_read_count
 m_read_count : mg "read_count" = some (.ref t.a_read_count)
 n_read_count : Binds K t.d_read_count ["text", "least"] []
 F_read_group : Fun K "read_group" "read_group" s_read_group t.a_read_group t.d_read_group
 m_read_group : mg "read_group" = some (.ref t.a_read_group)
 n_read_group : Binds K t.d_read_group ["n", "text"] []
 F_lnumber : Fun K "_law_number" "_law_number" s_lnumber t.a_lnumber t.d_lnumber
 m_lnumber : mg "_law_number" = some (.ref t.a_lnumber)
 n_lnumber : Binds K t.d_lnumber ["_law_pile_here"] []
 F_show_row : Fun K "show_row" "show_row" s_show_row t.a_show_row t.d_show_row
 m_show_row : mg "show_row" = some (.ref t.a_show_row)
 n_show_row : Binds K t.d_show_row ["n", "row"] []
 F_read_known : Fun K "read_known" "read_known" s_read_known t.a_read_known t.d_read_known
 m_read_known : mg "read_known" = some (.ref t.a_read_known)
 n_read_known : Binds K t.d_read_known ["n", "parts"] []
 F_lrow : Fun K "_law_row" "_law_row" s_lrow t.a_lrow t.d_lrow
 m_lrow : mg "_law_row" = some (.ref t.a_lrow)
 n_lrow : Binds K t.d_lrow ["_law_script", "_law_start", "_law_n"] []
 F_read_rest : Fun K "read_rest" "read_rest" s_read_rest t.a_read_rest t.d_read_rest
 m_read_rest : mg "read_rest" = some (.ref t.a_read_rest)
 n_read_rest : Binds K t.d_read_rest ["n", "text"] []
 F_read_shared : Fun K "read_shared" "read_shared" s_read_shared t.a_read_shared t.d_read_shared
 m_read_shared : mg "read_shared" = some (.ref t.a_read_shared)
 n_read_shared : Binds K t.d_read_shared ["n", "text"] []
 F_read_form : Fun K "read_form" "read_form" s_read_form t.a_read_form t.d_read_form
 m_read_form : mg "read_form" = some (.ref t.a_read_form)
 n_read_form : Binds K t.d_read_form ["n", "text"] []
 F_read_term : Fun K "read_term" "read_term" s_read_term t.a_read_term t.d_read_term
 m_read_term : mg "read_term" = some (.ref t.a_read_term)
 n_read_term : Binds K t.d_read_term ["n", "sign", "words"] []
 F_read_row : Fun K "read_row" "read_row" s_read_row t.a_read_row t.d_read_row
 m_read_row : mg "read_row" = some (.ref t.a_read_row)
 n_read_row : Binds K t.d_read_row ["n", "text"] []
 F_lright : Fun K "_law_right" "_law_right" s_lright t.a_lright t.d_lright
 m_lright : mg "_law_right" = some (.ref t.a_lright)
 n_lright : Binds K t.d_lright ["_law_n", "_law_row_here"] []
 b_abs : mg "abs" = none
 b_all : mg "all" = none
 b_bool : mg "bool" = none
 b_enumerate : mg "enumerate" = none
 b_int : mg "int" = none
 b_isinstance : mg "isinstance" = none
 b_len : mg "len" = none
 b_list : mg "list" = none
 b_range : mg "range" = none
 b_str : mg "str" = none
 b_zip : mg "zip" = none
 c_FIGURES : ∃ t, mg "FIGURES" = some (.str "0123456789" t)
 c_LETTERS : ∃ t, mg "LETTERS" = some (.str "abcd" t)
 c_MOST_FIGURES : ∃ t, mg "MOST_FIGURES" = some (.int 2000 t)
 c_MOST_NAMES : ∃ t, mg "MOST_NAMES" = some (.int 4 t)
section
variable {P : Program} {w : World} {K : PySem.W.Frag} {mg : Str -> Option Value} {base : Heap} {t : Txt K mg}
theorem ok_read_number (T : Tx t) : FnOk P w K mg base CX0 1 t.a_read_number t.d_read_number ["text"] (spD K 1 g_read_number) := by
 refine fn_D (N := ["text", "figures"]) (W := [1]) T.F_read_number sc_read_number dC fun cdv A outer s H E hr => ?_
 have hu := hr.units;exact (qss_cons (qs_set 1 sc_read_number.nd (qe_if (qt_e (qe_starts (qe_s (qb_v 0)) (qe_s qb_str))) (qe_slS (qe_cp 0) (qo_some qb_int) qo_none) (qe_s (qb_v 0))))
   (qss_cons (qs_if (qw_t (qw_or (qt_cmp o_lt (qe_s (qb_fn (id := "len") c_len (by rfl) T.b_len (by decide +kernel) (qba_cons (qb_v 1) qba_nil))) (qe_s qb_int) (nomark _)) (qw_or (qt_cmp o_gt (qe_s (qb_fn (id := "len") c_len (by rfl) T.b_len (by decide +kernel) (qba_cons (qb_v 1) qba_nil))) (qe_s (qb_glob (by rfl) T.c_MOST_FIGURES)) (nomark _)) (qw_or1 (qt_not (qt_e (qe_fn (id := "all") (c_all (by rfl)) (by rfl) T.b_all (by decide +kernel) (qa_cons (lc_e ["text", "figures", "sign"] (qi_str (qe_s (qb_v 1))) (fun _ _ _ _ _ => by exact (qg_name 2 (show List.Nodup (["text", "figures", "sign"] : List Str) by decide +kernel))) (fun _ _ _ _ _ => by exact qif_nil) (fun _ _ _ _ _ => by exact (qe_s (qb_cmp o_inS (qb_v 2) (qb_globS (by rfl) T.c_FIGURES) (by rfl))))) qa_nil)))))))) qss_never qss_nil)
   (qss_cons (qs_if (qw_t (qw_and (qt_cmp (o_eq hu) (qe_s (qb_ix (hs := plainC) (qb_v 1) qb_int)) (qe_s qb_str) (nomark _)) (qw_and1 (qt_cmpB (o_ne hu) (qb_v 0) qb_str (nomark _))))) qss_never qss_nil)
   (qss_one (qs_ret (qe_s (qb_ty (T := "int") c_intT (by rfl) T.b_int (by decide +kernel) (qba_cons (qb_v 0) qba_nil))))))))
theorem ok_all_names (T : Tx t) : FnOk P w K mg base CX0 1 t.a_all_names t.d_all_names ["n"] (spD K 1 g_all_names) := by
 refine fn_D (N := ["n"]) (W := []) T.F_all_names sc_all_names dC fun cdv A outer s H E hr => ?_
 have hu := hr.units;exact (qss_one (qs_ret (qe_s (qb_op o_sub (qb_op o_shl qb_int (qb_v 0)) qb_int))))
theorem ok_names_in (T : Tx t) : FnOk P w K mg base CX0 1 t.a_names_in t.d_names_in ["n", "group"] (spD K 2 g_names_in) := by
 refine fn_D (N := ["n", "group"]) (W := []) T.F_names_in sc_names_in dC fun cdv A outer s H E hr => ?_
 have hu := hr.units;exact (qss_one (qs_ret (lc_e ["n", "group", "k"] (qi_r1 (by rfl) T.b_range (qa_cons (qe_s (qb_v 0)) qa_nil)) (fun _ _ _ _ _ => by exact (qg_name 2 (show List.Nodup (["n", "group", "k"] : List Str) by decide +kernel))) (fun _ _ _ _ _ => by exact (qif_one (qt_cmp (o_ne hu) (qe_s (qb_op o_and (qb_v 1) (qb_op o_shl qb_int (qb_v 2)))) (qe_s qb_int) (nomark _)))) (fun _ _ _ _ _ => by exact (qe_s (qb_v 2))))))
theorem ok_sign_ahead (T : Tx t) : FnOk P w K mg base CX0 1 t.a_sign_ahead t.d_sign_ahead ["number", "is_first"] (spD K 2 g_sign_ahead) := by
 refine fn_D (N := ["number", "is_first"]) (W := []) T.F_sign_ahead sc_sign_ahead dC fun cdv A outer s H E hr => ?_
 have hu := hr.units;exact (qss_cons (qs_if (qt_e (qe_s (qb_v 1))) (qss_one (qs_ret (qe_if (qt_cmp o_lt (qe_s (qb_v 0)) (qe_s qb_int) (nomark _)) (qe_s qb_str) (qe_s qb_str)))) qss_nil)
   (qss_one (qs_ret (qe_if (qt_cmp o_lt (qe_s (qb_v 0)) (qe_s qb_int) (nomark _)) (qe_s qb_str) (qe_s qb_str)))))
theorem ok_signed_terms (T : Tx t) : FnOk P w K mg base CX0 1 t.a_signed_terms t.d_signed_terms ["text"] (spD K 1 g_signed_terms) := by
 refine fn_D (N := ["text", "signs", "terms", "word"]) (W := [1, 2, 3]) T.F_signed_terms sc_signed_terms dC fun cdv A outer s H E hr => ?_
 have hu := hr.units;exact (qss_cons (qs_set 1 sc_signed_terms.nd (qe_lst (qa_cons (qe_if (qt_e (qe_starts (qe_s (qb_v 0)) (qe_s qb_str))) (qe_s (qb_neg qb_int)) (qe_s qb_int)) qa_nil)))
   (qss_cons (qs_set 2 sc_signed_terms.nd (qe_lst (qa_cons (qe_lst qa_nil) qa_nil)))
   (qss_cons (qs_forI (by rfl) (qi_lst (qe_split (qe_if (qt_cmp (o_eq hu) (qe_s (qb_ix (hs := plainC) (qb_v 1) qb_int)) (qe_s (qb_neg qb_int)) (nomark _)) (qe_slS (qe_s (qb_v 0)) (qo_some qb_int) qo_none) (qe_s (qb_v 0))) (qe_s qb_str))) (qg_name 3 sc_signed_terms.nd) (qss_one (qs_if (qw_t (qw_or (qt_cmp (o_eq hu) (qe_s (qb_v 3)) (qe_s qb_str) (nomark _)) (qw_or1 (qt_cmp (o_eq hu) (qe_s (qb_v 3)) (qe_s qb_str) (nomark _))))) (qss_cons (qs_expr (qe_appV 1 (qe_if (qt_cmp (o_eq hu) (qe_s (qb_v 3)) (qe_s qb_str) (nomark _)) (qe_s qb_int) (qe_s (qb_neg qb_int)))))
   (qss_one (qs_expr (qe_appV 2 (qe_lst qa_nil))))) (qss_one (qs_expr (qe_appP (qp_ix (qp_v 2) (qb_neg qb_int)) (qb_v 3)))))) PassesOwn.never)
   (qss_one (qs_ret (qe_listzip (by rfl) (by rfl) T.b_list (by rfl) T.b_zip (qa_cons (qe_cp 1) (qa_cons (qe_cp 2) qa_nil))))))))
theorem ok_lmixed (T : Tx t) : FnOk P w K mg base CX0 1 t.a_lmixed t.d_lmixed ["_law_cell", "_law_k"] (spD K 2 g_lmixed) := by
 refine fn_D (N := ["_law_cell", "_law_k", "_law_number_here"]) (W := [2, 2]) T.F_lmixed sc_lmixed dC fun cdv A outer s H E hr => ?_
 have hu := hr.units;exact (qss_cons (qs_set 2 sc_lmixed.nd (qe_s (qb_op o_mod (qb_op o_add (qb_op o_add (qb_op o_mul (qb_op o_mod (qb_v 0) qb_int) qb_int) (qb_op o_mul (qb_v 1) qb_int)) qb_int) qb_int)))
   (qss_cons (qs_set 2 sc_lmixed.nd (qe_s (qb_op o_mod (qb_op o_mul (qb_v 2) (qb_v 2)) qb_int)))
   (qss_one (qs_ret (qe_s (qb_op o_mod (qb_op o_mul (qb_v 2) (qb_v 2)) qb_int))))))
theorem ok_lpile (T : Tx t) : FnOk P w K mg base CX0 1 t.a_lpile t.d_lpile ["_law_script", "_law_k"] (spD K 2 g_lpile) := by
 refine fn_D (N := ["_law_script", "_law_k", "_law_cell"]) (W := [2, 2]) T.F_lpile sc_lpile dC fun cdv A outer s H E hr => ?_
 have hu := hr.units;exact (qss_cons (qs_set 2 sc_lpile.nd (qe_s qb_int))
   (qss_cons (qs_if (qt_cmp o_lt (qe_s (qb_v 1)) (qe_s (qb_fn (id := "len") c_len (by rfl) T.b_len (by decide +kernel) (qba_cons (qb_v 0) qba_nil))) (nomark _)) (qss_one (qs_set 2 sc_lpile.nd (qe_s (qb_ix (qb_v 0) (qb_v 1))))) qss_nil)
   (qss_one (qs_ret (qe_lst (qa_cons (qe_s (qb_op o_mul (qb_v 2) (qb_ty (T := "int") c_int (by rfl) T.b_int (by decide +kernel) (qba_cons (qb_cmp o_ge (qb_fn (id := "abs") c_abs (by rfl) T.b_abs (by decide +kernel) (qba_cons (qb_v 2) qba_nil)) (qb_op o_pow qb_int qb_int) (nomark _)) qba_nil)))) (qa_cons (qe_s (qb_v 2)) (qa_cons (qe_s (qb_op o_mul qb_int (qb_v 1))) qa_nil))))))))
theorem ok_lsame (T : Tx t) : FnOk P w K mg base CX0 1 t.a_lsame t.d_lsame ["_law_found", "_law_due"] (spD K 2 g_lsame) := by
 refine fn_D (N := ["_law_found", "_law_due"]) (W := []) T.F_lsame sc_lsame dC fun cdv A outer s H E hr => ?_
 have hu := hr.units;exact (qss_cons (qs_if (qw_t (qw_or (qt_not (qt_e (qe_s (qb_fn (id := "isinstance") c_isi (by rfl) T.b_isinstance (by decide +kernel) (qba_cons (qb_v 0) (qba_cons (qb_tyname (T := "list") (by rfl) T.b_list (by decide +kernel)) qba_nil)))))) (qw_or1 (qt_cmpB (o_ne hu) (qb_v 0) (qb_v 1) (nomark _))))) qss_never qss_nil)
   (qss_one (qs_ret (qe_cmp (o_eq hu) (qe_hide 1 (qe_thaw 0 (lc_e ["_law_found", "_law_due", "_law_one"] (qi_lst (qe_cp 0)) (fun _ _ _ _ _ => by exact (qg_name 2 (show List.Nodup (["_law_found", "_law_due", "_law_one"] : List Str) by decide +kernel))) (fun _ _ _ _ _ => by exact (qif_one (qw_t (qw_or (qt_e (qe_s (qb_fn (id := "isinstance") c_isi (by rfl) T.b_isinstance (by decide +kernel) (qba_cons (qb_v 2) (qba_cons (qb_tyname (T := "bool") (by rfl) T.b_bool (by decide +kernel)) qba_nil))))) (qw_or1 (qt_not (qt_e (qe_s (qb_fn (id := "isinstance") c_isi (by rfl) T.b_isinstance (by decide +kernel) (qba_cons (qb_v 2) (qba_cons (qb_tyname (T := "int") (by rfl) T.b_int (by decide +kernel)) qba_nil))))))))))) (fun _ _ _ _ _ => by exact (qe_cp 2))))) (qe_lst qa_nil) (nomark _)))))
theorem ok_lletters (T : Tx t) : FnOk P w K mg base CX0 1 t.a_lletters t.d_lletters ["_law_group"] (spD K 1 g_lletters) := by
 refine fn_D (N := ["_law_group"]) (W := []) T.F_lletters sc_lletters dC fun cdv A outer s H E hr => ?_
 have hu := hr.units;exact (qss_one (qs_ret (qe_join (qe_s qb_str) (lc_e ["_law_group", "_law_name", "_law_letter"] (qi_enumStr (by rfl) T.b_enumerate (qe_s qb_str)) (fun _ _ _ _ _ => by exact (qg_tup (by rfl) (qgs_cons (qg_name 1 (show List.Nodup (["_law_group", "_law_name", "_law_letter"] : List Str) by decide +kernel)) (qgs_cons (qg_name 2 (show List.Nodup (["_law_group", "_law_name", "_law_letter"] : List Str) by decide +kernel)) qgs_nil)))) (fun _ _ _ _ _ => by exact (qif_one (qt_cmp (o_eq hu) (qe_s (qb_op o_and (qb_op o_shr (qb_v 0) (qb_v 1)) qb_int)) (qe_s qb_int) (nomark _)))) (fun _ _ _ _ _ => by exact (qe_s (qb_v 2)))))))
theorem ok_row_of_terms (T : Tx t) : FnOk P w K mg base CX0 2 t.a_row_of_terms t.d_row_of_terms ["n", "terms"] (spD K 2 g_row_of_terms) := by
 have G_all_names := ok_all_names (P := P) (w := w) (base := base) T;refine fn_D (N := ["n", "terms", "row", "group", "number"]) (W := [2, 3, 4]) T.F_row_of_terms sc_row_of_terms dC fun cdv A outer s H E hr => ?_
 have hu := hr.units;exact (qss_cons (qs_set 2 sc_row_of_terms.nd (qe_rep (qe_lst (qa_cons (qe_s qb_int) qa_nil)) (qe_call G_all_names (hr.mono dC) (by rfl) T.m_all_names T.F_all_names.kp T.n_all_names (qm_bo 0 qm_nil))))
   (qss_cons (qs_forI (by rfl) (qi_lst (qe_cp 1)) (qg_tup (by rfl) (qgs_cons (qg_name 3 sc_row_of_terms.nd) (qgs_cons (qg_name 4 sc_row_of_terms.nd) qgs_nil))) (qss_one (qs_if (qt_cmp (o_ne hu) (qe_s (qb_v 3)) (qe_s qb_int) (nomark _)) (qss_one (qs_augS oi_add (qp_v 2) (qb_op o_sub (qb_v 3) qb_int) (qb_v 4))) qss_nil)) PassesOwn.never)
   (qss_one (qs_ret (qe_mv 2)))))
theorem ok_show_group (T : Tx t) : FnOk P w K mg base CX0 2 t.a_show_group t.d_show_group ["group"] (spD K 1 g_show_group) := by
 have G_names_in := ok_names_in (P := P) (w := w) (base := base) T;refine fn_D (N := ["group"]) (W := []) T.F_show_group sc_show_group dC fun cdv A outer s H E hr => ?_
 have hu := hr.units;exact (qss_one (qs_ret (qe_join (qe_s qb_str) (lc_e ["group", "name"] (qi_lst (qe_call G_names_in (hr.mono dC) (by rfl) T.m_names_in T.F_names_in.kp T.n_names_in (qm_ex (qe_s (qb_glob (by rfl) T.c_MOST_NAMES)) (qm_bo 0 qm_nil)))) (fun _ _ _ _ _ => by exact (qg_name 1 (show List.Nodup (["group", "name"] : List Str) by decide +kernel))) (fun _ _ _ _ _ => by exact qif_nil) (fun _ _ _ _ _ => by exact (qe_s (qb_ix (qb_globS (by rfl) T.c_LETTERS) (qb_v 1))))))))
theorem ok_read_whole (T : Tx t) : FnOk P w K mg base CX0 2 t.a_read_whole t.d_read_whole ["text"] (spD K 1 g_read_whole) := by
 have G_read_number := ok_read_number (P := P) (w := w) (base := base) T;refine fn_D (N := ["text", "number"]) (W := [1]) T.F_read_whole sc_read_whole dC fun cdv A outer s H E hr => ?_
 have hu := hr.units;exact (qss_cons (qs_set 1 sc_read_whole.nd (qe_call G_read_number (hr.mono dC) (by rfl) T.m_read_number T.F_read_number.kp T.n_read_number (qm_bo 0 qm_nil)))
   (qss_cons (qs_if (qt_cmp o_ge (qe_s (qb_fn (id := "abs") c_abs (by rfl) T.b_abs (by decide +kernel) (qba_cons (qb_v 1) qba_nil))) (qe_s (qb_op o_pow qb_int qb_int)) (nomark _)) qss_never qss_nil)
   (qss_one (qs_ret (qe_s (qb_v 1))))))
theorem ok_ltake (T : Tx t) : FnOk P w K mg base CX0 2 t.a_ltake t.d_ltake ["_law_pile_here", "_law_many"] (spD K 2 g_ltake) := by
 have G_lmixed := ok_lmixed (P := P) (w := w) (base := base) T;refine fn_D (N := ["_law_pile_here", "_law_many", "_law_digit"]) (W := [2]) T.F_ltake sc_ltake dC fun cdv A outer s H E hr => ?_
 have hu := hr.units;exact (qss_cons (qs_if (qt_cmpB (o_in hu) (qb_ix (hs := plainC) (qb_v 0) qb_int) (qb_lst (qba_cons qb_int (qba_cons (qb_neg qb_int) qba_nil))) (by rfl)) (qss_cons (qs_asg (qe_s (qb_op o_add (qb_ix (hs := plainC) (qb_v 0) qb_int) qb_int)) (qg_set (qp_v 0) qb_int))
   (qss_one (qs_ret (qe_op o_mod (qe_call G_lmixed (hr.mono dC) (by rfl) T.m_lmixed T.F_lmixed.kp T.n_lmixed (qm_ex (qe_s (qb_ix (hs := plainC) (qb_v 0) qb_int)) (qm_ex (qe_s (qb_ix (hs := plainC) (qb_v 0) qb_int)) qm_nil))) (qe_s (qb_v 1)))))) qss_nil)
   (qss_cons (qs_set 2 sc_ltake.nd (qe_s (qb_op o_mod (qb_ix (hs := plainC) (qb_v 0) qb_int) (qb_v 1))))
   (qss_cons (qs_asg (qe_s (qb_op o_fdv (qb_ix (hs := plainC) (qb_v 0) qb_int) (qb_v 1))) (qg_set (qp_v 0) qb_int))
   (qss_one (qs_ret (qe_s (qb_v 2)))))))
theorem ok_lshown (T : Tx t) : FnOk P w K mg base CX0 2 t.a_lshown t.d_lshown ["_law_row_here"] (spD K 1 g_lshown) := by
 have G_lletters := ok_lletters (P := P) (w := w) (base := base) T;refine fn_D (N := ["_law_row_here", "_law_words", "_law_place", "_law_number_here", "_law_sign", "_law_text"]) (W := [1, 2, 3, 4, 5]) T.F_lshown sc_lshown dC fun cdv A outer s H E hr => ?_
 have hu := hr.units;exact (qss_cons (qs_set 1 sc_lshown.nd (qe_lst qa_nil))
   (qss_cons (qs_forI (by rfl) (qi_enum (by rfl) T.b_enumerate (qe_cp 0)) (qg_tup (by rfl) (qgs_cons (qg_name 2 sc_lshown.nd) (qgs_cons (qg_name 3 sc_lshown.nd) qgs_nil))) (qss_one (qs_if (qt_cmp (o_ne hu) (qe_s (qb_v 3)) (qe_s qb_int) (nomark _)) (qss_cons (qs_set 4 sc_lshown.nd (qe_s (qb_ix (qb_lst (qba_cons qb_str (qba_cons qb_str qba_nil))) (qb_ty (T := "int") c_int (by rfl) T.b_int (by decide +kernel) (qba_cons (qb_cmp o_lt (qb_v 3) qb_int (nomark _)) qba_nil)))))
   (qss_one (qs_expr (qe_appV 1 (qe_op o_addS (qe_op o_addS (qe_s (qb_op o_addS (qb_op o_addS (qb_v 4) (qb_ty (T := "str") c_strI (by rfl) T.b_str (by decide +kernel) (qba_cons (qb_fn (id := "abs") c_abs (by rfl) T.b_abs (by decide +kernel) (qba_cons (qb_v 3) qba_nil)) qba_nil))) qb_str)) (qe_call G_lletters (hr.mono dC) (by rfl) T.m_lletters T.F_lletters.kp T.n_lletters (qm_ex (qe_s (qb_op o_add (qb_v 2) qb_int)) qm_nil))) (qe_s qb_str)))))) qss_nil)) PassesOwn.never)
   (qss_cons (qs_set 5 sc_lshown.nd (qe_join (qe_s qb_str) (qe_cp 1)))
   (qss_cons (qs_if (qt_cmp (o_eq hu) (qe_s (qb_v 5)) (qe_s qb_str) (nomark _)) (qss_one (qs_ret (qe_s qb_str))) qss_nil)
   (qss_cons (qs_if (qt_cmp (o_eq hu) (qe_s (qb_ix (hs := plainC) (qb_v 5) qb_int)) (qe_s qb_str) (nomark _)) (qss_one (qs_ret (qe_op o_addS (qe_s qb_str) (qe_slS (qe_s (qb_v 5)) (qo_some qb_int) qo_none)))) qss_nil)
   (qss_one (qs_ret (qe_slS (qe_s (qb_v 5)) (qo_some qb_int) qo_none))))))))
theorem ok_rest_row (T : Tx t) : FnOk P w K mg base CX0 3 t.a_rest_row t.d_rest_row ["n", "a", "b"] (spD K 3 g_rest_row) := by
 have G_row_of_terms := ok_row_of_terms (P := P) (w := w) (base := base) T;refine fn_D (N := ["n", "a", "b"]) (W := []) T.F_rest_row sc_rest_row dC fun cdv A outer s H E hr => ?_
 have hu := hr.units;exact (qss_one (qs_ret (qe_call G_row_of_terms (hr.mono dC) (by rfl) T.m_row_of_terms T.F_row_of_terms.kp T.n_row_of_terms (qm_bo 0 (qm_ex (qe_lst (qa_cons (qe_tup (qa_cons (qe_s (qb_op o_or (qb_v 1) (qb_v 2))) (qa_cons (qe_s qb_int) qa_nil))) (qa_cons (qe_tup (qa_cons (qe_s (qb_v 2)) (qa_cons (qe_s (qb_neg qb_int)) qa_nil))) qa_nil))) qm_nil)))))
theorem ok_show_term (T : Tx t) : FnOk P w K mg base CX0 3 t.a_show_term t.d_show_term ["group", "number"] (spD K 2 g_show_term) := by
 have G_show_group := ok_show_group (P := P) (w := w) (base := base) T;refine fn_D (N := ["group", "number", "size", "letters"]) (W := [2, 3]) T.F_show_term sc_show_term dC fun cdv A outer s H E hr => ?_
 have hu := hr.units;exact (qss_cons (qs_set 2 sc_show_term.nd (qe_s (qb_fn (id := "abs") c_abs (by rfl) T.b_abs (by decide +kernel) (qba_cons (qb_v 1) qba_nil))))
   (qss_cons (qs_set 3 sc_show_term.nd (qe_call G_show_group (hr.mono dC) (by rfl) T.m_show_group T.F_show_group.kp T.n_show_group (qm_bo 0 qm_nil)))
   (qss_one (qs_ret (qe_fs (qf_cons (qe_fv (qe_s (qb_v 2))) (qf_cons (qe_s qb_str) (qf_cons (qe_fv (qe_s (qb_v 3))) (qf_cons (qe_s qb_str) qf_nil)))))))))
theorem ok_read_count (T : Tx t) : FnOk P w K mg base CX0 3 t.a_read_count t.d_read_count ["text", "least"] (spD K 2 g_read_count) := by
 have G_read_whole := ok_read_whole (P := P) (w := w) (base := base) T;refine fn_D (N := ["text", "least", "number"]) (W := [2]) T.F_read_count sc_read_count dC fun cdv A outer s H E hr => ?_
 have hu := hr.units;exact (qss_cons (qs_set 2 sc_read_count.nd (qe_call G_read_whole (hr.mono dC) (by rfl) T.m_read_whole T.F_read_whole.kp T.n_read_whole (qm_bo 0 qm_nil)))
   (qss_cons (qs_if (qt_cmp o_lt (qe_s (qb_v 2)) (qe_s (qb_v 1)) (nomark _)) qss_never qss_nil)
   (qss_one (qs_ret (qe_s (qb_v 2))))))
theorem ok_read_group (T : Tx t) : FnOk P w K mg base CX0 3 t.a_read_group t.d_read_group ["n", "text"] (spD K 2 g_read_group) := by
 have G_all_names := ok_all_names (P := P) (w := w) (base := base) T;have G_show_group := ok_show_group (P := P) (w := w) (base := base) T;refine fn_D (N := ["n", "text", "group"]) (W := [2]) T.F_read_group sc_read_group dC fun cdv A outer s H E hr => ?_
 have hu := hr.units;exact (qss_cons (qs_forI (by rfl) (qi_r2 (by rfl) T.b_range (qa_cons (qe_s qb_int) (qa_cons (qe_op o_add (qe_call G_all_names (hr.mono dC) (by rfl) T.m_all_names T.F_all_names.kp T.n_all_names (qm_bo 0 qm_nil)) (qe_s qb_int)) qa_nil))) (qg_name 2 sc_read_group.nd) (qss_one (qs_if (qt_cmp (o_eq hu) (qe_call G_show_group (hr.mono dC) (by rfl) T.m_show_group T.F_show_group.kp T.n_show_group (qm_bo 2 qm_nil)) (qe_s (qb_v 1)) (nomark _)) (qss_one (qs_ret (qe_s (qb_v 2)))) qss_nil)) PassesOwn.never)
   qss_never)
theorem ok_lnumber (T : Tx t) : FnOk P w K mg base CX0 3 t.a_lnumber t.d_lnumber ["_law_pile_here"] (spD K 1 g_lnumber) := by
 have G_ltake := ok_ltake (P := P) (w := w) (base := base) T;refine fn_D (N := ["_law_pile_here", "_law_way", "_law_number_here", "_law_k"]) (W := [1, 2, 3, 2]) T.F_lnumber sc_lnumber dC fun cdv A outer s H E hr => ?_
 have hu := hr.units;exact (qss_cons (qs_set 1 sc_lnumber.nd (qe_call G_ltake (hr.mono dC) (by rfl) T.m_ltake T.F_ltake.kp T.n_ltake (qm_bo 0 (qm_ex (qe_s qb_int) qm_nil))))
   (qss_cons (qs_if (qt_cmp (o_eq hu) (qe_s (qb_v 1)) (qe_s qb_int) (nomark _)) (qss_cons (qs_set 2 sc_lnumber.nd (qe_s qb_int))
   (qss_cons (qs_forI (by rfl) (qi_r1 (by rfl) T.b_range (qa_cons (qe_s qb_int) qa_nil)) (qg_name 3 sc_lnumber.nd) (qss_one (qs_set 2 sc_lnumber.nd (qe_op o_add (qe_s (qb_op o_mul (qb_v 2) (qb_op o_pow qb_int qb_int))) (qe_call G_ltake (hr.mono dC) (by rfl) T.m_ltake T.F_ltake.kp T.n_ltake (qm_bo 0 (qm_ex (qe_s (qb_op o_pow qb_int qb_int)) qm_nil)))))) PassesOwn.never)
   (qss_one (qs_ret (qe_ix (qe_lst (qa_cons (qe_s (qb_v 2)) (qa_cons (qe_s (qb_neg (qb_v 2))) qa_nil))) (qe_call G_ltake (hr.mono dC) (by rfl) T.m_ltake T.F_ltake.kp T.n_ltake (qm_bo 0 (qm_ex (qe_s qb_int) qm_nil)))))))) qss_nil)
   (qss_cons (qs_if (qt_cmp (o_eq hu) (qe_s (qb_v 1)) (qe_s qb_int) (nomark _)) (qss_one (qs_ret (qe_op o_sub (qe_call G_ltake (hr.mono dC) (by rfl) T.m_ltake T.F_ltake.kp T.n_ltake (qm_bo 0 (qm_ex (qe_s qb_int) qm_nil))) (qe_s qb_int)))) qss_nil)
   (qss_one (qs_ret (qe_op o_sub (qe_call G_ltake (hr.mono dC) (by rfl) T.m_ltake T.F_ltake.kp T.n_ltake (qm_bo 0 (qm_ex (qe_s qb_int) qm_nil))) (qe_s qb_int)))))))
theorem ok_show_row (T : Tx t) : FnOk P w K mg base CX0 4 t.a_show_row t.d_show_row ["n", "row"] (spD K 2 g_show_row) := by
 have G_show_term := ok_show_term (P := P) (w := w) (base := base) T;have G_sign_ahead := ok_sign_ahead (P := P) (w := w) (base := base) T;refine fn_D (N := ["n", "row", "shown", "group", "number"]) (W := [2, 3, 4, 2]) T.F_show_row sc_show_row dC fun cdv A outer s H E hr => ?_
 have hu := hr.units;exact (qss_cons (qs_set 2 sc_show_row.nd (qe_s qb_str))
   (qss_cons (qs_forI (by rfl) (qi_enumS 1 (by rfl) T.b_enumerate (qe_cp 1)) (qg_tup (by rfl) (qgs_cons (qg_name 3 sc_show_row.nd) (qgs_cons (qg_name 4 sc_show_row.nd) qgs_nil))) (qss_one (qs_if (qt_cmp (o_ne hu) (qe_s (qb_v 4)) (qe_s qb_int) (nomark _)) (qss_one (qs_set 2 sc_show_row.nd (qe_op o_addS (qe_op o_addS (qe_s (qb_v 2)) (qe_call G_sign_ahead (hr.mono dC) (by rfl) T.m_sign_ahead T.F_sign_ahead.kp T.n_sign_ahead (qm_bo 4 (qm_ex (qe_s (qb_cmp (o_eq hu) (qb_v 2) qb_str (nomark _))) qm_nil)))) (qe_call G_show_term (hr.mono dC) (by rfl) T.m_show_term T.F_show_term.kp T.n_show_term (qm_bo 3 (qm_bo 4 qm_nil)))))) qss_nil)) PassesOwn.never)
   (qss_one (qs_ret (qe_if (qt_cmp (o_ne hu) (qe_s (qb_v 2)) (qe_s qb_str) (nomark _)) (qe_s (qb_v 2)) (qe_s qb_str))))))
theorem ok_read_known (T : Tx t) : FnOk P w K mg base CX0 4 t.a_read_known t.d_read_known ["n", "parts"] (spD K 2 g_read_known) := by
 have G_read_group := ok_read_group (P := P) (w := w) (base := base) T;refine fn_D (N := ["n", "parts"]) (W := []) T.F_read_known sc_read_known dC fun cdv A outer s H E hr => ?_
 have hu := hr.units;exact (qss_cons (qs_if (qt_cmp o_gt (qe_s (qb_fn (id := "len") c_len (by rfl) T.b_len (by decide +kernel) (qba_cons (qb_v 1) qba_nil))) (qe_s qb_int) (nomark _)) qss_never qss_nil)
   (qss_one (qs_ret (qe_if (qt_cmp (o_eq hu) (qe_s (qb_fn (id := "len") c_len (by rfl) T.b_len (by decide +kernel) (qba_cons (qb_v 1) qba_nil))) (qe_s qb_int) (nomark _)) (qe_call G_read_group (hr.mono dC) (by rfl) T.m_read_group T.F_read_group.kp T.n_read_group (qm_bo 0 (qm_ex (qe_ix (qe_cp 1) (qe_s qb_int)) qm_nil))) (qe_s qb_int)))))
theorem ok_lrow (T : Tx t) : FnOk P w K mg base CX0 4 t.a_lrow t.d_lrow ["_law_script", "_law_start", "_law_n"] (spD K 3 g_lrow) := by
 have G_lnumber := ok_lnumber (P := P) (w := w) (base := base) T;have G_lpile := ok_lpile (P := P) (w := w) (base := base) T;have G_ltake := ok_ltake (P := P) (w := w) (base := base) T;refine fn_D (N := ["_law_script", "_law_start", "_law_n", "_law_row_here", "_law_g", "_law_pile_here"]) (W := [3, 4, 5]) T.F_lrow sc_lrow dC fun cdv A outer s H E hr => ?_
 have hu := hr.units;exact (qss_cons (qs_set 3 sc_lrow.nd (qe_lst qa_nil))
   (qss_cons (qs_forI (by rfl) (qi_r2 (by rfl) T.b_range (qa_cons (qe_s qb_int) (qa_cons (qe_s (qb_op o_shl qb_int (qb_v 2))) qa_nil))) (qg_name 4 sc_lrow.nd) (qss_cons (qs_set 5 sc_lrow.nd (qe_call G_lpile (hr.mono dC) (by rfl) T.m_lpile T.F_lpile.kp T.n_lpile (qm_bo 0 (qm_ex (qe_s (qb_op o_add (qb_v 1) (qb_v 4))) qm_nil))))
   (qss_one (qs_expr (qe_appV 3 (qe_op o_mul (qe_call G_lnumber (hr.mono dC) (by rfl) T.m_lnumber T.F_lnumber.kp T.n_lnumber (qm_bo 5 qm_nil)) (qe_ty (T := "int") c_int (by rfl) T.b_int (by decide +kernel) (qa_cons (qe_cmp o_gt (qe_call G_ltake (hr.mono dC) (by rfl) T.m_ltake T.F_ltake.kp T.n_ltake (qm_bo 5 (qm_ex (qe_s qb_int) qm_nil))) (qe_s qb_int) (nomark _)) qa_nil))))))) PassesOwn.never)
   (qss_one (qs_ret (qe_mv 3)))))
theorem ok_read_rest (T : Tx t) : FnOk P w K mg base CX0 5 t.a_read_rest t.d_read_rest ["n", "text"] (spD K 2 g_read_rest) := by
 have G_read_group := ok_read_group (P := P) (w := w) (base := base) T;have G_read_known := ok_read_known (P := P) (w := w) (base := base) T;have G_rest_row := ok_rest_row (P := P) (w := w) (base := base) T;refine fn_D (N := ["n", "text", "parts", "known"]) (W := [2, 3]) T.F_read_rest sc_read_rest dC fun cdv A outer s H E hr => ?_
 have hu := hr.units;exact (qss_cons (qs_set 2 sc_read_rest.nd (qe_split (qe_s (qb_v 1)) (qe_s qb_str)))
   (qss_cons (qs_set 3 sc_read_rest.nd (qe_call G_read_known (hr.mono dC) (by rfl) T.m_read_known T.F_read_known.kp T.n_read_known (qm_bo 0 (qm_bo 2 qm_nil))))
   (qss_one (qs_ret (qe_call G_rest_row (hr.mono dC) (by rfl) T.m_rest_row T.F_rest_row.kp T.n_rest_row (qm_bo 0 (qm_ex (qe_call G_read_group (hr.mono dC) (by rfl) T.m_read_group T.F_read_group.kp T.n_read_group (qm_bo 0 (qm_ex (qe_s (qb_ix (hs := plainC) (qb_v 2) qb_int)) qm_nil))) (qm_bo 3 qm_nil))))))))
theorem ok_read_form (T : Tx t) : FnOk P w K mg base CX0 6 t.a_read_form t.d_read_form ["n", "text"] (spD K 2 g_read_form) := by
 have G_read_rest := ok_read_rest (P := P) (w := w) (base := base) T;refine fn_D (N := ["n", "text"]) (W := []) T.F_read_form sc_read_form dC fun cdv A outer s H E hr => ?_
 have hu := hr.units;exact (qss_cons (qs_if (qw_t (qw_and (qt_e (qe_starts (qe_s (qb_v 1)) (qe_s qb_str))) (qw_and1 (qt_e (qe_ends (qe_s (qb_v 1)) (qe_s qb_str)))))) (qss_one (qs_ret (qe_call G_read_rest (hr.mono dC) (by rfl) T.m_read_rest T.F_read_rest.kp T.n_read_rest (qm_bo 0 (qm_ex (qe_slS (qe_s (qb_v 1)) (qo_some qb_int) (qo_some (qb_neg qb_int))) qm_nil))))) qss_nil)
   qss_never)
theorem ok_read_term (T : Tx t) : FnOk P w K mg base CX0 7 t.a_read_term t.d_read_term ["n", "sign", "words"] (spD K 3 g_read_term) := by
 have G_read_count := ok_read_count (P := P) (w := w) (base := base) T;have G_read_form := ok_read_form (P := P) (w := w) (base := base) T;refine fn_D (N := ["n", "sign", "words", "number"]) (W := [3]) T.F_read_term sc_read_term dC fun cdv A outer s H E hr => ?_
 have hu := hr.units;exact (qss_cons (qs_if (qt_cmp (o_eq hu) (qe_s (qb_fn (id := "len") c_len (by rfl) T.b_len (by decide +kernel) (qba_cons (qb_v 2) qba_nil))) (qe_s qb_int) (nomark _)) qss_never (qss_one (qs_if (qt_cmp (o_eq hu) (qe_s (qb_fn (id := "len") c_len (by rfl) T.b_len (by decide +kernel) (qba_cons (qb_v 2) qba_nil))) (qe_s qb_int) (nomark _)) (qss_one (qs_set 3 sc_read_term.nd (qe_op o_mul (qe_s (qb_v 1)) (qe_call G_read_count (hr.mono dC) (by rfl) T.m_read_count T.F_read_count.kp T.n_read_count (qm_ex (qe_s (qb_ix (hs := plainC) (qb_v 2) qb_int)) (qm_ex (qe_s qb_int) qm_nil)))))) qss_never)))
   (qss_one (qs_ret (lc_e ["n", "sign", "words", "number", "x"] (qi_lst (qe_call G_read_form (hr.mono dC) (by rfl) T.m_read_form T.F_read_form.kp T.n_read_form (qm_bo 0 (qm_ex (qe_s (qb_ix (qb_v 2) (qb_neg qb_int))) qm_nil)))) (fun _ _ _ _ _ => by exact (qg_name 4 (show List.Nodup (["n", "sign", "words", "number", "x"] : List Str) by decide +kernel))) (fun _ _ _ _ _ => by exact qif_nil) (fun _ _ _ _ _ => by exact (qe_s (qb_op o_mul (qb_v 3) (qb_v 4))))))))
theorem ok_read_row (T : Tx t) : FnOk P w K mg base CX0 8 t.a_read_row t.d_read_row ["n", "text"] (spD K 2 g_read_row) := by
 have G_all_names := ok_all_names (P := P) (w := w) (base := base) T;have G_read_term := ok_read_term (P := P) (w := w) (base := base) T;have G_signed_terms := ok_signed_terms (P := P) (w := w) (base := base) T;refine fn_D (N := ["n", "text", "row", "sign", "words"]) (W := [2, 3, 4, 2]) T.F_read_row sc_read_row dC fun cdv A outer s H E hr => ?_
 have hu := hr.units;exact (qss_cons (qs_set 2 sc_read_row.nd (qe_rep (qe_lst (qa_cons (qe_s qb_int) qa_nil)) (qe_call G_all_names (hr.mono dC) (by rfl) T.m_all_names T.F_all_names.kp T.n_all_names (qm_bo 0 qm_nil))))
   (qss_cons (qs_if (qt_cmp (o_eq hu) (qe_s (qb_v 1)) (qe_s qb_str) (nomark _)) (qss_one (qs_ret (qe_mv 2))) qss_nil)
   (qss_cons (qs_forI (by rfl) (qi_lst (qe_call G_signed_terms (hr.mono dC) (by rfl) T.m_signed_terms T.F_signed_terms.kp T.n_signed_terms (qm_bo 1 qm_nil))) (qg_tup (by rfl) (qgs_cons (qg_name 3 sc_read_row.nd) (qgs_cons (qg_name 4 sc_read_row.nd) qgs_nil))) (qss_one (lc_s 2 ["n", "text", "row", "sign", "words", "old", "number"] sc_read_row.nd (qi_zip (by rfl) T.b_zip (qe_cp 2) (qe_call G_read_term (hr.mono dC) (by rfl) T.m_read_term T.F_read_term.kp T.n_read_term (qm_bo 0 (qm_bo 3 (qm_bo 4 qm_nil))))) (fun _ _ _ _ _ => by exact (qg_tup (by rfl) (qgs_cons (qg_name 5 (show List.Nodup (["n", "text", "row", "sign", "words", "old", "number"] : List Str) by decide +kernel)) (qgs_cons (qg_name 6 (show List.Nodup (["n", "text", "row", "sign", "words", "old", "number"] : List Str) by decide +kernel)) qgs_nil)))) (fun _ _ _ _ _ => by exact qif_nil) (fun _ _ _ _ _ => by exact (qe_s (qb_op o_add (qb_v 5) (qb_v 6)))))) PassesOwn.never)
   (qss_one (qs_ret (qe_mv 2))))))
theorem ok_lright (T : Tx t) : FnOk P w K mg base CX0 9 t.a_lright t.d_lright ["_law_n", "_law_row_here"] (spD K 2 g_lright) := by
 have G_lsame := ok_lsame (P := P) (w := w) (base := base) T;have G_lshown := ok_lshown (P := P) (w := w) (base := base) T;have G_read_row := ok_read_row (P := P) (w := w) (base := base) T;have G_show_row := ok_show_row (P := P) (w := w) (base := base) T;refine fn_D (N := ["_law_n", "_law_row_here", "_law_handed", "_law_text", "_law_time", "_law_found"]) (W := [2, 3, 4, 5]) T.F_lright sc_lright dC fun cdv A outer s H E hr => ?_
 have hu := hr.units;exact (qss_cons (qs_set 2 sc_lright.nd (qe_listB (by rfl) T.b_list (by decide +kernel) (qb_v 1)))
   (qss_cons (qs_set 3 sc_lright.nd (qe_call G_show_row (hr.mono dC) (by rfl) T.m_show_row T.F_show_row.kp T.n_show_row (qm_bo 0 (qm_bo 2 qm_nil))))
   (qss_cons (qs_if (qw_t (qw_or (qt_not (qt_e (qe_s (qb_fn (id := "isinstance") c_isi (by rfl) T.b_isinstance (by decide +kernel) (qba_cons (qb_v 3) (qba_cons (qb_tyname (T := "str") (by rfl) T.b_str (by decide +kernel)) qba_nil)))))) (qw_or (qt_cmp (o_ne hu) (qe_s (qb_v 3)) (qe_call G_lshown (hr.mono dC) (by rfl) T.m_lshown T.F_lshown.kp T.n_lshown (qm_bo 1 qm_nil)) (nomark _)) (qw_or1 (qt_cmpB (o_ne hu) (qb_v 2) (qb_v 1) (nomark _)))))) qss_never qss_nil)
   (qss_cons (qs_forI (by rfl) (qi_r1 (by rfl) T.b_range (qa_cons (qe_s qb_int) qa_nil)) (qg_name 4 sc_lright.nd) (qss_cons (qs_set 5 sc_lright.nd (qe_call G_read_row (hr.mono dC) (by rfl) T.m_read_row T.F_read_row.kp T.n_read_row (qm_bo 0 (qm_bo 3 qm_nil))))
   (qss_cons (qs_if (qt_not (qt_e (qe_call G_lsame (hr.mono dC) (by rfl) T.m_lsame T.F_lsame.kp T.n_lsame (qm_bo 5 (qm_bo 1 qm_nil))))) qss_never qss_nil)
   (qss_one (qs_expr (qe_clrV 5))))) PassesOwn.never)
   (qss_one (qs_ret (qe_s qb_bl)))))))
theorem ok_law (T : Tx t) {f : Addr} {fd : FuncData} (F : Fun K "law" "law" s_law f fd) : FnOk P w K mg base CX0 10 f fd ["_law_script"] (spD K 1 g_law) := by
 have G_lpile := ok_lpile (P := P) (w := w) (base := base) T;have G_lright := ok_lright (P := P) (w := w) (base := base) T;have G_lrow := ok_lrow (P := P) (w := w) (base := base) T;have G_ltake := ok_ltake (P := P) (w := w) (base := base) T;refine fn_D (N := ["_law_script", "_law_turn", "_law_n", "_law_row_here"]) (W := [1, 2, 3]) F sc_law dC fun cdv A outer s H E hr => ?_
 have hu := hr.units;exact (qss_cons (qs_forI (by rfl) (qi_r1 (by rfl) T.b_range (qa_cons (qe_s qb_int) qa_nil)) (qg_name 1 sc_law.nd) (qss_cons (qs_set 2 sc_law.nd (qe_op o_add (qe_s qb_int) (qe_call G_ltake (hr.mono dC) (by rfl) T.m_ltake T.F_ltake.kp T.n_ltake (qm_ex (qe_call G_lpile (hr.mono dC) (by rfl) T.m_lpile T.F_lpile.kp T.n_lpile (qm_bo 0 (qm_ex (qe_s (qb_op o_mul qb_int (qb_v 1))) qm_nil))) (qm_ex (qe_s qb_int) qm_nil)))))
   (qss_cons (qs_set 3 sc_law.nd (qe_call G_lrow (hr.mono dC) (by rfl) T.m_lrow T.F_lrow.kp T.n_lrow (qm_bo 0 (qm_ex (qe_s (qb_op o_mul qb_int (qb_v 1))) (qm_bo 2 qm_nil)))))
   (qss_one (qs_if (qw_t (qw_or (qt_not (qt_e (qe_call G_lright (hr.mono dC) (by rfl) T.m_lright T.F_lright.kp T.n_lright (qm_bo 2 (qm_bo 3 qm_nil))))) (qw_or1 (qt_not (qt_e (qe_call G_lright (hr.mono dC) (by rfl) T.m_lright T.F_lright.kp T.n_lright (qm_bo 2 (qm_ex (qe_rep (qe_lst (qa_cons (qe_s qb_int) qa_nil)) (qe_s (qb_fn (id := "len") c_len (by rfl) T.b_len (by decide +kernel) (qba_cons (qb_v 3) qba_nil)))) qm_nil)))))))) qss_never qss_nil)))) PassesOwn.never)
   (qss_one (qs_ret (qe_s qb_bl))))
end
noncomputable abbrev NSq (K : PySem.W.Frag) (x : Str) (f : Addr) : Prop := nsIn K mainGlobals x = some (some (.ref f))
noncomputable abbrev CIq (K : PySem.W.Frag) (c : Value) (x : Str) : Prop := codeIn K c x = true
noncomputable abbrev KIq (K : PySem.W.Frag) (f : Addr) : Prop := keepIn K (.ref f) = true
noncomputable abbrev Fdq (x : Str) (s : Stmt) (k d p : Value) (a : Option Addr) (c t : Value) : FuncData := fnOf x x (defArgs s) (defBody s) (defScope s) .none k d p a c t
noncomputable abbrev LKq (K : PySem.W.Frag) (f : Addr) (o : Value) (d : Option Addr) (F : FuncData) (s : Array (Option Value)) : Prop := K.lookup f = some ⟨o, d, .func F, s⟩
theorem all_mk {l : PySem.W.OpenLaw} {w : World} {K : PySem.W.Frag} {h : Heap} {mg : Str -> Option Value} {fa : Addr} (X : K.In h) (G : h.Ns mainGlobals mg) (hfa : mg "law" = some (.ref fa))
 {f0 f1 f2 f3 f4 f5 f6 f7 f8 f9 f10 f11 f12 f13 f14 f15 f16 f17 f18 f19 f20 f21 f22 f23 f24 f25 f26 f27 f28 f29 f30 : Addr} {od0 an0 od1 an1 od2 an2 od3 an3 od4 an4 od5 an5 od6 an6 od7 an7 od8 an8 od9 an9 od10 an10 od11 an11 od12 an12 od13 an13 od14 an14 od15 an15 od16 an16 od17 an17 od18 an18 od19 an19 od20 an20 od21 an21 od22 an22 od23 an23 od24 an24 od25 an25 od26 an26 od27 an27 od28 an28 od29 an29 od30 an30 : Option Addr} {sl0 sl1 sl2 sl3 sl4 sl5 sl6 sl7 sl8 sl9 sl10 sl11 sl12 sl13 sl14 sl15 sl16 sl17 sl18 sl19 sl20 sl21 sl22 sl23 sl24 sl25 sl26 sl27 sl28 sl29 sl30 : Array (Option Value)} {oc0 kV0 dc0 pm0 cd0 ct0 oc1 kV1 dc1 pm1 cd1 ct1 oc2 kV2 dc2 pm2 cd2 ct2 oc3 kV3 dc3 pm3 cd3 ct3 oc4 kV4 dc4 pm4 cd4 ct4 oc5 kV5 dc5 pm5 cd5 ct5 oc6 kV6 dc6 pm6 cd6 ct6 oc7 kV7 dc7 pm7 cd7 ct7 oc8 kV8 dc8 pm8 cd8 ct8 oc9 kV9 dc9 pm9 cd9 ct9 oc10 kV10 dc10 pm10 cd10 ct10 oc11 kV11 dc11 pm11 cd11 ct11 oc12 kV12 dc12 pm12 cd12 ct12 oc13 kV13 dc13 pm13 cd13 ct13 oc14 kV14 dc14 pm14 cd14 ct14 oc15 kV15 dc15 pm15 cd15 ct15 oc16 kV16 dc16 pm16 cd16 ct16 oc17 kV17 dc17 pm17 cd17 ct17 oc18 kV18 dc18 pm18 cd18 ct18 oc19 kV19 dc19 pm19 cd19 ct19 oc20 kV20 dc20 pm20 cd20 ct20 oc21 kV21 dc21 pm21 cd21 ct21 oc22 kV22 dc22 pm22 cd22 ct22 oc23 kV23 dc23 pm23 cd23 ct23 oc24 kV24 dc24 pm24 cd24 ct24 oc25 kV25 dc25 pm25 cd25 ct25 oc26 kV26 dc26 pm26 cd26 ct26 oc27 kV27 dc27 pm27 cd27 ct27 oc28 kV28 dc28 pm28 cd28 ct28 oc29 kV29 dc29 pm29 cd29 ct29 oc30 kV30 dc30 pm30 cd30 ct30 : Value}
  (a0 : NSq K "read_number" f0) (l0 : LKq K f0 oc0 od0 (Fdq "read_number" s_read_number kV0 dc0 pm0 an0 cd0 ct0) sl0) (c0 : CIq K cd0 "read_number") (k0 : KIq K f0)
  (a1 : NSq K "in_two" f1) (l1 : LKq K f1 oc1 od1 (Fdq "in_two" s_in_two kV1 dc1 pm1 an1 cd1 ct1) sl1) (c1 : CIq K cd1 "in_two") (k1 : KIq K f1)
  (a2 : NSq K "all_names" f2) (l2 : LKq K f2 oc2 od2 (Fdq "all_names" s_all_names kV2 dc2 pm2 an2 cd2 ct2) sl2) (c2 : CIq K cd2 "all_names") (k2 : KIq K f2)
  (a3 : NSq K "names_in" f3) (l3 : LKq K f3 oc3 od3 (Fdq "names_in" s_names_in kV3 dc3 pm3 an3 cd3 ct3) sl3) (c3 : CIq K cd3 "names_in") (k3 : KIq K f3)
  (a4 : NSq K "sign_ahead" f4) (l4 : LKq K f4 oc4 od4 (Fdq "sign_ahead" s_sign_ahead kV4 dc4 pm4 an4 cd4 ct4) sl4) (c4 : CIq K cd4 "sign_ahead") (k4 : KIq K f4)
  (a5 : NSq K "signed_terms" f5) (l5 : LKq K f5 oc5 od5 (Fdq "signed_terms" s_signed_terms kV5 dc5 pm5 an5 cd5 ct5) sl5) (c5 : CIq K cd5 "signed_terms") (k5 : KIq K f5)
  (a6 : NSq K "_law_mixed" f6) (l6 : LKq K f6 oc6 od6 (Fdq "_law_mixed" s_lmixed kV6 dc6 pm6 an6 cd6 ct6) sl6) (c6 : CIq K cd6 "_law_mixed") (k6 : KIq K f6)
  (a7 : NSq K "_law_pile" f7) (l7 : LKq K f7 oc7 od7 (Fdq "_law_pile" s_lpile kV7 dc7 pm7 an7 cd7 ct7) sl7) (c7 : CIq K cd7 "_law_pile") (k7 : KIq K f7)
  (a8 : NSq K "_law_same" f8) (l8 : LKq K f8 oc8 od8 (Fdq "_law_same" s_lsame kV8 dc8 pm8 an8 cd8 ct8) sl8) (c8 : CIq K cd8 "_law_same") (k8 : KIq K f8)
  (a9 : NSq K "_law_letters" f9) (l9 : LKq K f9 oc9 od9 (Fdq "_law_letters" s_lletters kV9 dc9 pm9 an9 cd9 ct9) sl9) (c9 : CIq K cd9 "_law_letters") (k9 : KIq K f9)
  (a10 : NSq K "row_of_terms" f10) (l10 : LKq K f10 oc10 od10 (Fdq "row_of_terms" s_row_of_terms kV10 dc10 pm10 an10 cd10 ct10) sl10) (c10 : CIq K cd10 "row_of_terms") (k10 : KIq K f10)
  (a11 : NSq K "show_group" f11) (l11 : LKq K f11 oc11 od11 (Fdq "show_group" s_show_group kV11 dc11 pm11 an11 cd11 ct11) sl11) (c11 : CIq K cd11 "show_group") (k11 : KIq K f11)
  (a12 : NSq K "read_whole" f12) (l12 : LKq K f12 oc12 od12 (Fdq "read_whole" s_read_whole kV12 dc12 pm12 an12 cd12 ct12) sl12) (c12 : CIq K cd12 "read_whole") (k12 : KIq K f12)
  (a13 : NSq K "_law_take" f13) (l13 : LKq K f13 oc13 od13 (Fdq "_law_take" s_ltake kV13 dc13 pm13 an13 cd13 ct13) sl13) (c13 : CIq K cd13 "_law_take") (k13 : KIq K f13)
  (a14 : NSq K "_law_shown" f14) (l14 : LKq K f14 oc14 od14 (Fdq "_law_shown" s_lshown kV14 dc14 pm14 an14 cd14 ct14) sl14) (c14 : CIq K cd14 "_law_shown") (k14 : KIq K f14)
  (a15 : NSq K "rest_row" f15) (l15 : LKq K f15 oc15 od15 (Fdq "rest_row" s_rest_row kV15 dc15 pm15 an15 cd15 ct15) sl15) (c15 : CIq K cd15 "rest_row") (k15 : KIq K f15)
  (a16 : NSq K "shared_row" f16) (l16 : LKq K f16 oc16 od16 (Fdq "shared_row" s_shared_row kV16 dc16 pm16 an16 cd16 ct16) sl16) (c16 : CIq K cd16 "shared_row") (k16 : KIq K f16)
  (a17 : NSq K "show_term" f17) (l17 : LKq K f17 oc17 od17 (Fdq "show_term" s_show_term kV17 dc17 pm17 an17 cd17 ct17) sl17) (c17 : CIq K cd17 "show_term") (k17 : KIq K f17)
  (a18 : NSq K "read_count" f18) (l18 : LKq K f18 oc18 od18 (Fdq "read_count" s_read_count kV18 dc18 pm18 an18 cd18 ct18) sl18) (c18 : CIq K cd18 "read_count") (k18 : KIq K f18)
  (a19 : NSq K "read_group" f19) (l19 : LKq K f19 oc19 od19 (Fdq "read_group" s_read_group kV19 dc19 pm19 an19 cd19 ct19) sl19) (c19 : CIq K cd19 "read_group") (k19 : KIq K f19)
  (a20 : NSq K "_law_number" f20) (l20 : LKq K f20 oc20 od20 (Fdq "_law_number" s_lnumber kV20 dc20 pm20 an20 cd20 ct20) sl20) (c20 : CIq K cd20 "_law_number") (k20 : KIq K f20)
  (a21 : NSq K "show_row" f21) (l21 : LKq K f21 oc21 od21 (Fdq "show_row" s_show_row kV21 dc21 pm21 an21 cd21 ct21) sl21) (c21 : CIq K cd21 "show_row") (k21 : KIq K f21)
  (a22 : NSq K "read_known" f22) (l22 : LKq K f22 oc22 od22 (Fdq "read_known" s_read_known kV22 dc22 pm22 an22 cd22 ct22) sl22) (c22 : CIq K cd22 "read_known") (k22 : KIq K f22)
  (a23 : NSq K "_law_row" f23) (l23 : LKq K f23 oc23 od23 (Fdq "_law_row" s_lrow kV23 dc23 pm23 an23 cd23 ct23) sl23) (c23 : CIq K cd23 "_law_row") (k23 : KIq K f23)
  (a24 : NSq K "read_rest" f24) (l24 : LKq K f24 oc24 od24 (Fdq "read_rest" s_read_rest kV24 dc24 pm24 an24 cd24 ct24) sl24) (c24 : CIq K cd24 "read_rest") (k24 : KIq K f24)
  (a25 : NSq K "read_shared" f25) (l25 : LKq K f25 oc25 od25 (Fdq "read_shared" s_read_shared kV25 dc25 pm25 an25 cd25 ct25) sl25) (c25 : CIq K cd25 "read_shared") (k25 : KIq K f25)
  (a26 : NSq K "read_form" f26) (l26 : LKq K f26 oc26 od26 (Fdq "read_form" s_read_form kV26 dc26 pm26 an26 cd26 ct26) sl26) (c26 : CIq K cd26 "read_form") (k26 : KIq K f26)
  (a27 : NSq K "read_term" f27) (l27 : LKq K f27 oc27 od27 (Fdq "read_term" s_read_term kV27 dc27 pm27 an27 cd27 ct27) sl27) (c27 : CIq K cd27 "read_term") (k27 : KIq K f27)
  (a28 : NSq K "read_row" f28) (l28 : LKq K f28 oc28 od28 (Fdq "read_row" s_read_row kV28 dc28 pm28 an28 cd28 ct28) sl28) (c28 : CIq K cd28 "read_row") (k28 : KIq K f28)
  (a29 : NSq K "_law_right" f29) (l29 : LKq K f29 oc29 od29 (Fdq "_law_right" s_lright kV29 dc29 pm29 an29 cd29 ct29) sl29) (c29 : CIq K cd29 "_law_right") (k29 : KIq K f29)
  (a30 : NSq K "law" f30) (l30 : LKq K f30 oc30 od30 (Fdq "law" s_law kV30 dc30 pm30 an30 cd30 ct30) sl30) (c30 : CIq K cd30 "law") (k30 : KIq K f30)
  (z_abs : nsIn K mainGlobals "abs" = some none)
  (z_all : nsIn K mainGlobals "all" = some none)
  (z_bool : nsIn K mainGlobals "bool" = some none)
  (z_enumerate : nsIn K mainGlobals "enumerate" = some none)
  (z_int : nsIn K mainGlobals "int" = some none)
  (z_isinstance : nsIn K mainGlobals "isinstance" = some none)
  (z_len : nsIn K mainGlobals "len" = some none)
  (z_list : nsIn K mainGlobals "list" = some none)
  (z_range : nsIn K mainGlobals "range" = some none)
  (z_str : nsIn K mainGlobals "str" = some none)
  (z_zip : nsIn K mainGlobals "zip" = some none)
  {t_FIGURES : Tok} (v_FIGURES : nsIn K mainGlobals "FIGURES" = some (some (.str "0123456789" t_FIGURES)))
  {t_LETTERS : Tok} (v_LETTERS : nsIn K mainGlobals "LETTERS" = some (some (.str "abcd" t_LETTERS)))
  {t_MOST_FIGURES : Tok} (v_MOST_FIGURES : nsIn K mainGlobals "MOST_FIGURES" = some (some (.int 2000 t_MOST_FIGURES)))
  {t_MOST_NAMES : Tok} (v_MOST_NAMES : nsIn K mainGlobals "MOST_NAMES" = some (some (.int 4 t_MOST_NAMES)))
  : ∃ fd : FuncData, (∀ (s : Shared) (v : Value), BindsTo s fd ⟨[v], []⟩ [("_law_script", v)]) /\ ∀ base : Heap, K.In base -> base.Ns mainGlobals mg -> FnOk l.prog w K mg base CX0 10 fa fd ["_law_script"] (spD K 1 g_law) := by
 have e := hfa.symm.trans (mg_of X G a30);cases e;have F0 := fun_mk (st := s_read_number) l0 c0 k0;have b0 := F0.binds (ps := ["text"]) fun _ _ _ _ _ _ us hl => by rcases us with _ | ⟨_, _ | ⟨_, us⟩⟩ <;> first | rfl | (simp at hl) | cases hl
 have F1 := fun_mk (st := s_in_two) l1 c1 k1;have b1 := F1.binds (ps := ["text", "sign"]) fun _ _ _ _ _ _ us hl => by rcases us with _ | ⟨_, _ | ⟨_, _ | ⟨_, us⟩⟩⟩ <;> first | rfl | (simp at hl) | cases hl
 have F2 := fun_mk (st := s_all_names) l2 c2 k2;have b2 := F2.binds (ps := ["n"]) fun _ _ _ _ _ _ us hl => by rcases us with _ | ⟨_, _ | ⟨_, us⟩⟩ <;> first | rfl | (simp at hl) | cases hl
 have F3 := fun_mk (st := s_names_in) l3 c3 k3;have b3 := F3.binds (ps := ["n", "group"]) fun _ _ _ _ _ _ us hl => by rcases us with _ | ⟨_, _ | ⟨_, _ | ⟨_, us⟩⟩⟩ <;> first | rfl | (simp at hl) | cases hl
 have F4 := fun_mk (st := s_sign_ahead) l4 c4 k4;have b4 := F4.binds (ps := ["number", "is_first"]) fun _ _ _ _ _ _ us hl => by rcases us with _ | ⟨_, _ | ⟨_, _ | ⟨_, us⟩⟩⟩ <;> first | rfl | (simp at hl) | cases hl
 have F5 := fun_mk (st := s_signed_terms) l5 c5 k5;have b5 := F5.binds (ps := ["text"]) fun _ _ _ _ _ _ us hl => by rcases us with _ | ⟨_, _ | ⟨_, us⟩⟩ <;> first | rfl | (simp at hl) | cases hl
 have F6 := fun_mk (st := s_lmixed) l6 c6 k6;have b6 := F6.binds (ps := ["_law_cell", "_law_k"]) fun _ _ _ _ _ _ us hl => by rcases us with _ | ⟨_, _ | ⟨_, _ | ⟨_, us⟩⟩⟩ <;> first | rfl | (simp at hl) | cases hl
 have F7 := fun_mk (st := s_lpile) l7 c7 k7;have b7 := F7.binds (ps := ["_law_script", "_law_k"]) fun _ _ _ _ _ _ us hl => by rcases us with _ | ⟨_, _ | ⟨_, _ | ⟨_, us⟩⟩⟩ <;> first | rfl | (simp at hl) | cases hl
 have F8 := fun_mk (st := s_lsame) l8 c8 k8;have b8 := F8.binds (ps := ["_law_found", "_law_due"]) fun _ _ _ _ _ _ us hl => by rcases us with _ | ⟨_, _ | ⟨_, _ | ⟨_, us⟩⟩⟩ <;> first | rfl | (simp at hl) | cases hl
 have F9 := fun_mk (st := s_lletters) l9 c9 k9;have b9 := F9.binds (ps := ["_law_group"]) fun _ _ _ _ _ _ us hl => by rcases us with _ | ⟨_, _ | ⟨_, us⟩⟩ <;> first | rfl | (simp at hl) | cases hl
 have F10 := fun_mk (st := s_row_of_terms) l10 c10 k10;have b10 := F10.binds (ps := ["n", "terms"]) fun _ _ _ _ _ _ us hl => by rcases us with _ | ⟨_, _ | ⟨_, _ | ⟨_, us⟩⟩⟩ <;> first | rfl | (simp at hl) | cases hl
 have F11 := fun_mk (st := s_show_group) l11 c11 k11;have b11 := F11.binds (ps := ["group"]) fun _ _ _ _ _ _ us hl => by rcases us with _ | ⟨_, _ | ⟨_, us⟩⟩ <;> first | rfl | (simp at hl) | cases hl
 have F12 := fun_mk (st := s_read_whole) l12 c12 k12;have b12 := F12.binds (ps := ["text"]) fun _ _ _ _ _ _ us hl => by rcases us with _ | ⟨_, _ | ⟨_, us⟩⟩ <;> first | rfl | (simp at hl) | cases hl
 have F13 := fun_mk (st := s_ltake) l13 c13 k13;have b13 := F13.binds (ps := ["_law_pile_here", "_law_many"]) fun _ _ _ _ _ _ us hl => by rcases us with _ | ⟨_, _ | ⟨_, _ | ⟨_, us⟩⟩⟩ <;> first | rfl | (simp at hl) | cases hl
 have F14 := fun_mk (st := s_lshown) l14 c14 k14;have b14 := F14.binds (ps := ["_law_row_here"]) fun _ _ _ _ _ _ us hl => by rcases us with _ | ⟨_, _ | ⟨_, us⟩⟩ <;> first | rfl | (simp at hl) | cases hl
 have F15 := fun_mk (st := s_rest_row) l15 c15 k15;have b15 := F15.binds (ps := ["n", "a", "b"]) fun _ _ _ _ _ _ us hl => by rcases us with _ | ⟨_, _ | ⟨_, _ | ⟨_, _ | ⟨_, us⟩⟩⟩⟩ <;> first | rfl | (simp at hl) | cases hl
 have F16 := fun_mk (st := s_shared_row) l16 c16 k16;have b16 := F16.binds (ps := ["n", "a", "b", "c"]) fun _ _ _ _ _ _ us hl => by rcases us with _ | ⟨_, _ | ⟨_, _ | ⟨_, _ | ⟨_, _ | ⟨_, us⟩⟩⟩⟩⟩ <;> first | rfl | (simp at hl) | cases hl
 have F17 := fun_mk (st := s_show_term) l17 c17 k17;have b17 := F17.binds (ps := ["group", "number"]) fun _ _ _ _ _ _ us hl => by rcases us with _ | ⟨_, _ | ⟨_, _ | ⟨_, us⟩⟩⟩ <;> first | rfl | (simp at hl) | cases hl
 have F18 := fun_mk (st := s_read_count) l18 c18 k18;have b18 := F18.binds (ps := ["text", "least"]) fun _ _ _ _ _ _ us hl => by rcases us with _ | ⟨_, _ | ⟨_, _ | ⟨_, us⟩⟩⟩ <;> first | rfl | (simp at hl) | cases hl
 have F19 := fun_mk (st := s_read_group) l19 c19 k19;have b19 := F19.binds (ps := ["n", "text"]) fun _ _ _ _ _ _ us hl => by rcases us with _ | ⟨_, _ | ⟨_, _ | ⟨_, us⟩⟩⟩ <;> first | rfl | (simp at hl) | cases hl
 have F20 := fun_mk (st := s_lnumber) l20 c20 k20;have b20 := F20.binds (ps := ["_law_pile_here"]) fun _ _ _ _ _ _ us hl => by rcases us with _ | ⟨_, _ | ⟨_, us⟩⟩ <;> first | rfl | (simp at hl) | cases hl
 have F21 := fun_mk (st := s_show_row) l21 c21 k21;have b21 := F21.binds (ps := ["n", "row"]) fun _ _ _ _ _ _ us hl => by rcases us with _ | ⟨_, _ | ⟨_, _ | ⟨_, us⟩⟩⟩ <;> first | rfl | (simp at hl) | cases hl
 have F22 := fun_mk (st := s_read_known) l22 c22 k22;have b22 := F22.binds (ps := ["n", "parts"]) fun _ _ _ _ _ _ us hl => by rcases us with _ | ⟨_, _ | ⟨_, _ | ⟨_, us⟩⟩⟩ <;> first | rfl | (simp at hl) | cases hl
 have F23 := fun_mk (st := s_lrow) l23 c23 k23;have b23 := F23.binds (ps := ["_law_script", "_law_start", "_law_n"]) fun _ _ _ _ _ _ us hl => by rcases us with _ | ⟨_, _ | ⟨_, _ | ⟨_, _ | ⟨_, us⟩⟩⟩⟩ <;> first | rfl | (simp at hl) | cases hl
 have F24 := fun_mk (st := s_read_rest) l24 c24 k24;have b24 := F24.binds (ps := ["n", "text"]) fun _ _ _ _ _ _ us hl => by rcases us with _ | ⟨_, _ | ⟨_, _ | ⟨_, us⟩⟩⟩ <;> first | rfl | (simp at hl) | cases hl
 have F25 := fun_mk (st := s_read_shared) l25 c25 k25;have b25 := F25.binds (ps := ["n", "text"]) fun _ _ _ _ _ _ us hl => by rcases us with _ | ⟨_, _ | ⟨_, _ | ⟨_, us⟩⟩⟩ <;> first | rfl | (simp at hl) | cases hl
 have F26 := fun_mk (st := s_read_form) l26 c26 k26;have b26 := F26.binds (ps := ["n", "text"]) fun _ _ _ _ _ _ us hl => by rcases us with _ | ⟨_, _ | ⟨_, _ | ⟨_, us⟩⟩⟩ <;> first | rfl | (simp at hl) | cases hl
 have F27 := fun_mk (st := s_read_term) l27 c27 k27;have b27 := F27.binds (ps := ["n", "sign", "words"]) fun _ _ _ _ _ _ us hl => by rcases us with _ | ⟨_, _ | ⟨_, _ | ⟨_, _ | ⟨_, us⟩⟩⟩⟩ <;> first | rfl | (simp at hl) | cases hl
 have F28 := fun_mk (st := s_read_row) l28 c28 k28;have b28 := F28.binds (ps := ["n", "text"]) fun _ _ _ _ _ _ us hl => by rcases us with _ | ⟨_, _ | ⟨_, _ | ⟨_, us⟩⟩⟩ <;> first | rfl | (simp at hl) | cases hl
 have F29 := fun_mk (st := s_lright) l29 c29 k29;have b29 := F29.binds (ps := ["_law_n", "_law_row_here"]) fun _ _ _ _ _ _ us hl => by rcases us with _ | ⟨_, _ | ⟨_, _ | ⟨_, us⟩⟩⟩ <;> first | rfl | (simp at hl) | cases hl
 have F30 := fun_mk (st := s_law) l30 c30 k30
 let t : Txt K mg := ⟨f0, Fdq "read_number" s_read_number kV0 dc0 pm0 an0 cd0 ct0, f1, Fdq "in_two" s_in_two kV1 dc1 pm1 an1 cd1 ct1, f2, Fdq "all_names" s_all_names kV2 dc2 pm2 an2 cd2 ct2, f3, Fdq "names_in" s_names_in kV3 dc3 pm3 an3 cd3 ct3, f4, Fdq "sign_ahead" s_sign_ahead kV4 dc4 pm4 an4 cd4 ct4, f5, Fdq "signed_terms" s_signed_terms kV5 dc5 pm5 an5 cd5 ct5, f6, Fdq "_law_mixed" s_lmixed kV6 dc6 pm6 an6 cd6 ct6, f7, Fdq "_law_pile" s_lpile kV7 dc7 pm7 an7 cd7 ct7, f8, Fdq "_law_same" s_lsame kV8 dc8 pm8 an8 cd8 ct8, f9, Fdq "_law_letters" s_lletters kV9 dc9 pm9 an9 cd9 ct9, f10, Fdq "row_of_terms" s_row_of_terms kV10 dc10 pm10 an10 cd10 ct10, f11, Fdq "show_group" s_show_group kV11 dc11 pm11 an11 cd11 ct11, f12, Fdq "read_whole" s_read_whole kV12 dc12 pm12 an12 cd12 ct12, f13, Fdq "_law_take" s_ltake kV13 dc13 pm13 an13 cd13 ct13, f14, Fdq "_law_shown" s_lshown kV14 dc14 pm14 an14 cd14 ct14, f15, Fdq "rest_row" s_rest_row kV15 dc15 pm15 an15 cd15 ct15, f16, Fdq "shared_row" s_shared_row kV16 dc16 pm16 an16 cd16 ct16, f17, Fdq "show_term" s_show_term kV17 dc17 pm17 an17 cd17 ct17, f18, Fdq "read_count" s_read_count kV18 dc18 pm18 an18 cd18 ct18, f19, Fdq "read_group" s_read_group kV19 dc19 pm19 an19 cd19 ct19, f20, Fdq "_law_number" s_lnumber kV20 dc20 pm20 an20 cd20 ct20, f21, Fdq "show_row" s_show_row kV21 dc21 pm21 an21 cd21 ct21, f22, Fdq "read_known" s_read_known kV22 dc22 pm22 an22 cd22 ct22, f23, Fdq "_law_row" s_lrow kV23 dc23 pm23 an23 cd23 ct23, f24, Fdq "read_rest" s_read_rest kV24 dc24 pm24 an24 cd24 ct24, f25, Fdq "read_shared" s_read_shared kV25 dc25 pm25 an25 cd25 ct25, f26, Fdq "read_form" s_read_form kV26 dc26 pm26 an26 cd26 ct26, f27, Fdq "read_term" s_read_term kV27 dc27 pm27 an27 cd27 ct27, f28, Fdq "read_row" s_read_row kV28 dc28 pm28 an28 cd28 ct28, f29, Fdq "_law_right" s_lright kV29 dc29 pm29 an29 cd29 ct29⟩
 have T : Tx t := ⟨F0, mg_of X G a0, b0, F1, mg_of X G a1, b1, F2, mg_of X G a2, b2, F3, mg_of X G a3, b3, F4, mg_of X G a4, b4, F5, mg_of X G a5, b5, F6, mg_of X G a6, b6, F7, mg_of X G a7, b7, F8, mg_of X G a8, b8, F9, mg_of X G a9, b9, F10, mg_of X G a10, b10, F11, mg_of X G a11, b11, F12, mg_of X G a12, b12, F13, mg_of X G a13, b13, F14, mg_of X G a14, b14, F15, mg_of X G a15, b15, F16, mg_of X G a16, b16, F17, mg_of X G a17, b17, F18, mg_of X G a18, b18, F19, mg_of X G a19, b19, F20, mg_of X G a20, b20, F21, mg_of X G a21, b21, F22, mg_of X G a22, b22, F23, mg_of X G a23, b23, F24, mg_of X G a24, b24, F25, mg_of X G a25, b25, F26, mg_of X G a26, b26, F27, mg_of X G a27, b27, F28, mg_of X G a28, b28, F29, mg_of X G a29, b29, mg_none_of X G z_abs, mg_none_of X G z_all, mg_none_of X G z_bool, mg_none_of X G z_enumerate, mg_none_of X G z_int, mg_none_of X G z_isinstance, mg_none_of X G z_len, mg_none_of X G z_list, mg_none_of X G z_range, mg_none_of X G z_str, mg_none_of X G z_zip, ⟨_, mg_of X G v_FIGURES⟩, ⟨_, mg_of X G v_LETTERS⟩, ⟨_, mg_of X G v_MOST_FIGURES⟩, ⟨_, mg_of X G v_MOST_NAMES⟩⟩;exact ⟨Fdq "law" s_law kV30 dc30 pm30 an30 cd30 ct30, fun s v => .of_eq rfl, fun base _ _ => ok_law T F30⟩
theorem walk {l : PySem.W.OpenLaw} {q : Program} {loose : List Str} {XP : (Str -> Option Value) -> Heap -> Prop} {YP : World -> Heap -> Prop} {d : DefRec} {K : Params -> PySem.W.Frag} (hn : l.most = some 63) (hdf : d.params.defaults = [])
  (hY : ∀ (w : World) (h : Heap), YP w h -> (K w.params).In h) (hg : ∀ ns : List Int, ns.length <= 63 -> ∃ d, g_law [.lst false (ns.map D.int)] = some (.bl true, [d]))
  (F : ∀ (w : World) (mg : Str -> Option Value) (fa : Addr) (h : Heap), (K w.params).In h -> h.Ns mainGlobals mg -> mg d.name = some (.ref fa) ->
   ∃ fd : FuncData, (∀ (s : Shared) (u : Value), BindsTo s fd ⟨[u], []⟩ [("_law_script", u)]) /\ ∀ base : Heap, (K w.params).In base -> base.Ns mainGlobals mg -> FnOk l.prog w (K w.params) mg base CX0 10 fa fd ["_law_script"] (spD (K w.params) 1 g_law)) :
  PySem.W.WalkO q loose XP YP l.row.toRowW d [] (fun f vs => PySem.call f vs) :=
 L2.walk_of (n := 63) (k := 10) (x := "_law_script") (CX := fun _ => CX0) (sp := fun w => spD (K w.params) 1 g_law) hn dC hdf ⟨rfl, by decide, by decide, rfl⟩ hY F (fun _ _ a ns hl _ hS => law_sp (hg ns hl) hS) fun _ _ _ _ _ z => z
end LW
namespace LW
open PySem L2 DD TT
structure S_lpile where
 yscript : List Int
 yk : Int
 ycell : Int
noncomputable def T_lpile : {f : ((List Int) × Int × Unit) -> Option ((List Int) × ((List Int) × Int × Unit)) // JF g_lpile f (Pc (rM rI) (Pc rI Pn)) (rL rI) (Pc (rM rI) (Pc rI Pn))} := ⟨_, by
 exact jf_rt (S := S_lpile) (N := 3) (W := [2, 2]) (c := c_lpile) (Γn := []) (ro := (rL rI)) (Γp := [some ⟨S_lpile.yscript, (rM rI)⟩, some ⟨S_lpile.yk, rI⟩]) (Γr := [some ⟨S_lpile.yscript, (rM rI)⟩, some ⟨S_lpile.yk, rI⟩, none]) (init := (fun p => (⟨p.1, p.2.1, 0⟩ : S_lpile))) (jin_cons (get := S_lpile.yscript) dC (fun _ => rfl) fun _ => (jin_cons (get := S_lpile.yk) dC (fun _ => rfl) fun _ => jin_nil))
  (js_seq (js_set 2 (get := S_lpile.ycell) (put := fun s v => {s with ycell := v}) (je_s (jp_i 0)))
  (js_seq (js_if (Γ' := [some ⟨S_lpile.yscript, (rM rI)⟩, some ⟨S_lpile.yk, rI⟩, some ⟨S_lpile.ycell, rI⟩]) (jt_e (je_op jo_B0 (je_s (jp_v 1 rfl)) (je_s (jp_b1 jb_len (jp_v 0 rfl))))) (js_set 2 (get := S_lpile.ycell) (put := fun s v => {s with ycell := v}) (je_s (jp_op jo_ix (jp_v 0 rfl) (jp_v 1 rfl)))) js_skip)
  (js_ret (je_lst (r := rI) (jl_cons (je_s (jp_op jo_mul (jp_v 2 rfl) (jp_b1 jb_intB (jp_op jo_B0 (jp_b1 jb_abs (jp_v 2 rfl)) (jp_op jo_I (jp_i 10) (jp_i 18)))))) (jl_cons (je_s (jp_v 2 rfl)) (jl_cons (je_s (jp_op jo_mul (jp_i 97) (jp_v 1 rfl))) jl_nil))))))) (jout_keep dC rfl (jout_keep dC rfl jout_nil))⟩
noncomputable def t_lpile := T_lpile.1
theorem j_lpile : JF g_lpile t_lpile (Pc (rM rI) (Pc rI Pn)) (rL rI) (Pc (rM rI) (Pc rI Pn)) := T_lpile.2
structure S_lmixed where
 ycell : Int
 yk : Int
 ynumber_here : Int
noncomputable def T_lmixed : {f : (Int × Int × Unit) -> Option (Int × (Int × Int × Unit)) // JF g_lmixed f (Pc rI (Pc rI Pn)) rI (Pc rI (Pc rI Pn))} := ⟨_, by
 exact jf_rt (S := S_lmixed) (N := 3) (W := [2, 2]) (c := c_lmixed) (Γn := []) (ro := rI) (Γp := [some ⟨S_lmixed.ycell, rI⟩, some ⟨S_lmixed.yk, rI⟩]) (Γr := [some ⟨S_lmixed.ycell, rI⟩, some ⟨S_lmixed.yk, rI⟩, none]) (init := (fun p => (⟨p.1, p.2.1, 0⟩ : S_lmixed))) (jin_cons (get := S_lmixed.ycell) dC (fun _ => rfl) fun _ => (jin_cons (get := S_lmixed.yk) dC (fun _ => rfl) fun _ => jin_nil))
  (js_seq (js_set 2 (get := S_lmixed.ynumber_here) (put := fun s v => {s with ynumber_here := v}) (je_s (jp_op jo_I (jp_op jo_I0 (jp_op jo_I0 (jp_op jo_mul (jp_op jo_I (jp_v 0 rfl) (jp_i 2147483647)) (jp_i 48271)) (jp_op jo_mul (jp_v 1 rfl) (jp_i 69621))) (jp_i 11)) (jp_i 2147483647))))
  (js_seq (js_set 2 (get := S_lmixed.ynumber_here) (put := fun s v => {s with ynumber_here := v}) (je_s (jp_op jo_I (jp_op jo_mul (jp_v 2 rfl) (jp_v 2 rfl)) (jp_i 2147483629))))
  (js_ret (je_s (jp_op jo_I (jp_op jo_mul (jp_v 2 rfl) (jp_v 2 rfl)) (jp_i 2147483587)))))) (jout_keep dC rfl (jout_keep dC rfl jout_nil))⟩
noncomputable def t_lmixed := T_lmixed.1
theorem j_lmixed : JF g_lmixed t_lmixed (Pc rI (Pc rI Pn)) rI (Pc rI (Pc rI Pn)) := T_lmixed.2
structure S_ltake where
 ypile_here : List Int
 ymany : Int
 ydigit : Int
noncomputable def T_ltake : {f : ((List Int) × Int × Unit) -> Option (Int × ((List Int) × Int × Unit)) // JF g_ltake f (Pc (rL rI) (Pc rI Pn)) rI (Pc (rL rI) (Pc rI Pn))} := ⟨_, by
 exact jf_rt (S := S_ltake) (N := 3) (W := [2]) (c := c_ltake) (Γn := []) (ro := rI) (Γp := [some ⟨S_ltake.ypile_here, (rL rI)⟩, some ⟨S_ltake.ymany, rI⟩]) (Γr := [some ⟨S_ltake.ypile_here, (rL rI)⟩, some ⟨S_ltake.ymany, rI⟩, none]) (init := (fun p => (⟨p.1, p.2.1, 0⟩ : S_ltake))) (jin_cons (get := S_ltake.ypile_here) dC (fun _ => rfl) fun _ => (jin_cons (get := S_ltake.ymany) dC (fun _ => rfl) fun _ => jin_nil))
  (js_seq (js_if (Γ' := [some ⟨S_ltake.ypile_here, (rL rI)⟩, some ⟨S_ltake.ymany, rI⟩, none]) (jt_e (je_s (jp_op jo_in (jp_op jo_ix (jp_v 0 rfl) (jp_i 0)) (jp_lst (jpl_cons (jp_i 0) (jpl_cons (jp_neg (jp_i 1)) jpl_nil)))))) (js_seq (js_setS 0 (get := S_ltake.ypile_here) (put := fun s v => {s with ypile_here := v}) (je_s (jp_op jo_I0 (jp_op jo_ix (jp_v 0 rfl) (jp_i 2)) (jp_i 1))) (jp_i 2) rfl)
  (js_ret (je_op jo_I (je_call j_lmixed (ja1_ex (je_s (jp_op jo_ix (jp_v 0 rfl) (jp_i 1))) (ja1_ex (je_s (jp_op jo_ix (jp_v 0 rfl) (jp_i 2))) ja1_nil)) (ja2_ex (ja2_ex ja2_nil)) (ja3_ex (ja3_ex ja3_nil))) (je_s (jp_v 1 rfl))))) js_skip)
  (js_seq (js_set 2 (get := S_ltake.ydigit) (put := fun s v => {s with ydigit := v}) (je_s (jp_op jo_I (jp_op jo_ix (jp_v 0 rfl) (jp_i 0)) (jp_v 1 rfl))))
  (js_seq (js_setS 0 (get := S_ltake.ypile_here) (put := fun s v => {s with ypile_here := v}) (je_s (jp_op jo_I (jp_op jo_ix (jp_v 0 rfl) (jp_i 0)) (jp_v 1 rfl))) (jp_i 0) rfl)
  (js_ret (je_s (jp_v 2 rfl)))))) (jout_keep dC rfl (jout_keep dC rfl jout_nil))⟩
noncomputable def t_ltake := T_ltake.1
theorem j_ltake : JF g_ltake t_ltake (Pc (rL rI) (Pc rI Pn)) rI (Pc (rL rI) (Pc rI Pn)) := T_ltake.2
structure S_lnumber where
 ypile_here : List Int
 yway : Int
 ynumber_here : Int
 yk : Int
noncomputable def T_lnumber : {f : ((List Int) × Unit) -> Option (Int × ((List Int) × Unit)) // JF g_lnumber f (Pc (rL rI) Pn) rI (Pc (rL rI) Pn)} := ⟨_, by
 exact jf_rt (S := S_lnumber) (N := 4) (W := [1, 2, 3, 2]) (c := c_lnumber) (Γn := []) (ro := rI) (Γp := [some ⟨S_lnumber.ypile_here, (rL rI)⟩]) (Γr := [some ⟨S_lnumber.ypile_here, (rL rI)⟩, none, none, none]) (init := (fun p => (⟨p.1, 0, 0, 0⟩ : S_lnumber))) (jin_cons (get := S_lnumber.ypile_here) dC (fun _ => rfl) fun _ => jin_nil)
  (js_seq (js_set 1 (get := S_lnumber.yway) (put := fun s v => {s with yway := v}) (je_call j_ltake (ja1_bo 0 rfl (ja1_ex (je_s (jp_i 4)) ja1_nil)) (ja2_ns 0 rfl (ja2_ex ja2_nil)) (ja3_ns 0 (get := S_lnumber.ypile_here) (put := fun s v => {s with ypile_here := v}) (h := ja3_ex ja3_nil))))
  (js_seq (js_if (Γ' := [some ⟨S_lnumber.ypile_here, (rL rI)⟩, some ⟨S_lnumber.yway, rI⟩, none, none]) (jt_e (je_op jo_eq (je_s (jp_v 1 rfl)) (je_s (jp_i 0)))) (js_seq (js_set 2 (get := S_lnumber.ynumber_here) (put := fun s v => {s with ynumber_here := v}) (je_s (jp_i 0)))
  (js_seq (js_for (ji_r1 (je_s (jp_i 4))) Le.refl (jg_nm 3 (get := S_lnumber.yk) (put := fun s v => {s with yk := v})) (js_set 2 (get := S_lnumber.ynumber_here) (put := fun s v => {s with ynumber_here := v}) (je_op jo_I0 (je_s (jp_op jo_mul (jp_v 2 rfl) (jp_op jo_I (jp_i 10) (jp_i 10)))) (je_call j_ltake (ja1_bo 0 rfl (ja1_ex (je_s (jp_op jo_I (jp_i 10) (jp_i 10))) ja1_nil)) (ja2_ns 0 rfl (ja2_ex ja2_nil)) (ja3_ns 0 (get := S_lnumber.ypile_here) (put := fun s v => {s with ypile_here := v}) (h := ja3_ex ja3_nil))))))
  (js_ret (je_ix (je_lst (r := rI) (jl_cons (je_s (jp_v 2 rfl)) (jl_cons (je_s (jp_neg (jp_v 2 rfl))) jl_nil))) (je_call j_ltake (ja1_bo 0 rfl (ja1_ex (je_s (jp_i 2)) ja1_nil)) (ja2_ns 0 rfl (ja2_ex ja2_nil)) (ja3_ns 0 (get := S_lnumber.ypile_here) (put := fun s v => {s with ypile_here := v}) (h := ja3_ex ja3_nil))))))) js_skip)
  (js_seq (js_if (Γ' := [some ⟨S_lnumber.ypile_here, (rL rI)⟩, some ⟨S_lnumber.yway, rI⟩, none, none]) (jt_e (je_op jo_eq (je_s (jp_v 1 rfl)) (je_s (jp_i 1)))) (js_ret (je_op jo_I0 (je_call j_ltake (ja1_bo 0 rfl (ja1_ex (je_s (jp_i 2001)) ja1_nil)) (ja2_ns 0 rfl (ja2_ex ja2_nil)) (ja3_ns 0 (get := S_lnumber.ypile_here) (put := fun s v => {s with ypile_here := v}) (h := ja3_ex ja3_nil))) (je_s (jp_i 1000)))) js_skip)
  (js_ret (je_op jo_I0 (je_call j_ltake (ja1_bo 0 rfl (ja1_ex (je_s (jp_i 9)) ja1_nil)) (ja2_ns 0 rfl (ja2_ex ja2_nil)) (ja3_ns 0 (get := S_lnumber.ypile_here) (put := fun s v => {s with ypile_here := v}) (h := ja3_ex ja3_nil))) (je_s (jp_i 4))))))) (jout_keep dC rfl jout_nil)⟩
noncomputable def t_lnumber := T_lnumber.1
theorem j_lnumber : JF g_lnumber t_lnumber (Pc (rL rI) Pn) rI (Pc (rL rI) Pn) := T_lnumber.2
structure S_lrow where
 yscript : List Int
 ystart : Int
 yn : Int
 yrow_here : List Int
 yg : Int
 ypile_here : List Int
noncomputable def T_lrow : {f : ((List Int) × Int × Int × Unit) -> Option ((List Int) × ((List Int) × Int × Int × Unit)) // JF g_lrow f (Pc (rM rI) (Pc rI (Pc rI Pn))) (rL rI) (Pc (rM rI) (Pc rI (Pc rI Pn)))} := ⟨_, by
 exact jf_rt (S := S_lrow) (N := 6) (W := [3, 4, 5]) (c := c_lrow) (Γn := []) (ro := (rL rI)) (Γp := [some ⟨S_lrow.yscript, (rM rI)⟩, some ⟨S_lrow.ystart, rI⟩, some ⟨S_lrow.yn, rI⟩]) (Γr := [some ⟨S_lrow.yscript, (rM rI)⟩, some ⟨S_lrow.ystart, rI⟩, some ⟨S_lrow.yn, rI⟩, none, none, none]) (init := (fun p => (⟨p.1, p.2.1, p.2.2.1, [], 0, []⟩ : S_lrow))) (jin_cons (get := S_lrow.yscript) dC (fun _ => rfl) fun _ => (jin_cons (get := S_lrow.ystart) dC (fun _ => rfl) fun _ => (jin_cons (get := S_lrow.yn) dC (fun _ => rfl) fun _ => jin_nil)))
  (js_seq (js_set 3 (get := S_lrow.yrow_here) (put := fun s v => {s with yrow_here := v}) (je_lst (jl_nil (r := rI))))
  (js_seq (js_for (ji_r2 (je_s (jp_i 1)) (je_s (jp_op jo_I (jp_i 1) (jp_v 2 rfl)))) Le.refl (jg_nm 4 (get := S_lrow.yg) (put := fun s v => {s with yg := v})) (js_seq (js_set 5 (get := S_lrow.ypile_here) (put := fun s v => {s with ypile_here := v}) (je_call j_lpile (ja1_bo 0 rfl (ja1_ex (je_s (jp_op jo_I0 (jp_v 1 rfl) (jp_v 4 rfl))) ja1_nil)) (ja2_ns 0 rfl (ja2_ex ja2_nil)) (ja3_ns 0 (get := S_lrow.yscript) (put := fun s v => {s with yscript := v}) (h := ja3_ex ja3_nil))))
  (js_drop (je_appV 3 (get := S_lrow.yrow_here) (put := fun s v => {s with yrow_here := v}) (je_op jo_mul (je_call j_lnumber (ja1_bo 5 rfl ja1_nil) (ja2_ns 5 rfl ja2_nil) (ja3_ns 5 (get := S_lrow.ypile_here) (put := fun s v => {s with ypile_here := v}) (h := ja3_nil))) (je_b1 jb_intB (je_op jo_B0 (je_call j_ltake (ja1_bo 5 rfl (ja1_ex (je_s (jp_i 3)) ja1_nil)) (ja2_ns 5 rfl (ja2_ex ja2_nil)) (ja3_ns 5 (get := S_lrow.ypile_here) (put := fun s v => {s with ypile_here := v}) (h := ja3_ex ja3_nil))) (je_s (jp_i 0))))) rfl rfl))))
  (js_ret (je_mv 3 rfl)))) (jout_keep dC rfl (jout_keep dC rfl (jout_keep dC rfl jout_nil)))⟩
noncomputable def t_lrow := T_lrow.1
theorem j_lrow : JF g_lrow t_lrow (Pc (rM rI) (Pc rI (Pc rI Pn))) (rL rI) (Pc (rM rI) (Pc rI (Pc rI Pn))) := T_lrow.2
structure S_sign_ahead where
 xnumber : Int
 xis_first : Bool
noncomputable def T_sign_ahead : {f : (Int × Bool × Unit) -> Option (Str × (Int × Bool × Unit)) // JF g_sign_ahead f (Pc rI (Pc rB Pn)) rS (Pc rI (Pc rB Pn))} := ⟨_, by
 exact jf_rt (S := S_sign_ahead) (N := 2) (W := []) (c := c_sign_ahead) (Γn := []) (ro := rS) (Γp := [some ⟨S_sign_ahead.xnumber, rI⟩, some ⟨S_sign_ahead.xis_first, rB⟩]) (Γr := [some ⟨S_sign_ahead.xnumber, rI⟩, some ⟨S_sign_ahead.xis_first, rB⟩]) (init := (fun p => (⟨p.1, p.2.1⟩ : S_sign_ahead))) (jin_cons (get := S_sign_ahead.xnumber) dC (fun _ => rfl) fun _ => (jin_cons (get := S_sign_ahead.xis_first) dC (fun _ => rfl) fun _ => jin_nil))
  (js_seq (js_if (Γ' := [some ⟨S_sign_ahead.xnumber, rI⟩, some ⟨S_sign_ahead.xis_first, rB⟩]) (jt_e (je_s (jp_v 1 rfl))) (js_ret (je_if (r := rS) (Γ' := [some ⟨S_sign_ahead.xnumber, rI⟩, some ⟨S_sign_ahead.xis_first, rB⟩]) (jt_e (je_op jo_B0 (je_s (jp_v 0 rfl)) (je_s (jp_i 0)))) (je_s (jp_s "-")) (je_s (jp_s "")))) js_skip)
  (js_ret (je_if (r := rS) (Γ' := [some ⟨S_sign_ahead.xnumber, rI⟩, some ⟨S_sign_ahead.xis_first, rB⟩]) (jt_e (je_op jo_B0 (je_s (jp_v 0 rfl)) (je_s (jp_i 0)))) (je_s (jp_s " - ")) (je_s (jp_s " + "))))) (jout_keep dC rfl (jout_keep dC rfl jout_nil))⟩
noncomputable def t_sign_ahead := T_sign_ahead.1
theorem j_sign_ahead : JF g_sign_ahead t_sign_ahead (Pc rI (Pc rB Pn)) rS (Pc rI (Pc rB Pn)) := T_sign_ahead.2
structure S_names_in where
 xn : Int
 xgroup : Int
noncomputable def T_names_in : {f : (Int × Int × Unit) -> Option ((List Int) × (Int × Int × Unit)) // JF g_names_in f (Pc rI (Pc rI Pn)) (rL rI) (Pc rI (Pc rI Pn))} := ⟨_, by
 exact jf_rt (S := S_names_in) (N := 2) (W := []) (c := c_names_in) (Γn := []) (ro := (rL rI)) (Γp := [some ⟨S_names_in.xn, rI⟩, some ⟨S_names_in.xgroup, rI⟩]) (Γr := [some ⟨S_names_in.xn, rI⟩, some ⟨S_names_in.xgroup, rI⟩]) (init := (fun p => (⟨p.1, p.2.1⟩ : S_names_in))) (jin_cons (get := S_names_in.xn) dC (fun _ => rfl) fun _ => (jin_cons (get := S_names_in.xgroup) dC (fun _ => rfl) fun _ => jin_nil))
  (js_ret (je_lc (ji_r1 (je_s (jp_v 0 rfl))) Le.refl (jgc1 2 rfl) (fun x2 => (jt_e (je_op jo_ne (je_s (jp_op jo_I0 (jp_v 1 rfl) (jp_op jo_I (jp_i 1) (jp_v 2 rfl)))) (je_s (jp_i 0))))) (fun x2 => (je_s (jp_v 2 rfl))))) (jout_keep dC rfl (jout_keep dC rfl jout_nil))⟩
noncomputable def t_names_in := T_names_in.1
theorem j_names_in : JF g_names_in t_names_in (Pc rI (Pc rI Pn)) (rL rI) (Pc rI (Pc rI Pn)) := T_names_in.2
structure S_show_group where
 xgroup : Int
noncomputable def T_show_group : {f : (Int × Unit) -> Option (Str × (Int × Unit)) // JF g_show_group f (Pc rI Pn) rS (Pc rI Pn)} := ⟨_, by
 exact jf_rt (S := S_show_group) (N := 1) (W := []) (c := c_show_group) (Γn := []) (ro := rS) (Γp := [some ⟨S_show_group.xgroup, rI⟩]) (Γr := [some ⟨S_show_group.xgroup, rI⟩]) (init := (fun p => (⟨p.1⟩ : S_show_group))) (jin_cons (get := S_show_group.xgroup) dC (fun _ => rfl) fun _ => jin_nil)
  (js_ret (je_join (je_s (jp_s "")) (je_lc (ji_lst (je_call j_names_in (ja1_ex (je_s (jp_i 4)) (ja1_bo 0 rfl ja1_nil)) (ja2_ex (ja2_sc 0 rfl ja2_nil)) (ja3_ex (ja3_sc 0 ja3_nil)))) Le.refl (jgc1 1 rfl) (fun x1 => jt_true) (fun x1 => (je_s (jp_op jo_ixS (jp_s "abcd") (jp_v 1 rfl))))))) (jout_keep dC rfl jout_nil)⟩
noncomputable def t_show_group := T_show_group.1
theorem j_show_group : JF g_show_group t_show_group (Pc rI Pn) rS (Pc rI Pn) := T_show_group.2
structure S_show_term where
 xgroup : Int
 xnumber : Int
 xsize : Int
 xletters : Str
noncomputable def T_show_term : {f : (Int × Int × Unit) -> Option (Str × (Int × Int × Unit)) // JF g_show_term f (Pc rI (Pc rI Pn)) rS (Pc rI (Pc rI Pn))} := ⟨_, by
 exact jf_rt (S := S_show_term) (N := 4) (W := [2, 3]) (c := c_show_term) (Γn := []) (ro := rS) (Γp := [some ⟨S_show_term.xgroup, rI⟩, some ⟨S_show_term.xnumber, rI⟩]) (Γr := [some ⟨S_show_term.xgroup, rI⟩, some ⟨S_show_term.xnumber, rI⟩, none, none]) (init := (fun p => (⟨p.1, p.2.1, 0, ""⟩ : S_show_term))) (jin_cons (get := S_show_term.xgroup) dC (fun _ => rfl) fun _ => (jin_cons (get := S_show_term.xnumber) dC (fun _ => rfl) fun _ => jin_nil))
  (js_seq (js_set 2 (get := S_show_term.xsize) (put := fun s v => {s with xsize := v}) (je_s (jp_b1 jb_abs (jp_v 1 rfl))))
  (js_seq (js_set 3 (get := S_show_term.xletters) (put := fun s v => {s with xletters := v}) (je_call j_show_group (ja1_bo 0 rfl ja1_nil) (ja2_sc 0 rfl ja2_nil) (ja3_sc 0 ja3_nil)))
  (js_ret (je_fs (jfs_cons (je_fvI (je_s (jp_v 2 rfl))) (jfs_cons (je_s (jp_s " h(")) (jfs_cons (je_fvS (je_s (jp_v 3 rfl))) (jfs_cons (je_s (jp_s ")")) jfs_nil)))))))) (jout_keep dC rfl (jout_keep dC rfl jout_nil))⟩
noncomputable def t_show_term := T_show_term.1
theorem j_show_term : JF g_show_term t_show_term (Pc rI (Pc rI Pn)) rS (Pc rI (Pc rI Pn)) := T_show_term.2
structure S_show_row where
 xn : Int
 xrow : List Int
 xshown : Str
 xgroup : Int
 xnumber : Int
noncomputable def T_show_row : {f : (Int × (List Int) × Unit) -> Option (Str × (Int × (List Int) × Unit)) // JF g_show_row f (Pc rI (Pc (rL rI) Pn)) rS (Pc rI (Pc (rM rI) Pn))} := ⟨_, by
 exact jf_rt (S := S_show_row) (N := 5) (W := [2, 3, 4, 2]) (c := c_show_row) (Γn := []) (ro := rS) (Γp := [some ⟨S_show_row.xn, rI⟩, some ⟨S_show_row.xrow, (rL rI)⟩]) (Γr := [some ⟨S_show_row.xn, rI⟩, some ⟨S_show_row.xrow, (rM rI)⟩, none, none, none]) (init := (fun p => (⟨p.1, p.2.1, "", 0, 0⟩ : S_show_row))) (jin_cons (get := S_show_row.xn) dC (fun _ => rfl) fun _ => (jin_cons (get := S_show_row.xrow) dC (fun _ => rfl) fun _ => jin_nil))
  (js_seq (js_set 2 (get := S_show_row.xshown) (put := fun s v => {s with xshown := v}) (je_s (jp_s "")))
  (js_seq (js_for (ji_en 1 (je_cp 1 rfl)) Le.refl (jg_t2 (jg_nm 3 (get := S_show_row.xgroup) (put := fun s v => {s with xgroup := v})) (jg_nm 4 (get := S_show_row.xnumber) (put := fun s v => {s with xnumber := v}))) (js_if (Γ' := [some ⟨S_show_row.xn, rI⟩, some ⟨S_show_row.xrow, (rM rI)⟩, some ⟨S_show_row.xshown, rS⟩, some ⟨S_show_row.xgroup, rI⟩, some ⟨S_show_row.xnumber, rI⟩]) (jt_e (je_op jo_ne (je_s (jp_v 4 rfl)) (je_s (jp_i 0)))) (js_set 2 (get := S_show_row.xshown) (put := fun s v => {s with xshown := v}) (je_op jo_addS (je_op jo_addS (je_s (jp_v 2 rfl)) (je_call j_sign_ahead (ja1_bo 4 rfl (ja1_ex (je_s (jp_op jo_eq (jp_v 2 rfl) (jp_s ""))) ja1_nil)) (ja2_sc 4 rfl (ja2_ex ja2_nil)) (ja3_sc 4 (ja3_ex ja3_nil)))) (je_call j_show_term (ja1_bo 3 rfl (ja1_bo 4 rfl ja1_nil)) (ja2_sc 3 rfl (ja2_sc 4 rfl ja2_nil)) (ja3_sc 3 (ja3_sc 4 ja3_nil))))) js_skip))
  (js_ret (je_if (r := rS) (Γ' := [some ⟨S_show_row.xn, rI⟩, some ⟨S_show_row.xrow, (rM rI)⟩, some ⟨S_show_row.xshown, rS⟩, none, none]) (jt_e (je_op jo_ne (je_s (jp_v 2 rfl)) (je_s (jp_s "")))) (je_s (jp_v 2 rfl)) (je_s (jp_s "0")))))) (jout_keep dC rfl (jout_keep dC rfl jout_nil))⟩
noncomputable def t_show_row := T_show_row.1
theorem j_show_row : JF g_show_row t_show_row (Pc rI (Pc (rL rI) Pn)) rS (Pc rI (Pc (rM rI) Pn)) := T_show_row.2
structure S_lletters where
 ygroup : Int
noncomputable def T_lletters : {f : (Int × Unit) -> Option (Str × (Int × Unit)) // JF g_lletters f (Pc rI Pn) rS (Pc rI Pn)} := ⟨_, by
 exact jf_rt (S := S_lletters) (N := 1) (W := []) (c := c_lletters) (Γn := []) (ro := rS) (Γp := [some ⟨S_lletters.ygroup, rI⟩]) (Γr := [some ⟨S_lletters.ygroup, rI⟩]) (init := (fun p => (⟨p.1⟩ : S_lletters))) (jin_cons (get := S_lletters.ygroup) dC (fun _ => rfl) fun _ => jin_nil)
  (js_ret (je_join (je_s (jp_s "")) (je_lc (ji_enumStr (je_s (jp_s "abcd"))) Le.refl (jgc2 1 2 rfl rfl) (fun x3 => (jt_e (je_op jo_eq (je_s (jp_op jo_I0 (jp_op jo_I (jp_v 0 rfl) (jp_v 1 rfl)) (jp_i 1))) (je_s (jp_i 1))))) (fun x3 => (je_s (jp_v 2 rfl)))))) (jout_keep dC rfl jout_nil)⟩
noncomputable def t_lletters := T_lletters.1
theorem j_lletters : JF g_lletters t_lletters (Pc rI Pn) rS (Pc rI Pn) := T_lletters.2
structure S_lshown where
 yrow_here : List Int
 ywords : List Str
 yplace : Int
 ynumber_here : Int
 ysign : Str
 ytext : Str
noncomputable def T_lshown : {f : ((List Int) × Unit) -> Option (Str × ((List Int) × Unit)) // JF g_lshown f (Pc (rL rI) Pn) rS (Pc (rM rI) Pn)} := ⟨_, by
 exact jf_rt (S := S_lshown) (N := 6) (W := [1, 2, 3, 4, 5]) (c := c_lshown) (Γn := []) (ro := rS) (Γp := [some ⟨S_lshown.yrow_here, (rL rI)⟩]) (Γr := [some ⟨S_lshown.yrow_here, (rM rI)⟩, none, none, none, none, none]) (init := (fun p => (⟨p.1, [], 0, 0, "", ""⟩ : S_lshown))) (jin_cons (get := S_lshown.yrow_here) dC (fun _ => rfl) fun _ => jin_nil)
  (js_seq (js_set 1 (get := S_lshown.ywords) (put := fun s v => {s with ywords := v}) (je_lst (jl_nil (r := rS))))
  (js_seq (js_for (ji_en 0 (je_cp 0 rfl)) Le.refl (jg_t2 (jg_nm 2 (get := S_lshown.yplace) (put := fun s v => {s with yplace := v})) (jg_nm 3 (get := S_lshown.ynumber_here) (put := fun s v => {s with ynumber_here := v}))) (js_if (Γ' := [some ⟨S_lshown.yrow_here, (rM rI)⟩, some ⟨S_lshown.ywords, (rL rS)⟩, some ⟨S_lshown.yplace, rI⟩, some ⟨S_lshown.ynumber_here, rI⟩, none, none]) (jt_e (je_op jo_ne (je_s (jp_v 3 rfl)) (je_s (jp_i 0)))) (js_seq (js_set 4 (get := S_lshown.ysign) (put := fun s v => {s with ysign := v}) (je_s (jp_op jo_ix (jp_lst (jpl_cons (jp_s " + ") (jpl_cons (jp_s " - ") jpl_nil))) (jp_b1 jb_intB (jp_op jo_B0 (jp_v 3 rfl) (jp_i 0))))))
  (js_drop (je_appV 1 (get := S_lshown.ywords) (put := fun s v => {s with ywords := v}) (je_op jo_addS (je_op jo_addS (je_s (jp_op jo_addS (jp_op jo_addS (jp_v 4 rfl) (jp_b1 jb_strI (jp_b1 jb_abs (jp_v 3 rfl)))) (jp_s " h("))) (je_call j_lletters (ja1_ex (je_s (jp_op jo_I0 (jp_v 2 rfl) (jp_i 1))) ja1_nil) (ja2_ex ja2_nil) (ja3_ex ja3_nil))) (je_s (jp_s ")"))) rfl rfl))) js_skip))
  (js_seq (js_set 5 (get := S_lshown.ytext) (put := fun s v => {s with ytext := v}) (je_join (je_s (jp_s "")) (je_cp 1 rfl)))
  (js_seq (js_if (Γ' := [some ⟨S_lshown.yrow_here, (rM rI)⟩, some ⟨S_lshown.ywords, (rM rS)⟩, none, none, none, some ⟨S_lshown.ytext, rS⟩]) (jt_e (je_op jo_eq (je_s (jp_v 5 rfl)) (je_s (jp_s "")))) (js_ret (je_s (jp_s "0"))) js_skip)
  (js_seq (js_if (Γ' := [some ⟨S_lshown.yrow_here, (rM rI)⟩, some ⟨S_lshown.ywords, (rM rS)⟩, none, none, none, some ⟨S_lshown.ytext, rS⟩]) (jt_e (je_op jo_eq (je_s (jp_op jo_ixS (jp_v 5 rfl) (jp_i 1))) (je_s (jp_s "-")))) (js_ret (je_op jo_addS (je_s (jp_s "-")) (je_slS (je_s (jp_v 5 rfl)) (jop_some (jp_i 3)) jop_none))) js_skip)
  (js_ret (je_slS (je_s (jp_v 5 rfl)) (jop_some (jp_i 3)) jop_none))))))) (jout_keep dC rfl jout_nil)⟩
noncomputable def t_lshown := T_lshown.1
theorem j_lshown : JF g_lshown t_lshown (Pc (rL rI) Pn) rS (Pc (rM rI) Pn) := T_lshown.2
structure S_all_names where
 xn : Int
noncomputable def T_all_names : {f : (Int × Unit) -> Option (Int × (Int × Unit)) // JF g_all_names f (Pc rI Pn) rI (Pc rI Pn)} := ⟨_, by
 exact jf_rt (S := S_all_names) (N := 1) (W := []) (c := c_all_names) (Γn := []) (ro := rI) (Γp := [some ⟨S_all_names.xn, rI⟩]) (Γr := [some ⟨S_all_names.xn, rI⟩]) (init := (fun p => (⟨p.1⟩ : S_all_names))) (jin_cons (get := S_all_names.xn) dC (fun _ => rfl) fun _ => jin_nil)
  (js_ret (je_s (jp_op jo_I0 (jp_op jo_I (jp_i 1) (jp_v 0 rfl)) (jp_i 1)))) (jout_keep dC rfl jout_nil)⟩
noncomputable def t_all_names := T_all_names.1
theorem j_all_names : JF g_all_names t_all_names (Pc rI Pn) rI (Pc rI Pn) := T_all_names.2
structure S_signed_terms where
 xtext : Str
 xsigns : List Int
 xterms : List (List Str)
 xword : Str
noncomputable def T_signed_terms : {f : (Str × Unit) -> Option ((List (Int × (List Str))) × (Str × Unit)) // JF g_signed_terms f (Pc rS Pn) (rL (rT2 rI (rM rS))) (Pc rS Pn)} := ⟨_, by
 exact jf_rt (S := S_signed_terms) (N := 4) (W := [1, 2, 3]) (c := c_signed_terms) (Γn := []) (ro := (rL (rT2 rI (rM rS)))) (Γp := [some ⟨S_signed_terms.xtext, rS⟩]) (Γr := [some ⟨S_signed_terms.xtext, rS⟩, none, none, none]) (init := (fun p => (⟨p.1, [], [], ""⟩ : S_signed_terms))) (jin_cons (get := S_signed_terms.xtext) dC (fun _ => rfl) fun _ => jin_nil)
  (js_seq (js_set 1 (get := S_signed_terms.xsigns) (put := fun s v => {s with xsigns := v}) (je_lst (r := rI) (jl_cons (je_if (r := rI) (Γ' := [some ⟨S_signed_terms.xtext, rS⟩, none, none, none]) (jt_e (je_starts (je_s (jp_v 0 rfl)) (je_s (jp_s "-")))) (je_s (jp_neg (jp_i 1))) (je_s (jp_i 1))) jl_nil)))
  (js_seq (js_set 2 (get := S_signed_terms.xterms) (put := fun s v => {s with xterms := v}) (je_lst (r := (rL rS)) (jl_cons (je_lst (jl_nil (r := rS))) jl_nil)))
  (js_seq (js_for (ji_lst (je_split (je_if (r := rS) (Γ' := [some ⟨S_signed_terms.xtext, rS⟩, some ⟨S_signed_terms.xsigns, (rL rI)⟩, some ⟨S_signed_terms.xterms, (rL (rL rS))⟩, none]) (jt_e (je_op jo_eq (je_s (jp_op jo_ix (jp_v 1 rfl) (jp_i 0))) (je_s (jp_neg (jp_i 1))))) (je_slS (je_s (jp_v 0 rfl)) (jop_some (jp_i 1)) jop_none) (je_s (jp_v 0 rfl))) (je_s (jp_s " ")))) Le.refl (jg_nm 3 (get := S_signed_terms.xword) (put := fun s v => {s with xword := v})) (js_if (Γ' := [some ⟨S_signed_terms.xtext, rS⟩, some ⟨S_signed_terms.xsigns, (rL rI)⟩, some ⟨S_signed_terms.xterms, (rL (rL rS))⟩, some ⟨S_signed_terms.xword, rS⟩]) (jt_or (jt_e (je_op jo_eq (je_s (jp_v 3 rfl)) (je_s (jp_s "+")))) (jt_e (je_op jo_eq (je_s (jp_v 3 rfl)) (je_s (jp_s "-"))))) (js_seq (js_drop (je_appV 1 (get := S_signed_terms.xsigns) (put := fun s v => {s with xsigns := v}) (je_if (r := rI) (Γ' := [some ⟨S_signed_terms.xtext, rS⟩, some ⟨S_signed_terms.xsigns, (rL rI)⟩, some ⟨S_signed_terms.xterms, (rL (rL rS))⟩, some ⟨S_signed_terms.xword, rS⟩]) (jt_e (je_op jo_eq (je_s (jp_v 3 rfl)) (je_s (jp_s "+")))) (je_s (jp_i 1)) (je_s (jp_neg (jp_i 1)))) rfl rfl))
  (js_drop (je_appV 2 (get := S_signed_terms.xterms) (put := fun s v => {s with xterms := v}) (je_lst (jl_nil (r := rS))) rfl rfl))) (js_drop (je_appQ 2 (get := S_signed_terms.xterms) (put := fun s v => {s with xterms := v}) (jp_v 3 rfl) (jp_neg (jp_i 1)) rfl))))
  (js_ret (je_lz (je_cp 1 rfl) (je_cp 2 rfl)))))) (jout_keep dC rfl jout_nil)⟩
noncomputable def t_signed_terms := T_signed_terms.1
theorem j_signed_terms : JF g_signed_terms t_signed_terms (Pc rS Pn) (rL (rT2 rI (rM rS))) (Pc rS Pn) := T_signed_terms.2
structure S_read_number where
 xtext : Str
 xfigures : Str
noncomputable def T_read_number : {f : (Str × Unit) -> Option (Int × (Str × Unit)) // JF g_read_number f (Pc rS Pn) rI (Pc rS Pn)} := ⟨_, by
 exact jf_rt (S := S_read_number) (N := 2) (W := [1]) (c := c_read_number) (Γn := []) (ro := rI) (Γp := [some ⟨S_read_number.xtext, rS⟩]) (Γr := [some ⟨S_read_number.xtext, rS⟩, none]) (init := (fun p => (⟨p.1, ""⟩ : S_read_number))) (jin_cons (get := S_read_number.xtext) dC (fun _ => rfl) fun _ => jin_nil)
  (js_seq (js_set 1 (get := S_read_number.xfigures) (put := fun s v => {s with xfigures := v}) (je_if (r := rS) (Γ' := [some ⟨S_read_number.xtext, rS⟩, none]) (jt_e (je_starts (je_s (jp_v 0 rfl)) (je_s (jp_s "-")))) (je_slS (je_cp 0 rfl) (jop_some (jp_i 1)) jop_none) (je_s (jp_v 0 rfl))))
  (js_seq (js_if (Γ' := [some ⟨S_read_number.xtext, rS⟩, some ⟨S_read_number.xfigures, rS⟩]) (jt_or (jt_e (je_op jo_B0 (je_s (jp_b1 jb_lenS (jp_v 1 rfl))) (je_s (jp_i 1)))) (jt_or (jt_e (je_op jo_B0 (je_s (jp_b1 jb_lenS (jp_v 1 rfl))) (je_s (jp_i 2000)))) (jt_not (jt_e (je_b1 jb_all (je_lc (ji_str (je_s (jp_v 1 rfl))) Le.refl (jgc1 2 rfl) (fun x5 => jt_true) (fun x5 => (je_s (jp_op jo_inS (jp_v 2 rfl) (jp_s "0123456789")))))))))) js_dead js_skip)
  (js_seq (js_if (Γ' := [some ⟨S_read_number.xtext, rS⟩, some ⟨S_read_number.xfigures, rS⟩]) (jt_and (jt_e (je_op jo_eq (je_s (jp_op jo_ixS (jp_v 1 rfl) (jp_i 0))) (je_s (jp_s "0")))) (jt_e (je_s (jp_op jo_ne (jp_v 0 rfl) (jp_s "0"))))) js_dead js_skip)
  (js_ret (je_s (jp_b1 jb_intT (jp_v 0 rfl))))))) (jout_keep dC rfl jout_nil)⟩
noncomputable def t_read_number := T_read_number.1
theorem j_read_number : JF g_read_number t_read_number (Pc rS Pn) rI (Pc rS Pn) := T_read_number.2
structure S_read_whole where
 xtext : Str
 xnumber : Int
noncomputable def T_read_whole : {f : (Str × Unit) -> Option (Int × (Str × Unit)) // JF g_read_whole f (Pc rS Pn) rI (Pc rS Pn)} := ⟨_, by
 exact jf_rt (S := S_read_whole) (N := 2) (W := [1]) (c := c_read_whole) (Γn := []) (ro := rI) (Γp := [some ⟨S_read_whole.xtext, rS⟩]) (Γr := [some ⟨S_read_whole.xtext, rS⟩, none]) (init := (fun p => (⟨p.1, 0⟩ : S_read_whole))) (jin_cons (get := S_read_whole.xtext) dC (fun _ => rfl) fun _ => jin_nil)
  (js_seq (js_set 1 (get := S_read_whole.xnumber) (put := fun s v => {s with xnumber := v}) (je_call j_read_number (ja1_bo 0 rfl ja1_nil) (ja2_sc 0 rfl ja2_nil) (ja3_sc 0 ja3_nil)))
  (js_seq (js_if (Γ' := [some ⟨S_read_whole.xtext, rS⟩, some ⟨S_read_whole.xnumber, rI⟩]) (jt_e (je_op jo_B0 (je_s (jp_b1 jb_abs (jp_v 1 rfl))) (je_s (jp_op jo_I (jp_i 10) (jp_i 40))))) js_dead js_skip)
  (js_ret (je_s (jp_v 1 rfl))))) (jout_keep dC rfl jout_nil)⟩
noncomputable def t_read_whole := T_read_whole.1
theorem j_read_whole : JF g_read_whole t_read_whole (Pc rS Pn) rI (Pc rS Pn) := T_read_whole.2
structure S_read_count where
 xtext : Str
 xleast : Int
 xnumber : Int
noncomputable def T_read_count : {f : (Str × Int × Unit) -> Option (Int × (Str × Int × Unit)) // JF g_read_count f (Pc rS (Pc rI Pn)) rI (Pc rS (Pc rI Pn))} := ⟨_, by
 exact jf_rt (S := S_read_count) (N := 3) (W := [2]) (c := c_read_count) (Γn := []) (ro := rI) (Γp := [some ⟨S_read_count.xtext, rS⟩, some ⟨S_read_count.xleast, rI⟩]) (Γr := [some ⟨S_read_count.xtext, rS⟩, some ⟨S_read_count.xleast, rI⟩, none]) (init := (fun p => (⟨p.1, p.2.1, 0⟩ : S_read_count))) (jin_cons (get := S_read_count.xtext) dC (fun _ => rfl) fun _ => (jin_cons (get := S_read_count.xleast) dC (fun _ => rfl) fun _ => jin_nil))
  (js_seq (js_set 2 (get := S_read_count.xnumber) (put := fun s v => {s with xnumber := v}) (je_call j_read_whole (ja1_bo 0 rfl ja1_nil) (ja2_sc 0 rfl ja2_nil) (ja3_sc 0 ja3_nil)))
  (js_seq (js_if (Γ' := [some ⟨S_read_count.xtext, rS⟩, some ⟨S_read_count.xleast, rI⟩, some ⟨S_read_count.xnumber, rI⟩]) (jt_e (je_op jo_B0 (je_s (jp_v 2 rfl)) (je_s (jp_v 1 rfl)))) js_dead js_skip)
  (js_ret (je_s (jp_v 2 rfl))))) (jout_keep dC rfl (jout_keep dC rfl jout_nil))⟩
noncomputable def t_read_count := T_read_count.1
theorem j_read_count : JF g_read_count t_read_count (Pc rS (Pc rI Pn)) rI (Pc rS (Pc rI Pn)) := T_read_count.2
structure S_read_group where
 xn : Int
 xtext : Str
 xgroup : Int
noncomputable def T_read_group : {f : (Int × Str × Unit) -> Option (Int × (Int × Str × Unit)) // JF g_read_group f (Pc rI (Pc rS Pn)) rI (Pc rI (Pc rS Pn))} := ⟨_, by
 exact jf_rt (S := S_read_group) (N := 3) (W := [2]) (c := c_read_group) (Γn := []) (ro := rI) (Γp := [some ⟨S_read_group.xn, rI⟩, some ⟨S_read_group.xtext, rS⟩]) (Γr := [some ⟨S_read_group.xn, rI⟩, some ⟨S_read_group.xtext, rS⟩, none]) (init := (fun p => (⟨p.1, p.2.1, 0⟩ : S_read_group))) (jin_cons (get := S_read_group.xn) dC (fun _ => rfl) fun _ => (jin_cons (get := S_read_group.xtext) dC (fun _ => rfl) fun _ => jin_nil))
  (js_seq (js_for (ji_r2 (je_s (jp_i 1)) (je_op jo_I0 (je_call j_all_names (ja1_bo 0 rfl ja1_nil) (ja2_sc 0 rfl ja2_nil) (ja3_sc 0 ja3_nil)) (je_s (jp_i 1)))) Le.refl (jg_nm 2 (get := S_read_group.xgroup) (put := fun s v => {s with xgroup := v})) (js_if (Γ' := [some ⟨S_read_group.xn, rI⟩, some ⟨S_read_group.xtext, rS⟩, some ⟨S_read_group.xgroup, rI⟩]) (jt_e (je_op jo_eq (je_call j_show_group (ja1_bo 2 rfl ja1_nil) (ja2_sc 2 rfl ja2_nil) (ja3_sc 2 ja3_nil)) (je_s (jp_v 1 rfl)))) (js_ret (je_s (jp_v 2 rfl))) js_skip))
  js_dead) (jout_keep dC rfl (jout_keep dC rfl jout_nil))⟩
noncomputable def t_read_group := T_read_group.1
theorem j_read_group : JF g_read_group t_read_group (Pc rI (Pc rS Pn)) rI (Pc rI (Pc rS Pn)) := T_read_group.2
structure S_read_known where
 xn : Int
 xparts : List Str
noncomputable def T_read_known : {f : (Int × (List Str) × Unit) -> Option (Int × (Int × (List Str) × Unit)) // JF g_read_known f (Pc rI (Pc (rL rS) Pn)) rI (Pc rI (Pc (rM rS) Pn))} := ⟨_, by
 exact jf_rt (S := S_read_known) (N := 2) (W := []) (c := c_read_known) (Γn := []) (ro := rI) (Γp := [some ⟨S_read_known.xn, rI⟩, some ⟨S_read_known.xparts, (rL rS)⟩]) (Γr := [some ⟨S_read_known.xn, rI⟩, some ⟨S_read_known.xparts, (rM rS)⟩]) (init := (fun p => (⟨p.1, p.2.1⟩ : S_read_known))) (jin_cons (get := S_read_known.xn) dC (fun _ => rfl) fun _ => (jin_cons (get := S_read_known.xparts) dC (fun _ => rfl) fun _ => jin_nil))
  (js_seq (js_if (Γ' := [some ⟨S_read_known.xn, rI⟩, some ⟨S_read_known.xparts, (rL rS)⟩]) (jt_e (je_op jo_B0 (je_s (jp_b1 jb_len (jp_v 1 rfl))) (je_s (jp_i 2)))) js_dead js_skip)
  (js_ret (je_if (r := rI) (Γ' := [some ⟨S_read_known.xn, rI⟩, some ⟨S_read_known.xparts, (rM rS)⟩]) (jt_e (je_op jo_eq (je_s (jp_b1 jb_len (jp_v 1 rfl))) (je_s (jp_i 2)))) (je_call j_read_group (ja1_bo 0 rfl (ja1_ex (je_ix (je_cp 1 rfl) (je_s (jp_i 1))) ja1_nil)) (ja2_sc 0 rfl (ja2_ex ja2_nil)) (ja3_sc 0 (ja3_ex ja3_nil))) (je_s (jp_i 0))))) (jout_keep dC rfl (jout_keep dC rfl jout_nil))⟩
noncomputable def t_read_known := T_read_known.1
theorem j_read_known : JF g_read_known t_read_known (Pc rI (Pc (rL rS) Pn)) rI (Pc rI (Pc (rM rS) Pn)) := T_read_known.2
structure S_row_of_terms where
 xn : Int
 xterms : List (Int × Int)
 xrow : List Int
 xgroup : Int
 xnumber : Int
noncomputable def T_row_of_terms : {f : (Int × (List (Int × Int)) × Unit) -> Option ((List Int) × (Int × (List (Int × Int)) × Unit)) // JF g_row_of_terms f (Pc rI (Pc (rL (rT2 rI rI)) Pn)) (rL rI) (Pc rI (Pc (rM (rT2 rI rI)) Pn))} := ⟨_, by
 exact jf_rt (S := S_row_of_terms) (N := 5) (W := [2, 3, 4]) (c := c_row_of_terms) (Γn := []) (ro := (rL rI)) (Γp := [some ⟨S_row_of_terms.xn, rI⟩, some ⟨S_row_of_terms.xterms, (rL (rT2 rI rI))⟩]) (Γr := [some ⟨S_row_of_terms.xn, rI⟩, some ⟨S_row_of_terms.xterms, (rM (rT2 rI rI))⟩, none, none, none]) (init := (fun p => (⟨p.1, p.2.1, [], 0, 0⟩ : S_row_of_terms))) (jin_cons (get := S_row_of_terms.xn) dC (fun _ => rfl) fun _ => (jin_cons (get := S_row_of_terms.xterms) dC (fun _ => rfl) fun _ => jin_nil))
  (js_seq (js_set 2 (get := S_row_of_terms.xrow) (put := fun s v => {s with xrow := v}) (je_rep (je_lst (r := rI) (jl_cons (je_s (jp_i 0)) jl_nil)) (je_call j_all_names (ja1_bo 0 rfl ja1_nil) (ja2_sc 0 rfl ja2_nil) (ja3_sc 0 ja3_nil))))
  (js_seq (js_for (ji_lst (je_cp 1 rfl)) Le.refl (jg_t2 (jg_nm 3 (get := S_row_of_terms.xgroup) (put := fun s v => {s with xgroup := v})) (jg_nm 4 (get := S_row_of_terms.xnumber) (put := fun s v => {s with xnumber := v}))) (js_if (Γ' := [some ⟨S_row_of_terms.xn, rI⟩, some ⟨S_row_of_terms.xterms, (rM (rT2 rI rI))⟩, some ⟨S_row_of_terms.xrow, (rL rI)⟩, some ⟨S_row_of_terms.xgroup, rI⟩, some ⟨S_row_of_terms.xnumber, rI⟩]) (jt_e (je_op jo_ne (je_s (jp_v 3 rfl)) (je_s (jp_i 0)))) (js_augS 2 (get := S_row_of_terms.xrow) (put := fun s v => {s with xrow := v}) jo_I0 (jp_op jo_I0 (jp_v 3 rfl) (jp_i 1)) (jp_v 4 rfl) rfl) js_skip))
  (js_ret (je_mv 2 rfl)))) (jout_keep dC rfl (jout_keep dC rfl jout_nil))⟩
noncomputable def t_row_of_terms := T_row_of_terms.1
theorem j_row_of_terms : JF g_row_of_terms t_row_of_terms (Pc rI (Pc (rL (rT2 rI rI)) Pn)) (rL rI) (Pc rI (Pc (rM (rT2 rI rI)) Pn)) := T_row_of_terms.2
structure S_rest_row where
 xn : Int
 xa : Int
 xb : Int
noncomputable def T_rest_row : {f : (Int × Int × Int × Unit) -> Option ((List Int) × (Int × Int × Int × Unit)) // JF g_rest_row f (Pc rI (Pc rI (Pc rI Pn))) (rL rI) (Pc rI (Pc rI (Pc rI Pn)))} := ⟨_, by
 exact jf_rt (S := S_rest_row) (N := 3) (W := []) (c := c_rest_row) (Γn := []) (ro := (rL rI)) (Γp := [some ⟨S_rest_row.xn, rI⟩, some ⟨S_rest_row.xa, rI⟩, some ⟨S_rest_row.xb, rI⟩]) (Γr := [some ⟨S_rest_row.xn, rI⟩, some ⟨S_rest_row.xa, rI⟩, some ⟨S_rest_row.xb, rI⟩]) (init := (fun p => (⟨p.1, p.2.1, p.2.2.1⟩ : S_rest_row))) (jin_cons (get := S_rest_row.xn) dC (fun _ => rfl) fun _ => (jin_cons (get := S_rest_row.xa) dC (fun _ => rfl) fun _ => (jin_cons (get := S_rest_row.xb) dC (fun _ => rfl) fun _ => jin_nil)))
  (js_ret (je_call j_row_of_terms (ja1_bo 0 rfl (ja1_ex (je_lst (r := (rT2 rI rI)) (jl_cons (je_t2 (je_s (jp_op jo_I0 (jp_v 1 rfl) (jp_v 2 rfl))) (je_s (jp_i 1))) (jl_cons (je_t2 (je_s (jp_v 2 rfl)) (je_s (jp_neg (jp_i 1)))) jl_nil))) ja1_nil)) (ja2_sc 0 rfl (ja2_ex ja2_nil)) (ja3_sc 0 (ja3_ex ja3_nil)))) (jout_keep dC rfl (jout_keep dC rfl (jout_keep dC rfl jout_nil)))⟩
noncomputable def t_rest_row := T_rest_row.1
theorem j_rest_row : JF g_rest_row t_rest_row (Pc rI (Pc rI (Pc rI Pn))) (rL rI) (Pc rI (Pc rI (Pc rI Pn))) := T_rest_row.2
structure S_read_rest where
 xn : Int
 xtext : Str
 xparts : List Str
 xknown : Int
noncomputable def T_read_rest : {f : (Int × Str × Unit) -> Option ((List Int) × (Int × Str × Unit)) // JF g_read_rest f (Pc rI (Pc rS Pn)) (rL rI) (Pc rI (Pc rS Pn))} := ⟨_, by
 exact jf_rt (S := S_read_rest) (N := 4) (W := [2, 3]) (c := c_read_rest) (Γn := []) (ro := (rL rI)) (Γp := [some ⟨S_read_rest.xn, rI⟩, some ⟨S_read_rest.xtext, rS⟩]) (Γr := [some ⟨S_read_rest.xn, rI⟩, some ⟨S_read_rest.xtext, rS⟩, none, none]) (init := (fun p => (⟨p.1, p.2.1, [], 0⟩ : S_read_rest))) (jin_cons (get := S_read_rest.xn) dC (fun _ => rfl) fun _ => (jin_cons (get := S_read_rest.xtext) dC (fun _ => rfl) fun _ => jin_nil))
  (js_seq (js_set 2 (get := S_read_rest.xparts) (put := fun s v => {s with xparts := v}) (je_split (je_s (jp_v 1 rfl)) (je_s (jp_s "|"))))
  (js_seq (js_set 3 (get := S_read_rest.xknown) (put := fun s v => {s with xknown := v}) (je_call j_read_known (ja1_bo 0 rfl (ja1_bo 2 rfl ja1_nil)) (ja2_sc 0 rfl (ja2_ns 2 rfl ja2_nil)) (ja3_sc 0 (ja3_ns 2 (get := S_read_rest.xparts) (put := fun s v => {s with xparts := v}) (h := ja3_nil)))))
  (js_ret (je_call j_rest_row (ja1_bo 0 rfl (ja1_ex (je_call j_read_group (ja1_bo 0 rfl (ja1_ex (je_s (jp_op jo_ix (jp_v 2 rfl) (jp_i 0))) ja1_nil)) (ja2_sc 0 rfl (ja2_ex ja2_nil)) (ja3_sc 0 (ja3_ex ja3_nil))) (ja1_bo 3 rfl ja1_nil))) (ja2_sc 0 rfl (ja2_ex (ja2_sc 3 rfl ja2_nil))) (ja3_sc 0 (ja3_ex (ja3_sc 3 ja3_nil))))))) (jout_keep dC rfl (jout_keep dC rfl jout_nil))⟩
noncomputable def t_read_rest := T_read_rest.1
theorem j_read_rest : JF g_read_rest t_read_rest (Pc rI (Pc rS Pn)) (rL rI) (Pc rI (Pc rS Pn)) := T_read_rest.2
structure S_read_form where
 xn : Int
 xtext : Str
noncomputable def T_read_form : {f : (Int × Str × Unit) -> Option ((List Int) × (Int × Str × Unit)) // JF g_read_form f (Pc rI (Pc rS Pn)) (rL rI) (Pc rI (Pc rS Pn))} := ⟨_, by
 exact jf_rt (S := S_read_form) (N := 2) (W := []) (c := c_read_form) (Γn := []) (ro := (rL rI)) (Γp := [some ⟨S_read_form.xn, rI⟩, some ⟨S_read_form.xtext, rS⟩]) (Γr := [some ⟨S_read_form.xn, rI⟩, some ⟨S_read_form.xtext, rS⟩]) (init := (fun p => (⟨p.1, p.2.1⟩ : S_read_form))) (jin_cons (get := S_read_form.xn) dC (fun _ => rfl) fun _ => (jin_cons (get := S_read_form.xtext) dC (fun _ => rfl) fun _ => jin_nil))
  (js_seq (js_if (Γ' := [some ⟨S_read_form.xn, rI⟩, some ⟨S_read_form.xtext, rS⟩]) (jt_and (jt_e (je_starts (je_s (jp_v 1 rfl)) (je_s (jp_s "h(")))) (jt_e (je_ends (je_s (jp_v 1 rfl)) (je_s (jp_s ")"))))) (js_ret (je_call j_read_rest (ja1_bo 0 rfl (ja1_ex (je_slS (je_s (jp_v 1 rfl)) (jop_some (jp_i 2)) (jop_some (jp_neg (jp_i 1)))) ja1_nil)) (ja2_sc 0 rfl (ja2_ex ja2_nil)) (ja3_sc 0 (ja3_ex ja3_nil)))) js_skip)
  js_dead) (jout_keep dC rfl (jout_keep dC rfl jout_nil))⟩
noncomputable def t_read_form := T_read_form.1
theorem j_read_form : JF g_read_form t_read_form (Pc rI (Pc rS Pn)) (rL rI) (Pc rI (Pc rS Pn)) := T_read_form.2
structure S_read_term where
 xn : Int
 xsign : Int
 xwords : List Str
 xnumber : Int
noncomputable def T_read_term : {f : (Int × Int × (List Str) × Unit) -> Option ((List Int) × (Int × Int × (List Str) × Unit)) // JF g_read_term f (Pc rI (Pc rI (Pc (rM rS) Pn))) (rL rI) (Pc rI (Pc rI (Pc (rM rS) Pn)))} := ⟨_, by
 exact jf_rt (S := S_read_term) (N := 4) (W := [3]) (c := c_read_term) (Γn := []) (ro := (rL rI)) (Γp := [some ⟨S_read_term.xn, rI⟩, some ⟨S_read_term.xsign, rI⟩, some ⟨S_read_term.xwords, (rM rS)⟩]) (Γr := [some ⟨S_read_term.xn, rI⟩, some ⟨S_read_term.xsign, rI⟩, some ⟨S_read_term.xwords, (rM rS)⟩, none]) (init := (fun p => (⟨p.1, p.2.1, p.2.2.1, 0⟩ : S_read_term))) (jin_cons (get := S_read_term.xn) dC (fun _ => rfl) fun _ => (jin_cons (get := S_read_term.xsign) dC (fun _ => rfl) fun _ => (jin_cons (get := S_read_term.xwords) dC (fun _ => rfl) fun _ => jin_nil)))
  (js_seq (js_if (Γ' := [some ⟨S_read_term.xn, rI⟩, some ⟨S_read_term.xsign, rI⟩, some ⟨S_read_term.xwords, (rM rS)⟩, some ⟨S_read_term.xnumber, rI⟩]) (jt_e (je_op jo_eq (je_s (jp_b1 jb_len (jp_v 2 rfl))) (je_s (jp_i 1)))) js_dead (js_if (Γ' := [some ⟨S_read_term.xn, rI⟩, some ⟨S_read_term.xsign, rI⟩, some ⟨S_read_term.xwords, (rM rS)⟩, some ⟨S_read_term.xnumber, rI⟩]) (jt_e (je_op jo_eq (je_s (jp_b1 jb_len (jp_v 2 rfl))) (je_s (jp_i 2)))) (js_set 3 (get := S_read_term.xnumber) (put := fun s v => {s with xnumber := v}) (je_op jo_mul (je_s (jp_v 1 rfl)) (je_call j_read_count (ja1_ex (je_s (jp_op jo_ix (jp_v 2 rfl) (jp_i 0))) (ja1_ex (je_s (jp_i 1)) ja1_nil)) (ja2_ex (ja2_ex ja2_nil)) (ja3_ex (ja3_ex ja3_nil))))) js_dead))
  (js_ret (je_lc (ji_lst (je_call j_read_form (ja1_bo 0 rfl (ja1_ex (je_s (jp_op jo_ix (jp_v 2 rfl) (jp_neg (jp_i 1)))) ja1_nil)) (ja2_sc 0 rfl (ja2_ex ja2_nil)) (ja3_sc 0 (ja3_ex ja3_nil)))) Le.refl (jgc1 4 rfl) (fun x6 => jt_true) (fun x6 => (je_s (jp_op jo_mul (jp_v 3 rfl) (jp_v 4 rfl))))))) (jout_keep dC rfl (jout_keep dC rfl (jout_keep dC rfl jout_nil)))⟩
noncomputable def t_read_term := T_read_term.1
theorem j_read_term : JF g_read_term t_read_term (Pc rI (Pc rI (Pc (rM rS) Pn))) (rL rI) (Pc rI (Pc rI (Pc (rM rS) Pn))) := T_read_term.2
structure S_read_row where
 xn : Int
 xtext : Str
 xrow : List Int
 xsign : Int
 xwords : List Str
noncomputable def T_read_row : {f : (Int × Str × Unit) -> Option ((List Int) × (Int × Str × Unit)) // JF g_read_row f (Pc rI (Pc rS Pn)) (rL rI) (Pc rI (Pc rS Pn))} := ⟨_, by
 exact jf_rt (S := S_read_row) (N := 5) (W := [2, 3, 4, 2]) (c := c_read_row) (Γn := []) (ro := (rL rI)) (Γp := [some ⟨S_read_row.xn, rI⟩, some ⟨S_read_row.xtext, rS⟩]) (Γr := [some ⟨S_read_row.xn, rI⟩, some ⟨S_read_row.xtext, rS⟩, none, none, none]) (init := (fun p => (⟨p.1, p.2.1, [], 0, []⟩ : S_read_row))) (jin_cons (get := S_read_row.xn) dC (fun _ => rfl) fun _ => (jin_cons (get := S_read_row.xtext) dC (fun _ => rfl) fun _ => jin_nil))
  (js_seq (js_set 2 (get := S_read_row.xrow) (put := fun s v => {s with xrow := v}) (je_rep (je_lst (r := rI) (jl_cons (je_s (jp_i 0)) jl_nil)) (je_call j_all_names (ja1_bo 0 rfl ja1_nil) (ja2_sc 0 rfl ja2_nil) (ja3_sc 0 ja3_nil))))
  (js_seq (js_if (Γ' := [some ⟨S_read_row.xn, rI⟩, some ⟨S_read_row.xtext, rS⟩, some ⟨S_read_row.xrow, (rL rI)⟩, none, none]) (jt_e (je_op jo_eq (je_s (jp_v 1 rfl)) (je_s (jp_s "0")))) (js_ret (je_mv 2 rfl)) js_skip)
  (js_seq (js_for (ji_lst (je_call j_signed_terms (ja1_bo 1 rfl ja1_nil) (ja2_sc 1 rfl ja2_nil) (ja3_sc 1 ja3_nil))) Le.refl (jg_t2 (jg_nm 3 (get := S_read_row.xsign) (put := fun s v => {s with xsign := v})) (jg_nm 4 (get := S_read_row.xwords) (put := fun s v => {s with xwords := v}))) (js_set 2 (get := S_read_row.xrow) (put := fun s v => {s with xrow := v}) (je_lc (ji_zip (je_cp 2 rfl) (je_call j_read_term (ja1_bo 0 rfl (ja1_bo 3 rfl (ja1_bo 4 rfl ja1_nil))) (ja2_sc 0 rfl (ja2_sc 3 rfl (ja2_ns 4 rfl ja2_nil))) (ja3_sc 0 (ja3_sc 3 (ja3_ns 4 (get := S_read_row.xwords) (put := fun s v => {s with xwords := v}) (h := ja3_nil)))))) Le.refl (jgc2 5 6 rfl rfl) (fun x4 => jt_true) (fun x4 => (je_s (jp_op jo_I0 (jp_v 5 rfl) (jp_v 6 rfl)))))))
  (js_ret (je_mv 2 rfl))))) (jout_keep dC rfl (jout_keep dC rfl jout_nil))⟩
noncomputable def t_read_row := T_read_row.1
theorem j_read_row : JF g_read_row t_read_row (Pc rI (Pc rS Pn)) (rL rI) (Pc rI (Pc rS Pn)) := T_read_row.2
structure S_lsame where
 yfound : List Int
 ydue : List Int
noncomputable def T_lsame : {f : ((List Int) × (List Int) × Unit) -> Option (Bool × ((List Int) × (List Int) × Unit)) // JF g_lsame f (Pc (rL rI) (Pc (rM rI) Pn)) rB (Pc (rL rI) (Pc (rM rI) Pn))} := ⟨_, by
 exact jf_rt (S := S_lsame) (N := 2) (W := []) (c := c_lsame) (Γn := []) (ro := rB) (Γp := [some ⟨S_lsame.yfound, (rL rI)⟩, some ⟨S_lsame.ydue, (rM rI)⟩]) (Γr := [some ⟨S_lsame.yfound, (rL rI)⟩, some ⟨S_lsame.ydue, (rM rI)⟩]) (init := (fun p => (⟨p.1, p.2.1⟩ : S_lsame))) (jin_cons (get := S_lsame.yfound) dC (fun _ => rfl) fun _ => (jin_cons (get := S_lsame.ydue) dC (fun _ => rfl) fun _ => jin_nil))
  (js_seq (js_if (Γ' := [some ⟨S_lsame.yfound, (rL rI)⟩, some ⟨S_lsame.ydue, (rM rI)⟩]) (jt_or (jt_not (jt_e (je_s (jp_b2 jb_isi (jp_v 0 rfl) (jp_ty "list"))))) (jt_e (je_s (jp_op jo_ne (jp_v 0 rfl) (jp_v 1 rfl))))) js_dead js_skip)
  (js_ret (je_op jo_eq (je_hide 1 (get := S_lsame.ydue) (put := fun s v => {s with ydue := v}) (je_thaw (Γ2 := [none, none]) 0 (get := S_lsame.yfound) (put := fun s v => {s with yfound := v}) (je_lc (ji_lst (je_cp 0 rfl)) Le.refl (jgc1 2 rfl) (fun x7 => (jt_or (jt_e (je_s (jp_b2 jb_isi (jp_v 2 rfl) (jp_ty "bool")))) (jt_not (jt_e (je_s (jp_b2 jb_isi (jp_v 2 rfl) (jp_ty "int"))))))) (fun x7 => (je_cp 2 rfl))) (by repeat (first | exact Tw.nil | refine Tw.som inferInstance ?_ | refine Tw.non ?_)) rfl) rfl) (je_lst (jl_nil (r := rI)))) inferInstance (by first | exact Le.refl | (repeat (first | exact Le.nil | refine Le.som inferInstance ?_ | refine Le.non ?_))))) (jout_keep dC rfl (jout_keep dC rfl jout_nil))⟩
noncomputable def t_lsame := T_lsame.1
theorem j_lsame : JF g_lsame t_lsame (Pc (rL rI) (Pc (rM rI) Pn)) rB (Pc (rL rI) (Pc (rM rI) Pn)) := T_lsame.2
structure S_lright where
 yn : Int
 yrow_here : List Int
 yhanded : List Int
 ytext : Str
 ytime : Int
 yfound : List Int
noncomputable def T_lright : {f : (Int × (List Int) × Unit) -> Option (Bool × (Int × (List Int) × Unit)) // JF g_lright f (Pc rI (Pc (rL rI) Pn)) rB (Pc rI (Pc (rM rI) Pn))} := ⟨_, by
 exact jf_rt (S := S_lright) (N := 6) (W := [2, 3, 4, 5]) (c := c_lright) (Γn := []) (ro := rB) (Γp := [some ⟨S_lright.yn, rI⟩, some ⟨S_lright.yrow_here, (rL rI)⟩]) (Γr := [some ⟨S_lright.yn, rI⟩, some ⟨S_lright.yrow_here, (rM rI)⟩, none, none, none, none]) (init := (fun p => (⟨p.1, p.2.1, [], "", 0, []⟩ : S_lright))) (jin_cons (get := S_lright.yn) dC (fun _ => rfl) fun _ => (jin_cons (get := S_lright.yrow_here) dC (fun _ => rfl) fun _ => jin_nil))
  (js_seq (js_set 2 (get := S_lright.yhanded) (put := fun s v => {s with yhanded := v}) (je_listB (jp_v 1 rfl)))
  (js_seq (js_set 3 (get := S_lright.ytext) (put := fun s v => {s with ytext := v}) (je_call j_show_row (ja1_bo 0 rfl (ja1_bo 2 rfl ja1_nil)) (ja2_sc 0 rfl (ja2_ns 2 rfl ja2_nil)) (ja3_sc 0 (ja3_ns 2 (get := S_lright.yhanded) (put := fun s v => {s with yhanded := v}) (h := ja3_nil)))))
  (js_seq (js_if (Γ' := [some ⟨S_lright.yn, rI⟩, some ⟨S_lright.yrow_here, (rM rI)⟩, some ⟨S_lright.yhanded, (rM rI)⟩, some ⟨S_lright.ytext, rS⟩, none, none]) (jt_or (Γ' := [some ⟨S_lright.yn, rI⟩, some ⟨S_lright.yrow_here, (rM rI)⟩, some ⟨S_lright.yhanded, (rM rI)⟩, some ⟨S_lright.ytext, rS⟩, none, none]) (jt_not (jt_e (je_s (jp_b2 jb_isi (jp_v 3 rfl) (jp_ty "str"))))) (jt_or (jt_e (je_op jo_ne (je_s (jp_v 3 rfl)) (je_call j_lshown (ja1_bo 1 rfl ja1_nil) (ja2_ns 1 rfl ja2_nil) (ja3_ns 1 (get := S_lright.yrow_here) (put := fun s v => {s with yrow_here := v}) (h := ja3_nil))))) (jt_e (je_s (jp_op jo_ne (jp_v 2 rfl) (jp_v 1 rfl)))))) js_dead js_skip)
  (js_seq (js_for (ji_r1 (je_s (jp_i 2))) Le.refl (jg_nm 4 (get := S_lright.ytime) (put := fun s v => {s with ytime := v})) (js_seq (js_set 5 (get := S_lright.yfound) (put := fun s v => {s with yfound := v}) (je_call j_read_row (ja1_bo 0 rfl (ja1_bo 3 rfl ja1_nil)) (ja2_sc 0 rfl (ja2_sc 3 rfl ja2_nil)) (ja3_sc 0 (ja3_sc 3 ja3_nil))))
  (js_seq (js_if (Γ' := [some ⟨S_lright.yn, rI⟩, some ⟨S_lright.yrow_here, (rM rI)⟩, some ⟨S_lright.yhanded, (rM rI)⟩, some ⟨S_lright.ytext, rS⟩, some ⟨S_lright.ytime, rI⟩, some ⟨S_lright.yfound, (rL rI)⟩]) (jt_not (jt_e (je_call j_lsame (ja1_bo 5 rfl (ja1_bo 1 rfl ja1_nil)) (ja2_ns 5 rfl (ja2_ns 1 rfl ja2_nil)) (ja3_ns 5 (get := S_lright.yfound) (put := fun s v => {s with yfound := v}) (h := ja3_ns 1 (get := S_lright.yrow_here) (put := fun s v => {s with yrow_here := v}) (h := ja3_nil)))))) js_dead js_skip)
  (js_drop (je_clr 5 (get := S_lright.yfound) (put := fun s v => {s with yfound := v}) rfl)))))
  (js_ret (je_s (jp_b true))))))) (jout_keep dC rfl (jout_keep dC rfl jout_nil))⟩
noncomputable def t_lright := T_lright.1
theorem j_lright : JF g_lright t_lright (Pc rI (Pc (rL rI) Pn)) rB (Pc rI (Pc (rM rI) Pn)) := T_lright.2
structure S_law where
 yscript : List Int
 yturn : Int
 yn : Int
 yrow_here : List Int
noncomputable def T_law : {f : ((List Int) × Unit) -> Option (Bool × ((List Int) × Unit)) // JF g_law f (Pc (rM rI) Pn) rB (Pc (rM rI) Pn)} := ⟨_, by
 exact jf_rt (S := S_law) (N := 4) (W := [1, 2, 3]) (c := c_law) (Γn := []) (ro := rB) (Γp := [some ⟨S_law.yscript, (rM rI)⟩]) (Γr := [some ⟨S_law.yscript, (rM rI)⟩, none, none, none]) (init := (fun p => (⟨p.1, 0, 0, []⟩ : S_law))) (jin_cons (get := S_law.yscript) dC (fun _ => rfl) fun _ => jin_nil)
  (js_seq (js_for (ji_r1 (je_s (jp_i 4))) Le.refl (jg_nm 1 (get := S_law.yturn) (put := fun s v => {s with yturn := v})) (js_seq (js_set 2 (get := S_law.yn) (put := fun s v => {s with yn := v}) (je_op jo_I0 (je_s (jp_i 1)) (je_call j_ltake (ja1_ex (je_call j_lpile (ja1_bo 0 rfl (ja1_ex (je_s (jp_op jo_mul (jp_i 16) (jp_v 1 rfl))) ja1_nil)) (ja2_ns 0 rfl (ja2_ex ja2_nil)) (ja3_ns 0 (get := S_law.yscript) (put := fun s v => {s with yscript := v}) (h := ja3_ex ja3_nil))) (ja1_ex (je_s (jp_i 4)) ja1_nil)) (ja2_ex (ja2_ex ja2_nil)) (ja3_ex (ja3_ex ja3_nil)))))
  (js_seq (js_set 3 (get := S_law.yrow_here) (put := fun s v => {s with yrow_here := v}) (je_call j_lrow (ja1_bo 0 rfl (ja1_ex (je_s (jp_op jo_mul (jp_i 16) (jp_v 1 rfl))) (ja1_bo 2 rfl ja1_nil))) (ja2_ns 0 rfl (ja2_ex (ja2_sc 2 rfl ja2_nil))) (ja3_ns 0 (get := S_law.yscript) (put := fun s v => {s with yscript := v}) (h := ja3_ex (ja3_sc 2 ja3_nil)))))
  (js_if (Γ' := [some ⟨S_law.yscript, (rM rI)⟩, some ⟨S_law.yturn, rI⟩, some ⟨S_law.yn, rI⟩, some ⟨S_law.yrow_here, (rM rI)⟩]) (jt_or (jt_not (jt_e (je_call j_lright (ja1_bo 2 rfl (ja1_bo 3 rfl ja1_nil)) (ja2_sc 2 rfl (ja2_ns 3 rfl ja2_nil)) (ja3_sc 2 (ja3_ns 3 (get := S_law.yrow_here) (put := fun s v => {s with yrow_here := v}) (h := ja3_nil)))))) (jt_not (jt_e (je_call j_lright (ja1_bo 2 rfl (ja1_ex (je_rep (je_lst (r := rI) (jl_cons (je_s (jp_i 0)) jl_nil)) (je_s (jp_b1 jb_len (jp_v 3 rfl)))) ja1_nil)) (ja2_sc 2 rfl (ja2_ex ja2_nil)) (ja3_sc 2 (ja3_ex ja3_nil)))))) js_dead js_skip))))
  (js_ret (je_s (jp_b true)))) (jout_keep dC rfl jout_nil)⟩
noncomputable def t_law := T_law.1
theorem j_law : JF g_law t_law (Pc (rM rI) Pn) rB (Pc (rM rI) Pn) := T_law.2
end LW
namespace LW
open PySem L2 DD TT TX
theorem strok {x : Str} (h : ∀ c ∈ x.cps.toList, c < 1114112) : Py.ok TT.rS x = true := by
 show x.cps.all (fun c => decide (c < 1114112)) = true;rw [<- Array.all_toList, List.all_eq_true];intro c hc;exact decide_eq_true (h c hc)
theorem okSS {x y : Str} (hx : ∀ c ∈ x.cps.toList, c < 1114112) (hy : ∀ c ∈ y.cps.toList, c < 1114112) : (Py.ok TT.rS x && Py.ok TT.rS y && decide (min (Py.k TT.rS) (Py.k TT.rS) <= 50)) = true := by
 rw [strok hx, strok hy]; rfl
theorem str_ne {x y : Str} (h : x.cps.toList ≠ y.cps.toList) : (x == y) = false := by
 rw [beq_eq_false_iff_ne];intro e;rw [e] at h;exact h rfl
theorem cMi : (Str.ofString "-").cps.toList = [45] := by decide +kernel
theorem cPl : (Str.ofString "+").cps.toList = [43] := by decide +kernel
theorem cBl : (Str.ofString " ").cps.toList = [32] := by decide +kernel
theorem cNu : (Str.ofString "0").cps.toList = [48] := by decide +kernel
theorem cEm : (Str.ofString "").cps.toList = [] := by decide +kernel
theorem cBM : (Str.ofString " - ").cps.toList = [32, 45, 32] := by decide +kernel
theorem cBP : (Str.ofString " + ").cps.toList = [32, 43, 32] := by decide +kernel
theorem lit1 {c : Nat} {y : Str} (h : y.cps.toList = [c]) (hc : c < 128) : ∀ d ∈ y.cps.toList, d < 1114112 := fun d hd => by
 rw [h] at hd;simp at hd;omega
theorem szy {n : Nat} (h : n <= 100000) : n <= sizeLine := by
 have hz : sizeLine = 16777216 := rfl;omega
theorem szx {n : Nat} (h : n <= 100000) : decide (n <= sizeLine) = true := decide_eq_true (szy h)
noncomputable def inF (c : Nat) : Bool := !(Builtin.Str.occurrences (Str.ofString "0123456789") ⟨#[c]⟩ 0 (Str.ofString "0123456789").length 1).isEmpty
theorem inF_all : ((List.range 10).all fun k => inF (48 + k)) = true := by decide +kernel
theorem inF_ok {c : Nat} (h : 48 <= c /\ c <= 57) : inF c = true := by
 have := List.all_eq_true.mp inF_all (c - 48) (List.mem_range.mpr oM)
 rw [show 48 + (c - 48) = c by omega] at this;exact this
theorem okII {a b : Int} : (Py.ok rI a && Py.ok rI b && decide (min (Py.k rI) (Py.k rI) <= 50)) = true := rfl
theorem read_fig {x : Str} {n : Int} {c : Nat} {r : List Nat} (hx : x.cps.toList = c :: r) (hc : 49 <= c /\ c <= 57) (hd : NumText.AllDigits x.cps.toList) (hl : x.length <= 40) (hn : intText? x = some n) : t_read_number (x, ()) = some (n, x, ()) := by
 have e1 : Txt.startswith x (Str.ofString "-") = false := by
  rw [starts_one cMi, hx];exact beq_false_of_ne oM
 have hlx : x.length = r.length + 1 := by rw [len_cps, hx]; rfl
 have d1 : decide ((x.length : Int) < 1) = false := decide_eq_false oM;have d2 : decide ((2000 : Int) < (x.length : Int)) = false := decide_eq_false oM;have a1 : (x.cps.all fun c => decide (c < 128)) = true := by
  rw [<- Array.all_toList, List.all_eq_true];intro c hc
  have := hd c hc
  exact decide_eq_true oM
 have hs : (signs x).length = x.length := by unfold signs; rw [List.length_map, <- len_cps]
 have all1 : ((signs x).map fun y => !(Builtin.Str.occurrences (Str.ofString "0123456789") y 0 (Str.ofString "0123456789").length 1).isEmpty).all id = true := by
  rw [List.all_map, List.all_eq_true];intro y hy;unfold signs at hy;obtain ⟨c', hc', rfl⟩ := List.mem_map.mp hy;exact inF_ok (hd c' hc')
 have at0 : atS x 0 = some ⟨#[c]⟩ := by
  unfold atS;rw [if_pos (szy oM), hx];show (L2.atI (c :: r) ((0 : Nat) : Int)).map _ = _;rw [L2.atI_nat (show (c :: r)[0]? = some c from rfl)];rfl
 have ne0 : ((⟨#[c]⟩ : Str) == Str.ofString "0") = false := str_ne (by rw [cNu]; show [c] ≠ [48]; intro h; injection h; omega);have o0 : (Py.ok TT.rS (⟨#[c]⟩ : Str) && Py.ok TT.rS (Str.ofString "0") && decide (min (Py.k TT.rS) (Py.k TT.rS) <= 50)) = true := okSS (fun d h => by
  have : d = c := by simpa using h
  omega) (lit1 cNu dC)
 have hl6 : decide (x.length <= 640) = true := decide_eq_true oM;unfold t_read_number T_read_number;simp only [TT.tSeq, bind_some, map_some, e1, Bool.false_eq_true, if_false];have hsz : (if x.length <= sizeLine then some (x.length : Int) else none) = some (x.length : Int) := if_pos (szy oM);simp only [bind_some, map_some, hsz, d1, d2, Bool.false_eq_true, if_false, ift a1];rw [ift (szc oM), lc_map (f := fun y => !(Builtin.Str.occurrences (Str.ofString "0123456789") y 0 (Str.ofString "0123456789").length 1).isEmpty) (fun _ _ => rfl) (fun _ _ => rfl)];simp only [bind_some, map_some, all1, Bool.not_true, Bool.false_eq_true, if_false, at0, ift o0, ne0, hn, ift hl6]
theorem read_num {m : Nat} (h1 : 1 <= m) (h : m < 10 ^ 40) : t_read_number (num (m : Int), ()) = some ((m : Int), num (m : Int), ()) := by
 obtain ⟨c, r, hx, hc⟩ := num_head h1;exact read_fig hx hc (num_dig m) (num_len h) (num_read h)
theorem p40 : decide ((0 : Int) <= 40 /\ (40 : Int) <= 1000000 /\ Int.natAbs 10 < 2 ^ 64) = true := by decide
theorem read_wh {x : Str} {n : Int} (hx : t_read_number (x, ()) = some (n, x, ())) (h : n.natAbs < 10 ^ 40) : t_read_whole (x, ()) = some (n, x, ()) := by
 have hd : decide ((10 : Int) ^ Int.toNat 40 <= if n < 0 then -n else n) = false := by
  refine decide_eq_false ?_;have e : (10 : Int) ^ Int.toNat 40 = ((10 ^ 40 : Nat) : Int) := by decide
  rw [e];split <;> omega
 unfold t_read_whole T_read_whole;simp only [TT.tSeq, bind_some, map_some, hx, ift p40, hd, Bool.false_eq_true, if_false]
theorem read_ct {m : Nat} (h1 : 1 <= m) (h : m < 10 ^ 40) : t_read_count (num (m : Int), 1, ()) = some ((m : Int), num (m : Int), 1, ()) := by
 have hd : decide ((m : Int) < 1) = false := decide_eq_false oM;unfold t_read_count T_read_count;simp only [TT.tSeq, bind_some, map_some, read_wh (read_num h1 h) (by simpa using h), hd, Bool.false_eq_true, if_false]
theorem joinc {a : Str} {ys : List Str} {b n : Nat} (h : ∀ p ∈ ys, p.length <= b) (hn : ys.length <= n) (hb : n * (b + a.length) <= 16777216) : joinC a ys = true := by
 refine decide_eq_true ?_;have h1 := sum_le h;have h2 : ys.length * b <= n * b := Nat.mul_le_mul_right _ hn;have h3 : ys.length * a.length <= n * a.length := Nat.mul_le_mul_right _ hn;rw [Nat.mul_add] at hb;omega
theorem splitok {y : Str} {ps : List Str} {b n : Nat} (hy : (y.length == 0) = false) (hs : Txt.split (Txt.join y ps) y = ps) (h : ∀ p ∈ ps, p.length <= b) (hn : ps.length <= n) (hb : n * (b + y.length) <= 16777216) (hn2 : n <= 16777216) : splitOk (Txt.join y ps) y = true := by
 have h1 := join_len (y := y) h;have h2 : ps.length * (b + y.length) <= n * (b + y.length) := Nat.mul_le_mul_right _ hn;have hz : sizeLine = 16777216 := rfl;unfold splitOk;rw [hy, hs, decide_eq_true oM, decide_eq_true oM];rfl
structure Wd (w : Str) : Prop where
 nb : 32 ∉ w.cps.toList
 np : w.cps.toList ≠ [43]
 nm : w.cps.toList ≠ [45]
 ok : ∀ c ∈ w.cps.toList, c < 128
 ln : w.length <= 100
noncomputable def sgW (s : Int) : Str := if s = 1 then Str.ofString "+" else Str.ofString "-"
noncomputable abbrev Pc2 := Int × List Str
structure Pk (p : Pc2) : Prop where
 s : p.1 = 1 \/ p.1 = -1
 l : 1 <= p.2.length /\ p.2.length <= 2
 w : ∀ w ∈ p.2, Wd w
noncomputable def restW : List Pc2 -> List Str
 | [] => []
 | q :: qs => sgW q.1 :: (q.2 ++ restW qs)
noncomputable def body (p : Pc2) (ps : List Pc2) : Str := Txt.join (Str.ofString " ") (p.2 ++ restW ps)
noncomputable def txt (p : Pc2) (ps : List Pc2) : Str := if p.1 = 1 then body p ps else Str.ofString "-" ++ body p ps
theorem sgW_c {s : Int} : ∀ c ∈ (sgW s).cps.toList, c = 43 \/ c = 45 := fun c hc => by
 unfold sgW at hc;split at hc
 ·rw [cPl] at hc; simp at hc; exact .inl hc
 ·rw [cMi] at hc; simp at hc; exact .inr hc
theorem sgW_l (s : Int) : (sgW s).length <= 100 := by
 unfold sgW;split
 ·rw [len_cps, cPl]; decide
 ·rw [len_cps, cMi]; decide
theorem restW_len : ∀ {ps : List Pc2}, (∀ p ∈ ps, Pk p) -> (restW ps).length <= 3 * ps.length := by
 intro ps
 induction ps with
 | nil => intro _; simp [restW]
 | cons p ps ih =>
  intro h;have h1 := ih fun q hq => h q (List.mem_cons_of_mem _ hq)
  have h2 := (h p (by simp)).l.2;simp only [restW, List.length_cons, List.length_append];omega
theorem restW_ok : ∀ {ps : List Pc2}, (∀ p ∈ ps, Pk p) -> ∀ w ∈ restW ps, 32 ∉ w.cps.toList /\ w.length <= 100 /\ ∀ c ∈ w.cps.toList, c < 128 := by
 intro ps
 induction ps with
 | nil => intro _ w hw; cases hw
 | cons p ps ih =>
  intro h w hw;simp only [restW, List.mem_cons, List.mem_append] at hw;rcases hw with rfl | hw | hw
  ·exact ⟨fun hc => by have := sgW_c _ hc; omega, sgW_l _, fun c hc => by have := sgW_c _ hc; omega⟩
  ·have := (h p (by simp)).w w hw
   exact ⟨this.nb, this.ln, this.ok⟩
  ·exact ih (fun q hq => h q (List.mem_cons_of_mem _ hq)) w hw
section
variable {p : Pc2} {ps : List Pc2}
theorem all_ok (hp : Pk p) (h : ∀ p ∈ ps, Pk p) : ∀ w ∈ p.2 ++ restW ps, 32 ∉ w.cps.toList /\ w.length <= 100 /\ ∀ c ∈ w.cps.toList, c < 128 := fun w hw => by
 rcases List.mem_append.mp hw with hw | hw
 ·have := hp.w w hw
  exact ⟨this.nb, this.ln, this.ok⟩
 ·exact restW_ok h w hw
theorem all_len (hp : Pk p) (h : ∀ p ∈ ps, Pk p) (hl : ps.length <= 40) : (p.2 ++ restW ps).length <= 200 := by
 have := restW_len h
 have := hp.l.2
 rw [List.length_append];omega
theorem body_split (hp : Pk p) (h : ∀ p ∈ ps, Pk p) : Txt.split (body p ps) (Str.ofString " ") = p.2 ++ restW ps :=
 split_join (m := 32) (off := 0) (by rw [len_cps, cBl]; decide) (by rw [cBl]; rfl) (fun k e => by
  rw [cBl] at e
  match k, e with
  | 0, _ => rfl
  | k + 1, e => simp at e) (by decide +kernel) (by
   intro e;have e2 := congrArg List.length e
   have := hp.l.1
   rw [List.length_append] at e2;simp only [List.length_nil] at e2;omega) (fun w hw => (all_ok hp h w hw).1)
theorem lBl : (Str.ofString " ").length = 1 := by decide +kernel
theorem body_sok (hp : Pk p) (h : ∀ p ∈ ps, Pk p) (hl : ps.length <= 40) : splitOk (body p ps) (Str.ofString " ") = true :=
 splitok (b := 100) (n := 200) (by rw [lBl]; rfl) (body_split hp h) (fun w hw => (all_ok hp h w hw).2.1) (all_len hp h hl) (by rw [lBl]; decide) dC
theorem body_len (hp : Pk p) (h : ∀ p ∈ ps, Pk p) (hl : ps.length <= 40) : (body p ps).length <= 20200 := by
 have h1 := join_len (y := Str.ofString " ") (ps := p.2 ++ restW ps) (b := 100) (fun w hw => (all_ok hp h w hw).2.1);have h2 := all_len hp h hl;rw [lBl] at h1;show (Txt.join _ _).length <= _;omega
theorem body_c (hp : Pk p) (h : ∀ p ∈ ps, Pk p) : ∀ c ∈ (body p ps).cps.toList, c < 128 := fun c hc => by
 rcases join_mem hc with hc | ⟨w, hw, hc⟩
 ·rw [cBl] at hc; simp at hc; omega
 ·exact (all_ok hp h w hw).2.2 c hc
theorem txt_c (hp : Pk p) (h : ∀ p ∈ ps, Pk p) : ∀ c ∈ (txt p ps).cps.toList, c < 128 := fun c hc => by
 unfold txt at hc;split at hc
 ·exact body_c hp h c hc
 ·rcases add_mem hc with hc | hc
  ·rw [cMi] at hc; simp at hc; omega
  ·exact body_c hp h c hc
theorem txt_len (hp : Pk p) (h : ∀ p ∈ ps, Pk p) (hl : ps.length <= 40) : (txt p ps).length <= 20201 := by
 have := body_len hp h hl
 unfold txt;split
 ·omega
 ·rw [add_len, show (Str.ofString "-").length = 1 by decide +kernel]; omega
end
noncomputable def SgI (ps : List Pc2) (s : S_signed_terms) : Prop := s.xsigns = ps.map (·.1) /\ s.xterms = ps.map (·.2)
theorem sg_loop {put : S_signed_terms -> Str -> S_signed_terms} {b : S_signed_terms -> Option (TR S_signed_terms (List (Int × List Str)))} {t : Str}
  (hW : ∀ s w T l, Wd w -> s.xterms = T ++ [l] -> l.length <= 5 -> s.xtext = t -> ∃ s', b (put s w) = some (.nx s') /\ s'.xsigns = s.xsigns /\ s'.xterms = T ++ [l ++ [w]] /\ s'.xtext = t)
  (hS : ∀ s g, (g = 1 \/ g = -1) -> s.xsigns.length <= 100 -> s.xterms.length <= 100 -> s.xtext = t -> ∃ s', b (put s (sgW g)) = some (.nx s') /\ s'.xsigns = s.xsigns ++ [g] /\ s'.xterms = s.xterms ++ [[]] /\ s'.xtext = t) :
  ∀ (ps : List Pc2) {s : S_signed_terms} {qs : List Pc2}, (∀ p ∈ ps, Pk p) -> qs.length + ps.length <= 60 -> SgI qs s -> s.xtext = t -> ∃ s', tLoop put b (restW ps) s = some (.nx s') /\ SgI (qs ++ ps) s' /\ s'.xtext = t := by
 have words : ∀ (ws : List Str) {s : S_signed_terms} {T : List (List Str)} {l : List Str} {rest : List Str}, (∀ w ∈ ws, Wd w) -> l.length + ws.length <= 5 -> s.xterms = T ++ [l] -> s.xtext = t -> ∃ s', tLoop put b (ws ++ rest) s = tLoop put b rest s' /\ s'.xsigns = s.xsigns /\ s'.xterms = T ++ [l ++ ws] /\ s'.xtext = t := by
  intro ws
  induction ws with
  | nil => intro s T l rest _ _ e1 e2; exact ⟨s, rfl, rfl, by rw [e1]; simp, e2⟩
  | cons w ws ih =>
   intro s T l rest h hl e1 e2;simp only [List.length_cons] at hl;obtain ⟨s1, q1, q2, q3, q4⟩ := hW s w T l (h w (by simp)) e1 oM e2;obtain ⟨s2, p1, p2, p3, p4⟩ := ih (rest := rest) (fun x hx => h x (List.mem_cons_of_mem _ hx)) (by rw [List.length_append, List.length_singleton]; omega) q3 q4;refine ⟨s2, ?_, by rw [p2, q2], by rw [p3]; simp, p4⟩;rw [List.cons_append];simp only [tLoop, q1, bind_some, p1]
 intro ps
 induction ps with
 | nil => intro s qs _ _ h e; exact ⟨s, rfl, by simpa using h, e⟩
 | cons p ps ih =>
  intro s qs hp hl h e;simp only [List.length_cons] at hl;obtain ⟨s1, q1, q2, q3, q4⟩ := hS s p.1 (hp p (by simp)).s (by rw [h.1, List.length_map]; omega) (by rw [h.2, List.length_map]; omega) e;obtain ⟨s2, p1, p2, p3, p4⟩ := words p.2 (s := s1) (T := s.xterms) (l := []) (rest := restW ps) (hp p (by simp)).w (by have := (hp p (by simp)).l.2; simp only [List.length_nil]; omega) q3 q4;obtain ⟨s3, r1, r2, r3⟩ := ih (s := s2) (qs := qs ++ [p]) (fun q hq => hp q (List.mem_cons_of_mem _ hq)) (by rw [List.length_append, List.length_singleton]; omega) ⟨by rw [p2, q2, h.1]; simp, by rw [p3, h.2]; simp⟩ p4;refine ⟨s3, ?_, by simpa using r2, r3⟩;simp only [restW, tLoop, q1, bind_some, p1, r1]
theorem words_loop {put : S_signed_terms -> Str -> S_signed_terms} {b : S_signed_terms -> Option (TR S_signed_terms (List (Int × List Str)))} {t : Str}
  (hW : ∀ s w T l, Wd w -> s.xterms = T ++ [l] -> l.length <= 5 -> s.xtext = t -> ∃ s', b (put s w) = some (.nx s') /\ s'.xsigns = s.xsigns /\ s'.xterms = T ++ [l ++ [w]] /\ s'.xtext = t) :
  ∀ (ws : List Str) {s : S_signed_terms} {T : List (List Str)} {l : List Str} {rest : List Str}, (∀ w ∈ ws, Wd w) -> l.length + ws.length <= 5 -> s.xterms = T ++ [l] -> s.xtext = t -> ∃ s', tLoop put b (ws ++ rest) s = tLoop put b rest s' /\ s'.xsigns = s.xsigns /\ s'.xterms = T ++ [l ++ ws] /\ s'.xtext = t := by
 intro ws
 induction ws with
 | nil => intro s T l rest _ _ e1 e2; exact ⟨s, rfl, rfl, by rw [e1]; simp, e2⟩
 | cons w ws ih =>
  intro s T l rest h hl e1 e2;simp only [List.length_cons] at hl;obtain ⟨s1, q1, q2, q3, q4⟩ := hW s w T l (h w (by simp)) e1 oM e2;obtain ⟨s2, p1, p2, p3, p4⟩ := ih (rest := rest) (fun x hx => h x (List.mem_cons_of_mem _ hx)) (by rw [List.length_append, List.length_singleton]; omega) q3 q4;refine ⟨s2, ?_, by rw [p2, q2], by rw [p3]; simp, p4⟩;rw [List.cons_append];simp only [tLoop, q1, bind_some, p1]
theorem ixN_last {n : Nat} : L2.ixN (n + 1) (-1) = some n := by
 unfold L2.ixN;rw [if_neg dC, if_pos oM];congr 1;omega
theorem set_last {α : Type} (T : List α) (l l' : α) : (T ++ [l]).set T.length l' = T ++ [l'] := by
 rw [List.set_append, if_neg oM, Nat.sub_self]; rfl
theorem zip_fs : ∀ ps : List Pc2, (ps.map (·.1)).zip (ps.map (·.2)) = ps := by
 intro ps
 induction ps with
 | nil => rfl
 | cons p ps ih => simp only [List.map_cons, List.zip_cons_cons, ih]
theorem sg_run {γ γ' : Type} {put : S_signed_terms -> Str -> S_signed_terms} {b : S_signed_terms -> Option (TR S_signed_terms (List (Int × List Str)))} {t : Str} {k : TR S_signed_terms (List (Int × List Str)) -> Option γ'} {k2 : γ' -> Option γ} {p : Pc2} {ps : List Pc2} {s0 : S_signed_terms} (Q : Option γ -> Prop) (hp : Pk p) (h : ∀ p ∈ ps, Pk p) (hl : ps.length <= 40)
  (hW : ∀ s w T l, Wd w -> s.xterms = T ++ [l] -> l.length <= 5 -> s.xtext = t -> ∃ s', b (put s w) = some (.nx s') /\ s'.xsigns = s.xsigns /\ s'.xterms = T ++ [l ++ [w]] /\ s'.xtext = t)
  (hS : ∀ s g, (g = 1 \/ g = -1) -> s.xsigns.length <= 100 -> s.xterms.length <= 100 -> s.xtext = t -> ∃ s', b (put s (sgW g)) = some (.nx s') /\ s'.xsigns = s.xsigns ++ [g] /\ s'.xterms = s.xterms ++ [[]] /\ s'.xtext = t)
  (h1 : s0.xsigns = [p.1]) (h2 : s0.xterms = [[]]) (h3 : s0.xtext = t) (hk : ∀ s', SgI (p :: ps) s' -> s'.xtext = t -> Q ((k (.nx s')).bind k2)) : Q (((tLoop put b (p.2 ++ restW ps) s0).bind k).bind k2) := by
 obtain ⟨s1, e1, e2, e3, e4⟩ := words_loop hW p.2 (s := s0) (T := []) (l := []) (rest := restW ps) hp.w (by have := hp.l.2; simp only [List.length_nil]; omega) h2 h3;rw [e1];obtain ⟨s2, f1, f2, f3⟩ := sg_loop hW hS ps (s := s1) (qs := [p]) h (by simp only [List.length_singleton]; omega) ⟨by rw [e2, h1]; rfl, by rw [e3]; rfl⟩ e4;rw [f1];exact hk s2 f2 f3
theorem signed_t {p : Pc2} {ps : List Pc2} (hp : Pk p) (h : ∀ p ∈ ps, Pk p) (hl : ps.length <= 40) (hd : ∃ c r, (body p ps).cps.toList = c :: r /\ c ≠ 45) : t_signed_terms (txt p ps, ()) = some (p :: ps, txt p ps, ()) := by
 obtain ⟨c, r, hbc, hc45⟩ := hd;have h0 : szC ([] : List Str).length = true := szc (by simp);have h01 : szC ([[]] : List (List Str)).length = true := szc (by simp);have hs1 : ∀ g : Int, szC ([g] : List Int).length = true := fun g => szc (by simp)
 have ata : ∀ g : Int, L2.atI [g] 0 = some g := fun g => rfl
 have tl := txt_len hp h hl;have st : Txt.startswith (txt p ps) (Str.ofString "-") = !decide (p.1 = 1) := by
  rw [starts_one cMi];by_cases e1 : p.1 = 1
  ·rw [show txt p ps = body p ps from if_pos e1, hbc, decide_eq_true e1]
   exact beq_false_of_ne hc45
  ·rw [show txt p ps = Str.ofString "-" ++ body p ps from if_neg e1, add_cps, cMi, decide_eq_false e1]
   rfl
 have src : ∀ s : S_signed_terms, (if (p.1 == -1) = true then (if decide ((txt p ps).length <= sizeLine) = true then some (Txt.slice (txt p ps) (some 1) none, s) else none) else some (txt p ps, s)) = some (body p ps, s) := fun s => by
  rcases hp.s with e1 | e1
  ·rw [show txt p ps = body p ps from if_pos e1, e1]; rfl
  ·have e2 : txt p ps = Str.ofString "-" ++ body p ps := if_neg (by rw [e1]; decide)
   rw [if_pos (by rw [e1]; rfl), ift (szx oM), e2];congr 2;apply ext';rw [show (some (1 : Int)) = some ((1 : Nat) : Int) from rfl, slice_drop (by rw [add_len, show (Str.ofString "-").length = 1 by decide +kernel]; omega), add_cps, cMi];rfl
 have first : (if Txt.startswith (txt p ps) (Str.ofString "-") = true then some ((-1 : Int), ({ xtext := txt p ps, xsigns := [], xterms := [], xword := Str.ofString "" } : S_signed_terms)) else some (1, { xtext := txt p ps, xsigns := [], xterms := [], xword := Str.ofString "" })) = some (p.1, { xtext := txt p ps, xsigns := [], xterms := [], xword := Str.ofString "" }) := by
  rw [st];rcases hp.s with e1 | e1
  ·rw [e1]; rfl
  ·rw [e1]; rfl
 unfold t_signed_terms T_signed_terms;simp only [TT.tSeq, bind_some, map_some];rw [first];simp only [bind_some, map_some, ift (hs1 _), ift h0, ift h01, ata, ift okII];rw [src];simp only [bind_some, ift (body_sok hp h hl), body_split hp h];refine sg_run (t := txt p ps) (fun o => o = some (p :: ps, txt p ps, ())) hp h hl ?_ ?_ rfl rfl rfl ?_
 ·rintro ⟨x1, x2, x3, x4⟩ w T l hw e1 e2 e3
  dsimp only at e1 e3;subst e1; subst e3;have o1 : (Py.ok TT.rS w && Py.ok TT.rS (Str.ofString "+") && decide (min (Py.k TT.rS) (Py.k TT.rS) <= 50)) = true := okSS (fun c hc => by have := hw.ok c hc; omega) (lit1 cPl dC);have o2 : (Py.ok TT.rS w && Py.ok TT.rS (Str.ofString "-") && decide (min (Py.k TT.rS) (Py.k TT.rS) <= 50)) = true := okSS (fun c hc => by have := hw.ok c hc; omega) (lit1 cMi dC);have n1 : (w == Str.ofString "+") = false := str_ne (by rw [cPl]; exact hw.np);have n2 : (w == Str.ofString "-") = false := str_ne (by rw [cMi]; exact hw.nm);have il : L2.ixN (T ++ [l]).length (-1) = some T.length := by rw [List.length_append, List.length_singleton]; exact ixN_last
  have gl : (T ++ [l])[T.length]? = some l := by simp
  simp only [ift o1, ift o2, n1, n2, map_some, bind_some, Bool.false_eq_true, if_false, il, gl];rw [ift (ltc oM)];simp only [map_some, set_last];exact ⟨_, rfl, rfl, rfl, rfl⟩
 ·rintro ⟨x1, x2, x3, x4⟩ g hg e1 e2 e3
  dsimp only at e1 e2 e3;subst e3;have sc : ∀ c ∈ (sgW g).cps.toList, c < 1114112 := fun c hc => by have := sgW_c c hc; omega
  have o1 : (Py.ok TT.rS (sgW g) && Py.ok TT.rS (Str.ofString "+") && decide (min (Py.k TT.rS) (Py.k TT.rS) <= 50)) = true := okSS sc (lit1 cPl dC);have o2 : (Py.ok TT.rS (sgW g) && Py.ok TT.rS (Str.ofString "-") && decide (min (Py.k TT.rS) (Py.k TT.rS) <= 50)) = true := okSS sc (lit1 cMi dC);rcases hg with rfl | rfl
  ·have n1 : (sgW 1 == Str.ofString "+") = true := by decide +kernel
   simp only [ift o1, ift o2, n1, map_some, bind_some, if_true];rw [ift (ltc oM)];simp only [map_some, bind_some];rw [ift (ltc oM)];exact ⟨_, rfl, rfl, rfl, rfl⟩
  ·have n1 : (sgW (-1) == Str.ofString "+") = false := by decide +kernel
   have n2 : (sgW (-1) == Str.ofString "-") = true := by decide +kernel
   simp only [ift o1, ift o2, n1, n2, map_some, bind_some, Bool.false_eq_true, if_false, if_true];rw [ift (ltc oM)];simp only [map_some, bind_some];rw [ift (ltc oM)];exact ⟨_, rfl, rfl, rfl, rfl⟩
 ·intro s' hq q3
  obtain ⟨q1, q2⟩ := hq;have hd2 : decide (s'.xsigns.length = s'.xterms.length /\ 1 <= s'.xsigns.length) = true := decide_eq_true (by rw [q1, q2]; simp);dsimp only;rw [ift hd2, q1, q2, zip_fs];simp only [map_some, bind_some, q3]
noncomputable def addR (a b : List Int) : List Int := (a.zip b).map fun z => z.1 + z.2
structure Nn (n : Int) (N : Nat) : Prop where
 an : t_all_names (n, ()) = some ((N : Int), n, ())
 l : N <= 15
theorem addR_len {a b : List Int} {N : Nat} (ha : a.length = N) (hb : b.length = N) : (addR a b).length = N := by
 unfold addR; rw [List.length_map, List.length_zip, ha, hb]; omega
theorem flat0 (N : Nat) : (List.replicate N ([0] : List Int)).flatten = List.replicate N 0 := by
 induction N with
 | zero => rfl
 | succ N ih => rw [List.replicate_succ, List.flatten_cons, ih]; rfl
theorem sz0 : szC ([0] : List Int).length = true := szc (by simp)
theorem rep15 {N : Nat} (h : N <= 15) : repC ([0] : List Int).length (N : Int) = true := rep_c oM oM (by simp; omega)
theorem row_nought {n : Int} {N : Nat} (hn : Nn n N) : t_read_row (n, Str.ofString "0", ()) = some (List.replicate N 0, n, Str.ofString "0", ()) := by
 have o : (Py.ok TT.rS (Str.ofString "0") && Py.ok TT.rS (Str.ofString "0") && decide (min (Py.k TT.rS) (Py.k TT.rS) <= 50)) = true := okSS (lit1 cNu dC) (lit1 cNu dC);unfold t_read_row T_read_row;simp only [TT.tSeq, bind_some, map_some, ift sz0, hn.an, ift (rep15 hn.l), Int.toNat_natCast, flat0, ift o, beq_self_eq_true, if_true]
theorem fold_b {S α ρ γ γ' δ : Type} {put : S -> α -> S} {b : S -> Option (TR S ρ)} {xs : List α} {s : S} {k : TR S ρ -> Option γ'} {k2 : γ' -> Option γ} (v : S -> δ) (f : δ -> α -> δ) (I : S -> Prop) (J : δ -> Prop) (Q : Option γ -> Prop) (hb : ∀ s x, x ∈ xs -> I s -> J (v s) -> ∃ s', b (put s x) = some (.nx s') /\ I s' /\ v s' = f (v s) x) (hj : ∀ c x, x ∈ xs -> J c -> J (f c x)) (h : I s) (j : J (v s))
  (hk : ∀ s', I s' -> v s' = xs.foldl f (v s) -> Q ((k (.nx s')).bind k2)) : Q (((tLoop put b xs s).bind k).bind k2) := by
 obtain ⟨s', e, p, q⟩ := loop_fold hb hj h j;rw [e]; exact hk s' p q
theorem row_t {n : Int} {N : Nat} (hn : Nn n N) {p : Pc2} {ps : List Pc2} {R : Pc2 -> List Int} (hp : Pk p) (h : ∀ p ∈ ps, Pk p) (hl : ps.length <= 40) (hd : ∃ c r, (body p ps).cps.toList = c :: r /\ c ≠ 45) (h48 : (txt p ps).cps.toList ≠ [48])
  (hR : ∀ q ∈ p :: ps, t_read_term (n, q.1, q.2, ()) = some (R q, n, q.1, q.2, ()) /\ (R q).length = N) : t_read_row (n, txt p ps, ()) = some ((p :: ps).foldl (fun c q => addR c (R q)) (List.replicate N 0), n, txt p ps, ()) := by
 have o : (Py.ok TT.rS (txt p ps) && Py.ok TT.rS (Str.ofString "0") && decide (min (Py.k TT.rS) (Py.k TT.rS) <= 50)) = true := okSS (fun c hc => by have := txt_c hp h c hc; omega) (lit1 cNu dC);have ne : (txt p ps == Str.ofString "0") = false := str_ne (by rw [cNu]; exact h48);unfold t_read_row T_read_row;simp only [TT.tSeq, bind_some, map_some, ift sz0, hn.an, ift (rep15 hn.l), Int.toNat_natCast, flat0, ift o, ne, Bool.false_eq_true, if_false, signed_t hp h hl hd];refine fold_b (S := S_read_row) (α := Pc2) (fun s => s.xrow) (fun c q => addR c (R q)) (fun s => s.xn = n /\ s.xtext = txt p ps) (fun c => c.length = N) (fun o => o = some ((p :: ps).foldl (fun c q => addR c (R q)) (List.replicate N 0), n, txt p ps, ())) ?_ ?_ ⟨rfl, rfl⟩ (by simp) ?_
 ·rintro ⟨x1, x2, x3, x4, x5⟩ q hq ⟨f1, f2⟩ f3
  dsimp only at f1 f2 f3;subst f1; subst f2;obtain ⟨r1, r2⟩ := hR q hq;have hN := hn.l;simp only [r1, map_some, bind_some];rw [ift (szc (by rw [List.length_zip, f3, r2]; omega)), lc_map (f := fun z : Int × Int => z.1 + z.2) (fun _ _ => rfl) (fun _ _ => rfl)];exact ⟨_, rfl, ⟨rfl, rfl⟩, rfl⟩
 ·intro c q hq hc
  exact addR_len hc (hR q hq).2
 ·rintro ⟨x1, x2, x3, x4, x5⟩ ⟨f1, f2⟩ f3
  dsimp only at f1 f2 f3;subst f1; subst f2;simp only [bind_some, f3]
noncomputable def ltr (g : Nat) : Str := ⟨(((List.range 4).filter fun k => g.testBit k).map fun k => 97 + k).toArray⟩
noncomputable def frm (g : Nat) : Str := Str.ofString "h(" ++ ltr g ++ Str.ofString ")"
noncomputable def unit (N g : Nat) : List Int := List.replicate (g - 1) 0 ++ 1 :: List.replicate (N - g) 0
noncomputable def ckG (g : Nat) : Bool := decide (t_show_group ((g : Int), ()) = some (ltr g, (g : Int), ())) && (decide (t_lletters ((g : Int), ()) = some (ltr g, (g : Int), ())) && (((frm g).cps.toList.all fun c => decide (c < 128 /\ c ≠ 32)) && (decide (3 <= (frm g).length /\ (frm g).length <= 10) && decide ((ltr g).length <= 10))))
theorem ckG_all : ((List.range 15).all fun k => ckG (k + 1)) = true := by decide +kernel
structure Gk (g : Nat) : Prop where
 sg : t_show_group ((g : Int), ()) = some (ltr g, (g : Int), ())
 ll : t_lletters ((g : Int), ()) = some (ltr g, (g : Int), ())
 fc : ∀ c ∈ (frm g).cps.toList, c < 128 /\ c ≠ 32
 fl : 3 <= (frm g).length /\ (frm g).length <= 10
 tl : (ltr g).length <= 10
theorem gk_of {g : Nat} (h : 1 <= g /\ g <= 15) : Gk g := by
 have := List.all_eq_true.mp ckG_all (g - 1) (List.mem_range.mpr oM)
 rw [show g - 1 + 1 = g by omega] at this;simp only [ckG, Bool.and_eq_true, decide_eq_true_eq, List.all_eq_true] at this;exact ⟨this.1, this.2.1, this.2.2.1, this.2.2.2.1, this.2.2.2.2⟩
noncomputable def ckF (n : Nat) : Bool := decide (t_all_names ((n : Int), ()) = some (((2 ^ n - 1 : Nat) : Int), (n : Int), ())) && (List.range (2 ^ n - 1)).all fun k => decide (t_read_form ((n : Int), frm (k + 1), ()) = some (unit (2 ^ n - 1) (k + 1), (n : Int), frm (k + 1), ()))
theorem ckF_all : (ckF 1 && (ckF 2 && (ckF 3 && ckF 4))) = true := by decide +kernel
structure Fk (n N : Nat) : Prop where
 e : N = 2 ^ n - 1
 b : 1 <= n /\ n <= 4
 nn : Nn (n : Int) N
 rf : ∀ g, 1 <= g -> g <= N -> t_read_form ((n : Int), frm g, ()) = some (unit N g, (n : Int), frm g, ())
theorem fk_of {n : Nat} (h : 1 <= n /\ n <= 4) : Fk n (2 ^ n - 1) := by
 have hc := ckF_all;simp only [Bool.and_eq_true] at hc;have hn : ckF n = true := by
  have : n = 1 \/ n = 2 \/ n = 3 \/ n = 4 := by omega
  rcases this with rfl | rfl | rfl | rfl
  ·exact hc.1
  ·exact hc.2.1
  ·exact hc.2.2.1
  ·exact hc.2.2.2
 have hN : 2 ^ n <= 2 ^ 4 := Nat.pow_le_pow_right dC h.2;simp only [ckF, Bool.and_eq_true, decide_eq_true_eq, List.all_eq_true] at hn;refine ⟨rfl, h, ⟨hn.1, by omega⟩, fun g h1 h2 => ?_⟩
 have := hn.2 (g - 1) (List.mem_range.mpr oM)
 rw [show g - 1 + 1 = g by omega] at this;exact this
noncomputable abbrev En := Int × Int
structure Ek (N : Nat) (e : En) : Prop where
 g : 1 <= e.1 /\ e.1 <= (N : Int)
 x : e.2 ≠ 0
 b : e.2.natAbs < 10 ^ 40
noncomputable def nmA (x : Int) : Str := num ((x.natAbs : Nat) : Int)
noncomputable def pc (e : En) : Pc2 := (if e.2 < 0 then -1 else 1, [nmA e.2, frm e.1.toNat])
theorem wd_num {x : Int} (hx : x ≠ 0) (hb : x.natAbs < 10 ^ 40) : Wd (nmA x) := by
 obtain ⟨c, r, e, hc⟩ := num_head (m := x.natAbs) oM;have hd := num_dig x.natAbs;refine ⟨fun h => by have := hd _ h; omega, ?_, ?_, fun c hc => by have := hd c hc; omega, Nat.le_trans (num_len hb) dC⟩
 ·show (num _).cps.toList ≠ _
  rw [e]; intro h; injection h; omega
 ·show (num _).cps.toList ≠ _
  rw [e]; intro h; injection h; omega
theorem wd_frm {g : Nat} (h : Gk g) : Wd (frm g) := by
 have hl := h.fl;rw [len_cps] at hl;refine ⟨fun hc => (h.fc _ hc).2 rfl, fun e => ?_, fun e => ?_, fun c hc => (h.fc c hc).1, by have := h.fl.2; omega⟩
 ·rw [e] at hl; simp at hl
 ·rw [e] at hl; simp at hl
section
variable {n N : Nat} {e : En}
theorem Ek.gk (h : Ek N e) (hN : N <= 15) : Gk e.1.toNat := gk_of (by have := h.g; omega)
theorem pk_pc (h : Ek N e) (hN : N <= 15) : Pk (pc e) := by
 refine ⟨?_, ⟨by show 1 <= 2; decide, by show 2 <= 2; decide⟩, fun w hw => ?_⟩
 ·show (if e.2 < 0 then (-1 : Int) else 1) = 1 \/ (if e.2 < 0 then (-1 : Int) else 1) = -1
  split
  ·exact .inr rfl
  ·exact .inl rfl
 ·have hw' : w = nmA e.2 \/ w = frm e.1.toNat := by simpa [pc] using hw
  rcases hw' with rfl | rfl
  ·exact wd_num h.x h.b
  ·exact wd_frm (h.gk hN)
theorem mul_sg {s m : Int} (h : s = 1 \/ s = -1) : mulN s m = true := by
 rcases h with rfl | rfl <;> exact mulc oM
theorem unit_len {N g : Nat} (h : 1 <= g /\ g <= N) : (unit N g).length = N := by
 unfold unit; rw [List.length_append, List.length_replicate, List.length_cons, List.length_replicate]; omega
theorem unit_01 {N g : Nat} : ∀ y ∈ unit N g, y = 0 \/ y = 1 := fun y hy => by
 unfold unit at hy;rcases List.mem_append.mp hy with hy | hy
 ·exact .inl (List.eq_of_mem_replicate hy)
 ·rcases List.mem_cons.mp hy with hy | hy
  ·exact .inr hy
  ·exact .inl (List.eq_of_mem_replicate hy)
theorem read_term_t (f : Fk n N) (h : Ek N e) : t_read_term ((n : Int), (pc e).1, (pc e).2, ()) = some ((unit N e.1.toNat).map fun y => e.2 * y, (n : Int), (pc e).1, (pc e).2, ()) := by
 have hN := f.nn.l;have hg := h.g;have a0 : L2.atI [nmA e.2, frm e.1.toNat] 0 = some (nmA e.2) := rfl;have a1 : L2.atI [nmA e.2, frm e.1.toNat] (-1) = some (frm e.1.toNat) := rfl;have l2 : ([nmA e.2, frm e.1.toNat].length : Int) = 2 := rfl;have hs := (pk_pc h hN).s;have rc : t_read_count (nmA e.2, 1, ()) = some ((e.2.natAbs : Int), nmA e.2, 1, ()) := read_ct (by have := h.x; omega) h.b;have rf := f.rf e.1.toNat oM oM;have hx : (pc e).1 * (e.2.natAbs : Int) = e.2 := by
  show (if e.2 < 0 then (-1 : Int) else 1) * (e.2.natAbs : Int) = e.2;split <;> omega
 have e2 : (pc e).2 = [nmA e.2, frm e.1.toNat] := rfl;rw [e2];unfold t_read_term T_read_term;simp only [TT.tSeq, bind_some, map_some, ift okII, l2, show ((2 : Int) == 1) = false by decide, show ((2 : Int) == 2) = true by decide, Bool.false_eq_true, if_false, if_true, a0, rc, ift (mul_sg hs), hx, a1, rf];rw [ift (szc (by rw [unit_len oM]; omega)), lc_map (f := fun y => e.2 * y) (fun _ _ => rfl) (fun y hy => by
  rw [ift (mulc (by rcases unit_01 y hy with rfl | rfl <;> omega))];rfl)]
 rfl
end
noncomputable def tm (e : En) : Str := nmA e.2 ++ Str.ofString " h(" ++ ltr e.1.toNat ++ Str.ofString ")"
noncomputable def sgB (x : Int) : Str := if x < 0 then Str.ofString " - " else Str.ofString " + "
noncomputable def sg0 (x : Int) : Str := if x < 0 then Str.ofString "-" else Str.ofString ""
noncomputable def rst : List En -> Str
 | [] => Str.ofString ""
 | e :: es => sgB e.2 ++ tm e ++ rst es
noncomputable def shw : List En -> Str
 | [] => Str.ofString ""
 | e :: es => sg0 e.2 ++ tm e ++ rst es
theorem cBH : (Str.ofString " h(").cps.toList = [32, 104, 40] := by decide +kernel
theorem cH : (Str.ofString "h(").cps.toList = [104, 40] := by decide +kernel
theorem cC : (Str.ofString ")").cps.toList = [41] := by decide +kernel
theorem tm_c (e : En) : (tm e).cps.toList = (nmA e.2).cps.toList ++ (32 :: (frm e.1.toNat).cps.toList) := by
 unfold tm frm;simp only [add_cps, cBH, cH, cC, List.append_assoc, List.cons_append, List.nil_append]
theorem sgB_c (x : Int) : (sgB x).cps.toList = 32 :: ((sgW (if x < 0 then -1 else 1)).cps.toList ++ [32]) := by
 unfold sgB;split
 ·rw [cBM]; rfl
 ·rw [cBP]; rfl
theorem body_c2 : ∀ (es : List En) (e : En), (body (pc e) (es.map pc)).cps.toList = (tm e).cps.toList ++ (rst es).cps.toList := by
 intro es
 induction es with
 | nil =>
  intro e;unfold body;rw [join_cps, tm_c, cBl];show joinL [32] [(nmA e.2).cps.toList, (frm e.1.toNat).cps.toList] = _ ++ (Str.ofString "").cps.toList;rw [cEm, List.append_nil];rfl
 | cons e' es ih =>
  intro e;have i := ih e';unfold body at i ⊢;rw [join_cps, cBl] at i ⊢;have h1 : ((pc e).2 ++ restW ((e' :: es).map pc)).map (fun p => p.cps.toList) = (nmA e.2).cps.toList :: (frm e.1.toNat).cps.toList :: (sgW (pc e').1).cps.toList :: (((pc e').2 ++ restW (es.map pc)).map fun p => p.cps.toList) := rfl;rw [h1];have h2 : ((pc e').2 ++ restW (es.map pc)).map (fun p => p.cps.toList) = (nmA e'.2).cps.toList :: (frm e'.1.toNat).cps.toList :: ((restW (es.map pc)).map fun p => p.cps.toList) := rfl;rw [h2] at i ⊢;show (nmA e.2).cps.toList ++ ([32] ++ ((frm e.1.toNat).cps.toList ++ ([32] ++ ((sgW (pc e').1).cps.toList ++ ([32] ++ joinL [32] ((nmA e'.2).cps.toList :: (frm e'.1.toNat).cps.toList :: ((restW (es.map pc)).map fun p => p.cps.toList))))))) = _;rw [i];show _ = _ ++ (sgB e'.2 ++ tm e' ++ rst es).cps.toList;rw [add_cps, add_cps, sgB_c];show _ = _ ++ ((32 :: ((sgW (pc e').1).cps.toList ++ [32])) ++ (tm e').cps.toList ++ (rst es).cps.toList);simp only [tm_c, List.append_assoc, List.cons_append, List.nil_append]
theorem shw_txt (e : En) (es : List En) : shw (e :: es) = txt (pc e) (es.map pc) := by
 apply ext';show (sg0 e.2 ++ tm e ++ rst es).cps.toList = _;rw [add_cps, add_cps];unfold txt;show (sg0 e.2).cps.toList ++ (tm e).cps.toList ++ (rst es).cps.toList = (if (if e.2 < 0 then (-1 : Int) else 1) = 1 then _ else _ : Str).cps.toList;unfold sg0;by_cases h : e.2 < 0
 ·rw [if_pos h, if_pos h, if_neg dC, add_cps, body_c2, List.append_assoc]
 ·rw [if_neg h, if_neg h, if_pos rfl, body_c2, cEm]; rfl
theorem lgA {x : Int} (h : x.natAbs < 10 ^ 40) : decide (x.natAbs.log2 < 1920) = true := by
 refine decide_eq_true ?_;by_cases h0 : x.natAbs = 0
 ·rw [h0]; decide
 ·have h1 : x.natAbs < 2 ^ 140 := Nat.lt_trans h dC
  have h2 := (Nat.log2_lt (k := 140) h0).mpr h1;omega
theorem absI (x : Int) : (if x < 0 then -x else x) = ((x.natAbs : Nat) : Int) := by split <;> omega
theorem lBH : (Str.ofString " h(").length = 3 := by decide +kernel
theorem lC : (Str.ofString ")").length = 1 := by decide +kernel
theorem nmA_l {x : Int} (h : x.natAbs < 10 ^ 40) : (nmA x).length <= 40 := num_len h
section
variable {N : Nat} {e : En}
theorem tm_l (h : Ek N e) (hN : N <= 15) : (tm e).length <= 60 := by
 have h1 := nmA_l h.b;have h2 := (h.gk hN).tl;unfold tm;rw [add_len, add_len, add_len, lBH, lC];omega
theorem show_term_t (h : Ek N e) (hN : N <= 15) : t_show_term (e.1, e.2, ()) = some (tm e, e.1, e.2, ()) := by
 have hg := h.gk hN;have eg : ((e.1.toNat : Nat) : Int) = e.1 := by have := h.g; omega
 have sg := hg.sg;rw [eg] at sg;have h1 := nmA_l h.b;have h2 := hg.tl;have lx : decide (((e.2.natAbs : Nat) : Int).natAbs.log2 < 1920) = true := by rw [Int.natAbs_natCast]; exact lgA h.b
 unfold t_show_term T_show_term;simp only [TT.tSeq, bind_some, map_some, sg, absI, ift lx, nil_add];have e1 : Str.ofString (toString ((e.2.natAbs : Nat) : Int)) = nmA e.2 := rfl;rw [e1];have q1 : (nmA e.2).length <= 100000 := by omega
 have q2 : (nmA e.2 ++ Str.ofString " h(").length <= 100000 := by rw [add_len, lBH]; omega
 have q3 : (ltr e.1.toNat).length <= 100000 := by omega
 have q4 : (nmA e.2 ++ Str.ofString " h(" ++ ltr e.1.toNat).length <= 100000 := by rw [add_len, add_len, lBH]; omega
 have q5 : (nmA e.2 ++ Str.ofString " h(" ++ ltr e.1.toNat ++ Str.ofString ")").length <= 100000 := by rw [add_len, add_len, add_len, lBH, lC]; omega
 simp only [ift (szx q1), ift (szx q2), ift (szx q3), ift (szx q4), ift (szx q5), bind_some, map_some];rfl
end
theorem sign_ahead_t (x : Int) (b : Bool) : t_sign_ahead (x, b, ()) = some (if b = true then sg0 x else sgB x, x, b, ()) := by
 unfold t_sign_ahead T_sign_ahead sg0 sgB;cases b <;> by_cases h : x < 0 <;> simp only [TT.tSeq, bind_some, map_some, decide_true, decide_false, Bool.false_eq_true, if_false, if_true, h]
noncomputable def shF (c : Str) (e : En) : Str := if e.2 = 0 then c else c ++ (if (c == Str.ofString "") = true then sg0 e.2 else sgB e.2) ++ tm e
noncomputable def nz (l : List En) : List En := l.filter fun e => !(e.2 == 0)
theorem rst_snoc : ∀ (es : List En) (e : En), (rst (es ++ [e])).cps.toList = (rst es).cps.toList ++ ((sgB e.2).cps.toList ++ (tm e).cps.toList) := by
 intro es
 induction es with
 | nil =>
  intro e;show (sgB e.2 ++ tm e ++ Str.ofString "").cps.toList = (Str.ofString "").cps.toList ++ _;rw [add_cps, add_cps, cEm]; simp
 | cons e' es ih =>
  intro e;show (sgB e'.2 ++ tm e' ++ rst (es ++ [e])).cps.toList = (sgB e'.2 ++ tm e' ++ rst es).cps.toList ++ _;rw [add_cps, add_cps, ih, add_cps, add_cps]; simp only [List.append_assoc]
theorem shw_ne (e : En) (es : List En) : (shw (e :: es) == Str.ofString "") = false := str_ne (by
 rw [cEm];show (sg0 e.2 ++ tm e ++ rst es).cps.toList ≠ [];rw [add_cps, add_cps, tm_c];simp)
theorem shF_snoc (es : List En) (e : En) (h : e.2 ≠ 0) : shF (shw es) e = shw (es ++ [e]) := by
 unfold shF;rw [if_neg h];apply ext';cases es with
 | nil =>
  have e0 : (shw [] == Str.ofString "") = true := by decide +kernel
  rw [if_pos e0];show (Str.ofString "" ++ sg0 e.2 ++ tm e).cps.toList = (sg0 e.2 ++ tm e ++ Str.ofString "").cps.toList;rw [add_cps, add_cps, add_cps, add_cps, cEm]; simp
 | cons e' es =>
  rw [if_neg (by rw [shw_ne]; decide)];show (sg0 e'.2 ++ tm e' ++ rst es ++ sgB e.2 ++ tm e).cps.toList = (sg0 e'.2 ++ tm e' ++ rst (es ++ [e])).cps.toList;simp only [add_cps, rst_snoc, List.append_assoc]
theorem shF_all : ∀ (l : List En) (es : List En), l.foldl shF (shw es) = shw (es ++ nz l) := by
 intro l
 induction l with
 | nil => intro es; simp [nz]
 | cons e l ih =>
  intro es;rw [List.foldl_cons];by_cases h : e.2 = 0
  ·have : shF (shw es) e = shw es := if_pos h
   rw [this, ih];unfold nz;rw [List.filter_cons, if_neg (by rw [h]; decide)]
  ·rw [shF_snoc es e h, ih]
   unfold nz;rw [List.filter_cons, if_pos (by simpa using h)];simp
theorem rst_len {N : Nat} (hN : N <= 15) : ∀ {es : List En}, (∀ e ∈ es, Ek N e) -> (rst es).length <= 70 * es.length := by
 intro es
 induction es with
 | nil => intro _; show (Str.ofString "").length <= 0; decide +kernel
 | cons e es ih =>
  intro h;have h1 := ih fun x hx => h x (List.mem_cons_of_mem _ hx)
  have h2 := tm_l (h e (by simp)) hN;have h3 : (sgB e.2).length = 3 := by unfold sgB; split <;> decide +kernel
  show (sgB e.2 ++ tm e ++ rst es).length <= 70 * (es.length + 1);rw [add_len, add_len];omega
theorem shw_len {N : Nat} (hN : N <= 15) {es : List En} (h : ∀ e ∈ es, Ek N e) : (shw es).length <= 70 * es.length := by
 cases es with
 | nil => show (Str.ofString "").length <= 0; decide +kernel
 | cons e es =>
  have h1 := rst_len hN fun x hx => h x (List.mem_cons_of_mem _ hx)
  have h2 := tm_l (h e (by simp)) hN;have h3 : (sg0 e.2).length <= 1 := by unfold sg0; split <;> decide +kernel
  show (sg0 e.2 ++ tm e ++ rst es).length <= 70 * (es.length + 1);rw [add_len, add_len];omega
theorem tm_ok {N : Nat} (hN : N <= 15) {e : En} (h : Ek N e) : ∀ c ∈ (tm e).cps.toList, c < 128 := fun c hc => by
 rw [tm_c] at hc;rcases List.mem_append.mp hc with hc | hc
 ·have := num_dig e.2.natAbs c hc; omega
 ·rcases List.mem_cons.mp hc with hc | hc
  ·omega
  ·exact ((h.gk hN).fc c hc).1
theorem sgB_ok (x : Int) : ∀ c ∈ (sgB x).cps.toList, c < 128 := fun c hc => by
 unfold sgB at hc;split at hc
 ·rw [cBM] at hc; simp at hc; omega
 ·rw [cBP] at hc; simp at hc; omega
theorem sg0_ok (x : Int) : ∀ c ∈ (sg0 x).cps.toList, c < 128 := fun c hc => by
 unfold sg0 at hc;split at hc
 ·rw [cMi] at hc; simp at hc; omega
 ·rw [cEm] at hc; simp at hc
theorem rst_ok {N : Nat} (hN : N <= 15) : ∀ {es : List En}, (∀ e ∈ es, Ek N e) -> ∀ c ∈ (rst es).cps.toList, c < 128 := by
 intro es
 induction es with
 | nil => intro _ c hc; rw [show rst [] = Str.ofString "" from rfl, cEm] at hc; cases hc
 | cons e es ih =>
  intro h c hc;rw [show rst (e :: es) = sgB e.2 ++ tm e ++ rst es from rfl] at hc;rcases add_mem hc with hc | hc
  ·rcases add_mem hc with hc | hc
   ·exact sgB_ok _ c hc
   ·exact tm_ok hN (h e (by simp)) c hc
  ·exact ih (fun x hx => h x (List.mem_cons_of_mem _ hx)) c hc
theorem shw_ok {N : Nat} (hN : N <= 15) {es : List En} (h : ∀ e ∈ es, Ek N e) : ∀ c ∈ (shw es).cps.toList, c < 128 := fun c hc => by
 cases es with
 | nil => rw [show shw [] = Str.ofString "" from rfl, cEm] at hc; cases hc
 | cons e es =>
  rw [show shw (e :: es) = sg0 e.2 ++ tm e ++ rst es from rfl] at hc;rcases add_mem hc with hc | hc
  ·rcases add_mem hc with hc | hc
   ·exact sg0_ok _ c hc
   ·exact tm_ok hN (h e (by simp)) c hc
  ·exact rst_ok hN (fun x hx => h x (List.mem_cons_of_mem _ hx)) c hc
structure Rk (N : Nat) (row : List Int) : Prop where
 l : row.length = N
 b : ∀ x ∈ row, x.natAbs < 10 ^ 40
theorem enT_get : ∀ {row : List Int} {m k : Nat} {e : En}, (enT m row)[k]? = some e -> row[k]? = some e.2 /\ e.1 = ((m + k : Nat) : Int) := by
 intro row
 induction row with
 | nil => intro m k e h; simp [enT] at h
 | cons x row ih =>
  intro m k e h;cases k with
  | zero => simp [enT] at h; subst h; exact ⟨rfl, rfl⟩
  | succ k =>
   have := ih (m := m + 1) (k := k) (e := e) (by simpa [enT] using h)
   exact ⟨by simpa using this.1, by rw [this.2]; congr 1; omega⟩
theorem ek_of {N : Nat} {row : List Int} (r : Rk N row) {k : Nat} {e : En} (h : (enT 1 row)[k]? = some e) (hx : e.2 ≠ 0) : Ek N e := by
 obtain ⟨h1, h2⟩ := enT_get h;have hk := (List.getElem?_eq_some_iff.mp h1).1;rw [r.l] at hk;exact ⟨by rw [h2]; omega, hx, r.b _ (List.mem_of_getElem? h1)⟩
theorem nz_ek {N : Nat} {row : List Int} (r : Rk N row) : ∀ e ∈ nz (enT 1 row), Ek N e := fun e he => by
 obtain ⟨h1, h2⟩ := List.mem_filter.mp he;obtain ⟨k, hk⟩ := List.getElem?_of_mem h1;exact ek_of r hk (by simpa using h2)
theorem nz_take_ek {N : Nat} {row : List Int} (r : Rk N row) (k : Nat) : ∀ e ∈ nz ((enT 1 row).take k), Ek N e := fun e he => by
 obtain ⟨h1, h2⟩ := List.mem_filter.mp he;obtain ⟨j, hj⟩ := List.getElem?_of_mem (List.mem_of_mem_take h1);exact ek_of r hj (by simpa using h2)
theorem nz_len (l : List En) : (nz l).length <= l.length := List.length_filter_le _ _
noncomputable def shown (row : List Int) : Str := if (nz (enT 1 row)) = [] then Str.ofString "0" else shw (nz (enT 1 row))
theorem loop_b2 {S α ρ γ γ' : Type} {put : S -> α -> S} {b : S -> Option (TR S ρ)} {xs : List α} {s : S} {k : TR S ρ -> Option γ'} {k2 : γ' -> Option γ} {P : S -> Prop} (Q : Option γ -> Prop) (h : ∃ s', tLoop put b xs s = some (.nx s') /\ P s') (hk : ∀ s', P s' -> Q ((k (.nx s')).bind k2)) : Q (((tLoop put b xs s).bind k).bind k2) := by
 obtain ⟨s', e, p⟩ := h;rw [e]; exact hk s' p
theorem take_snoc {α : Type} {xs : List α} {k : Nat} {x : α} (h : xs[k]? = some x) : xs.take (k + 1) = xs.take k ++ [x] := by
 rw [List.take_succ, h]; rfl
theorem litE : ∀ d ∈ (Str.ofString "").cps.toList, d < 1114112 := fun d hd => by rw [cEm] at hd; cases hd
theorem show_row_t {N : Nat} (hN : N <= 15) {row : List Int} (r : Rk N row) (n : Int) : t_show_row (n, row, ()) = some (shown row, n, row, ()) := by
 unfold t_show_row T_show_row;simp only [TT.tSeq, bind_some, map_some];refine loop_b2 (S := S_show_row) (P := fun s => s.xn = n /\ s.xrow = row /\ s.xshown = shw (nz (enT 1 row))) (fun o => o = some (shown row, n, row, ())) ?_ ?_
 ·refine loop_ixP (S := S_show_row) (fun k s => s.xn = n /\ s.xrow = row /\ s.xshown = shw (nz ((enT 1 row).take k))) ⟨rfl, rfl, rfl⟩ ?_ (fun s q => ⟨q.1, q.2.1, by rw [q.2.2, List.take_length]⟩)
  rintro k ⟨x1, x2, x3, x4, x5⟩ e he ⟨f1, f2, f3⟩;dsimp only at f1 f2 f3;subst f1; subst f2; subst f3;have hk := (List.getElem?_eq_some_iff.mp he).1;rw [enT_len, r.l] at hk;have key := shF_all [e] (nz ((enT 1 x2).take k));rw [List.foldl_cons, List.foldl_nil] at key;have tk : nz ((enT 1 x2).take (k + 1)) = nz ((enT 1 x2).take k) ++ nz [e] := by rw [take_snoc he]; exact List.filter_append _ _
  have hek := nz_take_ek r k;have hl : (shw (nz ((enT 1 x2).take k))).length <= 1050 := by
   have h1 := shw_len hN hek;have h2 := nz_len ((enT 1 x2).take k);rw [List.length_take] at h2;omega
  have hok := shw_ok hN hek;simp only [ift okII, map_some, bind_some];by_cases h0 : e.2 = 0
  ·have b0 : (!(e.2 == 0)) = false := by rw [h0]; rfl
   simp only [b0, Bool.false_eq_true, if_false];refine ⟨_, rfl, rfl, rfl, ?_⟩;show shw (nz ((enT 1 x2).take k)) = shw (nz ((enT 1 x2).take (k + 1)));rw [tk, show nz [e] = [] from by unfold nz; rw [List.filter_cons, if_neg (by rw [b0]; decide)]; rfl, List.append_nil]
  ·have b0 : (!(e.2 == 0)) = true := by simpa using h0
   have ek := ek_of r he h0;have o1 : (Py.ok TT.rS (shw (nz ((enT 1 x2).take k))) && Py.ok TT.rS (Str.ofString "") && decide (min (Py.k TT.rS) (Py.k TT.rS) <= 50)) = true := okSS (fun c hc => by have := hok c hc; omega) litE;have l0 : (if (shw (nz ((enT 1 x2).take k)) == Str.ofString "") = true then sg0 e.2 else sgB e.2).length <= 3 := by
    split
    ·unfold sg0; split <;> decide +kernel
    ·unfold sgB; split <;> decide +kernel
   have l1 := tm_l ek hN;simp only [b0, if_true, ift o1, map_some, bind_some, sign_ahead_t];rw [ift (szx oM)];simp only [map_some, bind_some, show_term_t ek hN];rw [ift (szx (by rw [add_len]; omega))];simp only [map_some];refine ⟨_, rfl, rfl, rfl, ?_⟩;rw [tk, <- key];show _ = shF _ e;unfold shF;rw [if_neg h0]
 ·rintro ⟨x1, x2, x3, x4, x5⟩ ⟨f1, f2, f3⟩
  dsimp only at f1 f2 f3;subst f1; subst f2; subst f3;have hok := shw_ok hN (nz_ek r);have o1 : (Py.ok TT.rS (shw (nz (enT 1 x2))) && Py.ok TT.rS (Str.ofString "") && decide (min (Py.k TT.rS) (Py.k TT.rS) <= 50)) = true := okSS (fun c hc => by have := hok c hc; omega) litE;simp only [ift o1, map_some, bind_some];unfold shown;rcases hz : nz (enT 1 x2) with _ | ⟨e, es⟩
  ·have : (!(shw [] == Str.ofString "")) = false := by decide +kernel
   rw [show (if ([] : List En) = [] then Str.ofString "0" else shw []) = Str.ofString "0" from if_pos rfl];simp only [this, Bool.false_eq_true, if_false, map_some, bind_some]
  ·rw [show (if (e :: es) = [] then Str.ofString "0" else shw (e :: es)) = shw (e :: es) from if_neg (by simp)]
   simp only [shw_ne, Bool.not_false, if_true, map_some, bind_some]
noncomputable def wrd (e : En) : Str := sgB e.2 ++ nmA e.2 ++ Str.ofString " h(" ++ ltr e.1.toNat ++ Str.ofString ")"
theorem wrd_c (e : En) : (wrd e).cps.toList = (sgB e.2).cps.toList ++ (tm e).cps.toList := by
 unfold wrd tm;simp only [add_cps, List.append_assoc]
theorem join_rst : ∀ es : List En, (Txt.join (Str.ofString "") (es.map wrd)).cps.toList = (rst es).cps.toList := by
 intro es;rw [join_cps, cEm]
 induction es with
 | nil => rw [show rst [] = Str.ofString "" from rfl, cEm]; rfl
 | cons e es ih =>
  have h1 : (rst (e :: es)).cps.toList = (wrd e).cps.toList ++ (rst es).cps.toList := by
   rw [show rst (e :: es) = sgB e.2 ++ tm e ++ rst es from rfl, add_cps, add_cps, wrd_c]
  rw [h1, <- ih];cases es with
  | nil =>
   show (wrd e).cps.toList = (wrd e).cps.toList ++ [];rw [List.append_nil]
  | cons e' es => rfl
theorem enT_at : ∀ {row : List Int} {m k : Nat} {x : Int}, row[k]? = some x -> (enT m row)[k]? = some (((m + k : Nat) : Int), x) := by
 intro row
 induction row with
 | nil => intro m k x h; simp at h
 | cons y row ih =>
  intro m k x h;cases k with
  | zero => simp at h; subst h; rfl
  | succ k =>
   have := ih (m := m + 1) (k := k) (x := x) (by simpa using h)
   rw [show m + 1 + k = m + (k + 1) by omega] at this;simpa [enT] using this
theorem sgB_l (x : Int) : (sgB x).length = 3 := by unfold sgB; split <;> decide +kernel
theorem sz2S : szC [Str.ofString " + ", Str.ofString " - "].length = true := szc (by simp)
theorem at_sg (x : Int) : L2.atI [Str.ofString " + ", Str.ofString " - "] (if decide (x < 0) = true then 1 else 0) = some (sgB x) := by
 unfold sgB;by_cases h : x < 0
 ·rw [decide_eq_true h, if_pos h]; rfl
 ·rw [decide_eq_false h, if_neg h]; rfl
theorem wrd_l {N : Nat} (hN : N <= 15) {e : En} (h : Ek N e) : (wrd e).length <= 70 := by
 have := tm_l h hN
 have h2 : (wrd e).length = (sgB e.2).length + (tm e).length := by rw [len_cps, wrd_c, List.length_append, <- len_cps, <- len_cps]
 rw [h2, sgB_l];omega
theorem law_shown_t {N : Nat} (hN : N <= 15) {row : List Int} (r : Rk N row) : t_lshown (row, ()) = some (shown row, row, ()) := by
 have h0 : szC ([] : List Str).length = true := szc (by simp);unfold t_lshown T_lshown;simp only [TT.tSeq, bind_some, map_some, ift h0];refine loop_b2 (S := S_lshown) (P := fun s => s.yrow_here = row /\ s.ywords = (nz (enT 1 row)).map wrd) (fun o => o = some (shown row, row, ())) ?_ ?_
 ·refine loop_ixP (S := S_lshown) (fun k s => s.yrow_here = row /\ s.ywords = (nz ((enT 1 row).take k)).map wrd) ⟨rfl, rfl⟩ ?_ (fun s q => ⟨q.1, by rw [q.2, enT_len, <- enT_len row 1, List.take_length]⟩)
  rintro k ⟨x1, x2, x3, x4, x5, x6⟩ q hq ⟨f1, f2⟩;dsimp only at f1 f2;subst f1; subst f2;obtain ⟨g1, g2⟩ := enT_get hq;have hk := (List.getElem?_eq_some_iff.mp g1).1;rw [r.l] at hk;have he : (enT 1 x1)[k]? = some (((1 + k : Nat) : Int), q.2) := enT_at g1;have tk : nz ((enT 1 x1).take (k + 1)) = nz ((enT 1 x1).take k) ++ nz [(((1 + k : Nat) : Int), q.2)] := by rw [take_snoc he]; exact List.filter_append _ _
  have hwl : ((nz ((enT 1 x1).take k)).map wrd).length <= 15 := by
   rw [List.length_map];have h2 := nz_len ((enT 1 x1).take k);rw [List.length_take] at h2;omega
  simp only [ift okII, map_some, bind_some];by_cases h0 : q.2 = 0
  ·have b0 : (!(q.2 == 0)) = false := by rw [h0]; rfl
   simp only [b0, Bool.false_eq_true, if_false];refine ⟨_, rfl, rfl, ?_⟩;show (nz ((enT 1 x1).take k)).map wrd = _;rw [tk, show nz [(((1 + k : Nat) : Int), q.2)] = [] from by unfold nz; rw [List.filter_cons, if_neg (by show ¬ ((!(q.2 == 0)) = true); rw [b0]; decide)]; rfl, List.append_nil]
  ·have b0 : (!(q.2 == 0)) = true := by simpa using h0
   have ek : Ek N (((1 + k : Nat) : Int), q.2) := ek_of r he h0;have hg := ek.gk hN;have hll := hg.ll;rw [show ((((((1 + k : Nat) : Int), q.2) : En).1.toNat : Nat) : Int) = q.1 + 1 by show (((1 + k : Nat) : Int).toNat : Int) = _; rw [g2]; omega] at hll;have l1 := nmA_l ek.b;have l2 := hg.tl;have lx : decide (((q.2.natAbs : Nat) : Int).natAbs.log2 < 1920) = true := by rw [Int.natAbs_natCast]; exact lgA ek.b
   have sl := sgB_l q.2;simp only [b0, if_true, ift sz2S, bind_some, map_some, at_sg, absI, ift lx];have e1 : Str.ofString (toString ((q.2.natAbs : Nat) : Int)) = nmA q.2 := rfl;rw [e1];dsimp only at l1 l2;rw [ift (szx (show (sgB q.2).length + (nmA q.2).length <= 100000 by omega))];simp only [bind_some];rw [ift (szx (show (sgB q.2 ++ nmA q.2).length + (Str.ofString " h(").length <= 100000 by rw [add_len, lBH]; omega))]
   simp only [map_some, bind_some, hll];rw [ift (szx (show (sgB q.2 ++ nmA q.2 ++ Str.ofString " h(").length + (ltr ((1 + k : Nat) : Int).toNat).length <= 100000 by rw [add_len, add_len, lBH]; omega))]
   simp only [map_some, bind_some];rw [ift (szx (show (sgB q.2 ++ nmA q.2 ++ Str.ofString " h(" ++ ltr ((1 + k : Nat) : Int).toNat).length + (Str.ofString ")").length <= 100000 by rw [add_len, add_len, add_len, lBH, lC]; omega))];simp only [map_some, bind_some];rw [ift (ltc oM)];refine ⟨_, rfl, rfl, ?_⟩;show _ = (nz ((enT 1 x1).take (k + 1))).map wrd;rw [tk, show nz [(((1 + k : Nat) : Int), q.2)] = [(((1 + k : Nat) : Int), q.2)] from by unfold nz; rw [List.filter_cons, if_pos (by exact b0)]; rfl, List.map_append];rfl
 ·rintro ⟨x1, x2, x3, x4, x5, x6⟩ ⟨f1, f2⟩
  dsimp only at f1 f2;subst f1; subst f2;have hek := nz_ek r;have hlen : (nz (enT 1 x1)).length <= 15 := by have := nz_len (enT 1 x1); rw [enT_len, r.l] at this; omega
  have jc : joinC (Str.ofString "") ((nz (enT 1 x1)).map wrd) = true := joinc (b := 70) (n := 15) (fun w hw => by
   obtain ⟨e, he, rfl⟩ := List.mem_map.mp hw;exact wrd_l hN (hek e he)) (by rw [List.length_map]; exact hlen) (by rw [show (Str.ofString "").length = 0 by decide +kernel]; decide)
  have hc := join_rst (nz (enT 1 x1));generalize hT : Txt.join (Str.ofString "") ((nz (enT 1 x1)).map wrd) = T at hc;have Tok : ∀ c ∈ T.cps.toList, c < 128 := by rw [hc]; exact rst_ok hN hek
  have Tl : T.length <= 1050 := by
   have := rst_len hN hek
   rw [len_cps, <- hc, <- len_cps] at this;omega
  have o1 : (Py.ok TT.rS T && Py.ok TT.rS (Str.ofString "") && decide (min (Py.k TT.rS) (Py.k TT.rS) <= 50)) = true := okSS (fun c hc => by have := Tok c hc; omega) litE;simp only [ift jc, hT, map_some, bind_some, ift o1];unfold shown;rcases hz : nz (enT 1 x1) with _ | ⟨e, es⟩
  ·rw [hz] at hc
   have : T = Str.ofString "" := ext' hc;subst this;simp only [beq_self_eq_true, if_true, map_some, bind_some]
  ·rw [hz] at hc
   rw [show rst (e :: es) = sgB e.2 ++ tm e ++ rst es from rfl, add_cps, add_cps] at hc;have hne : (T == Str.ofString "") = false := str_ne (by rw [hc, cEm, sgB_c]; simp);rw [show (if (e :: es) = [] then Str.ofString "0" else shw (e :: es)) = shw (e :: es) from if_neg (by simp)];simp only [hne, Bool.false_eq_true, if_false, map_some, bind_some];have at1 : ∀ s : Nat, (sgB e.2).cps.toList = [32, s, 32] -> atS T 1 = some ⟨#[s]⟩ := fun s hs => by
    unfold atS;rw [if_pos (szy oM), hc, hs];show (L2.atI (32 :: s :: 32 :: ((tm e).cps.toList ++ (rst es).cps.toList)) ((1 : Nat) : Int)).map _ = _;rw [L2.atI_nat (show (32 :: s :: 32 :: ((tm e).cps.toList ++ (rst es).cps.toList))[1]? = some s from rfl)];rfl
   have hT3 : 3 <= T.length := by
    rw [len_cps, hc, List.length_append, List.length_append, <- len_cps, sgB_l]; omega
   have sl3 : (Txt.slice T (some 3) none).cps.toList = (tm e).cps.toList ++ (rst es).cps.toList := by
    rw [show (some (3 : Int)) = some ((3 : Nat) : Int) from rfl, slice_drop hT3, hc];unfold sgB;split
    ·rw [cBM]; rfl
    ·rw [cBP]; rfl
   have sll : (Txt.slice T (some 3) none).length <= 1050 := by
    have := congrArg List.length sl3
    rw [<- len_cps] at this;have h2 := congrArg List.length hc;rw [<- len_cps, List.length_append, List.length_append] at h2;rw [List.length_append] at this;omega
   by_cases hx : e.2 < 0
   ·have hs : (sgB e.2).cps.toList = [32, 45, 32] := by unfold sgB; rw [if_pos hx, cBM]
    have eq : ((⟨#[45]⟩ : Str) == Str.ofString "-") = true := by decide +kernel
    have o2 : (Py.ok TT.rS (⟨#[45]⟩ : Str) && Py.ok TT.rS (Str.ofString "-") && decide (min (Py.k TT.rS) (Py.k TT.rS) <= 50)) = true := by decide +kernel
    simp only [at1 45 hs, map_some, bind_some, ift o2, eq, if_true];rw [ift (szx (show T.length <= 100000 by omega))];simp only [map_some, bind_some];rw [ift (szx (show (Str.ofString "-").length + (Txt.slice T (some 3) none).length <= 100000 by rw [show (Str.ofString "-").length = 1 by decide +kernel]; omega))];simp only [map_some, bind_some];congr 2;apply ext';rw [show shw (e :: es) = sg0 e.2 ++ tm e ++ rst es from rfl, add_cps, add_cps, add_cps, sl3, show sg0 e.2 = Str.ofString "-" from if_pos hx, List.append_assoc]
   ·have hs : (sgB e.2).cps.toList = [32, 43, 32] := by unfold sgB; rw [if_neg hx, cBP]
    have eq : ((⟨#[43]⟩ : Str) == Str.ofString "-") = false := by decide +kernel
    have o2 : (Py.ok TT.rS (⟨#[43]⟩ : Str) && Py.ok TT.rS (Str.ofString "-") && decide (min (Py.k TT.rS) (Py.k TT.rS) <= 50)) = true := by decide +kernel
    simp only [at1 43 hs, map_some, bind_some, ift o2, eq, Bool.false_eq_true, if_false];rw [ift (szx (show T.length <= 100000 by omega))];simp only [map_some, bind_some];congr 2;apply ext';rw [show shw (e :: es) = sg0 e.2 ++ tm e ++ rst es from rfl, add_cps, add_cps, sl3, show sg0 e.2 = Str.ofString "" from if_neg hx, cEm];rfl
end LW
namespace LW
open PySem L2 DD TT
theorem mixed_t (c k : Int) : ∃ m, t_lmixed (c, k, ()) = some (m, c, k, ()) /\ 0 <= m /\ m < 2147483587 := by
 have d4 : decide ((0 : Int) < 2147483647) = true := by decide
 have d5 : decide ((0 : Int) < 2147483629) = true := by decide
 have d3 : decide ((0 : Int) < 2147483587) = true := by decide
 have m1 : ∀ q : Int, mulN q 48271 = true := fun q => mulc oM
 have m2 : ∀ q : Int, mulN q 69621 = true := fun q => mulc oM
 have m3 : ∀ q : Int, mulN (q % 2147483647) (q % 2147483647) = true := fun q => mulc oM
 have m4 : ∀ q : Int, mulN (q % 2147483629) (q % 2147483629) = true := fun q => mulc oM
 unfold t_lmixed T_lmixed;simp only [TT.tSeq, bind_some, map_some, ift d4, ift d5, ift d3, ift (m1 _), ift (m2 _), ift (m3 _), ift (m4 _)];exact ⟨_, rfl, Int.emod_nonneg _ dC, Int.emod_lt_of_pos _ dC⟩
theorem p18 : decide ((0 : Int) <= 18 /\ (18 : Int) <= 1000000 /\ Int.natAbs 10 < 2 ^ 64) = true := by decide
theorem sz3 {a b c : Int} : szC ([a, b, c] : List Int).length = true := szc (by simp)
theorem pile_t (r : List Int) (k : Nat) : ∃ p, t_lpile (r, (k : Int), ()) = some (p, r, (k : Int), ()) /\ p.length = 3 := by
 have m1 : ∀ (q : Int) (b : Bool), mulN q (if b = true then 1 else 0) = true := fun q b => mulc (by cases b <;> simp)
 have m2 : mulN 97 (k : Int) = true := mulc oM;unfold t_lpile T_lpile;simp only [TT.tSeq, bind_some, map_some];cases hd : decide ((k : Int) < (r.length : Int))
 ·simp only [Bool.false_eq_true, if_false, bind_some, map_some, ift p18, ift (m1 _ _), ift m2, ift sz3]
  exact ⟨_, rfl, rfl⟩
 ·have hk : k < r.length := by simpa using hd
  simp only [if_true, bind_some, map_some, at_nat hk, ift p18, ift (m1 _ _), ift m2, ift sz3];exact ⟨_, rfl, rfl⟩
theorem sz2i {a b : Int} : szC ([a, b] : List Int).length = true := szc (by simp)
theorem in_ok {a : Int} {ys : List Int} : inT (fun a_1 => Py.ok TT.rI a_1 && Py.ok TT.rI a && decide (min (Py.k TT.rI) (Py.k TT.rI) <= 50)) (fun a_1 => a_1 == a) ys = some (ys.any fun z => z == a) := by
 unfold inT;rw [if_pos (List.all_eq_true.mpr fun _ _ => okI)]
theorem take_t {p : List Int} (hp : p.length = 3) {m : Int} (hm : 1 <= m /\ m <= 10000000000) : ∃ d p', t_ltake (p, m, ()) = some (d, p', m, ()) /\ p'.length = 3 /\ 0 <= d /\ d < m := by
 match p, hp with
 | [a, b, c], _ =>
  have a0 : atI [a, b, c] 0 = some a := rfl;have a2 : atI [a, b, c] 2 = some c := rfl;have b1 : atI [a, b, c + 1] 1 = some b := rfl;have b2 : atI [a, b, c + 1] 2 = some (c + 1) := rfl;have i2 : ixN 3 2 = some 2 := rfl;have i0 : ixN 3 0 = some 0 := rfl;have l3 : [a, b, c].length = 3 := rfl;have e3 : [a, b, c].set 2 (c + 1) = [a, b, c + 1] := rfl;have e4 : ∀ x, [a, b, c].set 0 x = [x, b, c] := fun _ => rfl
  have dm : decide (0 < m) = true := decide_eq_true oM;have fd : ∀ x, fdvC x m = true := fun x => fdvc (by
   refine decide_eq_true ⟨by omega, ?_⟩;have h1 : m.natAbs < 2 ^ 64 := by omega
   have h2 := (Nat.log2_lt (n := m.natAbs) (k := 64) oM).mpr h1;omega)
  obtain ⟨q, hq, _, _⟩ := mixed_t b (c + 1);unfold t_ltake T_ltake;simp only [TT.tSeq, bind_some, map_some, a0, ift sz2i, in_ok];cases ([0, -1] : List Int).any fun z => z == a
  ·simp only [Bool.false_eq_true, if_false, bind_some, map_some, a0, ift dm, ift (fd _), l3, i0, e4]
   exact ⟨_, _, rfl, rfl, Int.emod_nonneg _ oM, Int.emod_lt_of_pos _ oM⟩
  ·simp only [if_true, bind_some, map_some, a2, l3, i2, e3, b1, b2, hq, ift dm]
   exact ⟨_, _, rfl, rfl, Int.emod_nonneg _ oM, Int.emod_lt_of_pos _ oM⟩
end LW
namespace LW
open PySem L2 DD TT TX
noncomputable def Ok3 (o : Option (Int × List Int × Unit)) : Prop := ∃ v p', o = some (v, p', ()) /\ p'.length = 3 /\ v.natAbs < 10 ^ 40
theorem b40 {x : Int} (h : -1000 <= x /\ x <= 1001) : x.natAbs < 10 ^ 40 := Nat.lt_of_le_of_lt (show x.natAbs <= 1001 by omega) dC
theorem p10 : decide ((0 : Int) <= 10 /\ (10 : Int) <= 1000000 /\ Int.natAbs 10 < 2 ^ 64) = true := by decide
theorem e10 : (10 : Int) ^ Int.toNat 10 = 10000000000 := by decide +kernel
theorem r4 : rokC 4 = true := rok oM oM
theorem number_k {p : List Int} (hp : p.length = 3) : Ok3 (t_lnumber (p, ())) := by
 obtain ⟨d, p1, e1, l1, h0, h1⟩ := take_t hp (m := 4) oM;obtain ⟨o, ho⟩ : ∃ o, o = t_lnumber (p, ()) := ⟨_, rfl⟩;rw [<- ho];unfold t_lnumber T_lnumber at ho;simp only [TT.tSeq, map_some] at ho
 (repeat rw [bind_some] at ho)
 dsimp only at ho;rw [e1, map_some, map_some] at ho
 (repeat rw [bind_some] at ho)
 dsimp only at ho
 (repeat rw [bind_some] at ho)
 dsimp only at ho;rw [ift okII, map_some, bind_some] at ho;dsimp only at ho;cases hq : (d == 0)
 ·rw [hq] at ho
  simp only [Bool.false_eq_true, if_false] at ho;rw [bind_some] at ho;dsimp only at ho
  (repeat rw [bind_some] at ho)
  dsimp only at ho;rw [ift okII, map_some, bind_some] at ho;dsimp only at ho;cases hq1 : (d == 1)
  ·obtain ⟨d2, p2, e2, l2, _, _⟩ := take_t l1 (m := 9) oM
   simp only [hq1, Bool.false_eq_true, if_false, bind_some, map_some, e2] at ho;exact ⟨_, _, ho, l2, b40 oM⟩
  ·obtain ⟨d2, p2, e2, l2, _, _⟩ := take_t l1 (m := 2001) oM
   simp only [hq1, if_true, bind_some, map_some, e2] at ho;exact ⟨_, _, ho, l2, b40 oM⟩
 ·rw [hq] at ho
  simp only [if_true] at ho;rw [bind_some] at ho;dsimp only at ho;rw [bind_some] at ho;dsimp only at ho;rw [ift r4, bind_some] at ho;dsimp only at ho;rw [Option.bind_assoc, Option.bind_assoc] at ho;rw [ho];refine loop_bindE (S := S_lnumber) (P := fun s => s.ypile_here.length = 3 /\ 0 <= s.ynumber_here /\ s.ynumber_here < (10000000000 : Int) ^ 4) Ok3 ?_ fun s' h => ?_
  ·refine loop_ixP (S := S_lnumber) (fun k s => s.ypile_here.length = 3 /\ 0 <= s.ynumber_here /\ s.ynumber_here < (10000000000 : Int) ^ k) ⟨l1, (by decide : (0 : Int) <= 0), (by decide : (0 : Int) < (10000000000 : Int) ^ 0)⟩ ?_ (fun _ h => h)
   rintro k ⟨p2, w, n0, k0⟩ x hx ⟨hl, hn0, hn1⟩;dsimp only at hl hn0 hn1;have mm : mulN n0 10000000000 = true := mulc oM;obtain ⟨d2, p3, e2, l2, hd0, hd1⟩ := take_t hl (m := 10000000000) oM;simp only [bind_some, map_some, ift p10, e10, ift mm, e2];refine ⟨_, rfl, l2, ?_, ?_⟩
   ·show 0 <= n0 * 10000000000 + d2
    omega
   ·show n0 * 10000000000 + d2 < (10000000000 : Int) ^ (k + 1)
    rw [Int.pow_succ];omega
  ·obtain ⟨p2, w, n0, k0⟩ := s'
   obtain ⟨h, hn0, hn1⟩ := h;dsimp only at h hn0 hn1;have hb : n0.natAbs < 10 ^ 40 := by
    have e : (10000000000 : Int) ^ 4 = ((10 ^ 40 : Nat) : Int) := by decide
    rw [e] at hn1;omega
   obtain ⟨d2, p3, e2, l2, g0, g1⟩ := take_t h (m := 2) oM;have hd : d2 = 0 \/ d2 = 1 := by omega
   dsimp only;rw [bind_some];dsimp only;rw [bind_some, map_some, bind_some];dsimp only;rw [ift sz2i, bind_some];dsimp only;rw [bind_some, bind_some];dsimp only;rw [e2, map_some, bind_some];dsimp only;rcases hd with rfl | rfl
   ·exact ⟨_, _, rfl, l2, hb⟩
   ·exact ⟨_, _, rfl, l2, by rw [Int.natAbs_neg]; exact hb⟩
theorem number_t {p : List Int} (hp : p.length = 3) : ∃ v p', t_lnumber (p, ()) = some (v, p', ()) /\ p'.length = 3 /\ v.natAbs < 10 ^ 40 := number_k hp
noncomputable def scl (N : Nat) (e : En) : List Int := (unit N e.1.toNat).map fun y => e.2 * y
theorem addR_app {a b c d : List Int} (h : a.length = c.length) : addR (a ++ b) (c ++ d) = addR a c ++ addR b d := by
 unfold addR; rw [List.zip_append h, List.map_append]
theorem addR_0 (x : Int) : ∀ a : List Int, addR a (List.replicate a.length (x * 0)) = a := by
 intro a
 induction a with
 | nil => rfl
 | cons y a ih =>
  rw [List.length_cons, List.replicate_succ];show (y + x * 0) :: addR a (List.replicate a.length (x * 0)) = y :: a;rw [ih, Int.mul_zero, Int.add_zero]
theorem add_unit {pre : List Int} {k : Nat} {x : Int} {N : Nat} (hN : N = pre.length + 1 + k) : addR (pre ++ 0 :: List.replicate k 0) (scl N (((pre.length + 1 : Nat) : Int), x)) = pre ++ x :: List.replicate k 0 := by
 have e : scl N (((pre.length + 1 : Nat) : Int), x) = List.replicate pre.length (x * 0) ++ (x * 1) :: List.replicate k (x * 0) := by
  unfold scl unit;show ((List.replicate (((pre.length + 1 : Nat) : Int).toNat - 1) (0 : Int) ++ 1 :: List.replicate (N - ((pre.length + 1 : Nat) : Int).toNat) 0).map fun y => x * y) = _;rw [Int.toNat_natCast, Nat.add_sub_cancel, show N - (pre.length + 1) = k by omega, List.map_append, List.map_cons, List.map_replicate, List.map_replicate]
 rw [e, addR_app (by simp), addR_0];congr 1;show (0 + x * 1) :: addR (List.replicate k 0) (List.replicate k (x * 0)) = _
 have := addR_0 x (List.replicate k 0)
 rw [List.length_replicate] at this;rw [this, Int.mul_one, Int.zero_add]
theorem sum_ent : ∀ (xs pre : List Int) {N : Nat}, N = pre.length + xs.length -> (nz (enT (pre.length + 1) xs)).foldl (fun c e => addR c (scl N e)) (pre ++ List.replicate xs.length 0) = pre ++ xs := by
 intro xs
 induction xs with
 | nil => intro pre N _; simp [enT, nz]
 | cons x xs ih =>
  intro pre N hN;rw [List.length_cons] at hN;have i := ih (pre ++ [x]) (N := N) (by rw [List.length_append, List.length_singleton]; omega);rw [List.length_append, List.length_singleton] at i;have en : enT (pre.length + 1) (x :: xs) = (((pre.length + 1 : Nat) : Int), x) :: enT (pre.length + 1 + 1) xs := rfl;rw [en, List.length_cons, List.replicate_succ];by_cases h0 : x = 0
  ·subst h0
   have : nz ((((pre.length + 1 : Nat) : Int), (0 : Int)) :: enT (pre.length + 1 + 1) xs) = nz (enT (pre.length + 1 + 1) xs) := by
    unfold nz; rw [List.filter_cons, if_neg (by show ¬ ((!((0 : Int) == 0)) = true); decide)]
   rw [this];simpa using i
  ·have : nz ((((pre.length + 1 : Nat) : Int), x) :: enT (pre.length + 1 + 1) xs) = (((pre.length + 1 : Nat) : Int), x) :: nz (enT (pre.length + 1 + 1) xs) := by
    unfold nz; rw [List.filter_cons, if_pos (by show (!(x == 0)) = true; simpa using h0)]
   rw [this, List.foldl_cons, add_unit oM];simpa using i
theorem foldl_eq {α β : Type} {f g : β -> α -> β} : ∀ {l : List α} {c : β}, (∀ c x, x ∈ l -> f c x = g c x) -> l.foldl f c = l.foldl g c := by
 intro l
 induction l with
 | nil => intro c _; rfl
 | cons x l ih => intro c h; rw [List.foldl_cons, List.foldl_cons, h c x (by simp)]; exact ih fun c y hy => h c y (by simp [hy])
theorem read_back {n N : Nat} (f : Fk n N) {row : List Int} (r : Rk N row) : t_read_row ((n : Int), shown row, ()) = some (row, (n : Int), shown row, ()) := by
 have hN := f.nn.l;have hek := nz_ek r;have hlen : (nz (enT 1 row)).length <= 15 := by have := nz_len (enT 1 row); rw [enT_len, r.l] at this; omega
 have sm := sum_ent row [] (N := N) (by simp [r.l]);simp only [List.nil_append, List.length_nil, Nat.zero_add] at sm;rw [r.l] at sm;unfold shown;rcases hz : nz (enT 1 row) with _ | ⟨e, es⟩
 ·rw [hz] at sm
  rw [if_pos rfl, row_nought f.nn];rw [List.foldl_nil] at sm;rw [sm]
 ·rw [hz] at sm hek hlen
  rw [if_neg (by simp), shw_txt];have hp := pk_pc (hek e (by simp)) hN;have hps : ∀ p ∈ es.map pc, Pk p := fun p hp => by
   obtain ⟨e', he', rfl⟩ := List.mem_map.mp hp;exact pk_pc (hek e' (by simp [he'])) hN
  have ee := hek e (by simp);obtain ⟨c, rr, hc, hc1⟩ := num_head (m := e.2.natAbs) (by have := ee.x; omega);have hbd : (body (pc e) (es.map pc)).cps.toList = c :: (rr ++ (32 :: (frm e.1.toNat).cps.toList) ++ (rst es).cps.toList) := by
   rw [body_c2, tm_c, show (nmA e.2).cps.toList = c :: rr from hc]; rfl
  have h48 : (txt (pc e) (es.map pc)).cps.toList ≠ [48] := fun h => by
   have hm : 32 ∈ (txt (pc e) (es.map pc)).cps.toList := by
    unfold txt;split
    ·rw [hbd]; simp
    ·rw [add_cps, hbd]; simp
   rw [h] at hm;simp at hm
  rw [row_t f.nn (R := fun q => match t_read_term ((n : Int), q.1, q.2, ()) with | some x => x.1 | none => []) hp hps (by rw [List.length_map]; simp only [List.length_cons] at hlen; omega) ⟨c, _, hbd, by omega⟩ h48 (fun q hq => by
   rw [<- List.map_cons] at hq;obtain ⟨e', he', rfl⟩ := List.mem_map.mp hq;have e2 := hek e' he';have rt := read_term_t f e2;refine ⟨by rw [rt], ?_⟩;show (match t_read_term ((n : Int), (pc e').1, (pc e').2, ()) with | some x => x.1 | none => []).length = N;rw [rt];show ((unit N e'.1.toNat).map _).length = N;rw [List.length_map, unit_len (by have := e2.g; omega)])]
  rw [<- List.map_cons, List.foldl_map];have : (e :: es).foldl (fun c q => addR c (match t_read_term ((n : Int), (pc q).1, (pc q).2, ()) with | some x => x.1 | none => [])) (List.replicate N 0) = row := by
   rw [<- sm];refine foldl_eq fun c q hq => ?_
   rw [read_term_t f (hek q hq)];rfl
  rw [this]
noncomputable def Bd {S ρ : Type} (o : Option (TR S ρ)) (P : S -> Prop) : Prop := ∃ s1, o = some (.nx s1) /\ P s1
theorem Bd.seqE {S ρ : Type} {f g : S -> Option (TR S ρ)} {s s1 : S} {P : S -> Prop} (e : f s = some (.nx s1)) (h2 : Bd (g s1) P) : Bd (TT.tSeq f g s) P := by
 unfold TT.tSeq;rw [e]; exact h2
theorem isi1 : isiT "list" "list" = some true := by decide +kernel
theorem isi2 : isiT "int" "bool" = some false := by decide +kernel
theorem isi3 : isiT "int" "int" = some true := by decide +kernel
theorem isi4 : isiT "str" "str" = some true := by decide +kernel
theorem rng_get0 {n k : Int} {j : Nat} (h : (rng 0 n)[j]? = some k) : k = (j : Int) /\ (j : Int) < n := by
 unfold rng at h;rw [List.getElem?_map] at h;rcases h2 : (List.range (n - 0).toNat)[j]? with _ | i
 ·rw [h2] at h; cases h
 ·rw [h2] at h
  obtain ⟨hi, e⟩ := List.getElem?_eq_some_iff.mp h2;rw [List.getElem_range] at e;rw [List.length_range] at hi;simp only [map_some, Option.some.injEq] at h;omega
theorem ok_eqI {a b : List Int} : (Py.ok (TT.rM rI) a && Py.ok (rL rI) b && decide (min (Py.k (TT.rM rI)) (Py.k (rL rI)) <= 50)) = true := by
 have h1 : ∀ a : List Int, Py.ok (TT.rM rI) a = true := fun a => List.all_eq_true.mpr fun _ _ => rfl
 have h2 : ∀ a : List Int, Py.ok (rL rI) a = true := fun a => List.all_eq_true.mpr fun _ _ => rfl
 rw [h1, h2]; rfl
theorem okLL {a b : List Int} : (Py.ok (rL rI) a && Py.ok (rL rI) b && decide (min (Py.k (rL rI)) (Py.k (rL rI)) <= 50)) = true := ok_eqI
theorem okLM {a b : List Int} : (Py.ok (rL rI) a && Py.ok (TT.rM rI) b && decide (min (Py.k (rL rI)) (Py.k (TT.rM rI)) <= 50)) = true := ok_eqI
theorem okMM {a b : List Int} : (Py.ok (TT.rM rI) a && Py.ok (TT.rM rI) b && decide (min (Py.k (TT.rM rI)) (Py.k (TT.rM rI)) <= 50)) = true := ok_eqI
theorem eqs (v : List Int) : eqL (fun a b : Int => a == b) v v = true := eqL_self (fun a => by simp) v
theorem same_t {v : List Int} (hl : v.length <= 1000) : t_lsame (v, v, ()) = some (true, v, v, ()) := by
 have h0 : szC ([] : List Int).length = true := szc (by simp);unfold t_lsame T_lsame;simp only [TT.tSeq, bind_some, map_some, isi1, Bool.not_true, Bool.false_eq_true, if_false, ift okLM, eqs];rw [ift (szc hl), lc_filter (f := fun x => x) (p := fun _ => false) (fun x _ => by simp only [isi2, isi3, map_some, bind_some, Bool.false_eq_true, if_false]; rfl) (fun x _ h => by cases h)];have e : (v.filter fun _ => false).map (fun x => x) = [] := by simp
 simp only [e, bind_some, if_true, map_some, ift h0, ift okLL];rfl
theorem rng1_get {q k : Int} {j : Nat} (h : (rng 1 q)[j]? = some k) : k = ((j + 1 : Nat) : Int) /\ k < q := by
 unfold rng at h;rw [List.getElem?_map] at h;rcases h2 : (List.range (q - 1).toNat)[j]? with _ | i
 ·rw [h2] at h; cases h
 ·rw [h2] at h
  obtain ⟨hi, e⟩ := List.getElem?_eq_some_iff.mp h2;rw [List.getElem_range] at e;rw [List.length_range] at hi;simp only [map_some, Option.some.injEq] at h;omega
theorem rng1_len (q : Int) : (rng 1 q).length = (q - 1).toNat := by simp [rng]
theorem row_law {n : Nat} (hn : 1 <= n /\ n <= 4) (ns : List Int) (st : Nat) : ∃ row, t_lrow (ns, (st : Int), (n : Int), ()) = some (row, ns, (st : Int), (n : Int), ()) /\ Rk (2 ^ n - 1) row := by
 have h0 : szC ([] : List Int).length = true := szc (by simp);have hN : 2 ^ n <= 2 ^ 4 := Nat.pow_le_pow_right dC hn.2;have hP : 1 <= 2 ^ n := Nat.pos_of_ne_zero (by simp);have ep : (1 : Int) * 2 ^ (n : Int).toNat = ((2 ^ n : Nat) : Int) := by rw [Int.toNat_natCast, Int.one_mul]; simp
 have hd : decide ((0 : Int) <= (n : Int) /\ (n : Int) <= 1000000 /\ Int.natAbs 1 < 2 ^ 64) = true := decide_eq_true ⟨by omega, by omega, by decide⟩;have hr : (rokC 1 && rokC ((2 ^ n : Nat) : Int)) = true := by rw [rok oM oM, rok oM oM]; rfl
 unfold t_lrow T_lrow;simp only [TT.tSeq, bind_some, map_some, ift h0, ift hd, ep, ift hr];refine loop_b2 (S := S_lrow) (P := fun s => s.yscript = ns /\ s.ystart = (st : Int) /\ s.yn = (n : Int) /\ Rk (2 ^ n - 1) s.yrow_here) (fun o => ∃ row, o = some (row, ns, (st : Int), (n : Int), ()) /\ Rk (2 ^ n - 1) row) ?_ ?_
 ·refine loop_ixP (S := S_lrow) (fun k s => s.yscript = ns /\ s.ystart = (st : Int) /\ s.yn = (n : Int) /\ Rk k s.yrow_here) ⟨rfl, rfl, rfl, ⟨rfl, fun x hx => by cases hx⟩⟩ ?_ (fun s q => ⟨q.1, q.2.1, q.2.2.1, by have := q.2.2.2; rw [rng1_len] at this; rw [show 2 ^ n - 1 = (((2 ^ n : Nat) : Int) - 1).toNat by omega]; exact this⟩)
  rintro j ⟨x1, x2, x3, x4, x5, x6⟩ g hg ⟨f1, f2, f3, f4⟩;dsimp only at f1 f2 f3 f4;subst f1; subst f2; subst f3;obtain ⟨rfl, hgl⟩ := rng1_get hg;obtain ⟨p, ep, lp⟩ := pile_t x1 (st + (j + 1));rw [show ((st + (j + 1) : Nat) : Int) = (st : Int) + ((j + 1 : Nat) : Int) by omega] at ep;obtain ⟨v, p2, en, lp2, hv⟩ := number_t lp;obtain ⟨d, p3, ed, lp3, d0, d1⟩ := take_t lp2 (m := 3) oM;show Bd _ _;refine Bd.seqE (by simp only [ep, map_some]; rfl) ?_;simp only [en, ed, map_some, bind_some];rw [ift (mulc (by split <;> omega))];simp only [map_some, bind_some];have hl4 := f4.l;rw [ift (ltc oM)];refine ⟨_, rfl, rfl, rfl, rfl, ⟨by show (x4 ++ [_]).length = j + 1; rw [List.length_append, hl4]; rfl, ?_⟩⟩;intro x hx;have hx' : x ∈ x4 ++ [v * (if decide (0 < d) = true then 1 else 0)] := hx;rcases List.mem_append.mp hx' with hx' | hx'
  ·exact f4.b x hx'
  ·rw [List.mem_singleton.mp hx']
   split
   ·rw [Int.mul_one]; exact hv
   ·rw [Int.mul_zero]; decide
 ·rintro ⟨x1, x2, x3, x4, x5, x6⟩ ⟨f1, f2, f3, f4⟩
  dsimp only at f1 f2 f3 f4;subst f1; subst f2; subst f3;exact ⟨x4, rfl, f4⟩
theorem shown_ok {N : Nat} (hN : N <= 15) {row : List Int} (r : Rk N row) : ∀ c ∈ (shown row).cps.toList, c < 1114112 := fun c hc => by
 unfold shown at hc;split at hc
 ·exact lit1 cNu dC c hc
 ·have := shw_ok hN (nz_ek r) c hc; omega
theorem right_t {n N : Nat} (f : Fk n N) {row : List Int} (r : Rk N row) : t_lright ((n : Int), row, ()) = some (true, (n : Int), row, ()) := by
 have hN := f.nn.l;have hl := r.l;have r2 : rokC 2 = true := rok oM oM;have o1 : (Py.ok TT.rS (shown row) && Py.ok TT.rS (shown row) && decide (min (Py.k TT.rS) (Py.k TT.rS) <= 50)) = true := okSS (shown_ok hN r) (shown_ok hN r);unfold t_lright T_lright;simp only [TT.tSeq, bind_some, map_some];simp only [show_row_t hN r, law_shown_t hN r, bind_some, map_some, isi4, Bool.not_true, Bool.false_eq_true, if_false, ift o1, beq_self_eq_true, ift okMM, eqs, ift r2];refine loop_b2 (S := S_lright) (P := fun s => s.yn = (n : Int) /\ s.yrow_here = row /\ s.ytext = shown row) (fun o => o = some (true, (n : Int), row, ())) ?_ ?_
 ·refine loop_inv (S := S_lright) (I := fun s => s.yn = (n : Int) /\ s.yrow_here = row /\ s.ytext = shown row) ?_ ⟨rfl, rfl, rfl⟩
  rintro ⟨x1, x2, x3, x4, x5, x6⟩ y hy ⟨f1, f2, f3⟩;dsimp only at f1 f2 f3;subst f1; subst f2; subst f3;show Bd _ _;refine Bd.seqE (by simp only [read_back f r, map_some]; rfl) ?_;refine Bd.seqE (by simp only [same_t (v := x2) oM, map_some, bind_some, Bool.not_true, Bool.false_eq_true, if_false]; rfl) ?_;exact ⟨_, rfl, rfl, rfl, rfl⟩
 ·rintro ⟨x1, x2, x3, x4, x5, x6⟩ ⟨f1, f2, _⟩
  dsimp only at f1 f2;subst f1; subst f2;rfl
theorem rk0 (N : Nat) : Rk N (List.replicate N 0) := ⟨List.length_replicate, fun x hx => by rw [List.eq_of_mem_replicate hx]; decide⟩
theorem law_t (ns : List Int) (hl : ns.length <= 63) : ∃ q, t_law (ns, ()) = some (true, q) := by
 have r4' : rokC 4 = true := rok oM oM;unfold t_law T_law;simp only [TT.tSeq, bind_some, map_some, ift r4'];refine loop_b2 (S := S_law) (P := fun s => s.yscript = ns) (fun o => ∃ q, o = some (true, q)) ?_ ?_
 ·refine loop_ixP (S := S_law) (fun j s => s.yscript = ns) rfl ?_ (fun s q => q)
  rintro j ⟨a1, a2, a3, a4⟩ x hx hi;dsimp only at hi;subst hi;obtain ⟨rfl, hj⟩ := rng_get0 hx;have hm : mulN 16 (j : Int) = true := mulc oM;obtain ⟨p, ep, lp⟩ := pile_t a1 (16 * j);rw [show ((16 * j : Nat) : Int) = 16 * (j : Int) by omega] at ep;obtain ⟨d, p2, ed, lp2, d0, d1⟩ := take_t lp (m := 4) oM;obtain ⟨n, hn⟩ : ∃ n : Nat, 1 + d = (n : Int) := ⟨(1 + d).toNat, by omega⟩;have hn4 : 1 <= n /\ n <= 4 := by omega
  obtain ⟨row, er, rk⟩ := row_law hn4 a1 (16 * j);rw [show ((16 * j : Nat) : Int) = 16 * (j : Int) by omega] at er;have f := fk_of hn4;have hN := f.nn.l;have rl := rk.l;show Bd _ _;refine Bd.seqE (by simp only [ift hm, ep, ed, hn, map_some, bind_some]; rfl) ?_;refine Bd.seqE (by simp only [ift hm, er, map_some, bind_some]; rfl) ?_;have rp : repC ([0] : List Int).length (row.length : Int) = true := rep15 oM;have er0 : (List.replicate (row.length : Int).toNat ([0] : List Int)).flatten = List.replicate (2 ^ n - 1) 0 := by rw [Int.toNat_natCast, flat0, rl]
  simp only [right_t f rk, map_some, bind_some, Bool.not_true, Bool.false_eq_true, if_false, ift sz0, ift rp, er0, right_t f (rk0 (2 ^ n - 1))];exact ⟨_, rfl, rfl⟩
 ·rintro ⟨a1, a2, a3, a4⟩ hs
  exact ⟨_, rfl⟩
theorem holds : ∀ ns : List Int, ns.length <= 63 -> ∃ d, g_law [.lst false (ns.map D.int)] = some (.bl true, [d]) := holds_of j_law law_t
end LW
open PySem PySem.W PyProof.Rows
set_option maxRecDepth 100000 in
set_option maxHeartbeats 0 in
theorem PySem.Challenge.cw_telltight_k73_rows_as_texts_holds : PySem.Challenge.rw_telltight_k73_rows_as_texts.Holds := by
 w_on; o_law; k_head; (case hw => w_witness2)
 k_fill
 refine LW.walk (l := PySem.Challenge.rw_telltight_k73_rows_as_texts) rfl rfl (fun w h Y => kIn_of Y) LW.holds ?F
 case F =>
  intro w mg fa h KX G hmg;refine' LW.all_mk KX G hmg ?a0 ?l0 ?c0 ?k0 ?a1 ?l1 ?c1 ?k1 ?a2 ?l2 ?c2 ?k2 ?a3 ?l3 ?c3 ?k3 ?a4 ?l4 ?c4 ?k4 ?a5 ?l5 ?c5 ?k5 ?a6 ?l6 ?c6 ?k6 ?a7 ?l7 ?c7 ?k7 ?a8 ?l8 ?c8 ?k8 ?a9 ?l9 ?c9 ?k9 ?a10 ?l10 ?c10 ?k10 ?a11 ?l11 ?c11 ?k11 ?a12 ?l12 ?c12 ?k12 ?a13 ?l13 ?c13 ?k13 ?a14 ?l14 ?c14 ?k14 ?a15 ?l15 ?c15 ?k15 ?a16 ?l16 ?c16 ?k16 ?a17 ?l17 ?c17 ?k17 ?a18 ?l18 ?c18 ?k18 ?a19 ?l19 ?c19 ?k19 ?a20 ?l20 ?c20 ?k20 ?a21 ?l21 ?c21 ?k21 ?a22 ?l22 ?c22 ?k22 ?a23 ?l23 ?c23 ?k23 ?a24 ?l24 ?c24 ?k24 ?a25 ?l25 ?c25 ?k25 ?a26 ?l26 ?c26 ?k26 ?a27 ?l27 ?c27 ?k27 ?a28 ?l28 ?c28 ?k28 ?a29 ?l29 ?c29 ?k29 ?a30 ?l30 ?c30 ?k30 ?z_abs ?z_all ?z_bool ?z_enumerate ?z_int ?z_isinstance ?z_len ?z_list ?z_range ?z_str ?z_zip ?v_FIGURES ?v_LETTERS ?v_MOST_FIGURES ?v_MOST_NAMES
  case a0|a1|a2|a3|a4|a5|a6|a7|a8|a9|a10|a11|a12|a13|a14|a15|a16|a17|a18|a19|a20|a21|a22|a23|a24|a25|a26|a27|a28|a29|a30 => delta LW.NSq; k_is
  case l0|l1|l2|l3|l4|l5|l6|l7|l8|l9|l10|l11|l12|l13|l14|l15|l16|l17|l18|l19|l20|l21|l22|l23|l24|l25|l26|l27|l28|l29|l30 => delta LW.LKq LW.Fdq; k_is
  case c0|c1|c2|c3|c4|c5|c6|c7|c8|c9|c10|c11|c12|c13|c14|c15|c16|c17|c18|c19|c20|c21|c22|c23|c24|c25|c26|c27|c28|c29|c30 => delta LW.CIq; k_is
  case k0|k1|k2|k3|k4|k5|k6|k7|k8|k9|k10|k11|k12|k13|k14|k15|k16|k17|k18|k19|k20|k21|k22|k23|k24|k25|k26|k27|k28|k29|k30 => delta LW.KIq; k_is
  case z_abs|z_all|z_bool|z_enumerate|z_int|z_isinstance|z_len|z_list|z_range|z_str|z_zip|v_FIGURES|v_LETTERS|v_MOST_FIGURES|v_MOST_NAMES => k_is
#print axioms PySem.Challenge.cw_telltight_k73_rows_as_texts_holds
